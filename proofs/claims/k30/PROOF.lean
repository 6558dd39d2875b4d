import PyProof.Rows.All
import Wide.All
import OpenK.AllK
import Wide.FinOn
import Lean
import PyProof.EqAt
import PyProof.EqKinds
import PyProof.TupleCall
import PyProof.NeKinds
import PyProof.IsiTupleOf
import PyProof.IsiHeapPairs
import PyProof.IsiPairs
import PyProof.ConsumeWalk
import PyProof.Rows.SumAny
import PyProof.FitsBits
import PyProof.Rows.SeqMore
import PyProof.ZipIter
import PyProof.TupleIter
import PyProof.LongRange
import PyProof.Rows.Range3
import PyProof.Rows.SortWalk
import PyProof.Rows.SortStr
import PyProof.StrWalks
import PyProof.DictRoads
import PyProof.MeetsStr
import PyProof.Rows.StrNews2
import PyProof.StrLawsIn
import PyProof.StrLaws
import PyProof.Rows.CatFin
import PyProof.Rows.StrClose5
import PyProof.SetKind
import PyProof.CollectWalk
import PyProof.Seq
import PyProof.ForAny
import PyProof.MakeMany
import PyProof.DictKinds
import PyProof.Rows.StrInSeq
import PyProof.WalkLemmas
import PyProof.Rows.SortShell
import PyProof.Rows.SetFrom
import PyProof.StrOps2
import PyProof.ReprNest
import PyProof.CallFns
import PyProof.StrLawsRepr
import PyProof.FString5
import OpenK.KOwn
import KE.KIsAll
import PyProof.ExcArgsOwn
import KE.RegKIsAll
import PyProof.DictIter
import PyProof.DictItems
import PyProof.DictItemsLoops
import PyProof.DictWalks
import KE.KDictList
import KE.KMinKey
import PyProof.ListRange
import PyProof.Rows.CallKwBuiltin
import KE.KDictOf
import PyProof.AttrMissHeap
import PyProof.EnumMake
import PyProof.EnumFor
import PyProof.Rows.RuleB_bool
import KE.KEqDict
import PyProof.StrCalls6
import PyProof.StrLawsReplace
import PyProof.Rows.FStr
import PyProof.Rows.StrJoin2
import PyProof.WalksMore
import PyProof.TupleOfStr
import KE.KUnpack
import PyProof.MaxThree
import KE.KSortTup
import PySem.Challenge.RW_leastform_k30_parts_of_forms
set_option Elab.async false
set_option linter.all false
set_option maxRecDepth 100000
set_option maxHeartbeats 4000000
namespace L2
open PySem PySem.Spec PyProof.Rows
abbrev Key:=Sum Int Str
def iY:Key->Value->Bool
 |.inl k,v=>Value.isInt k v
 |.inr x,v=>Value.isStrOf x v
def zLb(w:World):Key->Int
 |.inl k=>hashInt k
 |.inr x=>hashStr w x
theorem fS:∀{k:Key}{v:Value},iY k v=true->(∃i t,k=Sum.inl i/\v=Value.int i t)\/(∃x t,k=Sum.inr x/\v=Value.str x t)
 |.inl i,v,h=>by
  obtain⟨t,e⟩:=Value.isInt_shape (k:=i) (v:=v) h
  exact .inl ⟨i,t,rfl,e⟩
 |.inr x,v,h=>by
  obtain⟨t,e⟩:=Value.isStrOf_shape (x:=x) (v:=v) h
  exact .inr ⟨x,t,rfl,e⟩
theorem zEY(i:Int)(t:Tok):iY (.inl i) (.int i t)=true:=by simp[iY,Value.isInt]
theorem zEX(x:Str)(t:Tok):iY (.inr x) (.str x t)=true:=by simp[iY,Value.isStrOf]
theorem zI5(a b:Int):decide ((Sum.inl a:Key)=Sum.inl b)=(a==b):=by
 by_cases e:a=b
 ·subst e;simp
 ·have h:¬ (Sum.inl a:Key)=Sum.inl b:=λq=>e (Sum.inl.inj q)
  rw[decide_eq_false h]
  exact(beq_eq_false_iff_ne.mpr e).symm
theorem zI2(a b:Str):decide ((Sum.inr a:Key)=Sum.inr b)=decide (a=b):=by
 by_cases e:a=b
 ·subst e;simp
 ·have h:¬ (Sum.inr a:Key)=Sum.inr b:=λq=>e (Sum.inr.inj q)
  rw[decide_eq_false h,decide_eq_false e]
theorem zI4(a:Int)(b:Str):decide ((Sum.inl a:Key)=Sum.inr b)=false:=decide_eq_false (λq=>nomatch q)
theorem zI3(a:Str)(b:Int):decide ((Sum.inr a:Key)=Sum.inl b)=false:=decide_eq_false (λq=>nomatch q)
def bW(prog:Program)(w:World):PySem.KeyKind prog w Key where
 is:=iY
 hash:=zLb w
 inj:=λv a b ha hb=>by
  rcases fS ha with⟨i,t,rfl,rfl⟩|⟨x,t,rfl,rfl⟩
  ·rcases fS hb with⟨j,u,rfl,e⟩|⟨y,u,rfl,e⟩
   ·injection e with e1 _;rw[e1]
   ·exact nomatch e
  ·rcases fS hb with⟨j,u,rfl,e⟩|⟨y,u,rfl,e⟩
   ·exact nomatch e
   ·injection e with e1 _;rw[e1]
 byValue:=λk v h=>by
  rcases fS h with⟨i,t,rfl,rfl⟩|⟨x,t,rfl,rfl⟩<;>rfl
 pyHash:=λhv h=>by
  rcases fS hv with⟨i,t,rfl,rfl⟩|⟨x,t,rfl,rfl⟩
  ·exact wpAny_pyHash_int h
  ·exact wpAny_pyHash_str h
 eqBool:=λhu hv h=>by
  rcases fS hu with⟨i,t,rfl,rfl⟩|⟨x,t,rfl,rfl⟩
  ·rcases fS hv with⟨j,u,rfl,rfl⟩|⟨y,u,rfl,rfl⟩
   ·rw[zI5]at h;exact wpAny_eqBool_int h
   ·rw[zI4]at h;exact SeqAt.EqAt.int_str i t y u _ _ _ _ h
  ·rcases fS hv with⟨j,u,rfl,rfl⟩|⟨y,u,rfl,rfl⟩
   ·rw[zI3]at h;exact SeqAt.EqAt.str_int x t j u _ _ _ _ h
   ·rw[zI2]at h;exact wpAny_eqBool_str h
 «strs»:=λk x t v h=>by
  rcases fS h with⟨i,u,rfl,e⟩|⟨y,u,rfl,e⟩
  ·exact nomatch e
  ·injection e with e1 _
   subst e1
   cases v<;>rfl
theorem zDy(prog:Program)(w:World)(i:Int)(t:Tok):(bW prog w).is (.inl i) (.int i t)=true:=zEY i t
theorem pI(prog:Program)(w:World)(x:Str)(t:Tok):(bW prog w).is (.inr x) (.str x t)=true:=zEX x t
end L2
namespace L2
open PySem PySem.Spec PyProof.Rows
inductive V where
 |non|bl (b:Bool)|int (i:Int)|str (x:Str)|byt (b:Array UInt8)|flt (b:UInt64)|ref (a:Addr)|ty (n:String)
 deriving DecidableEq
def RelV:V->Value->Prop
 |.non,u=>u=Value.none
 |.bl b,u=>u=Value.bool b
 |.int i,u=>∃t,u=Value.int i t
 |.str x,u=>∃t,u=Value.str x t
 |.byt b,u=>∃t,u=Value.bytes b t
 |.flt b,u=>∃t,u=Value.float b t
 |.ref a,u=>u=Value.ref a
 |.ty n,u=>u=Value.type n
abbrev Vals:List V->List Value->Prop:=Paired RelV
theorem Vals.length{xs:List V}{us:List Value}(r:Vals xs us):xs.length=us.length:=Paired.length r
theorem Vals.get:∀{xs:List V}{us:List Value}{i:Nat}{x:V},Vals xs us->xs[i]?=some x->∃u,us[i]?=some u/\RelV x u
 |_,_,_,_,.nil,e=>by simp at e
 |_,_,0,_,.cons r _,e=>by simp at e;subst e;exact⟨_,rfl,r⟩
 |_,_,i+1,x,.cons _ t,e=>by
  obtain⟨u,h1,h2⟩:=Vals.get (i:=i) (x:=x) t (by simpa using e)
  exact⟨u,by simpa using h1,h2⟩
theorem Vals.set{x:V}{u:Value}(r:RelV x u):∀{xs:List V}{us:List Value}(i:Nat),Vals xs us->Vals (xs.set i x) (us.set i u)
 |_,_,_,.nil=>.nil
 |_,_,0,.cons _ t=>.cons r t
 |_,_,i+1,.cons q t=>.cons q (Vals.set r i t)
theorem Vals.append:∀{xs ys:List V}{us ws:List Value},Vals xs us->Vals ys ws->Vals (xs++ys) (us++ws)
 |_,_,_,_,.nil,s=>s
 |_,_,_,_,.cons r t,s=>.cons r (Vals.append t s)
theorem Vals.take:∀{xs:List V}{us:List Value}(n:Nat),Vals xs us->Vals (xs.take n) (us.take n)
 |_,_,0,_=>.nil
 |_,_,_+1,.nil=>.nil
 |_,_,n+1,.cons r t=>.cons r (Vals.take n t)
theorem Vals.drop:∀{xs:List V}{us:List Value}(n:Nat),Vals xs us->Vals (xs.drop n) (us.drop n)
 |_,_,0,r=>r
 |_,_,_+1,.nil=>.nil
 |_,_,n+1,.cons _ t=>Vals.drop n t
def RelO:Option V->Option Value->Prop
 |some v,some u=>RelV v u
 |none,none=>True
 |_,_=>False
def KV{κ:Type}:List (κ×V)->List (κ×Value)->Prop:=Paired λ(p:κ×V) (q:κ×Value)=>p.1=q.1/\RelV p.2 q.2
def kV:Key->V
 |.inl i=>.int i
 |.inr x=>.str x
inductive HO where
 /-- a list -/
 |lst (xs:List V)
 /-- a tuple (never changes) -/
 |tup (xs:List V)
 /-- a dict whose keys are ints and texts; one whose keys are tuples of ints and texts (the empty one is both) -/
 |dK (kvs:List (Key×V))|dT (kvs:List (List Key×V))
 /-- a set of ints: its members, its size -/
 |set (S:Int->Bool) (n:Nat)
 /-- an instance of the class at C, its dict at dx, its attributes -/
 |ins (C dx:Addr) (fs:List (Str×V))
 /-- the dict of the instance at x -/
 |own (x:Addr)
 /-- the dict of an exception -/
 |xd (fs:List (Str×V))
 /-- a bound method, f of x -/
 |met (f x:Addr)
 /-- a range object lo, lo + 1, .. below hi -/
 |rng (lo hi:Int)
 /-- a thing that is known to the object (the script; a dict while a loop walks it): read, never written while it is so -/
 |frz (o:Obj) (u:HO)
 /-- a code object's table -/
 |tbl (ps:Array Value)
 /-- any other thing, by what is true of its one object (a def of one's own: SetO a S n := HO.ext fun h => ..) -/
 |ext (φ:Heap->Prop)
abbrev Hp:=Addr->Option HO
def upd(H:Hp)(a:Addr)(o:HO):Hp:=λb=>if b=a then some o else H b
theorem bE{H:Hp}{a:Addr}{o:HO}:upd H a o a=some o:=by unfold upd;rw[if_pos rfl]
theorem bF{H:Hp}{a b:Addr}{o:HO}(h:b≠a):upd H a o b=H b:=by unfold upd;rw[if_neg h]
theorem zJ9{H:Hp}{a b:Addr}{o u:HO}(h:H a=some o)(h':H b=some u)(d:o≠u):a≠b:=by
 intro e;subst e;rw[h]at h';exact d (Option.some.inj h')
theorem dR{H:Hp}{a b:Addr}{o:HO}(h:H a=some o)(h':H b=none):a≠b:=by
 intro e;subst e;rw[h]at h';cases h'
section
variable(P:Program)(w:World)
def ObjOk(H:Hp)(h:Heap)(a:Addr):HO->Prop
 |.lst xs=>xs.length<=sizeLine/\∃(its:List Value) (n:Nat),Vals xs its/\h.get? a=some {cls:=.type "list",data:=.seq its.toArray n}
 |.tup xs=>xs.length<=sizeLine/\∃its:List Value,Vals xs its/\IsTup h a its.toArray
 |.dK kvs=>kvs.length<=sizeLine/\(a==sysModules)=false/\∃vs,KV kvs vs/\h.DictOf (bW P w) a vs
 |.dT kvs=>kvs.length<=sizeLine/\(a==sysModules)=false/\∃xs:List (List Key×Addr×Value),
   Paired (λ(p:List Key×V) (q:List Key×Addr×Value)=>p.1=q.1/\H q.2.1=some (.tup (p.1.map kV))/\RelV p.2 q.2.2) kvs xs /\
   ∃o es ep,h.get? a=some o/\o.ExactDict/\o.data=.dict es ep/\es.toList=xs.map (entryOfKey (tupleKind (bW P w)))/\(xs.map (·.1)).Nodup
 |.set S n=>h.SetOf (intKind P w) a S n
 |.ins C dx fs=>H dx=some (.own a)/\fs.length<=1000/\dx≠a/\h.get? a=some (PySem.W.instObj C dx) /\
   ∃mA,h.Ns1 dx mA/\(∀f,RelO (fs.lookup f) (mA f))/\PySem.Within mA (fs.map (·.1))
 |.own _=>∃o,h.get? a=some o
 |.xd fs=>∃mA,h.Ns1 a mA/\∀f,RelO (fs.lookup f) (mA f)
 |.rng lo hi=>∃t u v,h.get? a=some {cls:=.type "range",data:=.fields #[.int lo t,.int hi u,.int 1 v]}
 |.frz o u=>h.get? a=some o/\ObjOk H h a u
 |.tbl ps=>h.get? a=some {cls:=.none,data:=.fields ps}
 |.met f x=>h.get? a=some (PySem.W.methodObj (.ref f) (.ref x))
 |.ext φ=>φ h/\(∃o,h.get? a=some o)/\∀h1 h2:Heap,φ h1->(∀o,h1.get? a=some o->h2.get? a=some o)->φ h2
def HOk(H:Hp)(h:Heap):Prop:=∀a o,H a=some o->ObjOk P w H h a o
end
section
variable{P:Program}{w:World}{H H':Hp}{h h':Heap}{a:Addr}{o:HO}
theorem ObjOk.lt(x:ObjOk P w H h a o):a<h.objs.size:=by
 cases o with
 |lst xs=>obtain⟨_,_,_,_,e⟩:=x;exact Heap.lt_size e
 |tup xs=>obtain⟨_,_,_,p⟩:=x;exact p.lt
 |dK kvs=>obtain⟨_,_,_,_,o,_,_,e,_⟩:=x;exact Heap.lt_size e
 |dT kvs=>obtain⟨_,_,_,_,o,_,_,e,_⟩:=x;exact Heap.lt_size e
 |set S n=>obtain⟨o,_,_,_,e,_⟩:=x;exact Heap.lt_size e
 |ins C dx fs=>obtain⟨_,_,_,e,_⟩:=x;exact Heap.lt_size e
 |own y=>obtain⟨_,e⟩:=x;exact Heap.lt_size e
 |xd fs=>obtain⟨_,⟨_,_,_,e,_⟩,_⟩:=x;exact Heap.lt_size e
 |rng lo hi=>obtain⟨_,_,_,e⟩:=x;exact Heap.lt_size e
 |frz ob u=>obtain⟨e,_⟩:=x;exact Heap.lt_size e
 |tbl ps=>exact Heap.lt_size (show h.get? a=some _ from x)
 |met f y=>exact Heap.lt_size (show h.get? a=some _ from x)
 |ext φ=>obtain⟨_,⟨_,e⟩,_⟩:=x;exact Heap.lt_size e
theorem Paired.mapP{α β:Type}{F G:α->β->Prop}:∀{l₁:List α}{l₂:List β},Paired F l₁ l₂->(∀a b,F a b->G a b)->Paired G l₁ l₂
 |_,_,.nil,_=>.nil
 |_,_,.cons r t,f=>.cons (f _ _ r) (Paired.mapP t f)
theorem ObjOk.stay(x:ObjOk P w H h a o)(k:∀b u,(b=a\/H b=some (.own a))->h.get? b=some u->h'.get? b=some u)
  (ho:∀b,H b=some (.own a)->H' b=some (.own a)) (ht:∀b xs,H b=some (.tup xs)->H' b=some (.tup xs)):ObjOk P w H' h' a o:=by
 induction o with
 |lst xs=>obtain⟨z,its,n,r,e⟩:=x;exact⟨z,its,n,r,k _ _ (.inl rfl) e⟩
 |tup xs=>obtain⟨z,its,r,ob,e,c⟩:=x;exact⟨z,its,r,ob,k _ _ (.inl rfl) e,c⟩
 |dK kvs=>obtain⟨z,y,vs,r,ob,es,ep,e,c⟩:=x;exact⟨z,y,vs,r,ob,es,ep,k _ _ (.inl rfl) e,c⟩
 |dT kvs=>
  obtain⟨z,y,xs,r,ob,es,ep,e,c⟩:=x
  exact⟨z,y,xs,Paired.mapP r λp q z=>⟨z.1,ht _ _ z.2.1,z.2.2⟩,ob,es,ep,k _ _ (.inl rfl) e,c⟩
 |set S n=>obtain⟨ob,es,ep,t,e,c⟩:=x;exact⟨ob,es,ep,t,k _ _ (.inl rfl) e,c⟩
 |ins C dx fs=>
  obtain⟨d,z,ne,e,mA,⟨od,es,ep,e2,c⟩,r⟩:=x
  exact⟨ho _ d,z,ne,k _ _ (.inl rfl) e,mA,⟨od,es,ep,k _ _ (.inr d) e2,c⟩,r⟩
 |own y=>obtain⟨ob,e⟩:=x;exact⟨ob,k _ _ (.inl rfl) e⟩
 |xd fs=>obtain⟨mA,⟨od,es,ep,e,c⟩,r⟩:=x;exact⟨mA,⟨od,es,ep,k _ _ (.inl rfl) e,c⟩,r⟩
 |rng lo hi=>obtain⟨t,u,v,e⟩:=x;exact⟨t,u,v,k _ _ (.inl rfl) e⟩
 |frz ob u ih=>obtain⟨e,q⟩:=x;exact⟨k _ _ (.inl rfl) e,ih q⟩
 |tbl ps=>
  have e:h.get? a=some {cls:=.none,data:=.fields ps}:=x
  show h'.get? a=some {cls:=.none,data:=.fields ps}
  exact k a _ (.inl rfl) e
 |met f y=>
  have e:h.get? a=some (PySem.W.methodObj (.ref f) (.ref y)):=x
  show h'.get? a=some (PySem.W.methodObj (.ref f) (.ref y))
  exact k a _ (.inl rfl) e
 |ext φ=>obtain⟨p,⟨o,e⟩,st⟩:=x;exact⟨st _ _ p λo q=>k _ _ (.inl rfl) q,⟨o,k _ _ (.inl rfl) e⟩,st⟩
theorem HOk.lt(x:HOk P w H h)(e:H a=some o):a<h.objs.size:=(x a o e).lt
theorem HOk.fresh(x:HOk P w H h)(e:h.objs.size<=a):H a=none:=by
 cases q:H a with
 |none=>rfl
 |some u=>exact absurd (Nat.lt_of_lt_of_le (x.lt q) e) (Nat.lt_irrefl _)
theorem HOk.kept(x:HOk P w H h)(k:∀b u,h.get? b=some u->h'.get? b=some u):HOk P w H h':=λa o e=>
 (x a o e).stay (λb u _ q=>k b u q) (λ_ q=>q) λ_ _ q=>q
theorem HOk.laid(x:HOk P w H h)(k:∀b u,h.get? b=some u->h'.get? b=some u)(hp:h.objs.size<=a)(new:ObjOk P w (upd H a o) h' a o):HOk P w (upd H a o) h':=λb u e=>by
 have hn:=x.fresh hp
 by_cases hb:b=a
 ·subst hb;rw[bE]at e;cases e;exact new
 ·rw[bF hb]at e
  exact(x b u e).stay (λc v _ q=>k c v q) (λc q=>by rw[bF (dR q hn)];exact q) λc xs q=>by rw[bF (dR q hn)];exact q
end
def Rd(H:Hp)(a:Addr)(u:HO):Prop:=H a=some u\/∃o,H a=some (.frz o u)
theorem Rd.ok{P:Program}{w:World}{H:Hp}{h:Heap}{a:Addr}{u:HO}(r:Rd H a u)(x:HOk P w H h):ObjOk P w H h a u:=by
 rcases r with r|⟨o,r⟩
 ·exact x a u r
 ·obtain⟨_,q⟩:=x a _ r
  exact q
def Mut:Option HO->Prop
 |some (.lst _)=>True
 |some (.dK _)=>True
 |some (.dT _)=>True
 |some (.set _ _)=>True
 |some (.ins _ _ _)=>True
 |some (.ext _)=>True
 |_=>False
section
variable{P:Program}{w:World}{H:Hp}{h h':Heap}{x e:Addr}{o':HO}
theorem HOk.write(ok:HOk P w H h)(mu:Mut (H x))(he:e=x\/H e=some (.own x))(k:∀b u,b≠e->h.get? b=some u->h'.get? b=some u)(heo:∃u,h'.get? e=some u)
  (new:ObjOk P w (upd H x o') h' x o'):HOk P w (upd H x o') h':=λb u q=>by
 have nown:∀c y,H c=some (.own y)->c≠x:=λc y r z=>by subst z;rw[r]at mu;exact mu
 have ntup:∀c xs,H c=some (.tup xs)->c≠x:=λc xs r z=>by subst z;rw[r]at mu;exact mu
 by_cases hb:b=x
 ·subst hb;rw[bE]at q;cases q;exact new
 ·rw[bF hb]at q
  by_cases hbe:b=e
  ·have q':H b=some (.own x):=by
    rcases he with z|z
    ·exact absurd (hbe.trans z) hb
    ·rw[hbe];exact z
   rw[q]at q';cases q'
   obtain⟨v,hv⟩:=heo
   exact⟨v,by rw[hbe];exact hv⟩
  ·refine(ok b u q).stay (λc v hc r=>k c v ?_ r) (λc r=>by rw[bF (nown c b r)];exact r) λc xs r=>by rw[bF (ntup c xs r)];exact r
   rcases hc with rfl|hc
   ·exact hbe
   ·rintro rfl
    rcases he with z|z
    ·exact nown c b hc z
    ·rw[hc]at z;cases z;exact hb rfl
end
structure Un (fs ex:List Addr) (H H':Hp) (h h':Heap):Prop where
 keep:∀b o,h.get? b=some o->H b=none->b∉fs->b∉ex->h'.get? b=some o
 slot:∀b o,h.get? b=some o->H b=none->b∈fs->b∉ex->∃sl,h'.get? b=some {o with slots:=sl}
 free:∀b o,h.get? b=some o->H b=none->b∉ex->H' b=none
 there:∀b o,h.get? b=some o->b∉ex->∃o',h'.get? b=some o'
 tups:∀b xs,H b=some (.tup xs)->H' b=some (.tup xs)
 frzs:∀b o u,H b=some (.frz o u)->H' b=some (.frz o u)
 tbls:∀b ps,H b=some (.tbl ps)->∃more,H' b=some (.tbl (ps++more))
section
variable{fs fs' ex ex':List Addr}{H H1 H2:Hp}{h h1 h2 h':Heap}{a x e:Addr}{o:HO}
theorem Un.any(u:Un fs ex H H1 h h1){b:Addr}{ob:Obj}(q:h.get? b=some ob)(n:H b=none)(hx:b∉ex):∃sl,h1.get? b=some {ob with slots:=sl}:=by
 by_cases hb:b∈fs
 ·exact u.slot b ob q n hb hx
 ·exact⟨ob.slots,u.keep b ob q n hb hx⟩
theorem Un.kept(k:∀b u,h.get? b=some u->h'.get? b=some u):Un fs ex H H h h':=
 ⟨λb ob q _ _ _=>k b ob q,λb ob q _ _ _=>⟨ob.slots,k b ob q⟩,λ_ _ _ n _=>n,λb ob q _=>⟨ob,k b ob q⟩,λ_ _ q=>q,λ_ _ _ q=>q,λ_ ps q=>⟨#[],by rw[q];simp⟩⟩
theorem Un.refl:Un fs ex H H h h:=Un.kept λ_ _ q=>q
theorem Un.laid(k:∀b u,h.get? b=some u->h'.get? b=some u)(hp:h.objs.size<=a)(hn:H a=none):Un fs ex H (upd H a o) h h' where
 keep:=λb u q _ _ _=>k b u q
 slot:=λb u q _ _ _=>⟨u.slots,k b u q⟩
 free:=λb u q n _=>by rw[bF (Nat.ne_of_lt (Nat.lt_of_lt_of_le (Heap.lt_size q) hp))];exact n
 there:=λb u q _=>⟨u,k b u q⟩
 tups:=λb xs q=>by rw[bF (dR q hn)];exact q
 frzs:=λb u xs q=>by rw[bF (dR q hn)];exact q
 tbls:=λb ps q=>⟨#[],by rw[bF (dR q hn),q];simp⟩
theorem Un.write(mu:Mut (H x))(he:e=x\/H e=some (.own x))(k:∀b u,b≠e->h.get? b=some u->h'.get? b=some u)(heo:∃u,h'.get? e=some u):Un fs ex H (upd H x o) h h':=by
 have hx:∀b,H b=none->b≠x:=λb n z=>by subst z;rw[n]at mu;exact mu
 have hb:∀b,H b=none->b≠e:=λb n z=>by
  subst z
  rcases he with r|r
  ·exact hx b n r
  ·rw[n]at r;cases r
 have hm:∀b u,H b=some u->¬ Mut (some u)->b≠x:=λb u q nm z=>by subst z;rw[q]at mu;exact nm mu
 refine⟨λb u q n _ _=>k b u (hb b n) q,λb u q n _ _=>⟨u.slots,k b u (hb b n) q⟩,λb u q n _=>by rw[bF (hx b n)];exact n,λb u q _=>?_,
  λb xs q=>by rw[bF (hm b _ q λz=>z)];exact q,λb u xs q=>by rw[bF (hm b _ q λz=>z)];exact q,λb ps q=>⟨#[],by rw[bF (hm b _ q λz=>z),q];simp⟩⟩
 by_cases hbe:b=e
 ·subst hbe;exact heo
 ·exact⟨u,k b u hbe q⟩
end
def trk(h:Heap)(H:Hp):List Addr:=(List.range h.objs.size).filter λa=>(H a).isSome
def iJ(h:Heap)(H:Hp):Heap:=PySem.W.hideAll h (trk h H)
theorem zE0(h:Heap)(H:Hp):(iJ h H).objs.size=h.objs.size:=PySem.W.hideAll_size _ _
theorem zGa{h:Heap}{H:Hp}{b:Addr}{o:Obj}(e:h.get? b=some o)(n:H b=none):(iJ h H).get? b=some o:=
 PySem.W.hideAll_get _ e λhm=>by
  have q:(H b).isSome=true:=(List.mem_filter.mp hm).2
  rw[n]at q;simp at q
theorem zHi{h:Heap}{H:Hp}{b:Addr}{o:Obj}(e:(iJ h H).get? b=some o):h.get? b=some o/\H b=none:=by
 have e':h.get? b=some o:=PySem.W.of_hideAll (trk h H) e
 refine⟨e',?_⟩
 cases q:H b with
 |none=>rfl
 |some x=>
  have hm:b∈trk h H:=List.mem_filter.mpr ⟨List.mem_range.mpr (Heap.lt_size e'),by simp[q]⟩
  have z:(iJ h H).get? b=none:=PySem.W.hideAll_none (trk h H) hm
  rw[z]at e;cases e
end L2
namespace L2
open PySem PySem.Spec PyProof.Rows
structure Mod (K:W.Frag) (mg:Str->Option Value) (base:Heap):Prop where
 kin:K.In base
 glob:base.Ns mainGlobals mg
 blt:∃mb,base.Ns builtinsNs mb/\∀x:Str,x≠"__name__"->mb x=bootBuiltins x
 nolimit:base.NoLimit
structure Cx where
 prog:Program
 w:World
 K:W.Frag
 mg:Str->Option Value
 base:Heap
 A:Around
 N:List Str
 s₀:Shared
 H₀:Hp
 env:Env
 outer:List Env
 stack:List Env
 ex:List Addr
 fn:Str->Bool
 calm:Bool
 pn:List (Addr×Obj)
 xe:Value->Shared->Prop
def frs(l:List Env):List Addr:=l.filterMap (·.frame)
abbrev Cx.fs(X:Cx):List Addr:=frs X.outer
def Vis(sc:Scope)(x:Str):Prop:=sc.names.lookup x=some .local\/sc.names.lookup x=some .cell\/sc.names.lookup x=some .free
def Loc(sc:Scope)(x:Str):Prop:=sc.names.lookup x=some .local\/sc.names.lookup x=some .cell
def zL3(env:Env)(h:Heap)(m:Str->Option Value)(x:Str)(u:Value):Prop:=
 (env.kindOf x=some .local/\m x=some u)\/((env.kindOf x=some .cell\/env.kindOf x=some .free)/\∃c,env.cells.lookup x=some c/\h.IsCell c (some u))
structure Cx.Ok (X:Cx):Prop where
 mod:Mod X.K X.mg X.base
 kind:X.env.scope.kind=.function
 glob:X.env.globals=mainGlobals
 blt:X.env.builtins=builtinsNs
 above:X.s₀.heap.objs.size<=X.env.locals
 inj:∀x y c,X.env.cells.lookup x=some c->X.env.cells.lookup y=some c->x=y
 has:∀x,(X.env.kindOf x=some .cell\/X.env.kindOf x=some .free)->∃c,X.env.cells.lookup x=some c
 cab:∀x c,X.fn x=true->X.env.cells.lookup x=some c->X.s₀.heap.objs.size<=c
 hd:X.calm=true->X.A.handled=none
 frames:X.A.frames=some X.stack
 stk:X.stack=X.outer\/(X.stack=X.env::X.outer/\X.env.frame=some X.env.locals)
 exf:∀b∈X.ex,b≠X.env.locals/\∀x c,X.env.cells.lookup x=some c->c≠b
 bs:∀b o,X.base.get? b=some o->X.s₀.heap.get? b=some o/\X.H₀ b=none
 bsz:X.base.objs.size<=X.s₀.heap.objs.size
 noex:∀b o,X.base.get? b=some o->b∉X.ex
 exfs:∀b∈X.ex,b∉X.fs
 funs:X.s₀.heap.FunFrames X.base X.outer
 frf:∀b∈X.fs,X.H₀ b=none
structure Inv (X:Cx) (pins:List (Addr×Obj)) (σ:List (Option V)) (H:Hp) (s:Shared):Prop where
 ok:X.Ok
 os:s.os=X.s₀.os
 bare:AllBare s.gens
 base:Un X.fs X.ex X.H₀ H X.s₀.heap s.heap
 loc:∃m,s.heap.Ns X.env.locals m/\∀(i:Nat) (x:Str) (v:V),X.N[i]?=some x->σ[i]?=some (some v)->Vis X.env.scope x->∃u,RelV v u/\zL3 X.env s.heap m x u
 cell:∀x c,X.env.cells.lookup x=some c->∃v,s.heap.IsCell c v
 free:H X.env.locals=none
 freeC:∀x c,X.env.cells.lookup x=some c->H c=none
 pin:∀p∈X.pn++pins,s.heap.get? p.1=some p.2/\H p.1=none/\p.1≠X.env.locals/\p.1∉X.fs/\∀v,p.2.data≠.cell v
 hok:HOk X.prog X.w H s.heap
 len:σ.length=X.N.length
section
variable{X:Cx}{pins:List (Addr×Obj)}{σ:List (Option V)}{H H':Hp}{s:Shared}{h':Heap}
theorem Cx.Ok.nofr(ok:X.Ok){b:Addr}{o:Obj}(e:X.base.get? b=some o):b∉X.fs:=λhb=>by
 have:=(ok.funs.mem hb).1
 rw[e]at this;cases this
theorem Inv.bs(I:Inv X pins σ H s):∀b o,X.base.get? b=some o->s.heap.get? b=some o/\H b=none:=λb o e=>
 ⟨I.base.keep b o (I.ok.bs b o e).1 (I.ok.bs b o e).2 (I.ok.nofr e) (I.ok.noex b o e),I.base.free b o (I.ok.bs b o e).1 (I.ok.bs b o e).2 (I.ok.noex b o e)⟩
theorem Inv.bk(I:Inv X pins σ H s):∀b o,X.base.get? b=some o->s.heap.get? b=some o:=λb o e=>(I.bs b o e).1
theorem Inv.mod(I:Inv X pins σ H s):Mod X.K X.mg X.base:=I.ok.mod
theorem Inv.kIn(I:Inv X pins σ H s):X.K.In s.heap:=I.ok.mod.kin.keeps I.bk
theorem Inv.lt(I:Inv X pins σ H s):X.env.locals<s.heap.objs.size:=let ⟨_,hn,_⟩:=I.loc;hn.lt
theorem Inv.sz(I:Inv X pins σ H s):X.s₀.heap.objs.size<=s.heap.objs.size:=Nat.le_trans I.ok.above (Nat.le_of_lt I.lt)
theorem Inv.nofs(I:Inv X pins σ H s){a:Addr}(h:s.heap.objs.size<=a):a∉X.fs:=λhb=>by
 obtain⟨_,o,ho,_⟩:=I.ok.funs.mem hb
 exact absurd (Nat.lt_of_lt_of_le (Heap.lt_size ho) (Nat.le_trans I.sz h)) (Nat.lt_irrefl _)
theorem Inv.cne(I:Inv X pins σ H s):∀x c,X.env.cells.lookup x=some c->c≠X.env.locals:=λx c e z=>by
 obtain⟨v,o,ho,hd⟩:=I.cell x c e
 obtain⟨m,⟨o',es,ep,ho',hd',_⟩,_⟩:=I.loc
 rw[z,ho']at ho;cases ho;rw[hd']at hd;cases hd
theorem Inv.funs(I:Inv X pins σ H s):s.heap.FunFrames X.base X.outer:=by
 have all:∀(l:List Env),(∀b∈frs l,b∈X.fs)->X.s₀.heap.FunFrames X.base l->s.heap.FunFrames X.base l:=by
  intro l
  induction l with
  |nil=>intro _ _;trivial
  |cons env r ih=>
   intro hs hl
   obtain⟨hk,⟨L,o,hf,hn,ho,hd⟩,hr⟩:=hl
   have hL:L∈X.fs:=hs L (by unfold frs;rw[List.filterMap_cons,hf];exact List.mem_cons_self)
   obtain⟨sl,e⟩:=I.base.slot L o ho (I.ok.frf L hL) hL λz=>I.ok.exfs L z hL
   exact⟨hk,⟨L,_,hf,hn,e,hd⟩,ih (λb hb=>hs b (by unfold frs;rw[List.filterMap_cons,hf];exact List.mem_cons_of_mem _ hb)) hr⟩
 exact all X.outer (λ_ hb=>hb) I.ok.funs
theorem Inv.stack(I:Inv X pins σ H s):s.heap.FunFrames X.base X.stack:=by
 rcases I.ok.stk with e|⟨e,hf⟩
 ·rw[e];exact I.funs
 ·rw[e]
  obtain⟨m,hn,_⟩:=I.loc
  refine .cons (by rw[I.ok.kind];decide) hf hn ?_ I.funs
  exact Heap.get?_none_of_le (Nat.le_trans I.ok.bsz I.ok.above)
theorem Inv.stkSub(I:Inv X pins σ H s):∀b∈frs X.stack,b∈X.env.locals::X.fs:=λb hb=>by
 rcases I.ok.stk with e|⟨e,hf⟩
 ·rw[e]at hb;exact List.mem_cons_of_mem _ hb
 ·rw[e]at hb
  unfold frs at hb
  rw[List.filterMap_cons,hf]at hb
  exact hb
theorem Inv.stkFree(I:Inv X pins σ H s):∀b∈frs X.stack,H b=none:=λb hb=>by
 rcases List.mem_cons.mp (I.stkSub b hb) with e|hb
 ·rw[e];exact I.free
 ·obtain⟨_,o,ho,_⟩:=I.ok.funs.mem hb
  exact I.base.free b o ho (I.ok.frf b hb) λz=>I.ok.exfs b z hb
theorem Inv.step{g':Array GenState}{t':Nat}{d':Drawn}{ch:List Addr}(I:Inv X pins σ H s)
  (hch:∀b∈ch,(b∈X.ex\/X.s₀.heap.objs.size<=b)/\b≠X.env.locals/\(∀x c,X.env.cells.lookup x=some c->c≠b)/\∀p∈X.pn++pins,p.1≠b)
  (keep:∀b o,b≠X.env.locals->b∉X.fs->b∉ch->s.heap.get? b=some o->H b=none->h'.get? b=some o)
  (slot:∀b o,b≠X.env.locals->b∈X.fs->b∉ch->s.heap.get? b=some o->H b=none->∃sl,h'.get? b=some {o with slots:=sl}) (free:∀b o,b∉ch->s.heap.get? b=some o->H b=none->H' b=none)
  (there:∀b o,b∉ch->s.heap.get? b=some o->∃o',h'.get? b=some o')
  (tups:∀b xs,H b=some (.tup xs)->H' b=some (.tup xs)) (frzs:∀b o u,H b=some (.frz o u)->H' b=some (.frz o u)) (tbls:∀b ps,H b=some (.tbl ps)->∃more,H' b=some (.tbl (ps++more)))
  (ns:∀m,s.heap.Ns X.env.locals m->h'.Ns X.env.locals m) (hok:HOk X.prog X.w H' h') (hg:AllBare g'):
  Inv X pins σ H' {s with heap:=h',gens:=g',drawn:=d',toks:=t'}:=by
 have neL:∀b o,X.s₀.heap.get? b=some o->b≠X.env.locals:=λb o e=>Nat.ne_of_lt (Nat.lt_of_lt_of_le (Heap.lt_size e) I.ok.above)
 have neC:∀b o,X.s₀.heap.get? b=some o->b∉X.ex->b∉ch:=λb o e hx hb=>by
  rcases (hch b hb).1 with z|z
  ·exact hx z
  ·exact absurd (Nat.lt_of_lt_of_le (Heap.lt_size e) z) (Nat.lt_irrefl _)
 have cellK:∀x c,X.env.cells.lookup x=some c->∀v,s.heap.IsCell c v->h'.IsCell c v:=λx c e v ⟨o,ho,hd⟩=>by
  have nch:c∉ch:=λz=>(hch c z).2.2.1 x c e rfl
  by_cases hc:c∈X.fs
  ·obtain⟨sl,q⟩:=slot c o (I.cne x c e) hc nch ho (I.freeC x c e)
   exact⟨_,q,hd⟩
  ·exact⟨o,keep c o (I.cne x c e) hc nch ho (I.freeC x c e),hd⟩
 refine⟨I.ok,I.os,hg,⟨λb o e n hb hx=>?_,λb o e n hb hx=>?_,λb o e n hx=>?_,λb o e hx=>?_,λb xs e=>tups b xs (I.base.tups b xs e),λb o xs e=>frzs b o xs (I.base.frzs b o xs e),λb ps e=>?_⟩,?_,λx c e=>?_,?_,λx c e=>?_,λp hp=>?_,hok,I.len⟩
 ·exact keep b o (neL b o e) hb (neC b o e hx) (I.base.keep b o e n hb hx) (I.base.free b o e n hx)
 ·obtain⟨sl,e1⟩:=I.base.slot b o e n hb hx
  obtain⟨sl',e2⟩:=slot b _ (neL b o e) hb (neC b o e hx) e1 (I.base.free b o e n hx)
  exact⟨sl',e2⟩
 ·obtain⟨o',e1⟩:=I.base.there b o e hx
  exact free b o' (neC b o e hx) e1 (I.base.free b o e n hx)
 ·obtain⟨o',e1⟩:=I.base.there b o e hx
  exact there b o' (neC b o e hx) e1
 ·obtain⟨m1,e1⟩:=I.base.tbls b ps e
  obtain⟨m2,e2⟩:=tbls b _ e1
  exact⟨m1++m2,by rw[e2,Array.append_assoc]⟩
 ·obtain⟨m,hn,hl⟩:=I.loc
  refine⟨m,ns m hn,λi x v e1 e2 e3=>?_⟩
  obtain⟨u,r,l⟩:=hl i x v e1 e2 e3
  refine⟨u,r,?_⟩
  rcases l with l|⟨k,c,e,z⟩
  ·exact .inl l
  ·exact .inr ⟨k,c,e,cellK x c e _ z⟩
 ·obtain⟨v,z⟩:=I.cell x c e
  exact⟨v,cellK x c e v z⟩
 ·obtain⟨m,⟨o,_,_,ho,_⟩,_⟩:=I.loc
  exact free _ o (λz=>(hch _ z).2.1 rfl) ho I.free
 ·obtain⟨v,o,ho,hd⟩:=I.cell x c e
  exact free c o (λz=>(hch c z).2.2.1 x c e rfl) ho (I.freeC x c e)
 ·obtain⟨e,n,ne,nf,d⟩:=I.pin p hp
  have nch:p.1∉ch:=λz=>(hch p.1 z).2.2.2 p hp rfl
  exact⟨keep p.1 p.2 ne nf nch e n,free p.1 p.2 nch e n,ne,nf,d⟩
theorem Inv.un{t':Nat}(I:Inv X pins σ H s)(u:Un X.fs [] H H' s.heap h')(hok:HOk X.prog X.w H' h'):Inv X pins σ H' {s with heap:=h',toks:=t'}:=by
 obtain⟨m,⟨o,es,ep,ho,r⟩,_⟩:=id I.loc
 obtain⟨sl,hL⟩:=u.any ho I.free (by simp)
 exact I.step (g':=s.gens) (d':=s.drawn) (ch:=[]) (λ_ z=>nomatch z) (λb o _ hb _ e n=>u.keep b o e n hb (by simp)) (λb o _ hb _ e n=>u.slot b o e n hb (by simp)) (λb o _ e n=>u.free b o e n (by simp)) (λb o _ e=>u.there b o e (by simp)) u.tups u.frzs u.tbls (λm' hm=>by
  obtain⟨o',es',ep',ho',r'⟩:=hm
  rw[ho]at ho';cases ho'
  exact⟨_,es',ep',hL,r'⟩) hok I.bare
theorem Inv.call{g':Array GenState}{t':Nat}{d':Drawn}{ch:List Addr}(I:Inv X pins σ H s)(u:Un (frs X.stack) ch H H' s.heap h')(hok:HOk X.prog X.w H' h')(hg:AllBare g')
  (hch:∀b∈ch,(b∈X.ex\/X.s₀.heap.objs.size<=b)/\b≠X.env.locals/\(∀x c,X.env.cells.lookup x=some c->c≠b)/\∀p∈X.pn++pins,p.1≠b):
  Inv X pins σ H' {s with heap:=h',gens:=g',drawn:=d',toks:=t'}:=by
 obtain⟨m,⟨o,es,ep,ho,r⟩,_⟩:=id I.loc
 obtain⟨sl,hL⟩:=u.any ho I.free λz=>(hch _ z).2.1 rfl
 exact I.step (ch:=ch) hch (λb o hL hb hc e n=>u.keep b o e n (λz=>(List.mem_cons.mp (I.stkSub b z)).elim hL hb) hc) (λb o _ _ hc e n=>u.any e n hc) (λb o hc e n=>u.free b o e n hc) (λb o hc e=>u.there b o e hc) u.tups u.frzs u.tbls (λm' hm=>by
  obtain⟨o',es',ep',ho',r'⟩:=hm
  rw[ho]at ho';cases ho'
  exact⟨_,es',ep',hL,r'⟩) hok hg
theorem Inv.turned{t':Nat}{it:Addr}(I:Inv X pins σ H s)(k:∀b o,b≠it->s.heap.get? b=some o->h'.get? b=some o)(hn:H it=none)(hL:it≠X.env.locals)
  (h1:it∈X.ex\/X.s₀.heap.objs.size<=it) (h2:∀x c,X.env.cells.lookup x=some c->c≠it) (h3:∀p∈X.pn++pins,p.1≠it):Inv X pins σ H {s with heap:=h',toks:=t'}:=by
 have nit:∀b u,H b=some u->b≠it:=λb u e z=>by rw[z,hn]at e;cases e
 refine I.step (g':=s.gens) (d':=s.drawn) (ch:=[it]) (λb hb=>?_) (λb o _ _ hc e _=>k b o (λz=>hc (by simp[z])) e) (λb o _ _ hc e _=>⟨o.slots,k b o (λz=>hc (by simp[z])) e⟩) (λ_ _ _ _ n=>n)
  (λb o hc e=>⟨o,k b o (λz=>hc (by simp[z])) e⟩) (λ_ _ e=>e) (λ_ _ _ e=>e) (λb ps e=>⟨#[],by rw[e];simp⟩) (λm hm=>?_) (λb u e=>?_) I.bare
 ·have e:b=it:=by simpa using hb
  subst e
  exact⟨h1,hL,h2,h3⟩
 ·obtain⟨o,es,ep,ho,r⟩:=hm
  exact⟨o,es,ep,k _ o (Ne.symm hL) ho,r⟩
 ·refine(I.hok b u e).stay (λc v hc q=>k c v ?_ q) (λ_ q=>q) λ_ _ q=>q
  rcases hc with z|z
  ·rw[z];exact nit b u e
  ·exact nit c _ z
theorem Inv.tok(I:Inv X pins σ H s)(t:Nat):Inv X pins σ H {s with toks:=t}:=I.un (h':=s.heap) (t':=t) Un.refl I.hok
theorem Inv.kept{t':Nat}(I:Inv X pins σ H s)(k:∀b u,s.heap.get? b=some u->h'.get? b=some u):Inv X pins σ H {s with heap:=h',toks:=t'}:=I.un (Un.kept k) (I.hok.kept k)
theorem Inv.laid{a:Addr}{o:HO}{t':Nat}(I:Inv X pins σ H s)(k:∀b u,s.heap.get? b=some u->h'.get? b=some u)(hp:s.heap.objs.size<=a)(new:ObjOk X.prog X.w (upd H a o) h' a o):
  Inv X pins σ (upd H a o) {s with heap:=h',toks:=t'}:=I.un (Un.laid k hp (I.hok.fresh hp)) (I.hok.laid k hp new)
theorem Inv.write{x e:Addr}{o:HO}{t':Nat}(I:Inv X pins σ H s)(mu:Mut (H x))(he:e=x\/H e=some (.own x))(k:∀b u,b≠e->s.heap.get? b=some u->h'.get? b=some u)(heo:∃u,h'.get? e=some u)
  (new:ObjOk X.prog X.w (upd H x o) h' x o):Inv X pins σ (upd H x o) {s with heap:=h',toks:=t'}:=I.un (Un.write mu he k heo) (I.hok.write mu he k heo new)
theorem Inv.weak{σ':List (Option V)}(I:Inv X pins σ H s)(hl:σ'.length=σ.length)(w:∀(i:Nat) v,σ'[i]?=some (some v)->σ[i]?=some (some v)):Inv X pins σ' H s:=
 ⟨I.ok,I.os,I.bare,I.base,let ⟨m,hn,hl'⟩:=I.loc;⟨m,hn,λi x v e1 e2 e3=>hl' i x v e1 (w i v e2) e3⟩,I.cell,I.free,I.freeC,I.pin,I.hok,hl.trans I.len⟩
theorem Inv.pins_of{pins':List (Addr×Obj)}(I:Inv X pins σ H s)(h:∀p∈pins',s.heap.get? p.1=some p.2/\H p.1=none/\p.1≠X.env.locals/\p.1∉X.fs/\∀v,p.2.data≠.cell v):Inv X pins' σ H s:=
 ⟨I.ok,I.os,I.bare,I.base,I.loc,I.cell,I.free,I.freeC,λp hp=>(List.mem_append.mp hp).elim (λz=>I.pin p (List.mem_append_left _ z)) (h p),I.hok,I.len⟩
theorem zAp{N:List Str}(hN:N.Nodup){i j:Nat}{x:Str}(a:N[i]?=some x)(b:N[j]?=some x):i=j:=by
 obtain⟨h1,e1⟩:=List.getElem?_eq_some_iff.mp a
 obtain⟨h2,e2⟩:=List.getElem?_eq_some_iff.mp b
 exact(List.getElem_inj hN).mp (e1.trans e2.symm)
theorem zG{M:Model}{A:Around}{E:Value->Shared->Prop}{i:Nat}{x:Str}{v:V}{u:Value}{Q:Unit->Shared->Prop}(I:Inv X pins σ H s)(hN:X.N.Nodup)(hi:X.N[i]?=some x)(hx:Loc X.env.scope x)(r:RelV v u)
  (h:∀s',Inv X pins (σ.set i (some v)) H s'->(∃a,Heap.SameBut a s.heap s'.heap/\(a=X.env.locals\/X.env.cells.lookup x=some a))->Q () s') (hf:X.fn x=true\/X.env.scope.names.lookup x=some .local:=by first|exact .inl rfl|exact .inr rfl|assumption):wpAny M A (storeName X.env x u) Q E s:=by
 obtain⟨m,hn,hl⟩:=id I.loc
 have hcls:(X.env.scope.kind==.class || (X.env.scope.kind==.module&&X.env.locals != X.env.globals))=false:=by rw[I.ok.kind];rfl
 have hiσ:i<σ.length:=by rw[I.len];exact(List.getElem?_eq_some_iff.mp hi).1
 have cne:=I.cne
 have tracked:∀{a:Addr} {h':Heap},(∃o,s.heap.get? a=some o/\H a=none)->Heap.SameBut a s.heap h'->HOk X.prog X.w H h':=λ{a h'} ha hs b ob e=>by
  obtain⟨_,_,hfree⟩:=ha
  refine(I.hok b ob e).stay (λc w' hc q=>(hs.2 c ?_).trans q) (λ_ q=>q) λ_ _ q=>q
  rintro rfl
  rcases hc with rfl|hc
  ·rw[hfree]at e;cases e
  ·rw[hfree]at hc;cases hc
 rcases hx with hk|hk
 ·refine wpAny_storeName_local hk hn (λh' hn' hs=>?_) hcls
  obtain⟨oL,_,_,hoL,_⟩:=id hn
  refine h _ ⟨I.ok,I.os,I.bare,⟨λb o e n hb hx=>?_,λb o e n hb hx=>?_,I.base.free,λb o e hx=>?_,I.base.tups,I.base.frzs,I.base.tbls⟩,⟨_,hn',λj y v' e1 e2 e3=>?_⟩,λy c e=>?_,I.free,I.freeC,λp hp=>?_,tracked ⟨oL,hoL,I.free⟩ hs,by simpa using I.len⟩ ⟨_,hs,.inl rfl⟩
  ·exact(hs.2 b (Nat.ne_of_lt (Nat.lt_of_lt_of_le (Heap.lt_size e) I.ok.above))).trans (I.base.keep b o e n hb hx)
  ·obtain⟨sl,e1⟩:=I.base.slot b o e n hb hx
   exact⟨sl,(hs.2 b (Nat.ne_of_lt (Nat.lt_of_lt_of_le (Heap.lt_size e) I.ok.above))).trans e1⟩
  ·obtain⟨o',e1⟩:=I.base.there b o e hx
   exact⟨o',(hs.2 b (Nat.ne_of_lt (Nat.lt_of_lt_of_le (Heap.lt_size e) I.ok.above))).trans e1⟩
  ·by_cases hj:j=i
   ·subst hj
    rw[hi]at e1;cases e1
    rw[List.getElem?_set_self hiσ]at e2
    cases e2
    exact⟨u,r,.inl ⟨hk,by simp⟩⟩
   ·rw[List.getElem?_set_ne (Ne.symm hj)]at e2
    obtain⟨u',r',q⟩:=hl j y v' e1 e2 e3
    refine⟨u',r',?_⟩
    rcases q with⟨k,e⟩|⟨k,c,e,z⟩
    ·refine .inl ⟨k,?_⟩
     have:y≠x:=λe=>hj (zAp hN e1 (e▸hi))
     simp[this,e]
    ·exact .inr ⟨k,c,e,z.sameBut hs (cne y c e)⟩
  ·obtain⟨w',z⟩:=I.cell y c e
   exact⟨w',z.sameBut hs (cne y c e)⟩
  ·obtain⟨e,n,ne,nf,d⟩:=I.pin p hp
   exact⟨(hs.2 p.1 ne).trans e,n,ne,nf,d⟩
 ·have hfn:X.fn x=true:=by
   rcases hf with z|z
   ·exact z
   ·rw[z]at hk;cases hk
  obtain⟨c,hc⟩:=I.ok.has x (.inl hk)
  obtain⟨w',z⟩:=I.cell x c hc
  refine wpAny_storeName_cell I.ok.kind hk hc z (λh' hc' hs=>?_)
  obtain⟨oc,hoc,hocd⟩:=id z
  refine h {s with heap:=h'} ⟨I.ok,I.os,I.bare,⟨λb o e n hb hx=>?_,λb o e n hb hx=>?_,I.base.free,λb o e hx=>?_,I.base.tups,I.base.frzs,I.base.tbls⟩,⟨m,hn.sameBut hs (Ne.symm (cne x c hc)),λj y v' e1 e2 e3=>?_⟩,λy c' e=>?_,I.free,I.freeC,λp hp=>?_,tracked ⟨oc,hoc,I.freeC x c hc⟩ hs,by simpa using I.len⟩ ⟨c,hs,.inr hc⟩
  ·exact(hs.2 b (Nat.ne_of_lt (Nat.lt_of_lt_of_le (Heap.lt_size e) (I.ok.cab x c hfn hc)))).trans (I.base.keep b o e n hb hx)
  ·obtain⟨sl,e1⟩:=I.base.slot b o e n hb hx
   exact⟨sl,(hs.2 b (Nat.ne_of_lt (Nat.lt_of_lt_of_le (Heap.lt_size e) (I.ok.cab x c hfn hc)))).trans e1⟩
  ·obtain⟨o',e1⟩:=I.base.there b o e hx
   exact⟨o',(hs.2 b (Nat.ne_of_lt (Nat.lt_of_lt_of_le (Heap.lt_size e) (I.ok.cab x c hfn hc)))).trans e1⟩
  ·by_cases hj:j=i
   ·subst hj
    rw[hi]at e1;cases e1
    rw[List.getElem?_set_self hiσ]at e2
    cases e2
    exact⟨u,r,.inr ⟨.inl hk,c,hc,hc'⟩⟩
   ·rw[List.getElem?_set_ne (Ne.symm hj)]at e2
    obtain⟨u',r',q⟩:=hl j y v' e1 e2 e3
    refine⟨u',r',?_⟩
    rcases q with q|⟨k,c',e,z'⟩
    ·exact .inl q
    ·refine .inr ⟨k,c',e,z'.sameBut hs ?_⟩
     rintro rfl
     exact hj (zAp hN e1 (I.ok.inj _ _ _ e hc▸hi))
  ·by_cases hcc:c'=c
   ·subst hcc;exact⟨_,hc'⟩
   ·obtain⟨w2,z2⟩:=I.cell y c' e
    exact⟨w2,z2.sameBut hs hcc⟩
  ·obtain⟨e,n,ne,nf,d⟩:=I.pin p hp
   refine⟨(hs.2 p.1 ?_).trans e,n,ne,nf,d⟩
   intro q
   rw[q,hoc]at e
   have q':oc=p.2:=Option.some.inj e
   exact d w' (by rw[<-q'];exact hocd)
theorem pZ{M:Model}{A:Around}{E:Value->Shared->Prop}{i:Nat}{x:Str}{v:V}{u:Value}{Q:Unit->Shared->Prop}(I:Inv X pins σ H s)(hN:X.N.Nodup)(hi:X.N[i]?=some x)(hx:Loc X.env.scope x)(r:RelV v u)
  (h:∀s',Inv X pins (σ.set i (some v)) H s'->Q () s') (hf:X.fn x=true\/X.env.scope.names.lookup x=some .local:=by first|exact .inl rfl|exact .inr rfl|assumption):wpAny M A (storeName X.env x u) Q E s:=
 zG I hN hi hx r (λs' I' _=>h s' I') hf
theorem Inv.call'{s':Shared}{ch:List Addr}(I:Inv X pins σ H s)(ho:s'.os=s.os)(u:Un (frs X.stack) ch H H' s.heap s'.heap)(hok:HOk X.prog X.w H' s'.heap)(hg:AllBare s'.gens)
  (hch:∀b∈ch,(b∈X.ex\/X.s₀.heap.objs.size<=b)/\b≠X.env.locals/\(∀x c,X.env.cells.lookup x=some c->c≠b)/\∀p∈X.pn++pins,p.1≠b):Inv X pins σ H' s':=by
 obtain⟨h',g',d',t',o'⟩:=s'
 have e:o'=s.os:=ho
 subst e
 exact I.call (g':=g') (t':=t') (d':=d') u hok hg hch
end
abbrev XK:=Value->Option Addr->Hp->Prop
abbrev St:=List (Option V)
abbrev VK:=V->Hp->Prop
abbrev TE:=St->Hp->VK->Prop
abbrev TT:=St->Hp->(Bool->Hp->Prop)->Prop
abbrev TA:=St->Hp->(List V->Hp->Prop)->Prop
structure kN where
 nx:St->Hp->Prop
 rt:VK
 bk:St->Hp->Prop:=λ_ _=>False
 ct:St->Hp->Prop:=λ_ _=>False
abbrev TS:=kN->St->Hp->Prop
def EP(X:Cx)(pins:List (Addr×Obj))(σ:St)(Q:VK)(u:Value)(s':Shared):Prop:=∃v H',Inv X pins σ H' s'/\RelV v u/\Q v H'
def TP(X:Cx)(pins:List (Addr×Obj))(σ:St)(Q:Bool->Hp->Prop)(b:Bool)(s':Shared):Prop:=∃H',Inv X pins σ H' s'/\Q b H'
def AP(X:Cx)(pins:List (Addr×Obj))(σ:St)(Q:List V->Hp->Prop)(us:List Value)(s':Shared):Prop:=∃vs H',Inv X pins σ H' s'/\Vals vs us/\Q vs H'
def SP(X:Cx)(pins:List (Addr×Obj))(D:kN)(f:Flow)(s':Shared):Prop:=
 match f with
 |.next=>∃σ' H',Inv X pins σ' H' s'/\D.nx σ' H'
 |.brk=>∃σ' H',Inv X pins σ' H' s'/\D.bk σ' H'
 |.cont=>∃σ' H',Inv X pins σ' H' s'/\D.ct σ' H'
 |.ret u=>∃v σ' H',Inv X pins σ' H' s'/\RelV v u/\D.rt v H'
def PE(X:Cx)(e:Expr)(t:TE):Prop:=
 ∀(pins:List (Addr×Obj)) (s:Shared) (σ:St) (H:Hp) (Q:VK),Inv X pins σ H s->t σ H Q->wpAny (model X.prog X.w) X.A (eval e X.env) (EP X pins σ Q) X.xe s
def PT(X:Cx)(e:Expr)(t:TT):Prop:=
 ∀(pins:List (Addr×Obj)) (s:Shared) (σ:St) (H:Hp) (Q:Bool->Hp->Prop),Inv X pins σ H s->t σ H Q->wpAny (model X.prog X.w) X.A (isTrue e X.env (eval e X.env)) (TP X pins σ Q) X.xe s
def PW(X:Cx)(e:Expr)(t:TT):Prop:=
 ∀(whole:Sem Value) (pins:List (Addr×Obj)) (s:Shared) (σ:St) (H:Hp) (Q:Bool->Hp->Prop),Inv X pins σ H s->t σ H Q->wpAny (model X.prog X.w) X.A (isTrue e X.env whole) (TP X pins σ Q) X.xe s
theorem PW.pt{X:Cx}{e:Expr}{t:TT}(h:PW X e t):PT X e t:=h _
def PA(X:Cx)(es:List Expr)(t:TA):Prop:=
 ∀(pos:Pos) (pins:List (Addr×Obj)) (s:Shared) (σ:St) (H:Hp) (Q:List V->Hp->Prop),Inv X pins σ H s->t σ H Q->wpAny (model X.prog X.w) X.A (spliced (backTo pos (starEach es X.env))) (AP X pins σ Q) X.xe s
def PS(X:Cx)(st:Stmt)(t:TS):Prop:=
 ∀(pins:List (Addr×Obj)) (s:Shared) (σ:St) (H:Hp) (D:kN),Inv X pins σ H s->t D σ H->wpAny (model X.prog X.w) X.A (exec st X.env) (SP X pins D) X.xe s
def PSs(X:Cx)(st:List Stmt)(t:TS):Prop:=
 ∀(pins:List (Addr×Obj)) (s:Shared) (σ:St) (H:Hp) (D:kN),Inv X pins σ H s->t D σ H->wpAny (model X.prog X.w) X.A (execs st X.env) (SP X pins D) X.xe s
theorem thn{α:Type}{t:Sem α}{Q Q':α->Shared->Prop}{M:Model}{A:Around}{E:Value->Shared->Prop}{s:Shared}(h:wpAny M A t Q E s)(hQ:∀a s,Q a s->Q' a s):wpAny M A t Q' E s:=wpAny_mono h hQ λ_ _ x=>x
end L2
namespace L2
open PySem PySem.Spec PyProof.Rows
section
variable{X:Cx}
def zCw(i:Nat):TE:=λσ H Q=>∃v,σ[i]?=some (some v)/\Q v H
def tC(v:V):TE:=λ_ H Q=>Q v H
theorem iX{i:Nat}{x:Str}{pos:Pos}(hN:X.N[i]?=some x)(hv:Vis X.env.scope x)(hd:(x==("__debug__":Str))=false:=by decide)(hcd:(x==("__classdict__":Str))=false:=by decide):PE X (.Name x pos) (zCw i):=by
 intro pins s σ H Q I h
 obtain⟨v,e,h⟩:=h
 obtain⟨m,hn,hl⟩:=I.loc
 obtain⟨u,r,l⟩:=hl i x v hN e hv
 have fin:EP X pins σ Q u s:=⟨v,H,I,r,h⟩
 rcases l with⟨hk,hm⟩|⟨hk,c,hc,hcell⟩
 ·exact wpAny_Name (wpAny_loadName_local I.ok.kind hk hn hm fin) hd
 ·rcases hk with hk|hk
  ·exact wpAny_Name (wpAny_loadName_cell I.ok.kind hk hc hcell fin) hd
  ·exact wpAny_Name (wpAny_loadName_free I.ok.kind hk hc hcell fin hcd) hd
theorem cA{i j pos}:PE X (.Constant (.int i) j pos) (tC (.int i)):=λ_ _ _ H _ I h=>wpAny_Constant_int ⟨.int i,H,I.tok _,⟨_,rfl⟩,h⟩
theorem zJ0{b j pos}:PE X (.Constant (.bool b) j pos) (tC (.bl b)):=λ_ _ _ H _ I h=>Constant_bool ⟨.bl b,H,I,rfl,h⟩
theorem zIF{j pos}:PE X (.Constant .none j pos) (tC .non):=λ_ _ _ H _ I h=>Constant_none ⟨.non,H,I,rfl,h⟩
theorem zBS{x j pos}:PE X (.Constant (.str x) j pos) (tC (.str x)):=λ_ _ _ H _ I h=>Calls.Constant_str ⟨.str x,H,I.tok _,⟨_,rfl⟩,h⟩
def Gl(X:Cx)(x:Str):Prop:=X.env.kindOf x=some .globalImplicit
theorem vM{E:Value->Shared->Prop}{pins:List (Addr×Obj)}{s:Shared}{σ:St}{H:Hp}{x:Str}{u:Value}{pos:Pos}{Q:Value->Shared->Prop}(I:Inv X pins σ H s)(hg:Gl X x)(hm:X.mg x=some u)(h:Q u s)
  (hd:(x==("__debug__":Str))=false:=by decide):wpAny (model X.prog X.w) X.A (eval (.Name x pos) X.env) Q E s:=
 Calls.Name_function_global I.ok.kind hg (Calls.loadGlobal_global (by rw[I.ok.glob];exact I.mod.glob.keeps I.bk) hm h) hd
theorem jU{E:Value->Shared->Prop}{pins:List (Addr×Obj)}{s:Shared}{σ:St}{H:Hp}{x:Str}{u:Value}{pos:Pos}{Q:Value->Shared->Prop}(I:Inv X pins σ H s)(hg:Gl X x)(hm:X.mg x=none)(hv:bootBuiltins x=some u)(h:Q u s)
  (hn:x≠"__name__":=by decide) (hd:(x==("__debug__":Str))=false:=by decide):wpAny (model X.prog X.w) X.A (eval (.Name x pos) X.env) Q E s:=by
 obtain⟨mb,h1,h2⟩:=I.mod.blt
 exact Calls.Name_function_global I.ok.kind hg (Calls.loadGlobal_builtin (by rw[I.ok.glob];exact I.mod.glob.keeps I.bk) hm (by rw[I.ok.blt];exact h1.keeps I.bk) ((h2 x hn).trans hv) h) hd
theorem vH{x:Str}{v:V}{u:Value}{pos:Pos}(hg:Gl X x)(hm:X.mg x=some u)(r:RelV v u)(hd:(x==("__debug__":Str))=false:=by decide):PE X (.Name x pos) (tC v):=
 λ_ _ _ H _ I h=>vM I hg hm ⟨v,H,I,r,h⟩ hd
theorem bJ{x:Str}{v:V}{u:Value}{pos:Pos}(hg:Gl X x)(hm:X.mg x=none)(hv:bootBuiltins x=some u)(r:RelV v u)(hn:x≠"__name__":=by decide)(hd:(x==("__debug__":Str))=false:=by decide):PE X (.Name x pos) (tC v):=
 λ_ _ _ H _ I h=>jU I hg hm hv ⟨v,H,I,r,h⟩ hn hd
variable{a b:Expr}{ta tb:TE}{pos:Pos}
def tB(t:TE):TT:=λσ H Q=>t σ H λx H1=>∃c,x=.bl c/\Q c H1
theorem zIr{e:Expr}{t:TE}(h:PE X e t)(he:∀whole,isTrue e X.env whole=(do let v <- whole;standAt e.pos;holding [v] (truthy v)):=by intro _;rfl):PT X e (tB t):=by
 intro pins s σ H Q I hw
 refine isTrue_plain (thn (h pins s σ H _ I hw) λv s1 ⟨x,H1,I1,r1,q1⟩=>?_) (he _)
 obtain⟨d,rfl,q⟩:=q1
 cases r1
 exact wpAny_truthy_bool ⟨H1,I1,q⟩
variable{tA tB':TT}{rest:List Expr}
def zKG(t u:TT):TT:=λσ H Q=>t σ H λc H1=>if c=true then u σ H1 Q else Q false H1
def tOr(t u:TT):TT:=λσ H Q=>t σ H λc H1=>if c=true then Q true H1 else u σ H1 Q
def zKC(t:TT):TT:=λσ H Q=>t σ H λc H1=>Q (!c) H1
theorem zGS(ha:PT X a tA):PW X (.BoolOp .And [a] pos) tA:=by
 intro wh pins s σ H Q I h
 refine isTrue_and (thn (ha pins s σ H Q I h) λc s1 e=>?_)
 cases c with
 |true=>exact isTrue_and_nil e
 |false=>exact e
theorem zIj(ha:PT X a tA):PW X (.BoolOp .Or [a] pos) tA:=by
 intro wh pins s σ H Q I h
 refine isTrue_or (thn (ha pins s σ H Q I h) λc s1 e=>?_)
 cases c with
 |false=>exact isTrue_or_nil e
 |true=>exact e
theorem zIk(ha:PT X a tA)(hb:PW X (.BoolOp .And (b::rest) pos) tB'):PW X (.BoolOp .And (a::b::rest) pos) (zKG tA tB'):=by
 intro wh pins s σ H Q I h
 refine isTrue_and (thn (ha pins s σ H _ I h) λc s1 ⟨H1,I1,q1⟩=>?_)
 cases c with
 |true=>exact hb wh pins s1 σ H1 Q I1 q1
 |false=>exact⟨H1,I1,q1⟩
theorem zJY(ha:PT X a tA)(hb:PW X (.BoolOp .Or (b::rest) pos) tB'):PW X (.BoolOp .Or (a::b::rest) pos) (tOr tA tB'):=by
 intro wh pins s σ H Q I h
 refine isTrue_or (thn (ha pins s σ H _ I h) λc s1 ⟨H1,I1,q1⟩=>?_)
 cases c with
 |true=>exact⟨H1,I1,q1⟩
 |false=>exact hb wh pins s1 σ H1 Q I1 q1
theorem zIs(ha:PT X a tA):PT X (.UnaryOp .Not a pos) (zKC tA):=by
 intro pins s σ H Q I h
 exact isTrue_not (ha pins s σ H (λc H1=>Q (!c) H1) I h)
def zJJ(ta tb:TE):TE:=λσ H Q=>ta σ H λx H1=>∃c,x=.bl c/\if c=true then tb σ H1 Q else Q (.bl false) H1
def zJD(ta:TE):TE:=λσ H Q=>ta σ H λx H1=>∃c,x=.bl c/\Q (.bl (!c)) H1
theorem zID{op}{t:TE}(h:PE X a t):PE X (.BoolOp op [a] pos) t:=λpins s σ H Q I hw=>BoolOp_one (h pins s σ H Q I hw)
theorem zII(ha:PE X a ta)(hb:PE X (.BoolOp .And (b::rest) pos) tb):PE X (.BoolOp .And (a::b::rest) pos) (zJJ ta tb):=by
 intro pins s σ H Q I h
 refine BoolOp_and (thn (ha pins s σ H _ I h) λv s1 ⟨x,H1,I1,r1,q1⟩=>?_)
 obtain⟨c,rfl,q1⟩:=q1
 cases r1
 refine wpAny_truthy_bool ?_
 cases c with
 |true=>exact hb pins s1 σ H1 Q I1 q1
 |false=>exact⟨.bl false,H1,I1,rfl,q1⟩
theorem zIE(ha:PE X a ta):PE X (.UnaryOp .Not a pos) (zJD ta):=by
 intro pins s σ H Q I h
 refine UnaryOp_ (thn (ha pins s σ H _ I h) λv s1 ⟨x,H1,I1,r1,q1⟩=>?_)
 obtain⟨c,rfl,q1⟩:=q1
 cases r1
 exact not_of (wpAny_truthy_bool ⟨.bl (!c),H1,I1,rfl,q1⟩)
def tIf(t:TT)(ta tb:TE):TE:=λσ H Q=>t σ H λc H1=>if c=true then ta σ H1 Q else tb σ H1 Q
theorem zFT{c:Expr}(hc:PT X c tA)(ha:PE X a ta)(hb:PE X b tb):PE X (.IfExp c a b pos) (tIf tA ta tb):=by
 intro pins s σ H Q I h
 refine wpAny_IfExp (thn (hc pins s σ H _ I h) λd s1 ⟨H1,I1,q1⟩=>?_)
 cases d with
 |true=>exact ha pins s1 σ H1 Q I1 q1
 |false=>exact hb pins s1 σ H1 Q I1 q1
end
end L2
namespace L2
open PySem PySem.Spec PyProof.Rows
def SqL(K:W.Frag)(H:Hp)(a:Addr)(xs:List V):Prop:=
 Rd H a (.lst xs) \/
  ∃(o:Obj) (its:Array Value) (n:Nat),K.lookup a=some o/\o.cls=.type "list"/\o.dict=none/\o.data=.seq its n/\its.size<=sizeLine/\Vals xs its.toList
def SqT(K:W.Frag)(H:Hp)(a:Addr)(xs:List V):Prop:=
 Rd H a (.tup xs) \/
  ∃(o:Obj) (its:Array Value) (n:Nat),K.lookup a=some o/\o.cls=.type "tuple"/\o.data=.seq its n/\its.size<=sizeLine/\Vals xs its.toList
def zL2:Value->Option V
 |.none=>some .non
 |.bool b=>some (.bl b)
 |.int i _=>some (.int i)
 |.str x _=>some (.str x)
 |.bytes b _=>some (.byt b)
 |.float b _=>some (.flt b)
 |.ref a=>some (.ref a)
 |.type n=>some (.ty n)
 |_=>none
theorem RelV.abs{x:V}{u:Value}(r:RelV x u):zL2 u=some x:=by
 cases x with
 |non=>cases r;rfl
 |bl _=>cases r;rfl
 |int _=>obtain⟨t,rfl⟩:=r;rfl
 |str _=>obtain⟨t,rfl⟩:=r;rfl
 |byt _=>obtain⟨t,rfl⟩:=r;rfl
 |flt _=>obtain⟨t,rfl⟩:=r;rfl
 |ref _=>cases r;rfl
 |ty _=>cases r;rfl
theorem RelV.inj{x y:V}{u:Value}(r:RelV x u)(q:RelV y u):x=y:=Option.some.inj (r.abs.symm.trans q.abs)
theorem Vals.inj:∀{xs ys:List V}{us:List Value},Vals xs us->Vals ys us->xs=ys
 |_,_,_,.nil,.nil=>rfl
 |_,_,_,.cons r t,.cons r' t'=>by rw[r.inj r',Vals.inj t t']
section
variable{X:Cx}{pins:List (Addr×Obj)}{σ:St}{H:Hp}{s:Shared}{a:Addr}{xs ys:List V}
theorem SqL.of{K:W.Frag}(h:H a=some (.lst xs)):SqL K H a xs:=.inl (.inl h)
theorem SqT.of{K:W.Frag}(h:H a=some (.tup xs)):SqT K H a xs:=.inl (.inl h)
theorem Inv.list(I:Inv X pins σ H s)(h:SqL X.K H a xs):∃its:List Value,Vals xs its/\PlainL s.heap a its.toArray/\xs.length<=sizeLine:=by
 rcases h with h|⟨o,its,n,hk,hc,hd,hs,hz,r⟩
 ·obtain⟨z,its,n,r,e⟩:=h.ok I.hok
  exact⟨its,r,⟨_,n,e,rfl,rfl,rfl⟩,z⟩
 ·refine⟨its.toList,r,⟨o,n,I.kIn a o hk,hc,hd,by simpa using hs⟩,?_⟩
  have e:=r.length
  simp only[Array.length_toList]at e
  omega
theorem Inv.tuple(I:Inv X pins σ H s)(h:SqT X.K H a xs):∃its:List Value,Vals xs its/\IsTup s.heap a its.toArray/\xs.length<=sizeLine:=by
 rcases h with h|⟨o,its,n,hk,hc,hs,hz,r⟩
 ·obtain⟨z,its,r,p⟩:=h.ok I.hok
  exact⟨its,r,p,z⟩
 ·refine⟨its.toList,r,⟨o,I.kIn a o hk,hc,n,by simpa using hs⟩,?_⟩
  have e:=r.length
  simp only[Array.length_toList]at e
  omega
theorem Inv.list_inj(I:Inv X pins σ H s)(h:SqL X.K H a xs)(h':SqL X.K H a ys):xs=ys:=by
 obtain⟨its,r,⟨o,n,e,_,_,d⟩,_⟩:=I.list h
 obtain⟨its',r',⟨o',n',e',_,_,d'⟩,_⟩:=I.list h'
 rw[e]at e';cases e'
 rw[d]at d'
 injection d' with d1 _
 have:its=its':=by simpa using congrArg Array.toList d1
 subst this
 exact r.inj r'
theorem Inv.tuple_inj(I:Inv X pins σ H s)(h:SqT X.K H a xs)(h':SqT X.K H a ys):xs=ys:=by
 obtain⟨its,r,⟨o,e,_,n,d⟩,_⟩:=I.tuple h
 obtain⟨its',r',⟨o',e',_,n',d'⟩,_⟩:=I.tuple h'
 rw[e]at e';cases e'
 rw[d]at d'
 injection d' with d1 _
 have:its=its':=by simpa using congrArg Array.toList d1
 subst this
 exact r.inj r'
end
abbrev Cx.wish(X:Cx)(E:Value->Shared->Prop):Cx:={X with xe:=E}
abbrev Cx.nox(X:Cx):Cx:=X.wish λ_ _=>False
theorem Cx.Ok.wish{X:Cx}(ok:X.Ok)(E:Value->Shared->Prop):(X.wish E).Ok:=
 ⟨ok.mod,ok.kind,ok.glob,ok.blt,ok.above,ok.inj,ok.has,ok.cab,ok.hd,ok.frames,ok.stk,ok.exf,ok.bs,ok.bsz,ok.noex,ok.exfs,ok.funs,ok.frf⟩
theorem Cx.Ok.unwish{X:Cx}{E:Value->Shared->Prop}(ok:(X.wish E).Ok):X.Ok:=
 ⟨ok.mod,ok.kind,ok.glob,ok.blt,ok.above,ok.inj,ok.has,ok.cab,ok.hd,ok.frames,ok.stk,ok.exf,ok.bs,ok.bsz,ok.noex,ok.exfs,ok.funs,ok.frf⟩
section
variable{X:Cx}{pins:List (Addr×Obj)}{σ:St}{H:Hp}{s:Shared}{E:Value->Shared->Prop}
theorem Inv.wish(I:Inv X pins σ H s)(E:Value->Shared->Prop):Inv (X.wish E) pins σ H s:=⟨I.ok.wish E,I.os,I.bare,I.base,I.loc,I.cell,I.free,I.freeC,I.pin,I.hok,I.len⟩
theorem Inv.unwish(I:Inv (X.wish E) pins σ H s):Inv X pins σ H s:=⟨I.ok.unwish,I.os,I.bare,I.base,I.loc,I.cell,I.free,I.freeC,I.pin,I.hok,I.len⟩
theorem SP.unwish{D:kN}{f:Flow}{s':Shared}(h:SP (X.wish E) pins D f s'):SP X pins D f s':=by
 cases f with
 |next=>obtain⟨σ',H',I,q⟩:=h;exact⟨σ',H',I.unwish,q⟩
 |brk=>obtain⟨σ',H',I,q⟩:=h;exact⟨σ',H',I.unwish,q⟩
 |cont=>obtain⟨σ',H',I,q⟩:=h;exact⟨σ',H',I.unwish,q⟩
 |ret u=>obtain⟨v,σ',H',I,r,q⟩:=h;exact⟨v,σ',H',I.unwish,r,q⟩
theorem PSs.nox{st:List Stmt}{t:TS}(h:PSs X.nox st t):PSs X st t:=λpins s σ H D I hw=>
 wpAny_mono (h pins s σ H D (I.wish _) hw) (λ_ _ q=>q.unwish) λ_ _ z=>False.elim z
end
section
variable{X:Cx}{st:Stmt}{rest:List Stmt}{t u:TS}{e:Expr}{te:TE}{pos:Pos}
def zJF:TS:=λD σ H=>D.nx σ H
def zKy(t u:TS):TS:=λD σ H=>t {D with nx:=u D} σ H
theorem vG:PSs X [] zJF:=λ_ _ σ H _ I h=>wpAny_execs_nil ⟨σ,H,I,h⟩
theorem gJ(h1:PS X st t)(h2:PSs X rest u):PSs X (st::rest) (zKy t u):=by
 intro pins s σ H D I h
 refine wpAny_execs_cons (thn (h1 pins s σ H {D with nx:=u D} I h) λf s1 q=>?_)
 cases f with
 |next=>
  obtain⟨σ',H',I',q⟩:=q
  exact h2 pins s1 σ' H' D I' q
 |ret v=>exact q
 |brk=>exact q
 |cont=>exact q
theorem lG(h1:PS X st t):PSs X [st] t:=by
 intro pins s σ H D I h
 refine wpAny_execs_cons (thn (h1 pins s σ H D I h) λf s1 q=>?_)
 cases f with
 |next=>exact wpAny_execs_nil q
 |ret v=>exact q
 |brk=>exact q
 |cont=>exact q
theorem Inv.quiet{pins:List (Addr×Obj)}{σ:St}{H:Hp}{s:Shared}(I:Inv X pins σ H s):interactive X.env=false:=by simp[interactive,I.ok.kind]
def zJG(te:TE):TS:=λD σ H=>te σ H λ_ H1=>D.nx σ H1
theorem zA7(he:PE X e te)(hs:swapsWith e none pos.line X.env=pure false:=by rfl):PS X (.Expr e pos) (zJG te):=by
 intro pins s σ H D I h
 exact wpAny_Expr_any (thn (he pins s σ H _ I h) λv s1 ⟨x,H1,I1,r1,q1⟩=>⟨σ,H1,I1,q1⟩) I.quiet hs
def zKA(te:TE):TS:=λD σ H=>te σ H D.rt
theorem lL(he:PE X e te):PS X (.Return (some e) pos) (zKA te):=by
 intro pins s σ H D I h
 exact wpAny_Return_some (thn (he pins s σ H _ I h) λv s1 ⟨x,H1,I1,r1,q1⟩=>⟨x,σ,H1,I1,r1,q1⟩)
def zKD(c:TT)(t u:TS):TS:=λD σ H=>c σ H λb H1=>if b=true then t D σ H1 else u D σ H1
theorem wM{c:Expr}{a b:List Stmt}{tc:TT}(hc:PT X c tc)(ha:PSs X a t)(hb:PSs X b u):PS X (.If c a b pos) (zKD tc t u):=by
 intro pins s σ H D I h
 refine wpAny_If (thn (hc pins s σ H _ I h) λd s1 ⟨H1,I1,q1⟩=>?_)
 cases d with
 |true=>exact ha pins s1 σ H1 D I1 q1
 |false=>exact hb pins s1 σ H1 D I1 q1
def zHZ:TS:=λ_ _ _=>False
theorem zEG{sts:List Stmt}:PSs X sts zHZ:=λ_ _ _ _ _ _ h=>h.elim
end
abbrev TG:=V->St->Hp->(St->Hp->Prop)->Prop
abbrev TGs:=List V->St->Hp->(St->Hp->Prop)->Prop
def PG(X:Cx)(target:Expr)(t:TG):Prop:=
 ∀(pins:List (Addr×Obj)) (s:Shared) (σ:St) (H:Hp) (v:V) (u:Value) (Q:St->Hp->Prop),Inv X pins σ H s->RelV v u->t v σ H Q ->
  wpAny (model X.prog X.w) X.A (assign target X.env u) (λ_ s'=>∃σ' H',Inv X pins σ' H' s'/\Q σ' H') X.xe s
def PGs(X:Cx)(ts:List Expr)(t:TGs):Prop:=
 ∀(pins:List (Addr×Obj)) (s:Shared) (σ:St) (H:Hp) (vs:List V) (us:List Value) (Q:St->Hp->Prop),Inv X pins σ H s->Vals vs us->t vs σ H Q ->
  wpAny (model X.prog X.w) X.A (assignInOrder ((assignEach ts X.env).map (·.2)) us) (λ_ s'=>∃σ' H',Inv X pins σ' H' s'/\Q σ' H') X.xe s
abbrev xP:=V->V->V->Hp->(Hp->Prop)->Prop
def zCX(X:Cx)(t:xP):Prop:=
 ∀(pins:List (Addr×Obj)) (s:Shared) (σ:St) (H:Hp) (o i v:V) (ov iv u:Value) (Q:Hp->Prop),Inv X pins σ H s->RelV o ov->RelV i iv->RelV v u->t o i v H Q ->
  wpAny (model X.prog X.w) X.A (setItem ov iv u) (λ_ s'=>∃H',Inv X pins σ H' s'/\Q H') X.xe s
section
variable{X:Cx}{pos:Pos}
def rP(i:Nat):TG:=λv σ H Q=>Q (σ.set i (some v)) H
theorem zG1{i:Nat}{x:Str}(hN:X.N.Nodup)(hi:X.N[i]?=some x)(hx:Loc X.env.scope x)(hf:X.fn x=true\/X.env.scope.names.lookup x=some .local:=by first|exact .inl rfl|exact .inr rfl|assumption):PG X (.Name x pos) (rP i):=by
 intro pins s σ H v u Q I r h
 exact wpAny_assign_Name (pZ I hN hi hx r (λs' I'=>⟨_,H,I',h⟩) hf)
def zLh:TGs:=λvs σ H Q=>vs=[]/\Q σ H
def zKh(t:TG)(u:TGs):TGs:=λvs σ H Q=>∃v r,vs=v::r/\t v σ H λσ' H'=>u r σ' H' Q
theorem zG0:PGs X [] zLh:=by
 intro pins s σ H vs us Q I r h
 obtain⟨e,h⟩:=h
 subst e
 cases r
 exact assignInOrder_nil ⟨σ,H,I,h⟩
theorem zFR{e:Expr}{es:List Expr}{t:TG}{u:TGs}(h1:PG X e t)(h2:PGs X es u)
  (hs:(assignEach (e::es) X.env).map (·.2)=assign e X.env::(assignEach es X.env).map (·.2):=by rfl):PGs X (e::es) (zKh t u):=by
 intro pins s σ H vs us Q I r h
 obtain⟨v,vr,e1,h⟩:=h
 subst e1
 cases r with
 |cons r rr=>
  rw[hs]
  refine assignInOrder_cons (thn (h1 pins s σ H _ _ _ I r h) λ_ s1 ⟨σ1,H1,I1,q1⟩=>?_)
  exact h2 pins s1 σ1 H1 _ _ Q I1 rr q1
def zLf(K:W.Frag)(n:Nat)(t:TGs):TG:=λv σ H Q=>∃a xs,v=.ref a/\SqT K H a xs/\xs.length=n/\t xs σ H Q
theorem zIx{es:List Expr}{k:Nat}{t:TGs}{n:Nat}(hc:X.calm=true)(h:PGs X es t)
  (hn:(assignEach es X.env).length=n:=by rfl) (hst:(assignEach es X.env).findIdx? (·.1)=none:=by rfl):PG X (.Tuple es k pos) (zLf X.K n t):=by
 intro pins s σ H v u Q I r hw
 obtain⟨a,xs,e1,hq,hl,hw⟩:=hw
 subst e1
 cases r
 obtain⟨its,rv,ht,hz⟩:=I.tuple hq
 refine assign_Tuple_tuple (I.ok.hd hc) ht (by simp[hn,<-hl,rv.length]) hst λh' hx=>?_
 have I1:Inv X pins σ H {s with heap:=h'}:=I.kept (t':=s.toks) λb o e=>hx b o (Nat.ne_of_lt (Heap.lt_size e)) e
 exact h pins _ σ H xs _ Q I1 (by simpa using rv) hw
def zLg(to ti:TE)(t:xP):TG:=λv σ H Q=>to σ H λo H1=>ti σ H1 λi H2=>t o i v H2 λH3=>Q σ H3
theorem zIy{o i:Expr}{to ti:TE}{t:xP}(ho:PE X o to)(hi:PE X i ti)(hs:zCX X t)
  (ha:∀v,assign (.Subscript o i pos) X.env v=(do
   let ov <- holding [v] (eval o X.env)
   let iv <- holding [v,ov] (eval i X.env)
   standAt pos
   holding [v,ov,iv] (setItem ov iv v)
   release [v,ov,iv] []):=by intro _;rfl):PG X (.Subscript o i pos) (zLg to ti t):=by
 intro pins s σ H v u Q I r h
 rw[ha]
 refine wpAny_bind (wpAny_holding (thn (ho pins s σ H _ I h) λov s1 ⟨x,H1,I1,r1,q1⟩=>?_))
 refine wpAny_bind (wpAny_holding (thn (hi pins s1 σ H1 _ I1 q1) λiv s2 ⟨y,H2,I2,r2,q2⟩=>?_))
 refine wpAny_bind (wpAny_standAt (wpAny_bind (wpAny_holding (thn (hs pins s2 σ H2 x y v ov iv u _ I2 r1 r2 r q2) λ_ s3 ⟨H3,I3,q3⟩=>?_))))
 exact wpAny_release ⟨σ,H3,I3,q3⟩
def rW(te:TE)(g:TG):TS:=λD σ H=>te σ H λx H1=>g x σ H1 D.nx
theorem zIv{tg e:Expr}{te:TE}{g:TG}(he:PE X e te)(hg:PG X tg g)(hs:swapsWithSole [tg] e pos.line X.env=pure false:=by rfl)(hw:swappedStores [tg] e X.env=pure none:=by rfl)
  (h1:(assignEach [tg] X.env).map (·.2)=[assign tg X.env]:=by rfl):PS X (.Assign [tg] e pos) (rW te g):=by
 intro pins s σ H D I h
 refine wpAny_Assign_stores (thn (he pins s σ H _ I h) λv s1 ⟨x,H1,I1,r1,q1⟩=>?_) hs hw
 rw[h1]
 exact thn (hg pins s1 σ H1 x v _ I1 r1 q1) λ_ s2 q=>q
theorem hZ{i:Nat}{x:Str}{e:Expr}{te:TE}{pos':Pos}(hN:X.N.Nodup)(hi:X.N[i]?=some x)(hx:Loc X.env.scope x)(he:PE X e te)(hs:swapsWith e (some (.Name x pos')) pos.line X.env=pure false:=by rfl)(hf:X.fn x=true\/X.env.scope.names.lookup x=some .local:=by first|exact .inl rfl|exact .inr rfl|assumption):
  PS X (.Assign [.Name x pos'] e pos) (rW te (rP i)):=by
 intro pins s σ H D I h
 refine wpAny_Assign_Name (thn (he pins s σ H _ I h) λv s1 ⟨y,H1,I1,r1,q1⟩=>?_) hs
 exact pZ I1 hN hi hx r1 (λs2 I2=>⟨_,H1,I2,q1⟩) hf
def zKB(i j:Nat)(ta:TA):TS:=λD σ H=>ta σ H λvs H1=>∃v w,vs=[v,w]/\D.nx ((σ.set i (some v)).set j (some w)) H1
theorem zIt{i j:Nat}{x y:Str}{a b:Expr}{ta:TA}{px py pt:Pos}{kt k2 pt2}(hc:X.calm=true)(hN:X.N.Nodup)(hi:X.N[i]?=some x)(hj:X.N[j]?=some y)(hij:i≠j)
  (hx:X.env.scope.names.lookup x=some .local) (hy:X.env.scope.names.lookup y=some .local) (ha:PA X [a,b] ta)
  (hw:swappedStores [.Tuple [.Name x px,.Name y py] kt pt] (.Tuple [a,b] k2 pt2) X.env=pure (some [x,y]))
  (hs:swapsWithSole [.Tuple [.Name x px,.Name y py] kt pt] (.Tuple [a,b] k2 pt2) pos.line X.env=pure false:=by rfl):
  PS X (.Assign [.Tuple [.Name x px,.Name y py] kt pt] (.Tuple [a,b] k2 pt2) pos) (zKB i j ta):=by
 intro pins s σ H D I h
 rw[exec_Assign_arm]
 refine wpAny_bind (wpAny_standAt ?_)
 rw[hs]
 refine wpAny_bind (wpAny_pure ?_)
 rw[if_neg (by decide)]
 refine wpAny_bind (Tuple_ (thn (ha _ pins s σ H _ I h) λus s1 ⟨vs,H1,I1,r1,q1⟩=>?_))
 obtain⟨v,w,e1,q1⟩:=q1
 subst e1
 obtain⟨u1,u2,rfl,rv,rw'⟩:∃u1 u2,us=[u1,u2]/\RelV v u1/\RelV w u2:=by
  cases r1 with
  |cons p q=>
   cases q with
   |cons p' q'=>
    cases q'
    exact⟨_,_,rfl,p,p'⟩
 refine wpAny_newObj_type ?_ (by show 2<=sizeLine;decide)
 have I2:Inv X pins σ H1 {s1 with heap:=s1.heap.push {cls:=.type "tuple",data:=.seq [u1,u2].toArray}}:=I1.kept (t':=s1.toks) λb o e=>Heap.get?_push_of_some _ e
 rw[hw]
 refine wpAny_bind (wpAny_pure ?_)
 show wpAny (model X.prog X.w) X.A (do rule "assign.swapped-stores";let items <- unpackItems (.ref s1.heap.objs.size) 2 none;assignInOrder [λv=>bindName X.env y v,λv=>bindName X.env x v] items.reverse;pure Flow.next) _ _ _
 refine wpAny_bind (wpAny_rule (wpAny_bind (unpackItems_tuple (items:=#[u1,u2]) (I.ok.hd hc) (IsTup.new s1.heap _) λh' hx'=>?_)))
 have I3:=I2.kept (h':=h') (t':=s1.toks) λb o e=>hx' b o (Nat.ne_of_lt (Heap.lt_size e)) e
 show wpAny _ _ (assignInOrder [λv=>bindName X.env y v,λv=>bindName X.env x v] [u2,u1] >>= λ_=>pure Flow.next) _ _ _
 refine wpAny_bind (assignInOrder_cons (wpAny_bindName (pZ I3 hN hj (.inl hy) rw' (λs2 I4=>?_) (.inr hy))))
 refine assignInOrder_cons (wpAny_bindName (pZ I4 hN hi (.inl hx) rv (λs3 I5=>assignInOrder_nil (wpAny_pure ?_)) (.inr hx)))
 rw[List.set_comm _ _ (Ne.symm hij)]at I5
 exact⟨_,H1,I5,q1⟩
end
section
variable{X:Cx}{pos:Pos}
def zHY(c:TT)(tb:TS):TS:=λD σ H=>∃W:Nat->St->Hp->Prop,(∃m,W m σ H)/\∀m σ H,W m σ H ->
 c σ H λb H1=>if b=true then ∃N:St->Hp->Prop,(∀σ' H',N σ' H'->∃m',m'<m/\W m' σ' H')/\tb {D with nx:=N,ct:=N,bk:=D.nx} σ H1 else D.nx σ H1
theorem zFN{c:Expr}{body:List Stmt}{tc:TT}{tb:TS}(hp:PassesOwn (model X.prog X.w) X.A X.env X.xe)(hc:PT X c tc)(hb:PSs X body tb):PS X (.While c body [] pos) (zHY tc tb):=by
 intro pins s σ H D I h
 obtain⟨W,⟨m0,w0⟩,turn⟩:=h
 refine wpAny_While (codeAny_whileLoop (λn s'=>∃σ' H',Inv X pins σ' H' s'/\W n σ' H') ?_ m0 ⟨σ,H,I,w0⟩)
 rintro n s1 ⟨σ1,H1,I1,w1⟩
 refine wpAny_passesOwn hp (thn (hc pins s1 σ1 H1 _ I1 (turn n σ1 H1 w1)) λb s2 ⟨H2,I2,q2⟩=>?_)
 cases b with
 |true=>
  obtain⟨N,hN,q2⟩:=q2
  rw[if_pos rfl]
  refine wpAny_passesOwn hp (thn (hb pins s2 σ1 H2 _ I2 q2) λf s3 q3=>?_)
  cases f with
  |next=>
   obtain⟨σ3,H3,I3,n3⟩:=q3
   obtain⟨m',hm,w3⟩:=hN σ3 H3 n3
   exact⟨m',hm,σ3,H3,I3,w3⟩
  |cont=>
   obtain⟨σ3,H3,I3,n3⟩:=q3
   obtain⟨m',hm,w3⟩:=hN σ3 H3 n3
   exact⟨m',hm,σ3,H3,I3,w3⟩
  |brk=>exact q3
  |ret v=>exact q3
 |false=>
  rw[if_neg Bool.false_ne_true]
  exact wpAny_execs_nil ⟨σ1,H2,I2,q2⟩
end
structure It where
 go:Nat->Hp->Prop
 yld:Nat->Hp->V->Hp->Prop
 stop:Nat->Hp->Prop
def eO(X:Cx)(pins:List (Addr×Obj))(H:Hp)(b:Addr):Prop:=
 H b=none/\b≠X.env.locals/\b∉X.fs/\(b∈X.ex\/X.s₀.heap.objs.size<=b)/\(∀x c,X.env.cells.lookup x=some c->c≠b)/\∀p∈X.pn++pins,p.1≠b
theorem Inv.fpOk{X:Cx}{pins:List (Addr×Obj)}{σ:St}{H H':Hp}{s:Shared}{b:Addr}(I:Inv X pins σ H s)(hb:s.heap.objs.size<=b)(hn:H' b=none):eO X pins H' b:=by
 refine⟨hn,Nat.ne_of_gt (Nat.lt_of_lt_of_le I.lt hb),I.nofs hb,.inr (Nat.le_trans I.sz hb),λx c e z=>?_,λp hp z=>?_⟩
 ·obtain⟨v,q⟩:=I.cell x c e
  exact absurd (Nat.lt_of_lt_of_le q.lt (by rw[z];exact hb)) (Nat.lt_irrefl _)
 ·exact absurd (Nat.lt_of_lt_of_le (Heap.lt_size (I.pin p hp).1) (by rw[z];exact hb)) (Nat.lt_irrefl _)
structure gY (P:Program) (w:World) (K:W.Frag) (tg:Expr) (J:It) (fp:List Addr) (it:Addr) (tn:Nat->Heap->Prop):Prop where
 mem:it∈fp
 obj:∀i h,tn i h->∀b∈fp,∃o,h.get? b=some o/\∀v,o.data≠.cell v
 keep:∀i h h',tn i h->(∀b∈fp,∀o,h.get? b=some o->h'.get? b=some o)->tn i h'
 item:∀(X:Cx),X.prog=P->X.w=w->X.K=K->X.calm=true->∀(i:Nat) (pins:List (Addr×Obj)) (s:Shared) (σ:St) (H:Hp) (E:Value->Shared->Prop),Inv X pins σ H s->(∀b∈fp,eO X pins H b)->tn i s.heap->J.go i H ->
  wpAny (model P w) X.A (pyNext (.ref it)) (λr s1=>∃u,r=some u /\
   wpAny (model P w) X.A (letOwnedTupleGo tg (.ref it) u) (λ_ s2=>∃x H',Inv X pins σ H' s2/\RelV x u/\J.yld i H x H'/\tn (i+1) s2.heap/\∀b∈fp,H' b=none) E s1) E s
 done:∀(X:Cx),X.prog=P->X.w=w->X.K=K->X.calm=true->∀(i:Nat) (pins:List (Addr×Obj)) (s:Shared) (σ:St) (H:Hp) (E:Value->Shared->Prop),Inv X pins σ H s->(∀b∈fp,eO X pins H b)->tn i s.heap->J.stop i H ->
  wpAny (model P w) X.A (pyNext (.ref it)) (λr s1=>r=none/\Inv X pins σ H s1) E s
 self:∀(A:Around) (i:Nat) (s:Shared) (Q:Value->Shared->Prop) (E:Value->Shared->Prop),tn i s.heap->Q (.ref it) s->wpAny (model P w) A (pyIter (.ref it)) Q E s
abbrev TI:=St->Hp->(It->Hp->Prop)->Prop
def PIE(X:Cx)(pins:List (Addr×Obj))(σ:St)(tg:Expr)(R:It->Hp->Prop)(itv:Value)(s2:Shared):Prop:=
 ∃(it:Addr) (fp:List Addr) (tn:Nat->Heap->Prop) (J:It) (H':Hp),itv=.ref it/\Inv X pins σ H' s2/\gY X.prog X.w X.K tg J fp it tn/\tn 0 s2.heap/\(∀b∈fp,eO X pins H' b)/\R J H'
def PI(X:Cx)(tg iter:Expr)(wi:TI):Prop:=
 ∀(pins:List (Addr×Obj)) (s:Shared) (σ:St) (H:Hp) (R:It->Hp->Prop),Inv X pins σ H s->wi σ H R ->
  wpAny (model X.prog X.w) X.A (eval iter X.env) (λv s1=>wpAny (model X.prog X.w) X.A (pyIter v) (PIE X pins σ tg R) X.xe s1) X.xe s
theorem mC{M:Model}{A:Around}{E:Value->Shared->Prop}{s:Shared}{tg:Expr}{it:Addr}{u:Value}{o:Obj}{n:String}{vs:Array Value}{Q:Unit->Shared->Prop}(ho:s.heap.get? it=some o)(hc:o.cls=.type n)(hd:o.data=.fields vs)
    (hn:["enumerate","zip","dict_itemiterator","dict_reverseitemiterator","odict_iterator","itertools.zip_longest","itertools.pairwise"].contains n=false) (hQ:Q () s):wpAny M A (letOwnedTupleGo tg (.ref it) u) Q E s:=by
  unfold letOwnedTupleGo
  cases tg<;>first
    |exact wpAny_pure hQ
    |(cases u<;>first
        |exact wpAny_pure hQ
        | (refine wpAny_bind (wpAny_load ho ?_)
           rw[hc,hd]
           show wpAny M A (if (["enumerate","zip","dict_itemiterator","dict_reverseitemiterator","odict_iterator","itertools.zip_longest","itertools.pairwise"].contains n&&vs[0]? == some (rawInt _))=true then _ else _) Q E s
           rw[if_neg (by intro h;rw[hn,Bool.false_and]at h;cases h)]
           exact wpAny_pure hQ))
def Itl(K:W.Frag)(a:Addr):It:=
 ⟨λi H=>∃xs x,SqL K H a xs/\xs[i]?=some x,λi H x H'=>H'=H/\∀xs,SqL K H a xs->xs[i]?=some x,λi H=>∃xs,SqL K H a xs/\xs.length<=i⟩
def Itt(K:W.Frag)(a:Addr):It:=
 ⟨λi H=>∃xs x,SqT K H a xs/\xs[i]?=some x,λi H x H'=>H'=H/\∀xs,SqT K H a xs->xs[i]?=some x,λi H=>∃xs,SqT K H a xs/\xs.length<=i⟩
def Itr(lo:Int)(n:Nat):It:=⟨λi _=>i<n,λi H x H'=>H'=H/\x=.int (lo+i),λi _=>n<=i⟩
theorem zEq{P:Program}{w:World}{K:W.Frag}{tg:Expr}(a it:Addr):gY P w K tg (Itl K a) [it] it (λi h=>h.IsListIter it a i) where
 mem:=by simp
 obj:=λi h st b hb=>by
  have e:b=it:=by simpa using hb
  subst e
  obtain⟨o,e,c,d⟩:=st
  exact⟨o,e,λv z=>by rw[d]at z;cases z⟩
 keep:=λi h h' st k=>st.at λo e=>k it (by simp) o e
 item:=by
  intro X hP hw hK hc i pins s σ H E I hf st hg
  subst hP hw hK
  obtain⟨xs,x,hq,hx⟩:=hg
  obtain⟨its,rv,p,hz⟩:=I.list hq
  obtain⟨u,hu,ru⟩:=rv.get hx
  obtain⟨f0,f1,f2,f3,f4,f5⟩:=hf it (by simp)
  refine wpAny_pyNext_list_item st p.isList (x:=u) (by simpa using hu) λh' st' sb=>?_
  have I1:Inv X pins σ H {s with heap:=h'}:=I.turned (t':=s.toks) (λb o hb e=>(sb.2 b hb).trans e) f0 f1 f3 f4 f5
  obtain⟨o,e,c,d⟩:=id st'
  exact⟨u,rfl,mC (s:={s with heap:=h'}) e c d (by decide) ⟨x,H,I1,ru,⟨rfl,λys hy=>by rw[I.list_inj hy hq];exact hx⟩,st',λb hb=>(hf b hb).1⟩⟩
 done:=by
  intro X hP hw hK hc i pins s σ H E I hf st hg
  subst hP hw hK
  obtain⟨xs,hq,hx⟩:=hg
  obtain⟨its,rv,p,hz⟩:=I.list hq
  obtain⟨f0,f1,f2,f3,f4,f5⟩:=hf it (by simp)
  have hl:=rv.length
  exact wpAny_pyNext_list_end (I.ok.hd hc) st p.isList (by simp;omega) λh' eb=>⟨rfl,I.turned (t':=s.toks) (λb o hb e=>eb b o hb e) f0 f1 f3 f4 f5⟩
 self:=λ_ _ _ _ _ st h=>wpAny_pyIter_listiter st h
theorem zDJ{P:Program}{w:World}{K:W.Frag}{tg:Expr}(a it:Addr):gY P w K tg (Itt K a) [it] it (λi h=>h.IsTupleIter it a i) where
 mem:=by simp
 obj:=λi h st b hb=>by
  have e:b=it:=by simpa using hb
  subst e
  obtain⟨o,e,c,d⟩:=st
  exact⟨o,e,λv z=>by rw[d]at z;cases z⟩
 keep:=λi h h' st k=>st.at λo e=>k it (by simp) o e
 item:=by
  intro X hP hw hK hc i pins s σ H E I hf st hg
  subst hP hw hK
  obtain⟨xs,x,hq,hx⟩:=hg
  obtain⟨its,rv,p,hz⟩:=I.tuple hq
  obtain⟨u,hu,ru⟩:=rv.get hx
  obtain⟨f0,f1,f2,f3,f4,f5⟩:=hf it (by simp)
  refine wpAny_pyNext_tuple_item st (show s.heap.IsTuple a its.toArray from p) (x:=u) (by simpa using hu) λh' st' sb=>?_
  have I1:Inv X pins σ H {s with heap:=h'}:=I.turned (t':=s.toks) (λb o hb e=>(sb.2 b hb).trans e) f0 f1 f3 f4 f5
  obtain⟨o,e,c,d⟩:=id st'
  exact⟨u,rfl,mC (s:={s with heap:=h'}) e c d (by decide) ⟨x,H,I1,ru,⟨rfl,λys hy=>by rw[I.tuple_inj hy hq];exact hx⟩,st',λb hb=>(hf b hb).1⟩⟩
 done:=by
  intro X hP hw hK hc i pins s σ H E I hf st hg
  subst hP hw hK
  obtain⟨xs,hq,hx⟩:=hg
  obtain⟨its,rv,p,hz⟩:=I.tuple hq
  obtain⟨f0,f1,f2,f3,f4,f5⟩:=hf it (by simp)
  have hl:=rv.length
  exact wpAny_pyNext_tuple_end (I.ok.hd hc) st (show s.heap.IsTuple a its.toArray from p) (by simp;omega) λh' eb=>⟨rfl,I.turned (t':=s.toks) (λb o hb e=>eb b o hb e) f0 f1 f3 f4 f5⟩
 self:=λ_ _ _ _ _ st h=>wpAny_pyIter_tupleiter st h
theorem zDK{P:Program}{w:World}{K:W.Frag}{tg:Expr}(it:Addr)(lo:Int)(n:Nat):gY P w K tg (Itr lo n) [it] it (λi h=>IsRangeIter h it (lo+(i:Nat)*1) ((n:Int)-(i:Nat)) 1) where
 mem:=by simp
 obj:=λi h st b hb=>by
  have e:b=it:=by simpa using hb
  subst e
  exact⟨_,st,λv z=>by
   have z':Data.fields _=Data.cell v:=z
   cases z'⟩
 keep:=λi h h' st k=>k it (by simp) _ st
 item:=by
  intro X hP hw hK hc i pins s σ H E I hf st hg
  subst hP hw hK
  obtain⟨f0,f1,f2,f3,f4,f5⟩:=hf it (by simp)
  have W:=Walks.range (prog:=X.prog) (w:=X.w) (I.ok.hd hc) it lo 1 n
  refine W.item i s _ _ hg st λv h' tk hv st' kk=>?_
  obtain⟨t,rfl⟩:=hv
  have I1:Inv X pins σ H {s with heap:=h',toks:=tk}:=I.turned (λb o hb e=>kk b o (by simpa using hb) e) f0 f1 f3 f4 f5
  refine⟨_,rfl,mC (s:={s with heap:=h',toks:=tk}) (n:="range_iterator") st' rfl rfl (by decide) ⟨.int (lo+i),H,I1,⟨t,?_⟩,⟨rfl,rfl⟩,st',λb hb=>(hf b hb).1⟩⟩
  rw[Int.mul_one]
 done:=by
  intro X hP hw hK hc i pins s σ H E I hf st hg
  subst hP hw hK
  obtain⟨f0,f1,f2,f3,f4,f5⟩:=hf it (by simp)
  exact wpAny_pyNext_range_end (I.ok.hd hc) st (by have:n<=i:=hg;omega) λh' eb=>⟨rfl,I.turned (t':=s.toks) (λb o hb e=>eb b o hb e) f0 f1 f3 f4 f5⟩
 self:=λ_ _ _ _ _ st h=>wpAny_pyIter_rangeiter st h
end L2
namespace L2
open PySem PySem.Spec PyProof.Rows
section
variable{X:Cx}{tg:Expr}
theorem zFG{pins:List (Addr×Obj)}{σ:St}{H:Hp}{s:Shared}{R:It->Hp->Prop}{E:Value->Shared->Prop}{lo hi:Int}{t u v:Tok}{tk:Nat}(I:Inv X pins σ H s)(h1:-(2 ^ 62)<=lo)(h2:lo<2 ^ 62)(h3:-(2 ^ 62)<=hi)(h4:hi<2 ^ 62)
  (q:R (Itr lo (hi-lo).toNat) H):wpAny (model X.prog X.w) X.A (pyIter (.ref s.heap.objs.size)) (PIE X pins σ tg R) E {s with heap:=s.heap.push {cls:=.type "range",data:=.fields #[.int lo t,.int hi u,.int 1 v]},toks:=tk}:=by
 refine wpAny_pyIter_range (IsRange.new ..) (small_one h1 h2 h3 h4) ?_
 have I1:Inv X pins σ H {s with heap:=s.heap.push {cls:=.type "range",data:=.fields #[.int lo t,.int hi u,.int 1 v]},toks:=tk}:=I.kept λb o e=>Heap.get?_push_of_some _ e
 refine⟨(s.heap.push {cls:=.type "range",data:=.fields #[.int lo t,.int hi u,.int 1 v]}).objs.size,[(s.heap.push {cls:=.type "range",data:=.fields #[.int lo t,.int hi u,.int 1 v]}).objs.size],_,_,H,rfl,
  I1.kept (t':=tk) λb o e=>Heap.get?_push_of_some _ e,zDK _ lo (hi-lo).toNat,?_,λb hb=>?_,q⟩
 ·have e1:lo+((0:Nat):Int)*1=lo:=by simp
  have e2:(((hi-lo).toNat:Nat):Int)-((0:Nat):Int)=Builtin.Range.rangeSize lo hi 1:=by rw[rangeSize_one];split<;>omega
  show IsRangeIter _ _ (lo+((0:Nat):Int)*1) ((((hi-lo).toNat:Nat):Int)-((0:Nat):Int)) 1
  rw[e1,e2]
  exact Heap.get?_push_size _ rfl
 ·have e:b=(s.heap.push {cls:=.type "range",data:=.fields #[.int lo t,.int hi u,.int 1 v]}).objs.size:=by simpa using hb
  subst e
  exact I1.fpOk (Nat.le_refl _) (I1.hok.fresh (Nat.le_refl _))
def zKf(ta:TA):TI:=λσ H R=>ta σ H λvs H1=>∃j:Int,vs=[.int j] /\ -(2 ^ 62)<=j/\j<2 ^ 62/\R (Itr 0 j.toNat) H1
theorem zEJ{a:Expr}{ta:TA}{p pos:Pos}(hg:Gl X "range")(hm:X.mg "range"=none)(ha:PA X [a] ta)(hs:starEach [a] X.env=[(false,eval a X.env)]:=by rfl):PI X tg (.Call (.Name "range" p) [a] [] pos) (zKf ta):=by
 intro pins s σ H R I h
 refine Call_ (jU I hg hm boot_range (PyProof.Rows.callWith_type1 (thn (ha pos pins s σ H _ I h) λus s1 ⟨vs,H1,I1,r1,q1⟩=>?_) hs rfl))
 obtain⟨j,e,q1,q2,q⟩:=q1
 subst e
 cases r1 with
 |cons r rr=>
  cases rr
  obtain⟨t,rfl⟩:=r
  exact call_range_1 (zFG I1 (by omega) (by omega) q1 q2 (by simpa using q))
def zKE(wi:TI)(g:TG)(tb:TS):TS:=λD σ H=>wi σ H λJ H1=>∃W:Nat->Nat->St->Hp->Prop,(∃m,W 0 m σ H1)/\∀i m σ H,W i m σ H ->
 (J.stop i H/\D.nx σ H)\/(J.go i H/\∃N:St->Hp->Prop,(∀σ' H',N σ' H'->∃m',m'<m/\W (i+1) m' σ' H')/\∀x H',J.yld i H x H'->g x σ H' λσ2 H2=>tb {D with nx:=N,ct:=N,bk:=D.nx} σ2 H2)
def oB(fp:List Addr)(h:Heap):List (Addr×Obj):=fp.filterMap λb=>(h.get? b).map λo=>(b,o)
theorem pM{fp:List Addr}{h:Heap}{b:Addr}{o:Obj}(hb:b∈fp)(e:h.get? b=some o):(b,o)∈oB fp h:=List.mem_filterMap.mpr ⟨b,hb,by rw[e];rfl⟩
theorem zEP{fp:List Addr}{h:Heap}{p:Addr×Obj}(hp:p∈oB fp h):p.1∈fp/\h.get? p.1=some p.2:=by
 obtain⟨b,hb,e⟩:=List.mem_filterMap.mp hp
 cases q:h.get? b with
 |none=>rw[q]at e;cases e
 |some o=>
  rw[q]at e
  have e':(b,o)=p:=Option.some.inj e
  subst e'
  exact⟨hb,q⟩
theorem Inv.pinned{pins:List (Addr×Obj)}{σ:St}{H:Hp}{s:Shared}{fp:List Addr}(I:Inv X pins σ H s)(hf:∀b∈fp,eO X pins H b)(ho:∀b∈fp,∃o,s.heap.get? b=some o/\∀v,o.data≠.cell v):Inv X (pins++oB fp s.heap) σ H s:=
 I.pins_of λp hp=>(List.mem_append.mp hp).elim (λz=>I.pin p (List.mem_append_right _ z)) λz=>by
  obtain⟨hb,e⟩:=zEP z
  obtain⟨f0,f1,f2,_⟩:=hf p.1 hb
  obtain⟨o,e',d⟩:=ho p.1 hb
  rw[e]at e';cases e'
  exact⟨e,f0,f1,f2,d⟩
theorem Inv.unpinned{pins pl:List (Addr×Obj)}{σ:St}{H:Hp}{s:Shared}(I:Inv X (pins++pl) σ H s):Inv X pins σ H s:=I.pins_of λp hp=>I.pin p (List.mem_append_right _ (List.mem_append_left _ hp))
theorem zIu{iter:Expr}{body:List Stmt}{wi:TI}{g:TG}{tb:TS}{pos:Pos}(hp:PassesOwn (model X.prog X.w) X.A X.env X.xe)(hc:X.calm=true)(hi:PI X tg iter wi)(hg:PG X tg g)(hb:PSs X body tb)
  (hs:∀x,foldedSetIterable iter X.env x=pure x:=by intro _;rfl):PS X (.For tg iter body [] pos) (zKE wi g tb):=by
 intro pins s σ H D I h
 refine wpAny_For (thn (hi pins s σ H _ I h) λv s1 h1=>thn h1 λitv s2 h2=>?_) hs
 obtain⟨it,fp,tn,J,H2,e,I2,T,st2,f2,W,⟨m0,w0⟩,turn⟩:=h2
 subst e
 -- what stays true of the iterator's objects through the loop
 have stat:∀{H':Hp},(∀b∈fp,H' b=none)->∀b∈fp,eO X pins H' b:=λhn b hb=>⟨hn b hb,(f2 b hb).2⟩
 refine codeAny_forLoop_any (λn s'=>∃i σ' H',Inv X pins σ' H' s'/\tn i s'.heap/\(∀b∈fp,H' b=none)/\W i n σ' H') ?_ m0 ⟨0,σ,H2,I2,st2,λb hb=>(f2 b hb).1,w0⟩
 rintro n s3 ⟨i,σ3,H3,I3,st3,fr3,w3⟩
 rcases turn i n σ3 H3 w3 with⟨stop,qn⟩|⟨go,N,hN,step⟩
 ·refine wpAny_passesOwn hp (thn (T.done X rfl rfl rfl hc i pins s3 σ3 H3 X.xe I3 (stat fr3) st3 stop) λr s4 ⟨hr,I4⟩=>?_)
  subst hr
  exact wpAny_execs_nil ⟨σ3,H3,I4,qn⟩
 ·refine wpAny_passesOwn hp (thn (T.item X rfl rfl rfl hc i pins s3 σ3 H3 X.xe I3 (stat fr3) st3 go) λr s4 ⟨u,hr,h4⟩=>?_)
  subst hr
  refine wpAny_passesOwn hp (thn h4 λ_ s5 ⟨x,H5,I5,r5,y5,st5,fr5⟩=>?_)
  have I5':=I5.pinned (stat fr5) (T.obj _ _ st5)
  refine wpAny_passesOwn hp (thn (hg _ s5 σ3 H5 x u _ I5' r5 (step x H5 y5)) λ_ s6 ⟨σ6,H6,I6,q6⟩=>?_)
  refine wpAny_passesOwn hp (thn (hb _ s6 σ6 H6 _ I6 q6) λf s7 q7=>?_)
  have again:∀{σ7:St} {H7:Hp},Inv X (pins++oB fp s5.heap) σ7 H7 s7->N σ7 H7->∃m,m<n/\∃i σ' H',Inv X pins σ' H' s7/\tn i s7.heap/\(∀b∈fp,H' b=none)/\W i m σ' H':=λ{σ7 H7} I7 n7=>by
   obtain⟨m',hm,w7⟩:=hN σ7 H7 n7
   refine⟨m',hm,i+1,σ7,H7,I7.unpinned,T.keep _ _ _ st5 λb hb o e=>(I7.pin (b,o) (List.mem_append_right _ (List.mem_append_right _ (pM hb e)))).1,λb hb=>?_,w7⟩
   obtain⟨o,e,d⟩:=T.obj _ _ st5 b hb
   exact(I7.pin (b,o) (List.mem_append_right _ (List.mem_append_right _ (pM hb e)))).2.1
  cases f with
  |next=>obtain⟨σ7,H7,I7,n7⟩:=q7;exact again I7 n7
  |cont=>obtain⟨σ7,H7,I7,n7⟩:=q7;exact again I7 n7
  |brk=>obtain⟨σ7,H7,I7,q7⟩:=q7;exact⟨σ7,H7,I7.unpinned,q7⟩
  |ret v=>obtain⟨x7,σ7,H7,I7,r7,q7⟩:=q7;exact⟨x7,σ7,H7,I7.unpinned,r7,q7⟩
end
end L2
namespace L2
open PySem PySem.Spec PyProof.Rows
abbrev R2:=V->V->Hp->VK->Prop
def OpR(X:Cx)(f:Value->Value->Sem Value)(r:R2):Prop:=
 ∀(pins:List (Addr×Obj)) (s:Shared) (σ:St) (H:Hp) (x y:V) (v u:Value) (Q:VK),Inv X pins σ H s->RelV x v->RelV y u->r x y H Q ->
  wpAny (model X.prog X.w) X.A (f v u) (EP X pins σ Q) X.xe s
def UnR(X:Cx)(f:Value->Sem Value)(r:V->Hp->VK->Prop):Prop:=
 ∀(pins:List (Addr×Obj)) (s:Shared) (σ:St) (H:Hp) (x:V) (v:Value) (Q:VK),Inv X pins σ H s->RelV x v->r x H Q ->
  wpAny (model X.prog X.w) X.A (f v) (EP X pins σ Q) X.xe s
def CallR(X:Cx)(f:Value)(r:List V->Hp->VK->Prop):Prop:=
 ∀(pins:List (Addr×Obj)) (s:Shared) (σ:St) (H:Hp) (xs:List V) (us:List Value) (Q:VK),Inv X pins σ H s->Vals xs us->r xs H Q ->
  wpAny (model X.prog X.w) X.A (call f us) (EP X pins σ Q) X.xe s
def tOp(r:R2)(ta tb:TE):TE:=λσ H Q=>ta σ H λx H1=>tb σ H1 λy H2=>r x y H2 Q
def tUn(r:V->Hp->VK->Prop)(ta:TE):TE:=λσ H Q=>ta σ H λx H1=>r x H1 Q
def rI(C:Int->Int->Prop)(g:Int->Int->V):R2:=λx y H Q=>∃i j,x=.int i/\y=.int j/\C i j/\Q (g i j) H
def rI0(g:Int->Int->V):R2:=λx y H Q=>∃i j,x=.int i/\y=.int j/\Q (g i j) H
def rU(g:Int->V):V->Hp->VK->Prop:=λx H Q=>∃i,x=.int i/\Q (g i) H
section
variable{X:Cx}{a b c:Expr}{ta tb tc:TE}{pos:Pos}
theorem xO(ha:PE X a ta)(hb:PE X b tb){pins:List (Addr×Obj)}{s:Shared}{σ:St}{H:Hp}{R:V->V->Hp->Prop}(I:Inv X pins σ H s)
  (h:ta σ H λx H1=>tb σ H1 λy H2=>R x y H2) {Q:Value->Shared->Prop} {f:Value->Value->Sem Value}
  (hf:∀v u s2 x y H2,Inv X pins σ H2 s2->RelV x v->RelV y u->R x y H2->wpAny (model X.prog X.w) X.A (f v u) Q X.xe s2):
  wpAny (model X.prog X.w) X.A (eval a X.env) (λv s₁=>wpAny (model X.prog X.w) X.A (eval b X.env) (λu s₂=>wpAny (model X.prog X.w) X.A (f v u) Q X.xe s₂) X.xe s₁) X.xe s:=by
 refine thn (ha pins s σ H _ I h) λv s1 ⟨x,H1,I1,r1,q1⟩=>?_
 refine thn (hb pins s1 σ H1 _ I1 q1) λu s2 ⟨y,H2,I2,r2,q2⟩=>?_
 exact hf v u s2 x y H2 I2 r1 r2 q2
theorem cR{op:Operator}{r:R2}(ho:OpR X (binaryOp op) r)(ha:PE X a ta)(hb:PE X b tb):PE X (.BinOp a op b pos) (tOp r ta tb):=by
 intro pins s σ H Q I h
 exact wpAny_BinOp (xO ha hb I h λv u s2 x y H2 I2 rx ry q=>ho pins s2 σ H2 x y v u Q I2 rx ry q)
theorem zCe{op:UnaryOp}{r:V->Hp->VK->Prop}(ho:UnR X (unaryOp op) r)(ha:PE X a ta):PE X (.UnaryOp op a pos) (tUn r ta):=by
 intro pins s σ H Q I h
 exact UnaryOp_ (thn (ha pins s σ H _ I h) λv s1 ⟨x,H1,I1,r1,q1⟩=>ho pins s1 σ H1 x v Q I1 r1 q1)
theorem opI{f:Value->Value->Sem Value}{C:Int->Int->Prop}{g:Int->Int->Int}
  (rule:∀(i j:Int) (t u:Tok) (s:Shared) (Q:Value->Shared->Prop) (E:Value->Shared->Prop),C i j->Q (.int (g i j) s.toks) {s with toks:=s.toks+1}->wpAny (model X.prog X.w) X.A (f (.int i t) (.int j u)) Q E s):
  OpR X f (rI C λi j=>.int (g i j)):=by
 intro pins s σ H x y v u Q I rx ry h
 obtain⟨i,j,rfl,rfl,hc,q⟩:=h
 obtain⟨t,rfl⟩:=rx
 obtain⟨t',rfl⟩:=ry
 exact rule i j t t' s _ _ hc ⟨.int (g i j),H,I.tok _,⟨_,rfl⟩,q⟩
theorem zCM{f:Value->Value->Sem Value}{g:Int->Int->Int}
  (rule:∀(i j:Int) (t u:Tok) (s:Shared) (Q:Value->Shared->Prop) (E:Value->Shared->Prop),Q (.int (g i j) s.toks) {s with toks:=s.toks+1}->wpAny (model X.prog X.w) X.A (f (.int i t) (.int j u)) Q E s):
  OpR X f (rI0 λi j=>.int (g i j)):=by
 intro pins s σ H x y v u Q I rx ry h
 obtain⟨i,j,rfl,rfl,q⟩:=h
 obtain⟨t,rfl⟩:=rx
 obtain⟨t',rfl⟩:=ry
 exact rule i j t t' s _ _ ⟨.int (g i j),H,I.tok _,⟨_,rfl⟩,q⟩
theorem sZ{f:Value->Value->Sem Value}{g:Int->Int->Bool}
  (rule:∀(i j:Int) (t u:Tok) (s:Shared) (Q:Value->Shared->Prop) (E:Value->Shared->Prop),Q (.bool (g i j)) s->wpAny (model X.prog X.w) X.A (f (.int i t) (.int j u)) Q E s):
  OpR X f (rI0 λi j=>.bl (g i j)):=by
 intro pins s σ H x y v u Q I rx ry h
 obtain⟨i,j,rfl,rfl,q⟩:=h
 obtain⟨t,rfl⟩:=rx
 obtain⟨t',rfl⟩:=ry
 exact rule i j t t' s _ _ ⟨.bl (g i j),H,I,rfl,q⟩
def zL5(i j:Int):Prop:=0<j/\j<1073741824
def zCY(i j:Int):Prop:=0<=j/\j<=1000000/\i.natAbs<2 ^ 64
def CMul(i j:Int):Prop:=(-(2 ^ 64)<i/\i<2 ^ 64)\/(-(2 ^ 64)<j/\j<2 ^ 64)
theorem CMul.ok{i j:Int}(h:CMul i j):IntMulOk i j:=by
 rcases h with⟨h1,h2⟩|⟨h1,h2⟩
 ·exact .of_left (intBits_le_64 h1 h2)
 ·exact .of_right (intBits_le_64 h1 h2)
theorem op_add:OpR X (binaryOp .Add) (rI0 λi j=>.int (i+j)):=zCM λ_ _ _ _ _ _ _ q=>add_int q
theorem zIM:OpR X (binaryOp .Sub) (rI0 λi j=>.int (i-j)):=zCM λ_ _ _ _ _ _ _ q=>sub_int q
theorem op_mul:OpR X (binaryOp .Mult) (rI CMul λi j=>.int (i*j)):=opI λ_ _ _ _ _ _ _ hc q=>mul_int q hc.ok
theorem zBe:OpR X (binaryOp .FloorDiv) (rI zL5 λi j=>.int (i / j)):=opI λi j _ _ _ _ _ hc q=>by
 have h1:(0:Int)<j:=hc.1
 have h2:j<1073741824:=hc.2
 exact floordiv_int (by omega) (by rw[Int.fdiv_eq_ediv_of_nonneg i (by omega)];exact q) (.inl (PyProof.noPylong_small (by omega)))
theorem iA:OpR X (binaryOp .Mod) (rI (λ_ j=>0<j) λi j=>.int (i % j)):=opI λi j _ _ _ _ _ hc q=>by
 have h1:(0:Int)<j:=hc
 exact mod_int' (by omega) (by rw[Int.fmod_eq_emod_of_nonneg i (by omega)];exact q)
theorem zHf:OpR X (binaryOp .Mod) (rI (λ_ j=>j≠0) λi j=>.int (i.fmod j)):=opI λ_ _ _ _ _ _ _ hc q=>mod_int' hc q
theorem zBW:OpR X (binaryOp .Pow) (rI zCY λi j=>.int (i ^ j.toNat)):=opI λ_ _ _ _ _ _ _ hc q=>pow_int_small hc.1 hc.2.1 hc.2.2 q
theorem unI{f:Value->Sem Value}{g:Int->Int}
  (rule:∀(i:Int) (t:Tok) (s:Shared) (Q:Value->Shared->Prop) (E:Value->Shared->Prop),Q (.int (g i) s.toks) {s with toks:=s.toks+1}->wpAny (model X.prog X.w) X.A (f (.int i t)) Q E s):
  UnR X f (rU λi=>.int (g i)):=by
 intro pins s σ H x v Q I rx h
 obtain⟨i,rfl,q⟩:=h
 obtain⟨t,rfl⟩:=rx
 exact rule i t s _ _ ⟨.int (g i),H,I.tok _,⟨_,rfl⟩,q⟩
theorem zBC:UnR X (unaryOp .USub) (rU λi=>.int (-i)):=unI λ_ _ _ _ _ q=>neg_int q
end
section
variable{X:Cx}{a b c:Expr}{ta tb tc:TE}{pos:Pos}
theorem lR{pins:List (Addr×Obj)}{σ:St}{H:Hp}{s:Shared}{Q:VK}{k k':Bool}(I:Inv X pins σ H s)(q:Q (.bl k) H)(e:k=k'):EP X pins σ Q (.bool k') s:=by
 subst e
 exact⟨.bl k,H,I,rfl,q⟩
theorem op_lt:OpR X (compareOp .Lt) (rI0 λi j=>.bl (decide (i<j))):=sZ λ_ _ _ _ _ _ _ q=>lt_int q
theorem zJ5:OpR X (compareOp .LtE) (rI0 λi j=>.bl (decide (i<=j))):=sZ λ_ _ _ _ _ _ _ q=>le_int q
theorem zJ6:OpR X (compareOp .Gt) (rI0 λi j=>.bl (decide (j<i))):=sZ λ_ _ _ _ _ _ _ q=>gt_int q
theorem zJ7:OpR X (compareOp .GtE) (rI0 λi j=>.bl (decide (j<=i))):=sZ λ_ _ _ _ _ _ _ q=>ge_int q
theorem zEM:OpR X (compareOp .Lt) (λx y H Q=>∃i j,x=.str i/\y=.str j/\Q (.bl (decide (i.cps.toList<j.cps.toList))) H):=by
 intro pins s σ H x y v u Q I rx ry h
 obtain⟨i,j,rfl,rfl,q⟩:=h
 obtain⟨t,rfl⟩:=rx
 obtain⟨t',rfl⟩:=ry
 exact lt_str (lR I q rfl)
theorem op_in_str:OpR X (compareOp .In) (λx y H Q=>∃i j,x=.str i/\y=.str j/\Q (.bl (!(Builtin.Str.occurrences j i 0 j.length 1).isEmpty)) H):=by
 intro pins s σ H x y v u Q I rx ry h
 obtain⟨i,j,rfl,rfl,q⟩:=h
 obtain⟨t,rfl⟩:=rx
 obtain⟨t',rfl⟩:=ry
 exact in_str (lR I q rfl)
theorem op_isN:OpR X (compareOp .Is) (λx y H Q=>y=.non/\Q (.bl (decide (x=.non))) H):=by
 intro pins s σ H x y v u Q I rx ry h
 obtain⟨rfl,q⟩:=h
 cases ry
 refine is_none_gen (lR I q ?_)
 cases x<;>first
  |(cases rx;rfl)
  |(obtain⟨t,rfl⟩:=rx;rfl)
theorem op_notN:OpR X (compareOp .IsNot) (λx y H Q=>y=.non/\Q (.bl (!decide (x=.non))) H):=by
 intro pins s σ H x y v u Q I rx ry h
 obtain⟨rfl,q⟩:=h
 cases ry
 refine isnot_none_gen (lR I q ?_)
 cases x<;>first
  |(cases rx;rfl)
  |(obtain⟨t,rfl⟩:=rx;rfl)
theorem OpR.or{f:Value->Value->Sem Value}{r r':R2}(h:OpR X f r)(h':OpR X f r'):OpR X f (λx y H Q=>r x y H Q\/r' x y H Q):=by
 intro pins s σ H x y v u Q I rx ry q
 rcases q with q|q
 ·exact h pins s σ H x y v u Q I rx ry q
 ·exact h' pins s σ H x y v u Q I rx ry q
theorem lN(b:Expr){op:CmpOp}(h:op≠.In:=by decide)(h2:op≠.NotIn:=by decide):behindInMarks op b=false:=by
 have e1:(op==CmpOp.In)=false:=by cases op<;>first|rfl|exact absurd rfl h
 have e2:(op==CmpOp.NotIn)=false:=by cases op<;>first|rfl|exact absurd rfl h2
 cases b<;>simp[behindInMarks,e1,e2]
theorem zG7{op:CmpOp}{r:R2}(ho:OpR X (compareOp op) r)(ha:PE X a ta)(hb:PE X b tb)(hm:behindInMarks op b=false):PE X (.Compare a [op] [b] pos) (tOp r ta tb):=by
 intro pins s σ H Q I h
 exact wpAny_Compare1 (xO ha hb I h λv u s2 x y H2 I2 rx ry q=>ho pins s2 σ H2 x y v u Q I2 rx ry q) hm
def zCb(t:TE):TT:=λσ H Q=>t σ H λx H'=>∃k,x=.bl k/\Q k H'
theorem vB{op:CmpOp}{r:R2}(ho:OpR X (compareOp op) r)(ha:PE X a ta)(hb:PE X b tb)(hm:behindInMarks op b=false):PT X (.Compare a [op] [b] pos) (zCb (tOp r ta tb)):=by
 intro pins s σ H Q I h
 refine wpAny_isTrue_Compare1 (thn (ha pins s σ H _ I h) λv s1 ⟨x,H1,I1,r1,q1⟩=>thn (hb pins s1 σ H1 _ I1 q1) λu s2 ⟨y,H2,I2,r2,q2⟩=>
  thn (ho pins s2 σ H2 x y v u _ I2 r1 r2 q2) λc s3 ⟨z,H3,I3,r3,k,e,q3⟩=>?_) hm
 subst e
 cases r3
 exact wpAny_truthy_bool ⟨H3,I3,q3⟩
def zBH(r r':R2)(ta tb tc:TE):TE:=λσ H Q=>ta σ H λx H1=>tb σ H1 λy H2=>r x y H2 λz H3=>∃k,z=.bl k /\
 (if k=true then tc σ H3 λw' H4=>r' y w' H4 Q else Q (.bl false) H3)
theorem zFV{op op':CmpOp}{r r':R2}(ho:OpR X (compareOp op) r)(ho':OpR X (compareOp op') r')(ha:PE X a ta)(hb:PE X b tb)(hc:PE X c tc)
  (hm:lastMarks [op,op'] [b,c]=false:=by with_unfolding_all rfl):PE X (.Compare a [op,op'] [b,c] pos) (zBH r r' ta tb tc):=by
 intro pins s σ H Q I h
 refine Compare_chain (thn (ha pins s σ H _ I h) λv s1 ⟨x,H1,I1,r1,q1⟩=>chain_link (thn (hb pins s1 σ H1 _ I1 q1) λu s2 ⟨y,H2,I2,r2,q2⟩=>
  thn (ho pins s2 σ H2 x y v u _ I2 r1 r2 q2) λd s3 ⟨z,H3,I3,r3,k,e,q3⟩=>?_)) hm
 subst e
 cases r3
 refine wpAny_truthy_bool ?_
 cases k with
 |false=>exact ite_ff ⟨.bl false,H3,I3,rfl,q3⟩
 |true=>exact ite_tt (chain_last (thn (hc pins s3 σ H3 _ I3 q3) λw' s4 ⟨z',H4,I4,r4,q4⟩=>ho' pins s4 σ H4 y z' u w' Q I4 r2 r4 q4))
theorem lQ:(sizeLine:Nat)<2 ^ 63:=by rw[sizeLine_eq];decide
theorem op_add_str:OpR X (binaryOp .Add) (λx y H Q=>∃i j,x=.str i/\y=.str j/\i.length+j.length<=sizeLine/\Q (.str (i++j)) H):=by
 intro pins s σ H x y v u Q I rx ry h
 obtain⟨i,j,rfl,rfl,hz,q⟩:=h
 obtain⟨t,rfl⟩:=rx
 obtain⟨t',rfl⟩:=ry
 exact add_str (λt' tk=>⟨.str (i++j),H,I.tok _,⟨_,rfl⟩,q⟩) hz
theorem cJ{x:V}{us:List Value}(r:Vals [x] us):∃u,us=[u]/\RelV x u:=by
 cases r with
 |cons r1 r2=>cases r2;exact⟨_,rfl,r1⟩
theorem iB{x y:V}{us:List Value}(r:Vals [x,y] us):∃u w',us=[u,w']/\RelV x u/\RelV y w':=by
 cases r with
 |cons r1 r2=>
  cases r2 with
  |cons r3 r4=>cases r4;exact⟨_,_,rfl,r1,r3⟩
theorem zGl:CallR X (.builtin "abs") (λxs H Q=>∃i,xs=[.int i]/\Q (.int (if i<0 then -i else i)) H):=by
 intro pins s σ H xs us Q I r h
 obtain⟨i,rfl,q⟩:=h
 obtain⟨u,rfl,t,rfl⟩:=cJ r
 exact call_abs_int λu tk=>⟨.int (if i<0 then -i else i),H,I.tok _,⟨_,rfl⟩,q⟩
theorem zFd(hc:X.calm=true):CallR X (.builtin "max") (λxs H Q=>∃i j,xs=[.int i,.int j]/\Q (.int (if j > i then j else i)) H):=by
 intro pins s σ H xs us Q I r h
 obtain⟨i,j,rfl,q⟩:=h
 obtain⟨u,w',rfl,⟨t,rfl⟩,⟨t',rfl⟩⟩:=iB r
 refine max_two_ints (I.ok.hd hc) λh' tk k=>⟨_,H,I.kept k,?_,q⟩
 by_cases hj:j > i
 ·rw[if_pos hj,if_pos hj];exact⟨_,rfl⟩
 ·rw[if_neg hj,if_neg hj];exact⟨_,rfl⟩
theorem zFb(hc:X.calm=true):CallR X (.builtin "min") (λxs H Q=>∃i j,xs=[.int i,.int j]/\Q (.int (if j<i then j else i)) H):=by
 intro pins s σ H xs us Q I r h
 obtain⟨i,j,rfl,q⟩:=h
 obtain⟨u,w',rfl,⟨t,rfl⟩,⟨t',rfl⟩⟩:=iB r
 refine min_two_ints (I.ok.hd hc) λh' tk k=>⟨_,H,I.kept k,?_,q⟩
 by_cases hj:j<i
 ·rw[if_pos hj,if_pos hj];exact⟨_,rfl⟩
 ·rw[if_neg hj,if_neg hj];exact⟨_,rfl⟩
theorem zFf:CallR X (.type "int") (λxs H Q=>(∃i,xs=[.int i]/\Q (.int i) H)\/∃k,xs=[.bl k]/\Q (.int (if k then 1 else 0)) H):=by
 intro pins s σ H xs us Q I r h
 rcases h with⟨i,rfl,q⟩|⟨k,rfl,q⟩
 ·obtain⟨u,rfl,t,rfl⟩:=cJ r
  exact call_int_int ⟨.int i,H,I,⟨_,rfl⟩,q⟩
 ·obtain⟨u,rfl,r1⟩:=cJ r
  cases r1
  exact call_int_bool ⟨.int (if k then 1 else 0),H,I.tok _,⟨_,rfl⟩,q⟩
theorem zGk:CallR X (.builtin "ord") (λxs H Q=>∃x,xs=[.str x]/\x.length=1/\Q (.int (x.cps.getD 0 0:Nat)) H):=by
 intro pins s σ H xs us Q I r h
 obtain⟨x,rfl,hz,q⟩:=h
 obtain⟨u,rfl,t,rfl⟩:=cJ r
 exact ord_of_one hz ⟨.int _,H,I.tok _,⟨_,rfl⟩,q⟩
end
end L2
namespace L2
open PySem PySem.Spec PyProof.Rows
theorem RelO.some_of{v:V}{o:Option Value}(r:RelO (some v) o):∃u,o=some u/\RelV v u:=by
 cases o with
 |none=>exact(show False from r).elim
 |some u=>exact⟨u,rfl,r⟩
end L2
namespace L2
open PySem PySem.Spec PyProof.Rows
structure Room (k:Nat) (A:Around):Prop where
 hd:A.handled=none
 dp:A.depth+3*k+5<recursionLimit
 un:A.units+16*k+200<cLine
 gd:A.guards=some []
theorem Room.mono{j k:Nat}{A:Around}(r:Room k A)(h:j<=k):Room j A:=⟨r.hd,by have:=r.dp;omega,by have:=r.un;omega,r.gd⟩
theorem Room.deeper{k:Nat}{A:Around}(r:Room (k+1) A)(env:Env):Room k (A.deeper env):=
 ⟨r.hd,by have:=r.dp;show A.depth+1+3*k+5<_;omega,by have:=r.un;show A.units+3+16*k+200<_;omega,r.gd⟩
theorem Room.depth{k:Nat}{A:Around}(r:Room k A):A.depth<recursionLimit:=by have:=r.dp;omega
theorem Room.units{k:Nat}{A:Around}(r:Room k A):A.units+64<cLine:=by have:=r.un;omega
def rV:TA:=λ_ H Q=>Q [] H
def wH(ta:TE)(tr:TA):TA:=λσ H Q=>ta σ H λx H1=>tr σ H1 λxs H2=>Q (x::xs) H2
section
variable{X:Cx}{e:Expr}{es:List Expr}{te:TE}{t:TA}{pos:Pos}
theorem dS:PA X [] rV:=λ_ _ _ _ H Q I h=>Calls.spliced_nil ⟨[],H,I,.nil,h⟩
theorem zG9(ha:PE X e te)(hr:PA X es t)(hs:starEach (e::es) X.env=(false,eval e X.env)::starEach es X.env:=by rfl):PA X (e::es) (wH te t):=by
 intro pos pins s σ H Q I h
 rw[hs]
 show wpAny _ _ (spliced ((false,eval e X.env)::backTo pos (starEach es X.env))) _ _ s
 refine Calls.spliced_cons (thn (ha pins s σ H _ I h) λu s1 ⟨x,H1,I1,r1,q1⟩=>?_)
 exact thn (hr pos pins s1 σ H1 _ I1 q1) λus s2 ⟨xs,H2,I2,r2,q2⟩=>⟨x::xs,H2,I2,.cons r1 r2,q2⟩
def zKx(t:TA):TE:=λσ H Q=>t σ H λxs H1=>xs.length<=sizeLine/\∀p,H1 p=none->Q (.ref p) (upd H1 p (.tup xs))
def zCx(t:TA):TE:=λσ H Q=>t σ H λxs H1=>xs.length<=sizeLine/\∀p,H1 p=none->Q (.ref p) (upd H1 p (.lst xs))
theorem zIB{x1}(h:PA X es t):PE X (.Tuple es x1 pos) (zKx t):=by
 intro pins s σ H Q I hq
 refine wpAny_Tuple_spliced (thn (h pos pins s σ H _ I hq) λus s1 ⟨xs,H1,I1,r,z,q⟩=>⟨by rw[<-r.length];exact z,?_⟩)
 have hf:H1 s1.heap.objs.size=none:=I1.hok.fresh (Nat.le_refl _)
 refine⟨.ref s1.heap.objs.size,upd H1 s1.heap.objs.size (.tup xs),I1.laid (t':=s1.toks) (λb u e=>Heap.get?_push_of_some _ e) (Nat.le_refl _) ?_,rfl,q _ hf⟩
 exact⟨z,us,r,⟨_,Heap.get?_push_size _ rfl,rfl,_,rfl⟩⟩
theorem zBT(h:PA X es t):PE X (.List es pos) (zCx t):=by
 intro pins s σ H Q I hq
 refine wpAny_List_spliced (thn (h pos pins s σ H _ I hq) λus s1 ⟨xs,H1,I1,r,z,q⟩=>⟨by rw[<-r.length];exact z,?_⟩)
 have hf:H1 s1.heap.objs.size=none:=I1.hok.fresh (Nat.le_refl _)
 refine⟨.ref s1.heap.objs.size,upd H1 s1.heap.objs.size (.lst xs),I1.laid (t':=s1.toks) (λb u e=>Heap.get?_push_of_some _ e) (Nat.le_refl _) ?_,rfl,q _ hf⟩
 exact⟨z,us,0,r,Heap.get?_push_size _ rfl⟩
end
abbrev Sp:=List V->Hp->VK->XK->Prop
abbrev CXT:=List Env->Hp->Shared->XK->Value->Shared->Prop
structure tH (P:Program) (w:World) (K:W.Frag) (mg:Str->Option Value) (base:Heap) (A:Around) (outer:List Env) (s:Shared) (H:Hp):Prop where
 frames:A.frames=some outer
 mod:Mod K mg base
 bs:∀b o,base.get? b=some o->s.heap.get? b=some o/\H b=none
 bsz:base.objs.size<=s.heap.objs.size
 funs:s.heap.FunFrames base outer
 frf:∀b∈frs outer,H b=none
 hok:HOk P w H s.heap
 bare:AllBare s.gens
def CE(outer:List Env)(P:Program)(w:World)(H:Hp)(s:Shared)(Q:VK)(u:Value)(s':Shared):Prop:=
 ∃v H',s'.os=s.os/\AllBare s'.gens/\Un (frs outer) [] H H' s.heap s'.heap/\HOk P w H' s'.heap/\RelV v u/\Q v H'
def CR(CX:CXT)(outer:List Env)(P:Program)(w:World)(H:Hp)(s:Shared)(Q:VK)(E:XK)(r:Result)(s':Shared):Prop:=
 match r with
 |.ok (.ret u)=>CE outer P w H s Q u s'
 |.ok _=>False
 |.error e=>CX outer H s E e s'
structure FnOk (P:Program) (w:World) (K:W.Frag) (mg:Str->Option Value) (base:Heap) (CX:CXT) (k:Nat) (f:Addr) (fd:FuncData) (ps:List Str) (sp:Sp):Prop where
 len:∀vs H Q E,sp vs H Q E->vs.length=ps.length
 run:∀(A:Around) (outer:List Env) (s:Shared) (H:Hp) (args:Args) (us:List Value) (vs:List V) (Q:VK) (E:XK),Room k A->tH P w K mg base A outer s H->BindsTo s fd args (ps.zip us)->Vals vs us->sp vs H Q E ->
  codeAny (model P w) A (.call (.ref f) args) (CR CX outer P w H s Q E) s
theorem FnOk.imp{P:Program}{w:World}{K:W.Frag}{mg:Str->Option Value}{base:Heap}{CX:CXT}{k:Nat}{f:Addr}{fd:FuncData}{ps:List Str}{sp sp':Sp}(F:FnOk P w K mg base CX k f fd ps sp)
  (h:∀vs H Q E,sp' vs H Q E->sp vs H Q E):FnOk P w K mg base CX k f fd ps sp':=
 ⟨λvs H Q E q=>F.len vs H Q E (h _ _ _ _ q),λA outer s H args us vs Q E hr he hb hv hs=>F.run A outer s H args us vs Q E hr he hb hv (h _ _ _ _ hs)⟩
section
variable{X:Cx}{pins:List (Addr×Obj)}{σ:St}{H:Hp}{s s':Shared}
theorem Inv.env0(I:Inv X pins σ H s):tH X.prog X.w X.K X.mg X.base X.A X.stack s H:=
 ⟨I.ok.frames,I.ok.mod,I.bs,Nat.le_trans I.ok.bsz I.sz,I.stack,I.stkFree,I.hok,I.bare⟩
theorem Inv.after{Q:VK}{u:Value}(I:Inv X pins σ H s)(h:CE X.stack X.prog X.w H s Q u s'):EP X pins σ Q u s':=by
 obtain⟨v,H',os,bare,un,hok,r,q⟩:=h
 obtain⟨hh,g,d,t,os'⟩:=s'
 obtain rfl:os'=s.os:=os
 exact⟨v,H',I.call (h':=hh) (g':=g) (d':=d) (t':=t) (ch:=[]) un hok bare (λb z=>absurd z (by simp)),r,q⟩
end
def oG(sp:Sp)(dvs:List V)(E:XK)(t:TA):TE:=λσ H Q=>t σ H λvs H1=>sp (vs++dvs) H1 Q E
def Binds(K:W.Frag)(fd:FuncData)(ps:List Str)(ds:List Value):Prop:=
 ∀(s:Shared) (us:List Value),K.In s.heap->(us++ds).length=ps.length->BindsTo s fd ⟨us,[]⟩ (ps.zip (us++ds))
theorem Binds.all{K:W.Frag}{fd:FuncData}{ps:List Str}(h:∀us:List Value,us.length=ps.length->bindArgs fd ⟨us,[]⟩=pure (ps.zip us)):Binds K fd ps []:=λs us _ hl=>by
 rw[List.append_nil]at hl ⊢
 exact .of_eq (h us hl)
def qZ(CX:CXT)(X:Cx)(E:XK):Prop:=∀(pins:List (Addr×Obj)) (σ:St) (H:Hp) (s:Shared) (e:Value) (s':Shared),Inv X pins σ H s->CX X.stack H s E e s'->X.xe e s'
section
variable{X:Cx}{CX:CXT}{k:Nat}{f C:Addr}{fd:FuncData}{ps:List Str}{sp:Sp}{dvs:List V}{ds:List Value}{E:XK}{x m:Str}{p pos apos:Pos}{e o:Expr}{es:List Expr}{ta:TE}{t:TA}
theorem zBL{pins:List (Addr×Obj)}{σ:St}{H:Hp}{s:Shared}{Q:VK}{us:List Value}{vs:List V}(F:FnOk X.prog X.w X.K X.mg X.base CX k f fd ps sp)(hr:Room k X.A)(hb:Binds X.K fd ps ds)(hd:Vals dvs ds)(hx:qZ CX X E)
  (I:Inv X pins σ H s) (r:Vals vs us) (h:sp (vs++dvs) H Q E):wpAny (model X.prog X.w) X.A (call (.ref f) us) (EP X pins σ Q) X.xe s:=by
 have r2:Vals (vs++dvs) (us++ds):=r.append hd
 have hl:(us++ds).length=ps.length:=by rw[<-r2.length];exact F.len _ _ _ _ h
 refine wpAny_call (codeAny_mono (F.run X.A X.stack s H ⟨us,[]⟩ (us++ds) (vs++dvs) Q E hr I.env0 (hb s us I.kIn hl) r2 h) λr s' hq=>?_)
 cases r with
 |error e=>exact hx pins σ H s e s' I hq
 |ok fl=>
  cases fl with
  |ret u=>exact I.after hq
  |next=>exact False.elim hq
  |brk=>exact False.elim hq
  |cont=>exact False.elim hq
theorem zG8(F:FnOk X.prog X.w X.K X.mg X.base CX k f fd ps sp)(hr:Room k X.A)(hg:Gl X x)(hm:X.mg x=some (.ref f))(hk:W.keepIn X.K (.ref f)=true)(hb:Binds X.K fd ps ds)(hd:Vals dvs ds)(hx:qZ CX X E)
  (ha:PA X (e::es) t) (hdb:(x==("__debug__":Str))=false:=by decide) (he:starEach (e::es) X.env=(false,eval e X.env)::starEach es X.env:=by rfl) (hpl:(backTo pos (starEach es X.env)).any (·.1)=false:=by rfl):
  PE X (.Call (.Name x p) (e::es) [] pos) (oG sp dvs E t):=by
 intro pins s σ H Q I h
 refine wpAny_Call_Name_kw (vM I hg hm ?_ hdb)
 refine PySem.W.callWith_K (h₀:=X.base) I.ok.mod.kin hk (thn (ha pos pins s σ H _ I h) λus s1 ⟨vs,H1,I1,r,q⟩=>⟨I1.kIn,?_⟩) he hpl
 exact zBL F hr hb hd hx I1 r q
theorem zFW(F:FnOk X.prog X.w X.K X.mg X.base CX k f fd ps sp)(hr:Room k X.A)(hg:Gl X x)(hm:X.mg x=some (.ref f))(hk:W.keepIn X.K (.ref f)=true)(hb:Binds X.K fd ps ds)(hd:Vals dvs ds)(hx:qZ CX X E)
  (hdb:(x==("__debug__":Str))=false:=by decide):PE X (.Call (.Name x p) [] [] pos) (oG sp dvs E rV):=by
 intro pins s σ H Q I h
 refine wpAny_Call_Name_kw (vM I hg hm ?_ hdb)
 exact PySem.W.callWith_K0 I.kIn hk (zBL (us:=[]) F hr hb hd hx I .nil h)
end
structure bC (N P:List Str) (sc:Scope):Prop where
 kind:sc.kind=.function
 co:sc.isCoroutine=false
 gen:sc.isGenerator=false
 nd:N.Nodup
 pre:N.take P.length=P
 par:∀x∈P,sc.names.lookup x=some .local\/sc.names.lookup x=some .cell
 nofree:∀y∈sc.names,y.2≠.free
theorem fsc{N P:List Str}{sc:Scope}(h:sc.kind=.function/\sc.isCoroutine=false/\sc.isGenerator=false/\N.Nodup/\N.take P.length=P/\(∀x∈P,sc.names.lookup x=some .local\/sc.names.lookup x=some .cell)/\∀y∈sc.names,y.2≠.free):bC N P sc:=⟨h.1,h.2.1,h.2.2.1,h.2.2.2.1,h.2.2.2.2.1,h.2.2.2.2.2.1,h.2.2.2.2.2.2⟩
theorem zX{kindOf:Str->Option NameKind}{x:Str}:∀{binds:List (Str×Value)}{m:Str->Option Value},(∀v,(x,v)∉binds)->bindL kindOf binds m x=m x
 |[],_,_=>rfl
 |(n,v)::r,m,h=>by
  unfold bindL
  rw[zX λw hw=>h w (List.mem_cons_of_mem _ hw)]
  split
  ·have:x≠n:=by rintro rfl;exact h v List.mem_cons_self
   simp[this]
  ·rfl
theorem zZ{kindOf:Str->Option NameKind}{x:Str}:∀{binds:List (Str×Value)}{m:Str->Option Value},(∀v,(x,v)∉binds)->bindC kindOf binds m x=m x
 |[],_,_=>rfl
 |(n,v)::r,m,h=>by
  unfold bindC
  rw[zZ λw hw=>h w (List.mem_cons_of_mem _ hw)]
  split
  ·rfl
  ·have:x≠n:=by rintro rfl;exact h v List.mem_cons_self
   simp[this]
theorem zY{kindOf:Str->Option NameKind}{x:Str}{v:Value}:∀{P:List Str}{vs:List Value}{i:Nat}{m:Str->Option Value},P.Nodup->P[i]?=some x->vs[i]?=some v->kindOf x=some .local ->
  bindL kindOf (P.zip vs) m x=some v
 |[],_,_,_,_,h,_,_=>by simp at h
 |_::_,[],_,_,_,_,h,_=>by simp at h
 |p::P,w::vs,0,m,nd,h1,h2,hk=>by
  simp at h1 h2;subst h1;subst h2
  show bindL kindOf ((p,w)::P.zip vs) m p=_
  unfold bindL
  rw[zX λv hv=>(List.nodup_cons.mp nd).1 (List.of_mem_zip hv).1,if_pos hk]
  simp
 |p::P,w::vs,i+1,m,nd,h1,h2,hk=>by
  show bindL kindOf ((p,w)::P.zip vs) m x=_
  unfold bindL
  exact zY (i:=i) (List.nodup_cons.mp nd).2 (by simpa using h1) (by simpa using h2) hk
theorem zAa{kindOf:Str->Option NameKind}{x:Str}{v:Value}:∀{P:List Str}{vs:List Value}{i:Nat}{m:Str->Option Value},P.Nodup->P[i]?=some x->vs[i]?=some v->kindOf x≠some .local ->
  bindC kindOf (P.zip vs) m x=some v
 |[],_,_,_,_,h,_,_=>by simp at h
 |_::_,[],_,_,_,_,h,_=>by simp at h
 |p::P,w::vs,0,m,nd,h1,h2,hk=>by
  simp at h1 h2;subst h1;subst h2
  show bindC kindOf ((p,w)::P.zip vs) m p=_
  unfold bindC
  rw[zZ λv hv=>(List.nodup_cons.mp nd).1 (List.of_mem_zip hv).1,if_neg hk]
  simp
 |p::P,w::vs,i+1,m,nd,h1,h2,hk=>by
  show bindC kindOf ((p,w)::P.zip vs) m x=_
  unfold bindC
  exact zAa (i:=i) (List.nodup_cons.mp nd).2 (by simpa using h1) (by simpa using h2) hk
def start(N:List Str)(vs:List V):St:=vs.map some++List.replicate (N.length-vs.length) none
def jC(CX:CXT)(P:Program)(w:World)(K:W.Frag)(mg:Str->Option Value)(base:Heap)(N:List Str)(qual:Str)(scope:Scope)(f:Addr)(cd:Value)(A:Around)(outer:List Env)(s:Shared)(H:Hp)(E:XK):Cx where
 prog:=P
 w:=w
 K:=K
 mg:=mg
 base:=base
 A:=A.deeper (envOfC qual scope s.heap.objs.size f cd)
 N:=N
 s₀:=s
 H₀:=H
 env:=envOfC qual scope s.heap.objs.size f cd
 outer:=outer
 stack:=envOfC qual scope s.heap.objs.size f cd::outer
 ex:=[]
 calm:=true
 fn:=λ_=>true
 pn:=[]
 xe:=λe s'=>wpAny (model P w) (A.deeper (envOfC qual scope s.heap.objs.size f cd)) (leaving (envOfC qual scope s.heap.objs.size f cd) e) (λ_ s''=>CX outer H s E e s'') (λe' s''=>CX outer H s E e' s'') s'
theorem zAE{sc:Scope}{n:Nat}{x:Str}(h:sc.names.lookup x=some .cell):∃c,(cellsFrom n sc.names []).lookup x=some c:=by
 have q:=PySem.W.cellsFrom_some sc.names n [] (.inl h)
 exact Option.isSome_iff_exists.mp q
theorem zEZ{CX:CXT}{P:Program}{w:World}{K:W.Frag}{mg:Str->Option Value}{base:Heap}{N ps:List Str}{qual:Str}{scope:Scope}{f:Addr}{cd:Value}{A:Around}{outer:List Env}{s s1:Shared}{H:Hp}{E:XK}{us:List Value}{vs:List V}
  (S:bC N ps scope) (hd:A.handled=none) (e0:tH P w K mg base A outer s H) (hl:vs.length=ps.length) (r:Vals vs us)
  (x:InCallC s s.heap.objs.size (bindL (envOfC qual scope s.heap.objs.size f cd).kindOf (ps.zip us) λ_=>none) (cellsFrom (s.heap.objs.size+1) scope.names []) (bindC (envOfC qual scope s.heap.objs.size f cd).kindOf (ps.zip us) λ_=>none) s1):
  Inv (jC CX P w K mg base N qual scope f cd A outer s H E) [] (start N vs) H s1:=by
 have hpl:ps.length<=N.length:=by have:=congrArg List.length S.pre;rw[List.length_take]at this;omega
 obtain⟨h1,tk,rfl,hk⟩:=x.done
 have noA:∀b:Addr,b∉(jC CX P w K mg base N qual scope f cd A outer s H E).ex:=λb z=>absurd (show b∈([]:List Addr) from z) (by simp)
 refine⟨⟨e0.mod,S.kind,rfl,rfl,Nat.le_refl _,λy z c h1 h2=>?_,λy hy=>?_,λy c _ h=>?_,λ_=>hd,Around.frames_deeper e0.frames,.inr ⟨rfl,rfl⟩,λb z=>absurd z (noA b),e0.bs,e0.bsz,λb _ _=>noA b,λb z=>absurd z (noA b),e0.funs,e0.frf⟩,
  rfl,e0.bare,Un.kept hk,⟨_,x.toInCall.ns,λi y v h1 h2 h3=>?_⟩,λy c h=>⟨_,x.cell y c h⟩,e0.hok.fresh (Nat.le_refl _),λy c h=>?_,λp hp=>absurd (show p∈([]:List (Addr×Obj)) from hp) (by simp),e0.hok.kept hk,?_⟩
 ·exact name_of_addr x.apart (PySem.mem_of_lookup h1) (PySem.mem_of_lookup h2)
 ·have hy:scope.names.lookup y=some .cell\/scope.names.lookup y=some .free:=hy
  rcases hy with hy|hy
  ·exact zAE hy
  ·exact absurd rfl (S.nofree _ (PySem.mem_of_lookup hy))
 ·exact Nat.le_of_lt (x.above y c (PySem.mem_of_lookup h))
 ·have hi:i<vs.length:=by
   unfold start at h2
   by_cases hi:i<vs.length
   ·exact hi
   ·rw[List.getElem?_append_right (by simpa using hi)]at h2
    rw[List.getElem?_replicate]at h2
    split at h2<;>cases h2
  have ha:vs[i]?=some v:=by
   unfold start at h2
   rw[List.getElem?_append_left (by simpa using hi),List.getElem?_map]at h2
   cases e:vs[i]? with
   |none=>rw[e]at h2;cases h2
   |some a=>rw[e]at h2;cases h2;rfl
  obtain⟨u,hu,rv⟩:=r.get ha
  have hp:ps[i]?=some y:=by
   rw[<-S.pre,List.getElem?_take_of_lt (by omega)];exact h1
  have ndP:ps.Nodup:=by rw[<-S.pre];exact S.nd.sublist (List.take_sublist _ _)
  refine⟨u,rv,?_⟩
  rcases S.par y (List.mem_of_getElem? hp) with k|k
  ·exact .inl ⟨k,zY ndP hp hu k⟩
  ·obtain⟨c,e⟩:=zAE (n:=s.heap.objs.size+1) k
   refine .inr ⟨.inl k,c,e,?_⟩
   have q:=x.cell y c e
   rw[zAa ndP hp hu (by show scope.names.lookup y≠_;rw[k];decide)]at q
   exact q
 ·exact e0.hok.fresh (Nat.le_of_lt (x.above y c (PySem.mem_of_lookup h)))
 ·unfold start
  show _=N.length
  rw[List.length_append,List.length_map,List.length_replicate]
  omega
theorem zKj{CX:CXT}{P:Program}{w:World}{K:W.Frag}{mg:Str->Option Value}{base:Heap}{k:Nat}{f:Addr}{name qual:Str}{params:Arguments}{body:List Stmt}{scope:Scope}{dV kV doc pm cdv ct oc:Value}{an od:Option Addr}
  {osl:Array (Option Value)} {N ps:List Str} {sp:Sp} (lk:K.lookup f=some ⟨oc,od,.func (W.fnOf name qual params body scope dV kV doc pm an cdv ct),osl⟩) (hcd:W.codeIn K cdv qual=true) (S:bC N ps scope)
  (len:∀vs H Q E,sp vs H Q E->vs.length=ps.length)
  (hbody:∀(A:Around) (outer:List Env) (s:Shared) (H:Hp) (vs:List V) (Q:VK) (E:XK),Room k (A.deeper (envOfC qual scope s.heap.objs.size f cdv))->sp vs H Q E ->
   ∃t,PSs (jC CX P w K mg base N qual scope f cdv A outer s H E) body t/\t {nx:=λ_ H'=>Q .non H',rt:=Q} (start N vs) H):
  FnOk P w K mg base CX (k+1) f (W.fnOf name qual params body scope dV kV doc pm an cdv ct) ps sp:=by
 refine⟨len,λA outer s H args us vs Q E hr e0 hb r hsp=>?_⟩
 have hl:=len _ _ _ _ hsp
 have KX:K.In s.heap:=e0.mod.kin.keeps λb o e=>(e0.bs b o e).1
 have lim:s.heap.NoLimit:=e0.mod.nolimit.keeps λb o e=>(e0.bs b o e).1
 have hkind:∀y∈ps.zip us,scope.names.lookup y.1=some .local\/(scope.names.lookup y.1=some .cell/\((cellsFrom (s.heap.objs.size+1) scope.names []).lookup y.1).isSome=true):=λ⟨n,v⟩ hy=>by
  rcases S.par n (List.of_mem_zip hy).1 with q|q
  ·exact .inl q
  ·exact .inr ⟨q,PySem.W.cellsFrom_some _ _ _ (.inl q)⟩
 refine codeAny_call_function hr.depth (KX _ _ lk) rfl S.co S.gen rfl (PySem.W.codeRec_of KX hcd) (hb _ _ _ _ ?_)
 refine wpAny_newFunctionEnv_cells S.kind hkind λenv he s1 x=>?_
 subst he
 refine⟨lim.keeps x.toInCall.keep,codeAny_func ?_⟩
 obtain⟨t,ht,hq⟩:=hbody A outer s H vs Q E (hr.deeper _) hsp
 have I:Inv (jC CX P w K mg base N qual scope f cdv A outer s H E) [] (start N vs) H s1:=zEZ S hr.hd e0 hl r x
 refine wpAny_mono (ht [] s1 (start N vs) H _ I hq) (λfl s' hs=>?_) λe s' hs=>hs
 have fin:∀{σ':St} {H':Hp} {v:V} {u:Value},Inv (jC CX P w K mg base N qual scope f cdv A outer s H E) [] σ' H' s'->RelV v u->Q v H'->CE outer P w H s Q u s':=
  λ{σ' H' v u} J rv q=>⟨v,H',J.os,J.bare,J.base,J.hok,rv,q⟩
 cases fl with
 |ret u=>
  obtain⟨v,σ',H',J,rv,q⟩:=hs
  exact fin J rv q
 |next=>
  obtain⟨σ',H',J,q⟩:=hs
  exact fin (v:=V.non) (u:=Value.none) J rfl q
 |brk=>
  obtain⟨_,_,_,q⟩:=hs
  exact False.elim q
 |cont=>
  obtain⟨_,_,_,q⟩:=hs
  exact False.elim q
end L2
namespace L2
open PySem PySem.Spec PyProof.Rows
section
variable{X:Cx}{x:Str}{p pos:Pos}{e:Expr}{es:List Expr}{t:TA}{id T:String}{r:List V->Hp->VK->Prop}
def tCB(r:List V->Hp->VK->Prop)(t:TA):TE:=λσ H Q=>t σ H λvs H1=>r vs H1 Q
theorem jL(hc:CallR X (.builtin id) r)(hg:Gl X x)(hm:X.mg x=none)(hv:bootBuiltins x=some (.builtin id))(ha:PA X (e::es) t)(hn:x≠"__name__":=by decide)(hdb:(x==("__debug__":Str))=false:=by decide)
  (he:starEach (e::es) X.env=(false,eval e X.env)::starEach es X.env:=by rfl) (hpl:(backTo pos (starEach es X.env)).any (·.1)=false:=by rfl):PE X (.Call (.Name x p) (e::es) [] pos) (tCB r t):=by
 intro pins s σ H Q I h
 refine wpAny_Call_Name_kw (jU I hg hm hv ?_ hn hdb)
 exact PyProof.Rows.callWith_builtin1 (thn (ha pos pins s σ H _ I h) λus s1 ⟨vs,H1,I1,r1,q1⟩=>hc pins s1 σ H1 vs us Q I1 r1 q1) he hpl
theorem iP(hc:CallR X (.type T) r)(hg:Gl X x)(hm:X.mg x=none)(hv:bootBuiltins x=some (.type T))(ha:PA X (e::es) t)(hn:x≠"__name__":=by decide)(hdb:(x==("__debug__":Str))=false:=by decide)
  (he:starEach (e::es) X.env=(false,eval e X.env)::starEach es X.env:=by rfl) (hpl:(backTo pos (starEach es X.env)).any (·.1)=false:=by rfl):PE X (.Call (.Name x p) (e::es) [] pos) (tCB r t):=by
 intro pins s σ H Q I h
 refine wpAny_Call_Name_kw (jU I hg hm hv ?_ hn hdb)
 exact PyProof.Rows.callWith_type1 (thn (ha pos pins s σ H _ I h) λus s1 ⟨vs,H1,I1,r1,q1⟩=>hc pins s1 σ H1 vs us Q I1 r1 q1) he hpl
end
end L2
namespace HT
open PySem PyProof.Rows
section
variable{prog:Program}{w:World}{A:Around}{E:Value->Shared->Prop}{s:Shared}
theorem cat_tup{t b:Addr}{vs ws:List Value}{Q:Value->Shared->Prop}(ht:IsTup s.heap t vs.toArray)(hb:IsTup s.heap b ws.toArray)(hv:vs≠[])
  (h1:ws=[]->Q (.ref t) s) (h2:ws≠[]->Q (.ref s.heap.objs.size) {s with heap:=s.heap.push {cls:=.type "tuple",data:=.seq (vs++ws).toArray}})
  (hsz:vs.length+ws.length<=sizeLine):wpAny (model prog w) A (binaryOp .Add (.ref t) (.ref b)) Q E s:=by
 obtain⟨⟨cls,dd,data,sl⟩,ho,hc,n,hd⟩:=id ht
 obtain⟨⟨cls2,dd2,data2,sl2⟩,ho2,hc2,n2,hd2⟩:=id hb
 simp only at hc hd hc2 hd2
 subst hc hd hc2 hd2
 have e:vs.toArray++ws.toArray=(vs++ws).toArray:=by simp
 by_cases hw:ws=[]
 ·exact concat_meets ⟨_,ho,rfl⟩ ⟨_,ho2,rfl⟩ noFill_tuple_add seq_tuple_add PySem.F.slot_tuple_add PySem.F.entry_tuple_add (PySem.F.args_tuple_add_2 _ _)
   (tuple_addW1 t b vs.toArray ws.toArray n n2 dd dd2 sl sl2 (by simpa using hv) (by simp[hw])) ⟨ho,ho2,h1 hw⟩
 ·refine concat_meets ⟨_,ho,rfl⟩ ⟨_,ho2,rfl⟩ noFill_tuple_add seq_tuple_add PySem.F.slot_tuple_add PySem.F.entry_tuple_add (PySem.F.args_tuple_add_2 _ _)
   (tuple_addW2 t b vs.toArray ws.toArray n n2 dd dd2 sl sl2 (by simpa using hv) (by simpa using hw) (by rw[List.size_toArray,List.size_toArray];exact hsz)) ⟨ho,ho2,?_⟩
  rw[e]
  exact h2 hw
def sIx(n d:Nat):Option Int->Nat
 |none=>d
 |some v=>if v<0 then(v+(n:Int)).toNat else min v.toNat n
theorem zH9(n d:Nat)(hd:d<=n)(o:Option Int):sIx n d o<=n:=by
 cases o with
 |none=>exact hd
 |some v=>
  show(if v<0 then(v+(n:Int)).toNat else min v.toNat n)<=n
  by_cases hv:v<0
  ·rw[if_pos hv];omega
  ·rw[if_neg hv];exact Nat.min_le_right _ _
theorem zBs(v:Int)(n d:Nat):(if v<0 then max (v+(n:Int)) 0 else min v (n:Int))=((sIx n d (some v):Nat):Int):=by
 show(if v<0 then max (v+(n:Int)) 0 else min v (n:Int))=(((if v<0 then(v+(n:Int)).toNat else min v.toNat n):Nat):Int)
 by_cases hv:v<0
 ·simp only[if_pos hv];omega
 ·simp only[if_neg hv];omega
theorem zEi(lo hi:Option Int)(n:Nat):Builtin.Slice.sliceAdjust lo hi 1 (n:Int)=(((sIx n 0 lo:Nat):Int),((sIx n n hi:Nat):Int)):=by
 have h1:¬ ((1:Int)<0):=by omega
 unfold Builtin.Slice.sliceAdjust
 simp only[h1,if_false]
 refine Prod.ext ?_ ?_
 ·cases lo with
  |none=>rfl
  |some v=>exact zBs v n 0
 ·cases hi with
  |none=>rfl
  |some v=>exact zBs v n n
theorem zDR(i j:Nat):Builtin.Slice.slicePlaces (i:Int) (j:Int) 1=j-i:=by
 unfold Builtin.Slice.slicePlaces
 have h1:(1:Int) > 0:=by omega
 simp only[h1,if_true,Int.ediv_one]
 split<;>omega
theorem yP{v:Value}{o:Option Int}{Q:Option Int->Shared->Prop}(p:IsPart v o)(h:Q o s):wpAny (model prog w) A (Builtin.Slice.slicePartIndex v) Q E s:=by
 cases p with
 |none=>exact slicePart_none h
 |int i t=>exact slicePart_int h
theorem sliceApplied_gen{sl:Addr}{vl vu:Value}{lo hi:Option Int}{n:Nat}{Q:Int×Int×Nat->Shared->Prop}(hs:s.heap.IsSliceOf sl vl vu .none)(pl:IsPart vl lo)(pu:IsPart vu hi)
  (h:Q (((sIx n 0 lo:Nat):Int),1,sIx n n hi-sIx n 0 lo) s):wpAny (model prog w) A (Builtin.Slice.sliceApplied (.ref sl) (pure (n:Int))) Q E s:=by
 obtain⟨os,hos,hcs,hds⟩:=id hs
 unfold Builtin.Slice.sliceApplied Builtin.Slice.sliceFields
 refine wpAny_bind (wpAny_bind (wpAny_field hos hds (x:=vl) rfl (wpAny_bind (wpAny_field hos hds (x:=vu) rfl (wpAny_bind (wpAny_field hos hds (x:=.none) rfl (wpAny_pure ?_)))))))
 refine wpAny_bind (slicePart_none ?_)
 show wpAny _ _ (if ((1:Int)==0)=true then _ else _) _ _ s
 rw[if_neg (by decide)]
 refine wpAny_bind (yP pl (wpAny_bind (yP pu (wpAny_bind (wpAny_pure ?_)))))
 show wpAny _ _ (match Builtin.Slice.sliceAdjust lo hi 1 (n:Int) with|(lo,hi)=>pure (lo,(1:Int),Builtin.Slice.slicePlaces lo hi 1)) _ _ s
 rw[zEi lo hi n]
 show wpAny _ _ (pure (((sIx n 0 lo:Nat):Int),(1:Int),Builtin.Slice.slicePlaces ((sIx n 0 lo:Nat):Int) ((sIx n n hi:Nat):Int) 1)) _ _ s
 rw[zDR]
 exact wpAny_pure h
theorem zFQ(xs:Array Value)(i k:Nat):((List.range k).filterMap λ(m:Nat)=>xs[((i:Int)+(m:Int)*1).toNat]?).toArray=((xs.toList.drop i).take k).toArray:=by
 have e:(λ(m:Nat)=>xs[((i:Int)+(m:Int)*1).toNat]?)=λm=>xs[i+m]?:=by
  funext m
  have:((i:Int)+(m:Int)*1).toNat=i+m:=by omega
  rw[this]
 rw[e]
 have:=pick_run xs i k
 rw[List.filterMap_map]at this
 have e2:((λx=>xs[x]?)∘λx=>i+x)=λm=>xs[i+m]?:=rfl
 rw[e2]at this
 rw[this]
theorem getItem_tuple_cut{t sl:Addr}{items:Array Value}{vl vu:Value}{lo hi:Option Int}{Q:Value->Shared->Prop}(ht:IsTup s.heap t items)(hs:s.heap.IsSliceOf sl vl vu .none)(pl:IsPart vl lo)(pu:IsPart vu hi)
  (hw:¬ (sIx items.size 0 lo=0/\sIx items.size items.size hi=items.size))
  (h:Q (.ref s.heap.objs.size) {s with heap:=s.heap.push {cls:=.type "tuple",data:=.seq ((items.toList.drop (sIx items.size 0 lo)).take (sIx items.size items.size hi-sIx items.size 0 lo)).toArray}})
  (hsz:items.size<=sizeLine):wpAny (model prog w) A (getItem (.ref t) (.ref sl)) Q E s:=by
 have htake:sizeOk (.seq ((items.toList.drop (sIx items.size 0 lo)).take (sIx items.size items.size hi-sIx items.size 0 lo)).toArray):=by
  show((items.toList.drop (sIx items.size 0 lo)).take (sIx items.size items.size hi-sIx items.size 0 lo)).toArray.size<=sizeLine
  rw[List.size_toArray,List.length_take,List.length_drop,Array.length_toList]
  omega
 have hj:sIx items.size items.size hi<=items.size:=zH9 _ _ (Nat.le_refl _) hi
 obtain⟨os,hos,hcs,hds⟩:=id hs
 have hTs:s.TypeIs (.ref sl) "slice":=⟨os,hos,hcs⟩
 unfold getItem
 try with_reducible refine wpAny_holding ?_
 first|refine wpAny_bind (wpAny_pure ?_)|skip
 refine wpAny_bind (wpAny_sequenceKey ht.typeIs (by decide) ?_)
 refine wpAny_bind (wpAny_callSpecial?_slot (name:=Str.ofString "__getitem__") ht.typeIs PyProof.Rows.slot_tuple_getitem
  (wpAny_call_entry PyProof.Rows.slot_tuple_getitem ht.typeIs entry_tuple_getitem ?_ (args_tuple_getitem _ _)))
 show wpAny _ _ (Builtin.Tuple.tupleItemsOf (.ref t) >>= _) _ _ s
 refine wpAny_bind (tupleItemsOf_ ht ?_)
 refine wpAny_bind (wpAny_typeOf hTs ?_)
 rw[if_pos (by decide)]
 refine wpAny_bind (sliceApplied_gen hs pl pu ?_)
 have hno:¬ ((((sIx items.size 0 lo:Nat):Int)==0&&(1:Int)==1&&(sIx items.size items.size hi-sIx items.size 0 lo)==items.size)=true):=by
  intro q
  rw[Bool.and_eq_true,Bool.and_eq_true]at q
  have q1:((sIx items.size 0 lo:Nat):Int)=0:=eq_of_beq q.1.1
  have q2:sIx items.size items.size hi-sIx items.size 0 lo=items.size:=eq_of_beq q.2
  exact hw ⟨by omega,by omega⟩
 show wpAny _ _ (if (((sIx items.size 0 lo:Nat):Int)==0&&(1:Int)==1&&(sIx items.size items.size hi-sIx items.size 0 lo)==items.size)=true then _ else _) _ _ s
 rw[if_neg hno,zFQ]
 first
  |exact wpAny_bind (m:=Builtin.Tuple.tupleExact _) (wpAny_newObj_type (wpAny_pure ⟨_,rfl,wpAny_pure h⟩) htake)
  |exact wpAny_bind (m:=Builtin.Tuple.tupleExact _) (wpAny_newObj_type (wpAny_bind (wpAny_pure (wpAny_pure ⟨_,rfl,wpAny_pure h⟩))) htake)
  |exact wpAny_bind (wpAny_bind (m:=Builtin.Tuple.tupleExact _) (wpAny_newObj_type (wpAny_pure (wpAny_pure ⟨_,rfl,wpAny_pure h⟩)) htake))
  |exact wpAny_bind (wpAny_bind (m:=Builtin.Tuple.tupleExact _) (wpAny_newObj_type (wpAny_pure ⟨_,rfl,wpAny_pure h⟩) htake))
end
end HT
namespace L2
open PySem PySem.Spec PyProof.Rows
abbrev TO:=St->Hp->(Option Int->Hp->Prop)->Prop
def PO(X:Cx)(e:Option Expr)(t:TO):Prop:=
 ∀(pins:List (Addr×Obj)) (s:Shared) (σ:St) (H:Hp) (Q:Option Int->Hp->Prop),Inv X pins σ H s->t σ H Q ->
  wpAny (model X.prog X.w) X.A (evalPart e X.env) (λu s'=>∃o H',Inv X pins σ H' s'/\IsPart u o/\Q o H') X.xe s
def zGH:TO:=λ_ H Q=>Q none H
def zJC(t:TE):TO:=λσ H Q=>t σ H λx H1=>∃i,x=.int i/\Q (some i) H1
theorem mT{ns:List Int}:∀{us:List Value},Vals (ns.map V.int) us->IntsAre us ns:=by
 induction ns with
 |nil=>intro us r;rw[List.map_nil]at r;cases r;exact .nil
 |cons n ns ih=>
  intro us r
  rw[List.map_cons]at r
  cases r with
  |cons r1 r2=>
   obtain⟨t,e⟩:=r1
   subst e
   exact .cons n t (ih r2)
section
variable{X:Cx}{e:Expr}{te:TE}{lo hi:Option Expr}{tl th:TO}{pos p2:Pos}
theorem zA9:PO X none zGH:=by
 intro pins s σ H Q I h
 rw[evalPart_none]
 exact wpAny_pure ⟨none,H,I,.none,h⟩
theorem zA8(h:PE X e te):PO X (some e) (zJC te):=by
 intro pins s σ H Q I hw
 rw[evalPart_some]
 refine thn (h pins s σ H _ I hw) λu s1 ⟨x,H1,I1,r1,q1⟩=>?_
 obtain⟨i,rfl,q⟩:=q1
 obtain⟨t,rfl⟩:=r1
 exact⟨some i,H1,I1,.int i t,q⟩
def SlR(X:Cx)(r:V->Option Int->Option Int->Hp->VK->Prop):Prop:=
 ∀(pins:List (Addr×Obj)) (s:Shared) (σ:St) (H:Hp) (x:V) (v vl vu:Value) (lo hi:Option Int) (sl:Addr) (Q:VK),Inv X pins σ H s->RelV x v->s.heap.IsSliceOf sl vl vu .none->IsPart vl lo->IsPart vu hi->r x lo hi H Q ->
  ∃T id,typeLookup (.type T) "__getitem__"=pure (some (.builtin id))/\s.TypeIs v T/\wpAny (model X.prog X.w) X.A (getItem v (.ref sl)) (EP X pins σ Q) X.xe s
theorem SlR.or{r r':V->Option Int->Option Int->Hp->VK->Prop}(h:SlR X r)(h':SlR X r'):SlR X (λx lo hi H Q=>r x lo hi H Q\/r' x lo hi H Q):=by
 intro pins s σ H x v vl vu lo hi sl Q I rx hs pl pu q
 rcases q with q|q
 ·exact h pins s σ H x v vl vu lo hi sl Q I rx hs pl pu q
 ·exact h' pins s σ H x v vl vu lo hi sl Q I rx hs pl pu q
def tSl(r:V->Option Int->Option Int->Hp->VK->Prop)(te:TE)(tl th:TO):TE:=λσ H Q=>te σ H λx H1=>tl σ H1 λl H2=>th σ H2 λu H3=>r x l u H3 Q
theorem zAl{r:V->Option Int->Option Int->Hp->VK->Prop}(hr:SlR X r)(he:PE X e te)(hl:PO X lo tl)(hu:PO X hi th):PE X (.Subscript e (.Slice lo hi none p2) pos) (tSl r te tl th):=by
 intro pins s σ H Q I h
 refine Subscript_ (thn (he pins s σ H _ I h) λv s1 ⟨x,H1,I1,r1,q1⟩=>?_)
 refine wpAny_Slice (thn (hl pins s1 σ H1 _ I1 q1) λvl s2 ⟨l,H2,I2,pl,q2⟩=>thn (hu pins s2 σ H2 _ I2 q2) λvu s3 ⟨u,H3,I3,pu,q3⟩=>?_)
 rw[evalPart_none]
 refine wpAny_pure ?_
 have I4:Inv X pins σ H3 {s3 with heap:=s3.heap.push {cls:=.type "slice",data:=.fields #[vl,vu,.none]}}:=I3.kept (t':=s3.toks) λb ob q=>Heap.get?_push_of_some _ q
 obtain⟨T,id,hT,ht,hg⟩:=hr pins {s3 with heap:=s3.heap.push {cls:=.type "slice",data:=.fields #[vl,vu,.none]}} σ H3 x v vl vu l u s3.heap.objs.size Q I4 r1 (Heap.IsSliceOf.new ..) pl pu q3
 show wpAny (model X.prog X.w) X.A (subscriptTail e (.Slice lo hi none p2) v (.ref s3.heap.objs.size)) (EP X pins σ Q) X.xe {s3 with heap:=s3.heap.push {cls:=.type "slice",data:=.fields #[vl,vu,.none]}}
 exact tail_any (ops:=[.ref s3.heap.objs.size,v]) ht hT hg (by with_unfolding_all rfl)
def fP(xs:List V)(lo hi:Option Int):List V:=(xs.drop (HT.sIx xs.length 0 lo)).take (HT.sIx xs.length xs.length hi-HT.sIx xs.length 0 lo)
theorem yL(xs:List V)(lo hi:Option Int):(fP xs lo hi).length<=xs.length:=by
 unfold fP
 rw[List.length_take,List.length_drop]
 omega
def zKP(K:W.Frag):V->Option Int->Option Int->Hp->VK->Prop:=λx lo hi H Q=>∃a xs,x=.ref a/\SqT K H a xs /\
 ¬ (HT.sIx xs.length 0 lo=0/\HT.sIx xs.length xs.length hi=xs.length)/\∀p,H p=none->Q (.ref p) (upd H p (.tup (fP xs lo hi)))
theorem zH2:SlR X (zKP X.K):=by
 intro pins s σ H x v vl vu lo hi sl Q I rx hs pl pu h
 obtain⟨a,xs,rfl,hx,hw,q⟩:=h
 cases rx
 obtain⟨its,r,ht,hz⟩:=I.tuple hx
 have hlen:its.toArray.size=xs.length:=by rw[List.size_toArray];exact r.length.symm
 refine⟨"tuple",_,PyProof.Rows.slot_tuple_getitem.lookup,ht.typeIs,?_⟩
 refine HT.getItem_tuple_cut ht hs pl pu (by rw[hlen];exact hw) ?_ (by rw[hlen];exact hz)
 rw[hlen]
 refine⟨.ref s.heap.objs.size,_,I.laid (t':=s.toks) (o:=.tup (fP xs lo hi)) (λb ob q=>Heap.get?_push_of_some _ q) (Nat.le_refl _) ?_,rfl,q _ (I.hok.fresh (Nat.le_refl _))⟩
 exact⟨Nat.le_trans (yL xs lo hi) hz,_,(r.drop (HT.sIx xs.length 0 lo)).take (HT.sIx xs.length xs.length hi-HT.sIx xs.length 0 lo),IsTup.new _ _⟩
def zJV(K:W.Frag):R2:=λx y H Q=>∃a b xs ys,x=.ref a/\y=.ref b/\SqT K H a xs/\SqT K H b ys/\xs≠[]/\xs.length+ys.length<=sizeLine /\
 (ys=[]->Q (.ref a) H)/\(ys≠[]->∀p,H p=none->Q (.ref p) (upd H p (.tup (xs++ys))))
theorem Vals.nil_iff{xs:List V}{us:List Value}(r:Vals xs us):us=[]↔xs=[]:=by
 cases r with
 |nil=>simp
 |cons _ _=>simp
theorem zHg:OpR X (binaryOp .Add) (zJV X.K):=by
 intro pins s σ H x y v u Q I rx ry h
 obtain⟨a,b,xs,ys,rfl,rfl,ha,hb,hx,hz,q1,q2⟩:=h
 cases rx
 cases ry
 obtain⟨its,r1,p1,_⟩:=I.tuple ha
 obtain⟨its2,r2,p2,_⟩:=I.tuple hb
 refine HT.cat_tup p1 p2 (λz=>hx (r1.nil_iff.mp z)) (λz=>⟨.ref a,H,I,rfl,q1 (r2.nil_iff.mp z)⟩) (λz=>?_) (by rw[<-r1.length,<-r2.length];exact hz)
 refine⟨.ref s.heap.objs.size,_,I.laid (t':=s.toks) (o:=.tup (xs++ys)) (λb ob q=>Heap.get?_push_of_some _ q) (Nat.le_refl _) ?_,rfl,q2 (λw=>z (r2.nil_iff.mpr w)) _ (I.hok.fresh (Nat.le_refl _))⟩
 exact⟨by rw[List.length_append];exact hz,_,r1.append r2,IsTup.new _ _⟩
end
end L2
namespace L2
open PySem PySem.Spec PyProof.Rows
def ixN(n:Nat)(i:Int):Option Nat:=if 0<=i then(if i<n then some i.toNat else none) else if -(n:Int)<=i then some (i+n).toNat else none
def atI{α:Type}(xs:List α)(i:Int):Option α:=(ixN xs.length i).bind λj=>xs[j]?
theorem zBk{n:Nat}{i:Int}{j:Nat}(h:ixN n i=some j):seqIndex? i n=some j/\j<n /\ -(n:Int)<=i/\i<n:=by
 unfold ixN at h
 by_cases h0:0<=i
 ·rw[if_pos h0]at h
  by_cases h1:i<n
  ·rw[if_pos h1]at h
   have e:i.toNat=j:=Option.some.inj h
   exact⟨by rw[seqIndex_of h0 h1,e],by omega,by omega,h1⟩
  ·rw[if_neg h1]at h;cases h
 ·rw[if_neg h0]at h
  by_cases h1:-(n:Int)<=i
  ·rw[if_pos h1]at h
   have e:(i+n).toNat=j:=Option.some.inj h
   exact⟨by rw[seqIndex_neg (by omega) h1,e],by omega,h1,by omega⟩
  ·rw[if_neg h1]at h;cases h
theorem vR{α:Type}{xs:List α}{i:Int}{v:α}(h:atI xs i=some v):∃j,seqIndex? i xs.length=some j/\xs[j]?=some v/\j<xs.length /\ -(xs.length:Int)<=i/\i<xs.length:=by
 unfold atI at h
 cases e:ixN xs.length i with
 |none=>rw[e]at h;cases h
 |some j=>
  rw[e]at h
  obtain⟨h1,h2,h3,h4⟩:=zBk e
  exact⟨j,h1,h,h2,h3,h4⟩
theorem cM{α:Type}{xs:List α}{j:Nat}{v:α}(h:xs[j]?=some v):atI xs (j:Int)=some v:=by
 have hj:j<xs.length:=(List.getElem?_eq_some_iff.mp h).1
 have e:ixN xs.length (j:Int)=some j:=by
  unfold ixN
  rw[if_pos (by omega),if_pos (by omega)];simp
 unfold atI;rw[e];exact h
def qM(b:Expr):Prop:=∀o i,subscripted b false o i=operate [o,i] (getItem o i)
def IxR(X:Cx)(r:R2):Prop:=
 ∀(value slice:Expr) (pins:List (Addr×Obj)) (s:Shared) (σ:St) (H:Hp) (x y:V) (v u:Value) (Q:VK),Inv X pins σ H s->RelV x v->RelV y u->r x y H Q ->
  subscripted slice false v u=operate [v,u] (getItem v u)->wpAny (model X.prog X.w) X.A (subscriptTail value slice v u) (EP X pins σ Q) X.xe s
def MtR(X:Cx)(id:String)(r:V->List V->Hp->VK->Prop):Prop:=
 ∀(pins:List (Addr×Obj)) (s:Shared) (σ:St) (H:Hp) (x:V) (xs:List V) (v:Value) (us:List Value) (Q:VK),Inv X pins σ H s->RelV x v->Vals xs us->r x xs H Q ->
  wpAny (model X.prog X.w) X.A (call (.builtin id) (v::us)) (EP X pins σ Q) X.xe s
section
variable{X:Cx}{a b:Expr}{ta tb:TE}{pos:Pos}
theorem IxR.or{r r':R2}(h:IxR X r)(h':IxR X r'):IxR X (λx y H Q=>r x y H Q\/r' x y H Q):=by
 intro value slice pins s σ H x y v u Q I rx ry q hs
 rcases q with q|q
 ·exact h value slice pins s σ H x y v u Q I rx ry q hs
 ·exact h' value slice pins s σ H x y v u Q I rx ry q hs
theorem iG{r:R2}(hr:IxR X r)(ha:PE X a ta)(hb:PE X b tb)(hs:qM b):PE X (.Subscript a b pos) (tOp r ta tb):=by
 intro pins s σ H Q I h
 exact Subscript_ (xO ha hb I h λv u s2 x y H2 I2 rx ry q=>hr a b pins s2 σ H2 x y v u Q I2 rx ry q (hs _ _))
def zCC(K:W.Frag):R2:=λx y H Q=>∃p xs i v,x=.ref p/\y=.int i/\SqL K H p xs/\atI xs i=some v/\Q v H
def zCA(K:W.Frag):R2:=λx y H Q=>∃p xs i v,x=.ref p/\y=.int i/\SqT K H p xs/\atI xs i=some v/\Q v H
def zCB:R2:=λx y H Q=>∃z i c,x=.str z/\y=.int i/\z.length<=sizeLine/\atI z.cps.toList i=some c/\Q (.str ⟨#[c]⟩) H
theorem ix_list:IxR X (zCC X.K):=by
 intro value slice pins s σ H x y v u Q I rx ry h hs
 obtain⟨p,xs,i,z,rfl,rfl,hq,he,q⟩:=h
 cases rx
 obtain⟨t,rfl⟩:=ry
 obtain⟨its,r,pl,hz⟩:=I.list hq
 obtain⟨j,h1,h2,h3,h4,h5⟩:=vR he
 obtain⟨w,ew,rw'⟩:=r.get h2
 have hl:=r.length
 have hn:=lQ
 have fin:EP X pins σ Q w s:=⟨z,H,I,rw',q⟩
 by_cases h0:0<=i
 ·have hj:i.toNat=j:=by
   rw[seqIndex_of h0 h5]at h1
   exact Option.some.inj h1
  exact item_listR pl.isList h0 (by omega) (by rw[hj];simpa using ew) fin hs
 ·have hj:(i+(its.toArray.size:Int)).toNat=j:=by
   rw[seqIndex_neg (by omega) h4]at h1
   rw[List.size_toArray,<-hl]
   exact Option.some.inj h1
  exact subscriptTail_builtinR (x:=w) pl.isList.typeIs slot_list_getitem.lookup
   (wpAny_getItem_list_neg (Q:=λr s'=>r=w/\EP X pins σ Q r s') pl.isList (by omega) (by rw[List.size_toArray]<;>omega) (by omega) (by rw[hj];simpa using ew) ⟨rfl,fin⟩) hs
theorem ix_tup:IxR X (zCA X.K):=by
 intro value slice pins s σ H x y v u Q I rx ry h hs
 obtain⟨p,xs,i,z,rfl,rfl,hq,he,q⟩:=h
 cases rx
 obtain⟨t,rfl⟩:=ry
 obtain⟨its,r,pl,hz⟩:=I.tuple hq
 obtain⟨j,h1,h2,h3,h4,h5⟩:=vR he
 obtain⟨w,ew,rw'⟩:=r.get h2
 have hl:=r.length
 have hn:=lQ
 have fin:EP X pins σ Q w s:=⟨z,H,I,rw',q⟩
 exact subscriptTail_builtinR (x:=w) pl.typeIs slot_tuple_getitem.lookup
  (getItem_tuple (j:=j) (Q:=λr s'=>r=w/\EP X pins σ Q r s') pl (by omega) (by omega) (by rw[List.size_toArray,<-hl];exact h1) (by simpa using ew) ⟨rfl,fin⟩) hs
theorem zI7:IxR X zCB:=by
 intro value slice pins s σ H x y v u Q I rx ry h hs
 obtain⟨z,i,c,rfl,rfl,hz,he,q⟩:=h
 obtain⟨t,rfl⟩:=rx
 obtain⟨t',rfl⟩:=ry
 obtain⟨j,h1,h2,h3,h4,h5⟩:=vR he
 have hl:z.cps.toList.length=z.length:=by simp[Str.length]
 rw[hl]at h1 h4 h5
 have hn:=lQ
 exact tail_any (typeIs_str s z t) slot_str_getitem.lookup (getItem_str (c:=c) (by
  have e1:decide (i < -(2 ^ 63:Int))=false:=decide_eq_false (by omega)
  have e2:decide (i>=2 ^ 63)=false:=decide_eq_false (by omega)
  rw[e1,e2,Bool.or_false]) (by rw[h1];simpa using h2) ⟨.str ⟨#[c]⟩,H,I.tok _,⟨_,rfl⟩,q⟩) hs
def rIx(K:W.Frag):R2:=λx y H Q=>zCC K x y H Q\/zCA K x y H Q\/zCB x y H Q
theorem ix_seq:IxR X (rIx X.K):=ix_list.or (ix_tup.or zI7)
theorem zD1(its:List Value)(n j:Nat)(u:Value):Obj.mapSeq (·.setIfInBounds j u) {cls:=.type "list",data:=.seq its.toArray n}={cls:=.type "list",data:=.seq (its.set j u).toArray n}:=by
 simp[Obj.mapSeq]
theorem Inv.lst{pins:List (Addr×Obj)}{σ:St}{H:Hp}{s:Shared}{p:Addr}{xs:List V}(I:Inv X pins σ H s)(h:H p=some (.lst xs)):
  ∃(its:List Value) (n:Nat),Vals xs its/\s.heap.get? p=some {cls:=.type "list",data:=.seq its.toArray n}/\xs.length<=sizeLine:=by
 obtain⟨z,its,n,r,e⟩:=I.hok p _ h
 exact⟨its,n,r,e,z⟩
theorem Inv.lstUpd{pins:List (Addr×Obj)}{σ:St}{H:Hp}{s:Shared}{p:Addr}{xs ys:List V}{its its':List Value}{n n':Nat}{f:Obj->Obj}(I:Inv X pins σ H s)(h:H p=some (.lst xs))
  (ho:s.heap.get? p=some {cls:=.type "list",data:=.seq its.toArray n}) (hf:f {cls:=.type "list",data:=.seq its.toArray n}={cls:=.type "list",data:=.seq its'.toArray n'}) (r:Vals ys its') (hz:ys.length<=sizeLine) (t:Nat):
  Inv X pins σ (upd H p (.lst ys)) {s with heap:=s.heap.update p f,toks:=t}:=by
 have e:(s.heap.update p f).get? p=some {cls:=.type "list",data:=.seq its'.toArray n'}:=by
  rw[Heap.get?_update_self f ho (by rw[hf]<;>rfl),hf]
 refine I.write (x:=p) (e:=p) (by rw[h];trivial) (.inl rfl) (λb u hb q=>(Heap.get?_update_other _ _ (Ne.symm hb)).trans q) ⟨_,e⟩ ?_
 exact⟨hz,its',n',r,e⟩
def zJO:V->V->V->Hp->(Hp->Prop)->Prop:=λo i v H Q=>∃p xs k j,o=.ref p/\i=.int k/\H p=some (.lst xs)/\ixN xs.length k=some j/\Q (upd H p (.lst (xs.set j v)))
theorem zFz:zCX X zJO:=by
 intro pins s σ H o i v ov iv u Q I ro ri rv h
 obtain⟨p,xs,k,j,rfl,rfl,hp,hj,q⟩:=h
 cases ro
 obtain⟨t,rfl⟩:=ri
 obtain⟨its,n,r,ho,hz⟩:=I.lst hp
 obtain⟨h1,h2,h3,h4⟩:=zBk hj
 have hl:=r.length
 have hn:=lQ
 have I':Inv X pins σ (upd H p (.lst (xs.set j v))) {s with heap:=s.heap.update p (Obj.mapSeq (·.setIfInBounds j u))}:=
  I.lstUpd hp ho (zD1 its n j u) (r.set rv j) (by rw[List.length_set];exact hz) s.toks
 by_cases h0:0<=k
 ·have hk:k.toNat=j:=by
   rw[seqIndex_of h0 h4]at h1
   exact Option.some.inj h1
  exact PySem.W.ki_setAt ho h0 (by omega) (by rw[List.size_toArray,<-hl];exact h4) (by rw[hk];exact⟨_,I',q⟩)
 ·have hk:(k+(its.toArray.size:Int)).toNat=j:=by
   rw[seqIndex_neg (by omega) h3]at h1
   rw[List.size_toArray,<-hl]
   exact Option.some.inj h1
  exact PySem.W.ki_setBack ho (by omega) (by rw[List.size_toArray,<-hl];exact h3) (by omega) (by rw[hk];exact⟨_,I',q⟩)
theorem zDh(lo hi:Option Int)(n:Nat):(sliceBounds lo hi none n).1=((HT.sIx n 0 lo:Nat):Int)/\(sliceBounds lo hi none n).2.1=((HT.sIx n n hi:Nat):Int)/\(sliceBounds lo hi none n).2.2=1:=by
 refine⟨?_,?_,rfl⟩
 ·cases lo with
  |none=>simp[sliceBounds,HT.sIx]
  |some i=>
   simp only[sliceBounds,HT.sIx,Option.getD_none,show(1:Int) > 0 by decide,if_true]
   by_cases h:i<0
   ·simp only[h,if_true]<;>omega
   ·simp only[h,if_false]<;>omega
 ·cases hi with
  |none=>simp[sliceBounds,HT.sIx]
  |some i=>
   simp only[sliceBounds,HT.sIx,Option.getD_none,show(1:Int) > 0 by decide,if_true]
   by_cases h:i<0
   ·simp only[h,if_true]<;>omega
   ·simp only[h,if_false]<;>omega
theorem zDa(its:List Value)(lo hi:Option Int):slicePick its.toArray lo hi none=((its.drop (HT.sIx its.length 0 lo)).take (HT.sIx its.length its.length hi-HT.sIx its.length 0 lo)).toArray:=by
 obtain⟨h1,h2,h3⟩:=zDh lo hi its.toArray.size
 unfold slicePick
 rw[h1,h2,h3]
 simp only[sliceRange_one,pick_run,List.size_toArray]<;>rfl
def zKR(K:W.Frag):V->Option Int->Option Int->Hp->VK->Prop:=λx lo hi H Q=>∃a xs,x=.ref a/\SqL K H a xs/\∀p,H p=none->Q (.ref p) (upd H p (.lst (fP xs lo hi)))
theorem sl_list:SlR X (zKR X.K):=by
 intro pins s σ H x v vl vu lo hi sl Q I rx hs pl pu h
 obtain⟨a,xs,rfl,hx,q⟩:=h
 cases rx
 obtain⟨its,r,ht,hz⟩:=I.list hx
 have hlen:=r.length
 refine⟨"list",_,slot_list_getitem.lookup,ht.isList.typeIs,?_⟩
 refine wpAny_getItem_list_slice ht.isList hs pl pu .none (by simp) ?_ (by rw[List.size_toArray]<;>omega)
 rw[zDa,<-hlen]
 refine⟨.ref s.heap.objs.size,_,I.laid (t':=s.toks) (o:=.lst (fP xs lo hi)) (λb ob q=>Heap.get?_push_of_some _ q) (Nat.le_refl _) ?_,rfl,q _ (I.hok.fresh (Nat.le_refl _))⟩
 exact⟨Nat.le_trans (yL xs lo hi) hz,_,0,(r.drop (HT.sIx xs.length 0 lo)).take (HT.sIx xs.length xs.length hi-HT.sIx xs.length 0 lo),Heap.get?_push_size _ rfl⟩
def cY:V->Bool
 |.non=>true
 |.bl _=>true
 |.int _=>true
 |.str _=>true
 |_=>false
def eqV:V->V->Bool
 |.non,.non=>true
 |.bl a,.bl b=>a==b
 |.bl a,.int b=>(if a then 1 else 0)==b
 |.int a,.bl b=>a==(if b then 1 else 0)
 |.int a,.int b=>a==b
 |.str a,.str b=>a==b
 |_,_=>false
theorem zB6{A:Around}{s:Shared}{y x:V}{u v:Value}(ry:RelV y u)(rx:RelV x v)(fy:cY y=true)(fx:cY x=true):SeqAt.EqAt A s u v (eqV y x):=by
 cases y with
 |non=>
  cases ry
  cases x with
  |non=>cases rx;exact SeqAt.EqAt.same _
  |bl b=>cases rx;exact SeqAt.EqAt.none_bool b
  |int b=>obtain⟨t,rfl⟩:=rx;exact SeqAt.EqAt.none_int b t
  |str b=>obtain⟨t,rfl⟩:=rx;exact SeqAt.EqAt.none_str b t
  |_=>exact absurd (show false=true from fx) Bool.false_ne_true
 |bl a=>
  cases ry
  cases x with
  |non=>cases rx;exact SeqAt.EqAt.bool_none a
  |bl b=>cases rx;exact SeqAt.EqAt.bool_bool a b
  |int b=>obtain⟨t,rfl⟩:=rx;exact SeqAt.EqAt.bool_int a b t
  |str b=>obtain⟨t,rfl⟩:=rx;exact SeqAt.EqAt.bool_str a b t
  |_=>exact absurd (show false=true from fx) Bool.false_ne_true
 |int a=>
  obtain⟨t',rfl⟩:=ry
  cases x with
  |non=>cases rx;exact SeqAt.EqAt.int_none a t'
  |bl b=>cases rx;exact SeqAt.EqAt.int_bool a t' b
  |int b=>obtain⟨t,rfl⟩:=rx;exact SeqAt.EqAt.int_int a t' b t
  |str b=>obtain⟨t,rfl⟩:=rx;exact SeqAt.EqAt.int_str a t' b t
  |_=>exact absurd (show false=true from fx) Bool.false_ne_true
 |str a=>
  obtain⟨t',rfl⟩:=ry
  cases x with
  |non=>cases rx;exact SeqAt.EqAt.str_none a t'
  |bl b=>cases rx;exact SeqAt.EqAt.str_bool a t' b
  |int b=>obtain⟨t,rfl⟩:=rx;exact SeqAt.EqAt.str_int a t' b t
  |str b=>obtain⟨t,rfl⟩:=rx;exact SeqAt.EqAt.str_str a t' b t
  |_=>exact absurd (show false=true from fx) Bool.false_ne_true
 |_=>exact absurd (show false=true from fy) Bool.false_ne_true
theorem op_notIn_str:OpR X (compareOp .NotIn) (λx y H Q=>∃i j,x=.str i/\y=.str j/\Q (.bl (!(!(Builtin.Str.occurrences j i 0 j.length 1).isEmpty))) H):=by
 intro pins s σ H x y v u Q I rx ry h
 obtain⟨i,j,rfl,rfl,q⟩:=h
 obtain⟨t,rfl⟩:=rx
 obtain⟨t',rfl⟩:=ry
 exact notIn_str ⟨.bl _,H,I,rfl,q⟩
theorem call_len_seq:CallR X (.builtin "len") (λxs H Q=>∃p ys,xs=[.ref p]/\(SqL X.K H p ys\/SqT X.K H p ys)/\Q (.int ys.length) H):=by
 intro pins s σ H xs us Q I r h
 obtain⟨p,ys,rfl,hq,q⟩:=h
 obtain⟨u,rfl,rx⟩:=cJ r
 cases rx
 have hn:=lQ
 rcases hq with hq|hq
 ·obtain⟨its,r',pl,hz⟩:=I.list hq
  have hlen:=r'.length
  exact Calls.call_len_list pl.isList (by simp only[List.size_toArray]<;>omega) ⟨.int ys.length,H,I.tok _,⟨s.toks+1,by rw[List.size_toArray,hlen]⟩,q⟩
 ·obtain⟨its,r',pl,hz⟩:=I.tuple hq
  have hlen:=r'.length
  exact len_tuple pl (by simp only[List.size_toArray]<;>omega) ⟨.int ys.length,H,I.tok _,⟨s.toks+1,by rw[List.size_toArray,hlen]⟩,q⟩
theorem call_len_str:CallR X (.builtin "len") (λxs H Q=>∃z,xs=[.str z]/\z.length<=sizeLine/\Q (.int z.length) H):=by
 intro pins s σ H xs us Q I r h
 obtain⟨z,rfl,hz,q⟩:=h
 obtain⟨u,rfl,t,rfl⟩:=cJ r
 have hn:=lQ
 exact len_str (by omega) ⟨.int z.length,H,I.tok _,⟨_,rfl⟩,q⟩
theorem CallR.or{f:Value}{r r':List V->Hp->VK->Prop}(h:CallR X f r)(h':CallR X f r'):CallR X f (λxs H Q=>r xs H Q\/r' xs H Q):=by
 intro pins s σ H xs us Q I rs q
 rcases q with q|q
 ·exact h pins s σ H xs us Q I rs q
 ·exact h' pins s σ H xs us Q I rs q
theorem yE:CallR X (.type "list") (λxs H Q=>∃p ys,xs=[.ref p]/\(SqL X.K H p ys\/SqT X.K H p ys)/\∀l,H l=none->Q (.ref l) (upd H l (.lst ys))):=by
 intro pins s σ H xs us Q I r h
 obtain⟨p,ys,rfl,hq,q⟩:=h
 obtain⟨u,rfl,rx⟩:=cJ r
 cases rx
 have fin:∀(its:List Value),Vals ys its->ys.length<=sizeLine->∀(h':Heap) (c':Nat),(∀b o',s.heap.get? b=some o'->h'.get? b=some o') ->
   h'.get? s.heap.objs.size=some {cls:=.type "list",dict:=none,data:=.seq its.toArray c',slots:=#[]}->EP X pins σ Q (.ref s.heap.objs.size) {s with heap:=h'}:=λits r' hz h' c' kp e=>
  ⟨.ref s.heap.objs.size,_,I.laid (t':=s.toks) kp (Nat.le_refl _) (show ObjOk X.prog X.w _ h' _ (.lst ys) from ⟨hz,its,c',r',e⟩),rfl,q _ (I.hok.fresh (Nat.le_refl _))⟩
 rcases hq with hq|hq
 ·obtain⟨its,r',pl,hz⟩:=I.list hq
  have hlen:=r'.length
  obtain⟨o,ho,hc,n,hd⟩:=pl.isList
  exact call_list_seq p (.inl rfl) ho hc hd (λh' c' kp e=>fin its r' hz h' c' kp e) (by simp only[List.size_toArray]<;>omega)
 ·obtain⟨its,r',pl,hz⟩:=I.tuple hq
  have hlen:=r'.length
  obtain⟨o,ho,hc,n,hd⟩:=pl
  exact call_list_seq p (.inr rfl) ho hc hd (λh' c' kp e=>fin its r' hz h' c' kp e) (by simp only[List.size_toArray]<;>omega)
theorem zDe:CallR X (.type "tuple") (λxs H Q=>∃p ys,xs=[.ref p]/\((SqL X.K H p ys/\∀l,H l=none->Q (.ref l) (upd H l (.tup ys)))\/(SqT X.K H p ys/\Q (.ref p) H))):=by
 intro pins s σ H xs us Q I r h
 obtain⟨p,ys,rfl,h⟩:=h
 obtain⟨u,rfl,rx⟩:=cJ r
 cases rx
 rcases h with⟨hq,q⟩|⟨hq,q⟩
 ·obtain⟨its,r',pl,hz⟩:=I.list hq
  have hlen:=r'.length
  refine call_tuple_list pl.isList (λh' kp=>?_) (by simp only[List.size_toArray]<;>omega)
  have I1:Inv X pins σ H {s with heap:=h'}:=I.kept (t':=s.toks) kp
  have I2:Inv X pins σ (upd H h'.objs.size (.tup ys)) {s with heap:=h'.push {cls:=.type "tuple",data:=.seq its.toArray}}:=
   I1.laid (t':=s.toks) (λb o e=>Heap.get?_push_of_some _ e) (Nat.le_refl _) (show ObjOk X.prog X.w _ _ _ (.tup ys) from ⟨hz,its,r',IsTup.new _ _⟩)
  exact⟨.ref h'.objs.size,_,I2,rfl,q _ (I1.hok.fresh (Nat.le_refl _))⟩
 ·obtain⟨its,r',pl,hz⟩:=I.tuple hq
  exact call_tuple_same pl ⟨.ref p,H,I,rfl,q⟩
def tyV(K:W.Frag)(T:String)(x:V)(H:Hp):Prop:=match x with
 |.str _=>T="str"
 |.int _=>T="int"
 |.ref p=>(T="list"/\∃xs,SqL K H p xs)\/(T="tuple"/\∃o,K.lookup p=some o/\o.cls=.type "tuple"/\o.dict=none) \/
   (T="dict"/\((∃kvs,H p=some (.dK kvs))\/∃kvs,H p=some (.dT kvs)))\/(T="set"/\∃S n,H p=some (.set S n))
 |_=>False
theorem zBG{pins:List (Addr×Obj)}{σ:St}{H:Hp}{s:Shared}{T:String}{x:V}{v:Value}(I:Inv X pins σ H s)(r:RelV x v)(ty:tyV X.K T x H):
  s.TypeIs v T/\∀a,v=.ref a->∃ob,s.heap.get? a=some ob/\ob.dict=none:=by
 cases x with
 |str z=>
  obtain⟨t,rfl⟩:=r
  cases (show T="str" from ty)
  exact⟨typeIs_str s z t,λ_ e=>nomatch e⟩
 |int i=>
  obtain⟨t,rfl⟩:=r
  cases (show T="int" from ty)
  exact⟨typeIs_int s i t,λ_ e=>nomatch e⟩
 |ref p=>
  cases r
  rcases ty with⟨rfl,xs,hq⟩|⟨rfl,o,hk,hc,hd⟩|⟨rfl,hk⟩|⟨rfl,S,n,hk⟩
  ·obtain⟨its,_,pl,_⟩:=I.list hq
   refine⟨pl.isList.typeIs,λa e=>?_⟩
   cases e
   obtain⟨o,n,e,c,hd,_⟩:=pl
   exact⟨o,e,hd⟩
  ·refine⟨⟨o,I.kIn p o hk,hc⟩,λa e=>?_⟩
   cases e
   exact⟨o,I.kIn _ o hk,hd⟩
  ·have z:∃o,s.heap.get? p=some o/\o.ExactDict:=by
    rcases hk with⟨kvs,hk⟩|⟨kvs,hk⟩
    ·obtain⟨_,_,_,_,o,_,_,e,ex,_⟩:=I.hok p _ hk
     exact⟨o,e,ex⟩
    ·obtain⟨_,_,_,_,o,_,_,e,ex,_⟩:=I.hok p _ hk
     exact⟨o,e,ex⟩
   obtain⟨o,e,ex⟩:=z
   refine⟨⟨o,e,ex.1⟩,λa e2=>?_⟩
   cases e2
   exact⟨o,e,ex.2.1⟩
  ·obtain⟨o,_,_,_,e,ex,_⟩:=I.hok p _ hk
   refine⟨⟨o,e,ex.1⟩,λa e2=>?_⟩
   cases e2
   exact⟨o,e,ex.2.1⟩
 |_=>exact False.elim ty
def zKF(K:W.Frag)(T:String)(r:V->List V->Hp->VK->Prop)(to:TE):TE:=λσ H Q=>to σ H λx H1=>tyV K T x H1/\r x [] H1 Q
def tBM(K:W.Frag)(T:String)(r:V->List V->Hp->VK->Prop)(to:TE)(t:TA):TE:=λσ H Q=>to σ H λx H1=>tyV K T x H1/\t σ H1 λxs H2=>r x xs H2 Q
variable{o e:Expr}{es:List Expr}{to:TE}{t:TA}{name:Str}{apos cpos:Pos}{T id:String}{r:V->List V->Hp->VK->Prop}
theorem zIH(pa:PlainAttrs T)(slot:Slot T name id)(hty:typeOf (.builtin id)=pure (.type "method_descriptor"))(hm:MtR X id r)(ho:PE X o to)
  (hbase:attributeBase o name X.env (eval o X.env)=eval o X.env:=by rfl) (hline:(apos.endLine==cpos.line)=true:=by rfl):PE X (.Call (.Attribute o name apos) [] [] cpos) (zKF X.K T r to):=by
 intro pins s σ H Q I h
 refine wpAny_Call_method0_late hbase hline (thn (ho pins s σ H _ I h) λv s1 ⟨x,H1,I1,r1,ty,q1⟩=>?_)
 obtain⟨h1,h2⟩:=zBG I1 r1 ty
 exact⟨T,id,pa,slot,hty,h1,h2,Calls.callWith_builtin rfl (PySem.evalArgs_none (hm pins s1 σ H1 x [] v [] Q I1 r1 .nil q1))⟩
theorem lW(pa:PlainAttrs T)(slot:Slot T name id)(hty:typeOf (.builtin id)=pure (.type "method_descriptor"))(hm:MtR X id r)(ho:PE X o to)(ha:PA X (e::es) t)
  (hbase:attributeBase o name X.env (eval o X.env)=eval o X.env:=by rfl)
  (hfew:((backTo cpos (starEach (e::es) X.env)).all (λx=>!x.1)&&(backToKw cpos (keywordEach [] X.env)).all (λx=>x.1.isSome)
   && decide ((e::es).length+([]:List Keyword).length+(if ([]:List Keyword).isEmpty then 0 else 1)<30))=true:=by rfl)
  (hline:(apos.endLine==cpos.line)=true:=by rfl) (hs:starEach (e::es) X.env=(false,eval e X.env)::starEach es X.env:=by rfl) (hplain:(backTo cpos (starEach es X.env)).any (·.1)=false:=by rfl):
  PE X (.Call (.Attribute o name apos) (e::es) [] cpos) (tBM X.K T r to t):=by
 intro pins s σ H Q I h
 refine wpAny_Call_method_late hbase hfew hline rfl (thn (ho pins s σ H _ I h) λv s1 ⟨x,H1,I1,r1,ty,q1⟩=>?_)
 obtain⟨h1,h2⟩:=zBG I1 r1 ty
 refine⟨T,id,pa,slot,hty,h1,h2,?_⟩
 have hA:=ha cpos pins s1 σ H1 _ I1 q1
 rw[hs]at hA ⊢
 refine Calls.callWith_builtin (by show(false || (backTo cpos (starEach es X.env)).any (·.1))=false;rw[hplain]<;>rfl) (Calls.evalArgs_plain ?_)
 exact thn hA λus s2 ⟨vs,H2,I2,r2,q2⟩=>hm pins s2 σ H2 x vs v us Q I2 r1 r2 q2
end
end L2
namespace L2
open PySem PySem.Spec PyProof.Rows
def MtM(X:Cx)(id:String)(r:V->List V->Hp->VK->Prop):Prop:=
 ∀(pins:List (Addr×Obj)) (s:Shared) (σ:St) (H:Hp) (x:V) (xs:List V) (v:Value) (us:List Value) (Q:VK),Inv X pins σ H s->RelV x v->Vals xs us->r x xs H Q ->
  wpAny (model X.prog X.w) X.A (call (.builtin id) (v::us)) (EP X pins σ Q) X.xe s
theorem Vals.one:∀{x:V}{us:List Value},Vals [x] us->∃u,us=[u]/\RelV x u
 |_,_,.cons r .nil=>⟨_,rfl,r⟩
theorem Vals.zero:∀{us:List Value},Vals [] us->us=[]
 |_,.nil=>rfl
theorem Vals.dropLast{xs:List V}{us:List Value}(h:Vals xs us):Vals xs.dropLast us.dropLast:=by
 induction h with
 |nil=>exact .nil
 |cons r t ih=>
  cases t with
  |nil=>exact .nil
  |cons q t'=>exact .cons r ih
theorem Vals.eraseIdx:∀{xs:List V}{us:List Value}(i:Nat),Vals xs us->Vals (xs.eraseIdx i) (us.eraseIdx i)
 |_,_,_,.nil=>.nil
 |_,_,0,.cons _ t=>t
 |_,_,i+1,.cons r t=>.cons r (Vals.eraseIdx i t)
theorem Vals.reverse{xs:List V}{us:List Value}(h:Vals xs us):Vals xs.reverse us.reverse:=by
 induction h with
 |nil=>exact .nil
 |cons r t ih=>rw[List.reverse_cons,List.reverse_cons];exact Vals.append ih (.cons r .nil)
theorem Vals.rep{xs:List V}{us:List Value}(h:Vals xs us):∀k:Nat,Vals (List.replicate k xs).flatten (List.replicate k us).flatten
 |0=>.nil
 |k+1=>by
  rw[List.replicate_succ,List.replicate_succ,List.flatten_cons,List.flatten_cons]
  exact Vals.append h (Vals.rep h k)
theorem zD6{α:Type}(l:List α):l.eraseIdx (l.length-1)=l.dropLast:=by
 induction l with
 |nil=>rfl
 |cons a r ih=>
  cases r with
  |nil=>rfl
  |cons b r=>
   have e:(a::b::r).length-1=((b::r).length-1)+1:=by
    have h1:(a::b::r).length=r.length+2:=rfl
    have h2:(b::r).length=r.length+1:=rfl
    omega
   rw[e,List.eraseIdx_cons_succ,ih]
   all_goals rfl
theorem zO{α:Type}:∀(l:List α) (i:Nat),(l.eraseIdx i).length<=l.length
 |[],_=>Nat.le_refl _
 |_::_,0=>Nat.le_succ _
 |_::r,i+1=>Nat.succ_le_succ (zO r i)
theorem zT(its:List Value):∀(k:Nat) (acc:List Value),
  List.foldl (λx1 x2=>x1++x2) acc.toArray (List.replicate k its.toArray)=(acc++(List.replicate k its).flatten).toArray
 |0,acc=>by simp
 |k+1,acc=>by
  have e:acc.toArray++its.toArray=(acc++its).toArray:=by simp
  have e2:(acc++its)++(List.replicate k its).flatten=acc++(List.replicate (k+1) its).flatten:=by
   rw[List.replicate_succ,List.flatten_cons,List.append_assoc]
  rw[<-e2,<-zT its k (acc++its),<-e,List.replicate_succ,List.foldl_cons]
section
variable{X:Cx}{pins:List (Addr×Obj)}{σ:St}{H:Hp}{s:Shared}{l b:Addr}{xs ys zs:List V}
theorem Inv.lset{its its':List Value}{n:Nat}{f:Array Value->Array Value}{t':Nat}(I:Inv X pins σ H s)(hH:H l=some (.lst xs))
  (e:s.heap.get? l=some {cls:=.type "list",data:=.seq its.toArray n}) (hf:f its.toArray=its'.toArray) (hv:Vals ys its') (hz:ys.length<=sizeLine):
  Inv X pins σ (upd H l (.lst ys)) {s with heap:=s.heap.update l (Obj.mapSeq f),toks:=t'}:=by
 have q:=PySem.IsL.update e f
 rw[hf]at q
 refine I.write (x:=l) (e:=l) (by rw[hH];exact trivial) (.inl rfl) (λb' u hb hu=>(Heap.get?_update_other s.heap (Obj.mapSeq f) (Ne.symm hb)).trans hu) ⟨_,q⟩ ?_
 exact⟨hz,its',_,hv,q⟩
theorem Inv.lnew{its:List Value}{t':Nat}(I:Inv X pins σ H s)(hv:Vals ys its)(hz:ys.length<=sizeLine):
  Inv X pins σ (upd H s.heap.objs.size (.lst ys)) {s with heap:=s.heap.push {cls:=.type "list",data:=.seq its.toArray},toks:=t'}:=
 I.laid (λ_ _ q=>Heap.get?_push_of_some _ q) (Nat.le_refl _) ⟨hz,its,0,hv,Heap.get?_push_size _ rfl⟩
theorem Inv.fresh(I:Inv X pins σ H s):H s.heap.objs.size=none:=I.hok.fresh (Nat.le_refl _)
theorem Inv.lstM(I:Inv X pins σ H s)(hH:H l=some (.lst xs)):xs.length<=sizeLine/\∃(its:List Value) (n:Nat),Vals xs its/\xs.length=its.length/\s.heap.get? l=some {cls:=.type "list",data:=.seq its.toArray n}:=by
 obtain⟨z,its,n,r,e⟩:=I.hok l _ hH
 exact⟨z,its,n,r,r.length,e⟩
theorem zAo{n:Nat}(h:n<=sizeLine):Builtin.List.listTooLong n=false:=by
 unfold Builtin.List.listTooLong
 exact decide_eq_false (by omega)
end
section
variable{X:Cx}
def zGR:V->List V->Hp->VK->Prop:=λx vs H Q=>∃l xs y,x=.ref l/\vs=[y]/\H l=some (.lst xs)/\xs.length<sizeLine/\Q .non (upd H l (.lst (xs++[y])))
theorem uE:MtM X "list.append" zGR:=by
 intro pins s σ H x vs v us Q I rx rv h
 obtain⟨l,xs,y,rfl,rfl,hH,hz,q⟩:=h
 cases rx
 obtain⟨u,rfl,ru⟩:=rv.one
 obtain⟨z,its,n,r,hl,e⟩:=I.lstM hH
 refine call_meets F.slot_list_append ⟨_,e,rfl⟩ F.entry_list_append (F.args_list_append_2 _ _) (PySem.list_append l its.toArray n u (by rw[List.size_toArray];omega)) ⟨e,?_⟩
 refine⟨.non,_,I.lset (its':=its++[u]) hH e (by simp) (r.append (.cons ru .nil)) ?_,rfl,q⟩
 rw[List.length_append,List.length_singleton]
 omega
def zKS:V->List V->Hp->VK->Prop:=λx vs H Q=>∃l xs y,x=.ref l/\vs=[]/\H l=some (.lst xs)/\xs[xs.length-1]?=some y/\Q y (upd H l (.lst xs.dropLast))
theorem zIZ:MtM X "list.pop" zKS:=by
 intro pins s σ H x vs v us Q I rx rv h
 obtain⟨l,xs,y,rfl,rfl,hH,hy,q⟩:=h
 cases rx
 have hus:=rv.zero
 subst hus
 obtain⟨z,its,n,r,hl,e⟩:=I.lstM hH
 obtain⟨u,hu,ru⟩:=r.get hy
 have hy':its.toArray[its.toArray.size-1]?=some u:=by
  show its.toArray[its.length-1]?=some u
  rw[<-Array.getElem?_toList,<-hl]
  exact hu
 refine call_meets F.slot_list_pop ⟨_,e,rfl⟩ F.entry_list_pop (F.args_list_pop_1 _) (MeetsSeq.list_pop_last l its.toArray n u hy' (by rw[List.size_toArray];omega)) ⟨e,?_⟩
 refine⟨y,_,I.lset (its':=its.dropLast) hH e ?_ r.dropLast ?_,ru,q⟩
 ·show its.toArray.eraseIdxIfInBounds (its.toArray.size-1)=its.dropLast.toArray
  rw[List.size_toArray,List.eraseIdxIfInBounds_toArray,zD6]
 ·rw[List.length_dropLast]
  omega
def zIf:V->List V->Hp->VK->Prop:=λx vs H Q=>∃l xs i k y,x=.ref l/\vs=[.int i]/\H l=some (.lst xs) /\ -(2 ^ 63)<=i/\i<2 ^ 63/\seqIndex? i xs.length=some k/\xs[k]?=some y/\Q y (upd H l (.lst (xs.eraseIdx k)))
theorem zFY:MtM X "list.pop" zIf:=by
 intro pins s σ H x vs v us Q I rx rv h
 obtain⟨l,xs,i,k,y,rfl,rfl,hH,h1,h2,hk,hy,q⟩:=h
 cases rx
 obtain⟨u,rfl,ru⟩:=rv.one
 obtain⟨t,rfl⟩:=ru
 obtain⟨z,its,n,r,hl,e⟩:=I.lstM hH
 obtain⟨w,hw,rw'⟩:=r.get hy
 refine call_meets F.slot_list_pop ⟨_,e,rfl⟩ F.entry_list_pop (F.args_list_pop_2 _ _)
  (MeetsSeq.list_pop_at l its.toArray n i t k w (fitsIndex_both h1 h2) (by rw[List.size_toArray,<-hl];exact hk) (by rw[<-Array.getElem?_toList];exact hw) (by rw[List.size_toArray];omega)) ⟨e,?_⟩
 refine⟨y,_,I.lset (its':=its.eraseIdx k) hH e ?_ (r.eraseIdx k) ?_,rw',q⟩
 ·show its.toArray.eraseIdxIfInBounds k=(its.eraseIdx k).toArray
  rw[List.eraseIdxIfInBounds_toArray]
 ·have:=zO xs k
  omega
theorem vL{α:Type}(xs:List α)(k:Nat):(List.replicate k xs).flatten.length=k*xs.length:=by
 induction k with
 |zero=>simp
 |succ k ih=>rw[List.replicate_succ,List.flatten_cons,List.length_append,ih,Nat.succ_mul,Nat.add_comm]
end
end L2
namespace Att
open PySem PySem.W PySem.Calls PyProof.Rows
theorem zC2{P:Params}{h:Heap}:∀(ns:List Int) (vs:List Value),WellAll P h vs (ns.map WData.int)->IntsAre vs ns:=by
 intro ns
 induction ns with
 |nil=>
  intro vs w
  rw[List.map_nil]at w
  cases w
  exact .nil
 |cons n ns ih=>
  intro vs w
  rw[List.map_cons]at w
  cases w with
  |cons a b=>
   cases a
   exact .cons _ _ (ih _ b)
theorem zEB{l:OpenLaw}{n:Nat}(hn:l.most=some n){P:Params}{h:Heap}{args:List WData}{vals:List Value}
  (hpre:l.row.toRowW.claim.pre args=true) (hwl:WellAll P h vals args):
  ∃a vs ns,vals=[Value.ref a]/\args=[WData.list (ns.map WData.int)]/\h.get? a=some {cls:=.type "list",data:=.seq vs.toArray}/\IntsAre vs ns/\ns.length<=n:=by
 have hsh:WShape.hasAll [] args [.list .int]=true:=(pre_splitW hpre).1
 have hc:l.pre.holds [] {args:=args}=true:=(pre_splitW hpre).2
 obtain⟨d,r,rfl,h1,h2⟩:=hasAllW_cons hsh
 obtain rfl:=hasAllW_nil h2
 obtain⟨xs,rfl,h3⟩:=hasW_list h1
 obtain⟨ns,rfl⟩:=items_int h3
 have hlen:ns.length<=n:=by
  unfold OpenLaw.pre at hc
  have h4:(WTm.not (.lt (.lit (.int (n:Int))) (.len (.arg 0)))).holds [] {args:=[.list (ns.map .int)]}=true:=by
   have h4:=(holds_andW hc).1
   rw[hn]at h4
   exact h4
  have h5:=condW_of h4 (w_not (w_lt w_lit (w_len_list (w_arg rfl))))
  rw[List.length_map]at h5
  refine Nat.le_of_not_lt λq=>?_
  have q':(n:Int)<((ns.length:Nat):Int):=by omega
  first
   |(rw[decide_eq_true q']at h5;exact absurd h5 (by decide))
   |(simp at h5;omega)
 cases hwl with
 |cons w1 w2=>
  cases w2
  cases w1 with
  |list ho hall=>exact⟨_,_,ns,rfl,rfl,ho,zC2 ns _ hall,hlen⟩
theorem zEH(l:OpenLaw)(args:List WData):l.row.toRowW.claim.post args (.bool true) args=true:=
 postW_of (r:=l.row.toRowW) (X:=(true==true))
  (show WShape.has [] (.bool true) .bool=true by first|rfl|decide|simp[WShape.has,WShape.arms,WShape.armsAll])
  (show(WTm.eq .res (.lit (.bool true))).value [] {args:=args,res:=some (.bool true),after:=args}=some (.bool (true==true)) from w_eq_bool (w_res rfl) w_lit) rfl
theorem attach_call{l:OpenLaw}{n:Nat}{q:Program}{loose:List Str}{XP:(Str->Option Value)->Heap->Prop}{YP:World->Heap->Prop}{d:DefRec}
  (hn:l.most=some n) (hdf:d.params.defaults=[])
  (call:∀(w:World) (s₀ s₁:Shared) (mg mb:Str->Option Value) (fa:Addr) (o:Obj) (pm cd doc:Value) (a:Addr) (vs:List Value) (ns:List Int),
   Ground q loose [] XP w s₀ mg mb s₁.heap->YP w s₁.heap ->
   s₁.heap.get? fa=some o->o.data=.func (docDef d.name d.params d.body d.scope pm cd doc)->s₁.heap.CodeRec cd d.name->mg d.name=some (.ref fa) ->
   s₁.heap.get? a=some {cls:=.type "list",data:=.seq vs.toArray}->IntsAre vs ns->ns.length<=n->s₁.gens=#[] ->
   codeAny (model l.prog w) callerA (.call (.ref fa) ⟨[.ref a],[]⟩) (λr s'=>r=.ok (.ret (.bool true))/\OldK s₁.heap s'.heap/\s'.os=s₁.os/\AllBare s'.gens) s₁):
  WalkO q loose XP YP l.row.toRowW d [] (λf vs=>PySem.call f vs):=by
 intro w s₀ s₁ mg mb G Y fa o pm cd doc dV kV ho hd hcd hD hmg hg args vals as hpre hlay hrd hwl hlo
 obtain rfl:dV=.none:=Dflts.none hD hdf
 obtain rfl:kV=.none:=Dflts.noKw hD
 obtain⟨a,vs,ns,rfl,rfl,hobj,hints,hlen⟩:=zEB hn hpre hwl
 refine enter_call (codeAny_mono (call w s₀ s₁ mg mb fa o pm cd doc a vs ns G Y ho (fd_plain hd) hcd hmg hobj hints hlen hg) λr s' hq=>?_)
 obtain⟨rfl,h2,h3,h4⟩:=hq
 exact⟨.inl ⟨.bool true,.bool true,[],rfl,λ_=>rfl,.bool true,zEH l _,λ_=>⟨List.Pairwise.nil,λ_ hm=>(nomatch hm)⟩⟩,h2,h3,h4⟩
end Att
namespace L2
open PySem PySem.Spec PyProof.Rows
theorem zC:∀{vs:List Value}{ns:List Int},IntsAre vs ns->Vals (ns.map V.int) vs
 |_,_,.nil=>.nil
 |_,_,.cons n t h=>.cons ⟨t,rfl⟩ (zC h)
def xR(H:Hp):Prop:=∀b,H b=none\/∃o xs,H b=some (.frz o (.lst xs))
theorem zF5{P:Program}{w:World}{K:W.Frag}{mg mb:Str->Option Value}{CX:CXT}{k:Nat}{fa a:Addr}{fd:FuncData}{x:Str}{sp:Sp}{s₁:Shared}{vs:List Value}{ns:List Int}
  (KX:K.In s₁.heap) (hns:s₁.heap.Ns mainGlobals mg) (hb:s₁.heap.Ns builtinsNs mb) (hbb:∀x:Str,x≠"__name__"->mb x=bootBuiltins x) (hlim:s₁.heap.NoLimit) (hg:s₁.gens=#[])
  (ha:s₁.heap.get? a=some {cls:=.type "list",data:=.seq vs.toArray}) (hi:IntsAre vs ns) (hl:ns.length<=sizeLine) (hr:Room k callerA)
  (F:∀base:Heap,K.In base->base.Ns mainGlobals mg->FnOk P w K mg base CX k fa fd [x] sp) (hbind:∀(s:Shared) (u:Value),BindsTo s fd ⟨[u],[]⟩ [(x,u)])
  (hsp:∀H:Hp,xR H->SqL K H a (ns.map V.int)->sp [.ref a] H (λv _=>v=.bl true) λ_ _ _=>False)
  (hCX:∀H e s',CX [] H s₁ (λ_ _ _=>False) e s'->False):
  codeAny (model P w) callerA (.call (.ref fa) ⟨[.ref a],[]⟩) (λr s'=>r=.ok (.ret (.bool true))/\OldK s₁.heap s'.heap/\s'.os=s₁.os/\AllBare s'.gens) s₁:=by
 have rv:=zC hi
 have lenV:=hi.length
 -- from an abstract heap in which nothing but the script may be tracked
 have core:∀H:Hp,xR H->SqL K H a (ns.map V.int)->HOk P w H s₁.heap->(∀b,H b≠none->b=a)->(H a≠none->K.lookup a=none) ->
   codeAny (model P w) callerA (.call (.ref fa) ⟨[.ref a],[]⟩) (λr s'=>r=.ok (.ret (.bool true))/\OldK s₁.heap s'.heap/\s'.os=s₁.os/\AllBare s'.gens) s₁:=by
  intro H hO hS hok hA hK
  have base_of:∀{b:Addr} {o:Obj},s₁.heap.get? b=some o->H b=none->(iJ s₁.heap H).get? b=some o:=λe n=>zGa e n
  have noA:∀{b:Addr} {o:Obj} {es:Array DictEntry} {ep:Nat},s₁.heap.get? b=some o->o.data=.dict es ep->H b=none:=λ{b o es ep} e d=>by
   cases q:H b with
   |none=>rfl
   |some u=>
    have e':b=a:=hA b (by rw[q];simp)
    subst e'
    rw[ha]at e;cases e
    have d':Data.seq vs.toArray _=Data.dict es ep:=d
    cases d'
  have nsK:∀{b:Addr} {m:Str->Option Value},s₁.heap.Ns b m->(iJ s₁.heap H).Ns b m:=λ{b m} ⟨o,es,ep,e,d,r⟩=>⟨o,es,ep,base_of e (noA e d),d,r⟩
  have hKb:K.In (iJ s₁.heap H):=λb o e=>base_of (KX b o e) (by
   cases q:H b with
   |none=>rfl
   |some u=>
    have e':b=a:=hA b (by rw[q];simp)
    subst e'
    rw[hK (by rw[q];simp)]at e;cases e)
  have hM:Mod K mg (iJ s₁.heap H):=⟨hKb,nsK hns,⟨mb,nsK hb,hbb⟩,let ⟨mc,h1,h2⟩:=hlim;⟨mc,nsK h1,h2⟩⟩
  have e0:tH P w K mg (iJ s₁.heap H) callerA [] s₁ H:=⟨rfl,hM,λb o e=>zHi e,Nat.le_of_eq (zE0 _ _),trivial,λb hb=>absurd (show b∈([]:List Addr) from hb) (by simp),hok,.of_eq hg⟩
  refine codeAny_mono ((F _ hKb (nsK hns)).run callerA [] s₁ H ⟨[.ref a],[]⟩ [.ref a] [.ref a] _ _ hr e0 (hbind s₁ (.ref a)) (.cons rfl .nil) (hsp H hO hS)) λr s' h=>?_
  cases r with
  |error e=>exact(hCX H e s' h).elim
  |ok fl=>
   cases fl with
   |next=>exact False.elim h
   |brk=>exact False.elim h
   |cont=>exact False.elim h
   |ret u=>
    obtain⟨v,H',os,bare,un,hok',r',q⟩:=h
    have q':v=.bl true:=q
    subst q'
    obtain rfl:u=Value.bool true:=r'
    refine⟨rfl,OldK.of_keep λb o e=>?_,os,bare⟩
    cases q:H b with
    |none=>exact un.keep b o e q (by intro z;exact absurd (show b∈([]:List Addr) from z) (by simp)) (by simp)
    |some u=>
     rcases hO b with z|⟨ob,xs,z⟩
     ·rw[q]at z;cases z
     ·have z2:=un.frzs b ob _ z
      obtain⟨e1,_⟩:=hok b _ z
      obtain⟨e2,_⟩:=hok' b _ z2
      rw[e]at e1;cases e1
      exact e2
 cases hk:K.lookup a with
 |some o=>
  -- the script is one of the module's own objects
  have e:=KX a o hk
  rw[ha]at e
  cases e
  refine core (λ_=>none) (λ_=>.inl rfl) (.inr ⟨_,vs.toArray,_,hk,rfl,rfl,rfl,by rw[List.size_toArray,lenV];exact hl,by simpa using rv⟩) (λb u z=>by have z':(none:Option HO)=some u:=z;cases z') (λb z=>absurd rfl z) λz=>absurd rfl z
 |none=>
  refine core (λb=>if b=a then some (.frz {cls:=.type "list",data:=.seq vs.toArray} (.lst (ns.map V.int))) else none) (λb=>?_) (.inl (.inr ⟨{cls:=.type "list",data:=.seq vs.toArray},if_pos rfl⟩)) (λb u z=>?_) (λb z=>?_) λ_=>hk
  ·by_cases hb:b=a
   ·exact .inr ⟨_,_,if_pos hb⟩
   ·exact .inl (if_neg hb)
  ·by_cases hb:b=a
   ·have z':=(if_pos hb).symm.trans z
    cases z'
    subst hb
    exact⟨ha,by rw[List.length_map];exact hl,vs,_,rv,ha⟩
   ·have z':=(if_neg hb).symm.trans z
    cases z'
  ·by_cases hb:b=a
   ·exact hb
   ·exact absurd (if_neg hb) z
end L2
namespace L2
open PySem PySem.Spec PyProof.Rows
theorem walk_of{l:W.OpenLaw}{n k:Nat}{q:Program}{loose:List Str}{XP:(Str->Option Value)->Heap->Prop}{YP:World->Heap->Prop}{d:DefRec}{K:Params->W.Frag}{CX:World->CXT}{sp:World->Sp}{x:Str}
  (hn:l.most=some n) (hn2:n<=sizeLine) (hdf:d.params.defaults=[]) (hr:Room k callerA)
  (hY:∀(w:World) (h:Heap),YP w h->(K w.params).In h)
  (F:∀(w:World) (mg:Str->Option Value) (fa:Addr) (h:Heap),(K w.params).In h->h.Ns mainGlobals mg->mg d.name=some (.ref fa) ->
   ∃fd:FuncData,(∀(s:Shared) (u:Value),BindsTo s fd ⟨[u],[]⟩ [(x,u)]) /\
    ∀base:Heap,(K w.params).In base->base.Ns mainGlobals mg->FnOk l.prog w (K w.params) mg base (CX w) k fa fd [x] (sp w))
  (hsp:∀(w:World) (H:Hp) (a:Addr) (ns:List Int),ns.length<=n->xR H->SqL (K w.params) H a (ns.map V.int)->sp w [.ref a] H (λv _=>v=.bl true) λ_ _ _=>False)
  (hCX:∀(w:World) (H:Hp) (s:Shared) (e:Value) (s':Shared),CX w [] H s (λ_ _ _=>False) e s'->False):
  PySem.W.WalkO q loose XP YP l.row.toRowW d [] (λf vs=>PySem.call f vs):=by
 refine Att.attach_call hn hdf λw s₀ s₁ mg mb fa o pm cd doc a vs ns G Y ho hd hcd hmg hobj hints hlen hg=>?_
 have KX:=hY w _ Y
 obtain⟨fd,hb,hF⟩:=F w mg fa _ KX G.T.g hmg
 exact zF5 KX G.T.g G.T.b G.T.builtins G.T.nolimit hg hobj hints (Nat.le_trans hlen hn2) hr hF hb (λH hO hS=>hsp w H a ns hlen hO hS) λH e s'=>hCX w H s₁ e s'
end L2
namespace L2
open PySem PySem.Spec PyProof.Rows
def gP(s:Stmt):Arguments:=match s with
 |.FunctionDef _ a _ _ _ _ _ _ _ _=>a
 |_=>{posonlyargs:=[],args:=[],vararg:=none,kwonlyargs:=[],kw_defaults:=[],kwarg:=none,defaults:=[]}
def eX(s:Stmt):List Stmt:=match s with
 |.FunctionDef _ _ b _ _ _ _ _ _ _=>b
 |_=>[]
def aJ(s:Stmt):Scope:=match s with
 |.FunctionDef _ _ _ _ _ _ sc _ _ _=>sc
 |_=>{kind:=.function,names:=[],isGenerator:=false,isCoroutine:=false}
abbrev CX0:CXT:=λ_ _ _ _ _ _=>False
abbrev E0:XK:=λ_ _ _=>False
theorem zCf{X:Cx}:qZ CX0 X E0:=λ_ _ _ _ _ _ _ h=>h.elim
structure Fun (K:W.Frag) (x qual:Str) (st:Stmt) (f:Addr) (fd:FuncData):Prop where
 ex:∃(oc:Value) (od:Option Addr) (kV doc pm:Value) (an:Option Addr) (cdv ct:Value) (osl:Array (Option Value)),
  fd=W.fnOf x qual (gP st) (eX st) (aJ st) .none kV doc pm an cdv ct/\K.lookup f=some ⟨oc,od,.func fd,osl⟩/\W.codeIn K cdv qual=true
 kp:W.keepIn K (.ref f)=true
section
variable{P:Program}{w:World}{K:W.Frag}{mg:Str->Option Value}{base:Heap}
theorem Fun.ok{x qual:Str}{st:Stmt}{f:Addr}{fd:FuncData}{N ps:List Str}{k:Nat}{sp:Sp}(F:Fun K x qual st f fd)(S:bC N ps (aJ st))(len:∀vs H Q E,sp vs H Q E->vs.length=ps.length)
  (hbody:∀(cdv:Value) (A:Around) (outer:List Env) (s:Shared) (H:Hp) (vs:List V) (Q:VK) (E:XK),Room k (A.deeper (envOfC qual (aJ st) s.heap.objs.size f cdv))->sp vs H Q E ->
   ∃t,PSs (jC CX0 P w K mg base N qual (aJ st) f cdv A outer s H E).nox (eX st) t/\t {nx:=λ_ H'=>Q .non H',rt:=Q} (start N vs) H):FnOk P w K mg base CX0 (k+1) f fd ps sp:=by
 obtain⟨oc,od,kV,doc,pm,an,cdv,ct,osl,rfl,lk,hcd⟩:=F.ex
 refine zKj lk hcd S len λA outer s H vs Q E hr hsp=>?_
 obtain⟨t,h,q⟩:=hbody cdv A outer s H vs Q E hr hsp
 exact⟨t,h.nox,q⟩
theorem Fun.binds{x qual:Str}{st:Stmt}{f:Addr}{fd:FuncData}{ps:List Str}(F:Fun K x qual st f fd)
  (h:∀(kV doc pm:Value) (an:Option Addr) (cdv ct:Value) (us:List Value),us.length=ps.length->bindArgs (W.fnOf x qual (gP st) (eX st) (aJ st) .none kV doc pm an cdv ct) ⟨us,[]⟩=pure (ps.zip us)):Binds K fd ps []:=by
 obtain⟨oc,od,kV,doc,pm,an,cdv,ct,osl,rfl,lk,hcd⟩:=F.ex
 exact .all (h kV doc pm an cdv ct)
theorem zB3{x qual:Str}{st:Stmt}{f:Addr}{oc:Value}{od an:Option Addr}{osl:Array (Option Value)}{kV doc pm cdv ct:Value}(l:K.lookup f=some ⟨oc,od,.func (W.fnOf x qual (gP st) (eX st) (aJ st) .none kV doc pm an cdv ct),osl⟩)
  (c:W.codeIn K cdv qual=true) (k:W.keepIn K (.ref f)=true):Fun K x qual st f (W.fnOf x qual (gP st) (eX st) (aJ st) .none kV doc pm an cdv ct):=⟨⟨oc,od,kV,doc,pm,an,cdv,ct,osl,rfl,l,c⟩,k⟩
end
theorem zCl{A:Around}{k:Nat}(hr:Room k A):A.units+1<cLine:=Nat.lt_of_le_of_lt (Nat.add_le_add_left (by decide:1<=64) _) hr.units
theorem zEv{n:Nat}(h:n<=1000):n<sizeLine:=Nat.lt_of_le_of_lt h (by decide)
section
variable{X:Cx}
theorem pv(i:Nat){x:Str}{pos:Pos}(hN:X.N[i]?=some x:=by rfl)(hv:Vis X.env.scope x:=by first|exact Or.inl rfl|exact Or.inr (Or.inl rfl)|exact Or.inr (Or.inr rfl))(hd:(x==("__debug__":Str))=false:=by decide)
  (hcd:(x==("__classdict__":Str))=false:=by decide):PE X (.Name x pos) (zCw i):=iX hN hv hd hcd
end
theorem aL{A B:Prop}(h:B):if false=true then A else B:=by
 rw[if_neg Bool.false_ne_true]
 exact h
theorem aN{A B:Prop}(h:A):if true=true then A else B:=by
 rw[if_pos rfl]
 exact h
theorem zLc{c A B:Prop}[Decidable c](h1:c->A)(h2:¬ c->B):if c then A else B:=by
 by_cases h:c
 ·rw[if_pos h]
  exact h1 h
 ·rw[if_neg h]
  exact h2 h
def Same(H H':Hp):Prop:=∀b o,H b=some o->H' b=some o
theorem Same.refl(H:Hp):Same H H:=λ_ _ h=>h
theorem Same.trans{H H1 H2:Hp}(a:Same H H1)(b:Same H1 H2):Same H H2:=λc o h=>b c o (a c o h)
theorem Same.free{H H':Hp}(e:Same H H'){l:Addr}(h:H' l=Option.none):H l=Option.none:=by
 cases q:H l with
 |none=>rfl
 |some o=>
  rw[e l o q]at h
  cases h
end L2
namespace L2
open PySem PySem.Spec PyProof.Rows
theorem tK{env:Env}:∀(names:List (Str×NameKind)) (acc:List (Str×Addr)),(∀y∈names,y.2=.free->∃c,env.cells.lookup y.1=some c) ->
  ∃cl,(forIn names acc (λ(x:Str×NameKind) (cs:List (Str×Addr))=>if (x.2==NameKind.free)=true then(do let c <- cellOf env x.1;pure (ForInStep.yield ((x.1,c)::cs))) else pure (ForInStep.yield cs)):Sem (List (Str×Addr)))=pure cl /\
   (∀x c,cl.lookup x=some c->env.cells.lookup x=some c\/acc.lookup x=some c)/\(∀x c,acc.lookup x=some c->∃c',cl.lookup x=some c')/\∀y∈names,y.2=.free->∃c,cl.lookup y.1=some c
 |[],acc,_=>⟨acc,rfl,λ_ _ h=>.inr h,λ_ c h=>⟨c,h⟩,λ_ h=>nomatch h⟩
 |(n,k)::r,acc,h=>by
  rw[List.forIn_cons]
  by_cases hk:k=.free
  ·subst hk
   obtain⟨c,hc⟩:=h (n,.free) List.mem_cons_self rfl
   obtain⟨cl,h1,h2,h3,h4⟩:=tK r ((n,c)::acc) λy hy=>h y (List.mem_cons_of_mem _ hy)
   refine⟨cl,?_,λx d e=>?_,λx d e=>?_,λy hy e=>?_⟩
   ·have e1:cellOf env n=pure c:=by unfold cellOf;rw[hc]
    simp only[beq_self_eq_true,if_true,e1,pure_bind]
    exact h1
   ·rcases h2 x d e with z|z
    ·exact .inl z
    ·rw[List.lookup_cons]at z
     split at z
     ·rename_i hx
      cases z
      have:x=n:=eq_of_beq hx
      subst this
      exact .inl hc
     ·exact .inr z
   ·refine h3 x (if x==n then c else d) ?_
    rw[List.lookup_cons]
    cases hx:x==n with
    |true=>simp[hx]
    |false=>simp[hx,e]
   ·rcases List.mem_cons.mp hy with z|z
    ·subst z
     exact h3 n c (by simp[List.lookup_cons])
    ·exact h4 y z e
  ·have hb:(k==NameKind.free)=false:=by simpa using hk
   obtain⟨cl,h1,h2,h3,h4⟩:=tK r acc λy hy=>h y (List.mem_cons_of_mem _ hy)
   refine⟨cl,?_,h2,h3,λy hy e=>?_⟩
   ·simp only[hb,Bool.false_eq_true,if_false,pure_bind]
    exact h1
   ·rcases List.mem_cons.mp hy with z|z
    ·subst z
     exact absurd e hk
    ·exact h4 y z e
theorem yY{scope:Scope}{env:Env}(h:∀y∈scope.names,y.2=.free->∃c,env.cells.lookup y.1=some c):
  ∃cl,closureFor scope env=pure cl/\(∀x c,cl.lookup x=some c->env.cells.lookup x=some c)/\∀y∈scope.names,y.2=.free->∃c,cl.lookup y.1=some c:=by
 obtain⟨cl,h1,h2,h3,h4⟩:=tK scope.names [] h
 refine⟨cl,?_,λx c e=>(h2 x c e).elim id λz=>(by cases z),h4⟩
 unfold closureFor
 refine Eq.trans ?_ h1
 refine Eq.trans (bind_pure _) ?_
 rfl
theorem xU{env:Env}:∀{names:List (Str×NameKind)}{x:Str},names.lookup x=some .free ->
  (names.map λ(n,k)=>if (k==NameKind.free&&env.scope.kind==.function&&env.kindOf n==some .cell) then(n,NameKind.cell) else(n,k)).lookup x=some .cell \/
  (names.map λ(n,k)=>if (k==NameKind.free&&env.scope.kind==.function&&env.kindOf n==some .cell) then(n,NameKind.cell) else(n,k)).lookup x=some .free
 |[],_,h=>by simp at h
 |(n,k)::r,x,h=>by
  have ih:=@xU env r x
  show List.lookup x ((if (k==NameKind.free&&env.scope.kind==.function&&env.kindOf n==some .cell)=true then(n,NameKind.cell) else(n,k))::_)=_\/List.lookup x ((if (k==NameKind.free&&env.scope.kind==.function&&env.kindOf n==some .cell)=true then(n,NameKind.cell) else(n,k))::_)=_
  by_cases hc:(k==NameKind.free&&env.scope.kind==.function&&env.kindOf n==some .cell)=true
  ·rw[if_pos hc]
   cases hx:x==n with
   |true=>simp only[List.lookup_cons,hx];exact .inl trivial
   |false=>
    simp only[List.lookup_cons,hx]at h ⊢
    exact ih h
  ·rw[if_neg hc]
   cases hx:x==n with
   |true=>
    simp only[List.lookup_cons,hx]at h ⊢
    exact .inr h
   |false=>
    simp only[List.lookup_cons,hx]at h ⊢
    exact ih h
theorem yK{env:Env}{names:List (Str×NameKind)}(hn:∀y∈names,y.2≠.cell){x:Str}{k:NameKind}(hk:k=.cell\/k=.free)
  (h:(names.map λ(n,k)=>if (k==NameKind.free&&env.scope.kind==.function&&env.kindOf n==some .cell) then(n,NameKind.cell) else(n,k)).lookup x=some k):(x,NameKind.free)∈names:=by
 obtain⟨⟨n,k'⟩,hm,e⟩:=List.mem_map.mp (PySem.mem_of_lookup h)
 simp only at e
 split at e
 ·rename_i hc
  rw[Bool.and_eq_true,Bool.and_eq_true]at hc
  have:k'=.free:=eq_of_beq hc.1.1
  subst this
  injection e with e1 _
  subst e1
  exact hm
 ·injection e with e1 e2
  subst e1 e2
  rcases hk with z|z
  ·exact absurd z (hn _ hm)
  ·subst z;exact hm
def bU(X:Cx)(N:List Str)(scope:Scope)(cl:List (Str×Addr))(C:Addr)(fp:List Addr)(s:Shared)(H:Hp):Cx where
 prog:=X.prog
 w:=X.w
 K:=X.K
 mg:=X.mg
 base:=X.base
 A:=X.A
 N:=N
 s₀:=s
 H₀:=H
 env:=compEnvC scope cl C X.env
 outer:=X.stack
 stack:=X.stack
 ex:=fp
 fn:=λ_=>false
 calm:=X.calm
 pn:=[]
 xe:=λ_ _=>False
structure jG (sc:Scope) (XN N:List Str) (own:Nat) (fr:List Nat) (scope:Scope):Prop where
 kind:scope.kind=.function
 nocell:∀y∈scope.names,y.2≠.cell
 free:∀y∈scope.names,y.2=.free->sc.names.lookup y.1=some .cell\/sc.names.lookup y.1=some .free
 loc:∀y∈scope.names,y.2=.local->scope.names.lookup y.1=some .local
 names:N.drop own=fr.filterMap λi=>XN[i]?
 frl:∀i∈fr,i<XN.length
 len:own<=N.length
 vis:∀x∈N.drop own,scope.names.lookup x=some .free
def σf(fr:List Nat)(σ:St):St:=fr.map λi=>σ.getD i none
def σc(own:Nat)(fr:List Nat)(σ:St):St:=List.replicate own none++σf fr σ
section
variable{X:Cx}{pins:List (Addr×Obj)}{σ:St}{H:Hp}{s:Shared}{N:List Str}{own:Nat}{fr:List Nat}{scope:Scope}
theorem xZ{XN:List Str}:∀{fr:List Nat},(∀i∈fr,i<XN.length)->∀(j:Nat),(fr.filterMap λi=>XN[i]?)[j]?=(fr[j]?).bind λi=>XN[i]?
 |[],_,j=>by simp
 |i::r,h,j=>by
  have hi:i<XN.length:=h i List.mem_cons_self
  rw[List.filterMap_cons,List.getElem?_eq_getElem hi]
  cases j with
  |zero=>simp[hi]
  |succ j=>simpa using xZ (λk hk=>h k (List.mem_cons_of_mem _ hk)) j
theorem zF7{cl:List (Str×Addr)}{fp:List Addr}{h':Heap}(I:Inv X pins σ H s)(S:jG X.env.scope X.N N own fr scope)(hcl:∀x c,cl.lookup x=some c->X.env.cells.lookup x=some c)
  (hcf:∀y∈scope.names,y.2=.free->∃c,cl.lookup y.1=some c) (hfp:∀b∈fp,eO X pins H b) (hfo:∀b∈fp,∃o,s.heap.get? b=some o)
  (hns:h'.Ns s.heap.objs.size λ_=>none) (hk:∀b o,s.heap.get? b=some o->h'.get? b=some o):
  Inv (bU X N scope cl s.heap.objs.size fp s H) [] (σc own fr σ) H {s with heap:=h'}:=by
 have kindE:∀x,(Env.kindOf (compEnvC scope cl s.heap.objs.size X.env) x)=(relabel scope X.env).names.lookup x:=λx=>rfl
 have memF:∀x,(Env.kindOf (compEnvC scope cl s.heap.objs.size X.env) x=some .cell\/Env.kindOf (compEnvC scope cl s.heap.objs.size X.env) x=some .free)->(x,NameKind.free)∈scope.names:=λx hx=>by
  rcases hx with z|z
  ·exact yK (env:=X.env) S.nocell (.inl rfl) z
  ·exact yK (env:=X.env) S.nocell (.inr rfl) z
 refine⟨⟨I.ok.mod,S.kind,I.ok.glob,I.ok.blt,Nat.le_refl _,λx y c h1 h2=>I.ok.inj x y c (hcl x c h1) (hcl y c h2),λx hx=>hcf (x,.free) (memF x hx) rfl,λx c h=>absurd (show false=true from h) (by decide),I.ok.hd,I.ok.frames,.inl rfl,λb hb=>?_,I.bs,Nat.le_trans I.ok.bsz I.sz,λb o e hb=>?_,λb hb z=>?_,I.stack,I.stkFree⟩,
  rfl,I.bare,Un.kept hk,⟨_,hns,λi x v e1 e2 e3=>?_⟩,λx c e=>?_,I.hok.fresh (Nat.le_refl _),λx c e=>I.freeC x c (hcl x c e),λp hp=>absurd (show p∈([]:List (Addr×Obj)) from hp) (by simp),I.hok.kept hk,?_⟩
 ·obtain⟨o,ho⟩:=hfo b hb
  exact⟨Nat.ne_of_lt (Heap.lt_size ho),λx c e=>(hfp b hb).2.2.2.2.1 x c (hcl x c e)⟩
 ·rcases (hfp b hb).2.2.2.1 with z|z
  ·exact I.ok.noex b o e z
  ·exact absurd (Nat.lt_of_lt_of_le (Heap.lt_size (I.ok.bs b o e).1) z) (Nat.lt_irrefl _)
 ·rcases List.mem_cons.mp (I.stkSub b z) with q|q
  ·exact(hfp b hb).2.1 q
  ·exact(hfp b hb).2.2.1 q
 ·have hi:own<=i:=by
   rcases Nat.lt_or_ge i own with z|z
   ·have e2':(σc own fr σ)[i]?=some (some v):=e2
    unfold σc at e2'
    rw[List.getElem?_append_left (by simpa using z),List.getElem?_replicate]at e2'
    split at e2'<;>cases e2'
   ·exact z
  have e2':(σf fr σ)[i-own]?=some (some v):=by
   have e2':(σc own fr σ)[i]?=some (some v):=e2
   unfold σc at e2'
   rw[List.getElem?_append_right (by simpa using hi)]at e2'
   simpa using e2'
  have e1':(N.drop own)[i-own]?=some x:=by
   have e1':N[i]?=some x:=e1
   rw[List.getElem?_drop]
   rw[show own+(i-own)=i by omega]
   exact e1'
  have hv:scope.names.lookup x=some .free:=S.vis x (List.mem_of_getElem? e1')
  have hx:X.env.scope.names.lookup x=some .cell\/X.env.scope.names.lookup x=some .free:=S.free (x,.free) (PySem.mem_of_lookup hv) rfl
  rw[S.names,xZ S.frl]at e1'
  unfold σf at e2'
  rw[List.getElem?_map]at e2'
  cases q:fr[i-own]? with
  |none=>rw[q]at e2';cases e2'
  |some j=>
   rw[q]at e1' e2'
   have e1'':X.N[j]?=some x:=e1'
   have e2'':σ.getD j none=some v:=Option.some.inj e2'
   have e3':σ[j]?=some (some v):=by
    rw[List.getD_eq_getElem?_getD]at e2''
    cases z:σ[j]? with
    |none=>rw[z]at e2'';cases e2''
    |some y=>rw[z]at e2'';exact congrArg some e2''
   obtain⟨m,hn,hl⟩:=I.loc
   obtain⟨u,r,l⟩:=hl j x v e1'' e3' (.inr hx)
   refine⟨u,r,.inr ⟨xU (env:=X.env) hv,?_⟩⟩
   rcases l with⟨k,_⟩|⟨_,c,hc,z⟩
   ·have k':X.env.scope.names.lookup x=some .local:=k
    rw[k']at hx
    rcases hx with z|z<;>cases z
   ·obtain⟨c',hc'⟩:=hcf (x,.free) (PySem.mem_of_lookup hv) rfl
    have:=hcl x c' hc'
    rw[hc]at this
    cases this
    exact⟨c,hc',z.keeps hk⟩
 ·obtain⟨v,z⟩:=I.cell x c (hcl x c e)
  exact⟨v,z.keeps hk⟩
 ·show(σc own fr σ).length=N.length
  unfold σc σf
  have h1:=congrArg List.length S.names
  have h2:(fr.filterMap λi=>X.N[i]?).length=fr.length:=by
   have:∀(l:List Nat),(∀i∈l,i<X.N.length)->(l.filterMap λi=>X.N[i]?).length=l.length:=by
    intro l
    induction l with
    |nil=>intro _;rfl
    |cons i r ih=>
     intro h
     rw[List.filterMap_cons,List.getElem?_eq_getElem (h i List.mem_cons_self)]
     simp[ih λk hk=>h k (List.mem_cons_of_mem _ hk)]
   exact this fr S.frl
  rw[List.length_drop,h2]at h1
  rw[List.length_append,List.length_replicate,List.length_map]
  have:=S.len
  omega
end
section
variable{prog:Program}{w:World}{A:Around}{R:Result->Shared->Prop}{s:Shared}
theorem zDj{elt target iter:Expr}{ifs:List Expr}{scope:Scope}{pos:Pos}{it acc:Value}{env:Env}(I:Nat->Shared->Prop)
  (turn:∀n s,I n s->wpAny (model prog w) A (pyNext it) (λr s₁=>match r with
   |none=>R (.ok .next) s₁
   |some v=>wpAny (model prog w) A (letOwnedTupleGo target it v) (λ_ s'=>wpAny (model prog w) A (assign target env v) (λ_ s₂=>
     wpAny (model prog w) A (forIn ifs true λc r=>if r=true then do let ok <- isTrue c env (eval c env);pure (ForInStep.yield ok) else pure (ForInStep.yield r)) (λok s₃=>
      if ok=true then wpAny (model prog w) A (eval elt env) (λx s₄=>
       wpAny (model prog w) A (call (.builtin "list.append") [acc,x]) (λ_ s₅=>∃m,m<n/\I m s₅) (λ_ _=>False) s₄) (λ_ _=>False) s₃
      else ∃m,m<n/\I m s₃) (λ_ _=>False) s₂) (λ_ _=>False) s') (λ_ _=>False) s₁) (λ_ _=>False) s)
  (n:Nat) (h:I n s):codeAny (model prog w) A (.compLoop (.ListComp elt [⟨target,iter,ifs,0⟩] scope pos) 0 it acc env) R s:=by
 refine codeAny_loop rfl I (λn s hI=>?_) n h
 show wpAny _ A ((compTurn (.ListComp elt [⟨target,iter,ifs,0⟩] scope pos) 0 it acc env).onRaise (λx=>do noteFrame x env;theTreesLotGoes x)) _ _ s
 refine wpAny_noted ?_
 rw[compTurn_list]
 refine wpAny_bind (wpAny_standAt (wpAny_bind (wpAny_mono (turn n s hI) (λr s₁ h₁=>?_) λ_ _ z=>False.elim z)))
 cases r with
 |none=>exact wpAny_pure h₁
 |some v=>
  refine wpAny_bind (wpAny_mono h₁ (λ_ s' h'=>?_) λ_ _ z=>False.elim z)
  refine wpAny_bind (wpAny_mono h' (λ_ s₂ h₂=>wpAny_bind (wpAny_mono h₂ (λok s₃ h₃=>?_) λ_ _ z=>False.elim z)) λ_ _ z=>False.elim z)
  cases ok with
  |false=>exact wpAny_pure ⟨rfl,h₃⟩
  |true=>
   exact wpAny_bind (wpAny_bind (wpAny_mono h₃ (λx s₄ h₄=>wpAny_bind (wpAny_mono h₄ (λ_ s₅ h₅=>wpAny_pure (wpAny_pure ⟨rfl,h₅⟩)) λ_ _ z=>False.elim z)) λ_ _ z=>False.elim z))
end
def zCt(J:It)(a:Addr)(own:Nat)(fr:List Nat)(g:TG)(tf:TT)(te:TE)(σ:St)(H1:Hp)(Q:VK):Prop:=
 ∃(n:Nat) (Pv:Nat->List V->Hp->Prop),Pv 0 [] (upd H1 a (.lst []))/\∀i ys H2,i<=n->H2 a=some (.lst ys)->Pv i ys H2 ->
  (J.stop i H2/\Q (.ref a) H2)\/(i<n/\J.go i H2/\∀x H3,J.yld i H2 x H3->g x (σc own fr σ) H3 λσ4 H4=>(∃ow,ow.length=own/\σ4=ow++σf fr σ)/\tf σ4 H4 λb H5=>
   if b=true then te σ4 H5 λy H6=>H6 a=some (.lst ys)/\ys.length<sizeLine/\Pv (i+1) (ys++[y]) (upd H6 a (.lst (ys++[y])))
   else H5 a=some (.lst ys)/\Pv (i+1) ys H5)
def PFs(X:Cx)(ifs:List Expr)(t:TT):Prop:=
 ∀(pins:List (Addr×Obj)) (s:Shared) (σ:St) (H:Hp) (Q:Bool->Hp->Prop),Inv X pins σ H s->t σ H Q ->
  wpAny (model X.prog X.w) X.A (forIn ifs true λc r=>if r=true then do let ok <- isTrue c X.env (eval c X.env);pure (ForInStep.yield ok) else pure (ForInStep.yield r)) (TP X pins σ Q) X.xe s
def zJE:TT:=λ_ H Q=>Q true H
theorem zIA{X:Cx}:PFs X [] zJE:=λpins s σ H Q I h=>wpAny_tests_nil ⟨H,I,h⟩
theorem zIz{X:Cx}{c:Expr}{t:TT}(h:PT X c t):PFs X [c] t:=λpins s σ H Q I hw=>wpAny_tests_one (h pins s σ H Q I hw)
section
variable{X:Cx}{pins:List (Addr×Obj)}{σ:St}{H:Hp}{s:Shared}{N:List Str}{own:Nat}{fr:List Nat}{scope:Scope}{cl:List (Str×Addr)}{elt tg iter:Expr}{ifs:List Expr}{pos:Pos}
 {it:Addr} {fp:List Addr} {tn:Nat->Heap->Prop} {J:It} {g:TG} {tf:TT} {te:TE} {Q:VK} {E:Value->Shared->Prop}
theorem yX{RR:Value->Addr->Result->Shared->Prop}(hc:X.calm=true)(S:jG X.env.scope X.N N own fr scope)(hcl:∀x c,cl.lookup x=some c->X.env.cells.lookup x=some c)
  (hcf:∀y∈scope.names,y.2=.free->∃c,cl.lookup y.1=some c)
  (hg:∀C s H,PG (bU X N scope cl C fp s H) tg g) (hf:∀C s H,PFs (bU X N scope cl C fp s H) ifs tf) (he:∀C s H,PE (bU X N scope cl C fp s H) elt te)
  (I:Inv X pins σ H s) (T:gY X.prog X.w X.K tg J fp it tn) (st:tn 0 s.heap) (hfp:∀b∈fp,eO X pins H b) (hw:∀a,H a=none->zCt J a own fr g tf te σ H Q)
  (hRR:∀a C s' H',Inv X pins σ H' s'->Q (.ref a) H'->eO X pins H' C->(∃m,s'.heap.Ns C m)->RR (.ref a) C (.ok .next) s'):
  wpAny (model X.prog X.w) X.A (newList []) (λacc s₃=>wpAny (model X.prog X.w) X.A (newFunctionEnv scope X.env.globals cl [] X.env.qual none .none (some X.env)) (λcenv s₄=>
   codeAny (model X.prog X.w) X.A (.compStart (.ListComp elt [⟨tg,iter,ifs,0⟩] scope pos) 0 (.ref it) acc {cenv with scope:=relabel scope X.env}) (RR acc cenv.locals) s₄) E s₃) E s:=by
 refine wpAny_newObj_type (wpAny_newFunctionEnv S.nocell (by intro y hy;simp at hy) (λh₁ hns₁ hsb₁=>?_) S.kind)
 dsimp only at hns₁ hsb₁ ⊢
 have I3:Inv X pins σ (upd H s.heap.objs.size (.lst [])) {s with heap:=s.heap.push {cls:=.type "list",dict:=none,data:=.seq ([]:List Value).toArray}}:=I.lnew (ys:=[]) (t':=s.toks) .nil (Nat.zero_le _)
 have hfo:∀b∈fp,∃o,s.heap.get? b=some o:=λb hb=>let ⟨o,ho,_⟩:=T.obj _ _ st b hb;⟨o,ho⟩
 have hlt:∀b∈fp,b<s.heap.objs.size:=λb hb=>let ⟨o,ho⟩:=hfo b hb;Heap.lt_size ho
 have fp3:∀b∈fp,eO X pins (upd H s.heap.objs.size (.lst [])) b:=λb hb=>⟨by rw[bF (Nat.ne_of_lt (hlt b hb))];exact(hfp b hb).1,(hfp b hb).2⟩
 obtain⟨n0,W,w0,turn⟩:=hw s.heap.objs.size I.fresh
 generalize hs3:({s with heap:=s.heap.push {cls:=.type "list",dict:=none,data:=.seq ([]:List Value).toArray}}:Shared)=s3 at I3
 have eh:s3.heap=s.heap.push {cls:=.type "list",dict:=none,data:=.seq ([]:List Value).toArray}:=by rw[<-hs3]
 rw[<-eh]at hns₁ hsb₁ ⊢
 have hk:∀b o,s3.heap.get? b=some o->h₁.get? b=some o:=λb o e=>hsb₁.extBut b o (Nat.ne_of_lt (Heap.lt_size e)) (Heap.get?_push_of_some _ e)
 have hk0:∀b o,s.heap.get? b=some o->s3.heap.get? b=some o:=λb o e=>by rw[eh];exact Heap.get?_push_of_some _ e
 have J0:Inv (bU X N scope cl s3.heap.objs.size fp s3 (upd H s.heap.objs.size (.lst []))) [] (σc own fr σ) (upd H s.heap.objs.size (.lst [])) {s3 with heap:=h₁}:=
  zF7 I3 S hcl hcf fp3 (λb hb=>let ⟨o,ho⟩:=hfo b hb;⟨o,hk0 b o ho⟩) hns₁ hk
 have st0:tn 0 h₁:=T.keep _ _ _ st λb _ o e=>hk b o (hk0 b o e)
 have stat:∀{H':Hp},(∀b∈fp,H' b=none)->∀b∈fp,eO (bU X N scope cl s3.heap.objs.size fp s3 (upd H s.heap.objs.size (.lst []))) [] H' b:=λhn b hb=>
  ⟨hn b hb,(J0.ok.exf b hb).1,J0.ok.exfs b hb,.inl hb,(J0.ok.exf b hb).2,λp hp=>absurd (show p∈([]:List (Addr×Obj)) from hp) (by simp)⟩
 have loop:∀s4:Shared,s4={s3 with heap:=h₁}->codeAny (model X.prog X.w) X.A (.compLoop (.ListComp elt [⟨tg,iter,ifs,0⟩] scope pos) 0 (.ref it) (.ref s.heap.objs.size) (compEnvC scope cl s3.heap.objs.size X.env))
   (RR (.ref s.heap.objs.size) s3.heap.objs.size) s4:=by
  rintro s4 rfl
  refine zDj (λn s'=>∃i ow H' ys,Inv (bU X N scope cl s3.heap.objs.size fp s3 (upd H s.heap.objs.size (.lst []))) [] (ow++σf fr σ) H' s'/\ow.length=own/\tn i s'.heap/\(∀b∈fp,H' b=none)/\H' s.heap.objs.size=some (.lst ys)/\(n=n0-i/\i<=n0)/\W i ys H') ?_ n0
   ⟨0,List.replicate own none,_,[],J0,by simp,st0,λb hb=>(fp3 b hb).1,bE,⟨rfl,Nat.zero_le _⟩,w0⟩
  rintro n s5 ⟨i,ow,H5,ys,I5,hlo,st5,fr5,ha5,⟨rfl,hi5⟩,w5⟩
  rcases turn i ys H5 hi5 ha5 w5 with⟨stop,qn⟩|⟨hin,go,step⟩
  ·refine thn (T.done (bU X N scope cl s3.heap.objs.size fp s3 (upd H s.heap.objs.size (.lst []))) rfl rfl rfl hc i [] s5 _ H5 (λ_ _=>False) I5 (stat fr5) st5 stop) λr s6 ⟨hr,I6⟩=>?_
   subst hr
   have IX:Inv X pins σ H5 s6:=I3.call' I6.os I6.base I6.hok I6.bare λb hb=>let ⟨_,f2,_,f4,f5,f6⟩:=fp3 b hb;⟨f4,f2,f5,f6⟩
   refine hRR _ _ s6 H5 IX qn (I3.fpOk (Nat.le_refl _) I6.free) ?_
   obtain⟨m,hn,_⟩:=I6.loc
   exact⟨m,hn⟩
  ·refine thn (T.item (bU X N scope cl s3.heap.objs.size fp s3 (upd H s.heap.objs.size (.lst []))) rfl rfl rfl hc i [] s5 _ H5 (λ_ _=>False) I5 (stat fr5) st5 go) λr s6 ⟨u,hr,h6⟩=>?_
   subst hr
   refine thn h6 λ_ s7 ⟨x,H7,I7,r7,y7,st7,fr7⟩=>?_
   have I7':=(I7.pinned (stat fr7) (T.obj _ _ st7)).weak (σ':=σc own fr σ) (by unfold σc;simp[hlo]) (λj v e=>by
    unfold σc at e
    rcases Nat.lt_or_ge j own with z|z
    ·rw[List.getElem?_append_left (by simpa using z),List.getElem?_replicate]at e
     split at e<;>cases e
    ·rw[List.getElem?_append_right (by simpa using z)]at e
     rw[List.getElem?_append_right (by rw[hlo];exact z),hlo]
     simpa using e)
   refine thn (hg _ _ _ _ s7 _ H7 x u _ I7' r7 (step x H7 y7)) λ_ s8 ⟨σ8,H8,I8,⟨ow8,hl8,e8⟩,q8⟩=>?_
   refine thn (hf _ _ _ _ s8 _ H8 _ I8 q8) λok s9 ⟨H9,I9,q9⟩=>?_
   have again:∀{H':Hp} {s':Shared},Inv (bU X N scope cl s3.heap.objs.size fp s3 (upd H s.heap.objs.size (.lst []))) ([]++oB fp s7.heap) σ8 H' s'->∀{ys':List V},H' s.heap.objs.size=some (.lst ys')->W (i+1) ys' H' ->
     ∃m,m<n0-i/\∃i ow H' ys,Inv (bU X N scope cl s3.heap.objs.size fp s3 (upd H s.heap.objs.size (.lst []))) [] (ow++σf fr σ) H' s'/\ow.length=own/\tn i s'.heap/\(∀b∈fp,H' b=none)/\H' s.heap.objs.size=some (.lst ys)/\(m=n0-i/\i<=n0)/\W i ys H':=λ{H' s'} I' {ys'} ha hw'=>by
    refine⟨n0-(i+1),by omega,i+1,ow8,H',ys',e8▸I'.unpinned,hl8,T.keep _ _ _ st7 λb hb o e=>(I'.pin (b,o) (List.mem_append_right _ (List.mem_append_right _ (pM hb e)))).1,λb hb=>?_,ha,⟨rfl,hin⟩,hw'⟩
    obtain⟨o,e,_⟩:=T.obj _ _ st7 b hb
    exact(I'.pin (b,o) (List.mem_append_right _ (List.mem_append_right _ (pM hb e)))).2.1
   cases ok with
   |false=>
    have q9':H9 s.heap.objs.size=some (.lst ys)/\W (i+1) ys H9:=by simpa using q9
    obtain⟨ha,hw'⟩:=q9'
    show if false=true then _ else _
    rw[if_neg (by decide)]
    exact again I9 ha hw'
   |true=>
    rw[if_pos rfl]at q9
    show if true=true then _ else _
    rw[if_pos rfl]
    refine thn (he _ _ _ _ s9 _ H9 _ I9 q9) λy s10 ⟨v10,H10,I10,r10,ha10,hz10,hw'⟩=>?_
    refine thn (uE _ s10 _ H10 (.ref s.heap.objs.size) [v10] (.ref s.heap.objs.size) [y] (λ_ H'=>H'=upd H10 s.heap.objs.size (.lst (ys++[v10]))) I10 rfl (.cons r10 .nil) ⟨_,ys,v10,rfl,rfl,ha10,hz10,rfl⟩) λ_ s11 ⟨_,H11,I11,_,e11⟩=>?_
    subst e11
    exact again I11 bE hw'
 exact codeAny_compStart_list (loop _ (by rw[<-hs3];rfl)) (T.self X.A 0 _ _ _ st0 (loop _ (by rw[<-hs3];rfl)))
end
def wI(own:Nat)(fr:List Nat)(wi:TI)(g:TG)(tf:TT)(te:TE):TE:=λσ H Q=>wi σ H λJ H1=>∀a,H1 a=none->zCt J a own fr g tf te σ H1 Q
section
variable{X:Cx}{sc:Scope}{XN N:List Str}{own:Nat}{fr:List Nat}{scope:Scope}{elt tg iter:Expr}{ifs:List Expr}{pos:Pos}{wi:TI}{g:TG}{tf:TT}{te:TE}
theorem zG6(hc:X.calm=true)(S:jG sc XN N own fr scope)(hi:PI X tg iter wi)
  (hg:∀cl C fp s H,PG (bU X N scope cl C fp s H) tg g) (hf:∀cl C fp s H,PFs (bU X N scope cl C fp s H) ifs tf) (he:∀cl C fp s H,PE (bU X N scope cl C fp s H) elt te)
  (hs:∀x,foldedSetIterable iter X.env x=pure x:=by intro _;rfl) (hsc:X.env.scope=sc:=by rfl) (hxn:X.N=XN:=by rfl):PE X (.ListComp elt [⟨tg,iter,ifs,0⟩] scope pos) (wI own fr wi g tf te):=by
 subst hsc hxn
 intro pins s σ H Q I h
 obtain⟨cl,c1,c2,c3⟩:=yY (scope:=scope) (env:=X.env) λy hy e=>I.ok.has y.1 (S.free y hy e)
 rw[eval_ListComp]
 refine wpAny_comprehension_free (use:=none) rfl hs c1 S.kind S.loc (thn (hi pins s σ H _ I h) λxv s1 h1=>thn h1 λitv s2 h2=>?_)
 obtain⟨it,fp,tn,J,H2,e,I2,T,st2,f2,hw⟩:=h2
 subst e
 refine yX hc S c2 c3 (λC s H=>hg cl C fp s H) (λC s H=>hf cl C fp s H) (λC s H=>he cl C fp s H) I2 T st2 f2 hw λa C s' H' I' q fC ⟨m,hn⟩=>?_
 refine⟨m,hn,λh' hs'=>?_⟩
 obtain⟨f0,f1,_,f3,f4,f5⟩:=fC
 exact⟨.ref a,H',I'.turned (t':=s'.toks) (λb o hb e=>hs'.extBut b o hb e) f0 f1 f3 f4 f5,rfl,q⟩
theorem zA6{i:Nat}{x:Str}{pos' spos:Pos}(hc:X.calm=true)(hN:X.N.Nodup)(hx:X.N[i]?=some x)(hl:Loc X.env.scope x)(S:jG sc XN N own fr scope)(hi:PI X tg iter wi)
  (hg:∀cl C fp s H,PG (bU X N scope cl C fp s H) tg g) (hf:∀cl C fp s H,PFs (bU X N scope cl C fp s H) ifs tf) (he:∀cl C fp s H,PE (bU X N scope cl C fp s H) elt te)
  (hsw:swapsWith (.ListComp elt [⟨tg,iter,ifs,0⟩] scope pos) (some (.Name x pos')) spos.line X.env=pure true:=by rfl)
  (hf':X.fn x=true\/X.env.scope.names.lookup x=some .local:=by first|exact .inl rfl|exact .inr rfl|assumption)
  (hs:∀x,foldedSetIterable iter X.env x=pure x:=by intro _;rfl) (hsc:X.env.scope=sc:=by rfl) (hxn:X.N=XN:=by rfl):PS X (.Assign [.Name x pos'] (.ListComp elt [⟨tg,iter,ifs,0⟩] scope pos) spos) (rW (wI own fr wi g tf te) (rP i)):=by
 subst hsc hxn
 intro pins s σ H D I h
 obtain⟨cl,c1,c2,c3⟩:=yY (scope:=scope) (env:=X.env) λy hy e=>I.ok.has y.1 (S.free y hy e)
 rw[exec_Assign_Name_used _ _ _ _ hsw]
 refine wpAny_bind (wpAny_standAt (wpAny_bind ?_))
 show wpAny _ X.A (do let _ <- comprehension (.ListComp elt [⟨tg,iter,ifs,0⟩] scope pos) scope X.env _ (newList []) false (eval iter X.env) (some (assign (.Name x pos') X.env))) _ _ s
 refine wpAny_bind (wpAny_mono (wpAny_comprehension_free (use:=some (assign (.Name x pos') X.env)) (Q:=λ_ s'=>SP X pins D .next s') rfl hs c1 S.kind S.loc
  (thn (hi pins s σ H _ I h) λxv s1 h1=>thn h1 λitv s2 h2=>?_)) (λ_ s' hq=>wpAny_pure (wpAny_pure hq)) λ_ _ e=>e)
 obtain⟨it,fp,tn,J,H2,e,I2,T,st2,f2,hw⟩:=h2
 subst e
 refine yX hc S c2 c3 (λC s H=>hg cl C fp s H) (λC s H=>hf cl C fp s H) (λC s H=>he cl C fp s H) I2 T st2 f2 hw λa C s' H' I' q fC ⟨m,hn⟩=>?_
 obtain⟨f0,f1,f2',f3,f4,f5⟩:=fC
 show wpAny _ _ (assign (.Name x pos') X.env (.ref a)) _ _ _
 refine wpAny_assign_Name (zG I' hN hx hl (show RelV (.ref a) (.ref a) from rfl) (λs2 J2 ⟨b,hb,hb'⟩=>?_) hf')
 have hbC:C≠b:=by
  rcases hb' with z|z
  ·rw[z];exact f1
  ·exact λe=>f4 _ _ z e.symm
 refine⟨m,hn.sameBut hb hbC,λh' hs'=>?_⟩
 exact⟨_,H',J2.turned (t':=s2.toks) (λb o hb e=>hs'.extBut b o hb e) f0 f1 f3 f4 f5,q⟩
end
end L2
namespace L2
open PySem PySem.Spec PyProof.Rows
section
variable{X:Cx}
def TyV(K:W.Frag)(T:String)(x:V)(H:Hp)(b:Bool):Prop:=match x with
 |.non=>b=false
 |.bl _=>b=(T=="bool" || T=="int")
 |.int _=>b=(T=="int")
 |.str _=>b=(T=="str")
 |.ref a=>(∃xs,SqL K H a xs/\b=(T=="list"))\/(∃xs,SqT K H a xs/\b=(T=="tuple"))\/(∃kvs,Rd H a (.dK kvs)/\b=(T=="dict"))
 |_=>False
theorem lA{prog:Program}{w:World}{A:Around}{E:Value->Shared->Prop}{s:Shared}{Q:Value->Shared->Prop}{T:String}(hne:(Value.type "NoneType"==Value.type T)=false)(hty:typeOf (.type T)=pure (.type "type"))
  (hsub:isSubtype (.type "NoneType") (.type T)=pure false) (h:Q (.bool false) {s with toks:=s.toks+1}):wpAny (model prog w) A (call (.builtin "isinstance") [.none,.type T]) Q E s:=
 call_isinstance (S:=λ_ R s=>R (.ok (.ret (.bool false))) {s with toks:=s.toks+1}) (λ_ _ _ _ s hs=>by
  obtain⟨h,g,d,t,os⟩:=s
  exact isinstance_outer (isinstance_nested_false_none hne hty hsub hs)) h
theorem Inv.lcls{pins:List (Addr×Obj)}{σ:St}{H:Hp}{s:Shared}{a:Addr}{xs:List V}(I:Inv X pins σ H s)(h:SqL X.K H a xs):∃o,s.heap.get? a=some o/\o.cls=.type "list":=by
 obtain⟨its,r,pl,hz⟩:=I.list h
 obtain⟨o,ho,hc,_⟩:=pl.isList
 exact⟨o,ho,hc⟩
theorem Inv.tcls{pins:List (Addr×Obj)}{σ:St}{H:Hp}{s:Shared}{a:Addr}{xs:List V}(I:Inv X pins σ H s)(h:SqT X.K H a xs):∃o,s.heap.get? a=some o/\o.cls=.type "tuple":=by
 obtain⟨its,r,⟨o,ho,hc,_⟩,hz⟩:=I.tuple h
 exact⟨o,ho,hc⟩
theorem Inv.dcls{pins:List (Addr×Obj)}{σ:St}{H:Hp}{s:Shared}{a:Addr}{kvs:List (Key×V)}(I:Inv X pins σ H s)(h:Rd H a (.dK kvs)):∃o,s.heap.get? a=some o/\o.cls=.type "dict":=by
 obtain⟨_,_,vs,_,dd⟩:=h.ok I.hok
 obtain⟨o,ho,hc⟩:=dd.typeIs
 exact⟨o,ho,hc⟩
theorem kQ:CallR X (.builtin "isinstance") (λxs H Q=>∃x b,xs=[x,.ty "int"]/\TyV X.K "int" x H b/\Q (.bl b) H):=by
 intro pins s σ H xs us Q I r h
 obtain⟨x,b,rfl,hx,q⟩:=h
 obtain⟨u,w',rfl,rx,ry⟩:=iB r
 cases ry
 cases x with
 |non=>cases rx;cases hx;exact lA (by decide +kernel) F.isi_meta_int F.sub_NoneType_int ⟨.bl _,H,I.tok _,rfl,q⟩
 |bl k=>cases rx;cases hx;exact IsiPair.bool_int ⟨.bl _,H,I,rfl,q⟩
 |int i=>obtain⟨t,rfl⟩:=rx;cases hx;exact IsiPair.int_int ⟨.bl _,H,I,rfl,q⟩
 |str i=>obtain⟨t,rfl⟩:=rx;cases hx;exact IsiPair.str_int ⟨.bl _,H,I.tok _,rfl,q⟩
 |ref a=>
  cases rx
  rcases hx with⟨xs,hx,rfl⟩|⟨xs,hx,rfl⟩|⟨xs,hx,rfl⟩
  ·obtain⟨o,ho,hc⟩:=I.lcls hx;exact IsiPair.list_int ho hc ⟨.bl _,H,I.tok _,rfl,q⟩
  ·obtain⟨o,ho,hc⟩:=I.tcls hx;exact IsiPair.tuple_int ho hc ⟨.bl _,H,I.tok _,rfl,q⟩
  ·obtain⟨o,ho,hc⟩:=I.dcls hx;exact IsiPair.dict_int ho hc ⟨.bl _,H,I.tok _,rfl,q⟩
 |_=>exact False.elim hx
theorem gZ:CallR X (.builtin "isinstance") (λxs H Q=>∃x b,xs=[x,.ty "bool"]/\TyV X.K "bool" x H b/\Q (.bl b) H):=by
 intro pins s σ H xs us Q I r h
 obtain⟨x,b,rfl,hx,q⟩:=h
 obtain⟨u,w',rfl,rx,ry⟩:=iB r
 cases ry
 cases x with
 |non=>cases rx;cases hx;exact lA (by decide +kernel) F.isi_meta_bool F.sub_NoneType_bool ⟨.bl _,H,I.tok _,rfl,q⟩
 |bl k=>cases rx;cases hx;exact IsiPair.bool_bool ⟨.bl _,H,I,rfl,q⟩
 |int i=>obtain⟨t,rfl⟩:=rx;cases hx;exact IsiPair.int_bool ⟨.bl _,H,I.tok _,rfl,q⟩
 |str i=>obtain⟨t,rfl⟩:=rx;cases hx;exact IsiPair.str_bool ⟨.bl _,H,I.tok _,rfl,q⟩
 |ref a=>
  cases rx
  rcases hx with⟨xs,hx,rfl⟩|⟨xs,hx,rfl⟩|⟨xs,hx,rfl⟩
  ·obtain⟨o,ho,hc⟩:=I.lcls hx;exact IsiPair.list_bool ho hc ⟨.bl _,H,I.tok _,rfl,q⟩
  ·obtain⟨o,ho,hc⟩:=I.tcls hx;exact IsiPair.tuple_bool ho hc ⟨.bl _,H,I.tok _,rfl,q⟩
  ·obtain⟨o,ho,hc⟩:=I.dcls hx;exact IsiPair.dict_bool ho hc ⟨.bl _,H,I.tok _,rfl,q⟩
 |_=>exact False.elim hx
theorem kP:CallR X (.builtin "isinstance") (λxs H Q=>∃x b,xs=[x,.ty "str"]/\TyV X.K "str" x H b/\Q (.bl b) H):=by
 intro pins s σ H xs us Q I r h
 obtain⟨x,b,rfl,hx,q⟩:=h
 obtain⟨u,w',rfl,rx,ry⟩:=iB r
 cases ry
 cases x with
 |non=>cases rx;cases hx;exact lA (by decide +kernel) F.isi_meta_str F.sub_NoneType_str ⟨.bl _,H,I.tok _,rfl,q⟩
 |bl k=>cases rx;cases hx;exact IsiPair.bool_str ⟨.bl _,H,I.tok _,rfl,q⟩
 |int i=>obtain⟨t,rfl⟩:=rx;cases hx;exact IsiPair.int_str ⟨.bl _,H,I.tok _,rfl,q⟩
 |str i=>obtain⟨t,rfl⟩:=rx;cases hx;exact IsiPair.str_str ⟨.bl _,H,I,rfl,q⟩
 |ref a=>
  cases rx
  rcases hx with⟨xs,hx,rfl⟩|⟨xs,hx,rfl⟩|⟨xs,hx,rfl⟩
  ·obtain⟨o,ho,hc⟩:=I.lcls hx;exact IsiPair.list_str ho hc ⟨.bl _,H,I.tok _,rfl,q⟩
  ·obtain⟨o,ho,hc⟩:=I.tcls hx;exact IsiPair.tuple_str ho hc ⟨.bl _,H,I.tok _,rfl,q⟩
  ·obtain⟨o,ho,hc⟩:=I.dcls hx;exact IsiPair.dict_str ho hc ⟨.bl _,H,I.tok _,rfl,q⟩
 |_=>exact False.elim hx
theorem tL:CallR X (.builtin "isinstance") (λxs H Q=>∃x b,xs=[x,.ty "list"]/\TyV X.K "list" x H b/\Q (.bl b) H):=by
 intro pins s σ H xs us Q I r h
 obtain⟨x,b,rfl,hx,q⟩:=h
 obtain⟨u,w',rfl,rx,ry⟩:=iB r
 cases ry
 cases x with
 |non=>cases rx;cases hx;exact lA (by decide +kernel) F.isi_meta_list F.sub_NoneType_list ⟨.bl _,H,I.tok _,rfl,q⟩
 |bl k=>cases rx;cases hx;exact IsiPair.bool_list ⟨.bl _,H,I.tok _,rfl,q⟩
 |int i=>obtain⟨t,rfl⟩:=rx;cases hx;exact IsiPair.int_list ⟨.bl _,H,I.tok _,rfl,q⟩
 |str i=>obtain⟨t,rfl⟩:=rx;cases hx;exact IsiPair.str_list ⟨.bl _,H,I.tok _,rfl,q⟩
 |ref a=>
  cases rx
  rcases hx with⟨xs,hx,rfl⟩|⟨xs,hx,rfl⟩|⟨xs,hx,rfl⟩
  ·obtain⟨o,ho,hc⟩:=I.lcls hx;exact IsiPair.list_list ho hc ⟨.bl _,H,I,rfl,q⟩
  ·obtain⟨o,ho,hc⟩:=I.tcls hx;exact IsiPair.tuple_list ho hc ⟨.bl _,H,I.tok _,rfl,q⟩
  ·obtain⟨o,ho,hc⟩:=I.dcls hx;exact IsiPair.dict_list ho hc ⟨.bl _,H,I.tok _,rfl,q⟩
 |_=>exact False.elim hx
theorem fR:CallR X (.builtin "isinstance") (λxs H Q=>∃x b,xs=[x,.ty "tuple"]/\TyV X.K "tuple" x H b/\Q (.bl b) H):=by
 intro pins s σ H xs us Q I r h
 obtain⟨x,b,rfl,hx,q⟩:=h
 obtain⟨u,w',rfl,rx,ry⟩:=iB r
 cases ry
 cases x with
 |non=>cases rx;cases hx;exact lA (by decide +kernel) F.isi_meta_tuple F.sub_NoneType_tuple ⟨.bl _,H,I.tok _,rfl,q⟩
 |bl k=>cases rx;cases hx;exact IsiPair.bool_tuple ⟨.bl _,H,I.tok _,rfl,q⟩
 |int i=>obtain⟨t,rfl⟩:=rx;cases hx;exact IsiPair.int_tuple ⟨.bl _,H,I.tok _,rfl,q⟩
 |str i=>obtain⟨t,rfl⟩:=rx;cases hx;exact IsiPair.str_tuple ⟨.bl _,H,I.tok _,rfl,q⟩
 |ref a=>
  cases rx
  rcases hx with⟨xs,hx,rfl⟩|⟨xs,hx,rfl⟩|⟨xs,hx,rfl⟩
  ·obtain⟨o,ho,hc⟩:=I.lcls hx;exact IsiPair.list_tuple ho hc ⟨.bl _,H,I.tok _,rfl,q⟩
  ·obtain⟨o,ho,hc⟩:=I.tcls hx;exact IsiPair.tuple_tuple ho hc ⟨.bl _,H,I,rfl,q⟩
  ·obtain⟨o,ho,hc⟩:=I.dcls hx;exact IsiPair.dict_tuple ho hc ⟨.bl _,H,I.tok _,rfl,q⟩
 |_=>exact False.elim hx
theorem mQ:CallR X (.builtin "isinstance") (λxs H Q=>∃x b,xs=[x,.ty "dict"]/\TyV X.K "dict" x H b/\Q (.bl b) H):=by
 intro pins s σ H xs us Q I r h
 obtain⟨x,b,rfl,hx,q⟩:=h
 obtain⟨u,w',rfl,rx,ry⟩:=iB r
 cases ry
 cases x with
 |non=>cases rx;cases hx;exact lA (by decide +kernel) F.isi_meta_dict F.sub_NoneType_dict ⟨.bl _,H,I.tok _,rfl,q⟩
 |bl k=>cases rx;cases hx;exact IsiPair.bool_dict ⟨.bl _,H,I.tok _,rfl,q⟩
 |int i=>obtain⟨t,rfl⟩:=rx;cases hx;exact IsiPair.int_dict ⟨.bl _,H,I.tok _,rfl,q⟩
 |str i=>obtain⟨t,rfl⟩:=rx;cases hx;exact IsiPair.str_dict ⟨.bl _,H,I.tok _,rfl,q⟩
 |ref a=>
  cases rx
  rcases hx with⟨xs,hx,rfl⟩|⟨xs,hx,rfl⟩|⟨xs,hx,rfl⟩
  ·obtain⟨o,ho,hc⟩:=I.lcls hx;exact IsiPair.list_dict ho hc ⟨.bl _,H,I.tok _,rfl,q⟩
  ·obtain⟨o,ho,hc⟩:=I.tcls hx;exact IsiPair.tuple_dict ho hc ⟨.bl _,H,I.tok _,rfl,q⟩
  ·obtain⟨o,ho,hc⟩:=I.dcls hx;exact IsiPair.dict_dict ho hc ⟨.bl _,H,I,rfl,q⟩
 |_=>exact False.elim hx
theorem zW(hc:X.calm=true):CallR X (.builtin "sum") (λxs H Q=>∃(p:Addr) (ns:List Int),xs=[.ref p]/\SqL X.K H p (ns.map V.int)/\Q (.int ns.sum) H):=by
 intro pins s σ H xs us Q I r h
 obtain⟨p,ns,rfl,hq,q⟩:=h
 obtain⟨u,rfl,rx⟩:=cJ r
 cases rx
 obtain⟨its,rv,pl,hz⟩:=I.list hq
 have hi:IntsAre its ns:=mT rv
 have hall:=hi.allInts
 have e0:=hi.numsOf
 obtain⟨xs,ex⟩:=hall.items
 have e1:numsOf (intItems xs).toList=ns:=by rw[<-ex];exact e0
 rw[nums_intItems]at e1
 have hl:=pl.isList
 rw[ex]at hl
 refine sum_intListG (I.ok.hd hc) hl λh' tk t' hk=>⟨.int ns.sum,H,I.kept hk,⟨t',?_⟩,q⟩
 rw[preSum_eq,List.take_of_length_le (by simp),e1]
theorem zDr{prog:Program}{w:World}{A:Around}{bs:List Bool}{its:List Value}(rv:Vals (bs.map V.bl) its):TruthOf prog w A (λi v=>its.toArray[i]?=some v) λi=>bs.getD i false:=by
 intro i v s Q E hP hQ
 have hi:its[i]?=some v:=by simpa using hP
 have hl:=rv.length
 rw[List.length_map]at hl
 have hlt:i<bs.length:=by rw[hl];exact(List.getElem?_eq_some_iff.mp hi).1
 obtain⟨u,hu,ru⟩:=rv.get (i:=i) (x:=V.bl (bs.getD i false)) (by rw[List.getElem?_map,List.getD_eq_getElem?_getD,List.getElem?_eq_getElem hlt];rfl)
 rw[hi]at hu
 cases hu
 cases ru
 exact wpAny_truthy_bool hQ
theorem zEE(bs:List Bool):(List.range bs.length).all (λi=>bs.getD i false)=bs.all id:=by
 induction bs with
 |nil=>rfl
 |cons b r ih=>
  rw[List.length_cons,List.range_succ_eq_map,List.all_cons,List.all_cons,List.all_map]
  rw[<-ih]
  rfl
theorem zFg(hc:X.calm=true):CallR X (.builtin "all") (λxs H Q=>∃(p:Addr) (bs:List Bool),xs=[.ref p]/\SqL X.K H p (bs.map V.bl)/\Q (.bl (bs.all id)) H):=by
 intro pins s σ H xs us Q I r h
 obtain⟨p,bs,rfl,hq,q⟩:=h
 obtain⟨u,rfl,rx⟩:=cJ r
 cases rx
 obtain⟨its,rv,pl,hz⟩:=I.list hq
 have hlt:p<s.heap.objs.size:=by obtain⟨_,e,_⟩:=pl.isList;exact Heap.lt_size e
 have hll:=rv.length
 rw[List.length_map]at hll
 refine call_all_walk (wpAny_pyIter_list pl.isList ?_)
 refine⟨s.heap.objs.size,_,_,_,_,_,λi=>bs.getD i false,rfl,Walks.list (A:=X.A.in1) (I.ok.hd hc) _ p (Nat.ne_of_lt hlt) its.toArray,⟨⟨_,Heap.get?_push_size _ rfl,rfl,rfl⟩,pl.isList.at λo e=>Heap.get?_push_of_some _ e⟩,zDr rv,λh' tk hk=>?_⟩
 refine⟨.bl (bs.all id),H,I.kept λb o e=>hk b o (by simpa using Nat.ne_of_lt (Heap.lt_size e)) (Heap.get?_push_of_some _ e),?_,q⟩
 show Value.bool _=Value.bool _
 rw[List.size_toArray,<-hll,zEE]
def fO:List V->List V->Bool
 |[],[]=>true
 |x::xs,y::ys=>eqV x y&&fO xs ys
 |_,_=>false
theorem zAB:∀{xs ys:List V},xs.length≠ys.length->fO xs ys=false
 |[],[],h=>absurd rfl h
 |[],_::_,_=>rfl
 |_::_,[],_=>rfl
 |x::xs,y::ys,h=>by
  have:=zAB (xs:=xs) (ys:=ys) (λe=>h (by simp[e]))
  simp[fO,this]
theorem yW:∀{xs ys:List V},xs.length=ys.length->(List.range xs.length).all (λi=>eqV (xs.getD i .non) (ys.getD i .non))=fO xs ys
 |[],[],_=>rfl
 |[],_::_,h=>by simp at h
 |_::_,[],h=>by simp at h
 |x::xs,y::ys,h=>by
  have ih:=yW (xs:=xs) (ys:=ys) (by simpa using h)
  rw[List.length_cons,List.range_succ_eq_map,List.all_cons,List.all_map]
  show(eqV x y&&(List.range xs.length).all λi=>eqV (xs.getD i .non) (ys.getD i .non))=(eqV x y&&fO xs ys)
  rw[ih]
theorem zGu{A:Around}{s:Shared}{xs ys:List V}{us ws:List Value}(r:Vals xs us)(r':Vals ys ws)(fx:xs.all cY=true)(fy:ys.all cY=true)(j:Nat)(h1:j<us.toArray.size)(h2:j<ws.toArray.size):
  SeqAt.EqAt A s us.toArray[j] ws.toArray[j] (eqV (xs.getD j .non) (ys.getD j .non)):=by
 have l1:=r.length
 have l2:=r'.length
 have k1:j<xs.length:=by rw[l1];simpa using h1
 have k2:j<ys.length:=by rw[l2];simpa using h2
 obtain⟨u,hu,ru⟩:=r.get (i:=j) (x:=xs.getD j .non) (by rw[List.getD_eq_getElem?_getD,List.getElem?_eq_getElem k1];rfl)
 obtain⟨w',hw,rw'⟩:=r'.get (i:=j) (x:=ys.getD j .non) (by rw[List.getD_eq_getElem?_getD,List.getElem?_eq_getElem k2];rfl)
 have e1:us.toArray[j]=u:=by
  obtain⟨_,e⟩:=List.getElem?_eq_some_iff.mp hu
  simpa using e
 have e2:ws.toArray[j]=w':=by
  obtain⟨_,e⟩:=List.getElem?_eq_some_iff.mp hw
  simpa using e
 rw[e1,e2]
 refine zB6 ru rw' (List.all_eq_true.mp fx _ ?_) (List.all_eq_true.mp fy _ ?_)
 ·rw[List.getD_eq_getElem?_getD,List.getElem?_eq_getElem k1];exact List.getElem_mem k1
 ·rw[List.getD_eq_getElem?_getD,List.getElem?_eq_getElem k2];exact List.getElem_mem k2
def zKW(K:W.Frag)(neg:Bool):R2:=λx y H Q=>∃p q xs ys,x=.ref p/\y=.ref q/\SqL K H p xs/\SqL K H q ys/\xs.all cY=true/\ys.all cY=true/\Q (.bl (if neg then !fO xs ys else fO xs ys)) H
theorem zIT(hu:X.A.units<cLine):OpR X (compareOp .Eq) (zKW X.K false):=by
 intro pins s σ H x y v u Q I rx ry h
 obtain⟨p,q,xs,ys,rfl,rfl,hx,hy,fx,fy,k⟩:=h
 cases rx
 cases ry
 obtain⟨us,r1,p1,z1⟩:=I.list hx
 obtain⟨ws,r2,p2,z2⟩:=I.list hy
 by_cases hl:xs.length=ys.length
 ·refine SeqAt.eq_listAt p1.isList p2.isList (by simp[<-r1.length,<-r2.length,hl]) hu (λj h1 h2=>zGu r1 r2 fx fy j h1 h2) ⟨.bl (fO xs ys),H,I,?_,k⟩
  show Value.bool _=Value.bool _
  rw[List.size_toArray,<-r1.length,yW hl]
 ·refine SeqAt.eq_list_lengthsAt p1.isList p2.isList (by simp[<-r1.length,<-r2.length,hl]) hu ⟨.bl (fO xs ys),H,I,?_,k⟩
  rw[zAB hl];rfl
theorem zFy(n:Nat):sliceRange (sliceBounds none none (some (-1)) n).1 (sliceBounds none none (some (-1)) n).2.1 (sliceBounds none none (some (-1)) n).2.2=(List.range n).map λk=>n-1-k:=by
 have e:sliceBounds none none (some (-1)) n=((n:Int)-1,-1,-1):=by simp[sliceBounds]
 rw[e]
 unfold sliceRange
 simp only[show ¬ ((-1:Int) > 0) by decide,if_false]
 by_cases hn:n=0
 ·subst hn;simp
 ·have h1:(n:Int)-1 > -1:=by omega
  rw[if_pos h1]
  have h2:(((n:Int)-1 - -1 - -1-1) / (- -1)).toNat=n:=by
   rw[show(n:Int)-1 - -1 - -1-1=n by omega,show(- -1:Int)=1 by decide,Int.ediv_one]
   exact Int.toNat_natCast n
  rw[h2]
  refine List.map_congr_left λk hk=>?_
  have:=List.mem_range.mp hk
  omega
theorem zAz{α β:Type}{f g:α->Option β}:∀{l:List α},(∀x∈l,f x=g x)->l.filterMap f=l.filterMap g
 |[],_=>rfl
 |x::r,h=>by rw[List.filterMap_cons,List.filterMap_cons,h x List.mem_cons_self,zAz λy hy=>h y (List.mem_cons_of_mem _ hy)]
theorem zH{α:Type}:∀zs:List α,(List.range zs.length).filterMap (λk=>zs.reverse[zs.length-1-k]?)=zs
 |[]=>rfl
 |z::r=>by
  rw[List.length_cons,List.range_succ_eq_map,List.filterMap_cons,List.filterMap_map]
  have h0:(z::r).reverse[r.length+1-1-0]?=some z:=by simp
  rw[h0]
  have h1:List.filterMap ((λk=>(z::r).reverse[r.length+1-1-k]?)∘Nat.succ) (List.range r.length)=List.filterMap (λk=>r.reverse[r.length-1-k]?) (List.range r.length):=by
   apply zAz
   intro k hk
   have hk:=List.mem_range.mp hk
   show(z::r).reverse[r.length+1-1-(k+1)]?=r.reverse[r.length-1-k]?
   rw[List.reverse_cons,List.getElem?_append_left (by simp;omega)]
   rw[show r.length+1-1-(k+1)=r.length-1-k by omega]
  rw[h1,zH r]
theorem zFP{α:Type}(xs:List α):((List.range xs.length).map λk=>xs.length-1-k).filterMap (λi=>xs[i]?)=xs.reverse:=by
 have:=zH xs.reverse
 rw[List.length_reverse,List.reverse_reverse]at this
 rw[List.filterMap_map]
 exact this
theorem zC9(its:List Value):slicePick its.toArray none none (some (-1))=its.reverse.toArray:=by
 unfold slicePick
 rw[List.size_toArray,zFy]
 congr 1
 have:=zFP its
 simpa using this
def zKz(K:W.Frag)(te tst:TE):TE:=λσ H Q=>te σ H λx H1=>tst σ H1 λy H2=>y=.int (-1)/\∃p xs,x=.ref p/\SqL K H2 p xs/\∀l,H2 l=none->Q (.ref l) (upd H2 l (.lst xs.reverse))
theorem zIC{e st:Expr}{te tst:TE}{pos p2:Pos}(he:PE X e te)(hst:PE X st tst)(ht:∀o r,letTemporaryGo e o r=pure ():=by intro _ _;rfl):PE X (.Subscript e (.Slice none none (some st) p2) pos) (zKz X.K te tst):=by
 intro pins s σ H Q I h
 refine wpAny_Subscript_Slice_step (T:="list") slot_list_getitem.lookup (thn (he pins s σ H _ I h) λv s1 ⟨x,H1,I1,r1,q1⟩=>?_) ht
 refine wpAny_Slice ?_
 rw[evalPart_none,evalPart_some]
 refine wpAny_pure (wpAny_pure (thn (hst pins s1 σ H1 _ I1 q1) λvs s2 ⟨y,H2,I2,r2,q2⟩=>?_))
 obtain⟨rfl,p,xs,rfl,hx,q⟩:=q2
 obtain⟨t,rfl⟩:=r2
 cases r1
 have I3:Inv X pins σ H2 {s2 with heap:=s2.heap.push {cls:=.type "slice",data:=.fields #[.none,.none,.int (-1) t]}}:=I2.kept (t':=s2.toks) λb ob q=>Heap.get?_push_of_some _ q
 obtain⟨its,rv,pl,hz⟩:=I3.list hx
 refine⟨pl.isList.typeIs,?_⟩
 refine wpAny_getItem_list_slice pl.isList (Heap.IsSliceOf.new ..) .none .none (.int (-1) t) (by decide) ?_ (by rw[List.size_toArray,<-rv.length];exact hz)
 rw[zC9]
 refine⟨.ref _,_,I3.laid (t':=s2.toks) (o:=.lst xs.reverse) (λb ob q=>Heap.get?_push_of_some _ q) (Nat.le_refl _) ?_,rfl,q _ (I3.hok.fresh (Nat.le_refl _))⟩
 exact⟨by rw[List.length_reverse];exact hz,_,0,rv.reverse,Heap.get?_push_size _ rfl⟩
theorem zIP:OpR X (compareOp .Is) (λx y H Q=>∃b,y=.bl b/\Q (.bl (decide (x=.bl b))) H):=by
 intro pins s σ H x y v u Q I rx ry h
 obtain⟨b,rfl,q⟩:=h
 cases ry
 cases x with
 |non=>cases rx;exact wpAny_is_plain rfl ⟨.bl _,H,I,(by simp[RelV]),q⟩
 |bl k=>cases rx;exact wpAny_is_plain rfl ⟨.bl _,H,I,(by cases k<;>cases b<;>rfl),q⟩
 |int i=>obtain⟨t,rfl⟩:=rx;exact wpAny_is_plain rfl ⟨.bl _,H,I,(by simp[RelV]),q⟩
 |str i=>obtain⟨t,rfl⟩:=rx;exact wpAny_is_plain rfl ⟨.bl _,H,I,(by simp[RelV]),q⟩
 |byt i=>obtain⟨t,rfl⟩:=rx;exact wpAny_is_plain rfl ⟨.bl _,H,I,(by simp[RelV]),q⟩
 |flt i=>obtain⟨t,rfl⟩:=rx;exact wpAny_is_plain rfl ⟨.bl _,H,I,(by simp[RelV]),q⟩
 |ref i=>cases rx;exact wpAny_is_plain rfl ⟨.bl _,H,I,(by simp[RelV]),q⟩
 |ty i=>cases rx;exact wpAny_is_plain rfl ⟨.bl _,H,I,(by simp[RelV]),q⟩
theorem zEO:OpR X (compareOp .IsNot) (λx y H Q=>∃b,y=.bl b/\Q (.bl (!decide (x=.bl b))) H):=by
 intro pins s σ H x y v u Q I rx ry h
 obtain⟨b,rfl,q⟩:=h
 cases ry
 cases x with
 |non=>cases rx;exact wpAny_isNot_plain rfl ⟨.bl _,H,I,(by simp[RelV]),q⟩
 |bl k=>cases rx;exact wpAny_isNot_plain rfl ⟨.bl _,H,I,(by cases k<;>cases b<;>rfl),q⟩
 |int i=>obtain⟨t,rfl⟩:=rx;exact wpAny_isNot_plain rfl ⟨.bl _,H,I,(by simp[RelV]),q⟩
 |str i=>obtain⟨t,rfl⟩:=rx;exact wpAny_isNot_plain rfl ⟨.bl _,H,I,(by simp[RelV]),q⟩
 |byt i=>obtain⟨t,rfl⟩:=rx;exact wpAny_isNot_plain rfl ⟨.bl _,H,I,(by simp[RelV]),q⟩
 |flt i=>obtain⟨t,rfl⟩:=rx;exact wpAny_isNot_plain rfl ⟨.bl _,H,I,(by simp[RelV]),q⟩
 |ref i=>cases rx;exact wpAny_isNot_plain rfl ⟨.bl _,H,I,(by simp[RelV]),q⟩
 |ty i=>cases rx;exact wpAny_isNot_plain rfl ⟨.bl _,H,I,(by simp[RelV]),q⟩
def BigOk(j:Int):Prop:=j.natAbs<2 ^ 1024
theorem BigOk.log{j:Int}(h:BigOk j):j.natAbs.log2<9000:=by
 by_cases h0:j.natAbs=0
 ·rw[h0];decide +kernel
 ·have:j.natAbs.log2<1024:=(Nat.log2_lt h0).mpr h
  omega
theorem op_mulB:OpR X (binaryOp .Mult) (rI (λi j=>BigOk i/\BigOk j) λi j=>.int (i*j)):=opI λi j _ _ _ _ _ hc q=>by
 have bits:∀{x:Int},BigOk x->Builtin.Int.intBits x<=2 ^ 20:=λ{x} h=>by
  unfold Builtin.Int.intBits
  split
  ·exact Nat.zero_le _
  ·rename_i h0
   have h0':x.natAbs≠0:=λz=>h0 (by simpa using z)
   have:x.natAbs.log2<1024:=(Nat.log2_lt h0').mpr h
   omega
 exact mul_int q (.of_bits (bits hc.1) (bits hc.2))
theorem zAn:OpR X (binaryOp .FloorDiv) (rI (λ_ j=>0<j/\BigOk j) λi j=>.int (i / j)):=opI λi j _ _ _ _ _ hc q=>by
 have h1:(0:Int)<j:=hc.1
 exact floordiv_int (by omega) (by rw[Int.fdiv_eq_ediv_of_nonneg i (by omega)];exact q) (.inl (PyProof.noPylong_of_log2 hc.2.log))
end
end L2
namespace L2
open PySem PySem.Spec PyProof.Rows
def dZ:Expr->Bool
 |.Starred ..=>true
 |_=>false
theorem kT{e:Expr}{rest:List Expr}{env:Env}(h:dZ e=false):starEach (e::rest) env=(false,eval e env)::starEach rest env:=by
 cases e<;>first|rfl|exact Bool.noConfusion h
theorem dA{X:Cx}{e:Expr}{es:List Expr}{te:TE}{t:TA}(ha:PE X e te)(hr:PA X es t)(h:dZ e=false:=by rfl):PA X (e::es) (wH te t):=zG9 ha hr (kT h)
def Good(P:Program)(w:World)(K:W.Frag)(mg:Str->Option Value)(base:Heap)(k:Nat)(x:Str)(ps:List Str)(sp:Sp):Prop:=
 ∃(f:Addr) (fd:FuncData),FnOk P w K mg base CX0 k f fd ps sp/\Binds K fd ps []/\mg x=some (.ref f)/\W.keepIn K (.ref f)=true
section
variable{X:Cx}{k:Nat}{x:Str}{ps:List Str}{sp:Sp}{e:Expr}{es:List Expr}{t:TA}{p pos:Pos}
theorem rK(G:Good X.prog X.w X.K X.mg X.base k x ps sp)(hr:Room k X.A)(hg:Gl X x)(ha:PA X (e::es) t)(hdb:(x==("__debug__":Str))=false:=by decide)
  (hst:dZ e=false:=by rfl) (hpl:(backTo pos (starEach es X.env)).any (·.1)=false:=by rfl):PE X (.Call (.Name x p) (e::es) [] pos) (oG sp [] E0 t):=by
 obtain⟨f,fd,F,b,m,kp⟩:=G
 exact zG8 F hr hg m kp b .nil zCf ha hdb (kT hst) hpl
theorem zIG(G:Good X.prog X.w X.K X.mg X.base k x ps sp)(hr:Room k X.A)(hg:Gl X x)(hdb:(x==("__debug__":Str))=false:=by decide):PE X (.Call (.Name x p) [] [] pos) (oG sp [] E0 rV):=by
 obtain⟨f,fd,F,b,m,kp⟩:=G
 exact zFW F hr hg m kp b .nil zCf hdb
end
def Has(K:W.Frag)(mg:Str->Option Value)(x:Str)(st:Stmt):Prop:=∃(f:Addr) (fd:FuncData),Fun K x x st f fd/\mg x=some (.ref f)
theorem Has.good{P:Program}{w:World}{K:W.Frag}{mg:Str->Option Value}{base:Heap}{x:Str}{st:Stmt}{N ps:List Str}{k:Nat}{sp:Sp}(h:Has K mg x st)(S:bC N ps (aJ st))
  (hb:∀(kV doc pm:Value) (an:Option Addr) (cdv ct:Value) (us:List Value),us.length=ps.length->bindArgs (W.fnOf x x (gP st) (eX st) (aJ st) .none kV doc pm an cdv ct) ⟨us,[]⟩=pure (ps.zip us))
  (len:∀vs H Q E,sp vs H Q E->vs.length=ps.length)
  (hbody:∀(f:Addr) (cdv:Value) (A:Around) (outer:List Env) (s:Shared) (H:Hp) (vs:List V) (Q:VK) (E:XK),Room k (A.deeper (envOfC x (aJ st) s.heap.objs.size f cdv))->sp vs H Q E ->
   ∃t,PSs (jC CX0 P w K mg base N x (aJ st) f cdv A outer s H E).nox (eX st) t/\t {nx:=λ_ H'=>Q .non H',rt:=Q} (start N vs) H):Good P w K mg base (k+1) x ps sp:=by
 obtain⟨f,fd,F,m⟩:=h
 exact⟨f,fd,F.ok S len λcdv A outer s H vs Q E hr q=>hbody f cdv A outer s H vs Q E hr q,F.binds hb,m,F.kp⟩
theorem has_mk{K:W.Frag}{h:Heap}{mg:Str->Option Value}{x:Str}{st:Stmt}{f:Addr}{oc:Value}{od an:Option Addr}{osl:Array (Option Value)}{kV doc pm cdv ct:Value}(X:K.In h)(G:h.Ns mainGlobals mg)
  (a:W.nsIn K mainGlobals x=some (some (.ref f))) (l:K.lookup f=some ⟨oc,od,.func (W.fnOf x x (gP st) (eX st) (aJ st) .none kV doc pm an cdv ct),osl⟩)
  (c:W.codeIn K cdv x=true) (k:W.keepIn K (.ref f)=true):Has K mg x st:=⟨f,_,zB3 l c k,PySem.W.mg_of X G a⟩
structure Own (mg:Str->Option Value):Prop where
 len:mg "len"=none
 range:mg "range"=none
 isinstance:mg "isinstance"=none
 int_:mg "int"=none
 bool_:mg "bool"=none
 str_:mg "str"=none
 list_:mg "list"=none
 tuple_:mg "tuple"=none
 dict_:mg "dict"=none
 sum:mg "sum"=none
 min:mg "min"=none
 max:mg "max"=none
 all:mg "all"=none
 any:mg "any"=none
 abs:mg "abs"=none
 zip:mg "zip"=none
 sorted:mg "sorted"=none
 set_:mg "set"=none
 enumerate:mg "enumerate"=none
theorem zIL{K:W.Frag}{h:Heap}{mg:Str->Option Value}(X:K.In h)(G:h.Ns mainGlobals mg)(z1:W.nsIn K mainGlobals "len"=some none)(z2:W.nsIn K mainGlobals "range"=some none)
    (z3:W.nsIn K mainGlobals "isinstance"=some none) (z4:W.nsIn K mainGlobals "int"=some none) (z5:W.nsIn K mainGlobals "bool"=some none) (z6:W.nsIn K mainGlobals "str"=some none)
    (z7:W.nsIn K mainGlobals "list"=some none) (z8:W.nsIn K mainGlobals "tuple"=some none) (z9:W.nsIn K mainGlobals "dict"=some none) (z10:W.nsIn K mainGlobals "sum"=some none)
    (z11:W.nsIn K mainGlobals "min"=some none) (z12:W.nsIn K mainGlobals "max"=some none) (z13:W.nsIn K mainGlobals "all"=some none) (z14:W.nsIn K mainGlobals "any"=some none)
    (z15:W.nsIn K mainGlobals "abs"=some none) (z16:W.nsIn K mainGlobals "zip"=some none) (z17:W.nsIn K mainGlobals "sorted"=some none) (z18:W.nsIn K mainGlobals "set"=some none)
    (z19:W.nsIn K mainGlobals "enumerate"=some none):Own mg:=
  ⟨PySem.W.mg_none_of X G z1,PySem.W.mg_none_of X G z2,PySem.W.mg_none_of X G z3,PySem.W.mg_none_of X G z4,PySem.W.mg_none_of X G z5,PySem.W.mg_none_of X G z6,PySem.W.mg_none_of X G z7,PySem.W.mg_none_of X G z8,PySem.W.mg_none_of X G z9,PySem.W.mg_none_of X G z10,
   PySem.W.mg_none_of X G z11,PySem.W.mg_none_of X G z12,PySem.W.mg_none_of X G z13,PySem.W.mg_none_of X G z14,PySem.W.mg_none_of X G z15,PySem.W.mg_none_of X G z16,PySem.W.mg_none_of X G z17,PySem.W.mg_none_of X G z18,PySem.W.mg_none_of X G z19⟩
structure DeckAt (H:Hp) (p c:Addr):Prop where
 ne:p≠c
 dk:∃S k:Int,H p=some (.lst [.ref c,.int S,.int k])
 cs:∃ns:List Int,H c=some (.lst (ns.map V.int))/\ns.length<=64
structure On (p c:Addr) (H H':Hp):Prop where
 d:DeckAt H' p c
 e:∀b o,H b=some o->b≠p->b≠c->H' b=some o
section
variable{p c a:Addr}{H H1 H2:Hp}{o:HO}
theorem DeckAt.nep(d:DeckAt H p c)(h:H a=none):a≠p:=λz=>by
 obtain⟨S,k,e⟩:=d.dk
 rw[z,e]at h;cases h
theorem DeckAt.nec(d:DeckAt H p c)(h:H a=none):a≠c:=λz=>by
 obtain⟨ns,e,_⟩:=d.cs
 rw[z,e]at h;cases h
theorem DeckAt.alloc(d:DeckAt H p c)(h:H a=none):DeckAt (upd H a o) p c:=by
 obtain⟨S,k,e⟩:=d.dk
 obtain⟨ns,e',l⟩:=d.cs
 exact⟨d.ne,⟨S,k,by rw[bF (d.nep h).symm];exact e⟩,ns,by rw[bF (d.nec h).symm];exact e',l⟩
theorem On.trans(x:On p c H H1)(y:On p c H1 H2):On p c H H2:=⟨y.d,λb o h hp hc=>y.e b o (x.e b o h hp hc) hp hc⟩
theorem On.alloc(x:On p c H H1)(h:H1 a=none):On p c H (upd H1 a o):=
 ⟨x.d.alloc h,λb u q hp hc=>by rw[bF (dR (x.e b u q hp hc) h)];exact x.e b u q hp hc⟩
end
def zAW:Sp:=λvs H Q _=>∃n k:Int,vs=[.int n,.int k]/\∀r:Int,Q (.int r) H
def zBK(K:W.Frag):Sp:=λvs H Q _=>∃(a:Addr) (ns:List Int),vs=[.ref a]/\SqL K H a (ns.map V.int)/\∀(p c:Addr) (H':Hp),H p=none->H c=none->DeckAt H' p c->Same H H'->Q (.ref p) H'
def zBJ:Sp:=λvs H Q _=>∃(p c:Addr) (m:Int),vs=[.ref p,.int m]/\DeckAt H p c/\0<m/\BigOk m/\∀(r:Int) (H':Hp),0<=r->r<m->On p c H H'->Q (.int r) H'
end L2
namespace L2
open PySem PySem.Spec PyProof.Rows
theorem ObjOk.there{P:Program}{w:World}{H:Hp}{h:Heap}{a:Addr}{o:HO}(x:ObjOk P w H h a o):∃ob,h.get? a=some ob:=by
 cases o with
 |lst xs=>obtain⟨_,_,_,_,e⟩:=x;exact⟨_,e⟩
 |tup xs=>obtain⟨_,_,_,ob,e,_⟩:=x;exact⟨_,e⟩
 |dK kvs=>obtain⟨_,_,_,_,o,_,_,e,_⟩:=x;exact⟨_,e⟩
 |dT kvs=>obtain⟨_,_,_,_,o,_,_,e,_⟩:=x;exact⟨_,e⟩
 |set S n=>obtain⟨o,_,_,_,e,_⟩:=x;exact⟨_,e⟩
 |ins C dx fs=>obtain⟨_,_,_,e,_⟩:=x;exact⟨_,e⟩
 |own y=>obtain⟨_,e⟩:=x;exact⟨_,e⟩
 |xd fs=>obtain⟨_,⟨_,_,_,e,_⟩,_⟩:=x;exact⟨_,e⟩
 |rng lo hi=>obtain⟨_,_,_,e⟩:=x;exact⟨_,e⟩
 |frz ob u=>obtain⟨e,_⟩:=x;exact⟨_,e⟩
 |tbl ps=>exact⟨_,(show h.get? a=some _ from x)⟩
 |met f y=>exact⟨_,(show h.get? a=some _ from x)⟩
 |ext φ=>obtain⟨_,⟨_,e⟩,_⟩:=x;exact⟨_,e⟩
end L2
namespace L2
open PySem PySem.Spec PyProof.Rows
section
variable{X:Cx}
theorem cL{H:Hp}{a:Addr}{o:HO}(h:H a=none):Same H (upd H a o):=λb u q=>by rw[bF (dR q h)];exact q
def zJX(K:W.Frag):R2:=λx y H Q=>∃a b xs ys,x=.ref a/\y=.ref b/\SqT K H a xs/\SqT K H b ys/\xs.length+ys.length<=sizeLine/\∀r H',SqT K H' r (xs++ys)->Same H H'->Q (.ref r) H'
theorem op_catG:OpR X (binaryOp .Add) (zJX X.K):=by
 intro pins s σ H x y v u Q I rx ry h
 obtain⟨a,b,xs,ys,rfl,rfl,ha,hb,hz,q⟩:=h
 by_cases hx:xs=[]
 ·subst hx
  cases rx
  cases ry
  obtain⟨its,r1,p1,_⟩:=I.tuple ha
  obtain⟨its2,r2,p2,_⟩:=I.tuple hb
  obtain⟨⟨cls,dd,data,sl⟩,ho,hc,n,hd⟩:=id p1
  obtain⟨⟨cls2,dd2,data2,sl2⟩,ho2,hc2,n2,hd2⟩:=id p2
  simp only at hc hd hc2 hd2
  subst hc hd hc2 hd2
  have e1:its=[]:=r1.nil_iff.mpr rfl
  exact concat_meets ⟨_,ho,rfl⟩ ⟨_,ho2,rfl⟩ noFill_tuple_add seq_tuple_add PySem.F.slot_tuple_add PySem.F.entry_tuple_add (PySem.F.args_tuple_add_2 _ _)
   (tuple_addW0 a b its.toArray its2.toArray n n2 dd dd2 sl sl2 (by simp[e1])) ⟨ho,ho2,⟨.ref b,H,I,rfl,q b H hb (Same.refl H)⟩⟩
 ·refine zHg pins s σ H (.ref a) (.ref b) v u Q I rx ry ⟨a,b,xs,ys,rfl,rfl,ha,hb,hx,hz,λe=>q a H (by rw[e,List.append_nil];exact ha) (Same.refl H),λ_ p hp=>q p _ (SqT.of bE) (cL hp)⟩
structure QA (X:Cx) (es:List Expr) (t:TA):Prop where
 p:PA X es t
theorem zBN:QA X [] rV:=⟨dS⟩
theorem xL{e:Expr}{es:List Expr}{te:TE}{t:TA}(ha:PE X e te)(hr:QA X es t)(h:dZ e=false:=by rfl):QA X (e::es) (wH te t):=⟨dA ha hr.p h⟩
theorem zBd{es:List Expr}{t:TA}{pos:Pos}(h:QA X es t):PE X (.List es pos) (zCx t):=zBT h.p
theorem Inv.big{pins:List (Addr×Obj)}{σ:St}{H:Hp}{s:Shared}(I:Inv X pins σ H s):sysModules<s.heap.objs.size:=by
 have h:mainGlobals<s.heap.objs.size:=(I.mod.glob.keeps I.bk).lt
 exact Nat.lt_trans (by decide) h
theorem zAC{P:Program}{w:World}{H:Hp}(h:Heap)(hb:sysModules<h.objs.size):ObjOk P w H (h.push {cls:=.type "dict",data:=.dict #[]}) h.objs.size (.dK []):=
 ⟨Nat.zero_le _,beq_eq_false_iff_ne.mpr (Ne.symm (Nat.ne_of_lt hb)),[],.nil,Heap.DictOf.new h⟩
def zH0:TE:=λ_ H Q=>∀p,H p=none->Q (.ref p) (upd H p (.dK []))
theorem zFU{pos:Pos}:PE X (.Dict [] [] pos) zH0:=λpins s σ H Q I h=>
 wpAny_Dict_empty ⟨.ref s.heap.objs.size,_,I.laid (a:=s.heap.objs.size) (o:=.dK []) (t':=s.toks) (λ_ _ q=>Heap.get?_push_of_some _ q) (Nat.le_refl _) (zAC s.heap I.big),rfl,h _ (I.hok.fresh (Nat.le_refl _))⟩
end
end L2
namespace L2
open PySem PySem.Spec PyProof.Rows
section
variable{prog:Program}{w:World}{A:Around}{E:Value->Shared->Prop}{s:Shared}
theorem zDY{j t:Addr}{k:Nat}{vs:Array Value}{v:Value}{Q:Value->Shared->Prop}(hj:s.heap.IsTupleIter j t k)(ht:s.heap.IsTuple t vs)(hv:vs[k]?=some v)
  (q:∀h',h'.IsTupleIter j t (k+1)->Heap.SameBut j s.heap h'->Q v {s with heap:=h'}):wpAny (model prog w) A (Builtin.SmallTypes.nextOf (.ref j)) Q E s:=by
 obtain⟨oj,ej,cj,dj⟩:=id hj
 obtain⟨ot,et,_,nt,dt⟩:=id ht
 unfold Builtin.SmallTypes.nextOf
 refine wpAny_bind (wpAny_callSpecial?_slot (name:=Str.ofString "__next__") hj.typeIs F.slot_tuple_iterator_next (wpAny_call_entry F.slot_tuple_iterator_next hj.typeIs F.entry_tuple_iterator_next ?_ (F.args_tuple_iterator_next_1 _)))
 refine wpAny_bind (m:=field (.ref j) 0) (wpAny_field ej dj (x:=.ref t) rfl ?_)
 have nn:¬ ((Value.ref t==Value.none)=true):=Bool.false_ne_true
 show wpAny (model prog w) A.in1 (if (Value.ref t==Value.none)=true then _ else _) _ _ s
 rw[if_neg nn]
 refine wpAny_bind (m:=field (.ref j) 1) (wpAny_field ej dj (x:=.int k 0) rfl (wpAny_bind (m:=seqItems? (.ref t)) (wpAny_seqItems et dt ?_)))
 simp only[Int.toNat_natCast,hv]
 refine wpAny_bind (wpAny_setField ej dj (by simp) (wpAny_pure ⟨v,rfl,wpAny_pure (q _ ⟨_,Heap.get?_update_self _ ej (Obj.isFreed_of_fields (Obj.data_mapFields dj _)),(Obj.cls_mapFields ..).trans cj,?_⟩ (Heap.SameBut.update ..))⟩))
 rw[Obj.data_mapFields dj]
 simp[rawInt]
theorem zEQ{j t:Addr}{k:Nat}{vs:Array Value}{Q:Value->Shared->Prop}(hh:A.handled=none)(hj:s.heap.IsTupleIter j t k)(ht:s.heap.IsTuple t vs)(hv:vs[k]?=none)
  (q:∀h' e,Heap.ExtBut j s.heap h'->(∃o,h'.get? e=some o/\o.cls=.type "StopIteration")->E (.ref e) {s with heap:=h'}):wpAny (model prog w) A (Builtin.SmallTypes.nextOf (.ref j)) Q E s:=by
 obtain⟨oj,ej,cj,dj⟩:=id hj
 obtain⟨ot,et,_,nt,dt⟩:=id ht
 unfold Builtin.SmallTypes.nextOf
 refine wpAny_bind (wpAny_callSpecial?_slot (name:=Str.ofString "__next__") hj.typeIs F.slot_tuple_iterator_next (wpAny_call_entry F.slot_tuple_iterator_next hj.typeIs F.entry_tuple_iterator_next ?_ (F.args_tuple_iterator_next_1 _)))
 refine wpAny_bind (m:=field (.ref j) 0) (wpAny_field ej dj (x:=.ref t) rfl ?_)
 have nn:¬ ((Value.ref t==Value.none)=true):=Bool.false_ne_true
 show wpAny (model prog w) A.in1 (if (Value.ref t==Value.none)=true then _ else _) _ _ s
 rw[if_neg nn]
 refine wpAny_bind (m:=field (.ref j) 1) (wpAny_field ej dj (x:=.int k 0) rfl (wpAny_bind (m:=seqItems? (.ref t)) (wpAny_seqItems et dt ?_)))
 simp only[Int.toNat_natCast,hv]
 refine wpAny_bind (wpAny_rule (wpAny_bind (wpAny_setField ej dj (by simp) (wpAny_bind (m:=newExc (.type "StopIteration") []) ?_))))
 unfold newExc newTuple
 refine wpAny_bind (wpAny_newObj_type (wpAny_bind (m:=firstArgMember _ _) (wpAny_of_eq (a:=Value.none) (by first|rfl|(simp only[firstArgMember];rfl)) (wpAny_newObj_type ?_ (by size_fits)))) (by size_fits))
 unfold raiseNew
 refine wpAny_bind (wpAny_handled ?_)
 rw[show A.in1.handled=none from hh]
 exact wpAny_bind (wpAny_pure (wpAny_throw (q _ _ (((Heap.SameBut.update ..).extBut.push _).push _) ⟨_,Heap.get?_push_size _ rfl,rfl⟩)))
structure kL (prog:Program) (w:World) (i l:Addr) (it:Nat->Heap->Prop) (sq:Heap->Array Value->Prop):Prop where
 obj:∀k h,it k h->∃o,h.get? i=some o/\∀v,o.data≠.cell v
 itk:∀k h h',it k h->(∀o,h.get? i=some o->h'.get? i=some o)->it k h'
 sqk:∀h h' vs,sq h vs->(∀o,h.get? l=some o->h'.get? l=some o)->sq h' vs
 item:∀(A:Around) (E:Value->Shared->Prop) (s:Shared) (k:Nat) (vs:Array Value) (v:Value) (Q:Value->Shared->Prop),it k s.heap->sq s.heap vs->vs[k]?=some v ->
  (∀h',it (k+1) h'->Heap.SameBut i s.heap h'->Q v {s with heap:=h'})->wpAny (model prog w) A (Builtin.SmallTypes.nextOf (.ref i)) Q E s
 done:∀(A:Around) (E:Value->Shared->Prop) (s:Shared) (k:Nat) (vs:Array Value) (Q:Value->Shared->Prop),A.handled=none->it k s.heap->sq s.heap vs->vs[k]?=none ->
  (∀h' e,Heap.ExtBut i s.heap h'->(∃o,h'.get? e=some o/\o.cls=.type "StopIteration")->E (.ref e) {s with heap:=h'})->wpAny (model prog w) A (Builtin.SmallTypes.nextOf (.ref i)) Q E s
theorem zEu(i l:Addr):kL prog w i l (λk h=>h.IsListIter i l k) (λh vs=>h.IsList l vs) where
 obj:=λk h x=>let ⟨o,e,_,d⟩:=x;⟨o,e,λv z=>by rw[d]at z;cases z⟩
 itk:=λk h h' x f=>let ⟨o,e,r⟩:=x;⟨o,f o e,r⟩
 sqk:=λh h' vs x f=>let ⟨o,e,r⟩:=x;⟨o,f o e,r⟩
 item:=λA E s k vs v Q a b c q=>wpAny_nextOf_list_item a b c q
 done:=λA E s k vs Q hh a b c q=>wpAny_nextOf_list_end hh a b c q
theorem zFx(i l:Addr):kL prog w i l (λk h=>h.IsTupleIter i l k) (λh vs=>h.IsTuple l vs) where
 obj:=λk h x=>let ⟨o,e,_,d⟩:=x;⟨o,e,λv z=>by rw[d]at z;cases z⟩
 itk:=λk h h' x f=>let ⟨o,e,r⟩:=x;⟨o,f o e,r⟩
 sqk:=λh h' vs x f=>let ⟨o,e,r⟩:=x;⟨o,f o e,r⟩
 item:=λA E s k vs v Q a b c q=>zDY a b c q
 done:=λA E s k vs Q hh a b c q=>zEQ hh a b c q
section
variable{z TI TO i1 i2 l1 l2:Addr}{it1 it2:Nat->Heap->Prop}{sq1 sq2:Heap->Array Value->Prop}
theorem zGs(S1:kL prog w i1 l1 it1 sq1)(S2:kL prog w i2 l2 it2 sq2)(D:ZipApart z TI TO i1 i2 l1 l2){k1 k2:Nat}{xs ys:Array Value}{x y a b:Value}{Q:Value->Shared->Prop}
  (hz:IsZip s.heap z TI TO .none) (hI:IsPair s.heap TI (.ref i1) (.ref i2)) (hO:IsPair s.heap TO a b) (j1:it1 k1 s.heap) (j2:it2 k2 s.heap) (q1:sq1 s.heap xs) (q2:sq2 s.heap ys)
  (hx:xs[k1]?=some x) (hy:ys[k2]?=some y)
  (q:∀h',IsZip h' z TI TO (rawInt s.heap.objs.size)->IsPair h' TO x y->it1 (k1+1) h'->it2 (k2+1) h'->IsPair h' s.heap.objs.size x y->h'.objs.size=s.heap.objs.size+1 ->
   (∀c o,c≠z->c≠TO->c≠i1->c≠i2->s.heap.get? c=some o->h'.get? c=some o)->Q (.ref s.heap.objs.size) {s with heap:=h'}):
  wpAny (model prog w) A (Builtin.«zip.__next__» ⟨[.ref z],[]⟩) (λf s'=>∃v,f=.done (.ret v)/\Q v s') E s:=by
 refine wpAny_bind (m:=field (.ref z) 2) (wpAny_field hz rfl (x:=.bool false) rfl (wpAny_bind (m:=field (.ref z) 3) (wpAny_field hz rfl (x:=.ref TI) rfl (wpAny_bind (wpAny_seqItems hI rfl ?_)))))
 refine wpAny_bind (m:=Builtin.SmallTypes.ownedTupleIsFree (.ref z)) (wpAny_bind (wpAny_field hz rfl (x:=.none) rfl (wpAny_pure ?_)))
 simp only[if_true]
 refine wpAny_bind (wpAny_rule (wpAny_bind (wpAny_field hz rfl (x:=.ref TO) rfl (wpAny_bind (wpAny_setField_rec hz (by simp) λh1 hz1 s1=>?_)))))
 have hz1:IsZip h1 z TI TO .ellipsis:=hz1
 refine wpAny_bind ?_
 simp only[List.zipIdx_cons,List.zipIdx_nil,List.forIn_cons,List.forIn_nil]
 have e1:∀c o,c≠z->s.heap.get? c=some o->h1.get? c=some o:=λc o hc e=>s1.extBut _ _ hc e
 refine wpAny_bind (wpAny_bind (wpAny_onRaise (wpAny_bind (m:=Builtin.SmallTypes.nextOf (.ref i1)) (S1.item _ _ _ k1 xs x _ (S1.itk _ _ _ j1 λo e=>e1 _ o D.i1z e) (S1.sqk _ _ _ q1 λo e=>e1 _ o D.l1z e) hx λh2 j1' s2=>wpAny_pure ?_))))
 have e2:∀c o,c≠z->c≠i1->s.heap.get? c=some o->h2.get? c=some o:=λc o c1 c2 e=>s2.extBut _ _ c2 (e1 c o c1 e)
 have hO2:IsPair h2 TO a b:=e2 _ _ D.TOz D.TOi1 hO
 refine wpAny_bind (wpAny_seqItems hO2 rfl (wpAny_bind (wpAny_updateSeq_pair hO2 λh3 hO3 s3=>wpAny_bind (wpAny_letGo (wpAny_pure ?_)))))
 have hO3:IsPair h3 TO x b:=hO3
 have e3:∀c o,c≠z->c≠i1->c≠TO->s.heap.get? c=some o->h3.get? c=some o:=λc o c1 c2 c3 e=>s3.extBut _ _ c3 (e2 c o c1 c2 e)
 refine wpAny_bind (wpAny_bind (wpAny_onRaise (wpAny_bind (m:=Builtin.SmallTypes.nextOf (.ref i2)) (S2.item _ _ _ k2 ys y _ (S2.itk _ _ _ j2 λo e=>e3 _ o D.i2z D.i12.symm D.TOi2.symm e) (S2.sqk _ _ _ q2 λo e=>e3 _ o D.l2z D.l2i1 D.l2TO e) hy λh4 j2' s4=>wpAny_pure ?_))))
 have hO4:IsPair h4 TO x b:=s4.extBut _ _ D.TOi2 hO3
 refine wpAny_bind (wpAny_seqItems hO4 rfl (wpAny_bind (wpAny_updateSeq_pair hO4 λh5 hO5 s5=>wpAny_bind (wpAny_letGo (wpAny_pure (wpAny_pure ?_))))))
 have hO5:IsPair h5 TO x y:=hO5
 refine wpAny_bind (wpAny_seqItems hO5 rfl (wpAny_bind (wpAny_newTuple ?_)))
 have hs5:h5.objs.size=s.heap.objs.size:=by rw[s5.1,s4.1,s3.1,s2.1,s1.1]
 have hz5:IsZip h5 z TI TO .ellipsis:=s5.extBut _ _ D.TOz.symm (s4.extBut _ _ D.i2z.symm (s3.extBut _ _ D.TOz.symm (s2.extBut _ _ D.i1z.symm hz1)))
 have e5:∀c o,c≠z->c≠TO->c≠i1->c≠i2->s.heap.get? c=some o->h5.get? c=some o:=λc o c1 c2 c3 c4 e=>s5.extBut _ _ c2 (s4.extBut _ _ c4 (e3 c o c1 c3 c2 e))
 have lz:z<h5.objs.size:=Heap.lt_size hz5
 refine wpAny_bind (m:=Builtin.SmallTypes.ownedTupleHandOut (.ref z) (.ref h5.objs.size)) ?_
 unfold Builtin.SmallTypes.ownedTupleHandOut
 have hz6:IsZip (h5.push {cls:=.type "tuple",data:=.seq #[x,y]}) z TI TO .ellipsis:=Heap.get?_push_of_some _ hz5
 refine wpAny_bind (wpAny_setField_rec hz6 (by simp) λh7 hz7 s7=>?_)
 have hz7:IsZip h7 z TI TO (rawInt h5.objs.size):=hz7
 refine wpAny_setField_rec hz7 (by simp) λh8 hz8 s8=>?_
 have hz8:IsZip h8 z TI TO (rawInt h5.objs.size):=hz8
 have e8:∀c o,c≠z->h5.get? c=some o->h8.get? c=some o:=λc o c1 e=>s8.extBut _ _ c1 (s7.extBut _ _ c1 (Heap.get?_push_of_some _ e))
 have p8:IsPair h8 h5.objs.size x y:=s8.extBut _ _ (Nat.ne_of_gt lz) (s7.extBut _ _ (Nat.ne_of_gt lz) (Heap.get?_push_size _ rfl))
 have n8:h8.objs.size=h5.objs.size+1:=by rw[s8.1,s7.1,Heap.size_push]
 rw[hs5]at hz8 p8 n8
 refine wpAny_pure ⟨_,rfl,?_⟩
 show Q (Value.ref h5.objs.size) _
 rw[hs5]
 exact q h8 hz8 (e8 _ _ D.TOz hO5) (S1.itk _ _ _ j1' λo e=>e8 _ o D.i1z (s5.extBut _ _ D.TOi1.symm (s4.extBut _ _ D.i12 (s3.extBut _ _ D.TOi1.symm e)))) (S2.itk _ _ _ j2' λo e=>e8 _ o D.i2z (s5.extBut _ _ D.TOi2.symm e)) p8 n8
  λc o c1 c2 c3 c4 e=>e8 c o c1 (e5 c o c1 c2 c3 c4 e)
theorem zHJ(S1:kL prog w i1 l1 it1 sq1)(S2:kL prog w i2 l2 it2 sq2)(D:ZipApart z TI TO i1 i2 l1 l2)(hh:A.handled=none){k1 k2:Nat}{xs ys:Array Value}{a b:Value}{Q:Fin->Shared->Prop}
  (hz:IsZip s.heap z TI TO .none) (hI:IsPair s.heap TI (.ref i1) (.ref i2)) (hO:IsPair s.heap TO a b) (j1:it1 k1 s.heap) (j2:it2 k2 s.heap) (q1:sq1 s.heap xs) (q2:sq2 s.heap ys)
  (hn:xs[k1]?=none\/ys[k2]?=none)
  (q:∀h' e,(∀c o,c≠z->c≠TO->c≠i1->c≠i2->s.heap.get? c=some o->h'.get? c=some o)->(∃o,h'.get? e=some o/\o.cls=.type "StopIteration")->E (.ref e) {s with heap:=h'}):
  wpAny (model prog w) A (Builtin.«zip.__next__» ⟨[.ref z],[]⟩) Q E s:=by
 refine wpAny_bind (m:=field (.ref z) 2) (wpAny_field hz rfl (x:=.bool false) rfl (wpAny_bind (m:=field (.ref z) 3) (wpAny_field hz rfl (x:=.ref TI) rfl (wpAny_bind (wpAny_seqItems hI rfl ?_)))))
 refine wpAny_bind (m:=Builtin.SmallTypes.ownedTupleIsFree (.ref z)) (wpAny_bind (wpAny_field hz rfl (x:=.none) rfl (wpAny_pure ?_)))
 simp only[if_true]
 refine wpAny_bind (wpAny_rule (wpAny_bind (wpAny_field hz rfl (x:=.ref TO) rfl (wpAny_bind (wpAny_setField_rec hz (by simp) λh1 hz1 s1=>?_)))))
 have hz1:IsZip h1 z TI TO .ellipsis:=hz1
 refine wpAny_bind ?_
 simp only[List.zipIdx_cons,List.zipIdx_nil,List.forIn_cons,List.forIn_nil]
 have e1:∀c o,c≠z->s.heap.get? c=some o->h1.get? c=some o:=λc o hc e=>s1.extBut _ _ hc e
 have ez:∀{h:Heap} {e:Addr} {o:Obj},IsZip h z TI TO .ellipsis->h.get? e=some o->o.cls=.type "StopIteration"->e≠z:=λhz ho hc x=>by
  subst x
  rw[hz]at ho
  cases ho
  simp at hc
 cases hx:xs[k1]? with
 |none=>
  refine wpAny_bind (wpAny_bind (wpAny_onRaise (wpAny_bind (m:=Builtin.SmallTypes.nextOf (.ref i1)) (S1.done _ _ _ k1 xs _ hh (S1.itk _ _ _ j1 λo e=>e1 _ o D.i1z e) (S1.sqk _ _ _ q1 λo e=>e1 _ o D.l1z e) hx λh2 e s2 he=>?_))))
  obtain⟨oe,ho,hc⟩:=he
  have hz2:IsZip h2 z TI TO .ellipsis:=s2 _ _ D.i1z.symm hz1
  exact wpAny_setField_rec hz2 (by simp) λh3 _ s3=>q h3 e (λc o c1 _ c3 _ u=>s3.extBut _ _ c1 (s2 _ _ c3 (e1 c o c1 u))) ⟨oe,s3.extBut _ _ (ez hz2 ho hc) ho,hc⟩
 |some x=>
  have hy:ys[k2]?=none:=by
   rcases hn with h|h
   ·rw[hx]at h;cases h
   ·exact h
  refine wpAny_bind (wpAny_bind (wpAny_onRaise (wpAny_bind (m:=Builtin.SmallTypes.nextOf (.ref i1)) (S1.item _ _ _ k1 xs x _ (S1.itk _ _ _ j1 λo e=>e1 _ o D.i1z e) (S1.sqk _ _ _ q1 λo e=>e1 _ o D.l1z e) hx λh2 j1' s2=>wpAny_pure ?_))))
  have e2:∀c o,c≠z->c≠i1->s.heap.get? c=some o->h2.get? c=some o:=λc o c1 c2 e=>s2.extBut _ _ c2 (e1 c o c1 e)
  have hO2:IsPair h2 TO a b:=e2 _ _ D.TOz D.TOi1 hO
  refine wpAny_bind (wpAny_seqItems hO2 rfl (wpAny_bind (wpAny_updateSeq_pair hO2 λh3 hO3 s3=>wpAny_bind (wpAny_letGo (wpAny_pure ?_)))))
  have e3:∀c o,c≠z->c≠i1->c≠TO->s.heap.get? c=some o->h3.get? c=some o:=λc o c1 c2 c3 e=>s3.extBut _ _ c3 (e2 c o c1 c2 e)
  refine wpAny_bind (wpAny_bind (wpAny_onRaise (wpAny_bind (m:=Builtin.SmallTypes.nextOf (.ref i2)) (S2.done _ _ _ k2 ys _ hh (S2.itk _ _ _ j2 λo e=>e3 _ o D.i2z D.i12.symm D.TOi2.symm e) (S2.sqk _ _ _ q2 λo e=>e3 _ o D.l2z D.l2i1 D.l2TO e) hy λh4 e s4 he=>?_))))
  obtain⟨oe,ho,hc⟩:=he
  have hz4:IsZip h4 z TI TO .ellipsis:=s4 _ _ D.i2z.symm (s3.extBut _ _ D.TOz.symm (s2.extBut _ _ D.i1z.symm hz1))
  exact wpAny_setField_rec hz4 (by simp) λh5 _ s5=>q h5 e (λc o c1 c2 c3 c4 u=>s5.extBut _ _ c1 (s4 _ _ c4 (e3 c o c1 c3 c2 u))) ⟨oe,s5.extBut _ _ (ez hz4 ho hc) ho,hc⟩
end
abbrev zT1(hp:Heap)(a b:Addr):Heap:=hp.push {cls:=.type "tuple_iterator",data:=.fields #[.ref a,.int 0 0]}
abbrev zT2(hp:Heap)(a b:Addr):Heap:=(zT1 hp a b).push {cls:=.type "tuple_iterator",data:=.fields #[.ref b,.int 0 0]}
abbrev zT3(hp:Heap)(a b:Addr):Heap:=(zT2 hp a b).push {cls:=.type "tuple",data:=.seq #[.ref hp.objs.size,.ref (zT1 hp a b).objs.size]}
abbrev zT4(hp:Heap)(a b:Addr):Heap:=(zT3 hp a b).push {cls:=.type "tuple",data:=.seq #[.none,.none]}
abbrev zT5(hp:Heap)(a b:Addr):Heap:=(zT4 hp a b).push {cls:=.type "zip",data:=.fields #[.none,.bool false,.bool false,.ref (zT2 hp a b).objs.size,.ref (zT3 hp a b).objs.size]}
theorem zFm(a b:Addr)(xs ys:Array Value):Meets (Builtin.«zip.__new__» ⟨[.type "zip",.ref a,.ref b],[]⟩) (λ_ R s=>s.heap.IsTuple a xs/\s.heap.IsTuple b ys/\R (.ok (.ret (.ref (zT4 s.heap a b).objs.size))) {s with heap:=zT5 s.heap a b}):=
 .of_wp λprog w A R s h=>by
  obtain⟨hp,g,d,tk,os⟩:=s
  obtain⟨ha,hb,h⟩:=h
  have sz:=sub_zip
  have ha:Heap.IsTuple (Shared.heap ⟨hp,g,d,tk,os⟩) a xs:=ha
  have hb:Heap.IsTuple (Shared.heap ⟨hp.push {cls:=.type "tuple_iterator",data:=.fields #[.ref a,.int 0 0]},g,d,tk,os⟩) b ys:=Heap.IsTuple.push hb _
  wp_walk using wpAny_pyIter_tuple ha,wpAny_pyIter_tuple hb
  exact⟨_,rfl,h⟩
theorem zE9{a b:Addr}{xs ys:Array Value}{Q:Value->Shared->Prop}(ha:s.heap.IsTuple a xs)(hb:s.heap.IsTuple b ys)
  (q:∀h',IsZip h' (s.heap.objs.size+4) (s.heap.objs.size+2) (s.heap.objs.size+3) .none->IsPair h' (s.heap.objs.size+2) (.ref s.heap.objs.size) (.ref (s.heap.objs.size+1))->IsPair h' (s.heap.objs.size+3) .none .none ->
   h'.IsTupleIter s.heap.objs.size a 0->h'.IsTupleIter (s.heap.objs.size+1) b 0->h'.objs.size=s.heap.objs.size+5->(∀c o,s.heap.get? c=some o->h'.get? c=some o)->Q (.ref (s.heap.objs.size+4)) {s with heap:=h'}):
  wpAny (model prog w) A (call (.type "zip") [.ref a,.ref b]) Q E s:=by
 refine callType_new F.called_zip (by decide) (F.typeCall_zip_2 _ _) (F.newCall_zip_2 _ _) (λo=>F.args_object_init_3 o _ _) F.entry_zip_new (zFm a b xs ys) ⟨ha,hb,?_⟩
 have n1:(zT1 s.heap a b).objs.size=s.heap.objs.size+1:=Heap.size_push ..
 have n2:(zT2 s.heap a b).objs.size=s.heap.objs.size+2:=by rw[Heap.size_push,n1]
 have n3:(zT3 s.heap a b).objs.size=s.heap.objs.size+3:=by rw[Heap.size_push,n2]
 have n4:(zT4 s.heap a b).objs.size=s.heap.objs.size+4:=by rw[Heap.size_push,n3]
 have n5:(zT5 s.heap a b).objs.size=s.heap.objs.size+5:=by rw[Heap.size_push,n4]
 have p5:(zT5 s.heap a b).get? (zT4 s.heap a b).objs.size=some _:=Heap.get?_push_size _ rfl
 have p4:(zT5 s.heap a b).get? (zT3 s.heap a b).objs.size=some _:=Heap.get?_push_of_some _ (Heap.get?_push_size _ rfl)
 have p3:(zT5 s.heap a b).get? (zT2 s.heap a b).objs.size=some _:=Heap.get?_push_of_some _ (Heap.get?_push_of_some _ (Heap.get?_push_size _ rfl))
 have p2:(zT5 s.heap a b).get? (zT1 s.heap a b).objs.size=some _:=Heap.get?_push_of_some _ (Heap.get?_push_of_some _ (Heap.get?_push_of_some _ (Heap.get?_push_size _ rfl)))
 have p1:(zT5 s.heap a b).get? s.heap.objs.size=some _:=Heap.get?_push_of_some _ (Heap.get?_push_of_some _ (Heap.get?_push_of_some _ (Heap.get?_push_of_some _ (Heap.get?_push_size _ rfl))))
 show _/\_
 rw[n2,n3,n4]at p5
 rw[n1,n2]at p3
 rw[n3]at p4
 rw[n1]at p2
 rw[n4]
 exact⟨⟨_,p5,rfl⟩,q _ p5 p3 p4 ⟨_,p1,rfl,rfl⟩ ⟨_,p2,rfl,rfl⟩ n5 λc o e=>Heap.get?_push_of_some _ (Heap.get?_push_of_some _ (Heap.get?_push_of_some _ (Heap.get?_push_of_some _ (Heap.get?_push_of_some _ e))))⟩
end
section
variable{X:Cx}{pins:List (Addr×Obj)}{σ:St}{H:Hp}{s:Shared}{h':Heap}
theorem Inv.turnedL{t':Nat}{ch:List Addr}(I:Inv X pins σ H s)(hf:∀b∈ch,eO X pins H b)(k:∀b o,b∉ch->s.heap.get? b=some o->h'.get? b=some o):Inv X pins σ H {s with heap:=h',toks:=t'}:=by
 have nit:∀b u,H b=some u->b∉ch:=λb u e z=>by rw[(hf b z).1]at e;cases e
 refine I.step (g':=s.gens) (d':=s.drawn) (ch:=ch) (λb hb=>?_) (λb o _ _ hc e _=>k b o hc e) (λb o _ _ hc e _=>⟨o.slots,k b o hc e⟩) (λ_ _ _ _ n=>n)
  (λb o hc e=>⟨o,k b o hc e⟩) (λ_ _ e=>e) (λ_ _ _ e=>e) (λb ps e=>⟨#[],by rw[e];simp⟩) (λm hm=>?_) (λb u e=>?_) I.bare
 ·obtain⟨_,f1,_,f3,f4,f5⟩:=hf b hb
  exact⟨f3,f1,f4,f5⟩
 ·obtain⟨o,es,ep,ho,r⟩:=hm
  exact⟨o,es,ep,k _ o (λz=>(hf _ z).2.1 rfl) ho,r⟩
 ·refine(I.hok b u e).stay (λc v hc q=>k c v ?_ q) (λ_ q=>q) λ_ _ q=>q
  rcases hc with z|z
  ·rw[z];exact nit b u e
  ·exact nit c _ z
end
def SqX(t:Bool)(K:W.Frag)(H:Hp)(a:Addr)(xs:List V):Prop:=match t with
 |false=>SqL K H a xs
 |true=>SqT K H a xs
def Itz(t:Bool)(K:W.Frag)(a b:Addr):It:=
  ⟨λi H=>∃xs ys x y,SqX t K H a xs/\SqX t K H b ys/\xs[i]?=some x/\ys[i]?=some y,
   λi H v H'=>∃p x y,v=.ref p/\H p=none/\H'=upd H p (.tup [x,y])/\(∀xs,SqX t K H a xs->xs[i]?=some x)/\∀ys,SqX t K H b ys->ys[i]?=some y,
   λi H=>∃xs ys,SqX t K H a xs/\SqX t K H b ys/\(xs.length<=i\/ys.length<=i)⟩
def itX(t:Bool)(i a:Addr)(k:Nat)(h:Heap):Prop:=match t with
 |false=>h.IsListIter i a k
 |true=>h.IsTupleIter i a k
def sqX(t:Bool)(a:Addr)(h:Heap)(vs:Array Value):Prop:=match t with
 |false=>h.IsList a vs
 |true=>h.IsTuple a vs
theorem fK{prog:Program}{w:World}(t:Bool)(i a:Addr):kL prog w i a (itX t i a) (sqX t a):=by
 cases t
 ·exact zEu i a
 ·exact zFx i a
section
variable{X:Cx}{pins:List (Addr×Obj)}{σ:St}{H:Hp}{s:Shared}
theorem Inv.sqX{t:Bool}{a:Addr}{xs:List V}(I:Inv X pins σ H s)(h:SqX t X.K H a xs):∃vs:List Value,Vals xs vs/\L2.sqX t a s.heap vs.toArray/\xs.length<=sizeLine:=by
 cases t
 ·obtain⟨its,r,p,hz⟩:=I.list h
  exact⟨its,r,p.isList,hz⟩
 ·obtain⟨its,r,p,hz⟩:=I.tuple h
  exact⟨its,r,p,hz⟩
theorem Inv.sqX_inj{t:Bool}{a:Addr}{xs ys:List V}(I:Inv X pins σ H s)(h:SqX t X.K H a xs)(h':SqX t X.K H a ys):xs=ys:=by
 cases t
 ·exact I.list_inj h h'
 ·exact I.tuple_inj h h'
end
theorem zFt{P:Program}{w:World}{K:W.Frag}{es:List Expr}{ek:Nat}{pos:Pos}(t:Bool)(a b z TI TO i1 i2:Addr)(D:ZipApart z TI TO i1 i2 a b):
  gY P w K (.Tuple es ek pos) (Itz t K a b) [z,TI,TO,i1,i2] z (λi h=>IsZip h z TI TO .none/\IsPair h TI (.ref i1) (.ref i2)/\(∃x y,IsPair h TO x y)/\itX t i1 a i h/\itX t i2 b i h) where
 mem:=by simp
 obj:=λi h st c hc=>by
  obtain⟨hz,hI,⟨x,y,hO⟩,j1,j2⟩:=st
  simp only[List.mem_cons,List.not_mem_nil,or_false]at hc
  rcases hc with e|e|e|e|e<;>subst e
  ·exact⟨_,hz,λv u=>by cases u⟩
  ·exact⟨_,hI,λv u=>by cases u⟩
  ·exact⟨_,hO,λv u=>by cases u⟩
  ·exact(fK (prog:=P) (w:=w) t _ a).obj _ _ j1
  ·exact(fK (prog:=P) (w:=w) t _ b).obj _ _ j2
 keep:=λi h h' st k=>by
  obtain⟨hz,hI,⟨x,y,hO⟩,j1,j2⟩:=st
  exact⟨k z (by simp) _ hz,k TI (by simp) _ hI,⟨x,y,k TO (by simp) _ hO⟩,(fK (prog:=P) (w:=w) t i1 a).itk _ _ _ j1 λo e=>k i1 (by simp) o e,(fK (prog:=P) (w:=w) t i2 b).itk _ _ _ j2 λo e=>k i2 (by simp) o e⟩
 item:=by
  intro X hP hw hK hc i pins s σ H E I hf st hg
  subst hP hw hK
  obtain⟨xs,ys,x,y,qa,qb,hx,hy⟩:=hg
  obtain⟨hz,hI,⟨x0,y0,hO⟩,j1,j2⟩:=st
  obtain⟨va,ra,pa,za⟩:=I.sqX qa
  obtain⟨vb,rb,pb,zb⟩:=I.sqX qb
  obtain⟨u,hu,ru⟩:=ra.get hx
  obtain⟨v,hv,rv⟩:=rb.get hy
  have hT:s.TypeIs (.ref z) "zip":=⟨_,hz,rfl⟩
  unfold pyNext
  refine wpAny_bind (wpAny_attempt (wpAny_callSpecial?_slot (name:=Str.ofString "__next__") hT F.slot_zip_next (wpAny_call_entry F.slot_zip_next hT F.entry_zip_next (zGs (fK t i1 a) (fK t i2 b) D hz hI hO j1 j2 pa pb (x:=u) (y:=v) (by simpa using hu) (by simpa using hv)
   λh' a1 a2 a3 a4 a5 a6 a7=>wpAny_pure ⟨_,rfl,?_⟩) (F.args_zip_next_1 _))))
  refine wpAny_letOwnedTupleGo_zip (s:={s with heap:=h'}) a1 λh2 b1 b2=>?_
  have hn:∀c∈[z,TI,TO,i1,i2],c≠s.heap.objs.size:=λc hc' e=>by
   obtain⟨o,ho,_⟩:∃o,s.heap.get? c=some o/\True:=by
    simp only[List.mem_cons,List.not_mem_nil,or_false]at hc'
    rcases hc' with q|q|q|q|q
    ·exact⟨_,q▸hz,trivial⟩
    ·exact⟨_,q▸hI,trivial⟩
    ·exact⟨_,q▸hO,trivial⟩
    ·obtain⟨o,ho,_⟩:=(fK (prog:=X.prog) (w:=X.w) t i1 a).obj _ _ j1;exact⟨o,q▸ho,trivial⟩
    ·obtain⟨o,ho,_⟩:=(fK (prog:=X.prog) (w:=X.w) t i2 b).obj _ _ j2;exact⟨o,q▸ho,trivial⟩
   exact absurd (Heap.lt_size ho) (by rw[e];exact Nat.lt_irrefl _)
  have I0:Inv X pins σ (upd H s.heap.objs.size (.tup [x,y])) {s with heap:=s.heap.push {cls:=.type "tuple",data:=.seq #[u,v]}}:=
   I.laid (t':=s.toks) (λc o e=>Heap.get?_push_of_some _ e) (Nat.le_refl _) ⟨by show 2<=sizeLine;decide,[u,v],.cons ru (.cons rv .nil),IsTup.new _ _⟩
  have hf0:∀c∈[z,TI,TO,i1,i2],eO X pins (upd H s.heap.objs.size (.tup [x,y])) c:=λc hc'=>⟨by rw[bF (hn c hc')];exact(hf c hc').1,(hf c hc').2⟩
  have I1:Inv X pins σ (upd H s.heap.objs.size (.tup [x,y])) {s with heap:=h2}:=Inv.turnedL (s:={s with heap:=s.heap.push {cls:=.type "tuple",data:=.seq #[u,v]}}) (t':=s.toks) (ch:=[z,TI,TO,i1,i2]) I0 hf0 λc o hc' e=>by
   simp only[List.mem_cons,List.not_mem_nil,or_false,not_or]at hc'
   obtain⟨c1,c2,c3,c4,c5⟩:=hc'
   by_cases hcn:c=s.heap.objs.size
   ·subst hcn
    have e':(s.heap.push {cls:=.type "tuple",data:=.seq #[u,v]}).get? s.heap.objs.size=some o:=e
    rw[Heap.get?_push_size _ rfl]at e'
    cases e'
    exact b2.extBut _ _ c1 a5
   ·refine b2.extBut _ _ c1 (a7 c o c1 c3 c4 c5 ?_)
    have e':(s.heap.push {cls:=.type "tuple",data:=.seq #[u,v]}).get? c=some o:=e
    rw[Heap.get?_push_ne _ _ _ hcn]at e'
    exact e'
  refine⟨.ref s.heap.objs.size,_,I1,rfl,⟨_,x,y,rfl,I.hok.fresh (Nat.le_refl _),rfl,λxs' h=>by rw[I.sqX_inj h qa];exact hx,λys' h=>by rw[I.sqX_inj h qb];exact hy⟩,⟨b1,?_,⟨u,v,b2.extBut _ _ D.TOz a2⟩,?_,?_⟩,λc hc'=>(hf0 c hc').1⟩
  ·exact b2.extBut _ _ D.TIz (a7 _ _ D.TIz D.TITO D.TIi1 D.TIi2 hI)
  ·exact(fK (prog:=X.prog) (w:=X.w) t i1 a).itk _ _ _ a3 λo e=>b2.extBut _ _ D.i1z e
  ·exact(fK (prog:=X.prog) (w:=X.w) t i2 b).itk _ _ _ a4 λo e=>b2.extBut _ _ D.i2z e
 done:=by
  intro X hP hw hK hc i pins s σ H E I hf st hg
  subst hP hw hK
  obtain⟨xs,ys,qa,qb,hl⟩:=hg
  obtain⟨hz,hI,⟨x0,y0,hO⟩,j1,j2⟩:=st
  obtain⟨va,ra,pa,za⟩:=I.sqX qa
  obtain⟨vb,rb,pb,zb⟩:=I.sqX qb
  have la:=ra.length
  have lb:=rb.length
  have hT:s.TypeIs (.ref z) "zip":=⟨_,hz,rfl⟩
  unfold pyNext
  refine wpAny_bind (wpAny_attempt (wpAny_callSpecial?_slot (name:=Str.ofString "__next__") hT F.slot_zip_next (wpAny_call_entry F.slot_zip_next hT F.entry_zip_next (zHJ (fK t i1 a) (fK t i2 b) D (show X.A.in1.handled=none from I.ok.hd hc) hz hI hO j1 j2 pa pb
   (hl.elim (λh=>.inl (by simp;omega)) λh=>.inr (by simp;omega)) λh' e k he=>?_) (F.args_zip_next_1 _))))
  obtain⟨o,ho,hce⟩:=he
  refine wpAny_bind (wpAny_isInstance (T:="StopIteration") (b:=true) ⟨o,ho,hce⟩ isSubtype_stop (wpAny_pure ⟨rfl,I.turnedL (t':=s.toks) hf λc o hc' e=>?_⟩))
  simp only[List.mem_cons,List.not_mem_nil,or_false,not_or]at hc'
  exact k c o hc'.1 hc'.2.2.1 hc'.2.2.2.1 hc'.2.2.2.2 e
 self:=λ_ _ _ _ _ st h=>wpAny_pyIter_zip st.1 h
theorem zHK{n a b:Nat}(ha:a<n)(hb:b<n):ZipApart (n+4) (n+2) (n+3) n (n+1) a b:=by
 constructor<;>(intro (e:(_:Nat)=_);omega)
theorem zFh:bootBuiltins "zip"=some (.type "zip"):=by decide +kernel
section
variable{X:Cx}
def zLd(K:W.Frag)(ta:TA):TI:=λσ H R=>ta σ H λvs H1=>∃(t:Bool) (a b:Addr),vs=[.ref a,.ref b]/\(∃xs,SqX t K H1 a xs)/\(∃ys,SqX t K H1 b ys)/\R (Itz t K a b) H1
theorem zIw{a b:Expr}{ta:TA}{es:List Expr}{ek:Nat}{p pos pos':Pos}(hg:Gl X "zip")(hm:X.mg "zip"=none)(ha:PA X [a,b] ta)(hs:starEach [a,b] X.env=[(false,eval a X.env),(false,eval b X.env)]:=by rfl)(hs2:starEach [b] X.env=[(false,eval b X.env)]:=by rfl):
  PI X (.Tuple es ek pos') (.Call (.Name "zip" p) [a,b] [] pos) (zLd X.K ta):=by
 intro pins s σ H R I h
 refine Call_ (jU I hg hm zFh (PyProof.Rows.callWith_type1 (thn (ha pos pins s σ H _ I h) λus s1 ⟨vs,H1,I1,r1,q1⟩=>?_) (by rw[hs,hs2]) (by rw[hs2];rfl)))
 obtain⟨t,a,b,e,⟨xs,hx⟩,⟨ys,hy⟩,q⟩:=q1
 subst e
 obtain⟨u,w',rfl,rx,ry⟩:=iB r1
 cases rx
 cases ry
 obtain⟨va,ra,pa,za⟩:=I1.sqX hx
 obtain⟨vb,rb,pb,zb⟩:=I1.sqX hy
 have la:a<s1.heap.objs.size:=by
  cases t
  ·obtain⟨o,e,_⟩:=pa;exact Heap.lt_size e
  ·obtain⟨o,e,_⟩:=pa;exact Heap.lt_size e
 have lb:b<s1.heap.objs.size:=by
  cases t
  ·obtain⟨o,e,_⟩:=pb;exact Heap.lt_size e
  ·obtain⟨o,e,_⟩:=pb;exact Heap.lt_size e
 have fin:∀h':Heap,IsZip h' (s1.heap.objs.size+4) (s1.heap.objs.size+2) (s1.heap.objs.size+3) .none->IsPair h' (s1.heap.objs.size+2) (.ref s1.heap.objs.size) (.ref (s1.heap.objs.size+1))->IsPair h' (s1.heap.objs.size+3) .none .none ->
   itX t s1.heap.objs.size a 0 h'->itX t (s1.heap.objs.size+1) b 0 h'->h'.objs.size=s1.heap.objs.size+5->(∀c o,s1.heap.get? c=some o->h'.get? c=some o) ->
   wpAny (model X.prog X.w) X.A (pyIter (.ref (s1.heap.objs.size+4))) (PIE X pins σ (.Tuple es ek pos') R) X.xe {s1 with heap:=h'}:=by
  intro h' hz hI hO j1 j2 _ k
  refine wpAny_pyIter_zip hz ?_
  refine⟨_,[s1.heap.objs.size+4,s1.heap.objs.size+2,s1.heap.objs.size+3,s1.heap.objs.size,s1.heap.objs.size+1],_,_,H1,rfl,I1.kept (t':=s1.toks) k,zFt t a b _ _ _ _ _ ?_,⟨hz,hI,⟨_,_,hO⟩,j1,j2⟩,λc hc=>?_,q⟩
  ·exact zHK la lb
  ·have:s1.heap.objs.size<=c:=by
    simp only[List.mem_cons,List.not_mem_nil,or_false]at hc
    rcases hc with e|e|e|e|e<;>(rw[e];first|exact Nat.le_refl _|exact Nat.le_add_right _ _)
   exact I1.fpOk this (I1.hok.fresh this)
 cases t
 ·exact call_zip_2 pa pb fin
 ·exact zE9 pa pb fin
end
section
variable{X:Cx}
theorem zFc(hc:X.calm=true):CallR X (.builtin "min") (λxs H Q=>∃(p:Addr) (ns:List Int),xs=[.ref p]/\SqL X.K H p (ns.map V.int)/\0<ns.length/\∀M,M∈ns->(∀a∈ns,M<=a)->Q (.int M) H):=by
 intro pins s σ H xs us Q I r h
 obtain⟨p,ns,rfl,hq,hn,q⟩:=h
 obtain⟨u,rfl,rx⟩:=cJ r
 cases rx
 obtain⟨its,rv,pl,hz⟩:=I.list hq
 have hi:IntsAre its ns:=mT rv
 obtain⟨zs,ez⟩:=hi.allInts.items
 have en:ns=zs.toList.map (·.1):=by rw[<-hi.numsOf,<-nums_intItems,<-ez]
 have hz0:0<zs.size:=by rw[en,List.length_map,Array.length_toList]at hn;exact hn
 have hl:=pl.isList
 rw[ez]at hl
 refine min_intList (I.ok.hd hc) hl hz0 λv h' tk hv hk=>?_
 obtain⟨t,rfl⟩:=intItems_at hv
 obtain⟨h1,h2⟩:=argBest_lt (numAt zs) (zs.size-1)
 refine⟨.int _,H,I.kept hk,⟨t,rfl⟩,q _ ?_ λa ha=>?_⟩
 ·rw[en,numAt_eq]
  exact getD_mem (by rw[List.length_map,Array.length_toList];omega)
 ·rw[en]at ha
  obtain⟨j,hj,rfl⟩:=mem_getD ha
  rw[List.length_map,Array.length_toList]at hj
  have:=h2 j (by omega)
  rw[numAt_eq zs j]at this
  exact this
theorem zFe(hc:X.calm=true):CallR X (.builtin "max") (λxs H Q=>∃(p:Addr) (ns:List Int),xs=[.ref p]/\SqL X.K H p (ns.map V.int)/\0<ns.length/\∀M,M∈ns->(∀a∈ns,a<=M)->Q (.int M) H):=by
 intro pins s σ H xs us Q I r h
 obtain⟨p,ns,rfl,hq,hn,q⟩:=h
 obtain⟨u,rfl,rx⟩:=cJ r
 cases rx
 obtain⟨its,rv,pl,hz⟩:=I.list hq
 have hi:IntsAre its ns:=mT rv
 obtain⟨zs,ez⟩:=hi.allInts.items
 have en:ns=zs.toList.map (·.1):=by rw[<-hi.numsOf,<-nums_intItems,<-ez]
 have hz0:0<zs.size:=by rw[en,List.length_map,Array.length_toList]at hn;exact hn
 have hl:=pl.isList
 rw[ez]at hl
 refine max_intList (I.ok.hd hc) hl hz0 λv h' tk hv hk=>?_
 obtain⟨t,rfl⟩:=intItems_at hv
 obtain⟨h1,h2⟩:=argBest_gt (numAt zs) (zs.size-1)
 refine⟨.int _,H,I.kept hk,⟨t,rfl⟩,q _ ?_ λa ha=>?_⟩
 ·rw[en,numAt_eq]
  exact getD_mem (by rw[List.length_map,Array.length_toList];omega)
 ·rw[en]at ha
  obtain⟨j,hj,rfl⟩:=mem_getD ha
  rw[List.length_map,Array.length_toList]at hj
  have:=h2 j (by omega)
  rw[numAt_eq zs j]at this
  exact this
end
end L2
namespace L2
open PySem PySem.Spec PyProof.Rows
theorem zDp{us:List Value}{ns:List Int}(h:IntsAre us ns):Vals (ns.map V.int) us:=by
 induction h with
 |nil=>exact .nil
 |cons n t _ ih=>exact .cons ⟨t,rfl⟩ ih
section
variable{X:Cx}
theorem call_sortedI:CallR X (.builtin "sorted") (λxs H Q=>∃(p:Addr) (ns:List Int),xs=[.ref p]/\SqL X.K H p (ns.map V.int)/\ns.length<64 /\
  ∀(ns':List Int) (l:Addr),ns'.Perm ns->ns'.Pairwise (·<=·)->H l=none->Q (.ref l) (upd H l (.lst (ns'.map V.int)))):=by
 intro pins s σ H xs us Q I r h
 obtain⟨p,ns,rfl,hq,h64,q⟩:=h
 obtain⟨u,rfl,rx⟩:=cJ r
 cases rx
 obtain⟨its,rv,pl,hz⟩:=I.list hq
 have hi:IntsAre its ns:=mT rv
 have hll:=rv.length
 rw[List.length_map]at hll
 refine sorted_ints pl.isList hi (by omega) λout ns' a1 a2 a3=>?_
 obtain⟨e,he⟩:=sortedAll_at s.heap its out
 have hlen:=a2.length_eq
 refine⟨.ref (s.heap.objs.size+1),_,I.laid (t':=s.toks) (λb o e=>sortedAll_old e) (Nat.le_succ _) (show ObjOk X.prog X.w _ _ _ (.lst (ns'.map V.int)) from ⟨?_,out.toList,e,zDp a1,he⟩),rfl,q ns' _ a2 a3 (I.hok.fresh (Nat.le_succ _))⟩
 rw[List.length_map,hlen]
 exact Nat.le_of_lt (Nat.lt_trans h64 (by decide))
end
end L2
namespace L2
open PySem PySem.Spec PyProof.Rows
def Its(x:Str):It:=⟨λi _=>i<x.cps.size,λi H v H'=>H'=H/\∃c,x.cps[i]?=some c/\v=.str ⟨#[c]⟩,λi _=>x.cps.size<=i⟩
theorem zEp{P:Program}{w:World}{K:W.Frag}{tg:Expr}(it:Addr)(x:Str)(t:Tok):gY P w K tg (Its x) [it] it (λi h=>h.IsStrIter it "str_ascii_iterator" x t i) where
 mem:=by simp
 obj:=λi h st b hb=>by
  have e:b=it:=by simpa using hb
  subst e
  obtain⟨o,e,c,d⟩:=st
  exact⟨o,e,λv z=>by rw[d]at z;cases z⟩
 keep:=λi h h' st k=>let ⟨o,ho,r⟩:=st;⟨o,k it (by simp) o ho,r⟩
 item:=by
  intro X hP hw hK hc i pins s σ H E I hf st hg
  subst hP hw hK
  obtain⟨f0,f1,f2,f3,f4,f5⟩:=hf it (by simp)
  have W:=Walks.strAscii (prog:=X.prog) (w:=X.w) (I.ok.hd hc) it x t
  refine W.item i s _ _ hg st λv h' tk hv st' kk=>?_
  obtain⟨c,u,hc',rfl⟩:=hv
  have I1:Inv X pins σ H {s with heap:=h',toks:=tk}:=I.turned (λb o hb e=>kk b o (by simpa using hb) e) f0 f1 f3 f4 f5
  obtain⟨o,e,c1,d⟩:=id st'
  exact⟨_,rfl,mC (s:={s with heap:=h',toks:=tk}) e c1 d (by decide) ⟨.str ⟨#[c]⟩,H,I1,⟨u,rfl⟩,⟨rfl,c,hc',rfl⟩,st',λb hb=>(hf b hb).1⟩⟩
 done:=by
  intro X hP hw hK hc i pins s σ H E I hf st hg
  subst hP hw hK
  obtain⟨f0,f1,f2,f3,f4,f5⟩:=hf it (by simp)
  exact wpAny_pyNext_ascii_end (I.ok.hd hc) st (by have:x.cps.size<=i:=hg;simp;omega) λh' eb=>⟨rfl,I.turned (t':=s.toks) (λb o hb e=>eb b o hb e) f0 f1 f3 f4 f5⟩
 self:=λ_ _ _ _ _ st h=>wpAny_pyIter_striter_ascii st h
theorem zEo{P:Program}{w:World}{K:W.Frag}{tg:Expr}(it:Addr)(x:Str)(t:Tok):gY P w K tg (Its x) [it] it (λi h=>h.IsStrIter it "str_iterator" x t i) where
 mem:=by simp
 obj:=λi h st b hb=>by
  have e:b=it:=by simpa using hb
  subst e
  obtain⟨o,e,c,d⟩:=st
  exact⟨o,e,λv z=>by rw[d]at z;cases z⟩
 keep:=λi h h' st k=>let ⟨o,ho,r⟩:=st;⟨o,k it (by simp) o ho,r⟩
 item:=by
  intro X hP hw hK hc i pins s σ H E I hf st hg
  subst hP hw hK
  obtain⟨f0,f1,f2,f3,f4,f5⟩:=hf it (by simp)
  have W:=Walks.strWide (prog:=X.prog) (w:=X.w) (I.ok.hd hc) it x t
  refine W.item i s _ _ hg st λv h' tk hv st' kk=>?_
  obtain⟨c,u,hc',rfl⟩:=hv
  have I1:Inv X pins σ H {s with heap:=h',toks:=tk}:=I.turned (λb o hb e=>kk b o (by simpa using hb) e) f0 f1 f3 f4 f5
  obtain⟨o,e,c1,d⟩:=id st'
  exact⟨_,rfl,mC (s:={s with heap:=h',toks:=tk}) e c1 d (by decide) ⟨.str ⟨#[c]⟩,H,I1,⟨u,rfl⟩,⟨rfl,c,hc',rfl⟩,st',λb hb=>(hf b hb).1⟩⟩
 done:=by
  intro X hP hw hK hc i pins s σ H E I hf st hg
  subst hP hw hK
  obtain⟨f0,f1,f2,f3,f4,f5⟩:=hf it (by simp)
  exact wpAny_pyNext_wide_end (I.ok.hd hc) st (by have:x.cps.size<=i:=hg;simp;omega) λh' eb=>⟨rfl,I.turned (t':=s.toks) (λb o hb e=>eb b o hb e) f0 f1 f3 f4 f5⟩
 self:=λ_ _ _ _ _ st h=>wpAny_pyIter_striter_wide st h
section
variable{X:Cx}
def zGO:V->List V->Hp->VK->Prop:=λx vs H Q=>∃i j,x=.str i/\vs=[.str j]/\Q (.bl (decide (0+j.length<=i.length)&&Builtin.Str.subAt i j 0)) H
theorem zDc:MtM X "str.startswith" zGO:=by
 intro pins s σ H x vs v us Q I rx rv h
 obtain⟨i,j,rfl,rfl,q⟩:=h
 obtain⟨t,rfl⟩:=rx
 obtain⟨u,rfl,t',rfl⟩:=rv.one
 exact call_gives F.slot_str_startswith (typeIs_str _ _ _) F.entry_str_startswith (F.args_str_startswith_2 _ _) (gives_str_startswith i j t t') ⟨.bl _,H,I,rfl,q⟩
def zJU:V->List V->Hp->VK->Prop:=λx vs H Q=>∃i j,x=.str i/\vs=[.str j]/\∀n:Int,Q (.int n) H
theorem zHl:MtM X "str.find" zJU:=by
 intro pins s σ H x vs v us Q I rx rv h
 obtain⟨i,j,rfl,rfl,q⟩:=h
 obtain⟨t,rfl⟩:=rx
 obtain⟨u,rfl,t',rfl⟩:=rv.one
 exact call_gives F.slot_str_find (typeIs_str _ _ _) F.entry_str_find (F.args_str_find_2 _ _) (gives_str_find i j t t') ⟨.int _,H,I.tok _,⟨_,rfl⟩,q _⟩
end
def KD(prm:Params):List DictEntry->List (Str×Str)->Prop
 |[],[]=>True
 |e::es,kv::kvs=>e.hash=PyData.keyHash prm kv.1/\(∃t,e.key=.str kv.1 t)/\(∃t,e.val=.str kv.2 t)/\KD prm es kvs
 |_,_=>False
structure zCs (K:W.Frag) (prm:Params) (d:Addr) (kvs:List (Str×Str)):Prop where
 obj:∃(es:Array DictEntry) (ep:Nat),K.lookup d=some ⟨.type "dict",none,.dict es ep,#[]⟩/\KD prm es.toList kvs
 nd:(kvs.map (·.1)).Nodup
def getS(kvs:List (Str×Str))(x:Str):Option Str:=(kvs.find? λkv=>kv.1=x).map (·.2)
theorem KD.keys{P:Program}{w:World}:∀{es:List DictEntry}{kvs:List (Str×Str)},KD w.params es kvs->∀e∈es,∃k,(bW P w).is k e.key=true/\e.hash=(bW P w).hash k
 |[],[],_,e,he=>nomatch he
 |a::es,kv::kvs,⟨h1,⟨t,h2⟩,_,h4⟩,e,he=>by
  rcases List.mem_cons.mp he with z|z
  ·subst z
   exact⟨.inr kv.1,by rw[h2];exact pI P w kv.1 t,by rw[h1];rfl⟩
  ·exact KD.keys h4 e z
theorem KD.pairs{P:Program}{w:World}:∀{es:List DictEntry}{kvs:List (Str×Str)},KD w.params es kvs->∃vs:List (Key×Value),Pairs (bW P w) es vs/\vs.map (·.1)=kvs.map (λkv=>Sum.inr kv.1) /\
  ∀x y,getS kvs x=some y->∃t,valueAt vs (.inr x)=some (.str y t)
 |[],[],_=>⟨[],.nil,rfl,λx y h=>nomatch h⟩
 |a::es,kv::kvs,⟨h1,⟨t,h2⟩,⟨t',h3⟩,h4⟩=>by
  obtain⟨vs,p,m,g⟩:=KD.pairs (P:=P) h4
  refine⟨(.inr kv.1,.str kv.2 t')::vs,.cons (by rw[h2];exact pI P w kv.1 t) h3 p,by simp[m],λx y h=>?_⟩
  by_cases e:kv.1=x
  ·subst e
   have:kv.2=y:=by simpa[getS]using h
   subst this
   exact⟨t',by simp[valueAt]⟩
  ·have h':getS kvs x=some y:=by simpa[getS,e]using h
   obtain⟨t'',h''⟩:=g x y h'
   exact⟨t'',by
    have:(Sum.inr kv.1:Key)≠.inr x:=λz=>e (Sum.inr.inj z)
    simpa[valueAt,this]using h''⟩
section
variable{X:Cx}
def rKD(d:Addr)(kvs:List (Str×Str)):R2:=λx y H Q=>∃i j,x=.ref d/\y=.str i/\getS kvs i=some j/\Q (.str j) H
theorem zKe{d:Addr}{kvs:List (Str×Str)}(D:zCs X.K X.w.params d kvs):IxR X (rKD d kvs):=by
 intro value slice pins s σ H x y v u Q I rx ry h hs
 obtain⟨i,j,rfl,rfl,hg,q⟩:=h
 cases rx
 obtain⟨t,rfl⟩:=ry
 obtain⟨es,ep,lk,kd⟩:=D.obj
 obtain⟨vs,hp,hm,hv⟩:=KD.pairs (P:=X.prog) kd
 obtain⟨t',hv⟩:=hv i j hg
 have ho:=I.kIn d _ lk
 have hnd:(vs.map (·.1)).Nodup:=by
  rw[hm,show kvs.map (λkv=>(Sum.inr kv.1:Key))=(kvs.map (·.1)).map Sum.inr by simp]
  unfold List.Nodup
  rw[List.pairwise_map]
  exact D.nd.imp λh z=>h (Sum.inr.inj z)
 have dd:s.heap.DictOf (bW X.prog X.w) d vs:=⟨_,es,ep,ho,⟨rfl,rfl,rfl⟩,rfl,λe he=>KD.keys kd e (by simpa using he),hp,hnd⟩
 exact tail_any ⟨_,ho,rfl⟩ slot_dict_getitem.lookup (wpAny_getItem_of (pI _ _ i t) dd.mapOf hv ⟨.str j,H,I.tok _,⟨t',rfl⟩,q⟩) hs
end
section
variable{X:Cx}
def zKQ:V->Option Int->Option Int->Hp->VK->Prop:=λx lo hi H Q=>∃z,x=.str z/\z.length<=sizeLine/\Q (.str (Txt.slice z lo hi)) H
theorem zH3:SlR X zKQ:=by
 intro pins s σ H x v vl vu lo hi sl Q I rx hs pl pu h
 obtain⟨z,rfl,hz,q⟩:=h
 obtain⟨t,rfl⟩:=rx
 obtain⟨o,ho,hc,hd⟩:=hs
 refine⟨"str",_,F.slot_str_getitem.lookup,typeIs_str _ _ _,?_⟩
 have fin:∀t' k,EP X pins σ Q (.str (Txt.slice z lo hi) t') {s with toks:=k}:=λt' k=>⟨.str _,H,I.tok k,⟨t',rfl⟩,q⟩
 cases pl with
 |none=>cases pu with
  |none=>exact wpAny_getItem_str_slice (l:=none) (u:=none) (st:=none) ⟨o,ho,hc,hd⟩ rfl (post_val_or_str ⟨Nat.le_trans (Txt.slice_le z _ _) hz,fin⟩)
  |int j uj=>exact wpAny_getItem_str_slice (l:=none) (u:=some (j,uj)) (st:=none) ⟨o,ho,hc,hd⟩ rfl (post_val_or_str ⟨Nat.le_trans (Txt.slice_le z _ _) hz,fin⟩)
 |int i ui=>cases pu with
  |none=>exact wpAny_getItem_str_slice (l:=some (i,ui)) (u:=none) (st:=none) ⟨o,ho,hc,hd⟩ rfl (post_val_or_str ⟨Nat.le_trans (Txt.slice_le z _ _) hz,fin⟩)
  |int j uj=>exact wpAny_getItem_str_slice (l:=some (i,ui)) (u:=some (j,uj)) (st:=none) ⟨o,ho,hc,hd⟩ rfl (post_val_or_str ⟨Nat.le_trans (Txt.slice_le z _ _) hz,fin⟩)
theorem mR{ss:List Str}:∀{us:List Value},Vals (ss.map V.str) us->StrsAre us ss:=by
 induction ss with
 |nil=>intro us r;rw[List.map_nil]at r;cases r;exact .nil
 |cons n ns ih=>
  intro us r
  rw[List.map_cons]at r
  cases r with
  |cons r1 r2=>
   obtain⟨t,e⟩:=r1
   subst e
   exact .cons n t (ih r2)
theorem pE{us:List Value}{ss:List Str}(h:StrsAre us ss):Vals (ss.map V.str) us:=by
 induction h with
 |nil=>exact .nil
 |cons n t _ ih=>exact .cons ⟨t,rfl⟩ ih
theorem call_sortedS:CallR X (.builtin "sorted") (λxs H Q=>∃(p:Addr) (ss:List Str),xs=[.ref p]/\SqL X.K H p (ss.map V.str)/\ss.length<64 /\
  ∀(ss':List Str) (l:Addr),ss'.Perm ss->sortedS ss'=true->H l=none->Q (.ref l) (upd H l (.lst (ss'.map V.str)))):=by
 intro pins s σ H xs us Q I r h
 obtain⟨p,ns,rfl,hq,h64,q⟩:=h
 obtain⟨u,rfl,rx⟩:=cJ r
 cases rx
 obtain⟨its,rv,pl,hz⟩:=I.list hq
 have hi:StrsAre its ns:=mR rv
 have hll:=rv.length
 rw[List.length_map]at hll
 refine sorted_strs pl.isList hi (by omega) λout ns' a1 a2 a3=>?_
 obtain⟨e,he⟩:=sortedAll_at s.heap its out
 have hlen:=a2.length_eq
 refine⟨.ref (s.heap.objs.size+1),_,I.laid (t':=s.toks) (λb o e=>sortedAll_old e) (Nat.le_succ _) (show ObjOk X.prog X.w _ _ _ (.lst (ns'.map V.str)) from ⟨?_,out.toList,e,pE a1,he⟩),rfl,q ns' _ a2 a3 (I.hok.fresh (Nat.le_succ _))⟩
 rw[List.length_map,hlen]
 exact Nat.le_of_lt (Nat.lt_trans h64 (by decide))
def bH(ss:List Str):List Nat:=(ss.map λs=>s.cps.toList).flatten
theorem zAT:∀{us:List Value}{ss:List Str},StrsAre us ss->∃l:List (Str×Tok),us=strValues l/\l.map (·.1)=ss
 |_,_,.nil=>⟨[],rfl,rfl⟩
 |_,_,.cons y t h=>by
  obtain⟨l,e1,e2⟩:=zAT h
  exact⟨(y,t)::l,by rw[e1];rfl,by simp[e2]⟩
theorem uP:∀ss:List Str,(Str.join ⟨#[]⟩ ss).cps.toList=bH ss
 |[]=>rfl
 |[x]=>by simp[Str.join,bH]
 |x::y::r=>by
  have ih:=uP (y::r)
  show((x++(⟨#[]⟩:Str)++Str.join ⟨#[]⟩ (y::r)):Str).cps.toList=_
  have e:∀a b:Str,(a++b).cps.toList=a.cps.toList++b.cps.toList:=λa b=>by
   show(a.cps++b.cps).toList=_
   simp
  rw[e,e,ih]
  simp[bH]
theorem zAV:∀(ss:List Str) (n:Nat),ss.foldl (λa s=>a+s.length+0) n=n+(bH ss).length
 |[],n=>by simp[bH]
 |s::r,n=>by
  rw[List.foldl_cons,zAV r]
  simp[bH,Str.length]
  omega
def zJT(K:W.Frag):V->List V->Hp->VK->Prop:=λx vs H Q=>∃p ss,x=.str ⟨#[]⟩/\vs=[.ref p]/\SqL K H p (ss.map V.str)/\(bH ss).length<=100000/\∀z:Str,z.cps.toList=bH ss->Q (.str z) H
theorem zHk:MtM X "str.join" (zJT X.K):=by
 intro pins s σ H x vs v us Q I rx rv h
 obtain⟨p,ss,rfl,rfl,hq,hz,q⟩:=h
 obtain⟨t,rfl⟩:=rx
 obtain⟨u,rfl,ru⟩:=rv.one
 cases ru
 obtain⟨its,rv,pl,hz'⟩:=I.list hq
 obtain⟨l,e1,e2⟩:=zAT (mR rv)
 have hl:=pl.isList
 rw[e1]at hl
 have hlen:((l.map (·.1)).toArray.foldl (λa s=>a+s.length+(⟨#[]⟩:Str).length) 0)=(bH ss).length:=by
  rw[e2,List.foldl_toArray]
  show ss.foldl (λa s=>a+s.length+0) 0=_
  rw[zAV]
  omega
 refine call_meets F.slot_str_join (typeIs_str _ _ _) F.entry_str_join (F.args_str_join_2 _ _) (meets_str_join_list ⟨#[]⟩ t p l (by
  rw[hlen]
  show decide (_ > sizeLine)=false
  exact decide_eq_false (Nat.not_lt.mpr (Nat.le_trans hz (by decide))))) ⟨hl,?_⟩
 have hj:∀z:Str,z=Str.join ⟨#[]⟩ ss->∀t' k,EP X pins σ Q (.str z t') {s with toks:=k}:=λz e t' k=>⟨.str z,H,I.tok k,⟨t',rfl⟩,q z (by rw[e,uP])⟩
 have hlz:(Str.join ⟨#[]⟩ ss).length<=sizeLine:=by
  show(Str.join ⟨#[]⟩ ss).cps.size<=_
  rw[<-Array.length_toList,uP]
  exact Nat.le_trans hz (by decide)
 match l,e2 with
 |[],e2=>exact⟨by rw[StrLaws.glued_eq_join];exact Nat.zero_le _,hj _ (by rw[<-e2];rw[StrLaws.glued_eq_join]) _ _⟩
 |[pp],e2=>exact hj _ (by rw[<-e2];rfl) _ s.toks
 |a::b::r,e2=>exact⟨by rw[StrLaws.glued_eq_join,e2];exact hlz,hj _ (by rw[StrLaws.glued_eq_join,e2]) _ _⟩
end
end L2
namespace L2
open PySem
theorem pN{α:Type}:∀(l:List α) (i:Nat) (h:i<l.length),(l[i]::l.eraseIdx i).Perm l
 |[],i,h=>by simp at h
 |x::l,0,h=>by simp
 |x::l,i+1,h=>by
  have h':i<l.length:=by simpa using h
  simp only[List.getElem_cons_succ,List.eraseIdx_cons_succ]
  exact(List.Perm.swap _ _ _).trans (.cons _ (pN l i h'))
section
variable{M:Model}{A:Around}{E:Value->Shared->Prop}{s:Shared}
theorem zEh{src:Source}{n:Nat}{Q:Nat->Shared->Prop}(hn:n≠0)(h:∀i d,i<n->Q i {s with drawn:=d}):wpAny M A (choose src n) Q E s:=λΓ p _=>by
 unfold choose
 rw[Sem.wp_choose]
 exact⟨hn,h _ _ (Nat.mod_lt _ (Nat.pos_of_ne_zero hn))⟩
theorem yA{α:Type}:∀(n:Nat) (xs:List α) (s:Shared) {Q:List α->Shared->Prop},xs.length=n->(∀ys d,ys.Perm xs->Q ys {s with drawn:=d})->wpAny M A (drawOrder n xs) Q E s
 |0,xs,s,Q,hl,h=>by
  have e:xs=[]:=List.eq_nil_of_length_eq_zero hl
  subst e
  exact wpAny_pure (h [] s.drawn (.refl _))
 |n+1,[],s,Q,hl,h=>by simp at hl
 |n+1,x::xs,s,Q,hl,h=>by
  show wpAny M A (do
   let i <- choose .order (x::xs).length
   match (x::xs)[i]? with
   |some x'=>return x'::(<- drawOrder n ((x::xs).eraseIdx i))
   |none=>unsupported "internal:drawOrder") Q E s
  refine wpAny_bind (zEh (by simp) λi d hi=>?_)
  rw[List.getElem?_eq_getElem hi]
  refine wpAny_bind (yA n _ _ (by rw[List.length_eraseIdx_of_lt hi];simp at hl ⊢;exact hl) λys d' hp=>?_)
  refine wpAny_pure (h _ d' ((List.Perm.cons _ hp).trans ?_))
  exact pN (x::xs) i hi
end
theorem zBc{α:Type}(next:Nat->Nat):∀(fuel k:Nat) (left:List α) (out:Array α),fuel=left.length->(pickOrder.go next fuel k left out).toList.Perm (out.toList++left)
 |0,k,left,out,h=>by
  have e:left=[]:=List.eq_nil_of_length_eq_zero h.symm
  subst e
  unfold pickOrder.go
  simp
 |fuel+1,k,left,out,h=>by
  unfold pickOrder.go
  have hlt:next k % left.length<left.length:=Nat.mod_lt _ (by omega)
  rw[List.getElem?_eq_getElem hlt]
  refine(zBc next fuel (k+1) _ _ (by rw[List.length_eraseIdx_of_lt hlt];omega)).trans ?_
  rw[Array.toList_push,List.append_assoc]
  exact List.Perm.append_left _ (pN _ _ hlt)
theorem kU{α:Type}(next:Nat->Nat)(xs:Array α):(pickOrder next xs).toList.Perm xs.toList:=by
 unfold pickOrder
 have:=zBc next xs.size 0 xs.toList #[] (by simp)
 simpa using this
end L2
namespace L2
open PySem PySem.Spec PyProof.Rows
abbrev byT(w:World):Bool:=w.params.followText "set-order"
structure SetT (prog:Program) (w:World) (us:List Str) (es:Array (Int×Value)) (t:SetTable):Prop where
 el:ElemsOf (PySem.strKind prog w) es.toList
 tx:∃vs:List Str,StrsAre (es.toList.map (·.2)) vs/\vs.Perm us
 nd:us.Nodup
 lt:es.size<scanBound
 fit:t.fits es.size=true
 pl:es.size=0\/t.plain=false
 ld:t.led=!byT w
abbrev bS(es:Array (Int×Value))(ep:Nat)(t:SetTable):Obj:={cls:=.type "set",dict:=none,data:=.set es ep t,slots:=#[]}
def SetS(prog:Program)(w:World)(a:Addr)(us:List Str)(h:Heap):Prop:=∃es ep t,h.get? a=some (bS es ep t)/\SetT prog w us es t
def eE(us:List Str)(x:Str):List Str:=if x∈us then us else us++[x]
theorem jI:∀{vs:List Value}{ss:List Str},StrsAre vs ss->vs.length=ss.length
 |_,_,.nil=>rfl
 |_,_,.cons _ _ h=>by simp[jI h]
theorem zAf:∀{vs:List Value}{ss:List Str},StrsAre vs ss->∀x,x∈ss↔∃v∈vs,Value.isStrOf x v=true
 |_,_,.nil,x=>by simp
 |_,_,.cons y t h,x=>by
  have ih:=zAf h x
  have e:Value.isStrOf x (.str y t)=true↔x=y:=⟨λh=>by
   obtain⟨u,h⟩:=Value.isStrOf_shape h
   injection h with h1 h2
   exact h1.symm,λh=>by subst h;simp[Value.isStrOf]⟩
  simp only[List.mem_cons,exists_eq_or_imp,ih,e]
theorem pQ:∀{vs us:List Value},us.Perm vs->∀{ss:List Str},StrsAre vs ss->∃ss',StrsAre us ss'/\ss'.Perm ss:=by
 intro vs us p
 induction p with
 |nil=>intro ss h;exact⟨ss,h,.refl _⟩
 |cons x p ih=>
  intro ss h
  cases h with
  |cons y t h=>obtain⟨ss',a,b⟩:=ih h;exact⟨y::ss',.cons y t a,.cons _ b⟩
 |swap x y l=>
  intro ss h
  cases h with
  |cons a t h=>cases h with
   |cons b u h=>exact⟨b::a::_,.cons b u (.cons a t h),.swap _ _ _⟩
 |trans p q ihp ihq=>
  intro ss h
  obtain⟨s1,a1,b1⟩:=ihq h
  obtain⟨s2,a2,b2⟩:=ihp a1
  exact⟨s2,a2,b2.trans b1⟩
theorem zF:∀{vs:List Value}{ss:List Str}(x:Str) (t:Tok),StrsAre vs ss->StrsAre (vs++[.str x t]) (ss++[x])
 |_,_,x,t,.nil=>.cons x t .nil
 |_,_,x,t,.cons y u h=>.cons y u (zF x t h)
theorem zD4(t:SetTable)(es:Array (Int×Value))(h:Int)(x:Value):(layNew t es h x).2.1.led=t.led:=by
 have so:∀(u:SetTable) (n:Nat),(u.orStandIn n).led=u.led:=λu n=>by
  unfold SetTable.orStandIn
  split<;>rfl
 unfold layNew
 split
 ·dsimp only
  rw[so]
  rfl
 ·rfl
theorem zED(t:SetTable)(es:Array (Int×Value))(n:Nat):(relayAll t es n).2.1.led=t.led/\(t.plain=false->(relayAll t es n).2.1.plain=false):=by
 have la:∀m f mv ld pl hs t' o,SetTable.laid m f mv ld pl hs=some (t',o)->t'.led=ld/\t'.plain=pl:=λm f mv ld pl hs t' o e=>by
  unfold SetTable.laid at e
  cases q:SetTable.layClean m hs with
  |none=>rw[q]at e;cases e
  |some ow=>
   rw[q]at e
   simp only[Option.bind_eq_bind,Option.bind_some,Option.pure_def,Option.some.injEq,Prod.mk.injEq]at e
   obtain⟨e,_⟩:=e
   subst e
   exact⟨rfl,rfl⟩
 unfold relayAll
 split
 ·rename_i t' order e
  have:=la _ _ _ _ _ _ _ _ e
  dsimp only
  split
  ·exact⟨this.1,λz=>by rw[<-z];exact this.2⟩
  ·exact⟨rfl,λ_=>rfl⟩
 ·exact⟨rfl,λ_=>rfl⟩
section
variable{prog:Program}{w:World}{A:Around}{E:Value->Shared->Prop}{s:Shared}{a:Addr}{us:List Str}{x:Str}{tk:Tok}
theorem SetT.mem{es:Array (Int×Value)}{t:SetTable}(T:SetT prog w us es t)(x:Str):x∈us↔∃e∈es.toList,(PySem.strKind prog w).is x e.2=true:=by
 obtain⟨vs,h,p⟩:=T.tx
 rw[<-p.mem_iff,zAf h x]
 simp only[List.mem_map]
 exact⟨λ⟨v,⟨e,he,z⟩,q⟩=>⟨e,he,by subst z;exact q⟩,λ⟨e,he,q⟩=>⟨e.2,⟨e,he,rfl⟩,q⟩⟩
theorem SetT.size{es:Array (Int×Value)}{t:SetTable}(T:SetT prog w us es t):es.size=us.length:=by
 obtain⟨vs,h,p⟩:=T.tx
 have:=jI h
 rw[List.length_map,Array.length_toList]at this
 rw[this,p.length_eq]
theorem zAF{g:Bool->Sem Unit}(hg:∀(b:Bool) (s₁:Shared) (R:Unit->Shared->Prop),R () s₁->wpAny (model prog w) A (g b) R E s₁){es es1:Array (Int×Value)}{ep:Nat}{t t2:SetTable}{wd:Bool}{R:Option Bool->Shared->Prop}
  (ho:s.heap.get? a=some (bS es ep t)) (T:SetT prog w us es1 t2) (np:t2.plain=false)
  (h:∀h',Heap.SameBut a s.heap h'->SetS prog w a us h'->R (some true) {s with heap:=h'}):
  wpAny (model prog w) A (do
   storeSet a es1 t2
   if (!wd&&t2.tooFull)=true then do
     g (relayAll t2 es1 (SetTable.grown es1.size)).2.2
     storeSet a (relayAll t2 es1 (SetTable.grown es1.size)).1 (relayAll t2 es1 (SetTable.grown es1.size)).2.1
     pure (some true)
    else pure (some true)) R E s:=by
 refine wpAny_bind (wpAny_storeSet_of ho rfl ?_ (fits_of_scanBound T.lt))
 have o1:(s.heap.update a (Obj.putSet es1 t2)).get? a=some (bS es1 (ep+1) t2):=Heap.get?_update_self (Obj.putSet es1 t2) ho rfl
 have b1:=Heap.SameBut.update s.heap a (Obj.putSet es1 t2)
 split
 ·have hp:=relayAll_perm t2 es1 (SetTable.grown es1.size)
  have hf:=relayAll_fits t2 es1 (SetTable.grown es1.size)
  obtain⟨hl,hq⟩:=zED t2 es1 (SetTable.grown es1.size)
  have hq:=hq np
  generalize relayAll t2 es1 (SetTable.grown es1.size)=Rl at hp hf hl hq ⊢
  obtain⟨es2,t3,g2⟩:=Rl
  dsimp only at hp hf hl hq ⊢
  have sz:es2.size=es1.size:=by have:=hp.length_eq;simpa using this
  have T2:SetT prog w us es2 t3:=by
   obtain⟨vs,hv,pv⟩:=T.tx
   obtain⟨vs',hv',pv'⟩:=pQ (hp.map (·.2)) hv
   exact⟨T.el.perm hp,⟨vs',hv',pv'.trans pv⟩,T.nd,by rw[sz];exact T.lt,hf,.inr hq,hl.trans T.ld⟩
  refine wpAny_bind (hg _ _ _ ?_)
  refine wpAny_bind (wpAny_storeSet_of o1 rfl ?_ (fits_of_scanBound T2.lt))
  exact wpAny_pure (h _ (b1.trans (Heap.SameBut.update _ a _)) ⟨es2,ep+1+1,t3,Heap.get?_update_self (Obj.putSet es2 t3) o1 rfl,T2⟩)
 ·exact wpAny_pure (h _ b1 ⟨es1,ep+1,t2,o1,T⟩)
theorem zGo{Q:Bool->Shared->Prop}(S:SetS prog w a us s.heap)(room:us.length+1<scanBound)(h:∀b h',Heap.SameBut a s.heap h'->SetS prog w a (eE us x) h'->Q b {s with heap:=h'}):
  wpAny (model prog w) A (setAddHashed a (.str x tk) ((PySem.strKind prog w).hash x)) Q E s:=by
 obtain⟨es,ep,t,ho,T⟩:=id S
 have hk:(PySem.strKind prog w).is x (.str x tk)=true:=by show Value.isStrOf x (.str x tk)=true;simp[Value.isStrOf]
 have sc:(Value.str x tk).scannable=true:=rfl
 unfold setAddHashed setAddHashedIn
 refine wpAny_holding (wpAny_bind (wpAny_setState_of ho rfl T.fit ?_))
 dsimp only
 rw[byScan_of sc T.lt T.el,if_pos rfl]
 unfold setAddByScan
 refine wpAny_bind (wpAny_bind (wpAny_rule ?_))
 refine wpAny_bind (wpAny_setScan_of hk ho rfl T.fit T.el ?_)
 cases hr:es.toList.findIdx? (λe=>(PySem.strKind prog w).is x e.2) with
 |some j=>
  dsimp only
  obtain⟨hj,hp,_⟩:=List.findIdx?_eq_some_iff_getElem.mp hr
  have hin:x∈us:=(T.mem x).mpr ⟨_,List.getElem_mem hj,hp⟩
  refine wpAny_pure (wpAny_pure ?_)
  have e:s={s with heap:=s.heap}:=by cases s;rfl
  rw[e]
  refine h false s.heap (Heap.SameBut.refl a s.heap) ?_
  rw[eE,if_pos hin]
  exact S
 |none=>
  dsimp only
  have hout:x∉us:=λz=>by
   obtain⟨e,he,hp⟩:=(T.mem x).mp z
   have:=List.findIdx?_eq_none_iff.mp hr e he
   rw[hp]at this;cases this
  have eA:eE us x=us++[x]:=by rw[eE,if_neg hout]
  have pm:=layNew_perm t es ((PySem.strKind prog w).hash x) (.str x tk)
  have ft:=layNew_fits t es ((PySem.strKind prog w).hash x) (.str x tk)
  have ld:=zD4 t es ((PySem.strKind prog w).hash x) (.str x tk)
  generalize layNew t es ((PySem.strKind prog w).hash x) (.str x tk)=L at pm ft ld ⊢
  obtain⟨es1,t1,wd,gv⟩:=L
  dsimp only at pm ft ld ⊢
  rw[Array.toList_push]at pm
  have sz:es1.size=us.length+1:=by
   have:=pm.length_eq
   rw[<-Array.length_toList,this,List.length_append,Array.length_toList,T.size];rfl
  have base:∀t2:SetTable,t2.fits es1.size=true->t2.plain=false->t2.led=t.led->SetT prog w (eE us x) es1 t2:=λt2 f2 p2 l2=>by
   obtain⟨vs,hv,pv⟩:=T.tx
   have h1:=zF x tk hv
   have h2:(es.toList.map (·.2))++[Value.str x tk]=(es.toList++[((PySem.strKind prog w).hash x,Value.str x tk)]).map (·.2):=by simp
   rw[h2]at h1
   obtain⟨vs',hv',pv'⟩:=pQ (pm.map (·.2)) h1
   refine⟨(T.el.push hk sc).perm pm,⟨vs',hv',?_⟩,?_,by rw[sz];exact room,f2,.inr p2,l2.trans T.ld⟩
   ·rw[eA];exact pv'.trans (pv.append_right _)
   ·rw[eA,List.nodup_append]
    refine⟨T.nd,by simp,λy hy z hz e=>hout ?_⟩
    have q:z=x:=by simpa using hz
    rw[<-q,<-e]
    exact hy
  have gw:∀(b:Bool) (s₁:Shared) (R:Unit->Shared->Prop),R () s₁->wpAny (model prog w) A (match b with|true=>rule "set.scan.the-table-gave-way"|false=>pure ()) R E s₁:=
   λb s₁ R q=>by
    cases b
    ·exact wpAny_pure q
    ·exact wpAny_rule q
  refine wpAny_bind (gw _ _ _ ?_)
  have fin:∀h',Heap.SameBut a s.heap h'->SetS prog w a (eE us x) h'->wpAny (model prog w) A (pure true) Q E {s with heap:=h'}:=λh' b S'=>wpAny_pure (h true h' b S')
  split
  ·refine wpAny_bind ?_
   rw[hashByValue_scannable 8 sc]
   refine wpAny_pure ?_
   rw[if_neg (by simp[plainKind])]
   exact zAF (g:=λb=>match b with|true=>rule "set.scan.the-table-gave-way"|false=>pure ()) gw ho (base _ (SetTable.fits_plain_off ft) rfl ld) rfl λh' b S'=>fin h' b S'
  ·rename_i hp
   refine wpAny_bind (wpAny_pure ?_)
   rw[if_pos rfl]
   exact zAF (g:=λb=>match b with|true=>rule "set.scan.the-table-gave-way"|false=>pure ()) gw ho (base _ ft (by simpa using hp) ld) (by simpa using hp) λh' b S'=>fin h' b S'
end
end L2
namespace L2
open PySem PySem.Spec PyProof.Rows
theorem qF:Slot "set" "__iter__" "set.__iter__":=
 Slot.of (owner:="set") (n:="__iter__") (by rw[typeLookup_type,builtinLookup_eq_fast];kernel_rfl) (by decide +kernel) (by decide +kernel) (by decide +kernel) (by first|exact .inl (by decide +kernel)|exact .inr (by decide +kernel)) (by rw[isSubtype_type];kernel_rfl)
theorem zBr:entryFor table "set.__iter__"=some Builtin.«frozenset.__iter__»:=entryFor_alias (id':="frozenset.__iter__") (by kernel_rfl) rfl (by decide +kernel) (by kernel_rfl)
theorem zBx(a:Value):argsOk "set.__iter__" ⟨[a],[]⟩:=by
 unfold argsOk
 kernel_rfl
theorem st_next:Slot "set_iterator" "__next__" "set_iterator.__next__":=
 Slot.of (owner:="set_iterator") (n:="__next__") (by rw[typeLookup_type,builtinLookup_eq_fast];kernel_rfl) (by decide +kernel) (by decide +kernel) (by decide +kernel) (by first|exact .inl (by decide +kernel)|exact .inr (by decide +kernel)) (by rw[isSubtype_type];kernel_rfl)
theorem zHy:entryFor table "set_iterator.__next__"=some Builtin.«set_iterator.__next__»:=entryFor_of_fast (by kernel_rfl)
theorem zHF(a:Value):argsOk "set_iterator.__next__" ⟨[a],[]⟩:=by
 unfold argsOk
 kernel_rfl
theorem gM:Slot "set_iterator" "__iter__" "set_iterator.__iter__":=
 Slot.of (owner:="set_iterator") (n:="__iter__") (by rw[typeLookup_type,builtinLookup_eq_fast];kernel_rfl) (by decide +kernel) (by decide +kernel) (by decide +kernel) (by first|exact .inl (by decide +kernel)|exact .inr (by decide +kernel)) (by rw[isSubtype_type];kernel_rfl)
theorem nQ:entryFor table "set_iterator.__iter__"=some Builtin.«dict_keyiterator.__iter__»:=entryFor_alias (id':="dict_keyiterator.__iter__") (by kernel_rfl) rfl (by decide +kernel) (by kernel_rfl)
theorem nR(a:Value):argsOk "set_iterator.__iter__" ⟨[a],[]⟩:=by
 unfold argsOk
 kernel_rfl
section
variable{prog:Program}{w:World}{A:Around}{E:Value->Shared->Prop}{s:Shared}
theorem zGm{α:Type}{Q:α->Shared->Prop}(hh:A.handled=none)
  (h:∀e h',(∀b o,s.heap.get? b=some o->h'.get? b=some o)->Shared.TypeIs {s with heap:=h'} (.ref e) "StopIteration"->E (.ref e) {s with heap:=h'}):
  wpAny (model prog w) A (newExc (.type "StopIteration") [] >>= λe=>raiseNew e) Q E s:=by
 refine wpAny_bind ?_
 simp only[newExc,newTuple]
 refine wpAny_bind (wpAny_newObj_type ?_ (by size_fits))
 refine wpAny_bind (m:=firstArgMember _ _) (wpAny_of_eq (a:=Value.none) (by first|rfl|(simp only[firstArgMember];rfl)) ?_)
 refine wpAny_newObj_type ?_ (by size_fits)
 simp only[raiseNew]
 refine wpAny_bind (wpAny_handled ?_)
 rw[hh]
 refine wpAny_bind (wpAny_pure (wpAny_throw ?_))
 exact h _ _ (λb o e=>Heap.get?_push_of_some _ (Heap.get?_push_of_some _ e)) ⟨_,Heap.get?_push_size _ rfl,rfl⟩
theorem gL{it:Addr}{o:Obj}{Q:Option Value->Shared->Prop}(ho:s.heap.get? it=some o)(hc:o.cls=.type "set_iterator")
  (h:wpAny (model prog w) A.in1 (Builtin.«set_iterator.__next__» ⟨[.ref it],[]⟩) (λr s'=>∃v,r=.done (.ret v)/\Q (some v) s') (λe s'=>s'.TypeIs e "StopIteration"/\Q none s') s):
  wpAny (model prog w) A (pyNext (.ref it)) Q E s:=by
 have ht:s.TypeIs (.ref it) "set_iterator":=⟨o,ho,hc⟩
 unfold pyNext
 refine wpAny_bind (wpAny_attempt (wpAny_callSpecial?_slot (name:=Str.ofString "__next__") ht st_next (wpAny_call_entry st_next ht zHy ?_ (zHF _))))
 refine wpAny_mono h (λr s' ⟨v,e,q⟩=>⟨v,e,wpAny_pure q⟩) λe s' ⟨t,q⟩=>?_
 exact wpAny_bind (wpAny_isInstance (T:="StopIteration") (b:=true) t isSubtype_stop (wpAny_pure q))
end
end L2
namespace L2
open PySem PySem.Spec PyProof.Rows
abbrev itO(first:Value)(i:Nat)(a:Addr)(n ep:Nat):Obj:={cls:=.type "set_iterator",data:=.fields #[first,.int (i:Int) 0,.ref a,.int (n:Int) 0,.int (ep:Int) 0]}
section
variable{prog:Program}{w:World}{A:Around}{E:Value->Shared->Prop}{s:Shared}{it a:Addr}{us:List Str}{es:Array (Int×Value)}{ep:Nat}{t:SetTable}
theorem pJ{Q:Array (Int×Value)->Shared->Prop}(ho:s.heap.get? a=some (bS es ep t))(hf:t.fits es.size=true)(h:Q es s):wpAny (model prog w) A (setEntries a) Q E s:=by
 unfold setEntries
 exact wpAny_bind (wpAny_setState_of ho rfl hf (wpAny_pure h))
theorem fG{Q:Bool->Shared->Prop}(h:Q (byT w) s):wpAny (model prog w) A setsByText Q E s:=by
 unfold setsByText
 exact wpAny_bind (wpAny_askSetting (wpAny_pure h))
theorem iN{i slot:Nat}{n:Nat}{Q:Fin->Shared->Prop}(hi:s.heap.get? it=some (itO (.int (slot:Int) 0) i a n ep))(ho:s.heap.get? a=some (bS es ep t))(hf:t.fits es.size=true)(hn:es.size=n)
  (h:wpAny (model prog w) A (setNext a slot i ep) (λr s'=>wpAny (model prog w) A (match r with
   |some (x,next)=>do
    setField (.ref it) 0 (rawInt next)
    setField (.ref it) 1 (rawInt (i+1))
    ret x
   |none=>do setField (.ref it) 2 .none;raiseNew (<- newExc (.type "StopIteration") [])) Q E s') E s):
  wpAny (model prog w) A (Builtin.«set_iterator.__next__» ⟨[.ref it],[]⟩) Q E s:=by
 unfold Builtin.«set_iterator.__next__»
 refine wpAny_bind (m:=slotArgs "__next__" 0 ⟨[.ref it],[]⟩) (wpAny_pure ?_)
 dsimp only
 refine wpAny_bind (wpAny_fieldsOf hi rfl ?_)
 show wpAny _ _ (setEntries a >>= _) _ _ s
 refine wpAny_bind (pJ ho hf ?_)
 rw[hn]
 simp only[bne_self_eq_false,Bool.false_eq_true,if_false]
 refine wpAny_bind (m:=setNext a slot i ep) h
end
end L2
namespace L2
open PySem PySem.Spec PyProof.Rows
section
variable{prog:Program}{w:World}{A:Around}{E:Value->Shared->Prop}{s:Shared}{it a:Addr}{us:List Str}{es:Array (Int×Value)}{ep:Nat}{t:SetTable}
theorem nB{o:Obj}{vs:Array Value}{k:Nat}{Q:Fin->Shared->Prop}(hh:A.handled=none)(hi:s.heap.get? it=some o)(hd:o.data=.fields vs)(hk:k<vs.size)
  (h:∀e h',(∀b u,b≠it->s.heap.get? b=some u->h'.get? b=some u)->Shared.TypeIs {s with heap:=h'} (.ref e) "StopIteration"->E (.ref e) {s with heap:=h'}):
  wpAny (model prog w) A (do setField (.ref it) k .none;raiseNew (<- newExc (.type "StopIteration") [])) Q E s:=by
 refine wpAny_bind (wpAny_setField hi hd hk ?_)
 refine zGm hh λe h' kp ty=>h e h' (λb u hb q=>kp b u ?_) ty
 rw[(Heap.SameBut.update s.heap it _).2 b hb];exact q
theorem zJn(hh:A.handled=none)(hb:byT w=true)(T:SetT prog w us es t)(it a:Addr)(ne:it≠a):
  WalksS prog w A it [it,a] [it] Eq es.size (λi v=>(pickOrder (w.params.setOrder a ep) es)[i]?.map (·.2)=some v)
   (λi s=>s.heap.get? it=some (itO (.int 0 0) i a es.size ep)/\s.heap.get? a=some (bS es ep t)) where
 sub:=λb hb=>by simp at hb;simp[hb]
 grefl:=λ_=>rfl
 gtrans:=λ_ _ _ x y=>x.trans y
 frame:=λi s h' tk st _ k=>⟨k it (by simp) _ st.1,k a (by simp) _ st.2⟩
 item:=λi s Q E hi st hQ=>by
  refine gL st.1 rfl (iN (slot:=0) st.1 st.2 T.fit rfl ?_)
  have sz:(pickOrder (w.params.setOrder a ep) es).size=es.size:=by have:=(kU (w.params.setOrder a ep) es).length_eq;simpa using this
  unfold setNext
  refine wpAny_bind (wpAny_setState_of st.2 rfl T.fit ?_)
  dsimp only
  refine wpAny_bind (fG ?_)
  rw[if_pos hb]
  simp only[bne_self_eq_false,Bool.false_eq_true,if_false]
  unfold setWalk
  refine wpAny_bind (wpAny_bind (wpAny_setState_of st.2 rfl T.fit ?_))
  dsimp only
  refine wpAny_bind (fG ?_)
  rw[if_pos hb]
  refine wpAny_bind (wpAny_askSetting (wpAny_pure ?_))
  refine wpAny_pure ?_
  have hlt:i<(pickOrder (w.params.setOrder a ep) es).size:=by rw[sz];exact hi
  show wpAny _ _ (match Option.map (λe=>(e.2,0)) (pickOrder (w.params.setOrder a ep) es)[i]? with
   |some (x,next)=>do
    setField (.ref it) 0 (rawInt (next:Nat))
    setField (.ref it) 1 (rawInt (i+1))
    ret x
   |none=>do setField (.ref it) 2 .none;raiseNew (<- newExc (.type "StopIteration") [])) _ _ _
  rw[Array.getElem?_eq_getElem hlt]
  dsimp only[Option.map_some]
  refine wpAny_bind (wpAny_setField_rec st.1 (by simp) λh1 g1 b1=>?_)
  refine wpAny_bind (wpAny_setField_rec g1 (by simp) λh2 g2 b2=>?_)
  refine wpAny_pure ⟨_,rfl,hQ _ _ (by rw[Array.getElem?_eq_getElem hlt];rfl) ⟨?_,?_⟩ ⟨?_,rfl,rfl,rfl,Nat.le_refl _⟩⟩
  ·rw[g2];rfl
  ·rw[b2.2 a ne.symm,b1.2 a ne.symm];exact st.2
  ·intro b o hb e
   have hb':b≠it:=by simpa using hb
   rw[b2.2 b hb',b1.2 b hb'];exact e
 done:=λs Q E st hQ=>by
  refine gL st.1 rfl (iN (slot:=0) st.1 st.2 T.fit rfl ?_)
  have sz:(pickOrder (w.params.setOrder a ep) es).size=es.size:=by have:=(kU (w.params.setOrder a ep) es).length_eq;simpa using this
  unfold setNext
  refine wpAny_bind (wpAny_setState_of st.2 rfl T.fit ?_)
  dsimp only
  refine wpAny_bind (fG ?_)
  rw[if_pos hb]
  simp only[bne_self_eq_false,Bool.false_eq_true,if_false]
  unfold setWalk
  refine wpAny_bind (wpAny_bind (wpAny_setState_of st.2 rfl T.fit ?_))
  dsimp only
  refine wpAny_bind (fG ?_)
  rw[if_pos hb]
  refine wpAny_bind (wpAny_askSetting (wpAny_pure ?_))
  refine wpAny_pure ?_
  show wpAny _ _ (match Option.map (λe=>(e.2,0)) (pickOrder (w.params.setOrder a ep) es)[es.size]? with
   |some (x,next)=>do
    setField (.ref it) 0 (rawInt (next:Nat))
    setField (.ref it) 1 (rawInt ((es.size:Int)+1))
    ret x
   |none=>do setField (.ref it) 2 .none;raiseNew (<- newExc (.type "StopIteration") [])) _ _ _
  rw[Array.getElem?_eq_none (show(pickOrder (w.params.setOrder a ep) es).size<=es.size by rw[sz];exact Nat.le_refl _)]
  dsimp only[Option.map_none]
  refine nB hh st.1 rfl (by simp) λe h' kp ty=>⟨ty,hQ _ ⟨λb o hb q=>kp b o (by simpa using hb) q,rfl,rfl,rfl,Nat.le_refl _⟩⟩
 self:=λi s Q E st hQ=>by
  have ht:s.TypeIs (.ref it) "set_iterator":=⟨_,st.1,rfl⟩
  refine wpAny_pyIter_slot ht gM (wpAny_call_entry gM ht nQ ?_ (nR _))
  show wpAny _ _ (ret (.ref it)) _ _ s
  exact wpAny_pure ⟨_,rfl,"set_iterator",_,ht,st_next.lookup,hQ⟩
end
end L2
namespace L2
open PySem PySem.Spec PyProof.Rows
theorem zAb(p:Nat):SetTable.below #[p] 0=0/\SetTable.below #[p] (p+1)=1:=by
 constructor
 ·show SetTable.below.go #[p] 0 1 0 1=0
  simp[SetTable.below.go]
 ·show SetTable.below.go #[p] (p+1) 1 0 1=1
  simp[SetTable.below.go]
section
variable{prog:Program}{w:World}{A:Around}{E:Value->Shared->Prop}{s:Shared}{it a:Addr}{us:List Str}{es:Array (Int×Value)}{ep:Nat}{t:SetTable}
theorem yG{slot i:Nat}{Q:Option (Value×Nat)->Shared->Prop}(hb:byT w=false)(T:SetT prog w us es t)(h1:es.size<=1)(ho:s.heap.get? a=some (bS es ep t))
  (h:Q (match es[SetTable.below t.place slot]?,t.place[SetTable.below t.place slot]? with
  |some (_,x),some j=>some (x,j+1)
  |_,_=>none) s):wpAny (model prog w) A (setNext a slot i ep) Q E s:=by
 have ld:t.led=true:=by rw[T.ld,hb];rfl
 unfold setNext
 refine wpAny_bind (wpAny_setState_of ho rfl T.fit ?_)
 dsimp only
 refine wpAny_bind (fG ?_)
 rw[hb]
 simp only[Bool.false_eq_true,if_false]
 show wpAny _ _ (if (!t.plain&&decide (es.size > 1))=true then _ else(do
  (if (!t.led&&!es.isEmpty)=true then unsupported "set:maker-not-led" else pure ():Sem Unit)
  pure (match es[SetTable.below t.place slot]?,t.place[SetTable.below t.place slot]? with
   |some (_,x),some j=>some (x,j+1)
   |_,_=>none))) _ _ _
 rw[if_neg (by rw[show decide (es.size > 1)=false from decide_eq_false (by omega)];simp)]
 refine wpAny_bind ?_
 rw[if_neg (by rw[ld];simp)]
 exact wpAny_pure (wpAny_pure h)
theorem zJm(hh:A.handled=none)(hb:byT w=false)(T:SetT prog w us es t)(h1:es.size<=1)(it a:Addr)(ne:it≠a):
  WalksS prog w A it [it,a] [it] Eq es.size (λi v=>es[i]?.map (·.2)=some v)
   (λi s=>s.heap.get? it=some (itO (.int ((if i=0 then 0 else t.place.getD 0 0+1:Nat):Int) 0) i a es.size ep)/\s.heap.get? a=some (bS es ep t)) where
 sub:=λb hb=>by simp at hb;simp[hb]
 grefl:=λ_=>rfl
 gtrans:=λ_ _ _ x y=>x.trans y
 frame:=λi s h' tk st _ k=>⟨k it (by simp) _ st.1,k a (by simp) _ st.2⟩
 item:=λi s Q E hi st hQ=>by
  have i0:i=0:=by omega
  subst i0
  have e1:es.size=1:=by omega
  have pz:t.place.size=1:=by have:=T.fit;simp only[SetTable.fits,Bool.and_eq_true,beq_iff_eq]at this;rw[this.1,e1]
  obtain⟨p,hp⟩:∃p,t.place=#[p]:=by
   refine⟨t.place[0],?_⟩
   apply Array.ext
   ·simp[pz]
   ·intro j h1 h2
    have:j=0:=by simp at h2;exact h2
    subst this
    simp
  refine gL st.1 rfl (iN (slot:=0) (by simpa using st.1) st.2 T.fit rfl ?_)
  refine yG hb T h1 st.2 ?_
  rw[hp,(zAb p).1]
  have hl0:0<es.size:=by omega
  rw[Array.getElem?_eq_getElem hl0]
  show wpAny _ _ (do
    setField (.ref it) 0 (rawInt ((p+1:Nat):Int))
    setField (.ref it) 1 (rawInt ((0:Nat)+1:Int))
    ret es[0].2) _ _ _
  refine wpAny_bind (wpAny_setField_rec st.1 (by simp) λh1 g1 b1=>?_)
  refine wpAny_bind (wpAny_setField_rec g1 (by simp) λh2 g2 b2=>?_)
  refine wpAny_pure ⟨_,rfl,hQ _ _ (by rw[Array.getElem?_eq_getElem hl0];rfl) ⟨?_,?_⟩ ⟨?_,rfl,rfl,rfl,Nat.le_refl _⟩⟩
  ·rw[g2,hp];rfl
  ·rw[b2.2 a ne.symm,b1.2 a ne.symm];exact st.2
  ·intro b o hb e
   have hb':b≠it:=by simpa using hb
   rw[b2.2 b hb',b1.2 b hb'];exact e
 done:=λs Q E st hQ=>by
  refine gL st.1 rfl (iN st.1 st.2 T.fit rfl ?_)
  refine yG hb T h1 st.2 ?_
  have pz:t.place.size=es.size:=by have:=T.fit;simp only[SetTable.fits,Bool.and_eq_true,beq_iff_eq]at this;exact this.1
  have hn:es[SetTable.below t.place (if es.size=0 then 0 else t.place.getD 0 0+1)]?=none:=by
   by_cases z:es.size=0
   ·have:es=#[]:=Array.size_eq_zero_iff.mp z
    subst this
    simp
   ·rw[if_neg z]
    have e1:es.size=1:=by omega
    obtain⟨p,hp⟩:∃p,t.place=#[p]:=by
     refine⟨t.place[0]'(by omega),?_⟩
     apply Array.ext
     ·simp[pz,e1]
     ·intro j h1 h2
      have:j=0:=by simp at h2;exact h2
      subst this
      simp
    rw[hp]
    show es[SetTable.below #[p] (p+1)]?=none
    rw[(zAb p).2]
    exact Array.getElem?_eq_none (by omega)
  rw[hn]
  dsimp only
  exact nB hh st.1 rfl (by simp) λe h' kp ty=>⟨ty,hQ _ ⟨λb o hb q=>kp b o (by simpa using hb) q,rfl,rfl,rfl,Nat.le_refl _⟩⟩
 self:=λi s Q E st hQ=>by
  have ht:s.TypeIs (.ref it) "set_iterator":=⟨_,st.1,rfl⟩
  refine wpAny_pyIter_slot ht gM (wpAny_call_entry gM ht nQ ?_ (nR _))
  show wpAny _ _ (ret (.ref it)) _ _ s
  exact wpAny_pure ⟨_,rfl,"set_iterator",_,ht,st_next.lookup,hQ⟩
abbrev mE(ps:List Nat):Obj:={cls:=.type "tuple",data:=.seq (ps.map λ(i:Nat)=>rawInt (i:Int)).toArray}
theorem zA{i:Nat}{n:Nat}{tu:Addr}{ps:List Nat}{Q:Fin->Shared->Prop}(hi:s.heap.get? it=some (itO (.ref tu) i a n ep))(ho:s.heap.get? a=some (bS es ep t))(hu:s.heap.get? tu=some (mE ps))(hf:t.fits es.size=true)(hn:es.size=n)
  (h:match ps[i]? with
   |some pl=>∃e,es[pl]?=some e/\wpAny (model prog w) A (do
    setField (.ref it) 1 (rawInt (i+1))
    ret e.2) Q E s
   |none=>wpAny (model prog w) A (do setField (.ref it) 0 (rawInt 0);setField (.ref it) 2 .none;raiseNew (<- newExc (.type "StopIteration") [])) Q E s):
  wpAny (model prog w) A (Builtin.«set_iterator.__next__» ⟨[.ref it],[]⟩) Q E s:=by
 unfold Builtin.«set_iterator.__next__»
 refine wpAny_bind (m:=slotArgs "__next__" 0 ⟨[.ref it],[]⟩) (wpAny_pure ?_)
 dsimp only
 refine wpAny_bind (wpAny_fieldsOf hi rfl ?_)
 show wpAny _ _ (setEntries a >>= _) _ _ s
 refine wpAny_bind (pJ ho hf ?_)
 rw[hn]
 simp only[bne_self_eq_false,Bool.false_eq_true,if_false]
 show wpAny _ _ (seqItems? (.ref tu) >>= _) _ _ s
 refine wpAny_bind (wpAny_seqItems hu rfl ?_)
 dsimp only
 have e:(ps.map λ(i:Nat)=>rawInt (i:Int)).toArray[((i:Int)).toNat]?=ps[i]?.map λ(i:Nat)=>rawInt (i:Int):=by simp
 rw[e]
 cases q:ps[i]? with
 |none=>
  rw[q]at h
  exact h
 |some pl=>
  rw[q]at h
  obtain⟨en,he,h⟩:=h
  show wpAny _ _ (setNextDrawn a ((pl:Int)).toNat ((ep:Int)).toNat >>= _) _ _ s
  unfold setNextDrawn
  refine wpAny_bind (wpAny_bind (wpAny_setState_of ho rfl hf ?_))
  dsimp only
  rw[show((ep:Int)).toNat=ep by simp,show((pl:Int)).toNat=pl by simp]
  simp only[bne_self_eq_false,Bool.false_eq_true,if_false]
  rw[he]
  exact wpAny_pure h
theorem zJl(hh:A.handled=none)(T:SetT prog w us es t)(it a tu:Addr)(ne:it≠a)(nu:it≠tu)(ps:List Nat)(hp:ps.Perm (List.range es.size)):
  WalksS prog w A it [it,a,tu] [it] Eq es.size (λi v=>∃pl e,ps[i]?=some pl/\es[pl]?=some e/\v=e.2)
   (λi s=>s.heap.get? it=some (itO (.ref tu) i a es.size ep)/\s.heap.get? a=some (bS es ep t)/\s.heap.get? tu=some (mE ps)) where
 sub:=λb hb=>by simp at hb;simp[hb]
 grefl:=λ_=>rfl
 gtrans:=λ_ _ _ x y=>x.trans y
 frame:=λi s h' tk st _ k=>⟨k it (by simp) _ st.1,k a (by simp) _ st.2.1,k tu (by simp) _ st.2.2⟩
 item:=λi s Q E hi st hQ=>by
  have pl:ps.length=es.size:=by rw[hp.length_eq,List.length_range]
  have hlt:i<ps.length:=by omega
  have hm:ps[i]<es.size:=by have:=hp.mem_iff.mp (List.getElem_mem hlt);simpa using this
  refine gL st.1 rfl (zA st.1 st.2.1 st.2.2 T.fit rfl ?_)
  rw[List.getElem?_eq_getElem hlt]
  refine⟨es[ps[i]],Array.getElem?_eq_getElem hm,?_⟩
  refine wpAny_bind (wpAny_setField_rec st.1 (by simp) λh1 g1 b1=>?_)
  refine wpAny_pure ⟨_,rfl,hQ _ _ ⟨_,_,List.getElem?_eq_getElem hlt,Array.getElem?_eq_getElem hm,rfl⟩ ⟨?_,?_,?_⟩ ⟨?_,rfl,rfl,rfl,Nat.le_refl _⟩⟩
  ·rw[g1];rfl
  ·rw[b1.2 a ne.symm];exact st.2.1
  ·rw[b1.2 tu nu.symm];exact st.2.2
  ·intro b o hb e
   have hb':b≠it:=by simpa using hb
   rw[b1.2 b hb'];exact e
 done:=λs Q E st hQ=>by
  have pl:ps.length=es.size:=by rw[hp.length_eq,List.length_range]
  refine gL st.1 rfl (zA st.1 st.2.1 st.2.2 T.fit rfl ?_)
  rw[List.getElem?_eq_none (by omega)]
  refine wpAny_bind (wpAny_setField_rec st.1 (by simp) λh1 g1 b1=>?_)
  refine nB hh g1 rfl (by simp) λe h' kp ty=>⟨ty,hQ _ ⟨λb o hb q=>kp b o (by simpa using hb) ?_,rfl,rfl,rfl,Nat.le_refl _⟩⟩
  have hb':b≠it:=by simpa using hb
  show h1.get? b=some o
  rw[b1.2 b hb'];exact q
 self:=λi s Q E st hQ=>by
  have ht:s.TypeIs (.ref it) "set_iterator":=⟨_,st.1,rfl⟩
  refine wpAny_pyIter_slot ht gM (wpAny_call_entry gM ht nQ ?_ (nR _))
  show wpAny _ _ (ret (.ref it)) _ _ s
  exact wpAny_pure ⟨_,rfl,"set_iterator",_,ht,st_next.lookup,hQ⟩
end
end L2
namespace L2
open PySem PySem.Spec PyProof.Rows
def zCR(P:Nat->Value->Prop)(us:List Str):Prop:=∀acc:Array Value,ItemsOf P acc us.length->∃vs,StrsAre acc.toList vs/\vs.Perm us
theorem uX{P:Nat->Value->Prop}{us:List Str}{out:List Value}{vs:List Str}(hl:out.length=us.length)(h:∀i v,P i v->out[i]?=some v)(hs:StrsAre out vs)(hp:vs.Perm us):zCR P us:=λacc ⟨h1,h2⟩=>by
 have e:acc.toList=out:=by
  apply List.ext_getElem?
  intro i
  by_cases hi:i<acc.size
  ·rw[h i acc[i] (h2 i _ (Array.getElem?_eq_getElem hi)),Array.getElem?_toList,Array.getElem?_eq_getElem hi]
  ·rw[Array.getElem?_toList,Array.getElem?_eq_none (by omega),List.getElem?_eq_none (by omega)]
 rw[e]
 exact⟨vs,hs,hp⟩
section
variable{prog:Program}{w:World}{A:Around}{E:Value->Shared->Prop}{s:Shared}{a:Addr}{us:List Str}
theorem zDH{Q:Value->Shared->Prop}(S:SetS prog w a us s.heap)
  (h:∀(it:Addr) (fp:List Addr) (P:Nat->Value->Prop) (St:Nat->Shared->Prop) (h':Heap) (d:Drawn),(∀A':Around,A'.handled=none->∃n,n=us.length/\WalksS prog w A' it fp [it] Eq n P St)->St 0 {s with heap:=h',drawn:=d}->zCR P us ->
   (∀b∈fp,b=a\/s.heap.objs.size<=b)->s.heap.objs.size<=it->(∀b o,s.heap.get? b=some o->h'.get? b=some o)->Q (.ref it) {s with heap:=h',drawn:=d}):
  wpAny (model prog w) A (pyIter (.ref a)) Q E s:=by
 obtain⟨es,ep,t,ho,T⟩:=id S
 have alt:a<s.heap.objs.size:=Heap.lt_size ho
 have ht:s.TypeIs (.ref a) "set":=⟨_,ho,rfl⟩
 have sz:=T.size
 obtain⟨vs,hv,pv⟩:=T.tx
 refine wpAny_pyIter_slot ht qF (wpAny_call_entry qF ht zBr ?_ (zBx _))
 unfold Builtin.«frozenset.__iter__» Builtin.Frozenset.slot0
 refine wpAny_bind (wpAny_bind (m:=slotArgs "__iter__" 0 ⟨[.ref a],[]⟩) (wpAny_pure ?_))
 show wpAny _ _ (pure a) _ _ s
 refine wpAny_pure ?_
 unfold Builtin.Frozenset.sizeOf
 refine wpAny_bind (wpAny_bind (pJ ho T.fit (wpAny_pure ?_)))
 unfold setDrawn
 refine wpAny_bind (wpAny_bind (wpAny_setState_of ho rfl T.fit ?_))
 dsimp only
 refine wpAny_bind (fG (wpAny_pure ?_))
 show wpAny _ _ (if (!byT w&&(!t.plain&&decide (es.size > 1)))=true then _ else _) _ _ s
 have fin:∀(first:Value) (h1:Heap) (d:Drawn) (St:Nat->Shared->Prop),(∀b o,s.heap.get? b=some o->h1.get? b=some o)->s.heap.objs.size<=h1.objs.size ->
   (∀s2:Shared,s2.heap.get? h1.objs.size=some (itO first 0 a es.size ep)->(∀b o,h1.get? b=some o->s2.heap.get? b=some o) ->
    Q (.ref h1.objs.size) {s with heap:=h1.push (itO first 0 a es.size ep),drawn:=d})->wpAny (model prog w) A.in1 (do
   ret (<- newFields "set_iterator" [first,rawInt 0,.ref a,rawInt es.size,rawInt (<- setEpoch a)])) (λfin s'=>∃v,fin=.done (.ret v)/\∃T' r,s'.TypeIs v T'/\typeLookup (.type T') "__next__"=pure (some r)/\Q v s') E {s with heap:=h1,drawn:=d}:=by
  intro first h1 d St k le q
  refine wpAny_bind (wpAny_setEpoch_of (k a _ ho) rfl T.fit ?_)
  refine wpAny_bind (wpAny_newObj_type ?_ (by size_fits))
  exact wpAny_pure ⟨_,rfl,"set_iterator",_,⟨_,Heap.get?_push_size _ rfl,rfl⟩,st_next.lookup,q {s with heap:=h1.push (itO first 0 a es.size ep)} (Heap.get?_push_size _ rfl) λb o e=>Heap.get?_push_of_some _ e⟩
 cases hb:byT w with
 |true=>
  rw[if_neg (by simp)]
  refine wpAny_bind (wpAny_pure ?_)
  have e:s={s with heap:=s.heap,drawn:=s.drawn}:=by cases s;rfl
  have hp:=kU (w.params.setOrder a ep) es
  obtain⟨vs',hv',pv'⟩:=pQ (hp.map (·.2)) hv
  have nea:s.heap.objs.size≠a:=Nat.ne_of_gt alt
  refine fin (.int 0 0) s.heap s.drawn (λ_ _=>True) (λ_ _ e=>e) (Nat.le_refl _) λs2 g k=>?_
  refine h s.heap.objs.size [s.heap.objs.size,a] _ _ _ _ (λA' hA=>⟨es.size,sz,zJn (ep:=ep) hA hb T _ a nea⟩) ⟨Heap.get?_push_size _ rfl,Heap.get?_push_of_some _ ho⟩ ?_ (λb m=>?_) (Nat.le_refl _) λb o e=>Heap.get?_push_of_some _ e
  ·refine uX (out:=(pickOrder (w.params.setOrder a ep) es).toList.map (·.2)) (vs:=vs') (by rw[List.length_map,hp.length_eq,Array.length_toList,sz]) (λi v q=>?_) hv' (pv'.trans pv)
   rw[List.getElem?_map,Array.getElem?_toList]
   exact q
  ·simp only[List.mem_cons,List.not_mem_nil,or_false]at m
   rcases m with m|m
   ·exact .inr (by rw[m];exact Nat.le_refl _)
   ·exact .inl m
 |false=>
  by_cases h1:es.size<=1
  ·rw[if_neg (by simp[show ¬ es.size > 1 by omega])]
   refine wpAny_bind (wpAny_pure ?_)
   have nea:s.heap.objs.size≠a:=Nat.ne_of_gt alt
   refine fin (.int 0 0) s.heap s.drawn (λ_ _=>True) (λ_ _ e=>e) (Nat.le_refl _) λs2 g k=>?_
   refine h s.heap.objs.size [s.heap.objs.size,a] _ _ _ _ (λA' hA=>⟨es.size,sz,zJm (ep:=ep) hA hb T h1 _ a nea⟩) ⟨Heap.get?_push_size _ rfl,Heap.get?_push_of_some _ ho⟩ ?_ (λb m=>?_) (Nat.le_refl _) λb o e=>Heap.get?_push_of_some _ e
   ·refine uX (out:=es.toList.map (·.2)) (vs:=vs) (by rw[List.length_map,Array.length_toList,sz]) (λi v q=>?_) hv pv
    rw[List.getElem?_map,Array.getElem?_toList]
    exact q
   ·simp only[List.mem_cons,List.not_mem_nil,or_false]at m
    rcases m with m|m
    ·exact .inr (by rw[m];exact Nat.le_refl _)
    ·exact .inl m
  ·have np:t.plain=false:=T.pl.resolve_left (by omega)
   rw[if_pos (by simp[np];omega)]
   refine wpAny_bind (yA es.size (List.range es.size) s (by simp) λps d hp=>?_)
   refine wpAny_bind (wpAny_newTuple ?_ (by rw[List.length_map,hp.length_eq,List.length_range];exact fits_of_scanBound T.lt))
   have nea:s.heap.objs.size≠a:=Nat.ne_of_gt alt
   have e2:(s.heap.push (mE ps)).objs.size=s.heap.objs.size+1:=Heap.size_push ..
   refine fin (.ref s.heap.objs.size) (s.heap.push (mE ps)) d (λ_ _=>True) (λ_ _ e=>Heap.get?_push_of_some _ e) (by rw[e2];omega) λs2 g k=>?_
   refine h (s.heap.push (mE ps)).objs.size [(s.heap.push (mE ps)).objs.size,a,s.heap.objs.size] _ _ _ _ (λA' hA=>⟨es.size,sz,zJl (ep:=ep) hA T _ a s.heap.objs.size (by rw[e2];exact Nat.ne_of_gt (Nat.lt_succ_of_lt alt)) (by rw[e2];exact Nat.ne_of_gt (Nat.lt_succ_self _)) ps hp⟩) ⟨Heap.get?_push_size _ rfl,Heap.get?_push_of_some _ (Heap.get?_push_of_some _ ho),Heap.get?_push_of_some _ (Heap.get?_push_size _ rfl)⟩ ?_ (λb m=>?_) (by rw[e2];omega) λb o e=>Heap.get?_push_of_some _ (Heap.get?_push_of_some _ e)
   ·have hfm:(ps.filterMap λp=>es[p]?).Perm es.toList:=(hp.filterMap _).trans (by rw[filterMap_getElem?_range])
    obtain⟨vs',hv',pv'⟩:=pQ (hfm.map (·.2)) hv
    have hmm:∀p∈ps,p<es.size:=λp m=>by have:=hp.mem_iff.mp m;simpa using this
    have hall:∀(l:List Nat),(∀p∈l,p<es.size)->∀i:Nat,(l.filterMap λp=>es[p]?)[i]?=(l[i]?).bind λp=>es[p]?:=by
     intro l
     induction l with
     |nil=>intro _ i;simp
     |cons x l ih=>
      intro hx i
      have hx0:=hx x (by simp)
      rw[List.filterMap_cons,Array.getElem?_eq_getElem hx0]
      cases i with
      |zero=>simp[hx0]
      |succ i=>simp only[List.getElem?_cons_succ];exact ih (λp m=>hx p (List.mem_cons_of_mem _ m)) i
    refine uX (out:=(ps.filterMap λp=>es[p]?).map (·.2)) (vs:=vs') (by rw[List.length_map,hfm.length_eq,Array.length_toList,sz]) (λi v ⟨pl,e,q1,q2,q3⟩=>?_) hv' (pv'.trans pv)
    rw[List.getElem?_map,hall ps hmm,q1]
    simp[q2,q3]
   ·simp only[List.mem_cons,List.not_mem_nil,or_false]at m
    rcases m with m|m|m
    ·exact .inr (by rw[m,e2];omega)
    ·exact .inl m
    ·exact .inr (by rw[m];exact Nat.le_refl _)
end
end L2
namespace L2
open PySem PySem.Spec PyProof.Rows
theorem st_len:Slot "set" "__len__" "set.__len__":=
 Slot.of (owner:="set") (n:="__len__") (by rw[typeLookup_type,builtinLookup_eq_fast];kernel_rfl) (by decide +kernel) (by decide +kernel) (by decide +kernel) (by first|exact .inl (by decide +kernel)|exact .inr (by decide +kernel)) (by rw[isSubtype_type];kernel_rfl)
theorem zBI:isSubtype (.type "set") (.type "set")=pure true:=by rw[isSubtype_type];kernel_rfl
section
variable{prog:Program}{w:World}{A:Around}{E:Value->Shared->Prop}{s:Shared}{a:Addr}{us:List Str}
theorem zAG{Q:Bool->Shared->Prop}(ht:s.TypeIs (.ref a) "set")(h:Q false s):wpAny (model prog w) A (Builtin.List.listLengthHint (.ref a)) Q E s:=by
 unfold Builtin.List.listLengthHint
 refine wpAny_bind (wpAny_specialOf ht st_len.lookup ?_)
 have e1:splitId "set.__len__"=some ("set","__len__"):=by decide +kernel
 dsimp only
 rw[e1]
 dsimp only
 refine wpAny_bind (wpAny_isInstance ht zBI ?_)
 simp only[Bool.not_true,Bool.false_eq_true,if_false]
 refine wpAny_ite ?_
 rw[if_pos (by decide +kernel)]
 refine wpAny_bind (wpAny_typeOf ht ?_)
 exact wpAny_pure h
end
end L2
namespace L2
open PySem PySem.Spec PyProof.Rows
section
variable{prog:Program}{w:World}{A:Around}{E:Value->Shared->Prop}{s:Shared}{a:Addr}{us:List Str}
theorem zC7{Q:List Value->Shared->Prop}(hh:A.handled=none)(S:SetS prog w a us s.heap)
  (hQ:∀h' d tk (acc:List Value) vs,StrsAre acc vs->vs.Perm us->s.heap.objs.size<h'.objs.size->(∀b o,s.heap.get? b=some o->h'.get? b=some o)->Q acc {s with heap:=h',drawn:=d,toks:=tk}):
  wpAny (model prog w) A (collect (.ref a)) Q E s:=by
 have hl:us.length<=sizeLine:=by
  obtain⟨es,ep,t,ho,T⟩:=id S
  rw[<-T.size];exact fits_of_scanBound T.lt
 have alt:a<s.heap.objs.size:=by
  obtain⟨es,ep,t,ho,T⟩:=id S
  exact Heap.lt_size ho
 unfold collect
 refine wpAny_bind (wpAny_runValue (codeAny_builtin F.entry_proto_collect ?_))
 rw[Around.under_plainId F.plain_proto_collect _]
 show wpAny _ A.in1 (newList [] >>= λl=>again (.builtin "list.__iadd__" ⟨[l,.ref a],[]⟩)) _ _ s
 refine wpAny_bind (wpAny_newObj_type ?_ (by size_fits))
 refine wpAny_pure ⟨plainId_quiet F.plain_list_iadd _,codeAny_builtin F.entry_list_iadd ?_⟩
 rw[Around.under_plainId F.plain_list_iadd _]
 show wpAny _ A.in1 (Builtin.List.listExtendWith (.ref s.heap.objs.size) (.ref a) (.ref s.heap.objs.size)) _ _ _
 unfold Builtin.List.listExtendWith
 have S1:SetS prog w a us (s.heap.push {cls:=.type "list",data:=.seq ([]:List Value).toArray}):=by
  obtain⟨es,ep,t,ho,T⟩:=id S
  exact⟨es,ep,t,Heap.get?_push_of_some _ ho,T⟩
 have ht:Shared.TypeIs {s with heap:=s.heap.push {cls:=.type "list",data:=.seq ([]:List Value).toArray}} (.ref a) "set":=by
  obtain⟨es,ep,t,ho,T⟩:=id S1
  exact⟨_,ho,rfl⟩
 refine wpAny_bind (wpAny_typeOf ht ?_)
 have h1:Builtin.List.listSameRef (.ref s.heap.objs.size) (.ref a)=false:=by simp[Builtin.List.listSameRef];exact Nat.ne_of_gt alt
 have h2:(Value.type "set"==Value.type "list")=false:=by decide
 have h3:(Value.type "set"==Value.type "tuple")=false:=by decide
 simp only[h1,h2,h3,Bool.or_false,Bool.false_eq_true,if_false]
 refine wpAny_bind (zDH S1 λit fp P St h' d W st0 td hfp hit kp=>?_)
 have ht':Shared.TypeIs {s with heap:=h',drawn:=d} (.ref a) "set":=by
  obtain⟨o,e,c⟩:=ht
  exact⟨o,kp _ _ e,c⟩
 refine wpAny_bind (wpAny_holding (zAG ht' ?_))
 have hA:A.in1.in1.handled=none:=by simp[hh]
 obtain⟨n,hn,W⟩:=W A.in1 (by simp[hh])
 subst hn
 refine wpAny_ite ?_
 rw[if_pos (by decide +kernel)]
 refine wpAny_bind (wpAny_rule ?_)
 have sz1:(s.heap.push {cls:=.type "list",data:=.seq ([]:List Value).toArray}).objs.size=s.heap.objs.size+1:=Heap.size_push ..
 have g0:h'.get? s.heap.objs.size=some {cls:=.type "list",data:=.seq ([]:List Value).toArray}:=kp _ _ (Heap.get?_push_size _ rfl)
 have nf:s.heap.objs.size∉fp:=λm=>by
  rcases hfp _ m with z|z
  ·exact absurd z (Nat.ne_of_gt alt)
  ·rw[sz1]at z;omega
 refine wpAny_bind ?_
 show wpAny _ A.in1 (updateSeq s.heap.objs.size (·.push .none) >>= λ_=>updateSeq s.heap.objs.size (·.pop)) _ _ _
 refine wpAny_bind (wpAny_updateSeq g0 rfl ?_)
 have g1:=Heap.get?_update_self (Obj.mapSeq (·.push Value.none)) g0 rfl
 refine wpAny_updateSeq g1 rfl ?_
 have g2:=Heap.get?_update_self (Obj.mapSeq (·.pop)) g1 rfl
 have oth:∀b o,b≠s.heap.objs.size->h'.get? b=some o->((h'.update s.heap.objs.size (Obj.mapSeq (·.push Value.none))).update s.heap.objs.size (Obj.mapSeq (·.pop))).get? b=some o:=
  λb o hb e=>(Heap.get?_update_other _ _ (Ne.symm hb)).trans ((Heap.get?_update_other _ _ (Ne.symm hb)).trans e)
 refine wpAny_pure ⟨plainId_quiet F.plain_extend_loop _,codeAny_extend_loopS W hl _ nf _ us.length 0 _ _ _ rfl (Nat.zero_le _)
  (W.frame 0 {s with heap:=h',drawn:=d} _ s.toks st0 (Nat.le_refl _) λb hb o e=>oth b o (λz=>nf (z▸hb)) e) g2 (ItemsOf.nil P) λs' acc' c' hm g' hacc=>?_⟩
 show wpAny _ A (load s.heap.objs.size >>= _) _ _ s'
 refine wpAny_bind (wpAny_load g' ?_)
 obtain⟨vs,hs,hp⟩:=td acc' hacc
 obtain⟨h'',g'',d'',tk'',os''⟩:=s'
 have e1:g''=s.gens:=hm.gens.symm
 have e2:os''=s.os:=hm.os
 subst e1 e2
 refine wpAny_pure (hQ h'' d'' tk'' acc'.toList vs hs hp (Heap.lt_size g') λb o e=>hm.heap b o (λm=>?_) (oth b o (Nat.ne_of_lt (Heap.lt_size e)) (kp b o (Heap.get?_push_of_some _ e))))
 have lt:=Heap.lt_size e
 simp only[List.mem_cons,List.not_mem_nil,or_false]at m
 rcases m with m|m
 ·rw[m]at lt;exact Nat.lt_irrefl _ lt
 ·rw[m]at lt;rw[sz1]at hit;exact absurd lt (Nat.not_lt.mpr (Nat.le_of_succ_le hit))
end
end L2
namespace L2
open PySem PySem.Spec PyProof.Rows
section
variable{prog:Program}{w:World}{A:Around}{E:Value->Shared->Prop}{s:Shared}{a:Addr}{us:List Str}
theorem zDg{Q:Value->Shared->Prop}(hh:A.handled=none)(S:SetS prog w a us s.heap)(h64:us.length<64)
  (h:∀h' d tk (l:Addr) (out:List Value) (ss:List Str) (e:Nat),StrsAre out ss->ss.Perm us->sortedS ss=true->h'.get? l=some (seqObj "list" out.toArray e)->s.heap.objs.size<=l->(∀b o,s.heap.get? b=some o->h'.get? b=some o) ->
   Q (.ref l) {s with heap:=h',drawn:=d,toks:=tk}):wpAny (model prog w) A (call (.builtin "sorted") [.ref a]) Q E s:=by
 refine Calls.call_function_entry kind_sorted plain_sorted entry_sorted (args_sorted1 _) ?_
 unfold Builtin.«sorted»
 refine wpAny_bind (m:=checkCount "sorted" 1 1 _) (wpAny_pure ?_)
 refine wpAny_bind (zC7 (by simp[hh]) S λh1 d tk acc vs hs hp le kp=>?_)
 have hlen:acc.length<64:=by rw[jI hs,hp.length_eq];exact h64
 refine wpAny_bind (wpAny_newList ?_ (Nat.le_of_lt (Nat.lt_trans hlen (by decide))))
 have hoL:(h1.push (seqObj "list" acc.toArray 0)).get? h1.objs.size=some (seqObj "list" acc.toArray 0):=Heap.get?_push_size _ rfl
 refine wpAny_bind (wpAny_holding (wpAny_call_entry slot_list_sort ⟨_,hoL,rfl⟩ entry_list_sort (list_sort_treeK strKind_oneLt hoL hs.keysOf (λv₁ v₂ rest e=>keyKind_strs (by rw[<-e];exact hs)) hlen λst' a1 a2=>⟨_,rfl,?_⟩) (args_list_sort _)))
 obtain⟨ss',b1,b2,b3⟩:=sorted_out_str hs a1 a2
 obtain⟨e,he⟩:=sortedHeap_at (out:=(arrOf st').map (·.2)) hoL
 refine wpAny_pure ⟨_,rfl,h _ _ _ _ ((arrOf st').map (·.2)).toList ss' e b1 (b2.trans hp) b3 (by rw[Array.toArray_toList];exact he) (Nat.le_of_lt le) λb o q=>?_⟩
 have lt:=Heap.lt_size (kp b o q)
 rw[sortedHeap_old (Nat.ne_of_lt lt) (by rw[Heap.size_push];exact Nat.lt_succ_of_lt lt)]
 exact Heap.get?_push_of_some _ (kp b o q)
end
end L2
namespace L2
open PySem PySem.Spec PyProof.Rows
def fE(val:Nat->Str)(i:Nat):List Str:=((List.range i).map val).foldl eE []
theorem zK(val:Nat->Str)(i:Nat):fE val (i+1)=eE (fE val i) (val i):=by
 unfold fE
 rw[List.range_succ,List.map_append,List.foldl_append]
 rfl
theorem zGq(us:List Str)(x y:Str):y∈eE us x↔y∈us\/y=x:=by
 unfold eE
 split
 ·exact⟨.inl,λh=>h.elim id λe=>by subst e;assumption⟩
 ·simp
theorem zHI{us:List Str}(h:us.Nodup)(x:Str):(eE us x).Nodup:=by
 unfold eE
 split
 ·exact h
 ·rename_i n
  rw[List.nodup_append]
  exact⟨h,by simp,λa ha b hb e=>n (by rw[<-show b=x by simpa using hb,<-e];exact ha)⟩
def bN(ss:List Str):List Str:=ss.foldl eE []
theorem zU:∀(ss us:List Str) (y:Str),y∈ss.foldl eE us↔y∈us\/y∈ss
 |[],us,y=>by simp
 |x::ss,us,y=>by rw[List.foldl_cons,zU ss,zGq,List.mem_cons,or_assoc]
theorem zAy:∀(ss us:List Str),us.Nodup->(ss.foldl eE us).Nodup
 |[],us,h=>h
 |x::ss,us,h=>zAy ss _ (zHI h x)
theorem jJ(ss:List Str)(y:Str):y∈bN ss↔y∈ss:=by rw[bN,zU];simp
theorem nI(ss:List Str):(bN ss).Nodup:=zAy ss [] List.nodup_nil
theorem zAr{val:Nat->Str}{ss:List Str}(h:∀i (hi:i<ss.length),val i=ss[i]):fE val ss.length=bN ss:=by
 unfold fE bN
 congr 1
 apply List.ext_getElem
 ·simp
 ·intro i h1 h2
  simp[h i h2]
section
variable{prog:Program}{w:World}{A:Around}{R:Result->Shared->Prop}{I:Addr}{fp wr:List Addr}{G:Array GenState->Array GenState->Prop}{n:Nat}{P:Nat->Value->Prop}{St:Nat->Shared->Prop}
theorem SetS.kept{a:Addr}{us:List Str}{h h':Heap}(S:SetS prog w a us h)(k:∀o,h.get? a=some o->h'.get? a=some o):SetS prog w a us h':=by
 obtain⟨es,ep,t,ho,T⟩:=S
 exact⟨es,ep,t,k _ ho,T⟩
end
section
variable{prog:Program}{w:World}{A:Around}{E:Value->Shared->Prop}{s:Shared}
theorem yM(a:Value){Q₁:Value->Shared->Prop}(h:Q₁ (.ref s.heap.objs.size) {s with heap:=s.heap.push (bS #[] 0 (.fresh 0 0 (!byT w)))}):
  codeAny (model prog w) A (.call (.builtin "set.__new__") ⟨[.type "set",a],[]⟩) (wants Q₁ E) s:=by
 refine codeAny_of_tree ?_
 show wpAny _ A.in1 (do checkBuiltinCall "set.__new__" ⟨[.type "set",a],[]⟩;again (.builtin "set.__new__" ⟨[.type "set",a],[]⟩)) _ _ s
 refine wpAny_bind (wpAny_of_eq (F.newCall_set_1 a) (wpAny_pure ⟨plainId_quiet F.plain_set_new _,codeAny_builtin F.entry_set_new ?_⟩))
 rw[Around.under_plainId F.plain_set_new _]
 unfold Builtin.«set.__new__» Builtin.Frozenset.newClass
 have hsub:=zBI
 obtain⟨hp,g,d,tk,os⟩:=s
 dsimp only
 wp_walk
 refine wpAny_askSetting (wpAny_pure ?_)
 dsimp only
 simp only[newObj]
 refine wpAny_bind (wpAny_alloc (wpAny_pure ?_))
 exact wpAny_pure h
end
end L2
namespace L2
open PySem PySem.Spec PyProof.Rows
theorem lE:∀{vs:List Value}{ss:List Str},StrsAre vs ss->∀(i:Nat) (v:Value),vs[i]?=some v->∃t,v=.str (ss.getD i ⟨#[]⟩) t
 |_,_,.nil,i,v,h=>by simp at h
 |_,_,.cons y t hr,0,v,h=>by
  simp at h
  exact⟨t,by rw[<-h];rfl⟩
 |_,_,.cons y t hr,i+1,v,h=>by
  simp only[List.getElem?_cons_succ]at h
  obtain⟨u,e⟩:=lE hr i v h
  exact⟨u,by rw[e];rfl⟩
end L2
namespace L2
open PySem PySem.Spec PyProof.Rows
theorem boot_set:bootBuiltins "set"=some (.type "set"):=by decide +kernel
def rY(P:Program)(w:World)(a:Addr)(us:List Str):HO:=.ext (SetS P w a us)
section
variable{X:Cx}
theorem Inv.draw{pins:List (Addr×Obj)}{σ:St}{H:Hp}{s:Shared}(I:Inv X pins σ H s)(d:Drawn):Inv X pins σ H {s with drawn:=d}:=
 ⟨I.ok,I.os,I.bare,I.base,I.loc,I.cell,I.free,I.freeC,I.pin,I.hok,I.len⟩
def zIb(P:Program)(w:World):List V->Hp->VK->Prop:=λxs H Q=>∃(a:Addr) (us:List Str),xs=[.ref a]/\H a=some (rY P w a us)/\us.length<64 /\
  ∀(ss:List Str) (l:Addr),ss.Perm us->sortedS ss=true->H l=none->Q (.ref l) (upd H l (.lst (ss.map V.str)))
theorem zDk(hc:X.calm=true):CallR X (.builtin "sorted") (zIb X.prog X.w):=by
 intro pins s σ H xs us Q I r h
 obtain⟨a,uu,rfl,hq,h64,q⟩:=h
 obtain⟨u,rfl,rx⟩:=cJ r
 cases rx
 have S:SetS X.prog X.w a uu s.heap:=(I.hok a _ hq).1
 refine zDg (I.ok.hd hc) S h64 λh' d tk l out ss e hs hp hso hl le k=>?_
 refine⟨.ref l,_,(I.laid (t':=tk) (o:=.lst (ss.map V.str)) k le ?_).draw d,rfl,q ss l hp hso (I.hok.fresh le)⟩
 refine⟨?_,out,e,pE hs,hl⟩
 rw[List.length_map,hp.length_eq]
 exact Nat.le_of_lt (Nat.lt_trans h64 (by decide))
def mL(x:Str)(n:Int):Str:=⟨(List.replicate n.toNat x.cps.toList).flatten.toArray⟩
def zJR:R2:=λx y H Q=>∃(z:Str) (n:Int),x=.str z/\y=.int n/\z.length<=1000/\n<=1000 /\ -1000<=n/\Q (.str (mL z n)) H
theorem uR(x:Array Nat):∀n (acc:Array Nat),((List.replicate n x).foldl (·++·) acc)=(acc.toList++(List.replicate n x.toList).flatten).toArray
 |0,acc=>by simp
 |n+1,acc=>by
  rw[List.replicate_succ,List.foldl_cons,uR x n,List.replicate_succ,List.flatten_cons]
  simp
theorem zHe:OpR X (binaryOp .Mult) zJR:=by
 intro pins s σ H x y v u Q I rx ry h
 obtain⟨z,n,rfl,rfl,hz,n1,n0,q⟩:=h
 obtain⟨t,rfl⟩:=rx
 obtain⟨t',rfl⟩:=ry
 have fin:∀(w:Str) (k:Tok) (tk:Nat),w=mL z n->EP X pins σ Q (.str w k) {s with toks:=tk}:=λw k tk e=>⟨.str w,H,I.tok tk,⟨k,rfl⟩,by rw[e];exact q⟩
 have pos:∀m:Nat,m<=1000->z.length*m<=1000000:=λm hm=>Nat.mul_le_mul hz hm
 refine P.mul_str (by rw[decide_eq_false (by omega),decide_eq_false (by omega)];rfl) (λh1 _ h2=>?_) (λh1 _=>?_) ?_
 ·have:(2 ^ 63-1) / n>=1000:=by
   have h3:n<=1000:=n1
   have h4:0<n:=by omega
   rw[ge_iff_le,Int.le_ediv_iff_mul_le h4]
   omega
  omega
 ·show decide (_ > sizeLine)=false
  refine decide_eq_false (Nat.not_lt.mpr (Nat.le_trans (pos n.toNat (by omega)) (by decide)))
 ·split
  ·refine⟨by decide,fin _ _ _ ?_⟩
   unfold mL
   rw[show n.toNat=0 by omega]
   rfl
  ·split
   ·rename_i h1 h2
    refine fin _ _ s.toks ?_
    rw[Bool.or_eq_true]at h2
    unfold mL
    rcases h2 with h3|h3
    ·have:n=1:=by simpa using h3
     rw[this]
     simp
    ·have hz0:z.cps=#[]:=by
      have:z.cps.size=0:=by simpa[Str.length]using h3
      exact Array.size_eq_zero_iff.mp this
     have e:∀m:Nat,(List.replicate m ([]:List Nat)).flatten=[]:=λm=>by
      induction m with
      |zero=>rfl
      |succ m ih=>rw[List.replicate_succ,List.flatten_cons,ih];rfl
     obtain⟨zc⟩:=z
     have hz0:zc=#[]:=hz0
     subst hz0
     show(⟨#[]⟩:Str)=⟨(List.replicate n.toNat ([]:List Nat)).flatten.toArray⟩
     rw[e]
   ·refine⟨?_,fin _ _ _ ?_⟩
    ·show(List.foldl (λx1 x2=>x1++x2) #[] (List.replicate n.toNat z.cps)).size<=_
     rw[uR,List.size_toArray,List.length_append,vL]
     show 0+n.toNat*z.cps.toList.length<=_
     have:=pos n.toNat (by omega)
     rw[Nat.mul_comm]at this
     have e:z.cps.toList.length=z.length:=by simp[Str.length]
     rw[e]
     exact Nat.le_trans (by omega) (show 1000000<=sizeLine by decide)
    ·unfold mL
     rw[uR]
     simp
def zKO(K:W.Frag):V->Option Int->Option Int->Hp->VK->Prop:=λx lo hi H Q=>∃a xs,x=.ref a/\SqT K H a xs/\∀p H',Same H H'->SqT K H' p (fP xs lo hi)->Q (.ref p) H'
theorem zDd{prog:Program}{w:World}{A:Around}{E:Value->Shared->Prop}{s:Shared}{t sl:Addr}{items:Array Value}{vl vu:Value}{lo hi:Option Int}{Q:Value->Shared->Prop}(ht:IsTup s.heap t items)(hs:s.heap.IsSliceOf sl vl vu .none)(pl:IsPart vl lo)(pu:IsPart vu hi)
  (hw:HT.sIx items.size 0 lo=0/\HT.sIx items.size items.size hi=items.size) (h:Q (.ref t) s):wpAny (model prog w) A (getItem (.ref t) (.ref sl)) Q E s:=by
 obtain⟨os,hos,hcs,hds⟩:=id hs
 have hTs:s.TypeIs (.ref sl) "slice":=⟨os,hos,hcs⟩
 unfold getItem
 try with_reducible refine wpAny_holding ?_
 first|refine wpAny_bind (wpAny_pure ?_)|skip
 refine wpAny_bind (wpAny_sequenceKey ht.typeIs (by decide) ?_)
 refine wpAny_bind (wpAny_callSpecial?_slot (name:=Str.ofString "__getitem__") ht.typeIs PyProof.Rows.slot_tuple_getitem (wpAny_call_entry PyProof.Rows.slot_tuple_getitem ht.typeIs entry_tuple_getitem ?_ (args_tuple_getitem _ _)))
 show wpAny _ _ (Builtin.Tuple.tupleItemsOf (.ref t) >>= _) _ _ s
 refine wpAny_bind (tupleItemsOf_ ht (wpAny_bind (wpAny_typeOf hTs ?_)))
 rw[if_pos (by decide)]
 refine wpAny_bind (HT.sliceApplied_gen hs pl pu ?_)
 rw[hw.1,hw.2]
 dsimp only
 rw[if_pos (by simp)]
 unfold Builtin.Tuple.tupleIsExact
 refine wpAny_bind (wpAny_bind (wpAny_typeOf ht.typeIs (wpAny_pure ?_)))
 rw[if_pos (by decide)]
 exact wpAny_bind (wpAny_rule (wpAny_pure ⟨_,rfl,wpAny_pure h⟩))
theorem zHC{xs:List V}{lo hi:Option Int}(hw:HT.sIx xs.length 0 lo=0/\HT.sIx xs.length xs.length hi=xs.length):fP xs lo hi=xs:=by
 unfold fP
 rw[hw.1,hw.2,List.drop_zero,Nat.sub_zero,List.take_length]
theorem sl_tupW:SlR X (zKO X.K):=by
 intro pins s σ H x v vl vu lo hi sl Q I rx hs pl pu h
 obtain⟨a,xs,rfl,hx,q⟩:=h
 by_cases hw:HT.sIx xs.length 0 lo=0/\HT.sIx xs.length xs.length hi=xs.length
 ·cases rx
  obtain⟨its,r,ht,hz⟩:=I.tuple hx
  have hlen:its.toArray.size=xs.length:=by rw[List.size_toArray];exact r.length.symm
  refine⟨"tuple",_,PyProof.Rows.slot_tuple_getitem.lookup,ht.typeIs,?_⟩
  exact zDd ht hs pl pu (by rw[hlen];exact hw) ⟨.ref a,H,I,rfl,q a H (λ_ _ e=>e) (by rw[zHC hw];exact hx)⟩
 ·exact zH2 pins s σ H _ v vl vu lo hi sl Q I rx hs pl pu ⟨a,xs,rfl,hx,hw,λp np=>q p _ (λb o e=>by rw[bF (dR e np)];exact e) (SqT.of bE)⟩
end
end L2
namespace L2
open PySem PySem.Spec PyProof.Rows
theorem zBv(f:Nat->List Nat):∀n,argBest (λi j=>decide (f i<f j)) n<=n/\∀j,j<=n->f (argBest (λi j=>decide (f i<f j)) n)<=f j
 |0=>⟨Nat.le_refl _,λj hj=>by rw[Nat.le_zero.mp hj];exact List.le_refl _⟩
 |n+1=>by
  obtain⟨h1,h2⟩:=zBv f n
  show(if decide (f (n+1)<f (argBest _ n))=true then n+1 else argBest _ n)<=n+1/\∀j,j<=n+1->f (if decide (f (n+1)<f (argBest _ n))=true then n+1 else argBest _ n)<=f j
  by_cases h:f (n+1)<f (argBest (λi j=>decide (f i<f j)) n)
  ·rw[if_pos (decide_eq_true h)]
   refine⟨Nat.le_refl _,λj hj=>?_⟩
   rcases Nat.lt_or_eq_of_le hj with z|z
   ·exact List.le_trans (List.le_of_lt h) (h2 j (by omega))
   ·rw[z];exact List.le_refl _
  ·rw[if_neg (λz=>h (of_decide_eq_true z))]
   refine⟨by omega,λj hj=>?_⟩
   rcases Nat.lt_or_eq_of_le hj with z|z
   ·exact h2 j (by omega)
   ·rw[z];exact List.not_lt.mp h
theorem zBw(f:Nat->List Nat):∀n,argBest (λi j=>decide (f j<f i)) n<=n/\∀j,j<=n->f j<=f (argBest (λi j=>decide (f j<f i)) n)
 |0=>⟨Nat.le_refl _,λj hj=>by rw[Nat.le_zero.mp hj];exact List.le_refl _⟩
 |n+1=>by
  obtain⟨h1,h2⟩:=zBw f n
  show(if decide (f (argBest _ n)<f (n+1))=true then n+1 else argBest _ n)<=n+1/\∀j,j<=n+1->f j<=f (if decide (f (argBest _ n)<f (n+1))=true then n+1 else argBest _ n)
  by_cases h:f (argBest (λi j=>decide (f j<f i)) n)<f (n+1)
  ·rw[if_pos (decide_eq_true h)]
   refine⟨Nat.le_refl _,λj hj=>?_⟩
   rcases Nat.lt_or_eq_of_le hj with z|z
   ·exact List.le_trans (h2 j (by omega)) (List.le_of_lt h)
   ·rw[z];exact List.le_refl _
  ·rw[if_neg (λz=>h (of_decide_eq_true z))]
   refine⟨by omega,λj hj=>?_⟩
   rcases Nat.lt_or_eq_of_le hj with z|z
   ·exact h2 j (by omega)
   ·rw[z];exact List.not_lt.mp h
theorem zQ{l:List Str}{i:Nat}(h:i<l.length):l.getD i ⟨#[]⟩∈l:=by
 rw[List.getD_eq_getElem?_getD,List.getElem?_eq_getElem h]
 exact List.getElem_mem h
theorem zN{l:List Str}{a:Str}(h:a∈l):∃j,j<l.length/\l.getD j ⟨#[]⟩=a:=by
 obtain⟨j,hj,e⟩:=List.mem_iff_getElem.mp h
 exact⟨j,hj,by rw[List.getD_eq_getElem?_getD,List.getElem?_eq_getElem hj];exact e⟩
section
variable{prog:Program}{w:World}{A:Around}{E:Value->Shared->Prop}{s:Shared}{l:Addr}{its:Array Value}{ss:List Str}
theorem zDD{P:Nat->Value->Prop}(val:Nat->Str)(hval:∀i v,P i v->∃t,v=.str (val i) t):CmpOf prog w A .Lt P (λi j=>decide ((val i).cps.toList<(val j).cps.toList)):=λi j vi vj s Q E hi hj h=>by
 obtain⟨t,rfl⟩:=hval i vi hi
 obtain⟨u,rfl⟩:=hval j vj hj
 exact richCompare_gives (op:=.Lt) (typeIs_str s _ t) (typeIs_str s _ u) F.slot_str_lt F.entry_str_lt (F.args_str_lt_2 _ _) (gives_str_lt _ _ t u) (λx=>nomatch x) h
theorem zDE{P:Nat->Value->Prop}(val:Nat->Str)(hval:∀i v,P i v->∃t,v=.str (val i) t):CmpOf prog w A .Gt P (λi j=>decide ((val j).cps.toList<(val i).cps.toList)):=λi j vi vj s Q E hi hj h=>by
 obtain⟨t,rfl⟩:=hval i vi hi
 obtain⟨u,rfl⟩:=hval j vj hj
 exact richCompare_gives (op:=.Gt) (typeIs_str s _ t) (typeIs_str s _ u) F.slot_str_gt F.entry_str_gt (F.args_str_gt_2 _ _) (gives_str_gt _ _ t u) (λx=>nomatch x) h
theorem yU{Q:Value->Shared->Prop}(hl:s.heap.IsList l its)
  (h:∀s₂:Shared,s₂={s with heap:=s.heap.push {cls:=.type "list_iterator",data:=.fields #[.ref l,.int 0 0]}} ->
   (s₂.heap.IsListIter s.heap.objs.size l 0/\s₂.heap.IsList l its)->(∀b∈[s.heap.objs.size,l],b<s₂.heap.objs.size)->l≠s.heap.objs.size->Q (.ref s.heap.objs.size) s₂):
  wpAny (model prog w) A (pyIter (.ref l)) Q E s:=by
 have hlt:l<s.heap.objs.size:=by obtain⟨_,e,_⟩:=hl;exact Heap.lt_size e
 refine wpAny_pyIter_list hl (h _ rfl ⟨⟨_,Heap.get?_push_size _ rfl,rfl,rfl⟩,hl.push _⟩ (λb hb=>?_) (Nat.ne_of_lt hlt))
 show b<(s.heap.push _).objs.size
 rw[Heap.size_push]
 simp only[List.mem_cons,List.not_mem_nil,or_false]at hb
 rcases hb with z|z
 ·rw[z];exact Nat.lt_succ_self _
 ·rw[z];exact Nat.lt_succ_of_lt hlt
theorem zF0{Q:Value->Shared->Prop}(hh:A.handled=none)(hl:s.heap.IsList l its)(hi:StrsAre its.toList ss)(hne:0<ss.length)
  (h:∀x t h' tk,x∈ss->(∀y∈ss,x.cps.toList<=y.cps.toList)->(∀b o,s.heap.get? b=some o->h'.get? b=some o)->Q (.str x t) {s with heap:=h',toks:=tk}):
  wpAny (model prog w) A (call (.builtin "min") [.ref l]) Q E s:=by
 have hsz:its.size=ss.length:=by rw[<-Array.length_toList,jI hi]
 refine call_min_walk (yU hl λs₂ e st hfp hlI=>?_)
 subst e
 refine⟨_,_,_,_,_,_,_,rfl,Walks.list (A:=A.in1) hh _ l hlI its,st,hfp,by omega,zDD (λi=>ss.getD i ⟨#[]⟩) (λi v hv=>lE hi i v (by rw[Array.getElem?_toList];exact hv)),λv h' tk hP hk=>?_⟩
 obtain⟨t,rfl⟩:=lE hi _ v (by rw[Array.getElem?_toList];exact hP)
 obtain⟨b1,b2⟩:=zBv (λi=>(ss.getD i ⟨#[]⟩).cps.toList) (its.size-1)
 refine h _ t h' tk (zQ (by omega)) (λy hy=>?_) (old_kept hk)
 obtain⟨j,hj,rfl⟩:=zN hy
 exact b2 j (by omega)
theorem zF1{Q:Value->Shared->Prop}(hh:A.handled=none)(hl:s.heap.IsList l its)(hi:StrsAre its.toList ss)(hne:0<ss.length)
  (h:∀x t h' tk,x∈ss->(∀y∈ss,y.cps.toList<=x.cps.toList)->(∀b o,s.heap.get? b=some o->h'.get? b=some o)->Q (.str x t) {s with heap:=h',toks:=tk}):
  wpAny (model prog w) A (call (.builtin "max") [.ref l]) Q E s:=by
 have hsz:its.size=ss.length:=by rw[<-Array.length_toList,jI hi]
 refine call_max_walk (yU hl λs₂ e st hfp hlI=>?_)
 subst e
 refine⟨_,_,_,_,_,_,_,rfl,Walks.list (A:=A.in1) hh _ l hlI its,st,hfp,by omega,zDE (λi=>ss.getD i ⟨#[]⟩) (λi v hv=>lE hi i v (by rw[Array.getElem?_toList];exact hv)),λv h' tk hP hk=>?_⟩
 obtain⟨t,rfl⟩:=lE hi _ v (by rw[Array.getElem?_toList];exact hP)
 obtain⟨b1,b2⟩:=zBw (λi=>(ss.getD i ⟨#[]⟩).cps.toList) (its.size-1)
 refine h _ t h' tk (zQ (by omega)) (λy hy=>?_) (old_kept hk)
 obtain⟨j,hj,rfl⟩:=zN hy
 exact b2 j (by omega)
end
section
variable{X:Cx}
theorem zD8(hc:X.calm=true):CallR X (.builtin "min") (λxs H Q=>∃(p:Addr) (ss:List Str),xs=[.ref p]/\SqL X.K H p (ss.map V.str)/\0<ss.length/\∀x,x∈ss->(∀y∈ss,x.cps.toList<=y.cps.toList)->Q (.str x) H):=by
 intro pins s σ H xs us Q I r h
 obtain⟨p,ss,rfl,hq,hn,q⟩:=h
 obtain⟨u,rfl,rx⟩:=cJ r
 cases rx
 obtain⟨its,rv,pl,hz⟩:=I.list hq
 refine zF0 (I.ok.hd hc) pl.isList (mR rv) hn λx t h' tk h1 h2 hk=>?_
 exact⟨.str _,H,I.kept hk,⟨t,rfl⟩,q _ h1 h2⟩
theorem zD9(hc:X.calm=true):CallR X (.builtin "max") (λxs H Q=>∃(p:Addr) (ss:List Str),xs=[.ref p]/\SqL X.K H p (ss.map V.str)/\0<ss.length/\∀x,x∈ss->(∀y∈ss,y.cps.toList<=x.cps.toList)->Q (.str x) H):=by
 intro pins s σ H xs us Q I r h
 obtain⟨p,ss,rfl,hq,hn,q⟩:=h
 obtain⟨u,rfl,rx⟩:=cJ r
 cases rx
 obtain⟨its,rv,pl,hz⟩:=I.list hq
 refine zF1 (I.ok.hd hc) pl.isList (mR rv) hn λx t h' tk h1 h2 hk=>?_
 exact⟨.str _,H,I.kept hk,⟨t,rfl⟩,q _ h1 h2⟩
end
end L2
namespace L2
open PySem PySem.Spec PyProof.Rows
open PySem PySem.Spec PyProof.Rows
section
variable{κ:Type}[DecidableEq κ]
def dY(kvs:List (κ×V))(k:κ):Option V:=(kvs.find? λkv=>decide (kv.1=k)).map (·.2)
def cV(kvs:List (κ×V))(k:κ)(v:V):List (κ×V):=
 if (kvs.any λkv=>decide (kv.1=k))=true then kvs.map (λkv=>if kv.1=k then(kv.1,v) else kv) else kvs++[(k,v)]
theorem pS{p:κ×V}{r:List (κ×V)}{k:κ}(e:p.1=k):dY (p::r) k=some p.2:=by simp[dY,List.find?_cons,e]
theorem pT{p:κ×V}{r:List (κ×V)}{k:κ}(e:¬ p.1=k):dY (p::r) k=dY r k:=by simp[dY,List.find?_cons,e]
theorem pU(k:κ):∀kvs:List (κ×V),(kvs.any λkv=>decide (kv.1=k))=(dY kvs k).isSome
 |[]=>rfl
 |p::r=>by
  rw[List.any_cons]
  by_cases e:p.1=k
  ·simp only[pS e,decide_eq_true e,Bool.true_or,Option.isSome_some]
  ·rw[pT e,decide_eq_false e,Bool.false_or];exact pU k r
theorem tO(kvs:List (κ×V))(k:κ)(v:V):(cV kvs k v).length<=kvs.length+1:=by
 unfold cV
 split
 ·rw[List.length_map];omega
 ·rw[List.length_append,List.length_cons,List.length_nil];omega
theorem zFI{kvs:List (κ×V)}{k:κ}(v:V)(h:dY kvs k=none):cV kvs k v=kvs++[(k,v)]:=by
 unfold cV
 rw[pU,h]
 exact if_neg (by decide)
theorem RelO.isSome_eq{o:Option V}{u:Option Value}(r:RelO o u):o.isSome=u.isSome:=by
 cases o with
 |none=>cases u with
  |none=>rfl
  |some _=>exact(show False from r).elim
 |some _=>cases u with
  |none=>exact(show False from r).elim
  |some _=>rfl
theorem KV.val{kvs:List (κ×V)}{vs:List (κ×Value)}(r:KV kvs vs)(k:κ):RelO (dY kvs k) (valueAt vs k):=by
 unfold KV at r
 induction r with
 |nil=>exact True.intro
 |@cons p q ps qs h t ih=>
  obtain⟨h1,h2⟩:=h
  by_cases e:p.1=k
  ·have e':q.1=k:=h1.symm.trans e
   have b:valueAt (q::qs) k=some q.2:=by simp[valueAt,List.find?_cons,e']
   rw[pS e,b];exact h2
  ·have e':¬ q.1=k:=λz=>e (h1.trans z)
   have b:valueAt (q::qs) k=valueAt qs k:=by simp[valueAt,List.find?_cons,e']
   rw[pT e,b];exact ih
theorem KV.any{kvs:List (κ×V)}{vs:List (κ×Value)}(r:KV kvs vs)(k:κ):(kvs.any λkv=>decide (kv.1=k))=vs.any λkv=>decide (kv.1=k):=by
 unfold KV at r
 induction r with
 |nil=>rfl
 |cons h t ih=>rw[List.any_cons,List.any_cons,ih,h.1]
theorem KV.repl{kvs:List (κ×V)}{vs:List (κ×Value)}(r:KV kvs vs)(k:κ){y:V}{u:Value}(ry:RelV y u):
  KV (kvs.map λkv=>if kv.1=k then(kv.1,y) else kv) (vs.map λkv=>if kv.1=k then(kv.1,u) else kv):=by
 unfold KV at r ⊢
 induction r with
 |nil=>exact .nil
 |@cons p q ps qs h t ih=>
  rw[List.map_cons,List.map_cons]
  refine .cons ?_ ih
  obtain⟨h1,h2⟩:=h
  by_cases e:p.1=k
  ·rw[if_pos e,if_pos (h1.symm.trans e)];exact⟨h1,ry⟩
  ·rw[if_neg e,if_neg (λz=>e (h1.trans z))];exact⟨h1,h2⟩
theorem KV.put{kvs:List (κ×V)}{vs:List (κ×Value)}(r:KV kvs vs)(k:κ){y:V}{u:Value}(ry:RelV y u):KV (cV kvs k y) (stored vs k u):=by
 unfold cV stored
 rw[r.any k]
 by_cases e:(vs.any λkv=>decide (kv.1=k))=true
 ·rw[if_pos e,if_pos e];exact r.repl k ry
 ·rw[if_neg e,if_neg e];exact Paired.snoc r ⟨rfl,ry⟩
theorem KV.length{kvs:List (κ×V)}{vs:List (κ×Value)}(r:KV kvs vs):kvs.length=vs.length:=Paired.length r
end
theorem lZ{P:Program}{w:World}{k:Key}{u:Value}(r:RelV (kV k) u):(bW P w).is k u=true:=by
 cases k with
 |inl i=>obtain⟨t,e⟩:=(show ∃t,u=Value.int i t from r);subst e;exact zDy P w i t
 |inr x=>obtain⟨t,e⟩:=(show ∃t,u=Value.str x t from r);subst e;exact pI P w x t
theorem zP{P:Program}{w:World}:∀{ks:List Key}{us:List Value},Vals (ks.map kV) us->ItemsAre (bW P w) ks us
 |[],_,r=>by rw[List.map_nil]at r;cases r;exact .nil
 |k::ks,_,r=>by
  rw[List.map_cons]at r
  cases r with
  |cons h t=>exact .cons (lZ h) (zP t)
abbrev KT(H:Hp):List (List Key×V)->List (List Key×Addr×Value)->Prop:=Paired λp q=>p.1=q.1/\H q.2.1=some (.tup (p.1.map kV))/\RelV p.2 q.2.2
theorem KT.val{H:Hp}{kvs:List (List Key×V)}{xs:List (List Key×Addr×Value)}(r:KT H kvs xs)(k:List Key):RelO (dY kvs k) ((atKey xs k).map (·.2)):=by
 induction r with
 |nil=>exact True.intro
 |@cons p q ps qs h t ih=>
  obtain⟨h1,_,h2⟩:=h
  by_cases e:p.1=k
  ·have e':q.1=k:=h1.symm.trans e
   have b:atKey (q::qs) k=some q.2:=by simp[atKey,List.find?_cons,e']
   rw[pS e,b];exact h2
  ·have e':¬ q.1=k:=λz=>e (h1.trans z)
   have b:atKey (q::qs) k=atKey qs k:=by simp[atKey,List.find?_cons,e']
   rw[pT e,b];exact ih
theorem KT.repl{H:Hp}{kvs:List (List Key×V)}{xs:List (List Key×Addr×Value)}(r:KT H kvs xs)(k:List Key){y:V}{u:Value}(ry:RelV y u):
  KT H (kvs.map λkv=>if kv.1=k then(kv.1,y) else kv) (xs.map (putAt k u)):=by
 induction r with
 |nil=>exact .nil
 |@cons p q ps qs h t ih=>
  rw[List.map_cons,List.map_cons]
  refine .cons ?_ ih
  obtain⟨h1,h2,h3⟩:=h
  unfold putAt
  by_cases e:p.1=k
  ·rw[if_pos e,if_pos (h1.symm.trans e)];exact⟨h1,h2,ry⟩
  ·rw[if_neg e,if_neg (λz=>e (h1.trans z))];exact⟨h1,h2,h3⟩
theorem KT.put{H:Hp}{kvs:List (List Key×V)}{xs:List (List Key×Addr×Value)}(r:KT H kvs xs)(k:List Key){b:Addr}{y:V}{u:Value}(hb:H b=some (.tup (k.map kV)))(ry:RelV y u):
  KT H (cV kvs k y) (storedH xs k b u):=by
 have e:(kvs.any λkv=>decide (kv.1=k))=(atKey xs k).isSome:=by
  rw[pU,(r.val k).isSome_eq,Option.isSome_map]
 unfold cV storedH
 rw[e]
 by_cases q:(atKey xs k).isSome=true
 ·rw[if_pos q,if_pos q];exact r.repl k ry
 ·rw[if_neg q,if_neg q];exact Paired.snoc r ⟨rfl,hb,ry⟩
theorem KT.keeps{H H':Hp}{kvs:List (List Key×V)}{xs:List (List Key×Addr×Value)}(r:KT H kvs xs)(ht:∀b ys,H b=some (.tup ys)->H' b=some (.tup ys)):KT H' kvs xs:=
 Paired.mapP r λ_ _ z=>⟨z.1,ht _ _ z.2.1,z.2.2⟩
section
variable{P:Program}{w:World}{H:Hp}{h:Heap}{a:Addr}
theorem zCd{u:HO}(ok:HOk P w H h)(e:Rd H a u):ObjOk P w H h a u:=e.ok ok
theorem iZ{kvs:List (Key×V)}(ok:HOk P w H h)(e:Rd H a (.dK kvs)):kvs.length<=sizeLine/\(a==sysModules)=false/\∃vs,KV kvs vs/\h.DictOf (bW P w) a vs:=
 show ObjOk P w H h a (.dK kvs) from zCd ok e
theorem wS{kvs:List (Key×V)}(ok:HOk P w H h)(e:H a=some (.dK kvs)):kvs.length<=sizeLine/\(a==sysModules)=false/\∃vs,KV kvs vs/\h.DictOf (bW P w) a vs:=iZ ok (.inl e)
theorem oC{ks:List Key}(ok:HOk P w H h)(e:H a=some (.tup (ks.map kV))):(tupleKind (bW P w)).is h ks a:=by
 obtain⟨_,its,r,o,h1,h2,n,h3⟩:=(show ObjOk P w H h a (.tup (ks.map kV)) from ok a _ e)
 exact⟨o,its.toArray,n,h1,h2,h3,by simpa using zP r⟩
theorem mD{kvs:List (List Key×V)}(ok:HOk P w H h)(e:Rd H a (.dT kvs)):kvs.length<=sizeLine/\(a==sysModules)=false /\
  ∃xs,KT H kvs xs/\h.DictOfH (tupleKind (bW P w)) a xs:=by
 obtain⟨z,y,xs,r,o,es,ep,h1,h2,h3,h4,h5⟩:=(show ObjOk P w H h a (.dT kvs) from zCd ok e)
 refine⟨z,y,xs,r,o,es,ep,h1,h2,h3,h4,λx hx=>?_,h5⟩
 have all:∀{l:List (List Key×V)} {m:List (List Key×Addr×Value)},KT H l m->∀x∈m,(tupleKind (bW P w)).is h x.1 x.2.1:=by
  intro l m q
  induction q with
  |nil=>intro x hx;exact nomatch hx
  |@cons p q ps qs hq t ih=>
   intro x hx
   rcases List.mem_cons.mp hx with e|hx
   ·subst e
    exact oC ok (by rw[<-hq.1];exact hq.2.1)
   ·exact ih x hx
 exact all r x hx
theorem zKk{kvs:List (List Key×V)}(ok:HOk P w H h)(e:H a=some (.dT kvs)):kvs.length<=sizeLine/\(a==sysModules)=false /\
  ∃xs,KT H kvs xs/\h.DictOfH (tupleKind (bW P w)) a xs:=mD ok (.inl e)
end
def kO(H:Hp)(a:Addr)(y:V)(r:Option V):Prop:=
 (∃kvs k,Rd H a (.dK kvs)/\y=kV k/\r=dY kvs k)\/∃kvs k b,Rd H a (.dT kvs)/\y=.ref b/\H b=some (.tup (k.map kV))/\r=dY kvs k
def DPut(H:Hp)(a:Addr)(y v:V)(H':Hp):Prop:=
 (∃kvs k,H a=some (.dK kvs)/\y=kV k/\kvs.length<sizeLine/\H'=upd H a (.dK (cV kvs k v))) \/
 ∃kvs k b,H a=some (.dT kvs)/\y=.ref b/\H b=some (.tup (k.map kV))/\kvs.length<sizeLine/\H'=upd H a (.dT (cV kvs k v))
theorem DPut.k{H:Hp}{a:Addr}{kvs:List (Key×V)}{k:Key}{v:V}(e:H a=some (.dK kvs))(hl:kvs.length<sizeLine):DPut H a (kV k) v (upd H a (.dK (cV kvs k v))):=.inl ⟨kvs,k,e,rfl,hl,rfl⟩
section
variable{X:Cx}{pins:List (Addr×Obj)}{σ:St}{H:Hp}{s:Shared}{a:Addr}{y v:V}{u r:Value}{o:Option V}{A:Around}{E:Value->Shared->Prop}
theorem zE8{Q:Value->Shared->Prop}(hu:A.units+1<cLine)(I:Inv X pins σ H s)(g:kO H a y (some v))(ry:RelV y u)(h:∀w' s',Inv X pins σ H s'->RelV v w'->Q w' s'):
  wpAny (model X.prog X.w) A (getItem (.ref a) u) Q E s:=by
 rcases g with⟨kvs,k,e,ey,l⟩|⟨kvs,k,b,e,ey,eb,l⟩
 ·subst ey
  obtain⟨z,hd,vs,rel,dd⟩:=iZ I.hok e
  obtain⟨w',hw,rw'⟩:=RelO.some_of (v:=v) (o:=valueAt vs k) (by rw[l];exact rel.val k)
  exact wpAny_getItem_of (lZ ry) dd.mapOf hw (h w' _ (I.tok _) rw')
 ·subst ey
  cases (show u=Value.ref b from ry)
  obtain⟨z,hd,xs,rel,dd⟩:=mD I.hok e
  obtain⟨w',hw,rw'⟩:=RelO.some_of (v:=v) (o:=(atKey xs k).map (·.2)) (by rw[l];exact rel.val k)
  obtain⟨p,hp,hp2⟩:=Option.map_eq_some_iff.mp hw
  refine wpAny_getItem_heap (tupleKind_room_in1 hu) (oC I.hok eb) dd hp ?_
  rw[hp2]
  exact h w' _ (I.tok _) rw'
theorem zL0{Q:Value->Shared->Prop}(hu:A.units+1<cLine)(I:Inv X pins σ H s)(g:kO H a y o)(ry:RelV y u)(h:∀s',Inv X pins σ H s'->Q (.bool o.isSome) s'):
  wpAny (model X.prog X.w) A (compareOp .In u (.ref a)) Q E s:=by
 rcases g with⟨kvs,k,e,ey,l⟩|⟨kvs,k,b,e,ey,eb,l⟩
 ·subst ey
  obtain⟨z,hd,vs,rel,dd⟩:=iZ I.hok e
  refine wpAny_in_of (lZ ry) hd dd.mapOf ?_
  rw[<-(rel.val k).isSome_eq,<-l]
  exact h _ (I.tok _)
 ·subst ey
  cases (show u=Value.ref b from ry)
  obtain⟨z,hd,xs,rel,dd⟩:=mD I.hok e
  refine wpAny_in_heap (tupleKind_room_in1 hu) (oC I.hok eb) hd dd ?_
  have q:=(rel.val k).isSome_eq
  rw[Option.isSome_map]at q
  rw[<-q,<-l]
  exact h _ (I.tok _)
theorem zHz{Q:Value->Shared->Prop}(hu:A.units+1<cLine)(I:Inv X pins σ H s)(g:kO H a y o)(ry:RelV y u)(h:∀s',Inv X pins σ H s'->Q (.bool (!o.isSome)) s'):
  wpAny (model X.prog X.w) A (compareOp .NotIn u (.ref a)) Q E s:=by
 rcases g with⟨kvs,k,e,ey,l⟩|⟨kvs,k,b,e,ey,eb,l⟩
 ·subst ey
  obtain⟨z,hd,vs,rel,dd⟩:=iZ I.hok e
  refine wpAny_notIn_of (lZ ry) hd dd.mapOf ?_
  rw[<-(rel.val k).isSome_eq,<-l]
  exact h _ (I.tok _)
 ·subst ey
  cases (show u=Value.ref b from ry)
  obtain⟨z,hd,xs,rel,dd⟩:=mD I.hok e
  refine wpAny_notIn_heap (tupleKind_room_in1 hu) (oC I.hok eb) hd dd ?_
  have q:=(rel.val k).isSome_eq
  rw[Option.isSome_map]at q
  rw[<-q,<-l]
  exact h _ (I.tok _)
theorem qL{h':Heap}{t':Nat}{ob:HO}(I:Inv X pins σ H s)(mu:Mut (H a))(hs:Heap.SameBut a s.heap h')(he:∃q,h'.get? a=some q)(new:ObjOk X.prog X.w (upd H a ob) h' a ob):
  Inv X pins σ (upd H a ob) {s with heap:=h',toks:=t'}:=
 I.write (x:=a) (e:=a) mu (.inl rfl) (λb q hb z=>(hs.2 b hb).trans z) he new
theorem wF{P:Program}{w:World}{H':Hp}{h':Heap}{kvs:List (Key×V)}{vs:List (Key×Value)}(z:kvs.length<=sizeLine)(hd:(a==sysModules)=false)(rel:KV kvs vs)(dd:h'.DictOf (bW P w) a vs):
  ObjOk P w H' h' a (.dK kvs):=⟨z,hd,vs,rel,dd⟩
theorem zE7{H':Hp}{Q:Unit->Shared->Prop}(hu:A.units+1<cLine)(I:Inv X pins σ H s)(g:DPut H a y v H')(ry:RelV y u)(rv:RelV v r)(h:∀s',Inv X pins σ H' s'->Q () s'):
  wpAny (model X.prog X.w) A (setItem (.ref a) u r) Q E s:=by
 rcases g with⟨kvs,k,e,ey,l,eH⟩|⟨kvs,k,b,e,ey,eb,l,eH⟩
 ·subst ey eH
  obtain⟨z,hd,vs,rel,dd⟩:=wS I.hok e
  have hz:vs.length<=sizeLine:=by rw[<-rel.length];exact z
  have hl:(cV kvs k v).length<=sizeLine:=by have:=tO kvs k v;omega
  refine wpAny_setItem_pairs (hsz:=hz) (lZ ry) dd λh' dd' hs=>h _ ?_
  have he:∃q,h'.get? a=some q:=let ⟨q,_,_,hq,_⟩:=dd';⟨q,hq⟩
  exact qL I (by rw[e];exact True.intro) hs he (wF hl hd (rel.put k rv) dd')
 ·subst ey eH
  cases (show u=Value.ref b from ry)
  obtain⟨z,hd,xs,rel,dd⟩:=zKk I.hok e
  have hz:xs.length<=sizeLine:=by rw[<-Paired.length rel];exact z
  have hl:(cV kvs k v).length<=sizeLine:=by have:=tO kvs k v;omega
  refine wpAny_setItem_heap (hsz:=hz) (tupleKind_room_in1 hu) (oC I.hok eb) dd λh' dd' hs=>h _ ?_
  obtain⟨q,es,ep,hq,h2,h3,h4,_,h5⟩:=dd'
  refine qL I (by rw[e];exact True.intro) hs ⟨q,hq⟩ ⟨hl,hd,_,(rel.put k eb rv).keeps λc ys ec=>?_,q,es,ep,hq,h2,h3,h4,h5⟩
  rw[bF (zJ9 ec e (λz=>nomatch z))]
  exact ec
end
section
variable{X:Cx}{pins:List (Addr×Obj)}{σ:St}{H:Hp}{s:Shared}{a:Addr}{kvs:List (Key×V)}{k:Key}{u:Value}{A:Around}{E:Value->Shared->Prop}
theorem zKl{Q:Value->Shared->Prop}(I:Inv X pins σ H s)(e:Rd H a (.dK kvs))(h:∀t s',Inv X pins σ H s'->Q (.int kvs.length t) s'):wpAny (model X.prog X.w) A (call (.builtin "len") [.ref a]) Q E s:=by
 obtain⟨z,hd,vs,rel,dd⟩:=iZ I.hok e
 refine call_len_dict hd dd (by rw[<-rel.length];rw[sizeLine_eq]at z;omega) ?_
 rw[<-rel.length]
 exact h _ _ (I.tok _)
end
theorem zDC{X:Cx}{pins:List (Addr×Obj)}{σ:St}{H:Hp}{s:Shared}{a:Addr}{y:V}{o:Option V}(I:Inv X pins σ H s)(g:kO H a y o):s.TypeIs (.ref a) "dict":=by
 rcases g with⟨kvs,k,e,_,_⟩|⟨kvs,k,b,e,_,_,_⟩
 ·obtain⟨_,_,vs,_,dd⟩:=iZ I.hok e
  exact dd.typeIs
 ·obtain⟨_,_,xs,_,dd⟩:=mD I.hok e
  exact dd.typeIs
def zJN(td ty tv:TE):TS:=λD σ H=>tv σ H λv H1=>td σ H1 λx H2=>ty σ H2 λy H3=>∃a H4,x=.ref a/\DPut H3 a y v H4/\D.nx σ H4
section
variable{X:Cx}{o i e value:Expr}{pos pos' tpos:Pos}{td ty tv:TE}
theorem zGW(hu:X.A.units+1<cLine)(ho:PE X o td)(hi:PE X i ty)(hv:PE X value tv)(hs:swapsWith value (some (.Subscript o i pos')) pos.line X.env=pure false):
  PS X (.Assign [.Subscript o i pos'] value pos) (zJN td ty tv):=by
 intro pins s σ H D I h
 refine wpAny_Assign_Subscript (thn (hv pins s σ H _ I h) λr s1 ⟨v,H1,I1,rv,q1⟩=>thn (ho pins s1 σ H1 _ I1 q1) λu s2 ⟨x,H2,I2,rx,q2⟩=>thn (hi pins s2 σ H2 _ I2 q2) λiv s3 ⟨y,H3,I3,ry,a,H4,ex,g,q3⟩=>?_) hs
 subst ex
 obtain rfl:u=Value.ref a:=rx
 exact zE7 hu I3 g ry rv λs4 I4=>⟨σ,H4,I4,q3⟩
end
def qO:List (TE×TE)->St->Hp->(List (V×V)->Hp->Prop)->Prop
 |[],_,H,Q=>Q [] H
 |(tk,tv)::r,σ,H,Q=>tk σ H λx H1=>tv σ H1 λy H2=>qO r σ H2 λps H3=>Q ((x,y)::ps) H3
abbrev VV:List (V×V)->List (Value×Value)->Prop:=Paired λp q=>RelV p.1 q.1/\RelV p.2 q.2
def PPs(X:Cx)(pos:Pos)(keys:List (Option Expr))(values:List Expr)(trs:List (TE×TE)):Prop:=
 ∀(pins:List (Addr×Obj)) (s:Shared) (σ:St) (H:Hp) (Q:List (V×V)->Hp->Prop),Inv X pins σ H s->qO trs σ H Q ->
  wpAny (model X.prog X.w) X.A (evalPairs (pairTrees keys values X.env pos)) (λvs s'=>∃ps H',Inv X pins σ H' s'/\VV ps vs/\Q ps H') X.xe s
theorem zGX{X:Cx}{pos:Pos}:PPs X pos [] [] []:=λpins s σ H Q I h=>pairTrees_nil_walk ⟨[],H,I,.nil,h⟩
theorem zFO{X:Cx}{pos:Pos}{k v:Expr}{ks:List (Option Expr)}{vs:List Expr}{tk tv:TE}{trs:List (TE×TE)}(hk:PE X k tk)(hv:PE X v tv)(hr:PPs X pos ks vs trs):
  PPs X pos (some k::ks) (v::vs) ((tk,tv)::trs):=λpins s σ H Q I h=>
 pairTrees_cons_walk (thn (hk pins s σ H _ I h) λu s1 ⟨x,H1,I1,rx,q1⟩=>thn (hv pins s1 σ H1 _ I1 q1) λw2 s2 ⟨y,H2,I2,ry,q2⟩=>
  thn (hr pins s2 σ H2 _ I2 q2) λws s3 ⟨ps,H3,I3,rel,q3⟩=>⟨(x,y)::ps,H3,I3,.cons ⟨rx,ry⟩ rel,q3⟩)
def eR(kvs more:List (Key×V)):List (Key×V):=more.foldl (λacc kv=>cV acc kv.1 kv.2) kvs
theorem KV.merge:∀{more:List (Key×V)}{rs:List (Key×Value)}{kvs:List (Key×V)}{vs:List (Key×Value)},KV more rs->KV kvs vs->KV (eR kvs more) (merged vs rs):=by
 intro more rs kvs vs r
 unfold KV at r
 induction r generalizing kvs vs with
 |nil=>intro q;exact q
 |@cons p q ps qs h t ih=>
  intro r0
  have e:KV (cV kvs p.1 p.2) (stored vs q.1 q.2):=by
   have:=r0.put p.1 h.2
   rw[<-h.1];exact this
  exact ih e
theorem xY:∀(more kvs:List (Key×V)),(eR kvs more).length<=kvs.length+more.length
 |[],kvs=>by show kvs.length<=kvs.length+0;omega
 |p::r,kvs=>by
  have h1:=xY r (cV kvs p.1 p.2)
  have h2:=tO kvs p.1 p.2
  show(eR (cV kvs p.1 p.2) r).length<=_
  rw[List.length_cons];omega
theorem yZ{P:Program}{w:World}:∀{kvs:List (Key×V)}{ws:List (Value×Value)},VV (kvs.map λkv=>(kV kv.1,kv.2)) ws->∃rs,Carries (bW P w) ws rs/\KV kvs rs
 |[],_,r=>by rw[List.map_nil]at r;cases r;exact⟨[],True.intro,.nil⟩
 |p::kvs,_,r=>by
  rw[List.map_cons]at r
  cases r with
  |@cons a b as bs h t=>
   obtain⟨rs,c,q⟩:=yZ (P:=P) (w:=w) t
   obtain⟨b1,b2⟩:=b
   exact⟨(p.1,b2)::rs,⟨lZ h.1,rfl,c⟩,.cons ⟨rfl,h.2⟩ q⟩
def zJH(trs:List (TE×TE)):TE:=λσ H Q=>∀p,H p=none->qO trs σ (upd H p (.dK [])) λps H2=>H2 p=some (.dK [])/\∃kvs:List (Key×V),ps=kvs.map (λkv=>(kV kv.1,kv.2))/\kvs.length<=15/\Q (.ref p) (upd H2 p (.dK (eR [] kvs)))
theorem zG5{X:Cx}{pos:Pos}{keys:List (Option Expr)}{values:List Expr}{trs:List (TE×TE)}(h:PPs X pos keys values trs)(hall:keys.all (·.isSome)=true)(hl:keys.length=values.length)(h0:keys≠[])
  (h15:keys.length<=15):PE X (.Dict keys values pos) (zJH trs):=by
 intro pins s σ H Q I q
 have hn:=I.hok.fresh (Nat.le_refl s.heap.objs.size)
 have I1:=I.laid (a:=s.heap.objs.size) (o:=.dK []) (h':=s.heap.push {cls:=.type "dict",data:=.dict #[]}) (t':=s.toks) (λ_ _ q=>Heap.get?_push_of_some _ q) (Nat.le_refl _) (zAC s.heap I.big)
 refine wpAny_Dict_walk (knd:=bW X.prog X.w) hall hl h0 h15 (thn (h pins _ σ _ _ I1 (q _ hn)) λws s2 ⟨ps,H2,I2,rel,e,kvs,ep,lk,q2⟩=>?_)
 subst ep
 obtain⟨rs,c,rk⟩:=yZ (P:=X.prog) (w:=X.w) rel
 obtain⟨z,hd,vs0,r0,dd⟩:=wS I2.hok e
 cases r0
 refine⟨rs,c,dd,λh' dd' hs=>⟨.ref s.heap.objs.size,_,?_,rfl,q2⟩⟩
 have hz:(eR [] kvs).length<=sizeLine:=by
  have h1:=xY kvs []
  rw[List.length_nil]at h1
  rw[sizeLine_eq];omega
 have he:∃q,h'.get? s.heap.objs.size=some q:=let ⟨q,_,_,hq,_⟩:=dd';⟨q,hq⟩
 exact qL I2 (by rw[e];exact True.intro) hs he (wF hz hd (rk.merge .nil) dd')
structure M1 (X:Cx) (o:Expr) (m:Str) (apos:Pos) (e:Expr) (cpos:Pos):Prop where
 base:attributeBase o m X.env (eval o X.env)=eval o X.env
 few:((backTo cpos (starEach [e] X.env)).all (λx=>!x.1)&&(backToKw cpos (keywordEach [] X.env)).all (λx=>x.1.isSome)
  && decide (([e]:List Expr).length+([]:List Keyword).length+(if ([]:List Keyword).isEmpty then 0 else 1)<30))=true
 line:(apos.endLine==cpos.line)=true
 trees:backTo cpos (starEach [e] X.env)=[(false,eval e X.env)]
def IsD(H:Hp)(a:Addr):Prop:=(∃kvs,Rd H a (.dK kvs))\/∃kvs,Rd H a (.dT kvs)
theorem zJb{X:Cx}{pins:List (Addr×Obj)}{σ:St}{H:Hp}{s:Shared}{a:Addr}(I:Inv X pins σ H s)(d:IsD H a):
  s.TypeIs (.ref a) "dict"/\(∀b,Value.ref a=.ref b->∃ob,s.heap.get? b=some ob/\ob.dict=none)/\(a==sysModules)=false:=by
 rcases d with⟨kvs,e⟩|⟨kvs,e⟩
 ·obtain⟨_,hd,vs,_,dd⟩:=iZ I.hok e
  refine⟨dd.typeIs,λb q=>?_,hd⟩
  cases q
  obtain⟨ob,_,_,h1,h2,_⟩:=dd
  exact⟨ob,h1,h2.2.1⟩
 ·obtain⟨_,hd,xs,_,dd⟩:=mD I.hok e
  refine⟨dd.typeIs,λb q=>?_,hd⟩
  cases q
  obtain⟨ob,_,_,h1,h2,_⟩:=dd
  exact⟨ob,h1,h2.2.1⟩
section
variable{κ:Type}[DecidableEq κ]
theorem zGv{kvs:List (κ×V)}{k:κ}{v:V}(h:dY kvs k=some v):k∈kvs.map (·.1):=by
 have q:(kvs.any λkv=>decide (kv.1=k))=true:=by
  rw[pU,h]
  all_goals rfl
 obtain⟨p,hp,e⟩:=List.any_eq_true.mp q
 exact List.mem_map.mpr ⟨p,hp,of_decide_eq_true e⟩
end
end L2
namespace L2
open PySem PySem.Spec PyProof.Rows
def FzD(H:Hp)(a:Addr)(ob:Obj)(kvs:List (Key×V)):Prop:=H a=some (.frz ob (.dK kvs))
theorem jV{kvs:List (Key×V)}{vs:List (Key×Value)}(r:KV kvs vs):kvs.length=vs.length:=Paired.length r
theorem zB0:∀{kvs:List (Key×V)}{vs:List (Key×Value)}{i:Nat}{k:Key}{v:V},KV kvs vs->kvs[i]?=some (k,v)->∃u,vs[i]?=some (k,u)/\RelV v u
 |_,_,0,_,_,.cons (b:=b) r _,h=>by
  cases h
  obtain⟨e,r⟩:=r
  exact⟨b.2,by show some b=_;rw[show b=(b.1,b.2) from rfl,<-e],r⟩
 |_,_,i+1,_,_,.cons _ rs,h=>zB0 (i:=i) rs (by simpa using h)
theorem zHp{k:Key}{u:Value}(h:iY k u=true):RelV (kV k) u:=by
 rcases fS h with⟨i,t,rfl,rfl⟩|⟨x,t,rfl,rfl⟩
 ·exact⟨t,rfl⟩
 ·exact⟨t,rfl⟩
section
variable{X:Cx}{pins:List (Addr×Obj)}{σ:St}{H:Hp}{s:Shared}{a:Addr}{ob:Obj}{kvs:List (Key×V)}
theorem jR(I:Inv X pins σ H s)(h:FzD H a ob kvs):s.heap.get? a=some ob/\(a==sysModules)=false/\kvs.length<=sizeLine/\∃vs es ep,KV kvs vs/\s.heap.DictAt (bW X.prog X.w) a vs ep/\ob.data=.dict es ep:=by
 obtain⟨e,hl,hs,vs,r,o,es,ep,e',x1,x2,x3⟩:=(show ObjOk X.prog X.w H s.heap a (.frz ob (.dK kvs)) from I.hok a _ h)
 rw[e]at e'
 cases e'
 exact⟨e,hs,hl,vs,es,ep,r,⟨ob,es,e,x1,x2,x3⟩,x2⟩
end
def ItD(a:Addr)(ob:Obj)(kvs:List (Key×V)):It:=
 ⟨λi H=>FzD H a ob kvs/\i<kvs.length,λi H x H'=>H'=H/\∃k v,kvs[i]?=some (k,v)/\x=kV k,λi H=>FzD H a ob kvs/\kvs.length<=i⟩
theorem zEs{P:Program}{w:World}{K:W.Frag}{tg:Expr}{a it:Addr}{ob:Obj}{kvs:List (Key×V)}{es:Array DictEntry}{ep:Nat}(hep:ob.data=.dict es ep):
  gY P w K tg (ItD a ob kvs) [it] it (λi h=>h.IsKeyIter it a i kvs.length ep) where
 mem:=by simp
 obj:=λi h st b hb=>by
  have e:b=it:=by simpa using hb
  subst e
  obtain⟨o,e,c,d⟩:=st
  exact⟨o,e,λv z=>by rw[d]at z;cases z⟩
 keep:=λi h h' st k=>st.at λo e=>k it (by simp) o e
 item:=by
  intro X hP hw hK hc i pins s σ H E I hf st hg
  subst hP hw hK
  obtain⟨hz,hi⟩:=hg
  obtain⟨e,hs,hl,vs,es',ep',r,dd,hd'⟩:=jR I hz
  rw[hep]at hd'
  cases hd'
  obtain⟨f0,f1,f2,f3,f4,f5⟩:=hf it (by simp)
  obtain⟨⟨k,v⟩,hx⟩:∃p,kvs[i]?=some p:=⟨kvs[i],by simp[hi]⟩
  obtain⟨u,hu,ru⟩:=zB0 r hx
  have st':s.heap.IsKeyIter it a i vs.length ep:=by rw[<-jV r];exact st
  refine wpAny_pyNext_dict_item st' dd hu λkey h' hkey hit' sb=>?_
  have I1:Inv X pins σ H {s with heap:=h'}:=I.turned (t':=s.toks) (λb o hb e=>(sb.2 b hb).trans e) f0 f1 f3 f4 f5
  obtain⟨o,e,c,d⟩:=id hit'
  exact⟨key,rfl,mC (s:={s with heap:=h'}) e c d (by decide) ⟨kV k,H,I1,zHp hkey,⟨rfl,k,v,hx,rfl⟩,by rw[jV r];exact hit',λb hb=>(hf b hb).1⟩⟩
 done:=by
  intro X hP hw hK hc i pins s σ H E I hf st hg
  subst hP hw hK
  obtain⟨hz,hi⟩:=hg
  obtain⟨e,hs,hl,vs,es',ep',r,dd,hd'⟩:=jR I hz
  rw[hep]at hd'
  cases hd'
  obtain⟨f0,f1,f2,f3,f4,f5⟩:=hf it (by simp)
  have st':s.heap.IsKeyIter it a i vs.length ep:=by rw[<-jV r];exact st
  have hn:vs[i]?=none:=List.getElem?_eq_none (by rw[<-jV r];exact hi)
  exact wpAny_pyNext_dict_end (I.ok.hd hc) st' dd hn λh' eb=>⟨rfl,I.turned (t':=s.toks) (λb o hb e=>eb b o hb e) f0 f1 f3 f4 f5⟩
 self:=λ_ _ _ _ _ st h=>wpAny_pyIter_keyiter st h
end L2
namespace L2
open PySem PySem.Spec PyProof.Rows
theorem yB{prog:Program}{w:World}:∀{kvs:List (Key×Value)}{us:List Str}{acc:Array Value},kvs.map (·.1)=us.map Sum.inr ->
  ItemsOf (λi v=>∃k x,kvs[i]?=some (k,x)/\(bW prog w).is k v=true) acc kvs.length->StrsAre acc.toList us:=by
 intro kvs us acc hk h
 obtain⟨hn,hp⟩:=h
 have key:∀(us:List Str) (l:List Value) (kvs:List (Key×Value)),kvs.map (·.1)=us.map Sum.inr->l.length=kvs.length->(∀(j:Nat) (v:Value),l[j]?=some v->∃k x,kvs[j]?=some (k,x)/\(bW prog w).is k v=true)->StrsAre l us:=by
  intro us
  induction us with
  |nil=>
   intro l kvs hk hl _
   have:kvs=[]:=by simpa using hk
   subst this
   have:l=[]:=List.eq_nil_of_length_eq_zero hl
   subst this
   exact .nil
  |cons y ys ih=>
   intro l kvs hk hl hp
   cases kvs with
   |nil=>simp at hk
   |cons p kvs=>
    cases l with
    |nil=>simp at hl
    |cons v l=>
     simp only[List.map_cons,List.cons.injEq]at hk
     obtain⟨k,x,e,q⟩:=hp 0 v rfl
     have e:p=(k,x):=by simpa using e
     subst e
     have hk1:k=Sum.inr y:=hk.1
     subst hk1
     rcases fS (show iY (Sum.inr y) v=true from q) with⟨i,t,z,_⟩|⟨z,t,e1,rfl⟩
     ·cases z
     ·cases e1
      exact .cons _ _ (ih l kvs hk.2 (by simpa using hl) λj v hj=>hp (j+1) v hj)
 refine key us acc.toList kvs hk (by simpa using hn) λj v hj=>hp j v (by simpa using hj)
section
variable{prog:Program}{w:World}{A:Around}{E:Value->Shared->Prop}{s:Shared}{a:Addr}{us:List Str}
theorem zH1:isSubtype (.type "dict") (.type "dict")=pure true:=by rw[isSubtype_type];kernel_rfl
theorem zFk{Q:Bool->Shared->Prop}(ht:s.TypeIs (.ref a) "dict")(h:Q false s):wpAny (model prog w) A (Builtin.List.listLengthHint (.ref a)) Q E s:=by
 unfold Builtin.List.listLengthHint
 refine wpAny_bind (wpAny_specialOf ht PySem.F.slot_dict_len.lookup ?_)
 have e1:splitId "dict.__len__"=some ("dict","__len__"):=by decide +kernel
 dsimp only
 rw[e1]
 dsimp only
 refine wpAny_bind (wpAny_isInstance ht zH1 ?_)
 simp only[Bool.not_true,Bool.false_eq_true,if_false]
 refine wpAny_ite ?_
 rw[if_pos (by decide +kernel)]
 refine wpAny_bind (wpAny_typeOf ht ?_)
 exact wpAny_pure h
theorem zC3{kvs:List (Key×Value)}{ep:Nat}{Q:List Value->Shared->Prop}(hh:A.handled=none)(hsm:(a==sysModules)=false)(S:s.heap.DictAt (bW prog w) a kvs ep)(hks:kvs.map (·.1)=us.map Sum.inr)(hl:us.length<=sizeLine)
  (hQ:∀h' d tk (acc:List Value) vs,StrsAre acc vs->vs.Perm us->s.heap.objs.size<h'.objs.size->(∀b o,s.heap.get? b=some o->h'.get? b=some o)->Q acc {s with heap:=h',drawn:=d,toks:=tk}):
  wpAny (model prog w) A (collect (.ref a)) Q E s:=by
 have alt:a<s.heap.objs.size:=S.lt_size
 have hkl:kvs.length=us.length:=by have:=congrArg List.length hks;simpa using this
 unfold collect
 refine wpAny_bind (wpAny_runValue (codeAny_builtin F.entry_proto_collect ?_))
 rw[Around.under_plainId F.plain_proto_collect _]
 show wpAny _ A.in1 (newList [] >>= λl=>again (.builtin "list.__iadd__" ⟨[l,.ref a],[]⟩)) _ _ s
 refine wpAny_bind (wpAny_newObj_type ?_ (by size_fits))
 refine wpAny_pure ⟨plainId_quiet F.plain_list_iadd _,codeAny_builtin F.entry_list_iadd ?_⟩
 rw[Around.under_plainId F.plain_list_iadd _]
 show wpAny _ A.in1 (Builtin.List.listExtendWith (.ref s.heap.objs.size) (.ref a) (.ref s.heap.objs.size)) _ _ _
 unfold Builtin.List.listExtendWith
 have S1:=S.push {cls:=.type "list",data:=.seq ([]:List Value).toArray}
 have ht:Shared.TypeIs {s with heap:=s.heap.push {cls:=.type "list",data:=.seq ([]:List Value).toArray}} (.ref a) "dict":=S1.dictOf.typeIs
 refine wpAny_bind (wpAny_typeOf ht ?_)
 have h1:Builtin.List.listSameRef (.ref s.heap.objs.size) (.ref a)=false:=by simp[Builtin.List.listSameRef];exact Nat.ne_of_gt alt
 have h2:(Value.type "dict"==Value.type "list")=false:=by decide
 have h3:(Value.type "dict"==Value.type "tuple")=false:=by decide
 simp only[h1,h2,h3,Bool.or_false,Bool.false_eq_true,if_false]
 refine wpAny_bind (wpAny_pyIter_dict hsm S1 ?_)
 generalize hh':((s.heap.push {cls:=.type "list",data:=.seq ([]:List Value).toArray}).push {cls:=.type "dict_keyiterator",data:=.fields #[.ref a,.int 0 0,.int kvs.length 0,.int ep 0]})=h'
 have sz1:(s.heap.push {cls:=.type "list",data:=.seq ([]:List Value).toArray}).objs.size=s.heap.objs.size+1:=Heap.size_push ..
 have kp:∀b o,(s.heap.push {cls:=.type "list",data:=.seq ([]:List Value).toArray}).get? b=some o->h'.get? b=some o:=λb o e=>by rw[<-hh'];exact Heap.get?_push_of_some _ e
 have ht':Shared.TypeIs {s with heap:=h'} (.ref a) "dict":=by
  obtain⟨o,e,c⟩:=ht
  exact⟨o,kp _ _ e,c⟩
 have st0:h'.IsKeyIter (s.heap.objs.size+1) a 0 kvs.length ep/\h'.DictAt (bW prog w) a kvs ep:=by
  refine⟨⟨{cls:=.type "dict_keyiterator",data:=.fields #[.ref a,.int 0 0,.int kvs.length 0,.int ep 0]},?_,rfl,rfl⟩,S1.keep kp⟩
  rw[<-hh',<-sz1]
  exact Heap.get?_push_size _ rfl
 rw[sz1]
 refine wpAny_bind (wpAny_holding (zFk ht' ?_))
 have hA:A.in1.handled=none:=by simp[hh]
 have W:=(Walks.dictKeys (prog:=prog) (w:=w) (A:=A.in1) (knd:=bW prog w) hA (s.heap.objs.size+1) a (λz=>absurd alt (by rw[z];exact Nat.not_lt.mpr (Nat.le_succ _))) kvs ep).toS
 refine wpAny_ite ?_
 rw[if_pos (by decide +kernel)]
 refine wpAny_bind (wpAny_rule ?_)
 have g0:h'.get? s.heap.objs.size=some {cls:=.type "list",data:=.seq ([]:List Value).toArray}:=kp _ _ (Heap.get?_push_size _ rfl)
 have nf:s.heap.objs.size∉[s.heap.objs.size+1,a]:=λm=>by
  simp only[List.mem_cons,List.not_mem_nil,or_false]at m
  rcases m with z|z
  ·omega
  ·rw[<-z]at alt;exact Nat.lt_irrefl _ alt
 refine wpAny_bind ?_
 show wpAny _ A.in1 (updateSeq s.heap.objs.size (·.push .none) >>= λ_=>updateSeq s.heap.objs.size (·.pop)) _ _ _
 refine wpAny_bind (wpAny_updateSeq g0 rfl ?_)
 have g1:=Heap.get?_update_self (Obj.mapSeq (·.push Value.none)) g0 rfl
 refine wpAny_updateSeq g1 rfl ?_
 have g2:=Heap.get?_update_self (Obj.mapSeq (·.pop)) g1 rfl
 have oth:∀b o,b≠s.heap.objs.size->h'.get? b=some o->((h'.update s.heap.objs.size (Obj.mapSeq (·.push Value.none))).update s.heap.objs.size (Obj.mapSeq (·.pop))).get? b=some o:=
  λb o hb e=>(Heap.get?_update_other _ _ (Ne.symm hb)).trans ((Heap.get?_update_other _ _ (Ne.symm hb)).trans e)
 refine wpAny_pure ⟨plainId_quiet F.plain_extend_loop _,codeAny_extend_loopS W (by rw[hkl];exact hl) _ nf _ kvs.length 0 _ _ _ rfl (Nat.zero_le _)
  (W.frame 0 {s with heap:=h'} _ s.toks st0 (Nat.le_refl _) λb hb o e=>oth b o (λz=>nf (z▸hb)) e) g2 (ItemsOf.nil _) λs' acc' c' hm g' hacc=>?_⟩
 show wpAny _ A (load s.heap.objs.size >>= _) _ _ s'
 refine wpAny_bind (wpAny_load g' ?_)
 have hs:=yB hks hacc
 obtain⟨h'',g'',d'',tk'',os''⟩:=s'
 have e1:g''=s.gens:=hm.gens
 have e2:os''=s.os:=hm.os
 subst e1 e2
 refine wpAny_pure (hQ h'' d'' tk'' acc'.toList us hs (List.Perm.refl _) (Heap.lt_size g') λb o e=>hm.heap b o (λm=>?_) (oth b o (Nat.ne_of_lt (Heap.lt_size e)) (kp b o (Heap.get?_push_of_some _ e))))
 have lt:=Heap.lt_size e
 simp only[List.mem_cons,List.not_mem_nil,or_false]at m
 rcases m with m|m
 ·rw[m]at lt;exact Nat.lt_irrefl _ lt
 ·rw[m]at lt;exact absurd lt (Nat.not_lt.mpr (Nat.le_succ _))
theorem zC6{kvs:List (Key×Value)}{ep:Nat}{Q:Value->Shared->Prop}(hh:A.handled=none)(hsm:(a==sysModules)=false)(S:s.heap.DictAt (bW prog w) a kvs ep)(hks:kvs.map (·.1)=us.map Sum.inr)(h64:us.length<64)
  (h:∀h' d tk (l:Addr) (out:List Value) (ss:List Str) (e:Nat),StrsAre out ss->ss.Perm us->sortedS ss=true->h'.get? l=some (seqObj "list" out.toArray e)->s.heap.objs.size<=l->(∀b o,s.heap.get? b=some o->h'.get? b=some o) ->
   Q (.ref l) {s with heap:=h',drawn:=d,toks:=tk}):wpAny (model prog w) A (call (.builtin "sorted") [.ref a]) Q E s:=by
 refine Calls.call_function_entry kind_sorted plain_sorted entry_sorted (args_sorted1 _) ?_
 unfold Builtin.«sorted»
 refine wpAny_bind (m:=checkCount "sorted" 1 1 _) (wpAny_pure ?_)
 refine wpAny_bind (zC3 (by simp[hh]) hsm S hks (Nat.le_of_lt (Nat.lt_trans h64 (by decide))) λh1 d tk acc vs hs hp le kp=>?_)
 have hlen:acc.length<64:=by rw[jI hs,hp.length_eq];exact h64
 refine wpAny_bind (wpAny_newList ?_ (Nat.le_of_lt (Nat.lt_trans hlen (by decide))))
 have hoL:(h1.push (seqObj "list" acc.toArray 0)).get? h1.objs.size=some (seqObj "list" acc.toArray 0):=Heap.get?_push_size _ rfl
 refine wpAny_bind (wpAny_holding (wpAny_call_entry slot_list_sort ⟨_,hoL,rfl⟩ entry_list_sort (list_sort_treeK strKind_oneLt hoL hs.keysOf (λv₁ v₂ rest e=>keyKind_strs (by rw[<-e];exact hs)) hlen λst' a1 a2=>⟨_,rfl,?_⟩) (args_list_sort _)))
 obtain⟨ss',b1,b2,b3⟩:=sorted_out_str hs a1 a2
 obtain⟨e,he⟩:=sortedHeap_at (out:=(arrOf st').map (·.2)) hoL
 refine wpAny_pure ⟨_,rfl,h _ _ _ _ ((arrOf st').map (·.2)).toList ss' e b1 (b2.trans hp) b3 (by rw[Array.toArray_toList];exact he) (Nat.le_of_lt le) λb o q=>?_⟩
 have lt:=Heap.lt_size (kp b o q)
 rw[sortedHeap_old (Nat.ne_of_lt lt) (by rw[Heap.size_push];exact Nat.lt_succ_of_lt lt)]
 exact Heap.get?_push_of_some _ (kp b o q)
end
section
variable{X:Cx}
def zIc:List V->Hp->VK->Prop:=λxs H Q=>∃(a:Addr) (ob:Obj) (kvs:List (Key×V)) (us:List Str),xs=[.ref a]/\FzD H a ob kvs/\kvs.map (·.1)=us.map Sum.inr/\us.length<64 /\
  ∀(ss:List Str) (l:Addr),ss.Perm us->sortedS ss=true->H l=none->Q (.ref l) (upd H l (.lst (ss.map V.str)))
theorem vN:∀{kvs:List (Key×V)}{vs:List (Key×Value)},KV kvs vs->kvs.map (·.1)=vs.map (·.1)
 |[],_,.nil=>rfl
 |_::_,_,.cons r rs=>by rw[List.map_cons,List.map_cons,r.1,vN rs]
theorem zDl(hc:X.calm=true):CallR X (.builtin "sorted") zIc:=by
 intro pins s σ H xs us Q I r h
 obtain⟨a,ob,kvs,uu,rfl,hz,hk,h64,q⟩:=h
 obtain⟨u,rfl,rx⟩:=cJ r
 cases rx
 obtain⟨e,hs,hl,vs,es,ep,rr,dd,hd⟩:=jR I hz
 refine zC6 (I.ok.hd hc) hs dd (by rw[<-vN rr];exact hk) h64 λh' d tk l out ss e hs hp hso hl le k=>?_
 refine⟨.ref l,_,(I.laid (t':=tk) (o:=.lst (ss.map V.str)) k le ?_).draw d,rfl,q ss l hp hso (I.hok.fresh le)⟩
 refine⟨?_,out,e,pE hs,hl⟩
 rw[List.length_map,hp.length_eq]
 exact Nat.le_of_lt (Nat.lt_trans h64 (by decide))
end
end L2
namespace L2
open PySem PySem.Spec PyProof.Rows
theorem zAL:∀{xs:List V}{us:List Value},xs.length=us.length->(∀(i:Nat) (x:V) (u:Value),xs[i]?=some x->us[i]?=some u->RelV x u)->Vals xs us
 |[],[],_,_=>.nil
 |[],_::_,h,_=>by simp at h
 |_::_,[],h,_=>by simp at h
 |x::xs,u::us,h,f=>.cons (f 0 x u rfl rfl) (zAL (by simpa using h) λi x' u' a b=>f (i+1) x' u' (by simpa using a) (by simpa using b))
theorem zDI{xs:List V}{acc:Array Value}{P:Nat->Value->Prop}(h:ItemsOf P acc xs.length)(f:∀(i:Nat) (x:V) (u:Value),xs[i]?=some x->P i u->RelV x u):Vals xs acc.toList:=
 zAL (by rw[Array.length_toList];exact h.1.symm) λi x u a b=>f i x u a (h.2 i u (by rw[<-Array.getElem?_toList];exact b))
section
variable{X:Cx}
def zIe:List V->Hp->VK->Prop:=λxs H Q=>∃j:Int,xs=[.int j]/\∀p,H p=none->Q (.ref p) (upd H p (.rng 0 j))
theorem zDF:CallR X (.type "range") zIe:=by
 intro pins s σ H xs us Q I r h
 obtain⟨j,rfl,q⟩:=h
 obtain⟨u,rfl,rx⟩:=cJ r
 obtain⟨t,rfl⟩:=rx
 exact call_range_1 ⟨.ref _,_,I.laid (t':=s.toks+1+1) (o:=.rng 0 j) (λb o e=>Heap.get?_push_of_some _ e) (Nat.le_refl _) ⟨_,_,_,Heap.get?_push_size _ rfl⟩,rfl,q _ I.fresh⟩
def zIh:List V->Hp->VK->Prop:=λxs H Q=>∃(p:Addr) (n:Nat),xs=[.ref p]/\H p=some (.rng 0 n)/\n<=sizeLine/\∀l,H l=none->Q (.ref l) (upd H l (.lst ((List.range n).map λ(i:Nat)=>V.int i)))
theorem zEb(hc:X.calm=true):CallR X (.type "list") zIh:=by
 intro pins s σ H xs us Q I r h
 obtain⟨p,n,rfl,hp,hn,q⟩:=h
 obtain⟨u,rfl,rx⟩:=cJ r
 cases rx
 obtain⟨t,u,v,e⟩:=(show ObjOk X.prog X.w H s.heap p (.rng 0 n) from I.hok p _ hp)
 have hz:n<=2 ^ 24:=by rw[sizeLine_eq]at hn;exact hn
 refine call_list_range (I.ok.hd hc) e (small_one (by decide) (by decide) (by omega) (by omega)) (n:=n) (by rw[rangeSize_one];split<;>omega) hz λh' tk acc c k hl ha=>?_
 refine⟨.ref _,_,I.laid (t':=tk) (o:=.lst ((List.range n).map λ(i:Nat)=>V.int i)) k (Nat.le_refl _) ⟨by simpa using hn,acc.toList,c,zDI (P:=λi v=>∃t,v=.int (0+i*1) t) (by simpa using ha) ?_,by simpa using hl⟩,rfl,q _ I.fresh⟩
 intro i x u hx hu
 rw[List.getElem?_map]at hx
 obtain⟨k,hk,rfl⟩:=Option.map_eq_some_iff.mp hx
 have hk:i=k:=by
  have:=(List.getElem?_eq_some_iff.mp hk)
  obtain⟨h1,h2⟩:=this
  simpa using h2
 subst hk
 obtain⟨t,rfl⟩:=hu
 exact⟨t,by simp⟩
def zJS:List V->Hp->VK->Prop:=λxs H Q=>∃(a:Addr) (kvs:List (Key×V)),xs=[.ref a]/\Rd H a (.dK kvs)/\Q (.int kvs.length) H
theorem zEd:CallR X (.builtin "len") zJS:=by
 intro pins s σ H xs us Q I r h
 obtain⟨a,kvs,rfl,e,q⟩:=h
 obtain⟨u,rfl,rx⟩:=cJ r
 cases rx
 exact zKl I e λt s' I'=>⟨.int kvs.length,H,I',⟨t,rfl⟩,q⟩
def zKT:R2:=λx y H Q=>∃a v,x=.ref a/\kO H a y (some v)/\Q v H
theorem zHq(hu:X.A.units+1<cLine):IxR X zKT:=by
 intro value slice pins s σ H x y v u Q I rx ry h hs
 obtain⟨a,z,rfl,g,q⟩:=h
 cases rx
 have hT:=zDC I g
 unfold subscriptTail
 refine wpAny_bind ?_
 rw[getitemInPython_of_ne hT.not_modules]
 refine wpAny_bind (wpAny_specialOf hT PySem.F.slot_dict_getitem.lookup ?_)
 have fin:wpAny (model X.prog X.w) X.A (subscripted slice false (.ref a) u) (λr s₃=>wpAny (model X.prog X.w) X.A (letTemporaryGo value (.ref a) r >>= λ_=>pure r) (EP X pins σ Q) X.xe s₃) X.xe s:=by
  rw[hs]
  exact wpAny_operating (zE8 hu I g ry λw' s3 I3 rw'=>wpAny_bind (wpAny_letTemporaryGo (wpAny_pure ⟨z,H,I3,rw',q⟩)))
 first
  |exact wpAny_pure (wpAny_bind fin)
  |exact wpAny_bind (wpAny_pure (wpAny_bind fin))
  |exact wpAny_bind fin
def zKU:R2:=λy x H Q=>∃a o,x=.ref a/\kO H a y o/\Q (.bl o.isSome) H
theorem zDV(hu:X.A.units+1<cLine):OpR X (compareOp .In) zKU:=by
 intro pins s σ H y x u v Q I ry rx h
 obtain⟨a,o,rfl,g,q⟩:=h
 cases rx
 exact zL0 hu I g ry λs' I'=>⟨.bl _,H,I',rfl,q⟩
end
section
variable{prog:Program}{w:World}{A:Around}{R:Result->Shared->Prop}{it st:Addr}{fp wr:List Addr}{G:Array GenState->Array GenState->Prop}{n:Nat}{P:Nat->Value->Prop}{St:Nat->Shared->Prop}{kw:List (Str×Value)}
theorem qW:(toString "max"++toString ".loop":String)="max.loop":=by decide
theorem zES(W:WalksS prog w A.in1 it fp wr G n P St)(bt:Nat->Nat->Bool)(cmp:CmpOf prog w A.in1 .Gt P bt)(nst:st∉fp):
  ∀(m j:Nat) (s:Shared) (bv:Value) (c:Nat),n=j+1+m->St (j+1) s->P (argBest bt j) bv->s.heap.get? st=some {cls:=.type "list",dict:=none,data:=.seq #[bv,bv] c,slots:=#[]} ->
   (∀v s',P (argBest bt (n-1)) v->Moved (st::wr) G s s'->R (.ok (.ret v)) s')->codeAny (model prog w) A (.builtin "max.loop" ⟨[.ref it,.none,.ref st],kw⟩) R s:=by
 have nwr:st∉wr:=λh=>nst (W.sub _ h)
 have sub:∀b∈wr,b∈st::wr:=λb hb=>.tail _ hb
 have ne:∀{b:Addr},b∉st::wr->st≠b:=λhb e=>hb (e▸.head _)
 intro m
 induction m with
 |zero=>
  intro j s bv c en hst hb hS hR
  refine codeAny_builtin F.entry_max_loop ?_
  rw[Around.under_plainId F.plain_max_loop _]
  show wpAny _ A.in1 (seqItems? (.ref st) >>= _) _ _ s
  refine wpAny_bind (wpAny_seqItems hS rfl ?_)
  show wpAny _ A.in1 (tryCatch (pyNext (.ref it)) _ >>= _) _ _ s
  refine wpAny_bind (wpAny_tryCatch (W.done s _ _ (by rw[en];exact hst) λs1 mv=>?_))
  have hS1:=mv.heap st _ nwr hS
  show wpAny _ A.in1 (updateSeq st (λ_=>#[]) >>= _) _ _ _
  refine wpAny_bind ?_
  refine wpAny_updateSeq hS1 rfl (wpAny_bind (wpAny_letGo (wpAny_pure ?_)))
  have e1:n-1=j:=by omega
  exact hR bv _ (by rw[e1];exact hb) ((mv.mono sub).then_heap (tk:=s1.toks) (Nat.le_refl _) λb o nb e=>(Heap.get?_update_other _ _ (ne nb)).trans e)
 |succ m ih=>
  intro j s bv c en hst hb hS hR
  refine codeAny_builtin F.entry_max_loop ?_
  rw[Around.under_plainId F.plain_max_loop _]
  show wpAny _ A.in1 (seqItems? (.ref st) >>= _) _ _ s
  refine wpAny_bind (wpAny_seqItems hS rfl ?_)
  show wpAny _ A.in1 (tryCatch (pyNext (.ref it)) _ >>= _) _ _ s
  refine wpAny_bind (wpAny_tryCatch (W.item (j+1) s _ _ (by omega) hst λv s1 hP hst1 mv=>?_))
  have hS1:=mv.heap st _ nwr hS
  show wpAny _ A.in1 (tryCatch (holding [v,v] (richCompare .Gt v bv >>= _)) _ >>= _) _ _ _
  refine wpAny_bind (wpAny_tryCatch (wpAny_holding (wpAny_bind (cmp (j+1) (argBest bt j) v bv _ _ _ hP hb ?_))))
  refine wpAny_bind (wpAny_holding (wpAny_truthy_bool ?_))
  refine wpAny_bind (wpAny_letGo (wpAny_pure ?_))
  cases hbt:bt (j+1) (argBest bt j) with
  |true=>
   simp only[if_true]
   refine wpAny_bind ?_
   refine wpAny_updateSeq hS1 rfl (wpAny_bind (wpAny_letGo ?_))
   rw[qW]
   refine wpAny_pure ⟨plainId_quiet F.plain_max_loop _,ih (j+1) _ v _ (by omega) (W.frame _ s1 _ s1.toks hst1 (Nat.le_refl _) λb bf o e=>?_) (by simp only[argBest,hbt,if_true];exact hP) (Heap.get?_update_self _ hS1 rfl) λv' s2 hP' mv2=>?_⟩
   ·exact(Heap.get?_update_other _ _ (λz:st=b=>nst (by rw[z];exact bf))).trans e
   ·exact hR v' s2 hP' (Moved.trans W.gtrans ((mv.mono sub).then_heap (Nat.le_refl _) λb o nb e=>(Heap.get?_update_other _ _ (ne nb)).trans e) mv2)
  |false=>
   simp only[Bool.false_eq_true,if_false]
   refine wpAny_bind (wpAny_letGo ?_)
   rw[qW]
   refine wpAny_pure ⟨plainId_quiet F.plain_max_loop _,ih (j+1) _ bv c (by omega) hst1 (by simp only[argBest,hbt,Bool.false_eq_true,if_false];exact hb) hS1 λv' s2 hP' mv2=>?_⟩
   exact hR v' s2 hP' (Moved.trans W.gtrans (mv.mono sub) mv2)
theorem zD0(W:WalksS prog w A.in1 it fp wr G n P St)(bt:Nat->Nat->Bool)(cmp:CmpOf prog w A.in1 .Gt P bt)(nst:st∉fp){s:Shared}{c:Nat}{dn:Str}{dv:Value}(hst:St 0 s)
  (hS:s.heap.get? st=some {cls:=.type "list",dict:=none,data:=.seq #[] c,slots:=#[]})
  (h0:n=0->∀s',Moved (st::wr) G s s'->R (.ok (.ret dv)) s') (hR:0<n->∀v s',P (argBest bt (n-1)) v->Moved (st::wr) G s s'->R (.ok (.ret v)) s'):
  codeAny (model prog w) A (.builtin "max.loop" ⟨[.ref it,.none,.ref st],[(dn,dv)]⟩) R s:=by
 have nwr:st∉wr:=λh=>nst (W.sub _ h)
 have sub:∀b∈wr,b∈st::wr:=λb hb=>.tail _ hb
 have ne:∀{b:Addr},b∉st::wr->st≠b:=λhb e=>hb (e▸.head _)
 refine codeAny_builtin F.entry_max_loop ?_
 rw[Around.under_plainId F.plain_max_loop _]
 show wpAny _ A.in1 (seqItems? (.ref st) >>= _) _ _ s
 refine wpAny_bind (wpAny_seqItems hS rfl ?_)
 show wpAny _ A.in1 (tryCatch (pyNext (.ref it)) _ >>= _) _ _ s
 by_cases hn:n=0
 ·refine wpAny_bind (wpAny_tryCatch (W.done s _ _ (by rw[hn];exact hst) λs1 mv=>?_))
  exact wpAny_bind (wpAny_rule (wpAny_pure (h0 hn s1 (mv.mono sub))))
 ·refine wpAny_bind (wpAny_tryCatch (W.item 0 s _ _ (by omega) hst λv s1 hP hst1 mv=>?_))
  have hS1:=mv.heap st _ nwr hS
  show wpAny _ A.in1 (updateSeq st (λ_=>#[v,v]) >>= _) _ _ _
  refine wpAny_bind ?_
  refine wpAny_updateSeq hS1 rfl ?_
  rw[qW]
  refine wpAny_pure ⟨plainId_quiet F.plain_max_loop _,zES W bt cmp nst (n-1) 0 _ v _ (by omega) (W.frame _ s1 _ s1.toks hst1 (Nat.le_refl _) λb bf o e=>?_) hP (Heap.get?_update_self _ hS1 rfl) λv' s2 hP' mv2=>?_⟩
  ·exact(Heap.get?_update_other _ _ (λz:st=b=>nst (by rw[z];exact bf))).trans e
  ·exact hR (by omega) v' s2 hP' (Moved.trans W.gtrans ((mv.mono sub).then_heap (Nat.le_refl _) λb o nb e=>(Heap.get?_update_other _ _ (ne nb)).trans e) mv2)
theorem zFi(a d:Value):argsOk "max" ⟨[a],[(Str.ofString "default",d)]⟩:=by unfold argsOk;kernel_rfl
end
section
variable{prog:Program}{w:World}{A:Around}{E:Value->Shared->Prop}{s:Shared}
theorem zGn{l:Addr}{xs:Array (Int×Tok)}{dv:Value}{Q:Value->Shared->Prop}(hh:A.handled=none)(hl:s.heap.IsList l (intItems xs))
  (h0:xs.size=0->∀h' tk,(∀b o,s.heap.get? b=some o->h'.get? b=some o)->Q dv {s with heap:=h',toks:=tk})
  (h:0<xs.size->∀v h' tk,(intItems xs)[argBest (λi j=>decide (numAt xs i > numAt xs j)) (xs.size-1)]?=some v->(∀b o,s.heap.get? b=some o->h'.get? b=some o)->Q v {s with heap:=h',toks:=tk}):
  wpAny (model prog w) A (call (.builtin "max") [.ref l] [(Str.ofString "default",dv)]) Q E s:=by
 refine kmk_tree PySem.F.kind_max PySem.F.plain_max PySem.F.entry_max (zFi _ _) ?_
 show wpAny _ A.in1 (Builtin.Builtins.bindParams "max" ["key","default"] 0 ⟨[],[(Str.ofString "default",dv)]⟩ >>= _) _ _ s
 refine wpAny_bind (wpAny_of_eq (show Builtin.Builtins.bindParams "max" ["key","default"] 0 ⟨[],[(Str.ofString "default",dv)]⟩=pure [none,some dv] from rfl) ?_)
 refine wpAny_bind (wpAny_pure ?_)
 refine wpAny_bind (iter_intList hl λs2 e2 hst hfp hne=>?_)
 refine wpAny_bind (wpAny_newObj_type ?_ (by size_fits))
 rw[qW]
 have nst:s2.heap.objs.size∉[s.heap.objs.size,l]:=λm=>Nat.lt_irrefl _ (hfp _ m)
 have W:=(Walks.list (prog:=prog) (w:=w) (A:=A.in1) (by simp[hh]) s.heap.objs.size l hne (intItems xs)).toS
 have old:∀{s':Shared},Moved (s2.heap.objs.size::[s.heap.objs.size]) (λa b=>b=a) {s2 with heap:=s2.heap.push {cls:=.type "list",data:=.seq ([]:List Value).toArray}} s'->∃h' tk,(∀b o,s.heap.get? b=some o->h'.get? b=some o)/\s'={s with heap:=h',toks:=tk}:=by
  intro s' mv
  obtain⟨h',g',d',tk',os'⟩:=s'
  subst e2
  have g1:g'=s.gens:=mv.gens
  have g2:d'=s.drawn:=mv.drawn
  have g3:os'=s.os:=mv.os
  subst g1 g2 g3
  refine⟨h',tk',λb o e=>mv.heap b o (λm=>?_) (Heap.get?_push_of_some _ (Heap.get?_push_of_some _ e)),rfl⟩
  have lt:=Heap.lt_size e
  simp only[List.mem_cons,List.not_mem_nil,or_false]at m
  rcases m with z|z
  ·rw[z]at lt
   have:s.heap.objs.size<(s.heap.push {cls:=.type "list_iterator",data:=.fields #[.ref l,.int 0 0]}).objs.size:=by rw[Heap.size_push];exact Nat.lt_succ_self _
   exact absurd (Nat.lt_trans lt this) (Nat.lt_irrefl _)
  ·rw[z]at lt;exact Nat.lt_irrefl _ lt
 refine wpAny_pure ⟨plainId_quiet F.plain_max_loop _,zD0 W _ (CmpOf.ints_gt (numAt xs) (λ_ _=>intItems_at)) nst (W.frame 0 s2 _ s2.toks hst (Nat.le_refl _) λb _ o e=>Heap.get?_push_of_some _ e) (Heap.get?_push_size _ rfl) (λhn s' mv=>?_) λhn v s' hP mv=>?_⟩
 ·obtain⟨h',tk,k,rfl⟩:=old mv
  exact h0 (by simpa[intItems]using hn) h' tk k
 ·obtain⟨h',tk,k,rfl⟩:=old mv
  exact h (by simpa[intItems]using hn) v h' tk (by simpa[intItems]using hP) k
end
section
variable{X:Cx}
def zCc(K:W.Frag)(te td:TE):TE:=λσ H Q=>te σ H λx H1=>td σ H1 λy H2=>∃(p:Addr) (ns:List Int),x=.ref p/\SqL K H2 p (ns.map V.int)/\(ns=[]->Q y H2)/\∀M,M∈ns->(∀a∈ns,a<=M)->Q (.int M) H2
theorem zG3{e d:Expr}{te td:TE}{p pos kpos:Pos}(hc:X.calm=true)(hg:Gl X "max")(hm:X.mg "max"=none)(he:PE X e te)(hd:PE X d td)(hst:dZ e=false:=by rfl):
  PE X (.Call (.Name "max" p) [e] [⟨some "default",d,kpos⟩] pos) (zCc X.K te td):=by
 intro pins s σ H Q I h
 refine wpAny_Call_Name_kw (jU I hg hm boot_max ?_)
 have hs:starEach [e] X.env=[(false,eval e X.env)]:=kT (rest:=[]) hst
 refine callWith_kw (thn ((dA he dS hst) pos pins s σ H (λvs H1=>∃x,vs=[x]/\td σ H1 λy H2=>∃(p:Addr) (ns:List Int),x=.ref p/\SqL X.K H2 p (ns.map V.int)/\(ns=[]->Q y H2)/\∀M,M∈ns->(∀a∈ns,a<=M)->Q (.int M) H2) I ?_) λus s1 ⟨vs,H1,I1,r1,q1⟩=>?_) (by rw[hs];rfl) (by rw[hs];rfl)
 ·show te σ H _
  exact(show te σ H (λx H1=>∃x',[x]=[x']/\td σ H1 _) from by
   refine(?_:te σ H _)
   have:=h
   unfold zCc at this
   exact cast (congrArg (te σ H) (funext λx=>funext λH1=>propext ⟨λz=>⟨x,rfl,z⟩,λ⟨x',e,z⟩=>by cases e;exact z⟩)) this)
 ·obtain⟨x,rfl,q1⟩:=q1
  obtain⟨u,rfl,rx⟩:=cJ r1
  refine evalAll_cons (wpAny_bind (thn (hd pins s1 σ H1 _ I1 q1) λdv s2 ⟨y,H2,I2,r2,q2⟩=>wpAny_bind (wpAny_standAt (wpAny_pure (evalAll_nil ?_)))))
  obtain⟨p,ns,rfl,hq,q0,q⟩:=q2
  cases rx
  obtain⟨its,rv,pl,hz⟩:=I2.list hq
  have hi:IntsAre its ns:=mT rv
  obtain⟨zs,ez⟩:=hi.allInts.items
  have en:ns=zs.toList.map (·.1):=by rw[<-hi.numsOf,<-nums_intItems,<-ez]
  have hl:=pl.isList
  rw[ez]at hl
  refine zGn (I2.ok.hd hc) hl (λhz0 h' tk k=>?_) λhz0 v h' tk hv k=>?_
  ·refine⟨y,H2,I2.kept k,r2,q0 ?_⟩
   rw[en,List.map_eq_nil_iff]
   exact List.eq_nil_of_length_eq_zero (by rw[Array.length_toList];exact hz0)
  ·obtain⟨t,rfl⟩:=intItems_at hv
   obtain⟨h1,h2⟩:=argBest_gt (numAt zs) (zs.size-1)
   refine⟨.int _,H2,I2.kept k,⟨t,rfl⟩,q _ ?_ λa ha=>?_⟩
   ·rw[en,numAt_eq]
    exact getD_mem (by rw[List.length_map,Array.length_toList];omega)
   ·rw[en]at ha
    obtain⟨j,hj,rfl⟩:=mem_getD ha
    rw[List.length_map,Array.length_toList]at hj
    have:=h2 j (by omega)
    rw[numAt_eq zs j]at this
    exact this
end
end L2
namespace L2
open PySem PySem.Spec PyProof.Rows
def fzb:HO->Bool
 |.lst _=>true
 |.dK _=>true
 |_=>false
def FrozenA(H H1 H2:Hp):Prop:=∀b,(H b=none/\∃o ob,fzb o=true/\H1 b=some o/\H2 b=some (.frz ob o))\/(¬ (H b=none/\∃o,fzb o=true/\H1 b=some o)/\H2 b=H1 b)
section
variable{H H1 H2:Hp}{b:Addr}{o:HO}
theorem FrozenA.keep(f:FrozenA H H1 H2)(h:H1 b=some o)(n:fzb o=false):H2 b=some o:=by
 rcases f b with⟨_,o',ob,z,e,_⟩|⟨_,z⟩
 ·rw[h]at e;cases e;rw[n]at z;exact absurd z Bool.false_ne_true
 ·rw[z];exact h
theorem FrozenA.fz(f:FrozenA H H1 H2)(hn:H b=none)(h:H1 b=some o)(n:fzb o=true):∃ob,H2 b=some (.frz ob o):=by
 rcases f b with⟨_,o',ob,z,e,e2⟩|⟨z,_⟩
 ·rw[h]at e;cases e;exact⟨ob,e2⟩
 ·exact absurd ⟨hn,o,n,h⟩ z
theorem FrozenA.none_of(f:FrozenA H H1 H2)(h:H1 b=none):H2 b=none:=by
 rcases f b with⟨_,o',ob,z,e,e2⟩|⟨_,z⟩
 ·rw[h]at e;cases e
 ·rw[z];exact h
end
theorem Good.imp{P:Program}{w:World}{K:W.Frag}{mg:Str->Option Value}{base:Heap}{k:Nat}{x:Str}{ps:List Str}{sp sp':Sp}(G:Good P w K mg base k x ps sp)(h:∀vs H Q E,sp' vs H Q E->sp vs H Q E):Good P w K mg base k x ps sp':=by
 obtain⟨f,fd,F,b,m,kp⟩:=G
 exact⟨f,fd,F.imp h,b,m,kp⟩
def zCm:HO->Bool
 |.frz _ _=>true
 |.tup _=>true
 |_=>false
def HS(H H':Hp):Prop:=∀b o,zCm o=true->H b=some o->H' b=some o
section
variable{H H1 H2:Hp}{a p c:Addr}{o:HO}
theorem HS.refl(H:Hp):HS H H:=λ_ _ _ e=>e
theorem HS.trans(x:HS H H1)(y:HS H1 H2):HS H H2:=λb o h e=>y b o h (x b o h e)
theorem Same.hs(s:Same H H1):HS H H1:=λb o _ e=>s b o e
theorem FrozenA.hs(f:FrozenA H H1 H2):HS H1 H2:=λb o h e=>f.keep e (by cases o<;>first|rfl|exact absurd h Bool.false_ne_true)
theorem gR(h:H a=none):HS H (upd H a o):=λb u _ e=>by rw[bF (dR e h)];exact e
theorem fX{u:HO}(h:H a=some u)(n:zCm u=false):HS H (upd H a o):=λb v hv e=>by
 by_cases z:b=a
 ·subst z;rw[h]at e;cases e;rw[n]at hv;exact absurd hv Bool.false_ne_true
 ·rw[bF z];exact e
end
end L2
namespace WordM
open PySem
def sigA:Str:=" !\"#$&'()*+,-./0123456789:;<=>?@ABCDEFGHIJKLMNOPQRSTUVWXYZ[\\]^_`"
def sigB:Str:="abcdefghijklmnopqrstuvwxyz{|}~"
def SIG:Str:=sigA++sigB
abbrev cs(x:Str):List Nat:=x.cps.toList
def mG:Str:="0123456789"
def nV:Str:="ABCDEFGHIJKLMNOPQRSTUVWXYZ"
def zH8:Str:=" !\"#$&'()*+,-./:;<=>?\x40[\\]^_`{|}~"
def qP:Str:="abcdefghijklmnopqrstuvwxyz"
def SGN:List (Str×Str):=[("figure",mG),("great",nV),("other",zH8),("small",qP)]
def MK:List Str:=["figure","great","other","small"]
def Sg(x:Str):Prop:=∀c∈cs x,c∈cs SIG
instance (x:Str):Decidable (Sg x):=by unfold Sg;infer_instance
def eB(c:Nat):Str:=if c∈cs mG then "figure" else if c∈cs nV then "great" else if c∈cs qP then "small" else "other"
theorem app(a b:Str):cs (a++b)=cs a++cs b:=by
 show(a.cps++b.cps).toList=_
 simp
theorem len(a:Str):a.length=(cs a).length:=by simp[Str.length]
theorem Sg.app{a b:Str}(ha:Sg a)(hb:Sg b):Sg (a++b):=λc hc=>by
 rw[WordM.app]at hc
 rcases List.mem_append.mp hc with z|z
 ·exact ha c z
 ·exact hb c z
theorem Sg.one{x:Str}(h:Sg x){c:Nat}(hc:c∈cs x):Sg ⟨#[c]⟩:=λd hd=>by
 have:d=c:=by simpa using hd
 rw[this]
 exact h c hc
theorem zH5:Sg ⟨#[]⟩:=λc hc=>by simp at hc
theorem zEw{x:Str}{l u:Option Int}{c:Nat}(h:c∈cs (Txt.slice x l u)):c∈cs x:=by
 unfold Txt.slice at h
 split at h
 ·exact h
 ·simp only[cs,List.toList_toArray,List.mem_filterMap]at h
  obtain⟨i,_,hi⟩:=h
  obtain⟨hlt,e⟩:=Array.getElem?_eq_some_iff.mp hi
  rw[<-e]
  simp
theorem Sg.slice{x:Str}(h:Sg x)(l u:Option Int):Sg (Txt.slice x l u):=λc hc=>h c (zEw hc)
theorem zEx(x:Str)(l u:Option Int):(Txt.slice x l u).length<=x.length:=Txt.slice_le x l u
theorem jN{a b:Str}(h:cs a=cs b):a=b:=by
 obtain⟨a⟩:=a
 obtain⟨b⟩:=b
 have:a=b:=Array.toList_inj.mp h
 rw[this]
theorem zDL{c:Nat}{r:Str}:Txt.slice ((⟨#[c]⟩:Str)++r) (some 1) none=r:=by
 refine jN ?_
 have hl:(((⟨#[c]⟩:Str)++r).length)=1+r.length:=by rw[len,app,len];simp
 rw[PyProof.Rows.slice_from_eq (b:=((((⟨#[c]⟩:Str)++r).length:Nat):Int)) (by decide) (by omega) rfl]
 show((cs ((⟨#[c]⟩:Str)++r)).drop 1).take _=_
 rw[app]
 show((c::cs r).drop 1).take _=cs r
 rw[List.drop_one,List.tail_cons,List.take_of_length_le]
 rw[hl,len]
 omega
theorem zDt{x:Str}(h:x.length=0):Txt.slice x (some 1) none=x:=by
 have h1:=zEx x (some 1) none
 refine jN ?_
 have e1:cs (Txt.slice x (some 1) none)=[]:=List.eq_nil_of_length_eq_zero (by rw[<-len];omega)
 have e2:cs x=[]:=List.eq_nil_of_length_eq_zero (by rw[<-len];omega)
 rw[e1,e2]
theorem mark_of{c:Nat}(h:c∈cs SIG):∀m∈MK,(c∈cs ((L2.getS SGN m).getD ⟨#[]⟩)↔eB c=m):=by
 revert c
 decide +kernel
theorem mark_in(c:Nat):eB c∈MK:=by
 unfold eB
 split
 ·decide
 ·split
  ·decide
  ·split
   ·decide
   ·decide
theorem uY:SIG.length=94:=by decide +kernel
theorem zEy:(cs SIG).Nodup:=by decide +kernel
theorem zDN(x:Str):(Txt.slice x (some 1) none).length+1<=(if x.length<1 then 1 else x.length):=by
 by_cases h:x.length=0
 ·rw[zDt h,if_pos (by omega)]
  omega
 ·rw[if_neg (by omega)]
  rw[PyProof.Rows.slice_from_eq (b:=(x.length:Int)) (by decide) (by omega) rfl]
  show(((cs x).drop 1).take _).toArray.size+1<=_
  rw[List.size_toArray,List.length_take,List.length_drop,<-len]
  omega
theorem nodup_len{α:Type}[DecidableEq α]:∀{l m:List α},l.Nodup->(∀x∈l,x∈m)->l.length<=m.length
 |[],m,_,_=>Nat.zero_le _
 |x::l,m,hn,hs=>by
  have hx:=hs x List.mem_cons_self
  have h2:=List.nodup_cons.mp hn
  have ih:=nodup_len (l:=l) (m:=m.erase x) h2.2 λy hy=>by
   have hne:y≠x:=λe=>h2.1 (e▸hy)
   exact(List.mem_erase_of_ne hne).mpr (hs y (List.mem_cons_of_mem _ hy))
  rw[List.length_erase_of_mem hx]at ih
  have:0<m.length:=List.length_pos_of_mem hx
  rw[List.length_cons]
  omega
def fA(a:Int):Nat:=(cs SIG).getD (a % 94).toNat 0
theorem zEz(a:Int):fA a∈cs SIG:=by
 have hl:(a % 94).toNat<(cs SIG).length:=by
  rw[<-len,uY]
  have:=Int.emod_lt_of_pos a (show(0:Int)<94 by decide)
  have:=Int.emod_nonneg a (show(94:Int)≠0 by decide)
  omega
 unfold fA
 rw[List.getD_eq_getElem?_getD,List.getElem?_eq_getElem hl]
 exact List.getElem_mem hl
theorem zEA{a b:Int}(h:fA a=fA b):a % 94=b % 94:=by
 have b1:=Int.emod_lt_of_pos a (show(0:Int)<94 by decide)
 have b2:=Int.emod_nonneg a (show(94:Int)≠0 by decide)
 have b3:=Int.emod_lt_of_pos b (show(0:Int)<94 by decide)
 have b4:=Int.emod_nonneg b (show(94:Int)≠0 by decide)
 have hl:(cs SIG).length=94:=by rw[<-len];exact uY
 unfold fA at h
 rw[List.getD_eq_getElem?_getD,List.getD_eq_getElem?_getD,List.getElem?_eq_getElem (by omega),List.getElem?_eq_getElem (by omega)]at h
 have h:(cs SIG)[(a % 94).toNat]=(cs SIG)[(b % 94).toNat]:=h
 have hp:=List.pairwise_iff_getElem.mp zEy
 rcases Nat.lt_trichotomy (a % 94).toNat (b % 94).toNat with z|z|z
 ·exact absurd h (hp _ _ (by omega) (by omega) z)
 ·omega
 ·exact absurd h.symm (hp _ _ (by omega) (by omega) z)
def fB(a:Int)(r:Str)(i:Nat):Str:=(⟨#[fA (a+i)]⟩:Str)++r
theorem zFu{a:Int}{r:Str}{i j:Nat}(hi:i<90)(hj:j<90)(h:fB a r i=fB a r j):i=j:=by
 have h1:cs (fB a r i)=cs (fB a r j):=by rw[h]
 unfold fB at h1
 rw[app,app]at h1
 have h2:fA (a+i)=fA (a+j):=by
  have:=List.cons.inj h1
  exact this.1
 have:=zEA h2
 omega
theorem zFv{a:Int}{r:Str}{ss:List Str}{j:Nat}(hj:j<80)(h:∀i,1<=i->i<=j->fB a r i∈ss):j<=ss.length:=by
 have:=nodup_len (l:=(List.range j).map λi=>fB a r (i+1)) (m:=ss) (by
  unfold List.Nodup
  rw[List.pairwise_map]
  refine List.Pairwise.imp_of_mem (λ{x y} hx hy hlt e=>?_) List.pairwise_lt_range
  have hx:=List.mem_range.mp hx
  have hy:=List.mem_range.mp hy
  have:=zFu (by omega) (by omega) e
  omega) (λx hx=>by
  obtain⟨i,hi,rfl⟩:=List.mem_map.mp hx
  have:=List.mem_range.mp hi
  exact h (i+1) (by omega) (by omega))
 simpa using this
end WordM
namespace L2
open PySem PySem.Spec PyProof.Rows WordM
section
variable{α β:Type}{F G:α->β->Prop}
theorem eP:∀{xs:List α}{ys:List β}{i:Nat}{x:α},Paired F xs ys->xs[i]?=some x->∃y,ys[i]?=some y/\F x y
 |_,_,_,_,.nil,e=>by simp at e
 |_,_,0,_,.cons r _,e=>by simp at e;subst e;exact⟨_,rfl,r⟩
 |_,_,i+1,x,.cons _ t,e=>by
  obtain⟨u,h1,h2⟩:=eP (i:=i) (x:=x) t (by simpa using e)
  exact⟨u,by simpa using h1,h2⟩
end
inductive Tv where
 |leaf (v:V)
 |seq (t:Bool) (xs:List Tv)
 |dct (kts:List (Str×Tv))
def VT(S:Bool->Addr->List V->Prop)(D:Addr->List (Key×V)->Prop):Nat->V->Tv->Prop
 |0,_,_=>False
 |d+1,x,T=>(cY x=true/\T=.leaf x)\/(∃t a xs Ts,x=.ref a/\S t a xs/\T=.seq t Ts/\Ts.length<=100000/\Paired (VT S D d) xs Ts) \/
   ∃a kvs kts,x=.ref a/\D a kvs/\T=.dct kts/\(kts.map (·.1)).Nodup/\kts.length<64/\Paired (λ(kv:Key×V) (kt:Str×Tv)=>kv.1=.inr kt.1/\VT S D d kv.2 kt.2) kvs kts
section
variable{S S':Bool->Addr->List V->Prop}{D D':Addr->List (Key×V)->Prop}
theorem VT.mono(hs:∀t a xs,S t a xs->S' t a xs)(hd:∀a kvs,D a kvs->D' a kvs):∀{d:Nat}{x:V}{T:Tv},VT S D d x T->VT S' D' d x T
 |0,_,_,h=>False.elim h
 |d+1,x,T,h=>by
  rcases h with h|⟨t,a,xs,Ts,h1,h2,h3,hz,h4⟩|⟨a,kvs,kts,h1,h2,h3,h4,h5,h6⟩
  ·exact .inl h
  ·exact .inr (.inl ⟨t,a,xs,Ts,h1,hs _ _ _ h2,h3,hz,Paired.mapP h4 λ_ _ q=>VT.mono hs hd q⟩)
  ·exact .inr (.inr ⟨a,kvs,kts,h1,hd _ _ h2,h3,h4,h5,Paired.mapP h6 λ_ _ q=>⟨q.1,VT.mono hs hd q.2⟩⟩)
theorem VT.more:∀{d:Nat}{x:V}{T:Tv},VT S D d x T->VT S D (d+1) x T
 |0,_,_,h=>False.elim h
 |d+1,x,T,h=>by
  rcases h with h|⟨t,a,xs,Ts,h1,h2,h3,hz,h4⟩|⟨a,kvs,kts,h1,h2,h3,h4,h5,h6⟩
  ·exact .inl h
  ·exact .inr (.inl ⟨t,a,xs,Ts,h1,h2,h3,hz,Paired.mapP h4 λ_ _ q=>VT.more q⟩)
  ·exact .inr (.inr ⟨a,kvs,kts,h1,h2,h3,h4,h5,Paired.mapP h6 λ_ _ q=>⟨q.1,VT.more q.2⟩⟩)
theorem VT.le{d e:Nat}(h:d<=e){x:V}{T:Tv}(q:VT S D d x T):VT S D e x T:=by
 obtain⟨k,rfl⟩:=Nat.le.dest h
 clear h
 induction k with
 |zero=>exact q
 |succ k ih=>exact VT.more ih
end
def HDct(H:Hp)(a:Addr)(kvs:List (Key×V)):Prop:=∃ob,FzD H a ob kvs
section
variable{K:W.Frag}{H H':Hp}{d:Nat}{x:V}{T:Tv}
theorem HDct.hs(e:HS H H'){a:Addr}{kvs:List (Key×V)}(h:HDct H a kvs):HDct H' a kvs:=by
 obtain⟨ob,h⟩:=h
 exact⟨ob,e _ _ rfl h⟩
end
theorem zDO:∀(p:Str) (l:List Str),risingS p l=true->∀x∈l,(cs x<cs p)->False:=by
 intro p l
 induction l generalizing p with
 |nil=>intro _ x hx;simp at hx
 |cons y l ih=>
  intro h x hx hlt
  have h:(!PySem.Spec.ltCps y.cps.toList p.cps.toList&&risingS y l)=true:=h
  rw[Bool.and_eq_true]at h
  have hy:¬ (cs y<cs p):=by
   have:=h.1
   rw[ltCps_eq]at this
   simpa using this
  rcases List.mem_cons.mp hx with z|z
  ·subst z;exact hy hlt
  ·have hxy:¬ (cs x<cs y):=λq=>ih y h.2 x z q
   have h1:cs p<=cs y:=List.not_lt.mp hy
   have h2:cs y<=cs x:=List.not_lt.mp hxy
   exact absurd hlt (List.not_lt.mpr (List.le_trans h1 h2))
theorem pK:∀(l:List Str),sortedS l=true->l.Pairwise λa b=>cs a<=cs b
 |[],_=>.nil
 |x::l,h=>by
  have h:risingS x l=true:=h
  refine .cons (λy hy=>List.not_lt.mp λz=>zDO x l h y hy z) (pK l ?_)
  cases l with
  |nil=>rfl
  |cons y l=>
   have h:(!PySem.Spec.ltCps y.cps.toList x.cps.toList&&risingS y l)=true:=h
   rw[Bool.and_eq_true]at h
   exact h.2
open Classical in
noncomputable def cO(us:List Str):List Str:=if h:∃ss:List Str,ss.Perm us/\sortedS ss=true then h.choose else us
theorem mS(us:List Str):(cO us).Perm us:=by
 unfold cO
 split
 ·rename_i h;exact h.choose_spec.1
 ·exact .refl _
theorem qA{us ss:List Str}(h1:ss.Perm us)(h2:sortedS ss=true):ss=cO us:=by
 have ex:∃ss:List Str,ss.Perm us/\sortedS ss=true:=⟨ss,h1,h2⟩
 have e:cO us=ex.choose:=by unfold cO;rw[dif_pos ex]
 rw[e]
 exact List.Perm.eq_of_pairwise (λa b _ _ h1 h2=>jN (List.le_antisymm h1 h2)) (pK _ h2) (pK _ ex.choose_spec.2) (h1.trans ex.choose_spec.1.symm)
def cU(kts:List (Str×Tv))(k:Str):Option Tv:=(kts.find? λkt=>decide (kt.1=k)).map (·.2)
section
variable{S:Bool->Addr->List V->Prop}{D:Addr->List (Key×V)->Prop}{d:Nat}
theorem vI{kvs:List (Key×V)}{kts:List (Str×Tv)}{R:V->Tv->Prop}(h:Paired (λ(kv:Key×V) (kt:Str×Tv)=>kv.1=.inr kt.1/\R kv.2 kt.2) kvs kts)(k:Str):
  (cU kts k=none/\dY kvs (.inr k)=none)\/∃U v,cU kts k=some U/\dY kvs (.inr k)=some v/\R v U:=by
 induction h with
 |nil=>exact .inl ⟨rfl,rfl⟩
 |@cons kv kt l1 l2 h _ ih=>
  obtain⟨e,r⟩:=h
  by_cases z:kt.1=k
  ·refine .inr ⟨kt.2,kv.2,?_,pS (by rw[e,z]),r⟩
   unfold cU
   rw[List.find?_cons,decide_eq_true z]
   rfl
  ·have e2:cU (kt::l2) k=cU l2 k:=by
    unfold cU
    rw[List.find?_cons,decide_eq_false z]
   have e3:dY (kv::l1) (.inr k)=dY l1 (.inr k):=pT (by rw[e];exact λq=>z (Sum.inr.inj q))
   rw[e2,e3]
   exact ih
theorem zF3{kts:List (Str×Tv)}{k:Str}(h:k∈kts.map (·.1)):∃U,cU kts k=some U:=by
 induction kts with
 |nil=>cases h
 |cons kt l ih=>
  by_cases z:kt.1=k
  ·exact⟨kt.2,by unfold cU;rw[List.find?_cons,decide_eq_true z];rfl⟩
  ·rcases List.mem_cons.mp h with q|q
   ·exact absurd q.symm z
   ·obtain⟨U,hU⟩:=ih q
    refine⟨U,?_⟩
    unfold cU at hU ⊢
    rw[List.find?_cons,decide_eq_false z]
    exact hU
end
theorem SqT.hs{K:W.Frag}{H H':Hp}{a:Addr}{xs:List V}(e:HS H H')(h:SqT K H a xs):SqT K H' a xs:=by
 rcases h with (h|⟨o,h⟩)|h
 ·exact .inl (.inl (e _ _ rfl h))
 ·exact .inl (.inr ⟨o,e _ _ rfl h⟩)
 ·exact .inr h
theorem pL{α β:Type}{F:α->β->Prop}{a c:List α}{b d:List β}(h1:Paired F a b)(h2:Paired F c d):Paired F (a++c) (b++d):=by
 induction h1 with
 |nil=>exact h2
 |cons r _ ih=>exact .cons r ih
end L2
namespace L2
open PySem PySem.Spec PyProof.Rows
abbrev pA:Hp:=λ_=>none
def Thaw(H H3 H4:Hp):Prop:=∀b,(∃o ob,fzb o=true/\H b=some o/\H3 b=some (.frz ob o)/\H4 b=some o)\/((¬ ∃o ob,fzb o=true/\H b=some o/\H3 b=some (.frz ob o))/\H4 b=H3 b)
theorem zAU(H H3:Hp):∃H4,Thaw H H3 H4:=by
 classical
 refine⟨λb=>if h:∃o ob,fzb o=true/\H b=some o/\H3 b=some (.frz ob o) then some h.choose else H3 b,λb=>?_⟩
 by_cases h:∃o ob,fzb o=true/\H b=some o/\H3 b=some (.frz ob o)
 ·obtain⟨ob,h1,h2,h3⟩:=h.choose_spec
  exact .inl ⟨h.choose,ob,h1,h2,h3,by dsimp only;rw[dif_pos h]⟩
 ·exact .inr ⟨h,by dsimp only;rw[dif_neg h]⟩
theorem zS{P:Program}{w:World}{H:Hp}{h:Heap}(hok:HOk P w H h):∃H2,FrozenA pA H H2/\HOk P w H2 h:=by
 let H2:Hp:=λb=>match H b with
  |none=>none
  |some o=>match fzb o with
   |false=>some o
   |true=>match h.get? b with
    |some ob=>some (.frz ob o)
    |none=>some o
 have new:∀b o ob,H b=some o->fzb o=true->h.get? b=some ob->H2 b=some (.frz ob o):=λb o ob h1 n e=>by
  show(match H b with|none=>none|some o=>_)=_
  rw[h1]
  dsimp only
  rw[n,e]
 have rest:∀b,(∀o,H b=some o->fzb o=false)->H2 b=H b:=λb hn=>by
  show(match H b with|none=>none|some o=>_)=_
  cases e:H b with
  |none=>rfl
  |some o=>
   dsimp only
   rw[hn o e]
 have fro:FrozenA pA H H2:=λb=>by
  cases h1:H b with
  |none=>exact .inr ⟨(λ⟨_,_,_,z⟩=>by cases z),by rw[rest b (λo z=>by rw[h1]at z;cases z),h1]⟩
  |some o=>
   cases n:fzb o with
   |true=>
    obtain⟨ob,e⟩:=(hok b o h1).there
    exact .inl ⟨rfl,o,ob,n,rfl,new b o ob h1 n e⟩
   |false=>exact .inr ⟨(λ⟨_,o',n',z⟩=>by cases z;rw[n]at n';exact absurd n' Bool.false_ne_true),by rw[rest b (λo' z=>by rw[h1]at z;cases z;exact n),h1]⟩
 refine⟨H2,fro,λb o e=>?_⟩
 have st:∀o,ObjOk P w H h b o->ObjOk P w H2 h b o:=λo x=>x.stay (λ_ _ _ r=>r) (λd r=>fro.keep r rfl) λd xs r=>fro.keep r rfl
 rcases fro b with⟨hn,o',ob,n,z,z'⟩|⟨_,z'⟩
 ·obtain⟨ob2,e2⟩:=(hok b o' z).there
  have q2:=new b o' ob2 z n e2
  rw[e]at q2
  cases q2
  exact⟨e2,st _ (hok b _ z)⟩
 ·rw[z']at e
  exact st o (hok b o e)
section
variable{H H2 H3 H4:Hp}{b:Addr}{o:HO}
theorem Thaw.same(f:FrozenA pA H H2)(s:Same H2 H3)(t:Thaw H H3 H4):Same H H4:=λb o e=>by
 cases n:fzb o with
 |true=>
  obtain⟨ob,e2⟩:=f.fz (b:=b) rfl e n
  have e3:=s b _ e2
  rcases t b with⟨u,ob',_,z,_,z'⟩|⟨z,_⟩
  ·rw[e]at z;cases z;exact z'
  ·exact absurd ⟨o,ob,n,e,e3⟩ z
 |false=>
  have e3:=s b _ (f.keep e n)
  rcases t b with⟨u,ob',n',z,_⟩|⟨_,z⟩
  ·rw[e]at z;cases z;rw[n]at n';exact absurd n' Bool.false_ne_true
  ·rw[z];exact e3
end
theorem zL:∀{ps kvs:List (Key×V)},((kvs++ps).map (·.1)).Nodup->eR kvs ps=kvs++ps
 |[],kvs,_=>by show kvs=kvs++[];rw[List.append_nil]
 |p::ps,kvs,h=>by
  have hv:dY kvs p.1=none:=by
   cases e:dY kvs p.1 with
   |none=>rfl
   |some v=>
    have:=zGv e
    rw[List.map_append,List.nodup_append]at h
    exact absurd rfl (h.2.2 p.1 this p.1 (by simp))
  show eR (cV kvs p.1 p.2) ps=_
  rw[zFI p.2 hv,zL (by simpa using h),List.append_assoc]
  rfl
end L2
namespace L2
open PySem PySem.Spec PyProof.Rows
def ItE(K:W.Frag)(a:Addr):It:=
  ⟨λi H=>∃xs x,SqL K H a xs/\xs[i]?=some x,
   λi H v H'=>∃p x,v=.ref p/\H p=none/\H'=upd H p (.tup [.int (i:Int),x])/\∀xs,SqL K H a xs->xs[i]?=some x,
   λi H=>∃xs,SqL K H a xs/\xs.length<=i⟩
theorem zEr{P:Program}{w:World}{K:W.Frag}{es:List Expr}{ek:Nat}{pos:Pos}(a e it:Addr)(hei:e≠it)(hae:a≠e)(hai:a≠it):
  gY P w K (.Tuple es ek pos) (ItE K a) [e,it] e (λi h=>(∃old,IsEnum h e it (i:Int) old)/\h.IsListIter it a i) where
 mem:=by simp
 obj:=λi h st b hb=>by
  obtain⟨⟨old,st⟩,j⟩:=st
  rcases List.mem_cons.mp hb with rfl|hb
  ·exact⟨_,st,λv z=>by
    have z':Data.fields _=Data.cell v:=z
    cases z'⟩
  ·have q:b=it:=by simpa using hb
   subst q
   obtain⟨o,e',c,d⟩:=j
   exact⟨o,e',λv z=>by rw[d]at z;cases z⟩
 keep:=λi h h' ⟨⟨old,st⟩,j⟩ k=>⟨⟨old,k e (by simp) _ st⟩,j.at λo e'=>k it (by simp) o e'⟩
 item:=by
  intro X hP hw hK hc i pins s σ H E I hf st hg
  subst hP hw hK
  obtain⟨xs,x,hx,hi⟩:=hg
  obtain⟨⟨old,st⟩,j⟩:=st
  obtain⟨its,r,pl,hz⟩:=I.list hx
  obtain⟨u,hu,ru⟩:=r.get hi
  refine wpAny_pyNext_enum_item st j pl.isList (x:=u) (by simpa using hu) hei λh' a1 a2 a3 a4 a5=>⟨_,rfl,?_⟩
  refine wpAny_letOwnedTupleGo_enum (s:={s with heap:=h',toks:=s.toks+1}) a1 λh2 b1 b2=>?_
  have hne:e≠s.heap.objs.size:=Nat.ne_of_lt (Heap.lt_size st)
  have hni:it≠s.heap.objs.size:=by obtain⟨o,e',_⟩:=id j;exact Nat.ne_of_lt (Heap.lt_size e')
  have hn:∀c∈[e,it],c≠s.heap.objs.size:=λc hc'=>by
   simp only[List.mem_cons,List.not_mem_nil,or_false]at hc'
   rcases hc' with q|q
   ·rw[q];exact hne
   ·rw[q];exact hni
  have I0:Inv X pins σ (upd H s.heap.objs.size (.tup [.int (i:Int),x])) {s with heap:=s.heap.push {cls:=.type "tuple",data:=.seq #[.int (i:Int) s.toks,u]}}:=
   I.laid (t':=s.toks) (λc o e=>Heap.get?_push_of_some _ e) (Nat.le_refl _) ⟨by show 2<=sizeLine;decide,[.int (i:Int) s.toks,u],.cons ⟨_,rfl⟩ (.cons ru .nil),IsTup.new _ _⟩
  have hf0:∀c∈[e,it],eO X pins (upd H s.heap.objs.size (.tup [.int (i:Int),x])) c:=λc hc'=>⟨by rw[bF (hn c hc')];exact(hf c hc').1,(hf c hc').2⟩
  have I1:Inv X pins σ (upd H s.heap.objs.size (.tup [.int (i:Int),x])) {s with heap:=h2,toks:=s.toks+1}:=Inv.turnedL (s:={s with heap:=s.heap.push {cls:=.type "tuple",data:=.seq #[.int (i:Int) s.toks,u]}}) (t':=s.toks+1) (ch:=[e,it]) I0 hf0 λc o hc' e'=>by
   simp only[List.mem_cons,List.not_mem_nil,or_false,not_or]at hc'
   obtain⟨c1,c2⟩:=hc'
   by_cases hcn:c=s.heap.objs.size
   ·subst hcn
    have e'':(s.heap.push {cls:=.type "tuple",data:=.seq #[.int (i:Int) s.toks,u]}).get? s.heap.objs.size=some o:=e'
    rw[Heap.get?_push_size _ rfl]at e''
    cases e''
    exact b2.extBut _ _ c1 a3
   ·refine b2.extBut _ _ c1 (a5 c o c1 c2 ?_)
    have e'':(s.heap.push {cls:=.type "tuple",data:=.seq #[.int (i:Int) s.toks,u]}).get? c=some o:=e'
    rw[Heap.get?_push_ne _ _ _ hcn]at e''
    exact e''
  refine⟨.ref s.heap.objs.size,_,I1,rfl,⟨_,x,rfl,I.hok.fresh (Nat.le_refl _),rfl,λxs' h=>by rw[I.list_inj h hx];exact hi⟩,⟨⟨u,by have:=b1;push_cast;exact this⟩,a2.at λo e'=>b2.extBut _ _ (Ne.symm hei) e'⟩,λc hc'=>(hf0 c hc').1⟩
 done:=by
  intro X hP hw hK hc i pins s σ H E I hf st hg
  subst hP hw hK
  obtain⟨xs,hx,hi⟩:=hg
  obtain⟨⟨old,st⟩,j⟩:=st
  obtain⟨its,r,pl,hz⟩:=I.list hx
  have la:=r.length
  refine wpAny_pyNext_enum_end (I.ok.hd hc) st j pl.isList (by simp;omega) λh' eb=>⟨rfl,I.turnedL (t':=s.toks) hf λc o hc' e'=>?_⟩
  simp only[List.mem_cons,List.not_mem_nil,or_false,not_or]at hc'
  exact eb c o hc'.2 e'
 self:=λ_ _ _ _ _ ⟨⟨_,st⟩,_⟩ h=>wpAny_pyIter_enum st h
theorem zC5:bootBuiltins "enumerate"=some (.type "enumerate"):=by decide +kernel
section
variable{X:Cx}
def zKg(K:W.Frag)(ta:TA):TI:=λσ H R=>ta σ H λvs H1=>∃a:Addr,vs=[.ref a]/\(∃xs,SqL K H1 a xs)/\R (ItE K a) H1
theorem zGZ{a:Expr}{ta:TA}{es:List Expr}{ek:Nat}{p pos pos':Pos}(hg:Gl X "enumerate")(hm:X.mg "enumerate"=none)(ha:PA X [a] ta)(hs:starEach [a] X.env=[(false,eval a X.env)]:=by rfl):
  PI X (.Tuple es ek pos') (.Call (.Name "enumerate" p) [a] [] pos) (zKg X.K ta):=by
 intro pins s σ H R I h
 refine Call_ (jU I hg hm zC5 (PyProof.Rows.callWith_type1 (thn (ha pos pins s σ H _ I h) λus s1 ⟨vs,H1,I1,r1,q1⟩=>?_) (by rw[hs];rfl) (by rfl)))
 obtain⟨a,e,⟨xs,hx⟩,q⟩:=q1
 subst e
 obtain⟨u,rfl,rx⟩:=cJ r1
 cases rx
 obtain⟨its,r,pl,hz⟩:=I1.list hx
 have la:a<s1.heap.objs.size:=by obtain⟨o,e,_⟩:=pl.isList;exact Heap.lt_size e
 refine call_enumerate_list pl.isList λh' e1 e2 _ k=>?_
 refine wpAny_pyIter_enum e1 ?_
 refine⟨_,[s1.heap.objs.size+1,s1.heap.objs.size],_,_,H1,rfl,I1.kept (t':=s1.toks) k,zEr a _ _ (by intro (e:(_:Nat)=_);omega) (Nat.ne_of_lt (Nat.lt_succ_of_lt la)) (Nat.ne_of_lt la),⟨⟨_,e1⟩,e2⟩,λc hc=>?_,q⟩
 have:s1.heap.objs.size<=c:=by
  simp only[List.mem_cons,List.not_mem_nil,or_false]at hc
  rcases hc with e|e<;>(rw[e];first|exact Nat.le_refl _|exact Nat.le_add_right _ _)
 exact I1.fpOk this (I1.hok.fresh this)
end
end L2
namespace L2
open PySem PySem.Spec PyProof.Rows WordM
def PSeq(K:W.Frag)(H:Hp)(t:Bool)(a:Addr)(xs:List V):Prop:=match t with
 |false=>∃ob,H a=some (.frz ob (.lst xs))
 |true=>SqT K H a xs
abbrev VP(K:W.Frag)(H:Hp):Nat->V->Tv->Prop:=VT (PSeq K H) (HDct H)
def VA(K:W.Frag)(H:Hp)(x:V)(T:Tv):Prop:=∃d,VP K H d x T
abbrev VAs(K:W.Frag)(H:Hp):List V->List Tv->Prop:=Paired (VA K H)
def VAk(K:W.Frag)(H:Hp):List (Key×V)->List (Str×Tv)->Prop:=Paired λ(kv:Key×V) (kt:Str×Tv)=>kv.1=.inr kt.1/\VA K H kv.2 kt.2
section
variable{K:W.Frag}{H H' H1 H2:Hp}{x y v:V}{T U:Tv}{a:Addr}{xs:List V}{Ts:List Tv}{t:Bool}{kvs:List (Key×V)}{kts:List (Str×Tv)}
theorem PSeq.hs(e:HS H H')(h:PSeq K H t a xs):PSeq K H' t a xs:=by
 cases t with
 |false=>obtain⟨ob,h⟩:=h;exact⟨ob,e _ _ rfl h⟩
 |true=>exact SqT.hs e h
theorem VA.hs(e:HS H H')(h:VA K H x T):VA K H' x T:=by
 obtain⟨d,h⟩:=h
 exact⟨d,h.mono (λ_ _ _ q=>q.hs e) λ_ _ q=>q.hs e⟩
theorem VAs.hs(e:HS H H')(h:VAs K H xs Ts):VAs K H' xs Ts:=Paired.mapP h λ_ _ q=>q.hs e
theorem VAk.hs(e:HS H H')(h:VAk K H kvs kts):VAk K H' kvs kts:=Paired.mapP h λ_ _ q=>⟨q.1,q.2.hs e⟩
theorem VAs.deep(h:VAs K H xs Ts):∃d,Paired (VP K H d) xs Ts:=by
 induction h with
 |nil=>exact⟨0,.nil⟩
 |cons r _ ih=>
  obtain⟨d,r⟩:=r
  obtain⟨e,ih⟩:=ih
  exact⟨max d e,.cons (r.le (Nat.le_max_left _ _)) (Paired.mapP ih λ_ _ q=>VT.le (Nat.le_max_right _ _) q)⟩
theorem VAk.deep(h:VAk K H kvs kts):∃d,Paired (λ(kv:Key×V) (kt:Str×Tv)=>kv.1=.inr kt.1/\VP K H d kv.2 kt.2) kvs kts:=by
 unfold VAk at h
 induction h with
 |nil=>exact⟨0,.nil⟩
 |cons r _ ih=>
  obtain⟨k,d,r⟩:=r
  obtain⟨e,ih⟩:=ih
  exact⟨max d e,.cons ⟨k,r.le (Nat.le_max_left _ _)⟩ (Paired.mapP ih λ_ _ q=>⟨q.1,VT.le (Nat.le_max_right _ _) q.2⟩)⟩
theorem VA.flat(h:cY x=true):VA K H x (.leaf x):=⟨1,.inl ⟨h,rfl⟩⟩
theorem VA.seq(h:PSeq K H t a xs)(z:Ts.length<=100000)(p:VAs K H xs Ts):VA K H (.ref a) (.seq t Ts):=by
 obtain⟨d,p⟩:=p.deep
 exact⟨d+1,.inr (.inl ⟨t,a,xs,Ts,rfl,h,rfl,z,p⟩)⟩
theorem VA.dct(h:HDct H a kvs)(n:(kts.map (·.1)).Nodup)(z:kts.length<64)(p:VAk K H kvs kts):VA K H (.ref a) (.dct kts):=by
 obtain⟨d,p⟩:=p.deep
 exact⟨d+1,.inr (.inr ⟨a,kvs,kts,rfl,h,rfl,n,z,p⟩)⟩
theorem VA.leafI(h:VA K H x (.leaf v)):x=v/\cY v=true:=by
 obtain⟨d,h⟩:=h
 cases d with
 |zero=>exact False.elim h
 |succ d=>
  rcases h with⟨f,e⟩|⟨_,_,_,_,_,_,e,_⟩|⟨_,_,_,_,_,e,_⟩
  ·cases e;exact⟨rfl,f⟩
  ·cases e
  ·cases e
theorem VA.seqI(h:VA K H x (.seq t Ts)):∃a xs,x=.ref a/\PSeq K H t a xs/\Ts.length<=100000/\VAs K H xs Ts:=by
 obtain⟨d,h⟩:=h
 cases d with
 |zero=>exact False.elim h
 |succ d=>
  rcases h with⟨_,e⟩|⟨t',a,xs,Ts',e1,hs,e,z,p⟩|⟨_,_,_,_,_,e,_⟩
  ·cases e
  ·cases e;exact⟨a,xs,e1,hs,z,Paired.mapP p λ_ _ q=>⟨d,q⟩⟩
  ·cases e
theorem VA.dctI(h:VA K H x (.dct kts)):∃a kvs,x=.ref a/\HDct H a kvs/\(kts.map (·.1)).Nodup/\kts.length<64/\VAk K H kvs kts:=by
 obtain⟨d,h⟩:=h
 cases d with
 |zero=>exact False.elim h
 |succ d=>
  rcases h with⟨_,e⟩|⟨_,_,_,_,_,_,e,_⟩|⟨a,kvs,kts',e1,hd,e,n,z,p⟩
  ·cases e
  ·cases e
  ·cases e;exact⟨a,kvs,e1,hd,n,z,Paired.mapP p λ_ _ q=>⟨q.1,d,q.2⟩⟩
end
inductive Sl where
 |no
 |va (T:Tv)
 |own (xs:List Tv)
 |dct (kts:List (Str×Tv))
 |dk
abbrev aR:=List Sl
def eD:Sl->Bool
 |.own _=>true
 |.dct _=>true
 |_=>false
structure Fm where
 H0:Hp
 dk:Option (Addr×Addr)
structure Kp (dk:Option (Addr×Addr)) (H H':Hp):Prop where
 st:∀b o,H b=some o->(∀p c,dk=some (p,c)->b≠p/\b≠c)->H' b=some o
 dkk:∀p c,dk=some (p,c)->DeckAt H' p c
theorem Kp.tr{dk:Option (Addr×Addr)}{H H':Hp}(k:Kp dk H H')(b:Addr)(o:HO)(e:H b=some o):∃o',H' b=some o':=by
 cases d:dk with
 |none=>exact⟨o,k.st b o e λp c z=>by rw[d]at z;cases z⟩
 |some pc=>
  obtain⟨p,c⟩:=pc
  obtain⟨_,⟨S,i,e1⟩,ns,e2,_⟩:=k.dkk p c d
  by_cases h1:b=p
  ·subst h1;exact⟨_,e1⟩
  ·by_cases h2:b=c
   ·subst h2;exact⟨_,e2⟩
   ·exact⟨o,k.st b o e λp' c' z=>by rw[d]at z;cases z;exact⟨h1,h2⟩⟩
def xQ(K:W.Frag)(F:Fm)(H:Hp)(ox:Option V):Sl->Prop
 |.no=>True
 |.va T=>∃x,ox=some x/\VA K H x T
 |.own Ts=>∃a xs,ox=some (.ref a)/\H a=some (.lst xs)/\F.H0 a=none/\Ts.length<=100000/\VAs K H xs Ts
 |.dct kts=>∃a kvs,ox=some (.ref a)/\H a=some (.dK kvs)/\F.H0 a=none/\(kts.map (·.1)).Nodup/\kts.length<64/\VAk K H kvs kts
 |.dk=>∃p c,F.dk=some (p,c)/\ox=some (.ref p)
def ixv(σ:St)(i:Nat):Option V:=(σ[i]?).join
structure FrOk (K:W.Frag) (F:Fm) (ρ:aR) (σ:St) (H:Hp):Prop where
 d0:∀p c,F.dk=some (p,c)->DeckAt F.H0 p c
 kp:Kp F.dk F.H0 H
 len:ρ.length=σ.length
 at_:∀(i:Nat) (s:Sl),ρ[i]?=some s->xQ K F H (ixv σ i) s
 ap:∀(i j:Nat) (a:Addr) (s t:Sl),ρ[i]?=some s->ρ[j]?=some t->eD s=true->eD t=true->ixv σ i=some (.ref a)->ixv σ j=some (.ref a)->i=j
def Stay(F:Fm)(ρ:aR)(σ:St)(H H':Hp):Prop:=∀b o,H b=some o->(∀p c,F.dk=some (p,c)->b≠p/\b≠c)->(∀(i:Nat) (s:Sl),ρ[i]?=some s->eD s=true->ixv σ i≠some (.ref b))->H' b=some o
def Sbv(ρ' ρ:aR):Prop:=∀(i:Nat) (s':Sl),ρ'[i]?=some s'->eD s'=true->∃s,ρ[i]?=some s/\eD s=true
structure Stp (K:W.Frag) (F:Fm) (σ:St) (ρ:aR) (H:Hp) (ρ':aR) (H':Hp):Prop where
 fr:FrOk K F ρ' σ H'
 st:Stay F ρ σ H H'
 sub:Sbv ρ' ρ
 tr:∀b o,H b=some o->∃o',H' b=some o'
section
variable{K:W.Frag}{F:Fm}{ρ ρ1 ρ2:aR}{σ:St}{H H' H1 H2:Hp}{x y v:V}{T U:Tv}{a b:Addr}{o:HO}
theorem Sbv.refl(ρ:aR):Sbv ρ ρ:=λi s e m=>⟨s,e,m⟩
theorem Sbv.trans(h1:Sbv ρ1 ρ)(h2:Sbv ρ2 ρ1):Sbv ρ2 ρ:=λi s e m=>by
 obtain⟨s1,e1,m1⟩:=h2 i s e m
 exact h1 i s1 e1 m1
theorem FrOk.own_at(fr:FrOk K F ρ σ H){i:Nat}{s:Sl}(e:ρ[i]?=some s)(m:eD s=true)(q:ixv σ i=some (.ref a)):(∃o,H a=some o/\fzb o=true)/\F.H0 a=none:=by
 have h:=fr.at_ i s e
 cases s with
 |own Ts=>obtain⟨a',xs,e1,e2,e3,_⟩:=h;rw[q]at e1;cases e1;exact⟨⟨_,e2,rfl⟩,e3⟩
 |dct kts=>obtain⟨a',xs,e1,e2,e3,_⟩:=h;rw[q]at e1;cases e1;exact⟨⟨_,e2,rfl⟩,e3⟩
 |no=>cases m
 |va _=>cases m
 |dk=>cases m
theorem FrOk.fresh_nodk(fr:FrOk K F ρ σ H)(h:F.H0 a=none):∀p c,F.dk=some (p,c)->a≠p/\a≠c:=λp c e=>by
 obtain⟨_,⟨S,k,e1⟩,ns,e2,_⟩:=fr.d0 p c e
 exact⟨λz=>(by rw[z,e1]at h;cases h),λz=>(by rw[z,e2]at h;cases h)⟩
theorem FrOk.none_nodk(fr:FrOk K F ρ σ H)(h:H a=none):∀p c,F.dk=some (p,c)->a≠p/\a≠c:=λp c e=>by
 obtain⟨_,⟨S,k,e1⟩,ns,e2,_⟩:=fr.kp.dkk p c e
 exact⟨λz=>(by rw[z,e1]at h;cases h),λz=>(by rw[z,e2]at h;cases h)⟩
theorem FrOk.none0(fr:FrOk K F ρ σ H)(h:H a=none):F.H0 a=none:=by
 cases q:F.H0 a with
 |none=>rfl
 |some o=>rw[fr.kp.st a o q (fr.none_nodk h)]at h;cases h
theorem Stay.hs(fr:FrOk K F ρ σ H)(s:Stay F ρ σ H H'):HS H H':=λb o h e=>s b o e
 (λp c d=>by
  obtain⟨_,⟨S,k,e1⟩,ns,e2,_⟩:=fr.kp.dkk p c d
  exact⟨λz=>(by subst z;rw[e1]at e;cases e;cases h),λz=>(by subst z;rw[e2]at e;cases e;cases h)⟩)
 λi s e1 m q=>by
  obtain⟨⟨o',e2,n⟩,_⟩:=fr.own_at e1 m q
  rw[e]at e2;cases e2
  cases o<;>first|exact absurd h Bool.false_ne_true|exact absurd n Bool.false_ne_true
theorem Stay.trans(s1:Stay F ρ σ H H1)(sb:Sbv ρ1 ρ)(s2:Stay F ρ1 σ H1 H2):Stay F ρ σ H H2:=λb o e d n=>
 s2 b o (s1 b o e d n) d λi s e1 m=>by
  obtain⟨s',e2,m'⟩:=sb i s e1 m
  exact n i s' e2 m'
theorem Stp.trans(a:Stp K F σ ρ H ρ1 H1)(b:Stp K F σ ρ1 H1 ρ2 H2):Stp K F σ ρ H ρ2 H2:=⟨b.fr,a.st.trans a.sub b.st,a.sub.trans b.sub,λc o e=>let ⟨o1,e1⟩:=a.tr c o e;b.tr c o1 e1⟩
theorem Stp.refl(fr:FrOk K F ρ σ H):Stp K F σ ρ H ρ H:=⟨fr,λ_ _ e _ _=>e,Sbv.refl _,λ_ o e=>⟨o,e⟩⟩
theorem Stp.hs(a:Stp K F σ ρ H ρ1 H1)(fr:FrOk K F ρ σ H):HS H H1:=a.st.hs fr
theorem FrOk.call(fr:FrOk K F ρ σ H)(k:Kp F.dk H H'):FrOk K F ρ σ H':=by
 have own:∀i s a o,ρ[i]?=some s->eD s=true->ixv σ i=some (.ref a)->H a=some o->H' a=some o:=λi s a o e m q h=>
  k.st a o h (fr.fresh_nodk (fr.own_at e m q).2)
 have hs:HS H H':=λb o h e=>k.st b o e λp c d=>by
  obtain⟨_,⟨S,k,e1⟩,ns,e2,_⟩:=fr.kp.dkk p c d
  exact⟨λz=>(by subst z;rw[e1]at e;cases e;cases h),λz=>(by subst z;rw[e2]at e;cases e;cases h)⟩
 refine⟨fr.d0,⟨λb o e n=>k.st b o (fr.kp.st b o e n) n,k.dkk⟩,fr.len,λi s e=>?_,fr.ap⟩
 have h:=fr.at_ i s e
 cases s with
 |no=>trivial
 |va T=>obtain⟨x,e1,v⟩:=h;exact⟨x,e1,v.hs hs⟩
 |own Ts=>obtain⟨a,xs,e1,e2,e3,z,p⟩:=h;exact⟨a,xs,e1,own i _ a _ e rfl e1 e2,e3,z,p.hs hs⟩
 |dct kts=>obtain⟨a,kvs,e1,e2,e3,n,z,p⟩:=h;exact⟨a,kvs,e1,own i _ a _ e rfl e1 e2,e3,n,z,p.hs hs⟩
 |dk=>exact h
theorem Kp.of_same(fr:FrOk K F ρ σ H)(s:Same H H'):Kp F.dk H H':=⟨λb o e _=>s b o e,λp c d=>by
 obtain⟨ne,⟨S,k,e1⟩,ns,e2,l⟩:=fr.kp.dkk p c d
 exact⟨ne,⟨S,k,s _ _ e1⟩,ns,s _ _ e2,l⟩⟩
theorem Stp.call(fr:FrOk K F ρ σ H)(k:Kp F.dk H H'):Stp K F σ ρ H ρ H':=⟨fr.call k,λb o e d _=>k.st b o e d,Sbv.refl _,λb o e=>k.tr b o e⟩
theorem Stp.same(fr:FrOk K F ρ σ H)(s:Same H H'):Stp K F σ ρ H ρ H':=Stp.call fr (Kp.of_same fr s)
end
theorem Stp.non{K:W.Frag}{F:Fm}{ρ ρ1:aR}{σ:St}{H H1:Hp}{a:Addr}(s:Stp K F σ ρ H ρ1 H1)(n:H1 a=none):H a=none:=by
 cases e:H a with
 |none=>rfl
 |some o=>
  obtain⟨o',e'⟩:=s.tr a o e
  rw[n]at e';cases e'
abbrev UT:=aR->(Tv->aR->Prop)->Prop
abbrev UTt:=aR->(Bool->aR->Prop)->Prop
abbrev UTl:=aR->(List Tv->aR->Prop)->Prop
inductive Ar where
 |va (T:Tv)
 |dk
abbrev UTa:=aR->(List Ar->aR->Prop)->Prop
def tI(K:W.Frag)(dk:Option (Addr×Addr))(H:Hp)(x:V):Ar->Prop
 |.va T=>VA K H x T
 |.dk=>∃p c,dk=some (p,c)/\x=.ref p
def eC(K:W.Frag)(F:Fm)(u:UT):TE:=λσ H QQ=>∃ρ Q,FrOk K F ρ σ H/\u ρ Q/\∀x T H' ρ',Stp K F σ ρ H ρ' H'->VA K H' x T->Q T ρ'->QQ x H'
def rM(K:W.Frag)(F:Fm)(u:UTt):TT:=λσ H QQ=>∃ρ Q,FrOk K F ρ σ H/\u ρ Q/\∀b H' ρ',Stp K F σ ρ H ρ' H'->Q b ρ'->QQ b H'
def rN(K:W.Frag)(F:Fm)(u:UTl):TE:=λσ H QQ=>∃ρ Q,FrOk K F ρ σ H/\u ρ Q/\∀a xs Ts H' ρ',Stp K F σ ρ H ρ' H'->H a=none->H' a=some (.lst xs)->Ts.length<=100000->VAs K H' xs Ts->Q Ts ρ'->QQ (.ref a) H'
def rO(K:W.Frag)(F:Fm)(u:UTa):TA:=λσ H QQ=>∃ρ Q,FrOk K F ρ σ H/\u ρ Q/\∀xs as H' ρ',Stp K F σ ρ H ρ' H'->Paired (tI K F.dk H') xs as->Q as ρ'->QQ xs H'
structure UE (X:Cx) (F:Fm) (e:Expr) (u:UT):Prop where
 pe:PE X e (eC X.K F u)
structure UB (X:Cx) (F:Fm) (e:Expr) (u:UTt):Prop where
 pt:PT X e (rM X.K F u)
structure UW (X:Cx) (F:Fm) (e:Expr) (u:UTt):Prop where
 pw:PW X e (rM X.K F u)
structure UL (X:Cx) (F:Fm) (e:Expr) (u:UTl):Prop where
 pe:PE X e (rN X.K F u)
structure UA (X:Cx) (F:Fm) (es:List Expr) (u:UTa):Prop where
 pa:PA X es (rO X.K F u)
theorem PE.imp{X:Cx}{e:Expr}{t t':TE}(h:PE X e t)(i:∀σ H Q,t' σ H Q->t σ H Q):PE X e t':=λpins s σ H Q I q=>h pins s σ H Q I (i σ H Q q)
theorem PT.imp{X:Cx}{e:Expr}{t t':TT}(h:PT X e t)(i:∀σ H Q,t' σ H Q->t σ H Q):PT X e t':=λpins s σ H Q I q=>h pins s σ H Q I (i σ H Q q)
theorem PW.imp{X:Cx}{e:Expr}{t t':TT}(h:PW X e t)(i:∀σ H Q,t' σ H Q->t σ H Q):PW X e t':=λwh pins s σ H Q I q=>h wh pins s σ H Q I (i σ H Q q)
theorem PA.imp{X:Cx}{es:List Expr}{t t':TA}(h:PA X es t)(i:∀σ H Q,t' σ H Q->t σ H Q):PA X es t':=λpos pins s σ H Q I q=>h pos pins s σ H Q I (i σ H Q q)
theorem Inv.fz{X:Cx}{pins:List (Addr×Obj)}{σ:St}{H:Hp}{s:Shared}{a:Addr}{o:HO}(I:Inv X pins σ H s)(h:H a=some o)(n:fzb o=true):∃ob,Inv X pins σ (upd H a (.frz ob o)) s:=by
 obtain⟨ob,eo⟩:=(I.hok a o h).there
 refine⟨ob,?_⟩
 have keep:∀b u,H b=some u->fzb u=false->upd H a (.frz ob o) b=some u:=λb u e m=>by
  rw[bF (λz=>by subst z;rw[h]at e;cases e;rw[n]at m;cases m)];exact e
 have non:∀b,H b=none->upd H a (.frz ob o) b=none:=λb e=>by
  rw[bF (λz=>by subst z;rw[h]at e;cases e)];exact e
 refine⟨I.ok,I.os,I.bare,⟨I.base.keep,I.base.slot,λb o e n hx=>non b (I.base.free b o e n hx),I.base.there,λb xs e=>keep b _ (I.base.tups b xs e) rfl,λb o u e=>keep b _ (I.base.frzs b o u e) rfl,λb ps e=>?_⟩,I.loc,I.cell,non _ I.free,λx c e=>non c (I.freeC x c e),λp hp=>?_,λb u e=>?_,I.len⟩
 ·obtain⟨more,z⟩:=I.base.tbls b ps e
  exact⟨more,keep b _ z rfl⟩
 ·obtain⟨p1,p2,p3⟩:=I.pin p hp
  exact⟨p1,non _ p2,p3⟩
 ·have st:∀b u,ObjOk X.prog X.w H s.heap b u->ObjOk X.prog X.w (upd H a (.frz ob o)) s.heap b u:=λb u x=>x.stay (λ_ _ _ r=>r) (λd r=>keep d _ r rfl) λd xs r=>keep d _ r rfl
  by_cases z:b=a
  ·subst z
   rw[bE]at e
   cases e
   exact⟨eo,st _ _ (I.hok b o h)⟩
  ·rw[bF z]at e
   exact st _ _ (I.hok b u e)
def FzQ(Q:VK):VK:=λz H=>Q z H\/∃a o,z=.ref a/\H a=some o/\fzb o=true/\∀ob,Q z (upd H a (.frz ob o))
def tFz(t:TE):TE:=λσ H Q=>t σ H (FzQ Q)
theorem EP.fz{X:Cx}{pins:List (Addr×Obj)}{σ:St}{Q:VK}{u:Value}{s:Shared}(h:EP X pins σ (FzQ Q) u s):EP X pins σ Q u s:=by
 obtain⟨x,H',I,r,q⟩:=h
 rcases q with q|⟨a,o,rfl,e,n,q⟩
 ·exact⟨x,H',I,r,q⟩
 ·obtain⟨ob,I'⟩:=I.fz e n
  exact⟨_,_,I',r,q ob⟩
theorem PE.fz{X:Cx}{e:Expr}{t:TE}(h:PE X e t):PE X e (tFz t):=λpins s σ H Q I q=>thn (h pins s σ H _ I q) λ_ _ z=>z.fz
def Raw(K:W.Frag)(H H':Hp)(z:V)(W:Tv):Prop:=Same H H'/\(VA K H' z W\/∃a,z=.ref a/\H a=none /\
 ((∃xs Ts,H' a=some (.lst xs)/\W=.seq false Ts/\Ts.length<=100000/\VAs K H' xs Ts)\/∃kvs kts,H' a=some (.dK kvs)/\W=.dct kts/\(kts.map (·.1)).Nodup/\kts.length<64/\VAk K H' kvs kts))
section
variable{K:W.Frag}{F:Fm}{ρ ρ1 ρ2:aR}{σ:St}{H H' H1 H2:Hp}{x y v z:V}{T U W:Tv}{a b:Addr}{o:HO}
theorem Raw.va(v:VA K H z W):Raw K H H z W:=⟨Same.refl _,.inl v⟩
theorem Raw.flat(h:cY z=true):Raw K H H z (.leaf z):=.va (.flat h)
theorem Raw.lst{xs:List V}{Ts:List Tv}(n:H a=none)(z:Ts.length<=100000)(p:VAs K H xs Ts):Raw K H (upd H a (.lst xs)) (.ref a) (.seq false Ts):=
 ⟨cL n,.inr ⟨a,rfl,n,.inl ⟨xs,Ts,bE,rfl,z,p.hs (gR n)⟩⟩⟩
theorem Raw.tup{xs:List V}{Ts:List Tv}(n:H a=none)(z:Ts.length<=100000)(p:VAs K H xs Ts):Raw K H (upd H a (.tup xs)) (.ref a) (.seq true Ts):=
 ⟨cL n,.inl (VA.seq (t:=true) (SqT.of bE) z (p.hs (gR n)))⟩
theorem Stp.frz(fr:FrOk K F ρ σ H)(s:Same H H')(n:H a=none)(e:H' a=some o)(m:fzb o=true)(ob:Obj):Stp K F σ ρ H ρ (upd H' a (.frz ob o)):=
 Stp.same fr λb u q=>by rw[bF (dR q n)];exact s b u q
theorem Raw.fin(fr:FrOk K F ρ σ H)(r:Raw K H H' z W){QQ:VK}(k:∀H'',Stp K F σ ρ H ρ H''->VA K H'' z W->QQ z H''):FzQ QQ z H':=by
 obtain⟨s,v|⟨a,rfl,n,⟨xs,Ts,e,rfl,l,p⟩|⟨kvs,kts,e,rfl,nd,l,p⟩⟩⟩:=r
 ·exact .inl (k H' (Stp.same fr s) v)
 ·refine .inr ⟨a,_,rfl,e,rfl,λob=>k _ (Stp.frz fr s n e rfl ob) (VA.seq (t:=false) ⟨ob,bE⟩ l (p.hs (fX e rfl)))⟩
 ·refine .inr ⟨a,_,rfl,e,rfl,λob=>k _ (Stp.frz fr s n e rfl ob) (VA.dct ⟨ob,bE⟩ nd l (p.hs (fX e rfl)))⟩
end
end L2
namespace L2
open PySem PySem.Spec PyProof.Rows WordM
abbrev iT(i:Int):Tv:=.leaf (.int i)
abbrev sT(x:Str):Tv:=.leaf (.str x)
abbrev bT(b:Bool):Tv:=.leaf (.bl b)
abbrev nT:Tv:=.leaf .non
abbrev P1:=Tv->(Tv->Prop)->Prop
abbrev P2:=Tv->Tv->(Tv->Prop)->Prop
abbrev Pn:=List Tv->(Tv->Prop)->Prop
section
variable{X:Cx}{F:Fm}
def zCu(i:Nat):UT:=λρ Q=>match ρ[i]? with
 |some (.va T)=>Q T ρ
 |some (.own Ts)=>Q (.seq false Ts) (ρ.set i (.va (.seq false Ts)))
 |some (.dct kts)=>Q (.dct kts) (ρ.set i (.va (.dct kts)))
 |_=>False
theorem hG{σ:St}{i:Nat}{x:V}(h:ixv σ i=some x):σ[i]?=some (some x):=by
 unfold ixv at h
 cases q:σ[i]? with
 |none=>rw[q]at h;cases h
 |some o=>rw[q]at h;cases o with
  |none=>cases h
  |some y=>cases h;rfl
theorem zI6{σ:St}{i:Nat}{x:V}(h:σ[i]?=some (some x)):ixv σ i=some x:=by
 unfold ixv;rw[h];rfl
theorem FrOk.fzs{K:W.Frag}{ρ:aR}{σ:St}{H:Hp}{i:Nat}{s:Sl}{a:Addr}{o:HO}{T:Tv}(fr:FrOk K F ρ σ H)(e:ρ[i]?=some s)(m:eD s=true)(q:ixv σ i=some (.ref a))(h:H a=some o)(n:fzb o=true)(ob:Obj)
  (v:VA K (upd H a (.frz ob o)) (.ref a) T):Stp K F σ ρ H (ρ.set i (.va T)) (upd H a (.frz ob o)):=by
 have hi:i<ρ.length:=(List.getElem?_eq_some_iff.mp e).1
 have h0:=(fr.own_at e m q).2
 have hd:=fr.fresh_nodk h0
 have hs:HS H (upd H a (.frz ob o)):=fX h (by cases o<;>first|rfl|exact absurd n Bool.false_ne_true)
 have st:∀b u,b≠a->H b=some u->upd H a (.frz ob o) b=some u:=λb u z e=>by rw[bF z];exact e
 refine⟨⟨fr.d0,⟨λb u e1 n1=>st b u (λz=>by rw[z,h0]at e1;cases e1) (fr.kp.st b u e1 n1),λp c d=>?_⟩,by rw[List.length_set];exact fr.len,λj s' e'=>?_,λj k b s' t' e1 e2 m1 m2 q1 q2=>?_⟩,λb u e1 _ n1=>st b u (λz=>n1 i s e m (by rw[z];exact q)) e1,λj s' e' m'=>?_,λb u e1=>if z:b=a then⟨.frz ob o,z▸bE⟩ else⟨u,st b u z e1⟩⟩
 ·obtain⟨ne,⟨S,k,e1⟩,ns,e2,l⟩:=fr.kp.dkk p c d
  exact⟨ne,⟨S,k,st _ _ (hd p c d).1.symm e1⟩,ns,st _ _ (hd p c d).2.symm e2,l⟩
 ·by_cases z:i=j
  ·subst z
   rw[List.getElem?_set_self hi]at e'
   cases e'
   exact⟨_,q,v⟩
  ·rw[List.getElem?_set_ne z]at e'
   have x:=fr.at_ j s' e'
   cases s' with
   |no=>trivial
   |va T=>obtain⟨y,e1,v⟩:=x;exact⟨y,e1,v.hs hs⟩
   |own Ts=>obtain⟨b,xs,e1,e2,e3,z',p⟩:=x;exact⟨b,xs,e1,st _ _ (λy=>z (fr.ap i j a s _ e e' m rfl q (by rw[e1,y]))) e2,e3,z',p.hs hs⟩
   |dct kts=>obtain⟨b,kvs,e1,e2,e3,n',z',p⟩:=x;exact⟨b,kvs,e1,st _ _ (λy=>z (fr.ap i j a s _ e e' m rfl q (by rw[e1,y]))) e2,e3,n',z',p.hs hs⟩
   |dk=>exact x
 ·by_cases z1:i=j
  ·subst z1;rw[List.getElem?_set_self hi]at e1;cases e1;cases m1
  ·by_cases z2:i=k
   ·subst z2;rw[List.getElem?_set_self hi]at e2;cases e2;cases m2
   ·rw[List.getElem?_set_ne z1]at e1
    rw[List.getElem?_set_ne z2]at e2
    exact fr.ap j k b s' t' e1 e2 m1 m2 q1 q2
 ·by_cases z:i=j
  ·subst z;rw[List.getElem?_set_self hi]at e';cases e';cases m'
  ·rw[List.getElem?_set_ne z]at e';exact⟨s',e',m'⟩
theorem aA(i:Nat){x:Str}{pos:Pos}(hN:X.N[i]?=some x:=by rfl)(hv:Vis X.env.scope x:=by first|exact Or.inl rfl|exact Or.inr (Or.inl rfl)|exact Or.inr (Or.inr rfl))(hd:(x==("__debug__":Str))=false:=by decide)(hcd:(x==("__classdict__":Str))=false:=by decide):
  UE X F (.Name x pos) (zCu i):=by
 refine⟨PE.imp (PE.fz (iX hN hv hd hcd)) ?_⟩
 rintro σ H QQ ⟨ρ,Q,fr,h,k⟩
 unfold zCu at h
 split at h
 ·rename_i T e
  obtain⟨y,e1,v⟩:=fr.at_ i _ e
  exact⟨y,hG e1,.inl (k y T H ρ (Stp.refl fr) v h)⟩
 ·rename_i Ts e
  obtain⟨a,xs,e1,e2,e3,z,p⟩:=fr.at_ i _ e
  refine⟨_,hG e1,.inr ⟨a,_,rfl,e2,rfl,λob=>?_⟩⟩
  have v:VA X.K (upd H a (.frz ob (.lst xs))) (.ref a) (.seq false Ts):=VA.seq (t:=false) ⟨ob,bE⟩ z (p.hs (fX e2 rfl))
  exact k _ _ _ _ (fr.fzs e rfl e1 e2 rfl ob v) v h
 ·rename_i kts e
  obtain⟨a,kvs,e1,e2,e3,n,z,p⟩:=fr.at_ i _ e
  refine⟨_,hG e1,.inr ⟨a,_,rfl,e2,rfl,λob=>?_⟩⟩
  have v:VA X.K (upd H a (.frz ob (.dK kvs))) (.ref a) (.dct kts):=VA.dct ⟨ob,bE⟩ n z (p.hs (fX e2 rfl))
  exact k _ _ _ _ (fr.fzs e rfl e1 e2 rfl ob v) v h
 ·exact False.elim h
def uC(T:Tv):UT:=λρ Q=>Q T ρ
theorem rS{e:Expr}{v:V}(h:PE X e (tC v))(f:cY v=true):UE X F e (uC (.leaf v)):=⟨PE.imp h λσ H QQ ⟨ρ,Q,fr,h,k⟩=>k v (.leaf v) H ρ (Stp.refl fr) (.flat f) h⟩
theorem aD{i j pos}:UE X F (.Constant (.int i) j pos) (uC (iT i)):=rS cA rfl
theorem cB{b j pos}:UE X F (.Constant (.bool b) j pos) (uC (bT b)):=rS zJ0 rfl
theorem iU{j pos}:UE X F (.Constant .none j pos) (uC nT):=rS zIF rfl
theorem bA{x j pos}:UE X F (.Constant (.str x) j pos) (uC (sT x)):=rS zBS rfl
theorem zGC{x:Str}{v:V}{u:Value}{T:Tv}{pos:Pos}(hg:Gl X x)(hm:X.mg x=some u)(r:RelV v u)(hv:∀H,VA X.K H v T)(hd:(x==("__debug__":Str))=false:=by decide):UE X F (.Name x pos) (uC T):=
 ⟨PE.imp (vH hg hm r hd) λσ H QQ ⟨ρ,Q,fr,h,k⟩=>k v T H ρ (Stp.refl fr) (hv H) h⟩
def tG(K:W.Frag)(r:P2)(r':R2):Prop:=∀x y T U H Q (QQ:VK),VA K H x T->VA K H y U->r T U Q->(∀z W H',Raw K H H' z W->Q W->QQ z H')->r' x y H QQ
def fQ(X:Cx)(f:Value->Value->Sem Value)(r:P2):Prop:=∃r',OpR X f r'/\tG X.K r r'
def uOp(r:P2)(ua ub:UT):UT:=λρ Q=>ua ρ λa ρ1=>ub ρ1 λb ρ2=>r a b λc=>Q c ρ2
theorem vK{r:P2}{r':R2}{ua ub:UT}(hr:tG X.K r r')(σ:St)(H:Hp)(QQ:VK)(h:eC X.K F (uOp r ua ub) σ H QQ):tFz (tOp r' (eC X.K F ua) (eC X.K F ub)) σ H QQ:=by
 obtain⟨ρ,Q,fr,h,k⟩:=h
 refine⟨ρ,_,fr,h,λx T H1 ρ1 s1 v1 q1=>⟨ρ1,_,s1.fr,q1,λy U H2 ρ2 s2 v2 q2=>?_⟩⟩
 refine hr x y T U H2 _ _ (v1.hs (s2.hs s1.fr)) v2 q2 λz W H' rw q=>rw.fin s2.fr λH'' s3 v3=>k _ _ _ _ ((s1.trans s2).trans s3) v3 q
variable{a b c:Expr}{ua ub uc:UT}{pos:Pos}
theorem aW{op:Operator}{r:P2}(ho:fQ X (binaryOp op) r)(ha:UE X F a ua)(hb:UE X F b ub):UE X F (.BinOp a op b pos) (uOp r ua ub):=by
 obtain⟨r',o,hr⟩:=ho
 exact⟨PE.imp (PE.fz (cR o ha.pe hb.pe)) (vK hr)⟩
theorem zHT{op:CmpOp}{r:P2}(ho:fQ X (compareOp op) r)(ha:UE X F a ua)(hb:UE X F b ub)(hm:behindInMarks op b=false):UE X F (.Compare a [op] [b] pos) (uOp r ua ub):=by
 obtain⟨r',o,hr⟩:=ho
 exact⟨PE.imp (PE.fz (zG7 o ha.pe hb.pe hm)) (vK hr)⟩
def uB(u:UT):UTt:=λρ Q=>u ρ λT ρ'=>∃b,T=bT b/\Q b ρ'
theorem zJq{e:Expr}{t:TE}{u:UT}(h:PT X e (zCb t))(i:∀σ H QQ,eC X.K F u σ H QQ->t σ H QQ):UB X F e (uB u):=⟨PT.imp h λσ H QQ ⟨ρ,Q,fr,h,k⟩=>by
 refine i σ H _ ⟨ρ,_,fr,h,λx T H' ρ' s v q=>?_⟩
 obtain⟨b,rfl,q⟩:=q
 obtain⟨e,_⟩:=v.leafI
 exact⟨b,e,k b H' ρ' s q⟩⟩
def PuR2f(K:W.Frag)(r:P2)(r':R2):Prop:=∀x y T U H Q (QQ:VK),VA K H x T->VA K H y U->r T U Q->(∀z W H',Same H H'->VA K H' z W->Q W->QQ z H')->r' x y H QQ
def PuCmp(X:Cx)(f:Value->Value->Sem Value)(r:P2):Prop:=∃r',OpR X f r'/\PuR2f X.K r r'
theorem PuR2f.raw{K:W.Frag}{r:P2}{r':R2}(h:PuR2f K r r'):tG K r r':=λx y T U H Q QQ vx vy q k=>h x y T U H Q QQ vx vy q λz W H' s v q'=>k z W H' ⟨s,.inl v⟩ q'
theorem PuCmp.op{f:Value->Value->Sem Value}{r:P2}(h:PuCmp X f r):fQ X f r:=by
 obtain⟨r',o,h⟩:=h
 exact⟨r',o,h.raw⟩
theorem zF4{r:P2}{r':R2}{ua ub:UT}(hr:PuR2f X.K r r')(σ:St)(H:Hp)(QQ:VK)(h:eC X.K F (uOp r ua ub) σ H QQ):tOp r' (eC X.K F ua) (eC X.K F ub) σ H QQ:=by
 obtain⟨ρ,Q,fr,h,k⟩:=h
 refine⟨ρ,_,fr,h,λx T H1 ρ1 s1 v1 q1=>⟨ρ1,_,s1.fr,q1,λy U H2 ρ2 s2 v2 q2=>?_⟩⟩
 exact hr x y T U H2 _ _ (v1.hs (s2.hs s1.fr)) v2 q2 λz W H' s v q=>k _ _ _ _ ((s1.trans s2).trans (Stp.same s2.fr s)) v q
theorem vT{op:CmpOp}{r:P2}(ho:PuCmp X (compareOp op) r)(ha:UE X F a ua)(hb:UE X F b ub)(hm:behindInMarks op b=false):UB X F (.Compare a [op] [b] pos) (uB (uOp r ua ub)):=by
 obtain⟨r',o,hr⟩:=ho
 exact zJq (vB o ha.pe hb.pe hm) (zF4 hr)
def zBF(r r':P2)(ua ub uc:UT):UT:=λρ Q=>ua ρ λa ρ1=>ub ρ1 λb ρ2=>r a b λz=>∃k,z=bT k/\(if k=true then uc ρ2 λc ρ3=>r' b c λw=>Q w ρ3 else Q (bT false) ρ2)
theorem zD3{r r':P2}{s s':R2}(hr:PuR2f X.K r s)(hr':PuR2f X.K r' s')(σ:St)(H:Hp)(QQ:VK)(h:eC X.K F (zBF r r' ua ub uc) σ H QQ):zBH s s' (eC X.K F ua) (eC X.K F ub) (eC X.K F uc) σ H QQ:=by
 obtain⟨ρ,Q,fr,h,k⟩:=h
 refine⟨ρ,_,fr,h,λx T H1 ρ1 s1 v1 q1=>⟨ρ1,_,s1.fr,q1,λy U H2 ρ2 s2 v2 q2=>?_⟩⟩
 refine hr x y T U H2 _ _ (v1.hs (s2.hs s1.fr)) v2 q2 λz W H3 ss v3 q3=>?_
 obtain⟨b,rfl,q3⟩:=q3
 obtain⟨e,_⟩:=v3.leafI
 have s3:=Stp.same s2.fr ss
 refine⟨b,e,?_⟩
 cases b with
 |false=>
  rw[if_neg Bool.false_ne_true]at q3 ⊢
  exact k _ _ _ _ ((s1.trans s2).trans s3) (.flat rfl) q3
 |true=>
  rw[if_pos rfl]at q3 ⊢
  refine⟨ρ2,_,s3.fr,q3,λz' W' H4 ρ4 s4 v4 q4=>?_⟩
  exact hr' y z' U W' H4 _ _ ((v2.hs (s3.hs s2.fr)).hs (s4.hs s3.fr)) v4 q4 λz5 W5 H5 s5 v5 q5=>k _ _ _ _ (((s1.trans s2).trans s3).trans (s4.trans (Stp.same s4.fr s5))) v5 q5
theorem pY{op op':CmpOp}{r r':P2}(ho:PuCmp X (compareOp op) r)(ho':PuCmp X (compareOp op') r')(ha:UE X F a ua)(hb:UE X F b ub)(hc:UE X F c uc)(hm:lastMarks [op,op'] [b,c]=false:=by with_unfolding_all rfl):
  UE X F (.Compare a [op,op'] [b,c] pos) (zBF r r' ua ub uc):=by
 obtain⟨s,o,hr⟩:=ho
 obtain⟨s',o',hr'⟩:=ho'
 exact⟨PE.imp (zFV o o' ha.pe hb.pe hc.pe hm) (zD3 hr hr')⟩
def zCS(X:Cx)(f:Value->Sem Value)(r:P1):Prop:=∃r',UnR X f r'/\∀x T H Q (QQ:VK),VA X.K H x T->r T Q->(∀z W,VA X.K H z W->Q W->QQ z H)->r' x H QQ
def uUn(r:P1)(ua:UT):UT:=λρ Q=>ua ρ λa ρ1=>r a λc=>Q c ρ1
theorem zB9{op:UnaryOp}{r:P1}(ho:zCS X (unaryOp op) r)(ha:UE X F a ua):UE X F (.UnaryOp op a pos) (uUn r ua):=by
 obtain⟨r',o,hr⟩:=ho
 refine⟨PE.imp (zCe o ha.pe) ?_⟩
 rintro σ H QQ ⟨ρ,Q,fr,h,k⟩
 exact⟨ρ,_,fr,h,λx T H1 ρ1 s1 v1 q1=>hr x T H1 _ _ v1 q1 λz W v q=>k _ _ _ _ s1 v q⟩
def zCH:P1
 |.leaf (.int i),Q=>Q (iT (-i))
 |_,_=>False
theorem zBO:zCS X (unaryOp .USub) zCH:=⟨_,zBC,λx T H Q QQ v h k=>by
 unfold zCH at h
 split at h
 ·obtain⟨rfl,_⟩:=v.leafI
  exact⟨_,rfl,k _ _ (.flat rfl) h⟩
 ·exact False.elim h⟩
def zJz(ua ub:UT):UT:=λρ Q=>ua ρ λa ρ1=>∃c,a=bT c/\if c=true then ub ρ1 Q else Q (bT false) ρ1
def zJt(ua:UT):UT:=λρ Q=>ua ρ λa ρ1=>∃c,a=bT c/\Q (bT (!c)) ρ1
theorem cZ{op}{u:UT}(h:UE X F a u):UE X F (.BoolOp op [a] pos) u:=⟨zID h.pe⟩
theorem bX{rest:List Expr}(ha:UE X F a ua)(hb:UE X F (.BoolOp .And (b::rest) pos) ub):UE X F (.BoolOp .And (a::b::rest) pos) (zJz ua ub):=⟨PE.imp (zII ha.pe hb.pe) λσ H QQ ⟨ρ,Q,fr,h,k⟩=>by
 refine⟨ρ,_,fr,h,λx T H1 ρ1 s1 v1 q1=>?_⟩
 obtain⟨c,rfl,q1⟩:=q1
 obtain⟨e,_⟩:=v1.leafI
 refine⟨c,e,?_⟩
 cases c with
 |false=>rw[if_neg Bool.false_ne_true]at q1 ⊢;exact k _ _ _ _ s1 (.flat rfl) q1
 |true=>rw[if_pos rfl]at q1 ⊢;exact⟨ρ1,_,s1.fr,q1,λy U H2 ρ2 s2 v2 q2=>k _ _ _ _ (s1.trans s2) v2 q2⟩⟩
theorem zHS(ha:UE X F a ua):UE X F (.UnaryOp .Not a pos) (zJt ua):=⟨PE.imp (zIE ha.pe) λσ H QQ ⟨ρ,Q,fr,h,k⟩=>by
 refine⟨ρ,_,fr,h,λx T H1 ρ1 s1 v1 q1=>?_⟩
 obtain⟨c,rfl,q1⟩:=q1
 obtain⟨e,_⟩:=v1.leafI
 exact⟨c,e,k _ _ _ _ s1 (.flat rfl) q1⟩⟩
def zKw(t u:UTt):UTt:=λρ Q=>t ρ λc ρ1=>if c=true then u ρ1 Q else Q false ρ1
def uOr(t u:UTt):UTt:=λρ Q=>t ρ λc ρ1=>if c=true then Q true ρ1 else u ρ1 Q
def zKt(t:UTt):UTt:=λρ Q=>t ρ λc ρ1=>Q (!c) ρ1
variable{ta tb:UTt}{rest:List Expr}
theorem qC(ha:UB X F a ta):UW X F (.BoolOp .And [a] pos) ta:=⟨zGS ha.pt⟩
theorem cW(ha:UB X F a ta):UW X F (.BoolOp .Or [a] pos) ta:=⟨zIj ha.pt⟩
theorem nU(ha:UB X F a ta)(hb:UW X F (.BoolOp .And (b::rest) pos) tb):UW X F (.BoolOp .And (a::b::rest) pos) (zKw ta tb):=⟨PW.imp (zIk ha.pt hb.pw) λσ H QQ ⟨ρ,Q,fr,h,k⟩=>by
 refine⟨ρ,_,fr,h,λc H1 ρ1 s1 q1=>?_⟩
 cases c with
 |false=>rw[if_neg Bool.false_ne_true]at q1 ⊢;exact k _ _ _ s1 q1
 |true=>rw[if_pos rfl]at q1 ⊢;exact⟨ρ1,_,s1.fr,q1,λy H2 ρ2 s2 q2=>k _ _ _ (s1.trans s2) q2⟩⟩
theorem bV(ha:UB X F a ta)(hb:UW X F (.BoolOp .Or (b::rest) pos) tb):UW X F (.BoolOp .Or (a::b::rest) pos) (uOr ta tb):=⟨PW.imp (zJY ha.pt hb.pw) λσ H QQ ⟨ρ,Q,fr,h,k⟩=>by
 refine⟨ρ,_,fr,h,λc H1 ρ1 s1 q1=>?_⟩
 cases c with
 |true=>rw[if_pos rfl]at q1 ⊢;exact k _ _ _ s1 q1
 |false=>rw[if_neg Bool.false_ne_true]at q1 ⊢;exact⟨ρ1,_,s1.fr,q1,λy H2 ρ2 s2 q2=>k _ _ _ (s1.trans s2) q2⟩⟩
theorem cG{e:Expr}{t:UTt}(h:UW X F e t):UB X F e t:=⟨h.pw.pt⟩
theorem cI(ha:UB X F a ta):UB X F (.UnaryOp .Not a pos) (zKt ta):=⟨PT.imp (zIs ha.pt) λσ H QQ ⟨ρ,Q,fr,h,k⟩=>⟨ρ,_,fr,h,λc H1 ρ1 s1 q1=>k _ _ _ s1 q1⟩⟩
theorem bI{e:Expr}{u:UT}(h:UE X F e u)(he:∀whole,isTrue e X.env whole=(do let v <- whole;standAt e.pos;holding [v] (truthy v)):=by intro _;rfl):UB X F e (uB u):=⟨PT.imp (zIr h.pe he) λσ H QQ ⟨ρ,Q,fr,h,k⟩=>by
 refine⟨ρ,_,fr,h,λx T H' ρ' s v q=>?_⟩
 obtain⟨b,rfl,q⟩:=q
 obtain⟨e,_⟩:=v.leafI
 exact⟨b,e,k b H' ρ' s q⟩⟩
def uIf(t:UTt)(ua ub:UT):UT:=λρ Q=>t ρ λc ρ1=>if c=true then ua ρ1 Q else ub ρ1 Q
theorem zFs(hc:UB X F c ta)(ha:UE X F a ua)(hb:UE X F b ub):UE X F (.IfExp c a b pos) (uIf ta ua ub):=⟨PE.imp (zFT hc.pt ha.pe hb.pe) λσ H QQ ⟨ρ,Q,fr,h,k⟩=>by
 refine⟨ρ,_,fr,h,λc H1 ρ1 s1 q1=>?_⟩
 cases c with
 |true=>rw[if_pos rfl]at q1 ⊢;exact⟨ρ1,_,s1.fr,q1,λy U H2 ρ2 s2 v2 q2=>k _ _ _ _ (s1.trans s2) v2 q2⟩
 |false=>rw[if_neg Bool.false_ne_true]at q1 ⊢;exact⟨ρ1,_,s1.fr,q1,λy U H2 ρ2 s2 v2 q2=>k _ _ _ _ (s1.trans s2) v2 q2⟩⟩
def oQ:UTa:=λρ Q=>Q [] ρ
def zJy(u:UT)(t:UTa):UTa:=λρ Q=>u ρ λT ρ1=>t ρ1 λas ρ2=>Q (.va T::as) ρ2
def uDk(i:Nat)(t:UTa):UTa:=λρ Q=>ρ[i]?=some .dk/\t ρ λas ρ2=>Q (.dk::as) ρ2
theorem aC:UA X F [] oQ:=⟨PA.imp dS λσ H QQ ⟨ρ,Q,fr,h,k⟩=>k [] [] H ρ (Stp.refl fr) .nil h⟩
theorem aB{e:Expr}{es:List Expr}{u:UT}{t:UTa}(ha:UE X F e u)(hr:UA X F es t)(h:dZ e=false:=by rfl):UA X F (e::es) (zJy u t):=⟨PA.imp (dA ha.pe hr.pa h) λσ H QQ ⟨ρ,Q,fr,h,k⟩=>by
 refine⟨ρ,_,fr,h,λx T H1 ρ1 s1 v1 q1=>⟨ρ1,_,s1.fr,q1,λxs as H2 ρ2 s2 p2 q2=>?_⟩⟩
 exact k _ _ _ _ (s1.trans s2) (.cons (b:=Ar.va T) (v1.hs (s2.hs s1.fr)) p2) q2⟩
theorem aY(i:Nat){x:Str}{pos:Pos}{es:List Expr}{t:UTa}(hr:UA X F es t)(hN:X.N[i]?=some x:=by rfl)(hv:Vis X.env.scope x:=by first|exact Or.inl rfl|exact Or.inr (Or.inl rfl)|exact Or.inr (Or.inr rfl))(hd:(x==("__debug__":Str))=false:=by decide)(hcd:(x==("__classdict__":Str))=false:=by decide):
  UA X F (.Name x pos::es) (uDk i t):=⟨PA.imp (dA (iX hN hv hd hcd) hr.pa rfl) λσ H QQ ⟨ρ,Q,fr,⟨e,h⟩,k⟩=>by
 obtain⟨p,c,ed,ex⟩:=fr.at_ i _ e
 refine⟨_,hG ex,ρ,_,fr,h,λxs as H2 ρ2 s2 p2 q2=>?_⟩
 exact k _ _ _ _ s2 (.cons (b:=Ar.dk) ⟨p,c,ed,rfl⟩ p2) q2⟩
def vsK:List Ar->(List Tv->Prop)->Prop
 |[],Q=>Q []
 |.va T::as,Q=>vsK as λTs=>Q (T::Ts)
 |.dk::_,_=>False
theorem fV:∀{as:List Ar}{Q:List Tv->Prop},vsK as Q->∃Ts,as=Ts.map Ar.va/\Q Ts
 |[],_,h=>⟨[],rfl,h⟩
 |.va T::as,Q,h=>by
  obtain⟨Ts,rfl,q⟩:=fV (as:=as) (Q:=λTs=>Q (T::Ts)) h
  exact⟨T::Ts,rfl,q⟩
 |.dk::_,_,h=>False.elim h
def uVs(ua:UTa):UTl:=λρ Q=>ua ρ λas ρ1=>vsK as λTs=>Q Ts ρ1
theorem fW{K:W.Frag}{dk:Option (Addr×Addr)}{H:Hp}:∀{xs:List V}{Ts:List Tv},Paired (tI K dk H) xs (Ts.map Ar.va)->VAs K H xs Ts
 |[],[],_=>.nil
 |_::_,_::_,.cons r t=>.cons r (fW t)
def zKr(ua:UTa):UT:=λρ Q=>uVs ua ρ λTs ρ1=>Ts.length<=100000/\Q (.seq true Ts) ρ1
def zKu(ua:UTa):UTl:=λρ Q=>uVs ua ρ λTs ρ1=>Ts.length<=100000/\Q Ts ρ1
theorem fI{n:Nat}(h:n<=100000):n<=sizeLine:=by rw[sizeLine_eq];omega
theorem vJ{n:Nat}(h:n<100000):n<sizeLine:=by rw[sizeLine_eq];omega
theorem bM{es:List Expr}{t:UTa}{x1}(h:UA X F es t):UE X F (.Tuple es x1 pos) (zKr t):=⟨PE.imp (zIB h.pa) λσ H QQ ⟨ρ,Q,fr,h,k⟩=>by
 refine⟨ρ,_,fr,h,λxs as H1 ρ1 s1 p1 q1=>?_⟩
 obtain⟨Ts,rfl,z,q⟩:=fV q1
 have p:=fW p1
 have l:xs.length=Ts.length:=Paired.length p
 refine⟨fI (by omega),λa n=>?_⟩
 have r:=Raw.tup (K:=X.K) n z p
 exact k _ _ _ _ (s1.trans (Stp.same s1.fr r.1)) (VA.seq (t:=true) (SqT.of bE) z (p.hs (gR n))) q⟩
theorem bR{es:List Expr}{t:UTa}(h:UA X F es t):UL X F (.List es pos) (zKu t):=⟨PE.imp (zBT h.pa) λσ H QQ ⟨ρ,Q,fr,h,k⟩=>by
 refine⟨ρ,_,fr,h,λxs as H1 ρ1 s1 p1 q1=>?_⟩
 obtain⟨Ts,rfl,z,q⟩:=fV q1
 have p:=fW p1
 have l:xs.length=Ts.length:=Paired.length p
 refine⟨fI (by omega),λa n=>?_⟩
 exact k _ _ _ _ _ (s1.trans (Stp.same s1.fr (cL n))) (s1.non n) bE z (p.hs (gR n)) q⟩
end
end L2
namespace L2
open PySem PySem.Spec PyProof.Rows WordM
theorem FrOk.fzn{K:W.Frag}{F:Fm}{ρ:aR}{σ:St}{H:Hp}{a:Addr}{o:HO}(fr:FrOk K F ρ σ H)(h:H a=some o)(n:fzb o=true)(h0:F.H0 a=none)(na:∀(i:Nat) (s:Sl),ρ[i]?=some s->eD s=true->ixv σ i≠some (.ref a))(o':HO):FrOk K F ρ σ (upd H a o'):=by
 have hd:=fr.fresh_nodk h0
 have hs:HS H (upd H a o'):=fX h (by cases o<;>first|rfl|exact absurd n Bool.false_ne_true)
 have st:∀b u,b≠a->H b=some u->upd H a o' b=some u:=λb u z e=>by rw[bF z];exact e
 refine⟨fr.d0,⟨λb u e1 n1=>st b u (λz=>by rw[z,h0]at e1;cases e1) (fr.kp.st b u e1 n1),λp c d=>?_⟩,fr.len,λj s' e'=>?_,fr.ap⟩
 ·obtain⟨ne,⟨S,k,e1⟩,ns,e2,l⟩:=fr.kp.dkk p c d
  exact⟨ne,⟨S,k,st _ _ (hd p c d).1.symm e1⟩,ns,st _ _ (hd p c d).2.symm e2,l⟩
 ·have x:=fr.at_ j s' e'
  cases s' with
  |no=>trivial
  |va T=>obtain⟨y,e1,v⟩:=x;exact⟨y,e1,v.hs hs⟩
  |own Ts=>obtain⟨b,xs,e1,e2,e3,z',p⟩:=x;exact⟨b,xs,e1,st _ _ (λy=>na j _ e' rfl (by rw[e1,y])) e2,e3,z',p.hs hs⟩
  |dct kts=>obtain⟨b,kvs,e1,e2,e3,n',z',p⟩:=x;exact⟨b,kvs,e1,st _ _ (λy=>na j _ e' rfl (by rw[e1,y])) e2,e3,n',z',p.hs hs⟩
  |dk=>exact x
theorem Stp.notown{K:W.Frag}{F:Fm}{ρ ρ1:aR}{σ:St}{H H1:Hp}{a:Addr}(s:Stp K F σ ρ H ρ1 H1)(fr:FrOk K F ρ σ H)(n:H a=none):∀(i:Nat) (s:Sl),ρ1[i]?=some s->eD s=true->ixv σ i≠some (.ref a):=λi s' e m q=>by
 obtain⟨s0,e0,m0⟩:=s.sub i s' e m
 obtain⟨⟨o,e1,_⟩,_⟩:=fr.own_at e0 m0 q
 rw[n]at e1;cases e1
theorem Stp.put{K:W.Frag}{F:Fm}{ρ ρ1:aR}{σ:St}{H H1:Hp}{a:Addr}{o:HO}(s:Stp K F σ ρ H ρ1 H1)(fr:FrOk K F ρ σ H)(n:H a=none)(e:H1 a=some o)(m:fzb o=true)(o':HO):Stp K F σ ρ H ρ1 (upd H1 a o'):=
 ⟨s.fr.fzn e m (fr.none0 n) (s.notown fr n) o',λb u q d n1=>by rw[bF (dR q n)];exact s.st b u q d n1,s.sub,λb u q=>by rw[bF (dR q n)];exact s.tr b u q⟩
section
variable{X:Cx}{F:Fm}{e:Expr}{pos:Pos}
def uL(u:UTl):UT:=λρ Q=>u ρ λTs ρ1=>Q (.seq false Ts) ρ1
theorem aX{u:UTl}(h:UL X F e u):UE X F e (uL u):=⟨PE.imp (PE.fz h.pe) λσ H QQ ⟨ρ,Q,fr,h,k⟩=>⟨ρ,_,fr,h,λa xs Ts H' ρ' s n e z p q=>
 .inr ⟨a,_,rfl,e,rfl,λob=>k _ _ _ _ (s.put fr n e rfl (.frz ob (.lst xs))) (VA.seq (t:=false) ⟨ob,bE⟩ z (p.hs (fX e rfl))) q⟩⟩⟩
def zCU(K:W.Frag)(r:Pn)(r':List V->Hp->VK->Prop):Prop:=∀xs Ts H Q (QQ:VK),VAs K H xs Ts->r Ts Q->(∀z W H',Raw K H H' z W->Q W->QQ z H')->r' xs H QQ
def fY(X:Cx)(f:Value)(r:Pn):Prop:=∃r',CallR X f r'/\zCU X.K r r'
def uCB(r:Pn)(ua:UTa):UT:=λρ Q=>uVs ua ρ λTs ρ1=>r Ts λW=>Q W ρ1
theorem zBi{r:Pn}{r':List V->Hp->VK->Prop}{ua:UTa}(hr:zCU X.K r r')(σ:St)(H:Hp)(QQ:VK)(h:eC X.K F (uCB r ua) σ H QQ):tFz (tCB r' (rO X.K F ua)) σ H QQ:=by
 obtain⟨ρ,Q,fr,h,k⟩:=h
 refine⟨ρ,_,fr,h,λxs as H1 ρ1 s1 p1 q1=>?_⟩
 obtain⟨Ts,rfl,q⟩:=fV q1
 exact hr xs Ts H1 _ _ (fW p1) q λz W H' rw q=>rw.fin s1.fr λH'' s3 v3=>k _ _ _ _ (s1.trans s3) v3 q
variable{es:List Expr}{x:Str}{p:Pos}{ua:UTa}
theorem bB{id:String}{r:Pn}(hc:fY X (.builtin id) r)(hg:Gl X x)(hm:X.mg x=none)(hv:bootBuiltins x=some (.builtin id))(ha:UA X F (e::es) ua)(hn:x≠"__name__":=by decide)(hdb:(x==("__debug__":Str))=false:=by decide)
  (he:starEach (e::es) X.env=(false,eval e X.env)::starEach es X.env:=by rfl) (hpl:(backTo pos (starEach es X.env)).any (·.1)=false:=by rfl):UE X F (.Call (.Name x p) (e::es) [] pos) (uCB r ua):=by
 obtain⟨r',o,hr⟩:=hc
 exact⟨PE.imp (PE.fz (jL o hg hm hv ha.pa hn hdb he hpl)) (zBi hr)⟩
theorem gI{id:String}{r:Pn}(hc:fY X (.type id) r)(hg:Gl X x)(hm:X.mg x=none)(hv:bootBuiltins x=some (.type id))(ha:UA X F (e::es) ua)(hn:x≠"__name__":=by decide)(hdb:(x==("__debug__":Str))=false:=by decide)
  (he:starEach (e::es) X.env=(false,eval e X.env)::starEach es X.env:=by rfl) (hpl:(backTo pos (starEach es X.env)).any (·.1)=false:=by rfl):UE X F (.Call (.Name x p) (e::es) [] pos) (uCB r ua):=by
 obtain⟨r',o,hr⟩:=hc
 exact⟨PE.imp (PE.fz (iP o hg hm hv ha.pa hn hdb he hpl)) (zBi hr)⟩
def zCV(K:W.Frag)(r:List Tv->(List Tv->Prop)->Prop)(r':List V->Hp->VK->Prop):Prop:=∀xs Ts H Q (QQ:VK),VAs K H xs Ts->r Ts Q->(∀a ys Us H',Same H H'->H a=none->H' a=some (.lst ys)->Us.length<=100000->VAs K H' ys Us->Q Us->QQ (.ref a) H')->r' xs H QQ
def nS(X:Cx)(f:Value)(r:List Tv->(List Tv->Prop)->Prop):Prop:=∃r',CallR X f r'/\zCV X.K r r'
def uCL(r:List Tv->(List Tv->Prop)->Prop)(ua:UTa):UTl:=λρ Q=>uVs ua ρ λTs ρ1=>r Ts λUs=>Q Us ρ1
theorem zBh{r:List Tv->(List Tv->Prop)->Prop}{r':List V->Hp->VK->Prop}{ua:UTa}(hr:zCV X.K r r')(σ:St)(H:Hp)(QQ:VK)(h:rN X.K F (uCL r ua) σ H QQ):tCB r' (rO X.K F ua) σ H QQ:=by
 obtain⟨ρ,Q,fr,h,k⟩:=h
 refine⟨ρ,_,fr,h,λxs as H1 ρ1 s1 p1 q1=>?_⟩
 obtain⟨Ts,rfl,q⟩:=fV q1
 exact hr xs Ts H1 _ _ (fW p1) q λa ys Us H' sm n e z p q=>k _ _ _ _ _ (s1.trans (Stp.same s1.fr sm)) (s1.non n) e z p q
theorem nC{id:String}{r:List Tv->(List Tv->Prop)->Prop}(hc:nS X (.builtin id) r)(hg:Gl X x)(hm:X.mg x=none)(hv:bootBuiltins x=some (.builtin id))(ha:UA X F (e::es) ua)(hn:x≠"__name__":=by decide)(hdb:(x==("__debug__":Str))=false:=by decide)
  (he:starEach (e::es) X.env=(false,eval e X.env)::starEach es X.env:=by rfl) (hpl:(backTo pos (starEach es X.env)).any (·.1)=false:=by rfl):UL X F (.Call (.Name x p) (e::es) [] pos) (uCL r ua):=by
 obtain⟨r',o,hr⟩:=hc
 exact⟨PE.imp (jL o hg hm hv ha.pa hn hdb he hpl) (zBh hr)⟩
theorem pP{id:String}{r:List Tv->(List Tv->Prop)->Prop}(hc:nS X (.type id) r)(hg:Gl X x)(hm:X.mg x=none)(hv:bootBuiltins x=some (.type id))(ha:UA X F (e::es) ua)(hn:x≠"__name__":=by decide)(hdb:(x==("__debug__":Str))=false:=by decide)
  (he:starEach (e::es) X.env=(false,eval e X.env)::starEach es X.env:=by rfl) (hpl:(backTo pos (starEach es X.env)).any (·.1)=false:=by rfl):UL X F (.Call (.Name x p) (e::es) [] pos) (uCL r ua):=by
 obtain⟨r',o,hr⟩:=hc
 exact⟨PE.imp (iP o hg hm hv ha.pa hn hdb he hpl) (zBh hr)⟩
abbrev PSp:=List Ar->(Tv->Prop)->Prop
def wO(K:W.Frag)(psp:PSp):Sp:=λvs H Q _=>∃dk as R,(∀p c,dk=some (p,c)->DeckAt H p c)/\Paired (tI K dk H) vs as/\psp as R/\∀x T H',Kp dk H H'->VA K H' x T->R T->Q x H'
def aE(P:Program)(w:World)(K:W.Frag)(mg:Str->Option Value)(base:Heap)(k:Nat)(x:Str)(ps:List Str)(psp:PSp):Prop:=Good P w K mg base k x ps (wO K psp)
def rB(psp:PSp)(ua:UTa):UT:=λρ Q=>ua ρ λas ρ1=>psp as λW=>Q W ρ1
theorem zEU{psp:PSp}{ua:UTa}(σ:St)(H:Hp)(QQ:VK)(h:eC X.K F (rB psp ua) σ H QQ):oG (wO X.K psp) [] E0 (rO X.K F ua) σ H QQ:=by
 obtain⟨ρ,Q,fr,h,k⟩:=h
 refine⟨ρ,_,fr,h,λxs as H1 ρ1 s1 p1 q1=>?_⟩
 show wO X.K psp (xs++[]) H1 QQ E0
 rw[List.append_nil]
 exact⟨F.dk,as,_,s1.fr.kp.dkk,p1,q1,λz W H' kp v q=>k _ _ _ _ (s1.trans (Stp.call s1.fr kp)) v q⟩
theorem zJp{k:Nat}{ps:List Str}{psp:PSp}(G:aE X.prog X.w X.K X.mg X.base k x ps psp)(hr:Room k X.A)(hg:Gl X x)(ha:UA X F (e::es) ua)(hdb:(x==("__debug__":Str))=false:=by decide)
  (hst:dZ e=false:=by rfl) (hpl:(backTo pos (starEach es X.env)).any (·.1)=false:=by rfl):UE X F (.Call (.Name x p) (e::es) [] pos) (rB psp ua):=
 ⟨PE.imp (rK G hr hg ha.pa hdb hst hpl) zEU⟩
theorem zBE{k:Nat}{ps:List Str}{psp:PSp}(G:aE X.prog X.w X.K X.mg X.base k x ps psp)(hr:Room k X.A)(hg:Gl X x)(hdb:(x==("__debug__":Str))=false:=by decide):UE X F (.Call (.Name x p) [] [] pos) (rB psp oQ):=
 ⟨PE.imp (zIG G hr hg hdb) λσ H QQ ⟨ρ,Q,fr,h,k⟩=>⟨F.dk,[],_,fr.kp.dkk,.nil,h,λz W H' kp v q=>k _ _ _ _ (Stp.call fr kp) v q⟩⟩
def zCW(X:Cx)(r:P2):Prop:=∃r',IxR X r'/\tG X.K r r'
variable{a b:Expr}{va vb:UT}
theorem zJo{r:P2}(ho:zCW X r)(ha:UE X F a va)(hb:UE X F b vb)(hs:qM b:=by intro _ _;rfl):UE X F (.Subscript a b pos) (uOp r va vb):=by
 obtain⟨r',o,hr⟩:=ho
 exact⟨PE.imp (PE.fz (iG o ha.pe hb.pe hs)) (vK hr)⟩
abbrev UTo:=aR->(Option Int->aR->Prop)->Prop
def zKa(K:W.Frag)(F:Fm)(u:UTo):TO:=λσ H QQ=>∃ρ Q,FrOk K F ρ σ H/\u ρ Q/\∀o H' ρ',Stp K F σ ρ H ρ' H'->Q o ρ'->QQ o H'
structure UO (X:Cx) (F:Fm) (e:Option Expr) (u:UTo):Prop where
 po:PO X e (zKa X.K F u)
theorem PO.imp{e:Option Expr}{t t':TO}(h:PO X e t)(i:∀σ H Q,t' σ H Q->t σ H Q):PO X e t':=λpins s σ H Q I q=>h pins s σ H Q I (i σ H Q q)
def uoN:UTo:=λρ Q=>Q none ρ
def uoS(u:UT):UTo:=λρ Q=>u ρ λT ρ1=>∃i,T=iT i/\Q (some i) ρ1
theorem nH:UO X F none uoN:=⟨PO.imp zA9 λσ H QQ ⟨ρ,Q,fr,h,k⟩=>k _ _ _ (Stp.refl fr) h⟩
theorem nG{u:UT}(h:UE X F e u):UO X F (some e) (uoS u):=⟨PO.imp (zA8 h.pe) λσ H QQ ⟨ρ,Q,fr,h,k⟩=>⟨ρ,_,fr,h,λx T H1 ρ1 s1 v1 q1=>by
 obtain⟨i,rfl,q⟩:=q1
 exact⟨i,v1.leafI.1,k _ _ _ s1 q⟩⟩⟩
abbrev PSl:=Tv->Option Int->Option Int->(Tv->Prop)->Prop
def zCT(X:Cx)(r:PSl):Prop:=∃r',SlR X r'/\∀x T lo hi H Q (QQ:VK),VA X.K H x T->r T lo hi Q->(∀z W H',Raw X.K H H' z W->Q W->QQ z H')->r' x lo hi H QQ
def uSl(r:PSl)(u:UT)(lo hi:UTo):UT:=λρ Q=>u ρ λT ρ1=>lo ρ1 λl ρ2=>hi ρ2 λh ρ3=>r T l h λW=>Q W ρ3
theorem nD{r:PSl}{lo hi:Option Expr}{ul uh:UTo}{p2:Pos}(ho:zCT X r)(ha:UE X F a va)(hl:UO X F lo ul)(hh:UO X F hi uh):UE X F (.Subscript a (.Slice lo hi none p2) pos) (uSl r va ul uh):=by
 obtain⟨r',o,hr⟩:=ho
 refine⟨PE.imp (PE.fz (zAl o ha.pe hl.po hh.po)) ?_⟩
 rintro σ H QQ ⟨ρ,Q,fr,h,k⟩
 refine⟨ρ,_,fr,h,λx T H1 ρ1 s1 v1 q1=>⟨ρ1,_,s1.fr,q1,λl H2 ρ2 s2 q2=>⟨ρ2,_,s2.fr,q2,λu H3 ρ3 s3 q3=>?_⟩⟩⟩
 exact hr x T l u H3 _ _ ((v1.hs (s2.hs s1.fr)).hs (s3.hs s2.fr)) q3 λz W H' rw q=>rw.fin s3.fr λH'' s4 v4=>k _ _ _ _ ((s1.trans s2).trans (s3.trans s4)) v4 q
end
structure PEnds where
 nx:aR->Prop
 rt:Tv->Prop
 bk:aR->Prop:=λ_=>False
 ct:aR->Prop:=λ_=>False
abbrev UTs:=PEnds->aR->Prop
def lY(K:W.Frag)(F:Fm)(u:UTs):TS:=λD σ H=>∃ρ P,FrOk K F ρ σ H/\u P ρ/\(∀σ' H' ρ',FrOk K F ρ' σ' H'->HS H H'->P.nx ρ'->D.nx σ' H')/\(∀x T H',Kp F.dk F.H0 H'->VA K H' x T->P.rt T->D.rt x H') /\
 (∀σ' H' ρ',FrOk K F ρ' σ' H'->HS H H'->P.bk ρ'->D.bk σ' H')/\∀σ' H' ρ',FrOk K F ρ' σ' H'->HS H H'->P.ct ρ'->D.ct σ' H'
structure US (X:Cx) (F:Fm) (st:Stmt) (u:UTs):Prop where
 ps:PS X st (lY X.K F u)
structure USs (X:Cx) (F:Fm) (st:List Stmt) (u:UTs):Prop where
 ps:PSs X st (lY X.K F u)
theorem PS.imp{X:Cx}{st:Stmt}{t t':TS}(h:PS X st t)(i:∀D σ H,t' D σ H->t D σ H):PS X st t':=λpins s σ H D I q=>h pins s σ H D I (i D σ H q)
theorem PSs.imp{X:Cx}{st:List Stmt}{t t':TS}(h:PSs X st t)(i:∀D σ H,t' D σ H->t D σ H):PSs X st t':=λpins s σ H D I q=>h pins s σ H D I (i D σ H q)
section
variable{X:Cx}{F:Fm}{e:Expr}{pos:Pos}{st:Stmt}{rest:List Stmt}{u:UT}
def zCy:UTs:=λP ρ=>P.nx ρ
def zKI(s t:UTs):UTs:=λP ρ=>s {P with nx:=λρ'=>t P ρ'} ρ
theorem aU:USs X F [] zCy:=⟨PSs.imp vG λD σ H ⟨ρ,P,fr,h,k1,_⟩=>k1 σ H ρ fr (HS.refl _) h⟩
theorem aH{s:UTs}(h:US X F st s):USs X F [st] s:=⟨lG h.ps⟩
theorem aG{s t:UTs}(h:US X F st s)(hr:USs X F rest t):USs X F (st::rest) (zKI s t):=⟨PSs.imp (gJ h.ps hr.ps) λD σ H ⟨ρ,P,fr,h,k1,k2,k3,k4⟩=>by
 refine⟨ρ,_,fr,h,λσ' H' ρ' fr' hs q=>?_,k2,k3,k4⟩
 exact⟨ρ',P,fr',q,λσ2 H2 ρ2 f2 h2 q2=>k1 _ _ _ f2 (hs.trans h2) q2,k2,λσ2 H2 ρ2 f2 h2 q2=>k3 _ _ _ f2 (hs.trans h2) q2,λσ2 H2 ρ2 f2 h2 q2=>k4 _ _ _ f2 (hs.trans h2) q2⟩⟩
def zKJ(u:UT):UTs:=λP ρ=>u ρ λT _=>P.rt T
theorem aO(h:UE X F e u):US X F (.Return (some e) pos) (zKJ u):=⟨PS.imp (lL h.pe) λD σ H ⟨ρ,P,fr,h,_,k2,_⟩=>⟨ρ,_,fr,h,λx T H' ρ' s v q=>k2 x T H' s.fr.kp v q⟩⟩
def sIf(t:UTt)(s r:UTs):UTs:=λP ρ=>t ρ λb ρ1=>if b=true then s P ρ1 else r P ρ1
theorem aV{c:Expr}{a b:List Stmt}{t:UTt}{s r:UTs}(hc:UB X F c t)(ha:USs X F a s)(hb:USs X F b r):US X F (.If c a b pos) (sIf t s r):=⟨PS.imp (wM hc.pt ha.ps hb.ps) λD σ H ⟨ρ,P,fr,h,k1,k2,k3,k4⟩=>by
 refine⟨ρ,_,fr,h,λb H1 ρ1 s1 q1=>?_⟩
 have hs:=s1.hs fr
 have fin:∀{v:UTs},v P ρ1->lY X.K F v D σ H1:=λq=>⟨ρ1,P,s1.fr,q,λσ2 H2 ρ2 f2 h2 q2=>k1 _ _ _ f2 (hs.trans h2) q2,k2,λσ2 H2 ρ2 f2 h2 q2=>k3 _ _ _ f2 (hs.trans h2) q2,λσ2 H2 ρ2 f2 h2 q2=>k4 _ _ _ f2 (hs.trans h2) q2⟩
 cases b with
 |true=>exact aN (fin (by rw[if_pos rfl]at q1;exact q1))
 |false=>exact aL (fin (by rw[if_neg Bool.false_ne_true]at q1;exact q1))⟩
def zJL(u:UT):UTs:=λP ρ=>u ρ λ_ ρ1=>P.nx ρ1
theorem fH(h:UE X F e u)(hs:swapsWith e none pos.line X.env=pure false:=by rfl):US X F (.Expr e pos) (zJL u):=⟨PS.imp (zA7 h.pe hs) λD σ H ⟨ρ,P,fr,h,k1,_⟩=>⟨ρ,_,fr,h,λx T H' ρ' s v q=>k1 _ _ _ s.fr (s.hs fr) q⟩⟩
theorem FrOk.set{K:W.Frag}{ρ:aR}{σ:St}{H:Hp}{i:Nat}{s:Sl}{x:V}(fr:FrOk K F ρ σ H)(v:i<ρ.length->xQ K F H (some x) s)(na:eD s=true->∀a,x=.ref a->∀(j:Nat) (t:Sl),ρ[j]?=some t->eD t=true->ixv σ j≠some (.ref a)):FrOk K F (ρ.set i s) (σ.set i (some x)) H:=by
 have ne:∀j,i≠j->ixv (σ.set i (some x)) j=ixv σ j:=λj z=>by unfold ixv;rw[List.getElem?_set_ne z]
 have self:∀(h:i<ρ.length),ixv (σ.set i (some x)) i=some x:=λh=>by unfold ixv;rw[List.getElem?_set_self (by rw[<-fr.len];exact h)];rfl
 have get:∀(j:Nat) (t:Sl),(ρ.set i s)[j]?=some t->(i=j/\i<ρ.length/\t=s)\/(i≠j/\ρ[j]?=some t):=λj t e=>by
  by_cases z:i=j
  ·subst z
   have hi:i<ρ.length:=by
    have:=(List.getElem?_eq_some_iff.mp e).1
    rwa[List.length_set]at this
   rw[List.getElem?_set_self hi]at e
   exact .inl ⟨rfl,hi,(Option.some.inj e).symm⟩
  ·rw[List.getElem?_set_ne z]at e;exact .inr ⟨z,e⟩
 refine⟨fr.d0,fr.kp,by rw[List.length_set,List.length_set];exact fr.len,λj t e=>?_,λj k a t t' e1 e2 m1 m2 q1 q2=>?_⟩
 ·rcases get j t e with⟨rfl,hi,rfl⟩|⟨z,e⟩
  ·rw[self hi];exact v hi
  ·rw[ne j z];exact fr.at_ j t e
 ·rcases get j t e1 with⟨rfl,hi,rfl⟩|⟨z1,e1⟩
  ·rcases get k t' e2 with⟨rfl,_,rfl⟩|⟨z2,e2⟩
   ·rfl
   ·rw[self hi]at q1
    rw[ne k z2]at q2
    exact absurd q2 (na m1 a (Option.some.inj q1) k t' e2 m2)
  ·rcases get k t' e2 with⟨rfl,hi,rfl⟩|⟨z2,e2⟩
   ·rw[self hi]at q2
    rw[ne j z1]at q1
    exact absurd q1 (na m2 a (Option.some.inj q2) j t (by first|exact e1|assumption) m1)
   ·rw[ne j z1]at q1
    rw[ne k z2]at q2
    exact fr.ap j k a t t' e1 e2 m1 m2 q1 q2
def rZ(i:Nat)(u:UT):UTs:=λP ρ=>u ρ λT ρ1=>P.nx (ρ1.set i (.va T))
theorem zHN{i:Nat}{x:Str}{pos':Pos}(hN:X.N.Nodup)(hi:X.N[i]?=some x)(hx:Loc X.env.scope x)(he:UE X F e u)(hs:swapsWith e (some (.Name x pos')) pos.line X.env=pure false:=by rfl)(hf:X.fn x=true\/X.env.scope.names.lookup x=some .local:=by first|exact .inl rfl|exact .inr rfl|assumption):
  US X F (.Assign [.Name x pos'] e pos) (rZ i u):=⟨PS.imp (hZ hN hi hx he.pe hs hf) λD σ H ⟨ρ,P,fr,h,k1,_⟩=>by
 refine⟨ρ,_,fr,h,λx T H' ρ' s v q=>?_⟩
 exact k1 _ _ _ (s.fr.set (s:=.va T) (λ_=>⟨x,rfl,v⟩) (λz=>absurd z Bool.false_ne_true)) (s.hs fr) q⟩
def sA(i:Nat)(u:UTl):UTs:=λP ρ=>u ρ λTs ρ1=>P.nx (ρ1.set i (.own Ts))
theorem zAs{i:Nat}{u:UTl}{t:TE}(ht:∀σ H QQ,rN X.K F u σ H QQ->t σ H QQ)(D:kN)(σ:St)(H:Hp)(h:lY X.K F (sA i u) D σ H):rW t (rP i) D σ H:=by
 obtain⟨ρ,P,fr,h,k1,_⟩:=h
 refine ht σ H _ ⟨ρ,_,fr,h,λa xs Ts H' ρ' s n e z p q=>?_⟩
 exact k1 _ _ _ (s.fr.set (s:=.own Ts) (λ_=>⟨a,xs,rfl,e,fr.none0 n,z,p⟩) (λ_ b eb j t ej mj qj=>by cases eb;exact s.notown fr n j t ej mj qj)) (s.hs fr) q
theorem zHP{i:Nat}{x:Str}{u:UTl}{pos':Pos}(hN:X.N.Nodup)(hi:X.N[i]?=some x)(hx:Loc X.env.scope x)(he:UL X F e u)(hs:swapsWith e (some (.Name x pos')) pos.line X.env=pure false:=by rfl)(hf:X.fn x=true\/X.env.scope.names.lookup x=some .local:=by first|exact .inl rfl|exact .inr rfl|assumption):
  US X F (.Assign [.Name x pos'] e pos) (sA i u):=⟨PS.imp (hZ hN hi hx he.pe hs hf) (zAs λ_ _ _ h=>h)⟩
end
def zL1:Ar->Sl
 |.va T=>.va T
 |.dk=>.dk
def lJ(n:Nat)(as:List Ar):aR:=as.map zL1++List.replicate (n-as.length) .no
theorem zGc{K:W.Frag}{H:Hp}{dk:Option (Addr×Addr)}{N:List Str}{vs:List V}{as:List Ar}(hd:∀p c,dk=some (p,c)->DeckAt H p c)(p:Paired (tI K dk H) vs as):FrOk K ⟨H,dk⟩ (lJ N.length as) (start N vs) H:=by
 have l:vs.length=as.length:=Paired.length p
 refine⟨hd,⟨λ_ _ e _=>e,hd⟩,?_,λi s e=>?_,λi j a s t e _ m _ _ _=>?_⟩
 ·unfold lJ start
  rw[List.length_append,List.length_append,List.length_map,List.length_map,List.length_replicate,List.length_replicate,l]
 ·unfold lJ at e
  by_cases hi:i<as.length
  ·rw[List.getElem?_append_left (by simpa using hi),List.getElem?_map]at e
   obtain⟨r,er,rfl⟩:=Option.map_eq_some_iff.mp e
   have hv:i<vs.length:=by omega
   obtain⟨r',er',h⟩:=eP p (List.getElem?_eq_getElem hv)
   rw[er]at er';cases er'
   have ex:ixv (start N vs) i=some vs[i]:=by
    refine zI6 ?_
    unfold start
    rw[List.getElem?_append_left (by simpa using hv),List.getElem?_map,List.getElem?_eq_getElem hv]
    rfl
   rw[ex]
   cases r with
   |va T=>exact⟨_,rfl,h⟩
   |dk=>obtain⟨p,c,e1,e2⟩:=h;exact⟨p,c,e1,by rw[e2]⟩
  ·rw[List.getElem?_append_right (by simpa using hi),List.getElem?_replicate]at e
   split at e
   ·cases e;trivial
   ·cases e
 ·unfold lJ at e
  by_cases hi:i<as.length
  ·rw[List.getElem?_append_left (by simpa using hi),List.getElem?_map]at e
   obtain⟨r,er,rfl⟩:=Option.map_eq_some_iff.mp e
   cases r<;>cases m
  ·rw[List.getElem?_append_right (by simpa using hi),List.getElem?_replicate]at e
   split at e
   ·cases e;cases m
   ·cases e
theorem Has.pgood{P:Program}{w:World}{K:W.Frag}{mg:Str->Option Value}{base:Heap}{x:Str}{st:Stmt}{N ps:List Str}{k:Nat}{psp:PSp}{us:UTs}(h:Has K mg x st)(S:bC N ps (aJ st))
  (hb:∀(kV doc pm:Value) (an:Option Addr) (cdv ct:Value) (us:List Value),us.length=ps.length->bindArgs (W.fnOf x x (gP st) (eX st) (aJ st) .none kV doc pm an cdv ct) ⟨us,[]⟩=pure (ps.zip us))
  (hbody:∀(f:Addr) (cdv:Value) (A:Around) (outer:List Env) (s:Shared) (H:Hp) (E:XK) (F:Fm),Room k (A.deeper (envOfC x (aJ st) s.heap.objs.size f cdv))->USs (jC CX0 P w K mg base N x (aJ st) f cdv A outer s H E).nox F (eX st) us)
  (hp:∀as R,psp as R->as.length=ps.length/\us {nx:=λ_=>R nT,rt:=R} (lJ N.length as)):aE P w K mg base (k+1) x ps psp:=by
 refine h.good S hb (λvs H Q E q=>?_) (λf cdv A outer s H vs Q E hr q=>?_)
 ·obtain⟨dk,as,R,d,p,q,_⟩:=q
  rw[Paired.length p]
  exact(hp as R q).1
 ·obtain⟨dk,as,R,d,p,q,k⟩:=q
  refine⟨_,(hbody f cdv A outer s H E ⟨H,dk⟩ hr).ps,lJ N.length as,_,zGc d p,(hp as R q).2,λσ' H' ρ' fr _ q=>k _ _ _ fr.kp (.flat rfl) q,λx T H' kp v q=>k x T H' kp v q,λ_ _ _ _ _ z=>z,λ_ _ _ _ _ z=>z⟩
end L2
namespace L2
open PySem PySem.Spec PyProof.Rows WordM
def jD(K:W.Frag)(J:It)(H:Hp)(Ts:List Tv):Prop:=∀H1,HS H H1->(∀i,i<Ts.length->J.go i H1)/\(∀i x H2,i<Ts.length->J.yld i H1 x H2->Same H1 H2/\∃T,Ts[i]?=some T/\VA K H2 x T)/\J.stop Ts.length H1
def zCj(K:W.Frag)(F:Fm)(u:UTl):TI:=λσ H R=>∃ρ Q,FrOk K F ρ σ H/\u ρ Q/\∀J Ts H' ρ',Stp K F σ ρ H ρ' H'->jD K J H' Ts->Q Ts ρ'->R J H'
structure UI (X:Cx) (F:Fm) (tg e:Expr) (u:UTl):Prop where
 pi:PI X tg e (zCj X.K F u)
theorem PI.imp{X:Cx}{tg e:Expr}{t t':TI}(h:PI X tg e t)(i:∀σ H Q,t' σ H Q->t σ H Q):PI X tg e t':=λpins s σ H Q I q=>h pins s σ H Q I (i σ H Q q)
def ItR(X:Cx)(tg:Expr)(r:V->Hp->(It->Hp->Prop)->Prop):Prop:=∀(pins:List (Addr×Obj)) (s:Shared) (σ:St) (H:Hp) (x:V) (v:Value) (R:It->Hp->Prop),Inv X pins σ H s->RelV x v->r x H R->wpAny (model X.prog X.w) X.A (pyIter v) (PIE X pins σ tg R) X.xe s
section
variable{X:Cx}{F:Fm}{tg e:Expr}
theorem ItR.or{r r':V->Hp->(It->Hp->Prop)->Prop}(h:ItR X tg r)(h':ItR X tg r'):ItR X tg (λx H R=>r x H R\/r' x H R):=λpins s σ H x v R I rx q=>by
 rcases q with q|q
 ·exact h pins s σ H x v R I rx q
 ·exact h' pins s σ H x v R I rx q
theorem oE{pins:List (Addr×Obj)}{σ:St}{H:Hp}{s:Shared}(I:Inv X pins σ H s):∀b∈[s.heap.objs.size],eO X pins H b:=λb hb=>by
 rw[List.mem_singleton.mp hb]
 exact I.fpOk (Nat.le_refl _) (I.hok.fresh (Nat.le_refl _))
theorem it_list:ItR X tg (λx H R=>∃a xs,x=.ref a/\SqL X.K H a xs/\R (Itl X.K a) H):=by
 rintro pins s σ H _ v R I r ⟨a,xs,rfl,hq,q⟩
 cases r
 obtain⟨its,rv,p,hz⟩:=I.list hq
 exact wpAny_pyIter_list p.isList ⟨_,[s.heap.objs.size],_,_,H,rfl,I.kept (t':=s.toks) λb o=>Heap.get?_push_of_some _,zEq a _,⟨_,Heap.get?_push_size _ rfl,rfl,rfl⟩,oE I,q⟩
theorem it_tup:ItR X tg (λx H R=>∃a xs,x=.ref a/\SqT X.K H a xs/\R (Itt X.K a) H):=by
 rintro pins s σ H _ v R I r ⟨a,xs,rfl,hq,q⟩
 cases r
 obtain⟨its,rv,p,hz⟩:=I.tuple hq
 exact wpAny_pyIter_tuple (show s.heap.IsTuple a its.toArray from p) ⟨_,[s.heap.objs.size],_,_,H,rfl,I.kept (t':=s.toks) λb o=>Heap.get?_push_of_some _,zDJ a _,⟨_,Heap.get?_push_size _ rfl,rfl,rfl⟩,oE I,q⟩
theorem it_str:ItR X tg (λx H R=>∃z,x=.str z/\R (Its z) H):=by
 rintro pins s σ H _ v R I r ⟨z,rfl,q⟩
 obtain⟨t,rfl⟩:=r
 cases ha:z.cps.all (· < 128) with
 |true=>exact wpAny_pyIter_ascii ha ⟨_,[s.heap.objs.size],_,_,H,rfl,I.kept (t':=s.toks) λb o=>Heap.get?_push_of_some _,zEp _ z t,⟨_,Heap.get?_push_size _ rfl,rfl,rfl⟩,oE I,q⟩
 |false=>exact wpAny_pyIter_wide ha ⟨_,[s.heap.objs.size],_,_,H,rfl,I.kept (t':=s.toks) λb o=>Heap.get?_push_of_some _,zEo _ z t,⟨_,Heap.get?_push_size _ rfl,rfl,rfl⟩,oE I,q⟩
theorem zHr:ItR X tg (λx H R=>∃a ob kvs,x=.ref a/\FzD H a ob kvs/\R (ItD a ob kvs) H):=by
 rintro pins s σ H _ v R I r ⟨a,ob,kvs,rfl,hz,q⟩
 cases r
 obtain⟨e,hs,hl,vs,es,ep,r,dd,hd⟩:=jR I hz
 exact wpAny_pyIter_dict hs dd ⟨_,[s.heap.objs.size],_,_,H,rfl,I.kept (t':=s.toks) λb o=>Heap.get?_push_of_some _,zEs (a:=a) (ob:=ob) (kvs:=kvs) hd,⟨_,Heap.get?_push_size _ rfl,rfl,by rw[<-jV r];rfl⟩,oE I,q⟩
def pIt:Tv->(List Tv->Prop)->Prop
 |.seq _ Ts,Q=>Q Ts
 |.leaf (.str z),Q=>Q (z.cps.toList.map λc=>sT ⟨#[c]⟩)
 |.dct kts,Q=>Q (kts.map λkt=>sT kt.1)
 |_,_=>False
theorem cD{K:W.Frag}{H:Hp}{a:Addr}{xs:List V}(h:PSeq K H false a xs):SqL K H a xs:=by
 obtain⟨ob,h⟩:=h
 exact .inl (.inr ⟨ob,h⟩)
theorem zHs{K:W.Frag}{H:Hp}{a:Addr}{xs:List V}{Ts:List Tv}(h:PSeq K H false a xs)(p:VAs K H xs Ts):jD K (Itl K a) H Ts:=λH1 hs=>by
 have l:xs.length=Ts.length:=Paired.length p
 have q:=cD (h.hs hs)
 refine⟨λi hi=>⟨xs,xs[i]'(by omega),q,List.getElem?_eq_getElem _⟩,λi x H2 hi ⟨e,y⟩=>?_,⟨xs,q,by omega⟩⟩
 subst e
 obtain⟨T,eT,v⟩:=eP (p.hs hs) (y xs q)
 exact⟨Same.refl _,T,eT,v⟩
theorem zI9{K:W.Frag}{H:Hp}{a:Addr}{xs:List V}{Ts:List Tv}(h:PSeq K H true a xs)(p:VAs K H xs Ts):jD K (Itt K a) H Ts:=λH1 hs=>by
 have l:xs.length=Ts.length:=Paired.length p
 have q:SqT K H1 a xs:=h.hs hs
 refine⟨λi hi=>⟨xs,xs[i]'(by omega),q,List.getElem?_eq_getElem _⟩,λi x H2 hi ⟨e,y⟩=>?_,⟨xs,q,by omega⟩⟩
 subst e
 obtain⟨T,eT,v⟩:=eP (p.hs hs) (y xs q)
 exact⟨Same.refl _,T,eT,v⟩
theorem zJa{K:W.Frag}{H:Hp}{z:Str}:jD K (Its z) H (z.cps.toList.map λc=>sT ⟨#[c]⟩):=λH1 hs=>by
 refine⟨λi hi=>(show i<z.cps.size by simpa using hi),λi x H2 hi ⟨e,c,ec,ex⟩=>?_,by simp[Its]⟩
 subst e ex
 refine⟨Same.refl _,sT ⟨#[c]⟩,?_,.flat rfl⟩
 rw[List.getElem?_map,Array.getElem?_toList,ec]
 rfl
theorem zHu{K:W.Frag}{H:Hp}{a:Addr}{ob:Obj}{kvs:List (Key×V)}{kts:List (Str×Tv)}(h:FzD H a ob kvs)(p:VAk K H kvs kts):jD K (ItD a ob kvs) H (kts.map λkt=>sT kt.1):=λH1 hs=>by
 have l:kvs.length=kts.length:=Paired.length p
 have q:FzD H1 a ob kvs:=hs _ _ rfl h
 refine⟨λi hi=>⟨q,by rw[List.length_map]at hi;omega⟩,λi x H2 hi ⟨e,k,v,ek,ex⟩=>?_,⟨q,by rw[List.length_map];omega⟩⟩
 subst e ex
 obtain⟨kt,ekt,e1,_⟩:=eP p ek
 refine⟨Same.refl _,sT kt.1,by rw[List.getElem?_map,ekt];rfl,?_⟩
 have e1:k=.inr kt.1:=e1
 rw[e1]
 exact .flat rfl
def uIt(u:UT):UTl:=λρ Q=>u ρ λT ρ1=>pIt T λTs=>Q Ts ρ1
theorem bG{u:UT}(h:UE X F e u):UI X F tg e (uIt u):=⟨λpins s σ H R I ⟨ρ,Q,fr,hu,k⟩=>by
 have IT:ItR X tg _:=it_list.or (it_tup.or (it_str.or zHr))
 refine thn (h.pe pins s σ H (λx H1=>_) I ⟨ρ,_,fr,hu,λx T H' ρ' s v q=>?_⟩) λv s1 ⟨x,H1,I1,r1,q1⟩=>IT pins s1 σ H1 x v R I1 r1 q1
 unfold pIt at q
 split at q
 ·rename_i t Ts
  obtain⟨a,xs,rfl,hs,z,p⟩:=v.seqI
  cases t with
  |false=>exact .inl ⟨a,xs,rfl,cD hs,k _ _ _ _ s (zHs hs p) q⟩
  |true=>exact .inr (.inl ⟨a,xs,rfl,hs,k _ _ _ _ s (zI9 hs p) q⟩)
 ·obtain⟨rfl,_⟩:=v.leafI
  exact .inr (.inr (.inl ⟨_,rfl,k _ _ _ _ s zJa q⟩))
 ·obtain⟨a,kvs,rfl,⟨ob,hd⟩,n,z,p⟩:=v.dctI
  exact .inr (.inr (.inr ⟨a,ob,kvs,rfl,hd,k _ _ _ _ s (zHu hd p) q⟩))
 ·exact False.elim q⟩
def fD(lo:Int)(n:Nat):List Tv:=(List.range n).map λ(i:Nat)=>iT (lo+i)
theorem eQ(lo:Int)(n:Nat):(fD lo n).length=n:=by simp[fD]
theorem jK{lo:Int}{n i:Nat}{T:Tv}(h:(fD lo n)[i]?=some T):i<n/\T=iT (lo+i):=by
 have l:=(List.getElem?_eq_some_iff.mp h).1
 rw[eQ]at l
 refine⟨l,?_⟩
 simp only[fD,List.getElem?_map,List.getElem?_range l]at h
 exact(Option.some.inj h).symm
theorem zF6{K:W.Frag}{H:Hp}{lo:Int}{n:Nat}:jD K (Itr lo n) H (fD lo n):=λH1 hs=>by
 have l:(fD lo n).length=n:=by simp[fD]
 refine⟨λi hi=>by rw[l]at hi;exact hi,λi x H2 hi ⟨e,ex⟩=>?_,by rw[l];exact Nat.le_refl _⟩
 subst e ex
 rw[l]at hi
 exact⟨Same.refl _,iT (lo+i),by simp[fD,hi],.flat rfl⟩
def zJr(ua:UTa):UTl:=λρ Q=>uVs ua ρ λTs ρ1=>∃j:Int,Ts=[iT j] /\ -(2 ^ 62)<=j/\j<2 ^ 62/\Q (fD 0 j.toNat) ρ1
theorem fT{a:Expr}{ua:UTa}{p pos:Pos}(hg:Gl X "range")(hm:X.mg "range"=none)(ha:UA X F [a] ua)(hs:starEach [a] X.env=[(false,eval a X.env)]:=by rfl):UI X F tg (.Call (.Name "range" p) [a] [] pos) (zJr ua):=⟨PI.imp (zEJ hg hm ha.pa hs) λσ H R ⟨ρ,Q,fr,hu,k⟩=>by
 refine⟨ρ,_,fr,hu,λxs as H1 ρ1 s1 p1 q1=>?_⟩
 obtain⟨Ts,rfl,j,rfl,h1,h2,q⟩:=fV q1
 cases fW p1 with
 |cons v t=>
  cases t
  obtain⟨rfl,_⟩:=v.leafI
  exact⟨j,rfl,h1,h2,k _ _ _ _ s1 zF6 q⟩⟩
theorem zHt{K:W.Frag}{H:Hp}{a:Addr}{xs:List V}{Ts:List Tv}(h:PSeq K H false a xs)(p:VAs K H xs Ts):jD K (ItE K a) H (Ts.mapIdx λi T=>.seq true [iT (i:Nat),T]):=λH1 hs=>by
 have l:xs.length=Ts.length:=Paired.length p
 have q:=cD (h.hs hs)
 refine⟨λi hi=>⟨xs,xs[i]'(by simpa[l]using hi),q,List.getElem?_eq_getElem _⟩,λi x H2 hi ⟨b,y,ex,nb,e,hy⟩=>?_,⟨xs,q,by simp[l]⟩⟩
 subst e ex
 obtain⟨T,eT,v⟩:=eP (p.hs hs) (hy xs q)
 refine⟨cL nb,.seq true [iT (i:Nat),T],by rw[List.getElem?_mapIdx,eT];rfl,VA.seq (t:=true) (SqT.of bE) (show 2<=100000 by decide) (.cons (.flat rfl) (.cons (v.hs (gR nb)) .nil))⟩
def zJv(ua:UTa):UTl:=λρ Q=>uVs ua ρ λTs ρ1=>∃Us,Ts=[.seq false Us]/\Q (Us.mapIdx λi T=>.seq true [iT (i:Nat),T]) ρ1
theorem zGB{a:Expr}{ua:UTa}{es:List Expr}{ek:Nat}{p pos pos':Pos}(hg:Gl X "enumerate")(hm:X.mg "enumerate"=none)(ha:UA X F [a] ua)(hs:starEach [a] X.env=[(false,eval a X.env)]:=by rfl):UI X F (.Tuple es ek pos') (.Call (.Name "enumerate" p) [a] [] pos) (zJv ua):=⟨PI.imp (zGZ hg hm ha.pa hs) λσ H R ⟨ρ,Q,fr,hu,k⟩=>by
 refine⟨ρ,_,fr,hu,λxs as H1 ρ1 s1 p1 q1=>?_⟩
 obtain⟨Ts,rfl,Us,rfl,q⟩:=fV q1
 cases fW p1 with
 |cons v t=>
  cases t
  obtain⟨a,xs,rfl,hq,z,p⟩:=v.seqI
  exact⟨a,rfl,⟨xs,cD hq⟩,k _ _ _ _ s1 (zHt hq p) q⟩⟩
theorem zI8{K:W.Frag}{H:Hp}{t:Bool}{a b:Addr}{xs ys:List V}{Ts Us:List Tv}(h:PSeq K H t a xs)(p:VAs K H xs Ts)(h':PSeq K H t b ys)(p':VAs K H ys Us):jD K (Itz t K a b) H (List.zipWith (λT U=>.seq true [T,U]) Ts Us):=λH1 hs=>by
 have l:xs.length=Ts.length:=Paired.length p
 have l':ys.length=Us.length:=Paired.length p'
 have sq:∀{c:Addr} {zs:List V},PSeq K H t c zs->SqX t K H1 c zs:=λ{c zs} h=>by
  have h:=h.hs hs
  cases t with
  |false=>exact cD h
  |true=>exact h
 have q:=sq h
 have q':=sq h'
 refine⟨λi hi=>?_,λi x H2 hi ⟨c,y,z,ex,nc,e,hy,hz⟩=>?_,⟨xs,ys,q,q',by rw[List.length_zipWith];omega⟩⟩
 ·rw[List.length_zipWith]at hi
  exact⟨xs,ys,xs[i]'(by omega),ys[i]'(by omega),q,q',List.getElem?_eq_getElem _,List.getElem?_eq_getElem _⟩
 ·subst e ex
  obtain⟨T,eT,v⟩:=eP (p.hs hs) (hy xs q)
  obtain⟨U,eU,v'⟩:=eP (p'.hs hs) (hz ys q')
  refine⟨cL nc,.seq true [T,U],by rw[List.getElem?_zipWith,eT,eU],VA.seq (t:=true) (SqT.of bE) (show 2<=100000 by decide) (.cons (v.hs (gR nc)) (.cons (v'.hs (gR nc)) .nil))⟩
def zKq(ua:UTa):UTl:=λρ Q=>uVs ua ρ λTs ρ1=>∃t As Bs,Ts=[.seq t As,.seq t Bs]/\Q (List.zipWith (λT U=>.seq true [T,U]) As Bs) ρ1
theorem zHQ{a b:Expr}{ua:UTa}{es:List Expr}{ek:Nat}{p pos pos':Pos}(hg:Gl X "zip")(hm:X.mg "zip"=none)(ha:UA X F [a,b] ua)(hs:starEach [a,b] X.env=[(false,eval a X.env),(false,eval b X.env)]:=by rfl)(hs2:starEach [b] X.env=[(false,eval b X.env)]:=by rfl):
  UI X F (.Tuple es ek pos') (.Call (.Name "zip" p) [a,b] [] pos) (zKq ua):=⟨PI.imp (zIw hg hm ha.pa hs hs2) λσ H R ⟨ρ,Q,fr,hu,k⟩=>by
 refine⟨ρ,_,fr,hu,λxs as H1 ρ1 s1 p1 q1=>?_⟩
 obtain⟨Ts,rfl,t,As,Bs,rfl,q⟩:=fV q1
 have sq:∀{c:Addr} {zs:List V},PSeq X.K H1 t c zs->SqX t X.K H1 c zs:=λ{c zs} h=>by
  cases t with
  |false=>exact cD h
  |true=>exact h
 cases fW p1 with
 |cons v r=>
  cases r with
  |cons v' r=>
   cases r
   obtain⟨a,xs,rfl,hq,z,p⟩:=v.seqI
   obtain⟨b,ys,rfl,hq',z',p'⟩:=v'.seqI
   exact⟨t,a,b,rfl,⟨xs,sq hq⟩,⟨ys,sq hq'⟩,k _ _ _ _ s1 (zI8 hq p hq' p') q⟩⟩
end
abbrev UG:=Tv->aR->(aR->Prop)->Prop
abbrev UGs:=List Tv->aR->(aR->Prop)->Prop
def zCk(K:W.Frag)(F:Fm)(m:Nat)(g:UG):TG:=λv σ H QQ=>∃T ρ Q,VA K H v T/\FrOk K F ρ σ H/\g T ρ Q/\∀σ' ρ',FrOk K F ρ' σ' H->σ'.length=σ.length->σ'.drop m=σ.drop m->ρ'.drop m=ρ.drop m->Sbv ρ' ρ->Q ρ'->QQ σ' H
def zI0(K:W.Frag)(F:Fm)(m:Nat)(g:UGs):TGs:=λvs σ H QQ=>∃Ts ρ Q,VAs K H vs Ts/\FrOk K F ρ σ H/\g Ts ρ Q/\∀σ' ρ',FrOk K F ρ' σ' H->σ'.length=σ.length->σ'.drop m=σ.drop m->ρ'.drop m=ρ.drop m->Sbv ρ' ρ->Q ρ'->QQ σ' H
structure UGt (X:Cx) (F:Fm) (m:Nat) (tg:Expr) (g:UG):Prop where
 pg:PG X tg (zCk X.K F m g)
structure tF (X:Cx) (F:Fm) (m:Nat) (tgs:List Expr) (g:UGs):Prop where
 pg:PGs X tgs (zI0 X.K F m g)
theorem PG.imp{X:Cx}{tg:Expr}{t t':TG}(h:PG X tg t)(i:∀v σ H Q,t' v σ H Q->t v σ H Q):PG X tg t':=λpins s σ H v u Q I r q=>h pins s σ H v u Q I r (i v σ H Q q)
theorem PGs.imp{X:Cx}{tg:List Expr}{t t':TGs}(h:PGs X tg t)(i:∀v σ H Q,t' v σ H Q->t v σ H Q):PGs X tg t':=λpins s σ H v u Q I r q=>h pins s σ H v u Q I r (i v σ H Q q)
section
variable{X:Cx}{F:Fm}{pos:Pos}{m:Nat}
def gN(i:Nat):UG:=λT ρ Q=>Q (ρ.set i (.va T))
theorem drop_set{α:Type}{l:List α}{i m:Nat}{x:α}(h:i<m):(l.set i x).drop m=l.drop m:=by
 rw[List.drop_set,if_pos h]
theorem zGL{ρ:aR}{i:Nat}{T:Tv}:Sbv (ρ.set i (.va T)) ρ:=λj s e mm=>by
 by_cases z:i=j
 ·subst z
  have hi:i<ρ.length:=by
   have:=(List.getElem?_eq_some_iff.mp e).1
   rwa[List.length_set]at this
  rw[List.getElem?_set_self hi]at e
  cases e;cases mm
 ·rw[List.getElem?_set_ne z]at e;exact⟨s,e,mm⟩
theorem dH(i:Nat){x:Str}(hm:i<m)(hN:X.N.Nodup)(hi:X.N[i]?=some x)(hx:Loc X.env.scope x)(hf:X.fn x=true\/X.env.scope.names.lookup x=some .local:=by first|exact .inl rfl|exact .inr rfl|assumption):UGt X F m (.Name x pos) (gN i):=⟨PG.imp (zG1 hN hi hx hf) λv σ H QQ ⟨T,ρ,Q,vv,fr,h,k⟩=>
 k _ _ (fr.set (s:=.va T) (λ_=>⟨v,rfl,vv⟩) (λz=>absurd z Bool.false_ne_true)) List.length_set (drop_set hm) (drop_set hm) zGL h⟩
def gT(n:Nat)(g:UGs):UG:=λT ρ Q=>∃Ts,T=.seq true Ts/\Ts.length=n/\g Ts ρ Q
def gNl:UGs:=λTs ρ Q=>Ts=[]/\Q ρ
def gCn(g:UG)(gs:UGs):UGs:=λTs ρ Q=>∃T r,Ts=T::r/\g T ρ λρ1=>gs r ρ1 Q
theorem zAO:tF X F m [] gNl:=⟨PGs.imp zG0 λvs σ H QQ ⟨Ts,ρ,Q,vv,fr,⟨e,h⟩,k⟩=>by
 subst e
 cases vv
 exact⟨rfl,k _ _ fr rfl rfl rfl (Sbv.refl _) h⟩⟩
theorem pW{e:Expr}{es:List Expr}{g:UG}{gs:UGs}(h1:UGt X F m e g)(h2:tF X F m es gs)(hs:(assignEach (e::es) X.env).map (·.2)=assign e X.env::(assignEach es X.env).map (·.2):=by rfl):tF X F m (e::es) (gCn g gs):=⟨PGs.imp (zFR h1.pg h2.pg hs) λvs σ H QQ ⟨Ts,ρ,Q,vv,fr,⟨T,r,e,h⟩,k⟩=>by
 subst e
 cases vv with
 |cons v vs'=>
  refine⟨_,_,rfl,T,ρ,_,v,fr,h,λσ' ρ' f' l d dr sb q=>⟨r,ρ',Q,vs',f',q,λσ2 ρ2 f2 l2 d2 dr2 sb2 q2=>?_⟩⟩
  exact k _ _ f2 (l2.trans l) (d2.trans d) (dr2.trans dr) (sb.trans sb2) q2⟩
theorem zBD{es:List Expr}{k:Nat}{g:UGs}(n:Nat)(hc:X.calm=true)(h:tF X F m es g)(hn:(assignEach es X.env).length=n:=by rfl)(hst:(assignEach es X.env).findIdx? (·.1)=none:=by rfl):UGt X F m (.Tuple es k pos) (gT n g):=⟨PG.imp (zIx hc h.pg hn hst) λv σ H QQ ⟨T,ρ,Q,vv,fr,⟨Ts,e,el,h⟩,k⟩=>by
 subst e
 obtain⟨a,xs,rfl,hq,z,p⟩:=vv.seqI
 exact⟨a,xs,rfl,hq,(Paired.length p).trans el,Ts,ρ,Q,p,fr,h,k⟩⟩
end
def blk(own:Nat)(fr:List Nat)(ρ:aR):aR:=List.replicate own .no++fr.map λi=>ρ.getD i .no
def nJ:List Nat->List Sl->aR->aR
 |i::fr,s::ss,ρ=>nJ fr ss (ρ.set i s)
 |_,_,ρ=>ρ
def bck(own:Nat)(fr:List Nat)(ρ ρ':aR):aR:=nJ fr (ρ'.drop own) ρ
def eV(own:Nat)(fr:List Nat)(g:UG)(tf:UTt)(ue:UT):List Tv->aR->(List Tv->aR->Prop)->Prop
 |[],ρ,Q=>Q [] ρ
 |T::Ts,ρ,Q=>g T (blk own fr ρ) λρ1=>tf ρ1 λb ρ2=>if b=true then ue ρ2 λU ρ3=>eV own fr g tf ue Ts (bck own fr ρ ρ3) λUs ρ4=>Q (U::Us) ρ4 else eV own fr g tf ue Ts (bck own fr ρ ρ2) Q
def jY(own:Nat)(fr:List Nat)(ui:UTl)(g:UG)(tf:UTt)(ue:UT):UTl:=λρ Q=>ui ρ λTs ρ1=>Ts.length<=100000/\eV own fr g tf ue Ts ρ1 Q
theorem yI:∀(fr:List Nat) (ss:List Sl) (ρ:aR),(nJ fr ss ρ).length=ρ.length
 |[],_,_=>rfl
 |_::_,[],_=>rfl
 |i::fr,s::ss,ρ=>by show(nJ fr ss _).length=_;rw[yI fr ss,List.length_set]
theorem tN:∀(fr:List Nat) (ss:List Sl) (ρ:aR) (i:Nat) (s:Sl),fr.length<=ss.length->(nJ fr ss ρ)[i]?=some s->(∃j:Nat,fr[j]?=some i/\ss[j]?=some s)\/(i∉fr/\ρ[i]?=some s)
 |[],_,_,i,s,_,h=>.inr ⟨by simp,h⟩
 |_::_,[],_,_,_,l,_=>by simp at l
 |i0::fr,s0::ss,ρ,i,s,l,h=>by
  rcases tN fr ss (ρ.set i0 s0) i s (by simpa using l) h with⟨j,e1,e2⟩|⟨n,e⟩
  ·exact .inl ⟨j+1,by simpa using e1,by simpa using e2⟩
  ·by_cases z:i0=i
   ·subst z
    have hi:i0<ρ.length:=by
     have:=(List.getElem?_eq_some_iff.mp e).1
     rwa[List.length_set]at this
    rw[List.getElem?_set_self hi]at e
    exact .inl ⟨0,rfl,by simpa using e⟩
   ·rw[List.getElem?_set_ne z]at e
    exact .inr ⟨by simp[n,Ne.symm z],e⟩
theorem pR{own:Nat}{fr:List Nat}{σ ow:St}(ho:ow.length=own){j i:Nat}(h:fr[j]?=some i):ixv (ow++σf fr σ) (own+j)=ixv σ i:=by
 unfold ixv σf
 rw[List.getElem?_append_right (by omega),show own+j-ow.length=j by omega,List.getElem?_map,h]
 show(some (σ.getD i none)).join=_
 rw[List.getD_eq_getElem?_getD]
 cases σ[i]? with
 |none=>rfl
 |some o=>rfl
section
variable{K:W.Frag}{F:Fm}{ρ ρ4 ρ6:aR}{σ ow:St}{H H6:Hp}{own:Nat}{fr:List Nat}
theorem lI{i:Nat}{s:Sl}(h:(blk own fr ρ)[i]?=some s):(i<own/\s=.no)\/∃j k,i=own+j/\fr[j]?=some k/\s=ρ.getD k .no:=by
 unfold blk at h
 by_cases hi:i<own
 ·rw[List.getElem?_append_left (by simpa using hi),List.getElem?_replicate,if_pos hi]at h
  exact .inl ⟨hi,(Option.some.inj h).symm⟩
 ·rw[List.getElem?_append_right (by simpa using hi),List.length_replicate,List.getElem?_map]at h
  obtain⟨k,e,rfl⟩:=Option.map_eq_some_iff.mp h
  exact .inr ⟨i-own,k,by omega,e,rfl⟩
theorem lB{k:Nat}{s:Sl}(e:s=ρ.getD k .no)(m:s≠.no):ρ[k]?=some s:=by
 rw[List.getD_eq_getElem?_getD]at e
 cases q:ρ[k]? with
 |none=>rw[q]at e;exact absurd e m
 |some t=>rw[q]at e;rw[e];rfl
theorem FrOk.pick(f:FrOk K F ρ σ H)(nd:fr.Nodup):FrOk K F (blk own fr ρ) (σc own fr σ) H:=by
 have val:∀{j k:Nat},fr[j]?=some k->ixv (σc own fr σ) (own+j)=ixv σ k:=λh=>pR (List.length_replicate) h
 refine⟨f.d0,f.kp,?_,λi s e=>?_,λi i' a s t e e' m m' q q'=>?_⟩
 ·unfold blk σc σf
  simp
 ·rcases lI e with⟨_,rfl⟩|⟨j,k,rfl,ek,es⟩
  ·trivial
  ·rw[val ek]
   cases s with
   |no=>trivial
   |_=>exact f.at_ k _ (lB es (λz=>by cases z))
 ·rcases lI e with⟨_,rfl⟩|⟨j,k,rfl,ek,es⟩
  ·cases m
  ·rcases lI e' with⟨_,rfl⟩|⟨j',k',rfl,ek',es'⟩
   ·cases m'
   ·rw[val ek]at q
    rw[val ek']at q'
    have:=f.ap k k' a s t (lB es (λz=>by rw[z]at m;cases m)) (lB es' (λz=>by rw[z]at m';cases m')) m m' q q'
    subst this
    have h1:=(List.getElem?_eq_some_iff.mp ek).1
    rw[(List.getElem?_inj h1 nd).mp (ek.trans ek'.symm)]
theorem Stp.back(f:FrOk K F ρ σ H)(nd:fr.Nodup)(s:Stp K F (ow++σf fr σ) ρ4 H ρ6 H6)(f4:FrOk K F ρ4 (ow++σf fr σ) H)(ho:ow.length=own)(hd:ρ4.drop own=(blk own fr ρ).drop own)(sb:Sbv ρ4 (blk own fr ρ)):Stp K F σ ρ H (bck own fr ρ ρ6) H6:=by
 -- a slot of the block that is one's own is the def's own
 have dm:∀(i:Nat) (t:Sl) (a:Addr),ρ4[i]?=some t->eD t=true->ixv (ow++σf fr σ) i=some (.ref a)->∃k u,k∈fr/\ρ[k]?=some u/\eD u=true/\ixv σ k=some (.ref a):=λi t a e m q=>by
  obtain⟨u,eu,mu⟩:=sb i t e m
  rcases lI eu with⟨_,rfl⟩|⟨j,k,rfl,ek,es⟩
  ·cases mu
  ·exact⟨k,u,List.mem_of_getElem? ek,lB es (λz=>by rw[z]at mu;cases mu),mu,by rw[<-pR ho ek];exact q⟩
 have st:Stay F ρ σ H H6:=λb o e d n=>s.st b o e d λi t e1 m q=>by
  obtain⟨k,u,_,eu,mu,qu⟩:=dm i t b e1 m q
  exact n k u eu mu qu
 have l6:fr.length<=(ρ6.drop own).length:=by
  have:=s.fr.len
  rw[List.length_append]at this
  rw[List.length_drop,this,ho]
  unfold σf
  rw[List.length_map]
  omega
 have sub:Sbv (bck own fr ρ ρ6) ρ:=λi t e m=>by
  rcases tN fr _ ρ i t l6 e with⟨j,ej,et⟩|⟨_,e⟩
  ·rw[List.getElem?_drop]at et
   obtain⟨u,eu,mu⟩:=s.sub _ t et m
   have:(ρ4.drop own)[j]?=some u:=by rw[List.getElem?_drop];exact eu
   rw[hd,List.getElem?_drop]at this
   rcases lI this with⟨z,_⟩|⟨j',k,ejj,ek,es⟩
   ·omega
   ·have:j'=j:=by omega
    subst this
    rw[ej]at ek;cases ek
    exact⟨u,lB es (λz=>by rw[z]at mu;cases mu),mu⟩
  ·exact⟨t,e,m⟩
 have hs:HS H H6:=s.hs f4
 refine⟨⟨f.d0,s.fr.kp,by unfold bck;rw[yI];exact f.len,λi t e=>?_,λi i' a t t' e e' m m' q q'=>?_⟩,st,sub,s.tr⟩
 ·rcases tN fr _ ρ i t l6 e with⟨j,ej,et⟩|⟨ni,e⟩
  ·rw[List.getElem?_drop]at et
   have:=s.fr.at_ _ t et
   rwa[pR ho ej]at this
  ·have h:=f.at_ i t e
   have keep:∀a o,eD t=true->ixv σ i=some (.ref a)->H a=some o->H6 a=some o:=λa o m q e1=>s.st a o e1 (f.fresh_nodk (f.own_at e m q).2) λi' t' e2 m2 q2=>by
    obtain⟨k,u,hk,eu,mu,qu⟩:=dm i' t' a e2 m2 q2
    have:=f.ap k i a u t eu e mu m qu q
    subst this
    exact ni hk
   cases t with
   |no=>trivial
   |va T=>obtain⟨y,e1,v⟩:=h;exact⟨y,e1,v.hs hs⟩
   |own Ts=>obtain⟨a,xs,e1,e2,e3,z,p⟩:=h;exact⟨a,xs,e1,keep a _ rfl e1 e2,e3,z,p.hs hs⟩
   |dct kts=>obtain⟨a,kvs,e1,e2,e3,n,z,p⟩:=h;exact⟨a,kvs,e1,keep a _ rfl e1 e2,e3,n,z,p.hs hs⟩
   |dk=>exact h
 ·obtain⟨u,eu,mu⟩:=sub i t e m
  obtain⟨u',eu',mu'⟩:=sub i' t' e' m'
  exact f.ap i i' a u u' eu eu' mu mu' q q'
end
theorem uG{K:W.Frag}{F:Fm}{own:Nat}{fr:List Nat}{ui:UTl}{g:UG}{tf:UTt}{ue:UT}(nd:fr.Nodup)(σ:St)(H:Hp)(QQ:VK)(h:rN K F (jY own fr ui g tf ue) σ H QQ):wI own fr (zCj K F ui) (zCk K F own g) (rM K F tf) (eC K F ue) σ H QQ:=by
 obtain⟨ρ,Q,f,h,k⟩:=h
 refine⟨ρ,_,f,h,λJ Ts H1 ρ1 s1 it q1 a na=>?_⟩
 obtain⟨len,q1⟩:=q1
 refine⟨Ts.length,λi ys H2=>∃Us ρi,Stp K F σ ρ1 H1 ρi H2/\VAs K H2 ys Us/\Us.length<=i/\eV own fr g tf ue (Ts.drop i) ρi (λVs ρ'=>Q (Us++Vs) ρ'),⟨[],ρ1,Stp.same s1.fr (cL na),.nil,Nat.le_refl _,q1⟩,?_⟩
 rintro i ys H2 hi ha ⟨Us,ρi,si,p,hl,q⟩
 have hs1:=si.hs s1.fr
 obtain⟨go,yld,stop⟩:=it H2 hs1
 by_cases hlt:i<Ts.length
 ·refine .inr ⟨hlt,go i hlt,λx H3 hy=>?_⟩
  obtain⟨sm,T,eT,vx⟩:=yld i x H3 hlt hy
  have s3:=si.trans (Stp.same si.fr sm)
  have ha3:=sm _ _ ha
  have ed:Ts.drop i=T::Ts.drop (i+1):=by
   rw[List.drop_eq_getElem_cons hlt]
   congr 1
   rw[List.getElem?_eq_getElem hlt]at eT
   exact Option.some.inj eT
  rw[ed]at q
  have nodk:=s1.fr.none_nodk na
  have nown:=s3.notown s1.fr na
  refine⟨T,blk own fr ρi,_,vx,s3.fr.pick nd,q,λσ4 ρ4 f4 l4 d4 dr4 sb4 q4=>?_⟩
  have e4:σ4=σ4.take own++σf fr σ:=by
   have:σ4.drop own=σf fr σ:=by
    rw[d4]
    unfold σc
    rw[List.drop_append_of_le_length (by simp),List.drop_of_length_le (by simp),List.nil_append]
   rw[<-this,List.take_append_drop]
  have lo:(σ4.take own).length=own:=by
   rw[List.length_take,l4]
   unfold σc
   simp
  have notin:∀(j:Nat) (t:Sl),ρ4[j]?=some t->eD t=true->ixv σ4 j≠some (.ref a):=λj t e m z=>by
   obtain⟨u,eu,mu⟩:=sb4 j t e m
   rcases lI eu with⟨_,rfl⟩|⟨j',k,rfl,ek,es⟩
   ·cases mu
   ·rw[e4,pR lo ek]at z
    exact nown k u (lB es (λz=>by rw[z]at mu;cases mu)) mu z
  refine⟨⟨σ4.take own,lo,e4⟩,ρ4,_,f4,q4,λb H5 ρ5 s5 q5=>?_⟩
  have a5:H5 a=some (.lst ys):=s5.st a _ ha3 nodk notin
  cases b with
  |true=>
   refine aN ?_
   rw[if_pos rfl]at q5
   refine⟨ρ5,_,s5.fr,q5,λy U H6 ρ6 s6 v6 q6=>?_⟩
   have s46:=s5.trans s6
   have a6:H6 a=some (.lst ys):=s46.st a _ ha3 nodk notin
   have lys:ys.length=Us.length:=Paired.length p
   refine⟨a6,vJ (by omega),Us++[U],bck own fr ρi ρ6,?_,?_,by rw[List.length_append,List.length_singleton];omega,?_⟩
   ·rw[e4]at s46 f4
    exact(s3.trans (Stp.back s3.fr nd s46 f4 lo dr4 sb4)).put s1.fr na a6 rfl _
   ·have h36:=s46.hs f4
    exact VAs.hs (fX a6 rfl) (Paired.snoc ((p.hs sm.hs).hs h36) v6)
   ·simpa using q6
  |false=>
   refine aL ?_
   rw[if_neg Bool.false_ne_true]at q5
   refine⟨a5,Us,bck own fr ρi ρ5,?_,?_,by omega,q5⟩
   ·rw[e4]at s5 f4
    exact s3.trans (Stp.back s3.fr nd s5 f4 lo dr4 sb4)
   ·exact(p.hs sm.hs).hs (s5.hs f4)
 ·have e:i=Ts.length:=by omega
  subst e
  rw[List.drop_length]at q
  have q:Q (Us++[]) ρi:=q
  rw[List.append_nil]at q
  exact .inl ⟨stop,k a ys Us H2 ρi (s1.trans si) (s1.non na) ha (by omega) p q⟩
section
variable{X:Cx}{F:Fm}{sc:Scope}{XN N:List Str}{own:Nat}{fr:List Nat}{scope:Scope}{elt tg iter:Expr}{ifs:List Expr}{pos:Pos}{ui:UTl}{g:UG}{tf:UTt}{ue:UT}
structure UF (X:Cx) (F:Fm) (ifs:List Expr) (u:UTt):Prop where
 pf:PFs X ifs (rM X.K F u)
def zCv:UTt:=λρ Q=>Q true ρ
theorem hJ:UF X F [] zCv:=⟨λpins s σ H Q I ⟨ρ,Q',f,h,k⟩=>zIA pins s σ H Q I (k _ _ _ (Stp.refl f) h)⟩
theorem fJ{c:Expr}{t:UTt}(h:UB X F c t):UF X F [c] t:=⟨zIz h.pt⟩
theorem uV(hc:X.calm=true)(S:jG sc XN N own fr scope)(nd:fr.Nodup)(hi:UI X F tg iter ui)
  (hg:∀cl C fp s H,UGt (bU X N scope cl C fp s H) F own tg g) (hf:∀cl C fp s H,UF (bU X N scope cl C fp s H) F ifs tf) (he:∀cl C fp s H,UE (bU X N scope cl C fp s H) F elt ue)
  (hs:∀x,foldedSetIterable iter X.env x=pure x:=by intro _;rfl) (hsc:X.env.scope=sc:=by rfl) (hxn:X.N=XN:=by rfl):UL X F (.ListComp elt [⟨tg,iter,ifs,0⟩] scope pos) (jY own fr ui g tf ue):=
 ⟨PE.imp (zG6 hc S hi.pi (λcl C fp s H=>(hg cl C fp s H).pg) (λcl C fp s H=>(hf cl C fp s H).pf) (λcl C fp s H=>(he cl C fp s H).pe) hs hsc hxn) (uG nd)⟩
theorem zGy{i:Nat}{x:Str}{pos' spos:Pos}(hc:X.calm=true)(hN:X.N.Nodup)(hx:X.N[i]?=some x)(hl:Loc X.env.scope x)(S:jG sc XN N own fr scope)(nd:fr.Nodup)(hi:UI X F tg iter ui)
  (hg:∀cl C fp s H,UGt (bU X N scope cl C fp s H) F own tg g) (hf:∀cl C fp s H,UF (bU X N scope cl C fp s H) F ifs tf) (he:∀cl C fp s H,UE (bU X N scope cl C fp s H) F elt ue)
  (hsw:swapsWith (.ListComp elt [⟨tg,iter,ifs,0⟩] scope pos) (some (.Name x pos')) spos.line X.env=pure true:=by rfl)
  (hf':X.fn x=true\/X.env.scope.names.lookup x=some .local:=by first|exact .inl rfl|exact .inr rfl|assumption)
  (hs:∀x,foldedSetIterable iter X.env x=pure x:=by intro _;rfl) (hsc:X.env.scope=sc:=by rfl) (hxn:X.N=XN:=by rfl):US X F (.Assign [.Name x pos'] (.ListComp elt [⟨tg,iter,ifs,0⟩] scope pos) spos) (sA i (jY own fr ui g tf ue)):=
 ⟨PS.imp (zA6 hc hN hx hl S hi.pi (λcl C fp s H=>(hg cl C fp s H).pg) (λcl C fp s H=>(hf cl C fp s H).pf) (λcl C fp s H=>(he cl C fp s H).pe) hsw hf' hs hsc hxn) (zAs (uG nd))⟩
theorem PS.fz{st:Stmt}{t:TS}(h:PS X st t):PS X st (λD σ H=>t {D with nx:=λσ' H'=>D.nx σ' H'\/∃a o,H' a=some o/\fzb o=true/\∀ob,D.nx σ' (upd H' a (.frz ob o))} σ H):=λpins s σ H D I q=>thn (h pins s σ H _ I q) λfl s' z=>by
 cases fl with
 |next=>
  obtain⟨σ',H',I',q⟩:=z
  rcases q with q|⟨a,o,e,n,q⟩
  ·exact⟨σ',H',I',q⟩
  ·obtain⟨ob,I2⟩:=I'.fz e n
   exact⟨σ',_,I2,q ob⟩
 |brk=>exact z
 |cont=>exact z
 |ret u=>exact z
theorem zGx{i:Nat}{x:Str}{pos' spos:Pos}(hc:X.calm=true)(hN:X.N.Nodup)(hx:X.N[i]?=some x)(hl:Loc X.env.scope x)(S:jG sc XN N own fr scope)(nd:fr.Nodup)(hi:UI X F tg iter ui)
  (hg:∀cl C fp s H,UGt (bU X N scope cl C fp s H) F own tg g) (hf:∀cl C fp s H,UF (bU X N scope cl C fp s H) F ifs tf) (he:∀cl C fp s H,UE (bU X N scope cl C fp s H) F elt ue)
  (hsw:swapsWith (.ListComp elt [⟨tg,iter,ifs,0⟩] scope pos) (some (.Name x pos')) spos.line X.env=pure true:=by rfl)
  (hf':X.fn x=true\/X.env.scope.names.lookup x=some .local:=by first|exact .inl rfl|exact .inr rfl|assumption)
  (hs:∀x,foldedSetIterable iter X.env x=pure x:=by intro _;rfl) (hsc:X.env.scope=sc:=by rfl) (hxn:X.N=XN:=by rfl):US X F (.Assign [.Name x pos'] (.ListComp elt [⟨tg,iter,ifs,0⟩] scope pos) spos) (rZ i (uL (jY own fr ui g tf ue))):=
 ⟨PS.imp (PS.fz (zA6 hc hN hx hl S hi.pi (λcl C fp s H=>(hg cl C fp s H).pg) (λcl C fp s H=>(hf cl C fp s H).pf) (λcl C fp s H=>(he cl C fp s H).pe) hsw hf' hs hsc hxn)) λD σ H ⟨ρ,P,f,h,k1,_⟩=>by
  refine uG nd σ H _ ⟨ρ,_,f,h,λa xs Ts H' ρ' s n e z p q=>?_⟩
  refine .inr ⟨a,_,e,rfl,λob=>?_⟩
  have s2:=s.put f n e rfl (.frz ob (.lst xs))
  exact k1 _ _ _ (s2.fr.set (s:=.va (.seq false Ts)) (λ_=>⟨_,rfl,VA.seq (t:=false) ⟨ob,bE⟩ z (p.hs (fX e rfl))⟩) (λz=>absurd z Bool.false_ne_true)) (s2.hs f) q⟩
def iK(g:UG)(ub:UTs):List Tv->PEnds->aR->Prop
 |[],P,ρ=>P.nx ρ
 |T::Ts,P,ρ=>g T ρ λρ1=>ub {P with nx:=λρ'=>iK g ub Ts P ρ',ct:=λρ'=>iK g ub Ts P ρ',bk:=P.nx} ρ1
def zKL(ui:UTl)(g:UG)(ub:UTs):UTs:=λP ρ=>ui ρ λTs ρ1=>iK g ub Ts P ρ1
theorem eZ{body:List Stmt}{ub:UTs}{m:Nat}(hp:PassesOwn (model X.prog X.w) X.A X.env X.xe)(hc:X.calm=true)(hi:UI X F tg iter ui)(hg:UGt X F m tg g)(hb:USs X F body ub)
  (hs:∀x,foldedSetIterable iter X.env x=pure x:=by intro _;rfl):US X F (.For tg iter body [] pos) (zKL ui g ub):=⟨PS.imp (zIu hp hc hi.pi hg.pg hb.ps hs) λD σ H ⟨ρ,P,f,h,k1,k2,k3,k4⟩=>by
 refine⟨ρ,_,f,h,λJ Ts H1 ρ1 s1 it q1=>?_⟩
 have h01:=s1.hs f
 refine⟨λi m σ' H'=>m=Ts.length-i/\i<=Ts.length/\HS H1 H'/\∃ρi,FrOk X.K F ρi σ' H'/\iK g ub (Ts.drop i) P ρi,⟨_,rfl,Nat.zero_le _,HS.refl _,ρ1,s1.fr,q1⟩,?_⟩
 rintro i m σ' H' ⟨rfl,hi,hs,ρi,fi,q⟩
 obtain⟨go,yld,stop⟩:=it H' hs
 by_cases hlt:i<Ts.length
 ·refine .inr ⟨go i hlt,λσ2 H2=>HS H1 H2/\∃ρ2,FrOk X.K F ρ2 σ2 H2/\iK g ub (Ts.drop (i+1)) P ρ2,λσ2 H2 ⟨hs2,ρ2,f2,q2⟩=>⟨_,by omega,rfl,hlt,hs2,ρ2,f2,q2⟩,λx H3 hy=>?_⟩
  obtain⟨sm,T,eT,vx⟩:=yld i x H3 hlt hy
  have ed:Ts.drop i=T::Ts.drop (i+1):=by
   rw[List.drop_eq_getElem_cons hlt]
   congr 1
   rw[List.getElem?_eq_getElem hlt]at eT
   exact Option.some.inj eT
  rw[ed]at q
  have f3:=(Stp.same fi sm).fr
  refine⟨T,ρi,_,vx,f3,q,λσ4 ρ4 f4 _ _ _ _ q4=>?_⟩
  have h13:=hs.trans sm.hs
  exact⟨ρ4,_,f4,q4,λσ5 H5 ρ5 f5 hs5 q5=>⟨h13.trans hs5,ρ5,f5,q5⟩,k2,λσ5 H5 ρ5 f5 hs5 q5=>k1 _ _ _ f5 (h01.trans (h13.trans hs5)) q5,λσ5 H5 ρ5 f5 hs5 q5=>⟨h13.trans hs5,ρ5,f5,q5⟩⟩
 ·have e:i=Ts.length:=by omega
  subst e
  rw[List.drop_length]at q
  exact .inl ⟨stop,k1 _ _ _ fi (h01.trans hs) q⟩⟩
def zH7(t:UTt)(ub:UTs):UTs:=λP ρ=>∃W:Nat->aR->Prop,(∃m,W m ρ)/\∀m ρ,W m ρ->t ρ λb ρ1=>if b=true then ub {P with nx:=λρ'=>∃m',m'<m/\W m' ρ',ct:=λρ'=>∃m',m'<m/\W m' ρ',bk:=P.nx} ρ1 else P.nx ρ1
theorem pV{c:Expr}{body:List Stmt}{t:UTt}{ub:UTs}(hp:PassesOwn (model X.prog X.w) X.A X.env X.xe)(hc:UB X F c t)(hb:USs X F body ub):US X F (.While c body [] pos) (zH7 t ub):=⟨PS.imp (zFN hp hc.pt hb.ps) λD σ H ⟨ρ,P,f,⟨W,⟨m0,w0⟩,h⟩,k1,k2,k3,k4⟩=>by
 refine⟨λm σ' H'=>HS H H'/\∃ρ',FrOk X.K F ρ' σ' H'/\W m ρ',⟨m0,HS.refl _,ρ,f,w0⟩,?_⟩
 rintro m σ' H' ⟨hs,ρ',f',w⟩
 refine⟨ρ',_,f',h m ρ' w,λb H1 ρ1 s1 q1=>?_⟩
 have h1:=hs.trans (s1.hs f')
 cases b with
 |true=>
  rw[if_pos rfl]at q1
  refine aN ⟨λσ2 H2=>HS H H2/\∃m',m'<m/\∃ρ2,FrOk X.K F ρ2 σ2 H2/\W m' ρ2,λσ2 H2 ⟨hs2,m',lt,ρ2,f2,w2⟩=>⟨m',lt,hs2,ρ2,f2,w2⟩,?_⟩
  exact⟨ρ1,_,s1.fr,q1,λσ5 H5 ρ5 f5 hs5 ⟨m',lt,w5⟩=>⟨h1.trans hs5,m',lt,ρ5,f5,w5⟩,k2,λσ5 H5 ρ5 f5 hs5 q5=>k1 _ _ _ f5 (h1.trans hs5) q5,λσ5 H5 ρ5 f5 hs5 ⟨m',lt,w5⟩=>⟨h1.trans hs5,m',lt,ρ5,f5,w5⟩⟩
 |false=>
  rw[if_neg Bool.false_ne_true]at q1
  exact aL (k1 _ _ _ s1.fr h1 q1)⟩
end
end L2
namespace L2
open PySem PySem.Spec PyProof.Rows WordM
section
variable{K:W.Frag}{F:Fm}{ρ:aR}{σ:St}{H:Hp}{i:Nat}{s s':Sl}{a:Addr}{o o':HO}
theorem FrOk.put(fr:FrOk K F ρ σ H)(e:ρ[i]?=some s)(m:eD s=true)(q:ixv σ i=some (.ref a))(h:H a=some o)(n:fzb o=true)(v:HS H (upd H a o')->F.H0 a=none->xQ K F (upd H a o') (some (.ref a)) s'):Stp K F σ ρ H (ρ.set i s') (upd H a o'):=by
 have hi:i<ρ.length:=(List.getElem?_eq_some_iff.mp e).1
 have h0:=(fr.own_at e m q).2
 have hd:=fr.fresh_nodk h0
 have hs:HS H (upd H a o'):=fX h (by cases o<;>first|rfl|exact absurd n Bool.false_ne_true)
 have st:∀b u,b≠a->H b=some u->upd H a o' b=some u:=λb u z e=>by rw[bF z];exact e
 have get:∀(j:Nat) (t:Sl),(ρ.set i s')[j]?=some t->(i=j/\t=s')\/(i≠j/\ρ[j]?=some t):=λj t e'=>by
  by_cases z:i=j
  ·subst z
   rw[List.getElem?_set_self hi]at e'
   exact .inl ⟨rfl,(Option.some.inj e').symm⟩
  ·rw[List.getElem?_set_ne z]at e';exact .inr ⟨z,e'⟩
 have sub:Sbv (ρ.set i s') ρ:=λj t e' m'=>by
  rcases get j t e' with⟨rfl,rfl⟩|⟨z,e'⟩
  ·exact⟨s,e,m⟩
  ·exact⟨t,e',m'⟩
 refine⟨⟨fr.d0,⟨λb u e1 n1=>st b u (λz=>by rw[z,h0]at e1;cases e1) (fr.kp.st b u e1 n1),λp c d=>?_⟩,by rw[List.length_set];exact fr.len,λj t e'=>?_,λj k b t t' e1 e2 m1 m2 q1 q2=>?_⟩,λb u e1 _ n1=>st b u (λz=>n1 i s e m (by rw[z];exact q)) e1,sub,λb u e1=>if z:b=a then⟨o',z▸bE⟩ else⟨u,st b u z e1⟩⟩
 ·obtain⟨ne,⟨S,k,e1⟩,ns,e2,l⟩:=fr.kp.dkk p c d
  exact⟨ne,⟨S,k,st _ _ (hd p c d).1.symm e1⟩,ns,st _ _ (hd p c d).2.symm e2,l⟩
 ·rcases get j t e' with⟨rfl,rfl⟩|⟨z,e'⟩
  ·rw[q];exact v hs h0
  ·have x:=fr.at_ j t e'
   cases t with
   |no=>trivial
   |va T=>obtain⟨y,e1,v⟩:=x;exact⟨y,e1,v.hs hs⟩
   |own Ts=>obtain⟨b,xs,e1,e2,e3,z',p⟩:=x;exact⟨b,xs,e1,st _ _ (λy=>z (fr.ap i j a s _ e e' m rfl q (by rw[e1,y]))) e2,e3,z',p.hs hs⟩
   |dct kts=>obtain⟨b,kvs,e1,e2,e3,n',z',p⟩:=x;exact⟨b,kvs,e1,st _ _ (λy=>z (fr.ap i j a s _ e e' m rfl q (by rw[e1,y]))) e2,e3,n',z',p.hs hs⟩
   |dk=>exact x
 ·obtain⟨u,eu,mu⟩:=sub j t e1 m1
  obtain⟨u',eu',mu'⟩:=sub k t' e2 m2
  exact fr.ap j k b u u' eu eu' mu mu' q1 q2
end
section
variable{X:Cx}{F:Fm}{e:Expr}{u:UT}{x:Str}{p apos cpos pos:Pos}
def zGF(i:Nat)(u:UT):UT:=λρ Q=>(∃Ts,ρ[i]?=some (.own Ts))/\u ρ λT ρ1=>∃Ts,ρ1[i]?=some (.own Ts)/\Ts.length<100000/\Q nT (ρ1.set i (.own (Ts++[T])))
theorem iO(i:Nat)(h:UE X F e u)(hN:X.N[i]?=some x:=by rfl)(hv:Vis X.env.scope x:=by first|exact Or.inl rfl|exact Or.inr (Or.inl rfl)|exact Or.inr (Or.inr rfl))(hd:(x==("__debug__":Str))=false:=by decide)(hcd:(x==("__classdict__":Str))=false:=by decide)
  (hbase:attributeBase (.Name x p) "append" X.env (eval (.Name x p) X.env)=eval (.Name x p) X.env:=by rfl)
  (hfew:((backTo cpos (starEach [e] X.env)).all (λx=>!x.1)&&(backToKw cpos (keywordEach [] X.env)).all (λx=>x.1.isSome)&&decide (([e]:List Expr).length+([]:List Keyword).length+(if ([]:List Keyword).isEmpty then 0 else 1)<30))=true:=by rfl)
  (hline:(apos.endLine==cpos.line)=true:=by rfl) (hs:starEach [e] X.env=(false,eval e X.env)::starEach [] X.env:=by rfl) (hplain:(backTo cpos (starEach [] X.env)).any (·.1)=false:=by rfl) (hst:dZ e=false:=by rfl):
  UE X F (.Call (.Attribute (.Name x p) "append" apos) [e] [] cpos) (zGF i u):=⟨PE.imp (lW PySem.F.plainAttrs_list PySem.F.slot_list_append PySem.F.type_list_append uE (iX hN hv hd hcd) (aB h aC hst).pa hbase hfew hline hs hplain) λσ H QQ ⟨ρ,Q,f,⟨⟨Ts0,e0⟩,hu⟩,k⟩=>by
 obtain⟨a,xs,ea,eH,e3,z,pv⟩:=f.at_ i _ e0
 refine⟨_,hG ea,.inl ⟨rfl,xs,SqL.of eH⟩,ρ,λas ρ1=>∃T,as=[.va T]/\∃Ts,ρ1[i]?=some (.own Ts)/\Ts.length<100000/\Q nT (ρ1.set i (.own (Ts++[T]))),f,?_,λvs as H1 ρ1 s1 p1 q1=>?_⟩
 ·show u ρ _
  have:(λT ρ1=>∃Ts,ρ1[i]?=some (.own Ts)/\Ts.length<100000/\Q nT (ρ1.set i (.own (Ts++[T]))))=(λT (ρ1:aR)=>(oQ ρ1 λas ρ2=>∃T',Ar.va T::as=[.va T']/\∃Ts,ρ2[i]?=some (.own Ts)/\Ts.length<100000/\Q nT (ρ2.set i (.own (Ts++[T'])))) ):=by
   funext T ρ1
   apply propext
   constructor
   ·intro z;exact⟨T,rfl,z⟩
   ·rintro⟨T',e,z⟩;cases e;exact z
  rw[this]at hu
  exact hu
 ·obtain⟨T,rfl,Ts,e1,lt,q⟩:=q1
  cases p1 with
  |cons v t=>
   cases t
   obtain⟨a',ys,ea',eH1,e3',z',pv'⟩:=s1.fr.at_ i _ e1
   rw[ea]at ea';cases ea'
   have ll:ys.length=Ts.length:=Paired.length pv'
   refine⟨a,ys,_,rfl,rfl,eH1,vJ (by omega),k _ _ _ _ (s1.trans (s1.fr.put (s':=.own (Ts++[T])) e1 rfl ea eH1 rfl λhs h0=>⟨a,_,rfl,bE,h0,by rw[List.length_append,List.length_singleton];omega,VAs.hs hs (Paired.snoc pv' v)⟩)) (.flat rfl) q⟩⟩
def zFH:V->List V->Hp->VK->Prop:=λx vs H Q=>∃l b xs zs,x=.ref l/\vs=[.ref b]/\H l=some (.lst xs)/\Rd H b (.lst zs)/\xs.length+zs.length<=sizeLine/\Q .non (upd H l (.lst (xs++zs)))
theorem zDZ:MtM X "list.extend" zFH:=by
 rintro pins s σ H _ _ v us Q I rx rv ⟨l,b,xs,zs,rfl,rfl,hH,hB,hz,q⟩
 cases rx
 obtain⟨u,rfl,ru⟩:=rv.one
 cases ru
 obtain⟨z,its,n,r,hl,e⟩:=I.lstM hH
 obtain⟨z2,its2,n2,r2,e2⟩:=hB.ok I.hok
 have hl2:=r2.length
 have hlong:¬ (!its.toArray.isEmpty&&Builtin.List.listTooLong (its.toArray.size+its2.toArray.size))=true:=by
  rw[zAo (by rw[List.size_toArray,List.size_toArray];omega),Bool.and_false]
  exact Bool.false_ne_true
 refine call_meets F.slot_list_extend ⟨_,e,rfl⟩ F.entry_list_extend (F.args_list_extend_2 _ _) (AutoSeq1.list_extend_list_list_0 l its.toArray n b its2.toArray n2 hlong (by rw[List.size_toArray];omega) (by rw[List.size_toArray,List.size_toArray];omega)) ⟨e,e2,?_⟩
 exact⟨.non,_,I.lset (its':=its++its2) hH e (by simp) (r.append r2) (by rw[List.length_append];omega),rfl,q⟩
def zGE(i:Nat)(u:UT):UT:=λρ Q=>(∃Ts,ρ[i]?=some (.own Ts))/\u ρ λT ρ1=>∃Ts Us,ρ1[i]?=some (.own Ts)/\T=.seq false Us/\Ts.length+Us.length<=100000/\Q nT (ρ1.set i (.own (Ts++Us)))
theorem tV(i:Nat)(h:UE X F e u)(hN:X.N[i]?=some x:=by rfl)(hv:Vis X.env.scope x:=by first|exact Or.inl rfl|exact Or.inr (Or.inl rfl)|exact Or.inr (Or.inr rfl))(hd:(x==("__debug__":Str))=false:=by decide)(hcd:(x==("__classdict__":Str))=false:=by decide)
  (hbase:attributeBase (.Name x p) "extend" X.env (eval (.Name x p) X.env)=eval (.Name x p) X.env:=by rfl)
  (hfew:((backTo cpos (starEach [e] X.env)).all (λx=>!x.1)&&(backToKw cpos (keywordEach [] X.env)).all (λx=>x.1.isSome)&&decide (([e]:List Expr).length+([]:List Keyword).length+(if ([]:List Keyword).isEmpty then 0 else 1)<30))=true:=by rfl)
  (hline:(apos.endLine==cpos.line)=true:=by rfl) (hs:starEach [e] X.env=(false,eval e X.env)::starEach [] X.env:=by rfl) (hplain:(backTo cpos (starEach [] X.env)).any (·.1)=false:=by rfl) (hst:dZ e=false:=by rfl):
  UE X F (.Call (.Attribute (.Name x p) "extend" apos) [e] [] cpos) (zGE i u):=⟨PE.imp (lW PySem.F.plainAttrs_list PySem.F.slot_list_extend PySem.F.type_list_extend zDZ (iX hN hv hd hcd) (aB h aC hst).pa hbase hfew hline hs hplain) λσ H QQ ⟨ρ,Q,f,⟨⟨Ts0,e0⟩,hu⟩,k⟩=>by
 obtain⟨a,xs,ea,eH,e3,z,pv⟩:=f.at_ i _ e0
 refine⟨_,hG ea,.inl ⟨rfl,xs,SqL.of eH⟩,ρ,λas ρ1=>∃T,as=[.va T]/\∃Ts Us,ρ1[i]?=some (.own Ts)/\T=.seq false Us/\Ts.length+Us.length<=100000/\Q nT (ρ1.set i (.own (Ts++Us))),f,?_,λvs as H1 ρ1 s1 p1 q1=>?_⟩
 ·show u ρ _
  have:(λT ρ1=>∃Ts Us,ρ1[i]?=some (.own Ts)/\T=.seq false Us/\Ts.length+Us.length<=100000/\Q nT (ρ1.set i (.own (Ts++Us))))=(λT (ρ1:aR)=>(oQ ρ1 λas ρ2=>∃T',Ar.va T::as=[.va T']/\∃Ts Us,ρ2[i]?=some (.own Ts)/\T'=.seq false Us/\Ts.length+Us.length<=100000/\Q nT (ρ2.set i (.own (Ts++Us)))) ):=by
   funext T ρ1
   apply propext
   constructor
   ·intro z;exact⟨T,rfl,z⟩
   ·rintro⟨T',e,z⟩;cases e;exact z
  rw[this]at hu
  exact hu
 ·obtain⟨T,rfl,Ts,Us,e1,rfl,le,q⟩:=q1
  cases p1 with
  |cons v t=>
   cases t
   have v:VA X.K H1 _ (.seq false Us):=v
   obtain⟨b,zs,rfl,⟨ob,hb⟩,_,pz⟩:=v.seqI
   obtain⟨a',ys,ea',eH1,e3',z',pv'⟩:=s1.fr.at_ i _ e1
   rw[ea]at ea';cases ea'
   have ll:ys.length=Ts.length:=Paired.length pv'
   have lz:zs.length=Us.length:=Paired.length pz
   refine⟨a,b,ys,zs,rfl,rfl,eH1,.inr ⟨ob,hb⟩,fI (by omega),k _ _ _ _ (s1.trans (s1.fr.put (s':=.own (Ts++Us)) e1 rfl ea eH1 rfl λhs h0=>⟨a,_,rfl,bE,h0,by rw[List.length_append];omega,VAs.hs hs (pL pv' pz)⟩)) (.flat rfl) q⟩⟩
def zHU(i:Nat)(u:UT):UT:=λρ Q=>(∃Ts,ρ[i]?=some (.own Ts))/\u ρ λJ ρ1=>∃(j:Int) (Ts:List Tv) (T:Tv),J=iT j/\ρ1[i]?=some (.own Ts)/\0<=j/\Ts[j.toNat]?=some T/\Q T (ρ1.set i (.own (Ts.eraseIdx j.toNat)))
theorem yC{α β:Type}{R:α->β->Prop}:∀{l:List α}{m:List β}(n:Nat),Paired R l m->Paired R (l.eraseIdx n) (m.eraseIdx n)
 |_,_,_,.nil=>.nil
 |_,_,0,.cons _ t=>t
 |_,_,n+1,.cons r t=>.cons r (yC n t)
theorem pH{α β:Type}{R:α->β->Prop}:∀{l:List α}{m:List β}{n:Nat}{y:β},Paired R l m->m[n]?=some y->∃x,l[n]?=some x/\R x y
 |_,_,_,_,.nil,e=>by simp at e
 |_,_,0,_,.cons r _,e=>by simp at e;subst e;exact⟨_,rfl,r⟩
 |_,_,n+1,_,.cons _ t,e=>by
  obtain⟨x,h1,h2⟩:=pH (n:=n) t (by simpa using e)
  exact⟨x,by simpa using h1,h2⟩
theorem pX(i:Nat)(h:UE X F e u)(hN:X.N[i]?=some x:=by rfl)(hv:Vis X.env.scope x:=by first|exact Or.inl rfl|exact Or.inr (Or.inl rfl)|exact Or.inr (Or.inr rfl))(hd:(x==("__debug__":Str))=false:=by decide)(hcd:(x==("__classdict__":Str))=false:=by decide)
  (hbase:attributeBase (.Name x p) "pop" X.env (eval (.Name x p) X.env)=eval (.Name x p) X.env:=by rfl)
  (hfew:((backTo cpos (starEach [e] X.env)).all (λx=>!x.1)&&(backToKw cpos (keywordEach [] X.env)).all (λx=>x.1.isSome)&&decide (([e]:List Expr).length+([]:List Keyword).length+(if ([]:List Keyword).isEmpty then 0 else 1)<30))=true:=by rfl)
  (hline:(apos.endLine==cpos.line)=true:=by rfl) (hs:starEach [e] X.env=(false,eval e X.env)::starEach [] X.env:=by rfl) (hplain:(backTo cpos (starEach [] X.env)).any (·.1)=false:=by rfl) (hst:dZ e=false:=by rfl):
  UE X F (.Call (.Attribute (.Name x p) "pop" apos) [e] [] cpos) (zHU i u):=⟨PE.imp (lW PySem.F.plainAttrs_list PySem.F.slot_list_pop PySem.F.type_list_pop zFY (iX hN hv hd hcd) (aB h aC hst).pa hbase hfew hline hs hplain) λσ H QQ ⟨ρ,Q,f,⟨⟨Ts0,e0⟩,hu⟩,k⟩=>by
 obtain⟨a,xs,ea,eH,e3,z,pv⟩:=f.at_ i _ e0
 refine⟨_,hG ea,.inl ⟨rfl,xs,SqL.of eH⟩,ρ,λas ρ1=>∃J,as=[.va J]/\∃(j:Int) (Ts:List Tv) (T:Tv),J=iT j/\ρ1[i]?=some (.own Ts)/\0<=j/\Ts[j.toNat]?=some T/\Q T (ρ1.set i (.own (Ts.eraseIdx j.toNat))),f,?_,λvs as H1 ρ1 s1 p1 q1=>?_⟩
 ·show u ρ _
  have:(λJ ρ1=>∃(j:Int) (Ts:List Tv) (T:Tv),J=iT j/\ρ1[i]?=some (.own Ts)/\0<=j/\Ts[j.toNat]?=some T/\Q T (ρ1.set i (.own (Ts.eraseIdx j.toNat))))=(λJ (ρ1:aR)=>(oQ ρ1 λas ρ2=>∃J',Ar.va J::as=[.va J']/\∃(j:Int) (Ts:List Tv) (T:Tv),J'=iT j/\ρ2[i]?=some (.own Ts)/\0<=j/\Ts[j.toNat]?=some T/\Q T (ρ2.set i (.own (Ts.eraseIdx j.toNat)))) ):=by
   funext T ρ1
   apply propext
   constructor
   ·intro z;exact⟨T,rfl,z⟩
   ·rintro⟨T',e,z⟩;cases e;exact z
  rw[this]at hu
  exact hu
 ·obtain⟨J,rfl,j,Ts,T,rfl,e1,h0,eT,q⟩:=q1
  cases p1 with
  |cons v t=>
   cases t
   obtain⟨rfl,_⟩:=VA.leafI v
   obtain⟨a',ys,ea',eH1,e3',z',pv'⟩:=s1.fr.at_ i _ e1
   rw[ea]at ea';cases ea'
   have ll:ys.length=Ts.length:=Paired.length pv'
   have lt:=(List.getElem?_eq_some_iff.mp eT).1
   obtain⟨y,ey,vy⟩:=pH pv' eT
   have s:=s1.fr.put (o':=.lst (ys.eraseIdx j.toNat)) e1 rfl ea eH1 rfl (s':=.own (Ts.eraseIdx j.toNat)) λhs h0=>⟨a,_,rfl,bE,h0,by rw[List.length_eraseIdx];split<;>omega,VAs.hs hs (yC _ pv')⟩
   refine⟨a,ys,j,j.toNat,y,rfl,rfl,eH1,by omega,by omega,PySem.StrLaws.seqIndex_nonneg h0 (by omega),ey,k _ _ _ _ (s1.trans s) (vy.hs (s.hs s1.fr)) q⟩⟩
def zIa(i:Nat):UTs:=λP ρ=>P.nx (ρ.set i (.dct []))
theorem zFp{i:Nat}{pos' dpos:Pos}(hN:X.N.Nodup)(hi:X.N[i]?=some x)(hx:Loc X.env.scope x)(hs:swapsWith (.Dict [] [] dpos) (some (.Name x pos')) pos.line X.env=pure false:=by rfl)(hf:X.fn x=true\/X.env.scope.names.lookup x=some .local:=by first|exact .inl rfl|exact .inr rfl|assumption):
  US X F (.Assign [.Name x pos'] (.Dict [] [] dpos) pos) (zIa i):=⟨PS.imp (hZ hN hi hx zFU hs hf) λD σ H ⟨ρ,P,f,h,k1,_⟩ a n=>by
 have s:=Stp.same f (cL (o:=.dK []) n)
 exact k1 _ _ _ (s.fr.set (s:=.dct []) (λ_=>⟨a,[],rfl,bE,f.none0 n,.nil,by decide,.nil⟩) (λ_ b eb j t ej mj qj=>by cases eb;exact s.notown f n j t ej mj qj)) (s.hs f) h⟩
def eJ(kts:List (Str×Tv))(k:Str)(T:Tv):List (Str×Tv):=if (kts.any λkt=>decide (kt.1=k))=true then kts.map (λkt=>if kt.1=k then(kt.1,T) else kt) else kts++[(k,T)]
theorem zGw{K:W.Frag}{H:Hp}{kvs:List (Key×V)}{kts:List (Str×Tv)}(p:VAk K H kvs kts)(k:Str):(kvs.any λkv=>decide (kv.1=.inr k))=kts.any λkt=>decide (kt.1=k):=by
 unfold VAk at p
 induction p with
 |nil=>rfl
 |cons r _ ih=>
  rw[List.any_cons,List.any_cons,ih,r.1]
  congr 1
  rw[Bool.eq_iff_iff,decide_eq_true_iff,decide_eq_true_iff]
  exact⟨λz=>Sum.inr.inj z,λz=>by rw[z]⟩
theorem zAM{K:W.Frag}{H:Hp}{kvs:List (Key×V)}{kts:List (Str×Tv)}(p:VAk K H kvs kts){k:Str}{v:V}{T:Tv}(q:VA K H v T):VAk K H (cV kvs (.inr k) v) (eJ kts k T):=by
 unfold cV eJ
 rw[zGw p k]
 split
 ·rename_i zz
  clear zz
  unfold VAk at p ⊢
  induction p with
  |nil=>exact .nil
  |@cons kv kt _ _ r _ ih=>
   refine .cons ?_ ih
   dsimp only
   by_cases z:kt.1=k
   ·rw[if_pos z,if_pos (by rw[r.1,z])];exact⟨r.1,q⟩
   ·rw[if_neg z,if_neg (by rw[r.1];exact λy=>z (Sum.inr.inj y))];exact r
 ·exact Paired.snoc p ⟨rfl,q⟩
theorem zEF(kts:List (Str×Tv))(k:Str)(T:Tv):(eJ kts k T).map (·.1)=if (kts.any λkt=>decide (kt.1=k))=true then kts.map (·.1) else kts.map (·.1)++[k]:=by
 unfold eJ
 split
 ·rw[List.map_map]
  refine List.map_congr_left λkt _=>?_
  show(if kt.1=k then(kt.1,T) else kt).1=kt.1
  split<;>rfl
 ·rw[List.map_append];rfl
theorem tR{kts:List (Str×Tv)}{k:Str}{T:Tv}(h:(kts.map (·.1)).Nodup):((eJ kts k T).map (·.1)).Nodup:=by
 rw[zEF]
 split
 ·exact h
 ·rename_i n
  rw[List.nodup_append]
  refine⟨h,by simp,λa ha b hb=>?_⟩
  rw[List.mem_singleton]at hb
  subst hb
  rintro rfl
  obtain⟨kt,hk,rfl⟩:=List.mem_map.mp ha
  exact n (List.any_eq_true.mpr ⟨kt,hk,by simp⟩)
def zJM(i:Nat)(uk uv:UT):UTs:=λP ρ=>uv ρ λT ρ1=>(∃kts,ρ1[i]?=some (.dct kts))/\uk ρ1 λk ρ2=>∃kts s,ρ2[i]?=some (.dct kts)/\k=sT s/\(eJ kts s T).length<64/\P.nx (ρ2.set i (.dct (eJ kts s T)))
theorem zGA{i:Nat}{k:Expr}{uk uv:UT}{pos':Pos}(hu:X.A.units+1<cLine)(hN:X.N[i]?=some x)(hv:Vis X.env.scope x)(hk:UE X F k uk)(he:UE X F e uv)(hs:swapsWith e (some (.Subscript (.Name x p) k pos')) pos.line X.env=pure false:=by rfl)(hd:(x==("__debug__":Str))=false:=by decide)(hcd:(x==("__classdict__":Str))=false:=by decide):
  US X F (.Assign [.Subscript (.Name x p) k pos'] e pos) (zJM i uk uv):=⟨PS.imp (zGW hu (iX hN hv hd hcd) hk.pe he.pe hs) λD σ H ⟨ρ,P,f,h,k1,_⟩=>by
 refine⟨ρ,_,f,h,λv T H1 ρ1 s1 v1 q1=>?_⟩
 obtain⟨⟨kts0,e0⟩,q1⟩:=q1
 obtain⟨a,kvs0,ea,eH0,_⟩:=s1.fr.at_ i _ e0
 refine⟨_,hG ea,ρ1,_,s1.fr,q1,λy Ky H2 ρ2 s2 v2 q2=>?_⟩
 obtain⟨kts,s,e2,rfl,lt,q⟩:=q2
 obtain⟨rfl,_⟩:=v2.leafI
 obtain⟨a',kvs,ea',eH,h0,nd,l64,p⟩:=s2.fr.at_ i _ e2
 rw[ea]at ea';cases ea'
 have ll:kvs.length=kts.length:=Paired.length p
 refine⟨a,_,rfl,DPut.k (k:=.inr s) eH (vJ (by omega)),?_⟩
 have st:=s2.fr.put (o':=.dK (cV kvs (.inr s) v)) e2 rfl ea eH rfl (s':=.dct (eJ kts s T)) λhs h0=>⟨a,_,rfl,bE,h0,tR nd,lt,VAk.hs hs (zAM p (v1.hs (s2.hs s1.fr)))⟩
 exact k1 _ _ _ st.fr (((s1.trans s2).trans st).hs f) q⟩
end
theorem Inv.frozen{X:Cx}{pins:List (Addr×Obj)}{σ:St}{H H2:Hp}{s:Shared}(I:Inv X pins σ H s)(fro:FrozenA pA H H2)(ok2:HOk X.prog X.w H2 s.heap):Inv X pins σ H2 s:=by
 refine⟨I.ok,I.os,I.bare,⟨I.base.keep,I.base.slot,λb o e n hx=>fro.none_of (I.base.free b o e n hx),I.base.there,λb xs e=>fro.keep (I.base.tups b xs e) rfl,λb o u e=>fro.keep (I.base.frzs b o u e) rfl,λb ps e=>?_⟩,I.loc,I.cell,fro.none_of I.free,λx c e=>fro.none_of (I.freeC x c e),λp hp=>?_,ok2,I.len⟩
 ·obtain⟨more,z⟩:=I.base.tbls b ps e
  exact⟨more,fro.keep z rfl⟩
 ·obtain⟨p1,p2,p3⟩:=I.pin p hp
  exact⟨p1,fro.none_of p2,p3⟩
theorem Inv.thaw{X:Cx}{pins:List (Addr×Obj)}{σ:St}{H H3 H4:Hp}{s s':Shared}(I:Inv X pins σ H s)(I3:Inv X pins σ H3 s')(th:Thaw H H3 H4):Inv X pins σ H4 s':=by
 have stay:∀b o,H3 b=some o->(∀u ob,o≠.frz ob u)->H4 b=some o:=λb o e n=>by
  rcases th b with⟨u,ob,_,_,z,_⟩|⟨_,z⟩
  ·rw[e]at z;cases z;exact absurd rfl (n u ob)
  ·rw[z];exact e
 have none4:∀b,H3 b=none->H4 b=none:=λb e=>by
  rcases th b with⟨u,ob,_,_,z,_⟩|⟨_,z⟩
  ·rw[e]at z;cases z
  ·rw[z];exact e
 refine⟨I3.ok,I3.os,I3.bare,⟨I3.base.keep,I3.base.slot,λb o e n hx=>none4 b (I3.base.free b o e n hx),I3.base.there,λb xs e=>stay b _ (I3.base.tups b xs e) (λ_ _ z=>by cases z),λb o u e=>?_,λb ps e=>?_⟩,I3.loc,I3.cell,none4 _ I3.free,λx c e=>none4 c (I3.freeC x c e),λp hp=>?_,λb o e=>?_,I3.len⟩
 ·rcases th b with⟨o',ob,n,z,_⟩|⟨_,z⟩
  ·rw[I.base.frzs b o u e]at z;cases z;exact absurd n Bool.false_ne_true
  ·rw[z];exact I3.base.frzs b o u e
 ·obtain⟨more,z⟩:=I3.base.tbls b ps e
  exact⟨more,stay b _ z (λ_ _ z=>by cases z)⟩
 ·obtain⟨p1,p2,p3⟩:=I3.pin p hp
  exact⟨p1,none4 _ p2,p3⟩
 ·have st:∀o,ObjOk X.prog X.w H3 s'.heap b o->ObjOk X.prog X.w H4 s'.heap b o:=λo x=>x.stay (λ_ _ _ r=>r) (λd r=>stay d _ r (λ_ _ z=>by cases z)) λd xs r=>stay d _ r (λ_ _ z=>by cases z)
  rcases th b with⟨o',ob,n,_,z,z'⟩|⟨_,z⟩
  ·rw[z']at e
   cases e
   obtain⟨_,y⟩:=(show ObjOk X.prog X.w H3 s'.heap b (.frz ob o) from I3.hok b _ z)
   exact st o y
  ·rw[z]at e
   exact st o (I3.hok b o e)
def pkS:Sl->Sl
 |.own Ts=>.va (.seq false Ts)
 |.dct kts=>.va (.dct kts)
 |.dk=>.no
 |s=>s
def pkE(ρ:aR):aR:=ρ.map pkS
theorem zCn{K:W.Frag}{F:Fm}{ρ:aR}{σ:St}{H H2:Hp}(f:FrOk K F ρ σ H)(fro:FrozenA pA H H2):FrOk K ⟨H2,none⟩ (pkE ρ) σ H2:=by
 have hs:=fro.hs
 refine⟨λ_ _ z=>(nomatch z),⟨λ_ _ e _=>e,λ_ _ z=>(nomatch z)⟩,by unfold pkE;rw[List.length_map];exact f.len,λi s e=>?_,λi j a s t e _ m _ _ _=>?_⟩
 ·unfold pkE at e
  rw[List.getElem?_map]at e
  obtain⟨s0,e0,rfl⟩:=Option.map_eq_some_iff.mp e
  have h:=f.at_ i s0 e0
  cases s0 with
  |no=>trivial
  |va T=>obtain⟨y,e1,v⟩:=h;exact⟨y,e1,v.hs hs⟩
  |own Ts=>
   obtain⟨a,xs,e1,e2,e3,z,p⟩:=h
   obtain⟨ob,e4⟩:=fro.fz (b:=a) rfl e2 rfl
   exact⟨_,e1,VA.seq (t:=false) ⟨ob,e4⟩ z (p.hs hs)⟩
  |dct kts=>
   obtain⟨a,kvs,e1,e2,e3,n,z,p⟩:=h
   obtain⟨ob,e4⟩:=fro.fz (b:=a) rfl e2 rfl
   exact⟨_,e1,VA.dct ⟨ob,e4⟩ n z (p.hs hs)⟩
  |dk=>trivial
 ·unfold pkE at e
  rw[List.getElem?_map]at e
  obtain⟨s0,e0,rfl⟩:=Option.map_eq_some_iff.mp e
  cases s0<;>cases m
theorem zBb{K:W.Frag}{ρ ρ':aR}{σ:St}{H2 H3:Hp}{H0:Hp}(s:Stp K ⟨H0,none⟩ σ (pkE ρ) H2 ρ' H3):Same H2 H3:=λb o e=>s.st b o e (λ_ _ z=>(nomatch z)) λi t e1 m=>by
 unfold pkE at e1
 rw[List.getElem?_map]at e1
 obtain⟨s0,e0,rfl⟩:=Option.map_eq_some_iff.mp e1
 cases s0<;>cases m
section
variable{X:Cx}{F:Fm}{e:Expr}
def zJs(u:UT):UT:=λρ Q=>u (pkE ρ) λT _=>∃v,T=.leaf v/\Q T ρ
theorem lD{u:UT}(h:∀F,UE X F e u):UE X F e (zJs u):=⟨λpins s σ H QQ I ⟨ρ,Q,f,hu,k⟩=>by
 obtain⟨H2,fro,ok2⟩:=zS I.hok
 have f2:=zCn f fro
 refine thn ((h ⟨H2,none⟩).pe pins s σ H2 (λx H3=>∃v ρ',Stp X.K ⟨H2,none⟩ σ (pkE ρ) H2 ρ' H3/\VA X.K H3 x (.leaf v)/\Q (.leaf v) ρ) (I.frozen fro ok2) ⟨_,_,f2,hu,λx T H' ρ' st v q=>?_⟩) λu s' ⟨x,H3,I3,r,q⟩=>?_
 ·obtain⟨w,rfl,q⟩:=q
  exact⟨w,ρ',st,v,q⟩
 ·obtain⟨v,ρ',st,va,q⟩:=q
  obtain⟨H4,th⟩:=zAU H H3
  obtain⟨rfl,fl⟩:=va.leafI
  exact⟨x,H4,I.thaw I3 th,r,k _ _ _ _ (Stp.same f (Thaw.same fro (zBb st) th)) (.flat fl) q⟩⟩
def zHV(u:UTt):UTt:=λρ Q=>u (pkE ρ) λb _=>Q b ρ
theorem zAR{u:UTt}(h:∀F,UB X F e u):UB X F e (zHV u):=⟨λpins s σ H QQ I ⟨ρ,Q,f,hu,k⟩=>by
 obtain⟨H2,fro,ok2⟩:=zS I.hok
 have f2:=zCn f fro
 refine thn ((h ⟨H2,none⟩).pt pins s σ H2 (λb H3=>∃ρ',Stp X.K ⟨H2,none⟩ σ (pkE ρ) H2 ρ' H3/\Q b ρ) (I.frozen fro ok2) ⟨_,_,f2,hu,λb H' ρ' st q=>⟨ρ',st,q⟩⟩) λb s' ⟨H3,I3,q⟩=>?_
 obtain⟨ρ',st,q⟩:=q
 obtain⟨H4,th⟩:=zAU H H3
 exact⟨H4,I.thaw I3 th,k _ _ _ (Stp.same f (Thaw.same fro (zBb st) th)) q⟩⟩
end
end L2
namespace L2
open PySem PySem.Spec PyProof.Rows WordM
mutual
def eqT:Tv->Tv->Bool
 |.leaf v,.leaf w=>eqV v w
 |.seq s xs,.seq t ys=>s==t&&cC xs ys
 |_,_=>false
def cC:List Tv->List Tv->Bool
 |[],[]=>true
 |x::xs,y::ys=>eqT x y&&cC xs ys
 |_,_=>false
end
def EqD:Nat->Tv->Prop
 |0,_=>False
 |_+1,.leaf _=>True
 |n+1,.seq _ xs=>∀U∈xs,EqD n U
 |_+1,.dct _=>False
theorem uS:∀{xs ys:List Tv},xs.length≠ys.length->cC xs ys=false
 |[],[],h=>absurd rfl h
 |[],_::_,_=>by simp[cC]
 |_::_,[],_=>by simp[cC]
 |x::xs,y::ys,h=>by
  have:=uS (xs:=xs) (ys:=ys) (λe=>h (by simp[e]))
  simp[cC,this]
theorem tU:∀{xs ys:List Tv},xs.length=ys.length->(List.range xs.length).all (λi=>eqT (xs.getD i nT) (ys.getD i nT))=cC xs ys
 |[],[],_=>by simp[cC]
 |[],_::_,h=>by simp at h
 |_::_,[],h=>by simp at h
 |x::xs,y::ys,h=>by
  have ih:=tU (xs:=xs) (ys:=ys) (by simpa using h)
  rw[List.length_cons,List.range_succ_eq_map,List.all_cons,List.all_map]
  show(eqT x y&&(List.range xs.length).all λi=>eqT (xs.getD i nT) (ys.getD i nT))=cC (x::xs) (y::ys)
  rw[ih]
  simp[cC]
theorem EqD.vp{K:W.Frag}{H:Hp}:∀{n d:Nat}{x:V}{T:Tv},EqD n T->VP K H d x T->VP K H n x T
 |0,_,_,_,h,_=>False.elim h
 |_+1,0,_,_,_,h=>False.elim h
 |n+1,d+1,x,T,h,v=>by
  rcases v with v|⟨t,a,xs,Ts,e1,e2,rfl,z,p⟩|⟨a,kvs,kts,e1,e2,rfl,_⟩
  ·exact .inl v
  ·have g:∀U∈Ts,EqD n U:=h
   refine .inr (.inl ⟨t,a,xs,Ts,e1,e2,rfl,z,?_⟩)
   clear e2 z h
   induction p with
   |nil=>exact .nil
   |cons r _ ih=>exact .cons ((g _ (.head _)).vp r) (ih λU hU=>g U (.tail _ hU))
  ·exact False.elim h
section
variable{X:Cx}{pins:List (Addr×Obj)}{σ:St}{H:Hp}{s:Shared}
theorem zGg{v:V}(h:cY v=true):eqV v v=true:=by
 cases v<;>first|exact absurd h Bool.false_ne_true|simp[eqV]
theorem PSeq.isList{a:Addr}{xs:List V}(I:Inv X pins σ H s)(h:PSeq X.K H false a xs):∃its:List Value,Vals xs its/\s.heap.IsList a its.toArray:=by
 obtain⟨its,r,p,_⟩:=I.list (cD h)
 exact⟨its,r,p.isList⟩
theorem PSeq.isTup{a:Addr}{xs:List V}(I:Inv X pins σ H s)(h:PSeq X.K H true a xs):∃its:List Value,Vals xs its/\s.heap.IsTuple a its.toArray:=by
 obtain⟨its,r,p,_⟩:=I.tuple h
 exact⟨its,r,p⟩
theorem zBo(I:Inv X pins σ H s):∀{n:Nat}{x:V}{T U:Tv},VP X.K H n x T->VP X.K H n x U->EqD n T->EqD n U->eqT T U=true
 |0,_,_,_,h,_,_,_=>False.elim h
 |n+1,x,T,U,h,h',d,d'=>by
  rcases h with⟨f,rfl⟩|⟨t,a,xs,Ts,rfl,e2,rfl,z,p⟩|⟨a,kvs,kts,rfl,e2,rfl,_⟩
  ·rcases h' with⟨_,rfl⟩|⟨t',a',xs',Ts',rfl,_⟩|⟨a',kvs',kts',rfl,_⟩
   ·simp[eqT,zGg f]
   ·cases f
   ·cases f
  ·rcases h' with⟨f,rfl⟩|⟨t',a',xs',Ts',e1',e2',rfl,z',p'⟩|⟨a',kvs',kts',e1',e2',rfl,_⟩
   ·cases f
   ·cases e1'
    have tt:t=t':=by
     cases t<;>cases t'<;>first|rfl|skip
     ·obtain⟨_,_,l1⟩:=PSeq.isList I e2
      obtain⟨_,_,l2⟩:=PSeq.isTup I e2'
      exact absurd rfl (SeqAt.ne_of_list_tuple l1 l2)
     ·obtain⟨_,_,l1⟩:=PSeq.isList I e2'
      obtain⟨_,_,l2⟩:=PSeq.isTup I e2
      exact absurd rfl (SeqAt.ne_of_list_tuple l1 l2)
    subst tt
    have ex:xs=xs':=by
     cases t with
     |false=>exact I.list_inj (cD e2) (cD e2')
     |true=>exact I.tuple_inj e2 e2'
    subst ex
    have d:∀U∈Ts,EqD n U:=d
    have d':∀U∈Ts',EqD n U:=d'
    have key:∀{xs:List V} {Ts Ts':List Tv},Paired (VP X.K H n) xs Ts->Paired (VP X.K H n) xs Ts'->(∀U∈Ts,EqD n U)->(∀U∈Ts',EqD n U)->cC Ts Ts'=true:=by
     intro xs Ts Ts' p
     induction p generalizing Ts' with
     |nil=>intro p' _ _;cases p';simp[cC]
     |cons r _ ih=>
      intro p' d d'
      cases p' with
      |cons r' t'=>simp[cC,zBo I r r' (d _ (.head _)) (d' _ (.head _)),ih t' (λU hU=>d U (.tail _ hU)) (λU hU=>d' U (.tail _ hU))]
    simp[eqT,key p p' d d']
   ·exact False.elim d'
  ·exact False.elim d
theorem iM{x:V}(h:cY x=true):x=.non\/(∃b,x=.bl b)\/(∃i,x=.int i)\/∃z,x=.str z:=by
 cases x with
 |non=>exact .inl rfl
 |bl b=>exact .inr (.inl ⟨b,rfl⟩)
 |int i=>exact .inr (.inr (.inl ⟨i,rfl⟩))
 |str z=>exact .inr (.inr (.inr ⟨z,rfl⟩))
 |_=>exact absurd (show false=true from h) Bool.false_ne_true
open SeqAt in
theorem kR(I:Inv X pins σ H s){A:Around}(hu:A.units<cLine){x:V}{v:Value}{t:Bool}{a:Addr}{xs:List V}(f:cY x=true)(r:RelV x v)(h:PSeq X.K H t a xs):
  EqAt A s v (.ref a) false/\EqAt A s (.ref a) v false/\RcAt A s v (.ref a) false/\RcAt A s (.ref a) v false/\RcNeAt A s v (.ref a) true/\RcNeAt A s (.ref a) v true:=by
 cases t with
 |false=>
  obtain⟨_,_,l⟩:=PSeq.isList I h
  rcases iM f with rfl|⟨b,rfl⟩|⟨b,rfl⟩|⟨b,rfl⟩
  ·cases r;exact⟨.none_list l hu,.list_none l hu,.none_list l hu,.list_none l hu,.none_list l hu,.list_none l hu⟩
  ·cases r;exact⟨.bool_list b l hu,.list_bool b l hu,.bool_list b l hu,.list_bool b l hu,.bool_list b l hu,.list_bool b l hu⟩
  ·obtain⟨t,rfl⟩:=r;exact⟨.int_list b t l hu,.list_int b t l hu,.int_list b t l hu,.list_int b t l hu,.int_list b t l hu,.list_int b t l hu⟩
  ·obtain⟨t,rfl⟩:=r;exact⟨.str_list b t l hu,.list_str b t l hu,.str_list b t l hu,.list_str b t l hu,.str_list b t l hu,.list_str b t l hu⟩
 |true=>
  obtain⟨_,_,l⟩:=PSeq.isTup I h
  rcases iM f with rfl|⟨b,rfl⟩|⟨b,rfl⟩|⟨b,rfl⟩
  ·cases r;exact⟨.none_tuple l hu,.tuple_none l hu,.none_tuple l hu,.tuple_none l hu,.none_tuple l hu,.tuple_none l hu⟩
  ·cases r;exact⟨.bool_tuple b l hu,.tuple_bool b l hu,.bool_tuple b l hu,.tuple_bool b l hu,.bool_tuple b l hu,.tuple_bool b l hu⟩
  ·obtain⟨t,rfl⟩:=r;exact⟨.int_tuple b t l hu,.tuple_int b t l hu,.int_tuple b t l hu,.tuple_int b t l hu,.int_tuple b t l hu,.tuple_int b t l hu⟩
  ·obtain⟨t,rfl⟩:=r;exact⟨.str_tuple b t l hu,.tuple_str b t l hu,.str_tuple b t l hu,.tuple_str b t l hu,.str_tuple b t l hu,.tuple_str b t l hu⟩
open SeqAt in
theorem zA0{A:Around}{x y:V}{v u:Value}(fx:cY x=true)(fy:cY y=true)(rx:RelV x v)(ry:RelV y u):RcAt A s v u (eqV x y)/\RcNeAt A s v u (!eqV x y):=by
 rcases iM fx with rfl|⟨a,rfl⟩|⟨a,rfl⟩|⟨a,rfl⟩<;>rcases iM fy with rfl|⟨b,rfl⟩|⟨b,rfl⟩|⟨b,rfl⟩
 ·cases rx;cases ry;exact⟨.none_none,.none_none⟩
 ·cases rx;cases ry;exact⟨.none_bool b,.none_bool b⟩
 ·cases rx;obtain⟨t,rfl⟩:=ry;exact⟨.none_int b t,.none_int b t⟩
 ·cases rx;obtain⟨t,rfl⟩:=ry;exact⟨.none_str b t,.none_str b t⟩
 ·cases rx;cases ry;exact⟨.bool_none a,.bool_none a⟩
 ·cases rx;cases ry;exact⟨.bool_bool a b,.bool_bool a b⟩
 ·cases rx;obtain⟨t,rfl⟩:=ry;exact⟨.bool_int a b t,.bool_int a b t⟩
 ·cases rx;obtain⟨t,rfl⟩:=ry;exact⟨.bool_str a b t,.bool_str a b t⟩
 ·obtain⟨t',rfl⟩:=rx;cases ry;exact⟨.int_none a t',.int_none a t'⟩
 ·obtain⟨t',rfl⟩:=rx;cases ry;exact⟨.int_bool a t' b,.int_bool a t' b⟩
 ·obtain⟨t',rfl⟩:=rx;obtain⟨t,rfl⟩:=ry;exact⟨.int_int a t' b t,.int_int a t' b t⟩
 ·obtain⟨t',rfl⟩:=rx;obtain⟨t,rfl⟩:=ry;exact⟨.int_str a t' b t,.int_str a t' b t⟩
 ·obtain⟨t',rfl⟩:=rx;cases ry;exact⟨.str_none a t',.str_none a t'⟩
 ·obtain⟨t',rfl⟩:=rx;cases ry;exact⟨.str_bool a t' b,.str_bool a t' b⟩
 ·obtain⟨t',rfl⟩:=rx;obtain⟨t,rfl⟩:=ry;exact⟨.str_int a t' b t,.str_int a t' b t⟩
 ·obtain⟨t',rfl⟩:=rx;obtain⟨t,rfl⟩:=ry;exact⟨.str_str a t' b t,.str_str a t' b t⟩
theorem zAe{xs:List V}{us:List Value}(r:Vals xs us){j:Nat}(h:j<us.toArray.size):∃x,xs[j]?=some x/\RelV x us.toArray[j]:=by
 have l:=r.length
 have k:j<xs.length:=by rw[l];simpa using h
 obtain⟨u,hu,ru⟩:=r.get (i:=j) (x:=xs[j]) (List.getElem?_eq_getElem k)
 refine⟨_,List.getElem?_eq_getElem k,?_⟩
 have e1:us.toArray[j]=u:=by
  obtain⟨_,e⟩:=List.getElem?_eq_some_iff.mp hu
  simpa using e
 rw[e1];exact ru
open SeqAt in
theorem zBM(I:Inv X pins σ H s){A:Around}(hu:A.units<cLine){t:Bool}{a b:Addr}{xs ys:List V}{Ts Us:List Tv}(ha:PSeq X.K H t a xs)(hb:PSeq X.K H t b ys)(lx:xs.length=Ts.length)(ly:ys.length=Us.length)
  (it:∀(j:Nat) (x y:V) (T U:Tv) (v u:Value),xs[j]?=some x->ys[j]?=some y->Ts[j]?=some T->Us[j]?=some U->RelV x v->RelV y u->EqAt A.in1 s v u (eqT T U)):RcAt A s (.ref a) (.ref b) (cC Ts Us)/\RcNeAt A s (.ref a) (.ref b) (!cC Ts Us):=by
 have item:∀{vs us:List Value},Vals xs vs->Vals ys us->∀j (h1:j<vs.toArray.size) (h2:j<us.toArray.size),EqAt A.in1 s vs.toArray[j] us.toArray[j] (eqT (Ts.getD j nT) (Us.getD j nT)):=λ{vs us} r1 r2 j h1 h2=>by
  obtain⟨x,ex,rx⟩:=zAe r1 h1
  obtain⟨y,ey,ry⟩:=zAe r2 h2
  have k1:=(List.getElem?_eq_some_iff.mp ex).1
  have k2:=(List.getElem?_eq_some_iff.mp ey).1
  refine it j x y _ _ _ _ ex ey ?_ ?_ rx ry
  ·rw[List.getD_eq_getElem?_getD,List.getElem?_eq_getElem (by omega)];rfl
  ·rw[List.getD_eq_getElem?_getD,List.getElem?_eq_getElem (by omega)];rfl
 cases t with
 |false=>
  obtain⟨vs,r1,l1⟩:=PSeq.isList I ha
  obtain⟨us,r2,l2⟩:=PSeq.isList I hb
  have n1:=r1.length
  have n2:=r2.length
  by_cases hl:Ts.length=Us.length
  ·have e1:=RcAt.lists l1 l2 (by simp only[List.size_toArray];omega) hu (item r1 r2)
   have e2:=RcNeAt.lists l1 l2 (by simp only[List.size_toArray];omega) hu (item r1 r2)
   rw[show vs.toArray.size=Ts.length by rw[List.size_toArray];omega,tU hl]at e1 e2
   exact⟨e1,e2⟩
  ·rw[uS hl]
   have hne:(vs.toArray.size != us.toArray.size)=true:=by
    rw[bne_iff_ne,List.size_toArray,List.size_toArray];omega
   exact⟨.lists_lengths l1 l2 hne hu,.lists_lengths l1 l2 hne hu⟩
 |true=>
  obtain⟨vs,r1,l1⟩:=PSeq.isTup I ha
  obtain⟨us,r2,l2⟩:=PSeq.isTup I hb
  have n1:=r1.length
  have n2:=r2.length
  have e1:=RcAt.tuples l1 l2 hu (item r1 r2)
  have e2:=RcNeAt.tuples l1 l2 hu (item r1 r2)
  have ee:((List.range (min vs.toArray.size us.toArray.size)).all (λi=>eqT (Ts.getD i nT) (Us.getD i nT))&&vs.toArray.size==us.toArray.size)=cC Ts Us:=by
   rw[show vs.toArray.size=Ts.length by rw[List.size_toArray];omega,show us.toArray.size=Us.length by rw[List.size_toArray];omega]
   by_cases hl:Ts.length=Us.length
   ·rw[<-hl,Nat.min_self,tU hl];simp
   ·rw[uS hl,beq_eq_false_iff_ne.mpr hl,Bool.and_false]
  rw[ee]at e1 e2
  exact⟨e1,e2⟩
open SeqAt in
theorem vO(I:Inv X pins σ H s):∀(n:Nat) {A:Around}{x y:V}{T U:Tv}{v u:Value},A.units+n<cLine->EqD n T->EqD n U->VP X.K H n x T->VP X.K H n y U->RelV x v->RelV y u->EqAt A s v u (eqT T U)
 |0,_,_,_,_,_,_,_,_,h,_,_,_,_,_=>False.elim h
 |n+1,A,x,y,T,U,v,u,hu,d,d',h,h',rx,ry=>by
  have hu0:A.units<cLine:=by omega
  have hh:=h
  have hh':=h'
  rcases h with⟨f,rfl⟩|⟨t,a,xs,Ts,rfl,e2,rfl,z,p⟩|⟨a,kvs,kts,rfl,e2,rfl,_⟩
  ·rcases h' with⟨f',rfl⟩|⟨t',a',xs',Ts',rfl,e2',rfl,z',p'⟩|⟨a',kvs',kts',rfl,_,rfl,_⟩
   ·have:=zB6 (A:=A) (s:=s) rx ry f f'
    simpa[eqT]using this
   ·cases ry
    have:=(kR I hu0 f rx e2').1
    simpa[eqT]using this
   ·exact False.elim d'
  ·rcases h' with⟨f',rfl⟩|⟨t',b,ys,Us,rfl,e2',rfl,z',p'⟩|⟨a',kvs',kts',rfl,_,rfl,_⟩
   ·cases rx
    have:=(kR I hu0 f' ry e2).2.1
    simpa[eqT]using this
   ·cases rx
    cases ry
    by_cases ab:a=b
    ·subst ab
     have:=zBo I hh hh' d d'
     rw[this]
     exact EqAt.same _
    ·by_cases tt:t=t'
     ·subst tt
      have d:∀U∈Ts,EqD n U:=d
      have d':∀U∈Us,EqD n U:=d'
      have:=(zBM I hu0 e2 e2' (Paired.length p) (Paired.length p') λj x y T U v u ex ey eT eU rx ry=>by
       obtain⟨T',eT',vx⟩:=eP p ex
       obtain⟨U',eU',vy⟩:=eP p' ey
       rw[eT]at eT';cases eT'
       rw[eU]at eU';cases eU'
       exact vO I n (by show A.units+1+n<_;omega) (d _ (List.mem_of_getElem? eT)) (d' _ (List.mem_of_getElem? eU)) vx vy rx ry).1
      have r:=EqAt.of_refs ab this
      simpa[eqT]using r
     ·have e:eqT (.seq t Ts) (.seq t' Us)=false:=by simp[eqT,tt]
      rw[e]
      refine EqAt.of_refs ab ?_
      cases t<;>cases t'<;>first|exact absurd rfl tt|skip
      ·obtain⟨_,_,l1⟩:=PSeq.isList I e2
       obtain⟨_,_,l2⟩:=PSeq.isTup I e2'
       exact .list_tuple l1 l2 hu0
      ·obtain⟨_,_,l1⟩:=PSeq.isTup I e2
       obtain⟨_,_,l2⟩:=PSeq.isList I e2'
       exact .tuple_list l1 l2 hu0
   ·exact False.elim d'
  ·exact False.elim d
end
def zL4(Ts Us:List Tv):Prop:=Ts=[]\/Us=[]\/((∀T∈Ts,EqD 40 T)/\∀U∈Us,EqD 40 U)
def jA(neg:Bool):P2
 |.leaf v,.leaf w,Q=>Q (bT (neg != eqV v w))
 |.leaf _,.seq _ _,Q=>Q (bT neg)
 |.seq _ _,.leaf _,Q=>Q (bT neg)
 |.seq s xs,.seq t ys,Q=>zL4 xs ys/\Q (bT (neg != (s==t&&cC xs ys)))
 |_,_,_=>False
section
variable{X:Cx}
open SeqAt in
theorem zBp{pins:List (Addr×Obj)}{σ:St}{H:Hp}{s:Shared}(I:Inv X pins σ H s)(hu:X.A.units+64<cLine){neg:Bool}{x y:V}{T U:Tv}{v u:Value}{Q:Tv->Prop}(vx:VA X.K H x T)(vy:VA X.K H y U)(rx:RelV x v)(ry:RelV y u)(h:jA neg T U Q):
  ∃b,Q (bT (neg != b))/\RcAt X.A s v u b/\RcNeAt X.A s v u (!b):=by
 have hu0:X.A.units<cLine:=by omega
 unfold jA at h
 split at h
 ·obtain⟨rfl,f⟩:=vx.leafI
  obtain⟨rfl,f'⟩:=vy.leafI
  exact⟨_,h,zA0 f f' rx ry⟩
 ·obtain⟨rfl,f⟩:=vx.leafI
  obtain⟨a,xs,rfl,hs,_⟩:=vy.seqI
  cases ry
  have r:=kR I hu0 f rx hs
  exact⟨false,by simpa using h,r.2.2.1,r.2.2.2.2.1⟩
 ·obtain⟨rfl,f⟩:=vy.leafI
  obtain⟨a,xs,rfl,hs,_⟩:=vx.seqI
  cases rx
  have r:=kR I hu0 f ry hs
  exact⟨false,by simpa using h,r.2.2.2.1,r.2.2.2.2.2⟩
 ·rename_i t Ts t' Us
  obtain⟨ok,q⟩:=h
  obtain⟨a,xs,rfl,hs,z,p⟩:=vx.seqI
  obtain⟨b,ys,rfl,hs',z',p'⟩:=vy.seqI
  cases rx
  cases ry
  refine⟨_,q,?_⟩
  by_cases tt:t=t'
  ·subst tt
   have e:(t==t&&cC Ts Us)=cC Ts Us:=by simp
   rw[e]
   refine zBM I hu0 hs hs' (Paired.length p) (Paired.length p') λj x y T U v u ex ey eT eU rx ry=>?_
   rcases ok with rfl|rfl|⟨o1,o2⟩
   ·cases eT
   ·cases eU
   ·obtain⟨T',eT',d,vx⟩:=eP p ex
    obtain⟨U',eU',d',vy⟩:=eP p' ey
    rw[eT]at eT';cases eT'
    rw[eU]at eU';cases eU'
    have k1:=o1 _ (List.mem_of_getElem? eT)
    have k2:=o2 _ (List.mem_of_getElem? eU)
    exact vO I 40 (by show X.A.units+1+40<_;omega) k1 k2 (k1.vp vx) (k2.vp vy) rx ry
  ·have e:(t==t'&&cC Ts Us)=false:=by simp[tt]
   rw[e]
   cases t<;>cases t'<;>first|exact absurd rfl tt|skip
   ·obtain⟨_,_,l1⟩:=PSeq.isList I hs
    obtain⟨_,_,l2⟩:=PSeq.isTup I hs'
    exact⟨.list_tuple l1 l2 hu0,.list_tuple l1 l2 hu0⟩
   ·obtain⟨_,_,l1⟩:=PSeq.isTup I hs
    obtain⟨_,_,l2⟩:=PSeq.isList I hs'
    exact⟨.tuple_list l1 l2 hu0,.tuple_list l1 l2 hu0⟩
 ·exact False.elim h
def zCE(K:W.Frag)(neg:Bool):R2:=λx y H Q=>∃T U,VA K H x T/\VA K H y U/\jA neg T U λW=>∃b,W=bT b/\Q (.bl b) H
theorem zIS(hu:X.A.units+64<cLine):OpR X (compareOp .Eq) (zCE X.K false):=by
 rintro pins s σ H x y v u Q I rx ry ⟨T,U,vx,vy,h⟩
 obtain⟨b,⟨b',e,q⟩,r,_⟩:=zBp I hu vx vy rx ry h
 cases e
 exact r X.prog X.w X.xe _ ⟨.bl b,H,I,rfl,by simpa using q⟩
theorem zIN(hu:X.A.units+64<cLine):OpR X (compareOp .NotEq) (zCE X.K true):=by
 rintro pins s σ H x y v u Q I rx ry ⟨T,U,vx,vy,h⟩
 obtain⟨b,⟨b',e,q⟩,_,r⟩:=zBp I hu vx vy rx ry h
 cases e
 exact r X.prog X.w X.xe _ ⟨.bl (!b),H,I,rfl,by simpa using q⟩
theorem zJ{neg:Bool}{T U:Tv}{Q Q':Tv->Prop}(h:jA neg T U Q)(i:∀b,Q (bT b)->Q' (bT b)):jA neg T U Q':=by
 unfold jA at h ⊢
 split at h
 ·exact i _ h
 ·exact i _ h
 ·exact i _ h
 ·exact⟨h.1,i _ h.2⟩
 ·exact False.elim h
abbrev pEq:P2:=jA false
abbrev pNe:P2:=jA true
theorem eN(hu:X.A.units+64<cLine):PuCmp X (compareOp .Eq) pEq:=⟨_,zIS hu,λx y T U H Q QQ vx vy h k=>⟨T,U,vx,vy,zJ h λb q=>⟨b,rfl,k _ _ _ (Same.refl _) (.flat rfl) q⟩⟩⟩
theorem wK(hu:X.A.units+64<cLine):PuCmp X (compareOp .NotEq) pNe:=⟨_,zIN hu,λx y T U H Q QQ vx vy h k=>⟨T,U,vx,vy,zJ h λb q=>⟨b,rfl,k _ _ _ (Same.refl _) (.flat rfl) q⟩⟩⟩
end
end L2
namespace L2
open PySem PySem.Spec PyProof.Rows WordM
section
variable{X:Cx}{F:Fm}
theorem cX{K:W.Frag}{H:Hp}{xs:List V}{T:Tv}(h:VAs K H xs [T]):∃x,xs=[x]/\VA K H x T:=by
 cases h with
 |cons r t=>cases t;exact⟨_,rfl,r⟩
theorem wT{K:W.Frag}{H:Hp}{xs:List V}{T U:Tv}(h:VAs K H xs [T,U]):∃x y,xs=[x,y]/\VA K H x T/\VA K H y U:=by
 cases h with
 |cons r t=>
  obtain⟨y,rfl,v⟩:=cX t
  exact⟨_,y,rfl,r,v⟩
def zJW(K:W.Frag):R2:=λx y H Q=>∃l b xs zs,x=.ref l/\y=.ref b/\Rd H l (.lst xs)/\Rd H b (.lst zs)/\xs.length+zs.length<=sizeLine/\∀p,H p=none->Q (.ref p) (upd H p (.lst (xs++zs)))
theorem zHh:OpR X (binaryOp .Add) (zJW X.K):=by
 rintro pins s σ H _ _ v u Q I rx ry ⟨l,b,xs,zs,rfl,rfl,hH,hB,hz,q⟩
 cases rx
 cases ry
 obtain⟨z,its,n,r,e⟩:=hH.ok I.hok
 obtain⟨z2,its2,n2,r2,e2⟩:=hB.ok I.hok
 have l1:=r.length
 have l2:=r2.length
 refine PySem.P.add_list e e2 ?_ (by rw[List.size_toArray,List.size_toArray];omega)
 rw[show its.toArray++its2.toArray=(its++its2).toArray by simp]
 exact⟨.ref _,_,I.lnew (t':=s.toks) (r.append r2) (by rw[List.length_append];omega),rfl,q _ I.fresh⟩
def zCL:P2
 |.leaf (.int i),.leaf (.int j),Q=>Q (iT (i+j))
 |.leaf (.str x),.leaf (.str y),Q=>x.length+y.length<=100000/\Q (sT (x++y))
 |.seq true xs,.seq true ys,Q=>xs.length+ys.length<=100000/\Q (.seq true (xs++ys))
 |.seq false xs,.seq false ys,Q=>xs.length+ys.length<=100000/\Q (.seq false (xs++ys))
 |_,_,_=>False
theorem bO:fQ X (binaryOp .Add) zCL:=⟨_,op_add.or (op_add_str.or (op_catG.or zHh)),λx y T U H Q QQ vx vy h k=>by
 unfold zCL at h
 split at h
 ·obtain⟨rfl,_⟩:=vx.leafI
  obtain⟨rfl,_⟩:=vy.leafI
  exact .inl ⟨_,_,rfl,rfl,k _ _ _ (.flat rfl) h⟩
 ·obtain⟨rfl,_⟩:=vx.leafI
  obtain⟨rfl,_⟩:=vy.leafI
  exact .inr (.inl ⟨_,_,rfl,rfl,fI h.1,k _ _ _ (.flat rfl) h.2⟩)
 ·obtain⟨a,xs,rfl,hs,z,p⟩:=vx.seqI
  obtain⟨b,ys,rfl,hs',z',p'⟩:=vy.seqI
  have l1:xs.length=_:=Paired.length p
  have l2:ys.length=_:=Paired.length p'
  refine .inr (.inr (.inl ⟨a,b,xs,ys,rfl,rfl,hs,hs',fI (by omega),λr H' hr sm=>k _ _ _ ⟨sm,.inl (VA.seq (t:=true) hr (by rw[List.length_append];exact h.1) (pL (p.hs sm.hs) (p'.hs sm.hs)))⟩ h.2⟩))
 ·obtain⟨a,xs,rfl,⟨ob,hs⟩,z,p⟩:=vx.seqI
  obtain⟨b,ys,rfl,⟨ob',hs'⟩,z',p'⟩:=vy.seqI
  have l1:xs.length=_:=Paired.length p
  have l2:ys.length=_:=Paired.length p'
  refine .inr (.inr (.inr ⟨a,b,xs,ys,rfl,rfl,.inr ⟨ob,hs⟩,.inr ⟨ob',hs'⟩,fI (by omega),λr n=>k _ _ _ (Raw.lst n (by rw[List.length_append];exact h.1) (pL p p')) h.2⟩))
 ·exact False.elim h⟩
def pI2(C:Int->Int->Prop)(g:Int->Int->V):P2
 |.leaf (.int i),.leaf (.int j),Q=>C i j/\Q (.leaf (g i j))
 |_,_,_=>False
theorem rE{f:Value->Value->Sem Value}{C:Int->Int->Prop}{g:Int->Int->V}(h:OpR X f (rI C g))(fl:∀i j,cY (g i j)=true):PuCmp X f (pI2 C g):=⟨_,h,λx y T U H Q QQ vx vy h k=>by
 unfold pI2 at h
 split at h
 ·obtain⟨rfl,_⟩:=vx.leafI
  obtain⟨rfl,_⟩:=vy.leafI
  exact⟨_,_,rfl,rfl,h.1,k _ _ _ (Same.refl _) (.flat (fl _ _)) h.2⟩
 ·exact False.elim h⟩
def mM(g:Int->Int->V):P2
 |.leaf (.int i),.leaf (.int j),Q=>Q (.leaf (g i j))
 |_,_,_=>False
theorem qR{f:Value->Value->Sem Value}{g:Int->Int->V}(h:OpR X f (rI0 g))(fl:∀i j,cY (g i j)=true):PuCmp X f (mM g):=⟨_,h,λx y T U H Q QQ vx vy h k=>by
 unfold mM at h
 split at h
 ·obtain⟨rfl,_⟩:=vx.leafI
  obtain⟨rfl,_⟩:=vy.leafI
  exact⟨_,_,rfl,rfl,k _ _ _ (Same.refl _) (.flat (fl _ _)) h⟩
 ·exact False.elim h⟩
abbrev zKZ:P2:=mM λi j=>.int (i-j)
theorem eF:fQ X (binaryOp .Sub) zKZ:=(qR zIM λ_ _=>rfl).op
def zKp(i j:Int):Prop:=CMul i j\/(BigOk i/\BigOk j)
def xM:P2
 |.leaf (.int i),.leaf (.int j),Q=>zKp i j/\Q (iT (i*j))
 |.leaf (.str z),.leaf (.int n),Q=>(z.length<=1000/\n<=1000 /\ -1000<=n)/\Q (sT (mL z n))
 |_,_,_=>False
theorem zIm:fQ X (binaryOp .Mult) xM:=⟨_,op_mul.or (op_mulB.or zHe),λx y T U H Q QQ vx vy h k=>by
 unfold xM at h
 split at h
 ·obtain⟨rfl,_⟩:=vx.leafI
  obtain⟨rfl,_⟩:=vy.leafI
  rcases h.1 with c|c
  ·exact .inl ⟨_,_,rfl,rfl,c,k _ _ _ (.flat rfl) h.2⟩
  ·exact .inr (.inl ⟨_,_,rfl,rfl,c,k _ _ _ (.flat rfl) h.2⟩)
 ·obtain⟨rfl,_⟩:=vx.leafI
  obtain⟨rfl,_⟩:=vy.leafI
  exact .inr (.inr ⟨_,_,rfl,rfl,h.1.1,h.1.2.1,h.1.2.2,k _ _ _ (.flat rfl) h.2⟩)
 ·exact False.elim h⟩
abbrev zJ4:P2:=pI2 (λ_ j=>0<j/\BigOk j) λi j=>.int (i / j)
theorem vA:fQ X (binaryOp .FloorDiv) zJ4:=(rE zAn λ_ _=>rfl).op
abbrev zK3:P2:=pI2 (λ_ j=>0<j) λi j=>.int (i % j)
theorem qQ:fQ X (binaryOp .Mod) zK3:=(rE iA λ_ _=>rfl).op
abbrev zK1:P2:=pI2 zCY λi j=>.int (i ^ j.toNat)
theorem nW:fQ X (binaryOp .Pow) zK1:=(rE zBW λ_ _=>rfl).op
def pLt:P2
 |.leaf (.int i),.leaf (.int j),Q=>Q (bT (decide (i<j)))
 |.leaf (.str x),.leaf (.str y),Q=>Q (bT (decide (x.cps.toList<y.cps.toList)))
 |_,_,_=>False
theorem iE:PuCmp X (compareOp .Lt) pLt:=⟨_,op_lt.or zEM,λx y T U H Q QQ vx vy h k=>by
 unfold pLt at h
 split at h
 ·obtain⟨rfl,_⟩:=vx.leafI
  obtain⟨rfl,_⟩:=vy.leafI
  exact .inl ⟨_,_,rfl,rfl,k _ _ _ (Same.refl _) (.flat rfl) h⟩
 ·obtain⟨rfl,_⟩:=vx.leafI
  obtain⟨rfl,_⟩:=vy.leafI
  exact .inr ⟨_,_,rfl,rfl,k _ _ _ (Same.refl _) (.flat rfl) h⟩
 ·exact False.elim h⟩
abbrev pLe:P2:=mM λi j=>.bl (decide (i<=j))
theorem iF:PuCmp X (compareOp .LtE) pLe:=qR zJ5 λ_ _=>rfl
abbrev pGt:P2:=mM λi j=>.bl (decide (j<i))
theorem rF:PuCmp X (compareOp .Gt) pGt:=qR zJ6 λ_ _=>rfl
abbrev pGe:P2:=mM λi j=>.bl (decide (j<=i))
theorem rG:PuCmp X (compareOp .GtE) pGe:=qR zJ7 λ_ _=>rfl
def isV(v:V):Tv->Bool
 |.leaf w=>decide (w=v)
 |_=>false
theorem qY{K:W.Frag}{H:Hp}{x v:V}{T:Tv}(f:cY v=true)(h:VA K H x T):decide (x=v)=isV v T:=by
 cases T with
 |leaf w=>obtain⟨rfl,_⟩:=h.leafI;rfl
 |seq t Ts=>
  obtain⟨a,_,rfl,_⟩:=h.seqI
  exact decide_eq_false (λz=>by rw[<-z]at f;cases f)
 |dct kts=>
  obtain⟨a,_,rfl,_⟩:=h.dctI
  exact decide_eq_false (λz=>by rw[<-z]at f;cases f)
def sW(neg:Bool):P2
 |T,.leaf .non,Q=>Q (bT (neg != isV .non T))
 |T,.leaf (.bl b),Q=>Q (bT (neg != isV (.bl b) T))
 |_,_,_=>False
abbrev pIs:P2:=sW false
abbrev zBV:P2:=sW true
theorem oK:PuCmp X (compareOp .Is) pIs:=⟨_,op_isN.or zIP,λx y T U H Q QQ vx vy h k=>by
 unfold pIs sW at h
 split at h
 ·obtain⟨rfl,_⟩:=vy.leafI
  exact .inl ⟨rfl,k _ _ _ (Same.refl _) (.flat rfl) (by rw[qY rfl vx];simpa using h)⟩
 ·obtain⟨rfl,_⟩:=vy.leafI
  exact .inr ⟨_,rfl,k _ _ _ (Same.refl _) (.flat rfl) (by rw[qY rfl vx];simpa using h)⟩
 ·exact False.elim h⟩
theorem zFL:PuCmp X (compareOp .IsNot) zBV:=⟨_,op_notN.or zEO,λx y T U H Q QQ vx vy h k=>by
 unfold zBV sW at h
 split at h
 ·obtain⟨rfl,_⟩:=vy.leafI
  exact .inl ⟨rfl,k _ _ _ (Same.refl _) (.flat rfl) (by rw[qY rfl vx];simpa using h)⟩
 ·obtain⟨rfl,_⟩:=vy.leafI
  exact .inr ⟨_,rfl,k _ _ _ (Same.refl _) (.flat rfl) (by rw[qY rfl vx];simpa using h)⟩
 ·exact False.elim h⟩
theorem vS{pins:List (Addr×Obj)}{σ:St}{H:Hp}{s:Shared}(I:Inv X pins σ H s):∀{n:Nat}{x:V}{T U:Tv},EqD n T->EqD n U->VP X.K H n x T->VP X.K H n x U->T=U
 |0,_,_,_,h,_,_,_=>False.elim h
 |n+1,x,T,U,d,d',h,h'=>by
  rcases h with⟨f,rfl⟩|⟨t,a,xs,Ts,rfl,e2,rfl,z,p⟩|⟨a,kvs,kts,rfl,e2,rfl,_⟩
  ·rcases h' with⟨_,rfl⟩|⟨t',a',xs',Ts',rfl,_⟩|⟨a',kvs',kts',rfl,_⟩
   ·rfl
   ·cases f
   ·cases f
  ·rcases h' with⟨f,rfl⟩|⟨t',a',xs',Ts',e1',e2',rfl,z',p'⟩|⟨a',kvs',kts',e1',e2',rfl,_⟩
   ·cases f
   ·cases e1'
    have tt:t=t':=by
     cases t<;>cases t'<;>first|rfl|skip
     ·obtain⟨_,_,l1⟩:=PSeq.isList I e2
      obtain⟨_,_,l2⟩:=PSeq.isTup I e2'
      exact absurd rfl (SeqAt.ne_of_list_tuple l1 l2)
     ·obtain⟨_,_,l1⟩:=PSeq.isList I e2'
      obtain⟨_,_,l2⟩:=PSeq.isTup I e2
      exact absurd rfl (SeqAt.ne_of_list_tuple l1 l2)
    subst tt
    have ex:xs=xs':=by
     cases t with
     |false=>exact I.list_inj (cD e2) (cD e2')
     |true=>exact I.tuple_inj e2 e2'
    subst ex
    have g:∀U∈Ts,EqD n U:=d
    have g':∀U∈Ts',EqD n U:=d'
    have key:∀{xs:List V} {Ts Ts':List Tv},Paired (VP X.K H n) xs Ts->Paired (VP X.K H n) xs Ts'->(∀U∈Ts,EqD n U)->(∀U∈Ts',EqD n U)->Ts=Ts':=by
     intro xs Ts Ts' p
     induction p generalizing Ts' with
     |nil=>intro p' _ _;cases p';rfl
     |cons r _ ih=>
      intro p' d d'
      cases p' with
      |cons r' t'=>rw[vS I (d _ (.head _)) (d' _ (.head _)) r r',ih t' (λU hU=>d U (.tail _ hU)) (λU hU=>d' U (.tail _ hU))]
    rw[key p p' g g']
   ·exact False.elim d'
  ·exact False.elim d
def pD(T:Tv)(Us:List Tv):Prop:=EqD 40 T/\∀U∈Us,EqD 40 U
open Classical in
theorem qB{pins:List (Addr×Obj)}{σ:St}{H:Hp}{s:Shared}(I:Inv X pins σ H s)(hu:X.A.units+64<cLine){x:V}{T:Tv}{v:Value}{ys:List V}{Us:List Tv}{its:List Value}(vx:VA X.K H x T)(rx:RelV x v)(p:VAs X.K H ys Us)(r:Vals ys its)(ok:pD T Us):
  ∃e:Value->Bool,(∀y,y∈its.toArray->SeqAt.EqAt X.A.in1 s y v (e y))/\its.toArray.any e=Us.any λU=>eqT U T:=by
 obtain⟨dx,vx⟩:=vx
 have hx:=ok.1.vp vx
 refine⟨λw=>decide (∃y U,RelV y w/\VP X.K H 40 y U/\EqD 40 U/\eqT U T=true),λw hw=>?_,?_⟩
 ·have hw:w∈its:=by simpa using hw
  obtain⟨j,hj,rfl⟩:=List.mem_iff_getElem.mp hw
  have hj':j<ys.length:=by rw[r.length];exact hj
  obtain⟨u,eu,ru⟩:=r.get (List.getElem?_eq_getElem hj')
  rw[List.getElem?_eq_getElem hj]at eu
  cases eu
  obtain⟨U,eU,d,vU⟩:=eP p (List.getElem?_eq_getElem hj')
  have dU:=ok.2 U (List.mem_of_getElem? eU)
  have e:=vO I 40 (A:=X.A.in1) (by show X.A.units+1+40<_;omega) dU ok.1 (dU.vp vU) hx ru rx
  have ee:decide (∃y U,RelV y its[j]/\VP X.K H 40 y U/\EqD 40 U/\eqT U T=true)=eqT U T:=by
   rw[Bool.eq_iff_iff,decide_eq_true_iff]
   constructor
   ·rintro⟨y,U',ry,vy,dy,z⟩
    have:=RelV.inj ry ru
    subst this
    rw[vS I dU dy (dU.vp vU) vy]
    exact z
   ·intro z
    exact⟨_,U,ru,dU.vp vU,dU,z⟩
  show SeqAt.EqAt X.A.in1 s its[j] v (decide (∃y U,RelV y its[j]/\VP X.K H 40 y U/\EqD 40 U/\eqT U T=true))
  rw[ee]
  exact e
 ·rw[Bool.eq_iff_iff,Array.any_eq_true',List.any_eq_true]
  constructor
  ·rintro⟨w,hw,z⟩
   rw[decide_eq_true_iff]at z
   obtain⟨y,U',ry,vy,dy,z⟩:=z
   have hw:w∈its:=by simpa using hw
   obtain⟨j,hj,rfl⟩:=List.mem_iff_getElem.mp hw
   have hj':j<ys.length:=by rw[r.length];exact hj
   obtain⟨u,eu,ru⟩:=r.get (List.getElem?_eq_getElem hj')
   rw[List.getElem?_eq_getElem hj]at eu
   cases eu
   obtain⟨U,eU,d,vU⟩:=eP p (List.getElem?_eq_getElem hj')
   have dU:=ok.2 U (List.mem_of_getElem? eU)
   have:=RelV.inj ry ru
   subst this
   refine⟨U,List.mem_of_getElem? eU,?_⟩
   rw[vS I dU dy (dU.vp vU) vy]
   exact z
  ·rintro⟨U,hU,z⟩
   obtain⟨j,hj,rfl⟩:=List.mem_iff_getElem.mp hU
   obtain⟨y,ey,d,vy⟩:=pH p (List.getElem?_eq_getElem hj)
   obtain⟨u,eu,ru⟩:=r.get ey
   have dU:=ok.2 _ hU
   exact⟨u,by simpa using List.mem_of_getElem? eu,decide_eq_true ⟨y,_,ru,dU.vp vy,dU,z⟩⟩
def zCD(K:W.Frag)(neg:Bool):R2:=λx y H Q=>∃T t Us,VA K H x T/\VA K H y (.seq t Us)/\pD T Us/\Q (.bl (neg != Us.any λU=>eqT U T)) H
theorem zIQ(hu:X.A.units+64<cLine):OpR X (compareOp .In) (zCD X.K false):=by
 rintro pins s σ H x y v u Q I rx ry ⟨T,t,Us,vx,vy,ok,q⟩
 obtain⟨a,ys,rfl,hs,z,p⟩:=vy.seqI
 cases ry
 cases t with
 |false=>
  obtain⟨its,r,l⟩:=PSeq.isList I hs
  obtain⟨e,h1,h2⟩:=qB I hu vx rx p r ok
  exact SeqAt.in_listAt e l h1 ⟨.bl _,H,I,rfl,by rw[h2];simpa using q⟩
 |true=>
  obtain⟨its,r,l⟩:=PSeq.isTup I hs
  obtain⟨e,h1,h2⟩:=qB I hu vx rx p r ok
  exact SeqAt.in_tupleAt e l h1 ⟨.bl _,H,I,rfl,by rw[h2];simpa using q⟩
theorem zEL(hu:X.A.units+64<cLine):OpR X (compareOp .NotIn) (zCD X.K true):=by
 rintro pins s σ H x y v u Q I rx ry ⟨T,t,Us,vx,vy,ok,q⟩
 obtain⟨a,ys,rfl,hs,z,p⟩:=vy.seqI
 cases ry
 cases t with
 |false=>
  obtain⟨its,r,l⟩:=PSeq.isList I hs
  obtain⟨e,h1,h2⟩:=qB I hu vx rx p r ok
  exact SeqAt.notIn_listAt e l h1 ⟨.bl _,H,I,rfl,by rw[h2];simpa using q⟩
 |true=>
  obtain⟨its,r,l⟩:=PSeq.isTup I hs
  obtain⟨e,h1,h2⟩:=qB I hu vx rx p r ok
  exact SeqAt.notIn_tupleAt e l h1 ⟨.bl _,H,I,rfl,by rw[h2];simpa using q⟩
def zGQ:R2:=λy x H Q=>∃a o,x=.ref a/\kO H a y o/\Q (.bl (!o.isSome)) H
theorem zDb(hu:X.A.units+1<cLine):OpR X (compareOp .NotIn) zGQ:=by
 rintro pins s σ H y _ u v Q I ry rx ⟨a,o,rfl,g,q⟩
 cases rx
 exact zHz hu I g ry λs' I'=>⟨.bl _,H,I',rfl,q⟩
def inS(i j:Str):Bool:=!(Builtin.Str.occurrences j i 0 j.length 1).isEmpty
def sX(neg:Bool):P2
 |T,.seq _ Us,Q=>pD T Us/\Q (bT (neg != Us.any λU=>eqT U T))
 |.leaf (.str i),.leaf (.str j),Q=>Q (bT (neg != inS i j))
 |.leaf (.str k),.dct kts,Q=>Q (bT (neg != (cU kts k).isSome))
 |_,_,_=>False
abbrev pIn:P2:=sX false
abbrev zBU:P2:=sX true
theorem lU(hu:X.A.units+64<cLine):PuCmp X (compareOp .In) pIn:=⟨_,(zIQ hu).or (op_in_str.or (zDV (by omega))),λx y T U H Q QQ vx vy h k=>by
 unfold pIn sX at h
 split at h
 ·exact .inl ⟨_,_,_,vx,vy,h.1,k _ _ _ (Same.refl _) (.flat rfl) h.2⟩
 ·obtain⟨rfl,_⟩:=vx.leafI
  obtain⟨rfl,_⟩:=vy.leafI
  exact .inr (.inl ⟨_,_,rfl,rfl,k _ _ _ (Same.refl _) (.flat rfl) (by simpa[inS]using h)⟩)
 ·rename_i kk kts
  obtain⟨rfl,_⟩:=vx.leafI
  obtain⟨a,kvs,rfl,⟨ob,hd⟩,n,z,p⟩:=vy.dctI
  refine .inr (.inr ⟨a,_,rfl,.inl ⟨kvs,.inr kk,.inr ⟨ob,hd⟩,rfl,rfl⟩,k _ _ _ (Same.refl _) (.flat rfl) ?_⟩)
  rcases vI p kk with⟨e1,e2⟩|⟨U,v,e1,e2,_⟩
  ·rw[e2];rw[e1]at h;exact h
  ·rw[e2];rw[e1]at h;exact h
 ·exact False.elim h⟩
theorem zAh(hu:X.A.units+64<cLine):PuCmp X (compareOp .NotIn) zBU:=⟨_,(zEL hu).or (op_notIn_str.or (zDb (by omega))),λx y T U H Q QQ vx vy h k=>by
 unfold zBU sX at h
 split at h
 ·exact .inl ⟨_,_,_,vx,vy,h.1,k _ _ _ (Same.refl _) (.flat rfl) h.2⟩
 ·obtain⟨rfl,_⟩:=vx.leafI
  obtain⟨rfl,_⟩:=vy.leafI
  exact .inr (.inl ⟨_,_,rfl,rfl,k _ _ _ (Same.refl _) (.flat rfl) (by simpa[inS]using h)⟩)
 ·rename_i kk kts
  obtain⟨rfl,_⟩:=vx.leafI
  obtain⟨a,kvs,rfl,⟨ob,hd⟩,n,z,p⟩:=vy.dctI
  refine .inr (.inr ⟨a,_,rfl,.inl ⟨kvs,.inr kk,.inr ⟨ob,hd⟩,rfl,rfl⟩,k _ _ _ (Same.refl _) (.flat rfl) ?_⟩)
  rcases vI p kk with⟨e1,e2⟩|⟨U,v,e1,e2,_⟩
  ·rw[e2];rw[e1]at h;exact h
  ·rw[e2];rw[e1]at h;exact h
 ·exact False.elim h⟩
def pIx:P2
 |.seq _ Ts,.leaf (.int i),Q=>∃U,atI Ts i=some U/\Q U
 |.leaf (.str z),.leaf (.int i),Q=>z.length<=100000/\∃c,atI z.cps.toList i=some c/\Q (sT ⟨#[c]⟩)
 |.dct kts,.leaf (.str k),Q=>∃U,cU kts k=some U/\Q U
 |_,_,_=>False
theorem zEf{α β:Type}{R:α->β->Prop}{xs:List α}{ys:List β}{i:Int}{y:β}(p:Paired R xs ys)(h:atI ys i=some y):∃x,atI xs i=some x/\R x y:=by
 unfold atI at h ⊢
 rw[Paired.length p]
 cases e:ixN ys.length i with
 |none=>rw[e]at h;cases h
 |some j=>
  rw[e]at h
  obtain⟨x,ex,r⟩:=pH p (show ys[j]?=some y from h)
  exact⟨x,ex,r⟩
theorem zJZ(hu:X.A.units+64<cLine):zCW X pIx:=⟨_,ix_seq.or (zHq (by omega)),λx y T U H Q QQ vx vy h k=>by
 unfold pIx at h
 split at h
 ·rename_i t Ts i
  obtain⟨rfl,_⟩:=vy.leafI
  obtain⟨a,xs,rfl,hs,z,p⟩:=vx.seqI
  obtain⟨U,e,q⟩:=h
  obtain⟨x,ex,v⟩:=zEf p e
  cases t with
  |false=>exact .inl (.inl ⟨a,xs,i,x,rfl,rfl,cD hs,ex,k _ _ _ (.va v) q⟩)
  |true=>exact .inl (.inr (.inl ⟨a,xs,i,x,rfl,rfl,hs,ex,k _ _ _ (.va v) q⟩))
 ·obtain⟨rfl,_⟩:=vx.leafI
  obtain⟨rfl,_⟩:=vy.leafI
  obtain⟨l,c,e,q⟩:=h
  exact .inl (.inr (.inr ⟨_,_,c,rfl,rfl,fI l,e,k _ _ _ (.flat rfl) q⟩))
 ·rename_i kts kk
  obtain⟨rfl,_⟩:=vy.leafI
  obtain⟨a,kvs,rfl,⟨ob,hd⟩,n,z,p⟩:=vx.dctI
  obtain⟨U,e,q⟩:=h
  rcases vI p kk with⟨e1,e2⟩|⟨U',v,e1,e2,vv⟩
  ·rw[e1]at e;cases e
  ·rw[e1]at e;cases e
   exact .inr ⟨a,v,rfl,.inl ⟨kvs,.inr kk,.inr ⟨ob,hd⟩,rfl,e2.symm⟩,k _ _ _ (.va vv) q⟩
 ·exact False.elim h⟩
def fF{α:Type}(xs:List α)(lo hi:Option Int):List α:=(xs.drop (HT.sIx xs.length 0 lo)).take (HT.sIx xs.length xs.length hi-HT.sIx xs.length 0 lo)
theorem yJ{α β:Type}{R:α->β->Prop}:∀{l:List α}{m:List β}(n:Nat),Paired R l m->Paired R (l.drop n) (m.drop n)
 |_,_,0,p=>p
 |_,_,_+1,.nil=>.nil
 |_,_,n+1,.cons _ t=>yJ n t
theorem zI{α β:Type}{R:α->β->Prop}:∀{l:List α}{m:List β}(n:Nat),Paired R l m->Paired R (l.take n) (m.take n)
 |_,_,0,p=>by rw[List.take_zero,List.take_zero];exact .nil
 |_,_,_+1,.nil=>.nil
 |_,_,n+1,.cons r t=>.cons r (zI n t)
theorem yS{α β:Type}{R:α->β->Prop}{l:List α}{m:List β}(lo hi:Option Int)(p:Paired R l m):Paired R (fF l lo hi) (fF m lo hi):=by
 unfold fF
 rw[Paired.length p]
 exact zI _ (yJ _ p)
theorem zAD{α:Type}(xs:List α)(lo hi:Option Int):(fF xs lo hi).length<=xs.length:=by
 unfold fF
 rw[List.length_take,List.length_drop]
 omega
def zK0:PSl
 |.seq t Ts,lo,hi,Q=>Q (.seq t (fF Ts lo hi))
 |.leaf (.str z),lo,hi,Q=>z.length<=100000/\Q (sT (Txt.slice z lo hi))
 |_,_,_,_=>False
theorem oJ:zCT X zK0:=⟨_,sl_list.or (sl_tupW.or zH3),λx T lo hi H Q QQ vx h k=>by
 cases T with
 |seq t Ts=>
  have h:Q (.seq t (fF Ts lo hi)):=h
  obtain⟨a,xs,rfl,hs,z,p⟩:=vx.seqI
  have z':(fF Ts lo hi).length<=100000:=Nat.le_trans (zAD _ _ _) z
  cases t with
  |false=>exact .inl ⟨a,xs,rfl,cD hs,λr n=>k _ _ _ (Raw.lst n z' (yS lo hi p)) h⟩
  |true=>exact .inr (.inl ⟨a,xs,rfl,hs,λr H' sm hr=>k _ _ _ ⟨sm,.inl (VA.seq (t:=true) hr z' (Paired.mapP (yS lo hi p) λ_ _ q=>VA.hs sm.hs q))⟩ h⟩)
 |leaf w=>
  cases w with
  |str zz=>
   have h:zz.length<=100000/\Q (sT (Txt.slice zz lo hi)):=h
   obtain⟨rfl,_⟩:=vx.leafI
   exact .inr (.inr ⟨_,rfl,fI h.1,k _ _ _ (.flat rfl) h.2⟩)
  |_=>exact False.elim h
 |dct kts=>exact False.elim h⟩
def zCI:Pn
 |[.seq _ Ts],Q=>Q (iT Ts.length)
 |[.leaf (.str z)],Q=>z.length<=100000/\Q (iT z.length)
 |[.dct kts],Q=>Q (iT kts.length)
 |_,_=>False
theorem bL:fY X (.builtin "len") zCI:=⟨_,call_len_seq.or (call_len_str.or zEd),λxs Ts H Q QQ vx h k=>by
 unfold zCI at h
 split at h
 ·rename_i t Ts
  obtain⟨x,rfl,v⟩:=cX vx
  obtain⟨a,xs,rfl,hs,z,p⟩:=v.seqI
  have l:xs.length=_:=Paired.length p
  refine .inl ⟨a,xs,rfl,?_,k _ _ _ (.flat rfl) (by rw[l];exact h)⟩
  cases t with
  |false=>exact .inl (cD hs)
  |true=>exact .inr hs
 ·obtain⟨x,rfl,v⟩:=cX vx
  obtain⟨rfl,_⟩:=v.leafI
  exact .inr (.inl ⟨_,rfl,fI h.1,k _ _ _ (.flat rfl) h.2⟩)
 ·obtain⟨x,rfl,v⟩:=cX vx
  obtain⟨a,kvs,rfl,⟨ob,hd⟩,n,z,p⟩:=v.dctI
  have l:kvs.length=_:=Paired.length p
  exact .inr (.inr ⟨a,kvs,rfl,.inr ⟨ob,hd⟩,k _ _ _ (.flat rfl) (by rw[l];exact h)⟩)
 ·exact False.elim h⟩
def eK(T:String):Tv->Bool
 |.leaf .non=>false
 |.leaf (.bl _)=>T=="bool" || T=="int"
 |.leaf (.int _)=>T=="int"
 |.leaf (.str _)=>T=="str"
 |.leaf _=>false
 |.seq false _=>T=="list"
 |.seq true _=>T=="tuple"
 |.dct _=>T=="dict"
theorem zJA{K:W.Frag}{H:Hp}{x:V}{W:Tv}(T:String)(v:VA K H x W):TyV K T x H (eK T W):=by
 cases W with
 |leaf w=>
  obtain⟨rfl,f⟩:=v.leafI
  rcases iM f with rfl|⟨b,rfl⟩|⟨b,rfl⟩|⟨b,rfl⟩<;>rfl
 |seq t Ts=>
  obtain⟨a,xs,rfl,hs,z,p⟩:=v.seqI
  cases t with
  |false=>exact .inl ⟨xs,cD hs,rfl⟩
  |true=>exact .inr (.inl ⟨xs,hs,rfl⟩)
 |dct kts=>
  obtain⟨a,kvs,rfl,⟨ob,hd⟩,n,z,p⟩:=v.dctI
  exact .inr (.inr ⟨kvs,.inr ⟨ob,hd⟩,rfl⟩)
def zKv(T:String)(u:UT):UT:=λρ Q=>u ρ λW ρ1=>Q (bT (eK T W)) ρ1
theorem bK{e t:Expr}{u:UT}{p pos:Pos}(T:String)(hc:CallR X (.builtin "isinstance") (λxs H Q=>∃x b,xs=[x,.ty T]/\TyV X.K T x H b/\Q (.bl b) H))(hg:Gl X "isinstance")(hm:X.mg "isinstance"=none)(he:UE X F e u)(ht:PE X t (tC (.ty T)))
  (h1:dZ e=false:=by rfl) (h2:dZ t=false:=by rfl) (hpl:(backTo pos (starEach [t] X.env)).any (·.1)=false:=by rfl):UE X F (.Call (.Name "isinstance" p) [e,t] [] pos) (zKv T u):=
 ⟨PE.imp (jL hc hg hm boot_isinstance (dA he.pe (dA ht dS h2) h1) (by decide) (by decide) (kT h1) hpl) λσ H QQ ⟨ρ,Q,f,h,k⟩=>
  ⟨ρ,_,f,h,λx W H1 ρ1 s1 v1 q1=>⟨x,_,rfl,zJA T v1,k _ _ _ _ s1 (.flat rfl) q1⟩⟩⟩
theorem uU{K:W.Frag}{H:Hp}:∀{xs:List V}{bs:List Bool},VAs K H xs (bs.map bT)->xs=bs.map V.bl
 |[],[],_=>rfl
 |_::_,_::_,.cons r t=>by rw[List.map_cons,<-uU t,(VA.leafI r).1]
theorem kW{K:W.Frag}{H:Hp}:∀{xs:List V}{ns:List Int},VAs K H xs (ns.map iT)->xs=ns.map V.int
 |[],[],_=>rfl
 |_::_,_::_,.cons r t=>by rw[List.map_cons,<-kW t,(VA.leafI r).1]
theorem jH{K:W.Frag}{H:Hp}:∀{xs:List V}{ss:List Str},VAs K H xs (ss.map sT)->xs=ss.map V.str
 |[],[],_=>rfl
 |_::_,_::_,.cons r t=>by rw[List.map_cons,<-jH t,(VA.leafI r).1]
theorem zBA{K:W.Frag}{H:Hp}:∀(bs:List Bool),VAs K H (bs.map V.bl) (bs.map bT)
 |[]=>.nil
 |_::bs=>.cons (.flat rfl) (zBA bs)
theorem zAJ{K:W.Frag}{H:Hp}:∀(ns:List Int),VAs K H (ns.map V.int) (ns.map iT)
 |[]=>.nil
 |_::ns=>.cons (.flat rfl) (zAJ ns)
theorem nF{K:W.Frag}{H:Hp}:∀(ss:List Str),VAs K H (ss.map V.str) (ss.map sT)
 |[]=>.nil
 |_::ss=>.cons (.flat rfl) (nF ss)
def zK8:Pn:=λTs Q=>∃bs:List Bool,Ts=[.seq false (bs.map bT)]/\Q (bT (bs.all id))
def zKY:Pn:=λTs Q=>∃ns:List Int,Ts=[.seq false (ns.map iT)]/\Q (iT ns.sum)
theorem iW(hc:X.calm=true):fY X (.builtin "all") zK8:=⟨_,zFg hc,λxs Ts H Q QQ vx h k=>by
 obtain⟨bs,rfl,q⟩:=h
 obtain⟨x,rfl,v⟩:=cX vx
 obtain⟨a,ys,rfl,hs,z,p⟩:=v.seqI
 rw[uU p]at hs
 exact⟨a,bs,rfl,cD hs,k _ _ _ (.flat rfl) q⟩⟩
theorem vX(hc:X.calm=true):fY X (.builtin "sum") zKY:=⟨_,zW hc,λxs Ts H Q QQ vx h k=>by
 obtain⟨ns,rfl,q⟩:=h
 obtain⟨x,rfl,v⟩:=cX vx
 obtain⟨a,ys,rfl,hs,z,p⟩:=v.seqI
 rw[kW p]at hs
 exact⟨a,ns,rfl,cD hs,k _ _ _ (.flat rfl) q⟩⟩
def zK4:Pn:=λTs Q=>(∃i j:Int,Ts=[iT i,iT j]/\Q (iT (min i j)))\/(∃ns:List Int,Ts=[.seq false (ns.map iT)]/\0<ns.length/\∀M,M∈ns->(∀a∈ns,M<=a)->Q (iT M)) \/
 ∃ss:List Str,Ts=[.seq false (ss.map sT)]/\0<ss.length/\∀x,x∈ss->(∀y∈ss,x.cps.toList<=y.cps.toList)->Q (sT x)
def zK5:Pn:=λTs Q=>(∃i j:Int,Ts=[iT i,iT j]/\Q (iT (max i j)))\/(∃ns:List Int,Ts=[.seq false (ns.map iT)]/\0<ns.length/\∀M,M∈ns->(∀a∈ns,a<=M)->Q (iT M)) \/
 ∃ss:List Str,Ts=[.seq false (ss.map sT)]/\0<ss.length/\∀x,x∈ss->(∀y∈ss,y.cps.toList<=x.cps.toList)->Q (sT x)
theorem hV(hc:X.calm=true):fY X (.builtin "min") zK4:=⟨_,(zFb hc).or ((zFc hc).or (zD8 hc)),λxs Ts H Q QQ vx h k=>by
 rcases h with⟨i,j,rfl,q⟩|⟨ns,rfl,l,q⟩|⟨ss,rfl,l,q⟩
 ·obtain⟨x,y,rfl,v,v'⟩:=wT vx
  obtain⟨rfl,_⟩:=v.leafI
  obtain⟨rfl,_⟩:=v'.leafI
  refine .inl ⟨i,j,rfl,k _ _ _ (.flat rfl) ?_⟩
  have e:(if j<i then j else i)=min i j:=by split<;>omega
  rw[e];exact q
 ·obtain⟨x,rfl,v⟩:=cX vx
  obtain⟨a,ys,rfl,hs,z,p⟩:=v.seqI
  rw[kW p]at hs
  exact .inr (.inl ⟨a,ns,rfl,cD hs,l,λM h1 h2=>k _ _ _ (.flat rfl) (q M h1 h2)⟩)
 ·obtain⟨x,rfl,v⟩:=cX vx
  obtain⟨a,ys,rfl,hs,z,p⟩:=v.seqI
  rw[jH p]at hs
  exact .inr (.inr ⟨a,ss,rfl,cD hs,l,λM h1 h2=>k _ _ _ (.flat rfl) (q M h1 h2)⟩)⟩
theorem iV(hc:X.calm=true):fY X (.builtin "max") zK5:=⟨_,(zFd hc).or ((zFe hc).or (zD9 hc)),λxs Ts H Q QQ vx h k=>by
 rcases h with⟨i,j,rfl,q⟩|⟨ns,rfl,l,q⟩|⟨ss,rfl,l,q⟩
 ·obtain⟨x,y,rfl,v,v'⟩:=wT vx
  obtain⟨rfl,_⟩:=v.leafI
  obtain⟨rfl,_⟩:=v'.leafI
  refine .inl ⟨i,j,rfl,k _ _ _ (.flat rfl) ?_⟩
  have e:(if j > i then j else i)=max i j:=by split<;>omega
  rw[e];exact q
 ·obtain⟨x,rfl,v⟩:=cX vx
  obtain⟨a,ys,rfl,hs,z,p⟩:=v.seqI
  rw[kW p]at hs
  exact .inr (.inl ⟨a,ns,rfl,cD hs,l,λM h1 h2=>k _ _ _ (.flat rfl) (q M h1 h2)⟩)
 ·obtain⟨x,rfl,v⟩:=cX vx
  obtain⟨a,ys,rfl,hs,z,p⟩:=v.seqI
  rw[jH p]at hs
  exact .inr (.inr ⟨a,ss,rfl,cD hs,l,λM h1 h2=>k _ _ _ (.flat rfl) (q M h1 h2)⟩)⟩
def zJu(u ud:UT):UT:=λρ Q=>u ρ λT ρ1=>ud ρ1 λD ρ2=>∃ns:List Int,T=.seq false (ns.map iT)/\(ns=[]->Q D ρ2)/\∀M,M∈ns->(∀a∈ns,a<=M)->Q (iT M) ρ2
theorem zAP{e d:Expr}{u ud:UT}{p pos kpos:Pos}(hc:X.calm=true)(hg:Gl X "max")(hm:X.mg "max"=none)(he:UE X F e u)(hd:UE X F d ud)(hst:dZ e=false:=by rfl):UE X F (.Call (.Name "max" p) [e] [⟨some "default",d,kpos⟩] pos) (zJu u ud):=
 ⟨PE.imp (zG3 hc hg hm he.pe hd.pe hst) λσ H QQ ⟨ρ,Q,f,h,k⟩=>by
  refine⟨ρ,_,f,h,λx T H1 ρ1 s1 v1 q1=>⟨ρ1,_,s1.fr,q1,λy D H2 ρ2 s2 v2 q2=>?_⟩⟩
  obtain⟨ns,rfl,q0,q⟩:=q2
  obtain⟨a,ys,rfl,hs,z,p⟩:=(v1.hs (s2.hs s1.fr)).seqI
  rw[kW p]at hs
  exact⟨a,ns,rfl,cD hs,λe=>k _ _ _ _ (s1.trans s2) v2 (q0 e),λM h1 h2=>k _ _ _ _ (s1.trans s2) (.flat rfl) (q M h1 h2)⟩⟩
def zHc:List Tv->(List Tv->Prop)->Prop:=λTs Q=>∃t Us,Ts=[.seq t Us]/\Q Us
theorem tX:nS X (.type "list") zHc:=⟨_,yE,λxs Ts H Q QQ vx h k=>by
 obtain⟨t,Us,rfl,q⟩:=h
 obtain⟨x,rfl,v⟩:=cX vx
 obtain⟨a,ys,rfl,hs,z,p⟩:=v.seqI
 refine⟨a,ys,rfl,?_,λl n=>k l ys Us _ (cL n) n bE z (VAs.hs (gR n) p) q⟩
 cases t with
 |false=>exact .inl (cD hs)
 |true=>exact .inr hs⟩
def zIJ:Pn:=λTs Q=>∃t Us,Ts=[.seq t Us]/\Q (.seq true Us)
theorem hC:fY X (.type "tuple") zIJ:=⟨_,zDe,λxs Ts H Q QQ vx h k=>by
 obtain⟨t,Us,rfl,q⟩:=h
 obtain⟨x,rfl,v⟩:=cX vx
 obtain⟨a,ys,rfl,hs,z,p⟩:=v.seqI
 refine⟨a,ys,rfl,?_⟩
 cases t with
 |false=>exact .inl ⟨cD hs,λl n=>k _ _ _ (Raw.tup n z p) q⟩
 |true=>exact .inr ⟨hs,k _ _ _ (.va v) q⟩⟩
def zHb:List Tv->(List Tv->Prop)->Prop:=λTs Q=>(∃ns:List Int,Ts=[.seq false (ns.map iT)]/\ns.length<64/\∀ms:List Int,ms.Perm ns->ms.Pairwise (·<=·)->Q (ms.map iT)) \/
 (∃ss:List Str,Ts=[.seq false (ss.map sT)]/\ss.length<64/\Q ((cO ss).map sT))\/∃kts,Ts=[.dct kts]/\Q ((cO (kts.map (·.1))).map sT)
theorem uI{K:W.Frag}{H:Hp}{kvs:List (Key×V)}{kts:List (Str×Tv)}(p:VAk K H kvs kts):kvs.map (·.1)=(kts.map (·.1)).map Sum.inr:=by
 unfold VAk at p
 induction p with
 |nil=>rfl
 |cons r _ ih=>rw[List.map_cons,List.map_cons,List.map_cons,ih,r.1]
theorem mV(us:List Str):(cO us).length=us.length:=(mS us).length_eq
theorem mX(hc:X.calm=true):nS X (.builtin "sorted") zHb:=⟨_,call_sortedI.or (call_sortedS.or (zDl hc)),λxs Ts H Q QQ vx h k=>by
 rcases h with⟨ns,rfl,l,q⟩|⟨ss,rfl,l,q⟩|⟨kts,rfl,q⟩
 ·obtain⟨x,rfl,v⟩:=cX vx
  obtain⟨a,ys,rfl,hs,z,p⟩:=v.seqI
  rw[kW p]at hs
  refine .inl ⟨a,ns,rfl,cD hs,l,λms b h1 h2 n=>k b _ _ _ (cL n) n bE (by rw[List.length_map,h1.length_eq];omega) (zAJ ms) (q ms h1 h2)⟩
 ·obtain⟨x,rfl,v⟩:=cX vx
  obtain⟨a,ys,rfl,hs,z,p⟩:=v.seqI
  rw[jH p]at hs
  refine .inr (.inl ⟨a,ss,rfl,cD hs,l,λms b h1 h2 n=>k b _ _ _ (cL n) n bE (by rw[List.length_map,h1.length_eq];omega) (nF ms) (by rw[qA h1 h2];exact q)⟩)
 ·obtain⟨x,rfl,v⟩:=cX vx
  obtain⟨a,kvs,rfl,⟨ob,hd⟩,nd,z,p⟩:=v.dctI
  refine .inr (.inr ⟨a,ob,kvs,kts.map (·.1),rfl,hd,uI p,by rw[List.length_map];exact z,λms b h1 h2 n=>k b _ _ _ (cL n) n bE (by rw[List.length_map,h1.length_eq,List.length_map];omega) (nF ms) (by rw[qA h1 h2];exact q)⟩)⟩
theorem zGt{K:W.Frag}{H:Hp}{n:Nat}:VAs K H ((List.range n).map λ(i:Nat)=>V.int i) (fD 0 n):=by
 unfold fD
 generalize List.range n=l
 induction l with
 |nil=>exact .nil
 |cons i l ih=>exact .cons (show VA K H (V.int i) (iT (0+i)) by rw[Int.zero_add];exact .flat rfl) ih
def zHX(ua:UTa):UTl:=λρ Q=>uVs ua ρ λTs ρ1=>∃n:Nat,Ts=[iT n]/\n<=100000/\Q (fD 0 n) ρ1
theorem zFr{a:Expr}{ua:UTa}{p p' pos pos':Pos}(hc:X.calm=true)(hg:Gl X "range")(hm:X.mg "range"=none)(hg':Gl X "list")(hm':X.mg "list"=none)(ha:UA X F [a] ua)
  (he:starEach [a] X.env=(false,eval a X.env)::starEach [] X.env:=by rfl) (hpl:(backTo pos (starEach [] X.env)).any (·.1)=false:=by rfl) (hpl':(backTo pos' (starEach [] X.env)).any (·.1)=false:=by rfl):
  UL X F (.Call (.Name "list" p') [.Call (.Name "range" p) [a] [] pos] [] pos') (zHX ua):=⟨PE.imp (iP (zEb hc) hg' hm' boot_list (dA (iP zDF hg hm boot_range ha.pa (by decide) (by decide) he hpl) dS rfl) (by decide) (by decide) rfl hpl') λσ H QQ ⟨ρ,Q,f,h,k⟩=>by
 refine⟨ρ,_,f,h,λxs as H1 ρ1 s1 p1 q1=>?_⟩
 obtain⟨Ts,rfl,n,rfl,l,q⟩:=fV q1
 obtain⟨x,rfl,v⟩:=cX (fW p1)
 obtain⟨rfl,_⟩:=v.leafI
 refine⟨n,rfl,λr nr=>⟨r,n,rfl,bE,fI l,λb nb=>?_⟩⟩
 have sm:=(cL (o:=.rng 0 n) nr).trans (cL (o:=.lst ((List.range n).map λ(i:Nat)=>V.int i)) nb)
 refine k _ _ _ _ _ (s1.trans (Stp.same s1.fr sm)) (s1.non ((cL nr).free nb)) bE (by simp[fD];exact l) ?_ q
 exact zGt⟩
def zK9:Pn:=λTs Q=>∃i:Int,Ts=[iT i]/\Q (iT (if i<0 then -i else i))
theorem zIq:fY X (.builtin "abs") zK9:=⟨_,zGl,λxs Ts H Q QQ vx h k=>by
 obtain⟨i,rfl,q⟩:=h
 obtain⟨x,rfl,v⟩:=cX vx
 obtain⟨rfl,_⟩:=v.leafI
 exact⟨i,rfl,k _ _ _ (.flat rfl) q⟩⟩
def zCK:Pn
 |[.leaf (.int i)],Q=>Q (iT i)
 |[.leaf (.bl b)],Q=>Q (iT (if b then 1 else 0))
 |_,_=>False
theorem zIo:fY X (.type "int") zCK:=⟨_,zFf,λxs Ts H Q QQ vx h k=>by
 unfold zCK at h
 split at h
 ·obtain⟨x,rfl,v⟩:=cX vx
  obtain⟨rfl,_⟩:=v.leafI
  exact .inl ⟨_,rfl,k _ _ _ (.flat rfl) h⟩
 ·obtain⟨x,rfl,v⟩:=cX vx
  obtain⟨rfl,_⟩:=v.leafI
  exact .inr ⟨_,rfl,k _ _ _ (.flat rfl) h⟩
 ·exact False.elim h⟩
def zK2:Pn:=λTs Q=>∃z:Str,Ts=[sT z]/\z.length=1/\Q (iT (z.cps.getD 0 0:Nat))
theorem zIl:fY X (.builtin "ord") zK2:=⟨_,zGk,λxs Ts H Q QQ vx h k=>by
 obtain⟨z,rfl,l,q⟩:=h
 obtain⟨x,rfl,v⟩:=cX vx
 obtain⟨rfl,_⟩:=v.leafI
 exact⟨z,rfl,l,k _ _ _ (.flat rfl) q⟩⟩
def uBM(T:String)(r:Tv->List Tv->(Tv->Prop)->Prop)(u:UT)(ua:UTa):UT:=λρ Q=>u ρ λW ρ1=>eK T W=true/\uVs ua ρ1 λTs ρ2=>r W Ts λW'=>Q W' ρ2
theorem zGG{K:W.Frag}{H:Hp}{x:V}{W:Tv}(v:VA K H x W)(h:eK "str" W=true):tyV K "str" x H:=by
 cases W with
 |leaf w=>
  obtain⟨rfl,f⟩:=v.leafI
  rcases iM f with rfl|⟨b,rfl⟩|⟨b,rfl⟩|⟨b,rfl⟩
  ·cases h
  ·cases h
  ·cases h
  ·rfl
 |seq t Ts=>cases t<;>cases h
 |dct kts=>cases h
theorem qN{name:Str}{id:String}{r:Tv->List Tv->(Tv->Prop)->Prop}{o e:Expr}{es:List Expr}{u:UT}{ua:UTa}{apos cpos:Pos}(slot:Slot "str" name id)(hty:typeOf (.builtin id)=pure (.type "method_descriptor"))
  (hm:∃r',MtR X id r'/\∀x W xs Ts H Q (QQ:VK),VA X.K H x W->VAs X.K H xs Ts->r W Ts Q->(∀z W H',Raw X.K H H' z W->Q W->QQ z H')->r' x xs H QQ) (ho:UE X F o u) (ha:UA X F (e::es) ua)
  (hbase:attributeBase o name X.env (eval o X.env)=eval o X.env:=by rfl)
  (hfew:((backTo cpos (starEach (e::es) X.env)).all (λx=>!x.1)&&(backToKw cpos (keywordEach [] X.env)).all (λx=>x.1.isSome)&&decide ((e::es).length+([]:List Keyword).length+(if ([]:List Keyword).isEmpty then 0 else 1)<30))=true:=by rfl)
  (hline:(apos.endLine==cpos.line)=true:=by rfl) (hs:starEach (e::es) X.env=(false,eval e X.env)::starEach es X.env:=by rfl) (hplain:(backTo cpos (starEach es X.env)).any (·.1)=false:=by rfl):
  UE X F (.Call (.Attribute o name apos) (e::es) [] cpos) (uBM "str" r u ua):=by
 obtain⟨r',m,hr⟩:=hm
 refine⟨PE.imp (PE.fz (lW PySem.F.plainAttrs_str slot hty m ho.pe ha.pa hbase hfew hline hs hplain)) λσ H QQ ⟨ρ,Q,f,h,k⟩=>⟨ρ,_,f,h,λx W H1 ρ1 s1 v1 q1=>⟨zGG v1 q1.1,ρ1,_,s1.fr,q1.2,λxs as H2 ρ2 s2 p2 q2=>?_⟩⟩⟩
 obtain⟨Ts,rfl,q⟩:=fV q2
 exact hr x W xs Ts H2 _ _ (v1.hs (s2.hs s1.fr)) (fW p2) q λz W' H' rw q=>rw.fin s2.fr λH'' s4 v4=>k _ _ _ _ ((s1.trans s2).trans s4) v4 q
def zHa:Tv->List Tv->(Tv->Prop)->Prop:=λW Ts Q=>∃i j:Str,W=sT i/\Ts=[sT j]/\Q (bT (decide (0+j.length<=i.length)&&Builtin.Str.subAt i j 0))
theorem zEI:∃r',MtR X "str.startswith" r'/\∀x W xs Ts H Q (QQ:VK),VA X.K H x W->VAs X.K H xs Ts->zHa W Ts Q->(∀z W H',Raw X.K H H' z W->Q W->QQ z H')->r' x xs H QQ:=⟨_,zDc,λx W xs Ts H Q QQ v p h k=>by
 obtain⟨i,j,rfl,rfl,q⟩:=h
 obtain⟨rfl,_⟩:=v.leafI
 obtain⟨y,rfl,v'⟩:=cX p
 obtain⟨rfl,_⟩:=v'.leafI
 exact⟨i,j,rfl,rfl,k _ _ _ (.flat rfl) q⟩⟩
def zJ3:Tv->List Tv->(Tv->Prop)->Prop:=λW Ts Q=>∃i j:Str,W=sT i/\Ts=[sT j]/\∀n:Int,Q (iT n)
theorem zGY:∃r',MtR X "str.find" r'/\∀x W xs Ts H Q (QQ:VK),VA X.K H x W->VAs X.K H xs Ts->zJ3 W Ts Q->(∀z W H',Raw X.K H H' z W->Q W->QQ z H')->r' x xs H QQ:=⟨_,zHl,λx W xs Ts H Q QQ v p h k=>by
 obtain⟨i,j,rfl,rfl,q⟩:=h
 obtain⟨rfl,_⟩:=v.leafI
 obtain⟨y,rfl,v'⟩:=cX p
 obtain⟨rfl,_⟩:=v'.leafI
 exact⟨i,j,rfl,rfl,λn=>k _ _ _ (.flat rfl) (q n)⟩⟩
def zJ2:Tv->List Tv->(Tv->Prop)->Prop:=λW Ts Q=>∃ss:List Str,W=sT ⟨#[]⟩/\Ts=[.seq false (ss.map sT)]/\(bH ss).length<=100000/\Q (sT ⟨(bH ss).toArray⟩)
theorem zBa:∃r',MtR X "str.join" r'/\∀x W xs Ts H Q (QQ:VK),VA X.K H x W->VAs X.K H xs Ts->zJ2 W Ts Q->(∀z W H',Raw X.K H H' z W->Q W->QQ z H')->r' x xs H QQ:=⟨_,zHk,λx W xs Ts H Q QQ v p h k=>by
 obtain⟨ss,rfl,rfl,l,q⟩:=h
 obtain⟨rfl,_⟩:=v.leafI
 obtain⟨y,rfl,v'⟩:=cX p
 obtain⟨a,ys,rfl,hs,z,p'⟩:=v'.seqI
 rw[jH p']at hs
 refine⟨a,ss,rfl,rfl,cD hs,l,λz e=>k _ _ _ (.flat rfl) ?_⟩
 have:z=⟨(bH ss).toArray⟩:=by
  cases z with
  |mk c=>congr 1;have e:c.toList=bH ss:=e;rw[<-e]
 rw[this];exact q⟩
end
end L2
namespace L2
open PySem PySem.Spec PyProof.Rows WordM
section
variable{X:Cx}{F:Fm}{pos:Pos}
def zKK(i j:Nat)(ua:UTa):UTs:=λP ρ=>uVs ua ρ λTs ρ1=>∃T U,Ts=[T,U]/\P.nx ((ρ1.set i (.va T)).set j (.va U))
theorem zHO{i j:Nat}{x y:Str}{a b:Expr}{ua:UTa}{px py pt:Pos}{kt k2 pt2}(hc:X.calm=true)(hN:X.N.Nodup)(hi:X.N[i]?=some x)(hj:X.N[j]?=some y)(hij:i≠j)
  (hx:X.env.scope.names.lookup x=some .local) (hy:X.env.scope.names.lookup y=some .local) (ha:UA X F [a,b] ua)
  (hw:swappedStores [.Tuple [.Name x px,.Name y py] kt pt] (.Tuple [a,b] k2 pt2) X.env=pure (some [x,y]))
  (hs:swapsWithSole [.Tuple [.Name x px,.Name y py] kt pt] (.Tuple [a,b] k2 pt2) pos.line X.env=pure false:=by rfl):
  US X F (.Assign [.Tuple [.Name x px,.Name y py] kt pt] (.Tuple [a,b] k2 pt2) pos) (zKK i j ua):=⟨PS.imp (zIt hc hN hi hj hij hx hy ha.pa hw hs) λD σ H ⟨ρ,P,f,h,k1,_⟩=>by
 refine⟨ρ,_,f,h,λxs as H1 ρ1 s1 p1 q1=>?_⟩
 obtain⟨Ts,rfl,T,U,rfl,q⟩:=fV q1
 obtain⟨v,w,rfl,vv,vw⟩:=wT (fW p1)
 refine⟨v,w,rfl,k1 _ _ _ ?_ (s1.hs f) q⟩
 exact(s1.fr.set (s:=.va T) (λ_=>⟨v,rfl,vv⟩) (λz=>absurd z Bool.false_ne_true)).set (s:=.va U) (λ_=>⟨w,rfl,vw⟩) (λz=>absurd z Bool.false_ne_true)⟩
def gC(K:W.Frag)(mg:Str->Option Value)(x:Str)(T:Tv):Prop:=∃v u,mg x=some u/\RelV v u/\∀H,VA K H v T
theorem rA{x:Str}{T:Tv}(G:gC X.K X.mg x T)(hg:Gl X x)(hd:(x==("__debug__":Str))=false:=by decide):UE X F (.Name x pos) (uC T):=by
 obtain⟨v,u,m,r,h⟩:=G
 exact zGC hg m r h hd
def oP(K:W.Frag)(prm:Params)(mg:Str->Option Value)(x:Str)(kvs:List (Str×Str)):Prop:=∃d,mg x=some (.ref d)/\zCs K prm d kvs
def uKD(kvs:List (Str×Str))(u:UT):UT:=λρ Q=>u ρ λT ρ1=>∃i j,T=sT i/\getS kvs i=some j/\Q (sT j) ρ1
theorem zCa{x:Str}{p:Pos}{e:Expr}{u:UT}{kvs:List (Str×Str)}(G:oP X.K X.w.params X.mg x kvs)(hg:Gl X x)(he:UE X F e u)(hs:qM e:=by intro _ _;rfl)(hd:(x==("__debug__":Str))=false:=by decide):UE X F (.Subscript (.Name x p) e pos) (uKD kvs u):=by
 obtain⟨d,m,D⟩:=G
 refine⟨PE.imp (iG (zKe D) (vH (v:=.ref d) hg m rfl hd) he.pe hs) λσ H QQ ⟨ρ,Q,f,h,k⟩=>⟨ρ,_,f,h,λy T H1 ρ1 s1 v1 q1=>?_⟩⟩
 obtain⟨i,j,rfl,ej,q⟩:=q1
 obtain⟨rfl,_⟩:=v1.leafI
 exact⟨i,j,rfl,rfl,ej,k _ _ _ _ s1 (.flat rfl) q⟩
end
def kB(own:Nat)(fr:List Nat)(g:UG)(tf:UTt)(ue:UT)(T:Tv)(ρ:aR)(R:Option Tv->aR->Prop):Prop:=g T (blk own fr ρ) λρ1=>tf ρ1 λb ρ2=>if b=true then ue ρ2 λU ρ3=>R (some U) (bck own fr ρ ρ3) else R none (bck own fr ρ ρ2)
section
variable{own:Nat}{fr:List Nat}{g:UG}{tf:UTt}{ue:UT}
def zKn(own:Nat)(fr:List Nat)(g:UG)(tf:UTt)(ue:UT)(Ts:List Tv)(Q:List Tv->aR->Prop)(o:Option Tv)(ρ:aR):Prop:=match o with
 |some U=>eV own fr g tf ue Ts ρ λUs ρ4=>Q (U::Us) ρ4
 |none=>eV own fr g tf ue Ts ρ Q
theorem pO(T:Tv)(Ts:List Tv)(ρ:aR)(Q:List Tv->aR->Prop):eV own fr g tf ue (T::Ts) ρ Q=kB own fr g tf ue T ρ (zKn own fr g tf ue Ts Q):=rfl
theorem gK{ρ:aR}(f:Tv->Option Tv):∀{Ts:List Tv}{Q:List Tv->aR->Prop},(∀T∈Ts,∀R:Option Tv->aR->Prop,R (f T) ρ->kB own fr g tf ue T ρ R)->Q (Ts.filterMap f) ρ->eV own fr g tf ue Ts ρ Q
 |[],_,_,q=>q
 |T::Ts,Q,h,q=>by
  rw[pO]
  refine h T (.head _) _ ?_
  rw[List.filterMap_cons]at q
  cases e:f T with
  |none=>rw[e]at q;exact gK f (λT' hT'=>h T' (.tail _ hT')) q
  |some U=>rw[e]at q;exact gK (Q:=λUs ρ4=>Q (U::Us) ρ4) f (λT' hT'=>h T' (.tail _ hT')) q
theorem iR{ρ:aR}(f:Tv->Tv){Ts:List Tv}{Q:List Tv->aR->Prop}(h:∀T∈Ts,∀R:Option Tv->aR->Prop,R (some (f T)) ρ->kB own fr g tf ue T ρ R)(q:Q (Ts.map f) ρ):eV own fr g tf ue Ts ρ Q:=
 gK (λT=>some (f T)) h (by rw[show Ts.filterMap (λT=>some (f T))=Ts.map f from List.filterMap_eq_map'▸rfl];exact q)
theorem uH{ρ:aR}{Ts:List Tv}{Q:List Tv->aR->Prop}(J:Nat->List Tv->aR->Prop)(h0:J 0 [] ρ)(hs:∀i T Us ρ',Ts[i]?=some T->J i Us ρ'->∀R:Option Tv->aR->Prop,(∀o ρ'',J (i+1) (Us++o.toList) ρ''->R o ρ'')->kB own fr g tf ue T ρ' R)
  (hd:∀Us ρ',J Ts.length Us ρ'->Q Us ρ'):eV own fr g tf ue Ts ρ Q:=by
 have key:∀(n i:Nat) (Us:List Tv) (ρ:aR) (Q:List Tv->aR->Prop),n+i=Ts.length->J i Us ρ->(∀Vs ρ',J Ts.length (Us++Vs) ρ'->Q Vs ρ')->eV own fr g tf ue (Ts.drop i) ρ Q:=by
  intro n
  induction n with
  |zero=>
   intro i Us ρ Q e j hd
   have:i=Ts.length:=by omega
   subst this
   rw[List.drop_length]
   exact hd [] ρ (by rw[List.append_nil];exact j)
  |succ n ih=>
   intro i Us ρ Q e j hd
   have hi:i<Ts.length:=by omega
   rw[List.drop_eq_getElem_cons hi,pO]
   refine hs i _ Us ρ (List.getElem?_eq_getElem hi) j _ λo ρ'' j'=>?_
   cases o with
   |none=>exact ih (i+1) _ ρ'' Q (by omega) j' λVs ρ' q=>hd Vs ρ' (by simpa using q)
   |some U=>exact ih (i+1) _ ρ'' (λUs ρ4=>Q (U::Us) ρ4) (by omega) j' λVs ρ' q=>hd (U::Vs) ρ' (by simpa using q)
 exact key Ts.length 0 [] ρ Q (by omega) h0 λVs ρ' q=>hd Vs ρ' (by simpa using q)
theorem jM{g:UG}{ub:UTs}{Ts:List Tv}{P:PEnds}{ρ:aR}(J:Nat->aR->Prop)(h0:J 0 ρ)(hs:∀i T ρ' (N:aR->Prop),Ts[i]?=some T->J i ρ'->(∀ρ'',J (i+1) ρ''->N ρ'')->g T ρ' λρ1=>ub {P with nx:=N,ct:=N,bk:=P.nx} ρ1)
  (hd:∀ρ',J Ts.length ρ'->P.nx ρ'):iK g ub Ts P ρ:=by
 have key:∀(n i:Nat) (ρ:aR),n+i=Ts.length->J i ρ->iK g ub (Ts.drop i) P ρ:=by
  intro n
  induction n with
  |zero=>
   intro i ρ e j
   have:i=Ts.length:=by omega
   subst this
   rw[List.drop_length]
   exact hd ρ j
  |succ n ih=>
   intro i ρ e j
   have hi:i<Ts.length:=by omega
   rw[List.drop_eq_getElem_cons hi]
   exact hs i _ ρ (λρ'=>iK g ub (Ts.drop (i+1)) P ρ') (List.getElem?_eq_getElem hi) j λρ'' j'=>ih (i+1) ρ'' (by omega) j'
 exact key Ts.length 0 ρ (by omega) h0
end
end L2
namespace L2
open PySem PySem.Spec PyProof.Rows WordM
def dM:PSp:=λas R=>∃m:Int,as=[.dk,.va (iT m)]/\0<m/\BigOk m/\∀r:Int,0<=r->r<m->R (iT r)
theorem On.kp{p c:Addr}{H H':Hp}(o:On p c H H'):Kp (some (p,c)) H H':=⟨λb u e n=>o.e b u e (n p c rfl).1 (n p c rfl).2,λp' c' e=>by cases e;exact o.d⟩
theorem Good.take{P:Program}{w:World}{K:W.Frag}{mg:Str->Option Value}{base:Heap}{k:Nat}{x:Str}{ps:List Str}(G:Good P w K mg base k x ps zBJ):aE P w K mg base k x ps dM:=Good.imp G λvs H Q E ⟨dk,as,R,d,p,⟨m,e,hm,hb,q⟩,kk⟩=>by
 subst e
 cases p with
 |cons r1 t1=>
  cases t1 with
  |cons r2 t2=>
   cases t2
   obtain⟨p,c,ed,rfl⟩:=r1
   subst ed
   obtain⟨rfl,_⟩:=VA.leafI r2
   exact⟨p,c,m,rfl,d p c rfl,hm,hb,λr H' h1 h2 o=>kk _ _ _ o.kp (.flat rfl) (q r h1 h2)⟩
theorem zFo{X:Cx}{F:Fm}{st:List Stmt}:USs X F st (λ_ _=>False):=⟨PSs.imp zEG λD σ H ⟨_,_,_,h,_⟩=>h⟩
theorem Has.pfalse{P:Program}{w:World}{K:W.Frag}{mg:Str->Option Value}{base:Heap}{x:Str}{st:Stmt}{N ps:List Str}{k:Nat}{psp:PSp}(h:Has K mg x st)(S:bC N ps (aJ st))
  (hb:∀(kV doc pm:Value) (an:Option Addr) (cdv ct:Value) (us:List Value),us.length=ps.length->bindArgs (W.fnOf x x (gP st) (eX st) (aJ st) .none kV doc pm an cdv ct) ⟨us,[]⟩=pure (ps.zip us)) (hf:∀as R,psp as R->False):aE P w K mg base (k+1) x ps psp:=
 h.pgood S hb (λ_ _ _ _ _ _ _ _ _=>zFo) λas R q=>(hf as R q).elim
theorem bD{j:Int}(h1:-(10 ^ 100)<j)(h2:j<10 ^ 100):BigOk j:=by
 unfold BigOk
 have:j.natAbs<10 ^ 100:=by omega
 exact Nat.lt_trans this (by decide +kernel)
section
variable{own:Nat}{fr:List Nat}{g:UG}{tf:UTt}{ue:UT}{α:Type}
theorem iQ{ρ:aR}(c:α->Tv)(f:α->Option Tv):∀{l:List α}{Q:List Tv->aR->Prop},(∀a∈l,∀R:Option Tv->aR->Prop,R (f a) ρ->kB own fr g tf ue (c a) ρ R)->Q (l.filterMap f) ρ->eV own fr g tf ue (l.map c) ρ Q
 |[],_,_,q=>q
 |a::l,Q,h,q=>by
  rw[List.map_cons,pO]
  refine h a (.head _) _ ?_
  rw[List.filterMap_cons]at q
  cases e:f a with
  |none=>rw[e]at q;exact iQ c f (λb hb=>h b (.tail _ hb)) q
  |some U=>rw[e]at q;exact iQ (Q:=λUs ρ4=>Q (U::Us) ρ4) c f (λb hb=>h b (.tail _ hb)) q
theorem dB{ρ:aR}(c f:α->Tv){l:List α}{Q:List Tv->aR->Prop}(h:∀a∈l,∀R:Option Tv->aR->Prop,R (some (f a)) ρ->kB own fr g tf ue (c a) ρ R)(q:Q (l.map f) ρ):eV own fr g tf ue (l.map c) ρ Q:=
 iQ c (λa=>some (f a)) h (by rw[show l.filterMap (λa=>some (f a))=l.map f from List.filterMap_eq_map'▸rfl];exact q)
theorem nA{ρ:aR}(r:Tv->Tv->Prop):∀{Ts:List Tv}{Q:List Tv->aR->Prop},(∀T∈Ts,∀R:Option Tv->aR->Prop,(∀U,r T U->R (some U) ρ)->kB own fr g tf ue T ρ R)->(∀Us,Paired r Ts Us->Q Us ρ)->eV own fr g tf ue Ts ρ Q
 |[],_,_,q=>q [] .nil
 |T::Ts,Q,h,q=>by
  rw[pO]
  exact h T (.head _) _ λU hU=>nA (Q:=λUs ρ4=>Q (U::Us) ρ4) r (λT' hT'=>h T' (.tail _ hT')) λUs p=>q _ (.cons hU p)
theorem jS{g:UG}{ub:UTs}{P:PEnds}{ρ:aR}(c:α->Tv){l:List α}(J:Nat->aR->Prop)(h0:J 0 ρ)(hs:∀i a ρ' (N:aR->Prop),l[i]?=some a->J i ρ'->(∀ρ'',J (i+1) ρ''->N ρ'')->g (c a) ρ' λρ1=>ub {P with nx:=N,ct:=N,bk:=P.nx} ρ1)
  (hd:∀ρ',J l.length ρ'->P.nx ρ'):iK g ub (l.map c) P ρ:=
 jM J h0 (λi T ρ' N e j hN=>by
  rw[List.getElem?_map]at e
  obtain⟨a,ea,rfl⟩:=Option.map_eq_some_iff.mp e
  exact hs i a ρ' N ea j hN) (by rw[List.length_map];exact hd)
end
theorem zBq(x y:Str):eqT (sT x) (sT y)=decide (x=y):=by
 rw[eqT]
 show(x==y)=_
 exact Bool.beq_eq_decide_eq x y
theorem zBy{x:Str}{ss:List Str}:((ss.map sT).any λU=>eqT U (sT x))=decide (x∈ss):=by
 rw[List.any_map,Bool.eq_iff_iff,List.any_eq_true,decide_eq_true_iff]
 constructor
 ·rintro⟨y,hy,e⟩
  have e:eqT (sT y) (sT x)=true:=e
  rw[zBq,decide_eq_true_iff]at e
  rw[<-e];exact hy
 ·intro h
  exact⟨x,h,by show eqT (sT x) (sT x)=true;rw[zBq,decide_eq_true_iff]⟩
theorem zAu{x:Str}{ss:List Str}:pD (sT x) (ss.map sT):=⟨trivial,λU hU=>by
 obtain⟨s,_,rfl⟩:=List.mem_map.mp hU
 trivial⟩
theorem sif{b:Bool}{A B:Prop}(h1:b=true->A)(h2:b=false->B):if b=true then A else B:=by
 cases b with
 |true=>exact(if_pos rfl).mpr (h1 rfl)
 |false=>exact(if_neg Bool.false_ne_true).mpr (h2 rfl)
theorem dE{p:Prop}[Decidable p]{A B:Prop}(h1:p->A)(h2:¬ p->B):if decide p=true then A else B:=sif (λh=>h1 (of_decide_eq_true h)) λh=>h2 (of_decide_eq_false h)
end L2
namespace L2
open PySem PySem.Spec PyProof.Rows WordM
abbrev UTd:=aR->(List (Str×Tv)->aR->Prop)->Prop
def zKb(K:W.Frag)(F:Fm)(u:UTd):TE:=λσ H QQ=>∃ρ Q,FrOk K F ρ σ H/\u ρ Q/\∀a kvs kts H' ρ',Stp K F σ ρ H ρ' H'->H a=none->H' a=some (.dK kvs)->(kts.map (·.1)).Nodup->kts.length<64->VAk K H' kvs kts->Q kts ρ'->QQ (.ref a) H'
structure UD (X:Cx) (F:Fm) (e:Expr) (u:UTd):Prop where
 pe:PE X e (zKb X.K F u)
section
variable{X:Cx}{F:Fm}{e:Expr}{pos:Pos}
def zJK(i:Nat)(u:UTd):UTs:=λP ρ=>u ρ λkts ρ1=>P.nx (ρ1.set i (.dct kts))
theorem zGz{i:Nat}{x:Str}{u:UTd}{pos':Pos}(hN:X.N.Nodup)(hi:X.N[i]?=some x)(hx:Loc X.env.scope x)(he:UD X F e u)(hs:swapsWith e (some (.Name x pos')) pos.line X.env=pure false:=by rfl)(hf:X.fn x=true\/X.env.scope.names.lookup x=some .local:=by first|exact .inl rfl|exact .inr rfl|assumption):
  US X F (.Assign [.Name x pos'] e pos) (zJK i u):=⟨PS.imp (hZ hN hi hx he.pe hs hf) λD σ H ⟨ρ,P,f,h,k1,_⟩=>by
 refine⟨ρ,_,f,h,λa kvs kts H' ρ' s n e nd z p q=>?_⟩
 exact k1 _ _ _ (s.fr.set (s:=.dct kts) (λ_=>⟨a,kvs,rfl,e,f.none0 n,nd,z,p⟩) (λ_ b eb j t ej mj qj=>by cases eb;exact s.notown f n j t ej mj qj)) (s.hs f) q⟩
variable{u:UT}{p:Pos}
theorem zEl{K:W.Frag}{H:Hp}{kvs:List (Key×V)}{kts:List (Str×Tv)}(p:VAk K H kvs kts)(n:(kts.map (·.1)).Nodup):(kvs.map (·.1)).Nodup:=by
 rw[uI p]
 unfold List.Nodup at n ⊢
 rw[List.pairwise_map]
 exact n.imp λh e=>h (Sum.inr.inj e)
def vV:List (Str×UT)->aR->(List (Str×Tv)->aR->Prop)->Prop
 |[],ρ,Q=>Q [] ρ
 |(k,u)::r,ρ,Q=>u ρ λT ρ1=>vV r ρ1 λkts ρ2=>Q ((k,T)::kts) ρ2
structure UP (X:Cx) (F:Fm) (pos:Pos) (ks:List (Option Expr)) (vs:List Expr) (l:List (Str×UT)):Prop where
 pp:PPs X pos ks vs (l.map λx=>(tC (.str x.1),eC X.K F x.2))
theorem zBB:UP X F pos [] [] []:=⟨zGX⟩
theorem lC{k:Str}{j}{kpos:Pos}{v:Expr}{ks:List (Option Expr)}{vs:List Expr}{l:List (Str×UT)}{u:UT}(h:UE X F v u)(hr:UP X F pos ks vs l):UP X F pos (some (.Constant (.str k) j kpos)::ks) (v::vs) ((k,u)::l):=⟨zFO zBS h.pe hr.pp⟩
theorem yT{K:W.Frag}:∀{l:List (Str×UT)}{σ:St}{H:Hp}{ρ:aR}{Q:List (Str×Tv)->aR->Prop}{QQ:List (V×V)->Hp->Prop},FrOk K F ρ σ H->vV l ρ Q ->
  (∀kvs kts H' ρ',Stp K F σ ρ H ρ' H'->VAk K H' kvs kts->kts.map (·.1)=l.map (·.1)->Q kts ρ'->QQ (kvs.map λkv=>(kV kv.1,kv.2)) H')->qO (l.map λx=>(tC (.str x.1),eC K F x.2)) σ H QQ
 |[],σ,H,ρ,Q,QQ,f,h,k=>k [] [] H ρ (Stp.refl f) .nil rfl h
 |(x,u)::l,σ,H,ρ,Q,QQ,f,h,k=>by
  refine⟨ρ,_,f,h,λy T H1 ρ1 s1 v1 q1=>yT (l:=l) s1.fr q1 λkvs kts H' ρ' s2 p2 e2 q2=>?_⟩
  exact k ((.inr x,y)::kvs) ((x,T)::kts) H' ρ' (s1.trans s2) (.cons ⟨rfl,v1.hs (s2.hs s1.fr)⟩ p2) (by rw[List.map_cons,List.map_cons,e2]) q2
def zJw(l:List (Str×UT)):UTd:=λρ Q=>vV l ρ Q
theorem zAQ{ks:List (Option Expr)}{vs:List Expr}{l:List (Str×UT)}(h:UP X F pos ks vs l)(nd:(l.map (·.1)).Nodup)(h15:l.length<=15)(hall:ks.all (·.isSome)=true:=by rfl)(hl:ks.length=vs.length:=by rfl)(h0:ks≠[]:=by exact λz=>nomatch z)(hk:ks.length<=15:=by decide):
  UD X F (.Dict ks vs pos) (zJw l):=⟨PE.imp (zG5 h.pp hall hl h0 hk) λσ H QQ ⟨ρ,Q,f,h,k⟩ b nb=>by
 have s0:=Stp.same f (cL (o:=.dK []) nb)
 refine yT s0.fr h λkvs kts H' ρ' s2 p2 e2 q2=>?_
 have n2:(kts.map (·.1)).Nodup:=by rw[e2];exact nd
 have lk:kvs.length=kts.length:=Paired.length p2
 have lk2:kts.length=l.length:=by simpa using congrArg List.length e2
 have hb:H' b=some (.dK []):=s2.st b _ bE (f.none_nodk nb) (s0.notown f nb)
 refine⟨hb,kvs,rfl,by omega,?_⟩
 rw[zL (kvs:=[]) (by simpa using zEl p2 n2),List.nil_append]
 exact k _ _ _ _ _ ((s0.trans s2).put f nb hb rfl _) nb bE n2 (by omega) (VAk.hs (fX hb rfl) p2) q2⟩
variable{x:Str}{apos cpos:Pos}
end
section
variable{X:Cx}{F:Fm}
def zJQ:R2:=λx y H Q=>∃l k xs,x=.ref l/\y=.int k/\Rd H l (.lst xs) /\ -(2 ^ 63)<=k/\k<2 ^ 63/\xs.length*k.toNat<=sizeLine/\∀p,H p=none->Q (.ref p) (upd H p (.lst (List.replicate k.toNat xs).flatten))
theorem zHd:OpR X (binaryOp .Mult) zJQ:=by
 rintro pins s σ H _ _ v u Q I rx ry ⟨l,k,xs,rfl,rfl,hH,h1,h2,hz,q⟩
 cases rx
 obtain⟨t,rfl⟩:=ry
 obtain⟨z,its,n,r,e⟩:=hH.ok I.hok
 have hl:=r.length
 have hlen:its.toArray.size*k.toNat<=sizeLine:=by rw[List.size_toArray,<-hl];exact hz
 have hcap:¬ its.toArray.size*k.toNat > (2 ^ 63-1) / 8:=by
  have:(sizeLine:Nat)<=(2 ^ 63-1) / 8:=by decide
  omega
 have hfit:¬ (!Builtin.List.listFitsIndex k)=true:=by
  rw[fitsIndex_both h1 h2]
  exact Bool.false_ne_true
 have hlong:¬ Builtin.List.listTooLong (its.toArray.size*k.toNat)=true:=by
  rw[zAo hlen]
  exact Bool.false_ne_true
 have hnew:List.foldl (λx1 x2=>x1++x2) #[] (List.replicate (if its.toArray.isEmpty=true then 0 else k.toNat) its.toArray)=(List.replicate k.toNat its).flatten.toArray:=by
  have f0:∀m:Nat,List.foldl (λx1 x2=>x1++x2) #[] (List.replicate m its.toArray)=(List.replicate m its).flatten.toArray:=λm=>by
   have:=zT its m []
   rw[List.nil_append]at this
   exact this
  rw[f0]
  cases its with
  |nil=>simp
  |cons a r'=>rw[if_neg (by simp)]
 refine wpAny_binaryOp_repeat_ref (T:="list") (U:="int") (by decide) ⟨_,e,rfl⟩ (λs'=>typeIs_int s' k t) noFill_list_mul F.fills_int_mul F.slot_int_rmul repeat_list F.slot_int_index.lookup
  (call_meets F.slot_int_rmul (typeIs_int s k t) F.entry_int_rmul (F.args_int_rmul_2 _ _) (int___rmul___int_list k t l its.toArray n)
   ⟨e,rfl,⟨_,e,rfl⟩,call_meets F.slot_list_mul ⟨_,e,rfl⟩ F.entry_list_mul (F.args_list_mul_2 _ _) (AutoListH.list___mul___list_int_3 l its.toArray n k t hfit hcap hlong) ⟨e,?_⟩⟩)
 rw[hnew]
 exact⟨.ref _,_,I.lnew (t':=s.toks) (r.rep k.toNat) (by rw[vL,Nat.mul_comm];exact hz),rfl,q _ I.fresh⟩
theorem yR{α β:Type}{R:α->β->Prop}{l:List α}{m:List β}(p:Paired R l m):∀k:Nat,Paired R (List.replicate k l).flatten (List.replicate k m).flatten
 |0=>.nil
 |k+1=>by rw[List.replicate_succ,List.replicate_succ,List.flatten_cons,List.flatten_cons];exact pL p (yR p k)
def zCg:P2
 |.seq false xs,.leaf (.int k),Q=>(xs.length*k.toNat<=100000 /\ -(2 ^ 62)<=k/\k<2 ^ 62)/\Q (.seq false (List.replicate k.toNat xs).flatten)
 |T,U,Q=>xM T U Q
theorem gO:fQ X (binaryOp .Mult) zCg:=by
 obtain⟨a,oa,ra⟩:=zIm (X:=X)
 refine⟨_,oa.or zHd,λx y T U H Q QQ vx vy h k=>?_⟩
 unfold zCg at h
 split at h
 ·obtain⟨a,xs,rfl,⟨ob,hs⟩,z,p⟩:=vx.seqI
  obtain⟨rfl,_⟩:=vy.leafI
  obtain⟨⟨h1,h2,h3⟩,q⟩:=h
  have l1:xs.length=_:=Paired.length p
  refine .inr ⟨a,_,xs,rfl,rfl,.inr ⟨ob,hs⟩,by omega,by omega,fI (by rw[l1];exact h1),λb n=>k _ _ _ (Raw.lst n ?_ (yR p _)) q⟩
  rw[vL,Nat.mul_comm];exact h1
 ·exact .inl (ra x y T U H Q QQ vx vy h k)
end
end L2
namespace L2
open PySem PySem.Spec PyProof.Rows WordM
inductive Wd where
 |few (ts:List Str)
 |make (h:Str) (a b:Int) (ms:List Str)
inductive Pt where
 |nothing
 |truths (bs:List Bool)
 |numbers (lo hi st:Int)
 |texts (w:Wd)
 |lists (a b:Int) (f:List Pt)
 |record (a b:Int) (fs:List (Str×Bool×List Pt))
 |table (a b:Int) (w:Wd) (f:List Pt)
def gX:Wd->Tv
 |.few ts=>.seq true [sT "few",.seq true (ts.map sT)]
 |.make h a b ms=>.seq true [sT "make",sT h,iT a,iT b,.seq true (ms.map sT)]
def aZ:Pt->Tv
 |.nothing=>.seq true [sT "nothing"]
 |.truths bs=>.seq true [sT "truths",.seq true (bs.map bT)]
 |.numbers lo hi st=>.seq true [sT "numbers",iT lo,iT hi,iT st]
 |.texts w=>.seq true [sT "texts",gX w]
 |.lists a b f=>.seq true [sT "lists",iT a,iT b,.seq true (f.map aZ)]
 |.record a b fs=>.seq true [sT "record",iT a,iT b,.seq true (fs.map λx=>.seq true [sT x.1,bT x.2.1,.seq true (x.2.2.map aZ)])]
 |.table a b w f=>.seq true [sT "table",iT a,iT b,gX w,.seq true (f.map aZ)]
termination_by p=>sizeOf p
decreasing_by
 all_goals simp_wf
 ·have:=List.sizeOf_lt_of_mem ‹_›;omega
 ·obtain⟨x1,x2,x3⟩:=x
  have h1:=List.sizeOf_lt_of_mem ‹_∈fs›
  have h2:=List.sizeOf_lt_of_mem ‹_∈x3›
  simp at h1
  omega
 ·have:=List.sizeOf_lt_of_mem ‹_›;omega
abbrev bQ(f:List Pt):Tv:=.seq true (f.map aZ)
abbrev cH(x:Str×Bool×List Pt):Tv:=.seq true [sT x.1,bT x.2.1,bQ x.2.2]
theorem jF(a b:Int)(f:List Pt):aZ (.lists a b f)=.seq true [sT "lists",iT a,iT b,bQ f]:=by rw[aZ]
theorem iL(a b:Int)(fs:List (Str×Bool×List Pt)):aZ (.record a b fs)=.seq true [sT "record",iT a,iT b,.seq true (fs.map cH)]:=by rw[aZ]
theorem jE(a b:Int)(w:Wd)(f:List Pt):aZ (.table a b w f)=.seq true [sT "table",iT a,iT b,gX w,bQ f]:=by rw[aZ]
def jX:Pt->Str
 |.nothing=>"nothing"
 |.truths _=>"truths"
 |.numbers ..=>"numbers"
 |.texts _=>"texts"
 |.lists ..=>"lists"
 |.record ..=>"record"
 |.table ..=>"table"
def bZ:Pt->Nat
 |.nothing=>0
 |.truths _=>1
 |.numbers ..=>2
 |.texts _=>3
 |.lists ..=>4
 |.record ..=>5
 |.table ..=>5
theorem dG{a b:Int}{A B:Prop}(h1:a=b->A)(h2:a≠b->B):if (false != eqV (.int a) (.int b))=true then A else B:=sif (λz=>h1 (by simpa[eqV]using z)) λz=>h2 (by simpa[eqV]using z)
theorem rX{a b:Str}{A B:Prop}(h1:a=b->A)(h2:a≠b->B):if (false != eqV (.str a) (.str b))=true then A else B:=sif (λz=>h1 (by simpa[eqV]using z)) λz=>h2 (by simpa[eqV]using z)
def kK(s:Str):Prop:=Sg s/\s.length<=50
def gF(l:List Str):Prop:=l.Pairwise λa b=>cs a<cs b
def xS(n:Int):Prop:=-(10 ^ 61)<n/\n<10 ^ 61
def kJ:Wd->Prop
 |.few ts=>1<=ts.length/\ts.length<=6/\gF ts/\∀t∈ts,kK t
 |.make h a b ms=>kK h/\0<=a/\a<=b/\1<=b/\b<=100/\ms.Sublist MK/\ms≠[]
def zB1:Wd->Bool
 |.few _=>false
 |.make ..=>true
def rQ(lo hi st:Int):Prop:=xS lo/\xS hi/\xS st/\lo<=hi/\0<=st/\(st=0↔lo=hi)/\(st≠0->(hi-lo) % st=0)
def fU(fs:List (Str×Bool×List Pt)):Nat:=(fs.filter λx=>x.2.1).length
abbrev jP(f:List Pt):Prop:=f.Pairwise λp q=>bZ p<bZ q
theorem zDz{a b:Str}(h:cs a<=cs b)(n:a≠b):cs a<cs b:=by
 refine Classical.byContradiction λz=>n (jN (List.le_antisymm h (List.not_lt.mp z)))
theorem zGJ(l:List Str):∃ss:List Str,ss.Perm l/\sortedS ss=true:=by
 refine⟨l.mergeSort λa b=>decide (cs a<=cs b),List.mergeSort_perm _ _,PyProof.Rows.sortedS_of_pairwise _ ?_⟩
 refine(List.pairwise_mergeSort (λa b c h1 h2=>?_) (λa b=>?_) l).imp λ{a b} h=>?_
 ·exact decide_eq_true (List.le_trans (of_decide_eq_true h1) (of_decide_eq_true h2))
 ·rcases List.le_total (cs a) (cs b) with z|z<;>simp[z]
 ·rw[ltCps_eq]
  exact decide_eq_false (List.not_lt.mpr (of_decide_eq_true h))
theorem zGI(l:List Str):(cO l).Pairwise λa b=>cs a<=cs b:=by
 obtain⟨ss,h1,h2⟩:=zGJ l
 rw[<-qA h1 h2]
 exact pK _ h2
theorem tW{l:List Str}(n:l.Nodup):gF (cO l):=by
 have h2:(cO l).Nodup:=(mS l).nodup_iff.mpr n
 exact List.Pairwise.imp₂ (λa b h n=>zDz h n) (zGI l) h2
theorem tP{l:List Str}(h:gF l):l.Nodup:=List.Pairwise.imp (λ{a b} h e=>by rw[e]at h;exact List.lt_irrefl _ h) h
end L2
namespace L2
open PySem PySem.Spec PyProof.Rows WordM
def stW(x y:Str):Bool:=decide (0+y.length<=x.length)&&Builtin.Str.subAt x y 0
def cQ(x hd:Str):Str:=Txt.slice x (some (hd.length:Int)) none
def dD:Tv->Nat
 |.leaf .non=>0
 |.leaf (.bl _)=>1
 |.leaf (.int _)=>2
 |.leaf (.str _)=>3
 |.leaf _=>5
 |.seq false _=>4
 |.seq true _=>5
 |.dct _=>5
def gA:Nat->Str
 |0=>"nothing"
 |1=>"truth"
 |2=>"number"
 |3=>"text"
 |4=>"list"
 |_=>"dict"
end L2
namespace L2
open PySem PySem.Spec PyProof.Rows WordM
theorem uF{kts:List (Str×Tv)}{k:Str}{U:Tv}(h:cU kts k=some U):(k,U)∈kts:=by
 unfold cU at h
 obtain⟨kt,h1,h2⟩:=Option.map_eq_some_iff.mp h
 have h3:=List.find?_some h1
 have h4:=List.mem_of_find?_eq_some h1
 have h5:kt.1=k:=by simpa using h3
 rw[<-h5,<-h2];exact h4
theorem lookD_none{kts:List (Str×Tv)}{k:Str}:cU kts k=none↔k∉kts.map (·.1):=by
 constructor
 ·intro h hk
  obtain⟨U,e⟩:=zF3 hk
  rw[h]at e;cases e
 ·intro h
  cases e:cU kts k with
  |none=>rfl
  |some U=>exact absurd (List.mem_map.mpr ⟨_,uF e,rfl⟩) h
end L2
namespace L2
open PySem PySem.Spec PyProof.Rows WordM
theorem zEV(T:Tv):dD T<=5:=by
 cases T with
 |leaf v=>cases v<;>simp[dD]
 |seq t xs=>cases t<;>simp[dD]
 |dct k=>simp[dD]
end L2
namespace L2
open PySem PySem.Spec PyProof.Rows WordM
theorem zGT(kvs:List (Key×V))(k:Key)(v:V):(cV kvs k v).length<=kvs.length+1:=by
 unfold cV
 split
 ·rw[List.length_map];omega
 ·rw[List.length_append];exact Nat.le_refl _
theorem zM:∀(more kvs:List (Key×V)),(eR kvs more).length<=kvs.length+more.length
 |[],_=>Nat.le_refl _
 |p::more,kvs=>by
  have h1:=zM more (cV kvs p.1 p.2)
  have h2:=zGT kvs p.1 p.2
  show(eR (cV kvs p.1 p.2) more).length<=kvs.length+(more.length+1)
  omega
section
variable{X:Cx}{pins:List (Addr×Obj)}{σ:St}{H:Hp}{s:Shared}{a b:Addr}{kvs more:List (Key×V)}{A:Around}{E:Value->Shared->Prop}
theorem zGi{Q:Value->Shared->Prop}(I:Inv X pins σ H s)(e:H a=some (.dK kvs))(eb:Rd H b (.dK more))(ne:a≠b)(l:kvs.length+more.length<=sizeLine)(h:∀s',Inv X pins σ (upd H a (.dK (eR kvs more))) s'->Q .none s'):
  wpAny (model X.prog X.w) A (call (.builtin "dict.update") [.ref a,.ref b]) Q E s:=by
 obtain⟨z,hd,vs,rel,dd⟩:=wS I.hok e
 obtain⟨z',hd',us,rel',dd'⟩:=iZ I.hok eb
 refine call_meetsIn PySem.F.slot_dict_update dd.typeIs PySem.F.entry_dict_update (PySem.F.args_dict_update_2 _ _) (meets_dict_update (bW X.prog X.w) a b ne hd') ⟨vs,us,dd,dd',by rw[<-rel.length,<-rel'.length];exact l,λh' d1 _ hs=>h _ ?_⟩
 have he:∃q,h'.get? a=some q:=let ⟨q,_,_,hq,_⟩:=d1;⟨q,hq⟩
 exact qL (t':=s.toks) I (by rw[e];exact True.intro) hs he (wF (Nat.le_trans (zM more kvs) l) hd (KV.merge rel' rel) d1)
end
def zJI(td ty:TE):TE:=λσ H Q=>td σ H λx H1=>∃a,x=.ref a/\IsD H1 a/\ty σ H1 λy H2=>∃b kvs more,y=.ref b/\H2 a=some (.dK kvs)/\Rd H2 b (.dK more)/\a≠b/\kvs.length+more.length<=sizeLine/\Q .non (upd H2 a (.dK (eR kvs more)))
section
variable{X:Cx}{F:Fm}{o e:Expr}{apos cpos p:Pos}{x:Str}
theorem zG4{td ty:TE}(ho:PE X o td)(he:PE X e ty)(m:M1 X o "update" apos e cpos):PE X (.Call (.Attribute o "update" apos) [e] [] cpos) (zJI td ty):=by
 intro pins s σ H Q I h
 refine wpAny_Call_method m.base m.few m.line PySem.F.plainAttrs_dict PySem.F.slot_dict_update PySem.F.type_dict_update (thn (ho pins s σ H _ I h) λu s1 ⟨x,H1,I1,rx,a,ex,d,q1⟩=>?_)
 subst ex
 obtain rfl:u=Value.ref a:=rx
 obtain⟨t1,t2,_⟩:=zJb I1 d
 refine⟨t1,t2,?_⟩
 rw[m.trees]
 refine Calls.callWith_builtin rfl (Calls.evalArgs_plain (Calls.spliced_cons (thn (he pins s1 σ H1 _ I1 q1) λiv s2 ⟨y,H2,I2,ry,b,kvs,more,ey,ea,eb,ne,l,q2⟩=>Calls.spliced_nil ?_)))
 subst ey
 obtain rfl:iv=Value.ref b:=ry
 exact zGi I2 ea eb ne l λs3 I3=>⟨.non,_,I3,rfl,q2⟩
def lO(kts more:List (Str×Tv)):List (Str×Tv):=more.foldl (λacc kt=>eJ acc kt.1 kt.2) kts
theorem zEk{K:W.Frag}{H:Hp}{more:List (Key×V)}{mts:List (Str×Tv)}(r':VAk K H more mts):∀{kvs:List (Key×V)}{kts:List (Str×Tv)},VAk K H kvs kts->VAk K H (eR kvs more) (lO kts mts):=by
 unfold VAk at r'
 induction r' with
 |nil=>exact λr=>r
 |@cons p q ps qs h t ih=>
  intro kvs kts r
  show VAk K H (eR (cV kvs p.1 p.2) ps) (lO (eJ kts q.1 q.2) qs)
  rw[h.1]
  exact ih (zAM r h.2)
theorem yD:∀(more:List (Str×Tv)) {kts:List (Str×Tv)},(kts.map (·.1)).Nodup->((lO kts more).map (·.1)).Nodup
 |[],_,h=>h
 |p::more,kts,h=>yD more (tR h)
def zJx(i:Nat)(ud:UTd):UT:=λρ Q=>(∃kts,ρ[i]?=some (.dct kts))/\ud ρ λmore ρ1=>∃kts,ρ1[i]?=some (.dct kts)/\(lO kts more).length<64/\Q nT (ρ1.set i (.dct (lO kts more)))
theorem zGD(i:Nat){u:UTd}(h:UD X F e u)(hN:X.N[i]?=some x:=by rfl)(hv:Vis X.env.scope x:=by first|exact Or.inl rfl|exact Or.inr (Or.inl rfl)|exact Or.inr (Or.inr rfl))(hd:(x==("__debug__":Str))=false:=by decide)(hcd:(x==("__classdict__":Str))=false:=by decide)
  (m:M1 X (.Name x p) "update" apos e cpos:=by exact⟨rfl,rfl,rfl,rfl⟩):UE X F (.Call (.Attribute (.Name x p) "update" apos) [e] [] cpos) (zJx i u):=⟨PE.imp (zG4 (iX hN hv hd hcd) h.pe m) λσ H QQ ⟨ρ,Q,f,⟨⟨kts0,e0⟩,hu⟩,k⟩=>by
 obtain⟨a,kvs0,ea,eH,_⟩:=f.at_ i _ e0
 refine⟨_,hG ea,a,rfl,.inl ⟨kvs0,.inl eH⟩,ρ,_,f,hu,λb more mts H1 ρ1 s1 hb0 hb1 mnd mz mp q1=>?_⟩
 obtain⟨kts,e1,ml,q⟩:=q1
 obtain⟨a',kvs,ea',eH1,h0,nd,z,pv⟩:=s1.fr.at_ i _ e1
 rw[ea]at ea';cases ea'
 have ne:a≠b:=λz=>by rw[z,hb0]at eH;cases eH
 have st:=s1.fr.put (o':=.dK (eR kvs more)) e1 rfl ea eH1 rfl (s':=.dct (lO kts mts)) λhs h0=>⟨a,_,rfl,bE,h0,yD mts nd,ml,VAk.hs hs (zEk mp pv)⟩
 have l1:kvs.length=kts.length:=Paired.length pv
 have l2:more.length=mts.length:=Paired.length mp
 exact⟨b,kvs,more,rfl,eH1,.inl hb1,ne,fI (by omega),k _ _ _ _ (s1.trans st) (.flat rfl) q⟩⟩
end
end L2
namespace L2
open PySem PySem.Spec PyProof.Rows WordM
def rC(K:W.Frag):Sp:=λvs H Q _=>∃(a:Addr) (ns:List Int),vs=[.ref a]/\SqL K H a (ns.map V.int)/\ns.length<=63/\∀H',Q (.bl true) H'
def mO(n:Nat):aR:=.no::.dk::List.replicate (n-2) .no
theorem zJe{K:W.Frag}{H:Hp}{p c:Addr}{N:List Str}{x:V}(hN:2<=N.length)(d:DeckAt H p c):FrOk K ⟨H,some (p,c)⟩ (mO N.length) ((start N [x]).set 1 (some (.ref p))) H:=by
 have nm:∀(i:Nat) (s:Sl),(mO N.length)[i]?=some s->(s=.dk/\i=1)\/s=.no:=λi s e=>by
  unfold mO at e
  match i,e with
  |0,e=>exact .inr (by simpa using e.symm)
  |1,e=>exact .inl ⟨by simpa using e.symm,rfl⟩
  |i+2,e=>
   have e:(List.replicate (N.length-2) Sl.no)[i]?=some s:=by simpa using e
   exact .inr (List.eq_of_mem_replicate (List.mem_of_getElem? e))
 refine⟨λp' c' e=>by cases e;exact d,⟨λ_ _ e _=>e,λp' c' e=>by cases e;exact d⟩,?_,λi s e=>?_,λi j a s t e _ m _ _ _=>?_⟩
 ·unfold mO start
  simp
  omega
 ·rcases nm i s e with⟨rfl,rfl⟩|rfl
  ·refine⟨p,c,rfl,?_⟩
   unfold ixv start
   rw[List.getElem?_set_self (by simp;omega)]
   rfl
  ·trivial
 ·rcases nm i s e with⟨rfl,_⟩|rfl<;>cases m
theorem zGb{K:W.Frag}{mg:Str->Option Value}{x:Str}{a:Addr}{ss:List Str}(m:mg x=some (.ref a))(T:∀H,SqT K H a (ss.map V.str))(l:ss.length<=100000:=by decide):gC K mg x (.seq true (ss.map sT)):=by
 refine⟨.ref a,.ref a,m,rfl,λH=>VA.seq (T H) (by rw[List.length_map];exact l) ?_⟩
 have key:∀ss:List Str,VAs K H (ss.map V.str) (ss.map sT):=λss=>by
  induction ss with
  |nil=>exact .nil
  |cons s ss ih=>exact .cons (.flat rfl) ih
 exact key ss
theorem zGV{X:Cx}{st:List Stmt}{us:UTs}(h:∀F,USs X F st us):PSs X st (λD σ H=>∃F,lY X.K F us D σ H):=λpins s σ H D I ⟨F,q⟩=>(h F).ps pins s σ H D I q
theorem zHn{X:Cx}{us:UTs}{D:kN}{p c:Addr}{H:Hp}{N:List Str}{x:V}(hN:2<=N.length)(d:DeckAt H p c)(q:∀H',D.rt (.bl true) H')(h:us {nx:=λ_=>False,rt:=λT=>T=bT true} (mO N.length)):
  ∃F,lY X.K F us D ((start N [x]).set 1 (some (.ref p))) H:=⟨⟨H,some (p,c)⟩,mO N.length,_,zJe hN d,h,λ_ _ _ _ _ z=>z.elim,λx T H' _ v e=>by
 subst e
 obtain⟨rfl,_⟩:=v.leafI
 exact q H',λ_ _ _ _ _ z=>z.elim,λ_ _ _ _ _ z=>z.elim⟩
end L2
namespace L2
open PySem PySem.Spec PyProof.Rows
def eW:Bool->Value->Bool
 |b,.bool c=>b==c
 |_,_=>false
theorem kS{b:Bool}{v:Value}(h:eW b v=true):v=.bool b:=by
 cases v<;>simp_all [eW]
def iH(b:Bool):Int:=if b then 1 else 0
section
variable{prog:Program}{w:World}{A:Around}{E:Value->Shared->Prop}{s:Shared}
theorem zFl{b:Bool}{Q:Int->Shared->Prop}(h:Q (iH b) {s with toks:=s.toks+1}):wpAny (model prog w) A (pyHash (.bool b)) Q E s:=by
 unfold pyHash
 have hv:[Value.bool b].any Value.onHeap=false:=rfl
 refine wpAny_bind ?_
 rw[cRoomFor,if_neg (by rw[hv];exact Bool.false_ne_true)];refine wpAny_pure ?_
 refine wpAny_bind (wpAny_specialOf (typeIs_bool' s b) F.slot_bool_hash.lookup ?_)
 show wpAny _ _ (if (some (Value.builtin "int.__hash__")==some Value.none)=true then _ else _) Q E s
 rw[if_neg (by rw[beq_builtin_none];exact Bool.false_ne_true)]
 refine wpAny_bind (wpAny_specialOf (typeIs_bool' s b) F.slot_bool_hash.lookup ?_)
 show wpAny _ _ (callSpecialIfBoundUnlessNone? (.bool b) "__hash__" _ >>= _) Q E s
 refine wpAny_bind (wpAny_callSpecialIfBoundUnlessNone?_slot (typeIs_bool' s b) F.slot_bool_hash
  (wpAny_call_entry F.slot_bool_hash (typeIs_bool' s b) PySem.entry_int_hash
   (show wpAny _ _ (do ret (<- mkInt (rawHash (iH b)))) _ _ s from ?_) (PySem.args_int_hash _)))
 refine wpAny_ret_mkInt ?_
 cases b
 ·exact wpAny_pure h
 ·exact wpAny_pure h
theorem zHH{a b:Bool}{Q:Bool->Shared->Prop}(h:Q (decide (a=b)) s):wpAny (model prog w) A (eqBool (.bool a) (.bool b)) Q E s:=by
 refine SeqAt.EqAt.bool_bool a b _ _ _ _ ?_
 have e:(a==b)=decide (a=b):=by cases a<;>cases b<;>rfl
 rw[e];exact h
end
def jW(prog:Program)(w:World):PySem.KeyKind prog w Bool where
 is:=eW
 hash:=iH
 inj:=λv a b ha hb=>by
  have:=(kS ha).symm.trans (kS hb)
  injection this
 byValue:=λk v h=>by rw[kS h];rfl
 pyHash:=λhv h=>by rw[kS hv];exact zFl h
 eqBool:=λhu hv h=>by rw[kS hu,kS hv];exact zHH h
 «strs»:=λk x t v h=>by simp[eW]at h
def usB(f t:Bool):List Bool:=(if f then [false] else [])++(if t then [true] else [])
def esB(f t:Bool):Array (Int×Value):=((usB f t).map λb=>(iH b,Value.bool b)).toArray
def cT(l f t:Bool):SetTable:=⟨7,((usB f t).map λb=>if b then 1 else 0).toArray,#[],0,l,0,true⟩
theorem zLa(l f t b:Bool)(h:b∉usB f t):layNew (cT l f t) (esB f t) (iH b) (.bool b)=(esB (f || !b) (t || b),cT l (f || !b) (t || b),false,false):=by
 cases l<;>cases f<;>cases t<;>cases b<;>first|rfl|exact absurd (by simp[usB]) h
theorem mP(l f t:Bool):(cT l f t).fits (esB f t).size=true:=by cases l<;>cases f<;>cases t<;>rfl
theorem zKi(l f t:Bool):(cT l f t).tooFull=false:=by cases l<;>cases f<;>cases t<;>rfl
theorem oH(f t:Bool):(esB f t).size=(usB f t).length:=by simp[esB]
theorem kI(f t:Bool):(usB f t).length<=2:=by cases f<;>cases t<;>decide
def SetBl(w:World)(a:Addr)(f t:Bool)(h:Heap):Prop:=∃ep,h.get? a=some (bS (esB f t) ep (cT (!byT w) f t))
section
variable{prog:Program}{w:World}{A:Around}{E:Value->Shared->Prop}{s:Shared}{a:Addr}{f t b:Bool}
theorem SetBl.kept{h h':Heap}(S:SetBl w a f t h)(k:∀o,h.get? a=some o->h'.get? a=some o):SetBl w a f t h':=by
 obtain⟨ep,e⟩:=S
 exact⟨ep,k _ e⟩
theorem elB:ElemsOf (jW prog w) (esB f t).toList:=λe he=>by
 have he:e∈(usB f t).map λb=>(iH b,Value.bool b):=he
 obtain⟨b,_,rfl⟩:=List.mem_map.mp he
 exact⟨⟨b,by show eW b (.bool b)=true;simp[eW],rfl⟩,rfl⟩
theorem findB:((esB f t).toList.findIdx? λe=>(jW prog w).is b e.2)=none↔b∉usB f t:=by
 rw[List.findIdx?_eq_none_iff]
 constructor
 ·intro h hb
  have:=h (iH b,.bool b) (by simp only[esB];exact List.mem_map.mpr ⟨b,hb,rfl⟩)
  exact absurd this (by show ¬ eW b (.bool b)=false;simp[eW])
 ·intro h e he
  have he:e∈(usB f t).map λb=>(iH b,Value.bool b):=he
  obtain⟨c,hc,rfl⟩:=List.mem_map.mp he
  show eW b (.bool c)=false
  simp only[eW,beq_eq_false_iff_ne]
  exact λz=>h (z▸hc)
theorem inB{f t b:Bool}(h:b∈usB f t):(f || !b)=f/\(t || b)=t:=by
 cases f<;>cases t<;>cases b<;>simp_all [usB]
theorem zGp{Q:Bool->Shared->Prop}(S:SetBl w a f t s.heap)(h:∀r h',Heap.SameBut a s.heap h'->SetBl w a (f || !b) (t || b) h'->Q r {s with heap:=h'}):
  wpAny (model prog w) A (setAddHashed a (.bool b) ((jW prog w).hash b)) Q E s:=by
 obtain⟨ep,ho⟩:=id S
 have hk:(jW prog w).is b (.bool b)=true:=by show eW b (.bool b)=true;simp[eW]
 have lt:(esB f t).size<scanBound:=by rw[oH];have:=kI f t;show _<4096;omega
 unfold setAddHashed setAddHashedIn
 refine wpAny_holding (wpAny_bind (wpAny_setState_of ho rfl (mP _ _ _) ?_))
 dsimp only
 rw[byScan_of (x:=.bool b) rfl lt (elB (prog:=prog) (w:=w)),if_pos rfl]
 unfold setAddByScan
 refine wpAny_bind (wpAny_bind (wpAny_rule ?_))
 refine wpAny_bind (wpAny_setScan_of hk ho rfl (mP _ _ _) elB ?_)
 cases hr:(esB f t).toList.findIdx? (λe=>(jW prog w).is b e.2) with
 |some j=>
  dsimp only
  have hin:b∈usB f t:=Classical.byContradiction λz=>by rw[findB.mpr z]at hr;cases hr
  refine wpAny_pure (wpAny_pure ?_)
  have e:s={s with heap:=s.heap}:=by cases s;rfl
  rw[e]
  refine h false s.heap (Heap.SameBut.refl a s.heap) ?_
  rw[(inB hin).1,(inB hin).2]
  exact S
 |none=>
  dsimp only
  have hout:=findB.mp hr
  rw[show(jW prog w).hash b=iH b from rfl,zLa _ _ _ _ hout]
  dsimp only
  refine wpAny_bind (wpAny_pure ?_)
  rw[if_pos (show(cT (!byT w) (f || !b) (t || b)).plain=true from rfl)]
  refine wpAny_bind ?_
  rw[show hashByValue 8 (.bool b)=pure true from rfl]
  refine wpAny_pure ?_
  rw[if_pos rfl]
  refine wpAny_bind (wpAny_storeSet_of ho rfl ?_ (by rw[oH];have:=kI (f || !b) (t || b);exact Nat.le_trans this (by decide)))
  rw[zKi]
  have o1:=Heap.get?_update_self (Obj.putSet (esB (f || !b) (t || b)) (cT (!byT w) (f || !b) (t || b))) ho rfl
  exact wpAny_pure (wpAny_pure (h true _ (Heap.SameBut.update s.heap a _) ⟨ep+1,o1⟩))
end
end L2
namespace L2
open PySem PySem.Spec PyProof.Rows
def inF(bs:List Bool):Bool:=bs.any (!·)
def inT(bs:List Bool):Bool:=bs.any id
theorem zF9(bs:List Bool)(b:Bool):inF (bs++[b])=(inF bs || !b):=by simp[inF]
theorem zF8(bs:List Bool)(b:Bool):inT (bs++[b])=(inT bs || b):=by simp[inT]
section
variable{prog:Program}{w:World}{A:Around}{R:Result->Shared->Prop}{I:Addr}{fp wr:List Addr}{G:Array GenState->Array GenState->Prop}{n:Nat}{P:Nat->Value->Prop}{St:Nat->Shared->Prop}
theorem zF2(W:WalksS prog w A.in1 I fp wr G n P St)(S:Addr)(hf:S∉fp)(bs:List Bool)(hn:n=bs.length)(hv:∀i v,P i v->∃b,bs[i]?=some b/\v=.bool b):
  ∀(k i:Nat) (s:Shared),n-i=k->i<=n->St i s->SetBl w S (inF (bs.take i)) (inT (bs.take i)) s.heap ->
   (∀s',Moved (S::wr) G s s'->SetBl w S (inF bs) (inT bs) s'.heap->R (.ok (.ret .none)) s')->codeAny (model prog w) A (.builtin "set.update.loop" ⟨[.ref S,.ref I],[]⟩) R s:=by
 have nw:S∉wr:=λz=>hf (W.sub _ z)
 have sub:∀b∈wr,b∈S::wr:=λb z=>List.mem_cons_of_mem _ z
 intro k
 induction k with
 |zero=>
  intro i s hk hi st hS hR
  have e:i=n:=by omega
  subst e
  rw[hn,List.take_length]at hS
  refine codeAny_builtin F.entry_set_update_loop ?_
  rw[Around.under_plainId F.plain_set_update_loop _]
  show wpAny _ A.in1 (pyNext (.ref I) >>= _) _ _ s
  refine wpAny_bind (W.done s _ _ st λs' hm=>?_)
  show wpAny _ A.in1 (ret Value.none) _ _ s'
  exact wpAny_pure (hR s' (hm.mono sub) (hS.kept λo q=>hm.heap S _ nw q))
 |succ k ih=>
  intro i s hk hi st hS hR
  have lt:i<n:=by omega
  refine codeAny_builtin F.entry_set_update_loop ?_
  rw[Around.under_plainId F.plain_set_update_loop _]
  show wpAny _ A.in1 (pyNext (.ref I) >>= _) _ _ s
  refine wpAny_bind (W.item i s _ _ lt st λv s' hP st' hm=>?_)
  obtain⟨b,hb,rfl⟩:=hv i v hP
  have hS':SetBl w S (inF (bs.take i)) (inT (bs.take i)) s'.heap:=hS.kept λo q=>hm.heap S _ nw q
  show wpAny _ A.in1 (holding [Value.bool b] (setAdd S (.bool b)) >>= _) _ _ s'
  refine wpAny_bind (wpAny_holding ?_)
  unfold setAdd
  refine wpAny_holding (wpAny_bind ((jW prog w).pyHash (k:=b) (by show eW b (.bool b)=true;simp[eW]) ?_))
  refine zGp (s:={s' with toks:=s'.toks+1}) hS' λr h' sb S2=>?_
  have et:bs.take (i+1)=bs.take i++[b]:=by
   obtain⟨hi',rfl⟩:=List.getElem?_eq_some_iff.mp hb
   exact List.take_succ_eq_append_getElem hi'
  rw[<-zF9,<-zF8,<-et]at S2
  refine wpAny_pure ⟨plainId_quiet F.plain_set_update_loop _,ih (i+1) _ (by omega) lt (W.frame _ s' _ _ st' (Nat.le_succ _) λc hc o e=>?_) S2 λs'' hm'' S3=>?_⟩
  ·rw[sb.2 c (λz:c=S=>hf (by rw[<-z];exact hc))];exact e
  ·refine hR s'' (Moved.trans W.gtrans ((hm.mono sub).then_heap (Nat.le_succ _) λc o hc e=>?_) hm'') S3
   rw[sb.2 c (λz:c=S=>hc (by rw[z];exact List.mem_cons_self))];exact e
end
theorem zJi{vs:List Value}{bs:List Bool}(h:vs=bs.map Value.bool)(i:Nat)(v:Value)(e:vs[i]?=some v):∃b,bs[i]?=some b/\v=.bool b:=by
 subst h
 rw[List.getElem?_map]at e
 obtain⟨b,hb,rfl⟩:=Option.map_eq_some_iff.mp e
 exact⟨b,hb,rfl⟩
section
variable{prog:Program}{w:World}{A:Around}{E:Value->Shared->Prop}{s:Shared}
theorem zDm{l:Addr}{items:Array Value}{bs:List Bool}{Q:Value->Shared->Prop}(hh:A.handled=none)(hl:s.heap.IsList l items)(hi:items.toList=bs.map Value.bool)
  (h:∀(h':Heap) (tk:Nat),SetBl w s.heap.objs.size (inF bs) (inT bs) h'->(∀b o,b<s.heap.objs.size->s.heap.get? b=some o->h'.get? b=some o)->Q (.ref s.heap.objs.size) {s with heap:=h',toks:=tk}):
  wpAny (model prog w) A (call (.type "set") [.ref l]) Q E s:=by
 have hz:items.size=bs.length:=by have:=congrArg List.length hi;simpa using this
 obtain⟨c,tl,hmro⟩:=F.called_set.mro
 have hmade:=F.called_set.made
 have hsub:=F.called_set.sub
 refine wpAny_call (codeAny_of_tree ?_)
 show wpAny _ _ (callAny (.type "set") _) _ _ _
 refine wpAny_pure ⟨Code.quiet_builtin _ (by decide +kernel),codeAny_builtin F.entry_type_call ?_⟩
 rw[Around.under_plain (weight_type_call_type "set" [.ref l] []) rfl]
 have h1:=F.called_set.notType
 have h2:=F.called_set.canCreate
 have hct:=F.typeCall_set_1 (.ref l)
 repeat (any_goals (first|assumption|wp_step))
 refine codeAny_mono (yM (.ref l) (E:=E) (Q₁:=λobj s₁=>obj=.ref s.heap.objs.size/\s₁={s with heap:=s.heap.push (bS #[] 0 (.fresh 0 0 (!byT w)))}) ⟨rfl,rfl⟩) λr s₁ hr=>?_
 cases r with
 |error e=>exact hr
 |ok fl=>
  cases fl with
  |ret obj=>
   obtain⟨rfl,rfl⟩:=hr
   have hS:(s.heap.push (bS #[] 0 (.fresh 0 0 (!byT w)))).get? s.heap.objs.size=some (bS #[] 0 (.fresh 0 0 (!byT w))):=Heap.get?_push_size _ rfl
   have hT:Shared.TypeIs {s with heap:=s.heap.push (bS #[] 0 (.fresh 0 0 (!byT w)))} (.ref s.heap.objs.size) "set":=⟨_,hS,rfl⟩
   have hli:=F.called_set.init.lookup
   have hbi:=F.called_set.init.bind (.ref s.heap.objs.size)
   repeat (any_goals (first|assumption|wp_step))
   refine codeAny_mono (codeAny_call_builtin (R:=wants (λr s₂=>r=.none/\∃h' tk,s₂={s with heap:=h',toks:=tk}/\SetBl w s.heap.objs.size (inF bs) (inT bs) h' /\
     (∀b o,b<s.heap.objs.size->s.heap.get? b=some o->h'.get? b=some o)) E) F.called_set.init.plain F.entry_set_init (check_set_init_1 hT ?_)) λr₂ s₂ hr₂=>?_
   ·obtain⟨ol,hol,hcl,nl,hdl⟩:=hl
    obtain⟨ocls,odict,odata,oslots⟩:=ol
    simp only at hcl hdl
    subst hcl hdl
    have hol':(s.heap.push (bS #[] 0 (.fresh 0 0 (!byT w)))).get? l=some {cls:=.type "list",dict:=odict,data:=.seq items nl,slots:=oslots}:=Heap.get?_push_of_some _ hol
    have hsls:=F.sub_list_set
    have hslf:=F.sub_list_frozenset
    have hne:(Value.type "list"==Value.type "dict")=false:=by decide
    have hl1:(s.heap.push (bS #[] 0 (.fresh 0 0 (!byT w)))).IsList l items:=⟨_,hol',rfl,nl,rfl⟩
    unfold Builtin.«set.__init__» noKeywords Builtin.Frozenset.updateFrom
    generalize hPI:pyIter=PI
    wp_walk
    subst hPI
    refine wpAny_pyIter_list hl1 ?_
    refine wpAny_bind (wpAny_runValue ?_)
    have hlS:l<s.heap.objs.size:=Heap.lt_size hol
    have hh3:A.in1.in1.in1.handled=none:=by simp[hh]
    have neI:l≠(s.heap.push (bS #[] 0 (.fresh 0 0 (!byT w)))).objs.size:=by
     rw[Heap.size_push]
     exact Nat.ne_of_lt (Nat.lt_succ_of_lt hlS)
    have nf:s.heap.objs.size∉[(s.heap.push (bS #[] 0 (.fresh 0 0 (!byT w)))).objs.size,l]:=by
     rw[Heap.size_push]
     simp only[List.mem_cons,List.not_mem_nil,or_false,not_or]
     exact⟨Nat.ne_of_lt (Nat.lt_succ_self _),Nat.ne_of_gt hlS⟩
    refine zF2 ((Walks.list hh3 _ l neI items).toS) s.heap.objs.size nf bs hz (λi v hv=>zJi hi i v (by rw[Array.getElem?_toList];exact hv)) (items.size-0) 0 _ (by omega) (Nat.zero_le _)
     ⟨⟨_,Heap.get?_push_size _ rfl,rfl,rfl⟩,hl1.push _⟩ ?_ λs' hm S'=>?_
    ·exact⟨0,Heap.get?_push_of_some _ hS⟩
    ·obtain⟨h',g',d',tk',os'⟩:=s'
     have eg:g'=s.gens:=hm.gens
     have ed:d'=s.drawn:=hm.drawn
     have eo:os'=s.os:=hm.os
     subst eg ed eo
     show wpAny _ _ _ _ _ _
     refine wpAny_pure ?_
     show wpAny _ _ (ret Value.none) _ _ _
     refine wpAny_pure ⟨rfl,h',tk',rfl,S',λb o hb e=>?_⟩
     have hb2:b≠(s.heap.push (bS #[] 0 (.fresh 0 0 (!byT w)))).objs.size:=by
      rw[Heap.size_push]
      exact Nat.ne_of_lt (Nat.lt_succ_of_lt hb)
     exact hm.heap b o (by simp only[List.mem_cons,List.not_mem_nil,or_false,not_or];exact⟨Nat.ne_of_lt hb,hb2⟩) (Heap.get?_push_of_some _ (Heap.get?_push_of_some _ e))
   ·cases r₂ with
    |error e=>exact hr₂
    |ok fl₂=>
     cases fl₂ with
     |ret r=>
      obtain⟨rfl,h',tk,rfl,S',hk'⟩:=hr₂
      repeat (any_goals (first|assumption|wp_step))
      exact h _ _ S' hk'
     |_=>exact hr₂.elim
  |_=>exact hr.elim
end
end L2
namespace L2
open PySem PySem.Spec PyProof.Rows
def zKo(P:Nat->Value->Prop)(us:List Bool):Prop:=∀acc:Array Value,ItemsOf P acc us.length->∃bs:List Bool,acc.toList=bs.map Value.bool/\bs.Perm us
theorem yQ{vs:List Value}{us:List Bool}(h:vs.Perm (us.map Value.bool)):∃bs:List Bool,vs=bs.map Value.bool/\bs.Perm us:=by
 let g:Value->Bool:=λv=>match v with|.bool b=>b|_=>false
 refine⟨vs.map g,?_,?_⟩
 ·rw[List.map_map]
  conv=>lhs;rw[<-List.map_id vs]
  refine List.map_congr_left λv hv=>?_
  obtain⟨b,_,rfl⟩:=List.mem_map.mp (h.mem_iff.mp hv)
  rfl
 ·have:=h.map g
  rw[List.map_map]at this
  have e:us.map (g∘Value.bool)=us:=by
   conv=>rhs;rw[<-List.map_id us]
   exact List.map_congr_left λb _=>rfl
  rwa[e]at this
section
variable{prog:Program}{w:World}{A:Around}{E:Value->Shared->Prop}{s:Shared}{it a:Addr}{es:Array (Int×Value)}{ep:Nat}{t:SetTable}
theorem zHM(hh:A.handled=none)(hb:byT w=true)(fit:t.fits es.size=true)(it a:Addr)(ne:it≠a):
  WalksS prog w A it [it,a] [it] Eq es.size (λi v=>(pickOrder (w.params.setOrder a ep) es)[i]?.map (·.2)=some v)
   (λi s=>s.heap.get? it=some (itO (.int 0 0) i a es.size ep)/\s.heap.get? a=some (bS es ep t)) where
 sub:=λb hb=>by simp at hb;simp[hb]
 grefl:=λ_=>rfl
 gtrans:=λ_ _ _ x y=>x.trans y
 frame:=λi s h' tk st _ k=>⟨k it (by simp) _ st.1,k a (by simp) _ st.2⟩
 item:=λi s Q E hi st hQ=>by
  refine gL st.1 rfl (iN (slot:=0) st.1 st.2 fit rfl ?_)
  have sz:(pickOrder (w.params.setOrder a ep) es).size=es.size:=by have:=(kU (w.params.setOrder a ep) es).length_eq;simpa using this
  unfold setNext
  refine wpAny_bind (wpAny_setState_of st.2 rfl fit ?_)
  dsimp only
  refine wpAny_bind (fG ?_)
  rw[if_pos hb]
  simp only[bne_self_eq_false,Bool.false_eq_true,if_false]
  unfold setWalk
  refine wpAny_bind (wpAny_bind (wpAny_setState_of st.2 rfl fit ?_))
  dsimp only
  refine wpAny_bind (fG ?_)
  rw[if_pos hb]
  refine wpAny_bind (wpAny_askSetting (wpAny_pure ?_))
  refine wpAny_pure ?_
  have hlt:i<(pickOrder (w.params.setOrder a ep) es).size:=by rw[sz];exact hi
  show wpAny _ _ (match Option.map (λe=>(e.2,0)) (pickOrder (w.params.setOrder a ep) es)[i]? with
   |some (x,next)=>do
    setField (.ref it) 0 (rawInt (next:Nat))
    setField (.ref it) 1 (rawInt (i+1))
    ret x
   |none=>do setField (.ref it) 2 .none;raiseNew (<- newExc (.type "StopIteration") [])) _ _ _
  rw[Array.getElem?_eq_getElem hlt]
  dsimp only[Option.map_some]
  refine wpAny_bind (wpAny_setField_rec st.1 (by simp) λh1 g1 b1=>?_)
  refine wpAny_bind (wpAny_setField_rec g1 (by simp) λh2 g2 b2=>?_)
  refine wpAny_pure ⟨_,rfl,hQ _ _ (by rw[Array.getElem?_eq_getElem hlt];rfl) ⟨?_,?_⟩ ⟨?_,rfl,rfl,rfl,Nat.le_refl _⟩⟩
  ·rw[g2];rfl
  ·rw[b2.2 a ne.symm,b1.2 a ne.symm];exact st.2
  ·intro b o hb e
   have hb':b≠it:=by simpa using hb
   rw[b2.2 b hb',b1.2 b hb'];exact e
 done:=λs Q E st hQ=>by
  refine gL st.1 rfl (iN (slot:=0) st.1 st.2 fit rfl ?_)
  have sz:(pickOrder (w.params.setOrder a ep) es).size=es.size:=by have:=(kU (w.params.setOrder a ep) es).length_eq;simpa using this
  unfold setNext
  refine wpAny_bind (wpAny_setState_of st.2 rfl fit ?_)
  dsimp only
  refine wpAny_bind (fG ?_)
  rw[if_pos hb]
  simp only[bne_self_eq_false,Bool.false_eq_true,if_false]
  unfold setWalk
  refine wpAny_bind (wpAny_bind (wpAny_setState_of st.2 rfl fit ?_))
  dsimp only
  refine wpAny_bind (fG ?_)
  rw[if_pos hb]
  refine wpAny_bind (wpAny_askSetting (wpAny_pure ?_))
  refine wpAny_pure ?_
  show wpAny _ _ (match Option.map (λe=>(e.2,0)) (pickOrder (w.params.setOrder a ep) es)[es.size]? with
   |some (x,next)=>do
    setField (.ref it) 0 (rawInt (next:Nat))
    setField (.ref it) 1 (rawInt ((es.size:Int)+1))
    ret x
   |none=>do setField (.ref it) 2 .none;raiseNew (<- newExc (.type "StopIteration") [])) _ _ _
  rw[Array.getElem?_eq_none (show(pickOrder (w.params.setOrder a ep) es).size<=es.size by rw[sz];exact Nat.le_refl _)]
  dsimp only[Option.map_none]
  refine nB hh st.1 rfl (by simp) λe h' kp ty=>⟨ty,hQ _ ⟨λb o hb q=>kp b o (by simpa using hb) q,rfl,rfl,rfl,Nat.le_refl _⟩⟩
 self:=λi s Q E st hQ=>by
  have ht:s.TypeIs (.ref it) "set_iterator":=⟨_,st.1,rfl⟩
  refine wpAny_pyIter_slot ht gM (wpAny_call_entry gM ht nQ ?_ (nR _))
  show wpAny _ _ (ret (.ref it)) _ _ s
  exact wpAny_pure ⟨_,rfl,"set_iterator",_,ht,st_next.lookup,hQ⟩
end
section
variable{prog:Program}{w:World}{A:Around}{E:Value->Shared->Prop}{s:Shared}{it a:Addr}{ep:Nat}{f t:Bool}
theorem yF{slot i:Nat}{Q:Option (Value×Nat)->Shared->Prop}(hb:byT w=false)(ho:s.heap.get? a=some (bS (esB f t) ep (cT (!byT w) f t)))
  (h:Q (match (esB f t)[SetTable.below (cT true f t).place slot]?,(cT true f t).place[SetTable.below (cT true f t).place slot]? with
  |some (_,x),some j=>some (x,j+1)
  |_,_=>none) s):wpAny (model prog w) A (setNext a slot i ep) Q E s:=by
 unfold setNext
 refine wpAny_bind (wpAny_setState_of ho rfl (mP _ _ _) ?_)
 dsimp only
 refine wpAny_bind (fG ?_)
 rw[hb]
 simp only[Bool.false_eq_true,if_false,Bool.not_false]
 show wpAny _ _ (if (!(cT true f t).plain&&decide ((esB f t).size > 1))=true then _ else(do
  (if (!(cT true f t).led&&!(esB f t).isEmpty)=true then unsupported "set:maker-not-led" else pure ():Sem Unit)
  pure (match (esB f t)[SetTable.below (cT true f t).place slot]?,(cT true f t).place[SetTable.below (cT true f t).place slot]? with
   |some (_,x),some j=>some (x,j+1)
   |_,_=>none))) _ _ _
 rw[if_neg (by rw[show(cT true f t).plain=true from rfl];simp)]
 refine wpAny_bind ?_
 rw[if_neg (by rw[show(cT true f t).led=true from rfl];simp)]
 exact wpAny_pure (wpAny_pure h)
def iC(f t:Bool)(i:Nat):Nat:=if i=0 then 0 else((usB f t)[i-1]?.map λb=>(if b then 1 else 0)+1).getD 0
theorem zJ8{f t:Bool}{i:Nat}(hi:i<(usB f t).length):∃b,(usB f t)[i]?=some b/\(match (esB f t)[SetTable.below (cT true f t).place (iC f t i)]?,(cT true f t).place[SetTable.below (cT true f t).place (iC f t i)]? with
  |some (_,x),some j=>some (x,j+1)
  |_,_=>none)=some (Value.bool b,iC f t (i+1)):=by
 have h2:=kI f t
 have:i=0\/i=1:=by omega
 rcases this with e|e<;>subst e<;>cases f<;>cases t<;>first|exact⟨_,rfl,rfl⟩|exact absurd hi (by decide)
theorem zKc{f t:Bool}:(match (esB f t)[SetTable.below (cT true f t).place (iC f t (usB f t).length)]?,(cT true f t).place[SetTable.below (cT true f t).place (iC f t (usB f t).length)]? with
  |some (_,x),some j=>some (x,j+1)
  |_,_=>none)=(none:Option (Value×Nat)):=by cases f<;>cases t<;>rfl
theorem zHL(hh:A.handled=none)(hb:byT w=false)(it a:Addr)(ne:it≠a):
  WalksS prog w A it [it,a] [it] Eq (usB f t).length (λi v=>(usB f t)[i]?.map Value.bool=some v)
   (λi s=>s.heap.get? it=some (itO (.int ((iC f t i:Nat):Int) 0) i a (usB f t).length ep)/\s.heap.get? a=some (bS (esB f t) ep (cT (!byT w) f t))) where
 sub:=λb hb=>by simp at hb;simp[hb]
 grefl:=λ_=>rfl
 gtrans:=λ_ _ _ x y=>x.trans y
 frame:=λi s h' tk st _ k=>⟨k it (by simp) _ st.1,k a (by simp) _ st.2⟩
 item:=λi s Q E hi st hQ=>by
  obtain⟨b,e1,e2⟩:=zJ8 hi
  refine gL st.1 rfl (iN (slot:=iC f t i) st.1 st.2 (mP _ _ _) (oH f t) ?_)
  refine yF hb st.2 ?_
  rw[e2]
  show wpAny _ _ (do
    setField (.ref it) 0 (rawInt ((iC f t (i+1):Nat):Int))
    setField (.ref it) 1 (rawInt ((i:Nat)+1:Int))
    ret (Value.bool b)) _ _ _
  refine wpAny_bind (wpAny_setField_rec st.1 (by simp) λh1 g1 b1=>?_)
  refine wpAny_bind (wpAny_setField_rec g1 (by simp) λh2 g2 b2=>?_)
  refine wpAny_pure ⟨_,rfl,hQ _ _ (by rw[e1];rfl) ⟨?_,?_⟩ ⟨?_,rfl,rfl,rfl,Nat.le_refl _⟩⟩
  ·rw[g2];rfl
  ·rw[b2.2 a ne.symm,b1.2 a ne.symm];exact st.2
  ·intro b o hb e
   have hb':b≠it:=by simpa using hb
   rw[b2.2 b hb',b1.2 b hb'];exact e
 done:=λs Q E st hQ=>by
  refine gL st.1 rfl (iN (slot:=iC f t (usB f t).length) st.1 st.2 (mP _ _ _) (oH f t) ?_)
  refine yF hb st.2 ?_
  rw[zKc]
  dsimp only
  exact nB hh st.1 rfl (by simp) λe h' kp ty=>⟨ty,hQ _ ⟨λb o hb q=>kp b o (by simpa using hb) q,rfl,rfl,rfl,Nat.le_refl _⟩⟩
 self:=λi s Q E st hQ=>by
  have ht:s.TypeIs (.ref it) "set_iterator":=⟨_,st.1,rfl⟩
  refine wpAny_pyIter_slot ht gM (wpAny_call_entry gM ht nQ ?_ (nR _))
  show wpAny _ _ (ret (.ref it)) _ _ s
  exact wpAny_pure ⟨_,rfl,"set_iterator",_,ht,st_next.lookup,hQ⟩
end
section
variable{prog:Program}{w:World}{A:Around}{E:Value->Shared->Prop}{s:Shared}{a:Addr}{f t:Bool}
theorem zFj{Q:Value->Shared->Prop}(S:SetBl w a f t s.heap)
  (h:∀(it:Addr) (fp:List Addr) (P:Nat->Value->Prop) (St:Nat->Shared->Prop) (h':Heap) (d:Drawn),(∀A':Around,A'.handled=none->∃n,n=(usB f t).length/\WalksS prog w A' it fp [it] Eq n P St)->St 0 {s with heap:=h',drawn:=d}->zKo P (usB f t) ->
   (∀b∈fp,b=a\/s.heap.objs.size<=b)->s.heap.objs.size<=it->(∀b o,s.heap.get? b=some o->h'.get? b=some o)->Q (.ref it) {s with heap:=h',drawn:=d}):
  wpAny (model prog w) A (pyIter (.ref a)) Q E s:=by
 obtain⟨ep,ho⟩:=id S
 have alt:a<s.heap.objs.size:=Heap.lt_size ho
 have ht:s.TypeIs (.ref a) "set":=⟨_,ho,rfl⟩
 have fit:=mP (!byT w) f t
 have sz:=oH f t
 refine wpAny_pyIter_slot ht qF (wpAny_call_entry qF ht zBr ?_ (zBx _))
 unfold Builtin.«frozenset.__iter__» Builtin.Frozenset.slot0
 refine wpAny_bind (wpAny_bind (m:=slotArgs "__iter__" 0 ⟨[.ref a],[]⟩) (wpAny_pure ?_))
 show wpAny _ _ (pure a) _ _ s
 refine wpAny_pure ?_
 unfold Builtin.Frozenset.sizeOf
 refine wpAny_bind (wpAny_bind (pJ ho fit (wpAny_pure ?_)))
 unfold setDrawn
 refine wpAny_bind (wpAny_bind (wpAny_setState_of ho rfl fit ?_))
 dsimp only
 refine wpAny_bind (fG (wpAny_pure ?_))
 show wpAny _ _ (if (!byT w&&(!(cT (!byT w) f t).plain&&decide ((esB f t).size > 1)))=true then _ else _) _ _ s
 have fin:∀(first:Value) (h1:Heap) (d:Drawn) (St:Nat->Shared->Prop),(∀b o,s.heap.get? b=some o->h1.get? b=some o)->s.heap.objs.size<=h1.objs.size ->
   (∀s2:Shared,s2.heap.get? h1.objs.size=some (itO first 0 a (esB f t).size ep)->(∀b o,h1.get? b=some o->s2.heap.get? b=some o) ->
    Q (.ref h1.objs.size) {s with heap:=h1.push (itO first 0 a (esB f t).size ep),drawn:=d})->wpAny (model prog w) A.in1 (do
   ret (<- newFields "set_iterator" [first,rawInt 0,.ref a,rawInt (esB f t).size,rawInt (<- setEpoch a)])) (λfin s'=>∃v,fin=.done (.ret v)/\∃T' r,s'.TypeIs v T'/\typeLookup (.type T') "__next__"=pure (some r)/\Q v s') E {s with heap:=h1,drawn:=d}:=by
  intro first h1 d St k le q
  refine wpAny_bind (wpAny_setEpoch_of (k a _ ho) rfl fit ?_)
  refine wpAny_bind (wpAny_newObj_type ?_ (by size_fits))
  exact wpAny_pure ⟨_,rfl,"set_iterator",_,⟨_,Heap.get?_push_size _ rfl,rfl⟩,st_next.lookup,q {s with heap:=h1.push (itO first 0 a (esB f t).size ep)} (Heap.get?_push_size _ rfl) λb o e=>Heap.get?_push_of_some _ e⟩
 rw[if_neg (by rw[show(cT (!byT w) f t).plain=true from rfl];simp)]
 refine wpAny_bind (wpAny_pure ?_)
 have nea:s.heap.objs.size≠a:=Nat.ne_of_gt alt
 refine fin (.int 0 0) s.heap s.drawn (λ_ _=>True) (λ_ _ e=>e) (Nat.le_refl _) λs2 g k=>?_
 have mem:∀b∈[s.heap.objs.size,a],b=a\/s.heap.objs.size<=b:=λb m=>by
  simp only[List.mem_cons,List.not_mem_nil,or_false]at m
  rcases m with m|m
  ·exact .inr (by rw[m];exact Nat.le_refl _)
  ·exact .inl m
 cases hb:byT w with
 |true=>
  have hp:=kU (w.params.setOrder a ep) (esB f t)
  refine h s.heap.objs.size [s.heap.objs.size,a] _ _ _ _ (λA' hA=>⟨(esB f t).size,sz,zHM (ep:=ep) hA hb fit _ a nea⟩) ⟨Heap.get?_push_size _ rfl,Heap.get?_push_of_some _ ho⟩ ?_ mem (Nat.le_refl _) λb o e=>Heap.get?_push_of_some _ e
  intro acc ⟨h1,h2⟩
  have e:acc.toList=(pickOrder (w.params.setOrder a ep) (esB f t)).toList.map (·.2):=by
   have lp:(pickOrder (w.params.setOrder a ep) (esB f t)).toList.length=(usB f t).length:=by rw[hp.length_eq,Array.length_toList,sz]
   apply List.ext_getElem?
   intro i
   by_cases hi:i<acc.size
   ·rw[List.getElem?_map,Array.getElem?_toList,Array.getElem?_toList]
    have:=h2 i acc[i] (Array.getElem?_eq_getElem hi)
    rw[this,Array.getElem?_eq_getElem hi]
   ·rw[Array.getElem?_toList,Array.getElem?_eq_none (by omega),List.getElem?_eq_none (by rw[List.length_map,lp];omega)]
  have pm:acc.toList.Perm ((usB f t).map Value.bool):=by
   rw[e]
   have:=hp.map (·.2)
   have q:(esB f t).toList.map (·.2)=(usB f t).map Value.bool:=by simp[esB,Function.comp_def]
   rwa[q]at this
  exact yQ pm
 |false=>
  refine h s.heap.objs.size [s.heap.objs.size,a] _ _ _ _ (λA' hA=>⟨(usB f t).length,rfl,zHL (ep:=ep) (f:=f) (t:=t) hA hb _ a nea⟩) ⟨?_,Heap.get?_push_of_some _ ho⟩ ?_ mem (Nat.le_refl _) λb o e=>Heap.get?_push_of_some _ e
  ·rw[<-sz];exact Heap.get?_push_size _ rfl
  intro acc ⟨h1,h2⟩
  refine⟨usB f t,?_,.refl _⟩
  apply List.ext_getElem?
  intro i
  by_cases hi:i<acc.size
  ·have:=h2 i acc[i] (Array.getElem?_eq_getElem hi)
   rw[Array.getElem?_toList,Array.getElem?_eq_getElem hi,<-this]
   rw[List.getElem?_map]
  ·rw[Array.getElem?_toList,Array.getElem?_eq_none (by omega),List.getElem?_eq_none (by rw[List.length_map];omega)]
theorem zDo{Q:List Value->Shared->Prop}(hh:A.handled=none)(S:SetBl w a f t s.heap)
  (hQ:∀h' d tk (acc:List Value) (bs:List Bool),acc=bs.map Value.bool->bs.Perm (usB f t)->s.heap.objs.size<h'.objs.size->(∀b o,s.heap.get? b=some o->h'.get? b=some o)->Q acc {s with heap:=h',drawn:=d,toks:=tk}):
  wpAny (model prog w) A (collect (.ref a)) Q E s:=by
 have hl:(usB f t).length<=sizeLine:=Nat.le_trans (kI f t) (by decide)
 have alt:a<s.heap.objs.size:=by
  obtain⟨ep,ho⟩:=id S
  exact Heap.lt_size ho
 unfold collect
 refine wpAny_bind (wpAny_runValue (codeAny_builtin F.entry_proto_collect ?_))
 rw[Around.under_plainId F.plain_proto_collect _]
 show wpAny _ A.in1 (newList [] >>= λl=>again (.builtin "list.__iadd__" ⟨[l,.ref a],[]⟩)) _ _ s
 refine wpAny_bind (wpAny_newObj_type ?_ (by size_fits))
 refine wpAny_pure ⟨plainId_quiet F.plain_list_iadd _,codeAny_builtin F.entry_list_iadd ?_⟩
 rw[Around.under_plainId F.plain_list_iadd _]
 show wpAny _ A.in1 (Builtin.List.listExtendWith (.ref s.heap.objs.size) (.ref a) (.ref s.heap.objs.size)) _ _ _
 unfold Builtin.List.listExtendWith
 have S1:SetBl w a f t (s.heap.push {cls:=.type "list",data:=.seq ([]:List Value).toArray}):=S.kept λo e=>Heap.get?_push_of_some _ e
 have ht:Shared.TypeIs {s with heap:=s.heap.push {cls:=.type "list",data:=.seq ([]:List Value).toArray}} (.ref a) "set":=by
  obtain⟨ep,ho⟩:=id S1
  exact⟨_,ho,rfl⟩
 refine wpAny_bind (wpAny_typeOf ht ?_)
 have h1:Builtin.List.listSameRef (.ref s.heap.objs.size) (.ref a)=false:=by simp[Builtin.List.listSameRef];exact Nat.ne_of_gt alt
 have h2:(Value.type "set"==Value.type "list")=false:=by decide
 have h3:(Value.type "set"==Value.type "tuple")=false:=by decide
 simp only[h1,h2,h3,Bool.or_false,Bool.false_eq_true,if_false]
 refine wpAny_bind (zFj S1 λit fp P St h' d W st0 td hfp hit kp=>?_)
 have ht':Shared.TypeIs {s with heap:=h',drawn:=d} (.ref a) "set":=by
  obtain⟨o,e,c⟩:=ht
  exact⟨o,kp _ _ e,c⟩
 refine wpAny_bind (wpAny_holding (zAG ht' ?_))
 have hA:A.in1.in1.handled=none:=by simp[hh]
 obtain⟨n,hn,W⟩:=W A.in1 (by simp[hh])
 subst hn
 refine wpAny_ite ?_
 rw[if_pos (by decide +kernel)]
 refine wpAny_bind (wpAny_rule ?_)
 have sz1:(s.heap.push {cls:=.type "list",data:=.seq ([]:List Value).toArray}).objs.size=s.heap.objs.size+1:=Heap.size_push ..
 have g0:h'.get? s.heap.objs.size=some {cls:=.type "list",data:=.seq ([]:List Value).toArray}:=kp _ _ (Heap.get?_push_size _ rfl)
 have nf:s.heap.objs.size∉fp:=λm=>by
  rcases hfp _ m with z|z
  ·exact absurd z (Nat.ne_of_gt alt)
  ·rw[sz1]at z;omega
 refine wpAny_bind ?_
 show wpAny _ A.in1 (updateSeq s.heap.objs.size (·.push .none) >>= λ_=>updateSeq s.heap.objs.size (·.pop)) _ _ _
 refine wpAny_bind (wpAny_updateSeq g0 rfl ?_)
 have g1:=Heap.get?_update_self (Obj.mapSeq (·.push Value.none)) g0 rfl
 refine wpAny_updateSeq g1 rfl ?_
 have g2:=Heap.get?_update_self (Obj.mapSeq (·.pop)) g1 rfl
 have oth:∀b o,b≠s.heap.objs.size->h'.get? b=some o->((h'.update s.heap.objs.size (Obj.mapSeq (·.push Value.none))).update s.heap.objs.size (Obj.mapSeq (·.pop))).get? b=some o:=
  λb o hb e=>(Heap.get?_update_other _ _ (Ne.symm hb)).trans ((Heap.get?_update_other _ _ (Ne.symm hb)).trans e)
 refine wpAny_pure ⟨plainId_quiet F.plain_extend_loop _,codeAny_extend_loopS W hl _ nf _ (usB f t).length 0 _ _ _ rfl (Nat.zero_le _)
  (W.frame 0 {s with heap:=h',drawn:=d} _ s.toks st0 (Nat.le_refl _) λb hb o e=>oth b o (λz=>nf (z▸hb)) e) g2 (ItemsOf.nil P) λs' acc' c' hm g' hacc=>?_⟩
 show wpAny _ A (load s.heap.objs.size >>= _) _ _ s'
 refine wpAny_bind (wpAny_load g' ?_)
 obtain⟨vs,hs,hp⟩:=td acc' hacc
 obtain⟨h'',g'',d'',tk'',os''⟩:=s'
 have e1:g''=s.gens:=hm.gens.symm
 have e2:os''=s.os:=hm.os
 subst e1 e2
 refine wpAny_pure (hQ h'' d'' tk'' acc'.toList vs hs hp (Heap.lt_size g') λb o e=>hm.heap b o (λm=>?_) (oth b o (Nat.ne_of_lt (Heap.lt_size e)) (kp b o (Heap.get?_push_of_some _ e))))
 have lt:=Heap.lt_size e
 simp only[List.mem_cons,List.not_mem_nil,or_false]at m
 rcases m with m|m
 ·rw[m]at lt;exact Nat.lt_irrefl _ lt
 ·rw[m]at lt;rw[sz1]at hit;exact absurd lt (Nat.not_lt.mpr (Nat.le_of_succ_le hit))
end
end L2
namespace L2
open PySem PySem.Spec PyProof.Rows
@[reducible] def sortB:PyProof.Rows.KeyKind where
 α:=Bool
 blt a b:=!a&&b
 irrefl a:=by cases a<;>rfl
 trans a b c h1 h2:=by cases a<;>cases b<;>cases c<;>simp_all
 negTrans a b c h:=by cases a<;>cases b<;>cases c<;>simp_all
 total a b h1 h2:=by cases a<;>cases b<;>simp_all
 keyOf v:=match v with|.bool b=>some b|_=>none
 dflt:=false
section
variable{prog:Program}{w:World}{A:Around}{E:Value->Shared->Prop}{s:Shared}
theorem zDX{a b:Bool}{Q:Bool->Shared->Prop}(h:Q (!a&&b) s):wpAny (model prog w) A (oneLt' true (.bool a) (.bool b)) Q E s:=by
 rw[oneLt'_eq]
 simp only[if_true]
 refine wpAny_bind (wpAny_cRoomFor_byValue rfl ?_)
 refine wpAny_bind (wpAny_callSpecialIfBound?_slot (typeIs_bool' s a) F.slot_bool_lt ?_)
 refine call_gives F.slot_bool_lt (typeIs_bool' s a) F.entry_int_lt (F.args_int_lt_2 _ _) (gives_int_lt_bools a b) ?_
 have e:decide (b2i a<b2i b)=(!a&&b):=by cases a<;>cases b<;>rfl
 show wpAny _ _ (truthOfDropped (.bool (decide (b2i a<b2i b)))) _ _ _
 rw[e]
 exact wpAny_truthy_bool h
end
theorem zDs:sortB.OneLt:=by
 intro prog w A E s x y a b Q ha hb h
 cases x<;>simp only[sortB,reduceCtorEq,Option.some.injEq]at ha
 cases y<;>simp only[sortB,reduceCtorEq,Option.some.injEq]at hb
 cases ha;cases hb
 exact zDX h
theorem xW:∀(bs:List Bool),(bs.map Value.bool).mapM firstOfTuple'=pure ((bs.map Value.bool).map λ_=>none)
 |[]=>by simp
 |b::bs=>by rw[List.map_cons,List.mapM_cons,show firstOfTuple' (.bool b)=pure none from rfl,xW bs];simp
theorem xX:∀(bs:List Bool),(bs.map Value.bool).mapM typeOf=pure ((bs.map Value.bool).map λ_=>Value.type "bool")
 |[]=>by simp
 |b::bs=>by
  rw[List.map_cons,List.mapM_cons,xX bs]
  show(pure (Value.type "bool") >>= λb=>pure _ >>= λbs=>pure (b::bs))=_
  simp
theorem zDA{b c:Bool}{bs:List Bool}:keyKind' (((b::c::bs).map Value.bool).toArray)=pure oneType':=by
 rw[keyKind'_eq,List.mapM_toArray,xW]
 simp only[map_pure,pure_bind]
 rw[if_neg (by simp),if_neg (by simp)]
 rw[oneTypeOnly'_eq,List.mapM_toArray,xX]
 simp only[map_pure,pure_bind]
 have hall:((List.map (λ_=>Value.type "bool") ((b::c::bs).map Value.bool)).toArray.all λx=>x==Value.type "bool")=true:=by
  simp only[List.all_toArray,List.all_map,List.all_eq_true]
  intro _ _
  rfl
 have h0:(List.map (λ_=>Value.type "bool") ((b::c::bs).map Value.bool)).toArray[0]?=some (Value.type "bool"):=by simp
 rw[h0]
 simp only[hall,if_true,pure_bind,Option.isSome_some]
theorem zFS{f t:Bool}{bs:List Bool}(h:bs.Perm (usB f t))(s:∀i j:Nat,i<=j->∀a b,bs[i]?=some a->bs[j]?=some b->(!b&&a)=false):bs=usB f t:=by
 cases f<;>cases t
 ·exact List.perm_nil.mp h
 ·exact List.perm_singleton.mp h
 ·exact List.perm_singleton.mp h
 ·have l:bs.length=2:=h.length_eq
  match bs,l with
  |[a,b],_=>
   have:=s 0 1 (by decide) a b rfl rfl
   cases a<;>cases b
   ·exact absurd (h.mem_iff (a:=true)) (by simp[usB])
   ·rfl
   ·cases this
   ·exact absurd (h.mem_iff (a:=false)) (by simp[usB])
section
variable{prog:Program}{w:World}{A:Around}{E:Value->Shared->Prop}{s:Shared}{a:Addr}{f t:Bool}
theorem zDG{Q:Value->Shared->Prop}(hh:A.handled=none)(S:SetBl w a f t s.heap)
  (h:∀h' d tk (l:Addr) (e:Nat),h'.get? l=some (seqObj "list" ((usB f t).map Value.bool).toArray e)->s.heap.objs.size<=l->(∀b o,s.heap.get? b=some o->h'.get? b=some o) ->
   Q (.ref l) {s with heap:=h',drawn:=d,toks:=tk}):wpAny (model prog w) A (call (.builtin "sorted") [.ref a]) Q E s:=by
 refine Calls.call_function_entry kind_sorted plain_sorted entry_sorted (args_sorted1 _) ?_
 unfold Builtin.«sorted»
 refine wpAny_bind (m:=checkCount "sorted" 1 1 _) (wpAny_pure ?_)
 refine wpAny_bind (zDo (by simp[hh]) S λh1 d tk acc bs hs hp le kp=>?_)
 subst hs
 have hlen:(bs.map Value.bool).length<64:=by rw[List.length_map,hp.length_eq];have:=kI f t;omega
 refine wpAny_bind (wpAny_newList ?_ (Nat.le_of_lt (Nat.lt_trans hlen (by decide))))
 have hoL:(h1.push (seqObj "list" (bs.map Value.bool).toArray 0)).get? h1.objs.size=some (seqObj "list" (bs.map Value.bool).toArray 0):=Heap.get?_push_size _ rfl
 have hko:KeysOf sortB (pairsOf (bs.map Value.bool)):=by
  intro p hp
  rw[pairsOf_toList]at hp
  obtain⟨b,_,e⟩:=List.mem_map.mp (mem_zip_self hp).2
  exact⟨b,by rw[<-e]⟩
 refine wpAny_bind (wpAny_holding (wpAny_call_entry slot_list_sort ⟨_,hoL,rfl⟩ entry_list_sort (list_sort_treeK zDs hoL hko (λv₁ v₂ rest e=>?_) hlen λst' a1 a2=>⟨_,rfl,?_⟩) (args_list_sort _)))
 ·match bs,e with
  |b::c::bs,e=>rw[<-e];exact zDA
 have hl:(arrOf st').toList.Perm ((bs.map Value.bool).zip (bs.map Value.bool)):=by rw[<-pairsOf_toList];exact Array.perm_iff_toList_perm.mp a1
 have hmem:∀p,p∈(arrOf st').toList->p.1=p.2/\p.1∈bs.map Value.bool:=λp hp'=>mem_zip_self (hl.mem_iff.mp hp')
 have pm:((arrOf st').map (·.2)).toList.Perm ((usB f t).map Value.bool):=by
  rw[Array.toList_map]
  have:=hl.map (·.2)
  rw[List.map_snd_zip (Nat.le_refl _)]at this
  exact this.trans (hp.map _)
 obtain⟨cs,e1,e2⟩:=yQ pm
 have e3:cs=usB f t:=zFS e2 λi j hij x y hx hy=>by
  have kk:∀(i:Nat) (x:Bool),cs[i]?=some x->KK sortB (arrOf st') i=x/\i<(arrOf st').size:=λi x hx=>by
   have hv:((arrOf st').map (·.2)).toList[i]?=some (.bool x):=by rw[e1,List.getElem?_map,hx];rfl
   rw[Array.toList_map,List.getElem?_map]at hv
   obtain⟨p,hp1,hp2⟩:=Option.map_eq_some_iff.mp hv
   have hm:=hmem p (List.mem_of_getElem? hp1)
   rw[Array.getElem?_toList]at hp1
   refine⟨?_,(Array.getElem?_eq_some_iff.mp hp1).1⟩
   unfold KK
   rw[hp1]
   show(sortB.keyOf p.1).getD false=x
   rw[hm.1,hp2]
   rfl
  have hi:=kk i x hx
  have hj:=kk j y hy
  have:=a2 i j hij (by rw[<-a1.size_eq];exact hj.2)
  rw[hi.1,hj.1]at this
  exact this
 subst e3
 obtain⟨e,he⟩:=sortedHeap_at (out:=(arrOf st').map (·.2)) hoL
 refine wpAny_pure ⟨_,rfl,h _ _ _ _ e (by rw[<-e1,Array.toArray_toList];exact he) (Nat.le_of_lt le) λb o q=>?_⟩
 have lt:=Heap.lt_size (kp b o q)
 rw[sortedHeap_old (Nat.ne_of_lt lt) (by rw[Heap.size_push];exact Nat.lt_succ_of_lt lt)]
 exact Heap.get?_push_of_some _ (kp b o q)
end
end L2
namespace L2
open PySem PySem.Spec PyProof.Rows WordM
def rD(w:World)(a:Addr)(f t:Bool):HO:=.ext (SetBl w a f t)
section
variable{X:Cx}{F:Fm}
def zJP(w:World)(K:W.Frag):List V->Hp->VK->Prop:=λxs H Q=>∃(p:Addr) (bs:List Bool),xs=[.ref p]/\SqL K H p (bs.map V.bl)/\∀a:Addr,H a=none->Q (.ref a) (upd H a (rD w a (inF bs) (inT bs)))
theorem zJh{bs:List Bool}:∀{vs:List Value},Vals (bs.map V.bl) vs->vs=bs.map Value.bool:=by
 induction bs with
 |nil=>intro vs h;cases h;rfl
 |cons b bs ih=>
  intro vs h
  cases h with
  |cons r t=>
   rw[List.map_cons,<-ih t]
   have:_=Value.bool b:=r
   rw[this]
theorem zFa(hc:X.calm=true):CallR X (.type "set") (zJP X.w X.K):=by
 intro pins s σ H xs us Q I r h
 obtain⟨p,bs,rfl,hq,q⟩:=h
 obtain⟨u,rfl,rx⟩:=cJ r
 cases rx
 obtain⟨its,rv,pl,hz'⟩:=I.list hq
 refine zDm (I.ok.hd hc) pl.isList (bs:=bs) (zJh rv) λh' tk S k=>?_
 refine⟨.ref s.heap.objs.size,_,I.laid (t':=tk) (o:=rD X.w s.heap.objs.size (inF bs) (inT bs)) (λb o e=>k b o (Heap.lt_size e) e) (Nat.le_refl _) ⟨S,?_,λh1 h2 z k'=>z.kept k'⟩,rfl,q _ I.fresh⟩
 obtain⟨ep,e⟩:=S
 exact⟨_,e⟩
def zGP(w:World):List V->Hp->VK->Prop:=λxs H Q=>∃(a:Addr) (f t:Bool),xs=[.ref a]/\H a=some (rD w a f t)/\∀l:Addr,H l=none->Q (.ref l) (upd H l (.lst ((usB f t).map V.bl)))
theorem yN:∀(bs:List Bool),Vals (bs.map V.bl) (bs.map Value.bool)
 |[]=>.nil
 |b::bs=>.cons rfl (yN bs)
theorem zDf(hc:X.calm=true):CallR X (.builtin "sorted") (zGP X.w):=by
 intro pins s σ H xs us Q I r h
 obtain⟨a,f,t,rfl,hq,q⟩:=h
 obtain⟨u,rfl,rx⟩:=cJ r
 cases rx
 have S:SetBl X.w a f t s.heap:=(I.hok a _ hq).1
 refine zDG (I.ok.hd hc) S λh' d tk l e hl le k=>?_
 refine⟨.ref l,_,(I.laid (t':=tk) (o:=.lst ((usB f t).map V.bl)) k le ⟨?_,_,e,yN _,hl⟩).draw d,rfl,q l (I.hok.fresh le)⟩
 rw[List.length_map]
 exact Nat.le_trans (kI f t) (by decide)
variable{pos:Pos}
def zEm(u:UT):UTl:=λρ Q=>u ρ λT ρ1=>∃bs:List Bool,T=.seq false (bs.map bT)/\Q ((usB (inF bs) (inT bs)).map bT) ρ1
theorem zDq{e:Expr}{u:UT}{p p' pos':Pos}(hc:X.calm=true)(hg:Gl X "sorted")(hm:X.mg "sorted"=none)(hg':Gl X "set")(hm':X.mg "set"=none)(he:UE X F e u)(hst:dZ e=false:=by rfl)
  (hpl:(backTo pos (starEach [] X.env)).any (·.1)=false:=by rfl) (hpl':(backTo pos' (starEach [] X.env)).any (·.1)=false:=by rfl):
  UL X F (.Call (.Name "sorted" p) [.Call (.Name "set" p') [e] [] pos'] [] pos) (zEm u):=⟨PE.imp (jL (zDf hc) hg hm boot_sorted (dA (iP (zFa hc) hg' hm' L2.boot_set (dA he.pe dS hst) (by decide) (by decide) (kT hst) hpl') dS rfl) (by decide) (by decide) rfl hpl) λσ H QQ ⟨ρ,Q,f,h,k⟩=>by
 refine⟨ρ,_,f,h,λx T H1 ρ1 s1 v1 q1=>?_⟩
 obtain⟨bs,rfl,q⟩:=q1
 obtain⟨a,ys,rfl,hs,z,p⟩:=v1.seqI
 rw[uU p]at hs
 refine⟨a,bs,rfl,cD hs,λb nb=>⟨b,_,_,rfl,bE,λc nc=>?_⟩⟩
 have sm:=(cL (o:=rD X.w b (inF bs) (inT bs)) nb).trans (cL (o:=.lst ((usB (inF bs) (inT bs)).map V.bl)) nc)
 exact k _ _ _ _ _ (s1.trans (Stp.same s1.fr sm)) (s1.non ((cL nb).free nc)) bE (by rw[List.length_map];have:=kI (inF bs) (inT bs);omega) (zBA _) q⟩
def zIi:List V->Hp->VK->Prop:=λxs H Q=>∃(a:Addr) (ob:Obj) (kvs:List (Key×V)) (us:List Str),xs=[.ref a]/\FzD H a ob kvs/\kvs.map (·.1)=us.map Sum.inr/\∀l:Addr,H l=none->Q (.ref l) (upd H l (.lst (us.map V.str)))
theorem zEc(hc:X.calm=true):CallR X (.type "list") zIi:=by
 intro pins s σ H xs us Q I r h
 obtain⟨a,ob,kvs,uu,rfl,hz,hk,q⟩:=h
 obtain⟨u,rfl,rx⟩:=cJ r
 cases rx
 obtain⟨e,hs,hl,vs,es,ep,rr,dd,hd⟩:=jR I hz
 have hkv:vs.map (·.1)=uu.map Sum.inr:=by rw[<-vN rr];exact hk
 have hlen:vs.length=uu.length:=by have:=congrArg List.length hkv;simpa using this
 have lv:vs.length=kvs.length:=(jV rr).symm
 refine PySem.W.kdl_call (PySem.W.kdl_dict (knd:=bW X.prog X.w) (kvs:=vs) (ep:=ep) hs) (I.ok.hd hc) dd (by omega) λh' tk acc c k hl' ha=>?_
 refine⟨.ref _,_,I.laid (t':=tk) (o:=.lst (uu.map V.str)) k (Nat.le_refl _) ⟨by rw[List.length_map];omega,acc.toList,c,pE (yB hkv ha),by rw[Array.toArray_toList];exact hl'⟩,rfl,q _ I.fresh⟩
def zIK:List Tv->(List Tv->Prop)->Prop:=λTs Q=>∃kts,Ts=[.dct kts]/\Q (kts.map λkt=>sT kt.1)
theorem zFK(hc:X.calm=true):nS X (.type "list") zIK:=⟨_,zEc hc,λxs Ts H Q QQ vx h k=>by
 obtain⟨kts,rfl,q⟩:=h
 obtain⟨x,rfl,v⟩:=cX vx
 obtain⟨a,kvs,rfl,⟨ob,hd⟩,nd,z,p⟩:=v.dctI
 refine⟨a,ob,kvs,kts.map (·.1),rfl,hd,uI p,λb n=>?_⟩
 have e:(kts.map λkt=>sT kt.1)=(kts.map (·.1)).map sT:=by rw[List.map_map];rfl
 rw[e]at q
 exact k b _ _ _ (cL n) n bE (by rw[List.length_map,List.length_map];omega) (nF _) q⟩
def oO(d v:Addr):HO:=.ext λh=>h.IsValuesView v d
def zJB(tl:TE):TE:=λσ H Q=>tl σ H λx H1=>∃a ob kvs,x=.ref a/\FzD H1 a ob kvs/\∀p,H1 p=none->Q (.ref p) (upd H1 p (oO a p))
theorem zG2{o:Expr}{tl:TE}{apos pos:Pos}(hl:PE X o tl)(hbase:attributeBase o "values" X.env (eval o X.env)=eval o X.env:=by rfl)(hline:(apos.endLine==pos.line)=true:=by rfl):
  PE X (.Call (.Attribute o "values" apos) [] [] pos) (zJB tl):=by
 intro pins s σ H Q I h
 refine wpAny_Call_method (T:="dict") (id:="dict.values") hbase rfl hline F.plainAttrs_dict F.slot_dict_values F.type_dict_values (thn (hl pins s σ H _ I h) λv s1 ⟨x,H1,I1,r1,q1⟩=>?_)
 obtain⟨a,ob,kvs,e,hz,q⟩:=q1
 subst e
 cases r1
 obtain⟨e,hs,hl,vs,es,ep,r,dd,hd⟩:=jR I1 hz
 have hm:=dd.dictOf
 refine⟨hm.typeIs,hm.mapOf.noDict,?_⟩
 show wpAny _ _ (callWith pos (.builtin "dict.values") [.ref a] [] []) _ _ s1
 refine method_meetsIn F.slot_dict_values F.entry_dict_values rfl (PySem.evalArgs_none ⟨rfl,hm.typeIs,F.args_dict_values_1 _,_,meets_dict_values (bW X.prog X.w) a hs,⟨vs,hm⟩,?_⟩)
 refine⟨.ref _,_,I1.laid (t':=s1.toks) (o:=oO a s1.heap.objs.size) (λb o e=>Heap.get?_push_of_some _ e) (Nat.le_refl _) ⟨⟨_,Heap.get?_push_size _ rfl,rfl,rfl⟩,⟨_,Heap.get?_push_size _ rfl⟩,?_⟩,rfl,q _ I1.fresh⟩
 rintro h1 h2 ⟨o,e,c⟩ k
 exact⟨o,k o e,c⟩
theorem zAK:∀{kvs:List (Key×V)}{vs:List (Key×Value)},KV kvs vs->Vals (kvs.map (·.2)) (vs.map (·.2))
 |[],_,.nil=>.nil
 |_::_,_,.cons r rs=>.cons r.2 (zAK rs)
def zIg:List V->Hp->VK->Prop:=λxs H Q=>∃(v a:Addr) (ob:Obj) (kvs:List (Key×V)),xs=[.ref v]/\H v=some (oO a v)/\FzD H a ob kvs/\∀l:Addr,H l=none->Q (.ref l) (upd H l (.lst (kvs.map (·.2))))
theorem zEa(hc:X.calm=true):CallR X (.type "list") zIg:=by
 intro pins s σ H xs us Q I r h
 obtain⟨v,a,ob,kvs,rfl,hv,hz,q⟩:=h
 obtain⟨u,rfl,rx⟩:=cJ r
 cases rx
 obtain⟨e,hs,hl,vs,es,ep,rr,dd,hd⟩:=jR I hz
 obtain⟨hvv,_⟩:=(show ObjOk X.prog X.w H s.heap v (oO a v) from I.hok v _ hv)
 have lv:vs.length=kvs.length:=(jV rr).symm
 refine PySem.W.kdl_call (PySem.W.kdl_values (knd:=bW X.prog X.w) (r:=v) (d:=a) (kvs:=vs) (ep:=ep)) (I.ok.hd hc) ⟨hvv,dd⟩ (by omega) λh' tk acc c k hl' ha=>?_
 have ev:acc.toList=vs.map (·.2):=PySem.W.kdl_vals_eq acc.toList (by rw[Array.length_toList];exact ha.1) λj v e=>ha.2 j v (by rw[<-Array.getElem?_toList];exact e)
 refine⟨.ref _,_,I.laid (t':=tk) (o:=.lst (kvs.map (·.2))) k (Nat.le_refl _) ⟨by rw[List.length_map];omega,acc.toList,c,by rw[ev];exact zAK rr,by rw[Array.toArray_toList];exact hl'⟩,rfl,q _ I.fresh⟩
theorem zFn{K:W.Frag}{H:Hp}{kvs:List (Key×V)}{kts:List (Str×Tv)}(p:VAk K H kvs kts):VAs K H (kvs.map (·.2)) (kts.map (·.2)):=by
 unfold VAk at p
 induction p with
 |nil=>exact .nil
 |cons r _ ih=>exact .cons r.2 ih
def zHW(u:UT):UTl:=λρ Q=>u ρ λT ρ1=>∃kts,T=.dct kts/\Q (kts.map (·.2)) ρ1
theorem zFq{e:Expr}{u:UT}{p apos cpos:Pos}(hc:X.calm=true)(hg:Gl X "list")(hm:X.mg "list"=none)(he:UE X F e u)
  (hbase:attributeBase e "values" X.env (eval e X.env)=eval e X.env:=by rfl) (hline:(apos.endLine==cpos.line)=true:=by rfl) (hpl:(backTo pos (starEach [] X.env)).any (·.1)=false:=by rfl):
  UL X F (.Call (.Name "list" p) [.Call (.Attribute e "values" apos) [] [] cpos] [] pos) (zHW u):=⟨PE.imp (iP (zEa hc) hg hm boot_list (dA (zG2 he.pe hbase hline) dS rfl) (by decide) (by decide) rfl hpl) λσ H QQ ⟨ρ,Q,f,h,k⟩=>by
 refine⟨ρ,_,f,h,λx T H1 ρ1 s1 v1 q1=>?_⟩
 obtain⟨kts,rfl,q⟩:=q1
 obtain⟨a,kvs,rfl,⟨ob,hd⟩,nd,z,p⟩:=v1.dctI
 refine⟨a,ob,kvs,rfl,hd,λb nb=>⟨b,a,ob,kvs,rfl,bE,?_,λc nc=>?_⟩⟩
 ·exact(cL nb) _ _ hd
 have sm:=(cL (o:=oO a b) nb).trans (cL (o:=.lst (kvs.map (·.2))) nc)
 have lk:kvs.length=kts.length:=Paired.length p
 exact k _ _ _ _ _ (s1.trans (Stp.same s1.fr sm)) (s1.non ((cL nb).free nc)) bE (by rw[List.length_map];omega) (VAs.hs ((gR nb).trans (gR nc)) (zFn p)) q⟩
end
end L2
namespace L2
open PySem PySem.Spec PyProof.Rows
theorem zGr(us:List Str)(x:Str):us.length<=(eE us x).length:=by
 unfold eE
 split
 ·exact Nat.le_refl _
 ·rw[List.length_append];omega
theorem zER(val:Nat->Str){i n:Nat}(h:i<=n):(fE val i).length<=(fE val n).length:=by
  induction n with
  | zero => have : i = 0 := by omega
            subst this;exact Nat.le_refl _
  |succ n ih=>
    by_cases e:i=n+1
    · subst e;exact Nat.le_refl _
    · have:=ih (by omega)
      rw[zK]
      have:=zGr (fE val n) (val n)
      omega
section
variable{prog:Program}{w:World}{A:Around}{R:Result->Shared->Prop}{I:Addr}{fp wr:List Addr}{G:Array GenState->Array GenState->Prop}{n:Nat}{P:Nat->Value->Prop}{St:Nat->Shared->Prop}
theorem zET(W:WalksS prog w A.in1 I fp wr G n P St)(S:Addr)(hf:S∉fp)(val:Nat->Str)(hv:∀i v,P i v->∃t,v=.str (val i) t)(hb:(fE val n).length+1<scanBound):
  ∀(k i:Nat) (s:Shared),n-i=k->i<=n->St i s->SetS prog w S (fE val i) s.heap ->
   (∀s',Moved (S::wr) G s s'->SetS prog w S (fE val n) s'.heap->R (.ok (.ret .none)) s')->codeAny (model prog w) A (.builtin "set.update.loop" ⟨[.ref S,.ref I],[]⟩) R s:=by
 have nw:S∉wr:=λz=>hf (W.sub _ z)
 have sub:∀b∈wr,b∈S::wr:=λb z=>List.mem_cons_of_mem _ z
 intro k
 induction k with
 |zero=>
  intro i s hk hi st hS hR
  have e:i=n:=by omega
  subst e
  refine codeAny_builtin F.entry_set_update_loop ?_
  rw[Around.under_plainId F.plain_set_update_loop _]
  show wpAny _ A.in1 (pyNext (.ref I) >>= _) _ _ s
  refine wpAny_bind (W.done s _ _ st λs' hm=>?_)
  show wpAny _ A.in1 (ret Value.none) _ _ s'
  exact wpAny_pure (hR s' (hm.mono sub) (hS.kept λo q=>hm.heap S _ nw q))
 |succ k ih=>
  intro i s hk hi st hS hR
  have lt:i<n:=by omega
  refine codeAny_builtin F.entry_set_update_loop ?_
  rw[Around.under_plainId F.plain_set_update_loop _]
  show wpAny _ A.in1 (pyNext (.ref I) >>= _) _ _ s
  refine wpAny_bind (W.item i s _ _ lt st λv s' hP st' hm=>?_)
  obtain⟨t,rfl⟩:=hv i v hP
  have hS':SetS prog w S (fE val i) s'.heap:=hS.kept λo q=>hm.heap S _ nw q
  show wpAny _ A.in1 (holding [Value.str (val i) t] (setAdd S (.str (val i) t)) >>= _) _ _ s'
  refine wpAny_bind (wpAny_holding ?_)
  unfold setAdd
  refine wpAny_holding (wpAny_bind ((PySem.strKind prog w).pyHash (k:=val i) (by show Value.isStrOf _ (.str _ t)=true;simp[Value.isStrOf]) ?_))
  have room:(fE val i).length+1<scanBound:=by have:=zER val (Nat.le_of_lt lt);omega
  refine zGo (s:={s' with toks:=s'.toks+1}) hS' room λb h' sb S2=>?_
  rw[<-zK]at S2
  refine wpAny_pure ⟨plainId_quiet F.plain_set_update_loop _,ih (i+1) _ (by omega) lt (W.frame _ s' _ _ st' (Nat.le_succ _) λc hc o e=>?_) S2 λs'' hm'' S3=>?_⟩
  ·rw[sb.2 c (λz:c=S=>hf (by rw[<-z];exact hc))];exact e
  ·refine hR s'' (Moved.trans W.gtrans ((hm.mono sub).then_heap (Nat.le_succ _) λc o hc e=>?_) hm'') S3
   rw[sb.2 c (λz:c=S=>hc (by rw[z];exact List.mem_cons_self))];exact e
end
section
variable{prog:Program}{w:World}{A:Around}{E:Value->Shared->Prop}{s:Shared}
theorem zDn{l:Addr}{items:Array Value}{ss:List Str}{Q:Value->Shared->Prop}(hh:A.handled=none)(hl:s.heap.IsList l items)(hi:StrsAre items.toList ss)(hb:(bN ss).length+1<scanBound)
  (h:∀(h':Heap) (tk:Nat),SetS prog w s.heap.objs.size (bN ss) h'->(∀b o,b<s.heap.objs.size->s.heap.get? b=some o->h'.get? b=some o)->Q (.ref s.heap.objs.size) {s with heap:=h',toks:=tk}):
  wpAny (model prog w) A (call (.type "set") [.ref l]) Q E s:=by
 have hz:items.size=ss.length:=by have:=jI hi;simpa using this
 obtain⟨c,tl,hmro⟩:=F.called_set.mro
 have hmade:=F.called_set.made
 have hsub:=F.called_set.sub
 refine wpAny_call (codeAny_of_tree ?_)
 show wpAny _ _ (callAny (.type "set") _) _ _ _
 refine wpAny_pure ⟨Code.quiet_builtin _ (by decide +kernel),codeAny_builtin F.entry_type_call ?_⟩
 rw[Around.under_plain (weight_type_call_type "set" [.ref l] []) rfl]
 have h1:=F.called_set.notType
 have h2:=F.called_set.canCreate
 have hct:=F.typeCall_set_1 (.ref l)
 repeat (any_goals (first|assumption|wp_step))
 refine codeAny_mono (yM (.ref l) (E:=E) (Q₁:=λobj s₁=>obj=.ref s.heap.objs.size/\s₁={s with heap:=s.heap.push (bS #[] 0 (.fresh 0 0 (!byT w)))}) ⟨rfl,rfl⟩) λr s₁ hr=>?_
 cases r with
 |error e=>exact hr
 |ok fl=>
  cases fl with
  |ret obj=>
   obtain⟨rfl,rfl⟩:=hr
   have hS:(s.heap.push (bS #[] 0 (.fresh 0 0 (!byT w)))).get? s.heap.objs.size=some (bS #[] 0 (.fresh 0 0 (!byT w))):=Heap.get?_push_size _ rfl
   have hT:Shared.TypeIs {s with heap:=s.heap.push (bS #[] 0 (.fresh 0 0 (!byT w)))} (.ref s.heap.objs.size) "set":=⟨_,hS,rfl⟩
   have hli:=F.called_set.init.lookup
   have hbi:=F.called_set.init.bind (.ref s.heap.objs.size)
   repeat (any_goals (first|assumption|wp_step))
   refine codeAny_mono (codeAny_call_builtin (R:=wants (λr s₂=>r=.none/\∃h' tk,s₂={s with heap:=h',toks:=tk}/\SetS prog w s.heap.objs.size (bN ss) h' /\
     (∀b o,b<s.heap.objs.size->s.heap.get? b=some o->h'.get? b=some o)) E) F.called_set.init.plain F.entry_set_init (check_set_init_1 hT ?_)) λr₂ s₂ hr₂=>?_
   ·obtain⟨ol,hol,hcl,nl,hdl⟩:=hl
    obtain⟨ocls,odict,odata,oslots⟩:=ol
    simp only at hcl hdl
    subst hcl hdl
    have hol':(s.heap.push (bS #[] 0 (.fresh 0 0 (!byT w)))).get? l=some {cls:=.type "list",dict:=odict,data:=.seq items nl,slots:=oslots}:=Heap.get?_push_of_some _ hol
    have hsls:=F.sub_list_set
    have hslf:=F.sub_list_frozenset
    have hne:(Value.type "list"==Value.type "dict")=false:=by decide
    have hl1:(s.heap.push (bS #[] 0 (.fresh 0 0 (!byT w)))).IsList l items:=⟨_,hol',rfl,nl,rfl⟩
    unfold Builtin.«set.__init__» noKeywords Builtin.Frozenset.updateFrom
    generalize hPI:pyIter=PI
    wp_walk
    subst hPI
    refine wpAny_pyIter_list hl1 ?_
    refine wpAny_bind (wpAny_runValue ?_)
    have hlS:l<s.heap.objs.size:=Heap.lt_size hol
    have hh3:A.in1.in1.in1.handled=none:=by simp[hh]
    have neI:l≠(s.heap.push (bS #[] 0 (.fresh 0 0 (!byT w)))).objs.size:=by
     rw[Heap.size_push]
     exact Nat.ne_of_lt (Nat.lt_succ_of_lt hlS)
    have nf:s.heap.objs.size∉[(s.heap.push (bS #[] 0 (.fresh 0 0 (!byT w)))).objs.size,l]:=by
     rw[Heap.size_push]
     simp only[List.mem_cons,List.not_mem_nil,or_false,not_or]
     exact⟨Nat.ne_of_lt (Nat.lt_succ_self _),Nat.ne_of_gt hlS⟩
    refine zET ((Walks.list hh3 _ l neI items).toS) s.heap.objs.size nf (λi=>ss.getD i ⟨#[]⟩) (λi v hv=>lE hi i v (by rw[Array.getElem?_toList];exact hv)) (by rw[hz,zAr (ss:=ss) (λi hi=>by simp[hi])];exact hb) (items.size-0) 0 _ (by omega) (Nat.zero_le _)
     ⟨⟨_,Heap.get?_push_size _ rfl,rfl,rfl⟩,hl1.push _⟩ ?_ λs' hm S'=>?_
    ·refine⟨#[],0,.fresh 0 0 (!byT w),Heap.get?_push_of_some _ hS,⟨λe he=>by simp at he,⟨[],.nil,.refl _⟩,List.nodup_nil,by decide,?_,.inl rfl,rfl⟩⟩
     simp[SetTable.fits,SetTable.fresh,SetTable.fill]
    ·obtain⟨h',g',d',tk',os'⟩:=s'
     have eg:g'=s.gens:=hm.gens
     have ed:d'=s.drawn:=hm.drawn
     have eo:os'=s.os:=hm.os
     subst eg ed eo
     rw[hz,zAr (ss:=ss) (λi hi=>by simp[hi])]at S'
     show wpAny _ _ _ _ _ _
     refine wpAny_pure ?_
     show wpAny _ _ (ret Value.none) _ _ _
     refine wpAny_pure ⟨rfl,h',tk',rfl,S',λb o hb e=>?_⟩
     have hb2:b≠(s.heap.push (bS #[] 0 (.fresh 0 0 (!byT w)))).objs.size:=by
      rw[Heap.size_push]
      exact Nat.ne_of_lt (Nat.lt_succ_of_lt hb)
     exact hm.heap b o (by simp only[List.mem_cons,List.not_mem_nil,or_false,not_or];exact⟨Nat.ne_of_lt hb,hb2⟩) (Heap.get?_push_of_some _ (Heap.get?_push_of_some _ e))
   ·cases r₂ with
    |error e=>exact hr₂
    |ok fl₂=>
     cases fl₂ with
     |ret r=>
      obtain⟨rfl,h',tk,rfl,S',hk'⟩:=hr₂
      repeat (any_goals (first|assumption|wp_step))
      exact h _ _ S' hk'
     |_=>exact hr₂.elim
  |_=>exact hr.elim
end
section
variable{X:Cx}{F:Fm}
def zId(P:Program)(w:World)(K:W.Frag):List V->Hp->VK->Prop:=λxs H Q=>∃(p:Addr) (ss:List Str),xs=[.ref p]/\SqL K H p (ss.map V.str)/\(bN ss).length<4000/\∀a:Addr,H a=none->Q (.ref a) (upd H a (rY P w a (bN ss)))
theorem zD7(hc:X.calm=true):CallR X (.type "set") (zId X.prog X.w X.K):=by
 intro pins s σ H xs us Q I r h
 obtain⟨p,ss,rfl,hq,hz,q⟩:=h
 obtain⟨u,rfl,rx⟩:=cJ r
 cases rx
 obtain⟨its,rv,pl,hz'⟩:=I.list hq
 have hi:StrsAre its.toArray.toList ss:=mR rv
 refine zDn (I.ok.hd hc) pl.isList hi (by show(bN ss).length+1<4096;omega) λh' tk S k=>?_
 refine⟨.ref s.heap.objs.size,_,I.laid (t':=tk) (o:=rY X.prog X.w s.heap.objs.size (bN ss)) (λb o e=>k b o (Heap.lt_size e) e) (Nat.le_refl _) ⟨S,?_,λh1 h2 z k'=>z.kept k'⟩,rfl,q _ I.fresh⟩
 obtain⟨es,ep,t,e,_⟩:=S
 exact⟨_,e⟩
variable{pos:Pos}
def zEn(u:UT):UTl:=λρ Q=>u ρ λT ρ1=>∃ss:List Str,T=.seq false (ss.map sT)/\(bN ss).length<64/\Q ((cO (bN ss)).map sT) ρ1
theorem tM{e:Expr}{u:UT}{p p' pos':Pos}(hc:X.calm=true)(hg:Gl X "sorted")(hm:X.mg "sorted"=none)(hg':Gl X "set")(hm':X.mg "set"=none)(he:UE X F e u)(hst:dZ e=false:=by rfl)
  (hpl:(backTo pos (starEach [] X.env)).any (·.1)=false:=by rfl) (hpl':(backTo pos' (starEach [] X.env)).any (·.1)=false:=by rfl):
  UL X F (.Call (.Name "sorted" p) [.Call (.Name "set" p') [e] [] pos'] [] pos) (zEn u):=⟨PE.imp (jL (zDk hc) hg hm boot_sorted (dA (iP (zD7 hc) hg' hm' L2.boot_set (dA he.pe dS hst) (by decide) (by decide) (kT hst) hpl') dS rfl) (by decide) (by decide) rfl hpl) λσ H QQ ⟨ρ,Q,f,h,k⟩=>by
 refine⟨ρ,_,f,h,λx T H1 ρ1 s1 v1 q1=>?_⟩
 obtain⟨ss,rfl,l2,q⟩:=q1
 obtain⟨a,ys,rfl,hs,z,p⟩:=v1.seqI
 rw[jH p]at hs
 refine⟨a,ss,rfl,cD hs,by omega,λb nb=>⟨b,bN ss,rfl,bE,l2,λms c h1 h2 nc=>?_⟩⟩
 have sm:=(cL (o:=rY X.prog X.w b (bN ss)) nb).trans (cL (o:=.lst (ms.map V.str)) nc)
 refine k _ _ _ _ _ (s1.trans (Stp.same s1.fr sm)) (s1.non ((cL nb).free nc)) bE (by rw[List.length_map,h1.length_eq];omega) (nF ms) ?_
 rw[qA h1 h2]
 exact q⟩
abbrev zJ1:P2:=pI2 (λ_ j=>j≠0) λi j=>.int (i.fmod j)
theorem zGU:fQ X (binaryOp .Mod) zJ1:=(rE zHf λ_ _=>rfl).op
end
end L2
namespace L2
open PySem PySem.Spec PyProof.Rows PySem.SeqAt
section
variable{prog:Program}{w:World}{A:Around}{E:Value->Shared->Prop}{s:Shared}
theorem xV{d:Addr}{v:Value}{T:String}{Q:Value->Shared->Prop}(hd:s.TypeIs (.ref d) "dict")(hv:s.TypeIs v T)(hsub:isSubtype (.type T) (.type "dict")=pure false)(h:Q .notImplemented s):
  wpAny (model prog w) A (call (.builtin "dict.__eq__") [.ref d,v]) Q E s:=by
 refine wpAny_call_entry PySem.F.slot_dict_eq_refl hd PySem.F.entry_dict_eq ?_ (PySem.F.args_dict_eq_2 _ _)
 show wpAny _ _ (Builtin.Dict.dictSlotArgs "__eq__" ⟨[.ref d,v],[]⟩ >>= _) _ _ s
 refine wpAny_bind ?_
 unfold Builtin.Dict.dictSlotArgs
 refine wpAny_bind (wpAny_notOrdered_dict hd ?_)
 show wpAny _ _ (pure (Value.ref d,v)) _ _ s
 refine wpAny_pure ?_
 refine wpAny_bind (wpAny_isInstance (T:=T) hv hsub ?_)
 simp only[Bool.not_false,if_true]
 exact wpAny_bind (wpAny_rule (wpAny_pure ⟨_,rfl,h⟩))
theorem xT(b:Str)(u:Tok)(l:Addr)(c:Value)(es:Array DictEntry)(n:Nat)(dd:Option Addr)(sl:Array (Option Value)):
  Meets (Builtin.«str.__eq__» ⟨[.str b u,.ref l],[]⟩) (λ_ R s=>s.heap.get? l=some {cls:=c,dict:=dd,data:=.dict es n,slots:=sl}/\R (.ok (.ret .notImplemented)) s):=
 .of_wp λprog w A R s h=>by obtain⟨hp,g,d,tk,os⟩:=s;obtain⟨hl,h⟩:=h;wp_walk using AutoSeq1.wpAny_loadPart' hl,wpAny_load hl;exact⟨_,rfl,h⟩
end
section
variable{prog:Program}{w:World}{κ:Type}[DecidableEq κ]{knd:KeyKind prog w κ}{A:Around}{s:Shared}{d:Addr}{kvs:List (κ×Value)}
theorem zDu(b:Str)(u:Tok)(hd:s.heap.DictOf knd d kvs)(hu:A.units<cLine):RcAt A s (.str b u) (.ref d) false:=λprog w E Q h=>by
 obtain⟨⟨cls,dd,data,sl⟩,es,ep,ho,⟨hc,hdn,hsl⟩,hda,_⟩:=id hd
 simp only at hc hda hdn hsl
 subst hc hda hdn hsl
 exact rc_eq_decline_or (k:=false) (typeIs_str s b u) ⟨_,ho,rfl⟩ (by decide) F.sub_dict_str F.slot_str_eq F.slot_dict_eq_refl
  (λ_ hq=>call_meets F.slot_str_eq (typeIs_str s b u) F.entry_str_eq (F.args_str_eq_2 _ _) (xT b u d _ es ep none #[]) ⟨ho,hq⟩)
  (λ_ hq=>xV ⟨_,ho,rfl⟩ (typeIs_str s b u) F.sub_str_dict hq)
  (λ_ hq=>wpAny_of_eq (rfl:isSame (.str b u) (.ref d)=pure false) hq) (.inr hu) h
theorem zDB(b:Str)(u:Tok)(hd:s.heap.DictOf knd d kvs)(hu:A.units<cLine):EqAt A s (.str b u) (.ref d) false:=λprog w E Q h=>by
 unfold eqBool
 refine wpAny_holding ?_
 refine wpAny_ite_split (λhab=>absurd (eq_of_beq hab) nofun) (λ_=>?_)
 exact wpAny_bind (zDu b u hd hu prog w E _ (wpAny_truthy_bool h))
end
section
variable{X:Cx}{pins:List (Addr×Obj)}{σ:St}{H:Hp}{s:Shared}
theorem zAN(I:Inv X pins σ H s){x:V}{kts:List (Str×Tv)}{u:Value}(v:VA X.K H x (.dct kts))(r:RelV x u):∃a vs,u=.ref a/\s.heap.DictOf (bW X.prog X.w) a vs:=by
 obtain⟨a,kvs,rfl,⟨ob,hd⟩,_⟩:=v.dctI
 cases r
 obtain⟨_,_,vs,_,d⟩:=(show ObjOk X.prog X.w H s.heap a (.frz ob (.dK kvs)) from I.hok a _ hd).2
 exact⟨a,vs,rfl,d⟩
theorem yV(I:Inv X pins σ H s){A:Around}(hu:A.units<cLine){z:Str}{v:Value}{y:V}{U:Tv}{u:Value}(rx:RelV (.str z) v)(vy:VA X.K H y U)(ry:RelV y u):EqAt A s v u (eqT (sT z) U):=by
 cases U with
 |leaf w=>
  obtain⟨rfl,f⟩:=vy.leafI
  obtain⟨t,rfl⟩:=rx
  rw[show eqT (sT z) (.leaf y)=eqV (.str z) y by simp[eqT]]
  rcases iM f with rfl|⟨b,rfl⟩|⟨b,rfl⟩|⟨b,rfl⟩
  ·cases ry;exact EqAt.str_none z t
  ·cases ry;exact EqAt.str_bool z t b
  ·obtain⟨t',rfl⟩:=ry;exact EqAt.str_int z t b t'
  ·obtain⟨t',rfl⟩:=ry;exact EqAt.str_str z t b t'
 |seq t Us=>
  obtain⟨a,ys,rfl,hs,_⟩:=vy.seqI
  cases ry
  rw[show eqT (sT z) (.seq t Us)=false by simp[eqT]]
  exact(kR I hu (x:=.str z) rfl rx hs).1
 |dct kts=>
  obtain⟨a,vs,rfl,d⟩:=zAN I vy ry
  obtain⟨t,rfl⟩:=rx
  rw[show eqT (sT z) (.dct kts)=false by simp[eqT]]
  exact zDB z t d hu
end
end L2
namespace GcdM
def g(a b:Int):Int:=((Int.gcd a b:Nat):Int)
theorem g_nonneg(a b:Int):0<=g a b:=Int.natCast_nonneg _
theorem g_dvd{d a b:Int}:d ∣ g a b↔d ∣ a/\d ∣ b:=by
 unfold g
 constructor
 ·intro h
  exact⟨Int.dvd_trans h (Int.gcd_dvd_left ..),Int.dvd_trans h (Int.gcd_dvd_right ..)⟩
 ·rintro⟨h1,h2⟩
  exact Int.dvd_coe_gcd h1 h2
theorem g_zero(a:Int)(h:0<=a):g a 0=a:=by
 unfold g
 rw[Int.gcd_zero_right]
 omega
theorem zE4{a b:Int}(ha:0<=a)(hb:0<=b)(h:∀d:Int,d ∣ a↔d ∣ b):a=b:=by
 have h1:a ∣ b:=(h a).mp (Int.dvd_refl _)
 have h2:b ∣ a:=(h b).mpr (Int.dvd_refl _)
 exact Int.dvd_antisymm ha hb h1 h2
theorem g_abs(a:Int):g a 0=if a<0 then -a else a:=by
 unfold g
 rw[Int.gcd_zero_right]
 split<;>omega
theorem g_turnF{a b:Int}(hb:b≠0):g b (a.fmod b)=g a b:=by
 refine zE4 (g_nonneg _ _) (g_nonneg _ _) λd=>?_
 rw[g_dvd,g_dvd]
 have e:=Int.mul_fdiv_add_fmod a b
 constructor
 ·rintro⟨h1,h2⟩
  refine⟨?_,h1⟩
  have:=Int.dvd_add (Int.dvd_trans h1 (Int.dvd_mul_right b (a.fdiv b))) h2
  rw[e]at this
  exact this
 ·rintro⟨h1,h2⟩
  refine⟨h2,?_⟩
  have:=Int.dvd_sub h1 (Int.dvd_trans h2 (Int.dvd_mul_right b (a.fdiv b)))
  rw[show a-b*(a.fdiv b)=a.fmod b by omega]at this
  exact this
theorem fmod_less{a b:Int}(hb:b≠0):(a.fmod b).natAbs<b.natAbs:=by
 rcases Int.lt_or_gt_of_ne hb with h|h
 ·have e:a.fmod b = -((-a).fmod (-b)):=by rw[Int.neg_fmod_neg];omega
  have h1:=Int.fmod_nonneg_of_pos (-a) (show 0 < -b by omega)
  have h2:=Int.fmod_lt_of_pos (-a) (show 0 < -b by omega)
  omega
 ·have h1:=Int.fmod_nonneg_of_pos a h
  have h2:=Int.fmod_lt_of_pos a h
  omega
end GcdM
namespace L2
open PySem PySem.Spec PyProof.Rows WordM
theorem stW_iff{x y:Str}:stW x y=true↔∃r,cs x=cs y++r:=by
 unfold stW
 rw[StrLaws.subAt_eq,Bool.and_eq_true,decide_eq_true_iff,List.drop_zero,beq_iff_eq,WordM.len,WordM.len]
 constructor
 ·rintro⟨h1,h2⟩
  have h2:(cs x).take (cs y).length=cs y:=h2
  exact⟨(cs x).drop (cs y).length,(List.take_append_drop (cs y).length (cs x)).symm.trans (by rw[h2])⟩
 ·rintro⟨r,e⟩
  show _/\(cs x).take _=_
  rw[e]
  exact⟨by rw[List.length_append];omega,by rw[List.take_left'];rfl⟩
theorem zFE{x y:Str}{r:List Nat}(e:cs x=cs y++r):cs (cQ x y)=r:=by
 have hl:x.length=(cs y).length+r.length:=by rw[WordM.len,e,List.length_append]
 unfold cQ
 rw[PyProof.Rows.slice_from_eq (b:=(x.length:Int)) (by omega) (by rw[hl,WordM.len];omega) rfl]
 show((cs x).drop _).take _=r
 rw[hl,WordM.len y,e,show(((cs y).length:Nat):Int).toNat=(cs y).length by omega,List.drop_left,List.take_of_length_le]
 omega
theorem zDM{x:Str}(h:0<x.length):cs (Txt.slice x none (some (-1)))=(cs x).take (x.length-1):=by
 have e:=beq_iff_eq.mp (PyProof.Rows.slice_closes_to_neg (x:=x) (j:=-1) (k:=-1+x.length) (by decide) (by omega) rfl)
 rw[e]
 show((cs x).drop 0).take _=_
 rw[List.drop_zero]
 congr 1
 omega
theorem zC4{x:Str}(h:0<x.length):(Txt.slice x none (some (-1))).length=x.length-1:=by
 rw[WordM.len,zDM h,List.length_take,<-WordM.len];omega
theorem zCi{a b:Str}(h:cs a<cs b):a≠b:=λe=>by rw[e]at h;exact List.lt_irrefl _ h
theorem uK:∀{ys xs:List Str},gF xs->gF ys->(∀x∈xs,x∈ys)->xs.Sublist ys
 |[],xs,_,_,h=>by
  cases xs with
  |nil=>exact .slnil
  |cons x xs=>exact absurd (h x (.head _)) (by simp)
 |y::ys,[],_,_,_=>List.nil_sublist _
 |y::ys,x::xs,hx,hy,h=>by
  have hx':=List.pairwise_cons.mp hx
  have hy':=List.pairwise_cons.mp hy
  by_cases e:x=y
  ·subst e
   refine List.Sublist.cons_cons x (uK hx'.2 hy'.2 λz hz=>?_)
   rcases List.mem_cons.mp (h z (.tail _ hz)) with q|q
   ·exact absurd q.symm (zCi (hx'.1 z hz))
   ·exact q
  ·have hxy:x∈ys:=(List.mem_cons.mp (h x (.head _))).resolve_left e
   have yx:cs y<cs x:=hy'.1 x hxy
   refine List.Sublist.cons y (uK hx hy'.2 λz hz=>?_)
   rcases List.mem_cons.mp (h z hz) with q|q
   ·subst q
    rcases List.mem_cons.mp hz with q|q
    ·exact absurd q.symm e
    ·exact absurd (List.lt_trans yx (hx'.1 z q)) (List.lt_irrefl _)
   ·exact q
theorem mk_rise:gF MK:=by unfold gF;decide +kernel
theorem sort_set_mem{ss:List Str}{x:Str}:x∈cO (bN ss)↔x∈ss:=(mS _).mem_iff.trans (jJ ss x)
theorem tJ(ss:List Str):gF (cO (bN ss)):=tW (nI ss)
theorem zLe{s d m:Int}(h0:0<=s)(h1:s<=m)(h2:-m<=d)(h3:d<=m):GcdM.g s d<=m:=by
 by_cases hd:d=0
 ·subst hd
  rw[GcdM.g_zero s h0];exact h1
 ·have:=Int.gcd_le_natAbs_right s hd
  unfold GcdM.g
  omega
end L2
namespace L2
open PySem PySem.Spec PyProof.Rows PySem.SeqAt
section
variable{X:Cx}{F:Fm}
def zCJ:P2
 |.leaf (.str x),.leaf (.str y),Q=>Q (bT (!decide (y.cps.toList<x.cps.toList)))
 |_,_,_=>False
theorem zEN:OpR X (compareOp .LtE) (λx y H Q=>∃i j,x=.str i/\y=.str j/\Q (.bl (!decide (j.cps.toList<i.cps.toList))) H):=by
 intro pins s σ H x y v u Q I rx ry h
 obtain⟨i,j,rfl,rfl,q⟩:=h
 obtain⟨t,rfl⟩:=rx
 obtain⟨t',rfl⟩:=ry
 exact PySem.P.le_str (lR I q rfl)
theorem zBP:PuCmp X (compareOp .LtE) zCJ:=⟨_,zEN,λx y T U H Q QQ vx vy h k=>by
 unfold zCJ at h
 split at h
 ·obtain⟨rfl,_⟩:=vx.leafI
  obtain⟨rfl,_⟩:=vy.leafI
  exact⟨_,_,rfl,rfl,k _ _ _ (Same.refl _) (.flat rfl) h⟩
 ·exact False.elim h⟩
end
section
variable{prog:Program}{w:World}{A:Around}{E:Value->Shared->Prop}{s:Shared}
theorem zC0{d:Addr}{v:Value}{T:String}{Q:Value->Shared->Prop}(hd:s.TypeIs (.ref d) "dict")(hv:s.TypeIs v T)(hsub:isSubtype (.type T) (.type "dict")=pure false)(h:Q .notImplemented s):
  wpAny (model prog w) A (call (.builtin "dict.__ne__") [.ref d,v]) Q E s:=by
 refine wpAny_call_entry PySem.F.slot_dict_ne hd PySem.F.entry_dict_ne ?_ (PySem.F.args_dict_ne_2 _ _)
 show wpAny _ _ (Builtin.Dict.dictSlotArgs "__ne__" ⟨[.ref d,v],[]⟩ >>= _) _ _ s
 refine wpAny_bind ?_
 unfold Builtin.Dict.dictSlotArgs
 refine wpAny_bind (wpAny_notOrdered_dict hd ?_)
 show wpAny _ _ (pure (Value.ref d,v)) _ _ s
 refine wpAny_pure ?_
 refine wpAny_bind (wpAny_isInstance (T:=T) hv hsub ?_)
 simp only[Bool.not_false,if_true]
 exact wpAny_bind (wpAny_rule (wpAny_pure ⟨_,rfl,h⟩))
theorem zCZ(b:Str)(u:Tok)(l:Addr)(c:Value)(es:Array DictEntry)(n:Nat)(dd:Option Addr)(sl:Array (Option Value)):
  Meets (Builtin.«str.__ne__» ⟨[.str b u,.ref l],[]⟩) (λ_ R s=>s.heap.get? l=some {cls:=c,dict:=dd,data:=.dict es n,slots:=sl}/\R (.ok (.ret .notImplemented)) s):=
 .of_wp λprog w A R s h=>by obtain⟨hp,g,d,tk,os⟩:=s;obtain⟨hl,h⟩:=h;wp_walk using AutoSeq1.wpAny_loadPart' hl,wpAny_load hl;exact⟨_,rfl,h⟩
variable{κ:Type}[DecidableEq κ]{knd:KeyKind prog w κ}{d:Addr}{kvs:List (κ×Value)}
theorem zDv(b:Str)(u:Tok)(hd:s.heap.DictOf knd d kvs)(hu:A.units<cLine):RcAt A s (.ref d) (.str b u) false/\RcNeAt A s (.ref d) (.str b u) true:=by
 obtain⟨⟨cls,dd,data,sl⟩,es,ep,ho,⟨hc,hdn,hsl⟩,hda,_⟩:=id hd
 simp only at hc hda hdn hsl
 subst hc hda hdn hsl
 refine⟨λprog w E Q h=>?_,λprog w E Q h=>?_⟩
 ·exact rc_eq_decline_or (k:=false) ⟨_,ho,rfl⟩ (typeIs_str s b u) (by decide) F.sub_str_dict F.slot_dict_eq F.slot_str_eq_refl
   (λ_ hq=>xV ⟨_,ho,rfl⟩ (typeIs_str s b u) F.sub_str_dict hq)
   (λ_ hq=>call_meets F.slot_str_eq_refl (typeIs_str s b u) F.entry_str_eq (F.args_str_eq_2 _ _) (xT b u d _ es ep none #[]) ⟨ho,hq⟩)
   (λ_ hq=>wpAny_of_eq (rfl:isSame (.ref d) (.str b u)=pure false) hq) (.inr hu) h
 ·exact rc_ne_decline_or (k:=false) ⟨_,ho,rfl⟩ (typeIs_str s b u) (by decide) F.sub_str_dict F.slot_dict_ne F.slot_str_ne_refl
   (λ_ hq=>zC0 ⟨_,ho,rfl⟩ (typeIs_str s b u) F.sub_str_dict hq)
   (λ_ hq=>call_meets F.slot_str_ne_refl (typeIs_str s b u) F.entry_str_ne (F.args_str_ne_2 _ _) (zCZ b u d _ es ep none #[]) ⟨ho,hq⟩)
   (λ_ hq=>wpAny_of_eq (rfl:isSame (.ref d) (.str b u)=pure false) hq) (.inr hu) h
end
section
variable{X:Cx}{F:Fm}
def zK7(neg:Bool):P2:=λT U Q=>∃z:Str,U=sT z/\Q (bT (neg != eqT T (sT z)))
theorem zEg{pins:List (Addr×Obj)}{σ:St}{H:Hp}{s:Shared}(I:Inv X pins σ H s)(hu:X.A.units<cLine){x:V}{T:Tv}{v:Value}{z:Str}{u:Value}(vx:VA X.K H x T)(rx:RelV x v)(ry:RelV (.str z) u):RcAt X.A s v u (eqT T (sT z))/\RcNeAt X.A s v u (!eqT T (sT z)):=by
 cases T with
 |leaf w=>
  obtain⟨rfl,f⟩:=vx.leafI
  rw[show eqT (.leaf x) (sT z)=eqV x (.str z) by simp[eqT]]
  exact zA0 f (y:=.str z) rfl rx ry
 |seq t Ts=>
  obtain⟨a,xs,rfl,hs,_⟩:=vx.seqI
  cases rx
  have r:=kR I hu (x:=.str z) rfl ry hs
  rw[show eqT (.seq t Ts) (sT z)=false by simp[eqT]]
  exact⟨r.2.2.2.1,r.2.2.2.2.2⟩
 |dct kts=>
  obtain⟨a,vs,rfl,d⟩:=zAN I vx rx
  obtain⟨t,rfl⟩:=ry
  rw[show eqT (.dct kts) (sT z)=false by simp[eqT]]
  exact zDv z t d hu
def zKX(K:W.Frag)(neg:Bool):R2:=λx y H Q=>∃(T:Tv) (z:Str),VA K H x T/\y=.str z/\Q (.bl (neg != eqT T (sT z))) H
theorem zIU(hu:X.A.units+64<cLine):OpR X (compareOp .Eq) (zKX X.K false):=by
 rintro pins s σ H x y v u Q I rx ry ⟨T,z,vx,rfl,q⟩
 exact(zEg I (by omega) vx rx ry).1 X.prog X.w X.xe _ ⟨.bl _,H,I,rfl,by simpa using q⟩
theorem hX(hu:X.A.units+64<cLine):PuCmp X (compareOp .Eq) (zK7 false):=⟨_,zIU hu,λx y T U H Q QQ vx vy h k=>by
 obtain⟨z,rfl,q⟩:=h
 obtain⟨rfl,_⟩:=vy.leafI
 exact⟨T,z,vx,rfl,k _ _ _ (Same.refl _) (.flat rfl) q⟩⟩
def zK6:P2:=λT U Q=>∃ks:List Str,U=.seq true (ks.map sT)/\Q (bT ((ks.map sT).any λk=>eqT k T))
def zKV(K:W.Frag):R2:=λx y H Q=>∃(T:Tv) (ks:List Str),VA K H x T/\VA K H y (.seq true (ks.map sT))/\Q (.bl ((ks.map sT).any λk=>eqT k T)) H
theorem zIR(hu:X.A.units+64<cLine):OpR X (compareOp .In) (zKV X.K):=by
 rintro pins s σ H x y v u Q I rx ry ⟨T,ks,vx,vy,q⟩
 obtain⟨a,ys,rfl,hs,z,p⟩:=vy.seqI
 cases ry
 rw[jH p]at hs
 obtain⟨its,r,l⟩:=PSeq.isTup I hs
 let e:Value->Bool:=λw=>match w with|.str k _=>eqT (sT k) T|_=>false
 have key:∀{ks:List Str} {its:List Value},Vals (ks.map V.str) its->(∀y∈its,EqAt X.A.in1 s y v (e y))/\its.any e=(ks.map sT).any λk=>eqT k T:=by
  intro ks
  induction ks with
  |nil=>intro its r;cases r;exact⟨(λy hy=>nomatch hy),rfl⟩
  |cons k ks ih=>
   intro its r
   cases r with
   |cons r0 rs=>
    obtain⟨i1,i2⟩:=ih rs
    obtain⟨t,rfl⟩:=id r0
    refine⟨λy hy=>?_,?_⟩
    ·rcases List.mem_cons.mp hy with rfl|hy
     ·exact yV I (by show X.A.units+1<_;omega) r0 vx rx
     ·exact i1 y hy
    ·rw[List.any_cons,i2,List.map_cons,List.any_cons]
 obtain⟨k1,k2⟩:=key r
 refine in_tupleAt e l (λy hy=>k1 y (by simpa using hy)) ⟨.bl _,H,I,rfl,?_⟩
 rw[List.any_toArray,k2];exact q
theorem zIp(hu:X.A.units+64<cLine):PuCmp X (compareOp .In) zK6:=⟨_,zIR hu,λx y T U H Q QQ vx vy h k=>by
 obtain⟨ks,rfl,q⟩:=h
 exact⟨T,ks,vx,vy,k _ _ _ (Same.refl _) (.flat rfl) q⟩⟩
end
end L2
namespace L2
open PySem PySem.Spec PyProof.Rows PySem.SeqAt
open AutoSeq1 (wpAny_loadPart')
theorem zC1{M:Model}{A:Around}{E:Value->Shared->Prop}{s:Shared}{β:Type}(f:Nat->β->Sem (ForInStep β))(I:List Nat->β->Shared->Prop)(Q:β->Shared->Prop)
  (turn:∀x rest b s,I (x::rest) b s->wpAny M A (f x b) (λr s'=>match r with|.yield b'=>I rest b' s'|.done b'=>Q b' s') E s)
  (fin:∀b s,I [] b s->Q b s) (n:Nat) (b:β) (h:I (List.range n) b s):wpAny M A (forIn [:n] b f) Q E s:=by
 rw[Std.Legacy.Range.forIn_eq_forIn_range']
 refine wpAny_forIn_list f I Q turn fin _ b ?_
 have:List.range' ([:n]:Std.Legacy.Range).start ([:n]:Std.Legacy.Range).size ([:n]:Std.Legacy.Range).step=List.range n:=by
  simp[Std.Legacy.Range.size,List.range_eq_range']
 rw[this]
 exact h
theorem zC8(l:Addr)(items:Array Value)(n:Nat)(dd:Option Addr)(sl:Array (Option Value))(x:Value)(e:Value->Bool)(j:Nat)(hj:j<items.size)
  (hit:e items[j]=true) (hno:∀m (hm:m<items.size),m<j->e items[m]=false):
  Meets (Builtin.«tuple.index» ⟨[.ref l,x],[]⟩)
   (λA R s=>s.heap.get? l=some {cls:=.type "tuple",dict:=dd,data:=.seq items n,slots:=sl}/\(∀y,y∈items->EqAt A.in1 s y x (e y))/\R (.ok (.ret (.int j s.toks))) {s with toks:=s.toks+1}):=
 .of_wp λprog w A R s h=>by
  obtain⟨hp,g,d,tk,os⟩:=s;obtain⟨hl,he,h⟩:=h
  wp_walk using wpAny_loadPart' hl,zC1 _ (λrest b s'=>b.1=none/\s'=⟨hp,g,d,tk,os⟩/\∃i,i<=j/\rest=(List.range (min items.size items.size)).drop i) _
  case turn=>
   rintro k rest b s' ⟨hb,rfl,i,hi,hr⟩
   rw[Nat.min_self]at hr ⊢
   have hlt:i<items.size:=by omega
   rw[List.drop_eq_getElem_cons (by rw[List.length_range];exact hlt),List.getElem_range]at hr
   obtain⟨rfl,rfl⟩:=List.cons.inj hr
   rw[Array.getElem?_eq_getElem hlt]
   refine wpAny_bind (he _ (Array.getElem_mem hlt) prog w _ _ ?_)
   by_cases hk:k=j
   ·subst hk
    rw[hit]
    wp_walk
    exact⟨_,rfl,h⟩
   ·rw[hno k hlt (by omega)]
    wp_walk
    exact⟨rfl,rfl,k+1,by omega,rfl⟩
  case fin=>
   rintro⟨b1,b2⟩ s' ⟨hb,rfl,i,hi,hr⟩
   rw[Nat.min_self]at hr
   have:=congrArg List.length hr
   rw[List.length_drop,List.length_range,List.length_nil]at this
   omega
  case h=>
   exact⟨rfl,rfl,0,Nat.zero_le _,rfl⟩
section
variable{X:Cx}{F:Fm}
def zKN(K:W.Frag):V->List V->Hp->VK->Prop:=λx vs H Q=>∃(p:Addr) (ss:List Str) (y:Str) (j:Nat),x=.ref p/\vs=[.str y]/\SqT K H p (ss.map V.str)/\ss[j]?=some y/\(∀i,i<j->ss[i]?≠some y)/\Q (.int (j:Nat)) H
theorem zIY(hu:X.A.units+8<cLine):MtM X "tuple.index" (zKN X.K):=by
 intro pins s σ H x vs v us Q I rx rv h
 obtain⟨p,ss,y,j,rfl,rfl,hq,hj,hno,q⟩:=h
 cases rx
 obtain⟨u,rfl,t,rfl⟩:=rv.one
 obtain⟨its,rv,pl,hz⟩:=I.tuple hq
 obtain⟨⟨cls,dd,data,sl⟩,ho,hc,n,hd⟩:=id pl
 simp only at hc hd
 subst hc hd
 have rl:=rv.length
 have key:∀(m:Nat) (hm:m<its.length),∃z t',ss[m]?=some z/\its[m]=.str z t':=λm hm=>by
  have hs:m<ss.length:=by rw[List.length_map]at rl;omega
  obtain⟨u,e1,t',e2⟩:=Vals.get rv (i:=m) (x:=.str ss[m]) (by rw[List.getElem?_map,List.getElem?_eq_getElem hs];rfl)
  rw[List.getElem?_eq_getElem hm]at e1
  exact⟨ss[m],t',List.getElem?_eq_getElem hs,by rw[Option.some.inj e1,e2]⟩
 let e:Value->Bool:=λw=>match w with|.str z _=>decide (z=y)|_=>false
 have jl:j<its.length:=by
  have:=(List.getElem?_eq_some_iff.mp hj).1
  rw[List.length_map]at rl;omega
 refine call_meets PySem.F.slot_tuple_index ⟨_,ho,rfl⟩ PySem.F.entry_tuple_index (PySem.F.args_tuple_index_2 _ _) (zC8 p its.toArray n dd sl (.str y t) e j (by simpa using jl) ?_ ?_) ⟨ho,?_,⟨.int (j:Nat),H,I.tok _,⟨_,rfl⟩,q⟩⟩
 ·obtain⟨z,t',h1,h2⟩:=key j jl
  rw[hj]at h1
  cases h1
  show e its[j]=true
  rw[h2]
  exact decide_eq_true rfl
 ·intro m hm hmj
  have hm:m<its.length:=by simpa using hm
  obtain⟨z,t',h1,h2⟩:=key m hm
  show e its[m]=false
  rw[h2]
  exact decide_eq_false λc=>hno m hmj (by rw[h1,c])
 ·intro w hw
  obtain⟨m,hm,rfl⟩:=List.getElem_of_mem (by simpa using hw)
  obtain⟨z,t',h1,h2⟩:=key m hm
  rw[h2]
  have:=yV I (A:=X.A.in1) (by have:X.A.in1.units=X.A.units+1:=rfl;omega) (z:=z) (v:=.str z t') (y:=.str y) (U:=sT y) (u:=.str y t) ⟨_,rfl⟩ (.flat rfl) ⟨_,rfl⟩
  rw[show eqT (sT z) (sT y)=decide (z=y) by
   simp only[eqT,eqV]
   by_cases h:z=y
   ·subst h;simp
   ·rw[decide_eq_false h];simpa using h]at this
  exact this
def rR(K:W.Frag)(mg:Str->Option Value)(x:Str)(ss:List Str):Prop:=∃(a:Addr) (its:Array Value) (n:Nat) (sl:Array (Option Value)),mg x=some (.ref a)/\K.lookup a=some ⟨.type "tuple",none,.seq its n,sl⟩/\its.size<=sizeLine/\Vals (ss.map V.str) its.toList
def zKs(ss:List Str)(u:UT):UT:=λρ Q=>u ρ λT ρ1=>∃(y:Str) (j:Nat),T=sT y/\ss[j]?=some y/\(∀i,i<j->ss[i]?≠some y)/\Q (iT (j:Nat)) ρ1
theorem zHR{x:Str}{ss:List Str}{p apos cpos:Pos}{e:Expr}{u:UT}(hu:X.A.units+64<cLine)(G:rR X.K X.mg x ss)(hg:Gl X x)(he:UE X F e u)(hst:dZ e=false:=by rfl)(hd:(x==("__debug__":Str))=false:=by decide)
  (hbase:attributeBase (.Name x p) "index" X.env (eval (.Name x p) X.env)=eval (.Name x p) X.env:=by rfl)
  (hfew:((backTo cpos (starEach [e] X.env)).all (λx=>!x.1)&&(backToKw cpos (keywordEach [] X.env)).all (λx=>x.1.isSome)&&decide ([e].length+([]:List Keyword).length+(if ([]:List Keyword).isEmpty then 0 else 1)<30))=true:=by rfl)
  (hline:(apos.endLine==cpos.line)=true:=by rfl) (hs:starEach [e] X.env=(false,eval e X.env)::starEach [] X.env:=by rfl) (hplain:(backTo cpos (starEach [] X.env)).any (·.1)=false:=by rfl):
  UE X F (.Call (.Attribute (.Name x p) "index" apos) [e] [] cpos) (zKs ss u):=by
 obtain⟨a,its,n,sl,m,lk,z,vs⟩:=G
 refine⟨PE.imp (lW PySem.F.plainAttrs_tuple PySem.F.slot_tuple_index PySem.F.type_tuple_index (zIY (by omega)) (vH (v:=.ref a) hg m rfl hd) (dA he.pe dS hst) hbase hfew hline hs hplain) λσ H QQ ⟨ρ,Q,f,h,k⟩=>?_⟩
 refine⟨.inr (.inl ⟨rfl,_,lk,rfl,rfl⟩),ρ,_,f,h,λw T H1 ρ1 s1 v1 q1=>?_⟩
 obtain⟨y,j,rfl,hj,hno,q⟩:=q1
 obtain⟨rfl,_⟩:=v1.leafI
 exact⟨a,ss,y,j,rfl,rfl,.inr ⟨_,_,_,lk,rfl,rfl,z,vs⟩,hj,hno,k _ _ _ _ s1 (.flat rfl) q⟩
end
end L2
namespace L2
open PySem PySem.Spec PyProof.Rows PySem.SeqAt
section
variable{X:Cx}{F:Fm}
theorem zIO:OpR X (compareOp .Lt) (λx y H Q=>∃i j:Bool,x=.bl i/\y=.bl j/\Q (.bl (!i&&j)) H):=by
 intro pins s σ H x y v u Q I rx ry h
 obtain⟨i,j,rfl,rfl,q⟩:=h
 cases rx
 cases ry
 refine lt_bool (lR I q ?_)
 cases i<;>cases j<;>rfl
def xN:P2
 |.leaf (.bl i),.leaf (.bl j),Q=>Q (bT (!i&&j))
 |T,U,Q=>pLt T U Q
theorem zIn:PuCmp X (compareOp .Lt) xN:=by
 obtain⟨a,oa,ra⟩:=iE (X:=X)
 refine⟨_,oa.or zIO,λx y T U H Q QQ vx vy h k=>?_⟩
 unfold xN at h
 split at h
 ·obtain⟨rfl,_⟩:=vx.leafI
  obtain⟨rfl,_⟩:=vy.leafI
  exact .inr ⟨_,_,rfl,rfl,k _ _ _ (Same.refl _) (.flat rfl) h⟩
 ·exact .inl (ra x y T U H Q QQ vx vy h k)
end
end L2
namespace L2
open PySem PySem.Spec PyProof.Rows WordM
section
variable{X:Cx}{F:Fm}{pos p:Pos}{e a b elt iter:Expr}{es ifs:List Expr}{x:Str}{u ua ub ue:UT}{ut:UTa}{ui:UTl}{tf:UTt}{sc scope:Scope}{XN N:List Str}{fr:List Nat}
theorem aI{k m:Nat}{ps:List Str}{psp:PSp}(G:aE X.prog X.w X.K X.mg X.base k x ps psp)(hr:Room m X.A)(ha:UA X F (e::es) ut)(hm:k<=m:=by omega)(hg:Gl X x:=by exact rfl)(hdb:(x==("__debug__":Str))=false:=by decide)
  (hst:dZ e=false:=by rfl) (hpl:(backTo pos (starEach es X.env)).any (·.1)=false:=by rfl):UE X F (.Call (.Name x p) (e::es) [] pos) (rB psp ut):=zJp G (hr.mono hm) hg ha hdb hst hpl
theorem aT(i:Nat){pos':Pos}(hN:X.N.Nodup)(he:UE X F e u)(hi:X.N[i]?=some x:=by rfl)(hx:Loc X.env.scope x:=by first|exact Or.inl rfl|exact Or.inr rfl)(hs:swapsWith e (some (.Name x pos')) pos.line X.env=pure false:=by rfl)(hf:X.fn x=true\/X.env.scope.names.lookup x=some .local:=by first|exact .inl rfl|exact .inr rfl|assumption):
  US X F (.Assign [.Name x pos'] e pos) (rZ i u):=zHN hN hi hx he hs hf
theorem gD(i:Nat){ul:UTl}{pos':Pos}(hN:X.N.Nodup)(he:UL X F e ul)(hi:X.N[i]?=some x:=by rfl)(hx:Loc X.env.scope x:=by first|exact Or.inl rfl|exact Or.inr rfl)(hs:swapsWith e (some (.Name x pos')) pos.line X.env=pure false:=by rfl)(hf:X.fn x=true\/X.env.scope.names.lookup x=some .local:=by first|exact .inl rfl|exact .inr rfl|assumption):
  US X F (.Assign [.Name x pos'] e pos) (sA i ul):=zHP hN hi hx he hs hf
theorem bY{op:CmpOp}{r:P2}(ho:PuCmp X (compareOp op) r)(ha:UE X F a ua)(hb:UE X F b ub)(hm:behindInMarks op b=false:=by exact lN _):UB X F (.Compare a [op] [b] pos) (uB (uOp r ua ub)):=vT ho ha hb hm
theorem cE{op:CmpOp}{r:P2}(ho:fQ X (compareOp op) r)(ha:UE X F a ua)(hb:UE X F b ub)(hm:behindInMarks op b=false:=by exact lN _):UE X F (.Compare a [op] [b] pos) (uOp r ua ub):=zHT ho ha hb hm
structure Cq (X:Cx) (sc scope:Scope) (XN N:List Str) (fr:List Nat) (x:Str) (iter:Expr):Prop where
 hc:X.calm=true:=by rfl
 k1:scope.kind=.function:=by rfl
 k2:∀y∈scope.names,y.2≠.cell:=by decide +kernel
 k3:∀y∈scope.names,y.2=.free->sc.names.lookup y.1=some .cell\/sc.names.lookup y.1=some .free:=by decide +kernel
 k4:∀y∈scope.names,y.2=.local->scope.names.lookup y.1=some .local:=by decide +kernel
 k5:N.drop 1=fr.filterMap λi=>XN[i]?:=by rfl
 k6:∀i∈fr,i<XN.length:=by decide +kernel
 k7:1<=N.length:=by decide
 k8:∀x∈N.drop 1,scope.names.lookup x=some .free:=by decide +kernel
 nd:fr.Nodup:=by decide
 nN:N.Nodup:=by decide +kernel
 h0:N[0]?=some x:=by rfl
 hl:∀cl C fp s H,Loc (bU X N scope cl C fp s H).env.scope x:=by intros;first|exact Or.inl rfl|exact Or.inr rfl
 hfn:∀cl C fp s H,(bU X N scope cl C fp s H).fn x=true\/(bU X N scope cl C fp s H).env.scope.names.lookup x=some .local:=by intros;first|exact .inl rfl|exact .inr rfl
 hs:∀x,foldedSetIterable iter X.env x=pure x:=by intro _;rfl
 hsc:X.env.scope=sc:=by rfl
 hxn:X.N=XN:=by rfl
section
variable{z:Str}{pos' spos:Pos}(i:Nat)(hN:X.N.Nodup)(hi:UI X F (.Name x p) iter ui)(hf:∀cl C fp s H,UF (bU X N scope cl C fp s H) F ifs tf)(he:∀cl C fp s H,UE (bU X N scope cl C fp s H) F elt ue)
include hi hf he
theorem lT(c:Cq X sc scope XN N fr x iter:=by exact {}):UL X F (.ListComp elt [⟨.Name x p,iter,ifs,0⟩] scope pos) (jY 1 fr ui (gN 0) tf ue):=
 uV c.hc ⟨c.k1,c.k2,c.k3,c.k4,c.k5,c.k6,c.k7,c.k8⟩ c.nd hi (λcl C fp s H=>dH 0 (by decide) c.nN c.h0 (c.hl cl C fp s H) (c.hfn cl C fp s H)) hf he c.hs c.hsc c.hxn
include hN
theorem fM(c:Cq X sc scope XN N fr x iter:=by exact {})(hz:X.N[i]?=some z:=by rfl)(hzl:Loc X.env.scope z:=by first|exact Or.inl rfl|exact Or.inr rfl)
  (hsw:swapsWith (.ListComp elt [⟨.Name x p,iter,ifs,0⟩] scope pos) (some (.Name z pos')) spos.line X.env=pure true:=by rfl)
  (hf':X.fn z=true\/X.env.scope.names.lookup z=some .local:=by first|exact .inl rfl|exact .inr rfl|assumption):US X F (.Assign [.Name z pos'] (.ListComp elt [⟨.Name x p,iter,ifs,0⟩] scope pos) spos) (rZ i (uL (jY 1 fr ui (gN 0) tf ue))):=
 zGx c.hc hN hz hzl ⟨c.k1,c.k2,c.k3,c.k4,c.k5,c.k6,c.k7,c.k8⟩ c.nd hi (λcl C fp s H=>dH 0 (by decide) c.nN c.h0 (c.hl cl C fp s H) (c.hfn cl C fp s H)) hf he hsw hf' c.hs c.hsc c.hxn
end
theorem cK(hi:UI X F (.Name x p) iter ui)(he:∀cl C fp s H,UE (bU X N scope cl C fp s H) F elt ue)(c:Cq X sc scope XN N fr x iter:=by exact {}):UL X F (.ListComp elt [⟨.Name x p,iter,[],0⟩] scope pos) (jY 1 fr ui (gN 0) zCv ue):=lT hi (λ_ _ _ _ _=>hJ) he c
theorem aQ{m:Nat}(hr:Room m X.A)(ha:UE X F a ua)(hb:UE X F b ub)(hs:qM b:=by intro _ _;rfl):UE X F (.Subscript a b pos) (uOp pIx ua ub):=zJo (zJZ hr.units) ha hb hs
theorem bP{m:Nat}(hr:Room m X.A)(ha:UE X F a ua)(hb:UE X F b ub):UB X F (.Compare a [.Eq] [b] pos) (uB (uOp pEq ua ub)):=vT (eN hr.units) ha hb (lN _)
theorem dO{m:Nat}(hr:Room m X.A)(ha:UE X F a ua)(hb:UE X F b ub):UB X F (.Compare a [.NotEq] [b] pos) (uB (uOp pNe ua ub)):=vT (wK hr.units) ha hb (lN _)
end
end L2
namespace My
open PySem L2 PyProof.Rows WordM
def top(i:Nat):Stmt:=PySem.Challenge.pw_leastform_k30_parts_of_forms.main.body.getD i (.Pass ⟨0,0,0,0⟩)
abbrev s0_:Stmt:=top 2
abbrev s1_:Stmt:=top 3
abbrev s2_:Stmt:=top 4
abbrev s3_:Stmt:=top 6
abbrev s4_:Stmt:=top 11
abbrev s5_:Stmt:=top 12
abbrev s6_:Stmt:=top 13
abbrev s7_:Stmt:=top 14
abbrev s8_:Stmt:=top 15
abbrev s9_:Stmt:=top 16
abbrev sS:Stmt:=top 17
abbrev xK:Stmt:=top 18
abbrev xJ:Stmt:=top 23
abbrev xI:Stmt:=top 24
abbrev sR:Stmt:=top 25
abbrev oW:Stmt:=top 26
abbrev oV:Stmt:=top 27
abbrev oU:Stmt:=top 28
abbrev oT:Stmt:=top 29
abbrev sQ:Stmt:=top 30
abbrev xH:Stmt:=top 31
abbrev sP:Stmt:=top 32
abbrev sO:Stmt:=top 33
abbrev sM:Stmt:=top 34
abbrev mK:Stmt:=top 35
abbrev oS:Stmt:=top 36
abbrev sL:Stmt:=top 37
abbrev sK:Stmt:=top 38
abbrev mJ:Stmt:=top 39
abbrev xG:Stmt:=top 41
abbrev xF:Stmt:=top 42
abbrev xE:Stmt:=top 43
abbrev xD:Stmt:=top 44
abbrev xC:Stmt:=top 45
abbrev xB:Stmt:=top 46
abbrev xA:Stmt:=top 47
abbrev sJ:Stmt:=top 48
abbrev wZ:Stmt:=top 49
abbrev wY:Stmt:=top 50
abbrev sI:Stmt:=top 51
abbrev oR:Stmt:=top 52
abbrev sH:Stmt:=top 53
abbrev sG:Stmt:=top 54
abbrev sF:Stmt:=top 55
abbrev kF:Stmt:=top 56
abbrev sE:Stmt:=top 57
abbrev sD:Stmt:=top 58
abbrev mI:Stmt:=top 59
abbrev mH:Stmt:=top 60
abbrev wX:Stmt:=top 61
abbrev wW:Stmt:=top 62
abbrev kE:Stmt:=top 63
abbrev wV:Stmt:=top 64
abbrev kD:Stmt:=top 65
abbrev gE:Stmt:=top 66
abbrev sC:Stmt:=top 67
abbrev kC:Stmt:=top 68
abbrev sB:Stmt:=top 69
abbrev wU:Stmt:=top 70
abbrev iI:Stmt:=top 71
section
variable{P:Program}{w:World}{K:W.Frag}{mg:Str->Option Value}{base:Heap}
theorem _root_.L2.On.put{p c:Addr}{H:Hp}(d:DeckAt H p c)(S k:Int):On p c H (upd H p (.lst [.ref c,.int S,.int k])):=by
 obtain⟨ns,e',l⟩:=d.cs
 exact⟨⟨d.ne,⟨S,k,bE⟩,ns,by rw[bF d.ne.symm];exact e',l⟩,λb o h hp _=>by rw[bF hp];exact h⟩
theorem _root_.L2.On.cut{p c:Addr}{H:Hp}(d:DeckAt H p c)(ns:List Int)(h:ns.length<=64):On p c H (upd H c (.lst (ns.map V.int))):=by
 obtain⟨S,k,e⟩:=d.dk
 exact⟨⟨d.ne,⟨S,k,by rw[bF d.ne];exact e⟩,ns,bE,h⟩,λb o h _ hc=>by rw[bF hc];exact h⟩
theorem zE3(ns:List Int):(ns.map V.int).all cY=true:=by
 rw[List.all_map]
 exact List.all_eq_true.mpr λ_ _=>rfl
theorem zGe(ns:List Int):fO (ns.map V.int) []=ns.isEmpty:=by cases ns<;>rfl
theorem sc_mixed:bC ["_law_number_here","_law_k"] ["_law_number_here","_law_k"] (aJ xG):=fsc (by decide +kernel)
theorem zHw(h:Has K mg "_law_mixed" xG):Good P w K mg base 1 "_law_mixed" ["_law_number_here","_law_k"] zAW:=by
 refine h.good sc_mixed (fun|_,_,_,_,_,_,[_,_],_=>rfl) (λvs H Q E q=>?_) (λf cdv A outer s H vs Q E hr q=>?_)
 ·obtain⟨n,k,rfl,_⟩:=q
  rfl
 ·obtain⟨n,k,rfl,q⟩:=q
  have nd:=sc_mixed.nd
  refine⟨_,(gJ (hZ (i:=0) nd rfl (by first|exact Or.inl rfl|exact Or.inr rfl) (cR iA (cR op_mul (cR op_add (cR op_add (cR iA (pv 0) cA) (cR op_mul cA (pv 1))) cA) cA) cA))
   (gJ (hZ (i:=0) nd rfl (by first|exact Or.inl rfl|exact Or.inr rfl) (cR iA (cR op_add (cR op_add (cR op_mul (pv 0) (pv 0)) (cR op_mul cA (pv 1))) cA) cA))
   (lG (lL (cR zBe (cR iA (cR op_mul (cR op_add (cR op_mul (cR iA (pv 0) cA) cA) (cR zBe (pv 0) cA)) cA) cA) cA))))),?_⟩
  refine⟨_,rfl,_,_,rfl,rfl,(by show(0:Int)<_;decide),_,rfl,_,_,rfl,rfl,.inl ⟨by decide,by decide⟩,_,_,rfl,rfl,_,_,rfl,rfl,_,_,rfl,rfl,.inr ⟨by decide,by decide⟩,_,_,rfl,rfl,(by show(0:Int)<_;decide),?_⟩
  refine⟨_,rfl,_,rfl,_,_,rfl,rfl,?c,_,rfl,_,_,rfl,rfl,.inl ⟨by decide,by decide⟩,_,_,rfl,rfl,_,_,rfl,rfl,_,_,rfl,rfl,(by show(0:Int)<_;decide),?_⟩
  case c=>
   refine .inl ⟨?_,?_⟩
   ·exact Int.lt_of_lt_of_le (by decide) (Int.emod_nonneg _ (by decide))
   ·exact Int.lt_trans (Int.emod_lt_of_pos _ (by decide)) (by decide)
  refine⟨_,rfl,_,_,rfl,rfl,(by show(0:Int)<_;decide),_,_,rfl,rfl,.inr ⟨by decide,by decide⟩,_,rfl,_,_,rfl,rfl,⟨by decide,by decide⟩,_,_,rfl,rfl,_,_,rfl,rfl,.inr ⟨by decide,by decide⟩,_,_,rfl,rfl,(by show(0:Int)<_;decide),_,_,rfl,rfl,⟨by decide,by decide⟩,?_⟩
  exact q _
theorem sc_deck:bC ["_law_script","_law_cells"] ["_law_script"] (aJ xF):=fsc (by decide +kernel)
theorem zKm(ns:List Int):fP (ns.map V.int) none (some 63)=(ns.take 63).map V.int:=by
 unfold fP
 have e1:HT.sIx (ns.map V.int).length 0 none=0:=rfl
 rw[e1,List.drop_zero,Nat.sub_zero,List.map_take]
 by_cases h:ns.length<=63
 ·rw[List.take_of_length_le (by simp[HT.sIx]<;>omega),List.take_of_length_le (by simpa using h)]
 ·congr 1
  simp[HT.sIx]<;>omega
theorem zJd(h:Has K mg "_law_deck" xF)(B:Own mg):Good P w K mg base 1 "_law_deck" ["_law_script"] (zBK K):=by
 refine h.good sc_deck (fun|_,_,_,_,_,_,[_],_=>rfl) (λvs H Q E q=>?_) (λf cdv A outer s H vs Q E hr q=>?_)
 ·obtain⟨a,ns,rfl,_⟩:=q
  rfl
 ·obtain⟨a,ns,rfl,hS,q⟩:=q
  have nd:=sc_deck.nd
  refine⟨_,(gJ (hZ (i:=1) nd rfl (by first|exact Or.inl rfl|exact Or.inr rfl) (iP yE rfl B.list_ boot_list (dA (zAl sl_list (pv 0) zA9 (zA8 cA)) dS)))
   (lG (lL (@zBd _ _ _ _ (@xL _ _ _ _ _ (zIC (pv 1) (zCe zBC cA)) (@xL _ _ _ _ _ (cR op_add (jL (zW rfl) rfl B.sum boot_sum (dA (pv 1) dS)) (cR op_mul cA (jL call_len_seq rfl B.len PySem.boot_len (dA (pv 1) dS)))) (@xL _ _ _ _ _ cA zBN rfl) rfl) rfl))))),?_⟩
  refine⟨_,rfl,_,rfl,a,_,rfl,hS,λl1 h1=>?_⟩
  have e1:upd H l1 (.lst (fP (ns.map V.int) none (some 63)))=upd H l1 (.lst ((ns.take 63).map V.int)):=by rw[zKm]
  rw[e1]
  refine⟨l1,_,rfl,.inl (SqL.of bE),λl2 h2=>?_⟩
  refine⟨_,rfl,_,rfl,rfl,l2,_,rfl,SqL.of bE,λl3 h3=>?_⟩
  have n23:l2≠l3:=dR bE h3
  refine⟨_,rfl,l2,ns.take 63,rfl,SqL.of (by rw[bF n23];exact bE),_,rfl,l2,_,rfl,.inl (SqL.of (by rw[bF n23];exact bE)),_,_,rfl,rfl,.inl ⟨by decide,by decide⟩,_,_,rfl,rfl,(by show 3<=sizeLine;decide),λl4 h4=>?_⟩
  have n34:l3≠l4:=dR bE h4
  have f1:∀b o,H b=some o->upd H l1 (.lst ((ns.take 63).map V.int)) b=some o:=λb o e=>by rw[bF (dR e h1)];exact e
  have s1:Same H (upd H l1 (.lst ((ns.take 63).map V.int))):=f1
  have s2:Same H (upd (upd H l1 (.lst ((ns.take 63).map V.int))) l2 (.lst ((ns.take 63).map V.int))):=λb o e=>by rw[bF (dR (s1 b o e) h2)];exact s1 b o e
  have s3:Same H (upd (upd (upd H l1 (.lst ((ns.take 63).map V.int))) l2 (.lst ((ns.take 63).map V.int))) l3 (.lst ((ns.take 63).map V.int).reverse)):=λb o e=>by rw[bF (dR (s2 b o e) h3)];exact s2 b o e
  refine q l4 l3 _ (s3.free h4) (s2.free h3) ⟨n34.symm,⟨_,_,bE⟩,(ns.take 63).reverse,?_,?_⟩ λb o e=>?_
  ·rw[bF n34,bE,List.map_reverse]
  ·rw[List.length_reverse,List.length_take];omega
  ·rw[bF (dR (s3 b o e) h4)];exact s3 b o e
theorem sc_take:bC ["_law_deck_here","_law_most","_law_cell"] ["_law_deck_here","_law_most"] (aJ xE):=fsc (by decide +kernel)
theorem zJc(h:Has K mg "_law_take" xE)(G29_:Good P w K mg base 1 "_law_mixed" ["_law_number_here","_law_k"] zAW):Good P w K mg base 2 "_law_take" ["_law_deck_here","_law_most"] zBJ:=by
 refine h.good sc_take (fun|_,_,_,_,_,_,[_,_],_=>rfl) (λvs H Q E q=>?_) (λf cdv A outer s H vs Q E hr q=>?_)
 ·obtain⟨p,c,m,rfl,_⟩:=q
  rfl
 ·obtain⟨p,c,m,rfl,d,hm,hB,q⟩:=q
  have nd:=sc_take.nd
  have hu:=Nat.lt_of_succ_lt (zCl hr)
  obtain⟨hne,⟨S,k,hp⟩,ns,hc,hl⟩:=id d
  refine⟨_,(gJ (zIv (cR op_add (iG ix_list (pv 0) cA (λ_ _=>rfl)) cA) (zIy (pv 0) cA zFz))
   (gJ (wM (vB (zIT hu) (iG ix_list (pv 0) cA (λ_ _=>rfl)) (@zBd _ _ _ _ zBN) (lN _))
    (lG (lL (cR iA (rK G29_ (hr.mono (by first|decide|omega)) rfl (dA (iG ix_list (pv 0) cA (λ_ _=>rfl)) (dA (iG ix_list (pv 0) cA (λ_ _=>rfl)) dS))) (pv 1))))
    vG)
   (gJ (hZ (i:=2) nd rfl (by first|exact Or.inl rfl|exact Or.inr rfl) (zIH PySem.F.plainAttrs_list PySem.F.slot_list_pop PySem.F.type_list_pop zIZ (iG ix_list (pv 0) cA (λ_ _=>rfl))))
   (gJ (wM (vB op_lt (pv 2) (cR zBW cA cA) (lN _))
    (lG (lL (cR iA (rK G29_ (hr.mono (by first|decide|omega)) rfl (dA (pv 2) (dA (iG ix_list (pv 0) cA (λ_ _=>rfl)) dS))) (pv 1))))
    vG)
   (gJ (zA7 (lW PySem.F.plainAttrs_list PySem.F.slot_list_append PySem.F.type_list_append uE (iG ix_list (pv 0) cA (λ_ _=>rfl)) (dA (cR zAn (pv 2) (pv 1)) dS)))
   (lG (lL (cR iA (pv 2) (pv 1))))))))),?_⟩
  -- deck[2]=deck[2]+1
  refine⟨_,rfl,p,_,_,_,rfl,rfl,SqL.of hp,rfl,_,_,rfl,rfl,_,rfl,p,_,_,2,rfl,rfl,hp,rfl,?_⟩
  have o1:On p c H (upd H p (.lst [.ref c,.int S,.int (k+1)])):=On.put d S (k+1)
  have hc1:upd H p (.lst [.ref c,.int S,.int (k+1)]) c=some (.lst (ns.map V.int)):=by rw[bF hne.symm];exact hc
  -- if deck[0]==[]
  refine⟨_,rfl,p,_,_,_,rfl,rfl,SqL.of bE,rfl,Nat.zero_le _,λl hfree=>?_⟩
  have npl:p≠l:=(o1.d.nep hfree).symm
  have ncl:c≠l:=(o1.d.nec hfree).symm
  have o2:=o1.alloc (o:=.lst []) hfree
  have hp2:upd (upd H p (.lst [.ref c,.int S,.int (k+1)])) l (.lst []) p=some (.lst [.ref c,.int S,.int (k+1)]):=by rw[bF npl];exact bE
  have hc2:upd (upd H p (.lst [.ref c,.int S,.int (k+1)])) l (.lst []) c=some (.lst (ns.map V.int)):=by rw[bF ncl];exact hc1
  refine⟨c,l,_,[],rfl,rfl,SqL.of hc2,SqL.of bE,zE3 ns,rfl,_,rfl,?_⟩
  rw[show(if false=true then !fO (ns.map V.int) [] else fO (ns.map V.int) [])=ns.isEmpty from zGe ns]
  have fin:∀r H',On p c H H'->Q (.int (r % m)) H':=λr H' o=>q (r % m) H' (Int.emod_nonneg _ (by omega)) (Int.emod_lt_of_pos _ hm) o
  rcases List.eq_nil_or_concat ns with e|⟨init,z,e⟩
  ·subst e
   refine aN ?_
   refine⟨_,rfl,p,_,_,_,rfl,rfl,SqL.of hp2,rfl,_,rfl,p,_,_,_,rfl,rfl,SqL.of hp2,rfl,_,_,rfl,λr=>?_⟩
   exact⟨_,rfl,_,_,rfl,rfl,hm,fin r _ o2⟩
  ·rw[List.concat_eq_append]at e
   subst e
   rw[show(init++[z]).isEmpty=false by simp]
   refine aL ?_
   have hlast:((init++[z]).map V.int)[((init++[z]).map V.int).length-1]?=some (.int z):=by simp
   have hdrop:((init++[z]).map V.int).dropLast=init.map V.int:=by simp
   -- cell=deck[0].pop()
   refine⟨_,rfl,p,_,_,_,rfl,rfl,SqL.of hp2,rfl,.inl ⟨rfl,_,SqL.of hc2⟩,c,_,_,rfl,rfl,hc2,hlast,?_⟩
   rw[hdrop]
   have hli:init.length<=63:=by rw[List.length_append,List.length_singleton]at hl;omega
   have o3:=o2.trans (On.cut o2.d init (by omega))
   have hp3:upd (upd (upd H p (.lst [.ref c,.int S,.int (k+1)])) l (.lst [])) c (.lst (init.map V.int)) p=some (.lst [.ref c,.int S,.int (k+1)]):=by rw[bF hne];exact hp2
   -- if cell<10 ** 18
   refine⟨_,rfl,_,_,rfl,rfl,⟨by decide,by decide,by decide⟩,_,_,rfl,rfl,_,rfl,?_⟩
   refine zLc (λ_=>?_) (λ_=>?_)
   ·refine⟨_,rfl,_,rfl,p,_,_,_,rfl,rfl,SqL.of hp3,rfl,_,_,rfl,λr=>?_⟩
    exact⟨_,rfl,_,_,rfl,rfl,hm,fin r _ o3⟩
   ·refine⟨_,rfl,p,_,_,_,rfl,rfl,SqL.of hp3,rfl,.inl ⟨rfl,_,SqL.of bE⟩,_,rfl,_,rfl,_,_,rfl,rfl,⟨hm,hB⟩,c,_,_,rfl,rfl,bE,zEv (by rw[List.length_map];omega),?_⟩
    rw[show init.map V.int++[V.int (z / m)]=(init++[z / m]).map V.int by simp]
    have o4:=o3.trans (On.cut o3.d (init++[z / m]) (by rw[List.length_append,List.length_singleton];omega))
    exact⟨_,rfl,_,rfl,_,_,rfl,rfl,hm,fin z _ o4⟩
end
end My
namespace My
open PySem L2 PyProof.Rows WordM
section
variable{P:Program}{w:World}{K:W.Frag}{mg:Str->Option Value}{base:Heap}
def qH:PSp:=λas R=>as=[]/\R (sT SIG)
theorem C32_:bC ["_law_signs_here"] [] (aJ xD):=fsc (by decide +kernel)
theorem zLI(h:Has K mg "_law_signs" xD)(B:Own mg)    : aE P w K mg base 1 "_law_signs" [] qH:=by
 have nd:=C32_.nd
 refine h.pgood C32_ (fun|_,_,_,_,_,_,[],_=>rfl) (λf cdv A outer s H E F hr=>
   (aG (aT 0 nd bA)
   (aH (aO (aW bO (aA 0) bA))))) (λas R q=>?_)
 obtain⟨rfl,q⟩:=q
 exact⟨rfl,show sigA.length+sigB.length<=100000 by decide +kernel,q⟩
def nX:PSp:=λas R=>∃m:Int,as=[.dk,.va (iT m)]/\0<=m/\m<=1000/\∀x:Str,Sg x->(x.length:Int)<=m->R (sT x)
theorem zJj{z:Str}{r:Int}(h0:0<=r)(h1:r<z.length):∃c,atI z.cps.toList r=some c/\c∈cs z:=by
 have hl:r.toNat<(cs z).length:=by rw[<-WordM.len];omega
 refine⟨(cs z)[r.toNat],?_,List.getElem_mem hl⟩
 have:=cM (xs:=cs z) (j:=r.toNat) (List.getElem?_eq_getElem hl)
 rw[show((r.toNat:Nat):Int)=r by omega]at this
 exact this
theorem gG{α:Type}{l:List α}{r:Int}(h0:0<=r)(h1:r<l.length):∃m,atI l r=some m/\m∈l:=by
 have hl:r.toNat<l.length:=by omega
 refine⟨l[r.toNat],?_,List.getElem_mem hl⟩
 have:=cM (xs:=l) (j:=r.toNat) (List.getElem?_eq_getElem hl)
 rw[show((r.toNat:Nat):Int)=r by omega]at this
 exact this
theorem C33_:bC ["_law_deck_here","_law_most","_law_signs_here","_law_some","_law_text_here","_law_k"] ["_law_deck_here","_law_most"] (aJ xC):=fsc (by decide +kernel)
theorem zLH(h:Has K mg "_law_text" xC)(B:Own mg)(G32_:aE P w K mg base 1 "_law_signs" [] qH)(G31_:aE P w K mg base 2 "_law_take" ["_law_deck_here","_law_most"] dM)   : aE P w K mg base 3 "_law_text" ["_law_deck_here","_law_most"] nX:=by
 have nd:=C33_.nd
 refine h.pgood C33_ (fun|_,_,_,_,_,_,[_,_],_=>rfl) (λf cdv A outer s H E F hr=>
   (aG (aT 2 nd (zBE G32_ (hr.mono (by omega)) rfl))
   (aG (aT 3 nd (aQ hr (aX (bR (aB (aA 2) (aB (aA 2) (aB bA (aB bA (aB bA (aB bA aC)))))))) (aI G31_ hr (aY 0 (aB aD aC)))))
   (aG (aT 4 nd bA)
   (aG (eZ (m:=6) PassesOwn.never rfl (fT rfl B.range (aB (aI G31_ hr (aY 0 (aB (aW bO (aA 1) aD) aC))) aC)) (dH 5 (by decide) nd rfl (.inl rfl))
    (aH (aT 4 nd (aW bO (aA 4) (aQ hr (aA 3) (aI G31_ hr (aY 0 (aB (bB bL rfl B.len PySem.boot_len (aB (aA 3) aC)) aC))))))))
   (aH (aO (aA 4)))))))) (λas R q=>?_)
 obtain⟨m,rfl,m0,m1,q⟩:=q
 refine⟨rfl,rfl,?_⟩
 refine⟨by decide,rfl,6,rfl,by decide,bD (by decide) (by decide),λr r0 r6=>?_⟩
 obtain⟨z,hz,hzm⟩:=gG (l:=[sT SIG,sT SIG,sT "0123456789",sT "abc",sT "XYZ",sT "a1"]) r0 r6
 refine⟨z,hz,?_⟩
 have hzs:∃y,z=sT y/\Sg y/\0<y.length/\y.length<=100:=by
  simp only[List.mem_cons,List.not_mem_nil,or_false]at hzm
  rcases hzm with e|e|e|e|e|e<;>subst e
  ·exact⟨_,rfl,λ_ h=>h,by decide +kernel,by decide +kernel⟩
  ·exact⟨_,rfl,λ_ h=>h,by decide +kernel,by decide +kernel⟩
  ·exact⟨_,rfl,by decide +kernel,by decide +kernel,by decide +kernel⟩
  ·exact⟨_,rfl,by decide +kernel,by decide +kernel,by decide +kernel⟩
  ·exact⟨_,rfl,by decide +kernel,by decide +kernel,by decide +kernel⟩
  ·exact⟨_,rfl,by decide +kernel,by decide +kernel,by decide +kernel⟩
 clear hz hzm
 obtain⟨y,rfl,y1,y2,y3⟩:=hzs
 refine⟨rfl,m+1,rfl,by omega,bD (by omega) (by omega),λn n0 n1=>⟨n,rfl,by omega,by omega,?_⟩⟩
 refine jM (λi ρ=>∃(x:Str) (s:Sl),Sg x/\x.length=i/\ρ=[.dk,.va (iT m),.va (sT SIG),.va (sT y),.va (sT x),s]) ⟨⟨#[]⟩,.no,zH5,rfl,rfl⟩ ?_ ?_
 ·rintro i T _ N hT ⟨x,s,sx,lx,rfl⟩ hN
  have hi:=(jK hT).1
  refine⟨rfl,by omega,?_⟩
  refine⟨y.length,rfl,by omega,bD (by omega) (by omega),λk k0 k1=>⟨by omega,?_⟩⟩
  obtain⟨c,hc,hcm⟩:=zJj (z:=y) k0 k1
  refine⟨c,hc,by show x.length+1<=100000;omega,hN _ ⟨x++⟨#[c]⟩,_,sx.app (y1.one hcm),?_,rfl⟩⟩
  rw[WordM.len,WordM.app,List.length_append,<-WordM.len,lx]
  rfl
 ·rintro _ ⟨x,s,sx,lx,rfl⟩
  refine q x sx ?_
  rw[lx,eQ]
  omega
end
section
variable{P:Program}{w:World}{K:W.Frag}{mg:Str->Option Value}{base:Heap}
theorem zH4(a:Int):Sg ⟨#[fA a]⟩:=λcc hc=>by
 have e:cc=fA a:=by simpa using hc
 rw[e]
 exact zEz _
def zCQ(m:Int)(ss:List Str):Prop:=ss.Nodup/\∀s∈ss,Sg s/\(s.length:Int)<=(if m<1 then 1 else m)
def uM:PSp:=λas R=>∃n m:Int,as=[.dk,.va (iT n),.va (iT m)]/\0<=n/\n<=63/\0<=m/\m<=1000/\∀ss:List Str,(ss.length:Int)=n->zCQ m ss->R (.seq false (ss.map sT))
theorem C34_:bC ["_law_deck_here","_law_many","_law_most","_law_signs_here","_law_found","_law_k","_law_text_here","_law_at"] ["_law_deck_here","_law_many","_law_most"] (aJ xB):=fsc (by decide +kernel)
theorem zLG(h:Has K mg "_law_unlike" xB)(B:Own mg)(G32_:aE P w K mg base 1 "_law_signs" [] qH)(G33_:aE P w K mg base 3 "_law_text" ["_law_deck_here","_law_most"] nX)   : aE P w K mg base 4 "_law_unlike" ["_law_deck_here","_law_many","_law_most"] uM:=by
 have nd:=C34_.nd
 refine h.pgood C34_ (fun|_,_,_,_,_,_,[_,_,_],_=>rfl) (λf cdv A outer s H E F hr=>
   (aG (aT 3 nd (zBE G32_ (hr.mono (by omega)) rfl))
   (aG (gD 4 nd (bR aC))
   (aG (eZ (m:=8) PassesOwn.never rfl (fT rfl B.range (aB (aA 1) aC)) (dH 5 (by decide) nd rfl (.inl rfl))
    (aG (aT 6 nd (aI G33_ hr (aY 0 (aB (aA 2) aC))))
    (aG (aT 7 nd (qN PySem.F.slot_str_find PySem.F.type_str_find zGY (aA 3) (aB (nD oJ (aA 6) nH (nG aD)) aC)))
    (aG (pV PassesOwn.never (zAR λF=>(bY (lU hr.units) (aA 6) (aA 4) rfl))
     (aG (aT 7 nd (aW qQ (aW bO (aA 7) aD) (bB bL rfl B.len PySem.boot_len (aB (aA 3) aC))))
     (aH (aT 6 nd (aW bO (aQ hr (aA 3) (aA 7)) (nD oJ (aA 6) (nG aD) nH))))))
    (aH (fH (iO 4 (aA 6))))))))
   (aH (aO (aA 4))))))) (λas R q=>?_)
 obtain⟨n,m,rfl,n0,n63,m0,m1,q⟩:=q
 have hsl:SIG.length=94:=uY
 refine⟨rfl,rfl,by decide,n,rfl,by omega,by omega,?_⟩
 refine jM (λi ρ=>∃(ss:List Str) (s5 s6 s7:Sl),ss.length=i/\zCQ m ss/\ρ=[.dk,.va (iT n),.va (iT m),.va (sT SIG),.own (ss.map sT),s5,s6,s7]) ⟨[],.no,.no,.no,rfl,⟨List.nodup_nil,λs hs=>nomatch hs⟩,rfl⟩ ?_ ?_
 ·rintro i T _ N hT ⟨ss,s5,s6,s7,hlen,htx,rfl⟩ hN
  obtain⟨hi,rfl⟩:=jK hT
  refine⟨rfl,m,rfl,m0,m1,λx0 sx0 hx0=>?_⟩
  refine⟨rfl,1,rfl,by omega,SIG,_,rfl,rfl,λa0=>?_⟩
  let r:Str:=Txt.slice x0 (some 1) none
  have hr1:r.length+1<=(if x0.length<1 then 1 else x0.length):=zDN x0
  have sr:Sg r:=sx0.slice _ _
  refine⟨λM ρ=>∃(j:Nat) (x:Str),M+j=ss.length+2/\j<=ss.length+1/\(∀i,1<=i->i<j->fB a0 r i∈ss)/\(j=0/\x=x0\/1<=j/\x=fB a0 r j) /\
    ρ=[.dk,.va (iT n),.va (iT m),.va (sT SIG),.own (ss.map sT),.va (iT (0+(i:Int))),.va (sT x),.va (iT (if j=0 then a0 else(a0+j) % 94))],
   ⟨ss.length+2,0,x0,rfl,Nat.zero_le _,λi h1 h2=>absurd h2 (Nat.not_lt_zero _),.inl ⟨rfl,rfl⟩,rfl⟩,?_⟩
  rintro M _ ⟨j,x,hM,hj,htr,hx,rfl⟩
  have hxl:Sg x/\(x.length:Int)<=(if m<1 then 1 else m)/\Txt.slice x (some 1) none=r:=by
   rcases hx with⟨_,rfl⟩|⟨_,rfl⟩
   ·refine⟨sx0,?_,rfl⟩
    split<;>omega
   ·refine⟨Sg.app (zH4 _) sr,?_,zDL⟩
    have:(fB a0 r j).length=r.length+1:=by
     unfold fB
     rw[WordM.len,WordM.app,WordM.len,List.length_append]
     simp
     omega
    rw[this]
    split at hr1<;>split<;>omega
  obtain⟨sx,hxm,hxr⟩:=hxl
  have hx1000:x.length<=1000:=by split at hxm<;>omega
  refine⟨zAu,_,rfl,?_⟩
  rw[zBy]
  refine sif (λh1=>?_) (λh1=>?_)
  ·have h1:x∈ss:=by simpa using h1
   have hall:∀i,1<=i->i<=j->fB a0 r i∈ss:=λi i1 i2=>by
    rcases Nat.lt_or_eq_of_le i2 with z|z
    ·exact htr i i1 z
    ·rcases hx with⟨z0,_⟩|⟨_,e⟩
     ·omega
     ·rw[z,<-e];exact h1
   have hjs:j<=ss.length:=zFv (by omega) hall
   have hmod:((if j=0 then a0 else(a0+(j:Int)) % 94)+1) % 94=(a0+((j+1:Nat):Int)) % 94:=by
    split
    ·rename_i z;subst z;congr 1
    ·push_cast;omega
   have hsl':((SIG.length:Nat):Int)=94:=by rw[hsl];rfl
   have e1:((if j=0 then a0 else(a0+(j:Int)) % 94)+1) % ((SIG.length:Nat):Int)=(a0+((j+1:Nat):Int)) % 94:=by rw[hsl',hmod]
   have hat:atI SIG.cps.toList (((if j=0 then a0 else(a0+(j:Int)) % 94)+1) % ((SIG.length:Nat):Int))=some (fA (a0+((j+1:Nat):Int))):=by
    rw[e1]
    have b1:=Int.emod_lt_of_pos (a0+((j+1:Nat):Int)) (show(0:Int)<94 by decide)
    have b2:=Int.emod_nonneg (a0+((j+1:Nat):Int)) (show(94:Int)≠0 by decide)
    have hlt:((a0+((j+1:Nat):Int)) % 94).toNat<(cs SIG).length:=by rw[<-WordM.len];omega
    have:=cM (xs:=cs SIG) (j:=((a0+((j+1:Nat):Int)) % 94).toNat) (List.getElem?_eq_getElem hlt)
    rw[show((((a0+((j+1:Nat):Int)) % 94).toNat:Nat):Int)=(a0+((j+1:Nat):Int)) % 94 by omega]at this
    rw[this]
    unfold fA
    rw[List.getD_eq_getElem?_getD,List.getElem?_eq_getElem hlt]
    rfl
   refine⟨by omega,by omega,by omega,_,hat,1,rfl,by omega,?_,?_⟩
   ·show 1+(Txt.slice x (some 1) none).length<=100000
    rw[hxr]
    split at hr1<;>omega
   ·refine⟨ss.length+2-(j+1),by omega,j+1,fB a0 r (j+1),by omega,by omega,λi i1 i2=>hall i i1 (by omega),.inr ⟨by omega,rfl⟩,?_⟩
    show [Sl.dk,.va (iT n),.va (iT m),.va (sT SIG),.own (ss.map sT),.va (iT (0+(i:Int))),.va (sT ((⟨#[fA (a0+((j+1:Nat):Int))]⟩:Str)++Txt.slice x (some 1) none)),.va (iT (((if j=0 then a0 else(a0+(j:Int)) % 94)+1) % ((SIG.length:Nat):Int)))]=_
    rw[e1,if_neg (by omega),hxr]
    rfl
  ·have h1:x∉ss:=by simpa using h1
   refine⟨⟨_,rfl⟩,_,rfl,by rw[List.length_map];omega,hN _ ⟨ss++[x],.va (iT (0+(i:Int))),.va (sT x),.va (iT (if j=0 then a0 else(a0+j) % 94)),by rw[List.length_append,hlen];rfl,⟨?_,λs hs=>?_⟩,?_⟩⟩
   ·rw[List.nodup_append]
    exact⟨htx.1,by simp,λa ha b hb=>by rw[List.mem_singleton]at hb;subst hb;rintro rfl;exact h1 ha⟩
   ·rcases List.mem_append.mp hs with z|z
    ·exact htx.2 s z
    ·rw[List.mem_singleton]at z;subst z;exact⟨sx,hxm⟩
   ·rw[List.map_append];rfl
 ·rintro _ ⟨ss,s5,s6,s7,hlen,htx,rfl⟩
  rw[eQ]at hlen
  exact q ss (by omega) htx
def rJ:PSp:=λas R=>as=[.dk]/\∀r:Int,-(10 ^ 60)<r->r<10 ^ 60->R (iT r)
theorem C35_:bC ["_law_deck_here","_law_number_here","_law_k"] ["_law_deck_here"] (aJ xA):=fsc (by decide +kernel)
theorem zLF(h:Has K mg "_law_far" xA)(B:Own mg)(G31_:aE P w K mg base 2 "_law_take" ["_law_deck_here","_law_most"] dM)   : aE P w K mg base 3 "_law_far" ["_law_deck_here"] rJ:=by
 have nd:=C35_.nd
 refine h.pgood C35_ (fun|_,_,_,_,_,_,[_],_=>rfl) (λf cdv A outer s H E F hr=>
   (aG (aT 1 nd aD)
   (aG (eZ (m:=3) PassesOwn.never rfl (fT rfl B.range (aB aD aC)) (dH 2 (by decide) nd rfl (.inl rfl))
    (aH (aT 1 nd (aW bO (aW gO (aA 1) (aW nW aD aD)) (aI G31_ hr (aY 0 (aB (aW nW aD aD) aC)))))))
   (aH (aO (aW bO (aW eF (aW qQ (aA 1) (aW eF (aW gO aD (aW nW aD aD)) aD)) (aW nW aD aD)) aD)))))) (λas R q=>?_)
 obtain⟨rfl,q⟩:=q
 refine⟨rfl,8,rfl,by decide,by decide,?_⟩
 refine jM (λi ρ=>∃(x:Int) (s:Sl),0<=x/\x<10 ^ (8*i)/\ρ=[.dk,.va (iT x),s]) ⟨0,.no,by decide,by decide,rfl⟩ ?_ ?_
 ·rintro i T _ N hT ⟨x,s,x0,x1,rfl⟩ hN
  obtain⟨hi,rfl⟩:=jK hT
  have hi:i<8:=hi
  have xb:x<10 ^ 64:=Int.lt_of_lt_of_le x1 (by
   have:i=0\/i=1\/i=2\/i=3\/i=4\/i=5\/i=6\/i=7:=by omega
   rcases this with e|e|e|e|e|e|e|e<;>subst e<;>decide)
  refine⟨⟨by decide,by decide,by decide⟩,.inr ⟨bD (by omega) (by omega),bD (by decide) (by decide)⟩,rfl,⟨by decide,by decide,by decide⟩,10 ^ 8,rfl,by decide,bD (by decide) (by decide),λr r0 r1=>hN _ ⟨_,_,?_,?_,rfl⟩⟩
  ·show 0<=x*(10 ^ 8:Int)+r
   omega
  ·show x*(10 ^ 8:Int)+r<10 ^ (8*(i+1))
   have e:(10:Int) ^ (8*(i+1))=10 ^ (8*i)*10 ^ 8:=by rw[Nat.mul_add,Int.pow_add]
   rw[e]
   have h8:r<(10:Int) ^ 8:=r1
   generalize (10:Int) ^ (8*i)=y at x1
   omega
 ·rintro _ ⟨x,s,x0,x1,rfl⟩
  refine⟨⟨by decide,by decide,by decide⟩,.inl (.inl ⟨by decide,by decide⟩),(show(0:Int)<2*10 ^ 60-1 by decide),⟨by decide,by decide,by decide⟩,?_⟩
  have h1:=Int.emod_nonneg x (show(2*10 ^ 60-1:Int)≠0 by decide)
  have h2:=Int.emod_lt_of_pos x (show(0:Int)<2*10 ^ 60-1 by decide)
  refine q _ ?_ ?_
  ·show -(10 ^ 60)<x % (2*10 ^ 60-1)-10 ^ 60+1
   omega
  ·show x % (2*10 ^ 60-1)-10 ^ 60+1<10 ^ 60
   omega
end
section
variable{P:Program}{w:World}{K:W.Frag}{mg:Str->Option Value}{base:Heap}
structure eY (nm tx:List Str) (st sp:Int):Prop where
 n11:nm.length=11
 t9:tx.length=9
 nd:nm.Nodup
 ndt:tx.Nodup
 ns:∀s∈nm,Sg s/\s.length<=40
 ts:∀s∈tx,Sg s/\s.length<=43
 st1:-(10 ^ 57)<=st
 st2:st<=10 ^ 57
 sp1:1<=sp
 sp2:sp<=10 ^ 20
def dC(nm tx:List Str)(st sp:Int):Tv:=.seq false [.seq false (nm.map sT),.seq false (tx.map sT),iT st,iT sp]
def vC:PSp:=λas R=>as=[.dk]/\∀nm tx st sp,eY nm tx st sp->R (dC nm tx st sp)
theorem zHG{a b c:Str}(h:a++b=a++c):b=c:=by
 have:=congrArg cs h
 rw[WordM.app,WordM.app]at this
 exact jN (List.append_cancel_left this)
theorem C36_:bC ["_law_deck_here","_law_most","_law_names","_law_head","_law_texts","_law_start"] ["_law_deck_here"] (aJ sJ):=fsc (by decide +kernel)
theorem zLE(h:Has K mg "_law_world" sJ)(B:Own mg)(G31_:aE P w K mg base 2 "_law_take" ["_law_deck_here","_law_most"] dM)(G34_:aE P w K mg base 4 "_law_unlike" ["_law_deck_here","_law_many","_law_most"] uM)(G33_:aE P w K mg base 3 "_law_text" ["_law_deck_here","_law_most"] nX)(G35_:aE P w K mg base 3 "_law_far" ["_law_deck_here"] rJ)   : aE P w K mg base 5 "_law_world" ["_law_deck_here"] vC:=by
 have nd:=C36_.nd
 refine h.pgood C36_ (fun|_,_,_,_,_,_,[_],_=>rfl) (λf cdv A outer s H E F hr=>
   (aG (aT 1 nd (aQ hr (aX (bR (aB aD (aB aD (aB aD (aB aD (aB aD (aB aD (aB aD (aB aD aC)))))))))) (aI G31_ hr (aY 0 (aB aD aC)))))
   (aG (aT 2 nd (aI G34_ hr (aY 0 (aB aD (aB (aA 1) aC)))))
   (aG (aT 3 nd (aI G33_ hr (aY 0 (aB (aW gO aD (aI G31_ hr (aY 0 (aB aD aC)))) aC))))
   (aG (fM (sc:=aJ sJ) (XN:=["_law_deck_here","_law_most","_law_names","_law_head","_law_texts","_law_start"]) (N:=["_law_text_here","_law_head"]) (fr:=[3]) 4 nd (bG (aI G34_ hr (aY 0 (aB aD (aB (aA 1) aC))))) (λ_ _ _ _ _=>hJ) (λ_ _ _ _ _=>(aW bO (aA 1) (aA 0))))
   (aG (aT 5 nd (aQ hr (aX (bR (aB aD (aB aD (aB (zB9 zBO aD) (aB (aW vA (aI G35_ hr (aY 0 aC)) aD) aC)))))) (aI G31_ hr (aY 0 (aB aD aC)))))
   (aH (aO (aX (bR (aB (aA 2) (aB (aA 4) (aB (aA 5) (aB (aW bO aD (aI G31_ hr (aY 0 (aB (aQ hr (aX (bR (aB aD (aB (aW nW aD aD) aC)))) (aI G31_ hr (aY 0 (aB aD aC)))) aC)))) aC)))))))))))))) (λas R q=>?_)
 obtain⟨rfl,q⟩:=q
 refine⟨rfl,by decide,rfl,8,rfl,by decide,bD (by decide) (by decide),λr r0 r1=>?_⟩
 obtain⟨M,hM,hMm⟩:=gG (l:=[iT 4,iT 3,iT 5,iT 1,iT 4,iT 3,iT 6,iT 40]) r0 r1
 have hm:∃m:Int,M=iT m/\1<=m/\m<=40:=by
  simp only[List.mem_cons,List.not_mem_nil,or_false]at hMm
  rcases hMm with e|e|e|e|e|e|e|e<;>subst e<;>exact⟨_,rfl,by decide,by decide⟩
 obtain⟨m,rfl,m1,m2⟩:=hm
 refine⟨_,hM,?_⟩
 clear hM hMm
 refine⟨rfl,11,m,rfl,by decide,by decide,by omega,by omega,λnm hnm tnm=>?_⟩
 refine⟨rfl,rfl,2,rfl,by decide,bD (by decide) (by decide),λr2 a0 a1=>⟨.inl (.inl ⟨by decide,by decide⟩),_,rfl,by omega,by omega,λhd shd lhd=>?_⟩⟩
 refine⟨rfl,9,m,rfl,by decide,by decide,by omega,by omega,λtx htx ttx=>⟨by rw[List.length_map];omega,?_⟩⟩
 have lt:∀s∈tx,Sg s/\s.length<=40:=λs hs=>by
  have:=ttx.2 s hs
  refine⟨this.1,?_⟩
  have:=this.2
  split at this<;>omega
 refine dB sT (λs=>sT (hd++s)) (λs hs R q=>?_) ?_
 ·have:=(lt s hs).2
  exact⟨show hd.length+s.length<=100000 by omega,q⟩
 refine⟨rfl,rfl,λfr fr0 fr1=>⟨⟨by decide,bD (by decide) (by decide)⟩,(show 4<=100000 by decide),rfl,4,rfl,by decide,bD (by decide) (by decide),λr3 b0 b1=>?_⟩⟩
 obtain⟨S,hS,hSm⟩:=gG (l:=[iT 0,iT 7,iT (-40),iT (fr / 1000)]) b0 b1
 have hs:∃st:Int,S=iT st /\ -(10 ^ 57)<=st/\st<=10 ^ 57:=by
  simp only[List.mem_cons,List.not_mem_nil,or_false]at hSm
  rcases hSm with e|e|e|e<;>subst e
  ·exact⟨_,rfl,by decide,by decide⟩
  ·exact⟨_,rfl,by decide,by decide⟩
  ·exact⟨_,rfl,by decide,by decide⟩
  ·exact⟨_,rfl,by omega,by omega⟩
 obtain⟨st,rfl,st1,st2⟩:=hs
 refine⟨_,hS,?_⟩
 clear hS hSm
 refine⟨rfl,⟨by decide,by decide,by decide⟩,by decide,rfl,2,rfl,by decide,bD (by decide) (by decide),λr4 c0 c1=>?_⟩
 obtain⟨W,hW,hWm⟩:=gG (l:=[iT 6,iT (10 ^ 20)]) c0 c1
 have hw:∃wi:Int,W=iT wi/\1<=wi/\wi<=10 ^ 20:=by
  simp only[List.mem_cons,List.not_mem_nil,or_false]at hWm
  rcases hWm with e|e<;>subst e<;>exact⟨_,rfl,by decide,by decide⟩
 obtain⟨wi,rfl,w1,w2⟩:=hw
 refine⟨_,hW,wi,rfl,by omega,bD (by omega) (by omega),λsp sp0 sp1=>⟨(show 4<=100000 by decide),?_⟩⟩
 have:=q nm (tx.map λs=>hd++s) st (1+sp) ⟨by omega,by rw[List.length_map];omega,tnm.1,?_,λs hs=>?_,λs hs=>?_,st1,st2,by omega,by omega⟩
 ·show R (.seq false [.seq false (nm.map sT),.seq false (tx.map λs=>sT (hd++s)),iT st,iT (1+sp)])
  rw[dC,List.map_map]at this
  exact this
 ·unfold List.Nodup
  rw[List.pairwise_map]
  exact ttx.1.imp λh e=>h (zHG e)
 ·have:=tnm.2 s hs
  refine⟨this.1,?_⟩
  have:=this.2
  split at this<;>omega
 ·obtain⟨z,hz,rfl⟩:=List.mem_map.mp hs
  refine⟨shd.app (lt z hz).1,?_⟩
  rw[WordM.len,WordM.app,List.length_append,<-WordM.len,<-WordM.len]
  have:=(lt z hz).2
  omega
def kM(n:Int):Prop:=-(10 ^ 60)<n/\n<10 ^ 60
def uN:PSp:=λas R=>∃nm tx st sp,as=[.dk,.va (dC nm tx st sp)]/\eY nm tx st sp/\∀n:Int,kM n->R (iT n)
theorem wC{a b:Int}(h1:1<=a)(h2:a<=10 ^ 20)(h3:-100<=b)(h4:b<=100):-(10 ^ 22)<=a*b/\a*b<=10 ^ 22:=by
 have e1:a*b<=a*100:=Int.mul_le_mul_of_nonneg_left h4 (by omega)
 have e2:a*(-100)<=a*b:=Int.mul_le_mul_of_nonneg_left h3 (by omega)
 omega
theorem C37_:bC ["_law_deck_here","_law_world_here","_law_way"] ["_law_deck_here","_law_world_here"] (aJ wZ):=fsc (by decide +kernel)
theorem zLD(h:Has K mg "_law_number" wZ)(B:Own mg)(G31_:aE P w K mg base 2 "_law_take" ["_law_deck_here","_law_most"] dM)(G35_:aE P w K mg base 3 "_law_far" ["_law_deck_here"] rJ)   : aE P w K mg base 4 "_law_number" ["_law_deck_here","_law_world_here"] uN:=by
 have nd:=C37_.nd
 refine h.pgood C37_ (fun|_,_,_,_,_,_,[_,_],_=>rfl) (λf cdv A outer s H E F hr=>
   (aG (aT 2 nd (aI G31_ hr (aY 0 (aB aD aC))))
   (aG (aV (bP hr (aA 2) aD)
    (aH (aO (aW eF (aI G31_ hr (aY 0 (aB aD aC))) aD)))
    aU)
   (aG (aV (bP hr (aA 2) aD)
    (aH (aO (aI G35_ hr (aY 0 aC))))
    aU)
   (aH (aO (aW bO (aQ hr (aA 1) aD) (aW gO (aQ hr (aA 1) aD) (aW eF (aI G31_ hr (aY 0 (aB aD aC))) aD))))))))) (λas R q=>?_)
 obtain⟨nm,tx,st,sp,rfl,hw,q⟩:=q
 obtain⟨_,_,_,_,_,_,st1,st2,sp1,sp2⟩:=hw
 refine⟨rfl,rfl,6,rfl,by decide,bD (by decide) (by decide),λr r0 r1=>?_⟩
 refine⟨_,rfl,sif (λ_=>⟨rfl,9,rfl,by decide,bD (by decide) (by decide),λk k0 k1=>q _ ⟨by omega,by omega⟩⟩) (λ_=>?_)⟩
 refine⟨_,rfl,sif (λ_=>⟨rfl,rfl,λk k0 k1=>q _ ⟨k0,k1⟩⟩) (λ_=>?_)⟩
 refine⟨_,rfl,_,rfl,rfl,12,rfl,by decide,bD (by decide) (by decide),λk k0 k1=>⟨.inr ⟨bD (by omega) (by omega),bD (by omega) (by omega)⟩,q _ ?_⟩⟩
 have:=wC (b:=k-4) sp1 sp2 (by omega) (by omega)
 exact⟨by show _<st+sp*(k-4);omega,by show st+sp*(k-4)<_;omega⟩
def zCr(tx:List Str):Tv->Prop
 |.leaf .non=>True
 |.leaf (.bl _)=>True
 |.leaf (.int n)=>kM n
 |.leaf (.str s)=>s∈tx
 |_=>False
def qT:PSp:=λas R=>∃nm tx st sp,as=[.dk,.va (dC nm tx st sp)]/\eY nm tx st sp/\∀T,zCr tx T->R T
theorem C38_:bC ["_law_deck_here","_law_world_here","_law_way"] ["_law_deck_here","_law_world_here"] (aJ wY):=fsc (by decide +kernel)
theorem zLC(h:Has K mg "_law_leaf" wY)(B:Own mg)(G31_:aE P w K mg base 2 "_law_take" ["_law_deck_here","_law_most"] dM)(G37_:aE P w K mg base 4 "_law_number" ["_law_deck_here","_law_world_here"] uN)   : aE P w K mg base 5 "_law_leaf" ["_law_deck_here","_law_world_here"] qT:=by
 have nd:=C38_.nd
 refine h.pgood C38_ (fun|_,_,_,_,_,_,[_,_],_=>rfl) (λf cdv A outer s H E F hr=>
   (aG (aT 2 nd (aI G31_ hr (aY 0 (aB aD aC))))
   (aG (aV (bP hr (aA 2) aD)
    (aH (aO iU))
    aU)
   (aG (aV (bP hr (aA 2) aD)
    (aH (aO (cE (eN hr.units).op (aI G31_ hr (aY 0 (aB aD aC))) aD)))
    aU)
   (aG (aV (bY iE (aA 2) aD)
    (aH (aO (aI G37_ hr (aY 0 (aB (aA 1) aC)))))
    aU)
   (aH (aO (aQ hr (aQ hr (aA 1) aD) (aI G31_ hr (aY 0 (aB (bB bL rfl B.len PySem.boot_len (aB (aQ hr (aA 1) aD) aC)) aC))))))))))) (λas R q=>?_)
 obtain⟨nm,tx,st,sp,rfl,hw,q⟩:=q
 refine⟨rfl,rfl,8,rfl,by decide,bD (by decide) (by decide),λr r0 r1=>?_⟩
 refine⟨_,rfl,sif (λ_=>q nT trivial) (λ_=>?_)⟩
 refine⟨_,rfl,sif (λ_=>⟨rfl,2,rfl,by decide,bD (by decide) (by decide),λk k0 k1=>q (bT _) trivial⟩) (λ_=>?_)⟩
 refine⟨_,rfl,sif (λ_=>⟨rfl,nm,tx,st,sp,rfl,hw,λn hn=>q (iT n) hn⟩) (λ_=>?_)⟩
 refine⟨_,rfl,rfl,_,rfl,(tx.map sT).length,rfl,?_,?_,λk k0 k1=>?_⟩
 ·rw[List.length_map,hw.t9];decide
 ·rw[List.length_map,hw.t9];exact bD (by decide) (by decide)
 ·obtain⟨U,hU,hm⟩:=gG (l:=tx.map sT) k0 k1
  obtain⟨s,hs,rfl⟩:=List.mem_map.mp hm
  exact⟨_,hU,q (sT s) hs⟩
end
end My
namespace My
open PySem L2 PyProof.Rows WordM
section
variable{P:Program}{w:World}{K:W.Frag}{mg:Str->Option Value}{base:Heap}
def okU(U:Tv):Prop:=∀v,U=.leaf v->cY v=true
def isW:Tv->Bool
 |.leaf (.int _)=>true
 |_=>false
theorem gH{U:Tv}(h:okU U):U=nT\/(∃b,U=bT b)\/(∃i,U=iT i)\/(∃s,U=sT s)\/(∃t xs,U=.seq t xs)\/∃kts,U=.dct kts:=by
 cases U with
 |leaf v=>
  rcases iM (h v rfl) with rfl|⟨b,rfl⟩|⟨b,rfl⟩|⟨b,rfl⟩
  ·exact .inl rfl
  ·exact .inr (.inl ⟨_,rfl⟩)
  ·exact .inr (.inr (.inl ⟨_,rfl⟩))
  ·exact .inr (.inr (.inr (.inl ⟨_,rfl⟩)))
 |seq t xs=>exact .inr (.inr (.inr (.inr (.inl ⟨_,_,rfl⟩))))
 |dct k=>exact .inr (.inr (.inr (.inr (.inr ⟨_,rfl⟩))))
def nO:PSp:=λas R=>∃U,as=[.va U]/\okU U/\R (bT (isW U))
theorem C0_:bC ["thing"] ["thing"] (aJ s0_):=fsc (by decide +kernel)
theorem g0_(h:Has K mg "is_whole" s0_)(B:Own mg)    : aE P w K mg base 1 "is_whole" ["thing"] nO:=by
 have nd:=C0_.nd
 refine h.pgood C0_ (fun|_,_,_,_,_,_,[_],_=>rfl) (λf cdv A outer s H E F hr=>
   (aH (aO (bX (bK "int" kQ rfl B.isinstance (aA 0) (bJ (v:=.ty "int") rfl B.int_ boot_int rfl)) (cZ (zHS (bK "bool" gZ rfl B.isinstance (aA 0) (bJ (v:=.ty "bool") rfl B.bool_ boot_bool rfl)))))))) (λas R q=>?_)
 obtain⟨U,rfl,ok,q⟩:=q
 rcases gH ok with rfl|⟨b,rfl⟩|⟨i,rfl⟩|⟨s,rfl⟩|⟨t,xs,rfl⟩|⟨kts,rfl⟩
 ·exact⟨rfl,_,rfl,aL q⟩
 ·exact⟨rfl,_,rfl,aN ⟨_,rfl,q⟩⟩
 ·exact⟨rfl,_,rfl,aN ⟨_,rfl,q⟩⟩
 ·exact⟨rfl,_,rfl,aL q⟩
 ·cases t<;>exact⟨rfl,_,rfl,aL q⟩
 ·exact⟨rfl,_,rfl,aL q⟩
def FlD:Nat->Tv->Prop
 |0,_=>True
 |_+1,.leaf v=>cY v=true/\∀s,v=.str s->s.length<=1000
 |n+1,.seq _ l=>l.length<=100/\∀x∈l,FlD n x
 |_+1,.dct _=>True
theorem FlD.ok{n:Nat}{U:Tv}(h:FlD (n+1) U):okU U:=λv e=>by subst e;exact h.1
theorem FlD.tx{n:Nat}{U:Tv}(h:FlD (n+1) U):∀s,U=sT s->s.length<=1000:=λs e=>by subst e;exact h.2 s rfl
def jZ(c:Nat):Bool:=decide (32<=c)&&decide (c<=126)&&decide (c≠37)
def txB:Tv->Bool
 |.leaf (.str s)=>(cs s).all jZ
 |_=>false
theorem zBZ(a b:Nat):decide (([a]:List Nat) < [b])=decide (a<b):=by
 rw[decide_eq_decide,List.cons_lt_cons_iff]
 exact⟨λh=>h.elim id λh=>absurd h.2 (List.not_lt_nil _),.inl⟩
def vY:PSp:=λas R=>∃c:Nat,as=[.va (sT ⟨#[c]⟩)]/\R (bT (jZ c))
theorem C1_:bC ["sign"] ["sign"] (aJ s1_):=fsc (by decide +kernel)
theorem g1_(h:Has K mg "is_sign" s1_)(B:Own mg)(GPERCENT:gC K mg "PERCENT" (iT 37))(Bord:mg "ord"=none):aE P w K mg base 1 "is_sign" ["sign"] vY:=by
 have nd:=C1_.nd
 refine h.pgood C1_ (fun|_,_,_,_,_,_,[_],_=>rfl) (λf cdv A outer s H E F hr=>
   (aH (aO (bX (pY zBP zBP bA (aA 0) bA) (cZ (cE (wK hr.units).op (bB zIl rfl Bord boot_ord (aB (aA 0) aC)) (rA GPERCENT rfl))))))) (λas R q=>?_)
 obtain⟨c,rfl,q⟩:=q
 have e1:(!decide (([c]:List Nat)<(Str.ofString " ").cps.toList))=decide (32<=c):=by
  rw[show(Str.ofString " ").cps.toList=[32] by decide,zBZ]
  by_cases h:c<32
  ·rw[decide_eq_true h,decide_eq_false (by omega)];rfl
  ·rw[decide_eq_false h,decide_eq_true (by omega)];rfl
 have e2:(!decide ((Str.ofString "~").cps.toList<([c]:List Nat)))=decide (c<=126):=by
  rw[show(Str.ofString "~").cps.toList=[126] by decide,zBZ]
  by_cases h:126<c
  ·rw[decide_eq_true h,decide_eq_false (by omega)];rfl
  ·rw[decide_eq_false h,decide_eq_true (by omega)];rfl
 refine⟨rfl,_,rfl,?_⟩
 show if (!decide (([c]:List Nat)<(Str.ofString " ").cps.toList))=true then _ else _
 rw[e1]
 unfold jZ at q
 refine dE (λh1=>?_) (λh1=>?_)
 ·show ∃b,bT (!decide ((Str.ofString "~").cps.toList<([c]:List Nat)))=bT b/\_
  rw[e2]
  rw[decide_eq_true h1,Bool.true_and]at q
  refine⟨_,rfl,dE (λh2=>?_) (λh2=>?_)⟩
  ·rw[decide_eq_true h2,Bool.true_and]at q
   refine⟨_,rfl,rfl,?_⟩
   show R (bT (true != eqV (.int ((#[c].getD 0 0:Nat):Int)) (.int 37)))
   rw[show(true != eqV (.int ((#[c].getD 0 0:Nat):Int)) (.int 37))=decide (c≠37) by
    by_cases h:c=37
    ·subst h;decide
    ·rw[decide_eq_true h];simp[eqV];omega]
   exact q
  ·rw[decide_eq_false h2,Bool.false_and]at q
   exact q
 ·rw[decide_eq_false h1,Bool.false_and,Bool.false_and]at q
  exact⟨_,rfl,aL q⟩
def kX:PSp:=λas R=>∃U,as=[.va U]/\okU U/\(∀s,U=sT s->s.length<=1000)/\R (bT (txB U))
theorem C2_:bC ["thing"] ["thing"] (aJ s2_):=fsc (by decide +kernel)
theorem g2_(h:Has K mg "is_text" s2_)(B:Own mg)(G1_:aE P w K mg base 1 "is_sign" ["sign"] vY)   : aE P w K mg base 2 "is_text" ["thing"] kX:=by
 have nd:=C2_.nd
 refine h.pgood C2_ (fun|_,_,_,_,_,_,[_],_=>rfl) (λf cdv A outer s H E F hr=>
   (aH (aO (bX (bK "str" kP rfl B.isinstance (aA 0) (bJ (v:=.ty "str") rfl B.str_ boot_str rfl)) (cZ (bB (iW rfl) rfl B.all boot_all (aB (aX (cK (sc:=aJ s2_) (XN:=["thing"]) (N:=["sign"]) (fr:=[]) (bG (aA 0)) (λ_ _ _ _ _=>(aI G1_ hr (aB (aA 0) aC))))) aC))))))) (λas R q=>?_)
 obtain⟨U,rfl,ok,l,q⟩:=q
 rcases gH ok with rfl|⟨b,rfl⟩|⟨i,rfl⟩|⟨s,rfl⟩|⟨t,xs,rfl⟩|⟨kts,rfl⟩
 ·exact⟨rfl,_,rfl,aL q⟩
 ·exact⟨rfl,_,rfl,aL q⟩
 ·exact⟨rfl,_,rfl,aL q⟩
 ·have ls:=l s rfl
  refine⟨rfl,_,rfl,aN ⟨?_,dB (λc:Nat=>sT ⟨#[c]⟩) (λc=>bT (jZ c)) (λc hc R q=>⟨c,rfl,q⟩) ?_⟩⟩
  ·rw[List.length_map,<-WordM.len];omega
  ·refine⟨s.cps.toList.map jZ,by rw[List.map_map];rfl,?_⟩
   rw[List.all_map]
   exact q
 ·cases t<;>exact⟨rfl,_,rfl,aL q⟩
 ·exact⟨rfl,_,rfl,aL q⟩
def eL:List Str->Bool
 |a::b::r=>decide (cs a<cs b)&&eL (b::r)
 |_=>true
theorem mW:∀(ss:List Str),eL ss=true↔gF ss
 |[]=>⟨λ_=>.nil,λ_=>rfl⟩
 |[a]=>⟨λ_=>List.pairwise_singleton _ _,λ_=>rfl⟩
 |a::b::r=>by
  rw[eL,Bool.and_eq_true,decide_eq_true_iff,mW (b::r)]
  constructor
  ·rintro⟨h1,h2⟩
   refine List.pairwise_cons.mpr ⟨λx hx=>?_,h2⟩
   rcases List.mem_cons.mp hx with rfl|hx
   ·exact h1
   ·exact List.lt_trans h1 ((List.pairwise_cons.mp h2).1 x hx)
  ·intro h
   exact⟨(List.pairwise_cons.mp h).1 b (List.mem_cons_self ..),(List.pairwise_cons.mp h).2⟩
def iD:List Int->Bool
 |a::b::r=>decide (a<b)&&iD (b::r)
 |_=>true
def oI:List Bool->Bool
 |a::b::r=>(!a&&b)&&oI (b::r)
 |_=>true
def gU{α:Type}(d:α)(f:α->α->Bool):List α->Bool
 |a::b::r=>f a b&&gU d f (b::r)
 |_=>true
theorem yH{α:Type}(d:α)(f:α->α->Bool):∀(ss:List α),(List.range (ss.length-1)).all (λi=>f (ss.getD i d) (ss.getD (i+1) d))=gU d f ss
 |[]=>rfl
 |[a]=>rfl
 |a::b::r=>by
  have ih:=yH d f (b::r)
  show(List.range (r.length+1)).all _=_
  rw[List.range_succ_eq_map,List.all_cons,List.all_map,gU,<-ih]
  rfl
theorem zAY:∀ss:List Str,gU ⟨#[]⟩ (λa b=>decide (cs a<cs b)) ss=eL ss
 |[]=>rfl
 |[_]=>rfl
 |a::b::r=>by rw[gU,eL,zAY (b::r)]
theorem zAZ:∀ss:List Int,gU 0 (λa b=>decide (a<b)) ss=iD ss
 |[]=>rfl
 |[_]=>rfl
 |a::b::r=>by rw[gU,iD,zAZ (b::r)]
theorem zAX:∀ss:List Bool,gU false (λa b=>!a&&b) ss=oI ss
 |[]=>rfl
 |[_]=>rfl
 |a::b::r=>by rw[gU,oI,zAX (b::r)]
def hE:PSp:=λas R=>(∃(t:Bool) (ss:List Str),as=[.va (.seq t (ss.map sT))]/\ss.length<=1000/\R (bT (eL ss)))\/(∃(t:Bool) (ss:List Int),as=[.va (.seq t (ss.map iT))]/\ss.length<=1000/\R (bT (iD ss)))\/∃(t:Bool) (ss:List Bool),as=[.va (.seq t (ss.map bT))]/\ss.length<=1000/\R (bT (oI ss))
def zFM:PSp:=λas R=>∃(α:Type) (d:α) (f:α->α->Bool) (c:α->Tv) (t:Bool) (ss:List α),as=[.va (.seq t (ss.map c))]/\(∀a b Q,Q (bT (f a b))->xN (c a) (c b) Q)/\ss.length<=1000/\R (bT (gU d f ss))
theorem zGM{as:List Ar}{R:Tv->Prop}(h:hE as R):zFM as R:=by
 rcases h with⟨t,ss,e,l,q⟩|⟨t,ss,e,l,q⟩|⟨t,ss,e,l,q⟩
 ·exact⟨Str,_,_,sT,t,ss,e,λa b Q q=>q,l,by rw[zAY];exact q⟩
 ·exact⟨Int,_,_,iT,t,ss,e,λa b Q q=>q,l,by rw[zAZ];exact q⟩
 ·exact⟨Bool,_,_,bT,t,ss,e,λa b Q q=>q,l,by rw[zAX];exact q⟩
theorem C4_:bC ["things"] ["things"] (aJ s4_):=fsc (by decide +kernel)
theorem g4_(h:Has K mg "rises" s4_)(B:Own mg)    : aE P w K mg base 1 "rises" ["things"] hE:=by
 have nd:=C4_.nd
 refine h.pgood C4_ (fun|_,_,_,_,_,_,[_],_=>rfl) (λf cdv A outer s H E F hr=>
   (aH (aO (bB (iW rfl) rfl B.all boot_all (aB (aX (cK (sc:=aJ s4_) (XN:=["things"]) (N:=["place","things"]) (fr:=[0]) (fT rfl B.range (aB (aW eF (bB bL rfl B.len PySem.boot_len (aB (aA 0) aC)) aD) aC)) (λ_ _ _ _ _=>(cE (zIn).op (aQ hr (aA 1) (aA 0)) (aQ hr (aA 1) (aW bO (aA 0) aD)))))) aC))))) (λas R q=>?_)
 obtain⟨α,d,f,c,t,ss,rfl,hlt,l,q⟩:=zGM q
 have e:(((ss.map c).length:Int)-1).toNat=ss.length-1:=by rw[List.length_map];omega
 refine⟨rfl,_,rfl,by rw[List.length_map];omega,by rw[List.length_map];omega,?_⟩
 rw[e]
 refine⟨by rw[eQ];omega,?_⟩
 refine dB (λk:Nat=>iT (0+(k:Int))) (λk=>bT (f (ss.getD k d) (ss.getD (k+1) d))) (l:=List.range (ss.length-1)) (λk hk R q=>?_) ⟨(List.range (ss.length-1)).map λk=>f (ss.getD k d) (ss.getD (k+1) d),by rw[List.map_map];rfl,?_⟩
 ·have hk:=List.mem_range.mp hk
  have e0:(0:Int)+(k:Int)=(k:Int):=by omega
  rw[e0]
  have g1:(ss.map c)[k]?=some (c (ss.getD k d)):=by rw[List.getElem?_map,List.getD_eq_getElem?_getD,List.getElem?_eq_getElem (by omega)];rfl
  have g2:(ss.map c)[k+1]?=some (c (ss.getD (k+1) d)):=by rw[List.getElem?_map,List.getD_eq_getElem?_getD,List.getElem?_eq_getElem (by omega)];rfl
  exact⟨_,cM g1,_,cM g2,hlt _ _ _ q⟩
 ·rw[List.all_map]
  rw[<-yH]at q
  exact q
def cN:Tv->Str
 |.leaf (.str s)=>s
 |_=>⟨#[]⟩
theorem zAS{U:Tv}(h:txB U=true):U=sT (cN U):=by
 cases U with
 |leaf v=>cases v<;>first|rfl|cases h
 |_=>cases h
theorem zJk{ts:List Tv}(h:ts.all txB=true):ts=(ts.map cN).map sT:=by
 rw[List.map_map]
 have:ts=ts.map id:=(List.map_id ts).symm
 rw[List.all_eq_true]at h
 exact(List.map_id ts).symm.trans (List.map_congr_left λx hx=>zAS (h x hx))
def zCP:Tv->Bool
 |.seq true ts=>decide (1<=ts.length)&&decide (ts.length<=6)&&(ts.all txB&&eL (ts.map cN))
 |_=>false
def pB:List Tv->Bool
 |[_,b]=>zCP b
 |_=>false
def wL:PSp:=λas R=>∃L,as=[.va (.seq true L)]/\FlD 3 (.seq true L)/\R (bT (pB L))
theorem C5_:bC ["thing","texts"] ["thing"] (aJ s5_):=fsc (by decide +kernel)
theorem g5_(h:Has K mg "is_few" s5_)(B:Own mg)(G4_:aE P w K mg base 1 "rises" ["things"] hE)(G2_:aE P w K mg base 2 "is_text" ["thing"] kX)(GMOST_FEW:gC K mg "MOST_FEW" (iT 6))  : aE P w K mg base 3 "is_few" ["thing"] wL:=by
 have nd:=C5_.nd
 refine h.pgood C5_ (fun|_,_,_,_,_,_,[_],_=>rfl) (λf cdv A outer s H E F hr=>
   (aG (aV (cG (bV (dO hr (bB bL rfl B.len PySem.boot_len (aB (aA 0) aC)) aD) (cW (cI (bI (bK "tuple" fR rfl B.isinstance (aQ hr (aA 0) aD) (bJ (v:=.ty "tuple") rfl B.tuple_ boot_tuple rfl)))))))
    (aH (aO cB))
    aU)
   (aG (aT 1 nd (aQ hr (aA 0) aD))
   (aH (aO (bX (pY iF iF aD (bB bL rfl B.len PySem.boot_len (aB (aA 1) aC)) (rA GMOST_FEW rfl)) (bX (bB (iW rfl) rfl B.all boot_all (aB (aX (cK (sc:=aJ s5_) (XN:=["thing","texts"]) (N:=["text"]) (fr:=[]) (bG (aA 1)) (λ_ _ _ _ _=>(aI G2_ hr (aB (aA 0) aC))))) aC)) (cZ (aI G4_ hr (aB (aA 1) aC)))))))))) (λas R q=>?_)
 obtain⟨L,rfl,fl,q⟩:=q
 by_cases l2:L.length=2
 ·match L,l2 with
  |[a,b],_=>
   have fb:FlD 2 b:=fl.2 b (by simp)
   refine⟨rfl,_,rfl,sif (λz=>absurd z (by simp[eqV])) λ_=>?_⟩
   rcases gH fb.ok with rfl|⟨c,rfl⟩|⟨i,rfl⟩|⟨s,rfl⟩|⟨t,ts,rfl⟩|⟨kts,rfl⟩
   ·exact⟨_,rfl,_,rfl,aN q⟩
   ·exact⟨_,rfl,_,rfl,aN q⟩
   ·exact⟨_,rfl,_,rfl,aN q⟩
   ·exact⟨_,rfl,_,rfl,aN q⟩
   ·cases t with
    |false=>exact⟨_,rfl,_,rfl,aN q⟩
    |true=>
     have q:R (bT (decide (1<=ts.length)&&decide (ts.length<=6)&&(ts.all txB&&eL (ts.map cN)))):=q
     have ft:ts.length<=100/\∀x∈ts,FlD 1 x:=fb
     refine⟨_,rfl,_,rfl,aL ⟨_,rfl,_,rfl,dE (λh1=>?_) (λh1=>⟨_,rfl,aL ?_⟩)⟩⟩
     ·have h1':1<=ts.length:=by have h1:(1:Int)<=(ts.length:Nat):=h1;omega
      rw[decide_eq_true h1',Bool.true_and]at q
      refine⟨_,rfl,dE (λh2=>?_) (λh2=>?_)⟩
      ·have h2':ts.length<=6:=by have h2:((ts.length:Nat):Int)<=6:=h2;omega
       rw[decide_eq_true h2',Bool.true_and]at q
       refine⟨by omega,iR (λx=>bT (txB x)) (λx hx R q=>⟨x,rfl,(ft.2 x hx).ok,(ft.2 x hx).tx,q⟩) ⟨ts.map txB,by rw[List.map_map];rfl,?_⟩⟩
       rw[List.all_map]
       refine⟨_,rfl,sif (λh3=>?_) (λh3=>?_)⟩
       ·have h3:ts.all txB=true:=h3
        rw[h3,Bool.true_and]at q
        exact .inl ⟨true,ts.map cN,by rw[<-zJk h3],by rw[List.length_map];omega,q⟩
       ·have h3:ts.all txB=false:=h3
        rw[h3,Bool.false_and]at q
        exact q
      ·have h2':¬ ts.length<=6:=by have h2:¬ ((ts.length:Nat):Int)<=6:=h2;omega
       rw[decide_eq_false h2',Bool.false_and]at q
       exact q
     ·have h1':¬ 1<=ts.length:=by have h1:¬ (1:Int)<=(ts.length:Nat):=h1;omega
      rw[decide_eq_false h1',Bool.false_and,Bool.false_and]at q
      exact q
   ·exact⟨_,rfl,_,rfl,aN q⟩
 ·have e:pB L=false:=by
   match L,l2 with
   |[],_=>rfl
   |[_],_=>rfl
   |[_,_],h=>exact absurd rfl h
   |_::_::_::_,_=>rfl
  rw[e]at q
  refine⟨rfl,_,rfl,sif (λz=>q) λz=>?_⟩
  have z:(true != eqV (.int (L.length:Nat)) (.int 2))=false:=z
  exact absurd (by simpa[eqV]using z) (show ¬ ((L.length:Int)=2) by omega)
def mkB(U:Tv):Bool:=(MK.map sT).any λk=>L2.eqT k U
theorem zBg{U:Tv}(h:mkB U=true):U=sT (cN U)/\cN U∈MK:=by
 obtain⟨k,hk,e⟩:=List.any_eq_true.mp h
 obtain⟨x,hx,rfl⟩:=List.mem_map.mp hk
 cases U with
 |leaf v=>
  cases v with
  |str s=>simp[L2.eqT,eqV]at e;subst e;exact⟨rfl,hx⟩
  |_=>simp[L2.eqT,eqV]at e
 |_=>simp[L2.eqT]at e
theorem zBz{ts:List Tv}(h:ts.all mkB=true):ts=(ts.map cN).map sT:=by
 rw[List.map_map]
 rw[List.all_eq_true]at h
 exact(List.map_id ts).symm.trans (List.map_congr_left λx hx=>(zBg (h x hx)).1)
def jT:Tv->Bool
 |.seq true ms=>decide (ms≠[])&&(ms.all mkB&&eL (ms.map cN))
 |_=>false
def tS:PSp:=λas R=>∃U,as=[.va U]/\FlD 2 U/\R (bT (jT U))
theorem C6_:bC ["thing"] ["thing"] (aJ s6_):=fsc (by decide +kernel)
theorem g6_(h:Has K mg "are_marks" s6_)(B:Own mg)(G4_:aE P w K mg base 1 "rises" ["things"] hE)(GMARKS:gC K mg "MARKS" (.seq true (MK.map sT)))  : aE P w K mg base 2 "are_marks" ["thing"] tS:=by
 have nd:=C6_.nd
 refine h.pgood C6_ (fun|_,_,_,_,_,_,[_],_=>rfl) (λf cdv A outer s H E F hr=>
   (aG (aV (cG (bV (cI (bI (bK "tuple" fR rfl B.isinstance (aA 0) (bJ (v:=.ty "tuple") rfl B.tuple_ boot_tuple rfl)))) (cW (bP hr (bB bL rfl B.len PySem.boot_len (aB (aA 0) aC)) aD))))
    (aH (aO cB))
    aU)
   (aH (aO (bX (bB (iW rfl) rfl B.all boot_all (aB (aX (cK (sc:=aJ s6_) (XN:=["thing"]) (N:=["mark"]) (fr:=[]) (bG (aA 0)) (λ_ _ _ _ _=>(cE (zIp hr.units).op (aA 0) (rA GMARKS rfl) rfl)))) aC)) (cZ (aI G4_ hr (aB (aA 0) aC)))))))) (λas R q=>?_)
 obtain⟨U,rfl,fb,q⟩:=q
 rcases gH fb.ok with rfl|⟨c,rfl⟩|⟨i,rfl⟩|⟨s,rfl⟩|⟨t,ts,rfl⟩|⟨kts,rfl⟩
 ·exact⟨rfl,_,rfl,aN q⟩
 ·exact⟨rfl,_,rfl,aN q⟩
 ·exact⟨rfl,_,rfl,aN q⟩
 ·exact⟨rfl,_,rfl,aN q⟩
 ·cases t with
  |false=>exact⟨rfl,_,rfl,aN q⟩
  |true=>
   have q:R (bT (decide (ts≠[])&&(ts.all mkB&&eL (ts.map cN)))):=q
   have ft:ts.length<=100/\∀x∈ts,FlD 1 x:=fb
   cases ts with
   |nil=>exact⟨rfl,_,rfl,aL ⟨_,rfl,aN q⟩⟩
   |cons x ts=>
    rw[decide_eq_true (by simp),Bool.true_and]at q
    refine⟨rfl,_,rfl,aL ⟨_,rfl,dG (λz=>absurd z (by simp;omega)) λ_=>?_⟩⟩
    refine⟨by omega,iR (λx=>bT (mkB x)) (λx hx R q=>⟨MK,rfl,q⟩) ⟨(x::ts).map mkB,by rw[List.map_map];rfl,?_⟩⟩
    rw[List.all_map]
    refine⟨_,rfl,sif (λh3=>?_) (λh3=>?_)⟩
    ·have h3:(x::ts).all mkB=true:=h3
     rw[h3,Bool.true_and]at q
     exact .inl ⟨true,(x::ts).map cN,by rw[<-zBz h3],by rw[List.length_map];omega,q⟩
    ·have h3:(x::ts).all mkB=false:=h3
     rw[h3,Bool.false_and]at q
     exact q
 ·exact⟨rfl,_,rfl,aN q⟩
def kG:Tv->Tv->Bool
 |.leaf (.int a),.leaf (.int b)=>decide (0<=a)&&decide (a<=b)&&decide (1<=b)
 |_,_=>false
def oN:List Tv->Bool
 |[_,h,lo,hi,ms]=>txB h&&(jT ms&&kG lo hi)
 |_=>false
theorem jQ{U:Tv}(h:isW U=true):∃i,U=iT i:=by
 cases U with
 |leaf v=>cases v<;>first|exact⟨_,rfl⟩|cases h
 |_=>cases h
theorem zIX{U V:Tv}(h:isW U=false):kG U V=false:=by
 cases U with
 |leaf v=>cases v<;>first|rfl|cases h
 |_=>rfl
theorem zIW{U V:Tv}(h:isW V=false):kG U V=false:=by
 cases U with
 |leaf v=>
  cases v<;>first|rfl|skip
  cases V with
  |leaf v=>cases v<;>first|rfl|cases h
  |_=>rfl
 |_=>rfl
def vF:PSp:=λas R=>∃L,as=[.va (.seq true L)]/\FlD 3 (.seq true L)/\R (bT (oN L))
theorem C7_:bC ["thing","least","most"] ["thing"] (aJ s7_):=fsc (by decide +kernel)
theorem g7_(h:Has K mg "is_make" s7_)(B:Own mg)(G6_:aE P w K mg base 2 "are_marks" ["thing"] tS)(G2_:aE P w K mg base 2 "is_text" ["thing"] kX)(G0_:aE P w K mg base 1 "is_whole" ["thing"] nO)   : aE P w K mg base 3 "is_make" ["thing"] vF:=by
 have nd:=C7_.nd
 refine h.pgood C7_ (fun|_,_,_,_,_,_,[_],_=>rfl) (λf cdv A outer s H E F hr=>
   (aG (aV (cG (bV (dO hr (bB bL rfl B.len PySem.boot_len (aB (aA 0) aC)) aD) (bV (cI (bI (aI G2_ hr (aB (aQ hr (aA 0) aD) aC)))) (cW (cI (bI (aI G6_ hr (aB (aQ hr (aA 0) aD) aC))))))))
    (aH (aO cB))
    aU)
   (aG (aT 1 nd (aQ hr (aA 0) aD))
   (aG (aT 2 nd (aQ hr (aA 0) aD))
   (aH (aO (bX (aI G0_ hr (aB (aA 1) aC)) (bX (aI G0_ hr (aB (aA 2) aC)) (bX (pY iF iF aD (aA 1) (aA 2)) (cZ (cE (rG).op (aA 2) aD))))))))))) (λas R q=>?_)
 obtain⟨L,rfl,fl,q⟩:=q
 by_cases l5:L.length=5
 ·match L,l5 with
  |[a,h,lo,hi,ms],_=>
   have fh:FlD 2 h:=fl.2 h (by simp)
   have flo:FlD 2 lo:=fl.2 lo (by simp)
   have fhi:FlD 2 hi:=fl.2 hi (by simp)
   have fm:FlD 2 ms:=fl.2 ms (by simp)
   have q:R (bT (txB h&&(jT ms&&kG lo hi))):=q
   refine⟨rfl,_,rfl,sif (λz=>absurd z (by simp[eqV])) λ_=>⟨_,rfl,h,rfl,fh.ok,fh.tx,_,rfl,?_⟩⟩
   cases th:txB h with
   |false=>rw[th,Bool.false_and]at q;exact aN q
   |true=>
    rw[th,Bool.true_and]at q
    refine aL ⟨_,rfl,ms,rfl,fm,_,rfl,?_⟩
    cases tm:jT ms with
    |false=>rw[tm,Bool.false_and]at q;exact aN q
    |true=>
     rw[tm,Bool.true_and]at q
     refine aL ⟨_,rfl,_,rfl,lo,rfl,flo.ok,_,rfl,?_⟩
     cases wl:isW lo with
     |false=>rw[zIX wl]at q;exact aL q
     |true=>
      refine aN ⟨hi,rfl,fhi.ok,_,rfl,?_⟩
      cases wh:isW hi with
      |false=>rw[zIW wh]at q;exact aL q
      |true=>
       obtain⟨x,rfl⟩:=jQ wl
       obtain⟨y,rfl⟩:=jQ wh
       have q:R (bT (decide (0<=x)&&decide (x<=y)&&decide (1<=y))):=q
       refine aN ⟨_,rfl,dE (λh1=>?_) (λh1=>⟨_,rfl,aL ?_⟩)⟩
       ·rw[decide_eq_true h1,Bool.true_and]at q
        refine⟨_,rfl,dE (λh2=>?_) (λh2=>?_)⟩
        ·rw[decide_eq_true h2,Bool.true_and]at q
         exact q
        ·rw[decide_eq_false h2,Bool.false_and]at q
         exact q
       ·rw[decide_eq_false h1,Bool.false_and,Bool.false_and]at q
        exact q
 ·have e:oN L=false:=by
   match L,l5 with
   |[],_=>rfl
   |[_],_=>rfl
   |[_,_],_=>rfl
   |[_,_,_],_=>rfl
   |[_,_,_,_],_=>rfl
   |[_,_,_,_,_],h=>exact absurd rfl h
   |_::_::_::_::_::_::_,_=>rfl
  rw[e]at q
  refine⟨rfl,_,rfl,sif (λz=>q) λz=>?_⟩
  have z:(true != eqV (.int (L.length:Nat)) (.int 5))=false:=z
  exact absurd (by simpa[eqV]using z) (show ¬ ((L.length:Int)=5) by omega)
def gQ:Tv->Bool
 |.seq true (a::l)=>if L2.eqT a (sT "few")=true then pB (a::l) else(L2.eqT a (sT "make")&&oN (a::l))
 |_=>false
def nE:PSp:=λas R=>∃U,as=[.va U]/\FlD 3 U/\R (bT (gQ U))
theorem C8_:bC ["thing"] ["thing"] (aJ s8_):=fsc (by decide +kernel)
theorem g8_(h:Has K mg "is_words" s8_)(B:Own mg)(G5_:aE P w K mg base 3 "is_few" ["thing"] wL)(G7_:aE P w K mg base 3 "is_make" ["thing"] vF)   : aE P w K mg base 4 "is_words" ["thing"] nE:=by
 have nd:=C8_.nd
 refine h.pgood C8_ (fun|_,_,_,_,_,_,[_],_=>rfl) (λf cdv A outer s H E F hr=>
   (aG (aV (cG (bV (cI (bI (bK "tuple" fR rfl B.isinstance (aA 0) (bJ (v:=.ty "tuple") rfl B.tuple_ boot_tuple rfl)))) (cW (bP hr (bB bL rfl B.len PySem.boot_len (aB (aA 0) aC)) aD))))
    (aH (aO cB))
    aU)
   (aG (aV (bY (hX hr.units) (aQ hr (aA 0) aD) bA)
    (aH (aO (aI G5_ hr (aB (aA 0) aC))))
    aU)
   (aH (aO (bX (cE (hX hr.units).op (aQ hr (aA 0) aD) bA) (cZ (aI G7_ hr (aB (aA 0) aC))))))))) (λas R q=>?_)
 obtain⟨U,rfl,fb,q⟩:=q
 rcases gH fb.ok with rfl|⟨c,rfl⟩|⟨i,rfl⟩|⟨s,rfl⟩|⟨t,ts,rfl⟩|⟨kts,rfl⟩
 ·exact⟨rfl,_,rfl,aN q⟩
 ·exact⟨rfl,_,rfl,aN q⟩
 ·exact⟨rfl,_,rfl,aN q⟩
 ·exact⟨rfl,_,rfl,aN q⟩
 ·cases t with
  |false=>exact⟨rfl,_,rfl,aN q⟩
  |true=>
   cases ts with
   |nil=>exact⟨rfl,_,rfl,aL ⟨_,rfl,aN q⟩⟩
   |cons a l=>
    refine⟨rfl,_,rfl,aL ⟨_,rfl,dG (λz=>absurd z (by simp;omega)) λ_=>?_⟩⟩
    have q:R (bT (if L2.eqT a (sT "few")=true then pB (a::l) else(L2.eqT a (sT "make")&&oN (a::l)))):=q
    refine⟨_,cM (j:=0) rfl,"few",rfl,_,rfl,?_⟩
    cases ef:L2.eqT a (sT "few") with
    |true=>rw[ef,if_pos rfl]at q;exact aN ⟨_,rfl,fb,q⟩
    |false=>
     rw[ef,if_neg Bool.false_ne_true]at q
     refine aL ⟨_,cM (j:=0) rfl,"make",rfl,_,rfl,?_⟩
     cases em:L2.eqT a (sT "make") with
     |true=>rw[em,Bool.true_and]at q;exact aN ⟨_,rfl,fb,q⟩
     |false=>rw[em,Bool.false_and]at q;exact aL q
 ·exact⟨rfl,_,rfl,aN q⟩
end
end My
namespace My
open PySem L2 PyProof.Rows WordM
section
variable{P:Program}{w:World}{K:W.Frag}{mg:Str->Option Value}{base:Heap}
def gV:List Tv->Bool
 |[.leaf (.int a),.leaf (.int b),.leaf (.int c)]=>if a=b then decide (c=0) else(decide (a<b)&&(decide (1<=c)&&decide ((b-a) % c=0)))
 |_=>false
def zKM:Tv->Bool
 |.seq true L=>gV L
 |_=>false
theorem zFC{L:List Tv}(h:L.length≠3):gV L=false:=by
 match L,h with
 |[],_=>rfl
 |[_],_=>unfold gV;split<;>simp_all
 |[_,_],_=>unfold gV;split<;>simp_all
 |[_,_,_],h=>exact absurd rfl h
 |_::_::_::_::_,_=>unfold gV;split<;>simp_all
theorem zFD{L:List Tv}(h:L.all isW=false):gV L=false:=by
 unfold gV
 split
 ·simp[isW]at h
 ·rfl
def qJ:PSp:=λas R=>∃U,as=[.va U]/\FlD 2 U/\R (bT (zKM U))
theorem C3_:bC ["thing","lo","hi","step"] ["thing"] (aJ s3_):=fsc (by decide +kernel)
theorem g3_(h:Has K mg "is_run" s3_)(B:Own mg)(G0_:aE P w K mg base 1 "is_whole" ["thing"] nO)   : aE P w K mg base 2 "is_run" ["thing"] qJ:=by
 have nd:=C3_.nd
 refine h.pgood C3_ (fun|_,_,_,_,_,_,[_],_=>rfl) (λf cdv A outer s H E F hr=>
   (aG (aV (cG (bV (cI (bI (bK "tuple" fR rfl B.isinstance (aA 0) (bJ (v:=.ty "tuple") rfl B.tuple_ boot_tuple rfl)))) (bV (dO hr (bB bL rfl B.len PySem.boot_len (aB (aA 0) aC)) aD) (cW (cI (bI (bB (iW rfl) rfl B.all boot_all (aB (aX (cK (sc:=aJ s3_) (XN:=["thing","lo","hi","step"]) (N:=["part"]) (fr:=[]) (bG (aA 0)) (λ_ _ _ _ _=>(aI G0_ hr (aB (aA 0) aC))))) aC))))))))
    (aH (aO cB))
    aU)
   (aG (aT 1 nd (aQ hr (aA 0) aD))
   (aG (aT 2 nd (aQ hr (aA 0) aD))
   (aG (aT 3 nd (aQ hr (aA 0) aD))
   (aG (aV (bP hr (aA 1) (aA 2))
    (aH (aO (cE (eN hr.units).op (aA 3) aD)))
    aU)
   (aH (aO (bX (cE (iE).op (aA 1) (aA 2)) (bX (cE (rG).op (aA 3) aD) (cZ (cE (eN hr.units).op (aW qQ (aW eF (aA 2) (aA 1)) (aA 3)) aD)))))))))))) (λas R q=>?_)
 obtain⟨U,rfl,fb,q⟩:=q
 rcases gH fb.ok with rfl|⟨c,rfl⟩|⟨i,rfl⟩|⟨s,rfl⟩|⟨t,L,rfl⟩|⟨kts,rfl⟩
 ·exact⟨rfl,_,rfl,aN q⟩
 ·exact⟨rfl,_,rfl,aN q⟩
 ·exact⟨rfl,_,rfl,aN q⟩
 ·exact⟨rfl,_,rfl,aN q⟩
 ·cases t with
  |false=>exact⟨rfl,_,rfl,aN q⟩
  |true=>
   have q:R (bT (gV L)):=q
   have fl:L.length<=100/\∀x∈L,FlD 1 x:=fb
   refine⟨rfl,_,rfl,aL ⟨_,rfl,?_⟩⟩
   by_cases l3:L.length=3
   ·match L,l3 with
    |[x,y,z],_=>
     refine aL ⟨by simp,iR (λx=>bT (isW x)) (λx hx R q=>⟨x,rfl,(fl.2 x hx).ok,q⟩) ⟨[x,y,z].map isW,by rw[List.map_map];rfl,?_⟩⟩
     rw[List.all_map]
     cases w:[x,y,z].all isW with
     |false=>
      rw[zFD w]at q
      exact⟨_,rfl,by show if (!([x,y,z].all isW))=true then _ else _;rw[w];exact aN q⟩
     |true=>
      have w3:=w
      simp only[List.all_cons,List.all_nil,Bool.and_true,Bool.and_eq_true]at w3
      obtain⟨a,rfl⟩:=jQ w3.1
      obtain⟨b,rfl⟩:=jQ w3.2.1
      obtain⟨c,rfl⟩:=jQ w3.2.2
      have q:R (bT (if a=b then decide (c=0) else(decide (a<b)&&(decide (1<=c)&&decide ((b-a) % c=0))))):=q
      refine⟨_,rfl,aL ⟨_,rfl,_,rfl,_,rfl,_,rfl,dG (λe=>?_) (λe=>⟨_,rfl,dE (λh1=>⟨_,rfl,dE (λh2=>?_) (λh2=>?_)⟩) (λh1=>?_)⟩)⟩⟩
      ·rw[if_pos e]at q
       have:(false != eqV (.int c) (.int 0))=decide (c=0):=by
        by_cases z:c=0
        ·subst z;rfl
        ·rw[decide_eq_false z];simpa[eqV]using z
       show R (bT (false != eqV (.int c) (.int 0)))
       rw[this];exact q
      ·rw[if_neg e,decide_eq_true h1,Bool.true_and,decide_eq_true h2,Bool.true_and]at q
       refine⟨by omega,?_⟩
       have:(false != eqV (.int ((b-a) % c)) (.int 0))=decide ((b-a) % c=0):=by
        by_cases z:(b-a) % c=0
        ·rw[z];rfl
        ·rw[decide_eq_false z];simpa[eqV]using z
       show R (bT (false != eqV (.int ((b-a) % c)) (.int 0)))
       rw[this];exact q
      ·rw[if_neg e,decide_eq_true h1,Bool.true_and,decide_eq_false h2,Bool.false_and]at q
       exact q
      ·rw[if_neg e,decide_eq_false h1,Bool.false_and]at q
       exact q
   ·rw[zFC l3]at q
    show if (true != eqV (.int (L.length:Nat)) (.int 3))=true then _ else _
    rw[show(true != eqV (.int (L.length:Nat)) (.int 3))=true by
     have:¬ ((L.length:Nat):Int)=3:=by omega
     simpa[eqV]using this]
    exact aN q
 ·exact⟨rfl,_,rfl,aN q⟩
def tE:Tv->Bool
 |.leaf (.bl b)=>b
 |_=>false
theorem zCq{T:Tv}(h:eK "bool" T=true):T=bT (tE T):=by
 cases T with
 |leaf v=>cases v<;>first|rfl|(simp[eK]at h)
 |seq t xs=>cases t<;>simp[eK]at h
 |dct k=>simp[eK]at h
def trW(ts:List Tv):Bool:=decide (ts≠[])&&(ts.all (λT=>eK "bool" T)&&oI (ts.map tE))
def trB:Tv->Bool
 |.seq true ts=>trW ts
 |_=>false
def pG:PSp:=λas R=>∃U,as=[.va U]/\FlD 2 U/\R (bT (trB U))
theorem C19_:bC ["thing"] ["thing"] (aJ sQ):=fsc (by decide +kernel)
theorem zLS(h:Has K mg "are_truths" sQ)(B:Own mg)(G4_:aE P w K mg base 1 "rises" ["things"] hE)   : aE P w K mg base 2 "are_truths" ["thing"] pG:=by
 have nd:=C19_.nd
 refine h.pgood C19_ (fun|_,_,_,_,_,_,[_],_=>rfl) (λf cdv A outer s H E F hr=>
   (aG (aV (cG (bV (cI (bI (bK "tuple" fR rfl B.isinstance (aA 0) (bJ (v:=.ty "tuple") rfl B.tuple_ boot_tuple rfl)))) (cW (bP hr (bB bL rfl B.len PySem.boot_len (aB (aA 0) aC)) aD))))
    (aH (aO cB))
    aU)
   (aH (aO (bX (bB (iW rfl) rfl B.all boot_all (aB (aX (cK (sc:=aJ sQ) (XN:=["thing"]) (N:=["truth"]) (fr:=[]) (bG (aA 0)) (λ_ _ _ _ _=>(bK "bool" gZ rfl B.isinstance (aA 0) (bJ (v:=.ty "bool") rfl B.bool_ boot_bool rfl))))) aC)) (cZ (aI G4_ hr (aB (aA 0) aC)))))))) (λas R q=>?_)
 obtain⟨U,rfl,fb,q⟩:=q
 rcases gH fb.ok with rfl|⟨c,rfl⟩|⟨i,rfl⟩|⟨s,rfl⟩|⟨t,L,rfl⟩|⟨kts,rfl⟩
 ·exact⟨rfl,_,rfl,aN q⟩
 ·exact⟨rfl,_,rfl,aN q⟩
 ·exact⟨rfl,_,rfl,aN q⟩
 ·exact⟨rfl,_,rfl,aN q⟩
 ·cases t with
  |false=>exact⟨rfl,_,rfl,aN q⟩
  |true=>
   have fl:L.length<=100/\∀x∈L,FlD 1 x:=fb
   have q:R (bT (trW L)):=q
   refine⟨rfl,_,rfl,aL ⟨_,rfl,?_⟩⟩
   cases L with
   |nil=>exact aN q
   |cons x ts=>
    unfold trW at q
    rw[decide_eq_true (by simp),Bool.true_and]at q
    refine dG (λz=>absurd z (by simp;omega)) λ_=>?_
    refine⟨by omega,iR (λx=>bT (eK "bool" x)) (λx hx R q=>q) ⟨(x::ts).map (eK "bool"),by rw[List.map_map];rfl,?_⟩⟩
    rw[List.all_map]
    refine⟨_,rfl,sif (λh3=>?_) (λh3=>?_)⟩
    ·have h3:((x::ts).all λT=>eK "bool" T)=true:=h3
     rw[h3,Bool.true_and]at q
     refine .inr (.inr ⟨true,_,?_,by rw[List.length_map];omega,q⟩)
     rw[List.map_map]
     exact congrArg (λl=>[Ar.va (Tv.seq true l)]) ((List.map_id _).symm.trans (List.map_congr_left λT hT=>zCq (List.all_eq_true.mp h3 T hT)))
    ·have h3:((x::ts).all λT=>eK "bool" T)=false:=h3
     rw[h3,Bool.false_and]at q
     exact q
 ·exact⟨rfl,_,rfl,aN q⟩
def dL:Tv->Tv->Bool
 |.leaf (.int a),.leaf (.int b)=>decide (0<=a)&&decide (a<=b)
 |_,_=>false
theorem zJg{U V:Tv}(h:isW U=false):dL U V=false:=by
 unfold dL
 split
 ·cases h
 ·rfl
theorem zJf{U V:Tv}(h:isW V=false):dL U V=false:=by
 unfold dL
 split
 ·cases h
 ·rfl
def kY:PSp:=λas R=>∃U V,as=[.va U,.va V]/\okU U/\okU V/\R (bT (dL U V))
theorem C20_:bC ["least","most"] ["least","most"] (aJ xH):=fsc (by decide +kernel)
theorem zLR(h:Has K mg "are_bounds" xH)(B:Own mg)(G0_:aE P w K mg base 1 "is_whole" ["thing"] nO)   : aE P w K mg base 2 "are_bounds" ["least","most"] kY:=by
 have nd:=C20_.nd
 refine h.pgood C20_ (fun|_,_,_,_,_,_,[_,_],_=>rfl) (λf cdv A outer s H E F hr=>
   (aH (aO (bX (aI G0_ hr (aB (aA 0) aC)) (bX (aI G0_ hr (aB (aA 1) aC)) (cZ (pY iF iF aD (aA 0) (aA 1)))))))) (λas R q=>?_)
 obtain⟨U,V,rfl,fu,fv,q⟩:=q
 refine⟨rfl,U,rfl,fu,_,rfl,?_⟩
 cases wl:isW U with
 |false=>rw[zJg wl]at q;exact aL q
 |true=>
  refine aN ⟨V,rfl,fv,_,rfl,?_⟩
  cases wh:isW V with
  |false=>rw[zJf wh]at q;exact aL q
  |true=>
   obtain⟨a,rfl⟩:=jQ wl
   obtain⟨b,rfl⟩:=jQ wh
   have q:R (bT (decide (0<=a)&&decide (a<=b))):=q
   refine aN ⟨_,rfl,dE (λh1=>?_) (λh1=>?_)⟩
   ·rw[decide_eq_true h1,Bool.true_and]at q;exact q
   ·rw[decide_eq_false h1,Bool.false_and]at q;exact q
end
end My
namespace My
open PySem L2 PyProof.Rows WordM
section
variable{P:Program}{w:World}{K:W.Frag}{mg:Str->Option Value}{base:Heap}
def tl:Nat->Int->Int->Int->Int->Int->Int->Int->Int
 |0,_,_,_,_,many,_,_=>many
 |k+1,n,lo,hi,most,many,power,len=>
  if len<=hi then(if most<=many+power then most else tl k n lo hi most (if lo<=len then many+power else many) (power*n) (len+1)) else many
def vD:PSp:=λas R=>∃(S:Str) (lo hi most:Int),as=[.va (sT S),.va (iT lo),.va (iT hi),.va (iT most)]/\2<=S.length/\S.length<=1000/\most<10 ^ 90/\R (iT (tl 400 S.length lo hi most 0 1 0))
theorem C9_:bC ["signs","shortest","longest","most","many","power","length"] ["signs","shortest","longest","most"] (aJ s9_):=fsc (by decide +kernel)
theorem g9_(h:Has K mg "tails_many" s9_)(B:Own mg)    : aE P w K mg base 1 "tails_many" ["signs","shortest","longest","most"] vD:=by
 have nd:=C9_.nd
 refine h.pgood C9_ (fun|_,_,_,_,_,_,[_,_,_,_],_=>rfl) (λf cdv A outer s H E F hr=>
   (aG (aT 4 nd aD)
   (aG (aT 5 nd aD)
   (aG (aT 6 nd aD)
   (aG (pV PassesOwn.never (bY iF (aA 6) (aA 2))
    (aG (aV (bY rG (aW bO (aA 4) (aA 5)) (aA 3))
     (aH (aO (aA 3)))
     aU)
    (aG (aV (bY rG (aA 6) (aA 1))
     (aH (aT 4 nd (aW bO (aA 4) (aA 5))))
     aU)
    (aG (aT 5 nd (aW gO (aA 5) (bB bL rfl B.len PySem.boot_len (aB (aA 0) aC))))
    (aH (aT 6 nd (aW bO (aA 6) aD)))))))
   (aH (aO (aA 4)))))))) (λas R q=>?_)
 obtain⟨S,lo,hi,most,rfl,s2,s1,hm,q⟩:=q
 refine⟨rfl,λM ρ=>∃many power len:Int,ρ=[.va (sT S),.va (iT lo),.va (iT hi),.va (iT most),.va (iT many),.va (iT power),.va (iT len)]/\0<=many/\(2:Int) ^ (400-M)<=power/\1<=M/\M<=400/\R (iT (tl M S.length lo hi most many power len)),⟨400,0,1,0,rfl,by decide,by decide,by decide,by decide,q⟩,?_⟩
 rintro M _ ⟨many,power,len,rfl,m0,hp,M1,M4,q⟩
 obtain⟨M,rfl⟩:∃M',M=M'+1:=⟨M-1,by omega⟩
 rw[tl]at q
 refine⟨_,rfl,dE (λh1=>?_) (λh1=>?_)⟩
 ·rw[if_pos h1]at q
  refine⟨_,rfl,dE (λh2=>?_) (λh2=>?_)⟩
  ·rw[if_pos h2]at q;exact q
  ·rw[if_neg h2]at q
   have pm:power<10 ^ 90:=by omega
   have hM:400-(M+1)<300:=by
    refine Nat.lt_of_not_le λz=>?_
    have a:(2:Int) ^ 300<=2 ^ (400-(M+1)):=by exact_mod_cast Nat.pow_le_pow_right (n:=2) (by decide) z
    have b:(10:Int) ^ 90<2 ^ 300:=by decide
    omega
   have p0:0<power:=Int.lt_of_lt_of_le (Int.pow_pos (by decide)) hp
   have hp2:(2:Int) ^ (400-M)<=power*(S.length:Nat):=by
    have e:400-M=(400-(M+1))+1:=by omega
    rw[e,Int.pow_succ]
    exact Int.mul_le_mul hp (by omega) (by decide) (by omega)
   refine⟨_,rfl,dE (λh3=>?_) (λh3=>?_)⟩
   ·rw[if_pos h3]at q
    exact⟨by show S.length<=_;omega,.inr ⟨bD (by omega) (by omega),bD (by omega) (by omega)⟩,M,by omega,_,_,_,rfl,by omega,hp2,by omega,by omega,q⟩
   ·rw[if_neg h3]at q
    exact⟨by show S.length<=_;omega,.inr ⟨bD (by omega) (by omega),bD (by omega) (by omega)⟩,M,by omega,_,_,_,rfl,m0,hp2,by omega,by omega,q⟩
 ·rw[if_neg h1]at q
  exact q
def dW(ms:List Str):List Str:=ms.map λm=>(getS SGN m).getD ⟨#[]⟩
theorem zHv{m:Str}(h:m∈MK):getS SGN m=some ((getS SGN m).getD ⟨#[]⟩):=by
 simp only[MK,List.mem_cons,List.not_mem_nil,or_false]at h
 rcases h with rfl|rfl|rfl|rfl<;>rfl
theorem zGK{m:Str}(h:m∈MK):10<=(cs ((getS SGN m).getD ⟨#[]⟩)).length/\(cs ((getS SGN m).getD ⟨#[]⟩)).length<=40:=by
 simp only[MK,List.mem_cons,List.not_mem_nil,or_false]at h
 rcases h with rfl|rfl|rfl|rfl<;>decide +kernel
theorem qG:∀{ms:List Str},(∀m∈ms,m∈MK)->10*ms.length<=(bH (dW ms)).length/\(bH (dW ms)).length<=40*ms.length
 |[],_=>⟨Nat.le_refl _,Nat.le_refl _⟩
 |m::ms,h=>by
  have ih:=qG λx hx=>h x (List.mem_cons_of_mem _ hx)
  have o:=zGK (h m (List.mem_cons_self ..))
  have e:(bH (dW (m::ms))).length=(cs ((getS SGN m).getD ⟨#[]⟩)).length+(bH (dW ms)).length:=by
   show(bH (_::dW ms)).length=_
   simp[bH]
  rw[e,List.length_cons]
  omega
def tY:PSp:=λas R=>∃(t:Bool) (ms:List Str),as=[.va (.seq t (ms.map sT))]/\ms.length<=4/\(∀m∈ms,m∈MK)/\R (sT ⟨(bH (dW ms)).toArray⟩)
theorem C10_:bC ["marks"] ["marks"] (aJ sS):=fsc (by decide +kernel)
theorem zLZ(h:Has K mg "signs_of" sS)(B:Own mg)(GSIGNS:oP K w.params mg "SIGNS" SGN)  : aE P w K mg base 1 "signs_of" ["marks"] tY:=by
 have nd:=C10_.nd
 refine h.pgood C10_ (fun|_,_,_,_,_,_,[_],_=>rfl) (λf cdv A outer s H E F hr=>
   (aH (aO (qN PySem.F.slot_str_join PySem.F.type_str_join zBa bA (aB (aX (cK (sc:=aJ sS) (XN:=["marks"]) (N:=["mark"]) (fr:=[]) (bG (aA 0)) (λ_ _ _ _ _=>(zCa GSIGNS rfl (aA 0))))) aC))))) (λas R q=>?_)
 obtain⟨t,ms,rfl,l4,hm,q⟩:=q
 refine⟨rfl,rfl,by rw[List.length_map];omega,dB sT (λm=>sT ((getS SGN m).getD ⟨#[]⟩)) (λm hm' R q=>⟨m,_,rfl,zHv (hm m hm'),q⟩) ⟨dW ms,rfl,?_,?_,q⟩⟩
 ·unfold dW;rw[List.map_map];rfl
 ·have:=(qG hm).2;omega
def lX(lo hi:Int)(ms:List Str)(most:Int):Int:=tl 400 ((bH (dW ms)).length:Nat) lo hi most 0 1 0
def qI:PSp:=λas R=>∃(hd:Tv) (lo hi most:Int) (ms:List Str),as=[.va (.seq true [sT "make",hd,iT lo,iT hi,.seq true (ms.map sT)]),.va (iT most)]/\ms≠[]/\ms.length<=4/\(∀m∈ms,m∈MK)/\most<10 ^ 90/\R (iT (lX lo hi ms most))
theorem C11_:bC ["words","most"] ["words","most"] (aJ xK):=fsc (by decide +kernel)
theorem zLY(h:Has K mg "words_many" xK)(B:Own mg)(G9_:aE P w K mg base 1 "tails_many" ["signs","shortest","longest","most"] vD)(G10_:aE P w K mg base 1 "signs_of" ["marks"] tY)   : aE P w K mg base 2 "words_many" ["words","most"] qI:=by
 have nd:=C11_.nd
 refine h.pgood C11_ (fun|_,_,_,_,_,_,[_,_],_=>rfl) (λf cdv A outer s H E F hr=>
   (aG (aV (bP hr (aQ hr (aA 0) aD) bA)
    (aH (aO (bB (hV rfl) rfl B.min boot_min (aB (bB bL rfl B.len PySem.boot_len (aB (aQ hr (aA 0) aD) aC)) (aB (aA 1) aC)))))
    aU)
   (aH (aO (aI G9_ hr (aB (aI G10_ hr (aB (aQ hr (aA 0) aD) aC)) (aB (aQ hr (aA 0) aD) (aB (aQ hr (aA 0) aD) (aB (aA 1) aC))))))))) (λas R q=>?_)
 obtain⟨hd,lo,hi,most,ms,rfl,n0,l4,hm,h9,q⟩:=q
 have sl:=qG hm
 have p:0<ms.length:=List.length_pos_iff.mpr n0
 refine⟨rfl,_,rfl,_,rfl,rX (λe=>absurd e (by decide +kernel)) λ_=>⟨_,rfl,true,ms,rfl,l4,hm,_,rfl,_,rfl,⟨(bH (dW ms)).toArray⟩,lo,hi,most,rfl,?_,?_,h9,q⟩⟩
 ·show 2<=(bH (dW ms)).length;omega
 ·show(bH (dW ms)).length<=_;omega
end
end My
namespace My
open PySem L2 PyProof.Rows WordM
section
variable{P:Program}{w:World}{K:W.Frag}{mg:Str->Option Value}{base:Heap}
def FlE:Nat->Tv->Prop
 |0,_=>False
 |_+1,.leaf v=>cY v=true/\(∀s,v=.str s->s.length<=1000)/\∀i,v=.int i->i<10 ^ 90
 |n+1,.seq _ l=>l.length<=100/\(∀x∈l,FlE n x)/\∀a b f,l=[a,b,iT 0,f]->∀kts,f≠.dct kts
 |_+1,.dct _=>True
theorem FlE.up:∀{n:Nat}{U:Tv},FlE n U->FlE (n+1) U
 |0,_,h=>False.elim h
 |n+1,.leaf v,h=>h
 |n+1,.seq _ l,h=>⟨h.1,λx hx=>(h.2.1 x hx).up,h.2.2⟩
 |n+1,.dct _,_=>trivial
theorem FlE.le{n m:Nat}{U:Tv}(h:n<=m)(f:FlE n U):FlE m U:=by
 induction m with
 |zero=>rw[Nat.le_zero.mp h]at f;exact f
 |succ m ih=>
  rcases Nat.lt_or_eq_of_le h with z|z
  ·exact(ih (by omega)).up
  ·rw[<-z];exact f
theorem FlE.fld:∀{n j:Nat}{U:Tv},FlE n U->FlD j U
 |0,_,_,h=>False.elim h
 |n+1,0,_,_=>trivial
 |n+1,j+1,.leaf v,h=>⟨h.1,h.2.1⟩
 |n+1,j+1,.seq _ l,h=>⟨h.1,λx hx=>(h.2.1 x hx).fld⟩
 |n+1,j+1,.dct _,_=>trivial
variable{k:Nat}
def eI(fm:Tv->Bool)(U:Tv):Bool:=fm U&&(match U with|.seq true []=>false|_=>true)
def KNS:List Str:=["nothing","truth","number","text","list","dict"]
def oA(k:Nat)(fm:Tv->Bool):PSp:=λas R=>∃U,as=[.va U]/\FlE (2*k) U/\R (bT (fm U))
def Tup(fm:Tv->Bool):Prop:=∀U,fm U=true->∃l,U=.seq true l
variable{fm:Tv->Bool}{L:Nat}
def qS(k:Nat)(fm:Tv->Bool):PSp:=λas R=>∃U,as=[.va U]/\FlE (2*k) U/\R (bT (eI fm U))
theorem C21_:bC ["thing"] ["thing"] (aJ sP):=fsc (by decide +kernel)
theorem zLQ(h:Has K mg "lets_some_by" sP)(B:Own mg)(G28_:aE P w K mg base (L+6) "is_form" ["thing"] (oA k fm))(tp:Tup fm):aE P w K mg base (L+7) "lets_some_by" ["thing"] (qS k fm):=by
 have nd:=C21_.nd
 refine h.pgood C21_ (fun|_,_,_,_,_,_,[_],_=>rfl) (λf cdv A outer s H E F hr=>
   (aH (aO (bX (aI G28_ hr (aB (aA 0) aC)) (cZ (cE (wK hr.units).op (aA 0) (bM aC))))))) (λas R q=>?_)
 obtain⟨U,rfl,fu,q⟩:=q
 refine⟨rfl,U,rfl,fu,_,rfl,?_⟩
 cases e:fm U with
 |false=>
  unfold eI at q
  rw[e,Bool.false_and]at q
  exact aL q
 |true=>
  obtain⟨l,rfl⟩:=tp U e
  unfold eI at q
  rw[e,Bool.true_and]at q
  refine aN ⟨by simp,.inr (.inl rfl),?_⟩
  cases l with
  |nil=>exact q
  |cons x l=>exact q
def mN:Tv->Bool
 |.seq true []=>true
 |_=>false
def oF:Tv->Bool
 |.leaf (.int i)=>decide (i=0)
 |_=>false
def qX(fm:Tv->Bool):List Tv->Bool
 |[_,lo,hi,f]=>dL lo hi&&(if oF hi then mN f else eI fm f)
 |_=>false
theorem zD2{l:List Tv}(h:l.length≠4):qX fm l=false:=by
 match l,h with
 |[],_=>rfl
 |[_],_=>rfl
 |[_,_],_=>rfl
 |[_,_,_],_=>rfl
 |[_,_,_,_],h=>exact absurd rfl h
 |_::_::_::_::_::_,_=>rfl
theorem qU{l:List Tv}{m:Nat}(h:l.length≠m):(true != eqV (.int (l.length:Nat)) (.int (m:Nat)))=true:=by
 have:¬ ((l.length:Nat):Int)=(m:Nat):=by omega
 simpa[eqV]using this
theorem vQ{U V:Tv}(h:dL U V=true):∃a b,U=iT a/\V=iT b/\0<=a/\a<=b:=by
 unfold dL at h
 split at h
 ·simp only[Bool.and_eq_true,decide_eq_true_iff]at h
  exact⟨_,_,rfl,rfl,h.1,h.2⟩
 ·cases h
theorem zBn(i:Int):(false != eqV (.int i) (.int 0))=decide (i=0):=by
 by_cases z:i=0
 ·subst z;rfl
 ·rw[decide_eq_false z];simpa[eqV]using z
def zA2(k:Nat)(fm:Tv->Bool):PSp:=λas R=>∃l,as=[.va (.seq true l)]/\FlE (2*k+1) (.seq true l)/\R (bT (qX fm l))
theorem C22_:bC ["thing"] ["thing"] (aJ sO):=fsc (by decide +kernel)
theorem zLP(h:Has K mg "is_lists" sO)(B:Own mg)(G20_:aE P w K mg base 2 "are_bounds" ["least","most"] kY)(G21_:aE P w K mg base (L+7) "lets_some_by" ["thing"] (qS k fm))   : aE P w K mg base (L+8) "is_lists" ["thing"] (zA2 k fm):=by
 have nd:=C22_.nd
 refine h.pgood C22_ (fun|_,_,_,_,_,_,[_],_=>rfl) (λf cdv A outer s H E F hr=>
   (aG (aV (cG (bV (dO hr (bB bL rfl B.len PySem.boot_len (aB (aA 0) aC)) aD) (cW (cI (bI (aI G20_ hr (aB (aQ hr (aA 0) aD) (aB (aQ hr (aA 0) aD) aC))))))))
    (aH (aO cB))
    aU)
   (aH (aO (zFs (bP hr (aQ hr (aA 0) aD) aD) (cE (eN hr.units).op (aQ hr (aA 0) aD) (bM aC)) (aI G21_ hr (aB (aQ hr (aA 0) aD) aC))))))) (λas R q=>?_)
 obtain⟨l,rfl,fl,q⟩:=q
 by_cases l4:l.length=4
 ·match l,l4 with
  |[w,lo,hi,f],_=>
   have flo:FlE (2*k) lo:=fl.2.1 lo (by simp)
   have fhi:FlE (2*k) hi:=fl.2.1 hi (by simp)
   have ff:FlE (2*k) f:=fl.2.1 f (by simp)
   have q2:R (bT (dL lo hi&&(if oF hi then mN f else eI fm f))):=q
   refine⟨rfl,_,rfl,aL ⟨_,rfl,_,rfl,lo,hi,rfl,(flo.fld (j:=1)).ok,(fhi.fld (j:=1)).ok,_,rfl,?_⟩⟩
   cases bb:dL lo hi with
   |false=>rw[bb,Bool.false_and]at q2;exact aN q2
   |true=>
    rw[bb,Bool.true_and]at q2
    obtain⟨a,b,rfl,rfl,a0,ab⟩:=vQ bb
    refine aL ⟨_,rfl,_,rfl,?_⟩
    have q3:R (bT (if decide (b=0) then mN f else eI fm f)):=q2
    rw[zBn]
    by_cases z:b=0
    ·rw[decide_eq_true z,if_pos rfl]at q3
     rw[decide_eq_true z]
     subst z
     refine aN ⟨_,rfl,by simp,?_⟩
     cases f with
     |leaf v=>exact q3
     |dct kts=>exact absurd rfl (fl.2.2 w (iT a) _ rfl kts)
     |seq t xs=>
      refine⟨.inr (.inl rfl),?_⟩
      show R (bT (false != ((t==true)&&cC xs [])))
      have e:(false != ((t==true)&&cC xs []))=mN (.seq t xs):=by
       cases t<;>cases xs<;>simp[cC,mN]
      rw[e];exact q3
    ·rw[decide_eq_false z,if_neg Bool.false_ne_true]at q3
     rw[decide_eq_false z]
     exact aL ⟨_,rfl,f,rfl,ff,q3⟩
 ·rw[zD2 l4]at q
  refine⟨rfl,_,rfl,?_⟩
  show if (true != eqV (.int (l.length:Nat)) (.int (4:Nat)))=true then _ else _
  rw[qU l4]
  exact aN q
def fL(fm:Tv->Bool):Tv->Bool
 |.seq true [n,m,f]=>txB n&&(eK "bool" m&&eI fm f)
 |_=>false
def zA3(k:Nat)(fm:Tv->Bool):PSp:=λas R=>∃U,as=[.va U]/\FlE (2*k+1) U/\R (bT (fL fm U))
theorem C23_:bC ["thing"] ["thing"] (aJ sM):=fsc (by decide +kernel)
theorem zLO(h:Has K mg "is_field" sM)(B:Own mg)(G21_:aE P w K mg base (L+7) "lets_some_by" ["thing"] (qS k fm))(G2_:aE P w K mg base 2 "is_text" ["thing"] kX)   : aE P w K mg base (L+8) "is_field" ["thing"] (zA3 k fm):=by
 have nd:=C23_.nd
 refine h.pgood C23_ (fun|_,_,_,_,_,_,[_],_=>rfl) (λf cdv A outer s H E F hr=>
   (aG (aV (cG (bV (cI (bI (bK "tuple" fR rfl B.isinstance (aA 0) (bJ (v:=.ty "tuple") rfl B.tuple_ boot_tuple rfl)))) (cW (dO hr (bB bL rfl B.len PySem.boot_len (aB (aA 0) aC)) aD))))
    (aH (aO cB))
    aU)
   (aH (aO (bX (aI G2_ hr (aB (aQ hr (aA 0) aD) aC)) (bX (bK "bool" gZ rfl B.isinstance (aQ hr (aA 0) aD) (bJ (v:=.ty "bool") rfl B.bool_ boot_bool rfl)) (cZ (aI G21_ hr (aB (aQ hr (aA 0) aD) aC))))))))) (λas R q=>?_)
 obtain⟨U,rfl,fb,q⟩:=q
 rcases gH (fb.fld (j:=1)).ok with rfl|⟨c,rfl⟩|⟨i,rfl⟩|⟨s,rfl⟩|⟨t,l,rfl⟩|⟨kts,rfl⟩
 ·exact⟨rfl,_,rfl,aN q⟩
 ·exact⟨rfl,_,rfl,aN q⟩
 ·exact⟨rfl,_,rfl,aN q⟩
 ·exact⟨rfl,_,rfl,aN q⟩
 ·cases t with
  |false=>exact⟨rfl,_,rfl,aN q⟩
  |true=>
   by_cases l3:l.length=3
   ·match l,l3 with
    |[n,m,f],_=>
     have fn:FlE (2*k) n:=fb.2.1 n (by simp)
     have ff:FlE (2*k) f:=fb.2.1 f (by simp)
     have q:R (bT (txB n&&(eK "bool" m&&eI fm f))):=q
     refine⟨rfl,_,rfl,aL ⟨_,rfl,aL ⟨_,rfl,n,rfl,(fn.fld (j:=1)).ok,(fn.fld (j:=1)).tx,_,rfl,?_⟩⟩⟩
     cases tn:txB n with
     |false=>rw[tn,Bool.false_and]at q;exact aL q
     |true=>
      rw[tn,Bool.true_and]at q
      refine aN ⟨_,rfl,_,rfl,?_⟩
      cases tm:eK "bool" m with
      |false=>rw[tm,Bool.false_and]at q;exact aL q
      |true=>
       rw[tm,Bool.true_and]at q
       exact aN ⟨_,rfl,f,rfl,ff,q⟩
   ·have e:fL fm (.seq true l)=false:=by
     match l,l3 with
     |[],_=>rfl
     |[_],_=>rfl
     |[_,_],_=>rfl
     |[_,_,_],h=>exact absurd rfl h
     |_::_::_::_::_,_=>rfl
    rw[e]at q
    refine⟨rfl,_,rfl,aL ⟨_,rfl,?_⟩⟩
    show if (true != eqV (.int (l.length:Nat)) (.int (3:Nat)))=true then _ else _
    rw[qU l3]
    exact aN q
 ·exact⟨rfl,_,rfl,aN q⟩
def kH:Tv->Tv
 |.seq _ (n::_)=>n
 |_=>nT
def iS(fm:Tv->Bool):Tv->Bool
 |.seq true fs=>decide (fs.length<=8)&&(fs.all (fL fm)&&eL (fs.map λf=>cN (kH f)))
 |_=>false
theorem zAA{U:Tv}(h:fL fm U=true):∃n m f,U=.seq true [sT n,m,f]:=by
 unfold fL at h
 split at h
 ·rename_i n m f
  exact⟨cN n,m,f,by rw[<-zAS (Bool.and_eq_true_iff.mp h).1]⟩
 ·cases h
def zAj(k:Nat)(fm:Tv->Bool):PSp:=λas R=>∃U,as=[.va U]/\FlE (2*k+2) U/\R (bT (iS fm U))
theorem C24_:bC ["thing"] ["thing"] (aJ mK):=fsc (by decide +kernel)
theorem zLN(h:Has K mg "are_fields" mK)(B:Own mg)(G4_:aE P w K mg base 1 "rises" ["things"] hE)(G23_:aE P w K mg base (L+8) "is_field" ["thing"] (zA3 k fm))(GMOST_FIELDS:gC K mg "MOST_FIELDS" (iT 8))  : aE P w K mg base (L+9) "are_fields" ["thing"] (zAj k fm):=by
 have nd:=C24_.nd
 refine h.pgood C24_ (fun|_,_,_,_,_,_,[_],_=>rfl) (λf cdv A outer s H E F hr=>
   (aG (aV (cG (bV (cI (bI (bK "tuple" fR rfl B.isinstance (aA 0) (bJ (v:=.ty "tuple") rfl B.tuple_ boot_tuple rfl)))) (cW (bY rF (bB bL rfl B.len PySem.boot_len (aB (aA 0) aC)) (rA GMOST_FIELDS rfl)))))
    (aH (aO cB))
    aU)
   (aH (aO (bX (bB (iW rfl) rfl B.all boot_all (aB (aX (cK (sc:=aJ mK) (XN:=["thing"]) (N:=["field"]) (fr:=[]) (bG (aA 0)) (λ_ _ _ _ _=>(aI G23_ hr (aB (aA 0) aC))))) aC)) (cZ (aI G4_ hr (aB (aX (cK (sc:=aJ mK) (XN:=["thing"]) (N:=["field"]) (fr:=[]) (bG (aA 0)) (λ_ _ _ _ _=>(aQ hr (aA 0) aD)))) aC)))))))) (λas R q=>?_)
 obtain⟨U,rfl,fb,q⟩:=q
 rcases gH (fb.fld (j:=1)).ok with rfl|⟨c,rfl⟩|⟨i,rfl⟩|⟨s,rfl⟩|⟨t,fs,rfl⟩|⟨kts,rfl⟩
 ·exact⟨rfl,_,rfl,aN q⟩
 ·exact⟨rfl,_,rfl,aN q⟩
 ·exact⟨rfl,_,rfl,aN q⟩
 ·exact⟨rfl,_,rfl,aN q⟩
 ·cases t with
  |false=>exact⟨rfl,_,rfl,aN q⟩
  |true=>
   have q:R (bT (decide (fs.length<=8)&&(fs.all (fL fm)&&eL (fs.map λf=>cN (kH f))))):=q
   refine⟨rfl,_,rfl,aL ⟨_,rfl,dE (λh8=>?_) (λh8=>?_)⟩⟩
   ·have h8':¬ fs.length<=8:=by have h8:(8:Int)<(fs.length:Nat):=h8;omega
    rw[decide_eq_false h8',Bool.false_and]at q
    exact q
   ·have h8':fs.length<=8:=by have h8:¬ (8:Int)<(fs.length:Nat):=h8;omega
    rw[decide_eq_true h8',Bool.true_and]at q
    refine⟨by omega,iR (λf=>bT (fL fm f)) (λf hf R q=>⟨f,rfl,fb.2.1 f hf,q⟩) ⟨fs.map (fL fm),by rw[List.map_map];rfl,?_⟩⟩
    rw[List.all_map]
    refine⟨_,rfl,sif (λh3=>?_) (λh3=>?_)⟩
    ·have h3:fs.all (fL fm)=true:=h3
     rw[h3,Bool.true_and]at q
     have h3:=List.all_eq_true.mp h3
     refine⟨by omega,iR kH (λf hf R q=>?_) ?_⟩
     ·obtain⟨n,m,g,rfl⟩:=zAA (h3 f hf)
      exact⟨_,rfl,q⟩
     ·refine .inl ⟨false,fs.map λf=>cN (kH f),?_,by rw[List.length_map];omega,q⟩
      rw[List.map_map]
      refine congrArg (λl=>[Ar.va (Tv.seq false l)]) (List.map_congr_left λf hf=>?_)
      obtain⟨n,m,g,rfl⟩:=zAA (h3 f hf)
      rfl
    ·have h3:fs.all (fL fm)=false:=h3
     rw[h3,Bool.false_and]at q
     exact q
 ·exact⟨rfl,_,rfl,aN q⟩
end
end My
namespace My
open PySem L2 PyProof.Rows WordM
section
variable{P:Program}{w:World}{K:W.Frag}{mg:Str->Option Value}{base:Heap}
variable{k L:Nat}{fm:Tv->Bool}
theorem nxE{N:aR->Prop}{ρ ρ':aR}(e:ρ=ρ')(h:N ρ'):N ρ:=e▸h
def fZ:Tv->Bool
 |.seq _ (_::m::_)=>tE m
 |_=>false
def sU(lo hi:Tv)(F:List Tv):Bool:=match lo,hi with
 |.leaf (.int a),.leaf (.int b)=>
  let m:Int:=((F.filter fZ).length:Nat)
  let n:Int:=(F.length:Nat)
  if m<n/\(a=n\/b=m) then false else decide (m<=a)&&decide (b<=n)
 |_,_=>false
def zCz(lo hi:Tv):Tv->Bool
 |.seq _ F=>sU lo hi F
 |_=>false
def sV(fm:Tv->Bool):List Tv->Bool
 |[_,lo,hi,fs]=>dL lo hi&&(iS fm fs&&zCz lo hi fs)
 |_=>false
theorem zFF{l:List Tv}(h:l.length≠4):sV fm l=false:=by
 match l,h with
 |[],_=>rfl
 |[_],_=>rfl
 |[_,_],_=>rfl
 |[_,_,_],_=>rfl
 |[_,_,_,_],h=>exact absurd rfl h
 |_::_::_::_::_::_,_=>rfl
theorem zD5{U:Tv}(h:iS fm U=true):∃F,U=.seq true F/\F.length<=8/\∀f∈F,∃n b g,f=.seq true [n,bT b,g]:=by
 unfold iS at h
 split at h
 ·rename_i fs
  have h1:=Bool.and_eq_true_iff.mp h
  have h2:=Bool.and_eq_true_iff.mp h1.2
  refine⟨_,rfl,of_decide_eq_true h1.1,λf hf=>?_⟩
  have hf:=List.all_eq_true.mp h2.1 f hf
  unfold fL at hf
  split at hf
  ·rename_i n m g _
   have e:=Bool.and_eq_true_iff.mp hf
   have e:=Bool.and_eq_true_iff.mp e.2
   exact⟨n,tE m,g,by rw[<-zCq e.1]⟩
  ·cases hf
 ·cases h
def zAi(k:Nat)(fm:Tv->Bool):PSp:=λas R=>∃l,as=[.va (.seq true l)]/\FlE (2*k+1) (.seq true l)/\R (bT (sV fm l))
theorem C25_:bC ["thing","least","most","names","musts"] ["thing"] (aJ oS):=fsc (by decide +kernel)
theorem zLM(h:Has K mg "is_record" oS)(B:Own mg)(G24_:aE P w K mg base (L+9) "are_fields" ["thing"] (zAj k fm))(G20_:aE P w K mg base 2 "are_bounds" ["least","most"] kY)   : aE P w K mg base (L+10) "is_record" ["thing"] (zAi k fm):=by
 have nd:=C25_.nd
 refine h.pgood C25_ (fun|_,_,_,_,_,_,[_],_=>rfl) (λf cdv A outer s H E F hr=>
   (aG (aV (cG (bV (dO hr (bB bL rfl B.len PySem.boot_len (aB (aA 0) aC)) aD) (bV (cI (bI (aI G20_ hr (aB (aQ hr (aA 0) aD) (aB (aQ hr (aA 0) aD) aC))))) (cW (cI (bI (aI G24_ hr (aB (aQ hr (aA 0) aD) aC))))))))
    (aH (aO cB))
    aU)
   (aG (aT 1 nd (aQ hr (aA 0) aD))
   (aG (aT 2 nd (aQ hr (aA 0) aD))
   (aG (aT 3 nd (bB bL rfl B.len PySem.boot_len (aB (aQ hr (aA 0) aD) aC)))
   (aG (aT 4 nd (bB bL rfl B.len PySem.boot_len (aB (aX (lT (sc:=aJ oS) (XN:=["thing","least","most","names","musts"]) (N:=["field"]) (fr:=[]) (bG (aQ hr (aA 0) aD)) (λ_ _ _ _ _=>(fJ (bI (aQ hr (aA 0) aD)))) (λ_ _ _ _ _=>(aA 0)))) aC)))
   (aG (aV (cG (nU (bY iE (aA 4) (aA 3)) (qC (cG (bV (bP hr (aA 1) (aA 3)) (cW (bP hr (aA 2) (aA 4))))))))
    (aH (aO cB))
    aU)
   (aH (aO (bX (cE (iF).op (aA 4) (aA 1)) (cZ (cE (iF).op (aA 2) (aA 3))))))))))))) (λas R q=>?_)
 obtain⟨l,rfl,fl,q⟩:=q
 by_cases l4:l.length=4
 ·match l,l4 with
  |[w,lo,hi,fs],_=>
   have flo:FlE (2*k) lo:=fl.2.1 lo (by simp)
   have fhi:FlE (2*k) hi:=fl.2.1 hi (by simp)
   have ff:FlE (2*k+2) fs:=(fl.2.1 fs (by simp)).le (by omega)
   have q2:R (bT (dL lo hi&&(iS fm fs&&zCz lo hi fs))):=q
   refine⟨rfl,_,rfl,aL ⟨_,rfl,_,rfl,lo,hi,rfl,(flo.fld (j:=1)).ok,(fhi.fld (j:=1)).ok,_,rfl,?_⟩⟩
   cases bb:dL lo hi with
   |false=>rw[bb,Bool.false_and]at q2;exact aN q2
   |true=>
    rw[bb,Bool.true_and]at q2
    obtain⟨a,b,rfl,rfl,a0,ab⟩:=vQ bb
    refine aL ⟨_,rfl,fs,rfl,ff,_,rfl,?_⟩
    cases ef:iS fm fs with
    |false=>rw[ef,Bool.false_and]at q2;exact aN q2
    |true=>
     rw[ef,Bool.true_and]at q2
     obtain⟨F,rfl,F8,hF⟩:=zD5 ef
     have q3:R (bT (sU (iT a) (iT b) F)):=q2
     refine aL ⟨_,rfl,_,rfl,_,rfl,_,rfl,by omega,gK (λf=>if fZ f=true then some f else none) (λf hf R q=>?_) ?_⟩
     ·obtain⟨n,c,g,rfl⟩:=hF f hf
      refine⟨_,rfl,_,rfl,?_⟩
      cases c
      ·exact aL q
      ·exact aN q
     show PEnds.nx _ _
     have ll:(F.filterMap λf=>if fZ f=true then some f else none).length=(F.filter fZ).length:=by
      generalize F=l
      induction l with
      |nil=>rfl
      |cons x l ih=>
       rw[List.filterMap_cons,List.filter_cons]
       cases fZ x with
       |true=>rw[if_pos rfl,if_pos rfl];simpa using ih
       |false=>rw[if_neg Bool.false_ne_true,if_neg Bool.false_ne_true];exact ih
     rw[ll]
     refine nxE (ρ':=[.va (.seq true [w,iT a,iT b,.seq true F]),.va (iT a),.va (iT b),.va (iT (F.length:Nat)),.va (iT ((F.filter fZ).length:Nat))]) rfl ?_
     generalize hm:(F.filter fZ).length=m at ll
     have q4:R (bT (if ((m:Nat):Int)<(F.length:Nat)/\(a=(F.length:Nat)\/b=(m:Nat)) then false else decide (((m:Nat):Int)<=a)&&decide (b<=(F.length:Nat)))):=by
      rw[<-hm];exact q3
     refine⟨_,rfl,dE (λh1=>⟨_,rfl,dG (λh2=>?_) (λh2=>⟨_,rfl,dG (λh3=>?_) (λh3=>?_)⟩)⟩) (λh1=>?_)⟩
     ·rw[if_pos ⟨h1,.inl h2⟩]at q4;exact q4
     ·rw[if_pos ⟨h1,.inr h3⟩]at q4;exact q4
     ·rw[if_neg (λz=>z.2.elim h2 h3)]at q4
      exact⟨_,rfl,dE (λg=>by rw[decide_eq_true g,Bool.true_and]at q4;exact q4) (λg=>by rw[decide_eq_false g,Bool.false_and]at q4;exact q4)⟩
     ·rw[if_neg (λz=>h1 z.1)]at q4
      exact⟨_,rfl,dE (λg=>by rw[decide_eq_true g,Bool.true_and]at q4;exact q4) (λg=>by rw[decide_eq_false g,Bool.false_and]at q4;exact q4)⟩
 ·rw[zFF l4]at q
  refine⟨rfl,_,rfl,?_⟩
  show if (true != eqV (.int (l.length:Nat)) (.int (4:Nat)))=true then _ else _
  rw[qU l4]
  exact aN q
def mF:Tv->Tv->Bool
 |.leaf (.int b),.seq true [_,_,.leaf (.int lo),.leaf (.int hi),.seq true ms]=>decide (b≠0)&&decide (b<=lX lo hi (ms.map cN) b)
 |_,_=>false
theorem zEt{wd:Tv}:mF (iT 0) wd=false:=by
 unfold mF
 split
 ·rename_i b _ _ lo hi ms e
  have:b=0:=by cases e;rfl
  subst this;rfl
 ·rfl
def rT(fm:Tv->Bool):List Tv->Bool
 |[_,lo,hi,wd,f]=>dL lo hi&&(gQ wd&&(mF hi wd&&eI fm f))
 |_=>false
theorem zFw{l:List Tv}(h:l.length≠5):rT fm l=false:=by
 match l,h with
 |[],_=>rfl
 |[_],_=>rfl
 |[_,_],_=>rfl
 |[_,_,_],_=>rfl
 |[_,_,_,_],_=>rfl
 |[_,_,_,_,_],h=>exact absurd rfl h
 |_::_::_::_::_::_::_,_=>rfl
theorem eG{a:Tv}{s:Str}(h:L2.eqT a (sT s)=true):a=sT s:=by
 cases a with
 |leaf v=>
  cases v with
  |str z=>simp[L2.eqT,eqV]at h;subst h;rfl
  |_=>simp[L2.eqT,eqV]at h
 |_=>simp[L2.eqT]at h
theorem zEj{U:Tv}(h:gQ U=true):(∃b,U=.seq true [sT "few",b])\/∃hd lo hi ms,U=.seq true [sT "make",hd,iT lo,iT hi,.seq true (ms.map sT)]/\ms≠[]/\ms.length<=4/\∀m∈ms,m∈MK:=by
 unfold gQ at h
 split at h
 ·rename_i a l
  split at h
  ·rename_i ef
   unfold pB at h
   split at h
   ·rename_i b e
    obtain⟨rfl,rfl⟩:=List.cons.inj e
    exact .inl ⟨b,by rw[eG ef]⟩
   ·cases h
  ·obtain⟨em,h2⟩:=Bool.and_eq_true_iff.mp h
   clear h
   unfold oN at h2
   split at h2
   ·rename_i hd lo hi ms e
    obtain⟨rfl,rfl⟩:=List.cons.inj e
    obtain⟨t1,t2⟩:=Bool.and_eq_true_iff.mp h2
    obtain⟨hm,hn⟩:=Bool.and_eq_true_iff.mp t2
    unfold kG at hn
    split at hn
    ·unfold jT at hm
     split at hm
     ·rename_i ts
      obtain⟨n0,hm⟩:=Bool.and_eq_true_iff.mp hm
      obtain⟨am,rs⟩:=Bool.and_eq_true_iff.mp hm
      have mm:∀m∈ts.map cN,m∈MK:=λx hx=>by
       obtain⟨U,hU,rfl⟩:=List.mem_map.mp hx
       exact(zBg (List.all_eq_true.mp am U hU)).2
      have nd:(ts.map cN).Nodup:=((mW _).mp rs).imp λh e=>zCi h e
      refine .inr ⟨hd,_,_,ts.map cN,by rw[eG em,<-zBz am],?_,WordM.nodup_len nd mm,mm⟩
      intro e
      exact of_decide_eq_true n0 (List.map_eq_nil_iff.mp e)
     ·cases hm
    ·cases hn
   ·cases h2
 ·cases h
theorem qE(ms:List Str):(ms.map sT).map cN=ms:=by
 rw[List.map_map];exact List.map_id ms
def zA1(k:Nat)(fm:Tv->Bool):PSp:=λas R=>∃l,as=[.va (.seq true l)]/\FlE (2*k+1) (.seq true l)/\R (bT (rT fm l))
theorem C26_:bC ["thing","most","make"] ["thing"] (aJ sL):=fsc (by decide +kernel)
theorem zLL(h:Has K mg "is_table" sL)(B:Own mg)(G8_:aE P w K mg base 4 "is_words" ["thing"] nE)(G20_:aE P w K mg base 2 "are_bounds" ["least","most"] kY)(G11_:aE P w K mg base 2 "words_many" ["words","most"] qI)(G21_:aE P w K mg base (L+7) "lets_some_by" ["thing"] (qS k fm))   : aE P w K mg base (L+8) "is_table" ["thing"] (zA1 k fm):=by
 have nd:=C26_.nd
 refine h.pgood C26_ (fun|_,_,_,_,_,_,[_],_=>rfl) (λf cdv A outer s H E F hr=>
   (aG (aV (cG (bV (dO hr (bB bL rfl B.len PySem.boot_len (aB (aA 0) aC)) aD) (bV (cI (bI (aI G20_ hr (aB (aQ hr (aA 0) aD) (aB (aQ hr (aA 0) aD) aC))))) (cW (cI (bI (aI G8_ hr (aB (aQ hr (aA 0) aD) aC))))))))
    (aH (aO cB))
    aU)
   (aG (aT 1 nd (aQ hr (aA 0) aD))
   (aG (aT 2 nd (aQ hr (aA 0) aD))
   (aG (aV (cG (bV (bP hr (aA 1) aD) (bV (dO hr (aQ hr (aA 2) aD) bA) (cW (bY iE (aI G11_ hr (aB (aA 2) (aB (aA 1) aC))) (aA 1))))))
    (aH (aO cB))
    aU)
   (aH (aO (aI G21_ hr (aB (aQ hr (aA 0) aD) aC))))))))) (λas R q=>?_)
 obtain⟨l,rfl,fl,q⟩:=q
 by_cases l5:l.length=5
 ·match l,l5 with
  |[w,lo,hi,wd,f],_=>
   have flo:FlE (2*k) lo:=fl.2.1 lo (by simp)
   have fhi:FlE (2*k) hi:=fl.2.1 hi (by simp)
   have fw:FlE (2*k) wd:=fl.2.1 wd (by simp)
   have ff:FlE (2*k) f:=fl.2.1 f (by simp)
   have q2:R (bT (dL lo hi&&(gQ wd&&(mF hi wd&&eI fm f)))):=q
   refine⟨rfl,_,rfl,aL ⟨_,rfl,_,rfl,lo,hi,rfl,(flo.fld (j:=1)).ok,(fhi.fld (j:=1)).ok,_,rfl,?_⟩⟩
   cases bb:dL lo hi with
   |false=>rw[bb,Bool.false_and]at q2;exact aN q2
   |true=>
    rw[bb,Bool.true_and]at q2
    obtain⟨a,b,rfl,rfl,a0,ab⟩:=vQ bb
    have b9:b<10 ^ 90:=by
     have:FlE (2*k) (iT b):=fhi
     cases hk:2*k with
     |zero=>rw[hk]at this;exact False.elim this
     |succ j=>rw[hk]at this;exact this.2.2 b rfl
    refine aL ⟨_,rfl,wd,rfl,fw.fld,_,rfl,?_⟩
    cases ew:gQ wd with
    |false=>rw[ew,Bool.false_and]at q2;exact aN q2
    |true=>
     rw[ew,Bool.true_and]at q2
     refine aL ⟨_,rfl,_,rfl,_,rfl,?_⟩
     rw[zBn]
     by_cases z:b=0
     ·rw[decide_eq_true z]
      subst z
      have e:mF (iT 0) wd=false:=zEt
      rw[e,Bool.false_and]at q2
      exact aN q2
     ·rw[decide_eq_false z]
      rcases zEj ew with⟨x,rfl⟩|⟨hd,lo,hi,ms,rfl,n0,l4,hm⟩
      ·exact aL ⟨_,rfl,_,rfl,aN q2⟩
      ·have q3:R (bT (decide (b≠0)&&decide (b<=lX lo hi ((ms.map sT).map cN) b)&&eI fm f)):=q2
       rw[qE,decide_eq_true z,Bool.true_and]at q3
       refine aL ⟨_,rfl,_,rfl,aL ⟨hd,lo,hi,b,ms,rfl,n0,l4,hm,b9,_,rfl,dE (λh1=>?_) (λh1=>?_)⟩⟩
       ·rw[decide_eq_false (by omega),Bool.false_and]at q3
        exact q3
       ·rw[decide_eq_true (by omega),Bool.true_and]at q3
        exact⟨_,rfl,f,rfl,ff,q3⟩
 ·rw[zFw l5]at q
  refine⟨rfl,_,rfl,?_⟩
  show if (true != eqV (.int (l.length:Nat)) (.int (5:Nat)))=true then _ else _
  rw[qU l5]
  exact aN q
end
end My
namespace My
open PySem L2 PyProof.Rows WordM
section
variable{P:Program}{w:World}{K:W.Frag}{mg:Str->Option Value}{base:Heap}
variable{k L:Nat}{fm:Tv->Bool}
theorem zHB{n:Nat}{t:Bool}{l:List Tv}{lo hi:Option Int}(h:FlD (n+1) (.seq t l)):FlD (n+1) (.seq t (fF l lo hi)):=⟨Nat.le_trans (zAD _ _ _) h.1,λx hx=>h.2 x (by unfold fF at hx;exact List.mem_of_mem_drop (List.mem_of_mem_take hx))⟩
theorem zGj(w:Tv)(l:List Tv):fF (w::l) (some 1) none=l:=by
 unfold fF
 have a:HT.sIx (w::l).length 0 (some 1)=1:=by unfold HT.sIx;simp
 have b:HT.sIx (w::l).length (w::l).length none=l.length+1:=by unfold HT.sIx;simp
 rw[a,b]
 show List.take (l.length+1-1) l=l
 rw[Nat.add_sub_cancel];exact List.take_length
def oZ(g:Tv->Bool):List Tv->Bool
 |[x]=>g x
 |_=>false
def rL(fm:Tv->Bool)(w:Tv)(l:List Tv):Bool:=if L2.eqT w (sT "nothing")=true then decide (l.length=0) else if L2.eqT w (sT "truths")=true then oZ trB l else if L2.eqT w (sT "numbers")=true then gV l else if L2.eqT w (sT "texts")=true then oZ gQ l else
  if L2.eqT w (sT "lists")=true then qX fm (w::l) else if L2.eqT w (sT "record")=true then sV fm (w::l) else(L2.eqT w (sT "table")&&rT fm (w::l))
def dX(fm:Tv->Bool):Tv->Bool
 |.seq true (w::l)=>rL fm w l
 |_=>false
theorem zBf{g:Tv->Bool}{l:List Tv}(h:¬ l.length=1):oZ g l=false:=by
 match l,h with
 |[],_=>rfl
 |[_],h=>exact absurd rfl h
 |_::_::_,_=>rfl
theorem wD(w:Tv)(l:List Tv)(n:Nat):(false != eqV (.int ((w::l).length:Nat)) (.int ((n+1:Nat):Int)))=decide (l.length=n):=by
 by_cases z:l.length=n
 ·rw[decide_eq_true z,List.length_cons,z];simp[eqV]
 ·rw[decide_eq_false z,List.length_cons];simp[eqV];omega
def zBQ(k:Nat)(fm:Tv->Bool):PSp:=λas R=>∃U,as=[.va U]/\FlE (2*k+1) U/\R (bT (dX fm U))
theorem C27_:bC ["thing"] ["thing"] (aJ sK):=fsc (by decide +kernel)
theorem zLK(h:Has K mg "is_part" sK)(B:Own mg)(G19_:aE P w K mg base 2 "are_truths" ["thing"] pG)(G3_:aE P w K mg base 2 "is_run" ["thing"] qJ)(G8_:aE P w K mg base 4 "is_words" ["thing"] nE)(G22_:aE P w K mg base (L+8) "is_lists" ["thing"] (zA2 k fm))(G25_:aE P w K mg base (L+10) "is_record" ["thing"] (zAi k fm))(G26_:aE P w K mg base (L+8) "is_table" ["thing"] (zA1 k fm))   : aE P w K mg base (L+11) "is_part" ["thing"] (zBQ k fm):=by
 have nd:=C27_.nd
 refine h.pgood C27_ (fun|_,_,_,_,_,_,[_],_=>rfl) (λf cdv A outer s H E F hr=>
   (aG (aV (cG (bV (cI (bI (bK "tuple" fR rfl B.isinstance (aA 0) (bJ (v:=.ty "tuple") rfl B.tuple_ boot_tuple rfl)))) (cW (bP hr (bB bL rfl B.len PySem.boot_len (aB (aA 0) aC)) aD))))
    (aH (aO cB))
    aU)
   (aG (aV (bY (hX hr.units) (aQ hr (aA 0) aD) bA)
    (aH (aO (cE (eN hr.units).op (bB bL rfl B.len PySem.boot_len (aB (aA 0) aC)) aD)))
    aU)
   (aG (aV (bY (hX hr.units) (aQ hr (aA 0) aD) bA)
    (aH (aO (bX (cE (eN hr.units).op (bB bL rfl B.len PySem.boot_len (aB (aA 0) aC)) aD) (cZ (aI G19_ hr (aB (aQ hr (aA 0) aD) aC))))))
    aU)
   (aG (aV (bY (hX hr.units) (aQ hr (aA 0) aD) bA)
    (aH (aO (aI G3_ hr (aB (nD oJ (aA 0) (nG aD) nH) aC))))
    aU)
   (aG (aV (bY (hX hr.units) (aQ hr (aA 0) aD) bA)
    (aH (aO (bX (cE (eN hr.units).op (bB bL rfl B.len PySem.boot_len (aB (aA 0) aC)) aD) (cZ (aI G8_ hr (aB (aQ hr (aA 0) aD) aC))))))
    aU)
   (aG (aV (bY (hX hr.units) (aQ hr (aA 0) aD) bA)
    (aH (aO (aI G22_ hr (aB (aA 0) aC))))
    aU)
   (aG (aV (bY (hX hr.units) (aQ hr (aA 0) aD) bA)
    (aH (aO (aI G25_ hr (aB (aA 0) aC))))
    aU)
   (aH (aO (bX (cE (hX hr.units).op (aQ hr (aA 0) aD) bA) (cZ (aI G26_ hr (aB (aA 0) aC)))))))))))))) (λas R q=>?_)
 obtain⟨U,rfl,fb,q⟩:=q
 rcases gH (fb.fld (j:=1)).ok with rfl|⟨c,rfl⟩|⟨i,rfl⟩|⟨s,rfl⟩|⟨t,l,rfl⟩|⟨kts,rfl⟩
 ·exact⟨rfl,_,rfl,aN q⟩
 ·exact⟨rfl,_,rfl,aN q⟩
 ·exact⟨rfl,_,rfl,aN q⟩
 ·exact⟨rfl,_,rfl,aN q⟩
 ·cases t with
  |false=>exact⟨rfl,_,rfl,aN q⟩
  |true=>
   cases l with
   |nil=>exact⟨rfl,_,rfl,aL ⟨_,rfl,aN q⟩⟩
   |cons w l=>
    have q:R (bT (rL fm w l)):=q
    unfold rL at q
    refine⟨rfl,_,rfl,aL ⟨_,rfl,dG (λz=>absurd z (by simp;omega)) λ_=>?_⟩⟩
    refine⟨_,cM (j:=0) rfl,"nothing",rfl,_,rfl,?_⟩
    cases e0:L2.eqT w (sT "nothing") with
    |true=>
     rw[e0,if_pos rfl]at q
     refine aN ?_
     show R (bT (false != eqV (.int ((w::l).length:Nat)) (.int ((0+1:Nat):Int))))
     rw[wD]
     exact q
    |false=>
     rw[e0,if_neg Bool.false_ne_true]at q
     refine aL ⟨_,cM (j:=0) rfl,"truths",rfl,_,rfl,?_⟩
     cases e1:L2.eqT w (sT "truths") with
     |true=>
      rw[e1,if_pos rfl]at q
      refine aN ⟨_,rfl,?_⟩
      show if (false != eqV (.int ((w::l).length:Nat)) (.int ((1+1:Nat):Int)))=true then _ else _
      rw[wD]
      refine dE (λh1=>?_) (λh1=>?_)
      ·match l,h1 with
       |[x],_=>exact⟨_,rfl,x,rfl,(fb.2.1 x (by simp)).fld,q⟩
      ·rw[zBf h1]at q;exact q
     |false=>
      rw[e1,if_neg Bool.false_ne_true]at q
      refine aL ⟨_,cM (j:=0) rfl,"numbers",rfl,_,rfl,?_⟩
      cases e2:L2.eqT w (sT "numbers") with
      |true=>
       rw[e2,if_pos rfl]at q
       have cl:fF (w::l) (some 1) none=l:=by
        have:=zGj w l
        exact this
       refine aN ⟨1,rfl,_,rfl,?_,?_⟩
       ·exact zHB (fb.fld (j:=2))
       ·rw[cl];exact q
      |false=>
       rw[e2,if_neg Bool.false_ne_true]at q
       refine aL ⟨_,cM (j:=0) rfl,"texts",rfl,_,rfl,?_⟩
       cases e3:L2.eqT w (sT "texts") with
       |true=>
        rw[e3,if_pos rfl]at q
        refine aN ⟨_,rfl,?_⟩
        show if (false != eqV (.int ((w::l).length:Nat)) (.int ((1+1:Nat):Int)))=true then _ else _
        rw[wD]
        refine dE (λh1=>?_) (λh1=>?_)
        ·match l,h1 with
         |[x],_=>exact⟨_,rfl,x,rfl,(fb.2.1 x (by simp)).fld,q⟩
        ·rw[zBf h1]at q;exact q
       |false=>
        rw[e3,if_neg Bool.false_ne_true]at q
        refine aL ⟨_,cM (j:=0) rfl,"lists",rfl,_,rfl,?_⟩
        cases e4:L2.eqT w (sT "lists") with
        |true=>
         rw[e4,if_pos rfl]at q
         exact aN ⟨_,rfl,fb,q⟩
        |false=>
         rw[e4,if_neg Bool.false_ne_true]at q
         refine aL ⟨_,cM (j:=0) rfl,"record",rfl,_,rfl,?_⟩
         cases e5:L2.eqT w (sT "record") with
         |true=>
          rw[e5,if_pos rfl]at q
          exact aN ⟨_,rfl,fb,q⟩
         |false=>
          rw[e5,if_neg Bool.false_ne_true]at q
          refine aL ⟨_,cM (j:=0) rfl,"table",rfl,_,rfl,?_⟩
          cases e6:L2.eqT w (sT "table") with
          |true=>
           rw[e6,Bool.true_and]at q
           exact aN ⟨_,rfl,fb,q⟩
          |false=>
           rw[e6,Bool.false_and]at q
           exact aL q
 ·exact⟨rfl,_,rfl,aN q⟩
def pC:List (Str×Str):=[("nothing","nothing"),("truths","truth"),("numbers","number"),("texts","text"),("lists","list"),("record","dict"),("table","dict")]
def jB(w:Str):Int:=if w="nothing" then 0 else if w="truths" then 1 else if w="numbers" then 2 else if w="texts" then 3 else if w="lists" then 4 else 5
def kix(U:Tv):Int:=jB (cN (kH U))
def nP:PSp:=λas R=>∃(w:Str) (l:List Tv) (c:Str),as=[.va (.seq true (sT w::l))]/\getS pC w=some c/\R (sT c)
theorem C12_:bC ["part"] ["part"] (aJ xJ):=fsc (by decide +kernel)
theorem zLX(h:Has K mg "part_kind" xJ)(B:Own mg)(GPART_KINDS:oP K w.params mg "PART_KINDS" pC)  : aE P w K mg base 1 "part_kind" ["part"] nP:=by
 have nd:=C12_.nd
 refine h.pgood C12_ (fun|_,_,_,_,_,_,[_],_=>rfl) (λf cdv A outer s H E F hr=>
   (aH (aO (zCa GPART_KINDS rfl (aQ hr (aA 0) aD))))) (λas R q=>?_)
 obtain⟨w,l,c,rfl,e,q⟩:=q
 exact⟨rfl,_,cM (j:=0) rfl,w,c,rfl,e,q⟩
theorem zKd{j:Nat}{c:Str}(h:KNS[j]?=some c):∀i,i<j->KNS[i]?≠some c:=λi hi e=>by
 have nd:KNS.Nodup:=by decide +kernel
 have h1:=List.getElem?_eq_some_iff.mp h
 have h2:=List.getElem?_eq_some_iff.mp e
 obtain⟨a1,a2⟩:=h1
 obtain⟨b1,b2⟩:=h2
 exact(List.pairwise_iff_getElem.mp nd) i j b1 a1 hi (b2.trans a2.symm)
theorem zEK{U:Tv}(h:dX fm U=true):∃(w:Str) (l:List Tv) (c:Str) (j:Nat),U=.seq true (sT w::l)/\getS pC w=some c/\KNS[j]?=some c/\kix U=(j:Int):=by
 unfold dX at h
 split at h
 ·rename_i w l
  unfold rL at h
  split at h
  ·rename_i e;exact⟨"nothing",l,"nothing",0,by rw[eG e],rfl,rfl,by rw[eG e];rfl⟩
  ·split at h
   ·rename_i e;exact⟨"truths",l,"truth",1,by rw[eG e],rfl,rfl,by rw[eG e];show jB "truths"=1;decide +kernel⟩
   ·split at h
    ·rename_i e;exact⟨"numbers",l,"number",2,by rw[eG e],rfl,rfl,by rw[eG e];show jB "numbers"=2;decide +kernel⟩
    ·split at h
     ·rename_i e;exact⟨"texts",l,"text",3,by rw[eG e],rfl,rfl,by rw[eG e];show jB "texts"=3;decide +kernel⟩
     ·split at h
      ·rename_i e;exact⟨"lists",l,"list",4,by rw[eG e],rfl,rfl,by rw[eG e];show jB "lists"=4;decide +kernel⟩
      ·split at h
       ·rename_i e;exact⟨"record",l,"dict",5,by rw[eG e],rfl,rfl,by rw[eG e];show jB "record"=5;decide +kernel⟩
       ·have e:=(Bool.and_eq_true_iff.mp h).1
        exact⟨"table",l,"dict",5,by rw[eG e],rfl,rfl,by rw[eG e];show jB "table"=5;decide +kernel⟩
 ·cases h
def wQ(fm:Tv->Bool):Tv->Bool
 |.seq true ps=>ps.all (dX fm)&&iD (ps.map kix)
 |_=>false
theorem zE1:Tup (wQ fm):=λU h=>by
 cases U with
 |leaf v=>cases h
 |dct k=>cases h
 |seq t l=>cases t with
  |true=>exact⟨l,rfl⟩
  |false=>cases h
theorem C28_:bC ["thing"] ["thing"] (aJ mJ):=fsc (by decide +kernel)
theorem zLJ(h:Has K mg "is_form" mJ)(B:Own mg)(G27_:aE P w K mg base (L+11) "is_part" ["thing"] (zBQ k fm))(G4_:aE P w K mg base 1 "rises" ["things"] hE)(G12_:aE P w K mg base 1 "part_kind" ["part"] nP)(GKINDS:rR K mg "KINDS" KNS)  : aE P w K mg base (L+12) "is_form" ["thing"] (oA (k+1) (wQ fm)):=by
 have nd:=C28_.nd
 refine h.pgood C28_ (fun|_,_,_,_,_,_,[_],_=>rfl) (λf cdv A outer s H E F hr=>
   (aG (aV (cG (bV (cI (bI (bK "tuple" fR rfl B.isinstance (aA 0) (bJ (v:=.ty "tuple") rfl B.tuple_ boot_tuple rfl)))) (cW (cI (bI (bB (iW rfl) rfl B.all boot_all (aB (aX (cK (sc:=aJ mJ) (XN:=["thing"]) (N:=["part"]) (fr:=[]) (bG (aA 0)) (λ_ _ _ _ _=>(aI G27_ hr (aB (aA 0) aC))))) aC)))))))
    (aH (aO cB))
    aU)
   (aH (aO (aI G4_ hr (aB (aX (cK (sc:=aJ mJ) (XN:=["thing"]) (N:=["part"]) (fr:=[]) (bG (aA 0)) (λ_ _ _ _ _=>(zHR hr.units GKINDS rfl (aI G12_ hr (aB (aA 0) aC)))))) aC)))))) (λas R q=>?_)
 obtain⟨U,rfl,fb,q⟩:=q
 rcases gH (fb.fld (j:=1)).ok with rfl|⟨c,rfl⟩|⟨i,rfl⟩|⟨s,rfl⟩|⟨t,ps,rfl⟩|⟨kts,rfl⟩
 ·exact⟨rfl,_,rfl,aN q⟩
 ·exact⟨rfl,_,rfl,aN q⟩
 ·exact⟨rfl,_,rfl,aN q⟩
 ·exact⟨rfl,_,rfl,aN q⟩
 ·cases t with
  |false=>exact⟨rfl,_,rfl,aN q⟩
  |true=>
   have q:R (bT (ps.all (dX fm)&&iD (ps.map kix))):=q
   have fl:ps.length<=100/\(∀x∈ps,FlE (2*k+1) x)/\_:=fb
   refine⟨rfl,_,rfl,aL ⟨by omega,iR (λf=>bT (dX fm f)) (λf hf R q=>⟨f,rfl,fl.2.1 f hf,q⟩) ⟨ps.map (dX fm),by rw[List.map_map];rfl,?_⟩⟩⟩
   rw[List.all_map]
   cases h3:ps.all (dX fm) with
   |false=>
    rw[h3,Bool.false_and]at q
    exact⟨_,rfl,by show if (!(ps.all (dX fm)))=true then _ else _;rw[h3];exact aN q⟩
   |true=>
    rw[h3,Bool.true_and]at q
    have h3':=List.all_eq_true.mp h3
    refine⟨_,rfl,?_⟩
    show if (!(ps.all (dX fm)))=true then _ else _
    rw[h3]
    refine aL ⟨by omega,iR (λf=>iT (kix f)) (λf hf R q=>?_) ?_⟩
    ·obtain⟨w,l,c,j,rfl,e1,e2,e3⟩:=zEK (h3' f hf)
     rw[e3]at q
     exact⟨w,l,c,rfl,e1,c,j,rfl,e2,zKd e2,q⟩
    ·exact .inr (.inl ⟨false,ps.map kix,by rw[List.map_map];rfl,by rw[List.length_map];omega,q⟩)
 ·exact⟨rfl,_,rfl,aN q⟩
end
end My
namespace My
open PySem L2 PyProof.Rows WordM
section
variable{P:Program}{w:World}{K:W.Frag}{mg:Str->Option Value}{base:Heap}
def kA:Nat->Tv->Bool
 |0=>λ_=>false
 |k+1=>wQ (kA k)
theorem zE2:∀k,Tup (kA k)
 |0=>λU h=>by cases h
 |k+1=>zE1
theorem zR(hf:Has K mg "is_form" mJ)(hp:Has K mg "is_part" sK)(hl:Has K mg "is_lists" sO)(hfd:Has K mg "is_field" sM)(hfs:Has K mg "are_fields" mK)(hr:Has K mg "is_record" oS)(ht:Has K mg "is_table" sL)(hs:Has K mg "lets_some_by" sP)(B:Own mg)
  (Gpk:aE P w K mg base 1 "part_kind" ["part"] nP) (Grs:aE P w K mg base 1 "rises" ["things"] hE) (Gab:aE P w K mg base 2 "are_bounds" ["least","most"] kY) (Git:aE P w K mg base 2 "is_text" ["thing"] kX) (Giw:aE P w K mg base 4 "is_words" ["thing"] nE)
  (Gmy:aE P w K mg base 2 "words_many" ["words","most"] qI) (Gat:aE P w K mg base 2 "are_truths" ["thing"] pG) (Gir:aE P w K mg base 2 "is_run" ["thing"] qJ) (GK:rR K mg "KINDS" KNS) (GF:gC K mg "MOST_FIELDS" (iT 8)):∀k:Nat,aE P w K mg base (6*k+6) "is_form" ["thing"] (oA k (kA k))
 |0=>hf.pfalse C28_ (fun|_,_,_,_,_,_,[_],_=>rfl) λas R ⟨_,_,h,_⟩=>h
 |k+1=>by
  have G:=zR hf hp hl hfd hfs hr ht hs B Gpk Grs Gab Git Giw Gmy Gat Gir GK GF k
  have S:=zLQ (L:=6*k) hs B G (zE2 k)
  have Gl:=zLP (L:=6*k) hl B Gab S
  have Gd:=zLO (L:=6*k) hfd B S Git
  have Gs:=zLN (L:=6*k) hfs B Grs Gd GF
  have Gr:=zLM (L:=6*k) hr B Gs Gab
  have Gt:=zLL (L:=6*k) ht B Giw Gab Gmy S
  have Gp:=zLK (L:=6*k) hp B Gat Gir Giw Gl Gr Gt
  exact zLJ (L:=6*k) hf B Gp Grs Gpk GK
end
end My
namespace My
open PySem L2 PyProof.Rows WordM
section
variable{P:Program}{w:World}{K:W.Frag}{mg:Str->Option Value}{base:Heap}
theorem qD{n lo hi most:Int}:∀(k j:Nat) (many power len:Int),0<=many->1<=power->most<=power*n ^ k->len+k<=hi->1<=n->tl (k+1+j) n lo hi most many power len=most
 |0,j,many,power,len,h0,hp,h1,h2,hn=>by
  rw[show 0+1+j=j+1 by omega,tl,if_pos (by omega),if_pos (by rw[Int.pow_zero,Int.mul_one]at h1;omega)]
 |k+1,j,many,power,len,h0,hp,h1,h2,hn=>by
  rw[show k+1+1+j=(k+1+j)+1 by omega,tl,if_pos (by omega)]
  split
  ·rfl
  ·refine qD k j _ _ _ (by split<;>omega) ?_ ?_ (by omega) hn
   ·have:=Int.mul_le_mul_of_nonneg_left hn (show 0<=power by omega)
    omega
   ·rw[Int.mul_assoc,show n*n ^ k=n ^ (k+1) by rw[Int.pow_succ,Int.mul_comm]]
    exact h1
def Mny:Wd->Int->Prop
 |.make _ lo hi ms,b=>lX lo hi ms b=b
 |.few _,_=>True
theorem zE{ms:List Str}(ne:ms≠[])(h:∀m∈ms,m∈MK):10<=(bH (dW ms)).length:=by
 have:=(qG h).1
 have:=List.length_pos_iff.mpr ne
 omega
theorem zBY{h:Str}{lo hi most:Int}{ms:List Str}(ne:ms≠[])(hm:∀m∈ms,m∈MK)(c:(1<=hi/\most<=10)\/(2<=hi/\most<=100)):Mny (.make h lo hi ms) most:=by
 have l:=zE ne hm
 show tl 400 _ lo hi most 0 1 0=most
 generalize (bH (dW ms)).length=n at l
 rcases c with⟨h1,h2⟩|⟨h1,h2⟩
 ·exact qD 1 398 0 1 0 (by omega) (by omega) (by rw[Int.pow_one];omega) (by omega) (by omega)
 ·refine qD 2 397 0 1 0 (by omega) (by omega) ?_ (by omega) (by omega)
  have:(100:Int)<=(n:Int)*n:=by
   have:=Int.mul_le_mul (show(10:Int)<=n by omega) (show(10:Int)<=n by omega) (by decide) (by omega)
   omega
  rw[Int.pow_succ,Int.pow_one]
  omega
def dN:Nat->Pt->Prop
 |0,_=>False
 |_+1,.nothing=>True
 |_+1,.truths bs=>bs=[false]\/bs=[true]\/bs=[false,true]
 |_+1,.numbers lo hi st=>rQ lo hi st
 |_+1,.texts w=>kJ w
 |n+1,.lists a b f=>0<=a/\a<=b/\b<=100/\(b=0->f=[])/\(b≠0->f≠[]/\jP f/\∀p∈f,dN n p)
 |n+1,.record a b fs=>0<=a/\a<=b/\fs.length<=8/\gF (fs.map (·.1))/\(∀x∈fs,kK x.1/\x.2.2≠[]/\jP x.2.2/\∀p∈x.2.2,dN n p)/\(fU fs:Int)<=a/\b<=fs.length/\(fU fs<fs.length->a<fs.length/\fU fs<b)
 |n+1,.table a b w f=>((0<=a/\a<=11)/\Mny w b)/\a<=b/\1<=b/\b<=100/\kJ w/\zB1 w=true/\f≠[]/\jP f/\∀p∈f,dN n p
abbrev dI(n:Nat)(f:List Pt):Prop:=jP f/\∀p∈f,dN n p
theorem zAt(p:Pt):bZ p<=5:=by cases p<;>simp[bZ]
theorem mZ{f:List Pt}(h:jP f):f.length<=6:=by
 have nd:(f.map bZ).Nodup:=by
  unfold List.Nodup
  rw[List.pairwise_map]
  exact h.imp λh=>by omega
 have:=WordM.nodup_len nd (m:=[0,1,2,3,4,5]) λx hx=>by
  obtain⟨p,_,rfl⟩:=List.mem_map.mp hx
  have:=zAt p
  simp only[List.mem_cons,List.not_mem_nil,or_false]
  omega
 rwa[List.length_map]at this
theorem zDW{us:List Str}{h:Str}{ms:List Str}(nd:us.Nodup)(hs:∀t∈us,Sg t)(ht:∀t∈us,∃c,cs t=cs h++[c]/\eB c∈ms)(hm:∀m∈ms,m∈MK):us.length<=(bH (dW ms)).length:=by
 have:=WordM.nodup_len nd (m:=(bH (dW ms)).map λc=>(⟨(cs h++[c]).toArray⟩:Str)) λt h1=>by
  obtain⟨c,e,mc⟩:=ht t h1
  have cS:c∈cs SIG:=hs t h1 c (by rw[e];simp)
  refine List.mem_map.mpr ⟨c,?_,jN (by rw[e])⟩
  unfold bH dW
  rw[List.map_map]
  refine List.mem_flatten.mpr ⟨cs ((getS SGN (eB c)).getD ⟨#[]⟩),List.mem_map.mpr ⟨_,mc,rfl⟩,?_⟩
  exact(WordM.mark_of cS _ (hm _ mc)).mpr rfl
 rwa[List.length_map]at this
theorem zHm{us:List Str}{h:Str}{lo hi k:Int}{ms:List Str}(nd:us.Nodup)(hs:∀t∈us,Sg t)(hh:∀t∈us,∃r,cs t=cs h++r/\lo<=(r.length:Int)/\(r.length:Int)<=hi/\∀c∈r,eB c∈ms)(ne:ms≠[])(hm:∀m∈ms,m∈MK)(h1:1<=hi)(l0:0<=lo)(lh:lo<=hi)(k1:k<=us.length)(k2:us.length<=11):Mny (.make h lo hi ms) k:=by
 by_cases h2:2<=hi
 ·exact zBY ne hm (.inr ⟨h2,by omega⟩)
 have e1:hi=1:=by omega
 subst e1
 have l:=zE ne hm
 by_cases z:lo=0
 ·subst z
  show tl (398+1+1) _ 0 1 k 0 1 0=k
  rw[tl,if_pos (by decide)]
  split
  ·rfl
  ·rw[tl,if_pos (by decide),if_pos (by omega)]
 ·have:us.length<=(bH (dW ms)).length:=zDW nd hs (λt ht=>by
   obtain⟨r,e,r1,r2,r3⟩:=hh t ht
   match r,r1,r2 with
   |[],r1,_=>simp at r1;omega
   |[c],_,_=>exact⟨c,e,r3 c (List.mem_singleton.mpr rfl)⟩
   |_::_::_,_,r2=>simp at r2;omega) hm
  show tl 400 _ lo 1 k 0 1 0=k
  exact qD 1 398 0 1 0 (by omega) (by omega) (by rw[Int.pow_one];omega) (by omega) (by omega)
end
section
variable{P:Program}{w:World}{K:W.Frag}{mg:Str->Option Value}{base:Heap}
theorem zEe(b:Int)(h1:1<=b)(h2:b<=15):∃ms:List Str,([((1:Int),("figure":Str)),(2,"great"),(4,"other"),(8,"small")].filterMap λx=>if b / x.1 % 2=1 then some (sT x.2) else none)=ms.map sT/\ms.Sublist MK/\ms≠[]:=by
 have:b=1\/b=2\/b=3\/b=4\/b=5\/b=6\/b=7\/b=8\/b=9\/b=10\/b=11\/b=12\/b=13\/b=14\/b=15:=by omega
 rcases this with e|e|e|e|e|e|e|e|e|e|e|e|e|e|e<;>subst e
 ·exact⟨["figure"],rfl,by decide,by decide⟩
 ·exact⟨["great"],rfl,by decide,by decide⟩
 ·exact⟨["figure","great"],rfl,by decide,by decide⟩
 ·exact⟨["other"],rfl,by decide,by decide⟩
 ·exact⟨["figure","other"],rfl,by decide,by decide⟩
 ·exact⟨["great","other"],rfl,by decide,by decide⟩
 ·exact⟨["figure","great","other"],rfl,by decide,by decide⟩
 ·exact⟨["small"],rfl,by decide,by decide⟩
 ·exact⟨["figure","small"],rfl,by decide,by decide⟩
 ·exact⟨["great","small"],rfl,by decide,by decide⟩
 ·exact⟨["figure","great","small"],rfl,by decide,by decide⟩
 ·exact⟨["other","small"],rfl,by decide,by decide⟩
 ·exact⟨["figure","other","small"],rfl,by decide,by decide⟩
 ·exact⟨["great","other","small"],rfl,by decide,by decide⟩
 ·exact⟨["figure","great","other","small"],rfl,by decide,by decide⟩
structure MkD (h:Str) (a b:Int) (ms:List Str):Prop where
 h3:Sg h/\h.length<=3
 a0:0<=a
 a3:a<=3
 ab:a<=b
 b1:1<=b
 b6:b<=6
 sub:ms.Sublist MK
 ne:ms≠[]
theorem MkD.ok{h:Str}{a b:Int}{ms:List Str}(m:MkD h a b ms):kJ (.make h a b ms):=⟨⟨m.h3.1,by have:=m.h3.2;omega⟩,m.a0,m.ab,m.b1,by have:=m.b6;omega,m.sub,m.ne⟩
def nZ:PSp:=λas R=>as=[.dk]/\∀h a b ms,MkD h a b ms->R (gX (.make h a b ms))
theorem C42_:bC ["_law_deck_here","_law_least","_law_most","_law_bits","_law_marks","_law_some"] ["_law_deck_here"] (aJ sG):=fsc (by decide +kernel)
theorem zLy(h:Has K mg "_law_make" sG)(B:Own mg)(G31_:aE P w K mg base 2 "_law_take" ["_law_deck_here","_law_most"] dM)(G33_:aE P w K mg base 3 "_law_text" ["_law_deck_here","_law_most"] nX)   : aE P w K mg base 4 "_law_make" ["_law_deck_here"] nZ:=by
 have nd:=C42_.nd
 refine h.pgood C42_ (fun|_,_,_,_,_,_,[_],_=>rfl) (λf cdv A outer s H E F hr=>
   (aG (aT 1 nd (aI G31_ hr (aY 0 (aB aD aC))))
   (aG (aT 2 nd (bB (iV rfl) rfl B.max boot_max (aB aD (aB (aW bO (aA 1) (aI G31_ hr (aY 0 (aB aD aC)))) aC))))
   (aG (aT 3 nd (aW bO aD (aI G31_ hr (aY 0 (aB aD aC)))))
   (aG (aT 4 nd (aX (bR (aB bA (aB bA (aB bA (aB bA aC)))))))
   (aG (aT 5 nd (gI hC rfl B.tuple_ boot_tuple (aB (aX (uV (sc:=aJ sG) (XN:=["_law_deck_here","_law_least","_law_most","_law_bits","_law_marks","_law_some"]) (N:=["_law_k","_law_mark_here","_law_bits"]) (own:=2) (fr:=[3]) rfl ⟨rfl,by decide +kernel,by decide +kernel,by decide +kernel,rfl,by decide +kernel,by decide,by decide +kernel⟩ (by decide) (zGB rfl B.enumerate (aB (aA 4) aC)) (λ_ _ _ _ _=>(zBD 2 rfl (pW (dH 0 (by decide) (show(["_law_k","_law_mark_here","_law_bits"]:List Str).Nodup by decide +kernel) rfl (by first|exact Or.inl rfl|exact Or.inr rfl)) (pW (dH 1 (by decide) (show(["_law_k","_law_mark_here","_law_bits"]:List Str).Nodup by decide +kernel) rfl (by first|exact Or.inl rfl|exact Or.inr rfl)) zAO)))) (λ_ _ _ _ _=>(fJ (bP hr (aW qQ (aW vA (aA 2) (aQ hr (aX (bR (aB aD (aB aD (aB aD (aB aD aC)))))) (aA 0))) aD) aD))) (λ_ _ _ _ _=>(aA 1)))) aC)))
   (aH (aO (bM (aB bA (aB (aI G33_ hr (aY 0 (aB aD aC))) (aB (aA 1) (aB (aA 2) (aB (aA 5) aC)))))))))))))) (λas R q=>?_)
 obtain⟨rfl,q⟩:=q
 refine⟨rfl,rfl,4,rfl,by decide,bD (by decide) (by decide),λa a0 a1=>?_⟩
 refine⟨rfl,4,rfl,by decide,bD (by decide) (by decide),λc c0 c1=>.inl ⟨_,_,rfl,?_⟩⟩
 refine⟨rfl,15,rfl,by decide,bD (by decide) (by decide),λd d0 d1=>⟨by decide,?_⟩⟩
 obtain⟨ms,e,sub,ne⟩:=zEe (1+d) (by omega) (by omega)
 refine⟨_,rfl,by decide,?_⟩
 refine iQ (l:=[((1:Int),(0:Nat),("figure":Str)),(2,1,"great"),(4,2,"other"),(8,3,"small")]) (λx=>.seq true [iT (x.2.1:Nat),sT x.2.2]) (λx=>if (1+d) / x.1 % 2=1 then some (sT x.2.2) else none) (λx hx R q=>?_) ?_
 ·simp only[List.mem_cons,List.not_mem_nil,or_false]at hx
  rcases hx with rfl|rfl|rfl|rfl
  all_goals
   refine⟨_,rfl,rfl,_,_,rfl,_,_,rfl,rfl,by decide,_,rfl,⟨by decide,bD (by decide) (by decide)⟩,(show(0:Int)<2 by decide),_,rfl,?_⟩
   refine sif (λz=>?_) (λz=>?_)
   ·rw[if_pos (by simpa[eqV]using z)]at q;exact q
   ·rw[if_neg (by simpa[eqV]using z)]at q;exact q
 ·have e':([((1:Int),(0:Nat),("figure":Str)),(2,1,"great"),(4,2,"other"),(8,3,"small")].filterMap λx=>if (1+d) / x.1 % 2=1 then some (sT x.2.2) else none)=ms.map sT:=e
  rw[e']
  refine⟨_,_,rfl,rfl,3,rfl,by decide,by decide,λh sh lh=>⟨(show 5<=100000 by decide),q h a _ ms ⟨⟨sh,by omega⟩,a0,by omega,by omega,by omega,by omega,sub,ne⟩⟩⟩
theorem uO{α:Type}{ps rs tx:List α}{j:Nat}{x:α}(h:(ps++rs).Perm tx)(e:rs[j]?=some x):((ps++[x])++rs.eraseIdx j).Perm tx:=by
 obtain⟨hj,rfl⟩:=List.getElem?_eq_some_iff.mp e
 refine List.Perm.trans ?_ h
 rw[List.append_assoc]
 exact List.Perm.append_left _ (pN rs j hj)
theorem wG{rs:List Str}{r:Int}(h0:0<=r)(h1:r<rs.length):∃x,rs[r.toNat]?=some x:=⟨rs[r.toNat]'(by omega),List.getElem?_eq_getElem _⟩
theorem mY{α β:Type}(f:α->β):∀(l:List α) (i:Nat),(l.map f).eraseIdx i=(l.eraseIdx i).map f
 |[],_=>by simp
 |_::_,0=>by simp
 |a::l,i+1=>by simp[mY f l i]
def pF:PSp:=λas R=>∃nm tx st sp,as=[.dk,.va (dC nm tx st sp)]/\eY nm tx st sp/\∀w,kJ w->R (gX w)
theorem C43_:bC ["_law_deck_here","_law_world_here","_law_texts","_law_some"] ["_law_deck_here","_law_world_here"] (aJ sF):=fsc (by decide +kernel)
theorem zLx(h:Has K mg "_law_some_words" sF)(B:Own mg)(G31_:aE P w K mg base 2 "_law_take" ["_law_deck_here","_law_most"] dM)(G42_:aE P w K mg base 4 "_law_make" ["_law_deck_here"] nZ)   : aE P w K mg base 5 "_law_some_words" ["_law_deck_here","_law_world_here"] pF:=by
 have nd:=C43_.nd
 refine h.pgood C43_ (fun|_,_,_,_,_,_,[_,_],_=>rfl) (λf cdv A outer s H E F hr=>
   (aG (aV (bP hr (aI G31_ hr (aY 0 (aB aD aC))) aD)
    (aH (aO (aI G42_ hr (aY 0 aC))))
    aU)
   (aG (gD 2 nd (pP tX rfl B.list_ boot_list (aB (aQ hr (aA 1) aD) aC)))
   (aG (fM (sc:=aJ sF) (XN:=["_law_deck_here","_law_world_here","_law_texts","_law_some"]) (N:=["_law_k","_law_deck_here","_law_texts"]) (fr:=[0,2]) 3 nd (fT rfl B.range (aB (aW bO aD (aI G31_ hr (aY 0 (aB aD aC)))) aC)) (λ_ _ _ _ _=>hJ) (λ_ _ _ _ _=>(pX 2 (aI G31_ hr (aY 1 (aB (lD λF=>(bB bL rfl B.len PySem.boot_len (aB (aA 2) aC))) aC))))))
   (aH (aO (bM (aB bA (aB (gI hC rfl B.tuple_ boot_tuple (aB (aX (nC (mX rfl) rfl B.sorted boot_sorted (aB (aA 3) aC))) aC)) aC))))))))) (λas R q=>?_)
 obtain⟨nm,tx,st,sp,rfl,hw,q⟩:=q
 refine⟨rfl,rfl,2,rfl,by decide,bD (by decide) (by decide),λa a0 a1=>⟨_,rfl,sif (λ_=>⟨rfl,rfl,λh a b ms m=>q _ m.ok⟩) (λ_=>?_)⟩⟩
 refine⟨_,rfl,false,_,rfl,?_⟩
 refine⟨rfl,6,rfl,by decide,bD (by decide) (by decide),λn n0 n1=>⟨_,rfl,by omega,by omega,by rw[eQ];omega,?_⟩⟩
 refine uH (λi Us ρ=>∃ps rs:List Str,Us=ps.map sT/\ps.length=i/\(ps++rs).Perm tx/\ρ=[.dk,.va (dC nm tx st sp),.own (rs.map sT),.no]) ⟨[],tx,rfl,rfl,List.Perm.refl _,rfl⟩ ?_ ?_
 ·rintro i T _ _ hT ⟨ps,rs,rfl,hl,hp,rfl⟩ R hR
  have hi:=(jK hT).1
  have hlen:=hp.length_eq
  rw[List.length_append,hw.t9]at hlen
  refine⟨⟨_,rfl⟩,rfl,_,rfl,(rs.map sT).length,rfl,by rw[List.length_map];omega,by rw[List.length_map];exact bD (by omega) (by omega),λr r0 r1=>?_⟩
  rw[List.length_map]at r1
  obtain⟨x,hx⟩:=wG r0 r1
  refine⟨r,_,sT x,rfl,rfl,r0,by rw[List.getElem?_map,hx];rfl,hR (some (sT x)) _ ⟨ps++[x],rs.eraseIdx r.toNat,by rw[List.map_append];rfl,by rw[List.length_append,hl];rfl,uO hp hx,?_⟩⟩
  show [Sl.dk,.va (dC nm tx st sp),.own ((rs.map sT).eraseIdx r.toNat),.no]=_
  rw[mY]
 ·rintro _ _ ⟨ps,rs,rfl,hl,hp,rfl⟩
  rw[eQ]at hl
  have hnd:ps.Nodup:=(hp.nodup_iff.mpr hw.ndt).sublist (List.sublist_append_left _ _)
  refine .inr (.inl ⟨ps,rfl,by omega,?_⟩)
  refine⟨false,_,rfl,by simp,q (.few (cO ps)) ⟨by rw[mV];omega,by rw[mV];omega,tW hnd,λt ht=>?_⟩⟩
  have ht:t∈tx:=hp.mem_iff.mp (List.mem_append_left _ ((mS ps).mem_iff.mp ht))
  exact⟨(hw.ts t ht).1,by have:=(hw.ts t ht).2;omega⟩
end
end My
namespace My
open PySem L2 PyProof.Rows WordM
section
variable{P:Program}{w:World}{K:W.Frag}{mg:Str->Option Value}{base:Heap}
variable{n:Nat}
def jO(n:Nat):PSp:=λas R=>∃nm tx st sp,∃deep most:Int,as=[.dk,.va (dC nm tx st sp),.va (iT deep),.va (iT most)]/\eY nm tx st sp/\0<=deep/\deep<n/\1<=most/\most<=6/\∀f,f≠[]->dI n f->R (bQ f)
def zAk(n:Nat):PSp:=λas R=>∃nm tx st sp,∃deep:Int,as=[.dk,.va (dC nm tx st sp),.va (iT deep)]/\eY nm tx st sp/\1<=deep/\deep<=n/\∀a b w f,dN (n+1) (.table a b w f)->R (aZ (.table a b w f))
def wB(n:Nat):PSp:=λas R=>∃nm tx st sp,∃deep many:Int,as=[.dk,.va (dC nm tx st sp),.va (iT deep),.va (iT many)]/\eY nm tx st sp/\1<=deep/\deep<=n/\0<=many/\many<=8/\∀a b fs,dN (n+1) (.record a b fs)->R (aZ (.record a b fs))
def zA5(n:Nat):PSp:=λas R=>∃nm tx st sp,∃deep kind most:Int,as=[.dk,.va (dC nm tx st sp),.va (iT deep),.va (iT kind),.va (iT most)]/\eY nm tx st sp/\0<=deep/\deep<=n/\0<=kind/\kind<=5/\1<=most/\most<=6/\∀p,dN (n+1) p->(bZ p:Int)=kind->R (aZ p)
theorem C45_:bC ["_law_deck_here","_law_world_here","_law_deep","_law_make_here","_law_most"] ["_law_deck_here","_law_world_here","_law_deep"] (aJ sE):=fsc (by decide +kernel)
theorem zLv(h:Has K mg "_law_table" sE)(B:Own mg)(G42_:aE P w K mg base 4 "_law_make" ["_law_deck_here"] nZ)(G31_:aE P w K mg base 2 "_law_take" ["_law_deck_here","_law_most"] dM)(G47_:aE P w K mg base (6+3*n) "_law_form" ["_law_deck_here","_law_world_here","_law_deep","_law_most"] (jO n))   : aE P w K mg base (6+3*n+1) "_law_table" ["_law_deck_here","_law_world_here","_law_deep"] (zAk n):=by
 have nd:=C45_.nd
 refine h.pgood C45_ (fun|_,_,_,_,_,_,[_,_,_],_=>rfl) (λf cdv A outer s H E F hr=>
   (aG (aT 3 nd (aI G42_ hr (aY 0 aC)))
   (aG (aT 4 nd (aW bO aD (aI G31_ hr (aY 0 (aB aD aC)))))
   (aG (aV (cG (nU (bY rF (aQ hr (aA 3) aD) aD) (qC (bP hr (aI G31_ hr (aY 0 (aB aD aC))) aD))))
    (aH (aT 4 nd aD))
    aU)
   (aH (aO (bM (aB bA (aB (aI G31_ hr (aY 0 (aB (aW bO (bB (hV rfl) rfl B.min boot_min (aB (aA 4) (aB aD aC))) aD) aC))) (aB (aA 4) (aB (aA 3) (aB (aI G47_ hr (aY 0 (aB (aA 1) (aB (aW eF (aA 2) aD) (aB aD aC))))) aC)))))))))))) (λas R q=>?_)
 obtain⟨nm,tx,st,sp,deep,rfl,hw,d0,d1,q⟩:=q
 refine⟨rfl,rfl,rfl,λh a b ms m=>?_⟩
 refine⟨rfl,10,rfl,by decide,bD (by decide) (by decide),λc c0 c1=>?_⟩
 have fin:∀most:Int,1<=most->most<=60->(most<=10\/1<b)->∀k:Int,0<=k->k<min most 3+1->∀f,f≠[]->dI n f->R (aZ (.table k most (.make h a b ms) f)):=λmost m1 m2 m3 k k0 k1 f fn hf=>q _ _ _ _ ⟨⟨⟨k0,by omega⟩,zBY m.ne (λx hx=>m.sub.subset hx) (by have:=m.b1;omega)⟩,by omega,m1,by omega,m.ok,rfl,fn,hf.1,hf.2⟩
 refine⟨_,rfl,_,rfl,sif (λz=>⟨rfl,8,rfl,by decide,bD (by decide) (by decide),λe e0 e1=>⟨_,rfl,sif (λ_=>?_) (λ_=>?_)⟩⟩) (λz=>aL ?_)⟩
 all_goals
  refine⟨rfl,.inl ⟨_,_,rfl,_,rfl,by omega,bD (by omega) (by omega),λk k0 k1=>⟨rfl,nm,tx,st,sp,_,_,rfl,hw,by omega,by omega,by decide,by decide,λf fn hf=>⟨by simp,?_⟩⟩⟩⟩
  have:=fin _ (by omega) (by omega) (by first|exact .inl (by omega)|exact .inr (of_decide_eq_true z)) k k0 k1 f fn hf
  rw[jE]at this
  exact this
theorem zV{n:Nat}:∀{ss:List Str}{Us:List Tv},Paired (λT U=>∃(s:Str) (b:Bool) (f:List Pt),T=sT s/\U=cH (s,b,f)/\f≠[]/\dI n f) (ss.map sT) Us->∃fs:List (Str×Bool×List Pt),Us=fs.map cH/\fs.map (·.1)=ss/\∀x∈fs,x.2.2≠[]/\dI n x.2.2
 |[],[],_=>⟨[],rfl,rfl,λx hx=>nomatch hx⟩
 |s::ss,U::Us,.cons r t=>by
  obtain⟨fs,rfl,e2,h⟩:=zV (ss:=ss) t
  obtain⟨s',b,f,e,rfl,fn,hf⟩:=r
  have e:s=s':=by cases e;rfl
  subst e
  refine⟨(s,b,f)::fs,rfl,by rw[List.map_cons,e2],λx hx=>?_⟩
  rcases List.mem_cons.mp hx with rfl|hx
  ·exact⟨fn,hf⟩
  ·exact h x hx
theorem zGd(fs:List (Str×Bool×List Pt)):(fs.filterMap λx=>if x.2.1=true then some (cH x) else none)=(fs.filter λx=>x.2.1).map cH:=by
 induction fs with
 |nil=>rfl
 |cons x fs ih=>
  rw[List.filterMap_cons,List.filter_cons]
  cases h:x.2.1 with
  |true=>simp[h,ih]
  |false=>simp[h,ih]
theorem C44_:bC ["_law_deck_here","_law_world_here","_law_deep","_law_many","_law_names","_law_some","_law_fields","_law_musts","_law_least","_law_most"] ["_law_deck_here","_law_world_here","_law_deep","_law_many"] (aJ kF):=fsc (by decide +kernel)
theorem zLw(h:Has K mg "_law_record" kF)(B:Own mg)(G31_:aE P w K mg base 2 "_law_take" ["_law_deck_here","_law_most"] dM)(G47_:aE P w K mg base (6+3*n) "_law_form" ["_law_deck_here","_law_world_here","_law_deep","_law_most"] (jO n))   : aE P w K mg base (6+3*n+1) "_law_record" ["_law_deck_here","_law_world_here","_law_deep","_law_many"] (wB n):=by
 have nd:=C44_.nd
 refine h.pgood C44_ (fun|_,_,_,_,_,_,[_,_,_,_],_=>rfl) (λf cdv A outer s H E F hr=>
   (aG (gD 4 nd (pP tX rfl B.list_ boot_list (aB (aQ hr (aA 1) aD) aC)))
   (aG (aT 5 nd (aX (nC (mX rfl) rfl B.sorted boot_sorted (aB (aX (cK (sc:=aJ kF) (XN:=["_law_deck_here","_law_world_here","_law_deep","_law_many","_law_names","_law_some","_law_fields","_law_musts","_law_least","_law_most"]) (N:=["_law_k","_law_deck_here","_law_names"]) (fr:=[0,4]) (fT rfl B.range (aB (aA 3) aC)) (λ_ _ _ _ _=>(pX 2 (aI G31_ hr (aY 1 (aB (lD λF=>(bB bL rfl B.len PySem.boot_len (aB (aA 2) aC))) aC))))))) aC))))
   (aG (aT 6 nd (gI hC rfl B.tuple_ boot_tuple (aB (aX (cK (sc:=aJ kF) (XN:=["_law_deck_here","_law_world_here","_law_deep","_law_many","_law_names","_law_some","_law_fields","_law_musts","_law_least","_law_most"]) (N:=["_law_name","_law_deck_here","_law_world_here","_law_deep"]) (fr:=[0,1,2]) (bG (aA 5)) (λ_ _ _ _ _=>(bM (aB (aA 0) (aB (cE (eN hr.units).op (aI G31_ hr (aY 1 (aB aD aC))) aD) (aB (aI G47_ hr (aY 1 (aB (aA 2) (aB (aW eF (aA 3) aD) (aB aD aC))))) aC))))))) aC)))
   (aG (aT 7 nd (bB bL rfl B.len PySem.boot_len (aB (aX (lT (sc:=aJ kF) (XN:=["_law_deck_here","_law_world_here","_law_deep","_law_many","_law_names","_law_some","_law_fields","_law_musts","_law_least","_law_most"]) (N:=["_law_field"]) (fr:=[]) (bG (aA 6)) (λ_ _ _ _ _=>(fJ (bI (aQ hr (aA 0) aD)))) (λ_ _ _ _ _=>(aA 0)))) aC)))
   (aG (aT 8 nd (aA 3))
   (aG (aT 9 nd (aA 3))
   (aG (aV (bY iE (aA 7) (aA 3))
    (aG (aT 8 nd (aW bO (aA 7) (aI G31_ hr (aY 0 (aB (aW eF (aA 3) (aA 7)) aC)))))
    (aG (aT 9 nd (bB (iV rfl) rfl B.max boot_max (aB (aA 8) (aB (aW bO (aA 7) aD) aC))))
    (aH (aT 9 nd (aW bO (aA 9) (aI G31_ hr (aY 0 (aB (aW bO (aW eF (aA 3) (aA 9)) aD) aC))))))))
    aU)
   (aH (aO (bM (aB bA (aB (aA 8) (aB (aA 9) (aB (aA 6) aC))))))))))))))) (λas R q=>?_)
 obtain⟨nm,tx,st,sp,deep,many,rfl,hw,d0,d1,m0,m8,q⟩:=q
 refine⟨rfl,_,rfl,false,_,rfl,?_⟩
 refine⟨_,rfl,by omega,by omega,by rw[eQ];omega,?_⟩
 refine uH (λi Us ρ=>∃ps rs:List Str,Us=ps.map sT/\ps.length=i/\(ps++rs).Perm nm/\ρ=[.dk,.va (dC nm tx st sp),.va (iT deep),.va (iT many),.own (rs.map sT),.no,.no,.no,.no,.no]) ⟨[],nm,rfl,rfl,List.Perm.refl _,rfl⟩ ?_ ?_
 ·rintro i T _ _ hT ⟨ps,rs,rfl,hl,hp,rfl⟩ R hR
  have hi:=(jK hT).1
  have hlen:=hp.length_eq
  rw[List.length_append,hw.n11]at hlen
  refine⟨⟨_,rfl⟩,rfl,_,rfl,(rs.map sT).length,rfl,by rw[List.length_map];omega,by rw[List.length_map];exact bD (by omega) (by omega),λr r0 r1=>?_⟩
  rw[List.length_map]at r1
  obtain⟨x,hx⟩:=wG r0 r1
  refine⟨r,_,sT x,rfl,rfl,r0,by rw[List.getElem?_map,hx];rfl,hR (some (sT x)) _ ⟨ps++[x],rs.eraseIdx r.toNat,by rw[List.map_append];rfl,by rw[List.length_append,hl];rfl,uO hp hx,?_⟩⟩
  show [Sl.dk,.va (dC nm tx st sp),.va (iT deep),.va (iT many),.own ((rs.map sT).eraseIdx r.toNat),.no,.no,.no,.no,.no]=_
  rw[mY]
 ·rintro _ _ ⟨ps,rs,rfl,hl,hp,rfl⟩
  rw[eQ]at hl
  have hnd:ps.Nodup:=(hp.nodup_iff.mpr hw.nd).sublist (List.sublist_append_left _ _)
  have hps:(cO ps).length=many.toNat:=by rw[mV,hl]
  have hrise:=tW hnd
  have htx:∀s∈cO ps,kK s:=λs hs=>by
   have hs:s∈nm:=hp.mem_iff.mp (List.mem_append_left _ ((mS ps).mem_iff.mp hs))
   exact⟨(hw.ns s hs).1,by have:=(hw.ns s hs).2;omega⟩
  refine .inr (.inl ⟨ps,rfl,by omega,?_⟩)
  refine⟨by rw[List.length_map];omega,?_⟩
  refine nA (λT U=>∃(s:Str) (b:Bool) (f:List Pt),T=sT s/\U=cH (s,b,f)/\f≠[]/\dI n f) (λT hT R hR=>?_) (λUs hUs=>?_)
  ·obtain⟨s,hs,rfl⟩:=List.mem_map.mp hT
   refine⟨rfl,2,rfl,by decide,bD (by decide) (by decide),λr r0 r1=>?_⟩
   exact⟨rfl,nm,tx,st,sp,_,_,rfl,hw,by omega,by omega,by decide,by decide,λf fn hf=>⟨by simp,hR _ ⟨s,_,f,rfl,rfl,fn,hf⟩⟩⟩
  ·obtain⟨fs,rfl,hf1,hf2⟩:=zV hUs
   have hfl:fs.length=many.toNat:=by rw[<-hps,<-hf1,List.length_map]
   refine⟨false,_,rfl,?_⟩
   refine⟨by rw[List.length_map];omega,?_⟩
   refine iQ cH (λx=>if x.2.1=true then some (cH x) else none) (λx hx R q=>⟨_,rfl,_,rfl,sif (λz=>?_) (λz=>?_)⟩) ?_
   ·rw[if_pos z]at q;exact q
   ·rw[if_neg (by rw[z];exact Bool.false_ne_true)]at q;exact q
   rw[zGd]
   have hml:fU fs<=fs.length:=List.length_filter_le _ _
   have fin:∀a b:Int,0<=a->a<=b->(fU fs:Int)<=a->b<=fs.length->(fU fs<fs.length->a<fs.length/\fU fs<b)->R (.seq true [sT "record",iT a,iT b,.seq true (fs.map cH)]):=λa b h1 h2 h3 h4 h5=>by
    have:=q a b fs ⟨h1,h2,by omega,by rw[hf1];exact hrise,λx hx=>⟨htx x.1 (by rw[<-hf1];exact List.mem_map.mpr ⟨x,hx,rfl⟩),(hf2 x hx).1,(hf2 x hx).2.1,(hf2 x hx).2.2⟩,h3,h4,h5⟩
    rw[iL]at this
    exact this
   have hmu:((fs.filter λx=>x.2.1).map cH).length=fU fs:=by rw[List.length_map];rfl
   generalize hmm:((fs.filter λx=>x.2.1).map cH)=ml at hmu ⊢
   refine⟨_,rfl,sif (λz=>?_) (λz=>?_)⟩
   ·have z:((ml.length:Nat):Int)<many:=by simpa using z
    refine⟨rfl,_,rfl,by omega,bD (by omega) (by omega),λk k0 k1=>.inl ⟨_,_,rfl,rfl,_,rfl,by omega,bD (by omega) (by omega),λj j0 j1=>⟨by simp,fin _ _ (by omega) (by omega) (by omega) (by omega) (λ_=>by omega)⟩⟩⟩
   ·have z:¬ ((ml.length:Nat):Int)<many:=by simpa using z
    exact⟨by simp,fin _ _ (by omega) (by omega) (by omega) (by omega) (λ_=>by omega)⟩
end
section
variable{P:Program}{w:World}{K:W.Frag}{mg:Str->Option Value}{base:Heap}
variable{n:Nat}
theorem zEC{st sp k m:Int}(h1:-(10 ^ 57)<=st)(h2:st<=10 ^ 57)(h3:1<=sp)(h4:sp<=10 ^ 20)(k0:0<=k)(k1:k<12)(m0:0<=m)(m7:m<=7):rQ (st+sp*(k-4)) (st+sp*(k-4)+m*sp) (sp*min m 1):=by
 have e1:=wC (b:=k-4) h3 h4 (by omega) (by omega)
 have e2:=wC (b:=m) h3 h4 (by omega) (by omega)
 have e2':m*sp=sp*m:=Int.mul_comm _ _
 by_cases hm:m=0
 ·subst hm
  have e3:sp*min 0 1=0:=by rw[show min (0:Int) 1=0 by decide,Int.mul_zero]
  have e4:(0:Int)*sp=0:=Int.zero_mul _
  rw[e3,e4]
  exact⟨⟨by omega,by omega⟩,⟨by omega,by omega⟩,⟨by decide,by decide⟩,by omega,by omega,⟨λ_=>by omega,λ_=>rfl⟩,λz=>absurd rfl z⟩
 ·have e3:sp*min m 1=sp:=by rw[show min m 1=1 by omega,Int.mul_one]
  rw[e3]
  have pos:0<m*sp:=Int.mul_pos (by omega) (by omega)
  refine⟨⟨by omega,by omega⟩,⟨by omega,by omega⟩,⟨by omega,by omega⟩,by omega,by omega,⟨λz=>by omega,λz=>by omega⟩,λ_=>?_⟩
  rw[show st+sp*(k-4)+m*sp-(st+sp*(k-4))=m*sp by omega]
  exact Int.mul_emod_left _ _
theorem C46_:bC ["_law_deck_here","_law_world_here","_law_deep","_law_kind","_law_most","_law_low","_law_many","_law_least","_law_high","_law_inner"] ["_law_deck_here","_law_world_here","_law_deep","_law_kind","_law_most"] (aJ sD):=fsc (by decide +kernel)
theorem zLu(h:Has K mg "_law_part" sD)(B:Own mg)(G31_:aE P w K mg base 2 "_law_take" ["_law_deck_here","_law_most"] dM)(G43_:aE P w K mg base 5 "_law_some_words" ["_law_deck_here","_law_world_here"] pF)(G47_:aE P w K mg base (6+3*n) "_law_form" ["_law_deck_here","_law_world_here","_law_deep","_law_most"] (jO n))(G45_:aE P w K mg base (6+3*n+1) "_law_table" ["_law_deck_here","_law_world_here","_law_deep"] (zAk n))(G44_:aE P w K mg base (6+3*n+1) "_law_record" ["_law_deck_here","_law_world_here","_law_deep","_law_many"] (wB n))   : aE P w K mg base (6+3*n+2) "_law_part" ["_law_deck_here","_law_world_here","_law_deep","_law_kind","_law_most"] (zA5 n):=by
 have nd:=C46_.nd
 refine h.pgood C46_ (fun|_,_,_,_,_,_,[_,_,_,_,_],_=>rfl) (λf cdv A outer s H E F hr=>
   (aG (aV (bP hr (aA 3) aD)
    (aH (aO (bM (aB bA aC))))
    aU)
   (aG (aV (bP hr (aA 3) aD)
    (aH (aO (bM (aB bA (aB (aQ hr (aX (bR (aB (bM (aB cB aC)) (aB (bM (aB cB aC)) (aB (bM (aB cB (aB cB aC))) aC))))) (aI G31_ hr (aY 0 (aB aD aC)))) aC)))))
    aU)
   (aG (aV (bP hr (aA 3) aD)
    (aG (aT 5 nd (aW bO (aQ hr (aA 1) aD) (aW gO (aQ hr (aA 1) aD) (aW eF (aI G31_ hr (aY 0 (aB aD aC))) aD))))
    (aG (aT 6 nd (aQ hr (aX (bR (aB aD (aB aD (aB aD (aB aD (aB aD aC))))))) (aI G31_ hr (aY 0 (aB aD aC)))))
    (aH (aO (bM (aB bA (aB (aA 5) (aB (aW bO (aA 5) (aW gO (aA 6) (aQ hr (aA 1) aD))) (aB (aW gO (aQ hr (aA 1) aD) (bB (hV rfl) rfl B.min boot_min (aB (aA 6) (aB aD aC)))) aC)))))))))
    aU)
   (aG (aV (bP hr (aA 3) aD)
    (aH (aO (bM (aB bA (aB (aI G43_ hr (aY 0 (aB (aA 1) aC))) aC)))))
    aU)
   (aG (aV (bP hr (aA 3) aD)
    (aG (aT 7 nd (aW gO (aI G31_ hr (aY 0 (aB aD aC))) (bB (hV rfl) rfl B.min boot_min (aB aD (aB (aA 2) aC)))))
    (aG (aT 8 nd (aW bO (aA 7) (aW gO (aQ hr (aX (bR (aB aD (aB aD (aB aD (aB aD aC)))))) (aI G31_ hr (aY 0 (aB aD aC)))) (bB (hV rfl) rfl B.min boot_min (aB aD (aB (aA 2) aC))))))
    (aG (aT 9 nd (bM aC))
    (aG (aV (bY rF (aA 8) aD)
     (aH (aT 9 nd (aI G47_ hr (aY 0 (aB (aA 1) (aB (aW eF (aA 2) aD) (aB aD aC)))))))
     aU)
    (aH (aO (bM (aB bA (aB (aA 7) (aB (aA 8) (aB (aA 9) aC)))))))))))
    aU)
   (aG (aV (bP hr (aA 2) aD)
    (aH (aO (bM (aB bA (aB aD (aB aD (aB (bM aC) aC)))))))
    aU)
   (aG (aV (bP hr (aI G31_ hr (aY 0 (aB aD aC))) aD)
    (aH (aO (aI G45_ hr (aY 0 (aB (aA 1) (aB (aA 2) aC))))))
    aU)
   (aG (aT 6 nd (aI G31_ hr (aY 0 (aB (aQ hr (aX (bR (aB aD (aB aD aC)))) (gI zIo rfl B.int_ boot_int (aB (cE (eN hr.units).op (aA 4) aD) aC))) aC))))
   (aG (aV (cG (nU (bP hr (aA 4) aD) (nU (bP hr (aA 2) aD) (qC (bP hr (aI G31_ hr (aY 0 (aB aD aC))) aD)))))
    (aH (aT 6 nd aD))
    aU)
   (aH (aO (aI G44_ hr (aY 0 (aB (aA 1) (aB (aA 2) (aB (aA 6) aC))))))))))))))))) (λas R q=>?_)
 obtain⟨nm,tx,st,sp,deep,kind,most,rfl,hw,d0,d1,k0,k5,m1,m6,q⟩:=q
 refine⟨rfl,_,rfl,dG (λe=>?_) (λe0=>⟨_,rfl,dG (λe=>?_) (λe1=>⟨_,rfl,dG (λe=>?_) (λe2=>⟨_,rfl,dG (λe=>?_) (λe3=>⟨_,rfl,dG (λe=>?_) (λe4=>?_)⟩)⟩)⟩)⟩)⟩
 ·have:=q .nothing trivial (by rw[e];rfl)
  rw[aZ]at this
  exact⟨by decide,this⟩
 ·refine⟨by decide,by decide,by decide,by decide,rfl,3,rfl,by decide,bD (by decide) (by decide),λr r0 r1=>?_⟩
  obtain⟨U,hU,hm⟩:=gG (l:=[Tv.seq true [bT false],.seq true [bT true],.seq true [bT false,bT true]]) r0 r1
  refine⟨U,hU,by simp,?_⟩
  simp only[List.mem_cons,List.not_mem_nil,or_false]at hm
  rcases hm with rfl|rfl|rfl
  ·have:=q (.truths [false]) (.inl rfl) (by rw[e];rfl)
   rw[aZ]at this;exact this
  ·have:=q (.truths [true]) (.inr (.inl rfl)) (by rw[e];rfl)
   rw[aZ]at this;exact this
  ·have:=q (.truths [false,true]) (.inr (.inr rfl)) (by rw[e];rfl)
   rw[aZ]at this;exact this
 ·have hst1:=hw.st1
  have hst2:=hw.st2
  have hsp1:=hw.sp1
  have hsp2:=hw.sp2
  refine⟨_,rfl,_,rfl,rfl,12,rfl,by decide,bD (by decide) (by decide),λk k0 k1=>⟨.inr ⟨bD (by omega) (by omega),bD (by omega) (by omega)⟩,?_⟩⟩
  refine⟨by decide,rfl,5,rfl,by decide,bD (by decide) (by decide),λr r0 r1=>?_⟩
  obtain⟨U,hU,hm⟩:=gG (l:=[iT 0,iT 1,iT 2,iT 3,iT 7]) r0 r1
  have hm:∃m:Int,U=iT m/\0<=m/\m<=7:=by
   simp only[List.mem_cons,List.not_mem_nil,or_false]at hm
   rcases hm with e|e|e|e|e<;>subst e<;>exact⟨_,rfl,by decide,by decide⟩
  obtain⟨m,rfl,mm0,mm7⟩:=hm
  refine⟨_,hU,?_⟩
  clear hU
  refine⟨_,rfl,.inr ⟨bD (by omega) (by omega),bD (by omega) (by omega)⟩,_,rfl,.inl ⟨_,_,rfl,.inr ⟨bD (by omega) (by omega),bD (by omega) (by omega)⟩,by simp,?_⟩⟩
  have:=q (.numbers _ _ _) (zEC hst1 hst2 hsp1 hsp2 k0 k1 mm0 mm7) (by rw[e];rfl)
  rw[aZ]at this
  exact this
 ·refine⟨rfl,nm,tx,st,sp,rfl,hw,λw ww=>⟨by simp,?_⟩⟩
  have:=q (.texts w) ww (by rw[e];rfl)
  rw[aZ]at this
  exact this
 ·have hd:min 1 deep=0\/min 1 deep=1:=by omega
  refine⟨rfl,4,rfl,by decide,bD (by decide) (by decide),λa a0 a1=>.inl ⟨_,_,rfl,.inl (.inl ⟨by omega,by omega⟩),?_⟩⟩
  refine⟨by decide,rfl,4,rfl,by decide,bD (by decide) (by decide),λr r0 r1=>?_⟩
  obtain⟨U,hU,hm⟩:=gG (l:=[iT 0,iT 1,iT 2,iT 57]) r0 r1
  have hm:∃m:Int,U=iT m/\0<=m/\m<=57:=by
   simp only[List.mem_cons,List.not_mem_nil,or_false]at hm
   rcases hm with e|e|e|e<;>subst e<;>exact⟨_,rfl,by decide,by decide⟩
  obtain⟨m,rfl,mm0,mm7⟩:=hm
  refine⟨_,hU,.inl ⟨_,_,rfl,.inl (.inl ⟨by omega,by omega⟩),?_⟩⟩
  clear hU
  refine⟨by decide,_,rfl,dE (λz=>?_) (λz=>?_)⟩
  ·have hd1:1<=deep:=by
    rcases hd with h|h
    ·rw[h]at z;omega
    ·omega
   refine⟨rfl,nm,tx,st,sp,_,_,rfl,hw,by omega,by omega,by decide,by decide,λf fn hf=>⟨by simp,?_⟩⟩
   have:=q (.lists (a*min 1 deep) (a*min 1 deep+m*min 1 deep) f) ⟨?_,?_,?_,λz'=>by omega,λ_=>⟨fn,hf.1,hf.2⟩⟩ (by rw[e];rfl)
   ·rw[jF]at this;exact this
   ·rcases hd with h|h<;>rw[h]<;>omega
   ·rcases hd with h|h<;>rw[h]<;>omega
   ·rcases hd with h|h<;>rw[h]<;>omega
  ·have h0:a*min 1 deep=0/\a*min 1 deep+m*min 1 deep=0:=by rcases hd with h|h<;>rw[h]at z ⊢<;>omega
   refine⟨by simp,?_⟩
   have:=q (.lists (a*min 1 deep) (a*min 1 deep+m*min 1 deep) []) ⟨by omega,by omega,by omega,λ_=>rfl,λz'=>by omega⟩ (by rw[e];rfl)
   rw[jF]at this
   exact this
 ·have hk:kind=5:=by omega
  refine⟨_,rfl,dG (λe=>?_) (λe5=>?_)⟩
  ·have:=q (.record 0 0 []) ⟨by decide,by decide,by decide,.nil,λx hx=>(nomatch hx),by decide,by decide,λh=>absurd h (by decide)⟩ (by rw[hk];rfl)
   rw[iL]at this
   exact⟨by decide,by decide,this⟩
  ·refine⟨rfl,3,rfl,by decide,bD (by decide) (by decide),λr r0 r1=>⟨_,rfl,dG (λ_=>?_) (λ_=>?_)⟩⟩
   ·exact⟨rfl,nm,tx,st,sp,deep,rfl,hw,by omega,d1,λa b w f hp=>q _ hp (by rw[hk];rfl)⟩
   ·refine⟨rfl,by decide,?_⟩
    have hmen:∃U:Int,atI [iT 4,iT 3] (if (false != eqV (.int most) (.int 2))=true then 1 else 0)=some (iT U)/\3<=U/\U<=4:=by
     by_cases h:(false != eqV (.int most) (.int 2))=true
     ·rw[if_pos h];exact⟨3,rfl,by decide,by decide⟩
     ·rw[if_neg h];exact⟨4,rfl,by decide,by decide⟩
    obtain⟨U,hU,u3,u4⟩:=hmen
    refine⟨_,hU,U,rfl,by omega,bD (by omega) (by omega),λm m0 mU=>?_⟩
    have rcd:∀mn:Int,0<=mn->mn<=8->wB n [.dk,.va (dC nm tx st sp),.va (iT deep),.va (iT mn)] R:=λmn h1 h2=>⟨nm,tx,st,sp,deep,mn,rfl,hw,by omega,d1,h1,h2,λa b fs hp=>q _ hp (by rw[hk];rfl)⟩
    refine⟨_,rfl,dG (λ_=>⟨_,rfl,dG (λ_=>⟨rfl,4,rfl,by decide,bD (by decide) (by decide),λj j0 j1=>⟨_,rfl,dG (λ_=>?_) (λ_=>?_)⟩⟩) (λ_=>aL ?_)⟩) (λ_=>aL ?_)⟩
    ·exact⟨rfl,rcd 8 (by decide) (by decide)⟩
    ·exact⟨rfl,rcd m (by omega) (by omega)⟩
    ·exact⟨rfl,rcd m (by omega) (by omega)⟩
    ·exact⟨rfl,rcd m (by omega) (by omega)⟩
end
section
variable{P:Program}{w:World}{K:W.Frag}{mg:Str->Option Value}{base:Heap}
variable{n:Nat}
theorem zAm{n:Nat}:∀{ks:List Int}{Us:List Tv},Paired (λT U=>∃(k:Int) (p:Pt),T=iT k/\U=aZ p/\dN (n+1) p/\(bZ p:Int)=k) (ks.map iT) Us->∃f:List Pt,Us=f.map aZ/\f.map (λp=>(bZ p:Int))=ks/\∀p∈f,dN (n+1) p
 |[],[],_=>⟨[],rfl,rfl,λx hx=>nomatch hx⟩
 |k::ks,U::Us,.cons r t=>by
  obtain⟨fs,rfl,e2,h⟩:=zAm (ks:=ks) t
  obtain⟨k',p,e,rfl,hp,hk⟩:=r
  have e:k=k':=by cases e;rfl
  subst e
  refine⟨p::fs,rfl,by rw[List.map_cons,e2,hk],λx hx=>?_⟩
  rcases List.mem_cons.mp hx with rfl|hx
  ·exact hp
  ·exact h x hx
theorem zHE{rs:List Int}{r:Int}(h0:0<=r)(h1:r<rs.length):∃x,rs[r.toNat]?=some x:=⟨rs[r.toNat]'(by omega),List.getElem?_eq_getElem _⟩
theorem C47_:bC ["_law_deck_here","_law_world_here","_law_deep","_law_most","_law_kinds","_law_some"] ["_law_deck_here","_law_world_here","_law_deep","_law_most"] (aJ mI):=fsc (by decide +kernel)
theorem zLt(h:Has K mg "_law_form" mI)(B:Own mg)(G31_:aE P w K mg base 2 "_law_take" ["_law_deck_here","_law_most"] dM)(G46_:aE P w K mg base (6+3*n+2) "_law_part" ["_law_deck_here","_law_world_here","_law_deep","_law_kind","_law_most"] (zA5 n))   : aE P w K mg base (6+3*n+3) "_law_form" ["_law_deck_here","_law_world_here","_law_deep","_law_most"] (jO (n+1)):=by
 have nd:=C47_.nd
 refine h.pgood C47_ (fun|_,_,_,_,_,_,[_,_,_,_],_=>rfl) (λf cdv A outer s H E F hr=>
   (aG (gD 4 nd (zFr rfl rfl B.range rfl B.list_ (aB aD aC)))
   (aG (fM (sc:=aJ mI) (XN:=["_law_deck_here","_law_world_here","_law_deep","_law_most","_law_kinds","_law_some"]) (N:=["_law_k","_law_deck_here","_law_kinds"]) (fr:=[0,4]) 5 nd (fT rfl B.range (aB (aW bO aD (aI G31_ hr (aY 0 (aB (aA 3) aC)))) aC)) (λ_ _ _ _ _=>hJ) (λ_ _ _ _ _=>(pX 2 (aI G31_ hr (aY 1 (aB (lD λF=>(bB bL rfl B.len PySem.boot_len (aB (aA 2) aC))) aC))))))
   (aH (aO (gI hC rfl B.tuple_ boot_tuple (aB (aX (cK (sc:=aJ mI) (XN:=["_law_deck_here","_law_world_here","_law_deep","_law_most","_law_kinds","_law_some"]) (N:=["_law_kind","_law_deck_here","_law_world_here","_law_deep","_law_most"]) (fr:=[0,1,2,3]) (bG (aX (nC (mX rfl) rfl B.sorted boot_sorted (aB (aA 5) aC)))) (λ_ _ _ _ _=>(aI G46_ hr (aY 1 (aB (aA 2) (aB (aA 3) (aB (aA 0) (aB (aA 4) aC))))))))) aC))))))) (λas R q=>?_)
 obtain⟨nm,tx,st,sp,deep,most,rfl,hw,d0,d1,m1,m6,q⟩:=q
 refine⟨rfl,6,rfl,by decide,?_⟩
 refine⟨rfl,_,rfl,by omega,bD (by omega) (by omega),λc c0 c1=>⟨_,rfl,by omega,by omega,by rw[eQ];omega,?_⟩⟩
 refine uH (λi Us ρ=>∃ps rs:List Int,Us=ps.map iT/\ps.length=i/\(ps++rs).Perm [0,1,2,3,4,5]/\ρ=[.dk,.va (dC nm tx st sp),.va (iT deep),.va (iT most),.own (rs.map iT),.no]) ⟨[],[0,1,2,3,4,5],rfl,rfl,List.Perm.refl _,rfl⟩ ?_ ?_
 ·rintro i T _ _ hT ⟨ps,rs,rfl,hl,hp,rfl⟩ R hR
  have hi:=(jK hT).1
  have hlen:=hp.length_eq
  rw[List.length_append]at hlen
  have hlen:ps.length+rs.length=6:=hlen
  refine⟨⟨_,rfl⟩,rfl,_,rfl,(rs.map iT).length,rfl,by rw[List.length_map];omega,by rw[List.length_map];exact bD (by omega) (by omega),λr r0 r1=>?_⟩
  rw[List.length_map]at r1
  obtain⟨x,hx⟩:=zHE r0 r1
  refine⟨r,_,iT x,rfl,rfl,r0,by rw[List.getElem?_map,hx];rfl,hR (some (iT x)) _ ⟨ps++[x],rs.eraseIdx r.toNat,by rw[List.map_append];rfl,by rw[List.length_append,hl];rfl,uO hp hx,?_⟩⟩
  show [Sl.dk,.va (dC nm tx st sp),.va (iT deep),.va (iT most),.own ((rs.map iT).eraseIdx r.toNat),.no]=_
  rw[mY]
 ·rintro _ _ ⟨ps,rs,rfl,hl,hp,rfl⟩
  rw[eQ]at hl
  have hnd:ps.Nodup:=(hp.nodup_iff.mpr (by decide)).sublist (List.sublist_append_left _ _)
  refine .inl ⟨ps,rfl,by omega,λms hm hs=>?_⟩
  have hml:ms.length=ps.length:=hm.length_eq
  refine⟨by rw[List.length_map];omega,?_⟩
  refine nA (λT U=>∃(k:Int) (p:Pt),T=iT k/\U=aZ p/\dN (n+1) p/\(bZ p:Int)=k) (λT hT R hR=>?_) (λUs hUs=>?_)
  ·obtain⟨k,hk,rfl⟩:=List.mem_map.mp hT
   have hk:k∈[0,1,2,3,4,5]:=hp.mem_iff.mp (List.mem_append_left _ (hm.mem_iff.mp hk))
   have hk:0<=k/\k<=5:=by
    simp only[List.mem_cons,List.not_mem_nil,or_false]at hk
    omega
   exact⟨rfl,nm,tx,st,sp,deep,k,most,rfl,hw,d0,by omega,hk.1,hk.2,m1,m6,λp hp hkp=>hR _ ⟨k,p,rfl,rfl,hp,hkp⟩⟩
  ·obtain⟨f,rfl,e,hf⟩:=zAm hUs
   refine⟨false,_,rfl,q f (λz=>?_) ⟨?_,hf⟩⟩
   ·rw[z]at e
    have:ms.length=0:=by rw[<-e];rfl
    omega
   ·have h1:ms.Pairwise (· < ·):=by
     have h2:ms.Nodup:=hm.nodup_iff.mpr hnd
     exact List.Pairwise.imp₂ (λa b h n=>by omega) hs h2
    rw[<-e,List.pairwise_map]at h1
    exact h1.imp λh=>by omega
theorem qK(hf:Has K mg "_law_form" mI)(hp:Has K mg "_law_part" sD)(ht:Has K mg "_law_table" sE)(hrc:Has K mg "_law_record" kF)(B:Own mg)(G1:aE P w K mg base 2 "_law_take" ["_law_deck_here","_law_most"] dM)(G2:aE P w K mg base 4 "_law_make" ["_law_deck_here"] nZ)
  (G3:aE P w K mg base 5 "_law_some_words" ["_law_deck_here","_law_world_here"] pF):∀n:Nat,aE P w K mg base (6+3*n) "_law_form" ["_law_deck_here","_law_world_here","_law_deep","_law_most"] (jO n)
 |0=>hf.pfalse C47_ (fun|_,_,_,_,_,_,[_,_,_,_],_=>rfl) λas R ⟨_,_,_,_,_,_,_,_,h0,h1,_⟩=>by omega
 |n+1=>zLt hf B G1 (zLu hp B G1 G3 (qK hf hp ht hrc B G1 G2 G3 n) (zLv ht B G2 G1 (qK hf hp ht hrc B G1 G2 G3 n)) (zLw hrc B G1 (qK hf hp ht hrc B G1 G2 G3 n)))
end
end My
namespace My
open PySem L2 PyProof.Rows WordM
section
variable{P:Program}{w:World}{K:W.Frag}{mg:Str->Option Value}{base:Heap}
variable{n:Nat}
theorem zFJ{kts:List (Str×Tv)}{s:Str}{T:Tv}{kt:Str×Tv}(h:kt∈eJ kts s T):kt∈kts\/kt=(s,T):=by
 unfold eJ at h
 split at h
 ·obtain⟨x,hx,rfl⟩:=List.mem_map.mp h
  split
  ·rename_i e;rw[e];exact .inr rfl
  ·exact .inl hx
 ·rcases List.mem_append.mp h with h|h
  ·exact .inl h
  ·exact .inr (List.mem_singleton.mp h)
theorem zAg{kts:List (Str×Tv)}{s:Str}{T:Tv}:(eJ kts s T).length<=kts.length+1:=by
 unfold eJ
 split
 ·rw[List.length_map];omega
 ·rw[List.length_append];exact Nat.le_refl _
def VD(nm tx:List Str):Nat->Tv->Prop
 |0,_=>False
 |_+1,.leaf .non=>True
 |_+1,.leaf (.bl _)=>True
 |_+1,.leaf (.int i)=>kM i
 |_+1,.leaf (.str s)=>s∈tx
 |n+1,.seq false xs=>xs.length<=11/\∀x∈xs,VD nm tx n x
 |n+1,.dct kts=>(kts.map (·.1)).Nodup/\kts.length<=11/\∀kt∈kts,kt.1∈nm/\VD nm tx n kt.2
 |_,_=>False
theorem zBj{nm tx:List Str}{T:Tv}(h:zCr tx T):VD nm tx (n+1) T:=by
 cases T with
 |leaf v=>cases v<;>exact h
 |seq t xs=>exact False.elim h
 |dct k=>exact False.elim h
theorem VD.put{nm tx:List Str}{kts:List (Str×Tv)}{s:Str}{T:Tv}(h:VD nm tx (n+1) (.dct kts))(l:kts.length<11)(hs:s∈nm)(hT:VD nm tx n T):VD nm tx (n+1) (.dct (eJ kts s T)):=by
 refine⟨tR h.1,by have:=zAg (kts:=kts) (s:=s) (T:=T);omega,λkt hk=>?_⟩
 rcases zFJ hk with z|rfl
 ·exact h.2.2 kt z
 ·exact⟨hs,hT⟩
def lF(n:Nat):PSp:=λas R=>∃nm tx st sp,∃deep way:Int,as=[.dk,.va (dC nm tx st sp),.va (iT deep),.va (iT way)]/\eY nm tx st sp/\0<=deep/\deep<n/\0<=way/\way<=9/\∀T,VD nm tx n T->R T
def zBR(n:Nat):PSp:=λas R=>∃nm tx st sp,∃deep many:Int,as=[.dk,.va (dC nm tx st sp),.va (iT deep),.va (iT many)]/\eY nm tx st sp/\1<=deep/\deep<=n/\0<=many/\many<=11/\∀T,VD nm tx (n+1) T->R T
theorem C39_:bC ["_law_deck_here","_law_world_here","_law_deep","_law_many","_law_names","_law_found","_law_k","_law_name"] ["_law_deck_here","_law_world_here","_law_deep","_law_many"] (aJ sI):=fsc (by decide +kernel)
theorem zLB(h:Has K mg "_law_dict" sI)(B:Own mg)(G31_:aE P w K mg base 2 "_law_take" ["_law_deck_here","_law_most"] dM)(G40_:aE P w K mg base (6+2*n) "_law_value" ["_law_deck_here","_law_world_here","_law_deep","_law_way"] (lF n))   : aE P w K mg base (6+2*n+1) "_law_dict" ["_law_deck_here","_law_world_here","_law_deep","_law_many"] (zBR n):=by
 have nd:=C39_.nd
 refine h.pgood C39_ (fun|_,_,_,_,_,_,[_,_,_,_],_=>rfl) (λf cdv A outer s H E F hr=>
   (aG (gD 4 nd (pP tX rfl B.list_ boot_list (aB (aQ hr (aA 1) aD) aC)))
   (aG (zFp (i:=5) nd rfl (.inl rfl))
   (aG (eZ (m:=8) PassesOwn.never rfl (fT rfl B.range (aB (aA 3) aC)) (dH 6 (by decide) nd rfl (.inl rfl))
    (aG (aT 7 nd (pX 4 (aI G31_ hr (aY 0 (aB (lD λF=>(bB bL rfl B.len PySem.boot_len (aB (aA 4) aC))) aC)))))
    (aH (zGA (i:=5) (zCl hr) rfl (by first|exact Or.inl rfl|exact Or.inr (Or.inl rfl)|exact Or.inr (Or.inr rfl)) (aA 7) (aI G40_ hr (aY 0 (aB (aA 1) (aB (bB (iV rfl) rfl B.max boot_max (aB aD (aB (aW eF (aW eF (aA 2) aD) (aW vA (aA 3) aD)) aC))) (aB aD aC)))))))))
   (aH (aO (aA 5))))))) (λas R q=>?_)
 obtain⟨nm,tx,st,sp,deep,many,rfl,hw,d1,dn,m0,m11,q⟩:=q
 refine⟨rfl,_,rfl,false,_,rfl,?_⟩
 refine⟨_,rfl,by omega,by omega,?_⟩
 refine jM (λi ρ=>∃(rs:List Str) (kts:List (Str×Tv)) (s1 s2:Sl),rs.length+i=11/\(∀s∈rs,s∈nm)/\kts.length<=i/\VD nm tx (n+1) (.dct kts)/\ρ=[.dk,.va (dC nm tx st sp),.va (iT deep),.va (iT many),.own (rs.map sT),.dct kts,s1,s2]) ⟨nm,[],.no,.no,hw.n11,λs h=>h,Nat.zero_le _,⟨List.nodup_nil,by decide,λkt h=>nomatch h⟩,rfl⟩ ?_ ?_
 ·rintro i T _ N hT ⟨rs,kts,s1,s2,hl,hr,hk,hv,rfl⟩ hN
  have hi:=(jK hT).1
  refine⟨⟨_,rfl⟩,rfl,_,rfl,(rs.map sT).length,rfl,by rw[List.length_map];omega,by rw[List.length_map];exact bD (by omega) (by omega),λr r0 r1=>?_⟩
  rw[List.length_map]at r1
  obtain⟨x,hx⟩:=wG r0 r1
  refine⟨r,_,sT x,rfl,rfl,r0,by rw[List.getElem?_map,hx];rfl,?_⟩
  rw[mY]
  have hxn:=hr x (List.mem_of_getElem? hx)
  refine⟨rfl,⟨by decide,bD (by decide) (by decide)⟩,.inl ⟨0,_,rfl,nm,tx,st,sp,_,9,rfl,hw,by omega,by omega,by decide,by decide,λT hT=>?_⟩⟩
  have pl:=zAg (kts:=kts) (s:=x) (T:=T)
  have el:(rs.eraseIdx r.toNat).length=rs.length-1:=by rw[List.length_eraseIdx,if_pos (by omega)]
  exact⟨⟨_,rfl⟩,kts,x,rfl,rfl,by omega,hN _ ⟨rs.eraseIdx r.toNat,eJ kts x T,_,_,by omega,λs hs=>hr s (List.mem_of_mem_eraseIdx hs),by omega,hv.put (by omega) hxn hT,rfl⟩⟩
 ·rintro _ ⟨rs,kts,s1,s2,hl,hr,hk,hv,rfl⟩
  exact q _ hv
theorem tT{α β:Type}{r:α->β->Prop}{g:β->Prop}(h:∀a b,r a b->g b):∀{l:List α}{m:List β},Paired r l m->∀b∈m,g b
 |_,_,.nil,b,hb=>nomatch hb
 |_,_,.cons r t,b,hb=>by
  rcases List.mem_cons.mp hb with rfl|hb
  ·exact h _ _ r
  ·exact tT h t b hb
theorem C40_:bC ["_law_deck_here","_law_world_here","_law_deep","_law_way","_law_many"] ["_law_deck_here","_law_world_here","_law_deep","_law_way"] (aJ oR):=fsc (by decide +kernel)
theorem zLA(h:Has K mg "_law_value" oR)(B:Own mg)(G31_:aE P w K mg base 2 "_law_take" ["_law_deck_here","_law_most"] dM)(G38_:aE P w K mg base 5 "_law_leaf" ["_law_deck_here","_law_world_here"] qT)(G40_:aE P w K mg base (6+2*n) "_law_value" ["_law_deck_here","_law_world_here","_law_deep","_law_way"] (lF n))(G39_:aE P w K mg base (6+2*n+1) "_law_dict" ["_law_deck_here","_law_world_here","_law_deep","_law_many"] (zBR n))   : aE P w K mg base (6+2*n+2) "_law_value" ["_law_deck_here","_law_world_here","_law_deep","_law_way"] (lF (n+1)):=by
 have nd:=C40_.nd
 refine h.pgood C40_ (fun|_,_,_,_,_,_,[_,_,_,_],_=>rfl) (λf cdv A outer s H E F hr=>
   (aG (aV (bP hr (aA 3) aD)
    (aH (aT 3 nd (aI G31_ hr (aY 0 (aB aD aC)))))
    aU)
   (aG (aV (cG (bV (bP hr (aA 2) aD) (cW (bY iE (aA 3) aD))))
    (aH (aO (aI G38_ hr (aY 0 (aB (aA 1) aC)))))
    aU)
   (aG (aT 4 nd (aQ hr (aX (bR (aB aD (aB aD (aB aD (aB aD (aB aD (aB aD (aB aD (aB aD aC)))))))))) (aI G31_ hr (aY 0 (aB aD aC)))))
   (aG (aV (bY iE (aA 3) aD)
    (aH (aO (aX (cK (sc:=aJ oR) (XN:=["_law_deck_here","_law_world_here","_law_deep","_law_way","_law_many"]) (N:=["_law_k","_law_deck_here","_law_world_here","_law_deep"]) (fr:=[0,1,2]) (fT rfl B.range (aB (aA 4) aC)) (λ_ _ _ _ _=>(aI G40_ hr (aY 1 (aB (aA 2) (aB (aW eF (aA 3) aD) (aB aD aC))))))))))
    aU)
   (aG (aV (bP hr (aI G31_ hr (aY 0 (aB aD aC))) aD)
    (aH (aT 4 nd (aW bO aD (aI G31_ hr (aY 0 (aB aD aC))))))
    aU)
   (aH (aO (aI G39_ hr (aY 0 (aB (aA 1) (aB (aA 2) (aB (aA 4) aC))))))))))))) (λas R q=>?_)
 obtain⟨nm,tx,st,sp,deep,way,rfl,hw,d0,d1,w0,w9,q⟩:=q
 refine⟨rfl,_,rfl,dG (λ_=>⟨rfl,9,rfl,by decide,bD (by decide) (by decide),λway w0 w9=>?_⟩) (λ_=>?_)⟩
 all_goals
  refine⟨_,rfl,dG (λ_=>aN ⟨rfl,nm,tx,st,sp,rfl,hw,λT hT=>q T (zBj hT)⟩) (λz=>⟨_,rfl,sif (λ_=>⟨rfl,nm,tx,st,sp,rfl,hw,λT hT=>q T (zBj hT)⟩) (λ_=>?_)⟩)⟩
  refine⟨by decide,rfl,8,rfl,by decide,bD (by decide) (by decide),λr r0 r1=>?_⟩
  obtain⟨M,hM,hMm⟩:=gG (l:=[iT 0,iT 1,iT 2,iT 3,iT 2,iT 1,iT 4,iT 6]) r0 r1
  have hm:∃m:Int,M=iT m/\0<=m/\m<=6:=by
   simp only[List.mem_cons,List.not_mem_nil,or_false]at hMm
   rcases hMm with e|e|e|e|e|e|e|e<;>subst e<;>exact⟨_,rfl,by decide,by decide⟩
  obtain⟨m,rfl,m0,m6⟩:=hm
  refine⟨_,hM,?_⟩
  clear hM hMm
  refine⟨_,rfl,sif (λ_=>⟨_,rfl,by omega,by omega,by rw[eQ];omega,nA (λT U=>VD nm tx n U) (λT hT R hR=>⟨rfl,nm,tx,st,sp,_,9,rfl,hw,by omega,by omega,by decide,by decide,λU hU=>hR U hU⟩) (λUs hUs=>?_)⟩) (λ_=>?_)⟩
  ·refine q _ ⟨?_,tT (g:=VD nm tx n) (λa b h=>h) hUs⟩
   have:=hUs.length
   rw[eQ]at this
   omega
  ·exact⟨rfl,6,rfl,by decide,bD (by decide) (by decide),λr r0 r1=>⟨_,rfl,sif (λ_=>⟨rfl,4,rfl,by decide,bD (by decide) (by decide),λe e0 e1=>⟨rfl,nm,tx,st,sp,deep,_,rfl,hw,by omega,by omega,by omega,by omega,λT hT=>q T hT⟩⟩) (λ_=>⟨rfl,nm,tx,st,sp,deep,_,rfl,hw,by omega,by omega,by omega,by omega,λT hT=>q T hT⟩)⟩⟩
theorem uQ(hv:Has K mg "_law_value" oR)(hd:Has K mg "_law_dict" sI)(B:Own mg)(G1:aE P w K mg base 2 "_law_take" ["_law_deck_here","_law_most"] dM)(G2:aE P w K mg base 5 "_law_leaf" ["_law_deck_here","_law_world_here"] qT):∀n:Nat,aE P w K mg base (6+2*n) "_law_value" ["_law_deck_here","_law_world_here","_law_deep","_law_way"] (lF n)
 |0=>hv.pfalse C40_ (fun|_,_,_,_,_,_,[_,_,_,_],_=>rfl) λas R ⟨_,_,_,_,_,_,_,_,h0,h1,_⟩=>by omega
 |n+1=>zLA hv B G1 G2 (uQ hv hd B G1 G2 n) (zLB hd B G1 (uQ hv hd B G1 G2 n))
end
end My
namespace My
open PySem L2 PyProof.Rows WordM
section
variable{P:Program}{w:World}{K:W.Frag}{mg:Str->Option Value}{base:Heap}
variable{n:Nat}
theorem wJ{c:Nat}{S:Str}{A B:Prop}(h1:c∈cs S->A)(h2:c∉cs S->B):if (false != inS ⟨#[c]⟩ S)=true then A else B:=by
 have:(false != inS ⟨#[c]⟩ S)=decide (c∈cs S):=by unfold inS;rw[StrLaws.found_one];simp
 rw[this]
 exact dE h1 h2
def vZ:PSp:=λas R=>∃c:Nat,as=[.va (sT ⟨#[c]⟩)]/\R (sT (eB c))
theorem C50_:bC ["_law_sign"] ["_law_sign"] (aJ wW):=fsc (by decide +kernel)
theorem zLq(h:Has K mg "_law_mark" wW)(B:Own mg)    : aE P w K mg base 1 "_law_mark" ["_law_sign"] vZ:=by
 have nd:=C50_.nd
 refine h.pgood C50_ (fun|_,_,_,_,_,_,[_],_=>rfl) (λf cdv A outer s H E F hr=>
   (aG (aV (bY (lU hr.units) (aA 0) bA rfl)
    (aH (aO bA))
    aU)
   (aG (aV (bY (lU hr.units) (aA 0) bA rfl)
    (aH (aO bA))
    aU)
   (aG (aV (bY (lU hr.units) (aA 0) bA rfl)
    (aH (aO bA))
    aU)
   (aH (aO bA)))))) (λas R q=>?_)
 obtain⟨c,rfl,q⟩:=q
 unfold eB at q
 refine⟨rfl,_,rfl,wJ (λa=>?_) (λa=>⟨_,rfl,wJ (λb=>?_) (λb=>⟨_,rfl,wJ (λd=>?_) (λd=>?_)⟩)⟩)⟩
 ·rw[if_pos (show c∈cs mG from a)]at q;exact q
 ·rw[if_neg (show c∉cs mG from a),if_pos (show c∈cs nV from b)]at q;exact q
 ·rw[if_neg (show c∉cs mG from a),if_neg (show c∉cs nV from b),if_pos (show c∈cs qP from d)]at q;exact q
 ·rw[if_neg (show c∉cs mG from a),if_neg (show c∉cs nV from b),if_neg (show c∉cs qP from d)]at q;exact q
end
section
variable{P:Program}{w:World}{K:W.Frag}{mg:Str->Option Value}{base:Heap}
def uD:PSp:=λas R=>∃a b:Int,as=[.va (iT a),.va (iT b)]/\R (iT (GcdM.g a b))
theorem C49_:bC ["_law_one","_law_other"] ["_law_one","_law_other"] (aJ wX):=fsc (by decide +kernel)
theorem zLr(h:Has K mg "_law_divisor" wX)(B:Own mg)    : aE P w K mg base 1 "_law_divisor" ["_law_one","_law_other"] uD:=by
 have nd:=C49_.nd
 refine h.pgood C49_ (fun|_,_,_,_,_,_,[_,_],_=>rfl) (λf cdv A outer s H E F hr=>
   (aG (pV PassesOwn.never (dO hr (aA 1) aD)
    (aH (zHO (i:=0) (j:=1) rfl nd rfl rfl (by decide) rfl rfl (aB (aA 1) (aB (aW zGU (aA 0) (aA 1)) aC)) (by rfl))))
   (aH (aO (bB zIq rfl B.abs boot_abs (aB (aA 0) aC)))))) (λas R q=>?_)
 obtain⟨a,b,rfl,q⟩:=q
 refine⟨rfl,λm ρ=>∃x y:Int,m=y.natAbs/\GcdM.g x y=GcdM.g a b/\ρ=[.va (iT x),.va (iT y)],⟨_,a,b,rfl,rfl,rfl⟩,?_⟩
 rintro m _ ⟨x,y,rfl,e,rfl⟩
 refine⟨_,rfl,sif (λz=>?_) (λz=>?_)⟩
 ·have hy:y≠0:=by simpa[eqV]using z
  exact⟨hy,_,_,rfl,_,GcdM.fmod_less hy,y,x.fmod y,rfl,(GcdM.g_turnF hy).trans e,rfl⟩
 ·have hy:y=0:=by simpa[eqV]using z
  subst hy
  rw[GcdM.g_abs x]at e
  refine⟨_,rfl,?_⟩
  rw[e]
  exact q
def rH:PSp:=λas R=>∃ns:List Int,as=[.va (.seq false (ns.map iT))]/\0<ns.length/\ns.length<=100000/\(∀n∈ns,kM n)/\∀lo hi st,rQ lo hi st->R (.seq true [iT lo,iT hi,iT st])
theorem zHj{a b:Int}(ha:kM a)(hb:kM b):-(2*10 ^ 60)<=a-b/\a-b<=2*10 ^ 60:=by
 obtain⟨a1,a2⟩:=ha
 obtain⟨b1,b2⟩:=hb
 omega
theorem zFB{ns:List Int}{n0 lo hi s:Int}(n0m:n0∈ns)(hn:∀n∈ns,kM n)(l1:lo∈ns)(l2:∀a∈ns,lo<=a)(h1:hi∈ns)(h2:∀a∈ns,a<=hi)(s0:0<=s)(sm:s<=2*10 ^ 60)(sd:∀a∈ns,s ∣ (a-n0))(sz:s=0↔∀a∈ns,a=n0):rQ lo hi s:=by
 obtain⟨b1,b2⟩:=hn lo l1
 obtain⟨c1,c2⟩:=hn hi h1
 refine⟨⟨by omega,by omega⟩,⟨by omega,by omega⟩,⟨by omega,by omega⟩,h2 lo l1,s0,⟨λz=>?_,λz=>?_⟩,λ_=>?_⟩
 ·rw[sz.mp z lo l1,sz.mp z hi h1]
 ·have all:∀a∈ns,a=lo:=λa ha=>by have:=l2 a ha;have:=h2 a ha;omega
  exact sz.mpr λa ha=>(all a ha).trans (all n0 n0m).symm
 ·have d1:=sd lo l1
  have d2:=sd hi h1
  have:hi-lo=(hi-n0)-(lo-n0):=by omega
  rw[this]
  exact Int.emod_eq_zero_of_dvd (Int.dvd_sub d2 d1)
theorem C52_:bC ["_law_numbers","_law_step","_law_number_here"] ["_law_numbers"] (aJ wV):=fsc (by decide +kernel)
theorem zLo(h:Has K mg "_law_run" wV)(B:Own mg)(G49_:aE P w K mg base 1 "_law_divisor" ["_law_one","_law_other"] uD)   : aE P w K mg base 2 "_law_run" ["_law_numbers"] rH:=by
 have nd:=C52_.nd
 refine h.pgood C52_ (fun|_,_,_,_,_,_,[_],_=>rfl) (λf cdv A outer s H E F hr=>
   (aG (aT 1 nd aD)
   (aG (eZ (m:=3) PassesOwn.never rfl (bG (aA 0)) (dH 2 (by decide) nd rfl (.inl rfl))
    (aH (aT 1 nd (aI G49_ hr (aB (aA 1) (aB (aW eF (aA 2) (aQ hr (aA 0) aD)) aC))))))
   (aH (aO (bM (aB (bB (hV rfl) rfl B.min boot_min (aB (aA 0) aC)) (aB (bB (iV rfl) rfl B.max boot_max (aB (aA 0) aC)) (aB (aA 1) aC))))))))) (λas R q=>?_)
 obtain⟨ns,rfl,l0,l1,hn,q⟩:=q
 obtain⟨n0,hn0⟩:∃n0,ns[0]?=some n0:=⟨_,List.getElem?_eq_getElem l0⟩
 have n0m:=List.mem_of_getElem? hn0
 have at0:atI (ns.map iT) 0=some (iT n0):=cM (j:=0) (by rw[List.getElem?_map,hn0];rfl)
 refine⟨rfl,?_⟩
 refine jS iT (l:=ns) (λi ρ=>∃(s:Int) (s2:Sl),0<=s/\s<=2*10 ^ 60/\(∀j a,j<i->ns[j]?=some a->s ∣ (a-n0))/\(s=0↔∀j a,j<i->ns[j]?=some a->a=n0)/\ρ=[.va (.seq false (ns.map iT)),.va (iT s),s2]) ⟨0,_,Int.le_refl _,by decide,λj a h=>absurd h (Nat.not_lt_zero _),⟨λ_ j a h=>absurd h (Nat.not_lt_zero _),λ_=>rfl⟩,rfl⟩ ?_ ?_
 ·rintro i a _ N ha ⟨s,s2,s0,sm,sd,sz,rfl⟩ hN
  have hs:=zHj (hn a (List.mem_of_getElem? ha)) (hn n0 n0m)
  refine⟨_,at0,s,a-n0,rfl,hN _ ⟨GcdM.g s (a-n0),_,GcdM.g_nonneg _ _,zLe s0 sm hs.1 hs.2,λj b hj hb=>?_,⟨λz j b hj hb=>?_,λz=>?_⟩,rfl⟩⟩
  ·have d:=GcdM.g_dvd.mp (Int.dvd_refl (GcdM.g s (a-n0)))
   rcases Nat.lt_or_ge j i with c|c
   ·exact Int.dvd_trans d.1 (sd j b c hb)
   ·have:j=i:=by omega
    subst this
    rw[ha]at hb;cases hb
    exact d.2
  ·have d:=GcdM.g_dvd.mp (Int.dvd_refl (GcdM.g s (a-n0)))
   rw[z]at d
   have z1:s=0:=Int.zero_dvd.mp d.1
   have z2:a-n0=0:=Int.zero_dvd.mp d.2
   rcases Nat.lt_or_ge j i with c|c
   ·exact sz.mp z1 j b c hb
   ·have:j=i:=by omega
    subst this
    rw[ha]at hb;cases hb
    omega
  ·have z1:s=0:=sz.mpr λj b hj hb=>z j b (by omega) hb
   have z2:=z i a (by omega) ha
   rw[z1,z2,Int.sub_self]
   rfl
 ·rintro _ ⟨s,s2,s0,sm,sd,sz,rfl⟩
  have ix:∀a∈ns,∃j,j<ns.length/\ns[j]?=some a:=λa ha=>by
   obtain⟨j,hj,rfl⟩:=List.mem_iff_getElem.mp ha
   exact⟨j,hj,List.getElem?_eq_getElem hj⟩
  refine .inr (.inl ⟨ns,rfl,l0,λlo lo1 lo2=>.inr (.inl ⟨ns,rfl,l0,λhi hi1 hi2=>⟨by simp,q lo hi s ?_⟩⟩)⟩)
  refine zFB n0m hn lo1 lo2 hi1 hi2 s0 sm (λa ha=>?_) ⟨λz a ha=>?_,λz=>?_⟩
  ·obtain⟨j,hj,e⟩:=ix a ha;exact sd j a hj e
  ·obtain⟨j,hj,e⟩:=ix a ha;exact sz.mp z j a hj e
  ·exact sz.mpr λj a hj e=>z a (List.mem_of_getElem? e)
theorem tQ{t h:Str}(e:stW t h=true):cs t=cs h++cs (cQ t h)/\(cQ t h).length+h.length=t.length:=by
 obtain⟨r,er⟩:=stW_iff.mp e
 have:=zFE er
 refine⟨by rw[this];exact er,?_⟩
 have l:=congrArg List.length er
 rw[List.length_append,<-WordM.len,<-WordM.len]at l
 rw[WordM.len (cQ t h),this]
 omega
theorem zDQ{us:List Str}{h:Str}(nd:us.Nodup)(l:2<=us.length)(hs:∀t∈us,stW t h=true):∃t∈us,0<(cQ t h).length:=by
 refine Classical.byContradiction λz=>?_
 have all:∀t∈us,t=h:=λt ht=>by
  have f:=tQ (hs t ht)
  have:(cQ t h).length=0:=Nat.eq_zero_of_not_pos λp=>z ⟨t,ht,p⟩
  rw[WordM.len]at this
  rw[List.eq_nil_of_length_eq_zero this,List.append_nil]at f
  exact jN f.1
 have:=WordM.nodup_len nd (m:=[h]) λt ht=>by rw[all t ht];exact .head _
 simp at this
 omega
theorem zBu:∀{ss:List Str}{m:Nat},(∀s∈ss,s.length<=m)->(bH ss).length<=ss.length*m
 |[],m,_=>by simp[bH]
 |s::ss,m,h=>by
  have h1:=h s (.head _)
  have h2:=zBu (ss:=ss) (m:=m) λt ht=>h t (.tail _ ht)
  have e:(bH (s::ss)).length=s.length+(bH ss).length:=by simp[bH,Str.length]
  rw[e,List.length_cons,Nat.succ_mul]
  omega
theorem zBt{ss:List Str}{s:Str}{c:Nat}(hs:s∈ss)(hc:c∈cs s):c∈bH ss:=by
 unfold bH
 exact List.mem_flatMap.mpr ⟨s,hs,hc⟩
def nL:PSp:=λas R=>∃ss:List Str,as=[.va (.seq false (ss.map sT))]/\ss≠[]/\(∀s∈ss,Sg s/\s.length<=43)/\(bN ss).length<64/\∀w,kJ w->(6<(bN ss).length->zB1 w=true)->((bN ss).length<=11->∀k:Int,k<=(bN ss).length->Mny w k)->R (gX w)
theorem C51_:bC ["_law_texts","_law_some","_law_head","_law_rests","_law_longs","_law_marks"] ["_law_texts"] (aJ kE):=fsc (by decide +kernel)
theorem zLp(h:Has K mg "_law_words" kE)(B:Own mg)(G50_:aE P w K mg base 1 "_law_mark" ["_law_sign"] vZ)   : aE P w K mg base 2 "_law_words" ["_law_texts"] nL:=by
 have nd:=C51_.nd
 refine h.pgood C51_ (fun|_,_,_,_,_,_,[_],_=>rfl) (λf cdv A outer s H E F hr=>
   (aG (aT 1 nd (aX (tM rfl rfl B.sorted rfl B.set_ (aA 0))))
   (aG (aV (bY iE (bB bL rfl B.len PySem.boot_len (aB (aA 1) aC)) aD)
    (aH (aO (bM (aB bA (aB (gI hC rfl B.tuple_ boot_tuple (aB (aA 1) aC)) aC)))))
    aU)
   (aG (aT 2 nd (aQ hr (aA 1) aD))
   (aG (pV PassesOwn.never (dO hr (aX (lT (sc:=aJ kE) (XN:=["_law_texts","_law_some","_law_head","_law_rests","_law_longs","_law_marks"]) (N:=["_law_text_here","_law_head"]) (fr:=[2]) (bG (aA 1)) (λ_ _ _ _ _=>(fJ (cI (bI (qN PySem.F.slot_str_startswith PySem.F.type_str_startswith zEI (aA 0) (aB (aA 1) aC)))))) (λ_ _ _ _ _=>(aA 0)))) (aX (bR aC)))
    (aH (aT 2 nd (nD oJ (aA 2) nH (nG (zB9 zBO aD))))))
   (aG (fM (sc:=aJ kE) (XN:=["_law_texts","_law_some","_law_head","_law_rests","_law_longs","_law_marks"]) (N:=["_law_text_here","_law_head"]) (fr:=[2]) 3 nd (bG (aA 1)) (λ_ _ _ _ _=>hJ) (λ_ _ _ _ _=>(nD oJ (aA 0) (nG (bB bL rfl B.len PySem.boot_len (aB (aA 1) aC))) nH)))
   (aG (fM (sc:=aJ kE) (XN:=["_law_texts","_law_some","_law_head","_law_rests","_law_longs","_law_marks"]) (N:=["_law_rest"]) (fr:=[]) 4 nd (bG (aA 3)) (λ_ _ _ _ _=>hJ) (λ_ _ _ _ _=>(bB bL rfl B.len PySem.boot_len (aB (aA 0) aC))))
   (aG (aT 5 nd (aX (tM rfl rfl B.sorted rfl B.set_ (aX (cK (sc:=aJ kE) (XN:=["_law_texts","_law_some","_law_head","_law_rests","_law_longs","_law_marks"]) (N:=["_law_sign"]) (fr:=[]) (bG (qN PySem.F.slot_str_join PySem.F.type_str_join zBa bA (aB (aA 3) aC))) (λ_ _ _ _ _=>(aI G50_ hr (aB (aA 0) aC))))))))
   (aH (aO (bM (aB bA (aB (aA 2) (aB (bB (hV rfl) rfl B.min boot_min (aB (aA 4) aC)) (aB (bB (iV rfl) rfl B.max boot_max (aB (aA 4) aC)) (aB (gI hC rfl B.tuple_ boot_tuple (aB (aA 5) aC)) aC)))))))))))))))) (λas R q=>?_)
 obtain⟨ss,rfl,ne,ht,l64,q⟩:=q
 have hl:(cO (bN ss)).length=(bN ss).length:=mV _
 have hr:=tJ ss
 have hm:∀x,x∈cO (bN ss)↔x∈ss:=λx=>sort_set_mem
 have hne:0<(bN ss).length:=by
  obtain⟨x,hx⟩:=List.exists_mem_of_ne_nil _ ne
  exact List.length_pos_of_mem ((jJ ss x).mpr hx)
 refine⟨rfl,ss,rfl,l64,?_⟩
 generalize cO (bN ss)=us at hl hr hm
 have hu:∀t∈us,Sg t/\t.length<=43:=λt h=>ht t ((hm t).mp h)
 refine⟨_,rfl,sif (λz=>?_) (λz=>?_)⟩
 ·have z:((us.map sT).length:Int)<7:=by simpa using z
  rw[List.length_map]at z
  refine⟨_,_,rfl,by simp,q (.few us) ⟨by omega,by omega,hr,λt h=>⟨(hu t h).1,by have:=(hu t h).2;omega⟩⟩ (λh=>by omega) λ_ _ _=>trivial⟩
 have z:¬ ((us.map sT).length:Int)<7:=by simpa using z
 rw[List.length_map]at z
 have nd:us.Nodup:=tP hr
 obtain⟨x0,hx0⟩:∃x0,us[0]?=some x0:=⟨_,List.getElem?_eq_getElem (by omega)⟩
 have at0:atI (us.map sT) 0=some (sT x0):=cM (j:=0) (by rw[List.getElem?_map,hx0];rfl)
 have x0m:=List.mem_of_getElem? hx0
 refine⟨_,at0,?_⟩
 refine⟨λm ρ=>∃(h:Str) (s3 s4 s5:Sl),m=h.length/\Sg h/\h.length<=43/\ρ=[.va (.seq false (ss.map sT)),.va (.seq false (us.map sT)),.va (sT h),s3,s4,s5],⟨_,x0,_,_,_,rfl,(hu x0 x0m).1,(hu x0 x0m).2,rfl⟩,?_⟩
 rintro m _ ⟨h,s3,s4,s5,rfl,sh,lh,rfl⟩
 refine⟨by rw[List.length_map];omega,?_⟩
 refine iQ sT (λt=>if stW t h=true then none else some (sT t)) (λt ht' R q=>⟨rfl,_,_,rfl,rfl,_,rfl,sif (λz=>?_) (λz=>?_)⟩) ?_
 ·have z:(!stW t h)=true:=z
  have z:stW t h=false:=by cases e:stW t h with|false=>rfl|true=>rw[e]at z;cases z
  rw[if_neg (by rw[z];exact Bool.false_ne_true)]at q
  exact q
 ·have z:(!stW t h)=false:=z
  have z:stW t h=true:=by cases e:stW t h with|true=>rfl|false=>rw[e]at z;cases z
  rw[if_pos z]at q
  exact q
 refine⟨by simp,.inr (.inl rfl),_,rfl,sif (λz=>?_) (λz=>?_)⟩
 ·have hpos:0<h.length:=by
   refine Nat.pos_of_ne_zero λe=>?_
   have:(us.filterMap λt=>if stW t h=true then none else some (sT t))=[]:=List.filterMap_eq_nil_iff.mpr λt _=>by
    rw[if_pos]
    refine stW_iff.mpr ⟨cs t,?_⟩
    rw[WordM.len]at e
    rw[List.eq_nil_of_length_eq_zero e];rfl
   rw[this]at z
   simp[cC]at z
  have l':=zC4 hpos
  exact⟨_,rfl,by omega,_,by rw[l'];omega,Txt.slice h none (some (-1)),_,_,_,rfl,sh.slice _ _,by rw[l'];omega,rfl⟩
 have hall:∀t∈us,stW t h=true:=by
  have:(us.filterMap λt=>if stW t h=true then none else some (sT t))=[]:=by
   generalize (us.filterMap λt=>if stW t h=true then none else some (sT t))=L at z
   cases L with
   |nil=>rfl
   |cons a L=>simp[cC]at z
  intro t ht'
  have:=List.filterMap_eq_nil_iff.mp this t ht'
  cases e:stW t h with
  |true=>rfl
  |false=>rw[e]at this;simp at this
 have rl:∀t∈us,(cQ t h).length<=43:=λt ht'=>by
  have:=(tQ (hall t ht')).2
  have:=(hu t ht').2
  omega
 refine⟨by rw[List.length_map];omega,dB sT (λt=>sT (cQ t h)) (λt ht' R q=>⟨by omega,_,rfl,by have:=(hu t ht').2;omega,q⟩) ?_⟩
 refine⟨by rw[List.length_map];omega,dB (λt=>sT (cQ t h)) (λt=>iT ((cQ t h).length:Nat)) (λt ht' R q=>⟨by have:=rl t ht';omega,q⟩) ?_⟩
 have cl:(bH (us.map λt=>cQ t h)).length<=64*43:=by
  have:=zBu (ss:=us.map λt=>cQ t h) (m:=43) λs hs=>by
   obtain⟨t,ht',rfl⟩:=List.mem_map.mp hs
   exact rl t ht'
  rw[List.length_map]at this
  have:=Nat.mul_le_mul_right 43 (show us.length<=64 by omega)
  omega
 refine⟨rfl,us.map λt=>cQ t h,rfl,by rw[List.map_map];rfl,by omega,?_⟩
 refine⟨by rw[List.length_map];show(bH (us.map λt=>cQ t h)).length<=100000;omega,?_⟩
 refine dB (λc:Nat=>sT ⟨#[c]⟩) (λc=>sT (eB c)) (λc hc R q=>⟨c,rfl,q⟩) ?_
 have mkm:∀m∈(bH (us.map λt=>cQ t h)).map eB,m∈MK:=λm hm=>by
  obtain⟨c,_,rfl⟩:=List.mem_map.mp hm
  exact WordM.mark_in c
 have sl4:(bN ((bH (us.map λt=>cQ t h)).map eB)).length<=4:=WordM.nodup_len (nI _) (m:=MK) λx hx=>mkm x ((jJ _ x).mp hx)
 refine⟨(bH (us.map λt=>cQ t h)).map eB,by rw[List.map_map];rfl,by omega,?_⟩
 obtain⟨tt,ttm,ttp⟩:=zDQ nd (by omega) hall
 have en:(us.map λt=>iT ((cQ t h).length:Nat))=(us.map λt=>(((cQ t h).length:Nat):Int)).map iT:=by rw[List.map_map];rfl
 refine .inr (.inl ⟨us.map λt=>(((cQ t h).length:Nat):Int),by rw[<-en],by rw[List.length_map];omega,λlo lo1 lo2=>.inr (.inl ⟨us.map λt=>(((cQ t h).length:Nat):Int),by rw[<-en],by rw[List.length_map];omega,λhi hi1 hi2=>⟨_,_,rfl,by simp,?_⟩⟩)⟩)
 obtain⟨t1,t1m,e1⟩:=List.mem_map.mp lo1
 obtain⟨t2,t2m,e2⟩:=List.mem_map.mp hi1
 have b1:=hi2 _ (List.mem_map.mpr ⟨tt,ttm,rfl⟩)
 have b2:=rl t2 t2m
 have b3:=hi2 lo lo1
 have msne:cO (bN ((bH (us.map λt=>cQ t h)).map eB))≠[]:=λe=>by
  rw[WordM.len]at ttp
  obtain⟨c,hc⟩:=List.exists_mem_of_length_pos ttp
  have:eB c∈cO (bN ((bH (us.map λt=>cQ t h)).map eB)):=sort_set_mem.mpr (List.mem_map.mpr ⟨c,zBt (List.mem_map.mpr ⟨tt,ttm,rfl⟩) hc,rfl⟩)
  rw[e]at this
  cases this
 have msm:∀x∈cO (bN ((bH (us.map λt=>cQ t h)).map eB)),x∈MK:=λx hx=>mkm x (sort_set_mem.mp hx)
 refine q (.make h lo hi (cO (bN ((bH (us.map λt=>cQ t h)).map eB)))) ⟨⟨sh,by omega⟩,by omega,b3,by omega,by omega,uK (tJ _) mk_rise msm,msne⟩ (λ_=>rfl) λh11 k hk=>?_
 ·refine zHm nd (λt ht'=>(hu t ht').1) (λt ht'=>⟨cs (cQ t h),(tQ (hall t ht')).1,?_,?_,λc hc=>sort_set_mem.mpr (List.mem_map.mpr ⟨c,zBt (List.mem_map.mpr ⟨t,ht',rfl⟩) hc,rfl⟩)⟩) msne msm (by omega) (by omega) b3 (by omega) (by omega)
  ·rw[<-WordM.len];exact lo2 _ (List.mem_map.mpr ⟨t,ht',rfl⟩)
  ·rw[<-WordM.len];exact hi2 _ (List.mem_map.mpr ⟨t,ht',rfl⟩)
end
end My
namespace My
open PySem L2 PyProof.Rows WordM
section
variable{P:Program}{w:World}{K:W.Frag}{mg:Str->Option Value}{base:Heap}
abbrev dJ(k:List (Str×Tv)):List Str:=k.map (·.1)
def dQ(ks:List (List (Str×Tv))):List Str:=ks.flatMap dJ
theorem allK_mem{ks:List (List (Str×Tv))}{x:Str}:x∈dQ ks↔∃k∈ks,x∈dJ k:=List.mem_flatMap
theorem zGN{n:Nat}{ks:List (List (Str×Tv))}{fs:List (Str×Bool×List Pt)}{names:List Str}{a b:Int}(kne:ks≠[])(knd:∀k∈ks,(dJ k).Nodup)
  (hn:fs.map (·.1)=names) (hr:gF names) (hm:∀x,x∈names↔∃k∈ks,x∈dJ k) (l8:names.length<=8) (tx:∀x∈names,kK x)
  (hf:∀x∈fs,(x.2.1=true↔∀k∈ks,x.1∈dJ k)/\x.2.2≠[]/\dI n x.2.2)
  (a1:∃k∈ks,(k.length:Int)=a) (a2:∀k∈ks,a<=(k.length:Int)) (b1:∃k∈ks,(k.length:Int)=b) (b2:∀k∈ks,(k.length:Int)<=b):dN (n+1) (.record a b fs):=by
 have nd:names.Nodup:=tP hr
 have fl:fs.length=names.length:=by rw[<-hn,List.length_map]
 have klen:∀k:List (Str×Tv),(dJ k).length=k.length:=λk=>List.length_map ..
 obtain⟨ka,kam,ea⟩:=a1
 obtain⟨kb,kbm,eb⟩:=b1
 have mn:((fs.filter λx=>x.2.1).map (·.1)).Nodup:=by
  have:(fs.map (·.1)).Nodup:=by rw[hn];exact nd
  exact this.sublist (List.filter_sublist.map _)
 have ml:∀k∈ks,fU fs<=k.length:=λk hk=>by
  have:=WordM.nodup_len mn (m:=dJ k) λx hx=>by
   obtain⟨y,hy,rfl⟩:=List.mem_map.mp hx
   have hy:=List.mem_filter.mp hy
   exact(hf y hy.1).1.mp hy.2 k hk
  rw[List.length_map,klen]at this
  exact this
 have kn:∀k∈ks,k.length<=names.length:=λk hk=>by
  have:=WordM.nodup_len (knd k hk) (m:=names) λx hx=>(hm x).mpr ⟨k,hk,hx⟩
  rw[klen]at this
  exact this
 have mla:=ml ka kam
 have knb:=kn kb kbm
 refine⟨by omega,by have:=a2 kb kbm;omega,by omega,by rw[hn];exact hr,λx hx=>⟨tx x.1 (by rw[<-hn];exact List.mem_map.mpr ⟨x,hx,rfl⟩),(hf x hx).2.1,(hf x hx).2.2.1,(hf x hx).2.2.2⟩,by omega,by omega,λz=>?_⟩
 have:∃x∈fs,x.2.1=false:=by
  refine Classical.byContradiction λw=>?_
  have:fs.filter (λx=>x.2.1)=fs:=List.filter_eq_self.mpr λx hx=>by
   cases e:x.2.1 with
   |true=>rfl
   |false=>exact absurd ⟨x,hx,e⟩ w
  unfold fU at z
  rw[this]at z
  omega
 obtain⟨x,hx,ex⟩:=this
 have nx:¬ ∀k∈ks,x.1∈dJ k:=λw=>by rw[(hf x hx).1.mpr w]at ex;cases ex
 have xn:x.1∈names:=by rw[<-hn];exact List.mem_map.mpr ⟨x,hx,rfl⟩
 obtain⟨k1,k1m,hk1⟩:∃k∈ks,x.1∉dJ k:=Classical.byContradiction λw=>nx λk hk=>Classical.byContradiction λu=>w ⟨k,hk,u⟩
 obtain⟨k2,k2m,hk2⟩:=(hm x.1).mp xn
 have c1:=WordM.nodup_len (l:=x.1::dJ k1) (m:=names) (List.nodup_cons.mpr ⟨hk1,knd k1 k1m⟩) λy hy=>by
  rcases List.mem_cons.mp hy with e|e
  ·rw[e];exact xn
  ·exact(hm y).mpr ⟨k1,k1m,e⟩
 have c2:=WordM.nodup_len (l:=x.1::(fs.filter λx=>x.2.1).map (·.1)) (m:=dJ k2) (List.nodup_cons.mpr ⟨λw=>by
  obtain⟨y,hy,e⟩:=List.mem_map.mp w
  have hy:=List.mem_filter.mp hy
  exact nx λk hk=>by rw[<-e];exact(hf y hy.1).1.mp hy.2 k hk,mn⟩) λy hy=>by
  rcases List.mem_cons.mp hy with e|e
  ·rw[e];exact hk2
  ·obtain⟨v,hv,rfl⟩:=List.mem_map.mp e
   have hv:=List.mem_filter.mp hv
   exact(hf v hv.1).1.mp hv.2 k2 k2m
 rw[List.length_cons,klen]at c1
 rw[List.length_cons,List.length_map,klen]at c2
 have:=a2 k1 k1m
 have:=b2 k2 k2m
 refine⟨by omega,?_⟩
 show((fs.filter λx=>x.2.1).length:Int)<b
 omega
theorem zHx{a b:Nat}:(false != eqV (.int (a:Nat)) (.int (b:Nat)))=true↔a=b:=by
 constructor
 ·intro z
  have:(a:Int)=(b:Int):=by simpa[eqV]using z
  omega
 ·intro e
  subst e
  simp[eqV]
theorem zB4{α β:Type}{g:α->Option β}:∀{ks:List α},(ks.filterMap g).length=ks.length↔∀k∈ks,(g k).isSome=true
 |[]=>by simp
 |k::ks=>by
  have ih:=zB4 (g:=g) (ks:=ks)
  have le:=List.length_filterMap_le g ks
  rw[List.filterMap_cons]
  cases e:g k with
  |none=>
   simp only[List.length_cons,List.forall_mem_cons,e]
   constructor
   ·intro h;omega
   ·intro h;exact absurd h.1 (by simp)
  |some v=>
   simp only[List.length_cons,List.forall_mem_cons,e,Option.isSome_some,true_and]
   rw[<-ih];omega
theorem look_some{k:List (Str×Tv)}{x:Str}:(cU k x).isSome=true↔x∈dJ k:=by
 cases e:cU k x with
 |none=>exact⟨λh=>(nomatch h),λh=>absurd h (lookD_none.mp e)⟩
 |some U=>exact⟨λ_=>List.mem_map.mpr ⟨_,uF e,rfl⟩,λ_=>rfl⟩
theorem zAH{ks:List (List (Str×Tv))}(h:∀k∈ks,k.length<=11)(i:Nat):(dQ (ks.take i)).length<=ks.length*11:=by
 have h1:∀l:List (List (Str×Tv)),(∀k∈l,k.length<=11)->(dQ l).length<=l.length*11:=λl=>by
  induction l with
  |nil=>intro _;simp[dQ]
  |cons k l ih=>
   intro hk
   have a:=hk k (.head _)
   have b:=ih λx hx=>hk x (.tail _ hx)
   show(dJ k++dQ l).length<=_
   rw[List.length_append,List.length_map,List.length_cons]
   omega
 have:=h1 (ks.take i) λk hk=>h k (List.mem_of_mem_take hk)
 rw[List.length_take]at this
 have:min i ks.length*11<=ks.length*11:=Nat.mul_le_mul_right _ (Nat.min_le_right _ _)
 omega
def gS(ks:List (List (Str×Tv))):List Tv:=ks.flatMap λk=>k.map (·.2)
theorem zD{ks:List (List (Str×Tv))}(h:∀k∈ks,k.length<=11)(i:Nat):(gS (ks.take i)).length<=ks.length*11:=by
 have e:∀l:List (List (Str×Tv)),(gS l).length=(dQ l).length:=λl=>by
  induction l with
  |nil=>rfl
  |cons k l ih=>
   show(k.map (·.2)++gS l).length=(dJ k++dQ l).length
   rw[List.length_append,List.length_append,ih,List.length_map,List.length_map]
 rw[e];exact zAH h i
theorem zAc{ks:List (List (Str×Tv))}{i:Nat}{k:List (Str×Tv)}(h:ks[i]?=some k):dQ (ks.take (i+1))=dQ (ks.take i)++dJ k:=by
 obtain⟨hi,rfl⟩:=List.getElem?_eq_some_iff.mp h
 unfold dQ
 rw[List.take_succ_eq_append_getElem hi,List.flatMap_append]
 simp
theorem yO{ks:List (List (Str×Tv))}{i:Nat}{k:List (Str×Tv)}(h:ks[i]?=some k):gS (ks.take (i+1))=gS (ks.take i)++k.map (·.2):=by
 obtain⟨hi,rfl⟩:=List.getElem?_eq_some_iff.mp h
 unfold gS
 rw[List.take_succ_eq_append_getElem hi,List.flatMap_append]
 simp
def lV(m:Nat):PSp:=λas R=>∃(n:Nat) (nm tx:List Str) (st sp:Int) (vs:List Tv),as=[.va (.seq false vs)]/\eY nm tx st sp/\(∀v∈vs,VD nm tx n v)/\vs.length*11 ^ n<=100000/\n<m/\n<=50/\∀f,dI n f->(vs≠[]->f≠[])->(vs=[]->f=[])->R (bQ f)
def zA4(m:Nat):PSp:=λas R=>∃(n:Nat) (nm tx:List Str) (st sp:Int) (ks:List (List (Str×Tv))),as=[.va (.seq false (ks.map Tv.dct))]/\eY nm tx st sp/\(∀k∈ks,VD nm tx (n+1) (.dct k))/\ks≠[]/\ks.length*11 ^ (n+1)<=100000/\n<m/\n<=50/\∀p,dN (n+1) p->bZ p=5->R (aZ p)
variable{m:Nat}
theorem C53_:bC ["_law_dicts_here","_law_names","_law_one","_law_least","_law_most","_law_values","_law_fields","_law_name"] ["_law_dicts_here"] (aJ kD):=fsc (by decide +kernel)
theorem zLn(h:Has K mg "_law_dicts" kD)(B:Own mg)(G54_:aE P w K mg base (3+2*m) "_law_due" ["_law_values"] (lV m))(G51_:aE P w K mg base 2 "_law_words" ["_law_texts"] nL)   : aE P w K mg base (3+2*m+1) "_law_dicts" ["_law_dicts_here"] (zA4 m):=by
 have nd:=C53_.nd
 refine h.pgood C53_ (fun|_,_,_,_,_,_,[_],_=>rfl) (λf cdv A outer s H E F hr=>
   (aG (gD 1 nd (bR aC))
   (aG (eZ (m:=8) PassesOwn.never rfl (bG (aA 0)) (dH 2 (by decide) nd rfl (.inl rfl))
    (aH (fH (tV 1 (aX (pP (zFK rfl) rfl B.list_ boot_list (aB (aA 2) aC)))))))
   (aG (gD 1 nd (tM rfl rfl B.sorted rfl B.set_ (aA 1)))
   (aG (aT 3 nd (bB (hV rfl) rfl B.min boot_min (aB (aX (cK (sc:=aJ kD) (XN:=["_law_dicts_here","_law_names","_law_one","_law_least","_law_most","_law_values","_law_fields","_law_name"]) (N:=["_law_one"]) (fr:=[]) (bG (aA 0)) (λ_ _ _ _ _=>(bB bL rfl B.len PySem.boot_len (aB (aA 0) aC))))) aC)))
   (aG (aT 4 nd (bB (iV rfl) rfl B.max boot_max (aB (aX (cK (sc:=aJ kD) (XN:=["_law_dicts_here","_law_names","_law_one","_law_least","_law_most","_law_values","_law_fields","_law_name"]) (N:=["_law_one"]) (fr:=[]) (bG (aA 0)) (λ_ _ _ _ _=>(bB bL rfl B.len PySem.boot_len (aB (aA 0) aC))))) aC)))
   (aG (aV (bY rF (lD λF=>(bB bL rfl B.len PySem.boot_len (aB (aA 1) aC))) aD)
    (aG (gD 5 nd (bR aC))
    (aG (eZ (m:=8) PassesOwn.never rfl (bG (aA 0)) (dH 2 (by decide) nd rfl (.inl rfl))
     (aH (fH (tV 5 (aX (zFq rfl rfl B.list_ (aA 2)))))))
    (aH (aO (bM (aB bA (aB (aA 3) (aB (aA 4) (aB (aI G51_ hr (aB (aA 1) aC)) (aB (aI G54_ hr (aB (aA 5) aC)) aC))))))))))
    aU)
   (aG (gD 6 nd (bR aC))
   (aG (eZ (m:=8) PassesOwn.never rfl (bG (aA 1)) (dH 7 (by decide) nd rfl (.inr rfl))
    (aG (zGy (i:=5) (sc:=aJ kD) (XN:=["_law_dicts_here","_law_names","_law_one","_law_least","_law_most","_law_values","_law_fields","_law_name"]) (N:=["_law_one","_law_name"]) (own:=1) (fr:=[7]) rfl nd rfl (.inl rfl) ⟨rfl,by decide +kernel,by decide +kernel,by decide +kernel,rfl,by decide +kernel,by decide,by decide +kernel⟩ (by decide) (bG (aA 0)) (λ_ _ _ _ _=>(dH 0 (by decide) (show(["_law_one","_law_name"]:List Str).Nodup by decide +kernel) rfl (by first|exact Or.inl rfl|exact Or.inr rfl))) (λ_ _ _ _ _=>(fJ (bY (lU hr.units) (aA 1) (aA 0) rfl))) (λ_ _ _ _ _=>(aQ hr (aA 0) (aA 1))))
    (aH (fH (iO 6 (bM (aB (aA 7) (aB (cE (eN hr.units).op (lD λF=>(bB bL rfl B.len PySem.boot_len (aB (aA 5) aC))) (bB bL rfl B.len PySem.boot_len (aB (aA 0) aC))) (aB (aI G54_ hr (aB (aA 5) aC)) aC)))))))))
   (aH (aO (bM (aB bA (aB (aA 3) (aB (aA 4) (aB (gI hC rfl B.tuple_ boot_tuple (aB (aA 6) aC)) aC)))))))))))))))) (λas R q=>?_)
 obtain⟨n,nm,tx,st,sp,ks,rfl,hw,hk,kne,hl,nm',n50,q⟩:=q
 have knd:∀k∈ks,(dJ k).Nodup:=λk h=>(hk k h).1
 have k11:∀k∈ks,k.length<=11:=λk h=>(hk k h).2.1
 have knm:∀k∈ks,∀x∈dJ k,x∈nm:=λk h x hx=>by
  obtain⟨kt,hkt,rfl⟩:=List.mem_map.mp hx
  exact((hk k h).2.2 kt hkt).1
 have p1:1<=11 ^ n:=Nat.one_le_pow _ _ (by decide)
 have hl2:ks.length*11*11 ^ n<=100000:=by rw[Nat.pow_succ]at hl;rw[Nat.mul_assoc,Nat.mul_comm 11];exact hl
 have hl3:ks.length*11<=100000:=Nat.le_trans (Nat.le_mul_of_pos_right _ p1) hl2
 have kpos:0<ks.length:=List.length_pos_iff.mpr kne
 refine⟨rfl,by simp,?_⟩
 refine jS Tv.dct (l:=ks) (λi ρ=>∃s2,ρ=[.va (.seq false (ks.map Tv.dct)),.own ((dQ (ks.take i)).map sT),s2,.no,.no,.no,.no,.no]) ⟨_,rfl⟩ ?_ ?_
 ·rintro i k _ N hki ⟨s2,rfl⟩ hN
  have l1:=zAH k11 (i+1)
  rw[zAc hki,List.length_append,List.length_map]at l1
  refine⟨⟨_,rfl⟩,k,rfl,_,_,rfl,rfl,by rw[List.length_map,List.length_map];omega,hN _ ⟨.va (.dct k),?_⟩⟩
  show [Sl.va (.seq false (ks.map Tv.dct)),.own ((dQ (ks.take i)).map sT++k.map λkt=>sT kt.1),.va (.dct k),.no,.no,.no,.no,.no]=_
  rw[zAc hki,List.map_append,List.map_map]
  rfl
 rintro _ ⟨s2,rfl⟩
 rw[List.take_length]
 have sl:(bN (dQ ks)).length<=11:=by
  have:=WordM.nodup_len (nI (dQ ks)) (m:=nm) λx hx=>by
   obtain⟨k,h1,h2⟩:=allK_mem.mp ((jJ _ x).mp hx)
   exact knm k h1 x h2
  rw[hw.n11]at this
  exact this
 refine⟨dQ ks,rfl,by omega,?_⟩
 have hr:=tJ (dQ ks)
 have hm:∀x,x∈cO (bN (dQ ks))↔∃k∈ks,x∈dJ k:=λx=>sort_set_mem.trans allK_mem
 have nl:(cO (bN (dQ ks))).length<=11:=by rw[mV];exact sl
 generalize cO (bN (dQ ks))=names at hr hm nl
 have nn:∀x∈names,Sg x/\x.length<=40:=λx hx=>by
  obtain⟨k,h1,h2⟩:=(hm x).mp hx
  exact hw.ns x (knm k h1 x h2)
 have lens:(ks.map λk=>iT (k.length:Nat))=(ks.map λk=>((k.length:Nat):Int)).map iT:=by rw[List.map_map];rfl
 refine⟨by rw[List.length_map];omega,dB Tv.dct (λk=>iT (k.length:Nat)) (λk hk R q=>q) ?_⟩
 refine .inr (.inl ⟨ks.map λk=>((k.length:Nat):Int),by rw[lens],by rw[List.length_map];exact kpos,λa a1 a2=>?_⟩)
 refine⟨by rw[List.length_map];omega,dB Tv.dct (λk=>iT (k.length:Nat)) (λk hk R q=>q) ?_⟩
 refine .inr (.inl ⟨ks.map λk=>((k.length:Nat):Int),by rw[lens],by rw[List.length_map];exact kpos,λb b1 b2=>?_⟩)
 obtain⟨ka,kam,ea⟩:=List.mem_map.mp a1
 obtain⟨kb,kbm,eb⟩:=List.mem_map.mp b1
 have a2':∀k∈ks,a<=(k.length:Int):=λk h=>a2 _ (List.mem_map.mpr ⟨k,h,rfl⟩)
 have b2':∀k∈ks,(k.length:Int)<=b:=λk h=>b2 _ (List.mem_map.mpr ⟨k,h,rfl⟩)
 refine⟨_,rfl,_,rfl,sif (λz=>?_) (λz=>?_)⟩
 ·have z:(8:Int)<((names.map sT).length:Nat):=by simpa using z
  rw[List.length_map]at z
  refine⟨by simp,?_⟩
  refine jS Tv.dct (l:=ks) (λi ρ=>∃s2,ρ=[.va (.seq false (ks.map Tv.dct)),.own (names.map sT),s2,.va (iT a),.va (iT b),.own (gS (ks.take i)),.no,.no]) ⟨_,rfl⟩ ?_ ?_
  ·rintro i k _ N hki ⟨s2,rfl⟩ hN
   have l1:=zD k11 (i+1)
   rw[yO hki,List.length_append,List.length_map]at l1
   refine⟨⟨_,rfl⟩,k,rfl,_,_,rfl,rfl,by rw[List.length_map];omega,hN _ ⟨.va (.dct k),?_⟩⟩
   rw[yO hki]
   rfl
  rintro _ ⟨s2,rfl⟩
  rw[List.take_length]
  have vl:=zD k11 ks.length
  rw[List.take_length]at vl
  have b1':1<=b:=by
   obtain⟨x,hx⟩:=List.exists_mem_of_length_pos (show 0<names.length by omega)
   obtain⟨k,h1,h2⟩:=(hm x).mp hx
   have:=List.length_pos_of_mem h2
   rw[List.length_map]at this
   have:=b2' k h1
   omega
  have snd:(bN names).length=names.length:=by
   have h1:=WordM.nodup_len (nI names) (m:=names) λx hx=>(jJ _ x).mp hx
   have h2:=WordM.nodup_len (tP hr) (m:=bN names) λx hx=>(jJ _ x).mpr hx
   omega
  refine⟨names,rfl,λe=>by rw[e]at z;simp at z,λx hx=>⟨(nn x hx).1,by have:=(nn x hx).2;omega⟩,by omega,λw ww wm wn=>?_⟩
  refine⟨n,nm,tx,st,sp,gS ks,rfl,hw,λv hv=>?_,?_,nm',n50,λf okf nef _=>⟨by simp,?_⟩⟩
  ·obtain⟨k,h1,h2⟩:=List.mem_flatMap.mp hv
   obtain⟨kt,h3,rfl⟩:=List.mem_map.mp h2
   exact((hk k h1).2.2 kt h3).2
  ·exact Nat.le_trans (Nat.mul_le_mul_right _ vl) hl2
  ·have vne:gS ks≠[]:=λe=>by
    have kbp:0<kb.length:=by omega
    obtain⟨kt,hkt⟩:=List.exists_mem_of_length_pos kbp
    have:kt.2∈gS ks:=List.mem_flatMap.mpr ⟨kb,kbm,List.mem_map.mpr ⟨kt,hkt,rfl⟩⟩
    rw[e]at this;cases this
   have:=q (.table a b w f) ⟨⟨⟨by omega,by have:=k11 ka kam;omega⟩,wn (by omega) b (by have:=WordM.nodup_len (knd kb kbm) (m:=names) (λx hx=>(hm x).mpr ⟨kb,kbm,hx⟩);rw[List.length_map]at this;omega)⟩,by have:=a2' kb kbm;omega,b1',by have:=k11 kb kbm;omega,ww,wm (by omega),nef vne,okf.1,okf.2⟩ rfl
   rw[jE]at this
   exact this
 ·have z:¬ (8:Int)<((names.map sT).length:Nat):=by simpa using z
  rw[List.length_map]at z
  refine⟨by simp,?_⟩
  refine jS sT (l:=names) (λi ρ=>∃(fs:List (Str×Bool×List Pt)) (s2 s5 s7:Sl),fs.map (·.1)=names.take i/\(∀x∈fs,(x.2.1=true↔∀k∈ks,x.1∈dJ k)/\x.2.2≠[]/\dI n x.2.2)/\ρ=[.va (.seq false (ks.map Tv.dct)),.va (.seq false (names.map sT)),s2,.va (iT a),.va (iT b),s5,.own (fs.map cH),s7]) ⟨[],_,_,_,rfl,(λx hx=>(nomatch hx)),rfl⟩ ?_ ?_
  ·rintro i x _ N hx ⟨fs,s2,s5,s7,e1,hf,rfl⟩ hN
   have xm:=List.mem_of_getElem? hx
   refine⟨by rw[List.length_map];omega,?_⟩
   refine iQ Tv.dct (λk=>cU k x) (λk hk R q=>⟨_,rfl,sif (λz=>?_) (λz=>?_)⟩) ?_
   ·cases e:cU k x with
    |none=>rw[e]at z;cases z
    |some U=>rw[e]at q;exact⟨U,e,q⟩
   ·cases e:cU k x with
    |none=>rw[e]at q;exact q
    |some U=>rw[e]at z;cases z
   have vle:=List.length_filterMap_le (λk=>cU k x) ks
   refine⟨⟨_,rfl⟩,_,rfl,n,nm,tx,st,sp,ks.filterMap (λk=>cU k x),rfl,hw,λv hv=>?_,?_,nm',n50,λf okf nef _=>⟨by simp,_,rfl,?_,?_⟩⟩
   ·obtain⟨k,h1,h2⟩:=List.mem_filterMap.mp hv
    exact((hk k h1).2.2 _ (uF h2)).2
   ·refine Nat.le_trans (Nat.mul_le_mul_right _ vle) (Nat.le_trans ?_ hl2)
    exact Nat.mul_le_mul_right _ (by omega)
   ·rw[List.length_map]
    have:=congrArg List.length e1
    rw[List.length_map,List.length_take]at this
    omega
   ·refine hN _ ⟨fs++[(x,(false != eqV (.int ((ks.filterMap λk=>cU k x).length:Nat)) (.int ((ks.map Tv.dct).length:Nat))),f)],_,_,_,?_,λy hy=>?_,by rw[List.map_append];rfl⟩
    ·obtain⟨hi,rfl⟩:=List.getElem?_eq_some_iff.mp hx
     rw[List.map_append,e1,List.take_succ_eq_append_getElem hi]
     rfl
    ·rcases List.mem_append.mp hy with hy|hy
     ·exact hf y hy
     ·rw[List.mem_singleton.mp hy]
      refine⟨?_,nef ?_,okf⟩
      ·show(false != eqV (.int ((ks.filterMap λk=>cU k x).length:Nat)) (.int ((ks.map Tv.dct).length:Nat)))=true↔∀k∈ks,x∈dJ k
       rw[List.length_map,zHx,zB4]
       exact⟨λh k hk=>look_some.mp (h k hk),λh k hk=>look_some.mpr (h k hk)⟩
      ·intro e
       obtain⟨k,h1,h2⟩:=(hm x).mp xm
       obtain⟨U,hU⟩:=Option.isSome_iff_exists.mp (look_some.mpr h2)
       have:U∈ks.filterMap λk=>cU k x:=List.mem_filterMap.mpr ⟨k,h1,hU⟩
       rw[e]at this;cases this
  ·rintro _ ⟨fs,s2,s5,s7,e1,hf,rfl⟩
   rw[List.take_length]at e1
   refine⟨_,_,rfl,by simp,?_⟩
   have:=q (.record a b fs) (zGN kne knd e1 hr hm (by omega) (λx hx=>⟨(nn x hx).1,by have:=(nn x hx).2;omega⟩) hf ⟨ka,kam,ea⟩ a2' ⟨kb,kbm,eb⟩ b2') rfl
   rw[iL]at this
   exact this
end
end My
namespace My
open PySem L2 PyProof.Rows WordM
section
variable{P:Program}{w:World}{K:W.Frag}{mg:Str->Option Value}{base:Heap}
variable{m:Nat}
theorem lH{b:Bool}{A:UTs}{P:PEnds}{ρ:aR}{α:Type}{J:α->Prop}(e:α->aR)(h1:b=true->(∀x,J x->P.nx (e x))->A P ρ)(h2:b=false->∃x,J x/\e x=ρ)(rest:∀x,J x->P.nx (e x)):if b=true then A P ρ else zCy P ρ:=by
 cases b with
 |true=>exact aN (h1 rfl rest)
 |false=>
  obtain⟨x,hx,rfl⟩:=h2 rfl
  exact aL (rest x hx)
theorem nxD{N:aR->Prop}{ρ ρ':aR}(h:N ρ')(e:ρ=ρ'):N ρ:=e▸h
def sel(k:Nat)(l:List Tv):List Tv:=l.filterMap λv=>bif dD v==k then some v else none
theorem sel_mem{k:Nat}{l:List Tv}{v:Tv}:v∈sel k l↔v∈l/\dD v=k:=by
 unfold sel
 rw[List.mem_filterMap]
 constructor
 ·rintro⟨a,ha,e⟩
  cases c:dD a==k with
  |true=>rw[c]at e;cases e;exact⟨ha,by simpa using c⟩
  |false=>rw[c]at e;cases e
 ·rintro⟨h,e⟩
  exact⟨v,h,by rw[e];simp⟩
theorem uZ(k:Nat)(l:List Tv):(sel k l).length<=l.length:=List.length_filterMap_le _ _
theorem zFA{k:Nat}{l:List Tv}(h:sel k l=[]):∀v∈l,dD v≠k:=λv hv e=>by
 have:=sel_mem.mpr ⟨hv,e⟩
 rw[h]at this;cases this
theorem kZ{α:Type}{c:α->Tv}:∀{l:List Tv},(∀v∈l,∃a,v=c a)->∃as:List α,l=as.map c
 |[],_=>⟨[],rfl⟩
 |v::l,h=>by
  obtain⟨a,rfl⟩:=h v (.head _)
  obtain⟨as,rfl⟩:=kZ λv hv=>h v (.tail _ hv)
  exact⟨a::as,rfl⟩
theorem VD.six{nm tx:List Str}{n:Nat}{v:Tv}(h:VD nm tx n v):v=nT\/(∃b,v=bT b)\/(∃i,v=iT i)\/(∃s,v=sT s)\/(∃xs,v=.seq false xs)\/∃k,v=.dct k:=by
 cases n with
 |zero=>exact False.elim h
 |succ n=>
  cases v with
  |leaf v=>cases v with
   |non=>exact .inl rfl
   |bl b=>exact .inr (.inl ⟨b,rfl⟩)
   |int i=>exact .inr (.inr (.inl ⟨i,rfl⟩))
   |str s=>exact .inr (.inr (.inr (.inl ⟨s,rfl⟩)))
   |_=>exact False.elim h
  |seq t xs=>cases t with
   |false=>exact .inr (.inr (.inr (.inr (.inl ⟨xs,rfl⟩))))
   |true=>exact False.elim h
  |dct k=>exact .inr (.inr (.inr (.inr (.inr ⟨k,rfl⟩))))
structure Stg (n:Nat) (vs:List Tv) (c:Nat) (f:List Pt):Prop where
 up:jP f
 ok:∀p∈f,dN n p/\bZ p<c
 has:∀v∈vs,dD v<c->f≠[]
 len:f.length<=c
 emp:vs=[]->f=[]
theorem Stg.nil(n:Nat)(vs:List Tv):Stg n vs 0 []:=⟨.nil,(λp hp=>(nomatch hp)),λv _ h=>absurd h (Nat.not_lt_zero _),Nat.le_refl _,λ_=>rfl⟩
theorem Stg.skip{n c:Nat}{vs:List Tv}{f:List Pt}(h:Stg n vs c f)(e:sel c vs=[]):Stg n vs (c+1) f:=⟨h.up,λp hp=>⟨(h.ok p hp).1,Nat.lt_succ_of_lt (h.ok p hp).2⟩,λv hv l=>h.has v hv (by have:=zFA e v hv;omega),Nat.le_succ_of_le h.len,h.emp⟩
theorem Stg.add{n c:Nat}{vs:List Tv}{f:List Pt}{p:Pt}(h:Stg n vs c f)(ne:vs≠[])(ok:dN n p)(k:bZ p=c):Stg n vs (c+1) (f++[p]):=⟨List.pairwise_append.mpr ⟨h.up,List.pairwise_singleton _ _,λa ha b hb=>by rw[List.mem_singleton.mp hb,k];exact(h.ok a ha).2⟩,λq hq=>by
 rcases List.mem_append.mp hq with z|z
 ·exact⟨(h.ok q z).1,Nat.lt_succ_of_lt (h.ok q z).2⟩
 ·rw[List.mem_singleton.mp z];exact⟨ok,by omega⟩,λv hv l=>by simp,by rw[List.length_append];have:=h.len;simp;omega,λe=>absurd e ne⟩
theorem Stg.form{n:Nat}{vs:List Tv}{f:List Pt}(h:Stg n vs 6 f):dI n f/\(vs≠[]->f≠[])/\(vs=[]->f=[]):=⟨⟨h.up,λp hp=>(h.ok p hp).1⟩,λne=>by
 obtain⟨v,hv⟩:=List.exists_mem_of_ne_nil _ ne
 exact h.has v hv (by have:=zEV v;omega),h.emp⟩
theorem neNil{L:List Tv}:(true != (true&&cC L []))=true↔L≠[]:=by
 cases L with
 |nil=>simp[cC]
 |cons a L=>simp[cC]
theorem mB{L:List Tv}(z:(true != (false==false&&cC L []))=false):L=[]:=by
 cases L with
 |nil=>rfl
 |cons a L=>simp[cC]at z
theorem zKH{vs:List Tv}(h:(vs.filterMap λv=>bif dD v==0 then some (iT 1) else none)=[]):sel 0 vs=[]:=by
 rw[List.filterMap_eq_nil_iff]at h
 unfold sel
 rw[List.filterMap_eq_nil_iff]
 intro v hv
 have:=h v hv
 cases c:dD v==0 with
 |true=>rw[c]at this;cases this
 |false=>rfl
theorem C54_:bC ["_law_values","_law_form_here","_law_truths","_law_numbers","_law_texts","_law_lists","_law_longs","_law_items","_law_row","_law_dicts_here"] ["_law_values"] (aJ gE):=fsc (by decide +kernel)
theorem zLm(h:Has K mg "_law_due" gE)(B:Own mg)(G52_:aE P w K mg base 2 "_law_run" ["_law_numbers"] rH)(G51_:aE P w K mg base 2 "_law_words" ["_law_texts"] nL)(G54_:aE P w K mg base (3+2*m) "_law_due" ["_law_values"] (lV m))(G53_:aE P w K mg base (3+2*m+1) "_law_dicts" ["_law_dicts_here"] (zA4 m))   : aE P w K mg base (3+2*m+2) "_law_due" ["_law_values"] (lV (m+1)):=by
 have nd:=C54_.nd
 refine h.pgood C54_ (fun|_,_,_,_,_,_,[_],_=>rfl) (λf cdv A outer s H E F hr=>
   (aG (gD 1 nd (bR aC))
   (aG (aV (dO hr (aX (lT (sc:=aJ gE) (XN:=["_law_values","_law_form_here","_law_truths","_law_numbers","_law_texts","_law_lists","_law_longs","_law_items","_law_row","_law_dicts_here"]) (N:=["_law_value_here"]) (fr:=[]) (bG (aA 0)) (λ_ _ _ _ _=>(fJ (bY oK (aA 0) iU))) (λ_ _ _ _ _=>aD))) (aX (bR aC)))
    (aH (fH (iO 1 (bM (aB bA aC)))))
    aU)
   (aG (aT 2 nd (aX (zDq rfl rfl B.sorted rfl B.set_ (aX (lT (sc:=aJ gE) (XN:=["_law_values","_law_form_here","_law_truths","_law_numbers","_law_texts","_law_lists","_law_longs","_law_items","_law_row","_law_dicts_here"]) (N:=["_law_value_here"]) (fr:=[]) (bG (aA 0)) (λ_ _ _ _ _=>(fJ (bI (bK "bool" gZ rfl B.isinstance (aA 0) (bJ (v:=.ty "bool") rfl B.bool_ boot_bool rfl))))) (λ_ _ _ _ _=>(aA 0)))))))
   (aG (aV (dO hr (aA 2) (aX (bR aC)))
    (aH (fH (iO 1 (bM (aB bA (aB (gI hC rfl B.tuple_ boot_tuple (aB (aA 2) aC)) aC))))))
    aU)
   (aG (fM (sc:=aJ gE) (XN:=["_law_values","_law_form_here","_law_truths","_law_numbers","_law_texts","_law_lists","_law_longs","_law_items","_law_row","_law_dicts_here"]) (N:=["_law_value_here"]) (fr:=[]) 3 nd (bG (aA 0)) (λ_ _ _ _ _=>(fJ (cG (nU (bI (bK "int" kQ rfl B.isinstance (aA 0) (bJ (v:=.ty "int") rfl B.int_ boot_int rfl))) (qC (cI (bI (bK "bool" gZ rfl B.isinstance (aA 0) (bJ (v:=.ty "bool") rfl B.bool_ boot_bool rfl))))))))) (λ_ _ _ _ _=>(aA 0)))
   (aG (aV (dO hr (aA 3) (aX (bR aC)))
    (aH (fH (iO 1 (aW bO (bM (aB bA aC)) (aI G52_ hr (aB (aA 3) aC))))))
    aU)
   (aG (fM (sc:=aJ gE) (XN:=["_law_values","_law_form_here","_law_truths","_law_numbers","_law_texts","_law_lists","_law_longs","_law_items","_law_row","_law_dicts_here"]) (N:=["_law_value_here"]) (fr:=[]) 4 nd (bG (aA 0)) (λ_ _ _ _ _=>(fJ (bI (bK "str" kP rfl B.isinstance (aA 0) (bJ (v:=.ty "str") rfl B.str_ boot_str rfl))))) (λ_ _ _ _ _=>(aA 0)))
   (aG (aV (dO hr (aA 4) (aX (bR aC)))
    (aH (fH (iO 1 (bM (aB bA (aB (aI G51_ hr (aB (aA 4) aC)) aC))))))
    aU)
   (aG (fM (sc:=aJ gE) (XN:=["_law_values","_law_form_here","_law_truths","_law_numbers","_law_texts","_law_lists","_law_longs","_law_items","_law_row","_law_dicts_here"]) (N:=["_law_value_here"]) (fr:=[]) 5 nd (bG (aA 0)) (λ_ _ _ _ _=>(fJ (bI (bK "list" tL rfl B.isinstance (aA 0) (bJ (v:=.ty "list") rfl B.list_ boot_list rfl))))) (λ_ _ _ _ _=>(aA 0)))
   (aG (aV (dO hr (aA 5) (aX (bR aC)))
    (aG (fM (sc:=aJ gE) (XN:=["_law_values","_law_form_here","_law_truths","_law_numbers","_law_texts","_law_lists","_law_longs","_law_items","_law_row","_law_dicts_here"]) (N:=["_law_row"]) (fr:=[]) 6 nd (bG (aA 5)) (λ_ _ _ _ _=>hJ) (λ_ _ _ _ _=>(bB bL rfl B.len PySem.boot_len (aB (aA 0) aC))))
    (aG (gD 7 nd (bR aC))
    (aG (eZ (m:=10) PassesOwn.never rfl (bG (aA 5)) (dH 8 (by decide) nd rfl (.inl rfl))
     (aH (fH (tV 7 (aA 8)))))
    (aH (fH (iO 1 (bM (aB bA (aB (bB (hV rfl) rfl B.min boot_min (aB (aA 6) aC)) (aB (bB (iV rfl) rfl B.max boot_max (aB (aA 6) aC)) (aB (aI G54_ hr (aB (aA 7) aC)) aC)))))))))))
    aU)
   (aG (fM (sc:=aJ gE) (XN:=["_law_values","_law_form_here","_law_truths","_law_numbers","_law_texts","_law_lists","_law_longs","_law_items","_law_row","_law_dicts_here"]) (N:=["_law_value_here"]) (fr:=[]) 9 nd (bG (aA 0)) (λ_ _ _ _ _=>(fJ (bI (bK "dict" mQ rfl B.isinstance (aA 0) (bJ (v:=.ty "dict") rfl B.dict_ boot_dict rfl))))) (λ_ _ _ _ _=>(aA 0)))
   (aG (aV (dO hr (aA 9) (aX (bR aC)))
    (aH (fH (iO 1 (aI G53_ hr (aB (aA 9) aC)))))
    aU)
   (aH (aO (gI hC rfl B.tuple_ boot_tuple (aB (aA 1) aC))))))))))))))))) (λas R q=>?_)
 obtain⟨n,nm,tx,st,sp,vs,rfl,hw,hv,hl,nm',n50,q⟩:=q
 have p1:1<=11 ^ n:=Nat.one_le_pow _ _ (by decide)
 have vl:vs.length<=100000:=Nat.le_trans (Nat.le_mul_of_pos_right _ p1) hl
 refine⟨rfl,by simp,?_⟩
 refine⟨vl,gK (λv=>bif dD v==0 then some (iT 1) else none) (λv hvm R q=>?_) ?_⟩
 ·rcases VD.six (hv v hvm) with rfl|⟨b,rfl⟩|⟨i,rfl⟩|⟨s,rfl⟩|⟨xs,rfl⟩|⟨k,rfl⟩<;>first|exact⟨_,rfl,aN q⟩|exact⟨_,rfl,aL q⟩
 have npos:vs≠[]->∃n',n=n'+1:=λne=>by
  obtain⟨v,hvm⟩:=List.exists_mem_of_ne_nil _ ne
  cases n with
  |zero=>exact False.elim (hv v hvm)
  |succ n=>exact⟨n,rfl⟩
 have nes:∀{k:Nat},sel k vs≠[]->vs≠[]:=λ{k} h e=>h (by rw[e];rfl)
 refine⟨by simp,.inr (.inl rfl),_,rfl,lH (J:=Stg n vs 1) (λf=>[.va (.seq false vs),.own (f.map aZ),.no,.no,.no,.no,.no,.no,.no,.no]) (λz rest=>?_) (λz=>?_) (λf hf=>?_)⟩
 ·have z:=neNil.mp z
  have ne:vs≠[]:=λe=>z (by rw[e];rfl)
  obtain⟨n',rfl⟩:=npos ne
  exact⟨⟨_,rfl⟩,by simp,_,rfl,by simp,nxD (rest [.nothing] ((Stg.nil _ _).add ne trivial rfl)) (by simp only[List.map_cons,List.map_nil,aZ];rfl)⟩
 ·exact⟨[],(Stg.nil n vs).skip (zKH (mB z)),rfl⟩
 refine⟨vl,gK (λv=>bif dD v==1 then some v else none) (λv hvm R q=>?_) ?_⟩
 ·rcases VD.six (hv v hvm) with rfl|⟨b,rfl⟩|⟨i,rfl⟩|⟨s,rfl⟩|⟨xs,rfl⟩|⟨k,rfl⟩<;>first|exact⟨_,rfl,aN q⟩|exact⟨_,rfl,aL q⟩
 obtain⟨bs,ebs⟩:∃bs:List Bool,sel 1 vs=bs.map bT:=kZ λv h=>by
  obtain⟨h1,h2⟩:=sel_mem.mp h
  rcases VD.six (hv v h1) with rfl|⟨b,rfl⟩|⟨i,rfl⟩|⟨s,rfl⟩|⟨xs,rfl⟩|⟨k,rfl⟩<;>first|exact⟨_,rfl⟩|cases h2
 refine⟨bs,by rw[<-ebs];rfl,?_⟩
 generalize hu:(usB (inF bs) (inT bs))=us
 refine⟨by simp,.inr (.inl rfl),_,rfl,lH (J:=Stg n vs 2) (λf=>[.va (.seq false vs),.own (f.map aZ),.va (.seq false (us.map bT)),.no,.no,.no,.no,.no,.no,.no]) (λz rest=>?_) (λz=>?_) (λf hf=>?_)⟩
 ·have z:=neNil.mp z
  have une:us≠[]:=λe=>z (by rw[e];rfl)
  have ne:vs≠[]:=nes (k:=1) λe=>une (by rw[e]at ebs;rw[<-hu,List.map_eq_nil_iff.mp ebs.symm];rfl)
  obtain⟨n',rfl⟩:=npos ne
  have hl6:=hf.len
  refine⟨⟨_,rfl⟩,_,_,rfl,by simp,_,rfl,by rw[List.length_map];omega,nxD (rest (f++[.truths us]) (hf.add ne ?_ rfl)) (by rw[List.map_append];simp only[List.map_cons,List.map_nil,aZ];rfl)⟩
  subst hu
  cases h1:inF bs<;>cases h2:inT bs
  ·rw[h1,h2]at une;exact absurd rfl une
  ·exact .inr (.inl rfl)
  ·exact .inl rfl
  ·exact .inr (.inr rfl)
 ·have z:us=[]:=List.map_eq_nil_iff.mp (mB z)
  refine⟨f,hf.skip ?_,rfl⟩
  rw[ebs]
  rw[z]at hu
  cases bs with
  |nil=>rfl
  |cons b bs=>cases b<;>simp[usB,inF,inT]at hu
 clear ebs
 refine⟨vl,gK (λv=>bif dD v==2 then some v else none) (λv hvm R q=>?_) ?_⟩
 ·rcases VD.six (hv v hvm) with rfl|⟨b,rfl⟩|⟨i,rfl⟩|⟨s,rfl⟩|⟨xs,rfl⟩|⟨k,rfl⟩
  ·exact⟨_,rfl,aL (aL q)⟩
  ·exact⟨_,rfl,aN ⟨_,rfl,aL q⟩⟩
  ·exact⟨_,rfl,aN ⟨_,rfl,aN q⟩⟩
  ·exact⟨_,rfl,aL (aL q)⟩
  ·exact⟨_,rfl,aL (aL q)⟩
  ·exact⟨_,rfl,aL (aL q)⟩
 obtain⟨ns,ens⟩:∃ns:List Int,sel 2 vs=ns.map iT:=kZ λv h=>by
  obtain⟨h1,h2⟩:=sel_mem.mp h
  rcases VD.six (hv v h1) with rfl|⟨b,rfl⟩|⟨i,rfl⟩|⟨s,rfl⟩|⟨xs,rfl⟩|⟨k,rfl⟩<;>first|exact⟨_,rfl⟩|cases h2
 have ens':(vs.filterMap λv=>bif dD v==2 then some v else none)=ns.map iT:=ens
 rw[ens']
 have nsl:ns.length<=vs.length:=by have:=uZ 2 vs;rw[ens,List.length_map]at this;exact this
 refine⟨by simp,.inr (.inl rfl),_,rfl,lH (J:=Stg n vs 3) (λf=>[.va (.seq false vs),.own (f.map aZ),.va (.seq false (us.map bT)),.va (.seq false (ns.map iT)),.no,.no,.no,.no,.no,.no]) (λz rest=>?_) (λz=>?_) (λf hf=>?_)⟩
 ·have z:=neNil.mp z
  have ne:vs≠[]:=nes (k:=2) λe=>z (by rw[<-ens,e])
  obtain⟨n',rfl⟩:=npos ne
  have hl6:=hf.len
  refine⟨⟨_,rfl⟩,by simp,ns,rfl,?_,by omega,λi hi=>?_,λlo hi st hr=>⟨by simp,_,rfl,by rw[List.length_map];omega,nxD (rest (f++[.numbers lo hi st]) (hf.add (p:=.numbers lo hi st) ne hr rfl)) (by rw[List.map_append];simp only[List.map_cons,List.map_nil,aZ];rfl)⟩⟩
  ·cases ns with
   |nil=>exact absurd rfl z
   |cons a ns=>simp
  ·have:iT i∈sel 2 vs:=by rw[ens];exact List.mem_map.mpr ⟨i,hi,rfl⟩
   exact hv _ (sel_mem.mp this).1
 ·have z:=mB z
  exact⟨f,hf.skip (by rw[ens];exact z),rfl⟩
 clear ens ens' nsl
 refine⟨vl,gK (λv=>bif dD v==3 then some v else none) (λv hvm R q=>?_) ?_⟩
 ·rcases VD.six (hv v hvm) with rfl|⟨b,rfl⟩|⟨i,rfl⟩|⟨s,rfl⟩|⟨xs,rfl⟩|⟨k,rfl⟩<;>first|exact⟨_,rfl,aN q⟩|exact⟨_,rfl,aL q⟩
 obtain⟨ts,ets⟩:∃ts:List Str,sel 3 vs=ts.map sT:=kZ λv h=>by
  obtain⟨h1,h2⟩:=sel_mem.mp h
  rcases VD.six (hv v h1) with rfl|⟨b,rfl⟩|⟨i,rfl⟩|⟨s,rfl⟩|⟨xs,rfl⟩|⟨k,rfl⟩<;>first|exact⟨_,rfl⟩|cases h2
 have ets':(vs.filterMap λv=>bif dD v==3 then some v else none)=ts.map sT:=ets
 rw[ets']
 refine⟨by simp,.inr (.inl rfl),_,rfl,lH (J:=Stg n vs 4) (λf=>[.va (.seq false vs),.own (f.map aZ),.va (.seq false (us.map bT)),.va (.seq false (ns.map iT)),.va (.seq false (ts.map sT)),.no,.no,.no,.no,.no]) (λz rest=>?_) (λz=>?_) (λf hf=>?_)⟩
 ·have z:=neNil.mp z
  have ne:vs≠[]:=nes (k:=3) λe=>z (by rw[<-ets,e])
  obtain⟨n',rfl⟩:=npos ne
  have hl6:=hf.len
  have tm:∀s∈ts,s∈tx:=λs hs=>by
   have:sT s∈sel 3 vs:=by rw[ets];exact List.mem_map.mpr ⟨s,hs,rfl⟩
   exact hv _ (sel_mem.mp this).1
  have sl:(bN ts).length<=9:=by
   have:=WordM.nodup_len (nI ts) (m:=tx) λx hx=>tm x ((jJ _ x).mp hx)
   rw[hw.t9]at this
   exact this
  exact⟨⟨_,rfl⟩,ts,rfl,λe=>z (by rw[e];rfl),λs hs=>hw.ts s (tm s hs),by omega,λw ww _ _=>⟨by simp,_,rfl,by rw[List.length_map];omega,nxD (rest (f++[.texts w]) (hf.add (p:=.texts w) ne ww rfl)) (by rw[List.map_append];simp only[List.map_cons,List.map_nil,aZ];rfl)⟩⟩
 ·have z:=mB z
  exact⟨f,hf.skip (by rw[ets];exact z),rfl⟩
 clear ets ets'
 refine⟨vl,gK (λv=>bif dD v==4 then some v else none) (λv hvm R q=>?_) ?_⟩
 ·rcases VD.six (hv v hvm) with rfl|⟨b,rfl⟩|⟨i,rfl⟩|⟨s,rfl⟩|⟨xs,rfl⟩|⟨k,rfl⟩<;>first|exact⟨_,rfl,aN q⟩|exact⟨_,rfl,aL q⟩
 obtain⟨xs,exs⟩:∃xs:List (List Tv),sel 4 vs=xs.map (Tv.seq false):=kZ λv h=>by
  obtain⟨h1,h2⟩:=sel_mem.mp h
  rcases VD.six (hv v h1) with rfl|⟨b,rfl⟩|⟨i,rfl⟩|⟨s,rfl⟩|⟨xs,rfl⟩|⟨k,rfl⟩<;>first|exact⟨_,rfl⟩|cases h2
 have exs':(vs.filterMap λv=>bif dD v==4 then some v else none)=xs.map (Tv.seq false):=exs
 rw[exs']
 have xsl:xs.length<=vs.length:=by have:=uZ 4 vs;rw[exs,List.length_map]at this;exact this
 refine⟨by simp,.inr (.inl rfl),_,rfl,lH (J:=λx:List Pt×Sl×Sl×Sl=>Stg n vs 5 x.1) (λx=>[.va (.seq false vs),.own (x.1.map aZ),.va (.seq false (us.map bT)),.va (.seq false (ns.map iT)),.va (.seq false (ts.map sT)),.va (.seq false (xs.map (Tv.seq false))),x.2.1,x.2.2.1,x.2.2.2,.no]) (λz rest=>?_) (λz=>?_) ?_⟩
 ·have z:=neNil.mp z
  have ne:vs≠[]:=nes (k:=4) λe=>z (by rw[<-exs,e])
  obtain⟨n',rfl⟩:=npos ne
  have hl6:=hf.len
  have xv:∀x∈xs,x.length<=11/\∀y∈x,VD nm tx n' y:=λx hx=>by
   have:Tv.seq false x∈sel 4 vs:=by rw[exs];exact List.mem_map.mpr ⟨x,hx,rfl⟩
   exact hv _ (sel_mem.mp this).1
  have xpos:0<xs.length:=by
   cases xs with
   |nil=>exact absurd rfl z
   |cons a xs=>simp
  have hl2:vs.length*11*11 ^ n'<=100000:=by rw[Nat.pow_succ]at hl;rw[Nat.mul_assoc,Nat.mul_comm 11];exact hl
  have hl3:vs.length*11<=100000:=Nat.le_trans (Nat.le_mul_of_pos_right _ (Nat.one_le_pow _ _ (by decide))) hl2
  have fl:∀i,(xs.take i).flatten.length<=vs.length*11:=λi=>by
   have key:∀l:List (List Tv),(∀x∈l,x.length<=11)->l.flatten.length<=l.length*11:=λl=>by
    induction l with
    |nil=>intro _;simp
    |cons a l ih=>
     intro h
     have h1:=h a (.head _)
     have h2:=ih λx hx=>h x (.tail _ hx)
     rw[List.flatten_cons,List.length_append,List.length_cons]
     omega
   have h1:=key (xs.take i) λx hx=>(xv x (List.mem_of_mem_take hx)).1
   rw[List.length_take]at h1
   have:min i xs.length*11<=vs.length*11:=Nat.mul_le_mul_right _ (by omega)
   omega
  have lens:(xs.map λx=>iT (x.length:Nat))=(xs.map λx=>((x.length:Nat):Int)).map iT:=by rw[List.map_map];rfl
  refine⟨by rw[List.length_map];omega,dB (Tv.seq false) (λx=>iT (x.length:Nat)) (λx hx R q=>q) ?_⟩
  refine⟨by simp,?_⟩
  refine jS (Tv.seq false) (l:=xs) (λi ρ=>∃s8,ρ=[.va (.seq false vs),.own (f.map aZ),.va (.seq false (us.map bT)),.va (.seq false (ns.map iT)),.va (.seq false (ts.map sT)),.va (.seq false (xs.map (Tv.seq false))),.va (.seq false (xs.map λx=>iT (x.length:Nat))),.own (xs.take i).flatten,s8,.no]) ⟨_,rfl⟩ ?_ ?_
  ·rintro i x _ N hx ⟨s8,rfl⟩ hN
   have et:(xs.take (i+1)).flatten=(xs.take i).flatten++x:=by
    obtain⟨hi,rfl⟩:=List.getElem?_eq_some_iff.mp hx
    rw[List.take_succ_eq_append_getElem hi,List.flatten_append]
    simp
   have l1:=fl (i+1)
   rw[et,List.length_append]at l1
   refine⟨⟨_,rfl⟩,_,_,rfl,rfl,by omega,hN _ ⟨.va (.seq false x),?_⟩⟩
   rw[et]
   rfl
  rintro _ ⟨s8,rfl⟩
  rw[List.take_length]
  have fl':=fl xs.length
  rw[List.take_length]at fl'
  refine⟨⟨_,rfl⟩,.inr (.inl ⟨xs.map λx=>((x.length:Nat):Int),by rw[lens],by rw[List.length_map];exact xpos,λa a1 a2=>.inr (.inl ⟨xs.map λx=>((x.length:Nat):Int),by rw[lens],by rw[List.length_map];exact xpos,λb b1 b2=>?_⟩)⟩)⟩
  obtain⟨xa,xam,ea⟩:=List.mem_map.mp a1
  obtain⟨xb,xbm,eb⟩:=List.mem_map.mp b1
  have ab:=a2 b b1
  refine⟨n',nm,tx,st,sp,xs.flatten,rfl,hw,λv hv=>?_,Nat.le_trans (Nat.mul_le_mul_right _ fl') hl2,by omega,by omega,λg okg neg emg=>⟨by simp,_,rfl,by rw[List.length_map];omega,?_⟩⟩
  ·obtain⟨x,h1,h2⟩:=List.mem_flatten.mp hv
   exact(xv x h1).2 v h2
  ·have x11:=(xv xb xbm).1
   refine nxD (rest (f++[.lists a b g],.va (.seq false (xs.map λx=>iT (x.length:Nat))),.va (.seq false xs.flatten),s8) (hf.add (p:=.lists a b g) ne ⟨by omega,ab,by omega,λe=>emg ?_,λe=>⟨neg ?_,okg.1,okg.2⟩⟩ rfl)) (by rw[List.map_append];simp only[List.map_cons,List.map_nil,aZ];rfl)
   ·refine List.flatten_eq_nil_iff.mpr λx hx=>?_
    have:=b2 _ (List.mem_map.mpr ⟨x,hx,rfl⟩)
    exact List.eq_nil_of_length_eq_zero (by omega)
   ·intro e2
    have:=List.flatten_eq_nil_iff.mp e2 xb xbm
    rw[this]at eb
    exact e (by rw[<-eb];rfl)
 ·have z:=mB z
  exact⟨(f,.no,.no,.no),hf.skip (by rw[exs];exact z),rfl⟩
 rintro⟨f,s6,s7,s8⟩ hf
 have hf:Stg n vs 5 f:=hf
 clear exs exs' xsl
 refine⟨vl,gK (λv=>bif dD v==5 then some v else none) (λv hvm R q=>?_) ?_⟩
 ·rcases VD.six (hv v hvm) with rfl|⟨b,rfl⟩|⟨i,rfl⟩|⟨s,rfl⟩|⟨xs,rfl⟩|⟨k,rfl⟩<;>first|exact⟨_,rfl,aN q⟩|exact⟨_,rfl,aL q⟩
 obtain⟨ks,eks⟩:∃ks:List (List (Str×Tv)),sel 5 vs=ks.map Tv.dct:=kZ λv h=>by
  obtain⟨h1,h2⟩:=sel_mem.mp h
  rcases VD.six (hv v h1) with rfl|⟨b,rfl⟩|⟨i,rfl⟩|⟨s,rfl⟩|⟨xs,rfl⟩|⟨k,rfl⟩<;>first|exact⟨_,rfl⟩|cases h2
 have eks':(vs.filterMap λv=>bif dD v==5 then some v else none)=ks.map Tv.dct:=eks
 rw[eks']
 have ksl:ks.length<=vs.length:=by have:=uZ 5 vs;rw[eks,List.length_map]at this;exact this
 refine⟨by simp,.inr (.inl rfl),_,rfl,lH (J:=Stg n vs 6) (λf=>[.va (.seq false vs),.own (f.map aZ),.va (.seq false (us.map bT)),.va (.seq false (ns.map iT)),.va (.seq false (ts.map sT)),.va (.seq false (xs.map (Tv.seq false))),s6,s7,s8,.va (.seq false (ks.map Tv.dct))]) (λz rest=>?_) (λz=>?_) (λf hf=>?_)⟩
 ·have z:=neNil.mp z
  have ne:vs≠[]:=nes (k:=5) λe=>z (by rw[<-eks,e])
  obtain⟨n',rfl⟩:=npos ne
  have hl6:=hf.len
  refine⟨⟨_,rfl⟩,n',nm,tx,st,sp,ks,rfl,hw,λk hk=>?_,λe=>z (by rw[e];rfl),Nat.le_trans (Nat.mul_le_mul_right _ ksl) hl,by omega,by omega,λp hp kp=>⟨_,rfl,by rw[List.length_map];exact Nat.lt_of_le_of_lt hl6 (by decide),nxD (rest (f++[p]) (hf.add ne hp kp)) (by rw[List.map_append];rfl)⟩⟩
  have:Tv.dct k∈sel 5 vs:=by rw[eks];exact List.mem_map.mpr ⟨k,hk,rfl⟩
  exact hv _ (sel_mem.mp this).1
 ·have z:=mB z
  exact⟨f,hf.skip (by rw[eks];exact z),rfl⟩
 have:=hf.form
 exact⟨_,_,rfl,q f this.1 this.2.1 this.2.2⟩
theorem wE(hd:Has K mg "_law_due" gE)(hk:Has K mg "_law_dicts" kD)(B:Own mg)(G1:aE P w K mg base 2 "_law_run" ["_law_numbers"] rH)(G2:aE P w K mg base 2 "_law_words" ["_law_texts"] nL):∀m:Nat,aE P w K mg base (3+2*m) "_law_due" ["_law_values"] (lV m)
 |0=>hd.pfalse C54_ (fun|_,_,_,_,_,_,[_],_=>rfl) λas R ⟨_,_,_,_,_,_,_,_,_,_,h,_⟩=>by omega
 |m+1=>zLm hd B G1 G2 (wE hd hk B G1 G2 m) (zLn hk B (wE hd hk B G1 G2 m) G2)
end
end My
namespace My
open PySem L2 PyProof.Rows WordM
section
variable{P:Program}{w:World}{K:W.Frag}{mg:Str->Option Value}{base:Heap}
theorem at0{α:Type}{x:α}{r:List α}:atI (x::r) 0=some x:=cM (j:=0) rfl
theorem uT(p:Pt):∃r,aZ p=.seq true (sT (jX p)::r)/\r.length<=4:=by
 cases p with
 |record a b fs=>exact⟨_,iL a b fs,by simp⟩
 |lists a b f=>exact⟨_,jF a b f,by simp⟩
 |table a b w f=>exact⟨_,jE a b w f,by simp⟩
 |_=>rw[aZ];exact⟨_,rfl,by simp⟩
theorem zDU(fm:Tv->Bool)(l:List Tv):dX fm (.seq true (sT "lists"::l))=qX fm (sT "lists"::l):=rfl
theorem zDx(fm:Tv->Bool)(l:List Tv):dX fm (.seq true (sT "record"::l))=sV fm (sT "record"::l):=rfl
theorem zDT(fm:Tv->Bool)(l:List Tv):dX fm (.seq true (sT "table"::l))=rT fm (sT "table"::l):=rfl
theorem zDw(fm:Tv->Bool)(l:List Tv):dX fm (.seq true (sT "truths"::l))=oZ trB l:=rfl
theorem zDi(fm:Tv->Bool)(l:List Tv):dX fm (.seq true (sT "numbers"::l))=gV l:=rfl
theorem zDS(fm:Tv->Bool)(l:List Tv):dX fm (.seq true (sT "texts"::l))=oZ gQ l:=rfl
def FlG(b:Bool):Nat->Tv->Prop
 |_+1,.leaf .non=>True
 |_+1,.leaf (.bl _)=>True
 |_+1,.leaf (.int i)=>b=true->i<10 ^ 90
 |_+1,.leaf (.str s)=>s.length<=1000
 |n+1,.seq _ l=>l.length<=100/\∀x∈l,FlG b n x
 |_,_=>False
theorem FlG.le{b:Bool}:∀{n m:Nat}{U:Tv},n<=m->FlG b n U->FlG b m U
 |0,_,_,_,h=>by simp[FlG]at h
 |n+1,0,_,l,_=>absurd l (by omega)
 |n+1,m+1,.seq _ _,l,h=>⟨h.1,λx hx=>FlG.le (by omega) (h.2 x hx)⟩
 |n+1,m+1,.dct _,_,h=>by simp[FlG]at h
 |n+1,m+1,.leaf v,_,h=>by cases v<;>exact h
theorem FlG.fle:∀{n:Nat}{U:Tv},FlG true n U->FlE n U
 |0,_,h=>by simp[FlG]at h
 |n+1,.dct _,h=>by simp[FlG]at h
 |n+1,.seq t l,h=>⟨h.1,λx hx=>(h.2 x hx).fle,λa b f e kts z=>by
  subst z;subst e
  have:=h.2 (.dct kts) (by simp)
  cases n<;>simp[FlG]at this⟩
 |n+1,.leaf v,h=>by
  cases v with
  |non=>exact⟨rfl,(λ_ e=>nomatch e),(λ_ e=>nomatch e)⟩
  |bl b=>exact⟨rfl,(λ_ e=>nomatch e),(λ_ e=>nomatch e)⟩
  |int i=>exact⟨rfl,(λ_ e=>nomatch e),λj e=>by cases e;exact h rfl⟩
  |str s=>exact⟨rfl,λz e=>by cases e;exact h,(λ_ e=>nomatch e)⟩
  |_=>simp[FlG]at h
theorem gB{n:Nat}{i:Int}(h:i<10 ^ 90):FlG true (n+1) (iT i):=λ_=>h
theorem zCo{n:Nat}{b:Bool}:FlG true (n+1) (bT b):=trivial
theorem fN{n:Nat}{s:Str}(h:s.length<=1000):FlG true (n+1) (sT s):=h
theorem eS{n:Nat}{t:Bool}{l:List Tv}(h1:l.length<=100)(h2:∀x∈l,FlG true n x):FlG true (n+1) (.seq t l):=⟨h1,h2⟩
theorem an{p:Tv->Prop}:∀x∈([]:List Tv),p x:=λ_ h=>absurd h (List.not_mem_nil)
theorem ac{p:Tv->Prop}{x:Tv}{l:List Tv}(h:p x)(k:∀y∈l,p y):∀y∈x::l,p y:=List.forall_mem_cons.mpr ⟨h,k⟩
theorem zB5{n:Nat}{ss:List Str}(h1:ss.length<=100)(h2:∀s∈ss,s.length<=1000):FlG true (n+2) (.seq true (ss.map sT)):=eS (by rw[List.length_map];exact h1) λx hx=>by
 obtain⟨s,hs,rfl⟩:=List.mem_map.mp hx
 exact fN (h2 s hs)
theorem vW{s:Str}(h:kK s):s.length<=1000:=by have:=h.2;omega
theorem zFZ{s:Str}(h:s∈MK):s.length<=1000:=by
 simp only[MK,List.mem_cons,List.not_mem_nil,or_false]at h
 rcases h with rfl|rfl|rfl|rfl<;>decide +kernel
theorem zCp{n:Nat}{w:Wd}(h:kJ w):FlG true (n+3) (gX w):=by
 cases w with
 |few ts=>
  exact eS (by simp) (ac (fN (by decide +kernel)) (ac (zB5 (by have:=h.2.1;omega) λs hs=>vW (h.2.2.2 s hs)) an))
 |make hd a b ms=>
  obtain⟨h1,h2,h3,h4,h5,h6,h7⟩:=h
  exact eS (by simp) (ac (fN (by decide +kernel)) (ac (fN (vW h1)) (ac (gB (by omega)) (ac (gB (by omega)) (ac (zB5 (by have:=h6.length_le;simp[MK]at this;omega) λs hs=>zFZ (h6.subset hs)) an)))))
theorem wR:∀(n:Nat) {f:List Pt},dI n f->FlG true (4*n+1) (bQ f)
 |n,f,ok=>by
  refine eS (by rw[List.length_map];have:=mZ ok.1;omega) λx hx=>?_
  obtain⟨p,hp,rfl⟩:=List.mem_map.mp hx
  have hp:=ok.2 p hp
  match n,hp with
  |n+1,hp=>
  have ih:∀{f:List Pt},dI n f->FlG true (4*n+1) (bQ f):=λh=>wR n h
  show FlG true (4*n+3+1) (aZ p)
  cases p with
  |nothing=>
   rw[aZ]
   exact eS (by simp) λx hx=>by rw[List.mem_singleton.mp hx];exact fN (by decide +kernel)
  |truths bs=>
   rw[aZ]
   refine eS (by simp) (ac (fN (by decide +kernel)) (ac ?_ an))
   ·refine eS (by rw[List.length_map];rcases hp with rfl|rfl|rfl<;>decide) λx hx=>?_
    obtain⟨b,_,rfl⟩:=List.mem_map.mp hx
    exact zCo
  |numbers lo hi st=>
   obtain⟨⟨_,h1⟩,⟨_,h2⟩,⟨_,h3⟩,_⟩:=hp
   rw[aZ]
   exact eS (by simp) (ac (fN (by decide +kernel)) (ac (gB (by omega)) (ac (gB (by omega)) (ac (gB (by omega)) an))))
  |texts w=>
   rw[aZ]
   exact eS (by simp) (ac (fN (by decide +kernel)) (ac ((zCp (n:=0) hp).le (show 0+3<=4*n+3 by omega)) an))
  |lists a b f=>
   rw[jF]
   obtain⟨h1,h2,h3,h4,h5⟩:=hp
   have hf:dI n f:=by
    by_cases z:b=0
    ·rw[h4 z];exact⟨.nil,(λp hp=>(nomatch hp))⟩
    ·exact(h5 z).2
   exact eS (by simp) (ac (fN (by decide +kernel)) (ac (gB (by omega)) (ac (gB (by omega)) (ac ((ih hf).le (by omega)) an))))
  |record a b fs=>
   rw[iL]
   obtain⟨h1,h2,h3,h4,h5,h6,h7,h8⟩:=hp
   refine eS (by simp) (ac (fN (by decide +kernel)) (ac (gB (by omega)) (ac (gB (by omega)) (ac ?_ an))))
   ·refine eS (n:=4*n+2) (by rw[List.length_map];omega) λx hx=>?_
    obtain⟨y,hy,rfl⟩:=List.mem_map.mp hx
    have hy:=h5 y hy
    exact eS (n:=4*n+1) (by simp) (ac (fN (vW hy.1)) (ac (zCo) (ac (ih hy.2.2) an)))
  |table a b w f=>
   rw[jE]
   obtain⟨h1,h2,h3,h4,h5,h6,h7,h8⟩:=hp
   exact eS (by simp) (ac (fN (by decide +kernel)) (ac (gB (by omega)) (ac (gB (by omega)) (ac ((zCp (n:=0) h5).le (show 0+3<=4*n+3 by omega)) (ac ((ih h8).le (by omega)) an)))))
theorem uW{ss:List Str}(h:∀s∈ss,kK s):((ss.map sT).all txB)=true:=List.all_eq_true.mpr λx hx=>by
 obtain⟨s,hs,rfl⟩:=List.mem_map.mp hx
 show(cs s).all jZ=true
 exact List.all_eq_true.mpr λc hc=>(show ∀c∈cs SIG,jZ c=true by decide +kernel) c ((h s hs).1 c hc)
theorem zB{w:Wd}(h:kJ w):gQ (gX w)=true:=by
 cases w with
 |few ts=>
  show(if L2.eqT (sT "few") (sT "few")=true then zCP (.seq true (ts.map sT)) else(L2.eqT (sT "few") (sT "make")&&false))=true
  rw[if_pos (by decide)]
  show(decide (1<=(ts.map sT).length)&&decide ((ts.map sT).length<=6)&&((ts.map sT).all txB&&eL ((ts.map sT).map cN)))=true
  rw[List.length_map,qE,(mW ts).mpr h.2.2.1,uW h.2.2.2,decide_eq_true h.1,decide_eq_true h.2.1]
  rfl
 |make hd a b ms=>
  obtain⟨h1,h2,h3,h4,h5,h6,h7⟩:=h
  show(if L2.eqT (sT "make") (sT "few")=true then false else(L2.eqT (sT "make") (sT "make")&&(txB (sT hd)&&(jT (.seq true (ms.map sT))&&kG (iT a) (iT b)))))=true
  rw[if_neg (by decide),show L2.eqT (sT "make") (sT "make")=true by decide,Bool.true_and]
  have e1:txB (sT hd)=true:=by
   have:=uW (ss:=[hd]) λs hs=>by rw[List.mem_singleton.mp hs];exact h1
   simpa using this
  have e2:jT (.seq true (ms.map sT))=true:=by
   show(decide (ms.map sT≠[])&&((ms.map sT).all mkB&&eL ((ms.map sT).map cN)))=true
   rw[qE,(mW ms).mpr (mk_rise.sublist h6),decide_eq_true (show ms.map sT≠[] from λz=>h7 (List.map_eq_nil_iff.mp z)),List.all_eq_true.mpr (λx hx=>by
    obtain⟨s,hs,rfl⟩:=List.mem_map.mp hx
    have:=h6.subset hs
    simp only[MK,List.mem_cons,List.not_mem_nil,or_false]at this
    rcases this with rfl|rfl|rfl|rfl<;>decide +kernel)]
   rfl
  have e3:kG (iT a) (iT b)=true:=by
   show(decide (0<=a)&&decide (a<=b)&&decide (1<=b))=true
   rw[decide_eq_true h2,decide_eq_true h3,decide_eq_true h4];rfl
  rw[e1,e2,e3];rfl
theorem uJ{fm:Tv->Bool}{f:List Pt}(h:fm (bQ f)=true)(ne:f≠[]):eI fm (bQ f)=true:=by
 unfold eI
 rw[h]
 cases f with
 |nil=>exact absurd rfl ne
 |cons p f=>rfl
theorem vP{a b:Int}(h1:0<=a)(h2:a<=b):dL (iT a) (iT b)=true:=by
 show(decide (0<=a)&&decide (a<=b))=true
 rw[decide_eq_true h1,decide_eq_true h2];rfl
theorem zDP:∀{f:List Pt},jP f->iD ((f.map aZ).map kix)=true:=by
 have kx:∀p:Pt,kix (aZ p)=(bZ p:Int):=λp=>by
  obtain⟨r,e,_⟩:=uT p
  rw[e]
  show jB (jX p)=_
  cases p<;>simp only[jX,bZ]<;>decide +kernel
 intro f h
 rw[List.map_map]
 induction f with
 |nil=>rfl
 |cons p f ih=>
  cases f with
  |nil=>rfl
  |cons q f=>
   have hc:=List.pairwise_cons.mp h
   have:=hc.1 q (.head _)
   show(decide (kix (aZ p)<kix (aZ q))&&iD ((q::f).map (kix∘aZ)))=true
   rw[kx,kx,decide_eq_true (by omega),ih hc.2];rfl
theorem zFX{n:Nat}{fm:Tv->Bool}(ih:∀f,dI n f->fm (bQ f)=true){p:Pt}(h:dN (n+1) p):dX fm (aZ p)=true:=by
 cases p with
 |nothing=>rw[aZ];rfl
 |truths bs=>
  rw[aZ,zDw]
  rcases h with rfl|rfl|rfl<;>rfl
 |numbers lo hi st=>
  obtain⟨_,_,_,h1,h2,h3,h4⟩:=h
  rw[aZ,zDi]
  show(if lo=hi then decide (st=0) else(decide (lo<hi)&&(decide (1<=st)&&decide ((hi-lo) % st=0))))=true
  by_cases z:lo=hi
  ·rw[if_pos z];exact decide_eq_true (h3.mpr z)
  ·have:st≠0:=λe=>z (h3.mp e)
   rw[if_neg z,decide_eq_true (by omega),decide_eq_true (by omega),decide_eq_true (h4 this)];rfl
 |texts w=>rw[aZ,zDS];exact zB h
 |lists a b f=>
  rw[jF,zDU]
  obtain⟨h1,h2,h3,h4,h5⟩:=h
  show(dL (iT a) (iT b)&&(if oF (iT b) then mN (bQ f) else eI fm (bQ f)))=true
  rw[vP h1 h2]
  by_cases z:b=0
  ·rw[show oF (iT b)=true from decide_eq_true z,h4 z];rfl
  ·rw[show oF (iT b)=false from decide_eq_false z,uJ (ih f (h5 z).2) (h5 z).1];rfl
 |record a b fs=>
  rw[iL,zDx]
  obtain⟨h1,h2,h3,h4,h5,h6,h7,h8⟩:=h
  show(dL (iT a) (iT b)&&(iS fm (.seq true (fs.map cH))&&sU (iT a) (iT b) (fs.map cH)))=true
  have e1:iS fm (.seq true (fs.map cH))=true:=by
   show(decide ((fs.map cH).length<=8)&&((fs.map cH).all (fL fm)&&eL ((fs.map cH).map λf=>cN (kH f))))=true
   rw[List.length_map,decide_eq_true h3,List.map_map,show(fs.map ((λf=>cN (kH f))∘cH))=fs.map (·.1) from rfl,(mW _).mpr h4,List.all_eq_true.mpr (λx hx=>by
    obtain⟨y,hy,rfl⟩:=List.mem_map.mp hx
    have hy:=h5 y hy
    show(txB (sT y.1)&&(true&&eI fm (bQ y.2.2)))=true
    have:=uW (ss:=[y.1]) λs hs=>by rw[List.mem_singleton.mp hs];exact hy.1
    rw[uJ (ih _ hy.2.2) hy.2.1,show txB (sT y.1)=true by simpa using this];rfl)]
   rfl
  have e2:sU (iT a) (iT b) (fs.map cH)=true:=by
   have em:((fs.map cH).filter fZ).length=fU fs:=by
    rw[List.filter_map,List.length_map];rfl
   show(if ((((fs.map cH).filter fZ).length:Nat):Int)<(((fs.map cH).length:Nat):Int)/\(a=(((fs.map cH).length:Nat):Int)\/b=((((fs.map cH).filter fZ).length:Nat):Int)) then false else decide (((((fs.map cH).filter fZ).length:Nat):Int)<=a)&&decide (b<=(((fs.map cH).length:Nat):Int)))=true
   rw[em,List.length_map,if_neg (λz=>by have:=h8 (by omega);omega),decide_eq_true h6,decide_eq_true h7];rfl
  rw[vP h1 h2,e1,e2];rfl
 |table a b w f=>
  rw[jE,zDT]
  obtain⟨⟨h1,hm⟩,h2,h3,h4,h5,h6,h7,h8⟩:=h
  show(dL (iT a) (iT b)&&(gQ (gX w)&&(mF (iT b) (gX w)&&eI fm (bQ f))))=true
  rw[vP h1.1 h2,zB h5,uJ (ih f h8) h7]
  cases w with
  |few ts=>cases h6
  |make hd lo hi ms=>
   show(true&&(true&&((decide (b≠0)&&decide (b<=lX lo hi ((ms.map sT).map cN) b))&&true)))=true
   rw[qE,show lX lo hi ms b=b from hm,decide_eq_true (by omega),decide_eq_true (Int.le_refl b)];rfl
theorem zAx:∀(k n:Nat) (f:List Pt),n<k->dI n f->kA k (bQ f)=true
 |0,n,f,h,_=>absurd h (Nat.not_lt_zero _)
 |k+1,n,f,h,ok=>by
  show((f.map aZ).all (dX (kA k))&&iD ((f.map aZ).map kix))=true
  rw[zDP ok.1,Bool.and_true]
  refine List.all_eq_true.mpr λx hx=>?_
  obtain⟨p,hp,rfl⟩:=List.mem_map.mp hx
  have hp:=ok.2 p hp
  match n,hp,h with
  |n+1,hp,h=>exact zFX (λf hf=>zAx k n f (by omega) hf) hp
end
end My
namespace My
open PySem L2 PyProof.Rows WordM
section
variable{P:Program}{w:World}{K:W.Frag}{mg:Str->Option Value}{base:Heap}
theorem sN{a b:Str}{A B:Prop}(h:a≠b)(k:B):if (false != eqV (.str a) (.str b))=true then A else B:=rX (λz=>absurd z h) λ_=>k
theorem sY{a:Str}{A B:Prop}(k:A):if (false != eqV (.str a) (.str a))=true then A else B:=rX (λ_=>k) λz=>absurd rfl z
end
section
variable{P:Program}{w:World}{K:W.Frag}{mg:Str->Option Value}{base:Heap}
variable{n:Nat}
def inF:Pt->List (List Pt)
 |.lists _ _ f=>[f]
 |.record _ _ fs=>fs.map (·.2.2)
 |.table _ _ _ f=>[f]
 |_=>[]
theorem oD{n:Nat}{p:Pt}(h:dN (n+1) p):(∀f∈inF p,dI n f)/\(inF p).length<=8:=by
 cases p with
 |lists a b f=>
  obtain⟨h1,h2,h3,h4,h5⟩:=h
  refine⟨λg hg=>?_,by simp[inF]⟩
  rw[List.mem_singleton.mp hg]
  by_cases z:b=0
  ·rw[h4 z];exact⟨.nil,(λp hp=>(nomatch hp))⟩
  ·exact(h5 z).2
 |record a b fs=>
  refine⟨λg hg=>?_,by show(fs.map _).length<=8;rw[List.length_map];exact h.2.2.1⟩
  obtain⟨x,hx,rfl⟩:=List.mem_map.mp hg
  exact(h.2.2.2.2.1 x hx).2.2
 |table a b w f=>
  refine⟨λg hg=>?_,by simp[inF]⟩
  rw[List.mem_singleton.mp hg]
  exact h.2.2.2.2.2.2.2
 |_=>exact⟨(λg hg=>(nomatch hg)),by simp[inF]⟩
def cP:Nat->Pt->Int
 |0,_=>0
 |n+1,p=>1+((inF p).map λf=>(f.map (cP n)).sum).sum
def cF(n:Nat)(f:List Pt):Int:=(f.map (cP n)).sum
def mx:List Int->Int
 |[]=>0
 |a::l=>max a (mx l)
def dP:Nat->Pt->Int
 |0,_=>0
 |n+1,p=>1+mx ((inF p).map λf=>mx (f.map (dP n)))
def dF(n:Nat)(f:List Pt):Int:=mx (f.map (dP n))
theorem qV:∀(l:List Int),0<=mx l
 |[]=>Int.le_refl 0
 |a::l=>by have:=qV l;show 0<=max a (mx l);omega
theorem wP:∀{l:List Int}{a:Int},a∈l->a<=mx l
 |b::l,a,h=>by
  show a<=max b (mx l)
  rcases List.mem_cons.mp h with rfl|h
  ·omega
  ·have:=wP h;omega
theorem wN:∀{l:List Int}{M:Int},0<=M->(∀a∈l,a<=M)->mx l<=M
 |[],_,h,_=>h
 |b::l,M,h,k=>by
  have h1:=k b (.head _)
  have h2:=wN h λa ha=>k a (.tail _ ha)
  show max b (mx l)<=M
  omega
theorem zCh{l:List Int}{M:Int}(h0:∀a∈l,0<=a)(h1:M∈l)(h2:∀a∈l,a<=M):mx l=M:=by
 have:=wN (h0 M h1) h2
 have:=wP h1
 omega
theorem zBX:∀(l:List Int) (a:Int),0<=a->mx (l++[a])=max (mx l) a
 |[],a,h=>by show max a 0=max 0 a;omega
 |b::l,a,h=>by show max b (mx (l++[a]))=max (max b (mx l)) a;rw[zBX l a h];omega
theorem zB8(n:Nat)(p:Pt):0<=dP n p:=by
 cases n with
 |zero=>exact Int.le_refl 0
 |succ n=>have:=qV ((inF p).map λf=>mx (f.map (dP n)));show 0<=1+mx _;omega
theorem zB7(fs:List (Str×Bool×List Pt)):(fs.map λx=>bQ x.2.2)=(inF (.record 0 0 fs)).map bQ:=by
 show _=(fs.map (·.2.2)).map bQ
 rw[List.map_map];rfl
def gW:PSp:=λas R=>∃(n:Nat) (p:Pt),as=[.va (aZ p)]/\dN n p/\R (.seq false ((inF p).map bQ))
theorem C14_:bC ["part"] ["part"] (aJ sR):=fsc (by decide +kernel)
theorem zLV(h:Has K mg "forms_within" sR)(B:Own mg)    : aE P w K mg base 1 "forms_within" ["part"] gW:=by
 have nd:=C14_.nd
 refine h.pgood C14_ (fun|_,_,_,_,_,_,[_],_=>rfl) (λf cdv A outer s H E F hr=>
   (aG (aV (bP hr (aQ hr (aA 0) aD) bA)
    (aH (aO (aX (bR (aB (aQ hr (aA 0) aD) aC)))))
    aU)
   (aG (aV (bP hr (aQ hr (aA 0) aD) bA)
    (aH (aO (aX (cK (sc:=aJ sR) (XN:=["part"]) (N:=["field"]) (fr:=[]) (bG (aQ hr (aA 0) aD)) (λ_ _ _ _ _=>(aQ hr (aA 0) aD))))))
    aU)
   (aG (aV (bP hr (aQ hr (aA 0) aD) bA)
    (aH (aO (aX (bR (aB (aQ hr (aA 0) aD) aC)))))
    aU)
   (aH (aO (aX (bR aC)))))))) (λas R q=>?_)
 obtain⟨n,p,rfl,ok,q⟩:=q
 match n,ok with
 |n+1,ok=>
 have il:=(oD ok).2
 cases p with
 |lists a b f=>rw[jF];exact⟨rfl,_,at0,_,rfl,sY ⟨_,cM (j:=3) rfl,by simp,q⟩⟩
 |record a b fs=>
  have il:fs.length<=8:=ok.2.2.1
  rw[iL]
  refine⟨rfl,_,at0,_,rfl,sN (by decide +kernel) ⟨_,at0,_,rfl,sY ⟨_,cM (j:=3) rfl,by rw[List.length_map];omega,dB cH (λx=>bQ x.2.2) (λx hx R q=>⟨_,cM (j:=2) rfl,q⟩) ?_⟩⟩⟩
  rw[zB7]
  exact q
 |table a b w f=>rw[jE];exact⟨rfl,_,at0,_,rfl,sN (by decide +kernel) ⟨_,at0,_,rfl,sN (by decide +kernel) ⟨_,at0,_,rfl,sY ⟨_,cM (j:=4) rfl,by simp,q⟩⟩⟩⟩
 |_=>rw[aZ];exact⟨rfl,_,at0,_,rfl,sN (by decide +kernel) ⟨_,at0,_,rfl,sN (by decide +kernel) ⟨_,at0,_,rfl,sN (by decide +kernel) ⟨by simp,q⟩⟩⟩⟩
theorem C55_:bC ["_law_part_here"] ["_law_part_here"] (aJ sC):=fsc (by decide +kernel)
theorem zLl(h:Has K mg "_law_inner_forms" sC)(B:Own mg)    : aE P w K mg base 1 "_law_inner_forms" ["_law_part_here"] gW:=by
 have nd:=C55_.nd
 refine h.pgood C55_ (fun|_,_,_,_,_,_,[_],_=>rfl) (λf cdv A outer s H E F hr=>
   (aG (aV (bP hr (aQ hr (aA 0) aD) bA)
    (aH (aO (aX (bR (aB (aQ hr (aA 0) aD) aC)))))
    aU)
   (aG (aV (bP hr (aQ hr (aA 0) aD) bA)
    (aH (aO (aX (cK (sc:=aJ sC) (XN:=["_law_part_here"]) (N:=["_law_field"]) (fr:=[]) (bG (aQ hr (aA 0) aD)) (λ_ _ _ _ _=>(aQ hr (aA 0) aD))))))
    aU)
   (aG (aV (bP hr (aQ hr (aA 0) aD) bA)
    (aH (aO (aX (bR (aB (aQ hr (aA 0) aD) aC)))))
    aU)
   (aH (aO (aX (bR aC)))))))) (λas R q=>?_)
 obtain⟨n,p,rfl,ok,q⟩:=q
 match n,ok with
 |n+1,ok=>
 have il:=(oD ok).2
 cases p with
 |lists a b f=>rw[jF];exact⟨rfl,_,at0,_,rfl,sY ⟨_,cM (j:=3) rfl,by simp,q⟩⟩
 |record a b fs=>
  have il:fs.length<=8:=ok.2.2.1
  rw[iL]
  refine⟨rfl,_,at0,_,rfl,sN (by decide +kernel) ⟨_,at0,_,rfl,sY ⟨_,cM (j:=3) rfl,by rw[List.length_map];omega,dB cH (λx=>bQ x.2.2) (λx hx R q=>⟨_,cM (j:=2) rfl,q⟩) ?_⟩⟩⟩
  rw[zB7]
  exact q
 |table a b w f=>rw[jE];exact⟨rfl,_,at0,_,rfl,sN (by decide +kernel) ⟨_,at0,_,rfl,sN (by decide +kernel) ⟨_,at0,_,rfl,sY ⟨_,cM (j:=4) rfl,by simp,q⟩⟩⟩⟩
 |_=>rw[aZ];exact⟨rfl,_,at0,_,rfl,sN (by decide +kernel) ⟨_,at0,_,rfl,sN (by decide +kernel) ⟨_,at0,_,rfl,sN (by decide +kernel) ⟨by simp,q⟩⟩⟩⟩
def zCF(n:Nat):PSp:=λas R=>∃p:Pt,as=[.va (aZ p)]/\dN n p/\R (iT (cP n p))
def oX(n:Nat):PSp:=λas R=>∃f:List Pt,as=[.va (bQ f)]/\dI n f/\R (iT (cF n f))
theorem C16_:bC ["form"] ["form"] (aJ oV):=fsc (by decide +kernel)
theorem zCO(h:Has K mg "form_parts" oV)(B:Own mg)(G15_:aE P w K mg base (2*n+2) "part_parts" ["part"] (zCF n))   : aE P w K mg base (2*n+3) "form_parts" ["form"] (oX n):=by
 have nd:=C16_.nd
 refine h.pgood C16_ (fun|_,_,_,_,_,_,[_],_=>rfl) (λf cdv A outer s H E F hr=>
   (aH (aO (bB (vX rfl) rfl B.sum boot_sum (aB (aX (cK (sc:=aJ oV) (XN:=["form"]) (N:=["part"]) (fr:=[]) (bG (aA 0)) (λ_ _ _ _ _=>(aI G15_ hr (aB (aA 0) aC))))) aC))))) (λas R q=>?_)
 obtain⟨f,rfl,ok,q⟩:=q
 have fl:=mZ ok.1
 refine⟨rfl,by rw[List.length_map];omega,dB aZ (λp=>iT (cP n p)) (λp hp R q=>⟨p,rfl,ok.2 p hp,q⟩) ⟨f.map (cP n),by rw[List.map_map];rfl,q⟩⟩
theorem C15_:bC ["part"] ["part"] (aJ oW):=fsc (by decide +kernel)
theorem zLU(h:Has K mg "part_parts" oW)(B:Own mg)(G14_:aE P w K mg base 1 "forms_within" ["part"] gW)(G16_:aE P w K mg base (2*n+3) "form_parts" ["form"] (oX n))   : aE P w K mg base (2*n+4) "part_parts" ["part"] (zCF (n+1)):=by
 have nd:=C15_.nd
 refine h.pgood C15_ (fun|_,_,_,_,_,_,[_],_=>rfl) (λf cdv A outer s H E F hr=>
   (aH (aO (aW bO aD (bB (vX rfl) rfl B.sum boot_sum (aB (aX (cK (sc:=aJ oW) (XN:=["part"]) (N:=["form"]) (fr:=[]) (bG (aI G14_ hr (aB (aA 0) aC))) (λ_ _ _ _ _=>(aI G16_ hr (aB (aA 0) aC))))) aC)))))) (λas R q=>?_)
 obtain⟨p,rfl,ok,q⟩:=q
 have il:=oD ok
 refine⟨rfl,n+1,p,rfl,ok,by rw[List.length_map];omega,dB bQ (λf=>iT (cF n f)) (λf hf R q=>⟨f,rfl,il.1 f hf,q⟩) ⟨(inF p).map (cF n),by rw[List.map_map];rfl,q⟩⟩
theorem zAv(hf:Has K mg "form_parts" oV)(hp:Has K mg "part_parts" oW)(B:Own mg)(Gw:aE P w K mg base 1 "forms_within" ["part"] gW):∀n:Nat,aE P w K mg base (2*n+3) "form_parts" ["form"] (oX n)
 |0=>zCO (n:=0) hf B (hp.pfalse C15_ (fun|_,_,_,_,_,_,[_],_=>rfl) λas R ⟨_,_,h,_⟩=>h)
 |n+1=>zCO (n:=n+1) hf B (zLU hp B Gw (zAv hf hp B Gw n))
def zCG(n:Nat):PSp:=λas R=>∃p:Pt,as=[.va (aZ p)]/\dN n p/\R (iT (dP n p))
def oY(n:Nat):PSp:=λas R=>∃f:List Pt,as=[.va (bQ f)]/\dI n f/\R (iT (dF n f))
theorem C18_:bC ["form"] ["form"] (aJ oT):=fsc (by decide +kernel)
theorem zCN(h:Has K mg "form_deep" oT)(B:Own mg)(G17_:aE P w K mg base (2*n+2) "part_deep" ["part"] (zCG n))   : aE P w K mg base (2*n+3) "form_deep" ["form"] (oY n):=by
 have nd:=C18_.nd
 refine h.pgood C18_ (fun|_,_,_,_,_,_,[_],_=>rfl) (λf cdv A outer s H E F hr=>
   (aH (aO (zAP rfl rfl B.max (aX (cK (sc:=aJ oT) (XN:=["form"]) (N:=["part"]) (fr:=[]) (bG (aA 0)) (λ_ _ _ _ _=>(aI G17_ hr (aB (aA 0) aC))))) aD)))) (λas R q=>?_)
 obtain⟨f,rfl,ok,q⟩:=q
 have fl:=mZ ok.1
 refine⟨rfl,by rw[List.length_map];omega,dB aZ (λp=>iT (dP n p)) (λp hp R q=>⟨p,rfl,ok.2 p hp,q⟩) ⟨f.map (dP n),by rw[List.map_map];rfl,λe=>?_,λM h1 h2=>?_⟩⟩
 ·rw[List.map_eq_nil_iff.mp e]at q;exact q
 ·unfold dF at q
  rw[zCh (λa ha=>by obtain⟨p,_,rfl⟩:=List.mem_map.mp ha;exact zB8 n p) h1 h2]at q
  exact q
theorem C17_:bC ["part"] ["part"] (aJ oU):=fsc (by decide +kernel)
theorem zLT(h:Has K mg "part_deep" oU)(B:Own mg)(G14_:aE P w K mg base 1 "forms_within" ["part"] gW)(G18_:aE P w K mg base (2*n+3) "form_deep" ["form"] (oY n))   : aE P w K mg base (2*n+4) "part_deep" ["part"] (zCG (n+1)):=by
 have nd:=C17_.nd
 refine h.pgood C17_ (fun|_,_,_,_,_,_,[_],_=>rfl) (λf cdv A outer s H E F hr=>
   (aH (aO (aW bO aD (zAP rfl rfl B.max (aX (cK (sc:=aJ oU) (XN:=["part"]) (N:=["form"]) (fr:=[]) (bG (aI G14_ hr (aB (aA 0) aC))) (λ_ _ _ _ _=>(aI G18_ hr (aB (aA 0) aC))))) aD))))) (λas R q=>?_)
 obtain⟨p,rfl,ok,q⟩:=q
 have il:=oD ok
 have q:R (iT (1+mx ((inF p).map (dF n)))):=q
 refine⟨rfl,n+1,p,rfl,ok,by rw[List.length_map];omega,dB bQ (λf=>iT (dF n f)) (λf hf R q=>⟨f,rfl,il.1 f hf,q⟩) ⟨(inF p).map (dF n),by rw[List.map_map];rfl,λe=>?_,λM h1 h2=>?_⟩⟩
 ·rw[e]at q;exact q
 ·rw[zCh (λa ha=>by obtain⟨p,_,rfl⟩:=List.mem_map.mp ha;exact qV _) h1 h2]at q
  exact q
theorem zAw(hf:Has K mg "form_deep" oT)(hp:Has K mg "part_deep" oU)(B:Own mg)(Gw:aE P w K mg base 1 "forms_within" ["part"] gW):∀n:Nat,aE P w K mg base (2*n+3) "form_deep" ["form"] (oY n)
 |0=>zCN (n:=0) hf B (hp.pfalse C17_ (fun|_,_,_,_,_,_,[_],_=>rfl) λas R ⟨_,_,h,_⟩=>h)
 |n+1=>zCN (n:=n+1) hf B (zLT hp B Gw (zAw hf hp B Gw n))
def oM(m:Nat):PSp:=λas R=>∃(n:Nat) (f:List Pt),m=n+1/\as=[.va (bQ f)]/\dI n f/\R (.seq true [iT (cF n f),iT (dF n f)])
theorem zHD{n:Nat}{f:List Pt}{i:Nat}{p:Pt}(h:f[i]?=some p):cF n (f.take (i+1))=cF n (f.take i)+cP n p:=by
 unfold cF
 obtain⟨hi,rfl⟩:=List.getElem?_eq_some_iff.mp h
 rw[List.take_succ_eq_append_getElem hi,List.map_append,List.sum_append]
 simp
theorem zHA{n:Nat}{f:List Pt}{i:Nat}{p:Pt}(h:f[i]?=some p):dF n (f.take (i+1))=max (dF n (f.take i)) (dP n p):=by
 unfold dF
 obtain⟨hi,rfl⟩:=List.getElem?_eq_some_iff.mp h
 rw[List.take_succ_eq_append_getElem hi,List.map_append]
 exact zBX _ _ (zB8 _ _)
theorem C56_:bC ["_law_form_here","_law_many","_law_deep","_law_part_here","_law_some"] ["_law_form_here"] (aJ kC):=fsc (by decide +kernel)
theorem zLk(h:Has K mg "_law_counts" kC)(B:Own mg)(G55_:aE P w K mg base 1 "_law_inner_forms" ["_law_part_here"] gW)(G56_:aE P w K mg base (2+n) "_law_counts" ["_law_form_here"] (oM n))   : aE P w K mg base (2+n+1) "_law_counts" ["_law_form_here"] (oM (n+1)):=by
 have nd:=C56_.nd
 refine h.pgood C56_ (fun|_,_,_,_,_,_,[_],_=>rfl) (λf cdv A outer s H E F hr=>
   (aG (aT 1 nd aD)
   (aG (aT 2 nd aD)
   (aG (eZ (m:=5) PassesOwn.never rfl (bG (aA 0)) (dH 3 (by decide) nd rfl (.inl rfl))
    (aG (fM (sc:=aJ kC) (XN:=["_law_form_here","_law_many","_law_deep","_law_part_here","_law_some"]) (N:=["_law_inner"]) (fr:=[]) 4 nd (bG (aI G55_ hr (aB (aA 3) aC))) (λ_ _ _ _ _=>hJ) (λ_ _ _ _ _=>(aI G56_ hr (aB (aA 0) aC))))
    (aG (aT 1 nd (aW bO (aW bO (aA 1) aD) (bB (vX rfl) rfl B.sum boot_sum (aB (aX (cK (sc:=aJ kC) (XN:=["_law_form_here","_law_many","_law_deep","_law_part_here","_law_some"]) (N:=["_law_one"]) (fr:=[]) (bG (aA 4)) (λ_ _ _ _ _=>(aQ hr (aA 0) aD)))) aC))))
    (aH (aT 2 nd (bB (iV rfl) rfl B.max boot_max (aB (aW bO (aX (bR (aB (aA 2) (aB aD aC)))) (aX (cK (sc:=aJ kC) (XN:=["_law_form_here","_law_many","_law_deep","_law_part_here","_law_some"]) (N:=["_law_one"]) (fr:=[]) (bG (aA 4)) (λ_ _ _ _ _=>(aW bO aD (aQ hr (aA 0) aD)))))) aC)))))))
   (aH (aO (bM (aB (aA 1) (aB (aA 2) aC))))))))) (λas R q=>?_)
 obtain⟨n',f,e,rfl,ok,q⟩:=q
 cases e
 have fl:=mZ ok.1
 refine⟨rfl,?_⟩
 refine jS aZ (l:=f) (λi ρ=>∃s3 s4:Sl,ρ=[.va (bQ f),.va (iT (cF n (f.take i))),.va (iT (dF n (f.take i))),s3,s4]) ⟨_,_,rfl⟩ ?_ ?_
 ·rintro i p _ N hp ⟨s3,s4,rfl⟩ hN
  have okp:=ok.2 p (List.mem_of_getElem? hp)
  match n,okp,hN with
  |n+1,okp,hN=>
  have il:=oD okp
  refine⟨n+1,p,rfl,okp,by rw[List.length_map];omega,dB bQ (λg=>.seq true [iT (cF n g),iT (dF n g)]) (λg hg R q=>⟨n,g,rfl,rfl,il.1 g hg,q⟩) ?_⟩
  refine⟨by rw[List.length_map];omega,dB (λg=>.seq true [iT (cF n g),iT (dF n g)]) (λg=>iT (cF n g)) (λg hg R q=>⟨_,at0,q⟩) ⟨(inF p).map (cF n),by rw[List.map_map];rfl,?_⟩⟩
  show PEnds.nx _ _
  refine nxE (ρ':=[.va (bQ f),.va (iT (cF (n+1) (f.take i)+1+((inF p).map (cF n)).sum)),.va (iT (dF (n+1) (f.take i))),.va (aZ p),.va (.seq false ((inF p).map λg=>.seq true [iT (cF n g),iT (dF n g)]))]) rfl ?_
  refine⟨by simp,by rw[List.length_map];omega,dB (λg=>.seq true [iT (cF n g),iT (dF n g)]) (λg=>iT (1+dF n g)) (λg hg R q=>⟨_,cM (j:=1) rfl,q⟩) ⟨by rw[List.length_map];simp;omega,.inr (.inl ⟨dF (n+1) (f.take i)::1::(inF p).map (λg=>1+dF n g),?_,by simp,λM h1 h2=>hN _ ⟨.va (aZ p),.va (.seq false ((inF p).map λg=>.seq true [iT (cF n g),iT (dF n g)])),?_⟩⟩)⟩⟩
  ·show [Tv.seq false ([iT _,iT 1]++_)]=_
   rw[List.map_cons,List.map_cons,List.map_map];rfl
  ·have eM:M=dF (n+1) (f.take (i+1)):=by
    rw[zHA hp]
    have ed:dP (n+1) p=1+mx ((inF p).map (dF n)):=rfl
    have a1:=h2 _ (.head _)
    have a2:=h2 1 (.tail _ (.head _))
    have a3:mx ((inF p).map (dF n))<=M-1:=wN (by omega) λa ha=>by
     obtain⟨g,hg,rfl⟩:=List.mem_map.mp ha
     have:=h2 (1+dF n g) (.tail _ (.tail _ (List.mem_map.mpr ⟨g,hg,rfl⟩)))
     omega
    have a4:=qV ((inF p).map (dF n))
    rcases List.mem_cons.mp h1 with e|h1
    ·omega
    rcases List.mem_cons.mp h1 with e|h1
    ·omega
    obtain⟨g,hg,rfl⟩:=List.mem_map.mp h1
    have:=wP (List.mem_map.mpr ⟨g,hg,rfl⟩:dF n g∈(inF p).map (dF n))
    omega
   rw[eM,zHD hp,show cP (n+1) p=1+((inF p).map (cF n)).sum from rfl,Int.add_assoc]
   rfl
 ·rintro _ ⟨s3,s4,rfl⟩
  rw[List.take_length]
  exact⟨by simp,q⟩
theorem zB2(h:Has K mg "_law_counts" kC)(B:Own mg)(Gi:aE P w K mg base 1 "_law_inner_forms" ["_law_part_here"] gW):∀n:Nat,aE P w K mg base (2+n) "_law_counts" ["_law_form_here"] (oM n)
 |0=>h.pfalse C56_ (fun|_,_,_,_,_,_,[_],_=>rfl) λas R ⟨_,_,e,_⟩=>by cases e
 |n+1=>zLk h B Gi (zB2 h B Gi n)
end
end My
namespace My
open PySem L2 PyProof.Rows WordM
section
variable{P:Program}{w:World}{K:W.Frag}{mg:Str->Option Value}{base:Heap}
theorem zI1(p:Pt):getS pC (jX p)=some (gA (bZ p)):=by
 cases p<;>rfl
theorem zEW{a b:Nat}(ha:a<=5)(hb:b<=5)(h:gA a=gA b):a=b:=by
 have h1:a=0\/a=1\/a=2\/a=3\/a=4\/a=5:=by omega
 have h2:b=0\/b=1\/b=2\/b=3\/b=4\/b=5:=by omega
 rcases h1 with e|e|e|e|e|e<;>subst e<;>rcases h2 with e|e|e|e|e|e<;>subst e<;>first|rfl|exact absurd h (by decide +kernel)
def tD:Option Pt->Tv
 |none=>nT
 |some p=>aZ p
def uA:PSp:=λas R=>∃(f:List Pt) (k:Nat),as=[.va (bQ f),.va (sT (gA k))]/\k<=5/\R (tD (f.find? λp=>decide (bZ p=k)))
theorem C13_:bC ["form","kind","part"] ["form","kind"] (aJ xI):=fsc (by decide +kernel)
theorem zLW(h:Has K mg "part_for" xI)(B:Own mg)(G12_:aE P w K mg base 1 "part_kind" ["part"] nP)   : aE P w K mg base 2 "part_for" ["form","kind"] uA:=by
 have nd:=C13_.nd
 refine h.pgood C13_ (fun|_,_,_,_,_,_,[_,_],_=>rfl) (λf cdv A outer s H E F hr=>
   (aG (eZ (m:=3) PassesOwn.never rfl (bG (aA 0)) (dH 2 (by decide) nd rfl (.inl rfl))
    (aH (aV (bP hr (aI G12_ hr (aB (aA 2) aC)) (aA 1))
     (aH (aO (aA 2)))
     aU)))
   (aH (aO iU)))) (λas R q=>?_)
 obtain⟨f,k,rfl,hk,q⟩:=q
 refine⟨rfl,?_⟩
 refine jS aZ (l:=f) (λi ρ=>(∀j p,j<i->f[j]?=some p->bZ p≠k)/\∃s,ρ=[.va (bQ f),.va (sT (gA k)),s]) ⟨λj p h=>absurd h (Nat.not_lt_zero _),.no,rfl⟩ ?_ ?_
 ·rintro i p _ N hp ⟨hj,s,rfl⟩ hN
  obtain⟨r,er,_⟩:=uT p
  refine⟨jX p,r,gA (bZ p),by rw[er],zI1 p,_,rfl,rX (λe=>?_) (λe=>?_)⟩
  ·have e:=zEW (zAt p) hk e
   have:f.find? (λp=>decide (bZ p=k))=some p:=by
    rw[List.find?_eq_some_iff_getElem]
    obtain⟨hi,rfl⟩:=List.getElem?_eq_some_iff.mp hp
    exact⟨decide_eq_true e,i,hi,rfl,λj hj'=>by
     have:=hj j f[j] hj' (List.getElem?_eq_getElem (by omega))
     simpa using this⟩
   rw[this]at q
   exact q
  ·refine hN _ ⟨λj p' hj' ep=>?_,_,rfl⟩
   by_cases z:j=i
   ·subst z;rw[hp]at ep;cases ep;exact λz=>e (by rw[z])
   ·exact hj j p' (by omega) ep
 ·rintro _ ⟨hj,s,rfl⟩
  have:f.find? (λp=>decide (bZ p=k))=none:=by
   rw[List.find?_eq_none]
   intro p hp
   obtain⟨j,hj',rfl⟩:=List.mem_iff_getElem.mp hp
   simpa using hj j _ hj' (List.getElem?_eq_getElem hj')
  rw[this]at q
  exact q
def wds:Nat->List Str
 |0=>["nothing"]
 |1=>["truths"]
 |2=>["numbers"]
 |3=>["texts"]
 |4=>["lists"]
 |_=>["record","table"]
def KW0:List (Str×Tv):=[("nothing",.seq true [sT "nothing"]),("truth",.seq true [sT "truths"]),("number",.seq true [sT "numbers"]),("text",.seq true [sT "texts"])]
def KW:List (Str×Tv):=[("nothing",.seq true [sT "nothing"]),("truth",.seq true [sT "truths"]),("number",.seq true [sT "numbers"]),("text",.seq true [sT "texts"]),("list",.seq true [sT "lists"]),("dict",.seq true [sT "record",sT "table"])]
theorem zHo{k:Nat}(h:k<=5):cU KW (gA k)=some (.seq true ((wds k).map sT)):=by
 have h1:k=0\/k=1\/k=2\/k=3\/k=4\/k=5:=by omega
 rcases h1 with e|e|e|e|e|e<;>subst e<;>rfl
theorem zAI{k:Nat}(h:k<=5)(p:Pt):jX p∈wds k↔bZ p=k:=by
 have h1:k=0\/k=1\/k=2\/k=3\/k=4\/k=5:=by omega
 rcases h1 with e|e|e|e|e|e<;>subst e<;>cases p<;>simp only[jX,bZ,wds]<;>decide +kernel
theorem zGh(f:List Pt)(k:Nat):atI ((f.filterMap λp=>if bZ p=k then some (aZ p) else none)++[nT]) 0=some (tD (f.find? λp=>decide (bZ p=k))):=by
 induction f with
 |nil=>rfl
 |cons p f ih=>
  rw[List.filterMap_cons,List.find?_cons]
  by_cases z:bZ p=k
  ·rw[if_pos z,decide_eq_true z];exact at0
  ·rw[if_neg z,decide_eq_false z];exact ih
def wA:PSp:=λas R=>∃(f:List Pt) (k:Nat),as=[.va (bQ f),.va (sT (gA k))]/\k<=5/\f.length<=6/\R (tD (f.find? λp=>decide (bZ p=k)))
theorem C57_:bC ["_law_form_here","_law_kind","_law_words_here","_law_some"] ["_law_form_here","_law_kind"] (aJ sB):=fsc (by decide +kernel)
theorem zLj(h:Has K mg "_law_part_due" sB)(B:Own mg)    : aE P w K mg base 1 "_law_part_due" ["_law_form_here","_law_kind"] wA:=by
 have nd:=C57_.nd
 refine h.pgood C57_ (fun|_,_,_,_,_,_,[_,_],_=>rfl) (λf cdv A outer s H E F hr=>
   (aG (zGz (i:=2) nd rfl (.inr rfl) (zAQ (lC (bM (aB bA aC)) (lC (bM (aB bA aC)) (lC (bM (aB bA aC)) (lC (bM (aB bA aC)) zBB)))) (by decide +kernel) (by decide)))
   (aG (fH (zGD 2 (zAQ (lC (bM (aB bA aC)) (lC (bM (aB bA (aB bA aC))) zBB)) (by decide +kernel) (by decide))))
   (aG (fM (sc:=aJ sB) (XN:=["_law_form_here","_law_kind","_law_words_here","_law_some"]) (N:=["_law_part_here","_law_kind","_law_words_here"]) (fr:=[1,2]) 3 nd (bG (aA 0)) (λ_ _ _ _ _=>(fJ (zAR λF=>(bY (lU hr.units) (aQ hr (aA 0) aD) (aQ hr (aA 2) (aA 1)) rfl)))) (λ_ _ _ _ _=>(aA 0)))
   (aH (aO (aQ hr (aW bO (aA 3) (aX (bR (aB iU aC)))) aD))))))) (λas R q=>?_)
 obtain⟨f,k,rfl,hk,lf,q⟩:=q
 refine⟨rfl,by simp,by simp,by simp,by simp,?_⟩
 show PEnds.nx _ _
 refine nxE (ρ':=[.va (bQ f),.va (sT (gA k)),.dct KW0,.no]) rfl ?_
 refine⟨⟨_,rfl⟩,by simp,by simp,_,rfl,by decide +kernel,?_⟩
 show PEnds.nx _ _
 refine nxE (ρ':=[.va (bQ f),.va (sT (gA k)),.dct KW,.no]) (by show _=_;rfl) ?_
 refine⟨by rw[List.length_map];omega,iQ aZ (λp=>if bZ p=k then some (aZ p) else none) (λp hp R' q'=>?_) ?_⟩
 ·obtain⟨r,er,_⟩:=uT p
  rw[er]
  rw[er]at q'
  refine⟨_,at0,_,zHo hk,zAu,_,rfl,?_⟩
  rw[zBy]
  by_cases z:bZ p=k
  ·rw[if_pos z]at q'
   rw[decide_eq_true ((zAI hk p).mpr z)]
   exact aN q'
  ·rw[if_neg z]at q'
   rw[decide_eq_false (λh=>z ((zAI hk p).mp h))]
   exact aL q'
 ·refine⟨by simp,?_,_,zGh f k,q⟩
  have:=List.length_filterMap_le (λp=>if bZ p=k then some (aZ p) else none) f
  show _+1<=100000
  omega
end
end My
namespace My
open PySem L2 PyProof.Rows WordM
section
variable{P:Program}{w:World}{K:W.Frag}{mg:Str->Option Value}{base:Heap}
variable{n:Nat}
def nY(n:Nat):PSp:=λas R=>∃(b:Bool) (T:Tv),as=[.va T,.va T]/\FlG b n T/\R (bT true)
theorem zAq{α:Type}(xs:List α):((xs.map λ_=>bT true).any λU=>L2.eqT U (bT false))=false:=by
 rw[Bool.eq_false_iff]
 intro z
 obtain⟨U,hU,e⟩:=List.any_eq_true.mp z
 obtain⟨_,_,rfl⟩:=List.mem_map.mp hU
 simp[L2.eqT,eqV]at e
theorem zBl{α:Type}(xs:List α):pD (bT false) (xs.map λ_=>bT true):=⟨trivial,λU hU=>by
 obtain⟨_,_,rfl⟩:=List.mem_map.mp hU
 trivial⟩
theorem zAd(xs:List Tv):List.zipWith (λT U=>Tv.seq true [T,U]) xs xs=xs.map λx=>.seq true [x,x]:=by
 induction xs with
 |nil=>rfl
 |cons x xs ih=>rw[List.zipWith_cons_cons,ih];rfl
theorem zGf{s:Str}:(false != eqV (.str s) (.str s))=true:=by simp[eqV]
theorem zE5{i:Int}:(false != eqV (.int i) (.int i))=true:=by simp[eqV]
theorem zE6{b:Bool}:(false != eqV (.bl b) (.bl b))=true:=by simp[eqV]
theorem C48_:bC ["_law_one","_law_other"] ["_law_one","_law_other"] (aJ mH):=fsc (by decide +kernel)
theorem zLs(h:Has K mg "_law_same" mH)(B:Own mg)(G48_:aE P w K mg base (1+n) "_law_same" ["_law_one","_law_other"] (nY n))   : aE P w K mg base (1+n+1) "_law_same" ["_law_one","_law_other"] (nY (n+1)):=by
 have nd:=C48_.nd
 refine h.pgood C48_ (fun|_,_,_,_,_,_,[_,_],_=>rfl) (λf cdv A outer s H E F hr=>
   (aG (aV (cG (bV (bI (bK "bool" gZ rfl B.isinstance (aA 0) (bJ (v:=.ty "bool") rfl B.bool_ boot_bool rfl))) (cW (bI (bK "bool" gZ rfl B.isinstance (aA 1) (bJ (v:=.ty "bool") rfl B.bool_ boot_bool rfl))))))
    (aH (aO (bX (bK "bool" gZ rfl B.isinstance (aA 0) (bJ (v:=.ty "bool") rfl B.bool_ boot_bool rfl)) (bX (bK "bool" gZ rfl B.isinstance (aA 1) (bJ (v:=.ty "bool") rfl B.bool_ boot_bool rfl)) (cZ (cE (eN hr.units).op (aA 0) (aA 1)))))))
    aU)
   (aG (aV (cG (bV (bI (bK "int" kQ rfl B.isinstance (aA 0) (bJ (v:=.ty "int") rfl B.int_ boot_int rfl))) (cW (bI (bK "int" kQ rfl B.isinstance (aA 1) (bJ (v:=.ty "int") rfl B.int_ boot_int rfl))))))
    (aH (aO (bX (bK "int" kQ rfl B.isinstance (aA 0) (bJ (v:=.ty "int") rfl B.int_ boot_int rfl)) (bX (bK "int" kQ rfl B.isinstance (aA 1) (bJ (v:=.ty "int") rfl B.int_ boot_int rfl)) (cZ (cE (eN hr.units).op (aA 0) (aA 1)))))))
    aU)
   (aG (aV (cG (bV (bI (bK "str" kP rfl B.isinstance (aA 0) (bJ (v:=.ty "str") rfl B.str_ boot_str rfl))) (cW (bI (bK "str" kP rfl B.isinstance (aA 1) (bJ (v:=.ty "str") rfl B.str_ boot_str rfl))))))
    (aH (aO (bX (bK "str" kP rfl B.isinstance (aA 0) (bJ (v:=.ty "str") rfl B.str_ boot_str rfl)) (bX (bK "str" kP rfl B.isinstance (aA 1) (bJ (v:=.ty "str") rfl B.str_ boot_str rfl)) (cZ (cE (eN hr.units).op (aA 0) (aA 1)))))))
    aU)
   (aG (aV (cG (bV (bY oK (aA 0) iU) (cW (bY oK (aA 1) iU))))
    (aH (aO (bX (cE (oK).op (aA 0) iU) (cZ (cE (oK).op (aA 1) iU)))))
    aU)
   (aG (aV (cG (bV (bI (bK "dict" mQ rfl B.isinstance (aA 0) (bJ (v:=.ty "dict") rfl B.dict_ boot_dict rfl))) (cW (bI (bK "dict" mQ rfl B.isinstance (aA 1) (bJ (v:=.ty "dict") rfl B.dict_ boot_dict rfl))))))
    (aG (aV (cG (bV (cI (bI (bK "dict" mQ rfl B.isinstance (aA 0) (bJ (v:=.ty "dict") rfl B.dict_ boot_dict rfl)))) (bV (cI (bI (bK "dict" mQ rfl B.isinstance (aA 1) (bJ (v:=.ty "dict") rfl B.dict_ boot_dict rfl)))) (cW (dO hr (aX (nC (mX rfl) rfl B.sorted boot_sorted (aB (aA 0) aC))) (aX (nC (mX rfl) rfl B.sorted boot_sorted (aB (aA 1) aC))))))))
     (aH (aO cB))
     aU)
    (aH (aO (cE (zAh hr.units).op cB (aX (cK (sc:=aJ mH) (XN:=["_law_one","_law_other"]) (N:=["_law_name","_law_one","_law_other"]) (fr:=[0,1]) (bG (aA 0)) (λ_ _ _ _ _=>(aI G48_ hr (aB (aQ hr (aA 1) (aA 0)) (aB (aQ hr (aA 2) (aA 0)) aC)))))) rfl))))
    aU)
   (aG (aV (cG (bV (dO hr (bK "list" tL rfl B.isinstance (aA 0) (bJ (v:=.ty "list") rfl B.list_ boot_list rfl)) (bK "list" tL rfl B.isinstance (aA 1) (bJ (v:=.ty "list") rfl B.list_ boot_list rfl))) (cW (dO hr (bK "tuple" fR rfl B.isinstance (aA 0) (bJ (v:=.ty "tuple") rfl B.tuple_ boot_tuple rfl)) (bK "tuple" fR rfl B.isinstance (aA 1) (bJ (v:=.ty "tuple") rfl B.tuple_ boot_tuple rfl))))))
    (aH (aO cB))
    aU)
   (aH (aO (bX (cE (eN hr.units).op (bB bL rfl B.len PySem.boot_len (aB (aA 0) aC)) (bB bL rfl B.len PySem.boot_len (aB (aA 1) aC))) (cZ (cE (zAh hr.units).op cB (aX (uV (sc:=aJ mH) (XN:=["_law_one","_law_other"]) (N:=["_law_a","_law_b"]) (own:=2) (fr:=[]) rfl ⟨rfl,by decide +kernel,by decide +kernel,by decide +kernel,rfl,by decide +kernel,by decide,by decide +kernel⟩ (by decide) (zHQ rfl B.zip (aB (aA 0) (aB (aA 1) aC))) (λ_ _ _ _ _=>(zBD 2 rfl (pW (dH 0 (by decide) (show(["_law_a","_law_b"]:List Str).Nodup by decide +kernel) rfl (by first|exact Or.inl rfl|exact Or.inr rfl)) (pW (dH 1 (by decide) (show(["_law_a","_law_b"]:List Str).Nodup by decide +kernel) rfl (by first|exact Or.inl rfl|exact Or.inr rfl)) zAO)))) (λ_ _ _ _ _=>hJ) (λ_ _ _ _ _=>(aI G48_ hr (aB (aA 0) (aB (aA 1) aC)))))) rfl)))))))))))) (λas R q=>?_)
 obtain⟨fb,T,rfl,h,q⟩:=q
 cases T with
 |dct k=>simp[FlG]at h
 |leaf v=>
  cases v with
  |non=>exact⟨rfl,_,rfl,aL ⟨_,rfl,aL ⟨_,rfl,aL ⟨_,rfl,aL ⟨_,rfl,aL ⟨_,rfl,aL ⟨_,rfl,aN (aN ⟨_,rfl,aN q⟩)⟩⟩⟩⟩⟩⟩⟩
  |bl b=>
   rw[<-zE6 (b:=b)]at q
   exact⟨rfl,_,rfl,aN (aN ⟨_,rfl,aN ⟨_,rfl,aN q⟩⟩)⟩
  |int i=>
   rw[<-zE5 (i:=i)]at q
   exact⟨rfl,_,rfl,aL ⟨_,rfl,aL ⟨_,rfl,aN (aN ⟨_,rfl,aN ⟨_,rfl,aN q⟩⟩)⟩⟩⟩
  |str s=>
   rw[<-zGf (s:=s)]at q
   exact⟨rfl,_,rfl,aL ⟨_,rfl,aL ⟨_,rfl,aL ⟨_,rfl,aL ⟨_,rfl,aN (aN ⟨_,rfl,aN ⟨_,rfl,aN q⟩⟩)⟩⟩⟩⟩⟩
  |_=>simp[FlG]at h
 |seq t xs=>
  cases t with
  |false=>
   refine⟨rfl,_,rfl,aL ⟨_,rfl,aL ⟨_,rfl,aL ⟨_,rfl,aL ⟨_,rfl,aL ⟨_,rfl,aL ⟨_,rfl,aL ⟨_,rfl,aL ⟨_,rfl,aL ⟨_,rfl,aL ⟨_,rfl,aL ⟨_,rfl,aL ⟨_,rfl,dG (λ_=>⟨false,xs,xs,rfl,?_⟩) (λz=>absurd rfl z)⟩⟩⟩⟩⟩⟩⟩⟩⟩⟩⟩⟩⟩
   rw[zAd]
   refine⟨by rw[List.length_map];have:=h.1;omega,dB (λx=>.seq true [x,x]) (λx=>bT true) (λx hx R q=>⟨_,rfl,rfl,_,_,rfl,_,_,rfl,rfl,fb,x,rfl,h.2 x hx,q⟩) ⟨zBl xs,?_⟩⟩
   rw[zAq]
   exact q
  |true=>
   refine⟨rfl,_,rfl,aL ⟨_,rfl,aL ⟨_,rfl,aL ⟨_,rfl,aL ⟨_,rfl,aL ⟨_,rfl,aL ⟨_,rfl,aL ⟨_,rfl,aL ⟨_,rfl,aL ⟨_,rfl,aL ⟨_,rfl,aL ⟨_,rfl,aL ⟨_,rfl,dG (λ_=>⟨true,xs,xs,rfl,?_⟩) (λz=>absurd rfl z)⟩⟩⟩⟩⟩⟩⟩⟩⟩⟩⟩⟩⟩
   rw[zAd]
   refine⟨by rw[List.length_map];have:=h.1;omega,dB (λx=>.seq true [x,x]) (λx=>bT true) (λx hx R q=>⟨_,rfl,rfl,_,_,rfl,_,_,rfl,rfl,fb,x,rfl,h.2 x hx,q⟩) ⟨zBl xs,?_⟩⟩
   rw[zAq]
   exact q
theorem zBm(h:Has K mg "_law_same" mH)(B:Own mg):∀n:Nat,aE P w K mg base (1+n) "_law_same" ["_law_one","_law_other"] (nY n)
 |0=>h.pfalse C48_ (fun|_,_,_,_,_,_,[_,_],_=>rfl) λas R ⟨_,_,_,h,_⟩=>by simp[FlG]at h
 |n+1=>zLs h B (zBm h B n)
end
section
variable{P:Program}{w:World}{K:W.Frag}{mg:Str->Option Value}{base:Heap}
variable{n:Nat}
def tZ:PSp:=λas R=>∃nm tx st sp,∃many:Int,as=[.dk,.va (dC nm tx st sp),.va (iT many)]/\eY nm tx st sp/\0<=many/\many<=60/\∀Us:List Tv,(Us.length:Int)=many->(∀U∈Us,VD nm tx 4 U)->R (.seq false Us)
theorem C41_:bC ["_law_deck_here","_law_world_here","_law_many","_law_way","_law_deep"] ["_law_deck_here","_law_world_here","_law_many"] (aJ sH):=fsc (by decide +kernel)
theorem zLz(h:Has K mg "_law_samples" sH)(B:Own mg)(G31_:aE P w K mg base 2 "_law_take" ["_law_deck_here","_law_most"] dM)(G40_:aE P w K mg base 14 "_law_value" ["_law_deck_here","_law_world_here","_law_deep","_law_way"] (lF 4))   : aE P w K mg base 15 "_law_samples" ["_law_deck_here","_law_world_here","_law_many"] tZ:=by
 have nd:=C41_.nd
 refine h.pgood C41_ (fun|_,_,_,_,_,_,[_,_,_],_=>rfl) (λf cdv A outer s H E F hr=>
   (aG (aT 3 nd (aQ hr (aX (bR (aB aD (aB aD (aB aD (aB aD (aB aD (aB aD aC)))))))) (aI G31_ hr (aY 0 (aB aD aC)))))
   (aG (aT 4 nd (aQ hr (aX (bR (aB aD (aB aD (aB aD (aB aD aC)))))) (aI G31_ hr (aY 0 (aB aD aC)))))
   (aH (aO (aX (cK (sc:=aJ sH) (XN:=["_law_deck_here","_law_world_here","_law_many","_law_way","_law_deep"]) (N:=["_law_k","_law_deck_here","_law_world_here","_law_way","_law_deep"]) (fr:=[0,1,3,4]) (fT rfl B.range (aB (aA 2) aC)) (λ_ _ _ _ _=>(aI G40_ hr (aY 1 (aB (aA 2) (aB (aA 4) (aB (aA 3) aC))))))))))))) (λas R q=>?_)
 obtain⟨nm,tx,st,sp,many,rfl,hw,m0,m6,q⟩:=q
 refine⟨rfl,by simp,rfl,6,rfl,by decide,bD (by decide) (by decide),λr r0 r1=>?_⟩
 obtain⟨W,hW,hWm⟩:=gG (l:=[iT 9,iT 9,iT 1,iT 5,iT 7,iT 8]) r0 r1
 have hw':∃d:Int,W=iT d/\0<=d/\d<=9:=by
  simp only[List.mem_cons,List.not_mem_nil,or_false]at hWm
  rcases hWm with e|e|e|e|e|e<;>subst e<;>exact⟨_,rfl,by decide,by decide⟩
 obtain⟨way,rfl,w0,w9⟩:=hw'
 refine⟨_,hW,by simp,rfl,4,rfl,by decide,bD (by decide) (by decide),λc c0 c1=>?_⟩
 obtain⟨D,hD,hDm⟩:=gG (l:=[iT 2,iT 2,iT 1,iT 3]) c0 c1
 have hd':∃d:Int,D=iT d/\0<=d/\d<4:=by
  simp only[List.mem_cons,List.not_mem_nil,or_false]at hDm
  rcases hDm with e|e|e|e<;>subst e<;>exact⟨_,rfl,by decide,by decide⟩
 obtain⟨d,rfl,d0,d1⟩:=hd'
 refine⟨_,hD,_,rfl,by omega,by omega,by rw[eQ];omega,nA (λT U=>VD nm tx 4 U) (λT hT R hR=>⟨rfl,nm,tx,st,sp,d,way,rfl,hw,d0,by omega,w0,w9,λU hU=>hR U hU⟩) (λUs hUs=>?_)⟩
 refine q Us ?_ (tT (g:=VD nm tx 4) (λa b h=>h) hUs)
 have:=hUs.length
 rw[eQ]at this
 omega
theorem zH6{f:List Pt}(ok:dI 4 f)(k:Nat):FlG true 17 (tD (f.find? λp=>decide (bZ p=k))):=by
 cases h:f.find? λp=>decide (bZ p=k) with
 |none=>trivial
 |some p=>exact((wR 4 ok).2 (aZ p) (List.mem_map.mpr ⟨p,List.mem_of_find?_eq_some h,rfl⟩)).le (by decide)
def vE:PSp:=λas R=>∃f:List Pt,as=[.va (bQ f)]/\dI 4 f/\R (bT true)
theorem C58_:bC ["_law_form_here","_law_kind"] ["_law_form_here"] (aJ wU):=fsc (by decide +kernel)
theorem zLi(h:Has K mg "_law_right" wU)(B:Own mg)(G48_:aE P w K mg base 18 "_law_same" ["_law_one","_law_other"] (nY 17))(G56_:aE P w K mg base 7 "_law_counts" ["_law_form_here"] (oM 5))(G18_:aE P w K mg base 11 "form_deep" ["form"] (oY 4))(G16_:aE P w K mg base 11 "form_parts" ["form"] (oX 4))(G28_:aE P w K mg base 60 "is_form" ["thing"] (oA 9 (kA 9)))(G57_:aE P w K mg base 1 "_law_part_due" ["_law_form_here","_law_kind"] wA)(G13_:aE P w K mg base 2 "part_for" ["form","kind"] uA)   : aE P w K mg base 61 "_law_right" ["_law_form_here"] vE:=by
 have nd:=C58_.nd
 refine h.pgood C58_ (fun|_,_,_,_,_,_,[_],_=>rfl) (λf cdv A outer s H E F hr=>
   (aG (aV (cG (bV (bY zFL (aI G28_ hr (aB (aA 0) aC)) cB) (cW (cI (bI (aI G48_ hr (aB (bM (aB (aI G16_ hr (aB (aA 0) aC)) (aB (aI G18_ hr (aB (aA 0) aC)) aC))) (aB (aI G56_ hr (aB (aA 0) aC)) aC))))))))
    (aH (aO cB))
    aU)
   (aG (eZ (m:=2) PassesOwn.never rfl (bG (bM (aB bA (aB bA (aB bA (aB bA (aB bA (aB bA aC)))))))) (dH 1 (by decide) nd rfl (.inl rfl))
    (aH (aV (cI (bI (aI G48_ hr (aB (aI G13_ hr (aB (aA 0) (aB (aA 1) aC))) (aB (aI G57_ hr (aB (aA 0) (aB (aA 1) aC))) aC)))))
     (aH (aO cB))
     aU)))
   (aH (aO cB))))) (λas R q=>?_)
 obtain⟨f,rfl,ok,q⟩:=q
 have fl:=mZ ok.1
 refine⟨rfl,bQ f,rfl,((wR 4 ok).le (by decide)).fle,?_⟩
 rw[zAx 9 4 f (by decide) ok]
 refine⟨_,rfl,aL ⟨f,rfl,ok,f,rfl,ok,by simp,4,f,rfl,rfl,ok,false,_,rfl,⟨by simp,λx hx=>?_⟩,_,rfl,aL ?_⟩⟩
 ·simp only[List.mem_cons,List.not_mem_nil,or_false]at hx
  rcases hx with rfl|rfl<;>exact λz=>nomatch z
 refine⟨by simp,?_⟩
 refine jM (λi ρ=>∃s:Sl,ρ=[.va (bQ f),s]) ⟨.no,rfl⟩ ?_ (λ_ ⟨_,e⟩=>by subst e;exact q)
 rintro i T _ N hT ⟨s,rfl⟩ hN
 have ho:∃k:Nat,T=sT (gA k)/\k<=5:=by
  have:=List.mem_of_getElem? hT
  simp only[List.mem_cons,List.not_mem_nil,or_false]at this
  rcases this with rfl|rfl|rfl|rfl|rfl|rfl
  ·exact⟨5,rfl,by decide⟩
  ·exact⟨3,rfl,by decide⟩
  ·exact⟨0,rfl,by decide⟩
  ·exact⟨4,rfl,by decide⟩
  ·exact⟨1,rfl,by decide⟩
  ·exact⟨2,rfl,by decide⟩
 obtain⟨k,rfl,hk⟩:=ho
 exact⟨f,k,rfl,hk,f,k,rfl,hk,fl,true,_,rfl,zH6 ok k,_,rfl,aL (hN _ ⟨_,rfl⟩)⟩
end
end My
namespace My
open PySem L2 PyProof.Rows WordM
section
variable{P:Program}{w:World}{K:W.Frag}{mg:Str->Option Value}{base:Heap}
theorem C59_:bC ["_law_script","_law_deck_here","_law_world_here","_law_k","_law_one","_law_other"] ["_law_script"] (aJ iI):=fsc (by decide +kernel)
theorem zIV{f:Addr}{fd:FuncData}(F:Fun K "law" "law" iI f fd)(B:Own mg)(G30_:Good P w K mg base 1 "_law_deck" ["_law_script"] (zBK K))(G36_:aE P w K mg base 5 "_law_world" ["_law_deck_here"] vC)(G58_:aE P w K mg base 61 "_law_right" ["_law_form_here"] vE)(G54_:aE P w K mg base 13 "_law_due" ["_law_values"] (lV 5))(G41_:aE P w K mg base 15 "_law_samples" ["_law_deck_here","_law_world_here","_law_many"] tZ)(G31_:aE P w K mg base 2 "_law_take" ["_law_deck_here","_law_most"] dM)(G47_:aE P w K mg base (6+3*4) "_law_form" ["_law_deck_here","_law_world_here","_law_deep","_law_most"] (jO 4))   : FnOk P w K mg base CX0 62 f fd ["_law_script"] (rC K):=by
 refine F.ok C59_ (λvs H Q E q=>?_) (λcdv A outer s H vs Q E hr q=>?_)
 ·obtain⟨a,ns,rfl,_⟩:=q
  rfl
 ·obtain⟨aa,ns,rfl,hS,hlen,q⟩:=q
  have nd:=C59_.nd
  refine⟨_,(gJ (hZ (i:=1) nd rfl (by first|exact Or.inl rfl|exact Or.inr rfl) (rK G30_ (hr.mono (by omega)) rfl (dA (pv 0) dS)))
   (zGV λF=>(aG (aT 2 nd (aI G36_ hr (aY 1 aC)))
   (aG (aV (cI (bI (aI G58_ hr (aB (bM aC) aC))))
    (aH (aO cB))
    aU)
   (aG (eZ (m:=6) PassesOwn.never rfl (fT rfl B.range (aB aD aC)) (dH 3 (by decide) nd rfl (.inl rfl))
    (aG (aT 4 nd (aI G54_ hr (aB (aI G41_ hr (aY 1 (aB (aA 2) (aB (aW bO aD (aI G31_ hr (aY 1 (aB aD aC)))) aC)))) aC)))
    (aG (aT 5 nd (aI G47_ hr (aY 1 (aB (aA 2) (aB (aI G31_ hr (aY 1 (aB aD aC))) (aB aD aC))))))
    (aH (aV (cG (bV (cI (bI (aI G58_ hr (aB (aA 4) aC)))) (bV (cI (bI (aI G58_ hr (aB (aA 5) aC)))) (cW (cI (bI (aI G58_ hr (aB (aA 4) aC))))))))
     (aH (aO cB))
     aU)))))
   (aH (aO cB))))))),?_⟩
  refine⟨_,rfl,aa,ns,rfl,hS,λp c H1 np nc d1 s1=>?_⟩
  refine zHn (N:=["_law_script","_law_deck_here","_law_world_here","_law_k","_law_one","_law_other"]) (by decide) d1 q ?_
  clear q hS hlen hr d1 s1 np nc
  refine⟨rfl,rfl,λnm tx st sp wd=>?_⟩
  refine⟨by simp,[],rfl,⟨.nil,(λp hp=>(nomatch hp))⟩,_,rfl,aL ?_⟩
  refine⟨2,rfl,by decide,by decide,?_⟩
  refine jM (λi ρ=>∃s3 s4 s5:Sl,ρ=[.no,.dk,.va (dC nm tx st sp),s3,s4,s5]) ⟨.no,.no,.no,rfl⟩ ?_ (λ_ ⟨_,_,_,e⟩=>by subst e;rfl)
  rintro i T _ N hT ⟨s3,s4,s5,rfl⟩ hN
  refine⟨rfl,rfl,4,rfl,by decide,bD (by decide) (by decide),λc c0 c1=>?_⟩
  refine⟨nm,tx,st,sp,1+c,rfl,wd,by omega,by omega,λUs ul u1=>?_⟩
  refine⟨4,nm,tx,st,sp,Us,rfl,wd,u1,by omega,by decide,by decide,λf fok _ _=>?_⟩
  refine⟨rfl,rfl,3,rfl,by decide,bD (by decide) (by decide),λr r0 r1=>?_⟩
  refine⟨nm,tx,st,sp,r,6,rfl,wd,r0,by omega,by decide,by decide,λg _ gok=>?_⟩
  exact⟨f,rfl,fok,_,rfl,aL ⟨g,rfl,gok,_,rfl,aL ⟨f,rfl,fok,_,rfl,aL (hN _ ⟨_,_,_,rfl⟩)⟩⟩⟩
end
end My
namespace My
open PySem L2 PyProof.Rows
open WordM
open PySem
theorem all_mk{l:W.OpenLaw}{w:World}{K:W.Frag}{h:Heap}{mg:Str->Option Value}{fa:Addr}(X:K.In h)(G:h.Ns mainGlobals mg)(hfa:mg "law"=some (.ref fa)){f59:Addr}{v_59 t_59:Option Addr}{p_59:Array (Option Value)}{u_59 w_59 x_59 y_59 r_59 q_59:Value}
 (h0_:Has K mg "is_whole" s0_)
 (h1_:Has K mg "is_sign" s1_)
 (h2_:Has K mg "is_text" s2_)
 (h3_:Has K mg "is_run" s3_)
 (h4_:Has K mg "rises" s4_)
 (h5_:Has K mg "is_few" s5_)
 (h6_:Has K mg "are_marks" s6_)
 (h7_:Has K mg "is_make" s7_)
 (h8_:Has K mg "is_words" s8_)
 (h9_:Has K mg "tails_many" s9_)
 (h10_:Has K mg "signs_of" sS)
 (h11_:Has K mg "words_many" xK)
 (h12_:Has K mg "part_kind" xJ)
 (h13_:Has K mg "part_for" xI)
 (h14_:Has K mg "forms_within" sR)
 (h15_:Has K mg "part_parts" oW)
 (h16_:Has K mg "form_parts" oV)
 (h17_:Has K mg "part_deep" oU)
 (h18_:Has K mg "form_deep" oT)
 (h19_:Has K mg "are_truths" sQ)
 (h20_:Has K mg "are_bounds" xH)
 (h21_:Has K mg "lets_some_by" sP)
 (h22_:Has K mg "is_lists" sO)
 (h23_:Has K mg "is_field" sM)
 (h24_:Has K mg "are_fields" mK)
 (h25_:Has K mg "is_record" oS)
 (h26_:Has K mg "is_table" sL)
 (h27_:Has K mg "is_part" sK)
 (h28_:Has K mg "is_form" mJ)
 (h29_:Has K mg "_law_mixed" xG)
 (h30_:Has K mg "_law_deck" xF)
 (h31_:Has K mg "_law_take" xE)
 (h32_:Has K mg "_law_signs" xD)
 (h33_:Has K mg "_law_text" xC)
 (h34_:Has K mg "_law_unlike" xB)
 (h35_:Has K mg "_law_far" xA)
 (h36_:Has K mg "_law_world" sJ)
 (h37_:Has K mg "_law_number" wZ)
 (h38_:Has K mg "_law_leaf" wY)
 (h39_:Has K mg "_law_dict" sI)
 (h40_:Has K mg "_law_value" oR)
 (h41_:Has K mg "_law_samples" sH)
 (h42_:Has K mg "_law_make" sG)
 (h43_:Has K mg "_law_some_words" sF)
 (h44_:Has K mg "_law_record" kF)
 (h45_:Has K mg "_law_table" sE)
 (h46_:Has K mg "_law_part" sD)
 (h47_:Has K mg "_law_form" mI)
 (h48_:Has K mg "_law_same" mH)
 (h49_:Has K mg "_law_divisor" wX)
 (h50_:Has K mg "_law_mark" wW)
 (h51_:Has K mg "_law_words" kE)
 (h52_:Has K mg "_law_run" wV)
 (h53_:Has K mg "_law_dicts" kD)
 (h54_:Has K mg "_law_due" gE)
 (h55_:Has K mg "_law_inner_forms" sC)
 (h56_:Has K mg "_law_counts" kC)
 (h57_:Has K mg "_law_part_due" sB)
 (h58_:Has K mg "_law_right" wU)
 (a59:W.nsIn K mainGlobals "law"=some (some (.ref f59))) (l59:K.lookup f59=some ⟨u_59,v_59,.func (W.fnOf "law" "law" (gP iI) (eX iI) (aJ iI) .none w_59 x_59 y_59 t_59 r_59 q_59),p_59⟩) (c59:W.codeIn K r_59 "law"=true) (k59:W.keepIn K (.ref f59)=true)
    (z0:W.nsIn K mainGlobals "len"=some none) (z1:W.nsIn K mainGlobals "range"=some none) (z2:W.nsIn K mainGlobals "isinstance"=some none) (z3:W.nsIn K mainGlobals "int"=some none) (z4:W.nsIn K mainGlobals "bool"=some none) (z5:W.nsIn K mainGlobals "str"=some none) (z6:W.nsIn K mainGlobals "list"=some none) (z7:W.nsIn K mainGlobals "tuple"=some none) (z8:W.nsIn K mainGlobals "dict"=some none) (z9:W.nsIn K mainGlobals "sum"=some none) (z10:W.nsIn K mainGlobals "min"=some none) (z11:W.nsIn K mainGlobals "max"=some none) (z12:W.nsIn K mainGlobals "all"=some none) (z13:W.nsIn K mainGlobals "any"=some none) (z14:W.nsIn K mainGlobals "abs"=some none) (z15:W.nsIn K mainGlobals "zip"=some none) (z16:W.nsIn K mainGlobals "sorted"=some none) (z17:W.nsIn K mainGlobals "set"=some none) (z18:W.nsIn K mainGlobals "enumerate"=some none) {aSIGNS aMARKS aPK:Addr} {tk1 tk2 tk3 tk4 tk5 tk6 tk7 tk8 um1 um2 um3 um4 tp1 tp2 tp3 tp4 tp5 tp6 tp7 tp8 tp9 tp10 tp11 tp12 tp13 tp14:Tok} {epS nM epP:Nat} {ddM:Option Addr} {slM:Array (Option Value)} {aKN:Addr} {tkP tkF tkM uk1 uk2 uk3 uk4 uk5 uk6:Tok} {nK:Nat} {slK:Array (Option Value)}
    (aS:W.nsIn K mainGlobals "SIGNS"=some (some (.ref aSIGNS)))
    (lS:K.lookup aSIGNS=some ⟨.type "dict",none,.dict #[{hash:=PyData.keyHash w.params ("figure":Str),key:=.str "figure" tk1,val:=.str "0123456789" tk2},{hash:=PyData.keyHash w.params ("great":Str),key:=.str "great" tk3,val:=.str "ABCDEFGHIJKLMNOPQRSTUVWXYZ" tk4},{hash:=PyData.keyHash w.params ("other":Str),key:=.str "other" tk5,val:=.str " !\"#$&'()*+,-./:;<=>?\x40[\\]^_`{|}~" tk6},{hash:=PyData.keyHash w.params ("small":Str),key:=.str "small" tk7,val:=.str "abcdefghijklmnopqrstuvwxyz" tk8}] epS,#[]⟩)
    (aM:W.nsIn K mainGlobals "MARKS"=some (some (.ref aMARKS)))
    (lM:K.lookup aMARKS=some ⟨.type "tuple",ddM,.seq #[.str "figure" um1,.str "great" um2,.str "other" um3,.str "small" um4] nM,slM⟩)
    (aP:W.nsIn K mainGlobals "PART_KINDS"=some (some (.ref aPK)))
    (lP:K.lookup aPK=some ⟨.type "dict",none,.dict #[{hash:=PyData.keyHash w.params ("nothing":Str),key:=.str "nothing" tp1,val:=.str "nothing" tp2},{hash:=PyData.keyHash w.params ("truths":Str),key:=.str "truths" tp3,val:=.str "truth" tp4},{hash:=PyData.keyHash w.params ("numbers":Str),key:=.str "numbers" tp5,val:=.str "number" tp6},{hash:=PyData.keyHash w.params ("texts":Str),key:=.str "texts" tp7,val:=.str "text" tp8},{hash:=PyData.keyHash w.params ("lists":Str),key:=.str "lists" tp9,val:=.str "list" tp10},{hash:=PyData.keyHash w.params ("record":Str),key:=.str "record" tp11,val:=.str "dict" tp12},{hash:=PyData.keyHash w.params ("table":Str),key:=.str "table" tp13,val:=.str "dict" tp14}] epP,#[]⟩)
    (aPC:W.nsIn K mainGlobals "PERCENT"=some (some (.int 37 tkP)))
    (aF:W.nsIn K mainGlobals "MOST_FEW"=some (some (.int 6 tkF)))
    (aMF:W.nsIn K mainGlobals "MOST_FIELDS"=some (some (.int 8 tkM)))
    (aK:W.nsIn K mainGlobals "KINDS"=some (some (.ref aKN)))
    (lK:K.lookup aKN=some ⟨.type "tuple",none,.seq #[.str "nothing" uk1,.str "truth" uk2,.str "number" uk3,.str "text" uk4,.str "list" uk5,.str "dict" uk6] nK,slK⟩)
    (zo:W.nsIn K mainGlobals "ord"=some none):
    ∃fd:FuncData,(∀(s:Shared) (v:Value),BindsTo s fd ⟨[v],[]⟩ [("_law_script",v)])/\∀base:Heap,K.In base->base.Ns mainGlobals mg->FnOk l.prog w K mg base CX0 62 fa fd ["_law_script"] (rC K):=by
  have e:=hfa.symm.trans (PySem.W.mg_of X G a59)
  cases e
  have B:Own mg:=zIL X G z0 z1 z2 z3 z4 z5 z6 z7 z8 z9 z10 z11 z12 z13 z14 z15 z16 z17 z18
  refine⟨W.fnOf "law" "law" (gP iI) (eX iI) (aJ iI) .none w_59 x_59 y_59 t_59 r_59 q_59,λs v=>.of_eq rfl,λbase KB GB=>?_⟩
  have GSIGNS:oP K w.params mg "SIGNS" SGN:=⟨aSIGNS,PySem.W.mg_of X G aS,⟨⟨_,_,lS,⟨rfl,⟨_,rfl⟩,⟨_,rfl⟩,rfl,⟨_,rfl⟩,⟨_,rfl⟩,rfl,⟨_,rfl⟩,⟨_,rfl⟩,rfl,⟨_,rfl⟩,⟨_,rfl⟩,trivial⟩⟩,by decide +kernel⟩⟩
  have GPART_KINDS:oP K w.params mg "PART_KINDS" pC:=⟨aPK,PySem.W.mg_of X G aP,⟨⟨_,_,lP,⟨rfl,⟨_,rfl⟩,⟨_,rfl⟩,rfl,⟨_,rfl⟩,⟨_,rfl⟩,rfl,⟨_,rfl⟩,⟨_,rfl⟩,rfl,⟨_,rfl⟩,⟨_,rfl⟩,rfl,⟨_,rfl⟩,⟨_,rfl⟩,rfl,⟨_,rfl⟩,⟨_,rfl⟩,rfl,⟨_,rfl⟩,⟨_,rfl⟩,trivial⟩⟩,by decide +kernel⟩⟩
  have TM:∀H,SqT K H aMARKS (MK.map V.str):=λH=>.inr ⟨_,_,_,lM,rfl,rfl,by show 4<=sizeLine;decide,.cons ⟨_,rfl⟩ (.cons ⟨_,rfl⟩ (.cons ⟨_,rfl⟩ (.cons ⟨_,rfl⟩ .nil)))⟩
  have GMARKS:gC K mg "MARKS" (.seq true (MK.map sT)):=zGb (PySem.W.mg_of X G aM) TM
  have GPERCENT:gC K mg "PERCENT" (iT 37):=⟨.int 37,_,PySem.W.mg_of X G aPC,⟨_,rfl⟩,λH=>.flat rfl⟩
  have GMOST_FEW:gC K mg "MOST_FEW" (iT 6):=⟨.int 6,_,PySem.W.mg_of X G aF,⟨_,rfl⟩,λH=>.flat rfl⟩
  have GMOST_FIELDS:gC K mg "MOST_FIELDS" (iT 8):=⟨.int 8,_,PySem.W.mg_of X G aMF,⟨_,rfl⟩,λH=>.flat rfl⟩
  have GKINDS:rR K mg "KINDS" KNS:=⟨aKN,_,_,_,PySem.W.mg_of X G aK,lK,by show 6<=sizeLine;decide,.cons ⟨_,rfl⟩ (.cons ⟨_,rfl⟩ (.cons ⟨_,rfl⟩ (.cons ⟨_,rfl⟩ (.cons ⟨_,rfl⟩ (.cons ⟨_,rfl⟩ .nil)))))⟩
  have Bord:mg "ord"=none:=PySem.W.mg_none_of X G zo
  have G31_:aE l.prog w K mg base 2 "_law_take" ["_law_deck_here","_law_most"] dM:=Good.take (zJc h31_ (zHw h29_))
  have G32_:aE l.prog w K mg base 1 "_law_signs" [] qH:=zLI h32_ B 
  have G33_:aE l.prog w K mg base 3 "_law_text" ["_law_deck_here","_law_most"] nX:=zLH h33_ B G32_ G31_
  have G34_:aE l.prog w K mg base 4 "_law_unlike" ["_law_deck_here","_law_many","_law_most"] uM:=zLG h34_ B G32_ G33_
  have G35_:aE l.prog w K mg base 3 "_law_far" ["_law_deck_here"] rJ:=zLF h35_ B G31_
  have G36_:aE l.prog w K mg base 5 "_law_world" ["_law_deck_here"] vC:=zLE h36_ B G31_ G34_ G33_ G35_
  have G37_:aE l.prog w K mg base 4 "_law_number" ["_law_deck_here","_law_world_here"] uN:=zLD h37_ B G31_ G35_
  have G38_:aE l.prog w K mg base 5 "_law_leaf" ["_law_deck_here","_law_world_here"] qT:=zLC h38_ B G31_ G37_
  have G0_:aE l.prog w K mg base 1 "is_whole" ["thing"] nO:=g0_ h0_ B 
  have G1_:aE l.prog w K mg base 1 "is_sign" ["sign"] vY:=g1_ h1_ B GPERCENT Bord
  have G2_:aE l.prog w K mg base 2 "is_text" ["thing"] kX:=g2_ h2_ B G1_
  have G4_:aE l.prog w K mg base 1 "rises" ["things"] hE:=g4_ h4_ B 
  have G5_:aE l.prog w K mg base 3 "is_few" ["thing"] wL:=g5_ h5_ B G4_ G2_ GMOST_FEW
  have G6_:aE l.prog w K mg base 2 "are_marks" ["thing"] tS:=g6_ h6_ B G4_ GMARKS
  have G7_:aE l.prog w K mg base 3 "is_make" ["thing"] vF:=g7_ h7_ B G6_ G2_ G0_
  have G8_:aE l.prog w K mg base 4 "is_words" ["thing"] nE:=g8_ h8_ B G5_ G7_
  have G3_:aE l.prog w K mg base 2 "is_run" ["thing"] qJ:=g3_ h3_ B G0_
  have G19_:aE l.prog w K mg base 2 "are_truths" ["thing"] pG:=zLS h19_ B G4_
  have G20_:aE l.prog w K mg base 2 "are_bounds" ["least","most"] kY:=zLR h20_ B G0_
  have G9_:aE l.prog w K mg base 1 "tails_many" ["signs","shortest","longest","most"] vD:=g9_ h9_ B 
  have G10_:aE l.prog w K mg base 1 "signs_of" ["marks"] tY:=zLZ h10_ B GSIGNS
  have G11_:aE l.prog w K mg base 2 "words_many" ["words","most"] qI:=zLY h11_ B G9_ G10_
  have G12_:aE l.prog w K mg base 1 "part_kind" ["part"] nP:=zLX h12_ B GPART_KINDS
  have G28_:aE l.prog w K mg base 60 "is_form" ["thing"] (oA 9 (kA 9)):=zR h28_ h27_ h22_ h23_ h24_ h25_ h26_ h21_ B G12_ G4_ G20_ G2_ G8_ G11_ G19_ G3_ GKINDS GMOST_FIELDS 9
  have G42_:aE l.prog w K mg base 4 "_law_make" ["_law_deck_here"] nZ:=zLy h42_ B G31_ G33_
  have G43_:aE l.prog w K mg base 5 "_law_some_words" ["_law_deck_here","_law_world_here"] pF:=zLx h43_ B G31_ G42_
  have G47_:aE l.prog w K mg base (6+3*4) "_law_form" ["_law_deck_here","_law_world_here","_law_deep","_law_most"] (jO 4):=qK h47_ h46_ h45_ h44_ B G31_ G42_ G43_ 4
  have G40_:aE l.prog w K mg base 14 "_law_value" ["_law_deck_here","_law_world_here","_law_deep","_law_way"] (lF 4):=uQ h40_ h39_ B G31_ G38_ 4
  have G50_:aE l.prog w K mg base 1 "_law_mark" ["_law_sign"] vZ:=zLq h50_ B 
  have G49_:aE l.prog w K mg base 1 "_law_divisor" ["_law_one","_law_other"] uD:=zLr h49_ B 
  have G52_:aE l.prog w K mg base 2 "_law_run" ["_law_numbers"] rH:=zLo h52_ B G49_
  have G51_:aE l.prog w K mg base 2 "_law_words" ["_law_texts"] nL:=zLp h51_ B G50_
  have G54_:aE l.prog w K mg base 13 "_law_due" ["_law_values"] (lV 5):=wE h54_ h53_ B G52_ G51_ 5
  have G14_:aE l.prog w K mg base 1 "forms_within" ["part"] gW:=zLV h14_ B 
  have G55_:aE l.prog w K mg base 1 "_law_inner_forms" ["_law_part_here"] gW:=zLl h55_ B 
  have G16_:aE l.prog w K mg base 11 "form_parts" ["form"] (oX 4):=zAv h16_ h15_ B G14_ 4
  have G18_:aE l.prog w K mg base 11 "form_deep" ["form"] (oY 4):=zAw h18_ h17_ B G14_ 4
  have G56_:aE l.prog w K mg base 7 "_law_counts" ["_law_form_here"] (oM 5):=zB2 h56_ B G55_ 5
  have G13_:aE l.prog w K mg base 2 "part_for" ["form","kind"] uA:=zLW h13_ B G12_
  have G57_:aE l.prog w K mg base 1 "_law_part_due" ["_law_form_here","_law_kind"] wA:=zLj h57_ B 
  have G48_:aE l.prog w K mg base 18 "_law_same" ["_law_one","_law_other"] (nY 17):=zBm h48_ B 17
  have G41_:aE l.prog w K mg base 15 "_law_samples" ["_law_deck_here","_law_world_here","_law_many"] tZ:=zLz h41_ B G31_ G40_
  have G58_:aE l.prog w K mg base 61 "_law_right" ["_law_form_here"] vE:=zLi h58_ B G48_ G56_ G18_ G16_ G28_ G57_ G13_
  exact zIV (zB3 (st:=iI) l59 c59 k59) B (zJd h30_ B) G36_ G58_ G54_ G41_ G31_ G47_ 
theorem walk{l:W.OpenLaw}{q:Program}{loose:List Str}{XP:(Str->Option Value)->Heap->Prop}{YP:World->Heap->Prop}{d:DefRec}{K:Params->W.Frag}(hn:l.most=some 63)(hdf:d.params.defaults=[])
  (hY:∀(w:World) (h:Heap),YP w h->(K w.params).In h)
  (F:∀(w:World) (mg:Str->Option Value) (fa:Addr) (h:Heap),(K w.params).In h->h.Ns mainGlobals mg->mg d.name=some (.ref fa) ->
   ∃fd:FuncData,(∀(s:Shared) (u:Value),BindsTo s fd ⟨[u],[]⟩ [("_law_script",u)])/\∀base:Heap,(K w.params).In base->base.Ns mainGlobals mg->FnOk l.prog w (K w.params) mg base CX0 62 fa fd ["_law_script"] (rC (K w.params))):
  PySem.W.WalkO q loose XP YP l.row.toRowW d [] (λf vs=>PySem.call f vs):=
 L2.walk_of (n:=63) (k:=62) (x:="_law_script") (CX:=λ_=>CX0) (sp:=λw=>rC (K w.params)) hn (by decide) hdf ⟨rfl,by decide,by decide,rfl⟩ hY F (λ_ _ a ns hl _ hS=>⟨a,ns,rfl,hS,hl,λ_=>rfl⟩) λ_ _ _ _ _ z=>z
end My
inductive PySem.W.Fast:Prop
|tw4056747266830462444
|tw3578061372812054656
|tw12091947710562957504
|tw5569005201689270624
|tw20149887195680065
|tw13638118097558421538
|tw8152745757462721602
|tw7987439021922324994
|tw11620652000791223074
|tw13446111246627564067
|tw13220627392300707
|tw1983732058580305603
|tw6468771070256964323
|tw17173199674530098979
|tw14898550889062547235
|tw2229293546897308643
|tw5977547809536998564
|tw12175700465237587172
|tw7143180222806642372
|tw2243718225804855397
|tw16153388218572590405
|tw3213604888910153157
|tw5339760644019286725
|tw18097562307170445606
|tw5513374604119304614
|tw9888850535387865734
|tw6829712904507566790
|tw8104959606818699974
|tw3738491331029174022
|tw15335508935486268326
|tw12862249213365141703
|tw14047594092089510279
|tw12221828270097338055
|tw6424298803106240487
|tw8164483289778006280
|tw7440374739723147624
|tw381762484697562600
|tw4027819922484103016
|tw3753186233019241352
|tw15388153406584024393
|tw12818722049630111786
|tw12454951654498506986
|tw12755673149790603818
|tw7592192956178904683
|tw14774559507800076939
|tw1103495225020739403
|tw8677135525972748139
|tw14497605413233598380
|tw1957801054158783501
|tw17477861523149270125
|tw5241418284285987341
|tw14655618155077333709
|tw4045797561624253389
|tw11633632226311859310
|tw12529626194782242990
|tw10587694346983051279
|tw4782517986121722927
|tw10814514942009228591
|tw8542441454787130703
|tw7388561052678993519
|tw6840496642861958831
|tw4636977898002684719
|tw8836165905734051791
|tw11835639210982490320
|tw17028222871582417777
|tw235484603987484690
|tw11058322108510746674
|tw3136177450126829202
|tw15156793124431366898
|tw12335216629660669810
|tw11097440814959767506
|tw14800996127857247283
|tw8209322459762044147
|tw13494799338131812851
|tw2087629219375756915
|tw13878127423815606963
|tw9500459271546080979
|tw7555027799872281363
|tw12791359364484968243
|tw6201169297860844403
|tw12592793298443903028
|tw16198374345770791028
|tw7043505537571309716
|tw7927616317002246324
|tw4963230185307413876
|tw14038456887920852500
|tw2628743011311024692
|tw16413462045652724276
|tw3216317611946759092
|tw12868859482736382964
|tw5010810962279489524
|tw1854930847690771509
|tw17577621069254314261
|tw10653366853840960949
|tw4717968141626162741
|tw15353351534784327253
|tw16061434897462208341
|tw3146888493024632086
|tw16803592546922197494
|tw4509404477751955094
|tw14996610653505003543
|tw9584277051654528151
|tw8771630796621849847
|tw4648235001845028247
|tw2600614807027190327
|tw2808412902315245143
|tw9965811678801693271
|tw221891000013981112
|tw10902684891195348504
|tw7152788844822097560
|tw2823204237958672280
|tw17861736126836020120
|tw5126739985575538009
|tw1003412839415072217
|tw11238009823376655129
|tw7912568679296391961
|tw939200705578615705
|tw11510946499800773625
|tw7123138241199834202
|tw290432155132199034
|tw14880014200972279162
|tw2482357577822811546
|tw17989221007488233946
|tw11964571244727483866
|tw13042699905112067642
|tw11638555560826039034
|tw3742479228057759482
|tw1178068115900357402
|tw11052042564444808986
|tw5072584518844792730
|tw4583852621480008763
|tw11010323250584423355
|tw13372798131655176316
|tw12282025239916557532
|tw11482956410115900796
|tw9194883094172862876
|tw18162066741968875228
|tw3494180207539349372
|tw7538444262625900444
|tw11360559542857580861
|tw4412480660777686845
|tw5542393632102119582
|tw17479005537130688798
|tw13277480424158593406
|tw9778072439498146398
|tw982234772864556351
open PySem PySem.W PyProof.Rows
set_option maxRecDepth 100000 in
set_option maxHeartbeats 0 in
theorem PySem.Challenge.cw_leastform_k30_parts_of_forms_holds : PySem.Challenge.rw_leastform_k30_parts_of_forms.Holds := by
 w_on; o_law; k_head; (case hw => w_witness2)
 k_fill
 refine My.walk (l := PySem.Challenge.rw_leastform_k30_parts_of_forms) rfl rfl (fun w h Y => PySem.W.kIn_of Y) ?F
 case F =>
  intro w mg fa h KX G hmg
  refine' My.all_mk KX G hmg (L2.has_mk KX G ?a0 ?l0 ?c0 ?k0) (L2.has_mk KX G ?a1 ?l1 ?c1 ?k1) (L2.has_mk KX G ?a2 ?l2 ?c2 ?k2) (L2.has_mk KX G ?a3 ?l3 ?c3 ?k3) (L2.has_mk KX G ?a4 ?l4 ?c4 ?k4) (L2.has_mk KX G ?a5 ?l5 ?c5 ?k5) (L2.has_mk KX G ?a6 ?l6 ?c6 ?k6) (L2.has_mk KX G ?a7 ?l7 ?c7 ?k7) (L2.has_mk KX G ?a8 ?l8 ?c8 ?k8) (L2.has_mk KX G ?a9 ?l9 ?c9 ?k9) (L2.has_mk KX G ?a10 ?l10 ?c10 ?k10) (L2.has_mk KX G ?a11 ?l11 ?c11 ?k11) (L2.has_mk KX G ?a12 ?l12 ?c12 ?k12) (L2.has_mk KX G ?a13 ?l13 ?c13 ?k13) (L2.has_mk KX G ?a14 ?l14 ?c14 ?k14) (L2.has_mk KX G ?a15 ?l15 ?c15 ?k15) (L2.has_mk KX G ?a16 ?l16 ?c16 ?k16) (L2.has_mk KX G ?a17 ?l17 ?c17 ?k17) (L2.has_mk KX G ?a18 ?l18 ?c18 ?k18) (L2.has_mk KX G ?a19 ?l19 ?c19 ?k19) (L2.has_mk KX G ?a20 ?l20 ?c20 ?k20) (L2.has_mk KX G ?a21 ?l21 ?c21 ?k21) (L2.has_mk KX G ?a22 ?l22 ?c22 ?k22) (L2.has_mk KX G ?a23 ?l23 ?c23 ?k23) (L2.has_mk KX G ?a24 ?l24 ?c24 ?k24) (L2.has_mk KX G ?a25 ?l25 ?c25 ?k25) (L2.has_mk KX G ?a26 ?l26 ?c26 ?k26) (L2.has_mk KX G ?a27 ?l27 ?c27 ?k27) (L2.has_mk KX G ?a28 ?l28 ?c28 ?k28) (L2.has_mk KX G ?a29 ?l29 ?c29 ?k29) (L2.has_mk KX G ?a30 ?l30 ?c30 ?k30) (L2.has_mk KX G ?a31 ?l31 ?c31 ?k31) (L2.has_mk KX G ?a32 ?l32 ?c32 ?k32) (L2.has_mk KX G ?a33 ?l33 ?c33 ?k33) (L2.has_mk KX G ?a34 ?l34 ?c34 ?k34) (L2.has_mk KX G ?a35 ?l35 ?c35 ?k35) (L2.has_mk KX G ?a36 ?l36 ?c36 ?k36) (L2.has_mk KX G ?a37 ?l37 ?c37 ?k37) (L2.has_mk KX G ?a38 ?l38 ?c38 ?k38) (L2.has_mk KX G ?a39 ?l39 ?c39 ?k39) (L2.has_mk KX G ?a40 ?l40 ?c40 ?k40) (L2.has_mk KX G ?a41 ?l41 ?c41 ?k41) (L2.has_mk KX G ?a42 ?l42 ?c42 ?k42) (L2.has_mk KX G ?a43 ?l43 ?c43 ?k43) (L2.has_mk KX G ?a44 ?l44 ?c44 ?k44) (L2.has_mk KX G ?a45 ?l45 ?c45 ?k45) (L2.has_mk KX G ?a46 ?l46 ?c46 ?k46) (L2.has_mk KX G ?a47 ?l47 ?c47 ?k47) (L2.has_mk KX G ?a48 ?l48 ?c48 ?k48) (L2.has_mk KX G ?a49 ?l49 ?c49 ?k49) (L2.has_mk KX G ?a50 ?l50 ?c50 ?k50) (L2.has_mk KX G ?a51 ?l51 ?c51 ?k51) (L2.has_mk KX G ?a52 ?l52 ?c52 ?k52) (L2.has_mk KX G ?a53 ?l53 ?c53 ?k53) (L2.has_mk KX G ?a54 ?l54 ?c54 ?k54) (L2.has_mk KX G ?a55 ?l55 ?c55 ?k55) (L2.has_mk KX G ?a56 ?l56 ?c56 ?k56) (L2.has_mk KX G ?a57 ?l57 ?c57 ?k57) (L2.has_mk KX G ?a58 ?l58 ?c58 ?k58) ?a59 ?l59 ?c59 ?k59 ?z0 ?z1 ?z2 ?z3 ?z4 ?z5 ?z6 ?z7 ?z8 ?z9 ?z10 ?z11 ?z12 ?z13 ?z14 ?z15 ?z16 ?z17 ?z18 ?aS ?lS ?aM ?lM ?aP ?lP ?aPC ?aF ?aMF ?aK ?lK ?zo
  any_goals k_is
