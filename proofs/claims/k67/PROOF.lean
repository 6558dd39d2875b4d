import PyProof.Rows.All
import Wide.All
import OpenK.AllK
import Wide.FinOn
import Lean
import PyProof.EqAt
import PyProof.EqKinds
import PyProof.TupleCall
import PyProof.NeKinds
import PyProof.IsiTupleOf
import PyProof.IsiHeapPairs
import PyProof.IsiPairs
import PyProof.ConsumeWalk
import PyProof.Rows.SumAny
import PyProof.FitsBits
import PyProof.Rows.SeqMore
import PyProof.ZipIter
import PyProof.TupleIter
import PyProof.LongRange
import PyProof.Rows.Range3
import PyProof.Rows.SortWalk
import PyProof.Rows.SortStr
import PyProof.StrWalks
import PyProof.DictRoads
import PyProof.MeetsStr
import PyProof.Rows.StrNews2
import PyProof.StrLawsIn
import PyProof.StrLaws
import PyProof.Rows.CatFin
import PyProof.Rows.StrClose5
import PyProof.SetKind
import PyProof.CollectWalk
import PyProof.Seq
import PyProof.ForAny
import PyProof.MakeMany
import PyProof.DictKinds
import PyProof.Rows.StrInSeq
import PyProof.WalkLemmas
import PyProof.Rows.SortShell
import PyProof.Rows.SetFrom
import PyProof.StrOps2
import PyProof.ReprNest
import PyProof.CallFns
import PyProof.StrLawsRepr
import PyProof.FString5
import OpenK.KOwn
import KE.KIsAll
import PyProof.ExcArgsOwn
import KE.RegKIsAll
import PyProof.DictIter
import PyProof.DictItems
import PyProof.DictItemsLoops
import PyProof.DictWalks
import KE.KDictList
import KE.KMinKey
import PyProof.ListRange
import PyProof.Rows.CallKwBuiltin
import KE.KDictOf
import PyProof.AttrMissHeap
import PyProof.EnumMake
import PyProof.EnumFor
import PyProof.Rows.RuleB_bool
import KE.KEqDict
import PyProof.StrCalls6
import PyProof.StrLawsReplace
import PyProof.Rows.FStr
import PyProof.Rows.StrJoin2
import PyProof.WalksMore
import PyProof.TupleOfStr
import KE.KUnpack
import PyProof.MaxThree
import KE.KSortTup
import PySem.Challenge.RW_leastform_k67_tables_met
set_option Elab.async false
set_option linter.all false
set_option maxRecDepth 100000
set_option maxHeartbeats 4000000
namespace L2
open PySem PySem.Spec PyProof.Rows
abbrev Key:=Sum Int Str
def jG:Key->Value->Bool
 |.inl k,v=>Value.isInt k v
 |.inr x,v=>Value.isStrOf x v
def zJB(w:World):Key->Int
 |.inl k=>hashInt k
 |.inr x=>hashStr w x
theorem fX:∀{k:Key}{v:Value},jG k v=true->(∃i t,k=Sum.inl i/\v=Value.int i t)\/(∃x t,k=Sum.inr x/\v=Value.str x t)
 |.inl i,v,h=>by
  obtain⟨t,e⟩:=Value.isInt_shape (k:=i) (v:=v) h
  exact .inl ⟨i,t,rfl,e⟩
 |.inr x,v,h=>by
  obtain⟨t,e⟩:=Value.isStrOf_shape (x:=x) (v:=v) h
  exact .inr ⟨x,t,rfl,e⟩
theorem zDZ(i:Int)(t:Tok):jG (.inl i) (.int i t)=true:=by simp[jG,Value.isInt]
theorem zDY(x:Str)(t:Tok):jG (.inr x) (.str x t)=true:=by simp[jG,Value.isStrOf]
theorem zHz(a b:Int):decide ((Sum.inl a:Key)=Sum.inl b)=(a==b):=by
 by_cases e:a=b
 ·subst e;simp
 ·have h:¬ (Sum.inl a:Key)=Sum.inl b:=λq=>e (Sum.inl.inj q)
  rw[decide_eq_false h]
  exact(beq_eq_false_iff_ne.mpr e).symm
theorem zHw(a b:Str):decide ((Sum.inr a:Key)=Sum.inr b)=decide (a=b):=by
 by_cases e:a=b
 ·subst e;simp
 ·have h:¬ (Sum.inr a:Key)=Sum.inr b:=λq=>e (Sum.inr.inj q)
  rw[decide_eq_false h,decide_eq_false e]
theorem zHy(a:Int)(b:Str):decide ((Sum.inl a:Key)=Sum.inr b)=false:=decide_eq_false (λq=>nomatch q)
theorem zHx(a:Str)(b:Int):decide ((Sum.inr a:Key)=Sum.inl b)=false:=decide_eq_false (λq=>nomatch q)
def bW(prog:Program)(w:World):PySem.KeyKind prog w Key where
 is:=jG
 hash:=zJB w
 inj:=λv a b ha hb=>by
  rcases fX ha with⟨i,t,rfl,rfl⟩|⟨x,t,rfl,rfl⟩
  ·rcases fX hb with⟨j,u,rfl,e⟩|⟨y,u,rfl,e⟩
   ·injection e with e1 _;rw[e1]
   ·exact nomatch e
  ·rcases fX hb with⟨j,u,rfl,e⟩|⟨y,u,rfl,e⟩
   ·exact nomatch e
   ·injection e with e1 _;rw[e1]
 byValue:=λk v h=>by
  rcases fX h with⟨i,t,rfl,rfl⟩|⟨x,t,rfl,rfl⟩<;>rfl
 pyHash:=λhv h=>by
  rcases fX hv with⟨i,t,rfl,rfl⟩|⟨x,t,rfl,rfl⟩
  ·exact wpAny_pyHash_int h
  ·exact wpAny_pyHash_str h
 eqBool:=λhu hv h=>by
  rcases fX hu with⟨i,t,rfl,rfl⟩|⟨x,t,rfl,rfl⟩
  ·rcases fX hv with⟨j,u,rfl,rfl⟩|⟨y,u,rfl,rfl⟩
   ·rw[zHz]at h;exact wpAny_eqBool_int h
   ·rw[zHy]at h;exact SeqAt.EqAt.int_str i t y u _ _ _ _ h
  ·rcases fX hv with⟨j,u,rfl,rfl⟩|⟨y,u,rfl,rfl⟩
   ·rw[zHx]at h;exact SeqAt.EqAt.str_int x t j u _ _ _ _ h
   ·rw[zHw]at h;exact wpAny_eqBool_str h
 «strs»:=λk x t v h=>by
  rcases fX h with⟨i,u,rfl,e⟩|⟨y,u,rfl,e⟩
  ·exact nomatch e
  ·injection e with e1 _
   subst e1
   cases v<;>rfl
theorem zCQ(prog:Program)(w:World)(i:Int)(t:Tok):(bW prog w).is (.inl i) (.int i t)=true:=zDZ i t
theorem oT(prog:Program)(w:World)(x:Str)(t:Tok):(bW prog w).is (.inr x) (.str x t)=true:=zDY x t
end L2
namespace L2
open PySem PySem.Spec PyProof.Rows
inductive V where
 |non|bl (b:Bool)|int (i:Int)|str (x:Str)|byt (b:Array UInt8)|flt (b:UInt64)|ref (a:Addr)|ty (n:String)
 deriving DecidableEq
def RelV:V->Value->Prop
 |.non,u=>u=Value.none
 |.bl b,u=>u=Value.bool b
 |.int i,u=>∃t,u=Value.int i t
 |.str x,u=>∃t,u=Value.str x t
 |.byt b,u=>∃t,u=Value.bytes b t
 |.flt b,u=>∃t,u=Value.float b t
 |.ref a,u=>u=Value.ref a
 |.ty n,u=>u=Value.type n
abbrev Vals:List V->List Value->Prop:=Paired RelV
theorem Vals.length{xs:List V}{us:List Value}(r:Vals xs us):xs.length=us.length:=Paired.length r
theorem Vals.get:∀{xs:List V}{us:List Value}{i:Nat}{x:V},Vals xs us->xs[i]?=some x->∃u,us[i]?=some u/\RelV x u
 |_,_,_,_,.nil,e=>by simp at e
 |_,_,0,_,.cons r _,e=>by simp at e;subst e;exact⟨_,rfl,r⟩
 |_,_,i+1,x,.cons _ t,e=>by
  obtain⟨u,h1,h2⟩:=Vals.get (i:=i) (x:=x) t (by simpa using e)
  exact⟨u,by simpa using h1,h2⟩
theorem Vals.set{x:V}{u:Value}(r:RelV x u):∀{xs:List V}{us:List Value}(i:Nat),Vals xs us->Vals (xs.set i x) (us.set i u)
 |_,_,_,.nil=>.nil
 |_,_,0,.cons _ t=>.cons r t
 |_,_,i+1,.cons q t=>.cons q (Vals.set r i t)
theorem Vals.append:∀{xs ys:List V}{us ws:List Value},Vals xs us->Vals ys ws->Vals (xs++ys) (us++ws)
 |_,_,_,_,.nil,s=>s
 |_,_,_,_,.cons r t,s=>.cons r (Vals.append t s)
theorem Vals.take:∀{xs:List V}{us:List Value}(n:Nat),Vals xs us->Vals (xs.take n) (us.take n)
 |_,_,0,_=>.nil
 |_,_,_+1,.nil=>.nil
 |_,_,n+1,.cons r t=>.cons r (Vals.take n t)
theorem Vals.drop:∀{xs:List V}{us:List Value}(n:Nat),Vals xs us->Vals (xs.drop n) (us.drop n)
 |_,_,0,r=>r
 |_,_,_+1,.nil=>.nil
 |_,_,n+1,.cons _ t=>Vals.drop n t
def RelO:Option V->Option Value->Prop
 |some v,some u=>RelV v u
 |none,none=>True
 |_,_=>False
def KV{κ:Type}:List (κ×V)->List (κ×Value)->Prop:=Paired λ(p:κ×V) (q:κ×Value)=>p.1=q.1/\RelV p.2 q.2
def kV:Key->V
 |.inl i=>.int i
 |.inr x=>.str x
inductive HO where
 /-- a list -/
 |lst (xs:List V)
 /-- a tuple (never changes) -/
 |tup (xs:List V)
 /-- a dict whose keys are ints and texts; one whose keys are tuples of ints and texts (the empty one is both) -/
 |dK (kvs:List (Key×V))|dT (kvs:List (List Key×V))
 /-- a set of ints: its members, its size -/
 |set (S:Int->Bool) (n:Nat)
 /-- an instance of the class at C, its dict at dx, its attributes -/
 |ins (C dx:Addr) (fs:List (Str×V))
 /-- the dict of the instance at x -/
 |own (x:Addr)
 /-- the dict of an exception -/
 |xd (fs:List (Str×V))
 /-- a bound method, f of x -/
 |met (f x:Addr)
 /-- a range object lo, lo + 1, .. below hi -/
 |rng (lo hi:Int)
 /-- a thing that is known to the object (the script; a dict while a loop walks it): read, never written while it is so -/
 |frz (o:Obj) (u:HO)
 /-- a code object's table -/
 |tbl (ps:Array Value)
 /-- any other thing, by what is true of its one object (a def of one's own: SetO a S n := HO.ext fun h => ..) -/
 |ext (φ:Heap->Prop)
abbrev Hp:=Addr->Option HO
def upd(H:Hp)(a:Addr)(o:HO):Hp:=λb=>if b=a then some o else H b
theorem bF{H:Hp}{a:Addr}{o:HO}:upd H a o a=some o:=by unfold upd;rw[if_pos rfl]
theorem bI{H:Hp}{a b:Addr}{o:HO}(h:b≠a):upd H a o b=H b:=by unfold upd;rw[if_neg h]
theorem dH{H:Hp}{a b:Addr}{o:HO}(h:H a=some o)(h':H b=none):a≠b:=by
 intro e;subst e;rw[h]at h';cases h'
section
variable(P:Program)(w:World)
def ObjOk(H:Hp)(h:Heap)(a:Addr):HO->Prop
 |.lst xs=>xs.length<=sizeLine/\∃(its:List Value) (n:Nat),Vals xs its/\h.get? a=some {cls:=.type "list",data:=.seq its.toArray n}
 |.tup xs=>xs.length<=sizeLine/\∃its:List Value,Vals xs its/\IsTup h a its.toArray
 |.dK kvs=>kvs.length<=sizeLine/\(a==sysModules)=false/\∃vs,KV kvs vs/\h.DictOf (bW P w) a vs
 |.dT kvs=>kvs.length<=sizeLine/\(a==sysModules)=false/\∃xs:List (List Key×Addr×Value),
   Paired (λ(p:List Key×V) (q:List Key×Addr×Value)=>p.1=q.1/\H q.2.1=some (.tup (p.1.map kV))/\RelV p.2 q.2.2) kvs xs /\
   ∃o es ep,h.get? a=some o/\o.ExactDict/\o.data=.dict es ep/\es.toList=xs.map (entryOfKey (tupleKind (bW P w)))/\(xs.map (·.1)).Nodup
 |.set S n=>h.SetOf (intKind P w) a S n
 |.ins C dx fs=>H dx=some (.own a)/\fs.length<=1000/\dx≠a/\h.get? a=some (PySem.W.instObj C dx) /\
   ∃mA,h.Ns1 dx mA/\(∀f,RelO (fs.lookup f) (mA f))/\PySem.Within mA (fs.map (·.1))
 |.own _=>∃o,h.get? a=some o
 |.xd fs=>∃mA,h.Ns1 a mA/\∀f,RelO (fs.lookup f) (mA f)
 |.rng lo hi=>∃t u v,h.get? a=some {cls:=.type "range",data:=.fields #[.int lo t,.int hi u,.int 1 v]}
 |.frz o u=>h.get? a=some o/\ObjOk H h a u
 |.tbl ps=>h.get? a=some {cls:=.none,data:=.fields ps}
 |.met f x=>h.get? a=some (PySem.W.methodObj (.ref f) (.ref x))
 |.ext φ=>φ h/\(∃o,h.get? a=some o)/\∀h1 h2:Heap,φ h1->(∀o,h1.get? a=some o->h2.get? a=some o)->φ h2
def HOk(H:Hp)(h:Heap):Prop:=∀a o,H a=some o->ObjOk P w H h a o
end
section
variable{P:Program}{w:World}{H H':Hp}{h h':Heap}{a:Addr}{o:HO}
theorem ObjOk.lt(x:ObjOk P w H h a o):a<h.objs.size:=by
 cases o with
 |lst xs=>obtain⟨_,_,_,_,e⟩:=x;exact Heap.lt_size e
 |tup xs=>obtain⟨_,_,_,p⟩:=x;exact p.lt
 |dK kvs=>obtain⟨_,_,_,_,o,_,_,e,_⟩:=x;exact Heap.lt_size e
 |dT kvs=>obtain⟨_,_,_,_,o,_,_,e,_⟩:=x;exact Heap.lt_size e
 |set S n=>obtain⟨o,_,_,_,e,_⟩:=x;exact Heap.lt_size e
 |ins C dx fs=>obtain⟨_,_,_,e,_⟩:=x;exact Heap.lt_size e
 |own y=>obtain⟨_,e⟩:=x;exact Heap.lt_size e
 |xd fs=>obtain⟨_,⟨_,_,_,e,_⟩,_⟩:=x;exact Heap.lt_size e
 |rng lo hi=>obtain⟨_,_,_,e⟩:=x;exact Heap.lt_size e
 |frz ob u=>obtain⟨e,_⟩:=x;exact Heap.lt_size e
 |tbl ps=>exact Heap.lt_size (show h.get? a=some _ from x)
 |met f y=>exact Heap.lt_size (show h.get? a=some _ from x)
 |ext φ=>obtain⟨_,⟨_,e⟩,_⟩:=x;exact Heap.lt_size e
theorem Paired.mapP{α β:Type}{F G:α->β->Prop}:∀{l₁:List α}{l₂:List β},Paired F l₁ l₂->(∀a b,F a b->G a b)->Paired G l₁ l₂
 |_,_,.nil,_=>.nil
 |_,_,.cons r t,f=>.cons (f _ _ r) (Paired.mapP t f)
theorem ObjOk.stay(x:ObjOk P w H h a o)(k:∀b u,(b=a\/H b=some (.own a))->h.get? b=some u->h'.get? b=some u)
  (ho:∀b,H b=some (.own a)->H' b=some (.own a)) (ht:∀b xs,H b=some (.tup xs)->H' b=some (.tup xs)):ObjOk P w H' h' a o:=by
 induction o with
 |lst xs=>obtain⟨z,its,n,r,e⟩:=x;exact⟨z,its,n,r,k _ _ (.inl rfl) e⟩
 |tup xs=>obtain⟨z,its,r,ob,e,c⟩:=x;exact⟨z,its,r,ob,k _ _ (.inl rfl) e,c⟩
 |dK kvs=>obtain⟨z,y,vs,r,ob,es,ep,e,c⟩:=x;exact⟨z,y,vs,r,ob,es,ep,k _ _ (.inl rfl) e,c⟩
 |dT kvs=>
  obtain⟨z,y,xs,r,ob,es,ep,e,c⟩:=x
  exact⟨z,y,xs,Paired.mapP r λp q z=>⟨z.1,ht _ _ z.2.1,z.2.2⟩,ob,es,ep,k _ _ (.inl rfl) e,c⟩
 |set S n=>obtain⟨ob,es,ep,t,e,c⟩:=x;exact⟨ob,es,ep,t,k _ _ (.inl rfl) e,c⟩
 |ins C dx fs=>
  obtain⟨d,z,ne,e,mA,⟨od,es,ep,e2,c⟩,r⟩:=x
  exact⟨ho _ d,z,ne,k _ _ (.inl rfl) e,mA,⟨od,es,ep,k _ _ (.inr d) e2,c⟩,r⟩
 |own y=>obtain⟨ob,e⟩:=x;exact⟨ob,k _ _ (.inl rfl) e⟩
 |xd fs=>obtain⟨mA,⟨od,es,ep,e,c⟩,r⟩:=x;exact⟨mA,⟨od,es,ep,k _ _ (.inl rfl) e,c⟩,r⟩
 |rng lo hi=>obtain⟨t,u,v,e⟩:=x;exact⟨t,u,v,k _ _ (.inl rfl) e⟩
 |frz ob u ih=>obtain⟨e,q⟩:=x;exact⟨k _ _ (.inl rfl) e,ih q⟩
 |tbl ps=>
  have e:h.get? a=some {cls:=.none,data:=.fields ps}:=x
  show h'.get? a=some {cls:=.none,data:=.fields ps}
  exact k a _ (.inl rfl) e
 |met f y=>
  have e:h.get? a=some (PySem.W.methodObj (.ref f) (.ref y)):=x
  show h'.get? a=some (PySem.W.methodObj (.ref f) (.ref y))
  exact k a _ (.inl rfl) e
 |ext φ=>obtain⟨p,⟨o,e⟩,st⟩:=x;exact⟨st _ _ p λo q=>k _ _ (.inl rfl) q,⟨o,k _ _ (.inl rfl) e⟩,st⟩
theorem HOk.lt(x:HOk P w H h)(e:H a=some o):a<h.objs.size:=(x a o e).lt
theorem HOk.fresh(x:HOk P w H h)(e:h.objs.size<=a):H a=none:=by
 cases q:H a with
 |none=>rfl
 |some u=>exact absurd (Nat.lt_of_lt_of_le (x.lt q) e) (Nat.lt_irrefl _)
theorem HOk.kept(x:HOk P w H h)(k:∀b u,h.get? b=some u->h'.get? b=some u):HOk P w H h':=λa o e=>
 (x a o e).stay (λb u _ q=>k b u q) (λ_ q=>q) λ_ _ q=>q
theorem HOk.laid(x:HOk P w H h)(k:∀b u,h.get? b=some u->h'.get? b=some u)(hp:h.objs.size<=a)(new:ObjOk P w (upd H a o) h' a o):HOk P w (upd H a o) h':=λb u e=>by
 have hn:=x.fresh hp
 by_cases hb:b=a
 ·subst hb;rw[bF]at e;cases e;exact new
 ·rw[bI hb]at e
  exact(x b u e).stay (λc v _ q=>k c v q) (λc q=>by rw[bI (dH q hn)];exact q) λc xs q=>by rw[bI (dH q hn)];exact q
end
def Rd(H:Hp)(a:Addr)(u:HO):Prop:=H a=some u\/∃o,H a=some (.frz o u)
theorem Rd.ok{P:Program}{w:World}{H:Hp}{h:Heap}{a:Addr}{u:HO}(r:Rd H a u)(x:HOk P w H h):ObjOk P w H h a u:=by
 rcases r with r|⟨o,r⟩
 ·exact x a u r
 ·obtain⟨_,q⟩:=x a _ r
  exact q
def Mut:Option HO->Prop
 |some (.lst _)=>True
 |some (.dK _)=>True
 |some (.dT _)=>True
 |some (.set _ _)=>True
 |some (.ins _ _ _)=>True
 |some (.ext _)=>True
 |_=>False
section
variable{P:Program}{w:World}{H:Hp}{h h':Heap}{x e:Addr}{o':HO}
theorem HOk.write(ok:HOk P w H h)(mu:Mut (H x))(he:e=x\/H e=some (.own x))(k:∀b u,b≠e->h.get? b=some u->h'.get? b=some u)(heo:∃u,h'.get? e=some u)
  (new:ObjOk P w (upd H x o') h' x o'):HOk P w (upd H x o') h':=λb u q=>by
 have nown:∀c y,H c=some (.own y)->c≠x:=λc y r z=>by subst z;rw[r]at mu;exact mu
 have ntup:∀c xs,H c=some (.tup xs)->c≠x:=λc xs r z=>by subst z;rw[r]at mu;exact mu
 by_cases hb:b=x
 ·subst hb;rw[bF]at q;cases q;exact new
 ·rw[bI hb]at q
  by_cases hbe:b=e
  ·have q':H b=some (.own x):=by
    rcases he with z|z
    ·exact absurd (hbe.trans z) hb
    ·rw[hbe];exact z
   rw[q]at q';cases q'
   obtain⟨v,hv⟩:=heo
   exact⟨v,by rw[hbe];exact hv⟩
  ·refine(ok b u q).stay (λc v hc r=>k c v ?_ r) (λc r=>by rw[bI (nown c b r)];exact r) λc xs r=>by rw[bI (ntup c xs r)];exact r
   rcases hc with rfl|hc
   ·exact hbe
   ·rintro rfl
    rcases he with z|z
    ·exact nown c b hc z
    ·rw[hc]at z;cases z;exact hb rfl
end
structure Un (fs ex:List Addr) (H H':Hp) (h h':Heap):Prop where
 keep:∀b o,h.get? b=some o->H b=none->b∉fs->b∉ex->h'.get? b=some o
 slot:∀b o,h.get? b=some o->H b=none->b∈fs->b∉ex->∃sl,h'.get? b=some {o with slots:=sl}
 free:∀b o,h.get? b=some o->H b=none->b∉ex->H' b=none
 there:∀b o,h.get? b=some o->b∉ex->∃o',h'.get? b=some o'
 tups:∀b xs,H b=some (.tup xs)->H' b=some (.tup xs)
 frzs:∀b o u,H b=some (.frz o u)->H' b=some (.frz o u)
 tbls:∀b ps,H b=some (.tbl ps)->∃more,H' b=some (.tbl (ps++more))
section
variable{fs fs' ex ex':List Addr}{H H1 H2:Hp}{h h1 h2 h':Heap}{a x e:Addr}{o:HO}
theorem Un.any(u:Un fs ex H H1 h h1){b:Addr}{ob:Obj}(q:h.get? b=some ob)(n:H b=none)(hx:b∉ex):∃sl,h1.get? b=some {ob with slots:=sl}:=by
 by_cases hb:b∈fs
 ·exact u.slot b ob q n hb hx
 ·exact⟨ob.slots,u.keep b ob q n hb hx⟩
theorem Un.kept(k:∀b u,h.get? b=some u->h'.get? b=some u):Un fs ex H H h h':=
 ⟨λb ob q _ _ _=>k b ob q,λb ob q _ _ _=>⟨ob.slots,k b ob q⟩,λ_ _ _ n _=>n,λb ob q _=>⟨ob,k b ob q⟩,λ_ _ q=>q,λ_ _ _ q=>q,λ_ ps q=>⟨#[],by rw[q];simp⟩⟩
theorem Un.refl:Un fs ex H H h h:=Un.kept λ_ _ q=>q
theorem Un.laid(k:∀b u,h.get? b=some u->h'.get? b=some u)(hp:h.objs.size<=a)(hn:H a=none):Un fs ex H (upd H a o) h h' where
 keep:=λb u q _ _ _=>k b u q
 slot:=λb u q _ _ _=>⟨u.slots,k b u q⟩
 free:=λb u q n _=>by rw[bI (Nat.ne_of_lt (Nat.lt_of_lt_of_le (Heap.lt_size q) hp))];exact n
 there:=λb u q _=>⟨u,k b u q⟩
 tups:=λb xs q=>by rw[bI (dH q hn)];exact q
 frzs:=λb u xs q=>by rw[bI (dH q hn)];exact q
 tbls:=λb ps q=>⟨#[],by rw[bI (dH q hn),q];simp⟩
theorem Un.write(mu:Mut (H x))(he:e=x\/H e=some (.own x))(k:∀b u,b≠e->h.get? b=some u->h'.get? b=some u)(heo:∃u,h'.get? e=some u):Un fs ex H (upd H x o) h h':=by
 have hx:∀b,H b=none->b≠x:=λb n z=>by subst z;rw[n]at mu;exact mu
 have hb:∀b,H b=none->b≠e:=λb n z=>by
  subst z
  rcases he with r|r
  ·exact hx b n r
  ·rw[n]at r;cases r
 have hm:∀b u,H b=some u->¬ Mut (some u)->b≠x:=λb u q nm z=>by subst z;rw[q]at mu;exact nm mu
 refine⟨λb u q n _ _=>k b u (hb b n) q,λb u q n _ _=>⟨u.slots,k b u (hb b n) q⟩,λb u q n _=>by rw[bI (hx b n)];exact n,λb u q _=>?_,
  λb xs q=>by rw[bI (hm b _ q λz=>z)];exact q,λb u xs q=>by rw[bI (hm b _ q λz=>z)];exact q,λb ps q=>⟨#[],by rw[bI (hm b _ q λz=>z),q];simp⟩⟩
 by_cases hbe:b=e
 ·subst hbe;exact heo
 ·exact⟨u,k b u hbe q⟩
end
def trk(h:Heap)(H:Hp):List Addr:=(List.range h.objs.size).filter λa=>(H a).isSome
def iR(h:Heap)(H:Hp):Heap:=PySem.W.hideAll h (trk h H)
theorem zD3(h:Heap)(H:Hp):(iR h H).objs.size=h.objs.size:=PySem.W.hideAll_size _ _
theorem zE0{h:Heap}{H:Hp}{b:Addr}{o:Obj}(e:h.get? b=some o)(n:H b=none):(iR h H).get? b=some o:=
 PySem.W.hideAll_get _ e λhm=>by
  have q:(H b).isSome=true:=(List.mem_filter.mp hm).2
  rw[n]at q;simp at q
theorem zFU{h:Heap}{H:Hp}{b:Addr}{o:Obj}(e:(iR h H).get? b=some o):h.get? b=some o/\H b=none:=by
 have e':h.get? b=some o:=PySem.W.of_hideAll (trk h H) e
 refine⟨e',?_⟩
 cases q:H b with
 |none=>rfl
 |some x=>
  have hm:b∈trk h H:=List.mem_filter.mpr ⟨List.mem_range.mpr (Heap.lt_size e'),by simp[q]⟩
  have z:(iR h H).get? b=none:=PySem.W.hideAll_none (trk h H) hm
  rw[z]at e;cases e
end L2
namespace L2
open PySem PySem.Spec PyProof.Rows
structure Mod (K:W.Frag) (mg:Str->Option Value) (base:Heap):Prop where
 kin:K.In base
 glob:base.Ns mainGlobals mg
 blt:∃mb,base.Ns builtinsNs mb/\∀x:Str,x≠"__name__"->mb x=bootBuiltins x
 nolimit:base.NoLimit
structure Cx where
 prog:Program
 w:World
 K:W.Frag
 mg:Str->Option Value
 base:Heap
 A:Around
 N:List Str
 s₀:Shared
 H₀:Hp
 env:Env
 outer:List Env
 stack:List Env
 ex:List Addr
 fn:Str->Bool
 calm:Bool
 pn:List (Addr×Obj)
 xe:Value->Shared->Prop
def frs(l:List Env):List Addr:=l.filterMap (·.frame)
abbrev Cx.fs(X:Cx):List Addr:=frs X.outer
def Vis(sc:Scope)(x:Str):Prop:=sc.names.lookup x=some .local\/sc.names.lookup x=some .cell\/sc.names.lookup x=some .free
def Loc(sc:Scope)(x:Str):Prop:=sc.names.lookup x=some .local\/sc.names.lookup x=some .cell
def zKo(env:Env)(h:Heap)(m:Str->Option Value)(x:Str)(u:Value):Prop:=
 (env.kindOf x=some .local/\m x=some u)\/((env.kindOf x=some .cell\/env.kindOf x=some .free)/\∃c,env.cells.lookup x=some c/\h.IsCell c (some u))
structure Cx.Ok (X:Cx):Prop where
 mod:Mod X.K X.mg X.base
 kind:X.env.scope.kind=.function
 glob:X.env.globals=mainGlobals
 blt:X.env.builtins=builtinsNs
 above:X.s₀.heap.objs.size<=X.env.locals
 inj:∀x y c,X.env.cells.lookup x=some c->X.env.cells.lookup y=some c->x=y
 has:∀x,(X.env.kindOf x=some .cell\/X.env.kindOf x=some .free)->∃c,X.env.cells.lookup x=some c
 cab:∀x c,X.fn x=true->X.env.cells.lookup x=some c->X.s₀.heap.objs.size<=c
 hd:X.calm=true->X.A.handled=none
 frames:X.A.frames=some X.stack
 stk:X.stack=X.outer\/(X.stack=X.env::X.outer/\X.env.frame=some X.env.locals)
 exf:∀b∈X.ex,b≠X.env.locals/\∀x c,X.env.cells.lookup x=some c->c≠b
 bs:∀b o,X.base.get? b=some o->X.s₀.heap.get? b=some o/\X.H₀ b=none
 bsz:X.base.objs.size<=X.s₀.heap.objs.size
 noex:∀b o,X.base.get? b=some o->b∉X.ex
 exfs:∀b∈X.ex,b∉X.fs
 funs:X.s₀.heap.FunFrames X.base X.outer
 frf:∀b∈X.fs,X.H₀ b=none
structure Inv (X:Cx) (pins:List (Addr×Obj)) (σ:List (Option V)) (H:Hp) (s:Shared):Prop where
 ok:X.Ok
 os:s.os=X.s₀.os
 bare:AllBare s.gens
 base:Un X.fs X.ex X.H₀ H X.s₀.heap s.heap
 loc:∃m,s.heap.Ns X.env.locals m/\∀(i:Nat) (x:Str) (v:V),X.N[i]?=some x->σ[i]?=some (some v)->Vis X.env.scope x->∃u,RelV v u/\zKo X.env s.heap m x u
 cell:∀x c,X.env.cells.lookup x=some c->∃v,s.heap.IsCell c v
 free:H X.env.locals=none
 freeC:∀x c,X.env.cells.lookup x=some c->H c=none
 pin:∀p∈X.pn++pins,s.heap.get? p.1=some p.2/\H p.1=none/\p.1≠X.env.locals/\p.1∉X.fs/\∀v,p.2.data≠.cell v
 hok:HOk X.prog X.w H s.heap
 len:σ.length=X.N.length
section
variable{X:Cx}{pins:List (Addr×Obj)}{σ:List (Option V)}{H H':Hp}{s:Shared}{h':Heap}
theorem Cx.Ok.nofr(ok:X.Ok){b:Addr}{o:Obj}(e:X.base.get? b=some o):b∉X.fs:=λhb=>by
 have:=(ok.funs.mem hb).1
 rw[e]at this;cases this
theorem Inv.bs(I:Inv X pins σ H s):∀b o,X.base.get? b=some o->s.heap.get? b=some o/\H b=none:=λb o e=>
 ⟨I.base.keep b o (I.ok.bs b o e).1 (I.ok.bs b o e).2 (I.ok.nofr e) (I.ok.noex b o e),I.base.free b o (I.ok.bs b o e).1 (I.ok.bs b o e).2 (I.ok.noex b o e)⟩
theorem Inv.bk(I:Inv X pins σ H s):∀b o,X.base.get? b=some o->s.heap.get? b=some o:=λb o e=>(I.bs b o e).1
theorem Inv.mod(I:Inv X pins σ H s):Mod X.K X.mg X.base:=I.ok.mod
theorem Inv.kIn(I:Inv X pins σ H s):X.K.In s.heap:=I.ok.mod.kin.keeps I.bk
theorem Inv.lt(I:Inv X pins σ H s):X.env.locals<s.heap.objs.size:=let ⟨_,hn,_⟩:=I.loc;hn.lt
theorem Inv.sz(I:Inv X pins σ H s):X.s₀.heap.objs.size<=s.heap.objs.size:=Nat.le_trans I.ok.above (Nat.le_of_lt I.lt)
theorem Inv.nofs(I:Inv X pins σ H s){a:Addr}(h:s.heap.objs.size<=a):a∉X.fs:=λhb=>by
 obtain⟨_,o,ho,_⟩:=I.ok.funs.mem hb
 exact absurd (Nat.lt_of_lt_of_le (Heap.lt_size ho) (Nat.le_trans I.sz h)) (Nat.lt_irrefl _)
theorem Inv.cne(I:Inv X pins σ H s):∀x c,X.env.cells.lookup x=some c->c≠X.env.locals:=λx c e z=>by
 obtain⟨v,o,ho,hd⟩:=I.cell x c e
 obtain⟨m,⟨o',es,ep,ho',hd',_⟩,_⟩:=I.loc
 rw[z,ho']at ho;cases ho;rw[hd']at hd;cases hd
theorem Inv.funs(I:Inv X pins σ H s):s.heap.FunFrames X.base X.outer:=by
 have all:∀(l:List Env),(∀b∈frs l,b∈X.fs)->X.s₀.heap.FunFrames X.base l->s.heap.FunFrames X.base l:=by
  intro l
  induction l with
  |nil=>intro _ _;trivial
  |cons env r ih=>
   intro hs hl
   obtain⟨hk,⟨L,o,hf,hn,ho,hd⟩,hr⟩:=hl
   have hL:L∈X.fs:=hs L (by unfold frs;rw[List.filterMap_cons,hf];exact List.mem_cons_self)
   obtain⟨sl,e⟩:=I.base.slot L o ho (I.ok.frf L hL) hL λz=>I.ok.exfs L z hL
   exact⟨hk,⟨L,_,hf,hn,e,hd⟩,ih (λb hb=>hs b (by unfold frs;rw[List.filterMap_cons,hf];exact List.mem_cons_of_mem _ hb)) hr⟩
 exact all X.outer (λ_ hb=>hb) I.ok.funs
theorem Inv.stack(I:Inv X pins σ H s):s.heap.FunFrames X.base X.stack:=by
 rcases I.ok.stk with e|⟨e,hf⟩
 ·rw[e];exact I.funs
 ·rw[e]
  obtain⟨m,hn,_⟩:=I.loc
  refine .cons (by rw[I.ok.kind];decide) hf hn ?_ I.funs
  exact Heap.get?_none_of_le (Nat.le_trans I.ok.bsz I.ok.above)
theorem Inv.stkSub(I:Inv X pins σ H s):∀b∈frs X.stack,b∈X.env.locals::X.fs:=λb hb=>by
 rcases I.ok.stk with e|⟨e,hf⟩
 ·rw[e]at hb;exact List.mem_cons_of_mem _ hb
 ·rw[e]at hb
  unfold frs at hb
  rw[List.filterMap_cons,hf]at hb
  exact hb
theorem Inv.stkFree(I:Inv X pins σ H s):∀b∈frs X.stack,H b=none:=λb hb=>by
 rcases List.mem_cons.mp (I.stkSub b hb) with e|hb
 ·rw[e];exact I.free
 ·obtain⟨_,o,ho,_⟩:=I.ok.funs.mem hb
  exact I.base.free b o ho (I.ok.frf b hb) λz=>I.ok.exfs b z hb
theorem Inv.step{g':Array GenState}{t':Nat}{d':Drawn}{ch:List Addr}(I:Inv X pins σ H s)
  (hch:∀b∈ch,(b∈X.ex\/X.s₀.heap.objs.size<=b)/\b≠X.env.locals/\(∀x c,X.env.cells.lookup x=some c->c≠b)/\∀p∈X.pn++pins,p.1≠b)
  (keep:∀b o,b≠X.env.locals->b∉X.fs->b∉ch->s.heap.get? b=some o->H b=none->h'.get? b=some o)
  (slot:∀b o,b≠X.env.locals->b∈X.fs->b∉ch->s.heap.get? b=some o->H b=none->∃sl,h'.get? b=some {o with slots:=sl}) (free:∀b o,b∉ch->s.heap.get? b=some o->H b=none->H' b=none)
  (there:∀b o,b∉ch->s.heap.get? b=some o->∃o',h'.get? b=some o')
  (tups:∀b xs,H b=some (.tup xs)->H' b=some (.tup xs)) (frzs:∀b o u,H b=some (.frz o u)->H' b=some (.frz o u)) (tbls:∀b ps,H b=some (.tbl ps)->∃more,H' b=some (.tbl (ps++more)))
  (ns:∀m,s.heap.Ns X.env.locals m->h'.Ns X.env.locals m) (hok:HOk X.prog X.w H' h') (hg:AllBare g'):
  Inv X pins σ H' {s with heap:=h',gens:=g',drawn:=d',toks:=t'}:=by
 have neL:∀b o,X.s₀.heap.get? b=some o->b≠X.env.locals:=λb o e=>Nat.ne_of_lt (Nat.lt_of_lt_of_le (Heap.lt_size e) I.ok.above)
 have neC:∀b o,X.s₀.heap.get? b=some o->b∉X.ex->b∉ch:=λb o e hx hb=>by
  rcases (hch b hb).1 with z|z
  ·exact hx z
  ·exact absurd (Nat.lt_of_lt_of_le (Heap.lt_size e) z) (Nat.lt_irrefl _)
 have cellK:∀x c,X.env.cells.lookup x=some c->∀v,s.heap.IsCell c v->h'.IsCell c v:=λx c e v ⟨o,ho,hd⟩=>by
  have nch:c∉ch:=λz=>(hch c z).2.2.1 x c e rfl
  by_cases hc:c∈X.fs
  ·obtain⟨sl,q⟩:=slot c o (I.cne x c e) hc nch ho (I.freeC x c e)
   exact⟨_,q,hd⟩
  ·exact⟨o,keep c o (I.cne x c e) hc nch ho (I.freeC x c e),hd⟩
 refine⟨I.ok,I.os,hg,⟨λb o e n hb hx=>?_,λb o e n hb hx=>?_,λb o e n hx=>?_,λb o e hx=>?_,λb xs e=>tups b xs (I.base.tups b xs e),λb o xs e=>frzs b o xs (I.base.frzs b o xs e),λb ps e=>?_⟩,?_,λx c e=>?_,?_,λx c e=>?_,λp hp=>?_,hok,I.len⟩
 ·exact keep b o (neL b o e) hb (neC b o e hx) (I.base.keep b o e n hb hx) (I.base.free b o e n hx)
 ·obtain⟨sl,e1⟩:=I.base.slot b o e n hb hx
  obtain⟨sl',e2⟩:=slot b _ (neL b o e) hb (neC b o e hx) e1 (I.base.free b o e n hx)
  exact⟨sl',e2⟩
 ·obtain⟨o',e1⟩:=I.base.there b o e hx
  exact free b o' (neC b o e hx) e1 (I.base.free b o e n hx)
 ·obtain⟨o',e1⟩:=I.base.there b o e hx
  exact there b o' (neC b o e hx) e1
 ·obtain⟨m1,e1⟩:=I.base.tbls b ps e
  obtain⟨m2,e2⟩:=tbls b _ e1
  exact⟨m1++m2,by rw[e2,Array.append_assoc]⟩
 ·obtain⟨m,hn,hl⟩:=I.loc
  refine⟨m,ns m hn,λi x v e1 e2 e3=>?_⟩
  obtain⟨u,r,l⟩:=hl i x v e1 e2 e3
  refine⟨u,r,?_⟩
  rcases l with l|⟨k,c,e,z⟩
  ·exact .inl l
  ·exact .inr ⟨k,c,e,cellK x c e _ z⟩
 ·obtain⟨v,z⟩:=I.cell x c e
  exact⟨v,cellK x c e v z⟩
 ·obtain⟨m,⟨o,_,_,ho,_⟩,_⟩:=I.loc
  exact free _ o (λz=>(hch _ z).2.1 rfl) ho I.free
 ·obtain⟨v,o,ho,hd⟩:=I.cell x c e
  exact free c o (λz=>(hch c z).2.2.1 x c e rfl) ho (I.freeC x c e)
 ·obtain⟨e,n,ne,nf,d⟩:=I.pin p hp
  have nch:p.1∉ch:=λz=>(hch p.1 z).2.2.2 p hp rfl
  exact⟨keep p.1 p.2 ne nf nch e n,free p.1 p.2 nch e n,ne,nf,d⟩
theorem Inv.un{t':Nat}(I:Inv X pins σ H s)(u:Un X.fs [] H H' s.heap h')(hok:HOk X.prog X.w H' h'):Inv X pins σ H' {s with heap:=h',toks:=t'}:=by
 obtain⟨m,⟨o,es,ep,ho,r⟩,_⟩:=id I.loc
 obtain⟨sl,hL⟩:=u.any ho I.free (by simp)
 exact I.step (g':=s.gens) (d':=s.drawn) (ch:=[]) (λ_ z=>nomatch z) (λb o _ hb _ e n=>u.keep b o e n hb (by simp)) (λb o _ hb _ e n=>u.slot b o e n hb (by simp)) (λb o _ e n=>u.free b o e n (by simp)) (λb o _ e=>u.there b o e (by simp)) u.tups u.frzs u.tbls (λm' hm=>by
  obtain⟨o',es',ep',ho',r'⟩:=hm
  rw[ho]at ho';cases ho'
  exact⟨_,es',ep',hL,r'⟩) hok I.bare
theorem Inv.call{g':Array GenState}{t':Nat}{d':Drawn}{ch:List Addr}(I:Inv X pins σ H s)(u:Un (frs X.stack) ch H H' s.heap h')(hok:HOk X.prog X.w H' h')(hg:AllBare g')
  (hch:∀b∈ch,(b∈X.ex\/X.s₀.heap.objs.size<=b)/\b≠X.env.locals/\(∀x c,X.env.cells.lookup x=some c->c≠b)/\∀p∈X.pn++pins,p.1≠b):
  Inv X pins σ H' {s with heap:=h',gens:=g',drawn:=d',toks:=t'}:=by
 obtain⟨m,⟨o,es,ep,ho,r⟩,_⟩:=id I.loc
 obtain⟨sl,hL⟩:=u.any ho I.free λz=>(hch _ z).2.1 rfl
 exact I.step (ch:=ch) hch (λb o hL hb hc e n=>u.keep b o e n (λz=>(List.mem_cons.mp (I.stkSub b z)).elim hL hb) hc) (λb o _ _ hc e n=>u.any e n hc) (λb o hc e n=>u.free b o e n hc) (λb o hc e=>u.there b o e hc) u.tups u.frzs u.tbls (λm' hm=>by
  obtain⟨o',es',ep',ho',r'⟩:=hm
  rw[ho]at ho';cases ho'
  exact⟨_,es',ep',hL,r'⟩) hok hg
theorem Inv.turned{t':Nat}{it:Addr}(I:Inv X pins σ H s)(k:∀b o,b≠it->s.heap.get? b=some o->h'.get? b=some o)(hn:H it=none)(hL:it≠X.env.locals)
  (h1:it∈X.ex\/X.s₀.heap.objs.size<=it) (h2:∀x c,X.env.cells.lookup x=some c->c≠it) (h3:∀p∈X.pn++pins,p.1≠it):Inv X pins σ H {s with heap:=h',toks:=t'}:=by
 have nit:∀b u,H b=some u->b≠it:=λb u e z=>by rw[z,hn]at e;cases e
 refine I.step (g':=s.gens) (d':=s.drawn) (ch:=[it]) (λb hb=>?_) (λb o _ _ hc e _=>k b o (λz=>hc (by simp[z])) e) (λb o _ _ hc e _=>⟨o.slots,k b o (λz=>hc (by simp[z])) e⟩) (λ_ _ _ _ n=>n)
  (λb o hc e=>⟨o,k b o (λz=>hc (by simp[z])) e⟩) (λ_ _ e=>e) (λ_ _ _ e=>e) (λb ps e=>⟨#[],by rw[e];simp⟩) (λm hm=>?_) (λb u e=>?_) I.bare
 ·have e:b=it:=by simpa using hb
  subst e
  exact⟨h1,hL,h2,h3⟩
 ·obtain⟨o,es,ep,ho,r⟩:=hm
  exact⟨o,es,ep,k _ o (Ne.symm hL) ho,r⟩
 ·refine(I.hok b u e).stay (λc v hc q=>k c v ?_ q) (λ_ q=>q) λ_ _ q=>q
  rcases hc with z|z
  ·rw[z];exact nit b u e
  ·exact nit c _ z
theorem Inv.tok(I:Inv X pins σ H s)(t:Nat):Inv X pins σ H {s with toks:=t}:=I.un (h':=s.heap) (t':=t) Un.refl I.hok
theorem Inv.kept{t':Nat}(I:Inv X pins σ H s)(k:∀b u,s.heap.get? b=some u->h'.get? b=some u):Inv X pins σ H {s with heap:=h',toks:=t'}:=I.un (Un.kept k) (I.hok.kept k)
theorem Inv.laid{a:Addr}{o:HO}{t':Nat}(I:Inv X pins σ H s)(k:∀b u,s.heap.get? b=some u->h'.get? b=some u)(hp:s.heap.objs.size<=a)(new:ObjOk X.prog X.w (upd H a o) h' a o):
  Inv X pins σ (upd H a o) {s with heap:=h',toks:=t'}:=I.un (Un.laid k hp (I.hok.fresh hp)) (I.hok.laid k hp new)
theorem Inv.write{x e:Addr}{o:HO}{t':Nat}(I:Inv X pins σ H s)(mu:Mut (H x))(he:e=x\/H e=some (.own x))(k:∀b u,b≠e->s.heap.get? b=some u->h'.get? b=some u)(heo:∃u,h'.get? e=some u)
  (new:ObjOk X.prog X.w (upd H x o) h' x o):Inv X pins σ (upd H x o) {s with heap:=h',toks:=t'}:=I.un (Un.write mu he k heo) (I.hok.write mu he k heo new)
theorem Inv.weak{σ':List (Option V)}(I:Inv X pins σ H s)(hl:σ'.length=σ.length)(w:∀(i:Nat) v,σ'[i]?=some (some v)->σ[i]?=some (some v)):Inv X pins σ' H s:=
 ⟨I.ok,I.os,I.bare,I.base,let ⟨m,hn,hl'⟩:=I.loc;⟨m,hn,λi x v e1 e2 e3=>hl' i x v e1 (w i v e2) e3⟩,I.cell,I.free,I.freeC,I.pin,I.hok,hl.trans I.len⟩
theorem Inv.pins_of{pins':List (Addr×Obj)}(I:Inv X pins σ H s)(h:∀p∈pins',s.heap.get? p.1=some p.2/\H p.1=none/\p.1≠X.env.locals/\p.1∉X.fs/\∀v,p.2.data≠.cell v):Inv X pins' σ H s:=
 ⟨I.ok,I.os,I.bare,I.base,I.loc,I.cell,I.free,I.freeC,λp hp=>(List.mem_append.mp hp).elim (λz=>I.pin p (List.mem_append_left _ z)) (h p),I.hok,I.len⟩
theorem zAd{N:List Str}(hN:N.Nodup){i j:Nat}{x:Str}(a:N[i]?=some x)(b:N[j]?=some x):i=j:=by
 obtain⟨h1,e1⟩:=List.getElem?_eq_some_iff.mp a
 obtain⟨h2,e2⟩:=List.getElem?_eq_some_iff.mp b
 exact(List.getElem_inj hN).mp (e1.trans e2.symm)
theorem yQ{M:Model}{A:Around}{E:Value->Shared->Prop}{i:Nat}{x:Str}{v:V}{u:Value}{Q:Unit->Shared->Prop}(I:Inv X pins σ H s)(hN:X.N.Nodup)(hi:X.N[i]?=some x)(hx:Loc X.env.scope x)(r:RelV v u)
  (h:∀s',Inv X pins (σ.set i (some v)) H s'->(∃a,Heap.SameBut a s.heap s'.heap/\(a=X.env.locals\/X.env.cells.lookup x=some a))->Q () s') (hf:X.fn x=true\/X.env.scope.names.lookup x=some .local:=by first|exact .inl rfl|exact .inr rfl|assumption):wpAny M A (storeName X.env x u) Q E s:=by
 obtain⟨m,hn,hl⟩:=id I.loc
 have hcls:(X.env.scope.kind==.class || (X.env.scope.kind==.module&&X.env.locals != X.env.globals))=false:=by rw[I.ok.kind];rfl
 have hiσ:i<σ.length:=by rw[I.len];exact(List.getElem?_eq_some_iff.mp hi).1
 have cne:=I.cne
 have tracked:∀{a:Addr} {h':Heap},(∃o,s.heap.get? a=some o/\H a=none)->Heap.SameBut a s.heap h'->HOk X.prog X.w H h':=λ{a h'} ha hs b ob e=>by
  obtain⟨_,_,hfree⟩:=ha
  refine(I.hok b ob e).stay (λc w' hc q=>(hs.2 c ?_).trans q) (λ_ q=>q) λ_ _ q=>q
  rintro rfl
  rcases hc with rfl|hc
  ·rw[hfree]at e;cases e
  ·rw[hfree]at hc;cases hc
 rcases hx with hk|hk
 ·refine wpAny_storeName_local hk hn (λh' hn' hs=>?_) hcls
  obtain⟨oL,_,_,hoL,_⟩:=id hn
  refine h _ ⟨I.ok,I.os,I.bare,⟨λb o e n hb hx=>?_,λb o e n hb hx=>?_,I.base.free,λb o e hx=>?_,I.base.tups,I.base.frzs,I.base.tbls⟩,⟨_,hn',λj y v' e1 e2 e3=>?_⟩,λy c e=>?_,I.free,I.freeC,λp hp=>?_,tracked ⟨oL,hoL,I.free⟩ hs,by simpa using I.len⟩ ⟨_,hs,.inl rfl⟩
  ·exact(hs.2 b (Nat.ne_of_lt (Nat.lt_of_lt_of_le (Heap.lt_size e) I.ok.above))).trans (I.base.keep b o e n hb hx)
  ·obtain⟨sl,e1⟩:=I.base.slot b o e n hb hx
   exact⟨sl,(hs.2 b (Nat.ne_of_lt (Nat.lt_of_lt_of_le (Heap.lt_size e) I.ok.above))).trans e1⟩
  ·obtain⟨o',e1⟩:=I.base.there b o e hx
   exact⟨o',(hs.2 b (Nat.ne_of_lt (Nat.lt_of_lt_of_le (Heap.lt_size e) I.ok.above))).trans e1⟩
  ·by_cases hj:j=i
   ·subst hj
    rw[hi]at e1;cases e1
    rw[List.getElem?_set_self hiσ]at e2
    cases e2
    exact⟨u,r,.inl ⟨hk,by simp⟩⟩
   ·rw[List.getElem?_set_ne (Ne.symm hj)]at e2
    obtain⟨u',r',q⟩:=hl j y v' e1 e2 e3
    refine⟨u',r',?_⟩
    rcases q with⟨k,e⟩|⟨k,c,e,z⟩
    ·refine .inl ⟨k,?_⟩
     have:y≠x:=λe=>hj (zAd hN e1 (e▸hi))
     simp[this,e]
    ·exact .inr ⟨k,c,e,z.sameBut hs (cne y c e)⟩
  ·obtain⟨w',z⟩:=I.cell y c e
   exact⟨w',z.sameBut hs (cne y c e)⟩
  ·obtain⟨e,n,ne,nf,d⟩:=I.pin p hp
   exact⟨(hs.2 p.1 ne).trans e,n,ne,nf,d⟩
 ·have hfn:X.fn x=true:=by
   rcases hf with z|z
   ·exact z
   ·rw[z]at hk;cases hk
  obtain⟨c,hc⟩:=I.ok.has x (.inl hk)
  obtain⟨w',z⟩:=I.cell x c hc
  refine wpAny_storeName_cell I.ok.kind hk hc z (λh' hc' hs=>?_)
  obtain⟨oc,hoc,hocd⟩:=id z
  refine h {s with heap:=h'} ⟨I.ok,I.os,I.bare,⟨λb o e n hb hx=>?_,λb o e n hb hx=>?_,I.base.free,λb o e hx=>?_,I.base.tups,I.base.frzs,I.base.tbls⟩,⟨m,hn.sameBut hs (Ne.symm (cne x c hc)),λj y v' e1 e2 e3=>?_⟩,λy c' e=>?_,I.free,I.freeC,λp hp=>?_,tracked ⟨oc,hoc,I.freeC x c hc⟩ hs,by simpa using I.len⟩ ⟨c,hs,.inr hc⟩
  ·exact(hs.2 b (Nat.ne_of_lt (Nat.lt_of_lt_of_le (Heap.lt_size e) (I.ok.cab x c hfn hc)))).trans (I.base.keep b o e n hb hx)
  ·obtain⟨sl,e1⟩:=I.base.slot b o e n hb hx
   exact⟨sl,(hs.2 b (Nat.ne_of_lt (Nat.lt_of_lt_of_le (Heap.lt_size e) (I.ok.cab x c hfn hc)))).trans e1⟩
  ·obtain⟨o',e1⟩:=I.base.there b o e hx
   exact⟨o',(hs.2 b (Nat.ne_of_lt (Nat.lt_of_lt_of_le (Heap.lt_size e) (I.ok.cab x c hfn hc)))).trans e1⟩
  ·by_cases hj:j=i
   ·subst hj
    rw[hi]at e1;cases e1
    rw[List.getElem?_set_self hiσ]at e2
    cases e2
    exact⟨u,r,.inr ⟨.inl hk,c,hc,hc'⟩⟩
   ·rw[List.getElem?_set_ne (Ne.symm hj)]at e2
    obtain⟨u',r',q⟩:=hl j y v' e1 e2 e3
    refine⟨u',r',?_⟩
    rcases q with q|⟨k,c',e,z'⟩
    ·exact .inl q
    ·refine .inr ⟨k,c',e,z'.sameBut hs ?_⟩
     rintro rfl
     exact hj (zAd hN e1 (I.ok.inj _ _ _ e hc▸hi))
  ·by_cases hcc:c'=c
   ·subst hcc;exact⟨_,hc'⟩
   ·obtain⟨w2,z2⟩:=I.cell y c' e
    exact⟨w2,z2.sameBut hs hcc⟩
  ·obtain⟨e,n,ne,nf,d⟩:=I.pin p hp
   refine⟨(hs.2 p.1 ?_).trans e,n,ne,nf,d⟩
   intro q
   rw[q,hoc]at e
   have q':oc=p.2:=Option.some.inj e
   exact d w' (by rw[<-q'];exact hocd)
theorem zU{M:Model}{A:Around}{E:Value->Shared->Prop}{i:Nat}{x:Str}{v:V}{u:Value}{Q:Unit->Shared->Prop}(I:Inv X pins σ H s)(hN:X.N.Nodup)(hi:X.N[i]?=some x)(hx:Loc X.env.scope x)(r:RelV v u)
  (h:∀s',Inv X pins (σ.set i (some v)) H s'->Q () s') (hf:X.fn x=true\/X.env.scope.names.lookup x=some .local:=by first|exact .inl rfl|exact .inr rfl|assumption):wpAny M A (storeName X.env x u) Q E s:=
 yQ I hN hi hx r (λs' I' _=>h s' I') hf
theorem Inv.call'{s':Shared}{ch:List Addr}(I:Inv X pins σ H s)(ho:s'.os=s.os)(u:Un (frs X.stack) ch H H' s.heap s'.heap)(hok:HOk X.prog X.w H' s'.heap)(hg:AllBare s'.gens)
  (hch:∀b∈ch,(b∈X.ex\/X.s₀.heap.objs.size<=b)/\b≠X.env.locals/\(∀x c,X.env.cells.lookup x=some c->c≠b)/\∀p∈X.pn++pins,p.1≠b):Inv X pins σ H' s':=by
 obtain⟨h',g',d',t',o'⟩:=s'
 have e:o'=s.os:=ho
 subst e
 exact I.call (g':=g') (t':=t') (d':=d') u hok hg hch
end
abbrev XK:=Value->Option Addr->Hp->Prop
abbrev St:=List (Option V)
abbrev VK:=V->Hp->Prop
abbrev TE:=St->Hp->VK->Prop
abbrev TT:=St->Hp->(Bool->Hp->Prop)->Prop
abbrev TA:=St->Hp->(List V->Hp->Prop)->Prop
structure kD where
 nx:St->Hp->Prop
 rt:VK
 bk:St->Hp->Prop:=λ_ _=>False
 ct:St->Hp->Prop:=λ_ _=>False
abbrev TS:=kD->St->Hp->Prop
def EP(X:Cx)(pins:List (Addr×Obj))(σ:St)(Q:VK)(u:Value)(s':Shared):Prop:=∃v H',Inv X pins σ H' s'/\RelV v u/\Q v H'
def TP(X:Cx)(pins:List (Addr×Obj))(σ:St)(Q:Bool->Hp->Prop)(b:Bool)(s':Shared):Prop:=∃H',Inv X pins σ H' s'/\Q b H'
def AP(X:Cx)(pins:List (Addr×Obj))(σ:St)(Q:List V->Hp->Prop)(us:List Value)(s':Shared):Prop:=∃vs H',Inv X pins σ H' s'/\Vals vs us/\Q vs H'
def SP(X:Cx)(pins:List (Addr×Obj))(D:kD)(f:Flow)(s':Shared):Prop:=
 match f with
 |.next=>∃σ' H',Inv X pins σ' H' s'/\D.nx σ' H'
 |.brk=>∃σ' H',Inv X pins σ' H' s'/\D.bk σ' H'
 |.cont=>∃σ' H',Inv X pins σ' H' s'/\D.ct σ' H'
 |.ret u=>∃v σ' H',Inv X pins σ' H' s'/\RelV v u/\D.rt v H'
def PE(X:Cx)(e:Expr)(t:TE):Prop:=
 ∀(pins:List (Addr×Obj)) (s:Shared) (σ:St) (H:Hp) (Q:VK),Inv X pins σ H s->t σ H Q->wpAny (model X.prog X.w) X.A (eval e X.env) (EP X pins σ Q) X.xe s
def PT(X:Cx)(e:Expr)(t:TT):Prop:=
 ∀(pins:List (Addr×Obj)) (s:Shared) (σ:St) (H:Hp) (Q:Bool->Hp->Prop),Inv X pins σ H s->t σ H Q->wpAny (model X.prog X.w) X.A (isTrue e X.env (eval e X.env)) (TP X pins σ Q) X.xe s
def PW(X:Cx)(e:Expr)(t:TT):Prop:=
 ∀(whole:Sem Value) (pins:List (Addr×Obj)) (s:Shared) (σ:St) (H:Hp) (Q:Bool->Hp->Prop),Inv X pins σ H s->t σ H Q->wpAny (model X.prog X.w) X.A (isTrue e X.env whole) (TP X pins σ Q) X.xe s
theorem PW.pt{X:Cx}{e:Expr}{t:TT}(h:PW X e t):PT X e t:=h _
def PA(X:Cx)(es:List Expr)(t:TA):Prop:=
 ∀(pos:Pos) (pins:List (Addr×Obj)) (s:Shared) (σ:St) (H:Hp) (Q:List V->Hp->Prop),Inv X pins σ H s->t σ H Q->wpAny (model X.prog X.w) X.A (spliced (backTo pos (starEach es X.env))) (AP X pins σ Q) X.xe s
def PS(X:Cx)(st:Stmt)(t:TS):Prop:=
 ∀(pins:List (Addr×Obj)) (s:Shared) (σ:St) (H:Hp) (D:kD),Inv X pins σ H s->t D σ H->wpAny (model X.prog X.w) X.A (exec st X.env) (SP X pins D) X.xe s
def PSs(X:Cx)(st:List Stmt)(t:TS):Prop:=
 ∀(pins:List (Addr×Obj)) (s:Shared) (σ:St) (H:Hp) (D:kD),Inv X pins σ H s->t D σ H->wpAny (model X.prog X.w) X.A (execs st X.env) (SP X pins D) X.xe s
theorem thn{α:Type}{t:Sem α}{Q Q':α->Shared->Prop}{M:Model}{A:Around}{E:Value->Shared->Prop}{s:Shared}(h:wpAny M A t Q E s)(hQ:∀a s,Q a s->Q' a s):wpAny M A t Q' E s:=wpAny_mono h hQ λ_ _ x=>x
end L2
namespace L2
open PySem PySem.Spec PyProof.Rows
section
variable{X:Cx}
def zB2(i:Nat):TE:=λσ H Q=>∃v,σ[i]?=some (some v)/\Q v H
def tC(v:V):TE:=λ_ H Q=>Q v H
theorem nL{i:Nat}{x:Str}{pos:Pos}(hN:X.N[i]?=some x)(hv:Vis X.env.scope x)(hd:(x==("__debug__":Str))=false:=by decide)(hcd:(x==("__classdict__":Str))=false:=by decide):PE X (.Name x pos) (zB2 i):=by
 intro pins s σ H Q I h
 obtain⟨v,e,h⟩:=h
 obtain⟨m,hn,hl⟩:=I.loc
 obtain⟨u,r,l⟩:=hl i x v hN e hv
 have fin:EP X pins σ Q u s:=⟨v,H,I,r,h⟩
 rcases l with⟨hk,hm⟩|⟨hk,c,hc,hcell⟩
 ·exact wpAny_Name (wpAny_loadName_local I.ok.kind hk hn hm fin) hd
 ·rcases hk with hk|hk
  ·exact wpAny_Name (wpAny_loadName_cell I.ok.kind hk hc hcell fin) hd
  ·exact wpAny_Name (wpAny_loadName_free I.ok.kind hk hc hcell fin hcd) hd
theorem cC{i j pos}:PE X (.Constant (.int i) j pos) (tC (.int i)):=λ_ _ _ H _ I h=>wpAny_Constant_int ⟨.int i,H,I.tok _,⟨_,rfl⟩,h⟩
theorem zIw{b j pos}:PE X (.Constant (.bool b) j pos) (tC (.bl b)):=λ_ _ _ H _ I h=>Constant_bool ⟨.bl b,H,I,rfl,h⟩
theorem zHc{j pos}:PE X (.Constant .none j pos) (tC .non):=λ_ _ _ H _ I h=>Constant_none ⟨.non,H,I,rfl,h⟩
theorem zBn{x j pos}:PE X (.Constant (.str x) j pos) (tC (.str x)):=λ_ _ _ H _ I h=>Calls.Constant_str ⟨.str x,H,I.tok _,⟨_,rfl⟩,h⟩
def Gl(X:Cx)(x:Str):Prop:=X.env.kindOf x=some .globalImplicit
theorem uO{E:Value->Shared->Prop}{pins:List (Addr×Obj)}{s:Shared}{σ:St}{H:Hp}{x:Str}{u:Value}{pos:Pos}{Q:Value->Shared->Prop}(I:Inv X pins σ H s)(hg:Gl X x)(hm:X.mg x=some u)(h:Q u s)
  (hd:(x==("__debug__":Str))=false:=by decide):wpAny (model X.prog X.w) X.A (eval (.Name x pos) X.env) Q E s:=
 Calls.Name_function_global I.ok.kind hg (Calls.loadGlobal_global (by rw[I.ok.glob];exact I.mod.glob.keeps I.bk) hm h) hd
theorem lW{E:Value->Shared->Prop}{pins:List (Addr×Obj)}{s:Shared}{σ:St}{H:Hp}{x:Str}{u:Value}{pos:Pos}{Q:Value->Shared->Prop}(I:Inv X pins σ H s)(hg:Gl X x)(hm:X.mg x=none)(hv:bootBuiltins x=some u)(h:Q u s)
  (hn:x≠"__name__":=by decide) (hd:(x==("__debug__":Str))=false:=by decide):wpAny (model X.prog X.w) X.A (eval (.Name x pos) X.env) Q E s:=by
 obtain⟨mb,h1,h2⟩:=I.mod.blt
 exact Calls.Name_function_global I.ok.kind hg (Calls.loadGlobal_builtin (by rw[I.ok.glob];exact I.mod.glob.keeps I.bk) hm (by rw[I.ok.blt];exact h1.keeps I.bk) ((h2 x hn).trans hv) h) hd
theorem zAK{x:Str}{v:V}{u:Value}{pos:Pos}(hg:Gl X x)(hm:X.mg x=some u)(r:RelV v u)(hd:(x==("__debug__":Str))=false:=by decide):PE X (.Name x pos) (tC v):=
 λ_ _ _ H _ I h=>uO I hg hm ⟨v,H,I,r,h⟩ hd
theorem cY{x:Str}{v:V}{u:Value}{pos:Pos}(hg:Gl X x)(hm:X.mg x=none)(hv:bootBuiltins x=some u)(r:RelV v u)(hn:x≠"__name__":=by decide)(hd:(x==("__debug__":Str))=false:=by decide):PE X (.Name x pos) (tC v):=
 λ_ _ _ H _ I h=>lW I hg hm hv ⟨v,H,I,r,h⟩ hn hd
variable{a b:Expr}{ta tb:TE}{pos:Pos}
def tB(t:TE):TT:=λσ H Q=>t σ H λx H1=>∃c,x=.bl c/\Q c H1
theorem zG1{e:Expr}{t:TE}(h:PE X e t)(he:∀whole,isTrue e X.env whole=(do let v <- whole;standAt e.pos;holding [v] (truthy v)):=by intro _;rfl):PT X e (tB t):=by
 intro pins s σ H Q I hw
 refine isTrue_plain (thn (h pins s σ H _ I hw) λv s1 ⟨x,H1,I1,r1,q1⟩=>?_) (he _)
 obtain⟨d,rfl,q⟩:=q1
 cases r1
 exact wpAny_truthy_bool ⟨H1,I1,q⟩
variable{tA tB':TT}{rest:List Expr}
def zJf(t u:TT):TT:=λσ H Q=>t σ H λc H1=>if c=true then u σ H1 Q else Q false H1
def tOr(t u:TT):TT:=λσ H Q=>t σ H λc H1=>if c=true then Q true H1 else u σ H1 Q
def zJb(t:TT):TT:=λσ H Q=>t σ H λc H1=>Q (!c) H1
theorem zFx(ha:PT X a tA):PW X (.BoolOp .And [a] pos) tA:=by
 intro wh pins s σ H Q I h
 refine isTrue_and (thn (ha pins s σ H Q I h) λc s1 e=>?_)
 cases c with
 |true=>exact isTrue_and_nil e
 |false=>exact e
theorem zGU(ha:PT X a tA):PW X (.BoolOp .Or [a] pos) tA:=by
 intro wh pins s σ H Q I h
 refine isTrue_or (thn (ha pins s σ H Q I h) λc s1 e=>?_)
 cases c with
 |false=>exact isTrue_or_nil e
 |true=>exact e
theorem zGV(ha:PT X a tA)(hb:PW X (.BoolOp .And (b::rest) pos) tB'):PW X (.BoolOp .And (a::b::rest) pos) (zJf tA tB'):=by
 intro wh pins s σ H Q I h
 refine isTrue_and (thn (ha pins s σ H _ I h) λc s1 ⟨H1,I1,q1⟩=>?_)
 cases c with
 |true=>exact hb wh pins s1 σ H1 Q I1 q1
 |false=>exact⟨H1,I1,q1⟩
theorem zIq(ha:PT X a tA)(hb:PW X (.BoolOp .Or (b::rest) pos) tB'):PW X (.BoolOp .Or (a::b::rest) pos) (tOr tA tB'):=by
 intro wh pins s σ H Q I h
 refine isTrue_or (thn (ha pins s σ H _ I h) λc s1 ⟨H1,I1,q1⟩=>?_)
 cases c with
 |true=>exact⟨H1,I1,q1⟩
 |false=>exact hb wh pins s1 σ H1 Q I1 q1
theorem zG2(ha:PT X a tA):PT X (.UnaryOp .Not a pos) (zJb tA):=by
 intro pins s σ H Q I h
 exact isTrue_not (ha pins s σ H (λc H1=>Q (!c) H1) I h)
def zId(ta tb:TE):TE:=λσ H Q=>ta σ H λx H1=>∃c,x=.bl c/\if c=true then tb σ H1 Q else Q (.bl false) H1
def zJa(ta tb:TE):TE:=λσ H Q=>ta σ H λx H1=>∃c,x=.bl c/\if c=true then Q (.bl true) H1 else tb σ H1 Q
theorem zHb{op}{t:TE}(h:PE X a t):PE X (.BoolOp op [a] pos) t:=λpins s σ H Q I hw=>BoolOp_one (h pins s σ H Q I hw)
theorem zHf(ha:PE X a ta)(hb:PE X (.BoolOp .And (b::rest) pos) tb):PE X (.BoolOp .And (a::b::rest) pos) (zId ta tb):=by
 intro pins s σ H Q I h
 refine BoolOp_and (thn (ha pins s σ H _ I h) λv s1 ⟨x,H1,I1,r1,q1⟩=>?_)
 obtain⟨c,rfl,q1⟩:=q1
 cases r1
 refine wpAny_truthy_bool ?_
 cases c with
 |true=>exact hb pins s1 σ H1 Q I1 q1
 |false=>exact⟨.bl false,H1,I1,rfl,q1⟩
theorem zIu(ha:PE X a ta)(hb:PE X (.BoolOp .Or (b::rest) pos) tb):PE X (.BoolOp .Or (a::b::rest) pos) (zJa ta tb):=by
 intro pins s σ H Q I h
 refine BoolOp_or (thn (ha pins s σ H _ I h) λv s1 ⟨x,H1,I1,r1,q1⟩=>?_)
 obtain⟨c,rfl,q1⟩:=q1
 cases r1
 refine wpAny_truthy_bool ?_
 cases c with
 |false=>exact hb pins s1 σ H1 Q I1 q1
 |true=>exact⟨.bl true,H1,I1,rfl,q1⟩
def tIf(t:TT)(ta tb:TE):TE:=λσ H Q=>t σ H λc H1=>if c=true then ta σ H1 Q else tb σ H1 Q
theorem zEH{c:Expr}(hc:PT X c tA)(ha:PE X a ta)(hb:PE X b tb):PE X (.IfExp c a b pos) (tIf tA ta tb):=by
 intro pins s σ H Q I h
 refine wpAny_IfExp (thn (hc pins s σ H _ I h) λd s1 ⟨H1,I1,q1⟩=>?_)
 cases d with
 |true=>exact ha pins s1 σ H1 Q I1 q1
 |false=>exact hb pins s1 σ H1 Q I1 q1
end
end L2
namespace L2
open PySem PySem.Spec PyProof.Rows
def SqL(K:W.Frag)(H:Hp)(a:Addr)(xs:List V):Prop:=
 Rd H a (.lst xs) \/
  ∃(o:Obj) (its:Array Value) (n:Nat),K.lookup a=some o/\o.cls=.type "list"/\o.dict=none/\o.data=.seq its n/\its.size<=sizeLine/\Vals xs its.toList
def SqT(K:W.Frag)(H:Hp)(a:Addr)(xs:List V):Prop:=
 Rd H a (.tup xs) \/
  ∃(o:Obj) (its:Array Value) (n:Nat),K.lookup a=some o/\o.cls=.type "tuple"/\o.data=.seq its n/\its.size<=sizeLine/\Vals xs its.toList
def zKm:Value->Option V
 |.none=>some .non
 |.bool b=>some (.bl b)
 |.int i _=>some (.int i)
 |.str x _=>some (.str x)
 |.bytes b _=>some (.byt b)
 |.float b _=>some (.flt b)
 |.ref a=>some (.ref a)
 |.type n=>some (.ty n)
 |_=>none
theorem RelV.abs{x:V}{u:Value}(r:RelV x u):zKm u=some x:=by
 cases x with
 |non=>cases r;rfl
 |bl _=>cases r;rfl
 |int _=>obtain⟨t,rfl⟩:=r;rfl
 |str _=>obtain⟨t,rfl⟩:=r;rfl
 |byt _=>obtain⟨t,rfl⟩:=r;rfl
 |flt _=>obtain⟨t,rfl⟩:=r;rfl
 |ref _=>cases r;rfl
 |ty _=>cases r;rfl
theorem RelV.inj{x y:V}{u:Value}(r:RelV x u)(q:RelV y u):x=y:=Option.some.inj (r.abs.symm.trans q.abs)
theorem Vals.inj:∀{xs ys:List V}{us:List Value},Vals xs us->Vals ys us->xs=ys
 |_,_,_,.nil,.nil=>rfl
 |_,_,_,.cons r t,.cons r' t'=>by rw[r.inj r',Vals.inj t t']
section
variable{X:Cx}{pins:List (Addr×Obj)}{σ:St}{H:Hp}{s:Shared}{a:Addr}{xs ys:List V}
theorem SqL.of{K:W.Frag}(h:H a=some (.lst xs)):SqL K H a xs:=.inl (.inl h)
theorem SqT.of{K:W.Frag}(h:H a=some (.tup xs)):SqT K H a xs:=.inl (.inl h)
theorem Inv.list(I:Inv X pins σ H s)(h:SqL X.K H a xs):∃its:List Value,Vals xs its/\PlainL s.heap a its.toArray/\xs.length<=sizeLine:=by
 rcases h with h|⟨o,its,n,hk,hc,hd,hs,hz,r⟩
 ·obtain⟨z,its,n,r,e⟩:=h.ok I.hok
  exact⟨its,r,⟨_,n,e,rfl,rfl,rfl⟩,z⟩
 ·refine⟨its.toList,r,⟨o,n,I.kIn a o hk,hc,hd,by simpa using hs⟩,?_⟩
  have e:=r.length
  simp only[Array.length_toList]at e
  omega
theorem Inv.tuple(I:Inv X pins σ H s)(h:SqT X.K H a xs):∃its:List Value,Vals xs its/\IsTup s.heap a its.toArray/\xs.length<=sizeLine:=by
 rcases h with h|⟨o,its,n,hk,hc,hs,hz,r⟩
 ·obtain⟨z,its,r,p⟩:=h.ok I.hok
  exact⟨its,r,p,z⟩
 ·refine⟨its.toList,r,⟨o,I.kIn a o hk,hc,n,by simpa using hs⟩,?_⟩
  have e:=r.length
  simp only[Array.length_toList]at e
  omega
theorem Inv.list_inj(I:Inv X pins σ H s)(h:SqL X.K H a xs)(h':SqL X.K H a ys):xs=ys:=by
 obtain⟨its,r,⟨o,n,e,_,_,d⟩,_⟩:=I.list h
 obtain⟨its',r',⟨o',n',e',_,_,d'⟩,_⟩:=I.list h'
 rw[e]at e';cases e'
 rw[d]at d'
 injection d' with d1 _
 have:its=its':=by simpa using congrArg Array.toList d1
 subst this
 exact r.inj r'
theorem Inv.tuple_inj(I:Inv X pins σ H s)(h:SqT X.K H a xs)(h':SqT X.K H a ys):xs=ys:=by
 obtain⟨its,r,⟨o,e,_,n,d⟩,_⟩:=I.tuple h
 obtain⟨its',r',⟨o',e',_,n',d'⟩,_⟩:=I.tuple h'
 rw[e]at e';cases e'
 rw[d]at d'
 injection d' with d1 _
 have:its=its':=by simpa using congrArg Array.toList d1
 subst this
 exact r.inj r'
end
abbrev Cx.wish(X:Cx)(E:Value->Shared->Prop):Cx:={X with xe:=E}
abbrev Cx.nox(X:Cx):Cx:=X.wish λ_ _=>False
theorem Cx.Ok.wish{X:Cx}(ok:X.Ok)(E:Value->Shared->Prop):(X.wish E).Ok:=
 ⟨ok.mod,ok.kind,ok.glob,ok.blt,ok.above,ok.inj,ok.has,ok.cab,ok.hd,ok.frames,ok.stk,ok.exf,ok.bs,ok.bsz,ok.noex,ok.exfs,ok.funs,ok.frf⟩
theorem Cx.Ok.unwish{X:Cx}{E:Value->Shared->Prop}(ok:(X.wish E).Ok):X.Ok:=
 ⟨ok.mod,ok.kind,ok.glob,ok.blt,ok.above,ok.inj,ok.has,ok.cab,ok.hd,ok.frames,ok.stk,ok.exf,ok.bs,ok.bsz,ok.noex,ok.exfs,ok.funs,ok.frf⟩
section
variable{X:Cx}{pins:List (Addr×Obj)}{σ:St}{H:Hp}{s:Shared}{E:Value->Shared->Prop}
theorem Inv.wish(I:Inv X pins σ H s)(E:Value->Shared->Prop):Inv (X.wish E) pins σ H s:=⟨I.ok.wish E,I.os,I.bare,I.base,I.loc,I.cell,I.free,I.freeC,I.pin,I.hok,I.len⟩
theorem Inv.unwish(I:Inv (X.wish E) pins σ H s):Inv X pins σ H s:=⟨I.ok.unwish,I.os,I.bare,I.base,I.loc,I.cell,I.free,I.freeC,I.pin,I.hok,I.len⟩
theorem SP.unwish{D:kD}{f:Flow}{s':Shared}(h:SP (X.wish E) pins D f s'):SP X pins D f s':=by
 cases f with
 |next=>obtain⟨σ',H',I,q⟩:=h;exact⟨σ',H',I.unwish,q⟩
 |brk=>obtain⟨σ',H',I,q⟩:=h;exact⟨σ',H',I.unwish,q⟩
 |cont=>obtain⟨σ',H',I,q⟩:=h;exact⟨σ',H',I.unwish,q⟩
 |ret u=>obtain⟨v,σ',H',I,r,q⟩:=h;exact⟨v,σ',H',I.unwish,r,q⟩
theorem PSs.nox{st:List Stmt}{t:TS}(h:PSs X.nox st t):PSs X st t:=λpins s σ H D I hw=>
 wpAny_mono (h pins s σ H D (I.wish _) hw) (λ_ _ q=>q.unwish) λ_ _ z=>False.elim z
end
section
variable{X:Cx}{st:Stmt}{rest:List Stmt}{t u:TS}{e:Expr}{te:TE}{pos:Pos}
def zH9:TS:=λD σ H=>D.nx σ H
def zI7(t u:TS):TS:=λD σ H=>t {D with nx:=u D} σ H
theorem uI:PSs X [] zH9:=λ_ _ σ H _ I h=>wpAny_execs_nil ⟨σ,H,I,h⟩
theorem gI(h1:PS X st t)(h2:PSs X rest u):PSs X (st::rest) (zI7 t u):=by
 intro pins s σ H D I h
 refine wpAny_execs_cons (thn (h1 pins s σ H {D with nx:=u D} I h) λf s1 q=>?_)
 cases f with
 |next=>
  obtain⟨σ',H',I',q⟩:=q
  exact h2 pins s1 σ' H' D I' q
 |ret v=>exact q
 |brk=>exact q
 |cont=>exact q
theorem lB(h1:PS X st t):PSs X [st] t:=by
 intro pins s σ H D I h
 refine wpAny_execs_cons (thn (h1 pins s σ H D I h) λf s1 q=>?_)
 cases f with
 |next=>exact wpAny_execs_nil q
 |ret v=>exact q
 |brk=>exact q
 |cont=>exact q
theorem Inv.quiet{pins:List (Addr×Obj)}{σ:St}{H:Hp}{s:Shared}(I:Inv X pins σ H s):interactive X.env=false:=by simp[interactive,I.ok.kind]
def zIb(te:TE):TS:=λD σ H=>te σ H λ_ H1=>D.nx σ H1
theorem zAE(he:PE X e te)(hs:swapsWith e none pos.line X.env=pure false:=by rfl):PS X (.Expr e pos) (zIb te):=by
 intro pins s σ H D I h
 exact wpAny_Expr_any (thn (he pins s σ H _ I h) λv s1 ⟨x,H1,I1,r1,q1⟩=>⟨σ,H1,I1,q1⟩) I.quiet hs
def zI9(te:TE):TS:=λD σ H=>te σ H D.rt
theorem lR(he:PE X e te):PS X (.Return (some e) pos) (zI9 te):=by
 intro pins s σ H D I h
 exact wpAny_Return_some (thn (he pins s σ H _ I h) λv s1 ⟨x,H1,I1,r1,q1⟩=>⟨x,σ,H1,I1,r1,q1⟩)
def zJc(c:TT)(t u:TS):TS:=λD σ H=>c σ H λb H1=>if b=true then t D σ H1 else u D σ H1
theorem vR{c:Expr}{a b:List Stmt}{tc:TT}(hc:PT X c tc)(ha:PSs X a t)(hb:PSs X b u):PS X (.If c a b pos) (zJc tc t u):=by
 intro pins s σ H D I h
 refine wpAny_If (thn (hc pins s σ H _ I h) λd s1 ⟨H1,I1,q1⟩=>?_)
 cases d with
 |true=>exact ha pins s1 σ H1 D I1 q1
 |false=>exact hb pins s1 σ H1 D I1 q1
def zGC:TS:=λ_ _ _=>False
theorem zDI{sts:List Stmt}:PSs X sts zGC:=λ_ _ _ _ _ _ h=>h.elim
end
abbrev TG:=V->St->Hp->(St->Hp->Prop)->Prop
abbrev TGs:=List V->St->Hp->(St->Hp->Prop)->Prop
def PG(X:Cx)(target:Expr)(t:TG):Prop:=
 ∀(pins:List (Addr×Obj)) (s:Shared) (σ:St) (H:Hp) (v:V) (u:Value) (Q:St->Hp->Prop),Inv X pins σ H s->RelV v u->t v σ H Q ->
  wpAny (model X.prog X.w) X.A (assign target X.env u) (λ_ s'=>∃σ' H',Inv X pins σ' H' s'/\Q σ' H') X.xe s
def PGs(X:Cx)(ts:List Expr)(t:TGs):Prop:=
 ∀(pins:List (Addr×Obj)) (s:Shared) (σ:St) (H:Hp) (vs:List V) (us:List Value) (Q:St->Hp->Prop),Inv X pins σ H s->Vals vs us->t vs σ H Q ->
  wpAny (model X.prog X.w) X.A (assignInOrder ((assignEach ts X.env).map (·.2)) us) (λ_ s'=>∃σ' H',Inv X pins σ' H' s'/\Q σ' H') X.xe s
abbrev wZ:=V->V->V->Hp->(Hp->Prop)->Prop
def zCp(X:Cx)(t:wZ):Prop:=
 ∀(pins:List (Addr×Obj)) (s:Shared) (σ:St) (H:Hp) (o i v:V) (ov iv u:Value) (Q:Hp->Prop),Inv X pins σ H s->RelV o ov->RelV i iv->RelV v u->t o i v H Q ->
  wpAny (model X.prog X.w) X.A (setItem ov iv u) (λ_ s'=>∃H',Inv X pins σ H' s'/\Q H') X.xe s
section
variable{X:Cx}{pos:Pos}
def qQ(i:Nat):TG:=λv σ H Q=>Q (σ.set i (some v)) H
theorem zFG{i:Nat}{x:Str}(hN:X.N.Nodup)(hi:X.N[i]?=some x)(hx:Loc X.env.scope x)(hf:X.fn x=true\/X.env.scope.names.lookup x=some .local:=by first|exact .inl rfl|exact .inr rfl|assumption):PG X (.Name x pos) (qQ i):=by
 intro pins s σ H v u Q I r h
 exact wpAny_assign_Name (zU I hN hi hx r (λs' I'=>⟨_,H,I',h⟩) hf)
def zJG:TGs:=λvs σ H Q=>vs=[]/\Q σ H
def zIN(t:TG)(u:TGs):TGs:=λvs σ H Q=>∃v r,vs=v::r/\t v σ H λσ' H'=>u r σ' H' Q
theorem zFF:PGs X [] zJG:=by
 intro pins s σ H vs us Q I r h
 obtain⟨e,h⟩:=h
 subst e
 cases r
 exact assignInOrder_nil ⟨σ,H,I,h⟩
theorem zEG{e:Expr}{es:List Expr}{t:TG}{u:TGs}(h1:PG X e t)(h2:PGs X es u)
  (hs:(assignEach (e::es) X.env).map (·.2)=assign e X.env::(assignEach es X.env).map (·.2):=by rfl):PGs X (e::es) (zIN t u):=by
 intro pins s σ H vs us Q I r h
 obtain⟨v,vr,e1,h⟩:=h
 subst e1
 cases r with
 |cons r rr=>
  rw[hs]
  refine assignInOrder_cons (thn (h1 pins s σ H _ _ _ I r h) λ_ s1 ⟨σ1,H1,I1,q1⟩=>?_)
  exact h2 pins s1 σ1 H1 _ _ Q I1 rr q1
def zJE(K:W.Frag)(n:Nat)(t:TGs):TG:=λv σ H Q=>∃a xs,v=.ref a/\SqT K H a xs/\xs.length=n/\t xs σ H Q
theorem zG5{es:List Expr}{k:Nat}{t:TGs}{n:Nat}(hc:X.calm=true)(h:PGs X es t)
  (hn:(assignEach es X.env).length=n:=by rfl) (hst:(assignEach es X.env).findIdx? (·.1)=none:=by rfl):PG X (.Tuple es k pos) (zJE X.K n t):=by
 intro pins s σ H v u Q I r hw
 obtain⟨a,xs,e1,hq,hl,hw⟩:=hw
 subst e1
 cases r
 obtain⟨its,rv,ht,hz⟩:=I.tuple hq
 refine assign_Tuple_tuple (I.ok.hd hc) ht (by simp[hn,<-hl,rv.length]) hst λh' hx=>?_
 have I1:Inv X pins σ H {s with heap:=h'}:=I.kept (t':=s.toks) λb o e=>hx b o (Nat.ne_of_lt (Heap.lt_size e)) e
 exact h pins _ σ H xs _ Q I1 (by simpa using rv) hw
def zJF(to ti:TE)(t:wZ):TG:=λv σ H Q=>to σ H λo H1=>ti σ H1 λi H2=>t o i v H2 λH3=>Q σ H3
theorem zG6{o i:Expr}{to ti:TE}{t:wZ}(ho:PE X o to)(hi:PE X i ti)(hs:zCp X t)
  (ha:∀v,assign (.Subscript o i pos) X.env v=(do
   let ov <- holding [v] (eval o X.env)
   let iv <- holding [v,ov] (eval i X.env)
   standAt pos
   holding [v,ov,iv] (setItem ov iv v)
   release [v,ov,iv] []):=by intro _;rfl):PG X (.Subscript o i pos) (zJF to ti t):=by
 intro pins s σ H v u Q I r h
 rw[ha]
 refine wpAny_bind (wpAny_holding (thn (ho pins s σ H _ I h) λov s1 ⟨x,H1,I1,r1,q1⟩=>?_))
 refine wpAny_bind (wpAny_holding (thn (hi pins s1 σ H1 _ I1 q1) λiv s2 ⟨y,H2,I2,r2,q2⟩=>?_))
 refine wpAny_bind (wpAny_standAt (wpAny_bind (wpAny_holding (thn (hs pins s2 σ H2 x y v ov iv u _ I2 r1 r2 r q2) λ_ s3 ⟨H3,I3,q3⟩=>?_))))
 exact wpAny_release ⟨σ,H3,I3,q3⟩
def qW(te:TE)(g:TG):TS:=λD σ H=>te σ H λx H1=>g x σ H1 D.nx
theorem zBm{tg e:Expr}{te:TE}{g:TG}(he:PE X e te)(hg:PG X tg g)(hs:swapsWithSole [tg] e pos.line X.env=pure false:=by rfl)(hw:swappedStores [tg] e X.env=pure none:=by rfl)
  (h1:(assignEach [tg] X.env).map (·.2)=[assign tg X.env]:=by rfl):PS X (.Assign [tg] e pos) (qW te g):=by
 intro pins s σ H D I h
 refine wpAny_Assign_stores (thn (he pins s σ H _ I h) λv s1 ⟨x,H1,I1,r1,q1⟩=>?_) hs hw
 rw[h1]
 exact thn (hg pins s1 σ H1 x v _ I1 r1 q1) λ_ s2 q=>q
theorem jR{i:Nat}{x:Str}{e:Expr}{te:TE}{pos':Pos}(hN:X.N.Nodup)(hi:X.N[i]?=some x)(hx:Loc X.env.scope x)(he:PE X e te)(hs:swapsWith e (some (.Name x pos')) pos.line X.env=pure false:=by rfl)(hf:X.fn x=true\/X.env.scope.names.lookup x=some .local:=by first|exact .inl rfl|exact .inr rfl|assumption):
  PS X (.Assign [.Name x pos'] e pos) (qW te (qQ i)):=by
 intro pins s σ H D I h
 refine wpAny_Assign_Name (thn (he pins s σ H _ I h) λv s1 ⟨y,H1,I1,r1,q1⟩=>?_) hs
 exact zU I1 hN hi hx r1 (λs2 I2=>⟨_,H1,I2,q1⟩) hf
end
section
variable{X:Cx}{pos:Pos}
def zGB(c:TT)(tb:TS):TS:=λD σ H=>∃W:Nat->St->Hp->Prop,(∃m,W m σ H)/\∀m σ H,W m σ H ->
 c σ H λb H1=>if b=true then ∃N:St->Hp->Prop,(∀σ' H',N σ' H'->∃m',m'<m/\W m' σ' H')/\tb {D with nx:=N,ct:=N,bk:=D.nx} σ H1 else D.nx σ H1
theorem zEB{c:Expr}{body:List Stmt}{tc:TT}{tb:TS}(hp:PassesOwn (model X.prog X.w) X.A X.env X.xe)(hc:PT X c tc)(hb:PSs X body tb):PS X (.While c body [] pos) (zGB tc tb):=by
 intro pins s σ H D I h
 obtain⟨W,⟨m0,w0⟩,turn⟩:=h
 refine wpAny_While (codeAny_whileLoop (λn s'=>∃σ' H',Inv X pins σ' H' s'/\W n σ' H') ?_ m0 ⟨σ,H,I,w0⟩)
 rintro n s1 ⟨σ1,H1,I1,w1⟩
 refine wpAny_passesOwn hp (thn (hc pins s1 σ1 H1 _ I1 (turn n σ1 H1 w1)) λb s2 ⟨H2,I2,q2⟩=>?_)
 cases b with
 |true=>
  obtain⟨N,hN,q2⟩:=q2
  rw[if_pos rfl]
  refine wpAny_passesOwn hp (thn (hb pins s2 σ1 H2 _ I2 q2) λf s3 q3=>?_)
  cases f with
  |next=>
   obtain⟨σ3,H3,I3,n3⟩:=q3
   obtain⟨m',hm,w3⟩:=hN σ3 H3 n3
   exact⟨m',hm,σ3,H3,I3,w3⟩
  |cont=>
   obtain⟨σ3,H3,I3,n3⟩:=q3
   obtain⟨m',hm,w3⟩:=hN σ3 H3 n3
   exact⟨m',hm,σ3,H3,I3,w3⟩
  |brk=>exact q3
  |ret v=>exact q3
 |false=>
  rw[if_neg Bool.false_ne_true]
  exact wpAny_execs_nil ⟨σ1,H2,I2,q2⟩
end
structure It where
 go:Nat->Hp->Prop
 yld:Nat->Hp->V->Hp->Prop
 stop:Nat->Hp->Prop
def dD(X:Cx)(pins:List (Addr×Obj))(H:Hp)(b:Addr):Prop:=
 H b=none/\b≠X.env.locals/\b∉X.fs/\(b∈X.ex\/X.s₀.heap.objs.size<=b)/\(∀x c,X.env.cells.lookup x=some c->c≠b)/\∀p∈X.pn++pins,p.1≠b
theorem Inv.fpOk{X:Cx}{pins:List (Addr×Obj)}{σ:St}{H H':Hp}{s:Shared}{b:Addr}(I:Inv X pins σ H s)(hb:s.heap.objs.size<=b)(hn:H' b=none):dD X pins H' b:=by
 refine⟨hn,Nat.ne_of_gt (Nat.lt_of_lt_of_le I.lt hb),I.nofs hb,.inr (Nat.le_trans I.sz hb),λx c e z=>?_,λp hp z=>?_⟩
 ·obtain⟨v,q⟩:=I.cell x c e
  exact absurd (Nat.lt_of_lt_of_le q.lt (by rw[z];exact hb)) (Nat.lt_irrefl _)
 ·exact absurd (Nat.lt_of_lt_of_le (Heap.lt_size (I.pin p hp).1) (by rw[z];exact hb)) (Nat.lt_irrefl _)
structure fW (P:Program) (w:World) (K:W.Frag) (tg:Expr) (J:It) (fp:List Addr) (it:Addr) (tn:Nat->Heap->Prop):Prop where
 mem:it∈fp
 obj:∀i h,tn i h->∀b∈fp,∃o,h.get? b=some o/\∀v,o.data≠.cell v
 keep:∀i h h',tn i h->(∀b∈fp,∀o,h.get? b=some o->h'.get? b=some o)->tn i h'
 item:∀(X:Cx),X.prog=P->X.w=w->X.K=K->X.calm=true->∀(i:Nat) (pins:List (Addr×Obj)) (s:Shared) (σ:St) (H:Hp) (E:Value->Shared->Prop),Inv X pins σ H s->(∀b∈fp,dD X pins H b)->tn i s.heap->J.go i H ->
  wpAny (model P w) X.A (pyNext (.ref it)) (λr s1=>∃u,r=some u /\
   wpAny (model P w) X.A (letOwnedTupleGo tg (.ref it) u) (λ_ s2=>∃x H',Inv X pins σ H' s2/\RelV x u/\J.yld i H x H'/\tn (i+1) s2.heap/\∀b∈fp,H' b=none) E s1) E s
 done:∀(X:Cx),X.prog=P->X.w=w->X.K=K->X.calm=true->∀(i:Nat) (pins:List (Addr×Obj)) (s:Shared) (σ:St) (H:Hp) (E:Value->Shared->Prop),Inv X pins σ H s->(∀b∈fp,dD X pins H b)->tn i s.heap->J.stop i H ->
  wpAny (model P w) X.A (pyNext (.ref it)) (λr s1=>r=none/\Inv X pins σ H s1) E s
 self:∀(A:Around) (i:Nat) (s:Shared) (Q:Value->Shared->Prop) (E:Value->Shared->Prop),tn i s.heap->Q (.ref it) s->wpAny (model P w) A (pyIter (.ref it)) Q E s
abbrev TI:=St->Hp->(It->Hp->Prop)->Prop
def PIE(X:Cx)(pins:List (Addr×Obj))(σ:St)(tg:Expr)(R:It->Hp->Prop)(itv:Value)(s2:Shared):Prop:=
 ∃(it:Addr) (fp:List Addr) (tn:Nat->Heap->Prop) (J:It) (H':Hp),itv=.ref it/\Inv X pins σ H' s2/\fW X.prog X.w X.K tg J fp it tn/\tn 0 s2.heap/\(∀b∈fp,dD X pins H' b)/\R J H'
def PI(X:Cx)(tg iter:Expr)(wi:TI):Prop:=
 ∀(pins:List (Addr×Obj)) (s:Shared) (σ:St) (H:Hp) (R:It->Hp->Prop),Inv X pins σ H s->wi σ H R ->
  wpAny (model X.prog X.w) X.A (eval iter X.env) (λv s1=>wpAny (model X.prog X.w) X.A (pyIter v) (PIE X pins σ tg R) X.xe s1) X.xe s
theorem mB{M:Model}{A:Around}{E:Value->Shared->Prop}{s:Shared}{tg:Expr}{it:Addr}{u:Value}{o:Obj}{n:String}{vs:Array Value}{Q:Unit->Shared->Prop}(ho:s.heap.get? it=some o)(hc:o.cls=.type n)(hd:o.data=.fields vs)
    (hn:["enumerate","zip","dict_itemiterator","dict_reverseitemiterator","odict_iterator","itertools.zip_longest","itertools.pairwise"].contains n=false) (hQ:Q () s):wpAny M A (letOwnedTupleGo tg (.ref it) u) Q E s:=by
  unfold letOwnedTupleGo
  cases tg<;>first
    |exact wpAny_pure hQ
    |(cases u<;>first
        |exact wpAny_pure hQ
        | (refine wpAny_bind (wpAny_load ho ?_)
           rw[hc,hd]
           show wpAny M A (if (["enumerate","zip","dict_itemiterator","dict_reverseitemiterator","odict_iterator","itertools.zip_longest","itertools.pairwise"].contains n&&vs[0]? == some (rawInt _))=true then _ else _) Q E s
           rw[if_neg (by intro h;rw[hn,Bool.false_and]at h;cases h)]
           exact wpAny_pure hQ))
def Itl(K:W.Frag)(a:Addr):It:=
 ⟨λi H=>∃xs x,SqL K H a xs/\xs[i]?=some x,λi H x H'=>H'=H/\∀xs,SqL K H a xs->xs[i]?=some x,λi H=>∃xs,SqL K H a xs/\xs.length<=i⟩
def Itt(K:W.Frag)(a:Addr):It:=
 ⟨λi H=>∃xs x,SqT K H a xs/\xs[i]?=some x,λi H x H'=>H'=H/\∀xs,SqT K H a xs->xs[i]?=some x,λi H=>∃xs,SqT K H a xs/\xs.length<=i⟩
def Itr(lo:Int)(n:Nat):It:=⟨λi _=>i<n,λi H x H'=>H'=H/\x=.int (lo+i),λi _=>n<=i⟩
theorem zDt{P:Program}{w:World}{K:W.Frag}{tg:Expr}(a it:Addr):fW P w K tg (Itl K a) [it] it (λi h=>h.IsListIter it a i) where
 mem:=by simp
 obj:=λi h st b hb=>by
  have e:b=it:=by simpa using hb
  subst e
  obtain⟨o,e,c,d⟩:=st
  exact⟨o,e,λv z=>by rw[d]at z;cases z⟩
 keep:=λi h h' st k=>st.at λo e=>k it (by simp) o e
 item:=by
  intro X hP hw hK hc i pins s σ H E I hf st hg
  subst hP hw hK
  obtain⟨xs,x,hq,hx⟩:=hg
  obtain⟨its,rv,p,hz⟩:=I.list hq
  obtain⟨u,hu,ru⟩:=rv.get hx
  obtain⟨f0,f1,f2,f3,f4,f5⟩:=hf it (by simp)
  refine wpAny_pyNext_list_item st p.isList (x:=u) (by simpa using hu) λh' st' sb=>?_
  have I1:Inv X pins σ H {s with heap:=h'}:=I.turned (t':=s.toks) (λb o hb e=>(sb.2 b hb).trans e) f0 f1 f3 f4 f5
  obtain⟨o,e,c,d⟩:=id st'
  exact⟨u,rfl,mB (s:={s with heap:=h'}) e c d (by decide) ⟨x,H,I1,ru,⟨rfl,λys hy=>by rw[I.list_inj hy hq];exact hx⟩,st',λb hb=>(hf b hb).1⟩⟩
 done:=by
  intro X hP hw hK hc i pins s σ H E I hf st hg
  subst hP hw hK
  obtain⟨xs,hq,hx⟩:=hg
  obtain⟨its,rv,p,hz⟩:=I.list hq
  obtain⟨f0,f1,f2,f3,f4,f5⟩:=hf it (by simp)
  have hl:=rv.length
  exact wpAny_pyNext_list_end (I.ok.hd hc) st p.isList (by simp;omega) λh' eb=>⟨rfl,I.turned (t':=s.toks) (λb o hb e=>eb b o hb e) f0 f1 f3 f4 f5⟩
 self:=λ_ _ _ _ _ st h=>wpAny_pyIter_listiter st h
theorem zC4{P:Program}{w:World}{K:W.Frag}{tg:Expr}(a it:Addr):fW P w K tg (Itt K a) [it] it (λi h=>h.IsTupleIter it a i) where
 mem:=by simp
 obj:=λi h st b hb=>by
  have e:b=it:=by simpa using hb
  subst e
  obtain⟨o,e,c,d⟩:=st
  exact⟨o,e,λv z=>by rw[d]at z;cases z⟩
 keep:=λi h h' st k=>st.at λo e=>k it (by simp) o e
 item:=by
  intro X hP hw hK hc i pins s σ H E I hf st hg
  subst hP hw hK
  obtain⟨xs,x,hq,hx⟩:=hg
  obtain⟨its,rv,p,hz⟩:=I.tuple hq
  obtain⟨u,hu,ru⟩:=rv.get hx
  obtain⟨f0,f1,f2,f3,f4,f5⟩:=hf it (by simp)
  refine wpAny_pyNext_tuple_item st (show s.heap.IsTuple a its.toArray from p) (x:=u) (by simpa using hu) λh' st' sb=>?_
  have I1:Inv X pins σ H {s with heap:=h'}:=I.turned (t':=s.toks) (λb o hb e=>(sb.2 b hb).trans e) f0 f1 f3 f4 f5
  obtain⟨o,e,c,d⟩:=id st'
  exact⟨u,rfl,mB (s:={s with heap:=h'}) e c d (by decide) ⟨x,H,I1,ru,⟨rfl,λys hy=>by rw[I.tuple_inj hy hq];exact hx⟩,st',λb hb=>(hf b hb).1⟩⟩
 done:=by
  intro X hP hw hK hc i pins s σ H E I hf st hg
  subst hP hw hK
  obtain⟨xs,hq,hx⟩:=hg
  obtain⟨its,rv,p,hz⟩:=I.tuple hq
  obtain⟨f0,f1,f2,f3,f4,f5⟩:=hf it (by simp)
  have hl:=rv.length
  exact wpAny_pyNext_tuple_end (I.ok.hd hc) st (show s.heap.IsTuple a its.toArray from p) (by simp;omega) λh' eb=>⟨rfl,I.turned (t':=s.toks) (λb o hb e=>eb b o hb e) f0 f1 f3 f4 f5⟩
 self:=λ_ _ _ _ _ st h=>wpAny_pyIter_tupleiter st h
theorem zC5{P:Program}{w:World}{K:W.Frag}{tg:Expr}(it:Addr)(lo:Int)(n:Nat):fW P w K tg (Itr lo n) [it] it (λi h=>IsRangeIter h it (lo+(i:Nat)*1) ((n:Int)-(i:Nat)) 1) where
 mem:=by simp
 obj:=λi h st b hb=>by
  have e:b=it:=by simpa using hb
  subst e
  exact⟨_,st,λv z=>by
   have z':Data.fields _=Data.cell v:=z
   cases z'⟩
 keep:=λi h h' st k=>k it (by simp) _ st
 item:=by
  intro X hP hw hK hc i pins s σ H E I hf st hg
  subst hP hw hK
  obtain⟨f0,f1,f2,f3,f4,f5⟩:=hf it (by simp)
  have W:=Walks.range (prog:=X.prog) (w:=X.w) (I.ok.hd hc) it lo 1 n
  refine W.item i s _ _ hg st λv h' tk hv st' kk=>?_
  obtain⟨t,rfl⟩:=hv
  have I1:Inv X pins σ H {s with heap:=h',toks:=tk}:=I.turned (λb o hb e=>kk b o (by simpa using hb) e) f0 f1 f3 f4 f5
  refine⟨_,rfl,mB (s:={s with heap:=h',toks:=tk}) (n:="range_iterator") st' rfl rfl (by decide) ⟨.int (lo+i),H,I1,⟨t,?_⟩,⟨rfl,rfl⟩,st',λb hb=>(hf b hb).1⟩⟩
  rw[Int.mul_one]
 done:=by
  intro X hP hw hK hc i pins s σ H E I hf st hg
  subst hP hw hK
  obtain⟨f0,f1,f2,f3,f4,f5⟩:=hf it (by simp)
  exact wpAny_pyNext_range_end (I.ok.hd hc) st (by have:n<=i:=hg;omega) λh' eb=>⟨rfl,I.turned (t':=s.toks) (λb o hb e=>eb b o hb e) f0 f1 f3 f4 f5⟩
 self:=λ_ _ _ _ _ st h=>wpAny_pyIter_rangeiter st h
end L2
namespace L2
open PySem PySem.Spec PyProof.Rows
section
variable{X:Cx}{tg:Expr}
theorem zEy{pins:List (Addr×Obj)}{σ:St}{H:Hp}{s:Shared}{R:It->Hp->Prop}{E:Value->Shared->Prop}{lo hi:Int}{t u v:Tok}{tk:Nat}(I:Inv X pins σ H s)(h1:-(2 ^ 62)<=lo)(h2:lo<2 ^ 62)(h3:-(2 ^ 62)<=hi)(h4:hi<2 ^ 62)
  (q:R (Itr lo (hi-lo).toNat) H):wpAny (model X.prog X.w) X.A (pyIter (.ref s.heap.objs.size)) (PIE X pins σ tg R) E {s with heap:=s.heap.push {cls:=.type "range",data:=.fields #[.int lo t,.int hi u,.int 1 v]},toks:=tk}:=by
 refine wpAny_pyIter_range (IsRange.new ..) (small_one h1 h2 h3 h4) ?_
 have I1:Inv X pins σ H {s with heap:=s.heap.push {cls:=.type "range",data:=.fields #[.int lo t,.int hi u,.int 1 v]},toks:=tk}:=I.kept λb o e=>Heap.get?_push_of_some _ e
 refine⟨(s.heap.push {cls:=.type "range",data:=.fields #[.int lo t,.int hi u,.int 1 v]}).objs.size,[(s.heap.push {cls:=.type "range",data:=.fields #[.int lo t,.int hi u,.int 1 v]}).objs.size],_,_,H,rfl,
  I1.kept (t':=tk) λb o e=>Heap.get?_push_of_some _ e,zC5 _ lo (hi-lo).toNat,?_,λb hb=>?_,q⟩
 ·have e1:lo+((0:Nat):Int)*1=lo:=by simp
  have e2:(((hi-lo).toNat:Nat):Int)-((0:Nat):Int)=Builtin.Range.rangeSize lo hi 1:=by rw[rangeSize_one];split<;>omega
  show IsRangeIter _ _ (lo+((0:Nat):Int)*1) ((((hi-lo).toNat:Nat):Int)-((0:Nat):Int)) 1
  rw[e1,e2]
  exact Heap.get?_push_size _ rfl
 ·have e:b=(s.heap.push {cls:=.type "range",data:=.fields #[.int lo t,.int hi u,.int 1 v]}).objs.size:=by simpa using hb
  subst e
  exact I1.fpOk (Nat.le_refl _) (I1.hok.fresh (Nat.le_refl _))
def zIK(ta:TA):TI:=λσ H R=>ta σ H λvs H1=>∃j:Int,vs=[.int j] /\ -(2 ^ 62)<=j/\j<2 ^ 62/\R (Itr 0 j.toNat) H1
theorem zDK{a:Expr}{ta:TA}{p pos:Pos}(hg:Gl X "range")(hm:X.mg "range"=none)(ha:PA X [a] ta)(hs:starEach [a] X.env=[(false,eval a X.env)]:=by rfl):PI X tg (.Call (.Name "range" p) [a] [] pos) (zIK ta):=by
 intro pins s σ H R I h
 refine Call_ (lW I hg hm boot_range (PyProof.Rows.callWith_type1 (thn (ha pos pins s σ H _ I h) λus s1 ⟨vs,H1,I1,r1,q1⟩=>?_) hs rfl))
 obtain⟨j,e,q1,q2,q⟩:=q1
 subst e
 cases r1 with
 |cons r rr=>
  cases rr
  obtain⟨t,rfl⟩:=r
  exact call_range_1 (zEy I1 (by omega) (by omega) q1 q2 (by simpa using q))
def zJd(wi:TI)(g:TG)(tb:TS):TS:=λD σ H=>wi σ H λJ H1=>∃W:Nat->Nat->St->Hp->Prop,(∃m,W 0 m σ H1)/\∀i m σ H,W i m σ H ->
 (J.stop i H/\D.nx σ H)\/(J.go i H/\∃N:St->Hp->Prop,(∀σ' H',N σ' H'->∃m',m'<m/\W (i+1) m' σ' H')/\∀x H',J.yld i H x H'->g x σ H' λσ2 H2=>tb {D with nx:=N,ct:=N,bk:=D.nx} σ2 H2)
def lT(fp:List Addr)(h:Heap):List (Addr×Obj):=fp.filterMap λb=>(h.get? b).map λo=>(b,o)
theorem kG{fp:List Addr}{h:Heap}{b:Addr}{o:Obj}(hb:b∈fp)(e:h.get? b=some o):(b,o)∈lT fp h:=List.mem_filterMap.mpr ⟨b,hb,by rw[e];rfl⟩
theorem zDO{fp:List Addr}{h:Heap}{p:Addr×Obj}(hp:p∈lT fp h):p.1∈fp/\h.get? p.1=some p.2:=by
 obtain⟨b,hb,e⟩:=List.mem_filterMap.mp hp
 cases q:h.get? b with
 |none=>rw[q]at e;cases e
 |some o=>
  rw[q]at e
  have e':(b,o)=p:=Option.some.inj e
  subst e'
  exact⟨hb,q⟩
theorem Inv.pinned{pins:List (Addr×Obj)}{σ:St}{H:Hp}{s:Shared}{fp:List Addr}(I:Inv X pins σ H s)(hf:∀b∈fp,dD X pins H b)(ho:∀b∈fp,∃o,s.heap.get? b=some o/\∀v,o.data≠.cell v):Inv X (pins++lT fp s.heap) σ H s:=
 I.pins_of λp hp=>(List.mem_append.mp hp).elim (λz=>I.pin p (List.mem_append_right _ z)) λz=>by
  obtain⟨hb,e⟩:=zDO z
  obtain⟨f0,f1,f2,_⟩:=hf p.1 hb
  obtain⟨o,e',d⟩:=ho p.1 hb
  rw[e]at e';cases e'
  exact⟨e,f0,f1,f2,d⟩
theorem Inv.unpinned{pins pl:List (Addr×Obj)}{σ:St}{H:Hp}{s:Shared}(I:Inv X (pins++pl) σ H s):Inv X pins σ H s:=I.pins_of λp hp=>I.pin p (List.mem_append_right _ (List.mem_append_left _ hp))
theorem zG3{iter:Expr}{body:List Stmt}{wi:TI}{g:TG}{tb:TS}{pos:Pos}(hp:PassesOwn (model X.prog X.w) X.A X.env X.xe)(hc:X.calm=true)(hi:PI X tg iter wi)(hg:PG X tg g)(hb:PSs X body tb)
  (hs:∀x,foldedSetIterable iter X.env x=pure x:=by intro _;rfl):PS X (.For tg iter body [] pos) (zJd wi g tb):=by
 intro pins s σ H D I h
 refine wpAny_For (thn (hi pins s σ H _ I h) λv s1 h1=>thn h1 λitv s2 h2=>?_) hs
 obtain⟨it,fp,tn,J,H2,e,I2,T,st2,f2,W,⟨m0,w0⟩,turn⟩:=h2
 subst e
 -- what stays true of the iterator's objects through the loop
 have stat:∀{H':Hp},(∀b∈fp,H' b=none)->∀b∈fp,dD X pins H' b:=λhn b hb=>⟨hn b hb,(f2 b hb).2⟩
 refine codeAny_forLoop_any (λn s'=>∃i σ' H',Inv X pins σ' H' s'/\tn i s'.heap/\(∀b∈fp,H' b=none)/\W i n σ' H') ?_ m0 ⟨0,σ,H2,I2,st2,λb hb=>(f2 b hb).1,w0⟩
 rintro n s3 ⟨i,σ3,H3,I3,st3,fr3,w3⟩
 rcases turn i n σ3 H3 w3 with⟨stop,qn⟩|⟨go,N,hN,step⟩
 ·refine wpAny_passesOwn hp (thn (T.done X rfl rfl rfl hc i pins s3 σ3 H3 X.xe I3 (stat fr3) st3 stop) λr s4 ⟨hr,I4⟩=>?_)
  subst hr
  exact wpAny_execs_nil ⟨σ3,H3,I4,qn⟩
 ·refine wpAny_passesOwn hp (thn (T.item X rfl rfl rfl hc i pins s3 σ3 H3 X.xe I3 (stat fr3) st3 go) λr s4 ⟨u,hr,h4⟩=>?_)
  subst hr
  refine wpAny_passesOwn hp (thn h4 λ_ s5 ⟨x,H5,I5,r5,y5,st5,fr5⟩=>?_)
  have I5':=I5.pinned (stat fr5) (T.obj _ _ st5)
  refine wpAny_passesOwn hp (thn (hg _ s5 σ3 H5 x u _ I5' r5 (step x H5 y5)) λ_ s6 ⟨σ6,H6,I6,q6⟩=>?_)
  refine wpAny_passesOwn hp (thn (hb _ s6 σ6 H6 _ I6 q6) λf s7 q7=>?_)
  have again:∀{σ7:St} {H7:Hp},Inv X (pins++lT fp s5.heap) σ7 H7 s7->N σ7 H7->∃m,m<n/\∃i σ' H',Inv X pins σ' H' s7/\tn i s7.heap/\(∀b∈fp,H' b=none)/\W i m σ' H':=λ{σ7 H7} I7 n7=>by
   obtain⟨m',hm,w7⟩:=hN σ7 H7 n7
   refine⟨m',hm,i+1,σ7,H7,I7.unpinned,T.keep _ _ _ st5 λb hb o e=>(I7.pin (b,o) (List.mem_append_right _ (List.mem_append_right _ (kG hb e)))).1,λb hb=>?_,w7⟩
   obtain⟨o,e,d⟩:=T.obj _ _ st5 b hb
   exact(I7.pin (b,o) (List.mem_append_right _ (List.mem_append_right _ (kG hb e)))).2.1
  cases f with
  |next=>obtain⟨σ7,H7,I7,n7⟩:=q7;exact again I7 n7
  |cont=>obtain⟨σ7,H7,I7,n7⟩:=q7;exact again I7 n7
  |brk=>obtain⟨σ7,H7,I7,q7⟩:=q7;exact⟨σ7,H7,I7.unpinned,q7⟩
  |ret v=>obtain⟨x7,σ7,H7,I7,r7,q7⟩:=q7;exact⟨x7,σ7,H7,I7.unpinned,r7,q7⟩
end
end L2
namespace L2
open PySem PySem.Spec PyProof.Rows
abbrev R2:=V->V->Hp->VK->Prop
def OpR(X:Cx)(f:Value->Value->Sem Value)(r:R2):Prop:=
 ∀(pins:List (Addr×Obj)) (s:Shared) (σ:St) (H:Hp) (x y:V) (v u:Value) (Q:VK),Inv X pins σ H s->RelV x v->RelV y u->r x y H Q ->
  wpAny (model X.prog X.w) X.A (f v u) (EP X pins σ Q) X.xe s
def UnR(X:Cx)(f:Value->Sem Value)(r:V->Hp->VK->Prop):Prop:=
 ∀(pins:List (Addr×Obj)) (s:Shared) (σ:St) (H:Hp) (x:V) (v:Value) (Q:VK),Inv X pins σ H s->RelV x v->r x H Q ->
  wpAny (model X.prog X.w) X.A (f v) (EP X pins σ Q) X.xe s
def CallR(X:Cx)(f:Value)(r:List V->Hp->VK->Prop):Prop:=
 ∀(pins:List (Addr×Obj)) (s:Shared) (σ:St) (H:Hp) (xs:List V) (us:List Value) (Q:VK),Inv X pins σ H s->Vals xs us->r xs H Q ->
  wpAny (model X.prog X.w) X.A (call f us) (EP X pins σ Q) X.xe s
def tOp(r:R2)(ta tb:TE):TE:=λσ H Q=>ta σ H λx H1=>tb σ H1 λy H2=>r x y H2 Q
def tUn(r:V->Hp->VK->Prop)(ta:TE):TE:=λσ H Q=>ta σ H λx H1=>r x H1 Q
def rI(C:Int->Int->Prop)(g:Int->Int->V):R2:=λx y H Q=>∃i j,x=.int i/\y=.int j/\C i j/\Q (g i j) H
def rI0(g:Int->Int->V):R2:=λx y H Q=>∃i j,x=.int i/\y=.int j/\Q (g i j) H
def rU(g:Int->V):V->Hp->VK->Prop:=λx H Q=>∃i,x=.int i/\Q (g i) H
section
variable{X:Cx}{a b c:Expr}{ta tb tc:TE}{pos:Pos}
theorem wX(ha:PE X a ta)(hb:PE X b tb){pins:List (Addr×Obj)}{s:Shared}{σ:St}{H:Hp}{R:V->V->Hp->Prop}(I:Inv X pins σ H s)
  (h:ta σ H λx H1=>tb σ H1 λy H2=>R x y H2) {Q:Value->Shared->Prop} {f:Value->Value->Sem Value}
  (hf:∀v u s2 x y H2,Inv X pins σ H2 s2->RelV x v->RelV y u->R x y H2->wpAny (model X.prog X.w) X.A (f v u) Q X.xe s2):
  wpAny (model X.prog X.w) X.A (eval a X.env) (λv s₁=>wpAny (model X.prog X.w) X.A (eval b X.env) (λu s₂=>wpAny (model X.prog X.w) X.A (f v u) Q X.xe s₂) X.xe s₁) X.xe s:=by
 refine thn (ha pins s σ H _ I h) λv s1 ⟨x,H1,I1,r1,q1⟩=>?_
 refine thn (hb pins s1 σ H1 _ I1 q1) λu s2 ⟨y,H2,I2,r2,q2⟩=>?_
 exact hf v u s2 x y H2 I2 r1 r2 q2
theorem cH{op:Operator}{r:R2}(ho:OpR X (binaryOp op) r)(ha:PE X a ta)(hb:PE X b tb):PE X (.BinOp a op b pos) (tOp r ta tb):=by
 intro pins s σ H Q I h
 exact wpAny_BinOp (wX ha hb I h λv u s2 x y H2 I2 rx ry q=>ho pins s2 σ H2 x y v u Q I2 rx ry q)
theorem zBM{op:UnaryOp}{r:V->Hp->VK->Prop}(ho:UnR X (unaryOp op) r)(ha:PE X a ta):PE X (.UnaryOp op a pos) (tUn r ta):=by
 intro pins s σ H Q I h
 exact UnaryOp_ (thn (ha pins s σ H _ I h) λv s1 ⟨x,H1,I1,r1,q1⟩=>ho pins s1 σ H1 x v Q I1 r1 q1)
theorem opI{f:Value->Value->Sem Value}{C:Int->Int->Prop}{g:Int->Int->Int}
  (rule:∀(i j:Int) (t u:Tok) (s:Shared) (Q:Value->Shared->Prop) (E:Value->Shared->Prop),C i j->Q (.int (g i j) s.toks) {s with toks:=s.toks+1}->wpAny (model X.prog X.w) X.A (f (.int i t) (.int j u)) Q E s):
  OpR X f (rI C λi j=>.int (g i j)):=by
 intro pins s σ H x y v u Q I rx ry h
 obtain⟨i,j,rfl,rfl,hc,q⟩:=h
 obtain⟨t,rfl⟩:=rx
 obtain⟨t',rfl⟩:=ry
 exact rule i j t t' s _ _ hc ⟨.int (g i j),H,I.tok _,⟨_,rfl⟩,q⟩
theorem wV{f:Value->Value->Sem Value}{g:Int->Int->Int}
  (rule:∀(i j:Int) (t u:Tok) (s:Shared) (Q:Value->Shared->Prop) (E:Value->Shared->Prop),Q (.int (g i j) s.toks) {s with toks:=s.toks+1}->wpAny (model X.prog X.w) X.A (f (.int i t) (.int j u)) Q E s):
  OpR X f (rI0 λi j=>.int (g i j)):=by
 intro pins s σ H x y v u Q I rx ry h
 obtain⟨i,j,rfl,rfl,q⟩:=h
 obtain⟨t,rfl⟩:=rx
 obtain⟨t',rfl⟩:=ry
 exact rule i j t t' s _ _ ⟨.int (g i j),H,I.tok _,⟨_,rfl⟩,q⟩
theorem rQ{f:Value->Value->Sem Value}{g:Int->Int->Bool}
  (rule:∀(i j:Int) (t u:Tok) (s:Shared) (Q:Value->Shared->Prop) (E:Value->Shared->Prop),Q (.bool (g i j)) s->wpAny (model X.prog X.w) X.A (f (.int i t) (.int j u)) Q E s):
  OpR X f (rI0 λi j=>.bl (g i j)):=by
 intro pins s σ H x y v u Q I rx ry h
 obtain⟨i,j,rfl,rfl,q⟩:=h
 obtain⟨t,rfl⟩:=rx
 obtain⟨t',rfl⟩:=ry
 exact rule i j t t' s _ _ ⟨.bl (g i j),H,I,rfl,q⟩
def zKq(i j:Int):Prop:=0<j/\j<1073741824
def rZ(i j:Int):Prop:=0<=j/\j<=1000000/\i.natAbs<2 ^ 64
def CMul(i j:Int):Prop:=(-(2 ^ 64)<i/\i<2 ^ 64)\/(-(2 ^ 64)<j/\j<2 ^ 64)
theorem CMul.ok{i j:Int}(h:CMul i j):IntMulOk i j:=by
 rcases h with⟨h1,h2⟩|⟨h1,h2⟩
 ·exact .of_left (intBits_le_64 h1 h2)
 ·exact .of_right (intBits_le_64 h1 h2)
theorem zC3(k:Nat):(0:Int)<=2 ^ k:=by
 rw[two_pow_cast]
 exact Int.natCast_nonneg _
theorem op_add:OpR X (binaryOp .Add) (rI0 λi j=>.int (i+j)):=wV λ_ _ _ _ _ _ _ q=>add_int q
theorem zHh:OpR X (binaryOp .Sub) (rI0 λi j=>.int (i-j)):=wV λ_ _ _ _ _ _ _ q=>sub_int q
theorem op_mul:OpR X (binaryOp .Mult) (rI CMul λi j=>.int (i*j)):=opI λ_ _ _ _ _ _ _ hc q=>mul_int q hc.ok
theorem zAL:OpR X (binaryOp .FloorDiv) (rI zKq λi j=>.int (i / j)):=opI λi j _ _ _ _ _ hc q=>by
 have h1:(0:Int)<j:=hc.1
 have h2:j<1073741824:=hc.2
 exact floordiv_int (by omega) (by rw[Int.fdiv_eq_ediv_of_nonneg i (by omega)];exact q) (.inl (PyProof.noPylong_small (by omega)))
theorem iH:OpR X (binaryOp .Mod) (rI (λ_ j=>0<j) λi j=>.int (i % j)):=opI λi j _ _ _ _ _ hc q=>by
 have h1:(0:Int)<j:=hc
 exact mod_int' (by omega) (by rw[Int.fmod_eq_emod_of_nonneg i (by omega)];exact q)
theorem zBr:OpR X (binaryOp .Pow) (rI rZ λi j=>.int (i ^ j.toNat)):=opI λ_ _ _ _ _ _ _ hc q=>pow_int_small hc.1 hc.2.1 hc.2.2 q
theorem zHj:OpR X (binaryOp .LShift) (rI rZ λi j=>.int (i*2 ^ j.toNat)):=opI λ_ _ _ _ _ _ _ hc q=>lshift_int_small hc.1 hc.2.1 hc.2.2 q
theorem zHi:OpR X (binaryOp .RShift) (rI (λ_ j=>0<=j) λi j=>.int (i / 2 ^ j.toNat)):=opI λi j _ _ _ _ _ hc q=>
 rshift_int hc (by rw[Int.fdiv_eq_ediv_of_nonneg i (zC3 _)];exact q)
theorem zHp:OpR X (binaryOp .BitAnd) (rI0 λi j=>.int (Builtin.bitAnd i j)):=wV λ_ _ _ _ _ _ _ q=>and_int q
theorem unI{f:Value->Sem Value}{g:Int->Int}
  (rule:∀(i:Int) (t:Tok) (s:Shared) (Q:Value->Shared->Prop) (E:Value->Shared->Prop),Q (.int (g i) s.toks) {s with toks:=s.toks+1}->wpAny (model X.prog X.w) X.A (f (.int i t)) Q E s):
  UnR X f (rU λi=>.int (g i)):=by
 intro pins s σ H x v Q I rx h
 obtain⟨i,rfl,q⟩:=h
 obtain⟨t,rfl⟩:=rx
 exact rule i t s _ _ ⟨.int (g i),H,I.tok _,⟨_,rfl⟩,q⟩
theorem zBb:UnR X (unaryOp .USub) (rU λi=>.int (-i)):=unI λ_ _ _ _ _ q=>neg_int q
end
section
variable{X:Cx}{a b c:Expr}{ta tb tc:TE}{pos:Pos}
theorem qE{pins:List (Addr×Obj)}{σ:St}{H:Hp}{s:Shared}{Q:VK}{k k':Bool}(I:Inv X pins σ H s)(q:Q (.bl k) H)(e:k=k'):EP X pins σ Q (.bool k') s:=by
 subst e
 exact⟨.bl k,H,I,rfl,q⟩
theorem op_lt:OpR X (compareOp .Lt) (rI0 λi j=>.bl (decide (i<j))):=rQ λ_ _ _ _ _ _ _ q=>lt_int q
theorem zIB:OpR X (compareOp .LtE) (rI0 λi j=>.bl (decide (i<=j))):=rQ λ_ _ _ _ _ _ _ q=>le_int q
theorem zIC:OpR X (compareOp .Gt) (rI0 λi j=>.bl (decide (j<i))):=rQ λ_ _ _ _ _ _ _ q=>gt_int q
theorem zID:OpR X (compareOp .GtE) (rI0 λi j=>.bl (decide (j<=i))):=rQ λ_ _ _ _ _ _ _ q=>ge_int q
theorem zDM:OpR X (compareOp .Lt) (λx y H Q=>∃i j,x=.str i/\y=.str j/\Q (.bl (decide (i.cps.toList<j.cps.toList))) H):=by
 intro pins s σ H x y v u Q I rx ry h
 obtain⟨i,j,rfl,rfl,q⟩:=h
 obtain⟨t,rfl⟩:=rx
 obtain⟨t',rfl⟩:=ry
 exact lt_str (qE I q rfl)
theorem op_in_str:OpR X (compareOp .In) (λx y H Q=>∃i j,x=.str i/\y=.str j/\Q (.bl (!(Builtin.Str.occurrences j i 0 j.length 1).isEmpty)) H):=by
 intro pins s σ H x y v u Q I rx ry h
 obtain⟨i,j,rfl,rfl,q⟩:=h
 obtain⟨t,rfl⟩:=rx
 obtain⟨t',rfl⟩:=ry
 exact in_str (qE I q rfl)
theorem op_isN:OpR X (compareOp .Is) (λx y H Q=>y=.non/\Q (.bl (decide (x=.non))) H):=by
 intro pins s σ H x y v u Q I rx ry h
 obtain⟨rfl,q⟩:=h
 cases ry
 refine is_none_gen (qE I q ?_)
 cases x<;>first
  |(cases rx;rfl)
  |(obtain⟨t,rfl⟩:=rx;rfl)
theorem op_notN:OpR X (compareOp .IsNot) (λx y H Q=>y=.non/\Q (.bl (!decide (x=.non))) H):=by
 intro pins s σ H x y v u Q I rx ry h
 obtain⟨rfl,q⟩:=h
 cases ry
 refine isnot_none_gen (qE I q ?_)
 cases x<;>first
  |(cases rx;rfl)
  |(obtain⟨t,rfl⟩:=rx;rfl)
theorem OpR.or{f:Value->Value->Sem Value}{r r':R2}(h:OpR X f r)(h':OpR X f r'):OpR X f (λx y H Q=>r x y H Q\/r' x y H Q):=by
 intro pins s σ H x y v u Q I rx ry q
 rcases q with q|q
 ·exact h pins s σ H x y v u Q I rx ry q
 ·exact h' pins s σ H x y v u Q I rx ry q
theorem lU(b:Expr){op:CmpOp}(h:op≠.In:=by decide)(h2:op≠.NotIn:=by decide):behindInMarks op b=false:=by
 have e1:(op==CmpOp.In)=false:=by cases op<;>first|rfl|exact absurd rfl h
 have e2:(op==CmpOp.NotIn)=false:=by cases op<;>first|rfl|exact absurd rfl h2
 cases b<;>simp[behindInMarks,e1,e2]
theorem zFK{op:CmpOp}{r:R2}(ho:OpR X (compareOp op) r)(ha:PE X a ta)(hb:PE X b tb)(hm:behindInMarks op b=false):PE X (.Compare a [op] [b] pos) (tOp r ta tb):=by
 intro pins s σ H Q I h
 exact wpAny_Compare1 (wX ha hb I h λv u s2 x y H2 I2 rx ry q=>ho pins s2 σ H2 x y v u Q I2 rx ry q) hm
def vK(t:TE):TT:=λσ H Q=>t σ H λx H'=>∃k,x=.bl k/\Q k H'
theorem tX{op:CmpOp}{r:R2}(ho:OpR X (compareOp op) r)(ha:PE X a ta)(hb:PE X b tb)(hm:behindInMarks op b=false):PT X (.Compare a [op] [b] pos) (vK (tOp r ta tb)):=by
 intro pins s σ H Q I h
 refine wpAny_isTrue_Compare1 (thn (ha pins s σ H _ I h) λv s1 ⟨x,H1,I1,r1,q1⟩=>thn (hb pins s1 σ H1 _ I1 q1) λu s2 ⟨y,H2,I2,r2,q2⟩=>
  thn (ho pins s2 σ H2 x y v u _ I2 r1 r2 q2) λc s3 ⟨z,H3,I3,r3,k,e,q3⟩=>?_) hm
 subst e
 cases r3
 exact wpAny_truthy_bool ⟨H3,I3,q3⟩
def vA(r r':R2)(ta tb tc:TE):TE:=λσ H Q=>ta σ H λx H1=>tb σ H1 λy H2=>r x y H2 λz H3=>∃k,z=.bl k /\
 (if k=true then tc σ H3 λw' H4=>r' y w' H4 Q else Q (.bl false) H3)
theorem zEK{op op':CmpOp}{r r':R2}(ho:OpR X (compareOp op) r)(ho':OpR X (compareOp op') r')(ha:PE X a ta)(hb:PE X b tb)(hc:PE X c tc)
  (hm:lastMarks [op,op'] [b,c]=false:=by with_unfolding_all rfl):PE X (.Compare a [op,op'] [b,c] pos) (vA r r' ta tb tc):=by
 intro pins s σ H Q I h
 refine Compare_chain (thn (ha pins s σ H _ I h) λv s1 ⟨x,H1,I1,r1,q1⟩=>chain_link (thn (hb pins s1 σ H1 _ I1 q1) λu s2 ⟨y,H2,I2,r2,q2⟩=>
  thn (ho pins s2 σ H2 x y v u _ I2 r1 r2 q2) λd s3 ⟨z,H3,I3,r3,k,e,q3⟩=>?_)) hm
 subst e
 cases r3
 refine wpAny_truthy_bool ?_
 cases k with
 |false=>exact ite_ff ⟨.bl false,H3,I3,rfl,q3⟩
 |true=>exact ite_tt (chain_last (thn (hc pins s3 σ H3 _ I3 q3) λw' s4 ⟨z',H4,I4,r4,q4⟩=>ho' pins s4 σ H4 y z' u w' Q I4 r2 r4 q4))
theorem zEA{op op':CmpOp}{r r':R2}(ho:OpR X (compareOp op) r)(ho':OpR X (compareOp op') r')(ha:PE X a ta)(hb:PE X b tb)(hc:PE X c tc)
  (hm:lastMarks [op,op'] [b,c]=false:=by with_unfolding_all rfl):PT X (.Compare a [op,op'] [b,c] pos) (vK (vA r r' ta tb tc)):=by
 intro pins s σ H Q I h
 refine isTrue_chain (thn (ha pins s σ H _ I h) λv s1 ⟨x,H1,I1,r1,q1⟩=>test_link (thn (hb pins s1 σ H1 _ I1 q1) λu s2 ⟨y,H2,I2,r2,q2⟩=>
  thn (ho pins s2 σ H2 x y v u _ I2 r1 r2 q2) λd s3 ⟨z,H3,I3,r3,k,e,q3⟩=>?_)) hm
 subst e
 cases r3
 refine wpAny_truthy_bool ?_
 cases k with
 |false=>
  obtain⟨k',e',q'⟩:=q3
  cases e'
  exact ite_ff ⟨H3,I3,q'⟩
 |true=>
  refine ite_tt (test_last (thn (hc pins s3 σ H3 _ I3 q3) λw' s4 ⟨z',H4,I4,r4,q4⟩=>thn (ho' pins s4 σ H4 y z' u w' _ I4 r2 r4 q4) λd' s5 ⟨z2,H5,I5,r5,k2,e2,q5⟩=>?_))
  subst e2
  cases r5
  exact wpAny_truthy_bool ⟨H5,I5,q5⟩
theorem lV:(sizeLine:Nat)<2 ^ 63:=by rw[sizeLine_eq];decide
theorem op_add_str:OpR X (binaryOp .Add) (λx y H Q=>∃i j,x=.str i/\y=.str j/\i.length+j.length<=sizeLine/\Q (.str (i++j)) H):=by
 intro pins s σ H x y v u Q I rx ry h
 obtain⟨i,j,rfl,rfl,hz,q⟩:=h
 obtain⟨t,rfl⟩:=rx
 obtain⟨t',rfl⟩:=ry
 exact add_str (λt' tk=>⟨.str (i++j),H,I.tok _,⟨_,rfl⟩,q⟩) hz
theorem cX{x:V}{us:List Value}(r:Vals [x] us):∃u,us=[u]/\RelV x u:=by
 cases r with
 |cons r1 r2=>cases r2;exact⟨_,rfl,r1⟩
theorem gE{x y:V}{us:List Value}(r:Vals [x,y] us):∃u w',us=[u,w']/\RelV x u/\RelV y w':=by
 cases r with
 |cons r1 r2=>
  cases r2 with
  |cons r3 r4=>cases r4;exact⟨_,_,rfl,r1,r3⟩
theorem zEd(hc:X.calm=true):CallR X (.builtin "max") (λxs H Q=>∃i j,xs=[.int i,.int j]/\Q (.int (if j > i then j else i)) H):=by
 intro pins s σ H xs us Q I r h
 obtain⟨i,j,rfl,q⟩:=h
 obtain⟨u,w',rfl,⟨t,rfl⟩,⟨t',rfl⟩⟩:=gE r
 refine max_two_ints (I.ok.hd hc) λh' tk k=>⟨_,H,I.kept k,?_,q⟩
 by_cases hj:j > i
 ·rw[if_pos hj,if_pos hj];exact⟨_,rfl⟩
 ·rw[if_neg hj,if_neg hj];exact⟨_,rfl⟩
theorem zEb(hc:X.calm=true):CallR X (.builtin "min") (λxs H Q=>∃i j,xs=[.int i,.int j]/\Q (.int (if j<i then j else i)) H):=by
 intro pins s σ H xs us Q I r h
 obtain⟨i,j,rfl,q⟩:=h
 obtain⟨u,w',rfl,⟨t,rfl⟩,⟨t',rfl⟩⟩:=gE r
 refine min_two_ints (I.ok.hd hc) λh' tk k=>⟨_,H,I.kept k,?_,q⟩
 by_cases hj:j<i
 ·rw[if_pos hj,if_pos hj];exact⟨_,rfl⟩
 ·rw[if_neg hj,if_neg hj];exact⟨_,rfl⟩
end
end L2
namespace L2
open PySem PySem.Spec PyProof.Rows
theorem RelO.some_of{v:V}{o:Option Value}(r:RelO (some v) o):∃u,o=some u/\RelV v u:=by
 cases o with
 |none=>exact(show False from r).elim
 |some u=>exact⟨u,rfl,r⟩
end L2
namespace L2
open PySem PySem.Spec PyProof.Rows
structure Room (k:Nat) (A:Around):Prop where
 hd:A.handled=none
 dp:A.depth+3*k+5<recursionLimit
 un:A.units+16*k+200<cLine
 gd:A.guards=some []
theorem Room.mono{j k:Nat}{A:Around}(r:Room k A)(h:j<=k):Room j A:=⟨r.hd,by have:=r.dp;omega,by have:=r.un;omega,r.gd⟩
theorem Room.deeper{k:Nat}{A:Around}(r:Room (k+1) A)(env:Env):Room k (A.deeper env):=
 ⟨r.hd,by have:=r.dp;show A.depth+1+3*k+5<_;omega,by have:=r.un;show A.units+3+16*k+200<_;omega,r.gd⟩
theorem Room.depth{k:Nat}{A:Around}(r:Room k A):A.depth<recursionLimit:=by have:=r.dp;omega
theorem Room.units{k:Nat}{A:Around}(r:Room k A):A.units+64<cLine:=by have:=r.un;omega
def qV:TA:=λ_ H Q=>Q [] H
def vL(ta:TE)(tr:TA):TA:=λσ H Q=>ta σ H λx H1=>tr σ H1 λxs H2=>Q (x::xs) H2
section
variable{X:Cx}{e:Expr}{es:List Expr}{te:TE}{t:TA}{pos:Pos}
theorem dL:PA X [] qV:=λ_ _ _ _ H Q I h=>Calls.spliced_nil ⟨[],H,I,.nil,h⟩
theorem uJ(ha:PE X e te)(hr:PA X es t)(hs:starEach (e::es) X.env=(false,eval e X.env)::starEach es X.env:=by rfl):PA X (e::es) (vL te t):=by
 intro pos pins s σ H Q I h
 rw[hs]
 show wpAny _ _ (spliced ((false,eval e X.env)::backTo pos (starEach es X.env))) _ _ s
 refine Calls.spliced_cons (thn (ha pins s σ H _ I h) λu s1 ⟨x,H1,I1,r1,q1⟩=>?_)
 exact thn (hr pos pins s1 σ H1 _ I1 q1) λus s2 ⟨xs,H2,I2,r2,q2⟩=>⟨x::xs,H2,I2,.cons r1 r2,q2⟩
def zI6(t:TA):TE:=λσ H Q=>t σ H λxs H1=>xs.length<=sizeLine/\∀p,H1 p=none->Q (.ref p) (upd H1 p (.tup xs))
def zB3(t:TA):TE:=λσ H Q=>t σ H λxs H1=>xs.length<=sizeLine/\∀p,H1 p=none->Q (.ref p) (upd H1 p (.lst xs))
theorem zG9{x1}(h:PA X es t):PE X (.Tuple es x1 pos) (zI6 t):=by
 intro pins s σ H Q I hq
 refine wpAny_Tuple_spliced (thn (h pos pins s σ H _ I hq) λus s1 ⟨xs,H1,I1,r,z,q⟩=>⟨by rw[<-r.length];exact z,?_⟩)
 have hf:H1 s1.heap.objs.size=none:=I1.hok.fresh (Nat.le_refl _)
 refine⟨.ref s1.heap.objs.size,upd H1 s1.heap.objs.size (.tup xs),I1.laid (t':=s1.toks) (λb u e=>Heap.get?_push_of_some _ e) (Nat.le_refl _) ?_,rfl,q _ hf⟩
 exact⟨z,us,r,⟨_,Heap.get?_push_size _ rfl,rfl,_,rfl⟩⟩
theorem zBo(h:PA X es t):PE X (.List es pos) (zB3 t):=by
 intro pins s σ H Q I hq
 refine wpAny_List_spliced (thn (h pos pins s σ H _ I hq) λus s1 ⟨xs,H1,I1,r,z,q⟩=>⟨by rw[<-r.length];exact z,?_⟩)
 have hf:H1 s1.heap.objs.size=none:=I1.hok.fresh (Nat.le_refl _)
 refine⟨.ref s1.heap.objs.size,upd H1 s1.heap.objs.size (.lst xs),I1.laid (t':=s1.toks) (λb u e=>Heap.get?_push_of_some _ e) (Nat.le_refl _) ?_,rfl,q _ hf⟩
 exact⟨z,us,0,r,Heap.get?_push_size _ rfl⟩
end
abbrev Sp:=List V->Hp->VK->XK->Prop
abbrev CXT:=List Env->Hp->Shared->XK->Value->Shared->Prop
structure rY (P:Program) (w:World) (K:W.Frag) (mg:Str->Option Value) (base:Heap) (A:Around) (outer:List Env) (s:Shared) (H:Hp):Prop where
 frames:A.frames=some outer
 mod:Mod K mg base
 bs:∀b o,base.get? b=some o->s.heap.get? b=some o/\H b=none
 bsz:base.objs.size<=s.heap.objs.size
 funs:s.heap.FunFrames base outer
 frf:∀b∈frs outer,H b=none
 hok:HOk P w H s.heap
 bare:AllBare s.gens
def CE(outer:List Env)(P:Program)(w:World)(H:Hp)(s:Shared)(Q:VK)(u:Value)(s':Shared):Prop:=
 ∃v H',s'.os=s.os/\AllBare s'.gens/\Un (frs outer) [] H H' s.heap s'.heap/\HOk P w H' s'.heap/\RelV v u/\Q v H'
def CR(CX:CXT)(outer:List Env)(P:Program)(w:World)(H:Hp)(s:Shared)(Q:VK)(E:XK)(r:Result)(s':Shared):Prop:=
 match r with
 |.ok (.ret u)=>CE outer P w H s Q u s'
 |.ok _=>False
 |.error e=>CX outer H s E e s'
structure FnOk (P:Program) (w:World) (K:W.Frag) (mg:Str->Option Value) (base:Heap) (CX:CXT) (k:Nat) (f:Addr) (fd:FuncData) (ps:List Str) (sp:Sp):Prop where
 len:∀vs H Q E,sp vs H Q E->vs.length=ps.length
 run:∀(A:Around) (outer:List Env) (s:Shared) (H:Hp) (args:Args) (us:List Value) (vs:List V) (Q:VK) (E:XK),Room k A->rY P w K mg base A outer s H->BindsTo s fd args (ps.zip us)->Vals vs us->sp vs H Q E ->
  codeAny (model P w) A (.call (.ref f) args) (CR CX outer P w H s Q E) s
theorem FnOk.mono{P:Program}{w:World}{K:W.Frag}{mg:Str->Option Value}{base:Heap}{CX:CXT}{j k:Nat}{f:Addr}{fd:FuncData}{ps:List Str}{sp:Sp}(F:FnOk P w K mg base CX j f fd ps sp)(h:j<=k):
  FnOk P w K mg base CX k f fd ps sp:=⟨F.len,λA outer s H args us vs Q E hr=>F.run A outer s H args us vs Q E (hr.mono h)⟩
theorem FnOk.imp{P:Program}{w:World}{K:W.Frag}{mg:Str->Option Value}{base:Heap}{CX:CXT}{k:Nat}{f:Addr}{fd:FuncData}{ps:List Str}{sp sp':Sp}(F:FnOk P w K mg base CX k f fd ps sp)
  (h:∀vs H Q E,sp' vs H Q E->sp vs H Q E):FnOk P w K mg base CX k f fd ps sp':=
 ⟨λvs H Q E q=>F.len vs H Q E (h _ _ _ _ q),λA outer s H args us vs Q E hr he hb hv hs=>F.run A outer s H args us vs Q E hr he hb hv (h _ _ _ _ hs)⟩
section
variable{X:Cx}{pins:List (Addr×Obj)}{σ:St}{H:Hp}{s s':Shared}
theorem Inv.env0(I:Inv X pins σ H s):rY X.prog X.w X.K X.mg X.base X.A X.stack s H:=
 ⟨I.ok.frames,I.ok.mod,I.bs,Nat.le_trans I.ok.bsz I.sz,I.stack,I.stkFree,I.hok,I.bare⟩
theorem Inv.after{Q:VK}{u:Value}(I:Inv X pins σ H s)(h:CE X.stack X.prog X.w H s Q u s'):EP X pins σ Q u s':=by
 obtain⟨v,H',os,bare,un,hok,r,q⟩:=h
 obtain⟨hh,g,d,t,os'⟩:=s'
 obtain rfl:os'=s.os:=os
 exact⟨v,H',I.call (h':=hh) (g':=g) (d':=d) (t':=t) (ch:=[]) un hok bare (λb z=>absurd z (by simp)),r,q⟩
end
def nU(sp:Sp)(dvs:List V)(E:XK)(t:TA):TE:=λσ H Q=>t σ H λvs H1=>sp (vs++dvs) H1 Q E
def Binds(K:W.Frag)(fd:FuncData)(ps:List Str)(ds:List Value):Prop:=
 ∀(s:Shared) (us:List Value),K.In s.heap->(us++ds).length=ps.length->BindsTo s fd ⟨us,[]⟩ (ps.zip (us++ds))
theorem Binds.all{K:W.Frag}{fd:FuncData}{ps:List Str}(h:∀us:List Value,us.length=ps.length->bindArgs fd ⟨us,[]⟩=pure (ps.zip us)):Binds K fd ps []:=λs us _ hl=>by
 rw[List.append_nil]at hl ⊢
 exact .of_eq (h us hl)
def qG(CX:CXT)(X:Cx)(E:XK):Prop:=∀(pins:List (Addr×Obj)) (σ:St) (H:Hp) (s:Shared) (e:Value) (s':Shared),Inv X pins σ H s->CX X.stack H s E e s'->X.xe e s'
section
variable{X:Cx}{CX:CXT}{k:Nat}{f C:Addr}{fd:FuncData}{ps:List Str}{sp:Sp}{dvs:List V}{ds:List Value}{E:XK}{x m:Str}{p pos apos:Pos}{e o:Expr}{es:List Expr}{ta:TE}{t:TA}
theorem zBi{pins:List (Addr×Obj)}{σ:St}{H:Hp}{s:Shared}{Q:VK}{us:List Value}{vs:List V}(F:FnOk X.prog X.w X.K X.mg X.base CX k f fd ps sp)(hr:Room k X.A)(hb:Binds X.K fd ps ds)(hd:Vals dvs ds)(hx:qG CX X E)
  (I:Inv X pins σ H s) (r:Vals vs us) (h:sp (vs++dvs) H Q E):wpAny (model X.prog X.w) X.A (call (.ref f) us) (EP X pins σ Q) X.xe s:=by
 have r2:Vals (vs++dvs) (us++ds):=r.append hd
 have hl:(us++ds).length=ps.length:=by rw[<-r2.length];exact F.len _ _ _ _ h
 refine wpAny_call (codeAny_mono (F.run X.A X.stack s H ⟨us,[]⟩ (us++ds) (vs++dvs) Q E hr I.env0 (hb s us I.kIn hl) r2 h) λr s' hq=>?_)
 cases r with
 |error e=>exact hx pins σ H s e s' I hq
 |ok fl=>
  cases fl with
  |ret u=>exact I.after hq
  |next=>exact False.elim hq
  |brk=>exact False.elim hq
  |cont=>exact False.elim hq
theorem zFL(F:FnOk X.prog X.w X.K X.mg X.base CX k f fd ps sp)(hr:Room k X.A)(hg:Gl X x)(hm:X.mg x=some (.ref f))(hk:W.keepIn X.K (.ref f)=true)(hb:Binds X.K fd ps ds)(hd:Vals dvs ds)(hx:qG CX X E)
  (ha:PA X (e::es) t) (hdb:(x==("__debug__":Str))=false:=by decide) (he:starEach (e::es) X.env=(false,eval e X.env)::starEach es X.env:=by rfl) (hpl:(backTo pos (starEach es X.env)).any (·.1)=false:=by rfl):
  PE X (.Call (.Name x p) (e::es) [] pos) (nU sp dvs E t):=by
 intro pins s σ H Q I h
 refine wpAny_Call_Name_kw (uO I hg hm ?_ hdb)
 refine PySem.W.callWith_K (h₀:=X.base) I.ok.mod.kin hk (thn (ha pos pins s σ H _ I h) λus s1 ⟨vs,H1,I1,r,q⟩=>⟨I1.kIn,?_⟩) he hpl
 exact zBi F hr hb hd hx I1 r q
theorem zEL(F:FnOk X.prog X.w X.K X.mg X.base CX k f fd ps sp)(hr:Room k X.A)(hg:Gl X x)(hm:X.mg x=some (.ref f))(hk:W.keepIn X.K (.ref f)=true)(hb:Binds X.K fd ps ds)(hd:Vals dvs ds)(hx:qG CX X E)
  (hdb:(x==("__debug__":Str))=false:=by decide):PE X (.Call (.Name x p) [] [] pos) (nU sp dvs E qV):=by
 intro pins s σ H Q I h
 refine wpAny_Call_Name_kw (uO I hg hm ?_ hdb)
 exact PySem.W.callWith_K0 I.kIn hk (zBi (us:=[]) F hr hb hd hx I .nil h)
end
structure bE (N P:List Str) (sc:Scope):Prop where
 kind:sc.kind=.function
 co:sc.isCoroutine=false
 gen:sc.isGenerator=false
 nd:N.Nodup
 pre:N.take P.length=P
 par:∀x∈P,sc.names.lookup x=some .local\/sc.names.lookup x=some .cell
 nofree:∀y∈sc.names,y.2≠.free
theorem fsc{N P:List Str}{sc:Scope}(h:sc.kind=.function/\sc.isCoroutine=false/\sc.isGenerator=false/\N.Nodup/\N.take P.length=P/\(∀x∈P,sc.names.lookup x=some .local\/sc.names.lookup x=some .cell)/\∀y∈sc.names,y.2≠.free):bE N P sc:=⟨h.1,h.2.1,h.2.2.1,h.2.2.2.1,h.2.2.2.2.1,h.2.2.2.2.2.1,h.2.2.2.2.2.2⟩
theorem zH{kindOf:Str->Option NameKind}{x:Str}:∀{binds:List (Str×Value)}{m:Str->Option Value},(∀v,(x,v)∉binds)->bindL kindOf binds m x=m x
 |[],_,_=>rfl
 |(n,v)::r,m,h=>by
  unfold bindL
  rw[zH λw hw=>h w (List.mem_cons_of_mem _ hw)]
  split
  ·have:x≠n:=by rintro rfl;exact h v List.mem_cons_self
   simp[this]
  ·rfl
theorem zJ{kindOf:Str->Option NameKind}{x:Str}:∀{binds:List (Str×Value)}{m:Str->Option Value},(∀v,(x,v)∉binds)->bindC kindOf binds m x=m x
 |[],_,_=>rfl
 |(n,v)::r,m,h=>by
  unfold bindC
  rw[zJ λw hw=>h w (List.mem_cons_of_mem _ hw)]
  split
  ·rfl
  ·have:x≠n:=by rintro rfl;exact h v List.mem_cons_self
   simp[this]
theorem zI{kindOf:Str->Option NameKind}{x:Str}{v:Value}:∀{P:List Str}{vs:List Value}{i:Nat}{m:Str->Option Value},P.Nodup->P[i]?=some x->vs[i]?=some v->kindOf x=some .local ->
  bindL kindOf (P.zip vs) m x=some v
 |[],_,_,_,_,h,_,_=>by simp at h
 |_::_,[],_,_,_,_,h,_=>by simp at h
 |p::P,w::vs,0,m,nd,h1,h2,hk=>by
  simp at h1 h2;subst h1;subst h2
  show bindL kindOf ((p,w)::P.zip vs) m p=_
  unfold bindL
  rw[zH λv hv=>(List.nodup_cons.mp nd).1 (List.of_mem_zip hv).1,if_pos hk]
  simp
 |p::P,w::vs,i+1,m,nd,h1,h2,hk=>by
  show bindL kindOf ((p,w)::P.zip vs) m x=_
  unfold bindL
  exact zI (i:=i) (List.nodup_cons.mp nd).2 (by simpa using h1) (by simpa using h2) hk
theorem zK{kindOf:Str->Option NameKind}{x:Str}{v:Value}:∀{P:List Str}{vs:List Value}{i:Nat}{m:Str->Option Value},P.Nodup->P[i]?=some x->vs[i]?=some v->kindOf x≠some .local ->
  bindC kindOf (P.zip vs) m x=some v
 |[],_,_,_,_,h,_,_=>by simp at h
 |_::_,[],_,_,_,_,h,_=>by simp at h
 |p::P,w::vs,0,m,nd,h1,h2,hk=>by
  simp at h1 h2;subst h1;subst h2
  show bindC kindOf ((p,w)::P.zip vs) m p=_
  unfold bindC
  rw[zJ λv hv=>(List.nodup_cons.mp nd).1 (List.of_mem_zip hv).1,if_neg hk]
  simp
 |p::P,w::vs,i+1,m,nd,h1,h2,hk=>by
  show bindC kindOf ((p,w)::P.zip vs) m x=_
  unfold bindC
  exact zK (i:=i) (List.nodup_cons.mp nd).2 (by simpa using h1) (by simpa using h2) hk
def dS(N:List Str)(vs:List V):St:=vs.map some++List.replicate (N.length-vs.length) none
def jL(CX:CXT)(P:Program)(w:World)(K:W.Frag)(mg:Str->Option Value)(base:Heap)(N:List Str)(qual:Str)(scope:Scope)(f:Addr)(cd:Value)(A:Around)(outer:List Env)(s:Shared)(H:Hp)(E:XK):Cx where
 prog:=P
 w:=w
 K:=K
 mg:=mg
 base:=base
 A:=A.deeper (envOfC qual scope s.heap.objs.size f cd)
 N:=N
 s₀:=s
 H₀:=H
 env:=envOfC qual scope s.heap.objs.size f cd
 outer:=outer
 stack:=envOfC qual scope s.heap.objs.size f cd::outer
 ex:=[]
 calm:=true
 fn:=λ_=>true
 pn:=[]
 xe:=λe s'=>wpAny (model P w) (A.deeper (envOfC qual scope s.heap.objs.size f cd)) (leaving (envOfC qual scope s.heap.objs.size f cd) e) (λ_ s''=>CX outer H s E e s'') (λe' s''=>CX outer H s E e' s'') s'
theorem zAm{sc:Scope}{n:Nat}{x:Str}(h:sc.names.lookup x=some .cell):∃c,(cellsFrom n sc.names []).lookup x=some c:=by
 have q:=PySem.W.cellsFrom_some sc.names n [] (.inl h)
 exact Option.isSome_iff_exists.mp q
theorem zD0{CX:CXT}{P:Program}{w:World}{K:W.Frag}{mg:Str->Option Value}{base:Heap}{N ps:List Str}{qual:Str}{scope:Scope}{f:Addr}{cd:Value}{A:Around}{outer:List Env}{s s1:Shared}{H:Hp}{E:XK}{us:List Value}{vs:List V}
  (S:bE N ps scope) (hd:A.handled=none) (e0:rY P w K mg base A outer s H) (hl:vs.length=ps.length) (r:Vals vs us)
  (x:InCallC s s.heap.objs.size (bindL (envOfC qual scope s.heap.objs.size f cd).kindOf (ps.zip us) λ_=>none) (cellsFrom (s.heap.objs.size+1) scope.names []) (bindC (envOfC qual scope s.heap.objs.size f cd).kindOf (ps.zip us) λ_=>none) s1):
  Inv (jL CX P w K mg base N qual scope f cd A outer s H E) [] (dS N vs) H s1:=by
 have hpl:ps.length<=N.length:=by have:=congrArg List.length S.pre;rw[List.length_take]at this;omega
 obtain⟨h1,tk,rfl,hk⟩:=x.done
 have noA:∀b:Addr,b∉(jL CX P w K mg base N qual scope f cd A outer s H E).ex:=λb z=>absurd (show b∈([]:List Addr) from z) (by simp)
 refine⟨⟨e0.mod,S.kind,rfl,rfl,Nat.le_refl _,λy z c h1 h2=>?_,λy hy=>?_,λy c _ h=>?_,λ_=>hd,Around.frames_deeper e0.frames,.inr ⟨rfl,rfl⟩,λb z=>absurd z (noA b),e0.bs,e0.bsz,λb _ _=>noA b,λb z=>absurd z (noA b),e0.funs,e0.frf⟩,
  rfl,e0.bare,Un.kept hk,⟨_,x.toInCall.ns,λi y v h1 h2 h3=>?_⟩,λy c h=>⟨_,x.cell y c h⟩,e0.hok.fresh (Nat.le_refl _),λy c h=>?_,λp hp=>absurd (show p∈([]:List (Addr×Obj)) from hp) (by simp),e0.hok.kept hk,?_⟩
 ·exact name_of_addr x.apart (PySem.mem_of_lookup h1) (PySem.mem_of_lookup h2)
 ·have hy:scope.names.lookup y=some .cell\/scope.names.lookup y=some .free:=hy
  rcases hy with hy|hy
  ·exact zAm hy
  ·exact absurd rfl (S.nofree _ (PySem.mem_of_lookup hy))
 ·exact Nat.le_of_lt (x.above y c (PySem.mem_of_lookup h))
 ·have hi:i<vs.length:=by
   unfold dS at h2
   by_cases hi:i<vs.length
   ·exact hi
   ·rw[List.getElem?_append_right (by simpa using hi)]at h2
    rw[List.getElem?_replicate]at h2
    split at h2<;>cases h2
  have ha:vs[i]?=some v:=by
   unfold dS at h2
   rw[List.getElem?_append_left (by simpa using hi),List.getElem?_map]at h2
   cases e:vs[i]? with
   |none=>rw[e]at h2;cases h2
   |some a=>rw[e]at h2;cases h2;rfl
  obtain⟨u,hu,rv⟩:=r.get ha
  have hp:ps[i]?=some y:=by
   rw[<-S.pre,List.getElem?_take_of_lt (by omega)];exact h1
  have ndP:ps.Nodup:=by rw[<-S.pre];exact S.nd.sublist (List.take_sublist _ _)
  refine⟨u,rv,?_⟩
  rcases S.par y (List.mem_of_getElem? hp) with k|k
  ·exact .inl ⟨k,zI ndP hp hu k⟩
  ·obtain⟨c,e⟩:=zAm (n:=s.heap.objs.size+1) k
   refine .inr ⟨.inl k,c,e,?_⟩
   have q:=x.cell y c e
   rw[zK ndP hp hu (by show scope.names.lookup y≠_;rw[k];decide)]at q
   exact q
 ·exact e0.hok.fresh (Nat.le_of_lt (x.above y c (PySem.mem_of_lookup h)))
 ·unfold dS
  show _=N.length
  rw[List.length_append,List.length_map,List.length_replicate]
  omega
theorem zIO{CX:CXT}{P:Program}{w:World}{K:W.Frag}{mg:Str->Option Value}{base:Heap}{k:Nat}{f:Addr}{name qual:Str}{params:Arguments}{body:List Stmt}{scope:Scope}{dV kV doc pm cdv ct oc:Value}{an od:Option Addr}
  {osl:Array (Option Value)} {N ps:List Str} {sp:Sp} (lk:K.lookup f=some ⟨oc,od,.func (W.fnOf name qual params body scope dV kV doc pm an cdv ct),osl⟩) (hcd:W.codeIn K cdv qual=true) (S:bE N ps scope)
  (len:∀vs H Q E,sp vs H Q E->vs.length=ps.length)
  (hbody:∀(A:Around) (outer:List Env) (s:Shared) (H:Hp) (vs:List V) (Q:VK) (E:XK),Room k (A.deeper (envOfC qual scope s.heap.objs.size f cdv))->sp vs H Q E ->
   ∃t,PSs (jL CX P w K mg base N qual scope f cdv A outer s H E) body t/\t {nx:=λ_ H'=>Q .non H',rt:=Q} (dS N vs) H):
  FnOk P w K mg base CX (k+1) f (W.fnOf name qual params body scope dV kV doc pm an cdv ct) ps sp:=by
 refine⟨len,λA outer s H args us vs Q E hr e0 hb r hsp=>?_⟩
 have hl:=len _ _ _ _ hsp
 have KX:K.In s.heap:=e0.mod.kin.keeps λb o e=>(e0.bs b o e).1
 have lim:s.heap.NoLimit:=e0.mod.nolimit.keeps λb o e=>(e0.bs b o e).1
 have hkind:∀y∈ps.zip us,scope.names.lookup y.1=some .local\/(scope.names.lookup y.1=some .cell/\((cellsFrom (s.heap.objs.size+1) scope.names []).lookup y.1).isSome=true):=λ⟨n,v⟩ hy=>by
  rcases S.par n (List.of_mem_zip hy).1 with q|q
  ·exact .inl q
  ·exact .inr ⟨q,PySem.W.cellsFrom_some _ _ _ (.inl q)⟩
 refine codeAny_call_function hr.depth (KX _ _ lk) rfl S.co S.gen rfl (PySem.W.codeRec_of KX hcd) (hb _ _ _ _ ?_)
 refine wpAny_newFunctionEnv_cells S.kind hkind λenv he s1 x=>?_
 subst he
 refine⟨lim.keeps x.toInCall.keep,codeAny_func ?_⟩
 obtain⟨t,ht,hq⟩:=hbody A outer s H vs Q E (hr.deeper _) hsp
 have I:Inv (jL CX P w K mg base N qual scope f cdv A outer s H E) [] (dS N vs) H s1:=zD0 S hr.hd e0 hl r x
 refine wpAny_mono (ht [] s1 (dS N vs) H _ I hq) (λfl s' hs=>?_) λe s' hs=>hs
 have fin:∀{σ':St} {H':Hp} {v:V} {u:Value},Inv (jL CX P w K mg base N qual scope f cdv A outer s H E) [] σ' H' s'->RelV v u->Q v H'->CE outer P w H s Q u s':=
  λ{σ' H' v u} J rv q=>⟨v,H',J.os,J.bare,J.base,J.hok,rv,q⟩
 cases fl with
 |ret u=>
  obtain⟨v,σ',H',J,rv,q⟩:=hs
  exact fin J rv q
 |next=>
  obtain⟨σ',H',J,q⟩:=hs
  exact fin (v:=V.non) (u:=Value.none) J rfl q
 |brk=>
  obtain⟨_,_,_,q⟩:=hs
  exact False.elim q
 |cont=>
  obtain⟨_,_,_,q⟩:=hs
  exact False.elim q
end L2
namespace L2
open PySem PySem.Spec PyProof.Rows
section
variable{X:Cx}{x:Str}{p pos:Pos}{e:Expr}{es:List Expr}{t:TA}{id T:String}{r:List V->Hp->VK->Prop}
def tCB(r:List V->Hp->VK->Prop)(t:TA):TE:=λσ H Q=>t σ H λvs H1=>r vs H1 Q
theorem hZ(hc:CallR X (.builtin id) r)(hg:Gl X x)(hm:X.mg x=none)(hv:bootBuiltins x=some (.builtin id))(ha:PA X (e::es) t)(hn:x≠"__name__":=by decide)(hdb:(x==("__debug__":Str))=false:=by decide)
  (he:starEach (e::es) X.env=(false,eval e X.env)::starEach es X.env:=by rfl) (hpl:(backTo pos (starEach es X.env)).any (·.1)=false:=by rfl):PE X (.Call (.Name x p) (e::es) [] pos) (tCB r t):=by
 intro pins s σ H Q I h
 refine wpAny_Call_Name_kw (lW I hg hm hv ?_ hn hdb)
 exact PyProof.Rows.callWith_builtin1 (thn (ha pos pins s σ H _ I h) λus s1 ⟨vs,H1,I1,r1,q1⟩=>hc pins s1 σ H1 vs us Q I1 r1 q1) he hpl
theorem kN(hc:CallR X (.type T) r)(hg:Gl X x)(hm:X.mg x=none)(hv:bootBuiltins x=some (.type T))(ha:PA X (e::es) t)(hn:x≠"__name__":=by decide)(hdb:(x==("__debug__":Str))=false:=by decide)
  (he:starEach (e::es) X.env=(false,eval e X.env)::starEach es X.env:=by rfl) (hpl:(backTo pos (starEach es X.env)).any (·.1)=false:=by rfl):PE X (.Call (.Name x p) (e::es) [] pos) (tCB r t):=by
 intro pins s σ H Q I h
 refine wpAny_Call_Name_kw (lW I hg hm hv ?_ hn hdb)
 exact PyProof.Rows.callWith_type1 (thn (ha pos pins s σ H _ I h) λus s1 ⟨vs,H1,I1,r1,q1⟩=>hc pins s1 σ H1 vs us Q I1 r1 q1) he hpl
end
end L2
namespace HT
open PySem PyProof.Rows
section
variable{prog:Program}{w:World}{A:Around}{E:Value->Shared->Prop}{s:Shared}
theorem cat_tup{t b:Addr}{vs ws:List Value}{Q:Value->Shared->Prop}(ht:IsTup s.heap t vs.toArray)(hb:IsTup s.heap b ws.toArray)(hv:vs≠[])
  (h1:ws=[]->Q (.ref t) s) (h2:ws≠[]->Q (.ref s.heap.objs.size) {s with heap:=s.heap.push {cls:=.type "tuple",data:=.seq (vs++ws).toArray}})
  (hsz:vs.length+ws.length<=sizeLine):wpAny (model prog w) A (binaryOp .Add (.ref t) (.ref b)) Q E s:=by
 obtain⟨⟨cls,dd,data,sl⟩,ho,hc,n,hd⟩:=id ht
 obtain⟨⟨cls2,dd2,data2,sl2⟩,ho2,hc2,n2,hd2⟩:=id hb
 simp only at hc hd hc2 hd2
 subst hc hd hc2 hd2
 have e:vs.toArray++ws.toArray=(vs++ws).toArray:=by simp
 by_cases hw:ws=[]
 ·exact concat_meets ⟨_,ho,rfl⟩ ⟨_,ho2,rfl⟩ noFill_tuple_add seq_tuple_add PySem.F.slot_tuple_add PySem.F.entry_tuple_add (PySem.F.args_tuple_add_2 _ _)
   (tuple_addW1 t b vs.toArray ws.toArray n n2 dd dd2 sl sl2 (by simpa using hv) (by simp[hw])) ⟨ho,ho2,h1 hw⟩
 ·refine concat_meets ⟨_,ho,rfl⟩ ⟨_,ho2,rfl⟩ noFill_tuple_add seq_tuple_add PySem.F.slot_tuple_add PySem.F.entry_tuple_add (PySem.F.args_tuple_add_2 _ _)
   (tuple_addW2 t b vs.toArray ws.toArray n n2 dd dd2 sl sl2 (by simpa using hv) (by simpa using hw) (by rw[List.size_toArray,List.size_toArray];exact hsz)) ⟨ho,ho2,?_⟩
  rw[e]
  exact h2 hw
def sIx(n d:Nat):Option Int->Nat
 |none=>d
 |some v=>if v<0 then(v+(n:Int)).toNat else min v.toNat n
theorem sIx_none(n d:Nat):sIx n d none=d:=rfl
theorem sIx_nat(n d k:Nat):sIx n d (some (k:Int))=min k n:=by
 show(if (k:Int)<0 then((k:Int)+(n:Int)).toNat else min (k:Int).toNat n)=min k n
 rw[if_neg (by omega),Int.toNat_natCast]
theorem zGN(n d:Nat)(hd:d<=n)(o:Option Int):sIx n d o<=n:=by
 cases o with
 |none=>exact hd
 |some v=>
  show(if v<0 then(v+(n:Int)).toNat else min v.toNat n)<=n
  by_cases hv:v<0
  ·rw[if_pos hv];omega
  ·rw[if_neg hv];exact Nat.min_le_right _ _
theorem zA4(v:Int)(n d:Nat):(if v<0 then max (v+(n:Int)) 0 else min v (n:Int))=((sIx n d (some v):Nat):Int):=by
 show(if v<0 then max (v+(n:Int)) 0 else min v (n:Int))=(((if v<0 then(v+(n:Int)).toNat else min v.toNat n):Nat):Int)
 by_cases hv:v<0
 ·simp only[if_pos hv];omega
 ·simp only[if_neg hv];omega
theorem zDq(lo hi:Option Int)(n:Nat):Builtin.Slice.sliceAdjust lo hi 1 (n:Int)=(((sIx n 0 lo:Nat):Int),((sIx n n hi:Nat):Int)):=by
 have h1:¬ ((1:Int)<0):=by omega
 unfold Builtin.Slice.sliceAdjust
 simp only[h1,if_false]
 refine Prod.ext ?_ ?_
 ·cases lo with
  |none=>rfl
  |some v=>exact zA4 v n 0
 ·cases hi with
  |none=>rfl
  |some v=>exact zA4 v n n
theorem zDa(i j:Nat):Builtin.Slice.slicePlaces (i:Int) (j:Int) 1=j-i:=by
 unfold Builtin.Slice.slicePlaces
 have h1:(1:Int) > 0:=by omega
 simp only[h1,if_true,Int.ediv_one]
 split<;>omega
theorem yA{v:Value}{o:Option Int}{Q:Option Int->Shared->Prop}(p:IsPart v o)(h:Q o s):wpAny (model prog w) A (Builtin.Slice.slicePartIndex v) Q E s:=by
 cases p with
 |none=>exact slicePart_none h
 |int i t=>exact slicePart_int h
theorem sliceApplied_gen{sl:Addr}{vl vu:Value}{lo hi:Option Int}{n:Nat}{Q:Int×Int×Nat->Shared->Prop}(hs:s.heap.IsSliceOf sl vl vu .none)(pl:IsPart vl lo)(pu:IsPart vu hi)
  (h:Q (((sIx n 0 lo:Nat):Int),1,sIx n n hi-sIx n 0 lo) s):wpAny (model prog w) A (Builtin.Slice.sliceApplied (.ref sl) (pure (n:Int))) Q E s:=by
 obtain⟨os,hos,hcs,hds⟩:=id hs
 unfold Builtin.Slice.sliceApplied Builtin.Slice.sliceFields
 refine wpAny_bind (wpAny_bind (wpAny_field hos hds (x:=vl) rfl (wpAny_bind (wpAny_field hos hds (x:=vu) rfl (wpAny_bind (wpAny_field hos hds (x:=.none) rfl (wpAny_pure ?_)))))))
 refine wpAny_bind (slicePart_none ?_)
 show wpAny _ _ (if ((1:Int)==0)=true then _ else _) _ _ s
 rw[if_neg (by decide)]
 refine wpAny_bind (yA pl (wpAny_bind (yA pu (wpAny_bind (wpAny_pure ?_)))))
 show wpAny _ _ (match Builtin.Slice.sliceAdjust lo hi 1 (n:Int) with|(lo,hi)=>pure (lo,(1:Int),Builtin.Slice.slicePlaces lo hi 1)) _ _ s
 rw[zDq lo hi n]
 show wpAny _ _ (pure (((sIx n 0 lo:Nat):Int),(1:Int),Builtin.Slice.slicePlaces ((sIx n 0 lo:Nat):Int) ((sIx n n hi:Nat):Int) 1)) _ _ s
 rw[zDa]
 exact wpAny_pure h
theorem zEE(xs:Array Value)(i k:Nat):((List.range k).filterMap λ(m:Nat)=>xs[((i:Int)+(m:Int)*1).toNat]?).toArray=((xs.toList.drop i).take k).toArray:=by
 have e:(λ(m:Nat)=>xs[((i:Int)+(m:Int)*1).toNat]?)=λm=>xs[i+m]?:=by
  funext m
  have:((i:Int)+(m:Int)*1).toNat=i+m:=by omega
  rw[this]
 rw[e]
 have:=pick_run xs i k
 rw[List.filterMap_map]at this
 have e2:((λx=>xs[x]?)∘λx=>i+x)=λm=>xs[i+m]?:=rfl
 rw[e2]at this
 rw[this]
theorem getItem_tuple_cut{t sl:Addr}{items:Array Value}{vl vu:Value}{lo hi:Option Int}{Q:Value->Shared->Prop}(ht:IsTup s.heap t items)(hs:s.heap.IsSliceOf sl vl vu .none)(pl:IsPart vl lo)(pu:IsPart vu hi)
  (hw:¬ (sIx items.size 0 lo=0/\sIx items.size items.size hi=items.size))
  (h:Q (.ref s.heap.objs.size) {s with heap:=s.heap.push {cls:=.type "tuple",data:=.seq ((items.toList.drop (sIx items.size 0 lo)).take (sIx items.size items.size hi-sIx items.size 0 lo)).toArray}})
  (hsz:items.size<=sizeLine):wpAny (model prog w) A (getItem (.ref t) (.ref sl)) Q E s:=by
 have htake:sizeOk (.seq ((items.toList.drop (sIx items.size 0 lo)).take (sIx items.size items.size hi-sIx items.size 0 lo)).toArray):=by
  show((items.toList.drop (sIx items.size 0 lo)).take (sIx items.size items.size hi-sIx items.size 0 lo)).toArray.size<=sizeLine
  rw[List.size_toArray,List.length_take,List.length_drop,Array.length_toList]
  omega
 have hj:sIx items.size items.size hi<=items.size:=zGN _ _ (Nat.le_refl _) hi
 obtain⟨os,hos,hcs,hds⟩:=id hs
 have hTs:s.TypeIs (.ref sl) "slice":=⟨os,hos,hcs⟩
 unfold getItem
 try with_reducible refine wpAny_holding ?_
 first|refine wpAny_bind (wpAny_pure ?_)|skip
 refine wpAny_bind (wpAny_sequenceKey ht.typeIs (by decide) ?_)
 refine wpAny_bind (wpAny_callSpecial?_slot (name:=Str.ofString "__getitem__") ht.typeIs PyProof.Rows.slot_tuple_getitem
  (wpAny_call_entry PyProof.Rows.slot_tuple_getitem ht.typeIs entry_tuple_getitem ?_ (args_tuple_getitem _ _)))
 show wpAny _ _ (Builtin.Tuple.tupleItemsOf (.ref t) >>= _) _ _ s
 refine wpAny_bind (tupleItemsOf_ ht ?_)
 refine wpAny_bind (wpAny_typeOf hTs ?_)
 rw[if_pos (by decide)]
 refine wpAny_bind (sliceApplied_gen hs pl pu ?_)
 have hno:¬ ((((sIx items.size 0 lo:Nat):Int)==0&&(1:Int)==1&&(sIx items.size items.size hi-sIx items.size 0 lo)==items.size)=true):=by
  intro q
  rw[Bool.and_eq_true,Bool.and_eq_true]at q
  have q1:((sIx items.size 0 lo:Nat):Int)=0:=eq_of_beq q.1.1
  have q2:sIx items.size items.size hi-sIx items.size 0 lo=items.size:=eq_of_beq q.2
  exact hw ⟨by omega,by omega⟩
 show wpAny _ _ (if (((sIx items.size 0 lo:Nat):Int)==0&&(1:Int)==1&&(sIx items.size items.size hi-sIx items.size 0 lo)==items.size)=true then _ else _) _ _ s
 rw[if_neg hno,zEE]
 first
  |exact wpAny_bind (m:=Builtin.Tuple.tupleExact _) (wpAny_newObj_type (wpAny_pure ⟨_,rfl,wpAny_pure h⟩) htake)
  |exact wpAny_bind (m:=Builtin.Tuple.tupleExact _) (wpAny_newObj_type (wpAny_bind (wpAny_pure (wpAny_pure ⟨_,rfl,wpAny_pure h⟩))) htake)
  |exact wpAny_bind (wpAny_bind (m:=Builtin.Tuple.tupleExact _) (wpAny_newObj_type (wpAny_pure (wpAny_pure ⟨_,rfl,wpAny_pure h⟩)) htake))
  |exact wpAny_bind (wpAny_bind (m:=Builtin.Tuple.tupleExact _) (wpAny_newObj_type (wpAny_pure ⟨_,rfl,wpAny_pure h⟩) htake))
end
end HT
namespace L2
open PySem PySem.Spec PyProof.Rows
abbrev TO:=St->Hp->(Option Int->Hp->Prop)->Prop
def PO(X:Cx)(e:Option Expr)(t:TO):Prop:=
 ∀(pins:List (Addr×Obj)) (s:Shared) (σ:St) (H:Hp) (Q:Option Int->Hp->Prop),Inv X pins σ H s->t σ H Q ->
  wpAny (model X.prog X.w) X.A (evalPart e X.env) (λu s'=>∃o H',Inv X pins σ H' s'/\IsPart u o/\Q o H') X.xe s
def zFl:TO:=λ_ H Q=>Q none H
def zH7(t:TE):TO:=λσ H Q=>t σ H λx H1=>∃i,x=.int i/\Q (some i) H1
theorem oX{ns:List Int}:∀{us:List Value},Vals (ns.map V.int) us->IntsAre us ns:=by
 induction ns with
 |nil=>intro us r;rw[List.map_nil]at r;cases r;exact .nil
 |cons n ns ih=>
  intro us r
  rw[List.map_cons]at r
  cases r with
  |cons r1 r2=>
   obtain⟨t,e⟩:=r1
   subst e
   exact .cons n t (ih r2)
section
variable{X:Cx}{e:Expr}{te:TE}{lo hi:Option Expr}{tl th:TO}{pos p2:Pos}
theorem zAG:PO X none zFl:=by
 intro pins s σ H Q I h
 rw[evalPart_none]
 exact wpAny_pure ⟨none,H,I,.none,h⟩
theorem zAF(h:PE X e te):PO X (some e) (zH7 te):=by
 intro pins s σ H Q I hw
 rw[evalPart_some]
 refine thn (h pins s σ H _ I hw) λu s1 ⟨x,H1,I1,r1,q1⟩=>?_
 obtain⟨i,rfl,q⟩:=q1
 obtain⟨t,rfl⟩:=r1
 exact⟨some i,H1,I1,.int i t,q⟩
def SlR(X:Cx)(r:V->Option Int->Option Int->Hp->VK->Prop):Prop:=
 ∀(pins:List (Addr×Obj)) (s:Shared) (σ:St) (H:Hp) (x:V) (v vl vu:Value) (lo hi:Option Int) (sl:Addr) (Q:VK),Inv X pins σ H s->RelV x v->s.heap.IsSliceOf sl vl vu .none->IsPart vl lo->IsPart vu hi->r x lo hi H Q ->
  ∃T id,typeLookup (.type T) "__getitem__"=pure (some (.builtin id))/\s.TypeIs v T/\wpAny (model X.prog X.w) X.A (getItem v (.ref sl)) (EP X pins σ Q) X.xe s
theorem SlR.or{r r':V->Option Int->Option Int->Hp->VK->Prop}(h:SlR X r)(h':SlR X r'):SlR X (λx lo hi H Q=>r x lo hi H Q\/r' x lo hi H Q):=by
 intro pins s σ H x v vl vu lo hi sl Q I rx hs pl pu q
 rcases q with q|q
 ·exact h pins s σ H x v vl vu lo hi sl Q I rx hs pl pu q
 ·exact h' pins s σ H x v vl vu lo hi sl Q I rx hs pl pu q
def tSl(r:V->Option Int->Option Int->Hp->VK->Prop)(te:TE)(tl th:TO):TE:=λσ H Q=>te σ H λx H1=>tl σ H1 λl H2=>th σ H2 λu H3=>r x l u H3 Q
theorem zAa{r:V->Option Int->Option Int->Hp->VK->Prop}(hr:SlR X r)(he:PE X e te)(hl:PO X lo tl)(hu:PO X hi th):PE X (.Subscript e (.Slice lo hi none p2) pos) (tSl r te tl th):=by
 intro pins s σ H Q I h
 refine Subscript_ (thn (he pins s σ H _ I h) λv s1 ⟨x,H1,I1,r1,q1⟩=>?_)
 refine wpAny_Slice (thn (hl pins s1 σ H1 _ I1 q1) λvl s2 ⟨l,H2,I2,pl,q2⟩=>thn (hu pins s2 σ H2 _ I2 q2) λvu s3 ⟨u,H3,I3,pu,q3⟩=>?_)
 rw[evalPart_none]
 refine wpAny_pure ?_
 have I4:Inv X pins σ H3 {s3 with heap:=s3.heap.push {cls:=.type "slice",data:=.fields #[vl,vu,.none]}}:=I3.kept (t':=s3.toks) λb ob q=>Heap.get?_push_of_some _ q
 obtain⟨T,id,hT,ht,hg⟩:=hr pins {s3 with heap:=s3.heap.push {cls:=.type "slice",data:=.fields #[vl,vu,.none]}} σ H3 x v vl vu l u s3.heap.objs.size Q I4 r1 (Heap.IsSliceOf.new ..) pl pu q3
 show wpAny (model X.prog X.w) X.A (subscriptTail e (.Slice lo hi none p2) v (.ref s3.heap.objs.size)) (EP X pins σ Q) X.xe {s3 with heap:=s3.heap.push {cls:=.type "slice",data:=.fields #[vl,vu,.none]}}
 exact tail_any (ops:=[.ref s3.heap.objs.size,v]) ht hT hg (by with_unfolding_all rfl)
def fV(xs:List V)(lo hi:Option Int):List V:=(xs.drop (HT.sIx xs.length 0 lo)).take (HT.sIx xs.length xs.length hi-HT.sIx xs.length 0 lo)
theorem xX(xs:List V)(lo hi:Option Int):(fV xs lo hi).length<=xs.length:=by
 unfold fV
 rw[List.length_take,List.length_drop]
 omega
def zJj(K:W.Frag):V->Option Int->Option Int->Hp->VK->Prop:=λx lo hi H Q=>∃a xs,x=.ref a/\SqT K H a xs /\
 ¬ (HT.sIx xs.length 0 lo=0/\HT.sIx xs.length xs.length hi=xs.length)/\∀p,H p=none->Q (.ref p) (upd H p (.tup (fV xs lo hi)))
theorem zGF:SlR X (zJj X.K):=by
 intro pins s σ H x v vl vu lo hi sl Q I rx hs pl pu h
 obtain⟨a,xs,rfl,hx,hw,q⟩:=h
 cases rx
 obtain⟨its,r,ht,hz⟩:=I.tuple hx
 have hlen:its.toArray.size=xs.length:=by rw[List.size_toArray];exact r.length.symm
 refine⟨"tuple",_,PyProof.Rows.slot_tuple_getitem.lookup,ht.typeIs,?_⟩
 refine HT.getItem_tuple_cut ht hs pl pu (by rw[hlen];exact hw) ?_ (by rw[hlen];exact hz)
 rw[hlen]
 refine⟨.ref s.heap.objs.size,_,I.laid (t':=s.toks) (o:=.tup (fV xs lo hi)) (λb ob q=>Heap.get?_push_of_some _ q) (Nat.le_refl _) ?_,rfl,q _ (I.hok.fresh (Nat.le_refl _))⟩
 exact⟨Nat.le_trans (xX xs lo hi) hz,_,(r.drop (HT.sIx xs.length 0 lo)).take (HT.sIx xs.length xs.length hi-HT.sIx xs.length 0 lo),IsTup.new _ _⟩
def zIn(K:W.Frag):R2:=λx y H Q=>∃a b xs ys,x=.ref a/\y=.ref b/\SqT K H a xs/\SqT K H b ys/\xs≠[]/\xs.length+ys.length<=sizeLine /\
 (ys=[]->Q (.ref a) H)/\(ys≠[]->∀p,H p=none->Q (.ref p) (upd H p (.tup (xs++ys))))
theorem Vals.nil_iff{xs:List V}{us:List Value}(r:Vals xs us):us=[]↔xs=[]:=by
 cases r with
 |nil=>simp
 |cons _ _=>simp
theorem zFR:OpR X (binaryOp .Add) (zIn X.K):=by
 intro pins s σ H x y v u Q I rx ry h
 obtain⟨a,b,xs,ys,rfl,rfl,ha,hb,hx,hz,q1,q2⟩:=h
 cases rx
 cases ry
 obtain⟨its,r1,p1,_⟩:=I.tuple ha
 obtain⟨its2,r2,p2,_⟩:=I.tuple hb
 refine HT.cat_tup p1 p2 (λz=>hx (r1.nil_iff.mp z)) (λz=>⟨.ref a,H,I,rfl,q1 (r2.nil_iff.mp z)⟩) (λz=>?_) (by rw[<-r1.length,<-r2.length];exact hz)
 refine⟨.ref s.heap.objs.size,_,I.laid (t':=s.toks) (o:=.tup (xs++ys)) (λb ob q=>Heap.get?_push_of_some _ q) (Nat.le_refl _) ?_,rfl,q2 (λw=>z (r2.nil_iff.mpr w)) _ (I.hok.fresh (Nat.le_refl _))⟩
 exact⟨by rw[List.length_append];exact hz,_,r1.append r2,IsTup.new _ _⟩
end
end L2
namespace L2
open PySem PySem.Spec PyProof.Rows
def ixN(n:Nat)(i:Int):Option Nat:=if 0<=i then(if i<n then some i.toNat else none) else if -(n:Int)<=i then some (i+n).toNat else none
def atI{α:Type}(xs:List α)(i:Int):Option α:=(ixN xs.length i).bind λj=>xs[j]?
theorem zAU{n:Nat}{i:Int}{j:Nat}(h:ixN n i=some j):seqIndex? i n=some j/\j<n /\ -(n:Int)<=i/\i<n:=by
 unfold ixN at h
 by_cases h0:0<=i
 ·rw[if_pos h0]at h
  by_cases h1:i<n
  ·rw[if_pos h1]at h
   have e:i.toNat=j:=Option.some.inj h
   exact⟨by rw[seqIndex_of h0 h1,e],by omega,by omega,h1⟩
  ·rw[if_neg h1]at h;cases h
 ·rw[if_neg h0]at h
  by_cases h1:-(n:Int)<=i
  ·rw[if_pos h1]at h
   have e:(i+n).toNat=j:=Option.some.inj h
   exact⟨by rw[seqIndex_neg (by omega) h1,e],by omega,h1,by omega⟩
  ·rw[if_neg h1]at h;cases h
theorem uU{α:Type}{xs:List α}{i:Int}{v:α}(h:atI xs i=some v):∃j,seqIndex? i xs.length=some j/\xs[j]?=some v/\j<xs.length /\ -(xs.length:Int)<=i/\i<xs.length:=by
 unfold atI at h
 cases e:ixN xs.length i with
 |none=>rw[e]at h;cases h
 |some j=>
  rw[e]at h
  obtain⟨h1,h2,h3,h4⟩:=zAU e
  exact⟨j,h1,h,h2,h3,h4⟩
theorem aJ{α:Type}{xs:List α}{j:Nat}{v:α}(h:xs[j]?=some v):atI xs (j:Int)=some v:=by
 have hj:j<xs.length:=(List.getElem?_eq_some_iff.mp h).1
 have e:ixN xs.length (j:Int)=some j:=by
  unfold ixN
  rw[if_pos (by omega),if_pos (by omega)];simp
 unfold atI;rw[e];exact h
def pT(b:Expr):Prop:=∀o i,subscripted b false o i=operate [o,i] (getItem o i)
def IxR(X:Cx)(r:R2):Prop:=
 ∀(value slice:Expr) (pins:List (Addr×Obj)) (s:Shared) (σ:St) (H:Hp) (x y:V) (v u:Value) (Q:VK),Inv X pins σ H s->RelV x v->RelV y u->r x y H Q ->
  subscripted slice false v u=operate [v,u] (getItem v u)->wpAny (model X.prog X.w) X.A (subscriptTail value slice v u) (EP X pins σ Q) X.xe s
def MtR(X:Cx)(id:String)(r:V->List V->Hp->VK->Prop):Prop:=
 ∀(pins:List (Addr×Obj)) (s:Shared) (σ:St) (H:Hp) (x:V) (xs:List V) (v:Value) (us:List Value) (Q:VK),Inv X pins σ H s->RelV x v->Vals xs us->r x xs H Q ->
  wpAny (model X.prog X.w) X.A (call (.builtin id) (v::us)) (EP X pins σ Q) X.xe s
section
variable{X:Cx}{a b:Expr}{ta tb:TE}{pos:Pos}
theorem IxR.or{r r':R2}(h:IxR X r)(h':IxR X r'):IxR X (λx y H Q=>r x y H Q\/r' x y H Q):=by
 intro value slice pins s σ H x y v u Q I rx ry q hs
 rcases q with q|q
 ·exact h value slice pins s σ H x y v u Q I rx ry q hs
 ·exact h' value slice pins s σ H x y v u Q I rx ry q hs
theorem iL{r:R2}(hr:IxR X r)(ha:PE X a ta)(hb:PE X b tb)(hs:pT b):PE X (.Subscript a b pos) (tOp r ta tb):=by
 intro pins s σ H Q I h
 exact Subscript_ (wX ha hb I h λv u s2 x y H2 I2 rx ry q=>hr a b pins s2 σ H2 x y v u Q I2 rx ry q (hs _ _))
def zB6(K:W.Frag):R2:=λx y H Q=>∃p xs i v,x=.ref p/\y=.int i/\SqL K H p xs/\atI xs i=some v/\Q v H
def zB4(K:W.Frag):R2:=λx y H Q=>∃p xs i v,x=.ref p/\y=.int i/\SqT K H p xs/\atI xs i=some v/\Q v H
def zB5:R2:=λx y H Q=>∃z i c,x=.str z/\y=.int i/\z.length<=sizeLine/\atI z.cps.toList i=some c/\Q (.str ⟨#[c]⟩) H
theorem ix_list:IxR X (zB6 X.K):=by
 intro value slice pins s σ H x y v u Q I rx ry h hs
 obtain⟨p,xs,i,z,rfl,rfl,hq,he,q⟩:=h
 cases rx
 obtain⟨t,rfl⟩:=ry
 obtain⟨its,r,pl,hz⟩:=I.list hq
 obtain⟨j,h1,h2,h3,h4,h5⟩:=uU he
 obtain⟨w,ew,rw'⟩:=r.get h2
 have hl:=r.length
 have hn:=lV
 have fin:EP X pins σ Q w s:=⟨z,H,I,rw',q⟩
 by_cases h0:0<=i
 ·have hj:i.toNat=j:=by
   rw[seqIndex_of h0 h5]at h1
   exact Option.some.inj h1
  exact item_listR pl.isList h0 (by omega) (by rw[hj];simpa using ew) fin hs
 ·have hj:(i+(its.toArray.size:Int)).toNat=j:=by
   rw[seqIndex_neg (by omega) h4]at h1
   rw[List.size_toArray,<-hl]
   exact Option.some.inj h1
  exact subscriptTail_builtinR (x:=w) pl.isList.typeIs slot_list_getitem.lookup
   (wpAny_getItem_list_neg (Q:=λr s'=>r=w/\EP X pins σ Q r s') pl.isList (by omega) (by rw[List.size_toArray]<;>omega) (by omega) (by rw[hj];simpa using ew) ⟨rfl,fin⟩) hs
theorem ix_tup:IxR X (zB4 X.K):=by
 intro value slice pins s σ H x y v u Q I rx ry h hs
 obtain⟨p,xs,i,z,rfl,rfl,hq,he,q⟩:=h
 cases rx
 obtain⟨t,rfl⟩:=ry
 obtain⟨its,r,pl,hz⟩:=I.tuple hq
 obtain⟨j,h1,h2,h3,h4,h5⟩:=uU he
 obtain⟨w,ew,rw'⟩:=r.get h2
 have hl:=r.length
 have hn:=lV
 have fin:EP X pins σ Q w s:=⟨z,H,I,rw',q⟩
 exact subscriptTail_builtinR (x:=w) pl.typeIs slot_tuple_getitem.lookup
  (getItem_tuple (j:=j) (Q:=λr s'=>r=w/\EP X pins σ Q r s') pl (by omega) (by omega) (by rw[List.size_toArray,<-hl];exact h1) (by simpa using ew) ⟨rfl,fin⟩) hs
theorem zHB:IxR X zB5:=by
 intro value slice pins s σ H x y v u Q I rx ry h hs
 obtain⟨z,i,c,rfl,rfl,hz,he,q⟩:=h
 obtain⟨t,rfl⟩:=rx
 obtain⟨t',rfl⟩:=ry
 obtain⟨j,h1,h2,h3,h4,h5⟩:=uU he
 have hl:z.cps.toList.length=z.length:=by simp[Str.length]
 rw[hl]at h1 h4 h5
 have hn:=lV
 exact tail_any (typeIs_str s z t) slot_str_getitem.lookup (getItem_str (c:=c) (by
  have e1:decide (i < -(2 ^ 63:Int))=false:=decide_eq_false (by omega)
  have e2:decide (i>=2 ^ 63)=false:=decide_eq_false (by omega)
  rw[e1,e2,Bool.or_false]) (by rw[h1];simpa using h2) ⟨.str ⟨#[c]⟩,H,I.tok _,⟨_,rfl⟩,q⟩) hs
def rIx(K:W.Frag):R2:=λx y H Q=>zB6 K x y H Q\/zB4 K x y H Q\/zB5 x y H Q
theorem ix_seq:IxR X (rIx X.K):=ix_list.or (ix_tup.or zHB)
theorem zDe(its:List Value)(n j:Nat)(u:Value):Obj.mapSeq (·.setIfInBounds j u) {cls:=.type "list",data:=.seq its.toArray n}={cls:=.type "list",data:=.seq (its.set j u).toArray n}:=by
 simp[Obj.mapSeq]
theorem Inv.lst{pins:List (Addr×Obj)}{σ:St}{H:Hp}{s:Shared}{p:Addr}{xs:List V}(I:Inv X pins σ H s)(h:H p=some (.lst xs)):
  ∃(its:List Value) (n:Nat),Vals xs its/\s.heap.get? p=some {cls:=.type "list",data:=.seq its.toArray n}/\xs.length<=sizeLine:=by
 obtain⟨z,its,n,r,e⟩:=I.hok p _ h
 exact⟨its,n,r,e,z⟩
theorem Inv.lstUpd{pins:List (Addr×Obj)}{σ:St}{H:Hp}{s:Shared}{p:Addr}{xs ys:List V}{its its':List Value}{n n':Nat}{f:Obj->Obj}(I:Inv X pins σ H s)(h:H p=some (.lst xs))
  (ho:s.heap.get? p=some {cls:=.type "list",data:=.seq its.toArray n}) (hf:f {cls:=.type "list",data:=.seq its.toArray n}={cls:=.type "list",data:=.seq its'.toArray n'}) (r:Vals ys its') (hz:ys.length<=sizeLine) (t:Nat):
  Inv X pins σ (upd H p (.lst ys)) {s with heap:=s.heap.update p f,toks:=t}:=by
 have e:(s.heap.update p f).get? p=some {cls:=.type "list",data:=.seq its'.toArray n'}:=by
  rw[Heap.get?_update_self f ho (by rw[hf]<;>rfl),hf]
 refine I.write (x:=p) (e:=p) (by rw[h];trivial) (.inl rfl) (λb u hb q=>(Heap.get?_update_other _ _ (Ne.symm hb)).trans q) ⟨_,e⟩ ?_
 exact⟨hz,its',n',r,e⟩
def zIh:V->V->V->Hp->(Hp->Prop)->Prop:=λo i v H Q=>∃p xs k j,o=.ref p/\i=.int k/\H p=some (.lst xs)/\ixN xs.length k=some j/\Q (upd H p (.lst (xs.set j v)))
theorem zEw:zCp X zIh:=by
 intro pins s σ H o i v ov iv u Q I ro ri rv h
 obtain⟨p,xs,k,j,rfl,rfl,hp,hj,q⟩:=h
 cases ro
 obtain⟨t,rfl⟩:=ri
 obtain⟨its,n,r,ho,hz⟩:=I.lst hp
 obtain⟨h1,h2,h3,h4⟩:=zAU hj
 have hl:=r.length
 have hn:=lV
 have I':Inv X pins σ (upd H p (.lst (xs.set j v))) {s with heap:=s.heap.update p (Obj.mapSeq (·.setIfInBounds j u))}:=
  I.lstUpd hp ho (zDe its n j u) (r.set rv j) (by rw[List.length_set];exact hz) s.toks
 by_cases h0:0<=k
 ·have hk:k.toNat=j:=by
   rw[seqIndex_of h0 h4]at h1
   exact Option.some.inj h1
  exact PySem.W.ki_setAt ho h0 (by omega) (by rw[List.size_toArray,<-hl];exact h4) (by rw[hk];exact⟨_,I',q⟩)
 ·have hk:(k+(its.toArray.size:Int)).toNat=j:=by
   rw[seqIndex_neg (by omega) h3]at h1
   rw[List.size_toArray,<-hl]
   exact Option.some.inj h1
  exact PySem.W.ki_setBack ho (by omega) (by rw[List.size_toArray,<-hl];exact h3) (by omega) (by rw[hk];exact⟨_,I',q⟩)
theorem zCG(lo hi:Option Int)(n:Nat):(sliceBounds lo hi none n).1=((HT.sIx n 0 lo:Nat):Int)/\(sliceBounds lo hi none n).2.1=((HT.sIx n n hi:Nat):Int)/\(sliceBounds lo hi none n).2.2=1:=by
 refine⟨?_,?_,rfl⟩
 ·cases lo with
  |none=>simp[sliceBounds,HT.sIx]
  |some i=>
   simp only[sliceBounds,HT.sIx,Option.getD_none,show(1:Int) > 0 by decide,if_true]
   by_cases h:i<0
   ·simp only[h,if_true]<;>omega
   ·simp only[h,if_false]<;>omega
 ·cases hi with
  |none=>simp[sliceBounds,HT.sIx]
  |some i=>
   simp only[sliceBounds,HT.sIx,Option.getD_none,show(1:Int) > 0 by decide,if_true]
   by_cases h:i<0
   ·simp only[h,if_true]<;>omega
   ·simp only[h,if_false]<;>omega
theorem zCy(its:List Value)(lo hi:Option Int):slicePick its.toArray lo hi none=((its.drop (HT.sIx its.length 0 lo)).take (HT.sIx its.length its.length hi-HT.sIx its.length 0 lo)).toArray:=by
 obtain⟨h1,h2,h3⟩:=zCG lo hi its.toArray.size
 unfold slicePick
 rw[h1,h2,h3]
 simp only[sliceRange_one,pick_run,List.size_toArray]<;>rfl
def zJl(K:W.Frag):V->Option Int->Option Int->Hp->VK->Prop:=λx lo hi H Q=>∃a xs,x=.ref a/\SqL K H a xs/\∀p,H p=none->Q (.ref p) (upd H p (.lst (fV xs lo hi)))
theorem sl_list:SlR X (zJl X.K):=by
 intro pins s σ H x v vl vu lo hi sl Q I rx hs pl pu h
 obtain⟨a,xs,rfl,hx,q⟩:=h
 cases rx
 obtain⟨its,r,ht,hz⟩:=I.list hx
 have hlen:=r.length
 refine⟨"list",_,slot_list_getitem.lookup,ht.isList.typeIs,?_⟩
 refine wpAny_getItem_list_slice ht.isList hs pl pu .none (by simp) ?_ (by rw[List.size_toArray]<;>omega)
 rw[zCy,<-hlen]
 refine⟨.ref s.heap.objs.size,_,I.laid (t':=s.toks) (o:=.lst (fV xs lo hi)) (λb ob q=>Heap.get?_push_of_some _ q) (Nat.le_refl _) ?_,rfl,q _ (I.hok.fresh (Nat.le_refl _))⟩
 exact⟨Nat.le_trans (xX xs lo hi) hz,_,0,(r.drop (HT.sIx xs.length 0 lo)).take (HT.sIx xs.length xs.length hi-HT.sIx xs.length 0 lo),Heap.get?_push_size _ rfl⟩
def dB:V->Bool
 |.non=>true
 |.bl _=>true
 |.int _=>true
 |.str _=>true
 |_=>false
def eqV:V->V->Bool
 |.non,.non=>true
 |.bl a,.bl b=>a==b
 |.bl a,.int b=>(if a then 1 else 0)==b
 |.int a,.bl b=>a==(if b then 1 else 0)
 |.int a,.int b=>a==b
 |.str a,.str b=>a==b
 |_,_=>false
theorem zBA{A:Around}{s:Shared}{y x:V}{u v:Value}(ry:RelV y u)(rx:RelV x v)(fy:dB y=true)(fx:dB x=true):SeqAt.EqAt A s u v (eqV y x):=by
 cases y with
 |non=>
  cases ry
  cases x with
  |non=>cases rx;exact SeqAt.EqAt.same _
  |bl b=>cases rx;exact SeqAt.EqAt.none_bool b
  |int b=>obtain⟨t,rfl⟩:=rx;exact SeqAt.EqAt.none_int b t
  |str b=>obtain⟨t,rfl⟩:=rx;exact SeqAt.EqAt.none_str b t
  |_=>exact absurd (show false=true from fx) Bool.false_ne_true
 |bl a=>
  cases ry
  cases x with
  |non=>cases rx;exact SeqAt.EqAt.bool_none a
  |bl b=>cases rx;exact SeqAt.EqAt.bool_bool a b
  |int b=>obtain⟨t,rfl⟩:=rx;exact SeqAt.EqAt.bool_int a b t
  |str b=>obtain⟨t,rfl⟩:=rx;exact SeqAt.EqAt.bool_str a b t
  |_=>exact absurd (show false=true from fx) Bool.false_ne_true
 |int a=>
  obtain⟨t',rfl⟩:=ry
  cases x with
  |non=>cases rx;exact SeqAt.EqAt.int_none a t'
  |bl b=>cases rx;exact SeqAt.EqAt.int_bool a t' b
  |int b=>obtain⟨t,rfl⟩:=rx;exact SeqAt.EqAt.int_int a t' b t
  |str b=>obtain⟨t,rfl⟩:=rx;exact SeqAt.EqAt.int_str a t' b t
  |_=>exact absurd (show false=true from fx) Bool.false_ne_true
 |str a=>
  obtain⟨t',rfl⟩:=ry
  cases x with
  |non=>cases rx;exact SeqAt.EqAt.str_none a t'
  |bl b=>cases rx;exact SeqAt.EqAt.str_bool a t' b
  |int b=>obtain⟨t,rfl⟩:=rx;exact SeqAt.EqAt.str_int a t' b t
  |str b=>obtain⟨t,rfl⟩:=rx;exact SeqAt.EqAt.str_str a t' b t
  |_=>exact absurd (show false=true from fx) Bool.false_ne_true
 |_=>exact absurd (show false=true from fy) Bool.false_ne_true
theorem op_notIn_str:OpR X (compareOp .NotIn) (λx y H Q=>∃i j,x=.str i/\y=.str j/\Q (.bl (!(!(Builtin.Str.occurrences j i 0 j.length 1).isEmpty))) H):=by
 intro pins s σ H x y v u Q I rx ry h
 obtain⟨i,j,rfl,rfl,q⟩:=h
 obtain⟨t,rfl⟩:=rx
 obtain⟨t',rfl⟩:=ry
 exact notIn_str ⟨.bl _,H,I,rfl,q⟩
theorem call_len_seq:CallR X (.builtin "len") (λxs H Q=>∃p ys,xs=[.ref p]/\(SqL X.K H p ys\/SqT X.K H p ys)/\Q (.int ys.length) H):=by
 intro pins s σ H xs us Q I r h
 obtain⟨p,ys,rfl,hq,q⟩:=h
 obtain⟨u,rfl,rx⟩:=cX r
 cases rx
 have hn:=lV
 rcases hq with hq|hq
 ·obtain⟨its,r',pl,hz⟩:=I.list hq
  have hlen:=r'.length
  exact Calls.call_len_list pl.isList (by simp only[List.size_toArray]<;>omega) ⟨.int ys.length,H,I.tok _,⟨s.toks+1,by rw[List.size_toArray,hlen]⟩,q⟩
 ·obtain⟨its,r',pl,hz⟩:=I.tuple hq
  have hlen:=r'.length
  exact len_tuple pl (by simp only[List.size_toArray]<;>omega) ⟨.int ys.length,H,I.tok _,⟨s.toks+1,by rw[List.size_toArray,hlen]⟩,q⟩
theorem call_len_str:CallR X (.builtin "len") (λxs H Q=>∃z,xs=[.str z]/\z.length<=sizeLine/\Q (.int z.length) H):=by
 intro pins s σ H xs us Q I r h
 obtain⟨z,rfl,hz,q⟩:=h
 obtain⟨u,rfl,t,rfl⟩:=cX r
 have hn:=lV
 exact len_str (by omega) ⟨.int z.length,H,I.tok _,⟨_,rfl⟩,q⟩
theorem CallR.or{f:Value}{r r':List V->Hp->VK->Prop}(h:CallR X f r)(h':CallR X f r'):CallR X f (λxs H Q=>r xs H Q\/r' xs H Q):=by
 intro pins s σ H xs us Q I rs q
 rcases q with q|q
 ·exact h pins s σ H xs us Q I rs q
 ·exact h' pins s σ H xs us Q I rs q
theorem xN:CallR X (.type "list") (λxs H Q=>∃p ys,xs=[.ref p]/\(SqL X.K H p ys\/SqT X.K H p ys)/\∀l,H l=none->Q (.ref l) (upd H l (.lst ys))):=by
 intro pins s σ H xs us Q I r h
 obtain⟨p,ys,rfl,hq,q⟩:=h
 obtain⟨u,rfl,rx⟩:=cX r
 cases rx
 have fin:∀(its:List Value),Vals ys its->ys.length<=sizeLine->∀(h':Heap) (c':Nat),(∀b o',s.heap.get? b=some o'->h'.get? b=some o') ->
   h'.get? s.heap.objs.size=some {cls:=.type "list",dict:=none,data:=.seq its.toArray c',slots:=#[]}->EP X pins σ Q (.ref s.heap.objs.size) {s with heap:=h'}:=λits r' hz h' c' kp e=>
  ⟨.ref s.heap.objs.size,_,I.laid (t':=s.toks) kp (Nat.le_refl _) (show ObjOk X.prog X.w _ h' _ (.lst ys) from ⟨hz,its,c',r',e⟩),rfl,q _ (I.hok.fresh (Nat.le_refl _))⟩
 rcases hq with hq|hq
 ·obtain⟨its,r',pl,hz⟩:=I.list hq
  have hlen:=r'.length
  obtain⟨o,ho,hc,n,hd⟩:=pl.isList
  exact call_list_seq p (.inl rfl) ho hc hd (λh' c' kp e=>fin its r' hz h' c' kp e) (by simp only[List.size_toArray]<;>omega)
 ·obtain⟨its,r',pl,hz⟩:=I.tuple hq
  have hlen:=r'.length
  obtain⟨o,ho,hc,n,hd⟩:=pl
  exact call_list_seq p (.inr rfl) ho hc hd (λh' c' kp e=>fin its r' hz h' c' kp e) (by simp only[List.size_toArray]<;>omega)
theorem zCC:CallR X (.type "tuple") (λxs H Q=>∃p ys,xs=[.ref p]/\((SqL X.K H p ys/\∀l,H l=none->Q (.ref l) (upd H l (.tup ys)))\/(SqT X.K H p ys/\Q (.ref p) H))):=by
 intro pins s σ H xs us Q I r h
 obtain⟨p,ys,rfl,h⟩:=h
 obtain⟨u,rfl,rx⟩:=cX r
 cases rx
 rcases h with⟨hq,q⟩|⟨hq,q⟩
 ·obtain⟨its,r',pl,hz⟩:=I.list hq
  have hlen:=r'.length
  refine call_tuple_list pl.isList (λh' kp=>?_) (by simp only[List.size_toArray]<;>omega)
  have I1:Inv X pins σ H {s with heap:=h'}:=I.kept (t':=s.toks) kp
  have I2:Inv X pins σ (upd H h'.objs.size (.tup ys)) {s with heap:=h'.push {cls:=.type "tuple",data:=.seq its.toArray}}:=
   I1.laid (t':=s.toks) (λb o e=>Heap.get?_push_of_some _ e) (Nat.le_refl _) (show ObjOk X.prog X.w _ _ _ (.tup ys) from ⟨hz,its,r',IsTup.new _ _⟩)
  exact⟨.ref h'.objs.size,_,I2,rfl,q _ (I1.hok.fresh (Nat.le_refl _))⟩
 ·obtain⟨its,r',pl,hz⟩:=I.tuple hq
  exact call_tuple_same pl ⟨.ref p,H,I,rfl,q⟩
def tyV(K:W.Frag)(T:String)(x:V)(H:Hp):Prop:=match x with
 |.str _=>T="str"
 |.int _=>T="int"
 |.ref p=>(T="list"/\∃xs,SqL K H p xs)\/(T="tuple"/\∃o,K.lookup p=some o/\o.cls=.type "tuple"/\o.dict=none) \/
   (T="dict"/\((∃kvs,H p=some (.dK kvs))\/∃kvs,H p=some (.dT kvs)))\/(T="set"/\∃S n,H p=some (.set S n))
 |_=>False
theorem zBd{pins:List (Addr×Obj)}{σ:St}{H:Hp}{s:Shared}{T:String}{x:V}{v:Value}(I:Inv X pins σ H s)(r:RelV x v)(ty:tyV X.K T x H):
  s.TypeIs v T/\∀a,v=.ref a->∃ob,s.heap.get? a=some ob/\ob.dict=none:=by
 cases x with
 |str z=>
  obtain⟨t,rfl⟩:=r
  cases (show T="str" from ty)
  exact⟨typeIs_str s z t,λ_ e=>nomatch e⟩
 |int i=>
  obtain⟨t,rfl⟩:=r
  cases (show T="int" from ty)
  exact⟨typeIs_int s i t,λ_ e=>nomatch e⟩
 |ref p=>
  cases r
  rcases ty with⟨rfl,xs,hq⟩|⟨rfl,o,hk,hc,hd⟩|⟨rfl,hk⟩|⟨rfl,S,n,hk⟩
  ·obtain⟨its,_,pl,_⟩:=I.list hq
   refine⟨pl.isList.typeIs,λa e=>?_⟩
   cases e
   obtain⟨o,n,e,c,hd,_⟩:=pl
   exact⟨o,e,hd⟩
  ·refine⟨⟨o,I.kIn p o hk,hc⟩,λa e=>?_⟩
   cases e
   exact⟨o,I.kIn _ o hk,hd⟩
  ·have z:∃o,s.heap.get? p=some o/\o.ExactDict:=by
    rcases hk with⟨kvs,hk⟩|⟨kvs,hk⟩
    ·obtain⟨_,_,_,_,o,_,_,e,ex,_⟩:=I.hok p _ hk
     exact⟨o,e,ex⟩
    ·obtain⟨_,_,_,_,o,_,_,e,ex,_⟩:=I.hok p _ hk
     exact⟨o,e,ex⟩
   obtain⟨o,e,ex⟩:=z
   refine⟨⟨o,e,ex.1⟩,λa e2=>?_⟩
   cases e2
   exact⟨o,e,ex.2.1⟩
  ·obtain⟨o,_,_,_,e,ex,_⟩:=I.hok p _ hk
   refine⟨⟨o,e,ex.1⟩,λa e2=>?_⟩
   cases e2
   exact⟨o,e,ex.2.1⟩
 |_=>exact False.elim ty
def zJe(K:W.Frag)(T:String)(r:V->List V->Hp->VK->Prop)(to:TE):TE:=λσ H Q=>to σ H λx H1=>tyV K T x H1/\r x [] H1 Q
def tBM(K:W.Frag)(T:String)(r:V->List V->Hp->VK->Prop)(to:TE)(t:TA):TE:=λσ H Q=>to σ H λx H1=>tyV K T x H1/\t σ H1 λxs H2=>r x xs H2 Q
variable{o e:Expr}{es:List Expr}{to:TE}{t:TA}{name:Str}{apos cpos:Pos}{T id:String}{r:V->List V->Hp->VK->Prop}
theorem zHe(pa:PlainAttrs T)(slot:Slot T name id)(hty:typeOf (.builtin id)=pure (.type "method_descriptor"))(hm:MtR X id r)(ho:PE X o to)
  (hbase:attributeBase o name X.env (eval o X.env)=eval o X.env:=by rfl) (hline:(apos.endLine==cpos.line)=true:=by rfl):PE X (.Call (.Attribute o name apos) [] [] cpos) (zJe X.K T r to):=by
 intro pins s σ H Q I h
 refine wpAny_Call_method0_late hbase hline (thn (ho pins s σ H _ I h) λv s1 ⟨x,H1,I1,r1,ty,q1⟩=>?_)
 obtain⟨h1,h2⟩:=zBd I1 r1 ty
 exact⟨T,id,pa,slot,hty,h1,h2,Calls.callWith_builtin rfl (PySem.evalArgs_none (hm pins s1 σ H1 x [] v [] Q I1 r1 .nil q1))⟩
theorem qM(pa:PlainAttrs T)(slot:Slot T name id)(hty:typeOf (.builtin id)=pure (.type "method_descriptor"))(hm:MtR X id r)(ho:PE X o to)(ha:PA X (e::es) t)
  (hbase:attributeBase o name X.env (eval o X.env)=eval o X.env:=by rfl)
  (hfew:((backTo cpos (starEach (e::es) X.env)).all (λx=>!x.1)&&(backToKw cpos (keywordEach [] X.env)).all (λx=>x.1.isSome)
   && decide ((e::es).length+([]:List Keyword).length+(if ([]:List Keyword).isEmpty then 0 else 1)<30))=true:=by rfl)
  (hline:(apos.endLine==cpos.line)=true:=by rfl) (hs:starEach (e::es) X.env=(false,eval e X.env)::starEach es X.env:=by rfl) (hplain:(backTo cpos (starEach es X.env)).any (·.1)=false:=by rfl):
  PE X (.Call (.Attribute o name apos) (e::es) [] cpos) (tBM X.K T r to t):=by
 intro pins s σ H Q I h
 refine wpAny_Call_method_late hbase hfew hline rfl (thn (ho pins s σ H _ I h) λv s1 ⟨x,H1,I1,r1,ty,q1⟩=>?_)
 obtain⟨h1,h2⟩:=zBd I1 r1 ty
 refine⟨T,id,pa,slot,hty,h1,h2,?_⟩
 have hA:=ha cpos pins s1 σ H1 _ I1 q1
 rw[hs]at hA ⊢
 refine Calls.callWith_builtin (by show(false || (backTo cpos (starEach es X.env)).any (·.1))=false;rw[hplain]<;>rfl) (Calls.evalArgs_plain ?_)
 exact thn hA λus s2 ⟨vs,H2,I2,r2,q2⟩=>hm pins s2 σ H2 x vs v us Q I2 r1 r2 q2
end
end L2
namespace L2
open PySem PySem.Spec PyProof.Rows
def MtM(X:Cx)(id:String)(r:V->List V->Hp->VK->Prop):Prop:=
 ∀(pins:List (Addr×Obj)) (s:Shared) (σ:St) (H:Hp) (x:V) (xs:List V) (v:Value) (us:List Value) (Q:VK),Inv X pins σ H s->RelV x v->Vals xs us->r x xs H Q ->
  wpAny (model X.prog X.w) X.A (call (.builtin id) (v::us)) (EP X pins σ Q) X.xe s
theorem Vals.one:∀{x:V}{us:List Value},Vals [x] us->∃u,us=[u]/\RelV x u
 |_,_,.cons r .nil=>⟨_,rfl,r⟩
theorem Vals.zero:∀{us:List Value},Vals [] us->us=[]
 |_,.nil=>rfl
theorem Vals.dropLast{xs:List V}{us:List Value}(h:Vals xs us):Vals xs.dropLast us.dropLast:=by
 induction h with
 |nil=>exact .nil
 |cons r t ih=>
  cases t with
  |nil=>exact .nil
  |cons q t'=>exact .cons r ih
theorem Vals.eraseIdx:∀{xs:List V}{us:List Value}(i:Nat),Vals xs us->Vals (xs.eraseIdx i) (us.eraseIdx i)
 |_,_,_,.nil=>.nil
 |_,_,0,.cons _ t=>t
 |_,_,i+1,.cons r t=>.cons r (Vals.eraseIdx i t)
theorem Vals.reverse{xs:List V}{us:List Value}(h:Vals xs us):Vals xs.reverse us.reverse:=by
 induction h with
 |nil=>exact .nil
 |cons r t ih=>rw[List.reverse_cons,List.reverse_cons];exact Vals.append ih (.cons r .nil)
theorem Vals.rep{xs:List V}{us:List Value}(h:Vals xs us):∀k:Nat,Vals (List.replicate k xs).flatten (List.replicate k us).flatten
 |0=>.nil
 |k+1=>by
  rw[List.replicate_succ,List.replicate_succ,List.flatten_cons,List.flatten_cons]
  exact Vals.append h (Vals.rep h k)
theorem zDg{α:Type}(l:List α):l.eraseIdx (l.length-1)=l.dropLast:=by
 induction l with
 |nil=>rfl
 |cons a r ih=>
  cases r with
  |nil=>rfl
  |cons b r=>
   have e:(a::b::r).length-1=((b::r).length-1)+1:=by
    have h1:(a::b::r).length=r.length+2:=rfl
    have h2:(b::r).length=r.length+1:=rfl
    omega
   rw[e,List.eraseIdx_cons_succ,ih]
   all_goals rfl
theorem yX{α:Type}:∀(l:List α) (i:Nat),(l.eraseIdx i).length<=l.length
 |[],_=>Nat.le_refl _
 |_::_,0=>Nat.le_succ _
 |_::r,i+1=>Nat.succ_le_succ (yX r i)
theorem zB(its:List Value):∀(k:Nat) (acc:List Value),
  List.foldl (λx1 x2=>x1++x2) acc.toArray (List.replicate k its.toArray)=(acc++(List.replicate k its).flatten).toArray
 |0,acc=>by simp
 |k+1,acc=>by
  have e:acc.toArray++its.toArray=(acc++its).toArray:=by simp
  have e2:(acc++its)++(List.replicate k its).flatten=acc++(List.replicate (k+1) its).flatten:=by
   rw[List.replicate_succ,List.flatten_cons,List.append_assoc]
  rw[<-e2,<-zB its k (acc++its),<-e,List.replicate_succ,List.foldl_cons]
section
variable{X:Cx}{pins:List (Addr×Obj)}{σ:St}{H:Hp}{s:Shared}{l b:Addr}{xs ys zs:List V}
theorem Inv.lset{its its':List Value}{n:Nat}{f:Array Value->Array Value}{t':Nat}(I:Inv X pins σ H s)(hH:H l=some (.lst xs))
  (e:s.heap.get? l=some {cls:=.type "list",data:=.seq its.toArray n}) (hf:f its.toArray=its'.toArray) (hv:Vals ys its') (hz:ys.length<=sizeLine):
  Inv X pins σ (upd H l (.lst ys)) {s with heap:=s.heap.update l (Obj.mapSeq f),toks:=t'}:=by
 have q:=PySem.IsL.update e f
 rw[hf]at q
 refine I.write (x:=l) (e:=l) (by rw[hH];exact trivial) (.inl rfl) (λb' u hb hu=>(Heap.get?_update_other s.heap (Obj.mapSeq f) (Ne.symm hb)).trans hu) ⟨_,q⟩ ?_
 exact⟨hz,its',_,hv,q⟩
theorem Inv.lnew{its:List Value}{t':Nat}(I:Inv X pins σ H s)(hv:Vals ys its)(hz:ys.length<=sizeLine):
  Inv X pins σ (upd H s.heap.objs.size (.lst ys)) {s with heap:=s.heap.push {cls:=.type "list",data:=.seq its.toArray},toks:=t'}:=
 I.laid (λ_ _ q=>Heap.get?_push_of_some _ q) (Nat.le_refl _) ⟨hz,its,0,hv,Heap.get?_push_size _ rfl⟩
theorem Inv.fresh(I:Inv X pins σ H s):H s.heap.objs.size=none:=I.hok.fresh (Nat.le_refl _)
theorem Inv.lstM(I:Inv X pins σ H s)(hH:H l=some (.lst xs)):xs.length<=sizeLine/\∃(its:List Value) (n:Nat),Vals xs its/\xs.length=its.length/\s.heap.get? l=some {cls:=.type "list",data:=.seq its.toArray n}:=by
 obtain⟨z,its,n,r,e⟩:=I.hok l _ hH
 exact⟨z,its,n,r,r.length,e⟩
theorem zEO{n:Nat}(h:n<=sizeLine):Builtin.List.listTooLong n=false:=by
 unfold Builtin.List.listTooLong
 exact decide_eq_false (by omega)
end
section
variable{X:Cx}
def zFw:V->List V->Hp->VK->Prop:=λx vs H Q=>∃l xs y,x=.ref l/\vs=[y]/\H l=some (.lst xs)/\xs.length<sizeLine/\Q .non (upd H l (.lst (xs++[y])))
theorem pF:MtM X "list.append" zFw:=by
 intro pins s σ H x vs v us Q I rx rv h
 obtain⟨l,xs,y,rfl,rfl,hH,hz,q⟩:=h
 cases rx
 obtain⟨u,rfl,ru⟩:=rv.one
 obtain⟨z,its,n,r,hl,e⟩:=I.lstM hH
 refine call_meets F.slot_list_append ⟨_,e,rfl⟩ F.entry_list_append (F.args_list_append_2 _ _) (PySem.list_append l its.toArray n u (by rw[List.size_toArray];omega)) ⟨e,?_⟩
 refine⟨.non,_,I.lset (its':=its++[u]) hH e (by simp) (r.append (.cons ru .nil)) ?_,rfl,q⟩
 rw[List.length_append,List.length_singleton]
 omega
def zJm:V->List V->Hp->VK->Prop:=λx vs H Q=>∃l xs y,x=.ref l/\vs=[]/\H l=some (.lst xs)/\xs[xs.length-1]?=some y/\Q y (upd H l (.lst xs.dropLast))
theorem zHt:MtM X "list.pop" zJm:=by
 intro pins s σ H x vs v us Q I rx rv h
 obtain⟨l,xs,y,rfl,rfl,hH,hy,q⟩:=h
 cases rx
 have hus:=rv.zero
 subst hus
 obtain⟨z,its,n,r,hl,e⟩:=I.lstM hH
 obtain⟨u,hu,ru⟩:=r.get hy
 have hy':its.toArray[its.toArray.size-1]?=some u:=by
  show its.toArray[its.length-1]?=some u
  rw[<-Array.getElem?_toList,<-hl]
  exact hu
 refine call_meets F.slot_list_pop ⟨_,e,rfl⟩ F.entry_list_pop (F.args_list_pop_1 _) (MeetsSeq.list_pop_last l its.toArray n u hy' (by rw[List.size_toArray];omega)) ⟨e,?_⟩
 refine⟨y,_,I.lset (its':=its.dropLast) hH e ?_ r.dropLast ?_,ru,q⟩
 ·show its.toArray.eraseIdxIfInBounds (its.toArray.size-1)=its.dropLast.toArray
  rw[List.size_toArray,List.eraseIdxIfInBounds_toArray,zDg]
 ·rw[List.length_dropLast]
  omega
def zGS:V->List V->Hp->VK->Prop:=λx vs H Q=>∃l xs i k y,x=.ref l/\vs=[.int i]/\H l=some (.lst xs) /\ -(2 ^ 63)<=i/\i<2 ^ 63/\seqIndex? i xs.length=some k/\xs[k]?=some y/\Q y (upd H l (.lst (xs.eraseIdx k)))
theorem zEP:MtM X "list.pop" zGS:=by
 intro pins s σ H x vs v us Q I rx rv h
 obtain⟨l,xs,i,k,y,rfl,rfl,hH,h1,h2,hk,hy,q⟩:=h
 cases rx
 obtain⟨u,rfl,ru⟩:=rv.one
 obtain⟨t,rfl⟩:=ru
 obtain⟨z,its,n,r,hl,e⟩:=I.lstM hH
 obtain⟨w,hw,rw'⟩:=r.get hy
 refine call_meets F.slot_list_pop ⟨_,e,rfl⟩ F.entry_list_pop (F.args_list_pop_2 _ _)
  (MeetsSeq.list_pop_at l its.toArray n i t k w (fitsIndex_both h1 h2) (by rw[List.size_toArray,<-hl];exact hk) (by rw[<-Array.getElem?_toList];exact hw) (by rw[List.size_toArray];omega)) ⟨e,?_⟩
 refine⟨y,_,I.lset (its':=its.eraseIdx k) hH e ?_ (r.eraseIdx k) ?_,rw',q⟩
 ·show its.toArray.eraseIdxIfInBounds k=(its.eraseIdx k).toArray
  rw[List.eraseIdxIfInBounds_toArray]
 ·have:=yX xs k
  omega
theorem uN{α:Type}(xs:List α)(k:Nat):(List.replicate k xs).flatten.length=k*xs.length:=by
 induction k with
 |zero=>simp
 |succ k ih=>rw[List.replicate_succ,List.flatten_cons,List.length_append,ih,Nat.succ_mul,Nat.add_comm]
end
end L2
namespace Att
open PySem PySem.W PySem.Calls PyProof.Rows
theorem zCr{P:Params}{h:Heap}:∀(ns:List Int) (vs:List Value),WellAll P h vs (ns.map WData.int)->IntsAre vs ns:=by
 intro ns
 induction ns with
 |nil=>
  intro vs w
  rw[List.map_nil]at w
  cases w
  exact .nil
 |cons n ns ih=>
  intro vs w
  rw[List.map_cons]at w
  cases w with
  |cons a b=>
   cases a
   exact .cons _ _ (ih _ b)
theorem zDE{l:OpenLaw}{n:Nat}(hn:l.most=some n){P:Params}{h:Heap}{args:List WData}{vals:List Value}
  (hpre:l.row.toRowW.claim.pre args=true) (hwl:WellAll P h vals args):
  ∃a vs ns,vals=[Value.ref a]/\args=[WData.list (ns.map WData.int)]/\h.get? a=some {cls:=.type "list",data:=.seq vs.toArray}/\IntsAre vs ns/\ns.length<=n:=by
 have hsh:WShape.hasAll [] args [.list .int]=true:=(pre_splitW hpre).1
 have hc:l.pre.holds [] {args:=args}=true:=(pre_splitW hpre).2
 obtain⟨d,r,rfl,h1,h2⟩:=hasAllW_cons hsh
 obtain rfl:=hasAllW_nil h2
 obtain⟨xs,rfl,h3⟩:=hasW_list h1
 obtain⟨ns,rfl⟩:=items_int h3
 have hlen:ns.length<=n:=by
  unfold OpenLaw.pre at hc
  have h4:(WTm.not (.lt (.lit (.int (n:Int))) (.len (.arg 0)))).holds [] {args:=[.list (ns.map .int)]}=true:=by
   have h4:=(holds_andW hc).1
   rw[hn]at h4
   exact h4
  have h5:=condW_of h4 (w_not (w_lt w_lit (w_len_list (w_arg rfl))))
  rw[List.length_map]at h5
  refine Nat.le_of_not_lt λq=>?_
  have q':(n:Int)<((ns.length:Nat):Int):=by omega
  first
   |(rw[decide_eq_true q']at h5;exact absurd h5 (by decide))
   |(simp at h5;omega)
 cases hwl with
 |cons w1 w2=>
  cases w2
  cases w1 with
  |list ho hall=>exact⟨_,_,ns,rfl,rfl,ho,zCr ns _ hall,hlen⟩
theorem zDJ(l:OpenLaw)(args:List WData):l.row.toRowW.claim.post args (.bool true) args=true:=
 postW_of (r:=l.row.toRowW) (X:=(true==true))
  (show WShape.has [] (.bool true) .bool=true by first|rfl|decide|simp[WShape.has,WShape.arms,WShape.armsAll])
  (show(WTm.eq .res (.lit (.bool true))).value [] {args:=args,res:=some (.bool true),after:=args}=some (.bool (true==true)) from w_eq_bool (w_res rfl) w_lit) rfl
theorem attach_call{l:OpenLaw}{n:Nat}{q:Program}{loose:List Str}{XP:(Str->Option Value)->Heap->Prop}{YP:World->Heap->Prop}{d:DefRec}
  (hn:l.most=some n) (hdf:d.params.defaults=[])
  (call:∀(w:World) (s₀ s₁:Shared) (mg mb:Str->Option Value) (fa:Addr) (o:Obj) (pm cd doc:Value) (a:Addr) (vs:List Value) (ns:List Int),
   Ground q loose [] XP w s₀ mg mb s₁.heap->YP w s₁.heap ->
   s₁.heap.get? fa=some o->o.data=.func (docDef d.name d.params d.body d.scope pm cd doc)->s₁.heap.CodeRec cd d.name->mg d.name=some (.ref fa) ->
   s₁.heap.get? a=some {cls:=.type "list",data:=.seq vs.toArray}->IntsAre vs ns->ns.length<=n->s₁.gens=#[] ->
   codeAny (model l.prog w) callerA (.call (.ref fa) ⟨[.ref a],[]⟩) (λr s'=>r=.ok (.ret (.bool true))/\OldK s₁.heap s'.heap/\s'.os=s₁.os/\AllBare s'.gens) s₁):
  WalkO q loose XP YP l.row.toRowW d [] (λf vs=>PySem.call f vs):=by
 intro w s₀ s₁ mg mb G Y fa o pm cd doc dV kV ho hd hcd hD hmg hg args vals as hpre hlay hrd hwl hlo
 obtain rfl:dV=.none:=Dflts.none hD hdf
 obtain rfl:kV=.none:=Dflts.noKw hD
 obtain⟨a,vs,ns,rfl,rfl,hobj,hints,hlen⟩:=zDE hn hpre hwl
 refine enter_call (codeAny_mono (call w s₀ s₁ mg mb fa o pm cd doc a vs ns G Y ho (fd_plain hd) hcd hmg hobj hints hlen hg) λr s' hq=>?_)
 obtain⟨rfl,h2,h3,h4⟩:=hq
 exact⟨.inl ⟨.bool true,.bool true,[],rfl,λ_=>rfl,.bool true,zDJ l _,λ_=>⟨List.Pairwise.nil,λ_ hm=>(nomatch hm)⟩⟩,h2,h3,h4⟩
end Att
namespace L2
open PySem PySem.Spec PyProof.Rows
theorem yM:∀{vs:List Value}{ns:List Int},IntsAre vs ns->Vals (ns.map V.int) vs
 |_,_,.nil=>.nil
 |_,_,.cons n t h=>.cons ⟨t,rfl⟩ (yM h)
def xB(H:Hp):Prop:=∀b,H b=none\/∃o xs,H b=some (.frz o (.lst xs))
theorem zEV{P:Program}{w:World}{K:W.Frag}{mg mb:Str->Option Value}{CX:CXT}{k:Nat}{fa a:Addr}{fd:FuncData}{x:Str}{sp:Sp}{s₁:Shared}{vs:List Value}{ns:List Int}
  (KX:K.In s₁.heap) (hns:s₁.heap.Ns mainGlobals mg) (hb:s₁.heap.Ns builtinsNs mb) (hbb:∀x:Str,x≠"__name__"->mb x=bootBuiltins x) (hlim:s₁.heap.NoLimit) (hg:s₁.gens=#[])
  (ha:s₁.heap.get? a=some {cls:=.type "list",data:=.seq vs.toArray}) (hi:IntsAre vs ns) (hl:ns.length<=sizeLine) (hr:Room k callerA)
  (F:∀base:Heap,K.In base->base.Ns mainGlobals mg->FnOk P w K mg base CX k fa fd [x] sp) (hbind:∀(s:Shared) (u:Value),BindsTo s fd ⟨[u],[]⟩ [(x,u)])
  (hsp:∀H:Hp,xB H->SqL K H a (ns.map V.int)->sp [.ref a] H (λv _=>v=.bl true) λ_ _ _=>False)
  (hCX:∀H e s',CX [] H s₁ (λ_ _ _=>False) e s'->False):
  codeAny (model P w) callerA (.call (.ref fa) ⟨[.ref a],[]⟩) (λr s'=>r=.ok (.ret (.bool true))/\OldK s₁.heap s'.heap/\s'.os=s₁.os/\AllBare s'.gens) s₁:=by
 have rv:=yM hi
 have lenV:=hi.length
 -- from an abstract heap in which nothing but the script may be tracked
 have core:∀H:Hp,xB H->SqL K H a (ns.map V.int)->HOk P w H s₁.heap->(∀b,H b≠none->b=a)->(H a≠none->K.lookup a=none) ->
   codeAny (model P w) callerA (.call (.ref fa) ⟨[.ref a],[]⟩) (λr s'=>r=.ok (.ret (.bool true))/\OldK s₁.heap s'.heap/\s'.os=s₁.os/\AllBare s'.gens) s₁:=by
  intro H hO hS hok hA hK
  have base_of:∀{b:Addr} {o:Obj},s₁.heap.get? b=some o->H b=none->(iR s₁.heap H).get? b=some o:=λe n=>zE0 e n
  have noA:∀{b:Addr} {o:Obj} {es:Array DictEntry} {ep:Nat},s₁.heap.get? b=some o->o.data=.dict es ep->H b=none:=λ{b o es ep} e d=>by
   cases q:H b with
   |none=>rfl
   |some u=>
    have e':b=a:=hA b (by rw[q];simp)
    subst e'
    rw[ha]at e;cases e
    have d':Data.seq vs.toArray _=Data.dict es ep:=d
    cases d'
  have nsK:∀{b:Addr} {m:Str->Option Value},s₁.heap.Ns b m->(iR s₁.heap H).Ns b m:=λ{b m} ⟨o,es,ep,e,d,r⟩=>⟨o,es,ep,base_of e (noA e d),d,r⟩
  have hKb:K.In (iR s₁.heap H):=λb o e=>base_of (KX b o e) (by
   cases q:H b with
   |none=>rfl
   |some u=>
    have e':b=a:=hA b (by rw[q];simp)
    subst e'
    rw[hK (by rw[q];simp)]at e;cases e)
  have hM:Mod K mg (iR s₁.heap H):=⟨hKb,nsK hns,⟨mb,nsK hb,hbb⟩,let ⟨mc,h1,h2⟩:=hlim;⟨mc,nsK h1,h2⟩⟩
  have e0:rY P w K mg (iR s₁.heap H) callerA [] s₁ H:=⟨rfl,hM,λb o e=>zFU e,Nat.le_of_eq (zD3 _ _),trivial,λb hb=>absurd (show b∈([]:List Addr) from hb) (by simp),hok,.of_eq hg⟩
  refine codeAny_mono ((F _ hKb (nsK hns)).run callerA [] s₁ H ⟨[.ref a],[]⟩ [.ref a] [.ref a] _ _ hr e0 (hbind s₁ (.ref a)) (.cons rfl .nil) (hsp H hO hS)) λr s' h=>?_
  cases r with
  |error e=>exact(hCX H e s' h).elim
  |ok fl=>
   cases fl with
   |next=>exact False.elim h
   |brk=>exact False.elim h
   |cont=>exact False.elim h
   |ret u=>
    obtain⟨v,H',os,bare,un,hok',r',q⟩:=h
    have q':v=.bl true:=q
    subst q'
    obtain rfl:u=Value.bool true:=r'
    refine⟨rfl,OldK.of_keep λb o e=>?_,os,bare⟩
    cases q:H b with
    |none=>exact un.keep b o e q (by intro z;exact absurd (show b∈([]:List Addr) from z) (by simp)) (by simp)
    |some u=>
     rcases hO b with z|⟨ob,xs,z⟩
     ·rw[q]at z;cases z
     ·have z2:=un.frzs b ob _ z
      obtain⟨e1,_⟩:=hok b _ z
      obtain⟨e2,_⟩:=hok' b _ z2
      rw[e]at e1;cases e1
      exact e2
 cases hk:K.lookup a with
 |some o=>
  -- the script is one of the module's own objects
  have e:=KX a o hk
  rw[ha]at e
  cases e
  refine core (λ_=>none) (λ_=>.inl rfl) (.inr ⟨_,vs.toArray,_,hk,rfl,rfl,rfl,by rw[List.size_toArray,lenV];exact hl,by simpa using rv⟩) (λb u z=>by have z':(none:Option HO)=some u:=z;cases z') (λb z=>absurd rfl z) λz=>absurd rfl z
 |none=>
  refine core (λb=>if b=a then some (.frz {cls:=.type "list",data:=.seq vs.toArray} (.lst (ns.map V.int))) else none) (λb=>?_) (.inl (.inr ⟨{cls:=.type "list",data:=.seq vs.toArray},if_pos rfl⟩)) (λb u z=>?_) (λb z=>?_) λ_=>hk
  ·by_cases hb:b=a
   ·exact .inr ⟨_,_,if_pos hb⟩
   ·exact .inl (if_neg hb)
  ·by_cases hb:b=a
   ·have z':=(if_pos hb).symm.trans z
    cases z'
    subst hb
    exact⟨ha,by rw[List.length_map];exact hl,vs,_,rv,ha⟩
   ·have z':=(if_neg hb).symm.trans z
    cases z'
  ·by_cases hb:b=a
   ·exact hb
   ·exact absurd (if_neg hb) z
end L2
namespace L2
open PySem PySem.Spec PyProof.Rows
theorem walk_of{l:W.OpenLaw}{n k:Nat}{q:Program}{loose:List Str}{XP:(Str->Option Value)->Heap->Prop}{YP:World->Heap->Prop}{d:DefRec}{K:Params->W.Frag}{CX:World->CXT}{sp:World->Sp}{x:Str}
  (hn:l.most=some n) (hn2:n<=sizeLine) (hdf:d.params.defaults=[]) (hr:Room k callerA)
  (hY:∀(w:World) (h:Heap),YP w h->(K w.params).In h)
  (F:∀(w:World) (mg:Str->Option Value) (fa:Addr) (h:Heap),(K w.params).In h->h.Ns mainGlobals mg->mg d.name=some (.ref fa) ->
   ∃fd:FuncData,(∀(s:Shared) (u:Value),BindsTo s fd ⟨[u],[]⟩ [(x,u)]) /\
    ∀base:Heap,(K w.params).In base->base.Ns mainGlobals mg->FnOk l.prog w (K w.params) mg base (CX w) k fa fd [x] (sp w))
  (hsp:∀(w:World) (H:Hp) (a:Addr) (ns:List Int),ns.length<=n->xB H->SqL (K w.params) H a (ns.map V.int)->sp w [.ref a] H (λv _=>v=.bl true) λ_ _ _=>False)
  (hCX:∀(w:World) (H:Hp) (s:Shared) (e:Value) (s':Shared),CX w [] H s (λ_ _ _=>False) e s'->False):
  PySem.W.WalkO q loose XP YP l.row.toRowW d [] (λf vs=>PySem.call f vs):=by
 refine Att.attach_call hn hdf λw s₀ s₁ mg mb fa o pm cd doc a vs ns G Y ho hd hcd hmg hobj hints hlen hg=>?_
 have KX:=hY w _ Y
 obtain⟨fd,hb,hF⟩:=F w mg fa _ KX G.T.g hmg
 exact zEV KX G.T.g G.T.b G.T.builtins G.T.nolimit hg hobj hints (Nat.le_trans hlen hn2) hr hF hb (λH hO hS=>hsp w H a ns hlen hO hS) λH e s'=>hCX w H s₁ e s'
end L2
namespace L2
open PySem PySem.Spec PyProof.Rows
def gK(s:Stmt):Arguments:=match s with
 |.FunctionDef _ a _ _ _ _ _ _ _ _=>a
 |_=>{posonlyargs:=[],args:=[],vararg:=none,kwonlyargs:=[],kw_defaults:=[],kwarg:=none,defaults:=[]}
def fG(s:Stmt):List Stmt:=match s with
 |.FunctionDef _ _ b _ _ _ _ _ _ _=>b
 |_=>[]
def aL(s:Stmt):Scope:=match s with
 |.FunctionDef _ _ _ _ _ _ sc _ _ _=>sc
 |_=>{kind:=.function,names:=[],isGenerator:=false,isCoroutine:=false}
abbrev CX0:CXT:=λ_ _ _ _ _ _=>False
abbrev E0:XK:=λ_ _ _=>False
theorem zBN{X:Cx}:qG CX0 X E0:=λ_ _ _ _ _ _ _ h=>h.elim
structure Fun (K:W.Frag) (x qual:Str) (st:Stmt) (f:Addr) (fd:FuncData):Prop where
 ex:∃(oc:Value) (od:Option Addr) (kV doc pm:Value) (an:Option Addr) (cdv ct:Value) (osl:Array (Option Value)),
  fd=W.fnOf x qual (gK st) (fG st) (aL st) .none kV doc pm an cdv ct/\K.lookup f=some ⟨oc,od,.func fd,osl⟩/\W.codeIn K cdv qual=true
 kp:W.keepIn K (.ref f)=true
section
variable{P:Program}{w:World}{K:W.Frag}{mg:Str->Option Value}{base:Heap}
theorem Fun.ok{x qual:Str}{st:Stmt}{f:Addr}{fd:FuncData}{N ps:List Str}{k:Nat}{sp:Sp}(F:Fun K x qual st f fd)(S:bE N ps (aL st))(len:∀vs H Q E,sp vs H Q E->vs.length=ps.length)
  (hbody:∀(cdv:Value) (A:Around) (outer:List Env) (s:Shared) (H:Hp) (vs:List V) (Q:VK) (E:XK),Room k (A.deeper (envOfC qual (aL st) s.heap.objs.size f cdv))->sp vs H Q E ->
   ∃t,PSs (jL CX0 P w K mg base N qual (aL st) f cdv A outer s H E).nox (fG st) t/\t {nx:=λ_ H'=>Q .non H',rt:=Q} (dS N vs) H):FnOk P w K mg base CX0 (k+1) f fd ps sp:=by
 obtain⟨oc,od,kV,doc,pm,an,cdv,ct,osl,rfl,lk,hcd⟩:=F.ex
 refine zIO lk hcd S len λA outer s H vs Q E hr hsp=>?_
 obtain⟨t,h,q⟩:=hbody cdv A outer s H vs Q E hr hsp
 exact⟨t,h.nox,q⟩
theorem Fun.binds{x qual:Str}{st:Stmt}{f:Addr}{fd:FuncData}{ps:List Str}(F:Fun K x qual st f fd)
  (h:∀(kV doc pm:Value) (an:Option Addr) (cdv ct:Value) (us:List Value),us.length=ps.length->bindArgs (W.fnOf x qual (gK st) (fG st) (aL st) .none kV doc pm an cdv ct) ⟨us,[]⟩=pure (ps.zip us)):Binds K fd ps []:=by
 obtain⟨oc,od,kV,doc,pm,an,cdv,ct,osl,rfl,lk,hcd⟩:=F.ex
 exact .all (h kV doc pm an cdv ct)
theorem zBx{x qual:Str}{st:Stmt}{f:Addr}{oc:Value}{od an:Option Addr}{osl:Array (Option Value)}{kV doc pm cdv ct:Value}(l:K.lookup f=some ⟨oc,od,.func (W.fnOf x qual (gK st) (fG st) (aL st) .none kV doc pm an cdv ct),osl⟩)
  (c:W.codeIn K cdv qual=true) (k:W.keepIn K (.ref f)=true):Fun K x qual st f (W.fnOf x qual (gK st) (fG st) (aL st) .none kV doc pm an cdv ct):=⟨⟨oc,od,kV,doc,pm,an,cdv,ct,osl,rfl,l,c⟩,k⟩
end
theorem zIM{A:Around}{k:Nat}(hr:Room k A):A.units+1<cLine:=Nat.lt_of_le_of_lt (Nat.add_le_add_left (by decide:1<=64) _) hr.units
theorem zDy{n:Nat}(h:n<=1000):n<sizeLine:=Nat.lt_of_le_of_lt h (by decide)
section
variable{X:Cx}
theorem pv(i:Nat){x:Str}{pos:Pos}(hN:X.N[i]?=some x:=by rfl)(hv:Vis X.env.scope x:=by first|exact Or.inl rfl|exact Or.inr (Or.inl rfl)|exact Or.inr (Or.inr rfl))(hd:(x==("__debug__":Str))=false:=by decide)
  (hcd:(x==("__classdict__":Str))=false:=by decide):PE X (.Name x pos) (zB2 i):=nL hN hv hd hcd
end
theorem aV{A B:Prop}(h:B):if false=true then A else B:=by
 rw[if_neg Bool.false_ne_true]
 exact h
theorem bH{A B:Prop}(h:A):if true=true then A else B:=by
 rw[if_pos rfl]
 exact h
theorem zJC{c A B:Prop}[Decidable c](h1:c->A)(h2:¬ c->B):if c then A else B:=by
 by_cases h:c
 ·rw[if_pos h]
  exact h1 h
 ·rw[if_neg h]
  exact h2 h
def Same(H H':Hp):Prop:=∀b o,H b=some o->H' b=some o
theorem Same.refl(H:Hp):Same H H:=λ_ _ h=>h
theorem Same.trans{H H1 H2:Hp}(a:Same H H1)(b:Same H1 H2):Same H H2:=λc o h=>b c o (a c o h)
theorem Same.free{H H':Hp}(e:Same H H'){l:Addr}(h:H' l=Option.none):H l=Option.none:=by
 cases q:H l with
 |none=>rfl
 |some o=>
  rw[e l o q]at h
  cases h
end L2
namespace L2
open PySem PySem.Spec PyProof.Rows
theorem sE{env:Env}:∀(names:List (Str×NameKind)) (acc:List (Str×Addr)),(∀y∈names,y.2=.free->∃c,env.cells.lookup y.1=some c) ->
  ∃cl,(forIn names acc (λ(x:Str×NameKind) (cs:List (Str×Addr))=>if (x.2==NameKind.free)=true then(do let c <- cellOf env x.1;pure (ForInStep.yield ((x.1,c)::cs))) else pure (ForInStep.yield cs)):Sem (List (Str×Addr)))=pure cl /\
   (∀x c,cl.lookup x=some c->env.cells.lookup x=some c\/acc.lookup x=some c)/\(∀x c,acc.lookup x=some c->∃c',cl.lookup x=some c')/\∀y∈names,y.2=.free->∃c,cl.lookup y.1=some c
 |[],acc,_=>⟨acc,rfl,λ_ _ h=>.inr h,λ_ c h=>⟨c,h⟩,λ_ h=>nomatch h⟩
 |(n,k)::r,acc,h=>by
  rw[List.forIn_cons]
  by_cases hk:k=.free
  ·subst hk
   obtain⟨c,hc⟩:=h (n,.free) List.mem_cons_self rfl
   obtain⟨cl,h1,h2,h3,h4⟩:=sE r ((n,c)::acc) λy hy=>h y (List.mem_cons_of_mem _ hy)
   refine⟨cl,?_,λx d e=>?_,λx d e=>?_,λy hy e=>?_⟩
   ·have e1:cellOf env n=pure c:=by unfold cellOf;rw[hc]
    simp only[beq_self_eq_true,if_true,e1,pure_bind]
    exact h1
   ·rcases h2 x d e with z|z
    ·exact .inl z
    ·rw[List.lookup_cons]at z
     split at z
     ·rename_i hx
      cases z
      have:x=n:=eq_of_beq hx
      subst this
      exact .inl hc
     ·exact .inr z
   ·refine h3 x (if x==n then c else d) ?_
    rw[List.lookup_cons]
    cases hx:x==n with
    |true=>simp[hx]
    |false=>simp[hx,e]
   ·rcases List.mem_cons.mp hy with z|z
    ·subst z
     exact h3 n c (by simp[List.lookup_cons])
    ·exact h4 y z e
  ·have hb:(k==NameKind.free)=false:=by simpa using hk
   obtain⟨cl,h1,h2,h3,h4⟩:=sE r acc λy hy=>h y (List.mem_cons_of_mem _ hy)
   refine⟨cl,?_,h2,h3,λy hy e=>?_⟩
   ·simp only[hb,Bool.false_eq_true,if_false,pure_bind]
    exact h1
   ·rcases List.mem_cons.mp hy with z|z
    ·subst z
     exact absurd e hk
    ·exact h4 y z e
theorem sM{scope:Scope}{env:Env}(h:∀y∈scope.names,y.2=.free->∃c,env.cells.lookup y.1=some c):
  ∃cl,closureFor scope env=pure cl/\(∀x c,cl.lookup x=some c->env.cells.lookup x=some c)/\∀y∈scope.names,y.2=.free->∃c,cl.lookup y.1=some c:=by
 obtain⟨cl,h1,h2,h3,h4⟩:=sE scope.names [] h
 refine⟨cl,?_,λx c e=>(h2 x c e).elim id λz=>(by cases z),h4⟩
 unfold closureFor
 refine Eq.trans ?_ h1
 refine Eq.trans (bind_pure _) ?_
 rfl
theorem sB{env:Env}:∀{names:List (Str×NameKind)}{x:Str},names.lookup x=some .free ->
  (names.map λ(n,k)=>if (k==NameKind.free&&env.scope.kind==.function&&env.kindOf n==some .cell) then(n,NameKind.cell) else(n,k)).lookup x=some .cell \/
  (names.map λ(n,k)=>if (k==NameKind.free&&env.scope.kind==.function&&env.kindOf n==some .cell) then(n,NameKind.cell) else(n,k)).lookup x=some .free
 |[],_,h=>by simp at h
 |(n,k)::r,x,h=>by
  have ih:=@sB env r x
  show List.lookup x ((if (k==NameKind.free&&env.scope.kind==.function&&env.kindOf n==some .cell)=true then(n,NameKind.cell) else(n,k))::_)=_\/List.lookup x ((if (k==NameKind.free&&env.scope.kind==.function&&env.kindOf n==some .cell)=true then(n,NameKind.cell) else(n,k))::_)=_
  by_cases hc:(k==NameKind.free&&env.scope.kind==.function&&env.kindOf n==some .cell)=true
  ·rw[if_pos hc]
   cases hx:x==n with
   |true=>simp only[List.lookup_cons,hx];exact .inl trivial
   |false=>
    simp only[List.lookup_cons,hx]at h ⊢
    exact ih h
  ·rw[if_neg hc]
   cases hx:x==n with
   |true=>
    simp only[List.lookup_cons,hx]at h ⊢
    exact .inr h
   |false=>
    simp only[List.lookup_cons,hx]at h ⊢
    exact ih h
theorem xU{env:Env}{names:List (Str×NameKind)}(hn:∀y∈names,y.2≠.cell){x:Str}{k:NameKind}(hk:k=.cell\/k=.free)
  (h:(names.map λ(n,k)=>if (k==NameKind.free&&env.scope.kind==.function&&env.kindOf n==some .cell) then(n,NameKind.cell) else(n,k)).lookup x=some k):(x,NameKind.free)∈names:=by
 obtain⟨⟨n,k'⟩,hm,e⟩:=List.mem_map.mp (PySem.mem_of_lookup h)
 simp only at e
 split at e
 ·rename_i hc
  rw[Bool.and_eq_true,Bool.and_eq_true]at hc
  have:k'=.free:=eq_of_beq hc.1.1
  subst this
  injection e with e1 _
  subst e1
  exact hm
 ·injection e with e1 e2
  subst e1 e2
  rcases hk with z|z
  ·exact absurd z (hn _ hm)
  ·subst z;exact hm
def cD(X:Cx)(N:List Str)(scope:Scope)(cl:List (Str×Addr))(C:Addr)(fp:List Addr)(s:Shared)(H:Hp):Cx where
 prog:=X.prog
 w:=X.w
 K:=X.K
 mg:=X.mg
 base:=X.base
 A:=X.A
 N:=N
 s₀:=s
 H₀:=H
 env:=compEnvC scope cl C X.env
 outer:=X.stack
 stack:=X.stack
 ex:=fp
 fn:=λ_=>false
 calm:=X.calm
 pn:=[]
 xe:=λ_ _=>False
structure kO (sc:Scope) (XN N:List Str) (own:Nat) (fr:List Nat) (scope:Scope):Prop where
 kind:scope.kind=.function
 nocell:∀y∈scope.names,y.2≠.cell
 free:∀y∈scope.names,y.2=.free->sc.names.lookup y.1=some .cell\/sc.names.lookup y.1=some .free
 loc:∀y∈scope.names,y.2=.local->scope.names.lookup y.1=some .local
 names:N.drop own=fr.filterMap λi=>XN[i]?
 frl:∀i∈fr,i<XN.length
 len:own<=N.length
 vis:∀x∈N.drop own,scope.names.lookup x=some .free
def σf(fr:List Nat)(σ:St):St:=fr.map λi=>σ.getD i none
def σc(own:Nat)(fr:List Nat)(σ:St):St:=List.replicate own none++σf fr σ
section
variable{X:Cx}{pins:List (Addr×Obj)}{σ:St}{H:Hp}{s:Shared}{N:List Str}{own:Nat}{fr:List Nat}{scope:Scope}
theorem sD{XN:List Str}:∀{fr:List Nat},(∀i∈fr,i<XN.length)->∀(j:Nat),(fr.filterMap λi=>XN[i]?)[j]?=(fr[j]?).bind λi=>XN[i]?
 |[],_,j=>by simp
 |i::r,h,j=>by
  have hi:i<XN.length:=h i List.mem_cons_self
  rw[List.filterMap_cons,List.getElem?_eq_getElem hi]
  cases j with
  |zero=>simp[hi]
  |succ j=>simpa using sD (λk hk=>h k (List.mem_cons_of_mem _ hk)) j
theorem zEZ{cl:List (Str×Addr)}{fp:List Addr}{h':Heap}(I:Inv X pins σ H s)(S:kO X.env.scope X.N N own fr scope)(hcl:∀x c,cl.lookup x=some c->X.env.cells.lookup x=some c)
  (hcf:∀y∈scope.names,y.2=.free->∃c,cl.lookup y.1=some c) (hfp:∀b∈fp,dD X pins H b) (hfo:∀b∈fp,∃o,s.heap.get? b=some o)
  (hns:h'.Ns s.heap.objs.size λ_=>none) (hk:∀b o,s.heap.get? b=some o->h'.get? b=some o):
  Inv (cD X N scope cl s.heap.objs.size fp s H) [] (σc own fr σ) H {s with heap:=h'}:=by
 have kindE:∀x,(Env.kindOf (compEnvC scope cl s.heap.objs.size X.env) x)=(relabel scope X.env).names.lookup x:=λx=>rfl
 have memF:∀x,(Env.kindOf (compEnvC scope cl s.heap.objs.size X.env) x=some .cell\/Env.kindOf (compEnvC scope cl s.heap.objs.size X.env) x=some .free)->(x,NameKind.free)∈scope.names:=λx hx=>by
  rcases hx with z|z
  ·exact xU (env:=X.env) S.nocell (.inl rfl) z
  ·exact xU (env:=X.env) S.nocell (.inr rfl) z
 refine⟨⟨I.ok.mod,S.kind,I.ok.glob,I.ok.blt,Nat.le_refl _,λx y c h1 h2=>I.ok.inj x y c (hcl x c h1) (hcl y c h2),λx hx=>hcf (x,.free) (memF x hx) rfl,λx c h=>absurd (show false=true from h) (by decide),I.ok.hd,I.ok.frames,.inl rfl,λb hb=>?_,I.bs,Nat.le_trans I.ok.bsz I.sz,λb o e hb=>?_,λb hb z=>?_,I.stack,I.stkFree⟩,
  rfl,I.bare,Un.kept hk,⟨_,hns,λi x v e1 e2 e3=>?_⟩,λx c e=>?_,I.hok.fresh (Nat.le_refl _),λx c e=>I.freeC x c (hcl x c e),λp hp=>absurd (show p∈([]:List (Addr×Obj)) from hp) (by simp),I.hok.kept hk,?_⟩
 ·obtain⟨o,ho⟩:=hfo b hb
  exact⟨Nat.ne_of_lt (Heap.lt_size ho),λx c e=>(hfp b hb).2.2.2.2.1 x c (hcl x c e)⟩
 ·rcases (hfp b hb).2.2.2.1 with z|z
  ·exact I.ok.noex b o e z
  ·exact absurd (Nat.lt_of_lt_of_le (Heap.lt_size (I.ok.bs b o e).1) z) (Nat.lt_irrefl _)
 ·rcases List.mem_cons.mp (I.stkSub b z) with q|q
  ·exact(hfp b hb).2.1 q
  ·exact(hfp b hb).2.2.1 q
 ·have hi:own<=i:=by
   rcases Nat.lt_or_ge i own with z|z
   ·have e2':(σc own fr σ)[i]?=some (some v):=e2
    unfold σc at e2'
    rw[List.getElem?_append_left (by simpa using z),List.getElem?_replicate]at e2'
    split at e2'<;>cases e2'
   ·exact z
  have e2':(σf fr σ)[i-own]?=some (some v):=by
   have e2':(σc own fr σ)[i]?=some (some v):=e2
   unfold σc at e2'
   rw[List.getElem?_append_right (by simpa using hi)]at e2'
   simpa using e2'
  have e1':(N.drop own)[i-own]?=some x:=by
   have e1':N[i]?=some x:=e1
   rw[List.getElem?_drop]
   rw[show own+(i-own)=i by omega]
   exact e1'
  have hv:scope.names.lookup x=some .free:=S.vis x (List.mem_of_getElem? e1')
  have hx:X.env.scope.names.lookup x=some .cell\/X.env.scope.names.lookup x=some .free:=S.free (x,.free) (PySem.mem_of_lookup hv) rfl
  rw[S.names,sD S.frl]at e1'
  unfold σf at e2'
  rw[List.getElem?_map]at e2'
  cases q:fr[i-own]? with
  |none=>rw[q]at e2';cases e2'
  |some j=>
   rw[q]at e1' e2'
   have e1'':X.N[j]?=some x:=e1'
   have e2'':σ.getD j none=some v:=Option.some.inj e2'
   have e3':σ[j]?=some (some v):=by
    rw[List.getD_eq_getElem?_getD]at e2''
    cases z:σ[j]? with
    |none=>rw[z]at e2'';cases e2''
    |some y=>rw[z]at e2'';exact congrArg some e2''
   obtain⟨m,hn,hl⟩:=I.loc
   obtain⟨u,r,l⟩:=hl j x v e1'' e3' (.inr hx)
   refine⟨u,r,.inr ⟨sB (env:=X.env) hv,?_⟩⟩
   rcases l with⟨k,_⟩|⟨_,c,hc,z⟩
   ·have k':X.env.scope.names.lookup x=some .local:=k
    rw[k']at hx
    rcases hx with z|z<;>cases z
   ·obtain⟨c',hc'⟩:=hcf (x,.free) (PySem.mem_of_lookup hv) rfl
    have:=hcl x c' hc'
    rw[hc]at this
    cases this
    exact⟨c,hc',z.keeps hk⟩
 ·obtain⟨v,z⟩:=I.cell x c (hcl x c e)
  exact⟨v,z.keeps hk⟩
 ·show(σc own fr σ).length=N.length
  unfold σc σf
  have h1:=congrArg List.length S.names
  have h2:(fr.filterMap λi=>X.N[i]?).length=fr.length:=by
   have:∀(l:List Nat),(∀i∈l,i<X.N.length)->(l.filterMap λi=>X.N[i]?).length=l.length:=by
    intro l
    induction l with
    |nil=>intro _;rfl
    |cons i r ih=>
     intro h
     rw[List.filterMap_cons,List.getElem?_eq_getElem (h i List.mem_cons_self)]
     simp[ih λk hk=>h k (List.mem_cons_of_mem _ hk)]
   exact this fr S.frl
  rw[List.length_drop,h2]at h1
  rw[List.length_append,List.length_replicate,List.length_map]
  have:=S.len
  omega
end
section
variable{prog:Program}{w:World}{A:Around}{R:Result->Shared->Prop}{s:Shared}
theorem xL{elt target iter:Expr}{ifs:List Expr}{scope:Scope}{pos:Pos}{it acc:Value}{env:Env}(I:Nat->Shared->Prop)
  (turn:∀n s,I n s->wpAny (model prog w) A (pyNext it) (λr s₁=>match r with
   |none=>R (.ok .next) s₁
   |some v=>wpAny (model prog w) A (letOwnedTupleGo target it v) (λ_ s'=>wpAny (model prog w) A (assign target env v) (λ_ s₂=>
     wpAny (model prog w) A (forIn ifs true λc r=>if r=true then do let ok <- isTrue c env (eval c env);pure (ForInStep.yield ok) else pure (ForInStep.yield r)) (λok s₃=>
      if ok=true then wpAny (model prog w) A (eval elt env) (λx s₄=>
       wpAny (model prog w) A (call (.builtin "list.append") [acc,x]) (λ_ s₅=>∃m,m<n/\I m s₅) (λ_ _=>False) s₄) (λ_ _=>False) s₃
      else ∃m,m<n/\I m s₃) (λ_ _=>False) s₂) (λ_ _=>False) s') (λ_ _=>False) s₁) (λ_ _=>False) s)
  (n:Nat) (h:I n s):codeAny (model prog w) A (.compLoop (.ListComp elt [⟨target,iter,ifs,0⟩] scope pos) 0 it acc env) R s:=by
 refine codeAny_loop rfl I (λn s hI=>?_) n h
 show wpAny _ A ((compTurn (.ListComp elt [⟨target,iter,ifs,0⟩] scope pos) 0 it acc env).onRaise (λx=>do noteFrame x env;theTreesLotGoes x)) _ _ s
 refine wpAny_noted ?_
 rw[compTurn_list]
 refine wpAny_bind (wpAny_standAt (wpAny_bind (wpAny_mono (turn n s hI) (λr s₁ h₁=>?_) λ_ _ z=>False.elim z)))
 cases r with
 |none=>exact wpAny_pure h₁
 |some v=>
  refine wpAny_bind (wpAny_mono h₁ (λ_ s' h'=>?_) λ_ _ z=>False.elim z)
  refine wpAny_bind (wpAny_mono h' (λ_ s₂ h₂=>wpAny_bind (wpAny_mono h₂ (λok s₃ h₃=>?_) λ_ _ z=>False.elim z)) λ_ _ z=>False.elim z)
  cases ok with
  |false=>exact wpAny_pure ⟨rfl,h₃⟩
  |true=>
   exact wpAny_bind (wpAny_bind (wpAny_mono h₃ (λx s₄ h₄=>wpAny_bind (wpAny_mono h₄ (λ_ s₅ h₅=>wpAny_pure (wpAny_pure ⟨rfl,h₅⟩)) λ_ _ z=>False.elim z)) λ_ _ z=>False.elim z))
end
def vX(J:It)(a:Addr)(own:Nat)(fr:List Nat)(g:TG)(tf:TT)(te:TE)(σ:St)(H1:Hp)(Q:VK):Prop:=
 ∃(n:Nat) (Pv:Nat->List V->Hp->Prop),Pv 0 [] (upd H1 a (.lst []))/\∀i ys H2,i<=n->H2 a=some (.lst ys)->Pv i ys H2 ->
  (J.stop i H2/\Q (.ref a) H2)\/(i<n/\J.go i H2/\∀x H3,J.yld i H2 x H3->g x (σc own fr σ) H3 λσ4 H4=>(∃ow,ow.length=own/\σ4=ow++σf fr σ)/\tf σ4 H4 λb H5=>
   if b=true then te σ4 H5 λy H6=>H6 a=some (.lst ys)/\ys.length<sizeLine/\Pv (i+1) (ys++[y]) (upd H6 a (.lst (ys++[y])))
   else H5 a=some (.lst ys)/\Pv (i+1) ys H5)
def PFs(X:Cx)(ifs:List Expr)(t:TT):Prop:=
 ∀(pins:List (Addr×Obj)) (s:Shared) (σ:St) (H:Hp) (Q:Bool->Hp->Prop),Inv X pins σ H s->t σ H Q ->
  wpAny (model X.prog X.w) X.A (forIn ifs true λc r=>if r=true then do let ok <- isTrue c X.env (eval c X.env);pure (ForInStep.yield ok) else pure (ForInStep.yield r)) (TP X pins σ Q) X.xe s
def zH8:TT:=λ_ H Q=>Q true H
theorem zG8{X:Cx}:PFs X [] zH8:=λpins s σ H Q I h=>wpAny_tests_nil ⟨H,I,h⟩
theorem zG7{X:Cx}{c:Expr}{t:TT}(h:PT X c t):PFs X [c] t:=λpins s σ H Q I hw=>wpAny_tests_one (h pins s σ H Q I hw)
section
variable{X:Cx}{pins:List (Addr×Obj)}{σ:St}{H:Hp}{s:Shared}{N:List Str}{own:Nat}{fr:List Nat}{scope:Scope}{cl:List (Str×Addr)}{elt tg iter:Expr}{ifs:List Expr}{pos:Pos}
 {it:Addr} {fp:List Addr} {tn:Nat->Heap->Prop} {J:It} {g:TG} {tf:TT} {te:TE} {Q:VK} {E:Value->Shared->Prop}
theorem yI{RR:Value->Addr->Result->Shared->Prop}(hc:X.calm=true)(S:kO X.env.scope X.N N own fr scope)(hcl:∀x c,cl.lookup x=some c->X.env.cells.lookup x=some c)
  (hcf:∀y∈scope.names,y.2=.free->∃c,cl.lookup y.1=some c)
  (hg:∀C s H,PG (cD X N scope cl C fp s H) tg g) (hf:∀C s H,PFs (cD X N scope cl C fp s H) ifs tf) (he:∀C s H,PE (cD X N scope cl C fp s H) elt te)
  (I:Inv X pins σ H s) (T:fW X.prog X.w X.K tg J fp it tn) (st:tn 0 s.heap) (hfp:∀b∈fp,dD X pins H b) (hw:∀a,H a=none->vX J a own fr g tf te σ H Q)
  (hRR:∀a C s' H',Inv X pins σ H' s'->Q (.ref a) H'->dD X pins H' C->(∃m,s'.heap.Ns C m)->RR (.ref a) C (.ok .next) s'):
  wpAny (model X.prog X.w) X.A (newList []) (λacc s₃=>wpAny (model X.prog X.w) X.A (newFunctionEnv scope X.env.globals cl [] X.env.qual none .none (some X.env)) (λcenv s₄=>
   codeAny (model X.prog X.w) X.A (.compStart (.ListComp elt [⟨tg,iter,ifs,0⟩] scope pos) 0 (.ref it) acc {cenv with scope:=relabel scope X.env}) (RR acc cenv.locals) s₄) E s₃) E s:=by
 refine wpAny_newObj_type (wpAny_newFunctionEnv S.nocell (by intro y hy;simp at hy) (λh₁ hns₁ hsb₁=>?_) S.kind)
 dsimp only at hns₁ hsb₁ ⊢
 have I3:Inv X pins σ (upd H s.heap.objs.size (.lst [])) {s with heap:=s.heap.push {cls:=.type "list",dict:=none,data:=.seq ([]:List Value).toArray}}:=I.lnew (ys:=[]) (t':=s.toks) .nil (Nat.zero_le _)
 have hfo:∀b∈fp,∃o,s.heap.get? b=some o:=λb hb=>let ⟨o,ho,_⟩:=T.obj _ _ st b hb;⟨o,ho⟩
 have hlt:∀b∈fp,b<s.heap.objs.size:=λb hb=>let ⟨o,ho⟩:=hfo b hb;Heap.lt_size ho
 have fp3:∀b∈fp,dD X pins (upd H s.heap.objs.size (.lst [])) b:=λb hb=>⟨by rw[bI (Nat.ne_of_lt (hlt b hb))];exact(hfp b hb).1,(hfp b hb).2⟩
 obtain⟨n0,W,w0,turn⟩:=hw s.heap.objs.size I.fresh
 generalize hs3:({s with heap:=s.heap.push {cls:=.type "list",dict:=none,data:=.seq ([]:List Value).toArray}}:Shared)=s3 at I3
 have eh:s3.heap=s.heap.push {cls:=.type "list",dict:=none,data:=.seq ([]:List Value).toArray}:=by rw[<-hs3]
 rw[<-eh]at hns₁ hsb₁ ⊢
 have hk:∀b o,s3.heap.get? b=some o->h₁.get? b=some o:=λb o e=>hsb₁.extBut b o (Nat.ne_of_lt (Heap.lt_size e)) (Heap.get?_push_of_some _ e)
 have hk0:∀b o,s.heap.get? b=some o->s3.heap.get? b=some o:=λb o e=>by rw[eh];exact Heap.get?_push_of_some _ e
 have J0:Inv (cD X N scope cl s3.heap.objs.size fp s3 (upd H s.heap.objs.size (.lst []))) [] (σc own fr σ) (upd H s.heap.objs.size (.lst [])) {s3 with heap:=h₁}:=
  zEZ I3 S hcl hcf fp3 (λb hb=>let ⟨o,ho⟩:=hfo b hb;⟨o,hk0 b o ho⟩) hns₁ hk
 have st0:tn 0 h₁:=T.keep _ _ _ st λb _ o e=>hk b o (hk0 b o e)
 have stat:∀{H':Hp},(∀b∈fp,H' b=none)->∀b∈fp,dD (cD X N scope cl s3.heap.objs.size fp s3 (upd H s.heap.objs.size (.lst []))) [] H' b:=λhn b hb=>
  ⟨hn b hb,(J0.ok.exf b hb).1,J0.ok.exfs b hb,.inl hb,(J0.ok.exf b hb).2,λp hp=>absurd (show p∈([]:List (Addr×Obj)) from hp) (by simp)⟩
 have loop:∀s4:Shared,s4={s3 with heap:=h₁}->codeAny (model X.prog X.w) X.A (.compLoop (.ListComp elt [⟨tg,iter,ifs,0⟩] scope pos) 0 (.ref it) (.ref s.heap.objs.size) (compEnvC scope cl s3.heap.objs.size X.env))
   (RR (.ref s.heap.objs.size) s3.heap.objs.size) s4:=by
  rintro s4 rfl
  refine xL (λn s'=>∃i ow H' ys,Inv (cD X N scope cl s3.heap.objs.size fp s3 (upd H s.heap.objs.size (.lst []))) [] (ow++σf fr σ) H' s'/\ow.length=own/\tn i s'.heap/\(∀b∈fp,H' b=none)/\H' s.heap.objs.size=some (.lst ys)/\(n=n0-i/\i<=n0)/\W i ys H') ?_ n0
   ⟨0,List.replicate own none,_,[],J0,by simp,st0,λb hb=>(fp3 b hb).1,bF,⟨rfl,Nat.zero_le _⟩,w0⟩
  rintro n s5 ⟨i,ow,H5,ys,I5,hlo,st5,fr5,ha5,⟨rfl,hi5⟩,w5⟩
  rcases turn i ys H5 hi5 ha5 w5 with⟨stop,qn⟩|⟨hin,go,step⟩
  ·refine thn (T.done (cD X N scope cl s3.heap.objs.size fp s3 (upd H s.heap.objs.size (.lst []))) rfl rfl rfl hc i [] s5 _ H5 (λ_ _=>False) I5 (stat fr5) st5 stop) λr s6 ⟨hr,I6⟩=>?_
   subst hr
   have IX:Inv X pins σ H5 s6:=I3.call' I6.os I6.base I6.hok I6.bare λb hb=>let ⟨_,f2,_,f4,f5,f6⟩:=fp3 b hb;⟨f4,f2,f5,f6⟩
   refine hRR _ _ s6 H5 IX qn (I3.fpOk (Nat.le_refl _) I6.free) ?_
   obtain⟨m,hn,_⟩:=I6.loc
   exact⟨m,hn⟩
  ·refine thn (T.item (cD X N scope cl s3.heap.objs.size fp s3 (upd H s.heap.objs.size (.lst []))) rfl rfl rfl hc i [] s5 _ H5 (λ_ _=>False) I5 (stat fr5) st5 go) λr s6 ⟨u,hr,h6⟩=>?_
   subst hr
   refine thn h6 λ_ s7 ⟨x,H7,I7,r7,y7,st7,fr7⟩=>?_
   have I7':=(I7.pinned (stat fr7) (T.obj _ _ st7)).weak (σ':=σc own fr σ) (by unfold σc;simp[hlo]) (λj v e=>by
    unfold σc at e
    rcases Nat.lt_or_ge j own with z|z
    ·rw[List.getElem?_append_left (by simpa using z),List.getElem?_replicate]at e
     split at e<;>cases e
    ·rw[List.getElem?_append_right (by simpa using z)]at e
     rw[List.getElem?_append_right (by rw[hlo];exact z),hlo]
     simpa using e)
   refine thn (hg _ _ _ _ s7 _ H7 x u _ I7' r7 (step x H7 y7)) λ_ s8 ⟨σ8,H8,I8,⟨ow8,hl8,e8⟩,q8⟩=>?_
   refine thn (hf _ _ _ _ s8 _ H8 _ I8 q8) λok s9 ⟨H9,I9,q9⟩=>?_
   have again:∀{H':Hp} {s':Shared},Inv (cD X N scope cl s3.heap.objs.size fp s3 (upd H s.heap.objs.size (.lst []))) ([]++lT fp s7.heap) σ8 H' s'->∀{ys':List V},H' s.heap.objs.size=some (.lst ys')->W (i+1) ys' H' ->
     ∃m,m<n0-i/\∃i ow H' ys,Inv (cD X N scope cl s3.heap.objs.size fp s3 (upd H s.heap.objs.size (.lst []))) [] (ow++σf fr σ) H' s'/\ow.length=own/\tn i s'.heap/\(∀b∈fp,H' b=none)/\H' s.heap.objs.size=some (.lst ys)/\(m=n0-i/\i<=n0)/\W i ys H':=λ{H' s'} I' {ys'} ha hw'=>by
    refine⟨n0-(i+1),by omega,i+1,ow8,H',ys',e8▸I'.unpinned,hl8,T.keep _ _ _ st7 λb hb o e=>(I'.pin (b,o) (List.mem_append_right _ (List.mem_append_right _ (kG hb e)))).1,λb hb=>?_,ha,⟨rfl,hin⟩,hw'⟩
    obtain⟨o,e,_⟩:=T.obj _ _ st7 b hb
    exact(I'.pin (b,o) (List.mem_append_right _ (List.mem_append_right _ (kG hb e)))).2.1
   cases ok with
   |false=>
    have q9':H9 s.heap.objs.size=some (.lst ys)/\W (i+1) ys H9:=by simpa using q9
    obtain⟨ha,hw'⟩:=q9'
    show if false=true then _ else _
    rw[if_neg (by decide)]
    exact again I9 ha hw'
   |true=>
    rw[if_pos rfl]at q9
    show if true=true then _ else _
    rw[if_pos rfl]
    refine thn (he _ _ _ _ s9 _ H9 _ I9 q9) λy s10 ⟨v10,H10,I10,r10,ha10,hz10,hw'⟩=>?_
    refine thn (pF _ s10 _ H10 (.ref s.heap.objs.size) [v10] (.ref s.heap.objs.size) [y] (λ_ H'=>H'=upd H10 s.heap.objs.size (.lst (ys++[v10]))) I10 rfl (.cons r10 .nil) ⟨_,ys,v10,rfl,rfl,ha10,hz10,rfl⟩) λ_ s11 ⟨_,H11,I11,_,e11⟩=>?_
    subst e11
    exact again I11 bF hw'
 exact codeAny_compStart_list (loop _ (by rw[<-hs3];rfl)) (T.self X.A 0 _ _ _ st0 (loop _ (by rw[<-hs3];rfl)))
end
def qH(own:Nat)(fr:List Nat)(wi:TI)(g:TG)(tf:TT)(te:TE):TE:=λσ H Q=>wi σ H λJ H1=>∀a,H1 a=none->vX J a own fr g tf te σ H1 Q
section
variable{X:Cx}{sc:Scope}{XN N:List Str}{own:Nat}{fr:List Nat}{scope:Scope}{elt tg iter:Expr}{ifs:List Expr}{pos:Pos}{wi:TI}{g:TG}{tf:TT}{te:TE}
theorem zFJ(hc:X.calm=true)(S:kO sc XN N own fr scope)(hi:PI X tg iter wi)
  (hg:∀cl C fp s H,PG (cD X N scope cl C fp s H) tg g) (hf:∀cl C fp s H,PFs (cD X N scope cl C fp s H) ifs tf) (he:∀cl C fp s H,PE (cD X N scope cl C fp s H) elt te)
  (hs:∀x,foldedSetIterable iter X.env x=pure x:=by intro _;rfl) (hsc:X.env.scope=sc:=by rfl) (hxn:X.N=XN:=by rfl):PE X (.ListComp elt [⟨tg,iter,ifs,0⟩] scope pos) (qH own fr wi g tf te):=by
 subst hsc hxn
 intro pins s σ H Q I h
 obtain⟨cl,c1,c2,c3⟩:=sM (scope:=scope) (env:=X.env) λy hy e=>I.ok.has y.1 (S.free y hy e)
 rw[eval_ListComp]
 refine wpAny_comprehension_free (use:=none) rfl hs c1 S.kind S.loc (thn (hi pins s σ H _ I h) λxv s1 h1=>thn h1 λitv s2 h2=>?_)
 obtain⟨it,fp,tn,J,H2,e,I2,T,st2,f2,hw⟩:=h2
 subst e
 refine yI hc S c2 c3 (λC s H=>hg cl C fp s H) (λC s H=>hf cl C fp s H) (λC s H=>he cl C fp s H) I2 T st2 f2 hw λa C s' H' I' q fC ⟨m,hn⟩=>?_
 refine⟨m,hn,λh' hs'=>?_⟩
 obtain⟨f0,f1,_,f3,f4,f5⟩:=fC
 exact⟨.ref a,H',I'.turned (t':=s'.toks) (λb o hb e=>hs'.extBut b o hb e) f0 f1 f3 f4 f5,rfl,q⟩
theorem zFA{i:Nat}{x:Str}{pos' spos:Pos}(hc:X.calm=true)(hN:X.N.Nodup)(hx:X.N[i]?=some x)(hl:Loc X.env.scope x)(S:kO sc XN N own fr scope)(hi:PI X tg iter wi)
  (hg:∀cl C fp s H,PG (cD X N scope cl C fp s H) tg g) (hf:∀cl C fp s H,PFs (cD X N scope cl C fp s H) ifs tf) (he:∀cl C fp s H,PE (cD X N scope cl C fp s H) elt te)
  (hsw:swapsWith (.ListComp elt [⟨tg,iter,ifs,0⟩] scope pos) (some (.Name x pos')) spos.line X.env=pure true:=by rfl)
  (hf':X.fn x=true\/X.env.scope.names.lookup x=some .local:=by first|exact .inl rfl|exact .inr rfl|assumption)
  (hs:∀x,foldedSetIterable iter X.env x=pure x:=by intro _;rfl) (hsc:X.env.scope=sc:=by rfl) (hxn:X.N=XN:=by rfl):PS X (.Assign [.Name x pos'] (.ListComp elt [⟨tg,iter,ifs,0⟩] scope pos) spos) (qW (qH own fr wi g tf te) (qQ i)):=by
 subst hsc hxn
 intro pins s σ H D I h
 obtain⟨cl,c1,c2,c3⟩:=sM (scope:=scope) (env:=X.env) λy hy e=>I.ok.has y.1 (S.free y hy e)
 rw[exec_Assign_Name_used _ _ _ _ hsw]
 refine wpAny_bind (wpAny_standAt (wpAny_bind ?_))
 show wpAny _ X.A (do let _ <- comprehension (.ListComp elt [⟨tg,iter,ifs,0⟩] scope pos) scope X.env _ (newList []) false (eval iter X.env) (some (assign (.Name x pos') X.env))) _ _ s
 refine wpAny_bind (wpAny_mono (wpAny_comprehension_free (use:=some (assign (.Name x pos') X.env)) (Q:=λ_ s'=>SP X pins D .next s') rfl hs c1 S.kind S.loc
  (thn (hi pins s σ H _ I h) λxv s1 h1=>thn h1 λitv s2 h2=>?_)) (λ_ s' hq=>wpAny_pure (wpAny_pure hq)) λ_ _ e=>e)
 obtain⟨it,fp,tn,J,H2,e,I2,T,st2,f2,hw⟩:=h2
 subst e
 refine yI hc S c2 c3 (λC s H=>hg cl C fp s H) (λC s H=>hf cl C fp s H) (λC s H=>he cl C fp s H) I2 T st2 f2 hw λa C s' H' I' q fC ⟨m,hn⟩=>?_
 obtain⟨f0,f1,f2',f3,f4,f5⟩:=fC
 show wpAny _ _ (assign (.Name x pos') X.env (.ref a)) _ _ _
 refine wpAny_assign_Name (yQ I' hN hx hl (show RelV (.ref a) (.ref a) from rfl) (λs2 J2 ⟨b,hb,hb'⟩=>?_) hf')
 have hbC:C≠b:=by
  rcases hb' with z|z
  ·rw[z];exact f1
  ·exact λe=>f4 _ _ z e.symm
 refine⟨m,hn.sameBut hb hbC,λh' hs'=>?_⟩
 exact⟨_,H',J2.turned (t':=s2.toks) (λb o hb e=>hs'.extBut b o hb e) f0 f1 f3 f4 f5,q⟩
end
end L2
namespace L2
open PySem PySem.Spec PyProof.Rows
section
variable{X:Cx}
def TyV(K:W.Frag)(T:String)(x:V)(H:Hp)(b:Bool):Prop:=match x with
 |.non=>b=false
 |.bl _=>b=(T=="bool" || T=="int")
 |.int _=>b=(T=="int")
 |.str _=>b=(T=="str")
 |.ref a=>(∃xs,SqL K H a xs/\b=(T=="list"))\/(∃xs,SqT K H a xs/\b=(T=="tuple"))\/(∃kvs,Rd H a (.dK kvs)/\b=(T=="dict"))
 |_=>False
theorem kR{prog:Program}{w:World}{A:Around}{E:Value->Shared->Prop}{s:Shared}{Q:Value->Shared->Prop}{T:String}(hne:(Value.type "NoneType"==Value.type T)=false)(hty:typeOf (.type T)=pure (.type "type"))
  (hsub:isSubtype (.type "NoneType") (.type T)=pure false) (h:Q (.bool false) {s with toks:=s.toks+1}):wpAny (model prog w) A (call (.builtin "isinstance") [.none,.type T]) Q E s:=
 call_isinstance (S:=λ_ R s=>R (.ok (.ret (.bool false))) {s with toks:=s.toks+1}) (λ_ _ _ _ s hs=>by
  obtain⟨h,g,d,t,os⟩:=s
  exact isinstance_outer (isinstance_nested_false_none hne hty hsub hs)) h
theorem Inv.lcls{pins:List (Addr×Obj)}{σ:St}{H:Hp}{s:Shared}{a:Addr}{xs:List V}(I:Inv X pins σ H s)(h:SqL X.K H a xs):∃o,s.heap.get? a=some o/\o.cls=.type "list":=by
 obtain⟨its,r,pl,hz⟩:=I.list h
 obtain⟨o,ho,hc,_⟩:=pl.isList
 exact⟨o,ho,hc⟩
theorem Inv.tcls{pins:List (Addr×Obj)}{σ:St}{H:Hp}{s:Shared}{a:Addr}{xs:List V}(I:Inv X pins σ H s)(h:SqT X.K H a xs):∃o,s.heap.get? a=some o/\o.cls=.type "tuple":=by
 obtain⟨its,r,⟨o,ho,hc,_⟩,hz⟩:=I.tuple h
 exact⟨o,ho,hc⟩
theorem Inv.dcls{pins:List (Addr×Obj)}{σ:St}{H:Hp}{s:Shared}{a:Addr}{kvs:List (Key×V)}(I:Inv X pins σ H s)(h:Rd H a (.dK kvs)):∃o,s.heap.get? a=some o/\o.cls=.type "dict":=by
 obtain⟨_,_,vs,_,dd⟩:=h.ok I.hok
 obtain⟨o,ho,hc⟩:=dd.typeIs
 exact⟨o,ho,hc⟩
theorem xP:CallR X (.builtin "isinstance") (λxs H Q=>∃x b,xs=[x,.ty "int"]/\TyV X.K "int" x H b/\Q (.bl b) H):=by
 intro pins s σ H xs us Q I r h
 obtain⟨x,b,rfl,hx,q⟩:=h
 obtain⟨u,w',rfl,rx,ry⟩:=gE r
 cases ry
 cases x with
 |non=>cases rx;cases hx;exact kR (by decide +kernel) F.isi_meta_int F.sub_NoneType_int ⟨.bl _,H,I.tok _,rfl,q⟩
 |bl k=>cases rx;cases hx;exact IsiPair.bool_int ⟨.bl _,H,I,rfl,q⟩
 |int i=>obtain⟨t,rfl⟩:=rx;cases hx;exact IsiPair.int_int ⟨.bl _,H,I,rfl,q⟩
 |str i=>obtain⟨t,rfl⟩:=rx;cases hx;exact IsiPair.str_int ⟨.bl _,H,I.tok _,rfl,q⟩
 |ref a=>
  cases rx
  rcases hx with⟨xs,hx,rfl⟩|⟨xs,hx,rfl⟩|⟨xs,hx,rfl⟩
  ·obtain⟨o,ho,hc⟩:=I.lcls hx;exact IsiPair.list_int ho hc ⟨.bl _,H,I.tok _,rfl,q⟩
  ·obtain⟨o,ho,hc⟩:=I.tcls hx;exact IsiPair.tuple_int ho hc ⟨.bl _,H,I.tok _,rfl,q⟩
  ·obtain⟨o,ho,hc⟩:=I.dcls hx;exact IsiPair.dict_int ho hc ⟨.bl _,H,I.tok _,rfl,q⟩
 |_=>exact False.elim hx
theorem oQ:CallR X (.builtin "isinstance") (λxs H Q=>∃x b,xs=[x,.ty "bool"]/\TyV X.K "bool" x H b/\Q (.bl b) H):=by
 intro pins s σ H xs us Q I r h
 obtain⟨x,b,rfl,hx,q⟩:=h
 obtain⟨u,w',rfl,rx,ry⟩:=gE r
 cases ry
 cases x with
 |non=>cases rx;cases hx;exact kR (by decide +kernel) F.isi_meta_bool F.sub_NoneType_bool ⟨.bl _,H,I.tok _,rfl,q⟩
 |bl k=>cases rx;cases hx;exact IsiPair.bool_bool ⟨.bl _,H,I,rfl,q⟩
 |int i=>obtain⟨t,rfl⟩:=rx;cases hx;exact IsiPair.int_bool ⟨.bl _,H,I.tok _,rfl,q⟩
 |str i=>obtain⟨t,rfl⟩:=rx;cases hx;exact IsiPair.str_bool ⟨.bl _,H,I.tok _,rfl,q⟩
 |ref a=>
  cases rx
  rcases hx with⟨xs,hx,rfl⟩|⟨xs,hx,rfl⟩|⟨xs,hx,rfl⟩
  ·obtain⟨o,ho,hc⟩:=I.lcls hx;exact IsiPair.list_bool ho hc ⟨.bl _,H,I.tok _,rfl,q⟩
  ·obtain⟨o,ho,hc⟩:=I.tcls hx;exact IsiPair.tuple_bool ho hc ⟨.bl _,H,I.tok _,rfl,q⟩
  ·obtain⟨o,ho,hc⟩:=I.dcls hx;exact IsiPair.dict_bool ho hc ⟨.bl _,H,I.tok _,rfl,q⟩
 |_=>exact False.elim hx
theorem xO:CallR X (.builtin "isinstance") (λxs H Q=>∃x b,xs=[x,.ty "str"]/\TyV X.K "str" x H b/\Q (.bl b) H):=by
 intro pins s σ H xs us Q I r h
 obtain⟨x,b,rfl,hx,q⟩:=h
 obtain⟨u,w',rfl,rx,ry⟩:=gE r
 cases ry
 cases x with
 |non=>cases rx;cases hx;exact kR (by decide +kernel) F.isi_meta_str F.sub_NoneType_str ⟨.bl _,H,I.tok _,rfl,q⟩
 |bl k=>cases rx;cases hx;exact IsiPair.bool_str ⟨.bl _,H,I.tok _,rfl,q⟩
 |int i=>obtain⟨t,rfl⟩:=rx;cases hx;exact IsiPair.int_str ⟨.bl _,H,I.tok _,rfl,q⟩
 |str i=>obtain⟨t,rfl⟩:=rx;cases hx;exact IsiPair.str_str ⟨.bl _,H,I,rfl,q⟩
 |ref a=>
  cases rx
  rcases hx with⟨xs,hx,rfl⟩|⟨xs,hx,rfl⟩|⟨xs,hx,rfl⟩
  ·obtain⟨o,ho,hc⟩:=I.lcls hx;exact IsiPair.list_str ho hc ⟨.bl _,H,I.tok _,rfl,q⟩
  ·obtain⟨o,ho,hc⟩:=I.tcls hx;exact IsiPair.tuple_str ho hc ⟨.bl _,H,I.tok _,rfl,q⟩
  ·obtain⟨o,ho,hc⟩:=I.dcls hx;exact IsiPair.dict_str ho hc ⟨.bl _,H,I.tok _,rfl,q⟩
 |_=>exact False.elim hx
theorem xG:CallR X (.builtin "isinstance") (λxs H Q=>∃x b,xs=[x,.ty "list"]/\TyV X.K "list" x H b/\Q (.bl b) H):=by
 intro pins s σ H xs us Q I r h
 obtain⟨x,b,rfl,hx,q⟩:=h
 obtain⟨u,w',rfl,rx,ry⟩:=gE r
 cases ry
 cases x with
 |non=>cases rx;cases hx;exact kR (by decide +kernel) F.isi_meta_list F.sub_NoneType_list ⟨.bl _,H,I.tok _,rfl,q⟩
 |bl k=>cases rx;cases hx;exact IsiPair.bool_list ⟨.bl _,H,I.tok _,rfl,q⟩
 |int i=>obtain⟨t,rfl⟩:=rx;cases hx;exact IsiPair.int_list ⟨.bl _,H,I.tok _,rfl,q⟩
 |str i=>obtain⟨t,rfl⟩:=rx;cases hx;exact IsiPair.str_list ⟨.bl _,H,I.tok _,rfl,q⟩
 |ref a=>
  cases rx
  rcases hx with⟨xs,hx,rfl⟩|⟨xs,hx,rfl⟩|⟨xs,hx,rfl⟩
  ·obtain⟨o,ho,hc⟩:=I.lcls hx;exact IsiPair.list_list ho hc ⟨.bl _,H,I,rfl,q⟩
  ·obtain⟨o,ho,hc⟩:=I.tcls hx;exact IsiPair.tuple_list ho hc ⟨.bl _,H,I.tok _,rfl,q⟩
  ·obtain⟨o,ho,hc⟩:=I.dcls hx;exact IsiPair.dict_list ho hc ⟨.bl _,H,I.tok _,rfl,q⟩
 |_=>exact False.elim hx
theorem xE:CallR X (.builtin "isinstance") (λxs H Q=>∃x b,xs=[x,.ty "tuple"]/\TyV X.K "tuple" x H b/\Q (.bl b) H):=by
 intro pins s σ H xs us Q I r h
 obtain⟨x,b,rfl,hx,q⟩:=h
 obtain⟨u,w',rfl,rx,ry⟩:=gE r
 cases ry
 cases x with
 |non=>cases rx;cases hx;exact kR (by decide +kernel) F.isi_meta_tuple F.sub_NoneType_tuple ⟨.bl _,H,I.tok _,rfl,q⟩
 |bl k=>cases rx;cases hx;exact IsiPair.bool_tuple ⟨.bl _,H,I.tok _,rfl,q⟩
 |int i=>obtain⟨t,rfl⟩:=rx;cases hx;exact IsiPair.int_tuple ⟨.bl _,H,I.tok _,rfl,q⟩
 |str i=>obtain⟨t,rfl⟩:=rx;cases hx;exact IsiPair.str_tuple ⟨.bl _,H,I.tok _,rfl,q⟩
 |ref a=>
  cases rx
  rcases hx with⟨xs,hx,rfl⟩|⟨xs,hx,rfl⟩|⟨xs,hx,rfl⟩
  ·obtain⟨o,ho,hc⟩:=I.lcls hx;exact IsiPair.list_tuple ho hc ⟨.bl _,H,I.tok _,rfl,q⟩
  ·obtain⟨o,ho,hc⟩:=I.tcls hx;exact IsiPair.tuple_tuple ho hc ⟨.bl _,H,I,rfl,q⟩
  ·obtain⟨o,ho,hc⟩:=I.dcls hx;exact IsiPair.dict_tuple ho hc ⟨.bl _,H,I.tok _,rfl,q⟩
 |_=>exact False.elim hx
theorem oP:CallR X (.builtin "isinstance") (λxs H Q=>∃x b,xs=[x,.ty "dict"]/\TyV X.K "dict" x H b/\Q (.bl b) H):=by
 intro pins s σ H xs us Q I r h
 obtain⟨x,b,rfl,hx,q⟩:=h
 obtain⟨u,w',rfl,rx,ry⟩:=gE r
 cases ry
 cases x with
 |non=>cases rx;cases hx;exact kR (by decide +kernel) F.isi_meta_dict F.sub_NoneType_dict ⟨.bl _,H,I.tok _,rfl,q⟩
 |bl k=>cases rx;cases hx;exact IsiPair.bool_dict ⟨.bl _,H,I.tok _,rfl,q⟩
 |int i=>obtain⟨t,rfl⟩:=rx;cases hx;exact IsiPair.int_dict ⟨.bl _,H,I.tok _,rfl,q⟩
 |str i=>obtain⟨t,rfl⟩:=rx;cases hx;exact IsiPair.str_dict ⟨.bl _,H,I.tok _,rfl,q⟩
 |ref a=>
  cases rx
  rcases hx with⟨xs,hx,rfl⟩|⟨xs,hx,rfl⟩|⟨xs,hx,rfl⟩
  ·obtain⟨o,ho,hc⟩:=I.lcls hx;exact IsiPair.list_dict ho hc ⟨.bl _,H,I.tok _,rfl,q⟩
  ·obtain⟨o,ho,hc⟩:=I.tcls hx;exact IsiPair.tuple_dict ho hc ⟨.bl _,H,I.tok _,rfl,q⟩
  ·obtain⟨o,ho,hc⟩:=I.dcls hx;exact IsiPair.dict_dict ho hc ⟨.bl _,H,I,rfl,q⟩
 |_=>exact False.elim hx
def zBS:Obj:={cls:=.type "tuple",data:=.seq [Value.type "list",Value.type "tuple"].toArray}
def ltO:HO:=.frz zBS (.tup [.ty "list",.ty "tuple"])
def LtV(K:W.Frag)(x:V)(H:Hp)(b:Bool):Prop:=match x with
 |.non=>b=false
 |.bl _=>b=false
 |.int _=>b=false
 |.str _=>b=false
 |.ref a=>(∃xs,SqL K H a xs/\b=true)\/(∃xs,SqT K H a xs/\b=true)\/(∃kvs,Rd H a (.dK kvs)/\b=false)
 |_=>False
theorem zIv{l t:Expr}{k:Nat}{pos:Pos}(hl:PE X l (tC (.ty "list")))(ht:PE X t (tC (.ty "tuple")))(h1:starEach [l,t] X.env=(false,eval l X.env)::starEach [t] X.env:=by rfl)(h2:starEach [t] X.env=(false,eval t X.env)::starEach [] X.env:=by rfl):
  PE X (.Tuple [l,t] k pos) (λ_ H Q=>∀p,H p=none->Q (.ref p) (upd H p ltO)):=by
 intro pins s σ H Q I hq
 refine wpAny_Tuple_spliced (thn ((uJ hl (uJ ht dL h2) h1) pos pins s σ H (λvs H1=>vs=[.ty "list",.ty "tuple"]/\H1=H) I ⟨rfl,rfl⟩) λus s1 ⟨xs,H1,I1,r,e1,e2⟩=>?_)
 subst e1 e2
 obtain⟨u,w',rfl,rx,ry⟩:=gE r
 cases rx
 cases ry
 refine⟨by show 2<=sizeLine;decide,?_⟩
 refine⟨.ref s1.heap.objs.size,_,I1.laid (t':=s1.toks) (o:=ltO) (λb ob q=>Heap.get?_push_of_some _ q) (Nat.le_refl _) ?_,rfl,hq _ (I1.hok.fresh (Nat.le_refl _))⟩
 exact⟨Heap.get?_push_size _ rfl,by show 2<=sizeLine;decide,[Value.type "list",Value.type "tuple"],.cons rfl (.cons rfl .nil),IsTup.new _ _⟩
theorem zCZ:CallR X (.builtin "isinstance") (λxs H Q=>∃x t b,xs=[x,.ref t]/\H t=some ltO/\LtV X.K x H b/\Q (.bl b) H):=by
 intro pins s σ H xs us Q I r h
 obtain⟨x,t,b,rfl,hH,hx,q⟩:=h
 obtain⟨u,w',rfl,rx,ry⟩:=gE r
 cases ry
 have ht:s.heap.get? t=some zBS:=(I.hok t _ hH).1
 cases x with
 |non=>
  cases rx;cases hx
  exact IsiPair.tupleOf (Tx:="NoneType") (cs:=[.type "list",.type "tuple"]) (vs:=[false,false]) ⟨Answers.of_false_none (by decide +kernel) F.isi_meta_list F.sub_NoneType_list,Answers.of_false_none (by decide +kernel) F.isi_meta_tuple F.sub_NoneType_tuple,trivial⟩ rfl ht λtk=>⟨.bl _,H,I.tok _,rfl,q⟩
 |bl k=>
  cases rx;cases hx
  exact IsiPair.tupleOf (Tx:="bool") (cs:=[.type "list",.type "tuple"]) (vs:=[false,false]) ⟨Answers.of_false_bool (by decide +kernel) F.isi_meta_list F.sub_bool_list,Answers.of_false_bool (by decide +kernel) F.isi_meta_tuple F.sub_bool_tuple,trivial⟩ rfl ht λtk=>⟨.bl _,H,I.tok _,rfl,q⟩
 |int i=>
  obtain⟨t',rfl⟩:=rx;cases hx
  exact IsiPair.tupleOf (Tx:="int") (cs:=[.type "list",.type "tuple"]) (vs:=[false,false]) ⟨Answers.of_false_int (by decide +kernel) F.isi_meta_list F.sub_int_list,Answers.of_false_int (by decide +kernel) F.isi_meta_tuple F.sub_int_tuple,trivial⟩ (typeIs_int _ _ _) ht λtk=>⟨.bl _,H,I.tok _,rfl,q⟩
 |str i=>
  obtain⟨t',rfl⟩:=rx;cases hx
  exact IsiPair.tupleOf (Tx:="str") (cs:=[.type "list",.type "tuple"]) (vs:=[false,false]) ⟨Answers.of_false_str (by decide +kernel) F.isi_meta_list F.sub_str_list,Answers.of_false_str (by decide +kernel) F.isi_meta_tuple F.sub_str_tuple,trivial⟩ (typeIs_str _ _ _) ht λtk=>⟨.bl _,H,I.tok _,rfl,q⟩
 |ref a=>
  cases rx
  rcases hx with⟨xs,hx,rfl⟩|⟨xs,hx,rfl⟩|⟨xs,hx,rfl⟩
  ·obtain⟨o,ho,hc⟩:=I.lcls hx
   exact IsiPair.tupleOf (Tx:="list") (cs:=[.type "list",.type "tuple"]) (vs:=[true,false]) ⟨Answers.of_true F.isi_meta_list F.sub_list_list,Answers.of_false_list (by decide +kernel) F.isi_meta_tuple F.sub_list_tuple,trivial⟩ ⟨o,ho,hc⟩ ht λtk=>⟨.bl _,H,I.tok _,rfl,q⟩
  ·obtain⟨o,ho,hc⟩:=I.tcls hx
   exact IsiPair.tupleOf (Tx:="tuple") (cs:=[.type "list",.type "tuple"]) (vs:=[false,true]) ⟨Answers.of_false_tuple (by decide +kernel) F.isi_meta_list F.sub_tuple_list,Answers.of_true F.isi_meta_tuple F.sub_tuple_tuple,trivial⟩ ⟨o,ho,hc⟩ ht λtk=>⟨.bl _,H,I.tok _,rfl,q⟩
  ·obtain⟨o,ho,hc⟩:=I.dcls hx
   exact IsiPair.tupleOf (Tx:="dict") (cs:=[.type "list",.type "tuple"]) (vs:=[false,false]) ⟨Answers.of_false_dict (by decide +kernel) F.isi_meta_list F.sub_dict_list,Answers.of_false_dict (by decide +kernel) F.isi_meta_tuple F.sub_dict_tuple,trivial⟩ ⟨o,ho,hc⟩ ht λtk=>⟨.bl _,H,I.tok _,rfl,q⟩
 |_=>exact False.elim hx
theorem zG(hc:X.calm=true):CallR X (.builtin "sum") (λxs H Q=>∃(p:Addr) (ns:List Int),xs=[.ref p]/\SqL X.K H p (ns.map V.int)/\Q (.int ns.sum) H):=by
 intro pins s σ H xs us Q I r h
 obtain⟨p,ns,rfl,hq,q⟩:=h
 obtain⟨u,rfl,rx⟩:=cX r
 cases rx
 obtain⟨its,rv,pl,hz⟩:=I.list hq
 have hi:IntsAre its ns:=oX rv
 have hall:=hi.allInts
 have e0:=hi.numsOf
 obtain⟨xs,ex⟩:=hall.items
 have e1:numsOf (intItems xs).toList=ns:=by rw[<-ex];exact e0
 rw[nums_intItems]at e1
 have hl:=pl.isList
 rw[ex]at hl
 refine sum_intListG (I.ok.hd hc) hl λh' tk t' hk=>⟨.int ns.sum,H,I.kept hk,⟨t',?_⟩,q⟩
 rw[preSum_eq,List.take_of_length_le (by simp),e1]
theorem xR{prog:Program}{w:World}{A:Around}{bs:List Bool}{its:List Value}(rv:Vals (bs.map V.bl) its):TruthOf prog w A (λi v=>its.toArray[i]?=some v) λi=>bs.getD i false:=by
 intro i v s Q E hP hQ
 have hi:its[i]?=some v:=by simpa using hP
 have hl:=rv.length
 rw[List.length_map]at hl
 have hlt:i<bs.length:=by rw[hl];exact(List.getElem?_eq_some_iff.mp hi).1
 obtain⟨u,hu,ru⟩:=rv.get (i:=i) (x:=V.bl (bs.getD i false)) (by rw[List.getElem?_map,List.getD_eq_getElem?_getD,List.getElem?_eq_getElem hlt];rfl)
 rw[hi]at hu
 cases hu
 cases ru
 exact wpAny_truthy_bool hQ
theorem zDH(bs:List Bool):(List.range bs.length).all (λi=>bs.getD i false)=bs.all id:=by
 induction bs with
 |nil=>rfl
 |cons b r ih=>
  rw[List.length_cons,List.range_succ_eq_map,List.all_cons,List.all_cons,List.all_map]
  rw[<-ih]
  rfl
theorem zDG(bs:List Bool):(List.range bs.length).any (λi=>bs.getD i false)=bs.any id:=by
 induction bs with
 |nil=>rfl
 |cons b r ih=>
  rw[List.length_cons,List.range_succ_eq_map,List.any_cons,List.any_cons,List.any_map]
  rw[<-ih]
  rfl
theorem zEg(hc:X.calm=true):CallR X (.builtin "all") (λxs H Q=>∃(p:Addr) (bs:List Bool),xs=[.ref p]/\SqL X.K H p (bs.map V.bl)/\Q (.bl (bs.all id)) H):=by
 intro pins s σ H xs us Q I r h
 obtain⟨p,bs,rfl,hq,q⟩:=h
 obtain⟨u,rfl,rx⟩:=cX r
 cases rx
 obtain⟨its,rv,pl,hz⟩:=I.list hq
 have hlt:p<s.heap.objs.size:=by obtain⟨_,e,_⟩:=pl.isList;exact Heap.lt_size e
 have hll:=rv.length
 rw[List.length_map]at hll
 refine call_all_walk (wpAny_pyIter_list pl.isList ?_)
 refine⟨s.heap.objs.size,_,_,_,_,_,λi=>bs.getD i false,rfl,Walks.list (A:=X.A.in1) (I.ok.hd hc) _ p (Nat.ne_of_lt hlt) its.toArray,⟨⟨_,Heap.get?_push_size _ rfl,rfl,rfl⟩,pl.isList.at λo e=>Heap.get?_push_of_some _ e⟩,xR rv,λh' tk hk=>?_⟩
 refine⟨.bl (bs.all id),H,I.kept λb o e=>hk b o (by simpa using Nat.ne_of_lt (Heap.lt_size e)) (Heap.get?_push_of_some _ e),?_,q⟩
 show Value.bool _=Value.bool _
 rw[List.size_toArray,<-hll,zDH]
theorem zEf(hc:X.calm=true):CallR X (.builtin "any") (λxs H Q=>∃(p:Addr) (bs:List Bool),xs=[.ref p]/\SqL X.K H p (bs.map V.bl)/\Q (.bl (bs.any id)) H):=by
 intro pins s σ H xs us Q I r h
 obtain⟨p,bs,rfl,hq,q⟩:=h
 obtain⟨u,rfl,rx⟩:=cX r
 cases rx
 obtain⟨its,rv,pl,hz⟩:=I.list hq
 have hlt:p<s.heap.objs.size:=by obtain⟨_,e,_⟩:=pl.isList;exact Heap.lt_size e
 have hll:=rv.length
 rw[List.length_map]at hll
 refine call_any_walk (wpAny_pyIter_list pl.isList ?_)
 refine⟨s.heap.objs.size,_,_,_,_,_,λi=>bs.getD i false,rfl,Walks.list (A:=X.A.in1) (I.ok.hd hc) _ p (Nat.ne_of_lt hlt) its.toArray,⟨⟨_,Heap.get?_push_size _ rfl,rfl,rfl⟩,pl.isList.at λo e=>Heap.get?_push_of_some _ e⟩,xR rv,λh' tk hk=>?_⟩
 refine⟨.bl (bs.any id),H,I.kept λb o e=>hk b o (by simpa using Nat.ne_of_lt (Heap.lt_size e)) (Heap.get?_push_of_some _ e),?_,q⟩
 show Value.bool _=Value.bool _
 rw[List.size_toArray,<-hll,zDG]
def fU:List V->List V->Bool
 |[],[]=>true
 |x::xs,y::ys=>eqV x y&&fU xs ys
 |_,_=>false
theorem zAk:∀{xs ys:List V},xs.length≠ys.length->fU xs ys=false
 |[],[],h=>absurd rfl h
 |[],_::_,_=>rfl
 |_::_,[],_=>rfl
 |x::xs,y::ys,h=>by
  have:=zAk (xs:=xs) (ys:=ys) (λe=>h (by simp[e]))
  simp[fU,this]
theorem yH:∀{xs ys:List V},xs.length=ys.length->(List.range xs.length).all (λi=>eqV (xs.getD i .non) (ys.getD i .non))=fU xs ys
 |[],[],_=>rfl
 |[],_::_,h=>by simp at h
 |_::_,[],h=>by simp at h
 |x::xs,y::ys,h=>by
  have ih:=yH (xs:=xs) (ys:=ys) (by simpa using h)
  rw[List.length_cons,List.range_succ_eq_map,List.all_cons,List.all_map]
  show(eqV x y&&(List.range xs.length).all λi=>eqV (xs.getD i .non) (ys.getD i .non))=(eqV x y&&fU xs ys)
  rw[ih]
theorem zFe{A:Around}{s:Shared}{xs ys:List V}{us ws:List Value}(r:Vals xs us)(r':Vals ys ws)(fx:xs.all dB=true)(fy:ys.all dB=true)(j:Nat)(h1:j<us.toArray.size)(h2:j<ws.toArray.size):
  SeqAt.EqAt A s us.toArray[j] ws.toArray[j] (eqV (xs.getD j .non) (ys.getD j .non)):=by
 have l1:=r.length
 have l2:=r'.length
 have k1:j<xs.length:=by rw[l1];simpa using h1
 have k2:j<ys.length:=by rw[l2];simpa using h2
 obtain⟨u,hu,ru⟩:=r.get (i:=j) (x:=xs.getD j .non) (by rw[List.getD_eq_getElem?_getD,List.getElem?_eq_getElem k1];rfl)
 obtain⟨w',hw,rw'⟩:=r'.get (i:=j) (x:=ys.getD j .non) (by rw[List.getD_eq_getElem?_getD,List.getElem?_eq_getElem k2];rfl)
 have e1:us.toArray[j]=u:=by
  obtain⟨_,e⟩:=List.getElem?_eq_some_iff.mp hu
  simpa using e
 have e2:ws.toArray[j]=w':=by
  obtain⟨_,e⟩:=List.getElem?_eq_some_iff.mp hw
  simpa using e
 rw[e1,e2]
 refine zBA ru rw' (List.all_eq_true.mp fx _ ?_) (List.all_eq_true.mp fy _ ?_)
 ·rw[List.getD_eq_getElem?_getD,List.getElem?_eq_getElem k1];exact List.getElem_mem k1
 ·rw[List.getD_eq_getElem?_getD,List.getElem?_eq_getElem k2];exact List.getElem_mem k2
def zJp(K:W.Frag)(neg:Bool):R2:=λx y H Q=>∃p q xs ys,x=.ref p/\y=.ref q/\SqL K H p xs/\SqL K H q ys/\xs.all dB=true/\ys.all dB=true/\Q (.bl (if neg then !fU xs ys else fU xs ys)) H
theorem zHo(hu:X.A.units<cLine):OpR X (compareOp .Eq) (zJp X.K false):=by
 intro pins s σ H x y v u Q I rx ry h
 obtain⟨p,q,xs,ys,rfl,rfl,hx,hy,fx,fy,k⟩:=h
 cases rx
 cases ry
 obtain⟨us,r1,p1,z1⟩:=I.list hx
 obtain⟨ws,r2,p2,z2⟩:=I.list hy
 by_cases hl:xs.length=ys.length
 ·refine SeqAt.eq_listAt p1.isList p2.isList (by simp[<-r1.length,<-r2.length,hl]) hu (λj h1 h2=>zFe r1 r2 fx fy j h1 h2) ⟨.bl (fU xs ys),H,I,?_,k⟩
  show Value.bool _=Value.bool _
  rw[List.size_toArray,<-r1.length,yH hl]
 ·refine SeqAt.eq_list_lengthsAt p1.isList p2.isList (by simp[<-r1.length,<-r2.length,hl]) hu ⟨.bl (fU xs ys),H,I,?_,k⟩
  rw[zAk hl];rfl
theorem zEv(n:Nat):sliceRange (sliceBounds none none (some (-1)) n).1 (sliceBounds none none (some (-1)) n).2.1 (sliceBounds none none (some (-1)) n).2.2=(List.range n).map λk=>n-1-k:=by
 have e:sliceBounds none none (some (-1)) n=((n:Int)-1,-1,-1):=by simp[sliceBounds]
 rw[e]
 unfold sliceRange
 simp only[show ¬ ((-1:Int) > 0) by decide,if_false]
 by_cases hn:n=0
 ·subst hn;simp
 ·have h1:(n:Int)-1 > -1:=by omega
  rw[if_pos h1]
  have h2:(((n:Int)-1 - -1 - -1-1) / (- -1)).toNat=n:=by
   rw[show(n:Int)-1 - -1 - -1-1=n by omega,show(- -1:Int)=1 by decide,Int.ediv_one]
   exact Int.toNat_natCast n
  rw[h2]
  refine List.map_congr_left λk hk=>?_
  have:=List.mem_range.mp hk
  omega
theorem zAj{α β:Type}{f g:α->Option β}:∀{l:List α},(∀x∈l,f x=g x)->l.filterMap f=l.filterMap g
 |[],_=>rfl
 |x::r,h=>by rw[List.filterMap_cons,List.filterMap_cons,h x List.mem_cons_self,zAj λy hy=>h y (List.mem_cons_of_mem _ hy)]
theorem yT{α:Type}:∀zs:List α,(List.range zs.length).filterMap (λk=>zs.reverse[zs.length-1-k]?)=zs
 |[]=>rfl
 |z::r=>by
  rw[List.length_cons,List.range_succ_eq_map,List.filterMap_cons,List.filterMap_map]
  have h0:(z::r).reverse[r.length+1-1-0]?=some z:=by simp
  rw[h0]
  have h1:List.filterMap ((λk=>(z::r).reverse[r.length+1-1-k]?)∘Nat.succ) (List.range r.length)=List.filterMap (λk=>r.reverse[r.length-1-k]?) (List.range r.length):=by
   apply zAj
   intro k hk
   have hk:=List.mem_range.mp hk
   show(z::r).reverse[r.length+1-1-(k+1)]?=r.reverse[r.length-1-k]?
   rw[List.reverse_cons,List.getElem?_append_left (by simp;omega)]
   rw[show r.length+1-1-(k+1)=r.length-1-k by omega]
  rw[h1,yT r]
theorem zED{α:Type}(xs:List α):((List.range xs.length).map λk=>xs.length-1-k).filterMap (λi=>xs[i]?)=xs.reverse:=by
 have:=yT xs.reverse
 rw[List.length_reverse,List.reverse_reverse]at this
 rw[List.filterMap_map]
 exact this
theorem zCx(its:List Value):slicePick its.toArray none none (some (-1))=its.reverse.toArray:=by
 unfold slicePick
 rw[List.size_toArray,zEv]
 congr 1
 have:=zED its
 simpa using this
def zI8(K:W.Frag)(te tst:TE):TE:=λσ H Q=>te σ H λx H1=>tst σ H1 λy H2=>y=.int (-1)/\∃p xs,x=.ref p/\SqL K H2 p xs/\∀l,H2 l=none->Q (.ref l) (upd H2 l (.lst xs.reverse))
theorem zHa{e st:Expr}{te tst:TE}{pos p2:Pos}(he:PE X e te)(hst:PE X st tst)(ht:∀o r,letTemporaryGo e o r=pure ():=by intro _ _;rfl):PE X (.Subscript e (.Slice none none (some st) p2) pos) (zI8 X.K te tst):=by
 intro pins s σ H Q I h
 refine wpAny_Subscript_Slice_step (T:="list") slot_list_getitem.lookup (thn (he pins s σ H _ I h) λv s1 ⟨x,H1,I1,r1,q1⟩=>?_) ht
 refine wpAny_Slice ?_
 rw[evalPart_none,evalPart_some]
 refine wpAny_pure (wpAny_pure (thn (hst pins s1 σ H1 _ I1 q1) λvs s2 ⟨y,H2,I2,r2,q2⟩=>?_))
 obtain⟨rfl,p,xs,rfl,hx,q⟩:=q2
 obtain⟨t,rfl⟩:=r2
 cases r1
 have I3:Inv X pins σ H2 {s2 with heap:=s2.heap.push {cls:=.type "slice",data:=.fields #[.none,.none,.int (-1) t]}}:=I2.kept (t':=s2.toks) λb ob q=>Heap.get?_push_of_some _ q
 obtain⟨its,rv,pl,hz⟩:=I3.list hx
 refine⟨pl.isList.typeIs,?_⟩
 refine wpAny_getItem_list_slice pl.isList (Heap.IsSliceOf.new ..) .none .none (.int (-1) t) (by decide) ?_ (by rw[List.size_toArray,<-rv.length];exact hz)
 rw[zCx]
 refine⟨.ref _,_,I3.laid (t':=s2.toks) (o:=.lst xs.reverse) (λb ob q=>Heap.get?_push_of_some _ q) (Nat.le_refl _) ?_,rfl,q _ (I3.hok.fresh (Nat.le_refl _))⟩
 exact⟨by rw[List.length_reverse];exact hz,_,0,rv.reverse,Heap.get?_push_size _ rfl⟩
theorem zHl:OpR X (compareOp .Is) (λx y H Q=>∃b,y=.bl b/\Q (.bl (decide (x=.bl b))) H):=by
 intro pins s σ H x y v u Q I rx ry h
 obtain⟨b,rfl,q⟩:=h
 cases ry
 cases x with
 |non=>cases rx;exact wpAny_is_plain rfl ⟨.bl _,H,I,(by simp[RelV]),q⟩
 |bl k=>cases rx;exact wpAny_is_plain rfl ⟨.bl _,H,I,(by cases k<;>cases b<;>rfl),q⟩
 |int i=>obtain⟨t,rfl⟩:=rx;exact wpAny_is_plain rfl ⟨.bl _,H,I,(by simp[RelV]),q⟩
 |str i=>obtain⟨t,rfl⟩:=rx;exact wpAny_is_plain rfl ⟨.bl _,H,I,(by simp[RelV]),q⟩
 |byt i=>obtain⟨t,rfl⟩:=rx;exact wpAny_is_plain rfl ⟨.bl _,H,I,(by simp[RelV]),q⟩
 |flt i=>obtain⟨t,rfl⟩:=rx;exact wpAny_is_plain rfl ⟨.bl _,H,I,(by simp[RelV]),q⟩
 |ref i=>cases rx;exact wpAny_is_plain rfl ⟨.bl _,H,I,(by simp[RelV]),q⟩
 |ty i=>cases rx;exact wpAny_is_plain rfl ⟨.bl _,H,I,(by simp[RelV]),q⟩
theorem zDN:OpR X (compareOp .IsNot) (λx y H Q=>∃b,y=.bl b/\Q (.bl (!decide (x=.bl b))) H):=by
 intro pins s σ H x y v u Q I rx ry h
 obtain⟨b,rfl,q⟩:=h
 cases ry
 cases x with
 |non=>cases rx;exact wpAny_isNot_plain rfl ⟨.bl _,H,I,(by simp[RelV]),q⟩
 |bl k=>cases rx;exact wpAny_isNot_plain rfl ⟨.bl _,H,I,(by cases k<;>cases b<;>rfl),q⟩
 |int i=>obtain⟨t,rfl⟩:=rx;exact wpAny_isNot_plain rfl ⟨.bl _,H,I,(by simp[RelV]),q⟩
 |str i=>obtain⟨t,rfl⟩:=rx;exact wpAny_isNot_plain rfl ⟨.bl _,H,I,(by simp[RelV]),q⟩
 |byt i=>obtain⟨t,rfl⟩:=rx;exact wpAny_isNot_plain rfl ⟨.bl _,H,I,(by simp[RelV]),q⟩
 |flt i=>obtain⟨t,rfl⟩:=rx;exact wpAny_isNot_plain rfl ⟨.bl _,H,I,(by simp[RelV]),q⟩
 |ref i=>cases rx;exact wpAny_isNot_plain rfl ⟨.bl _,H,I,(by simp[RelV]),q⟩
 |ty i=>cases rx;exact wpAny_isNot_plain rfl ⟨.bl _,H,I,(by simp[RelV]),q⟩
def BigOk(j:Int):Prop:=j.natAbs<2 ^ 1024
theorem BigOk.log{j:Int}(h:BigOk j):j.natAbs.log2<9000:=by
 by_cases h0:j.natAbs=0
 ·rw[h0];decide +kernel
 ·have:j.natAbs.log2<1024:=(Nat.log2_lt h0).mpr h
  omega
theorem op_mulB:OpR X (binaryOp .Mult) (rI (λi j=>BigOk i/\BigOk j) λi j=>.int (i*j)):=opI λi j _ _ _ _ _ hc q=>by
 have bits:∀{x:Int},BigOk x->Builtin.Int.intBits x<=2 ^ 20:=λ{x} h=>by
  unfold Builtin.Int.intBits
  split
  ·exact Nat.zero_le _
  ·rename_i h0
   have h0':x.natAbs≠0:=λz=>h0 (by simpa using z)
   have:x.natAbs.log2<1024:=(Nat.log2_lt h0').mpr h
   omega
 exact mul_int q (.of_bits (bits hc.1) (bits hc.2))
theorem zAc:OpR X (binaryOp .FloorDiv) (rI (λ_ j=>0<j/\BigOk j) λi j=>.int (i / j)):=opI λi j _ _ _ _ _ hc q=>by
 have h1:(0:Int)<j:=hc.1
 exact floordiv_int (by omega) (by rw[Int.fdiv_eq_ediv_of_nonneg i (by omega)];exact q) (.inl (PyProof.noPylong_of_log2 hc.2.log))
end
end L2
namespace L2
open PySem PySem.Spec PyProof.Rows
def eR:Expr->Bool
 |.Starred ..=>true
 |_=>false
theorem jN{e:Expr}{rest:List Expr}{env:Env}(h:eR e=false):starEach (e::rest) env=(false,eval e env)::starEach rest env:=by
 cases e<;>first|rfl|exact Bool.noConfusion h
theorem cV{X:Cx}{e:Expr}{es:List Expr}{te:TE}{t:TA}(ha:PE X e te)(hr:PA X es t)(h:eR e=false:=by rfl):PA X (e::es) (vL te t):=uJ ha hr (jN h)
def Good(P:Program)(w:World)(K:W.Frag)(mg:Str->Option Value)(base:Heap)(k:Nat)(x:Str)(ps:List Str)(sp:Sp):Prop:=
 ∃(f:Addr) (fd:FuncData),FnOk P w K mg base CX0 k f fd ps sp/\Binds K fd ps []/\mg x=some (.ref f)/\W.keepIn K (.ref f)=true
section
variable{X:Cx}{k:Nat}{x:Str}{ps:List Str}{sp:Sp}{e:Expr}{es:List Expr}{t:TA}{p pos:Pos}
theorem qL(G:Good X.prog X.w X.K X.mg X.base k x ps sp)(hr:Room k X.A)(hg:Gl X x)(ha:PA X (e::es) t)(hdb:(x==("__debug__":Str))=false:=by decide)
  (hst:eR e=false:=by rfl) (hpl:(backTo pos (starEach es X.env)).any (·.1)=false:=by rfl):PE X (.Call (.Name x p) (e::es) [] pos) (nU sp [] E0 t):=by
 obtain⟨f,fd,F,b,m,kp⟩:=G
 exact zFL F hr hg m kp b .nil zBN ha hdb (jN hst) hpl
theorem zHd(G:Good X.prog X.w X.K X.mg X.base k x ps sp)(hr:Room k X.A)(hg:Gl X x)(hdb:(x==("__debug__":Str))=false:=by decide):PE X (.Call (.Name x p) [] [] pos) (nU sp [] E0 qV):=by
 obtain⟨f,fd,F,b,m,kp⟩:=G
 exact zEL F hr hg m kp b .nil zBN hdb
end
def Has(K:W.Frag)(mg:Str->Option Value)(x:Str)(st:Stmt):Prop:=∃(f:Addr) (fd:FuncData),Fun K x x st f fd/\mg x=some (.ref f)
theorem Has.good{P:Program}{w:World}{K:W.Frag}{mg:Str->Option Value}{base:Heap}{x:Str}{st:Stmt}{N ps:List Str}{k:Nat}{sp:Sp}(h:Has K mg x st)(S:bE N ps (aL st))
  (hb:∀(kV doc pm:Value) (an:Option Addr) (cdv ct:Value) (us:List Value),us.length=ps.length->bindArgs (W.fnOf x x (gK st) (fG st) (aL st) .none kV doc pm an cdv ct) ⟨us,[]⟩=pure (ps.zip us))
  (len:∀vs H Q E,sp vs H Q E->vs.length=ps.length)
  (hbody:∀(f:Addr) (cdv:Value) (A:Around) (outer:List Env) (s:Shared) (H:Hp) (vs:List V) (Q:VK) (E:XK),Room k (A.deeper (envOfC x (aL st) s.heap.objs.size f cdv))->sp vs H Q E ->
   ∃t,PSs (jL CX0 P w K mg base N x (aL st) f cdv A outer s H E).nox (fG st) t/\t {nx:=λ_ H'=>Q .non H',rt:=Q} (dS N vs) H):Good P w K mg base (k+1) x ps sp:=by
 obtain⟨f,fd,F,m⟩:=h
 exact⟨f,fd,F.ok S len λcdv A outer s H vs Q E hr q=>hbody f cdv A outer s H vs Q E hr q,F.binds hb,m,F.kp⟩
theorem has_mk{K:W.Frag}{h:Heap}{mg:Str->Option Value}{x:Str}{st:Stmt}{f:Addr}{oc:Value}{od an:Option Addr}{osl:Array (Option Value)}{kV doc pm cdv ct:Value}(X:K.In h)(G:h.Ns mainGlobals mg)
  (a:W.nsIn K mainGlobals x=some (some (.ref f))) (l:K.lookup f=some ⟨oc,od,.func (W.fnOf x x (gK st) (fG st) (aL st) .none kV doc pm an cdv ct),osl⟩)
  (c:W.codeIn K cdv x=true) (k:W.keepIn K (.ref f)=true):Has K mg x st:=⟨f,_,zBx l c k,PySem.W.mg_of X G a⟩
structure Own (mg:Str->Option Value):Prop where
 len:mg "len"=none
 range:mg "range"=none
 isinstance:mg "isinstance"=none
 int_:mg "int"=none
 bool_:mg "bool"=none
 str_:mg "str"=none
 list_:mg "list"=none
 tuple_:mg "tuple"=none
 dict_:mg "dict"=none
 sum:mg "sum"=none
 min:mg "min"=none
 max:mg "max"=none
 all:mg "all"=none
 any:mg "any"=none
 abs:mg "abs"=none
 zip:mg "zip"=none
 sorted:mg "sorted"=none
 set_:mg "set"=none
 enumerate:mg "enumerate"=none
theorem zHg{K:W.Frag}{h:Heap}{mg:Str->Option Value}(X:K.In h)(G:h.Ns mainGlobals mg)(z1:W.nsIn K mainGlobals "len"=some none)(z2:W.nsIn K mainGlobals "range"=some none)
    (z3:W.nsIn K mainGlobals "isinstance"=some none) (z4:W.nsIn K mainGlobals "int"=some none) (z5:W.nsIn K mainGlobals "bool"=some none) (z6:W.nsIn K mainGlobals "str"=some none)
    (z7:W.nsIn K mainGlobals "list"=some none) (z8:W.nsIn K mainGlobals "tuple"=some none) (z9:W.nsIn K mainGlobals "dict"=some none) (z10:W.nsIn K mainGlobals "sum"=some none)
    (z11:W.nsIn K mainGlobals "min"=some none) (z12:W.nsIn K mainGlobals "max"=some none) (z13:W.nsIn K mainGlobals "all"=some none) (z14:W.nsIn K mainGlobals "any"=some none)
    (z15:W.nsIn K mainGlobals "abs"=some none) (z16:W.nsIn K mainGlobals "zip"=some none) (z17:W.nsIn K mainGlobals "sorted"=some none) (z18:W.nsIn K mainGlobals "set"=some none)
    (z19:W.nsIn K mainGlobals "enumerate"=some none):Own mg:=
  ⟨PySem.W.mg_none_of X G z1,PySem.W.mg_none_of X G z2,PySem.W.mg_none_of X G z3,PySem.W.mg_none_of X G z4,PySem.W.mg_none_of X G z5,PySem.W.mg_none_of X G z6,PySem.W.mg_none_of X G z7,PySem.W.mg_none_of X G z8,PySem.W.mg_none_of X G z9,PySem.W.mg_none_of X G z10,
   PySem.W.mg_none_of X G z11,PySem.W.mg_none_of X G z12,PySem.W.mg_none_of X G z13,PySem.W.mg_none_of X G z14,PySem.W.mg_none_of X G z15,PySem.W.mg_none_of X G z16,PySem.W.mg_none_of X G z17,PySem.W.mg_none_of X G z18,PySem.W.mg_none_of X G z19⟩
structure DeckAt (H:Hp) (p c:Addr):Prop where
 ne:p≠c
 dk:∃S k:Int,H p=some (.lst [.ref c,.int S,.int k])
 cs:∃ns:List Int,H c=some (.lst (ns.map V.int))/\ns.length<=64
structure On (p c:Addr) (H H':Hp):Prop where
 d:DeckAt H' p c
 e:∀b o,H b=some o->b≠p->b≠c->H' b=some o
section
variable{p c a:Addr}{H H1 H2:Hp}{o:HO}
theorem DeckAt.nep(d:DeckAt H p c)(h:H a=none):a≠p:=λz=>by
 obtain⟨S,k,e⟩:=d.dk
 rw[z,e]at h;cases h
theorem DeckAt.nec(d:DeckAt H p c)(h:H a=none):a≠c:=λz=>by
 obtain⟨ns,e,_⟩:=d.cs
 rw[z,e]at h;cases h
theorem DeckAt.alloc(d:DeckAt H p c)(h:H a=none):DeckAt (upd H a o) p c:=by
 obtain⟨S,k,e⟩:=d.dk
 obtain⟨ns,e',l⟩:=d.cs
 exact⟨d.ne,⟨S,k,by rw[bI (d.nep h).symm];exact e⟩,ns,by rw[bI (d.nec h).symm];exact e',l⟩
theorem On.trans(x:On p c H H1)(y:On p c H1 H2):On p c H H2:=⟨y.d,λb o h hp hc=>y.e b o (x.e b o h hp hc) hp hc⟩
theorem On.alloc(x:On p c H H1)(h:H1 a=none):On p c H (upd H1 a o):=
 ⟨x.d.alloc h,λb u q hp hc=>by rw[bI (dH (x.e b u q hp hc) h)];exact x.e b u q hp hc⟩
end
def zAy:Sp:=λvs H Q _=>∃n k:Int,vs=[.int n,.int k]/\∀r:Int,Q (.int r) H
def zBg(K:W.Frag):Sp:=λvs H Q _=>∃(a:Addr) (ns:List Int),vs=[.ref a]/\SqL K H a (ns.map V.int)/\∀(p c:Addr) (H':Hp),H p=none->H c=none->DeckAt H' p c->Same H H'->Q (.ref p) H'
def zBf:Sp:=λvs H Q _=>∃(p c:Addr) (m:Int),vs=[.ref p,.int m]/\DeckAt H p c/\0<m/\BigOk m/\∀(r:Int) (H':Hp),0<=r->r<m->On p c H H'->Q (.int r) H'
end L2
namespace L2
open PySem PySem.Spec PyProof.Rows
theorem ObjOk.there{P:Program}{w:World}{H:Hp}{h:Heap}{a:Addr}{o:HO}(x:ObjOk P w H h a o):∃ob,h.get? a=some ob:=by
 cases o with
 |lst xs=>obtain⟨_,_,_,_,e⟩:=x;exact⟨_,e⟩
 |tup xs=>obtain⟨_,_,_,ob,e,_⟩:=x;exact⟨_,e⟩
 |dK kvs=>obtain⟨_,_,_,_,o,_,_,e,_⟩:=x;exact⟨_,e⟩
 |dT kvs=>obtain⟨_,_,_,_,o,_,_,e,_⟩:=x;exact⟨_,e⟩
 |set S n=>obtain⟨o,_,_,_,e,_⟩:=x;exact⟨_,e⟩
 |ins C dx fs=>obtain⟨_,_,_,e,_⟩:=x;exact⟨_,e⟩
 |own y=>obtain⟨_,e⟩:=x;exact⟨_,e⟩
 |xd fs=>obtain⟨_,⟨_,_,_,e,_⟩,_⟩:=x;exact⟨_,e⟩
 |rng lo hi=>obtain⟨_,_,_,e⟩:=x;exact⟨_,e⟩
 |frz ob u=>obtain⟨e,_⟩:=x;exact⟨_,e⟩
 |tbl ps=>exact⟨_,(show h.get? a=some _ from x)⟩
 |met f y=>exact⟨_,(show h.get? a=some _ from x)⟩
 |ext φ=>obtain⟨_,⟨_,e⟩,_⟩:=x;exact⟨_,e⟩
end L2
namespace L2
open PySem PySem.Spec PyProof.Rows
section
variable{X:Cx}
theorem cI{H:Hp}{a:Addr}{o:HO}(h:H a=none):Same H (upd H a o):=λb u q=>by rw[bI (dH q h)];exact q
def zIp(K:W.Frag):R2:=λx y H Q=>∃a b xs ys,x=.ref a/\y=.ref b/\SqT K H a xs/\SqT K H b ys/\xs.length+ys.length<=sizeLine/\∀r H',SqT K H' r (xs++ys)->Same H H'->Q (.ref r) H'
theorem op_catG:OpR X (binaryOp .Add) (zIp X.K):=by
 intro pins s σ H x y v u Q I rx ry h
 obtain⟨a,b,xs,ys,rfl,rfl,ha,hb,hz,q⟩:=h
 by_cases hx:xs=[]
 ·subst hx
  cases rx
  cases ry
  obtain⟨its,r1,p1,_⟩:=I.tuple ha
  obtain⟨its2,r2,p2,_⟩:=I.tuple hb
  obtain⟨⟨cls,dd,data,sl⟩,ho,hc,n,hd⟩:=id p1
  obtain⟨⟨cls2,dd2,data2,sl2⟩,ho2,hc2,n2,hd2⟩:=id p2
  simp only at hc hd hc2 hd2
  subst hc hd hc2 hd2
  have e1:its=[]:=r1.nil_iff.mpr rfl
  exact concat_meets ⟨_,ho,rfl⟩ ⟨_,ho2,rfl⟩ noFill_tuple_add seq_tuple_add PySem.F.slot_tuple_add PySem.F.entry_tuple_add (PySem.F.args_tuple_add_2 _ _)
   (tuple_addW0 a b its.toArray its2.toArray n n2 dd dd2 sl sl2 (by simp[e1])) ⟨ho,ho2,⟨.ref b,H,I,rfl,q b H hb (Same.refl H)⟩⟩
 ·refine zFR pins s σ H (.ref a) (.ref b) v u Q I rx ry ⟨a,b,xs,ys,rfl,rfl,ha,hb,hx,hz,λe=>q a H (by rw[e,List.append_nil];exact ha) (Same.refl H),λ_ p hp=>q p _ (SqT.of bF) (cI hp)⟩
structure QA (X:Cx) (es:List Expr) (t:TA):Prop where
 p:PA X es t
theorem zBk:QA X [] qV:=⟨dL⟩
theorem wR{e:Expr}{es:List Expr}{te:TE}{t:TA}(ha:PE X e te)(hr:QA X es t)(h:eR e=false:=by rfl):QA X (e::es) (vL te t):=⟨cV ha hr.p h⟩
theorem zAJ{es:List Expr}{t:TA}{pos:Pos}(h:QA X es t):PE X (.List es pos) (zB3 t):=zBo h.p
theorem Inv.big{pins:List (Addr×Obj)}{σ:St}{H:Hp}{s:Shared}(I:Inv X pins σ H s):sysModules<s.heap.objs.size:=by
 have h:mainGlobals<s.heap.objs.size:=(I.mod.glob.keeps I.bk).lt
 exact Nat.lt_trans (by decide) h
theorem zAl{P:Program}{w:World}{H:Hp}(h:Heap)(hb:sysModules<h.objs.size):ObjOk P w H (h.push {cls:=.type "dict",data:=.dict #[]}) h.objs.size (.dK []):=
 ⟨Nat.zero_le _,beq_eq_false_iff_ne.mpr (Ne.symm (Nat.ne_of_lt hb)),[],.nil,Heap.DictOf.new h⟩
def zGD:TE:=λ_ H Q=>∀p,H p=none->Q (.ref p) (upd H p (.dK []))
theorem zEI{pos:Pos}:PE X (.Dict [] [] pos) zGD:=λpins s σ H Q I h=>
 wpAny_Dict_empty ⟨.ref s.heap.objs.size,_,I.laid (a:=s.heap.objs.size) (o:=.dK []) (t':=s.toks) (λ_ _ q=>Heap.get?_push_of_some _ q) (Nat.le_refl _) (zAl s.heap I.big),rfl,h _ (I.hok.fresh (Nat.le_refl _))⟩
end
end L2
namespace L2
open PySem PySem.Spec PyProof.Rows
section
variable{prog:Program}{w:World}{A:Around}{E:Value->Shared->Prop}{s:Shared}
theorem zDd{j t:Addr}{k:Nat}{vs:Array Value}{v:Value}{Q:Value->Shared->Prop}(hj:s.heap.IsTupleIter j t k)(ht:s.heap.IsTuple t vs)(hv:vs[k]?=some v)
  (q:∀h',h'.IsTupleIter j t (k+1)->Heap.SameBut j s.heap h'->Q v {s with heap:=h'}):wpAny (model prog w) A (Builtin.SmallTypes.nextOf (.ref j)) Q E s:=by
 obtain⟨oj,ej,cj,dj⟩:=id hj
 obtain⟨ot,et,_,nt,dt⟩:=id ht
 unfold Builtin.SmallTypes.nextOf
 refine wpAny_bind (wpAny_callSpecial?_slot (name:=Str.ofString "__next__") hj.typeIs F.slot_tuple_iterator_next (wpAny_call_entry F.slot_tuple_iterator_next hj.typeIs F.entry_tuple_iterator_next ?_ (F.args_tuple_iterator_next_1 _)))
 refine wpAny_bind (m:=field (.ref j) 0) (wpAny_field ej dj (x:=.ref t) rfl ?_)
 have nn:¬ ((Value.ref t==Value.none)=true):=Bool.false_ne_true
 show wpAny (model prog w) A.in1 (if (Value.ref t==Value.none)=true then _ else _) _ _ s
 rw[if_neg nn]
 refine wpAny_bind (m:=field (.ref j) 1) (wpAny_field ej dj (x:=.int k 0) rfl (wpAny_bind (m:=seqItems? (.ref t)) (wpAny_seqItems et dt ?_)))
 simp only[Int.toNat_natCast,hv]
 refine wpAny_bind (wpAny_setField ej dj (by simp) (wpAny_pure ⟨v,rfl,wpAny_pure (q _ ⟨_,Heap.get?_update_self _ ej (Obj.isFreed_of_fields (Obj.data_mapFields dj _)),(Obj.cls_mapFields ..).trans cj,?_⟩ (Heap.SameBut.update ..))⟩))
 rw[Obj.data_mapFields dj]
 simp[rawInt]
theorem zDP{j t:Addr}{k:Nat}{vs:Array Value}{Q:Value->Shared->Prop}(hh:A.handled=none)(hj:s.heap.IsTupleIter j t k)(ht:s.heap.IsTuple t vs)(hv:vs[k]?=none)
  (q:∀h' e,Heap.ExtBut j s.heap h'->(∃o,h'.get? e=some o/\o.cls=.type "StopIteration")->E (.ref e) {s with heap:=h'}):wpAny (model prog w) A (Builtin.SmallTypes.nextOf (.ref j)) Q E s:=by
 obtain⟨oj,ej,cj,dj⟩:=id hj
 obtain⟨ot,et,_,nt,dt⟩:=id ht
 unfold Builtin.SmallTypes.nextOf
 refine wpAny_bind (wpAny_callSpecial?_slot (name:=Str.ofString "__next__") hj.typeIs F.slot_tuple_iterator_next (wpAny_call_entry F.slot_tuple_iterator_next hj.typeIs F.entry_tuple_iterator_next ?_ (F.args_tuple_iterator_next_1 _)))
 refine wpAny_bind (m:=field (.ref j) 0) (wpAny_field ej dj (x:=.ref t) rfl ?_)
 have nn:¬ ((Value.ref t==Value.none)=true):=Bool.false_ne_true
 show wpAny (model prog w) A.in1 (if (Value.ref t==Value.none)=true then _ else _) _ _ s
 rw[if_neg nn]
 refine wpAny_bind (m:=field (.ref j) 1) (wpAny_field ej dj (x:=.int k 0) rfl (wpAny_bind (m:=seqItems? (.ref t)) (wpAny_seqItems et dt ?_)))
 simp only[Int.toNat_natCast,hv]
 refine wpAny_bind (wpAny_rule (wpAny_bind (wpAny_setField ej dj (by simp) (wpAny_bind (m:=newExc (.type "StopIteration") []) ?_))))
 unfold newExc newTuple
 refine wpAny_bind (wpAny_newObj_type (wpAny_bind (m:=firstArgMember _ _) (wpAny_of_eq (a:=Value.none) (by first|rfl|(simp only[firstArgMember];rfl)) (wpAny_newObj_type ?_ (by size_fits)))) (by size_fits))
 unfold raiseNew
 refine wpAny_bind (wpAny_handled ?_)
 rw[show A.in1.handled=none from hh]
 exact wpAny_bind (wpAny_pure (wpAny_throw (q _ _ (((Heap.SameBut.update ..).extBut.push _).push _) ⟨_,Heap.get?_push_size _ rfl,rfl⟩)))
structure kB (prog:Program) (w:World) (i l:Addr) (it:Nat->Heap->Prop) (sq:Heap->Array Value->Prop):Prop where
 obj:∀k h,it k h->∃o,h.get? i=some o/\∀v,o.data≠.cell v
 itk:∀k h h',it k h->(∀o,h.get? i=some o->h'.get? i=some o)->it k h'
 sqk:∀h h' vs,sq h vs->(∀o,h.get? l=some o->h'.get? l=some o)->sq h' vs
 item:∀(A:Around) (E:Value->Shared->Prop) (s:Shared) (k:Nat) (vs:Array Value) (v:Value) (Q:Value->Shared->Prop),it k s.heap->sq s.heap vs->vs[k]?=some v ->
  (∀h',it (k+1) h'->Heap.SameBut i s.heap h'->Q v {s with heap:=h'})->wpAny (model prog w) A (Builtin.SmallTypes.nextOf (.ref i)) Q E s
 done:∀(A:Around) (E:Value->Shared->Prop) (s:Shared) (k:Nat) (vs:Array Value) (Q:Value->Shared->Prop),A.handled=none->it k s.heap->sq s.heap vs->vs[k]?=none ->
  (∀h' e,Heap.ExtBut i s.heap h'->(∃o,h'.get? e=some o/\o.cls=.type "StopIteration")->E (.ref e) {s with heap:=h'})->wpAny (model prog w) A (Builtin.SmallTypes.nextOf (.ref i)) Q E s
theorem zDw(i l:Addr):kB prog w i l (λk h=>h.IsListIter i l k) (λh vs=>h.IsList l vs) where
 obj:=λk h x=>let ⟨o,e,_,d⟩:=x;⟨o,e,λv z=>by rw[d]at z;cases z⟩
 itk:=λk h h' x f=>let ⟨o,e,r⟩:=x;⟨o,f o e,r⟩
 sqk:=λh h' vs x f=>let ⟨o,e,r⟩:=x;⟨o,f o e,r⟩
 item:=λA E s k vs v Q a b c q=>wpAny_nextOf_list_item a b c q
 done:=λA E s k vs Q hh a b c q=>wpAny_nextOf_list_end hh a b c q
theorem zEu(i l:Addr):kB prog w i l (λk h=>h.IsTupleIter i l k) (λh vs=>h.IsTuple l vs) where
 obj:=λk h x=>let ⟨o,e,_,d⟩:=x;⟨o,e,λv z=>by rw[d]at z;cases z⟩
 itk:=λk h h' x f=>let ⟨o,e,r⟩:=x;⟨o,f o e,r⟩
 sqk:=λh h' vs x f=>let ⟨o,e,r⟩:=x;⟨o,f o e,r⟩
 item:=λA E s k vs v Q a b c q=>zDd a b c q
 done:=λA E s k vs Q hh a b c q=>zDP hh a b c q
section
variable{z TI TO i1 i2 l1 l2:Addr}{it1 it2:Nat->Heap->Prop}{sq1 sq2:Heap->Array Value->Prop}
theorem zFd(S1:kB prog w i1 l1 it1 sq1)(S2:kB prog w i2 l2 it2 sq2)(D:ZipApart z TI TO i1 i2 l1 l2){k1 k2:Nat}{xs ys:Array Value}{x y a b:Value}{Q:Value->Shared->Prop}
  (hz:IsZip s.heap z TI TO .none) (hI:IsPair s.heap TI (.ref i1) (.ref i2)) (hO:IsPair s.heap TO a b) (j1:it1 k1 s.heap) (j2:it2 k2 s.heap) (q1:sq1 s.heap xs) (q2:sq2 s.heap ys)
  (hx:xs[k1]?=some x) (hy:ys[k2]?=some y)
  (q:∀h',IsZip h' z TI TO (rawInt s.heap.objs.size)->IsPair h' TO x y->it1 (k1+1) h'->it2 (k2+1) h'->IsPair h' s.heap.objs.size x y->h'.objs.size=s.heap.objs.size+1 ->
   (∀c o,c≠z->c≠TO->c≠i1->c≠i2->s.heap.get? c=some o->h'.get? c=some o)->Q (.ref s.heap.objs.size) {s with heap:=h'}):
  wpAny (model prog w) A (Builtin.«zip.__next__» ⟨[.ref z],[]⟩) (λf s'=>∃v,f=.done (.ret v)/\Q v s') E s:=by
 refine wpAny_bind (m:=field (.ref z) 2) (wpAny_field hz rfl (x:=.bool false) rfl (wpAny_bind (m:=field (.ref z) 3) (wpAny_field hz rfl (x:=.ref TI) rfl (wpAny_bind (wpAny_seqItems hI rfl ?_)))))
 refine wpAny_bind (m:=Builtin.SmallTypes.ownedTupleIsFree (.ref z)) (wpAny_bind (wpAny_field hz rfl (x:=.none) rfl (wpAny_pure ?_)))
 simp only[if_true]
 refine wpAny_bind (wpAny_rule (wpAny_bind (wpAny_field hz rfl (x:=.ref TO) rfl (wpAny_bind (wpAny_setField_rec hz (by simp) λh1 hz1 s1=>?_)))))
 have hz1:IsZip h1 z TI TO .ellipsis:=hz1
 refine wpAny_bind ?_
 simp only[List.zipIdx_cons,List.zipIdx_nil,List.forIn_cons,List.forIn_nil]
 have e1:∀c o,c≠z->s.heap.get? c=some o->h1.get? c=some o:=λc o hc e=>s1.extBut _ _ hc e
 refine wpAny_bind (wpAny_bind (wpAny_onRaise (wpAny_bind (m:=Builtin.SmallTypes.nextOf (.ref i1)) (S1.item _ _ _ k1 xs x _ (S1.itk _ _ _ j1 λo e=>e1 _ o D.i1z e) (S1.sqk _ _ _ q1 λo e=>e1 _ o D.l1z e) hx λh2 j1' s2=>wpAny_pure ?_))))
 have e2:∀c o,c≠z->c≠i1->s.heap.get? c=some o->h2.get? c=some o:=λc o c1 c2 e=>s2.extBut _ _ c2 (e1 c o c1 e)
 have hO2:IsPair h2 TO a b:=e2 _ _ D.TOz D.TOi1 hO
 refine wpAny_bind (wpAny_seqItems hO2 rfl (wpAny_bind (wpAny_updateSeq_pair hO2 λh3 hO3 s3=>wpAny_bind (wpAny_letGo (wpAny_pure ?_)))))
 have hO3:IsPair h3 TO x b:=hO3
 have e3:∀c o,c≠z->c≠i1->c≠TO->s.heap.get? c=some o->h3.get? c=some o:=λc o c1 c2 c3 e=>s3.extBut _ _ c3 (e2 c o c1 c2 e)
 refine wpAny_bind (wpAny_bind (wpAny_onRaise (wpAny_bind (m:=Builtin.SmallTypes.nextOf (.ref i2)) (S2.item _ _ _ k2 ys y _ (S2.itk _ _ _ j2 λo e=>e3 _ o D.i2z D.i12.symm D.TOi2.symm e) (S2.sqk _ _ _ q2 λo e=>e3 _ o D.l2z D.l2i1 D.l2TO e) hy λh4 j2' s4=>wpAny_pure ?_))))
 have hO4:IsPair h4 TO x b:=s4.extBut _ _ D.TOi2 hO3
 refine wpAny_bind (wpAny_seqItems hO4 rfl (wpAny_bind (wpAny_updateSeq_pair hO4 λh5 hO5 s5=>wpAny_bind (wpAny_letGo (wpAny_pure (wpAny_pure ?_))))))
 have hO5:IsPair h5 TO x y:=hO5
 refine wpAny_bind (wpAny_seqItems hO5 rfl (wpAny_bind (wpAny_newTuple ?_)))
 have hs5:h5.objs.size=s.heap.objs.size:=by rw[s5.1,s4.1,s3.1,s2.1,s1.1]
 have hz5:IsZip h5 z TI TO .ellipsis:=s5.extBut _ _ D.TOz.symm (s4.extBut _ _ D.i2z.symm (s3.extBut _ _ D.TOz.symm (s2.extBut _ _ D.i1z.symm hz1)))
 have e5:∀c o,c≠z->c≠TO->c≠i1->c≠i2->s.heap.get? c=some o->h5.get? c=some o:=λc o c1 c2 c3 c4 e=>s5.extBut _ _ c2 (s4.extBut _ _ c4 (e3 c o c1 c3 c2 e))
 have lz:z<h5.objs.size:=Heap.lt_size hz5
 refine wpAny_bind (m:=Builtin.SmallTypes.ownedTupleHandOut (.ref z) (.ref h5.objs.size)) ?_
 unfold Builtin.SmallTypes.ownedTupleHandOut
 have hz6:IsZip (h5.push {cls:=.type "tuple",data:=.seq #[x,y]}) z TI TO .ellipsis:=Heap.get?_push_of_some _ hz5
 refine wpAny_bind (wpAny_setField_rec hz6 (by simp) λh7 hz7 s7=>?_)
 have hz7:IsZip h7 z TI TO (rawInt h5.objs.size):=hz7
 refine wpAny_setField_rec hz7 (by simp) λh8 hz8 s8=>?_
 have hz8:IsZip h8 z TI TO (rawInt h5.objs.size):=hz8
 have e8:∀c o,c≠z->h5.get? c=some o->h8.get? c=some o:=λc o c1 e=>s8.extBut _ _ c1 (s7.extBut _ _ c1 (Heap.get?_push_of_some _ e))
 have p8:IsPair h8 h5.objs.size x y:=s8.extBut _ _ (Nat.ne_of_gt lz) (s7.extBut _ _ (Nat.ne_of_gt lz) (Heap.get?_push_size _ rfl))
 have n8:h8.objs.size=h5.objs.size+1:=by rw[s8.1,s7.1,Heap.size_push]
 rw[hs5]at hz8 p8 n8
 refine wpAny_pure ⟨_,rfl,?_⟩
 show Q (Value.ref h5.objs.size) _
 rw[hs5]
 exact q h8 hz8 (e8 _ _ D.TOz hO5) (S1.itk _ _ _ j1' λo e=>e8 _ o D.i1z (s5.extBut _ _ D.TOi1.symm (s4.extBut _ _ D.i12 (s3.extBut _ _ D.TOi1.symm e)))) (S2.itk _ _ _ j2' λo e=>e8 _ o D.i2z (s5.extBut _ _ D.TOi2.symm e)) p8 n8
  λc o c1 c2 c3 c4 e=>e8 c o c1 (e5 c o c1 c2 c3 c4 e)
theorem zGo(S1:kB prog w i1 l1 it1 sq1)(S2:kB prog w i2 l2 it2 sq2)(D:ZipApart z TI TO i1 i2 l1 l2)(hh:A.handled=none){k1 k2:Nat}{xs ys:Array Value}{a b:Value}{Q:Fin->Shared->Prop}
  (hz:IsZip s.heap z TI TO .none) (hI:IsPair s.heap TI (.ref i1) (.ref i2)) (hO:IsPair s.heap TO a b) (j1:it1 k1 s.heap) (j2:it2 k2 s.heap) (q1:sq1 s.heap xs) (q2:sq2 s.heap ys)
  (hn:xs[k1]?=none\/ys[k2]?=none)
  (q:∀h' e,(∀c o,c≠z->c≠TO->c≠i1->c≠i2->s.heap.get? c=some o->h'.get? c=some o)->(∃o,h'.get? e=some o/\o.cls=.type "StopIteration")->E (.ref e) {s with heap:=h'}):
  wpAny (model prog w) A (Builtin.«zip.__next__» ⟨[.ref z],[]⟩) Q E s:=by
 refine wpAny_bind (m:=field (.ref z) 2) (wpAny_field hz rfl (x:=.bool false) rfl (wpAny_bind (m:=field (.ref z) 3) (wpAny_field hz rfl (x:=.ref TI) rfl (wpAny_bind (wpAny_seqItems hI rfl ?_)))))
 refine wpAny_bind (m:=Builtin.SmallTypes.ownedTupleIsFree (.ref z)) (wpAny_bind (wpAny_field hz rfl (x:=.none) rfl (wpAny_pure ?_)))
 simp only[if_true]
 refine wpAny_bind (wpAny_rule (wpAny_bind (wpAny_field hz rfl (x:=.ref TO) rfl (wpAny_bind (wpAny_setField_rec hz (by simp) λh1 hz1 s1=>?_)))))
 have hz1:IsZip h1 z TI TO .ellipsis:=hz1
 refine wpAny_bind ?_
 simp only[List.zipIdx_cons,List.zipIdx_nil,List.forIn_cons,List.forIn_nil]
 have e1:∀c o,c≠z->s.heap.get? c=some o->h1.get? c=some o:=λc o hc e=>s1.extBut _ _ hc e
 have ez:∀{h:Heap} {e:Addr} {o:Obj},IsZip h z TI TO .ellipsis->h.get? e=some o->o.cls=.type "StopIteration"->e≠z:=λhz ho hc x=>by
  subst x
  rw[hz]at ho
  cases ho
  simp at hc
 cases hx:xs[k1]? with
 |none=>
  refine wpAny_bind (wpAny_bind (wpAny_onRaise (wpAny_bind (m:=Builtin.SmallTypes.nextOf (.ref i1)) (S1.done _ _ _ k1 xs _ hh (S1.itk _ _ _ j1 λo e=>e1 _ o D.i1z e) (S1.sqk _ _ _ q1 λo e=>e1 _ o D.l1z e) hx λh2 e s2 he=>?_))))
  obtain⟨oe,ho,hc⟩:=he
  have hz2:IsZip h2 z TI TO .ellipsis:=s2 _ _ D.i1z.symm hz1
  exact wpAny_setField_rec hz2 (by simp) λh3 _ s3=>q h3 e (λc o c1 _ c3 _ u=>s3.extBut _ _ c1 (s2 _ _ c3 (e1 c o c1 u))) ⟨oe,s3.extBut _ _ (ez hz2 ho hc) ho,hc⟩
 |some x=>
  have hy:ys[k2]?=none:=by
   rcases hn with h|h
   ·rw[hx]at h;cases h
   ·exact h
  refine wpAny_bind (wpAny_bind (wpAny_onRaise (wpAny_bind (m:=Builtin.SmallTypes.nextOf (.ref i1)) (S1.item _ _ _ k1 xs x _ (S1.itk _ _ _ j1 λo e=>e1 _ o D.i1z e) (S1.sqk _ _ _ q1 λo e=>e1 _ o D.l1z e) hx λh2 j1' s2=>wpAny_pure ?_))))
  have e2:∀c o,c≠z->c≠i1->s.heap.get? c=some o->h2.get? c=some o:=λc o c1 c2 e=>s2.extBut _ _ c2 (e1 c o c1 e)
  have hO2:IsPair h2 TO a b:=e2 _ _ D.TOz D.TOi1 hO
  refine wpAny_bind (wpAny_seqItems hO2 rfl (wpAny_bind (wpAny_updateSeq_pair hO2 λh3 hO3 s3=>wpAny_bind (wpAny_letGo (wpAny_pure ?_)))))
  have e3:∀c o,c≠z->c≠i1->c≠TO->s.heap.get? c=some o->h3.get? c=some o:=λc o c1 c2 c3 e=>s3.extBut _ _ c3 (e2 c o c1 c2 e)
  refine wpAny_bind (wpAny_bind (wpAny_onRaise (wpAny_bind (m:=Builtin.SmallTypes.nextOf (.ref i2)) (S2.done _ _ _ k2 ys _ hh (S2.itk _ _ _ j2 λo e=>e3 _ o D.i2z D.i12.symm D.TOi2.symm e) (S2.sqk _ _ _ q2 λo e=>e3 _ o D.l2z D.l2i1 D.l2TO e) hy λh4 e s4 he=>?_))))
  obtain⟨oe,ho,hc⟩:=he
  have hz4:IsZip h4 z TI TO .ellipsis:=s4 _ _ D.i2z.symm (s3.extBut _ _ D.TOz.symm (s2.extBut _ _ D.i1z.symm hz1))
  exact wpAny_setField_rec hz4 (by simp) λh5 _ s5=>q h5 e (λc o c1 c2 c3 c4 u=>s5.extBut _ _ c1 (s4 _ _ c4 (e3 c o c1 c3 c2 u))) ⟨oe,s5.extBut _ _ (ez hz4 ho hc) ho,hc⟩
end
abbrev zT1(hp:Heap)(a b:Addr):Heap:=hp.push {cls:=.type "tuple_iterator",data:=.fields #[.ref a,.int 0 0]}
abbrev zT2(hp:Heap)(a b:Addr):Heap:=(zT1 hp a b).push {cls:=.type "tuple_iterator",data:=.fields #[.ref b,.int 0 0]}
abbrev zT3(hp:Heap)(a b:Addr):Heap:=(zT2 hp a b).push {cls:=.type "tuple",data:=.seq #[.ref hp.objs.size,.ref (zT1 hp a b).objs.size]}
abbrev zT4(hp:Heap)(a b:Addr):Heap:=(zT3 hp a b).push {cls:=.type "tuple",data:=.seq #[.none,.none]}
abbrev zT5(hp:Heap)(a b:Addr):Heap:=(zT4 hp a b).push {cls:=.type "zip",data:=.fields #[.none,.bool false,.bool false,.ref (zT2 hp a b).objs.size,.ref (zT3 hp a b).objs.size]}
theorem zEk(a b:Addr)(xs ys:Array Value):Meets (Builtin.«zip.__new__» ⟨[.type "zip",.ref a,.ref b],[]⟩) (λ_ R s=>s.heap.IsTuple a xs/\s.heap.IsTuple b ys/\R (.ok (.ret (.ref (zT4 s.heap a b).objs.size))) {s with heap:=zT5 s.heap a b}):=
 .of_wp λprog w A R s h=>by
  obtain⟨hp,g,d,tk,os⟩:=s
  obtain⟨ha,hb,h⟩:=h
  have sz:=sub_zip
  have ha:Heap.IsTuple (Shared.heap ⟨hp,g,d,tk,os⟩) a xs:=ha
  have hb:Heap.IsTuple (Shared.heap ⟨hp.push {cls:=.type "tuple_iterator",data:=.fields #[.ref a,.int 0 0]},g,d,tk,os⟩) b ys:=Heap.IsTuple.push hb _
  wp_walk using wpAny_pyIter_tuple ha,wpAny_pyIter_tuple hb
  exact⟨_,rfl,h⟩
theorem zD9{a b:Addr}{xs ys:Array Value}{Q:Value->Shared->Prop}(ha:s.heap.IsTuple a xs)(hb:s.heap.IsTuple b ys)
  (q:∀h',IsZip h' (s.heap.objs.size+4) (s.heap.objs.size+2) (s.heap.objs.size+3) .none->IsPair h' (s.heap.objs.size+2) (.ref s.heap.objs.size) (.ref (s.heap.objs.size+1))->IsPair h' (s.heap.objs.size+3) .none .none ->
   h'.IsTupleIter s.heap.objs.size a 0->h'.IsTupleIter (s.heap.objs.size+1) b 0->h'.objs.size=s.heap.objs.size+5->(∀c o,s.heap.get? c=some o->h'.get? c=some o)->Q (.ref (s.heap.objs.size+4)) {s with heap:=h'}):
  wpAny (model prog w) A (call (.type "zip") [.ref a,.ref b]) Q E s:=by
 refine callType_new F.called_zip (by decide) (F.typeCall_zip_2 _ _) (F.newCall_zip_2 _ _) (λo=>F.args_object_init_3 o _ _) F.entry_zip_new (zEk a b xs ys) ⟨ha,hb,?_⟩
 have n1:(zT1 s.heap a b).objs.size=s.heap.objs.size+1:=Heap.size_push ..
 have n2:(zT2 s.heap a b).objs.size=s.heap.objs.size+2:=by rw[Heap.size_push,n1]
 have n3:(zT3 s.heap a b).objs.size=s.heap.objs.size+3:=by rw[Heap.size_push,n2]
 have n4:(zT4 s.heap a b).objs.size=s.heap.objs.size+4:=by rw[Heap.size_push,n3]
 have n5:(zT5 s.heap a b).objs.size=s.heap.objs.size+5:=by rw[Heap.size_push,n4]
 have p5:(zT5 s.heap a b).get? (zT4 s.heap a b).objs.size=some _:=Heap.get?_push_size _ rfl
 have p4:(zT5 s.heap a b).get? (zT3 s.heap a b).objs.size=some _:=Heap.get?_push_of_some _ (Heap.get?_push_size _ rfl)
 have p3:(zT5 s.heap a b).get? (zT2 s.heap a b).objs.size=some _:=Heap.get?_push_of_some _ (Heap.get?_push_of_some _ (Heap.get?_push_size _ rfl))
 have p2:(zT5 s.heap a b).get? (zT1 s.heap a b).objs.size=some _:=Heap.get?_push_of_some _ (Heap.get?_push_of_some _ (Heap.get?_push_of_some _ (Heap.get?_push_size _ rfl)))
 have p1:(zT5 s.heap a b).get? s.heap.objs.size=some _:=Heap.get?_push_of_some _ (Heap.get?_push_of_some _ (Heap.get?_push_of_some _ (Heap.get?_push_of_some _ (Heap.get?_push_size _ rfl))))
 show _/\_
 rw[n2,n3,n4]at p5
 rw[n1,n2]at p3
 rw[n3]at p4
 rw[n1]at p2
 rw[n4]
 exact⟨⟨_,p5,rfl⟩,q _ p5 p3 p4 ⟨_,p1,rfl,rfl⟩ ⟨_,p2,rfl,rfl⟩ n5 λc o e=>Heap.get?_push_of_some _ (Heap.get?_push_of_some _ (Heap.get?_push_of_some _ (Heap.get?_push_of_some _ (Heap.get?_push_of_some _ e))))⟩
end
section
variable{X:Cx}{pins:List (Addr×Obj)}{σ:St}{H:Hp}{s:Shared}{h':Heap}
theorem Inv.turnedL{t':Nat}{ch:List Addr}(I:Inv X pins σ H s)(hf:∀b∈ch,dD X pins H b)(k:∀b o,b∉ch->s.heap.get? b=some o->h'.get? b=some o):Inv X pins σ H {s with heap:=h',toks:=t'}:=by
 have nit:∀b u,H b=some u->b∉ch:=λb u e z=>by rw[(hf b z).1]at e;cases e
 refine I.step (g':=s.gens) (d':=s.drawn) (ch:=ch) (λb hb=>?_) (λb o _ _ hc e _=>k b o hc e) (λb o _ _ hc e _=>⟨o.slots,k b o hc e⟩) (λ_ _ _ _ n=>n)
  (λb o hc e=>⟨o,k b o hc e⟩) (λ_ _ e=>e) (λ_ _ _ e=>e) (λb ps e=>⟨#[],by rw[e];simp⟩) (λm hm=>?_) (λb u e=>?_) I.bare
 ·obtain⟨_,f1,_,f3,f4,f5⟩:=hf b hb
  exact⟨f3,f1,f4,f5⟩
 ·obtain⟨o,es,ep,ho,r⟩:=hm
  exact⟨o,es,ep,k _ o (λz=>(hf _ z).2.1 rfl) ho,r⟩
 ·refine(I.hok b u e).stay (λc v hc q=>k c v ?_ q) (λ_ q=>q) λ_ _ q=>q
  rcases hc with z|z
  ·rw[z];exact nit b u e
  ·exact nit c _ z
end
def SqX(t:Bool)(K:W.Frag)(H:Hp)(a:Addr)(xs:List V):Prop:=match t with
 |false=>SqL K H a xs
 |true=>SqT K H a xs
def Itz(t:Bool)(K:W.Frag)(a b:Addr):It:=
  ⟨λi H=>∃xs ys x y,SqX t K H a xs/\SqX t K H b ys/\xs[i]?=some x/\ys[i]?=some y,
   λi H v H'=>∃p x y,v=.ref p/\H p=none/\H'=upd H p (.tup [x,y])/\(∀xs,SqX t K H a xs->xs[i]?=some x)/\∀ys,SqX t K H b ys->ys[i]?=some y,
   λi H=>∃xs ys,SqX t K H a xs/\SqX t K H b ys/\(xs.length<=i\/ys.length<=i)⟩
def itX(t:Bool)(i a:Addr)(k:Nat)(h:Heap):Prop:=match t with
 |false=>h.IsListIter i a k
 |true=>h.IsTupleIter i a k
def sqX(t:Bool)(a:Addr)(h:Heap)(vs:Array Value):Prop:=match t with
 |false=>h.IsList a vs
 |true=>h.IsTuple a vs
theorem fL{prog:Program}{w:World}(t:Bool)(i a:Addr):kB prog w i a (itX t i a) (sqX t a):=by
 cases t
 ·exact zDw i a
 ·exact zEu i a
section
variable{X:Cx}{pins:List (Addr×Obj)}{σ:St}{H:Hp}{s:Shared}
theorem Inv.sqX{t:Bool}{a:Addr}{xs:List V}(I:Inv X pins σ H s)(h:SqX t X.K H a xs):∃vs:List Value,Vals xs vs/\L2.sqX t a s.heap vs.toArray/\xs.length<=sizeLine:=by
 cases t
 ·obtain⟨its,r,p,hz⟩:=I.list h
  exact⟨its,r,p.isList,hz⟩
 ·obtain⟨its,r,p,hz⟩:=I.tuple h
  exact⟨its,r,p,hz⟩
theorem Inv.sqX_inj{t:Bool}{a:Addr}{xs ys:List V}(I:Inv X pins σ H s)(h:SqX t X.K H a xs)(h':SqX t X.K H a ys):xs=ys:=by
 cases t
 ·exact I.list_inj h h'
 ·exact I.tuple_inj h h'
end
theorem zEr{P:Program}{w:World}{K:W.Frag}{es:List Expr}{ek:Nat}{pos:Pos}(t:Bool)(a b z TI TO i1 i2:Addr)(D:ZipApart z TI TO i1 i2 a b):
  fW P w K (.Tuple es ek pos) (Itz t K a b) [z,TI,TO,i1,i2] z (λi h=>IsZip h z TI TO .none/\IsPair h TI (.ref i1) (.ref i2)/\(∃x y,IsPair h TO x y)/\itX t i1 a i h/\itX t i2 b i h) where
 mem:=by simp
 obj:=λi h st c hc=>by
  obtain⟨hz,hI,⟨x,y,hO⟩,j1,j2⟩:=st
  simp only[List.mem_cons,List.not_mem_nil,or_false]at hc
  rcases hc with e|e|e|e|e<;>subst e
  ·exact⟨_,hz,λv u=>by cases u⟩
  ·exact⟨_,hI,λv u=>by cases u⟩
  ·exact⟨_,hO,λv u=>by cases u⟩
  ·exact(fL (prog:=P) (w:=w) t _ a).obj _ _ j1
  ·exact(fL (prog:=P) (w:=w) t _ b).obj _ _ j2
 keep:=λi h h' st k=>by
  obtain⟨hz,hI,⟨x,y,hO⟩,j1,j2⟩:=st
  exact⟨k z (by simp) _ hz,k TI (by simp) _ hI,⟨x,y,k TO (by simp) _ hO⟩,(fL (prog:=P) (w:=w) t i1 a).itk _ _ _ j1 λo e=>k i1 (by simp) o e,(fL (prog:=P) (w:=w) t i2 b).itk _ _ _ j2 λo e=>k i2 (by simp) o e⟩
 item:=by
  intro X hP hw hK hc i pins s σ H E I hf st hg
  subst hP hw hK
  obtain⟨xs,ys,x,y,qa,qb,hx,hy⟩:=hg
  obtain⟨hz,hI,⟨x0,y0,hO⟩,j1,j2⟩:=st
  obtain⟨va,ra,pa,za⟩:=I.sqX qa
  obtain⟨vb,rb,pb,zb⟩:=I.sqX qb
  obtain⟨u,hu,ru⟩:=ra.get hx
  obtain⟨v,hv,rv⟩:=rb.get hy
  have hT:s.TypeIs (.ref z) "zip":=⟨_,hz,rfl⟩
  unfold pyNext
  refine wpAny_bind (wpAny_attempt (wpAny_callSpecial?_slot (name:=Str.ofString "__next__") hT F.slot_zip_next (wpAny_call_entry F.slot_zip_next hT F.entry_zip_next (zFd (fL t i1 a) (fL t i2 b) D hz hI hO j1 j2 pa pb (x:=u) (y:=v) (by simpa using hu) (by simpa using hv)
   λh' a1 a2 a3 a4 a5 a6 a7=>wpAny_pure ⟨_,rfl,?_⟩) (F.args_zip_next_1 _))))
  refine wpAny_letOwnedTupleGo_zip (s:={s with heap:=h'}) a1 λh2 b1 b2=>?_
  have hn:∀c∈[z,TI,TO,i1,i2],c≠s.heap.objs.size:=λc hc' e=>by
   obtain⟨o,ho,_⟩:∃o,s.heap.get? c=some o/\True:=by
    simp only[List.mem_cons,List.not_mem_nil,or_false]at hc'
    rcases hc' with q|q|q|q|q
    ·exact⟨_,q▸hz,trivial⟩
    ·exact⟨_,q▸hI,trivial⟩
    ·exact⟨_,q▸hO,trivial⟩
    ·obtain⟨o,ho,_⟩:=(fL (prog:=X.prog) (w:=X.w) t i1 a).obj _ _ j1;exact⟨o,q▸ho,trivial⟩
    ·obtain⟨o,ho,_⟩:=(fL (prog:=X.prog) (w:=X.w) t i2 b).obj _ _ j2;exact⟨o,q▸ho,trivial⟩
   exact absurd (Heap.lt_size ho) (by rw[e];exact Nat.lt_irrefl _)
  have I0:Inv X pins σ (upd H s.heap.objs.size (.tup [x,y])) {s with heap:=s.heap.push {cls:=.type "tuple",data:=.seq #[u,v]}}:=
   I.laid (t':=s.toks) (λc o e=>Heap.get?_push_of_some _ e) (Nat.le_refl _) ⟨by show 2<=sizeLine;decide,[u,v],.cons ru (.cons rv .nil),IsTup.new _ _⟩
  have hf0:∀c∈[z,TI,TO,i1,i2],dD X pins (upd H s.heap.objs.size (.tup [x,y])) c:=λc hc'=>⟨by rw[bI (hn c hc')];exact(hf c hc').1,(hf c hc').2⟩
  have I1:Inv X pins σ (upd H s.heap.objs.size (.tup [x,y])) {s with heap:=h2}:=Inv.turnedL (s:={s with heap:=s.heap.push {cls:=.type "tuple",data:=.seq #[u,v]}}) (t':=s.toks) (ch:=[z,TI,TO,i1,i2]) I0 hf0 λc o hc' e=>by
   simp only[List.mem_cons,List.not_mem_nil,or_false,not_or]at hc'
   obtain⟨c1,c2,c3,c4,c5⟩:=hc'
   by_cases hcn:c=s.heap.objs.size
   ·subst hcn
    have e':(s.heap.push {cls:=.type "tuple",data:=.seq #[u,v]}).get? s.heap.objs.size=some o:=e
    rw[Heap.get?_push_size _ rfl]at e'
    cases e'
    exact b2.extBut _ _ c1 a5
   ·refine b2.extBut _ _ c1 (a7 c o c1 c3 c4 c5 ?_)
    have e':(s.heap.push {cls:=.type "tuple",data:=.seq #[u,v]}).get? c=some o:=e
    rw[Heap.get?_push_ne _ _ _ hcn]at e'
    exact e'
  refine⟨.ref s.heap.objs.size,_,I1,rfl,⟨_,x,y,rfl,I.hok.fresh (Nat.le_refl _),rfl,λxs' h=>by rw[I.sqX_inj h qa];exact hx,λys' h=>by rw[I.sqX_inj h qb];exact hy⟩,⟨b1,?_,⟨u,v,b2.extBut _ _ D.TOz a2⟩,?_,?_⟩,λc hc'=>(hf0 c hc').1⟩
  ·exact b2.extBut _ _ D.TIz (a7 _ _ D.TIz D.TITO D.TIi1 D.TIi2 hI)
  ·exact(fL (prog:=X.prog) (w:=X.w) t i1 a).itk _ _ _ a3 λo e=>b2.extBut _ _ D.i1z e
  ·exact(fL (prog:=X.prog) (w:=X.w) t i2 b).itk _ _ _ a4 λo e=>b2.extBut _ _ D.i2z e
 done:=by
  intro X hP hw hK hc i pins s σ H E I hf st hg
  subst hP hw hK
  obtain⟨xs,ys,qa,qb,hl⟩:=hg
  obtain⟨hz,hI,⟨x0,y0,hO⟩,j1,j2⟩:=st
  obtain⟨va,ra,pa,za⟩:=I.sqX qa
  obtain⟨vb,rb,pb,zb⟩:=I.sqX qb
  have la:=ra.length
  have lb:=rb.length
  have hT:s.TypeIs (.ref z) "zip":=⟨_,hz,rfl⟩
  unfold pyNext
  refine wpAny_bind (wpAny_attempt (wpAny_callSpecial?_slot (name:=Str.ofString "__next__") hT F.slot_zip_next (wpAny_call_entry F.slot_zip_next hT F.entry_zip_next (zGo (fL t i1 a) (fL t i2 b) D (show X.A.in1.handled=none from I.ok.hd hc) hz hI hO j1 j2 pa pb
   (hl.elim (λh=>.inl (by simp;omega)) λh=>.inr (by simp;omega)) λh' e k he=>?_) (F.args_zip_next_1 _))))
  obtain⟨o,ho,hce⟩:=he
  refine wpAny_bind (wpAny_isInstance (T:="StopIteration") (b:=true) ⟨o,ho,hce⟩ isSubtype_stop (wpAny_pure ⟨rfl,I.turnedL (t':=s.toks) hf λc o hc' e=>?_⟩))
  simp only[List.mem_cons,List.not_mem_nil,or_false,not_or]at hc'
  exact k c o hc'.1 hc'.2.2.1 hc'.2.2.2.1 hc'.2.2.2.2 e
 self:=λ_ _ _ _ _ st h=>wpAny_pyIter_zip st.1 h
theorem zGp{n a b:Nat}(ha:a<n)(hb:b<n):ZipApart (n+4) (n+2) (n+3) n (n+1) a b:=by
 constructor<;>(intro (e:(_:Nat)=_);omega)
theorem zEh:bootBuiltins "zip"=some (.type "zip"):=by decide +kernel
section
variable{X:Cx}
def zJD(K:W.Frag)(ta:TA):TI:=λσ H R=>ta σ H λvs H1=>∃(t:Bool) (a b:Addr),vs=[.ref a,.ref b]/\(∃xs,SqX t K H1 a xs)/\(∃ys,SqX t K H1 b ys)/\R (Itz t K a b) H1
theorem zG4{a b:Expr}{ta:TA}{es:List Expr}{ek:Nat}{p pos pos':Pos}(hg:Gl X "zip")(hm:X.mg "zip"=none)(ha:PA X [a,b] ta)(hs:starEach [a,b] X.env=[(false,eval a X.env),(false,eval b X.env)]:=by rfl)(hs2:starEach [b] X.env=[(false,eval b X.env)]:=by rfl):
  PI X (.Tuple es ek pos') (.Call (.Name "zip" p) [a,b] [] pos) (zJD X.K ta):=by
 intro pins s σ H R I h
 refine Call_ (lW I hg hm zEh (PyProof.Rows.callWith_type1 (thn (ha pos pins s σ H _ I h) λus s1 ⟨vs,H1,I1,r1,q1⟩=>?_) (by rw[hs,hs2]) (by rw[hs2];rfl)))
 obtain⟨t,a,b,e,⟨xs,hx⟩,⟨ys,hy⟩,q⟩:=q1
 subst e
 obtain⟨u,w',rfl,rx,ry⟩:=gE r1
 cases rx
 cases ry
 obtain⟨va,ra,pa,za⟩:=I1.sqX hx
 obtain⟨vb,rb,pb,zb⟩:=I1.sqX hy
 have la:a<s1.heap.objs.size:=by
  cases t
  ·obtain⟨o,e,_⟩:=pa;exact Heap.lt_size e
  ·obtain⟨o,e,_⟩:=pa;exact Heap.lt_size e
 have lb:b<s1.heap.objs.size:=by
  cases t
  ·obtain⟨o,e,_⟩:=pb;exact Heap.lt_size e
  ·obtain⟨o,e,_⟩:=pb;exact Heap.lt_size e
 have fin:∀h':Heap,IsZip h' (s1.heap.objs.size+4) (s1.heap.objs.size+2) (s1.heap.objs.size+3) .none->IsPair h' (s1.heap.objs.size+2) (.ref s1.heap.objs.size) (.ref (s1.heap.objs.size+1))->IsPair h' (s1.heap.objs.size+3) .none .none ->
   itX t s1.heap.objs.size a 0 h'->itX t (s1.heap.objs.size+1) b 0 h'->h'.objs.size=s1.heap.objs.size+5->(∀c o,s1.heap.get? c=some o->h'.get? c=some o) ->
   wpAny (model X.prog X.w) X.A (pyIter (.ref (s1.heap.objs.size+4))) (PIE X pins σ (.Tuple es ek pos') R) X.xe {s1 with heap:=h'}:=by
  intro h' hz hI hO j1 j2 _ k
  refine wpAny_pyIter_zip hz ?_
  refine⟨_,[s1.heap.objs.size+4,s1.heap.objs.size+2,s1.heap.objs.size+3,s1.heap.objs.size,s1.heap.objs.size+1],_,_,H1,rfl,I1.kept (t':=s1.toks) k,zEr t a b _ _ _ _ _ ?_,⟨hz,hI,⟨_,_,hO⟩,j1,j2⟩,λc hc=>?_,q⟩
  ·exact zGp la lb
  ·have:s1.heap.objs.size<=c:=by
    simp only[List.mem_cons,List.not_mem_nil,or_false]at hc
    rcases hc with e|e|e|e|e<;>(rw[e];first|exact Nat.le_refl _|exact Nat.le_add_right _ _)
   exact I1.fpOk this (I1.hok.fresh this)
 cases t
 ·exact call_zip_2 pa pb fin
 ·exact zD9 pa pb fin
end
section
variable{X:Cx}
theorem zEc(hc:X.calm=true):CallR X (.builtin "min") (λxs H Q=>∃(p:Addr) (ns:List Int),xs=[.ref p]/\SqL X.K H p (ns.map V.int)/\0<ns.length/\∀M,M∈ns->(∀a∈ns,M<=a)->Q (.int M) H):=by
 intro pins s σ H xs us Q I r h
 obtain⟨p,ns,rfl,hq,hn,q⟩:=h
 obtain⟨u,rfl,rx⟩:=cX r
 cases rx
 obtain⟨its,rv,pl,hz⟩:=I.list hq
 have hi:IntsAre its ns:=oX rv
 obtain⟨zs,ez⟩:=hi.allInts.items
 have en:ns=zs.toList.map (·.1):=by rw[<-hi.numsOf,<-nums_intItems,<-ez]
 have hz0:0<zs.size:=by rw[en,List.length_map,Array.length_toList]at hn;exact hn
 have hl:=pl.isList
 rw[ez]at hl
 refine min_intList (I.ok.hd hc) hl hz0 λv h' tk hv hk=>?_
 obtain⟨t,rfl⟩:=intItems_at hv
 obtain⟨h1,h2⟩:=argBest_lt (numAt zs) (zs.size-1)
 refine⟨.int _,H,I.kept hk,⟨t,rfl⟩,q _ ?_ λa ha=>?_⟩
 ·rw[en,numAt_eq]
  exact getD_mem (by rw[List.length_map,Array.length_toList];omega)
 ·rw[en]at ha
  obtain⟨j,hj,rfl⟩:=mem_getD ha
  rw[List.length_map,Array.length_toList]at hj
  have:=h2 j (by omega)
  rw[numAt_eq zs j]at this
  exact this
theorem zEe(hc:X.calm=true):CallR X (.builtin "max") (λxs H Q=>∃(p:Addr) (ns:List Int),xs=[.ref p]/\SqL X.K H p (ns.map V.int)/\0<ns.length/\∀M,M∈ns->(∀a∈ns,a<=M)->Q (.int M) H):=by
 intro pins s σ H xs us Q I r h
 obtain⟨p,ns,rfl,hq,hn,q⟩:=h
 obtain⟨u,rfl,rx⟩:=cX r
 cases rx
 obtain⟨its,rv,pl,hz⟩:=I.list hq
 have hi:IntsAre its ns:=oX rv
 obtain⟨zs,ez⟩:=hi.allInts.items
 have en:ns=zs.toList.map (·.1):=by rw[<-hi.numsOf,<-nums_intItems,<-ez]
 have hz0:0<zs.size:=by rw[en,List.length_map,Array.length_toList]at hn;exact hn
 have hl:=pl.isList
 rw[ez]at hl
 refine max_intList (I.ok.hd hc) hl hz0 λv h' tk hv hk=>?_
 obtain⟨t,rfl⟩:=intItems_at hv
 obtain⟨h1,h2⟩:=argBest_gt (numAt zs) (zs.size-1)
 refine⟨.int _,H,I.kept hk,⟨t,rfl⟩,q _ ?_ λa ha=>?_⟩
 ·rw[en,numAt_eq]
  exact getD_mem (by rw[List.length_map,Array.length_toList];omega)
 ·rw[en]at ha
  obtain⟨j,hj,rfl⟩:=mem_getD ha
  rw[List.length_map,Array.length_toList]at hj
  have:=h2 j (by omega)
  rw[numAt_eq zs j]at this
  exact this
end
end L2
namespace L2
open PySem PySem.Spec PyProof.Rows
theorem zCL{us:List Value}{ns:List Int}(h:IntsAre us ns):Vals (ns.map V.int) us:=by
 induction h with
 |nil=>exact .nil
 |cons n t _ ih=>exact .cons ⟨t,rfl⟩ ih
section
variable{X:Cx}
theorem call_sortedI:CallR X (.builtin "sorted") (λxs H Q=>∃(p:Addr) (ns:List Int),xs=[.ref p]/\SqL X.K H p (ns.map V.int)/\ns.length<64 /\
  ∀(ns':List Int) (l:Addr),ns'.Perm ns->ns'.Pairwise (·<=·)->H l=none->Q (.ref l) (upd H l (.lst (ns'.map V.int)))):=by
 intro pins s σ H xs us Q I r h
 obtain⟨p,ns,rfl,hq,h64,q⟩:=h
 obtain⟨u,rfl,rx⟩:=cX r
 cases rx
 obtain⟨its,rv,pl,hz⟩:=I.list hq
 have hi:IntsAre its ns:=oX rv
 have hll:=rv.length
 rw[List.length_map]at hll
 refine sorted_ints pl.isList hi (by omega) λout ns' a1 a2 a3=>?_
 obtain⟨e,he⟩:=sortedAll_at s.heap its out
 have hlen:=a2.length_eq
 refine⟨.ref (s.heap.objs.size+1),_,I.laid (t':=s.toks) (λb o e=>sortedAll_old e) (Nat.le_succ _) (show ObjOk X.prog X.w _ _ _ (.lst (ns'.map V.int)) from ⟨?_,out.toList,e,zCL a1,he⟩),rfl,q ns' _ a2 a3 (I.hok.fresh (Nat.le_succ _))⟩
 rw[List.length_map,hlen]
 exact Nat.le_of_lt (Nat.lt_trans h64 (by decide))
end
end L2
namespace L2
open PySem PySem.Spec PyProof.Rows
def Its(x:Str):It:=⟨λi _=>i<x.cps.size,λi H v H'=>H'=H/\∃c,x.cps[i]?=some c/\v=.str ⟨#[c]⟩,λi _=>x.cps.size<=i⟩
theorem zDs{P:Program}{w:World}{K:W.Frag}{tg:Expr}(it:Addr)(x:Str)(t:Tok):fW P w K tg (Its x) [it] it (λi h=>h.IsStrIter it "str_ascii_iterator" x t i) where
 mem:=by simp
 obj:=λi h st b hb=>by
  have e:b=it:=by simpa using hb
  subst e
  obtain⟨o,e,c,d⟩:=st
  exact⟨o,e,λv z=>by rw[d]at z;cases z⟩
 keep:=λi h h' st k=>let ⟨o,ho,r⟩:=st;⟨o,k it (by simp) o ho,r⟩
 item:=by
  intro X hP hw hK hc i pins s σ H E I hf st hg
  subst hP hw hK
  obtain⟨f0,f1,f2,f3,f4,f5⟩:=hf it (by simp)
  have W:=Walks.strAscii (prog:=X.prog) (w:=X.w) (I.ok.hd hc) it x t
  refine W.item i s _ _ hg st λv h' tk hv st' kk=>?_
  obtain⟨c,u,hc',rfl⟩:=hv
  have I1:Inv X pins σ H {s with heap:=h',toks:=tk}:=I.turned (λb o hb e=>kk b o (by simpa using hb) e) f0 f1 f3 f4 f5
  obtain⟨o,e,c1,d⟩:=id st'
  exact⟨_,rfl,mB (s:={s with heap:=h',toks:=tk}) e c1 d (by decide) ⟨.str ⟨#[c]⟩,H,I1,⟨u,rfl⟩,⟨rfl,c,hc',rfl⟩,st',λb hb=>(hf b hb).1⟩⟩
 done:=by
  intro X hP hw hK hc i pins s σ H E I hf st hg
  subst hP hw hK
  obtain⟨f0,f1,f2,f3,f4,f5⟩:=hf it (by simp)
  exact wpAny_pyNext_ascii_end (I.ok.hd hc) st (by have:x.cps.size<=i:=hg;simp;omega) λh' eb=>⟨rfl,I.turned (t':=s.toks) (λb o hb e=>eb b o hb e) f0 f1 f3 f4 f5⟩
 self:=λ_ _ _ _ _ st h=>wpAny_pyIter_striter_ascii st h
theorem zDr{P:Program}{w:World}{K:W.Frag}{tg:Expr}(it:Addr)(x:Str)(t:Tok):fW P w K tg (Its x) [it] it (λi h=>h.IsStrIter it "str_iterator" x t i) where
 mem:=by simp
 obj:=λi h st b hb=>by
  have e:b=it:=by simpa using hb
  subst e
  obtain⟨o,e,c,d⟩:=st
  exact⟨o,e,λv z=>by rw[d]at z;cases z⟩
 keep:=λi h h' st k=>let ⟨o,ho,r⟩:=st;⟨o,k it (by simp) o ho,r⟩
 item:=by
  intro X hP hw hK hc i pins s σ H E I hf st hg
  subst hP hw hK
  obtain⟨f0,f1,f2,f3,f4,f5⟩:=hf it (by simp)
  have W:=Walks.strWide (prog:=X.prog) (w:=X.w) (I.ok.hd hc) it x t
  refine W.item i s _ _ hg st λv h' tk hv st' kk=>?_
  obtain⟨c,u,hc',rfl⟩:=hv
  have I1:Inv X pins σ H {s with heap:=h',toks:=tk}:=I.turned (λb o hb e=>kk b o (by simpa using hb) e) f0 f1 f3 f4 f5
  obtain⟨o,e,c1,d⟩:=id st'
  exact⟨_,rfl,mB (s:={s with heap:=h',toks:=tk}) e c1 d (by decide) ⟨.str ⟨#[c]⟩,H,I1,⟨u,rfl⟩,⟨rfl,c,hc',rfl⟩,st',λb hb=>(hf b hb).1⟩⟩
 done:=by
  intro X hP hw hK hc i pins s σ H E I hf st hg
  subst hP hw hK
  obtain⟨f0,f1,f2,f3,f4,f5⟩:=hf it (by simp)
  exact wpAny_pyNext_wide_end (I.ok.hd hc) st (by have:x.cps.size<=i:=hg;simp;omega) λh' eb=>⟨rfl,I.turned (t':=s.toks) (λb o hb e=>eb b o hb e) f0 f1 f3 f4 f5⟩
 self:=λ_ _ _ _ _ st h=>wpAny_pyIter_striter_wide st h
section
variable{X:Cx}
def zFu:V->List V->Hp->VK->Prop:=λx vs H Q=>∃i j,x=.str i/\vs=[.str j]/\Q (.bl (decide (0+j.length<=i.length)&&Builtin.Str.subAt i j 0)) H
theorem zCA:MtM X "str.startswith" zFu:=by
 intro pins s σ H x vs v us Q I rx rv h
 obtain⟨i,j,rfl,rfl,q⟩:=h
 obtain⟨t,rfl⟩:=rx
 obtain⟨u,rfl,t',rfl⟩:=rv.one
 exact call_gives F.slot_str_startswith (typeIs_str _ _ _) F.entry_str_startswith (F.args_str_startswith_2 _ _) (gives_str_startswith i j t t') ⟨.bl _,H,I,rfl,q⟩
def zIm:V->List V->Hp->VK->Prop:=λx vs H Q=>∃i j,x=.str i/\vs=[.str j]/\∀n:Int,Q (.int n) H
theorem zFY:MtM X "str.find" zIm:=by
 intro pins s σ H x vs v us Q I rx rv h
 obtain⟨i,j,rfl,rfl,q⟩:=h
 obtain⟨t,rfl⟩:=rx
 obtain⟨u,rfl,t',rfl⟩:=rv.one
 exact call_gives F.slot_str_find (typeIs_str _ _ _) F.entry_str_find (F.args_str_find_2 _ _) (gives_str_find i j t t') ⟨.int _,H,I.tok _,⟨_,rfl⟩,q _⟩
end
def KD(prm:Params):List DictEntry->List (Str×Str)->Prop
 |[],[]=>True
 |e::es,kv::kvs=>e.hash=PyData.keyHash prm kv.1/\(∃t,e.key=.str kv.1 t)/\(∃t,e.val=.str kv.2 t)/\KD prm es kvs
 |_,_=>False
structure zB0 (K:W.Frag) (prm:Params) (d:Addr) (kvs:List (Str×Str)):Prop where
 obj:∃(es:Array DictEntry) (ep:Nat),K.lookup d=some ⟨.type "dict",none,.dict es ep,#[]⟩/\KD prm es.toList kvs
 nd:(kvs.map (·.1)).Nodup
def getS(kvs:List (Str×Str))(x:Str):Option Str:=(kvs.find? λkv=>kv.1=x).map (·.2)
theorem KD.keys{P:Program}{w:World}:∀{es:List DictEntry}{kvs:List (Str×Str)},KD w.params es kvs->∀e∈es,∃k,(bW P w).is k e.key=true/\e.hash=(bW P w).hash k
 |[],[],_,e,he=>nomatch he
 |a::es,kv::kvs,⟨h1,⟨t,h2⟩,_,h4⟩,e,he=>by
  rcases List.mem_cons.mp he with z|z
  ·subst z
   exact⟨.inr kv.1,by rw[h2];exact oT P w kv.1 t,by rw[h1];rfl⟩
  ·exact KD.keys h4 e z
theorem KD.pairs{P:Program}{w:World}:∀{es:List DictEntry}{kvs:List (Str×Str)},KD w.params es kvs->∃vs:List (Key×Value),Pairs (bW P w) es vs/\vs.map (·.1)=kvs.map (λkv=>Sum.inr kv.1) /\
  ∀x y,getS kvs x=some y->∃t,valueAt vs (.inr x)=some (.str y t)
 |[],[],_=>⟨[],.nil,rfl,λx y h=>nomatch h⟩
 |a::es,kv::kvs,⟨h1,⟨t,h2⟩,⟨t',h3⟩,h4⟩=>by
  obtain⟨vs,p,m,g⟩:=KD.pairs (P:=P) h4
  refine⟨(.inr kv.1,.str kv.2 t')::vs,.cons (by rw[h2];exact oT P w kv.1 t) h3 p,by simp[m],λx y h=>?_⟩
  by_cases e:kv.1=x
  ·subst e
   have:kv.2=y:=by simpa[getS]using h
   subst this
   exact⟨t',by simp[valueAt]⟩
  ·have h':getS kvs x=some y:=by simpa[getS,e]using h
   obtain⟨t'',h''⟩:=g x y h'
   exact⟨t'',by
    have:(Sum.inr kv.1:Key)≠.inr x:=λz=>e (Sum.inr.inj z)
    simpa[valueAt,this]using h''⟩
section
variable{X:Cx}
def rKD(d:Addr)(kvs:List (Str×Str)):R2:=λx y H Q=>∃i j,x=.ref d/\y=.str i/\getS kvs i=some j/\Q (.str j) H
theorem zIJ{d:Addr}{kvs:List (Str×Str)}(D:zB0 X.K X.w.params d kvs):IxR X (rKD d kvs):=by
 intro value slice pins s σ H x y v u Q I rx ry h hs
 obtain⟨i,j,rfl,rfl,hg,q⟩:=h
 cases rx
 obtain⟨t,rfl⟩:=ry
 obtain⟨es,ep,lk,kd⟩:=D.obj
 obtain⟨vs,hp,hm,hv⟩:=KD.pairs (P:=X.prog) kd
 obtain⟨t',hv⟩:=hv i j hg
 have ho:=I.kIn d _ lk
 have hnd:(vs.map (·.1)).Nodup:=by
  rw[hm,show kvs.map (λkv=>(Sum.inr kv.1:Key))=(kvs.map (·.1)).map Sum.inr by simp]
  unfold List.Nodup
  rw[List.pairwise_map]
  exact D.nd.imp λh z=>h (Sum.inr.inj z)
 have dd:s.heap.DictOf (bW X.prog X.w) d vs:=⟨_,es,ep,ho,⟨rfl,rfl,rfl⟩,rfl,λe he=>KD.keys kd e (by simpa using he),hp,hnd⟩
 exact tail_any ⟨_,ho,rfl⟩ slot_dict_getitem.lookup (wpAny_getItem_of (oT _ _ i t) dd.mapOf hv ⟨.str j,H,I.tok _,⟨t',rfl⟩,q⟩) hs
end
section
variable{X:Cx}
def zJk:V->Option Int->Option Int->Hp->VK->Prop:=λx lo hi H Q=>∃z,x=.str z/\z.length<=sizeLine/\Q (.str (Txt.slice z lo hi)) H
theorem zGG:SlR X zJk:=by
 intro pins s σ H x v vl vu lo hi sl Q I rx hs pl pu h
 obtain⟨z,rfl,hz,q⟩:=h
 obtain⟨t,rfl⟩:=rx
 obtain⟨o,ho,hc,hd⟩:=hs
 refine⟨"str",_,F.slot_str_getitem.lookup,typeIs_str _ _ _,?_⟩
 have fin:∀t' k,EP X pins σ Q (.str (Txt.slice z lo hi) t') {s with toks:=k}:=λt' k=>⟨.str _,H,I.tok k,⟨t',rfl⟩,q⟩
 cases pl with
 |none=>cases pu with
  |none=>exact wpAny_getItem_str_slice (l:=none) (u:=none) (st:=none) ⟨o,ho,hc,hd⟩ rfl (post_val_or_str ⟨Nat.le_trans (Txt.slice_le z _ _) hz,fin⟩)
  |int j uj=>exact wpAny_getItem_str_slice (l:=none) (u:=some (j,uj)) (st:=none) ⟨o,ho,hc,hd⟩ rfl (post_val_or_str ⟨Nat.le_trans (Txt.slice_le z _ _) hz,fin⟩)
 |int i ui=>cases pu with
  |none=>exact wpAny_getItem_str_slice (l:=some (i,ui)) (u:=none) (st:=none) ⟨o,ho,hc,hd⟩ rfl (post_val_or_str ⟨Nat.le_trans (Txt.slice_le z _ _) hz,fin⟩)
  |int j uj=>exact wpAny_getItem_str_slice (l:=some (i,ui)) (u:=some (j,uj)) (st:=none) ⟨o,ho,hc,hd⟩ rfl (post_val_or_str ⟨Nat.le_trans (Txt.slice_le z _ _) hz,fin⟩)
theorem kF{ss:List Str}:∀{us:List Value},Vals (ss.map V.str) us->StrsAre us ss:=by
 induction ss with
 |nil=>intro us r;rw[List.map_nil]at r;cases r;exact .nil
 |cons n ns ih=>
  intro us r
  rw[List.map_cons]at r
  cases r with
  |cons r1 r2=>
   obtain⟨t,e⟩:=r1
   subst e
   exact .cons n t (ih r2)
theorem oR{us:List Value}{ss:List Str}(h:StrsAre us ss):Vals (ss.map V.str) us:=by
 induction h with
 |nil=>exact .nil
 |cons n t _ ih=>exact .cons ⟨t,rfl⟩ ih
theorem call_sortedS:CallR X (.builtin "sorted") (λxs H Q=>∃(p:Addr) (ss:List Str),xs=[.ref p]/\SqL X.K H p (ss.map V.str)/\ss.length<64 /\
  ∀(ss':List Str) (l:Addr),ss'.Perm ss->sortedS ss'=true->H l=none->Q (.ref l) (upd H l (.lst (ss'.map V.str)))):=by
 intro pins s σ H xs us Q I r h
 obtain⟨p,ns,rfl,hq,h64,q⟩:=h
 obtain⟨u,rfl,rx⟩:=cX r
 cases rx
 obtain⟨its,rv,pl,hz⟩:=I.list hq
 have hi:StrsAre its ns:=kF rv
 have hll:=rv.length
 rw[List.length_map]at hll
 refine sorted_strs pl.isList hi (by omega) λout ns' a1 a2 a3=>?_
 obtain⟨e,he⟩:=sortedAll_at s.heap its out
 have hlen:=a2.length_eq
 refine⟨.ref (s.heap.objs.size+1),_,I.laid (t':=s.toks) (λb o e=>sortedAll_old e) (Nat.le_succ _) (show ObjOk X.prog X.w _ _ _ (.lst (ns'.map V.str)) from ⟨?_,out.toList,e,oR a1,he⟩),rfl,q ns' _ a2 a3 (I.hok.fresh (Nat.le_succ _))⟩
 rw[List.length_map,hlen]
 exact Nat.le_of_lt (Nat.lt_trans h64 (by decide))
def cE(ss:List Str):List Nat:=(ss.map λs=>s.cps.toList).flatten
theorem zAu:∀{us:List Value}{ss:List Str},StrsAre us ss->∃l:List (Str×Tok),us=strValues l/\l.map (·.1)=ss
 |_,_,.nil=>⟨[],rfl,rfl⟩
 |_,_,.cons y t h=>by
  obtain⟨l,e1,e2⟩:=zAu h
  exact⟨(y,t)::l,by rw[e1];rfl,by simp[e2]⟩
theorem tN:∀ss:List Str,(Str.join ⟨#[]⟩ ss).cps.toList=cE ss
 |[]=>rfl
 |[x]=>by simp[Str.join,cE]
 |x::y::r=>by
  have ih:=tN (y::r)
  show((x++(⟨#[]⟩:Str)++Str.join ⟨#[]⟩ (y::r)):Str).cps.toList=_
  have e:∀a b:Str,(a++b).cps.toList=a.cps.toList++b.cps.toList:=λa b=>by
   show(a.cps++b.cps).toList=_
   simp
  rw[e,e,ih]
  simp[cE]
theorem zAw:∀(ss:List Str) (n:Nat),ss.foldl (λa s=>a+s.length+0) n=n+(cE ss).length
 |[],n=>by simp[cE]
 |s::r,n=>by
  rw[List.foldl_cons,zAw r]
  simp[cE,Str.length]
  omega
def zIl(K:W.Frag):V->List V->Hp->VK->Prop:=λx vs H Q=>∃p ss,x=.str ⟨#[]⟩/\vs=[.ref p]/\SqL K H p (ss.map V.str)/\(cE ss).length<=100000/\∀z:Str,z.cps.toList=cE ss->Q (.str z) H
theorem zFX:MtM X "str.join" (zIl X.K):=by
 intro pins s σ H x vs v us Q I rx rv h
 obtain⟨p,ss,rfl,rfl,hq,hz,q⟩:=h
 obtain⟨t,rfl⟩:=rx
 obtain⟨u,rfl,ru⟩:=rv.one
 cases ru
 obtain⟨its,rv,pl,hz'⟩:=I.list hq
 obtain⟨l,e1,e2⟩:=zAu (kF rv)
 have hl:=pl.isList
 rw[e1]at hl
 have hlen:((l.map (·.1)).toArray.foldl (λa s=>a+s.length+(⟨#[]⟩:Str).length) 0)=(cE ss).length:=by
  rw[e2,List.foldl_toArray]
  show ss.foldl (λa s=>a+s.length+0) 0=_
  rw[zAw]
  omega
 refine call_meets F.slot_str_join (typeIs_str _ _ _) F.entry_str_join (F.args_str_join_2 _ _) (meets_str_join_list ⟨#[]⟩ t p l (by
  rw[hlen]
  show decide (_ > sizeLine)=false
  exact decide_eq_false (Nat.not_lt.mpr (Nat.le_trans hz (by decide))))) ⟨hl,?_⟩
 have hj:∀z:Str,z=Str.join ⟨#[]⟩ ss->∀t' k,EP X pins σ Q (.str z t') {s with toks:=k}:=λz e t' k=>⟨.str z,H,I.tok k,⟨t',rfl⟩,q z (by rw[e,tN])⟩
 have hlz:(Str.join ⟨#[]⟩ ss).length<=sizeLine:=by
  show(Str.join ⟨#[]⟩ ss).cps.size<=_
  rw[<-Array.length_toList,tN]
  exact Nat.le_trans hz (by decide)
 match l,e2 with
 |[],e2=>exact⟨by rw[StrLaws.glued_eq_join];exact Nat.zero_le _,hj _ (by rw[<-e2];rw[StrLaws.glued_eq_join]) _ _⟩
 |[pp],e2=>exact hj _ (by rw[<-e2];rfl) _ s.toks
 |a::b::r,e2=>exact⟨by rw[StrLaws.glued_eq_join,e2];exact hlz,hj _ (by rw[StrLaws.glued_eq_join,e2]) _ _⟩
end
end L2
namespace L2
open PySem
theorem oY{α:Type}:∀(l:List α) (i:Nat) (h:i<l.length),(l[i]::l.eraseIdx i).Perm l
 |[],i,h=>by simp at h
 |x::l,0,h=>by simp
 |x::l,i+1,h=>by
  have h':i<l.length:=by simpa using h
  simp only[List.getElem_cons_succ,List.eraseIdx_cons_succ]
  exact(List.Perm.swap _ _ _).trans (.cons _ (oY l i h'))
section
variable{M:Model}{A:Around}{E:Value->Shared->Prop}{s:Shared}
theorem zDp{src:Source}{n:Nat}{Q:Nat->Shared->Prop}(hn:n≠0)(h:∀i d,i<n->Q i {s with drawn:=d}):wpAny M A (choose src n) Q E s:=λΓ p _=>by
 unfold choose
 rw[Sem.wp_choose]
 exact⟨hn,h _ _ (Nat.mod_lt _ (Nat.pos_of_ne_zero hn))⟩
theorem xH{α:Type}:∀(n:Nat) (xs:List α) (s:Shared) {Q:List α->Shared->Prop},xs.length=n->(∀ys d,ys.Perm xs->Q ys {s with drawn:=d})->wpAny M A (drawOrder n xs) Q E s
 |0,xs,s,Q,hl,h=>by
  have e:xs=[]:=List.eq_nil_of_length_eq_zero hl
  subst e
  exact wpAny_pure (h [] s.drawn (.refl _))
 |n+1,[],s,Q,hl,h=>by simp at hl
 |n+1,x::xs,s,Q,hl,h=>by
  show wpAny M A (do
   let i <- choose .order (x::xs).length
   match (x::xs)[i]? with
   |some x'=>return x'::(<- drawOrder n ((x::xs).eraseIdx i))
   |none=>unsupported "internal:drawOrder") Q E s
  refine wpAny_bind (zDp (by simp) λi d hi=>?_)
  rw[List.getElem?_eq_getElem hi]
  refine wpAny_bind (xH n _ _ (by rw[List.length_eraseIdx_of_lt hi];simp at hl ⊢;exact hl) λys d' hp=>?_)
  refine wpAny_pure (h _ d' ((List.Perm.cons _ hp).trans ?_))
  exact oY (x::xs) i hi
end
theorem zAI{α:Type}(next:Nat->Nat):∀(fuel k:Nat) (left:List α) (out:Array α),fuel=left.length->(pickOrder.go next fuel k left out).toList.Perm (out.toList++left)
 |0,k,left,out,h=>by
  have e:left=[]:=List.eq_nil_of_length_eq_zero h.symm
  subst e
  unfold pickOrder.go
  simp
 |fuel+1,k,left,out,h=>by
  unfold pickOrder.go
  have hlt:next k % left.length<left.length:=Nat.mod_lt _ (by omega)
  rw[List.getElem?_eq_getElem hlt]
  refine(zAI next fuel (k+1) _ _ (by rw[List.length_eraseIdx_of_lt hlt];omega)).trans ?_
  rw[Array.toList_push,List.append_assoc]
  exact List.Perm.append_left _ (oY _ _ hlt)
theorem sU{α:Type}(next:Nat->Nat)(xs:Array α):(pickOrder next xs).toList.Perm xs.toList:=by
 unfold pickOrder
 have:=zAI next xs.size 0 xs.toList #[] (by simp)
 simpa using this
end L2
namespace L2
open PySem PySem.Spec PyProof.Rows
abbrev byT(w:World):Bool:=w.params.followText "set-order"
structure SetT (prog:Program) (w:World) (us:List Str) (es:Array (Int×Value)) (t:SetTable):Prop where
 el:ElemsOf (PySem.strKind prog w) es.toList
 tx:∃vs:List Str,StrsAre (es.toList.map (·.2)) vs/\vs.Perm us
 nd:us.Nodup
 lt:es.size<scanBound
 fit:t.fits es.size=true
 pl:es.size=0\/t.plain=false
 ld:t.led=!byT w
abbrev cG(es:Array (Int×Value))(ep:Nat)(t:SetTable):Obj:={cls:=.type "set",dict:=none,data:=.set es ep t,slots:=#[]}
def SetS(prog:Program)(w:World)(a:Addr)(us:List Str)(h:Heap):Prop:=∃es ep t,h.get? a=some (cG es ep t)/\SetT prog w us es t
def dP(us:List Str)(x:Str):List Str:=if x∈us then us else us++[x]
theorem hJ:∀{vs:List Value}{ss:List Str},StrsAre vs ss->vs.length=ss.length
 |_,_,.nil=>rfl
 |_,_,.cons _ _ h=>by simp[hJ h]
theorem zT:∀{vs:List Value}{ss:List Str},StrsAre vs ss->∀x,x∈ss↔∃v∈vs,Value.isStrOf x v=true
 |_,_,.nil,x=>by simp
 |_,_,.cons y t h,x=>by
  have ih:=zT h x
  have e:Value.isStrOf x (.str y t)=true↔x=y:=⟨λh=>by
   obtain⟨u,h⟩:=Value.isStrOf_shape h
   injection h with h1 h2
   exact h1.symm,λh=>by subst h;simp[Value.isStrOf]⟩
  simp only[List.mem_cons,exists_eq_or_imp,ih,e]
theorem pB:∀{vs us:List Value},us.Perm vs->∀{ss:List Str},StrsAre vs ss->∃ss',StrsAre us ss'/\ss'.Perm ss:=by
 intro vs us p
 induction p with
 |nil=>intro ss h;exact⟨ss,h,.refl _⟩
 |cons x p ih=>
  intro ss h
  cases h with
  |cons y t h=>obtain⟨ss',a,b⟩:=ih h;exact⟨y::ss',.cons y t a,.cons _ b⟩
 |swap x y l=>
  intro ss h
  cases h with
  |cons a t h=>cases h with
   |cons b u h=>exact⟨b::a::_,.cons b u (.cons a t h),.swap _ _ _⟩
 |trans p q ihp ihq=>
  intro ss h
  obtain⟨s1,a1,b1⟩:=ihq h
  obtain⟨s2,a2,b2⟩:=ihp a1
  exact⟨s2,a2,b2.trans b1⟩
theorem yP:∀{vs:List Value}{ss:List Str}(x:Str) (t:Tok),StrsAre vs ss->StrsAre (vs++[.str x t]) (ss++[x])
 |_,_,x,t,.nil=>.cons x t .nil
 |_,_,x,t,.cons y u h=>.cons y u (yP x t h)
theorem zDf(t:SetTable)(es:Array (Int×Value))(h:Int)(x:Value):(layNew t es h x).2.1.led=t.led:=by
 have so:∀(u:SetTable) (n:Nat),(u.orStandIn n).led=u.led:=λu n=>by
  unfold SetTable.orStandIn
  split<;>rfl
 unfold layNew
 split
 ·dsimp only
  rw[so]
  rfl
 ·rfl
theorem zDF(t:SetTable)(es:Array (Int×Value))(n:Nat):(relayAll t es n).2.1.led=t.led/\(t.plain=false->(relayAll t es n).2.1.plain=false):=by
 have la:∀m f mv ld pl hs t' o,SetTable.laid m f mv ld pl hs=some (t',o)->t'.led=ld/\t'.plain=pl:=λm f mv ld pl hs t' o e=>by
  unfold SetTable.laid at e
  cases q:SetTable.layClean m hs with
  |none=>rw[q]at e;cases e
  |some ow=>
   rw[q]at e
   simp only[Option.bind_eq_bind,Option.bind_some,Option.pure_def,Option.some.injEq,Prod.mk.injEq]at e
   obtain⟨e,_⟩:=e
   subst e
   exact⟨rfl,rfl⟩
 unfold relayAll
 split
 ·rename_i t' order e
  have:=la _ _ _ _ _ _ _ _ e
  dsimp only
  split
  ·exact⟨this.1,λz=>by rw[<-z];exact this.2⟩
  ·exact⟨rfl,λ_=>rfl⟩
 ·exact⟨rfl,λ_=>rfl⟩
section
variable{prog:Program}{w:World}{A:Around}{E:Value->Shared->Prop}{s:Shared}{a:Addr}{us:List Str}{x:Str}{tk:Tok}
theorem SetT.mem{es:Array (Int×Value)}{t:SetTable}(T:SetT prog w us es t)(x:Str):x∈us↔∃e∈es.toList,(PySem.strKind prog w).is x e.2=true:=by
 obtain⟨vs,h,p⟩:=T.tx
 rw[<-p.mem_iff,zT h x]
 simp only[List.mem_map]
 exact⟨λ⟨v,⟨e,he,z⟩,q⟩=>⟨e,he,by subst z;exact q⟩,λ⟨e,he,q⟩=>⟨e.2,⟨e,he,rfl⟩,q⟩⟩
theorem SetT.size{es:Array (Int×Value)}{t:SetTable}(T:SetT prog w us es t):es.size=us.length:=by
 obtain⟨vs,h,p⟩:=T.tx
 have:=hJ h
 rw[List.length_map,Array.length_toList]at this
 rw[this,p.length_eq]
theorem zAn{g:Bool->Sem Unit}(hg:∀(b:Bool) (s₁:Shared) (R:Unit->Shared->Prop),R () s₁->wpAny (model prog w) A (g b) R E s₁){es es1:Array (Int×Value)}{ep:Nat}{t t2:SetTable}{wd:Bool}{R:Option Bool->Shared->Prop}
  (ho:s.heap.get? a=some (cG es ep t)) (T:SetT prog w us es1 t2) (np:t2.plain=false)
  (h:∀h',Heap.SameBut a s.heap h'->SetS prog w a us h'->R (some true) {s with heap:=h'}):
  wpAny (model prog w) A (do
   storeSet a es1 t2
   if (!wd&&t2.tooFull)=true then do
     g (relayAll t2 es1 (SetTable.grown es1.size)).2.2
     storeSet a (relayAll t2 es1 (SetTable.grown es1.size)).1 (relayAll t2 es1 (SetTable.grown es1.size)).2.1
     pure (some true)
    else pure (some true)) R E s:=by
 refine wpAny_bind (wpAny_storeSet_of ho rfl ?_ (fits_of_scanBound T.lt))
 have o1:(s.heap.update a (Obj.putSet es1 t2)).get? a=some (cG es1 (ep+1) t2):=Heap.get?_update_self (Obj.putSet es1 t2) ho rfl
 have b1:=Heap.SameBut.update s.heap a (Obj.putSet es1 t2)
 split
 ·have hp:=relayAll_perm t2 es1 (SetTable.grown es1.size)
  have hf:=relayAll_fits t2 es1 (SetTable.grown es1.size)
  obtain⟨hl,hq⟩:=zDF t2 es1 (SetTable.grown es1.size)
  have hq:=hq np
  generalize relayAll t2 es1 (SetTable.grown es1.size)=Rl at hp hf hl hq ⊢
  obtain⟨es2,t3,g2⟩:=Rl
  dsimp only at hp hf hl hq ⊢
  have sz:es2.size=es1.size:=by have:=hp.length_eq;simpa using this
  have T2:SetT prog w us es2 t3:=by
   obtain⟨vs,hv,pv⟩:=T.tx
   obtain⟨vs',hv',pv'⟩:=pB (hp.map (·.2)) hv
   exact⟨T.el.perm hp,⟨vs',hv',pv'.trans pv⟩,T.nd,by rw[sz];exact T.lt,hf,.inr hq,hl.trans T.ld⟩
  refine wpAny_bind (hg _ _ _ ?_)
  refine wpAny_bind (wpAny_storeSet_of o1 rfl ?_ (fits_of_scanBound T2.lt))
  exact wpAny_pure (h _ (b1.trans (Heap.SameBut.update _ a _)) ⟨es2,ep+1+1,t3,Heap.get?_update_self (Obj.putSet es2 t3) o1 rfl,T2⟩)
 ·exact wpAny_pure (h _ b1 ⟨es1,ep+1,t2,o1,T⟩)
theorem zAo{Q:Bool->Shared->Prop}(S:SetS prog w a us s.heap)(room:us.length+1<scanBound)(h:∀b h',Heap.SameBut a s.heap h'->SetS prog w a (dP us x) h'->Q b {s with heap:=h'}):
  wpAny (model prog w) A (setAddHashed a (.str x tk) ((PySem.strKind prog w).hash x)) Q E s:=by
 obtain⟨es,ep,t,ho,T⟩:=id S
 have hk:(PySem.strKind prog w).is x (.str x tk)=true:=by show Value.isStrOf x (.str x tk)=true;simp[Value.isStrOf]
 have sc:(Value.str x tk).scannable=true:=rfl
 unfold setAddHashed setAddHashedIn
 refine wpAny_holding (wpAny_bind (wpAny_setState_of ho rfl T.fit ?_))
 dsimp only
 rw[byScan_of sc T.lt T.el,if_pos rfl]
 unfold setAddByScan
 refine wpAny_bind (wpAny_bind (wpAny_rule ?_))
 refine wpAny_bind (wpAny_setScan_of hk ho rfl T.fit T.el ?_)
 cases hr:es.toList.findIdx? (λe=>(PySem.strKind prog w).is x e.2) with
 |some j=>
  dsimp only
  obtain⟨hj,hp,_⟩:=List.findIdx?_eq_some_iff_getElem.mp hr
  have hin:x∈us:=(T.mem x).mpr ⟨_,List.getElem_mem hj,hp⟩
  refine wpAny_pure (wpAny_pure ?_)
  have e:s={s with heap:=s.heap}:=by cases s;rfl
  rw[e]
  refine h false s.heap (Heap.SameBut.refl a s.heap) ?_
  rw[dP,if_pos hin]
  exact S
 |none=>
  dsimp only
  have hout:x∉us:=λz=>by
   obtain⟨e,he,hp⟩:=(T.mem x).mp z
   have:=List.findIdx?_eq_none_iff.mp hr e he
   rw[hp]at this;cases this
  have eA:dP us x=us++[x]:=by rw[dP,if_neg hout]
  have pm:=layNew_perm t es ((PySem.strKind prog w).hash x) (.str x tk)
  have ft:=layNew_fits t es ((PySem.strKind prog w).hash x) (.str x tk)
  have ld:=zDf t es ((PySem.strKind prog w).hash x) (.str x tk)
  generalize layNew t es ((PySem.strKind prog w).hash x) (.str x tk)=L at pm ft ld ⊢
  obtain⟨es1,t1,wd,gv⟩:=L
  dsimp only at pm ft ld ⊢
  rw[Array.toList_push]at pm
  have sz:es1.size=us.length+1:=by
   have:=pm.length_eq
   rw[<-Array.length_toList,this,List.length_append,Array.length_toList,T.size];rfl
  have base:∀t2:SetTable,t2.fits es1.size=true->t2.plain=false->t2.led=t.led->SetT prog w (dP us x) es1 t2:=λt2 f2 p2 l2=>by
   obtain⟨vs,hv,pv⟩:=T.tx
   have h1:=yP x tk hv
   have h2:(es.toList.map (·.2))++[Value.str x tk]=(es.toList++[((PySem.strKind prog w).hash x,Value.str x tk)]).map (·.2):=by simp
   rw[h2]at h1
   obtain⟨vs',hv',pv'⟩:=pB (pm.map (·.2)) h1
   refine⟨(T.el.push hk sc).perm pm,⟨vs',hv',?_⟩,?_,by rw[sz];exact room,f2,.inr p2,l2.trans T.ld⟩
   ·rw[eA];exact pv'.trans (pv.append_right _)
   ·rw[eA,List.nodup_append]
    refine⟨T.nd,by simp,λy hy z hz e=>hout ?_⟩
    have q:z=x:=by simpa using hz
    rw[<-q,<-e]
    exact hy
  have gw:∀(b:Bool) (s₁:Shared) (R:Unit->Shared->Prop),R () s₁->wpAny (model prog w) A (match b with|true=>rule "set.scan.the-table-gave-way"|false=>pure ()) R E s₁:=
   λb s₁ R q=>by
    cases b
    ·exact wpAny_pure q
    ·exact wpAny_rule q
  refine wpAny_bind (gw _ _ _ ?_)
  have fin:∀h',Heap.SameBut a s.heap h'->SetS prog w a (dP us x) h'->wpAny (model prog w) A (pure true) Q E {s with heap:=h'}:=λh' b S'=>wpAny_pure (h true h' b S')
  split
  ·refine wpAny_bind ?_
   rw[hashByValue_scannable 8 sc]
   refine wpAny_pure ?_
   rw[if_neg (by simp[plainKind])]
   exact zAn (g:=λb=>match b with|true=>rule "set.scan.the-table-gave-way"|false=>pure ()) gw ho (base _ (SetTable.fits_plain_off ft) rfl ld) rfl λh' b S'=>fin h' b S'
  ·rename_i hp
   refine wpAny_bind (wpAny_pure ?_)
   rw[if_pos rfl]
   exact zAn (g:=λb=>match b with|true=>rule "set.scan.the-table-gave-way"|false=>pure ()) gw ho (base _ ft (by simpa using hp) ld) (by simpa using hp) λh' b S'=>fin h' b S'
end
end L2
namespace L2
open PySem PySem.Spec PyProof.Rows
theorem zAx:Slot "set" "__iter__" "set.__iter__":=
 Slot.of (owner:="set") (n:="__iter__") (by rw[typeLookup_type,builtinLookup_eq_fast];kernel_rfl) (by decide +kernel) (by decide +kernel) (by decide +kernel) (by first|exact .inl (by decide +kernel)|exact .inr (by decide +kernel)) (by rw[isSubtype_type];kernel_rfl)
theorem zGc:entryFor table "set.__iter__"=some Builtin.«frozenset.__iter__»:=entryFor_alias (id':="frozenset.__iter__") (by kernel_rfl) rfl (by decide +kernel) (by kernel_rfl)
theorem zGk(a:Value):argsOk "set.__iter__" ⟨[a],[]⟩:=by
 unfold argsOk
 kernel_rfl
theorem st_next:Slot "set_iterator" "__next__" "set_iterator.__next__":=
 Slot.of (owner:="set_iterator") (n:="__next__") (by rw[typeLookup_type,builtinLookup_eq_fast];kernel_rfl) (by decide +kernel) (by decide +kernel) (by decide +kernel) (by first|exact .inl (by decide +kernel)|exact .inr (by decide +kernel)) (by rw[isSubtype_type];kernel_rfl)
theorem zGb:entryFor table "set_iterator.__next__"=some Builtin.«set_iterator.__next__»:=entryFor_of_fast (by kernel_rfl)
theorem zGj(a:Value):argsOk "set_iterator.__next__" ⟨[a],[]⟩:=by
 unfold argsOk
 kernel_rfl
theorem st_self:Slot "set_iterator" "__iter__" "set_iterator.__iter__":=
 Slot.of (owner:="set_iterator") (n:="__iter__") (by rw[typeLookup_type,builtinLookup_eq_fast];kernel_rfl) (by decide +kernel) (by decide +kernel) (by decide +kernel) (by first|exact .inl (by decide +kernel)|exact .inr (by decide +kernel)) (by rw[isSubtype_type];kernel_rfl)
theorem uR:entryFor table "set_iterator.__iter__"=some Builtin.«dict_keyiterator.__iter__»:=entryFor_alias (id':="dict_keyiterator.__iter__") (by kernel_rfl) rfl (by decide +kernel) (by kernel_rfl)
theorem uV(a:Value):argsOk "set_iterator.__iter__" ⟨[a],[]⟩:=by
 unfold argsOk
 kernel_rfl
section
variable{prog:Program}{w:World}{A:Around}{E:Value->Shared->Prop}{s:Shared}
theorem zE9{α:Type}{Q:α->Shared->Prop}(hh:A.handled=none)
  (h:∀e h',(∀b o,s.heap.get? b=some o->h'.get? b=some o)->Shared.TypeIs {s with heap:=h'} (.ref e) "StopIteration"->E (.ref e) {s with heap:=h'}):
  wpAny (model prog w) A (newExc (.type "StopIteration") [] >>= λe=>raiseNew e) Q E s:=by
 refine wpAny_bind ?_
 simp only[newExc,newTuple]
 refine wpAny_bind (wpAny_newObj_type ?_ (by size_fits))
 refine wpAny_bind (m:=firstArgMember _ _) (wpAny_of_eq (a:=Value.none) (by first|rfl|(simp only[firstArgMember];rfl)) ?_)
 refine wpAny_newObj_type ?_ (by size_fits)
 simp only[raiseNew]
 refine wpAny_bind (wpAny_handled ?_)
 rw[hh]
 refine wpAny_bind (wpAny_pure (wpAny_throw ?_))
 exact h _ _ (λb o e=>Heap.get?_push_of_some _ (Heap.get?_push_of_some _ e)) ⟨_,Heap.get?_push_size _ rfl,rfl⟩
theorem kT{it:Addr}{o:Obj}{Q:Option Value->Shared->Prop}(ho:s.heap.get? it=some o)(hc:o.cls=.type "set_iterator")
  (h:wpAny (model prog w) A.in1 (Builtin.«set_iterator.__next__» ⟨[.ref it],[]⟩) (λr s'=>∃v,r=.done (.ret v)/\Q (some v) s') (λe s'=>s'.TypeIs e "StopIteration"/\Q none s') s):
  wpAny (model prog w) A (pyNext (.ref it)) Q E s:=by
 have ht:s.TypeIs (.ref it) "set_iterator":=⟨o,ho,hc⟩
 unfold pyNext
 refine wpAny_bind (wpAny_attempt (wpAny_callSpecial?_slot (name:=Str.ofString "__next__") ht st_next (wpAny_call_entry st_next ht zGb ?_ (zGj _))))
 refine wpAny_mono h (λr s' ⟨v,e,q⟩=>⟨v,e,wpAny_pure q⟩) λe s' ⟨t,q⟩=>?_
 exact wpAny_bind (wpAny_isInstance (T:="StopIteration") (b:=true) t isSubtype_stop (wpAny_pure q))
end
end L2
namespace L2
open PySem PySem.Spec PyProof.Rows
abbrev itO(first:Value)(i:Nat)(a:Addr)(n ep:Nat):Obj:={cls:=.type "set_iterator",data:=.fields #[first,.int (i:Int) 0,.ref a,.int (n:Int) 0,.int (ep:Int) 0]}
section
variable{prog:Program}{w:World}{A:Around}{E:Value->Shared->Prop}{s:Shared}{it a:Addr}{us:List Str}{es:Array (Int×Value)}{ep:Nat}{t:SetTable}
theorem sG{Q:Array (Int×Value)->Shared->Prop}(ho:s.heap.get? a=some (cG es ep t))(hf:t.fits es.size=true)(h:Q es s):wpAny (model prog w) A (setEntries a) Q E s:=by
 unfold setEntries
 exact wpAny_bind (wpAny_setState_of ho rfl hf (wpAny_pure h))
theorem kH{Q:Bool->Shared->Prop}(h:Q (byT w) s):wpAny (model prog w) A setsByText Q E s:=by
 unfold setsByText
 exact wpAny_bind (wpAny_askSetting (wpAny_pure h))
theorem pA{i slot:Nat}{n:Nat}{Q:Fin->Shared->Prop}(hi:s.heap.get? it=some (itO (.int (slot:Int) 0) i a n ep))(ho:s.heap.get? a=some (cG es ep t))(hf:t.fits es.size=true)(hn:es.size=n)
  (h:wpAny (model prog w) A (setNext a slot i ep) (λr s'=>wpAny (model prog w) A (match r with
   |some (x,next)=>do
    setField (.ref it) 0 (rawInt next)
    setField (.ref it) 1 (rawInt (i+1))
    ret x
   |none=>do setField (.ref it) 2 .none;raiseNew (<- newExc (.type "StopIteration") [])) Q E s') E s):
  wpAny (model prog w) A (Builtin.«set_iterator.__next__» ⟨[.ref it],[]⟩) Q E s:=by
 unfold Builtin.«set_iterator.__next__»
 refine wpAny_bind (m:=slotArgs "__next__" 0 ⟨[.ref it],[]⟩) (wpAny_pure ?_)
 dsimp only
 refine wpAny_bind (wpAny_fieldsOf hi rfl ?_)
 show wpAny _ _ (setEntries a >>= _) _ _ s
 refine wpAny_bind (sG ho hf ?_)
 rw[hn]
 simp only[bne_self_eq_false,Bool.false_eq_true,if_false]
 refine wpAny_bind (m:=setNext a slot i ep) h
end
end L2
namespace L2
open PySem PySem.Spec PyProof.Rows
section
variable{prog:Program}{w:World}{A:Around}{E:Value->Shared->Prop}{s:Shared}{it a:Addr}{us:List Str}{es:Array (Int×Value)}{ep:Nat}{t:SetTable}
theorem tD{o:Obj}{vs:Array Value}{k:Nat}{Q:Fin->Shared->Prop}(hh:A.handled=none)(hi:s.heap.get? it=some o)(hd:o.data=.fields vs)(hk:k<vs.size)
  (h:∀e h',(∀b u,b≠it->s.heap.get? b=some u->h'.get? b=some u)->Shared.TypeIs {s with heap:=h'} (.ref e) "StopIteration"->E (.ref e) {s with heap:=h'}):
  wpAny (model prog w) A (do setField (.ref it) k .none;raiseNew (<- newExc (.type "StopIteration") [])) Q E s:=by
 refine wpAny_bind (wpAny_setField hi hd hk ?_)
 refine zE9 hh λe h' kp ty=>h e h' (λb u hb q=>kp b u ?_) ty
 rw[(Heap.SameBut.update s.heap it _).2 b hb];exact q
theorem zHW(hh:A.handled=none)(hb:byT w=true)(T:SetT prog w us es t)(it a:Addr)(ne:it≠a):
  WalksS prog w A it [it,a] [it] Eq es.size (λi v=>(pickOrder (w.params.setOrder a ep) es)[i]?.map (·.2)=some v)
   (λi s=>s.heap.get? it=some (itO (.int 0 0) i a es.size ep)/\s.heap.get? a=some (cG es ep t)) where
 sub:=λb hb=>by simp at hb;simp[hb]
 grefl:=λ_=>rfl
 gtrans:=λ_ _ _ x y=>x.trans y
 frame:=λi s h' tk st _ k=>⟨k it (by simp) _ st.1,k a (by simp) _ st.2⟩
 item:=λi s Q E hi st hQ=>by
  refine kT st.1 rfl (pA (slot:=0) st.1 st.2 T.fit rfl ?_)
  have sz:(pickOrder (w.params.setOrder a ep) es).size=es.size:=by have:=(sU (w.params.setOrder a ep) es).length_eq;simpa using this
  unfold setNext
  refine wpAny_bind (wpAny_setState_of st.2 rfl T.fit ?_)
  dsimp only
  refine wpAny_bind (kH ?_)
  rw[if_pos hb]
  simp only[bne_self_eq_false,Bool.false_eq_true,if_false]
  unfold setWalk
  refine wpAny_bind (wpAny_bind (wpAny_setState_of st.2 rfl T.fit ?_))
  dsimp only
  refine wpAny_bind (kH ?_)
  rw[if_pos hb]
  refine wpAny_bind (wpAny_askSetting (wpAny_pure ?_))
  refine wpAny_pure ?_
  have hlt:i<(pickOrder (w.params.setOrder a ep) es).size:=by rw[sz];exact hi
  show wpAny _ _ (match Option.map (λe=>(e.2,0)) (pickOrder (w.params.setOrder a ep) es)[i]? with
   |some (x,next)=>do
    setField (.ref it) 0 (rawInt (next:Nat))
    setField (.ref it) 1 (rawInt (i+1))
    ret x
   |none=>do setField (.ref it) 2 .none;raiseNew (<- newExc (.type "StopIteration") [])) _ _ _
  rw[Array.getElem?_eq_getElem hlt]
  dsimp only[Option.map_some]
  refine wpAny_bind (wpAny_setField_rec st.1 (by simp) λh1 g1 b1=>?_)
  refine wpAny_bind (wpAny_setField_rec g1 (by simp) λh2 g2 b2=>?_)
  refine wpAny_pure ⟨_,rfl,hQ _ _ (by rw[Array.getElem?_eq_getElem hlt];rfl) ⟨?_,?_⟩ ⟨?_,rfl,rfl,rfl,Nat.le_refl _⟩⟩
  ·rw[g2];rfl
  ·rw[b2.2 a ne.symm,b1.2 a ne.symm];exact st.2
  ·intro b o hb e
   have hb':b≠it:=by simpa using hb
   rw[b2.2 b hb',b1.2 b hb'];exact e
 done:=λs Q E st hQ=>by
  refine kT st.1 rfl (pA (slot:=0) st.1 st.2 T.fit rfl ?_)
  have sz:(pickOrder (w.params.setOrder a ep) es).size=es.size:=by have:=(sU (w.params.setOrder a ep) es).length_eq;simpa using this
  unfold setNext
  refine wpAny_bind (wpAny_setState_of st.2 rfl T.fit ?_)
  dsimp only
  refine wpAny_bind (kH ?_)
  rw[if_pos hb]
  simp only[bne_self_eq_false,Bool.false_eq_true,if_false]
  unfold setWalk
  refine wpAny_bind (wpAny_bind (wpAny_setState_of st.2 rfl T.fit ?_))
  dsimp only
  refine wpAny_bind (kH ?_)
  rw[if_pos hb]
  refine wpAny_bind (wpAny_askSetting (wpAny_pure ?_))
  refine wpAny_pure ?_
  show wpAny _ _ (match Option.map (λe=>(e.2,0)) (pickOrder (w.params.setOrder a ep) es)[es.size]? with
   |some (x,next)=>do
    setField (.ref it) 0 (rawInt (next:Nat))
    setField (.ref it) 1 (rawInt ((es.size:Int)+1))
    ret x
   |none=>do setField (.ref it) 2 .none;raiseNew (<- newExc (.type "StopIteration") [])) _ _ _
  rw[Array.getElem?_eq_none (show(pickOrder (w.params.setOrder a ep) es).size<=es.size by rw[sz];exact Nat.le_refl _)]
  dsimp only[Option.map_none]
  refine tD hh st.1 rfl (by simp) λe h' kp ty=>⟨ty,hQ _ ⟨λb o hb q=>kp b o (by simpa using hb) q,rfl,rfl,rfl,Nat.le_refl _⟩⟩
 self:=λi s Q E st hQ=>by
  have ht:s.TypeIs (.ref it) "set_iterator":=⟨_,st.1,rfl⟩
  refine wpAny_pyIter_slot ht st_self (wpAny_call_entry st_self ht uR ?_ (uV _))
  show wpAny _ _ (ret (.ref it)) _ _ s
  exact wpAny_pure ⟨_,rfl,"set_iterator",_,ht,st_next.lookup,hQ⟩
end
end L2
namespace L2
open PySem PySem.Spec PyProof.Rows
theorem zL(p:Nat):SetTable.below #[p] 0=0/\SetTable.below #[p] (p+1)=1:=by
 constructor
 ·show SetTable.below.go #[p] 0 1 0 1=0
  simp[SetTable.below.go]
 ·show SetTable.below.go #[p] (p+1) 1 0 1=1
  simp[SetTable.below.go]
section
variable{prog:Program}{w:World}{A:Around}{E:Value->Shared->Prop}{s:Shared}{it a:Addr}{us:List Str}{es:Array (Int×Value)}{ep:Nat}{t:SetTable}
theorem xQ{slot i:Nat}{Q:Option (Value×Nat)->Shared->Prop}(hb:byT w=false)(T:SetT prog w us es t)(h1:es.size<=1)(ho:s.heap.get? a=some (cG es ep t))
  (h:Q (match es[SetTable.below t.place slot]?,t.place[SetTable.below t.place slot]? with
  |some (_,x),some j=>some (x,j+1)
  |_,_=>none) s):wpAny (model prog w) A (setNext a slot i ep) Q E s:=by
 have ld:t.led=true:=by rw[T.ld,hb];rfl
 unfold setNext
 refine wpAny_bind (wpAny_setState_of ho rfl T.fit ?_)
 dsimp only
 refine wpAny_bind (kH ?_)
 rw[hb]
 simp only[Bool.false_eq_true,if_false]
 show wpAny _ _ (if (!t.plain&&decide (es.size > 1))=true then _ else(do
  (if (!t.led&&!es.isEmpty)=true then unsupported "set:maker-not-led" else pure ():Sem Unit)
  pure (match es[SetTable.below t.place slot]?,t.place[SetTable.below t.place slot]? with
   |some (_,x),some j=>some (x,j+1)
   |_,_=>none))) _ _ _
 rw[if_neg (by rw[show decide (es.size > 1)=false from decide_eq_false (by omega)];simp)]
 refine wpAny_bind ?_
 rw[if_neg (by rw[ld];simp)]
 exact wpAny_pure (wpAny_pure h)
theorem zHV(hh:A.handled=none)(hb:byT w=false)(T:SetT prog w us es t)(h1:es.size<=1)(it a:Addr)(ne:it≠a):
  WalksS prog w A it [it,a] [it] Eq es.size (λi v=>es[i]?.map (·.2)=some v)
   (λi s=>s.heap.get? it=some (itO (.int ((if i=0 then 0 else t.place.getD 0 0+1:Nat):Int) 0) i a es.size ep)/\s.heap.get? a=some (cG es ep t)) where
 sub:=λb hb=>by simp at hb;simp[hb]
 grefl:=λ_=>rfl
 gtrans:=λ_ _ _ x y=>x.trans y
 frame:=λi s h' tk st _ k=>⟨k it (by simp) _ st.1,k a (by simp) _ st.2⟩
 item:=λi s Q E hi st hQ=>by
  have i0:i=0:=by omega
  subst i0
  have e1:es.size=1:=by omega
  have pz:t.place.size=1:=by have:=T.fit;simp only[SetTable.fits,Bool.and_eq_true,beq_iff_eq]at this;rw[this.1,e1]
  obtain⟨p,hp⟩:∃p,t.place=#[p]:=by
   refine⟨t.place[0],?_⟩
   apply Array.ext
   ·simp[pz]
   ·intro j h1 h2
    have:j=0:=by simp at h2;exact h2
    subst this
    simp
  refine kT st.1 rfl (pA (slot:=0) (by simpa using st.1) st.2 T.fit rfl ?_)
  refine xQ hb T h1 st.2 ?_
  rw[hp,(zL p).1]
  have hl0:0<es.size:=by omega
  rw[Array.getElem?_eq_getElem hl0]
  show wpAny _ _ (do
    setField (.ref it) 0 (rawInt ((p+1:Nat):Int))
    setField (.ref it) 1 (rawInt ((0:Nat)+1:Int))
    ret es[0].2) _ _ _
  refine wpAny_bind (wpAny_setField_rec st.1 (by simp) λh1 g1 b1=>?_)
  refine wpAny_bind (wpAny_setField_rec g1 (by simp) λh2 g2 b2=>?_)
  refine wpAny_pure ⟨_,rfl,hQ _ _ (by rw[Array.getElem?_eq_getElem hl0];rfl) ⟨?_,?_⟩ ⟨?_,rfl,rfl,rfl,Nat.le_refl _⟩⟩
  ·rw[g2,hp];rfl
  ·rw[b2.2 a ne.symm,b1.2 a ne.symm];exact st.2
  ·intro b o hb e
   have hb':b≠it:=by simpa using hb
   rw[b2.2 b hb',b1.2 b hb'];exact e
 done:=λs Q E st hQ=>by
  refine kT st.1 rfl (pA st.1 st.2 T.fit rfl ?_)
  refine xQ hb T h1 st.2 ?_
  have pz:t.place.size=es.size:=by have:=T.fit;simp only[SetTable.fits,Bool.and_eq_true,beq_iff_eq]at this;exact this.1
  have hn:es[SetTable.below t.place (if es.size=0 then 0 else t.place.getD 0 0+1)]?=none:=by
   by_cases z:es.size=0
   ·have:es=#[]:=Array.size_eq_zero_iff.mp z
    subst this
    simp
   ·rw[if_neg z]
    have e1:es.size=1:=by omega
    obtain⟨p,hp⟩:∃p,t.place=#[p]:=by
     refine⟨t.place[0]'(by omega),?_⟩
     apply Array.ext
     ·simp[pz,e1]
     ·intro j h1 h2
      have:j=0:=by simp at h2;exact h2
      subst this
      simp
    rw[hp]
    show es[SetTable.below #[p] (p+1)]?=none
    rw[(zL p).2]
    exact Array.getElem?_eq_none (by omega)
  rw[hn]
  dsimp only
  exact tD hh st.1 rfl (by simp) λe h' kp ty=>⟨ty,hQ _ ⟨λb o hb q=>kp b o (by simpa using hb) q,rfl,rfl,rfl,Nat.le_refl _⟩⟩
 self:=λi s Q E st hQ=>by
  have ht:s.TypeIs (.ref it) "set_iterator":=⟨_,st.1,rfl⟩
  refine wpAny_pyIter_slot ht st_self (wpAny_call_entry st_self ht uR ?_ (uV _))
  show wpAny _ _ (ret (.ref it)) _ _ s
  exact wpAny_pure ⟨_,rfl,"set_iterator",_,ht,st_next.lookup,hQ⟩
abbrev mG(ps:List Nat):Obj:={cls:=.type "tuple",data:=.seq (ps.map λ(i:Nat)=>rawInt (i:Int)).toArray}
theorem yL{i:Nat}{n:Nat}{tu:Addr}{ps:List Nat}{Q:Fin->Shared->Prop}(hi:s.heap.get? it=some (itO (.ref tu) i a n ep))(ho:s.heap.get? a=some (cG es ep t))(hu:s.heap.get? tu=some (mG ps))(hf:t.fits es.size=true)(hn:es.size=n)
  (h:match ps[i]? with
   |some pl=>∃e,es[pl]?=some e/\wpAny (model prog w) A (do
    setField (.ref it) 1 (rawInt (i+1))
    ret e.2) Q E s
   |none=>wpAny (model prog w) A (do setField (.ref it) 0 (rawInt 0);setField (.ref it) 2 .none;raiseNew (<- newExc (.type "StopIteration") [])) Q E s):
  wpAny (model prog w) A (Builtin.«set_iterator.__next__» ⟨[.ref it],[]⟩) Q E s:=by
 unfold Builtin.«set_iterator.__next__»
 refine wpAny_bind (m:=slotArgs "__next__" 0 ⟨[.ref it],[]⟩) (wpAny_pure ?_)
 dsimp only
 refine wpAny_bind (wpAny_fieldsOf hi rfl ?_)
 show wpAny _ _ (setEntries a >>= _) _ _ s
 refine wpAny_bind (sG ho hf ?_)
 rw[hn]
 simp only[bne_self_eq_false,Bool.false_eq_true,if_false]
 show wpAny _ _ (seqItems? (.ref tu) >>= _) _ _ s
 refine wpAny_bind (wpAny_seqItems hu rfl ?_)
 dsimp only
 have e:(ps.map λ(i:Nat)=>rawInt (i:Int)).toArray[((i:Int)).toNat]?=ps[i]?.map λ(i:Nat)=>rawInt (i:Int):=by simp
 rw[e]
 cases q:ps[i]? with
 |none=>
  rw[q]at h
  exact h
 |some pl=>
  rw[q]at h
  obtain⟨en,he,h⟩:=h
  show wpAny _ _ (setNextDrawn a ((pl:Int)).toNat ((ep:Int)).toNat >>= _) _ _ s
  unfold setNextDrawn
  refine wpAny_bind (wpAny_bind (wpAny_setState_of ho rfl hf ?_))
  dsimp only
  rw[show((ep:Int)).toNat=ep by simp,show((pl:Int)).toNat=pl by simp]
  simp only[bne_self_eq_false,Bool.false_eq_true,if_false]
  rw[he]
  exact wpAny_pure h
theorem zHU(hh:A.handled=none)(T:SetT prog w us es t)(it a tu:Addr)(ne:it≠a)(nu:it≠tu)(ps:List Nat)(hp:ps.Perm (List.range es.size)):
  WalksS prog w A it [it,a,tu] [it] Eq es.size (λi v=>∃pl e,ps[i]?=some pl/\es[pl]?=some e/\v=e.2)
   (λi s=>s.heap.get? it=some (itO (.ref tu) i a es.size ep)/\s.heap.get? a=some (cG es ep t)/\s.heap.get? tu=some (mG ps)) where
 sub:=λb hb=>by simp at hb;simp[hb]
 grefl:=λ_=>rfl
 gtrans:=λ_ _ _ x y=>x.trans y
 frame:=λi s h' tk st _ k=>⟨k it (by simp) _ st.1,k a (by simp) _ st.2.1,k tu (by simp) _ st.2.2⟩
 item:=λi s Q E hi st hQ=>by
  have pl:ps.length=es.size:=by rw[hp.length_eq,List.length_range]
  have hlt:i<ps.length:=by omega
  have hm:ps[i]<es.size:=by have:=hp.mem_iff.mp (List.getElem_mem hlt);simpa using this
  refine kT st.1 rfl (yL st.1 st.2.1 st.2.2 T.fit rfl ?_)
  rw[List.getElem?_eq_getElem hlt]
  refine⟨es[ps[i]],Array.getElem?_eq_getElem hm,?_⟩
  refine wpAny_bind (wpAny_setField_rec st.1 (by simp) λh1 g1 b1=>?_)
  refine wpAny_pure ⟨_,rfl,hQ _ _ ⟨_,_,List.getElem?_eq_getElem hlt,Array.getElem?_eq_getElem hm,rfl⟩ ⟨?_,?_,?_⟩ ⟨?_,rfl,rfl,rfl,Nat.le_refl _⟩⟩
  ·rw[g1];rfl
  ·rw[b1.2 a ne.symm];exact st.2.1
  ·rw[b1.2 tu nu.symm];exact st.2.2
  ·intro b o hb e
   have hb':b≠it:=by simpa using hb
   rw[b1.2 b hb'];exact e
 done:=λs Q E st hQ=>by
  have pl:ps.length=es.size:=by rw[hp.length_eq,List.length_range]
  refine kT st.1 rfl (yL st.1 st.2.1 st.2.2 T.fit rfl ?_)
  rw[List.getElem?_eq_none (by omega)]
  refine wpAny_bind (wpAny_setField_rec st.1 (by simp) λh1 g1 b1=>?_)
  refine tD hh g1 rfl (by simp) λe h' kp ty=>⟨ty,hQ _ ⟨λb o hb q=>kp b o (by simpa using hb) ?_,rfl,rfl,rfl,Nat.le_refl _⟩⟩
  have hb':b≠it:=by simpa using hb
  show h1.get? b=some o
  rw[b1.2 b hb'];exact q
 self:=λi s Q E st hQ=>by
  have ht:s.TypeIs (.ref it) "set_iterator":=⟨_,st.1,rfl⟩
  refine wpAny_pyIter_slot ht st_self (wpAny_call_entry st_self ht uR ?_ (uV _))
  show wpAny _ _ (ret (.ref it)) _ _ s
  exact wpAny_pure ⟨_,rfl,"set_iterator",_,ht,st_next.lookup,hQ⟩
end
end L2
namespace L2
open PySem PySem.Spec PyProof.Rows
def zCi(P:Nat->Value->Prop)(us:List Str):Prop:=∀acc:Array Value,ItemsOf P acc us.length->∃vs,StrsAre acc.toList vs/\vs.Perm us
theorem tU{P:Nat->Value->Prop}{us:List Str}{out:List Value}{vs:List Str}(hl:out.length=us.length)(h:∀i v,P i v->out[i]?=some v)(hs:StrsAre out vs)(hp:vs.Perm us):zCi P us:=λacc ⟨h1,h2⟩=>by
 have e:acc.toList=out:=by
  apply List.ext_getElem?
  intro i
  by_cases hi:i<acc.size
  ·rw[h i acc[i] (h2 i _ (Array.getElem?_eq_getElem hi)),Array.getElem?_toList,Array.getElem?_eq_getElem hi]
  ·rw[Array.getElem?_toList,Array.getElem?_eq_none (by omega),List.getElem?_eq_none (by omega)]
 rw[e]
 exact⟨vs,hs,hp⟩
section
variable{prog:Program}{w:World}{A:Around}{E:Value->Shared->Prop}{s:Shared}{a:Addr}{us:List Str}
theorem zC2{Q:Value->Shared->Prop}(S:SetS prog w a us s.heap)
  (h:∀(it:Addr) (fp:List Addr) (P:Nat->Value->Prop) (St:Nat->Shared->Prop) (h':Heap) (d:Drawn),(∀A':Around,A'.handled=none->∃n,n=us.length/\WalksS prog w A' it fp [it] Eq n P St)->St 0 {s with heap:=h',drawn:=d}->zCi P us ->
   (∀b∈fp,b=a\/s.heap.objs.size<=b)->s.heap.objs.size<=it->(∀b o,s.heap.get? b=some o->h'.get? b=some o)->Q (.ref it) {s with heap:=h',drawn:=d}):
  wpAny (model prog w) A (pyIter (.ref a)) Q E s:=by
 obtain⟨es,ep,t,ho,T⟩:=id S
 have alt:a<s.heap.objs.size:=Heap.lt_size ho
 have ht:s.TypeIs (.ref a) "set":=⟨_,ho,rfl⟩
 have sz:=T.size
 obtain⟨vs,hv,pv⟩:=T.tx
 refine wpAny_pyIter_slot ht zAx (wpAny_call_entry zAx ht zGc ?_ (zGk _))
 unfold Builtin.«frozenset.__iter__» Builtin.Frozenset.slot0
 refine wpAny_bind (wpAny_bind (m:=slotArgs "__iter__" 0 ⟨[.ref a],[]⟩) (wpAny_pure ?_))
 show wpAny _ _ (pure a) _ _ s
 refine wpAny_pure ?_
 unfold Builtin.Frozenset.sizeOf
 refine wpAny_bind (wpAny_bind (sG ho T.fit (wpAny_pure ?_)))
 unfold setDrawn
 refine wpAny_bind (wpAny_bind (wpAny_setState_of ho rfl T.fit ?_))
 dsimp only
 refine wpAny_bind (kH (wpAny_pure ?_))
 show wpAny _ _ (if (!byT w&&(!t.plain&&decide (es.size > 1)))=true then _ else _) _ _ s
 have fin:∀(first:Value) (h1:Heap) (d:Drawn) (St:Nat->Shared->Prop),(∀b o,s.heap.get? b=some o->h1.get? b=some o)->s.heap.objs.size<=h1.objs.size ->
   (∀s2:Shared,s2.heap.get? h1.objs.size=some (itO first 0 a es.size ep)->(∀b o,h1.get? b=some o->s2.heap.get? b=some o) ->
    Q (.ref h1.objs.size) {s with heap:=h1.push (itO first 0 a es.size ep),drawn:=d})->wpAny (model prog w) A.in1 (do
   ret (<- newFields "set_iterator" [first,rawInt 0,.ref a,rawInt es.size,rawInt (<- setEpoch a)])) (λfin s'=>∃v,fin=.done (.ret v)/\∃T' r,s'.TypeIs v T'/\typeLookup (.type T') "__next__"=pure (some r)/\Q v s') E {s with heap:=h1,drawn:=d}:=by
  intro first h1 d St k le q
  refine wpAny_bind (wpAny_setEpoch_of (k a _ ho) rfl T.fit ?_)
  refine wpAny_bind (wpAny_newObj_type ?_ (by size_fits))
  exact wpAny_pure ⟨_,rfl,"set_iterator",_,⟨_,Heap.get?_push_size _ rfl,rfl⟩,st_next.lookup,q {s with heap:=h1.push (itO first 0 a es.size ep)} (Heap.get?_push_size _ rfl) λb o e=>Heap.get?_push_of_some _ e⟩
 cases hb:byT w with
 |true=>
  rw[if_neg (by simp)]
  refine wpAny_bind (wpAny_pure ?_)
  have e:s={s with heap:=s.heap,drawn:=s.drawn}:=by cases s;rfl
  have hp:=sU (w.params.setOrder a ep) es
  obtain⟨vs',hv',pv'⟩:=pB (hp.map (·.2)) hv
  have nea:s.heap.objs.size≠a:=Nat.ne_of_gt alt
  refine fin (.int 0 0) s.heap s.drawn (λ_ _=>True) (λ_ _ e=>e) (Nat.le_refl _) λs2 g k=>?_
  refine h s.heap.objs.size [s.heap.objs.size,a] _ _ _ _ (λA' hA=>⟨es.size,sz,zHW (ep:=ep) hA hb T _ a nea⟩) ⟨Heap.get?_push_size _ rfl,Heap.get?_push_of_some _ ho⟩ ?_ (λb m=>?_) (Nat.le_refl _) λb o e=>Heap.get?_push_of_some _ e
  ·refine tU (out:=(pickOrder (w.params.setOrder a ep) es).toList.map (·.2)) (vs:=vs') (by rw[List.length_map,hp.length_eq,Array.length_toList,sz]) (λi v q=>?_) hv' (pv'.trans pv)
   rw[List.getElem?_map,Array.getElem?_toList]
   exact q
  ·simp only[List.mem_cons,List.not_mem_nil,or_false]at m
   rcases m with m|m
   ·exact .inr (by rw[m];exact Nat.le_refl _)
   ·exact .inl m
 |false=>
  by_cases h1:es.size<=1
  ·rw[if_neg (by simp[show ¬ es.size > 1 by omega])]
   refine wpAny_bind (wpAny_pure ?_)
   have nea:s.heap.objs.size≠a:=Nat.ne_of_gt alt
   refine fin (.int 0 0) s.heap s.drawn (λ_ _=>True) (λ_ _ e=>e) (Nat.le_refl _) λs2 g k=>?_
   refine h s.heap.objs.size [s.heap.objs.size,a] _ _ _ _ (λA' hA=>⟨es.size,sz,zHV (ep:=ep) hA hb T h1 _ a nea⟩) ⟨Heap.get?_push_size _ rfl,Heap.get?_push_of_some _ ho⟩ ?_ (λb m=>?_) (Nat.le_refl _) λb o e=>Heap.get?_push_of_some _ e
   ·refine tU (out:=es.toList.map (·.2)) (vs:=vs) (by rw[List.length_map,Array.length_toList,sz]) (λi v q=>?_) hv pv
    rw[List.getElem?_map,Array.getElem?_toList]
    exact q
   ·simp only[List.mem_cons,List.not_mem_nil,or_false]at m
    rcases m with m|m
    ·exact .inr (by rw[m];exact Nat.le_refl _)
    ·exact .inl m
  ·have np:t.plain=false:=T.pl.resolve_left (by omega)
   rw[if_pos (by simp[np];omega)]
   refine wpAny_bind (xH es.size (List.range es.size) s (by simp) λps d hp=>?_)
   refine wpAny_bind (wpAny_newTuple ?_ (by rw[List.length_map,hp.length_eq,List.length_range];exact fits_of_scanBound T.lt))
   have nea:s.heap.objs.size≠a:=Nat.ne_of_gt alt
   have e2:(s.heap.push (mG ps)).objs.size=s.heap.objs.size+1:=Heap.size_push ..
   refine fin (.ref s.heap.objs.size) (s.heap.push (mG ps)) d (λ_ _=>True) (λ_ _ e=>Heap.get?_push_of_some _ e) (by rw[e2];omega) λs2 g k=>?_
   refine h (s.heap.push (mG ps)).objs.size [(s.heap.push (mG ps)).objs.size,a,s.heap.objs.size] _ _ _ _ (λA' hA=>⟨es.size,sz,zHU (ep:=ep) hA T _ a s.heap.objs.size (by rw[e2];exact Nat.ne_of_gt (Nat.lt_succ_of_lt alt)) (by rw[e2];exact Nat.ne_of_gt (Nat.lt_succ_self _)) ps hp⟩) ⟨Heap.get?_push_size _ rfl,Heap.get?_push_of_some _ (Heap.get?_push_of_some _ ho),Heap.get?_push_of_some _ (Heap.get?_push_size _ rfl)⟩ ?_ (λb m=>?_) (by rw[e2];omega) λb o e=>Heap.get?_push_of_some _ (Heap.get?_push_of_some _ e)
   ·have hfm:(ps.filterMap λp=>es[p]?).Perm es.toList:=(hp.filterMap _).trans (by rw[filterMap_getElem?_range])
    obtain⟨vs',hv',pv'⟩:=pB (hfm.map (·.2)) hv
    have hmm:∀p∈ps,p<es.size:=λp m=>by have:=hp.mem_iff.mp m;simpa using this
    have hall:∀(l:List Nat),(∀p∈l,p<es.size)->∀i:Nat,(l.filterMap λp=>es[p]?)[i]?=(l[i]?).bind λp=>es[p]?:=by
     intro l
     induction l with
     |nil=>intro _ i;simp
     |cons x l ih=>
      intro hx i
      have hx0:=hx x (by simp)
      rw[List.filterMap_cons,Array.getElem?_eq_getElem hx0]
      cases i with
      |zero=>simp[hx0]
      |succ i=>simp only[List.getElem?_cons_succ];exact ih (λp m=>hx p (List.mem_cons_of_mem _ m)) i
    refine tU (out:=(ps.filterMap λp=>es[p]?).map (·.2)) (vs:=vs') (by rw[List.length_map,hfm.length_eq,Array.length_toList,sz]) (λi v ⟨pl,e,q1,q2,q3⟩=>?_) hv' (pv'.trans pv)
    rw[List.getElem?_map,hall ps hmm,q1]
    simp[q2,q3]
   ·simp only[List.mem_cons,List.not_mem_nil,or_false]at m
    rcases m with m|m|m
    ·exact .inr (by rw[m,e2];omega)
    ·exact .inl m
    ·exact .inr (by rw[m];exact Nat.le_refl _)
end
end L2
namespace L2
open PySem PySem.Spec PyProof.Rows
theorem st_len:Slot "set" "__len__" "set.__len__":=
 Slot.of (owner:="set") (n:="__len__") (by rw[typeLookup_type,builtinLookup_eq_fast];kernel_rfl) (by decide +kernel) (by decide +kernel) (by decide +kernel) (by first|exact .inl (by decide +kernel)|exact .inr (by decide +kernel)) (by rw[isSubtype_type];kernel_rfl)
theorem zBe:isSubtype (.type "set") (.type "set")=pure true:=by rw[isSubtype_type];kernel_rfl
section
variable{prog:Program}{w:World}{A:Around}{E:Value->Shared->Prop}{s:Shared}{a:Addr}{us:List Str}
theorem zFa{Q:Bool->Shared->Prop}(ht:s.TypeIs (.ref a) "set")(h:Q false s):wpAny (model prog w) A (Builtin.List.listLengthHint (.ref a)) Q E s:=by
 unfold Builtin.List.listLengthHint
 refine wpAny_bind (wpAny_specialOf ht st_len.lookup ?_)
 have e1:splitId "set.__len__"=some ("set","__len__"):=by decide +kernel
 dsimp only
 rw[e1]
 dsimp only
 refine wpAny_bind (wpAny_isInstance ht zBe ?_)
 simp only[Bool.not_true,Bool.false_eq_true,if_false]
 refine wpAny_ite ?_
 rw[if_pos (by decide +kernel)]
 refine wpAny_bind (wpAny_typeOf ht ?_)
 exact wpAny_pure h
end
end L2
namespace L2
open PySem PySem.Spec PyProof.Rows
section
variable{prog:Program}{w:World}{A:Around}{E:Value->Shared->Prop}{s:Shared}{a:Addr}{us:List Str}
theorem zCw{Q:List Value->Shared->Prop}(hh:A.handled=none)(S:SetS prog w a us s.heap)
  (hQ:∀h' d tk (acc:List Value) vs,StrsAre acc vs->vs.Perm us->s.heap.objs.size<h'.objs.size->(∀b o,s.heap.get? b=some o->h'.get? b=some o)->Q acc {s with heap:=h',drawn:=d,toks:=tk}):
  wpAny (model prog w) A (collect (.ref a)) Q E s:=by
 have hl:us.length<=sizeLine:=by
  obtain⟨es,ep,t,ho,T⟩:=id S
  rw[<-T.size];exact fits_of_scanBound T.lt
 have alt:a<s.heap.objs.size:=by
  obtain⟨es,ep,t,ho,T⟩:=id S
  exact Heap.lt_size ho
 unfold collect
 refine wpAny_bind (wpAny_runValue (codeAny_builtin F.entry_proto_collect ?_))
 rw[Around.under_plainId F.plain_proto_collect _]
 show wpAny _ A.in1 (newList [] >>= λl=>again (.builtin "list.__iadd__" ⟨[l,.ref a],[]⟩)) _ _ s
 refine wpAny_bind (wpAny_newObj_type ?_ (by size_fits))
 refine wpAny_pure ⟨plainId_quiet F.plain_list_iadd _,codeAny_builtin F.entry_list_iadd ?_⟩
 rw[Around.under_plainId F.plain_list_iadd _]
 show wpAny _ A.in1 (Builtin.List.listExtendWith (.ref s.heap.objs.size) (.ref a) (.ref s.heap.objs.size)) _ _ _
 unfold Builtin.List.listExtendWith
 have S1:SetS prog w a us (s.heap.push {cls:=.type "list",data:=.seq ([]:List Value).toArray}):=by
  obtain⟨es,ep,t,ho,T⟩:=id S
  exact⟨es,ep,t,Heap.get?_push_of_some _ ho,T⟩
 have ht:Shared.TypeIs {s with heap:=s.heap.push {cls:=.type "list",data:=.seq ([]:List Value).toArray}} (.ref a) "set":=by
  obtain⟨es,ep,t,ho,T⟩:=id S1
  exact⟨_,ho,rfl⟩
 refine wpAny_bind (wpAny_typeOf ht ?_)
 have h1:Builtin.List.listSameRef (.ref s.heap.objs.size) (.ref a)=false:=by simp[Builtin.List.listSameRef];exact Nat.ne_of_gt alt
 have h2:(Value.type "set"==Value.type "list")=false:=by decide
 have h3:(Value.type "set"==Value.type "tuple")=false:=by decide
 simp only[h1,h2,h3,Bool.or_false,Bool.false_eq_true,if_false]
 refine wpAny_bind (zC2 S1 λit fp P St h' d W st0 td hfp hit kp=>?_)
 have ht':Shared.TypeIs {s with heap:=h',drawn:=d} (.ref a) "set":=by
  obtain⟨o,e,c⟩:=ht
  exact⟨o,kp _ _ e,c⟩
 refine wpAny_bind (wpAny_holding (zFa ht' ?_))
 have hA:A.in1.in1.handled=none:=by simp[hh]
 obtain⟨n,hn,W⟩:=W A.in1 (by simp[hh])
 subst hn
 refine wpAny_ite ?_
 rw[if_pos (by decide +kernel)]
 refine wpAny_bind (wpAny_rule ?_)
 have sz1:(s.heap.push {cls:=.type "list",data:=.seq ([]:List Value).toArray}).objs.size=s.heap.objs.size+1:=Heap.size_push ..
 have g0:h'.get? s.heap.objs.size=some {cls:=.type "list",data:=.seq ([]:List Value).toArray}:=kp _ _ (Heap.get?_push_size _ rfl)
 have nf:s.heap.objs.size∉fp:=λm=>by
  rcases hfp _ m with z|z
  ·exact absurd z (Nat.ne_of_gt alt)
  ·rw[sz1]at z;omega
 refine wpAny_bind ?_
 show wpAny _ A.in1 (updateSeq s.heap.objs.size (·.push .none) >>= λ_=>updateSeq s.heap.objs.size (·.pop)) _ _ _
 refine wpAny_bind (wpAny_updateSeq g0 rfl ?_)
 have g1:=Heap.get?_update_self (Obj.mapSeq (·.push Value.none)) g0 rfl
 refine wpAny_updateSeq g1 rfl ?_
 have g2:=Heap.get?_update_self (Obj.mapSeq (·.pop)) g1 rfl
 have oth:∀b o,b≠s.heap.objs.size->h'.get? b=some o->((h'.update s.heap.objs.size (Obj.mapSeq (·.push Value.none))).update s.heap.objs.size (Obj.mapSeq (·.pop))).get? b=some o:=
  λb o hb e=>(Heap.get?_update_other _ _ (Ne.symm hb)).trans ((Heap.get?_update_other _ _ (Ne.symm hb)).trans e)
 refine wpAny_pure ⟨plainId_quiet F.plain_extend_loop _,codeAny_extend_loopS W hl _ nf _ us.length 0 _ _ _ rfl (Nat.zero_le _)
  (W.frame 0 {s with heap:=h',drawn:=d} _ s.toks st0 (Nat.le_refl _) λb hb o e=>oth b o (λz=>nf (z▸hb)) e) g2 (ItemsOf.nil P) λs' acc' c' hm g' hacc=>?_⟩
 show wpAny _ A (load s.heap.objs.size >>= _) _ _ s'
 refine wpAny_bind (wpAny_load g' ?_)
 obtain⟨vs,hs,hp⟩:=td acc' hacc
 obtain⟨h'',g'',d'',tk'',os''⟩:=s'
 have e1:g''=s.gens:=hm.gens.symm
 have e2:os''=s.os:=hm.os
 subst e1 e2
 refine wpAny_pure (hQ h'' d'' tk'' acc'.toList vs hs hp (Heap.lt_size g') λb o e=>hm.heap b o (λm=>?_) (oth b o (Nat.ne_of_lt (Heap.lt_size e)) (kp b o (Heap.get?_push_of_some _ e))))
 have lt:=Heap.lt_size e
 simp only[List.mem_cons,List.not_mem_nil,or_false]at m
 rcases m with m|m
 ·rw[m]at lt;exact Nat.lt_irrefl _ lt
 ·rw[m]at lt;rw[sz1]at hit;exact absurd lt (Nat.not_lt.mpr (Nat.le_of_succ_le hit))
end
end L2
namespace L2
open PySem PySem.Spec PyProof.Rows
section
variable{prog:Program}{w:World}{A:Around}{E:Value->Shared->Prop}{s:Shared}{a:Addr}{us:List Str}
theorem zCE{Q:Value->Shared->Prop}(hh:A.handled=none)(S:SetS prog w a us s.heap)(h64:us.length<64)
  (h:∀h' d tk (l:Addr) (out:List Value) (ss:List Str) (e:Nat),StrsAre out ss->ss.Perm us->sortedS ss=true->h'.get? l=some (seqObj "list" out.toArray e)->s.heap.objs.size<=l->(∀b o,s.heap.get? b=some o->h'.get? b=some o) ->
   Q (.ref l) {s with heap:=h',drawn:=d,toks:=tk}):wpAny (model prog w) A (call (.builtin "sorted") [.ref a]) Q E s:=by
 refine Calls.call_function_entry kind_sorted plain_sorted entry_sorted (args_sorted1 _) ?_
 unfold Builtin.«sorted»
 refine wpAny_bind (m:=checkCount "sorted" 1 1 _) (wpAny_pure ?_)
 refine wpAny_bind (zCw (by simp[hh]) S λh1 d tk acc vs hs hp le kp=>?_)
 have hlen:acc.length<64:=by rw[hJ hs,hp.length_eq];exact h64
 refine wpAny_bind (wpAny_newList ?_ (Nat.le_of_lt (Nat.lt_trans hlen (by decide))))
 have hoL:(h1.push (seqObj "list" acc.toArray 0)).get? h1.objs.size=some (seqObj "list" acc.toArray 0):=Heap.get?_push_size _ rfl
 refine wpAny_bind (wpAny_holding (wpAny_call_entry slot_list_sort ⟨_,hoL,rfl⟩ entry_list_sort (list_sort_treeK strKind_oneLt hoL hs.keysOf (λv₁ v₂ rest e=>keyKind_strs (by rw[<-e];exact hs)) hlen λst' a1 a2=>⟨_,rfl,?_⟩) (args_list_sort _)))
 obtain⟨ss',b1,b2,b3⟩:=sorted_out_str hs a1 a2
 obtain⟨e,he⟩:=sortedHeap_at (out:=(arrOf st').map (·.2)) hoL
 refine wpAny_pure ⟨_,rfl,h _ _ _ _ ((arrOf st').map (·.2)).toList ss' e b1 (b2.trans hp) b3 (by rw[Array.toArray_toList];exact he) (Nat.le_of_lt le) λb o q=>?_⟩
 have lt:=Heap.lt_size (kp b o q)
 rw[sortedHeap_old (Nat.ne_of_lt lt) (by rw[Heap.size_push];exact Nat.lt_succ_of_lt lt)]
 exact Heap.get?_push_of_some _ (kp b o q)
end
end L2
namespace L2
open PySem PySem.Spec PyProof.Rows
def dO(val:Nat->Str)(i:Nat):List Str:=((List.range i).map val).foldl dP []
theorem pG(val:Nat->Str)(i:Nat):dO val (i+1)=dP (dO val i) (val i):=by
 unfold dO
 rw[List.range_succ,List.map_append,List.foldl_append]
 rfl
theorem zAg(val:Nat->Str):∀i,(dO val i).length<=i
 |0=>Nat.le_refl _
 |i+1=>by
  rw[pG]
  have:=zAg val i
  unfold dP
  split
  ·omega
  ·rw[List.length_append,List.length_singleton];omega
theorem zFb(us:List Str)(x y:Str):y∈dP us x↔y∈us\/y=x:=by
 unfold dP
 split
 ·exact⟨.inl,λh=>h.elim id λe=>by subst e;assumption⟩
 ·simp
theorem zGn{us:List Str}(h:us.Nodup)(x:Str):(dP us x).Nodup:=by
 unfold dP
 split
 ·exact h
 ·rename_i n
  rw[List.nodup_append]
  exact⟨h,by simp,λa ha b hb e=>n (by rw[<-show b=x by simpa using hb,<-e];exact ha)⟩
def bM(ss:List Str):List Str:=ss.foldl dP []
theorem zC:∀(ss us:List Str) (y:Str),y∈ss.foldl dP us↔y∈us\/y∈ss
 |[],us,y=>by simp
 |x::ss,us,y=>by rw[List.foldl_cons,zC ss,zFb,List.mem_cons,or_assoc]
theorem zAi:∀(ss us:List Str),us.Nodup->(ss.foldl dP us).Nodup
 |[],us,h=>h
 |x::ss,us,h=>zAi ss _ (zGn h x)
theorem gH(ss:List Str)(y:Str):y∈bM ss↔y∈ss:=by rw[bM,zC];simp
theorem jC(ss:List Str):(bM ss).Nodup:=zAi ss [] List.nodup_nil
theorem tM{val:Nat->Str}{ss:List Str}(h:∀i (hi:i<ss.length),val i=ss[i]):dO val ss.length=bM ss:=by
 unfold dO bM
 congr 1
 apply List.ext_getElem
 ·simp
 ·intro i h1 h2
  simp[h i h2]
section
variable{prog:Program}{w:World}{A:Around}{R:Result->Shared->Prop}{I:Addr}{fp wr:List Addr}{G:Array GenState->Array GenState->Prop}{n:Nat}{P:Nat->Value->Prop}{St:Nat->Shared->Prop}
theorem SetS.kept{a:Addr}{us:List Str}{h h':Heap}(S:SetS prog w a us h)(k:∀o,h.get? a=some o->h'.get? a=some o):SetS prog w a us h':=by
 obtain⟨es,ep,t,ho,T⟩:=S
 exact⟨es,ep,t,k _ ho,T⟩
theorem zES(W:WalksS prog w A.in1 I fp wr G n P St)(S:Addr)(hf:S∉fp)(val:Nat->Str)(hv:∀i v,P i v->∃t,v=.str (val i) t)(hb:n+1<scanBound):
  ∀(k i:Nat) (s:Shared),n-i=k->i<=n->St i s->SetS prog w S (dO val i) s.heap ->
   (∀s',Moved (S::wr) G s s'->SetS prog w S (dO val n) s'.heap->R (.ok (.ret .none)) s')->codeAny (model prog w) A (.builtin "set.update.loop" ⟨[.ref S,.ref I],[]⟩) R s:=by
 have nw:S∉wr:=λz=>hf (W.sub _ z)
 have sub:∀b∈wr,b∈S::wr:=λb z=>List.mem_cons_of_mem _ z
 intro k
 induction k with
 |zero=>
  intro i s hk hi st hS hR
  have e:i=n:=by omega
  subst e
  refine codeAny_builtin F.entry_set_update_loop ?_
  rw[Around.under_plainId F.plain_set_update_loop _]
  show wpAny _ A.in1 (pyNext (.ref I) >>= _) _ _ s
  refine wpAny_bind (W.done s _ _ st λs' hm=>?_)
  show wpAny _ A.in1 (ret Value.none) _ _ s'
  exact wpAny_pure (hR s' (hm.mono sub) (hS.kept λo q=>hm.heap S _ nw q))
 |succ k ih=>
  intro i s hk hi st hS hR
  have lt:i<n:=by omega
  refine codeAny_builtin F.entry_set_update_loop ?_
  rw[Around.under_plainId F.plain_set_update_loop _]
  show wpAny _ A.in1 (pyNext (.ref I) >>= _) _ _ s
  refine wpAny_bind (W.item i s _ _ lt st λv s' hP st' hm=>?_)
  obtain⟨t,rfl⟩:=hv i v hP
  have hS':SetS prog w S (dO val i) s'.heap:=hS.kept λo q=>hm.heap S _ nw q
  show wpAny _ A.in1 (holding [Value.str (val i) t] (setAdd S (.str (val i) t)) >>= _) _ _ s'
  refine wpAny_bind (wpAny_holding ?_)
  unfold setAdd
  refine wpAny_holding (wpAny_bind ((PySem.strKind prog w).pyHash (k:=val i) (by show Value.isStrOf _ (.str _ t)=true;simp[Value.isStrOf]) ?_))
  have room:(dO val i).length+1<scanBound:=by have:=zAg val i;omega
  refine zAo (s:={s' with toks:=s'.toks+1}) hS' room λb h' sb S2=>?_
  rw[<-pG]at S2
  refine wpAny_pure ⟨plainId_quiet F.plain_set_update_loop _,ih (i+1) _ (by omega) lt (W.frame _ s' _ _ st' (Nat.le_succ _) λc hc o e=>?_) S2 λs'' hm'' S3=>?_⟩
  ·rw[sb.2 c (λz:c=S=>hf (by rw[<-z];exact hc))];exact e
  ·refine hR s'' (Moved.trans W.gtrans ((hm.mono sub).then_heap (Nat.le_succ _) λc o hc e=>?_) hm'') S3
   rw[sb.2 c (λz:c=S=>hc (by rw[z];exact List.mem_cons_self))];exact e
end
section
variable{prog:Program}{w:World}{A:Around}{E:Value->Shared->Prop}{s:Shared}
theorem xY(a:Value){Q₁:Value->Shared->Prop}(h:Q₁ (.ref s.heap.objs.size) {s with heap:=s.heap.push (cG #[] 0 (.fresh 0 0 (!byT w)))}):
  codeAny (model prog w) A (.call (.builtin "set.__new__") ⟨[.type "set",a],[]⟩) (wants Q₁ E) s:=by
 refine codeAny_of_tree ?_
 show wpAny _ A.in1 (do checkBuiltinCall "set.__new__" ⟨[.type "set",a],[]⟩;again (.builtin "set.__new__" ⟨[.type "set",a],[]⟩)) _ _ s
 refine wpAny_bind (wpAny_of_eq (F.newCall_set_1 a) (wpAny_pure ⟨plainId_quiet F.plain_set_new _,codeAny_builtin F.entry_set_new ?_⟩))
 rw[Around.under_plainId F.plain_set_new _]
 unfold Builtin.«set.__new__» Builtin.Frozenset.newClass
 have hsub:=zBe
 obtain⟨hp,g,d,tk,os⟩:=s
 dsimp only
 wp_walk
 refine wpAny_askSetting (wpAny_pure ?_)
 dsimp only
 simp only[newObj]
 refine wpAny_bind (wpAny_alloc (wpAny_pure ?_))
 exact wpAny_pure h
end
end L2
namespace L2
open PySem PySem.Spec PyProof.Rows
theorem jQ:∀{vs:List Value}{ss:List Str},StrsAre vs ss->∀(i:Nat) (v:Value),vs[i]?=some v->∃t,v=.str (ss.getD i ⟨#[]⟩) t
 |_,_,.nil,i,v,h=>by simp at h
 |_,_,.cons y t hr,0,v,h=>by
  simp at h
  exact⟨t,by rw[<-h];rfl⟩
 |_,_,.cons y t hr,i+1,v,h=>by
  simp only[List.getElem?_cons_succ]at h
  obtain⟨u,e⟩:=jQ hr i v h
  exact⟨u,by rw[e];rfl⟩
section
variable{prog:Program}{w:World}{A:Around}{E:Value->Shared->Prop}{s:Shared}
theorem zC0{l:Addr}{items:Array Value}{ss:List Str}{Q:Value->Shared->Prop}(hh:A.handled=none)(hl:s.heap.IsList l items)(hi:StrsAre items.toList ss)(hb:ss.length+1<scanBound)
  (h:∀(h':Heap) (tk:Nat),SetS prog w s.heap.objs.size (bM ss) h'->(∀b o,b<s.heap.objs.size->s.heap.get? b=some o->h'.get? b=some o)->Q (.ref s.heap.objs.size) {s with heap:=h',toks:=tk}):
  wpAny (model prog w) A (call (.type "set") [.ref l]) Q E s:=by
 have hz:items.size=ss.length:=by have:=hJ hi;simpa using this
 obtain⟨c,tl,hmro⟩:=F.called_set.mro
 have hmade:=F.called_set.made
 have hsub:=F.called_set.sub
 refine wpAny_call (codeAny_of_tree ?_)
 show wpAny _ _ (callAny (.type "set") _) _ _ _
 refine wpAny_pure ⟨Code.quiet_builtin _ (by decide +kernel),codeAny_builtin F.entry_type_call ?_⟩
 rw[Around.under_plain (weight_type_call_type "set" [.ref l] []) rfl]
 have h1:=F.called_set.notType
 have h2:=F.called_set.canCreate
 have hct:=F.typeCall_set_1 (.ref l)
 repeat (any_goals (first|assumption|wp_step))
 refine codeAny_mono (xY (.ref l) (E:=E) (Q₁:=λobj s₁=>obj=.ref s.heap.objs.size/\s₁={s with heap:=s.heap.push (cG #[] 0 (.fresh 0 0 (!byT w)))}) ⟨rfl,rfl⟩) λr s₁ hr=>?_
 cases r with
 |error e=>exact hr
 |ok fl=>
  cases fl with
  |ret obj=>
   obtain⟨rfl,rfl⟩:=hr
   have hS:(s.heap.push (cG #[] 0 (.fresh 0 0 (!byT w)))).get? s.heap.objs.size=some (cG #[] 0 (.fresh 0 0 (!byT w))):=Heap.get?_push_size _ rfl
   have hT:Shared.TypeIs {s with heap:=s.heap.push (cG #[] 0 (.fresh 0 0 (!byT w)))} (.ref s.heap.objs.size) "set":=⟨_,hS,rfl⟩
   have hli:=F.called_set.init.lookup
   have hbi:=F.called_set.init.bind (.ref s.heap.objs.size)
   repeat (any_goals (first|assumption|wp_step))
   refine codeAny_mono (codeAny_call_builtin (R:=wants (λr s₂=>r=.none/\∃h' tk,s₂={s with heap:=h',toks:=tk}/\SetS prog w s.heap.objs.size (bM ss) h' /\
     (∀b o,b<s.heap.objs.size->s.heap.get? b=some o->h'.get? b=some o)) E) F.called_set.init.plain F.entry_set_init (check_set_init_1 hT ?_)) λr₂ s₂ hr₂=>?_
   ·obtain⟨ol,hol,hcl,nl,hdl⟩:=hl
    obtain⟨ocls,odict,odata,oslots⟩:=ol
    simp only at hcl hdl
    subst hcl hdl
    have hol':(s.heap.push (cG #[] 0 (.fresh 0 0 (!byT w)))).get? l=some {cls:=.type "list",dict:=odict,data:=.seq items nl,slots:=oslots}:=Heap.get?_push_of_some _ hol
    have hsls:=F.sub_list_set
    have hslf:=F.sub_list_frozenset
    have hne:(Value.type "list"==Value.type "dict")=false:=by decide
    have hl1:(s.heap.push (cG #[] 0 (.fresh 0 0 (!byT w)))).IsList l items:=⟨_,hol',rfl,nl,rfl⟩
    unfold Builtin.«set.__init__» noKeywords Builtin.Frozenset.updateFrom
    generalize hPI:pyIter=PI
    wp_walk
    subst hPI
    refine wpAny_pyIter_list hl1 ?_
    refine wpAny_bind (wpAny_runValue ?_)
    have hlS:l<s.heap.objs.size:=Heap.lt_size hol
    have hh3:A.in1.in1.in1.handled=none:=by simp[hh]
    have neI:l≠(s.heap.push (cG #[] 0 (.fresh 0 0 (!byT w)))).objs.size:=by
     rw[Heap.size_push]
     exact Nat.ne_of_lt (Nat.lt_succ_of_lt hlS)
    have nf:s.heap.objs.size∉[(s.heap.push (cG #[] 0 (.fresh 0 0 (!byT w)))).objs.size,l]:=by
     rw[Heap.size_push]
     simp only[List.mem_cons,List.not_mem_nil,or_false,not_or]
     exact⟨Nat.ne_of_lt (Nat.lt_succ_self _),Nat.ne_of_gt hlS⟩
    refine zES ((Walks.list hh3 _ l neI items).toS) s.heap.objs.size nf (λi=>ss.getD i ⟨#[]⟩) (λi v hv=>jQ hi i v (by rw[Array.getElem?_toList];exact hv)) (by rw[hz];exact hb) (items.size-0) 0 _ (by omega) (Nat.zero_le _)
     ⟨⟨_,Heap.get?_push_size _ rfl,rfl,rfl⟩,hl1.push _⟩ ?_ λs' hm S'=>?_
    ·refine⟨#[],0,.fresh 0 0 (!byT w),Heap.get?_push_of_some _ hS,⟨λe he=>by simp at he,⟨[],.nil,.refl _⟩,List.nodup_nil,by decide,?_,.inl rfl,rfl⟩⟩
     simp[SetTable.fits,SetTable.fresh,SetTable.fill]
    ·obtain⟨h',g',d',tk',os'⟩:=s'
     have eg:g'=s.gens:=hm.gens
     have ed:d'=s.drawn:=hm.drawn
     have eo:os'=s.os:=hm.os
     subst eg ed eo
     rw[hz,tM (ss:=ss) (λi hi=>by simp[hi])]at S'
     show wpAny _ _ _ _ _ _
     refine wpAny_pure ?_
     show wpAny _ _ (ret Value.none) _ _ _
     refine wpAny_pure ⟨rfl,h',tk',rfl,S',λb o hb e=>?_⟩
     have hb2:b≠(s.heap.push (cG #[] 0 (.fresh 0 0 (!byT w)))).objs.size:=by
      rw[Heap.size_push]
      exact Nat.ne_of_lt (Nat.lt_succ_of_lt hb)
     exact hm.heap b o (by simp only[List.mem_cons,List.not_mem_nil,or_false,not_or];exact⟨Nat.ne_of_lt hb,hb2⟩) (Heap.get?_push_of_some _ (Heap.get?_push_of_some _ e))
   ·cases r₂ with
    |error e=>exact hr₂
    |ok fl₂=>
     cases fl₂ with
     |ret r=>
      obtain⟨rfl,h',tk,rfl,S',hk'⟩:=hr₂
      repeat (any_goals (first|assumption|wp_step))
      exact h _ _ S' hk'
     |_=>exact hr₂.elim
  |_=>exact hr.elim
end
end L2
namespace L2
open PySem PySem.Spec PyProof.Rows
theorem boot_set:bootBuiltins "set"=some (.type "set"):=by decide +kernel
def jX(P:Program)(w:World)(a:Addr)(us:List Str):HO:=.ext (SetS P w a us)
section
variable{X:Cx}
theorem Inv.draw{pins:List (Addr×Obj)}{σ:St}{H:Hp}{s:Shared}(I:Inv X pins σ H s)(d:Drawn):Inv X pins σ H {s with drawn:=d}:=
 ⟨I.ok,I.os,I.bare,I.base,I.loc,I.cell,I.free,I.freeC,I.pin,I.hok,I.len⟩
def zIg(P:Program)(w:World)(K:W.Frag):List V->Hp->VK->Prop:=λxs H Q=>∃(p:Addr) (ss:List Str),xs=[.ref p]/\SqL K H p (ss.map V.str)/\ss.length<4000/\∀a:Addr,H a=none->Q (.ref a) (upd H a (jX P w a (bM ss)))
theorem zEa(hc:X.calm=true):CallR X (.type "set") (zIg X.prog X.w X.K):=by
 intro pins s σ H xs us Q I r h
 obtain⟨p,ss,rfl,hq,hz,q⟩:=h
 obtain⟨u,rfl,rx⟩:=cX r
 cases rx
 obtain⟨its,rv,pl,hz'⟩:=I.list hq
 have hi:StrsAre its.toArray.toList ss:=kF rv
 refine zC0 (I.ok.hd hc) pl.isList hi (by show ss.length+1<4096;omega) λh' tk S k=>?_
 refine⟨.ref s.heap.objs.size,_,I.laid (t':=tk) (o:=jX X.prog X.w s.heap.objs.size (bM ss)) (λb o e=>k b o (Heap.lt_size e) e) (Nat.le_refl _) ⟨S,?_,λh1 h2 z k'=>z.kept k'⟩,rfl,q _ I.fresh⟩
 obtain⟨es,ep,t,e,_⟩:=S
 exact⟨_,e⟩
def zGO(P:Program)(w:World):List V->Hp->VK->Prop:=λxs H Q=>∃(a:Addr) (us:List Str),xs=[.ref a]/\H a=some (jX P w a us)/\us.length<64 /\
  ∀(ss:List Str) (l:Addr),ss.Perm us->sortedS ss=true->H l=none->Q (.ref l) (upd H l (.lst (ss.map V.str)))
theorem xM(hc:X.calm=true):CallR X (.builtin "sorted") (zGO X.prog X.w):=by
 intro pins s σ H xs us Q I r h
 obtain⟨a,uu,rfl,hq,h64,q⟩:=h
 obtain⟨u,rfl,rx⟩:=cX r
 cases rx
 have S:SetS X.prog X.w a uu s.heap:=(I.hok a _ hq).1
 refine zCE (I.ok.hd hc) S h64 λh' d tk l out ss e hs hp hso hl le k=>?_
 refine⟨.ref l,_,(I.laid (t':=tk) (o:=.lst (ss.map V.str)) k le ?_).draw d,rfl,q ss l hp hso (I.hok.fresh le)⟩
 refine⟨?_,out,e,oR hs,hl⟩
 rw[List.length_map,hp.length_eq]
 exact Nat.le_of_lt (Nat.lt_trans h64 (by decide))
def gW(x:Str)(n:Int):Str:=⟨(List.replicate n.toNat x.cps.toList).flatten.toArray⟩
def zIj:R2:=λx y H Q=>∃(z:Str) (n:Int),x=.str z/\y=.int n/\z.length<=1000/\n<=1000 /\ -1000<=n/\Q (.str (gW z n)) H
theorem tO(x:Array Nat):∀n (acc:Array Nat),((List.replicate n x).foldl (·++·) acc)=(acc.toList++(List.replicate n x.toList).flatten).toArray
 |0,acc=>by simp
 |n+1,acc=>by
  rw[List.replicate_succ,List.foldl_cons,tO x n,List.replicate_succ,List.flatten_cons]
  simp
theorem zFQ:OpR X (binaryOp .Mult) zIj:=by
 intro pins s σ H x y v u Q I rx ry h
 obtain⟨z,n,rfl,rfl,hz,n1,n0,q⟩:=h
 obtain⟨t,rfl⟩:=rx
 obtain⟨t',rfl⟩:=ry
 have fin:∀(w:Str) (k:Tok) (tk:Nat),w=gW z n->EP X pins σ Q (.str w k) {s with toks:=tk}:=λw k tk e=>⟨.str w,H,I.tok tk,⟨k,rfl⟩,by rw[e];exact q⟩
 have pos:∀m:Nat,m<=1000->z.length*m<=1000000:=λm hm=>Nat.mul_le_mul hz hm
 refine P.mul_str (by rw[decide_eq_false (by omega),decide_eq_false (by omega)];rfl) (λh1 _ h2=>?_) (λh1 _=>?_) ?_
 ·have:(2 ^ 63-1) / n>=1000:=by
   have h3:n<=1000:=n1
   have h4:0<n:=by omega
   rw[ge_iff_le,Int.le_ediv_iff_mul_le h4]
   omega
  omega
 ·show decide (_ > sizeLine)=false
  refine decide_eq_false (Nat.not_lt.mpr (Nat.le_trans (pos n.toNat (by omega)) (by decide)))
 ·split
  ·refine⟨by decide,fin _ _ _ ?_⟩
   unfold gW
   rw[show n.toNat=0 by omega]
   rfl
  ·split
   ·rename_i h1 h2
    refine fin _ _ s.toks ?_
    rw[Bool.or_eq_true]at h2
    unfold gW
    rcases h2 with h3|h3
    ·have:n=1:=by simpa using h3
     rw[this]
     simp
    ·have hz0:z.cps=#[]:=by
      have:z.cps.size=0:=by simpa[Str.length]using h3
      exact Array.size_eq_zero_iff.mp this
     have e:∀m:Nat,(List.replicate m ([]:List Nat)).flatten=[]:=λm=>by
      induction m with
      |zero=>rfl
      |succ m ih=>rw[List.replicate_succ,List.flatten_cons,ih];rfl
     obtain⟨zc⟩:=z
     have hz0:zc=#[]:=hz0
     subst hz0
     show(⟨#[]⟩:Str)=⟨(List.replicate n.toNat ([]:List Nat)).flatten.toArray⟩
     rw[e]
   ·refine⟨?_,fin _ _ _ ?_⟩
    ·show(List.foldl (λx1 x2=>x1++x2) #[] (List.replicate n.toNat z.cps)).size<=_
     rw[tO,List.size_toArray,List.length_append,uN]
     show 0+n.toNat*z.cps.toList.length<=_
     have:=pos n.toNat (by omega)
     rw[Nat.mul_comm]at this
     have e:z.cps.toList.length=z.length:=by simp[Str.length]
     rw[e]
     exact Nat.le_trans (by omega) (show 1000000<=sizeLine by decide)
    ·unfold gW
     rw[tO]
     simp
def zJi(K:W.Frag):V->Option Int->Option Int->Hp->VK->Prop:=λx lo hi H Q=>∃a xs,x=.ref a/\SqT K H a xs/\∀p H',Same H H'->SqT K H' p (fV xs lo hi)->Q (.ref p) H'
theorem zCB{prog:Program}{w:World}{A:Around}{E:Value->Shared->Prop}{s:Shared}{t sl:Addr}{items:Array Value}{vl vu:Value}{lo hi:Option Int}{Q:Value->Shared->Prop}(ht:IsTup s.heap t items)(hs:s.heap.IsSliceOf sl vl vu .none)(pl:IsPart vl lo)(pu:IsPart vu hi)
  (hw:HT.sIx items.size 0 lo=0/\HT.sIx items.size items.size hi=items.size) (h:Q (.ref t) s):wpAny (model prog w) A (getItem (.ref t) (.ref sl)) Q E s:=by
 obtain⟨os,hos,hcs,hds⟩:=id hs
 have hTs:s.TypeIs (.ref sl) "slice":=⟨os,hos,hcs⟩
 unfold getItem
 try with_reducible refine wpAny_holding ?_
 first|refine wpAny_bind (wpAny_pure ?_)|skip
 refine wpAny_bind (wpAny_sequenceKey ht.typeIs (by decide) ?_)
 refine wpAny_bind (wpAny_callSpecial?_slot (name:=Str.ofString "__getitem__") ht.typeIs PyProof.Rows.slot_tuple_getitem (wpAny_call_entry PyProof.Rows.slot_tuple_getitem ht.typeIs entry_tuple_getitem ?_ (args_tuple_getitem _ _)))
 show wpAny _ _ (Builtin.Tuple.tupleItemsOf (.ref t) >>= _) _ _ s
 refine wpAny_bind (tupleItemsOf_ ht (wpAny_bind (wpAny_typeOf hTs ?_)))
 rw[if_pos (by decide)]
 refine wpAny_bind (HT.sliceApplied_gen hs pl pu ?_)
 rw[hw.1,hw.2]
 dsimp only
 rw[if_pos (by simp)]
 unfold Builtin.Tuple.tupleIsExact
 refine wpAny_bind (wpAny_bind (wpAny_typeOf ht.typeIs (wpAny_pure ?_)))
 rw[if_pos (by decide)]
 exact wpAny_bind (wpAny_rule (wpAny_pure ⟨_,rfl,wpAny_pure h⟩))
theorem zGg{xs:List V}{lo hi:Option Int}(hw:HT.sIx xs.length 0 lo=0/\HT.sIx xs.length xs.length hi=xs.length):fV xs lo hi=xs:=by
 unfold fV
 rw[hw.1,hw.2,List.drop_zero,Nat.sub_zero,List.take_length]
theorem sl_tupW:SlR X (zJi X.K):=by
 intro pins s σ H x v vl vu lo hi sl Q I rx hs pl pu h
 obtain⟨a,xs,rfl,hx,q⟩:=h
 by_cases hw:HT.sIx xs.length 0 lo=0/\HT.sIx xs.length xs.length hi=xs.length
 ·cases rx
  obtain⟨its,r,ht,hz⟩:=I.tuple hx
  have hlen:its.toArray.size=xs.length:=by rw[List.size_toArray];exact r.length.symm
  refine⟨"tuple",_,PyProof.Rows.slot_tuple_getitem.lookup,ht.typeIs,?_⟩
  exact zCB ht hs pl pu (by rw[hlen];exact hw) ⟨.ref a,H,I,rfl,q a H (λ_ _ e=>e) (by rw[zGg hw];exact hx)⟩
 ·exact zGF pins s σ H _ v vl vu lo hi sl Q I rx hs pl pu ⟨a,xs,rfl,hx,hw,λp np=>q p _ (λb o e=>by rw[bI (dH e np)];exact e) (SqT.of bF)⟩
end
end L2
namespace L2
open PySem PySem.Spec PyProof.Rows
theorem zA5(f:Nat->List Nat):∀n,argBest (λi j=>decide (f i<f j)) n<=n/\∀j,j<=n->f (argBest (λi j=>decide (f i<f j)) n)<=f j
 |0=>⟨Nat.le_refl _,λj hj=>by rw[Nat.le_zero.mp hj];exact List.le_refl _⟩
 |n+1=>by
  obtain⟨h1,h2⟩:=zA5 f n
  show(if decide (f (n+1)<f (argBest _ n))=true then n+1 else argBest _ n)<=n+1/\∀j,j<=n+1->f (if decide (f (n+1)<f (argBest _ n))=true then n+1 else argBest _ n)<=f j
  by_cases h:f (n+1)<f (argBest (λi j=>decide (f i<f j)) n)
  ·rw[if_pos (decide_eq_true h)]
   refine⟨Nat.le_refl _,λj hj=>?_⟩
   rcases Nat.lt_or_eq_of_le hj with z|z
   ·exact List.le_trans (List.le_of_lt h) (h2 j (by omega))
   ·rw[z];exact List.le_refl _
  ·rw[if_neg (λz=>h (of_decide_eq_true z))]
   refine⟨by omega,λj hj=>?_⟩
   rcases Nat.lt_or_eq_of_le hj with z|z
   ·exact h2 j (by omega)
   ·rw[z];exact List.not_lt.mp h
theorem zA6(f:Nat->List Nat):∀n,argBest (λi j=>decide (f j<f i)) n<=n/\∀j,j<=n->f j<=f (argBest (λi j=>decide (f j<f i)) n)
 |0=>⟨Nat.le_refl _,λj hj=>by rw[Nat.le_zero.mp hj];exact List.le_refl _⟩
 |n+1=>by
  obtain⟨h1,h2⟩:=zA6 f n
  show(if decide (f (argBest _ n)<f (n+1))=true then n+1 else argBest _ n)<=n+1/\∀j,j<=n+1->f j<=f (if decide (f (argBest _ n)<f (n+1))=true then n+1 else argBest _ n)
  by_cases h:f (argBest (λi j=>decide (f j<f i)) n)<f (n+1)
  ·rw[if_pos (decide_eq_true h)]
   refine⟨Nat.le_refl _,λj hj=>?_⟩
   rcases Nat.lt_or_eq_of_le hj with z|z
   ·exact List.le_trans (h2 j (by omega)) (List.le_of_lt h)
   ·rw[z];exact List.le_refl _
  ·rw[if_neg (λz=>h (of_decide_eq_true z))]
   refine⟨by omega,λj hj=>?_⟩
   rcases Nat.lt_or_eq_of_le hj with z|z
   ·exact h2 j (by omega)
   ·rw[z];exact List.not_lt.mp h
theorem yZ{l:List Str}{i:Nat}(h:i<l.length):l.getD i ⟨#[]⟩∈l:=by
 rw[List.getD_eq_getElem?_getD,List.getElem?_eq_getElem h]
 exact List.getElem_mem h
theorem yW{l:List Str}{a:Str}(h:a∈l):∃j,j<l.length/\l.getD j ⟨#[]⟩=a:=by
 obtain⟨j,hj,e⟩:=List.mem_iff_getElem.mp h
 exact⟨j,hj,by rw[List.getD_eq_getElem?_getD,List.getElem?_eq_getElem hj];exact e⟩
section
variable{prog:Program}{w:World}{A:Around}{E:Value->Shared->Prop}{s:Shared}{l:Addr}{its:Array Value}{ss:List Str}
theorem zCX{P:Nat->Value->Prop}(val:Nat->Str)(hval:∀i v,P i v->∃t,v=.str (val i) t):CmpOf prog w A .Lt P (λi j=>decide ((val i).cps.toList<(val j).cps.toList)):=λi j vi vj s Q E hi hj h=>by
 obtain⟨t,rfl⟩:=hval i vi hi
 obtain⟨u,rfl⟩:=hval j vj hj
 exact richCompare_gives (op:=.Lt) (typeIs_str s _ t) (typeIs_str s _ u) F.slot_str_lt F.entry_str_lt (F.args_str_lt_2 _ _) (gives_str_lt _ _ t u) (λx=>nomatch x) h
theorem zCY{P:Nat->Value->Prop}(val:Nat->Str)(hval:∀i v,P i v->∃t,v=.str (val i) t):CmpOf prog w A .Gt P (λi j=>decide ((val j).cps.toList<(val i).cps.toList)):=λi j vi vj s Q E hi hj h=>by
 obtain⟨t,rfl⟩:=hval i vi hi
 obtain⟨u,rfl⟩:=hval j vj hj
 exact richCompare_gives (op:=.Gt) (typeIs_str s _ t) (typeIs_str s _ u) F.slot_str_gt F.entry_str_gt (F.args_str_gt_2 _ _) (gives_str_gt _ _ t u) (λx=>nomatch x) h
theorem yG{Q:Value->Shared->Prop}(hl:s.heap.IsList l its)
  (h:∀s₂:Shared,s₂={s with heap:=s.heap.push {cls:=.type "list_iterator",data:=.fields #[.ref l,.int 0 0]}} ->
   (s₂.heap.IsListIter s.heap.objs.size l 0/\s₂.heap.IsList l its)->(∀b∈[s.heap.objs.size,l],b<s₂.heap.objs.size)->l≠s.heap.objs.size->Q (.ref s.heap.objs.size) s₂):
  wpAny (model prog w) A (pyIter (.ref l)) Q E s:=by
 have hlt:l<s.heap.objs.size:=by obtain⟨_,e,_⟩:=hl;exact Heap.lt_size e
 refine wpAny_pyIter_list hl (h _ rfl ⟨⟨_,Heap.get?_push_size _ rfl,rfl,rfl⟩,hl.push _⟩ (λb hb=>?_) (Nat.ne_of_lt hlt))
 show b<(s.heap.push _).objs.size
 rw[Heap.size_push]
 simp only[List.mem_cons,List.not_mem_nil,or_false]at hb
 rcases hb with z|z
 ·rw[z];exact Nat.lt_succ_self _
 ·rw[z];exact Nat.lt_succ_of_lt hlt
theorem zEQ{Q:Value->Shared->Prop}(hh:A.handled=none)(hl:s.heap.IsList l its)(hi:StrsAre its.toList ss)(hne:0<ss.length)
  (h:∀x t h' tk,x∈ss->(∀y∈ss,x.cps.toList<=y.cps.toList)->(∀b o,s.heap.get? b=some o->h'.get? b=some o)->Q (.str x t) {s with heap:=h',toks:=tk}):
  wpAny (model prog w) A (call (.builtin "min") [.ref l]) Q E s:=by
 have hsz:its.size=ss.length:=by rw[<-Array.length_toList,hJ hi]
 refine call_min_walk (yG hl λs₂ e st hfp hlI=>?_)
 subst e
 refine⟨_,_,_,_,_,_,_,rfl,Walks.list (A:=A.in1) hh _ l hlI its,st,hfp,by omega,zCX (λi=>ss.getD i ⟨#[]⟩) (λi v hv=>jQ hi i v (by rw[Array.getElem?_toList];exact hv)),λv h' tk hP hk=>?_⟩
 obtain⟨t,rfl⟩:=jQ hi _ v (by rw[Array.getElem?_toList];exact hP)
 obtain⟨b1,b2⟩:=zA5 (λi=>(ss.getD i ⟨#[]⟩).cps.toList) (its.size-1)
 refine h _ t h' tk (yZ (by omega)) (λy hy=>?_) (old_kept hk)
 obtain⟨j,hj,rfl⟩:=yW hy
 exact b2 j (by omega)
theorem zER{Q:Value->Shared->Prop}(hh:A.handled=none)(hl:s.heap.IsList l its)(hi:StrsAre its.toList ss)(hne:0<ss.length)
  (h:∀x t h' tk,x∈ss->(∀y∈ss,y.cps.toList<=x.cps.toList)->(∀b o,s.heap.get? b=some o->h'.get? b=some o)->Q (.str x t) {s with heap:=h',toks:=tk}):
  wpAny (model prog w) A (call (.builtin "max") [.ref l]) Q E s:=by
 have hsz:its.size=ss.length:=by rw[<-Array.length_toList,hJ hi]
 refine call_max_walk (yG hl λs₂ e st hfp hlI=>?_)
 subst e
 refine⟨_,_,_,_,_,_,_,rfl,Walks.list (A:=A.in1) hh _ l hlI its,st,hfp,by omega,zCY (λi=>ss.getD i ⟨#[]⟩) (λi v hv=>jQ hi i v (by rw[Array.getElem?_toList];exact hv)),λv h' tk hP hk=>?_⟩
 obtain⟨t,rfl⟩:=jQ hi _ v (by rw[Array.getElem?_toList];exact hP)
 obtain⟨b1,b2⟩:=zA6 (λi=>(ss.getD i ⟨#[]⟩).cps.toList) (its.size-1)
 refine h _ t h' tk (yZ (by omega)) (λy hy=>?_) (old_kept hk)
 obtain⟨j,hj,rfl⟩:=yW hy
 exact b2 j (by omega)
end
section
variable{X:Cx}
theorem zDi(hc:X.calm=true):CallR X (.builtin "min") (λxs H Q=>∃(p:Addr) (ss:List Str),xs=[.ref p]/\SqL X.K H p (ss.map V.str)/\0<ss.length/\∀x,x∈ss->(∀y∈ss,x.cps.toList<=y.cps.toList)->Q (.str x) H):=by
 intro pins s σ H xs us Q I r h
 obtain⟨p,ss,rfl,hq,hn,q⟩:=h
 obtain⟨u,rfl,rx⟩:=cX r
 cases rx
 obtain⟨its,rv,pl,hz⟩:=I.list hq
 refine zEQ (I.ok.hd hc) pl.isList (kF rv) hn λx t h' tk h1 h2 hk=>?_
 exact⟨.str _,H,I.kept hk,⟨t,rfl⟩,q _ h1 h2⟩
theorem zDj(hc:X.calm=true):CallR X (.builtin "max") (λxs H Q=>∃(p:Addr) (ss:List Str),xs=[.ref p]/\SqL X.K H p (ss.map V.str)/\0<ss.length/\∀x,x∈ss->(∀y∈ss,y.cps.toList<=x.cps.toList)->Q (.str x) H):=by
 intro pins s σ H xs us Q I r h
 obtain⟨p,ss,rfl,hq,hn,q⟩:=h
 obtain⟨u,rfl,rx⟩:=cX r
 cases rx
 obtain⟨its,rv,pl,hz⟩:=I.list hq
 refine zER (I.ok.hd hc) pl.isList (kF rv) hn λx t h' tk h1 h2 hk=>?_
 exact⟨.str _,H,I.kept hk,⟨t,rfl⟩,q _ h1 h2⟩
end
end L2
namespace L2
open PySem PySem.Spec PyProof.Rows
open PySem PySem.Spec PyProof.Rows
section
variable{κ:Type}[DecidableEq κ]
def dM(kvs:List (κ×V))(k:κ):Option V:=(kvs.find? λkv=>decide (kv.1=k)).map (·.2)
def fS(kvs:List (κ×V))(k:κ)(v:V):List (κ×V):=
 if (kvs.any λkv=>decide (kv.1=k))=true then kvs.map (λkv=>if kv.1=k then(kv.1,v) else kv) else kvs++[(k,v)]
theorem pI{p:κ×V}{r:List (κ×V)}{k:κ}(e:p.1=k):dM (p::r) k=some p.2:=by simp[dM,List.find?_cons,e]
theorem pJ{p:κ×V}{r:List (κ×V)}{k:κ}(e:¬ p.1=k):dM (p::r) k=dM r k:=by simp[dM,List.find?_cons,e]
theorem tE(k:κ):∀kvs:List (κ×V),(kvs.any λkv=>decide (kv.1=k))=(dM kvs k).isSome
 |[]=>rfl
 |p::r=>by
  rw[List.any_cons]
  by_cases e:p.1=k
  ·simp only[pI e,decide_eq_true e,Bool.true_or,Option.isSome_some]
  ·rw[pJ e,decide_eq_false e,Bool.false_or];exact tE k r
theorem zCS(kvs:List (κ×V))(k:κ)(v:V):(fS kvs k v).length<=kvs.length+1:=by
 unfold fS
 split
 ·rw[List.length_map];omega
 ·rw[List.length_append,List.length_cons,List.length_nil];omega
theorem zEz{kvs:List (κ×V)}{k:κ}(v:V)(h:dM kvs k=none):fS kvs k v=kvs++[(k,v)]:=by
 unfold fS
 rw[tE,h]
 exact if_neg (by decide)
theorem RelO.isSome_eq{o:Option V}{u:Option Value}(r:RelO o u):o.isSome=u.isSome:=by
 cases o with
 |none=>cases u with
  |none=>rfl
  |some _=>exact(show False from r).elim
 |some _=>cases u with
  |none=>exact(show False from r).elim
  |some _=>rfl
theorem KV.val{kvs:List (κ×V)}{vs:List (κ×Value)}(r:KV kvs vs)(k:κ):RelO (dM kvs k) (valueAt vs k):=by
 unfold KV at r
 induction r with
 |nil=>exact True.intro
 |@cons p q ps qs h t ih=>
  obtain⟨h1,h2⟩:=h
  by_cases e:p.1=k
  ·have e':q.1=k:=h1.symm.trans e
   have b:valueAt (q::qs) k=some q.2:=by simp[valueAt,List.find?_cons,e']
   rw[pI e,b];exact h2
  ·have e':¬ q.1=k:=λz=>e (h1.trans z)
   have b:valueAt (q::qs) k=valueAt qs k:=by simp[valueAt,List.find?_cons,e']
   rw[pJ e,b];exact ih
theorem KV.any{kvs:List (κ×V)}{vs:List (κ×Value)}(r:KV kvs vs)(k:κ):(kvs.any λkv=>decide (kv.1=k))=vs.any λkv=>decide (kv.1=k):=by
 unfold KV at r
 induction r with
 |nil=>rfl
 |cons h t ih=>rw[List.any_cons,List.any_cons,ih,h.1]
theorem KV.repl{kvs:List (κ×V)}{vs:List (κ×Value)}(r:KV kvs vs)(k:κ){y:V}{u:Value}(ry:RelV y u):
  KV (kvs.map λkv=>if kv.1=k then(kv.1,y) else kv) (vs.map λkv=>if kv.1=k then(kv.1,u) else kv):=by
 unfold KV at r ⊢
 induction r with
 |nil=>exact .nil
 |@cons p q ps qs h t ih=>
  rw[List.map_cons,List.map_cons]
  refine .cons ?_ ih
  obtain⟨h1,h2⟩:=h
  by_cases e:p.1=k
  ·rw[if_pos e,if_pos (h1.symm.trans e)];exact⟨h1,ry⟩
  ·rw[if_neg e,if_neg (λz=>e (h1.trans z))];exact⟨h1,h2⟩
theorem KV.put{kvs:List (κ×V)}{vs:List (κ×Value)}(r:KV kvs vs)(k:κ){y:V}{u:Value}(ry:RelV y u):KV (fS kvs k y) (stored vs k u):=by
 unfold fS stored
 rw[r.any k]
 by_cases e:(vs.any λkv=>decide (kv.1=k))=true
 ·rw[if_pos e,if_pos e];exact r.repl k ry
 ·rw[if_neg e,if_neg e];exact Paired.snoc r ⟨rfl,ry⟩
theorem KV.length{kvs:List (κ×V)}{vs:List (κ×Value)}(r:KV kvs vs):kvs.length=vs.length:=Paired.length r
end
theorem lZ{P:Program}{w:World}{k:Key}{u:Value}(r:RelV (kV k) u):(bW P w).is k u=true:=by
 cases k with
 |inl i=>obtain⟨t,e⟩:=(show ∃t,u=Value.int i t from r);subst e;exact zCQ P w i t
 |inr x=>obtain⟨t,e⟩:=(show ∃t,u=Value.str x t from r);subst e;exact oT P w x t
theorem yY{P:Program}{w:World}:∀{ks:List Key}{us:List Value},Vals (ks.map kV) us->ItemsAre (bW P w) ks us
 |[],_,r=>by rw[List.map_nil]at r;cases r;exact .nil
 |k::ks,_,r=>by
  rw[List.map_cons]at r
  cases r with
  |cons h t=>exact .cons (lZ h) (yY t)
abbrev KT(H:Hp):List (List Key×V)->List (List Key×Addr×Value)->Prop:=Paired λp q=>p.1=q.1/\H q.2.1=some (.tup (p.1.map kV))/\RelV p.2 q.2.2
theorem KT.val{H:Hp}{kvs:List (List Key×V)}{xs:List (List Key×Addr×Value)}(r:KT H kvs xs)(k:List Key):RelO (dM kvs k) ((atKey xs k).map (·.2)):=by
 induction r with
 |nil=>exact True.intro
 |@cons p q ps qs h t ih=>
  obtain⟨h1,_,h2⟩:=h
  by_cases e:p.1=k
  ·have e':q.1=k:=h1.symm.trans e
   have b:atKey (q::qs) k=some q.2:=by simp[atKey,List.find?_cons,e']
   rw[pI e,b];exact h2
  ·have e':¬ q.1=k:=λz=>e (h1.trans z)
   have b:atKey (q::qs) k=atKey qs k:=by simp[atKey,List.find?_cons,e']
   rw[pJ e,b];exact ih
section
variable{P:Program}{w:World}{H:Hp}{h:Heap}{a:Addr}
theorem zBK{u:HO}(ok:HOk P w H h)(e:Rd H a u):ObjOk P w H h a u:=e.ok ok
theorem mC{kvs:List (Key×V)}(ok:HOk P w H h)(e:Rd H a (.dK kvs)):kvs.length<=sizeLine/\(a==sysModules)=false/\∃vs,KV kvs vs/\h.DictOf (bW P w) a vs:=
 show ObjOk P w H h a (.dK kvs) from zBK ok e
theorem zIU{kvs:List (Key×V)}(ok:HOk P w H h)(e:H a=some (.dK kvs)):kvs.length<=sizeLine/\(a==sysModules)=false/\∃vs,KV kvs vs/\h.DictOf (bW P w) a vs:=mC ok (.inl e)
theorem qB{ks:List Key}(ok:HOk P w H h)(e:H a=some (.tup (ks.map kV))):(tupleKind (bW P w)).is h ks a:=by
 obtain⟨_,its,r,o,h1,h2,n,h3⟩:=(show ObjOk P w H h a (.tup (ks.map kV)) from ok a _ e)
 exact⟨o,its.toArray,n,h1,h2,h3,by simpa using yY r⟩
theorem qT{kvs:List (List Key×V)}(ok:HOk P w H h)(e:Rd H a (.dT kvs)):kvs.length<=sizeLine/\(a==sysModules)=false /\
  ∃xs,KT H kvs xs/\h.DictOfH (tupleKind (bW P w)) a xs:=by
 obtain⟨z,y,xs,r,o,es,ep,h1,h2,h3,h4,h5⟩:=(show ObjOk P w H h a (.dT kvs) from zBK ok e)
 refine⟨z,y,xs,r,o,es,ep,h1,h2,h3,h4,λx hx=>?_,h5⟩
 have all:∀{l:List (List Key×V)} {m:List (List Key×Addr×Value)},KT H l m->∀x∈m,(tupleKind (bW P w)).is h x.1 x.2.1:=by
  intro l m q
  induction q with
  |nil=>intro x hx;exact nomatch hx
  |@cons p q ps qs hq t ih=>
   intro x hx
   rcases List.mem_cons.mp hx with e|hx
   ·subst e
    exact qB ok (by rw[<-hq.1];exact hq.2.1)
   ·exact ih x hx
 exact all r x hx
end
def kE(H:Hp)(a:Addr)(y:V)(r:Option V):Prop:=
 (∃kvs k,Rd H a (.dK kvs)/\y=kV k/\r=dM kvs k)\/∃kvs k b,Rd H a (.dT kvs)/\y=.ref b/\H b=some (.tup (k.map kV))/\r=dM kvs k
section
variable{X:Cx}{pins:List (Addr×Obj)}{σ:St}{H:Hp}{s:Shared}{a:Addr}{y v:V}{u r:Value}{o:Option V}{A:Around}{E:Value->Shared->Prop}
theorem zD7{Q:Value->Shared->Prop}(hu:A.units+1<cLine)(I:Inv X pins σ H s)(g:kE H a y (some v))(ry:RelV y u)(h:∀w' s',Inv X pins σ H s'->RelV v w'->Q w' s'):
  wpAny (model X.prog X.w) A (getItem (.ref a) u) Q E s:=by
 rcases g with⟨kvs,k,e,ey,l⟩|⟨kvs,k,b,e,ey,eb,l⟩
 ·subst ey
  obtain⟨z,hd,vs,rel,dd⟩:=mC I.hok e
  obtain⟨w',hw,rw'⟩:=RelO.some_of (v:=v) (o:=valueAt vs k) (by rw[l];exact rel.val k)
  exact wpAny_getItem_of (lZ ry) dd.mapOf hw (h w' _ (I.tok _) rw')
 ·subst ey
  cases (show u=Value.ref b from ry)
  obtain⟨z,hd,xs,rel,dd⟩:=qT I.hok e
  obtain⟨w',hw,rw'⟩:=RelO.some_of (v:=v) (o:=(atKey xs k).map (·.2)) (by rw[l];exact rel.val k)
  obtain⟨p,hp,hp2⟩:=Option.map_eq_some_iff.mp hw
  refine wpAny_getItem_heap (tupleKind_room_in1 hu) (qB I.hok eb) dd hp ?_
  rw[hp2]
  exact h w' _ (I.tok _) rw'
theorem zKj{Q:Value->Shared->Prop}(hu:A.units+1<cLine)(I:Inv X pins σ H s)(g:kE H a y o)(ry:RelV y u)(h:∀s',Inv X pins σ H s'->Q (.bool o.isSome) s'):
  wpAny (model X.prog X.w) A (compareOp .In u (.ref a)) Q E s:=by
 rcases g with⟨kvs,k,e,ey,l⟩|⟨kvs,k,b,e,ey,eb,l⟩
 ·subst ey
  obtain⟨z,hd,vs,rel,dd⟩:=mC I.hok e
  refine wpAny_in_of (lZ ry) hd dd.mapOf ?_
  rw[<-(rel.val k).isSome_eq,<-l]
  exact h _ (I.tok _)
 ·subst ey
  cases (show u=Value.ref b from ry)
  obtain⟨z,hd,xs,rel,dd⟩:=qT I.hok e
  refine wpAny_in_heap (tupleKind_room_in1 hu) (qB I.hok eb) hd dd ?_
  have q:=(rel.val k).isSome_eq
  rw[Option.isSome_map]at q
  rw[<-q,<-l]
  exact h _ (I.tok _)
theorem zGf{Q:Value->Shared->Prop}(hu:A.units+1<cLine)(I:Inv X pins σ H s)(g:kE H a y o)(ry:RelV y u)(h:∀s',Inv X pins σ H s'->Q (.bool (!o.isSome)) s'):
  wpAny (model X.prog X.w) A (compareOp .NotIn u (.ref a)) Q E s:=by
 rcases g with⟨kvs,k,e,ey,l⟩|⟨kvs,k,b,e,ey,eb,l⟩
 ·subst ey
  obtain⟨z,hd,vs,rel,dd⟩:=mC I.hok e
  refine wpAny_notIn_of (lZ ry) hd dd.mapOf ?_
  rw[<-(rel.val k).isSome_eq,<-l]
  exact h _ (I.tok _)
 ·subst ey
  cases (show u=Value.ref b from ry)
  obtain⟨z,hd,xs,rel,dd⟩:=qT I.hok e
  refine wpAny_notIn_heap (tupleKind_room_in1 hu) (qB I.hok eb) hd dd ?_
  have q:=(rel.val k).isSome_eq
  rw[Option.isSome_map]at q
  rw[<-q,<-l]
  exact h _ (I.tok _)
theorem zGe{h':Heap}{t':Nat}{ob:HO}(I:Inv X pins σ H s)(mu:Mut (H a))(hs:Heap.SameBut a s.heap h')(he:∃q,h'.get? a=some q)(new:ObjOk X.prog X.w (upd H a ob) h' a ob):
  Inv X pins σ (upd H a ob) {s with heap:=h',toks:=t'}:=
 I.write (x:=a) (e:=a) mu (.inl rfl) (λb q hb z=>(hs.2 b hb).trans z) he new
theorem zHN{P:Program}{w:World}{H':Hp}{h':Heap}{kvs:List (Key×V)}{vs:List (Key×Value)}(z:kvs.length<=sizeLine)(hd:(a==sysModules)=false)(rel:KV kvs vs)(dd:h'.DictOf (bW P w) a vs):
  ObjOk P w H' h' a (.dK kvs):=⟨z,hd,vs,rel,dd⟩
end
section
variable{X:Cx}{pins:List (Addr×Obj)}{σ:St}{H:Hp}{s:Shared}{a:Addr}{kvs:List (Key×V)}{k:Key}{u:Value}{A:Around}{E:Value->Shared->Prop}
theorem zIV{Q:Value->Shared->Prop}(I:Inv X pins σ H s)(e:Rd H a (.dK kvs))(h:∀t s',Inv X pins σ H s'->Q (.int kvs.length t) s'):wpAny (model X.prog X.w) A (call (.builtin "len") [.ref a]) Q E s:=by
 obtain⟨z,hd,vs,rel,dd⟩:=mC I.hok e
 refine call_len_dict hd dd (by rw[<-rel.length];rw[sizeLine_eq]at z;omega) ?_
 rw[<-rel.length]
 exact h _ _ (I.tok _)
end
theorem zCU{X:Cx}{pins:List (Addr×Obj)}{σ:St}{H:Hp}{s:Shared}{a:Addr}{y:V}{o:Option V}(I:Inv X pins σ H s)(g:kE H a y o):s.TypeIs (.ref a) "dict":=by
 rcases g with⟨kvs,k,e,_,_⟩|⟨kvs,k,b,e,_,_,_⟩
 ·obtain⟨_,_,vs,_,dd⟩:=mC I.hok e
  exact dd.typeIs
 ·obtain⟨_,_,xs,_,dd⟩:=qT I.hok e
  exact dd.typeIs
def pU:List (TE×TE)->St->Hp->(List (V×V)->Hp->Prop)->Prop
 |[],_,H,Q=>Q [] H
 |(tk,tv)::r,σ,H,Q=>tk σ H λx H1=>tv σ H1 λy H2=>pU r σ H2 λps H3=>Q ((x,y)::ps) H3
abbrev VV:List (V×V)->List (Value×Value)->Prop:=Paired λp q=>RelV p.1 q.1/\RelV p.2 q.2
def PPs(X:Cx)(pos:Pos)(keys:List (Option Expr))(values:List Expr)(trs:List (TE×TE)):Prop:=
 ∀(pins:List (Addr×Obj)) (s:Shared) (σ:St) (H:Hp) (Q:List (V×V)->Hp->Prop),Inv X pins σ H s->pU trs σ H Q ->
  wpAny (model X.prog X.w) X.A (evalPairs (pairTrees keys values X.env pos)) (λvs s'=>∃ps H',Inv X pins σ H' s'/\VV ps vs/\Q ps H') X.xe s
theorem zFB{X:Cx}{pos:Pos}:PPs X pos [] [] []:=λpins s σ H Q I h=>pairTrees_nil_walk ⟨[],H,I,.nil,h⟩
theorem zEC{X:Cx}{pos:Pos}{k v:Expr}{ks:List (Option Expr)}{vs:List Expr}{tk tv:TE}{trs:List (TE×TE)}(hk:PE X k tk)(hv:PE X v tv)(hr:PPs X pos ks vs trs):
  PPs X pos (some k::ks) (v::vs) ((tk,tv)::trs):=λpins s σ H Q I h=>
 pairTrees_cons_walk (thn (hk pins s σ H _ I h) λu s1 ⟨x,H1,I1,rx,q1⟩=>thn (hv pins s1 σ H1 _ I1 q1) λw2 s2 ⟨y,H2,I2,ry,q2⟩=>
  thn (hr pins s2 σ H2 _ I2 q2) λws s3 ⟨ps,H3,I3,rel,q3⟩=>⟨(x,y)::ps,H3,I3,.cons ⟨rx,ry⟩ rel,q3⟩)
def gO(kvs more:List (Key×V)):List (Key×V):=more.foldl (λacc kv=>fS acc kv.1 kv.2) kvs
theorem KV.merge:∀{more:List (Key×V)}{rs:List (Key×Value)}{kvs:List (Key×V)}{vs:List (Key×Value)},KV more rs->KV kvs vs->KV (gO kvs more) (merged vs rs):=by
 intro more rs kvs vs r
 unfold KV at r
 induction r generalizing kvs vs with
 |nil=>intro q;exact q
 |@cons p q ps qs h t ih=>
  intro r0
  have e:KV (fS kvs p.1 p.2) (stored vs q.1 q.2):=by
   have:=r0.put p.1 h.2
   rw[<-h.1];exact this
  exact ih e
theorem sC:∀(more kvs:List (Key×V)),(gO kvs more).length<=kvs.length+more.length
 |[],kvs=>by show kvs.length<=kvs.length+0;omega
 |p::r,kvs=>by
  have h1:=sC r (fS kvs p.1 p.2)
  have h2:=zCS kvs p.1 p.2
  show(gO (fS kvs p.1 p.2) r).length<=_
  rw[List.length_cons];omega
theorem yK{P:Program}{w:World}:∀{kvs:List (Key×V)}{ws:List (Value×Value)},VV (kvs.map λkv=>(kV kv.1,kv.2)) ws->∃rs,Carries (bW P w) ws rs/\KV kvs rs
 |[],_,r=>by rw[List.map_nil]at r;cases r;exact⟨[],True.intro,.nil⟩
 |p::kvs,_,r=>by
  rw[List.map_cons]at r
  cases r with
  |@cons a b as bs h t=>
   obtain⟨rs,c,q⟩:=yK (P:=P) (w:=w) t
   obtain⟨b1,b2⟩:=b
   exact⟨(p.1,b2)::rs,⟨lZ h.1,rfl,c⟩,.cons ⟨rfl,h.2⟩ q⟩
def zIc(trs:List (TE×TE)):TE:=λσ H Q=>∀p,H p=none->pU trs σ (upd H p (.dK [])) λps H2=>H2 p=some (.dK [])/\∃kvs:List (Key×V),ps=kvs.map (λkv=>(kV kv.1,kv.2))/\kvs.length<=15/\Q (.ref p) (upd H2 p (.dK (gO [] kvs)))
theorem zFI{X:Cx}{pos:Pos}{keys:List (Option Expr)}{values:List Expr}{trs:List (TE×TE)}(h:PPs X pos keys values trs)(hall:keys.all (·.isSome)=true)(hl:keys.length=values.length)(h0:keys≠[])
  (h15:keys.length<=15):PE X (.Dict keys values pos) (zIc trs):=by
 intro pins s σ H Q I q
 have hn:=I.hok.fresh (Nat.le_refl s.heap.objs.size)
 have I1:=I.laid (a:=s.heap.objs.size) (o:=.dK []) (h':=s.heap.push {cls:=.type "dict",data:=.dict #[]}) (t':=s.toks) (λ_ _ q=>Heap.get?_push_of_some _ q) (Nat.le_refl _) (zAl s.heap I.big)
 refine wpAny_Dict_walk (knd:=bW X.prog X.w) hall hl h0 h15 (thn (h pins _ σ _ _ I1 (q _ hn)) λws s2 ⟨ps,H2,I2,rel,e,kvs,ep,lk,q2⟩=>?_)
 subst ep
 obtain⟨rs,c,rk⟩:=yK (P:=X.prog) (w:=X.w) rel
 obtain⟨z,hd,vs0,r0,dd⟩:=zIU I2.hok e
 cases r0
 refine⟨rs,c,dd,λh' dd' hs=>⟨.ref s.heap.objs.size,_,?_,rfl,q2⟩⟩
 have hz:(gO [] kvs).length<=sizeLine:=by
  have h1:=sC kvs []
  rw[List.length_nil]at h1
  rw[sizeLine_eq];omega
 have he:∃q,h'.get? s.heap.objs.size=some q:=let ⟨q,_,_,hq,_⟩:=dd';⟨q,hq⟩
 exact zGe I2 (by rw[e];exact True.intro) hs he (zHN hz hd (rk.merge .nil) dd')
section
variable{κ:Type}[DecidableEq κ]
theorem zFf{kvs:List (κ×V)}{k:κ}{v:V}(h:dM kvs k=some v):k∈kvs.map (·.1):=by
 have q:(kvs.any λkv=>decide (kv.1=k))=true:=by
  rw[tE,h]
  all_goals rfl
 obtain⟨p,hp,e⟩:=List.any_eq_true.mp q
 exact List.mem_map.mpr ⟨p,hp,of_decide_eq_true e⟩
end
end L2
namespace L2
open PySem PySem.Spec PyProof.Rows
def FzD(H:Hp)(a:Addr)(ob:Obj)(kvs:List (Key×V)):Prop:=H a=some (.frz ob (.dK kvs))
theorem gP{kvs:List (Key×V)}{vs:List (Key×Value)}(r:KV kvs vs):kvs.length=vs.length:=Paired.length r
theorem vG:∀{kvs:List (Key×V)}{vs:List (Key×Value)}{i:Nat}{k:Key}{v:V},KV kvs vs->kvs[i]?=some (k,v)->∃u,vs[i]?=some (k,u)/\RelV v u
 |_,_,0,_,_,.cons (b:=b) r _,h=>by
  cases h
  obtain⟨e,r⟩:=r
  exact⟨b.2,by show some b=_;rw[show b=(b.1,b.2) from rfl,<-e],r⟩
 |_,_,i+1,_,_,.cons _ rs,h=>vG (i:=i) rs (by simpa using h)
theorem zAT{k:Key}{u:Value}(h:jG k u=true):RelV (kV k) u:=by
 rcases fX h with⟨i,t,rfl,rfl⟩|⟨x,t,rfl,rfl⟩
 ·exact⟨t,rfl⟩
 ·exact⟨t,rfl⟩
section
variable{X:Cx}{pins:List (Addr×Obj)}{σ:St}{H:Hp}{s:Shared}{a:Addr}{ob:Obj}{kvs:List (Key×V)}
theorem iD(I:Inv X pins σ H s)(h:FzD H a ob kvs):s.heap.get? a=some ob/\(a==sysModules)=false/\kvs.length<=sizeLine/\∃vs es ep,KV kvs vs/\s.heap.DictAt (bW X.prog X.w) a vs ep/\ob.data=.dict es ep:=by
 obtain⟨e,hl,hs,vs,r,o,es,ep,e',x1,x2,x3⟩:=(show ObjOk X.prog X.w H s.heap a (.frz ob (.dK kvs)) from I.hok a _ h)
 rw[e]at e'
 cases e'
 exact⟨e,hs,hl,vs,es,ep,r,⟨ob,es,e,x1,x2,x3⟩,x2⟩
end
def ItD(a:Addr)(ob:Obj)(kvs:List (Key×V)):It:=
 ⟨λi H=>FzD H a ob kvs/\i<kvs.length,λi H x H'=>H'=H/\∃k v,kvs[i]?=some (k,v)/\x=kV k,λi H=>FzD H a ob kvs/\kvs.length<=i⟩
theorem zDv{P:Program}{w:World}{K:W.Frag}{tg:Expr}{a it:Addr}{ob:Obj}{kvs:List (Key×V)}{es:Array DictEntry}{ep:Nat}(hep:ob.data=.dict es ep):
  fW P w K tg (ItD a ob kvs) [it] it (λi h=>h.IsKeyIter it a i kvs.length ep) where
 mem:=by simp
 obj:=λi h st b hb=>by
  have e:b=it:=by simpa using hb
  subst e
  obtain⟨o,e,c,d⟩:=st
  exact⟨o,e,λv z=>by rw[d]at z;cases z⟩
 keep:=λi h h' st k=>st.at λo e=>k it (by simp) o e
 item:=by
  intro X hP hw hK hc i pins s σ H E I hf st hg
  subst hP hw hK
  obtain⟨hz,hi⟩:=hg
  obtain⟨e,hs,hl,vs,es',ep',r,dd,hd'⟩:=iD I hz
  rw[hep]at hd'
  cases hd'
  obtain⟨f0,f1,f2,f3,f4,f5⟩:=hf it (by simp)
  obtain⟨⟨k,v⟩,hx⟩:∃p,kvs[i]?=some p:=⟨kvs[i],by simp[hi]⟩
  obtain⟨u,hu,ru⟩:=vG r hx
  have st':s.heap.IsKeyIter it a i vs.length ep:=by rw[<-gP r];exact st
  refine wpAny_pyNext_dict_item st' dd hu λkey h' hkey hit' sb=>?_
  have I1:Inv X pins σ H {s with heap:=h'}:=I.turned (t':=s.toks) (λb o hb e=>(sb.2 b hb).trans e) f0 f1 f3 f4 f5
  obtain⟨o,e,c,d⟩:=id hit'
  exact⟨key,rfl,mB (s:={s with heap:=h'}) e c d (by decide) ⟨kV k,H,I1,zAT hkey,⟨rfl,k,v,hx,rfl⟩,by rw[gP r];exact hit',λb hb=>(hf b hb).1⟩⟩
 done:=by
  intro X hP hw hK hc i pins s σ H E I hf st hg
  subst hP hw hK
  obtain⟨hz,hi⟩:=hg
  obtain⟨e,hs,hl,vs,es',ep',r,dd,hd'⟩:=iD I hz
  rw[hep]at hd'
  cases hd'
  obtain⟨f0,f1,f2,f3,f4,f5⟩:=hf it (by simp)
  have st':s.heap.IsKeyIter it a i vs.length ep:=by rw[<-gP r];exact st
  have hn:vs[i]?=none:=List.getElem?_eq_none (by rw[<-gP r];exact hi)
  exact wpAny_pyNext_dict_end (I.ok.hd hc) st' dd hn λh' eb=>⟨rfl,I.turned (t':=s.toks) (λb o hb e=>eb b o hb e) f0 f1 f3 f4 f5⟩
 self:=λ_ _ _ _ _ st h=>wpAny_pyIter_keyiter st h
theorem zCT:entryFor table "dict_itemiterator.__iter__"=some Builtin.«dict_keyiterator.__iter__»:=
 entryFor_alias (id':="dict_keyiterator.__iter__") (by kernel_rfl) rfl (by decide +kernel) (by kernel_rfl)
theorem zCq{prog:Program}{w:World}{A:Around}{E:Value->Shared->Prop}{s:Shared}{it d:Addr}{i n ep:Nat}{ok ov:Value}{Q:Value->Shared->Prop}(hit:IsItemIter s.heap it d i n ep ok ov)(h:Q (.ref it) s):wpAny (model prog w) A (pyIter (.ref it)) Q E s:=by
 have hT:s.TypeIs (.ref it) "dict_itemiterator":=⟨_,hit,rfl⟩
 refine wpAny_pyIter_slot hT F.slot_dict_itemiterator_iter (wpAny_call_entry F.slot_dict_itemiterator_iter hT zCT ?_ (F.args_dict_itemiterator_iter_1 _))
 show wpAny _ _ (ret (.ref it)) _ _ s
 exact wpAny_pure ⟨_,rfl,"dict_itemiterator",_,hT,F.slot_dict_itemiterator_next.lookup,h⟩
def ItI(a:Addr)(ob:Obj)(kvs:List (Key×V)):It:=
 ⟨λi H=>FzD H a ob kvs/\i<kvs.length,λi H x H'=>∃p k v,kvs[i]?=some (k,v)/\H p=none/\x=.ref p/\H'=upd H p (.tup [kV k,v]),λi H=>FzD H a ob kvs/\kvs.length<=i⟩
theorem zC6{P:Program}{w:World}{K:W.Frag}{elts:List Expr}{x1:Nat}{tpos:Pos}{a it:Addr}{ob:Obj}{kvs:List (Key×V)}{es:Array DictEntry}{ep:Nat}(hep:ob.data=.dict es ep):
  fW P w K (.Tuple elts x1 tpos) (ItI a ob kvs) [it] it (λi h=>∃ok ov,IsItemIter h it a i kvs.length ep ok ov) where
 mem:=by simp
 obj:=λi h st b hb=>by
  have e:b=it:=by simpa using hb
  subst e
  obtain⟨ok,ov,st⟩:=st
  exact⟨_,st,λv z=>by
   have z':Data.fields _=Data.cell v:=z
   cases z'⟩
 keep:=λi h h' ⟨ok,ov,st⟩ k=>⟨ok,ov,k it (by simp) _ st⟩
 item:=by
  intro X hP hw hK hc i pins s σ H E I hf st hg
  subst hP hw hK
  obtain⟨hz,hi⟩:=hg
  obtain⟨ok,ov,st⟩:=st
  obtain⟨e,hs,hl,vs,es',ep',r,dd,hd'⟩:=iD I hz
  rw[hep]at hd'
  cases hd'
  obtain⟨⟨k,v⟩,hx⟩:∃p,kvs[i]?=some p:=⟨kvs[i],by simp[hi]⟩
  obtain⟨u,hu,ru⟩:=vG r hx
  have st':IsItemIter s.heap it a i vs.length ep ok ov:=by rw[<-gP r];exact st
  refine wpAny_pyNext_items_item st' dd hu λkey h' hkey hout htup hsz hk=>⟨_,rfl,?_⟩
  refine wpAny_letOwnedTupleGo_items (s:={s with heap:=h'}) hout λh2 hit2 sb2=>?_
  have hn:it≠s.heap.objs.size:=Nat.ne_of_lt (Heap.lt_size st)
  have I0:Inv X pins σ (upd H s.heap.objs.size (.tup [kV k,v])) {s with heap:=s.heap.push {cls:=.type "tuple",data:=.seq #[key,u]}}:=
   I.laid (t':=s.toks) (λc o e=>Heap.get?_push_of_some _ e) (Nat.le_refl _) ⟨by show 2<=sizeLine;decide,[key,u],.cons (zAT hkey) (.cons ru .nil),IsTup.new _ _⟩
  have f0':upd H s.heap.objs.size (.tup [kV k,v]) it=none:=by rw[bI hn];exact(hf it (by simp)).1
  obtain⟨f0,f1,f2,f3,f4,f5⟩:=hf it (by simp)
  have I1:Inv X pins σ (upd H s.heap.objs.size (.tup [kV k,v])) {s with heap:=h2}:=Inv.turned (s:={s with heap:=s.heap.push {cls:=.type "tuple",data:=.seq #[key,u]}}) (t':=s.toks) (it:=it) I0 (λc o hc' e=>by
   refine sb2.extBut c o hc' ?_
   by_cases hcn:c=s.heap.objs.size
   ·subst hcn
    have e':(s.heap.push {cls:=.type "tuple",data:=.seq #[key,u]}).get? s.heap.objs.size=some o:=e
    rw[Heap.get?_push_size _ rfl]at e'
    cases e'
    exact htup
   ·have e':(s.heap.push {cls:=.type "tuple",data:=.seq #[key,u]}).get? c=some o:=e
    rw[Heap.get?_push_ne _ _ _ hcn]at e'
    exact hk c o hc' e') f0' f1 f3 f4 f5
  refine⟨.ref s.heap.objs.size,_,I1,rfl,⟨_,k,v,hx,I.hok.fresh (Nat.le_refl _),rfl,rfl⟩,⟨key,u,by rw[gP r];exact hit2⟩,λc hc'=>?_⟩
  have e:c=it:=by simpa using hc'
  subst e
  exact f0'
 done:=by
  intro X hP hw hK hc i pins s σ H E I hf st hg
  subst hP hw hK
  obtain⟨hz,hi⟩:=hg
  obtain⟨ok,ov,st⟩:=st
  obtain⟨e,hs,hl,vs,es',ep',r,dd,hd'⟩:=iD I hz
  rw[hep]at hd'
  cases hd'
  obtain⟨f0,f1,f2,f3,f4,f5⟩:=hf it (by simp)
  have st':IsItemIter s.heap it a i vs.length ep ok ov:=by rw[<-gP r];exact st
  have hn:vs[i]?=none:=List.getElem?_eq_none (by rw[<-gP r];exact hi)
  exact wpAny_pyNext_items_end (I.ok.hd hc) st' dd hn λh' eb=>⟨rfl,I.turned (t':=s.toks) (λb o hb e=>eb b o hb e) f0 f1 f3 f4 f5⟩
 self:=λA i s Q E ⟨ok,ov,st⟩ h=>zCq st h
section
variable{X:Cx}
def zHF(tl:TE):TI:=λσ H R=>tl σ H λx H1=>∃a ob kvs,x=.ref a/\FzD H1 a ob kvs/\R (ItI a ob kvs) H1
theorem zEF{o:Expr}{tl:TE}{elts:List Expr}{x1:Nat}{tpos apos pos:Pos}(hl:PE X o tl)(hbase:attributeBase o "items" X.env (eval o X.env)=eval o X.env:=by rfl)(hline:(apos.endLine==pos.line)=true:=by rfl):
  PI X (.Tuple elts x1 tpos) (.Call (.Attribute o "items" apos) [] [] pos) (zHF tl):=by
 intro pins s σ H R I h
 refine wpAny_Call_method (T:="dict") (id:="dict.items") hbase rfl hline F.plainAttrs_dict F.slot_dict_items F.type_dict_items (thn (hl pins s σ H _ I h) λv s1 ⟨x,H1,I1,r1,q1⟩=>?_)
 obtain⟨a,ob,kvs,e,hz,q⟩:=q1
 subst e
 cases r1
 obtain⟨e,hs,hl,vs,es,ep,r,dd,hd⟩:=iD I1 hz
 have hm:=dd.dictOf
 refine⟨hm.typeIs,hm.mapOf.noDict,?_⟩
 show wpAny _ _ (callWith pos (.builtin "dict.items") [.ref a] [] []) _ _ s1
 refine method_meetsIn F.slot_dict_items F.entry_dict_items rfl (PySem.evalArgs_none ⟨rfl,hm.typeIs,F.args_dict_items_1 _,_,meets_dict_items (bW X.prog X.w) a hs,⟨vs,hm⟩,?_⟩)
 have I2:Inv X pins σ H1 {s1 with heap:=s1.heap.push {cls:=.type "dict_items",data:=.fields #[.ref a]}}:=I1.kept (t':=s1.toks) λb o e=>Heap.get?_push_of_some _ e
 refine wpAny_pyIter_items (s:={s1 with heap:=s1.heap.push {cls:=.type "dict_items",data:=.fields #[.ref a]}}) ⟨_,Heap.get?_push_size _ rfl,rfl,rfl⟩ (dd.push _) ?_
 refine⟨_,[_],_,_,H1,rfl,I2.kept (t':=s1.toks) λb o e=>Heap.get?_push_of_some _ e,zC6 (a:=a) (ob:=ob) (kvs:=kvs) hd,⟨.none,.none,?_⟩,λb hb=>?_,q⟩
 ·rw[gP r]
  exact Heap.get?_push_size _ rfl
 ·have e:b=_:=List.mem_singleton.mp hb
  subst e
  exact I2.fpOk (Nat.le_refl _) (I2.hok.fresh (Nat.le_refl _))
end
end L2
namespace L2
open PySem PySem.Spec PyProof.Rows
theorem xI{prog:Program}{w:World}:∀{kvs:List (Key×Value)}{us:List Str}{acc:Array Value},kvs.map (·.1)=us.map Sum.inr ->
  ItemsOf (λi v=>∃k x,kvs[i]?=some (k,x)/\(bW prog w).is k v=true) acc kvs.length->StrsAre acc.toList us:=by
 intro kvs us acc hk h
 obtain⟨hn,hp⟩:=h
 have key:∀(us:List Str) (l:List Value) (kvs:List (Key×Value)),kvs.map (·.1)=us.map Sum.inr->l.length=kvs.length->(∀(j:Nat) (v:Value),l[j]?=some v->∃k x,kvs[j]?=some (k,x)/\(bW prog w).is k v=true)->StrsAre l us:=by
  intro us
  induction us with
  |nil=>
   intro l kvs hk hl _
   have:kvs=[]:=by simpa using hk
   subst this
   have:l=[]:=List.eq_nil_of_length_eq_zero hl
   subst this
   exact .nil
  |cons y ys ih=>
   intro l kvs hk hl hp
   cases kvs with
   |nil=>simp at hk
   |cons p kvs=>
    cases l with
    |nil=>simp at hl
    |cons v l=>
     simp only[List.map_cons,List.cons.injEq]at hk
     obtain⟨k,x,e,q⟩:=hp 0 v rfl
     have e:p=(k,x):=by simpa using e
     subst e
     have hk1:k=Sum.inr y:=hk.1
     subst hk1
     rcases fX (show jG (Sum.inr y) v=true from q) with⟨i,t,z,_⟩|⟨z,t,e1,rfl⟩
     ·cases z
     ·cases e1
      exact .cons _ _ (ih l kvs hk.2 (by simpa using hl) λj v hj=>hp (j+1) v hj)
 refine key us acc.toList kvs hk (by simpa using hn) λj v hj=>hp j v (by simpa using hj)
section
variable{prog:Program}{w:World}{A:Around}{E:Value->Shared->Prop}{s:Shared}{a:Addr}{us:List Str}
theorem zGE:isSubtype (.type "dict") (.type "dict")=pure true:=by rw[isSubtype_type];kernel_rfl
theorem zEi{Q:Bool->Shared->Prop}(ht:s.TypeIs (.ref a) "dict")(h:Q false s):wpAny (model prog w) A (Builtin.List.listLengthHint (.ref a)) Q E s:=by
 unfold Builtin.List.listLengthHint
 refine wpAny_bind (wpAny_specialOf ht PySem.F.slot_dict_len.lookup ?_)
 have e1:splitId "dict.__len__"=some ("dict","__len__"):=by decide +kernel
 dsimp only
 rw[e1]
 dsimp only
 refine wpAny_bind (wpAny_isInstance ht zGE ?_)
 simp only[Bool.not_true,Bool.false_eq_true,if_false]
 refine wpAny_ite ?_
 rw[if_pos (by decide +kernel)]
 refine wpAny_bind (wpAny_typeOf ht ?_)
 exact wpAny_pure h
theorem zCs{kvs:List (Key×Value)}{ep:Nat}{Q:List Value->Shared->Prop}(hh:A.handled=none)(hsm:(a==sysModules)=false)(S:s.heap.DictAt (bW prog w) a kvs ep)(hks:kvs.map (·.1)=us.map Sum.inr)(hl:us.length<=sizeLine)
  (hQ:∀h' d tk (acc:List Value) vs,StrsAre acc vs->vs.Perm us->s.heap.objs.size<h'.objs.size->(∀b o,s.heap.get? b=some o->h'.get? b=some o)->Q acc {s with heap:=h',drawn:=d,toks:=tk}):
  wpAny (model prog w) A (collect (.ref a)) Q E s:=by
 have alt:a<s.heap.objs.size:=S.lt_size
 have hkl:kvs.length=us.length:=by have:=congrArg List.length hks;simpa using this
 unfold collect
 refine wpAny_bind (wpAny_runValue (codeAny_builtin F.entry_proto_collect ?_))
 rw[Around.under_plainId F.plain_proto_collect _]
 show wpAny _ A.in1 (newList [] >>= λl=>again (.builtin "list.__iadd__" ⟨[l,.ref a],[]⟩)) _ _ s
 refine wpAny_bind (wpAny_newObj_type ?_ (by size_fits))
 refine wpAny_pure ⟨plainId_quiet F.plain_list_iadd _,codeAny_builtin F.entry_list_iadd ?_⟩
 rw[Around.under_plainId F.plain_list_iadd _]
 show wpAny _ A.in1 (Builtin.List.listExtendWith (.ref s.heap.objs.size) (.ref a) (.ref s.heap.objs.size)) _ _ _
 unfold Builtin.List.listExtendWith
 have S1:=S.push {cls:=.type "list",data:=.seq ([]:List Value).toArray}
 have ht:Shared.TypeIs {s with heap:=s.heap.push {cls:=.type "list",data:=.seq ([]:List Value).toArray}} (.ref a) "dict":=S1.dictOf.typeIs
 refine wpAny_bind (wpAny_typeOf ht ?_)
 have h1:Builtin.List.listSameRef (.ref s.heap.objs.size) (.ref a)=false:=by simp[Builtin.List.listSameRef];exact Nat.ne_of_gt alt
 have h2:(Value.type "dict"==Value.type "list")=false:=by decide
 have h3:(Value.type "dict"==Value.type "tuple")=false:=by decide
 simp only[h1,h2,h3,Bool.or_false,Bool.false_eq_true,if_false]
 refine wpAny_bind (wpAny_pyIter_dict hsm S1 ?_)
 generalize hh':((s.heap.push {cls:=.type "list",data:=.seq ([]:List Value).toArray}).push {cls:=.type "dict_keyiterator",data:=.fields #[.ref a,.int 0 0,.int kvs.length 0,.int ep 0]})=h'
 have sz1:(s.heap.push {cls:=.type "list",data:=.seq ([]:List Value).toArray}).objs.size=s.heap.objs.size+1:=Heap.size_push ..
 have kp:∀b o,(s.heap.push {cls:=.type "list",data:=.seq ([]:List Value).toArray}).get? b=some o->h'.get? b=some o:=λb o e=>by rw[<-hh'];exact Heap.get?_push_of_some _ e
 have ht':Shared.TypeIs {s with heap:=h'} (.ref a) "dict":=by
  obtain⟨o,e,c⟩:=ht
  exact⟨o,kp _ _ e,c⟩
 have st0:h'.IsKeyIter (s.heap.objs.size+1) a 0 kvs.length ep/\h'.DictAt (bW prog w) a kvs ep:=by
  refine⟨⟨{cls:=.type "dict_keyiterator",data:=.fields #[.ref a,.int 0 0,.int kvs.length 0,.int ep 0]},?_,rfl,rfl⟩,S1.keep kp⟩
  rw[<-hh',<-sz1]
  exact Heap.get?_push_size _ rfl
 rw[sz1]
 refine wpAny_bind (wpAny_holding (zEi ht' ?_))
 have hA:A.in1.handled=none:=by simp[hh]
 have W:=(Walks.dictKeys (prog:=prog) (w:=w) (A:=A.in1) (knd:=bW prog w) hA (s.heap.objs.size+1) a (λz=>absurd alt (by rw[z];exact Nat.not_lt.mpr (Nat.le_succ _))) kvs ep).toS
 refine wpAny_ite ?_
 rw[if_pos (by decide +kernel)]
 refine wpAny_bind (wpAny_rule ?_)
 have g0:h'.get? s.heap.objs.size=some {cls:=.type "list",data:=.seq ([]:List Value).toArray}:=kp _ _ (Heap.get?_push_size _ rfl)
 have nf:s.heap.objs.size∉[s.heap.objs.size+1,a]:=λm=>by
  simp only[List.mem_cons,List.not_mem_nil,or_false]at m
  rcases m with z|z
  ·omega
  ·rw[<-z]at alt;exact Nat.lt_irrefl _ alt
 refine wpAny_bind ?_
 show wpAny _ A.in1 (updateSeq s.heap.objs.size (·.push .none) >>= λ_=>updateSeq s.heap.objs.size (·.pop)) _ _ _
 refine wpAny_bind (wpAny_updateSeq g0 rfl ?_)
 have g1:=Heap.get?_update_self (Obj.mapSeq (·.push Value.none)) g0 rfl
 refine wpAny_updateSeq g1 rfl ?_
 have g2:=Heap.get?_update_self (Obj.mapSeq (·.pop)) g1 rfl
 have oth:∀b o,b≠s.heap.objs.size->h'.get? b=some o->((h'.update s.heap.objs.size (Obj.mapSeq (·.push Value.none))).update s.heap.objs.size (Obj.mapSeq (·.pop))).get? b=some o:=
  λb o hb e=>(Heap.get?_update_other _ _ (Ne.symm hb)).trans ((Heap.get?_update_other _ _ (Ne.symm hb)).trans e)
 refine wpAny_pure ⟨plainId_quiet F.plain_extend_loop _,codeAny_extend_loopS W (by rw[hkl];exact hl) _ nf _ kvs.length 0 _ _ _ rfl (Nat.zero_le _)
  (W.frame 0 {s with heap:=h'} _ s.toks st0 (Nat.le_refl _) λb hb o e=>oth b o (λz=>nf (z▸hb)) e) g2 (ItemsOf.nil _) λs' acc' c' hm g' hacc=>?_⟩
 show wpAny _ A (load s.heap.objs.size >>= _) _ _ s'
 refine wpAny_bind (wpAny_load g' ?_)
 have hs:=xI hks hacc
 obtain⟨h'',g'',d'',tk'',os''⟩:=s'
 have e1:g''=s.gens:=hm.gens
 have e2:os''=s.os:=hm.os
 subst e1 e2
 refine wpAny_pure (hQ h'' d'' tk'' acc'.toList us hs (List.Perm.refl _) (Heap.lt_size g') λb o e=>hm.heap b o (λm=>?_) (oth b o (Nat.ne_of_lt (Heap.lt_size e)) (kp b o (Heap.get?_push_of_some _ e))))
 have lt:=Heap.lt_size e
 simp only[List.mem_cons,List.not_mem_nil,or_false]at m
 rcases m with m|m
 ·rw[m]at lt;exact Nat.lt_irrefl _ lt
 ·rw[m]at lt;exact absurd lt (Nat.not_lt.mpr (Nat.le_succ _))
theorem zCu{kvs:List (Key×Value)}{ep:Nat}{Q:Value->Shared->Prop}(hh:A.handled=none)(hsm:(a==sysModules)=false)(S:s.heap.DictAt (bW prog w) a kvs ep)(hks:kvs.map (·.1)=us.map Sum.inr)(h64:us.length<64)
  (h:∀h' d tk (l:Addr) (out:List Value) (ss:List Str) (e:Nat),StrsAre out ss->ss.Perm us->sortedS ss=true->h'.get? l=some (seqObj "list" out.toArray e)->s.heap.objs.size<=l->(∀b o,s.heap.get? b=some o->h'.get? b=some o) ->
   Q (.ref l) {s with heap:=h',drawn:=d,toks:=tk}):wpAny (model prog w) A (call (.builtin "sorted") [.ref a]) Q E s:=by
 refine Calls.call_function_entry kind_sorted plain_sorted entry_sorted (args_sorted1 _) ?_
 unfold Builtin.«sorted»
 refine wpAny_bind (m:=checkCount "sorted" 1 1 _) (wpAny_pure ?_)
 refine wpAny_bind (zCs (by simp[hh]) hsm S hks (Nat.le_of_lt (Nat.lt_trans h64 (by decide))) λh1 d tk acc vs hs hp le kp=>?_)
 have hlen:acc.length<64:=by rw[hJ hs,hp.length_eq];exact h64
 refine wpAny_bind (wpAny_newList ?_ (Nat.le_of_lt (Nat.lt_trans hlen (by decide))))
 have hoL:(h1.push (seqObj "list" acc.toArray 0)).get? h1.objs.size=some (seqObj "list" acc.toArray 0):=Heap.get?_push_size _ rfl
 refine wpAny_bind (wpAny_holding (wpAny_call_entry slot_list_sort ⟨_,hoL,rfl⟩ entry_list_sort (list_sort_treeK strKind_oneLt hoL hs.keysOf (λv₁ v₂ rest e=>keyKind_strs (by rw[<-e];exact hs)) hlen λst' a1 a2=>⟨_,rfl,?_⟩) (args_list_sort _)))
 obtain⟨ss',b1,b2,b3⟩:=sorted_out_str hs a1 a2
 obtain⟨e,he⟩:=sortedHeap_at (out:=(arrOf st').map (·.2)) hoL
 refine wpAny_pure ⟨_,rfl,h _ _ _ _ ((arrOf st').map (·.2)).toList ss' e b1 (b2.trans hp) b3 (by rw[Array.toArray_toList];exact he) (Nat.le_of_lt le) λb o q=>?_⟩
 have lt:=Heap.lt_size (kp b o q)
 rw[sortedHeap_old (Nat.ne_of_lt lt) (by rw[Heap.size_push];exact Nat.lt_succ_of_lt lt)]
 exact Heap.get?_push_of_some _ (kp b o q)
end
section
variable{X:Cx}
def zGQ:List V->Hp->VK->Prop:=λxs H Q=>∃(a:Addr) (ob:Obj) (kvs:List (Key×V)) (us:List Str),xs=[.ref a]/\FzD H a ob kvs/\kvs.map (·.1)=us.map Sum.inr/\us.length<64 /\
  ∀(ss:List Str) (l:Addr),ss.Perm us->sortedS ss=true->H l=none->Q (.ref l) (upd H l (.lst (ss.map V.str)))
theorem uP:∀{kvs:List (Key×V)}{vs:List (Key×Value)},KV kvs vs->kvs.map (·.1)=vs.map (·.1)
 |[],_,.nil=>rfl
 |_::_,_,.cons r rs=>by rw[List.map_cons,List.map_cons,r.1,uP rs]
theorem zCJ(hc:X.calm=true):CallR X (.builtin "sorted") zGQ:=by
 intro pins s σ H xs us Q I r h
 obtain⟨a,ob,kvs,uu,rfl,hz,hk,h64,q⟩:=h
 obtain⟨u,rfl,rx⟩:=cX r
 cases rx
 obtain⟨e,hs,hl,vs,es,ep,rr,dd,hd⟩:=iD I hz
 refine zCu (I.ok.hd hc) hs dd (by rw[<-uP rr];exact hk) h64 λh' d tk l out ss e hs hp hso hl le k=>?_
 refine⟨.ref l,_,(I.laid (t':=tk) (o:=.lst (ss.map V.str)) k le ?_).draw d,rfl,q ss l hp hso (I.hok.fresh le)⟩
 refine⟨?_,out,e,oR hs,hl⟩
 rw[List.length_map,hp.length_eq]
 exact Nat.le_of_lt (Nat.lt_trans h64 (by decide))
end
end L2
namespace L2
open PySem PySem.Spec PyProof.Rows
section
variable{X:Cx}
def zIk:List V->Hp->VK->Prop:=λxs H Q=>∃(a:Addr) (kvs:List (Key×V)),xs=[.ref a]/\Rd H a (.dK kvs)/\Q (.int kvs.length) H
theorem zDk:CallR X (.builtin "len") zIk:=by
 intro pins s σ H xs us Q I r h
 obtain⟨a,kvs,rfl,e,q⟩:=h
 obtain⟨u,rfl,rx⟩:=cX r
 cases rx
 exact zIV I e λt s' I'=>⟨.int kvs.length,H,I',⟨t,rfl⟩,q⟩
def zJn:R2:=λx y H Q=>∃a v,x=.ref a/\kE H a y (some v)/\Q v H
theorem zF1(hu:X.A.units+1<cLine):IxR X zJn:=by
 intro value slice pins s σ H x y v u Q I rx ry h hs
 obtain⟨a,z,rfl,g,q⟩:=h
 cases rx
 have hT:=zCU I g
 unfold subscriptTail
 refine wpAny_bind ?_
 rw[getitemInPython_of_ne hT.not_modules]
 refine wpAny_bind (wpAny_specialOf hT PySem.F.slot_dict_getitem.lookup ?_)
 have fin:wpAny (model X.prog X.w) X.A (subscripted slice false (.ref a) u) (λr s₃=>wpAny (model X.prog X.w) X.A (letTemporaryGo value (.ref a) r >>= λ_=>pure r) (EP X pins σ Q) X.xe s₃) X.xe s:=by
  rw[hs]
  exact wpAny_operating (zD7 hu I g ry λw' s3 I3 rw'=>wpAny_bind (wpAny_letTemporaryGo (wpAny_pure ⟨z,H,I3,rw',q⟩)))
 first
  |exact wpAny_pure (wpAny_bind fin)
  |exact wpAny_bind (wpAny_pure (wpAny_bind fin))
  |exact wpAny_bind fin
def zJo:R2:=λy x H Q=>∃a o,x=.ref a/\kE H a y o/\Q (.bl o.isSome) H
theorem zDc(hu:X.A.units+1<cLine):OpR X (compareOp .In) zJo:=by
 intro pins s σ H y x u v Q I ry rx h
 obtain⟨a,o,rfl,g,q⟩:=h
 cases rx
 exact zKj hu I g ry λs' I'=>⟨.bl _,H,I',rfl,q⟩
end
def nY(d v:Addr):HO:=.ext λh=>PySem.W.KdlKeysView h v d
section
variable{prog:Program}{w:World}{A:Around}{E:Value->Shared->Prop}{s:Shared}
theorem zCv{T:String}{r d:Addr}{n:Nat}{P:Nat->Value->Prop}{OK:Heap->Prop}{Q:List Value->Shared->Prop}(S:PySem.W.KdlSrc prog w T r d n P OK)(hh:A.handled=none)(ok:OK s.heap)(hn:n<=sizeLine)
  (hQ:∀h' tk (acc:Array Value),ItemsOf P acc n->s.heap.objs.size<h'.objs.size->(∀b o,s.heap.get? b=some o->h'.get? b=some o)->Q acc.toList {s with heap:=h',toks:=tk}):
  wpAny (model prog w) A (collect (.ref r)) Q E s:=by
 have lt:=S.there _ ok
 unfold collect
 refine wpAny_bind (wpAny_runValue (codeAny_builtin F.entry_proto_collect ?_))
 rw[Around.under_plainId F.plain_proto_collect _]
 show wpAny _ A.in1 (newList [] >>= λl=>again (.builtin "list.__iadd__" ⟨[l,.ref r],[]⟩)) _ _ s
 refine wpAny_bind (wpAny_newObj_type ?_ (by size_fits))
 refine wpAny_pure ⟨plainId_quiet F.plain_list_iadd _,codeAny_builtin F.entry_list_iadd ?_⟩
 rw[Around.under_plainId F.plain_list_iadd _]
 show wpAny _ A.in1 (Builtin.List.listExtendWith (.ref s.heap.objs.size) (.ref r) (.ref s.heap.objs.size)) _ _ _
 refine PySem.W.kdl_extend (R:=λr s'=>match r with
   |.ok (.ret v)=>wpAny (model prog w) A (match v with
    |.ref a=>load a >>= λo=>match o.data with
     |.seq xs _=>pure xs.toList
     |_=>unsupported "internal:collect"
    |_=>unsupported "internal:collect") Q E s'
   |.ok _=>False
   |.error e=>E e s') (s:={s with heap:=s.heap.push {cls:=.type "list",data:=.seq ([]:List Value).toArray}}) S hh (S.keep _ _ ok λb _ o e=>Heap.get?_push_of_some _ e) s.heap.objs.size (Nat.ne_of_gt lt.1) (Nat.ne_of_gt lt.2) (.ref s.heap.objs.size) 0 (Heap.get?_push_size _ rfl) (λh' tk acc c k hl ha=>?_) hn
 exact wpAny_bind (wpAny_load hl (wpAny_pure (hQ h' tk acc ha (Heap.lt_size hl) λb o e=>k b o (Nat.ne_of_lt (Heap.lt_size e)) (Heap.get?_push_of_some _ e))))
theorem zCD{T:String}{r d:Addr}{n:Nat}{P:Nat->Value->Prop}{OK:Heap->Prop}{us:List Str}{Q:Value->Shared->Prop}(S:PySem.W.KdlSrc prog w T r d n P OK)(hh:A.handled=none)(ok:OK s.heap)(h64:n<64)(hus:us.length=n)
  (hst:∀acc:Array Value,ItemsOf P acc n->StrsAre acc.toList us)
  (h:∀h' tk (l:Addr) (out:List Value) (ss:List Str) (e:Nat),StrsAre out ss->ss.Perm us->sortedS ss=true->h'.get? l=some (seqObj "list" out.toArray e)->s.heap.objs.size<=l->(∀b o,s.heap.get? b=some o->h'.get? b=some o) ->
   Q (.ref l) {s with heap:=h',toks:=tk}):wpAny (model prog w) A (call (.builtin "sorted") [.ref r]) Q E s:=by
 refine Calls.call_function_entry kind_sorted plain_sorted entry_sorted (args_sorted1 _) ?_
 unfold Builtin.«sorted»
 refine wpAny_bind (m:=checkCount "sorted" 1 1 _) (wpAny_pure ?_)
 refine wpAny_bind (zCv S (by simp[hh]) ok (Nat.le_of_lt (Nat.lt_trans h64 (by decide))) λh1 tk acc ha le kp=>?_)
 have hs:=hst acc ha
 have hlen:acc.toList.length<64:=by rw[hJ hs,hus];exact h64
 refine wpAny_bind (wpAny_newList ?_ (Nat.le_of_lt (Nat.lt_trans hlen (by decide))))
 have hoL:(h1.push (seqObj "list" acc.toList.toArray 0)).get? h1.objs.size=some (seqObj "list" acc.toList.toArray 0):=Heap.get?_push_size _ rfl
 refine wpAny_bind (wpAny_holding (wpAny_call_entry slot_list_sort ⟨_,hoL,rfl⟩ entry_list_sort (list_sort_treeK strKind_oneLt hoL hs.keysOf (λv₁ v₂ rest e=>keyKind_strs (by rw[<-e];exact hs)) hlen λst' a1 a2=>⟨_,rfl,?_⟩) (args_list_sort _)))
 obtain⟨ss',b1,b2,b3⟩:=sorted_out_str hs a1 a2
 obtain⟨e,he⟩:=sortedHeap_at (out:=(arrOf st').map (·.2)) hoL
 refine wpAny_pure ⟨_,rfl,h _ _ _ ((arrOf st').map (·.2)).toList ss' e b1 b2 b3 (by rw[Array.toArray_toList];exact he) (Nat.le_of_lt le) λb o q=>?_⟩
 have lt:=Heap.lt_size (kp b o q)
 rw[sortedHeap_old (Nat.ne_of_lt lt) (by rw[Heap.size_push];exact Nat.lt_succ_of_lt lt)]
 exact Heap.get?_push_of_some _ (kp b o q)
end
section
variable{X:Cx}
def zIa(tl:TE):TE:=λσ H Q=>tl σ H λx H1=>∃a ob kvs,x=.ref a/\FzD H1 a ob kvs/\∀p,H1 p=none->Q (.ref p) (upd H1 p (nY a p))
theorem zFH{o:Expr}{tl:TE}{apos pos:Pos}(hl:PE X o tl)(hbase:attributeBase o "keys" X.env (eval o X.env)=eval o X.env:=by rfl)(hline:(apos.endLine==pos.line)=true:=by rfl):
  PE X (.Call (.Attribute o "keys" apos) [] [] pos) (zIa tl):=by
 intro pins s σ H Q I h
 refine wpAny_Call_method (T:="dict") (id:="dict.keys") hbase rfl hline F.plainAttrs_dict F.slot_dict_keys F.type_dict_keys (thn (hl pins s σ H _ I h) λv s1 ⟨x,H1,I1,r1,q1⟩=>?_)
 obtain⟨a,ob,kvs,e,hz,q⟩:=q1
 subst e
 cases r1
 obtain⟨e,hs,hl,vs,es,ep,r,dd,hd⟩:=iD I1 hz
 have hm:=dd.dictOf
 refine⟨hm.typeIs,hm.mapOf.noDict,?_⟩
 show wpAny _ _ (callWith pos (.builtin "dict.keys") [.ref a] [] []) _ _ s1
 refine method_meetsIn F.slot_dict_keys F.entry_dict_keys rfl (PySem.evalArgs_none ⟨rfl,hm.typeIs,F.args_dict_keys_1 _,_,PySem.W.kdl_meets_keys (bW X.prog X.w) a hs,⟨vs,hm⟩,?_⟩)
 refine⟨.ref _,_,I1.laid (t':=s1.toks) (o:=nY a s1.heap.objs.size) (λb o e=>Heap.get?_push_of_some _ e) (Nat.le_refl _) ⟨⟨_,Heap.get?_push_size _ rfl,rfl,rfl⟩,⟨_,Heap.get?_push_size _ rfl⟩,?_⟩,rfl,q _ I1.fresh⟩
 rintro h1 h2 ⟨o,e,c⟩ k
 exact⟨o,k o e,c⟩
def zGP:List V->Hp->VK->Prop:=λxs H Q=>∃(v a:Addr) (ob:Obj) (kvs:List (Key×V)) (us:List Str),xs=[.ref v]/\H v=some (nY a v)/\FzD H a ob kvs/\kvs.map (·.1)=us.map Sum.inr/\us.length<64 /\
  ∀(ss:List Str) (l:Addr),ss.Perm us->sortedS ss=true->H l=none->Q (.ref l) (upd H l (.lst (ss.map V.str)))
theorem zCI(hc:X.calm=true):CallR X (.builtin "sorted") zGP:=by
 intro pins s σ H xs us Q I r h
 obtain⟨v,a,ob,kvs,uu,rfl,hv,hz,hk,h64,q⟩:=h
 obtain⟨u,rfl,rx⟩:=cX r
 cases rx
 obtain⟨e,hs,hl,vs,es,ep,rr,dd,hd⟩:=iD I hz
 obtain⟨hvv,_⟩:=(show ObjOk X.prog X.w H s.heap v (nY a v) from I.hok v _ hv)
 have hkv:vs.map (·.1)=uu.map Sum.inr:=by rw[<-uP rr];exact hk
 have hlen:uu.length=vs.length:=by have:=congrArg List.length hkv;simpa using this.symm
 refine zCD (PySem.W.kdl_keys (knd:=bW X.prog X.w) (r:=v) (d:=a) (kvs:=vs) (ep:=ep)) (I.ok.hd hc) ⟨hvv,dd⟩ (by rw[<-hlen];exact h64) hlen (λacc ha=>xI hkv ha) λh' tk l out ss e hs hp hso hl le k=>?_
 refine⟨.ref l,_,I.laid (t':=tk) (o:=.lst (ss.map V.str)) k le ⟨?_,out,e,oR hs,hl⟩,rfl,q ss l hp hso (I.hok.fresh le)⟩
 rw[List.length_map,hp.length_eq]
 exact Nat.le_of_lt (Nat.lt_trans h64 (by decide))
end
end L2
namespace L2
open PySem PySem.Spec PyProof.Rows
def fzb:HO->Bool
 |.lst _=>true
 |.dK _=>true
 |_=>false
def FrozenA(H H1 H2:Hp):Prop:=∀b,(H b=none/\∃o ob,fzb o=true/\H1 b=some o/\H2 b=some (.frz ob o))\/(¬ (H b=none/\∃o,fzb o=true/\H1 b=some o)/\H2 b=H1 b)
section
variable{H H1 H2:Hp}{b:Addr}{o:HO}
theorem FrozenA.keep(f:FrozenA H H1 H2)(h:H1 b=some o)(n:fzb o=false):H2 b=some o:=by
 rcases f b with⟨_,o',ob,z,e,_⟩|⟨_,z⟩
 ·rw[h]at e;cases e;rw[n]at z;exact absurd z Bool.false_ne_true
 ·rw[z];exact h
theorem FrozenA.fz(f:FrozenA H H1 H2)(hn:H b=none)(h:H1 b=some o)(n:fzb o=true):∃ob,H2 b=some (.frz ob o):=by
 rcases f b with⟨_,o',ob,z,e,e2⟩|⟨z,_⟩
 ·rw[h]at e;cases e;exact⟨ob,e2⟩
 ·exact absurd ⟨hn,o,n,h⟩ z
theorem FrozenA.none_of(f:FrozenA H H1 H2)(h:H1 b=none):H2 b=none:=by
 rcases f b with⟨_,o',ob,z,e,e2⟩|⟨_,z⟩
 ·rw[h]at e;cases e
 ·rw[z];exact h
end
theorem Good.imp{P:Program}{w:World}{K:W.Frag}{mg:Str->Option Value}{base:Heap}{k:Nat}{x:Str}{ps:List Str}{sp sp':Sp}(G:Good P w K mg base k x ps sp)(h:∀vs H Q E,sp' vs H Q E->sp vs H Q E):Good P w K mg base k x ps sp':=by
 obtain⟨f,fd,F,b,m,kp⟩:=G
 exact⟨f,fd,F.imp h,b,m,kp⟩
theorem Good.mono{P:Program}{w:World}{K:W.Frag}{mg:Str->Option Value}{base:Heap}{j k:Nat}{x:Str}{ps:List Str}{sp:Sp}(G:Good P w K mg base j x ps sp)(h:j<=k):Good P w K mg base k x ps sp:=by
 obtain⟨f,fd,F,b,m,kp⟩:=G
 exact⟨f,fd,F.mono h,b,m,kp⟩
def zBW:HO->Bool
 |.frz _ _=>true
 |.tup _=>true
 |_=>false
def HS(H H':Hp):Prop:=∀b o,zBW o=true->H b=some o->H' b=some o
section
variable{H H1 H2:Hp}{a p c:Addr}{o:HO}
theorem HS.refl(H:Hp):HS H H:=λ_ _ _ e=>e
theorem HS.trans(x:HS H H1)(y:HS H1 H2):HS H H2:=λb o h e=>y b o h (x b o h e)
theorem Same.hs(s:Same H H1):HS H H1:=λb o _ e=>s b o e
theorem FrozenA.hs(f:FrozenA H H1 H2):HS H1 H2:=λb o h e=>f.keep e (by cases o<;>first|rfl|exact absurd h Bool.false_ne_true)
theorem gD(h:H a=none):HS H (upd H a o):=λb u _ e=>by rw[bI (dH e h)];exact e
theorem fN{u:HO}(h:H a=some u)(n:zBW u=false):HS H (upd H a o):=λb v hv e=>by
 by_cases z:b=a
 ·subst z;rw[h]at e;cases e;rw[n]at hv;exact absurd hv Bool.false_ne_true
 ·rw[bI z];exact e
end
end L2
namespace L2
open PySem PySem.Spec PyProof.Rows
theorem zCH:typeLookup (.type "list") "keys"=pure none:=by rw[typeLookup_type,builtinLookup_eq_fast];kernel_rfl
section
variable{prog:Program}{w:World}{A:Around}{E:Value->Shared->Prop}{s:Shared}
theorem zDo{a:Addr}{xs:Array Value}{n:Nat}{Q:Option Value->Shared->Prop}(hA:A.handled=none)(hx:s.heap.get? a=some {cls:=.type "list",data:=.seq xs n})
  (h:∀h' tk,(∀b o,s.heap.get? b=some o->h'.get? b=some o)->Q none {s with heap:=h',toks:=tk}):wpAny (model prog w) A (getAttr? (.ref a) "keys") Q E s:=by
 obtain⟨hp,g,d,tk,os⟩:=s
 have ty:∀t',(⟨hp,g,d,t',os⟩:Shared).TypeIs (.ref a) "list":=λ_=>⟨_,hx,rfl⟩
 have e1:=sub_AttributeError
 have e2:=F.slot_list_getattribute.lookup
 have e3:=F.slot_list_getattribute.bind (.ref a)
 have e4:=am_list_getattr_none
 unfold getAttr? getAttrBy? getAttrBy
 repeat (any_goals (first|assumption|exact ty _|((with_reducible show wpAny _ _ (call (Value.builtin "list.__getattribute__") _ _) _ _ _);refine call_meets F.slot_list_getattribute (ty _) am_entry_list_getattribute (F.args_list_getattribute_2 _ _) (meets_getattribute_miss_list a xs n #[] "keys" _ zCH (by decide +kernel)) ⟨hx,hA,λh' tk' e ne=>?_⟩)|wp_step))
 obtain⟨t',u',he⟩:=ne.there
 show wpAny _ _ (getattributeRaised _ _ _ _ _ _ _) _ _ _
 unfold getattributeRaised
 repeat (any_goals (first|assumption|wp_step))
 all_goals exact h _ _ ne.keeps
theorem zBC:entryFor table "dict.update.loop"=some Builtin.«dict.update.loop»:=entryFor_of_tree (by kernel_rfl)
theorem qA:plainId "dict.update.loop"=true:=by decide +kernel
theorem sZ{h h':Heap}{a:Addr}{kvs:List (Key×Value)}(hd:h.DictOf (bW prog w) a kvs)(k:∀o,h.get? a=some o->h'.get? a=some o):h'.DictOf (bW prog w) a kvs:=by
 obtain⟨o,es,ep,e,r⟩:=hd
 exact⟨o,es,ep,k o e,r⟩
def TupsAt(prog:Program)(w:World)(h:Heap)(its:Array Value)(ps:List (Key×Value)):Prop:=
 its.size=ps.length/\∀(j:Nat) (k:Key) (v:Value),ps[j]?=some (k,v)->∃t key,its[j]?=some (.ref t)/\IsTup h t #[key,v]/\(bW prog w).is k key=true
theorem TupsAt.keep{h h':Heap}{its:Array Value}{ps:List (Key×Value)}(x:TupsAt prog w h its ps)(k:∀t o,h.get? t=some o->o.cls=.type "tuple"->h'.get? t=some o):TupsAt prog w h' its ps:=
 ⟨x.1,λj kk v e=>by
  obtain⟨t,key,a,⟨o,b,c,d⟩,f⟩:=x.2 j kk v e
  exact⟨t,key,a,⟨o,k t o b c,c,d⟩,f⟩⟩
theorem zDb{R:Result->Shared->Prop}{it l dd:Addr}{its:Array Value}{ps:List (Key×Value)}(hh:A.handled=none)(hli:l≠it)(hdi:dd≠it)(hdl:dd≠l)(hsz:ps.length<=1000):
  ∀(m i:Nat) (s:Shared) (kvs:List (Key×Value)) (tk:Tok),ps.length=i+m->s.heap.IsListIter it l i/\s.heap.IsList l its->TupsAt prog w s.heap its ps->s.heap.DictOf (bW prog w) dd kvs->kvs.length<=i ->
   (∀h' tk',h'.DictOf (bW prog w) dd ((ps.drop i).foldl (λacc kv=>stored acc kv.1 kv.2) kvs)->(∀b o,b≠it->b≠dd->s.heap.get? b=some o->h'.get? b=some o)->R (.ok (.ret .none)) {s with heap:=h',toks:=tk'}) ->
   codeAny (model prog w) A (.builtin "dict.update.loop" ⟨[.ref dd,.ref it,.int i tk,.none],[]⟩) R s:=by
 have W:=Walks.list (prog:=prog) (w:=w) (A:=A.in1) (by simp[hh]) it l hli its
 intro m
 induction m with
 |zero=>
  intro i s kvs tk hm st ht hd hl hR
  refine codeAny_builtin zBC ?_
  rw[Around.under_plainId qA _]
  unfold Builtin.«dict.update.loop»
  refine wpAny_bind (W.done s _ _ (by rw[ht.1,hm];exact st) λh' tk' k=>?_)
  refine wpAny_bind (wpAny_pure (wpAny_pure ?_))
  have e:ps.drop i=[]:=List.drop_of_length_le (by omega)
  rw[e]at hR
  refine hR h' tk' (sZ hd λo e=>k dd o (by simp[hdi]) e) λb o n1 _ e=>k b o (by simp[n1]) e
 |succ m ih=>
  intro i s kvs tk hm st ht hd hl hR
  have hi:i<ps.length:=by omega
  have hp:ps[i]?=some (ps[i].1,ps[i].2):=List.getElem?_eq_getElem hi
  obtain⟨t,key,e1,htt,hkey⟩:=ht.2 i _ _ hp
  refine codeAny_builtin zBC ?_
  rw[Around.under_plainId qA _]
  unfold Builtin.«dict.update.loop»
  refine wpAny_bind (W.item i s _ _ (by rw[ht.1];exact hi) st λv h' tk' hv st' k=>?_)
  have hv:v=.ref t:=by rw[e1]at hv;exact(Option.some.inj hv).symm
  subst hv
  have nti:∀b o,s.heap.get? b=some o->o.cls=.type "tuple"->b≠it:=λb o e c z=>by
   obtain⟨o',e',c',_⟩:=st.1
   rw[<-z,e]at e'
   cases e'
   rw[c]at c'
   exact absurd c' (by decide)
  have ntd:∀b o,s.heap.get? b=some o->o.cls=.type "tuple"->b≠dd:=λb o e c z=>by
   obtain⟨o',e',c'⟩:=hd.typeIs
   rw[<-z,e]at e'
   cases e'
   rw[c]at c'
   exact absurd c' (by decide)
  obtain⟨ot,et,ct,nt,dt⟩:=htt
  have et':=k t ot (by simp[nti t ot et ct]) et
  have hd':h'.DictOf (bW prog w) dd kvs:=sZ hd λo e=>k dd o (by simp[hdi]) e
  have ty:Shared.TypeIs {s with heap:=h',toks:=tk'} (.ref t) "tuple":=⟨ot,et',ct⟩
  refine wpAny_bind (wpAny_holding ?_)
  refine wpAny_bind (wpAny_tryCatch ?_)
  unfold Builtin.Dict.pairItems
  refine wpAny_bind (wpAny_typeOf ty ?_)
  rw[if_pos (by decide)]
  refine wpAny_bind (wpAny_seqItems et' dt (wpAny_pure ?_))
  refine wpAny_holding (wpAny_dictSet_pairs hkey hd' (λh2 hd2 sb=>?_) (by rw[sizeLine_eq];omega))
  refine wpAny_pure ⟨plainId_quiet qA _,?_⟩
  have l2:=sb.2 l hdl.symm
  refine ih (i+1) _ (stored kvs ps[i].1 ps[i].2) _ (by omega) ?_ ?_ hd2 ?_ λh3 tk3 hd3 k3=>?_
  ·refine W.frame (i+1) h' h2 st' λb hb o e=>?_
   rcases List.mem_cons.mp hb with z|z
   ·rw[z]at e ⊢;exact(sb.2 it hdi.symm).trans e
   ·rw[List.mem_singleton.mp z]at e ⊢;exact l2.trans e
  ·exact ht.keep λb o e c=>(sb.2 b (ntd b o e c)).trans (k b o (by simp[nti b o e c]) e)
  ·unfold stored
   split
   ·rw[List.length_map];omega
   ·rw[List.length_append];show kvs.length+1<=_;omega
  ·refine hR h3 tk3 ?_ λb o n1 n2 e=>k3 b o n1 n2 ((sb.2 b n2).trans (k b o (by simp[n1]) e))
   rw[show ps.drop i=ps[i]::ps.drop (i+1) from List.drop_eq_getElem_cons hi]
   exact hd3
theorem zCF{l:Addr}{its:Array Value}{nl:Nat}{ps:List (Key×Value)}{Q:Value->Shared->Prop}(hh:A.handled=none)(hl:s.heap.get? l=some {cls:=.type "list",data:=.seq its nl})(ht:TupsAt prog w s.heap its ps)(hsz:ps.length<=1000)
  (h:∀h' tk,h'.DictOf (bW prog w) s.heap.objs.size (ps.foldl (λacc kv=>stored acc kv.1 kv.2) [])->(∀b o,s.heap.get? b=some o->h'.get? b=some o)->Q (.ref s.heap.objs.size) {s with heap:=h',toks:=tk}):
  wpAny (model prog w) A (call (.type "dict") [.ref l]) Q E s:=by
 refine callType_codes (Q₁:=λobj s₁=>obj=.ref s.heap.objs.size/\s₁={s with heap:=s.heap.push {cls:=.type "dict",data:=.dict #[]}}) F.kt_called_dict (F.kt_typeCall_dict_1 _) F.entry_dict_init (kt_code_dict_new _ ⟨rfl,rfl⟩) ?_
 rintro obj s₁ ⟨rfl,rfl⟩
 have new:(s.heap.push {cls:=.type "dict",data:=.dict #[]}).DictOf (bW prog w) s.heap.objs.size []:=Heap.DictOf.new s.heap
 have hl1:(s.heap.push {cls:=.type "dict",data:=.dict #[]}).get? l=some {cls:=.type "list",data:=.seq its nl}:=Heap.get?_push_of_some _ hl
 have llt:=Heap.lt_size hl
 refine⟨new.typeIs,F.args_dict_init_2 _ _,?_⟩
 unfold Builtin.«dict.__init__»
 refine wpAny_bind ?_
 unfold Builtin.Dict.selfAndRest
 refine wpAny_bind (wpAny_notOrdered_dict new.typeIs ?_)
 show wpAny _ _ (pure (s.heap.objs.size,[Value.ref l])) _ _ _
 refine wpAny_pure ?_
 show wpAny _ _ (Builtin.Dict.updateFrom "dict.__init__" s.heap.objs.size (.ref l) [] .none) _ _ _
 unfold Builtin.Dict.updateFrom
 refine wpAny_bind (wpAny_typeOf (T:="list") ⟨_,hl1,rfl⟩ ?_)
 rw[if_pos (by decide)]
 refine wpAny_bind (zDo (by simp[hh]) hl1 λh2 tk2 k2=>?_)
 rw[if_pos (by decide)]
 refine wpAny_bind (wpAny_rule ?_)
 have hl2:=k2 _ _ hl1
 have isl:Heap.IsList h2 l its:=⟨_,hl2,rfl,nl,rfl⟩
 refine wpAny_bind (wpAny_pyIter_list isl ?_)
 have sz2:s.heap.objs.size<h2.objs.size:=by
  have:(s.heap.push {cls:=.type "dict",data:=.dict #[]}).get? s.heap.objs.size=some _:=Heap.get?_push_size _ rfl
  exact Heap.lt_size (k2 _ _ this)
 refine wpAny_pure ⟨plainId_quiet qA _,zDb (A:=A.in1) (its:=its) (ps:=ps) (by simp[hh]) (Nat.ne_of_lt (Heap.lt_size hl2)) (Nat.ne_of_lt sz2) (Nat.ne_of_gt llt) hsz ps.length 0 _ [] _ (by simp) ⟨⟨_,Heap.get?_push_size _ rfl,rfl,rfl⟩,isl.push _⟩ ?_ ?_ (Nat.zero_le _) λh3 tk3 hd3 k3=>?_⟩
 ·exact ht.keep λb o e _=>Heap.get?_push_of_some _ (k2 _ _ (Heap.get?_push_of_some _ e))
 ·exact(sZ new λo e=>k2 _ _ e).push _
 ·refine⟨rfl,h h3 tk3 hd3 λb o e=>?_⟩
  have lt:=Heap.lt_size e
  exact k3 b o (Nat.ne_of_lt (Nat.lt_trans lt sz2)) (Nat.ne_of_lt lt) (Heap.get?_push_of_some _ (k2 _ _ (Heap.get?_push_of_some _ e)))
end
section
variable{X:Cx}
theorem zF8:∀{ps:List (Key×V)}{qs:List (Key×Value)}{kvs:List (Key×V)}{vs:List (Key×Value)},KV ps qs->KV kvs vs->KV (gO kvs ps) (qs.foldl (λacc kv=>stored acc kv.1 kv.2) vs):=by
 intro ps qs kvs vs r
 unfold KV at r
 induction r generalizing kvs vs with
 |nil=>intro q;exact q
 |@cons p q ps qs h t ih=>
  intro r0
  refine ih (kvs:=fS kvs p.1 p.2) (vs:=stored vs q.1 q.2) ?_
  rw[<-h.1]
  exact r0.put p.1 h.2
end
end L2
namespace WordM
open PySem
def sigA:Str:=" !\"#$&'()*+,-./0123456789:;<=>?@ABCDEFGHIJKLMNOPQRSTUVWXYZ[\\]^_`"
def sigB:Str:="abcdefghijklmnopqrstuvwxyz{|}~"
def SIG:Str:=sigA++sigB
abbrev cs(x:Str):List Nat:=x.cps.toList
def mH:Str:="0123456789"
def nE:Str:="ABCDEFGHIJKLMNOPQRSTUVWXYZ"
def zGM:Str:=" !\"#$&'()*+,-./:;<=>?\x40[\\]^_`{|}~"
def pV:Str:="abcdefghijklmnopqrstuvwxyz"
def SGN:List (Str×Str):=[("figure",mH),("great",nE),("other",zGM),("small",pV)]
def MK:List Str:=["figure","great","other","small"]
def Sg(x:Str):Prop:=∀c∈cs x,c∈cs SIG
instance (x:Str):Decidable (Sg x):=by unfold Sg;infer_instance
def cN(c:Nat):Str:=if c∈cs mH then "figure" else if c∈cs nE then "great" else if c∈cs pV then "small" else "other"
def gY(x m:Str):Bool:=(cs x).any λc=>decide (c∈cs ((L2.getS SGN m).getD ⟨#[]⟩))
def dQ(x:Str):List Str:=MK.filter λm=>gY x m
theorem app(a b:Str):cs (a++b)=cs a++cs b:=by
 show(a.cps++b.cps).toList=_
 simp
theorem len(a:Str):a.length=(cs a).length:=by simp[Str.length]
theorem Sg.app{a b:Str}(ha:Sg a)(hb:Sg b):Sg (a++b):=λc hc=>by
 rw[WordM.app]at hc
 rcases List.mem_append.mp hc with z|z
 ·exact ha c z
 ·exact hb c z
theorem Sg.one{x:Str}(h:Sg x){c:Nat}(hc:c∈cs x):Sg ⟨#[c]⟩:=λd hd=>by
 have:d=c:=by simpa using hd
 rw[this]
 exact h c hc
theorem zGJ:Sg ⟨#[]⟩:=λc hc=>by simp at hc
theorem slice_mem{x:Str}{l u:Option Int}{c:Nat}(h:c∈cs (Txt.slice x l u)):c∈cs x:=by
 unfold Txt.slice at h
 split at h
 ·exact h
 ·simp only[cs,List.toList_toArray,List.mem_filterMap]at h
  obtain⟨i,_,hi⟩:=h
  obtain⟨hlt,e⟩:=Array.getElem?_eq_some_iff.mp hi
  rw[<-e]
  simp
theorem Sg.slice{x:Str}(h:Sg x)(l u:Option Int):Sg (Txt.slice x l u):=λc hc=>h c (slice_mem hc)
theorem slice_len(x:Str)(l u:Option Int):(Txt.slice x l u).length<=x.length:=Txt.slice_le x l u
theorem kY{a b:Str}(h:cs a=cs b):a=b:=by
 obtain⟨a⟩:=a
 obtain⟨b⟩:=b
 have:a=b:=Array.toList_inj.mp h
 rw[this]
theorem zC7{c:Nat}{r:Str}:Txt.slice ((⟨#[c]⟩:Str)++r) (some 1) none=r:=by
 refine kY ?_
 have hl:(((⟨#[c]⟩:Str)++r).length)=1+r.length:=by rw[len,app,len];simp
 rw[PyProof.Rows.slice_from_eq (b:=((((⟨#[c]⟩:Str)++r).length:Nat):Int)) (by decide) (by omega) rfl]
 show((cs ((⟨#[c]⟩:Str)++r)).drop 1).take _=_
 rw[app]
 show((c::cs r).drop 1).take _=cs r
 rw[List.drop_one,List.tail_cons,List.take_of_length_le]
 rw[hl,len]
 omega
theorem zCO{x:Str}(h:x.length=0):Txt.slice x (some 1) none=x:=by
 have h1:=slice_len x (some 1) none
 refine kY ?_
 have e1:cs (Txt.slice x (some 1) none)=[]:=List.eq_nil_of_length_eq_zero (by rw[<-len];omega)
 have e2:cs x=[]:=List.eq_nil_of_length_eq_zero (by rw[<-len];omega)
 rw[e1,e2]
theorem zAP{c:Nat}(h:c∈cs SIG):∀m∈MK,(c∈cs ((L2.getS SGN m).getD ⟨#[]⟩)↔cN c=m):=by
 revert c
 decide +kernel
theorem mark_in(c:Nat):cN c∈MK:=by
 unfold cN
 split
 ·decide
 ·split
  ·decide
  ·split
   ·decide
   ·decide
theorem marks_all{x:Str}(h:Sg x)(ms:List Str):((dQ x).all λm=>decide (m∈ms))=((cs x).all λc=>decide (cN c∈ms)):=by
 rw[Bool.eq_iff_iff,List.all_eq_true,List.all_eq_true]
 constructor
 ·intro k c hc
  refine k (cN c) ?_
  rw[dQ,List.mem_filter]
  refine⟨mark_in c,?_⟩
  rw[gY,List.any_eq_true]
  exact⟨c,hc,decide_eq_true ((zAP (h c hc) _ (mark_in c)).mpr rfl)⟩
 ·intro k m hm
  rw[dQ,List.mem_filter,gY,List.any_eq_true]at hm
  obtain⟨hm,c,hc,hd⟩:=hm
  rw[<-(zAP (h c hc) m hm).mp (of_decide_eq_true hd)]
  exact k c hc
theorem tV:SIG.length=94:=by decide +kernel
theorem zDz:(cs SIG).Nodup:=by decide +kernel
theorem zC8(x:Str):(Txt.slice x (some 1) none).length+1<=(if x.length<1 then 1 else x.length):=by
 by_cases h:x.length=0
 ·rw[zCO h,if_pos (by omega)]
  omega
 ·rw[if_neg (by omega)]
  rw[PyProof.Rows.slice_from_eq (b:=(x.length:Int)) (by decide) (by omega) rfl]
  show(((cs x).drop 1).take _).toArray.size+1<=_
  rw[List.size_toArray,List.length_take,List.length_drop,<-len]
  omega
theorem nodup_len{α:Type}[DecidableEq α]:∀{l m:List α},l.Nodup->(∀x∈l,x∈m)->l.length<=m.length
 |[],m,_,_=>Nat.zero_le _
 |x::l,m,hn,hs=>by
  have hx:=hs x List.mem_cons_self
  have h2:=List.nodup_cons.mp hn
  have ih:=nodup_len (l:=l) (m:=m.erase x) h2.2 λy hy=>by
   have hne:y≠x:=λe=>h2.1 (e▸hy)
   exact(List.mem_erase_of_ne hne).mpr (hs y (List.mem_cons_of_mem _ hy))
  rw[List.length_erase_of_mem hx]at ih
  have:0<m.length:=List.length_pos_of_mem hx
  rw[List.length_cons]
  omega
def fI(a:Int):Nat:=(cs SIG).getD (a % 94).toNat 0
theorem zDA(a:Int):fI a∈cs SIG:=by
 have hl:(a % 94).toNat<(cs SIG).length:=by
  rw[<-len,tV]
  have:=Int.emod_lt_of_pos a (show(0:Int)<94 by decide)
  have:=Int.emod_nonneg a (show(94:Int)≠0 by decide)
  omega
 unfold fI
 rw[List.getD_eq_getElem?_getD,List.getElem?_eq_getElem hl]
 exact List.getElem_mem hl
theorem zDB{a b:Int}(h:fI a=fI b):a % 94=b % 94:=by
 have b1:=Int.emod_lt_of_pos a (show(0:Int)<94 by decide)
 have b2:=Int.emod_nonneg a (show(94:Int)≠0 by decide)
 have b3:=Int.emod_lt_of_pos b (show(0:Int)<94 by decide)
 have b4:=Int.emod_nonneg b (show(94:Int)≠0 by decide)
 have hl:(cs SIG).length=94:=by rw[<-len];exact tV
 unfold fI at h
 rw[List.getD_eq_getElem?_getD,List.getD_eq_getElem?_getD,List.getElem?_eq_getElem (by omega),List.getElem?_eq_getElem (by omega)]at h
 have h:(cs SIG)[(a % 94).toNat]=(cs SIG)[(b % 94).toNat]:=h
 have hp:=List.pairwise_iff_getElem.mp zDz
 rcases Nat.lt_trichotomy (a % 94).toNat (b % 94).toNat with z|z|z
 ·exact absurd h (hp _ _ (by omega) (by omega) z)
 ·omega
 ·exact absurd h.symm (hp _ _ (by omega) (by omega) z)
def fK(a:Int)(r:Str)(i:Nat):Str:=(⟨#[fI (a+i)]⟩:Str)++r
theorem zEs{a:Int}{r:Str}{i j:Nat}(hi:i<90)(hj:j<90)(h:fK a r i=fK a r j):i=j:=by
 have h1:cs (fK a r i)=cs (fK a r j):=by rw[h]
 unfold fK at h1
 rw[app,app]at h1
 have h2:fI (a+i)=fI (a+j):=by
  have:=List.cons.inj h1
  exact this.1
 have:=zDB h2
 omega
theorem zEt{a:Int}{r:Str}{ss:List Str}{j:Nat}(hj:j<80)(h:∀i,1<=i->i<=j->fK a r i∈ss):j<=ss.length:=by
 have:=nodup_len (l:=(List.range j).map λi=>fK a r (i+1)) (m:=ss) (by
  unfold List.Nodup
  rw[List.pairwise_map]
  refine List.Pairwise.imp_of_mem (λ{x y} hx hy hlt e=>?_) List.pairwise_lt_range
  have hx:=List.mem_range.mp hx
  have hy:=List.mem_range.mp hy
  have:=zEs (by omega) (by omega) e
  omega) (λx hx=>by
  obtain⟨i,hi,rfl⟩:=List.mem_map.mp hx
  have:=List.mem_range.mp hi
  exact h (i+1) (by omega) (by omega))
 simpa using this
end WordM
namespace L2
open PySem PySem.Spec PyProof.Rows WordM
section
variable{α β:Type}{F G:α->β->Prop}
theorem eQ:∀{xs:List α}{ys:List β}{i:Nat}{x:α},Paired F xs ys->xs[i]?=some x->∃y,ys[i]?=some y/\F x y
 |_,_,_,_,.nil,e=>by simp at e
 |_,_,0,_,.cons r _,e=>by simp at e;subst e;exact⟨_,rfl,r⟩
 |_,_,i+1,x,.cons _ t,e=>by
  obtain⟨u,h1,h2⟩:=eQ (i:=i) (x:=x) t (by simpa using e)
  exact⟨u,by simpa using h1,h2⟩
end
inductive Tv where
 |leaf (v:V)
 |seq (t:Bool) (xs:List Tv)
 |dct (kts:List (Str×Tv))
def VT(S:Bool->Addr->List V->Prop)(D:Addr->List (Key×V)->Prop):Nat->V->Tv->Prop
 |0,_,_=>False
 |d+1,x,T=>(dB x=true/\T=.leaf x)\/(∃t a xs Ts,x=.ref a/\S t a xs/\T=.seq t Ts/\Ts.length<=100000/\Paired (VT S D d) xs Ts) \/
   ∃a kvs kts,x=.ref a/\D a kvs/\T=.dct kts/\(kts.map (·.1)).Nodup/\kts.length<64/\Paired (λ(kv:Key×V) (kt:Str×Tv)=>kv.1=.inr kt.1/\VT S D d kv.2 kt.2) kvs kts
section
variable{S S':Bool->Addr->List V->Prop}{D D':Addr->List (Key×V)->Prop}
theorem VT.mono(hs:∀t a xs,S t a xs->S' t a xs)(hd:∀a kvs,D a kvs->D' a kvs):∀{d:Nat}{x:V}{T:Tv},VT S D d x T->VT S' D' d x T
 |0,_,_,h=>False.elim h
 |d+1,x,T,h=>by
  rcases h with h|⟨t,a,xs,Ts,h1,h2,h3,hz,h4⟩|⟨a,kvs,kts,h1,h2,h3,h4,h5,h6⟩
  ·exact .inl h
  ·exact .inr (.inl ⟨t,a,xs,Ts,h1,hs _ _ _ h2,h3,hz,Paired.mapP h4 λ_ _ q=>VT.mono hs hd q⟩)
  ·exact .inr (.inr ⟨a,kvs,kts,h1,hd _ _ h2,h3,h4,h5,Paired.mapP h6 λ_ _ q=>⟨q.1,VT.mono hs hd q.2⟩⟩)
theorem VT.more:∀{d:Nat}{x:V}{T:Tv},VT S D d x T->VT S D (d+1) x T
 |0,_,_,h=>False.elim h
 |d+1,x,T,h=>by
  rcases h with h|⟨t,a,xs,Ts,h1,h2,h3,hz,h4⟩|⟨a,kvs,kts,h1,h2,h3,h4,h5,h6⟩
  ·exact .inl h
  ·exact .inr (.inl ⟨t,a,xs,Ts,h1,h2,h3,hz,Paired.mapP h4 λ_ _ q=>VT.more q⟩)
  ·exact .inr (.inr ⟨a,kvs,kts,h1,h2,h3,h4,h5,Paired.mapP h6 λ_ _ q=>⟨q.1,VT.more q.2⟩⟩)
theorem VT.le{d e:Nat}(h:d<=e){x:V}{T:Tv}(q:VT S D d x T):VT S D e x T:=by
 obtain⟨k,rfl⟩:=Nat.le.dest h
 clear h
 induction k with
 |zero=>exact q
 |succ k ih=>exact VT.more ih
end
def HDct(H:Hp)(a:Addr)(kvs:List (Key×V)):Prop:=∃ob,FzD H a ob kvs
section
variable{K:W.Frag}{H H':Hp}{d:Nat}{x:V}{T:Tv}
theorem HDct.hs(e:HS H H'){a:Addr}{kvs:List (Key×V)}(h:HDct H a kvs):HDct H' a kvs:=by
 obtain⟨ob,h⟩:=h
 exact⟨ob,e _ _ rfl h⟩
end
theorem zC9:∀(p:Str) (l:List Str),risingS p l=true->∀x∈l,(cs x<cs p)->False:=by
 intro p l
 induction l generalizing p with
 |nil=>intro _ x hx;simp at hx
 |cons y l ih=>
  intro h x hx hlt
  have h:(!PySem.Spec.ltCps y.cps.toList p.cps.toList&&risingS y l)=true:=h
  rw[Bool.and_eq_true]at h
  have hy:¬ (cs y<cs p):=by
   have:=h.1
   rw[ltCps_eq]at this
   simpa using this
  rcases List.mem_cons.mp hx with z|z
  ·subst z;exact hy hlt
  ·have hxy:¬ (cs x<cs y):=λq=>ih y h.2 x z q
   have h1:cs p<=cs y:=List.not_lt.mp hy
   have h2:cs y<=cs x:=List.not_lt.mp hxy
   exact absurd hlt (List.not_lt.mpr (List.le_trans h1 h2))
theorem oW:∀(l:List Str),sortedS l=true->l.Pairwise λa b=>cs a<=cs b
 |[],_=>.nil
 |x::l,h=>by
  have h:risingS x l=true:=h
  refine .cons (λy hy=>List.not_lt.mp λz=>zC9 x l h y hy z) (oW l ?_)
  cases l with
  |nil=>rfl
  |cons y l=>
   have h:(!PySem.Spec.ltCps y.cps.toList x.cps.toList&&risingS y l)=true:=h
   rw[Bool.and_eq_true]at h
   exact h.2
open Classical in
noncomputable def bU(us:List Str):List Str:=if h:∃ss:List Str,ss.Perm us/\sortedS ss=true then h.choose else us
theorem fY(us:List Str):(bU us).Perm us:=by
 unfold bU
 split
 ·rename_i h;exact h.choose_spec.1
 ·exact .refl _
theorem kP{us ss:List Str}(h1:ss.Perm us)(h2:sortedS ss=true):ss=bU us:=by
 have ex:∃ss:List Str,ss.Perm us/\sortedS ss=true:=⟨ss,h1,h2⟩
 have e:bU us=ex.choose:=by unfold bU;rw[dif_pos ex]
 rw[e]
 exact List.Perm.eq_of_pairwise (λa b _ _ h1 h2=>kY (List.le_antisymm h1 h2)) (oW _ h2) (oW _ ex.choose_spec.2) (h1.trans ex.choose_spec.1.symm)
def fQ(kts:List (Str×Tv))(k:Str):Option Tv:=(kts.find? λkt=>decide (kt.1=k)).map (·.2)
section
variable{S:Bool->Addr->List V->Prop}{D:Addr->List (Key×V)->Prop}{d:Nat}
theorem uK{kvs:List (Key×V)}{kts:List (Str×Tv)}{R:V->Tv->Prop}(h:Paired (λ(kv:Key×V) (kt:Str×Tv)=>kv.1=.inr kt.1/\R kv.2 kt.2) kvs kts)(k:Str):
  (fQ kts k=none/\dM kvs (.inr k)=none)\/∃U v,fQ kts k=some U/\dM kvs (.inr k)=some v/\R v U:=by
 induction h with
 |nil=>exact .inl ⟨rfl,rfl⟩
 |@cons kv kt l1 l2 h _ ih=>
  obtain⟨e,r⟩:=h
  by_cases z:kt.1=k
  ·refine .inr ⟨kt.2,kv.2,?_,pI (by rw[e,z]),r⟩
   unfold fQ
   rw[List.find?_cons,decide_eq_true z]
   rfl
  ·have e2:fQ (kt::l2) k=fQ l2 k:=by
    unfold fQ
    rw[List.find?_cons,decide_eq_false z]
   have e3:dM (kv::l1) (.inr k)=dM l1 (.inr k):=pJ (by rw[e];exact λq=>z (Sum.inr.inj q))
   rw[e2,e3]
   exact ih
end
theorem SqT.hs{K:W.Frag}{H H':Hp}{a:Addr}{xs:List V}(e:HS H H')(h:SqT K H a xs):SqT K H' a xs:=by
 rcases h with (h|⟨o,h⟩)|h
 ·exact .inl (.inl (e _ _ rfl h))
 ·exact .inl (.inr ⟨o,e _ _ rfl h⟩)
 ·exact .inr h
theorem sK{α β:Type}{F:α->β->Prop}{a c:List α}{b d:List β}(h1:Paired F a b)(h2:Paired F c d):Paired F (a++c) (b++d):=by
 induction h1 with
 |nil=>exact h2
 |cons r _ ih=>exact .cons r ih
end L2
namespace L2
open PySem PySem.Spec PyProof.Rows
abbrev oK:Hp:=λ_=>none
def Thaw(H H3 H4:Hp):Prop:=∀b,(∃o ob,fzb o=true/\H b=some o/\H3 b=some (.frz ob o)/\H4 b=some o)\/((¬ ∃o ob,fzb o=true/\H b=some o/\H3 b=some (.frz ob o))/\H4 b=H3 b)
theorem zAv(H H3:Hp):∃H4,Thaw H H3 H4:=by
 classical
 refine⟨λb=>if h:∃o ob,fzb o=true/\H b=some o/\H3 b=some (.frz ob o) then some h.choose else H3 b,λb=>?_⟩
 by_cases h:∃o ob,fzb o=true/\H b=some o/\H3 b=some (.frz ob o)
 ·obtain⟨ob,h1,h2,h3⟩:=h.choose_spec
  exact .inl ⟨h.choose,ob,h1,h2,h3,by dsimp only;rw[dif_pos h]⟩
 ·exact .inr ⟨h,by dsimp only;rw[dif_neg h]⟩
theorem zA{P:Program}{w:World}{H:Hp}{h:Heap}(hok:HOk P w H h):∃H2,FrozenA oK H H2/\HOk P w H2 h:=by
 let H2:Hp:=λb=>match H b with
  |none=>none
  |some o=>match fzb o with
   |false=>some o
   |true=>match h.get? b with
    |some ob=>some (.frz ob o)
    |none=>some o
 have new:∀b o ob,H b=some o->fzb o=true->h.get? b=some ob->H2 b=some (.frz ob o):=λb o ob h1 n e=>by
  show(match H b with|none=>none|some o=>_)=_
  rw[h1]
  dsimp only
  rw[n,e]
 have rest:∀b,(∀o,H b=some o->fzb o=false)->H2 b=H b:=λb hn=>by
  show(match H b with|none=>none|some o=>_)=_
  cases e:H b with
  |none=>rfl
  |some o=>
   dsimp only
   rw[hn o e]
 have fro:FrozenA oK H H2:=λb=>by
  cases h1:H b with
  |none=>exact .inr ⟨(λ⟨_,_,_,z⟩=>by cases z),by rw[rest b (λo z=>by rw[h1]at z;cases z),h1]⟩
  |some o=>
   cases n:fzb o with
   |true=>
    obtain⟨ob,e⟩:=(hok b o h1).there
    exact .inl ⟨rfl,o,ob,n,rfl,new b o ob h1 n e⟩
   |false=>exact .inr ⟨(λ⟨_,o',n',z⟩=>by cases z;rw[n]at n';exact absurd n' Bool.false_ne_true),by rw[rest b (λo' z=>by rw[h1]at z;cases z;exact n),h1]⟩
 refine⟨H2,fro,λb o e=>?_⟩
 have st:∀o,ObjOk P w H h b o->ObjOk P w H2 h b o:=λo x=>x.stay (λ_ _ _ r=>r) (λd r=>fro.keep r rfl) λd xs r=>fro.keep r rfl
 rcases fro b with⟨hn,o',ob,n,z,z'⟩|⟨_,z'⟩
 ·obtain⟨ob2,e2⟩:=(hok b o' z).there
  have q2:=new b o' ob2 z n e2
  rw[e]at q2
  cases q2
  exact⟨e2,st _ (hok b _ z)⟩
 ·rw[z']at e
  exact st o (hok b o e)
section
variable{H H2 H3 H4:Hp}{b:Addr}{o:HO}
theorem Thaw.same(f:FrozenA oK H H2)(s:Same H2 H3)(t:Thaw H H3 H4):Same H H4:=λb o e=>by
 cases n:fzb o with
 |true=>
  obtain⟨ob,e2⟩:=f.fz (b:=b) rfl e n
  have e3:=s b _ e2
  rcases t b with⟨u,ob',_,z,_,z'⟩|⟨z,_⟩
  ·rw[e]at z;cases z;exact z'
  ·exact absurd ⟨o,ob,n,e,e3⟩ z
 |false=>
  have e3:=s b _ (f.keep e n)
  rcases t b with⟨u,ob',n',z,_⟩|⟨_,z⟩
  ·rw[e]at z;cases z;rw[n]at n';exact absurd n' Bool.false_ne_true
  ·rw[z];exact e3
end
theorem sV:∀{ps kvs:List (Key×V)},((kvs++ps).map (·.1)).Nodup->gO kvs ps=kvs++ps
 |[],kvs,_=>by show kvs=kvs++[];rw[List.append_nil]
 |p::ps,kvs,h=>by
  have hv:dM kvs p.1=none:=by
   cases e:dM kvs p.1 with
   |none=>rfl
   |some v=>
    have:=zFf e
    rw[List.map_append,List.nodup_append]at h
    exact absurd rfl (h.2.2 p.1 this p.1 (by simp))
  show gO (fS kvs p.1 p.2) ps=_
  rw[zEz p.2 hv,sV (by simpa using h),List.append_assoc]
  rfl
end L2
namespace L2
open PySem PySem.Spec PyProof.Rows
def ItE(K:W.Frag)(a:Addr):It:=
  ⟨λi H=>∃xs x,SqL K H a xs/\xs[i]?=some x,
   λi H v H'=>∃p x,v=.ref p/\H p=none/\H'=upd H p (.tup [.int (i:Int),x])/\∀xs,SqL K H a xs->xs[i]?=some x,
   λi H=>∃xs,SqL K H a xs/\xs.length<=i⟩
theorem zDu{P:Program}{w:World}{K:W.Frag}{es:List Expr}{ek:Nat}{pos:Pos}(a e it:Addr)(hei:e≠it)(hae:a≠e)(hai:a≠it):
  fW P w K (.Tuple es ek pos) (ItE K a) [e,it] e (λi h=>(∃old,IsEnum h e it (i:Int) old)/\h.IsListIter it a i) where
 mem:=by simp
 obj:=λi h st b hb=>by
  obtain⟨⟨old,st⟩,j⟩:=st
  rcases List.mem_cons.mp hb with rfl|hb
  ·exact⟨_,st,λv z=>by
    have z':Data.fields _=Data.cell v:=z
    cases z'⟩
  ·have q:b=it:=by simpa using hb
   subst q
   obtain⟨o,e',c,d⟩:=j
   exact⟨o,e',λv z=>by rw[d]at z;cases z⟩
 keep:=λi h h' ⟨⟨old,st⟩,j⟩ k=>⟨⟨old,k e (by simp) _ st⟩,j.at λo e'=>k it (by simp) o e'⟩
 item:=by
  intro X hP hw hK hc i pins s σ H E I hf st hg
  subst hP hw hK
  obtain⟨xs,x,hx,hi⟩:=hg
  obtain⟨⟨old,st⟩,j⟩:=st
  obtain⟨its,r,pl,hz⟩:=I.list hx
  obtain⟨u,hu,ru⟩:=r.get hi
  refine wpAny_pyNext_enum_item st j pl.isList (x:=u) (by simpa using hu) hei λh' a1 a2 a3 a4 a5=>⟨_,rfl,?_⟩
  refine wpAny_letOwnedTupleGo_enum (s:={s with heap:=h',toks:=s.toks+1}) a1 λh2 b1 b2=>?_
  have hne:e≠s.heap.objs.size:=Nat.ne_of_lt (Heap.lt_size st)
  have hni:it≠s.heap.objs.size:=by obtain⟨o,e',_⟩:=id j;exact Nat.ne_of_lt (Heap.lt_size e')
  have hn:∀c∈[e,it],c≠s.heap.objs.size:=λc hc'=>by
   simp only[List.mem_cons,List.not_mem_nil,or_false]at hc'
   rcases hc' with q|q
   ·rw[q];exact hne
   ·rw[q];exact hni
  have I0:Inv X pins σ (upd H s.heap.objs.size (.tup [.int (i:Int),x])) {s with heap:=s.heap.push {cls:=.type "tuple",data:=.seq #[.int (i:Int) s.toks,u]}}:=
   I.laid (t':=s.toks) (λc o e=>Heap.get?_push_of_some _ e) (Nat.le_refl _) ⟨by show 2<=sizeLine;decide,[.int (i:Int) s.toks,u],.cons ⟨_,rfl⟩ (.cons ru .nil),IsTup.new _ _⟩
  have hf0:∀c∈[e,it],dD X pins (upd H s.heap.objs.size (.tup [.int (i:Int),x])) c:=λc hc'=>⟨by rw[bI (hn c hc')];exact(hf c hc').1,(hf c hc').2⟩
  have I1:Inv X pins σ (upd H s.heap.objs.size (.tup [.int (i:Int),x])) {s with heap:=h2,toks:=s.toks+1}:=Inv.turnedL (s:={s with heap:=s.heap.push {cls:=.type "tuple",data:=.seq #[.int (i:Int) s.toks,u]}}) (t':=s.toks+1) (ch:=[e,it]) I0 hf0 λc o hc' e'=>by
   simp only[List.mem_cons,List.not_mem_nil,or_false,not_or]at hc'
   obtain⟨c1,c2⟩:=hc'
   by_cases hcn:c=s.heap.objs.size
   ·subst hcn
    have e'':(s.heap.push {cls:=.type "tuple",data:=.seq #[.int (i:Int) s.toks,u]}).get? s.heap.objs.size=some o:=e'
    rw[Heap.get?_push_size _ rfl]at e''
    cases e''
    exact b2.extBut _ _ c1 a3
   ·refine b2.extBut _ _ c1 (a5 c o c1 c2 ?_)
    have e'':(s.heap.push {cls:=.type "tuple",data:=.seq #[.int (i:Int) s.toks,u]}).get? c=some o:=e'
    rw[Heap.get?_push_ne _ _ _ hcn]at e''
    exact e''
  refine⟨.ref s.heap.objs.size,_,I1,rfl,⟨_,x,rfl,I.hok.fresh (Nat.le_refl _),rfl,λxs' h=>by rw[I.list_inj h hx];exact hi⟩,⟨⟨u,by have:=b1;push_cast;exact this⟩,a2.at λo e'=>b2.extBut _ _ (Ne.symm hei) e'⟩,λc hc'=>(hf0 c hc').1⟩
 done:=by
  intro X hP hw hK hc i pins s σ H E I hf st hg
  subst hP hw hK
  obtain⟨xs,hx,hi⟩:=hg
  obtain⟨⟨old,st⟩,j⟩:=st
  obtain⟨its,r,pl,hz⟩:=I.list hx
  have la:=r.length
  refine wpAny_pyNext_enum_end (I.ok.hd hc) st j pl.isList (by simp;omega) λh' eb=>⟨rfl,I.turnedL (t':=s.toks) hf λc o hc' e'=>?_⟩
  simp only[List.mem_cons,List.not_mem_nil,or_false,not_or]at hc'
  exact eb c o hc'.2 e'
 self:=λ_ _ _ _ _ ⟨⟨_,st⟩,_⟩ h=>wpAny_pyIter_enum st h
theorem zCt:bootBuiltins "enumerate"=some (.type "enumerate"):=by decide +kernel
section
variable{X:Cx}
def zIL(K:W.Frag)(ta:TA):TI:=λσ H R=>ta σ H λvs H1=>∃a:Addr,vs=[.ref a]/\(∃xs,SqL K H1 a xs)/\R (ItE K a) H1
theorem zFE{a:Expr}{ta:TA}{es:List Expr}{ek:Nat}{p pos pos':Pos}(hg:Gl X "enumerate")(hm:X.mg "enumerate"=none)(ha:PA X [a] ta)(hs:starEach [a] X.env=[(false,eval a X.env)]:=by rfl):
  PI X (.Tuple es ek pos') (.Call (.Name "enumerate" p) [a] [] pos) (zIL X.K ta):=by
 intro pins s σ H R I h
 refine Call_ (lW I hg hm zCt (PyProof.Rows.callWith_type1 (thn (ha pos pins s σ H _ I h) λus s1 ⟨vs,H1,I1,r1,q1⟩=>?_) (by rw[hs];rfl) (by rfl)))
 obtain⟨a,e,⟨xs,hx⟩,q⟩:=q1
 subst e
 obtain⟨u,rfl,rx⟩:=cX r1
 cases rx
 obtain⟨its,r,pl,hz⟩:=I1.list hx
 have la:a<s1.heap.objs.size:=by obtain⟨o,e,_⟩:=pl.isList;exact Heap.lt_size e
 refine call_enumerate_list pl.isList λh' e1 e2 _ k=>?_
 refine wpAny_pyIter_enum e1 ?_
 refine⟨_,[s1.heap.objs.size+1,s1.heap.objs.size],_,_,H1,rfl,I1.kept (t':=s1.toks) k,zDu a _ _ (by intro (e:(_:Nat)=_);omega) (Nat.ne_of_lt (Nat.lt_succ_of_lt la)) (Nat.ne_of_lt la),⟨⟨_,e1⟩,e2⟩,λc hc=>?_,q⟩
 have:s1.heap.objs.size<=c:=by
  simp only[List.mem_cons,List.not_mem_nil,or_false]at hc
  rcases hc with e|e<;>(rw[e];first|exact Nat.le_refl _|exact Nat.le_add_right _ _)
 exact I1.fpOk this (I1.hok.fresh this)
end
end L2
namespace L2
open PySem PySem.Spec PyProof.Rows WordM
def PSeq(K:W.Frag)(H:Hp)(t:Bool)(a:Addr)(xs:List V):Prop:=match t with
 |false=>∃ob,H a=some (.frz ob (.lst xs))
 |true=>SqT K H a xs
abbrev VP(K:W.Frag)(H:Hp):Nat->V->Tv->Prop:=VT (PSeq K H) (HDct H)
def VA(K:W.Frag)(H:Hp)(x:V)(T:Tv):Prop:=∃d,VP K H d x T
abbrev VAs(K:W.Frag)(H:Hp):List V->List Tv->Prop:=Paired (VA K H)
def VAk(K:W.Frag)(H:Hp):List (Key×V)->List (Str×Tv)->Prop:=Paired λ(kv:Key×V) (kt:Str×Tv)=>kv.1=.inr kt.1/\VA K H kv.2 kt.2
section
variable{K:W.Frag}{H H' H1 H2:Hp}{x y v:V}{T U:Tv}{a:Addr}{xs:List V}{Ts:List Tv}{t:Bool}{kvs:List (Key×V)}{kts:List (Str×Tv)}
theorem PSeq.hs(e:HS H H')(h:PSeq K H t a xs):PSeq K H' t a xs:=by
 cases t with
 |false=>obtain⟨ob,h⟩:=h;exact⟨ob,e _ _ rfl h⟩
 |true=>exact SqT.hs e h
theorem VA.hs(e:HS H H')(h:VA K H x T):VA K H' x T:=by
 obtain⟨d,h⟩:=h
 exact⟨d,h.mono (λ_ _ _ q=>q.hs e) λ_ _ q=>q.hs e⟩
theorem VAs.hs(e:HS H H')(h:VAs K H xs Ts):VAs K H' xs Ts:=Paired.mapP h λ_ _ q=>q.hs e
theorem VAk.hs(e:HS H H')(h:VAk K H kvs kts):VAk K H' kvs kts:=Paired.mapP h λ_ _ q=>⟨q.1,q.2.hs e⟩
theorem VAs.deep(h:VAs K H xs Ts):∃d,Paired (VP K H d) xs Ts:=by
 induction h with
 |nil=>exact⟨0,.nil⟩
 |cons r _ ih=>
  obtain⟨d,r⟩:=r
  obtain⟨e,ih⟩:=ih
  exact⟨max d e,.cons (r.le (Nat.le_max_left _ _)) (Paired.mapP ih λ_ _ q=>VT.le (Nat.le_max_right _ _) q)⟩
theorem VAk.deep(h:VAk K H kvs kts):∃d,Paired (λ(kv:Key×V) (kt:Str×Tv)=>kv.1=.inr kt.1/\VP K H d kv.2 kt.2) kvs kts:=by
 unfold VAk at h
 induction h with
 |nil=>exact⟨0,.nil⟩
 |cons r _ ih=>
  obtain⟨k,d,r⟩:=r
  obtain⟨e,ih⟩:=ih
  exact⟨max d e,.cons ⟨k,r.le (Nat.le_max_left _ _)⟩ (Paired.mapP ih λ_ _ q=>⟨q.1,VT.le (Nat.le_max_right _ _) q.2⟩)⟩
theorem VA.flat(h:dB x=true):VA K H x (.leaf x):=⟨1,.inl ⟨h,rfl⟩⟩
theorem VA.seq(h:PSeq K H t a xs)(z:Ts.length<=100000)(p:VAs K H xs Ts):VA K H (.ref a) (.seq t Ts):=by
 obtain⟨d,p⟩:=p.deep
 exact⟨d+1,.inr (.inl ⟨t,a,xs,Ts,rfl,h,rfl,z,p⟩)⟩
theorem VA.dct(h:HDct H a kvs)(n:(kts.map (·.1)).Nodup)(z:kts.length<64)(p:VAk K H kvs kts):VA K H (.ref a) (.dct kts):=by
 obtain⟨d,p⟩:=p.deep
 exact⟨d+1,.inr (.inr ⟨a,kvs,kts,rfl,h,rfl,n,z,p⟩)⟩
theorem VA.leafI(h:VA K H x (.leaf v)):x=v/\dB v=true:=by
 obtain⟨d,h⟩:=h
 cases d with
 |zero=>exact False.elim h
 |succ d=>
  rcases h with⟨f,e⟩|⟨_,_,_,_,_,_,e,_⟩|⟨_,_,_,_,_,e,_⟩
  ·cases e;exact⟨rfl,f⟩
  ·cases e
  ·cases e
theorem VA.seqI(h:VA K H x (.seq t Ts)):∃a xs,x=.ref a/\PSeq K H t a xs/\Ts.length<=100000/\VAs K H xs Ts:=by
 obtain⟨d,h⟩:=h
 cases d with
 |zero=>exact False.elim h
 |succ d=>
  rcases h with⟨_,e⟩|⟨t',a,xs,Ts',e1,hs,e,z,p⟩|⟨_,_,_,_,_,e,_⟩
  ·cases e
  ·cases e;exact⟨a,xs,e1,hs,z,Paired.mapP p λ_ _ q=>⟨d,q⟩⟩
  ·cases e
theorem VA.dctI(h:VA K H x (.dct kts)):∃a kvs,x=.ref a/\HDct H a kvs/\(kts.map (·.1)).Nodup/\kts.length<64/\VAk K H kvs kts:=by
 obtain⟨d,h⟩:=h
 cases d with
 |zero=>exact False.elim h
 |succ d=>
  rcases h with⟨_,e⟩|⟨_,_,_,_,_,_,e,_⟩|⟨a,kvs,kts',e1,hd,e,n,z,p⟩
  ·cases e
  ·cases e
  ·cases e;exact⟨a,kvs,e1,hd,n,z,Paired.mapP p λ_ _ q=>⟨q.1,d,q.2⟩⟩
end
inductive Sl where
 |no
 |va (T:Tv)
 |own (xs:List Tv)
 |dct (kts:List (Str×Tv))
 |dk
abbrev aR:=List Sl
def eE:Sl->Bool
 |.own _=>true
 |.dct _=>true
 |_=>false
structure Fm where
 H0:Hp
 dk:Option (Addr×Addr)
structure Kp (dk:Option (Addr×Addr)) (H H':Hp):Prop where
 st:∀b o,H b=some o->(∀p c,dk=some (p,c)->b≠p/\b≠c)->H' b=some o
 dkk:∀p c,dk=some (p,c)->DeckAt H' p c
theorem Kp.tr{dk:Option (Addr×Addr)}{H H':Hp}(k:Kp dk H H')(b:Addr)(o:HO)(e:H b=some o):∃o',H' b=some o':=by
 cases d:dk with
 |none=>exact⟨o,k.st b o e λp c z=>by rw[d]at z;cases z⟩
 |some pc=>
  obtain⟨p,c⟩:=pc
  obtain⟨_,⟨S,i,e1⟩,ns,e2,_⟩:=k.dkk p c d
  by_cases h1:b=p
  ·subst h1;exact⟨_,e1⟩
  ·by_cases h2:b=c
   ·subst h2;exact⟨_,e2⟩
   ·exact⟨o,k.st b o e λp' c' z=>by rw[d]at z;cases z;exact⟨h1,h2⟩⟩
def xA(K:W.Frag)(F:Fm)(H:Hp)(ox:Option V):Sl->Prop
 |.no=>True
 |.va T=>∃x,ox=some x/\VA K H x T
 |.own Ts=>∃a xs,ox=some (.ref a)/\H a=some (.lst xs)/\F.H0 a=none/\Ts.length<=100000/\VAs K H xs Ts
 |.dct kts=>∃a kvs,ox=some (.ref a)/\H a=some (.dK kvs)/\F.H0 a=none/\(kts.map (·.1)).Nodup/\kts.length<64/\VAk K H kvs kts
 |.dk=>∃p c,F.dk=some (p,c)/\ox=some (.ref p)
def ixv(σ:St)(i:Nat):Option V:=(σ[i]?).join
structure FrOk (K:W.Frag) (F:Fm) (ρ:aR) (σ:St) (H:Hp):Prop where
 d0:∀p c,F.dk=some (p,c)->DeckAt F.H0 p c
 kp:Kp F.dk F.H0 H
 len:ρ.length=σ.length
 at_:∀(i:Nat) (s:Sl),ρ[i]?=some s->xA K F H (ixv σ i) s
 ap:∀(i j:Nat) (a:Addr) (s t:Sl),ρ[i]?=some s->ρ[j]?=some t->eE s=true->eE t=true->ixv σ i=some (.ref a)->ixv σ j=some (.ref a)->i=j
def Stay(F:Fm)(ρ:aR)(σ:St)(H H':Hp):Prop:=∀b o,H b=some o->(∀p c,F.dk=some (p,c)->b≠p/\b≠c)->(∀(i:Nat) (s:Sl),ρ[i]?=some s->eE s=true->ixv σ i≠some (.ref b))->H' b=some o
def Sbv(ρ' ρ:aR):Prop:=∀(i:Nat) (s':Sl),ρ'[i]?=some s'->eE s'=true->∃s,ρ[i]?=some s/\eE s=true
structure Stp (K:W.Frag) (F:Fm) (σ:St) (ρ:aR) (H:Hp) (ρ':aR) (H':Hp):Prop where
 fr:FrOk K F ρ' σ H'
 st:Stay F ρ σ H H'
 sub:Sbv ρ' ρ
 tr:∀b o,H b=some o->∃o',H' b=some o'
section
variable{K:W.Frag}{F:Fm}{ρ ρ1 ρ2:aR}{σ:St}{H H' H1 H2:Hp}{x y v:V}{T U:Tv}{a b:Addr}{o:HO}
theorem Sbv.refl(ρ:aR):Sbv ρ ρ:=λi s e m=>⟨s,e,m⟩
theorem Sbv.trans(h1:Sbv ρ1 ρ)(h2:Sbv ρ2 ρ1):Sbv ρ2 ρ:=λi s e m=>by
 obtain⟨s1,e1,m1⟩:=h2 i s e m
 exact h1 i s1 e1 m1
theorem FrOk.own_at(fr:FrOk K F ρ σ H){i:Nat}{s:Sl}(e:ρ[i]?=some s)(m:eE s=true)(q:ixv σ i=some (.ref a)):(∃o,H a=some o/\fzb o=true)/\F.H0 a=none:=by
 have h:=fr.at_ i s e
 cases s with
 |own Ts=>obtain⟨a',xs,e1,e2,e3,_⟩:=h;rw[q]at e1;cases e1;exact⟨⟨_,e2,rfl⟩,e3⟩
 |dct kts=>obtain⟨a',xs,e1,e2,e3,_⟩:=h;rw[q]at e1;cases e1;exact⟨⟨_,e2,rfl⟩,e3⟩
 |no=>cases m
 |va _=>cases m
 |dk=>cases m
theorem FrOk.fresh_nodk(fr:FrOk K F ρ σ H)(h:F.H0 a=none):∀p c,F.dk=some (p,c)->a≠p/\a≠c:=λp c e=>by
 obtain⟨_,⟨S,k,e1⟩,ns,e2,_⟩:=fr.d0 p c e
 exact⟨λz=>(by rw[z,e1]at h;cases h),λz=>(by rw[z,e2]at h;cases h)⟩
theorem FrOk.none_nodk(fr:FrOk K F ρ σ H)(h:H a=none):∀p c,F.dk=some (p,c)->a≠p/\a≠c:=λp c e=>by
 obtain⟨_,⟨S,k,e1⟩,ns,e2,_⟩:=fr.kp.dkk p c e
 exact⟨λz=>(by rw[z,e1]at h;cases h),λz=>(by rw[z,e2]at h;cases h)⟩
theorem FrOk.none0(fr:FrOk K F ρ σ H)(h:H a=none):F.H0 a=none:=by
 cases q:F.H0 a with
 |none=>rfl
 |some o=>rw[fr.kp.st a o q (fr.none_nodk h)]at h;cases h
theorem Stay.hs(fr:FrOk K F ρ σ H)(s:Stay F ρ σ H H'):HS H H':=λb o h e=>s b o e
 (λp c d=>by
  obtain⟨_,⟨S,k,e1⟩,ns,e2,_⟩:=fr.kp.dkk p c d
  exact⟨λz=>(by subst z;rw[e1]at e;cases e;cases h),λz=>(by subst z;rw[e2]at e;cases e;cases h)⟩)
 λi s e1 m q=>by
  obtain⟨⟨o',e2,n⟩,_⟩:=fr.own_at e1 m q
  rw[e]at e2;cases e2
  cases o<;>first|exact absurd h Bool.false_ne_true|exact absurd n Bool.false_ne_true
theorem Stay.trans(s1:Stay F ρ σ H H1)(sb:Sbv ρ1 ρ)(s2:Stay F ρ1 σ H1 H2):Stay F ρ σ H H2:=λb o e d n=>
 s2 b o (s1 b o e d n) d λi s e1 m=>by
  obtain⟨s',e2,m'⟩:=sb i s e1 m
  exact n i s' e2 m'
theorem Stp.trans(a:Stp K F σ ρ H ρ1 H1)(b:Stp K F σ ρ1 H1 ρ2 H2):Stp K F σ ρ H ρ2 H2:=⟨b.fr,a.st.trans a.sub b.st,a.sub.trans b.sub,λc o e=>let ⟨o1,e1⟩:=a.tr c o e;b.tr c o1 e1⟩
theorem Stp.refl(fr:FrOk K F ρ σ H):Stp K F σ ρ H ρ H:=⟨fr,λ_ _ e _ _=>e,Sbv.refl _,λ_ o e=>⟨o,e⟩⟩
theorem Stp.hs(a:Stp K F σ ρ H ρ1 H1)(fr:FrOk K F ρ σ H):HS H H1:=a.st.hs fr
theorem FrOk.call(fr:FrOk K F ρ σ H)(k:Kp F.dk H H'):FrOk K F ρ σ H':=by
 have own:∀i s a o,ρ[i]?=some s->eE s=true->ixv σ i=some (.ref a)->H a=some o->H' a=some o:=λi s a o e m q h=>
  k.st a o h (fr.fresh_nodk (fr.own_at e m q).2)
 have hs:HS H H':=λb o h e=>k.st b o e λp c d=>by
  obtain⟨_,⟨S,k,e1⟩,ns,e2,_⟩:=fr.kp.dkk p c d
  exact⟨λz=>(by subst z;rw[e1]at e;cases e;cases h),λz=>(by subst z;rw[e2]at e;cases e;cases h)⟩
 refine⟨fr.d0,⟨λb o e n=>k.st b o (fr.kp.st b o e n) n,k.dkk⟩,fr.len,λi s e=>?_,fr.ap⟩
 have h:=fr.at_ i s e
 cases s with
 |no=>trivial
 |va T=>obtain⟨x,e1,v⟩:=h;exact⟨x,e1,v.hs hs⟩
 |own Ts=>obtain⟨a,xs,e1,e2,e3,z,p⟩:=h;exact⟨a,xs,e1,own i _ a _ e rfl e1 e2,e3,z,p.hs hs⟩
 |dct kts=>obtain⟨a,kvs,e1,e2,e3,n,z,p⟩:=h;exact⟨a,kvs,e1,own i _ a _ e rfl e1 e2,e3,n,z,p.hs hs⟩
 |dk=>exact h
theorem Kp.of_same(fr:FrOk K F ρ σ H)(s:Same H H'):Kp F.dk H H':=⟨λb o e _=>s b o e,λp c d=>by
 obtain⟨ne,⟨S,k,e1⟩,ns,e2,l⟩:=fr.kp.dkk p c d
 exact⟨ne,⟨S,k,s _ _ e1⟩,ns,s _ _ e2,l⟩⟩
theorem Stp.call(fr:FrOk K F ρ σ H)(k:Kp F.dk H H'):Stp K F σ ρ H ρ H':=⟨fr.call k,λb o e d _=>k.st b o e d,Sbv.refl _,λb o e=>k.tr b o e⟩
theorem Stp.same(fr:FrOk K F ρ σ H)(s:Same H H'):Stp K F σ ρ H ρ H':=Stp.call fr (Kp.of_same fr s)
end
theorem Stp.non{K:W.Frag}{F:Fm}{ρ ρ1:aR}{σ:St}{H H1:Hp}{a:Addr}(s:Stp K F σ ρ H ρ1 H1)(n:H1 a=none):H a=none:=by
 cases e:H a with
 |none=>rfl
 |some o=>
  obtain⟨o',e'⟩:=s.tr a o e
  rw[n]at e';cases e'
abbrev UT:=aR->(Tv->aR->Prop)->Prop
abbrev UTt:=aR->(Bool->aR->Prop)->Prop
abbrev UTl:=aR->(List Tv->aR->Prop)->Prop
inductive Ar where
 |va (T:Tv)
 |dk
abbrev UTa:=aR->(List Ar->aR->Prop)->Prop
def sA(K:W.Frag)(dk:Option (Addr×Addr))(H:Hp)(x:V):Ar->Prop
 |.va T=>VA K H x T
 |.dk=>∃p c,dk=some (p,c)/\x=.ref p
def dX(K:W.Frag)(F:Fm)(u:UT):TE:=λσ H QQ=>∃ρ Q,FrOk K F ρ σ H/\u ρ Q/\∀x T H' ρ',Stp K F σ ρ H ρ' H'->VA K H' x T->Q T ρ'->QQ x H'
def qN(K:W.Frag)(F:Fm)(u:UTt):TT:=λσ H QQ=>∃ρ Q,FrOk K F ρ σ H/\u ρ Q/\∀b H' ρ',Stp K F σ ρ H ρ' H'->Q b ρ'->QQ b H'
def qO(K:W.Frag)(F:Fm)(u:UTl):TE:=λσ H QQ=>∃ρ Q,FrOk K F ρ σ H/\u ρ Q/\∀a xs Ts H' ρ',Stp K F σ ρ H ρ' H'->H a=none->H' a=some (.lst xs)->Ts.length<=100000->VAs K H' xs Ts->Q Ts ρ'->QQ (.ref a) H'
def qP(K:W.Frag)(F:Fm)(u:UTa):TA:=λσ H QQ=>∃ρ Q,FrOk K F ρ σ H/\u ρ Q/\∀xs as H' ρ',Stp K F σ ρ H ρ' H'->Paired (sA K F.dk H') xs as->Q as ρ'->QQ xs H'
structure UE (X:Cx) (F:Fm) (e:Expr) (u:UT):Prop where
 pe:PE X e (dX X.K F u)
structure UB (X:Cx) (F:Fm) (e:Expr) (u:UTt):Prop where
 pt:PT X e (qN X.K F u)
structure UW (X:Cx) (F:Fm) (e:Expr) (u:UTt):Prop where
 pw:PW X e (qN X.K F u)
structure UL (X:Cx) (F:Fm) (e:Expr) (u:UTl):Prop where
 pe:PE X e (qO X.K F u)
structure UA (X:Cx) (F:Fm) (es:List Expr) (u:UTa):Prop where
 pa:PA X es (qP X.K F u)
theorem PE.imp{X:Cx}{e:Expr}{t t':TE}(h:PE X e t)(i:∀σ H Q,t' σ H Q->t σ H Q):PE X e t':=λpins s σ H Q I q=>h pins s σ H Q I (i σ H Q q)
theorem PT.imp{X:Cx}{e:Expr}{t t':TT}(h:PT X e t)(i:∀σ H Q,t' σ H Q->t σ H Q):PT X e t':=λpins s σ H Q I q=>h pins s σ H Q I (i σ H Q q)
theorem PW.imp{X:Cx}{e:Expr}{t t':TT}(h:PW X e t)(i:∀σ H Q,t' σ H Q->t σ H Q):PW X e t':=λwh pins s σ H Q I q=>h wh pins s σ H Q I (i σ H Q q)
theorem PA.imp{X:Cx}{es:List Expr}{t t':TA}(h:PA X es t)(i:∀σ H Q,t' σ H Q->t σ H Q):PA X es t':=λpos pins s σ H Q I q=>h pos pins s σ H Q I (i σ H Q q)
theorem Inv.fz{X:Cx}{pins:List (Addr×Obj)}{σ:St}{H:Hp}{s:Shared}{a:Addr}{o:HO}(I:Inv X pins σ H s)(h:H a=some o)(n:fzb o=true):∃ob,Inv X pins σ (upd H a (.frz ob o)) s:=by
 obtain⟨ob,eo⟩:=(I.hok a o h).there
 refine⟨ob,?_⟩
 have keep:∀b u,H b=some u->fzb u=false->upd H a (.frz ob o) b=some u:=λb u e m=>by
  rw[bI (λz=>by subst z;rw[h]at e;cases e;rw[n]at m;cases m)];exact e
 have non:∀b,H b=none->upd H a (.frz ob o) b=none:=λb e=>by
  rw[bI (λz=>by subst z;rw[h]at e;cases e)];exact e
 refine⟨I.ok,I.os,I.bare,⟨I.base.keep,I.base.slot,λb o e n hx=>non b (I.base.free b o e n hx),I.base.there,λb xs e=>keep b _ (I.base.tups b xs e) rfl,λb o u e=>keep b _ (I.base.frzs b o u e) rfl,λb ps e=>?_⟩,I.loc,I.cell,non _ I.free,λx c e=>non c (I.freeC x c e),λp hp=>?_,λb u e=>?_,I.len⟩
 ·obtain⟨more,z⟩:=I.base.tbls b ps e
  exact⟨more,keep b _ z rfl⟩
 ·obtain⟨p1,p2,p3⟩:=I.pin p hp
  exact⟨p1,non _ p2,p3⟩
 ·have st:∀b u,ObjOk X.prog X.w H s.heap b u->ObjOk X.prog X.w (upd H a (.frz ob o)) s.heap b u:=λb u x=>x.stay (λ_ _ _ r=>r) (λd r=>keep d _ r rfl) λd xs r=>keep d _ r rfl
  by_cases z:b=a
  ·subst z
   rw[bF]at e
   cases e
   exact⟨eo,st _ _ (I.hok b o h)⟩
  ·rw[bI z]at e
   exact st _ _ (I.hok b u e)
def FzQ(Q:VK):VK:=λz H=>Q z H\/∃a o,z=.ref a/\H a=some o/\fzb o=true/\∀ob,Q z (upd H a (.frz ob o))
def tFz(t:TE):TE:=λσ H Q=>t σ H (FzQ Q)
theorem EP.fz{X:Cx}{pins:List (Addr×Obj)}{σ:St}{Q:VK}{u:Value}{s:Shared}(h:EP X pins σ (FzQ Q) u s):EP X pins σ Q u s:=by
 obtain⟨x,H',I,r,q⟩:=h
 rcases q with q|⟨a,o,rfl,e,n,q⟩
 ·exact⟨x,H',I,r,q⟩
 ·obtain⟨ob,I'⟩:=I.fz e n
  exact⟨_,_,I',r,q ob⟩
theorem PE.fz{X:Cx}{e:Expr}{t:TE}(h:PE X e t):PE X e (tFz t):=λpins s σ H Q I q=>thn (h pins s σ H _ I q) λ_ _ z=>z.fz
def Raw(K:W.Frag)(H H':Hp)(z:V)(W:Tv):Prop:=Same H H'/\(VA K H' z W\/∃a,z=.ref a/\H a=none /\
 ((∃xs Ts,H' a=some (.lst xs)/\W=.seq false Ts/\Ts.length<=100000/\VAs K H' xs Ts)\/∃kvs kts,H' a=some (.dK kvs)/\W=.dct kts/\(kts.map (·.1)).Nodup/\kts.length<64/\VAk K H' kvs kts))
section
variable{K:W.Frag}{F:Fm}{ρ ρ1 ρ2:aR}{σ:St}{H H' H1 H2:Hp}{x y v z:V}{T U W:Tv}{a b:Addr}{o:HO}
theorem Raw.va(v:VA K H z W):Raw K H H z W:=⟨Same.refl _,.inl v⟩
theorem Raw.flat(h:dB z=true):Raw K H H z (.leaf z):=.va (.flat h)
theorem Raw.lst{xs:List V}{Ts:List Tv}(n:H a=none)(z:Ts.length<=100000)(p:VAs K H xs Ts):Raw K H (upd H a (.lst xs)) (.ref a) (.seq false Ts):=
 ⟨cI n,.inr ⟨a,rfl,n,.inl ⟨xs,Ts,bF,rfl,z,p.hs (gD n)⟩⟩⟩
theorem Raw.tup{xs:List V}{Ts:List Tv}(n:H a=none)(z:Ts.length<=100000)(p:VAs K H xs Ts):Raw K H (upd H a (.tup xs)) (.ref a) (.seq true Ts):=
 ⟨cI n,.inl (VA.seq (t:=true) (SqT.of bF) z (p.hs (gD n)))⟩
theorem Stp.frz(fr:FrOk K F ρ σ H)(s:Same H H')(n:H a=none)(e:H' a=some o)(m:fzb o=true)(ob:Obj):Stp K F σ ρ H ρ (upd H' a (.frz ob o)):=
 Stp.same fr λb u q=>by rw[bI (dH q n)];exact s b u q
theorem Raw.fin(fr:FrOk K F ρ σ H)(r:Raw K H H' z W){QQ:VK}(k:∀H'',Stp K F σ ρ H ρ H''->VA K H'' z W->QQ z H''):FzQ QQ z H':=by
 obtain⟨s,v|⟨a,rfl,n,⟨xs,Ts,e,rfl,l,p⟩|⟨kvs,kts,e,rfl,nd,l,p⟩⟩⟩:=r
 ·exact .inl (k H' (Stp.same fr s) v)
 ·refine .inr ⟨a,_,rfl,e,rfl,λob=>k _ (Stp.frz fr s n e rfl ob) (VA.seq (t:=false) ⟨ob,bF⟩ l (p.hs (fN e rfl)))⟩
 ·refine .inr ⟨a,_,rfl,e,rfl,λob=>k _ (Stp.frz fr s n e rfl ob) (VA.dct ⟨ob,bF⟩ nd l (p.hs (fN e rfl)))⟩
end
end L2
namespace L2
open PySem PySem.Spec PyProof.Rows WordM
abbrev iT(i:Int):Tv:=.leaf (.int i)
abbrev sT(x:Str):Tv:=.leaf (.str x)
abbrev bT(b:Bool):Tv:=.leaf (.bl b)
abbrev nT:Tv:=.leaf .non
abbrev P1:=Tv->(Tv->Prop)->Prop
abbrev P2:=Tv->Tv->(Tv->Prop)->Prop
abbrev Pn:=List Tv->(Tv->Prop)->Prop
section
variable{X:Cx}{F:Fm}
def cF(i:Nat):UT:=λρ Q=>match ρ[i]? with
 |some (.va T)=>Q T ρ
 |some (.own Ts)=>Q (.seq false Ts) (ρ.set i (.va (.seq false Ts)))
 |some (.dct kts)=>Q (.dct kts) (ρ.set i (.va (.dct kts)))
 |_=>False
theorem kQ{σ:St}{i:Nat}{x:V}(h:ixv σ i=some x):σ[i]?=some (some x):=by
 unfold ixv at h
 cases q:σ[i]? with
 |none=>rw[q]at h;cases h
 |some o=>rw[q]at h;cases o with
  |none=>cases h
  |some y=>cases h;rfl
theorem zHA{σ:St}{i:Nat}{x:V}(h:σ[i]?=some (some x)):ixv σ i=some x:=by
 unfold ixv;rw[h];rfl
theorem FrOk.fzs{K:W.Frag}{ρ:aR}{σ:St}{H:Hp}{i:Nat}{s:Sl}{a:Addr}{o:HO}{T:Tv}(fr:FrOk K F ρ σ H)(e:ρ[i]?=some s)(m:eE s=true)(q:ixv σ i=some (.ref a))(h:H a=some o)(n:fzb o=true)(ob:Obj)
  (v:VA K (upd H a (.frz ob o)) (.ref a) T):Stp K F σ ρ H (ρ.set i (.va T)) (upd H a (.frz ob o)):=by
 have hi:i<ρ.length:=(List.getElem?_eq_some_iff.mp e).1
 have h0:=(fr.own_at e m q).2
 have hd:=fr.fresh_nodk h0
 have hs:HS H (upd H a (.frz ob o)):=fN h (by cases o<;>first|rfl|exact absurd n Bool.false_ne_true)
 have st:∀b u,b≠a->H b=some u->upd H a (.frz ob o) b=some u:=λb u z e=>by rw[bI z];exact e
 refine⟨⟨fr.d0,⟨λb u e1 n1=>st b u (λz=>by rw[z,h0]at e1;cases e1) (fr.kp.st b u e1 n1),λp c d=>?_⟩,by rw[List.length_set];exact fr.len,λj s' e'=>?_,λj k b s' t' e1 e2 m1 m2 q1 q2=>?_⟩,λb u e1 _ n1=>st b u (λz=>n1 i s e m (by rw[z];exact q)) e1,λj s' e' m'=>?_,λb u e1=>if z:b=a then⟨.frz ob o,z▸bF⟩ else⟨u,st b u z e1⟩⟩
 ·obtain⟨ne,⟨S,k,e1⟩,ns,e2,l⟩:=fr.kp.dkk p c d
  exact⟨ne,⟨S,k,st _ _ (hd p c d).1.symm e1⟩,ns,st _ _ (hd p c d).2.symm e2,l⟩
 ·by_cases z:i=j
  ·subst z
   rw[List.getElem?_set_self hi]at e'
   cases e'
   exact⟨_,q,v⟩
  ·rw[List.getElem?_set_ne z]at e'
   have x:=fr.at_ j s' e'
   cases s' with
   |no=>trivial
   |va T=>obtain⟨y,e1,v⟩:=x;exact⟨y,e1,v.hs hs⟩
   |own Ts=>obtain⟨b,xs,e1,e2,e3,z',p⟩:=x;exact⟨b,xs,e1,st _ _ (λy=>z (fr.ap i j a s _ e e' m rfl q (by rw[e1,y]))) e2,e3,z',p.hs hs⟩
   |dct kts=>obtain⟨b,kvs,e1,e2,e3,n',z',p⟩:=x;exact⟨b,kvs,e1,st _ _ (λy=>z (fr.ap i j a s _ e e' m rfl q (by rw[e1,y]))) e2,e3,n',z',p.hs hs⟩
   |dk=>exact x
 ·by_cases z1:i=j
  ·subst z1;rw[List.getElem?_set_self hi]at e1;cases e1;cases m1
  ·by_cases z2:i=k
   ·subst z2;rw[List.getElem?_set_self hi]at e2;cases e2;cases m2
   ·rw[List.getElem?_set_ne z1]at e1
    rw[List.getElem?_set_ne z2]at e2
    exact fr.ap j k b s' t' e1 e2 m1 m2 q1 q2
 ·by_cases z:i=j
  ·subst z;rw[List.getElem?_set_self hi]at e';cases e';cases m'
  ·rw[List.getElem?_set_ne z]at e';exact⟨s',e',m'⟩
theorem aA(i:Nat){x:Str}{pos:Pos}(hN:X.N[i]?=some x:=by rfl)(hv:Vis X.env.scope x:=by first|exact Or.inl rfl|exact Or.inr (Or.inl rfl)|exact Or.inr (Or.inr rfl))(hd:(x==("__debug__":Str))=false:=by decide)(hcd:(x==("__classdict__":Str))=false:=by decide):
  UE X F (.Name x pos) (cF i):=by
 refine⟨PE.imp (PE.fz (nL hN hv hd hcd)) ?_⟩
 rintro σ H QQ ⟨ρ,Q,fr,h,k⟩
 unfold cF at h
 split at h
 ·rename_i T e
  obtain⟨y,e1,v⟩:=fr.at_ i _ e
  exact⟨y,kQ e1,.inl (k y T H ρ (Stp.refl fr) v h)⟩
 ·rename_i Ts e
  obtain⟨a,xs,e1,e2,e3,z,p⟩:=fr.at_ i _ e
  refine⟨_,kQ e1,.inr ⟨a,_,rfl,e2,rfl,λob=>?_⟩⟩
  have v:VA X.K (upd H a (.frz ob (.lst xs))) (.ref a) (.seq false Ts):=VA.seq (t:=false) ⟨ob,bF⟩ z (p.hs (fN e2 rfl))
  exact k _ _ _ _ (fr.fzs e rfl e1 e2 rfl ob v) v h
 ·rename_i kts e
  obtain⟨a,kvs,e1,e2,e3,n,z,p⟩:=fr.at_ i _ e
  refine⟨_,kQ e1,.inr ⟨a,_,rfl,e2,rfl,λob=>?_⟩⟩
  have v:VA X.K (upd H a (.frz ob (.dK kvs))) (.ref a) (.dct kts):=VA.dct ⟨ob,bF⟩ n z (p.hs (fN e2 rfl))
  exact k _ _ _ _ (fr.fzs e rfl e1 e2 rfl ob v) v h
 ·exact False.elim h
def uC(T:Tv):UT:=λρ Q=>Q T ρ
theorem qU{e:Expr}{v:V}(h:PE X e (tC v))(f:dB v=true):UE X F e (uC (.leaf v)):=⟨PE.imp h λσ H QQ ⟨ρ,Q,fr,h,k⟩=>k v (.leaf v) H ρ (Stp.refl fr) (.flat f) h⟩
theorem aD{i j pos}:UE X F (.Constant (.int i) j pos) (uC (iT i)):=qU cC rfl
theorem eZ{b j pos}:UE X F (.Constant (.bool b) j pos) (uC (bT b)):=qU zIw rfl
theorem cZ{j pos}:UE X F (.Constant .none j pos) (uC nT):=qU zHc rfl
theorem aU{x j pos}:UE X F (.Constant (.str x) j pos) (uC (sT x)):=qU zBn rfl
theorem zFh{x:Str}{v:V}{u:Value}{T:Tv}{pos:Pos}(hg:Gl X x)(hm:X.mg x=some u)(r:RelV v u)(hv:∀H,VA X.K H v T)(hd:(x==("__debug__":Str))=false:=by decide):UE X F (.Name x pos) (uC T):=
 ⟨PE.imp (zAK hg hm r hd) λσ H QQ ⟨ρ,Q,fr,h,k⟩=>k v T H ρ (Stp.refl fr) (hv H) h⟩
def rW(K:W.Frag)(r:P2)(r':R2):Prop:=∀x y T U H Q (QQ:VK),VA K H x T->VA K H y U->r T U Q->(∀z W H',Raw K H H' z W->Q W->QQ z H')->r' x y H QQ
def fF(X:Cx)(f:Value->Value->Sem Value)(r:P2):Prop:=∃r',OpR X f r'/\rW X.K r r'
def uOp(r:P2)(ua ub:UT):UT:=λρ Q=>ua ρ λa ρ1=>ub ρ1 λb ρ2=>r a b λc=>Q c ρ2
theorem uM{r:P2}{r':R2}{ua ub:UT}(hr:rW X.K r r')(σ:St)(H:Hp)(QQ:VK)(h:dX X.K F (uOp r ua ub) σ H QQ):tFz (tOp r' (dX X.K F ua) (dX X.K F ub)) σ H QQ:=by
 obtain⟨ρ,Q,fr,h,k⟩:=h
 refine⟨ρ,_,fr,h,λx T H1 ρ1 s1 v1 q1=>⟨ρ1,_,s1.fr,q1,λy U H2 ρ2 s2 v2 q2=>?_⟩⟩
 refine hr x y T U H2 _ _ (v1.hs (s2.hs s1.fr)) v2 q2 λz W H' rw q=>rw.fin s2.fr λH'' s3 v3=>k _ _ _ _ ((s1.trans s2).trans s3) v3 q
variable{a b c:Expr}{ua ub uc:UT}{pos:Pos}
theorem aY{op:Operator}{r:P2}(ho:fF X (binaryOp op) r)(ha:UE X F a ua)(hb:UE X F b ub):UE X F (.BinOp a op b pos) (uOp r ua ub):=by
 obtain⟨r',o,hr⟩:=ho
 exact⟨PE.imp (PE.fz (cH o ha.pe hb.pe)) (uM hr)⟩
theorem zGt{op:CmpOp}{r:P2}(ho:fF X (compareOp op) r)(ha:UE X F a ua)(hb:UE X F b ub)(hm:behindInMarks op b=false):UE X F (.Compare a [op] [b] pos) (uOp r ua ub):=by
 obtain⟨r',o,hr⟩:=ho
 exact⟨PE.imp (PE.fz (zFK o ha.pe hb.pe hm)) (uM hr)⟩
def uB(u:UT):UTt:=λρ Q=>u ρ λT ρ'=>∃b,T=bT b/\Q b ρ'
theorem zBJ{e:Expr}{t:TE}{u:UT}(h:PT X e (vK t))(i:∀σ H QQ,dX X.K F u σ H QQ->t σ H QQ):UB X F e (uB u):=⟨PT.imp h λσ H QQ ⟨ρ,Q,fr,h,k⟩=>by
 refine i σ H _ ⟨ρ,_,fr,h,λx T H' ρ' s v q=>?_⟩
 obtain⟨b,rfl,q⟩:=q
 obtain⟨e,_⟩:=v.leafI
 exact⟨b,e,k b H' ρ' s q⟩⟩
def PuR2f(K:W.Frag)(r:P2)(r':R2):Prop:=∀x y T U H Q (QQ:VK),VA K H x T->VA K H y U->r T U Q->(∀z W H',Same H H'->VA K H' z W->Q W->QQ z H')->r' x y H QQ
def PuCmp(X:Cx)(f:Value->Value->Sem Value)(r:P2):Prop:=∃r',OpR X f r'/\PuR2f X.K r r'
theorem PuR2f.raw{K:W.Frag}{r:P2}{r':R2}(h:PuR2f K r r'):rW K r r':=λx y T U H Q QQ vx vy q k=>h x y T U H Q QQ vx vy q λz W H' s v q'=>k z W H' ⟨s,.inl v⟩ q'
theorem PuCmp.op{f:Value->Value->Sem Value}{r:P2}(h:PuCmp X f r):fF X f r:=by
 obtain⟨r',o,h⟩:=h
 exact⟨r',o,h.raw⟩
theorem zEU{r:P2}{r':R2}{ua ub:UT}(hr:PuR2f X.K r r')(σ:St)(H:Hp)(QQ:VK)(h:dX X.K F (uOp r ua ub) σ H QQ):tOp r' (dX X.K F ua) (dX X.K F ub) σ H QQ:=by
 obtain⟨ρ,Q,fr,h,k⟩:=h
 refine⟨ρ,_,fr,h,λx T H1 ρ1 s1 v1 q1=>⟨ρ1,_,s1.fr,q1,λy U H2 ρ2 s2 v2 q2=>?_⟩⟩
 exact hr x y T U H2 _ _ (v1.hs (s2.hs s1.fr)) v2 q2 λz W H' s v q=>k _ _ _ _ ((s1.trans s2).trans (Stp.same s2.fr s)) v q
theorem uX{op:CmpOp}{r:P2}(ho:PuCmp X (compareOp op) r)(ha:UE X F a ua)(hb:UE X F b ub)(hm:behindInMarks op b=false):UB X F (.Compare a [op] [b] pos) (uB (uOp r ua ub)):=by
 obtain⟨r',o,hr⟩:=ho
 exact zBJ (tX o ha.pe hb.pe hm) (zEU hr)
def uZ(r r':P2)(ua ub uc:UT):UT:=λρ Q=>ua ρ λa ρ1=>ub ρ1 λb ρ2=>r a b λz=>∃k,z=bT k/\(if k=true then uc ρ2 λc ρ3=>r' b c λw=>Q w ρ3 else Q (bT false) ρ2)
theorem yF{r r':P2}{s s':R2}(hr:PuR2f X.K r s)(hr':PuR2f X.K r' s')(σ:St)(H:Hp)(QQ:VK)(h:dX X.K F (uZ r r' ua ub uc) σ H QQ):vA s s' (dX X.K F ua) (dX X.K F ub) (dX X.K F uc) σ H QQ:=by
 obtain⟨ρ,Q,fr,h,k⟩:=h
 refine⟨ρ,_,fr,h,λx T H1 ρ1 s1 v1 q1=>⟨ρ1,_,s1.fr,q1,λy U H2 ρ2 s2 v2 q2=>?_⟩⟩
 refine hr x y T U H2 _ _ (v1.hs (s2.hs s1.fr)) v2 q2 λz W H3 ss v3 q3=>?_
 obtain⟨b,rfl,q3⟩:=q3
 obtain⟨e,_⟩:=v3.leafI
 have s3:=Stp.same s2.fr ss
 refine⟨b,e,?_⟩
 cases b with
 |false=>
  rw[if_neg Bool.false_ne_true]at q3 ⊢
  exact k _ _ _ _ ((s1.trans s2).trans s3) (.flat rfl) q3
 |true=>
  rw[if_pos rfl]at q3 ⊢
  refine⟨ρ2,_,s3.fr,q3,λz' W' H4 ρ4 s4 v4 q4=>?_⟩
  exact hr' y z' U W' H4 _ _ ((v2.hs (s3.hs s2.fr)).hs (s4.hs s3.fr)) v4 q4 λz5 W5 H5 s5 v5 q5=>k _ _ _ _ (((s1.trans s2).trans s3).trans (s4.trans (Stp.same s4.fr s5))) v5 q5
theorem zEp{op op':CmpOp}{r r':P2}(ho:PuCmp X (compareOp op) r)(ho':PuCmp X (compareOp op') r')(ha:UE X F a ua)(hb:UE X F b ub)(hc:UE X F c uc)(hm:lastMarks [op,op'] [b,c]=false:=by with_unfolding_all rfl):
  UE X F (.Compare a [op,op'] [b,c] pos) (uZ r r' ua ub uc):=by
 obtain⟨s,o,hr⟩:=ho
 obtain⟨s',o',hr'⟩:=ho'
 exact⟨PE.imp (zEK o o' ha.pe hb.pe hc.pe hm) (yF hr hr')⟩
theorem tG{op op':CmpOp}{r r':P2}(ho:PuCmp X (compareOp op) r)(ho':PuCmp X (compareOp op') r')(ha:UE X F a ua)(hb:UE X F b ub)(hc:UE X F c uc)(hm:lastMarks [op,op'] [b,c]=false:=by with_unfolding_all rfl):
  UB X F (.Compare a [op,op'] [b,c] pos) (uB (uZ r r' ua ub uc)):=by
 obtain⟨s,o,hr⟩:=ho
 obtain⟨s',o',hr'⟩:=ho'
 exact zBJ (zEA o o' ha.pe hb.pe hc.pe hm) (yF hr hr')
def zCk(X:Cx)(f:Value->Sem Value)(r:P1):Prop:=∃r',UnR X f r'/\∀x T H Q (QQ:VK),VA X.K H x T->r T Q->(∀z W,VA X.K H z W->Q W->QQ z H)->r' x H QQ
def uUn(r:P1)(ua:UT):UT:=λρ Q=>ua ρ λa ρ1=>r a λc=>Q c ρ1
theorem zBH{op:UnaryOp}{r:P1}(ho:zCk X (unaryOp op) r)(ha:UE X F a ua):UE X F (.UnaryOp op a pos) (uUn r ua):=by
 obtain⟨r',o,hr⟩:=ho
 refine⟨PE.imp (zBM o ha.pe) ?_⟩
 rintro σ H QQ ⟨ρ,Q,fr,h,k⟩
 exact⟨ρ,_,fr,h,λx T H1 ρ1 s1 v1 q1=>hr x T H1 _ _ v1 q1 λz W v q=>k _ _ _ _ s1 v q⟩
def zCc:P1
 |.leaf (.int i),Q=>Q (iT (-i))
 |_,_=>False
theorem zBl:zCk X (unaryOp .USub) zCc:=⟨_,zBb,λx T H Q QQ v h k=>by
 unfold zCc at h
 split at h
 ·obtain⟨rfl,_⟩:=v.leafI
  exact⟨_,rfl,k _ _ (.flat rfl) h⟩
 ·exact False.elim h⟩
def zH4(ua ub:UT):UT:=λρ Q=>ua ρ λa ρ1=>∃c,a=bT c/\if c=true then ub ρ1 Q else Q (bT false) ρ1
def zI2(ua ub:UT):UT:=λρ Q=>ua ρ λa ρ1=>∃c,a=bT c/\if c=true then Q (bT true) ρ1 else ub ρ1 Q
theorem lG{op}{u:UT}(h:UE X F a u):UE X F (.BoolOp op [a] pos) u:=⟨zHb h.pe⟩
theorem lI{rest:List Expr}(ha:UE X F a ua)(hb:UE X F (.BoolOp .And (b::rest) pos) ub):UE X F (.BoolOp .And (a::b::rest) pos) (zH4 ua ub):=⟨PE.imp (zHf ha.pe hb.pe) λσ H QQ ⟨ρ,Q,fr,h,k⟩=>by
 refine⟨ρ,_,fr,h,λx T H1 ρ1 s1 v1 q1=>?_⟩
 obtain⟨c,rfl,q1⟩:=q1
 obtain⟨e,_⟩:=v1.leafI
 refine⟨c,e,?_⟩
 cases c with
 |false=>rw[if_neg Bool.false_ne_true]at q1 ⊢;exact k _ _ _ _ s1 (.flat rfl) q1
 |true=>rw[if_pos rfl]at q1 ⊢;exact⟨ρ1,_,s1.fr,q1,λy U H2 ρ2 s2 v2 q2=>k _ _ _ _ (s1.trans s2) v2 q2⟩⟩
theorem zHX{rest:List Expr}(ha:UE X F a ua)(hb:UE X F (.BoolOp .Or (b::rest) pos) ub):UE X F (.BoolOp .Or (a::b::rest) pos) (zI2 ua ub):=⟨PE.imp (zIu ha.pe hb.pe) λσ H QQ ⟨ρ,Q,fr,h,k⟩=>by
 refine⟨ρ,_,fr,h,λx T H1 ρ1 s1 v1 q1=>?_⟩
 obtain⟨c,rfl,q1⟩:=q1
 obtain⟨e,_⟩:=v1.leafI
 refine⟨c,e,?_⟩
 cases c with
 |true=>rw[if_pos rfl]at q1 ⊢;exact k _ _ _ _ s1 (.flat rfl) q1
 |false=>rw[if_neg Bool.false_ne_true]at q1 ⊢;exact⟨ρ1,_,s1.fr,q1,λy U H2 ρ2 s2 v2 q2=>k _ _ _ _ (s1.trans s2) v2 q2⟩⟩
def zI5(t u:UTt):UTt:=λρ Q=>t ρ λc ρ1=>if c=true then u ρ1 Q else Q false ρ1
def uOr(t u:UTt):UTt:=λρ Q=>t ρ λc ρ1=>if c=true then Q true ρ1 else u ρ1 Q
def zI3(t:UTt):UTt:=λρ Q=>t ρ λc ρ1=>Q (!c) ρ1
variable{ta tb:UTt}{rest:List Expr}
theorem kW(ha:UB X F a ta):UW X F (.BoolOp .And [a] pos) ta:=⟨zFx ha.pt⟩
theorem gA(ha:UB X F a ta):UW X F (.BoolOp .Or [a] pos) ta:=⟨zGU ha.pt⟩
theorem lE(ha:UB X F a ta)(hb:UW X F (.BoolOp .And (b::rest) pos) tb):UW X F (.BoolOp .And (a::b::rest) pos) (zI5 ta tb):=⟨PW.imp (zGV ha.pt hb.pw) λσ H QQ ⟨ρ,Q,fr,h,k⟩=>by
 refine⟨ρ,_,fr,h,λc H1 ρ1 s1 q1=>?_⟩
 cases c with
 |false=>rw[if_neg Bool.false_ne_true]at q1 ⊢;exact k _ _ _ s1 q1
 |true=>rw[if_pos rfl]at q1 ⊢;exact⟨ρ1,_,s1.fr,q1,λy H2 ρ2 s2 q2=>k _ _ _ (s1.trans s2) q2⟩⟩
theorem fO(ha:UB X F a ta)(hb:UW X F (.BoolOp .Or (b::rest) pos) tb):UW X F (.BoolOp .Or (a::b::rest) pos) (uOr ta tb):=⟨PW.imp (zIq ha.pt hb.pw) λσ H QQ ⟨ρ,Q,fr,h,k⟩=>by
 refine⟨ρ,_,fr,h,λc H1 ρ1 s1 q1=>?_⟩
 cases c with
 |true=>rw[if_pos rfl]at q1 ⊢;exact k _ _ _ s1 q1
 |false=>rw[if_neg Bool.false_ne_true]at q1 ⊢;exact⟨ρ1,_,s1.fr,q1,λy H2 ρ2 s2 q2=>k _ _ _ (s1.trans s2) q2⟩⟩
theorem dZ{e:Expr}{t:UTt}(h:UW X F e t):UB X F e t:=⟨h.pw.pt⟩
theorem gB(ha:UB X F a ta):UB X F (.UnaryOp .Not a pos) (zI3 ta):=⟨PT.imp (zG2 ha.pt) λσ H QQ ⟨ρ,Q,fr,h,k⟩=>⟨ρ,_,fr,h,λc H1 ρ1 s1 q1=>k _ _ _ s1 q1⟩⟩
theorem cM{e:Expr}{u:UT}(h:UE X F e u)(he:∀whole,isTrue e X.env whole=(do let v <- whole;standAt e.pos;holding [v] (truthy v)):=by intro _;rfl):UB X F e (uB u):=⟨PT.imp (zG1 h.pe he) λσ H QQ ⟨ρ,Q,fr,h,k⟩=>by
 refine⟨ρ,_,fr,h,λx T H' ρ' s v q=>?_⟩
 obtain⟨b,rfl,q⟩:=q
 obtain⟨e,_⟩:=v.leafI
 exact⟨b,e,k b H' ρ' s q⟩⟩
def uIf(t:UTt)(ua ub:UT):UT:=λρ Q=>t ρ λc ρ1=>if c=true then ua ρ1 Q else ub ρ1 Q
theorem hG(hc:UB X F c ta)(ha:UE X F a ua)(hb:UE X F b ub):UE X F (.IfExp c a b pos) (uIf ta ua ub):=⟨PE.imp (zEH hc.pt ha.pe hb.pe) λσ H QQ ⟨ρ,Q,fr,h,k⟩=>by
 refine⟨ρ,_,fr,h,λc H1 ρ1 s1 q1=>?_⟩
 cases c with
 |true=>rw[if_pos rfl]at q1 ⊢;exact⟨ρ1,_,s1.fr,q1,λy U H2 ρ2 s2 v2 q2=>k _ _ _ _ (s1.trans s2) v2 q2⟩
 |false=>rw[if_neg Bool.false_ne_true]at q1 ⊢;exact⟨ρ1,_,s1.fr,q1,λy U H2 ρ2 s2 v2 q2=>k _ _ _ _ (s1.trans s2) v2 q2⟩⟩
def eN:UTa:=λρ Q=>Q [] ρ
def cS(u:UT)(t:UTa):UTa:=λρ Q=>u ρ λT ρ1=>t ρ1 λas ρ2=>Q (.va T::as) ρ2
def uDk(i:Nat)(t:UTa):UTa:=λρ Q=>ρ[i]?=some .dk/\t ρ λas ρ2=>Q (.dk::as) ρ2
theorem aC:UA X F [] eN:=⟨PA.imp dL λσ H QQ ⟨ρ,Q,fr,h,k⟩=>k [] [] H ρ (Stp.refl fr) .nil h⟩
theorem aB{e:Expr}{es:List Expr}{u:UT}{t:UTa}(ha:UE X F e u)(hr:UA X F es t)(h:eR e=false:=by rfl):UA X F (e::es) (cS u t):=⟨PA.imp (cV ha.pe hr.pa h) λσ H QQ ⟨ρ,Q,fr,h,k⟩=>by
 refine⟨ρ,_,fr,h,λx T H1 ρ1 s1 v1 q1=>⟨ρ1,_,s1.fr,q1,λxs as H2 ρ2 s2 p2 q2=>?_⟩⟩
 exact k _ _ _ _ (s1.trans s2) (.cons (b:=Ar.va T) (v1.hs (s2.hs s1.fr)) p2) q2⟩
theorem bG(i:Nat){x:Str}{pos:Pos}{es:List Expr}{t:UTa}(hr:UA X F es t)(hN:X.N[i]?=some x:=by rfl)(hv:Vis X.env.scope x:=by first|exact Or.inl rfl|exact Or.inr (Or.inl rfl)|exact Or.inr (Or.inr rfl))(hd:(x==("__debug__":Str))=false:=by decide)(hcd:(x==("__classdict__":Str))=false:=by decide):
  UA X F (.Name x pos::es) (uDk i t):=⟨PA.imp (cV (nL hN hv hd hcd) hr.pa rfl) λσ H QQ ⟨ρ,Q,fr,⟨e,h⟩,k⟩=>by
 obtain⟨p,c,ed,ex⟩:=fr.at_ i _ e
 refine⟨_,kQ ex,ρ,_,fr,h,λxs as H2 ρ2 s2 p2 q2=>?_⟩
 exact k _ _ _ _ s2 (.cons (b:=Ar.dk) ⟨p,c,ed,rfl⟩ p2) q2⟩
def vsK:List Ar->(List Tv->Prop)->Prop
 |[],Q=>Q []
 |.va T::as,Q=>vsK as λTs=>Q (T::Ts)
 |.dk::_,_=>False
theorem iE:∀{as:List Ar}{Q:List Tv->Prop},vsK as Q->∃Ts,as=Ts.map Ar.va/\Q Ts
 |[],_,h=>⟨[],rfl,h⟩
 |.va T::as,Q,h=>by
  obtain⟨Ts,rfl,q⟩:=iE (as:=as) (Q:=λTs=>Q (T::Ts)) h
  exact⟨T::Ts,rfl,q⟩
 |.dk::_,_,h=>False.elim h
def uVs(ua:UTa):UTl:=λρ Q=>ua ρ λas ρ1=>vsK as λTs=>Q Ts ρ1
theorem iF{K:W.Frag}{dk:Option (Addr×Addr)}{H:Hp}:∀{xs:List V}{Ts:List Tv},Paired (sA K dk H) xs (Ts.map Ar.va)->VAs K H xs Ts
 |[],[],_=>.nil
 |_::_,_::_,.cons r t=>.cons r (iF t)
def jW(ua:UTa):UT:=λρ Q=>uVs ua ρ λTs ρ1=>Ts.length<=100000/\Q (.seq true Ts) ρ1
def vY(ua:UTa):UTl:=λρ Q=>uVs ua ρ λTs ρ1=>Ts.length<=100000/\Q Ts ρ1
theorem iC{n:Nat}(h:n<=100000):n<=sizeLine:=by rw[sizeLine_eq];omega
theorem zAQ{n:Nat}(h:n<100000):n<sizeLine:=by rw[sizeLine_eq];omega
theorem aT{es:List Expr}{t:UTa}{x1}(h:UA X F es t):UE X F (.Tuple es x1 pos) (jW t):=⟨PE.imp (zG9 h.pa) λσ H QQ ⟨ρ,Q,fr,h,k⟩=>by
 refine⟨ρ,_,fr,h,λxs as H1 ρ1 s1 p1 q1=>?_⟩
 obtain⟨Ts,rfl,z,q⟩:=iE q1
 have p:=iF p1
 have l:xs.length=Ts.length:=Paired.length p
 refine⟨iC (by omega),λa n=>?_⟩
 have r:=Raw.tup (K:=X.K) n z p
 exact k _ _ _ _ (s1.trans (Stp.same s1.fr r.1)) (VA.seq (t:=true) (SqT.of bF) z (p.hs (gD n))) q⟩
theorem cA{es:List Expr}{t:UTa}(h:UA X F es t):UL X F (.List es pos) (vY t):=⟨PE.imp (zBo h.pa) λσ H QQ ⟨ρ,Q,fr,h,k⟩=>by
 refine⟨ρ,_,fr,h,λxs as H1 ρ1 s1 p1 q1=>?_⟩
 obtain⟨Ts,rfl,z,q⟩:=iE q1
 have p:=iF p1
 have l:xs.length=Ts.length:=Paired.length p
 refine⟨iC (by omega),λa n=>?_⟩
 exact k _ _ _ _ _ (s1.trans (Stp.same s1.fr (cI n))) (s1.non n) bF z (p.hs (gD n)) q⟩
end
end L2
namespace L2
open PySem PySem.Spec PyProof.Rows WordM
theorem FrOk.fzn{K:W.Frag}{F:Fm}{ρ:aR}{σ:St}{H:Hp}{a:Addr}{o:HO}(fr:FrOk K F ρ σ H)(h:H a=some o)(n:fzb o=true)(h0:F.H0 a=none)(na:∀(i:Nat) (s:Sl),ρ[i]?=some s->eE s=true->ixv σ i≠some (.ref a))(o':HO):FrOk K F ρ σ (upd H a o'):=by
 have hd:=fr.fresh_nodk h0
 have hs:HS H (upd H a o'):=fN h (by cases o<;>first|rfl|exact absurd n Bool.false_ne_true)
 have st:∀b u,b≠a->H b=some u->upd H a o' b=some u:=λb u z e=>by rw[bI z];exact e
 refine⟨fr.d0,⟨λb u e1 n1=>st b u (λz=>by rw[z,h0]at e1;cases e1) (fr.kp.st b u e1 n1),λp c d=>?_⟩,fr.len,λj s' e'=>?_,fr.ap⟩
 ·obtain⟨ne,⟨S,k,e1⟩,ns,e2,l⟩:=fr.kp.dkk p c d
  exact⟨ne,⟨S,k,st _ _ (hd p c d).1.symm e1⟩,ns,st _ _ (hd p c d).2.symm e2,l⟩
 ·have x:=fr.at_ j s' e'
  cases s' with
  |no=>trivial
  |va T=>obtain⟨y,e1,v⟩:=x;exact⟨y,e1,v.hs hs⟩
  |own Ts=>obtain⟨b,xs,e1,e2,e3,z',p⟩:=x;exact⟨b,xs,e1,st _ _ (λy=>na j _ e' rfl (by rw[e1,y])) e2,e3,z',p.hs hs⟩
  |dct kts=>obtain⟨b,kvs,e1,e2,e3,n',z',p⟩:=x;exact⟨b,kvs,e1,st _ _ (λy=>na j _ e' rfl (by rw[e1,y])) e2,e3,n',z',p.hs hs⟩
  |dk=>exact x
theorem Stp.notown{K:W.Frag}{F:Fm}{ρ ρ1:aR}{σ:St}{H H1:Hp}{a:Addr}(s:Stp K F σ ρ H ρ1 H1)(fr:FrOk K F ρ σ H)(n:H a=none):∀(i:Nat) (s:Sl),ρ1[i]?=some s->eE s=true->ixv σ i≠some (.ref a):=λi s' e m q=>by
 obtain⟨s0,e0,m0⟩:=s.sub i s' e m
 obtain⟨⟨o,e1,_⟩,_⟩:=fr.own_at e0 m0 q
 rw[n]at e1;cases e1
theorem Stp.put{K:W.Frag}{F:Fm}{ρ ρ1:aR}{σ:St}{H H1:Hp}{a:Addr}{o:HO}(s:Stp K F σ ρ H ρ1 H1)(fr:FrOk K F ρ σ H)(n:H a=none)(e:H1 a=some o)(m:fzb o=true)(o':HO):Stp K F σ ρ H ρ1 (upd H1 a o'):=
 ⟨s.fr.fzn e m (fr.none0 n) (s.notown fr n) o',λb u q d n1=>by rw[bI (dH q n)];exact s.st b u q d n1,s.sub,λb u q=>by rw[bI (dH q n)];exact s.tr b u q⟩
section
variable{X:Cx}{F:Fm}{e:Expr}{pos:Pos}
def uL(u:UTl):UT:=λρ Q=>u ρ λTs ρ1=>Q (.seq false Ts) ρ1
theorem bB{u:UTl}(h:UL X F e u):UE X F e (uL u):=⟨PE.imp (PE.fz h.pe) λσ H QQ ⟨ρ,Q,fr,h,k⟩=>⟨ρ,_,fr,h,λa xs Ts H' ρ' s n e z p q=>
 .inr ⟨a,_,rfl,e,rfl,λob=>k _ _ _ _ (s.put fr n e rfl (.frz ob (.lst xs))) (VA.seq (t:=false) ⟨ob,bF⟩ z (p.hs (fN e rfl))) q⟩⟩⟩
def zCm(K:W.Frag)(r:Pn)(r':List V->Hp->VK->Prop):Prop:=∀xs Ts H Q (QQ:VK),VAs K H xs Ts->r Ts Q->(∀z W H',Raw K H H' z W->Q W->QQ z H')->r' xs H QQ
def iI(X:Cx)(f:Value)(r:Pn):Prop:=∃r',CallR X f r'/\zCm X.K r r'
def uCB(r:Pn)(ua:UTa):UT:=λρ Q=>uVs ua ρ λTs ρ1=>r Ts λW=>Q W ρ1
theorem zAS{r:Pn}{r':List V->Hp->VK->Prop}{ua:UTa}(hr:zCm X.K r r')(σ:St)(H:Hp)(QQ:VK)(h:dX X.K F (uCB r ua) σ H QQ):tFz (tCB r' (qP X.K F ua)) σ H QQ:=by
 obtain⟨ρ,Q,fr,h,k⟩:=h
 refine⟨ρ,_,fr,h,λxs as H1 ρ1 s1 p1 q1=>?_⟩
 obtain⟨Ts,rfl,q⟩:=iE q1
 exact hr xs Ts H1 _ _ (iF p1) q λz W H' rw q=>rw.fin s1.fr λH'' s3 v3=>k _ _ _ _ (s1.trans s3) v3 q
variable{es:List Expr}{x:Str}{p:Pos}{ua:UTa}
theorem aX{id:String}{r:Pn}(hc:iI X (.builtin id) r)(hg:Gl X x)(hm:X.mg x=none)(hv:bootBuiltins x=some (.builtin id))(ha:UA X F (e::es) ua)(hn:x≠"__name__":=by decide)(hdb:(x==("__debug__":Str))=false:=by decide)
  (he:starEach (e::es) X.env=(false,eval e X.env)::starEach es X.env:=by rfl) (hpl:(backTo pos (starEach es X.env)).any (·.1)=false:=by rfl):UE X F (.Call (.Name x p) (e::es) [] pos) (uCB r ua):=by
 obtain⟨r',o,hr⟩:=hc
 exact⟨PE.imp (PE.fz (hZ o hg hm hv ha.pa hn hdb he hpl)) (zAS hr)⟩
theorem dI{id:String}{r:Pn}(hc:iI X (.type id) r)(hg:Gl X x)(hm:X.mg x=none)(hv:bootBuiltins x=some (.type id))(ha:UA X F (e::es) ua)(hn:x≠"__name__":=by decide)(hdb:(x==("__debug__":Str))=false:=by decide)
  (he:starEach (e::es) X.env=(false,eval e X.env)::starEach es X.env:=by rfl) (hpl:(backTo pos (starEach es X.env)).any (·.1)=false:=by rfl):UE X F (.Call (.Name x p) (e::es) [] pos) (uCB r ua):=by
 obtain⟨r',o,hr⟩:=hc
 exact⟨PE.imp (PE.fz (kN o hg hm hv ha.pa hn hdb he hpl)) (zAS hr)⟩
def zCn(K:W.Frag)(r:List Tv->(List Tv->Prop)->Prop)(r':List V->Hp->VK->Prop):Prop:=∀xs Ts H Q (QQ:VK),VAs K H xs Ts->r Ts Q->(∀a ys Us H',Same H H'->H a=none->H' a=some (.lst ys)->Us.length<=100000->VAs K H' ys Us->Q Us->QQ (.ref a) H')->r' xs H QQ
def pS(X:Cx)(f:Value)(r:List Tv->(List Tv->Prop)->Prop):Prop:=∃r',CallR X f r'/\zCn X.K r r'
def uCL(r:List Tv->(List Tv->Prop)->Prop)(ua:UTa):UTl:=λρ Q=>uVs ua ρ λTs ρ1=>r Ts λUs=>Q Us ρ1
theorem zAR{r:List Tv->(List Tv->Prop)->Prop}{r':List V->Hp->VK->Prop}{ua:UTa}(hr:zCn X.K r r')(σ:St)(H:Hp)(QQ:VK)(h:qO X.K F (uCL r ua) σ H QQ):tCB r' (qP X.K F ua) σ H QQ:=by
 obtain⟨ρ,Q,fr,h,k⟩:=h
 refine⟨ρ,_,fr,h,λxs as H1 ρ1 s1 p1 q1=>?_⟩
 obtain⟨Ts,rfl,q⟩:=iE q1
 exact hr xs Ts H1 _ _ (iF p1) q λa ys Us H' sm n e z p q=>k _ _ _ _ _ (s1.trans (Stp.same s1.fr sm)) (s1.non n) e z p q
theorem zP{id:String}{r:List Tv->(List Tv->Prop)->Prop}(hc:pS X (.builtin id) r)(hg:Gl X x)(hm:X.mg x=none)(hv:bootBuiltins x=some (.builtin id))(ha:UA X F (e::es) ua)(hn:x≠"__name__":=by decide)(hdb:(x==("__debug__":Str))=false:=by decide)
  (he:starEach (e::es) X.env=(false,eval e X.env)::starEach es X.env:=by rfl) (hpl:(backTo pos (starEach es X.env)).any (·.1)=false:=by rfl):UL X F (.Call (.Name x p) (e::es) [] pos) (uCL r ua):=by
 obtain⟨r',o,hr⟩:=hc
 exact⟨PE.imp (hZ o hg hm hv ha.pa hn hdb he hpl) (zAR hr)⟩
theorem kI{id:String}{r:List Tv->(List Tv->Prop)->Prop}(hc:pS X (.type id) r)(hg:Gl X x)(hm:X.mg x=none)(hv:bootBuiltins x=some (.type id))(ha:UA X F (e::es) ua)(hn:x≠"__name__":=by decide)(hdb:(x==("__debug__":Str))=false:=by decide)
  (he:starEach (e::es) X.env=(false,eval e X.env)::starEach es X.env:=by rfl) (hpl:(backTo pos (starEach es X.env)).any (·.1)=false:=by rfl):UL X F (.Call (.Name x p) (e::es) [] pos) (uCL r ua):=by
 obtain⟨r',o,hr⟩:=hc
 exact⟨PE.imp (kN o hg hm hv ha.pa hn hdb he hpl) (zAR hr)⟩
abbrev PSp:=List Ar->(Tv->Prop)->Prop
def vV(K:W.Frag)(psp:PSp):Sp:=λvs H Q _=>∃dk as R,(∀p c,dk=some (p,c)->DeckAt H p c)/\Paired (sA K dk H) vs as/\psp as R/\∀x T H',Kp dk H H'->VA K H' x T->R T->Q x H'
def PGood(P:Program)(w:World)(K:W.Frag)(mg:Str->Option Value)(base:Heap)(k:Nat)(x:Str)(ps:List Str)(psp:PSp):Prop:=Good P w K mg base k x ps (vV K psp)
theorem PGood.mono{P:Program}{w:World}{K:W.Frag}{mg:Str->Option Value}{base:Heap}{j k:Nat}{ps:List Str}{psp:PSp}(G:PGood P w K mg base j x ps psp)(h:j<=k):PGood P w K mg base k x ps psp:=Good.mono G h
def jU(psp:PSp)(ua:UTa):UT:=λρ Q=>ua ρ λas ρ1=>psp as λW=>Q W ρ1
theorem zDW{psp:PSp}{ua:UTa}(σ:St)(H:Hp)(QQ:VK)(h:dX X.K F (jU psp ua) σ H QQ):nU (vV X.K psp) [] E0 (qP X.K F ua) σ H QQ:=by
 obtain⟨ρ,Q,fr,h,k⟩:=h
 refine⟨ρ,_,fr,h,λxs as H1 ρ1 s1 p1 q1=>?_⟩
 show vV X.K psp (xs++[]) H1 QQ E0
 rw[List.append_nil]
 exact⟨F.dk,as,_,s1.fr.kp.dkk,p1,q1,λz W H' kp v q=>k _ _ _ _ (s1.trans (Stp.call s1.fr kp)) v q⟩
theorem zHZ{k:Nat}{ps:List Str}{psp:PSp}(G:PGood X.prog X.w X.K X.mg X.base k x ps psp)(hr:Room k X.A)(hg:Gl X x)(ha:UA X F (e::es) ua)(hdb:(x==("__debug__":Str))=false:=by decide)
  (hst:eR e=false:=by rfl) (hpl:(backTo pos (starEach es X.env)).any (·.1)=false:=by rfl):UE X F (.Call (.Name x p) (e::es) [] pos) (jU psp ua):=
 ⟨PE.imp (qL G hr hg ha.pa hdb hst hpl) zDW⟩
theorem zBc{k:Nat}{ps:List Str}{psp:PSp}(G:PGood X.prog X.w X.K X.mg X.base k x ps psp)(hr:Room k X.A)(hg:Gl X x)(hdb:(x==("__debug__":Str))=false:=by decide):UE X F (.Call (.Name x p) [] [] pos) (jU psp eN):=
 ⟨PE.imp (zHd G hr hg hdb) λσ H QQ ⟨ρ,Q,fr,h,k⟩=>⟨F.dk,[],_,fr.kp.dkk,.nil,h,λz W H' kp v q=>k _ _ _ _ (Stp.call fr kp) v q⟩⟩
def zCo(X:Cx)(r:P2):Prop:=∃r',IxR X r'/\rW X.K r r'
variable{a b:Expr}{va vb:UT}
theorem zHY{r:P2}(ho:zCo X r)(ha:UE X F a va)(hb:UE X F b vb)(hs:pT b:=by intro _ _;rfl):UE X F (.Subscript a b pos) (uOp r va vb):=by
 obtain⟨r',o,hr⟩:=ho
 exact⟨PE.imp (PE.fz (iL o ha.pe hb.pe hs)) (uM hr)⟩
abbrev UTo:=aR->(Option Int->aR->Prop)->Prop
def zIH(K:W.Frag)(F:Fm)(u:UTo):TO:=λσ H QQ=>∃ρ Q,FrOk K F ρ σ H/\u ρ Q/\∀o H' ρ',Stp K F σ ρ H ρ' H'->Q o ρ'->QQ o H'
structure UO (X:Cx) (F:Fm) (e:Option Expr) (u:UTo):Prop where
 po:PO X e (zIH X.K F u)
theorem PO.imp{e:Option Expr}{t t':TO}(h:PO X e t)(i:∀σ H Q,t' σ H Q->t σ H Q):PO X e t':=λpins s σ H Q I q=>h pins s σ H Q I (i σ H Q q)
def uoN:UTo:=λρ Q=>Q none ρ
def uoS(u:UT):UTo:=λρ Q=>u ρ λT ρ1=>∃i,T=iT i/\Q (some i) ρ1
theorem eJ:UO X F none uoN:=⟨PO.imp zAG λσ H QQ ⟨ρ,Q,fr,h,k⟩=>k _ _ _ (Stp.refl fr) h⟩
theorem eI{u:UT}(h:UE X F e u):UO X F (some e) (uoS u):=⟨PO.imp (zAF h.pe) λσ H QQ ⟨ρ,Q,fr,h,k⟩=>⟨ρ,_,fr,h,λx T H1 ρ1 s1 v1 q1=>by
 obtain⟨i,rfl,q⟩:=q1
 exact⟨i,v1.leafI.1,k _ _ _ s1 q⟩⟩⟩
abbrev PSl:=Tv->Option Int->Option Int->(Tv->Prop)->Prop
def zCl(X:Cx)(r:PSl):Prop:=∃r',SlR X r'/\∀x T lo hi H Q (QQ:VK),VA X.K H x T->r T lo hi Q->(∀z W H',Raw X.K H H' z W->Q W->QQ z H')->r' x lo hi H QQ
def uSl(r:PSl)(u:UT)(lo hi:UTo):UT:=λρ Q=>u ρ λT ρ1=>lo ρ1 λl ρ2=>hi ρ2 λh ρ3=>r T l h λW=>Q W ρ3
theorem eG{r:PSl}{lo hi:Option Expr}{ul uh:UTo}{p2:Pos}(ho:zCl X r)(ha:UE X F a va)(hl:UO X F lo ul)(hh:UO X F hi uh):UE X F (.Subscript a (.Slice lo hi none p2) pos) (uSl r va ul uh):=by
 obtain⟨r',o,hr⟩:=ho
 refine⟨PE.imp (PE.fz (zAa o ha.pe hl.po hh.po)) ?_⟩
 rintro σ H QQ ⟨ρ,Q,fr,h,k⟩
 refine⟨ρ,_,fr,h,λx T H1 ρ1 s1 v1 q1=>⟨ρ1,_,s1.fr,q1,λl H2 ρ2 s2 q2=>⟨ρ2,_,s2.fr,q2,λu H3 ρ3 s3 q3=>?_⟩⟩⟩
 exact hr x T l u H3 _ _ ((v1.hs (s2.hs s1.fr)).hs (s3.hs s2.fr)) q3 λz W H' rw q=>rw.fin s3.fr λH'' s4 v4=>k _ _ _ _ ((s1.trans s2).trans (s3.trans s4)) v4 q
end
structure PEnds where
 nx:aR->Prop
 rt:Tv->Prop
 bk:aR->Prop:=λ_=>False
 ct:aR->Prop:=λ_=>False
abbrev UTs:=PEnds->aR->Prop
def lY(K:W.Frag)(F:Fm)(u:UTs):TS:=λD σ H=>∃ρ P,FrOk K F ρ σ H/\u P ρ/\(∀σ' H' ρ',FrOk K F ρ' σ' H'->HS H H'->P.nx ρ'->D.nx σ' H')/\(∀x T H',Kp F.dk F.H0 H'->VA K H' x T->P.rt T->D.rt x H') /\
 (∀σ' H' ρ',FrOk K F ρ' σ' H'->HS H H'->P.bk ρ'->D.bk σ' H')/\∀σ' H' ρ',FrOk K F ρ' σ' H'->HS H H'->P.ct ρ'->D.ct σ' H'
structure US (X:Cx) (F:Fm) (st:Stmt) (u:UTs):Prop where
 ps:PS X st (lY X.K F u)
structure USs (X:Cx) (F:Fm) (st:List Stmt) (u:UTs):Prop where
 ps:PSs X st (lY X.K F u)
theorem PS.imp{X:Cx}{st:Stmt}{t t':TS}(h:PS X st t)(i:∀D σ H,t' D σ H->t D σ H):PS X st t':=λpins s σ H D I q=>h pins s σ H D I (i D σ H q)
theorem PSs.imp{X:Cx}{st:List Stmt}{t t':TS}(h:PSs X st t)(i:∀D σ H,t' D σ H->t D σ H):PSs X st t':=λpins s σ H D I q=>h pins s σ H D I (i D σ H q)
section
variable{X:Cx}{F:Fm}{e:Expr}{pos:Pos}{st:Stmt}{rest:List Stmt}{u:UT}
def oA:UTs:=λP ρ=>P.nx ρ
def gV(s t:UTs):UTs:=λP ρ=>s {P with nx:=λρ'=>t P ρ'} ρ
theorem bA:USs X F [] oA:=⟨PSs.imp uI λD σ H ⟨ρ,P,fr,h,k1,_⟩=>k1 σ H ρ fr (HS.refl _) h⟩
theorem aG{s:UTs}(h:US X F st s):USs X F [st] s:=⟨lB h.ps⟩
theorem aE{s t:UTs}(h:US X F st s)(hr:USs X F rest t):USs X F (st::rest) (gV s t):=⟨PSs.imp (gI h.ps hr.ps) λD σ H ⟨ρ,P,fr,h,k1,k2,k3,k4⟩=>by
 refine⟨ρ,_,fr,h,λσ' H' ρ' fr' hs q=>?_,k2,k3,k4⟩
 exact⟨ρ',P,fr',q,λσ2 H2 ρ2 f2 h2 q2=>k1 _ _ _ f2 (hs.trans h2) q2,k2,λσ2 H2 ρ2 f2 h2 q2=>k3 _ _ _ f2 (hs.trans h2) q2,λσ2 H2 ρ2 f2 h2 q2=>k4 _ _ _ f2 (hs.trans h2) q2⟩⟩
def iN(u:UT):UTs:=λP ρ=>u ρ λT _=>P.rt T
theorem aQ(h:UE X F e u):US X F (.Return (some e) pos) (iN u):=⟨PS.imp (lR h.pe) λD σ H ⟨ρ,P,fr,h,_,k2,_⟩=>⟨ρ,_,fr,h,λx T H' ρ' s v q=>k2 x T H' s.fr.kp v q⟩⟩
def sIf(t:UTt)(s r:UTs):UTs:=λP ρ=>t ρ λb ρ1=>if b=true then s P ρ1 else r P ρ1
theorem aZ{c:Expr}{a b:List Stmt}{t:UTt}{s r:UTs}(hc:UB X F c t)(ha:USs X F a s)(hb:USs X F b r):US X F (.If c a b pos) (sIf t s r):=⟨PS.imp (vR hc.pt ha.ps hb.ps) λD σ H ⟨ρ,P,fr,h,k1,k2,k3,k4⟩=>by
 refine⟨ρ,_,fr,h,λb H1 ρ1 s1 q1=>?_⟩
 have hs:=s1.hs fr
 have fin:∀{v:UTs},v P ρ1->lY X.K F v D σ H1:=λq=>⟨ρ1,P,s1.fr,q,λσ2 H2 ρ2 f2 h2 q2=>k1 _ _ _ f2 (hs.trans h2) q2,k2,λσ2 H2 ρ2 f2 h2 q2=>k3 _ _ _ f2 (hs.trans h2) q2,λσ2 H2 ρ2 f2 h2 q2=>k4 _ _ _ f2 (hs.trans h2) q2⟩
 cases b with
 |true=>exact bH (fin (by rw[if_pos rfl]at q1;exact q1))
 |false=>exact aV (fin (by rw[if_neg Bool.false_ne_true]at q1;exact q1))⟩
def zIe(u:UT):UTs:=λP ρ=>u ρ λ_ ρ1=>P.nx ρ1
theorem kX(h:UE X F e u)(hs:swapsWith e none pos.line X.env=pure false:=by rfl):US X F (.Expr e pos) (zIe u):=⟨PS.imp (zAE h.pe hs) λD σ H ⟨ρ,P,fr,h,k1,_⟩=>⟨ρ,_,fr,h,λx T H' ρ' s v q=>k1 _ _ _ s.fr (s.hs fr) q⟩⟩
theorem FrOk.set{K:W.Frag}{ρ:aR}{σ:St}{H:Hp}{i:Nat}{s:Sl}{x:V}(fr:FrOk K F ρ σ H)(v:i<ρ.length->xA K F H (some x) s)(na:eE s=true->∀a,x=.ref a->∀(j:Nat) (t:Sl),ρ[j]?=some t->eE t=true->ixv σ j≠some (.ref a)):FrOk K F (ρ.set i s) (σ.set i (some x)) H:=by
 have ne:∀j,i≠j->ixv (σ.set i (some x)) j=ixv σ j:=λj z=>by unfold ixv;rw[List.getElem?_set_ne z]
 have self:∀(h:i<ρ.length),ixv (σ.set i (some x)) i=some x:=λh=>by unfold ixv;rw[List.getElem?_set_self (by rw[<-fr.len];exact h)];rfl
 have get:∀(j:Nat) (t:Sl),(ρ.set i s)[j]?=some t->(i=j/\i<ρ.length/\t=s)\/(i≠j/\ρ[j]?=some t):=λj t e=>by
  by_cases z:i=j
  ·subst z
   have hi:i<ρ.length:=by
    have:=(List.getElem?_eq_some_iff.mp e).1
    rwa[List.length_set]at this
   rw[List.getElem?_set_self hi]at e
   exact .inl ⟨rfl,hi,(Option.some.inj e).symm⟩
  ·rw[List.getElem?_set_ne z]at e;exact .inr ⟨z,e⟩
 refine⟨fr.d0,fr.kp,by rw[List.length_set,List.length_set];exact fr.len,λj t e=>?_,λj k a t t' e1 e2 m1 m2 q1 q2=>?_⟩
 ·rcases get j t e with⟨rfl,hi,rfl⟩|⟨z,e⟩
  ·rw[self hi];exact v hi
  ·rw[ne j z];exact fr.at_ j t e
 ·rcases get j t e1 with⟨rfl,hi,rfl⟩|⟨z1,e1⟩
  ·rcases get k t' e2 with⟨rfl,_,rfl⟩|⟨z2,e2⟩
   ·rfl
   ·rw[self hi]at q1
    rw[ne k z2]at q2
    exact absurd q2 (na m1 a (Option.some.inj q1) k t' e2 m2)
  ·rcases get k t' e2 with⟨rfl,hi,rfl⟩|⟨z2,e2⟩
   ·rw[self hi]at q2
    rw[ne j z1]at q1
    exact absurd q1 (na m2 a (Option.some.inj q2) j t (by first|exact e1|assumption) m1)
   ·rw[ne j z1]at q1
    rw[ne k z2]at q2
    exact fr.ap j k a t t' e1 e2 m1 m2 q1 q2
def jY(i:Nat)(u:UT):UTs:=λP ρ=>u ρ λT ρ1=>P.nx (ρ1.set i (.va T))
theorem zGq{i:Nat}{x:Str}{pos':Pos}(hN:X.N.Nodup)(hi:X.N[i]?=some x)(hx:Loc X.env.scope x)(he:UE X F e u)(hs:swapsWith e (some (.Name x pos')) pos.line X.env=pure false:=by rfl)(hf:X.fn x=true\/X.env.scope.names.lookup x=some .local:=by first|exact .inl rfl|exact .inr rfl|assumption):
  US X F (.Assign [.Name x pos'] e pos) (jY i u):=⟨PS.imp (jR hN hi hx he.pe hs hf) λD σ H ⟨ρ,P,fr,h,k1,_⟩=>by
 refine⟨ρ,_,fr,h,λx T H' ρ' s v q=>?_⟩
 exact k1 _ _ _ (s.fr.set (s:=.va T) (λ_=>⟨x,rfl,v⟩) (λz=>absurd z Bool.false_ne_true)) (s.hs fr) q⟩
def wA(i:Nat)(u:UTl):UTs:=λP ρ=>u ρ λTs ρ1=>P.nx (ρ1.set i (.own Ts))
theorem zET{i:Nat}{u:UTl}{t:TE}(ht:∀σ H QQ,qO X.K F u σ H QQ->t σ H QQ)(D:kD)(σ:St)(H:Hp)(h:lY X.K F (wA i u) D σ H):qW t (qQ i) D σ H:=by
 obtain⟨ρ,P,fr,h,k1,_⟩:=h
 refine ht σ H _ ⟨ρ,_,fr,h,λa xs Ts H' ρ' s n e z p q=>?_⟩
 exact k1 _ _ _ (s.fr.set (s:=.own Ts) (λ_=>⟨a,xs,rfl,e,fr.none0 n,z,p⟩) (λ_ b eb j t ej mj qj=>by cases eb;exact s.notown fr n j t ej mj qj)) (s.hs fr) q
theorem zGr{i:Nat}{x:Str}{u:UTl}{pos':Pos}(hN:X.N.Nodup)(hi:X.N[i]?=some x)(hx:Loc X.env.scope x)(he:UL X F e u)(hs:swapsWith e (some (.Name x pos')) pos.line X.env=pure false:=by rfl)(hf:X.fn x=true\/X.env.scope.names.lookup x=some .local:=by first|exact .inl rfl|exact .inr rfl|assumption):
  US X F (.Assign [.Name x pos'] e pos) (wA i u):=⟨PS.imp (jR hN hi hx he.pe hs hf) (zET λ_ _ _ h=>h)⟩
end
def zKl:Ar->Sl
 |.va T=>.va T
 |.dk=>.dk
def lJ(n:Nat)(as:List Ar):aR:=as.map zKl++List.replicate (n-as.length) .no
theorem zE1{K:W.Frag}{H:Hp}{dk:Option (Addr×Addr)}{N:List Str}{vs:List V}{as:List Ar}(hd:∀p c,dk=some (p,c)->DeckAt H p c)(p:Paired (sA K dk H) vs as):FrOk K ⟨H,dk⟩ (lJ N.length as) (dS N vs) H:=by
 have l:vs.length=as.length:=Paired.length p
 refine⟨hd,⟨λ_ _ e _=>e,hd⟩,?_,λi s e=>?_,λi j a s t e _ m _ _ _=>?_⟩
 ·unfold lJ dS
  rw[List.length_append,List.length_append,List.length_map,List.length_map,List.length_replicate,List.length_replicate,l]
 ·unfold lJ at e
  by_cases hi:i<as.length
  ·rw[List.getElem?_append_left (by simpa using hi),List.getElem?_map]at e
   obtain⟨r,er,rfl⟩:=Option.map_eq_some_iff.mp e
   have hv:i<vs.length:=by omega
   obtain⟨r',er',h⟩:=eQ p (List.getElem?_eq_getElem hv)
   rw[er]at er';cases er'
   have ex:ixv (dS N vs) i=some vs[i]:=by
    refine zHA ?_
    unfold dS
    rw[List.getElem?_append_left (by simpa using hv),List.getElem?_map,List.getElem?_eq_getElem hv]
    rfl
   rw[ex]
   cases r with
   |va T=>exact⟨_,rfl,h⟩
   |dk=>obtain⟨p,c,e1,e2⟩:=h;exact⟨p,c,e1,by rw[e2]⟩
  ·rw[List.getElem?_append_right (by simpa using hi),List.getElem?_replicate]at e
   split at e
   ·cases e;trivial
   ·cases e
 ·unfold lJ at e
  by_cases hi:i<as.length
  ·rw[List.getElem?_append_left (by simpa using hi),List.getElem?_map]at e
   obtain⟨r,er,rfl⟩:=Option.map_eq_some_iff.mp e
   cases r<;>cases m
  ·rw[List.getElem?_append_right (by simpa using hi),List.getElem?_replicate]at e
   split at e
   ·cases e;cases m
   ·cases e
theorem Has.pgood{P:Program}{w:World}{K:W.Frag}{mg:Str->Option Value}{base:Heap}{x:Str}{st:Stmt}{N ps:List Str}{k:Nat}{psp:PSp}{us:UTs}(h:Has K mg x st)(S:bE N ps (aL st))
  (hb:∀(kV doc pm:Value) (an:Option Addr) (cdv ct:Value) (us:List Value),us.length=ps.length->bindArgs (W.fnOf x x (gK st) (fG st) (aL st) .none kV doc pm an cdv ct) ⟨us,[]⟩=pure (ps.zip us))
  (hbody:∀(f:Addr) (cdv:Value) (A:Around) (outer:List Env) (s:Shared) (H:Hp) (E:XK) (F:Fm),Room k (A.deeper (envOfC x (aL st) s.heap.objs.size f cdv))->USs (jL CX0 P w K mg base N x (aL st) f cdv A outer s H E).nox F (fG st) us)
  (hp:∀as R,psp as R->as.length=ps.length/\us {nx:=λ_=>R nT,rt:=R} (lJ N.length as)):PGood P w K mg base (k+1) x ps psp:=by
 refine h.good S hb (λvs H Q E q=>?_) (λf cdv A outer s H vs Q E hr q=>?_)
 ·obtain⟨dk,as,R,d,p,q,_⟩:=q
  rw[Paired.length p]
  exact(hp as R q).1
 ·obtain⟨dk,as,R,d,p,q,k⟩:=q
  refine⟨_,(hbody f cdv A outer s H E ⟨H,dk⟩ hr).ps,lJ N.length as,_,zE1 d p,(hp as R q).2,λσ' H' ρ' fr _ q=>k _ _ _ fr.kp (.flat rfl) q,λx T H' kp v q=>k x T H' kp v q,λ_ _ _ _ _ z=>z,λ_ _ _ _ _ z=>z⟩
end L2
namespace L2
open PySem PySem.Spec PyProof.Rows WordM
def iV(K:W.Frag)(J:It)(H:Hp)(Ts:List Tv):Prop:=∀H1,HS H H1->(∀i,i<Ts.length->J.go i H1)/\(∀i x H2,i<Ts.length->J.yld i H1 x H2->Same H1 H2/\∃T,Ts[i]?=some T/\VA K H2 x T)/\J.stop Ts.length H1
def zBT(K:W.Frag)(F:Fm)(u:UTl):TI:=λσ H R=>∃ρ Q,FrOk K F ρ σ H/\u ρ Q/\∀J Ts H' ρ',Stp K F σ ρ H ρ' H'->iV K J H' Ts->Q Ts ρ'->R J H'
structure UI (X:Cx) (F:Fm) (tg e:Expr) (u:UTl):Prop where
 pi:PI X tg e (zBT X.K F u)
theorem PI.imp{X:Cx}{tg e:Expr}{t t':TI}(h:PI X tg e t)(i:∀σ H Q,t' σ H Q->t σ H Q):PI X tg e t':=λpins s σ H Q I q=>h pins s σ H Q I (i σ H Q q)
def ItR(X:Cx)(tg:Expr)(r:V->Hp->(It->Hp->Prop)->Prop):Prop:=∀(pins:List (Addr×Obj)) (s:Shared) (σ:St) (H:Hp) (x:V) (v:Value) (R:It->Hp->Prop),Inv X pins σ H s->RelV x v->r x H R->wpAny (model X.prog X.w) X.A (pyIter v) (PIE X pins σ tg R) X.xe s
section
variable{X:Cx}{F:Fm}{tg e:Expr}
theorem ItR.or{r r':V->Hp->(It->Hp->Prop)->Prop}(h:ItR X tg r)(h':ItR X tg r'):ItR X tg (λx H R=>r x H R\/r' x H R):=λpins s σ H x v R I rx q=>by
 rcases q with q|q
 ·exact h pins s σ H x v R I rx q
 ·exact h' pins s σ H x v R I rx q
theorem nP{pins:List (Addr×Obj)}{σ:St}{H:Hp}{s:Shared}(I:Inv X pins σ H s):∀b∈[s.heap.objs.size],dD X pins H b:=λb hb=>by
 rw[List.mem_singleton.mp hb]
 exact I.fpOk (Nat.le_refl _) (I.hok.fresh (Nat.le_refl _))
theorem it_list:ItR X tg (λx H R=>∃a xs,x=.ref a/\SqL X.K H a xs/\R (Itl X.K a) H):=by
 rintro pins s σ H _ v R I r ⟨a,xs,rfl,hq,q⟩
 cases r
 obtain⟨its,rv,p,hz⟩:=I.list hq
 exact wpAny_pyIter_list p.isList ⟨_,[s.heap.objs.size],_,_,H,rfl,I.kept (t':=s.toks) λb o=>Heap.get?_push_of_some _,zDt a _,⟨_,Heap.get?_push_size _ rfl,rfl,rfl⟩,nP I,q⟩
theorem it_tup:ItR X tg (λx H R=>∃a xs,x=.ref a/\SqT X.K H a xs/\R (Itt X.K a) H):=by
 rintro pins s σ H _ v R I r ⟨a,xs,rfl,hq,q⟩
 cases r
 obtain⟨its,rv,p,hz⟩:=I.tuple hq
 exact wpAny_pyIter_tuple (show s.heap.IsTuple a its.toArray from p) ⟨_,[s.heap.objs.size],_,_,H,rfl,I.kept (t':=s.toks) λb o=>Heap.get?_push_of_some _,zC4 a _,⟨_,Heap.get?_push_size _ rfl,rfl,rfl⟩,nP I,q⟩
theorem it_str:ItR X tg (λx H R=>∃z,x=.str z/\R (Its z) H):=by
 rintro pins s σ H _ v R I r ⟨z,rfl,q⟩
 obtain⟨t,rfl⟩:=r
 cases ha:z.cps.all (· < 128) with
 |true=>exact wpAny_pyIter_ascii ha ⟨_,[s.heap.objs.size],_,_,H,rfl,I.kept (t':=s.toks) λb o=>Heap.get?_push_of_some _,zDs _ z t,⟨_,Heap.get?_push_size _ rfl,rfl,rfl⟩,nP I,q⟩
 |false=>exact wpAny_pyIter_wide ha ⟨_,[s.heap.objs.size],_,_,H,rfl,I.kept (t':=s.toks) λb o=>Heap.get?_push_of_some _,zDr _ z t,⟨_,Heap.get?_push_size _ rfl,rfl,rfl⟩,nP I,q⟩
theorem zF2:ItR X tg (λx H R=>∃a ob kvs,x=.ref a/\FzD H a ob kvs/\R (ItD a ob kvs) H):=by
 rintro pins s σ H _ v R I r ⟨a,ob,kvs,rfl,hz,q⟩
 cases r
 obtain⟨e,hs,hl,vs,es,ep,r,dd,hd⟩:=iD I hz
 exact wpAny_pyIter_dict hs dd ⟨_,[s.heap.objs.size],_,_,H,rfl,I.kept (t':=s.toks) λb o=>Heap.get?_push_of_some _,zDv (a:=a) (ob:=ob) (kvs:=kvs) hd,⟨_,Heap.get?_push_size _ rfl,rfl,by rw[<-gP r];rfl⟩,nP I,q⟩
def pIt:Tv->(List Tv->Prop)->Prop
 |.seq _ Ts,Q=>Q Ts
 |.leaf (.str z),Q=>Q (z.cps.toList.map λc=>sT ⟨#[c]⟩)
 |.dct kts,Q=>Q (kts.map λkt=>sT kt.1)
 |_,_=>False
theorem cB{K:W.Frag}{H:Hp}{a:Addr}{xs:List V}(h:PSeq K H false a xs):SqL K H a xs:=by
 obtain⟨ob,h⟩:=h
 exact .inl (.inr ⟨ob,h⟩)
theorem zF3{K:W.Frag}{H:Hp}{a:Addr}{xs:List V}{Ts:List Tv}(h:PSeq K H false a xs)(p:VAs K H xs Ts):iV K (Itl K a) H Ts:=λH1 hs=>by
 have l:xs.length=Ts.length:=Paired.length p
 have q:=cB (h.hs hs)
 refine⟨λi hi=>⟨xs,xs[i]'(by omega),q,List.getElem?_eq_getElem _⟩,λi x H2 hi ⟨e,y⟩=>?_,⟨xs,q,by omega⟩⟩
 subst e
 obtain⟨T,eT,v⟩:=eQ (p.hs hs) (y xs q)
 exact⟨Same.refl _,T,eT,v⟩
theorem zHD{K:W.Frag}{H:Hp}{a:Addr}{xs:List V}{Ts:List Tv}(h:PSeq K H true a xs)(p:VAs K H xs Ts):iV K (Itt K a) H Ts:=λH1 hs=>by
 have l:xs.length=Ts.length:=Paired.length p
 have q:SqT K H1 a xs:=h.hs hs
 refine⟨λi hi=>⟨xs,xs[i]'(by omega),q,List.getElem?_eq_getElem _⟩,λi x H2 hi ⟨e,y⟩=>?_,⟨xs,q,by omega⟩⟩
 subst e
 obtain⟨T,eT,v⟩:=eQ (p.hs hs) (y xs q)
 exact⟨Same.refl _,T,eT,v⟩
theorem zHE{K:W.Frag}{H:Hp}{z:Str}:iV K (Its z) H (z.cps.toList.map λc=>sT ⟨#[c]⟩):=λH1 hs=>by
 refine⟨λi hi=>(show i<z.cps.size by simpa using hi),λi x H2 hi ⟨e,c,ec,ex⟩=>?_,by simp[Its]⟩
 subst e ex
 refine⟨Same.refl _,sT ⟨#[c]⟩,?_,.flat rfl⟩
 rw[List.getElem?_map,Array.getElem?_toList,ec]
 rfl
theorem zF5{K:W.Frag}{H:Hp}{a:Addr}{ob:Obj}{kvs:List (Key×V)}{kts:List (Str×Tv)}(h:FzD H a ob kvs)(p:VAk K H kvs kts):iV K (ItD a ob kvs) H (kts.map λkt=>sT kt.1):=λH1 hs=>by
 have l:kvs.length=kts.length:=Paired.length p
 have q:FzD H1 a ob kvs:=hs _ _ rfl h
 refine⟨λi hi=>⟨q,by rw[List.length_map]at hi;omega⟩,λi x H2 hi ⟨e,k,v,ek,ex⟩=>?_,⟨q,by rw[List.length_map];omega⟩⟩
 subst e ex
 obtain⟨kt,ekt,e1,_⟩:=eQ p ek
 refine⟨Same.refl _,sT kt.1,by rw[List.getElem?_map,ekt];rfl,?_⟩
 have e1:k=.inr kt.1:=e1
 rw[e1]
 exact .flat rfl
def uIt(u:UT):UTl:=λρ Q=>u ρ λT ρ1=>pIt T λTs=>Q Ts ρ1
theorem bR{u:UT}(h:UE X F e u):UI X F tg e (uIt u):=⟨λpins s σ H R I ⟨ρ,Q,fr,hu,k⟩=>by
 have IT:ItR X tg _:=it_list.or (it_tup.or (it_str.or zF2))
 refine thn (h.pe pins s σ H (λx H1=>_) I ⟨ρ,_,fr,hu,λx T H' ρ' s v q=>?_⟩) λv s1 ⟨x,H1,I1,r1,q1⟩=>IT pins s1 σ H1 x v R I1 r1 q1
 unfold pIt at q
 split at q
 ·rename_i t Ts
  obtain⟨a,xs,rfl,hs,z,p⟩:=v.seqI
  cases t with
  |false=>exact .inl ⟨a,xs,rfl,cB hs,k _ _ _ _ s (zF3 hs p) q⟩
  |true=>exact .inr (.inl ⟨a,xs,rfl,hs,k _ _ _ _ s (zHD hs p) q⟩)
 ·obtain⟨rfl,_⟩:=v.leafI
  exact .inr (.inr (.inl ⟨_,rfl,k _ _ _ _ s zHE q⟩))
 ·obtain⟨a,kvs,rfl,⟨ob,hd⟩,n,z,p⟩:=v.dctI
  exact .inr (.inr (.inr ⟨a,ob,kvs,rfl,hd,k _ _ _ _ s (zF5 hd p) q⟩))
 ·exact False.elim q⟩
def iP(lo:Int)(n:Nat):List Tv:=(List.range n).map λ(i:Nat)=>iT (lo+i)
theorem hX(lo:Int)(n:Nat):(iP lo n).length=n:=by simp[iP]
theorem jA{lo:Int}{n i:Nat}{T:Tv}(h:(iP lo n)[i]?=some T):i<n/\T=iT (lo+i):=by
 have l:=(List.getElem?_eq_some_iff.mp h).1
 rw[hX]at l
 refine⟨l,?_⟩
 simp only[iP,List.getElem?_map,List.getElem?_range l]at h
 exact(Option.some.inj h).symm
theorem zEX{K:W.Frag}{H:Hp}{lo:Int}{n:Nat}:iV K (Itr lo n) H (iP lo n):=λH1 hs=>by
 have l:(iP lo n).length=n:=by simp[iP]
 refine⟨λi hi=>by rw[l]at hi;exact hi,λi x H2 hi ⟨e,ex⟩=>?_,by rw[l];exact Nat.le_refl _⟩
 subst e ex
 rw[l]at hi
 exact⟨Same.refl _,iT (lo+i),by simp[iP,hi],.flat rfl⟩
def zH0(ua:UTa):UTl:=λρ Q=>uVs ua ρ λTs ρ1=>∃j:Int,Ts=[iT j] /\ -(2 ^ 62)<=j/\j<2 ^ 62/\Q (iP 0 j.toNat) ρ1
theorem hC{a:Expr}{ua:UTa}{p pos:Pos}(hg:Gl X "range")(hm:X.mg "range"=none)(ha:UA X F [a] ua)(hs:starEach [a] X.env=[(false,eval a X.env)]:=by rfl):UI X F tg (.Call (.Name "range" p) [a] [] pos) (zH0 ua):=⟨PI.imp (zDK hg hm ha.pa hs) λσ H R ⟨ρ,Q,fr,hu,k⟩=>by
 refine⟨ρ,_,fr,hu,λxs as H1 ρ1 s1 p1 q1=>?_⟩
 obtain⟨Ts,rfl,j,rfl,h1,h2,q⟩:=iE q1
 cases iF p1 with
 |cons v t=>
  cases t
  obtain⟨rfl,_⟩:=v.leafI
  exact⟨j,rfl,h1,h2,k _ _ _ _ s1 zEX q⟩⟩
theorem zEY{K:W.Frag}{H:Hp}{a:Addr}{ob:Obj}{kvs:List (Key×V)}{kts:List (Str×Tv)}(h:FzD H a ob kvs)(p:VAk K H kvs kts):iV K (ItI a ob kvs) H (kts.map λkt=>.seq true [sT kt.1,kt.2]):=λH1 hs=>by
 have l:kvs.length=kts.length:=Paired.length p
 have q:FzD H1 a ob kvs:=hs _ _ rfl h
 refine⟨λi hi=>⟨q,by rw[List.length_map]at hi;omega⟩,λi x H2 hi ⟨b,k,v,ek,nb,ex,e⟩=>?_,⟨q,by rw[List.length_map];omega⟩⟩
 subst e ex
 obtain⟨kt,ekt,e1,vv⟩:=eQ p ek
 refine⟨cI nb,.seq true [sT kt.1,kt.2],by rw[List.getElem?_map,ekt];rfl,VA.seq (t:=true) (SqT.of bF) (show 2<=100000 by decide) ?_⟩
 have e1:k=.inr kt.1:=e1
 rw[e1]
 exact .cons (.flat rfl) (.cons ((vv.hs hs).hs (gD nb)) .nil)
def zGy(u:UT):UTl:=λρ Q=>u ρ λT ρ1=>∃kts,T=.dct kts/\Q (kts.map λkt=>.seq true [sT kt.1,kt.2]) ρ1
theorem zEo{o:Expr}{u:UT}{elts:List Expr}{x1:Nat}{tpos apos pos:Pos}(h:UE X F o u)(hbase:attributeBase o "items" X.env (eval o X.env)=eval o X.env:=by rfl)(hline:(apos.endLine==pos.line)=true:=by rfl):
  UI X F (.Tuple elts x1 tpos) (.Call (.Attribute o "items" apos) [] [] pos) (zGy u):=⟨PI.imp (zEF h.pe hbase hline) λσ H R ⟨ρ,Q,fr,hu,k⟩=>by
 refine⟨ρ,_,fr,hu,λx T H1 ρ1 s1 v q=>?_⟩
 obtain⟨kts,rfl,q⟩:=q
 obtain⟨a,kvs,rfl,⟨ob,hd⟩,n,z,p⟩:=v.dctI
 exact⟨a,ob,kvs,rfl,hd,k _ _ _ _ s1 (zEY hd p) q⟩⟩
theorem zF4{K:W.Frag}{H:Hp}{a:Addr}{xs:List V}{Ts:List Tv}(h:PSeq K H false a xs)(p:VAs K H xs Ts):iV K (ItE K a) H (Ts.mapIdx λi T=>.seq true [iT (i:Nat),T]):=λH1 hs=>by
 have l:xs.length=Ts.length:=Paired.length p
 have q:=cB (h.hs hs)
 refine⟨λi hi=>⟨xs,xs[i]'(by simpa[l]using hi),q,List.getElem?_eq_getElem _⟩,λi x H2 hi ⟨b,y,ex,nb,e,hy⟩=>?_,⟨xs,q,by simp[l]⟩⟩
 subst e ex
 obtain⟨T,eT,v⟩:=eQ (p.hs hs) (hy xs q)
 refine⟨cI nb,.seq true [iT (i:Nat),T],by rw[List.getElem?_mapIdx,eT];rfl,VA.seq (t:=true) (SqT.of bF) (show 2<=100000 by decide) (.cons (.flat rfl) (.cons (v.hs (gD nb)) .nil))⟩
def zH2(ua:UTa):UTl:=λρ Q=>uVs ua ρ λTs ρ1=>∃Us,Ts=[.seq false Us]/\Q (Us.mapIdx λi T=>.seq true [iT (i:Nat),T]) ρ1
theorem tT{a:Expr}{ua:UTa}{es:List Expr}{ek:Nat}{p pos pos':Pos}(hg:Gl X "enumerate")(hm:X.mg "enumerate"=none)(ha:UA X F [a] ua)(hs:starEach [a] X.env=[(false,eval a X.env)]:=by rfl):UI X F (.Tuple es ek pos') (.Call (.Name "enumerate" p) [a] [] pos) (zH2 ua):=⟨PI.imp (zFE hg hm ha.pa hs) λσ H R ⟨ρ,Q,fr,hu,k⟩=>by
 refine⟨ρ,_,fr,hu,λxs as H1 ρ1 s1 p1 q1=>?_⟩
 obtain⟨Ts,rfl,Us,rfl,q⟩:=iE q1
 cases iF p1 with
 |cons v t=>
  cases t
  obtain⟨a,xs,rfl,hq,z,p⟩:=v.seqI
  exact⟨a,rfl,⟨xs,cB hq⟩,k _ _ _ _ s1 (zF4 hq p) q⟩⟩
theorem zHC{K:W.Frag}{H:Hp}{t:Bool}{a b:Addr}{xs ys:List V}{Ts Us:List Tv}(h:PSeq K H t a xs)(p:VAs K H xs Ts)(h':PSeq K H t b ys)(p':VAs K H ys Us):iV K (Itz t K a b) H (List.zipWith (λT U=>.seq true [T,U]) Ts Us):=λH1 hs=>by
 have l:xs.length=Ts.length:=Paired.length p
 have l':ys.length=Us.length:=Paired.length p'
 have sq:∀{c:Addr} {zs:List V},PSeq K H t c zs->SqX t K H1 c zs:=λ{c zs} h=>by
  have h:=h.hs hs
  cases t with
  |false=>exact cB h
  |true=>exact h
 have q:=sq h
 have q':=sq h'
 refine⟨λi hi=>?_,λi x H2 hi ⟨c,y,z,ex,nc,e,hy,hz⟩=>?_,⟨xs,ys,q,q',by rw[List.length_zipWith];omega⟩⟩
 ·rw[List.length_zipWith]at hi
  exact⟨xs,ys,xs[i]'(by omega),ys[i]'(by omega),q,q',List.getElem?_eq_getElem _,List.getElem?_eq_getElem _⟩
 ·subst e ex
  obtain⟨T,eT,v⟩:=eQ (p.hs hs) (hy xs q)
  obtain⟨U,eU,v'⟩:=eQ (p'.hs hs) (hz ys q')
  refine⟨cI nc,.seq true [T,U],by rw[List.getElem?_zipWith,eT,eU],VA.seq (t:=true) (SqT.of bF) (show 2<=100000 by decide) (.cons (v.hs (gD nc)) (.cons (v'.hs (gD nc)) .nil))⟩
def zI1(ua:UTa):UTl:=λρ Q=>uVs ua ρ λTs ρ1=>∃t As Bs,Ts=[.seq t As,.seq t Bs]/\Q (List.zipWith (λT U=>.seq true [T,U]) As Bs) ρ1
theorem zGs{a b:Expr}{ua:UTa}{es:List Expr}{ek:Nat}{p pos pos':Pos}(hg:Gl X "zip")(hm:X.mg "zip"=none)(ha:UA X F [a,b] ua)(hs:starEach [a,b] X.env=[(false,eval a X.env),(false,eval b X.env)]:=by rfl)(hs2:starEach [b] X.env=[(false,eval b X.env)]:=by rfl):
  UI X F (.Tuple es ek pos') (.Call (.Name "zip" p) [a,b] [] pos) (zI1 ua):=⟨PI.imp (zG4 hg hm ha.pa hs hs2) λσ H R ⟨ρ,Q,fr,hu,k⟩=>by
 refine⟨ρ,_,fr,hu,λxs as H1 ρ1 s1 p1 q1=>?_⟩
 obtain⟨Ts,rfl,t,As,Bs,rfl,q⟩:=iE q1
 have sq:∀{c:Addr} {zs:List V},PSeq X.K H1 t c zs->SqX t X.K H1 c zs:=λ{c zs} h=>by
  cases t with
  |false=>exact cB h
  |true=>exact h
 cases iF p1 with
 |cons v r=>
  cases r with
  |cons v' r=>
   cases r
   obtain⟨a,xs,rfl,hq,z,p⟩:=v.seqI
   obtain⟨b,ys,rfl,hq',z',p'⟩:=v'.seqI
   exact⟨t,a,b,rfl,⟨xs,sq hq⟩,⟨ys,sq hq'⟩,k _ _ _ _ s1 (zHC hq p hq' p') q⟩⟩
end
abbrev UG:=Tv->aR->(aR->Prop)->Prop
abbrev UGs:=List Tv->aR->(aR->Prop)->Prop
def zBU(K:W.Frag)(F:Fm)(m:Nat)(g:UG):TG:=λv σ H QQ=>∃T ρ Q,VA K H v T/\FrOk K F ρ σ H/\g T ρ Q/\∀σ' ρ',FrOk K F ρ' σ' H->σ'.length=σ.length->σ'.drop m=σ.drop m->ρ'.drop m=ρ.drop m->Sbv ρ' ρ->Q ρ'->QQ σ' H
def zHu(K:W.Frag)(F:Fm)(m:Nat)(g:UGs):TGs:=λvs σ H QQ=>∃Ts ρ Q,VAs K H vs Ts/\FrOk K F ρ σ H/\g Ts ρ Q/\∀σ' ρ',FrOk K F ρ' σ' H->σ'.length=σ.length->σ'.drop m=σ.drop m->ρ'.drop m=ρ.drop m->Sbv ρ' ρ->Q ρ'->QQ σ' H
structure UGt (X:Cx) (F:Fm) (m:Nat) (tg:Expr) (g:UG):Prop where
 pg:PG X tg (zBU X.K F m g)
structure rV (X:Cx) (F:Fm) (m:Nat) (tgs:List Expr) (g:UGs):Prop where
 pg:PGs X tgs (zHu X.K F m g)
theorem PG.imp{X:Cx}{tg:Expr}{t t':TG}(h:PG X tg t)(i:∀v σ H Q,t' v σ H Q->t v σ H Q):PG X tg t':=λpins s σ H v u Q I r q=>h pins s σ H v u Q I r (i v σ H Q q)
theorem PGs.imp{X:Cx}{tg:List Expr}{t t':TGs}(h:PGs X tg t)(i:∀v σ H Q,t' v σ H Q->t v σ H Q):PGs X tg t':=λpins s σ H v u Q I r q=>h pins s σ H v u Q I r (i v σ H Q q)
section
variable{X:Cx}{F:Fm}{pos:Pos}{m:Nat}
def gN(i:Nat):UG:=λT ρ Q=>Q (ρ.set i (.va T))
theorem drop_set{α:Type}{l:List α}{i m:Nat}{x:α}(h:i<m):(l.set i x).drop m=l.drop m:=by
 rw[List.drop_set,if_pos h]
theorem zFq{ρ:aR}{i:Nat}{T:Tv}:Sbv (ρ.set i (.va T)) ρ:=λj s e mm=>by
 by_cases z:i=j
 ·subst z
  have hi:i<ρ.length:=by
   have:=(List.getElem?_eq_some_iff.mp e).1
   rwa[List.length_set]at this
  rw[List.getElem?_set_self hi]at e
  cases e;cases mm
 ·rw[List.getElem?_set_ne z]at e;exact⟨s,e,mm⟩
theorem bY(i:Nat){x:Str}(hm:i<m)(hN:X.N.Nodup)(hi:X.N[i]?=some x)(hx:Loc X.env.scope x)(hf:X.fn x=true\/X.env.scope.names.lookup x=some .local:=by first|exact .inl rfl|exact .inr rfl|assumption):UGt X F m (.Name x pos) (gN i):=⟨PG.imp (zFG hN hi hx hf) λv σ H QQ ⟨T,ρ,Q,vv,fr,h,k⟩=>
 k _ _ (fr.set (s:=.va T) (λ_=>⟨v,rfl,vv⟩) (λz=>absurd z Bool.false_ne_true)) List.length_set (drop_set hm) (drop_set hm) zFq h⟩
def gT(n:Nat)(g:UGs):UG:=λT ρ Q=>∃Ts,T=.seq true Ts/\Ts.length=n/\g Ts ρ Q
def gNl:UGs:=λTs ρ Q=>Ts=[]/\Q ρ
def gCn(g:UG)(gs:UGs):UGs:=λTs ρ Q=>∃T r,Ts=T::r/\g T ρ λρ1=>gs r ρ1 Q
theorem iB:rV X F m [] gNl:=⟨PGs.imp zFF λvs σ H QQ ⟨Ts,ρ,Q,vv,fr,⟨e,h⟩,k⟩=>by
 subst e
 cases vv
 exact⟨rfl,k _ _ fr rfl rfl rfl (Sbv.refl _) h⟩⟩
theorem dE{e:Expr}{es:List Expr}{g:UG}{gs:UGs}(h1:UGt X F m e g)(h2:rV X F m es gs)(hs:(assignEach (e::es) X.env).map (·.2)=assign e X.env::(assignEach es X.env).map (·.2):=by rfl):rV X F m (e::es) (gCn g gs):=⟨PGs.imp (zEG h1.pg h2.pg hs) λvs σ H QQ ⟨Ts,ρ,Q,vv,fr,⟨T,r,e,h⟩,k⟩=>by
 subst e
 cases vv with
 |cons v vs'=>
  refine⟨_,_,rfl,T,ρ,_,v,fr,h,λσ' ρ' f' l d dr sb q=>⟨r,ρ',Q,vs',f',q,λσ2 ρ2 f2 l2 d2 dr2 sb2 q2=>?_⟩⟩
  exact k _ _ f2 (l2.trans l) (d2.trans d) (dr2.trans dr) (sb.trans sb2) q2⟩
theorem iG{es:List Expr}{k:Nat}{g:UGs}(n:Nat)(hc:X.calm=true)(h:rV X F m es g)(hn:(assignEach es X.env).length=n:=by rfl)(hst:(assignEach es X.env).findIdx? (·.1)=none:=by rfl):UGt X F m (.Tuple es k pos) (gT n g):=⟨PG.imp (zG5 hc h.pg hn hst) λv σ H QQ ⟨T,ρ,Q,vv,fr,⟨Ts,e,el,h⟩,k⟩=>by
 subst e
 obtain⟨a,xs,rfl,hq,z,p⟩:=vv.seqI
 exact⟨a,xs,rfl,hq,(Paired.length p).trans el,Ts,ρ,Q,p,fr,h,k⟩⟩
end
def blk(own:Nat)(fr:List Nat)(ρ:aR):aR:=List.replicate own .no++fr.map λi=>ρ.getD i .no
def nA:List Nat->List Sl->aR->aR
 |i::fr,s::ss,ρ=>nA fr ss (ρ.set i s)
 |_,_,ρ=>ρ
def bck(own:Nat)(fr:List Nat)(ρ ρ':aR):aR:=nA fr (ρ'.drop own) ρ
def fJ(own:Nat)(fr:List Nat)(g:UG)(tf:UTt)(ue:UT):List Tv->aR->(List Tv->aR->Prop)->Prop
 |[],ρ,Q=>Q [] ρ
 |T::Ts,ρ,Q=>g T (blk own fr ρ) λρ1=>tf ρ1 λb ρ2=>if b=true then ue ρ2 λU ρ3=>fJ own fr g tf ue Ts (bck own fr ρ ρ3) λUs ρ4=>Q (U::Us) ρ4 else fJ own fr g tf ue Ts (bck own fr ρ ρ2) Q
def iK(own:Nat)(fr:List Nat)(ui:UTl)(g:UG)(tf:UTt)(ue:UT):UTl:=λρ Q=>ui ρ λTs ρ1=>Ts.length<=100000/\fJ own fr g tf ue Ts ρ1 Q
theorem xS:∀(fr:List Nat) (ss:List Sl) (ρ:aR),(nA fr ss ρ).length=ρ.length
 |[],_,_=>rfl
 |_::_,[],_=>rfl
 |i::fr,s::ss,ρ=>by show(nA fr ss _).length=_;rw[xS fr ss,List.length_set]
theorem sF:∀(fr:List Nat) (ss:List Sl) (ρ:aR) (i:Nat) (s:Sl),fr.length<=ss.length->(nA fr ss ρ)[i]?=some s->(∃j:Nat,fr[j]?=some i/\ss[j]?=some s)\/(i∉fr/\ρ[i]?=some s)
 |[],_,_,i,s,_,h=>.inr ⟨by simp,h⟩
 |_::_,[],_,_,_,l,_=>by simp at l
 |i0::fr,s0::ss,ρ,i,s,l,h=>by
  rcases sF fr ss (ρ.set i0 s0) i s (by simpa using l) h with⟨j,e1,e2⟩|⟨n,e⟩
  ·exact .inl ⟨j+1,by simpa using e1,by simpa using e2⟩
  ·by_cases z:i0=i
   ·subst z
    have hi:i0<ρ.length:=by
     have:=(List.getElem?_eq_some_iff.mp e).1
     rwa[List.length_set]at this
    rw[List.getElem?_set_self hi]at e
    exact .inl ⟨0,rfl,by simpa using e⟩
   ·rw[List.getElem?_set_ne z]at e
    exact .inr ⟨by simp[n,Ne.symm z],e⟩
theorem pH{own:Nat}{fr:List Nat}{σ ow:St}(ho:ow.length=own){j i:Nat}(h:fr[j]?=some i):ixv (ow++σf fr σ) (own+j)=ixv σ i:=by
 unfold ixv σf
 rw[List.getElem?_append_right (by omega),show own+j-ow.length=j by omega,List.getElem?_map,h]
 show(some (σ.getD i none)).join=_
 rw[List.getD_eq_getElem?_getD]
 cases σ[i]? with
 |none=>rfl
 |some o=>rfl
section
variable{K:W.Frag}{F:Fm}{ρ ρ4 ρ6:aR}{σ ow:St}{H H6:Hp}{own:Nat}{fr:List Nat}
theorem lD{i:Nat}{s:Sl}(h:(blk own fr ρ)[i]?=some s):(i<own/\s=.no)\/∃j k,i=own+j/\fr[j]?=some k/\s=ρ.getD k .no:=by
 unfold blk at h
 by_cases hi:i<own
 ·rw[List.getElem?_append_left (by simpa using hi),List.getElem?_replicate,if_pos hi]at h
  exact .inl ⟨hi,(Option.some.inj h).symm⟩
 ·rw[List.getElem?_append_right (by simpa using hi),List.length_replicate,List.getElem?_map]at h
  obtain⟨k,e,rfl⟩:=Option.map_eq_some_iff.mp h
  exact .inr ⟨i-own,k,by omega,e,rfl⟩
theorem kS{k:Nat}{s:Sl}(e:s=ρ.getD k .no)(m:s≠.no):ρ[k]?=some s:=by
 rw[List.getD_eq_getElem?_getD]at e
 cases q:ρ[k]? with
 |none=>rw[q]at e;exact absurd e m
 |some t=>rw[q]at e;rw[e];rfl
theorem FrOk.pick(f:FrOk K F ρ σ H)(nd:fr.Nodup):FrOk K F (blk own fr ρ) (σc own fr σ) H:=by
 have val:∀{j k:Nat},fr[j]?=some k->ixv (σc own fr σ) (own+j)=ixv σ k:=λh=>pH (List.length_replicate) h
 refine⟨f.d0,f.kp,?_,λi s e=>?_,λi i' a s t e e' m m' q q'=>?_⟩
 ·unfold blk σc σf
  simp
 ·rcases lD e with⟨_,rfl⟩|⟨j,k,rfl,ek,es⟩
  ·trivial
  ·rw[val ek]
   cases s with
   |no=>trivial
   |_=>exact f.at_ k _ (kS es (λz=>by cases z))
 ·rcases lD e with⟨_,rfl⟩|⟨j,k,rfl,ek,es⟩
  ·cases m
  ·rcases lD e' with⟨_,rfl⟩|⟨j',k',rfl,ek',es'⟩
   ·cases m'
   ·rw[val ek]at q
    rw[val ek']at q'
    have:=f.ap k k' a s t (kS es (λz=>by rw[z]at m;cases m)) (kS es' (λz=>by rw[z]at m';cases m')) m m' q q'
    subst this
    have h1:=(List.getElem?_eq_some_iff.mp ek).1
    rw[(List.getElem?_inj h1 nd).mp (ek.trans ek'.symm)]
theorem Stp.back(f:FrOk K F ρ σ H)(nd:fr.Nodup)(s:Stp K F (ow++σf fr σ) ρ4 H ρ6 H6)(f4:FrOk K F ρ4 (ow++σf fr σ) H)(ho:ow.length=own)(hd:ρ4.drop own=(blk own fr ρ).drop own)(sb:Sbv ρ4 (blk own fr ρ)):Stp K F σ ρ H (bck own fr ρ ρ6) H6:=by
 -- a slot of the block that is one's own is the def's own
 have dm:∀(i:Nat) (t:Sl) (a:Addr),ρ4[i]?=some t->eE t=true->ixv (ow++σf fr σ) i=some (.ref a)->∃k u,k∈fr/\ρ[k]?=some u/\eE u=true/\ixv σ k=some (.ref a):=λi t a e m q=>by
  obtain⟨u,eu,mu⟩:=sb i t e m
  rcases lD eu with⟨_,rfl⟩|⟨j,k,rfl,ek,es⟩
  ·cases mu
  ·exact⟨k,u,List.mem_of_getElem? ek,kS es (λz=>by rw[z]at mu;cases mu),mu,by rw[<-pH ho ek];exact q⟩
 have st:Stay F ρ σ H H6:=λb o e d n=>s.st b o e d λi t e1 m q=>by
  obtain⟨k,u,_,eu,mu,qu⟩:=dm i t b e1 m q
  exact n k u eu mu qu
 have l6:fr.length<=(ρ6.drop own).length:=by
  have:=s.fr.len
  rw[List.length_append]at this
  rw[List.length_drop,this,ho]
  unfold σf
  rw[List.length_map]
  omega
 have sub:Sbv (bck own fr ρ ρ6) ρ:=λi t e m=>by
  rcases sF fr _ ρ i t l6 e with⟨j,ej,et⟩|⟨_,e⟩
  ·rw[List.getElem?_drop]at et
   obtain⟨u,eu,mu⟩:=s.sub _ t et m
   have:(ρ4.drop own)[j]?=some u:=by rw[List.getElem?_drop];exact eu
   rw[hd,List.getElem?_drop]at this
   rcases lD this with⟨z,_⟩|⟨j',k,ejj,ek,es⟩
   ·omega
   ·have:j'=j:=by omega
    subst this
    rw[ej]at ek;cases ek
    exact⟨u,kS es (λz=>by rw[z]at mu;cases mu),mu⟩
  ·exact⟨t,e,m⟩
 have hs:HS H H6:=s.hs f4
 refine⟨⟨f.d0,s.fr.kp,by unfold bck;rw[xS];exact f.len,λi t e=>?_,λi i' a t t' e e' m m' q q'=>?_⟩,st,sub,s.tr⟩
 ·rcases sF fr _ ρ i t l6 e with⟨j,ej,et⟩|⟨ni,e⟩
  ·rw[List.getElem?_drop]at et
   have:=s.fr.at_ _ t et
   rwa[pH ho ej]at this
  ·have h:=f.at_ i t e
   have keep:∀a o,eE t=true->ixv σ i=some (.ref a)->H a=some o->H6 a=some o:=λa o m q e1=>s.st a o e1 (f.fresh_nodk (f.own_at e m q).2) λi' t' e2 m2 q2=>by
    obtain⟨k,u,hk,eu,mu,qu⟩:=dm i' t' a e2 m2 q2
    have:=f.ap k i a u t eu e mu m qu q
    subst this
    exact ni hk
   cases t with
   |no=>trivial
   |va T=>obtain⟨y,e1,v⟩:=h;exact⟨y,e1,v.hs hs⟩
   |own Ts=>obtain⟨a,xs,e1,e2,e3,z,p⟩:=h;exact⟨a,xs,e1,keep a _ rfl e1 e2,e3,z,p.hs hs⟩
   |dct kts=>obtain⟨a,kvs,e1,e2,e3,n,z,p⟩:=h;exact⟨a,kvs,e1,keep a _ rfl e1 e2,e3,n,z,p.hs hs⟩
   |dk=>exact h
 ·obtain⟨u,eu,mu⟩:=sub i t e m
  obtain⟨u',eu',mu'⟩:=sub i' t' e' m'
  exact f.ap i i' a u u' eu eu' mu mu' q q'
end
theorem sX{K:W.Frag}{F:Fm}{own:Nat}{fr:List Nat}{ui:UTl}{g:UG}{tf:UTt}{ue:UT}(nd:fr.Nodup)(σ:St)(H:Hp)(QQ:VK)(h:qO K F (iK own fr ui g tf ue) σ H QQ):qH own fr (zBT K F ui) (zBU K F own g) (qN K F tf) (dX K F ue) σ H QQ:=by
 obtain⟨ρ,Q,f,h,k⟩:=h
 refine⟨ρ,_,f,h,λJ Ts H1 ρ1 s1 it q1 a na=>?_⟩
 obtain⟨len,q1⟩:=q1
 refine⟨Ts.length,λi ys H2=>∃Us ρi,Stp K F σ ρ1 H1 ρi H2/\VAs K H2 ys Us/\Us.length<=i/\fJ own fr g tf ue (Ts.drop i) ρi (λVs ρ'=>Q (Us++Vs) ρ'),⟨[],ρ1,Stp.same s1.fr (cI na),.nil,Nat.le_refl _,q1⟩,?_⟩
 rintro i ys H2 hi ha ⟨Us,ρi,si,p,hl,q⟩
 have hs1:=si.hs s1.fr
 obtain⟨go,yld,stop⟩:=it H2 hs1
 by_cases hlt:i<Ts.length
 ·refine .inr ⟨hlt,go i hlt,λx H3 hy=>?_⟩
  obtain⟨sm,T,eT,vx⟩:=yld i x H3 hlt hy
  have s3:=si.trans (Stp.same si.fr sm)
  have ha3:=sm _ _ ha
  have ed:Ts.drop i=T::Ts.drop (i+1):=by
   rw[List.drop_eq_getElem_cons hlt]
   congr 1
   rw[List.getElem?_eq_getElem hlt]at eT
   exact Option.some.inj eT
  rw[ed]at q
  have nodk:=s1.fr.none_nodk na
  have nown:=s3.notown s1.fr na
  refine⟨T,blk own fr ρi,_,vx,s3.fr.pick nd,q,λσ4 ρ4 f4 l4 d4 dr4 sb4 q4=>?_⟩
  have e4:σ4=σ4.take own++σf fr σ:=by
   have:σ4.drop own=σf fr σ:=by
    rw[d4]
    unfold σc
    rw[List.drop_append_of_le_length (by simp),List.drop_of_length_le (by simp),List.nil_append]
   rw[<-this,List.take_append_drop]
  have lo:(σ4.take own).length=own:=by
   rw[List.length_take,l4]
   unfold σc
   simp
  have notin:∀(j:Nat) (t:Sl),ρ4[j]?=some t->eE t=true->ixv σ4 j≠some (.ref a):=λj t e m z=>by
   obtain⟨u,eu,mu⟩:=sb4 j t e m
   rcases lD eu with⟨_,rfl⟩|⟨j',k,rfl,ek,es⟩
   ·cases mu
   ·rw[e4,pH lo ek]at z
    exact nown k u (kS es (λz=>by rw[z]at mu;cases mu)) mu z
  refine⟨⟨σ4.take own,lo,e4⟩,ρ4,_,f4,q4,λb H5 ρ5 s5 q5=>?_⟩
  have a5:H5 a=some (.lst ys):=s5.st a _ ha3 nodk notin
  cases b with
  |true=>
   refine bH ?_
   rw[if_pos rfl]at q5
   refine⟨ρ5,_,s5.fr,q5,λy U H6 ρ6 s6 v6 q6=>?_⟩
   have s46:=s5.trans s6
   have a6:H6 a=some (.lst ys):=s46.st a _ ha3 nodk notin
   have lys:ys.length=Us.length:=Paired.length p
   refine⟨a6,zAQ (by omega),Us++[U],bck own fr ρi ρ6,?_,?_,by rw[List.length_append,List.length_singleton];omega,?_⟩
   ·rw[e4]at s46 f4
    exact(s3.trans (Stp.back s3.fr nd s46 f4 lo dr4 sb4)).put s1.fr na a6 rfl _
   ·have h36:=s46.hs f4
    exact VAs.hs (fN a6 rfl) (Paired.snoc ((p.hs sm.hs).hs h36) v6)
   ·simpa using q6
  |false=>
   refine aV ?_
   rw[if_neg Bool.false_ne_true]at q5
   refine⟨a5,Us,bck own fr ρi ρ5,?_,?_,by omega,q5⟩
   ·rw[e4]at s5 f4
    exact s3.trans (Stp.back s3.fr nd s5 f4 lo dr4 sb4)
   ·exact(p.hs sm.hs).hs (s5.hs f4)
 ·have e:i=Ts.length:=by omega
  subst e
  rw[List.drop_length]at q
  have q:Q (Us++[]) ρi:=q
  rw[List.append_nil]at q
  exact .inl ⟨stop,k a ys Us H2 ρi (s1.trans si) (s1.non na) ha (by omega) p q⟩
section
variable{X:Cx}{F:Fm}{sc:Scope}{XN N:List Str}{own:Nat}{fr:List Nat}{scope:Scope}{elt tg iter:Expr}{ifs:List Expr}{pos:Pos}{ui:UTl}{g:UG}{tf:UTt}{ue:UT}
structure UF (X:Cx) (F:Fm) (ifs:List Expr) (u:UTt):Prop where
 pf:PFs X ifs (qN X.K F u)
def vZ:UTt:=λρ Q=>Q true ρ
theorem jE:UF X F [] vZ:=⟨λpins s σ H Q I ⟨ρ,Q',f,h,k⟩=>zG8 pins s σ H Q I (k _ _ _ (Stp.refl f) h)⟩
theorem cQ{c:Expr}{t:UTt}(h:UB X F c t):UF X F [c] t:=⟨zG7 h.pt⟩
theorem jP(hc:X.calm=true)(S:kO sc XN N own fr scope)(nd:fr.Nodup)(hi:UI X F tg iter ui)
  (hg:∀cl C fp s H,UGt (cD X N scope cl C fp s H) F own tg g) (hf:∀cl C fp s H,UF (cD X N scope cl C fp s H) F ifs tf) (he:∀cl C fp s H,UE (cD X N scope cl C fp s H) F elt ue)
  (hs:∀x,foldedSetIterable iter X.env x=pure x:=by intro _;rfl) (hsc:X.env.scope=sc:=by rfl) (hxn:X.N=XN:=by rfl):UL X F (.ListComp elt [⟨tg,iter,ifs,0⟩] scope pos) (iK own fr ui g tf ue):=
 ⟨PE.imp (zFJ hc S hi.pi (λcl C fp s H=>(hg cl C fp s H).pg) (λcl C fp s H=>(hf cl C fp s H).pf) (λcl C fp s H=>(he cl C fp s H).pe) hs hsc hxn) (sX nd)⟩
theorem PS.fz{st:Stmt}{t:TS}(h:PS X st t):PS X st (λD σ H=>t {D with nx:=λσ' H'=>D.nx σ' H'\/∃a o,H' a=some o/\fzb o=true/\∀ob,D.nx σ' (upd H' a (.frz ob o))} σ H):=λpins s σ H D I q=>thn (h pins s σ H _ I q) λfl s' z=>by
 cases fl with
 |next=>
  obtain⟨σ',H',I',q⟩:=z
  rcases q with q|⟨a,o,e,n,q⟩
  ·exact⟨σ',H',I',q⟩
  ·obtain⟨ob,I2⟩:=I'.fz e n
   exact⟨σ',_,I2,q ob⟩
 |brk=>exact z
 |cont=>exact z
 |ret u=>exact z
theorem zFg{i:Nat}{x:Str}{pos' spos:Pos}(hc:X.calm=true)(hN:X.N.Nodup)(hx:X.N[i]?=some x)(hl:Loc X.env.scope x)(S:kO sc XN N own fr scope)(nd:fr.Nodup)(hi:UI X F tg iter ui)
  (hg:∀cl C fp s H,UGt (cD X N scope cl C fp s H) F own tg g) (hf:∀cl C fp s H,UF (cD X N scope cl C fp s H) F ifs tf) (he:∀cl C fp s H,UE (cD X N scope cl C fp s H) F elt ue)
  (hsw:swapsWith (.ListComp elt [⟨tg,iter,ifs,0⟩] scope pos) (some (.Name x pos')) spos.line X.env=pure true:=by rfl)
  (hf':X.fn x=true\/X.env.scope.names.lookup x=some .local:=by first|exact .inl rfl|exact .inr rfl|assumption)
  (hs:∀x,foldedSetIterable iter X.env x=pure x:=by intro _;rfl) (hsc:X.env.scope=sc:=by rfl) (hxn:X.N=XN:=by rfl):US X F (.Assign [.Name x pos'] (.ListComp elt [⟨tg,iter,ifs,0⟩] scope pos) spos) (jY i (uL (iK own fr ui g tf ue))):=
 ⟨PS.imp (PS.fz (zFA hc hN hx hl S hi.pi (λcl C fp s H=>(hg cl C fp s H).pg) (λcl C fp s H=>(hf cl C fp s H).pf) (λcl C fp s H=>(he cl C fp s H).pe) hsw hf' hs hsc hxn)) λD σ H ⟨ρ,P,f,h,k1,_⟩=>by
  refine sX nd σ H _ ⟨ρ,_,f,h,λa xs Ts H' ρ' s n e z p q=>?_⟩
  refine .inr ⟨a,_,e,rfl,λob=>?_⟩
  have s2:=s.put f n e rfl (.frz ob (.lst xs))
  exact k1 _ _ _ (s2.fr.set (s:=.va (.seq false Ts)) (λ_=>⟨_,rfl,VA.seq (t:=false) ⟨ob,bF⟩ z (p.hs (fN e rfl))⟩) (λz=>absurd z Bool.false_ne_true)) (s2.hs f) q⟩
def iS(g:UG)(ub:UTs):List Tv->PEnds->aR->Prop
 |[],P,ρ=>P.nx ρ
 |T::Ts,P,ρ=>g T ρ λρ1=>ub {P with nx:=λρ'=>iS g ub Ts P ρ',ct:=λρ'=>iS g ub Ts P ρ',bk:=P.nx} ρ1
def zJg(ui:UTl)(g:UG)(ub:UTs):UTs:=λP ρ=>ui ρ λTs ρ1=>iS g ub Ts P ρ1
theorem eY{body:List Stmt}{ub:UTs}{m:Nat}(hp:PassesOwn (model X.prog X.w) X.A X.env X.xe)(hc:X.calm=true)(hi:UI X F tg iter ui)(hg:UGt X F m tg g)(hb:USs X F body ub)
  (hs:∀x,foldedSetIterable iter X.env x=pure x:=by intro _;rfl):US X F (.For tg iter body [] pos) (zJg ui g ub):=⟨PS.imp (zG3 hp hc hi.pi hg.pg hb.ps hs) λD σ H ⟨ρ,P,f,h,k1,k2,k3,k4⟩=>by
 refine⟨ρ,_,f,h,λJ Ts H1 ρ1 s1 it q1=>?_⟩
 have h01:=s1.hs f
 refine⟨λi m σ' H'=>m=Ts.length-i/\i<=Ts.length/\HS H1 H'/\∃ρi,FrOk X.K F ρi σ' H'/\iS g ub (Ts.drop i) P ρi,⟨_,rfl,Nat.zero_le _,HS.refl _,ρ1,s1.fr,q1⟩,?_⟩
 rintro i m σ' H' ⟨rfl,hi,hs,ρi,fi,q⟩
 obtain⟨go,yld,stop⟩:=it H' hs
 by_cases hlt:i<Ts.length
 ·refine .inr ⟨go i hlt,λσ2 H2=>HS H1 H2/\∃ρ2,FrOk X.K F ρ2 σ2 H2/\iS g ub (Ts.drop (i+1)) P ρ2,λσ2 H2 ⟨hs2,ρ2,f2,q2⟩=>⟨_,by omega,rfl,hlt,hs2,ρ2,f2,q2⟩,λx H3 hy=>?_⟩
  obtain⟨sm,T,eT,vx⟩:=yld i x H3 hlt hy
  have ed:Ts.drop i=T::Ts.drop (i+1):=by
   rw[List.drop_eq_getElem_cons hlt]
   congr 1
   rw[List.getElem?_eq_getElem hlt]at eT
   exact Option.some.inj eT
  rw[ed]at q
  have f3:=(Stp.same fi sm).fr
  refine⟨T,ρi,_,vx,f3,q,λσ4 ρ4 f4 _ _ _ _ q4=>?_⟩
  have h13:=hs.trans sm.hs
  exact⟨ρ4,_,f4,q4,λσ5 H5 ρ5 f5 hs5 q5=>⟨h13.trans hs5,ρ5,f5,q5⟩,k2,λσ5 H5 ρ5 f5 hs5 q5=>k1 _ _ _ f5 (h01.trans (h13.trans hs5)) q5,λσ5 H5 ρ5 f5 hs5 q5=>⟨h13.trans hs5,ρ5,f5,q5⟩⟩
 ·have e:i=Ts.length:=by omega
  subst e
  rw[List.drop_length]at q
  exact .inl ⟨stop,k1 _ _ _ fi (h01.trans hs) q⟩⟩
def zGL(t:UTt)(ub:UTs):UTs:=λP ρ=>∃W:Nat->aR->Prop,(∃m,W m ρ)/\∀m ρ,W m ρ->t ρ λb ρ1=>if b=true then ub {P with nx:=λρ'=>∃m',m'<m/\W m' ρ',ct:=λρ'=>∃m',m'<m/\W m' ρ',bk:=P.nx} ρ1 else P.nx ρ1
theorem zO{c:Expr}{body:List Stmt}{t:UTt}{ub:UTs}(hp:PassesOwn (model X.prog X.w) X.A X.env X.xe)(hc:UB X F c t)(hb:USs X F body ub):US X F (.While c body [] pos) (zGL t ub):=⟨PS.imp (zEB hp hc.pt hb.ps) λD σ H ⟨ρ,P,f,⟨W,⟨m0,w0⟩,h⟩,k1,k2,k3,k4⟩=>by
 refine⟨λm σ' H'=>HS H H'/\∃ρ',FrOk X.K F ρ' σ' H'/\W m ρ',⟨m0,HS.refl _,ρ,f,w0⟩,?_⟩
 rintro m σ' H' ⟨hs,ρ',f',w⟩
 refine⟨ρ',_,f',h m ρ' w,λb H1 ρ1 s1 q1=>?_⟩
 have h1:=hs.trans (s1.hs f')
 cases b with
 |true=>
  rw[if_pos rfl]at q1
  refine bH ⟨λσ2 H2=>HS H H2/\∃m',m'<m/\∃ρ2,FrOk X.K F ρ2 σ2 H2/\W m' ρ2,λσ2 H2 ⟨hs2,m',lt,ρ2,f2,w2⟩=>⟨m',lt,hs2,ρ2,f2,w2⟩,?_⟩
  exact⟨ρ1,_,s1.fr,q1,λσ5 H5 ρ5 f5 hs5 ⟨m',lt,w5⟩=>⟨h1.trans hs5,m',lt,ρ5,f5,w5⟩,k2,λσ5 H5 ρ5 f5 hs5 q5=>k1 _ _ _ f5 (h1.trans hs5) q5,λσ5 H5 ρ5 f5 hs5 ⟨m',lt,w5⟩=>⟨h1.trans hs5,m',lt,ρ5,f5,w5⟩⟩
 |false=>
  rw[if_neg Bool.false_ne_true]at q1
  exact aV (k1 _ _ _ s1.fr h1 q1)⟩
end
end L2
namespace L2
open PySem PySem.Spec PyProof.Rows WordM
section
variable{K:W.Frag}{F:Fm}{ρ:aR}{σ:St}{H:Hp}{i:Nat}{s s':Sl}{a:Addr}{o o':HO}
theorem FrOk.put(fr:FrOk K F ρ σ H)(e:ρ[i]?=some s)(m:eE s=true)(q:ixv σ i=some (.ref a))(h:H a=some o)(n:fzb o=true)(v:HS H (upd H a o')->F.H0 a=none->xA K F (upd H a o') (some (.ref a)) s'):Stp K F σ ρ H (ρ.set i s') (upd H a o'):=by
 have hi:i<ρ.length:=(List.getElem?_eq_some_iff.mp e).1
 have h0:=(fr.own_at e m q).2
 have hd:=fr.fresh_nodk h0
 have hs:HS H (upd H a o'):=fN h (by cases o<;>first|rfl|exact absurd n Bool.false_ne_true)
 have st:∀b u,b≠a->H b=some u->upd H a o' b=some u:=λb u z e=>by rw[bI z];exact e
 have get:∀(j:Nat) (t:Sl),(ρ.set i s')[j]?=some t->(i=j/\t=s')\/(i≠j/\ρ[j]?=some t):=λj t e'=>by
  by_cases z:i=j
  ·subst z
   rw[List.getElem?_set_self hi]at e'
   exact .inl ⟨rfl,(Option.some.inj e').symm⟩
  ·rw[List.getElem?_set_ne z]at e';exact .inr ⟨z,e'⟩
 have sub:Sbv (ρ.set i s') ρ:=λj t e' m'=>by
  rcases get j t e' with⟨rfl,rfl⟩|⟨z,e'⟩
  ·exact⟨s,e,m⟩
  ·exact⟨t,e',m'⟩
 refine⟨⟨fr.d0,⟨λb u e1 n1=>st b u (λz=>by rw[z,h0]at e1;cases e1) (fr.kp.st b u e1 n1),λp c d=>?_⟩,by rw[List.length_set];exact fr.len,λj t e'=>?_,λj k b t t' e1 e2 m1 m2 q1 q2=>?_⟩,λb u e1 _ n1=>st b u (λz=>n1 i s e m (by rw[z];exact q)) e1,sub,λb u e1=>if z:b=a then⟨o',z▸bF⟩ else⟨u,st b u z e1⟩⟩
 ·obtain⟨ne,⟨S,k,e1⟩,ns,e2,l⟩:=fr.kp.dkk p c d
  exact⟨ne,⟨S,k,st _ _ (hd p c d).1.symm e1⟩,ns,st _ _ (hd p c d).2.symm e2,l⟩
 ·rcases get j t e' with⟨rfl,rfl⟩|⟨z,e'⟩
  ·rw[q];exact v hs h0
  ·have x:=fr.at_ j t e'
   cases t with
   |no=>trivial
   |va T=>obtain⟨y,e1,v⟩:=x;exact⟨y,e1,v.hs hs⟩
   |own Ts=>obtain⟨b,xs,e1,e2,e3,z',p⟩:=x;exact⟨b,xs,e1,st _ _ (λy=>z (fr.ap i j a s _ e e' m rfl q (by rw[e1,y]))) e2,e3,z',p.hs hs⟩
   |dct kts=>obtain⟨b,kvs,e1,e2,e3,n',z',p⟩:=x;exact⟨b,kvs,e1,st _ _ (λy=>z (fr.ap i j a s _ e e' m rfl q (by rw[e1,y]))) e2,e3,n',z',p.hs hs⟩
   |dk=>exact x
 ·obtain⟨u,eu,mu⟩:=sub j t e1 m1
  obtain⟨u',eu',mu'⟩:=sub k t' e2 m2
  exact fr.ap j k b u u' eu eu' mu mu' q1 q2
end
section
variable{X:Cx}{F:Fm}{e:Expr}{u:UT}{x:Str}{p apos cpos pos:Pos}
def zFi(i:Nat)(u:UT):UT:=λρ Q=>(∃Ts,ρ[i]?=some (.own Ts))/\u ρ λT ρ1=>∃Ts,ρ1[i]?=some (.own Ts)/\Ts.length<100000/\Q nT (ρ1.set i (.own (Ts++[T])))
theorem kJ(i:Nat)(h:UE X F e u)(hN:X.N[i]?=some x:=by rfl)(hv:Vis X.env.scope x:=by first|exact Or.inl rfl|exact Or.inr (Or.inl rfl)|exact Or.inr (Or.inr rfl))(hd:(x==("__debug__":Str))=false:=by decide)(hcd:(x==("__classdict__":Str))=false:=by decide)
  (hbase:attributeBase (.Name x p) "append" X.env (eval (.Name x p) X.env)=eval (.Name x p) X.env:=by rfl)
  (hfew:((backTo cpos (starEach [e] X.env)).all (λx=>!x.1)&&(backToKw cpos (keywordEach [] X.env)).all (λx=>x.1.isSome)&&decide (([e]:List Expr).length+([]:List Keyword).length+(if ([]:List Keyword).isEmpty then 0 else 1)<30))=true:=by rfl)
  (hline:(apos.endLine==cpos.line)=true:=by rfl) (hs:starEach [e] X.env=(false,eval e X.env)::starEach [] X.env:=by rfl) (hplain:(backTo cpos (starEach [] X.env)).any (·.1)=false:=by rfl) (hst:eR e=false:=by rfl):
  UE X F (.Call (.Attribute (.Name x p) "append" apos) [e] [] cpos) (zFi i u):=⟨PE.imp (qM PySem.F.plainAttrs_list PySem.F.slot_list_append PySem.F.type_list_append pF (nL hN hv hd hcd) (aB h aC hst).pa hbase hfew hline hs hplain) λσ H QQ ⟨ρ,Q,f,⟨⟨Ts0,e0⟩,hu⟩,k⟩=>by
 obtain⟨a,xs,ea,eH,e3,z,pv⟩:=f.at_ i _ e0
 refine⟨_,kQ ea,.inl ⟨rfl,xs,SqL.of eH⟩,ρ,λas ρ1=>∃T,as=[.va T]/\∃Ts,ρ1[i]?=some (.own Ts)/\Ts.length<100000/\Q nT (ρ1.set i (.own (Ts++[T]))),f,?_,λvs as H1 ρ1 s1 p1 q1=>?_⟩
 ·show u ρ _
  have:(λT ρ1=>∃Ts,ρ1[i]?=some (.own Ts)/\Ts.length<100000/\Q nT (ρ1.set i (.own (Ts++[T]))))=(λT (ρ1:aR)=>(eN ρ1 λas ρ2=>∃T',Ar.va T::as=[.va T']/\∃Ts,ρ2[i]?=some (.own Ts)/\Ts.length<100000/\Q nT (ρ2.set i (.own (Ts++[T'])))) ):=by
   funext T ρ1
   apply propext
   constructor
   ·intro z;exact⟨T,rfl,z⟩
   ·rintro⟨T',e,z⟩;cases e;exact z
  rw[this]at hu
  exact hu
 ·obtain⟨T,rfl,Ts,e1,lt,q⟩:=q1
  cases p1 with
  |cons v t=>
   cases t
   obtain⟨a',ys,ea',eH1,e3',z',pv'⟩:=s1.fr.at_ i _ e1
   rw[ea]at ea';cases ea'
   have ll:ys.length=Ts.length:=Paired.length pv'
   refine⟨a,ys,_,rfl,rfl,eH1,zAQ (by omega),k _ _ _ _ (s1.trans (s1.fr.put (s':=.own (Ts++[T])) e1 rfl ea eH1 rfl λhs h0=>⟨a,_,rfl,bF,h0,by rw[List.length_append,List.length_singleton];omega,VAs.hs hs (Paired.snoc pv' v)⟩)) (.flat rfl) q⟩⟩
def zGw(i:Nat)(u:UT):UT:=λρ Q=>(∃Ts,ρ[i]?=some (.own Ts))/\u ρ λJ ρ1=>∃(j:Int) (Ts:List Tv) (T:Tv),J=iT j/\ρ1[i]?=some (.own Ts)/\0<=j/\Ts[j.toNat]?=some T/\Q T (ρ1.set i (.own (Ts.eraseIdx j.toNat)))
theorem xJ{α β:Type}{R:α->β->Prop}:∀{l:List α}{m:List β}(n:Nat),Paired R l m->Paired R (l.eraseIdx n) (m.eraseIdx n)
 |_,_,_,.nil=>.nil
 |_,_,0,.cons _ t=>t
 |_,_,n+1,.cons r t=>.cons r (xJ n t)
theorem oS{α β:Type}{R:α->β->Prop}:∀{l:List α}{m:List β}{n:Nat}{y:β},Paired R l m->m[n]?=some y->∃x,l[n]?=some x/\R x y
 |_,_,_,_,.nil,e=>by simp at e
 |_,_,0,_,.cons r _,e=>by simp at e;subst e;exact⟨_,rfl,r⟩
 |_,_,n+1,_,.cons _ t,e=>by
  obtain⟨x,h1,h2⟩:=oS (n:=n) t (by simpa using e)
  exact⟨x,by simpa using h1,h2⟩
theorem zQ(i:Nat)(h:UE X F e u)(hN:X.N[i]?=some x:=by rfl)(hv:Vis X.env.scope x:=by first|exact Or.inl rfl|exact Or.inr (Or.inl rfl)|exact Or.inr (Or.inr rfl))(hd:(x==("__debug__":Str))=false:=by decide)(hcd:(x==("__classdict__":Str))=false:=by decide)
  (hbase:attributeBase (.Name x p) "pop" X.env (eval (.Name x p) X.env)=eval (.Name x p) X.env:=by rfl)
  (hfew:((backTo cpos (starEach [e] X.env)).all (λx=>!x.1)&&(backToKw cpos (keywordEach [] X.env)).all (λx=>x.1.isSome)&&decide (([e]:List Expr).length+([]:List Keyword).length+(if ([]:List Keyword).isEmpty then 0 else 1)<30))=true:=by rfl)
  (hline:(apos.endLine==cpos.line)=true:=by rfl) (hs:starEach [e] X.env=(false,eval e X.env)::starEach [] X.env:=by rfl) (hplain:(backTo cpos (starEach [] X.env)).any (·.1)=false:=by rfl) (hst:eR e=false:=by rfl):
  UE X F (.Call (.Attribute (.Name x p) "pop" apos) [e] [] cpos) (zGw i u):=⟨PE.imp (qM PySem.F.plainAttrs_list PySem.F.slot_list_pop PySem.F.type_list_pop zEP (nL hN hv hd hcd) (aB h aC hst).pa hbase hfew hline hs hplain) λσ H QQ ⟨ρ,Q,f,⟨⟨Ts0,e0⟩,hu⟩,k⟩=>by
 obtain⟨a,xs,ea,eH,e3,z,pv⟩:=f.at_ i _ e0
 refine⟨_,kQ ea,.inl ⟨rfl,xs,SqL.of eH⟩,ρ,λas ρ1=>∃J,as=[.va J]/\∃(j:Int) (Ts:List Tv) (T:Tv),J=iT j/\ρ1[i]?=some (.own Ts)/\0<=j/\Ts[j.toNat]?=some T/\Q T (ρ1.set i (.own (Ts.eraseIdx j.toNat))),f,?_,λvs as H1 ρ1 s1 p1 q1=>?_⟩
 ·show u ρ _
  have:(λJ ρ1=>∃(j:Int) (Ts:List Tv) (T:Tv),J=iT j/\ρ1[i]?=some (.own Ts)/\0<=j/\Ts[j.toNat]?=some T/\Q T (ρ1.set i (.own (Ts.eraseIdx j.toNat))))=(λJ (ρ1:aR)=>(eN ρ1 λas ρ2=>∃J',Ar.va J::as=[.va J']/\∃(j:Int) (Ts:List Tv) (T:Tv),J'=iT j/\ρ2[i]?=some (.own Ts)/\0<=j/\Ts[j.toNat]?=some T/\Q T (ρ2.set i (.own (Ts.eraseIdx j.toNat)))) ):=by
   funext T ρ1
   apply propext
   constructor
   ·intro z;exact⟨T,rfl,z⟩
   ·rintro⟨T',e,z⟩;cases e;exact z
  rw[this]at hu
  exact hu
 ·obtain⟨J,rfl,j,Ts,T,rfl,e1,h0,eT,q⟩:=q1
  cases p1 with
  |cons v t=>
   cases t
   obtain⟨rfl,_⟩:=VA.leafI v
   obtain⟨a',ys,ea',eH1,e3',z',pv'⟩:=s1.fr.at_ i _ e1
   rw[ea]at ea';cases ea'
   have ll:ys.length=Ts.length:=Paired.length pv'
   have lt:=(List.getElem?_eq_some_iff.mp eT).1
   obtain⟨y,ey,vy⟩:=oS pv' eT
   have s:=s1.fr.put (o':=.lst (ys.eraseIdx j.toNat)) e1 rfl ea eH1 rfl (s':=.own (Ts.eraseIdx j.toNat)) λhs h0=>⟨a,_,rfl,bF,h0,by rw[List.length_eraseIdx];split<;>omega,VAs.hs hs (xJ _ pv')⟩
   refine⟨a,ys,j,j.toNat,y,rfl,rfl,eH1,by omega,by omega,PySem.StrLaws.seqIndex_nonneg h0 (by omega),ey,k _ _ _ _ (s1.trans s) (vy.hs (s.hs s1.fr)) q⟩⟩
end
theorem Inv.frozen{X:Cx}{pins:List (Addr×Obj)}{σ:St}{H H2:Hp}{s:Shared}(I:Inv X pins σ H s)(fro:FrozenA oK H H2)(ok2:HOk X.prog X.w H2 s.heap):Inv X pins σ H2 s:=by
 refine⟨I.ok,I.os,I.bare,⟨I.base.keep,I.base.slot,λb o e n hx=>fro.none_of (I.base.free b o e n hx),I.base.there,λb xs e=>fro.keep (I.base.tups b xs e) rfl,λb o u e=>fro.keep (I.base.frzs b o u e) rfl,λb ps e=>?_⟩,I.loc,I.cell,fro.none_of I.free,λx c e=>fro.none_of (I.freeC x c e),λp hp=>?_,ok2,I.len⟩
 ·obtain⟨more,z⟩:=I.base.tbls b ps e
  exact⟨more,fro.keep z rfl⟩
 ·obtain⟨p1,p2,p3⟩:=I.pin p hp
  exact⟨p1,fro.none_of p2,p3⟩
theorem Inv.thaw{X:Cx}{pins:List (Addr×Obj)}{σ:St}{H H3 H4:Hp}{s s':Shared}(I:Inv X pins σ H s)(I3:Inv X pins σ H3 s')(th:Thaw H H3 H4):Inv X pins σ H4 s':=by
 have stay:∀b o,H3 b=some o->(∀u ob,o≠.frz ob u)->H4 b=some o:=λb o e n=>by
  rcases th b with⟨u,ob,_,_,z,_⟩|⟨_,z⟩
  ·rw[e]at z;cases z;exact absurd rfl (n u ob)
  ·rw[z];exact e
 have none4:∀b,H3 b=none->H4 b=none:=λb e=>by
  rcases th b with⟨u,ob,_,_,z,_⟩|⟨_,z⟩
  ·rw[e]at z;cases z
  ·rw[z];exact e
 refine⟨I3.ok,I3.os,I3.bare,⟨I3.base.keep,I3.base.slot,λb o e n hx=>none4 b (I3.base.free b o e n hx),I3.base.there,λb xs e=>stay b _ (I3.base.tups b xs e) (λ_ _ z=>by cases z),λb o u e=>?_,λb ps e=>?_⟩,I3.loc,I3.cell,none4 _ I3.free,λx c e=>none4 c (I3.freeC x c e),λp hp=>?_,λb o e=>?_,I3.len⟩
 ·rcases th b with⟨o',ob,n,z,_⟩|⟨_,z⟩
  ·rw[I.base.frzs b o u e]at z;cases z;exact absurd n Bool.false_ne_true
  ·rw[z];exact I3.base.frzs b o u e
 ·obtain⟨more,z⟩:=I3.base.tbls b ps e
  exact⟨more,stay b _ z (λ_ _ z=>by cases z)⟩
 ·obtain⟨p1,p2,p3⟩:=I3.pin p hp
  exact⟨p1,none4 _ p2,p3⟩
 ·have st:∀o,ObjOk X.prog X.w H3 s'.heap b o->ObjOk X.prog X.w H4 s'.heap b o:=λo x=>x.stay (λ_ _ _ r=>r) (λd r=>stay d _ r (λ_ _ z=>by cases z)) λd xs r=>stay d _ r (λ_ _ z=>by cases z)
  rcases th b with⟨o',ob,n,_,z,z'⟩|⟨_,z⟩
  ·rw[z']at e
   cases e
   obtain⟨_,y⟩:=(show ObjOk X.prog X.w H3 s'.heap b (.frz ob o) from I3.hok b _ z)
   exact st o y
  ·rw[z]at e
   exact st o (I3.hok b o e)
def pkS:Sl->Sl
 |.own Ts=>.va (.seq false Ts)
 |.dct kts=>.va (.dct kts)
 |.dk=>.no
 |s=>s
def pkE(ρ:aR):aR:=ρ.map pkS
theorem zBX{K:W.Frag}{F:Fm}{ρ:aR}{σ:St}{H H2:Hp}(f:FrOk K F ρ σ H)(fro:FrozenA oK H H2):FrOk K ⟨H2,none⟩ (pkE ρ) σ H2:=by
 have hs:=fro.hs
 refine⟨λ_ _ z=>(nomatch z),⟨λ_ _ e _=>e,λ_ _ z=>(nomatch z)⟩,by unfold pkE;rw[List.length_map];exact f.len,λi s e=>?_,λi j a s t e _ m _ _ _=>?_⟩
 ·unfold pkE at e
  rw[List.getElem?_map]at e
  obtain⟨s0,e0,rfl⟩:=Option.map_eq_some_iff.mp e
  have h:=f.at_ i s0 e0
  cases s0 with
  |no=>trivial
  |va T=>obtain⟨y,e1,v⟩:=h;exact⟨y,e1,v.hs hs⟩
  |own Ts=>
   obtain⟨a,xs,e1,e2,e3,z,p⟩:=h
   obtain⟨ob,e4⟩:=fro.fz (b:=a) rfl e2 rfl
   exact⟨_,e1,VA.seq (t:=false) ⟨ob,e4⟩ z (p.hs hs)⟩
  |dct kts=>
   obtain⟨a,kvs,e1,e2,e3,n,z,p⟩:=h
   obtain⟨ob,e4⟩:=fro.fz (b:=a) rfl e2 rfl
   exact⟨_,e1,VA.dct ⟨ob,e4⟩ n z (p.hs hs)⟩
  |dk=>trivial
 ·unfold pkE at e
  rw[List.getElem?_map]at e
  obtain⟨s0,e0,rfl⟩:=Option.map_eq_some_iff.mp e
  cases s0<;>cases m
theorem zAH{K:W.Frag}{ρ ρ':aR}{σ:St}{H2 H3:Hp}{H0:Hp}(s:Stp K ⟨H0,none⟩ σ (pkE ρ) H2 ρ' H3):Same H2 H3:=λb o e=>s.st b o e (λ_ _ z=>(nomatch z)) λi t e1 m=>by
 unfold pkE at e1
 rw[List.getElem?_map]at e1
 obtain⟨s0,e0,rfl⟩:=Option.map_eq_some_iff.mp e1
 cases s0<;>cases m
section
variable{X:Cx}{F:Fm}{e:Expr}
def zH1(u:UT):UT:=λρ Q=>u (pkE ρ) λT _=>∃v,T=.leaf v/\Q T ρ
theorem zAr{u:UT}(h:∀F,UE X F e u):UE X F e (zH1 u):=⟨λpins s σ H QQ I ⟨ρ,Q,f,hu,k⟩=>by
 obtain⟨H2,fro,ok2⟩:=zA I.hok
 have f2:=zBX f fro
 refine thn ((h ⟨H2,none⟩).pe pins s σ H2 (λx H3=>∃v ρ',Stp X.K ⟨H2,none⟩ σ (pkE ρ) H2 ρ' H3/\VA X.K H3 x (.leaf v)/\Q (.leaf v) ρ) (I.frozen fro ok2) ⟨_,_,f2,hu,λx T H' ρ' st v q=>?_⟩) λu s' ⟨x,H3,I3,r,q⟩=>?_
 ·obtain⟨w,rfl,q⟩:=q
  exact⟨w,ρ',st,v,q⟩
 ·obtain⟨v,ρ',st,va,q⟩:=q
  obtain⟨H4,th⟩:=zAv H H3
  obtain⟨rfl,fl⟩:=va.leafI
  exact⟨x,H4,I.thaw I3 th,r,k _ _ _ _ (Stp.same f (Thaw.same fro (zAH st) th)) (.flat fl) q⟩⟩
def zGx(u:UTt):UTt:=λρ Q=>u (pkE ρ) λb _=>Q b ρ
theorem zAt{u:UTt}(h:∀F,UB X F e u):UB X F e (zGx u):=⟨λpins s σ H QQ I ⟨ρ,Q,f,hu,k⟩=>by
 obtain⟨H2,fro,ok2⟩:=zA I.hok
 have f2:=zBX f fro
 refine thn ((h ⟨H2,none⟩).pt pins s σ H2 (λb H3=>∃ρ',Stp X.K ⟨H2,none⟩ σ (pkE ρ) H2 ρ' H3/\Q b ρ) (I.frozen fro ok2) ⟨_,_,f2,hu,λb H' ρ' st q=>⟨ρ',st,q⟩⟩) λb s' ⟨H3,I3,q⟩=>?_
 obtain⟨ρ',st,q⟩:=q
 obtain⟨H4,th⟩:=zAv H H3
 exact⟨H4,I.thaw I3 th,k _ _ _ (Stp.same f (Thaw.same fro (zAH st) th)) q⟩⟩
end
end L2
namespace L2
open PySem PySem.Spec PyProof.Rows WordM
mutual
def eqT:Tv->Tv->Bool
 |.leaf v,.leaf w=>eqV v w
 |.seq s xs,.seq t ys=>s==t&&bK xs ys
 |_,_=>false
def bK:List Tv->List Tv->Bool
 |[],[]=>true
 |x::xs,y::ys=>eqT x y&&bK xs ys
 |_,_=>false
end
def EqD:Nat->Tv->Prop
 |0,_=>False
 |_+1,.leaf _=>True
 |n+1,.seq _ xs=>∀U∈xs,EqD n U
 |_+1,.dct _=>False
theorem tP:∀{xs ys:List Tv},xs.length≠ys.length->bK xs ys=false
 |[],[],h=>absurd rfl h
 |[],_::_,_=>by simp[bK]
 |_::_,[],_=>by simp[bK]
 |x::xs,y::ys,h=>by
  have:=tP (xs:=xs) (ys:=ys) (λe=>h (by simp[e]))
  simp[bK,this]
theorem sL:∀{xs ys:List Tv},xs.length=ys.length->(List.range xs.length).all (λi=>eqT (xs.getD i nT) (ys.getD i nT))=bK xs ys
 |[],[],_=>by simp[bK]
 |[],_::_,h=>by simp at h
 |_::_,[],h=>by simp at h
 |x::xs,y::ys,h=>by
  have ih:=sL (xs:=xs) (ys:=ys) (by simpa using h)
  rw[List.length_cons,List.range_succ_eq_map,List.all_cons,List.all_map]
  show(eqT x y&&(List.range xs.length).all λi=>eqT (xs.getD i nT) (ys.getD i nT))=bK (x::xs) (y::ys)
  rw[ih]
  simp[bK]
theorem EqD.vp{K:W.Frag}{H:Hp}:∀{n d:Nat}{x:V}{T:Tv},EqD n T->VP K H d x T->VP K H n x T
 |0,_,_,_,h,_=>False.elim h
 |_+1,0,_,_,_,h=>False.elim h
 |n+1,d+1,x,T,h,v=>by
  rcases v with v|⟨t,a,xs,Ts,e1,e2,rfl,z,p⟩|⟨a,kvs,kts,e1,e2,rfl,_⟩
  ·exact .inl v
  ·have g:∀U∈Ts,EqD n U:=h
   refine .inr (.inl ⟨t,a,xs,Ts,e1,e2,rfl,z,?_⟩)
   clear e2 z h
   induction p with
   |nil=>exact .nil
   |cons r _ ih=>exact .cons ((g _ (.head _)).vp r) (ih λU hU=>g U (.tail _ hU))
  ·exact False.elim h
section
variable{X:Cx}{pins:List (Addr×Obj)}{σ:St}{H:Hp}{s:Shared}
theorem zE5{v:V}(h:dB v=true):eqV v v=true:=by
 cases v<;>first|exact absurd h Bool.false_ne_true|simp[eqV]
theorem PSeq.isList{a:Addr}{xs:List V}(I:Inv X pins σ H s)(h:PSeq X.K H false a xs):∃its:List Value,Vals xs its/\s.heap.IsList a its.toArray:=by
 obtain⟨its,r,p,_⟩:=I.list (cB h)
 exact⟨its,r,p.isList⟩
theorem PSeq.isTup{a:Addr}{xs:List V}(I:Inv X pins σ H s)(h:PSeq X.K H true a xs):∃its:List Value,Vals xs its/\s.heap.IsTuple a its.toArray:=by
 obtain⟨its,r,p,_⟩:=I.tuple h
 exact⟨its,r,p⟩
theorem zA0(I:Inv X pins σ H s):∀{n:Nat}{x:V}{T U:Tv},VP X.K H n x T->VP X.K H n x U->EqD n T->EqD n U->eqT T U=true
 |0,_,_,_,h,_,_,_=>False.elim h
 |n+1,x,T,U,h,h',d,d'=>by
  rcases h with⟨f,rfl⟩|⟨t,a,xs,Ts,rfl,e2,rfl,z,p⟩|⟨a,kvs,kts,rfl,e2,rfl,_⟩
  ·rcases h' with⟨_,rfl⟩|⟨t',a',xs',Ts',rfl,_⟩|⟨a',kvs',kts',rfl,_⟩
   ·simp[eqT,zE5 f]
   ·cases f
   ·cases f
  ·rcases h' with⟨f,rfl⟩|⟨t',a',xs',Ts',e1',e2',rfl,z',p'⟩|⟨a',kvs',kts',e1',e2',rfl,_⟩
   ·cases f
   ·cases e1'
    have tt:t=t':=by
     cases t<;>cases t'<;>first|rfl|skip
     ·obtain⟨_,_,l1⟩:=PSeq.isList I e2
      obtain⟨_,_,l2⟩:=PSeq.isTup I e2'
      exact absurd rfl (SeqAt.ne_of_list_tuple l1 l2)
     ·obtain⟨_,_,l1⟩:=PSeq.isList I e2'
      obtain⟨_,_,l2⟩:=PSeq.isTup I e2
      exact absurd rfl (SeqAt.ne_of_list_tuple l1 l2)
    subst tt
    have ex:xs=xs':=by
     cases t with
     |false=>exact I.list_inj (cB e2) (cB e2')
     |true=>exact I.tuple_inj e2 e2'
    subst ex
    have d:∀U∈Ts,EqD n U:=d
    have d':∀U∈Ts',EqD n U:=d'
    have key:∀{xs:List V} {Ts Ts':List Tv},Paired (VP X.K H n) xs Ts->Paired (VP X.K H n) xs Ts'->(∀U∈Ts,EqD n U)->(∀U∈Ts',EqD n U)->bK Ts Ts'=true:=by
     intro xs Ts Ts' p
     induction p generalizing Ts' with
     |nil=>intro p' _ _;cases p';simp[bK]
     |cons r _ ih=>
      intro p' d d'
      cases p' with
      |cons r' t'=>simp[bK,zA0 I r r' (d _ (.head _)) (d' _ (.head _)),ih t' (λU hU=>d U (.tail _ hU)) (λU hU=>d' U (.tail _ hU))]
    simp[eqT,key p p' d d']
   ·exact False.elim d'
  ·exact False.elim d
theorem jM{x:V}(h:dB x=true):x=.non\/(∃b,x=.bl b)\/(∃i,x=.int i)\/∃z,x=.str z:=by
 cases x with
 |non=>exact .inl rfl
 |bl b=>exact .inr (.inl ⟨b,rfl⟩)
 |int i=>exact .inr (.inr (.inl ⟨i,rfl⟩))
 |str z=>exact .inr (.inr (.inr ⟨z,rfl⟩))
 |_=>exact absurd (show false=true from h) Bool.false_ne_true
open SeqAt in
theorem oU(I:Inv X pins σ H s){A:Around}(hu:A.units<cLine){x:V}{v:Value}{t:Bool}{a:Addr}{xs:List V}(f:dB x=true)(r:RelV x v)(h:PSeq X.K H t a xs):
  EqAt A s v (.ref a) false/\EqAt A s (.ref a) v false/\RcAt A s v (.ref a) false/\RcAt A s (.ref a) v false/\RcNeAt A s v (.ref a) true/\RcNeAt A s (.ref a) v true:=by
 cases t with
 |false=>
  obtain⟨_,_,l⟩:=PSeq.isList I h
  rcases jM f with rfl|⟨b,rfl⟩|⟨b,rfl⟩|⟨b,rfl⟩
  ·cases r;exact⟨.none_list l hu,.list_none l hu,.none_list l hu,.list_none l hu,.none_list l hu,.list_none l hu⟩
  ·cases r;exact⟨.bool_list b l hu,.list_bool b l hu,.bool_list b l hu,.list_bool b l hu,.bool_list b l hu,.list_bool b l hu⟩
  ·obtain⟨t,rfl⟩:=r;exact⟨.int_list b t l hu,.list_int b t l hu,.int_list b t l hu,.list_int b t l hu,.int_list b t l hu,.list_int b t l hu⟩
  ·obtain⟨t,rfl⟩:=r;exact⟨.str_list b t l hu,.list_str b t l hu,.str_list b t l hu,.list_str b t l hu,.str_list b t l hu,.list_str b t l hu⟩
 |true=>
  obtain⟨_,_,l⟩:=PSeq.isTup I h
  rcases jM f with rfl|⟨b,rfl⟩|⟨b,rfl⟩|⟨b,rfl⟩
  ·cases r;exact⟨.none_tuple l hu,.tuple_none l hu,.none_tuple l hu,.tuple_none l hu,.none_tuple l hu,.tuple_none l hu⟩
  ·cases r;exact⟨.bool_tuple b l hu,.tuple_bool b l hu,.bool_tuple b l hu,.tuple_bool b l hu,.bool_tuple b l hu,.tuple_bool b l hu⟩
  ·obtain⟨t,rfl⟩:=r;exact⟨.int_tuple b t l hu,.tuple_int b t l hu,.int_tuple b t l hu,.tuple_int b t l hu,.int_tuple b t l hu,.tuple_int b t l hu⟩
  ·obtain⟨t,rfl⟩:=r;exact⟨.str_tuple b t l hu,.tuple_str b t l hu,.str_tuple b t l hu,.tuple_str b t l hu,.str_tuple b t l hu,.tuple_str b t l hu⟩
open SeqAt in
theorem zFt{A:Around}{x y:V}{v u:Value}(fx:dB x=true)(fy:dB y=true)(rx:RelV x v)(ry:RelV y u):RcAt A s v u (eqV x y)/\RcNeAt A s v u (!eqV x y):=by
 rcases jM fx with rfl|⟨a,rfl⟩|⟨a,rfl⟩|⟨a,rfl⟩<;>rcases jM fy with rfl|⟨b,rfl⟩|⟨b,rfl⟩|⟨b,rfl⟩
 ·cases rx;cases ry;exact⟨.none_none,.none_none⟩
 ·cases rx;cases ry;exact⟨.none_bool b,.none_bool b⟩
 ·cases rx;obtain⟨t,rfl⟩:=ry;exact⟨.none_int b t,.none_int b t⟩
 ·cases rx;obtain⟨t,rfl⟩:=ry;exact⟨.none_str b t,.none_str b t⟩
 ·cases rx;cases ry;exact⟨.bool_none a,.bool_none a⟩
 ·cases rx;cases ry;exact⟨.bool_bool a b,.bool_bool a b⟩
 ·cases rx;obtain⟨t,rfl⟩:=ry;exact⟨.bool_int a b t,.bool_int a b t⟩
 ·cases rx;obtain⟨t,rfl⟩:=ry;exact⟨.bool_str a b t,.bool_str a b t⟩
 ·obtain⟨t',rfl⟩:=rx;cases ry;exact⟨.int_none a t',.int_none a t'⟩
 ·obtain⟨t',rfl⟩:=rx;cases ry;exact⟨.int_bool a t' b,.int_bool a t' b⟩
 ·obtain⟨t',rfl⟩:=rx;obtain⟨t,rfl⟩:=ry;exact⟨.int_int a t' b t,.int_int a t' b t⟩
 ·obtain⟨t',rfl⟩:=rx;obtain⟨t,rfl⟩:=ry;exact⟨.int_str a t' b t,.int_str a t' b t⟩
 ·obtain⟨t',rfl⟩:=rx;cases ry;exact⟨.str_none a t',.str_none a t'⟩
 ·obtain⟨t',rfl⟩:=rx;cases ry;exact⟨.str_bool a t' b,.str_bool a t' b⟩
 ·obtain⟨t',rfl⟩:=rx;obtain⟨t,rfl⟩:=ry;exact⟨.str_int a t' b t,.str_int a t' b t⟩
 ·obtain⟨t',rfl⟩:=rx;obtain⟨t,rfl⟩:=ry;exact⟨.str_str a t' b t,.str_str a t' b t⟩
theorem zN{xs:List V}{us:List Value}(r:Vals xs us){j:Nat}(h:j<us.toArray.size):∃x,xs[j]?=some x/\RelV x us.toArray[j]:=by
 have l:=r.length
 have k:j<xs.length:=by rw[l];simpa using h
 obtain⟨u,hu,ru⟩:=r.get (i:=j) (x:=xs[j]) (List.getElem?_eq_getElem k)
 refine⟨_,List.getElem?_eq_getElem k,?_⟩
 have e1:us.toArray[j]=u:=by
  obtain⟨_,e⟩:=List.getElem?_eq_some_iff.mp hu
  simpa using e
 rw[e1];exact ru
open SeqAt in
theorem zBj(I:Inv X pins σ H s){A:Around}(hu:A.units<cLine){t:Bool}{a b:Addr}{xs ys:List V}{Ts Us:List Tv}(ha:PSeq X.K H t a xs)(hb:PSeq X.K H t b ys)(lx:xs.length=Ts.length)(ly:ys.length=Us.length)
  (it:∀(j:Nat) (x y:V) (T U:Tv) (v u:Value),xs[j]?=some x->ys[j]?=some y->Ts[j]?=some T->Us[j]?=some U->RelV x v->RelV y u->EqAt A.in1 s v u (eqT T U)):RcAt A s (.ref a) (.ref b) (bK Ts Us)/\RcNeAt A s (.ref a) (.ref b) (!bK Ts Us):=by
 have item:∀{vs us:List Value},Vals xs vs->Vals ys us->∀j (h1:j<vs.toArray.size) (h2:j<us.toArray.size),EqAt A.in1 s vs.toArray[j] us.toArray[j] (eqT (Ts.getD j nT) (Us.getD j nT)):=λ{vs us} r1 r2 j h1 h2=>by
  obtain⟨x,ex,rx⟩:=zN r1 h1
  obtain⟨y,ey,ry⟩:=zN r2 h2
  have k1:=(List.getElem?_eq_some_iff.mp ex).1
  have k2:=(List.getElem?_eq_some_iff.mp ey).1
  refine it j x y _ _ _ _ ex ey ?_ ?_ rx ry
  ·rw[List.getD_eq_getElem?_getD,List.getElem?_eq_getElem (by omega)];rfl
  ·rw[List.getD_eq_getElem?_getD,List.getElem?_eq_getElem (by omega)];rfl
 cases t with
 |false=>
  obtain⟨vs,r1,l1⟩:=PSeq.isList I ha
  obtain⟨us,r2,l2⟩:=PSeq.isList I hb
  have n1:=r1.length
  have n2:=r2.length
  by_cases hl:Ts.length=Us.length
  ·have e1:=RcAt.lists l1 l2 (by simp only[List.size_toArray];omega) hu (item r1 r2)
   have e2:=RcNeAt.lists l1 l2 (by simp only[List.size_toArray];omega) hu (item r1 r2)
   rw[show vs.toArray.size=Ts.length by rw[List.size_toArray];omega,sL hl]at e1 e2
   exact⟨e1,e2⟩
  ·rw[tP hl]
   have hne:(vs.toArray.size != us.toArray.size)=true:=by
    rw[bne_iff_ne,List.size_toArray,List.size_toArray];omega
   exact⟨.lists_lengths l1 l2 hne hu,.lists_lengths l1 l2 hne hu⟩
 |true=>
  obtain⟨vs,r1,l1⟩:=PSeq.isTup I ha
  obtain⟨us,r2,l2⟩:=PSeq.isTup I hb
  have n1:=r1.length
  have n2:=r2.length
  have e1:=RcAt.tuples l1 l2 hu (item r1 r2)
  have e2:=RcNeAt.tuples l1 l2 hu (item r1 r2)
  have ee:((List.range (min vs.toArray.size us.toArray.size)).all (λi=>eqT (Ts.getD i nT) (Us.getD i nT))&&vs.toArray.size==us.toArray.size)=bK Ts Us:=by
   rw[show vs.toArray.size=Ts.length by rw[List.size_toArray];omega,show us.toArray.size=Us.length by rw[List.size_toArray];omega]
   by_cases hl:Ts.length=Us.length
   ·rw[<-hl,Nat.min_self,sL hl];simp
   ·rw[tP hl,beq_eq_false_iff_ne.mpr hl,Bool.and_false]
  rw[ee]at e1 e2
  exact⟨e1,e2⟩
open SeqAt in
theorem uQ(I:Inv X pins σ H s):∀(n:Nat) {A:Around}{x y:V}{T U:Tv}{v u:Value},A.units+n<cLine->EqD n T->EqD n U->VP X.K H n x T->VP X.K H n y U->RelV x v->RelV y u->EqAt A s v u (eqT T U)
 |0,_,_,_,_,_,_,_,_,h,_,_,_,_,_=>False.elim h
 |n+1,A,x,y,T,U,v,u,hu,d,d',h,h',rx,ry=>by
  have hu0:A.units<cLine:=by omega
  have hh:=h
  have hh':=h'
  rcases h with⟨f,rfl⟩|⟨t,a,xs,Ts,rfl,e2,rfl,z,p⟩|⟨a,kvs,kts,rfl,e2,rfl,_⟩
  ·rcases h' with⟨f',rfl⟩|⟨t',a',xs',Ts',rfl,e2',rfl,z',p'⟩|⟨a',kvs',kts',rfl,_,rfl,_⟩
   ·have:=zBA (A:=A) (s:=s) rx ry f f'
    simpa[eqT]using this
   ·cases ry
    have:=(oU I hu0 f rx e2').1
    simpa[eqT]using this
   ·exact False.elim d'
  ·rcases h' with⟨f',rfl⟩|⟨t',b,ys,Us,rfl,e2',rfl,z',p'⟩|⟨a',kvs',kts',rfl,_,rfl,_⟩
   ·cases rx
    have:=(oU I hu0 f' ry e2).2.1
    simpa[eqT]using this
   ·cases rx
    cases ry
    by_cases ab:a=b
    ·subst ab
     have:=zA0 I hh hh' d d'
     rw[this]
     exact EqAt.same _
    ·by_cases tt:t=t'
     ·subst tt
      have d:∀U∈Ts,EqD n U:=d
      have d':∀U∈Us,EqD n U:=d'
      have:=(zBj I hu0 e2 e2' (Paired.length p) (Paired.length p') λj x y T U v u ex ey eT eU rx ry=>by
       obtain⟨T',eT',vx⟩:=eQ p ex
       obtain⟨U',eU',vy⟩:=eQ p' ey
       rw[eT]at eT';cases eT'
       rw[eU]at eU';cases eU'
       exact uQ I n (by show A.units+1+n<_;omega) (d _ (List.mem_of_getElem? eT)) (d' _ (List.mem_of_getElem? eU)) vx vy rx ry).1
      have r:=EqAt.of_refs ab this
      simpa[eqT]using r
     ·have e:eqT (.seq t Ts) (.seq t' Us)=false:=by simp[eqT,tt]
      rw[e]
      refine EqAt.of_refs ab ?_
      cases t<;>cases t'<;>first|exact absurd rfl tt|skip
      ·obtain⟨_,_,l1⟩:=PSeq.isList I e2
       obtain⟨_,_,l2⟩:=PSeq.isTup I e2'
       exact .list_tuple l1 l2 hu0
      ·obtain⟨_,_,l1⟩:=PSeq.isTup I e2
       obtain⟨_,_,l2⟩:=PSeq.isList I e2'
       exact .tuple_list l1 l2 hu0
   ·exact False.elim d'
  ·exact False.elim d
end
def zKp(Ts Us:List Tv):Prop:=Ts=[]\/Us=[]\/((∀T∈Ts,EqD 40 T)/\∀U∈Us,EqD 40 U)
def jJ(neg:Bool):P2
 |.leaf v,.leaf w,Q=>Q (bT (neg != eqV v w))
 |.leaf _,.seq _ _,Q=>Q (bT neg)
 |.seq _ _,.leaf _,Q=>Q (bT neg)
 |.seq s xs,.seq t ys,Q=>zKp xs ys/\Q (bT (neg != (s==t&&bK xs ys)))
 |_,_,_=>False
section
variable{X:Cx}
open SeqAt in
theorem zA1{pins:List (Addr×Obj)}{σ:St}{H:Hp}{s:Shared}(I:Inv X pins σ H s)(hu:X.A.units+64<cLine){neg:Bool}{x y:V}{T U:Tv}{v u:Value}{Q:Tv->Prop}(vx:VA X.K H x T)(vy:VA X.K H y U)(rx:RelV x v)(ry:RelV y u)(h:jJ neg T U Q):
  ∃b,Q (bT (neg != b))/\RcAt X.A s v u b/\RcNeAt X.A s v u (!b):=by
 have hu0:X.A.units<cLine:=by omega
 unfold jJ at h
 split at h
 ·obtain⟨rfl,f⟩:=vx.leafI
  obtain⟨rfl,f'⟩:=vy.leafI
  exact⟨_,h,zFt f f' rx ry⟩
 ·obtain⟨rfl,f⟩:=vx.leafI
  obtain⟨a,xs,rfl,hs,_⟩:=vy.seqI
  cases ry
  have r:=oU I hu0 f rx hs
  exact⟨false,by simpa using h,r.2.2.1,r.2.2.2.2.1⟩
 ·obtain⟨rfl,f⟩:=vy.leafI
  obtain⟨a,xs,rfl,hs,_⟩:=vx.seqI
  cases rx
  have r:=oU I hu0 f ry hs
  exact⟨false,by simpa using h,r.2.2.2.1,r.2.2.2.2.2⟩
 ·rename_i t Ts t' Us
  obtain⟨ok,q⟩:=h
  obtain⟨a,xs,rfl,hs,z,p⟩:=vx.seqI
  obtain⟨b,ys,rfl,hs',z',p'⟩:=vy.seqI
  cases rx
  cases ry
  refine⟨_,q,?_⟩
  by_cases tt:t=t'
  ·subst tt
   have e:(t==t&&bK Ts Us)=bK Ts Us:=by simp
   rw[e]
   refine zBj I hu0 hs hs' (Paired.length p) (Paired.length p') λj x y T U v u ex ey eT eU rx ry=>?_
   rcases ok with rfl|rfl|⟨o1,o2⟩
   ·cases eT
   ·cases eU
   ·obtain⟨T',eT',d,vx⟩:=eQ p ex
    obtain⟨U',eU',d',vy⟩:=eQ p' ey
    rw[eT]at eT';cases eT'
    rw[eU]at eU';cases eU'
    have k1:=o1 _ (List.mem_of_getElem? eT)
    have k2:=o2 _ (List.mem_of_getElem? eU)
    exact uQ I 40 (by show X.A.units+1+40<_;omega) k1 k2 (k1.vp vx) (k2.vp vy) rx ry
  ·have e:(t==t'&&bK Ts Us)=false:=by simp[tt]
   rw[e]
   cases t<;>cases t'<;>first|exact absurd rfl tt|skip
   ·obtain⟨_,_,l1⟩:=PSeq.isList I hs
    obtain⟨_,_,l2⟩:=PSeq.isTup I hs'
    exact⟨.list_tuple l1 l2 hu0,.list_tuple l1 l2 hu0⟩
   ·obtain⟨_,_,l1⟩:=PSeq.isTup I hs
    obtain⟨_,_,l2⟩:=PSeq.isList I hs'
    exact⟨.tuple_list l1 l2 hu0,.tuple_list l1 l2 hu0⟩
 ·exact False.elim h
def zB8(K:W.Frag)(neg:Bool):R2:=λx y H Q=>∃T U,VA K H x T/\VA K H y U/\jJ neg T U λW=>∃b,W=bT b/\Q (.bl b) H
theorem zHn(hu:X.A.units+64<cLine):OpR X (compareOp .Eq) (zB8 X.K false):=by
 rintro pins s σ H x y v u Q I rx ry ⟨T,U,vx,vy,h⟩
 obtain⟨b,⟨b',e,q⟩,r,_⟩:=zA1 I hu vx vy rx ry h
 cases e
 exact r X.prog X.w X.xe _ ⟨.bl b,H,I,rfl,by simpa using q⟩
theorem zHk(hu:X.A.units+64<cLine):OpR X (compareOp .NotEq) (zB8 X.K true):=by
 rintro pins s σ H x y v u Q I rx ry ⟨T,U,vx,vy,h⟩
 obtain⟨b,⟨b',e,q⟩,_,r⟩:=zA1 I hu vx vy rx ry h
 cases e
 exact r X.prog X.w X.xe _ ⟨.bl (!b),H,I,rfl,by simpa using q⟩
theorem yV{neg:Bool}{T U:Tv}{Q Q':Tv->Prop}(h:jJ neg T U Q)(i:∀b,Q (bT b)->Q' (bT b)):jJ neg T U Q':=by
 unfold jJ at h ⊢
 split at h
 ·exact i _ h
 ·exact i _ h
 ·exact i _ h
 ·exact⟨h.1,i _ h.2⟩
 ·exact False.elim h
abbrev pEq:P2:=jJ false
abbrev pNe:P2:=jJ true
theorem jV(hu:X.A.units+64<cLine):PuCmp X (compareOp .Eq) pEq:=⟨_,zHn hu,λx y T U H Q QQ vx vy h k=>⟨T,U,vx,vy,yV h λb q=>⟨b,rfl,k _ _ _ (Same.refl _) (.flat rfl) q⟩⟩⟩
theorem zIr(hu:X.A.units+64<cLine):PuCmp X (compareOp .NotEq) pNe:=⟨_,zHk hu,λx y T U H Q QQ vx vy h k=>⟨T,U,vx,vy,yV h λb q=>⟨b,rfl,k _ _ _ (Same.refl _) (.flat rfl) q⟩⟩⟩
end
end L2
namespace L2
open PySem PySem.Spec PyProof.Rows WordM
section
variable{X:Cx}{F:Fm}
theorem dG{K:W.Frag}{H:Hp}{xs:List V}{T:Tv}(h:VAs K H xs [T]):∃x,xs=[x]/\VA K H x T:=by
 cases h with
 |cons r t=>cases t;exact⟨_,rfl,r⟩
theorem zB1{K:W.Frag}{H:Hp}{xs:List V}{T U:Tv}(h:VAs K H xs [T,U]):∃x y,xs=[x,y]/\VA K H x T/\VA K H y U:=by
 cases h with
 |cons r t=>
  obtain⟨y,rfl,v⟩:=dG t
  exact⟨_,y,rfl,r,v⟩
def zIo(K:W.Frag):R2:=λx y H Q=>∃l b xs zs,x=.ref l/\y=.ref b/\Rd H l (.lst xs)/\Rd H b (.lst zs)/\xs.length+zs.length<=sizeLine/\∀p,H p=none->Q (.ref p) (upd H p (.lst (xs++zs)))
theorem zFS:OpR X (binaryOp .Add) (zIo X.K):=by
 rintro pins s σ H _ _ v u Q I rx ry ⟨l,b,xs,zs,rfl,rfl,hH,hB,hz,q⟩
 cases rx
 cases ry
 obtain⟨z,its,n,r,e⟩:=hH.ok I.hok
 obtain⟨z2,its2,n2,r2,e2⟩:=hB.ok I.hok
 have l1:=r.length
 have l2:=r2.length
 refine PySem.P.add_list e e2 ?_ (by rw[List.size_toArray,List.size_toArray];omega)
 rw[show its.toArray++its2.toArray=(its++its2).toArray by simp]
 exact⟨.ref _,_,I.lnew (t':=s.toks) (r.append r2) (by rw[List.length_append];omega),rfl,q _ I.fresh⟩
def wU:P2
 |.leaf (.int i),.leaf (.int j),Q=>Q (iT (i+j))
 |.leaf (.str x),.leaf (.str y),Q=>x.length+y.length<=100000/\Q (sT (x++y))
 |.seq true xs,.seq true ys,Q=>xs.length+ys.length<=100000/\Q (.seq true (xs++ys))
 |.seq false xs,.seq false ys,Q=>xs.length+ys.length<=100000/\Q (.seq false (xs++ys))
 |_,_,_=>False
theorem bQ:fF X (binaryOp .Add) wU:=⟨_,op_add.or (op_add_str.or (op_catG.or zFS)),λx y T U H Q QQ vx vy h k=>by
 unfold wU at h
 split at h
 ·obtain⟨rfl,_⟩:=vx.leafI
  obtain⟨rfl,_⟩:=vy.leafI
  exact .inl ⟨_,_,rfl,rfl,k _ _ _ (.flat rfl) h⟩
 ·obtain⟨rfl,_⟩:=vx.leafI
  obtain⟨rfl,_⟩:=vy.leafI
  exact .inr (.inl ⟨_,_,rfl,rfl,iC h.1,k _ _ _ (.flat rfl) h.2⟩)
 ·obtain⟨a,xs,rfl,hs,z,p⟩:=vx.seqI
  obtain⟨b,ys,rfl,hs',z',p'⟩:=vy.seqI
  have l1:xs.length=_:=Paired.length p
  have l2:ys.length=_:=Paired.length p'
  refine .inr (.inr (.inl ⟨a,b,xs,ys,rfl,rfl,hs,hs',iC (by omega),λr H' hr sm=>k _ _ _ ⟨sm,.inl (VA.seq (t:=true) hr (by rw[List.length_append];exact h.1) (sK (p.hs sm.hs) (p'.hs sm.hs)))⟩ h.2⟩))
 ·obtain⟨a,xs,rfl,⟨ob,hs⟩,z,p⟩:=vx.seqI
  obtain⟨b,ys,rfl,⟨ob',hs'⟩,z',p'⟩:=vy.seqI
  have l1:xs.length=_:=Paired.length p
  have l2:ys.length=_:=Paired.length p'
  refine .inr (.inr (.inr ⟨a,b,xs,ys,rfl,rfl,.inr ⟨ob,hs⟩,.inr ⟨ob',hs'⟩,iC (by omega),λr n=>k _ _ _ (Raw.lst n (by rw[List.length_append];exact h.1) (sK p p')) h.2⟩))
 ·exact False.elim h⟩
def pI2(C:Int->Int->Prop)(g:Int->Int->V):P2
 |.leaf (.int i),.leaf (.int j),Q=>C i j/\Q (.leaf (g i j))
 |_,_,_=>False
theorem nV{f:Value->Value->Sem Value}{C:Int->Int->Prop}{g:Int->Int->V}(h:OpR X f (rI C g))(fl:∀i j,dB (g i j)=true):PuCmp X f (pI2 C g):=⟨_,h,λx y T U H Q QQ vx vy h k=>by
 unfold pI2 at h
 split at h
 ·obtain⟨rfl,_⟩:=vx.leafI
  obtain⟨rfl,_⟩:=vy.leafI
  exact⟨_,_,rfl,rfl,h.1,k _ _ _ (Same.refl _) (.flat (fl _ _)) h.2⟩
 ·exact False.elim h⟩
def kA(g:Int->Int->V):P2
 |.leaf (.int i),.leaf (.int j),Q=>Q (.leaf (g i j))
 |_,_,_=>False
theorem nG{f:Value->Value->Sem Value}{g:Int->Int->V}(h:OpR X f (rI0 g))(fl:∀i j,dB (g i j)=true):PuCmp X f (kA g):=⟨_,h,λx y T U H Q QQ vx vy h k=>by
 unfold kA at h
 split at h
 ·obtain⟨rfl,_⟩:=vx.leafI
  obtain⟨rfl,_⟩:=vy.leafI
  exact⟨_,_,rfl,rfl,k _ _ _ (Same.refl _) (.flat (fl _ _)) h⟩
 ·exact False.elim h⟩
abbrev zJr:P2:=kA λi j=>.int (i-j)
theorem gL:fF X (binaryOp .Sub) zJr:=(nG zHh λ_ _=>rfl).op
def zI0(i j:Int):Prop:=CMul i j\/(BigOk i/\BigOk j)
def wT:P2
 |.leaf (.int i),.leaf (.int j),Q=>zI0 i j/\Q (iT (i*j))
 |.leaf (.str z),.leaf (.int n),Q=>(z.length<=1000/\n<=1000 /\ -1000<=n)/\Q (sT (gW z n))
 |_,_,_=>False
theorem zGZ:fF X (binaryOp .Mult) wT:=⟨_,op_mul.or (op_mulB.or zFQ),λx y T U H Q QQ vx vy h k=>by
 unfold wT at h
 split at h
 ·obtain⟨rfl,_⟩:=vx.leafI
  obtain⟨rfl,_⟩:=vy.leafI
  rcases h.1 with c|c
  ·exact .inl ⟨_,_,rfl,rfl,c,k _ _ _ (.flat rfl) h.2⟩
  ·exact .inr (.inl ⟨_,_,rfl,rfl,c,k _ _ _ (.flat rfl) h.2⟩)
 ·obtain⟨rfl,_⟩:=vx.leafI
  obtain⟨rfl,_⟩:=vy.leafI
  exact .inr (.inr ⟨_,_,rfl,rfl,h.1.1,h.1.2.1,h.1.2.2,k _ _ _ (.flat rfl) h.2⟩)
 ·exact False.elim h⟩
abbrev zIz:P2:=pI2 (λ_ j=>0<j/\BigOk j) λi j=>.int (i / j)
theorem tW:fF X (binaryOp .FloorDiv) zIz:=(nV zAc λ_ _=>rfl).op
abbrev zJw:P2:=pI2 (λ_ j=>0<j) λi j=>.int (i % j)
theorem pW:fF X (binaryOp .Mod) zJw:=(nV iH λ_ _=>rfl).op
abbrev zJv:P2:=pI2 rZ λi j=>.int (i ^ j.toNat)
theorem nF:fF X (binaryOp .Pow) zJv:=(nV zBr λ_ _=>rfl).op
abbrev zJt:P2:=pI2 (λ_ j=>0<=j) λi j=>.int (i / 2 ^ j.toNat)
theorem zGX:fF X (binaryOp .RShift) zJt:=(nV zHi λ_ _=>rfl).op
abbrev zIA:P2:=kA λi j=>.int (Builtin.bitAnd i j)
theorem zFy:fF X (binaryOp .BitAnd) zIA:=(nG zHp λ_ _=>rfl).op
def pLt:P2
 |.leaf (.int i),.leaf (.int j),Q=>Q (bT (decide (i<j)))
 |.leaf (.str x),.leaf (.str y),Q=>Q (bT (decide (x.cps.toList<y.cps.toList)))
 |_,_,_=>False
theorem qJ:PuCmp X (compareOp .Lt) pLt:=⟨_,op_lt.or zDM,λx y T U H Q QQ vx vy h k=>by
 unfold pLt at h
 split at h
 ·obtain⟨rfl,_⟩:=vx.leafI
  obtain⟨rfl,_⟩:=vy.leafI
  exact .inl ⟨_,_,rfl,rfl,k _ _ _ (Same.refl _) (.flat rfl) h⟩
 ·obtain⟨rfl,_⟩:=vx.leafI
  obtain⟨rfl,_⟩:=vy.leafI
  exact .inr ⟨_,_,rfl,rfl,k _ _ _ (Same.refl _) (.flat rfl) h⟩
 ·exact False.elim h⟩
abbrev pLe:P2:=kA λi j=>.bl (decide (i<=j))
theorem gR:PuCmp X (compareOp .LtE) pLe:=nG zIB λ_ _=>rfl
abbrev pGt:P2:=kA λi j=>.bl (decide (j<i))
theorem jF:PuCmp X (compareOp .Gt) pGt:=nG zIC λ_ _=>rfl
abbrev pGe:P2:=kA λi j=>.bl (decide (j<=i))
theorem qK:PuCmp X (compareOp .GtE) pGe:=nG zID λ_ _=>rfl
def isV(v:V):Tv->Bool
 |.leaf w=>decide (w=v)
 |_=>false
theorem qC{K:W.Frag}{H:Hp}{x v:V}{T:Tv}(f:dB v=true)(h:VA K H x T):decide (x=v)=isV v T:=by
 cases T with
 |leaf w=>obtain⟨rfl,_⟩:=h.leafI;rfl
 |seq t Ts=>
  obtain⟨a,_,rfl,_⟩:=h.seqI
  exact decide_eq_false (λz=>by rw[<-z]at f;cases f)
 |dct kts=>
  obtain⟨a,_,rfl,_⟩:=h.dctI
  exact decide_eq_false (λz=>by rw[<-z]at f;cases f)
def rO(neg:Bool):P2
 |T,.leaf .non,Q=>Q (bT (neg != isV .non T))
 |T,.leaf (.bl b),Q=>Q (bT (neg != isV (.bl b) T))
 |_,_,_=>False
abbrev pIs:P2:=rO false
abbrev vF:P2:=rO true
theorem zBL:PuCmp X (compareOp .Is) pIs:=⟨_,op_isN.or zHl,λx y T U H Q QQ vx vy h k=>by
 unfold pIs rO at h
 split at h
 ·obtain⟨rfl,_⟩:=vy.leafI
  exact .inl ⟨rfl,k _ _ _ (Same.refl _) (.flat rfl) (by rw[qC rfl vx];simpa using h)⟩
 ·obtain⟨rfl,_⟩:=vy.leafI
  exact .inr ⟨_,rfl,k _ _ _ (Same.refl _) (.flat rfl) (by rw[qC rfl vx];simpa using h)⟩
 ·exact False.elim h⟩
theorem tI:PuCmp X (compareOp .IsNot) vF:=⟨_,op_notN.or zDN,λx y T U H Q QQ vx vy h k=>by
 unfold vF rO at h
 split at h
 ·obtain⟨rfl,_⟩:=vy.leafI
  exact .inl ⟨rfl,k _ _ _ (Same.refl _) (.flat rfl) (by rw[qC rfl vx];simpa using h)⟩
 ·obtain⟨rfl,_⟩:=vy.leafI
  exact .inr ⟨_,rfl,k _ _ _ (Same.refl _) (.flat rfl) (by rw[qC rfl vx];simpa using h)⟩
 ·exact False.elim h⟩
theorem uW{pins:List (Addr×Obj)}{σ:St}{H:Hp}{s:Shared}(I:Inv X pins σ H s):∀{n:Nat}{x:V}{T U:Tv},EqD n T->EqD n U->VP X.K H n x T->VP X.K H n x U->T=U
 |0,_,_,_,h,_,_,_=>False.elim h
 |n+1,x,T,U,d,d',h,h'=>by
  rcases h with⟨f,rfl⟩|⟨t,a,xs,Ts,rfl,e2,rfl,z,p⟩|⟨a,kvs,kts,rfl,e2,rfl,_⟩
  ·rcases h' with⟨_,rfl⟩|⟨t',a',xs',Ts',rfl,_⟩|⟨a',kvs',kts',rfl,_⟩
   ·rfl
   ·cases f
   ·cases f
  ·rcases h' with⟨f,rfl⟩|⟨t',a',xs',Ts',e1',e2',rfl,z',p'⟩|⟨a',kvs',kts',e1',e2',rfl,_⟩
   ·cases f
   ·cases e1'
    have tt:t=t':=by
     cases t<;>cases t'<;>first|rfl|skip
     ·obtain⟨_,_,l1⟩:=PSeq.isList I e2
      obtain⟨_,_,l2⟩:=PSeq.isTup I e2'
      exact absurd rfl (SeqAt.ne_of_list_tuple l1 l2)
     ·obtain⟨_,_,l1⟩:=PSeq.isList I e2'
      obtain⟨_,_,l2⟩:=PSeq.isTup I e2
      exact absurd rfl (SeqAt.ne_of_list_tuple l1 l2)
    subst tt
    have ex:xs=xs':=by
     cases t with
     |false=>exact I.list_inj (cB e2) (cB e2')
     |true=>exact I.tuple_inj e2 e2'
    subst ex
    have g:∀U∈Ts,EqD n U:=d
    have g':∀U∈Ts',EqD n U:=d'
    have key:∀{xs:List V} {Ts Ts':List Tv},Paired (VP X.K H n) xs Ts->Paired (VP X.K H n) xs Ts'->(∀U∈Ts,EqD n U)->(∀U∈Ts',EqD n U)->Ts=Ts':=by
     intro xs Ts Ts' p
     induction p generalizing Ts' with
     |nil=>intro p' _ _;cases p';rfl
     |cons r _ ih=>
      intro p' d d'
      cases p' with
      |cons r' t'=>rw[uW I (d _ (.head _)) (d' _ (.head _)) r r',ih t' (λU hU=>d U (.tail _ hU)) (λU hU=>d' U (.tail _ hU))]
    rw[key p p' g g']
   ·exact False.elim d'
  ·exact False.elim d
def oO(T:Tv)(Us:List Tv):Prop:=EqD 40 T/\∀U∈Us,EqD 40 U
open Classical in
theorem pK{pins:List (Addr×Obj)}{σ:St}{H:Hp}{s:Shared}(I:Inv X pins σ H s)(hu:X.A.units+64<cLine){x:V}{T:Tv}{v:Value}{ys:List V}{Us:List Tv}{its:List Value}(vx:VA X.K H x T)(rx:RelV x v)(p:VAs X.K H ys Us)(r:Vals ys its)(ok:oO T Us):
  ∃e:Value->Bool,(∀y,y∈its.toArray->SeqAt.EqAt X.A.in1 s y v (e y))/\its.toArray.any e=Us.any λU=>eqT U T:=by
 obtain⟨dx,vx⟩:=vx
 have hx:=ok.1.vp vx
 refine⟨λw=>decide (∃y U,RelV y w/\VP X.K H 40 y U/\EqD 40 U/\eqT U T=true),λw hw=>?_,?_⟩
 ·have hw:w∈its:=by simpa using hw
  obtain⟨j,hj,rfl⟩:=List.mem_iff_getElem.mp hw
  have hj':j<ys.length:=by rw[r.length];exact hj
  obtain⟨u,eu,ru⟩:=r.get (List.getElem?_eq_getElem hj')
  rw[List.getElem?_eq_getElem hj]at eu
  cases eu
  obtain⟨U,eU,d,vU⟩:=eQ p (List.getElem?_eq_getElem hj')
  have dU:=ok.2 U (List.mem_of_getElem? eU)
  have e:=uQ I 40 (A:=X.A.in1) (by show X.A.units+1+40<_;omega) dU ok.1 (dU.vp vU) hx ru rx
  have ee:decide (∃y U,RelV y its[j]/\VP X.K H 40 y U/\EqD 40 U/\eqT U T=true)=eqT U T:=by
   rw[Bool.eq_iff_iff,decide_eq_true_iff]
   constructor
   ·rintro⟨y,U',ry,vy,dy,z⟩
    have:=RelV.inj ry ru
    subst this
    rw[uW I dU dy (dU.vp vU) vy]
    exact z
   ·intro z
    exact⟨_,U,ru,dU.vp vU,dU,z⟩
  show SeqAt.EqAt X.A.in1 s its[j] v (decide (∃y U,RelV y its[j]/\VP X.K H 40 y U/\EqD 40 U/\eqT U T=true))
  rw[ee]
  exact e
 ·rw[Bool.eq_iff_iff,Array.any_eq_true',List.any_eq_true]
  constructor
  ·rintro⟨w,hw,z⟩
   rw[decide_eq_true_iff]at z
   obtain⟨y,U',ry,vy,dy,z⟩:=z
   have hw:w∈its:=by simpa using hw
   obtain⟨j,hj,rfl⟩:=List.mem_iff_getElem.mp hw
   have hj':j<ys.length:=by rw[r.length];exact hj
   obtain⟨u,eu,ru⟩:=r.get (List.getElem?_eq_getElem hj')
   rw[List.getElem?_eq_getElem hj]at eu
   cases eu
   obtain⟨U,eU,d,vU⟩:=eQ p (List.getElem?_eq_getElem hj')
   have dU:=ok.2 U (List.mem_of_getElem? eU)
   have:=RelV.inj ry ru
   subst this
   refine⟨U,List.mem_of_getElem? eU,?_⟩
   rw[uW I dU dy (dU.vp vU) vy]
   exact z
  ·rintro⟨U,hU,z⟩
   obtain⟨j,hj,rfl⟩:=List.mem_iff_getElem.mp hU
   obtain⟨y,ey,d,vy⟩:=oS p (List.getElem?_eq_getElem hj)
   obtain⟨u,eu,ru⟩:=r.get ey
   have dU:=ok.2 _ hU
   exact⟨u,by simpa using List.mem_of_getElem? eu,decide_eq_true ⟨y,_,ru,dU.vp vy,dU,z⟩⟩
def zB7(K:W.Frag)(neg:Bool):R2:=λx y H Q=>∃T t Us,VA K H x T/\VA K H y (.seq t Us)/\oO T Us/\Q (.bl (neg != Us.any λU=>eqT U T)) H
theorem zHm(hu:X.A.units+64<cLine):OpR X (compareOp .In) (zB7 X.K false):=by
 rintro pins s σ H x y v u Q I rx ry ⟨T,t,Us,vx,vy,ok,q⟩
 obtain⟨a,ys,rfl,hs,z,p⟩:=vy.seqI
 cases ry
 cases t with
 |false=>
  obtain⟨its,r,l⟩:=PSeq.isList I hs
  obtain⟨e,h1,h2⟩:=pK I hu vx rx p r ok
  exact SeqAt.in_listAt e l h1 ⟨.bl _,H,I,rfl,by rw[h2];simpa using q⟩
 |true=>
  obtain⟨its,r,l⟩:=PSeq.isTup I hs
  obtain⟨e,h1,h2⟩:=pK I hu vx rx p r ok
  exact SeqAt.in_tupleAt e l h1 ⟨.bl _,H,I,rfl,by rw[h2];simpa using q⟩
theorem zDL(hu:X.A.units+64<cLine):OpR X (compareOp .NotIn) (zB7 X.K true):=by
 rintro pins s σ H x y v u Q I rx ry ⟨T,t,Us,vx,vy,ok,q⟩
 obtain⟨a,ys,rfl,hs,z,p⟩:=vy.seqI
 cases ry
 cases t with
 |false=>
  obtain⟨its,r,l⟩:=PSeq.isList I hs
  obtain⟨e,h1,h2⟩:=pK I hu vx rx p r ok
  exact SeqAt.notIn_listAt e l h1 ⟨.bl _,H,I,rfl,by rw[h2];simpa using q⟩
 |true=>
  obtain⟨its,r,l⟩:=PSeq.isTup I hs
  obtain⟨e,h1,h2⟩:=pK I hu vx rx p r ok
  exact SeqAt.notIn_tupleAt e l h1 ⟨.bl _,H,I,rfl,by rw[h2];simpa using q⟩
def zFv:R2:=λy x H Q=>∃a o,x=.ref a/\kE H a y o/\Q (.bl (!o.isSome)) H
theorem zCz(hu:X.A.units+1<cLine):OpR X (compareOp .NotIn) zFv:=by
 rintro pins s σ H y _ u v Q I ry rx ⟨a,o,rfl,g,q⟩
 cases rx
 exact zGf hu I g ry λs' I'=>⟨.bl _,H,I',rfl,q⟩
def inS(i j:Str):Bool:=!(Builtin.Str.occurrences j i 0 j.length 1).isEmpty
def rP(neg:Bool):P2
 |T,.seq _ Us,Q=>oO T Us/\Q (bT (neg != Us.any λU=>eqT U T))
 |.leaf (.str i),.leaf (.str j),Q=>Q (bT (neg != inS i j))
 |.leaf (.str k),.dct kts,Q=>Q (bT (neg != (fQ kts k).isSome))
 |_,_,_=>False
abbrev pIn:P2:=rP false
abbrev zBq:P2:=rP true
theorem eV(hu:X.A.units+64<cLine):PuCmp X (compareOp .In) pIn:=⟨_,(zHm hu).or (op_in_str.or (zDc (by omega))),λx y T U H Q QQ vx vy h k=>by
 unfold pIn rP at h
 split at h
 ·exact .inl ⟨_,_,_,vx,vy,h.1,k _ _ _ (Same.refl _) (.flat rfl) h.2⟩
 ·obtain⟨rfl,_⟩:=vx.leafI
  obtain⟨rfl,_⟩:=vy.leafI
  exact .inr (.inl ⟨_,_,rfl,rfl,k _ _ _ (Same.refl _) (.flat rfl) (by simpa[inS]using h)⟩)
 ·rename_i kk kts
  obtain⟨rfl,_⟩:=vx.leafI
  obtain⟨a,kvs,rfl,⟨ob,hd⟩,n,z,p⟩:=vy.dctI
  refine .inr (.inr ⟨a,_,rfl,.inl ⟨kvs,.inr kk,.inr ⟨ob,hd⟩,rfl,rfl⟩,k _ _ _ (Same.refl _) (.flat rfl) ?_⟩)
  rcases uK p kk with⟨e1,e2⟩|⟨U,v,e1,e2,_⟩
  ·rw[e2];rw[e1]at h;exact h
  ·rw[e2];rw[e1]at h;exact h
 ·exact False.elim h⟩
theorem mX(hu:X.A.units+64<cLine):PuCmp X (compareOp .NotIn) zBq:=⟨_,(zDL hu).or (op_notIn_str.or (zCz (by omega))),λx y T U H Q QQ vx vy h k=>by
 unfold zBq rP at h
 split at h
 ·exact .inl ⟨_,_,_,vx,vy,h.1,k _ _ _ (Same.refl _) (.flat rfl) h.2⟩
 ·obtain⟨rfl,_⟩:=vx.leafI
  obtain⟨rfl,_⟩:=vy.leafI
  exact .inr (.inl ⟨_,_,rfl,rfl,k _ _ _ (Same.refl _) (.flat rfl) (by simpa[inS]using h)⟩)
 ·rename_i kk kts
  obtain⟨rfl,_⟩:=vx.leafI
  obtain⟨a,kvs,rfl,⟨ob,hd⟩,n,z,p⟩:=vy.dctI
  refine .inr (.inr ⟨a,_,rfl,.inl ⟨kvs,.inr kk,.inr ⟨ob,hd⟩,rfl,rfl⟩,k _ _ _ (Same.refl _) (.flat rfl) ?_⟩)
  rcases uK p kk with⟨e1,e2⟩|⟨U,v,e1,e2,_⟩
  ·rw[e2];rw[e1]at h;exact h
  ·rw[e2];rw[e1]at h;exact h
 ·exact False.elim h⟩
def pIx:P2
 |.seq _ Ts,.leaf (.int i),Q=>∃U,atI Ts i=some U/\Q U
 |.leaf (.str z),.leaf (.int i),Q=>z.length<=100000/\∃c,atI z.cps.toList i=some c/\Q (sT ⟨#[c]⟩)
 |.dct kts,.leaf (.str k),Q=>∃U,fQ kts k=some U/\Q U
 |_,_,_=>False
theorem zDn{α β:Type}{R:α->β->Prop}{xs:List α}{ys:List β}{i:Int}{y:β}(p:Paired R xs ys)(h:atI ys i=some y):∃x,atI xs i=some x/\R x y:=by
 unfold atI at h ⊢
 rw[Paired.length p]
 cases e:ixN ys.length i with
 |none=>rw[e]at h;cases h
 |some j=>
  rw[e]at h
  obtain⟨x,ex,r⟩:=oS p (show ys[j]?=some y from h)
  exact⟨x,ex,r⟩
theorem zIs(hu:X.A.units+64<cLine):zCo X pIx:=⟨_,ix_seq.or (zF1 (by omega)),λx y T U H Q QQ vx vy h k=>by
 unfold pIx at h
 split at h
 ·rename_i t Ts i
  obtain⟨rfl,_⟩:=vy.leafI
  obtain⟨a,xs,rfl,hs,z,p⟩:=vx.seqI
  obtain⟨U,e,q⟩:=h
  obtain⟨x,ex,v⟩:=zDn p e
  cases t with
  |false=>exact .inl (.inl ⟨a,xs,i,x,rfl,rfl,cB hs,ex,k _ _ _ (.va v) q⟩)
  |true=>exact .inl (.inr (.inl ⟨a,xs,i,x,rfl,rfl,hs,ex,k _ _ _ (.va v) q⟩))
 ·obtain⟨rfl,_⟩:=vx.leafI
  obtain⟨rfl,_⟩:=vy.leafI
  obtain⟨l,c,e,q⟩:=h
  exact .inl (.inr (.inr ⟨_,_,c,rfl,rfl,iC l,e,k _ _ _ (.flat rfl) q⟩))
 ·rename_i kts kk
  obtain⟨rfl,_⟩:=vy.leafI
  obtain⟨a,kvs,rfl,⟨ob,hd⟩,n,z,p⟩:=vx.dctI
  obtain⟨U,e,q⟩:=h
  rcases uK p kk with⟨e1,e2⟩|⟨U',v,e1,e2,vv⟩
  ·rw[e1]at e;cases e
  ·rw[e1]at e;cases e
   exact .inr ⟨a,v,rfl,.inl ⟨kvs,.inr kk,.inr ⟨ob,hd⟩,rfl,e2.symm⟩,k _ _ _ (.va vv) q⟩
 ·exact False.elim h⟩
def cR{α:Type}(xs:List α)(lo hi:Option Int):List α:=(xs.drop (HT.sIx xs.length 0 lo)).take (HT.sIx xs.length xs.length hi-HT.sIx xs.length 0 lo)
theorem xT{α β:Type}{R:α->β->Prop}:∀{l:List α}{m:List β}(n:Nat),Paired R l m->Paired R (l.drop n) (m.drop n)
 |_,_,0,p=>p
 |_,_,_+1,.nil=>.nil
 |_,_,n+1,.cons _ t=>xT n t
theorem yU{α β:Type}{R:α->β->Prop}:∀{l:List α}{m:List β}(n:Nat),Paired R l m->Paired R (l.take n) (m.take n)
 |_,_,0,p=>by rw[List.take_zero,List.take_zero];exact .nil
 |_,_,_+1,.nil=>.nil
 |_,_,n+1,.cons r t=>.cons r (yU n t)
theorem yC{α β:Type}{R:α->β->Prop}{l:List α}{m:List β}(lo hi:Option Int)(p:Paired R l m):Paired R (cR l lo hi) (cR m lo hi):=by
 unfold cR
 rw[Paired.length p]
 exact yU _ (xT _ p)
theorem zE7{α:Type}(xs:List α)(lo hi:Option Int):(cR xs lo hi).length<=xs.length:=by
 unfold cR
 rw[List.length_take,List.length_drop]
 omega
def zJs:PSl
 |.seq t Ts,lo,hi,Q=>Q (.seq t (cR Ts lo hi))
 |.leaf (.str z),lo,hi,Q=>z.length<=100000/\Q (sT (Txt.slice z lo hi))
 |_,_,_,_=>False
theorem eM:zCl X zJs:=⟨_,sl_list.or (sl_tupW.or zGG),λx T lo hi H Q QQ vx h k=>by
 cases T with
 |seq t Ts=>
  have h:Q (.seq t (cR Ts lo hi)):=h
  obtain⟨a,xs,rfl,hs,z,p⟩:=vx.seqI
  have z':(cR Ts lo hi).length<=100000:=Nat.le_trans (zE7 _ _ _) z
  cases t with
  |false=>exact .inl ⟨a,xs,rfl,cB hs,λr n=>k _ _ _ (Raw.lst n z' (yC lo hi p)) h⟩
  |true=>exact .inr (.inl ⟨a,xs,rfl,hs,λr H' sm hr=>k _ _ _ ⟨sm,.inl (VA.seq (t:=true) hr z' (Paired.mapP (yC lo hi p) λ_ _ q=>VA.hs sm.hs q))⟩ h⟩)
 |leaf w=>
  cases w with
  |str zz=>
   have h:zz.length<=100000/\Q (sT (Txt.slice zz lo hi)):=h
   obtain⟨rfl,_⟩:=vx.leafI
   exact .inr (.inr ⟨_,rfl,iC h.1,k _ _ _ (.flat rfl) h.2⟩)
  |_=>exact False.elim h
 |dct kts=>exact False.elim h⟩
def zCd:Pn
 |[.seq _ Ts],Q=>Q (iT Ts.length)
 |[.leaf (.str z)],Q=>z.length<=100000/\Q (iT z.length)
 |[.dct kts],Q=>Q (iT kts.length)
 |_,_=>False
theorem bP:iI X (.builtin "len") zCd:=⟨_,call_len_seq.or (call_len_str.or zDk),λxs Ts H Q QQ vx h k=>by
 unfold zCd at h
 split at h
 ·rename_i t Ts
  obtain⟨x,rfl,v⟩:=dG vx
  obtain⟨a,xs,rfl,hs,z,p⟩:=v.seqI
  have l:xs.length=_:=Paired.length p
  refine .inl ⟨a,xs,rfl,?_,k _ _ _ (.flat rfl) (by rw[l];exact h)⟩
  cases t with
  |false=>exact .inl (cB hs)
  |true=>exact .inr hs
 ·obtain⟨x,rfl,v⟩:=dG vx
  obtain⟨rfl,_⟩:=v.leafI
  exact .inr (.inl ⟨_,rfl,iC h.1,k _ _ _ (.flat rfl) h.2⟩)
 ·obtain⟨x,rfl,v⟩:=dG vx
  obtain⟨a,kvs,rfl,⟨ob,hd⟩,n,z,p⟩:=v.dctI
  have l:kvs.length=_:=Paired.length p
  exact .inr (.inr ⟨a,kvs,rfl,.inr ⟨ob,hd⟩,k _ _ _ (.flat rfl) (by rw[l];exact h)⟩)
 ·exact False.elim h⟩
def rR(T:String):Tv->Bool
 |.leaf .non=>false
 |.leaf (.bl _)=>T=="bool" || T=="int"
 |.leaf (.int _)=>T=="int"
 |.leaf (.str _)=>T=="str"
 |.leaf _=>false
 |.seq false _=>T=="list"
 |.seq true _=>T=="tuple"
 |.dct _=>T=="dict"
theorem zH5{K:W.Frag}{H:Hp}{x:V}{W:Tv}(T:String)(v:VA K H x W):TyV K T x H (rR T W):=by
 cases W with
 |leaf w=>
  obtain⟨rfl,f⟩:=v.leafI
  rcases jM f with rfl|⟨b,rfl⟩|⟨b,rfl⟩|⟨b,rfl⟩<;>rfl
 |seq t Ts=>
  obtain⟨a,xs,rfl,hs,z,p⟩:=v.seqI
  cases t with
  |false=>exact .inl ⟨xs,cB hs,rfl⟩
  |true=>exact .inr (.inl ⟨xs,hs,rfl⟩)
 |dct kts=>
  obtain⟨a,kvs,rfl,⟨ob,hd⟩,n,z,p⟩:=v.dctI
  exact .inr (.inr ⟨kvs,.inr ⟨ob,hd⟩,rfl⟩)
def zI4(T:String)(u:UT):UT:=λρ Q=>u ρ λW ρ1=>Q (bT (rR T W)) ρ1
theorem eK{e t:Expr}{u:UT}{p pos:Pos}(T:String)(hc:CallR X (.builtin "isinstance") (λxs H Q=>∃x b,xs=[x,.ty T]/\TyV X.K T x H b/\Q (.bl b) H))(hg:Gl X "isinstance")(hm:X.mg "isinstance"=none)(he:UE X F e u)(ht:PE X t (tC (.ty T)))
  (h1:eR e=false:=by rfl) (h2:eR t=false:=by rfl) (hpl:(backTo pos (starEach [t] X.env)).any (·.1)=false:=by rfl):UE X F (.Call (.Name "isinstance" p) [e,t] [] pos) (zI4 T u):=
 ⟨PE.imp (hZ hc hg hm boot_isinstance (cV he.pe (cV ht dL h2) h1) (by decide) (by decide) (jN h1) hpl) λσ H QQ ⟨ρ,Q,f,h,k⟩=>
  ⟨ρ,_,f,h,λx W H1 ρ1 s1 v1 q1=>⟨x,_,rfl,zH5 T v1,k _ _ _ _ s1 (.flat rfl) q1⟩⟩⟩
theorem tS{K:W.Frag}{H:Hp}:∀{xs:List V}{bs:List Bool},VAs K H xs (bs.map bT)->xs=bs.map V.bl
 |[],[],_=>rfl
 |_::_,_::_,.cons r t=>by rw[List.map_cons,<-tS t,(VA.leafI r).1]
theorem mV{K:W.Frag}{H:Hp}:∀{xs:List V}{ns:List Int},VAs K H xs (ns.map iT)->xs=ns.map V.int
 |[],[],_=>rfl
 |_::_,_::_,.cons r t=>by rw[List.map_cons,<-mV t,(VA.leafI r).1]
theorem jO{K:W.Frag}{H:Hp}:∀{xs:List V}{ss:List Str},VAs K H xs (ss.map sT)->xs=ss.map V.str
 |[],[],_=>rfl
 |_::_,_::_,.cons r t=>by rw[List.map_cons,<-jO t,(VA.leafI r).1]
theorem zAq{K:W.Frag}{H:Hp}:∀(ns:List Int),VAs K H (ns.map V.int) (ns.map iT)
 |[]=>.nil
 |_::ns=>.cons (.flat rfl) (zAq ns)
theorem kU{K:W.Frag}{H:Hp}:∀(ss:List Str),VAs K H (ss.map V.str) (ss.map sT)
 |[]=>.nil
 |_::ss=>.cons (.flat rfl) (kU ss)
def zJA:Pn:=λTs Q=>∃bs:List Bool,Ts=[.seq false (bs.map bT)]/\Q (bT (bs.all id))
def zJz:Pn:=λTs Q=>∃bs:List Bool,Ts=[.seq false (bs.map bT)]/\Q (bT (bs.any id))
def zJq:Pn:=λTs Q=>∃ns:List Int,Ts=[.seq false (ns.map iT)]/\Q (iT ns.sum)
theorem pX(hc:X.calm=true):iI X (.builtin "all") zJA:=⟨_,zEg hc,λxs Ts H Q QQ vx h k=>by
 obtain⟨bs,rfl,q⟩:=h
 obtain⟨x,rfl,v⟩:=dG vx
 obtain⟨a,ys,rfl,hs,z,p⟩:=v.seqI
 rw[tS p]at hs
 exact⟨a,bs,rfl,cB hs,k _ _ _ (.flat rfl) q⟩⟩
theorem zG0(hc:X.calm=true):iI X (.builtin "any") zJz:=⟨_,zEf hc,λxs Ts H Q QQ vx h k=>by
 obtain⟨bs,rfl,q⟩:=h
 obtain⟨x,rfl,v⟩:=dG vx
 obtain⟨a,ys,rfl,hs,z,p⟩:=v.seqI
 rw[tS p]at hs
 exact⟨a,bs,rfl,cB hs,k _ _ _ (.flat rfl) q⟩⟩
theorem zGW(hc:X.calm=true):iI X (.builtin "sum") zJq:=⟨_,zG hc,λxs Ts H Q QQ vx h k=>by
 obtain⟨ns,rfl,q⟩:=h
 obtain⟨x,rfl,v⟩:=dG vx
 obtain⟨a,ys,rfl,hs,z,p⟩:=v.seqI
 rw[mV p]at hs
 exact⟨a,ns,rfl,cB hs,k _ _ _ (.flat rfl) q⟩⟩
def zJx:Pn:=λTs Q=>(∃i j:Int,Ts=[iT i,iT j]/\Q (iT (min i j)))\/(∃ns:List Int,Ts=[.seq false (ns.map iT)]/\0<ns.length/\∀M,M∈ns->(∀a∈ns,M<=a)->Q (iT M)) \/
 ∃ss:List Str,Ts=[.seq false (ss.map sT)]/\0<ss.length/\∀x,x∈ss->(∀y∈ss,x.cps.toList<=y.cps.toList)->Q (sT x)
def zJy:Pn:=λTs Q=>(∃i j:Int,Ts=[iT i,iT j]/\Q (iT (max i j)))\/(∃ns:List Int,Ts=[.seq false (ns.map iT)]/\0<ns.length/\∀M,M∈ns->(∀a∈ns,a<=M)->Q (iT M)) \/
 ∃ss:List Str,Ts=[.seq false (ss.map sT)]/\0<ss.length/\∀x,x∈ss->(∀y∈ss,y.cps.toList<=x.cps.toList)->Q (sT x)
theorem gC(hc:X.calm=true):iI X (.builtin "min") zJx:=⟨_,(zEb hc).or ((zEc hc).or (zDi hc)),λxs Ts H Q QQ vx h k=>by
 rcases h with⟨i,j,rfl,q⟩|⟨ns,rfl,l,q⟩|⟨ss,rfl,l,q⟩
 ·obtain⟨x,y,rfl,v,v'⟩:=zB1 vx
  obtain⟨rfl,_⟩:=v.leafI
  obtain⟨rfl,_⟩:=v'.leafI
  refine .inl ⟨i,j,rfl,k _ _ _ (.flat rfl) ?_⟩
  have e:(if j<i then j else i)=min i j:=by split<;>omega
  rw[e];exact q
 ·obtain⟨x,rfl,v⟩:=dG vx
  obtain⟨a,ys,rfl,hs,z,p⟩:=v.seqI
  rw[mV p]at hs
  exact .inr (.inl ⟨a,ns,rfl,cB hs,l,λM h1 h2=>k _ _ _ (.flat rfl) (q M h1 h2)⟩)
 ·obtain⟨x,rfl,v⟩:=dG vx
  obtain⟨a,ys,rfl,hs,z,p⟩:=v.seqI
  rw[jO p]at hs
  exact .inr (.inr ⟨a,ss,rfl,cB hs,l,λM h1 h2=>k _ _ _ (.flat rfl) (q M h1 h2)⟩)⟩
theorem fM(hc:X.calm=true):iI X (.builtin "max") zJy:=⟨_,(zEd hc).or ((zEe hc).or (zDj hc)),λxs Ts H Q QQ vx h k=>by
 rcases h with⟨i,j,rfl,q⟩|⟨ns,rfl,l,q⟩|⟨ss,rfl,l,q⟩
 ·obtain⟨x,y,rfl,v,v'⟩:=zB1 vx
  obtain⟨rfl,_⟩:=v.leafI
  obtain⟨rfl,_⟩:=v'.leafI
  refine .inl ⟨i,j,rfl,k _ _ _ (.flat rfl) ?_⟩
  have e:(if j > i then j else i)=max i j:=by split<;>omega
  rw[e];exact q
 ·obtain⟨x,rfl,v⟩:=dG vx
  obtain⟨a,ys,rfl,hs,z,p⟩:=v.seqI
  rw[mV p]at hs
  exact .inr (.inl ⟨a,ns,rfl,cB hs,l,λM h1 h2=>k _ _ _ (.flat rfl) (q M h1 h2)⟩)
 ·obtain⟨x,rfl,v⟩:=dG vx
  obtain⟨a,ys,rfl,hs,z,p⟩:=v.seqI
  rw[jO p]at hs
  exact .inr (.inr ⟨a,ss,rfl,cB hs,l,λM h1 h2=>k _ _ _ (.flat rfl) (q M h1 h2)⟩)⟩
def zFO:List Tv->(List Tv->Prop)->Prop:=λTs Q=>∃t Us,Ts=[.seq t Us]/\Q Us
theorem kM:pS X (.type "list") zFO:=⟨_,xN,λxs Ts H Q QQ vx h k=>by
 obtain⟨t,Us,rfl,q⟩:=h
 obtain⟨x,rfl,v⟩:=dG vx
 obtain⟨a,ys,rfl,hs,z,p⟩:=v.seqI
 refine⟨a,ys,rfl,?_,λl n=>k l ys Us _ (cI n) n bF z (VAs.hs (gD n) p) q⟩
 cases t with
 |false=>exact .inl (cB hs)
 |true=>exact .inr hs⟩
def zBp:Pn:=λTs Q=>∃t Us,Ts=[.seq t Us]/\Q (.seq true Us)
theorem dJ:iI X (.type "tuple") zBp:=⟨_,zCC,λxs Ts H Q QQ vx h k=>by
 obtain⟨t,Us,rfl,q⟩:=h
 obtain⟨x,rfl,v⟩:=dG vx
 obtain⟨a,ys,rfl,hs,z,p⟩:=v.seqI
 refine⟨a,ys,rfl,?_⟩
 cases t with
 |false=>exact .inl ⟨cB hs,λl n=>k _ _ _ (Raw.tup n z p) q⟩
 |true=>exact .inr ⟨hs,k _ _ _ (.va v) q⟩⟩
def zFN:List Tv->(List Tv->Prop)->Prop:=λTs Q=>(∃ns:List Int,Ts=[.seq false (ns.map iT)]/\ns.length<64/\∀ms:List Int,ms.Perm ns->ms.Pairwise (·<=·)->Q (ms.map iT)) \/
 (∃ss:List Str,Ts=[.seq false (ss.map sT)]/\ss.length<64/\Q ((bU ss).map sT))\/∃kts,Ts=[.dct kts]/\Q ((bU (kts.map (·.1))).map sT)
theorem tF{K:W.Frag}{H:Hp}{kvs:List (Key×V)}{kts:List (Str×Tv)}(p:VAk K H kvs kts):kvs.map (·.1)=(kts.map (·.1)).map Sum.inr:=by
 unfold VAk at p
 induction p with
 |nil=>rfl
 |cons r _ ih=>rw[List.map_cons,List.map_cons,List.map_cons,ih,r.1]
theorem kL(us:List Str):(bU us).length=us.length:=(fY us).length_eq
theorem yS(hc:X.calm=true):pS X (.builtin "sorted") zFN:=⟨_,call_sortedI.or (call_sortedS.or (zCJ hc)),λxs Ts H Q QQ vx h k=>by
 rcases h with⟨ns,rfl,l,q⟩|⟨ss,rfl,l,q⟩|⟨kts,rfl,q⟩
 ·obtain⟨x,rfl,v⟩:=dG vx
  obtain⟨a,ys,rfl,hs,z,p⟩:=v.seqI
  rw[mV p]at hs
  refine .inl ⟨a,ns,rfl,cB hs,l,λms b h1 h2 n=>k b _ _ _ (cI n) n bF (by rw[List.length_map,h1.length_eq];omega) (zAq ms) (q ms h1 h2)⟩
 ·obtain⟨x,rfl,v⟩:=dG vx
  obtain⟨a,ys,rfl,hs,z,p⟩:=v.seqI
  rw[jO p]at hs
  refine .inr (.inl ⟨a,ss,rfl,cB hs,l,λms b h1 h2 n=>k b _ _ _ (cI n) n bF (by rw[List.length_map,h1.length_eq];omega) (kU ms) (by rw[kP h1 h2];exact q)⟩)
 ·obtain⟨x,rfl,v⟩:=dG vx
  obtain⟨a,kvs,rfl,⟨ob,hd⟩,nd,z,p⟩:=v.dctI
  refine .inr (.inr ⟨a,ob,kvs,kts.map (·.1),rfl,hd,tF p,by rw[List.length_map];exact z,λms b h1 h2 n=>k b _ _ _ (cI n) n bF (by rw[List.length_map,h1.length_eq,List.length_map];omega) (kU ms) (by rw[kP h1 h2];exact q)⟩)⟩
def uBM(T:String)(r:Tv->List Tv->(Tv->Prop)->Prop)(u:UT)(ua:UTa):UT:=λρ Q=>u ρ λW ρ1=>rR T W=true/\uVs ua ρ1 λTs ρ2=>r W Ts λW'=>Q W' ρ2
theorem zFj{K:W.Frag}{H:Hp}{x:V}{W:Tv}(v:VA K H x W)(h:rR "str" W=true):tyV K "str" x H:=by
 cases W with
 |leaf w=>
  obtain⟨rfl,f⟩:=v.leafI
  rcases jM f with rfl|⟨b,rfl⟩|⟨b,rfl⟩|⟨b,rfl⟩
  ·cases h
  ·cases h
  ·cases h
  ·rfl
 |seq t Ts=>cases t<;>cases h
 |dct kts=>cases h
theorem lH{name:Str}{id:String}{r:Tv->List Tv->(Tv->Prop)->Prop}{o e:Expr}{es:List Expr}{u:UT}{ua:UTa}{apos cpos:Pos}(slot:Slot "str" name id)(hty:typeOf (.builtin id)=pure (.type "method_descriptor"))
  (hm:∃r',MtR X id r'/\∀x W xs Ts H Q (QQ:VK),VA X.K H x W->VAs X.K H xs Ts->r W Ts Q->(∀z W H',Raw X.K H H' z W->Q W->QQ z H')->r' x xs H QQ) (ho:UE X F o u) (ha:UA X F (e::es) ua)
  (hbase:attributeBase o name X.env (eval o X.env)=eval o X.env:=by rfl)
  (hfew:((backTo cpos (starEach (e::es) X.env)).all (λx=>!x.1)&&(backToKw cpos (keywordEach [] X.env)).all (λx=>x.1.isSome)&&decide ((e::es).length+([]:List Keyword).length+(if ([]:List Keyword).isEmpty then 0 else 1)<30))=true:=by rfl)
  (hline:(apos.endLine==cpos.line)=true:=by rfl) (hs:starEach (e::es) X.env=(false,eval e X.env)::starEach es X.env:=by rfl) (hplain:(backTo cpos (starEach es X.env)).any (·.1)=false:=by rfl):
  UE X F (.Call (.Attribute o name apos) (e::es) [] cpos) (uBM "str" r u ua):=by
 obtain⟨r',m,hr⟩:=hm
 refine⟨PE.imp (PE.fz (qM PySem.F.plainAttrs_str slot hty m ho.pe ha.pa hbase hfew hline hs hplain)) λσ H QQ ⟨ρ,Q,f,h,k⟩=>⟨ρ,_,f,h,λx W H1 ρ1 s1 v1 q1=>⟨zFj v1 q1.1,ρ1,_,s1.fr,q1.2,λxs as H2 ρ2 s2 p2 q2=>?_⟩⟩⟩
 obtain⟨Ts,rfl,q⟩:=iE q2
 exact hr x W xs Ts H2 _ _ (v1.hs (s2.hs s1.fr)) (iF p2) q λz W' H' rw q=>rw.fin s2.fr λH'' s4 v4=>k _ _ _ _ ((s1.trans s2).trans s4) v4 q
def zFM:Tv->List Tv->(Tv->Prop)->Prop:=λW Ts Q=>∃i j:Str,W=sT i/\Ts=[sT j]/\Q (bT (decide (0+j.length<=i.length)&&Builtin.Str.subAt i j 0))
theorem pE:∃r',MtR X "str.startswith" r'/\∀x W xs Ts H Q (QQ:VK),VA X.K H x W->VAs X.K H xs Ts->zFM W Ts Q->(∀z W H',Raw X.K H H' z W->Q W->QQ z H')->r' x xs H QQ:=⟨_,zCA,λx W xs Ts H Q QQ v p h k=>by
 obtain⟨i,j,rfl,rfl,q⟩:=h
 obtain⟨rfl,_⟩:=v.leafI
 obtain⟨y,rfl,v'⟩:=dG p
 obtain⟨rfl,_⟩:=v'.leafI
 exact⟨i,j,rfl,rfl,k _ _ _ (.flat rfl) q⟩⟩
def zIy:Tv->List Tv->(Tv->Prop)->Prop:=λW Ts Q=>∃i j:Str,W=sT i/\Ts=[sT j]/\∀n:Int,Q (iT n)
theorem zFD:∃r',MtR X "str.find" r'/\∀x W xs Ts H Q (QQ:VK),VA X.K H x W->VAs X.K H xs Ts->zIy W Ts Q->(∀z W H',Raw X.K H H' z W->Q W->QQ z H')->r' x xs H QQ:=⟨_,zFY,λx W xs Ts H Q QQ v p h k=>by
 obtain⟨i,j,rfl,rfl,q⟩:=h
 obtain⟨rfl,_⟩:=v.leafI
 obtain⟨y,rfl,v'⟩:=dG p
 obtain⟨rfl,_⟩:=v'.leafI
 exact⟨i,j,rfl,rfl,λn=>k _ _ _ (.flat rfl) (q n)⟩⟩
def zIx:Tv->List Tv->(Tv->Prop)->Prop:=λW Ts Q=>∃ss:List Str,W=sT ⟨#[]⟩/\Ts=[.seq false (ss.map sT)]/\(cE ss).length<=100000/\Q (sT ⟨(cE ss).toArray⟩)
theorem zFC:∃r',MtR X "str.join" r'/\∀x W xs Ts H Q (QQ:VK),VA X.K H x W->VAs X.K H xs Ts->zIx W Ts Q->(∀z W H',Raw X.K H H' z W->Q W->QQ z H')->r' x xs H QQ:=⟨_,zFX,λx W xs Ts H Q QQ v p h k=>by
 obtain⟨ss,rfl,rfl,l,q⟩:=h
 obtain⟨rfl,_⟩:=v.leafI
 obtain⟨y,rfl,v'⟩:=dG p
 obtain⟨a,ys,rfl,hs,z,p'⟩:=v'.seqI
 rw[jO p']at hs
 refine⟨a,ss,rfl,rfl,cB hs,l,λz e=>k _ _ _ (.flat rfl) ?_⟩
 have:z=⟨(cE ss).toArray⟩:=by
  cases z with
  |mk c=>congr 1;have e:c.toList=cE ss:=e;rw[<-e]
 rw[this];exact q⟩
end
end L2
namespace L2
open PySem PySem.Spec PyProof.Rows WordM
section
variable{X:Cx}{F:Fm}{pos:Pos}
def zJh(u:UT)(g:UG):UTs:=λP ρ=>u ρ λT ρ1=>g T ρ1 P.nx
theorem zA9{tg e:Expr}{u:UT}{g:UG}{m:Nat}(he:UE X F e u)(hg:UGt X F m tg g)(hs:swapsWithSole [tg] e pos.line X.env=pure false:=by rfl)(hw:swappedStores [tg] e X.env=pure none:=by rfl)
  (h1:(assignEach [tg] X.env).map (·.2)=[assign tg X.env]:=by rfl):US X F (.Assign [tg] e pos) (zJh u g):=⟨PS.imp (zBm he.pe hg.pg hs hw h1) λD σ H ⟨ρ,P,f,h,k1,_⟩=>by
 refine⟨ρ,_,f,h,λx T H1 ρ1 s1 v1 q1=>⟨T,ρ1,_,v1,s1.fr,q1,λσ' ρ' f' _ _ _ _ q=>?_⟩⟩
 exact k1 _ _ _ f' (s1.hs f) q⟩
def jH(K:W.Frag)(mg:Str->Option Value)(x:Str)(T:Tv):Prop:=∃v u,mg x=some u/\RelV v u/\∀H,VA K H v T
theorem zBI{x:Str}{T:Tv}(G:jH X.K X.mg x T)(hg:Gl X x)(hd:(x==("__debug__":Str))=false:=by decide):UE X F (.Name x pos) (uC T):=by
 obtain⟨v,u,m,r,h⟩:=G
 exact zFh hg m r h hd
def mE(K:W.Frag)(prm:Params)(mg:Str->Option Value)(x:Str)(kvs:List (Str×Str)):Prop:=∃d,mg x=some (.ref d)/\zB0 K prm d kvs
def uKD(kvs:List (Str×Str))(u:UT):UT:=λρ Q=>u ρ λT ρ1=>∃i j,T=sT i/\getS kvs i=some j/\Q (sT j) ρ1
theorem vJ{x:Str}{p:Pos}{e:Expr}{u:UT}{kvs:List (Str×Str)}(G:mE X.K X.w.params X.mg x kvs)(hg:Gl X x)(he:UE X F e u)(hs:pT e:=by intro _ _;rfl)(hd:(x==("__debug__":Str))=false:=by decide):UE X F (.Subscript (.Name x p) e pos) (uKD kvs u):=by
 obtain⟨d,m,D⟩:=G
 refine⟨PE.imp (iL (zIJ D) (zAK (v:=.ref d) hg m rfl hd) he.pe hs) λσ H QQ ⟨ρ,Q,f,h,k⟩=>⟨ρ,_,f,h,λy T H1 ρ1 s1 v1 q1=>?_⟩⟩
 obtain⟨i,j,rfl,ej,q⟩:=q1
 obtain⟨rfl,_⟩:=v1.leafI
 exact⟨i,j,rfl,rfl,ej,k _ _ _ _ s1 (.flat rfl) q⟩
def zEq(u:UT):UTl:=λρ Q=>u ρ λT ρ1=>∃ss:List Str,T=.seq false (ss.map sT)/\ss.length<4000/\(bM ss).length<64/\Q ((bU (bM ss)).map sT) ρ1
theorem oV{e:Expr}{u:UT}{p p' pos':Pos}(hc:X.calm=true)(hg:Gl X "sorted")(hm:X.mg "sorted"=none)(hg':Gl X "set")(hm':X.mg "set"=none)(he:UE X F e u)(hst:eR e=false:=by rfl)
  (hpl:(backTo pos (starEach [] X.env)).any (·.1)=false:=by rfl) (hpl':(backTo pos' (starEach [] X.env)).any (·.1)=false:=by rfl):
  UL X F (.Call (.Name "sorted" p) [.Call (.Name "set" p') [e] [] pos'] [] pos) (zEq u):=⟨PE.imp (hZ (xM hc) hg hm boot_sorted (cV (kN (zEa hc) hg' hm' L2.boot_set (cV he.pe dL hst) (by decide) (by decide) (jN hst) hpl') dL rfl) (by decide) (by decide) rfl hpl) λσ H QQ ⟨ρ,Q,f,h,k⟩=>by
 refine⟨ρ,_,f,h,λx T H1 ρ1 s1 v1 q1=>?_⟩
 obtain⟨ss,rfl,l1,l2,q⟩:=q1
 obtain⟨a,ys,rfl,hs,z,p⟩:=v1.seqI
 rw[jO p]at hs
 refine⟨a,ss,rfl,cB hs,l1,λb nb=>⟨b,bM ss,rfl,bF,l2,λms c h1 h2 nc=>?_⟩⟩
 have sm:=(cI (o:=jX X.prog X.w b (bM ss)) nb).trans (cI (o:=.lst (ms.map V.str)) nc)
 refine k _ _ _ _ _ (s1.trans (Stp.same s1.fr sm)) (s1.non ((cI nb).free nc)) bF (by rw[List.length_map,h1.length_eq];omega) (kU ms) ?_
 rw[kP h1 h2]
 exact q⟩
def zBV:Tv->Bool
 |.seq _ _=>true
 |_=>false
def zGz(u:UT):UT:=λρ Q=>u ρ λW ρ1=>Q (bT (zBV W)) ρ1
theorem zR{e l t:Expr}{u:UT}{p:Pos}{kk:Nat}{tpos:Pos}(hg:Gl X "isinstance")(hm:X.mg "isinstance"=none)(he:UE X F e u)(hl:PE X l (tC (.ty "list")))(ht:PE X t (tC (.ty "tuple")))(hst:eR e=false:=by rfl)
  (h1:starEach [l,t] X.env=(false,eval l X.env)::starEach [t] X.env:=by rfl) (h2:starEach [t] X.env=(false,eval t X.env)::starEach [] X.env:=by rfl) (hpl:(backTo pos (starEach [.Tuple [l,t] kk tpos] X.env)).any (·.1)=false:=by rfl):
  UE X F (.Call (.Name "isinstance" p) [e,.Tuple [l,t] kk tpos] [] pos) (zGz u):=⟨PE.imp (hZ zCZ hg hm boot_isinstance (cV he.pe (cV (zIv hl ht h1 h2) dL rfl) hst) (by decide) (by decide) (jN hst) hpl) λσ H QQ ⟨ρ,Q,f,h,k⟩=>
 ⟨ρ,_,f,h,λx W H1 ρ1 s1 v1 q1 b nb=>by
  have v2:VA X.K (upd H1 b ltO) x W:=v1.hs (gD nb)
  refine⟨x,b,zBV W,rfl,bF,?_,k _ _ _ _ (s1.trans (Stp.same s1.fr (cI nb))) (.flat rfl) q1⟩
  cases W with
  |leaf w=>
   obtain⟨rfl,fl⟩:=v2.leafI
   rcases jM fl with rfl|⟨b,rfl⟩|⟨b,rfl⟩|⟨b,rfl⟩<;>rfl
  |seq tt Ts=>
   obtain⟨a,xs,rfl,hs,z,p⟩:=v2.seqI
   cases tt with
   |false=>exact .inl ⟨xs,cB hs,rfl⟩
   |true=>exact .inr (.inl ⟨xs,hs,rfl⟩)
  |dct kts=>
   obtain⟨a,kvs,rfl,⟨ob,hd⟩,n,z,p⟩:=v2.dctI
   exact .inr (.inr ⟨kvs,.inr ⟨ob,hd⟩,rfl⟩)⟩⟩
end
def mD(own:Nat)(fr:List Nat)(g:UG)(tf:UTt)(ue:UT)(T:Tv)(ρ:aR)(R:Option Tv->aR->Prop):Prop:=g T (blk own fr ρ) λρ1=>tf ρ1 λb ρ2=>if b=true then ue ρ2 λU ρ3=>R (some U) (bck own fr ρ ρ3) else R none (bck own fr ρ ρ2)
section
variable{own:Nat}{fr:List Nat}{g:UG}{tf:UTt}{ue:UT}
def zIX(own:Nat)(fr:List Nat)(g:UG)(tf:UTt)(ue:UT)(Ts:List Tv)(Q:List Tv->aR->Prop)(o:Option Tv)(ρ:aR):Prop:=match o with
 |some U=>fJ own fr g tf ue Ts ρ λUs ρ4=>Q (U::Us) ρ4
 |none=>fJ own fr g tf ue Ts ρ Q
theorem oZ(T:Tv)(Ts:List Tv)(ρ:aR)(Q:List Tv->aR->Prop):fJ own fr g tf ue (T::Ts) ρ Q=mD own fr g tf ue T ρ (zIX own fr g tf ue Ts Q):=rfl
theorem pL{ρ:aR}(f:Tv->Option Tv):∀{Ts:List Tv}{Q:List Tv->aR->Prop},(∀T∈Ts,∀R:Option Tv->aR->Prop,R (f T) ρ->mD own fr g tf ue T ρ R)->Q (Ts.filterMap f) ρ->fJ own fr g tf ue Ts ρ Q
 |[],_,_,q=>q
 |T::Ts,Q,h,q=>by
  rw[oZ]
  refine h T (.head _) _ ?_
  rw[List.filterMap_cons]at q
  cases e:f T with
  |none=>rw[e]at q;exact pL f (λT' hT'=>h T' (.tail _ hT')) q
  |some U=>rw[e]at q;exact pL (Q:=λUs ρ4=>Q (U::Us) ρ4) f (λT' hT'=>h T' (.tail _ hT')) q
theorem zF{ρ:aR}{Ts:List Tv}{Q:List Tv->aR->Prop}(J:Nat->List Tv->aR->Prop)(h0:J 0 [] ρ)(hs:∀i T Us ρ',Ts[i]?=some T->J i Us ρ'->∀R:Option Tv->aR->Prop,(∀o ρ'',J (i+1) (Us++o.toList) ρ''->R o ρ'')->mD own fr g tf ue T ρ' R)
  (hd:∀Us ρ',J Ts.length Us ρ'->Q Us ρ'):fJ own fr g tf ue Ts ρ Q:=by
 have key:∀(n i:Nat) (Us:List Tv) (ρ:aR) (Q:List Tv->aR->Prop),n+i=Ts.length->J i Us ρ->(∀Vs ρ',J Ts.length (Us++Vs) ρ'->Q Vs ρ')->fJ own fr g tf ue (Ts.drop i) ρ Q:=by
  intro n
  induction n with
  |zero=>
   intro i Us ρ Q e j hd
   have:i=Ts.length:=by omega
   subst this
   rw[List.drop_length]
   exact hd [] ρ (by rw[List.append_nil];exact j)
  |succ n ih=>
   intro i Us ρ Q e j hd
   have hi:i<Ts.length:=by omega
   rw[List.drop_eq_getElem_cons hi,oZ]
   refine hs i _ Us ρ (List.getElem?_eq_getElem hi) j _ λo ρ'' j'=>?_
   cases o with
   |none=>exact ih (i+1) _ ρ'' Q (by omega) j' λVs ρ' q=>hd Vs ρ' (by simpa using q)
   |some U=>exact ih (i+1) _ ρ'' (λUs ρ4=>Q (U::Us) ρ4) (by omega) j' λVs ρ' q=>hd (U::Vs) ρ' (by simpa using q)
 exact key Ts.length 0 [] ρ Q (by omega) h0 λVs ρ' q=>hd Vs ρ' (by simpa using q)
theorem gJ{g:UG}{ub:UTs}{Ts:List Tv}{P:PEnds}{ρ:aR}(J:Nat->aR->Prop)(h0:J 0 ρ)(hs:∀i T ρ' (N:aR->Prop),Ts[i]?=some T->J i ρ'->(∀ρ'',J (i+1) ρ''->N ρ'')->g T ρ' λρ1=>ub {P with nx:=N,ct:=N,bk:=P.nx} ρ1)
  (hd:∀ρ',J Ts.length ρ'->P.nx ρ'):iS g ub Ts P ρ:=by
 have key:∀(n i:Nat) (ρ:aR),n+i=Ts.length->J i ρ->iS g ub (Ts.drop i) P ρ:=by
  intro n
  induction n with
  |zero=>
   intro i ρ e j
   have:i=Ts.length:=by omega
   subst this
   rw[List.drop_length]
   exact hd ρ j
  |succ n ih=>
   intro i ρ e j
   have hi:i<Ts.length:=by omega
   rw[List.drop_eq_getElem_cons hi]
   exact hs i _ ρ (λρ'=>iS g ub (Ts.drop (i+1)) P ρ') (List.getElem?_eq_getElem hi) j λρ'' j'=>ih (i+1) ρ'' (by omega) j'
 exact key Ts.length 0 ρ (by omega) h0
end
end L2
namespace L2
open PySem PySem.Spec PyProof.Rows WordM
def fH:PSp:=λas R=>∃m:Int,as=[.dk,.va (iT m)]/\0<m/\BigOk m/\∀r:Int,0<=r->r<m->R (iT r)
theorem On.kp{p c:Addr}{H H':Hp}(o:On p c H H'):Kp (some (p,c)) H H':=⟨λb u e n=>o.e b u e (n p c rfl).1 (n p c rfl).2,λp' c' e=>by cases e;exact o.d⟩
theorem Good.take{P:Program}{w:World}{K:W.Frag}{mg:Str->Option Value}{base:Heap}{k:Nat}{x:Str}{ps:List Str}(G:Good P w K mg base k x ps zBf):PGood P w K mg base k x ps fH:=Good.imp G λvs H Q E ⟨dk,as,R,d,p,⟨m,e,hm,hb,q⟩,kk⟩=>by
 subst e
 cases p with
 |cons r1 t1=>
  cases t1 with
  |cons r2 t2=>
   cases t2
   obtain⟨p,c,ed,rfl⟩:=r1
   subst ed
   obtain⟨rfl,_⟩:=VA.leafI r2
   exact⟨p,c,m,rfl,d p c rfl,hm,hb,λr H' h1 h2 o=>kk _ _ _ o.kp (.flat rfl) (q r h1 h2)⟩
theorem zEl{X:Cx}{F:Fm}{st:List Stmt}:USs X F st (λ_ _=>False):=⟨PSs.imp zDI λD σ H ⟨_,_,_,h,_⟩=>h⟩
theorem Has.pfalse{P:Program}{w:World}{K:W.Frag}{mg:Str->Option Value}{base:Heap}{x:Str}{st:Stmt}{N ps:List Str}{k:Nat}{psp:PSp}(h:Has K mg x st)(S:bE N ps (aL st))
  (hb:∀(kV doc pm:Value) (an:Option Addr) (cdv ct:Value) (us:List Value),us.length=ps.length->bindArgs (W.fnOf x x (gK st) (fG st) (aL st) .none kV doc pm an cdv ct) ⟨us,[]⟩=pure (ps.zip us)) (hf:∀as R,psp as R->False):PGood P w K mg base (k+1) x ps psp:=
 h.pgood S hb (λ_ _ _ _ _ _ _ _ _=>zEl) λas R q=>(hf as R q).elim
theorem bN{j:Int}(h1:-(10 ^ 100)<j)(h2:j<10 ^ 100):BigOk j:=by
 unfold BigOk
 have:j.natAbs<10 ^ 100:=by omega
 exact Nat.lt_trans this (by decide +kernel)
section
variable{own:Nat}{fr:List Nat}{g:UG}{tf:UTt}{ue:UT}{α:Type}
theorem cP{ρ:aR}(c:α->Tv)(f:α->Option Tv):∀{l:List α}{Q:List Tv->aR->Prop},(∀a∈l,∀R:Option Tv->aR->Prop,R (f a) ρ->mD own fr g tf ue (c a) ρ R)->Q (l.filterMap f) ρ->fJ own fr g tf ue (l.map c) ρ Q
 |[],_,_,q=>q
 |a::l,Q,h,q=>by
  rw[List.map_cons,oZ]
  refine h a (.head _) _ ?_
  rw[List.filterMap_cons]at q
  cases e:f a with
  |none=>rw[e]at q;exact cP c f (λb hb=>h b (.tail _ hb)) q
  |some U=>rw[e]at q;exact cP (Q:=λUs ρ4=>Q (U::Us) ρ4) c f (λb hb=>h b (.tail _ hb)) q
theorem eX{ρ:aR}(c f:α->Tv){l:List α}{Q:List Tv->aR->Prop}(h:∀a∈l,∀R:Option Tv->aR->Prop,R (some (f a)) ρ->mD own fr g tf ue (c a) ρ R)(q:Q (l.map f) ρ):fJ own fr g tf ue (l.map c) ρ Q:=
 cP c (λa=>some (f a)) h (by rw[show l.filterMap (λa=>some (f a))=l.map f from List.filterMap_eq_map'▸rfl];exact q)
theorem zE{ρ:aR}(r:Tv->Tv->Prop):∀{Ts:List Tv}{Q:List Tv->aR->Prop},(∀T∈Ts,∀R:Option Tv->aR->Prop,(∀U,r T U->R (some U) ρ)->mD own fr g tf ue T ρ R)->(∀Us,Paired r Ts Us->Q Us ρ)->fJ own fr g tf ue Ts ρ Q
 |[],_,_,q=>q [] .nil
 |T::Ts,Q,h,q=>by
  rw[oZ]
  exact h T (.head _) _ λU hU=>zE (Q:=λUs ρ4=>Q (U::Us) ρ4) r (λT' hT'=>h T' (.tail _ hT')) λUs p=>q _ (.cons hU p)
theorem nC{g:UG}{ub:UTs}{P:PEnds}{ρ:aR}(c:α->Tv){l:List α}(J:Nat->aR->Prop)(h0:J 0 ρ)(hs:∀i a ρ' (N:aR->Prop),l[i]?=some a->J i ρ'->(∀ρ'',J (i+1) ρ''->N ρ'')->g (c a) ρ' λρ1=>ub {P with nx:=N,ct:=N,bk:=P.nx} ρ1)
  (hd:∀ρ',J l.length ρ'->P.nx ρ'):iS g ub (l.map c) P ρ:=
 gJ J h0 (λi T ρ' N e j hN=>by
  rw[List.getElem?_map]at e
  obtain⟨a,ea,rfl⟩:=Option.map_eq_some_iff.mp e
  exact hs i a ρ' N ea j hN) (by rw[List.length_map];exact hd)
end
theorem pO(x y:Str):eqT (sT x) (sT y)=decide (x=y):=by
 rw[eqT]
 show(x==y)=_
 exact Bool.beq_eq_decide_eq x y
theorem fZ{x:Str}{ss:List Str}:((ss.map sT).any λU=>eqT U (sT x))=decide (x∈ss):=by
 rw[List.any_map,Bool.eq_iff_iff,List.any_eq_true,decide_eq_true_iff]
 constructor
 ·rintro⟨y,hy,e⟩
  have e:eqT (sT y) (sT x)=true:=e
  rw[pO,decide_eq_true_iff]at e
  rw[<-e];exact hy
 ·intro h
  exact⟨x,h,by show eqT (sT x) (sT x)=true;rw[pO,decide_eq_true_iff]⟩
theorem iA{x:Str}{ss:List Str}:oO (sT x) (ss.map sT):=⟨trivial,λU hU=>by
 obtain⟨s,_,rfl⟩:=List.mem_map.mp hU
 trivial⟩
theorem sif{b:Bool}{A B:Prop}(h1:b=true->A)(h2:b=false->B):if b=true then A else B:=by
 cases b with
 |true=>exact(if_pos rfl).mpr (h1 rfl)
 |false=>exact(if_neg Bool.false_ne_true).mpr (h2 rfl)
theorem cJ{p:Prop}[Decidable p]{A B:Prop}(h1:p->A)(h2:¬ p->B):if decide p=true then A else B:=sif (λh=>h1 (of_decide_eq_true h)) λh=>h2 (of_decide_eq_false h)
end L2
namespace L2
open PySem PySem.Spec PyProof.Rows WordM
abbrev UTd:=aR->(List (Str×Tv)->aR->Prop)->Prop
def zII(K:W.Frag)(F:Fm)(u:UTd):TE:=λσ H QQ=>∃ρ Q,FrOk K F ρ σ H/\u ρ Q/\∀a kvs kts H' ρ',Stp K F σ ρ H ρ' H'->H a=none->H' a=some (.dK kvs)->(kts.map (·.1)).Nodup->kts.length<64->VAk K H' kvs kts->Q kts ρ'->QQ (.ref a) H'
structure UD (X:Cx) (F:Fm) (e:Expr) (u:UTd):Prop where
 pe:PE X e (zII X.K F u)
section
variable{X:Cx}{F:Fm}{e:Expr}{pos:Pos}
def uD(u:UTd):UT:=λρ Q=>u ρ λkts ρ1=>Q (.dct kts) ρ1
theorem nS{u:UTd}(h:UD X F e u):UE X F e (uD u):=⟨PE.imp (PE.fz h.pe) λσ H QQ ⟨ρ,Q,fr,h,k⟩=>⟨ρ,_,fr,h,λa kvs kts H' ρ' s n e nd z p q=>
 .inr ⟨a,_,rfl,e,rfl,λob=>k _ _ _ _ (s.put fr n e rfl (.frz ob (.dK kvs))) (VA.dct ⟨ob,bF⟩ nd z (VAk.hs (fN e rfl) p)) q⟩⟩⟩
variable{u:UT}{p:Pos}
def zGT(K:W.Frag):List V->Hp->VK->Prop:=λxs H Q=>∃(l:Addr) (ys:List V) (ps:List (Key×V)),xs=[.ref l]/\Rd H l (.lst ys)/\Paired (λy (p:Key×V)=>∃t,y=.ref t/\SqT K H t [kV p.1,p.2]) ys ps/\ps.length<=1000 /\
  ∀d,H d=none->Q (.ref d) (upd H d (.dK (gO [] ps)))
theorem zDl(hc:X.calm=true):CallR X (.type "dict") (zGT X.K):=by
 rintro pins s σ H _ us Q I r ⟨l,ys,ps,rfl,hl,hp,hsz,q⟩
 obtain⟨u,rfl,rx⟩:=cX r
 cases rx
 obtain⟨hz,its,n,hv,hget⟩:=(show ObjOk X.prog X.w H s.heap l (.lst ys) from hl.ok I.hok)
 have key:∀{ys:List V} {its:List Value} {ps:List (Key×V)},Vals ys its->Paired (λy (p:Key×V)=>∃t,y=.ref t/\SqT X.K H t [kV p.1,p.2]) ys ps ->
   ∃qs:List (Key×Value),KV ps qs/\its.length=qs.length/\∀(j:Nat) (k:Key) (v:Value),qs[j]?=some (k,v)->∃t kk,its[j]?=some (.ref t)/\IsTup s.heap t #[kk,v]/\(bW X.prog X.w).is k kk=true:=by
  intro ys its ps hv hp
  induction hp generalizing its with
  |nil=>cases hv;exact⟨[],.nil,rfl,λj k v e=>by simp at e⟩
  |@cons y p ys' ps' h _ ih=>
   cases hv with
   |cons r0 rs=>
    obtain⟨t,rfl,ht⟩:=h
    cases r0
    obtain⟨qs,kq,lq,fq⟩:=ih rs
    obtain⟨tits,tv,tt,_⟩:=I.tuple ht
    cases tv with
    |@cons _ kk _ _ r1 rs1=>
     cases rs1 with
     |@cons _ vv _ _ r2 rs2=>
      cases rs2
      refine⟨(p.1,vv)::qs,.cons ⟨rfl,r2⟩ kq,by rw[List.length_cons,List.length_cons,lq],λj k v e=>?_⟩
      cases j with
      |zero=>
       cases e
       exact⟨t,kk,rfl,tt,lZ r1⟩
      |succ j=>exact fq j k v e
 obtain⟨qs,kq,lq,fq⟩:=key hv hp
 have hbig:=I.big
 have hps:ps.length=qs.length:=Paired.length kq
 refine zCF (ps:=qs) (I.ok.hd hc) hget ⟨by simpa using lq,λj k v e=>by obtain⟨t,kk,a,b,c⟩:=fq j k v e;exact⟨t,kk,by simpa using a,b,c⟩⟩ (by omega) λh' tk hd k=>?_
 have hlen:=sC ps []
 refine⟨.ref s.heap.objs.size,_,I.laid (t':=tk) (o:=.dK (gO [] ps)) k (Nat.le_refl _) (show ObjOk _ _ _ h' _ (.dK _) from ⟨by rw[sizeLine_eq];have:=hlen;simp at this;omega,?_,_,zF8 kq .nil,hd⟩),rfl,q _ I.fresh⟩
 exact beq_eq_false_iff_ne.mpr (Nat.ne_of_gt hbig)
def zGA(u:UT):UTd:=λρ Q=>u ρ λT ρ1=>∃kts:List (Str×Tv),T=.seq false (kts.map λkt=>.seq true [sT kt.1,kt.2])/\(kts.map (·.1)).Nodup/\kts.length<64/\Q kts ρ1
theorem zAb{K:W.Frag}{H:Hp}:∀{ys:List V}{kts:List (Str×Tv)},VAs K H ys (kts.map λkt=>.seq true [sT kt.1,kt.2])->∃ps:List (Key×V),Paired (λy (p:Key×V)=>∃t,y=.ref t/\SqT K H t [kV p.1,p.2]) ys ps/\VAk K H ps kts
 |[],[],_=>⟨[],.nil,.nil⟩
 |y::ys,kt::kts,.cons r t=>by
  obtain⟨ps,h1,h2⟩:=zAb t
  obtain⟨a,xs,rfl,hs,z,p⟩:=VA.seqI r
  obtain⟨k,v,rfl,vk,vv⟩:∃k v,xs=[k,v]/\VA K H k (sT kt.1)/\VA K H v kt.2:=by
   cases p with
   |cons r1 t1=>
    cases t1 with
    |cons r2 t2=>cases t2;exact⟨_,_,rfl,r1,r2⟩
  obtain⟨rfl,_⟩:=vk.leafI
  exact⟨(.inr kt.1,v)::ps,.cons ⟨a,rfl,hs⟩ h1,.cons ⟨rfl,vv⟩ h2⟩
theorem yN{K:W.Frag}{H:Hp}{kvs:List (Key×V)}{kts:List (Str×Tv)}(p:VAk K H kvs kts)(n:(kts.map (·.1)).Nodup):(kvs.map (·.1)).Nodup:=by
 rw[tF p]
 unfold List.Nodup at n ⊢
 rw[List.pairwise_map]
 exact n.imp λh e=>h (Sum.inr.inj e)
theorem zS(hc:X.calm=true)(hg:Gl X "dict")(hm:X.mg "dict"=none)(he:UE X F e u)(hst:eR e=false:=by rfl)(hpl:(backTo pos (starEach [] X.env)).any (·.1)=false:=by rfl):UD X F (.Call (.Name "dict" p) [e] [] pos) (zGA u):=
 ⟨PE.imp (kN (zDl hc) hg hm boot_dict (cV he.pe dL hst) (by decide) (by decide) (jN hst) hpl) λσ H QQ ⟨ρ,Q,f,h,k⟩=>by
  refine⟨ρ,_,f,h,λx T H1 ρ1 s1 v1 q1=>?_⟩
  obtain⟨kts,rfl,nd,z,q⟩:=q1
  obtain⟨a,xs,rfl,⟨ob,hs⟩,zz,p⟩:=v1.seqI
  obtain⟨ps,h1,h2⟩:=zAb p
  have l2:ps.length=kts.length:=Paired.length h2
  refine⟨a,xs,ps,rfl,.inr ⟨ob,hs⟩,h1,by omega,λd n=>?_⟩
  rw[sV (kvs:=[]) (by simpa using yN h2 nd),List.nil_append]
  exact k _ _ _ _ _ (s1.trans (Stp.same s1.fr (cI n))) (s1.non n) bF nd z (VAk.hs (gD n) h2) q⟩
def uY:List (Str×UT)->aR->(List (Str×Tv)->aR->Prop)->Prop
 |[],ρ,Q=>Q [] ρ
 |(k,u)::r,ρ,Q=>u ρ λT ρ1=>uY r ρ1 λkts ρ2=>Q ((k,T)::kts) ρ2
structure UP (X:Cx) (F:Fm) (pos:Pos) (ks:List (Option Expr)) (vs:List Expr) (l:List (Str×UT)):Prop where
 pp:PPs X pos ks vs (l.map λx=>(tC (.str x.1),dX X.K F x.2))
theorem zBa:UP X F pos [] [] []:=⟨zFB⟩
theorem jB{k:Str}{j}{kpos:Pos}{v:Expr}{ks:List (Option Expr)}{vs:List Expr}{l:List (Str×UT)}{u:UT}(h:UE X F v u)(hr:UP X F pos ks vs l):UP X F pos (some (.Constant (.str k) j kpos)::ks) (v::vs) ((k,u)::l):=⟨zEC zBn h.pe hr.pp⟩
theorem yE{K:W.Frag}:∀{l:List (Str×UT)}{σ:St}{H:Hp}{ρ:aR}{Q:List (Str×Tv)->aR->Prop}{QQ:List (V×V)->Hp->Prop},FrOk K F ρ σ H->uY l ρ Q ->
  (∀kvs kts H' ρ',Stp K F σ ρ H ρ' H'->VAk K H' kvs kts->kts.map (·.1)=l.map (·.1)->Q kts ρ'->QQ (kvs.map λkv=>(kV kv.1,kv.2)) H')->pU (l.map λx=>(tC (.str x.1),dX K F x.2)) σ H QQ
 |[],σ,H,ρ,Q,QQ,f,h,k=>k [] [] H ρ (Stp.refl f) .nil rfl h
 |(x,u)::l,σ,H,ρ,Q,QQ,f,h,k=>by
  refine⟨ρ,_,f,h,λy T H1 ρ1 s1 v1 q1=>yE (l:=l) s1.fr q1 λkvs kts H' ρ' s2 p2 e2 q2=>?_⟩
  exact k ((.inr x,y)::kvs) ((x,T)::kts) H' ρ' (s1.trans s2) (.cons ⟨rfl,v1.hs (s2.hs s1.fr)⟩ p2) (by rw[List.map_cons,List.map_cons,e2]) q2
def zH3(l:List (Str×UT)):UTd:=λρ Q=>uY l ρ Q
theorem zAs{ks:List (Option Expr)}{vs:List Expr}{l:List (Str×UT)}(h:UP X F pos ks vs l)(nd:(l.map (·.1)).Nodup)(h15:l.length<=15)(hall:ks.all (·.isSome)=true:=by rfl)(hl:ks.length=vs.length:=by rfl)(h0:ks≠[]:=by exact λz=>nomatch z)(hk:ks.length<=15:=by decide):
  UD X F (.Dict ks vs pos) (zH3 l):=⟨PE.imp (zFI h.pp hall hl h0 hk) λσ H QQ ⟨ρ,Q,f,h,k⟩ b nb=>by
 have s0:=Stp.same f (cI (o:=.dK []) nb)
 refine yE s0.fr h λkvs kts H' ρ' s2 p2 e2 q2=>?_
 have n2:(kts.map (·.1)).Nodup:=by rw[e2];exact nd
 have lk:kvs.length=kts.length:=Paired.length p2
 have lk2:kts.length=l.length:=by simpa using congrArg List.length e2
 have hb:H' b=some (.dK []):=s2.st b _ bF (f.none_nodk nb) (s0.notown f nb)
 refine⟨hb,kvs,rfl,by omega,?_⟩
 rw[sV (kvs:=[]) (by simpa using yN p2 n2),List.nil_append]
 exact k _ _ _ _ _ ((s0.trans s2).put f nb hb rfl _) nb bF n2 (by omega) (VAk.hs (fN hb rfl) p2) q2⟩
variable{x:Str}{apos cpos:Pos}
end
section
variable{X:Cx}{F:Fm}
def zIi:R2:=λx y H Q=>∃l k xs,x=.ref l/\y=.int k/\Rd H l (.lst xs) /\ -(2 ^ 63)<=k/\k<2 ^ 63/\xs.length*k.toNat<=sizeLine/\∀p,H p=none->Q (.ref p) (upd H p (.lst (List.replicate k.toNat xs).flatten))
theorem zFP:OpR X (binaryOp .Mult) zIi:=by
 rintro pins s σ H _ _ v u Q I rx ry ⟨l,k,xs,rfl,rfl,hH,h1,h2,hz,q⟩
 cases rx
 obtain⟨t,rfl⟩:=ry
 obtain⟨z,its,n,r,e⟩:=hH.ok I.hok
 have hl:=r.length
 have hlen:its.toArray.size*k.toNat<=sizeLine:=by rw[List.size_toArray,<-hl];exact hz
 have hcap:¬ its.toArray.size*k.toNat > (2 ^ 63-1) / 8:=by
  have:(sizeLine:Nat)<=(2 ^ 63-1) / 8:=by decide
  omega
 have hfit:¬ (!Builtin.List.listFitsIndex k)=true:=by
  rw[fitsIndex_both h1 h2]
  exact Bool.false_ne_true
 have hlong:¬ Builtin.List.listTooLong (its.toArray.size*k.toNat)=true:=by
  rw[zEO hlen]
  exact Bool.false_ne_true
 have hnew:List.foldl (λx1 x2=>x1++x2) #[] (List.replicate (if its.toArray.isEmpty=true then 0 else k.toNat) its.toArray)=(List.replicate k.toNat its).flatten.toArray:=by
  have f0:∀m:Nat,List.foldl (λx1 x2=>x1++x2) #[] (List.replicate m its.toArray)=(List.replicate m its).flatten.toArray:=λm=>by
   have:=zB its m []
   rw[List.nil_append]at this
   exact this
  rw[f0]
  cases its with
  |nil=>simp
  |cons a r'=>rw[if_neg (by simp)]
 refine wpAny_binaryOp_repeat_ref (T:="list") (U:="int") (by decide) ⟨_,e,rfl⟩ (λs'=>typeIs_int s' k t) noFill_list_mul F.fills_int_mul F.slot_int_rmul repeat_list F.slot_int_index.lookup
  (call_meets F.slot_int_rmul (typeIs_int s k t) F.entry_int_rmul (F.args_int_rmul_2 _ _) (int___rmul___int_list k t l its.toArray n)
   ⟨e,rfl,⟨_,e,rfl⟩,call_meets F.slot_list_mul ⟨_,e,rfl⟩ F.entry_list_mul (F.args_list_mul_2 _ _) (AutoListH.list___mul___list_int_3 l its.toArray n k t hfit hcap hlong) ⟨e,?_⟩⟩)
 rw[hnew]
 exact⟨.ref _,_,I.lnew (t':=s.toks) (r.rep k.toNat) (by rw[uN,Nat.mul_comm];exact hz),rfl,q _ I.fresh⟩
theorem yB{α β:Type}{R:α->β->Prop}{l:List α}{m:List β}(p:Paired R l m):∀k:Nat,Paired R (List.replicate k l).flatten (List.replicate k m).flatten
 |0=>.nil
 |k+1=>by rw[List.replicate_succ,List.replicate_succ,List.flatten_cons,List.flatten_cons];exact sK p (yB p k)
def vS:P2
 |.seq false xs,.leaf (.int k),Q=>(xs.length*k.toNat<=100000 /\ -(2 ^ 62)<=k/\k<2 ^ 62)/\Q (.seq false (List.replicate k.toNat xs).flatten)
 |T,U,Q=>wT T U Q
theorem kZ:fF X (binaryOp .Mult) vS:=by
 obtain⟨a,oa,ra⟩:=zGZ (X:=X)
 refine⟨_,oa.or zFP,λx y T U H Q QQ vx vy h k=>?_⟩
 unfold vS at h
 split at h
 ·obtain⟨a,xs,rfl,⟨ob,hs⟩,z,p⟩:=vx.seqI
  obtain⟨rfl,_⟩:=vy.leafI
  obtain⟨⟨h1,h2,h3⟩,q⟩:=h
  have l1:xs.length=_:=Paired.length p
  refine .inr ⟨a,_,xs,rfl,rfl,.inr ⟨ob,hs⟩,by omega,by omega,iC (by rw[l1];exact h1),λb n=>k _ _ _ (Raw.lst n ?_ (yB p _)) q⟩
  rw[uN,Nat.mul_comm];exact h1
 ·exact .inl (ra x y T U H Q QQ vx vy h k)
end
end L2
namespace L2
open PySem PySem.Spec PyProof.Rows WordM
inductive Wd where
 |few (ts:List Str)
 |make (h:Str) (a b:Int) (ms:List Str)
inductive Pt where
 |nothing
 |truths (bs:List Bool)
 |numbers (lo hi st:Int)
 |texts (w:Wd)
 |lists (a b:Int) (f:List Pt)
 |record (a b:Int) (fs:List (Str×Bool×List Pt))
 |table (a b:Int) (w:Wd) (f:List Pt)
def aW:Wd->Tv
 |.few ts=>.seq true [sT "few",.seq true (ts.map sT)]
 |.make h a b ms=>.seq true [sT "make",sT h,iT a,iT b,.seq true (ms.map sT)]
def aO:Pt->Tv
 |.nothing=>.seq true [sT "nothing"]
 |.truths bs=>.seq true [sT "truths",.seq true (bs.map bT)]
 |.numbers lo hi st=>.seq true [sT "numbers",iT lo,iT hi,iT st]
 |.texts w=>.seq true [sT "texts",aW w]
 |.lists a b f=>.seq true [sT "lists",iT a,iT b,.seq true (f.map aO)]
 |.record a b fs=>.seq true [sT "record",iT a,iT b,.seq true (fs.map λx=>.seq true [sT x.1,bT x.2.1,.seq true (x.2.2.map aO)])]
 |.table a b w f=>.seq true [sT "table",iT a,iT b,aW w,.seq true (f.map aO)]
termination_by p=>sizeOf p
decreasing_by
 all_goals simp_wf
 ·have:=List.sizeOf_lt_of_mem ‹_›;omega
 ·obtain⟨x1,x2,x3⟩:=x
  have h1:=List.sizeOf_lt_of_mem ‹_∈fs›
  have h2:=List.sizeOf_lt_of_mem ‹_∈x3›
  simp at h1
  omega
 ·have:=List.sizeOf_lt_of_mem ‹_›;omega
abbrev bC(f:List Pt):Tv:=.seq true (f.map aO)
abbrev bO(x:Str×Bool×List Pt):Tv:=.seq true [sT x.1,bT x.2.1,bC x.2.2]
theorem iZ(a b:Int)(f:List Pt):aO (.lists a b f)=.seq true [sT "lists",iT a,iT b,bC f]:=by rw[aO]
theorem cW(a b:Int)(fs:List (Str×Bool×List Pt)):aO (.record a b fs)=.seq true [sT "record",iT a,iT b,.seq true (fs.map bO)]:=by rw[aO]
theorem cL(a b:Int)(w:Wd)(f:List Pt):aO (.table a b w f)=.seq true [sT "table",iT a,iT b,aW w,bC f]:=by rw[aO]
def iJ:Pt->Str
 |.nothing=>"nothing"
 |.truths _=>"truths"
 |.numbers ..=>"numbers"
 |.texts _=>"texts"
 |.lists ..=>"lists"
 |.record ..=>"record"
 |.table ..=>"table"
def dY:Pt->Nat
 |.nothing=>0
 |.truths _=>1
 |.numbers ..=>2
 |.texts _=>3
 |.lists ..=>4
 |.record ..=>5
 |.table ..=>5
theorem eB{a b:Int}{A B:Prop}(h1:a=b->A)(h2:a≠b->B):if (false != eqV (.int a) (.int b))=true then A else B:=sif (λz=>h1 (by simpa[eqV]using z)) λz=>h2 (by simpa[eqV]using z)
theorem cU{a b:Str}{A B:Prop}(h1:a=b->A)(h2:a≠b->B):if (false != eqV (.str a) (.str b))=true then A else B:=sif (λz=>h1 (by simpa[eqV]using z)) λz=>h2 (by simpa[eqV]using z)
def oN(s:Str):Prop:=Sg s/\s.length<=50
def cK(l:List Str):Prop:=l.Pairwise λa b=>cs a<cs b
def bL:Wd->Prop
 |.few ts=>1<=ts.length/\ts.length<=6/\cK ts/\∀t∈ts,oN t
 |.make h a b ms=>oN h/\0<=a/\a<=b/\1<=b/\b<=100/\ms.Sublist MK/\ms≠[]
def zBu:Wd->Bool
 |.few _=>false
 |.make ..=>true
theorem zCR{a b:Str}(h:cs a<=cs b)(n:a≠b):cs a<cs b:=by
 refine Classical.byContradiction λz=>n (kY (List.le_antisymm h (List.not_lt.mp z)))
theorem zFo(l:List Str):∃ss:List Str,ss.Perm l/\sortedS ss=true:=by
 refine⟨l.mergeSort λa b=>decide (cs a<=cs b),List.mergeSort_perm _ _,PyProof.Rows.sortedS_of_pairwise _ ?_⟩
 refine(List.pairwise_mergeSort (λa b c h1 h2=>?_) (λa b=>?_) l).imp λ{a b} h=>?_
 ·exact decide_eq_true (List.le_trans (of_decide_eq_true h1) (of_decide_eq_true h2))
 ·rcases List.le_total (cs a) (cs b) with z|z<;>simp[z]
 ·rw[ltCps_eq]
  exact decide_eq_false (List.not_lt.mpr (of_decide_eq_true h))
theorem zFn(l:List Str):(bU l).Pairwise λa b=>cs a<=cs b:=by
 obtain⟨ss,h1,h2⟩:=zFo l
 rw[<-kP h1 h2]
 exact oW _ h2
theorem kK{l:List Str}(n:l.Nodup):cK (bU l):=by
 have h2:(bU l).Nodup:=(fY l).nodup_iff.mpr n
 exact List.Pairwise.imp₂ (λa b h n=>zCR h n) (zFn l) h2
theorem gG{l:List Str}(h:cK l):l.Nodup:=List.Pairwise.imp (λ{a b} h e=>by rw[e]at h;exact List.lt_irrefl _ h) h
end L2
namespace L2
open PySem PySem.Spec PyProof.Rows WordM
def stW(x y:Str):Bool:=decide (0+y.length<=x.length)&&Builtin.Str.subAt x y 0
def bD(x hd:Str):Str:=Txt.slice x (some (hd.length:Int)) none
def bS:Wd->Str->Bool
 |.few ss,x=>decide (x∈ss)
 |.make hd lo hi ms,x=>stW x hd&&((decide (lo<=((bD x hd).length:Int))&&decide (((bD x hd).length:Int)<=hi))&&(cs (bD x hd)).all λc=>decide (cN c∈ms))
def fA:Nat->Str
 |0=>"nothing"
 |1=>"truth"
 |2=>"number"
 |3=>"text"
 |4=>"list"
 |_=>"dict"
end L2
namespace L2
open PySem PySem.Spec PyProof.Rows WordM
def qI(K:W.Frag):Sp:=λvs H Q _=>∃(a:Addr) (ns:List Int),vs=[.ref a]/\SqL K H a (ns.map V.int)/\ns.length<=63/\∀H',Q (.bl true) H'
def mO(n:Nat):aR:=.no::.dk::List.replicate (n-2) .no
theorem zHJ{K:W.Frag}{H:Hp}{p c:Addr}{N:List Str}{x:V}(hN:2<=N.length)(d:DeckAt H p c):FrOk K ⟨H,some (p,c)⟩ (mO N.length) ((dS N [x]).set 1 (some (.ref p))) H:=by
 have nm:∀(i:Nat) (s:Sl),(mO N.length)[i]?=some s->(s=.dk/\i=1)\/s=.no:=λi s e=>by
  unfold mO at e
  match i,e with
  |0,e=>exact .inr (by simpa using e.symm)
  |1,e=>exact .inl ⟨by simpa using e.symm,rfl⟩
  |i+2,e=>
   have e:(List.replicate (N.length-2) Sl.no)[i]?=some s:=by simpa using e
   exact .inr (List.eq_of_mem_replicate (List.mem_of_getElem? e))
 refine⟨λp' c' e=>by cases e;exact d,⟨λ_ _ e _=>e,λp' c' e=>by cases e;exact d⟩,?_,λi s e=>?_,λi j a s t e _ m _ _ _=>?_⟩
 ·unfold mO dS
  simp
  omega
 ·rcases nm i s e with⟨rfl,rfl⟩|rfl
  ·refine⟨p,c,rfl,?_⟩
   unfold ixv dS
   rw[List.getElem?_set_self (by simp;omega)]
   rfl
  ·trivial
 ·rcases nm i s e with⟨rfl,_⟩|rfl<;>cases m
theorem zAh{K:W.Frag}{mg:Str->Option Value}{x:Str}{a:Addr}{ss:List Str}(m:mg x=some (.ref a))(T:∀H,SqT K H a (ss.map V.str))(l:ss.length<=100000:=by decide):jH K mg x (.seq true (ss.map sT)):=by
 refine⟨.ref a,.ref a,m,rfl,λH=>VA.seq (T H) (by rw[List.length_map];exact l) ?_⟩
 have key:∀ss:List Str,VAs K H (ss.map V.str) (ss.map sT):=λss=>by
  induction ss with
  |nil=>exact .nil
  |cons s ss ih=>exact .cons (.flat rfl) ih
 exact key ss
theorem zFz{X:Cx}{st:List Stmt}{us:UTs}(h:∀F,USs X F st us):PSs X st (λD σ H=>∃F,lY X.K F us D σ H):=λpins s σ H D I ⟨F,q⟩=>(h F).ps pins s σ H D I q
theorem zF0{X:Cx}{us:UTs}{D:kD}{p c:Addr}{H:Hp}{N:List Str}{x:V}(hN:2<=N.length)(d:DeckAt H p c)(q:∀H',D.rt (.bl true) H')(h:us {nx:=λ_=>False,rt:=λT=>T=bT true} (mO N.length)):
  ∃F,lY X.K F us D ((dS N [x]).set 1 (some (.ref p))) H:=⟨⟨H,some (p,c)⟩,mO N.length,_,zHJ hN d,h,λ_ _ _ _ _ z=>z.elim,λx T H' _ v e=>by
 subst e
 obtain⟨rfl,_⟩:=v.leafI
 exact q H',λ_ _ _ _ _ z=>z.elim,λ_ _ _ _ _ z=>z.elim⟩
end L2
namespace L2
open PySem PySem.Spec PyProof.Rows WordM
section
variable{X:Cx}{F:Fm}{e ke ve:Expr}{pos:Pos}{uk uv:UT}
def uNo:UTd:=λρ Q=>Q [] ρ
theorem zGu:UD X F (.Dict [] [] pos) uNo:=⟨PE.imp zEI λσ H QQ ⟨ρ,Q,f,h,k⟩ a n=>k a [] [] _ ρ (Stp.same f (cI n)) n bF .nil (by decide) .nil h⟩
end
end L2
namespace L2
open PySem PySem.Spec PyProof.Rows
@[reducible] def zKt:PyProof.Rows.KeyKind where
 α:=Bool
 blt a b:=!a&&b
 irrefl a:=by cases a<;>rfl
 trans a b c h1 h2:=by cases a<;>cases b<;>cases c<;>simp_all
 negTrans a b c h:=by cases a<;>cases b<;>cases c<;>simp_all
 total a b h1 h2:=by cases a<;>cases b<;>simp_all
 keyOf v:=match v with|.bool b=>some b|_=>none
 dflt:=false
end L2
namespace L2
open PySem PySem.Spec PyProof.Rows WordM
section
variable{X:Cx}{F:Fm}
variable{pos:Pos}
def zGv(u:UT):UTl:=λρ Q=>u ρ λT ρ1=>∃kts,T=.dct kts/\Q ((bU (kts.map (·.1))).map sT) ρ1
theorem zEm{e:Expr}{u:UT}{p apos cpos:Pos}(hc:X.calm=true)(hg:Gl X "sorted")(hm:X.mg "sorted"=none)(he:UE X F e u)
  (hbase:attributeBase e "keys" X.env (eval e X.env)=eval e X.env:=by rfl) (hline:(apos.endLine==cpos.line)=true:=by rfl) (hpl:(backTo pos (starEach [] X.env)).any (·.1)=false:=by rfl):
  UL X F (.Call (.Name "sorted" p) [.Call (.Attribute e "keys" apos) [] [] cpos] [] pos) (zGv u):=⟨PE.imp (hZ (zCI hc) hg hm boot_sorted (cV (zFH he.pe hbase hline) dL rfl) (by decide) (by decide) rfl hpl) λσ H QQ ⟨ρ,Q,f,h,k⟩=>by
 refine⟨ρ,_,f,h,λx T H1 ρ1 s1 v1 q1=>?_⟩
 obtain⟨kts,rfl,q⟩:=q1
 obtain⟨a,kvs,rfl,⟨ob,hd⟩,nd,z,p⟩:=v1.dctI
 refine⟨a,ob,kvs,rfl,hd,λb nb=>⟨b,a,ob,kvs,kts.map (·.1),rfl,bF,(cI nb) _ _ hd,tF p,by rw[List.length_map];exact z,λms c h1 h2 nc=>?_⟩⟩
 have sm:=(cI (o:=nY a b) nb).trans (cI (o:=.lst (ms.map V.str)) nc)
 refine k _ _ _ _ _ (s1.trans (Stp.same s1.fr sm)) (s1.non ((cI nb).free nc)) bF (by rw[List.length_map,h1.length_eq,List.length_map];omega) (kU ms) ?_
 rw[kP h1 h2]
 exact q⟩
end
end L2
namespace L2
open PySem PySem.Spec PyProof.Rows
theorem zFc(us:List Str)(x:Str):us.length<=(dP us x).length:=by
 unfold dP
 split
 ·exact Nat.le_refl _
 ·rw[List.length_append];omega
theorem zDT(val:Nat->Str){i n:Nat}(h:i<=n):(dO val i).length<=(dO val n).length:=by
  induction n with
  | zero => have : i = 0 := by omega
            subst this;exact Nat.le_refl _
  |succ n ih=>
    by_cases e:i=n+1
    · subst e;exact Nat.le_refl _
    · have:=ih (by omega)
      rw[pG]
      have:=zFc (dO val n) (val n)
      omega
section
variable{prog:Program}{w:World}{A:Around}{R:Result->Shared->Prop}{I:Addr}{fp wr:List Addr}{G:Array GenState->Array GenState->Prop}{n:Nat}{P:Nat->Value->Prop}{St:Nat->Shared->Prop}
theorem zDV(W:WalksS prog w A.in1 I fp wr G n P St)(S:Addr)(hf:S∉fp)(val:Nat->Str)(hv:∀i v,P i v->∃t,v=.str (val i) t)(hb:(dO val n).length+1<scanBound):
  ∀(k i:Nat) (s:Shared),n-i=k->i<=n->St i s->SetS prog w S (dO val i) s.heap ->
   (∀s',Moved (S::wr) G s s'->SetS prog w S (dO val n) s'.heap->R (.ok (.ret .none)) s')->codeAny (model prog w) A (.builtin "set.update.loop" ⟨[.ref S,.ref I],[]⟩) R s:=by
 have nw:S∉wr:=λz=>hf (W.sub _ z)
 have sub:∀b∈wr,b∈S::wr:=λb z=>List.mem_cons_of_mem _ z
 intro k
 induction k with
 |zero=>
  intro i s hk hi st hS hR
  have e:i=n:=by omega
  subst e
  refine codeAny_builtin F.entry_set_update_loop ?_
  rw[Around.under_plainId F.plain_set_update_loop _]
  show wpAny _ A.in1 (pyNext (.ref I) >>= _) _ _ s
  refine wpAny_bind (W.done s _ _ st λs' hm=>?_)
  show wpAny _ A.in1 (ret Value.none) _ _ s'
  exact wpAny_pure (hR s' (hm.mono sub) (hS.kept λo q=>hm.heap S _ nw q))
 |succ k ih=>
  intro i s hk hi st hS hR
  have lt:i<n:=by omega
  refine codeAny_builtin F.entry_set_update_loop ?_
  rw[Around.under_plainId F.plain_set_update_loop _]
  show wpAny _ A.in1 (pyNext (.ref I) >>= _) _ _ s
  refine wpAny_bind (W.item i s _ _ lt st λv s' hP st' hm=>?_)
  obtain⟨t,rfl⟩:=hv i v hP
  have hS':SetS prog w S (dO val i) s'.heap:=hS.kept λo q=>hm.heap S _ nw q
  show wpAny _ A.in1 (holding [Value.str (val i) t] (setAdd S (.str (val i) t)) >>= _) _ _ s'
  refine wpAny_bind (wpAny_holding ?_)
  unfold setAdd
  refine wpAny_holding (wpAny_bind ((PySem.strKind prog w).pyHash (k:=val i) (by show Value.isStrOf _ (.str _ t)=true;simp[Value.isStrOf]) ?_))
  have room:(dO val i).length+1<scanBound:=by have:=zDT val (Nat.le_of_lt lt);omega
  refine zAo (s:={s' with toks:=s'.toks+1}) hS' room λb h' sb S2=>?_
  rw[<-pG]at S2
  refine wpAny_pure ⟨plainId_quiet F.plain_set_update_loop _,ih (i+1) _ (by omega) lt (W.frame _ s' _ _ st' (Nat.le_succ _) λc hc o e=>?_) S2 λs'' hm'' S3=>?_⟩
  ·rw[sb.2 c (λz:c=S=>hf (by rw[<-z];exact hc))];exact e
  ·refine hR s'' (Moved.trans W.gtrans ((hm.mono sub).then_heap (Nat.le_succ _) λc o hc e=>?_) hm'') S3
   rw[sb.2 c (λz:c=S=>hc (by rw[z];exact List.mem_cons_self))];exact e
end
section
variable{prog:Program}{w:World}{A:Around}{E:Value->Shared->Prop}{s:Shared}
theorem zCK{l:Addr}{items:Array Value}{ss:List Str}{Q:Value->Shared->Prop}(hh:A.handled=none)(hl:s.heap.IsList l items)(hi:StrsAre items.toList ss)(hb:(bM ss).length+1<scanBound)
  (h:∀(h':Heap) (tk:Nat),SetS prog w s.heap.objs.size (bM ss) h'->(∀b o,b<s.heap.objs.size->s.heap.get? b=some o->h'.get? b=some o)->Q (.ref s.heap.objs.size) {s with heap:=h',toks:=tk}):
  wpAny (model prog w) A (call (.type "set") [.ref l]) Q E s:=by
 have hz:items.size=ss.length:=by have:=hJ hi;simpa using this
 obtain⟨c,tl,hmro⟩:=F.called_set.mro
 have hmade:=F.called_set.made
 have hsub:=F.called_set.sub
 refine wpAny_call (codeAny_of_tree ?_)
 show wpAny _ _ (callAny (.type "set") _) _ _ _
 refine wpAny_pure ⟨Code.quiet_builtin _ (by decide +kernel),codeAny_builtin F.entry_type_call ?_⟩
 rw[Around.under_plain (weight_type_call_type "set" [.ref l] []) rfl]
 have h1:=F.called_set.notType
 have h2:=F.called_set.canCreate
 have hct:=F.typeCall_set_1 (.ref l)
 repeat (any_goals (first|assumption|wp_step))
 refine codeAny_mono (xY (.ref l) (E:=E) (Q₁:=λobj s₁=>obj=.ref s.heap.objs.size/\s₁={s with heap:=s.heap.push (cG #[] 0 (.fresh 0 0 (!byT w)))}) ⟨rfl,rfl⟩) λr s₁ hr=>?_
 cases r with
 |error e=>exact hr
 |ok fl=>
  cases fl with
  |ret obj=>
   obtain⟨rfl,rfl⟩:=hr
   have hS:(s.heap.push (cG #[] 0 (.fresh 0 0 (!byT w)))).get? s.heap.objs.size=some (cG #[] 0 (.fresh 0 0 (!byT w))):=Heap.get?_push_size _ rfl
   have hT:Shared.TypeIs {s with heap:=s.heap.push (cG #[] 0 (.fresh 0 0 (!byT w)))} (.ref s.heap.objs.size) "set":=⟨_,hS,rfl⟩
   have hli:=F.called_set.init.lookup
   have hbi:=F.called_set.init.bind (.ref s.heap.objs.size)
   repeat (any_goals (first|assumption|wp_step))
   refine codeAny_mono (codeAny_call_builtin (R:=wants (λr s₂=>r=.none/\∃h' tk,s₂={s with heap:=h',toks:=tk}/\SetS prog w s.heap.objs.size (bM ss) h' /\
     (∀b o,b<s.heap.objs.size->s.heap.get? b=some o->h'.get? b=some o)) E) F.called_set.init.plain F.entry_set_init (check_set_init_1 hT ?_)) λr₂ s₂ hr₂=>?_
   ·obtain⟨ol,hol,hcl,nl,hdl⟩:=hl
    obtain⟨ocls,odict,odata,oslots⟩:=ol
    simp only at hcl hdl
    subst hcl hdl
    have hol':(s.heap.push (cG #[] 0 (.fresh 0 0 (!byT w)))).get? l=some {cls:=.type "list",dict:=odict,data:=.seq items nl,slots:=oslots}:=Heap.get?_push_of_some _ hol
    have hsls:=F.sub_list_set
    have hslf:=F.sub_list_frozenset
    have hne:(Value.type "list"==Value.type "dict")=false:=by decide
    have hl1:(s.heap.push (cG #[] 0 (.fresh 0 0 (!byT w)))).IsList l items:=⟨_,hol',rfl,nl,rfl⟩
    unfold Builtin.«set.__init__» noKeywords Builtin.Frozenset.updateFrom
    generalize hPI:pyIter=PI
    wp_walk
    subst hPI
    refine wpAny_pyIter_list hl1 ?_
    refine wpAny_bind (wpAny_runValue ?_)
    have hlS:l<s.heap.objs.size:=Heap.lt_size hol
    have hh3:A.in1.in1.in1.handled=none:=by simp[hh]
    have neI:l≠(s.heap.push (cG #[] 0 (.fresh 0 0 (!byT w)))).objs.size:=by
     rw[Heap.size_push]
     exact Nat.ne_of_lt (Nat.lt_succ_of_lt hlS)
    have nf:s.heap.objs.size∉[(s.heap.push (cG #[] 0 (.fresh 0 0 (!byT w)))).objs.size,l]:=by
     rw[Heap.size_push]
     simp only[List.mem_cons,List.not_mem_nil,or_false,not_or]
     exact⟨Nat.ne_of_lt (Nat.lt_succ_self _),Nat.ne_of_gt hlS⟩
    refine zDV ((Walks.list hh3 _ l neI items).toS) s.heap.objs.size nf (λi=>ss.getD i ⟨#[]⟩) (λi v hv=>jQ hi i v (by rw[Array.getElem?_toList];exact hv)) (by rw[hz,tM (ss:=ss) (λi hi=>by simp[hi])];exact hb) (items.size-0) 0 _ (by omega) (Nat.zero_le _)
     ⟨⟨_,Heap.get?_push_size _ rfl,rfl,rfl⟩,hl1.push _⟩ ?_ λs' hm S'=>?_
    ·refine⟨#[],0,.fresh 0 0 (!byT w),Heap.get?_push_of_some _ hS,⟨λe he=>by simp at he,⟨[],.nil,.refl _⟩,List.nodup_nil,by decide,?_,.inl rfl,rfl⟩⟩
     simp[SetTable.fits,SetTable.fresh,SetTable.fill]
    ·obtain⟨h',g',d',tk',os'⟩:=s'
     have eg:g'=s.gens:=hm.gens
     have ed:d'=s.drawn:=hm.drawn
     have eo:os'=s.os:=hm.os
     subst eg ed eo
     rw[hz,tM (ss:=ss) (λi hi=>by simp[hi])]at S'
     show wpAny _ _ _ _ _ _
     refine wpAny_pure ?_
     show wpAny _ _ (ret Value.none) _ _ _
     refine wpAny_pure ⟨rfl,h',tk',rfl,S',λb o hb e=>?_⟩
     have hb2:b≠(s.heap.push (cG #[] 0 (.fresh 0 0 (!byT w)))).objs.size:=by
      rw[Heap.size_push]
      exact Nat.ne_of_lt (Nat.lt_succ_of_lt hb)
     exact hm.heap b o (by simp only[List.mem_cons,List.not_mem_nil,or_false,not_or];exact⟨Nat.ne_of_lt hb,hb2⟩) (Heap.get?_push_of_some _ (Heap.get?_push_of_some _ e))
   ·cases r₂ with
    |error e=>exact hr₂
    |ok fl₂=>
     cases fl₂ with
     |ret r=>
      obtain⟨rfl,h',tk,rfl,S',hk'⟩:=hr₂
      repeat (any_goals (first|assumption|wp_step))
      exact h _ _ S' hk'
     |_=>exact hr₂.elim
  |_=>exact hr.elim
end
section
variable{X:Cx}{F:Fm}
def zGR(P:Program)(w:World)(K:W.Frag):List V->Hp->VK->Prop:=λxs H Q=>∃(p:Addr) (ss:List Str),xs=[.ref p]/\SqL K H p (ss.map V.str)/\(bM ss).length<4000/\∀a:Addr,H a=none->Q (.ref a) (upd H a (jX P w a (bM ss)))
theorem zDh(hc:X.calm=true):CallR X (.type "set") (zGR X.prog X.w X.K):=by
 intro pins s σ H xs us Q I r h
 obtain⟨p,ss,rfl,hq,hz,q⟩:=h
 obtain⟨u,rfl,rx⟩:=cX r
 cases rx
 obtain⟨its,rv,pl,hz'⟩:=I.list hq
 have hi:StrsAre its.toArray.toList ss:=kF rv
 refine zCK (I.ok.hd hc) pl.isList hi (by show(bM ss).length+1<4096;omega) λh' tk S k=>?_
 refine⟨.ref s.heap.objs.size,_,I.laid (t':=tk) (o:=jX X.prog X.w s.heap.objs.size (bM ss)) (λb o e=>k b o (Heap.lt_size e) e) (Nat.le_refl _) ⟨S,?_,λh1 h2 z k'=>z.kept k'⟩,rfl,q _ I.fresh⟩
 obtain⟨es,ep,t,e,_⟩:=S
 exact⟨_,e⟩
variable{pos:Pos}
def yO(u:UT):UTl:=λρ Q=>u ρ λT ρ1=>∃ss:List Str,T=.seq false (ss.map sT)/\(bM ss).length<64/\Q ((bU (bM ss)).map sT) ρ1
theorem zCM{e:Expr}{u:UT}{p p' pos':Pos}(hc:X.calm=true)(hg:Gl X "sorted")(hm:X.mg "sorted"=none)(hg':Gl X "set")(hm':X.mg "set"=none)(he:UE X F e u)(hst:eR e=false:=by rfl)
  (hpl:(backTo pos (starEach [] X.env)).any (·.1)=false:=by rfl) (hpl':(backTo pos' (starEach [] X.env)).any (·.1)=false:=by rfl):
  UL X F (.Call (.Name "sorted" p) [.Call (.Name "set" p') [e] [] pos'] [] pos) (yO u):=⟨PE.imp (hZ (xM hc) hg hm boot_sorted (cV (kN (zDh hc) hg' hm' L2.boot_set (cV he.pe dL hst) (by decide) (by decide) (jN hst) hpl') dL rfl) (by decide) (by decide) rfl hpl) λσ H QQ ⟨ρ,Q,f,h,k⟩=>by
 refine⟨ρ,_,f,h,λx T H1 ρ1 s1 v1 q1=>?_⟩
 obtain⟨ss,rfl,l2,q⟩:=q1
 obtain⟨a,ys,rfl,hs,z,p⟩:=v1.seqI
 rw[jO p]at hs
 refine⟨a,ss,rfl,cB hs,by omega,λb nb=>⟨b,bM ss,rfl,bF,l2,λms c h1 h2 nc=>?_⟩⟩
 have sm:=(cI (o:=jX X.prog X.w b (bM ss)) nb).trans (cI (o:=.lst (ms.map V.str)) nc)
 refine k _ _ _ _ _ (s1.trans (Stp.same s1.fr sm)) (s1.non ((cI nb).free nc)) bF (by rw[List.length_map,h1.length_eq];omega) (kU ms) ?_
 rw[kP h1 h2]
 exact q⟩
end
end L2
namespace L2
open PySem PySem.Spec PyProof.Rows
section
variable{X:Cx}{F:Fm}
theorem zCN(a b:Str):(a++b).length=a.length+b.length:=by
 show(a.cps++b.cps).size=_
 rw[Array.size_append];rfl
end
end L2
namespace L2
open PySem PySem.Spec PyProof.Rows WordM
theorem stW_iff{x y:Str}:stW x y=true↔∃r,cs x=cs y++r:=by
 unfold stW
 rw[StrLaws.subAt_eq,Bool.and_eq_true,decide_eq_true_iff,List.drop_zero,beq_iff_eq,WordM.len,WordM.len]
 constructor
 ·rintro⟨h1,h2⟩
  have h2:(cs x).take (cs y).length=cs y:=h2
  exact⟨(cs x).drop (cs y).length,(List.take_append_drop (cs y).length (cs x)).symm.trans (by rw[h2])⟩
 ·rintro⟨r,e⟩
  show _/\(cs x).take _=_
  rw[e]
  exact⟨by rw[List.length_append];omega,by rw[List.take_left'];rfl⟩
theorem zY{x y:Str}{r:List Nat}(e:cs x=cs y++r):cs (bD x y)=r:=by
 have hl:x.length=(cs y).length+r.length:=by rw[WordM.len,e,List.length_append]
 unfold bD
 rw[PyProof.Rows.slice_from_eq (b:=(x.length:Int)) (by omega) (by rw[hl,WordM.len];omega) rfl]
 show((cs x).drop _).take _=r
 rw[hl,WordM.len y,e,show(((cs y).length:Nat):Int).toNat=(cs y).length by omega,List.drop_left,List.take_of_length_le]
 omega
theorem zIG{a b:Str}(h:cs a<cs b):a≠b:=λe=>by rw[e]at h;exact List.lt_irrefl _ h
theorem mW:∀{ys xs:List Str},cK xs->cK ys->(∀x∈xs,x∈ys)->xs.Sublist ys
 |[],xs,_,_,h=>by
  cases xs with
  |nil=>exact .slnil
  |cons x xs=>exact absurd (h x (.head _)) (by simp)
 |y::ys,[],_,_,_=>List.nil_sublist _
 |y::ys,x::xs,hx,hy,h=>by
  have hx':=List.pairwise_cons.mp hx
  have hy':=List.pairwise_cons.mp hy
  by_cases e:x=y
  ·subst e
   refine List.Sublist.cons_cons x (mW hx'.2 hy'.2 λz hz=>?_)
   rcases List.mem_cons.mp (h z (.tail _ hz)) with q|q
   ·exact absurd q.symm (zIG (hx'.1 z hz))
   ·exact q
  ·have hxy:x∈ys:=(List.mem_cons.mp (h x (.head _))).resolve_left e
   have yx:cs y<cs x:=hy'.1 x hxy
   refine List.Sublist.cons y (mW hx hy'.2 λz hz=>?_)
   rcases List.mem_cons.mp (h z hz) with q|q
   ·subst q
    rcases List.mem_cons.mp hz with q|q
    ·exact absurd q.symm e
    ·exact absurd (List.lt_trans yx (hx'.1 z q)) (List.lt_irrefl _)
   ·exact q
theorem mk_rise:cK MK:=by unfold cK;decide +kernel
theorem sort_set_mem{ss:List Str}{x:Str}:x∈bU (bM ss)↔x∈ss:=(fY _).mem_iff.trans (gH ss x)
theorem xF(ss:List Str):cK (bU (bM ss)):=kK (jC ss)
end L2
namespace L2
open PySem PySem.Spec PyProof.Rows WordM
section
variable{X:Cx}{F:Fm}{pos p:Pos}{e a b elt iter:Expr}{es ifs:List Expr}{x:Str}{u ua ub ue:UT}{ut:UTa}{ui:UTl}{tf:UTt}{sc scope:Scope}{XN N:List Str}{fr:List Nat}
theorem aH{k m:Nat}{ps:List Str}{psp:PSp}(G:PGood X.prog X.w X.K X.mg X.base k x ps psp)(hr:Room m X.A)(ha:UA X F (e::es) ut)(hm:k<=m:=by omega)(hg:Gl X x:=by exact rfl)(hdb:(x==("__debug__":Str))=false:=by decide)
  (hst:eR e=false:=by rfl) (hpl:(backTo pos (starEach es X.env)).any (·.1)=false:=by rfl):UE X F (.Call (.Name x p) (e::es) [] pos) (jU psp ut):=zHZ G (hr.mono hm) hg ha hdb hst hpl
theorem aI(i:Nat){pos':Pos}(hN:X.N.Nodup)(he:UE X F e u)(hi:X.N[i]?=some x:=by rfl)(hx:Loc X.env.scope x:=by first|exact Or.inl rfl|exact Or.inr rfl)(hs:swapsWith e (some (.Name x pos')) pos.line X.env=pure false:=by rfl)(hf:X.fn x=true\/X.env.scope.names.lookup x=some .local:=by first|exact .inl rfl|exact .inr rfl|assumption):
  US X F (.Assign [.Name x pos'] e pos) (jY i u):=zGq hN hi hx he hs hf
theorem jI(i:Nat){ul:UTl}{pos':Pos}(hN:X.N.Nodup)(he:UL X F e ul)(hi:X.N[i]?=some x:=by rfl)(hx:Loc X.env.scope x:=by first|exact Or.inl rfl|exact Or.inr rfl)(hs:swapsWith e (some (.Name x pos')) pos.line X.env=pure false:=by rfl)(hf:X.fn x=true\/X.env.scope.names.lookup x=some .local:=by first|exact .inl rfl|exact .inr rfl|assumption):
  US X F (.Assign [.Name x pos'] e pos) (wA i ul):=zGr hN hi hx he hs hf
theorem bX{op:CmpOp}{r:P2}(ho:PuCmp X (compareOp op) r)(ha:UE X F a ua)(hb:UE X F b ub)(hm:behindInMarks op b=false:=by exact lU _):UB X F (.Compare a [op] [b] pos) (uB (uOp r ua ub)):=uX ho ha hb hm
theorem fP{op:CmpOp}{r:P2}(ho:fF X (compareOp op) r)(ha:UE X F a ua)(hb:UE X F b ub)(hm:behindInMarks op b=false:=by exact lU _):UE X F (.Compare a [op] [b] pos) (uOp r ua ub):=zGt ho ha hb hm
structure Cq (X:Cx) (sc scope:Scope) (XN N:List Str) (fr:List Nat) (x:Str) (iter:Expr):Prop where
 hc:X.calm=true:=by rfl
 k1:scope.kind=.function:=by rfl
 k2:∀y∈scope.names,y.2≠.cell:=by decide +kernel
 k3:∀y∈scope.names,y.2=.free->sc.names.lookup y.1=some .cell\/sc.names.lookup y.1=some .free:=by decide +kernel
 k4:∀y∈scope.names,y.2=.local->scope.names.lookup y.1=some .local:=by decide +kernel
 k5:N.drop 1=fr.filterMap λi=>XN[i]?:=by rfl
 k6:∀i∈fr,i<XN.length:=by decide +kernel
 k7:1<=N.length:=by decide
 k8:∀x∈N.drop 1,scope.names.lookup x=some .free:=by decide +kernel
 nd:fr.Nodup:=by decide
 nN:N.Nodup:=by decide +kernel
 h0:N[0]?=some x:=by rfl
 hl:∀cl C fp s H,Loc (cD X N scope cl C fp s H).env.scope x:=by intros;first|exact Or.inl rfl|exact Or.inr rfl
 hfn:∀cl C fp s H,(cD X N scope cl C fp s H).fn x=true\/(cD X N scope cl C fp s H).env.scope.names.lookup x=some .local:=by intros;first|exact .inl rfl|exact .inr rfl
 hs:∀x,foldedSetIterable iter X.env x=pure x:=by intro _;rfl
 hsc:X.env.scope=sc:=by rfl
 hxn:X.N=XN:=by rfl
section
variable{z:Str}{pos' spos:Pos}(i:Nat)(hN:X.N.Nodup)(hi:UI X F (.Name x p) iter ui)(hf:∀cl C fp s H,UF (cD X N scope cl C fp s H) F ifs tf)(he:∀cl C fp s H,UE (cD X N scope cl C fp s H) F elt ue)
include hi hf he
theorem dR(c:Cq X sc scope XN N fr x iter:=by exact {}):UL X F (.ListComp elt [⟨.Name x p,iter,ifs,0⟩] scope pos) (iK 1 fr ui (gN 0) tf ue):=
 jP c.hc ⟨c.k1,c.k2,c.k3,c.k4,c.k5,c.k6,c.k7,c.k8⟩ c.nd hi (λcl C fp s H=>bY 0 (by decide) c.nN c.h0 (c.hl cl C fp s H) (c.hfn cl C fp s H)) hf he c.hs c.hsc c.hxn
include hN
theorem jT(c:Cq X sc scope XN N fr x iter:=by exact {})(hz:X.N[i]?=some z:=by rfl)(hzl:Loc X.env.scope z:=by first|exact Or.inl rfl|exact Or.inr rfl)
  (hsw:swapsWith (.ListComp elt [⟨.Name x p,iter,ifs,0⟩] scope pos) (some (.Name z pos')) spos.line X.env=pure true:=by rfl)
  (hf':X.fn z=true\/X.env.scope.names.lookup z=some .local:=by first|exact .inl rfl|exact .inr rfl|assumption):US X F (.Assign [.Name z pos'] (.ListComp elt [⟨.Name x p,iter,ifs,0⟩] scope pos) spos) (jY i (uL (iK 1 fr ui (gN 0) tf ue))):=
 zFg c.hc hN hz hzl ⟨c.k1,c.k2,c.k3,c.k4,c.k5,c.k6,c.k7,c.k8⟩ c.nd hi (λcl C fp s H=>bY 0 (by decide) c.nN c.h0 (c.hl cl C fp s H) (c.hfn cl C fp s H)) hf he hsw hf' c.hs c.hsc c.hxn
end
theorem gQ(hi:UI X F (.Name x p) iter ui)(he:∀cl C fp s H,UE (cD X N scope cl C fp s H) F elt ue)(c:Cq X sc scope XN N fr x iter:=by exact {}):UL X F (.ListComp elt [⟨.Name x p,iter,[],0⟩] scope pos) (iK 1 fr ui (gN 0) vZ ue):=dR hi (λ_ _ _ _ _=>jE) he c
theorem aF{m:Nat}(hr:Room m X.A)(ha:UE X F a ua)(hb:UE X F b ub)(hs:pT b:=by intro _ _;rfl):UE X F (.Subscript a b pos) (uOp pIx ua ub):=zHY (zIs hr.units) ha hb hs
theorem bJ{m:Nat}(hr:Room m X.A)(ha:UE X F a ua)(hb:UE X F b ub):UB X F (.Compare a [.Eq] [b] pos) (uB (uOp pEq ua ub)):=uX (jV hr.units) ha hb (lU _)
theorem iM{m:Nat}(hr:Room m X.A)(ha:UE X F a ua)(hb:UE X F b ub):UB X F (.Compare a [.NotEq] [b] pos) (uB (uOp pNe ua ub)):=uX (zIr hr.units) ha hb (lU _)
end
end L2
namespace L2
open PySem PySem.Spec PyProof.Rows WordM
def eF(X:Cx)(N:List Str)(scope:Scope)(vn:Str)(cl:List (Str×Addr))(C:Addr)(fp:List Addr)(s:Shared)(H:Hp):Cx:={cD X N scope cl C fp s H with fn:=λy=>y==vn}
structure CScope (vn:Str) (sc:Scope) (XN N:List Str) (own:Nat) (fr:List Nat) (scope:Scope):Prop where
 kind:scope.kind=.function
 one:∃as bs,scope.names=as++(vn,.cell)::bs/\(∀y∈as,y.2≠.cell)/\∀y∈bs,y.2≠.cell
 cv:scope.names.lookup vn=some .cell
 free:∀y∈scope.names,y.2=.free->sc.names.lookup y.1=some .cell\/sc.names.lookup y.1=some .free
 loc:∀y∈scope.names,y.2=.local->scope.names.lookup y.1=some .local
 names:N.drop own=fr.filterMap λi=>XN[i]?
 frl:∀i∈fr,i<XN.length
 len:own<=N.length
 vis:∀x∈N.drop own,scope.names.lookup x=some .free
theorem CScope.nocell{vn:Str}{sc:Scope}{XN N:List Str}{own:Nat}{fr:List Nat}{scope:Scope}(S:CScope vn sc XN N own fr scope):∀y∈scope.names,y.2=.cell->y.1=vn:=λy hy e=>by
 obtain⟨as,bs,en,ha,hb⟩:=S.one
 rw[en]at hy
 rcases List.mem_append.mp hy with z|z
 ·exact absurd e (ha y z)
 ·rcases List.mem_cons.mp z with rfl|z
  ·rfl
  ·exact absurd e (hb y z)
theorem xK{vn:Str}{env:Env}{names:List (Str×NameKind)}(hn:∀y∈names,y.2=.cell->y.1=vn){x:Str}{k:NameKind}(hk:k=.cell\/k=.free)
  (h:(names.map λ(n,k)=>if (k==NameKind.free&&env.scope.kind==.function&&env.kindOf n==some .cell) then(n,NameKind.cell) else(n,k)).lookup x=some k):(x,NameKind.free)∈names\/x=vn:=by
 obtain⟨⟨n,k'⟩,hm,e⟩:=List.mem_map.mp (PySem.mem_of_lookup h)
 simp only at e
 split at e
 ·rename_i hc
  rw[Bool.and_eq_true,Bool.and_eq_true]at hc
  have:k'=.free:=eq_of_beq hc.1.1
  subst this
  injection e with e1 _
  subst e1
  exact .inl hm
 ·injection e with e1 e2
  subst e1 e2
  rcases hk with z|z
  ·exact .inr (hn _ hm z)
  ·subst z;exact .inl hm
section
variable{M:Model}{A:Around}{E:Value->Shared->Prop}
theorem yJ{f:Str×NameKind->List (Str×Addr)->Sem (ForInStep (List (Str×Addr)))}(hf:∀y c,y.2≠.cell->f y c=pure (.yield c)):∀(names:List (Str×NameKind)) (c:List (Str×Addr)),(∀y∈names,y.2≠.cell)->forIn names c f=(pure c:Sem (List (Str×Addr)))
 |[],c,_=>rfl
 |y::names,c,h=>by
  rw[List.forIn_cons,hf y c (h y (.head _))]
  show(pure (ForInStep.yield c) >>= _:Sem _)=_
  rw[pure_bind]
  exact yJ hf names c λz hz=>h z (.tail _ hz)
theorem zD8{f:Str×NameKind->List (Str×Addr)->Sem (ForInStep (List (Str×Addr)))}{vn:Str}(as bs:List (Str×NameKind))(c:List (Str×Addr))(hf:∀y c,y.2≠.cell->f y c=pure (.yield c))(ha:∀y∈as,y.2≠.cell)(hb:∀y∈bs,y.2≠.cell)(hv:f (vn,.cell) c=(do let a <- alloc {cls:=Value.type "cell",data:=Data.cell none};pure (.yield ((vn,a)::c))):=by rfl):forIn (as++(vn,NameKind.cell)::bs) c f=(do let a <- alloc {cls:=Value.type "cell",data:=Data.cell none};pure ((vn,a)::c):Sem (List (Str×Addr))):=by
 induction as with
 |nil=>
  rw[List.nil_append,List.forIn_cons,hv,bind_assoc]
  congr 1
  funext a
  show(pure (ForInStep.yield ((vn,a)::c)) >>= _:Sem _)=_
  rw[pure_bind]
  exact yJ hf bs _ hb
 |cons y as ih=>
  rw[List.cons_append,List.forIn_cons,hf y c (ha y (.head _))]
  show(pure (ForInStep.yield c) >>= _:Sem _)=_
  rw[pure_bind]
  exact ih λz hz=>ha z (.tail _ hz)
theorem zC1{s:Shared}{scope:Scope}{vn:Str}{globals:Addr}{closure:List (Str×Addr)}{qual:Str}{func:Option Addr}{code:Value}{outer:Env}{builtins:Addr}{Q:Env->Shared->Prop}(ho:∃as bs,scope.names=as++(vn,.cell)::bs/\(∀y∈as,y.2≠.cell)/\∀y∈bs,y.2≠.cell)
  (h:∀h':Heap,(h'.Ns s.heap.objs.size λ_=>none)->h'.IsCell (s.heap.objs.size+1) none->(∀b o,s.heap.get? b=some o->h'.get? b=some o)->Q (newEnv scope s.heap.objs.size globals ((vn,s.heap.objs.size+1)::closure) qual func code (some outer) builtins) {s with heap:=h'}):
  wpAny M A (newFunctionEnv scope globals closure [] qual func code (some outer) builtins) Q E s:=by
 obtain⟨as,bs,en,ha,hb⟩:=ho
 unfold newFunctionEnv
 refine wpAny_bind (wpAny_alloc ?_)
 rw[en]
 dsimp only
 refine wpAny_bind ?_
 rw[zD8 _ _ _ (λy c hy=>?_) ha hb]
 ·refine wpAny_bind (wpAny_alloc (wpAny_pure ?_))
  refine wpAny_bind (wpAny_pure (wpAny_pure ?_))
  dsimp only
  have hz:∀o:Obj,(s.heap.push o).objs.size=s.heap.objs.size+1:=λo=>by simp[Heap.push]
  rw[hz]
  generalize hd:({cls:=Value.type (if (some outer).isSome=true then "dict" else "frame"),data:=Data.dict #[]}:Obj)=d
  have hd2:d.data=Data.dict #[]:=by rw[<-hd]
  refine h _ ⟨d,#[],_,Heap.get?_push_of_some _ (Heap.get?_push_size _ (by rw[<-hd];rfl)),hd2,?_,λ_=>rfl⟩ ⟨({cls:=Value.type "cell",data:=Data.cell none}:Obj),?_,rfl⟩ λb o e=>Heap.get?_push_of_some _ (Heap.get?_push_of_some _ e)
  ·intro e he;simp at he
  ·rw[<-hz d];exact Heap.get?_push_size _ rfl
 ·obtain⟨n,k⟩:=y
  have hk:(k==NameKind.cell)=false:=by
   cases q:k==NameKind.cell with
   |false=>rfl
   |true=>exact absurd (eq_of_beq q) hy
  show(if (k==NameKind.cell)=true then _ else _)=_
  rw[hk];rfl
end
section
variable{X:Cx}{pins:List (Addr×Obj)}{σ:St}{H:Hp}{s:Shared}{N:List Str}{own:Nat}{fr:List Nat}{scope:Scope}
theorem zD1{vn:Str}{cl:List (Str×Addr)}{fp:List Addr}{h':Heap}(I:Inv X pins σ H s)(S:CScope vn X.env.scope X.N N own fr scope)(hcl:∀x c,cl.lookup x=some c->X.env.cells.lookup x=some c)
  (hcf:∀y∈scope.names,y.2=.free->∃c,cl.lookup y.1=some c) (hfp:∀b∈fp,dD X pins H b) (hfo:∀b∈fp,∃o,s.heap.get? b=some o)
  (hns:h'.Ns s.heap.objs.size λ_=>none) (hcv:h'.IsCell (s.heap.objs.size+1) none) (hk:∀b o,s.heap.get? b=some o->h'.get? b=some o):
  Inv (eF X N scope vn ((vn,s.heap.objs.size+1)::cl) s.heap.objs.size fp s H) [] (σc own fr σ) H {s with heap:=h'}:=by
 have kindE:∀x,(Env.kindOf (compEnvC scope ((vn,s.heap.objs.size+1)::cl) s.heap.objs.size X.env) x)=(relabel scope X.env).names.lookup x:=λx=>rfl
 have memF:∀x,(Env.kindOf (compEnvC scope ((vn,s.heap.objs.size+1)::cl) s.heap.objs.size X.env) x=some .cell\/Env.kindOf (compEnvC scope ((vn,s.heap.objs.size+1)::cl) s.heap.objs.size X.env) x=some .free)->(x,NameKind.free)∈scope.names\/x=vn:=λx hx=>by
  rcases hx with z|z
  ·exact xK (env:=X.env) S.nocell (.inl rfl) z
  ·exact xK (env:=X.env) S.nocell (.inr rfl) z
 have oldc:∀x c,X.env.cells.lookup x=some c->c<s.heap.objs.size:=λx c e=>let ⟨_,o,ho,_⟩:=I.cell x c e;Heap.lt_size ho
 have look:∀x c,(((vn,s.heap.objs.size+1)::cl:List (Str×Addr)).lookup x=some c)->(x=vn/\c=s.heap.objs.size+1)\/X.env.cells.lookup x=some c:=λx c e=>by
  rw[List.lookup_cons]at e
  cases hx:x==vn with
  |true=>rw[hx]at e;exact .inl ⟨eq_of_beq hx,(Option.some.inj e).symm⟩
  |false=>rw[hx]at e;exact .inr (hcl x c e)
 refine⟨⟨I.ok.mod,S.kind,I.ok.glob,I.ok.blt,Nat.le_refl _,λx y c h1 h2=>?inj,λx hx=>?has,λx c h e=>?cab,I.ok.hd,I.ok.frames,.inl rfl,λb hb=>?p1,I.bs,Nat.le_trans I.ok.bsz I.sz,λb o e hb=>?p2,λb hb z=>?p3,I.stack,I.stkFree⟩,
  rfl,I.bare,Un.kept hk,⟨_,hns,λi x v e1 e2 e3=>?p4⟩,λx c e=>?p5,I.hok.fresh (Nat.le_refl _),λx c e=>?fre,λp hp=>absurd (show p∈([]:List (Addr×Obj)) from hp) (by simp),I.hok.kept hk,?p6⟩
 case p1=>
  obtain⟨o,ho⟩:=hfo b hb
  refine⟨Nat.ne_of_lt (Heap.lt_size ho),λx c e=>?_⟩
  rcases look x c e with⟨_,rfl⟩|z
  ·exact λq=>absurd (Heap.lt_size ho) (by rw[<-q];exact Nat.not_lt.mpr (Nat.le_succ _))
  ·exact(hfp b hb).2.2.2.2.1 x c z
 case p2=>
  rcases (hfp b hb).2.2.2.1 with z|z
  ·exact I.ok.noex b o e z
  ·exact absurd (Nat.lt_of_lt_of_le (Heap.lt_size (I.ok.bs b o e).1) z) (Nat.lt_irrefl _)
 case p3=>
  rcases List.mem_cons.mp (I.stkSub b z) with q|q
  ·exact(hfp b hb).2.1 q
  ·exact(hfp b hb).2.2.1 q
 case p4=>
  have hi:own<=i:=by
   rcases Nat.lt_or_ge i own with z|z
   ·have e2':(σc own fr σ)[i]?=some (some v):=e2
    unfold σc at e2'
    rw[List.getElem?_append_left (by simpa using z),List.getElem?_replicate]at e2'
    split at e2'<;>cases e2'
   ·exact z
  have e2':(σf fr σ)[i-own]?=some (some v):=by
   have e2':(σc own fr σ)[i]?=some (some v):=e2
   unfold σc at e2'
   rw[List.getElem?_append_right (by simpa using hi)]at e2'
   simpa using e2'
  have e1':(N.drop own)[i-own]?=some x:=by
   have e1':N[i]?=some x:=e1
   rw[List.getElem?_drop]
   rw[show own+(i-own)=i by omega]
   exact e1'
  have hv:scope.names.lookup x=some .free:=S.vis x (List.mem_of_getElem? e1')
  have hx:X.env.scope.names.lookup x=some .cell\/X.env.scope.names.lookup x=some .free:=S.free (x,.free) (PySem.mem_of_lookup hv) rfl
  rw[S.names,sD S.frl]at e1'
  unfold σf at e2'
  rw[List.getElem?_map]at e2'
  cases q:fr[i-own]? with
  |none=>rw[q]at e2';cases e2'
  |some j=>
   rw[q]at e1' e2'
   have e1'':X.N[j]?=some x:=e1'
   have e2'':σ.getD j none=some v:=Option.some.inj e2'
   have e3':σ[j]?=some (some v):=by
    rw[List.getD_eq_getElem?_getD]at e2''
    cases z:σ[j]? with
    |none=>rw[z]at e2'';cases e2''
    |some y=>rw[z]at e2'';exact congrArg some e2''
   obtain⟨m,hn,hl⟩:=I.loc
   obtain⟨u,r,l⟩:=hl j x v e1'' e3' (.inr hx)
   refine⟨u,r,.inr ⟨sB (env:=X.env) hv,?_⟩⟩
   rcases l with⟨k,_⟩|⟨_,c,hc,z⟩
   ·have k':X.env.scope.names.lookup x=some .local:=k
    rw[k']at hx
    rcases hx with z|z<;>cases z
   ·obtain⟨c',hc'⟩:=hcf (x,.free) (PySem.mem_of_lookup hv) rfl
    have:=hcl x c' hc'
    rw[hc]at this
    cases this
    refine⟨c,?_,z.keeps hk⟩
    show List.lookup x ((vn,s.heap.objs.size+1)::cl)=some c
    have nv:(x==vn)=false:=by
     cases q:x==vn with
     |false=>rfl
     |true=>
      have:=eq_of_beq q
      subst this
      rw[S.cv]at hv;cases hv
    rw[List.lookup_cons,nv];exact hc'
 case p5=>
  rcases look x c e with⟨_,rfl⟩|z
  ·exact⟨none,hcv⟩
  ·obtain⟨v,z⟩:=I.cell x c z
   exact⟨v,z.keeps hk⟩
 case p6=>
  show(σc own fr σ).length=N.length
  unfold σc σf
  have h1:=congrArg List.length S.names
  have h2:(fr.filterMap λi=>X.N[i]?).length=fr.length:=by
   have:∀(l:List Nat),(∀i∈l,i<X.N.length)->(l.filterMap λi=>X.N[i]?).length=l.length:=by
    intro l
    induction l with
    |nil=>intro _;rfl
    |cons i r ih=>
     intro h
     rw[List.filterMap_cons,List.getElem?_eq_getElem (h i List.mem_cons_self)]
     simp[ih λk hk=>h k (List.mem_cons_of_mem _ hk)]
   exact this fr S.frl
  rw[List.length_drop,h2]at h1
  rw[List.length_append,List.length_replicate,List.length_map]
  have:=S.len
  omega
 case inj=>
  rcases look x c h1 with⟨rfl,rfl⟩|a<;>rcases look y _ h2 with⟨rfl,e⟩|b
  ·rfl
  ·exact absurd (oldc _ _ b) (Nat.not_lt.mpr (Nat.le_succ _))
  ·subst e;exact absurd (oldc _ _ a) (Nat.not_lt.mpr (Nat.le_succ _))
  ·exact I.ok.inj x y c a b
 case has=>
  show ∃c,List.lookup x ((vn,s.heap.objs.size+1)::cl)=some c
  rw[List.lookup_cons]
  cases q:x==vn with
  |true=>exact⟨_,rfl⟩
  |false=>
   rcases memF x hx with z|z
   ·exact hcf (x,.free) z rfl
   ·subst z;simp at q
 case cab=>
  rcases look x c e with⟨_,rfl⟩|z
  ·show s.heap.objs.size<=s.heap.objs.size+1;omega
  ·have h:(x==vn)=true:=h
   have e:List.lookup x ((vn,s.heap.objs.size+1)::cl)=some c:=e
   rw[List.lookup_cons,h]at e
   cases e
   show s.heap.objs.size<=s.heap.objs.size+1;omega
 case fre=>
  rcases look x c e with⟨_,rfl⟩|z
  ·exact I.hok.fresh (Nat.le_succ _)
  ·exact I.freeC x c z
end
section
variable{X:Cx}{pins:List (Addr×Obj)}{σ:St}{H:Hp}{s:Shared}{N:List Str}{own:Nat}{fr:List Nat}{scope:Scope}{cl:List (Str×Addr)}{elt tg iter:Expr}{ifs:List Expr}{pos:Pos}
 {it:Addr} {fp:List Addr} {tn:Nat->Heap->Prop} {J:It} {g:TG} {tf:TT} {te:TE} {Q:VK} {E:Value->Shared->Prop}
theorem zCW{vn:Str}{RR:Value->Addr->Result->Shared->Prop}(hc:X.calm=true)(S:CScope vn X.env.scope X.N N own fr scope)(hcl:∀x c,cl.lookup x=some c->X.env.cells.lookup x=some c)
  (hcf:∀y∈scope.names,y.2=.free->∃c,cl.lookup y.1=some c)
  (hg:∀cl C s H,PG (eF X N scope vn cl C fp s H) tg g) (hf:∀cl C s H,PFs (eF X N scope vn cl C fp s H) ifs tf) (he:∀cl C s H,PE (eF X N scope vn cl C fp s H) elt te)
  (I:Inv X pins σ H s) (T:fW X.prog X.w X.K tg J fp it tn) (st:tn 0 s.heap) (hfp:∀b∈fp,dD X pins H b) (hw:∀a,H a=none->vX J a own fr g tf te σ H Q)
  (hRR:∀a C s' H',Inv X pins σ H' s'->Q (.ref a) H'->dD X pins H' C->(∃m,s'.heap.Ns C m)->RR (.ref a) C (.ok .next) s'):
  wpAny (model X.prog X.w) X.A (newList []) (λacc s₃=>wpAny (model X.prog X.w) X.A (newFunctionEnv scope X.env.globals cl [] X.env.qual none .none (some X.env)) (λcenv s₄=>
   codeAny (model X.prog X.w) X.A (.compStart (.ListComp elt [⟨tg,iter,ifs,0⟩] scope pos) 0 (.ref it) acc {cenv with scope:=relabel scope X.env}) (RR acc cenv.locals) s₄) E s₃) E s:=by
 refine wpAny_newObj_type (zC1 S.one λh₁ hns₁ hcv₁ hsb₁=>?_)
 dsimp only at hns₁ hcv₁ hsb₁ ⊢
 have I3:Inv X pins σ (upd H s.heap.objs.size (.lst [])) {s with heap:=s.heap.push {cls:=.type "list",dict:=none,data:=.seq ([]:List Value).toArray}}:=I.lnew (ys:=[]) (t':=s.toks) .nil (Nat.zero_le _)
 have hfo:∀b∈fp,∃o,s.heap.get? b=some o:=λb hb=>let ⟨o,ho,_⟩:=T.obj _ _ st b hb;⟨o,ho⟩
 have hlt:∀b∈fp,b<s.heap.objs.size:=λb hb=>let ⟨o,ho⟩:=hfo b hb;Heap.lt_size ho
 have fp3:∀b∈fp,dD X pins (upd H s.heap.objs.size (.lst [])) b:=λb hb=>⟨by rw[bI (Nat.ne_of_lt (hlt b hb))];exact(hfp b hb).1,(hfp b hb).2⟩
 obtain⟨n0,W,w0,turn⟩:=hw s.heap.objs.size I.fresh
 generalize hs3:({s with heap:=s.heap.push {cls:=.type "list",dict:=none,data:=.seq ([]:List Value).toArray}}:Shared)=s3 at I3
 have eh:s3.heap=s.heap.push {cls:=.type "list",dict:=none,data:=.seq ([]:List Value).toArray}:=by rw[<-hs3]
 rw[<-eh]at hns₁ hcv₁ hsb₁ ⊢
 have hk:∀b o,s3.heap.get? b=some o->h₁.get? b=some o:=λb o e=>hsb₁ b o e
 have hk0:∀b o,s.heap.get? b=some o->s3.heap.get? b=some o:=λb o e=>by rw[eh];exact Heap.get?_push_of_some _ e
 have J0:Inv (eF X N scope vn ((vn,s3.heap.objs.size+1)::cl) s3.heap.objs.size fp s3 (upd H s.heap.objs.size (.lst []))) [] (σc own fr σ) (upd H s.heap.objs.size (.lst [])) {s3 with heap:=h₁}:=
  zD1 I3 S hcl hcf fp3 (λb hb=>let ⟨o,ho⟩:=hfo b hb;⟨o,hk0 b o ho⟩) hns₁ hcv₁ hk
 have st0:tn 0 h₁:=T.keep _ _ _ st λb _ o e=>hk b o (hk0 b o e)
 have stat:∀{H':Hp},(∀b∈fp,H' b=none)->∀b∈fp,dD (eF X N scope vn ((vn,s3.heap.objs.size+1)::cl) s3.heap.objs.size fp s3 (upd H s.heap.objs.size (.lst []))) [] H' b:=λhn b hb=>
  ⟨hn b hb,(J0.ok.exf b hb).1,J0.ok.exfs b hb,.inl hb,(J0.ok.exf b hb).2,λp hp=>absurd (show p∈([]:List (Addr×Obj)) from hp) (by simp)⟩
 have loop:∀s4:Shared,s4={s3 with heap:=h₁}->codeAny (model X.prog X.w) X.A (.compLoop (.ListComp elt [⟨tg,iter,ifs,0⟩] scope pos) 0 (.ref it) (.ref s.heap.objs.size) (compEnvC scope ((vn,s3.heap.objs.size+1)::cl) s3.heap.objs.size X.env))
   (RR (.ref s.heap.objs.size) s3.heap.objs.size) s4:=by
  rintro s4 rfl
  refine xL (λn s'=>∃i ow H' ys,Inv (eF X N scope vn ((vn,s3.heap.objs.size+1)::cl) s3.heap.objs.size fp s3 (upd H s.heap.objs.size (.lst []))) [] (ow++σf fr σ) H' s'/\ow.length=own/\tn i s'.heap/\(∀b∈fp,H' b=none)/\H' s.heap.objs.size=some (.lst ys)/\(n=n0-i/\i<=n0)/\W i ys H') ?_ n0
   ⟨0,List.replicate own none,_,[],J0,by simp,st0,λb hb=>(fp3 b hb).1,bF,⟨rfl,Nat.zero_le _⟩,w0⟩
  rintro n s5 ⟨i,ow,H5,ys,I5,hlo,st5,fr5,ha5,⟨rfl,hi5⟩,w5⟩
  rcases turn i ys H5 hi5 ha5 w5 with⟨stop,qn⟩|⟨hin,go,step⟩
  ·refine thn (T.done (eF X N scope vn ((vn,s3.heap.objs.size+1)::cl) s3.heap.objs.size fp s3 (upd H s.heap.objs.size (.lst []))) rfl rfl rfl hc i [] s5 _ H5 (λ_ _=>False) I5 (stat fr5) st5 stop) λr s6 ⟨hr,I6⟩=>?_
   subst hr
   have IX:Inv X pins σ H5 s6:=I3.call' I6.os I6.base I6.hok I6.bare λb hb=>let ⟨_,f2,_,f4,f5,f6⟩:=fp3 b hb;⟨f4,f2,f5,f6⟩
   refine hRR _ _ s6 H5 IX qn (I3.fpOk (Nat.le_refl _) I6.free) ?_
   obtain⟨m,hn,_⟩:=I6.loc
   exact⟨m,hn⟩
  ·refine thn (T.item (eF X N scope vn ((vn,s3.heap.objs.size+1)::cl) s3.heap.objs.size fp s3 (upd H s.heap.objs.size (.lst []))) rfl rfl rfl hc i [] s5 _ H5 (λ_ _=>False) I5 (stat fr5) st5 go) λr s6 ⟨u,hr,h6⟩=>?_
   subst hr
   refine thn h6 λ_ s7 ⟨x,H7,I7,r7,y7,st7,fr7⟩=>?_
   have I7':=(I7.pinned (stat fr7) (T.obj _ _ st7)).weak (σ':=σc own fr σ) (by unfold σc;simp[hlo]) (λj v e=>by
    unfold σc at e
    rcases Nat.lt_or_ge j own with z|z
    ·rw[List.getElem?_append_left (by simpa using z),List.getElem?_replicate]at e
     split at e<;>cases e
    ·rw[List.getElem?_append_right (by simpa using z)]at e
     rw[List.getElem?_append_right (by rw[hlo];exact z),hlo]
     simpa using e)
   refine thn (hg _ _ _ _ _ s7 _ H7 x u _ I7' r7 (step x H7 y7)) λ_ s8 ⟨σ8,H8,I8,⟨ow8,hl8,e8⟩,q8⟩=>?_
   refine thn (hf _ _ _ _ _ s8 _ H8 _ I8 q8) λok s9 ⟨H9,I9,q9⟩=>?_
   have again:∀{H':Hp} {s':Shared},Inv (eF X N scope vn ((vn,s3.heap.objs.size+1)::cl) s3.heap.objs.size fp s3 (upd H s.heap.objs.size (.lst []))) ([]++lT fp s7.heap) σ8 H' s'->∀{ys':List V},H' s.heap.objs.size=some (.lst ys')->W (i+1) ys' H' ->
     ∃m,m<n0-i/\∃i ow H' ys,Inv (eF X N scope vn ((vn,s3.heap.objs.size+1)::cl) s3.heap.objs.size fp s3 (upd H s.heap.objs.size (.lst []))) [] (ow++σf fr σ) H' s'/\ow.length=own/\tn i s'.heap/\(∀b∈fp,H' b=none)/\H' s.heap.objs.size=some (.lst ys)/\(m=n0-i/\i<=n0)/\W i ys H':=λ{H' s'} I' {ys'} ha hw'=>by
    refine⟨n0-(i+1),by omega,i+1,ow8,H',ys',e8▸I'.unpinned,hl8,T.keep _ _ _ st7 λb hb o e=>(I'.pin (b,o) (List.mem_append_right _ (List.mem_append_right _ (kG hb e)))).1,λb hb=>?_,ha,⟨rfl,hin⟩,hw'⟩
    obtain⟨o,e,_⟩:=T.obj _ _ st7 b hb
    exact(I'.pin (b,o) (List.mem_append_right _ (List.mem_append_right _ (kG hb e)))).2.1
   cases ok with
   |false=>
    have q9':H9 s.heap.objs.size=some (.lst ys)/\W (i+1) ys H9:=by simpa using q9
    obtain⟨ha,hw'⟩:=q9'
    show if false=true then _ else _
    rw[if_neg (by decide)]
    exact again I9 ha hw'
   |true=>
    rw[if_pos rfl]at q9
    show if true=true then _ else _
    rw[if_pos rfl]
    refine thn (he _ _ _ _ _ s9 _ H9 _ I9 q9) λy s10 ⟨v10,H10,I10,r10,ha10,hz10,hw'⟩=>?_
    refine thn (pF _ s10 _ H10 (.ref s.heap.objs.size) [v10] (.ref s.heap.objs.size) [y] (λ_ H'=>H'=upd H10 s.heap.objs.size (.lst (ys++[v10]))) I10 rfl (.cons r10 .nil) ⟨_,ys,v10,rfl,rfl,ha10,hz10,rfl⟩) λ_ s11 ⟨_,H11,I11,_,e11⟩=>?_
    subst e11
    exact again I11 bF hw'
 exact codeAny_compStart_list (loop _ (by rw[<-hs3])) (T.self X.A 0 _ _ _ st0 (loop _ (by rw[<-hs3])))
end
end L2
namespace ShowM
variable{M:Type}[DecidableEq M]
theorem nodup_le{α:Type}[DecidableEq α]:∀{l m:List α},l.Nodup->(∀x∈l,x∈m)->l.length<=m.length
 |[],m,_,_=>Nat.zero_le _
 |x::l,m,hn,hs=>by
  have hx:=hs x List.mem_cons_self
  have h2:=List.nodup_cons.mp hn
  have ih:=nodup_le (l:=l) (m:=m.erase x) h2.2 λy hy=>(List.mem_erase_of_ne (show y≠x from λe=>h2.1 (by rw[<-e];exact hy))).mpr (hs y (List.mem_cons_of_mem _ hy))
  rw[List.length_erase_of_mem hx]at ih
  have:0<m.length:=List.length_pos_of_mem hx
  rw[List.length_cons]
  omega
end ShowM
namespace My
open PySem L2 PyProof.Rows WordM
def top(i:Nat):Stmt:=PySem.Challenge.pw_leastform_k67_tables_met.main.body.getD i (.Pass ⟨0,0,0,0⟩)
abbrev s0_:Stmt:=top 10
abbrev s1_:Stmt:=top 11
abbrev s2_:Stmt:=top 12
abbrev s3_:Stmt:=top 13
abbrev s4_:Stmt:=top 14
abbrev s5_:Stmt:=top 15
abbrev s6_:Stmt:=top 16
abbrev s7_:Stmt:=top 17
abbrev s8_:Stmt:=top 18
abbrev s9_:Stmt:=top 22
abbrev wP:Stmt:=top 23
abbrev rM:Stmt:=top 25
abbrev wO:Stmt:=top 26
abbrev wN:Stmt:=top 27
abbrev oH:Stmt:=top 28
abbrev wM:Stmt:=top 29
abbrev oG:Stmt:=top 30
abbrev oF:Stmt:=top 31
abbrev oE:Stmt:=top 32
abbrev mL:Stmt:=top 33
abbrev oD:Stmt:=top 34
abbrev mK:Stmt:=top 35
abbrev wL:Stmt:=top 37
abbrev wK:Stmt:=top 38
abbrev wJ:Stmt:=top 39
abbrev wI:Stmt:=top 40
abbrev wH:Stmt:=top 41
abbrev wG:Stmt:=top 42
abbrev wF:Stmt:=top 43
abbrev rL:Stmt:=top 44
abbrev wE:Stmt:=top 45
abbrev rK:Stmt:=top 46
abbrev rJ:Stmt:=top 47
abbrev rH:Stmt:=top 48
abbrev oC:Stmt:=top 49
abbrev rG:Stmt:=top 50
abbrev rF:Stmt:=top 51
abbrev rE:Stmt:=top 52
abbrev rD:Stmt:=top 53
abbrev rC:Stmt:=top 54
abbrev mJ:Stmt:=top 55
abbrev rB:Stmt:=top 56
abbrev oB:Stmt:=top 57
abbrev rA:Stmt:=top 58
abbrev mI:Stmt:=top 60
abbrev wD:Stmt:=top 61
abbrev qZ:Stmt:=top 62
abbrev qY:Stmt:=top 63
abbrev qX:Stmt:=top 64
abbrev jZ:Stmt:=top 65
abbrev wC:Stmt:=top 66
abbrev wB:Stmt:=top 67
abbrev iO:Stmt:=top 68
section
variable{P:Program}{w:World}{K:W.Frag}{mg:Str->Option Value}{base:Heap}
theorem _root_.L2.On.put{p c:Addr}{H:Hp}(d:DeckAt H p c)(S k:Int):On p c H (upd H p (.lst [.ref c,.int S,.int k])):=by
 obtain⟨ns,e',l⟩:=d.cs
 exact⟨⟨d.ne,⟨S,k,bF⟩,ns,by rw[bI d.ne.symm];exact e',l⟩,λb o h hp _=>by rw[bI hp];exact h⟩
theorem _root_.L2.On.cut{p c:Addr}{H:Hp}(d:DeckAt H p c)(ns:List Int)(h:ns.length<=64):On p c H (upd H c (.lst (ns.map V.int))):=by
 obtain⟨S,k,e⟩:=d.dk
 exact⟨⟨d.ne,⟨S,k,by rw[bI d.ne];exact e⟩,ns,bF,h⟩,λb o h _ hc=>by rw[bI hc];exact h⟩
theorem zD4(ns:List Int):(ns.map V.int).all dB=true:=by
 rw[List.all_map]
 exact List.all_eq_true.mpr λ_ _=>rfl
theorem zE3(ns:List Int):fU (ns.map V.int) []=ns.isEmpty:=by cases ns<;>rfl
theorem sc_mixed:bE ["_law_number","_law_k"] ["_law_number","_law_k"] (aL wL):=fsc (by decide +kernel)
theorem zF7(h:Has K mg "_law_mixed" wL):Good P w K mg base 1 "_law_mixed" ["_law_number","_law_k"] zAy:=by
 refine h.good sc_mixed (fun|_,_,_,_,_,_,[_,_],_=>rfl) (λvs H Q E q=>?_) (λf cdv A outer s H vs Q E hr q=>?_)
 ·obtain⟨n,k,rfl,_⟩:=q
  rfl
 ·obtain⟨n,k,rfl,q⟩:=q
  have nd:=sc_mixed.nd
  refine⟨_,(gI (jR (i:=0) nd rfl (by first|exact Or.inl rfl|exact Or.inr rfl) (cH iH (cH op_mul (cH op_add (cH op_add (cH iH (pv 0) cC) (cH op_mul cC (pv 1))) cC) cC) cC))
   (gI (jR (i:=0) nd rfl (by first|exact Or.inl rfl|exact Or.inr rfl) (cH iH (cH op_add (cH op_add (cH op_mul (pv 0) (pv 0)) (cH op_mul cC (pv 1))) cC) cC))
   (lB (lR (cH zAL (cH iH (cH op_mul (cH op_add (cH op_mul (cH iH (pv 0) cC) cC) (cH zAL (pv 0) cC)) cC) cC) cC))))),?_⟩
  refine⟨_,rfl,_,_,rfl,rfl,(by show(0:Int)<_;decide),_,rfl,_,_,rfl,rfl,.inl ⟨by decide,by decide⟩,_,_,rfl,rfl,_,_,rfl,rfl,_,_,rfl,rfl,.inr ⟨by decide,by decide⟩,_,_,rfl,rfl,(by show(0:Int)<_;decide),?_⟩
  refine⟨_,rfl,_,rfl,_,_,rfl,rfl,?c,_,rfl,_,_,rfl,rfl,.inl ⟨by decide,by decide⟩,_,_,rfl,rfl,_,_,rfl,rfl,_,_,rfl,rfl,(by show(0:Int)<_;decide),?_⟩
  case c=>
   refine .inl ⟨?_,?_⟩
   ·exact Int.lt_of_lt_of_le (by decide) (Int.emod_nonneg _ (by decide))
   ·exact Int.lt_trans (Int.emod_lt_of_pos _ (by decide)) (by decide)
  refine⟨_,rfl,_,_,rfl,rfl,(by show(0:Int)<_;decide),_,_,rfl,rfl,.inr ⟨by decide,by decide⟩,_,rfl,_,_,rfl,rfl,⟨by decide,by decide⟩,_,_,rfl,rfl,_,_,rfl,rfl,.inr ⟨by decide,by decide⟩,_,_,rfl,rfl,(by show(0:Int)<_;decide),_,_,rfl,rfl,⟨by decide,by decide⟩,?_⟩
  exact q _
theorem sc_deck:bE ["_law_script","_law_cells"] ["_law_script"] (aL wK):=fsc (by decide +kernel)
theorem zIW(ns:List Int):fV (ns.map V.int) none (some 63)=(ns.take 63).map V.int:=by
 unfold fV
 have e1:HT.sIx (ns.map V.int).length 0 none=0:=rfl
 rw[e1,List.drop_zero,Nat.sub_zero,List.map_take]
 by_cases h:ns.length<=63
 ·rw[List.take_of_length_le (by simp[HT.sIx]<;>omega),List.take_of_length_le (by simpa using h)]
 ·congr 1
  simp[HT.sIx]<;>omega
theorem zHI(h:Has K mg "_law_deck" wK)(B:Own mg):Good P w K mg base 1 "_law_deck" ["_law_script"] (zBg K):=by
 refine h.good sc_deck (fun|_,_,_,_,_,_,[_],_=>rfl) (λvs H Q E q=>?_) (λf cdv A outer s H vs Q E hr q=>?_)
 ·obtain⟨a,ns,rfl,_⟩:=q
  rfl
 ·obtain⟨a,ns,rfl,hS,q⟩:=q
  have nd:=sc_deck.nd
  refine⟨_,(gI (jR (i:=1) nd rfl (by first|exact Or.inl rfl|exact Or.inr rfl) (kN xN rfl B.list_ boot_list (cV (zAa sl_list (pv 0) zAG (zAF cC)) dL)))
   (lB (lR (@zAJ _ _ _ _ (@wR _ _ _ _ _ (zHa (pv 1) (zBM zBb cC)) (@wR _ _ _ _ _ (cH op_add (hZ (zG rfl) rfl B.sum boot_sum (cV (pv 1) dL)) (cH op_mul cC (hZ call_len_seq rfl B.len PySem.boot_len (cV (pv 1) dL)))) (@wR _ _ _ _ _ cC zBk rfl) rfl) rfl))))),?_⟩
  refine⟨_,rfl,_,rfl,a,_,rfl,hS,λl1 h1=>?_⟩
  have e1:upd H l1 (.lst (fV (ns.map V.int) none (some 63)))=upd H l1 (.lst ((ns.take 63).map V.int)):=by rw[zIW]
  rw[e1]
  refine⟨l1,_,rfl,.inl (SqL.of bF),λl2 h2=>?_⟩
  refine⟨_,rfl,_,rfl,rfl,l2,_,rfl,SqL.of bF,λl3 h3=>?_⟩
  have n23:l2≠l3:=dH bF h3
  refine⟨_,rfl,l2,ns.take 63,rfl,SqL.of (by rw[bI n23];exact bF),_,rfl,l2,_,rfl,.inl (SqL.of (by rw[bI n23];exact bF)),_,_,rfl,rfl,.inl ⟨by decide,by decide⟩,_,_,rfl,rfl,(by show 3<=sizeLine;decide),λl4 h4=>?_⟩
  have n34:l3≠l4:=dH bF h4
  have f1:∀b o,H b=some o->upd H l1 (.lst ((ns.take 63).map V.int)) b=some o:=λb o e=>by rw[bI (dH e h1)];exact e
  have s1:Same H (upd H l1 (.lst ((ns.take 63).map V.int))):=f1
  have s2:Same H (upd (upd H l1 (.lst ((ns.take 63).map V.int))) l2 (.lst ((ns.take 63).map V.int))):=λb o e=>by rw[bI (dH (s1 b o e) h2)];exact s1 b o e
  have s3:Same H (upd (upd (upd H l1 (.lst ((ns.take 63).map V.int))) l2 (.lst ((ns.take 63).map V.int))) l3 (.lst ((ns.take 63).map V.int).reverse)):=λb o e=>by rw[bI (dH (s2 b o e) h3)];exact s2 b o e
  refine q l4 l3 _ (s3.free h4) (s2.free h3) ⟨n34.symm,⟨_,_,bF⟩,(ns.take 63).reverse,?_,?_⟩ λb o e=>?_
  ·rw[bI n34,bF,List.map_reverse]
  ·rw[List.length_reverse,List.length_take];omega
  ·rw[bI (dH (s3 b o e) h4)];exact s3 b o e
theorem sc_take:bE ["_law_deck_here","_law_most","_law_cell"] ["_law_deck_here","_law_most"] (aL wJ):=fsc (by decide +kernel)
theorem zHG(h:Has K mg "_law_take" wJ)(G22_:Good P w K mg base 1 "_law_mixed" ["_law_number","_law_k"] zAy):Good P w K mg base 2 "_law_take" ["_law_deck_here","_law_most"] zBf:=by
 refine h.good sc_take (fun|_,_,_,_,_,_,[_,_],_=>rfl) (λvs H Q E q=>?_) (λf cdv A outer s H vs Q E hr q=>?_)
 ·obtain⟨p,c,m,rfl,_⟩:=q
  rfl
 ·obtain⟨p,c,m,rfl,d,hm,hB,q⟩:=q
  have nd:=sc_take.nd
  have hu:=Nat.lt_of_succ_lt (zIM hr)
  obtain⟨hne,⟨S,k,hp⟩,ns,hc,hl⟩:=id d
  refine⟨_,(gI (zBm (cH op_add (iL ix_list (pv 0) cC (λ_ _=>rfl)) cC) (zG6 (pv 0) cC zEw))
   (gI (vR (tX (zHo hu) (iL ix_list (pv 0) cC (λ_ _=>rfl)) (@zAJ _ _ _ _ zBk) (lU _))
    (lB (lR (cH iH (qL G22_ (hr.mono (by first|decide|omega)) rfl (cV (iL ix_list (pv 0) cC (λ_ _=>rfl)) (cV (iL ix_list (pv 0) cC (λ_ _=>rfl)) dL))) (pv 1))))
    uI)
   (gI (jR (i:=2) nd rfl (by first|exact Or.inl rfl|exact Or.inr rfl) (zHe PySem.F.plainAttrs_list PySem.F.slot_list_pop PySem.F.type_list_pop zHt (iL ix_list (pv 0) cC (λ_ _=>rfl))))
   (gI (vR (tX op_lt (pv 2) (cH zBr cC cC) (lU _))
    (lB (lR (cH iH (qL G22_ (hr.mono (by first|decide|omega)) rfl (cV (pv 2) (cV (iL ix_list (pv 0) cC (λ_ _=>rfl)) dL))) (pv 1))))
    uI)
   (gI (zAE (qM PySem.F.plainAttrs_list PySem.F.slot_list_append PySem.F.type_list_append pF (iL ix_list (pv 0) cC (λ_ _=>rfl)) (cV (cH zAc (pv 2) (pv 1)) dL)))
   (lB (lR (cH iH (pv 2) (pv 1))))))))),?_⟩
  -- deck[2]=deck[2]+1
  refine⟨_,rfl,p,_,_,_,rfl,rfl,SqL.of hp,rfl,_,_,rfl,rfl,_,rfl,p,_,_,2,rfl,rfl,hp,rfl,?_⟩
  have o1:On p c H (upd H p (.lst [.ref c,.int S,.int (k+1)])):=On.put d S (k+1)
  have hc1:upd H p (.lst [.ref c,.int S,.int (k+1)]) c=some (.lst (ns.map V.int)):=by rw[bI hne.symm];exact hc
  -- if deck[0]==[]
  refine⟨_,rfl,p,_,_,_,rfl,rfl,SqL.of bF,rfl,Nat.zero_le _,λl hfree=>?_⟩
  have npl:p≠l:=(o1.d.nep hfree).symm
  have ncl:c≠l:=(o1.d.nec hfree).symm
  have o2:=o1.alloc (o:=.lst []) hfree
  have hp2:upd (upd H p (.lst [.ref c,.int S,.int (k+1)])) l (.lst []) p=some (.lst [.ref c,.int S,.int (k+1)]):=by rw[bI npl];exact bF
  have hc2:upd (upd H p (.lst [.ref c,.int S,.int (k+1)])) l (.lst []) c=some (.lst (ns.map V.int)):=by rw[bI ncl];exact hc1
  refine⟨c,l,_,[],rfl,rfl,SqL.of hc2,SqL.of bF,zD4 ns,rfl,_,rfl,?_⟩
  rw[show(if false=true then !fU (ns.map V.int) [] else fU (ns.map V.int) [])=ns.isEmpty from zE3 ns]
  have fin:∀r H',On p c H H'->Q (.int (r % m)) H':=λr H' o=>q (r % m) H' (Int.emod_nonneg _ (by omega)) (Int.emod_lt_of_pos _ hm) o
  rcases List.eq_nil_or_concat ns with e|⟨init,z,e⟩
  ·subst e
   refine bH ?_
   refine⟨_,rfl,p,_,_,_,rfl,rfl,SqL.of hp2,rfl,_,rfl,p,_,_,_,rfl,rfl,SqL.of hp2,rfl,_,_,rfl,λr=>?_⟩
   exact⟨_,rfl,_,_,rfl,rfl,hm,fin r _ o2⟩
  ·rw[List.concat_eq_append]at e
   subst e
   rw[show(init++[z]).isEmpty=false by simp]
   refine aV ?_
   have hlast:((init++[z]).map V.int)[((init++[z]).map V.int).length-1]?=some (.int z):=by simp
   have hdrop:((init++[z]).map V.int).dropLast=init.map V.int:=by simp
   -- cell=deck[0].pop()
   refine⟨_,rfl,p,_,_,_,rfl,rfl,SqL.of hp2,rfl,.inl ⟨rfl,_,SqL.of hc2⟩,c,_,_,rfl,rfl,hc2,hlast,?_⟩
   rw[hdrop]
   have hli:init.length<=63:=by rw[List.length_append,List.length_singleton]at hl;omega
   have o3:=o2.trans (On.cut o2.d init (by omega))
   have hp3:upd (upd (upd H p (.lst [.ref c,.int S,.int (k+1)])) l (.lst [])) c (.lst (init.map V.int)) p=some (.lst [.ref c,.int S,.int (k+1)]):=by rw[bI hne];exact hp2
   -- if cell<10 ** 18
   refine⟨_,rfl,_,_,rfl,rfl,⟨by decide,by decide,by decide⟩,_,_,rfl,rfl,_,rfl,?_⟩
   refine zJC (λ_=>?_) (λ_=>?_)
   ·refine⟨_,rfl,_,rfl,p,_,_,_,rfl,rfl,SqL.of hp3,rfl,_,_,rfl,λr=>?_⟩
    exact⟨_,rfl,_,_,rfl,rfl,hm,fin r _ o3⟩
   ·refine⟨_,rfl,p,_,_,_,rfl,rfl,SqL.of hp3,rfl,.inl ⟨rfl,_,SqL.of bF⟩,_,rfl,_,rfl,_,_,rfl,rfl,⟨hm,hB⟩,c,_,_,rfl,rfl,bF,zDy (by rw[List.length_map];omega),?_⟩
    rw[show init.map V.int++[V.int (z / m)]=(init++[z / m]).map V.int by simp]
    have o4:=o3.trans (On.cut o3.d (init++[z / m]) (by rw[List.length_append,List.length_singleton];omega))
    exact⟨_,rfl,_,rfl,_,_,rfl,rfl,hm,fin z _ o4⟩
end
end My
namespace My
open PySem L2 PyProof.Rows WordM
section
variable{P:Program}{w:World}{K:W.Frag}{mg:Str->Option Value}{base:Heap}
def pM:PSp:=λas R=>as=[]/\R (sT SIG)
theorem C25_:bE ["_law_signs_here"] [] (aL wI):=fsc (by decide +kernel)
theorem zJ7(h:Has K mg "_law_signs" wI)(B:Own mg)    : PGood P w K mg base 1 "_law_signs" [] pM:=by
 have nd:=C25_.nd
 refine h.pgood C25_ (fun|_,_,_,_,_,_,[],_=>rfl) (λf cdv A outer s H E F hr=>
   (aE (aI 0 nd aU)
   (aG (aQ (aY bQ (aA 0) aU))))) (λas R q=>?_)
 obtain⟨rfl,q⟩:=q
 exact⟨rfl,show sigA.length+sigB.length<=100000 by decide +kernel,q⟩
def lO:PSp:=λas R=>∃m:Int,as=[.dk,.va (iT m)]/\0<=m/\m<=1000/\∀x:Str,Sg x->(x.length:Int)<=m->R (sT x)
theorem zHP{z:Str}{r:Int}(h0:0<=r)(h1:r<z.length):∃c,atI z.cps.toList r=some c/\c∈cs z:=by
 have hl:r.toNat<(cs z).length:=by rw[<-WordM.len];omega
 refine⟨(cs z)[r.toNat],?_,List.getElem_mem hl⟩
 have:=aJ (xs:=cs z) (j:=r.toNat) (List.getElem?_eq_getElem hl)
 rw[show((r.toNat:Nat):Int)=r by omega]at this
 exact this
theorem oM{α:Type}{l:List α}{r:Int}(h0:0<=r)(h1:r<l.length):∃m,atI l r=some m/\m∈l:=by
 have hl:r.toNat<l.length:=by omega
 refine⟨l[r.toNat],?_,List.getElem_mem hl⟩
 have:=aJ (xs:=l) (j:=r.toNat) (List.getElem?_eq_getElem hl)
 rw[show((r.toNat:Nat):Int)=r by omega]at this
 exact this
theorem C26_:bE ["_law_deck_here","_law_most","_law_signs_here","_law_some","_law_text_here","_law_k"] ["_law_deck_here","_law_most"] (aL wH):=fsc (by decide +kernel)
theorem zJ6(h:Has K mg "_law_text" wH)(B:Own mg)(G25_:PGood P w K mg base 1 "_law_signs" [] pM)(G24_:PGood P w K mg base 2 "_law_take" ["_law_deck_here","_law_most"] fH)   : PGood P w K mg base 3 "_law_text" ["_law_deck_here","_law_most"] lO:=by
 have nd:=C26_.nd
 refine h.pgood C26_ (fun|_,_,_,_,_,_,[_,_],_=>rfl) (λf cdv A outer s H E F hr=>
   (aE (aI 2 nd (zBc G25_ (hr.mono (by omega)) rfl))
   (aE (aI 3 nd (aF hr (bB (cA (aB (aA 2) (aB (aA 2) (aB aU (aB aU (aB aU (aB aU aC)))))))) (aH G24_ hr (bG 0 (aB aD aC)))))
   (aE (aI 4 nd aU)
   (aE (eY (m:=6) PassesOwn.never rfl (hC rfl B.range (aB (aH G24_ hr (bG 0 (aB (aY bQ (aA 1) aD) aC))) aC)) (bY 5 (by decide) nd rfl (.inl rfl))
    (aG (aI 4 nd (aY bQ (aA 4) (aF hr (aA 3) (aH G24_ hr (bG 0 (aB (aX bP rfl B.len PySem.boot_len (aB (aA 3) aC)) aC))))))))
   (aG (aQ (aA 4)))))))) (λas R q=>?_)
 obtain⟨m,rfl,m0,m1,q⟩:=q
 refine⟨rfl,rfl,?_⟩
 refine⟨by decide,rfl,6,rfl,by decide,bN (by decide) (by decide),λr r0 r6=>?_⟩
 obtain⟨z,hz,hzm⟩:=oM (l:=[sT SIG,sT SIG,sT "0123456789",sT "abc",sT "XYZ",sT "a1"]) r0 r6
 refine⟨z,hz,?_⟩
 have hzs:∃y,z=sT y/\Sg y/\0<y.length/\y.length<=100:=by
  simp only[List.mem_cons,List.not_mem_nil,or_false]at hzm
  rcases hzm with e|e|e|e|e|e<;>subst e
  ·exact⟨_,rfl,λ_ h=>h,by decide +kernel,by decide +kernel⟩
  ·exact⟨_,rfl,λ_ h=>h,by decide +kernel,by decide +kernel⟩
  ·exact⟨_,rfl,by decide +kernel,by decide +kernel,by decide +kernel⟩
  ·exact⟨_,rfl,by decide +kernel,by decide +kernel,by decide +kernel⟩
  ·exact⟨_,rfl,by decide +kernel,by decide +kernel,by decide +kernel⟩
  ·exact⟨_,rfl,by decide +kernel,by decide +kernel,by decide +kernel⟩
 clear hz hzm
 obtain⟨y,rfl,y1,y2,y3⟩:=hzs
 refine⟨rfl,m+1,rfl,by omega,bN (by omega) (by omega),λn n0 n1=>⟨n,rfl,by omega,by omega,?_⟩⟩
 refine gJ (λi ρ=>∃(x:Str) (s:Sl),Sg x/\x.length=i/\ρ=[.dk,.va (iT m),.va (sT SIG),.va (sT y),.va (sT x),s]) ⟨⟨#[]⟩,.no,zGJ,rfl,rfl⟩ ?_ ?_
 ·rintro i T _ N hT ⟨x,s,sx,lx,rfl⟩ hN
  have hi:=(jA hT).1
  refine⟨rfl,by omega,?_⟩
  refine⟨y.length,rfl,by omega,bN (by omega) (by omega),λk k0 k1=>⟨by omega,?_⟩⟩
  obtain⟨c,hc,hcm⟩:=zHP (z:=y) k0 k1
  refine⟨c,hc,by show x.length+1<=100000;omega,hN _ ⟨x++⟨#[c]⟩,_,sx.app (y1.one hcm),?_,rfl⟩⟩
  rw[WordM.len,WordM.app,List.length_append,<-WordM.len,lx]
  rfl
 ·rintro _ ⟨x,s,sx,lx,rfl⟩
  refine q x sx ?_
  rw[lx,hX]
  omega
end
section
variable{P:Program}{w:World}{K:W.Frag}{mg:Str->Option Value}{base:Heap}
theorem zGH(a:Int):Sg ⟨#[fI a]⟩:=λcc hc=>by
 have e:cc=fI a:=by simpa using hc
 rw[e]
 exact zDA _
def zCh(m:Int)(ss:List Str):Prop:=ss.Nodup/\∀s∈ss,Sg s/\(s.length:Int)<=(if m<1 then 1 else m)
def tJ:PSp:=λas R=>∃n m:Int,as=[.dk,.va (iT n),.va (iT m)]/\0<=n/\n<=63/\0<=m/\m<=1000/\∀ss:List Str,(ss.length:Int)=n->zCh m ss->R (.seq false (ss.map sT))
theorem C27_:bE ["_law_deck_here","_law_many","_law_most","_law_signs_here","_law_found","_law_k","_law_text_here","_law_at"] ["_law_deck_here","_law_many","_law_most"] (aL wG):=fsc (by decide +kernel)
theorem zJ5(h:Has K mg "_law_unlike" wG)(B:Own mg)(G25_:PGood P w K mg base 1 "_law_signs" [] pM)(G26_:PGood P w K mg base 3 "_law_text" ["_law_deck_here","_law_most"] lO)   : PGood P w K mg base 4 "_law_unlike" ["_law_deck_here","_law_many","_law_most"] tJ:=by
 have nd:=C27_.nd
 refine h.pgood C27_ (fun|_,_,_,_,_,_,[_,_,_],_=>rfl) (λf cdv A outer s H E F hr=>
   (aE (aI 3 nd (zBc G25_ (hr.mono (by omega)) rfl))
   (aE (jI 4 nd (cA aC))
   (aE (eY (m:=8) PassesOwn.never rfl (hC rfl B.range (aB (aA 1) aC)) (bY 5 (by decide) nd rfl (.inl rfl))
    (aE (aI 6 nd (aH G26_ hr (bG 0 (aB (aA 2) aC))))
    (aE (aI 7 nd (lH PySem.F.slot_str_find PySem.F.type_str_find zFD (aA 3) (aB (eG eM (aA 6) eJ (eI aD)) aC)))
    (aE (zO PassesOwn.never (zAt λF=>(bX (eV hr.units) (aA 6) (aA 4) rfl))
     (aE (aI 7 nd (aY pW (aY bQ (aA 7) aD) (aX bP rfl B.len PySem.boot_len (aB (aA 3) aC))))
     (aG (aI 6 nd (aY bQ (aF hr (aA 3) (aA 7)) (eG eM (aA 6) (eI aD) eJ))))))
    (aG (kX (kJ 4 (aA 6))))))))
   (aG (aQ (aA 4))))))) (λas R q=>?_)
 obtain⟨n,m,rfl,n0,n63,m0,m1,q⟩:=q
 have hsl:SIG.length=94:=tV
 refine⟨rfl,rfl,by decide,n,rfl,by omega,by omega,?_⟩
 refine gJ (λi ρ=>∃(ss:List Str) (s5 s6 s7:Sl),ss.length=i/\zCh m ss/\ρ=[.dk,.va (iT n),.va (iT m),.va (sT SIG),.own (ss.map sT),s5,s6,s7]) ⟨[],.no,.no,.no,rfl,⟨List.nodup_nil,λs hs=>nomatch hs⟩,rfl⟩ ?_ ?_
 ·rintro i T _ N hT ⟨ss,s5,s6,s7,hlen,htx,rfl⟩ hN
  obtain⟨hi,rfl⟩:=jA hT
  refine⟨rfl,m,rfl,m0,m1,λx0 sx0 hx0=>?_⟩
  refine⟨rfl,1,rfl,by omega,SIG,_,rfl,rfl,λa0=>?_⟩
  let r:Str:=Txt.slice x0 (some 1) none
  have hr1:r.length+1<=(if x0.length<1 then 1 else x0.length):=zC8 x0
  have sr:Sg r:=sx0.slice _ _
  refine⟨λM ρ=>∃(j:Nat) (x:Str),M+j=ss.length+2/\j<=ss.length+1/\(∀i,1<=i->i<j->fK a0 r i∈ss)/\(j=0/\x=x0\/1<=j/\x=fK a0 r j) /\
    ρ=[.dk,.va (iT n),.va (iT m),.va (sT SIG),.own (ss.map sT),.va (iT (0+(i:Int))),.va (sT x),.va (iT (if j=0 then a0 else(a0+j) % 94))],
   ⟨ss.length+2,0,x0,rfl,Nat.zero_le _,λi h1 h2=>absurd h2 (Nat.not_lt_zero _),.inl ⟨rfl,rfl⟩,rfl⟩,?_⟩
  rintro M _ ⟨j,x,hM,hj,htr,hx,rfl⟩
  have hxl:Sg x/\(x.length:Int)<=(if m<1 then 1 else m)/\Txt.slice x (some 1) none=r:=by
   rcases hx with⟨_,rfl⟩|⟨_,rfl⟩
   ·refine⟨sx0,?_,rfl⟩
    split<;>omega
   ·refine⟨Sg.app (zGH _) sr,?_,zC7⟩
    have:(fK a0 r j).length=r.length+1:=by
     unfold fK
     rw[WordM.len,WordM.app,WordM.len,List.length_append]
     simp
     omega
    rw[this]
    split at hr1<;>split<;>omega
  obtain⟨sx,hxm,hxr⟩:=hxl
  have hx1000:x.length<=1000:=by split at hxm<;>omega
  refine⟨iA,_,rfl,?_⟩
  rw[fZ]
  refine sif (λh1=>?_) (λh1=>?_)
  ·have h1:x∈ss:=by simpa using h1
   have hall:∀i,1<=i->i<=j->fK a0 r i∈ss:=λi i1 i2=>by
    rcases Nat.lt_or_eq_of_le i2 with z|z
    ·exact htr i i1 z
    ·rcases hx with⟨z0,_⟩|⟨_,e⟩
     ·omega
     ·rw[z,<-e];exact h1
   have hjs:j<=ss.length:=zEt (by omega) hall
   have hmod:((if j=0 then a0 else(a0+(j:Int)) % 94)+1) % 94=(a0+((j+1:Nat):Int)) % 94:=by
    split
    ·rename_i z;subst z;congr 1
    ·push_cast;omega
   have hsl':((SIG.length:Nat):Int)=94:=by rw[hsl];rfl
   have e1:((if j=0 then a0 else(a0+(j:Int)) % 94)+1) % ((SIG.length:Nat):Int)=(a0+((j+1:Nat):Int)) % 94:=by rw[hsl',hmod]
   have hat:atI SIG.cps.toList (((if j=0 then a0 else(a0+(j:Int)) % 94)+1) % ((SIG.length:Nat):Int))=some (fI (a0+((j+1:Nat):Int))):=by
    rw[e1]
    have b1:=Int.emod_lt_of_pos (a0+((j+1:Nat):Int)) (show(0:Int)<94 by decide)
    have b2:=Int.emod_nonneg (a0+((j+1:Nat):Int)) (show(94:Int)≠0 by decide)
    have hlt:((a0+((j+1:Nat):Int)) % 94).toNat<(cs SIG).length:=by rw[<-WordM.len];omega
    have:=aJ (xs:=cs SIG) (j:=((a0+((j+1:Nat):Int)) % 94).toNat) (List.getElem?_eq_getElem hlt)
    rw[show((((a0+((j+1:Nat):Int)) % 94).toNat:Nat):Int)=(a0+((j+1:Nat):Int)) % 94 by omega]at this
    rw[this]
    unfold fI
    rw[List.getD_eq_getElem?_getD,List.getElem?_eq_getElem hlt]
    rfl
   refine⟨by omega,by omega,by omega,_,hat,1,rfl,by omega,?_,?_⟩
   ·show 1+(Txt.slice x (some 1) none).length<=100000
    rw[hxr]
    split at hr1<;>omega
   ·refine⟨ss.length+2-(j+1),by omega,j+1,fK a0 r (j+1),by omega,by omega,λi i1 i2=>hall i i1 (by omega),.inr ⟨by omega,rfl⟩,?_⟩
    show [Sl.dk,.va (iT n),.va (iT m),.va (sT SIG),.own (ss.map sT),.va (iT (0+(i:Int))),.va (sT ((⟨#[fI (a0+((j+1:Nat):Int))]⟩:Str)++Txt.slice x (some 1) none)),.va (iT (((if j=0 then a0 else(a0+(j:Int)) % 94)+1) % ((SIG.length:Nat):Int)))]=_
    rw[e1,if_neg (by omega),hxr]
    rfl
  ·have h1:x∉ss:=by simpa using h1
   refine⟨⟨_,rfl⟩,_,rfl,by rw[List.length_map];omega,hN _ ⟨ss++[x],.va (iT (0+(i:Int))),.va (sT x),.va (iT (if j=0 then a0 else(a0+j) % 94)),by rw[List.length_append,hlen];rfl,⟨?_,λs hs=>?_⟩,?_⟩⟩
   ·rw[List.nodup_append]
    exact⟨htx.1,by simp,λa ha b hb=>by rw[List.mem_singleton]at hb;subst hb;rintro rfl;exact h1 ha⟩
   ·rcases List.mem_append.mp hs with z|z
    ·exact htx.2 s z
    ·rw[List.mem_singleton]at z;subst z;exact⟨sx,hxm⟩
   ·rw[List.map_append];rfl
 ·rintro _ ⟨ss,s5,s6,s7,hlen,htx,rfl⟩
  rw[hX]at hlen
  exact q ss (by omega) htx
def vP:PSp:=λas R=>as=[.dk]/\∀r:Int,-(10 ^ 60)<r->r<10 ^ 60->R (iT r)
theorem C28_:bE ["_law_deck_here","_law_number","_law_k"] ["_law_deck_here"] (aL wF):=fsc (by decide +kernel)
theorem zJ4(h:Has K mg "_law_far" wF)(B:Own mg)(G24_:PGood P w K mg base 2 "_law_take" ["_law_deck_here","_law_most"] fH)   : PGood P w K mg base 3 "_law_far" ["_law_deck_here"] vP:=by
 have nd:=C28_.nd
 refine h.pgood C28_ (fun|_,_,_,_,_,_,[_],_=>rfl) (λf cdv A outer s H E F hr=>
   (aE (aI 1 nd aD)
   (aE (eY (m:=3) PassesOwn.never rfl (hC rfl B.range (aB aD aC)) (bY 2 (by decide) nd rfl (.inl rfl))
    (aG (aI 1 nd (aY bQ (aY kZ (aA 1) (aY nF aD aD)) (aH G24_ hr (bG 0 (aB (aY nF aD aD) aC)))))))
   (aG (aQ (aY bQ (aY gL (aY pW (aA 1) (aY gL (aY kZ aD (aY nF aD aD)) aD)) (aY nF aD aD)) aD)))))) (λas R q=>?_)
 obtain⟨rfl,q⟩:=q
 refine⟨rfl,8,rfl,by decide,by decide,?_⟩
 refine gJ (λi ρ=>∃(x:Int) (s:Sl),0<=x/\x<10 ^ (8*i)/\ρ=[.dk,.va (iT x),s]) ⟨0,.no,by decide,by decide,rfl⟩ ?_ ?_
 ·rintro i T _ N hT ⟨x,s,x0,x1,rfl⟩ hN
  obtain⟨hi,rfl⟩:=jA hT
  have hi:i<8:=hi
  have xb:x<10 ^ 64:=Int.lt_of_lt_of_le x1 (by
   have:i=0\/i=1\/i=2\/i=3\/i=4\/i=5\/i=6\/i=7:=by omega
   rcases this with e|e|e|e|e|e|e|e<;>subst e<;>decide)
  refine⟨⟨by decide,by decide,by decide⟩,.inr ⟨bN (by omega) (by omega),bN (by decide) (by decide)⟩,rfl,⟨by decide,by decide,by decide⟩,10 ^ 8,rfl,by decide,bN (by decide) (by decide),λr r0 r1=>hN _ ⟨_,_,?_,?_,rfl⟩⟩
  ·show 0<=x*(10 ^ 8:Int)+r
   omega
  ·show x*(10 ^ 8:Int)+r<10 ^ (8*(i+1))
   have e:(10:Int) ^ (8*(i+1))=10 ^ (8*i)*10 ^ 8:=by rw[Nat.mul_add,Int.pow_add]
   rw[e]
   have h8:r<(10:Int) ^ 8:=r1
   generalize (10:Int) ^ (8*i)=y at x1
   omega
 ·rintro _ ⟨x,s,x0,x1,rfl⟩
  refine⟨⟨by decide,by decide,by decide⟩,.inl (.inl ⟨by decide,by decide⟩),(show(0:Int)<2*10 ^ 60-1 by decide),⟨by decide,by decide,by decide⟩,?_⟩
  have h1:=Int.emod_nonneg x (show(2*10 ^ 60-1:Int)≠0 by decide)
  have h2:=Int.emod_lt_of_pos x (show(0:Int)<2*10 ^ 60-1 by decide)
  refine q _ ?_ ?_
  ·show -(10 ^ 60)<x % (2*10 ^ 60-1)-10 ^ 60+1
   omega
  ·show x % (2*10 ^ 60-1)-10 ^ 60+1<10 ^ 60
   omega
end
section
variable{P:Program}{w:World}{K:W.Frag}{mg:Str->Option Value}{base:Heap}
structure pR (nm tx:List Str) (st sp:Int):Prop where
 n11:nm.length=11
 t9:tx.length=9
 nd:nm.Nodup
 ndt:tx.Nodup
 ns:∀s∈nm,Sg s/\s.length<=40
 ts:∀s∈tx,Sg s/\s.length<=43
 st1:-(10 ^ 57)<=st
 st2:st<=10 ^ 57
 sp1:1<=sp
 sp2:sp<=10 ^ 20
def dF(nm tx:List Str)(st sp:Int):Tv:=.seq false [.seq false (nm.map sT),.seq false (tx.map sT),iT st,iT sp]
def tY:PSp:=λas R=>as=[.dk]/\∀nm tx st sp,pR nm tx st sp->R (dF nm tx st sp)
theorem zGl{a b c:Str}(h:a++b=a++c):b=c:=by
 have:=congrArg cs h
 rw[WordM.app,WordM.app]at this
 exact kY (List.append_cancel_left this)
theorem C29_:bE ["_law_deck_here","_law_most","_law_names","_law_head","_law_texts","_law_start"] ["_law_deck_here"] (aL rL):=fsc (by decide +kernel)
theorem zJ3(h:Has K mg "_law_world" rL)(B:Own mg)(G24_:PGood P w K mg base 2 "_law_take" ["_law_deck_here","_law_most"] fH)(G27_:PGood P w K mg base 4 "_law_unlike" ["_law_deck_here","_law_many","_law_most"] tJ)(G26_:PGood P w K mg base 3 "_law_text" ["_law_deck_here","_law_most"] lO)(G28_:PGood P w K mg base 3 "_law_far" ["_law_deck_here"] vP)   : PGood P w K mg base 5 "_law_world" ["_law_deck_here"] tY:=by
 have nd:=C29_.nd
 refine h.pgood C29_ (fun|_,_,_,_,_,_,[_],_=>rfl) (λf cdv A outer s H E F hr=>
   (aE (aI 1 nd (aF hr (bB (cA (aB aD (aB aD (aB aD (aB aD (aB aD (aB aD (aB aD (aB aD aC)))))))))) (aH G24_ hr (bG 0 (aB aD aC)))))
   (aE (aI 2 nd (aH G27_ hr (bG 0 (aB aD (aB (aA 1) aC)))))
   (aE (aI 3 nd (aH G26_ hr (bG 0 (aB (aY kZ aD (aH G24_ hr (bG 0 (aB aD aC)))) aC))))
   (aE (jT (sc:=aL rL) (XN:=["_law_deck_here","_law_most","_law_names","_law_head","_law_texts","_law_start"]) (N:=["_law_text_here","_law_head"]) (fr:=[3]) 4 nd (bR (aH G27_ hr (bG 0 (aB aD (aB (aA 1) aC))))) (λ_ _ _ _ _=>jE) (λ_ _ _ _ _=>(aY bQ (aA 1) (aA 0))))
   (aE (aI 5 nd (aF hr (bB (cA (aB aD (aB aD (aB (zBH zBl aD) (aB (aY tW (aH G28_ hr (bG 0 aC)) aD) aC)))))) (aH G24_ hr (bG 0 (aB aD aC)))))
   (aG (aQ (bB (cA (aB (aA 2) (aB (aA 4) (aB (aA 5) (aB (aY bQ aD (aH G24_ hr (bG 0 (aB (aF hr (bB (cA (aB aD (aB (aY nF aD aD) aC)))) (aH G24_ hr (bG 0 (aB aD aC)))) aC)))) aC)))))))))))))) (λas R q=>?_)
 obtain⟨rfl,q⟩:=q
 refine⟨rfl,by decide,rfl,8,rfl,by decide,bN (by decide) (by decide),λr r0 r1=>?_⟩
 obtain⟨M,hM,hMm⟩:=oM (l:=[iT 4,iT 3,iT 5,iT 1,iT 4,iT 3,iT 6,iT 40]) r0 r1
 have hm:∃m:Int,M=iT m/\1<=m/\m<=40:=by
  simp only[List.mem_cons,List.not_mem_nil,or_false]at hMm
  rcases hMm with e|e|e|e|e|e|e|e<;>subst e<;>exact⟨_,rfl,by decide,by decide⟩
 obtain⟨m,rfl,m1,m2⟩:=hm
 refine⟨_,hM,?_⟩
 clear hM hMm
 refine⟨rfl,11,m,rfl,by decide,by decide,by omega,by omega,λnm hnm tnm=>?_⟩
 refine⟨rfl,rfl,2,rfl,by decide,bN (by decide) (by decide),λr2 a0 a1=>⟨.inl (.inl ⟨by decide,by decide⟩),_,rfl,by omega,by omega,λhd shd lhd=>?_⟩⟩
 refine⟨rfl,9,m,rfl,by decide,by decide,by omega,by omega,λtx htx ttx=>⟨by rw[List.length_map];omega,?_⟩⟩
 have lt:∀s∈tx,Sg s/\s.length<=40:=λs hs=>by
  have:=ttx.2 s hs
  refine⟨this.1,?_⟩
  have:=this.2
  split at this<;>omega
 refine eX sT (λs=>sT (hd++s)) (λs hs R q=>?_) ?_
 ·have:=(lt s hs).2
  exact⟨show hd.length+s.length<=100000 by omega,q⟩
 refine⟨rfl,rfl,λfr fr0 fr1=>⟨⟨by decide,bN (by decide) (by decide)⟩,(show 4<=100000 by decide),rfl,4,rfl,by decide,bN (by decide) (by decide),λr3 b0 b1=>?_⟩⟩
 obtain⟨S,hS,hSm⟩:=oM (l:=[iT 0,iT 7,iT (-40),iT (fr / 1000)]) b0 b1
 have hs:∃st:Int,S=iT st /\ -(10 ^ 57)<=st/\st<=10 ^ 57:=by
  simp only[List.mem_cons,List.not_mem_nil,or_false]at hSm
  rcases hSm with e|e|e|e<;>subst e
  ·exact⟨_,rfl,by decide,by decide⟩
  ·exact⟨_,rfl,by decide,by decide⟩
  ·exact⟨_,rfl,by decide,by decide⟩
  ·exact⟨_,rfl,by omega,by omega⟩
 obtain⟨st,rfl,st1,st2⟩:=hs
 refine⟨_,hS,?_⟩
 clear hS hSm
 refine⟨rfl,⟨by decide,by decide,by decide⟩,by decide,rfl,2,rfl,by decide,bN (by decide) (by decide),λr4 c0 c1=>?_⟩
 obtain⟨W,hW,hWm⟩:=oM (l:=[iT 6,iT (10 ^ 20)]) c0 c1
 have hw:∃wi:Int,W=iT wi/\1<=wi/\wi<=10 ^ 20:=by
  simp only[List.mem_cons,List.not_mem_nil,or_false]at hWm
  rcases hWm with e|e<;>subst e<;>exact⟨_,rfl,by decide,by decide⟩
 obtain⟨wi,rfl,w1,w2⟩:=hw
 refine⟨_,hW,wi,rfl,by omega,bN (by omega) (by omega),λsp sp0 sp1=>⟨(show 4<=100000 by decide),?_⟩⟩
 have:=q nm (tx.map λs=>hd++s) st (1+sp) ⟨by omega,by rw[List.length_map];omega,tnm.1,?_,λs hs=>?_,λs hs=>?_,st1,st2,by omega,by omega⟩
 ·show R (.seq false [.seq false (nm.map sT),.seq false (tx.map λs=>sT (hd++s)),iT st,iT (1+sp)])
  rw[dF,List.map_map]at this
  exact this
 ·unfold List.Nodup
  rw[List.pairwise_map]
  exact ttx.1.imp λh e=>h (zGl e)
 ·have:=tnm.2 s hs
  refine⟨this.1,?_⟩
  have:=this.2
  split at this<;>omega
 ·obtain⟨z,hz,rfl⟩:=List.mem_map.mp hs
  refine⟨shd.app (lt z hz).1,?_⟩
  rw[WordM.len,WordM.app,List.length_append,<-WordM.len,<-WordM.len]
  have:=(lt z hz).2
  omega
end
section
variable{P:Program}{w:World}{K:W.Frag}{mg:Str->Option Value}{base:Heap}
theorem zDm(b:Int)(h1:1<=b)(h2:b<=15):∃ms:List Str,([((1:Int),("figure":Str)),(2,"great"),(4,"other"),(8,"small")].filterMap λx=>if b / x.1 % 2=1 then some (sT x.2) else none)=ms.map sT/\ms.Sublist MK/\ms≠[]:=by
 have:b=1\/b=2\/b=3\/b=4\/b=5\/b=6\/b=7\/b=8\/b=9\/b=10\/b=11\/b=12\/b=13\/b=14\/b=15:=by omega
 rcases this with e|e|e|e|e|e|e|e|e|e|e|e|e|e|e<;>subst e
 ·exact⟨["figure"],rfl,by decide,by decide⟩
 ·exact⟨["great"],rfl,by decide,by decide⟩
 ·exact⟨["figure","great"],rfl,by decide,by decide⟩
 ·exact⟨["other"],rfl,by decide,by decide⟩
 ·exact⟨["figure","other"],rfl,by decide,by decide⟩
 ·exact⟨["great","other"],rfl,by decide,by decide⟩
 ·exact⟨["figure","great","other"],rfl,by decide,by decide⟩
 ·exact⟨["small"],rfl,by decide,by decide⟩
 ·exact⟨["figure","small"],rfl,by decide,by decide⟩
 ·exact⟨["great","small"],rfl,by decide,by decide⟩
 ·exact⟨["figure","great","small"],rfl,by decide,by decide⟩
 ·exact⟨["other","small"],rfl,by decide,by decide⟩
 ·exact⟨["figure","other","small"],rfl,by decide,by decide⟩
 ·exact⟨["great","other","small"],rfl,by decide,by decide⟩
 ·exact⟨["figure","great","other","small"],rfl,by decide,by decide⟩
structure MkD (h:Str) (a b:Int) (ms:List Str):Prop where
 h3:Sg h/\h.length<=3
 a0:0<=a
 a3:a<=3
 ab:a<=b
 b1:1<=b
 b6:b<=6
 sub:ms.Sublist MK
 ne:ms≠[]
theorem MkD.ok{h:Str}{a b:Int}{ms:List Str}(m:MkD h a b ms):bL (.make h a b ms):=⟨⟨m.h3.1,by have:=m.h3.2;omega⟩,m.a0,m.ab,m.b1,by have:=m.b6;omega,m.sub,m.ne⟩
def nI:PSp:=λas R=>as=[.dk]/\∀h a b ms,MkD h a b ms->R (aW (.make h a b ms))
theorem C32_:bE ["_law_deck_here","_law_least","_law_most","_law_bits","_law_marks","_law_some"] ["_law_deck_here"] (aL rJ):=fsc (by decide +kernel)
theorem zJ0(h:Has K mg "_law_make" rJ)(B:Own mg)(G24_:PGood P w K mg base 2 "_law_take" ["_law_deck_here","_law_most"] fH)(G26_:PGood P w K mg base 3 "_law_text" ["_law_deck_here","_law_most"] lO)   : PGood P w K mg base 4 "_law_make" ["_law_deck_here"] nI:=by
 have nd:=C32_.nd
 refine h.pgood C32_ (fun|_,_,_,_,_,_,[_],_=>rfl) (λf cdv A outer s H E F hr=>
   (aE (aI 1 nd (aH G24_ hr (bG 0 (aB aD aC))))
   (aE (aI 2 nd (aX (fM rfl) rfl B.max boot_max (aB aD (aB (aY bQ (aA 1) (aH G24_ hr (bG 0 (aB aD aC)))) aC))))
   (aE (aI 3 nd (aY bQ aD (aH G24_ hr (bG 0 (aB aD aC)))))
   (aE (aI 4 nd (bB (cA (aB aU (aB aU (aB aU (aB aU aC)))))))
   (aE (aI 5 nd (dI dJ rfl B.tuple_ boot_tuple (aB (bB (jP (sc:=aL rJ) (XN:=["_law_deck_here","_law_least","_law_most","_law_bits","_law_marks","_law_some"]) (N:=["_law_k","_law_mark_here","_law_bits"]) (own:=2) (fr:=[3]) rfl ⟨rfl,by decide +kernel,by decide +kernel,by decide +kernel,rfl,by decide +kernel,by decide,by decide +kernel⟩ (by decide) (tT rfl B.enumerate (aB (aA 4) aC)) (λ_ _ _ _ _=>(iG 2 rfl (dE (bY 0 (by decide) (show(["_law_k","_law_mark_here","_law_bits"]:List Str).Nodup by decide +kernel) rfl (by first|exact Or.inl rfl|exact Or.inr rfl)) (dE (bY 1 (by decide) (show(["_law_k","_law_mark_here","_law_bits"]:List Str).Nodup by decide +kernel) rfl (by first|exact Or.inl rfl|exact Or.inr rfl)) iB)))) (λ_ _ _ _ _=>(cQ (bJ hr (aY pW (aY tW (aA 2) (aF hr (bB (cA (aB aD (aB aD (aB aD (aB aD aC)))))) (aA 0))) aD) aD))) (λ_ _ _ _ _=>(aA 1)))) aC)))
   (aG (aQ (aT (aB aU (aB (aH G26_ hr (bG 0 (aB aD aC))) (aB (aA 1) (aB (aA 2) (aB (aA 5) aC)))))))))))))) (λas R q=>?_)
 obtain⟨rfl,q⟩:=q
 refine⟨rfl,rfl,4,rfl,by decide,bN (by decide) (by decide),λa a0 a1=>?_⟩
 refine⟨rfl,4,rfl,by decide,bN (by decide) (by decide),λc c0 c1=>.inl ⟨_,_,rfl,?_⟩⟩
 refine⟨rfl,15,rfl,by decide,bN (by decide) (by decide),λd d0 d1=>⟨by decide,?_⟩⟩
 obtain⟨ms,e,sub,ne⟩:=zDm (1+d) (by omega) (by omega)
 refine⟨_,rfl,by decide,?_⟩
 refine cP (l:=[((1:Int),(0:Nat),("figure":Str)),(2,1,"great"),(4,2,"other"),(8,3,"small")]) (λx=>.seq true [iT (x.2.1:Nat),sT x.2.2]) (λx=>if (1+d) / x.1 % 2=1 then some (sT x.2.2) else none) (λx hx R q=>?_) ?_
 ·simp only[List.mem_cons,List.not_mem_nil,or_false]at hx
  rcases hx with rfl|rfl|rfl|rfl
  all_goals
   refine⟨_,rfl,rfl,_,_,rfl,_,_,rfl,rfl,by decide,_,rfl,⟨by decide,bN (by decide) (by decide)⟩,(show(0:Int)<2 by decide),_,rfl,?_⟩
   refine sif (λz=>?_) (λz=>?_)
   ·rw[if_pos (by simpa[eqV]using z)]at q;exact q
   ·rw[if_neg (by simpa[eqV]using z)]at q;exact q
 ·have e':([((1:Int),(0:Nat),("figure":Str)),(2,1,"great"),(4,2,"other"),(8,3,"small")].filterMap λx=>if (1+d) / x.1 % 2=1 then some (sT x.2.2) else none)=ms.map sT:=e
  rw[e']
  refine⟨_,_,rfl,rfl,3,rfl,by decide,by decide,λh sh lh=>⟨(show 5<=100000 by decide),q h a _ ms ⟨⟨sh,by omega⟩,a0,by omega,by omega,by omega,by omega,sub,ne⟩⟩⟩
theorem zZ{α:Type}{ps rs tx:List α}{j:Nat}{x:α}(h:(ps++rs).Perm tx)(e:rs[j]?=some x):((ps++[x])++rs.eraseIdx j).Perm tx:=by
 obtain⟨hj,rfl⟩:=List.getElem?_eq_some_iff.mp e
 refine List.Perm.trans ?_ h
 rw[List.append_assoc]
 exact List.Perm.append_left _ (oY rs j hj)
theorem qF{rs:List Str}{r:Int}(h0:0<=r)(h1:r<rs.length):∃x,rs[r.toNat]?=some x:=⟨rs[r.toNat]'(by omega),List.getElem?_eq_getElem _⟩
theorem sW{α β:Type}(f:α->β):∀(l:List α) (i:Nat),(l.map f).eraseIdx i=(l.eraseIdx i).map f
 |[],_=>by simp
 |_::_,0=>by simp
 |a::l,i+1=>by simp[sW f l i]
end
section
variable{P:Program}{w:World}{K:W.Frag}{mg:Str->Option Value}{base:Heap}
def WdS:Wd->Prop
 |.few ts=>bL (.few ts)/\∀t∈ts,t.length<=43
 |.make h a b ms=>MkD h a b ms
theorem WdS.ok:∀{w:Wd},WdS w->bL w
 |.few _,h=>h.1
 |.make ..,h=>MkD.ok h
def uE:PSp:=λas R=>∃nm tx st sp,as=[.dk,.va (dF nm tx st sp)]/\pR nm tx st sp/\∀w,WdS w->R (aW w)
theorem C33_:bE ["_law_deck_here","_law_world_here","_law_texts","_law_some"] ["_law_deck_here","_law_world_here"] (aL rH):=fsc (by decide +kernel)
theorem zJZ(h:Has K mg "_law_some_words" rH)(B:Own mg)(G24_:PGood P w K mg base 2 "_law_take" ["_law_deck_here","_law_most"] fH)(G32_:PGood P w K mg base 4 "_law_make" ["_law_deck_here"] nI)   : PGood P w K mg base 5 "_law_some_words" ["_law_deck_here","_law_world_here"] uE:=by
 have nd:=C33_.nd
 refine h.pgood C33_ (fun|_,_,_,_,_,_,[_,_],_=>rfl) (λf cdv A outer s H E F hr=>
   (aE (aZ (bJ hr (aH G24_ hr (bG 0 (aB aD aC))) aD)
    (aG (aQ (aH G32_ hr (bG 0 aC))))
    bA)
   (aE (jI 2 nd (kI kM rfl B.list_ boot_list (aB (aF hr (aA 1) aD) aC)))
   (aE (jT (sc:=aL rH) (XN:=["_law_deck_here","_law_world_here","_law_texts","_law_some"]) (N:=["_law_k","_law_deck_here","_law_texts"]) (fr:=[0,2]) 3 nd (hC rfl B.range (aB (aY bQ aD (aH G24_ hr (bG 0 (aB aD aC)))) aC)) (λ_ _ _ _ _=>jE) (λ_ _ _ _ _=>(zQ 2 (aH G24_ hr (bG 1 (aB (zAr λF=>(aX bP rfl B.len PySem.boot_len (aB (aA 2) aC))) aC))))))
   (aG (aQ (aT (aB aU (aB (dI dJ rfl B.tuple_ boot_tuple (aB (bB (zP (yS rfl) rfl B.sorted boot_sorted (aB (aA 3) aC))) aC)) aC))))))))) (λas R q=>?_)
 obtain⟨nm,tx,st,sp,rfl,hw,q⟩:=q
 refine⟨rfl,rfl,2,rfl,by decide,bN (by decide) (by decide),λa a0 a1=>⟨_,rfl,sif (λ_=>⟨rfl,rfl,λh a b ms m=>q (.make h a b ms) m⟩) (λ_=>?_)⟩⟩
 refine⟨_,rfl,false,_,rfl,?_⟩
 refine⟨rfl,6,rfl,by decide,bN (by decide) (by decide),λn n0 n1=>⟨_,rfl,by omega,by omega,by rw[hX];omega,?_⟩⟩
 refine zF (λi Us ρ=>∃ps rs:List Str,Us=ps.map sT/\ps.length=i/\(ps++rs).Perm tx/\ρ=[.dk,.va (dF nm tx st sp),.own (rs.map sT),.no]) ⟨[],tx,rfl,rfl,List.Perm.refl _,rfl⟩ ?_ ?_
 ·rintro i T _ _ hT ⟨ps,rs,rfl,hl,hp,rfl⟩ R hR
  have hi:=(jA hT).1
  have hlen:=hp.length_eq
  rw[List.length_append,hw.t9]at hlen
  refine⟨⟨_,rfl⟩,rfl,_,rfl,(rs.map sT).length,rfl,by rw[List.length_map];omega,by rw[List.length_map];exact bN (by omega) (by omega),λr r0 r1=>?_⟩
  rw[List.length_map]at r1
  obtain⟨x,hx⟩:=qF r0 r1
  refine⟨r,_,sT x,rfl,rfl,r0,by rw[List.getElem?_map,hx];rfl,hR (some (sT x)) _ ⟨ps++[x],rs.eraseIdx r.toNat,by rw[List.map_append];rfl,by rw[List.length_append,hl];rfl,zZ hp hx,?_⟩⟩
  show [Sl.dk,.va (dF nm tx st sp),.own ((rs.map sT).eraseIdx r.toNat),.no]=_
  rw[sW]
 ·rintro _ _ ⟨ps,rs,rfl,hl,hp,rfl⟩
  rw[hX]at hl
  have hnd:ps.Nodup:=(hp.nodup_iff.mpr hw.ndt).sublist (List.sublist_append_left _ _)
  refine .inr (.inl ⟨ps,rfl,by omega,?_⟩)
  refine⟨false,_,rfl,by simp,q (.few (bU ps)) ⟨⟨by rw[kL];omega,by rw[kL];omega,kK hnd,λt ht=>?_⟩,λt ht=>(hw.ts t (hp.mem_iff.mp (List.mem_append_left _ ((fY ps).mem_iff.mp ht)))).2⟩⟩
  have ht:t∈tx:=hp.mem_iff.mp (List.mem_append_left _ ((fY ps).mem_iff.mp ht))
  exact⟨(hw.ts t ht).1,by have:=(hw.ts t ht).2;omega⟩
end
end My
namespace My
open PySem L2 PyProof.Rows WordM
section
variable{P:Program}{w:World}{K:W.Frag}{mg:Str->Option Value}{base:Heap}
def sR:PSp:=λas R=>∃x m:Str,as=[.va (sT x),.va (sT m)]/\m∈MK/\x.length<=1000/\R (bT (gY x m))
theorem C0_:bE ["text","mark"] ["text","mark"] (aL s0_):=fsc (by decide +kernel)
theorem g0_(h:Has K mg "has_mark" s0_)(B:Own mg)(GSIGNS:mE K w.params mg "SIGNS" SGN)  : PGood P w K mg base 1 "has_mark" ["text","mark"] sR:=by
 have nd:=C0_.nd
 refine h.pgood C0_ (fun|_,_,_,_,_,_,[_,_],_=>rfl) (λf cdv A outer s H E F hr=>
   (aG (aQ (aX (zG0 rfl) rfl B.any boot_any (aB (bB (gQ (sc:=aL s0_) (XN:=["text","mark"]) (N:=["sign","mark"]) (fr:=[1]) (bR (aA 0)) (λ_ _ _ _ _=>(fP (eV hr.units).op (aA 0) (vJ GSIGNS rfl (aA 1)) rfl)))) aC))))) (λas R q=>?_)
 obtain⟨x,m,rfl,hm,hx,q⟩:=q
 obtain⟨S,hS⟩:∃S,getS SGN m=some S:=by
  simp only[MK,List.mem_cons,List.not_mem_nil,or_false]at hm
  rcases hm with e|e|e|e<;>subst e<;>exact⟨_,rfl⟩
 refine⟨rfl,by rw[List.length_map,<-WordM.len];omega,?_⟩
 refine eX (λc=>sT ⟨#[c]⟩) (λc=>bT (decide (c∈cs S))) (λc hc R q=>⟨m,S,rfl,hS,?_⟩) ?_
 ·have e:(false != inS ⟨#[c]⟩ S)=decide (c∈cs S):=by
   unfold inS
   rw[StrLaws.found_one]
   simp
  show R (some (bT (false != inS ⟨#[c]⟩ S))) _
  rw[e]
  exact q
 ·refine⟨(cs x).map λc=>decide (c∈cs S),by rw[List.map_map];rfl,?_⟩
  have e:((cs x).map λc=>decide (c∈cs S)).any id=gY x m:=by
   rw[List.any_map,gY,hS]
   rfl
  rw[e]
  exact q
def pD:PSp:=λas R=>∃x:Str,as=[.va (sT x)]/\x.length<=1000/\R (.seq true ((dQ x).map sT))
theorem C1_:bE ["text"] ["text"] (aL s1_):=fsc (by decide +kernel)
theorem g1_(h:Has K mg "marks_of" s1_)(B:Own mg)(G0_:PGood P w K mg base 1 "has_mark" ["text","mark"] sR)(GMARKS:jH K mg "MARKS" (.seq true (MK.map sT)))  : PGood P w K mg base 2 "marks_of" ["text"] pD:=by
 have nd:=C1_.nd
 refine h.pgood C1_ (fun|_,_,_,_,_,_,[_],_=>rfl) (λf cdv A outer s H E F hr=>
   (aG (aQ (dI dJ rfl B.tuple_ boot_tuple (aB (bB (dR (sc:=aL s1_) (XN:=["text"]) (N:=["mark","text"]) (fr:=[0]) (bR (zBI GMARKS rfl)) (λ_ _ _ _ _=>(cQ (cM (aH G0_ hr (aB (aA 1) (aB (aA 0) aC)))))) (λ_ _ _ _ _=>(aA 0)))) aC))))) (λas R q=>?_)
 obtain⟨x,rfl,hx,q⟩:=q
 refine⟨rfl,by decide,?_⟩
 refine cP (l:=MK) sT (λm=>if gY x m=true then some (sT m) else none) (λm hm R q=>⟨x,m,rfl,hm,hx,_,rfl,sif (λz=>?_) (λz=>?_)⟩) ?_
 ·rw[if_pos z]at q;exact q
 ·rw[if_neg (by rw[z];exact Bool.false_ne_true)]at q;exact q
 ·refine⟨false,_,rfl,?_⟩
  have e:(MK.filterMap λm=>if gY x m=true then some (sT m) else none)=(dQ x).map sT:=by
   unfold dQ
   generalize MK=l
   induction l with
   |nil=>rfl
   |cons a l ih=>
    rw[List.filterMap_cons,List.filter_cons,ih]
    cases gY x a<;>simp
  rw[e]
  exact q
def iY:PSp:=λas R=>∃(W:Wd) (x:Str),as=[.va (aW W),.va (sT x)]/\bL W/\Sg x/\x.length<=1000/\R (bT (bS W x))
theorem C2_:bE ["words","text","tail"] ["words","text"] (aL s2_):=fsc (by decide +kernel)
theorem g2_(h:Has K mg "words_let" s2_)(B:Own mg)(G1_:PGood P w K mg base 2 "marks_of" ["text"] pD)   : PGood P w K mg base 3 "words_let" ["words","text"] iY:=by
 have nd:=C2_.nd
 refine h.pgood C2_ (fun|_,_,_,_,_,_,[_,_],_=>rfl) (λf cdv A outer s H E F hr=>
   (aE (aZ (bJ hr (aF hr (aA 0) aD) aU)
    (aG (aQ (fP (eV hr.units).op (aA 1) (aF hr (aA 0) aD) rfl)))
    bA)
   (aE (aZ (gB (cM (lH PySem.F.slot_str_startswith PySem.F.type_str_startswith pE (aA 1) (aB (aF hr (aA 0) aD) aC))))
    (aG (aQ eZ))
    bA)
   (aE (aI 2 nd (eG eM (aA 1) (eI (aX bP rfl B.len PySem.boot_len (aB (aF hr (aA 0) aD) aC))) eJ))
   (aG (aQ (lI (zEp gR gR (aF hr (aA 0) aD) (aX bP rfl B.len PySem.boot_len (aB (aA 2) aC)) (aF hr (aA 0) aD)) (lG (aX (pX rfl) rfl B.all boot_all (aB (bB (gQ (sc:=aL s2_) (XN:=["words","text","tail"]) (N:=["mark","words"]) (fr:=[0]) (bR (aH G1_ hr (aB (aA 2) aC))) (λ_ _ _ _ _=>(fP (eV hr.units).op (aA 0) (aF hr (aA 1) aD) rfl)))) aC)))))))))) (λas R q=>?_)
 obtain⟨W,x,rfl,ok,sx,lx,q⟩:=q
 refine⟨rfl,?_⟩
 cases W with
 |few ss=>
  refine⟨_,rfl,_,rfl,cU (λ_=>⟨_,rfl,iA,?_⟩) (λh=>absurd rfl h)⟩
  rw[fZ]
  have:(false != decide (x∈ss))=bS (.few ss) x:=by simp[bS]
  rw[this]
  exact q
 |make hd lo hi ms=>
  have hhd:hd.length<=50:=ok.1.2
  refine⟨_,rfl,_,rfl,cU (λh=>absurd h (by decide +kernel)) (λ_=>?_)⟩
  have q':∀b,bS (.make hd lo hi ms) x=b->R (bT b):=λb e=>e▸q
  refine⟨rfl,_,rfl,_,_,rfl,rfl,_,rfl,?_⟩
  refine sif (λh1=>?_) (λh1=>?_)
  ·have h1:stW x hd=false:=by
    have h1:(!(stW x hd))=true:=h1
    simpa using h1
   refine q' _ ?_
   show(stW x hd&&_)=false
   rw[h1];rfl
  ·have h1:stW x hd=true:=by
    have h1:(!(stW x hd))=false:=h1
    simpa using h1
   refine⟨_,rfl,by omega,_,rfl,by omega,?_⟩
   have hrl:(bD x hd).length<=1000:=Nat.le_trans (WordM.slice_len ..) lx
   refine⟨_,rfl,by show(bD x hd).length<=100000;omega,_,rfl,cJ (λh2=>⟨_,rfl,_,rfl,cJ (λh3=>?_) (λh3=>?_)⟩) (λh2=>⟨false,rfl,aV ?_⟩)⟩
   ·have h2:lo<=((bD x hd).length:Int):=h2
    have h3:((bD x hd).length:Int)<=hi:=h3
    refine⟨_,rfl,hrl,by rw[List.length_map];exact Nat.le_trans (List.length_filter_le _ _) (by decide),?_⟩
    refine eX sT (λm=>bT (decide (m∈ms))) (λm hm R q=>⟨_,rfl,iA,?_⟩) ?_
    ·rw[fZ]
     have:(false != decide (m∈ms))=decide (m∈ms):=by simp
     rw[this];exact q
    ·refine⟨(dQ (bD x hd)).map λm=>decide (m∈ms),by rw[List.map_map];rfl,q' _ ?_⟩
     show(stW x hd&&_)=_
     rw[h1,decide_eq_true h2,decide_eq_true h3,<-marks_all (x:=bD x hd) (sx.slice _ _) ms,List.all_map]
     rfl
   ·have h3:¬ ((bD x hd).length:Int)<=hi:=h3
    refine q' _ ?_
    show(stW x hd&&_)=_
    rw[decide_eq_false h3];simp
   ·have h2:¬ lo<=((bD x hd).length:Int):=h2
    refine q' _ ?_
    show(stW x hd&&_)=_
    rw[decide_eq_false h2];simp
end
end My
namespace My
open PySem L2 PyProof.Rows WordM
section
variable{P:Program}{w:World}{K:W.Frag}{mg:Str->Option Value}{base:Heap}
variable{n:Nat}
def xC:List (Str×Str):=[("nothing","nothing"),("truths","truth"),("numbers","number"),("texts","text"),("lists","list"),("record","dict"),("table","dict")]
theorem at0{α:Type}{x:α}{r:List α}:atI (x::r) 0=some x:=aJ (j:=0) rfl
theorem tQ(p:Pt):∃r,aO p=.seq true (sT (iJ p)::r)/\r.length<=4:=by
 cases p with
 |record a b fs=>exact⟨_,cW a b fs,by simp⟩
 |lists a b f=>exact⟨_,iZ a b f,by simp⟩
 |table a b w f=>exact⟨_,cL a b w f,by simp⟩
 |_=>rw[aO];exact⟨_,rfl,by simp⟩
theorem zHv(p:Pt):getS xC (iJ p)=some (fA (dY p)):=by
 cases p<;>rfl
def sI:PSp:=λas R=>∃p:Pt,as=[.va (aO p)]/\R (sT (fA (dY p)))
theorem C9_:bE ["part"] ["part"] (aL s9_):=fsc (by decide +kernel)
theorem g9_(h:Has K mg "part_kind" s9_)(B:Own mg)(GPART_KINDS:mE K w.params mg "PART_KINDS" xC)  : PGood P w K mg base 1 "part_kind" ["part"] sI:=by
 have nd:=C9_.nd
 refine h.pgood C9_ (fun|_,_,_,_,_,_,[_],_=>rfl) (λf cdv A outer s H E F hr=>
   (aG (aQ (vJ GPART_KINDS rfl (aF hr (aA 0) aD))))) (λas R q=>?_)
 obtain⟨p,rfl,q⟩:=q
 obtain⟨r,e,_⟩:=tQ p
 rw[e]
 exact⟨rfl,_,at0,_,_,rfl,zHv p,q⟩
theorem zDX{a b:Nat}(ha:a<=5)(hb:b<=5)(h:fA a=fA b):a=b:=by
 have h1:a=0\/a=1\/a=2\/a=3\/a=4\/a=5:=by omega
 have h2:b=0\/b=1\/b=2\/b=3\/b=4\/b=5:=by omega
 rcases h1 with e|e|e|e|e|e<;>subst e<;>rcases h2 with e|e|e|e|e|e<;>subst e<;>first|rfl|exact absurd h (by decide +kernel)
theorem zEW(p:Pt):dY p<=5:=by cases p<;>simp[dY]
def fD:Option Pt->Tv
 |none=>nT
 |some p=>aO p
def mT:PSp:=λas R=>∃(f:List Pt) (k:Nat),as=[.va (bC f),.va (sT (fA k))]/\k<=5/\R (fD (f.find? λp=>decide (dY p=k)))
theorem C10_:bE ["form","kind","part"] ["form","kind"] (aL wP):=fsc (by decide +kernel)
theorem zKi(h:Has K mg "part_for" wP)(B:Own mg)(G9_:PGood P w K mg base 1 "part_kind" ["part"] sI)   : PGood P w K mg base 2 "part_for" ["form","kind"] mT:=by
 have nd:=C10_.nd
 refine h.pgood C10_ (fun|_,_,_,_,_,_,[_,_],_=>rfl) (λf cdv A outer s H E F hr=>
   (aE (eY (m:=3) PassesOwn.never rfl (bR (aA 0)) (bY 2 (by decide) nd rfl (.inl rfl))
    (aG (aZ (bJ hr (aH G9_ hr (aB (aA 2) aC)) (aA 1))
     (aG (aQ (aA 2)))
     bA)))
   (aG (aQ cZ)))) (λas R q=>?_)
 obtain⟨f,k,rfl,hk,q⟩:=q
 refine⟨rfl,?_⟩
 refine nC aO (l:=f) (λi ρ=>(∀j p,j<i->f[j]?=some p->dY p≠k)/\∃s,ρ=[.va (bC f),.va (sT (fA k)),s]) ⟨λj p h=>absurd h (Nat.not_lt_zero _),.no,rfl⟩ ?_ ?_
 ·rintro i p _ N hp ⟨hj,s,rfl⟩ hN
  refine⟨p,rfl,_,rfl,cU (λe=>?_) (λe=>?_)⟩
  ·have e:=zDX (zEW p) hk e
   have:f.find? (λp=>decide (dY p=k))=some p:=by
    rw[List.find?_eq_some_iff_getElem]
    obtain⟨hi,rfl⟩:=List.getElem?_eq_some_iff.mp hp
    exact⟨decide_eq_true e,i,hi,rfl,λj hj'=>by
     have:=hj j f[j] hj' (List.getElem?_eq_getElem (by omega))
     simpa using this⟩
   rw[this]at q
   exact q
  ·refine hN _ ⟨λj p' hj' ep=>?_,_,rfl⟩
   by_cases z:j=i
   ·subst z;rw[hp]at ep;cases ep;exact λz=>e (by rw[z])
   ·exact hj j p' (by omega) ep
 ·rintro _ ⟨hj,s,rfl⟩
  have:f.find? (λp=>decide (dY p=k))=none:=by
   rw[List.find?_eq_none]
   intro p hp
   obtain⟨j,hj',rfl⟩:=List.mem_iff_getElem.mp hp
   simpa using hj j _ hj' (List.getElem?_eq_getElem hj')
  rw[this]at q
  exact q
end
end My
namespace My
open PySem L2 PyProof.Rows WordM
section
variable{P:Program}{w:World}{K:W.Frag}{mg:Str->Option Value}{base:Heap}
theorem nxE{N:aR->Prop}{ρ ρ':aR}(e:ρ=ρ')(h:N ρ'):N ρ:=e▸h
end
end My
namespace My
open PySem L2 PyProof.Rows WordM
section
variable{P:Program}{w:World}{K:W.Frag}{mg:Str->Option Value}{base:Heap}
def bV(h:Str)(a b:Int)(ms:List Str)(h2:Str)(a2 b2:Int)(ms2:List Str):Option Wd:=
 if (stW h h2&&(dQ (bD h h2)).all λm=>decide (m∈ms2))=true then
  (λ(m:List Str) (lo hi:Int)=>if hi<lo then none else if hi=0 then some (.few [h]) else some (.make h lo hi m)) (ms.filter λm=>decide (m∈ms2)) (max a (a2-(bD h h2).length))
   (if (ms.filter λm=>decide (m∈ms2))=[] then min (min b (b2-(bD h h2).length)) 0 else min b (b2-(bD h h2).length))
 else none
def eP(ss:List Str)(W:Wd):Option Wd:=if ss.filter (bS W)=[] then none else some (.few (ss.filter (bS W)))
def cO:Wd->Wd->Option Wd
 |.few ss,W=>eP ss W
 |.make h a b ms,.few ss=>eP ss (.make h a b ms)
 |.make h a b ms,.make h2 a2 b2 ms2=>if h.length<h2.length then bV h2 a2 b2 ms2 h a b ms else bV h a b ms h2 a2 b2 ms2
def fB:Option Wd->Tv
 |none=>nT
 |some w=>aW w
def sJ:PSp:=λas R=>∃h a b ms h2 a2 b2 ms2,as=[.va (aW (.make h a b ms)),.va (aW (.make h2 a2 b2 ms2))]/\bL (.make h a b ms)/\bL (.make h2 a2 b2 ms2)/\R (fB (bV h a b ms h2 a2 b2 ms2))
theorem C3_:bE ["longer","shorter","head","tail","marks","least","most"] ["longer","shorter"] (aL s3_):=fsc (by decide +kernel)
theorem g3_(h:Has K mg "makes_met" s3_)(B:Own mg)(G1_:PGood P w K mg base 2 "marks_of" ["text"] pD)   : PGood P w K mg base 3 "makes_met" ["longer","shorter"] sJ:=by
 have nd:=C3_.nd
 refine h.pgood C3_ (fun|_,_,_,_,_,_,[_,_],_=>rfl) (λf cdv A outer s H E F hr=>
   (aE (aI 2 nd (aF hr (aA 0) aD))
   (aE (aI 3 nd (eG eM (aA 2) (eI (aX bP rfl B.len PySem.boot_len (aB (aF hr (aA 1) aD) aC))) eJ))
   (aE (aZ (dZ (fO (gB (cM (lH PySem.F.slot_str_startswith PySem.F.type_str_startswith pE (aA 2) (aB (aF hr (aA 1) aD) aC)))) (gA (gB (cM (aX (pX rfl) rfl B.all boot_all (aB (bB (gQ (sc:=aL s3_) (XN:=["longer","shorter","head","tail","marks","least","most"]) (N:=["mark","shorter"]) (fr:=[1]) (bR (aH G1_ hr (aB (aA 3) aC))) (λ_ _ _ _ _=>(fP (eV hr.units).op (aA 0) (aF hr (aA 1) aD) rfl)))) aC)))))))
    (aG (aQ cZ))
    bA)
   (aE (aI 4 nd (dI dJ rfl B.tuple_ boot_tuple (aB (bB (dR (sc:=aL s3_) (XN:=["longer","shorter","head","tail","marks","least","most"]) (N:=["mark","shorter"]) (fr:=[1]) (bR (aF hr (aA 0) aD)) (λ_ _ _ _ _=>(cQ (bX (eV hr.units) (aA 0) (aF hr (aA 1) aD) rfl))) (λ_ _ _ _ _=>(aA 0)))) aC)))
   (aE (aI 5 nd (aX (fM rfl) rfl B.max boot_max (aB (aF hr (aA 0) aD) (aB (aY gL (aF hr (aA 1) aD) (aX bP rfl B.len PySem.boot_len (aB (aA 3) aC))) aC))))
   (aE (aI 6 nd (aX (gC rfl) rfl B.min boot_min (aB (aF hr (aA 0) aD) (aB (aY gL (aF hr (aA 1) aD) (aX bP rfl B.len PySem.boot_len (aB (aA 3) aC))) aC))))
   (aE (aZ (bJ hr (aX bP rfl B.len PySem.boot_len (aB (aA 4) aC)) aD)
    (aG (aI 6 nd (aX (gC rfl) rfl B.min boot_min (aB (aA 6) (aB aD aC)))))
    bA)
   (aE (aZ (bX jF (aA 5) (aA 6))
    (aG (aQ cZ))
    bA)
   (aE (aZ (bJ hr (aA 6) aD)
    (aG (aQ (aT (aB aU (aB (aT (aB (aA 2) aC)) aC)))))
    bA)
   (aG (aQ (aT (aB aU (aB (aA 2) (aB (aA 5) (aB (aA 6) (aB (aA 4) aC)))))))))))))))))) (λas R q=>?_)
 obtain⟨h,a,b,ms,h2,a2,b2,ms2,rfl,ok,ok2,q⟩:=q
 obtain⟨⟨hS,hl⟩,a0,ab,b1,b6,sub,ne⟩:=ok
 obtain⟨⟨hS2,hl2⟩,a02,ab2,b12,b62,sub2,ne2⟩:=ok2
 have rl:(bD h h2).length<=50:=Nat.le_trans (WordM.slice_len ..) hl
 have m4:ms.length<=4:=sub.length_le
 refine⟨rfl,_,aJ (j:=1) rfl,?_⟩
 refine⟨_,aJ (j:=1) rfl,by show h2.length<=_;omega,_,rfl,by omega,?_⟩
 show PEnds.nx _ _
 let W1:Tv:=aW (.make h a b ms)
 let W2:Tv:=aW (.make h2 a2 b2 ms2)
 refine nxE (ρ':=[.va W1,.va W2,.va (sT h),.va (sT (bD h h2)),.no,.no,.no]) rfl ?_
 unfold bV at q
 have ml:(dQ (bD h h2)).length<=4:=by
  unfold dQ
  exact Nat.le_trans (List.length_filter_le _ _) (by simp[MK])
 refine⟨rfl,_,aJ (j:=1) rfl,_,_,rfl,rfl,_,rfl,?_⟩
 show if (!stW h h2)=true then _ else _
 cases z1:stW h h2 with
 |false=>rw[z1,Bool.false_and,if_neg Bool.false_ne_true]at q;exact bH q
 |true=>
  rw[z1,Bool.true_and]at q
  refine aV ⟨bD h h2,rfl,by omega,by rw[List.length_map];omega,eX sT (λm=>bT (decide (m∈ms2))) (λm hm R q=>⟨_,aJ (j:=4) rfl,iA,?_⟩) ⟨(dQ (bD h h2)).map λm=>decide (m∈ms2),by rw[List.map_map];rfl,_,rfl,?_⟩⟩
  ·rw[fZ]
   rw[show(false != decide (m∈ms2))=decide (m∈ms2) by cases decide (m∈ms2)<;>rfl]
   exact q
  rw[List.all_map]
  show if (!((dQ (bD h h2)).all λm=>decide (m∈ms2)))=true then _ else _
  cases z2:(dQ (bD h h2)).all λm=>decide (m∈ms2) with
  |false=>rw[z2,if_neg Bool.false_ne_true]at q;exact bH q
  |true=>
   rw[z2,if_pos rfl]at q
   refine aV ⟨_,aJ (j:=4) rfl,by rw[List.length_map];omega,cP sT (λm=>if decide (m∈ms2)=true then some (sT m) else none) (λm hm R q=>⟨_,aJ (j:=4) rfl,iA,_,rfl,?_⟩) ?_⟩
   ·rw[fZ]
    cases z:decide (m∈ms2) with
    |true=>rw[if_pos z]at q;exact bH q
    |false=>rw[if_neg (by rw[z];exact Bool.false_ne_true)]at q;exact aV q
   have ef:∀l:List Str,(l.filterMap λm=>if decide (m∈ms2)=true then some (sT m) else none)=(l.filter λm=>decide (m∈ms2)).map sT:=λl=>by
    induction l with
    |nil=>rfl
    |cons x l ih=>rw[List.filterMap_cons,List.filter_cons,ih];cases decide (x∈ms2)<;>simp
   rw[ef]
   have lM:(ms.filter λm=>decide (m∈ms2)).length<=4:=Nat.le_trans (List.length_filter_le _ _) m4
   generalize (ms.filter λm=>decide (m∈ms2))=M at q lM
   generalize bD h h2=t at q rl
   refine⟨false,_,rfl,?_⟩
   show PEnds.nx _ _
   refine nxE (ρ':=[.va W1,.va W2,.va (sT h),.va (sT t),.va (.seq true (M.map sT)),.no,.no]) rfl ?_
   refine⟨_,aJ (j:=2) rfl,_,aJ (j:=2) rfl,by show t.length<=_;omega,.inl ⟨_,_,rfl,?_⟩⟩
   refine⟨_,aJ (j:=3) rfl,_,aJ (j:=3) rfl,by show t.length<=_;omega,.inl ⟨_,_,rfl,?_⟩⟩
   show PEnds.nx _ _
   generalize max a (a2-(t.length:Nat))=lo at q
   generalize min b (b2-(t.length:Nat))=hi at q
   refine nxE (ρ':=[.va W1,.va W2,.va (sT h),.va (sT t),.va (.seq true (M.map sT)),.va (iT lo),.va (iT hi)]) rfl ?_
   have fin:∀hi:Int,R (fB (if hi<lo then none else if hi=0 then some (.few [h]) else some (.make h lo hi M)))->gV (sIf (uB (uOp pGt (cF 5) (cF 6))) (iN (uC nT)) oA) (gV (sIf (uB (uOp pEq (cF 6) (uC (iT 0)))) (iN (jW (cS (uC (sT "few")) (cS (jW (cS (cF 2) eN)) eN)))) oA) (iN (jW (cS (uC (sT "make")) (cS (cF 2) (cS (cF 5) (cS (cF 6) (cS (cF 4) eN)))))))) {nx:=λx=>R nT,rt:=R} [.va W1,.va W2,.va (sT h),.va (sT t),.va (.seq true (M.map sT)),.va (iT lo),.va (iT hi)]:=λhi q=>by
    refine⟨_,rfl,cJ (λz=>?_) (λz=>⟨_,rfl,eB (λy=>?_) (λy=>?_)⟩)⟩
    ·rw[if_pos (show hi<lo from z)]at q;exact q
    ·rw[if_neg (show ¬ hi<lo from z),if_pos y]at q;exact⟨by simp,by simp,q⟩
    ·rw[if_neg (show ¬ hi<lo from z),if_neg y]at q;exact⟨by simp,q⟩
   refine⟨_,rfl,eB (λz=>?_) (λz=>?_)⟩
   ·have z:M=[]:=by
     have z:((M.map sT).length:Int)=0:=z
     rw[List.length_map]at z
     exact List.length_eq_zero_iff.mp (by omega)
    rw[if_pos z]at q
    exact .inl ⟨_,_,rfl,fin _ q⟩
   ·have z:M≠[]:=λe=>z (by rw[e];rfl)
    rw[if_neg z]at q
    exact fin _ q
theorem qD{p:Str->Bool}:∀l:List Str,(l.filterMap λm=>if p m=true then some (sT m) else none)=(l.filter p).map sT
 |[]=>rfl
 |x::l=>by rw[List.filterMap_cons,List.filter_cons,qD l];cases p x<;>simp
def tK:PSp:=λas R=>∃(ss:List Str) (W:Wd),as=[.va (aW (.few ss)),.va (aW W)]/\bL (.few ss)/\bL W/\R (fB (eP ss W))
theorem C4_:bE ["few","other","texts"] ["few","other"] (aL s4_):=fsc (by decide +kernel)
theorem g4_(h:Has K mg "few_met" s4_)(B:Own mg)(G2_:PGood P w K mg base 3 "words_let" ["words","text"] iY)   : PGood P w K mg base 4 "few_met" ["few","other"] tK:=by
 have nd:=C4_.nd
 refine h.pgood C4_ (fun|_,_,_,_,_,_,[_,_],_=>rfl) (λf cdv A outer s H E F hr=>
   (aE (aI 2 nd (dI dJ rfl B.tuple_ boot_tuple (aB (bB (dR (sc:=aL s4_) (XN:=["few","other","texts"]) (N:=["text","other"]) (fr:=[1]) (bR (aF hr (aA 0) aD)) (λ_ _ _ _ _=>(cQ (cM (aH G2_ hr (aB (aA 1) (aB (aA 0) aC)))))) (λ_ _ _ _ _=>(aA 0)))) aC)))
   (aG (aQ (hG (bX jF (aX bP rfl B.len PySem.boot_len (aB (aA 2) aC)) aD) (aT (aB aU (aB (aA 2) aC))) cZ))))) (λas R q=>?_)
 obtain⟨ss,W,rfl,ok,okW,q⟩:=q
 obtain⟨s1,s6,sr,st⟩:=ok
 refine⟨rfl,_,aJ (j:=1) rfl,by rw[List.length_map];omega,cP sT (λt=>if bS W t=true then some (sT t) else none) (λt ht R q=>⟨W,t,rfl,okW,(st t ht).1,Nat.le_trans (st t ht).2 (by decide),_,rfl,?_⟩) ?_⟩
 ·cases z:bS W t with
  |true=>rw[if_pos z]at q;exact bH q
  |false=>rw[if_neg (by rw[z];exact Bool.false_ne_true)]at q;exact aV q
 rw[qD]
 unfold eP at q
 generalize ss.filter (bS W)=L at q
 refine⟨false,_,rfl,_,rfl,cJ (λz=>?_) (λz=>?_)⟩
 ·rw[if_neg (λe=>by rw[e]at z;exact absurd z (by decide))]at q
  exact⟨by simp,q⟩
 ·have z:¬ (0:Int)<((L.map sT).length:Nat):=z
  rw[if_pos (by
   rw[List.length_map]at z
   exact List.length_eq_zero_iff.mp (by omega))]at q
  exact q
def iX:PSp:=λas R=>∃W V:Wd,as=[.va (aW W),.va (aW V)]/\bL W/\bL V/\R (fB (cO W V))
theorem C5_:bE ["one","other"] ["one","other"] (aL s5_):=fsc (by decide +kernel)
theorem g5_(h:Has K mg "words_met" s5_)(B:Own mg)(G4_:PGood P w K mg base 4 "few_met" ["few","other"] tK)(G3_:PGood P w K mg base 3 "makes_met" ["longer","shorter"] sJ)   : PGood P w K mg base 5 "words_met" ["one","other"] iX:=by
 have nd:=C5_.nd
 refine h.pgood C5_ (fun|_,_,_,_,_,_,[_,_],_=>rfl) (λf cdv A outer s H E F hr=>
   (aE (aZ (bJ hr (aF hr (aA 0) aD) aU)
    (aG (aQ (aH G4_ hr (aB (aA 0) (aB (aA 1) aC)))))
    bA)
   (aE (aZ (bJ hr (aF hr (aA 1) aD) aU)
    (aG (aQ (aH G4_ hr (aB (aA 1) (aB (aA 0) aC)))))
    bA)
   (aE (aZ (bX qJ (aX bP rfl B.len PySem.boot_len (aB (aF hr (aA 0) aD) aC)) (aX bP rfl B.len PySem.boot_len (aB (aF hr (aA 1) aD) aC)))
    (aG (aQ (aH G3_ hr (aB (aA 1) (aB (aA 0) aC)))))
    bA)
   (aG (aQ (aH G3_ hr (aB (aA 0) (aB (aA 1) aC))))))))) (λas R q=>?_)
 obtain⟨W,V,rfl,ok,ok2,q⟩:=q
 cases W with
 |few ss=>exact⟨rfl,_,at0,_,rfl,cU (λ_=>⟨ss,V,rfl,ok,ok2,q⟩) (λz=>absurd rfl z)⟩
 |make h a b ms=>
  refine⟨rfl,_,at0,_,rfl,cU (λz=>absurd z (by decide +kernel)) (λ_=>?_)⟩
  cases V with
  |few ss=>exact⟨_,at0,_,rfl,cU (λ_=>⟨ss,.make h a b ms,rfl,ok2,ok,q⟩) (λz=>absurd rfl z)⟩
  |make h2 a2 b2 ms2=>
   have l1:=ok.1.2
   have l2:=ok2.1.2
   refine⟨_,at0,_,rfl,cU (λz=>absurd z (by decide +kernel)) (λ_=>?_)⟩
   have q:R (fB (if h.length<h2.length then bV h2 a2 b2 ms2 h a b ms else bV h a b ms h2 a2 b2 ms2)):=q
   refine⟨_,aJ (j:=1) rfl,by show h.length<=_;omega,_,aJ (j:=1) rfl,by show h2.length<=_;omega,_,rfl,cJ (λz=>?_) (λz=>?_)⟩
   ·have z:((h.length:Nat):Int)<(h2.length:Nat):=z
    rw[if_pos (by omega)]at q
    exact⟨h2,a2,b2,ms2,h,a,b,ms,rfl,ok2,ok,q⟩
   ·have z:¬ ((h.length:Nat):Int)<(h2.length:Nat):=z
    rw[if_neg (by omega)]at q
    exact⟨h,a,b,ms,h2,a2,b2,ms2,rfl,ok,ok2,q⟩
end
end My
namespace My
open PySem L2 PyProof.Rows WordM
section
variable{P:Program}{w:World}{K:W.Frag}{mg:Str->Option Value}{base:Heap}
def tl:Nat->Int->Int->Int->Int->Int->Int->Int->Int
 |0,_,_,_,_,many,_,_=>many
 |k+1,n,lo,hi,most,many,power,len=>
  if len<=hi then(if most<=many+power then most else tl k n lo hi most (if lo<=len then many+power else many) (power*n) (len+1)) else many
def tZ:PSp:=λas R=>∃(S:Str) (lo hi most:Int),as=[.va (sT S),.va (iT lo),.va (iT hi),.va (iT most)]/\2<=S.length/\S.length<=1000/\most<10 ^ 90/\R (iT (tl 400 S.length lo hi most 0 1 0))
theorem C6_:bE ["signs","shortest","longest","most","many","power","length"] ["signs","shortest","longest","most"] (aL s6_):=fsc (by decide +kernel)
theorem g6_(h:Has K mg "tails_many" s6_)(B:Own mg)    : PGood P w K mg base 1 "tails_many" ["signs","shortest","longest","most"] tZ:=by
 have nd:=C6_.nd
 refine h.pgood C6_ (fun|_,_,_,_,_,_,[_,_,_,_],_=>rfl) (λf cdv A outer s H E F hr=>
   (aE (aI 4 nd aD)
   (aE (aI 5 nd aD)
   (aE (aI 6 nd aD)
   (aE (zO PassesOwn.never (bX gR (aA 6) (aA 2))
    (aE (aZ (bX qK (aY bQ (aA 4) (aA 5)) (aA 3))
     (aG (aQ (aA 3)))
     bA)
    (aE (aZ (bX qK (aA 6) (aA 1))
     (aG (aI 4 nd (aY bQ (aA 4) (aA 5))))
     bA)
    (aE (aI 5 nd (aY kZ (aA 5) (aX bP rfl B.len PySem.boot_len (aB (aA 0) aC))))
    (aG (aI 6 nd (aY bQ (aA 6) aD)))))))
   (aG (aQ (aA 4)))))))) (λas R q=>?_)
 obtain⟨S,lo,hi,most,rfl,s2,s1,hm,q⟩:=q
 refine⟨rfl,λM ρ=>∃many power len:Int,ρ=[.va (sT S),.va (iT lo),.va (iT hi),.va (iT most),.va (iT many),.va (iT power),.va (iT len)]/\0<=many/\(2:Int) ^ (400-M)<=power/\1<=M/\M<=400/\R (iT (tl M S.length lo hi most many power len)),⟨400,0,1,0,rfl,by decide,by decide,by decide,by decide,q⟩,?_⟩
 rintro M _ ⟨many,power,len,rfl,m0,hp,M1,M4,q⟩
 obtain⟨M,rfl⟩:∃M',M=M'+1:=⟨M-1,by omega⟩
 rw[tl]at q
 refine⟨_,rfl,cJ (λh1=>?_) (λh1=>?_)⟩
 ·rw[if_pos h1]at q
  refine⟨_,rfl,cJ (λh2=>?_) (λh2=>?_)⟩
  ·rw[if_pos h2]at q;exact q
  ·rw[if_neg h2]at q
   have pm:power<10 ^ 90:=by omega
   have hM:400-(M+1)<300:=by
    refine Nat.lt_of_not_le λz=>?_
    have a:(2:Int) ^ 300<=2 ^ (400-(M+1)):=by exact_mod_cast Nat.pow_le_pow_right (n:=2) (by decide) z
    have b:(10:Int) ^ 90<2 ^ 300:=by decide
    omega
   have p0:0<power:=Int.lt_of_lt_of_le (Int.pow_pos (by decide)) hp
   have hp2:(2:Int) ^ (400-M)<=power*(S.length:Nat):=by
    have e:400-M=(400-(M+1))+1:=by omega
    rw[e,Int.pow_succ]
    exact Int.mul_le_mul hp (by omega) (by decide) (by omega)
   refine⟨_,rfl,cJ (λh3=>?_) (λh3=>?_)⟩
   ·rw[if_pos h3]at q
    exact⟨by show S.length<=_;omega,.inr ⟨bN (by omega) (by omega),bN (by omega) (by omega)⟩,M,by omega,_,_,_,rfl,by omega,hp2,by omega,by omega,q⟩
   ·rw[if_neg h3]at q
    exact⟨by show S.length<=_;omega,.inr ⟨bN (by omega) (by omega),bN (by omega) (by omega)⟩,M,by omega,_,_,_,rfl,m0,hp2,by omega,by omega,q⟩
 ·rw[if_neg h1]at q
  exact q
def dW(ms:List Str):List Str:=ms.map λm=>(getS SGN m).getD ⟨#[]⟩
theorem zF6{m:Str}(h:m∈MK):getS SGN m=some ((getS SGN m).getD ⟨#[]⟩):=by
 simp only[MK,List.mem_cons,List.not_mem_nil,or_false]at h
 rcases h with rfl|rfl|rfl|rfl<;>rfl
theorem zAz{m:Str}(h:m∈MK):10<=(cs ((getS SGN m).getD ⟨#[]⟩)).length/\(cs ((getS SGN m).getD ⟨#[]⟩)).length<=40:=by
 simp only[MK,List.mem_cons,List.not_mem_nil,or_false]at h
 rcases h with rfl|rfl|rfl|rfl<;>decide +kernel
theorem mZ:∀{ms:List Str},(∀m∈ms,m∈MK)->10*ms.length<=(cE (dW ms)).length/\(cE (dW ms)).length<=40*ms.length
 |[],_=>⟨Nat.le_refl _,Nat.le_refl _⟩
 |m::ms,h=>by
  have ih:=mZ λx hx=>h x (List.mem_cons_of_mem _ hx)
  have o:=zAz (h m (List.mem_cons_self ..))
  have e:(cE (dW (m::ms))).length=(cs ((getS SGN m).getD ⟨#[]⟩)).length+(cE (dW ms)).length:=by
   show(cE (_::dW ms)).length=_
   simp[cE]
  rw[e,List.length_cons]
  omega
def sQ:PSp:=λas R=>∃(t:Bool) (ms:List Str),as=[.va (.seq t (ms.map sT))]/\ms.length<=4/\(∀m∈ms,m∈MK)/\R (sT ⟨(cE (dW ms)).toArray⟩)
theorem C7_:bE ["marks"] ["marks"] (aL s7_):=fsc (by decide +kernel)
theorem g7_(h:Has K mg "signs_of" s7_)(B:Own mg)(GSIGNS:mE K w.params mg "SIGNS" SGN)  : PGood P w K mg base 1 "signs_of" ["marks"] sQ:=by
 have nd:=C7_.nd
 refine h.pgood C7_ (fun|_,_,_,_,_,_,[_],_=>rfl) (λf cdv A outer s H E F hr=>
   (aG (aQ (lH PySem.F.slot_str_join PySem.F.type_str_join zFC aU (aB (bB (gQ (sc:=aL s7_) (XN:=["marks"]) (N:=["mark"]) (fr:=[]) (bR (aA 0)) (λ_ _ _ _ _=>(vJ GSIGNS rfl (aA 0))))) aC))))) (λas R q=>?_)
 obtain⟨t,ms,rfl,l4,hm,q⟩:=q
 refine⟨rfl,rfl,by rw[List.length_map];omega,eX sT (λm=>sT ((getS SGN m).getD ⟨#[]⟩)) (λm hm' R q=>⟨m,_,rfl,zF6 (hm m hm'),q⟩) ⟨dW ms,rfl,?_,?_,q⟩⟩
 ·unfold dW;rw[List.map_map];rfl
 ·have:=(mZ hm).2;omega
def gF(lo hi:Int)(ms:List Str)(most:Int):Int:=tl 400 ((cE (dW ms)).length:Nat) lo hi most 0 1 0
def nB:PSp:=λas R=>∃(hd:Tv) (lo hi most:Int) (ms:List Str),as=[.va (.seq true [sT "make",hd,iT lo,iT hi,.seq true (ms.map sT)]),.va (iT most)]/\ms≠[]/\ms.length<=4/\(∀m∈ms,m∈MK)/\most<10 ^ 90/\R (iT (gF lo hi ms most))
theorem C8_:bE ["words","most"] ["words","most"] (aL s8_):=fsc (by decide +kernel)
theorem g8_(h:Has K mg "words_many" s8_)(B:Own mg)(G6_:PGood P w K mg base 1 "tails_many" ["signs","shortest","longest","most"] tZ)(G7_:PGood P w K mg base 1 "signs_of" ["marks"] sQ)   : PGood P w K mg base 2 "words_many" ["words","most"] nB:=by
 have nd:=C8_.nd
 refine h.pgood C8_ (fun|_,_,_,_,_,_,[_,_],_=>rfl) (λf cdv A outer s H E F hr=>
   (aE (aZ (bJ hr (aF hr (aA 0) aD) aU)
    (aG (aQ (aX (gC rfl) rfl B.min boot_min (aB (aX bP rfl B.len PySem.boot_len (aB (aF hr (aA 0) aD) aC)) (aB (aA 1) aC)))))
    bA)
   (aG (aQ (aH G6_ hr (aB (aH G7_ hr (aB (aF hr (aA 0) aD) aC)) (aB (aF hr (aA 0) aD) (aB (aF hr (aA 0) aD) (aB (aA 1) aC))))))))) (λas R q=>?_)
 obtain⟨hd,lo,hi,most,ms,rfl,n0,l4,hm,h9,q⟩:=q
 have sl:=mZ hm
 have p:0<ms.length:=List.length_pos_iff.mpr n0
 refine⟨rfl,_,rfl,_,rfl,cU (λe=>absurd e (by decide +kernel)) λ_=>⟨_,rfl,true,ms,rfl,l4,hm,_,rfl,_,rfl,⟨(cE (dW ms)).toArray⟩,lo,hi,most,rfl,?_,?_,h9,q⟩⟩
 ·show 2<=(cE (dW ms)).length;omega
 ·show(cE (dW ms)).length<=_;omega
end
end My
namespace My
open PySem L2 PyProof.Rows WordM
section
variable{P:Program}{w:World}{K:W.Frag}{mg:Str->Option Value}{base:Heap}
theorem sN{a b:Str}{A B:Prop}(h:a≠b)(k:B):if (false != eqV (.str a) (.str b))=true then A else B:=cU (λz=>absurd z h) λ_=>k
theorem sY{a:Str}{A B:Prop}(k:A):if (false != eqV (.str a) (.str a))=true then A else B:=cU (λ_=>k) λz=>absurd rfl z
theorem gZ(bs:List Bool):aO (.truths bs)=.seq true [sT "truths",.seq true (bs.map bT)]:=by rw[aO]
theorem mR:aO .nothing=.seq true [sT "nothing"]:=by rw[aO]
end
section
variable{P:Program}{w:World}{K:W.Frag}{mg:Str->Option Value}{base:Heap}
theorem hE{s t:UTs}{P:PEnds}{ρ:aR}{J:aR->Prop}(rest:∀ρ',J ρ'->t P ρ')(main:(∀ρ',J ρ'->t P ρ')->gV s t P ρ):gV s t P ρ:=main rest
def gM:PSp:=λ_ _=>False
abbrev Fd:=Str×Bool×List Pt
theorem zKs:bE ["one","other","run"] ["one","other"] (aL wO):=fsc (by decide +kernel)
theorem zKg(h:Has K mg "numbers_met" wO)(B:Own mg):PGood P w K mg base 1 "numbers_met" ["one","other"] gM:=h.pfalse zKs (fun|_,_,_,_,_,_,[_,_],_=>rfl) λas R h=>h
theorem zKr:bE ["one","other","words"] ["one","other"] (aL wN):=fsc (by decide +kernel)
theorem zKf(h:Has K mg "texts_met" wN)(B:Own mg):PGood P w K mg base 1 "texts_met" ["one","other"] gM:=h.pfalse zKr (fun|_,_,_,_,_,_,[_,_],_=>rfl) λas R h=>h
def trM(bs cs:List Bool):Option Pt:=if (bs.filter λb=>decide (b∈cs))=[] then none else some (.truths (bs.filter λb=>decide (b∈cs)))
def nW:PSp:=λas R=>∃bs cs:List Bool,as=[.va (aO (.truths bs)),.va (aO (.truths cs))]/\bs.length<=2/\R (fD (trM bs cs))
theorem zD2{b:Bool}{bs:List Bool}:oO (bT b) (bs.map bT):=⟨trivial,λU hU=>by
 obtain⟨c,_,rfl⟩:=List.mem_map.mp hU
 trivial⟩
theorem zGh{b:Bool}{cs:List Bool}:(false != (cs.map bT).any λk=>L2.eqT k (bT b))=decide (b∈cs):=by
 induction cs with
 |nil=>rfl
 |cons c cs ih=>
  rw[List.map_cons,List.any_cons]
  cases h:(cs.map bT).any λk=>L2.eqT k (bT b) with
  |true=>
   rw[h]at ih
   have:b∈cs:=by simpa using ih.symm
   simp[this]
  |false=>
   rw[h]at ih
   have:b∉cs:=by simpa using ih.symm
   cases b<;>cases c<;>simp[this,L2.eqT,eqV]
theorem zAY{p:Bool->Bool}:∀l:List Bool,(l.filterMap λm=>if p m=true then some (bT m) else none)=(l.filter p).map bT
 |[]=>rfl
 |x::l=>by rw[List.filterMap_cons,List.filter_cons,zAY l];cases p x<;>simp
theorem C11_:bE ["one","other","truths"] ["one","other"] (aL rM):=fsc (by decide +kernel)
theorem zKh(h:Has K mg "truths_met" rM)(B:Own mg)    : PGood P w K mg base 1 "truths_met" ["one","other"] nW:=by
 have nd:=C11_.nd
 refine h.pgood C11_ (fun|_,_,_,_,_,_,[_,_],_=>rfl) (λf cdv A outer s H E F hr=>
   (aE (aI 2 nd (dI dJ rfl B.tuple_ boot_tuple (aB (bB (dR (sc:=aL rM) (XN:=["one","other","truths"]) (N:=["truth","other"]) (fr:=[1]) (bR (aF hr (aA 0) aD)) (λ_ _ _ _ _=>(cQ (bX (eV hr.units) (aA 0) (aF hr (aA 1) aD) rfl))) (λ_ _ _ _ _=>(aA 0)))) aC)))
   (aG (aQ (hG (bJ hr (aA 2) (aT aC)) cZ (aT (aB aU (aB (aA 2) aC)))))))) (λas R q=>?_)
 obtain⟨bs,cs,rfl,bl,q⟩:=q
 rw[gZ,gZ]
 refine⟨rfl,_,aJ (j:=1) rfl,by rw[List.length_map];omega,cP bT (λb=>if decide (b∈cs)=true then some (bT b) else none) (λb hb R q=>⟨_,aJ (j:=1) rfl,zD2,_,rfl,?_⟩) ?_⟩
 ·show if (false != (cs.map bT).any λk=>L2.eqT k (bT b))=true then _ else _
  rw[zGh]
  cases z:decide (b∈cs) with
  |true=>rw[if_pos z]at q;exact bH q
  |false=>rw[if_neg (by rw[z];exact Bool.false_ne_true)]at q;exact aV q
 rw[zAY]
 unfold trM at q
 generalize (bs.filter λb=>decide (b∈cs))=L at q
 refine⟨false,_,rfl,by simp,.inr (.inl rfl),_,rfl,?_⟩
 cases L with
 |nil=>exact bH q
 |cons b l=>
  have q:R (aO (.truths (b::l))):=q
  rw[gZ]at q
  exact aV ⟨by simp,q⟩
def kN6:List Nat:=[0,1,2,3,4,5]
def bZ(f:List Pt)(k:Nat):Option Pt:=f.find? λp=>decide (dY p=k)
def fT(mp:Pt->Pt->Option Pt):Option Pt->Option Pt->Option Pt
 |some p,some q=>mp p q
 |_,_=>none
def mF(mp:Pt->Pt->Option Pt)(f g:List Pt):List Pt:=kN6.filterMap λk=>fT mp (bZ f k) (bZ g k)
variable{mp:Pt->Pt->Option Pt}{ok:Pt->Prop}{lv:Nat}
def wS(mp:Pt->Pt->Option Pt)(ok:Pt->Prop):PSp:=λas R=>∃p q:Pt,as=[.va (aO p),.va (aO q)]/\ok p/\ok q/\dY p=dY q/\R (fD (mp p q))
def zIt(mp:Pt->Pt->Option Pt)(ok:Pt->Prop):PSp:=λas R=>∃f g:List Pt,as=[.va (bC f),.va (bC g)]/\(∀p∈f,ok p)/\(∀p∈g,ok p)/\R (bC (mF mp f g))
def KNS:List Str:=["nothing","truth","number","text","list","dict"]
theorem C21_:bE ["one","other","parts","kind","both","found"] ["one","other"] (aL mK):=fsc (by decide +kernel)
theorem zCf(h:Has K mg "met" mK)(B:Own mg)(G10_:PGood P w K mg base 2 "part_for" ["form","kind"] mT)(G20_:PGood P w K mg base (lv+3) "parts_met" ["one","other"] (wS mp ok))(GKINDS:jH K mg "KINDS" (.seq true (kN6.map λk=>sT (fA k))))  : PGood P w K mg base (lv+4) "met" ["one","other"] (zIt mp ok):=by
 have nd:=C21_.nd
 refine h.pgood C21_ (fun|_,_,_,_,_,_,[_,_],_=>rfl) (λf cdv A outer s H E F hr=>
   (aE (jI 2 nd (cA aC))
   (aE (eY (m:=6) PassesOwn.never rfl (bR (zBI GKINDS rfl)) (bY 3 (by decide) nd rfl (.inl rfl))
    (aE (jT (sc:=aL mK) (XN:=["one","other","parts","kind","both","found"]) (N:=["part"]) (fr:=[]) 4 nd (bR (bB (cA (aB (aH G10_ hr (aB (aA 0) (aB (aA 3) aC))) (aB (aH G10_ hr (aB (aA 1) (aB (aA 3) aC))) aC))))) (λ_ _ _ _ _=>(cQ (bX tI (aA 0) cZ))) (λ_ _ _ _ _=>(aA 0)))
    (aE (aI 5 nd (hG (bJ hr (aX bP rfl B.len PySem.boot_len (aB (aA 4) aC)) aD) (aH G20_ hr (aB (aF hr (aA 4) aD) (aB (aF hr (aA 4) aD) aC))) cZ))
    (aG (aZ (bX tI (aA 5) cZ)
     (aG (kX (kJ 2 (aA 5))))
     bA)))))
   (aG (aQ (dI dJ rfl B.tuple_ boot_tuple (aB (aA 2) aC))))))) (λas R q=>?_)
 obtain⟨f,g,rfl,hf,hg,q⟩:=q
 refine⟨rfl,by simp,?_⟩
 show PEnds.nx _ _
 refine nxE (ρ':=[.va (bC f),.va (bC g),.own [],.no,.no,.no]) rfl ?_
 refine gJ (λi ρ=>∃(L:List Pt) (s1 s2 s3:Sl),L=((kN6.take i).filterMap λk=>fT mp (bZ f k) (bZ g k))/\ρ=[.va (bC f),.va (bC g),.own (L.map aO),s1,s2,s3]) ⟨[],.no,.no,.no,rfl,rfl⟩ ?_ ?_
 ·rintro i T _ N hT ⟨L,s1,s2,s3,eL,rfl⟩ hN
  have hT:(kN6.map λk=>sT (fA k))[i]?=some T:=hT
  rw[List.getElem?_map,Option.map_eq_some_iff]at hT
  obtain⟨k,hk,rfl⟩:=hT
  have hk6:k<=5:=by
   have:=List.mem_of_getElem? hk
   simp only[kN6,List.mem_cons,List.not_mem_nil,or_false]at this
   omega
  have hi:i<6:=(List.getElem?_eq_some_iff.mp hk).1
  have et:(kN6.take (i+1)).filterMap (λk=>fT mp (bZ f k) (bZ g k))=(kN6.take i).filterMap (λk=>fT mp (bZ f k) (bZ g k))++(fT mp (bZ f k) (bZ g k)).toList:=by
   rw[List.take_add_one,List.filterMap_append,hk]
   cases e:fT mp (bZ f k) (bZ g k)<;>simp[e]
  have ll:((kN6.take i).filterMap λk=>fT mp (bZ f k) (bZ g k)).length<=6:=by
   refine Nat.le_trans (List.length_filterMap_le _ _) ?_
   rw[List.length_take];omega
  rw[<-eL]at et ll
  refine⟨f,k,rfl,hk6,g,k,rfl,hk6,by simp,by simp,?_⟩
  refine cP fD (λo=>o.map aO) (l:=[bZ f k,bZ g k]) (λo ho R q=>?_) ?_
  ·cases o with
   |none=>exact⟨_,rfl,aV q⟩
   |some p=>
    obtain⟨r,e,_⟩:=tQ p
    have q:R (some (aO p)) _:=q
    rw[e]at q
    rw[show fD (some p)=.seq true (sT (iJ p)::r) from e]
    exact⟨_,rfl,bH q⟩
  have sk:∀s4 s5,fT mp (bZ f k) (bZ g k)=none->N [.va (bC f),.va (bC g),.own (L.map aO),.va (sT (fA k)),s4,s5]:=λs4 s5 e=>hN _ ⟨L,.va (sT (fA k)),s4,s5,by rw[et,e];simp,rfl⟩
  have kf:∀p,bZ f k=some p->ok p/\dY p=k:=λp e=>⟨hf p (List.mem_of_find?_eq_some e),by simpa using List.find?_some e⟩
  have kg:∀p,bZ g k=some p->ok p/\dY p=k:=λp e=>⟨hg p (List.mem_of_find?_eq_some e),by simpa using List.find?_some e⟩
  cases ef:bZ f k with
  |none=>
   rw[ef]at sk
   cases eg:bZ g k with
   |none=>exact⟨_,rfl,eB (λz=>absurd z (by decide)) (λ_=>⟨_,rfl,aV (sk _ _ rfl)⟩)⟩
   |some p=>exact⟨_,rfl,eB (λz=>absurd z (show ¬ ((1:Nat):Int)=2 by decide)) (λ_=>⟨_,rfl,aV (sk _ _ rfl)⟩)⟩
  |some p=>
   rw[ef]at sk et
   cases eg:bZ g k with
   |none=>exact⟨_,rfl,eB (λz=>absurd z (show ¬ ((1:Nat):Int)=2 by decide)) (λ_=>⟨_,rfl,aV (sk _ _ (by rw[eg];rfl))⟩)⟩
   |some q'=>
    rw[eg]at sk et
    obtain⟨h1,k1⟩:=kf p ef
    obtain⟨h2,k2⟩:=kg q' eg
    refine⟨_,rfl,eB (λ_=>⟨_,at0,_,aJ (j:=1) rfl,p,q',rfl,h1,h2,k1.trans k2.symm,?_⟩) (λz=>absurd rfl z)⟩
    cases em:mp p q' with
    |none=>exact⟨_,rfl,aV (sk _ _ em)⟩
    |some r=>
     have et:(kN6.take (i+1)).filterMap (λk=>fT mp (bZ f k) (bZ g k))=L++[r]:=by rw[et];show L++(mp p q').toList=_;rw[em];rfl
     obtain⟨t,e,_⟩:=tQ r
     have fin:=hN [.va (bC f),.va (bC g),.own (L.map aO++[aO r]),.va (sT (fA k)),.va (.seq false [aO p,aO q']),.va (aO r)] ⟨L++[r],_,_,_,et.symm,by rw[List.map_append];rfl⟩
     rw[e]at fin
     rw[show fD (some r)=.seq true (sT (iJ r)::t) from e]
     exact⟨_,rfl,bH ⟨⟨_,rfl⟩,_,rfl,by rw[List.length_map];omega,fin⟩⟩
 ·rintro _ ⟨L,s1,s2,s3,eL,rfl⟩
  have eL:L=mF mp f g:=eL
  subst eL
  exact⟨false,_,rfl,q⟩
end
end My
namespace My
open PySem L2 PyProof.Rows WordM
section
variable{P:Program}{w:World}{K:W.Frag}{mg:Str->Option Value}{base:Heap}
variable{mf:List Pt->List Pt->List Pt}{okf:Pt->Prop}{lv:Nat}
def iQ(mf:List Pt->List Pt->List Pt)(okf:Pt->Prop):PSp:=λas R=>∃f g:List Pt,as=[.va (bC f),.va (bC g)]/\(∀p∈f,okf p)/\(∀p∈g,okf p)/\R (bC (mf f g))
def liO(mf:List Pt->List Pt->List Pt)(a b:Int)(f:List Pt)(a' b':Int)(g:List Pt):Option Pt:=if (if (mf f g).isEmpty=true then 0 else min b b')<max a a' then none else some (.lists (max a a') (if (mf f g).isEmpty=true then 0 else min b b') (mf f g))
def zCa(mf:List Pt->List Pt->List Pt)(okf:Pt->Prop):PSp:=λas R=>∃(a b:Int) (f:List Pt) (a' b':Int) (g:List Pt),as=[.va (aO (.lists a b f)),.va (aO (.lists a' b' g))]/\(∀p∈f,okf p)/\(∀p∈g,okf p)/\R (fD (liO mf a b f a' b' g))
theorem mM(h:List Pt):(false != (true&&bK (h.map aO) []))=h.isEmpty:=by
 cases h with
 |nil=>simp[bK]
 |cons x xs=>simp[bK]
theorem C14_:bE ["one","other","form","least","most"] ["one","other"] (aL oH):=fsc (by decide +kernel)
theorem zKe(h:Has K mg "lists_met" oH)(B:Own mg)(G21_:PGood P w K mg base lv "met" ["one","other"] (iQ mf okf))   : PGood P w K mg base (lv+1) "lists_met" ["one","other"] (zCa mf okf):=by
 have nd:=C14_.nd
 refine h.pgood C14_ (fun|_,_,_,_,_,_,[_,_],_=>rfl) (λf cdv A outer s H E F hr=>
   (aE (aI 2 nd (aH G21_ hr (aB (aF hr (aA 0) aD) (aB (aF hr (aA 1) aD) aC))))
   (aE (aI 3 nd (aX (fM rfl) rfl B.max boot_max (aB (aF hr (aA 0) aD) (aB (aF hr (aA 1) aD) aC))))
   (aE (aI 4 nd (hG (bJ hr (aA 2) (aT aC)) aD (aX (gC rfl) rfl B.min boot_min (aB (aF hr (aA 0) aD) (aB (aF hr (aA 1) aD) aC)))))
   (aG (aQ (hG (bX jF (aA 3) (aA 4)) cZ (aT (aB aU (aB (aA 3) (aB (aA 4) (aB (aA 2) aC)))))))))))) (λas R q=>?_)
 obtain⟨a,b,f,a',b',g,rfl,hf,hg,q⟩:=q
 rw[iZ,iZ]
 refine⟨rfl,_,aJ (j:=3) rfl,_,aJ (j:=3) rfl,f,g,rfl,hf,hg,?_⟩
 refine⟨_,aJ (j:=1) rfl,_,aJ (j:=1) rfl,.inl ⟨_,_,rfl,?_⟩⟩
 have q:R (fD (if (if (mf f g).isEmpty=true then 0 else min b b')<max a a' then none else some (.lists (max a a') (if (mf f g).isEmpty=true then 0 else min b b') (mf f g)))):=q
 show PEnds.nx _ _
 refine nxE (ρ':=[.va (.seq true [sT "lists",iT a,iT b,bC f]),.va (.seq true [sT "lists",iT a',iT b',bC g]),.va (bC (mf f g)),.va (iT (max a a')),.no]) rfl ?_
 dsimp only
 refine hE (J:=λρ'=>ρ'=[.va (.seq true [sT "lists",iT a,iT b,bC f]),.va (.seq true [sT "lists",iT a',iT b',bC g]),.va (bC (mf f g)),.va (iT (max a a')),.va (iT (if (mf f g).isEmpty=true then 0 else min b b'))]) ?rest (λrest=>?main)
 case rest=>
  rintro _ rfl
  generalize (if (mf f g).isEmpty=true then 0 else min b b')=mo at q
  refine⟨_,rfl,cJ (λz=>?_) (λz=>?_)⟩
  ·rw[if_pos z]at q;exact q
  ·rw[if_neg z]at q
   have q:R (aO _):=q
   rw[iZ]at q
   exact⟨by simp,q⟩
 case main=>
  refine⟨by simp,.inr (.inl rfl),_,rfl,?_⟩
  show if (false != (true&&bK ((mf f g).map aO) []))=true then _ else _
  rw[mM]
  cases z:(mf f g).isEmpty with
  |true=>
   rw[z]at rest
   exact bH (rest _ rfl)
  |false=>
   rw[z]at rest
   exact aV ⟨_,aJ (j:=2) rfl,_,aJ (j:=2) rfl,.inl ⟨_,_,rfl,rest _ rfl⟩⟩
def fa(fs:List Fd)(n:Str):Fd:=(fs.find? λx=>decide (x.1=n)).getD (n,false,[])
def mQ:Pt->Prop
 |.record _ _ _=>True
 |.table _ _ w _=>bL w
 |_=>False
def loP:Pt->Int
 |.record a _ _=>a
 |.table a _ _ _=>a
 |_=>0
def hiP:Pt->Int
 |.record _ b _=>b
 |.table _ b _ _=>b
 |_=>0
def faP:Pt->Str->Fd
 |.record _ _ fs,n=>fa fs n
 |.table _ _ w f,n=>(n,false,if bS w n=true then f else [])
 |_,n=>(n,false,[])
def okD(okf:Pt->Prop):Pt->Prop
 |.record _ _ fs=>∀x∈fs,∀p∈x.2.2,okf p
 |.table _ _ _ f=>∀p∈f,okf p
 |_=>True
def kC(n:Str):Prop:=Sg n/\n.length<=1000
theorem zBB{p:Pt}(h:mQ p):∃r,aO p=.seq true (sT (iJ p)::iT (loP p)::iT (hiP p)::r):=by
 cases p with
 |record a b fs=>exact⟨_,cW a b fs⟩
 |table a b w f=>exact⟨_,cL a b w f⟩
 |_=>exact False.elim h
def oJ:PSp:=λas R=>∃(p:Pt) (n:Str),as=[.va (aO p),.va (sT n)]/\mQ p/\kC n/\R (bO (faP p n))
theorem C15_:bE ["part","name","field"] ["part","name"] (aL wM):=fsc (by decide +kernel)
theorem zKd(h:Has K mg "field_at" wM)(B:Own mg)(G2_:PGood P w K mg base 3 "words_let" ["words","text"] iY)   : PGood P w K mg base 4 "field_at" ["part","name"] oJ:=by
 have nd:=C15_.nd
 refine h.pgood C15_ (fun|_,_,_,_,_,_,[_,_],_=>rfl) (λf cdv A outer s H E F hr=>
   (aE (aZ (bJ hr (aF hr (aA 0) aD) aU)
    (aG (aQ (aT (aB (aA 1) (aB eZ (aB (hG (cM (aH G2_ hr (aB (aF hr (aA 0) aD) (aB (aA 1) aC)))) (aF hr (aA 0) aD) (aT aC)) aC))))))
    bA)
   (aE (eY (m:=3) PassesOwn.never rfl (bR (aF hr (aA 0) aD)) (bY 2 (by decide) nd rfl (.inl rfl))
    (aG (aZ (bJ hr (aF hr (aA 2) aD) (aA 1))
     (aG (aQ (aA 2)))
     bA)))
   (aG (aQ (aT (aB (aA 1) (aB eZ (aB (aT aC) aC))))))))) (λas R q=>?_)
 obtain⟨p,n,rfl,hp,hn,q⟩:=q
 cases p with
 |table a b w f=>
  rw[cL]
  refine⟨rfl,_,at0,_,rfl,sY ?_⟩
  have q:R (bO (n,false,if bS w n=true then f else [])):=q
  refine⟨_,aJ (j:=3) rfl,w,n,rfl,hp,hn.1,hn.2,_,rfl,sif (λz=>?_) (λz=>?_)⟩
  ·rw[if_pos z]at q
   exact⟨_,aJ (j:=4) rfl,by simp,q⟩
  ·rw[if_neg (by rw[z];exact Bool.false_ne_true)]at q
   exact⟨by simp,by simp,q⟩
 |record a b fs=>
  rw[cW]
  have q:R (bO (fa fs n)):=q
  refine⟨rfl,_,at0,_,rfl,sN (by decide +kernel) ⟨_,aJ (j:=3) rfl,?_⟩⟩
  refine nC bO (l:=fs) (λi ρ=>(∀j x,j<i->fs[j]?=some x->x.1≠n)/\∃s,ρ=[.va (.seq true [sT "record",iT a,iT b,.seq true (fs.map bO)]),.va (sT n),s]) ⟨λj x h=>absurd h (Nat.not_lt_zero _),.no,rfl⟩ ?_ ?_
  ·rintro i x _ N hx ⟨hj,s,rfl⟩ hN
   refine⟨_,at0,_,rfl,cU (λe=>?_) (λe=>?_)⟩
   ·have:fs.find? (λx=>decide (x.1=n))=some x:=by
     rw[List.find?_eq_some_iff_getElem]
     obtain⟨hi,rfl⟩:=List.getElem?_eq_some_iff.mp hx
     exact⟨decide_eq_true e,i,hi,rfl,λj hj'=>by
      have:=hj j fs[j] hj' (List.getElem?_eq_getElem (by omega))
      simpa using this⟩
    unfold fa at q
    rw[this]at q
    exact q
   ·refine hN _ ⟨λj y hj' ey=>?_,_,rfl⟩
    by_cases z:j=i
    ·subst z;rw[hx]at ey;cases ey;exact e
    ·exact hj j y (by omega) ey
  ·rintro _ ⟨hj,s,rfl⟩
   have:fs.find? (λx=>decide (x.1=n))=none:=by
    rw[List.find?_eq_none]
    intro x hx
    obtain⟨j,hj',rfl⟩:=List.mem_iff_getElem.mp hx
    simpa using hj j _ hj' (List.getElem?_eq_getElem hj')
   unfold fa at q
   rw[this]at q
   exact⟨by simp,by simp,q⟩
 |_=>exact False.elim hp
theorem zHL(fs:List Fd):(fs.filterMap λx=>if x.2.1=true then some (bO x) else none)=(fs.filter λx=>x.2.1).map bO:=by
 induction fs with
 |nil=>rfl
 |cons x fs ih=>
  rw[List.filterMap_cons,List.filter_cons]
  cases h:x.2.1 with
  |true=>simp[h,ih]
  |false=>simp[h,ih]
def muF(F:List Fd):List Fd:=F.filter λx=>x.2.1
def reO(l m:Int)(F:List Fd):Option Pt:=
 if min m (F.length:Nat)<max l ((muF F).length:Nat) then none
 else if min m (F.length:Nat)=((muF F).length:Nat) then some (.record (max l ((muF F).length:Nat)) (min m (F.length:Nat)) (muF F))
 else if max l ((muF F).length:Nat)=(F.length:Nat) then some (.record (max l ((muF F).length:Nat)) (min m (F.length:Nat)) (F.map λx=>(x.1,true,x.2.2)))
 else some (.record (max l ((muF F).length:Nat)) (min m (F.length:Nat)) F)
def oI:PSp:=λas R=>∃(l m:Int) (F:List Fd),as=[.va (iT l),.va (iT m),.va (.seq false (F.map bO))]/\F.length<=100/\R (fD (reO l m F))
theorem C16_:bE ["least","most","fields","musts","fewest","greatest"] ["least","most","fields"] (aL oG):=fsc (by decide +kernel)
theorem zKc(h:Has K mg "record_of" oG)(B:Own mg)    : PGood P w K mg base 1 "record_of" ["least","most","fields"] oI:=by
 have nd:=C16_.nd
 refine h.pgood C16_ (fun|_,_,_,_,_,_,[_,_,_],_=>rfl) (λf cdv A outer s H E F hr=>
   (aE (jT (sc:=aL oG) (XN:=["least","most","fields","musts","fewest","greatest"]) (N:=["field"]) (fr:=[]) 3 nd (bR (aA 2)) (λ_ _ _ _ _=>(cQ (cM (aF hr (aA 0) aD)))) (λ_ _ _ _ _=>(aA 0)))
   (aE (aI 4 nd (aX (fM rfl) rfl B.max boot_max (aB (aA 0) (aB (aX bP rfl B.len PySem.boot_len (aB (aA 3) aC)) aC))))
   (aE (aI 5 nd (aX (gC rfl) rfl B.min boot_min (aB (aA 1) (aB (aX bP rfl B.len PySem.boot_len (aB (aA 2) aC)) aC))))
   (aE (aZ (bX jF (aA 4) (aA 5))
    (aG (aQ cZ))
    bA)
   (aE (aZ (bJ hr (aA 5) (aX bP rfl B.len PySem.boot_len (aB (aA 3) aC)))
    (aG (aQ (aT (aB aU (aB (aA 4) (aB (aA 5) (aB (dI dJ rfl B.tuple_ boot_tuple (aB (aA 3) aC)) aC)))))))
    bA)
   (aE (aZ (bJ hr (aA 4) (aX bP rfl B.len PySem.boot_len (aB (aA 2) aC)))
    (aG (aQ (aT (aB aU (aB (aA 4) (aB (aA 5) (aB (dI dJ rfl B.tuple_ boot_tuple (aB (bB (gQ (sc:=aL oG) (XN:=["least","most","fields","musts","fewest","greatest"]) (N:=["field"]) (fr:=[]) (bR (aA 2)) (λ_ _ _ _ _=>(aT (aB (aF hr (aA 0) aD) (aB eZ (aB (aF hr (aA 0) aD) aC))))))) aC)) aC)))))))
    bA)
   (aG (aQ (aT (aB aU (aB (aA 4) (aB (aA 5) (aB (dI dJ rfl B.tuple_ boot_tuple (aB (aA 2) aC)) aC)))))))))))))) (λas R q=>?_)
 obtain⟨l,m,F,rfl,lF,q⟩:=q
 have em:(F.filterMap λx=>if x.2.1=true then some (bO x) else none)=(muF F).map bO:=by
  exact zHL F
 refine⟨rfl,by rw[List.length_map];omega,cP bO (λx=>if x.2.1=true then some (bO x) else none) (λx hx R q=>⟨_,aJ (j:=1) rfl,_,rfl,sif (λz=>?_) (λz=>?_)⟩) ?_⟩
 ·rw[if_pos z]at q;exact q
 ·rw[if_neg (by rw[z];exact Bool.false_ne_true)]at q;exact q
 rw[em]
 show PEnds.nx _ _
 refine nxE (ρ':=[.va (iT l),.va (iT m),.va (.seq false (F.map bO)),.va (.seq false ((muF F).map bO)),.no,.no]) rfl ?_
 refine .inl ⟨_,_,rfl,.inl ⟨_,_,rfl,?_⟩⟩
 show PEnds.nx _ _
 rw[List.length_map,List.length_map]
 refine nxE (ρ':=[.va (iT l),.va (iT m),.va (.seq false (F.map bO)),.va (.seq false ((muF F).map bO)),.va (iT (max l ((muF F).length:Nat))),.va (iT (min m (F.length:Nat)))]) rfl ?_
 unfold reO at q
 refine⟨_,rfl,cJ (λz=>?_) (λz=>⟨_,rfl,eB (λz1=>?_) (λz1=>⟨_,rfl,eB (λz2=>?_) (λz2=>?_)⟩)⟩)⟩
 ·rw[if_pos z]at q;exact q
 ·rw[List.length_map]at z1
  rw[if_neg z,if_pos z1]at q
  have q:R (aO _):=q
  rw[cW]at q
  exact⟨_,_,rfl,by simp,q⟩
 ·rw[List.length_map]at z1 z2
  rw[if_neg z,if_neg z1,if_pos z2]at q
  have q:R (aO _):=q
  rw[cW,List.map_map]at q
  exact⟨by rw[List.length_map];omega,eX bO (λx=>bO (x.1,true,x.2.2)) (λx hx R q=>⟨_,at0,_,aJ (j:=2) rfl,by simp,q⟩) ⟨_,_,rfl,by simp,q⟩⟩
 ·rw[List.length_map]at z1 z2
  rw[if_neg z,if_neg z1,if_neg z2]at q
  have q:R (aO _):=q
  rw[cW]at q
  exact⟨_,_,rfl,by simp,q⟩
def bad(mf:List Pt->List Pt->List Pt)(p1 p2:Pt)(n:Str):Bool:=(mf (faP p1 n).2.2 (faP p2 n).2.2).isEmpty&&((faP p1 n).2.1 || (faP p2 n).2.1)
def eD(mf:List Pt->List Pt->List Pt)(p1 p2:Pt)(n:Str):Option Fd:=if (mf (faP p1 n).2.2 (faP p2 n).2.2).isEmpty=true then none else some (n,((faP p1 n).2.1 || (faP p2 n).2.1),mf (faP p1 n).2.2 (faP p2 n).2.2)
def nmO(mf:List Pt->List Pt->List Pt)(p1 p2:Pt)(ns:List Str):Option Pt:=if ns.any (bad mf p1 p2)=true then none else reO (max (loP p1) (loP p2)) (min (hiP p1) (hiP p2)) (ns.filterMap (eD mf p1 p2))
def rN(mf:List Pt->List Pt->List Pt)(okf:Pt->Prop):PSp:=λas R=>∃(p1 p2:Pt) (ns:List Str),as=[.va (aO p1),.va (aO p2),.va (.seq false (ns.map sT))]/\ns.length<=100/\(∀n∈ns,kC n)/\mQ p1/\mQ p2/\okD okf p1/\okD okf p2/\R (fD (nmO mf p1 p2 ns))
theorem zIS{fs:List Fd}(h:∀x∈fs,∀p∈x.2.2,okf p)(n:Str):∀p∈(fa fs n).2.2,okf p:=by
 unfold fa
 cases e:fs.find? λx=>decide (x.1=n) with
 |none=>exact λp hp=>nomatch hp
 |some x=>exact h x (List.mem_of_find?_eq_some e)
theorem zBz{p1:Pt}(h:okD okf p1)(n:Str):∀p∈(faP p1 n).2.2,okf p:=by
 cases p1 with
 |record a b fs=>exact zIS h n
 |table a b w f=>
  intro p hp
  have hp:p∈(if bS w n=true then f else []):=hp
  split at hp
  ·exact h p hp
  ·exact nomatch hp
 |_=>exact λp hp=>nomatch hp
theorem C17_:bE ["one","other","names","fields","name","first","second","form","must"] ["one","other","names"] (aL oF):=fsc (by decide +kernel)
theorem zKb(h:Has K mg "named_met" oF)(B:Own mg)(G15_:PGood P w K mg base 4 "field_at" ["part","name"] oJ)(G21_:PGood P w K mg base (lv+4) "met" ["one","other"] (iQ mf okf))(G16_:PGood P w K mg base 1 "record_of" ["least","most","fields"] oI)   : PGood P w K mg base (lv+5) "named_met" ["one","other","names"] (rN mf okf):=by
 have nd:=C17_.nd
 refine h.pgood C17_ (fun|_,_,_,_,_,_,[_,_,_],_=>rfl) (λf cdv A outer s H E F hr=>
   (aE (jI 3 nd (cA aC))
   (aE (eY (m:=9) PassesOwn.never rfl (bR (aA 2)) (bY 4 (by decide) nd rfl (.inl rfl))
    (aE (aI 5 nd (aH G15_ hr (aB (aA 0) (aB (aA 4) aC))))
    (aE (aI 6 nd (aH G15_ hr (aB (aA 1) (aB (aA 4) aC))))
    (aE (aI 7 nd (aH G21_ hr (aB (aF hr (aA 5) aD) (aB (aF hr (aA 6) aD) aC))))
    (aE (aI 8 nd (zHX (aF hr (aA 5) aD) (lG (aF hr (aA 6) aD))))
    (aE (aZ (dZ (lE (bJ hr (aA 7) (aT aC)) (kW (cM (aA 8)))))
     (aG (aQ cZ))
     bA)
    (aG (aZ (iM hr (aA 7) (aT aC))
     (aG (kX (kJ 3 (aT (aB (aA 4) (aB (aA 8) (aB (aA 7) aC)))))))
     bA))))))))
   (aG (aQ (aH G16_ hr (aB (aX (fM rfl) rfl B.max boot_max (aB (aF hr (aA 0) aD) (aB (aF hr (aA 1) aD) aC))) (aB (aX (gC rfl) rfl B.min boot_min (aB (aF hr (aA 0) aD) (aB (aF hr (aA 1) aD) aC))) (aB (aA 3) aC))))))))) (λas R q=>?_)
 obtain⟨p1,p2,ns,rfl,ln,hns,d1,d2,hf,hg,q⟩:=q
 obtain⟨r1,E1⟩:=zBB d1
 obtain⟨r2,E2⟩:=zBB d2
 have e1:∀n,[Ar.va (.seq true (sT (iJ p1)::iT (loP p1)::iT (hiP p1)::r1)),.va (sT n)]=[.va (aO p1),.va (sT n)]:=λn=>by rw[E1]
 have e2:∀n,[Ar.va (.seq true (sT (iJ p2)::iT (loP p2)::iT (hiP p2)::r2)),.va (sT n)]=[.va (aO p2),.va (sT n)]:=λn=>by rw[E2]
 rw[E1,E2]
 let T1:Tv:=.seq true (sT (iJ p1)::iT (loP p1)::iT (hiP p1)::r1)
 let T2:Tv:=.seq true (sT (iJ p2)::iT (loP p2)::iT (hiP p2)::r2)
 refine⟨rfl,by simp,?_⟩
 refine nC sT (l:=ns) (λi ρ=>(∀j n,j<i->ns[j]?=some n->bad mf p1 p2 n=false)/\∃s4 s5 s6 s7 s8:Sl,ρ=[.va T1,.va T2,.va (.seq false (ns.map sT)),.own (((ns.take i).filterMap (eD mf p1 p2)).map bO),s4,s5,s6,s7,s8]) ⟨λj x h=>absurd h (Nat.not_lt_zero _),.no,.no,.no,.no,.no,rfl⟩ ?_ ?_
 ·rintro i n _ N hn ⟨hj,s4,s5,s6,s7,s8,rfl⟩ hN
  have et:(ns.take (i+1)).filterMap (eD mf p1 p2)=(ns.take i).filterMap (eD mf p1 p2)++(eD mf p1 p2 n).toList:=by
   rw[List.take_add_one,List.filterMap_append,hn]
   cases e:eD mf p1 p2 n<;>simp[e]
  have lt:((ns.take i).filterMap (eD mf p1 p2)).length<=100:=Nat.le_trans (List.length_filterMap_le _ _) (by rw[List.length_take];omega)
  have hnm:=hns n (List.mem_of_getElem? hn)
  refine⟨p1,n,e1 n,d1,hnm,p2,n,e2 n,d2,hnm,?_⟩
  show PEnds.nx _ _
  refine nxE (ρ':=[.va T1,.va T2,.va (.seq false (ns.map sT)),.own (((ns.take i).filterMap (eD mf p1 p2)).map bO),.va (sT n),.va (bO (faP p1 n)),.va (bO (faP p2 n)),s7,s8]) rfl ?_
  refine⟨_,aJ (j:=2) rfl,_,aJ (j:=2) rfl,(faP p1 n).2.2,(faP p2 n).2.2,rfl,zBz hf n,zBz hg n,?_⟩
  generalize hL:(ns.take i).filterMap (eD mf p1 p2)=L at lt et
  generalize hh:mf (faP p1 n).2.2 (faP p2 n).2.2=h
  show PEnds.nx _ _
  refine nxE (ρ':=[.va T1,.va T2,.va (.seq false (ns.map sT)),.own (L.map bO),.va (sT n),.va (bO (faP p1 n)),.va (bO (faP p2 n)),.va (bC h),s8]) rfl ?_
  dsimp only
  refine hE (J:=λρ'=>ρ'=[.va T1,.va T2,.va (.seq false (ns.map sT)),.own (L.map bO),.va (sT n),.va (bO (faP p1 n)),.va (bO (faP p2 n)),.va (bC h),.va (bT ((faP p1 n).2.1 || (faP p2 n).2.1))]) ?rest (λrest=>?main)
  case main=>
   refine⟨_,aJ (j:=1) rfl,_,rfl,?_⟩
   cases e:(faP p1 n).2.1 with
   |true=>rw[e]at rest;exact bH (rest _ rfl)
   |false=>rw[e]at rest;exact aV ⟨_,aJ (j:=1) rfl,rest _ rfl⟩
  case rest=>
   rintro _ rfl
   have nxt:∀s4 s5 s6 s7 s8,bad mf p1 p2 n=false->N [.va T1,.va T2,.va (.seq false (ns.map sT)),.own ((L++(eD mf p1 p2 n).toList).map bO),s4,s5,s6,s7,s8]:=λs4 s5 s6 s7 s8 hb=>hN _ ⟨λj x hj' ex=>by
    by_cases z:j=i
    ·subst z;rw[hn]at ex;cases ex;exact hb
    ·exact hj j x (by omega) ex,s4,s5,s6,s7,s8,by rw[et]⟩
   have ebad:bad mf p1 p2 n=(h.isEmpty&&((faP p1 n).2.1 || (faP p2 n).2.1)):=by unfold bad;rw[hh]
   have erow:eD mf p1 p2 n=if h.isEmpty=true then none else some (n,((faP p1 n).2.1 || (faP p2 n).2.1),h):=by unfold eD;rw[hh]
   generalize ((faP p1 n).2.1 || (faP p2 n).2.1)=m at ebad erow
   refine⟨by simp,.inr (.inl rfl),_,rfl,?_⟩
   show if (false != (true&&bK (h.map aO) []))=true then _ else _
   rw[mM]
   cases z:h.isEmpty with
   |true=>
    rw[z]at ebad erow
    refine bH ⟨_,rfl,?_⟩
    cases m with
    |true=>
     refine bH ?_
     have:nmO mf p1 p2 ns=none:=by
      unfold nmO
      rw[if_pos (List.any_eq_true.mpr ⟨n,List.mem_of_getElem? hn,ebad⟩)]
     rw[this]at q
     exact q
    |false=>
     have:=nxt (.va (sT n)) (.va (bO (faP p1 n))) (.va (bO (faP p2 n))) (.va (bC h)) (.va (bT false)) ebad
     rw[erow,if_pos rfl]at this
     simp only[Option.toList,List.append_nil]at this
     refine aV ⟨by simp,.inr (.inl rfl),_,rfl,?_⟩
     show if (true != (true&&bK (h.map aO) []))=true then _ else _
     rw[show(true != (true&&bK (h.map aO) []))=!h.isEmpty by rw[<-mM];cases (true&&bK (h.map aO) [])<;>rfl,z]
     exact aV this
   |false=>
    rw[z]at ebad erow
    have:=nxt (.va (sT n)) (.va (bO (faP p1 n))) (.va (bO (faP p2 n))) (.va (bC h)) (.va (bT m)) ebad
    rw[erow,if_neg Bool.false_ne_true]at this
    simp only[Option.toList,List.map_append,List.map_cons,List.map_nil]at this
    refine aV (aV ⟨by simp,.inr (.inl rfl),_,rfl,?_⟩)
    show if (true != (true&&bK (h.map aO) []))=true then _ else _
    rw[show(true != (true&&bK (h.map aO) []))=!h.isEmpty by rw[<-mM];cases (true&&bK (h.map aO) [])<;>rfl,z]
    exact bH ⟨⟨_,rfl⟩,by simp,_,rfl,by rw[List.length_map];omega,this⟩
 ·rintro _ ⟨hj,s4,s5,s6,s7,s8,rfl⟩
  rw[List.take_length]
  have nb:¬ ns.any (bad mf p1 p2)=true:=λz=>by
   obtain⟨n,hn,hb⟩:=List.any_eq_true.mp z
   obtain⟨j,hj',rfl⟩:=List.mem_iff_getElem.mp hn
   have:=hj j _ hj' (List.getElem?_eq_getElem hj')
   rw[hb]at this;cases this
  unfold nmO at q
  rw[if_neg nb]at q
  exact⟨_,aJ (j:=1) rfl,_,aJ (j:=1) rfl,.inl ⟨_,_,rfl,_,aJ (j:=2) rfl,_,aJ (j:=2) rfl,.inl ⟨_,_,rfl,_,_,_,rfl,Nat.le_trans (List.length_filterMap_le _ _) ln,q⟩⟩⟩
end
end My
namespace My
open PySem L2 PyProof.Rows WordM
section
variable{P:Program}{w:World}{K:W.Frag}{mg:Str->Option Value}{base:Heap}
noncomputable def tbO(mf:List Pt->List Pt->List Pt)(a b:Int)(w:Wd)(f:List Pt)(a' b':Int)(w':Wd)(f':List Pt):Option Pt:=
 match cO w w' with
 |none=>nmO mf (.table a b w f) (.table a' b' w' f') []
 |some v=>if (mf f f').isEmpty=true then nmO mf (.table a b w f) (.table a' b' w' f') [] else match v with
  |.few ss=>nmO mf (.table a b w f) (.table a' b' w' f') ss
  |.make _ lo hi ms=>if gF lo hi ms (min b b')<max a a' then none else some (.table (max a a') (gF lo hi ms (min b b')) v (mf f f'))
def rX(w w':Wd):Prop:=(∀ss,cO w w'=some (.few ss)->ss.length<=100/\∀n∈ss,kC n)/\∀h lo hi ms,cO w w'=some (.make h lo hi ms)->ms≠[]/\ms.length<=4/\∀m∈ms,m∈MK
def zB9(mf:List Pt->List Pt->List Pt)(okf:Pt->Prop):PSp:=λas R=>∃(a b:Int) (w:Wd) (f:List Pt) (a' b':Int) (w':Wd) (f':List Pt),as=[.va (aO (.table a b w f)),.va (aO (.table a' b' w' f'))]/\bL w/\bL w'/\rX w w'/\min b b'<10 ^ 90/\(∀p∈f,okf p)/\(∀p∈f',okf p)/\R (fD (tbO mf a b w f a' b' w' f'))
theorem C18_:bE ["one","other","make","form","least","most"] ["one","other"] (aL oE):=fsc (by decide +kernel)
theorem zKa(h:Has K mg "tables_met" oE)(B:Own mg)(G5_:PGood P w K mg base 5 "words_met" ["one","other"] iX)(G21_:PGood P w K mg base (lv+4) "met" ["one","other"] (iQ mf okf))(G17_:PGood P w K mg base (lv+5) "named_met" ["one","other","names"] (rN mf okf))(G8_:PGood P w K mg base 2 "words_many" ["words","most"] nB)   : PGood P w K mg base (lv+6) "tables_met" ["one","other"] (zB9 mf okf):=by
 have nd:=C18_.nd
 refine h.pgood C18_ (fun|_,_,_,_,_,_,[_,_],_=>rfl) (λf cdv A outer s H E F hr=>
   (aE (aI 2 nd (aH G5_ hr (aB (aF hr (aA 0) aD) (aB (aF hr (aA 1) aD) aC))))
   (aE (aI 3 nd (aH G21_ hr (aB (aF hr (aA 0) aD) (aB (aF hr (aA 1) aD) aC))))
   (aE (aZ (dZ (fO (bX zBL (aA 2) cZ) (gA (bJ hr (aA 3) (aT aC)))))
    (aG (aQ (aH G17_ hr (aB (aA 0) (aB (aA 1) (aB (bB (cA aC)) aC))))))
    bA)
   (aE (aZ (bJ hr (aF hr (aA 2) aD) aU)
    (aG (aQ (aH G17_ hr (aB (aA 0) (aB (aA 1) (aB (bB (kI kM rfl B.list_ boot_list (aB (aF hr (aA 2) aD) aC))) aC))))))
    bA)
   (aE (aI 4 nd (aX (fM rfl) rfl B.max boot_max (aB (aF hr (aA 0) aD) (aB (aF hr (aA 1) aD) aC))))
   (aE (aI 5 nd (aH G8_ hr (aB (aA 2) (aB (aX (gC rfl) rfl B.min boot_min (aB (aF hr (aA 0) aD) (aB (aF hr (aA 1) aD) aC))) aC))))
   (aG (aQ (hG (bX jF (aA 4) (aA 5)) cZ (aT (aB aU (aB (aA 4) (aB (aA 5) (aB (aA 2) (aB (aA 3) aC)))))))))))))))) (λas R q=>?_)
 obtain⟨a,b,w1,f,a',b',w2,f',rfl,k1,k2,hw,hb,hf,hg,q⟩:=q
 have ea:∀ns:List Str,[Ar.va (.seq true [sT "table",iT a,iT b,aW w1,bC f]),.va (.seq true [sT "table",iT a',iT b',aW w2,bC f']),.va (.seq false (ns.map sT))]=[.va (aO (.table a b w1 f)),.va (aO (.table a' b' w2 f')),.va (.seq false (ns.map sT))]:=λns=>by rw[cL,cL]
 rw[cL,cL]
 refine⟨rfl,_,aJ (j:=3) rfl,_,aJ (j:=3) rfl,w1,w2,rfl,k1,k2,?_⟩
 show PEnds.nx _ _
 refine nxE (ρ':=[.va (.seq true [sT "table",iT a,iT b,aW w1,bC f]),.va (.seq true [sT "table",iT a',iT b',aW w2,bC f']),.va (fB (cO w1 w2)),.no,.no,.no]) rfl ?_
 refine⟨_,aJ (j:=4) rfl,_,aJ (j:=4) rfl,f,f',rfl,hf,hg,?_⟩
 show PEnds.nx _ _
 refine nxE (ρ':=[.va (.seq true [sT "table",iT a,iT b,aW w1,bC f]),.va (.seq true [sT "table",iT a',iT b',aW w2,bC f']),.va (fB (cO w1 w2)),.va (bC (mf f f')),.no,.no]) rfl ?_
 unfold tbO at q
 dsimp only
 cases em:cO w1 w2 with
 |none=>
  rw[em]at q
  exact⟨_,rfl,bH (bH ⟨by simp,.table a b w1 f,.table a' b' w2 f',[],ea [],by simp,(λn h=>nomatch h),k1,k2,hf,hg,q⟩)⟩
 |some v=>
  rw[em]at q
  dsimp only at q
  cases v with
  |few ss=>
   refine⟨_,rfl,aV ⟨by simp,.inr (.inl rfl),_,rfl,?_⟩⟩
   show if (false != (true&&bK ((mf f f').map aO) []))=true then _ else _
   rw[mM]
   cases ef:(mf f f').isEmpty with
   |true=>
    rw[ef,if_pos rfl]at q
    exact bH ⟨by simp,.table a b w1 f,.table a' b' w2 f',[],ea [],by simp,(λn h=>nomatch h),k1,k2,hf,hg,q⟩
   |false=>
    rw[ef,if_neg Bool.false_ne_true]at q
    refine aV ?_
    obtain⟨l1,hn⟩:=hw.1 ss em
    refine⟨_,at0,_,rfl,sY ⟨_,aJ (j:=1) rfl,?_⟩⟩
    exact⟨_,_,rfl,.table a b w1 f,.table a' b' w2 f',ss,ea ss,l1,hn,k1,k2,hf,hg,q⟩
  |make h lo hi ms=>
   refine⟨_,rfl,aV ⟨by simp,.inr (.inl rfl),_,rfl,?_⟩⟩
   show if (false != (true&&bK ((mf f f').map aO) []))=true then _ else _
   rw[mM]
   cases ef:(mf f f').isEmpty with
   |true=>
    rw[ef,if_pos rfl]at q
    exact bH ⟨by simp,.table a b w1 f,.table a' b' w2 f',[],ea [],by simp,(λn h=>nomatch h),k1,k2,hf,hg,q⟩
   |false=>
    rw[ef,if_neg Bool.false_ne_true]at q
    refine aV ?_
    obtain⟨m0,m4,mk⟩:=hw.2 h lo hi ms em
    have q:R (fD (if gF lo hi ms (min b b')<max a a' then none else some (.table (max a a') (gF lo hi ms (min b b')) (.make h lo hi ms) (mf f f')))):=q
    refine⟨_,at0,_,rfl,sN (by decide +kernel) ⟨_,aJ (j:=1) rfl,_,aJ (j:=1) rfl,.inl ⟨_,_,rfl,_,aJ (j:=2) rfl,_,aJ (j:=2) rfl,.inl ⟨_,_,rfl,sT h,lo,hi,min b b',ms,rfl,m0,m4,mk,hb,?_⟩⟩⟩⟩
    generalize gF lo hi ms (min b b')=mm at q
    refine⟨_,rfl,cJ (λz=>?_) (λz=>?_)⟩
    ·have z:mm<max a a':=z
     rw[if_pos z]at q;exact q
    ·have z:¬ mm<max a a':=z
     rw[if_neg z]at q
     have q:R (aO _):=q
     rw[cL]at q
     exact⟨by simp,q⟩
end
end My
namespace My
open PySem L2 PyProof.Rows WordM
section
variable{P:Program}{w:World}{K:W.Frag}{mg:Str->Option Value}{base:Heap}
def nmF(fs:List Fd):List Str:=fs.map (·.1)
def fsP:Pt->List Fd
 |.record _ _ fs=>fs
 |_=>[]
noncomputable def dcQ(mf:List Pt->List Pt->List Pt):Pt->Pt->Option Pt
 |.table a b w f,.table a' b' w' f'=>tbO mf a b w f a' b' w' f'
 |p,q=>nmO mf p q (bU (bM (nmF (fsP p)++nmF (fsP q))))
def xD(okf:Pt->Prop):Pt->Prop
 |.record _ _ fs=>fs.length<=8/\(∀x∈fs,kC x.1)/\∀x∈fs,∀p∈x.2.2,okf p
 |.table _ b w f=>bL w/\b<10 ^ 90/\∀p∈f,okf p
 |_=>False
def zKn:Pt->Pt->Prop
 |.table _ _ w _,.table _ _ w' _=>rX w w'
 |_,_=>True
def zCb(mf:List Pt->List Pt->List Pt)(okf:Pt->Prop):PSp:=λas R=>∃p q:Pt,as=[.va (aO p),.va (aO q)]/\xD okf p/\xD okf q/\zKn p q/\R (fD (dcQ mf p q))
theorem C19_:bE ["one","other","fields"] ["one","other"] (aL mL):=fsc (by decide +kernel)
theorem zJ9(h:Has K mg "dicts_met" mL)(B:Own mg)(G18_:PGood P w K mg base (lv+6) "tables_met" ["one","other"] (zB9 mf okf))(G17_:PGood P w K mg base (lv+5) "named_met" ["one","other","names"] (rN mf okf))   : PGood P w K mg base (lv+7) "dicts_met" ["one","other"] (zCb mf okf):=by
 have nd:=C19_.nd
 refine h.pgood C19_ (fun|_,_,_,_,_,_,[_,_],_=>rfl) (λf cdv A outer s H E F hr=>
   (aE (aZ (dZ (lE (bJ hr (aF hr (aA 0) aD) aU) (kW (bJ hr (aF hr (aA 1) aD) aU))))
    (aG (aQ (aH G18_ hr (aB (aA 0) (aB (aA 1) aC)))))
    bA)
   (aE (aI 2 nd (aY bQ (hG (bJ hr (aF hr (aA 0) aD) aU) (aF hr (aA 0) aD) (aT aC)) (hG (bJ hr (aF hr (aA 1) aD) aU) (aF hr (aA 1) aD) (aT aC))))
   (aG (aQ (aH G17_ hr (aB (aA 0) (aB (aA 1) (aB (bB (zCM rfl rfl B.sorted rfl B.set_ (bB (gQ (sc:=aL mL) (XN:=["one","other","fields"]) (N:=["field"]) (fr:=[]) (bR (aA 2)) (λ_ _ _ _ _=>(aF hr (aA 0) aD)))))) aC))))))))) (λas R q=>?_)
 obtain⟨p,p',rfl,hp,hq,hr,q⟩:=q
 have fin:∀T1 T2:Tv,T1=aO p->T2=aO p'->mQ p->mQ p'->okD okf p->okD okf p'->(fsP p).length<=8->(fsP p').length<=8->(∀x∈fsP p++fsP p',kC x.1)->R (fD (nmO mf p p' (bU (bM (nmF (fsP p)++nmF (fsP p')))))) ->
   iN (jU (rN mf okf) (cS (cF 0) (cS (cF 1) (cS (uL (yO (uL (iK 1 [] (uIt (cF 2)) (gN 0) vZ (uOp pIx (cF 0) (uC (iT 0))))))) eN)))) {nx:=λx=>R nT,rt:=R} [.va T1,.va T2,.va (.seq true ((fsP p++fsP p').map bO))]:=by
  rintro T1 T2 rfl rfl d1 d2 o1 o2 l1 l2 hn q
  generalize fsP p=fs at l1 l2 hn q
  generalize fsP p'=gs at l1 l2 hn q
  refine⟨by rw[List.length_map,List.length_append];omega,eX bO (λx=>sT x.1) (λx hx R q=>⟨_,at0,q⟩) ?_⟩
  have en:((fs++gs).map λx=>sT x.1)=(nmF fs++nmF gs).map sT:=by
   unfold nmF
   rw[<-List.map_append,List.map_map];rfl
  have sl:(bM (nmF fs++nmF gs)).length<=16:=by
   have:=WordM.nodup_len (jC (nmF fs++nmF gs)) (m:=nmF fs++nmF gs) λx hx=>(gH _ x).mp hx
   rw[List.length_append]at this
   unfold nmF at this ⊢
   rw[List.length_map,List.length_map]at this
   omega
  refine⟨nmF fs++nmF gs,by rw[en],by omega,p,p',_,rfl,by rw[kL];omega,λn hn'=>?_,d1,d2,o1,o2,q⟩
  have hn':=(gH _ n).mp ((fY _).mem_iff.mp hn')
  unfold nmF at hn'
  rw[<-List.map_append]at hn'
  obtain⟨x,hx,rfl⟩:=List.mem_map.mp hn'
  exact hn x hx
 cases p with
 |record a b fs=>
  cases p' with
  |record a' b' gs=>
   have e1:=cW a b fs
   have e2:=cW a' b' gs
   have fin:=fin _ _ e1.symm e2.symm trivial trivial hp.2.2 hq.2.2 hp.1 hq.1 (λx hx=>(List.mem_append.mp hx).elim (hp.2.1 x) (hq.2.1 x)) q
   rw[e1,e2]
   have l1:=hp.1
   have l2:=hq.1
   refine⟨rfl,_,at0,_,rfl,sN (by decide +kernel) (aV ⟨_,at0,_,rfl,sY ⟨_,aJ (j:=3) rfl,_,at0,_,rfl,sY ⟨_,aJ (j:=3) rfl,by rw[List.length_map,List.length_map];omega,?_⟩⟩⟩)⟩
   show PEnds.nx _ _
   rw[<-List.map_append]
   exact fin
  |table a' b' w' g=>
   have e1:=cW a b fs
   have e2:=cL a' b' w' g
   have fin:=fin _ _ e1.symm e2.symm trivial hq.1 hp.2.2 hq.2.2 hp.1 (Nat.zero_le _) (λx hx=>(List.mem_append.mp hx).elim (hp.2.1 x) (λh=>nomatch h)) q
   rw[e1,e2]
   have l1:=hp.1
   refine⟨rfl,_,at0,_,rfl,sN (by decide +kernel) (aV ⟨_,at0,_,rfl,sY ⟨_,aJ (j:=3) rfl,_,at0,_,rfl,sN (by decide +kernel) ⟨by simp,by rw[List.length_map];simp;omega,?_⟩⟩⟩)⟩
   show PEnds.nx _ _
   rw[show fsP (.table a' b' w' g)=[] from rfl,List.append_nil]at fin
   rw[List.append_nil]
   exact fin
  |_=>exact False.elim hq
 |table a b w1 f=>
  cases p' with
  |record a' b' gs=>
   have e1:=cL a b w1 f
   have e2:=cW a' b' gs
   have fin:=fin _ _ e1.symm e2.symm hp.1 trivial hp.2.2 hq.2.2 (Nat.zero_le _) hq.1 (λx hx=>(List.mem_append.mp hx).elim (λh=>nomatch h) (hq.2.1 x)) q
   rw[e1,e2]
   have l2:=hq.1
   refine⟨rfl,_,at0,_,rfl,sY ⟨_,at0,_,rfl,sN (by decide +kernel) ⟨_,at0,_,rfl,sN (by decide +kernel) ⟨by simp,_,at0,_,rfl,sY ⟨_,aJ (j:=3) rfl,by rw[List.length_map];simp;omega,?_⟩⟩⟩⟩⟩
   exact fin
  |table a' b' w' g=>
   have e1:=cL a b w1 f
   have e2:=cL a' b' w' g
   have ea:[Ar.va (.seq true [sT "table",iT a,iT b,aW w1,bC f]),.va (.seq true [sT "table",iT a',iT b',aW w',bC g])]=[.va (aO (.table a b w1 f)),.va (aO (.table a' b' w' g))]:=by rw[e1,e2]
   rw[e1,e2]
   have b1:=hp.2.1
   exact⟨rfl,_,at0,_,rfl,sY ⟨_,at0,_,rfl,sY ⟨a,b,w1,f,a',b',w',g,ea,hp.1,hq.1,hr,by omega,hp.2.2,hq.2.2,q⟩⟩⟩
  |_=>exact False.elim hq
 |_=>exact False.elim hp
end
end My
namespace My
open PySem L2 PyProof.Rows WordM
section
variable{P:Program}{w:World}{K:W.Frag}{mg:Str->Option Value}{base:Heap}
theorem zBy{ss:List Str}{W:Wd}(h:ss.length<=6/\∀t∈ss,oN t):(∀ts,eP ss W=some (.few ts)->ts.length<=100/\∀n∈ts,kC n)/\∀hd lo hi ms,eP ss W=some (.make hd lo hi ms)->False:=by
 unfold eP
 constructor
 ·intro ts e
  split at e
  ·cases e
  ·cases e
   refine⟨Nat.le_trans (List.length_filter_le _ _) (by omega),λn hn=>?_⟩
   have:=h.2 n (List.mem_filter.mp hn).1
   exact⟨this.1,by have:=this.2;omega⟩
 ·intro hd lo hi ms e
  split at e
  ·cases e
  ·cases e
theorem zBR{h:Str}{a b:Int}{ms:List Str}{h2:Str}{a2 b2:Int}{ms2:List Str}(ok:bL (.make h a b ms)):(∀ts,bV h a b ms h2 a2 b2 ms2=some (.few ts)->ts.length<=100/\∀n∈ts,kC n)/\∀hd lo hi ns,bV h a b ms h2 a2 b2 ms2=some (.make hd lo hi ns)->ns≠[]/\ns.length<=4/\∀m∈ns,m∈MK:=by
 obtain⟨⟨hS,hl⟩,a0,ab,b1,b6,sub,ne⟩:=ok
 unfold bV
 constructor
 ·intro ts e
  generalize hL:max a (a2-((bD h h2).length:Nat))=L at e
  generalize hH:(if (ms.filter λm=>decide (m∈ms2))=[] then min (min b (b2-((bD h h2).length:Nat))) 0 else min b (b2-((bD h h2).length:Nat)))=H at e
  split at e
  ·dsimp only at e
   split at e
   ·cases e
   ·split at e
    ·cases e
     refine⟨by simp,λn hn=>?_⟩
     rw[List.mem_singleton]at hn
     subst hn
     exact⟨hS,by omega⟩
    ·cases e
  ·cases e
 ·intro hd lo hi ns e
  generalize hL:max a (a2-((bD h h2).length:Nat))=L at e
  generalize hH:(if (ms.filter λm=>decide (m∈ms2))=[] then min (min b (b2-((bD h h2).length:Nat))) 0 else min b (b2-((bD h h2).length:Nat)))=H at e
  split at e
  ·dsimp only at e
   split at e
   ·cases e
   ·rename_i z1
    split at e
    ·cases e
    ·rename_i z2
     have sb:(ms.filter λm=>decide (m∈ms2)).Sublist MK:=List.filter_sublist.trans sub
     have e2:ns=ms.filter λm=>decide (m∈ms2):=by injection e with e;injection e with _ _ _ e;exact e.symm
     subst e2
     refine⟨λz=>?_,sb.length_le,λm hm=>sb.subset hm⟩
     rw[if_pos z]at hH
     omega
  ·cases e
theorem zIE{W V:Wd}(hW:bL W)(hV:bL V):rX W V:=by
 cases W with
 |few ss=>
  have:=zBy (W:=V) ⟨hW.2.1,hW.2.2.2⟩
  exact⟨this.1,λhd lo hi ms e=>(this.2 hd lo hi ms e).elim⟩
 |make h a b ms=>
  cases V with
  |few ss=>
   have:=zBy (W:=.make h a b ms) ⟨hV.2.1,hV.2.2.2⟩
   exact⟨this.1,λhd lo hi ms e=>(this.2 hd lo hi ms e).elim⟩
  |make h2 a2 b2 ms2=>
   unfold rX
   rw[show cO (.make h a b ms) (.make h2 a2 b2 ms2)=if h.length<h2.length then bV h2 a2 b2 ms2 h a b ms else bV h a b ms h2 a2 b2 ms2 from rfl]
   by_cases z:h.length<h2.length
   ·rw[if_pos z];exact zBR hV
   ·rw[if_neg z];exact zBR hW
noncomputable def gX(mf:List Pt->List Pt->List Pt):Pt->Pt->Option Pt
 |.nothing,.nothing=>some .nothing
 |.truths bs,.truths cs=>trM bs cs
 |.lists a b f,.lists a' b' g=>liO mf a b f a' b' g
 |p,q=>dcQ mf p q
def OkQ(okf:Pt->Prop):Pt->Prop
 |.nothing=>True
 |.truths bs=>bs.length<=2
 |.lists _ _ f=>∀p∈f,okf p
 |p=>xD okf p
theorem C20_:bE ["one","other"] ["one","other"] (aL oD):=fsc (by decide +kernel)
theorem zJ8(h:Has K mg "parts_met" oD)(B:Own mg)(G11_:PGood P w K mg base 1 "truths_met" ["one","other"] nW)(G12_:PGood P w K mg base 1 "numbers_met" ["one","other"] gM)(G13_:PGood P w K mg base 1 "texts_met" ["one","other"] gM)(G14_:PGood P w K mg base (lv+7) "lists_met" ["one","other"] (zCa mf okf))(G19_:PGood P w K mg base (lv+7) "dicts_met" ["one","other"] (zCb mf okf))   : PGood P w K mg base (lv+8) "parts_met" ["one","other"] (wS (gX mf) (OkQ okf)):=by
 have nd:=C20_.nd
 refine h.pgood C20_ (fun|_,_,_,_,_,_,[_,_],_=>rfl) (λf cdv A outer s H E F hr=>
   (aE (aZ (bJ hr (aF hr (aA 0) aD) aU)
    (aG (aQ (aA 0)))
    bA)
   (aE (aZ (bJ hr (aF hr (aA 0) aD) aU)
    (aG (aQ (aH G11_ hr (aB (aA 0) (aB (aA 1) aC)))))
    bA)
   (aE (aZ (bJ hr (aF hr (aA 0) aD) aU)
    (aG (aQ (aH G12_ hr (aB (aA 0) (aB (aA 1) aC)))))
    bA)
   (aE (aZ (bJ hr (aF hr (aA 0) aD) aU)
    (aG (aQ (aH G13_ hr (aB (aA 0) (aB (aA 1) aC)))))
    bA)
   (aE (aZ (bJ hr (aF hr (aA 0) aD) aU)
    (aG (aQ (aH G14_ hr (aB (aA 0) (aB (aA 1) aC)))))
    bA)
   (aG (aQ (aH G19_ hr (aB (aA 0) (aB (aA 1) aC))))))))))) (λas R q=>?_)
 obtain⟨p,q',rfl,hp,hq,k,q⟩:=q
 cases p<;>cases q'<;>first|(simp[dY]at k;done)|exact False.elim hp|exact False.elim hq|skip
 ·have q:R (aO .nothing):=q
  rw[mR]at q ⊢
  exact⟨rfl,_,at0,_,rfl,sY q⟩
 ·rename_i bs cs
  have ea:[Ar.va (aO (.truths bs)),.va (aO (.truths cs))]=[.va (.seq true [sT "truths",.seq true (bs.map bT)]),.va (.seq true [sT "truths",.seq true (cs.map bT)])]:=by rw[gZ,gZ]
  rw[gZ,gZ]
  exact⟨rfl,_,at0,_,rfl,sN (by decide +kernel) ⟨_,at0,_,rfl,sY ⟨bs,cs,ea.symm,hp,q⟩⟩⟩
 ·rename_i a b f a' b' g
  have ea:[Ar.va (aO (.lists a b f)),.va (aO (.lists a' b' g))]=[.va (.seq true [sT "lists",iT a,iT b,bC f]),.va (.seq true [sT "lists",iT a',iT b',bC g])]:=by rw[iZ,iZ]
  rw[iZ,iZ]
  exact⟨rfl,_,at0,_,rfl,sN (by decide +kernel) ⟨_,at0,_,rfl,sN (by decide +kernel) ⟨_,at0,_,rfl,sN (by decide +kernel) ⟨_,at0,_,rfl,sN (by decide +kernel) ⟨_,at0,_,rfl,sY ⟨a,b,f,a',b',g,ea.symm,hp,hq,q⟩⟩⟩⟩⟩⟩
 ·rename_i a b fs a' b' gs
  have ea:[Ar.va (aO (.record a b fs)),.va (aO (.record a' b' gs))]=[.va (.seq true [sT "record",iT a,iT b,.seq true (fs.map bO)]),.va (.seq true [sT "record",iT a',iT b',.seq true (gs.map bO)])]:=by rw[cW,cW]
  rw[cW,cW]
  exact⟨rfl,_,at0,_,rfl,sN (by decide +kernel) ⟨_,at0,_,rfl,sN (by decide +kernel) ⟨_,at0,_,rfl,sN (by decide +kernel) ⟨_,at0,_,rfl,sN (by decide +kernel) ⟨_,at0,_,rfl,sN (by decide +kernel) ⟨.record a b fs,.record a' b' gs,ea.symm,hp,hq,trivial,q⟩⟩⟩⟩⟩⟩
 ·rename_i a b fs a' b' w' g
  have ea:[Ar.va (aO (.record a b fs)),.va (aO (.table a' b' w' g))]=[.va (.seq true [sT "record",iT a,iT b,.seq true (fs.map bO)]),.va (.seq true [sT "table",iT a',iT b',aW w',bC g])]:=by rw[cW,cL]
  rw[cW,cL]
  exact⟨rfl,_,at0,_,rfl,sN (by decide +kernel) ⟨_,at0,_,rfl,sN (by decide +kernel) ⟨_,at0,_,rfl,sN (by decide +kernel) ⟨_,at0,_,rfl,sN (by decide +kernel) ⟨_,at0,_,rfl,sN (by decide +kernel) ⟨.record a b fs,.table a' b' w' g,ea.symm,hp,hq,trivial,q⟩⟩⟩⟩⟩⟩
 ·rename_i a b w1 f a' b' gs
  have ea:[Ar.va (aO (.table a b w1 f)),.va (aO (.record a' b' gs))]=[.va (.seq true [sT "table",iT a,iT b,aW w1,bC f]),.va (.seq true [sT "record",iT a',iT b',.seq true (gs.map bO)])]:=by rw[cW,cL]
  rw[cW,cL]
  exact⟨rfl,_,at0,_,rfl,sN (by decide +kernel) ⟨_,at0,_,rfl,sN (by decide +kernel) ⟨_,at0,_,rfl,sN (by decide +kernel) ⟨_,at0,_,rfl,sN (by decide +kernel) ⟨_,at0,_,rfl,sN (by decide +kernel) ⟨.table a b w1 f,.record a' b' gs,ea.symm,hp,hq,trivial,q⟩⟩⟩⟩⟩⟩
 ·rename_i a b w1 f a' b' w' g
  have ea:[Ar.va (aO (.table a b w1 f)),.va (aO (.table a' b' w' g))]=[.va (.seq true [sT "table",iT a,iT b,aW w1,bC f]),.va (.seq true [sT "table",iT a',iT b',aW w',bC g])]:=by rw[cL,cL]
  rw[cL,cL]
  exact⟨rfl,_,at0,_,rfl,sN (by decide +kernel) ⟨_,at0,_,rfl,sN (by decide +kernel) ⟨_,at0,_,rfl,sN (by decide +kernel) ⟨_,at0,_,rfl,sN (by decide +kernel) ⟨_,at0,_,rfl,sN (by decide +kernel) ⟨.table a b w1 f,.table a' b' w' g,ea.symm,hp,hq,zIE hp.1 hq.1,q⟩⟩⟩⟩⟩⟩
end
end My
namespace My
open PySem L2 PyProof.Rows WordM
section
variable{P:Program}{w:World}{K:W.Frag}{mg:Str->Option Value}{base:Heap}
abbrev zJu:P2:=pI2 rZ λi j=>.int (i*2 ^ j.toNat)
theorem zGY{X:Cx}:fF X (binaryOp .LShift) zJu:=(nV zHj λ_ _=>rfl).op
abbrev At:=Bool×Bool×Bool
def bsA(a:At):List Bool:=(if a.2.1 then [false] else [])++(if a.2.2 then [true] else [])
def atL(a:At):List Tv:=(if a.1 then [nT] else [])++(bsA a).map bT
def fmA(a:At):List Pt:=(if a.1 then [.nothing] else [])++(if bsA a=[] then [] else [.truths (bsA a)])
def anA(a b:At):At:=(a.1&&b.1,a.2.1&&b.2.1,a.2.2&&b.2.2)
def emA(a:At):Bool:=!(a.1 || (a.2.1 || a.2.2))
def mp0:Pt->Pt->Option Pt:=λ_ _=>none
def ok0:Pt->Prop:=λ_=>False
noncomputable def mfA:List Pt->List Pt->List Pt:=mF (gX (mF mp0))
def okA:Pt->Prop:=OkQ ok0
noncomputable def mf2:List Pt->List Pt->List Pt:=mF (gX mfA)
def ok2:Pt->Prop:=OkQ okA
theorem jS(a b:At):mfA (fmA a) (fmA b)=fmA (anA a b):=by
 obtain⟨a1,a2,a3⟩:=a
 obtain⟨b1,b2,b3⟩:=b
 cases a1<;>cases a2<;>cases a3<;>cases b1<;>cases b2<;>cases b3<;>rfl
theorem zBY(a:At):∀p∈fmA a,okA p:=by
 obtain⟨a1,a2,a3⟩:=a
 cases a1<;>cases a2<;>cases a3<;>simp[fmA,bsA,okA,OkQ]
theorem qR(a:At):(fmA a).isEmpty=emA a:=by
 obtain⟨a1,a2,a3⟩:=a
 cases a1<;>cases a2<;>cases a3<;>rfl
theorem pQ(a b:At):anA a b=anA b a:=by unfold anA;rw[Bool.and_comm,Bool.and_comm a.2.1,Bool.and_comm a.2.2]
theorem zGm(a:At):anA a a=a:=by simp[anA]
def pN:PSp:=λas R=>as=[.dk]/\∀a:At,emA a=false->R (.seq false (atL a))
theorem C37_:bE ["_law_deck_here","_law_bits"] ["_law_deck_here"] (aL rE):=fsc (by decide +kernel)
theorem zJV(h:Has K mg "_law_atoms" rE)(B:Own mg)(G24_:PGood P w K mg base 2 "_law_take" ["_law_deck_here","_law_most"] fH)   : PGood P w K mg base 3 "_law_atoms" ["_law_deck_here"] pN:=by
 have nd:=C37_.nd
 refine h.pgood C37_ (fun|_,_,_,_,_,_,[_],_=>rfl) (λf cdv A outer s H E F hr=>
   (aE (aI 1 nd (aY bQ aD (aH G24_ hr (bG 0 (aB aD aC)))))
   (aG (aQ (bB (jP (sc:=aL rE) (XN:=["_law_deck_here","_law_bits"]) (N:=["_law_k","_law_atom","_law_bits"]) (own:=2) (fr:=[1]) rfl ⟨rfl,by decide +kernel,by decide +kernel,by decide +kernel,rfl,by decide +kernel,by decide,by decide +kernel⟩ (by decide) (tT rfl B.enumerate (aB (bB (cA (aB cZ (aB eZ (aB eZ aC))))) aC)) (λ_ _ _ _ _=>(iG 2 rfl (dE (bY 0 (by decide) (show(["_law_k","_law_atom","_law_bits"]:List Str).Nodup by decide +kernel) rfl (by first|exact Or.inl rfl|exact Or.inr rfl)) (dE (bY 1 (by decide) (show(["_law_k","_law_atom","_law_bits"]:List Str).Nodup by decide +kernel) rfl (by first|exact Or.inl rfl|exact Or.inr rfl)) iB)))) (λ_ _ _ _ _=>(cQ (bJ hr (aY pW (aY tW (aA 2) (aF hr (bB (cA (aB aD (aB aD (aB aD aC))))) (aA 0))) aD) aD))) (λ_ _ _ _ _=>(aA 1)))))))) (λas R q=>?_)
 obtain⟨rfl,q⟩:=q
 refine⟨rfl,rfl,7,rfl,by decide,bN (by decide) (by decide),λd d0 d1=>?_⟩
 refine⟨by simp,_,rfl,by simp,?_⟩
 refine cP (l:=[((1:Int),(0:Nat),nT),(2,1,bT false),(4,2,bT true)]) (λx=>.seq true [iT (x.2.1:Nat),x.2.2]) (λx=>if (1+d) / x.1 % 2=1 then some x.2.2 else none) (λx hx R q=>?_) ?_
 ·simp only[List.mem_cons,List.not_mem_nil,or_false]at hx
  rcases hx with rfl|rfl|rfl
  all_goals
   refine⟨_,rfl,rfl,_,_,rfl,_,_,rfl,rfl,by decide,_,rfl,⟨by decide,bN (by decide) (by decide)⟩,(show(0:Int)<2 by decide),_,rfl,?_⟩
   refine sif (λz=>?_) (λz=>?_)
   ·rw[if_pos (by simpa[eqV]using z)]at q;exact q
   ·rw[if_neg (by simpa[eqV]using z)]at q;exact q
 ·have hd:(1+d)=1\/(1+d)=2\/(1+d)=3\/(1+d)=4\/(1+d)=5\/(1+d)=6\/(1+d)=7:=by omega
  rcases hd with e|e|e|e|e|e|e<;>rw[e]
  ·exact q (true,false,false) rfl
  ·exact q (false,true,false) rfl
  ·exact q (true,true,false) rfl
  ·exact q (false,false,true) rfl
  ·exact q (true,false,true) rfl
  ·exact q (false,true,true) rfl
  ·exact q (true,true,true) rfl
theorem pP(a:At):∀U∈atL a,EqD 40 U/\(U=nT\/∃b,U=bT b):=by
 obtain⟨a1,a2,a3⟩:=a
 cases a1<;>cases a2<;>cases a3<;>simp[atL,bsA,EqD]
def noN:Tv->Option Tv
 |.leaf .non=>none
 |T=>some T
theorem zHQ(a:At):(atL a).filterMap noN=(bsA a).map bT:=by
 obtain⟨a1,a2,a3⟩:=a
 cases a1<;>cases a2<;>cases a3<;>rfl
theorem zBF(a:At):(atL a).length<=3:=by
 obtain⟨a1,a2,a3⟩:=a
 cases a1<;>cases a2<;>cases a3<;>decide
theorem zHR(a:At):(false != (atL a).any λk=>L2.eqT k nT)=a.1:=by
 obtain⟨a1,a2,a3⟩:=a
 cases a1<;>cases a2<;>cases a3<;>rfl
def lX:PSp:=λas R=>∃a:At,as=[.va (.seq false (atL a))]/\R (bC (fmA a))
theorem C38_:bE ["_law_atoms_here","_law_form","_law_truths"] ["_law_atoms_here"] (aL rD):=fsc (by decide +kernel)
theorem zJU(h:Has K mg "_law_form_of_atoms" rD)(B:Own mg)    : PGood P w K mg base 1 "_law_form_of_atoms" ["_law_atoms_here"] lX:=by
 have nd:=C38_.nd
 refine h.pgood C38_ (fun|_,_,_,_,_,_,[_],_=>rfl) (λf cdv A outer s H E F hr=>
   (aE (aI 1 nd (aT aC))
   (aE (aZ (bX (eV hr.units) cZ (aA 0) rfl)
    (aG (aI 1 nd (aT (aB (aT (aB aU aC)) aC))))
    bA)
   (aE (aI 2 nd (dI dJ rfl B.tuple_ boot_tuple (aB (bB (dR (sc:=aL rD) (XN:=["_law_atoms_here","_law_form","_law_truths"]) (N:=["_law_atom"]) (fr:=[]) (bR (aA 0)) (λ_ _ _ _ _=>(cQ (bX tI (aA 0) cZ))) (λ_ _ _ _ _=>(aA 0)))) aC)))
   (aE (aZ (iM hr (aA 2) (aT aC))
    (aG (aI 1 nd (aY bQ (aA 1) (aT (aB (aT (aB aU (aB (aA 2) aC))) aC)))))
    bA)
   (aG (aQ (aA 1)))))))) (λas R q=>?_)
 obtain⟨a,rfl,q⟩:=q
 refine⟨rfl,by simp,⟨trivial,λU hU=>(pP a U hU).1⟩,_,rfl,?_⟩
 show if (false != (atL a).any λk=>L2.eqT k nT)=true then _ else _
 rw[zHR]
 have go:∀f0:List Pt,(f0=if a.1 then [Pt.nothing] else [])->∀A:Tv,A=bC f0->(gV (jY 2 (uCB zBp (cS (uL (iK 1 [] (uIt (cF 0)) (gN 0) (uB (uOp vF (cF 0) (uC nT))) (cF 0))) eN))) (gV (sIf (uB (uOp pNe (cF 2) (jW eN))) (jY 1 (uOp wU (cF 1) (jW (cS (jW (cS (uC (sT "truths")) (cS (cF 2) eN))) eN)))) oA) (iN (cF 1)))) {nx:=λ_=>R nT,rt:=R} [.va (.seq false (atL a)),.va A,.no]:=λf0 hf0 A eA=>by
  subst eA
  refine⟨by have:=zBF a;omega,pL noN (λT hT R q=>?_) ⟨_,_,rfl,?_⟩⟩
  ·rcases (pP a T hT).2 with rfl|⟨b,rfl⟩
   ·exact⟨_,rfl,aV q⟩
   ·exact⟨_,rfl,bH q⟩
  rw[zHQ]
  have fl:f0.length<=1:=by rw[hf0];split<;>simp
  refine⟨by simp,.inr (.inl rfl),_,rfl,?_⟩
  unfold fmA at q
  rw[<-hf0]at q
  cases e:bsA a with
  |nil=>
   rw[e,if_pos rfl,List.append_nil]at q
   exact aV q
  |cons b l=>
   rw[e,if_neg (λz=>nomatch z)]at q
   have q:R (.seq true ((f0++[Pt.truths (b::l)]).map aO)):=q
   rw[List.map_append,List.map_cons,List.map_nil,gZ]at q
   exact bH ⟨by simp,by simp,by rw[List.length_map];simp;omega,q⟩
 cases e:a.1 with
 |true=>exact bH ⟨by simp,by simp,go [.nothing] (by rw[e];rfl) _ (by show _=Tv.seq true [aO .nothing];rw[mR])⟩
 |false=>exact aV (go [] (by rw[e];rfl) _ rfl)
theorem zGi(a b:At):((atL a).filterMap λT=>if (false != (atL b).any λk=>L2.eqT k T)=true then some T else none)=atL (anA a b):=by
 obtain⟨a1,a2,a3⟩:=a
 obtain⟨b1,b2,b3⟩:=b
 cases a1<;>cases a2<;>cases a3<;>cases b1<;>cases b2<;>cases b3<;>rfl
def pZ:PSp:=λas R=>∃a b:At,as=[.va (.seq false (atL a)),.va (.seq false (atL b))]/\R (.seq false (atL (anA a b)))
theorem C39_:bE ["_law_one","_law_other"] ["_law_one","_law_other"] (aL rC):=fsc (by decide +kernel)
theorem zJT(h:Has K mg "_law_both" rC)(B:Own mg)    : PGood P w K mg base 1 "_law_both" ["_law_one","_law_other"] pZ:=by
 have nd:=C39_.nd
 refine h.pgood C39_ (fun|_,_,_,_,_,_,[_,_],_=>rfl) (λf cdv A outer s H E F hr=>
   (aG (aQ (bB (dR (sc:=aL rC) (XN:=["_law_one","_law_other"]) (N:=["_law_atom","_law_other"]) (fr:=[1]) (bR (aA 0)) (λ_ _ _ _ _=>(cQ (bX (eV hr.units) (aA 0) (aA 1) rfl))) (λ_ _ _ _ _=>(aA 0))))))) (λas R q=>?_)
 obtain⟨a,b,rfl,q⟩:=q
 refine⟨rfl,by have:=zBF a;omega,pL (λT=>if (false != (atL b).any λk=>L2.eqT k T)=true then some T else none) (λT hT R q=>⟨⟨(pP a T hT).1,λU hU=>(pP b U hU).1⟩,_,rfl,?_⟩) (by rw[zGi];exact q)⟩
 refine sif (λz=>?_) (λz=>?_)
 ·rw[if_pos z]at q;exact q
 ·rw[if_neg (by rw[z];exact Bool.false_ne_true)]at q;exact q
end
end My
namespace My
open PySem L2 PyProof.Rows WordM
section
variable{P:Program}{w:World}{K:W.Frag}{mg:Str->Option Value}{base:Heap}
abbrev Row:=Str×Bool×At
def rwT(x:Row):Tv:=.seq true [sT x.1,bT x.2.1,.seq false (atL x.2.2)]
def rcT(l m:Int)(rs:List Row):Tv:=.seq true [iT l,iT m,.seq false (rs.map rwT)]
def muR(rs:List Row):List Row:=rs.filter λx=>x.2.1
structure iU (l m:Int) (rs:List Row):Prop where
 n6:rs.length<=6
 ri:cK (rs.map (·.1))
 sg:∀x∈rs,(Sg x.1/\x.1.length<=200)/\emA x.2.2=false
 ml:((muR rs).length:Int)<=l
 lm:l<=m
 mn:m<=rs.length
 go:(muR rs).length<rs.length->l<rs.length/\((muR rs).length:Int)<m
def zBG(pool:List Str):Prop:=pool.length<=6/\pool.Nodup/\∀s∈pool,Sg s/\s.length<=200
theorem zAB:∀{ss:List Str}{Us:List Tv},Paired (λT U=>∃(s:Str) (b:Bool) (a:At),T=sT s/\U=rwT (s,b,a)/\emA a=false) (ss.map sT) Us->∃rs:List Row,Us=rs.map rwT/\rs.map (·.1)=ss/\∀x∈rs,emA x.2.2=false
 |[],[],_=>⟨[],rfl,rfl,λx hx=>nomatch hx⟩
 |s::ss,U::Us,.cons r t=>by
  obtain⟨rs,rfl,e2,h⟩:=zAB (ss:=ss) t
  obtain⟨s',b,a,e,rfl,ha⟩:=r
  have e:s=s':=by cases e;rfl
  subst e
  refine⟨(s,b,a)::rs,rfl,by rw[List.map_cons,e2],λx hx=>?_⟩
  rcases List.mem_cons.mp hx with rfl|hx
  ·exact ha
  ·exact h x hx
theorem zIP(rs:List Row):(rs.filterMap λx=>if x.2.1=true then some (rwT x) else none)=(muR rs).map rwT:=by
 unfold muR
 induction rs with
 |nil=>rfl
 |cons x rs ih=>
  rw[List.filterMap_cons,List.filter_cons]
  cases h:x.2.1 with
  |true=>simp[h,ih]
  |false=>simp[h,ih]
def uF:PSp:=λas R=>∃pool:List Str,as=[.dk,.va (.seq false (pool.map sT))]/\zBG pool/\∀l m rs,iU l m rs->R (rcT l m rs)
theorem C40_:bE ["_law_deck_here","_law_pool","_law_names","_law_some","_law_rows","_law_musts","_law_many","_law_least","_law_most"] ["_law_deck_here","_law_pool"] (aL mJ):=fsc (by decide +kernel)
theorem zJS(h:Has K mg "_law_record_of" mJ)(B:Own mg)(G24_:PGood P w K mg base 2 "_law_take" ["_law_deck_here","_law_most"] fH)(G37_:PGood P w K mg base 3 "_law_atoms" ["_law_deck_here"] pN)   : PGood P w K mg base 4 "_law_record_of" ["_law_deck_here","_law_pool"] uF:=by
 have nd:=C40_.nd
 refine h.pgood C40_ (fun|_,_,_,_,_,_,[_,_],_=>rfl) (λf cdv A outer s H E F hr=>
   (aE (jI 2 nd (kI kM rfl B.list_ boot_list (aB (aA 1) aC)))
   (aE (aI 3 nd (bB (zP (yS rfl) rfl B.sorted boot_sorted (aB (bB (gQ (sc:=aL mJ) (XN:=["_law_deck_here","_law_pool","_law_names","_law_some","_law_rows","_law_musts","_law_many","_law_least","_law_most"]) (N:=["_law_k","_law_deck_here","_law_names"]) (fr:=[0,2]) (hC rfl B.range (aB (aH G24_ hr (bG 0 (aB (aY bQ (aX bP rfl B.len PySem.boot_len (aB (aA 1) aC)) aD) aC))) aC)) (λ_ _ _ _ _=>(zQ 2 (aH G24_ hr (bG 1 (aB (zAr λF=>(aX bP rfl B.len PySem.boot_len (aB (aA 2) aC))) aC))))))) aC))))
   (aE (jT (sc:=aL mJ) (XN:=["_law_deck_here","_law_pool","_law_names","_law_some","_law_rows","_law_musts","_law_many","_law_least","_law_most"]) (N:=["_law_name","_law_deck_here"]) (fr:=[0]) 4 nd (bR (aA 3)) (λ_ _ _ _ _=>jE) (λ_ _ _ _ _=>(aT (aB (aA 0) (aB (fP (jV hr.units).op (aH G24_ hr (bG 1 (aB aD aC))) aD) (aB (aH G37_ hr (bG 1 aC)) aC))))))
   (aE (aI 5 nd (aX bP rfl B.len PySem.boot_len (aB (bB (dR (sc:=aL mJ) (XN:=["_law_deck_here","_law_pool","_law_names","_law_some","_law_rows","_law_musts","_law_many","_law_least","_law_most"]) (N:=["_law_row"]) (fr:=[]) (bR (aA 4)) (λ_ _ _ _ _=>(cQ (cM (aF hr (aA 0) aD)))) (λ_ _ _ _ _=>(aA 0)))) aC)))
   (aE (aI 6 nd (aX bP rfl B.len PySem.boot_len (aB (aA 4) aC)))
   (aE (aI 7 nd (aA 6))
   (aE (aI 8 nd (aA 6))
   (aE (aZ (bX qJ (aA 5) (aA 6))
    (aE (aI 7 nd (aY bQ (aA 5) (aH G24_ hr (bG 0 (aB (aY gL (aA 6) (aA 5)) aC)))))
    (aE (aI 8 nd (aX (fM rfl) rfl B.max boot_max (aB (aA 7) (aB (aY bQ (aA 5) aD) aC))))
    (aG (aI 8 nd (aY bQ (aA 8) (aH G24_ hr (bG 0 (aB (aY bQ (aY gL (aA 6) (aA 8)) aD) aC))))))))
    bA)
   (aG (aQ (aT (aB (aA 7) (aB (aA 8) (aB (aA 4) aC))))))))))))))) (λas R q=>?_)
 obtain⟨pool,rfl,hp,q⟩:=q
 have pl:=hp.1
 refine⟨rfl,false,_,rfl,?_⟩
 show PEnds.nx _ _
 refine nxE (ρ':=[.dk,.va (.seq false (pool.map sT)),.own (pool.map sT),.no,.no,.no,.no,.no,.no]) rfl ?_
 refine⟨rfl,((pool.map sT).length:Nat)+1,rfl,by omega,bN (by omega) (by rw[List.length_map];omega),λn n0 n1=>⟨_,rfl,by omega,by rw[List.length_map]at n1;omega,by rw[hX];rw[List.length_map]at n1;omega,?_⟩⟩
 rw[List.length_map]at n1
 refine zF (λi Us ρ=>∃ps rs:List Str,Us=ps.map sT/\ps.length=i/\(ps++rs).Perm pool/\ρ=[.dk,.va (.seq false (pool.map sT)),.own (rs.map sT),.no,.no,.no,.no,.no,.no]) ⟨[],pool,rfl,rfl,List.Perm.refl _,rfl⟩ ?_ ?_
 ·rintro i T _ _ hT ⟨ps,rs,rfl,hl,hpm,rfl⟩ R hR
  have hi:=(jA hT).1
  have hlen:=hpm.length_eq
  rw[List.length_append]at hlen
  refine⟨⟨_,rfl⟩,rfl,_,rfl,(rs.map sT).length,rfl,by rw[List.length_map];omega,by rw[List.length_map];exact bN (by omega) (by omega),λr r0 r1=>?_⟩
  rw[List.length_map]at r1
  obtain⟨x,hx⟩:=qF r0 r1
  refine⟨r,_,sT x,rfl,rfl,r0,by rw[List.getElem?_map,hx];rfl,hR (some (sT x)) _ ⟨ps++[x],rs.eraseIdx r.toNat,by rw[List.map_append];rfl,by rw[List.length_append,hl];rfl,zZ hpm hx,?_⟩⟩
  show [Sl.dk,.va (.seq false (pool.map sT)),.own ((rs.map sT).eraseIdx r.toNat),.no,.no,.no,.no,.no,.no]=_
  rw[sW]
 ·rintro _ _ ⟨ps,rs0,rfl,hl,hpm,rfl⟩
  rw[hX]at hl
  have hnd:ps.Nodup:=(hpm.nodup_iff.mpr hp.2.1).sublist (List.sublist_append_left _ _)
  have hps:(bU ps).length=n.toNat:=by rw[kL,hl]
  have hrise:=kK hnd
  have htx:∀s∈bU ps,Sg s/\s.length<=200:=λs hs=>hp.2.2 s (hpm.mem_iff.mp (List.mem_append_left _ ((fY ps).mem_iff.mp hs)))
  refine .inr (.inl ⟨ps,rfl,by omega,?_⟩)
  show PEnds.nx _ _
  refine nxE (ρ':=[.dk,.va (.seq false (pool.map sT)),.own (rs0.map sT),.va (.seq false ((bU ps).map sT)),.no,.no,.no,.no,.no]) rfl ?_
  refine⟨by rw[List.length_map];omega,?_⟩
  refine zE (λT U=>∃(s:Str) (b:Bool) (a:At),T=sT s/\U=rwT (s,b,a)/\emA a=false) (λT hT R hR=>?_) (λUs hUs=>?_)
  ·obtain⟨s,hs,rfl⟩:=List.mem_map.mp hT
   refine⟨rfl,3,rfl,by decide,bN (by decide) (by decide),λr r0 r1=>?_⟩
   exact⟨rfl,rfl,λa ha=>⟨by simp,hR _ ⟨s,_,a,rfl,rfl,ha⟩⟩⟩
  ·obtain⟨rs,rfl,hf1,hf2⟩:=zAB hUs
   have hfl:rs.length=n.toNat:=by rw[<-hps,<-hf1,List.length_map]
   show PEnds.nx _ _
   refine nxE (ρ':=[.dk,.va (.seq false (pool.map sT)),.own (rs0.map sT),.va (.seq false ((bU ps).map sT)),.va (.seq false (rs.map rwT)),.no,.no,.no,.no]) rfl ?_
   refine⟨by rw[List.length_map];omega,?_⟩
   refine cP rwT (λx=>if x.2.1=true then some (rwT x) else none) (λx hx R q=>⟨_,aJ (j:=1) rfl,_,rfl,sif (λz=>?_) (λz=>?_)⟩) ?_
   ·rw[if_pos z]at q;exact q
   ·rw[if_neg (by rw[z];exact Bool.false_ne_true)]at q;exact q
   rw[zIP]
   have hml:(muR rs).length<=rs.length:=List.length_filter_le _ _
   have fin:∀a b:Int,a<=b->((muR rs).length:Int)<=a->b<=rs.length->((muR rs).length<rs.length->a<rs.length/\((muR rs).length:Int)<b)->R (rcT a b rs):=λa b h2 h3 h4 h5=>q a b rs ⟨by omega,by rw[hf1];exact hrise,λx hx=>⟨htx x.1 (by rw[<-hf1];exact List.mem_map.mpr ⟨x,hx,rfl⟩),hf2 x hx⟩,h3,h2,h4,h5⟩
   show PEnds.nx _ _
   refine nxE (ρ':=[.dk,.va (.seq false (pool.map sT)),.own (rs0.map sT),.va (.seq false ((bU ps).map sT)),.va (.seq false (rs.map rwT)),.va (iT ((muR rs).length:Nat)),.no,.no,.no]) (by show _=_;rw[List.length_map];rfl) ?_
   have hlm:(rs.map rwT).length=rs.length:=List.length_map ..
   refine⟨_,rfl,cJ (λz=>?_) (λz=>?_)⟩
   ·have z:(((muR rs).length:Nat):Int)<((rs.map rwT).length:Nat):=z
    refine⟨rfl,_,rfl,by omega,bN (by omega) (by omega),λk k0 k1=>.inl ⟨_,_,rfl,rfl,_,rfl,by omega,bN (by omega) (by omega),λj j0 j1=>⟨by simp,fin _ _ (by omega) (by omega) (by omega) (λ_=>by omega)⟩⟩⟩
   ·have z:¬ (((muR rs).length:Nat):Int)<((rs.map rwT).length:Nat):=z
    exact⟨by simp,fin _ _ (by omega) (by omega) (by omega) (λ_=>by omega)⟩
def fdR(x:Row):Fd:=(x.1,x.2.1,fmA x.2.2)
def uG:PSp:=λas R=>∃l m rs,as=[.va (rcT l m rs)]/\rs.length<=6/\R (aO (.record l m (rs.map fdR)))
theorem C41_:bE ["_law_record","_law_fields"] ["_law_record"] (aL rB):=fsc (by decide +kernel)
theorem zJR(h:Has K mg "_law_record_part" rB)(B:Own mg)(G38_:PGood P w K mg base 1 "_law_form_of_atoms" ["_law_atoms_here"] lX)   : PGood P w K mg base 2 "_law_record_part" ["_law_record"] uG:=by
 have nd:=C41_.nd
 refine h.pgood C41_ (fun|_,_,_,_,_,_,[_],_=>rfl) (λf cdv A outer s H E F hr=>
   (aE (aI 1 nd (dI dJ rfl B.tuple_ boot_tuple (aB (bB (jP (sc:=aL rB) (XN:=["_law_record","_law_fields"]) (N:=["_law_name","_law_must","_law_atoms_here"]) (own:=3) (fr:=[]) rfl ⟨rfl,by decide +kernel,by decide +kernel,by decide +kernel,rfl,by decide +kernel,by decide,by decide +kernel⟩ (by decide) (bR (aF hr (aA 0) aD)) (λ_ _ _ _ _=>(iG 3 rfl (dE (bY 0 (by decide) (show(["_law_name","_law_must","_law_atoms_here"]:List Str).Nodup by decide +kernel) rfl (by first|exact Or.inl rfl|exact Or.inr rfl)) (dE (bY 1 (by decide) (show(["_law_name","_law_must","_law_atoms_here"]:List Str).Nodup by decide +kernel) rfl (by first|exact Or.inl rfl|exact Or.inr rfl)) (dE (bY 2 (by decide) (show(["_law_name","_law_must","_law_atoms_here"]:List Str).Nodup by decide +kernel) rfl (by first|exact Or.inl rfl|exact Or.inr rfl)) iB))))) (λ_ _ _ _ _=>jE) (λ_ _ _ _ _=>(aT (aB (aA 0) (aB (aA 1) (aB (aH G38_ hr (aB (aA 2) aC)) aC))))))) aC)))
   (aG (aQ (aT (aB aU (aB (aF hr (aA 0) aD) (aB (aF hr (aA 0) aD) (aB (aA 1) aC))))))))) (λas R q=>?_)
 obtain⟨l,m,rs,rfl,n6,q⟩:=q
 refine⟨rfl,_,aJ (j:=2) rfl,by rw[List.length_map];omega,eX rwT (λx=>bO (fdR x)) (λx hx R q=>⟨_,rfl,rfl,_,_,rfl,_,_,rfl,_,_,rfl,rfl,x.2.2,rfl,by simp,q⟩) ⟨_,_,rfl,?_⟩⟩
 rw[cW,List.map_map]at q
 exact⟨_,at0,_,aJ (j:=1) rfl,by simp,q⟩
end
end My
namespace My
open PySem L2 PyProof.Rows WordM
section
variable{P:Program}{w:World}{K:W.Frag}{mg:Str->Option Value}{base:Heap}
def fR:Nat->List Str->List Str
 |_,[]=>[]
 |b,x::xs=>if b % 2=1 then x::fR (b / 2) xs else fR (b / 2) xs
theorem mY:∀(ns:List Str) (b:Nat),(fR b ns).Sublist ns
 |[],_=>.slnil
 |x::xs,b=>by
  unfold fR
  split
  ·exact(mY xs (b / 2)).cons_cons x
  ·exact(mY xs (b / 2)).cons x
theorem zFm:∀{S ns:List Str},S.Sublist ns->∃b,b<2 ^ ns.length/\fR b ns=S:=by
 intro S ns h
 induction h with
 |slnil=>exact⟨0,by decide,rfl⟩
 |@cons l1 l2 a _ ih=>
  obtain⟨b,hb,e⟩:=ih
  refine⟨2*b,by rw[List.length_cons,Nat.pow_succ];omega,?_⟩
  unfold fR
  rw[if_neg (by omega),show 2*b / 2=b by omega,e]
 |@cons_cons l1 l2 a _ ih=>
  obtain⟨b,hb,e⟩:=ih
  refine⟨2*b+1,by rw[List.length_cons,Nat.pow_succ];omega,?_⟩
  unfold fR
  rw[if_pos (by omega),show(2*b+1) / 2=b by omega,e]
theorem zIY:∀v:Nat,v<64->Builtin.bitAnd (v:Int) 1=((v % 2:Nat):Int):=by decide +kernel
theorem zAp:∀(ns:List Str) (j b:Nat),((ns.zipIdx j).filterMap λx=>if b / 2 ^ x.2 % 2=1 then some (sT x.1) else none)=(fR (b / 2 ^ j) ns).map sT
 |[],_,_=>rfl
 |x::ns,j,b=>by
  rw[List.zipIdx_cons,List.filterMap_cons]
  have ih:=zAp ns (j+1) b
  have e:b / 2 ^ (j+1)=b / 2 ^ j / 2:=by rw[Nat.pow_succ,Nat.div_div_eq_div_mul]
  rw[e]at ih
  unfold fR
  by_cases z:b / 2 ^ j % 2=1
  ·rw[if_pos z,if_pos z,ih];rfl
  ·rw[if_neg z,if_neg z,ih]
def dA(L:List (List Str)):List Tv:=L.map λS=>.seq false (S.map sT)
def pY:PSp:=λas R=>∃ns:List Str,as=[.va (.seq false (ns.map sT))]/\ns.length<=6/\R (.seq false (dA ((List.range (2 ^ ns.length)).map λb=>fR b ns)))
theorem C43_:bE ["_law_names","_law_found","_law_bits"] ["_law_names"] (aL rA):=fsc (by decide +kernel)
theorem zJP(h:Has K mg "_law_subsets" rA)(B:Own mg)    : PGood P w K mg base 1 "_law_subsets" ["_law_names"] pY:=by
 have nd:=C43_.nd
 refine h.pgood C43_ (fun|_,_,_,_,_,_,[_],_=>rfl) (λf cdv A outer s H E F hr=>
   (aE (jI 1 nd (cA aC))
   (aE (eY (m:=3) PassesOwn.never rfl (hC rfl B.range (aB (aY zGY aD (aX bP rfl B.len PySem.boot_len (aB (aA 0) aC))) aC)) (bY 2 (by decide) nd rfl (.inr rfl))
    (aG (kX (kJ 1 (bB (jP (sc:=aL rA) (XN:=["_law_names","_law_found","_law_bits"]) (N:=["_law_k","_law_name","_law_bits"]) (own:=2) (fr:=[2]) rfl ⟨rfl,by decide +kernel,by decide +kernel,by decide +kernel,rfl,by decide +kernel,by decide,by decide +kernel⟩ (by decide) (tT rfl B.enumerate (aB (aA 0) aC)) (λ_ _ _ _ _=>(iG 2 rfl (dE (bY 0 (by decide) (show(["_law_k","_law_name","_law_bits"]:List Str).Nodup by decide +kernel) rfl (by first|exact Or.inl rfl|exact Or.inr rfl)) (dE (bY 1 (by decide) (show(["_law_k","_law_name","_law_bits"]:List Str).Nodup by decide +kernel) rfl (by first|exact Or.inl rfl|exact Or.inr rfl)) iB)))) (λ_ _ _ _ _=>(cQ (bJ hr (aY zFy (aY zGX (aA 2) (aA 0)) aD) aD))) (λ_ _ _ _ _=>(aA 1))))))))
   (aG (aQ (aA 1)))))) (λas R q=>?_)
 obtain⟨ns,rfl,n6,q⟩:=q
 have lm:(ns.map sT).length=ns.length:=List.length_map ..
 have hv:(1:Int)*2 ^ (((ns.map sT).length:Nat):Int).toNat=((2 ^ ns.length:Nat):Int):=by rw[lm,Int.one_mul,Int.toNat_natCast];norm_cast
 have p64:2 ^ ns.length<=64:=Nat.pow_le_pow_right (by decide) n6
 refine⟨rfl,by simp,⟨by omega,by omega,by omega⟩,((2 ^ ns.length:Nat):Int),by show [Tv.leaf (.int ((1:Int)*2 ^ (((ns.map sT).length:Nat):Int).toNat))]=_;rw[hv],by generalize 2 ^ ns.length=z at p64;omega,by generalize 2 ^ ns.length=z at p64;omega,?_⟩
 rw[Int.toNat_natCast]
 refine gJ (λi ρ=>∃s:Sl,ρ=[.va (.seq false (ns.map sT)),.own (dA ((List.range i).map λb=>fR b ns)),s]) ⟨.no,rfl⟩ ?_ ?_
 ·rintro i T _ N hT ⟨s,rfl⟩ hN
  obtain⟨hi,rfl⟩:=jA hT
  rw[Int.zero_add]
  have ez:(ns.map sT).mapIdx (λi T=>Tv.seq true [iT (i:Nat),T])=(ns.zipIdx 0).map λx=>.seq true [iT (x.2:Nat),sT x.1]:=by
   apply List.ext_getElem (by simp)
   intro k h1 h2
   simp
  refine⟨⟨_,rfl⟩,_,rfl,by simp;omega,?_⟩
  rw[ez]
  refine cP (λx:Str×Nat=>Tv.seq true [iT (x.2:Nat),sT x.1]) (λx=>if i / 2 ^ x.2 % 2=1 then some (sT x.1) else none) (λx hx R q=>?_) ?_
  ·refine⟨_,rfl,rfl,_,_,rfl,_,_,rfl,rfl,by omega,?_⟩
   have e1:((i:Int) / 2 ^ ((x.2:Nat):Int).toNat)=((i / 2 ^ x.2:Nat):Int):=by rw[Int.toNat_natCast];norm_cast
   have lt:i / 2 ^ x.2<64:=Nat.lt_of_le_of_lt (Nat.div_le_self _ _) (by generalize 2 ^ ns.length=z at p64 hi;omega)
   refine⟨_,rfl,?_⟩
   show if (false != eqV (.int (Builtin.bitAnd ((i:Int) / 2 ^ ((x.2:Nat):Int).toNat) 1)) (.int 1))=true then _ else _
   rw[e1,zIY _ lt]
   by_cases z:i / 2 ^ x.2 % 2=1
   ·rw[if_pos z]at q;rw[z];exact bH q
   ·rw[if_neg z]at q;rw[show i / 2 ^ x.2 % 2=0 by omega];exact aV q
  ·rw[zAp,Nat.pow_zero,Nat.div_one]
   refine⟨_,rfl,by unfold dA;rw[List.length_map,List.length_map,List.length_range];generalize 2 ^ ns.length=z at p64 hi;omega,hN _ ⟨.va (iT i),?_⟩⟩
   show [Sl.va (.seq false (ns.map sT)),.own _,.va (iT i)]=_
   rw[List.range_succ,List.map_append]
   unfold dA
   rw[List.map_append]
   rfl
 ·rintro _ ⟨s,rfl⟩
  rw[hX]
  exact q
theorem wY(S:List Str)(n:Str):((S.map sT).any λU=>eqT U (sT n))=decide (n∈S):=by
 rw[Bool.eq_iff_iff,List.any_eq_true,decide_eq_true_iff]
 constructor
 ·rintro⟨U,hU,e⟩
  obtain⟨s,hs,rfl⟩:=List.mem_map.mp hU
  have e:decide (s=n)=true:=by rw[<-pO];exact e
  rw[<-of_decide_eq_true e];exact hs
 ·exact λh=>⟨sT n,List.mem_map.mpr ⟨n,h,rfl⟩,by rw[pO];exact decide_eq_true rfl⟩
end
end My
namespace My
open PySem L2 PyProof.Rows WordM
section
variable{P:Program}{w:World}{K:W.Frag}{mg:Str->Option Value}{base:Heap}
def dcT(L:List (Str×At)):Tv:=.dct (L.map λx=>(x.1,.seq false (atL x.2)))
def atD(L:List (Str×At))(n:Str):At:=((L.find? λx=>decide (x.1=n)).map (·.2)).getD (false,false,false)
def mP(Ss:List (List Str))(L:List (Str×At))(n:Str):Fd:=(n,Ss.all (λS=>decide (n∈S)),fmA (atD L n))
noncomputable def eO(Ss:List (List Str)):List Str:=bU (bM Ss.flatten)
def szD(Ss:List (List Str)):List Int:=Ss.map λS=>((S.length:Nat):Int)
theorem zA8{L:List (Str×At)}{n:Str}(h:n∈L.map (·.1)):fQ (L.map λx=>(x.1,Tv.seq false (atL x.2))) n=some (.seq false (atL (atD L n))):=by
 unfold fQ atD
 induction L with
 |nil=>exact nomatch h
 |cons x L ih=>
  rw[List.map_cons,List.find?_cons,List.find?_cons]
  by_cases z:x.1=n
  ·simp[z]
  ·have h:n∈L.map (·.1):=by
    rcases List.mem_cons.mp h with e|h
    ·exact absurd e.symm z
    ·exact h
   rw[decide_eq_false z]
   exact ih h
def nJ:PSp:=λas R=>∃(Ss:List (List Str)) (L:List (Str×At)),as=[.va (.seq false (dA Ss)),.va (dcT L)]/\Ss.length<=64/\(∀S∈Ss,S.length<=6/\∀n∈S,n∈L.map (·.1))/\(bM Ss.flatten).length<=6/\(Ss=[]->R (bC [])) /\
 ∀lo hi,lo∈szD Ss->(∀a∈szD Ss,lo<=a)->hi∈szD Ss->(∀a∈szD Ss,a<=hi)->R (bC [.record lo hi ((eO Ss).map (mP Ss L))])
theorem C42_:bE ["_law_sets","_law_atoms_here","_law_names","_law_some","_law_fields","_law_name","_law_must","_law_sizes"] ["_law_sets","_law_atoms_here"] (aL oB):=fsc (by decide +kernel)
theorem zJQ(h:Has K mg "_law_due_record" oB)(B:Own mg)(G38_:PGood P w K mg base 1 "_law_form_of_atoms" ["_law_atoms_here"] lX)   : PGood P w K mg base 2 "_law_due_record" ["_law_sets","_law_atoms_here"] nJ:=by
 have nd:=C42_.nd
 refine h.pgood C42_ (fun|_,_,_,_,_,_,[_,_],_=>rfl) (λf cdv A outer s H E F hr=>
   (aE (aZ (bJ hr (aA 0) (bB (cA aC)))
    (aG (aQ (aT aC)))
    bA)
   (aE (aI 2 nd (bB (cA aC)))
   (aE (eY (m:=8) PassesOwn.never rfl (bR (aA 0)) (bY 3 (by decide) nd rfl (.inl rfl))
    (aG (aI 2 nd (aY bQ (aA 2) (aA 3)))))
   (aE (jI 4 nd (cA aC))
   (aE (eY (m:=8) PassesOwn.never rfl (bR (bB (oV rfl rfl B.sorted rfl B.set_ (aA 2)))) (bY 5 (by decide) nd rfl (.inr rfl))
    (aE (aI 6 nd (fP (jV hr.units).op (bB (dR (sc:=aL oB) (XN:=["_law_sets","_law_atoms_here","_law_names","_law_some","_law_fields","_law_name","_law_must","_law_sizes"]) (N:=["_law_some","_law_name"]) (fr:=[5]) (bR (aA 0)) (λ_ _ _ _ _=>(cQ (bX (mX hr.units) (aA 1) (aA 0) rfl))) (λ_ _ _ _ _=>(aA 0)))) (bB (cA aC))))
    (aG (kX (kJ 4 (aT (aB (aA 5) (aB (aA 6) (aB (aH G38_ hr (aB (aF hr (aA 1) (aA 5)) aC)) aC)))))))))
   (aE (jT (sc:=aL oB) (XN:=["_law_sets","_law_atoms_here","_law_names","_law_some","_law_fields","_law_name","_law_must","_law_sizes"]) (N:=["_law_some"]) (fr:=[]) 7 nd (bR (aA 0)) (λ_ _ _ _ _=>jE) (λ_ _ _ _ _=>(aX bP rfl B.len PySem.boot_len (aB (aA 0) aC))))
   (aG (aQ (aT (aB (aT (aB aU (aB (aX (gC rfl) rfl B.min boot_min (aB (aA 7) aC)) (aB (aX (fM rfl) rfl B.max boot_max (aB (aA 7) aC)) (aB (dI dJ rfl B.tuple_ boot_tuple (aB (aA 4) aC)) aC))))) aC))))))))))) (λas R q=>?_)
 obtain⟨Ss,L,rfl,n64,hS,n6,q0,q⟩:=q
 refine⟨rfl,by simp,.inr (.inl rfl),_,rfl,?_⟩
 show if (false != (true&&bK (dA Ss) []))=true then _ else _
 cases eS:Ss with
 |nil=>exact bH ⟨by simp,q0 eS⟩
 |cons S0 Sr=>
  rw[<-eS]
  have ne:0<Ss.length:=by rw[eS];exact Nat.succ_pos _
  rw[show(false != (true&&bK (dA Ss) []))=false by rw[eS];rfl]
  have fl:∀i,(Ss.take i).flatten.length<=6*(Ss.take i).length:=λi=>by
   have:∀Q:List (List Str),(∀S∈Q,S.length<=6)->Q.flatten.length<=6*Q.length:=by
    intro Q
    induction Q with
    |nil=>exact λ_=>Nat.le_refl _
    |cons S Q ih=>
     intro h
     rw[List.flatten_cons,List.length_append,List.length_cons]
     have:=ih λS hS=>h S (.tail _ hS)
     have:=h S (.head _)
     omega
   exact this _ λS h=>(hS S (List.mem_of_mem_take h)).1
  refine aV ⟨by simp,?_⟩
  refine nC (λS:List Str=>Tv.seq false (S.map sT)) (l:=Ss) (λi ρ=>∃s3:Sl,ρ=[.va (.seq false (dA Ss)),.va (dcT L),.va (.seq false ((Ss.take i).flatten.map sT)),s3,.no,.no,.no,.no]) ⟨.no,rfl⟩ ?_ ?_
  ·rintro i S _ N hi ⟨s3,rfl⟩ hN
   have hS6:=(hS S (List.mem_of_getElem? hi)).1
   have:=fl i
   rw[List.length_take]at this
   refine⟨by rw[List.length_map,List.length_map];omega,hN _ ⟨.va (.seq false (S.map sT)),?_⟩⟩
   rw[List.take_add_one,hi,Option.toList_some,List.flatten_append,List.flatten_singleton,List.map_append]
   rfl
  ·rintro _ ⟨s3,rfl⟩
   rw[List.take_length]
   refine⟨by simp,Ss.flatten,rfl,by have:=fl Ss.length;rw[List.take_length]at this;omega,by omega,?_⟩
   refine nC sT (l:=bU (bM Ss.flatten)) (λi ρ=>∃s5 s6:Sl,ρ=[.va (.seq false (dA Ss)),.va (dcT L),.va (.seq false (Ss.flatten.map sT)),s3,.own (((eO Ss).take i).map λn=>bO (mP Ss L n)),s5,s6,.no]) ⟨.no,.no,rfl⟩ ?_ ?_
   ·rintro i n _ N hi ⟨s5,s6,rfl⟩ hN
    have hmem:n∈Ss.flatten:=(gH _ _).mp ((fY _).mem_iff.mp (List.mem_of_getElem? hi))
    obtain⟨S,hSS,hnS⟩:=List.mem_flatten.mp hmem
    have hnL:=(hS S hSS).2 n hnS
    refine⟨by unfold dA;rw[List.length_map];omega,?_⟩
    refine cP (λS:List Str=>Tv.seq false (S.map sT)) (λS=>if n∈S then none else some (.seq false (S.map sT))) (l:=Ss) (λS hS R q=>⟨⟨trivial,λU hU=>?_⟩,_,rfl,?_⟩) ?_
    ·obtain⟨s,_,rfl⟩:=List.mem_map.mp hU;trivial
    ·show if (true != (S.map sT).any λU=>L2.eqT U (sT n))=true then _ else _
     rw[wY]
     by_cases z:n∈S
     ·rw[if_pos z]at q;rw[decide_eq_true z];exact aV q
     ·rw[if_neg z]at q;rw[decide_eq_false z];exact bH q
    ·refine⟨by simp,.inr (.inl rfl),?_⟩
     have el:(false != (true&&bK (Ss.filterMap λS=>if n∈S then none else some (Tv.seq false (S.map sT))) []))=Ss.all λS=>decide (n∈S):=by
      generalize Ss=Q
      induction Q with
      |nil=>rfl
      |cons S Q ih=>
       rw[List.filterMap_cons,List.all_cons]
       by_cases z:n∈S
       ·rw[if_pos z,decide_eq_true z,Bool.true_and];exact ih
       ·rw[if_neg z,decide_eq_false z,Bool.false_and];rfl
     show PEnds.nx _ _
     refine nxE (ρ':=[.va (.seq false (dA Ss)),.va (dcT L),.va (.seq false (Ss.flatten.map sT)),s3,.own (((eO Ss).take i).map λn=>bO (mP Ss L n)),.va (sT n),.va (bT (Ss.all λS=>decide (n∈S))),.no]) (by rw[<-el];rfl) ?_
     refine⟨⟨_,rfl⟩,_,zA8 hnL,_,rfl,by simp,_,rfl,by rw[List.length_map,List.length_take];unfold eO;rw[kL];omega,hN _ ⟨.va (sT n),.va (bT (Ss.all λS=>decide (n∈S))),?_⟩⟩
     have hi:(eO Ss)[i]?=some n:=hi
     rw[List.take_add_one,hi,Option.toList_some,List.map_append]
     rfl
   ·rintro _ ⟨s5,s6,rfl⟩
    have:(bU (bM Ss.flatten)).length=(eO Ss).length:=rfl
    rw[this,List.take_length]
    refine⟨by unfold dA;rw[List.length_map];omega,?_⟩
    refine eX (λS:List Str=>Tv.seq false (S.map sT)) (λS=>iT ((S.length:Nat):Int)) (l:=Ss) (λS hS R q=>?_) ?_
    ·have q:R (some (iT ((S.length:Nat):Int))) _:=q
     rw[<-List.length_map (f:=sT)]at q
     exact q
    ·have es:(Ss.map λS=>iT ((S.length:Nat):Int))=(szD Ss).map iT:=by unfold szD;rw[List.map_map];rfl
     have ls:0<(szD Ss).length:=by unfold szD;rw[List.length_map];exact ne
     rw[es]
     show PEnds.nx _ _
     refine nxE (ρ':=[.va (.seq false (dA Ss)),.va (dcT L),.va (.seq false (Ss.flatten.map sT)),s3,.own ((eO Ss).map λn=>bO (mP Ss L n)),s5,s6,.va (.seq false ((szD Ss).map iT))]) rfl ?_
     refine .inr (.inl ⟨szD Ss,rfl,ls,λlo lo1 lo2=>.inr (.inl ⟨szD Ss,rfl,ls,λhi hi1 hi2=>?_⟩)⟩)
     have q:=q lo hi lo1 lo2 hi1 hi2
     have q:R (.seq true [aO _]):=q
     rw[cW,List.map_map]at q
     exact⟨_,_,rfl,by simp,by simp,q⟩
end
end My
namespace My
open PySem L2 PyProof.Rows WordM
section
variable{P:Program}{w:World}{K:W.Frag}{mg:Str->Option Value}{base:Heap}
variable{n:Nat}
theorem vM{c:Nat}{S:Str}{A B:Prop}(h1:c∈cs S->A)(h2:c∉cs S->B):if (false != inS ⟨#[c]⟩ S)=true then A else B:=by
 have:(false != inS ⟨#[c]⟩ S)=decide (c∈cs S):=by unfold inS;rw[StrLaws.found_one];simp
 rw[this]
 exact cJ h1 h2
theorem zHM(xs:List Tv):(false != ((false==false)&&bK xs []))=xs.isEmpty:=by
 cases xs with
 |nil=>simp[bK]
 |cons x xs=>simp[bK]
theorem all_nil(l:List Nat)(ms:List Str):(true&&(true&&true&&l.all λc=>decide (cN c∈ms)))=(l.filterMap λc=>if cN c∈ms then none else some (sT ⟨#[c]⟩)).isEmpty:=by
 induction l with
 |nil=>rfl
 |cons c l ih=>
  rw[List.all_cons,List.filterMap_cons]
  by_cases z:cN c∈ms
  ·rw[if_pos z,decide_eq_true z];simpa using ih
  ·rw[if_neg z,decide_eq_false z];rfl
def nH:PSp:=λas R=>∃c:Nat,as=[.va (sT ⟨#[c]⟩)]/\R (sT (cN c))
theorem C30_:bE ["_law_sign"] ["_law_sign"] (aL wE):=fsc (by decide +kernel)
theorem zJ2(h:Has K mg "_law_mark" wE)(B:Own mg)    : PGood P w K mg base 1 "_law_mark" ["_law_sign"] nH:=by
 have nd:=C30_.nd
 refine h.pgood C30_ (fun|_,_,_,_,_,_,[_],_=>rfl) (λf cdv A outer s H E F hr=>
   (aE (aZ (bX (eV hr.units) (aA 0) aU rfl)
    (aG (aQ aU))
    bA)
   (aE (aZ (bX (eV hr.units) (aA 0) aU rfl)
    (aG (aQ aU))
    bA)
   (aE (aZ (bX (eV hr.units) (aA 0) aU rfl)
    (aG (aQ aU))
    bA)
   (aG (aQ aU)))))) (λas R q=>?_)
 obtain⟨c,rfl,q⟩:=q
 unfold cN at q
 refine⟨rfl,_,rfl,vM (λa=>?_) (λa=>⟨_,rfl,vM (λb=>?_) (λb=>⟨_,rfl,vM (λd=>?_) (λd=>?_)⟩)⟩)⟩
 ·rw[if_pos (show c∈cs mH from a)]at q;exact q
 ·rw[if_neg (show c∉cs mH from a),if_pos (show c∈cs nE from b)]at q;exact q
 ·rw[if_neg (show c∉cs mH from a),if_neg (show c∉cs nE from b),if_pos (show c∈cs pV from d)]at q;exact q
 ·rw[if_neg (show c∉cs mH from a),if_neg (show c∉cs nE from b),if_neg (show c∉cs pV from d)]at q;exact q
theorem C31_:bE ["_law_words","_law_text_here","_law_rest"] ["_law_words","_law_text_here"] (aL rK):=fsc (by decide +kernel)
theorem zJ1(h:Has K mg "_law_words_let" rK)(B:Own mg)(G30_:PGood P w K mg base 1 "_law_mark" ["_law_sign"] nH)   : PGood P w K mg base 2 "_law_words_let" ["_law_words","_law_text_here"] iY:=by
 have nd:=C31_.nd
 refine h.pgood C31_ (fun|_,_,_,_,_,_,[_,_],_=>rfl) (λf cdv A outer s H E F hr=>
   (aE (aZ (bJ hr (aF hr (aA 0) aD) aU)
    (aG (aQ (fP (eV hr.units).op (aA 1) (aF hr (aA 0) aD) rfl)))
    bA)
   (aE (aI 2 nd (eG eM (aA 1) (eI (aX bP rfl B.len PySem.boot_len (aB (aF hr (aA 0) aD) aC))) eJ))
   (aE (aZ (dZ (fO (gB (cM (lH PySem.F.slot_str_startswith PySem.F.type_str_startswith pE (aA 1) (aB (aF hr (aA 0) aD) aC)))) (gA (gB (tG gR gR (aF hr (aA 0) aD) (aX bP rfl B.len PySem.boot_len (aB (aA 2) aC)) (aF hr (aA 0) aD))))))
    (aG (aQ eZ))
    bA)
   (aG (aQ (fP (jV hr.units).op (bB (dR (sc:=aL rK) (XN:=["_law_words","_law_text_here","_law_rest"]) (N:=["_law_sign","_law_words"]) (fr:=[0]) (bR (aA 2)) (λ_ _ _ _ _=>(cQ (bX (mX hr.units) (aH G30_ hr (aB (aA 0) aC)) (aF hr (aA 1) aD) rfl))) (λ_ _ _ _ _=>(aA 0)))) (bB (cA aC))))))))) (λas R q=>?_)
 obtain⟨W,x,rfl,ok,sx,lx,q⟩:=q
 refine⟨rfl,?_⟩
 cases W with
 |few ss=>
  refine⟨_,rfl,_,rfl,cU (λ_=>⟨_,rfl,iA,?_⟩) (λh=>absurd rfl h)⟩
  rw[fZ]
  have:(false != decide (x∈ss))=bS (.few ss) x:=by simp[bS]
  rw[this]
  exact q
 |make hd lo hi ms=>
  have hhd:hd.length<=50:=ok.1.2
  refine⟨_,rfl,_,rfl,cU (λh=>absurd h (by decide +kernel)) (λ_=>?_)⟩
  have q':∀b,bS (.make hd lo hi ms) x=b->R (bT b):=λb e=>e▸q
  refine⟨_,rfl,by omega,_,rfl,by omega,?_⟩
  have hrl:(bD x hd).length<=1000:=Nat.le_trans (WordM.slice_len ..) lx
  refine⟨rfl,_,rfl,_,_,rfl,rfl,_,rfl,?_⟩
  refine sif (λh1=>?_) (λh1=>?_)
  ·have h1:stW x hd=false:=by
    have h1:(!(stW x hd))=true:=h1
    simpa using h1
   refine bH (q' false ?_)
   show(stW x hd&&_)=false
   rw[h1];rfl
  ·have h1:stW x hd=true:=by
    have h1:(!(stW x hd))=false:=h1
    simpa using h1
   refine⟨_,rfl,by show(bD x hd).length<=100000;omega,_,rfl,cJ (λh2=>⟨_,rfl,_,rfl,sif (λh3=>?_) (λh3=>?_)⟩) (λh2=>⟨false,rfl,bH (q' _ ?_)⟩)⟩
   ·have h3:¬ ((bD x hd).length:Int)<=hi:=by
     have h3:(!decide (((bD x hd).length:Int)<=hi))=true:=h3
     simpa using h3
    refine q' _ ?_
    show(stW x hd&&_)=_
    rw[decide_eq_false h3];simp
   ·have h3:((bD x hd).length:Int)<=hi:=by
     have h3:(!decide (((bD x hd).length:Int)<=hi))=false:=h3
     simpa using h3
    have h2:lo<=((bD x hd).length:Int):=h2
    refine⟨by rw[List.length_map,<-WordM.len];exact Nat.le_trans hrl (by omega),?_⟩
    refine cP (λc=>sT ⟨#[c]⟩) (λc=>if cN c∈ms then none else some (sT ⟨#[c]⟩)) (λc hc R q=>⟨c,rfl,_,rfl,iA,?_⟩) ?_
    ·refine⟨_,rfl,sif (λz=>?_) (λz=>?_)⟩
     ·rw[fZ]at z
      rw[if_neg (by simpa using z)]at q
      exact q
     ·rw[fZ]at z
      rw[if_pos (by simpa using z)]at q
      exact q
    ·refine⟨by simp,.inr (.inl rfl),q' _ ?_⟩
     show(stW x hd&&_)=_
     rw[h1,decide_eq_true h2,decide_eq_true h3,zHM]
     exact all_nil (cs (bD x hd)) ms
   ·have h2:¬ lo<=((bD x hd).length:Int):=h2
    show(stW x hd&&_)=_
    rw[decide_eq_false h2];simp
end
section
variable{P:Program}{w:World}{K:W.Frag}{mg:Str->Option Value}{base:Heap}
theorem zFr{x hd:Str}(h:Sg x):Sg (bD x hd):=by
 intro c hc
 exact h c (WordM.slice_mem hc)
theorem zBs(xs:List Tv):(true != ((false==false)&&bK xs []))=!xs.isEmpty:=by
 cases xs with
 |nil=>simp[bK]
 |cons x xs=>simp[bK]
def vN:PSp:=λas R=>∃h a b ms h2 a2 b2 ms2,as=[.va (aW (.make h a b ms)),.va (aW (.make h2 a2 b2 ms2))]/\bL (.make h a b ms)/\bL (.make h2 a2 b2 ms2)/\R (fB (cO (.make h a b ms) (.make h2 a2 b2 ms2)))
theorem C34_:bE ["_law_one","_law_other","_law_rest","_law_marks","_law_most","_law_least"] ["_law_one","_law_other"] (aL oC):=fsc (by decide +kernel)
theorem zJY(h:Has K mg "_law_makes_met" oC)(B:Own mg)(G30_:PGood P w K mg base 1 "_law_mark" ["_law_sign"] nH)   : PGood P w K mg base 3 "_law_makes_met" ["_law_one","_law_other"] vN:=by
 have nd:=C34_.nd
 refine h.pgood C34_ (fun|_,_,_,_,_,_,[_,_],_=>rfl) (λf cdv A outer s H E F hr=>
   (aE (aZ (bX qJ (aX bP rfl B.len PySem.boot_len (aB (aF hr (aA 0) aD) aC)) (aX bP rfl B.len PySem.boot_len (aB (aF hr (aA 1) aD) aC)))
    (aG (zA9 (m:=6) (aT (aB (aA 1) (aB (aA 0) aC))) (iG 2 rfl (dE (bY 0 (by decide) nd rfl (.inl rfl)) (dE (bY 1 (by decide) nd rfl (.inr rfl)) iB)))))
    bA)
   (aE (aI 2 nd (eG eM (aF hr (aA 0) aD) (eI (aX bP rfl B.len PySem.boot_len (aB (aF hr (aA 1) aD) aC))) eJ))
   (aE (aZ (dZ (fO (gB (cM (lH PySem.F.slot_str_startswith PySem.F.type_str_startswith pE (aF hr (aA 0) aD) (aB (aF hr (aA 1) aD) aC)))) (gA (iM hr (bB (dR (sc:=aL oC) (XN:=["_law_one","_law_other","_law_rest","_law_marks","_law_most","_law_least"]) (N:=["_law_sign","_law_other"]) (fr:=[1]) (bR (aA 2)) (λ_ _ _ _ _=>(cQ (bX (mX hr.units) (aH G30_ hr (aB (aA 0) aC)) (aF hr (aA 1) aD) rfl))) (λ_ _ _ _ _=>(aA 0)))) (bB (cA aC))))))
    (aG (aQ cZ))
    bA)
   (aE (aI 3 nd (dI dJ rfl B.tuple_ boot_tuple (aB (bB (dR (sc:=aL oC) (XN:=["_law_one","_law_other","_law_rest","_law_marks","_law_most","_law_least"]) (N:=["_law_mark_here","_law_other"]) (fr:=[1]) (bR (aF hr (aA 0) aD)) (λ_ _ _ _ _=>(cQ (bX (eV hr.units) (aA 0) (aF hr (aA 1) aD) rfl))) (λ_ _ _ _ _=>(aA 0)))) aC)))
   (aE (aI 4 nd (aX (gC rfl) rfl B.min boot_min (aB (aF hr (aA 0) aD) (aB (aY gL (aF hr (aA 1) aD) (aX bP rfl B.len PySem.boot_len (aB (aA 2) aC))) aC))))
   (aE (aZ (bJ hr (aA 3) (aT aC))
    (aG (aI 4 nd (aX (gC rfl) rfl B.min boot_min (aB (aA 4) (aB aD aC)))))
    bA)
   (aE (aI 5 nd (aX (fM rfl) rfl B.max boot_max (aB (aF hr (aA 0) aD) (aB (aY gL (aF hr (aA 1) aD) (aX bP rfl B.len PySem.boot_len (aB (aA 2) aC))) aC))))
   (aE (aZ (bX jF (aA 5) (aA 4))
    (aG (aQ cZ))
    bA)
   (aE (aZ (bJ hr (aA 4) aD)
    (aG (aQ (aT (aB aU (aB (aT (aB (aF hr (aA 0) aD) aC)) aC)))))
    bA)
   (aG (aQ (aT (aB aU (aB (aF hr (aA 0) aD) (aB (aA 5) (aB (aA 4) (aB (aA 3) aC)))))))))))))))))) (λas R q=>?_)
 obtain⟨h,a,b,ms,h2,a2,b2,ms2,rfl,ok,ok2,q⟩:=q
 have l1:=ok.1.2
 have l2:=ok2.1.2
 refine⟨rfl,?_⟩
 show gV _ _ _ [.va (aW (.make h a b ms)),.va (aW (.make h2 a2 b2 ms2)),.no,.no,.no,.no]
 refine hE (J:=λρ'=>∃h a b ms h2 a2 b2 ms2,bL (.make h a b ms)/\bL (.make h2 a2 b2 ms2)/\R (fB (bV h a b ms h2 a2 b2 ms2))/\ρ'=[.va (aW (.make h a b ms)),.va (aW (.make h2 a2 b2 ms2)),.no,.no,.no,.no]) ?rest (λrest=>?main)
 case main=>
  have q:R (fB (if h.length<h2.length then bV h2 a2 b2 ms2 h a b ms else bV h a b ms h2 a2 b2 ms2)):=q
  refine⟨_,aJ (j:=1) rfl,by show h.length<=_;omega,_,aJ (j:=1) rfl,by show h2.length<=_;omega,_,rfl,cJ (λz=>?_) (λz=>?_)⟩
  ·have z:((h.length:Nat):Int)<(h2.length:Nat):=z
   rw[if_pos (by omega)]at q
   exact⟨by simp,_,rfl,rfl,_,_,rfl,_,_,rfl,rfl,rest _ ⟨h2,a2,b2,ms2,h,a,b,ms,ok2,ok,q,rfl⟩⟩
  ·have z:¬ ((h.length:Nat):Int)<(h2.length:Nat):=z
   rw[if_neg (by omega)]at q
   exact rest _ ⟨h,a,b,ms,h2,a2,b2,ms2,ok,ok2,q,rfl⟩
 clear q ok ok2 l1 l2
 rintro _ ⟨h,a,b,ms,h2,a2,b2,ms2,ok,ok2,q,rfl⟩
 obtain⟨⟨hS,hl⟩,a0,ab,b1,b6,sub,ne⟩:=ok
 obtain⟨⟨hS2,hl2⟩,a02,ab2,b12,b62,sub2,ne2⟩:=ok2
 have rl:(bD h h2).length<=50:=Nat.le_trans (WordM.slice_len ..) hl
 have m4:ms.length<=4:=sub.length_le
 refine⟨_,aJ (j:=1) rfl,_,aJ (j:=1) rfl,by show h2.length<=_;omega,_,rfl,by omega,?_⟩
 show PEnds.nx _ _
 let W1:Tv:=aW (.make h a b ms)
 let W2:Tv:=aW (.make h2 a2 b2 ms2)
 refine nxE (ρ':=[.va W1,.va W2,.va (sT (bD h h2)),.no,.no,.no]) rfl ?_
 have rS:Sg (bD h h2):=zFr hS
 unfold bV at q
 rw[marks_all rS]at q
 refine⟨_,aJ (j:=1) rfl,rfl,_,aJ (j:=1) rfl,_,_,rfl,rfl,_,rfl,?_⟩
 show if (!stW h h2)=true then _ else _
 cases z1:stW h h2 with
 |false=>rw[z1,Bool.false_and,if_neg Bool.false_ne_true]at q;exact bH (bH q)
 |true=>
  rw[z1,Bool.true_and]at q
  refine aV ⟨by rw[List.length_map,<-WordM.len];omega,?_⟩
  refine cP (λc=>sT ⟨#[c]⟩) (λc=>if cN c∈ms2 then none else some (sT ⟨#[c]⟩)) (λc hc R q=>⟨c,rfl,_,aJ (j:=4) rfl,iA,?_⟩) ?_
  ·refine⟨_,rfl,sif (λz=>?_) (λz=>?_)⟩
   ·rw[fZ]at z
    rw[if_neg (by simpa using z)]at q
    exact q
   ·rw[fZ]at z
    rw[if_pos (by simpa using z)]at q
    exact q
  refine⟨by simp,.inr (.inl rfl),_,rfl,?_⟩
  have ea:=all_nil (cs (bD h h2)) ms2
  rw[Bool.true_and,Bool.true_and,Bool.true_and]at ea
  refine sif (λz=>?_) (λz=>?_)
  ·rw[zBs,<-ea]at z
   rw[if_neg (by simpa using z)]at q
   exact q
  rw[zBs,<-ea]at z
  rw[if_pos (by simpa using z)]at q
  refine⟨_,aJ (j:=4) rfl,by rw[List.length_map];omega,cP sT (λm=>if decide (m∈ms2)=true then some (sT m) else none) (λm hm R q=>⟨_,aJ (j:=4) rfl,iA,_,rfl,?_⟩) ?_⟩
  ·rw[fZ]
   cases z:decide (m∈ms2) with
   |true=>rw[if_pos z]at q;exact bH q
   |false=>rw[if_neg (by rw[z];exact Bool.false_ne_true)]at q;exact aV q
  rw[qD]
  have lM:(ms.filter λm=>decide (m∈ms2)).length<=4:=Nat.le_trans (List.length_filter_le _ _) m4
  generalize (ms.filter λm=>decide (m∈ms2))=M at q lM
  clear ea z
  generalize bD h h2=t at q rl
  refine⟨false,_,rfl,?_⟩
  show PEnds.nx _ _
  refine nxE (ρ':=[.va W1,.va W2,.va (sT t),.va (.seq true (M.map sT)),.no,.no]) rfl ?_
  refine⟨_,aJ (j:=3) rfl,_,aJ (j:=3) rfl,by show t.length<=_;omega,.inl ⟨_,_,rfl,?_⟩⟩
  show PEnds.nx _ _
  generalize min b (b2-(t.length:Nat))=hi at q
  refine nxE (ρ':=[.va W1,.va W2,.va (sT t),.va (.seq true (M.map sT)),.va (iT hi),.no]) rfl ?_
  dsimp only
  refine hE (J:=λρ'=>ρ'=[.va W1,.va W2,.va (sT t),.va (.seq true (M.map sT)),.va (iT (if M=[] then min hi 0 else hi)),.no]) ?rest2 (λrest=>⟨by simp,.inr (.inl rfl),_,rfl,?main2⟩)
  case main2=>
   cases M with
   |nil=>exact bH (.inl ⟨_,_,rfl,rest _ rfl⟩)
   |cons m M=>exact aV (rest _ rfl)
  rintro _ rfl
  generalize (if M=[] then min hi 0 else hi)=hi' at q
  refine⟨_,aJ (j:=2) rfl,_,aJ (j:=2) rfl,by show t.length<=_;omega,.inl ⟨_,_,rfl,?_⟩⟩
  show PEnds.nx _ _
  refine nxE (ρ':=[.va W1,.va W2,.va (sT t),.va (.seq true (M.map sT)),.va (iT hi'),.va (iT (max a (a2-(t.length:Nat))))]) rfl ?_
  generalize max a (a2-(t.length:Nat))=lo at q
  have q:R (fB (if hi'<lo then none else if hi'=0 then some (.few [h]) else some (.make h lo hi' M))):=q
  refine⟨_,rfl,cJ (λz=>?_) (λz=>⟨_,rfl,eB (λy=>?_) (λy=>?_)⟩)⟩
  ·rw[if_pos (show hi'<lo from z)]at q;exact q
  ·rw[if_neg (show ¬ hi'<lo from z),if_pos y]at q;exact⟨_,aJ (j:=1) rfl,by simp,by simp,q⟩
  ·rw[if_neg (show ¬ hi'<lo from z),if_neg y]at q;exact⟨_,aJ (j:=1) rfl,by simp,q⟩
theorem C35_:bE ["_law_one","_law_other","_law_texts"] ["_law_one","_law_other"] (aL rG):=fsc (by decide +kernel)
theorem zJX(h:Has K mg "_law_words_met" rG)(B:Own mg)(G34_:PGood P w K mg base 3 "_law_makes_met" ["_law_one","_law_other"] vN)(G31_:PGood P w K mg base 2 "_law_words_let" ["_law_words","_law_text_here"] iY)   : PGood P w K mg base 4 "_law_words_met" ["_law_one","_law_other"] iX:=by
 have nd:=C35_.nd
 refine h.pgood C35_ (fun|_,_,_,_,_,_,[_,_],_=>rfl) (λf cdv A outer s H E F hr=>
   (aE (aZ (dZ (lE (bJ hr (aF hr (aA 0) aD) aU) (kW (bJ hr (aF hr (aA 1) aD) aU))))
    (aG (aQ (aH G34_ hr (aB (aA 0) (aB (aA 1) aC)))))
    bA)
   (aE (aZ (bJ hr (aF hr (aA 0) aD) aU)
    (aG (zA9 (m:=3) (aT (aB (aA 1) (aB (aA 0) aC))) (iG 2 rfl (dE (bY 0 (by decide) nd rfl (.inl rfl)) (dE (bY 1 (by decide) nd rfl (.inr rfl)) iB)))))
    bA)
   (aE (aI 2 nd (dI dJ rfl B.tuple_ boot_tuple (aB (bB (dR (sc:=aL rG) (XN:=["_law_one","_law_other","_law_texts"]) (N:=["_law_text_here","_law_other"]) (fr:=[1]) (bR (aF hr (aA 0) aD)) (λ_ _ _ _ _=>(cQ (cM (aH G31_ hr (aB (aA 1) (aB (aA 0) aC)))))) (λ_ _ _ _ _=>(aA 0)))) aC)))
   (aE (aZ (bJ hr (aA 2) (aT aC))
    (aG (aQ cZ))
    bA)
   (aG (aQ (aT (aB aU (aB (aA 2) aC)))))))))) (λas R q=>?_)
 obtain⟨W,V,rfl,ok,ok2,q⟩:=q
 refine⟨rfl,?_⟩
 show gV _ _ _ [.va (aW W),.va (aW V),.no]
 refine hE (J:=λρ'=>ρ'=[.va (aW W),.va (aW V),.no]/\(zBu W&&zBu V)=false) ?rest (λrest=>?main)
 case main=>
  cases W with
  |few ss=>exact⟨_,at0,_,rfl,cU (λz=>absurd z (by decide +kernel)) (λ_=>aV (rest _ ⟨rfl,rfl⟩))⟩
  |make h a b ms=>
   cases V with
   |few ss=>exact⟨_,at0,_,rfl,cU (λ_=>⟨_,at0,_,rfl,cU (λz=>absurd z (by decide +kernel)) (λ_=>rest _ ⟨rfl,rfl⟩)⟩) (λz=>absurd rfl z)⟩
   |make h2 a2 b2 ms2=>exact⟨_,at0,_,rfl,cU (λ_=>⟨_,at0,_,rfl,cU (λ_=>⟨h,a,b,ms,h2,a2,b2,ms2,rfl,ok,ok2,q⟩) (λz=>absurd rfl z)⟩) (λz=>absurd rfl z)⟩
 rintro _ ⟨rfl,nb⟩
 refine hE (J:=λρ'=>∃(ss:List Str) (U:Wd),bL (.few ss)/\bL U/\R (fB (eP ss U))/\ρ'=[.va (aW (.few ss)),.va (aW U),.no]) ?rest2 (λrest=>?main2)
 case main2=>
  cases W with
  |few ss=>exact⟨_,at0,_,rfl,cU (λz=>absurd z (by decide +kernel)) (λ_=>rest _ ⟨ss,V,ok,ok2,q,rfl⟩)⟩
  |make h a b ms=>
   cases V with
   |few ss=>exact⟨_,at0,_,rfl,cU (λ_=>⟨by simp,_,rfl,rfl,_,_,rfl,_,_,rfl,rfl,rest _ ⟨ss,.make h a b ms,ok2,ok,q,rfl⟩⟩) (λz=>absurd rfl z)⟩
   |make h2 a2 b2 ms2=>cases nb
 clear q ok ok2
 rintro _ ⟨ss,W,ok,okW,q,rfl⟩
 obtain⟨s1,s6,sr,st⟩:=ok
 refine⟨_,aJ (j:=1) rfl,by rw[List.length_map];omega,cP sT (λt=>if bS W t=true then some (sT t) else none) (λt ht R q=>⟨W,t,rfl,okW,(st t ht).1,Nat.le_trans (st t ht).2 (by decide),_,rfl,?_⟩) ?_⟩
 ·cases z:bS W t with
  |true=>rw[if_pos z]at q;exact bH q
  |false=>rw[if_neg (by rw[z];exact Bool.false_ne_true)]at q;exact aV q
 rw[qD]
 unfold eP at q
 generalize ss.filter (bS W)=L at q
 refine⟨false,_,rfl,by simp,.inr (.inl rfl),_,rfl,?_⟩
 cases L with
 |nil=>exact bH q
 |cons x L=>exact aV ⟨by simp,q⟩
end
end My
namespace My
open PySem L2 PyProof.Rows WordM
section
variable{P:Program}{w:World}{K:W.Frag}{mg:Str->Option Value}{base:Heap}
theorem zHO{α:Type}(l:List α)(k:Nat):cR l none (some (k:Int))=l.take k:=by
 unfold cR
 rw[HT.sIx_none,HT.sIx_nat,List.drop_zero,Nat.sub_zero]
 rcases Nat.le_total k l.length with h|h
 ·rw[Nat.min_eq_left h]
 ·rw[Nat.min_eq_right h,List.take_of_length_le (Nat.le_refl _),List.take_of_length_le h]
theorem zE6{α:Type}(l:List α)(k:Nat):cR l (some (k:Int)) none=l.drop k:=by
 unfold cR
 rw[HT.sIx_none,HT.sIx_nat]
 rcases Nat.le_total k l.length with h|h
 ·rw[Nat.min_eq_left h];exact List.take_of_length_le (by rw[List.length_drop];exact Nat.le_refl _)
 ·rw[Nat.min_eq_right h,Nat.sub_self,List.drop_eq_nil_of_le h];rfl
theorem zV(ss:List Str):(bM ss).length<=ss.length:=ShowM.nodup_le (jC ss) λx hx=>(gH ss x).mp hx
theorem zCP{x:Str}{r:Int}(h0:0<=r)(h3:r<=3):(Txt.slice x none (some r)).length<=3:=by
 rcases Nat.le_total r.toNat x.length with h|h
 ·have e:=beq_iff_eq.mp (PyProof.Rows.slice_closes_toL (x:=x) (j:=r) (by omega) (by omega))
  rw[e,WordM.len]
  show(((cs x).drop 0).take _).length<=3
  rw[List.drop_zero,List.length_take]
  omega
 ·have:=WordM.slice_len x none (some r)
  omega
theorem zAZ{ss:List Str}(l0:ss≠[])(l6:(bM ss).length<=6)(h:∀s∈ss,oN s):bL (.few (bU (bM ss))):=by
 refine⟨?_,by rw[kL];omega,xF ss,λt ht=>h t (sort_set_mem.mp ht)⟩
 obtain⟨x,hx⟩:=List.exists_mem_of_ne_nil _ l0
 exact List.length_pos_of_mem (sort_set_mem.mpr hx)
def vO:PSp:=λas R=>∃nm tx st sp W,as=[.dk,.va (dF nm tx st sp),.va (aW W)]/\pR nm tx st sp/\WdS W/\∀w,bL w->R (aW w)
theorem C36_:bE ["_law_deck_here","_law_world_here","_law_words","_law_way","_law_some","_law_first","_law_head","_law_marks","_law_make_here","_law_text_here"] ["_law_deck_here","_law_world_here","_law_words"] (aL rF):=fsc (by decide +kernel)
theorem zJW(h:Has K mg "_law_kin_words" rF)(B:Own mg)(G24_:PGood P w K mg base 2 "_law_take" ["_law_deck_here","_law_most"] fH)(G33_:PGood P w K mg base 5 "_law_some_words" ["_law_deck_here","_law_world_here"] uE)(G26_:PGood P w K mg base 3 "_law_text" ["_law_deck_here","_law_most"] lO)(G30_:PGood P w K mg base 1 "_law_mark" ["_law_sign"] nH)(G32_:PGood P w K mg base 4 "_law_make" ["_law_deck_here"] nI)   : PGood P w K mg base 6 "_law_kin_words" ["_law_deck_here","_law_world_here","_law_words"] vO:=by
 have nd:=C36_.nd
 refine h.pgood C36_ (fun|_,_,_,_,_,_,[_,_,_],_=>rfl) (λf cdv A outer s H E F hr=>
   (aE (aI 3 nd (aH G24_ hr (bG 0 (aB aD aC))))
   (aE (aZ (bJ hr (aA 3) aD)
    (aG (aQ (aH G33_ hr (bG 0 (aB (aA 1) aC)))))
    bA)
   (aE (aZ (bJ hr (aF hr (aA 2) aD) aU)
    (aE (aI 4 nd (aY bQ (bB (kI kM rfl B.list_ boot_list (aB (aF hr (aA 2) aD) aC))) (bB (cA (aB (aF hr (aF hr (aA 1) aD) (aH G24_ hr (bG 0 (aB aD aC)))) (aB (aH G26_ hr (bG 0 (aB aD aC))) aC))))))
    (aE (aZ (bX qJ (aA 3) aD)
     (aG (aQ (aT (aB aU (aB (dI dJ rfl B.tuple_ boot_tuple (aB (bB (oV rfl rfl B.sorted rfl B.set_ (eG eM (eG eM (aA 4) (eI (aH G24_ hr (bG 0 (aB aD aC)))) eJ) eJ (eI aD)))) aC)) aC)))))
     bA)
    (aE (aI 5 nd (aF hr (aA 4) (aH G24_ hr (bG 0 (aB (aX bP rfl B.len PySem.boot_len (aB (aA 4) aC)) aC)))))
    (aE (aI 6 nd (eG eM (aA 5) eJ (eI (aH G24_ hr (bG 0 (aB aD aC))))))
    (aE (aI 7 nd (bB (oV rfl rfl B.sorted rfl B.set_ (bB (gQ (sc:=aL rF) (XN:=["_law_deck_here","_law_world_here","_law_words","_law_way","_law_some","_law_first","_law_head","_law_marks","_law_make_here","_law_text_here"]) (N:=["_law_sign"]) (fr:=[]) (bR (aY bQ (eG eM (aA 5) (eI (aX bP rfl B.len PySem.boot_len (aB (aA 6) aC))) eJ) (aF hr (bB (cA (aB aU (aB aU aC)))) (aH G24_ hr (bG 0 (aB aD aC)))))) (λ_ _ _ _ _=>(aH G30_ hr (aB (aA 0) aC))))))))
    (aG (aQ (aT (aB aU (aB (aA 6) (aB (aH G24_ hr (bG 0 (aB aD aC))) (aB (aY bQ aD (aH G24_ hr (bG 0 (aB (aY gL aD (aX bP rfl B.len PySem.boot_len (aB (aA 6) aC))) aC)))) (aB (dI dJ rfl B.tuple_ boot_tuple (aB (aA 7) aC)) aC)))))))))))))
    bA)
   (aE (aI 8 nd (aH G32_ hr (bG 0 aC)))
   (aE (aI 6 nd (eG eM (aF hr (aA 2) aD) eJ (eI (aY gL (aX bP rfl B.len PySem.boot_len (aB (aF hr (aA 2) aD) aC)) (aH G24_ hr (bG 0 (aB aD aC)))))))
   (aE (aZ (bJ hr (aA 3) aD)
    (aG (aI 6 nd (aY bQ (aF hr (aA 2) aD) (aF hr (aA 8) aD))))
    bA)
   (aE (aZ (bJ hr (aA 3) aD)
    (aE (aI 9 nd (aY bQ (aF hr (aA 2) aD) (eG eM (aF hr (aA 8) aD) eJ (eI (aF hr (aA 2) aD)))))
    (aG (aQ (aT (aB aU (aB (dI dJ rfl B.tuple_ boot_tuple (aB (bB (oV rfl rfl B.sorted rfl B.set_ (bB (cA (aB (aA 9) (aB (aF hr (aA 2) aD) (aB (aF hr (aA 8) aD) aC))))))) aC)) aC))))))
    bA)
   (aG (aQ (aT (aB aU (aB (aA 6) (aB (aF hr (aA 8) aD) (aB (aF hr (aA 8) aD) (aB (aF hr (aA 8) aD) aC)))))))))))))))) (λas R q=>?_)
 obtain⟨nm,tx,st,sp,W,rfl,hw,ok,q⟩:=q
 refine⟨rfl,rfl,5,rfl,by decide,bN (by decide) (by decide),λy y0 y1=>?_⟩
 refine⟨_,rfl,eB (λ_=>⟨rfl,nm,tx,st,sp,rfl,hw,λw hw=>q w hw.ok⟩) (λ_=>?_)⟩
 let wt:Tv:=dF nm tx st sp
 show PEnds.nx _ _
 refine nxE (ρ':=[.dk,.va wt,.va (aW W),.va (iT y),.no,.no,.no,.no,.no,.no]) rfl ?_
 cases W with
 |few ss=>
  obtain⟨⟨s1,s6,sr,sx⟩,_⟩:=ok
  refine⟨_,at0,_,rfl,cU (λ_=>?_) (λz=>absurd rfl z)⟩
  refine⟨_,aJ (j:=1) rfl,true,_,rfl,_,aJ (j:=1) rfl,rfl,9,rfl,by decide,bN (by decide) (by decide),λr r0 r1=>?_⟩
  obtain⟨t9,ht9⟩:=qF (rs:=tx) r0 (by rw[hw.t9];exact r1)
  have m9:=hw.ts t9 (List.mem_of_getElem? ht9)
  have et:atI (tx.map sT) r=some (sT t9):=by
   have:=aJ (xs:=tx.map sT) (j:=r.toNat) (v:=sT t9) (by rw[List.getElem?_map,ht9];rfl)
   rwa[show((r.toNat:Nat):Int)=r by omega]at this
  refine⟨_,et,rfl,3,rfl,by decide,by decide,λx sgx lx=>⟨by simp,by rw[List.length_map];show ss.length+2<=100000;omega,?_⟩⟩
  show PEnds.nx _ _
  have al:∀s∈ss++[t9,x],oN s:=λs hs=>by
   rcases List.mem_append.mp hs with z|z
   ·exact sx s z
   ·rcases List.mem_cons.mp z with e|e
    ·rw[e];exact⟨m9.1,by have:=m9.2;omega⟩
    ·rw[show s=x by simpa using e];exact⟨sgx,by omega⟩
  have ll:(ss++[t9,x]).length=ss.length+2:=by rw[List.length_append];rfl
  have em:ss.map sT++[sT t9,sT x]=(ss++[t9,x]).map sT:=by rw[List.map_append];rfl
  refine nxE (ρ':=[.dk,.va wt,.va (aW (.few ss)),.va (iT y),.va (.seq false ((ss++[t9,x]).map sT)),.no,.no,.no,.no,.no]) (by rw[<-em];rfl) ?_
  generalize ss++[t9,x]=us at al ll
  refine⟨_,rfl,cJ (λ_=>?_) (λ_=>?_)⟩
  ·refine⟨rfl,2,rfl,by decide,bN (by decide) (by decide),λr2 a2 b2=>?_⟩
   have ec:cR (cR (us.map sT) (some r2) none) none (some (6:Int))=((us.drop r2.toNat).take 6).map sT:=by
    have e1:cR (us.map sT) (some r2) none=(us.map sT).drop r2.toNat:=by
     have:=zE6 (us.map sT) r2.toNat
     rwa[show((r2.toNat:Nat):Int)=r2 by omega]at this
    rw[e1,show(6:Int)=((6:Nat):Int) from rfl,zHO,List.map_take,List.map_drop]
   have l6:((us.drop r2.toNat).take 6).length<=6:=List.length_take_le _ _
   have ls:=zV ((us.drop r2.toNat).take 6)
   refine⟨_,rfl,_,rfl,(us.drop r2.toNat).take 6,by rw[<-ec],by omega,by omega,false,_,rfl,by simp,q (.few (bU (bM ((us.drop r2.toNat).take 6)))) (zAZ (λe=>?_) (by omega) λs hs=>al s (List.mem_of_mem_drop (List.mem_of_mem_take hs)))⟩
   have:=congrArg List.length e
   rw[List.length_take,List.length_drop]at this
   simp only[List.length_nil]at this
   omega
  ·refine⟨rfl,_,rfl,by rw[List.length_map];omega,by rw[List.length_map];exact bN (by omega) (by omega),λr2 a2 b2=>?_⟩
   rw[List.length_map]at b2
   obtain⟨f,hf⟩:=qF (rs:=us) a2 b2
   have mf:=al f (List.mem_of_getElem? hf)
   have et:atI (us.map sT) r2=some (sT f):=by
    have:=aJ (xs:=us.map sT) (j:=r2.toNat) (v:=sT f) (by rw[List.getElem?_map,hf];rfl)
    rwa[show((r2.toNat:Nat):Int)=r2 by omega]at this
   have lf:=mf.2
   refine⟨_,et,rfl,4,rfl,by decide,bN (by decide) (by decide),λr3 a3 b3=>⟨_,rfl,by omega,?_⟩⟩
   have hd3:=zCP (x:=f) a3 (by omega)
   have hdS:Sg (Txt.slice f none (some r3)):=mf.1.slice _ _
   show PEnds.nx _ _
   generalize Txt.slice f none (some r3)=hd at hd3 hdS
   refine nxE (ρ':=[.dk,.va wt,.va (aW (.few ss)),.va (iT y),.va (.seq false (us.map sT)),.va (sT f),.va (sT hd),.no,.no,.no]) rfl ?_
   refine⟨by omega,_,rfl,by omega,by simp,rfl,2,rfl,by decide,bN (by decide) (by decide),λr4 a4 b4=>?_⟩
   obtain⟨M,hM,hMm⟩:=oM (l:=[sT "a",sT "0"]) a4 b4
   obtain⟨e,rfl,le⟩:∃e:Str,M=sT e/\e.length=1:=by
    simp only[List.mem_cons,List.not_mem_nil,or_false]at hMm
    rcases hMm with rfl|rfl<;>exact⟨_,rfl,by decide +kernel⟩
   have tl:(Txt.slice f (some (hd.length:Nat)) none).length<=50:=Nat.le_trans (WordM.slice_len ..) lf
   refine⟨_,hM,by omega,?_⟩
   have zl:(Txt.slice f (some (hd.length:Nat)) none++e).length=(Txt.slice f (some (hd.length:Nat)) none).length+1:=by
    rw[WordM.len,WordM.app,List.length_append,<-WordM.len,<-WordM.len,le]
   generalize Txt.slice f (some (hd.length:Nat)) none++e=z at zl
   refine⟨by rw[List.length_map,<-WordM.len];omega,?_⟩
   refine eX (λc=>sT ⟨#[c]⟩) (λc=>sT (cN c)) (λc hc R q=>⟨c,rfl,q⟩) ?_
   have mkm:∀m∈(cs z).map cN,m∈MK:=λm hm=>by
    obtain⟨c,_,rfl⟩:=List.mem_map.mp hm
    exact WordM.mark_in c
   have sl4:(bM ((cs z).map cN)).length<=4:=WordM.nodup_len (jC _) (m:=MK) λx hx=>mkm x ((gH _ x).mp hx)
   have zl':((cs z).map cN).length<=60:=by rw[List.length_map,<-WordM.len];omega
   refine⟨(cs z).map cN,by rw[List.map_map];rfl,by omega,by omega,?_⟩
   have sub:(bU (bM ((cs z).map cN))).Sublist MK:=mW (xF _) mk_rise λx hx=>mkm x (sort_set_mem.mp hx)
   have ne:bU (bM ((cs z).map cN))≠[]:=λe=>by
    have zp:0<(cs z).length:=by rw[<-WordM.len];omega
    obtain⟨c,hc⟩:=List.exists_mem_of_length_pos zp
    have:cN c∈bU (bM ((cs z).map cN)):=sort_set_mem.mpr (List.mem_map.mpr ⟨c,hc,rfl⟩)
    rw[e]at this
    cases this
   generalize bU (bM ((cs z).map cN))=ms at sub ne
   show PEnds.nx _ _
   refine nxE (ρ':=[.dk,.va wt,.va (aW (.few ss)),.va (iT y),.va (.seq false (us.map sT)),.va (sT f),.va (sT hd),.va (.seq false (ms.map sT)),.no,.no]) rfl ?_
   refine⟨rfl,2,rfl,by decide,bN (by decide) (by decide),λr5 a5 b5=>⟨rfl,by omega,50-(hd.length:Nat),rfl,by omega,bN (by omega) (by omega),λr6 a6 b6=>?_⟩⟩
   exact⟨false,_,rfl,by simp,q (.make hd r5 (1+r6) ms) ⟨⟨hdS,by omega⟩,a5,by omega,by omega,by omega,sub,ne⟩⟩
 |make h a b ms=>
  have hS:=ok.h3.1
  have hl:=ok.h3.2
  have b1:=ok.b1
  refine⟨_,at0,_,rfl,cU (λz=>absurd z (by decide +kernel)) (λ_=>?_)⟩
  show PEnds.nx _ _
  refine nxE (ρ':=[.dk,.va wt,.va (aW (.make h a b ms)),.va (iT y),.no,.no,.no,.no,.no,.no]) rfl ?_
  refine⟨rfl,rfl,λh' a' b' ms' mk=>?_⟩
  show PEnds.nx _ _
  refine nxE (ρ':=[.dk,.va wt,.va (aW (.make h a b ms)),.va (iT y),.no,.no,.no,.no,.va (aW (.make h' a' b' ms')),.no]) rfl ?_
  have hS':=mk.h3.1
  have hl':=mk.h3.2
  refine⟨_,aJ (j:=1) rfl,_,aJ (j:=1) rfl,by show h.length<=_;omega,rfl,2,rfl,by decide,bN (by decide) (by decide),λr2 a2 b2=>⟨_,rfl,by omega,?_⟩⟩
  have l1:(Txt.slice h none (some ((h.length:Nat)-r2))).length<=3:=Nat.le_trans (WordM.slice_len ..) hl
  have g1:Sg (Txt.slice h none (some ((h.length:Nat)-r2))):=hS.slice _ _
  show PEnds.nx _ _
  refine nxE (ρ':=[.dk,.va wt,.va (aW (.make h a b ms)),.va (iT y),.no,.no,.va (sT (Txt.slice h none (some ((h.length:Nat)-r2)))),.no,.va (aW (.make h' a' b' ms')),.no]) rfl ?_
  generalize Txt.slice h none (some ((h.length:Nat)-r2))=hd at l1 g1
  have ap:(h++h').length=h.length+h'.length:=by rw[WordM.len,WordM.app,List.length_append,<-WordM.len,<-WordM.len]
  dsimp only
  refine hE (J:=λρ'=>∃hd:Str,Sg hd/\hd.length<=6/\ρ'=[.dk,.va wt,.va (aW (.make h a b ms)),.va (iT y),.no,.no,.va (sT hd),.no,.va (aW (.make h' a' b' ms')),.no]) ?rest (λrest=>⟨_,rfl,eB (λ_=>⟨_,aJ (j:=1) rfl,_,aJ (j:=1) rfl,by show h.length+h'.length<=_;omega,rest _ ⟨h++h',hS.app hS',by omega,rfl⟩⟩) (λ_=>rest _ ⟨hd,g1,by omega,rfl⟩)⟩)
  clear l1 g1 hd
  rintro _ ⟨hd,g1,l1,rfl⟩
  refine⟨_,rfl,eB (λ_=>?_) (λ_=>?_)⟩
  ·refine⟨_,aJ (j:=1) rfl,_,aJ (j:=1) rfl,_,aJ (j:=3) rfl,_,rfl,by omega,?_⟩
   have l2:(Txt.slice h' none (some b)).length<=3:=Nat.le_trans (WordM.slice_len ..) hl'
   have g2:Sg (Txt.slice h' none (some b)):=hS'.slice _ _
   refine⟨by omega,?_⟩
   have ap2:(h++Txt.slice h' none (some b)).length=h.length+(Txt.slice h' none (some b)).length:=by rw[WordM.len,WordM.app,List.length_append,<-WordM.len,<-WordM.len]
   have g3:=hS.app g2
   generalize h++Txt.slice h' none (some b)=z at ap2 g3
   have ls:=zV [z,h,h']
   have l3:[z,h,h'].length=3:=rfl
   refine⟨_,aJ (j:=1) rfl,_,aJ (j:=1) rfl,by simp,[z,h,h'],rfl,by omega,by omega,false,_,rfl,by simp,q (.few (bU (bM [z,h,h']))) (zAZ (by simp) (by omega) λs hs=>?_)⟩
   simp only[List.mem_cons,List.not_mem_nil,or_false]at hs
   rcases hs with rfl|rfl|rfl
   ·exact⟨g3,by omega⟩
   ·exact⟨hS,by omega⟩
   ·exact⟨hS',by omega⟩
  ·have k1:=mk.b6
   exact⟨_,aJ (j:=2) rfl,_,aJ (j:=3) rfl,_,aJ (j:=4) rfl,by simp,q (.make hd a' b' ms') ⟨⟨g1,by omega⟩,mk.a0,mk.ab,mk.b1,by omega,mk.sub,mk.ne⟩⟩
end
end My
namespace L2
open PySem PySem.Spec PyProof.Rows WordM
def SameD:Nat->Tv->Prop
 |0,_=>False
 |_+1,.leaf .non=>True
 |_+1,.leaf (.bl _)=>True
 |_+1,.leaf (.int _)=>True
 |_+1,.leaf (.str _)=>True
 |n+1,.seq _ xs=>xs.length<=100000/\∀x∈xs,SameD n x
 |_+1,_=>False
theorem SameD.le:∀{n m:Nat}{T:Tv},n<=m->SameD n T->SameD m T
 |0,_,_,_,h=>False.elim h
 |_+1,0,_,l,_=>absurd l (by omega)
 |n+1,m+1,T,l,h=>by
  cases T with
  |leaf v=>cases v<;>exact h
  |seq t xs=>exact⟨h.1,λx hx=>SameD.le (by omega) (h.2 x hx)⟩
  |dct k=>exact h
theorem yR(n:Nat){t:Bool}{ss:List Str}(l:ss.length<=100000):SameD (n+2) (.seq t (ss.map sT)):=⟨by rw[List.length_map];exact l,λx hx=>by
 obtain⟨s,_,rfl⟩:=List.mem_map.mp hx
 trivial⟩
end L2
namespace My
open PySem L2 PyProof.Rows WordM
section
variable{P:Program}{w:World}{K:W.Frag}{mg:Str->Option Value}{base:Heap}
variable{n:Nat}
def lQ(n:Nat):PSp:=λas R=>∃T,as=[.va T,.va T]/\SameD n T/\R (bT true)
theorem zM(xs:List Tv):List.zipWith (λT U=>Tv.seq true [T,U]) xs xs=xs.map λx=>.seq true [x,x]:=by
 induction xs with
 |nil=>rfl
 |cons x xs ih=>rw[List.zipWith_cons_cons,ih];rfl
theorem zEj{α:Type}(xs:List α):((xs.map λ_=>true).all id)=true:=by
 rw[List.all_eq_true]
 intro x hx
 obtain⟨_,_,rfl⟩:=List.mem_map.mp hx
 rfl
theorem zE4{s:Str}:(false != eqV (.str s) (.str s))=true:=by simp[eqV]
theorem zD5{i:Int}:(false != eqV (.int i) (.int i))=true:=by simp[eqV]
theorem zD6{b:Bool}:(false != eqV (.bl b) (.bl b))=true:=by simp[eqV]
theorem C44_:bE ["_law_one","_law_other"] ["_law_one","_law_other"] (aL mI):=fsc (by decide +kernel)
theorem zJO(h:Has K mg "_law_same" mI)(B:Own mg)(G44_:PGood P w K mg base (1+n) "_law_same" ["_law_one","_law_other"] (lQ n))   : PGood P w K mg base (1+n+1) "_law_same" ["_law_one","_law_other"] (lQ (n+1)):=by
 have nd:=C44_.nd
 refine h.pgood C44_ (fun|_,_,_,_,_,_,[_,_],_=>rfl) (λf cdv A outer s H E F hr=>
   (aE (aZ (dZ (fO (cM (eK "bool" oQ rfl B.isinstance (aA 0) (cY (v:=.ty "bool") rfl B.bool_ boot_bool rfl))) (gA (cM (eK "bool" oQ rfl B.isinstance (aA 1) (cY (v:=.ty "bool") rfl B.bool_ boot_bool rfl))))))
    (aG (aQ (lI (eK "bool" oQ rfl B.isinstance (aA 0) (cY (v:=.ty "bool") rfl B.bool_ boot_bool rfl)) (lI (eK "bool" oQ rfl B.isinstance (aA 1) (cY (v:=.ty "bool") rfl B.bool_ boot_bool rfl)) (lG (fP (jV hr.units).op (aA 0) (aA 1)))))))
    bA)
   (aE (aZ (dZ (fO (cM (zR rfl B.isinstance (aA 0) (cY (v:=.ty "list") rfl B.list_ boot_list rfl) (cY (v:=.ty "tuple") rfl B.tuple_ boot_tuple rfl))) (gA (cM (zR rfl B.isinstance (aA 1) (cY (v:=.ty "list") rfl B.list_ boot_list rfl) (cY (v:=.ty "tuple") rfl B.tuple_ boot_tuple rfl))))))
    (aE (aZ (dZ (fO (iM hr (eK "list" xG rfl B.isinstance (aA 0) (cY (v:=.ty "list") rfl B.list_ boot_list rfl)) (eK "list" xG rfl B.isinstance (aA 1) (cY (v:=.ty "list") rfl B.list_ boot_list rfl))) (gA (iM hr (eK "tuple" xE rfl B.isinstance (aA 0) (cY (v:=.ty "tuple") rfl B.tuple_ boot_tuple rfl)) (eK "tuple" xE rfl B.isinstance (aA 1) (cY (v:=.ty "tuple") rfl B.tuple_ boot_tuple rfl))))))
     (aG (aQ eZ))
     bA)
    (aG (aQ (lI (fP (jV hr.units).op (aX bP rfl B.len PySem.boot_len (aB (aA 0) aC)) (aX bP rfl B.len PySem.boot_len (aB (aA 1) aC))) (lG (aX (pX rfl) rfl B.all boot_all (aB (bB (jP (sc:=aL mI) (XN:=["_law_one","_law_other"]) (N:=["_law_a","_law_b"]) (own:=2) (fr:=[]) rfl ⟨rfl,by decide +kernel,by decide +kernel,by decide +kernel,rfl,by decide +kernel,by decide,by decide +kernel⟩ (by decide) (zGs rfl B.zip (aB (aA 0) (aB (aA 1) aC))) (λ_ _ _ _ _=>(iG 2 rfl (dE (bY 0 (by decide) (show(["_law_a","_law_b"]:List Str).Nodup by decide +kernel) rfl (by first|exact Or.inl rfl|exact Or.inr rfl)) (dE (bY 1 (by decide) (show(["_law_a","_law_b"]:List Str).Nodup by decide +kernel) rfl (by first|exact Or.inl rfl|exact Or.inr rfl)) iB)))) (λ_ _ _ _ _=>jE) (λ_ _ _ _ _=>(aH G44_ hr (aB (aA 0) (aB (aA 1) aC)))))) aC)))))))
    bA)
   (aE (aZ (dZ (fO (cM (eK "dict" oP rfl B.isinstance (aA 0) (cY (v:=.ty "dict") rfl B.dict_ boot_dict rfl))) (gA (cM (eK "dict" oP rfl B.isinstance (aA 1) (cY (v:=.ty "dict") rfl B.dict_ boot_dict rfl))))))
    (aE (aZ (dZ (fO (gB (cM (eK "dict" oP rfl B.isinstance (aA 0) (cY (v:=.ty "dict") rfl B.dict_ boot_dict rfl)))) (fO (gB (cM (eK "dict" oP rfl B.isinstance (aA 1) (cY (v:=.ty "dict") rfl B.dict_ boot_dict rfl)))) (gA (iM hr (aX bP rfl B.len PySem.boot_len (aB (aA 0) aC)) (aX bP rfl B.len PySem.boot_len (aB (aA 1) aC)))))))
     (aG (aQ eZ))
     bA)
    (aG (aQ (aX (pX rfl) rfl B.all boot_all (aB (bB (jP (sc:=aL mI) (XN:=["_law_one","_law_other"]) (N:=["_law_name","_law_inner","_law_other"]) (own:=2) (fr:=[1]) rfl ⟨rfl,by decide +kernel,by decide +kernel,by decide +kernel,rfl,by decide +kernel,by decide,by decide +kernel⟩ (by decide) (zEo (aA 0)) (λ_ _ _ _ _=>(iG 2 rfl (dE (bY 0 (by decide) (show(["_law_name","_law_inner","_law_other"]:List Str).Nodup by decide +kernel) rfl (by first|exact Or.inl rfl|exact Or.inr rfl)) (dE (bY 1 (by decide) (show(["_law_name","_law_inner","_law_other"]:List Str).Nodup by decide +kernel) rfl (by first|exact Or.inl rfl|exact Or.inr rfl)) iB)))) (λ_ _ _ _ _=>jE) (λ_ _ _ _ _=>(lI (fP (eV hr.units).op (aA 0) (aA 2) rfl) (lG (aH G44_ hr (aB (aA 1) (aB (aF hr (aA 2) (aA 0)) aC)))))))) aC)))))
    bA)
   (aE (aZ (dZ (fO (iM hr (eK "int" xP rfl B.isinstance (aA 0) (cY (v:=.ty "int") rfl B.int_ boot_int rfl)) (eK "int" xP rfl B.isinstance (aA 1) (cY (v:=.ty "int") rfl B.int_ boot_int rfl))) (gA (iM hr (eK "str" xO rfl B.isinstance (aA 0) (cY (v:=.ty "str") rfl B.str_ boot_str rfl)) (eK "str" xO rfl B.isinstance (aA 1) (cY (v:=.ty "str") rfl B.str_ boot_str rfl))))))
    (aG (aQ eZ))
    bA)
   (aG (aQ (fP (jV hr.units).op (aA 0) (aA 1))))))))) (λas R q=>?_)
 obtain⟨T,rfl,h,q⟩:=q
 cases T with
 |dct k=>exact False.elim h
 |leaf v=>
  cases v with
  |non=>exact⟨rfl,_,rfl,aV ⟨_,rfl,aV ⟨_,rfl,aV ⟨_,rfl,aV ⟨_,rfl,aV ⟨_,rfl,aV ⟨_,rfl,aV ⟨_,rfl,aV q⟩⟩⟩⟩⟩⟩⟩⟩
  |bl b=>
   rw[<-zD6 (b:=b)]at q
   exact⟨rfl,_,rfl,bH (bH ⟨_,rfl,bH ⟨_,rfl,bH q⟩⟩)⟩
  |int i=>
   rw[<-zD5 (i:=i)]at q
   exact⟨rfl,_,rfl,aV ⟨_,rfl,aV ⟨_,rfl,aV ⟨_,rfl,aV ⟨_,rfl,aV ⟨_,rfl,aV ⟨_,rfl,aV ⟨_,rfl,aV q⟩⟩⟩⟩⟩⟩⟩⟩
  |str s=>
   rw[<-zE4 (s:=s)]at q
   exact⟨rfl,_,rfl,aV ⟨_,rfl,aV ⟨_,rfl,aV ⟨_,rfl,aV ⟨_,rfl,aV ⟨_,rfl,aV ⟨_,rfl,aV ⟨_,rfl,aV q⟩⟩⟩⟩⟩⟩⟩⟩
  |_=>exact False.elim h
 |seq t xs=>
  have e:R (bT ((xs.map λ_=>true).all id)):=by rw[zEj];exact q
  cases t with
  |false=>
   refine⟨rfl,_,rfl,aV ⟨_,rfl,aV ⟨_,rfl,bH (bH ⟨_,rfl,aV ⟨_,rfl,aV ⟨_,rfl,eB (λ_=>⟨false,xs,xs,rfl,?_⟩) (λz=>absurd rfl z)⟩⟩⟩)⟩⟩⟩
   rw[zM]
   exact⟨by rw[List.length_map];exact h.1,eX (λx=>.seq true [x,x]) (λx=>bT true) (λx hx R q=>⟨_,rfl,rfl,_,_,rfl,_,_,rfl,rfl,x,rfl,h.2 x hx,q⟩) ⟨xs.map λ_=>true,by rw[List.map_map];rfl,e⟩⟩
  |true=>
   refine⟨rfl,_,rfl,aV ⟨_,rfl,aV ⟨_,rfl,bH (bH ⟨_,rfl,aV ⟨_,rfl,aV ⟨_,rfl,eB (λ_=>⟨true,xs,xs,rfl,?_⟩) (λz=>absurd rfl z)⟩⟩⟩)⟩⟩⟩
   rw[zM]
   exact⟨by rw[List.length_map];exact h.1,eX (λx=>.seq true [x,x]) (λx=>bT true) (λx hx R q=>⟨_,rfl,rfl,_,_,rfl,_,_,rfl,rfl,x,rfl,h.2 x hx,q⟩) ⟨xs.map λ_=>true,by rw[List.map_map];rfl,e⟩⟩
theorem zAW(h:Has K mg "_law_same" mI)(B:Own mg):∀n:Nat,PGood P w K mg base (1+n) "_law_same" ["_law_one","_law_other"] (lQ n)
 |0=>h.pfalse C44_ (fun|_,_,_,_,_,_,[_,_],_=>rfl) λas R ⟨_,_,h,_⟩=>h
 |n+1=>zJO h B (zAW h B n)
end
end My
namespace My
open PySem L2 PyProof.Rows WordM
section
variable{P:Program}{w:World}{K:W.Frag}{mg:Str->Option Value}{base:Heap}
def dC(l m l' m':Int)(S:List Str):Bool:=(decide (l<=(S.length:Nat))&&decide (((S.length:Nat):Int)<=m))&&(decide (l'<=(S.length:Nat))&&decide (((S.length:Nat):Int)<=m'))
def mU:PSp:=λas R=>∃(l m l' m':Int) (r r':List Tv) (Ss:List (List Str)),as=[.va (.seq true (iT l::iT m::r)),.va (.seq true (iT l'::iT m'::r')),.va (.seq false (dA Ss))]/\Ss.length<=64/\R (.seq false (dA (Ss.filter (dC l m l' m'))))
theorem zAX(p:List Str->Bool)(Ss:List (List Str)):(Ss.filterMap λS=>if p S=true then some (Tv.seq false (S.map sT)) else none)=dA (Ss.filter p):=by
 unfold dA
 induction Ss with
 |nil=>rfl
 |cons S Ss ih=>
  rw[List.filterMap_cons,List.filter_cons]
  cases e:p S with
  |true=>simpa using ih
  |false=>simpa using ih
theorem C47_:bE ["_law_one","_law_other","_law_sets"] ["_law_one","_law_other","_law_sets"] (aL qY):=fsc (by decide +kernel)
theorem zJL(h:Has K mg "_law_counted" qY)(B:Own mg)    : PGood P w K mg base 1 "_law_counted" ["_law_one","_law_other","_law_sets"] mU:=by
 have nd:=C47_.nd
 refine h.pgood C47_ (fun|_,_,_,_,_,_,[_,_,_],_=>rfl) (λf cdv A outer s H E F hr=>
   (aG (aQ (bB (dR (sc:=aL qY) (XN:=["_law_one","_law_other","_law_sets"]) (N:=["_law_some","_law_one","_law_other"]) (fr:=[0,1]) (bR (aA 2)) (λ_ _ _ _ _=>(cQ (dZ (lE (tG gR gR (aF hr (aA 1) aD) (aX bP rfl B.len PySem.boot_len (aB (aA 0) aC)) (aF hr (aA 1) aD)) (kW (tG gR gR (aF hr (aA 2) aD) (aX bP rfl B.len PySem.boot_len (aB (aA 0) aC)) (aF hr (aA 2) aD))))))) (λ_ _ _ _ _=>(aA 0))))))) (λas R q=>?_)
 obtain⟨l,m,l',m',r,r',Ss,rfl,n64,q⟩:=q
 refine⟨rfl,by unfold dA;rw[List.length_map];omega,cP (λS:List Str=>Tv.seq false (S.map sT)) (λS=>if dC l m l' m' S=true then some (.seq false (S.map sT)) else none) (l:=Ss) (λS hS R q=>?_) (by rw[zAX];exact q)⟩
 unfold dC at q
 have hl:(S.map sT).length=S.length:=List.length_map ..
 refine⟨_,at0,_,rfl,cJ (λh1=>⟨_,aJ (j:=1) rfl,_,rfl,cJ (λh2=>⟨_,at0,_,rfl,cJ (λh3=>⟨_,aJ (j:=1) rfl,_,rfl,cJ (λh4=>?_) (λh4=>?_)⟩) (λh3=>⟨false,rfl,aV ?_⟩)⟩) (λh2=>?_)⟩) (λh1=>⟨false,rfl,aV ?_⟩)⟩
 ·have h1:l<=((S.map sT).length:Nat):=h1
  have h2:(((S.map sT).length:Nat):Int)<=m:=h2
  have h3:l'<=((S.map sT).length:Nat):=h3
  have h4:(((S.map sT).length:Nat):Int)<=m':=h4
  rw[hl]at h1 h2 h3 h4
  rw[decide_eq_true h1,decide_eq_true h2,decide_eq_true h3,decide_eq_true h4]at q
  exact q
 ·have h4:¬ (((S.map sT).length:Nat):Int)<=m':=h4
  rw[hl]at h4
  rw[decide_eq_false h4,Bool.and_false,Bool.and_false]at q
  exact q
 ·have h3:¬ l'<=((S.map sT).length:Nat):=h3
  rw[hl]at h3
  rw[decide_eq_false h3,Bool.false_and,Bool.and_false]at q
  exact q
 ·have h2:¬ (((S.map sT).length:Nat):Int)<=m:=h2
  rw[hl]at h2
  rw[decide_eq_false h2,Bool.and_false,Bool.false_and]at q
  exact q
 ·have h1:¬ l<=((S.map sT).length:Nat):=h1
  rw[hl]at h1
  rw[decide_eq_false h1,Bool.false_and,Bool.false_and]at q
  exact q
end
end My
namespace My
open PySem L2 PyProof.Rows WordM
section
variable{P:Program}{w:World}{K:W.Frag}{mg:Str->Option Value}{base:Heap}
def tbT(l m:Int)(w:Wd)(a:At):Tv:=.seq true [iT l,iT m,aW w,.seq false (atL a)]
structure fE (l m:Int) (h:Str) (lo hi:Int) (ms:List Str) (a:At):Prop where
 l0:0<=l
 lm:l<=m
 m1:1<=m
 mm:m<=6\/(1<hi/\m=60)
 wd:bL (.make h lo hi ms)
 em:emA a=false
def uA:PSp:=λas R=>∃nm tx st sp h lo hi ms,as=[.dk,.va (dF nm tx st sp),.va (aW (.make h lo hi ms))]/\pR nm tx st sp/\WdS (.make h lo hi ms)/\bL (.make h lo hi ms)/\∀l m h lo hi ms a,fE l m h lo hi ms a->R (tbT l m (.make h lo hi ms) a)
theorem C45_:bE ["_law_deck_here","_law_world_here","_law_make_here","_law_kin","_law_least","_law_most"] ["_law_deck_here","_law_world_here","_law_make_here"] (aL wD):=fsc (by decide +kernel)
theorem zJN(h:Has K mg "_law_table_of" wD)(B:Own mg)(G24_:PGood P w K mg base 2 "_law_take" ["_law_deck_here","_law_most"] fH)(G36_:PGood P w K mg base 6 "_law_kin_words" ["_law_deck_here","_law_world_here","_law_words"] vO)(G37_:PGood P w K mg base 3 "_law_atoms" ["_law_deck_here"] pN)   : PGood P w K mg base 7 "_law_table_of" ["_law_deck_here","_law_world_here","_law_make_here"] uA:=by
 have nd:=C45_.nd
 refine h.pgood C45_ (fun|_,_,_,_,_,_,[_,_,_],_=>rfl) (λf cdv A outer s H E F hr=>
   (aE (aZ (bJ hr (aH G24_ hr (bG 0 (aB aD aC))) aD)
    (aE (aI 3 nd (aH G36_ hr (bG 0 (aB (aA 1) (aB (aA 2) aC)))))
    (aG (aZ (dZ (lE (bJ hr (aF hr (aA 3) aD) aU) (kW (bX gR (aY bQ (aX bP rfl B.len PySem.boot_len (aB (aF hr (aA 3) aD) aC)) (aF hr (aA 3) aD)) aD))))
     (aG (aI 2 nd (aA 3)))
     bA)))
    bA)
   (aE (aI 4 nd (aH G24_ hr (bG 0 (aB aD aC))))
   (aE (aI 5 nd (aY bQ (aX (fM rfl) rfl B.max boot_max (aB aD (aB (aA 4) aC))) (aH G24_ hr (bG 0 (aB aD aC)))))
   (aE (aZ (dZ (lE (bX jF (aF hr (aA 2) aD) aD) (kW (bJ hr (aH G24_ hr (bG 0 (aB aD aC))) aD))))
    (aG (aI 5 nd aD))
    bA)
   (aG (aQ (aT (aB (aA 4) (aB (aA 5) (aB (aA 2) (aB (aH G37_ hr (bG 0 aC)) aC)))))))))))) (λas R q=>?_)
 obtain⟨nm,tx,st,sp,h0,lo0,hi0,ms0,rfl,hw,hW,hO,q⟩:=q
 refine⟨rfl,?_⟩
 refine hE (J:=λρ'=>∃h lo hi ms s3,bL (.make h lo hi ms)/\ρ'=[.dk,.va (dF nm tx st sp),.va (aW (.make h lo hi ms)),s3,.no,.no]) ?rest (λrest=>?main)
 case main=>
  refine⟨rfl,2,rfl,by decide,bN (by decide) (by decide),λr r0 r1=>⟨_,rfl,eB (λz=>?_) (λz=>?_)⟩⟩
  ·refine⟨rfl,nm,tx,st,sp,.make h0 lo0 hi0 ms0,rfl,hw,hW,λv hv=>?_⟩
   cases v with
   |few ss=>exact⟨_,at0,_,rfl,sN (by decide +kernel) (aV (rest _ ⟨_,_,_,_,_,hO,rfl⟩))⟩
   |make h lo hi ms=>
    have hl:=hv.1.2
    refine⟨_,at0,_,rfl,sY ⟨_,aJ (j:=1) rfl,by show h.length<=_;omega,_,aJ (j:=3) rfl,_,rfl,cJ (λz=>?_) (λz=>?_)⟩⟩
    ·exact rest _ ⟨h,lo,hi,ms,_,hv,rfl⟩
    ·exact rest _ ⟨_,_,_,_,_,hO,rfl⟩
  ·exact rest _ ⟨_,_,_,_,_,hO,rfl⟩
 case rest=>
  rintro _ ⟨h,lo,hi,ms,s3,hv,rfl⟩
  refine⟨rfl,4,rfl,by decide,bN (by decide) (by decide),λl l0 l1=>.inl ⟨_,_,rfl,rfl,4,rfl,by decide,bN (by decide) (by decide),λd d0 d1=>?_⟩⟩
  show PEnds.nx _ _
  refine nxE (ρ':=[.dk,.va (dF nm tx st sp),.va (aW (.make h lo hi ms)),s3,.va (iT l),.va (iT (max 1 l+d))]) rfl ?_
  refine⟨_,aJ (j:=3) rfl,_,rfl,cJ (λz=>?_) (λz=>aV ?_)⟩
  ·have z:(1:Int)<hi:=z
   refine⟨rfl,6,rfl,by decide,bN (by decide) (by decide),λr r0 r1=>⟨_,rfl,eB (λz2=>?_) (λz2=>?_)⟩⟩
   ·exact⟨rfl,rfl,λa ha=>⟨by simp,q l 60 h lo hi ms a ⟨l0,by omega,by decide,.inr ⟨z,rfl⟩,hv,ha⟩⟩⟩
   ·exact⟨rfl,rfl,λa ha=>⟨by simp,q l _ h lo hi ms a ⟨l0,by omega,by omega,.inl (by omega),hv,ha⟩⟩⟩
  ·exact⟨rfl,rfl,λa ha=>⟨by simp,q l _ h lo hi ms a ⟨l0,by omega,by omega,.inl (by omega),hv,ha⟩⟩⟩
end
end My
namespace My
open PySem L2 PyProof.Rows WordM
section
variable{P:Program}{w:World}{K:W.Frag}{mg:Str->Option Value}{base:Heap}
def cnL:Nat->Int->Int->Int->Int->Int->Int->Int
 |0,_,_,_,many,_,_=>many
 |k+1,size,lo,most,many,here,n=>
  if most<=(if lo<=size then many+here else many) then most else cnL k (size+1) lo most (if lo<=size then many+here else many) (here*n) n
def sgN(m:Str):Int:=(((getS SGN m).getD ⟨#[]⟩).length:Nat)
def sgS(ms:List Str):Int:=(ms.map sgN).sum
def uH:PSp:=λas R=>∃h lo hi ms most,as=[.va (aW (.make h lo hi ms)),.va (iT most)]/\bL (.make h lo hi ms)/\R (iT (cnL (hi+1).toNat 0 lo most 0 1 (sgS ms)))
theorem zFp{m:Str}(h:m∈MK):fQ [(Str.ofString "figure",iT 10),(Str.ofString "great",iT 26),(Str.ofString "other",iT 32),(Str.ofString "small",iT 26)] m=some (iT (sgN m)):=by
 simp only[MK,List.mem_cons,List.not_mem_nil,or_false]at h
 rcases h with rfl|rfl|rfl|rfl<;>rfl
theorem C46_:bE ["_law_words","_law_most","_law_signs_here","_law_many","_law_here","_law_size"] ["_law_words","_law_most"] (aL qZ):=fsc (by decide +kernel)
theorem zJM(h:Has K mg "_law_count" qZ)(B:Own mg)    : PGood P w K mg base 1 "_law_count" ["_law_words","_law_most"] uH:=by
 have nd:=C46_.nd
 refine h.pgood C46_ (fun|_,_,_,_,_,_,[_,_],_=>rfl) (λf cdv A outer s H E F hr=>
   (aE (aI 2 nd (aX (zGW rfl) rfl B.sum boot_sum (aB (bB (gQ (sc:=aL qZ) (XN:=["_law_words","_law_most","_law_signs_here","_law_many","_law_here","_law_size"]) (N:=["_law_mark_here"]) (fr:=[]) (bR (aF hr (aA 0) aD)) (λ_ _ _ _ _=>(aF hr (nS (zAs (jB aD (jB aD (jB aD (jB aD zBa)))) (by decide +kernel) (by decide))) (aA 0))))) aC)))
   (aE (aI 3 nd aD)
   (aE (aI 4 nd aD)
   (aE (eY (m:=6) PassesOwn.never rfl (hC rfl B.range (aB (aY bQ (aF hr (aA 0) aD) aD) aC)) (bY 5 (by decide) nd rfl (.inl rfl))
    (aE (aZ (bX qK (aA 5) (aF hr (aA 0) aD))
     (aG (aI 3 nd (aY bQ (aA 3) (aA 4))))
     bA)
    (aE (aZ (bX qK (aA 3) (aA 1))
     (aG (aQ (aA 1)))
     bA)
    (aG (aI 4 nd (aY kZ (aA 4) (aA 2)))))))
   (aG (aQ (aA 3)))))))) (λas R q=>?_)
 obtain⟨h,lo,hi,ms,most,rfl,ok,q⟩:=q
 obtain⟨⟨hS,hl⟩,a0,ab,b1,b6,sub,ne⟩:=ok
 have m4:ms.length<=4:=sub.length_le
 refine⟨rfl,_,aJ (j:=4) rfl,by rw[List.length_map];omega,eX sT (λm=>iT (sgN m)) (λm hm R q=>?_) ?_⟩
 ·exact⟨_,zFp (sub.subset hm),q⟩
 have n0:0<=sgS ms/\sgS ms<=1000:=by
  have one:∀m∈ms,0<=sgN m/\sgN m<=40:=λm hm=>by
   have:=(zAz (sub.subset hm)).2
   exact⟨Int.natCast_nonneg _,by unfold sgN;rw[WordM.len];exact_mod_cast this⟩
  have all:∀l:List Str,(∀m∈l,0<=sgN m/\sgN m<=40)->0<=sgS l/\sgS l<=40*l.length:=by
   intro l
   unfold sgS
   induction l with
   |nil=>exact λ_=>⟨Int.le_refl _,Int.le_refl _⟩
   |cons m l ih=>
    intro h
    have:=ih λx hx=>h x (.tail _ hx)
    have:=h m (.head _)
    rw[List.map_cons,List.sum_cons,List.length_cons]
    constructor<;>push_cast<;>omega
  have:=all ms one
  omega
 refine⟨ms.map sgN,by rw[List.map_map];rfl,?_⟩
 show PEnds.nx _ _
 refine nxE (ρ':=[.va (aW (.make h lo hi ms)),.va (iT most),.va (iT (sgS ms)),.no,.no,.no]) rfl ?_
 generalize sgS ms=n at q n0
 refine⟨_,aJ (j:=3) rfl,hi+1,rfl,by omega,by omega,?_⟩
 refine gJ (λi ρ=>∃(many here:Int) (s5:Sl),ρ=[.va (aW (.make h lo hi ms)),.va (iT most),.va (iT n),.va (iT many),.va (iT here),s5]/\R (iT (cnL ((hi+1).toNat-i) (i:Nat) lo most many here n))) ⟨0,1,.no,rfl,q⟩ ?_ ?_
 ·rintro i T _ N hT ⟨many,here,s5,rfl,q⟩ hN
  obtain⟨hi',rfl⟩:=jA hT
  rw[show(hi+1).toNat-i=((hi+1).toNat-(i+1))+1 by omega,cnL]at q
  rw[Int.zero_add]
  have go:∀many':Int,many'=(if lo<=(i:Int) then many+here else many)->(gV (sIf (uB (uOp pGe (cF 3) (cF 1))) (iN (cF 1)) oA) (jY 4 (uOp vS (cF 4) (cF 2)))) {nx:=N,rt:=R,bk:=λρ'=>iN (cF 3) {nx:=λx=>R nT,rt:=R} ρ',ct:=N} [.va (aW (.make h lo hi ms)),.va (iT most),.va (iT n),.va (iT many'),.va (iT here),.va (iT (i:Nat))]:=λmany' e=>by
   rw[<-e]at q
   refine⟨_,rfl,cJ (λz=>?_) (λz=>?_)⟩
   ·have z:most<=many':=z
    rw[if_pos z]at q;exact q
   ·have z:¬ most<=many':=z
    rw[if_neg z]at q
    refine⟨?_,hN _ ⟨many',here*n,_,rfl,by push_cast;exact q⟩⟩
    exact .inl (.inr ⟨by omega,by omega⟩)
  refine⟨_,aJ (j:=2) rfl,_,rfl,cJ (λz=>?_) (λz=>?_)⟩
  ·have z:lo<=(i:Int):=z
   exact go _ (by rw[if_pos z])
  ·have z:¬ lo<=(i:Int):=z
   exact go _ (by rw[if_neg z])
 ·rintro _ ⟨many,here,s5,rfl,q⟩
  rw[hX,Nat.sub_self]at q
  exact q
end
end My
namespace My
open PySem L2 PyProof.Rows WordM
section
variable{P:Program}{w:World}{K:W.Frag}{mg:Str->Option Value}{base:Heap}
theorem wW{A C:List Str}(h:A.Sublist C):∀s,A.length<=s->s<=C.length->∃S,A.Sublist S/\S.Sublist C/\S.length=s:=by
 induction h with
 |slnil=>exact λs _ h=>⟨[],.slnil,.slnil,by rw[List.length_nil]at h ⊢;omega⟩
 |@cons l1 l2 a h ih=>
  intro s h1 h2
  rw[List.length_cons]at h2
  by_cases z:s<=l2.length
  ·obtain⟨S,x,y,e⟩:=ih s h1 z
   exact⟨S,x,y.cons _,e⟩
  ·exact⟨a::l2,h.cons _,List.Sublist.refl _,by rw[List.length_cons];omega⟩
 |@cons_cons l1 l2 a _ ih=>
  intro s h1 h2
  rw[List.length_cons]at h1 h2
  obtain⟨S,x,y,e⟩:=ih (s-1) (by omega) (by omega)
  exact⟨a::S,x.cons_cons _,y.cons_cons _,by rw[List.length_cons];omega⟩
theorem pC{xs ys:List Str}(h1:cK xs)(h2:cK ys)(h:∀x,x∈xs↔x∈ys):xs=ys:=by
 have p:xs.Perm ys:=(List.perm_ext_iff_of_nodup (gG h1) (gG h2)).mpr h
 exact List.Perm.eq_of_pairwise (le:=λa b=>cs a<cs b) (λa b _ _ h1 h2=>absurd (List.lt_trans h1 h2) (List.lt_irrefl _)) h1 h2 p
theorem nms_mem{Ss:List (List Str)}{n:Str}:n∈eO Ss↔∃S∈Ss,n∈S:=by
 unfold eO
 rw[(fY _).mem_iff,gH,List.mem_flatten]
theorem tL(Ss:List (List Str)):cK (eO Ss):=kK (jC _)
structure Sts (C:List Str) (mu:Str->Bool) (lw up:Int) (Ss:List (List Str)):Prop where
 ri:cK C
 me:∀S,S∈Ss↔S.Sublist C/\(∀n∈C,mu n=true->n∈S)/\lw<=(S.length:Nat)/\((S.length:Nat):Int)<=up
section
variable{C:List Str}{mu:Str->Bool}{lw up:Int}{Ss:List (List Str)}
theorem Sts.put(h:Sts C mu lw up Ss){s:Nat}(h1:(C.filter mu).length<=s)(h2:s<=C.length)(h3:lw<=s)(h4:(s:Int)<=up):∃S∈Ss,S.length=s:=by
 obtain⟨S,a,b,rfl⟩:=wW (List.filter_sublist (p:=mu) (l:=C)) s h1 h2
 exact⟨S,(h.me S).mpr ⟨b,λn hn hm=>a.subset (List.mem_filter.mpr ⟨hn,hm⟩),h3,h4⟩,rfl⟩
theorem Sts.get(h:Sts C mu lw up Ss){S:List Str}(hS:S∈Ss):(C.filter mu).length<=S.length/\S.length<=C.length:=by
 obtain⟨a,b,_,_⟩:=(h.me S).mp hS
 refine⟨WordM.nodup_len ((gG h.ri).sublist List.filter_sublist) λx hx=>?_,a.length_le⟩
 obtain⟨h1,h2⟩:=List.mem_filter.mp hx
 exact b x h1 h2
theorem Sts.inc(h:Sts C mu lw up Ss){n:Str}(hn:n∈C){s:Nat}(h1:(C.filter mu).length<s)(h2:s<=C.length)(h3:lw<=s)(h4:(s:Int)<=up):∃S∈Ss,n∈S:=by
 have lA:(C.filter λx=>mu x || decide (x=n)).length<=s:=by
  have:=WordM.nodup_len ((gG h.ri).sublist List.filter_sublist) (m:=n::C.filter mu) (l:=C.filter λx=>mu x || decide (x=n)) λx hx=>by
   obtain⟨a,b⟩:=List.mem_filter.mp hx
   cases z:mu x with
   |true=>exact List.mem_cons_of_mem _ (List.mem_filter.mpr ⟨a,z⟩)
   |false=>
    rw[z,Bool.false_or]at b
    rw[of_decide_eq_true b]
    exact .head _
  rw[List.length_cons]at this
  omega
 obtain⟨S,a,b,rfl⟩:=wW (List.filter_sublist (p:=λx=>mu x || decide (x=n)) (l:=C)) s lA h2
 exact⟨S,(h.me S).mpr ⟨b,λx hx hm=>a.subset (List.mem_filter.mpr ⟨hx,by rw[hm];rfl⟩),h3,h4⟩,a.subset (List.mem_filter.mpr ⟨hn,by simp⟩)⟩
theorem Sts.exc(h:Sts C mu lw up Ss){n:Str}(hm:mu n=false){s:Nat}(h1:(C.filter mu).length<=s)(h2:s<C.length)(h3:lw<=s)(h4:(s:Int)<=up):∃S∈Ss,n∉S:=by
 have lC:C.length<=(C.filter λx=>!decide (x=n)).length+1:=by
  have:=WordM.nodup_len (gG h.ri) (m:=n::C.filter λx=>!decide (x=n)) λx hx=>by
   by_cases z:x=n
   ·rw[z];exact .head _
   ·exact List.mem_cons_of_mem _ (List.mem_filter.mpr ⟨hx,by simp[z]⟩)
  rwa[List.length_cons]at this
 have lA:((C.filter λx=>!decide (x=n)).filter mu).length<=s:=by
  refine Nat.le_trans (WordM.nodup_len (((gG h.ri).sublist List.filter_sublist).sublist List.filter_sublist) (m:=C.filter mu) λx hx=>?_) h1
  obtain⟨a,b⟩:=List.mem_filter.mp hx
  exact List.mem_filter.mpr ⟨(List.mem_filter.mp a).1,b⟩
 obtain⟨S,a,b,rfl⟩:=wW (List.filter_sublist (p:=mu) (l:=C.filter λx=>!decide (x=n))) s lA (by omega)
 refine⟨S,(h.me S).mpr ⟨b.trans List.filter_sublist,λx hx hm'=>a.subset (List.mem_filter.mpr ⟨List.mem_filter.mpr ⟨hx,?_⟩,hm'⟩),h3,h4⟩,λz=>?_⟩
 ·by_cases z:x=n
  ·rw[z,hm]at hm';cases hm'
  ·simp[z]
 ·have:=(List.mem_filter.mp (b.subset z)).2
  simp at this
def fdC(C:List Str)(mu:Str->Bool)(g:Str->List Pt):List Fd:=C.map λn=>(n,mu n,g n)
theorem vT(C:List Str)(mu:Str->Bool)(g:Str->List Pt):muF (fdC C mu g)=(C.filter mu).map λn=>(n,true,g n):=by
 unfold muF fdC
 induction C with
 |nil=>rfl
 |cons n C ih=>
  rw[List.map_cons,List.filter_cons,List.filter_cons]
  cases z:mu n with
  |true=>simpa[z]using ih
  |false=>simpa[z]using ih
theorem zDD(h:Sts C mu lw up Ss)(g:Str->List Pt)(e:Ss=[]):reO lw up (fdC C mu g)=none:=by
 unfold reO
 rw[if_pos ?_]
 rw[vT,List.length_map,show(fdC C mu g).length=C.length from List.length_map ..]
 have lk:(C.filter mu).length<=C.length:=List.length_filter_le _ _
 apply Classical.byContradiction
 intro z
 obtain⟨S,hS,_⟩:=h.put (s:=(max lw (C.filter mu).length).toNat) (by omega) (by omega) (by omega) (by omega)
 rw[e]at hS
 exact nomatch hS
theorem zDC(h:Sts C mu lw up Ss)(g:Str->List Pt){lo hi:Int}(l1:lo∈szD Ss)(l2:∀a∈szD Ss,lo<=a)(u1:hi∈szD Ss)(u2:∀a∈szD Ss,a<=hi):
  reO lw up (fdC C mu g)=some (.record lo hi ((eO Ss).map λn=>(n,Ss.all (λS=>decide (n∈S)),g n))):=by
 have lk:(C.filter mu).length<=C.length:=List.length_filter_le _ _
 have lF:(fdC C mu g).length=C.length:=List.length_map ..
 have lM:(muF (fdC C mu g)).length=(C.filter mu).length:=by rw[vT,List.length_map]
 have szm:∀{S},S∈Ss->((S.length:Nat):Int)∈szD Ss:=λhS=>List.mem_map.mpr ⟨_,hS,rfl⟩
 obtain⟨S1,hS1,e1⟩:=List.mem_map.mp l1
 obtain⟨S2,hS2,e2⟩:=List.mem_map.mp u1
 have g1:=h.get hS1
 have m1:=(h.me S1).mp hS1
 have g2:=h.get hS2
 have m2:=(h.me S2).mp hS2
 have elo:lo=max lw (C.filter mu).length:=by
  obtain⟨S,hS,e⟩:=h.put (s:=(max lw (C.filter mu).length).toNat) (by omega) (by omega) (by omega) (by omega)
  have:=l2 _ (szm hS)
  omega
 have ehi:hi=min up C.length:=by
  obtain⟨S,hS,e⟩:=h.put (s:=(min up C.length).toNat) (by omega) (by omega) (by omega) (by omega)
  have:=u2 _ (szm hS)
  omega
 unfold reO
 rw[lM,lF,<-elo,<-ehi,if_neg (by omega)]
 by_cases z:hi=((C.filter mu).length:Nat)
 ·rw[if_pos z]
  have all:∀S∈Ss,∀n,n∈S↔n∈C.filter mu:=λS hS n=>by
   have gS:=h.get hS
   have mS:=(h.me S).mp hS
   have uS:=u2 _ (szm hS)
   have sub:∀x∈C.filter mu,x∈S:=λx hx=>mS.2.1 x (List.mem_filter.mp hx).1 (List.mem_filter.mp hx).2
   refine⟨λhn=>?_,sub n⟩
   apply Classical.byContradiction
   intro hz
   have:=WordM.nodup_len (l:=n::C.filter mu) (m:=S) (List.nodup_cons.mpr ⟨hz,(gG h.ri).sublist List.filter_sublist⟩) λx hx=>by
    rcases List.mem_cons.mp hx with rfl|hx
    ·exact hn
    ·exact sub x hx
   rw[List.length_cons]at this
   omega
  have en:eO Ss=C.filter mu:=pC (tL _) (List.Pairwise.sublist List.filter_sublist h.ri) λx=>by
   rw[nms_mem]
   exact⟨λ⟨S,hS,hx⟩=>(all S hS x).mp hx,λhx=>⟨S1,hS1,(all S1 hS1 x).mpr hx⟩⟩
  rw[en,vT]
  congr 2
  apply List.map_congr_left
  intro n hn
  rw[show Ss.all (λS=>decide (n∈S))=true from List.all_eq_true.mpr λS hS=>decide_eq_true ((all S hS n).mpr hn)]
 ·rw[if_neg z]
  have en:eO Ss=C:=pC (tL _) h.ri λx=>by
   rw[nms_mem]
   refine⟨λ⟨S,hS,hx⟩=>((h.me S).mp hS).1.subset hx,λhx=>?_⟩
   exact h.inc hx (s:=hi.toNat) (by omega) (by omega) (by omega) (by omega)
  rw[en]
  by_cases z2:lo=(C.length:Nat)
  ·rw[if_pos z2]
   congr 2
   unfold fdC
   rw[List.map_map]
   apply List.map_congr_left
   intro n hn
   rw[show Ss.all (λS=>decide (n∈S))=true from List.all_eq_true.mpr λS hS=>by
    have:=l2 _ (szm hS)
    have mS:=((h.me S).mp hS).1
    have:S=C:=mS.eq_of_length_le (by omega)
    rw[this]
    exact decide_eq_true hn]
   rfl
  ·rw[if_neg z2]
   congr 2
   unfold fdC
   apply List.map_congr_left
   intro n hn
   cases zm:mu n with
   |true=>rw[show Ss.all (λS=>decide (n∈S))=true from List.all_eq_true.mpr λS hS=>decide_eq_true (((h.me S).mp hS).2.1 n hn zm)]
   |false=>
    obtain⟨S,hS,hz⟩:=h.exc zm (s:=lo.toNat) (by omega) (by omega) (by omega) (by omega)
    rw[show Ss.all (λS=>decide (n∈S))=false from List.all_eq_false.mpr ⟨S,hS,by simpa using hz⟩]
end
end
end My
namespace My
open PySem L2 PyProof.Rows WordM
section
variable{P:Program}{w:World}{K:W.Frag}{mg:Str->Option Value}{base:Heap}
theorem vW{n lo hi most:Int}(hn:1<=n)(hl:lo<=hi):∀(k:Nat) (K:Nat) (size many here:Int),(k:Int)=hi+1-size->k<=K->0<=many->1<=here->many<most->0<=size->(lo > size->many=0)->cnL k size lo most many here n=tl K n lo hi most many here size
 |0,K,size,many,here,hk,hK,m0,h1,mm,s0,hz=>by
  have:¬ size<=hi:=by omega
  cases K with
  |zero=>rfl
  |succ K=>rw[tl,if_neg this];rfl
 |k+1,0,_,_,_,_,hK,_,_,_,_,_=>absurd hK (Nat.not_succ_le_zero k)
 |k+1,K+1,size,many,here,hk,hK,m0,h1,mm,s0,hz=>by
  have hh:here<=here*n:=by
   have:=Int.mul_le_mul_of_nonneg_left hn (show 0<=here by omega)
   omega
  rw[tl,if_pos (by omega),cnL]
  by_cases z:lo<=size
  ·rw[if_pos z]
   by_cases z2:most<=many+here
   ·rw[if_pos z2,if_pos z2]
   ·rw[if_neg z2,if_neg z2]
    exact vW hn hl k K (size+1) (many+here) (here*n) (by omega) (by omega) (by omega) (by omega) (by omega) (by omega) (by omega)
  ·rw[if_neg z,if_neg (by omega)]
   by_cases z2:most<=many+here
   ·rw[if_pos z2]
    exact cn_big hn hl k (size+1) many (here*n) (by omega) m0 (by omega) mm (by omega)
   ·rw[if_neg z2]
    exact vW hn hl k K (size+1) many (here*n) (by omega) (by omega) m0 (by omega) mm (by omega) (by omega)
where cn_big {n lo hi most:Int} (hn:1<=n) (hl:lo<=hi):∀(k:Nat) (size many here:Int),(k:Int)=hi+1-size->0<=many->most<=many+here->many<most->size<=lo->cnL k size lo most many here n=most
 |0,size,many,here,hk,_,_,_,hs=>by omega
 |k+1,size,many,here,hk,m0,hb,mm,hs=>by
  have hh:here<=here*n:=by
   have:=Int.mul_le_mul_of_nonneg_left hn (show 0<=here by omega)
   omega
  rw[cnL]
  by_cases z:lo<=size
  ·rw[if_pos z,if_pos hb]
  ·rw[if_neg z,if_neg (by omega)]
   exact cn_big hn hl k (size+1) many (here*n) (by omega) m0 (by omega) mm (by omega)
theorem zGK(ms:List Str):sgS ms=((cE (dW ms)).length:Nat):=by
 induction ms with
 |nil=>rfl
 |cons m ms ih=>
  have e:(cE (dW (m::ms))).length=(cs ((getS SGN m).getD ⟨#[]⟩)).length+(cE (dW ms)).length:=by
   show(cE (_::dW ms)).length=_
   simp[cE]
  have e2:sgS (m::ms)=sgN m+sgS ms:=by unfold sgS;rw[List.map_cons,List.sum_cons]
  rw[e2,ih,e]
  unfold sgN
  rw[WordM.len]
  push_cast
  rfl
theorem zE8{h:Str}{lo hi:Int}{ms:List Str}{most:Int}(ok:bL (.make h lo hi ms))(h0:0<most):cnL (hi+1).toNat 0 lo most 0 1 (sgS ms)=gF lo hi ms most:=by
 obtain⟨_,a0,ab,b1,b6,sub,ne⟩:=ok
 unfold gF
 have:=(mZ λm hm=>sub.subset hm).1
 have p:0<ms.length:=List.length_pos_iff.mpr ne
 rw[zGK]
 exact vW (by omega) ab _ 400 0 0 1 (by omega) (by omega) (by omega) (by omega) (by omega) (by omega) (by omega)
end
end My
namespace My
open PySem L2 PyProof.Rows WordM
section
variable{P:Program}{w:World}{K:W.Frag}{mg:Str->Option Value}{base:Heap}
def dN(ns:List Str):List (List Str):=(List.range (2 ^ ns.length)).map λb=>fR b ns
def iW(Ss:List (List Str))(L:List (Str×At))(R:Tv->Prop):Prop:=(Ss=[]->R (bC []))/\∀lo hi,lo∈szD Ss->(∀a∈szD Ss,lo<=a)->hi∈szD Ss->(∀a∈szD Ss,a<=hi)->R (bC [.record lo hi ((eO Ss).map (mP Ss L))])
def zCj(l m:Int)(l' m':Int)(c:At)(R:Tv->Prop):Option Wd->Prop
 |none=>iW ([[]].filter (dC l m l' m')) [] R
 |some v=>if emA c=true then iW ([[]].filter (dC l m l' m')) [] R else match v with
  |.few ss=>iW ((dN ss).filter (dC l m l' m')) (ss.map λs=>(s,c)) R
  |.make h lo hi ms=>R (bC (if cnL (hi+1).toNat 0 lo (min m m') 0 1 (sgS ms)<max l l' then [] else [.table (max l l') (cnL (hi+1).toNat 0 lo (min m m') 0 1 (sgS ms)) v (fmA c)]))
def vC:PSp:=λas R=>∃l m w a l' m' w' a',as=[.va (tbT l m w a),.va (tbT l' m' w' a')]/\bL w/\bL w'/\(∀ss,cO w w'=some (.few ss)->ss.length<=6/\ss.Nodup)/\(∀h lo hi ms,cO w w'=some (.make h lo hi ms)->bL (.make h lo hi ms))/\zCj l m l' m' (anA a a') R (cO w w')
theorem zBZ(a:At):(false != (true&&bK (atL a) []))=emA a:=by
 obtain⟨a1,a2,a3⟩:=a
 cases a1<;>cases a2<;>cases a3<;>rfl
theorem zA3{l m l' m':Int}{S:List Str}(h:S∈[[]].filter (dC l m l' m')):S=[]:=by
 have:=(List.mem_filter.mp h).1
 rwa[List.mem_singleton]at this
theorem C48_:bE ["_law_one","_law_other","_law_words","_law_atoms_here","_law_known","_law_least","_law_most"] ["_law_one","_law_other"] (aL qX):=fsc (by decide +kernel)
theorem zJK(h:Has K mg "_law_tables_due" qX)(B:Own mg)(G35_:PGood P w K mg base 4 "_law_words_met" ["_law_one","_law_other"] iX)(G39_:PGood P w K mg base 1 "_law_both" ["_law_one","_law_other"] pZ)(G42_:PGood P w K mg base 2 "_law_due_record" ["_law_sets","_law_atoms_here"] nJ)(G47_:PGood P w K mg base 1 "_law_counted" ["_law_one","_law_other","_law_sets"] mU)(G43_:PGood P w K mg base 1 "_law_subsets" ["_law_names"] pY)(G46_:PGood P w K mg base 1 "_law_count" ["_law_words","_law_most"] uH)(G38_:PGood P w K mg base 1 "_law_form_of_atoms" ["_law_atoms_here"] lX)   : PGood P w K mg base 5 "_law_tables_due" ["_law_one","_law_other"] vC:=by
 have nd:=C48_.nd
 refine h.pgood C48_ (fun|_,_,_,_,_,_,[_,_],_=>rfl) (λf cdv A outer s H E F hr=>
   (aE (aI 2 nd (aH G35_ hr (aB (aF hr (aA 0) aD) (aB (aF hr (aA 1) aD) aC))))
   (aE (aI 3 nd (aH G39_ hr (aB (aF hr (aA 0) aD) (aB (aF hr (aA 1) aD) aC))))
   (aE (aZ (dZ (fO (bX zBL (aA 2) cZ) (gA (bJ hr (aA 3) (bB (cA aC))))))
    (aG (aQ (aH G42_ hr (aB (aH G47_ hr (aB (aA 0) (aB (aA 1) (aB (bB (cA (aB (bB (cA aC)) aC))) aC)))) (aB (nS zGu) aC)))))
    bA)
   (aE (aZ (bJ hr (aF hr (aA 2) aD) aU)
    (aE (aI 4 nd (nS (zS rfl rfl B.dict_ (bB (gQ (sc:=aL qX) (XN:=["_law_one","_law_other","_law_words","_law_atoms_here","_law_known","_law_least","_law_most"]) (N:=["_law_text_here","_law_atoms_here"]) (fr:=[3]) (bR (aF hr (aA 2) aD)) (λ_ _ _ _ _=>(aT (aB (aA 0) (aB (aA 1) aC)))))))))
    (aG (aQ (aH G42_ hr (aB (aH G47_ hr (aB (aA 0) (aB (aA 1) (aB (aH G43_ hr (aB (bB (kI kM rfl B.list_ boot_list (aB (aF hr (aA 2) aD) aC))) aC)) aC)))) (aB (aA 4) aC))))))
    bA)
   (aE (aI 5 nd (aX (fM rfl) rfl B.max boot_max (aB (aF hr (aA 0) aD) (aB (aF hr (aA 1) aD) aC))))
   (aE (aI 6 nd (aH G46_ hr (aB (aA 2) (aB (aX (gC rfl) rfl B.min boot_min (aB (aF hr (aA 0) aD) (aB (aF hr (aA 1) aD) aC))) aC))))
   (aE (aZ (bX jF (aA 5) (aA 6))
    (aG (aQ (aT aC)))
    bA)
   (aG (aQ (aT (aB (aT (aB aU (aB (aA 5) (aB (aA 6) (aB (aA 2) (aB (aH G38_ hr (aB (aA 3) aC)) aC)))))) aC)))))))))))) (λas R q=>?_)
 obtain⟨l,m,w1,a,l',m',w2,a',rfl,k1,k2,hw,hk,q⟩:=q
 refine⟨rfl,_,aJ (j:=2) rfl,_,aJ (j:=2) rfl,w1,w2,rfl,k1,k2,?_⟩
 show PEnds.nx _ _
 refine nxE (ρ':=[.va (tbT l m w1 a),.va (tbT l' m' w2 a'),.va (fB (cO w1 w2)),.no,.no,.no,.no]) rfl ?_
 refine⟨_,aJ (j:=3) rfl,_,aJ (j:=3) rfl,a,a',rfl,?_⟩
 show PEnds.nx _ _
 refine nxE (ρ':=[.va (tbT l m w1 a),.va (tbT l' m' w2 a'),.va (fB (cO w1 w2)),.va (.seq false (atL (anA a a'))),.no,.no,.no]) rfl ?_
 generalize anA a a'=c at q
 have flat0:∀Ss:List (List Str),(∀S∈Ss,S=[])->(bM Ss.flatten).length<=6:=λSs h=>by
  have:Ss.flatten=[]:=List.flatten_eq_nil_iff.mpr h
  rw[this];exact Nat.zero_le _
 have none0:iW ([[]].filter (dC l m l' m')) [] R->∀T:Tv,iN (jU nJ (cS (jU mU (cS (cF 0) (cS (cF 1) (cS (uL (vY (cS (uL (vY eN)) eN))) eN)))) (cS (uD uNo) eN))) {nx:=λρ'=>True,rt:=R} [.va (tbT l m w1 a),.va (tbT l' m' w2 a'),.va T,.va (.seq false (atL c)),.no,.no,.no]:=λq T=>by
  refine⟨by simp,by simp,l,m,l',m',_,_,[[]],rfl,by simp,?_⟩
  exact⟨[[]].filter (dC l m l' m'),[],rfl,Nat.le_trans (List.length_filter_le _ _) (by simp),λS hS=>by rw[zA3 hS];exact⟨Nat.zero_le _,λn hn=>nomatch hn⟩,flat0 _ λS hS=>zA3 hS,q.1,q.2⟩
 dsimp only
 cases em:cO w1 w2 with
 |none=>
  rw[em]at q
  exact⟨_,rfl,bH (bH (none0 q nT))⟩
 |some v=>
  rw[em]at q
  have q:if emA c=true then iW ([[]].filter (dC l m l' m')) [] R else _:=q
  cases v with
  |few ss=>
   refine⟨_,rfl,aV ⟨by simp,.inr (.inl rfl),_,rfl,?_⟩⟩
   show if (false != (true&&bK (atL c) []))=true then _ else _
   rw[zBZ]
   cases ec:emA c with
   |true=>rw[ec,if_pos rfl]at q;exact bH (none0 q _)
   |false=>
    rw[ec,if_neg Bool.false_ne_true]at q
    have q:iW ((dN ss).filter (dC l m l' m')) (ss.map λs=>(s,c)) R:=q
    obtain⟨l6,nd6⟩:=hw ss em
    refine aV ⟨_,at0,_,rfl,sY ⟨_,aJ (j:=1) rfl,by rw[List.length_map];omega,eX sT (λs=>.seq true [sT s,.seq false (atL c)]) (λs hs R q=>⟨by simp,q⟩) ⟨ss.map λs=>(s,.seq false (atL c)),by rw[List.map_map];rfl,by rw[List.map_map];show(ss.map id).Nodup;rw[List.map_id];exact nd6,by rw[List.length_map];omega,?_⟩⟩⟩
    have sS:∀S∈dN ss,S.Sublist ss:=λS hS=>by
     obtain⟨b,_,rfl⟩:=List.mem_map.mp hS
     exact mY _ _
    have lS:(dN ss).length<=64:=by
     unfold dN
     rw[List.length_map,List.length_range]
     exact Nat.pow_le_pow_right (by decide) l6
    refine⟨_,aJ (j:=1) rfl,_,_,rfl,ss,rfl,l6,l,m,l',m',_,_,dN ss,rfl,lS,(dN ss).filter (dC l m l' m'),ss.map λs=>(s,c),?_,Nat.le_trans (List.length_filter_le _ _) lS,λS hS=>?_,?_,q.1,q.2⟩
    ·show [Ar.va _,.va (.dct (ss.map λs=>(s,Tv.seq false (atL c))))]=[Ar.va _,.va (.dct ((ss.map λs=>(s,c)).map λx=>(x.1,Tv.seq false (atL x.2))))]
     rw[List.map_map]
     rfl
    ·have:=sS S (List.mem_filter.mp hS).1
     refine⟨Nat.le_trans this.length_le l6,λn hn=>?_⟩
     rw[List.map_map]
     show n∈ss.map id
     rw[List.map_id]
     exact this.subset hn
    ·refine Nat.le_trans (WordM.nodup_len (jC _) (m:=ss) λx hx=>?_) l6
     obtain⟨S,hS,hx⟩:=List.mem_flatten.mp ((gH _ x).mp hx)
     exact(sS S (List.mem_filter.mp hS).1).subset hx
  |make h lo hi ms=>
   have hv:=hk h lo hi ms em
   refine⟨_,rfl,aV ⟨by simp,.inr (.inl rfl),_,rfl,?_⟩⟩
   show if (false != (true&&bK (atL c) []))=true then _ else _
   rw[zBZ]
   cases ec:emA c with
   |true=>rw[ec,if_pos rfl]at q;exact bH (none0 q _)
   |false=>
    rw[ec,if_neg Bool.false_ne_true]at q
    have q:R (bC (if cnL (hi+1).toNat 0 lo (min m m') 0 1 (sgS ms)<max l l' then [] else [.table (max l l') (cnL (hi+1).toNat 0 lo (min m m') 0 1 (sgS ms)) (.make h lo hi ms) (fmA c)])):=q
    refine aV ⟨_,at0,_,rfl,sN (by decide +kernel) ⟨_,at0,_,at0,.inl ⟨_,_,rfl,_,aJ (j:=1) rfl,_,aJ (j:=1) rfl,.inl ⟨_,_,rfl,h,lo,hi,ms,_,rfl,hv,?_⟩⟩⟩⟩
    generalize cnL (hi+1).toNat 0 lo (min m m') 0 1 (sgS ms)=mm at q
    refine⟨_,rfl,cJ (λz=>?_) (λz=>?_)⟩
    ·have z:mm<max l l':=z
     rw[if_pos z]at q
     exact⟨by simp,q⟩
    ·have z:¬ mm<max l l':=z
     rw[if_neg z]at q
     have q:R (.seq true [aO _]):=q
     rw[cL]at q
     exact⟨c,rfl,by simp,by simp,q⟩
end
end My
namespace L2
open PySem PySem.Spec PyProof.Rows WordM
section
variable{X:Cx}{sc:Scope}{XN N:List Str}{own:Nat}{fr:List Nat}{scope:Scope}{elt tg iter:Expr}{ifs:List Expr}{pos:Pos}{wi:TI}{g:TG}{tf:TT}{te:TE}
theorem zEJ{vn:Str}(hc:X.calm=true)(S:CScope vn sc XN N own fr scope)(hi:PI X tg iter wi)
  (hg:∀cl C fp s H,PG (eF X N scope vn cl C fp s H) tg g) (hf:∀cl C fp s H,PFs (eF X N scope vn cl C fp s H) ifs tf) (he:∀cl C fp s H,PE (eF X N scope vn cl C fp s H) elt te)
  (hs:∀x,foldedSetIterable iter X.env x=pure x:=by intro _;rfl) (hsc:X.env.scope=sc:=by rfl) (hxn:X.N=XN:=by rfl):PE X (.ListComp elt [⟨tg,iter,ifs,0⟩] scope pos) (qH own fr wi g tf te):=by
 subst hsc hxn
 intro pins s σ H Q I h
 obtain⟨cl,c1,c2,c3⟩:=sM (scope:=scope) (env:=X.env) λy hy e=>I.ok.has y.1 (S.free y hy e)
 rw[eval_ListComp]
 refine wpAny_comprehension_free (use:=none) rfl hs c1 S.kind S.loc (thn (hi pins s σ H _ I h) λxv s1 h1=>thn h1 λitv s2 h2=>?_)
 obtain⟨it,fp,tn,J,H2,e,I2,T,st2,f2,hw⟩:=h2
 subst e
 refine zCW hc S c2 c3 (λcl C s H=>hg cl C fp s H) (λcl C s H=>hf cl C fp s H) (λcl C s H=>he cl C fp s H) I2 T st2 f2 hw λa C s' H' I' q fC ⟨m,hn⟩=>?_
 refine⟨m,hn,λh' hs'=>?_⟩
 obtain⟨f0,f1,_,f3,f4,f5⟩:=fC
 exact⟨.ref a,H',I'.turned (t':=s'.toks) (λb o hb e=>hs'.extBut b o hb e) f0 f1 f3 f4 f5,rfl,q⟩
end
section
variable{X:Cx}{F:Fm}{sc:Scope}{XN N:List Str}{own:Nat}{fr:List Nat}{scope:Scope}{elt tg iter:Expr}{ifs:List Expr}{pos:Pos}{ui:UTl}{g:UG}{tf:UTt}{ue:UT}
theorem zEn{vn:Str}(hc:X.calm=true)(S:CScope vn sc XN N own fr scope)(nd:fr.Nodup)(hi:UI X F tg iter ui)
  (hg:∀cl C fp s H,UGt (eF X N scope vn cl C fp s H) F own tg g) (hf:∀cl C fp s H,UF (eF X N scope vn cl C fp s H) F ifs tf) (he:∀cl C fp s H,UE (eF X N scope vn cl C fp s H) F elt ue)
  (hs:∀x,foldedSetIterable iter X.env x=pure x:=by intro _;rfl) (hsc:X.env.scope=sc:=by rfl) (hxn:X.N=XN:=by rfl):UL X F (.ListComp elt [⟨tg,iter,ifs,0⟩] scope pos) (iK own fr ui g tf ue):=
 ⟨PE.imp (zEJ hc S hi.pi (λcl C fp s H=>(hg cl C fp s H).pg) (λcl C fp s H=>(hf cl C fp s H).pf) (λcl C fp s H=>(he cl C fp s H).pe) hs hsc hxn) (sX nd)⟩
end
end L2
namespace My
open PySem L2 PyProof.Rows WordM
section
variable{P:Program}{w:World}{K:W.Frag}{mg:Str->Option Value}{base:Heap}
def eW(w:Wd)(c:At)(rs:List Row):List (Str×At):=rs.filterMap λx=>if bS w x.1=true then some (x.1,anA x.2.2 c) else none
def nmC(L:List (Str×At)):List Str:=(L.map (·.1)).filter λn=>!emA (atD L n)
def jK(rs:List Row)(S:List Str):Bool:=((muR rs).map (·.1)).all λn=>decide (n∈S)
def mN(l m l' m':Int)(w:Wd)(c:At)(rs:List Row):List (List Str):=((dN (nmC (eW w c rs))).filter (dC l m l' m')).filter (jK rs)
theorem uT(w:Wd)(c:At)(rs:List Row):((eW w c rs).map (·.1)).Sublist (rs.map (·.1)):=by
 unfold eW
 induction rs with
 |nil=>exact .slnil
 |cons x rs ih=>
  rw[List.filterMap_cons]
  by_cases z:bS w x.1=true
  ·rw[if_pos z];exact ih.cons_cons _
  ·rw[if_neg z];exact ih.cons _
theorem tR{rs:List Row}(h:cK (rs.map (·.1)))(w:Wd)(c:At):cK ((eW w c rs).map (·.1)):=List.Pairwise.sublist (uT w c rs) h
theorem zDx{l:List Str}(h:cK l):bU l=l:=
 (List.Perm.eq_of_pairwise (le:=λa b=>cs a<cs b) (λa b _ _ h1 h2=>absurd (List.lt_trans h1 h2) (List.lt_irrefl _)) (kK (gG h)) h (fY l))
theorem zF9{α β γ:Type}(f:α->Option β)(g:β->γ)(h:α->Option γ)(e:∀a,h a=(f a).map g)(l:List α):l.filterMap h=(l.filterMap f).map g:=by
 rw[List.map_filterMap]
 exact congrArg (λk=>l.filterMap k) (funext e)
theorem zHK(L:List (Str×At)):((L.map (·.1)).filterMap λn=>if emA (atD L n)=true then none else some (sT n))=(nmC L).map sT:=by
 unfold nmC
 generalize L.map (·.1)=K
 induction K with
 |nil=>rfl
 |cons n K ih=>
  rw[List.filterMap_cons,List.filter_cons]
  cases e:emA (atD L n) with
  |true=>simpa using ih
  |false=>simpa using ih
theorem zIQ(rs:List Row):(rs.filterMap λx=>if x.2.1=true then some (sT x.1) else none)=((muR rs).map (·.1)).map sT:=by
 unfold muR
 induction rs with
 |nil=>rfl
 |cons x rs ih=>
  rw[List.filterMap_cons,List.filter_cons]
  cases h:x.2.1 with
  |true=>simp[h,ih]
  |false=>simp[h,ih]
theorem zHS(a:At):(true != (true&&bK (atL a) []))=!emA a:=by
 obtain⟨a1,a2,a3⟩:=a
 cases a1<;>cases a2<;>cases a3<;>rfl
theorem zHs(M S:List Str):(false != (true&&bK (M.filterMap λn=>if n∈S then none else some (sT n)) []))=M.all λn=>decide (n∈S):=by
 induction M with
 |nil=>rfl
 |cons n M ih=>
  rw[List.filterMap_cons,List.all_cons]
  by_cases z:n∈S
  ·rw[if_pos z,decide_eq_true z,Bool.true_and];exact ih
  ·rw[if_neg z,decide_eq_false z,Bool.false_and];rfl
def vD:PSp:=λas R=>∃l m w c l' m' rs,as=[.va (tbT l m w c),.va (rcT l' m' rs)]/\bL w/\iU l' m' rs/\iW (mN l m l' m' w c rs) (eW w c rs) R
theorem C49_:bE ["_law_table","_law_record","_law_atoms_here","_law_names","_law_musts","_law_sets"] ["_law_table","_law_record"] (aL jZ):=fsc (by decide +kernel)
theorem zJJ(h:Has K mg "_law_record_due" jZ)(B:Own mg)(G31_:PGood P w K mg base 2 "_law_words_let" ["_law_words","_law_text_here"] iY)(G39_:PGood P w K mg base 1 "_law_both" ["_law_one","_law_other"] pZ)(G47_:PGood P w K mg base 1 "_law_counted" ["_law_one","_law_other","_law_sets"] mU)(G43_:PGood P w K mg base 1 "_law_subsets" ["_law_names"] pY)(G42_:PGood P w K mg base 2 "_law_due_record" ["_law_sets","_law_atoms_here"] nJ)   : PGood P w K mg base 5 "_law_record_due" ["_law_table","_law_record"] vD:=by
 have nd:=C49_.nd
 refine h.pgood C49_ (fun|_,_,_,_,_,_,[_,_],_=>rfl) (λf cdv A outer s H E F hr=>
   (aE (aI 2 nd (nS (zS rfl rfl B.dict_ (bB (dR (sc:=aL jZ) (XN:=["_law_table","_law_record","_law_atoms_here","_law_names","_law_musts","_law_sets"]) (N:=["_law_row","_law_table"]) (fr:=[0]) (bR (aF hr (aA 1) aD)) (λ_ _ _ _ _=>(cQ (cM (aH G31_ hr (aB (aF hr (aA 1) aD) (aB (aF hr (aA 0) aD) aC)))))) (λ_ _ _ _ _=>(aT (aB (aF hr (aA 0) aD) (aB (aH G39_ hr (aB (aF hr (aA 0) aD) (aB (aF hr (aA 1) aD) aC))) aC)))))))))
   (aE (jT (sc:=aL jZ) (XN:=["_law_table","_law_record","_law_atoms_here","_law_names","_law_musts","_law_sets"]) (N:=["_law_name","_law_atoms_here"]) (fr:=[2]) 3 nd (bR (bB (zEm rfl rfl B.sorted (aA 2)))) (λ_ _ _ _ _=>(cQ (iM hr (aF hr (aA 1) (aA 0)) (bB (cA aC))))) (λ_ _ _ _ _=>(aA 0)))
   (aE (aI 4 nd (bB (dR (sc:=aL jZ) (XN:=["_law_table","_law_record","_law_atoms_here","_law_names","_law_musts","_law_sets"]) (N:=["_law_row"]) (fr:=[]) (bR (aF hr (aA 1) aD)) (λ_ _ _ _ _=>(cQ (cM (aF hr (aA 0) aD)))) (λ_ _ _ _ _=>(aF hr (aA 0) aD)))))
   (aE (aI 5 nd (aH G47_ hr (aB (aA 0) (aB (aA 1) (aB (aH G43_ hr (aB (aA 3) aC)) aC)))))
   (aG (aQ (aH G42_ hr (aB (bB (zEn (vn:="_law_some") (sc:=aL jZ) (XN:=["_law_table","_law_record","_law_atoms_here","_law_names","_law_musts","_law_sets"]) (N:=["_law_some","_law_musts"]) (own:=1) (fr:=[4]) rfl ⟨rfl,⟨[(".0",.local)],_,rfl,by decide +kernel,by decide +kernel⟩,rfl,by decide +kernel,by decide +kernel,rfl,by decide +kernel,by decide,by decide +kernel⟩ (by decide) (bR (aA 5)) (λ_ _ _ _ _=>(bY 0 (by decide) (show(["_law_some","_law_musts"]:List Str).Nodup by decide +kernel) rfl (by first|exact Or.inl rfl|exact Or.inr rfl))) (λ_ _ _ _ _=>(cQ (bJ hr (bB (dR (sc:={kind:=.function,names:=[(".0",.local),("_law_some",.cell),("_law_musts",.cell)],isGenerator:=false,isCoroutine:=false}) (XN:=["_law_some","_law_musts"]) (N:=["_law_name","_law_some"]) (fr:=[0]) (bR (aA 1)) (λ_ _ _ _ _=>(cQ (bX (mX hr.units) (aA 0) (aA 1) rfl))) (λ_ _ _ _ _=>(aA 0)))) (bB (cA aC))))) (λ_ _ _ _ _=>(aA 0)))) (aB (aA 2) aC)))))))))) (λas R q=>?_)
 obtain⟨l,m,w1,c,l',m',rs,rfl,hw,h1,q⟩:=q
 have n6:=h1.n6
 refine⟨rfl,_,aJ (j:=2) rfl,by rw[List.length_map];omega,cP rwT (λx=>(if bS w1 x.1=true then some (x.1,anA x.2.2 c) else none:Option (Str×At)).map λz=>.seq true [sT z.1,.seq false (atL z.2)]) (λx hx R q=>⟨_,aJ (j:=2) rfl,_,at0,w1,x.1,rfl,hw,(h1.sg x hx).1.1,by have:=(h1.sg x hx).1.2;omega,_,rfl,sif (λz=>?_) (λz=>?_)⟩) ?_⟩
 ·rw[if_pos z]at q
  exact⟨_,at0,_,aJ (j:=2) rfl,_,aJ (j:=3) rfl,x.2.2,c,rfl,by simp,q⟩
 ·rw[if_neg (by rw[z];exact Bool.false_ne_true)]at q
  exact q
 rw[zF9 (λx:Row=>if bS w1 x.1=true then some (x.1,anA x.2.2 c) else none) (λz=>Tv.seq true [sT z.1,.seq false (atL z.2)]) _ (λ_=>rfl)]
 have hL:cK ((eW w1 c rs).map (·.1)):=tR h1.ri w1 c
 have lL:(eW w1 c rs).length<=6:=by have:=(uT w1 c rs).length_le;rw[List.length_map,List.length_map]at this;omega
 refine⟨(eW w1 c rs).map λz=>(z.1,.seq false (atL z.2)),by rw[List.map_map];rfl,by rw[List.map_map];exact gG hL,by rw[List.length_map];omega,?_⟩
 unfold mN at q
 generalize eW w1 c rs=L at q hL lL
 show PEnds.nx _ _
 refine nxE (ρ':=[.va (tbT l m w1 c),.va (rcT l' m' rs),.va (dcT L),.no,.no,.no]) rfl ?_
 refine⟨_,rfl,?_⟩
 have ek:(L.map λz=>(z.1,Tv.seq false (atL z.2))).map (·.1)=L.map (·.1):=by rw[List.map_map];rfl
 rw[ek,zDx hL]
 refine⟨by rw[List.length_map,List.length_map];omega,cP sT (λn=>if emA (atD L n)=true then none else some (sT n)) (λn hn R q=>⟨_,zA8 hn,by simp,.inr (.inl rfl),_,rfl,?_⟩) ?_⟩
 ·show if (true != (true&&bK (atL (atD L n)) []))=true then _ else _
  rw[zHS]
  cases z:emA (atD L n) with
  |true=>rw[z]at q;exact aV q
  |false=>rw[z]at q;exact bH q
 rw[zHK]
 have sN:(nmC L).Sublist (L.map (·.1)):=List.filter_sublist
 have lN:(nmC L).length<=6:=by have:=sN.length_le;rw[List.length_map]at this;omega
 have sS:∀S∈dN (nmC L),S.Sublist (nmC L):=λS hS=>by
  obtain⟨b,_,rfl⟩:=List.mem_map.mp hS
  exact mY _ _
 have lS:(dN (nmC L)).length<=64:=by
  unfold dN
  rw[List.length_map,List.length_range]
  exact Nat.pow_le_pow_right (by decide) lN
 show PEnds.nx _ _
 refine nxE (ρ':=[.va (tbT l m w1 c),.va (rcT l' m' rs),.va (dcT L),.va (.seq false ((nmC L).map sT)),.no,.no]) rfl ?_
 refine⟨_,aJ (j:=2) rfl,by rw[List.length_map];omega,cP rwT (λx=>if x.2.1=true then some (sT x.1) else none) (λx hx R q=>⟨_,aJ (j:=1) rfl,_,rfl,sif (λz=>⟨_,at0,?_⟩) (λz=>?_)⟩) ?_⟩
 ·rw[if_pos z]at q;exact q
 ·rw[if_neg (by rw[z];exact Bool.false_ne_true)]at q;exact q
 rw[zIQ]
 have ml:((muR rs).map (·.1)).length<=6:=by rw[List.length_map];exact Nat.le_trans (List.length_filter_le _ _) n6
 have em:∀S,jK rs S=((muR rs).map (·.1)).all λn=>decide (n∈S):=λ_=>rfl
 generalize hM:(muR rs).map (·.1)=M at ml em
 show PEnds.nx _ _
 refine nxE (ρ':=[.va (tbT l m w1 c),.va (rcT l' m' rs),.va (dcT L),.va (.seq false ((nmC L).map sT)),.va (.seq false (M.map sT)),.no]) rfl ?_
 refine⟨nmC L,rfl,lN,l,m,l',m',_,_,dN (nmC L),rfl,lS,?_⟩
 have l64:((dN (nmC L)).filter (dC l m l' m')).length<=64:=Nat.le_trans (List.length_filter_le _ _) lS
 have sub1:∀S∈(dN (nmC L)).filter (dC l m l' m'),S.Sublist (nmC L):=λS hS=>sS S (List.mem_filter.mp hS).1
 generalize (dN (nmC L)).filter (dC l m l' m')=Ss at q l64 sub1
 show PEnds.nx _ _
 refine nxE (ρ':=[.va (tbT l m w1 c),.va (rcT l' m' rs),.va (dcT L),.va (.seq false ((nmC L).map sT)),.va (.seq false (M.map sT)),.va (.seq false (dA Ss))]) rfl ?_
 refine⟨by unfold dA;rw[List.length_map];omega,cP (λS:List Str=>Tv.seq false (S.map sT)) (λS=>if jK rs S=true then some (.seq false (S.map sT)) else none) (l:=Ss) (λS hS R q=>?_) ?_⟩
 ·refine⟨by rw[List.length_map];omega,cP sT (λn=>if n∈S then none else some (sT n)) (λn hn R q=>⟨⟨trivial,λU hU=>?_⟩,_,rfl,?_⟩) ?_⟩
  ·obtain⟨s,_,rfl⟩:=List.mem_map.mp hU;trivial
  ·show if (true != (S.map sT).any λU=>L2.eqT U (sT n))=true then _ else _
   rw[wY]
   by_cases z:n∈S
   ·rw[if_pos z]at q;rw[decide_eq_true z];exact aV q
   ·rw[if_neg z]at q;rw[decide_eq_false z];exact bH q
  ·refine⟨by simp,.inr (.inl rfl),_,rfl,?_⟩
   show if (false != (true&&bK (M.filterMap λn=>if n∈S then none else some (sT n)) []))=true then _ else _
   rw[zHs,<-em]
   cases z:jK rs S with
   |true=>rw[z]at q;exact bH q
   |false=>rw[z]at q;exact aV q
 rw[zAX]
 have sub2:∀S∈Ss.filter (jK rs),S.Sublist (nmC L):=λS hS=>sub1 S (List.mem_filter.mp hS).1
 refine⟨Ss.filter (jK rs),L,rfl,Nat.le_trans (List.length_filter_le _ _) l64,λS hS=>⟨Nat.le_trans (sub2 S hS).length_le lN,λn hn=>sN.subset ((sub2 S hS).subset hn)⟩,?_,q.1,q.2⟩
 refine Nat.le_trans (WordM.nodup_len (jC (Ss.filter (jK rs)).flatten) (m:=nmC L) λx hx=>?_) lN
 obtain⟨S,hS,hx⟩:=List.mem_flatten.mp ((gH _ x).mp hx)
 exact(sub2 S hS).subset hx
end
end My
namespace My
open PySem L2 PyProof.Rows WordM
section
variable{P:Program}{w:World}{K:W.Frag}{mg:Str->Option Value}{base:Heap}
def wQ(c:Nat)(n:Int):Str:=gW ⟨#[c]⟩ n
theorem zBE(c:Nat)(n:Int):cs (wQ c n)=List.replicate n.toNat c:=by
 show((List.replicate n.toNat [c]).flatten.toArray).toList=_
 rw[List.toList_toArray]
 induction n.toNat with
 |zero=>rfl
 |succ k ih=>rw[List.replicate_succ,List.flatten_cons,ih,List.replicate_succ];rfl
theorem zFs(c:Nat)(n:Int):(wQ c n).length=n.toNat:=by rw[WordM.len,zBE,List.length_replicate]
theorem zGI{c:Nat}(h:c∈cs SIG)(n:Int):Sg (wQ c n):=λd hd=>by
 rw[zBE]at hd
 rw[(List.mem_replicate.mp hd).2]
 exact h
theorem zFV{m:Str}(h:m∈MK):∃S:Str,fQ [(Str.ofString "figure",sT (Str.ofString "0123456789")),(Str.ofString "great",sT (Str.ofString "ABCXYZ")),(Str.ofString "other",sT (Str.ofString " !~-")),(Str.ofString "small",sT (Str.ofString "abcxyz"))] m=some (sT S)/\S.length<=100/\∀k:Nat,k<4->∃c,S.cps.toList[k]?=some c/\c∈cs SIG:=by
 simp only[MK,List.mem_cons,List.not_mem_nil,or_false]at h
 rcases h with rfl|rfl|rfl|rfl
 ·exact⟨"0123456789",rfl,by decide +kernel,λk hk=>by
   have:k=0\/k=1\/k=2\/k=3:=by omega
   rcases this with rfl|rfl|rfl|rfl<;>exact⟨_,rfl,by decide +kernel⟩⟩
 ·exact⟨"ABCXYZ",rfl,by decide +kernel,λk hk=>by
   have:k=0\/k=1\/k=2\/k=3:=by omega
   rcases this with rfl|rfl|rfl|rfl<;>exact⟨_,rfl,by decide +kernel⟩⟩
 ·exact⟨" !~-",rfl,by decide +kernel,λk hk=>by
   have:k=0\/k=1\/k=2\/k=3:=by omega
   rcases this with rfl|rfl|rfl|rfl<;>exact⟨_,rfl,by decide +kernel⟩⟩
 ·exact⟨"abcxyz",rfl,by decide +kernel,λk hk=>by
   have:k=0\/k=1\/k=2\/k=3:=by omega
   rcases this with rfl|rfl|rfl|rfl<;>exact⟨_,rfl,by decide +kernel⟩⟩
def vE:PSp:=λas R=>∃(h:Str) (lo hi:Int) (ms:List Str) (ns:List Str),as=[.dk,.va (aW (.make h lo hi ms)),.va (.seq false (ns.map sT))]/\bL (.make h lo hi ms)/\ns.length<=3/\ns.Nodup/\(∀s∈ns,Sg s/\s.length<=200)/\∀pool,zBG pool->R (.seq false (pool.map sT))
theorem C50_:bE ["_law_deck_here","_law_make_here","_law_names","_law_signs_here","_law_found","_law_k","_law_name"] ["_law_deck_here","_law_make_here","_law_names"] (aL wC):=fsc (by decide +kernel)
theorem zJI(h:Has K mg "_law_near_names" wC)(B:Own mg)(G24_:PGood P w K mg base 2 "_law_take" ["_law_deck_here","_law_most"] fH)   : PGood P w K mg base 3 "_law_near_names" ["_law_deck_here","_law_make_here","_law_names"] vE:=by
 have nd:=C50_.nd
 refine h.pgood C50_ (fun|_,_,_,_,_,_,[_,_,_],_=>rfl) (λf cdv A outer s H E F hr=>
   (aE (aI 3 nd (aF hr (nS (zAs (jB aU (jB aU (jB aU (jB aU zBa)))) (by decide +kernel) (by decide))) (aF hr (aF hr (aA 1) aD) aD)))
   (aE (jI 4 nd (kI kM rfl B.list_ boot_list (aB (aA 2) aC)))
   (aE (eY (m:=7) PassesOwn.never rfl (hC rfl B.range (aB aD aC)) (bY 5 (by decide) nd rfl (.inl rfl))
    (aE (aI 6 nd (aY bQ (aF hr (aA 1) aD) (aY kZ (aF hr (aA 3) (aA 5)) (aY bQ (aX (fM rfl) rfl B.max boot_max (aB aD (aB (aF hr (aA 1) aD) aC))) (aH G24_ hr (bG 0 (aB aD aC)))))))
    (aG (aZ (zAt λF=>(bX (mX hr.units) (aA 6) (aA 4) rfl))
     (aG (kX (kJ 4 (aA 6))))
     bA))))
   (aG (aQ (eG eM (aA 4) (eI (zBH zBl aD)) eJ))))))) (λas R q=>?_)
 obtain⟨h,lo,hi,ms,ns,rfl,hw,n3,nn,hs,q⟩:=q
 obtain⟨⟨hS,hl⟩,a0,ab,b1,b6,sub,ne⟩:=hw
 obtain⟨m0,mr,rfl⟩:∃m0 mr,ms=m0::mr:=by cases ms with|nil=>exact absurd rfl ne|cons x y=>exact⟨x,y,rfl⟩
 obtain⟨S,eS,lS,hc⟩:=zFV (sub.subset (List.mem_cons_self ..))
 refine⟨rfl,_,aJ (j:=4) rfl,_,at0,_,eS,false,_,rfl,?_⟩
 show PEnds.nx _ _
 refine nxE (ρ':=[.dk,.va (aW (.make h lo hi (m0::mr))),.va (.seq false (ns.map sT)),.va (sT S),.own (ns.map sT),.no,.no]) rfl ?_
 refine⟨_,rfl,by decide,by decide,?_⟩
 refine gJ (λi ρ=>∃(fs:List Str) (s5 s6:Sl),fs.length<=3+i/\fs.Nodup/\(∀s∈fs,Sg s/\s.length<=200)/\ρ=[.dk,.va (aW (.make h lo hi (m0::mr))),.va (.seq false (ns.map sT)),.va (sT S),.own (fs.map sT),s5,s6]) ⟨ns,_,_,n3,nn,hs,rfl⟩ ?_ ?_
 ·rintro i T _ N hT ⟨fs,s5,s6,fl,fnd,fh,rfl⟩ hN
  obtain⟨hi4,rfl⟩:=jA hT
  have hi4:i<4:=hi4
  rw[Int.zero_add]
  obtain⟨c,ec,hcs⟩:=hc i hi4
  refine⟨_,aJ (j:=1) rfl,by omega,c,?_,?_⟩
  ·exact(aJ (j:=i) ec)
  ·refine⟨_,aJ (j:=2) rfl,.inl ⟨_,_,rfl,rfl,2,rfl,by decide,bN (by decide) (by decide),λr r0 r1=>⟨⟨by show(1:Nat)<=1000;decide,by omega,by omega⟩,?_⟩⟩⟩
   have lr:(gW ⟨#[c]⟩ (max 1 lo+r)).length=(max 1 lo+r).toNat:=zFs c _
   have sr:Sg (gW ⟨#[c]⟩ (max 1 lo+r)):=zGI hcs _
   generalize gW ⟨#[c]⟩ (max 1 lo+r)=t at lr sr
   refine⟨by omega,?_⟩
   have ln:(h++t).length<=200:=by rw[zCN];omega
   have sn:Sg (h++t):=hS.app sr
   generalize h++t=nm at ln sn
   show PEnds.nx _ _
   refine nxE (ρ':=[.dk,.va (aW (.make h lo hi (m0::mr))),.va (.seq false (ns.map sT)),.va (sT S),.own (fs.map sT),.va (iT (i:Nat)),.va (sT nm)]) rfl ?_
   refine⟨⟨trivial,λU hU=>?_⟩,_,rfl,?_⟩
   ·obtain⟨s,_,rfl⟩:=List.mem_map.mp hU;trivial
   ·show if (true != (fs.map sT).any λU=>L2.eqT U (sT nm))=true then _ else _
    rw[wY]
    by_cases z:nm∈fs
    ·rw[decide_eq_true z]
     exact aV (hN _ ⟨fs,_,_,by omega,fnd,fh,rfl⟩)
    ·rw[decide_eq_false z]
     refine bH ⟨⟨_,rfl⟩,_,rfl,by rw[List.length_map];omega,hN _ ⟨fs++[nm],.va (iT (i:Nat)),.va (sT nm),by rw[List.length_append];simp;omega,?_,?_,?_⟩⟩
     ·exact List.nodup_append.mpr ⟨fnd,by simp,λa ha b hb e=>by rw[List.mem_singleton]at hb;subst hb;subst e;exact z ha⟩
     ·intro s hs
      rcases List.mem_append.mp hs with hs|hs
      ·exact fh s hs
      ·rw[List.mem_singleton]at hs;subst hs;exact⟨sn,ln⟩
     ·rw[List.map_append];rfl
 ·rintro _ ⟨fs,s5,s6,fl,fnd,fh,rfl⟩
  have ecut:cR (fs.map sT) (some (-6)) none=(cR fs (some (-6)) none).map sT:=by
   unfold cR
   rw[List.length_map,<-List.map_drop,<-List.map_take]
  have q:=q (cR fs (some (-6)) none) ?_
  ·rw[<-ecut]at q
   exact⟨_,rfl,q⟩
  ·have sb:(cR fs (some (-6)) none).Sublist fs:=(List.take_sublist _ _).trans (List.drop_sublist _ _)
   refine⟨?_,fnd.sublist sb,λs hs=>fh s (sb.subset hs)⟩
   unfold cR
   rw[List.length_take]
   have:HT.sIx fs.length 0 (some (-6))=(-6+(fs.length:Int)).toNat:=rfl
   rw[this,HT.sIx_none]
   omega
end
end My
namespace My
open PySem L2 PyProof.Rows WordM
section
variable{P:Program}{w:World}{K:W.Frag}{mg:Str->Option Value}{base:Heap}
theorem zX{xs ys:List Str}(hx:cK xs)(hy:cK ys)(h:∀x,x∈xs↔x∈ys):xs=ys:=
 (mW hx hy λx hx=>(h x).mp hx).eq_of_length_le (mW hy hx λx hx=>(h x).mpr hx).length_le
theorem st_len{x y:Str}(h:stW x y=true)(e:x.length=y.length):x=y:=by
 obtain⟨r,er⟩:=stW_iff.mp h
 have l:=congrArg List.length er
 rw[List.length_append,<-WordM.len,<-WordM.len]at l
 have:r=[]:=List.eq_nil_of_length_eq_zero (by omega)
 rw[this,List.append_nil]at er
 exact kY er
theorem st_self(x:Str):stW x x=true:=stW_iff.mpr ⟨[],by rw[List.append_nil]⟩
theorem sP(x:Str):cs (bD x x)=[]:=zY (r:=[]) (by rw[List.append_nil])
theorem sH(x:Str):(bD x x).length=0:=by rw[WordM.len,sP];rfl
theorem yD(x:Str):dQ (bD x x)=[]:=by
 unfold dQ gY
 rw[sP,List.filter_eq_nil_iff]
 intro m _
 simp
theorem zE2{ss ts:List Str}(h1:cK ss)(h2:cK ts):eP ss (.few ts)=eP ts (.few ss):=by
 have e:ss.filter (bS (.few ts))=ts.filter (bS (.few ss)):=by
  refine zX (h1.sublist (List.filter_sublist)) (h2.sublist (List.filter_sublist)) λx=>?_
  rw[List.mem_filter,List.mem_filter]
  simp[bS,and_comm]
 unfold eP
 rw[e]
theorem zFZ{h:Str}{a b a2 b2:Int}{ms ms2:List Str}(s1:ms.Sublist MK)(s2:ms2.Sublist MK):bV h a b ms h a2 b2 ms2=bV h a2 b2 ms2 h a b ms:=by
 have e:(ms.filter λm=>decide (m∈ms2))=ms2.filter λm=>decide (m∈ms):=by
  refine zX ((mk_rise.sublist s1).sublist (List.filter_sublist)) ((mk_rise.sublist s2).sublist (List.filter_sublist)) λx=>?_
  rw[List.mem_filter,List.mem_filter]
  simp[and_comm]
 unfold bV
 rw[yD,sH,e,st_self]
 simp only[List.all_nil,Bool.and_true,if_true]
 have e1:max a (a2-(0:Nat))=max a2 (a-(0:Nat)):=by omega
 have e2:min b (b2-(0:Nat))=min b2 (b-(0:Nat)):=by omega
 rw[e1,e2]
theorem zDS:∀{W V:Wd},bL W->bL V->cO W V=cO V W
 |.few ss,.few ts,h1,h2=>zE2 h1.2.2.1 h2.2.2.1
 |.few ss,.make ..,_,_=>rfl
 |.make ..,.few ss,_,_=>rfl
 |.make h a b ms,.make h2 a2 b2 ms2,o1,o2=>by
  show(if h.length<h2.length then bV h2 a2 b2 ms2 h a b ms else bV h a b ms h2 a2 b2 ms2)=(if h2.length<h.length then bV h a b ms h2 a2 b2 ms2 else bV h2 a2 b2 ms2 h a b ms)
  rcases Nat.lt_trichotomy h.length h2.length with z|z|z
  ·rw[if_pos z,if_neg (by omega)]
  ·rw[if_neg (by omega),if_neg (by omega)]
   by_cases e:h=h2
   ·subst e
    exact zFZ o1.2.2.2.2.2.1 o2.2.2.2.2.2.1
   ·have n1:stW h h2=false:=by
     cases c:stW h h2 with
     |false=>rfl
     |true=>exact absurd (st_len c z) e
    have n2:stW h2 h=false:=by
     cases c:stW h2 h with
     |false=>rfl
     |true=>exact absurd (st_len c z.symm).symm e
    unfold bV
    rw[n1,n2]
    rfl
  ·rw[if_neg (by omega),if_pos z]
theorem zDQ:∀{W:Wd},bL W->cO W W=some W
 |.few ss,h=>by
  show eP ss (.few ss)=_
  unfold eP
  have e:ss.filter (bS (.few ss))=ss:=by
   rw[List.filter_eq_self]
   intro x hx
   simp[bS,hx]
  rw[e,if_neg]
  intro z
  have:=h.1
  rw[z]at this
  exact absurd this (by decide)
 |.make h a b ms,o=>by
  show(if h.length<h.length then bV h a b ms h a b ms else bV h a b ms h a b ms)=_
  rw[if_neg (by omega)]
  obtain⟨_,a0,ab,b1,_,_,ne⟩:=o
  have e:(ms.filter λm=>decide (m∈ms))=ms:=by
   rw[List.filter_eq_self]
   intro x hx
   simp[hx]
  unfold bV
  rw[yD,sH,e,st_self]
  simp only[List.all_nil,Bool.and_true,if_true]
  have e1:max a (a-(0:Nat))=a:=by omega
  have e2:min b (b-(0:Nat))=b:=by omega
  rw[e1,e2,if_neg ne,if_neg (by omega),if_neg (by omega)]
theorem zW{ss:List Str}(l:ss.length<=100000):SameD 3 (aW (.few ss)):=by
 refine⟨by simp,λx hx=>?_⟩
 simp only[List.mem_cons,List.not_mem_nil,or_false]at hx
 rcases hx with rfl|rfl
 ·trivial
 ·exact yR 0 l
theorem sO{h:Str}{a b:Int}{ms:List Str}(l:ms.length<=100000):SameD 3 (aW (.make h a b ms)):=by
 refine⟨by simp,λx hx=>?_⟩
 simp only[List.mem_cons,List.not_mem_nil,or_false]at hx
 rcases hx with rfl|rfl|rfl|rfl|rfl
 ·trivial
 ·trivial
 ·trivial
 ·trivial
 ·exact yR 0 l
theorem zD{ss:List Str}{W r:Wd}(l:ss.length<=6)(e:eP ss W=some r):SameD 3 (aW r):=by
 unfold eP at e
 split at e
 ·cases e
 ·cases e
  exact zW (Nat.le_trans (List.length_filter_le _ _) (by omega))
theorem zAe{h h2:Str}{a b a2 b2:Int}{ms ms2:List Str}{r:Wd}(l:ms.length<=4)(e:bV h a b ms h2 a2 b2 ms2=some r):SameD 3 (aW r):=by
 unfold bV at e
 have lM:(ms.filter λm=>decide (m∈ms2)).length<=4:=Nat.le_trans (List.length_filter_le _ _) l
 have key:∀lo hi:Int,(if hi<lo then none else if hi=0 then some (.few [h]) else some (.make h lo hi (ms.filter λm=>decide (m∈ms2))))=some r->SameD 3 (aW r):=λlo hi e=>by
  split at e
  ·cases e
  ·split at e
   ·cases e;exact zW (by simp)
   ·cases e;exact sO (by omega)
 split at e
 ·exact key _ _ e
 ·cases e
theorem zDR{W V r:Wd}(hW:bL W)(hV:bL V)(e:cO W V=some r):SameD 3 (aW r):=by
 cases W with
 |few ss=>exact zD hW.2.1 e
 |make h a b ms=>
  cases V with
  |few ss=>exact zD hV.2.1 e
  |make h2 a2 b2 ms2=>
   have e:(if h.length<h2.length then bV h2 a2 b2 ms2 h a b ms else bV h a b ms h2 a2 b2 ms2)=some r:=e
   split at e
   ·exact zAe hV.2.2.2.2.2.1.length_le e
   ·exact zAe hW.2.2.2.2.2.1.length_le e
end
section
variable{P:Program}{w:World}{K:W.Frag}{mg:Str->Option Value}{base:Heap}
def f3:At:=(false,false,false)
def atR(rs:List Row)(n:Str):At:=((rs.find? λy=>decide (y.1=n)).map (·.2.2)).getD f3
def muB(rs:List Row)(n:Str):Bool:=((rs.find? λy=>decide (y.1=n)).map (·.2.1)).getD false
theorem found{rs:List Row}{n:Str}{x:Row}(e:(rs.find? λy=>decide (y.1=n))=some x):x.1=n:=by
 have:=List.find?_some e
 exact of_decide_eq_true this
theorem zFT{rs:List Row}(h:cK (rs.map (·.1))){x y:Row}(hx:x∈rs)(hy:y∈rs)(e:x.1=y.1):x=y:=by
 induction rs with
 |nil=>exact nomatch hx
 |cons a rs ih=>
  rw[List.map_cons]at h
  obtain⟨h1,h2⟩:=List.pairwise_cons.mp h
  have no:∀z∈rs,a.1≠z.1:=λz hz e=>absurd (e▸h1 z.1 (List.mem_map.mpr ⟨z,hz,rfl⟩)) (List.lt_irrefl _)
  rcases List.mem_cons.mp hx with ex|hx'<;>rcases List.mem_cons.mp hy with ey|hy'
  ·rw[ex,ey]
  ·rw[ex]at e;exact absurd e (no _ hy')
  ·rw[ey]at e;exact absurd e.symm (no _ hx')
  ·exact ih h2 hx' hy'
theorem zIZ(a:At):anA a f3=f3:=by
 obtain⟨a1,a2,a3⟩:=a
 cases a1<;>cases a2<;>cases a3<;>rfl
theorem zIT(a:At):anA f3 a=f3:=rfl
theorem zGa(rs:List Row)(n:Str):(fa (rs.map fdR) n).2=(muB rs n,fmA (atR rs n)):=by
 unfold fa muB atR
 rw[List.find?_map]
 have:((λx:Fd=>decide (x.1=n))∘fdR)=λy:Row=>decide (y.1=n):=rfl
 rw[this]
 cases rs.find? λy=>decide (y.1=n)<;>rfl
def cT(w:Wd)(c:At)(n:Str):At:=if bS w n=true then c else f3
def Atm(p:Pt)(a:Str->At)(mu:Str->Bool):Prop:=∀n,(faP p n).2=(mu n,fmA (a n))
theorem jD(l m:Int)(w:Wd)(c:At):Atm (.table l m w (fmA c)) (cT w c) (λ_=>false):=λn=>by
 show((false,if bS w n=true then fmA c else []):Bool×List Pt)=_
 unfold cT
 cases bS w n<;>rfl
theorem zA7(l m:Int)(rs:List Row):Atm (.record l m (rs.map fdR)) (atR rs) (muB rs):=λn=>zGa rs n
section
variable{p1 p2:Pt}{a1 a2:Str->At}{m1 m2:Str->Bool}{ns:List Str}{Ss:List (List Str)}
theorem vB(h1:Atm p1 a1 m1)(h2:Atm p2 a2 m2)(n:Str):eD mfA p1 p2 n=if emA (anA (a1 n) (a2 n))=true then none else some (n,(m1 n || m2 n),fmA (anA (a1 n) (a2 n))):=by
 unfold eD
 rw[h1 n,h2 n]
 dsimp only
 rw[jS,qR]
theorem nQ(h1:Atm p1 a1 m1)(h2:Atm p2 a2 m2)(n:Str):bad mfA p1 p2 n=(emA (anA (a1 n) (a2 n))&&(m1 n || m2 n)):=by
 unfold bad
 rw[h1 n,h2 n]
 dsimp only
 rw[jS,qR]
theorem zAM(h1:Atm p1 a1 m1)(h2:Atm p2 a2 m2)(ns:List Str):nmO mfA p1 p2 ns=nmO mfA p2 p1 ns:=by
 unfold nmO
 have eb:bad mfA p1 p2=bad mfA p2 p1:=funext λn=>by rw[nQ h1 h2,nQ h2 h1,pQ,Bool.or_comm]
 have er:eD mfA p1 p2=eD mfA p2 p1:=funext λn=>by rw[vB h1 h2,vB h2 h1,pQ,Bool.or_comm]
 rw[eb,er,Int.max_comm,Int.min_comm]
theorem zAC(h1:Atm p1 a1 m1)(h2:Atm p2 a2 m2)(ns:List Str):ns.filterMap (eD mfA p1 p2)=fdC (ns.filter λn=>!emA (anA (a1 n) (a2 n))) (λn=>m1 n || m2 n) (λn=>fmA (anA (a1 n) (a2 n))):=by
 unfold fdC
 induction ns with
 |nil=>rfl
 |cons n ns ih=>
  rw[List.filterMap_cons,vB h1 h2,List.filter_cons]
  cases z:emA (anA (a1 n) (a2 n)) with
  |true=>simpa using ih
  |false=>simpa using ih
structure NmD (p1 p2:Pt) (a1 a2:Str->At) (m1 m2:Str->Bool) (ns:List Str) (Ss:List (List Str)):Prop where
 h1:Atm p1 a1 m1
 h2:Atm p2 a2 m2
 z:¬ ns.any (bad mfA p1 p2)=true->Sts (ns.filter λn=>!emA (anA (a1 n) (a2 n))) (λn=>m1 n || m2 n) (max (loP p1) (loP p2)) (min (hiP p1) (hiP p2)) Ss
 b:ns.any (bad mfA p1 p2)=true->Ss=[]
theorem NmD.non(h:NmD p1 p2 a1 a2 m1 m2 ns Ss)(e:Ss=[]):nmO mfA p1 p2 ns=none:=by
 unfold nmO
 by_cases z:ns.any (bad mfA p1 p2)=true
 ·rw[if_pos z]
 ·rw[if_neg z,zAC h.h1 h.h2]
  exact zDD (h.z z) _ e
theorem NmD.som(h:NmD p1 p2 a1 a2 m1 m2 ns Ss){lo hi:Int}(l1:lo∈szD Ss)(l2:∀a∈szD Ss,lo<=a)(u1:hi∈szD Ss)(u2:∀a∈szD Ss,a<=hi):nmO mfA p1 p2 ns=some (.record lo hi ((eO Ss).map λn=>(n,Ss.all (λS=>decide (n∈S)),fmA (anA (a1 n) (a2 n))))):=by
 unfold nmO
 by_cases z:ns.any (bad mfA p1 p2)=true
 ·rw[h.b z]at l1
  exact nomatch l1
 ·rw[if_neg z,zAC h.h1 h.h2]
  exact zDC (h.z z) _ l1 l2 u1 u2
theorem NmD.sub(h:NmD p1 p2 a1 a2 m1 m2 ns Ss){n:Str}(hn:n∈eO Ss):n∈ns:=by
 obtain⟨S,hS,hn⟩:=nms_mem.mp hn
 by_cases z:ns.any (bad mfA p1 p2)=true
 ·rw[h.b z]at hS
  exact nomatch hS
 ·exact(List.mem_filter.mp ((((h.z z).me S).mp hS).1.subset hn)).1
end
theorem zAA(a:At):SameD 4 (bC (fmA a)):=by
 obtain⟨a1,a2,a3⟩:=a
 cases a1<;>cases a2<;>cases a3<;>simp[fmA,bsA,bC,mR,gZ,SameD]
theorem zEx(l m:Int){fs:List Fd}(hl:fs.length<=100000)(h:∀x∈fs,∃a,x.2.2=fmA a):SameD 8 (aO (.record l m fs)):=by
 rw[cW]
 refine⟨by simp,λx hx=>?_⟩
 simp only[List.mem_cons,List.not_mem_nil,or_false]at hx
 rcases hx with rfl|rfl|rfl|rfl
 ·trivial
 ·trivial
 ·trivial
 ·refine⟨by rw[List.length_map];exact hl,λy hy=>?_⟩
  obtain⟨x,hx,rfl⟩:=List.mem_map.mp hy
  obtain⟨a,ea⟩:=h x hx
  refine⟨by simp,λz hz=>?_⟩
  have hz:z∈[sT x.1,bT x.2.1,bC x.2.2]:=hz
  simp only[List.mem_cons,List.not_mem_nil,or_false]at hz
  rcases hz with rfl|rfl|rfl
  ·trivial
  ·trivial
  ·rw[ea];exact(zAA a).le (by decide)
theorem tH(l m:Int){w:Wd}(hw:SameD 3 (aW w))(a:At):SameD 8 (aO (.table l m w (fmA a))):=by
 rw[cL]
 refine⟨by simp,λx hx=>?_⟩
 simp only[List.mem_cons,List.not_mem_nil,or_false]at hx
 rcases hx with rfl|rfl|rfl|rfl|rfl
 ·trivial
 ·trivial
 ·trivial
 ·exact hw.le (by decide)
 ·exact(zAA a).le (by decide)
def nZ(p1 p2:Pt)(d:List Pt):Prop:=d=(dcQ mfA p1 p2).toList/\d.length<=1/\∀p∈d,SameD 8 (aO p)
theorem qS{p1 p2:Pt}{a1 a2:Str->At}{m1 m2:Str->Bool}{ns:List Str}{Ss:List (List Str)}{L:List (Str×At)}{R:Tv->Prop}(h:NmD p1 p2 a1 a2 m1 m2 ns Ss)(ln:ns.length<=100000)(e:dcQ mfA p1 p2=nmO mfA p1 p2 ns)(g:∀n∈ns,atD L n=anA (a1 n) (a2 n))(q:∀d,nZ p1 p2 d->R (bC d)):iW Ss L R:=by
 refine⟨λes=>q _ ⟨by rw[e,h.non es];rfl,Nat.zero_le _,λp hp=>nomatch hp⟩,λlo hi l1 l2 u1 u2=>q _ ⟨?_,Nat.le_refl _,λp hp=>?_⟩⟩
 ·rw[e,h.som l1 l2 u1 u2,Option.toList_some]
  congr 2
  apply List.map_congr_left
  intro n hn
  unfold mP
  rw[g n (h.sub hn)]
 ·rw[List.mem_singleton]at hp
  subst hp
  refine zEx _ _ ?_ λx hx=>?_
  ·rw[List.length_map]
   exact Nat.le_trans (WordM.nodup_len (gG (tL Ss)) λx hx=>h.sub hx) ln
  ·obtain⟨n,_,rfl⟩:=List.mem_map.mp hx
   exact⟨_,rfl⟩
theorem nR(w:Wd)(c:At)(rs:List Row)(n:Str):atD (eW w c rs) n=anA (cT w c n) (atR rs n):=by
 unfold eW
 induction rs with
 |nil=>exact(zIZ _).symm
 |cons x rs ih=>
  rw[List.filterMap_cons]
  by_cases z:x.1=n
  ·have e1:atR (x::rs) n=x.2.2:=by unfold atR;rw[List.find?_cons,decide_eq_true z];rfl
   rw[e1]
   by_cases zw:bS w x.1=true
   ·rw[if_pos zw]
    unfold atD cT
    rw[<-z,if_pos zw]
    dsimp only
    rw[List.find?_cons,decide_eq_true rfl,pQ]
    rfl
   ·rw[if_neg zw]
    have e2:cT w c n=f3:=by unfold cT;rw[<-z,if_neg zw]
    rw[e2,zIT]at ih ⊢
    exact ih
  ·have e1:atR (x::rs) n=atR rs n:=by unfold atR;rw[List.find?_cons,decide_eq_false z]
   rw[e1,<-ih]
   by_cases zw:bS w x.1=true
   ·rw[if_pos zw]
    dsimp only
    unfold atD
    rw[List.find?_cons,decide_eq_false z]
   ·rw[if_neg zw]
theorem in_nmC{L:List (Str×At)}{n:Str}:n∈nmC L↔emA (atD L n)=false:=by
 unfold nmC
 rw[List.mem_filter]
 refine⟨λh=>by simpa using h.2,λh=>⟨?_,by rw[h];rfl⟩⟩
 unfold atD at h
 cases e:L.find? λx=>decide (x.1=n) with
 |none=>rw[e]at h;cases h
 |some x=>
  have:=List.find?_some e
  exact List.mem_map.mpr ⟨x,List.mem_of_find?_eq_some e,of_decide_eq_true this⟩
theorem zBQ{rs:List Row}(h:cK (rs.map (·.1)))(n:Str):muB rs n=true↔n∈(muR rs).map (·.1):=by
 unfold muB muR
 constructor
 ·intro hb
  cases e:rs.find? λy=>decide (y.1=n) with
  |none=>rw[e]at hb;cases hb
  |some x=>
   rw[e]at hb
   exact List.mem_map.mpr ⟨x,List.mem_filter.mpr ⟨List.mem_of_find?_eq_some e,hb⟩,found e⟩
 ·intro hn
  obtain⟨x,hx,rfl⟩:=List.mem_map.mp hn
  obtain⟨hx,hb⟩:=List.mem_filter.mp hx
  cases e:rs.find? λy=>decide (y.1=x.1) with
  |none=>
   have:=List.find?_eq_none.mp e x hx
   simp at this
  |some y=>
   have ey:=found e
   have hy:=List.mem_of_find?_eq_some e
   have:y=x:=zFT h hy hx ey
   rw[this]
   exact hb
theorem zFW{rs:List Row}{n:Str}(h:muB rs n=true):n∈rs.map (·.1):=by
 unfold muB at h
 cases e:rs.find? λy=>decide (y.1=n) with
 |none=>rw[e]at h;cases h
 |some x=>exact List.mem_map.mpr ⟨x,List.mem_of_find?_eq_some e,found e⟩
theorem zBO(rs:List Row):nmF (rs.map fdR)=rs.map (·.1):=by unfold nmF;rw[List.map_map];rfl
theorem vH{l m l' m':Int}{S:List Str}:dC l m l' m' S=true↔max l l'<=(S.length:Nat)/\((S.length:Nat):Int)<=min m m':=by
 unfold dC
 rw[Bool.and_eq_true,Bool.and_eq_true,Bool.and_eq_true,decide_eq_true_iff,decide_eq_true_iff,decide_eq_true_iff,decide_eq_true_iff]
 omega
theorem zAV{C S:List Str}:S∈dN C↔S.Sublist C:=by
 unfold dN
 rw[List.mem_map]
 refine⟨λ⟨b,_,e⟩=>e▸mY _ _,λhs=>?_⟩
 obtain⟨b,hb,e⟩:=zFm hs
 exact⟨b,List.mem_range.mpr hb,e⟩
theorem zBv{l m l' m':Int}{w:Wd}{c:At}{rs:List Row}(h:cK (rs.map (·.1)))(S:List Str):S∈mN l m l' m' w c rs↔S.Sublist (nmC (eW w c rs))/\(∀n,muB rs n=true->n∈S)/\max l l'<=(S.length:Nat)/\((S.length:Nat):Int)<=min m m':=by
 unfold mN
 rw[List.mem_filter,List.mem_filter,zAV,vH]
 unfold jK
 rw[List.all_eq_true]
 constructor
 ·rintro⟨⟨a,b⟩,d⟩
  exact⟨a,λn hn=>of_decide_eq_true (d n ((zBQ h n).mp hn)),b⟩
 ·rintro⟨a,b,d⟩
  exact⟨⟨a,d⟩,λn hn=>decide_eq_true (b n ((zBQ h n).mpr hn))⟩
theorem zIf{l m l' m':Int}{w:Wd}{c:At}{rs:List Row}(h:iU l' m' rs):NmD (.table l m w (fmA c)) (.record l' m' (rs.map fdR)) (cT w c) (atR rs) (λ_=>false) (muB rs) (rs.map (·.1)) (mN l m l' m' w c rs):=by
 have H1:=jD l m w c
 have H2:=zA7 l' m' rs
 refine⟨H1,H2,λz=>?_,λz=>?_⟩
 ·have eC:nmC (eW w c rs)=(rs.map (·.1)).filter λn=>!emA (anA (cT w c n) (atR rs n)):=by
   refine pC (List.Pairwise.sublist List.filter_sublist (tR h.ri w c)) (List.Pairwise.sublist List.filter_sublist h.ri) λn=>?_
   rw[in_nmC,List.mem_filter,nR]
   refine⟨λz=>⟨?_,by rw[z];rfl⟩,λz=>by simpa using z.2⟩
   rw[<-nR]at z
   exact(uT w c rs).subset (List.mem_filter.mp (in_nmC.mpr z)).1
  rw[<-eC]
  refine⟨List.Pairwise.sublist List.filter_sublist (tR h.ri w c),λS=>?_⟩
  rw[zBv h.ri]
  refine and_congr_right λ_=>and_congr_left λ_=>⟨λa n _ hm=>a n (by simpa using hm),λa n hm=>a n ?_ (by simpa using hm)⟩
  rw[in_nmC]
  cases e:emA (atD (eW w c rs) n) with
  |false=>rfl
  |true=>
   refine absurd (List.any_eq_true.mpr ⟨n,zFW hm,?_⟩) z
   rw[nQ H1 H2,<-nR,e,hm]
   rfl
 ·obtain⟨n,_,hb⟩:=List.any_eq_true.mp z
  rw[nQ H1 H2,Bool.and_eq_true,Bool.false_or,<-nR]at hb
  apply Classical.byContradiction
  intro ne
  obtain⟨S,hS⟩:=List.exists_mem_of_ne_nil _ ne
  have a:=(zBv h.ri S).mp hS
  have:=in_nmC.mp (a.1.subset (a.2.1 n hb.2))
  rw[this]at hb
  cases hb.1
theorem xZ{rs:List Row}(h:cK (rs.map (·.1)))(ns:List Str)(e:∀n,n∈ns↔n∈rs.map (·.1)):bU (bM ns)=rs.map (·.1):=pC (kK (jC _)) h λn=>by rw[(fY _).mem_iff,gH,e]
theorem zAD{l m l' m':Int}{w:Wd}{f:List Pt}{rs:List Row}(h:iU l' m' rs):dcQ mfA (.table l m w f) (.record l' m' (rs.map fdR))=nmO mfA (.table l m w f) (.record l' m' (rs.map fdR)) (rs.map (·.1)):=by
 show nmO mfA _ _ (bU (bM ([]++nmF (rs.map fdR))))=_
 rw[xZ h.ri _ λn=>by rw[List.nil_append,zBO]]
theorem zFk{l m l' m':Int}{w:Wd}{f:List Pt}{rs:List Row}(h:iU l' m' rs):dcQ mfA (.record l' m' (rs.map fdR)) (.table l m w f)=nmO mfA (.record l' m' (rs.map fdR)) (.table l m w f) (rs.map (·.1)):=by
 show nmO mfA _ _ (bU (bM (nmF (rs.map fdR)++[])))=_
 rw[xZ h.ri _ λn=>by rw[List.append_nil,zBO]]
theorem zGd{l m l' m':Int}{w:Wd}{c:At}{rs:List Row}{R:Tv->Prop}(h:iU l' m' rs)(q:∀d,nZ (.table l m w (fmA c)) (.record l' m' (rs.map fdR)) d->R (bC d)):iW (mN l m l' m' w c rs) (eW w c rs) R:=
 qS (zIf h) (by rw[List.length_map];have:=h.n6;omega) (zAD h) (λn _=>nR w c rs n) q
theorem zCV{l m l' m':Int}{w:Wd}{c:At}{rs:List Row}(h:iU l' m' rs):dcQ mfA (.record l' m' (rs.map fdR)) (.table l m w (fmA c))=dcQ mfA (.table l m w (fmA c)) (.record l' m' (rs.map fdR)):=by
 rw[zAD h,zFk h]
 exact zAM (zA7 _ _ _) (jD _ _ _ _) _
end
end My
namespace My
open PySem L2 PyProof.Rows WordM
section
variable{P:Program}{w:World}{K:W.Frag}{mg:Str->Option Value}{base:Heap}
theorem zBt{h h2:Str}{a b a2 b2:Int}{ms ms2:List Str}{ss:List Str}(o1:bL (.make h a b ms))(e:bV h a b ms h2 a2 b2 ms2=some (.few ss)):ss=[h]/\bS (.make h a b ms) h=true/\bS (.make h2 a2 b2 ms2) h=true:=by
 obtain⟨⟨hS,hl⟩,a0,ab,b1,b6,sub,ne⟩:=o1
 unfold bV at e
 generalize hL:max a (a2-((bD h h2).length:Nat))=L at e
 generalize hH:(if (ms.filter λm=>decide (m∈ms2))=[] then min (min b (b2-((bD h h2).length:Nat))) 0 else min b (b2-((bD h h2).length:Nat)))=H at e
 by_cases z:(stW h h2&&(dQ (bD h h2)).all λm=>decide (m∈ms2))=true
 ·rw[if_pos z]at e
  dsimp only at e
  by_cases z1:H<L
  ·rw[if_pos z1]at e;cases e
  ·rw[if_neg z1]at e
   by_cases z2:H=0
   ·rw[if_pos z2]at e
    cases e
    obtain⟨s1,s2⟩:=Bool.and_eq_true_iff.mp z
    have hb:((bD h h2).length:Int)<=b2:=by split at hH<;>omega
    refine⟨rfl,?_,?_⟩
    ·show(stW h h&&((decide (a<=((bD h h).length:Int))&&decide (((bD h h).length:Int)<=b))&&(cs (bD h h)).all λc=>decide (cN c∈ms)))=true
     rw[st_self,sH,sP,decide_eq_true (by omega:a<=((0:Nat):Int)),decide_eq_true (by omega:((0:Nat):Int)<=b)]
     rfl
    ·show(stW h h2&&((decide (a2<=((bD h h2).length:Int))&&decide (((bD h h2).length:Int)<=b2))&&(cs (bD h h2)).all λc=>decide (cN c∈ms2)))=true
     have sg:Sg (bD h h2):=λc hc=>by
      obtain⟨r,er⟩:=stW_iff.mp s1
      rw[zY er]at hc
      exact hS c (by rw[er];exact List.mem_append_right _ hc)
     rw[s1,decide_eq_true (by omega:a2<=((bD h h2).length:Int)),decide_eq_true hb,<-WordM.marks_all sg,s2]
     rfl
   ·rw[if_neg z2]at e;cases e
 ·rw[if_neg z]at e;cases e
theorem zAN{h h2:Str}{a b a2 b2:Int}{ms ms2:List Str}{hd:Str}{lo hi:Int}{ns:List Str}(o1:bL (.make h a b ms))(e:bV h a b ms h2 a2 b2 ms2=some (.make hd lo hi ns)):bL (.make hd lo hi ns):=by
 obtain⟨hh,a0,ab,b1,b6,sub,ne⟩:=o1
 unfold bV at e
 generalize hL:max a (a2-((bD h h2).length:Nat))=L at e
 generalize hH:(if (ms.filter λm=>decide (m∈ms2))=[] then min (min b (b2-((bD h h2).length:Nat))) 0 else min b (b2-((bD h h2).length:Nat)))=H at e
 by_cases z:(stW h h2&&(dQ (bD h h2)).all λm=>decide (m∈ms2))=true
 ·rw[if_pos z]at e
  dsimp only at e
  by_cases z1:H<L
  ·rw[if_pos z1]at e;cases e
  ·rw[if_neg z1]at e
   by_cases z2:H=0
   ·rw[if_pos z2]at e;cases e
   ·rw[if_neg z2]at e
    cases e
    refine⟨hh,by omega,by omega,by omega,by split at hH<;>omega,List.filter_sublist.trans sub,λz=>?_⟩
    rw[if_pos z]at hH
    omega
 ·rw[if_neg z]at e;cases e
section
variable{h:Str}{lo hi:Int}{ms:List Str}{h2:Str}{lo2 hi2:Int}{ms2:List Str}
theorem zAO{ss:List Str}(o1:bL (.make h lo hi ms))(o2:bL (.make h2 lo2 hi2 ms2))(e:cO (.make h lo hi ms) (.make h2 lo2 hi2 ms2)=some (.few ss)):∃s,ss=[s]/\bS (.make h lo hi ms) s=true/\bS (.make h2 lo2 hi2 ms2) s=true:=by
 have e:(if h.length<h2.length then bV h2 lo2 hi2 ms2 h lo hi ms else bV h lo hi ms h2 lo2 hi2 ms2)=some (.few ss):=e
 split at e
 ·have:=zBt o2 e;exact⟨h2,this.1,this.2.2,this.2.1⟩
 ·have:=zBt o1 e;exact⟨h,this.1,this.2.1,this.2.2⟩
theorem zAf{hd:Str}{l u:Int}{ns:List Str}(o1:bL (.make h lo hi ms))(o2:bL (.make h2 lo2 hi2 ms2))(e:cO (.make h lo hi ms) (.make h2 lo2 hi2 ms2)=some (.make hd l u ns)):bL (.make hd l u ns):=by
 have e:(if h.length<h2.length then bV h2 lo2 hi2 ms2 h lo hi ms else bV h lo hi ms h2 lo2 hi2 ms2)=some (.make hd l u ns):=e
 split at e
 ·exact zAN o2 e
 ·exact zAN o1 e
end
theorem zBP(l m l' m':Int)(w w':Wd)(a a':At):NmD (.table l m w (fmA a)) (.table l' m' w' (fmA a')) (cT w a) (cT w' a') (λ_=>false) (λ_=>false) [] ([[]].filter (dC l m l' m')):=by
 refine⟨jD _ _ _ _,jD _ _ _ _,λ_=>⟨.nil,λS=>?_⟩,λz=>nomatch z⟩
 rw[List.mem_filter,vH,List.mem_singleton]
 refine⟨λ⟨e,b⟩=>⟨by rw[e];exact .slnil,λn hn _=>(nomatch hn),b⟩,λ⟨e,_,b⟩=>⟨List.sublist_nil.mp e,b⟩⟩
theorem zIR{l m l' m':Int}{w w':Wd}{a a':At}{ss:List Str}(hr:cK ss)(h:∀s∈ss,bS w s=true/\bS w' s=true)(ec:emA (anA a a')=false):NmD (.table l m w (fmA a)) (.table l' m' w' (fmA a')) (cT w a) (cT w' a') (λ_=>false) (λ_=>false) ss ((dN ss).filter (dC l m l' m')):=by
 have H1:=jD l m w a
 have H2:=jD l' m' w' a'
 refine⟨H1,H2,λ_=>?_,λz=>?_⟩
 ·have:(ss.filter λn=>!emA (anA (cT w a n) (cT w' a' n)))=ss:=by
   rw[List.filter_eq_self]
   intro s hs
   unfold cT
   rw[if_pos (h s hs).1,if_pos (h s hs).2,ec]
   rfl
  rw[this]
  refine⟨hr,λS=>?_⟩
  rw[List.mem_filter,vH,zAV]
  exact⟨λ⟨e,b⟩=>⟨e,λn _ hn=>(nomatch hn),b⟩,λ⟨e,_,b⟩=>⟨e,b⟩⟩
 ·obtain⟨n,_,hb⟩:=List.any_eq_true.mp z
  rw[nQ H1 H2,Bool.or_self,Bool.and_false]at hb
  cases hb
theorem zHT{ss:List Str}{c:At}{n:Str}(h:n∈ss):atD (ss.map λs=>(s,c)) n=c:=by
 unfold atD
 induction ss with
 |nil=>exact nomatch h
 |cons s ss ih=>
  rw[List.map_cons,List.find?_cons]
  by_cases z:s=n
  ·rw[decide_eq_true z];rfl
  ·rw[decide_eq_false z]
   rcases List.mem_cons.mp h with e|h
   ·exact absurd e.symm z
   ·exact ih h
abbrev tbP(l m:Int)(h:Str)(lo hi:Int)(ms:List Str)(a:At):Pt:=.table l m (.make h lo hi ms) (fmA a)
section
variable{l m:Int}{h:Str}{lo hi:Int}{ms:List Str}{a:At}{l' m':Int}{h2:Str}{lo2 hi2:Int}{ms2:List Str}{a':At}
theorem zH6(H:fE l m h lo hi ms a)(H':fE l' m' h2 lo2 hi2 ms2 a'){R:Tv->Prop}(q:∀d,nZ (tbP l m h lo hi ms a) (tbP l' m' h2 lo2 hi2 ms2 a') d->R (bC d)):zCj l m l' m' (anA a a') R (cO (.make h lo hi ms) (.make h2 lo2 hi2 ms2)):=by
 have ed:dcQ mfA (tbP l m h lo hi ms a) (tbP l' m' h2 lo2 hi2 ms2 a')=tbO mfA l m (.make h lo hi ms) (fmA a) l' m' (.make h2 lo2 hi2 ms2) (fmA a'):=rfl
 unfold tbO at ed
 rw[jS,qR]at ed
 cases em:cO (.make h lo hi ms) (.make h2 lo2 hi2 ms2) with
 |none=>
  rw[em]at ed
  exact qS (zBP _ _ _ _ _ _ _ _) (Nat.zero_le _) ed (λn hn=>nomatch hn) q
 |some v=>
  rw[em]at ed
  dsimp only at ed
  show if emA (anA a a')=true then _ else _
  cases ec:emA (anA a a') with
  |true=>
   rw[ec,if_pos rfl]at ed
   rw[if_pos rfl]
   exact qS (zBP _ _ _ _ _ _ _ _) (Nat.zero_le _) ed (λn hn=>nomatch hn) q
  |false=>
   rw[ec,if_neg Bool.false_ne_true]at ed
   rw[if_neg Bool.false_ne_true]
   cases v with
   |few ss=>
    dsimp only at ed ⊢
    obtain⟨s,rfl,w1,w2⟩:=zAO H.wd H'.wd em
    have hs:∀t∈[s],bS (.make h lo hi ms) t=true/\bS (.make h2 lo2 hi2 ms2) t=true:=λt ht=>by
     rw[List.mem_singleton]at ht;subst ht;exact⟨w1,w2⟩
    refine qS (zIR (List.pairwise_singleton _ _) hs ec) (by simp) ed (λn hn=>?_) q
    rw[zHT hn]
    unfold cT
    rw[if_pos (hs n hn).1,if_pos (hs n hn).2]
   |make hd u v ns=>
    dsimp only at ed ⊢
    have ok:=zAf H.wd H'.wd em
    have m1:=H.m1
    have m2:=H'.m1
    rw[zE8 ok (by omega)]
    refine q _ ⟨?_,?_,λp hp=>?_⟩
    ·rw[ed]
     split<;>rfl
    ·split<;>simp
    ·split at hp
     ·exact nomatch hp
     ·rw[List.mem_singleton]at hp
      subst hp
      exact tH _ _ (zDR H.wd H'.wd em) _
theorem xW(H:fE l m h lo hi ms a)(H':fE l' m' h2 lo2 hi2 ms2 a'):dcQ mfA (tbP l' m' h2 lo2 hi2 ms2 a') (tbP l m h lo hi ms a)=dcQ mfA (tbP l m h lo hi ms a) (tbP l' m' h2 lo2 hi2 ms2 a'):=by
 have e:∀ns,nmO mfA (tbP l' m' h2 lo2 hi2 ms2 a') (tbP l m h lo hi ms a) ns=nmO mfA (tbP l m h lo hi ms a) (tbP l' m' h2 lo2 hi2 ms2 a') ns:=zAM (jD _ _ _ _) (jD _ _ _ _)
 show tbO mfA l' m' (.make h2 lo2 hi2 ms2) (fmA a') l m (.make h lo hi ms) (fmA a)=tbO mfA l m (.make h lo hi ms) (fmA a) l' m' (.make h2 lo2 hi2 ms2) (fmA a')
 unfold tbO
 rw[zDS H'.wd H.wd,jS,jS,pQ,Int.max_comm,Int.min_comm]
 cases cO (.make h lo hi ms) (.make h2 lo2 hi2 ms2) with
 |none=>exact e []
 |some v=>
  dsimp only
  split
  ·exact e []
  ·cases v with
   |few ss=>exact e ss
   |make=>rfl
theorem zDU(H:fE l m h lo hi ms a):gF lo hi ms m=m:=by
 obtain⟨_,a0,ab,b1,b6,sub,ne⟩:=H.wd
 have:=(mZ λm hm=>sub.subset hm).1
 have p:0<ms.length:=List.length_pos_iff.mpr ne
 have mm:=H.mm
 have m1:=H.m1
 unfold gF
 generalize (cE (dW ms)).length=n at this
 rw[tl,if_pos (by omega)]
 by_cases z:m<=0+1
 ·rw[if_pos z]
 ·rw[if_neg z,tl,if_pos (by omega)]
  have k0:0<=(if lo<=0 then(0:Int)+1 else 0):=by split<;>omega
  generalize (if lo<=0 then(0:Int)+1 else 0)=k at k0
  rw[Int.one_mul]
  by_cases z1:m<=k+n
  ·rw[if_pos z1]
  ·rw[if_neg z1,tl,if_pos (by omega)]
   have k1:0<=(if lo<=0+1 then k+n else k):=by split<;>omega
   generalize (if lo<=0+1 then k+n else k)=k' at k1
   have:(100:Int)<=n*n:=by
    have:(10:Int)<=n:=by omega
    have:=Int.mul_le_mul this this (by decide) (by omega)
    omega
   rw[if_pos (by omega)]
theorem xV(H:fE l m h lo hi ms a):dcQ mfA (tbP l m h lo hi ms a) (tbP l m h lo hi ms a)=some (tbP l m h lo hi ms a):=by
 show tbO mfA l m (.make h lo hi ms) (fmA a) l m (.make h lo hi ms) (fmA a)=_
 unfold tbO
 rw[zDQ H.wd]
 dsimp only
 rw[jS,zGm,qR,H.em,if_neg Bool.false_ne_true,Int.max_self,Int.min_self,zDU H]
 have:=H.lm
 rw[if_neg (by omega)]
theorem nO(H:fE l m h lo hi ms a):ok2 (tbP l m h lo hi ms a):=⟨H.wd,by have:=H.mm;omega,zBY a⟩
theorem zBh(H:fE l m h lo hi ms a):SameD 8 (aO (tbP l m h lo hi ms a)):=tH _ _ (sO (by have:=H.wd.2.2.2.2.2.1.length_le;have:MK.length=4:=rfl;omega)) _
end
theorem zHq{l m:Int}{rs:List Row}(h:iU l m rs):ok2 (.record l m (rs.map fdR)):=⟨by rw[List.length_map];have:=h.n6;omega,λx hx=>by
 obtain⟨y,hy,rfl⟩:=List.mem_map.mp hx
 have:=(h.sg y hy).1
 exact⟨this.1,by have:=this.2;show y.1.length<=1000;omega⟩,λx hx=>by
 obtain⟨y,_,rfl⟩:=List.mem_map.mp hx
 exact zBY _⟩
theorem zCg(F:Nat->Option Pt)(h0:F 0=none)(h1:F 1=none)(h2:F 2=none)(h3:F 3=none)(h4:F 4=none):kN6.filterMap F=(F 5).toList:=by
 unfold kN6
 rw[List.filterMap_cons,h0]
 dsimp only
 rw[List.filterMap_cons,h1]
 dsimp only
 rw[List.filterMap_cons,h2]
 dsimp only
 rw[List.filterMap_cons,h3]
 dsimp only
 rw[List.filterMap_cons,h4]
 dsimp only
 rw[List.filterMap_cons,List.filterMap_nil]
 cases F 5<;>rfl
def IsD:Pt->Prop
 |.record ..=>True
 |.table ..=>True
 |_=>False
theorem gU{p:Pt}(h:IsD p){k:Nat}(hk:k<5):bZ [p] k=none:=by
 have:dY p=5:=by cases p<;>first|rfl|exact False.elim h
 unfold bZ
 rw[List.find?_cons,decide_eq_false (by omega)]
 rfl
theorem rT{p:Pt}(h:IsD p):bZ [p] 5=some p:=by
 have:dY p=5:=by cases p<;>first|rfl|exact False.elim h
 unfold bZ
 rw[List.find?_cons,decide_eq_true this]
theorem zCe{p q:Pt}(hp:IsD p):gX mfA p q=dcQ mfA p q:=by
 cases p<;>first|rfl|exact False.elim hp
theorem nX{p q:Pt}(hp:IsD p)(hq:IsD q):mf2 [p] [q]=(dcQ mfA p q).toList:=by
 show kN6.filterMap (λk=>fT (gX mfA) (bZ [p] k) (bZ [q] k))=_
 rw[zCg _ (by rw[gU hp (by decide)];rfl) (by rw[gU hp (by decide)];rfl) (by rw[gU hp (by decide)];rfl) (by rw[gU hp (by decide)];rfl) (by rw[gU hp (by decide)];rfl),rT hp,rT hq]
 show(gX mfA p q).toList=_
 rw[zCe hp]
theorem zIF{p q:Pt}(hp:IsD p)(hq:IsD q):mf2 [.nothing,p] [q]=(dcQ mfA p q).toList:=by
 have e:∀k,0<k->bZ [.nothing,p] k=bZ [p] k:=λk hk=>by
  show(List.find? _ _)=_
  rw[List.find?_cons,decide_eq_false (show ¬ dY Pt.nothing=k by show ¬ 0=k;omega)]
  rfl
 have no:∀o:Option Pt,fT (gX mfA) o none=none:=λo=>by cases o<;>rfl
 show kN6.filterMap (λk=>fT (gX mfA) (bZ [.nothing,p] k) (bZ [q] k))=_
 rw[zCg _ (by rw[gU hq (by decide)];exact no _) (by rw[gU hq (by decide)];exact no _) (by rw[gU hq (by decide)];exact no _) (by rw[gU hq (by decide)];exact no _) (by rw[gU hq (by decide)];exact no _),e 5 (by decide),rT hp,rT hq]
 show(gX mfA p q).toList=_
 rw[zCe hp]
structure vI (p g:Pt) (d:List Pt):Prop where
 o1:ok2 p
 o2:ok2 g
 i1:IsD p
 i2:IsD g
 fg:(dcQ mfA p g).toList=d
 gf:(dcQ mfA g p).toList=d
 ff:dcQ mfA p p=some p
 sd:SameD 9 (bC d)
 sf:SameD 9 (bC [p])
theorem nD{f:List Pt}(hl:f.length<=100000)(h:∀p∈f,SameD 8 (aO p)):SameD 9 (bC f):=⟨by rw[List.length_map];exact hl,λx hx=>by
 obtain⟨p,hp,rfl⟩:=List.mem_map.mp hx
 exact h p hp⟩
theorem zEN{l m:Int}{h:Str}{lo hi:Int}{ms:List Str}{a:At}{l' m':Int}{rs:List Row}{d:List Pt}(H:fE l m h lo hi ms a)(h':iU l' m' rs)(hd:nZ (tbP l m h lo hi ms a) (.record l' m' (rs.map fdR)) d):vI (tbP l m h lo hi ms a) (.record l' m' (rs.map fdR)) d:=
 ⟨nO H,zHq h',trivial,trivial,hd.1.symm,by rw[zCV h'];exact hd.1.symm,xV H,nD (by have:=hd.2.1;omega) hd.2.2,nD (by simp) λp hp=>by rw[List.mem_singleton]at hp;subst hp;exact zBh H⟩
theorem zEM{l m:Int}{h:Str}{lo hi:Int}{ms:List Str}{a:At}{l' m':Int}{h2:Str}{lo2 hi2:Int}{ms2:List Str}{a':At}{d:List Pt}(H:fE l m h lo hi ms a)(H':fE l' m' h2 lo2 hi2 ms2 a')(hd:nZ (tbP l m h lo hi ms a) (tbP l' m' h2 lo2 hi2 ms2 a') d):vI (tbP l m h lo hi ms a) (tbP l' m' h2 lo2 hi2 ms2 a') d:=
 ⟨nO H,nO H',trivial,trivial,hd.1.symm,by rw[xW H H'];exact hd.1.symm,xV H,nD (by have:=hd.2.1;omega) hd.2.2,nD (by simp) λp hp=>by rw[List.mem_singleton]at hp;subst hp;exact zBh H⟩
end
end My
namespace My
open PySem L2 PyProof.Rows WordM
section
variable{P:Program}{w:World}{K:W.Frag}{mg:Str->Option Value}{base:Heap}
section
variable{lv:Nat}{mf:List Pt->List Pt->List Pt}{okf:Pt->Prop}
theorem zBw(hm:Has K mg "met" mK)(hp:Has K mg "parts_met" oD)(hl:Has K mg "lists_met" oH)(hd:Has K mg "dicts_met" mL)(hn:Has K mg "named_met" oF)(ht:Has K mg "tables_met" oE)(B:Own mg)
  (G10_:PGood P w K mg base 2 "part_for" ["form","kind"] mT) (G11_:PGood P w K mg base 1 "truths_met" ["one","other"] nW) (G12_:PGood P w K mg base 1 "numbers_met" ["one","other"] gM) (G13_:PGood P w K mg base 1 "texts_met" ["one","other"] gM)
  (G5_:PGood P w K mg base 5 "words_met" ["one","other"] iX) (G8_:PGood P w K mg base 2 "words_many" ["words","most"] nB) (G15_:PGood P w K mg base 4 "field_at" ["part","name"] oJ) (G16_:PGood P w K mg base 1 "record_of" ["least","most","fields"] oI) (GKINDS:jH K mg "KINDS" (.seq true (kN6.map λk=>sT (fA k))))
  (G21_:PGood P w K mg base lv "met" ["one","other"] (iQ mf okf)):PGood P w K mg base (lv+9) "met" ["one","other"] (iQ (mF (gX mf)) (OkQ okf)):=
 have nm:=zKb (lv:=lv) hn B G15_ (G21_.mono (by omega)) G16_
 zCf (lv:=lv+5) hm B G10_ (zJ8 (lv:=lv) hp B G11_ G12_ G13_ ((zKe hl B G21_).mono (by omega)) (zJ9 hd B (zKa ht B G5_ (G21_.mono (by omega)) nm G8_) nm)) GKINDS
theorem zHH(hm:Has K mg "met" mK)(hp:Has K mg "parts_met" oD)(hl:Has K mg "lists_met" oH)(hd:Has K mg "dicts_met" mL)(hn:Has K mg "named_met" oF)(ht:Has K mg "tables_met" oE)(B:Own mg)
  (G10_:PGood P w K mg base 2 "part_for" ["form","kind"] mT) (G11_:PGood P w K mg base 1 "truths_met" ["one","other"] nW) (G12_:PGood P w K mg base 1 "numbers_met" ["one","other"] gM) (G13_:PGood P w K mg base 1 "texts_met" ["one","other"] gM)
  (G5_:PGood P w K mg base 5 "words_met" ["one","other"] iX) (G8_:PGood P w K mg base 2 "words_many" ["words","most"] nB) (G15_:PGood P w K mg base 4 "field_at" ["part","name"] oJ) (G16_:PGood P w K mg base 1 "record_of" ["least","most","fields"] oI) (GKINDS:jH K mg "KINDS" (.seq true (kN6.map λk=>sT (fA k)))):PGood P w K mg base 22 "met" ["one","other"] (iQ mf2 ok2):=
 have z:PGood P w K mg base 3 "parts_met" ["one","other"] (wS mp0 ok0):=hp.pfalse C20_ (fun|_,_,_,_,_,_,[_,_],_=>rfl) λas R ⟨_,_,_,h,_⟩=>h
 zBw hm hp hl hd hn ht B G10_ G11_ G12_ G13_ G5_ G8_ G15_ G16_ GKINDS (zBw hm hp hl hd hn ht B G10_ G11_ G12_ G13_ G5_ G8_ G15_ G16_ GKINDS (zCf (lv:=0) hm B G10_ z GKINDS))
end
def LT5:List Str:=["a","b","x","y","z"]
def aN:At:=(true,false,false)
theorem zBD{c:Str}(h:c∈LT5):fE 0 60 (c++Str.ofString "5") 0 2 ["figure"] aN/\fE 0 60 c 0 2 ["figure","small"] aN/\cO (.make (c++Str.ofString "5") 0 2 ["figure"]) (.make c 0 2 ["figure","small"])=some (.make (c++Str.ofString "5") 0 1 ["figure"]):=by
 simp only[LT5,List.mem_cons,List.not_mem_nil,or_false]at h
 rcases h with rfl|rfl|rfl|rfl|rfl
 all_goals
  refine⟨⟨by decide,by decide,by decide,.inr ⟨by decide,rfl⟩,⟨⟨?_,by decide +kernel⟩,by decide,by decide,by decide,by decide,by decide,by decide⟩,rfl⟩,⟨by decide,by decide,by decide,.inr ⟨by decide,rfl⟩,⟨⟨?_,by decide +kernel⟩,by decide,by decide,by decide,by decide,by decide,by decide⟩,rfl⟩,?_⟩
  ·unfold Sg;decide +kernel
  ·unfold Sg;decide +kernel
  ·rfl
theorem zA2{c:Str}(h:c∈LT5):dcQ mfA (tbP 0 60 (c++Str.ofString "5") 0 2 ["figure"] aN) (tbP 0 60 c 0 2 ["figure","small"] aN)=some (tbP 0 11 (c++Str.ofString "5") 0 1 ["figure"] aN):=by
 show tbO mfA 0 60 (.make (c++Str.ofString "5") 0 2 ["figure"]) (fmA aN) 0 60 (.make c 0 2 ["figure","small"]) (fmA aN)=_
 unfold tbO
 rw[(zBD h).2.2]
 dsimp only
 rw[jS]
 have:gF 0 1 ["figure"] (min 60 60)=11:=by decide +kernel
 rw[this]
 rfl
def vQ:PSp:=λas R=>∃c,as=[.va (sT c)]/\c∈LT5/\R (bT true)
theorem C51_:bE ["_law_letter","_law_leaf","_law_one","_law_other","_law_due"] ["_law_letter"] (aL wB):=fsc (by decide +kernel)
theorem zJH(h:Has K mg "_law_cut_right" wB)(B:Own mg)(G44_:PGood P w K mg base 10 "_law_same" ["_law_one","_law_other"] (lQ 9))(G21_:PGood P w K mg base 22 "met" ["one","other"] (iQ mf2 ok2))   : PGood P w K mg base 23 "_law_cut_right" ["_law_letter"] vQ:=by
 have nd:=C51_.nd
 refine h.pgood C51_ (fun|_,_,_,_,_,_,[_],_=>rfl) (λf cdv A outer s H E F hr=>
   (aE (aI 1 nd (aT (aB (aT (aB aU aC)) aC)))
   (aE (aI 2 nd (aT (aB aU (aB aD (aB aD (aB (aT (aB aU (aB (aY bQ (aA 0) aU) (aB aD (aB aD (aB (aT (aB aU aC)) aC)))))) (aB (aA 1) aC)))))))
   (aE (aI 3 nd (aT (aB aU (aB aD (aB aD (aB (aT (aB aU (aB (aA 0) (aB aD (aB aD (aB (aT (aB aU (aB aU aC))) aC)))))) (aB (aA 1) aC)))))))
   (aE (aI 4 nd (aT (aB (aT (aB aU (aB aD (aB aD (aB (aT (aB aU (aB (aY bQ (aA 0) aU) (aB aD (aB aD (aB (aT (aB aU aC)) aC)))))) (aB (aA 1) aC)))))) aC)))
   (aG (aQ (lI (aH G44_ hr (aB (aH G21_ hr (aB (aT (aB (aA 2) aC)) (aB (aT (aB (aA 3) aC)) aC))) (aB (aA 4) aC))) (lG (aH G44_ hr (aB (aH G21_ hr (aB (aT (aB (aA 3) aC)) (aB (aT (aB (aA 2) aC)) aC))) (aB (aA 4) aC)))))))))))) (λas R q=>?_)
 obtain⟨c,rfl,hc,q⟩:=q
 obtain⟨k1,k2,k3⟩:=zBD hc
 have c1:c.length<=1:=by
  simp only[LT5,List.mem_cons,List.not_mem_nil,or_false]at hc
  rcases hc with rfl|rfl|rfl|rfl|rfl<;>decide +kernel
 refine⟨rfl,by simp,by simp,?_⟩
 show PEnds.nx _ _
 refine nxE (ρ':=[.va (sT c),.va (.seq true [.seq true [sT "nothing"]]),.no,.no,.no]) rfl ?_
 have lf:∀(l m:Int) (h:Str) (lo hi:Int) (ms:List Str),aO (tbP l m h lo hi ms aN)=.seq true [sT "table",iT l,iT m,aW (.make h lo hi ms),.seq true [.seq true [sT "nothing"]]]:=λl m h lo hi ms=>by
  rw[cL]
  show Tv.seq true [_,_,_,_,.seq true [aO .nothing]]=_
  rw[mR]
 let p1:Pt:=tbP 0 60 (c++Str.ofString "5") 0 2 ["figure"] aN
 let p2:Pt:=tbP 0 60 c 0 2 ["figure","small"] aN
 let p3:Pt:=tbP 0 11 (c++Str.ofString "5") 0 1 ["figure"] aN
 have f12:mf2 [p1] [p2]=[p3]:=(nX (p:=p1) (q:=p2) trivial trivial).trans (by rw[zA2 hc];rfl)
 have f21:mf2 [p2] [p1]=[p3]:=(nX (p:=p2) (q:=p1) trivial trivial).trans (by rw[xW k1 k2,zA2 hc];rfl)
 have o1:∀p∈[p1],ok2 p:=λp hp=>by rw[List.mem_singleton]at hp;subst hp;exact nO k1
 have o2:∀p∈[p2],ok2 p:=λp hp=>by rw[List.mem_singleton]at hp;subst hp;exact nO k2
 have s3:SameD 9 (bC [p3]):=nD (by simp) λp hp=>by rw[List.mem_singleton]at hp;subst hp;exact tH _ _ (sO (by simp)) _
 refine⟨by show c.length+1<=_;omega,by simp,by simp,by simp,?_⟩
 show PEnds.nx _ _
 refine nxE (ρ':=[.va (sT c),.va (.seq true [.seq true [sT "nothing"]]),.va (aO p1),.no,.no]) (by rw[lf];rfl) ?_
 refine⟨by simp,by simp,by simp,?_⟩
 show PEnds.nx _ _
 refine nxE (ρ':=[.va (sT c),.va (.seq true [.seq true [sT "nothing"]]),.va (aO p1),.va (aO p2),.no]) (by rw[lf 0 60 c];rfl) ?_
 refine⟨by show c.length+1<=_;omega,by simp,by simp,by simp,by simp,?_⟩
 show PEnds.nx _ _
 refine nxE (ρ':=[.va (sT c),.va (.seq true [.seq true [sT "nothing"]]),.va (aO p1),.va (aO p2),.va (bC [p3])]) (by show _=[_,_,_,_,Sl.va (.seq true [aO p3])];rw[lf 0 11];rfl) ?_
 refine⟨by simp,by simp,[p1],[p2],rfl,o1,o2,?_⟩
 rw[f12]
 refine⟨_,rfl,s3,_,rfl,bH ⟨by simp,by simp,[p2],[p1],rfl,o2,o1,?_⟩⟩
 rw[f21]
 exact⟨_,rfl,s3,q⟩
end
end My
namespace My
open PySem L2 PyProof.Rows WordM
section
variable{P:Program}{w:World}{K:W.Frag}{mg:Str->Option Value}{base:Heap}
theorem zKk(l:List Tv)(h:3<=l.length):cR l none (some 3)=l.take 3:=by
 unfold cR
 rw[show HT.sIx l.length 0 none=0 from rfl,show HT.sIx l.length l.length (some 3)=3 by show(min _ _:Nat)=_;omega]
 rfl
theorem C52_:bE ["_law_script","_law_deck_here","_law_world_here","_law_k","_law_make_here","_law_table","_law_part","_law_record","_law_other","_law_due","_law_second","_law_one","_law_two"] ["_law_script"] (aL iO):=fsc (by decide +kernel)
theorem zHr{f:Addr}{fd:FuncData}(F:Fun K "law" "law" iO f fd)(B:Own mg)(G23_:Good P w K mg base 1 "_law_deck" ["_law_script"] (zBg K))(G29_:PGood P w K mg base 5 "_law_world" ["_law_deck_here"] tY)(G51_:PGood P w K mg base 23 "_law_cut_right" ["_law_letter"] vQ)(G24_:PGood P w K mg base 2 "_law_take" ["_law_deck_here","_law_most"] fH)(G32_:PGood P w K mg base 4 "_law_make" ["_law_deck_here"] nI)(G45_:PGood P w K mg base 7 "_law_table_of" ["_law_deck_here","_law_world_here","_law_make_here"] uA)(G38_:PGood P w K mg base 1 "_law_form_of_atoms" ["_law_atoms_here"] lX)(G40_:PGood P w K mg base 4 "_law_record_of" ["_law_deck_here","_law_pool"] uF)(G50_:PGood P w K mg base 3 "_law_near_names" ["_law_deck_here","_law_make_here","_law_names"] vE)(G41_:PGood P w K mg base 2 "_law_record_part" ["_law_record"] uG)(G49_:PGood P w K mg base 5 "_law_record_due" ["_law_table","_law_record"] vD)(G48_:PGood P w K mg base 5 "_law_tables_due" ["_law_one","_law_other"] vC)(G44_:PGood P w K mg base 10 "_law_same" ["_law_one","_law_other"] (lQ 9))(G21_:PGood P w K mg base 22 "met" ["one","other"] (iQ mf2 ok2))   : FnOk P w K mg base CX0 27 f fd ["_law_script"] (qI K):=by
 refine F.ok C52_ (λvs H Q E q=>?_) (λcdv A outer s H vs Q E hr q=>?_)
 ·obtain⟨a,ns,rfl,_⟩:=q
  rfl
 ·obtain⟨aa,ns,rfl,hS,hlen,q⟩:=q
  have nd:=C52_.nd
  refine⟨_,(gI (jR (i:=1) nd rfl (by first|exact Or.inl rfl|exact Or.inr rfl) (qL G23_ (hr.mono (by omega)) rfl (cV (pv 0) dL)))
   (zFz λF=>(aE (aI 2 nd (aH G29_ hr (bG 1 aC)))
   (aE (aZ (gB (cM (aH G51_ hr (aB (aF hr aU (aH G24_ hr (bG 1 (aB aD aC)))) aC))))
    (aG (aQ eZ))
    bA)
   (aE (eY (m:=13) PassesOwn.never rfl (hC rfl B.range (aB aD aC)) (bY 3 (by decide) nd rfl (.inl rfl))
    (aE (aI 4 nd (aH G32_ hr (bG 1 aC)))
    (aE (aI 5 nd (aH G45_ hr (bG 1 (aB (aA 2) (aB (aA 4) aC)))))
    (aE (aI 6 nd (aY bQ (aY bQ (aT (aB aU aC)) (eG eM (aA 5) eJ (eI aD))) (aT (aB (aH G38_ hr (aB (aF hr (aA 5) aD) aC)) aC))))
    (aE (aZ (bJ hr (aH G24_ hr (bG 1 (aB aD aC))) aD)
     (aE (aI 7 nd (aH G40_ hr (bG 1 (aB (aH G50_ hr (bG 1 (aB (aF hr (aA 5) aD) (aB (eG eM (aF hr (aA 2) aD) eJ (eI aD)) aC)))) aC))))
     (aE (aI 8 nd (aH G41_ hr (aB (aA 7) aC)))
     (aG (aI 9 nd (aH G49_ hr (aB (aA 5) (aB (aA 7) aC)))))))
     (aE (aI 10 nd (aH G45_ hr (bG 1 (aB (aA 2) (aB (aA 4) aC)))))
     (aE (aI 8 nd (aY bQ (aY bQ (aT (aB aU aC)) (eG eM (aA 10) eJ (eI aD))) (aT (aB (aH G38_ hr (aB (aF hr (aA 10) aD) aC)) aC))))
     (aG (aI 9 nd (aH G48_ hr (aB (aA 5) (aB (aA 10) aC))))))))
    (aE (eY (m:=13) PassesOwn.never rfl (bR (bB (cA (aB (aT (aB (aT (aB (aA 6) aC)) (aB (aT (aB (aA 8) aC)) aC))) (aB (aT (aB (aT (aB (aA 8) aC)) (aB (aT (aB (aA 6) aC)) aC))) (aB (aT (aB (aT (aB (aT (aB aU aC)) (aB (aA 6) aC))) (aB (aT (aB (aA 8) aC)) aC))) aC)))))) (iG 2 rfl (dE (bY 11 (by decide) nd rfl (.inl rfl)) (dE (bY 12 (by decide) nd rfl (.inl rfl)) iB)))
     (aG (aZ (gB (cM (aH G44_ hr (aB (aH G21_ hr (aB (aA 11) (aB (aA 12) aC))) (aB (aA 9) aC)))))
      (aG (aQ eZ))
      bA)))
    (aG (aZ (gB (cM (aH G44_ hr (aB (aH G21_ hr (aB (aT (aB (aA 6) aC)) (aB (aT (aB (aA 6) aC)) aC))) (aB (aT (aB (aA 6) aC)) aC)))))
     (aG (aQ eZ))
     bA))))))))
   (aG (aQ eZ))))))),?_⟩
  refine⟨_,rfl,aa,ns,rfl,hS,λp c H1 np nc d1 s1=>?_⟩
  refine zF0 (N:=["_law_script","_law_deck_here","_law_world_here","_law_k","_law_make_here","_law_table","_law_part","_law_record","_law_other","_law_due","_law_second","_law_one","_law_two"]) (by decide) d1 q ?_
  clear q hS hlen hr d1 s1 np nc
  refine⟨rfl,rfl,λnm tx st sp hw=>?_⟩
  refine⟨rfl,5,rfl,by decide,bN (by decide) (by decide),λr r0 r1=>?_⟩
  have hc:∃c:Nat,atI (Str.ofString "abxyz").cps.toList r=some c/\(⟨#[c]⟩:Str)∈LT5:=by
   have hr:r=0\/r=1\/r=2\/r=3\/r=4:=by omega
   rcases hr with rfl|rfl|rfl|rfl|rfl
   ·exact⟨97,rfl,by decide +kernel⟩
   ·exact⟨98,rfl,by decide +kernel⟩
   ·exact⟨120,rfl,by decide +kernel⟩
   ·exact⟨121,rfl,by decide +kernel⟩
   ·exact⟨122,rfl,by decide +kernel⟩
  obtain⟨c,ec,hc⟩:=hc
  refine⟨by decide +kernel,c,ec,_,rfl,hc,_,rfl,aV ?_⟩
  show PEnds.nx _ _
  refine nxE (ρ':=[.no,.dk,.va (dF nm tx st sp),.no,.no,.no,.no,.no,.no,.no,.no,.no,.no]) rfl ?_
  refine⟨_,rfl,by decide,by decide,?_⟩
  refine gJ (λi ρ=>∃s3 s4 s5 s6 s7 s8 s9 s10 s11 s12:Sl,ρ=[.no,.dk,.va (dF nm tx st sp),s3,s4,s5,s6,s7,s8,s9,s10,s11,s12]) ⟨_,_,_,_,_,_,_,_,_,_,rfl⟩ ?_ (λ_ ⟨_,_,_,_,_,_,_,_,_,_,e⟩=>by subst e;rfl)
  rintro i T _ N hT ⟨s3,s4,s5,s6,s7,s8,s9,s10,s11,s12,rfl⟩ hN
  refine⟨rfl,rfl,λh0 lo0 hi0 ms0 mk=>?_⟩
  refine⟨rfl,nm,tx,st,sp,h0,lo0,hi0,ms0,rfl,hw,mk,MkD.ok mk,λl m h lo hi ms a H=>?_⟩
  show PEnds.nx _ _
  refine nxE (ρ':=[.no,.dk,.va (dF nm tx st sp),.va T,.va (aW (.make h0 lo0 hi0 ms0)),.va (tbT l m (.make h lo hi ms) a),s6,s7,s8,s9,s10,s11,s12]) rfl ?_
  refine⟨by simp,_,rfl,(show(4:Nat)<=100000 by decide),_,aJ (j:=3) rfl,a,rfl,by simp,(show(5:Nat)<=100000 by decide),?_⟩
  show PEnds.nx _ _
  refine nxE (ρ':=[.no,.dk,.va (dF nm tx st sp),.va T,.va (aW (.make h0 lo0 hi0 ms0)),.va (tbT l m (.make h lo hi ms) a),.va (aO (tbP l m h lo hi ms a)),s7,s8,s9,s10,s11,s12]) (by rw[cL];rfl) ?_
  dsimp only
  refine hE (J:=λρ'=>∃(p:Pt) (d:List Pt) (s7 s10:Sl),vI (tbP l m h lo hi ms a) p d/\ρ'=[.no,.dk,.va (dF nm tx st sp),.va T,.va (aW (.make h0 lo0 hi0 ms0)),.va (tbT l m (.make h lo hi ms) a),.va (aO (tbP l m h lo hi ms a)),s7,.va (aO p),.va (bC d),s10,s11,s12]) ?rest (λrest=>?main)
  case main=>
   refine⟨rfl,2,rfl,by decide,bN (by decide) (by decide),λr r0 r1=>⟨_,rfl,eB (λz=>?_) (λz=>?_)⟩⟩
   ·refine⟨rfl,rfl,_,aJ (j:=2) rfl,_,at0,_,rfl,h,lo,hi,ms,nm.take 3,by rw[zKk _ (by rw[List.length_map,hw.n11];decide),List.map_take],H.wd,by rw[List.length_take];omega,hw.nd.sublist (List.take_sublist _ _),λs hs=>?_,λpool hp=>?_⟩
    ·have:=hw.ns s ((List.take_sublist _ _).subset hs)
     exact⟨this.1,by have:=this.2;omega⟩
    refine⟨pool,rfl,hp,λl' m' rs h'=>?_⟩
    show PEnds.nx _ _
    refine nxE (ρ':=[.no,.dk,.va (dF nm tx st sp),.va T,.va (aW (.make h0 lo0 hi0 ms0)),.va (tbT l m (.make h lo hi ms) a),.va (aO (tbP l m h lo hi ms a)),.va (rcT l' m' rs),s8,s9,s10,s11,s12]) rfl ?_
    refine⟨l',m',rs,rfl,h'.n6,?_⟩
    refine⟨l,m,.make h lo hi ms,a,l',m',rs,rfl,H.wd,h',?_⟩
    exact zGd h' λd hd=>rest _ ⟨_,d,_,_,zEN H h' hd,rfl⟩
   ·refine⟨rfl,nm,tx,st,sp,h0,lo0,hi0,ms0,rfl,hw,mk,MkD.ok mk,λl' m' h2 lo2 hi2 ms2 a' H'=>?_⟩
    show PEnds.nx _ _
    refine nxE (ρ':=[.no,.dk,.va (dF nm tx st sp),.va T,.va (aW (.make h0 lo0 hi0 ms0)),.va (tbT l m (.make h lo hi ms) a),.va (aO (tbP l m h lo hi ms a)),s7,s8,s9,.va (tbT l' m' (.make h2 lo2 hi2 ms2) a'),s11,s12]) rfl ?_
    refine⟨by simp,_,rfl,(show(4:Nat)<=100000 by decide),_,aJ (j:=3) rfl,a',rfl,by simp,(show(5:Nat)<=100000 by decide),?_⟩
    show PEnds.nx _ _
    refine nxE (ρ':=[.no,.dk,.va (dF nm tx st sp),.va T,.va (aW (.make h0 lo0 hi0 ms0)),.va (tbT l m (.make h lo hi ms) a),.va (aO (tbP l m h lo hi ms a)),s7,.va (aO (tbP l' m' h2 lo2 hi2 ms2 a')),s9,.va (tbT l' m' (.make h2 lo2 hi2 ms2) a'),s11,s12]) (by rw[cL l'];rfl) ?_
    refine⟨l,m,.make h lo hi ms,a,l',m',.make h2 lo2 hi2 ms2,a',rfl,H.wd,H'.wd,λss e=>?_,λ_ _ _ _ e=>zAf H.wd H'.wd e,?_⟩
    ·obtain⟨s,rfl,_⟩:=zAO H.wd H'.wd e
     exact⟨by simp,by simp⟩
    ·exact zH6 H H' λd hd=>rest _ ⟨_,d,_,_,zEM H H' hd,rfl⟩
  case rest=>
   rintro _ ⟨p,d,s7,s10,ok,rfl⟩
   have o1:∀x∈[tbP l m h lo hi ms a],ok2 x:=λx hx=>by rw[List.mem_singleton]at hx;subst hx;exact ok.o1
   have o2:∀x∈[p],ok2 x:=λx hx=>by rw[List.mem_singleton]at hx;subst hx;exact ok.o2
   have o3:∀x∈[.nothing,tbP l m h lo hi ms a],ok2 x:=λx hx=>by
    simp only[List.mem_cons,List.not_mem_nil,or_false]at hx
    rcases hx with rfl|rfl
    ·trivial
    ·exact ok.o1
   have eself:mf2 [tbP l m h lo hi ms a] [tbP l m h lo hi ms a]=[tbP l m h lo hi ms a]:=(nX ok.i1 ok.i1).trans (by rw[ok.ff];rfl)
   have e12:=(nX ok.i1 ok.i2).trans ok.fg
   have e21:=(nX ok.i2 ok.i1).trans ok.gf
   have e32:=(zIF ok.i1 ok.i2).trans ok.fg
   have sf:=ok.sf
   have sd:=ok.sd
   generalize tbP l m h lo hi ms a=t at o1 o3 eself e12 e21 e32 sf
   refine⟨by simp,by simp,by simp,by simp,by simp,by simp,by simp,by simp,by simp,by simp,by simp,?_⟩
   refine gJ (λj ρ=>∃s11 s12:Sl,ρ=[.no,.dk,.va (dF nm tx st sp),.va T,.va (aW (.make h0 lo0 hi0 ms0)),.va (tbT l m (.make h lo hi ms) a),.va (aO t),s7,.va (aO p),.va (bC d),s10,s11,s12]) ⟨_,_,rfl⟩ ?_ ?_
   ·rintro j U _ N' hU ⟨s11,s12,rfl⟩ hN'
    have ho:∃f g:List Pt,U=.seq true [bC f,bC g]/\(∀p∈f,ok2 p)/\(∀p∈g,ok2 p)/\mf2 f g=d:=by
     have:=List.mem_of_getElem? hU
     simp only[List.mem_cons,List.not_mem_nil,or_false]at this
     rcases this with rfl|rfl|rfl
     ·exact⟨[t],[p],rfl,o1,o2,e12⟩
     ·exact⟨[p],[t],rfl,o2,o1,e21⟩
     ·exact⟨[.nothing,t],[p],by show _=Tv.seq true [.seq true [aO .nothing,aO t],.seq true [aO p]];rw[mR],o3,o2,e32⟩
    obtain⟨f,g,rfl,hf,hg,e⟩:=ho
    refine⟨_,rfl,rfl,_,_,rfl,_,_,rfl,rfl,f,g,rfl,hf,hg,?_⟩
    rw[e]
    exact⟨_,rfl,sd,_,rfl,aV (hN' _ ⟨_,_,rfl⟩)⟩
   ·rintro _ ⟨s11,s12,rfl⟩
    refine⟨by simp,by simp,[t],[t],rfl,o1,o1,?_⟩
    rw[eself]
    exact⟨by simp,_,rfl,sf,_,rfl,aV (hN _ ⟨_,_,_,_,_,_,_,_,_,_,rfl⟩)⟩
end
end My
namespace My
open PySem L2 PyProof.Rows
open WordM
open PySem
theorem all_mk{l:W.OpenLaw}{w:World}{K:W.Frag}{h:Heap}{mg:Str->Option Value}{fa:Addr}(X:K.In h)(G:h.Ns mainGlobals mg)(hfa:mg "law"=some (.ref fa)){f52:Addr}{v_52 t_52:Option Addr}{p_52:Array (Option Value)}{u_52 w_52 x_52 y_52 r_52 q_52:Value}
 (h0_:Has K mg "has_mark" s0_)
 (h1_:Has K mg "marks_of" s1_)
 (h2_:Has K mg "words_let" s2_)
 (h3_:Has K mg "makes_met" s3_)
 (h4_:Has K mg "few_met" s4_)
 (h5_:Has K mg "words_met" s5_)
 (h6_:Has K mg "tails_many" s6_)
 (h7_:Has K mg "signs_of" s7_)
 (h8_:Has K mg "words_many" s8_)
 (h9_:Has K mg "part_kind" s9_)
 (h10_:Has K mg "part_for" wP)
 (h11_:Has K mg "truths_met" rM)
 (h12_:Has K mg "numbers_met" wO)
 (h13_:Has K mg "texts_met" wN)
 (h14_:Has K mg "lists_met" oH)
 (h15_:Has K mg "field_at" wM)
 (h16_:Has K mg "record_of" oG)
 (h17_:Has K mg "named_met" oF)
 (h18_:Has K mg "tables_met" oE)
 (h19_:Has K mg "dicts_met" mL)
 (h20_:Has K mg "parts_met" oD)
 (h21_:Has K mg "met" mK)
 (h22_:Has K mg "_law_mixed" wL)
 (h23_:Has K mg "_law_deck" wK)
 (h24_:Has K mg "_law_take" wJ)
 (h25_:Has K mg "_law_signs" wI)
 (h26_:Has K mg "_law_text" wH)
 (h27_:Has K mg "_law_unlike" wG)
 (h28_:Has K mg "_law_far" wF)
 (h29_:Has K mg "_law_world" rL)
 (h30_:Has K mg "_law_mark" wE)
 (h31_:Has K mg "_law_words_let" rK)
 (h32_:Has K mg "_law_make" rJ)
 (h33_:Has K mg "_law_some_words" rH)
 (h34_:Has K mg "_law_makes_met" oC)
 (h35_:Has K mg "_law_words_met" rG)
 (h36_:Has K mg "_law_kin_words" rF)
 (h37_:Has K mg "_law_atoms" rE)
 (h38_:Has K mg "_law_form_of_atoms" rD)
 (h39_:Has K mg "_law_both" rC)
 (h40_:Has K mg "_law_record_of" mJ)
 (h41_:Has K mg "_law_record_part" rB)
 (h42_:Has K mg "_law_due_record" oB)
 (h43_:Has K mg "_law_subsets" rA)
 (h44_:Has K mg "_law_same" mI)
 (h45_:Has K mg "_law_table_of" wD)
 (h46_:Has K mg "_law_count" qZ)
 (h47_:Has K mg "_law_counted" qY)
 (h48_:Has K mg "_law_tables_due" qX)
 (h49_:Has K mg "_law_record_due" jZ)
 (h50_:Has K mg "_law_near_names" wC)
 (h51_:Has K mg "_law_cut_right" wB)
 (a52:W.nsIn K mainGlobals "law"=some (some (.ref f52))) (l52:K.lookup f52=some ⟨u_52,v_52,.func (W.fnOf "law" "law" (gK iO) (fG iO) (aL iO) .none w_52 x_52 y_52 t_52 r_52 q_52),p_52⟩) (c52:W.codeIn K r_52 "law"=true) (k52:W.keepIn K (.ref f52)=true)
    (z0:W.nsIn K mainGlobals "len"=some none) (z1:W.nsIn K mainGlobals "range"=some none) (z2:W.nsIn K mainGlobals "isinstance"=some none) (z3:W.nsIn K mainGlobals "int"=some none) (z4:W.nsIn K mainGlobals "bool"=some none) (z5:W.nsIn K mainGlobals "str"=some none) (z6:W.nsIn K mainGlobals "list"=some none) (z7:W.nsIn K mainGlobals "tuple"=some none) (z8:W.nsIn K mainGlobals "dict"=some none) (z9:W.nsIn K mainGlobals "sum"=some none) (z10:W.nsIn K mainGlobals "min"=some none) (z11:W.nsIn K mainGlobals "max"=some none) (z12:W.nsIn K mainGlobals "all"=some none) (z13:W.nsIn K mainGlobals "any"=some none) (z14:W.nsIn K mainGlobals "abs"=some none) (z15:W.nsIn K mainGlobals "zip"=some none) (z16:W.nsIn K mainGlobals "sorted"=some none) (z17:W.nsIn K mainGlobals "set"=some none) (z18:W.nsIn K mainGlobals "enumerate"=some none) {aSIGNS aMARKS aPK:Addr} {tk1 tk2 tk3 tk4 tk5 tk6 tk7 tk8 um1 um2 um3 um4 tp1 tp2 tp3 tp4 tp5 tp6 tp7 tp8 tp9 tp10 tp11 tp12 tp13 tp14:Tok} {epS nM epP:Nat} {ddM:Option Addr} {slM:Array (Option Value)} {aKN:Addr} {uk1 uk2 uk3 uk4 uk5 uk6:Tok} {nK:Nat} {slK:Array (Option Value)}
    (aS:W.nsIn K mainGlobals "SIGNS"=some (some (.ref aSIGNS)))
    (lS:K.lookup aSIGNS=some ⟨.type "dict",none,.dict #[{hash:=PyData.keyHash w.params ("figure":Str),key:=.str "figure" tk1,val:=.str "0123456789" tk2},{hash:=PyData.keyHash w.params ("great":Str),key:=.str "great" tk3,val:=.str "ABCDEFGHIJKLMNOPQRSTUVWXYZ" tk4},{hash:=PyData.keyHash w.params ("other":Str),key:=.str "other" tk5,val:=.str " !\"#$&'()*+,-./:;<=>?\x40[\\]^_`{|}~" tk6},{hash:=PyData.keyHash w.params ("small":Str),key:=.str "small" tk7,val:=.str "abcdefghijklmnopqrstuvwxyz" tk8}] epS,#[]⟩)
    (aM:W.nsIn K mainGlobals "MARKS"=some (some (.ref aMARKS)))
    (lM:K.lookup aMARKS=some ⟨.type "tuple",ddM,.seq #[.str "figure" um1,.str "great" um2,.str "other" um3,.str "small" um4] nM,slM⟩)
    (aP:W.nsIn K mainGlobals "PART_KINDS"=some (some (.ref aPK)))
    (lP:K.lookup aPK=some ⟨.type "dict",none,.dict #[{hash:=PyData.keyHash w.params ("nothing":Str),key:=.str "nothing" tp1,val:=.str "nothing" tp2},{hash:=PyData.keyHash w.params ("truths":Str),key:=.str "truths" tp3,val:=.str "truth" tp4},{hash:=PyData.keyHash w.params ("numbers":Str),key:=.str "numbers" tp5,val:=.str "number" tp6},{hash:=PyData.keyHash w.params ("texts":Str),key:=.str "texts" tp7,val:=.str "text" tp8},{hash:=PyData.keyHash w.params ("lists":Str),key:=.str "lists" tp9,val:=.str "list" tp10},{hash:=PyData.keyHash w.params ("record":Str),key:=.str "record" tp11,val:=.str "dict" tp12},{hash:=PyData.keyHash w.params ("table":Str),key:=.str "table" tp13,val:=.str "dict" tp14}] epP,#[]⟩)
    (aK:W.nsIn K mainGlobals "KINDS"=some (some (.ref aKN)))
    (lK:K.lookup aKN=some ⟨.type "tuple",none,.seq #[.str "nothing" uk1,.str "truth" uk2,.str "number" uk3,.str "text" uk4,.str "list" uk5,.str "dict" uk6] nK,slK⟩):
    ∃fd:FuncData,(∀(s:Shared) (v:Value),BindsTo s fd ⟨[v],[]⟩ [("_law_script",v)])/\∀base:Heap,K.In base->base.Ns mainGlobals mg->FnOk l.prog w K mg base CX0 27 fa fd ["_law_script"] (qI K):=by
  have e:=hfa.symm.trans (PySem.W.mg_of X G a52)
  cases e
  have B:Own mg:=zHg X G z0 z1 z2 z3 z4 z5 z6 z7 z8 z9 z10 z11 z12 z13 z14 z15 z16 z17 z18
  refine⟨W.fnOf "law" "law" (gK iO) (fG iO) (aL iO) .none w_52 x_52 y_52 t_52 r_52 q_52,λs v=>.of_eq rfl,λbase KB GB=>?_⟩
  have GSIGNS:mE K w.params mg "SIGNS" SGN:=⟨aSIGNS,PySem.W.mg_of X G aS,⟨⟨_,_,lS,⟨rfl,⟨_,rfl⟩,⟨_,rfl⟩,rfl,⟨_,rfl⟩,⟨_,rfl⟩,rfl,⟨_,rfl⟩,⟨_,rfl⟩,rfl,⟨_,rfl⟩,⟨_,rfl⟩,trivial⟩⟩,by decide +kernel⟩⟩
  have GPART_KINDS:mE K w.params mg "PART_KINDS" xC:=⟨aPK,PySem.W.mg_of X G aP,⟨⟨_,_,lP,⟨rfl,⟨_,rfl⟩,⟨_,rfl⟩,rfl,⟨_,rfl⟩,⟨_,rfl⟩,rfl,⟨_,rfl⟩,⟨_,rfl⟩,rfl,⟨_,rfl⟩,⟨_,rfl⟩,rfl,⟨_,rfl⟩,⟨_,rfl⟩,rfl,⟨_,rfl⟩,⟨_,rfl⟩,rfl,⟨_,rfl⟩,⟨_,rfl⟩,trivial⟩⟩,by decide +kernel⟩⟩
  have TM:∀H,SqT K H aMARKS (MK.map V.str):=λH=>.inr ⟨_,_,_,lM,rfl,rfl,by show 4<=sizeLine;decide,.cons ⟨_,rfl⟩ (.cons ⟨_,rfl⟩ (.cons ⟨_,rfl⟩ (.cons ⟨_,rfl⟩ .nil)))⟩
  have GMARKS:jH K mg "MARKS" (.seq true (MK.map sT)):=zAh (PySem.W.mg_of X G aM) TM
  have TKN:∀H,SqT K H aKN (KNS.map V.str):=λH=>.inr ⟨_,_,_,lK,rfl,rfl,by show 6<=sizeLine;decide,.cons ⟨_,rfl⟩ (.cons ⟨_,rfl⟩ (.cons ⟨_,rfl⟩ (.cons ⟨_,rfl⟩ (.cons ⟨_,rfl⟩ (.cons ⟨_,rfl⟩ .nil)))))⟩
  have GKINDS:jH K mg "KINDS" (.seq true (kN6.map λk=>sT (fA k))):=zAh (PySem.W.mg_of X G aK) TKN
  have G24_:PGood l.prog w K mg base 2 "_law_take" ["_law_deck_here","_law_most"] fH:=Good.take (zHG h24_ (zF7 h22_))
  have G25_:PGood l.prog w K mg base 1 "_law_signs" [] pM:=zJ7 h25_ B 
  have G26_:PGood l.prog w K mg base 3 "_law_text" ["_law_deck_here","_law_most"] lO:=zJ6 h26_ B G25_ G24_
  have G27_:PGood l.prog w K mg base 4 "_law_unlike" ["_law_deck_here","_law_many","_law_most"] tJ:=zJ5 h27_ B G25_ G26_
  have G28_:PGood l.prog w K mg base 3 "_law_far" ["_law_deck_here"] vP:=zJ4 h28_ B G24_
  have G29_:PGood l.prog w K mg base 5 "_law_world" ["_law_deck_here"] tY:=zJ3 h29_ B G24_ G27_ G26_ G28_
  have G32_:PGood l.prog w K mg base 4 "_law_make" ["_law_deck_here"] nI:=zJ0 h32_ B G24_ G26_
  have G33_:PGood l.prog w K mg base 5 "_law_some_words" ["_law_deck_here","_law_world_here"] uE:=zJZ h33_ B G24_ G32_
  have G0_:PGood l.prog w K mg base 1 "has_mark" ["text","mark"] sR:=g0_ h0_ B GSIGNS
  have G1_:PGood l.prog w K mg base 2 "marks_of" ["text"] pD:=g1_ h1_ B G0_ GMARKS
  have G2_:PGood l.prog w K mg base 3 "words_let" ["words","text"] iY:=g2_ h2_ B G1_
  have G9_:PGood l.prog w K mg base 1 "part_kind" ["part"] sI:=g9_ h9_ B GPART_KINDS
  have G10_:PGood l.prog w K mg base 2 "part_for" ["form","kind"] mT:=zKi h10_ B G9_
  have G3_:PGood l.prog w K mg base 3 "makes_met" ["longer","shorter"] sJ:=g3_ h3_ B G1_
  have G4_:PGood l.prog w K mg base 4 "few_met" ["few","other"] tK:=g4_ h4_ B G2_
  have G5_:PGood l.prog w K mg base 5 "words_met" ["one","other"] iX:=g5_ h5_ B G4_ G3_
  have G6_:PGood l.prog w K mg base 1 "tails_many" ["signs","shortest","longest","most"] tZ:=g6_ h6_ B 
  have G7_:PGood l.prog w K mg base 1 "signs_of" ["marks"] sQ:=g7_ h7_ B GSIGNS
  have G8_:PGood l.prog w K mg base 2 "words_many" ["words","most"] nB:=g8_ h8_ B G6_ G7_
  have G12_:PGood l.prog w K mg base 1 "numbers_met" ["one","other"] gM:=zKg h12_ B 
  have G13_:PGood l.prog w K mg base 1 "texts_met" ["one","other"] gM:=zKf h13_ B 
  have G11_:PGood l.prog w K mg base 1 "truths_met" ["one","other"] nW:=zKh h11_ B 
  have G15_:PGood l.prog w K mg base 4 "field_at" ["part","name"] oJ:=zKd h15_ B G2_
  have G16_:PGood l.prog w K mg base 1 "record_of" ["least","most","fields"] oI:=zKc h16_ B 
  have G37_:PGood l.prog w K mg base 3 "_law_atoms" ["_law_deck_here"] pN:=zJV h37_ B G24_
  have G38_:PGood l.prog w K mg base 1 "_law_form_of_atoms" ["_law_atoms_here"] lX:=zJU h38_ B 
  have G39_:PGood l.prog w K mg base 1 "_law_both" ["_law_one","_law_other"] pZ:=zJT h39_ B 
  have G40_:PGood l.prog w K mg base 4 "_law_record_of" ["_law_deck_here","_law_pool"] uF:=zJS h40_ B G24_ G37_
  have G41_:PGood l.prog w K mg base 2 "_law_record_part" ["_law_record"] uG:=zJR h41_ B G38_
  have G43_:PGood l.prog w K mg base 1 "_law_subsets" ["_law_names"] pY:=zJP h43_ B 
  have G42_:PGood l.prog w K mg base 2 "_law_due_record" ["_law_sets","_law_atoms_here"] nJ:=zJQ h42_ B G38_
  have G30_:PGood l.prog w K mg base 1 "_law_mark" ["_law_sign"] nH:=zJ2 h30_ B 
  have G31_:PGood l.prog w K mg base 2 "_law_words_let" ["_law_words","_law_text_here"] iY:=zJ1 h31_ B G30_
  have G34_:PGood l.prog w K mg base 3 "_law_makes_met" ["_law_one","_law_other"] vN:=zJY h34_ B G30_
  have G35_:PGood l.prog w K mg base 4 "_law_words_met" ["_law_one","_law_other"] iX:=zJX h35_ B G34_ G31_
  have G36_:PGood l.prog w K mg base 6 "_law_kin_words" ["_law_deck_here","_law_world_here","_law_words"] vO:=zJW h36_ B G24_ G33_ G26_ G30_ G32_
  have G44_:PGood l.prog w K mg base 10 "_law_same" ["_law_one","_law_other"] (lQ 9):=zAW h44_ B 9
  have G47_:PGood l.prog w K mg base 1 "_law_counted" ["_law_one","_law_other","_law_sets"] mU:=zJL h47_ B 
  have G45_:PGood l.prog w K mg base 7 "_law_table_of" ["_law_deck_here","_law_world_here","_law_make_here"] uA:=zJN h45_ B G24_ G36_ G37_
  have G46_:PGood l.prog w K mg base 1 "_law_count" ["_law_words","_law_most"] uH:=zJM h46_ B 
  have G48_:PGood l.prog w K mg base 5 "_law_tables_due" ["_law_one","_law_other"] vC:=zJK h48_ B G35_ G39_ G42_ G47_ G43_ G46_ G38_
  have G49_:PGood l.prog w K mg base 5 "_law_record_due" ["_law_table","_law_record"] vD:=zJJ h49_ B G31_ G39_ G47_ G43_ G42_
  have G50_:PGood l.prog w K mg base 3 "_law_near_names" ["_law_deck_here","_law_make_here","_law_names"] vE:=zJI h50_ B G24_
  have G21_:PGood l.prog w K mg base 22 "met" ["one","other"] (iQ mf2 ok2):=zHH h21_ h20_ h14_ h19_ h17_ h18_ B G10_ G11_ G12_ G13_ G5_ G8_ G15_ G16_ GKINDS
  have G51_:PGood l.prog w K mg base 23 "_law_cut_right" ["_law_letter"] vQ:=zJH h51_ B G44_ G21_
  exact zHr (zBx (st:=iO) l52 c52 k52) B (zHI h23_ B) G29_ G51_ G24_ G32_ G45_ G38_ G40_ G50_ G41_ G49_ G48_ G44_ G21_ 
theorem walk{l:W.OpenLaw}{q:Program}{loose:List Str}{XP:(Str->Option Value)->Heap->Prop}{YP:World->Heap->Prop}{d:DefRec}{K:Params->W.Frag}(hn:l.most=some 63)(hdf:d.params.defaults=[])
  (hY:∀(w:World) (h:Heap),YP w h->(K w.params).In h)
  (F:∀(w:World) (mg:Str->Option Value) (fa:Addr) (h:Heap),(K w.params).In h->h.Ns mainGlobals mg->mg d.name=some (.ref fa) ->
   ∃fd:FuncData,(∀(s:Shared) (u:Value),BindsTo s fd ⟨[u],[]⟩ [("_law_script",u)])/\∀base:Heap,(K w.params).In base->base.Ns mainGlobals mg->FnOk l.prog w (K w.params) mg base CX0 27 fa fd ["_law_script"] (qI (K w.params))):
  PySem.W.WalkO q loose XP YP l.row.toRowW d [] (λf vs=>PySem.call f vs):=
 L2.walk_of (n:=63) (k:=27) (x:="_law_script") (CX:=λ_=>CX0) (sp:=λw=>qI (K w.params)) hn (by decide) hdf ⟨rfl,by decide,by decide,rfl⟩ hY F (λ_ _ a ns hl _ hS=>⟨a,ns,rfl,hS,hl,λ_=>rfl⟩) λ_ _ _ _ _ z=>z
end My
inductive PySem.W.Fast:Prop
|tw7775965102812762833
|tw4163652610194365568
|tw10446875465380878592
|tw16138275619145850240
|tw17146918853733403232
|tw13914959996805189312
|tw13584814832824334176
|tw3841663826865192961
|tw14981906487644303682
|tw14001175090451008930
|tw7493106386357482274
|tw12872835664573961347
|tw11236683792397075843
|tw13562287515590681027
|tw18087074478253489156
|tw5372724154249699396
|tw422304281901384804
|tw3452277799577776324
|tw2002810672943390020
|tw9534929475865998308
|tw8244544757761663972
|tw2740414364524110117
|tw14545581239330548645
|tw4350551747293653957
|tw10162190767272027109
|tw10764298017952011558
|tw6722546010784055814
|tw4408978702998028934
|tw1935409550607316870
|tw3403736988265275559
|tw30446847584527623
|tw15971913212501713255
|tw4373836763313418759
|tw6349865372665828967
|tw3588423142463567495
|tw16946880490442232583
|tw15160805734268286791
|tw14912576491003401320
|tw13118030214279142920
|tw8355690915586099944
|tw3561138038108151849
|tw3475273896805477546
|tw9979221439515948202
|tw18030087090384479562
|tw2921228423702846826
|tw14127601699402848618
|tw8577374452213800458
|tw5078114558600049418
|tw13071547663188537162
|tw6506483427996813290
|tw12038538843194687466
|tw4224316986200123723
|tw2051968509055209227
|tw7251058126249498539
|tw18344026254233600939
|tw4615385959082917900
|tw16201428623993858348
|tw2153724101350560620
|tw6842276061771236300
|tw17871361391707355149
|tw16683087658683663885
|tw3705974018257241677
|tw15593902730770879117
|tw8127388376823812973
|tw10724322391566551917
|tw15024050208428756909
|tw6470243318583622894
|tw1514539876804624622
|tw14522105191828132270
|tw15368143060094069262
|tw11654124651606949422
|tw7645710908642053870
|tw13394819322491367406
|tw18122302943399081135
|tw7999508756795211023
|tw13476320793033985391
|tw11987827843979288527
|tw15168021318456492176
|tw7584444147973358928
|tw12525931098914460048
|tw12487978265967367824
|tw13799602886321419505
|tw9497387631208928753
|tw8348208030245979889
|tw11967554765634681713
|tw9639487009372877650
|tw12331211020294843346
|tw13347602094304355571
|tw11373404538267123251
|tw1468931368457981651
|tw15851106639330680595
|tw11291896417910875027
|tw7490857650810876852
|tw8346755545228245013
|tw15343665159473087605
|tw1421420589903210741
|tw6244320508398294549
|tw9429999623771685493
|tw5270592491526231765
|tw14039053093879789301
|tw7270126390665488181
|tw8491740369667351381
|tw9026064143835022006
|tw8974663124317350710
|tw14959247350103835446
|tw3717823786061573335
|tw12279962170807996759
|tw1126207294074805975
|tw7309180687809395575
|tw14936137396274217879
|tw334097475970565016
|tw4492619184998607864
|tw9590492218643646521
|tw920939386911369433
|tw38727380723251417
|tw15608276549888128313
|tw8963863029120738905
|tw10231311056264085273
|tw4993545476656733786
|tw7542560916572649082
|tw11912586291518850810
|tw14535161109400146938
|tw14359573960422248571
|tw18163656895733736059
|tw3680788925056228155
|tw3548053217559013211
|tw3823507650458610683
|tw14297031207253401084
|tw2648864577697267420
|tw9893286859358845181
|tw1913285865614412029
|tw16989568845834819005
|tw17306354502726451933
|tw2914037894630649789
|tw17570105006912138270
|tw4352007264178393342
|tw3738223437604490622
|tw13658341858179947038
|tw11066944166575719070
|tw2668931733500230398
|tw11208734368570747742
|tw704919167627232126
|tw6038868116976217054
|tw10148211972533796830
|tw8385024506523887775
|tw5943033114451617471
|tw3385311645724392127
|tw16719091596640137119
|tw780346794677641119
open PySem PySem.W PyProof.Rows
set_option maxRecDepth 100000 in
set_option maxHeartbeats 0 in
theorem PySem.Challenge.cw_leastform_k67_tables_met_holds : PySem.Challenge.rw_leastform_k67_tables_met.Holds := by
 w_on; o_law; k_head; (case hw => w_witness2)
 k_fill
 refine My.walk (l := PySem.Challenge.rw_leastform_k67_tables_met) rfl rfl (fun w h Y => PySem.W.kIn_of Y) ?F
 case F =>
  intro w mg fa h KX G hmg
  refine' My.all_mk KX G hmg (L2.has_mk KX G ?a0 ?l0 ?c0 ?k0) (L2.has_mk KX G ?a1 ?l1 ?c1 ?k1) (L2.has_mk KX G ?a2 ?l2 ?c2 ?k2) (L2.has_mk KX G ?a3 ?l3 ?c3 ?k3) (L2.has_mk KX G ?a4 ?l4 ?c4 ?k4) (L2.has_mk KX G ?a5 ?l5 ?c5 ?k5) (L2.has_mk KX G ?a6 ?l6 ?c6 ?k6) (L2.has_mk KX G ?a7 ?l7 ?c7 ?k7) (L2.has_mk KX G ?a8 ?l8 ?c8 ?k8) (L2.has_mk KX G ?a9 ?l9 ?c9 ?k9) (L2.has_mk KX G ?a10 ?l10 ?c10 ?k10) (L2.has_mk KX G ?a11 ?l11 ?c11 ?k11) (L2.has_mk KX G ?a12 ?l12 ?c12 ?k12) (L2.has_mk KX G ?a13 ?l13 ?c13 ?k13) (L2.has_mk KX G ?a14 ?l14 ?c14 ?k14) (L2.has_mk KX G ?a15 ?l15 ?c15 ?k15) (L2.has_mk KX G ?a16 ?l16 ?c16 ?k16) (L2.has_mk KX G ?a17 ?l17 ?c17 ?k17) (L2.has_mk KX G ?a18 ?l18 ?c18 ?k18) (L2.has_mk KX G ?a19 ?l19 ?c19 ?k19) (L2.has_mk KX G ?a20 ?l20 ?c20 ?k20) (L2.has_mk KX G ?a21 ?l21 ?c21 ?k21) (L2.has_mk KX G ?a22 ?l22 ?c22 ?k22) (L2.has_mk KX G ?a23 ?l23 ?c23 ?k23) (L2.has_mk KX G ?a24 ?l24 ?c24 ?k24) (L2.has_mk KX G ?a25 ?l25 ?c25 ?k25) (L2.has_mk KX G ?a26 ?l26 ?c26 ?k26) (L2.has_mk KX G ?a27 ?l27 ?c27 ?k27) (L2.has_mk KX G ?a28 ?l28 ?c28 ?k28) (L2.has_mk KX G ?a29 ?l29 ?c29 ?k29) (L2.has_mk KX G ?a30 ?l30 ?c30 ?k30) (L2.has_mk KX G ?a31 ?l31 ?c31 ?k31) (L2.has_mk KX G ?a32 ?l32 ?c32 ?k32) (L2.has_mk KX G ?a33 ?l33 ?c33 ?k33) (L2.has_mk KX G ?a34 ?l34 ?c34 ?k34) (L2.has_mk KX G ?a35 ?l35 ?c35 ?k35) (L2.has_mk KX G ?a36 ?l36 ?c36 ?k36) (L2.has_mk KX G ?a37 ?l37 ?c37 ?k37) (L2.has_mk KX G ?a38 ?l38 ?c38 ?k38) (L2.has_mk KX G ?a39 ?l39 ?c39 ?k39) (L2.has_mk KX G ?a40 ?l40 ?c40 ?k40) (L2.has_mk KX G ?a41 ?l41 ?c41 ?k41) (L2.has_mk KX G ?a42 ?l42 ?c42 ?k42) (L2.has_mk KX G ?a43 ?l43 ?c43 ?k43) (L2.has_mk KX G ?a44 ?l44 ?c44 ?k44) (L2.has_mk KX G ?a45 ?l45 ?c45 ?k45) (L2.has_mk KX G ?a46 ?l46 ?c46 ?k46) (L2.has_mk KX G ?a47 ?l47 ?c47 ?k47) (L2.has_mk KX G ?a48 ?l48 ?c48 ?k48) (L2.has_mk KX G ?a49 ?l49 ?c49 ?k49) (L2.has_mk KX G ?a50 ?l50 ?c50 ?k50) (L2.has_mk KX G ?a51 ?l51 ?c51 ?k51) ?a52 ?l52 ?c52 ?k52 ?z0 ?z1 ?z2 ?z3 ?z4 ?z5 ?z6 ?z7 ?z8 ?z9 ?z10 ?z11 ?z12 ?z13 ?z14 ?z15 ?z16 ?z17 ?z18 ?aS ?lS ?aM ?lM ?aP ?lP ?aK ?lK
  any_goals k_is
