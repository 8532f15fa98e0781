import PyProof.Rows.All
import Wide.All
import OpenK.AllK
import Wide.FinOn
import Lean
import PyProof.EqAt
import PyProof.EqKinds
import PyProof.TupleCall
import PyProof.Draws
import PyProof.EnumMake
import PyProof.EnumFor
import PyProof.ZipIter
import PyProof.ListMulRoad
import PyProof.NeData
import PyProof.SumWalkG
import PyProof.Rows.SetFrom
import PyProof.SetRoads
import PyProof.TupleIter
import PyProof.FactsAll.subtypes_4
import PySem.Challenge.RW_sharetrail_k57_settled_in_whichever_orde
set_option Elab.async false
set_option linter.all false
set_option maxRecDepth 100000
set_option maxHeartbeats 4000000
set_option exponentiation.threshold 10000
noncomputable section
namespace L2
open PySem PySem.Spec PyProof.Rows
abbrev Key:=Sum Int Str
noncomputable def Zy:Key->Value->Bool
 | .inl k,v=>Value.isInt k v
 | .inr x,v=>Value.isStrOf x v
noncomputable def gy(w:World):Key->Int
 | .inl k=>hashInt k
 | .inr x=>hashStr w x
theorem Cc:∀{k:Key} {v:Value},Zy k v=true->(∃i t,k=Sum.inl i/\v=Value.int i t)∨(∃x t,k=Sum.inr x/\v=Value.str x t)
  | .inl i,v,h=>by
    obtain⟨t,e⟩:=Value.isInt_shape (k:=i) (v:=v) h
    exact .inl ⟨i,t,rfl,e⟩
  | .inr x,v,h=>by
    obtain⟨t,e⟩:=Value.isStrOf_shape (x:=x) (v:=v) h
    exact .inr ⟨x,t,rfl,e⟩
theorem Zq(a b:Int):decide ((Sum.inl a:Key)=Sum.inl b)=(a==b):=by
 by_cases e:a=b
 ·subst e;simp
 ·have h:¬(Sum.inl a:Key)=Sum.inl b:=fun q=>e (Sum.inl.inj q)
  rw[decide_eq_false h]
  exact(beq_eq_false_iff_ne.mpr e).symm
theorem ZG(a b:Str):decide ((Sum.inr a:Key)=Sum.inr b)=decide (a=b):=by
 by_cases e:a=b
 ·subst e;simp
 ·have h:¬(Sum.inr a:Key)=Sum.inr b:=fun q=>e (Sum.inr.inj q)
  rw[decide_eq_false h,decide_eq_false e]
theorem ZA(a:Int)(b:Str):decide ((Sum.inl a:Key)=Sum.inr b)=false:=decide_eq_false (fun q=>nomatch q)
theorem Yn(a:Str)(b:Int):decide ((Sum.inr a:Key)=Sum.inl b)=false:=decide_eq_false (fun q=>nomatch q)
noncomputable def Ro(prog:Program)(w:World):PySem.KeyKind prog w Key where
 is:=Zy
 hash:=gy w
 inj:=fun v a b ha hb=>by
  rcases Cc ha with⟨i,t,rfl,rfl⟩|⟨x,t,rfl,rfl⟩
  ·rcases Cc hb with⟨j,u,rfl,e⟩|⟨y,u,rfl,e⟩
   ·injection e with e1 _;rw[e1]
   ·exact nomatch e
  ·rcases Cc hb with⟨j,u,rfl,e⟩|⟨y,u,rfl,e⟩
   ·exact nomatch e
   ·injection e with e1 _;rw[e1]
 byValue:=fun k v h=>by
  rcases Cc h with⟨i,t,rfl,rfl⟩|⟨x,t,rfl,rfl⟩<;>rfl
 pyHash:=fun hv h=>by
  rcases Cc hv with⟨i,t,rfl,rfl⟩|⟨x,t,rfl,rfl⟩
  ·exact wpAny_pyHash_int h
  ·exact wpAny_pyHash_str h
 eqBool:=fun hu hv h=>by
  rcases Cc hu with⟨i,t,rfl,rfl⟩|⟨x,t,rfl,rfl⟩
  ·rcases Cc hv with⟨j,u,rfl,rfl⟩|⟨y,u,rfl,rfl⟩
   ·rw[Zq]at h;exact wpAny_eqBool_int h
   ·rw[ZA]at h;exact SeqAt.EqAt.int_str i t y u _ _ _ _ h
  ·rcases Cc hv with⟨j,u,rfl,rfl⟩|⟨y,u,rfl,rfl⟩
   ·rw[Yn]at h;exact SeqAt.EqAt.str_int x t j u _ _ _ _ h
   ·rw[ZG]at h;exact wpAny_eqBool_str h
 «strs» :=fun k x t v h=>by
  rcases Cc h with⟨i,u,rfl,e⟩|⟨y,u,rfl,e⟩
  ·exact nomatch e
  ·injection e with e1 _
   subst e1
   cases v<;>rfl
end L2
namespace L2
open PySem PySem.Spec PyProof.Rows
inductive V where
 |non|bl (b:Bool)|int (i:Int)|str (x:Str)|byt (b:Array UInt8)|flt (b:UInt64)|ref (a:Addr)|ty (n:String)
 deriving DecidableEq
def RelV:V->Value->Prop
 | .non,u=>u=Value.none
 | .bl b,u=>u=Value.bool b
 | .int i,u=>∃t,u=Value.int i t
 | .str x,u=>∃t,u=Value.str x t
 | .byt b,u=>∃t,u=Value.bytes b t
 | .flt b,u=>∃t,u=Value.float b t
 | .ref a,u=>u=Value.ref a
 | .ty n,u=>u=Value.type n
abbrev Vals:List V->List Value->Prop:=Paired RelV
theorem Vals.length{xs:List V}{us:List Value}(r:Vals xs us):xs.length=us.length:=Paired.length r
theorem Vals.get:∀{xs:List V} {us:List Value} {i:Nat} {x:V},Vals xs us->xs[i]?=some x->∃u,us[i]?=some u/\RelV x u
  |_,_,_,_,.nil,e=>by simp at e
  |_,_,0,_,.cons r _,e=>by simp at e;subst e;exact⟨_,rfl,r⟩
  | _, _, i + 1, x, .cons _ t, e => by
    obtain⟨u,h1,h2⟩:=Vals.get (i:=i) (x:=x) t (by simpa using e)
    exact⟨u,by simpa using h1,h2⟩
theorem Vals.set{x:V}{u:Value}(r:RelV x u):∀{xs:List V} {us:List Value} (i:Nat),Vals xs us->Vals (xs.set i x) (us.set i u)
 |_,_,_,.nil=>.nil
 |_,_,0,.cons _ t=>.cons r t
 |_,_,i+1,.cons q t=>.cons q (Vals.set r i t)
theorem Vals.append:∀{xs ys:List V} {us ws:List Value},Vals xs us->Vals ys ws->Vals (xs++ys) (us++ws)
 |_,_,_,_,.nil,s=>s
 |_,_,_,_,.cons r t,s=>.cons r (Vals.append t s)
theorem Vals.take:∀{xs:List V} {us:List Value} (n:Nat),Vals xs us->Vals (xs.take n) (us.take n)
 |_,_,0,_=>.nil
 |_,_,_+1,.nil=>.nil
 |_,_,n+1,.cons r t=>.cons r (Vals.take n t)
theorem Vals.drop:∀{xs:List V} {us:List Value} (n:Nat),Vals xs us->Vals (xs.drop n) (us.drop n)
 |_,_,0,r=>r
 |_,_,_+1,.nil=>.nil
 |_,_,n+1,.cons _ t=>Vals.drop n t
def bY:Option V->Option Value->Prop
 |some v,some u=>RelV v u
 |none,none=>True
 |_,_=>False
def KV{κ:Type}:List (κ×V)->List (κ×Value)->Prop:=Paired fun(p:κ×V) (q:κ×Value)=>p.1=q.1/\RelV p.2 q.2
noncomputable def kV:Key->V
 | .inl i=>.int i
 | .inr x=>.str x
inductive HO where
 |lst (xs:List V)
 |tup (xs:List V)
 |dK (kvs:List (Key×V))|dT (kvs:List (List Key×V))
 |set (S:Int->Bool) (n:Nat)
 |ins (C dx:Addr) (fs:List (Str×V))
 |own (x:Addr)
 |xd (fs:List (Str×V))
 |met (f x:Addr)
 |rng (lo hi:Int)
 |frz (o:Obj) (u:HO)
 |tbl (ps:Array Value)
 |ext (φ:Heap->Prop)
abbrev Hp:=Addr->Option HO
noncomputable def upd(H:Hp)(a:Addr)(o:HO):Hp:=fun b=>if b=a then some o else H b
theorem CH{H:Hp}{a:Addr}{o:HO}:upd H a o a=some o:=by unfold upd;rw[if_pos rfl]
theorem BD{H:Hp}{a b:Addr}{o:HO}(h:b≠a):upd H a o b=H b:=by unfold upd;rw[if_neg h]
theorem BX{H:Hp}{a b:Addr}{o:HO}(h:H a=some o)(h':H b=none):a≠b:=by
 intro e;subst e;rw[h]at h';cases h'
section
variable(P:Program)(w:World)
def F9(H:Hp)(h:Heap)(a:Addr):HO->Prop
 | .lst xs=>xs.length≤sizeLine/\∃(its:List Value) (n:Nat),Vals xs its/\h.get? a=some {cls:=.type "list",data:=.seq its.toArray n}
 | .tup xs=>xs.length≤sizeLine/\∃its:List Value,Vals xs its/\IsTup h a its.toArray
 | .dK kvs=>kvs.length≤sizeLine/\(a==sysModules)=false/\∃vs,KV kvs vs/\h.DictOf (Ro P w) a vs
 | .dT kvs=>kvs.length≤sizeLine/\(a==sysModules)=false/\∃xs:List (List Key×Addr×Value),
   Paired (fun(p:List Key×V) (q:List Key×Addr×Value)=>p.1=q.1/\H q.2.1=some (.tup (p.1.map kV))/\RelV p.2 q.2.2) kvs xs/\
   ∃o es ep,h.get? a=some o/\o.ExactDict/\o.data=.dict es ep/\es.toList=xs.map (entryOfKey (tupleKind (Ro P w)))/\(xs.map (·.1)).Nodup
 | .set S n=>h.SetOf (intKind P w) a S n
 | .ins C dx fs=>H dx=some (.own a)/\fs.length≤1000/\dx≠a/\h.get? a=some (PySem.W.instObj C dx)/\
   ∃mA,h.Ns1 dx mA/\(∀f,bY (fs.lookup f) (mA f))/\PySem.Within mA (fs.map (·.1))
 | .own _=>∃o,h.get? a=some o
 | .xd fs=>∃mA,h.Ns1 a mA/\∀f,bY (fs.lookup f) (mA f)
 | .rng lo hi=>∃t u v,h.get? a=some {cls:=.type "range",data:=.fields #[.int lo t,.int hi u,.int 1 v]}
 | .frz o u=>h.get? a=some o/\F9 H h a u
 | .tbl ps=>h.get? a=some {cls:=.none,data:=.fields ps}
 | .met f x=>h.get? a=some (PySem.W.methodObj (.ref f) (.ref x))
 | .ext φ=>φ h/\(∃o,h.get? a=some o)/\∀h1 h2:Heap,φ h1->(∀o,h1.get? a=some o->h2.get? a=some o)->φ h2
def HOk(H:Hp)(h:Heap):Prop:=∀a o,H a=some o->F9 P w H h a o
end
section
variable{P:Program}{w:World}{H H':Hp}{h h':Heap}{a:Addr}{o:HO}
theorem F9.lt(x:F9 P w H h a o):a<h.objs.size:=by
 cases o with
 |lst xs=>obtain⟨_,_,_,_,e⟩:=x;exact Heap.lt_size e
 |tup xs=>obtain⟨_,_,_,p⟩:=x;exact p.lt
 |dK kvs=>obtain⟨_,_,_,_,o,_,_,e,_⟩:=x;exact Heap.lt_size e
 |dT kvs=>obtain⟨_,_,_,_,o,_,_,e,_⟩:=x;exact Heap.lt_size e
 |set S n=>obtain⟨o,_,_,_,e,_⟩:=x;exact Heap.lt_size e
 |ins C dx fs=>obtain⟨_,_,_,e,_⟩:=x;exact Heap.lt_size e
 |own y=>obtain⟨_,e⟩:=x;exact Heap.lt_size e
 |xd fs=>obtain⟨_,⟨_,_,_,e,_⟩,_⟩:=x;exact Heap.lt_size e
 |rng lo hi=>obtain⟨_,_,_,e⟩:=x;exact Heap.lt_size e
 |frz ob u=>obtain⟨e,_⟩:=x;exact Heap.lt_size e
 |tbl ps=>exact Heap.lt_size (show h.get? a=some _ from x)
 |met f y=>exact Heap.lt_size (show h.get? a=some _ from x)
 |ext φ=>obtain⟨_,⟨_,e⟩,_⟩:=x;exact Heap.lt_size e
theorem Paired.mapP{α β:Type}{F G:α->β->Prop}:∀{l₁:List α} {l₂:List β},Paired F l₁ l₂->(∀a b,F a b->G a b)->Paired G l₁ l₂
 |_,_,.nil,_=>.nil
 |_,_,.cons r t,f=>.cons (f _ _ r) (Paired.mapP t f)
theorem F9.stay(x:F9 P w H h a o)(k:∀b u,(b=a∨H b=some (.own a))->h.get? b=some u->h'.get? b=some u)
    (ho:∀b,H b=some (.own a)->H' b=some (.own a)) (ht:∀b xs,H b=some (.tup xs)->H' b=some (.tup xs)):F9 P w H' h' a o:=by
  induction o with
  |lst xs=>obtain⟨z,its,n,r,e⟩:=x;exact⟨z,its,n,r,k _ _ (.inl rfl) e⟩
  |tup xs=>obtain⟨z,its,r,ob,e,c⟩:=x;exact⟨z,its,r,ob,k _ _ (.inl rfl) e,c⟩
  |dK kvs=>obtain⟨z,y,vs,r,ob,es,ep,e,c⟩:=x;exact⟨z,y,vs,r,ob,es,ep,k _ _ (.inl rfl) e,c⟩
  | dT kvs =>
    obtain⟨z,y,xs,r,ob,es,ep,e,c⟩:=x
    exact⟨z,y,xs,Paired.mapP r fun p q z=>⟨z.1,ht _ _ z.2.1,z.2.2⟩,ob,es,ep,k _ _ (.inl rfl) e,c⟩
  |set S n=>obtain⟨ob,es,ep,t,e,c⟩:=x;exact⟨ob,es,ep,t,k _ _ (.inl rfl) e,c⟩
  | ins C dx fs =>
    obtain⟨d,z,ne,e,mA,⟨od,es,ep,e2,c⟩,r⟩:=x
    exact⟨ho _ d,z,ne,k _ _ (.inl rfl) e,mA,⟨od,es,ep,k _ _ (.inr d) e2,c⟩,r⟩
  |own y=>obtain⟨ob,e⟩:=x;exact⟨ob,k _ _ (.inl rfl) e⟩
  |xd fs=>obtain⟨mA,⟨od,es,ep,e,c⟩,r⟩:=x;exact⟨mA,⟨od,es,ep,k _ _ (.inl rfl) e,c⟩,r⟩
  |rng lo hi=>obtain⟨t,u,v,e⟩:=x;exact⟨t,u,v,k _ _ (.inl rfl) e⟩
  |frz ob u ih=>obtain⟨e,q⟩:=x;exact⟨k _ _ (.inl rfl) e,ih q⟩
  | tbl ps =>
    have e:h.get? a=some {cls:=.none,data:=.fields ps}:=x
    show h'.get? a=some {cls:=.none,data:=.fields ps}
    exact k a _ (.inl rfl) e
  | met f y =>
    have e:h.get? a=some (PySem.W.methodObj (.ref f) (.ref y)):=x
    show h'.get? a=some (PySem.W.methodObj (.ref f) (.ref y))
    exact k a _ (.inl rfl) e
  |ext φ=>obtain⟨p,⟨o,e⟩,st⟩:=x;exact⟨st _ _ p fun o q=>k _ _ (.inl rfl) q,⟨o,k _ _ (.inl rfl) e⟩,st⟩
theorem HOk.lt(x:HOk P w H h)(e:H a=some o):a<h.objs.size:=(x a o e).lt
theorem HOk.fresh(x:HOk P w H h)(e:h.objs.size≤a):H a=none:=by
 cases q:H a with
 |none=>rfl
 |some u=>exact absurd (Nat.lt_of_lt_of_le (x.lt q) e) (Nat.lt_irrefl _)
theorem HOk.kept(x:HOk P w H h)(k:∀b u,h.get? b=some u->h'.get? b=some u):HOk P w H h':=fun a o e=>
 (x a o e).stay (fun b u _ q=>k b u q) (fun _ q=>q) fun _ _ q=>q
theorem HOk.laid(x:HOk P w H h)(k:∀b u,h.get? b=some u->h'.get? b=some u)(hp:h.objs.size≤a)(new:F9 P w (upd H a o) h' a o):HOk P w (upd H a o) h':=fun b u e=>by
 have hn:=x.fresh hp
 by_cases hb:b=a
 ·subst hb;rw[CH]at e;cases e;exact new
 ·rw[BD hb]at e
  exact(x b u e).stay (fun c v _ q=>k c v q) (fun c q=>by rw[BD (BX q hn)];exact q) fun c xs q=>by rw[BD (BX q hn)];exact q
end
def Rd(H:Hp)(a:Addr)(u:HO):Prop:=H a=some u∨∃o,H a=some (.frz o u)
theorem Rd.of{H:Hp}{a:Addr}{u:HO}(h:H a=some u):Rd H a u:=.inl h
theorem Rd.ok{P:Program}{w:World}{H:Hp}{h:Heap}{a:Addr}{u:HO}(r:Rd H a u)(x:HOk P w H h):F9 P w H h a u:=by
 rcases r with r|⟨o,r⟩
 ·exact x a u r
 ·obtain⟨_,q⟩:=x a _ r
  exact q
def Mut:Option HO->Prop
 |some (.lst _)=>True
 |some (.dK _)=>True
 |some (.dT _)=>True
 |some (.set _ _)=>True
 |some (.ins _ _ _)=>True
 |some (.ext _)=>True
 |_=>False
section
variable{P:Program}{w:World}{H:Hp}{h h':Heap}{x e:Addr}{o':HO}
theorem HOk.write(ok:HOk P w H h)(mu:Mut (H x))(he:e=x∨H e=some (.own x))(k:∀b u,b≠e->h.get? b=some u->h'.get? b=some u)(heo:∃u,h'.get? e=some u)
  (new:F9 P w (upd H x o') h' x o'):HOk P w (upd H x o') h':=fun b u q=>by
 have nown:∀c y,H c=some (.own y)->c≠x:=fun c y r z=>by subst z;rw[r]at mu;exact mu
 have ntup:∀c xs,H c=some (.tup xs)->c≠x:=fun c xs r z=>by subst z;rw[r]at mu;exact mu
 by_cases hb:b=x
 ·subst hb;rw[CH]at q;cases q;exact new
 ·rw [BD hb] at q
  by_cases hbe:b=e
  ·have q':H b=some (.own x):=by
    rcases he with z|z
    ·exact absurd (hbe.trans z) hb
    ·rw[hbe];exact z
   rw[q]at q';cases q'
   obtain⟨v,hv⟩:=heo
   exact⟨v,by rw[hbe];exact hv⟩
  ·refine(ok b u q).stay (fun c v hc r=>k c v ?_ r) (fun c r=>by rw[BD (nown c b r)];exact r) fun c xs r=>by rw[BD (ntup c xs r)];exact r
   rcases hc with rfl|hc
   ·exact hbe
   ·rintro rfl
    rcases he with z|z
    ·exact nown c b hc z
    ·rw[hc]at z;cases z;exact hb rfl
end
structure Un(fs ex:List Addr)(H H':Hp)(h h':Heap):Prop where
 keep:∀b o,h.get? b=some o->H b=none->b∉fs->b∉ex->h'.get? b=some o
 slot:∀b o,h.get? b=some o->H b=none->b∈fs->b∉ex->∃sl,h'.get? b=some {o with slots:=sl}
 free:∀b o,h.get? b=some o->H b=none->b∉ex->H' b=none
 there:∀b o,h.get? b=some o->b∉ex->∃o',h'.get? b=some o'
 tups:∀b xs,H b=some (.tup xs)->H' b=some (.tup xs)
 frzs:∀b o u,H b=some (.frz o u)->H' b=some (.frz o u)
 tbls:∀b ps,H b=some (.tbl ps)->∃more,H' b=some (.tbl (ps++more))
section
variable{fs fs' ex ex':List Addr}{H H1 H2:Hp}{h h1 h2 h':Heap}{a x e:Addr}{o:HO}
theorem Un.any(u:Un fs ex H H1 h h1){b:Addr}{ob:Obj}(q:h.get? b=some ob)(n:H b=none)(hx:b∉ex):∃sl,h1.get? b=some {ob with slots:=sl}:=by
 by_cases hb:b∈fs
 ·exact u.slot b ob q n hb hx
 ·exact⟨ob.slots,u.keep b ob q n hb hx⟩
theorem Un.kept(k:∀b u,h.get? b=some u->h'.get? b=some u):Un fs ex H H h h':=
 ⟨fun b ob q _ _ _=>k b ob q,fun b ob q _ _ _=>⟨ob.slots,k b ob q⟩,fun _ _ _ n _=>n,fun b ob q _=>⟨ob,k b ob q⟩,fun _ _ q=>q,fun _ _ _ q=>q,fun _ ps q=>⟨#[],by rw[q];simp⟩⟩
theorem Un.refl:Un fs ex H H h h:=Un.kept fun _ _ q=>q
theorem Un.laid(k:∀b u,h.get? b=some u->h'.get? b=some u)(hp:h.objs.size≤a)(hn:H a=none):Un fs ex H (upd H a o) h h' where
 keep:=fun b u q _ _ _=>k b u q
 slot:=fun b u q _ _ _=>⟨u.slots,k b u q⟩
 free:=fun b u q n _=>by rw[BD (Nat.ne_of_lt (Nat.lt_of_lt_of_le (Heap.lt_size q) hp))];exact n
 there:=fun b u q _=>⟨u,k b u q⟩
 tups:=fun b xs q=>by rw[BD (BX q hn)];exact q
 frzs:=fun b u xs q=>by rw[BD (BX q hn)];exact q
 tbls:=fun b ps q=>⟨#[],by rw[BD (BX q hn),q];simp⟩
theorem Un.write(mu:Mut (H x))(he:e=x∨H e=some (.own x))(k:∀b u,b≠e->h.get? b=some u->h'.get? b=some u)(heo:∃u,h'.get? e=some u):Un fs ex H (upd H x o) h h':=by
 have hx:∀b,H b=none->b≠x:=fun b n z=>by subst z;rw[n]at mu;exact mu
 have hb:∀b,H b=none->b≠e:=fun b n z=>by
  subst z
  rcases he with r|r
  ·exact hx b n r
  ·rw[n]at r;cases r
 have hm:∀b u,H b=some u->¬Mut (some u)->b≠x:=fun b u q nm z=>by subst z;rw[q]at mu;exact nm mu
 refine⟨fun b u q n _ _=>k b u (hb b n) q,fun b u q n _ _=>⟨u.slots,k b u (hb b n) q⟩,fun b u q n _=>by rw[BD (hx b n)];exact n,fun b u q _=>?_,
  fun b xs q=>by rw[BD (hm b _ q fun z=>z)];exact q,fun b u xs q=>by rw[BD (hm b _ q fun z=>z)];exact q,fun b ps q=>⟨#[],by rw[BD (hm b _ q fun z=>z),q];simp⟩⟩
 by_cases hbe:b=e
 ·subst hbe;exact heo
 ·exact⟨u,k b u hbe q⟩
end
noncomputable def trk(h:Heap)(H:Hp):List Addr:=(List.range h.objs.size).filter fun a=>(H a).isSome
noncomputable def Us(h:Heap)(H:Hp):Heap:=PySem.W.hideAll h (trk h H)
theorem RB(h:Heap)(H:Hp):(Us h H).objs.size=h.objs.size:=PySem.W.hideAll_size _ _
theorem Vl{h:Heap}{H:Hp}{b:Addr}{o:Obj}(e:h.get? b=some o)(n:H b=none):(Us h H).get? b=some o:=
 PySem.W.hideAll_get _ e fun hm=>by
  have q:(H b).isSome=true:=(List.mem_filter.mp hm).2
  rw[n]at q;simp at q
theorem YK{h:Heap}{H:Hp}{b:Addr}{o:Obj}(e:(Us h H).get? b=some o):h.get? b=some o/\H b=none:=by
  have e':h.get? b=some o:=PySem.W.of_hideAll (trk h H) e
  refine⟨e',?_⟩
  cases q:H b with
  |none=>rfl
  | some x =>
    have hm:b∈trk h H:=List.mem_filter.mpr ⟨List.mem_range.mpr (Heap.lt_size e'),by simp[q]⟩
    have z:(Us h H).get? b=none:=PySem.W.hideAll_none (trk h H) hm
    rw[z]at e;cases e
noncomputable def XZ(g h:Heap)(L:Addr):List (Addr×Obj):=(List.range h.objs.size).filterMap fun a=>if a=L∨(g.get? a).isSome=true then none else(h.get? a).map fun o=>(a,o)
noncomputable def rest(g h:Heap)(L d:Addr):List (Addr×Obj):=(XZ g h L).filter fun p=>decide (p.1≠d)
end L2
namespace L2
open PySem PySem.Spec PyProof.Rows
structure Mod(K:PySem.W.Frag)(mg:Str->Option Value)(base:Heap):Prop where
 kin:K.In base
 glob:base.Ns mainGlobals mg
 blt:∃mb,base.Ns builtinsNs mb/\∀x:Str,x≠ "__name__"->mb x=bootBuiltins x
 nolimit:base.NoLimit
structure Cx where
 prog:Program
 w:World
 K:PySem.W.Frag
 mg:Str->Option Value
 base:Heap
 A:Around
 N:List Str
 s₀:Shared
 H₀:Hp
 env:Env
 outer:List Env
 stack:List Env
 ex:List Addr
 fn:Str->Bool
 calm:Bool
 pn:List (Addr×Obj)
 xe:Value->Shared->Prop
noncomputable def frs(l:List Env):List Addr:=l.filterMap (·.frame)
abbrev Cx.fs(X:Cx):List Addr:=frs X.outer
def Vis(sc:Scope)(x:Str):Prop:=sc.names.lookup x=some .local∨sc.names.lookup x=some .cell∨sc.names.lookup x=some .free
def Loc(sc:Scope)(x:Str):Prop:=sc.names.lookup x=some .local∨sc.names.lookup x=some .cell
def Look(env:Env)(h:Heap)(m:Str->Option Value)(x:Str)(u:Value):Prop:=
 (env.kindOf x=some .local/\m x=some u)∨((env.kindOf x=some .cell∨env.kindOf x=some .free)/\∃c,env.cells.lookup x=some c/\h.IsCell c (some u))
structure Cx.Ok(X:Cx):Prop where
 mod:Mod X.K X.mg X.base
 kind:X.env.scope.kind=.function
 glob:X.env.globals=mainGlobals
 blt:X.env.builtins=builtinsNs
 above:X.s₀.heap.objs.size≤X.env.locals
 inj:∀x y c,X.env.cells.lookup x=some c->X.env.cells.lookup y=some c->x=y
 has:∀x,(X.env.kindOf x=some .cell∨X.env.kindOf x=some .free)->∃c,X.env.cells.lookup x=some c
 cab:∀x c,X.fn x=true->X.env.cells.lookup x=some c->X.s₀.heap.objs.size≤c
 hd:X.calm=true->X.A.handled=none
 frames:X.A.frames=some X.stack
 stk:X.stack=X.outer∨(X.stack=X.env::X.outer/\X.env.frame=some X.env.locals)
 exf:∀b∈X.ex,b≠X.env.locals/\∀x c,X.env.cells.lookup x=some c->c≠b
 bs:∀b o,X.base.get? b=some o->X.s₀.heap.get? b=some o/\X.H₀ b=none
 bsz:X.base.objs.size≤X.s₀.heap.objs.size
 noex:∀b o,X.base.get? b=some o->b∉X.ex
 exfs:∀b∈X.ex,b∉X.fs
 funs:X.s₀.heap.FunFrames X.base X.outer
 frf:∀b∈X.fs,X.H₀ b=none
structure Inv(X:Cx)(pins:List (Addr×Obj))(σ:List (Option V))(H:Hp)(s:Shared):Prop where
 ok:X.Ok
 os:s.os=X.s₀.os
 bare:AllBare s.gens
 base:Un X.fs X.ex X.H₀ H X.s₀.heap s.heap
 loc:∃m,s.heap.Ns X.env.locals m/\∀(i:Nat) (x:Str) (v:V),X.N[i]?=some x->σ[i]?=some (some v)->Vis X.env.scope x->∃u,RelV v u/\Look X.env s.heap m x u
 cell:∀x c,X.env.cells.lookup x=some c->∃v,s.heap.IsCell c v
 free:H X.env.locals=none
 freeC:∀x c,X.env.cells.lookup x=some c->H c=none
 pin:∀p∈X.pn++pins,s.heap.get? p.1=some p.2/\H p.1=none/\p.1≠X.env.locals/\p.1∉X.fs/\∀v,p.2.data≠.cell v
 hok:HOk X.prog X.w H s.heap
 len:σ.length=X.N.length
section
variable{X:Cx}{pins:List (Addr×Obj)}{σ:List (Option V)}{H H':Hp}{s:Shared}{h':Heap}
theorem Cx.Ok.nofr(ok:X.Ok){b:Addr}{o:Obj}(e:X.base.get? b=some o):b∉X.fs:=fun hb=>by
 have:=(ok.funs.mem hb).1
 rw[e]at this;cases this
theorem Inv.bs(I:Inv X pins σ H s):∀b o,X.base.get? b=some o->s.heap.get? b=some o/\H b=none:=fun b o e=>
 ⟨I.base.keep b o (I.ok.bs b o e).1 (I.ok.bs b o e).2 (I.ok.nofr e) (I.ok.noex b o e),I.base.free b o (I.ok.bs b o e).1 (I.ok.bs b o e).2 (I.ok.noex b o e)⟩
theorem Inv.bk(I:Inv X pins σ H s):∀b o,X.base.get? b=some o->s.heap.get? b=some o:=fun b o e=>(I.bs b o e).1
theorem Inv.mod(I:Inv X pins σ H s):Mod X.K X.mg X.base:=I.ok.mod
theorem Inv.kIn(I:Inv X pins σ H s):X.K.In s.heap:=I.ok.mod.kin.keeps I.bk
theorem Inv.lt(I:Inv X pins σ H s):X.env.locals<s.heap.objs.size:=let⟨_,hn,_⟩:=I.loc;hn.lt
theorem Inv.sz(I:Inv X pins σ H s):X.s₀.heap.objs.size≤s.heap.objs.size:=Nat.le_trans I.ok.above (Nat.le_of_lt I.lt)
theorem Inv.nofs(I:Inv X pins σ H s){a:Addr}(h:s.heap.objs.size≤a):a∉X.fs:=fun hb=>by
 obtain⟨_,o,ho,_⟩:=I.ok.funs.mem hb
 exact absurd (Nat.lt_of_lt_of_le (Heap.lt_size ho) (Nat.le_trans I.sz h)) (Nat.lt_irrefl _)
theorem Inv.cne(I:Inv X pins σ H s):∀x c,X.env.cells.lookup x=some c->c≠X.env.locals:=fun x c e z=>by
 obtain⟨v,o,ho,hd⟩:=I.cell x c e
 obtain⟨m,⟨o',es,ep,ho',hd',_⟩,_⟩:=I.loc
 rw[z,ho']at ho;cases ho;rw[hd']at hd;cases hd
theorem Inv.funs(I:Inv X pins σ H s):s.heap.FunFrames X.base X.outer:=by
  have all:∀(l:List Env),(∀b∈frs l,b∈X.fs)->X.s₀.heap.FunFrames X.base l->s.heap.FunFrames X.base l:=by
    intro l
    induction l with
    |nil=>intro _ _;trivial
    | cons env r ih =>
      intro hs hl
      obtain⟨hk,⟨L,o,hf,hn,ho,hd⟩,hr⟩:=hl
      have hL:L∈X.fs:=hs L (by unfold frs;rw[List.filterMap_cons,hf];exact List.mem_cons_self)
      obtain⟨sl,e⟩:=I.base.slot L o ho (I.ok.frf L hL) hL fun z=>I.ok.exfs L z hL
      exact⟨hk,⟨L,_,hf,hn,e,hd⟩,ih (fun b hb=>hs b (by unfold frs;rw[List.filterMap_cons,hf];exact List.mem_cons_of_mem _ hb)) hr⟩
  exact all X.outer (fun _ hb=>hb) I.ok.funs
theorem Inv.stack(I:Inv X pins σ H s):s.heap.FunFrames X.base X.stack:=by
 rcases I.ok.stk with e|⟨e,hf⟩
 ·rw[e];exact I.funs
 ·rw[e]
  obtain⟨m,hn,_⟩:=I.loc
  refine .cons (by rw[I.ok.kind];decide) hf hn ?_ I.funs
  exact Heap.get?_none_of_le (Nat.le_trans I.ok.bsz I.ok.above)
theorem Inv.stkSub(I:Inv X pins σ H s):∀b∈frs X.stack,b∈X.env.locals::X.fs:=fun b hb=>by
 rcases I.ok.stk with e|⟨e,hf⟩
 ·rw[e]at hb;exact List.mem_cons_of_mem _ hb
 ·rw[e]at hb
  unfold frs at hb
  rw[List.filterMap_cons,hf]at hb
  exact hb
theorem Inv.stkFree(I:Inv X pins σ H s):∀b∈frs X.stack,H b=none:=fun b hb=>by
 rcases List.mem_cons.mp (I.stkSub b hb)with e|hb
 ·rw[e];exact I.free
 ·obtain⟨_,o,ho,_⟩:=I.ok.funs.mem hb
  exact I.base.free b o ho (I.ok.frf b hb) fun z=>I.ok.exfs b z hb
theorem Inv.step{g':Array GenState}{t':Nat}{d':Drawn}{ch:List Addr}(I:Inv X pins σ H s)
  (hch:∀b∈ch,(b∈X.ex∨X.s₀.heap.objs.size≤b)/\b≠X.env.locals/\(∀x c,X.env.cells.lookup x=some c->c≠b)/\∀p∈X.pn++pins,p.1≠b)
  (keep:∀b o,b≠X.env.locals->b∉X.fs->b∉ch->s.heap.get? b=some o->H b=none->h'.get? b=some o)
  (slot:∀b o,b≠X.env.locals->b∈X.fs->b∉ch->s.heap.get? b=some o->H b=none->∃sl,h'.get? b=some {o with slots:=sl}) (free:∀b o,b∉ch->s.heap.get? b=some o->H b=none->H' b=none)
  (there:∀b o,b∉ch->s.heap.get? b=some o->∃o',h'.get? b=some o')
  (tups:∀b xs,H b=some (.tup xs)->H' b=some (.tup xs)) (frzs:∀b o u,H b=some (.frz o u)->H' b=some (.frz o u)) (tbls:∀b ps,H b=some (.tbl ps)->∃more,H' b=some (.tbl (ps++more)))
  (ns:∀m,s.heap.Ns X.env.locals m->h'.Ns X.env.locals m) (hok:HOk X.prog X.w H' h') (hg:AllBare g'):
  Inv X pins σ H' {s with heap:=h',gens:=g',drawn:=d',toks:=t'}:=by
 have neL:∀b o,X.s₀.heap.get? b=some o->b≠X.env.locals:=fun b o e=>Nat.ne_of_lt (Nat.lt_of_lt_of_le (Heap.lt_size e) I.ok.above)
 have neC:∀b o,X.s₀.heap.get? b=some o->b∉X.ex->b∉ch:=fun b o e hx hb=>by
  rcases(hch b hb).1 with z|z
  ·exact hx z
  ·exact absurd (Nat.lt_of_lt_of_le (Heap.lt_size e) z) (Nat.lt_irrefl _)
 have cellK:∀x c,X.env.cells.lookup x=some c->∀v,s.heap.IsCell c v->h'.IsCell c v:=fun x c e v ⟨o,ho,hd⟩=>by
  have nch:c∉ch:=fun z=>(hch c z).2.2.1 x c e rfl
  by_cases hc:c∈X.fs
  ·obtain⟨sl,q⟩:=slot c o (I.cne x c e) hc nch ho (I.freeC x c e)
   exact⟨_,q,hd⟩
  ·exact⟨o,keep c o (I.cne x c e) hc nch ho (I.freeC x c e),hd⟩
 refine⟨I.ok,I.os,hg,⟨fun b o e n hb hx=>?_,fun b o e n hb hx=>?_,fun b o e n hx=>?_,fun b o e hx=>?_,fun b xs e=>tups b xs (I.base.tups b xs e),fun b o xs e=>frzs b o xs (I.base.frzs b o xs e),fun b ps e=>?_⟩,?_,fun x c e=>?_,?_,fun x c e=>?_,fun p hp=>?_,hok,I.len⟩
 ·exact keep b o (neL b o e) hb (neC b o e hx) (I.base.keep b o e n hb hx) (I.base.free b o e n hx)
 ·obtain⟨sl,e1⟩:=I.base.slot b o e n hb hx
  obtain⟨sl',e2⟩:=slot b _ (neL b o e) hb (neC b o e hx) e1 (I.base.free b o e n hx)
  exact⟨sl',e2⟩
 ·obtain⟨o',e1⟩:=I.base.there b o e hx
  exact free b o' (neC b o e hx) e1 (I.base.free b o e n hx)
 ·obtain⟨o',e1⟩:=I.base.there b o e hx
  exact there b o' (neC b o e hx) e1
 ·obtain⟨m1,e1⟩:=I.base.tbls b ps e
  obtain⟨m2,e2⟩:=tbls b _ e1
  exact⟨m1++m2,by rw[e2,Array.append_assoc]⟩
 ·obtain⟨m,hn,hl⟩:=I.loc
  refine⟨m,ns m hn,fun i x v e1 e2 e3=>?_⟩
  obtain⟨u,r,l⟩:=hl i x v e1 e2 e3
  refine⟨u,r,?_⟩
  rcases l with l|⟨k,c,e,z⟩
  ·exact .inl l
  ·exact .inr ⟨k,c,e,cellK x c e _ z⟩
 ·obtain⟨v,z⟩:=I.cell x c e
  exact⟨v,cellK x c e v z⟩
 ·obtain⟨m,⟨o,_,_,ho,_⟩,_⟩:=I.loc
  exact free _ o (fun z=>(hch _ z).2.1 rfl) ho I.free
 ·obtain⟨v,o,ho,hd⟩:=I.cell x c e
  exact free c o (fun z=>(hch c z).2.2.1 x c e rfl) ho (I.freeC x c e)
 ·obtain⟨e,n,ne,nf,d⟩:=I.pin p hp
  have nch:p.1∉ch:=fun z=>(hch p.1 z).2.2.2 p hp rfl
  exact⟨keep p.1 p.2 ne nf nch e n,free p.1 p.2 nch e n,ne,nf,d⟩
theorem Inv.un{t':Nat}(I:Inv X pins σ H s)(u:Un X.fs [] H H' s.heap h')(hok:HOk X.prog X.w H' h'):Inv X pins σ H' {s with heap:=h',toks:=t'}:=by
 obtain⟨m,⟨o,es,ep,ho,r⟩,_⟩:=id I.loc
 obtain⟨sl,hL⟩:=u.any ho I.free (by simp)
 exact I.step (g':=s.gens) (d':=s.drawn) (ch:=[]) (fun _ z=>nomatch z) (fun b o _ hb _ e n=>u.keep b o e n hb (by simp)) (fun b o _ hb _ e n=>u.slot b o e n hb (by simp)) (fun b o _ e n=>u.free b o e n (by simp)) (fun b o _ e=>u.there b o e (by simp)) u.tups u.frzs u.tbls (fun m' hm=>by
  obtain⟨o',es',ep',ho',r'⟩:=hm
  rw[ho]at ho';cases ho'
  exact⟨_,es',ep',hL,r'⟩) hok I.bare
theorem Inv.call{g':Array GenState}{t':Nat}{d':Drawn}{ch:List Addr}(I:Inv X pins σ H s)(u:Un (frs X.stack) ch H H' s.heap h')(hok:HOk X.prog X.w H' h')(hg:AllBare g')
  (hch:∀b∈ch,(b∈X.ex∨X.s₀.heap.objs.size≤b)/\b≠X.env.locals/\(∀x c,X.env.cells.lookup x=some c->c≠b)/\∀p∈X.pn++pins,p.1≠b):
  Inv X pins σ H' {s with heap:=h',gens:=g',drawn:=d',toks:=t'}:=by
 obtain⟨m,⟨o,es,ep,ho,r⟩,_⟩:=id I.loc
 obtain⟨sl,hL⟩:=u.any ho I.free fun z=>(hch _ z).2.1 rfl
 exact I.step (ch:=ch) hch (fun b o hL hb hc e n=>u.keep b o e n (fun z=>(List.mem_cons.mp (I.stkSub b z)).elim hL hb) hc) (fun b o _ _ hc e n=>u.any e n hc) (fun b o hc e n=>u.free b o e n hc) (fun b o hc e=>u.there b o e hc) u.tups u.frzs u.tbls (fun m' hm=>by
  obtain⟨o',es',ep',ho',r'⟩:=hm
  rw[ho]at ho';cases ho'
  exact⟨_,es',ep',hL,r'⟩) hok hg
theorem Inv.turned{t':Nat}{it:Addr}(I:Inv X pins σ H s)(k:∀b o,b≠it->s.heap.get? b=some o->h'.get? b=some o)(hn:H it=none)(hL:it≠X.env.locals)
  (h1:it∈X.ex∨X.s₀.heap.objs.size≤it) (h2:∀x c,X.env.cells.lookup x=some c->c≠it) (h3:∀p∈X.pn++pins,p.1≠it):Inv X pins σ H {s with heap:=h',toks:=t'}:=by
 have nit:∀b u,H b=some u->b≠it:=fun b u e z=>by rw[z,hn]at e;cases e
 refine I.step (g':=s.gens) (d':=s.drawn) (ch:=[it]) (fun b hb=>?_) (fun b o _ _ hc e _=>k b o (fun z=>hc (by simp[z])) e) (fun b o _ _ hc e _=>⟨o.slots,k b o (fun z=>hc (by simp[z])) e⟩) (fun _ _ _ _ n=>n)
  (fun b o hc e=>⟨o,k b o (fun z=>hc (by simp[z])) e⟩) (fun _ _ e=>e) (fun _ _ _ e=>e) (fun b ps e=>⟨#[],by rw[e];simp⟩) (fun m hm=>?_) (fun b u e=>?_) I.bare
 ·have e:b=it:=by simpa using hb
  subst e
  exact⟨h1,hL,h2,h3⟩
 ·obtain⟨o,es,ep,ho,r⟩:=hm
  exact⟨o,es,ep,k _ o (Ne.symm hL) ho,r⟩
 ·refine(I.hok b u e).stay (fun c v hc q=>k c v ?_ q) (fun _ q=>q) fun _ _ q=>q
  rcases hc with z|z
  ·rw[z];exact nit b u e
  ·exact nit c _ z
theorem Inv.tok(I:Inv X pins σ H s)(t:Nat):Inv X pins σ H {s with toks:=t}:=I.un (h':=s.heap) (t':=t) Un.refl I.hok
theorem Inv.kept{t':Nat}(I:Inv X pins σ H s)(k:∀b u,s.heap.get? b=some u->h'.get? b=some u):Inv X pins σ H {s with heap:=h',toks:=t'}:=I.un (Un.kept k) (I.hok.kept k)
theorem Inv.laid{a:Addr}{o:HO}{t':Nat}(I:Inv X pins σ H s)(k:∀b u,s.heap.get? b=some u->h'.get? b=some u)(hp:s.heap.objs.size≤a)(new:F9 X.prog X.w (upd H a o) h' a o):
  Inv X pins σ (upd H a o) {s with heap:=h',toks:=t'}:=I.un (Un.laid k hp (I.hok.fresh hp)) (I.hok.laid k hp new)
theorem Inv.write{x e:Addr}{o:HO}{t':Nat}(I:Inv X pins σ H s)(mu:Mut (H x))(he:e=x∨H e=some (.own x))(k:∀b u,b≠e->s.heap.get? b=some u->h'.get? b=some u)(heo:∃u,h'.get? e=some u)
  (new:F9 X.prog X.w (upd H x o) h' x o):Inv X pins σ (upd H x o) {s with heap:=h',toks:=t'}:=I.un (Un.write mu he k heo) (I.hok.write mu he k heo new)
theorem Inv.pins_of{pins':List (Addr×Obj)}(I:Inv X pins σ H s)(h:∀p∈pins',s.heap.get? p.1=some p.2/\H p.1=none/\p.1≠X.env.locals/\p.1∉X.fs/\∀v,p.2.data≠.cell v):Inv X pins' σ H s:=
 ⟨I.ok,I.os,I.bare,I.base,I.loc,I.cell,I.free,I.freeC,fun p hp=>(List.mem_append.mp hp).elim (fun z=>I.pin p (List.mem_append_left _ z)) (h p),I.hok,I.len⟩
theorem QJ{N:List Str}(hN:N.Nodup){i j:Nat}{x:Str}(a:N[i]?=some x)(b:N[j]?=some x):i=j:=by
 obtain⟨h1,e1⟩:=List.getElem?_eq_some_iff.mp a
 obtain⟨h2,e2⟩:=List.getElem?_eq_some_iff.mp b
 exact(List.getElem_inj hN).mp (e1.trans e2.symm)
theorem Of{M:Model}{A:Around}{E:Value->Shared->Prop}{i:Nat}{x:Str}{v:V}{u:Value}{Q:Unit->Shared->Prop}(I:Inv X pins σ H s)(hN:X.N.Nodup)(hi:X.N[i]?=some x)(hx:Loc X.env.scope x)(r:RelV v u)
  (h:∀s',Inv X pins (σ.set i (some v)) H s'->(∃a,Heap.SameBut a s.heap s'.heap/\(a=X.env.locals∨X.env.cells.lookup x=some a))->Q () s') (hf:X.fn x=true∨X.env.scope.names.lookup x=some .local:=by first|exact .inl rfl|exact .inr rfl|assumption):wpAny M A (storeName X.env x u) Q E s:=by
 obtain⟨m,hn,hl⟩:=id I.loc
 have hcls:(X.env.scope.kind== .class||(X.env.scope.kind== .module && X.env.locals !=X.env.globals))=false:=by rw[I.ok.kind];rfl
 have hiσ:i<σ.length:=by rw[I.len];exact(List.getElem?_eq_some_iff.mp hi).1
 have cne:=I.cne
 have tracked:∀{a:Addr} {h':Heap},(∃o,s.heap.get? a=some o/\H a=none)->Heap.SameBut a s.heap h'->HOk X.prog X.w H h':=fun{a h'} ha hs b ob e=>by
  obtain⟨_,_,hfree⟩:=ha
  refine(I.hok b ob e).stay (fun c w' hc q=>(hs.2 c ?_).trans q) (fun _ q=>q) fun _ _ q=>q
  rintro rfl
  rcases hc with rfl|hc
  ·rw[hfree]at e;cases e
  ·rw[hfree]at hc;cases hc
 rcases hx with hk|hk
 ·refine wpAny_storeName_local hk hn (fun h' hn' hs=>?_) hcls
  obtain⟨oL,_,_,hoL,_⟩:=id hn
  refine h _ ⟨I.ok,I.os,I.bare,⟨fun b o e n hb hx=>?_,fun b o e n hb hx=>?_,I.base.free,fun b o e hx=>?_,I.base.tups,I.base.frzs,I.base.tbls⟩,⟨_,hn',fun j y v' e1 e2 e3=>?_⟩,fun y c e=>?_,I.free,I.freeC,fun p hp=>?_,tracked ⟨oL,hoL,I.free⟩ hs,by simpa using I.len⟩ ⟨_,hs,.inl rfl⟩
  ·exact(hs.2 b (Nat.ne_of_lt (Nat.lt_of_lt_of_le (Heap.lt_size e) I.ok.above))).trans (I.base.keep b o e n hb hx)
  ·obtain⟨sl,e1⟩:=I.base.slot b o e n hb hx
   exact⟨sl,(hs.2 b (Nat.ne_of_lt (Nat.lt_of_lt_of_le (Heap.lt_size e) I.ok.above))).trans e1⟩
  ·obtain⟨o',e1⟩:=I.base.there b o e hx
   exact⟨o',(hs.2 b (Nat.ne_of_lt (Nat.lt_of_lt_of_le (Heap.lt_size e) I.ok.above))).trans e1⟩
  ·by_cases hj:j=i
   ·subst hj
    rw[hi]at e1;cases e1
    rw[List.getElem?_set_self hiσ]at e2
    cases e2
    exact⟨u,r,.inl ⟨hk,by simp⟩⟩
   ·rw[List.getElem?_set_ne (Ne.symm hj)]at e2
    obtain⟨u',r',q⟩:=hl j y v' e1 e2 e3
    refine⟨u',r',?_⟩
    rcases q with⟨k,e⟩|⟨k,c,e,z⟩
    ·refine .inl ⟨k,?_⟩
     have:y≠x:=fun e=>hj (QJ hN e1 (e▸hi))
     simp[this,e]
    ·exact .inr ⟨k,c,e,z.sameBut hs (cne y c e)⟩
  ·obtain⟨w',z⟩:=I.cell y c e
   exact⟨w',z.sameBut hs (cne y c e)⟩
  ·obtain⟨e,n,ne,nf,d⟩:=I.pin p hp
   exact⟨(hs.2 p.1 ne).trans e,n,ne,nf,d⟩
 ·have hfn:X.fn x=true:=by
   rcases hf with z|z
   ·exact z
   ·rw[z]at hk;cases hk
  obtain⟨c,hc⟩:=I.ok.has x (.inl hk)
  obtain⟨w',z⟩:=I.cell x c hc
  refine wpAny_storeName_cell I.ok.kind hk hc z (fun h' hc' hs=>?_)
  obtain⟨oc,hoc,hocd⟩:=id z
  refine h {s with heap:=h'} ⟨I.ok,I.os,I.bare,⟨fun b o e n hb hx=>?_,fun b o e n hb hx=>?_,I.base.free,fun b o e hx=>?_,I.base.tups,I.base.frzs,I.base.tbls⟩,⟨m,hn.sameBut hs (Ne.symm (cne x c hc)),fun j y v' e1 e2 e3=>?_⟩,fun y c' e=>?_,I.free,I.freeC,fun p hp=>?_,tracked ⟨oc,hoc,I.freeC x c hc⟩ hs,by simpa using I.len⟩ ⟨c,hs,.inr hc⟩
  ·exact(hs.2 b (Nat.ne_of_lt (Nat.lt_of_lt_of_le (Heap.lt_size e) (I.ok.cab x c hfn hc)))).trans (I.base.keep b o e n hb hx)
  ·obtain⟨sl,e1⟩:=I.base.slot b o e n hb hx
   exact⟨sl,(hs.2 b (Nat.ne_of_lt (Nat.lt_of_lt_of_le (Heap.lt_size e) (I.ok.cab x c hfn hc)))).trans e1⟩
  ·obtain⟨o',e1⟩:=I.base.there b o e hx
   exact⟨o',(hs.2 b (Nat.ne_of_lt (Nat.lt_of_lt_of_le (Heap.lt_size e) (I.ok.cab x c hfn hc)))).trans e1⟩
  ·by_cases hj:j=i
   ·subst hj
    rw[hi]at e1;cases e1
    rw[List.getElem?_set_self hiσ]at e2
    cases e2
    exact⟨u,r,.inr ⟨.inl hk,c,hc,hc'⟩⟩
   ·rw[List.getElem?_set_ne (Ne.symm hj)]at e2
    obtain⟨u',r',q⟩:=hl j y v' e1 e2 e3
    refine⟨u',r',?_⟩
    rcases q with q|⟨k,c',e,z'⟩
    ·exact .inl q
    ·refine .inr ⟨k,c',e,z'.sameBut hs ?_⟩
     rintro rfl
     exact hj (QJ hN e1 (I.ok.inj _ _ _ e hc▸hi))
  ·by_cases hcc:c'=c
   ·subst hcc;exact⟨_,hc'⟩
   ·obtain⟨w2,z2⟩:=I.cell y c' e
    exact⟨w2,z2.sameBut hs hcc⟩
  ·obtain⟨e,n,ne,nf,d⟩:=I.pin p hp
   refine⟨(hs.2 p.1 ?_).trans e,n,ne,nf,d⟩
   intro q
   rw[q,hoc]at e
   have q':oc=p.2:=Option.some.inj e
   exact d w' (by rw[←q'];exact hocd)
theorem Kc{M:Model}{A:Around}{E:Value->Shared->Prop}{i:Nat}{x:Str}{v:V}{u:Value}{Q:Unit->Shared->Prop}(I:Inv X pins σ H s)(hN:X.N.Nodup)(hi:X.N[i]?=some x)(hx:Loc X.env.scope x)(r:RelV v u)
  (h:∀s',Inv X pins (σ.set i (some v)) H s'->Q () s') (hf:X.fn x=true∨X.env.scope.names.lookup x=some .local:=by first|exact .inl rfl|exact .inr rfl|assumption):wpAny M A (storeName X.env x u) Q E s:=
 Of I hN hi hx r (fun s' I' _=>h s' I') hf
theorem Inv.call'{s':Shared}{ch:List Addr}(I:Inv X pins σ H s)(ho:s'.os=s.os)(u:Un (frs X.stack) ch H H' s.heap s'.heap)(hok:HOk X.prog X.w H' s'.heap)(hg:AllBare s'.gens)
  (hch:∀b∈ch,(b∈X.ex∨X.s₀.heap.objs.size≤b)/\b≠X.env.locals/\(∀x c,X.env.cells.lookup x=some c->c≠b)/\∀p∈X.pn++pins,p.1≠b):Inv X pins σ H' s':=by
 obtain⟨h',g',d',t',o'⟩:=s'
 have e:o'=s.os:=ho
 subst e
 exact I.call (g':=g') (t':=t') (d':=d') u hok hg hch
end
abbrev XK:=Value->Option Addr->Hp->Prop
abbrev St:=List (Option V)
abbrev VK:=V->Hp->Prop
abbrev TE:=St->Hp->VK->Prop
abbrev TT:=St->Hp->(Bool->Hp->Prop)->Prop
abbrev TA:=St->Hp->(List V->Hp->Prop)->Prop
structure Ends where
 nx:St->Hp->Prop
 rt:VK
 bk:St->Hp->Prop:=fun _ _=>False
 ct:St->Hp->Prop:=fun _ _=>False
abbrev TS:=Ends->St->Hp->Prop
def EP(X:Cx)(pins:List (Addr×Obj))(σ:St)(Q:VK)(u:Value)(s':Shared):Prop:=∃v H',Inv X pins σ H' s'/\RelV v u/\Q v H'
def TP(X:Cx)(pins:List (Addr×Obj))(σ:St)(Q:Bool->Hp->Prop)(b:Bool)(s':Shared):Prop:=∃H',Inv X pins σ H' s'/\Q b H'
def AP(X:Cx)(pins:List (Addr×Obj))(σ:St)(Q:List V->Hp->Prop)(us:List Value)(s':Shared):Prop:=∃vs H',Inv X pins σ H' s'/\Vals vs us/\Q vs H'
def SP(X:Cx)(pins:List (Addr×Obj))(D:Ends)(f:Flow)(s':Shared):Prop:=
 match f with
 | .next=>∃σ' H',Inv X pins σ' H' s'/\D.nx σ' H'
 | .brk=>∃σ' H',Inv X pins σ' H' s'/\D.bk σ' H'
 | .cont=>∃σ' H',Inv X pins σ' H' s'/\D.ct σ' H'
 | .ret u=>∃v σ' H',Inv X pins σ' H' s'/\RelV v u/\D.rt v H'
def PE(X:Cx)(e:Expr)(t:TE):Prop:=
 ∀(pins:List (Addr×Obj)) (s:Shared) (σ:St) (H:Hp) (Q:VK),Inv X pins σ H s->t σ H Q->wpAny (model X.prog X.w) X.A (eval e X.env) (EP X pins σ Q) X.xe s
def PT(X:Cx)(e:Expr)(t:TT):Prop:=
 ∀(pins:List (Addr×Obj)) (s:Shared) (σ:St) (H:Hp) (Q:Bool->Hp->Prop),Inv X pins σ H s->t σ H Q->wpAny (model X.prog X.w) X.A (isTrue e X.env (eval e X.env)) (TP X pins σ Q) X.xe s
def PW(X:Cx)(e:Expr)(t:TT):Prop:=
 ∀(whole:Sem Value) (pins:List (Addr×Obj)) (s:Shared) (σ:St) (H:Hp) (Q:Bool->Hp->Prop),Inv X pins σ H s->t σ H Q->wpAny (model X.prog X.w) X.A (isTrue e X.env whole) (TP X pins σ Q) X.xe s
theorem PW.pt{X:Cx}{e:Expr}{t:TT}(h:PW X e t):PT X e t:=h _
def PA(X:Cx)(es:List Expr)(t:TA):Prop:=
 ∀(pos:Pos) (pins:List (Addr×Obj)) (s:Shared) (σ:St) (H:Hp) (Q:List V->Hp->Prop),Inv X pins σ H s->t σ H Q->wpAny (model X.prog X.w) X.A (spliced (backTo pos (starEach es X.env))) (AP X pins σ Q) X.xe s
def PS(X:Cx)(st:Stmt)(t:TS):Prop:=
 ∀(pins:List (Addr×Obj)) (s:Shared) (σ:St) (H:Hp) (D:Ends),Inv X pins σ H s->t D σ H->wpAny (model X.prog X.w) X.A (exec st X.env) (SP X pins D) X.xe s
def PSs(X:Cx)(st:List Stmt)(t:TS):Prop:=
 ∀(pins:List (Addr×Obj)) (s:Shared) (σ:St) (H:Hp) (D:Ends),Inv X pins σ H s->t D σ H->wpAny (model X.prog X.w) X.A (execs st X.env) (SP X pins D) X.xe s
theorem thn{α:Type}{t:Sem α}{Q Q':α->Shared->Prop}{M:Model}{A:Around}{E:Value->Shared->Prop}{s:Shared}(h:wpAny M A t Q E s)(hQ:∀a s,Q a s->Q' a s):wpAny M A t Q' E s:=wpAny_mono h hQ fun _ _ x=>x
end L2
namespace L2
open PySem PySem.Spec PyProof.Rows
section
variable{X:Cx}
noncomputable def gY(i:Nat):TE:=fun σ H Q=>∃v,σ[i]?=some (some v)/\Q v H
noncomputable def tC(v:V):TE:=fun _ H Q=>Q v H
theorem aK{i:Nat}{x:Str}{pos:Pos}(hN:X.N[i]?=some x)(hv:Vis X.env.scope x)(hd:(x==("__debug__":Str))=false:=by decide)(hcd:(x==("__classdict__":Str))=false:=by decide):PE X (.Name x pos) (gY i):=by
 intro pins s σ H Q I h
 obtain⟨v,e,h⟩:=h
 obtain⟨m,hn,hl⟩:=I.loc
 obtain⟨u,r,l⟩:=hl i x v hN e hv
 have fin:EP X pins σ Q u s:=⟨v,H,I,r,h⟩
 rcases l with⟨hk,hm⟩|⟨hk,c,hc,hcell⟩
 ·exact wpAny_Name (wpAny_loadName_local I.ok.kind hk hn hm fin) hd
 ·rcases hk with hk|hk
  ·exact wpAny_Name (wpAny_loadName_cell I.ok.kind hk hc hcell fin) hd
  ·exact wpAny_Name (wpAny_loadName_free I.ok.kind hk hc hcell fin hcd) hd
theorem Z3{i j pos}:PE X (.Constant (.int i) j pos) (tC (.int i)):=fun _ _ _ H _ I h=>wpAny_Constant_int ⟨.int i,H,I.tok _,⟨_,rfl⟩,h⟩
theorem eM{b j pos}:PE X (.Constant (.bool b) j pos) (tC (.bl b)):=fun _ _ _ H _ I h=>Constant_bool ⟨.bl b,H,I,rfl,h⟩
theorem ZE{j pos}:PE X (.Constant .none j pos) (tC .non):=fun _ _ _ H _ I h=>Constant_none ⟨.non,H,I,rfl,h⟩
theorem ZT{x j pos}:PE X (.Constant (.str x) j pos) (tC (.str x)):=fun _ _ _ H _ I h=>Calls.Constant_str ⟨.str x,H,I.tok _,⟨_,rfl⟩,h⟩
def Gl(X:Cx)(x:Str):Prop:=X.env.kindOf x=some .globalImplicit
theorem SG{E:Value->Shared->Prop}{pins:List (Addr×Obj)}{s:Shared}{σ:St}{H:Hp}{x:Str}{u:Value}{pos:Pos}{Q:Value->Shared->Prop}(I:Inv X pins σ H s)(hg:Gl X x)(hm:X.mg x=some u)(h:Q u s)
  (hd:(x==("__debug__":Str))=false:=by decide):wpAny (model X.prog X.w) X.A (eval (.Name x pos) X.env) Q E s:=
 Calls.Name_function_global I.ok.kind hg (Calls.loadGlobal_global (by rw[I.ok.glob];exact I.mod.glob.keeps I.bk) hm h) hd
theorem J0{E:Value->Shared->Prop}{pins:List (Addr×Obj)}{s:Shared}{σ:St}{H:Hp}{x:Str}{u:Value}{pos:Pos}{Q:Value->Shared->Prop}(I:Inv X pins σ H s)(hg:Gl X x)(hm:X.mg x=none)(hv:bootBuiltins x=some u)(h:Q u s)
  (hn:x≠ "__name__":=by decide) (hd:(x==("__debug__":Str))=false:=by decide):wpAny (model X.prog X.w) X.A (eval (.Name x pos) X.env) Q E s:=by
 obtain⟨mb,h1,h2⟩:=I.mod.blt
 exact Calls.Name_function_global I.ok.kind hg (Calls.loadGlobal_builtin (by rw[I.ok.glob];exact I.mod.glob.keeps I.bk) hm (by rw[I.ok.blt];exact h1.keeps I.bk) ((h2 x hn).trans hv) h) hd
theorem YC{x:Str}{v:V}{u:Value}{pos:Pos}(hg:Gl X x)(hm:X.mg x=some u)(r:RelV v u)(hd:(x==("__debug__":Str))=false:=by decide):PE X (.Name x pos) (tC v):=
 fun _ _ _ H _ I h=>SG I hg hm ⟨v,H,I,r,h⟩ hd
theorem XC{x:Str}{v:V}{u:Value}{pos:Pos}(hg:Gl X x)(hm:X.mg x=none)(hv:bootBuiltins x=some u)(r:RelV v u)(hn:x≠ "__name__":=by decide)(hd:(x==("__debug__":Str))=false:=by decide):PE X (.Name x pos) (tC v):=
 fun _ _ _ H _ I h=>J0 I hg hm hv ⟨v,H,I,r,h⟩ hn hd
variable{a b:Expr}{ta tb:TE}{pos:Pos}
def PC(X:Cx)(op:CmpOp)(a b:Expr)(t:TE):Prop:=
 ∀ (pins : List (Addr × Obj)) (s : Shared) (σ : St) (H : Hp) (Q : VK), Inv X pins σ H s -> t σ H Q ->
  wpAny (model X.prog X.w) X.A (eval a X.env) (fun v s₁=>wpAny (model X.prog X.w) X.A (eval b X.env) (fun u s₂=>wpAny (model X.prog X.w) X.A (compareOp op v u) (EP X pins σ Q) X.xe s₂) X.xe s₁) X.xe s
noncomputable def tB(t:TE):TT:=fun σ H Q=>t σ H fun x H1=>∃c,x=.bl c/\Q c H1
theorem ZH{e:Expr}{t:TE}(h:PE X e t)(he:∀whole,isTrue e X.env whole=(do let v←whole;standAt e.pos;holding [v] (truthy v)):=by intro _;rfl):PT X e (tB t):=by
 intro pins s σ H Q I hw
 refine isTrue_plain (thn (h pins s σ H _ I hw) fun v s1 ⟨x,H1,I1,r1,q1⟩=>?_) (he _)
 obtain⟨d,rfl,q⟩:=q1
 cases r1
 exact wpAny_truthy_bool ⟨H1,I1,q⟩
variable{tA tB':TT}{rest:List Expr}
noncomputable def iB(t u:TT):TT:=fun σ H Q=>t σ H fun c H1=>if c=true then u σ H1 Q else Q false H1
noncomputable def tOr(t u:TT):TT:=fun σ H Q=>t σ H fun c H1=>if c=true then Q true H1 else u σ H1 Q
noncomputable def gF(t:TT):TT:=fun σ H Q=>t σ H fun c H1=>Q (!c) H1
theorem X7(ha:PT X a tA):PW X (.BoolOp .And [a] pos) tA:=by
 intro wh pins s σ H Q I h
 refine isTrue_and (thn (ha pins s σ H Q I h) fun c s1 e=>?_)
 cases c with
 |true=>exact isTrue_and_nil e
 |false=>exact e
theorem Zs(ha:PT X a tA):PW X (.BoolOp .Or [a] pos) tA:=by
 intro wh pins s σ H Q I h
 refine isTrue_or (thn (ha pins s σ H Q I h) fun c s1 e=>?_)
 cases c with
 |false=>exact isTrue_or_nil e
 |true=>exact e
theorem ZX(ha:PT X a tA)(hb:PW X (.BoolOp .And (b::rest) pos) tB'):PW X (.BoolOp .And (a::b::rest) pos) (iB tA tB'):=by
 intro wh pins s σ H Q I h
 refine isTrue_and (thn (ha pins s σ H _ I h) fun c s1 ⟨H1,I1,q1⟩=>?_)
 cases c with
 |true=>exact hb wh pins s1 σ H1 Q I1 q1
 |false=>exact⟨H1,I1,q1⟩
theorem dm(ha:PT X a tA)(hb:PW X (.BoolOp .Or (b::rest) pos) tB'):PW X (.BoolOp .Or (a::b::rest) pos) (tOr tA tB'):=by
 intro wh pins s σ H Q I h
 refine isTrue_or (thn (ha pins s σ H _ I h) fun c s1 ⟨H1,I1,q1⟩=>?_)
 cases c with
 |true=>exact⟨H1,I1,q1⟩
 |false=>exact hb wh pins s1 σ H1 Q I1 q1
theorem Zp(ha:PT X a tA):PT X (.UnaryOp .Not a pos) (gF tA):=by
 intro pins s σ H Q I h
 exact isTrue_not (ha pins s σ H (fun c H1=>Q (!c) H1) I h)
noncomputable def dO(ta tb:TE):TE:=fun σ H Q=>ta σ H fun x H1=>∃c,x=.bl c/\if c=true then tb σ H1 Q else Q (.bl false) H1
noncomputable def dk(ta:TE):TE:=fun σ H Q=>ta σ H fun x H1=>∃c,x=.bl c/\Q (.bl (!c)) H1
theorem ZF{op}{t:TE}(h:PE X a t):PE X (.BoolOp op [a] pos) t:=fun pins s σ H Q I hw=>BoolOp_one (h pins s σ H Q I hw)
theorem Z9(ha:PE X a ta)(hb:PE X (.BoolOp .And (b::rest) pos) tb):PE X (.BoolOp .And (a::b::rest) pos) (dO ta tb):=by
 intro pins s σ H Q I h
 refine BoolOp_and (thn (ha pins s σ H _ I h) fun v s1 ⟨x,H1,I1,r1,q1⟩=>?_)
 obtain⟨c,rfl,q1⟩:=q1
 cases r1
 refine wpAny_truthy_bool ?_
 cases c with
 |true=>exact hb pins s1 σ H1 Q I1 q1
 |false=>exact⟨.bl false,H1,I1,rfl,q1⟩
theorem Zh(ha:PE X a ta):PE X (.UnaryOp .Not a pos) (dk ta):=by
 intro pins s σ H Q I h
 refine UnaryOp_ (thn (ha pins s σ H _ I h) fun v s1 ⟨x,H1,I1,r1,q1⟩=>?_)
 obtain⟨c,rfl,q1⟩:=q1
 cases r1
 exact not_of (wpAny_truthy_bool ⟨.bl (!c),H1,I1,rfl,q1⟩)
noncomputable def tIf(t:TT)(ta tb:TE):TE:=fun σ H Q=>t σ H fun c H1=>if c=true then ta σ H1 Q else tb σ H1 Q
theorem Ub{c:Expr}(hc:PT X c tA)(ha:PE X a ta)(hb:PE X b tb):PE X (.IfExp c a b pos) (tIf tA ta tb):=by
 intro pins s σ H Q I h
 refine wpAny_IfExp (thn (hc pins s σ H _ I h) fun d s1 ⟨H1,I1,q1⟩=>?_)
 cases d with
 |true=>exact ha pins s1 σ H1 Q I1 q1
 |false=>exact hb pins s1 σ H1 Q I1 q1
end
end L2
namespace L2
open PySem PySem.Spec PyProof.Rows
def SqL(K:PySem.W.Frag)(H:Hp)(a:Addr)(xs:List V):Prop:=
 Rd H a (.lst xs)∨
  ∃(o:Obj) (its:Array Value) (n:Nat),K.lookup a=some o/\o.cls=.type "list" /\o.dict=none/\o.data=.seq its n/\its.size≤sizeLine/\Vals xs its.toList
def SqT(K:PySem.W.Frag)(H:Hp)(a:Addr)(xs:List V):Prop:=
 Rd H a (.tup xs)∨
  ∃(o:Obj) (its:Array Value) (n:Nat),K.lookup a=some o/\o.cls=.type "tuple" /\o.data=.seq its n/\its.size≤sizeLine/\Vals xs its.toList
noncomputable def gG:Value->Option V
 | .none=>some .non
 | .bool b=>some (.bl b)
 | .int i _=>some (.int i)
 | .str x _=>some (.str x)
 | .bytes b _=>some (.byt b)
 | .float b _=>some (.flt b)
 | .ref a=>some (.ref a)
 | .type n=>some (.ty n)
 |_=>none
theorem RelV.abs{x:V}{u:Value}(r:RelV x u):gG u=some x:=by
 cases x with
 |non=>cases r;rfl
 |bl _=>cases r;rfl
 |int _=>obtain⟨t,rfl⟩:=r;rfl
 |str _=>obtain⟨t,rfl⟩:=r;rfl
 |byt _=>obtain⟨t,rfl⟩:=r;rfl
 |flt _=>obtain⟨t,rfl⟩:=r;rfl
 |ref _=>cases r;rfl
 |ty _=>cases r;rfl
theorem RelV.inj{x y:V}{u:Value}(r:RelV x u)(q:RelV y u):x=y:=Option.some.inj (r.abs.symm.trans q.abs)
theorem Vals.inj:∀{xs ys:List V} {us:List Value},Vals xs us->Vals ys us->xs=ys
 |_,_,_,.nil,.nil=>rfl
 |_,_,_,.cons r t,.cons r' t'=>by rw[r.inj r',Vals.inj t t']
section
variable{X:Cx}{pins:List (Addr×Obj)}{σ:St}{H:Hp}{s:Shared}{a:Addr}{xs ys:List V}
theorem SqL.of{K:PySem.W.Frag}(h:H a=some (.lst xs)):SqL K H a xs:=.inl (.inl h)
theorem SqT.of{K:PySem.W.Frag}(h:H a=some (.tup xs)):SqT K H a xs:=.inl (.inl h)
theorem Inv.list(I:Inv X pins σ H s)(h:SqL X.K H a xs):∃its:List Value,Vals xs its/\PlainL s.heap a its.toArray/\xs.length≤sizeLine:=by
 rcases h with h|⟨o,its,n,hk,hc,hd,hs,hz,r⟩
 ·obtain⟨z,its,n,r,e⟩:=h.ok I.hok
  exact⟨its,r,⟨_,n,e,rfl,rfl,rfl⟩,z⟩
 ·refine⟨its.toList,r,⟨o,n,I.kIn a o hk,hc,hd,by simpa using hs⟩,?_⟩
  have e:=r.length
  simp only[Array.length_toList]at e
  omega
theorem Inv.tuple(I:Inv X pins σ H s)(h:SqT X.K H a xs):∃its:List Value,Vals xs its/\IsTup s.heap a its.toArray/\xs.length≤sizeLine:=by
 rcases h with h|⟨o,its,n,hk,hc,hs,hz,r⟩
 ·obtain⟨z,its,r,p⟩:=h.ok I.hok
  exact⟨its,r,p,z⟩
 ·refine⟨its.toList,r,⟨o,I.kIn a o hk,hc,n,by simpa using hs⟩,?_⟩
  have e:=r.length
  simp only[Array.length_toList]at e
  omega
theorem Inv.list_inj(I:Inv X pins σ H s)(h:SqL X.K H a xs)(h':SqL X.K H a ys):xs=ys:=by
 obtain⟨its,r,⟨o,n,e,_,_,d⟩,_⟩:=I.list h
 obtain⟨its',r',⟨o',n',e',_,_,d'⟩,_⟩:=I.list h'
 rw[e]at e';cases e'
 rw[d]at d'
 injection d' with d1 _
 have:its=its':=by simpa using congrArg Array.toList d1
 subst this
 exact r.inj r'
theorem Inv.tuple_inj(I:Inv X pins σ H s)(h:SqT X.K H a xs)(h':SqT X.K H a ys):xs=ys:=by
 obtain⟨its,r,⟨o,e,_,n,d⟩,_⟩:=I.tuple h
 obtain⟨its',r',⟨o',e',_,n',d'⟩,_⟩:=I.tuple h'
 rw[e]at e';cases e'
 rw[d]at d'
 injection d' with d1 _
 have:its=its':=by simpa using congrArg Array.toList d1
 subst this
 exact r.inj r'
end
abbrev Cx.wish(X:Cx)(E:Value->Shared->Prop):Cx:={X with xe:=E}
abbrev Cx.nox(X:Cx):Cx:=X.wish fun _ _=>False
theorem Cx.Ok.wish{X:Cx}(ok:X.Ok)(E:Value->Shared->Prop):(X.wish E).Ok:=
 ⟨ok.mod,ok.kind,ok.glob,ok.blt,ok.above,ok.inj,ok.has,ok.cab,ok.hd,ok.frames,ok.stk,ok.exf,ok.bs,ok.bsz,ok.noex,ok.exfs,ok.funs,ok.frf⟩
theorem Cx.Ok.unwish{X:Cx}{E:Value->Shared->Prop}(ok:(X.wish E).Ok):X.Ok:=
 ⟨ok.mod,ok.kind,ok.glob,ok.blt,ok.above,ok.inj,ok.has,ok.cab,ok.hd,ok.frames,ok.stk,ok.exf,ok.bs,ok.bsz,ok.noex,ok.exfs,ok.funs,ok.frf⟩
section
variable{X:Cx}{pins:List (Addr×Obj)}{σ:St}{H:Hp}{s:Shared}{E:Value->Shared->Prop}
theorem Inv.wish(I:Inv X pins σ H s)(E:Value->Shared->Prop):Inv (X.wish E) pins σ H s:=⟨I.ok.wish E,I.os,I.bare,I.base,I.loc,I.cell,I.free,I.freeC,I.pin,I.hok,I.len⟩
theorem Inv.unwish(I:Inv (X.wish E) pins σ H s):Inv X pins σ H s:=⟨I.ok.unwish,I.os,I.bare,I.base,I.loc,I.cell,I.free,I.freeC,I.pin,I.hok,I.len⟩
theorem SP.unwish{D:Ends}{f:Flow}{s':Shared}(h:SP (X.wish E) pins D f s'):SP X pins D f s':=by
 cases f with
 |next=>obtain⟨σ',H',I,q⟩:=h;exact⟨σ',H',I.unwish,q⟩
 |brk=>obtain⟨σ',H',I,q⟩:=h;exact⟨σ',H',I.unwish,q⟩
 |cont=>obtain⟨σ',H',I,q⟩:=h;exact⟨σ',H',I.unwish,q⟩
 |ret u=>obtain⟨v,σ',H',I,r,q⟩:=h;exact⟨v,σ',H',I.unwish,r,q⟩
theorem PSs.nox{st:List Stmt}{t:TS}(h:PSs X.nox st t):PSs X st t:=fun pins s σ H D I hw=>
 wpAny_mono (h pins s σ H D (I.wish _) hw) (fun _ _ q=>q.unwish) fun _ _ z=>False.elim z
end
section
variable{X:Cx}{st:Stmt}{rest:List Stmt}{t u:TS}{e:Expr}{te:TE}{pos:Pos}
noncomputable def c9:TS:=fun D σ H=>D.nx σ H
noncomputable def gn(t u:TS):TS:=fun D σ H=>t {D with nx:=u D} σ H
theorem Xj:PSs X [] c9:=fun _ _ σ H _ I h=>wpAny_execs_nil ⟨σ,H,I,h⟩
theorem Uo(h1:PS X st t)(h2:PSs X rest u):PSs X (st::rest) (gn t u):=by
  intro pins s σ H D I h
  refine wpAny_execs_cons (thn (h1 pins s σ H {D with nx:=u D} I h) fun f s1 q=>?_)
  cases f with
  | next =>
    obtain⟨σ',H',I',q⟩:=q
    exact h2 pins s1 σ' H' D I' q
  |ret v=>exact q
  |brk=>exact q
  |cont=>exact q
theorem YB(h1:PS X st t):PSs X [st] t:=by
 intro pins s σ H D I h
 refine wpAny_execs_cons (thn (h1 pins s σ H D I h) fun f s1 q=>?_)
 cases f with
 |next=>exact wpAny_execs_nil q
 |ret v=>exact q
 |brk=>exact q
 |cont=>exact q
theorem Inv.quiet{pins:List (Addr×Obj)}{σ:St}{H:Hp}{s:Shared}(I:Inv X pins σ H s):interactive X.env=false:=by simp[interactive,I.ok.kind]
noncomputable def dv(te:TE):TS:=fun D σ H=>te σ H fun _ H1=>D.nx σ H1
theorem X4(he:PE X e te)(hs:swapsWith e none pos.line X.env=pure false:=by rfl):PS X (.Expr e pos) (dv te):=by
 intro pins s σ H D I h
 exact wpAny_Expr_any (thn (he pins s σ H _ I h) fun v s1 ⟨x,H1,I1,r1,q1⟩=>⟨σ,H1,I1,q1⟩) I.quiet hs
noncomputable def gE(te:TE):TS:=fun D σ H=>te σ H D.rt
theorem ZC(he:PE X e te):PS X (.Return (some e) pos) (gE te):=by
 intro pins s σ H D I h
 exact wpAny_Return_some (thn (he pins s σ H _ I h) fun v s1 ⟨x,H1,I1,r1,q1⟩=>⟨x,σ,H1,I1,r1,q1⟩)
noncomputable def gD(c:TT)(t u:TS):TS:=fun D σ H=>c σ H fun b H1=>if b=true then t D σ H1 else u D σ H1
theorem dz{c:Expr}{a b:List Stmt}{tc:TT}(hc:PT X c tc)(ha:PSs X a t)(hb:PSs X b u):PS X (.If c a b pos) (gD tc t u):=by
 intro pins s σ H D I h
 refine wpAny_If (thn (hc pins s σ H _ I h) fun d s1 ⟨H1,I1,q1⟩=>?_)
 cases d with
 |true=>exact ha pins s1 σ H1 D I1 q1
 |false=>exact hb pins s1 σ H1 D I1 q1
end
abbrev TG:=V->St->Hp->(St->Hp->Prop)->Prop
abbrev TGs:=List V->St->Hp->(St->Hp->Prop)->Prop
def PG(X:Cx)(target:Expr)(t:TG):Prop:=
 ∀ (pins : List (Addr × Obj)) (s : Shared) (σ : St) (H : Hp) (v : V) (u : Value) (Q : St -> Hp -> Prop), Inv X pins σ H s -> RelV v u -> t v σ H Q ->
  wpAny (model X.prog X.w) X.A (assign target X.env u) (fun _ s'=>∃σ' H',Inv X pins σ' H' s'/\Q σ' H') X.xe s
def PGs(X:Cx)(ts:List Expr)(t:TGs):Prop:=
 ∀ (pins : List (Addr × Obj)) (s : Shared) (σ : St) (H : Hp) (vs : List V) (us : List Value) (Q : St -> Hp -> Prop), Inv X pins σ H s -> Vals vs us -> t vs σ H Q ->
  wpAny (model X.prog X.w) X.A (assignInOrder ((assignEach ts X.env).map (·.2)) us) (fun _ s'=>∃σ' H',Inv X pins σ' H' s'/\Q σ' H') X.xe s
abbrev aA:=V->V->V->Hp->(Hp->Prop)->Prop
def dj(X:Cx)(t:aA):Prop:=
 ∀ (pins : List (Addr × Obj)) (s : Shared) (σ : St) (H : Hp) (o i v : V) (ov iv u : Value) (Q : Hp -> Prop), Inv X pins σ H s -> RelV o ov -> RelV i iv -> RelV v u -> t o i v H Q ->
  wpAny (model X.prog X.w) X.A (setItem ov iv u) (fun _ s'=>∃H',Inv X pins σ H' s'/\Q H') X.xe s
abbrev TIp:=V->V->Hp->VK->Prop
def PIp(X:Cx)(op:Operator)(t:TIp):Prop:=
 ∀ (pins : List (Addr × Obj)) (s : Shared) (σ : St) (H : Hp) (x y : V) (v u : Value) (Q : VK), Inv X pins σ H s -> RelV x v -> RelV y u -> t x y H Q ->
  wpAny (model X.prog X.w) X.A (inplaceOp op v u) (EP X pins σ Q) X.xe s
section
variable{X:Cx}{pos:Pos}
noncomputable def Xo(i:Nat):TG:=fun v σ H Q=>Q (σ.set i (some v)) H
theorem YR{i:Nat}{x:Str}(hN:X.N.Nodup)(hi:X.N[i]?=some x)(hx:Loc X.env.scope x)(hf:X.fn x=true∨X.env.scope.names.lookup x=some .local:=by first|exact .inl rfl|exact .inr rfl|assumption):PG X (.Name x pos) (Xo i):=by
 intro pins s σ H v u Q I r h
 exact wpAny_assign_Name (Kc I hN hi hx r (fun s' I'=>⟨_,H,I',h⟩) hf)
noncomputable def fD:TGs:=fun vs σ H Q=>vs=[]/\Q σ H
noncomputable def ZS(t:TG)(u:TGs):TGs:=fun vs σ H Q=>∃v r,vs=v::r/\t v σ H fun σ' H'=>u r σ' H' Q
theorem W6:PGs X [] fD:=by
 intro pins s σ H vs us Q I r h
 obtain⟨e,h⟩:=h
 subst e
 cases r
 exact assignInOrder_nil ⟨σ,H,I,h⟩
theorem VI{e:Expr}{es:List Expr}{t:TG}{u:TGs}(h1:PG X e t)(h2:PGs X es u)
    (hs:(assignEach (e::es) X.env).map (·.2)=assign e X.env::(assignEach es X.env).map (·.2):=by rfl):PGs X (e::es) (ZS t u):=by
  intro pins s σ H vs us Q I r h
  obtain⟨v,vr,e1,h⟩:=h
  subst e1
  cases r with
  | cons r rr =>
    rw[hs]
    refine assignInOrder_cons (thn (h1 pins s σ H _ _ _ I r h) fun _ s1 ⟨σ1,H1,I1,q1⟩=>?_)
    exact h2 pins s1 σ1 H1 _ _ Q I1 rr q1
noncomputable def fq(K:PySem.W.Frag)(n:Nat)(t:TGs):TG:=fun v σ H Q=>∃a xs,v=.ref a/\SqT K H a xs/\xs.length=n/\t xs σ H Q
theorem Y6{es:List Expr}{k:Nat}{t:TGs}{n:Nat}(hc:X.calm=true)(h:PGs X es t)
  (hn:(assignEach es X.env).length=n:=by rfl) (hst:(assignEach es X.env).findIdx? (·.1)=none:=by rfl):PG X (.Tuple es k pos) (fq X.K n t):=by
 intro pins s σ H v u Q I r hw
 obtain⟨a,xs,e1,hq,hl,hw⟩:=hw
 subst e1
 cases r
 obtain⟨its,rv,ht,hz⟩:=I.tuple hq
 refine assign_Tuple_tuple (I.ok.hd hc) ht (by simp[hn,←hl,rv.length]) hst fun h' hx=>?_
 have I1:Inv X pins σ H {s with heap:=h'}:=I.kept (t':=s.toks) fun b o e=>hx b o (Nat.ne_of_lt (Heap.lt_size e)) e
 exact h pins _ σ H xs _ Q I1 (by simpa using rv) hw
noncomputable def gA(to ti:TE)(t:aA):TG:=fun v σ H Q=>to σ H fun o H1=>ti σ H1 fun i H2=>t o i v H2 fun H3=>Q σ H3
theorem Yr{o i:Expr}{to ti:TE}{t:aA}(ho:PE X o to)(hi:PE X i ti)(hs:dj X t)
  (ha:∀v,assign (.Subscript o i pos) X.env v=(do
   let ov←holding [v] (eval o X.env)
   let iv←holding [v,ov] (eval i X.env)
   standAt pos
   holding [v,ov,iv] (setItem ov iv v)
   release [v,ov,iv] []):=by intro _;rfl):PG X (.Subscript o i pos) (gA to ti t):=by
 intro pins s σ H v u Q I r h
 rw[ha]
 refine wpAny_bind (wpAny_holding (thn (ho pins s σ H _ I h) fun ov s1 ⟨x,H1,I1,r1,q1⟩=>?_))
 refine wpAny_bind (wpAny_holding (thn (hi pins s1 σ H1 _ I1 q1) fun iv s2 ⟨y,H2,I2,r2,q2⟩=>?_))
 refine wpAny_bind (wpAny_standAt (wpAny_bind (wpAny_holding (thn (hs pins s2 σ H2 x y v ov iv u _ I2 r1 r2 r q2) fun _ s3 ⟨H3,I3,q3⟩=>?_))))
 exact wpAny_release ⟨σ,H3,I3,q3⟩
noncomputable def cK(te:TE)(g:TG):TS:=fun D σ H=>te σ H fun x H1=>g x σ H1 D.nx
theorem WN{tg e:Expr}{te:TE}{g:TG}(he:PE X e te)(hg:PG X tg g)(hs:swapsWithSole [tg] e pos.line X.env=pure false:=by rfl)(hw:swappedStores [tg] e X.env=pure none:=by rfl)
  (h1:(assignEach [tg] X.env).map (·.2)=[assign tg X.env]:=by rfl):PS X (.Assign [tg] e pos) (cK te g):=by
 intro pins s σ H D I h
 refine wpAny_Assign_stores (thn (he pins s σ H _ I h) fun v s1 ⟨x,H1,I1,r1,q1⟩=>?_) hs hw
 rw[h1]
 exact thn (hg pins s1 σ H1 x v _ I1 r1 q1) fun _ s2 q=>q
theorem Zf{i:Nat}{x:Str}{e:Expr}{te:TE}{pos':Pos}(hN:X.N.Nodup)(hi:X.N[i]?=some x)(hx:Loc X.env.scope x)(he:PE X e te)(hs:swapsWith e (some (.Name x pos')) pos.line X.env=pure false:=by rfl)(hf:X.fn x=true∨X.env.scope.names.lookup x=some .local:=by first|exact .inl rfl|exact .inr rfl|assumption):
  PS X (.Assign [.Name x pos'] e pos) (cK te (Xo i)):=by
 intro pins s σ H D I h
 refine wpAny_Assign_Name (thn (he pins s σ H _ I h) fun v s1 ⟨y,H1,I1,r1,q1⟩=>?_) hs
 exact Kc I1 hN hi hx r1 (fun s2 I2=>⟨_,H1,I2,q1⟩) hf
noncomputable def gR(i j:Nat)(ta:TA):TS:=fun D σ H=>ta σ H fun vs H1=>∃v w,vs=[v,w]/\D.nx ((σ.set i (some v)).set j (some w)) H1
theorem Zu{i j:Nat}{x y:Str}{a b:Expr}{ta:TA}{px py pt:Pos}{kt k2 pt2}(hc:X.calm=true)(hN:X.N.Nodup)(hi:X.N[i]?=some x)(hj:X.N[j]?=some y)(hij:i≠j)
    (hx:X.env.scope.names.lookup x=some .local) (hy:X.env.scope.names.lookup y=some .local) (ha:PA X [a,b] ta)
    (hw:swappedStores [.Tuple [.Name x px,.Name y py] kt pt] (.Tuple [a,b] k2 pt2) X.env=pure (some [x,y]))
    (hs:swapsWithSole [.Tuple [.Name x px,.Name y py] kt pt] (.Tuple [a,b] k2 pt2) pos.line X.env=pure false:=by rfl):
    PS X (.Assign [.Tuple [.Name x px,.Name y py] kt pt] (.Tuple [a,b] k2 pt2) pos) (gR i j ta):=by
  intro pins s σ H D I h
  rw[exec_Assign_arm]
  refine wpAny_bind (wpAny_standAt ?_)
  rw[hs]
  refine wpAny_bind (wpAny_pure ?_)
  rw[if_neg (by decide)]
  refine wpAny_bind (Tuple_ (thn (ha _ pins s σ H _ I h) fun us s1 ⟨vs,H1,I1,r1,q1⟩=>?_))
  obtain⟨v,w,e1,q1⟩:=q1
  subst e1
  obtain ⟨u1, u2, rfl, rv, rw'⟩ : ∃ u1 u2, us = [u1, u2] /\ RelV v u1 /\ RelV w u2 := by
    cases r1 with
    | cons p q =>
      cases q with
      | cons p' q' =>
        cases q'
        exact⟨_,_,rfl,p,p'⟩
  refine wpAny_newObj_type ?_ (by show 2≤sizeLine;decide)
  have I2:Inv X pins σ H1 {s1 with heap:=s1.heap.push {cls:=.type "tuple",data:=.seq [u1,u2].toArray}}:=I1.kept (t':=s1.toks) fun b o e=>Heap.get?_push_of_some _ e
  rw[hw]
  refine wpAny_bind (wpAny_pure ?_)
  show wpAny (model X.prog X.w) X.A (do rule "assign.swapped-stores"; let items←unpackItems (.ref s1.heap.objs.size) 2 none;assignInOrder [fun v=>bindName X.env y v,fun v=>bindName X.env x v] items.reverse;pure Flow.next) _ _ _
  refine wpAny_bind (wpAny_rule (wpAny_bind (unpackItems_tuple (items:= #[u1,u2]) (I.ok.hd hc) (IsTup.new s1.heap _) fun h' hx'=>?_)))
  have I3:=I2.kept (h':=h') (t':=s1.toks) fun b o e=>hx' b o (Nat.ne_of_lt (Heap.lt_size e)) e
  show wpAny _ _ (assignInOrder [fun v=>bindName X.env y v,fun v=>bindName X.env x v] [u2,u1] >>= fun _=>pure Flow.next) _ _ _
  refine wpAny_bind (assignInOrder_cons (wpAny_bindName (Kc I3 hN hj (.inl hy) rw' (fun s2 I4=>?_) (.inr hy))))
  refine assignInOrder_cons (wpAny_bindName (Kc I4 hN hi (.inl hx) rv (fun s3 I5=>assignInOrder_nil (wpAny_pure ?_)) (.inr hx)))
  rw[List.set_comm _ _ (Ne.symm hij)]at I5
  exact⟨_,H1,I5,q1⟩
noncomputable def eK(to ti te:TE)(tget:V->V->Hp->VK->Prop)(tip:TIp)(tset:aA):TS:=fun D σ H=>to σ H fun o H1=>ti σ H1 fun i H2=>tget o i H2 fun x H3=>te σ H3 fun y H4=>tip x y H4 fun z H5=>tset o i z H5 fun H6=>D.nx σ H6
def fg(X:Cx)(t:V->V->Hp->VK->Prop):Prop:=
 ∀ (pins : List (Addr × Obj)) (s : Shared) (σ : St) (H : Hp) (o i : V) (ov iv : Value) (Q : VK), Inv X pins σ H s -> RelV o ov -> RelV i iv -> t o i H Q ->
  wpAny (model X.prog X.w) X.A (getItem ov iv) (EP X pins σ Q) X.xe s
theorem YU{o i e:Expr}{to ti te:TE}{tget:V->V->Hp->VK->Prop}{tip:TIp}{tset:aA}{op:Operator}{tpos:Pos}(ho:PE X o to)(hi:PE X i ti)(hg:fg X tget)(he:PE X e te)(hp:PIp X op tip)(hs:dj X tset)
  (ha:∀ov iv new,augStore i ov iv new=(do holding [new,ov,iv] (setItem ov iv new);release [new,ov,iv] [];pure .next):=by intros;rfl):PS X (.AugAssign (.Subscript o i tpos) op e pos) (eK to ti te tget tip tset):=by
 intro pins s σ H D I h
 refine wpAny_AugAssign_SubscriptAny (thn (ho pins s σ H _ I h) fun ov s1 ⟨x1,H1,I1,r1,q1⟩=>?_) ha
 refine thn (hi pins s1 σ H1 _ I1 q1) fun iv s2 ⟨x2,H2,I2,r2,q2⟩=>?_
 refine thn (hg pins s2 σ H2 x1 x2 ov iv _ I2 r1 r2 q2) fun old s3 ⟨x3,H3,I3,r3,q3⟩=>?_
 refine thn (he pins s3 σ H3 _ I3 q3) fun v s4 ⟨x4,H4,I4,r4,q4⟩=>?_
 refine thn (hp pins s4 σ H4 x3 x4 old v _ I4 r3 r4 q4) fun new s5 ⟨x5,H5,I5,r5,q5⟩=>?_
 exact thn (hs pins s5 σ H5 x1 x2 x5 ov iv new _ I5 r1 r2 r5 q5) fun _ s6 ⟨H6,I6,q6⟩=>⟨σ,H6,I6,q6⟩
noncomputable def ipI(f:Int->Int->Int):TIp:=fun x y H Q=>∃i j,x=.int i/\y=.int j/\Q (.int (f i j)) H
theorem ZJ:PIp X .Sub (ipI fun i j=>i-j):=by
 intro pins s σ H x y v u Q I r1 r2 h
 obtain⟨i,j,e1,e2,q⟩:=h
 subst e1;subst e2
 obtain⟨t,rfl⟩:=r1
 obtain⟨t',rfl⟩:=r2
 exact isub_int ⟨.int _,H,I.tok _,⟨_,rfl⟩,q⟩
end
section
variable{X:Cx}{pos:Pos}
noncomputable def ZP(c:TT)(tb:TS):TS:=fun D σ H=>∃W:Nat->St->Hp->Prop,(∃m,W m σ H)/\∀m σ H,W m σ H->
 c σ H fun b H1=>if b=true then∃N:St->Hp->Prop,(∀σ' H',N σ' H'->∃m',m'<m/\W m' σ' H')/\tb {D with nx:=N,ct:=N,bk:=D.nx} σ H1 else D.nx σ H1
theorem U7{c:Expr}{body:List Stmt}{tc:TT}{tb:TS}(hp:PassesOwn (model X.prog X.w) X.A X.env X.xe)(hc:PT X c tc)(hb:PSs X body tb):PS X (.While c body [] pos) (ZP tc tb):=by
  intro pins s σ H D I h
  obtain⟨W,⟨m0,w0⟩,turn⟩:=h
  refine wpAny_While (codeAny_whileLoop (fun n s'=>∃σ' H',Inv X pins σ' H' s'/\W n σ' H') ?_ m0 ⟨σ,H,I,w0⟩)
  rintro n s1 ⟨σ1,H1,I1,w1⟩
  refine wpAny_passesOwn hp (thn (hc pins s1 σ1 H1 _ I1 (turn n σ1 H1 w1)) fun b s2 ⟨H2,I2,q2⟩=>?_)
  cases b with
  | true =>
    obtain⟨N,hN,q2⟩:=q2
    rw[if_pos rfl]
    refine wpAny_passesOwn hp (thn (hb pins s2 σ1 H2 _ I2 q2) fun f s3 q3=>?_)
    cases f with
    | next =>
      obtain⟨σ3,H3,I3,n3⟩:=q3
      obtain⟨m',hm,w3⟩:=hN σ3 H3 n3
      exact⟨m',hm,σ3,H3,I3,w3⟩
    | cont =>
      obtain⟨σ3,H3,I3,n3⟩:=q3
      obtain⟨m',hm,w3⟩:=hN σ3 H3 n3
      exact⟨m',hm,σ3,H3,I3,w3⟩
    |brk=>exact q3
    |ret v=>exact q3
  | false =>
    rw[if_neg Bool.false_ne_true]
    exact wpAny_execs_nil ⟨σ1,H2,I2,q2⟩
end
structure It where
 go:Nat->Hp->Prop
 yld:Nat->Hp->V->Hp->Prop
 stop:Nat->Hp->Prop
def PR(X:Cx)(pins:List (Addr×Obj))(H:Hp)(b:Addr):Prop:=
 H b=none/\b≠X.env.locals/\b∉X.fs/\(b∈X.ex∨X.s₀.heap.objs.size≤b)/\(∀x c,X.env.cells.lookup x=some c->c≠b)/\∀p∈X.pn++pins,p.1≠b
theorem Inv.fpOk{X:Cx}{pins:List (Addr×Obj)}{σ:St}{H H':Hp}{s:Shared}{b:Addr}(I:Inv X pins σ H s)(hb:s.heap.objs.size≤b)(hn:H' b=none):PR X pins H' b:=by
 refine⟨hn,Nat.ne_of_gt (Nat.lt_of_lt_of_le I.lt hb),I.nofs hb,.inr (Nat.le_trans I.sz hb),fun x c e z=>?_,fun p hp z=>?_⟩
 ·obtain⟨v,q⟩:=I.cell x c e
  exact absurd (Nat.lt_of_lt_of_le q.lt (by rw[z];exact hb)) (Nat.lt_irrefl _)
 ·exact absurd (Nat.lt_of_lt_of_le (Heap.lt_size (I.pin p hp).1) (by rw[z];exact hb)) (Nat.lt_irrefl _)
structure Turn(P:Program)(w:World)(K:PySem.W.Frag)(tg:Expr)(J:It)(fp:List Addr)(it:Addr)(tn:Nat->Heap->Prop):Prop where
 mem:it∈fp
 obj:∀i h,tn i h->∀b∈fp,∃o,h.get? b=some o/\∀v,o.data≠.cell v
 keep:∀i h h',tn i h->(∀b∈fp,∀o,h.get? b=some o->h'.get? b=some o)->tn i h'
 item:∀(X:Cx),X.prog=P->X.w=w->X.K=K->X.calm=true->∀(i:Nat) (pins:List (Addr×Obj)) (s:Shared) (σ:St) (H:Hp) (E:Value->Shared->Prop),Inv X pins σ H s->(∀b∈fp,PR X pins H b)->tn i s.heap->J.go i H->
  wpAny (model P w) X.A (pyNext (.ref it)) (fun r s1=>∃u,r=some u/\
   wpAny (model P w) X.A (letOwnedTupleGo tg (.ref it) u) (fun _ s2=>∃x H',Inv X pins σ H' s2/\RelV x u/\J.yld i H x H'/\tn (i+1) s2.heap/\∀b∈fp,H' b=none) E s1) E s
 done:∀(X:Cx),X.prog=P->X.w=w->X.K=K->X.calm=true->∀(i:Nat) (pins:List (Addr×Obj)) (s:Shared) (σ:St) (H:Hp) (E:Value->Shared->Prop),Inv X pins σ H s->(∀b∈fp,PR X pins H b)->tn i s.heap->J.stop i H->
  wpAny (model P w) X.A (pyNext (.ref it)) (fun r s1=>r=none/\Inv X pins σ H s1) E s
 self:∀(A:Around) (i:Nat) (s:Shared) (Q:Value->Shared->Prop) (E:Value->Shared->Prop),tn i s.heap->Q (.ref it) s->wpAny (model P w) A (pyIter (.ref it)) Q E s
abbrev TI:=St->Hp->(It->Hp->Prop)->Prop
def PIE(X:Cx)(pins:List (Addr×Obj))(σ:St)(tg:Expr)(R:It->Hp->Prop)(itv:Value)(s2:Shared):Prop:=
 ∃(it:Addr) (fp:List Addr) (tn:Nat->Heap->Prop) (J:It) (H':Hp),itv=.ref it/\Inv X pins σ H' s2/\Turn X.prog X.w X.K tg J fp it tn/\tn 0 s2.heap/\(∀b∈fp,PR X pins H' b)/\R J H'
def PI(X:Cx)(tg iter:Expr)(wi:TI):Prop:=
 ∀ (pins : List (Addr × Obj)) (s : Shared) (σ : St) (H : Hp) (R : It -> Hp -> Prop), Inv X pins σ H s -> wi σ H R ->
  wpAny (model X.prog X.w) X.A (eval iter X.env) (fun v s1=>wpAny (model X.prog X.w) X.A (pyIter v) (PIE X pins σ tg R) X.xe s1) X.xe s
theorem XW {M : Model} {A : Around} {E : Value -> Shared -> Prop} {s : Shared} {tg : Expr} {it : Addr} {u : Value} {o : Obj} {n : String} {vs : Array Value} {Q : Unit -> Shared -> Prop} (ho : s.heap.get? it = some o) (hc : o.cls = .type n) (hd : o.data = .fields vs)
    (hn:["enumerate","zip","dict_itemiterator","dict_reverseitemiterator","odict_iterator","itertools.zip_longest","itertools.pairwise"].contains n=false) (hQ:Q () s):wpAny M A (letOwnedTupleGo tg (.ref it) u) Q E s:=by
  unfold letOwnedTupleGo
  cases tg <;> first
    |exact wpAny_pure hQ
    |(cases u<;>first
        |exact wpAny_pure hQ
        | (refine wpAny_bind (wpAny_load ho ?_)
           rw[hc,hd]
           show wpAny M A (if(["enumerate","zip","dict_itemiterator","dict_reverseitemiterator","odict_iterator","itertools.zip_longest","itertools.pairwise"].contains n && vs[0]?==some (rawInt _))=true then _ else _) Q E s
           rw[if_neg (by intro h;rw[hn,Bool.false_and]at h;cases h)]
           exact wpAny_pure hQ))
noncomputable def Itl(K:PySem.W.Frag)(a:Addr):It:=
 ⟨fun i H=>∃xs x,SqL K H a xs/\xs[i]?=some x,fun i H x H'=>H'=H/\∀xs,SqL K H a xs->xs[i]?=some x,fun i H=>∃xs,SqL K H a xs/\xs.length≤i⟩
noncomputable def Itt(K:PySem.W.Frag)(a:Addr):It:=
 ⟨fun i H=>∃xs x,SqT K H a xs/\xs[i]?=some x,fun i H x H'=>H'=H/\∀xs,SqT K H a xs->xs[i]?=some x,fun i H=>∃xs,SqT K H a xs/\xs.length≤i⟩
noncomputable def Itr(lo:Int)(n:Nat):It:=⟨fun i _=>i<n,fun i H x H'=>H'=H/\x=.int (lo+i),fun i _=>n≤i⟩
theorem Sj{P:Program}{w:World}{K:PySem.W.Frag}{tg:Expr}(a it:Addr):Turn P w K tg (Itl K a) [it] it (fun i h=>h.IsListIter it a i) where
 mem:=by simp
 obj:=fun i h st b hb=>by
  have e:b=it:=by simpa using hb
  subst e
  obtain⟨o,e,c,d⟩:=st
  exact⟨o,e,fun v z=>by rw[d]at z;cases z⟩
 keep:=fun i h h' st k=>st.at fun o e=>k it (by simp) o e
 item:=by
  intro X hP hw hK hc i pins s σ H E I hf st hg
  subst hP hw hK
  obtain⟨xs,x,hq,hx⟩:=hg
  obtain⟨its,rv,p,hz⟩:=I.list hq
  obtain⟨u,hu,ru⟩:=rv.get hx
  obtain⟨f0,f1,f2,f3,f4,f5⟩:=hf it (by simp)
  refine wpAny_pyNext_list_item st p.isList (x:=u) (by simpa using hu) fun h' st' sb=>?_
  have I1:Inv X pins σ H {s with heap:=h'}:=I.turned (t':=s.toks) (fun b o hb e=>(sb.2 b hb).trans e) f0 f1 f3 f4 f5
  obtain⟨o,e,c,d⟩:=id st'
  exact⟨u,rfl,XW (s:={s with heap:=h'}) e c d (by decide) ⟨x,H,I1,ru,⟨rfl,fun ys hy=>by rw[I.list_inj hy hq];exact hx⟩,st',fun b hb=>(hf b hb).1⟩⟩
 done:=by
  intro X hP hw hK hc i pins s σ H E I hf st hg
  subst hP hw hK
  obtain⟨xs,hq,hx⟩:=hg
  obtain⟨its,rv,p,hz⟩:=I.list hq
  obtain⟨f0,f1,f2,f3,f4,f5⟩:=hf it (by simp)
  have hl:=rv.length
  exact wpAny_pyNext_list_end (I.ok.hd hc) st p.isList (by simp;omega) fun h' eb=>⟨rfl,I.turned (t':=s.toks) (fun b o hb e=>eb b o hb e) f0 f1 f3 f4 f5⟩
 self:=fun _ _ _ _ _ st h=>wpAny_pyIter_listiter st h
theorem Qp{P:Program}{w:World}{K:PySem.W.Frag}{tg:Expr}(a it:Addr):Turn P w K tg (Itt K a) [it] it (fun i h=>h.IsTupleIter it a i) where
 mem:=by simp
 obj:=fun i h st b hb=>by
  have e:b=it:=by simpa using hb
  subst e
  obtain⟨o,e,c,d⟩:=st
  exact⟨o,e,fun v z=>by rw[d]at z;cases z⟩
 keep:=fun i h h' st k=>st.at fun o e=>k it (by simp) o e
 item:=by
  intro X hP hw hK hc i pins s σ H E I hf st hg
  subst hP hw hK
  obtain⟨xs,x,hq,hx⟩:=hg
  obtain⟨its,rv,p,hz⟩:=I.tuple hq
  obtain⟨u,hu,ru⟩:=rv.get hx
  obtain⟨f0,f1,f2,f3,f4,f5⟩:=hf it (by simp)
  refine wpAny_pyNext_tuple_item st (show s.heap.IsTuple a its.toArray from p) (x:=u) (by simpa using hu) fun h' st' sb=>?_
  have I1:Inv X pins σ H {s with heap:=h'}:=I.turned (t':=s.toks) (fun b o hb e=>(sb.2 b hb).trans e) f0 f1 f3 f4 f5
  obtain⟨o,e,c,d⟩:=id st'
  exact⟨u,rfl,XW (s:={s with heap:=h'}) e c d (by decide) ⟨x,H,I1,ru,⟨rfl,fun ys hy=>by rw[I.tuple_inj hy hq];exact hx⟩,st',fun b hb=>(hf b hb).1⟩⟩
 done:=by
  intro X hP hw hK hc i pins s σ H E I hf st hg
  subst hP hw hK
  obtain⟨xs,hq,hx⟩:=hg
  obtain⟨its,rv,p,hz⟩:=I.tuple hq
  obtain⟨f0,f1,f2,f3,f4,f5⟩:=hf it (by simp)
  have hl:=rv.length
  exact wpAny_pyNext_tuple_end (I.ok.hd hc) st (show s.heap.IsTuple a its.toArray from p) (by simp;omega) fun h' eb=>⟨rfl,I.turned (t':=s.toks) (fun b o hb e=>eb b o hb e) f0 f1 f3 f4 f5⟩
 self:=fun _ _ _ _ _ st h=>wpAny_pyIter_tupleiter st h
theorem QR{P:Program}{w:World}{K:PySem.W.Frag}{tg:Expr}(it:Addr)(lo:Int)(n:Nat):Turn P w K tg (Itr lo n) [it] it (fun i h=>IsRangeIter h it (lo+(i:Nat)*1) ((n:Int)-(i:Nat)) 1) where
 mem:=by simp
 obj:=fun i h st b hb=>by
  have e:b=it:=by simpa using hb
  subst e
  exact⟨_,st,fun v z=>by
   have z':Data.fields _=Data.cell v:=z
   cases z'⟩
 keep:=fun i h h' st k=>k it (by simp) _ st
 item:=by
  intro X hP hw hK hc i pins s σ H E I hf st hg
  subst hP hw hK
  obtain⟨f0,f1,f2,f3,f4,f5⟩:=hf it (by simp)
  have W:=Walks.range (prog:=X.prog) (w:=X.w) (I.ok.hd hc) it lo 1 n
  refine W.item i s _ _ hg st fun v h' tk hv st' kk=>?_
  obtain⟨t,rfl⟩:=hv
  have I1:Inv X pins σ H {s with heap:=h',toks:=tk}:=I.turned (fun b o hb e=>kk b o (by simpa using hb) e) f0 f1 f3 f4 f5
  refine⟨_,rfl,XW (s:={s with heap:=h',toks:=tk}) (n:="range_iterator") st' rfl rfl (by decide) ⟨.int (lo+i),H,I1,⟨t,?_⟩,⟨rfl,rfl⟩,st',fun b hb=>(hf b hb).1⟩⟩
  rw[Int.mul_one]
 done:=by
  intro X hP hw hK hc i pins s σ H E I hf st hg
  subst hP hw hK
  obtain⟨f0,f1,f2,f3,f4,f5⟩:=hf it (by simp)
  exact wpAny_pyNext_range_end (I.ok.hd hc) st (by have:n≤i:=hg;omega) fun h' eb=>⟨rfl,I.turned (t':=s.toks) (fun b o hb e=>eb b o hb e) f0 f1 f3 f4 f5⟩
 self:=fun _ _ _ _ _ st h=>wpAny_pyIter_rangeiter st h
end L2
namespace L2
open PySem PySem.Spec PyProof.Rows
section
variable{X:Cx}{tg:Expr}
theorem UT{pins:List (Addr×Obj)}{σ:St}{H:Hp}{s:Shared}{R:It->Hp->Prop}{E:Value->Shared->Prop}{lo hi:Int}{t u v:Tok}{tk:Nat}(I:Inv X pins σ H s)(h1: -(2^62)≤lo)(h2:lo<2^62)(h3: -(2^62)≤hi)(h4:hi<2^62)
  (q:R (Itr lo (hi-lo).toNat) H):wpAny (model X.prog X.w) X.A (pyIter (.ref s.heap.objs.size)) (PIE X pins σ tg R) E {s with heap:=s.heap.push {cls:=.type "range",data:=.fields #[.int lo t,.int hi u,.int 1 v]},toks:=tk}:=by
 refine wpAny_pyIter_range (IsRange.new ..) (small_one h1 h2 h3 h4) ?_
 have I1:Inv X pins σ H {s with heap:=s.heap.push {cls:=.type "range",data:=.fields #[.int lo t,.int hi u,.int 1 v]},toks:=tk}:=I.kept fun b o e=>Heap.get?_push_of_some _ e
 refine⟨(s.heap.push {cls:=.type "range",data:=.fields #[.int lo t,.int hi u,.int 1 v]}).objs.size,[(s.heap.push {cls:=.type "range",data:=.fields #[.int lo t,.int hi u,.int 1 v]}).objs.size],_,_,H,rfl,
  I1.kept (t':=tk) fun b o e=>Heap.get?_push_of_some _ e,QR _ lo (hi-lo).toNat,?_,fun b hb=>?_,q⟩
 ·have e1:lo+((0:Nat):Int)*1=lo:=by simp
  have e2:(((hi-lo).toNat:Nat):Int)-((0:Nat):Int)=Builtin.Range.rangeSize lo hi 1:=by rw[rangeSize_one];split<;>omega
  show IsRangeIter _ _ (lo+((0:Nat):Int)*1) ((((hi-lo).toNat:Nat):Int)-((0:Nat):Int)) 1
  rw[e1,e2]
  exact Heap.get?_push_size _ rfl
 ·have e:b=(s.heap.push {cls:=.type "range",data:=.fields #[.int lo t,.int hi u,.int 1 v]}).objs.size:=by simpa using hb
  subst e
  exact I1.fpOk (Nat.le_refl _) (I1.hok.fresh (Nat.le_refl _))
noncomputable def eG(ta:TA):TI:=fun σ H R=>ta σ H fun vs H1=>∃j:Int,vs=[.int j]/\ -(2^62)≤j/\j<2^62/\R (Itr 0 j.toNat) H1
theorem So{a:Expr}{ta:TA}{p pos:Pos}(hg:Gl X "range")(hm:X.mg "range"=none)(ha:PA X [a] ta)(hs:starEach [a] X.env=[(false,eval a X.env)]:=by rfl):PI X tg (.Call (.Name "range" p) [a] [] pos) (eG ta):=by
  intro pins s σ H R I h
  refine Call_ (J0 I hg hm boot_range (PyProof.Rows.callWith_type1 (thn (ha pos pins s σ H _ I h) fun us s1 ⟨vs,H1,I1,r1,q1⟩=>?_) hs rfl))
  obtain⟨j,e,q1,q2,q⟩:=q1
  subst e
  cases r1 with
  | cons r rr =>
    cases rr
    obtain⟨t,rfl⟩:=r
    exact call_range_1 (UT I1 (by omega) (by omega) q1 q2 (by simpa using q))
noncomputable def gw(wi:TI)(g:TG)(tb:TS):TS:=fun D σ H=>wi σ H fun J H1=>∃W:Nat->Nat->St->Hp->Prop,(∃m,W 0 m σ H1)/\∀i m σ H,W i m σ H->
 (J.stop i H/\D.nx σ H)∨(J.go i H/\∃N:St->Hp->Prop,(∀σ' H',N σ' H'->∃m',m'<m/\W (i+1) m' σ' H')/\∀x H',J.yld i H x H'->g x σ H' fun σ2 H2=>tb {D with nx:=N,ct:=N,bk:=D.nx} σ2 H2)
noncomputable def OH(fp:List Addr)(h:Heap):List (Addr×Obj):=fp.filterMap fun b=>(h.get? b).map fun o=>(b,o)
theorem Hb{fp:List Addr}{h:Heap}{b:Addr}{o:Obj}(hb:b∈fp)(e:h.get? b=some o):(b,o)∈OH fp h:=List.mem_filterMap.mpr ⟨b,hb,by rw[e];rfl⟩
theorem RT{fp:List Addr}{h:Heap}{p:Addr×Obj}(hp:p∈OH fp h):p.1∈fp/\h.get? p.1=some p.2:=by
  obtain⟨b,hb,e⟩:=List.mem_filterMap.mp hp
  cases q:h.get? b with
  |none=>rw[q]at e;cases e
  | some o =>
    rw[q]at e
    have e':(b,o)=p:=Option.some.inj e
    subst e'
    exact⟨hb,q⟩
theorem Inv.pinned{pins:List (Addr×Obj)}{σ:St}{H:Hp}{s:Shared}{fp:List Addr}(I:Inv X pins σ H s)(hf:∀b∈fp,PR X pins H b)(ho:∀b∈fp,∃o,s.heap.get? b=some o/\∀v,o.data≠.cell v):Inv X (pins++OH fp s.heap) σ H s:=
 I.pins_of fun p hp=>(List.mem_append.mp hp).elim (fun z=>I.pin p (List.mem_append_right _ z)) fun z=>by
  obtain⟨hb,e⟩:=RT z
  obtain⟨f0,f1,f2,_⟩:=hf p.1 hb
  obtain⟨o,e',d⟩:=ho p.1 hb
  rw[e]at e';cases e'
  exact⟨e,f0,f1,f2,d⟩
theorem Inv.unpinned{pins pl:List (Addr×Obj)}{σ:St}{H:Hp}{s:Shared}(I:Inv X (pins++pl) σ H s):Inv X pins σ H s:=I.pins_of fun p hp=>I.pin p (List.mem_append_right _ (List.mem_append_left _ hp))
theorem ZN{iter:Expr}{body:List Stmt}{wi:TI}{g:TG}{tb:TS}{pos:Pos}(hp:PassesOwn (model X.prog X.w) X.A X.env X.xe)(hc:X.calm=true)(hi:PI X tg iter wi)(hg:PG X tg g)(hb:PSs X body tb)
  (hs:∀x,foldedSetIterable iter X.env x=pure x:=by intro _;rfl):PS X (.For tg iter body [] pos) (gw wi g tb):=by
 intro pins s σ H D I h
 refine wpAny_For (thn (hi pins s σ H _ I h) fun v s1 h1=>thn h1 fun itv s2 h2=>?_) hs
 obtain⟨it,fp,tn,J,H2,e,I2,T,st2,f2,W,⟨m0,w0⟩,turn⟩:=h2
 subst e
 have stat:∀{H':Hp},(∀b∈fp,H' b=none)->∀b∈fp,PR X pins H' b:=fun hn b hb=>⟨hn b hb,(f2 b hb).2⟩
 refine codeAny_forLoop_any (fun n s'=>∃i σ' H',Inv X pins σ' H' s'/\tn i s'.heap/\(∀b∈fp,H' b=none)/\W i n σ' H') ?_ m0 ⟨0,σ,H2,I2,st2,fun b hb=>(f2 b hb).1,w0⟩
 rintro n s3 ⟨i,σ3,H3,I3,st3,fr3,w3⟩
 rcases turn i n σ3 H3 w3 with⟨stop,qn⟩|⟨go,N,hN,step⟩
 ·refine wpAny_passesOwn hp (thn (T.done X rfl rfl rfl hc i pins s3 σ3 H3 X.xe I3 (stat fr3) st3 stop) fun r s4 ⟨hr,I4⟩=>?_)
  subst hr
  exact wpAny_execs_nil ⟨σ3,H3,I4,qn⟩
 ·refine wpAny_passesOwn hp (thn (T.item X rfl rfl rfl hc i pins s3 σ3 H3 X.xe I3 (stat fr3) st3 go) fun r s4 ⟨u,hr,h4⟩=>?_)
  subst hr
  refine wpAny_passesOwn hp (thn h4 fun _ s5 ⟨x,H5,I5,r5,y5,st5,fr5⟩=>?_)
  have I5':=I5.pinned (stat fr5) (T.obj _ _ st5)
  refine wpAny_passesOwn hp (thn (hg _ s5 σ3 H5 x u _ I5' r5 (step x H5 y5)) fun _ s6 ⟨σ6,H6,I6,q6⟩=>?_)
  refine wpAny_passesOwn hp (thn (hb _ s6 σ6 H6 _ I6 q6) fun f s7 q7=>?_)
  have again:∀{σ7:St} {H7:Hp},Inv X (pins++OH fp s5.heap) σ7 H7 s7->N σ7 H7->∃m,m<n/\∃i σ' H',Inv X pins σ' H' s7/\tn i s7.heap/\(∀b∈fp,H' b=none)/\W i m σ' H':=fun{σ7 H7} I7 n7=>by
   obtain⟨m',hm,w7⟩:=hN σ7 H7 n7
   refine⟨m',hm,i+1,σ7,H7,I7.unpinned,T.keep _ _ _ st5 fun b hb o e=>(I7.pin (b,o) (List.mem_append_right _ (List.mem_append_right _ (Hb hb e)))).1,fun b hb=>?_,w7⟩
   obtain⟨o,e,d⟩:=T.obj _ _ st5 b hb
   exact(I7.pin (b,o) (List.mem_append_right _ (List.mem_append_right _ (Hb hb e)))).2.1
  cases f with
  |next=>obtain⟨σ7,H7,I7,n7⟩:=q7;exact again I7 n7
  |cont=>obtain⟨σ7,H7,I7,n7⟩:=q7;exact again I7 n7
  |brk=>obtain⟨σ7,H7,I7,q7⟩:=q7;exact⟨σ7,H7,I7.unpinned,q7⟩
  |ret v=>obtain⟨x7,σ7,H7,I7,r7,q7⟩:=q7;exact⟨x7,σ7,H7,I7.unpinned,r7,q7⟩
end
end L2
namespace L2
open PySem PySem.Spec PyProof.Rows
abbrev R2:=V->V->Hp->VK->Prop
def OpR(X:Cx)(f:Value->Value->Sem Value)(r:R2):Prop:=
 ∀ (pins : List (Addr × Obj)) (s : Shared) (σ : St) (H : Hp) (x y : V) (v u : Value) (Q : VK), Inv X pins σ H s -> RelV x v -> RelV y u -> r x y H Q ->
  wpAny (model X.prog X.w) X.A (f v u) (EP X pins σ Q) X.xe s
def UnR(X:Cx)(f:Value->Sem Value)(r:V->Hp->VK->Prop):Prop:=
 ∀ (pins : List (Addr × Obj)) (s : Shared) (σ : St) (H : Hp) (x : V) (v : Value) (Q : VK), Inv X pins σ H s -> RelV x v -> r x H Q ->
  wpAny (model X.prog X.w) X.A (f v) (EP X pins σ Q) X.xe s
def Eb(X:Cx)(f:Value)(r:List V->Hp->VK->Prop):Prop:=
 ∀ (pins : List (Addr × Obj)) (s : Shared) (σ : St) (H : Hp) (xs : List V) (us : List Value) (Q : VK), Inv X pins σ H s -> Vals xs us -> r xs H Q ->
  wpAny (model X.prog X.w) X.A (call f us) (EP X pins σ Q) X.xe s
noncomputable def tOp(r:R2)(ta tb:TE):TE:=fun σ H Q=>ta σ H fun x H1=>tb σ H1 fun y H2=>r x y H2 Q
noncomputable def tUn(r:V->Hp->VK->Prop)(ta:TE):TE:=fun σ H Q=>ta σ H fun x H1=>r x H1 Q
noncomputable def rI(C:Int->Int->Prop)(g:Int->Int->V):R2:=fun x y H Q=>∃i j,x=.int i/\y=.int j/\C i j/\Q (g i j) H
noncomputable def rI0(g:Int->Int->V):R2:=fun x y H Q=>∃i j,x=.int i/\y=.int j/\Q (g i j) H
def rU(g:Int->V):V->Hp->VK->Prop:=fun x H Q=>∃i,x=.int i/\Q (g i) H
section
variable{X:Cx}{a b c:Expr}{ta tb tc:TE}{pos:Pos}
theorem dM(ha:PE X a ta)(hb:PE X b tb){pins:List (Addr×Obj)}{s:Shared}{σ:St}{H:Hp}{R:V->V->Hp->Prop}(I:Inv X pins σ H s)
  (h:ta σ H fun x H1=>tb σ H1 fun y H2=>R x y H2) {Q:Value->Shared->Prop} {f:Value->Value->Sem Value}
  (hf:∀v u s2 x y H2,Inv X pins σ H2 s2->RelV x v->RelV y u->R x y H2->wpAny (model X.prog X.w) X.A (f v u) Q X.xe s2):
  wpAny (model X.prog X.w) X.A (eval a X.env) (fun v s₁=>wpAny (model X.prog X.w) X.A (eval b X.env) (fun u s₂=>wpAny (model X.prog X.w) X.A (f v u) Q X.xe s₂) X.xe s₁) X.xe s:=by
 refine thn (ha pins s σ H _ I h) fun v s1 ⟨x,H1,I1,r1,q1⟩=>?_
 refine thn (hb pins s1 σ H1 _ I1 q1) fun u s2 ⟨y,H2,I2,r2,q2⟩=>?_
 exact hf v u s2 x y H2 I2 r1 r2 q2
theorem cu{op:Operator}{r:R2}(ho:OpR X (binaryOp op) r)(ha:PE X a ta)(hb:PE X b tb):PE X (.BinOp a op b pos) (tOp r ta tb):=by
 intro pins s σ H Q I h
 exact wpAny_BinOp (dM ha hb I h fun v u s2 x y H2 I2 rx ry q=>ho pins s2 σ H2 x y v u Q I2 rx ry q)
theorem ck{op:UnaryOp}{r:V->Hp->VK->Prop}(ho:UnR X (unaryOp op) r)(ha:PE X a ta):PE X (.UnaryOp op a pos) (tUn r ta):=by
 intro pins s σ H Q I h
 exact UnaryOp_ (thn (ha pins s σ H _ I h) fun v s1 ⟨x,H1,I1,r1,q1⟩=>ho pins s1 σ H1 x v Q I1 r1 q1)
theorem opI{f:Value->Value->Sem Value}{C:Int->Int->Prop}{g:Int->Int->Int}
  (rule:∀(i j:Int) (t u:Tok) (s:Shared) (Q:Value->Shared->Prop) (E:Value->Shared->Prop),C i j->Q (.int (g i j) s.toks) {s with toks:=s.toks+1}->wpAny (model X.prog X.w) X.A (f (.int i t) (.int j u)) Q E s):
  OpR X f (rI C fun i j=>.int (g i j)):=by
 intro pins s σ H x y v u Q I rx ry h
 obtain⟨i,j,rfl,rfl,hc,q⟩:=h
 obtain⟨t,rfl⟩:=rx
 obtain⟨t',rfl⟩:=ry
 exact rule i j t t' s _ _ hc ⟨.int (g i j),H,I.tok _,⟨_,rfl⟩,q⟩
theorem fA{f:Value->Value->Sem Value}{g:Int->Int->Int}
  (rule:∀(i j:Int) (t u:Tok) (s:Shared) (Q:Value->Shared->Prop) (E:Value->Shared->Prop),Q (.int (g i j) s.toks) {s with toks:=s.toks+1}->wpAny (model X.prog X.w) X.A (f (.int i t) (.int j u)) Q E s):
  OpR X f (rI0 fun i j=>.int (g i j)):=by
 intro pins s σ H x y v u Q I rx ry h
 obtain⟨i,j,rfl,rfl,q⟩:=h
 obtain⟨t,rfl⟩:=rx
 obtain⟨t',rfl⟩:=ry
 exact rule i j t t' s _ _ ⟨.int (g i j),H,I.tok _,⟨_,rfl⟩,q⟩
theorem ae{f:Value->Value->Sem Value}{g:Int->Int->Bool}
  (rule:∀(i j:Int) (t u:Tok) (s:Shared) (Q:Value->Shared->Prop) (E:Value->Shared->Prop),Q (.bool (g i j)) s->wpAny (model X.prog X.w) X.A (f (.int i t) (.int j u)) Q E s):
  OpR X f (rI0 fun i j=>.bl (g i j)):=by
 intro pins s σ H x y v u Q I rx ry h
 obtain⟨i,j,rfl,rfl,q⟩:=h
 obtain⟨t,rfl⟩:=rx
 obtain⟨t',rfl⟩:=ry
 exact rule i j t t' s _ _ ⟨.bl (g i j),H,I,rfl,q⟩
def gP(i j:Int):Prop:=0≤j/\j≤1000000/\i.natAbs<2^64
def d9(i j:Int):Prop:=(-(2^64)<i/\i<2^64)∨(-(2^64)<j/\j<2^64)
theorem d9.ok{i j:Int}(h:d9 i j):IntMulOk i j:=by
 rcases h with⟨h1,h2⟩|⟨h1,h2⟩
 ·exact .of_left (intBits_le_64 h1 h2)
 ·exact .of_right (intBits_le_64 h1 h2)
theorem Z8:OpR X (binaryOp .Add) (rI0 fun i j=>.int (i+j)):=fA fun _ _ _ _ _ _ _ q=>add_int q
theorem Zo:OpR X (binaryOp .Sub) (rI0 fun i j=>.int (i-j)):=fA fun _ _ _ _ _ _ _ q=>sub_int q
theorem Wt:OpR X (binaryOp .Mult) (rI d9 fun i j=>.int (i*j)):=opI fun _ _ _ _ _ _ _ hc q=>mul_int q hc.ok
theorem Zx:OpR X (binaryOp .Mod) (rI (fun _ j=>0<j) fun i j=>.int (i % j)):=opI fun i j _ _ _ _ _ hc q=>by
 have h1:(0:Int)<j:=hc
 exact mod_int' (by omega) (by rw[Int.fmod_eq_emod_of_nonneg i (by omega)];exact q)
theorem Zt:OpR X (binaryOp .Pow) (rI gP fun i j=>.int (i^j.toNat)):=opI fun _ _ _ _ _ _ _ hc q=>pow_int_small hc.1 hc.2.1 hc.2.2 q
theorem unI{f:Value->Sem Value}{g:Int->Int}
  (rule:∀(i:Int) (t:Tok) (s:Shared) (Q:Value->Shared->Prop) (E:Value->Shared->Prop),Q (.int (g i) s.toks) {s with toks:=s.toks+1}->wpAny (model X.prog X.w) X.A (f (.int i t)) Q E s):
  UnR X f (rU fun i=>.int (g i)):=by
 intro pins s σ H x v Q I rx h
 obtain⟨i,rfl,q⟩:=h
 obtain⟨t,rfl⟩:=rx
 exact rule i t s _ _ ⟨.int (g i),H,I.tok _,⟨_,rfl⟩,q⟩
theorem Z5:UnR X (unaryOp .USub) (rU fun i=>.int (-i)):=unI fun _ _ _ _ _ q=>neg_int q
end
section
variable{X:Cx}{a b c:Expr}{ta tb tc:TE}{pos:Pos}
theorem ZM{pins:List (Addr×Obj)}{σ:St}{H:Hp}{s:Shared}{Q:VK}{k k':Bool}(I:Inv X pins σ H s)(q:Q (.bl k) H)(e:k=k'):EP X pins σ Q (.bool k') s:=by
 subst e
 exact⟨.bl k,H,I,rfl,q⟩
theorem cR:OpR X (compareOp .Lt) (rI0 fun i j=>.bl (decide (i<j))):=ae fun _ _ _ _ _ _ _ q=>lt_int q
theorem cb:OpR X (compareOp .LtE) (rI0 fun i j=>.bl (decide (i≤j))):=ae fun _ _ _ _ _ _ _ q=>le_int q
theorem cZ:OpR X (compareOp .Gt) (rI0 fun i j=>.bl (decide (j<i))):=ae fun _ _ _ _ _ _ _ q=>gt_int q
theorem dw:OpR X (compareOp .GtE) (rI0 fun i j=>.bl (decide (j≤i))):=ae fun _ _ _ _ _ _ _ q=>ge_int q
theorem YJ:OpR X (compareOp .IsNot) (fun x y H Q=>y=.non/\Q (.bl (!decide (x=.non))) H):=by
 intro pins s σ H x y v u Q I rx ry h
 obtain⟨rfl,q⟩:=h
 cases ry
 refine isnot_none_gen (ZM I q ?_)
 cases x<;>first
  |(cases rx;rfl)
  |(obtain⟨t,rfl⟩:=rx;rfl)
theorem Xz{op:CmpOp}{r:R2}(ho:OpR X (compareOp op) r)(ha:PE X a ta)(hb:PE X b tb)(hm:behindInMarks op b=false):PE X (.Compare a [op] [b] pos) (tOp r ta tb):=by
 intro pins s σ H Q I h
 exact wpAny_Compare1 (dM ha hb I h fun v u s2 x y H2 I2 rx ry q=>ho pins s2 σ H2 x y v u Q I2 rx ry q) hm
noncomputable def Zm(t:TE):TT:=fun σ H Q=>t σ H fun x H'=>∃k,x=.bl k/\Q k H'
theorem Te{op:CmpOp}{r:R2}(ho:OpR X (compareOp op) r)(ha:PE X a ta)(hb:PE X b tb)(hm:behindInMarks op b=false):PT X (.Compare a [op] [b] pos) (Zm (tOp r ta tb)):=by
 intro pins s σ H Q I h
 refine wpAny_isTrue_Compare1 (thn (ha pins s σ H _ I h) fun v s1 ⟨x,H1,I1,r1,q1⟩=>thn (hb pins s1 σ H1 _ I1 q1) fun u s2 ⟨y,H2,I2,r2,q2⟩=>
  thn (ho pins s2 σ H2 x y v u _ I2 r1 r2 q2) fun c s3 ⟨z,H3,I3,r3,k,e,q3⟩=>?_) hm
 subst e
 cases r3
 exact wpAny_truthy_bool ⟨H3,I3,q3⟩
theorem MM:(sizeLine:Nat)<2^63:=by rw[sizeLine_eq];decide
theorem Qh:OpR X (binaryOp .Add) (fun x y H Q=>∃i j,x=.str i/\y=.str j/\i.length+j.length≤sizeLine/\Q (.str (i++j)) H):=by
 intro pins s σ H x y v u Q I rx ry h
 obtain⟨i,j,rfl,rfl,hz,q⟩:=h
 obtain⟨t,rfl⟩:=rx
 obtain⟨t',rfl⟩:=ry
 exact add_str (fun t' tk=>⟨.str (i++j),H,I.tok _,⟨_,rfl⟩,q⟩) hz
theorem vals1{x:V}{us:List Value}(r:Vals [x] us):∃u,us=[u]/\RelV x u:=by
 cases r with
 |cons r1 r2=>cases r2;exact⟨_,rfl,r1⟩
theorem vals2{x y:V}{us:List Value}(r:Vals [x,y] us):∃u w',us=[u,w']/\RelV x u/\RelV y w':=by
  cases r with
  | cons r1 r2 =>
    cases r2 with
    |cons r3 r4=>cases r4;exact⟨_,_,rfl,r1,r3⟩
theorem US:Eb X (.builtin "abs") (fun xs H Q=>∃i,xs=[.int i]/\Q (.int (if i<0 then-i else i)) H):=by
 intro pins s σ H xs us Q I r h
 obtain⟨i,rfl,q⟩:=h
 obtain⟨u,rfl,t,rfl⟩:=vals1 r
 exact call_abs_int fun u tk=>⟨.int (if i<0 then-i else i),H,I.tok _,⟨_,rfl⟩,q⟩
theorem SY(hc:X.calm=true):Eb X (.builtin "max") (fun xs H Q=>∃i j,xs=[.int i,.int j]/\Q (.int (if j>i then j else i)) H):=by
 intro pins s σ H xs us Q I r h
 obtain⟨i,j,rfl,q⟩:=h
 obtain⟨u,w',rfl,⟨t,rfl⟩,⟨t',rfl⟩⟩:=vals2 r
 refine max_two_ints (I.ok.hd hc) fun h' tk k=>⟨_,H,I.kept k,?_,q⟩
 by_cases hj:j>i
 ·rw[if_pos hj,if_pos hj];exact⟨_,rfl⟩
 ·rw[if_neg hj,if_neg hj];exact⟨_,rfl⟩
theorem SM(hc:X.calm=true):Eb X (.builtin "min") (fun xs H Q=>∃i j,xs=[.int i,.int j]/\Q (.int (if j<i then j else i)) H):=by
 intro pins s σ H xs us Q I r h
 obtain⟨i,j,rfl,q⟩:=h
 obtain⟨u,w',rfl,⟨t,rfl⟩,⟨t',rfl⟩⟩:=vals2 r
 refine min_two_ints (I.ok.hd hc) fun h' tk k=>⟨_,H,I.kept k,?_,q⟩
 by_cases hj:j<i
 ·rw[if_pos hj,if_pos hj];exact⟨_,rfl⟩
 ·rw[if_neg hj,if_neg hj];exact⟨_,rfl⟩
theorem OG:Eb X (.type "int") (fun xs H Q=>(∃i,xs=[.int i]/\Q (.int i) H)∨∃k,xs=[.bl k]/\Q (.int (if k then 1 else 0)) H):=by
 intro pins s σ H xs us Q I r h
 rcases h with⟨i,rfl,q⟩|⟨k,rfl,q⟩
 ·obtain⟨u,rfl,t,rfl⟩:=vals1 r
  exact call_int_int ⟨.int i,H,I,⟨_,rfl⟩,q⟩
 ·obtain⟨u,rfl,r1⟩:=vals1 r
  cases r1
  exact call_int_bool ⟨.int (if k then 1 else 0),H,I.tok _,⟨_,rfl⟩,q⟩
end
end L2
namespace L2
open PySem PySem.Spec PyProof.Rows
structure de(h:Heap)(x dx C:Addr)(mA:Str->Option Value):Prop where
 obj:h.get? x=some (PySem.W.instObj C dx)
 ns:h.Ns1 dx mA
 ne:dx≠x
theorem SX{h:Heap}{dx:Addr}{mA:Str->Option Value}(n:h.Ns1 dx mA):∃od,h.get? dx=some od/\∀name,PySem.W.lookIn name od=some (mA name):=by
 obtain⟨o,es,ep,ho,hd,hk,_,hm⟩:=n
 refine⟨o,ho,fun name=>?_⟩
 have e:=hm name
 unfold nsFind findBy at e
 rw[←Array.find?_toList]at e
 unfold PySem.W.lookIn
 rw[hd]
 dsimp only
 split
 ·rename_i y q
  rw[q]at e
  exact congrArg some e
 ·rename_i q
  rw[q]at e
  have a:es.toList.any (·.refKey)=false:=by
   rw[List.any_eq_false]
   intro y hy
   obtain⟨z,t,hkey⟩:=hk y (Array.mem_toList_iff.mp hy)
   simp[DictEntry.refKey,hkey]
  have a':¬es.toList.any (·.refKey)=true:=by rw[a];exact Bool.false_ne_true
  rw[if_neg a']
  exact congrArg some e
theorem de.look{h:Heap}{x dx C:Addr}{mA:Str->Option Value}(I:de h x dx C mA):∃od,PySem.W.InstAt h x (PySem.W.instObj C dx) C (some od)/\∀name,PySem.W.lookIn name od=some (mA name):=
 let⟨od,ho,hl⟩:=SX I.ns
 ⟨od,⟨I.obj,rfl,rfl,ho⟩,hl⟩
section
variable{prog:Program}{w:World}{A:Around}{E:Value->Shared->Prop}{s:Shared}{K:PySem.W.Frag}{x dx C f:Addr}{mA:Str->Option Value}{name:Str}{v:Value}
end
section
variable{P:Program}{w:World}{H H':Hp}{h h':Heap}{a C dx:Addr}{fs fs':List (Str×V)}
theorem YQ(hok:HOk P w H h)(e:H a=some (.ins C dx fs)):∃mA,de h a dx C mA/\(∀f,bY (fs.lookup f) (mA f))/\PySem.Within mA (fs.map (·.1))/\fs.length≤1000/\H dx=some (.own a):=by
 obtain⟨d,z,ne,ob,mA,n,r,q⟩:=(show F9 P w H h a (.ins C dx fs)from hok a _ e)
 exact⟨mA,⟨ob,n,ne⟩,r,q,z,d⟩
end
structure Cls(K:PySem.W.Frag)(C:Addr):Prop where
 pg:PySem.W.plainGet K C Str.empty=true
 hd:PySem.W.hasDictIn K C=true
 po:PySem.W.plainOver K C=true
 sa:PySem.W.findIn K (.ref C) "__setattr__"=some (some (.builtin "object.__setattr__"))
theorem Cls.get{K:PySem.W.Frag}{C:Addr}(c:Cls K C)(f:Str):PySem.W.plainGet K C f=true:=c.pg
structure Con(K:PySem.W.Frag)(C:Addr)(f:Str)(v:V)(u:Value):Prop where
 at_:PySem.W.findIn K (.ref C) f=some (some u)
 rel:RelV v u
 get:PySem.W.specialIn K u "__get__"=some none
 cp:PySem.W.copiedNames.contains f=false
structure Meth(K:PySem.W.Frag)(C:Addr)(m:Str)(f:Addr):Prop where
 at_:PySem.W.findIn K (.ref C) m=some (some (.ref f))
 fn:PySem.W.isFn K (.ref f)=true
 kp:PySem.W.keepIn K (.ref f)=true
section
variable{X:Cx}{pins:List (Addr×Obj)}{σ:St}{H:Hp}{s:Shared}{a C dx:Addr}{fs:List (Str×V)}{f:Str}{v:V}{A:Around}{E:Value->Shared->Prop}
end
section
variable{X:Cx}{o e value:Expr}{f:Str}{pos pos' tpos:Pos}{ta tv:TE}
end
section
variable{X:Cx}{pins:List (Addr×Obj)}{σ:St}{H:Hp}{s:Shared}{A:Around}{E:Value->Shared->Prop}{Q:Value->Shared->Prop}{c:Value}{b:Bool}
inductive Q3(K:PySem.W.Frag)(H:Hp):V->Value->Prop where
 |non:Q3 K H .non (.type "NoneType")
 |bl (x:Bool):Q3 K H (.bl x) (.type "bool")
 |int (i:Int):Q3 K H (.int i) (.type "int")
 |str (x:Str):Q3 K H (.str x) (.type "str")
 |flt (x:UInt64):Q3 K H (.flt x) (.type "float")
 |lst {a:Addr} {xs:List V} (e:H a=some (.lst xs)):Q3 K H (.ref a) (.type "list")
 |frz {a:Addr} {o:Obj} {xs:List V} (e:H a=some (.frz o (.lst xs))):Q3 K H (.ref a) (.type "list")
 |tup {a:Addr} {xs:List V} (e:H a=some (.tup xs)):Q3 K H (.ref a) (.type "tuple")
 |dK {a:Addr} {kvs:List (Key×V)} (e:H a=some (.dK kvs)):Q3 K H (.ref a) (.type "dict")
 |dT {a:Addr} {kvs:List (List Key×V)} (e:H a=some (.dT kvs)):Q3 K H (.ref a) (.type "dict")
 | ins {a C dx : Addr} {fs : List (Str × V)} (e : H a = some (.ins C dx fs)) (cl : Cls K C) (ha : PySem.W.findIn K (.ref C) "__class__" = some (some (.builtin "object.__class__")))
   (hn:PySem.W.specialIn K (.builtin "object.__class__") "__get__"=some (some (.builtin "getset_descriptor.__get__"))) (htk:PySem.W.takesIn K (.builtin "object.__class__")=some true)
   (hm:PySem.W.mroIn K C (.type "object")=some true):Q3 K H (.ref a) (.ref C)
theorem FU{x:V}{u t:Value}(I:Inv X pins σ H s)(rx:RelV x u)(ty:Q3 X.K H x t)(e:PySem.W.kitOne X.K t c=some b)(h:∀tk,Q (.bool b) {s with toks:=tk}):
    wpAny (model X.prog X.w) A (call (.builtin "isinstance") [u,c]) Q E s:=by
  cases ty with
  |non=>cases (show u=Value.none from rx);exact PySem.W.kia_one PySem.W.kitx_none I.kIn True.intro e (fun z=>nomatch z) h
  |bl y=>cases (show u=Value.bool y from rx);exact PySem.W.kia_one PySem.W.kitx_bool I.kIn True.intro e (fun z=>nomatch z) h
  |int i=>obtain⟨t,q⟩:=(show∃t,u=Value.int i t from rx);cases q;exact PySem.W.kia_one PySem.W.kitx_int I.kIn True.intro e (fun z=>nomatch z) h
  |str y=>obtain⟨t,q⟩:=(show∃t,u=Value.str y t from rx);cases q;exact PySem.W.kia_one PySem.W.kitx_str I.kIn True.intro e (fun z=>nomatch z) h
  |flt y=>obtain⟨t,q⟩:=(show∃t,u=Value.float y t from rx);cases q;exact PySem.W.kia_one PySem.W.kitx_float I.kIn True.intro e (fun z=>nomatch z) h
  | @lst a xs ea=>
    cases (show u=Value.ref a from rx)
    obtain⟨_,_,n,_,h1⟩:=(show F9 X.prog X.w H s.heap a (.lst xs)from I.hok a _ ea)
    exact PySem.W.kia_one PySem.W.kitx_list I.kIn ⟨_,h1,rfl⟩ e (fun z=>nomatch z) h
  | @frz a ob xs ea=>
    cases (show u=Value.ref a from rx)
    obtain⟨_,_,_,n,_,h1⟩:=(show F9 X.prog X.w H s.heap a (.frz ob (.lst xs))from I.hok a _ ea)
    exact PySem.W.kia_one PySem.W.kitx_list I.kIn ⟨_,h1,rfl⟩ e (fun z=>nomatch z) h
  | @tup a xs ea=>
    cases (show u=Value.ref a from rx)
    obtain⟨_,_,_,p⟩:=(show F9 X.prog X.w H s.heap a (.tup xs)from I.hok a _ ea)
    obtain⟨o,h1,h2,_⟩:=p
    exact PySem.W.kia_one PySem.W.kitx_tuple I.kIn ⟨o,h1,h2⟩ e (fun z=>nomatch z) h
  | @dK a kvs ea=>
    cases (show u=Value.ref a from rx)
    obtain⟨_,_,vs,_,p⟩:=(show F9 X.prog X.w H s.heap a (.dK kvs)from I.hok a _ ea)
    obtain⟨o,es,ep,h1,h2,_⟩:=p
    exact PySem.W.kia_one PySem.W.kitx_dict I.kIn ⟨o,h1,h2.1⟩ e (fun z=>nomatch z) h
  | @dT a kvs ea=>
    cases (show u=Value.ref a from rx)
    obtain⟨_,_,xs,_,o,es,ep,h1,h2,_⟩:=(show F9 X.prog X.w H s.heap a (.dT kvs)from I.hok a _ ea)
    exact PySem.W.kia_one PySem.W.kitx_dict I.kIn ⟨o,h1,h2.1⟩ e (fun z=>nomatch z) h
  | @ins a C dx fs ea cl ha hn htk hm=>
    cases (show u=Value.ref a from rx)
    obtain⟨mA,O,_⟩:=YQ I.hok ea
    obtain⟨od,J,_⟩:=O.look
    exact PySem.W.kia_one (PySem.W.kitx_own (cl.get _) cl.hd ha hn htk hm) I.kIn J e (fun z=>nomatch z) h
end
end L2
namespace L2
open PySem PySem.Spec PyProof.Rows
structure MT(k:Nat)(A:Around):Prop where
 hd:A.handled=none
 dp:A.depth+3*k+5<recursionLimit
 un:A.units+16*k+200<cLine
theorem MT.mono{j k:Nat}{A:Around}(r:MT k A)(h:j≤k):MT j A:=⟨r.hd,by have:=r.dp;omega,by have:=r.un;omega⟩
theorem MT.deeper{k:Nat}{A:Around}(r:MT (k+1) A)(env:Env):MT k (A.deeper env):=
 ⟨r.hd,by have:=r.dp;show A.depth+1+3*k+5<_;omega,by have:=r.un;show A.units+3+16*k+200<_;omega⟩
theorem MT.depth{k:Nat}{A:Around}(r:MT k A):A.depth<recursionLimit:=by have:=r.dp;omega
noncomputable def eW:TA:=fun _ H Q=>Q [] H
noncomputable def aM(ta:TE)(tr:TA):TA:=fun σ H Q=>ta σ H fun x H1=>tr σ H1 fun xs H2=>Q (x::xs) H2
section
variable{X:Cx}{e:Expr}{es:List Expr}{te:TE}{t:TA}{pos:Pos}
theorem RL:PA X [] eW:=fun _ _ _ _ H Q I h=>Calls.spliced_nil ⟨[],H,I,.nil,h⟩
theorem NM(ha:PE X e te)(hr:PA X es t)(hs:starEach (e::es) X.env=(false,eval e X.env)::starEach es X.env:=by rfl):PA X (e::es) (aM te t):=by
 intro pos pins s σ H Q I h
 rw[hs]
 show wpAny _ _ (spliced ((false,eval e X.env)::backTo pos (starEach es X.env))) _ _ s
 refine Calls.spliced_cons (thn (ha pins s σ H _ I h) fun u s1 ⟨x,H1,I1,r1,q1⟩=>?_)
 exact thn (hr pos pins s1 σ H1 _ I1 q1) fun us s2 ⟨xs,H2,I2,r2,q2⟩=>⟨x::xs,H2,I2,.cons r1 r2,q2⟩
noncomputable def gq(t:TA):TE:=fun σ H Q=>t σ H fun xs H1=>xs.length≤sizeLine/\∀p,H1 p=none->Q (.ref p) (upd H1 p (.tup xs))
noncomputable def gj(t:TA):TE:=fun σ H Q=>t σ H fun xs H1=>xs.length≤sizeLine/\∀p,H1 p=none->Q (.ref p) (upd H1 p (.lst xs))
theorem Z2{x1}(h:PA X es t):PE X (.Tuple es x1 pos) (gq t):=by
 intro pins s σ H Q I hq
 refine wpAny_Tuple_spliced (thn (h pos pins s σ H _ I hq) fun us s1 ⟨xs,H1,I1,r,z,q⟩=>⟨by rw[←r.length];exact z,?_⟩)
 have hf:H1 s1.heap.objs.size=none:=I1.hok.fresh (Nat.le_refl _)
 refine⟨.ref s1.heap.objs.size,upd H1 s1.heap.objs.size (.tup xs),I1.laid (t':=s1.toks) (fun b u e=>Heap.get?_push_of_some _ e) (Nat.le_refl _) ?_,rfl,q _ hf⟩
 exact⟨z,us,r,⟨_,Heap.get?_push_size _ rfl,rfl,_,rfl⟩⟩
theorem aG(h:PA X es t):PE X (.List es pos) (gj t):=by
 intro pins s σ H Q I hq
 refine wpAny_List_spliced (thn (h pos pins s σ H _ I hq) fun us s1 ⟨xs,H1,I1,r,z,q⟩=>⟨by rw[←r.length];exact z,?_⟩)
 have hf:H1 s1.heap.objs.size=none:=I1.hok.fresh (Nat.le_refl _)
 refine⟨.ref s1.heap.objs.size,upd H1 s1.heap.objs.size (.lst xs),I1.laid (t':=s1.toks) (fun b u e=>Heap.get?_push_of_some _ e) (Nat.le_refl _) ?_,rfl,q _ hf⟩
 exact⟨z,us,0,r,Heap.get?_push_size _ rfl⟩
end
abbrev Sp:=List V->Hp->VK->XK->Prop
abbrev CXT:=List Env->Hp->Shared->XK->Value->Shared->Prop
structure bT(P:Program)(w:World)(K:PySem.W.Frag)(mg:Str->Option Value)(base:Heap)(A:Around)(outer:List Env)(s:Shared)(H:Hp):Prop where
 frames:A.frames=some outer
 mod:Mod K mg base
 bs:∀b o,base.get? b=some o->s.heap.get? b=some o/\H b=none
 bsz:base.objs.size≤s.heap.objs.size
 funs:s.heap.FunFrames base outer
 frf:∀b∈frs outer,H b=none
 hok:HOk P w H s.heap
 bare:AllBare s.gens
def CE(outer:List Env)(P:Program)(w:World)(H:Hp)(s:Shared)(Q:VK)(u:Value)(s':Shared):Prop:=
 ∃v H',s'.os=s.os/\AllBare s'.gens/\Un (frs outer) [] H H' s.heap s'.heap/\HOk P w H' s'.heap/\RelV v u/\Q v H'
def CR(CX:CXT)(outer:List Env)(P:Program)(w:World)(H:Hp)(s:Shared)(Q:VK)(E:XK)(r:Result)(s':Shared):Prop:=
 match r with
 | .ok (.ret u)=>CE outer P w H s Q u s'
 | .ok _=>False
 | .error e=>CX outer H s E e s'
structure Om(P:Program)(w:World)(K:PySem.W.Frag)(mg:Str->Option Value)(base:Heap)(CX:CXT)(k:Nat)(f:Addr)(fd:FuncData)(ps:List Str)(sp:Sp):Prop where
 len:∀vs H Q E,sp vs H Q E->vs.length=ps.length
 run:∀(A:Around) (outer:List Env) (s:Shared) (H:Hp) (args:Args) (us:List Value) (vs:List V) (Q:VK) (E:XK),MT k A->bT P w K mg base A outer s H->BindsTo s fd args (ps.zip us)->Vals vs us->sp vs H Q E->
  codeAny (model P w) A (.call (.ref f) args) (CR CX outer P w H s Q E) s
theorem Om.imp{P:Program}{w:World}{K:PySem.W.Frag}{mg:Str->Option Value}{base:Heap}{CX:CXT}{k:Nat}{f:Addr}{fd:FuncData}{ps:List Str}{sp sp':Sp}(F:Om P w K mg base CX k f fd ps sp)
  (h:∀vs H Q E,sp' vs H Q E->sp vs H Q E):Om P w K mg base CX k f fd ps sp':=
 ⟨fun vs H Q E q=>F.len vs H Q E (h _ _ _ _ q),fun A outer s H args us vs Q E hr he hb hv hs=>F.run A outer s H args us vs Q E hr he hb hv (h _ _ _ _ hs)⟩
section
variable{X:Cx}{pins:List (Addr×Obj)}{σ:St}{H:Hp}{s s':Shared}
theorem Inv.env0(I:Inv X pins σ H s):bT X.prog X.w X.K X.mg X.base X.A X.stack s H:=
 ⟨I.ok.frames,I.ok.mod,I.bs,Nat.le_trans I.ok.bsz I.sz,I.stack,I.stkFree,I.hok,I.bare⟩
theorem Inv.after{Q:VK}{u:Value}(I:Inv X pins σ H s)(h:CE X.stack X.prog X.w H s Q u s'):EP X pins σ Q u s':=by
 obtain⟨v,H',os,bare,un,hok,r,q⟩:=h
 obtain⟨hh,g,d,t,os'⟩:=s'
 obtain rfl:os'=s.os:=os
 exact⟨v,H',I.call (h':=hh) (g':=g) (d':=d) (t':=t) (ch:=[]) un hok bare (fun b z=>absurd z (by simp)),r,q⟩
end
noncomputable def Xt(sp:Sp)(dvs:List V)(E:XK)(t:TA):TE:=fun σ H Q=>t σ H fun vs H1=>sp (vs++dvs) H1 Q E
def Binds(K:PySem.W.Frag)(fd:FuncData)(ps:List Str)(ds:List Value):Prop:=
 ∀(s:Shared) (us:List Value),K.In s.heap->(us++ds).length=ps.length->BindsTo s fd ⟨us,[]⟩ (ps.zip (us++ds))
theorem Binds.all{K:PySem.W.Frag}{fd:FuncData}{ps:List Str}(h:∀us:List Value,us.length=ps.length->bindArgs fd ⟨us,[]⟩=pure (ps.zip us)):Binds K fd ps []:=fun s us _ hl=>by
 rw[List.append_nil]at hl⊢
 exact .of_eq (h us hl)
def Passes(CX:CXT)(X:Cx)(E:XK):Prop:=∀(pins:List (Addr×Obj)) (σ:St) (H:Hp) (s:Shared) (e:Value) (s':Shared),Inv X pins σ H s->CX X.stack H s E e s'->X.xe e s'
section
variable{X:Cx}{CX:CXT}{k:Nat}{f C:Addr}{fd:FuncData}{ps:List Str}{sp:Sp}{dvs:List V}{ds:List Value}{E:XK}{x m:Str}{p pos apos:Pos}{e o:Expr}{es:List Expr}{ta:TE}{t:TA}
theorem aJ{pins:List (Addr×Obj)}{σ:St}{H:Hp}{s:Shared}{Q:VK}{us:List Value}{vs:List V}(F:Om X.prog X.w X.K X.mg X.base CX k f fd ps sp)(hr:MT k X.A)(hb:Binds X.K fd ps ds)(hd:Vals dvs ds)(hx:Passes CX X E)
    (I:Inv X pins σ H s) (r:Vals vs us) (h:sp (vs++dvs) H Q E):wpAny (model X.prog X.w) X.A (call (.ref f) us) (EP X pins σ Q) X.xe s:=by
  have r2:Vals (vs++dvs) (us++ds):=r.append hd
  have hl:(us++ds).length=ps.length:=by rw[←r2.length];exact F.len _ _ _ _ h
  refine wpAny_call (codeAny_mono (F.run X.A X.stack s H ⟨us,[]⟩ (us++ds) (vs++dvs) Q E hr I.env0 (hb s us I.kIn hl) r2 h) fun r s' hq=>?_)
  cases r with
  |error e=>exact hx pins σ H s e s' I hq
  | ok fl =>
    cases fl with
    |ret u=>exact I.after hq
    |next=>exact False.elim hq
    |brk=>exact False.elim hq
    |cont=>exact False.elim hq
theorem XT(F:Om X.prog X.w X.K X.mg X.base CX k f fd ps sp)(hr:MT k X.A)(hg:Gl X x)(hm:X.mg x=some (.ref f))(hk:PySem.W.keepIn X.K (.ref f)=true)(hb:Binds X.K fd ps ds)(hd:Vals dvs ds)(hx:Passes CX X E)
  (ha:PA X (e::es) t) (hdb:(x==("__debug__":Str))=false:=by decide) (he:starEach (e::es) X.env=(false,eval e X.env)::starEach es X.env:=by rfl) (hpl:(backTo pos (starEach es X.env)).any (·.1)=false:=by rfl):
  PE X (.Call (.Name x p) (e::es) [] pos) (Xt sp dvs E t):=by
 intro pins s σ H Q I h
 refine wpAny_Call_Name_kw (SG I hg hm ?_ hdb)
 refine PySem.W.callWith_K (h₀:=X.base) I.ok.mod.kin hk (thn (ha pos pins s σ H _ I h) fun us s1 ⟨vs,H1,I1,r,q⟩=>⟨I1.kIn,?_⟩) he hpl
 exact aJ F hr hb hd hx I1 r q
structure Mk(K:PySem.W.Frag)(C f:Addr):Prop where
 makes:PySem.W.makesIn K C=true
 init:PySem.W.findIn K (.ref C) "__init__"=some (some (.ref f))
 fn:PySem.W.isFn K (.ref f)=true
 kp:PySem.W.keepIn K (.ref C)=true
end
section
variable{X:Cx}{CX:CXT}{k:Nat}{f C:Addr}{fd:FuncData}{ps ks:List Str}{sp:Sp}{E:XK}{x m:Str}{p pos apos kpos:Pos}{e o:Expr}{es:List Expr}{kws:List Keyword}{te ta:TE}{t tk:TA}{nm:Option Str}
structure fE(K:PySem.W.Frag)(fd:FuncData)(ps ks:List Str)(g:List Value->List Value->List Value)(gV:List V->List V->List V):Prop where
 to:∀(s:Shared) (us ws:List Value),K.In s.heap->(g us ws).length=ps.length->BindsTo s fd ⟨us,ks.zip ws⟩ (ps.zip (g us ws))
 rel:∀{vs:List V} {us:List Value} {zs:List V} {ws:List Value},Vals vs us->Vals zs ws->Vals (gV vs zs) (g us ws)
variable{g:List Value->List Value->List Value}{gV:List V->List V->List V}
end
structure AU(N P:List Str)(sc:Scope):Prop where
 kind:sc.kind=.function
 co:sc.isCoroutine=false
 gen:sc.isGenerator=false
 nd:N.Nodup
 pre:N.take P.length=P
 par:∀x∈P,sc.names.lookup x=some .local∨sc.names.lookup x=some .cell
 nofree:∀y∈sc.names,y.2≠.free
theorem Oa{kindOf:Str->Option NameKind}{x:Str}:∀{binds:List (Str×Value)} {m:Str->Option Value},(∀v,(x,v)∉binds)->bindL kindOf binds m x=m x
  | [],_,_=>rfl
  | (n, v) :: r, m, h => by
    unfold bindL
    rw[Oa fun w hw=>h w (List.mem_cons_of_mem _ hw)]
    split
    · have : x ≠ n := by rintro rfl; exact h v List.mem_cons_self
      simp[this]
    ·rfl
theorem OR{kindOf:Str->Option NameKind}{x:Str}:∀{binds:List (Str×Value)} {m:Str->Option Value},(∀v,(x,v)∉binds)->bindC kindOf binds m x=m x
  | [],_,_=>rfl
  | (n, v) :: r, m, h => by
    unfold bindC
    rw[OR fun w hw=>h w (List.mem_cons_of_mem _ hw)]
    split
    ·rfl
    · have : x ≠ n := by rintro rfl; exact h v List.mem_cons_self
      simp[this]
theorem Ov{kindOf:Str->Option NameKind}{x:Str}{v:Value}:∀{P:List Str} {vs:List Value} {i:Nat} {m:Str->Option Value},P.Nodup->P[i]?=some x->vs[i]?=some v->kindOf x=some .local->
    bindL kindOf (P.zip vs) m x=some v
  | [],_,_,_,_,h,_,_=>by simp at h
  |_::_,[],_,_,_,_,h,_=>by simp at h
  | p :: P, w :: vs, 0, m, nd, h1, h2, hk => by
    simp at h1 h2;subst h1;subst h2
    show bindL kindOf ((p,w)::P.zip vs) m p=_
    unfold bindL
    rw[Oa fun v hv=>(List.nodup_cons.mp nd).1 (List.of_mem_zip hv).1,if_pos hk]
    simp
  | p :: P, w :: vs, i + 1, m, nd, h1, h2, hk => by
    show bindL kindOf ((p,w)::P.zip vs) m x=_
    unfold bindL
    exact Ov (i:=i) (List.nodup_cons.mp nd).2 (by simpa using h1) (by simpa using h2) hk
theorem Oi{kindOf:Str->Option NameKind}{x:Str}{v:Value}:∀{P:List Str} {vs:List Value} {i:Nat} {m:Str->Option Value},P.Nodup->P[i]?=some x->vs[i]?=some v->kindOf x≠some .local->
    bindC kindOf (P.zip vs) m x=some v
  | [],_,_,_,_,h,_,_=>by simp at h
  |_::_,[],_,_,_,_,h,_=>by simp at h
  | p :: P, w :: vs, 0, m, nd, h1, h2, hk => by
    simp at h1 h2;subst h1;subst h2
    show bindC kindOf ((p,w)::P.zip vs) m p=_
    unfold bindC
    rw[OR fun v hv=>(List.nodup_cons.mp nd).1 (List.of_mem_zip hv).1,if_neg hk]
    simp
  | p :: P, w :: vs, i + 1, m, nd, h1, h2, hk => by
    show bindC kindOf ((p,w)::P.zip vs) m x=_
    unfold bindC
    exact Oi (i:=i) (List.nodup_cons.mp nd).2 (by simpa using h1) (by simpa using h2) hk
noncomputable def start(N:List Str)(vs:List V):St:=vs.map some++List.replicate (N.length-vs.length) none
noncomputable def WR(CX:CXT)(P:Program)(w:World)(K:PySem.W.Frag)(mg:Str->Option Value)(base:Heap)(N:List Str)(qual:Str)(scope:Scope)(f:Addr)(cd:Value)(A:Around)(outer:List Env)(s:Shared)(H:Hp)(E:XK):Cx where
 prog:=P
 w:=w
 K:=K
 mg:=mg
 base:=base
 A:=A.deeper (envOfC qual scope s.heap.objs.size f cd)
 N:=N
 s₀:=s
 H₀:=H
 env:=envOfC qual scope s.heap.objs.size f cd
 outer:=outer
 stack:=envOfC qual scope s.heap.objs.size f cd::outer
 ex:=[]
 calm:=true
 fn:=fun _=>true
 pn:=[]
 xe:=fun e s'=>wpAny (model P w) (A.deeper (envOfC qual scope s.heap.objs.size f cd)) (leaving (envOfC qual scope s.heap.objs.size f cd) e) (fun _ s''=>CX outer H s E e s'') (fun e' s''=>CX outer H s E e' s'') s'
theorem KZ{sc:Scope}{n:Nat}{x:Str}(h:sc.names.lookup x=some .cell):∃c,(cellsFrom n sc.names []).lookup x=some c:=by
 have q:=PySem.W.cellsFrom_some sc.names n [] (.inl h)
 exact Option.isSome_iff_exists.mp q
theorem RU{CX:CXT}{P:Program}{w:World}{K:PySem.W.Frag}{mg:Str->Option Value}{base:Heap}{N ps:List Str}{qual:Str}{scope:Scope}{f:Addr}{cd:Value}{A:Around}{outer:List Env}{s s1:Shared}{H:Hp}{E:XK}{us:List Value}{vs:List V}
  (S:AU N ps scope) (hd:A.handled=none) (e0:bT P w K mg base A outer s H) (hl:vs.length=ps.length) (r:Vals vs us)
  (x:InCallC s s.heap.objs.size (bindL (envOfC qual scope s.heap.objs.size f cd).kindOf (ps.zip us) fun _=>none) (cellsFrom (s.heap.objs.size+1) scope.names []) (bindC (envOfC qual scope s.heap.objs.size f cd).kindOf (ps.zip us) fun _=>none) s1):
  Inv (WR CX P w K mg base N qual scope f cd A outer s H E) [] (start N vs) H s1:=by
 have hpl:ps.length≤N.length:=by have:=congrArg List.length S.pre;rw[List.length_take]at this;omega
 obtain⟨h1,tk,rfl,hk⟩:=x.done
 have noA:∀b:Addr,b∉(WR CX P w K mg base N qual scope f cd A outer s H E).ex:=fun b z=>absurd (show b∈([]:List Addr)from z) (by simp)
 refine⟨⟨e0.mod,S.kind,rfl,rfl,Nat.le_refl _,fun y z c h1 h2=>?_,fun y hy=>?_,fun y c _ h=>?_,fun _=>hd,Around.frames_deeper e0.frames,.inr ⟨rfl,rfl⟩,fun b z=>absurd z (noA b),e0.bs,e0.bsz,fun b _ _=>noA b,fun b z=>absurd z (noA b),e0.funs,e0.frf⟩,
  rfl,e0.bare,Un.kept hk,⟨_,x.toInCall.ns,fun i y v h1 h2 h3=>?_⟩,fun y c h=>⟨_,x.cell y c h⟩,e0.hok.fresh (Nat.le_refl _),fun y c h=>?_,fun p hp=>absurd (show p∈([]:List (Addr×Obj))from hp) (by simp),e0.hok.kept hk,?_⟩
 ·exact name_of_addr x.apart (PySem.mem_of_lookup h1) (PySem.mem_of_lookup h2)
 ·have hy:scope.names.lookup y=some .cell∨scope.names.lookup y=some .free:=hy
  rcases hy with hy|hy
  ·exact KZ hy
  ·exact absurd rfl (S.nofree _ (PySem.mem_of_lookup hy))
 ·exact Nat.le_of_lt (x.above y c (PySem.mem_of_lookup h))
 ·have hi:i<vs.length:=by
   unfold start at h2
   by_cases hi:i<vs.length
   ·exact hi
   ·rw[List.getElem?_append_right (by simpa using hi)]at h2
    rw[List.getElem?_replicate]at h2
    split at h2<;>cases h2
  have ha:vs[i]?=some v:=by
   unfold start at h2
   rw[List.getElem?_append_left (by simpa using hi),List.getElem?_map]at h2
   cases e:vs[i]? with
   |none=>rw[e]at h2;cases h2
   |some a=>rw[e]at h2;cases h2;rfl
  obtain⟨u,hu,rv⟩:=r.get ha
  have hp:ps[i]?=some y:=by
   rw[←S.pre,List.getElem?_take_of_lt (by omega)];exact h1
  have ndP:ps.Nodup:=by rw[←S.pre];exact S.nd.sublist (List.take_sublist _ _)
  refine⟨u,rv,?_⟩
  rcases S.par y (List.mem_of_getElem? hp)with k|k
  ·exact .inl ⟨k,Ov ndP hp hu k⟩
  ·obtain⟨c,e⟩:=KZ (n:=s.heap.objs.size+1) k
   refine .inr ⟨.inl k,c,e,?_⟩
   have q:=x.cell y c e
   rw[Oi ndP hp hu (by show scope.names.lookup y≠_;rw[k];decide)]at q
   exact q
 ·exact e0.hok.fresh (Nat.le_of_lt (x.above y c (PySem.mem_of_lookup h)))
 ·unfold start
  show _=N.length
  rw[List.length_append,List.length_map,List.length_replicate]
  omega
theorem dD{CX:CXT}{P:Program}{w:World}{K:PySem.W.Frag}{mg:Str->Option Value}{base:Heap}{k:Nat}{f:Addr}{name qual:Str}{params:Arguments}{body:List Stmt}{scope:Scope}{dV kV doc pm cdv ct oc:Value}{an od:Option Addr}
    {osl:Array (Option Value)} {N ps:List Str} {sp:Sp} (lk:K.lookup f=some ⟨oc,od,.func (PySem.W.fnOf name qual params body scope dV kV doc pm an cdv ct),osl⟩) (hcd:PySem.W.codeIn K cdv qual=true) (S:AU N ps scope)
    (len:∀vs H Q E,sp vs H Q E->vs.length=ps.length)
    (hbody:∀(A:Around) (outer:List Env) (s:Shared) (H:Hp) (vs:List V) (Q:VK) (E:XK),MT k (A.deeper (envOfC qual scope s.heap.objs.size f cdv))->sp vs H Q E->
      ∃t,PSs (WR CX P w K mg base N qual scope f cdv A outer s H E) body t/\t {nx:=fun _ H'=>Q .non H',rt:=Q} (start N vs) H):
    Om P w K mg base CX (k+1) f (PySem.W.fnOf name qual params body scope dV kV doc pm an cdv ct) ps sp:=by
  refine⟨len,fun A outer s H args us vs Q E hr e0 hb r hsp=>?_⟩
  have hl:=len _ _ _ _ hsp
  have KX:K.In s.heap:=e0.mod.kin.keeps fun b o e=>(e0.bs b o e).1
  have lim:s.heap.NoLimit:=e0.mod.nolimit.keeps fun b o e=>(e0.bs b o e).1
  have hkind:∀y∈ps.zip us,scope.names.lookup y.1=some .local∨(scope.names.lookup y.1=some .cell/\((cellsFrom (s.heap.objs.size+1) scope.names []).lookup y.1).isSome=true):=fun⟨n,v⟩ hy=>by
    rcases S.par n (List.of_mem_zip hy).1 with q|q
    ·exact .inl q
    ·exact .inr ⟨q,PySem.W.cellsFrom_some _ _ _ (.inl q)⟩
  refine codeAny_call_function hr.depth (KX _ _ lk) rfl S.co S.gen rfl (PySem.W.codeRec_of KX hcd) (hb _ _ _ _ ?_)
  refine wpAny_newFunctionEnv_cells S.kind hkind fun env he s1 x=>?_
  subst he
  refine⟨lim.keeps x.toInCall.keep,codeAny_func ?_⟩
  obtain⟨t,ht,hq⟩:=hbody A outer s H vs Q E (hr.deeper _) hsp
  have I:Inv (WR CX P w K mg base N qual scope f cdv A outer s H E) [] (start N vs) H s1:=RU S hr.hd e0 hl r x
  refine wpAny_mono (ht [] s1 (start N vs) H _ I hq) (fun fl s' hs=>?_) fun e s' hs=>hs
  have fin:∀{σ':St} {H':Hp} {v:V} {u:Value},Inv (WR CX P w K mg base N qual scope f cdv A outer s H E) [] σ' H' s'->RelV v u->Q v H'->CE outer P w H s Q u s':=
    fun{σ' H' v u} J rv q=>⟨v,H',J.os,J.bare,J.base,J.hok,rv,q⟩
  cases fl with
  | ret u =>
    obtain⟨v,σ',H',J,rv,q⟩:=hs
    exact fin J rv q
  | next =>
    obtain⟨σ',H',J,q⟩:=hs
    exact fin (v:=V.non) (u:=Value.none) J rfl q
  | brk =>
    obtain⟨_,_,_,q⟩:=hs
    exact False.elim q
  | cont =>
    obtain⟨_,_,_,q⟩:=hs
    exact False.elim q
end L2
namespace L2
open PySem PySem.Spec PyProof.Rows
section
variable{X:Cx}{x:Str}{p pos:Pos}{e:Expr}{es:List Expr}{t:TA}{id T:String}{r:List V->Hp->VK->Prop}
noncomputable def tCB(r:List V->Hp->VK->Prop)(t:TA):TE:=fun σ H Q=>t σ H fun vs H1=>r vs H1 Q
theorem VA(hc:Eb X (.builtin id) r)(hg:Gl X x)(hm:X.mg x=none)(hv:bootBuiltins x=some (.builtin id))(ha:PA X (e::es) t)(hn:x≠ "__name__":=by decide)(hdb:(x==("__debug__":Str))=false:=by decide)
  (he:starEach (e::es) X.env=(false,eval e X.env)::starEach es X.env:=by rfl) (hpl:(backTo pos (starEach es X.env)).any (·.1)=false:=by rfl):PE X (.Call (.Name x p) (e::es) [] pos) (tCB r t):=by
 intro pins s σ H Q I h
 refine wpAny_Call_Name_kw (J0 I hg hm hv ?_ hn hdb)
 exact PyProof.Rows.callWith_builtin1 (thn (ha pos pins s σ H _ I h) fun us s1 ⟨vs,H1,I1,r1,q1⟩=>hc pins s1 σ H1 vs us Q I1 r1 q1) he hpl
theorem Ru(hc:Eb X (.type T) r)(hg:Gl X x)(hm:X.mg x=none)(hv:bootBuiltins x=some (.type T))(ha:PA X (e::es) t)(hn:x≠ "__name__":=by decide)(hdb:(x==("__debug__":Str))=false:=by decide)
  (he:starEach (e::es) X.env=(false,eval e X.env)::starEach es X.env:=by rfl) (hpl:(backTo pos (starEach es X.env)).any (·.1)=false:=by rfl):PE X (.Call (.Name x p) (e::es) [] pos) (tCB r t):=by
 intro pins s σ H Q I h
 refine wpAny_Call_Name_kw (J0 I hg hm hv ?_ hn hdb)
 exact PyProof.Rows.callWith_type1 (thn (ha pos pins s σ H _ I h) fun us s1 ⟨vs,H1,I1,r1,q1⟩=>hc pins s1 σ H1 vs us Q I1 r1 q1) he hpl
end
end L2
namespace HT
open PySem PyProof.Rows
section
open PySem.SeqAt
open PySem.AutoSeq1 (wpAny_loadPart')
open PySem.MeetsSeq PySem.MeetsSeq2 PySem.MeetsSeq3
end
section
variable{prog:Program}{w:World}{A:Around}{E:Value->Shared->Prop}{s:Shared}
theorem Ya{t b:Addr}{vs ws:List Value}{Q:Value->Shared->Prop}(ht:IsTup s.heap t vs.toArray)(hb:IsTup s.heap b ws.toArray)(hv:vs≠[])
  (h1:ws=[]->Q (.ref t) s) (h2:ws≠[]->Q (.ref s.heap.objs.size) {s with heap:=s.heap.push {cls:=.type "tuple",data:=.seq (vs++ws).toArray}})
  (hsz:vs.length+ws.length≤sizeLine):wpAny (model prog w) A (binaryOp .Add (.ref t) (.ref b)) Q E s:=by
 obtain⟨⟨cls,dd,data,sl⟩,ho,hc,n,hd⟩:=id ht
 obtain⟨⟨cls2,dd2,data2,sl2⟩,ho2,hc2,n2,hd2⟩:=id hb
 simp only at hc hd hc2 hd2
 subst hc hd hc2 hd2
 have e:vs.toArray++ws.toArray=(vs++ws).toArray:=by simp
 by_cases hw:ws=[]
 ·exact concat_meets ⟨_,ho,rfl⟩ ⟨_,ho2,rfl⟩ noFill_tuple_add seq_tuple_add PySem.F.slot_tuple_add PySem.F.entry_tuple_add (PySem.F.args_tuple_add_2 _ _)
   (tuple_addW1 t b vs.toArray ws.toArray n n2 dd dd2 sl sl2 (by simpa using hv) (by simp[hw])) ⟨ho,ho2,h1 hw⟩
 ·refine concat_meets ⟨_,ho,rfl⟩ ⟨_,ho2,rfl⟩ noFill_tuple_add seq_tuple_add PySem.F.slot_tuple_add PySem.F.entry_tuple_add (PySem.F.args_tuple_add_2 _ _)
   (tuple_addW2 t b vs.toArray ws.toArray n n2 dd dd2 sl sl2 (by simpa using hv) (by simpa using hw) (by rw[List.size_toArray,List.size_toArray];exact hsz)) ⟨ho,ho2,?_⟩
  rw[e]
  exact h2 hw
noncomputable def sIx(n d:Nat):Option Int->Nat
 |none=>d
 |some v=>if v<0 then(v+(n:Int)).toNat else min v.toNat n
theorem PN(n d k:Nat):sIx n d (some (k:Int))=min k n:=by
 show(if(k:Int)<0 then((k:Int)+(n:Int)).toNat else min (k:Int).toNat n)=min k n
 rw[if_neg (by omega),Int.toNat_natCast]
theorem Y1(n d:Nat)(hd:d≤n)(o:Option Int):sIx n d o≤n:=by
  cases o with
  |none=>exact hd
  | some v =>
    show(if v<0 then(v+(n:Int)).toNat else min v.toNat n)≤n
    by_cases hv:v<0
    ·rw[if_pos hv];omega
    ·rw[if_neg hv];exact Nat.min_le_right _ _
theorem Rl(v:Int)(n d:Nat):(if v<0 then max (v+(n:Int)) 0 else min v (n:Int))=((sIx n d (some v):Nat):Int):=by
 show(if v<0 then max (v+(n:Int)) 0 else min v (n:Int))=(((if v<0 then(v+(n:Int)).toNat else min v.toNat n):Nat):Int)
 by_cases hv:v<0
 ·simp only[if_pos hv];omega
 ·simp only[if_neg hv];omega
theorem QS(lo hi:Option Int)(n:Nat):Builtin.Slice.sliceAdjust lo hi 1 (n:Int)=(((sIx n 0 lo:Nat):Int),((sIx n n hi:Nat):Int)):=by
 have h1:¬((1:Int)<0):=by omega
 unfold Builtin.Slice.sliceAdjust
 simp only[h1,if_false]
 refine Prod.ext ?_ ?_
 ·cases lo with
  |none=>rfl
  |some v=>exact Rl v n 0
 ·cases hi with
  |none=>rfl
  |some v=>exact Rl v n n
theorem Qc(i j:Nat):Builtin.Slice.slicePlaces (i:Int) (j:Int) 1=j-i:=by
 unfold Builtin.Slice.slicePlaces
 have h1:(1:Int)>0:=by omega
 simp only[h1,if_true,Int.ediv_one]
 split<;>omega
theorem MX{v:Value}{o:Option Int}{Q:Option Int->Shared->Prop}(p:IsPart v o)(h:Q o s):wpAny (model prog w) A (Builtin.Slice.slicePartIndex v) Q E s:=by
 cases p with
 |none=>exact slicePart_none h
 |int i t=>exact slicePart_int h
theorem Gq{sl:Addr}{vl vu:Value}{lo hi:Option Int}{n:Nat}{Q:Int×Int×Nat->Shared->Prop}(hs:s.heap.IsSliceOf sl vl vu .none)(pl:IsPart vl lo)(pu:IsPart vu hi)
  (h:Q (((sIx n 0 lo:Nat):Int),1,sIx n n hi-sIx n 0 lo) s):wpAny (model prog w) A (Builtin.Slice.sliceApplied (.ref sl) (pure (n:Int))) Q E s:=by
 obtain⟨os,hos,hcs,hds⟩:=id hs
 unfold Builtin.Slice.sliceApplied Builtin.Slice.sliceFields
 refine wpAny_bind (wpAny_bind (wpAny_field hos hds (x:=vl) rfl (wpAny_bind (wpAny_field hos hds (x:=vu) rfl (wpAny_bind (wpAny_field hos hds (x:=.none) rfl (wpAny_pure ?_)))))))
 refine wpAny_bind (slicePart_none ?_)
 show wpAny _ _ (if((1:Int)==0)=true then _ else _) _ _ s
 rw[if_neg (by decide)]
 refine wpAny_bind (MX pl (wpAny_bind (MX pu (wpAny_bind (wpAny_pure ?_)))))
 show wpAny _ _ (match Builtin.Slice.sliceAdjust lo hi 1 (n:Int)with|(lo,hi)=>pure (lo,(1:Int),Builtin.Slice.slicePlaces lo hi 1)) _ _ s
 rw[QS lo hi n]
 show wpAny _ _ (pure (((sIx n 0 lo:Nat):Int),(1:Int),Builtin.Slice.slicePlaces ((sIx n 0 lo:Nat):Int) ((sIx n n hi:Nat):Int) 1)) _ _ s
 rw[Qc]
 exact wpAny_pure h
theorem UN(xs:Array Value)(i k:Nat):((List.range k).filterMap fun(m:Nat)=>xs[((i:Int)+(m:Int)*1).toNat]?).toArray=((xs.toList.drop i).take k).toArray:=by
 have e:(fun(m:Nat)=>xs[((i:Int)+(m:Int)*1).toNat]?)=fun m=>xs[i+m]?:=by
  funext m
  have:((i:Int)+(m:Int)*1).toNat=i+m:=by omega
  rw[this]
 rw[e]
 have:=pick_run xs i k
 rw[List.filterMap_map]at this
 have e2:((fun x=>xs[x]?)∘fun x=>i+x)=fun m=>xs[i+m]?:=rfl
 rw[e2]at this
 rw[this]
theorem JP{t sl:Addr}{items:Array Value}{vl vu:Value}{lo hi:Option Int}{Q:Value->Shared->Prop}(ht:IsTup s.heap t items)(hs:s.heap.IsSliceOf sl vl vu .none)(pl:IsPart vl lo)(pu:IsPart vu hi)
  (hw:¬(sIx items.size 0 lo=0/\sIx items.size items.size hi=items.size))
  (h:Q (.ref s.heap.objs.size) {s with heap:=s.heap.push {cls:=.type "tuple",data:=.seq ((items.toList.drop (sIx items.size 0 lo)).take (sIx items.size items.size hi-sIx items.size 0 lo)).toArray}})
  (hsz:items.size≤sizeLine):wpAny (model prog w) A (getItem (.ref t) (.ref sl)) Q E s:=by
 have htake:sizeOk (.seq ((items.toList.drop (sIx items.size 0 lo)).take (sIx items.size items.size hi-sIx items.size 0 lo)).toArray):=by
  show((items.toList.drop (sIx items.size 0 lo)).take (sIx items.size items.size hi-sIx items.size 0 lo)).toArray.size≤sizeLine
  rw[List.size_toArray,List.length_take,List.length_drop,Array.length_toList]
  omega
 have hj:sIx items.size items.size hi≤items.size:=Y1 _ _ (Nat.le_refl _) hi
 obtain⟨os,hos,hcs,hds⟩:=id hs
 have hTs:s.TypeIs (.ref sl) "slice":=⟨os,hos,hcs⟩
 unfold getItem
 try with_reducible refine wpAny_holding ?_
 first|refine wpAny_bind (wpAny_pure ?_)|skip
 refine wpAny_bind (wpAny_sequenceKey ht.typeIs (by decide) ?_)
 refine wpAny_bind (wpAny_callSpecial?_slot (name:=Str.ofString "__getitem__") ht.typeIs PyProof.Rows.slot_tuple_getitem
  (wpAny_call_entry PyProof.Rows.slot_tuple_getitem ht.typeIs entry_tuple_getitem ?_ (args_tuple_getitem _ _)))
 show wpAny _ _ (Builtin.Tuple.tupleItemsOf (.ref t) >>= _) _ _ s
 refine wpAny_bind (tupleItemsOf_ ht ?_)
 refine wpAny_bind (wpAny_typeOf hTs ?_)
 rw[if_pos (by decide)]
 refine wpAny_bind (Gq hs pl pu ?_)
 have hno:¬((((sIx items.size 0 lo:Nat):Int)==0 && (1:Int)==1 && (sIx items.size items.size hi-sIx items.size 0 lo)==items.size)=true):=by
  intro q
  rw[Bool.and_eq_true,Bool.and_eq_true]at q
  have q1:((sIx items.size 0 lo:Nat):Int)=0:=eq_of_beq q.1.1
  have q2:sIx items.size items.size hi-sIx items.size 0 lo=items.size:=eq_of_beq q.2
  exact hw ⟨by omega,by omega⟩
 show wpAny _ _ (if(((sIx items.size 0 lo:Nat):Int)==0 && (1:Int)==1 && (sIx items.size items.size hi-sIx items.size 0 lo)==items.size)=true then _ else _) _ _ s
 rw[if_neg hno,UN]
 first
  |exact wpAny_bind (m:=Builtin.Tuple.tupleExact _) (wpAny_newObj_type (wpAny_pure ⟨_,rfl,wpAny_pure h⟩) htake)
  |exact wpAny_bind (m:=Builtin.Tuple.tupleExact _) (wpAny_newObj_type (wpAny_bind (wpAny_pure (wpAny_pure ⟨_,rfl,wpAny_pure h⟩))) htake)
  |exact wpAny_bind (wpAny_bind (m:=Builtin.Tuple.tupleExact _) (wpAny_newObj_type (wpAny_pure (wpAny_pure ⟨_,rfl,wpAny_pure h⟩)) htake))
  |exact wpAny_bind (wpAny_bind (m:=Builtin.Tuple.tupleExact _) (wpAny_newObj_type (wpAny_pure ⟨_,rfl,wpAny_pure h⟩) htake))
end
end HT
namespace L2
open PySem PySem.Spec PyProof.Rows
abbrev TO:=St->Hp->(Option Int->Hp->Prop)->Prop
def PO(X:Cx)(e:Option Expr)(t:TO):Prop:=
 ∀ (pins : List (Addr × Obj)) (s : Shared) (σ : St) (H : Hp) (Q : Option Int -> Hp -> Prop), Inv X pins σ H s -> t σ H Q ->
  wpAny (model X.prog X.w) X.A (evalPart e X.env) (fun u s'=>∃o H',Inv X pins σ H' s'/\IsPart u o/\Q o H') X.xe s
noncomputable def Xc:TO:=fun _ H Q=>Q none H
noncomputable def cc(t:TE):TO:=fun σ H Q=>t σ H fun x H1=>∃i,x=.int i/\Q (some i) H1
theorem intsAre_of{ns:List Int}:∀{us:List Value},Vals (ns.map V.int) us->IntsAre us ns:=by
  induction ns with
  |nil=>intro us r;rw[List.map_nil]at r;cases r;exact .nil
  | cons n ns ih =>
    intro us r
    rw[List.map_cons]at r
    cases r with
    | cons r1 r2 =>
      obtain⟨t,e⟩:=r1
      subst e
      exact .cons n t (ih r2)
section
variable{X:Cx}{e:Expr}{te:TE}{lo hi:Option Expr}{tl th:TO}{pos p2:Pos}
theorem SS:PO X none Xc:=by
 intro pins s σ H Q I h
 rw[evalPart_none]
 exact wpAny_pure ⟨none,H,I,.none,h⟩
theorem N4(h:PE X e te):PO X (some e) (cc te):=by
 intro pins s σ H Q I hw
 rw[evalPart_some]
 refine thn (h pins s σ H _ I hw) fun u s1 ⟨x,H1,I1,r1,q1⟩=>?_
 obtain⟨i,rfl,q⟩:=q1
 obtain⟨t,rfl⟩:=r1
 exact⟨some i,H1,I1,.int i t,q⟩
def SlR(X:Cx)(r:V->Option Int->Option Int->Hp->VK->Prop):Prop:=
 ∀ (pins : List (Addr × Obj)) (s : Shared) (σ : St) (H : Hp) (x : V) (v vl vu : Value) (lo hi : Option Int) (sl : Addr) (Q : VK), Inv X pins σ H s -> RelV x v -> s.heap.IsSliceOf sl vl vu .none -> IsPart vl lo -> IsPart vu hi -> r x lo hi H Q ->
  ∃T id,typeLookup (.type T) "__getitem__"=pure (some (.builtin id))/\s.TypeIs v T/\wpAny (model X.prog X.w) X.A (getItem v (.ref sl)) (EP X pins σ Q) X.xe s
noncomputable def tSl(r:V->Option Int->Option Int->Hp->VK->Prop)(te:TE)(tl th:TO):TE:=fun σ H Q=>te σ H fun x H1=>tl σ H1 fun l H2=>th σ H2 fun u H3=>r x l u H3 Q
theorem Ng{r:V->Option Int->Option Int->Hp->VK->Prop}(hr:SlR X r)(he:PE X e te)(hl:PO X lo tl)(hu:PO X hi th):PE X (.Subscript e (.Slice lo hi none p2) pos) (tSl r te tl th):=by
 intro pins s σ H Q I h
 refine Subscript_ (thn (he pins s σ H _ I h) fun v s1 ⟨x,H1,I1,r1,q1⟩=>?_)
 refine wpAny_Slice (thn (hl pins s1 σ H1 _ I1 q1) fun vl s2 ⟨l,H2,I2,pl,q2⟩=>thn (hu pins s2 σ H2 _ I2 q2) fun vu s3 ⟨u,H3,I3,pu,q3⟩=>?_)
 rw[evalPart_none]
 refine wpAny_pure ?_
 have I4:Inv X pins σ H3 {s3 with heap:=s3.heap.push {cls:=.type "slice",data:=.fields #[vl,vu,.none]}}:=I3.kept (t':=s3.toks) fun b ob q=>Heap.get?_push_of_some _ q
 obtain⟨T,id,hT,ht,hg⟩:=hr pins {s3 with heap:=s3.heap.push {cls:=.type "slice",data:=.fields #[vl,vu,.none]}} σ H3 x v vl vu l u s3.heap.objs.size Q I4 r1 (Heap.IsSliceOf.new ..) pl pu q3
 show wpAny (model X.prog X.w) X.A (subscriptTail e (.Slice lo hi none p2) v (.ref s3.heap.objs.size)) (EP X pins σ Q) X.xe {s3 with heap:=s3.heap.push {cls:=.type "slice",data:=.fields #[vl,vu,.none]}}
 exact tail_any (ops:=[.ref s3.heap.objs.size,v]) ht hT hg (by with_unfolding_all rfl)
noncomputable def Ws(xs:List V)(lo hi:Option Int):List V:=(xs.drop (HT.sIx xs.length 0 lo)).take (HT.sIx xs.length xs.length hi-HT.sIx xs.length 0 lo)
theorem Kw(xs:List V)(lo hi:Option Int):(Ws xs lo hi).length≤xs.length:=by
 unfold Ws
 rw[List.length_take,List.length_drop]
 omega
def gO(K:PySem.W.Frag):V->Option Int->Option Int->Hp->VK->Prop:=fun x lo hi H Q=>∃a xs,x=.ref a/\SqT K H a xs/\
 ¬(HT.sIx xs.length 0 lo=0/\HT.sIx xs.length xs.length hi=xs.length)/\∀p,H p=none->Q (.ref p) (upd H p (.tup (Ws xs lo hi)))
theorem ZV:SlR X (gO X.K):=by
 intro pins s σ H x v vl vu lo hi sl Q I rx hs pl pu h
 obtain⟨a,xs,rfl,hx,hw,q⟩:=h
 cases rx
 obtain⟨its,r,ht,hz⟩:=I.tuple hx
 have hlen:its.toArray.size=xs.length:=by rw[List.size_toArray];exact r.length.symm
 refine⟨"tuple",_,PyProof.Rows.slot_tuple_getitem.lookup,ht.typeIs,?_⟩
 refine HT.JP ht hs pl pu (by rw[hlen];exact hw) ?_ (by rw[hlen];exact hz)
 rw[hlen]
 refine⟨.ref s.heap.objs.size,_,I.laid (t':=s.toks) (o:=.tup (Ws xs lo hi)) (fun b ob q=>Heap.get?_push_of_some _ q) (Nat.le_refl _) ?_,rfl,q _ (I.hok.fresh (Nat.le_refl _))⟩
 exact⟨Nat.le_trans (Kw xs lo hi) hz,_,(r.drop (HT.sIx xs.length 0 lo)).take (HT.sIx xs.length xs.length hi-HT.sIx xs.length 0 lo),IsTup.new _ _⟩
noncomputable def c7(K:PySem.W.Frag):R2:=fun x y H Q=>∃a b xs ys,x=.ref a/\y=.ref b/\SqT K H a xs/\SqT K H b ys/\xs≠[]/\xs.length+ys.length≤sizeLine/\
 (ys=[]->Q (.ref a) H)/\(ys≠[]->∀p,H p=none->Q (.ref p) (upd H p (.tup (xs++ys))))
theorem Vals.nil_iff{xs:List V}{us:List Value}(r:Vals xs us):us=[]↔xs=[]:=by
 cases r with
 |nil=>simp
 |cons _ _=>simp
theorem X3:OpR X (binaryOp .Add) (c7 X.K):=by
 intro pins s σ H x y v u Q I rx ry h
 obtain⟨a,b,xs,ys,rfl,rfl,ha,hb,hx,hz,q1,q2⟩:=h
 cases rx
 cases ry
 obtain⟨its,r1,p1,_⟩:=I.tuple ha
 obtain⟨its2,r2,p2,_⟩:=I.tuple hb
 refine HT.Ya p1 p2 (fun z=>hx (r1.nil_iff.mp z)) (fun z=>⟨.ref a,H,I,rfl,q1 (r2.nil_iff.mp z)⟩) (fun z=>?_) (by rw[←r1.length,←r2.length];exact hz)
 refine⟨.ref s.heap.objs.size,_,I.laid (t':=s.toks) (o:=.tup (xs++ys)) (fun b ob q=>Heap.get?_push_of_some _ q) (Nat.le_refl _) ?_,rfl,q2 (fun w=>z (r2.nil_iff.mpr w)) _ (I.hok.fresh (Nat.le_refl _))⟩
 exact⟨by rw[List.length_append];exact hz,_,r1.append r2,IsTup.new _ _⟩
end
end L2
namespace L2
open PySem PySem.Spec PyProof.Rows
noncomputable def ixN(n:Nat)(i:Int):Option Nat:=if 0≤i then(if i<n then some i.toNat else none)else if-(n:Int)≤i then some (i+n).toNat else none
noncomputable def atI{α:Type}(xs:List α)(i:Int):Option α:=(ixN xs.length i).bind fun j=>xs[j]?
theorem Tg{n:Nat}{i:Int}{j:Nat}(h:ixN n i=some j):seqIndex? i n=some j/\j<n/\ -(n:Int)≤i/\i<n:=by
 unfold ixN at h
 by_cases h0:0≤i
 ·rw[if_pos h0]at h
  by_cases h1:i<n
  ·rw[if_pos h1]at h
   have e:i.toNat=j:=Option.some.inj h
   exact⟨by rw[seqIndex_of h0 h1,e],by omega,by omega,h1⟩
  ·rw[if_neg h1]at h;cases h
 ·rw[if_neg h0]at h
  by_cases h1: -(n:Int)≤i
  ·rw[if_pos h1]at h
   have e:(i+n).toNat=j:=Option.some.inj h
   exact⟨by rw[seqIndex_neg (by omega) h1,e],by omega,h1,by omega⟩
  ·rw[if_neg h1]at h;cases h
theorem TJ{α:Type}{xs:List α}{i:Int}{v:α}(h:atI xs i=some v):∃j,seqIndex? i xs.length=some j/\xs[j]?=some v/\j<xs.length/\ -(xs.length:Int)≤i/\i<xs.length:=by
  unfold atI at h
  cases e:ixN xs.length i with
  |none=>rw[e]at h;cases h
  | some j =>
    rw[e]at h
    obtain⟨h1,h2,h3,h4⟩:=Tg e
    exact⟨j,h1,h,h2,h3,h4⟩
theorem XA{α:Type}{xs:List α}{j:Nat}{v:α}(h:xs[j]?=some v):atI xs (j:Int)=some v:=by
 have hj:j<xs.length:=(List.getElem?_eq_some_iff.mp h).1
 have e:ixN xs.length (j:Int)=some j:=by
  unfold ixN
  rw[if_pos (by omega),if_pos (by omega)];simp
 unfold atI;rw[e];exact h
theorem NZ{α:Type}(xs:List α)(v:α):atI (xs++[v]) (-1)=some v:=by
 have hl:(xs++[v]).length=xs.length+1:=by simp
 have e:ixN (xs++[v]).length (-1)=some xs.length:=by
  unfold ixN
  rw[hl,if_neg (by decide),if_pos (by omega)]
  congr 1
  omega
 unfold atI
 rw[e]
 show(xs++[v])[xs.length]?=some v
 simp
def Rq(b:Expr):Prop:=∀o i,subscripted b false o i=operate [o,i] (getItem o i)
def IxR(X:Cx)(r:R2):Prop:=
 ∀ (value slice : Expr) (pins : List (Addr × Obj)) (s : Shared) (σ : St) (H : Hp) (x y : V) (v u : Value) (Q : VK), Inv X pins σ H s -> RelV x v -> RelV y u -> r x y H Q ->
  subscripted slice false v u=operate [v,u] (getItem v u)->wpAny (model X.prog X.w) X.A (subscriptTail value slice v u) (EP X pins σ Q) X.xe s
def MtR(X:Cx)(id:String)(r:V->List V->Hp->VK->Prop):Prop:=
 ∀ (pins : List (Addr × Obj)) (s : Shared) (σ : St) (H : Hp) (x : V) (xs : List V) (v : Value) (us : List Value) (Q : VK), Inv X pins σ H s -> RelV x v -> Vals xs us -> r x xs H Q ->
  wpAny (model X.prog X.w) X.A (call (.builtin id) (v::us)) (EP X pins σ Q) X.xe s
section
variable{X:Cx}{a b:Expr}{ta tb:TE}{pos:Pos}
theorem c8{r:R2}(hr:IxR X r)(ha:PE X a ta)(hb:PE X b tb)(hs:Rq b):PE X (.Subscript a b pos) (tOp r ta tb):=by
 intro pins s σ H Q I h
 exact Subscript_ (dM ha hb I h fun v u s2 x y H2 I2 rx ry q=>hr a b pins s2 σ H2 x y v u Q I2 rx ry q (hs _ _))
noncomputable def fv(K:PySem.W.Frag):R2:=fun x y H Q=>∃p xs i v,x=.ref p/\y=.int i/\SqL K H p xs/\atI xs i=some v/\Q v H
noncomputable def hV(K:PySem.W.Frag):R2:=fun x y H Q=>∃p xs i v,x=.ref p/\y=.int i/\SqT K H p xs/\atI xs i=some v/\Q v H
theorem XE:IxR X (fv X.K):=by
 intro value slice pins s σ H x y v u Q I rx ry h hs
 obtain⟨p,xs,i,z,rfl,rfl,hq,he,q⟩:=h
 cases rx
 obtain⟨t,rfl⟩:=ry
 obtain⟨its,r,pl,hz⟩:=I.list hq
 obtain⟨j,h1,h2,h3,h4,h5⟩:=TJ he
 obtain⟨w,ew,rw'⟩:=r.get h2
 have hl:=r.length
 have hn:=MM
 have fin:EP X pins σ Q w s:=⟨z,H,I,rw',q⟩
 by_cases h0:0≤i
 ·have hj:i.toNat=j:=by
   rw[seqIndex_of h0 h5]at h1
   exact Option.some.inj h1
  exact item_listR pl.isList h0 (by omega) (by rw[hj];simpa using ew) fin hs
 ·have hj:(i+(its.toArray.size:Int)).toNat=j:=by
   rw[seqIndex_neg (by omega) h4]at h1
   rw[List.size_toArray,←hl]
   exact Option.some.inj h1
  exact subscriptTail_builtinR (x:=w) pl.isList.typeIs slot_list_getitem.lookup
   (wpAny_getItem_list_neg (Q:=fun r s'=>r=w/\EP X pins σ Q r s') pl.isList (by omega) (by rw[List.size_toArray]<;>omega) (by omega) (by rw[hj];simpa using ew) ⟨rfl,fin⟩) hs
theorem Yw:IxR X (hV X.K):=by
 intro value slice pins s σ H x y v u Q I rx ry h hs
 obtain⟨p,xs,i,z,rfl,rfl,hq,he,q⟩:=h
 cases rx
 obtain⟨t,rfl⟩:=ry
 obtain⟨its,r,pl,hz⟩:=I.tuple hq
 obtain⟨j,h1,h2,h3,h4,h5⟩:=TJ he
 obtain⟨w,ew,rw'⟩:=r.get h2
 have hl:=r.length
 have hn:=MM
 have fin:EP X pins σ Q w s:=⟨z,H,I,rw',q⟩
 exact subscriptTail_builtinR (x:=w) pl.typeIs slot_tuple_getitem.lookup
  (getItem_tuple (j:=j) (Q:=fun r s'=>r=w/\EP X pins σ Q r s') pl (by omega) (by omega) (by rw[List.size_toArray,←hl];exact h1) (by simpa using ew) ⟨rfl,fin⟩) hs
theorem QW(its:List Value)(n j:Nat)(u:Value):Obj.mapSeq (·.setIfInBounds j u) {cls:=.type "list",data:=.seq its.toArray n}={cls:=.type "list",data:=.seq (its.set j u).toArray n}:=by
 simp[Obj.mapSeq]
theorem Inv.lst{pins:List (Addr×Obj)}{σ:St}{H:Hp}{s:Shared}{p:Addr}{xs:List V}(I:Inv X pins σ H s)(h:H p=some (.lst xs)):
  ∃(its:List Value) (n:Nat),Vals xs its/\s.heap.get? p=some {cls:=.type "list",data:=.seq its.toArray n}/\xs.length≤sizeLine:=by
 obtain⟨z,its,n,r,e⟩:=I.hok p _ h
 exact⟨its,n,r,e,z⟩
theorem Inv.lstUpd{pins:List (Addr×Obj)}{σ:St}{H:Hp}{s:Shared}{p:Addr}{xs ys:List V}{its its':List Value}{n n':Nat}{f:Obj->Obj}(I:Inv X pins σ H s)(h:H p=some (.lst xs))
  (ho:s.heap.get? p=some {cls:=.type "list",data:=.seq its.toArray n}) (hf:f {cls:=.type "list",data:=.seq its.toArray n}={cls:=.type "list",data:=.seq its'.toArray n'}) (r:Vals ys its') (hz:ys.length≤sizeLine) (t:Nat):
  Inv X pins σ (upd H p (.lst ys)) {s with heap:=s.heap.update p f,toks:=t}:=by
 have e:(s.heap.update p f).get? p=some {cls:=.type "list",data:=.seq its'.toArray n'}:=by
  rw[Heap.get?_update_self f ho (by rw[hf]<;>rfl),hf]
 refine I.write (x:=p) (e:=p) (by rw[h];trivial) (.inl rfl) (fun b u hb q=>(Heap.get?_update_other _ _ (Ne.symm hb)).trans q) ⟨_,e⟩ ?_
 exact⟨hz,its',n',r,e⟩
def eI:V->V->V->Hp->(Hp->Prop)->Prop:=fun o i v H Q=>∃p xs k j,o=.ref p/\i=.int k/\H p=some (.lst xs)/\ixN xs.length k=some j/\Q (upd H p (.lst (xs.set j v)))
theorem set_list:dj X eI:=by
 intro pins s σ H o i v ov iv u Q I ro ri rv h
 obtain⟨p,xs,k,j,rfl,rfl,hp,hj,q⟩:=h
 cases ro
 obtain⟨t,rfl⟩:=ri
 obtain⟨its,n,r,ho,hz⟩:=I.lst hp
 obtain⟨h1,h2,h3,h4⟩:=Tg hj
 have hl:=r.length
 have hn:=MM
 have I':Inv X pins σ (upd H p (.lst (xs.set j v))) {s with heap:=s.heap.update p (Obj.mapSeq (·.setIfInBounds j u))}:=
  I.lstUpd hp ho (QW its n j u) (r.set rv j) (by rw[List.length_set];exact hz) s.toks
 by_cases h0:0≤k
 ·have hk:k.toNat=j:=by
   rw[seqIndex_of h0 h4]at h1
   exact Option.some.inj h1
  exact PySem.W.ki_setAt ho h0 (by omega) (by rw[List.size_toArray,←hl];exact h4) (by rw[hk];exact⟨_,I',q⟩)
 ·have hk:(k+(its.toArray.size:Int)).toNat=j:=by
   rw[seqIndex_neg (by omega) h3]at h1
   rw[List.size_toArray,←hl]
   exact Option.some.inj h1
  exact PySem.W.ki_setBack ho (by omega) (by rw[List.size_toArray,←hl];exact h3) (by omega) (by rw[hk];exact⟨_,I',q⟩)
theorem O2(lo hi:Option Int)(n:Nat):(sliceBounds lo hi none n).1=((HT.sIx n 0 lo:Nat):Int)/\(sliceBounds lo hi none n).2.1=((HT.sIx n n hi:Nat):Int)/\(sliceBounds lo hi none n).2.2=1:=by
  refine⟨?_,?_,rfl⟩
  · cases lo with
    |none=>simp[sliceBounds,HT.sIx]
    | some i =>
      simp only[sliceBounds,HT.sIx,Option.getD_none,show(1:Int)>0 by decide,if_true]
      by_cases h:i<0
      ·simp only[h,if_true]<;>omega
      ·simp only[h,if_false]<;>omega
  · cases hi with
    |none=>simp[sliceBounds,HT.sIx]
    | some i =>
      simp only[sliceBounds,HT.sIx,Option.getD_none,show(1:Int)>0 by decide,if_true]
      by_cases h:i<0
      ·simp only[h,if_true]<;>omega
      ·simp only[h,if_false]<;>omega
theorem Nb(its:List Value)(lo hi:Option Int):slicePick its.toArray lo hi none=((its.drop (HT.sIx its.length 0 lo)).take (HT.sIx its.length its.length hi-HT.sIx its.length 0 lo)).toArray:=by
 obtain⟨h1,h2,h3⟩:=O2 lo hi its.toArray.size
 unfold slicePick
 rw[h1,h2,h3]
 simp only[sliceRange_one,pick_run,List.size_toArray]<;>rfl
def fk(K:PySem.W.Frag):V->Option Int->Option Int->Hp->VK->Prop:=fun x lo hi H Q=>∃a xs,x=.ref a/\SqL K H a xs/\∀p,H p=none->Q (.ref p) (upd H p (.lst (Ws xs lo hi)))
theorem YW:SlR X (fk X.K):=by
 intro pins s σ H x v vl vu lo hi sl Q I rx hs pl pu h
 obtain⟨a,xs,rfl,hx,q⟩:=h
 cases rx
 obtain⟨its,r,ht,hz⟩:=I.list hx
 have hlen:=r.length
 refine⟨"list",_,slot_list_getitem.lookup,ht.isList.typeIs,?_⟩
 refine wpAny_getItem_list_slice ht.isList hs pl pu .none (by simp) ?_ (by rw[List.size_toArray]<;>omega)
 rw[Nb,←hlen]
 refine⟨.ref s.heap.objs.size,_,I.laid (t':=s.toks) (o:=.lst (Ws xs lo hi)) (fun b ob q=>Heap.get?_push_of_some _ q) (Nat.le_refl _) ?_,rfl,q _ (I.hok.fresh (Nat.le_refl _))⟩
 exact⟨Nat.le_trans (Kw xs lo hi) hz,_,0,(r.drop (HT.sIx xs.length 0 lo)).take (HT.sIx xs.length xs.length hi-HT.sIx xs.length 0 lo),Heap.get?_push_size _ rfl⟩
noncomputable def L9:V->Bool
 | .non=>true
 | .bl _=>true
 | .int _=>true
 | .str _=>true
 |_=>false
noncomputable def eqV:V->V->Bool
 | .non,.non=>true
 | .bl a,.bl b=>a==b
 | .bl a,.int b=>(if a then 1 else 0)==b
 | .int a,.bl b=>a==(if b then 1 else 0)
 | .int a,.int b=>a==b
 | .str a,.str b=>a==b
 |_,_=>false
theorem Z0{A:Around}{s:Shared}{y x:V}{u v:Value}(ry:RelV y u)(rx:RelV x v)(fy:L9 y=true)(fx:L9 x=true):SeqAt.EqAt A s u v (eqV y x):=by
  cases y with
  | non =>
    cases ry
    cases x with
    |non=>cases rx;exact SeqAt.EqAt.same _
    |bl b=>cases rx;exact SeqAt.EqAt.none_bool b
    |int b=>obtain⟨t,rfl⟩:=rx;exact SeqAt.EqAt.none_int b t
    |str b=>obtain⟨t,rfl⟩:=rx;exact SeqAt.EqAt.none_str b t
    |_=>exact absurd (show false=true from fx) Bool.false_ne_true
  | bl a =>
    cases ry
    cases x with
    |non=>cases rx;exact SeqAt.EqAt.bool_none a
    |bl b=>cases rx;exact SeqAt.EqAt.bool_bool a b
    |int b=>obtain⟨t,rfl⟩:=rx;exact SeqAt.EqAt.bool_int a b t
    |str b=>obtain⟨t,rfl⟩:=rx;exact SeqAt.EqAt.bool_str a b t
    |_=>exact absurd (show false=true from fx) Bool.false_ne_true
  | int a =>
    obtain⟨t',rfl⟩:=ry
    cases x with
    |non=>cases rx;exact SeqAt.EqAt.int_none a t'
    |bl b=>cases rx;exact SeqAt.EqAt.int_bool a t' b
    |int b=>obtain⟨t,rfl⟩:=rx;exact SeqAt.EqAt.int_int a t' b t
    |str b=>obtain⟨t,rfl⟩:=rx;exact SeqAt.EqAt.int_str a t' b t
    |_=>exact absurd (show false=true from fx) Bool.false_ne_true
  | str a =>
    obtain⟨t',rfl⟩:=ry
    cases x with
    |non=>cases rx;exact SeqAt.EqAt.str_none a t'
    |bl b=>cases rx;exact SeqAt.EqAt.str_bool a t' b
    |int b=>obtain⟨t,rfl⟩:=rx;exact SeqAt.EqAt.str_int a t' b t
    |str b=>obtain⟨t,rfl⟩:=rx;exact SeqAt.EqAt.str_str a t' b t
    |_=>exact absurd (show false=true from fx) Bool.false_ne_true
  |_=>exact absurd (show false=true from fy) Bool.false_ne_true
noncomputable def eqU(x:V)(u:Value):Bool:=match u with
 | .none=>eqV .non x
 | .bool b=>eqV (.bl b) x
 | .int i _=>eqV (.int i) x
 | .str z _=>eqV (.str z) x
 |_=>false
theorem Wh{x y:V}{u:Value}(r:RelV y u)(f:L9 y=true):eqU x u=eqV y x:=by
 cases y with
 |non=>cases r;rfl
 |bl b=>cases r;rfl
 |int i=>obtain⟨t,rfl⟩:=r;rfl
 |str z=>obtain⟨t,rfl⟩:=r;rfl
 |_=>exact absurd (show false=true from f) Bool.false_ne_true
theorem Lk{x:V}:∀{xs:List V} {us:List Value},Vals xs us->xs.all L9=true->us.any (eqU x)=xs.any fun y=>eqV y x
  |_,_,.nil,_=>rfl
  | y :: xs, u :: us, .cons r t, f => by
    rw[List.all_cons,Bool.and_eq_true]at f
    rw[List.any_cons,List.any_cons,Wh r f.1,Lk t f.2]
theorem Ia{A:Around}{s:Shared}{x:V}{v:Value}(rx:RelV x v)(fx:L9 x=true):∀{xs:List V} {us:List Value},Vals xs us->xs.all L9=true->∀u∈us,SeqAt.EqAt A s u v (eqU x u)
  |_,_,.nil,_=>fun u hu=>by cases hu
  | y :: xs, u :: us, .cons r t, f => fun u' hu => by
    rw[List.all_cons,Bool.and_eq_true]at f
    rcases List.mem_cons.mp hu with rfl|hu
    ·rw[Wh r f.1];exact Z0 r rx f.1 fx
    ·exact Ia rx fx t f.2 u' hu
noncomputable def inV(x:V)(xs:List V):Bool:=xs.any fun y=>eqV y x
noncomputable def rIn(K:PySem.W.Frag)(neg:Bool):R2:=fun x y H Q=>∃p xs,y=.ref p/\(SqL K H p xs∨SqT K H p xs)/\L9 x=true/\xs.all L9=true/\Q (.bl (if neg then !inV x xs else inV x xs)) H
theorem SH:OpR X (compareOp .In) (rIn X.K false):=by
 intro pins s σ H x y v u Q I rx ry h
 obtain⟨p,xs,rfl,hq,fx,fs,q⟩:=h
 cases ry
 rcases hq with hq|hq
 ·obtain⟨its,r,pl,hz⟩:=I.list hq
  refine SeqAt.in_listAt (eqU x) pl.isList (fun w hw=>Ia rx fx r fs w (by simpa using hw)) ⟨.bl _,H,I,rfl,?_⟩
  rw[show its.toArray.any (eqU x)=its.any (eqU x) by simp,Lk r fs]
  exact q
 ·obtain⟨its,r,pl,hz⟩:=I.tuple hq
  refine SeqAt.in_tupleAt (eqU x) pl (fun w hw=>Ia rx fx r fs w (by simpa using hw)) ⟨.bl _,H,I,rfl,?_⟩
  rw[show its.toArray.any (eqU x)=its.any (eqU x) by simp,Lk r fs]
  exact q
theorem OW:OpR X (compareOp .NotIn) (rIn X.K true):=by
 intro pins s σ H x y v u Q I rx ry h
 obtain⟨p,xs,rfl,hq,fx,fs,q⟩:=h
 cases ry
 rcases hq with hq|hq
 ·obtain⟨its,r,pl,hz⟩:=I.list hq
  refine SeqAt.notIn_listAt (eqU x) pl.isList (fun w hw=>Ia rx fx r fs w (by simpa using hw)) ⟨.bl _,H,I,rfl,?_⟩
  rw[show its.toArray.any (eqU x)=its.any (eqU x) by simp,Lk r fs]
  exact q
 ·obtain⟨its,r,pl,hz⟩:=I.tuple hq
  refine SeqAt.notIn_tupleAt (eqU x) pl (fun w hw=>Ia rx fx r fs w (by simpa using hw)) ⟨.bl _,H,I,rfl,?_⟩
  rw[show its.toArray.any (eqU x)=its.any (eqU x) by simp,Lk r fs]
  exact q
theorem Oj:Eb X (.builtin "len") (fun xs H Q=>∃p ys,xs=[.ref p]/\(SqL X.K H p ys∨SqT X.K H p ys)/\Q (.int ys.length) H):=by
 intro pins s σ H xs us Q I r h
 obtain⟨p,ys,rfl,hq,q⟩:=h
 obtain⟨u,rfl,rx⟩:=vals1 r
 cases rx
 have hn:=MM
 rcases hq with hq|hq
 ·obtain⟨its,r',pl,hz⟩:=I.list hq
  have hlen:=r'.length
  exact Calls.call_len_list pl.isList (by simp only[List.size_toArray]<;>omega) ⟨.int ys.length,H,I.tok _,⟨s.toks+1,by rw[List.size_toArray,hlen]⟩,q⟩
 ·obtain⟨its,r',pl,hz⟩:=I.tuple hq
  have hlen:=r'.length
  exact len_tuple pl (by simp only[List.size_toArray]<;>omega) ⟨.int ys.length,H,I.tok _,⟨s.toks+1,by rw[List.size_toArray,hlen]⟩,q⟩
theorem OV:Eb X (.builtin "len") (fun xs H Q=>∃z,xs=[.str z]/\z.length≤sizeLine/\Q (.int z.length) H):=by
 intro pins s σ H xs us Q I r h
 obtain⟨z,rfl,hz,q⟩:=h
 obtain⟨u,rfl,t,rfl⟩:=vals1 r
 have hn:=MM
 exact len_str (by omega) ⟨.int z.length,H,I.tok _,⟨_,rfl⟩,q⟩
theorem OM:Eb X (.type "list") (fun xs H Q=>∃p ys,xs=[.ref p]/\(SqL X.K H p ys∨SqT X.K H p ys)/\∀l,H l=none->Q (.ref l) (upd H l (.lst ys))):=by
 intro pins s σ H xs us Q I r h
 obtain⟨p,ys,rfl,hq,q⟩:=h
 obtain⟨u,rfl,rx⟩:=vals1 r
 cases rx
 have fin:∀(its:List Value),Vals ys its->ys.length≤sizeLine->∀(h':Heap) (c':Nat),(∀b o',s.heap.get? b=some o'->h'.get? b=some o')->
   h'.get? s.heap.objs.size=some {cls:=.type "list",dict:=none,data:=.seq its.toArray c',slots:= #[]}->EP X pins σ Q (.ref s.heap.objs.size) {s with heap:=h'}:=fun its r' hz h' c' kp e=>
  ⟨.ref s.heap.objs.size,_,I.laid (t':=s.toks) kp (Nat.le_refl _) (show F9 X.prog X.w _ h' _ (.lst ys)from⟨hz,its,c',r',e⟩),rfl,q _ (I.hok.fresh (Nat.le_refl _))⟩
 rcases hq with hq|hq
 ·obtain⟨its,r',pl,hz⟩:=I.list hq
  have hlen:=r'.length
  obtain⟨o,ho,hc,n,hd⟩:=pl.isList
  exact call_list_seq p (.inl rfl) ho hc hd (fun h' c' kp e=>fin its r' hz h' c' kp e) (by simp only[List.size_toArray]<;>omega)
 ·obtain⟨its,r',pl,hz⟩:=I.tuple hq
  have hlen:=r'.length
  obtain⟨o,ho,hc,n,hd⟩:=pl
  exact call_list_seq p (.inr rfl) ho hc hd (fun h' c' kp e=>fin its r' hz h' c' kp e) (by simp only[List.size_toArray]<;>omega)
theorem N0:Eb X (.type "tuple") (fun xs H Q=>∃p ys,xs=[.ref p]/\((SqL X.K H p ys/\∀l,H l=none->Q (.ref l) (upd H l (.tup ys)))∨(SqT X.K H p ys/\Q (.ref p) H))):=by
 intro pins s σ H xs us Q I r h
 obtain⟨p,ys,rfl,h⟩:=h
 obtain⟨u,rfl,rx⟩:=vals1 r
 cases rx
 rcases h with⟨hq,q⟩|⟨hq,q⟩
 ·obtain⟨its,r',pl,hz⟩:=I.list hq
  have hlen:=r'.length
  refine call_tuple_list pl.isList (fun h' kp=>?_) (by simp only[List.size_toArray]<;>omega)
  have I1:Inv X pins σ H {s with heap:=h'}:=I.kept (t':=s.toks) kp
  have I2:Inv X pins σ (upd H h'.objs.size (.tup ys)) {s with heap:=h'.push {cls:=.type "tuple",data:=.seq its.toArray}}:=
   I1.laid (t':=s.toks) (fun b o e=>Heap.get?_push_of_some _ e) (Nat.le_refl _) (show F9 X.prog X.w _ _ _ (.tup ys)from⟨hz,its,r',IsTup.new _ _⟩)
  exact⟨.ref h'.objs.size,_,I2,rfl,q _ (I1.hok.fresh (Nat.le_refl _))⟩
 ·obtain⟨its,r',pl,hz⟩:=I.tuple hq
  exact call_tuple_same pl ⟨.ref p,H,I,rfl,q⟩
def tyV(K:PySem.W.Frag)(T:String)(x:V)(H:Hp):Prop:=match x with
 | .str _=>T="str"
 | .int _=>T="int"
 | .ref p=>(T="list" /\∃xs,SqL K H p xs)∨(T="tuple" /\∃o,K.lookup p=some o/\o.cls=.type "tuple" /\o.dict=none)∨
   (T="dict" /\((∃kvs,H p=some (.dK kvs))∨∃kvs,H p=some (.dT kvs)))∨(T="set" /\∃S n,H p=some (.set S n))
 |_=>False
theorem Ym {pins : List (Addr × Obj)} {σ : St} {H : Hp} {s : Shared} {T : String} {x : V} {v : Value} (I : Inv X pins σ H s) (r : RelV x v) (ty : tyV X.K T x H) :
    s.TypeIs v T/\∀a,v=.ref a->∃ob,s.heap.get? a=some ob/\ob.dict=none:=by
  cases x with
  | str z =>
    obtain⟨t,rfl⟩:=r
    cases (show T="str" from ty)
    exact⟨typeIs_str s z t,fun _ e=>nomatch e⟩
  | int i =>
    obtain⟨t,rfl⟩:=r
    cases (show T="int" from ty)
    exact⟨typeIs_int s i t,fun _ e=>nomatch e⟩
  | ref p =>
    cases r
    rcases ty with⟨rfl,xs,hq⟩|⟨rfl,o,hk,hc,hd⟩|⟨rfl,hk⟩|⟨rfl,S,n,hk⟩
    · obtain ⟨its, _, pl, _⟩ := I.list hq
      refine⟨pl.isList.typeIs,fun a e=>?_⟩
      cases e
      obtain⟨o,n,e,c,hd,_⟩:=pl
      exact⟨o,e,hd⟩
    · refine ⟨⟨o, I.kIn p o hk, hc⟩, fun a e => ?_⟩
      cases e
      exact⟨o,I.kIn _ o hk,hd⟩
    · have z : ∃ o, s.heap.get? p = some o /\ o.ExactDict := by
        rcases hk with⟨kvs,hk⟩|⟨kvs,hk⟩
        · obtain ⟨_, _, _, _, o, _, _, e, ex, _⟩ := I.hok p _ hk
          exact⟨o,e,ex⟩
        · obtain ⟨_, _, _, _, o, _, _, e, ex, _⟩ := I.hok p _ hk
          exact⟨o,e,ex⟩
      obtain⟨o,e,ex⟩:=z
      refine⟨⟨o,e,ex.1⟩,fun a e2=>?_⟩
      cases e2
      exact⟨o,e,ex.2.1⟩
    · obtain ⟨o, _, _, _, e, ex, _⟩ := I.hok p _ hk
      refine⟨⟨o,e,ex.1⟩,fun a e2=>?_⟩
      cases e2
      exact⟨o,e,ex.2.1⟩
  |_=>exact False.elim ty
noncomputable def tBM(K:PySem.W.Frag)(T:String)(r:V->List V->Hp->VK->Prop)(to:TE)(t:TA):TE:=fun σ H Q=>to σ H fun x H1=>tyV K T x H1/\t σ H1 fun xs H2=>r x xs H2 Q
variable{o e:Expr}{es:List Expr}{to:TE}{t:TA}{name:Str}{apos cpos:Pos}{T id:String}{r:V->List V->Hp->VK->Prop}
theorem dX(pa:PlainAttrs T)(slot:Slot T name id)(hty:typeOf (.builtin id)=pure (.type "method_descriptor"))(hm:MtR X id r)(ho:PE X o to)(ha:PA X (e::es) t)
  (hbase:attributeBase o name X.env (eval o X.env)=eval o X.env:=by rfl)
  (hfew:((backTo cpos (starEach (e::es) X.env)).all (fun x=> !x.1) && (backToKw cpos (keywordEach [] X.env)).all (fun x=>x.1.isSome)
   && decide ((e::es).length+([]:List Keyword).length+(if([]:List Keyword).isEmpty then 0 else 1)<30))=true:=by rfl)
  (hline:(apos.endLine==cpos.line)=true:=by rfl) (hs:starEach (e::es) X.env=(false,eval e X.env)::starEach es X.env:=by rfl) (hplain:(backTo cpos (starEach es X.env)).any (·.1)=false:=by rfl):
  PE X (.Call (.Attribute o name apos) (e::es) [] cpos) (tBM X.K T r to t):=by
 intro pins s σ H Q I h
 refine wpAny_Call_method_late hbase hfew hline rfl (thn (ho pins s σ H _ I h) fun v s1 ⟨x,H1,I1,r1,ty,q1⟩=>?_)
 obtain⟨h1,h2⟩:=Ym I1 r1 ty
 refine⟨T,id,pa,slot,hty,h1,h2,?_⟩
 have hA:=ha cpos pins s1 σ H1 _ I1 q1
 rw[hs]at hA⊢
 refine Calls.callWith_builtin (by show(false||(backTo cpos (starEach es X.env)).any (·.1))=false;rw[hplain]<;>rfl) (Calls.evalArgs_plain ?_)
 exact thn hA fun us s2 ⟨vs,H2,I2,r2,q2⟩=>hm pins s2 σ H2 x vs v us Q I2 r1 r2 q2
end
end L2
namespace L2
open PySem PySem.Spec PyProof.Rows
def MtM(X:Cx)(id:String)(r:V->List V->Hp->VK->Prop):Prop:=
 ∀ (pins : List (Addr × Obj)) (s : Shared) (σ : St) (H : Hp) (x : V) (xs : List V) (v : Value) (us : List Value) (Q : VK), Inv X pins σ H s -> RelV x v -> Vals xs us -> r x xs H Q ->
  wpAny (model X.prog X.w) X.A (call (.builtin id) (v::us)) (EP X pins σ Q) X.xe s
theorem Vals.one:∀{x:V} {us:List Value},Vals [x] us->∃u,us=[u]/\RelV x u
 |_,_,.cons r .nil=>⟨_,rfl,r⟩
theorem Vals.two:∀{x y:V} {us:List Value},Vals [x,y] us->∃u v,us=[u,v]/\RelV x u/\RelV y v
 |_,_,_,.cons r (.cons q .nil)=>⟨_,_,rfl,r,q⟩
theorem Vals.rep{xs:List V}{us:List Value}(h:Vals xs us):∀k:Nat,Vals (List.replicate k xs).flatten (List.replicate k us).flatten
  |0=>.nil
  | k + 1 => by
    rw[List.replicate_succ,List.replicate_succ,List.flatten_cons,List.flatten_cons]
    exact Vals.append h (Vals.rep h k)
theorem foldl_rep(its:List Value):∀(k:Nat) (acc:List Value),
    List.foldl (fun x1 x2=>x1++x2) acc.toArray (List.replicate k its.toArray)=(acc++(List.replicate k its).flatten).toArray
  |0,acc=>by simp
  | k + 1, acc => by
    have e:acc.toArray++its.toArray=(acc++its).toArray:=by simp
    have e2:(acc++its)++(List.replicate k its).flatten=acc++(List.replicate (k+1) its).flatten:=by
      rw[List.replicate_succ,List.flatten_cons,List.append_assoc]
    rw[←e2,←foldl_rep its k (acc++its),←e,List.replicate_succ,List.foldl_cons]
section
variable{X:Cx}{pins:List (Addr×Obj)}{σ:St}{H:Hp}{s:Shared}{l b:Addr}{xs ys zs:List V}
theorem Inv.lset{its its':List Value}{n:Nat}{f:Array Value->Array Value}{t':Nat}(I:Inv X pins σ H s)(hH:H l=some (.lst xs))
  (e:s.heap.get? l=some {cls:=.type "list",data:=.seq its.toArray n}) (hf:f its.toArray=its'.toArray) (hv:Vals ys its') (hz:ys.length≤sizeLine):
  Inv X pins σ (upd H l (.lst ys)) {s with heap:=s.heap.update l (Obj.mapSeq f),toks:=t'}:=by
 have q:=PySem.IsL.update e f
 rw[hf]at q
 refine I.write (x:=l) (e:=l) (by rw[hH];exact trivial) (.inl rfl) (fun b' u hb hu=>(Heap.get?_update_other s.heap (Obj.mapSeq f) (Ne.symm hb)).trans hu) ⟨_,q⟩ ?_
 exact⟨hz,its',_,hv,q⟩
theorem Inv.lnew{its:List Value}{t':Nat}(I:Inv X pins σ H s)(hv:Vals ys its)(hz:ys.length≤sizeLine):
  Inv X pins σ (upd H s.heap.objs.size (.lst ys)) {s with heap:=s.heap.push {cls:=.type "list",data:=.seq its.toArray},toks:=t'}:=
 I.laid (fun _ _ q=>Heap.get?_push_of_some _ q) (Nat.le_refl _) ⟨hz,its,0,hv,Heap.get?_push_size _ rfl⟩
theorem Inv.fresh(I:Inv X pins σ H s):H s.heap.objs.size=none:=I.hok.fresh (Nat.le_refl _)
theorem Inv.lstM(I:Inv X pins σ H s)(hH:H l=some (.lst xs)):xs.length≤sizeLine/\∃(its:List Value) (n:Nat),Vals xs its/\xs.length=its.length/\s.heap.get? l=some {cls:=.type "list",data:=.seq its.toArray n}:=by
 obtain⟨z,its,n,r,e⟩:=I.hok l _ hH
 exact⟨z,its,n,r,r.length,e⟩
theorem Nr{n:Nat}(h:n≤sizeLine):Builtin.List.listTooLong n=false:=by
 unfold Builtin.List.listTooLong
 exact decide_eq_false (by omega)
end
section
variable{X:Cx}
def XQ:V->List V->Hp->VK->Prop:=fun x vs H Q=>∃l xs y,x=.ref l/\vs=[y]/\H l=some (.lst xs)/\xs.length<sizeLine/\Q .non (upd H l (.lst (xs++[y])))
theorem OY:MtM X "list.append" XQ:=by
 intro pins s σ H x vs v us Q I rx rv h
 obtain⟨l,xs,y,rfl,rfl,hH,hz,q⟩:=h
 cases rx
 obtain⟨u,rfl,ru⟩:=rv.one
 obtain⟨z,its,n,r,hl,e⟩:=I.lstM hH
 refine call_meets F.slot_list_append ⟨_,e,rfl⟩ F.entry_list_append (F.args_list_append_2 _ _) (PySem.list_append l its.toArray n u (by rw[List.size_toArray];omega)) ⟨e,?_⟩
 refine⟨.non,_,I.lset (its':=its++[u]) hH e (by simp) (r.append (.cons ru .nil)) ?_,rfl,q⟩
 rw[List.length_append,List.length_singleton]
 omega
def XM:V->List V->Hp->VK->Prop:=fun x vs H Q=>∃l b xs zs,x=.ref l/\vs=[.ref b]/\H l=some (.lst xs)/\H b=some (.lst zs)/\xs.length+zs.length≤sizeLine/\Q .non (upd H l (.lst (xs++zs)))
theorem Su:MtM X "list.extend" XM:=by
 intro pins s σ H x vs v us Q I rx rv h
 obtain⟨l,b,xs,zs,rfl,rfl,hH,hB,hz,q⟩:=h
 cases rx
 obtain⟨u,rfl,ru⟩:=rv.one
 cases ru
 obtain⟨z,its,n,r,hl,e⟩:=I.lstM hH
 obtain⟨z2,its2,n2,r2,hl2,e2⟩:=I.lstM hB
 have hsz:its.toArray.size+its2.toArray.size≤sizeLine:=by rw[List.size_toArray,List.size_toArray];omega
 have hlong:¬(!its.toArray.isEmpty && Builtin.List.listTooLong (its.toArray.size+its2.toArray.size))=true:=by
  rw[Nr hsz,Bool.and_false]
  exact Bool.false_ne_true
 refine call_meets F.slot_list_extend ⟨_,e,rfl⟩ F.entry_list_extend (F.args_list_extend_2 _ _)
  (AutoSeq1.list_extend_list_list_0 l its.toArray n b its2.toArray n2 hlong (by rw[List.size_toArray];omega) (by omega)) ⟨e,e2,?_⟩
 refine⟨.non,_,I.lset (its':=its++its2) hH e (by simp) (r.append r2) ?_,rfl,q⟩
 rw[List.length_append]
 omega
noncomputable def g9:R2:=fun x y H Q=>∃l b xs zs,x=.ref l/\y=.ref b/\H l=some (.lst xs)/\H b=some (.lst zs)/\xs.length+zs.length≤sizeLine/\∀p,H p=none->Q (.ref p) (upd H p (.lst (xs++zs)))
theorem aI:OpR X (binaryOp .Add) g9:=by
 intro pins s σ H x y v u Q I rx ry h
 obtain⟨l,b,xs,zs,rfl,rfl,hH,hB,hz,q⟩:=h
 cases rx
 cases ry
 obtain⟨z,its,n,r,hl,e⟩:=I.lstM hH
 obtain⟨z2,its2,n2,r2,hl2,e2⟩:=I.lstM hB
 refine PySem.P.add_list e e2 ?_ (by rw[List.size_toArray,List.size_toArray];omega)
 have ea:its.toArray++its2.toArray=(its++its2).toArray:=by simp
 rw[ea]
 exact⟨.ref _,_,I.lnew (t':=s.toks) (r.append r2) (by rw[List.length_append];omega),rfl,q _ I.fresh⟩
noncomputable def gU:R2:=fun x y H Q=>∃l k xs,x=.ref l/\y=.int k/\H l=some (.lst xs)/\ -(2^63)≤k/\k<2^63/\xs.length*k.toNat≤sizeLine/\
 ∀p,H p=none->Q (.ref p) (upd H p (.lst (List.replicate k.toNat xs).flatten))
theorem len_rep{α:Type}(xs:List α)(k:Nat):(List.replicate k xs).flatten.length=k*xs.length:=by
 induction k with
 |zero=>simp
 |succ k ih=>rw[List.replicate_succ,List.flatten_cons,List.length_append,ih,Nat.succ_mul,Nat.add_comm]
theorem aO:OpR X (binaryOp .Mult) gU:=by
  intro pins s σ H x y v u Q I rx ry h
  obtain⟨l,k,xs,rfl,rfl,hH,h1,h2,hz,q⟩:=h
  cases rx
  obtain⟨t,rfl⟩:=ry
  obtain⟨z,its,n,r,hl,e⟩:=I.lstM hH
  have hlen:its.toArray.size*k.toNat≤sizeLine:=by rw[List.size_toArray,←hl];exact hz
  have hcap:¬its.toArray.size*k.toNat>(2^63-1) / 8:=by
    have:(sizeLine:Nat)≤(2^63-1) / 8:=by decide
    omega
  have hfit:¬(!Builtin.List.listFitsIndex k)=true:=by
    rw[fitsIndex_both h1 h2]
    exact Bool.false_ne_true
  have hlong:¬Builtin.List.listTooLong (its.toArray.size*k.toNat)=true:=by
    rw[Nr hlen]
    exact Bool.false_ne_true
  have hnew:List.foldl (fun x1 x2=>x1++x2) #[] (List.replicate (if its.toArray.isEmpty=true then 0 else k.toNat) its.toArray)=(List.replicate k.toNat its).flatten.toArray:=by
    have f0:∀m:Nat,List.foldl (fun x1 x2=>x1++x2) #[] (List.replicate m its.toArray)=(List.replicate m its).flatten.toArray:=fun m=>by
      have:=foldl_rep its m []
      rw[List.nil_append]at this
      exact this
    rw[f0]
    cases its with
    |nil=>simp
    |cons a r'=>rw[if_neg (by simp)]
  refine wpAny_binaryOp_repeat_ref (T:="list") (U:="int") (by decide) ⟨_,e,rfl⟩ (fun s'=>typeIs_int s' k t) noFill_list_mul F.fills_int_mul F.slot_int_rmul repeat_list F.slot_int_index.lookup
    (call_meets F.slot_int_rmul (typeIs_int s k t) F.entry_int_rmul (F.args_int_rmul_2 _ _) (int___rmul___int_list k t l its.toArray n)
      ⟨e,rfl,⟨_,e,rfl⟩,call_meets F.slot_list_mul ⟨_,e,rfl⟩ F.entry_list_mul (F.args_list_mul_2 _ _) (AutoListH.list___mul___list_int_3 l its.toArray n k t hfit hcap hlong) ⟨e,?_⟩⟩)
  rw[hnew]
  exact⟨.ref _,_,I.lnew (t':=s.toks) (r.rep k.toNat) (by rw[len_rep,Nat.mul_comm];exact hz),rfl,q _ I.fresh⟩
end
section
variable{prog:Program}{w:World}{A:Around}{E:Value->Shared->Prop}{s:Shared}
end
section
variable{X:Cx}
end
end L2
namespace Att
open PySem PySem.W PySem.Calls PyProof.Rows
theorem ints_of_wellAll{P:Params}{h:Heap}:∀(ns:List Int) (vs:List Value),WellAll P h vs (ns.map WData.int)->IntsAre vs ns:=by
  intro ns
  induction ns with
  | nil =>
    intro vs w
    rw[List.map_nil]at w
    cases w
    exact .nil
  | cons n ns ih =>
    intro vs w
    rw[List.map_cons]at w
    cases w with
    | cons a b =>
      cases a
      exact .cons _ _ (ih _ b)
theorem script_of{l:OpenLaw}{n:Nat}(hn:l.most=some n){P:Params}{h:Heap}{args:List WData}{vals:List Value}
    (hpre:l.row.toRowW.claim.pre args=true) (hwl:WellAll P h vals args):
    ∃a vs ns,vals=[Value.ref a]/\args=[WData.list (ns.map WData.int)]/\h.get? a=some {cls:=.type "list",data:=.seq vs.toArray}/\IntsAre vs ns/\ns.length≤n:=by
  have hsh:WShape.hasAll [] args [.list .int]=true:=(pre_splitW hpre).1
  have hc:l.pre.holds [] {args:=args}=true:=(pre_splitW hpre).2
  obtain⟨d,r,rfl,h1,h2⟩:=hasAllW_cons hsh
  obtain rfl:=hasAllW_nil h2
  obtain⟨xs,rfl,h3⟩:=hasW_list h1
  obtain⟨ns,rfl⟩:=items_int h3
  have hlen:ns.length≤n:=by
    unfold OpenLaw.pre at hc
    have h4:(WTm.not (.lt (.lit (.int (n:Int))) (.len (.arg 0)))).holds [] {args:=[.list (ns.map .int)]}=true:=by
      have h4:=(holds_andW hc).1
      rw[hn]at h4
      exact h4
    have h5:=condW_of h4 (w_not (w_lt w_lit (w_len_list (w_arg rfl))))
    rw[List.length_map]at h5
    refine Nat.le_of_not_lt fun q=>?_
    have q':(n:Int)<((ns.length:Nat):Int):=by omega
    first
      |(rw[decide_eq_true q']at h5;exact absurd h5 (by decide))
      |(simp at h5;omega)
  cases hwl with
  | cons w1 w2 =>
    cases w2
    cases w1 with
    |list ho hall=>exact⟨_,_,ns,rfl,rfl,ho,ints_of_wellAll ns _ hall,hlen⟩
theorem post_true(l:OpenLaw)(args:List WData):l.row.toRowW.claim.post args (.bool true) args=true:=
 postW_of (r:=l.row.toRowW) (X:=(true==true))
  (show WShape.has [] (.bool true) .bool=true by first|rfl|decide|simp[WShape.has,WShape.arms,WShape.armsAll])
  (show(WTm.eq .res (.lit (.bool true))).value [] {args:=args,res:=some (.bool true),after:=args}=some (.bool (true==true))from w_eq_bool (w_res rfl) w_lit) rfl
theorem attach_call{l:OpenLaw}{n:Nat}{q:Program}{loose:List Str}{XP:(Str->Option Value)->Heap->Prop}{YP:World->Heap->Prop}{d:DefRec}
  (hn:l.most=some n) (hdf:d.params.defaults=[])
  (call:∀(w:World) (s₀ s₁:Shared) (mg mb:Str->Option Value) (fa:Addr) (o:Obj) (pm cd doc:Value) (a:Addr) (vs:List Value) (ns:List Int),
   Ground q loose [] XP w s₀ mg mb s₁.heap->YP w s₁.heap->
   s₁.heap.get? fa=some o->o.data=.func (docDef d.name d.params d.body d.scope pm cd doc)->s₁.heap.CodeRec cd d.name->mg d.name=some (.ref fa)->
   s₁.heap.get? a=some {cls:=.type "list",data:=.seq vs.toArray}->IntsAre vs ns->ns.length≤n->s₁.gens= #[]->
   codeAny (model l.prog w) callerA (.call (.ref fa) ⟨[.ref a],[]⟩) (fun r s'=>r=.ok (.ret (.bool true))/\OldK s₁.heap s'.heap/\s'.os=s₁.os/\AllBare s'.gens) s₁):
  WalkO q loose XP YP l.row.toRowW d [] (fun f vs=>PySem.call f vs):=by
 intro w s₀ s₁ mg mb G Y fa o pm cd doc dV kV ho hd hcd hD hmg hg args vals as hpre hlay hrd hwl hlo
 obtain rfl:dV=.none:=Dflts.none hD hdf
 obtain rfl:kV=.none:=Dflts.noKw hD
 obtain⟨a,vs,ns,rfl,rfl,hobj,hints,hlen⟩:=script_of hn hpre hwl
 refine enter_call (codeAny_mono (call w s₀ s₁ mg mb fa o pm cd doc a vs ns G Y ho (fd_plain hd) hcd hmg hobj hints hlen hg) fun r s' hq=>?_)
 obtain⟨rfl,h2,h3,h4⟩:=hq
 exact⟨.inl ⟨.bool true,.bool true,[],rfl,fun _=>rfl,.bool true,post_true l _,fun _=>⟨List.Pairwise.nil,fun _ hm=>(nomatch hm)⟩⟩,h2,h3,h4⟩
section
variable{prog:Program}{w:World}{A:Around}{E:Value->Shared->Prop}{s:Shared}{K:Frag}
end
end Att
namespace L2
open PySem PySem.Spec PyProof.Rows
theorem Ou:∀{vs:List Value} {ns:List Int},IntsAre vs ns->Vals (ns.map V.int) vs
 |_,_,.nil=>.nil
 |_,_,.cons n t h=>.cons ⟨t,rfl⟩ (Ou h)
def dI(H:Hp):Prop:=∀b,H b=none∨∃o xs,H b=some (.frz o (.lst xs))
theorem Vr {P : Program} {w : World} {K : PySem.W.Frag} {mg mb : Str -> Option Value} {CX : CXT} {k : Nat} {fa a : Addr} {fd : FuncData} {x : Str} {sp : Sp} {s₁ : Shared} {vs : List Value} {ns : List Int}
    (KX:K.In s₁.heap) (hns:s₁.heap.Ns mainGlobals mg) (hb:s₁.heap.Ns builtinsNs mb) (hbb:∀x:Str,x≠ "__name__"->mb x=bootBuiltins x) (hlim:s₁.heap.NoLimit) (hg:s₁.gens= #[])
    (ha:s₁.heap.get? a=some {cls:=.type "list",data:=.seq vs.toArray}) (hi:IntsAre vs ns) (hl:ns.length≤sizeLine) (hr:MT k callerA)
    (F:∀base:Heap,K.In base->base.Ns mainGlobals mg->Om P w K mg base CX k fa fd [x] sp) (hbind:∀(s:Shared) (u:Value),BindsTo s fd ⟨[u],[]⟩ [(x,u)])
    (hsp:∀H:Hp,dI H->SqL K H a (ns.map V.int)->sp [.ref a] H (fun v _=>v=.bl true) fun _ _ _=>False)
    (hCX:∀H e s',CX [] H s₁ (fun _ _ _=>False) e s'->False):
    codeAny (model P w) callerA (.call (.ref fa) ⟨[.ref a],[]⟩) (fun r s'=>r=.ok (.ret (.bool true))/\OldK s₁.heap s'.heap/\s'.os=s₁.os/\AllBare s'.gens) s₁:=by
  have rv:=Ou hi
  have lenV:=hi.length
  have core : ∀ H : Hp, dI H -> SqL K H a (ns.map V.int) -> HOk P w H s₁.heap -> (∀ b, H b ≠ none -> b = a) -> (H a ≠ none -> K.lookup a = none) ->
      codeAny (model P w) callerA (.call (.ref fa) ⟨[.ref a],[]⟩) (fun r s'=>r=.ok (.ret (.bool true))/\OldK s₁.heap s'.heap/\s'.os=s₁.os/\AllBare s'.gens) s₁:=by
    intro H hO hS hok hA hK
    have base_of:∀{b:Addr} {o:Obj},s₁.heap.get? b=some o->H b=none->(Us s₁.heap H).get? b=some o:=fun e n=>Vl e n
    have noA:∀{b:Addr} {o:Obj} {es:Array DictEntry} {ep:Nat},s₁.heap.get? b=some o->o.data=.dict es ep->H b=none:=fun{b o es ep} e d=>by
      cases q:H b with
      |none=>rfl
      | some u =>
        have e':b=a:=hA b (by rw[q];simp)
        subst e'
        rw[ha]at e;cases e
        have d':Data.seq vs.toArray _=Data.dict es ep:=d
        cases d'
    have nsK:∀{b:Addr} {m:Str->Option Value},s₁.heap.Ns b m->(Us s₁.heap H).Ns b m:=fun{b m} ⟨o,es,ep,e,d,r⟩=>⟨o,es,ep,base_of e (noA e d),d,r⟩
    have hKb:K.In (Us s₁.heap H):=fun b o e=>base_of (KX b o e) (by
      cases q:H b with
      |none=>rfl
      | some u =>
        have e':b=a:=hA b (by rw[q];simp)
        subst e'
        rw[hK (by rw[q];simp)]at e;cases e)
    have hM:Mod K mg (Us s₁.heap H):=⟨hKb,nsK hns,⟨mb,nsK hb,hbb⟩,let⟨mc,h1,h2⟩:=hlim;⟨mc,nsK h1,h2⟩⟩
    have e0:bT P w K mg (Us s₁.heap H) callerA [] s₁ H:=⟨rfl,hM,fun b o e=>YK e,Nat.le_of_eq (RB _ _),trivial,fun b hb=>absurd (show b∈([]:List Addr)from hb) (by simp),hok,.of_eq hg⟩
    refine codeAny_mono ((F _ hKb (nsK hns)).run callerA [] s₁ H ⟨[.ref a],[]⟩ [.ref a] [.ref a] _ _ hr e0 (hbind s₁ (.ref a)) (.cons rfl .nil) (hsp H hO hS)) fun r s' h=>?_
    cases r with
    |error e=>exact(hCX H e s' h).elim
    | ok fl =>
      cases fl with
      |next=>exact False.elim h
      |brk=>exact False.elim h
      |cont=>exact False.elim h
      | ret u =>
        obtain⟨v,H',os,bare,un,hok',r',q⟩:=h
        have q':v=.bl true:=q
        subst q'
        obtain rfl:u=Value.bool true:=r'
        refine⟨rfl,OldK.of_keep fun b o e=>?_,os,bare⟩
        cases q:H b with
        |none=>exact un.keep b o e q (by intro z;exact absurd (show b∈([]:List Addr)from z) (by simp)) (by simp)
        | some u =>
          rcases hO b with z|⟨ob,xs,z⟩
          ·rw[q]at z;cases z
          · have z2 := un.frzs b ob _ z
            obtain⟨e1,_⟩:=hok b _ z
            obtain⟨e2,_⟩:=hok' b _ z2
            rw[e]at e1;cases e1
            exact e2
  cases hk:K.lookup a with
  | some o =>
    have e:=KX a o hk
    rw[ha]at e
    cases e
    refine core (fun _=>none) (fun _=>.inl rfl) (.inr ⟨_,vs.toArray,_,hk,rfl,rfl,rfl,by rw[List.size_toArray,lenV];exact hl,by simpa using rv⟩) (fun b u z=>by have z':(none:Option HO)=some u:=z;cases z') (fun b z=>absurd rfl z) fun z=>absurd rfl z
  | none =>
    refine core (fun b=>if b=a then some (.frz {cls:=.type "list",data:=.seq vs.toArray} (.lst (ns.map V.int)))else none) (fun b=>?_) (.inl (.inr ⟨{cls:=.type "list",data:=.seq vs.toArray},if_pos rfl⟩)) (fun b u z=>?_) (fun b z=>?_) fun _=>hk
    · by_cases hb : b = a
      ·exact .inr ⟨_,_,if_pos hb⟩
      ·exact .inl (if_neg hb)
    · by_cases hb : b = a
      · have z' := (if_pos hb).symm.trans z
        cases z'
        subst hb
        exact⟨ha,by rw[List.length_map];exact hl,vs,_,rv,ha⟩
      · have z' := (if_neg hb).symm.trans z
        cases z'
    · by_cases hb : b = a
      ·exact hb
      ·exact absurd (if_neg hb) z
end L2
namespace L2
open PySem PySem.Spec PyProof.Rows
abbrev KOf{K:PySem.W.Frag}{h:Heap}(_:K.In h):PySem.W.Frag:=K
theorem XU{l:PySem.W.OpenLaw}{n k:Nat}{q:Program}{loose:List Str}{XP:(Str->Option Value)->Heap->Prop}{YP:World->Heap->Prop}{d:DefRec}{K:Params->PySem.W.Frag}{CX:World->CXT}{sp:World->Sp}{x:Str}
  (hn:l.most=some n) (hn2:n≤sizeLine) (hdf:d.params.defaults=[]) (hr:MT k callerA)
  (hY:∀(w:World) (h:Heap),YP w h->(K w.params).In h)
  (F : ∀ (w : World) (mg : Str -> Option Value) (fa : Addr) (h : Heap), (K w.params).In h -> h.Ns mainGlobals mg -> mg d.name = some (.ref fa) ->
   ∃ fd : FuncData, (∀ (s : Shared) (u : Value), BindsTo s fd ⟨[u], []⟩ [(x, u)]) /\
    ∀base:Heap,(K w.params).In base->base.Ns mainGlobals mg->Om l.prog w (K w.params) mg base (CX w) k fa fd [x] (sp w))
  (hsp:∀(w:World) (H:Hp) (a:Addr) (ns:List Int),ns.length≤n->dI H->SqL (K w.params) H a (ns.map V.int)->sp w [.ref a] H (fun v _=>v=.bl true) fun _ _ _=>False)
  (hCX:∀(w:World) (H:Hp) (s:Shared) (e:Value) (s':Shared),CX w [] H s (fun _ _ _=>False) e s'->False):
  PySem.W.WalkO q loose XP YP l.row.toRowW d [] (fun f vs=>PySem.call f vs):=by
 refine Att.attach_call hn hdf fun w s₀ s₁ mg mb fa o pm cd doc a vs ns G Y ho hd hcd hmg hobj hints hlen hg=>?_
 have KX:=hY w _ Y
 obtain⟨fd,hb,hF⟩:=F w mg fa _ KX G.T.g hmg
 exact Vr KX G.T.g G.T.b G.T.builtins G.T.nolimit hg hobj hints (Nat.le_trans hlen hn2) hr hF hb (fun H hO hS=>hsp w H a ns hlen hO hS) fun H e s'=>hCX w H s₁ e s'
end L2
namespace L2
open PySem PySem.Spec PyProof.Rows
noncomputable def K8(s:Stmt):Arguments:=match s with
 | .FunctionDef _ a _ _ _ _ _ _ _ _=>a
 |_=>{posonlyargs:=[],args:=[],vararg:=none,kwonlyargs:=[],kw_defaults:=[],kwarg:=none,defaults:=[]}
noncomputable def GS(s:Stmt):List Stmt:=match s with
 | .FunctionDef _ _ b _ _ _ _ _ _ _=>b
 |_=>[]
noncomputable def AI(s:Stmt):Scope:=match s with
 | .FunctionDef _ _ _ _ _ _ sc _ _ _=>sc
 |_=>{kind:=.function,names:=[],isGenerator:=false,isCoroutine:=false}
abbrev CX0:CXT:=fun _ _ _ _ _ _=>False
abbrev E0:XK:=fun _ _ _=>False
theorem d6{X:Cx}:Passes CX0 X E0:=fun _ _ _ _ _ _ _ h=>h.elim
structure Fun(K:PySem.W.Frag)(x qual:Str)(st:Stmt)(f:Addr)(fd:FuncData):Prop where
 ex:∃(oc:Value) (od:Option Addr) (kV doc pm:Value) (an:Option Addr) (cdv ct:Value) (osl:Array (Option Value)),
  fd=PySem.W.fnOf x qual (K8 st) (GS st) (AI st) .none kV doc pm an cdv ct/\K.lookup f=some ⟨oc,od,.func fd,osl⟩/\PySem.W.codeIn K cdv qual=true
 kp:PySem.W.keepIn K (.ref f)=true
section
variable{P:Program}{w:World}{K:PySem.W.Frag}{mg:Str->Option Value}{base:Heap}
theorem Fun.ok{x qual:Str}{st:Stmt}{f:Addr}{fd:FuncData}{N ps:List Str}{k:Nat}{sp:Sp}(F:Fun K x qual st f fd)(S:AU N ps (AI st))(len:∀vs H Q E,sp vs H Q E->vs.length=ps.length)
  (hbody:∀(cdv:Value) (A:Around) (outer:List Env) (s:Shared) (H:Hp) (vs:List V) (Q:VK) (E:XK),MT k (A.deeper (envOfC qual (AI st) s.heap.objs.size f cdv))->sp vs H Q E->
   ∃t,PSs (WR CX0 P w K mg base N qual (AI st) f cdv A outer s H E).nox (GS st) t/\t {nx:=fun _ H'=>Q .non H',rt:=Q} (start N vs) H):Om P w K mg base CX0 (k+1) f fd ps sp:=by
 obtain⟨oc,od,kV,doc,pm,an,cdv,ct,osl,rfl,lk,hcd⟩:=F.ex
 refine dD lk hcd S len fun A outer s H vs Q E hr hsp=>?_
 obtain⟨t,h,q⟩:=hbody cdv A outer s H vs Q E hr hsp
 exact⟨t,h.nox,q⟩
theorem Fun.binds{x qual:Str}{st:Stmt}{f:Addr}{fd:FuncData}{ps:List Str}(F:Fun K x qual st f fd)
  (h:∀(kV doc pm:Value) (an:Option Addr) (cdv ct:Value) (us:List Value),us.length=ps.length->bindArgs (PySem.W.fnOf x qual (K8 st) (GS st) (AI st) .none kV doc pm an cdv ct) ⟨us,[]⟩=pure (ps.zip us)):Binds K fd ps []:=by
 obtain⟨oc,od,kV,doc,pm,an,cdv,ct,osl,rfl,lk,hcd⟩:=F.ex
 exact .all (h kV doc pm an cdv ct)
theorem Yv{x qual:Str}{st:Stmt}{f:Addr}{oc:Value}{od an:Option Addr}{osl:Array (Option Value)}{kV doc pm cdv ct:Value}(l:K.lookup f=some ⟨oc,od,.func (PySem.W.fnOf x qual (K8 st) (GS st) (AI st) .none kV doc pm an cdv ct),osl⟩)
  (c:PySem.W.codeIn K cdv qual=true) (k:PySem.W.keepIn K (.ref f)=true):Fun K x qual st f (PySem.W.fnOf x qual (K8 st) (GS st) (AI st) .none kV doc pm an cdv ct):=⟨⟨oc,od,kV,doc,pm,an,cdv,ct,osl,rfl,l,c⟩,k⟩
end
section
variable{X:Cx}
end
theorem YG{A B:Prop}(h:B):if false=true then A else B:=by
 rw[if_neg Bool.false_ne_true]
 exact h
theorem Xf{A B:Prop}(h:A):if true=true then A else B:=by
 rw[if_pos rfl]
 exact h
def Bz(H H':Hp):Prop:=∀b o,H b=some o->H' b=some o
end L2
end
noncomputable section
namespace L2
open PySem PySem.Spec PyProof.Rows
noncomputable def GR(cells:List (Str×Addr)):List (Str×NameKind)->List (Str×Addr)->List (Str×Addr)
 | [],cs=>cs
 |(n,k)::r,cs=>if(k==NameKind.free)=true then GR cells r ((n,(cells.lookup n).getD 0)::cs)else GR cells r cs
theorem ON{env:Env}:∀(names:List (Str×NameKind)) (cs:List (Str×Addr)),(∀y∈names,y.2=.free->∃a,env.cells.lookup y.1=some a)->
    (forIn names cs fun(x:Str×NameKind) r=>match x with|(name,kind)=>if(kind==NameKind.free)=true then(do let a←cellOf env name;pure (ForInStep.yield ((name,a)::r)))else pure (ForInStep.yield r):Sem (List (Str×Addr)))=pure (GR env.cells names cs)
  | [],cs,_=>by simp[GR]
  | (n, k) :: r, cs, h => by
    rw[List.forIn_cons]
    have ih:=fun cs=>ON r cs fun y hy=>h y (List.mem_cons_of_mem _ hy)
    by_cases hk:(k==NameKind.free)=true
    · obtain ⟨a, ha⟩ := h (n, k) List.mem_cons_self (by simpa using hk)
      have ha':env.cells.lookup n=some a:=ha
      have e:cellOf env n=pure a:=by unfold cellOf;rw[ha']
      simp only[hk,if_true,e,pure_bind,GR,ha',Option.getD_some]
      exact ih _
    · simp only [hk, if_false, pure_bind, GR]
      exact ih _
theorem QB{scope:Scope}{env:Env}(h:∀y∈scope.names,y.2=.free->∃a,env.cells.lookup y.1=some a):closureFor scope env=pure (GR env.cells scope.names []):=by
 unfold closureFor
 have:=ON (env:=env) scope.names [] h
 simp only[bind_pure]at this⊢
 exact this
theorem Kx {cells : List (Str × Addr)} {x : Str} {c : Addr} : ∀ {names : List (Str × NameKind)} {cs : List (Str × Addr)}, (∀ y ∈ names, y.2 = .free -> ∃ a, cells.lookup y.1 = some a) ->
    (GR cells names cs).lookup x=some c->cs.lookup x=some c∨cells.lookup x=some c
  | [],cs,_,h=>.inl h
  | (n, k) :: r, cs, hh, h => by
    have hr:∀y∈r,y.2=.free->∃a,cells.lookup y.1=some a:=fun y hy=>hh y (List.mem_cons_of_mem _ hy)
    unfold GR at h
    by_cases hk:(k==NameKind.free)=true
    · rw [if_pos hk] at h
      rcases Kx hr h with q|q
      · obtain ⟨a, ha⟩ := hh (n, k) List.mem_cons_self (by simpa using hk)
        have ha':cells.lookup n=some a:=ha
        rw[List.lookup_cons]at q
        cases hx:x==n with
        | true =>
          rw[hx,ha']at q
          have e:x=n:=by simpa using hx
          subst e
          cases q
          exact .inr ha'
        | false =>
          rw[hx]at q
          exact .inl q
      ·exact .inr q
    · rw [if_neg hk] at h
      exact Kx hr h
theorem JD {cells : List (Str × Addr)} {x : Str} : ∀ {names : List (Str × NameKind)} {cs : List (Str × Addr)}, ((x, NameKind.free) ∈ names ∨ ∃ c, cs.lookup x = some c) -> ∃ c, (GR cells names cs).lookup x = some c
  | [],cs,h=>h.elim (fun z=>nomatch z) id
  | (n, k) :: r, cs, h => by
    unfold GR
    by_cases hk:(k==NameKind.free)=true
    · rw [if_pos hk]
      refine JD ?_
      by_cases hx:x=n
      · subst hx
        exact .inr ⟨_,by rw[List.lookup_cons,beq_self_eq_true]⟩
      · rcases h with h | ⟨c, h⟩
        · rcases List.mem_cons.mp h with e | e
          ·cases e;exact absurd rfl hx
          ·exact .inl e
        · refine .inr ⟨c, ?_⟩
          rw[List.lookup_cons,show(x==n)=false by simpa using hx]
          exact h
    · rw [if_neg hk]
      refine JD ?_
      rcases h with h|h
      · rcases List.mem_cons.mp h with e | e
        ·cases e;exact absurd rfl hk
        ·exact .inl e
      ·exact .inr h
theorem Jp{env:Env}{x:Str}:∀{names:List (Str×NameKind)},names.lookup x=some .free->
    (names.map fun(n,k)=>if(k==NameKind.free && env.scope.kind== .function && env.kindOf n==some .cell)then(n,NameKind.cell)else(n,k)).lookup x=some .cell∨
    (names.map fun(n,k)=>if(k==NameKind.free && env.scope.kind== .function && env.kindOf n==some .cell)then(n,NameKind.cell)else(n,k)).lookup x=some .free
  | [],h=>by simp at h
  | (n, k) :: r, h => by
    have ih:= @Jp env x r
    show List.lookup x ((if(k==NameKind.free && env.scope.kind== .function && env.kindOf n==some .cell)=true then(n,NameKind.cell)else(n,k))::_)=_∨List.lookup x ((if(k==NameKind.free && env.scope.kind== .function && env.kindOf n==some .cell)=true then(n,NameKind.cell)else(n,k))::_)=_
    cases hx:x==n with
    | true =>
      simp only[List.lookup_cons,hx]at h
      cases h
      by_cases hc:(NameKind.free==NameKind.free && env.scope.kind== .function && env.kindOf n==some .cell)=true
      ·rw[if_pos hc];simp only[List.lookup_cons,hx];exact .inl trivial
      ·rw[if_neg hc];simp only[List.lookup_cons,hx];exact .inr trivial
    | false =>
      simp only[List.lookup_cons,hx]at h
      by_cases hc:(k==NameKind.free && env.scope.kind== .function && env.kindOf n==some .cell)=true
      ·rw[if_pos hc];simp only[List.lookup_cons,hx];exact ih h
      ·rw[if_neg hc];simp only[List.lookup_cons,hx];exact ih h
theorem Lw{env:Env}{scope:Scope}{x:Str}{k':NameKind}(hk:k'=.cell∨k'=.free)(h:(relabel scope env).names.lookup x=some k'):(x,NameKind.free)∈scope.names∨(x,NameKind.cell)∈scope.names:=by
 have hm:=PySem.mem_of_lookup h
 obtain⟨⟨n,k⟩,hy,e⟩:=List.mem_map.mp (show(x,k')∈scope.names.map _ from hm)
 by_cases hc:(k==NameKind.free && env.scope.kind== .function && env.kindOf n==some .cell)=true
 ·simp only[hc,if_true]at e
  cases e
  have:k=.free:=by
   have:=((Bool.and_eq_true _ _).mp hc).1
   exact beq_iff_eq.mp ((Bool.and_eq_true _ _).mp this).1
  subst this
  exact .inl hy
 ·simp only[hc,if_false]at e
  cases e
  rcases hk with rfl|rfl
  ·exact .inr hy
  ·exact .inl hy
theorem B2:∀(names:List (Str×NameKind)) (n:Nat) (cs:List (Str×Addr)),cellsFrom n names cs=cellsFrom n names []++cs
  | [],_,_=>rfl
  | (x, k) :: r, n, cs => by
    unfold cellsFrom
    split
    ·rw[B2 r _ ((x,n)::cs),B2 r _ [(x,n)]];simp
    ·exact B2 r n cs
theorem GL{x:Str}{c:Addr}:∀{names:List (Str×NameKind)} {n:Nat},(x,c)∈cellsFrom n names []->(x,NameKind.cell)∈names
  | [],_,h=>nomatch h
  | (y, k) :: r, n, h => by
    unfold cellsFrom at h
    split at h
    · rename_i hk
      rw[B2]at h
      rcases List.mem_append.mp h with z|z
      ·exact List.mem_cons_of_mem _ (GL z)
      · have e := List.mem_singleton.mp z
        cases e
        rw[beq_iff_eq.mp hk]
        exact List.mem_cons_self
    ·exact List.mem_cons_of_mem _ (GL h)
theorem JX{M:Model}{A:Around}{E:Value->Shared->Prop}{s:Shared}{scope:Scope}{globals:Addr}{cl:List (Str×Addr)}{qual:Str}{env:Env}{Q:Env->Shared->Prop}
  (hQ:∀h':Heap,h'.Ns s.heap.objs.size (fun _=>none)->(∀b o,s.heap.get? b=some o->h'.get? b=some o)->CellsOk h' (s.heap.objs.size+1) (cellsFrom (s.heap.objs.size+1) scope.names [])->
   Q (newEnv scope s.heap.objs.size globals (cellsFrom (s.heap.objs.size+1) scope.names cl) qual none .none (some env) builtinsNs) {s with heap:=h'}):
  wpAny M A (newFunctionEnv scope globals cl [] qual none .none (some env)) Q E s:=by
 simp only[newFunctionEnv,Option.isSome_some,if_true]
 refine wpAny_bind (wpAny_alloc ?_)
 refine wpAny_bind (wpAny_layCells _ (fun name kind cells=>by cases hkc:kind==NameKind.cell<;>simp[hkc]) _ _ _ _ ?_)
 have ok:=cellsFrom_ok scope.names (s.heap.push {cls:=.type "dict",data:=.dict #[]}) (s.heap.objs.size+1) [] ⟨fun _ _ hm=>(nomatch hm),List.Pairwise.nil⟩ (by rw[Heap.size_push];exact Nat.le_refl _)
 rw[Heap.size_push]at ok
 rw[show({s with heap:=s.heap.push {cls:=.type "dict",data:=.dict #[]}}:Shared).heap.objs.size=s.heap.objs.size+1 from Heap.size_push ..]
 rw[List.forIn_nil]
 refine wpAny_bind (wpAny_pure (wpAny_pure ?_))
 exact hQ _ ((Heap.Ns.new s.heap (.type "dict")).keeps (pushCells_keeps _ _)) (fun b o e=>pushCells_keeps _ _ b o (Heap.get?_push_of_some _ e)) ok
end L2
end
noncomputable section
namespace L2
open PySem PySem.Spec PyProof.Rows
noncomputable def QX(N:List Str)(osc scope:Scope):List Str->List (Option Nat)->Bool
 | [],[]=>true
 |_::r,none::q=>QX N osc scope r q
 |x::r,some i::q=>decide (N[i]?=some x) && (decide (osc.names.lookup x=some .cell)||decide (osc.names.lookup x=some .free)) && decide (scope.names.lookup x=some .free) && QX N osc scope r q
 |_,_=>false
theorem SV{N:List Str}{osc scope:Scope}:∀{N':List Str} {ix:List (Option Nat)},QX N osc scope N' ix=true->ix.length=N'.length
  | [],[],_=>rfl
  | _ :: r, none :: q, h => by
    unfold QX at h
    simp[SV h]
  | x :: r, some i :: q, h => by
    unfold QX at h
    have:=((Bool.and_eq_true _ _).mp h).2
    simp[SV this]
  | [],_::_,h=>by simp[QX]at h
  |_::_,[],h=>by simp[QX]at h
theorem YT{N:List Str}{osc scope:Scope}:∀{N':List Str} {ix:List (Option Nat)},QX N osc scope N' ix=true->∀{j i:Nat} {x:Str},N'[j]?=some x->ix[j]?=some (some i)->
    N[i]?=some x/\(osc.names.lookup x=some .cell∨osc.names.lookup x=some .free)/\scope.names.lookup x=some .free
  | [],[],_,j,_,_,h,_=>by simp at h
  | _ :: r, none :: q, h, j, i, x, h1, h2 => by
    unfold QX at h
    cases j with
    |zero=>simp at h2
    |succ j=>exact YT h (by simpa using h1) (by simpa using h2)
  | y :: r, some k :: q, h, j, i, x, h1, h2 => by
    unfold QX at h
    obtain⟨ha,hr⟩:=(Bool.and_eq_true _ _).mp h
    obtain⟨ha,h3⟩:=(Bool.and_eq_true _ _).mp ha
    obtain⟨h4,h5⟩:=(Bool.and_eq_true _ _).mp ha
    cases j with
    | zero =>
      simp at h1 h2
      subst h1 h2
      refine⟨of_decide_eq_true h4,?_,of_decide_eq_true h3⟩
      rcases(Bool.or_eq_true _ _).mp h5 with z|z
      ·exact .inl (of_decide_eq_true z)
      ·exact .inr (of_decide_eq_true z)
    |succ j=>exact YT hr (by simpa using h1) (by simpa using h2)
  | [],_::_,h,_,_,_,_,_=>by simp[QX]at h
  |_::_,[],h,_,_,_,_,_=>by simp[QX]at h
structure AZ(N:List Str)(osc:Scope)(N':List Str)(ix:List (Option Nat))(scope:Scope):Prop where
 kind:scope.kind=.function
 cells:∀y∈scope.names,y.2=.cell->scope.names.lookup y.1=some .cell
 names:∀y∈scope.names,y.2=.local->scope.names.lookup y.1=some .local
 free:∀y∈scope.names,y.2=.free->(osc.names.lookup y.1=some .cell∨osc.names.lookup y.1=some .free)
 ok:QX N osc scope N' ix=true
noncomputable def sig(ix:List (Option Nat))(σ:St):St:=ix.map fun o=>o.bind fun i=>(σ[i]?).join
noncomputable def HA(X:Cx)(N':List Str)(scope:Scope)(s:Shared)(H:Hp)(fp:List Addr):Cx where
 prog:=X.prog
 w:=X.w
 K:=X.K
 mg:=X.mg
 base:=X.base
 A:=X.A
 N:=N'
 s₀:=s
 H₀:=H
 env:=compEnvC scope (cellsFrom (s.heap.objs.size+1) scope.names (GR X.env.cells scope.names [])) s.heap.objs.size X.env
 outer:=X.stack
 stack:=X.stack
 ex:=fp
 fn:=fun x=>decide (scope.names.lookup x=some .cell)
 calm:=true
 pn:=[]
 xe:=fun _ _=>False
section
variable{X:Cx}{pins:List (Addr×Obj)}{σ:St}{H:Hp}{s:Shared}{N':List Str}{ix:List (Option Nat)}{scope:Scope}{fp:List Addr}
theorem Inv.cellsOf(I:Inv X pins σ H s)(S:AZ X.N X.env.scope N' ix scope):∀y∈scope.names,y.2=.free->∃a,X.env.cells.lookup y.1=some a:=fun y hy hk=>I.ok.has y.1 (S.free y hy hk)
theorem Ui (S : AZ X.N X.env.scope N' ix scope) (hc : X.calm = true) (I : Inv X pins σ H s) (hf : ∀ b ∈ fp, PR X pins H b) (hlt : ∀ b ∈ fp, b < s.heap.objs.size) {h1 : Heap} {m1 : Str -> Option Value} {tk : Nat}
    (hn:h1.Ns s.heap.objs.size m1) (hk:∀b o,s.heap.get? b=some o->h1.get? b=some o) (hC:CellsOk h1 (s.heap.objs.size+1) (cellsFrom (s.heap.objs.size+1) scope.names [])):
    Inv (HA X N' scope s H fp) [] (sig ix σ) H {s with heap:=h1,toks:=tk}:=by
  have hcl:=I.cellsOf S
  have sub:∀{x:Str} {c:Addr},(GR X.env.cells scope.names []).lookup x=some c->X.env.cells.lookup x=some c:=fun{x c} h=>by
    rcases Kx hcl h with z|z
    ·simp at z
    ·exact z
  have old:∀{x:Str} {c:Addr},X.env.cells.lookup x=some c->c<s.heap.objs.size:=fun{x c} h=>by
    obtain⟨v,oc,ho,_⟩:=I.cell x c h
    exact Heap.lt_size ho
  have look:∀{x:Str} {c:Addr},(cellsFrom (s.heap.objs.size+1) scope.names (GR X.env.cells scope.names [])).lookup x=some c->(x,c)∈cellsFrom (s.heap.objs.size+1) scope.names []∨X.env.cells.lookup x=some c:=fun{x c} h=>by
    rw[B2,List.lookup_append]at h
    cases e:(cellsFrom (s.heap.objs.size+1) scope.names []).lookup x with
    |some a=>rw[e]at h;cases h;exact .inl (PySem.mem_of_lookup e)
    |none=>rw[e]at h;exact .inr (sub h)
  refine⟨⟨I.ok.mod,S.kind,I.ok.glob,I.ok.blt,Nat.le_refl _,fun x y c h1 h2=>?_,fun x hx=>?_,fun x c hx h=>?_,fun _=>I.ok.hd hc,I.ok.frames,.inl rfl,fun b hb=>?_,I.bs,Nat.le_trans I.ok.bsz I.sz,fun b o e hb=>?_,fun b hb hs=>?_,I.stack,I.stkFree⟩,
    rfl,I.bare,Un.kept hk,⟨m1,hn,fun j x v h1 h2 h3=>?_⟩,fun x c h=>?_,I.hok.fresh (Nat.le_refl _),fun x c h=>?_,fun p hp=>absurd (show p∈([]:List (Addr×Obj))from hp) (by simp),I.hok.kept hk,?_⟩
  · -- inj
    rcases look h1 with a|a<;>rcases look h2 with b|b
    ·exact name_of_addr hC.apart a b
    ·exact absurd (Nat.lt_of_lt_of_le (old b) (Nat.le_of_succ_le (hC.empty _ _ a).2)) (Nat.lt_irrefl _)
    ·exact absurd (Nat.lt_of_lt_of_le (old a) (Nat.le_of_succ_le (hC.empty _ _ b).2)) (Nat.lt_irrefl _)
    ·exact I.ok.inj x y c a b
  · -- has
    have hx':(relabel scope X.env).names.lookup x=some .cell∨(relabel scope X.env).names.lookup x=some .free:=hx
    show∃c,(cellsFrom (s.heap.objs.size+1) scope.names (GR X.env.cells scope.names [])).lookup x=some c
    rw[B2,List.lookup_append]
    cases e:(cellsFrom (s.heap.objs.size+1) scope.names []).lookup x with
    |some a=>exact⟨a,rfl⟩
    | none =>
      rcases(hx'.elim (Lw (.inl rfl)) (Lw (.inr rfl)))with z|z
      ·exact JD (.inl z)
      · obtain ⟨c, hc⟩ := KZ (n := s.heap.objs.size + 1) (S.cells _ z rfl)
        rw[e]at hc;cases hc
  · -- cab
    obtain⟨c',hc'⟩:=KZ (n:=s.heap.objs.size+1) (of_decide_eq_true hx)
    have h:(cellsFrom (s.heap.objs.size+1) scope.names (GR X.env.cells scope.names [])).lookup x=some c:=h
    rw[B2,List.lookup_append,hc']at h
    cases h
    exact Nat.le_of_succ_le (hC.empty _ _ (PySem.mem_of_lookup hc')).2
  · -- exf
    refine⟨Nat.ne_of_lt (hlt b hb),fun x c h=>?_⟩
    rcases look h with a|a
    ·exact fun e=>absurd (Nat.lt_of_lt_of_le (e▸hlt b hb) (Nat.le_of_succ_le (hC.empty _ _ a).2)) (Nat.lt_irrefl _)
    ·exact(hf b hb).2.2.2.2.1 x c a
  · -- noex
    rcases(hf b hb).2.2.2.1 with z|z
    ·exact I.ok.noex b o e z
    ·exact absurd (Nat.lt_of_lt_of_le (Heap.lt_size (I.ok.bs b o e).1) z) (Nat.lt_irrefl _)
  · -- exfs
    rcases List.mem_cons.mp (I.stkSub b hs)with z|z
    ·exact(hf b hb).2.1 z
    ·exact(hf b hb).2.2.1 z
  · -- loc
    unfold sig at h2
    rw[List.getElem?_map]at h2
    cases e:ix[j]? with
    |none=>rw[e]at h2;cases h2
    | some o =>
      rw[e]at h2
      cases o with
      |none=>cases h2
      | some i =>
        have h2':(σ[i]?).join=some v:=by simpa using h2
        have h4:σ[i]?=some (some v):=by
          cases e4:σ[i]? with
          |none=>rw[e4]at h2';cases h2'
          |some q=>rw[e4]at h2';exact congrArg some h2'
        obtain⟨q1,q2,q3⟩:=YT S.ok h1 e
        obtain⟨m,_,hl⟩:=I.loc
        obtain⟨u,r,l⟩:=hl i x v q1 h4 (q2.elim (fun z=>.inr (.inl z)) fun z=>.inr (.inr z))
        refine⟨u,r,?_⟩
        rcases l with⟨l,_⟩|⟨_,c,lc,z⟩
        · have l' : X.env.scope.names.lookup x = some .local := l
          rcases q2 with z|z<;>(rw[z]at l';cases l')
        · refine .inr ⟨Jp q3, ?_⟩
          obtain⟨c',hc'⟩:=JD (cells:=X.env.cells) (cs:=[]) (.inl (PySem.mem_of_lookup q3))
          have ec:=sub hc'
          rw[lc]at ec
          cases ec
          have no:(cellsFrom (s.heap.objs.size+1) scope.names []).lookup x=none:=by
            cases e:(cellsFrom (s.heap.objs.size+1) scope.names []).lookup x with
            |none=>rfl
            | some a =>
              have q:=S.cells _ (GL (PySem.mem_of_lookup e)) rfl
              rw[q3]at q;cases q
          refine⟨c,(by show(cellsFrom (s.heap.objs.size+1) scope.names (GR X.env.cells scope.names [])).lookup x=some c;rw[B2,List.lookup_append,no];exact hc'),?_⟩
          obtain⟨oc,ho,hd⟩:=z
          exact⟨oc,hk _ _ ho,hd⟩
  · rcases look h with a | a
    ·exact⟨_,(hC.empty _ _ a).1⟩
    · obtain ⟨v, oc, ho, hd⟩ := I.cell x c a
      exact⟨v,oc,hk _ _ ho,hd⟩
  · rcases look h with a | a
    ·exact I.hok.fresh (Nat.le_of_succ_le (hC.empty _ _ a).2)
    ·exact I.freeC x c a
  · show (sig ix σ).length = N'.length
    unfold sig
    rw[List.length_map]
    exact SV S.ok
end
end L2
end
noncomputable section
namespace L2
open PySem PySem.Spec PyProof.Rows
def PTs(X:Cx)(ifs:List Expr)(t:TT):Prop:=
 ∀ (pins : List (Addr × Obj)) (s : Shared) (σ : St) (H : Hp) (Q : Bool -> Hp -> Prop), Inv X pins σ H s -> t σ H Q ->
  wpAny (model X.prog X.w) X.A (forIn ifs true fun c r=>if r=true then do let ok←isTrue c X.env (eval c X.env);pure (ForInStep.yield ok)else pure (ForInStep.yield r)) (TP X pins σ Q) X.xe s
noncomputable def cJ:TT:=fun _ H Q=>Q true H
theorem YE{X:Cx}:PTs X [] cJ:=fun _ _ _ H _ I h=>wpAny_tests_nil ⟨H,I,h⟩
theorem Yc{X:Cx}{c:Expr}{t:TT}(h:PT X c t):PTs X [c] t:=fun pins s σ H Q I q=>wpAny_tests_one (h pins s σ H Q I q)
theorem U6{α:Type}{M:Model}{A:Around}{t:Sem α}{Q:α->Shared->Prop}{E:Value->Shared->Prop}{s:Shared}(h:wpAny M A t Q (fun _ _=>False) s):wpAny M A t Q E s:=wpAny_mono h (fun _ _ q=>q) fun _ _ f=>f.elim
def Yk(ix:List (Option Nat))(g:TG)(tc:TT)(te:TE)(J:It)(σ:St)(H:Hp)(Q:VK):Prop:=
 ∀ D, H D = none -> ∃ W : Nat -> Nat -> St -> Hp -> List V -> Prop, (∃ m, W 0 m (sig ix σ) (upd H D (.lst [])) []) /\ ∀ i m σ H ys, W i m σ H ys -> H D = some (.lst ys) /\
  ((J.stop i H/\Q (.ref D) H)∨(J.go i H/\ys.length<sizeLine/\∀x H',J.yld i H x H'->g x σ H' fun σ2 H2=>tc σ2 H2 fun b H3=>
   if b=true then te σ2 H3 fun y H4=>H4 D=some (.lst ys)/\∃m',m'<m/\W (i+1) m' σ2 (upd H4 D (.lst (ys++[y]))) (ys++[y])else∃m',m'<m/\W (i+1) m' σ2 H3 ys))
noncomputable def X1(ix:List (Option Nat))(wi:TI)(g:TG)(tc:TT)(te:TE):TE:=fun σ H Q=>wi σ H fun J H1=>Yk ix g tc te J σ H1 Q
section
variable{X:Cx}{pins:List (Addr×Obj)}{σ:St}{s₂:Shared}{N':List Str}{ix:List (Option Nat)}{scope:Scope}{elt tg iter:Expr}{ifs:List Expr}{pos:Pos}{g:TG}{tc:TT}{te:TE}
def Block(X:Cx)(N':List Str)(scope:Scope)(tg:Expr)(ifs:List Expr)(elt:Expr)(g:TG)(tc:TT)(te:TE):Prop:=
 ∀(s:Shared) (H:Hp) (fp:List Addr),PG (HA X N' scope s H fp) tg g/\PTs (HA X N' scope s H fp) ifs tc/\PE (HA X N' scope s H fp) elt te
theorem Rh{X':Cx}{it:Addr}{fp:List Addr}{tn:Nat->Heap->Prop}{J:It}{D:Addr}{Q:VK}{R:Result->Shared->Prop}{W:Nat->Nat->St->Hp->List V->Prop}{s:Shared}{e:Env}{n:Nat}
    (he:X'.env=e) (hx:X'.xe=fun _ _=>False) (hcm:X'.calm=true) (T:Turn X'.prog X'.w X'.K tg J fp it tn) (hfp:∀H:Hp,(∀b∈fp,H b=none)->∀b∈fp,PR X' [] H b)
    (hg:PG X' tg g) (ht:PTs X' ifs tc) (hb:PE X' elt te)
    (turn:∀i m σ H ys,W i m σ H ys->H D=some (.lst ys)/\
      ((J.stop i H/\Q (.ref D) H)∨(J.go i H/\ys.length<sizeLine/\∀x H',J.yld i H x H'->g x σ H' fun σ2 H2=>tc σ2 H2 fun b H3=>
        if b=true then te σ2 H3 fun y H4=>H4 D=some (.lst ys)/\∃m',m'<m/\W (i+1) m' σ2 (upd H4 D (.lst (ys++[y]))) (ys++[y])else∃m',m'<m/\W (i+1) m' σ2 H3 ys)))
    (hR:∀s' σ' H',Inv X' [] σ' H' s'->Q (.ref D) H'->R (.ok .next) s')
    (h0:∃i σ' H' ys,Inv X' [] σ' H' s/\tn i s.heap/\(∀b∈fp,H' b=none)/\W i n σ' H' ys):
    codeAny (model X'.prog X'.w) X'.A (.compLoop (.ListComp elt [⟨tg,iter,ifs,0⟩] scope pos) 0 (.ref it) (.ref D) e) R s:=by
  subst he
  refine codeAny_loop rfl (fun n s=>∃i σ' H' ys,Inv X' [] σ' H' s/\tn i s.heap/\(∀b∈fp,H' b=none)/\W i n σ' H' ys) (fun n s3 hI=>?_) n h0
  show wpAny _ X'.A ((compTurn (.ListComp elt [⟨tg,iter,ifs,0⟩] scope pos) 0 (.ref it) (.ref D) X'.env).onRaise (fun x=>do noteFrame x X'.env;theTreesLotGoes x)) _ _ s3
  refine wpAny_noted (U6 ?_)
  rw[compTurn_list]
  obtain⟨i,σ3,H3,ys,I3,st3,fr3,w3⟩:=hI
  obtain⟨hD,alt⟩:=turn i n σ3 H3 ys w3
  rcases alt with⟨stop,q⟩|⟨go,hlen,step⟩
  · refine wpAny_bind (wpAny_standAt (wpAny_bind (thn (T.done X' rfl rfl rfl hcm i [] s3 σ3 H3 _ I3 (hfp H3 fr3) st3 stop) fun r s4 ⟨hr, I4⟩ => ?_)))
    subst hr
    exact wpAny_pure (hR s4 σ3 H3 I4 q)
  · refine wpAny_bind (wpAny_standAt (wpAny_bind (thn (T.item X' rfl rfl rfl hcm i [] s3 σ3 H3 _ I3 (hfp H3 fr3) st3 go) fun r s4 ⟨u, hr, h4⟩ => ?_)))
    subst hr
    refine wpAny_bind (thn h4 fun _ s5 ⟨x,H5,I5,r5,y5,st5,fr5⟩=>?_)
    have I5':=I5.pinned (hfp H5 fr5) (T.obj _ _ st5)
    have hg':=hg _ s5 σ3 H5 x u _ I5' r5 (step x H5 y5)
    rw[hx]at hg'
    refine wpAny_bind (thn hg' fun _ s6 ⟨σ6,H6,I6,q6⟩=>?_)
    have ht':=ht _ s6 σ6 H6 _ I6 q6
    rw[hx]at ht'
    refine wpAny_bind (thn ht' fun ok s7 ⟨H7,I7,q7⟩=>?_)
    have again:∀{s8:Shared} {H8:Hp} {zs:List V} {m':Nat},Inv X' ([]++OH fp s5.heap) σ6 H8 s8->m'<n->W (i+1) m' σ6 H8 zs->∃m,m<n/\∃i σ' H' ys,Inv X' [] σ' H' s8/\tn i s8.heap/\(∀b∈fp,H' b=none)/\W i m σ' H' ys:=fun{s8 H8 zs m'} I8 hm w8=>by
      refine⟨m',hm,i+1,σ6,H8,zs,I8.unpinned,T.keep _ _ _ st5 fun b hb o e=>(I8.pin (b,o) (List.mem_append_right _ (List.mem_append_right _ (Hb hb e)))).1,fun b hb=>?_,w8⟩
      obtain⟨o,e,d⟩:=T.obj _ _ st5 b hb
      exact(I8.pin (b,o) (List.mem_append_right _ (List.mem_append_right _ (Hb hb e)))).2.1
    cases ok with
    | false =>
      rw[if_neg (by decide)]at q7
      obtain⟨m',hm,w7⟩:=q7
      exact wpAny_pure ⟨rfl,again I7 hm w7⟩
    | true =>
      rw[if_pos rfl]at q7
      have hb':=hb _ s7 σ6 H7 _ I7 q7
      rw[hx]at hb'
      refine wpAny_bind (wpAny_bind (thn hb' fun v s8 ⟨y,H8,I8,r8,hD8,m',hm,w8⟩=>?_))
      have ha:=OY (X:=X') _ s8 σ6 H8 (.ref D) [y] (.ref D) [v] (fun _ H9=>H9=upd H8 D (.lst (ys++[y]))) I8 rfl (.cons r8 .nil) ⟨D,ys,y,rfl,rfl,hD8,hlen,rfl⟩
      rw[hx]at ha
      refine wpAny_bind (thn ha fun _ s9 ⟨_,H9,I9,_,e9⟩=>?_)
      subst e9
      exact wpAny_pure (wpAny_pure ⟨rfl,again I9 hm w8⟩)
theorem QI(hc:X.calm=true)(S:AZ X.N X.env.scope N' ix scope)(hb:Block X N' scope tg ifs elt g tc te){it:Addr}{fp:List Addr}{tn:Nat->Heap->Prop}{J:It}{H₂:Hp}{Q:VK}{E:Value->Shared->Prop}
  {RR:Value->Addr->Result->Shared->Prop} (I2:Inv X pins σ H₂ s₂) (T:Turn X.prog X.w X.K tg J fp it tn) (st2:tn 0 s₂.heap) (f2:∀b∈fp,PR X pins H₂ b) (hW:Yk ix g tc te J σ H₂ Q)
  (hRR:∀D C H' s',Inv X pins σ H' s'->(∃m,s'.heap.Ns C m)->PR X pins H' C->Q (.ref D) H'->RR (.ref D) C (.ok .next) s'):
  wpAny (model X.prog X.w) X.A (newList []) (fun acc s₃=>wpAny (model X.prog X.w) X.A (newFunctionEnv scope X.env.globals (GR X.env.cells scope.names []) [] X.env.qual none .none (some X.env)) (fun cenv s₄=>
   codeAny (model X.prog X.w) X.A (.compStart (.ListComp elt [⟨tg,iter,ifs,0⟩] scope pos) 0 (.ref it) acc {cenv with scope:=relabel scope X.env}) (RR acc cenv.locals) s₄) E s₃) E s₂:=by
 have hD0:H₂ s₂.heap.objs.size=none:=I2.hok.fresh (Nat.le_refl _)
 have hlt2:∀b∈fp,b<s₂.heap.objs.size:=fun b hb=>by
  obtain⟨o,e,_⟩:=T.obj _ _ st2 b hb
  exact Heap.lt_size e
 refine wpAny_newObj_type (JX (fun h₁ hns₁ hsb₁ hcl₁=>?_))
 have I3:Inv X pins σ (upd H₂ s₂.heap.objs.size (.lst [])) {s₂ with heap:=s₂.heap.push {cls:=.type "list",dict:=none,data:=.seq ([]:List Value).toArray}}:=
  I2.laid (t':=s₂.toks) (fun b u e=>Heap.get?_push_of_some _ e) (Nat.le_refl _) ⟨Nat.zero_le _,[],0,.nil,Heap.get?_push_size _ rfl⟩
 have f3:∀b∈fp,PR X pins (upd H₂ s₂.heap.objs.size (.lst [])) b:=fun b hb=>⟨by rw[BD (Nat.ne_of_lt (hlt2 b hb))];exact(f2 b hb).1,(f2 b hb).2⟩
 have k3:∀b o,s₂.heap.get? b=some o->(s₂.heap.push {cls:=.type "list",dict:=none,data:=.seq ([]:List Value).toArray}).get? b=some o:=fun b o e=>Heap.get?_push_of_some _ e
 dsimp only at hns₁ hsb₁ hcl₁⊢
 generalize hs3:({s₂ with heap:=s₂.heap.push {cls:=.type "list",dict:=none,data:=.seq ([]:List Value).toArray}}:Shared)=s₃ at I3
 have eh:s₂.heap.push {cls:=.type "list",dict:=none,data:=.seq ([]:List Value).toArray}=s₃.heap:=by rw[←hs3]
 have et:s₂.toks=s₃.toks:=by rw[←hs3]
 have es:∀(h:Heap) (t:Nat),({s₂ with heap:=h,toks:=t}:Shared)={s₃ with heap:=h,toks:=t}:=fun h t=>by rw[←hs3]
 rw[eh]at hns₁ hsb₁ hcl₁ k3⊢
 have hlt3:∀b∈fp,b<s₃.heap.objs.size:=fun b hb=>by
  obtain⟨o,e,_⟩:=T.obj _ _ st2 b hb
  exact Heap.lt_size (k3 b o e)
 have k4:∀b o,s₃.heap.get? b=some o->h₁.get? b=some o:=hsb₁
 obtain⟨W,⟨m0,w0⟩,turn⟩:=hW _ hD0
 have I4:∀tk,Inv (HA X N' scope s₃ (upd H₂ s₂.heap.objs.size (.lst [])) fp) [] (sig ix σ) (upd H₂ s₂.heap.objs.size (.lst [])) {s₃ with heap:=h₁,toks:=tk}:=fun tk=>Ui S hc I3 f3 hlt3 hns₁ k4 hcl₁
 have st4:tn 0 h₁:=T.keep _ _ _ st2 fun b hb o e=>k4 b o (k3 b o e)
 obtain⟨bg,bt,be⟩:=hb s₃ (upd H₂ s₂.heap.objs.size (.lst [])) fp
 have noX:∀(H:Hp),(∀b∈fp,H b=none)->∀b∈fp,PR (HA X N' scope s₃ (upd H₂ s₂.heap.objs.size (.lst [])) fp) [] H b:=fun H hn b hb=>by
  obtain⟨_,h2,h3⟩:=f3 b hb
  refine⟨hn b hb,Nat.ne_of_lt (hlt3 b hb),fun hs=>(I4 0).ok.exfs b hb hs,.inl hb,fun x c h=>?_,fun p hp=>absurd (show p∈([]:List (Addr×Obj))from hp) (by simp)⟩
  exact((I4 0).ok.exf b hb).2 x c h
 have fin:∀(s':Shared) (σ':St) (H':Hp),Inv (HA X N' scope s₃ (upd H₂ s₂.heap.objs.size (.lst [])) fp) [] σ' H' s'->Q (.ref s₂.heap.objs.size) H'->RR (.ref s₂.heap.objs.size) s₃.heap.objs.size (.ok .next) s':=fun s' σ' H' I' q=>by
  refine hRR _ _ H' s' ?_ (let⟨m,hn,_⟩:=I'.loc;⟨m,hn⟩) (I3.fpOk (Nat.le_refl _) I'.free) q
  exact I3.call' I'.os I'.base I'.hok I'.bare fun b hb=>⟨(f3 b hb).2.2.2.1,(f3 b hb).2.1,(f3 b hb).2.2.2.2.1,(f3 b hb).2.2.2.2.2⟩
 have loop:∀tk,codeAny (model X.prog X.w) X.A (.compLoop (.ListComp elt [⟨tg,iter,ifs,0⟩] scope pos) 0 (.ref it) (.ref s₂.heap.objs.size) (compEnvC scope (cellsFrom (s₃.heap.objs.size+1) scope.names (GR X.env.cells scope.names [])) s₃.heap.objs.size X.env)) (RR (.ref s₂.heap.objs.size) s₃.heap.objs.size) {s₃ with heap:=h₁,toks:=tk}:=fun tk=>
  Rh (X':=HA X N' scope s₃ (upd H₂ s₂.heap.objs.size (.lst [])) fp) (D:=s₂.heap.objs.size) (Q:=Q) (W:=W) rfl rfl rfl T noX bg bt be turn fin ⟨0,_,_,_,I4 tk,st4,fun b hb=>(f3 b hb).1,w0⟩
 rw[es]
 exact codeAny_compStart_list (loop _) (T.self _ 0 _ _ _ st4 (loop _))
theorem XJ{wi:TI}(hc:X.calm=true)(S:AZ X.N X.env.scope N' ix scope)(hi:PI X tg iter wi)(hb:Block X N' scope tg ifs elt g tc te)(hs:∀x,foldedSetIterable iter X.env x=pure x:=by intro _;rfl):
  PE X (.ListComp elt [⟨tg,iter,ifs,0⟩] scope pos) (X1 ix wi g tc te):=by
 intro pins s σ H Q I h
 rw[eval_ListComp]
 refine wpAny_comprehension_free (use:=none) rfl hs (QB (I.cellsOf S)) S.kind S.names (thn (hi pins s σ H _ I h) fun v s1 h1=>thn h1 fun itv s2 h2=>?_)
 obtain⟨it,fp,tn,J,H2,e,I2,T,st2,f2,hW⟩:=h2
 subst e
 refine QI (RR:=fun acc C=>compPost (model X.prog X.w) X.A X.xe none (EP X pins σ Q) acc C) hc S hb I2 T st2 f2 hW ?_
 intro D C H' s' I' hm hC q
 obtain⟨m,hm⟩:=hm
 refine⟨m,hm,fun h' hs'=>⟨.ref D,H',I'.turned (it:=C) (t':=s'.toks) (fun b o hb e=>hs'.extBut b o hb e) hC.1 hC.2.1 hC.2.2.2.1 hC.2.2.2.2.1 hC.2.2.2.2.2,rfl,q⟩⟩
end
end L2
end
noncomputable section
namespace L2
open PySem PySem.Spec PyProof.Rows
section
variable{X:Cx}{N':List Str}{ix:List (Option Nat)}{scope:Scope}{elt tg iter:Expr}{ifs:List Expr}{pos spos py:Pos}{g:TG}{tc:TT}{te:TE}{wi:TI}{i:Nat}{y:Str}
theorem Qt(hc:X.calm=true)(hN:X.N.Nodup)(hi':X.N[i]?=some y)(hx:X.env.scope.names.lookup y=some .local)(S:AZ X.N X.env.scope N' ix scope)(hi:PI X tg iter wi)(hb:Block X N' scope tg ifs elt g tc te)
  (hsw:swapsWith (.ListComp elt [⟨tg,iter,ifs,0⟩] scope pos) (some (.Name y py)) spos.line X.env=pure true:=by rfl) (hs:∀x,foldedSetIterable iter X.env x=pure x:=by intro _;rfl):
  PS X (.Assign [.Name y py] (.ListComp elt [⟨tg,iter,ifs,0⟩] scope pos) spos) (cK (X1 ix wi g tc te) (Xo i)):=by
 intro pins s σ H D I h
 rw[exec_Assign_Name_used _ _ _ _ hsw]
 refine wpAny_bind (wpAny_standAt (wpAny_bind ?_))
 show wpAny _ X.A (do let _←comprehension (.ListComp elt [⟨tg,iter,ifs,0⟩] scope pos) scope X.env _ (newList []) false (eval iter X.env) (some (assign (.Name y py) X.env))) _ _ s
 refine wpAny_bind (wpAny_mono (wpAny_comprehension_free (use:=some (assign (.Name y py) X.env)) (Q:=fun _ s'=>SP X pins D .next s') rfl hs (QB (I.cellsOf S)) S.kind S.names
  (thn (hi pins s σ H _ I h) fun v s1 h1=>thn h1 fun itv s2 h2=>?_)) (fun _ s' hq=>wpAny_pure (wpAny_pure hq)) fun _ _ e=>e)
 obtain⟨it,fp,tn,J,H2,e,I2,T,st2,f2,hW⟩:=h2
 subst e
 refine QI (RR:=fun acc C=>compPost (model X.prog X.w) X.A X.xe (some (assign (.Name y py) X.env)) (fun _ s'=>SP X pins D .next s') acc C) hc S hb I2 T st2 f2 hW ?_
 intro L C H' s' I' hm hC q
 obtain⟨m,hm⟩:=hm
 show wpAny _ X.A (assign (.Name y py) X.env (.ref L)) _ _ _
 refine wpAny_assign_Name (Of I' hN hi' (.inl hx) (v:=.ref L) rfl (fun s'' I'' ⟨a,sb,ha⟩=>?_) (.inr hx))
 have hCa:C≠a:=by
  rcases ha with rfl|ha
  ·exact hC.2.1
  ·exact Ne.symm (hC.2.2.2.2.1 y a ha)
 refine⟨m,hm.sameBut sb hCa,fun h' hs'=>?_⟩
 exact⟨_,H',I''.turned (it:=C) (t':=s''.toks) (fun b o hb e=>hs'.extBut b o hb e) hC.1 hC.2.1 hC.2.2.2.1 hC.2.2.2.2.1 hC.2.2.2.2.2,q⟩
end
end L2
end
noncomputable section
namespace L2
open PySem PySem.Spec PyProof.Rows
section
variable{prog:Program}{w:World}{A:Around}{E:Value->Shared->Prop}{s:Shared}
theorem Qu{h:Heap}{it t:Addr}{i:Nat}{o:Obj}(ho:h.get? it=some o)(hc:o.cls=.type "tuple_iterator")(hd:o.data=.fields #[.ref t,.int i 0]){h':Heap}
  (e:h'=h.update it (fun o=>o.mapFields fun a=>a.setIfInBounds 1 (rawInt ((i:Int)+1)))):h'.IsTupleIter it t (i+1):=by
 subst e
 have d:=Obj.data_mapFields hd fun a=>a.setIfInBounds 1 (rawInt ((i:Int)+1))
 refine⟨_,Heap.get?_update_self _ ho (Obj.isFreed_of_fields d),?_,?_⟩
 ·rw[Obj.cls_mapFields];exact hc
 ·rw[d];simp[rawInt]
theorem VR{it t:Addr}{i:Nat}{items:Array Value}{x:Value}{Q:Value->Shared->Prop}(hit:s.heap.IsTupleIter it t i)(ht:s.heap.IsTuple t items)(hx:items[i]?=some x)
  (hQ:∀h',h'.IsTupleIter it t (i+1)->Heap.SameBut it s.heap h'->Q x {s with heap:=h'}):wpAny (model prog w) A (Builtin.SmallTypes.nextOf (.ref it)) Q E s:=by
 obtain⟨⟨c,dd,dt,sl⟩,ho,hc,hd⟩:=id hit
 obtain⟨⟨c2,dd2,dt2,sl2⟩,ho2,hc2,n2,hd2⟩:=id ht
 simp only at hc hd hc2 hd2
 subst hc hd hc2 hd2
 unfold Builtin.SmallTypes.nextOf
 refine wpAny_bind (wpAny_callSpecial?_slot (name:=Str.ofString "__next__") hit.typeIs F.slot_tuple_iterator_next (wpAny_call_entry F.slot_tuple_iterator_next hit.typeIs F.entry_tuple_iterator_next ?_ (F.args_tuple_iterator_next_1 _)))
 unfold Builtin.«tuple_iterator.__next__»
 wp_walk using AutoSeq1.wpAny_loadPart' ho,AutoSeq1.wpAny_loadPart' ho2
 have e:items[(i:Int).toNat]?=some x:=by rw[Int.toNat_natCast];exact hx
 rw[e]
 refine wpAny_bind (wpAny_setField ho rfl (by simp) ?_)
 exact wpAny_pure ⟨x,rfl,wpAny_pure (hQ _ (Qu ho rfl rfl rfl) (Heap.SameBut.update ..))⟩
theorem Ua{it t:Addr}{i:Nat}{items:Array Value}{Q:Value->Shared->Prop}(hh:A.handled=none)(hit:s.heap.IsTupleIter it t i)(ht:s.heap.IsTuple t items)(hx:items[i]?=none)
  (hE:∀h' e,Heap.ExtBut it s.heap h'->(∃o,h'.get? e=some o/\o.cls=.type "StopIteration")->E (.ref e) {s with heap:=h'}):wpAny (model prog w) A (Builtin.SmallTypes.nextOf (.ref it)) Q E s:=by
 obtain⟨⟨c,dd,dt,sl⟩,ho,hc,hd⟩:=id hit
 obtain⟨⟨c2,dd2,dt2,sl2⟩,ho2,hc2,n2,hd2⟩:=id ht
 simp only at hc hd hc2 hd2
 subst hc hd hc2 hd2
 unfold Builtin.SmallTypes.nextOf
 refine wpAny_bind (wpAny_callSpecial?_slot (name:=Str.ofString "__next__") hit.typeIs F.slot_tuple_iterator_next (wpAny_call_entry F.slot_tuple_iterator_next hit.typeIs F.entry_tuple_iterator_next ?_ (F.args_tuple_iterator_next_1 _)))
 unfold Builtin.«tuple_iterator.__next__»
 wp_walk using AutoSeq1.wpAny_loadPart' ho,AutoSeq1.wpAny_loadPart' ho2
 have e:items[(i:Int).toNat]?=none:=by rw[Int.toNat_natCast];exact hx
 rw[e]
 refine wpAny_bind (wpAny_rule (wpAny_bind (wpAny_setField ho rfl (by simp) ?_)))
 have hh1:A.in1.handled=none:=hh
 unfold Builtin.SmallTypes.stopIteration
 simp only[newExc,newTuple,raiseNew]
 wp_walk
 refine hE _ _ ?_ ⟨_,Heap.get?_push_size _ rfl,rfl⟩
 have a:=(Heap.SameBut.update (a:=it) (h:=s.heap) (f:=Obj.mapFields fun x=>x.setIfInBounds 0 Value.none)).extBut
 exact(a.push _).push _
theorem Q4(l:Addr)(items:Array Value)(n:Nat)(dct:Option Addr)(sl:Array (Option Value)):
  Meets (Builtin.«enumerate.__new__» ⟨[.type "enumerate",.ref l],[]⟩) (fun _ R s=>s.heap.get? l=some {cls:=.type "tuple",dict:=dct,data:=.seq items n,slots:=sl}/\
   R (.ok (.ret (.ref (s.heap.objs.size+1)))) {s with heap:=(s.heap.push {cls:=.type "tuple_iterator",data:=.fields #[.ref l,.int 0 0]}).push {cls:=.type "enumerate",data:=.fields #[.none,.bool false,.ref s.heap.objs.size,rawInt 0,.none,.none]}}):=
 .of_wp fun prog w A R s h=>by
  obtain⟨hp,g,d,tk,os⟩:=s
  obtain⟨hl,h⟩:=h
  have hsub:=sub_enumerate
  have hT:Heap.IsTuple (Shared.heap ⟨hp,g,d,tk,os⟩) l items:=⟨_,hl,rfl,n,rfl⟩
  wp_walk using AutoSeq1.wpAny_loadPart' hl
  refine wpAny_stack_any fun st=>wpAny_pure ?_
  split
  ·rename_i c _ _ _ _ _
   cases (c==Value.type "enumerate")<;>(wp_walk using AutoSeq1.wpAny_loadPart' hl,wpAny_pyIter_tuple hT)<;>(refine⟨_,rfl,?_⟩;rw[Heap.size_push];exact h)
  ·wp_walk using AutoSeq1.wpAny_loadPart' hl,wpAny_pyIter_tuple hT
   refine⟨_,rfl,?_⟩
   rw[Heap.size_push]
   exact h
theorem Qx{l:Addr}{items:Array Value}{Q:Value->Shared->Prop}(hT:s.heap.IsTuple l items)
  (h:∀h',IsEnum h' (s.heap.objs.size+1) s.heap.objs.size 0 .none->h'.IsTupleIter s.heap.objs.size l 0->(∀b o,s.heap.get? b=some o->h'.get? b=some o)->Q (.ref (s.heap.objs.size+1)) {s with heap:=h'}):
  wpAny (model prog w) A (call (.type "enumerate") [.ref l]) Q E s:=by
 obtain⟨⟨c,dct,dt,sl⟩,hl,hc,n,hd⟩:=hT
 simp only at hc hd
 subst hc hd
 refine callType_new F.called_enumerate (by decide) (F.typeCall_enumerate_1 _) (F.newCall_enumerate_1 _) (fun obj=>F.args_object_init_2 obj _) F.entry_enumerate_new (Q4 l items n dct sl) ⟨hl,?_⟩
 have z:=Heap.get?_push_size (s.heap.push {cls:=.type "tuple_iterator",data:=.fields #[.ref l,.int 0 0]}) (o:={cls:=.type "enumerate",data:=.fields #[.none,.bool false,.ref s.heap.objs.size,rawInt 0,.none,.none]}) rfl
 rw[Heap.size_push]at z
 exact⟨⟨_,z,rfl⟩,h _ z ⟨_,Heap.get?_push_of_some _ (Heap.get?_push_size _ rfl),rfl,rfl⟩ fun b o x=>Heap.get?_push_of_some _ (Heap.get?_push_of_some _ x)⟩
end
section
variable{X:Cx}
end
end L2
end
noncomputable section
namespace L2
open PySem PySem.Spec PyProof.Rows
structure TopD(K:PySem.W.Frag)(w:World)(a:Addr)(kvs:List (Str×V)):Prop where
 ex:∃(es:Array DictEntry) (n:Nat),K.lookup a=some ⟨.type "dict",none,.dict es n, #[]⟩/\PySem.W.KeysLit w.params es.toList/\(a==sysModules)=false/\∀x,bY (kvs.lookup x) (findBy Value.isStrOf es x)
section
variable{X:Cx}
end
end L2
end
noncomputable section
namespace L2
open PySem PySem.Spec PyProof.Rows
def SIt(h:Heap)(j l:Addr)(i:Nat)(its:Array Value):Prop:=(h.IsListIter j l i/\h.IsList l its)∨(h.IsTupleIter j l i/\h.IsTuple l its)
section
variable{prog:Program}{w:World}{A:Around}{E:Value->Shared->Prop}{s:Shared}{h h':Heap}{j l:Addr}{i:Nat}{its:Array Value}
theorem SIt.at(q:SIt h j l i its)(k1:∀o,h.get? j=some o->h'.get? j=some o)(k2:∀o,h.get? l=some o->h'.get? l=some o):SIt h' j l i its:=by
 rcases q with⟨a,b⟩|⟨a,b⟩
 ·exact .inl ⟨a.at k1,b.at k2⟩
 ·exact .inr ⟨a.at k1,let⟨o,e,r⟩:=b;⟨o,k2 o e,r⟩⟩
theorem SIt.but{c:Addr}(q:SIt h j l i its)(sb:Heap.ExtBut c h h')(n1:j≠c)(n2:l≠c):SIt h' j l i its:=q.at (fun o e=>sb _ o n1 e) fun o e=>sb _ o n2 e
theorem SIt.live(q:SIt h j l i its):∃o,h.get? j=some o/\∀v,o.data≠.cell v:=by
 rcases q with⟨⟨o,a,b,c⟩,_⟩|⟨⟨o,a,b,c⟩,_⟩
 ·exact⟨o,a,fun v z=>by rw[c]at z;cases z⟩
 ·exact⟨o,a,fun v z=>by rw[c]at z;cases z⟩
theorem SIt.ne(q:SIt h j l i its):l≠j:=by
 rcases q with⟨⟨o,a,b,_⟩,⟨o2,a2,b2,_⟩⟩|⟨⟨o,a,b,_⟩,⟨o2,a2,b2,_⟩⟩
 ·intro z;subst z;rw[a]at a2;cases a2;rw[b]at b2;injection b2 with q;exact absurd q (by decide)
 ·intro z;subst z;rw[a]at a2;cases a2;rw[b]at b2;injection b2 with q;exact absurd q (by decide)
theorem Kg{x:Value}{Q:Value->Shared->Prop}(q:SIt s.heap j l i its)(hx:its[i]?=some x)(k:∀h',SIt h' j l (i+1) its->Heap.SameBut j s.heap h'->Q x {s with heap:=h'}):
  wpAny (model prog w) A (Builtin.SmallTypes.nextOf (.ref j)) Q E s:=by
 have n:=q.ne
 rcases q with⟨a,b⟩|⟨a,b⟩
 ·exact wpAny_nextOf_list_item a b hx fun h' a' sb=>k h' (.inl ⟨a',b.extBut sb.extBut n⟩) sb
 ·exact VR a b hx fun h' a' sb=>k h' (.inr ⟨a',let⟨o,e,r⟩:=b;⟨o,sb.extBut _ o n e,r⟩⟩) sb
theorem KO{Q:Value->Shared->Prop}(hh:A.handled=none)(q:SIt s.heap j l i its)(hx:its[i]?=none)(k:∀h' e,Heap.ExtBut j s.heap h'->(∃o,h'.get? e=some o/\o.cls=.type "StopIteration")->E (.ref e) {s with heap:=h'}):
  wpAny (model prog w) A (Builtin.SmallTypes.nextOf (.ref j)) Q E s:=by
 rcases q with⟨a,b⟩|⟨a,b⟩
 ·exact wpAny_nextOf_list_end hh a b hx k
 ·exact Ua hh a b hx k
theorem Sw{z ti tt j1 j2 l1 l2:Addr}{m:Nat}{xs ys:Array Value}{x y u1 u2:Value}{Q:Value->Shared->Prop}(D:ZipApart z ti tt j1 j2 l1 l2)
  (oz:IsZip s.heap z ti tt .none) (oi:IsPair s.heap ti (.ref j1) (.ref j2)) (ot:IsPair s.heap tt u1 u2) (q1:SIt s.heap j1 l1 m xs) (q2:SIt s.heap j2 l2 m ys) (ex:xs[m]?=some x) (ey:ys[m]?=some y)
  (k:∀h',IsZip h' z ti tt (rawInt s.heap.objs.size)->IsPair h' tt x y->SIt h' j1 l1 (m+1) xs->SIt h' j2 l2 (m+1) ys->IsPair h' s.heap.objs.size x y->
   (∀c o,c≠z->c≠tt->c≠j1->c≠j2->s.heap.get? c=some o->h'.get? c=some o)->Q (.ref s.heap.objs.size) {s with heap:=h'}):
  wpAny (model prog w) A (Builtin.«zip.__next__» ⟨[.ref z],[]⟩) (fun fin s'=>∃v,fin=.done (.ret v)/\Q v s') E s:=by
 show wpAny _ _ (field (.ref z) 2 >>= _) _ _ _
 refine wpAny_bind (wpAny_field oz rfl (x:=.bool false) rfl ?_)
 show wpAny _ _ (field (.ref z) 3 >>= _) _ _ _
 refine wpAny_bind (wpAny_field oz rfl (x:=.ref ti) rfl (wpAny_bind (wpAny_seqItems oi rfl ?_)))
 show wpAny _ _ (Builtin.SmallTypes.ownedTupleIsFree (.ref z) >>= _) _ _ _
 refine wpAny_bind ?_
 unfold Builtin.SmallTypes.ownedTupleIsFree
 refine wpAny_bind (wpAny_field oz rfl (x:=.none) rfl (wpAny_pure ?_))
 simp only[if_true]
 refine wpAny_bind (wpAny_rule (wpAny_bind (wpAny_field oz rfl (x:=.ref tt) rfl (wpAny_bind (wpAny_setField_rec oz (by simp) fun g1 oz1 b1=>?_)))))
 have oz1:IsZip g1 z ti tt .ellipsis:=oz1
 refine wpAny_bind ?_
 simp only[List.zipIdx_cons,List.zipIdx_nil,List.forIn_cons,List.forIn_nil]
 refine wpAny_bind (wpAny_bind (wpAny_onRaise ?_))
 show wpAny _ _ (Builtin.SmallTypes.nextOf (.ref j1) >>= _) _ _ _
 refine wpAny_bind (Kg (q1.but b1.extBut D.i1z D.l1z) ex fun g2 q12 b2=>wpAny_pure ?_)
 have ot2:IsPair g2 tt u1 u2:=b2.extBut _ _ D.TOi1 (b1.extBut _ _ D.TOz ot)
 refine wpAny_bind (wpAny_seqItems ot2 rfl (wpAny_bind (wpAny_updateSeq_pair ot2 fun g3 ot3 b3=>?_)))
 have ot3:IsPair g3 tt x u2:=ot3
 refine wpAny_bind (wpAny_letGo (wpAny_pure (wpAny_bind (wpAny_bind (wpAny_onRaise ?_)))))
 show wpAny _ _ (Builtin.SmallTypes.nextOf (.ref j2) >>= _) _ _ _
 refine wpAny_bind (Kg (((q2.but b1.extBut D.i2z D.l2z).but b2.extBut D.i12.symm D.l2i1).but b3.extBut D.TOi2.symm D.l2TO) ey fun g4 q24 b4=>wpAny_pure ?_)
 have ot4:IsPair g4 tt x u2:=b4.extBut _ _ D.TOi2 ot3
 refine wpAny_bind (wpAny_seqItems ot4 rfl (wpAny_bind (wpAny_updateSeq_pair ot4 fun g5 ot5 b5=>?_)))
 have ot5:IsPair g5 tt x y:=ot5
 refine wpAny_bind (wpAny_letGo (wpAny_pure (wpAny_pure (wpAny_bind (wpAny_seqItems ot5 rfl (wpAny_bind (wpAny_newTuple ?_)))))))
 have sz:g5.objs.size=s.heap.objs.size:=by rw[b5.1,b4.1,b3.1,b2.1,b1.1]
 have oz5:IsZip g5 z ti tt .ellipsis:=b5.extBut _ _ D.TOz.symm (b4.extBut _ _ D.i2z.symm (b3.extBut _ _ D.TOz.symm (b2.extBut _ _ D.i1z.symm oz1)))
 have k5:∀c o,c≠z->c≠tt->c≠j1->c≠j2->s.heap.get? c=some o->g5.get? c=some o:=fun c o c1 c2 c3 c4 e=>b5.extBut _ _ c2 (b4.extBut _ _ c4 (b3.extBut _ _ c2 (b2.extBut _ _ c3 (b1.extBut _ _ c1 e))))
 have q15:SIt g5 j1 l1 (m+1) xs:=((q12.but b3.extBut D.TOi1.symm D.l1TO).but b4.extBut D.i12 D.l1i2).but b5.extBut D.TOi1.symm D.l1TO
 have q25:SIt g5 j2 l2 (m+1) ys:=q24.but b5.extBut D.TOi2.symm D.l2TO
 have zlt:z<g5.objs.size:=Heap.lt_size oz5
 show wpAny _ _ (Builtin.SmallTypes.ownedTupleHandOut (.ref z) (.ref g5.objs.size) >>= _) _ _ _
 refine wpAny_bind ?_
 unfold Builtin.SmallTypes.ownedTupleHandOut
 have oz6:IsZip (g5.push {cls:=.type "tuple",data:=.seq #[x,y]}) z ti tt .ellipsis:=Heap.get?_push_of_some _ oz5
 refine wpAny_bind (wpAny_setField_rec oz6 (by simp) fun g7 oz7 b7=>?_)
 have oz7:IsZip g7 z ti tt (rawInt g5.objs.size):=oz7
 refine wpAny_setField_rec oz7 (by simp) fun g8 oz8 b8=>?_
 have oz8:IsZip g8 z ti tt (rawInt g5.objs.size):=oz8
 have up:∀c o,c≠z->g5.get? c=some o->g8.get? c=some o:=fun c o c1 e=>b8.extBut _ _ c1 (b7.extBut _ _ c1 (Heap.get?_push_of_some _ e))
 have op8:IsPair g8 g5.objs.size x y:=b8.extBut _ _ (Nat.ne_of_gt zlt) (b7.extBut _ _ (Nat.ne_of_gt zlt) (Heap.get?_push_size _ rfl))
 rw[sz]at oz8 op8
 refine wpAny_pure ⟨_,rfl,?_⟩
 show Q (.ref g5.objs.size) _
 rw[sz]
 exact k g8 oz8 (up _ _ D.TOz ot5) (q15.at (fun o e=>up _ o D.i1z e) fun o e=>up _ o D.l1z e) (q25.at (fun o e=>up _ o D.i2z e) fun o e=>up _ o D.l2z e) op8 fun c o c1 c2 c3 c4 e=>up c o c1 (k5 c o c1 c2 c3 c4 e)
theorem VZ{z ti tt j1 j2 l1 l2:Addr}{m:Nat}{xs ys:Array Value}{u1 u2:Value}{Q:Fin->Shared->Prop}(hh:A.handled=none)(D:ZipApart z ti tt j1 j2 l1 l2)
    (oz:IsZip s.heap z ti tt .none) (oi:IsPair s.heap ti (.ref j1) (.ref j2)) (ot:IsPair s.heap tt u1 u2) (q1:SIt s.heap j1 l1 m xs) (q2:SIt s.heap j2 l2 m ys) (en:xs[m]?=none∨ys[m]?=none)
    (k:∀h' e,(∀c o,c≠z->c≠tt->c≠j1->c≠j2->s.heap.get? c=some o->h'.get? c=some o)->(∃o,h'.get? e=some o/\o.cls=.type "StopIteration")->E (.ref e) {s with heap:=h'}):
    wpAny (model prog w) A (Builtin.«zip.__next__» ⟨[.ref z],[]⟩) Q E s:=by
  show wpAny _ _ (field (.ref z) 2 >>= _) _ _ _
  refine wpAny_bind (wpAny_field oz rfl (x:=.bool false) rfl ?_)
  show wpAny _ _ (field (.ref z) 3 >>= _) _ _ _
  refine wpAny_bind (wpAny_field oz rfl (x:=.ref ti) rfl (wpAny_bind (wpAny_seqItems oi rfl ?_)))
  show wpAny _ _ (Builtin.SmallTypes.ownedTupleIsFree (.ref z) >>= _) _ _ _
  refine wpAny_bind ?_
  unfold Builtin.SmallTypes.ownedTupleIsFree
  refine wpAny_bind (wpAny_field oz rfl (x:=.none) rfl (wpAny_pure ?_))
  simp only[if_true]
  refine wpAny_bind (wpAny_rule (wpAny_bind (wpAny_field oz rfl (x:=.ref tt) rfl (wpAny_bind (wpAny_setField_rec oz (by simp) fun g1 oz1 b1=>?_)))))
  have oz1:IsZip g1 z ti tt .ellipsis:=oz1
  refine wpAny_bind ?_
  simp only[List.zipIdx_cons,List.zipIdx_nil,List.forIn_cons,List.forIn_nil]
  refine wpAny_bind (wpAny_bind (wpAny_onRaise ?_))
  show wpAny _ _ (Builtin.SmallTypes.nextOf (.ref j1) >>= _) _ _ _
  cases ex:xs[m]? with
  | none =>
    refine wpAny_bind (KO hh (q1.but b1.extBut D.i1z D.l1z) ex fun g2 e b2 he=>?_)
    obtain⟨oe,e1,e2⟩:=he
    have oz2:IsZip g2 z ti tt .ellipsis:=b2 _ _ D.i1z.symm oz1
    have nez:e≠z:=fun x=>by subst x;rw[oz2]at e1;cases e1;simp at e2
    exact wpAny_setField_rec oz2 (by simp) fun g3 _ b3=>k g3 e (fun c o c1 _ c3 _ x=>b3.extBut _ _ c1 (b2 _ _ c3 (b1.extBut _ _ c1 x))) ⟨oe,b3.extBut _ _ nez e1,e2⟩
  | some x =>
    have ey:ys[m]?=none:=by
      rcases en with z|z
      ·rw[ex]at z;cases z
      ·exact z
    refine wpAny_bind (Kg (q1.but b1.extBut D.i1z D.l1z) ex fun g2 q12 b2=>wpAny_pure ?_)
    have ot2:IsPair g2 tt u1 u2:=b2.extBut _ _ D.TOi1 (b1.extBut _ _ D.TOz ot)
    refine wpAny_bind (wpAny_seqItems ot2 rfl (wpAny_bind (wpAny_updateSeq_pair ot2 fun g3 ot3 b3=>?_)))
    refine wpAny_bind (wpAny_letGo (wpAny_pure (wpAny_bind (wpAny_bind (wpAny_onRaise ?_)))))
    show wpAny _ _ (Builtin.SmallTypes.nextOf (.ref j2) >>= _) _ _ _
    refine wpAny_bind (KO hh (((q2.but b1.extBut D.i2z D.l2z).but b2.extBut D.i12.symm D.l2i1).but b3.extBut D.TOi2.symm D.l2TO) ey fun g4 e b4 he=>?_)
    obtain⟨oe,e1,e2⟩:=he
    have oz4:IsZip g4 z ti tt .ellipsis:=b4 _ _ D.i2z.symm (b3.extBut _ _ D.TOz.symm (b2.extBut _ _ D.i1z.symm oz1))
    have nez:e≠z:=fun x=>by subst x;rw[oz4]at e1;cases e1;simp at e2
    exact wpAny_setField_rec oz4 (by simp) fun g5 _ b5=>k g5 e (fun c o c1 c2 c3 c4 x=>b5.extBut _ _ c1 (b4 _ _ c4 (b3.extBut _ _ c2 (b2.extBut _ _ c3 (b1.extBut _ _ c1 x))))) ⟨oe,b5.extBut _ _ nez e1,e2⟩
theorem Qd{z ti tt j1 j2 l1 l2:Addr}{m:Nat}{xs ys:Array Value}{x y u1 u2:Value}{Q:Option Value->Shared->Prop}(D:ZipApart z ti tt j1 j2 l1 l2)
  (oz:IsZip s.heap z ti tt .none) (oi:IsPair s.heap ti (.ref j1) (.ref j2)) (ot:IsPair s.heap tt u1 u2) (q1:SIt s.heap j1 l1 m xs) (q2:SIt s.heap j2 l2 m ys) (ex:xs[m]?=some x) (ey:ys[m]?=some y)
  (k:∀h',IsZip h' z ti tt (rawInt s.heap.objs.size)->IsPair h' tt x y->SIt h' j1 l1 (m+1) xs->SIt h' j2 l2 (m+1) ys->IsPair h' s.heap.objs.size x y->
   (∀c o,c≠z->c≠tt->c≠j1->c≠j2->s.heap.get? c=some o->h'.get? c=some o)->Q (some (.ref s.heap.objs.size)) {s with heap:=h'}):
  wpAny (model prog w) A (pyNext (.ref z)) Q E s:=by
 have ht:s.TypeIs (.ref z) "zip":=⟨_,oz,rfl⟩
 unfold pyNext
 exact wpAny_bind (wpAny_attempt (wpAny_callSpecial?_slot (name:=Str.ofString "__next__") ht F.slot_zip_next (wpAny_call_entry F.slot_zip_next ht F.entry_zip_next
  (Sw D oz oi ot q1 q2 ex ey fun h' a1 a2 a3 a4 a5 a6=>wpAny_pure (k h' a1 a2 a3 a4 a5 a6)) (F.args_zip_next_1 _))))
theorem Tb{z ti tt j1 j2 l1 l2:Addr}{m:Nat}{xs ys:Array Value}{u1 u2:Value}{Q:Option Value->Shared->Prop}(hh:A.handled=none)(D:ZipApart z ti tt j1 j2 l1 l2)
  (oz:IsZip s.heap z ti tt .none) (oi:IsPair s.heap ti (.ref j1) (.ref j2)) (ot:IsPair s.heap tt u1 u2) (q1:SIt s.heap j1 l1 m xs) (q2:SIt s.heap j2 l2 m ys) (en:xs[m]?=none∨ys[m]?=none)
  (k:∀h',(∀c o,c≠z->c≠tt->c≠j1->c≠j2->s.heap.get? c=some o->h'.get? c=some o)->Q none {s with heap:=h'}):wpAny (model prog w) A (pyNext (.ref z)) Q E s:=by
 have ht:s.TypeIs (.ref z) "zip":=⟨_,oz,rfl⟩
 unfold pyNext
 refine wpAny_bind (wpAny_attempt (wpAny_callSpecial?_slot (name:=Str.ofString "__next__") ht F.slot_zip_next (wpAny_call_entry F.slot_zip_next ht F.entry_zip_next
  (VZ hh D oz oi ot q1 q2 en fun h' e kp he=>?_) (F.args_zip_next_1 _))))
 obtain⟨o,e1,e2⟩:=he
 exact wpAny_bind (wpAny_isInstance (T:="StopIteration") (b:=true) ⟨o,e1,e2⟩ isSubtype_stop (wpAny_pure (k _ kp)))
end
end L2
end
noncomputable section
namespace L2
open PySem PySem.Spec PyProof.Rows
def MH(h:Heap)(b:Bool)(l:Addr)(its:Array Value):Prop:=match b with|true=>h.IsTuple l its|false=>h.IsList l its
noncomputable def Zr:Bool->String|true=>"tuple_iterator" |false=>"list_iterator"
noncomputable def zh1(h:Heap)(b:Bool)(l:Addr):Heap:=h.push {cls:=.type (Zr b),data:=.fields #[.ref l,.int 0 0]}
noncomputable def zh2(h:Heap)(b c:Bool)(l m:Addr):Heap:=zh1 (zh1 h b l) c m
noncomputable def zh3(h:Heap)(b c:Bool)(l m:Addr):Heap:=(zh2 h b c l m).push {cls:=.type "tuple",data:=.seq #[.ref h.objs.size,.ref (zh1 h b l).objs.size]}
noncomputable def zh4(h:Heap)(b c:Bool)(l m:Addr):Heap:=(zh3 h b c l m).push {cls:=.type "tuple",data:=.seq #[.none,.none]}
noncomputable def zh5(h:Heap)(b c:Bool)(l m:Addr):Heap:=(zh4 h b c l m).push {cls:=.type "zip",data:=.fields #[.none,.bool false,.bool false,.ref (zh2 h b c l m).objs.size,.ref (zh3 h b c l m).objs.size]}
theorem MH.push{h:Heap}{b:Bool}{l:Addr}{its:Array Value}(q:MH h b l its)(o:Obj):MH (h.push o) b l its:=by
 cases b
 ·exact Heap.IsList.push q _
 ·obtain⟨u,e,r⟩:=(show h.IsTuple l its from q)
  exact⟨u,Heap.get?_push_of_some _ e,r⟩
theorem Vp(b c:Bool)(l m:Addr)(xs ys:Array Value):
  Meets (Builtin.«zip.__new__» ⟨[.type "zip",.ref l,.ref m],[]⟩) (fun _ R s=>MH s.heap b l xs/\MH s.heap c m ys/\R (.ok (.ret (.ref (zh4 s.heap b c l m).objs.size))) {s with heap:=zh5 s.heap b c l m}):=
 .of_wp fun prog w A R s hyp=>by
  obtain⟨hp,gs,dr,tk,os⟩:=s
  obtain⟨i1,i2,hyp⟩:=hyp
  have hsub:=sub_zip
  have i3:MH (Shared.heap ⟨zh1 hp b l,gs,dr,tk,os⟩) c m ys:=MH.push i2 _
  cases b<;>cases c
  ·have a1:Heap.IsList (Shared.heap ⟨hp,gs,dr,tk,os⟩) l xs:=i1
   have a2:Heap.IsList (Shared.heap ⟨hp.push {cls:=.type "list_iterator",data:=.fields #[.ref l,.int 0 0]},gs,dr,tk,os⟩) m ys:=i3
   wp_walk using wpAny_pyIter_list a1,wpAny_pyIter_list a2
   exact⟨_,rfl,hyp⟩
  ·have a1:Heap.IsList (Shared.heap ⟨hp,gs,dr,tk,os⟩) l xs:=i1
   have a2:Heap.IsTuple (Shared.heap ⟨hp.push {cls:=.type "list_iterator",data:=.fields #[.ref l,.int 0 0]},gs,dr,tk,os⟩) m ys:=i3
   wp_walk using wpAny_pyIter_list a1,wpAny_pyIter_tuple a2
   exact⟨_,rfl,hyp⟩
  ·have a1:Heap.IsTuple (Shared.heap ⟨hp,gs,dr,tk,os⟩) l xs:=i1
   have a2:Heap.IsList (Shared.heap ⟨hp.push {cls:=.type "tuple_iterator",data:=.fields #[.ref l,.int 0 0]},gs,dr,tk,os⟩) m ys:=i3
   wp_walk using wpAny_pyIter_tuple a1,wpAny_pyIter_list a2
   exact⟨_,rfl,hyp⟩
  ·have a1:Heap.IsTuple (Shared.heap ⟨hp,gs,dr,tk,os⟩) l xs:=i1
   have a2:Heap.IsTuple (Shared.heap ⟨hp.push {cls:=.type "tuple_iterator",data:=.fields #[.ref l,.int 0 0]},gs,dr,tk,os⟩) m ys:=i3
   wp_walk using wpAny_pyIter_tuple a1,wpAny_pyIter_tuple a2
   exact⟨_,rfl,hyp⟩
section
variable{prog:Program}{w:World}{A:Around}{E:Value->Shared->Prop}{s:Shared}
theorem WT{h h':Heap}{b:Bool}{l j:Addr}{its:Array Value}(q:MH h b l its)(k:∀c o,h.get? c=some o->h'.get? c=some o)(e:h'.get? j=some {cls:=.type (Zr b),data:=.fields #[.ref l,.int 0 0]}):SIt h' j l 0 its:=by
 cases b
 ·exact .inl ⟨⟨_,e,rfl,rfl⟩,(show h.IsList l its from q).at fun o z=>k _ o z⟩
 ·exact .inr ⟨⟨_,e,rfl,rfl⟩,let⟨o,z,r⟩:=(show h.IsTuple l its from q);⟨o,k _ o z,r⟩⟩
theorem RQ{b c:Bool}{l m:Addr}{xs ys:Array Value}{Q:Value->Shared->Prop}(i1:MH s.heap b l xs)(i2:MH s.heap c m ys)
  (k:∀h',IsZip h' (s.heap.objs.size+4) (s.heap.objs.size+2) (s.heap.objs.size+3) .none->IsPair h' (s.heap.objs.size+2) (.ref s.heap.objs.size) (.ref (s.heap.objs.size+1))->
   IsPair h' (s.heap.objs.size+3) .none .none->SIt h' s.heap.objs.size l 0 xs->SIt h' (s.heap.objs.size+1) m 0 ys->(∀c o,s.heap.get? c=some o->h'.get? c=some o)->Q (.ref (s.heap.objs.size+4)) {s with heap:=h'}):
  wpAny (model prog w) A (call (.type "zip") [.ref l,.ref m]) Q E s:=by
 refine callType_new F.called_zip (by decide) (F.typeCall_zip_2 _ _) (F.newCall_zip_2 _ _) (fun obj=>F.args_object_init_3 obj _ _) F.entry_zip_new (Vp b c l m xs ys) ⟨i1,i2,?_⟩
 have z1:(zh1 s.heap b l).objs.size=s.heap.objs.size+1:=Heap.size_push ..
 have z2:(zh2 s.heap b c l m).objs.size=s.heap.objs.size+2:=by unfold zh2 zh1;rw[Heap.size_push];exact congrArg (· +1) z1
 have z3:(zh3 s.heap b c l m).objs.size=s.heap.objs.size+3:=by unfold zh3;rw[Heap.size_push,z2]
 have z4:(zh4 s.heap b c l m).objs.size=s.heap.objs.size+4:=by unfold zh4;rw[Heap.size_push,z3]
 have kp:∀d o,s.heap.get? d=some o->(zh5 s.heap b c l m).get? d=some o:=fun d o e=>by
  unfold zh5 zh4 zh3 zh2 zh1
  exact Heap.get?_push_of_some _ (Heap.get?_push_of_some _ (Heap.get?_push_of_some _ (Heap.get?_push_of_some _ (Heap.get?_push_of_some _ e))))
 have g5:(zh5 s.heap b c l m).get? (zh4 s.heap b c l m).objs.size=some _:=Heap.get?_push_size _ rfl
 have g4:(zh5 s.heap b c l m).get? (zh3 s.heap b c l m).objs.size=some _:=Heap.get?_push_of_some _ (Heap.get?_push_size _ rfl)
 have g3:(zh5 s.heap b c l m).get? (zh2 s.heap b c l m).objs.size=some _:=Heap.get?_push_of_some _ (Heap.get?_push_of_some _ (Heap.get?_push_size _ rfl))
 have g2:(zh5 s.heap b c l m).get? (zh1 s.heap b l).objs.size=some _:=Heap.get?_push_of_some _ (Heap.get?_push_of_some _ (Heap.get?_push_of_some _ (Heap.get?_push_size _ rfl)))
 have g1:(zh5 s.heap b c l m).get? s.heap.objs.size=some _:=Heap.get?_push_of_some _ (Heap.get?_push_of_some _ (Heap.get?_push_of_some _ (Heap.get?_push_of_some _ (Heap.get?_push_size _ rfl))))
 show _/\_
 rw[z2,z3,z4]at g5
 rw[z1,z2]at g3
 rw[z3]at g4
 rw[z1]at g2
 rw[z4]
 exact⟨⟨_,g5,rfl⟩,k _ g5 g3 g4 (WT i1 kp g1) (WT i2 kp g2) kp⟩
end
end L2
end
noncomputable section
namespace L2
open PySem PySem.Spec PyProof.Rows
def SqB(K:PySem.W.Frag)(H:Hp)(k:Bool)(a:Addr)(xs:List V):Prop:=match k with|true=>SqT K H a xs|false=>SqL K H a xs
def JIt(h:Heap)(k:Bool)(j l:Addr)(i:Nat):Prop:=match k with|true=>h.IsTupleIter j l i|false=>h.IsListIter j l i
theorem JIt.at{h h':Heap}{k:Bool}{j l:Addr}{i:Nat}(q:JIt h k j l i)(e:∀o,h.get? j=some o->h'.get? j=some o):JIt h' k j l i:=by
 cases k
 ·exact Heap.IsListIter.at q e
 ·exact Heap.IsTupleIter.at q e
theorem JIt.sit{h:Heap}{k:Bool}{j l:Addr}{i:Nat}{its:Array Value}(q:JIt h k j l i)(p:MH h k l its):SIt h j l i its:=by
 cases k
 ·exact .inl ⟨q,p⟩
 ·exact .inr ⟨q,p⟩
theorem SIt.jit{h:Heap}{k:Bool}{j l:Addr}{i:Nat}{its:Array Value}(q:SIt h j l i its)(p:MH h k l its):JIt h k j l i:=by
 rcases q with⟨q,r⟩|⟨q,r⟩
 ·cases k
  ·exact q
  ·obtain⟨o,e,c,_⟩:=r;obtain⟨o',e',c',_⟩:=(show h.IsTuple l its from p)
   rw[e]at e';cases e';rw[c]at c';injection c' with z;exact absurd z (by decide)
 ·cases k
  ·obtain⟨o,e,c,_⟩:=r;obtain⟨o',e',c',_⟩:=(show h.IsList l its from p)
   rw[e]at e';cases e';rw[c]at c';injection c' with z;exact absurd z (by decide)
  ·exact q
theorem Inv.sqB{X:Cx}{pins:List (Addr×Obj)}{σ:St}{H:Hp}{s:Shared}{k:Bool}{a:Addr}{xs:List V}(I:Inv X pins σ H s)(h:SqB X.K H k a xs):∃its:List Value,Vals xs its/\MH s.heap k a its.toArray:=by
 cases k
 ·obtain⟨its,h1,⟨o,n,q1,q2,_,q3⟩,h3⟩:=I.list h
  exact⟨its,h1,o,q1,q2,n,q3⟩
 ·obtain⟨its,h1,h2,h3⟩:=I.tuple h
  exact⟨its,h1,h2⟩
theorem Inv.sqB_inj{X:Cx}{pins:List (Addr×Obj)}{σ:St}{H:Hp}{s:Shared}{k:Bool}{a:Addr}{xs ys:List V}(I:Inv X pins σ H s)(h:SqB X.K H k a xs)(g:SqB X.K H k a ys):xs=ys:=by
 cases k
 ·exact I.list_inj h g
 ·exact I.tuple_inj h g
noncomputable def Itz(K:PySem.W.Frag)(k:Bool)(a:Addr)(m:Bool)(b:Addr):It:=
  ⟨fun i H=>∃(xs ys:List V) (x y:V),SqB K H k a xs/\SqB K H m b ys/\xs[i]?=some x/\ys[i]?=some y,
   fun i H v H'=>∃(p:Addr) (x y:V),H p=none/\v=.ref p/\(∀xs,SqB K H k a xs->xs[i]?=some x)/\(∀ys,SqB K H m b ys->ys[i]?=some y)/\H'=upd H p (.tup [x,y]),
   fun i H=>∃(xs ys:List V),SqB K H k a xs/\SqB K H m b ys/\(xs.length≤i∨ys.length≤i)⟩
structure ZSt(h:Heap)(z ti tt j1 j2:Addr)(k:Bool)(a:Addr)(m:Bool)(b:Addr)(i:Nat):Prop where
 oz:IsZip h z ti tt .none
 oi:IsPair h ti (.ref j1) (.ref j2)
 ot:∃u v,IsPair h tt u v
 q1:JIt h k j1 a i
 q2:JIt h m j2 b i
structure ZNe(z ti tt j1 j2:Addr):Prop where
 n1:ti≠z
 n2:tt≠z
 n3:j1≠z
 n4:j2≠z
 n5:ti≠tt
 n6:ti≠j1
 n7:ti≠j2
 n8:tt≠j1
 n9:tt≠j2
 n10:j1≠j2
theorem ZNe.apart{z ti tt j1 j2 a b:Addr}(N:ZNe z ti tt j1 j2)(ha:a∉ [z,tt,j1,j2])(hb:b∉ [z,tt,j1,j2]):ZipApart z ti tt j1 j2 a b:=by
 simp only[List.mem_cons,List.not_mem_nil,or_false,not_or]at ha hb
 exact⟨N.n1,N.n2,N.n3,N.n4,N.n5,N.n6,N.n7,N.n8,N.n9,N.n10,ha.1,ha.2.1,ha.2.2.1,ha.2.2.2,hb.1,hb.2.1,hb.2.2.1,hb.2.2.2⟩
theorem Bg{X:Cx}{pins:List (Addr×Obj)}{σ:St}{H:Hp}{s:Shared}{k:Bool}{a c:Addr}{xs:List V}(I:Inv X pins σ H s)(q:SqB X.K H k a xs)(f:PR X pins H c):a≠c:=by
 intro e
 subst e
 have rd:∀o,Rd H a o->False:=fun o r=>by
  rcases r with r|⟨_,r⟩<;>(rw[f.1]at r;cases r)
 have kk:∀o,X.K.lookup a=some o->False:=fun o hk=>by
  have b:=I.ok.mod.kin a o hk
  rcases f.2.2.2.1 with z|z
  ·exact I.ok.noex a o b z
  ·exact absurd (Nat.lt_of_lt_of_le (Heap.lt_size (I.ok.bs a o b).1) z) (Nat.lt_irrefl _)
 cases k
 ·rcases(show SqL X.K H a xs from q)with q|⟨o,_,_,hk,_⟩
  ·exact rd _ q
  ·exact kk o hk
 ·rcases(show SqT X.K H a xs from q)with q|⟨o,_,_,hk,_⟩
  ·exact rd _ q
  ·exact kk o hk
theorem WC{P:Program}{w:World}{K:PySem.W.Frag}{elts:List Expr}{n:Nat}{pos:Pos}(k:Bool)(a:Addr)(m:Bool)(b:Addr)(z ti tt j1 j2:Addr)(N:ZNe z ti tt j1 j2):
  Turn P w K (.Tuple elts n pos) (Itz K k a m b) [z,ti,tt,j1,j2] z (fun i h=>ZSt h z ti tt j1 j2 k a m b i) where
 mem:=by simp
 obj := fun i h st c hc => by
  have jl:∀{q:Bool} {j l:Addr},JIt h q j l i->∃o,h.get? j=some o/\∀v,o.data≠.cell v:=fun{q j l} x=>by
   cases q
   ·obtain⟨o,e,_,d⟩:=(show h.IsListIter j l i from x)
    exact⟨o,e,fun v z=>by rw[d]at z;cases z⟩
   ·obtain⟨o,e,_,d⟩:=(show h.IsTupleIter j l i from x)
    exact⟨o,e,fun v z=>by rw[d]at z;cases z⟩
  simp only[List.mem_cons,List.not_mem_nil,or_false]at hc
  rcases hc with rfl|rfl|rfl|rfl|rfl
  ·exact⟨_,st.oz,fun v z=>nomatch z⟩
  ·exact⟨_,st.oi,fun v z=>nomatch z⟩
  ·obtain⟨u,v,e⟩:=st.ot
   exact⟨_,e,fun v z=>nomatch z⟩
  ·exact jl st.q1
  ·exact jl st.q2
 keep:=fun i h h' st kp=>⟨kp z (by simp) _ st.oz,kp ti (by simp) _ st.oi,let⟨u,v,e⟩:=st.ot;⟨u,v,kp tt (by simp) _ e⟩,st.q1.at fun o e=>kp j1 (by simp) o e,st.q2.at fun o e=>kp j2 (by simp) o e⟩
 item := by
  intro X hP hw hK hc i pins s σ H E I hf st hg
  subst hP hw hK
  obtain⟨xs,ys,x,y,s1,s2,e1,e2⟩:=hg
  obtain⟨i1,r1,p1⟩:=I.sqB s1
  obtain⟨i2,r2,p2⟩:=I.sqB s2
  obtain⟨u1,h1,ru1⟩:=r1.get e1
  obtain⟨u2,h2,ru2⟩:=r2.get e2
  have fz:=hf z (by simp);have fi:=hf ti (by simp);have ft:=hf tt (by simp);have f1:=hf j1 (by simp);have f2:=hf j2 (by simp)
  have ap:=N.apart (a:=a) (b:=b) (by simp[Bg I s1 fz,Bg I s1 ft,Bg I s1 f1,Bg I s1 f2]) (by simp[Bg I s2 fz,Bg I s2 ft,Bg I s2 f1,Bg I s2 f2])
  obtain⟨v1,v2,ot⟩:=st.ot
  refine Qd ap st.oz st.oi ot (st.q1.sit p1) (st.q2.sit p2) (x:=u1) (y:=u2) (by simpa using h1) (by simpa using h2) fun h' oz ot' q1 q2 op kp=>⟨_,rfl,wpAny_letOwnedTupleGo_zip oz fun g oz' sb=>?_⟩
  have lt:∀c o,s.heap.get? c=some o->c≠s.heap.objs.size:=fun c o q=>Nat.ne_of_lt (Heap.lt_size q)
  have nz:z≠s.heap.objs.size:=lt _ _ st.oz
  have nt:tt≠s.heap.objs.size:=lt _ _ ot
  have n1:j1≠s.heap.objs.size:=by obtain⟨o,e,_⟩:=(st.q1.sit p1).live;exact lt _ _ e
  have n2:j2≠s.heap.objs.size:=by obtain⟨o,e,_⟩:=(st.q2.sit p2).live;exact lt _ _ e
  have kp2:∀c o,c≠z->c≠tt->c≠j1->c≠j2->s.heap.get? c=some o->g.get? c=some o:=fun c o c1 c2 c3 c4 q=>(sb.2 c c1).trans (kp c o c1 c2 c3 c4 q)
  have fr:H s.heap.objs.size=none:=I.hok.fresh (Nat.le_refl _)
  have op2:g.get? s.heap.objs.size=some {cls:=.type "tuple",data:=.seq #[u1,u2]}:=(sb.2 _ (Ne.symm nz)).trans op
  have ne:∀c u,c∈ [z,ti,tt,j1,j2]->∀d,H d=some u->d≠c:=fun c u hc d q e=>by rw[e,(hf c hc).1]at q;cases q
  have kpH:∀c u,H c=some u->∀o,s.heap.get? c=some o->g.get? c=some o:=fun c u q o e=>kp2 c o (ne z u (by simp) c q) (ne tt u (by simp) c q) (ne j1 u (by simp) c q) (ne j2 u (by simp) c q) e
  have ka:∀o,s.heap.get? a=some o->g.get? a=some o:=fun o e=>kp2 a o (Bg I s1 fz) (Bg I s1 ft) (Bg I s1 f1) (Bg I s1 f2) e
  have kb:∀o,s.heap.get? b=some o->g.get? b=some o:=fun o e=>kp2 b o (Bg I s2 fz) (Bg I s2 ft) (Bg I s2 f1) (Bg I s2 f2) e
  have sq:∀{q:Bool} {d:Addr} {is:Array Value},MH s.heap q d is->(∀o,s.heap.get? d=some o->h'.get? d=some o)->MH h' q d is:=fun{q d is} x kd=>by
   cases q
   ·exact(show s.heap.IsList d is from x).at kd
   ·obtain⟨o,e,r⟩:=(show s.heap.IsTuple d is from x)
    exact⟨o,kd o e,r⟩
  have ka1:∀o,s.heap.get? a=some o->h'.get? a=some o:=fun o e=>kp a o (Bg I s1 fz) (Bg I s1 ft) (Bg I s1 f1) (Bg I s1 f2) e
  have kb1:∀o,s.heap.get? b=some o->h'.get? b=some o:=fun o e=>kp b o (Bg I s2 fz) (Bg I s2 ft) (Bg I s2 f1) (Bg I s2 f2) e
  refine⟨.ref s.heap.objs.size,upd H s.heap.objs.size (.tup [x,y]),?_,rfl,⟨_,x,y,fr,rfl,fun zs hz=>by rw[I.sqB_inj hz s1];exact e1,fun zs hz=>by rw[I.sqB_inj hz s2];exact e2,rfl⟩,⟨oz',(sb.2 _ N.n1).trans (kp ti _ N.n1 N.n5 N.n6 N.n7 st.oi),⟨_,_,(sb.2 _ N.n2).trans ot'⟩,(q1.jit (sq p1 ka1)).at fun o e=>(sb.2 _ N.n3).trans e,(q2.jit (sq p2 kb1)).at fun o e=>(sb.2 _ N.n4).trans e⟩,?_⟩
  ·show Inv X pins σ _ {s with heap:=g,gens:=s.gens,drawn:=s.drawn,toks:=s.toks}
   refine I.step (g':=s.gens) (d':=s.drawn) (ch:=[z,tt,j1,j2]) ?_ ?_ ?_ ?_ ?_ ?_ ?_ ?_ ?_ ?_ I.bare
   ·intro c hc
    have q:PR X pins H c:=hf c (by simp only[List.mem_cons,List.not_mem_nil,or_false]at hc ⊢; rcases hc with z|z|z|z<;>simp[z])
    exact⟨q.2.2.2.1,q.2.1,q.2.2.2.2.1,q.2.2.2.2.2⟩
   ·exact fun c o _ _ hc q _=>by
     simp only[List.mem_cons,List.not_mem_nil,or_false,not_or]at hc
     exact kp2 c o hc.1 hc.2.1 hc.2.2.1 hc.2.2.2 q
   ·exact fun c o _ _ hc q _=>by
     simp only[List.mem_cons,List.not_mem_nil,or_false,not_or]at hc
     exact⟨o.slots,kp2 c o hc.1 hc.2.1 hc.2.2.1 hc.2.2.2 q⟩
   ·exact fun c o _ q n=>by rw[BD (lt c o q)];exact n
   ·exact fun c o hc q=>by
     simp only[List.mem_cons,List.not_mem_nil,or_false,not_or]at hc
     exact⟨o,kp2 c o hc.1 hc.2.1 hc.2.2.1 hc.2.2.2 q⟩
   ·exact fun c ys q=>by rw[BD (BX q fr)];exact q
   ·exact fun c o u q=>by rw[BD (BX q fr)];exact q
   ·exact fun c ps q=>⟨#[],by rw[BD (BX q fr),q];simp⟩
   ·rintro mm ⟨o,es,ep,ho,r⟩
    exact⟨o,es,ep,kp2 _ o (Ne.symm fz.2.1) (Ne.symm ft.2.1) (Ne.symm f1.2.1) (Ne.symm f2.2.1) ho,r⟩
   ·intro c v q
    by_cases hb:c=s.heap.objs.size
    ·subst hb
     rw[CH]at q
     cases q
     exact⟨by show 2≤sizeLine;decide,[u1,u2],.cons ru1 (.cons ru2 .nil),⟨_,op2,rfl,0,rfl⟩⟩
    ·rw[BD hb]at q
     refine(I.hok c v q).stay (fun d o hd r=>?_) (fun d r=>by rw[BD (BX r fr)];exact r) (fun d ys r=>by rw[BD (BX r fr)];exact r)
     rcases hd with e|e
     ·rw[e]at r ⊢; exact kpH c v q o r
     ·exact kpH d _ e o r
  ·intro c hc
   have q:=hf c hc
   have:c≠s.heap.objs.size:=by
    simp only[List.mem_cons,List.not_mem_nil,or_false]at hc
    rcases hc with e|e|e|e|e
    ·rw[e];exact nz
    ·rw[e];exact lt _ _ st.oi
    ·rw[e];exact nt
    ·rw[e];exact n1
    ·rw[e];exact n2
   rw[BD this];exact q.1
 done:=by
  intro X hP hw hK hc i pins s σ H E I hf st hg
  subst hP hw hK
  obtain⟨xs,ys,s1,s2,e⟩:=hg
  obtain⟨i1,r1,p1⟩:=I.sqB s1
  obtain⟨i2,r2,p2⟩:=I.sqB s2
  have l1:=r1.length
  have l2:=r2.length
  have hh:X.A.in1.handled=none:=I.ok.hd hc
  have hh0:X.A.handled=none:=I.ok.hd hc
  have fz:=hf z (by simp);have fi:=hf ti (by simp);have ft:=hf tt (by simp);have f1:=hf j1 (by simp);have f2:=hf j2 (by simp)
  have ap:=N.apart (a:=a) (b:=b) (by simp[Bg I s1 fz,Bg I s1 ft,Bg I s1 f1,Bg I s1 f2]) (by simp[Bg I s2 fz,Bg I s2 ft,Bg I s2 f1,Bg I s2 f2])
  obtain⟨v1,v2,ot⟩:=st.ot
  refine Tb hh0 ap st.oz st.oi ot (st.q1.sit p1) (st.q2.sit p2) (by rcases e with e|e;exact .inl (by simp;omega);exact .inr (by simp;omega)) fun h' kp=>⟨rfl,?_⟩
  have ne:∀c u,c∈ [z,ti,tt,j1,j2]->∀d,H d=some u->d≠c:=fun c u hc d q e=>by rw[e,(hf c hc).1]at q;cases q
  show Inv X pins σ _ {s with heap:=h',gens:=s.gens,drawn:=s.drawn,toks:=s.toks}
  refine I.step (g':=s.gens) (d':=s.drawn) (ch:=[z,tt,j1,j2]) ?_ ?_ ?_ ?_ ?_ ?_ ?_ ?_ ?_ ?_ I.bare
  ·intro c hc
   have q:PR X pins H c:=hf c (by simp only[List.mem_cons,List.not_mem_nil,or_false]at hc ⊢; rcases hc with z|z|z|z<;>simp[z])
   exact⟨q.2.2.2.1,q.2.1,q.2.2.2.2.1,q.2.2.2.2.2⟩
  ·exact fun c o _ _ hc q _=>by
    simp only[List.mem_cons,List.not_mem_nil,or_false,not_or]at hc
    exact kp c o hc.1 hc.2.1 hc.2.2.1 hc.2.2.2 q
  ·exact fun c o _ _ hc q _=>by
    simp only[List.mem_cons,List.not_mem_nil,or_false,not_or]at hc
    exact⟨o.slots,kp c o hc.1 hc.2.1 hc.2.2.1 hc.2.2.2 q⟩
  ·exact fun c o _ q n=>n
  ·exact fun c o hc q=>by
    simp only[List.mem_cons,List.not_mem_nil,or_false,not_or]at hc
    exact⟨o,kp c o hc.1 hc.2.1 hc.2.2.1 hc.2.2.2 q⟩
  ·exact fun c ys q=>q
  ·exact fun c o u q=>q
  ·exact fun c ps q=>⟨#[],by rw[q];simp⟩
  ·rintro mm ⟨o,es,ep,ho,r⟩
   exact⟨o,es,ep,kp _ o (Ne.symm fz.2.1) (Ne.symm ft.2.1) (Ne.symm f1.2.1) (Ne.symm f2.2.1) ho,r⟩
  ·intro c v q
   refine(I.hok c v q).stay (fun d o hd r=>?_) (fun d r=>r) (fun d ys r=>r)
   rcases hd with e|e
   ·rw[e]at r ⊢; exact kp c o (ne z v (by simp) c q) (ne tt v (by simp) c q) (ne j1 v (by simp) c q) (ne j2 v (by simp) c q) r
   ·exact kp d o (ne z _ (by simp) d e) (ne tt _ (by simp) d e) (ne j1 _ (by simp) d e) (ne j2 _ (by simp) d e) r
 self:=fun _ _ _ _ _ st h=>wpAny_pyIter_zip st.oz h
end L2
end
noncomputable section
namespace L2
open PySem PySem.Spec PyProof.Rows
theorem zne(n:Nat):ZNe (n+4) (n+2) (n+3) n (n+1):=⟨fun e=>by have:n+2=n+4:=e;omega,fun e=>by have:n+3=n+4:=e;omega,fun e=>by have:n=n+4:=e;omega,fun e=>by have:n+1=n+4:=e;omega,fun e=>by have:n+2=n+3:=e;omega,fun e=>by have:n+2=n:=e;omega,fun e=>by have:n+2=n+1:=e;omega,fun e=>by have:n+3=n:=e;omega,fun e=>by have:n+3=n+1:=e;omega,fun e=>by have:n=n+1:=e;omega⟩
section
variable{X:Cx}
noncomputable def gQ(K:PySem.W.Frag)(ta:TA):TI:=fun σ H R=>ta σ H fun vs H1=>∃k a m b,vs=[.ref a,.ref b]/\(∃xs,SqB K H1 k a xs)/\(∃ys,SqB K H1 m b ys)/\R (Itz K k a m b) H1
theorem Z1{a b:Expr}{ta:TA}{p pos tp:Pos}{elts:List Expr}{n:Nat}(hg:Gl X "zip")(hm:X.mg "zip"=none)(ha:PA X [a,b] ta)(hs:starEach [a,b] X.env=[(false,eval a X.env),(false,eval b X.env)]:=by rfl)(hs2:starEach [b] X.env=[(false,eval b X.env)]:=by rfl):
  PI X (.Tuple elts n tp) (.Call (.Name "zip" p) [a,b] [] pos) (gQ X.K ta):=by
 intro pins s σ H R I h
 refine Call_ (J0 I hg hm boot_zip (PyProof.Rows.callWith_type1 (thn (ha pos pins s σ H _ I h) fun us s1 ⟨vs,H1,I1,r1,q1⟩=>?_) (by rw[hs,hs2]) (by rw[hs2];rfl)))
 obtain⟨k,a',m,b',e,⟨xs,hq⟩,⟨ys,hr⟩,q⟩:=q1
 subst e
 obtain⟨u,v,rfl,ru,rv⟩:=r1.two
 cases (show u=Value.ref a' from ru)
 cases (show v=Value.ref b' from rv)
 obtain⟨i1,v1,p1⟩:=I1.sqB hq
 obtain⟨i2,v2,p2⟩:=I1.sqB hr
 refine RQ p1 p2 fun h' oz oi ot q1 q2 kp=>wpAny_pyIter_zip (s:={s1 with heap:=h'}) oz ?_
 have sq:∀{q:Bool} {d:Addr} {is:Array Value},MH s1.heap q d is->MH h' q d is:=fun{q d is} x=>by
  cases q
  ·exact(show s1.heap.IsList d is from x).at fun o e=>kp _ o e
  ·obtain⟨o,e,r⟩:=(show s1.heap.IsTuple d is from x)
   exact⟨o,kp _ o e,r⟩
 refine⟨s1.heap.objs.size+4,[s1.heap.objs.size+4,s1.heap.objs.size+2,s1.heap.objs.size+3,s1.heap.objs.size,s1.heap.objs.size+1],_,_,H1,rfl,I1.kept (t':=s1.toks) kp,
  WC k a' m b' _ _ _ _ _ (zne s1.heap.objs.size),⟨oz,oi,⟨_,_,ot⟩,q1.jit (sq p1),q2.jit (sq p2)⟩,fun c hc=>?_,q⟩
 simp only[List.mem_cons,List.not_mem_nil,or_false]at hc
 have:s1.heap.objs.size≤c:=by rcases hc with rfl|rfl|rfl|rfl|rfl<;>first|exact Nat.le_refl _|exact Nat.le_add_right _ _
 exact I1.fpOk this (I1.hok.fresh this)
end
end L2
end
noncomputable section
namespace L2
open PySem PySem.Spec PyProof.Rows
section
variable{prog:Program}{w:World}{A:Around}{E:Value->Shared->Prop}{s:Shared}
theorem IsList.at_ext{h h':Heap}{a:Addr}{items:Array Value}(p:h.IsList a items)(k:∀o,h.get? a=some o->h'.get? a=some o):h'.IsList a items:=by
 obtain⟨o,ho,r⟩:=p
 exact⟨o,k o ho,r⟩
theorem Oz{it t:Addr}{items:Array Value}(hne:t≠it):∀(n i:Nat) (s:Shared) (Q:List Value->Shared->Prop),s.heap.IsListIter it t i->s.heap.IsList t items->i+n≤items.size->
    (∀h',h'.IsListIter it t (i+n)->Heap.SameBut it s.heap h'->Q ((items.toList.drop i).take n) {s with heap:=h'})->wpAny (model prog w) A (draw (.ref it) n) Q E s
  | 0, i, s, Q, hit, _, _, hQ => by
    show wpAny _ _ (pure []) Q E s
    exact wpAny_pure (by simpa using hQ s.heap hit (Heap.SameBut.refl ..))
  | n + 1, i, s, Q, hit, ht, hle, hQ => by
    have hlt:i<items.size:=by omega
    show wpAny _ _ (pyNext (.ref it) >>= _) Q E s
    refine wpAny_bind (wpAny_pyNext_list_item hit ht (x:=items[i]) (by simp[hlt]) fun h1 hit1 hs1=>?_)
    refine wpAny_bind (wpAny_holding (Oz hne n (i+1) _ _ hit1 (IsList.at_ext ht fun o e=>hs1.extBut t o hne e) (by omega) fun h2 hit2 hs2=>wpAny_pure ?_))
    have hd:items.toList.drop i=items[i]::items.toList.drop (i+1):=by simp[List.drop_eq_getElem_cons,hlt]
    have:=hQ h2 (by rw[show i+(n+1)=i+1+n by omega];exact hit2) (hs1.trans hs2)
    rw[hd,List.take_succ_cons]at this
    exact this
theorem KJ{t:Addr}{items:Array Value}{Q:List Value->Shared->Prop}(hh:A.handled=none)(ht:s.heap.IsList t items)(hty:s.TypeIs (.ref t) "list")
  (hQ:∀h',Heap.ExtBut s.heap.objs.size s.heap h'->Q items.toList {s with heap:=h'}):wpAny (model prog w) A (unpackItems (.ref t) items.size none) Q E s:=by
 have hlt:t≠s.heap.objs.size:=by obtain⟨o,ho,_⟩:=ht;exact Nat.ne_of_lt (Heap.lt_size ho)
 unfold unpackItems
 refine wpAny_bind ?_
 ·unfold notIterableAtAll
  refine wpAny_bind (wpAny_specialOf hty F.slot_list_iter.lookup ?_)
  refine wpAny_pure ?_
  simp only[Bool.false_eq_true,if_false]
  refine wpAny_bind (wpAny_holding (wpAny_pyIter_list ht ?_))
  refine wpAny_bind (wpAny_holding (Oz hlt items.size 0 _ _ ⟨_,Heap.get?_push_size _ rfl,rfl,rfl⟩ (IsList.at_ext ht fun o e=>Heap.get?_push_of_some _ e) (by omega) fun h1 hit1 hs1=>?_))
  have hall:List.take items.size (List.drop 0 items.toList)=items.toList:=by
   rw[List.drop_zero];exact List.take_of_length_le (by simp)
  rw[hall]
  rw[if_neg (by simp)]
  have ht1:h1.IsList t items:=IsList.at_ext (IsList.at_ext ht fun o e=>Heap.get?_push_of_some _ e) fun o e=>hs1.extBut t o hlt e
  refine wpAny_bind (wpAny_holding (wpAny_pyNext_list_end hh hit1 ht1 (by simp) fun h2 he2=>?_))
  simp only[Option.isSome_none,Bool.false_eq_true,if_false]
  refine wpAny_pure (hQ h2 fun b o hb e=>he2 b o hb (hs1.extBut b o hb (Heap.get?_push_of_some _ e)))
theorem Ja{env:Env}{elts:List Expr}{x1}{pos:Pos}{t:Addr}{items:Array Value}{Q:Unit->Shared->Prop}(hh:A.handled=none)(ht:s.heap.IsList t items)(hty:s.TypeIs (.ref t) "list")
  (hn:(assignEach elts env).length=items.size) (hstar:(assignEach elts env).findIdx? (·.1)=none)
  (h:∀h',Heap.ExtBut s.heap.objs.size s.heap h'->wpAny (model prog w) A (assignInOrder ((assignEach elts env).map (·.2)) items.toList) Q E {s with heap:=h'}):
  wpAny (model prog w) A (assign (.Tuple elts x1 pos) env (.ref t)) Q E s:=by
 rw[PyProof.Rows.assign_Tuple]
 refine wpAny_bind (wpAny_standAt ?_)
 unfold unpack
 rw[hn,hstar]
 exact wpAny_bind (wpAny_holding (KJ hh ht hty h))
end
section
variable{X:Cx}{pos:Pos}
noncomputable def gN(K:PySem.W.Frag)(n:Nat)(t:TGs):TG:=fun v σ H Q=>∃a xs,v=.ref a/\(SqT K H a xs∨H a=some (.lst xs))/\xs.length=n/\t xs σ H Q
theorem Za{es:List Expr}{k:Nat}{t:TGs}{n:Nat}(hc:X.calm=true)(h:PGs X es t)
  (hn:(assignEach es X.env).length=n:=by rfl) (hst:(assignEach es X.env).findIdx? (·.1)=none:=by rfl):PG X (.Tuple es k pos) (gN X.K n t):=by
 intro pins s σ H v u Q I r hw
 obtain⟨a,xs,e1,hq,hl,hw⟩:=hw
 rcases hq with hq|hq
 ·exact Y6 hc h hn hst pins s σ H v u Q I r ⟨a,xs,e1,hq,hl,hw⟩
 ·subst e1
  cases r
  obtain⟨its,rv,p,hz⟩:=I.list (SqL.of hq)
  obtain⟨z,its2,m,rv2,_,e⟩:=I.lstM hq
  refine Ja (I.ok.hd hc) p.isList ⟨_,e,rfl⟩ (by simp[hn,←hl,rv.length]) hst fun h' hx=>?_
  have I1:Inv X pins σ H {s with heap:=h'}:=I.kept (t':=s.toks) fun b o e=>hx b o (Nat.ne_of_lt (Heap.lt_size e)) e
  exact h pins _ σ H xs _ Q I1 (by simpa using rv) hw
end
end L2
end
noncomputable section
namespace L2
open PySem PySem.Spec PyProof.Rows
theorem JIt.live{h:Heap}{k:Bool}{j l:Addr}{i:Nat}(q:JIt h k j l i):∃o,h.get? j=some o/\∀v,o.data≠.cell v:=by
 cases k with
 |true=>obtain⟨o,e,c,d⟩:=q;exact⟨o,e,fun v z=>by rw[d]at z;cases z⟩
 |false=>obtain⟨o,e,c,d⟩:=q;exact⟨o,e,fun v z=>by rw[d]at z;cases z⟩
theorem MH.mono{h h':Heap}{k:Bool}{l:Addr}{its:Array Value}(q:MH h k l its)(e:∀o,h.get? l=some o->h'.get? l=some o):MH h' k l its:=by
 cases k with
 |true=>obtain⟨o,ho,r⟩:=q;exact⟨o,e o ho,r⟩
 |false=>obtain⟨o,ho,r⟩:=q;exact⟨o,e o ho,r⟩
theorem SU{prog:Program}{w:World}{A:Around}(hh:A.handled=none)(it t:Addr)(hne:t≠it)(items:Array Value):
  Draws prog w A it [it,t] items.size (fun i v=>items[i]?=some v) (fun i h=>SIt h it t i items) where
 live:=fun _ _ st=>let⟨o,ho,_⟩:=st.live;⟨o,ho⟩
 frame:=fun _ _ _ st hk=>st.at (fun o e=>hk it (by simp) o e) fun o e=>hk t (by simp) o e
 item:=fun i s Q E hi st hQ=>Kg st (x:=items[i]) (by simp[hi]) fun h' a b=>hQ _ h' s.toks (by simp[hi]) a b
 done:=fun s Q E st hE=>KO hh st (by simp) hE
noncomputable def ItE(K:PySem.W.Frag)(kk:Bool)(a:Addr):It:=
 ⟨fun i H=>∃xs x,SqB K H kk a xs/\xs[i]?=some x,fun i H x H'=>∃p y,H p=none/\x=.ref p/\(∀xs,SqB K H kk a xs->xs[i]?=some y)/\H'=upd H p (.tup [.int i,y]),fun i H=>∃xs,SqB K H kk a xs/\xs.length≤i⟩
theorem Qi {P : Program} {w : World} {K : PySem.W.Frag} {elts : List Expr} {k : Nat} {pos : Pos} (kk : Bool) (a e it : Addr) (hei : e ≠ it) : Turn P w K (.Tuple elts k pos) (ItE K kk a) [e, it] e (fun i h => (∃ old, IsEnum h e it i old) /\ JIt h kk it a i) where
  mem:=by simp
  obj:=fun i h st b hb=>by
    obtain⟨⟨old,h1⟩,st2⟩:=st
    obtain⟨o,h2,h4⟩:=st2.live
    simp only[List.mem_cons,List.not_mem_nil,or_false]at hb
    rcases hb with rfl|rfl
    ·exact⟨_,h1,fun v z=>nomatch z⟩
    ·exact⟨o,h2,h4⟩
  keep:=fun i h h' st k=>by
    obtain⟨⟨old,h1⟩,h2⟩:=st
    exact⟨⟨old,k e (by simp) _ h1⟩,h2.at fun o q=>k it (by simp) o q⟩
  item := by
    intro X hP hw hK hc i pins s σ H E I hf st hg
    subst hP hw hK
    obtain⟨xs,x,hq,hx⟩:=hg
    obtain⟨its,rv,p⟩:=I.sqB hq
    obtain⟨u,hu,ru⟩:=rv.get hx
    obtain⟨⟨old,h1⟩,h2⟩:=st
    obtain⟨oi,hi1,hi2⟩:=h2.live
    have hea:a≠e:=Bg I hq (hf e (by simp))
    have hia:a≠it:=Bg I hq (hf it (by simp))
    have hil:i<its.toArray.size:=by
      have:=(List.getElem?_eq_some_iff.mp hu).1
      simpa using this
    have hh:X.A.in1.handled=none:=I.ok.hd hc
    have D:=SU (prog:=X.prog) (w:=X.w) hh it a hia its.toArray
    refine wpAny_pyNext_enum_itemD D h1 (h2.sit p) hil hei (by simp[hei,Ne.symm hea]) ?_
    intro y h' tk hy out st' tup size kept
    have ey:y=u:=by
      have:its[i]?=some y:=by simpa using hy
      rw[hu]at this
      exact(Option.some.inj this).symm
    subst ey
    refine⟨_,rfl,wpAny_letOwnedTupleGo_enum out fun h'' en sb=>?_⟩
    have hfe:=hf e (by simp)
    have hfi:=hf it (by simp)
    have lt:∀b o,s.heap.get? b=some o->b≠s.heap.objs.size:=fun b o q=>Nat.ne_of_lt (Heap.lt_size q)
    have kept2:∀b o,b≠e->b≠it->s.heap.get? b=some o->h''.get? b=some o:=fun b o b1 b2 q=>(sb.2 b b1).trans (kept b o b1 b2 q)
    have fr:H s.heap.objs.size=none:=I.hok.fresh (Nat.le_refl _)
    have tup2:h''.get? s.heap.objs.size=some {cls:=.type "tuple",data:=.seq #[.int i tk,y]}:=(sb.2 _ (Ne.symm (lt e _ h1))).trans tup
    have ne1:∀b u,H b=some u->b≠e:=fun b u q z=>by rw[z,hfe.1]at q;cases q
    have ne2:∀b u,H b=some u->b≠it:=fun b u q z=>by rw[z,hfi.1]at q;cases q
    refine⟨.ref s.heap.objs.size,upd H s.heap.objs.size (.tup [.int i,x]),?_,rfl,⟨_,x,fr,rfl,fun ys hys=>by rw[I.sqB_inj hys hq];exact hx,rfl⟩,⟨⟨y,en⟩,?_⟩,?_⟩
    · show Inv X pins σ _ { s with heap := h'', gens := s.gens, drawn := s.drawn, toks := tk + 1 }
      refine I.step (g':=s.gens) (d':=s.drawn) (ch:=[e,it]) ?_ ?_ ?_ ?_ ?_ ?_ ?_ ?_ ?_ ?_ I.bare
      · intro b hb
        simp only[List.mem_cons,List.not_mem_nil,or_false]at hb
        rcases hb with rfl|rfl
        ·exact⟨hfe.2.2.2.1,hfe.2.1,hfe.2.2.2.2.1,hfe.2.2.2.2.2⟩
        ·exact⟨hfi.2.2.2.1,hfi.2.1,hfi.2.2.2.2.1,hfi.2.2.2.2.2⟩
      ·exact fun b o _ _ hc q _=>kept2 b o (fun z=>hc (by simp[z])) (fun z=>hc (by simp[z])) q
      ·exact fun b o _ _ hc q _=>⟨o.slots,kept2 b o (fun z=>hc (by simp[z])) (fun z=>hc (by simp[z])) q⟩
      ·exact fun b o _ q n=>by rw[BD (lt b o q)];exact n
      ·exact fun b o hc q=>⟨o,kept2 b o (fun z=>hc (by simp[z])) (fun z=>hc (by simp[z])) q⟩
      ·exact fun b ys q=>by rw[BD (BX q fr)];exact q
      ·exact fun b o u q=>by rw[BD (BX q fr)];exact q
      ·exact fun b ps q=>⟨#[],by rw[BD (BX q fr),q];simp⟩
      · rintro m ⟨o, es, ep, ho, r⟩
        exact⟨o,es,ep,kept2 _ o (Ne.symm hfe.2.1) (Ne.symm hfi.2.1) ho,r⟩
      · intro b v q
        by_cases hb:b=s.heap.objs.size
        · subst hb
          rw[CH]at q
          cases q
          exact⟨by show 2≤sizeLine;decide,[.int i tk,y],.cons ⟨tk,rfl⟩ (.cons ru .nil),⟨_,tup2,rfl,0,rfl⟩⟩
        · rw [BD hb] at q
          refine(I.hok b v q).stay (fun c z hc r=>kept2 c z ?_ ?_ r) (fun c r=>by rw[BD (BX r fr)];exact r) (fun c ys r=>by rw[BD (BX r fr)];exact r)
          · rcases hc with z | z
            ·rw[z];exact ne1 b v q
            ·exact ne1 c _ z
          · rcases hc with z | z
            ·rw[z];exact ne2 b v q
            ·exact ne2 c _ z
    · have pa : MH h'' kk a its.toArray := p.mono fun o q => kept2 a o hea hia q
      exact(st'.at (fun o q=>(sb.2 it (Ne.symm hei)).trans q) fun o q=>(sb.2 a hea).trans q).jit pa
    · intro b hb
      simp only[List.mem_cons,List.not_mem_nil,or_false]at hb
      rcases hb with rfl|rfl
      ·rw[BD (lt b _ h1)];exact hfe.1
      ·rw[BD (lt b _ hi1)];exact hfi.1
  done := by
    intro X hP hw hK hc i pins s σ H E I hf st hg
    subst hP hw hK
    obtain⟨xs,hq,hx⟩:=hg
    obtain⟨its,rv,p⟩:=I.sqB hq
    obtain⟨⟨old,h1⟩,h2⟩:=st
    have hl:=rv.length
    have hh:X.A.in1.handled=none:=I.ok.hd hc
    obtain⟨f0,f1,f2,f3,f4,f5⟩:=hf it (by simp)
    have D:Draws X.prog X.w X.A.in1 it [it,a] i (fun _ _=>True) (fun j h=>j=i/\SIt h it a i its.toArray):=
      { live := fun _ _ st => let ⟨o, ho, _⟩ := st.2.live; ⟨o, ho⟩
        frame:=fun _ _ _ st hk=>⟨st.1,st.2.at (fun o e=>hk it (by simp) o e) fun o e=>hk a (by simp) o e⟩
        item:=fun j s Q E hj st _=>absurd st.1 (Nat.ne_of_lt hj)
        done:=fun s Q E st hE=>KO hh st.2 (by simp;omega) hE}
    exact wpAny_pyNext_enum_endD D h1 ⟨rfl,h2.sit p⟩ fun h' eb=>⟨rfl,I.turned (t':=s.toks) (fun b o hb q=>eb b o hb q) f0 f1 f3 f4 f5⟩
  self:=fun _ _ _ _ _ st h=>by
    obtain⟨⟨old,h1⟩,_⟩:=st
    exact wpAny_pyIter_enum h1 h
section
variable{X:Cx}
noncomputable def Z7(K:PySem.W.Frag)(ta:TA):TI:=fun σ H R=>ta σ H fun vs H1=>∃kk a,vs=[.ref a]/\(∃xs,SqB K H1 kk a xs)/\R (ItE K kk a) H1
theorem UL{a:Expr}{ta:TA}{p pos tp:Pos}{elts:List Expr}{k:Nat}(hg:Gl X "enumerate")(hm:X.mg "enumerate"=none)(ha:PA X [a] ta)(hs:starEach [a] X.env=[(false,eval a X.env)]:=by rfl):
  PI X (.Tuple elts k tp) (.Call (.Name "enumerate" p) [a] [] pos) (Z7 X.K ta):=by
 intro pins s σ H R I h
 refine Call_ (J0 I hg hm boot_enumerate (callWith_type1 (thn (ha pos pins s σ H _ I h) fun us s1 ⟨vs,H1,I1,r1,q1⟩=>?_) hs rfl))
 obtain⟨kk,b,e,⟨xs,hq⟩,q⟩:=q1
 subst e
 obtain⟨u,rfl,ru⟩:=r1.one
 cases (show u=Value.ref b from ru)
 obtain⟨its,rv,pt⟩:=I1.sqB hq
 have fin:∀h':Heap,IsEnum h' (s1.heap.objs.size+1) s1.heap.objs.size 0 .none->JIt h' kk s1.heap.objs.size b 0->(∀b o,s1.heap.get? b=some o->h'.get? b=some o)->wpAny (model X.prog X.w) X.A (pyIter (.ref (s1.heap.objs.size+1))) (PIE X pins σ (.Tuple elts k tp) R) X.xe {s1 with heap:=h'}:=fun h' en it kp=>by
  refine wpAny_pyIter_enum (s:={s1 with heap:=h'}) en ?_
  refine⟨s1.heap.objs.size+1,[s1.heap.objs.size+1,s1.heap.objs.size],_,_,H1,rfl,I1.kept (t':=s1.toks) kp,Qi kk b (s1.heap.objs.size+1) s1.heap.objs.size (Nat.succ_ne_self _),⟨⟨_,en⟩,it⟩,fun c hc=>?_,q⟩
  simp only[List.mem_cons,List.not_mem_nil,or_false]at hc
  rcases hc with rfl|rfl
  ·exact I1.fpOk (by omega) (I1.hok.fresh (by omega))
  ·exact I1.fpOk (Nat.le_refl _) (I1.hok.fresh (Nat.le_refl _))
 cases kk with
 |true=>exact Qx (show s1.heap.IsTuple b its.toArray from pt) fun h' en it kp=>fin h' en it kp
 |false=>exact call_enumerate_list (show s1.heap.IsList b its.toArray from pt) fun h' en it _ kp=>fin h' en it kp
end
end L2
end
noncomputable section
namespace St
open PySem PySem.Spec L2 PyProof.Rows
inductive Kd where
 |non|bl|int|str|tup|lst|dct
 deriving DecidableEq
noncomputable def Kd.ty:Kd->String
 | .non=>"NoneType" | .bl=>"bool" | .int=>"int" | .str=>"str" | .tup=>"tuple" | .lst=>"list" | .dct=>"dict"
noncomputable def Kd.isA:Kd->String->Bool
 | .bl,"bool"=>true| .bl,"int"=>true| .int,"int"=>true| .str,"str"=>true| .tup,"tuple"=>true| .lst,"list"=>true| .dct,"dict"=>true
 |_,_=>false
section
variable{K:PySem.W.Frag}
theorem X2(k:Kd):PySem.W.kitOne K (.type k.ty) (.type "int")=some (k.isA "int"):=by
 cases k<;>first|rfl|(unfold PySem.W.kitOne;rfl)
theorem Ud(k:Kd):PySem.W.kitOne K (.type k.ty) (.type "bool")=some (k.isA "bool"):=by
 cases k<;>rfl
theorem kit_tuple(k:Kd):PySem.W.kitOne K (.type k.ty) (.type "tuple")=some (k.isA "tuple"):=by
 cases k<;>rfl
theorem YM(k:Kd):PySem.W.kitOne K (.type k.ty) (.type "str")=some (k.isA "str"):=by
 cases k<;>rfl
end
structure Dfn(P:Program)(w:World)(K:PySem.W.Frag)(mg:Str->Option Value)(base:Heap)(x:Str)(k:Nat)(ps:List Str)(sp:Sp):Prop where
 ex:∃f fd,mg x=some (.ref f)/\PySem.W.keepIn K (.ref f)=true/\Binds K fd ps []/\Om P w K mg base CX0 k f fd ps sp
structure Src(K:PySem.W.Frag)(mg:Str->Option Value)(x:Str)(st:Stmt):Prop where
 ex:∃f fd,Fun K x x st f fd/\mg x=some (.ref f)
theorem dY{X:Cx}{k:Nat}{x:Str}{ps:List Str}{sp:Sp}{e:Expr}{es:List Expr}{t:TA}{p pos:Pos}(d:Dfn X.prog X.w X.K X.mg X.base x k ps sp)(hr:MT k X.A)(hg:Gl X x)(ha:PA X (e::es) t)
  (hdb:(x==("__debug__":Str))=false:=by decide) (he:starEach (e::es) X.env=(false,eval e X.env)::starEach es X.env:=by rfl) (hpl:(backTo pos (starEach es X.env)).any (·.1)=false:=by rfl):
  PE X (.Call (.Name x p) (e::es) [] pos) (Xt sp [] E0 t):=by
 obtain⟨f,fd,a,b,c,F⟩:=d.ex
 exact XT F hr hg a b c .nil d6 ha hdb he hpl
section
variable{X:Cx}
theorem Xe{n:Nat}(h:n<2^8000):n.log2<9000:=by
 by_cases h0:n=0
 ·subst h0;decide
 ·exact Nat.lt_trans ((Nat.log2_lt h0).mpr h) (by decide)
theorem Vt:OpR X (binaryOp .FloorDiv) (rI (fun _ j=>0<j/\j.natAbs<2^8000) fun i j=>.int (i / j)):=opI fun i j _ _ _ _ _ hc q=>by
 have h1:(0:Int)<j:=hc.1
 exact floordiv_int (by omega) (by rw[Int.fdiv_eq_ediv_of_nonneg i (by omega)];exact q) (.inl (PyProof.noPylong_of_log2 (Xe hc.2)))
theorem ML{prog:Program}{w:World}{A:Around}(hh:A.handled=none){a it:Addr}(hne:a≠it){vs:List Value}:Walks prog w A it [it,a] [it] vs.length (fun i v=>vs[i]?=some v) (fun i h=>h.IsListIter it a i/\h.IsList a vs.toArray) where
 sub:=fun b hb=>by simp at hb;simp[hb]
 frame:=fun i h h' st k=>⟨st.1.at fun o e=>k it (by simp) o e,by
  obtain⟨o,ho,r⟩:=st.2
  exact⟨o,k a (by simp) o ho,r⟩⟩
 item:=fun i s Q E hi st hQ=>by
  refine wpAny_pyNext_list_item st.1 st.2 (x:=vs[i]) (by simp[hi]) fun h' st' sb=>?_
  refine hQ _ h' s.toks (by simp[hi]) ⟨st',?_⟩ fun b o hb e=>(sb.2 b (by simpa using hb)).trans e
  obtain⟨o,ho,r⟩:=st.2
  exact⟨o,(sb.2 a hne).trans ho,r⟩
 done:=fun s Q E st hQ=>wpAny_pyNext_list_end hh st.1 st.2 (by simp) fun h' eb=>hQ h' s.toks fun b o hb e=>eb b o (by simpa using hb) e
 self:=fun i s Q E st hQ=>wpAny_pyIter_listiter st.1 hQ
theorem Sv (hc : X.calm = true) : Eb X (.builtin "all") (fun xs H Q => ∃ (p : Addr) (bs : List Bool), xs = [.ref p] /\ SqL X.K H p (bs.map V.bl) /\ Q (.bl (bs.all id)) H) := by
  intro pins s σ H xs us Q I r h
  obtain⟨p,bs,rfl,hp,q⟩:=h
  obtain⟨u,rfl,ru⟩:=r.one
  cases (show u=Value.ref p from ru)
  obtain⟨its,rv,pl,hz⟩:=I.list hp
  have hd:X.A.in1.handled=none:=I.ok.hd hc
  refine call_all_walk (wpAny_pyIter_list pl.isList ?_)
  have hlen:bs.length=its.length:=by have:=rv.length;simpa using this
  have hpl:=pl.isList
  have hne:p≠s.heap.objs.size:=by
    obtain⟨o,ho,_⟩:=hpl
    exact Nat.ne_of_lt (Heap.lt_size ho)
  refine⟨s.heap.objs.size,_,_,its.length,_,_,fun i=>bs.getD i true,rfl,ML (vs:=its) hd hne,⟨⟨_,Heap.get?_push_size _ rfl,rfl,rfl⟩,?_⟩,?_,?_⟩
  · obtain ⟨o, ho, r⟩ := hpl
    exact⟨o,Heap.get?_push_of_some _ ho,r⟩
  · intro i v s' Q' E' hv hq
    have hi:i<its.length:=(List.getElem?_eq_some_iff.mp hv).1
    have hb:(bs.map V.bl)[i]?=some (.bl (bs.getD i true)):=by
      rw[List.getElem?_map,List.getElem?_eq_getElem (by omega)]
      simp[List.getD_eq_getElem?_getD,List.getElem?_eq_getElem (show i<bs.length by omega)]
    obtain⟨u,hu,ru⟩:=rv.get hb
    rw[hv]at hu
    cases hu
    cases (show v=Value.bool _ from ru)
    exact wpAny_truthy_bool hq
  · intro h' tk hk
    have e : (List.range its.length).all (fun i => bs.getD i true) = bs.all id := by
      rw[←hlen]
      clear q hp rv hlen
      have : ∀ (l : List Bool), (List.range l.length).all (fun i => l.getD i true) = l.all id := by
        intro l
        induction l with
        |nil=>rfl
        | cons b l ih =>
          rw[List.length_cons,List.range_succ_eq_map,List.all_cons,List.all_map,List.all_cons,←ih]
          rfl
      exact this bs
    rw[e]
    exact⟨.bl _,H,I.kept (t':=tk) fun b o eb=>hk b o (by simp;exact Nat.ne_of_lt (Heap.lt_size eb)) (Heap.get?_push_of_some _ eb),rfl,q⟩
theorem UP{ns:List Int}{j:Nat}(h:j<ns.length):(ns.take (j+1)).sum=(ns.take j).sum+ns.getD j 0:=by
 have e:ns.getD j 0=ns[j]:=by simp[List.getD_eq_getElem?_getD,List.getElem?_eq_getElem h]
 rw[List.take_succ,List.getElem?_eq_getElem h,List.sum_append,e]
 show _+(ns[j]+0)=_
 omega
theorem Lg{ns:List Int}:∀{j:Nat},j≤ns.length->preSum (fun i=>ns.getD i 0) j=(ns.take j).sum
  |0,_=>by simp[preSum]
  | j + 1, h => by
    rw[preSum,Lg (by omega),UP (by omega)]
theorem Rn{ns:List Int}(h:∀n∈ns,0≤n/\n≤1000000):0≤ns.sum/\ns.sum≤1000000*ns.length:=by
  induction ns with
  |nil=>simp
  | cons a l ih =>
    have h1:=h a (by simp)
    have h2:=ih fun n hn=>h n (by simp[hn])
    rw[List.sum_cons,List.length_cons]
    have:((l.length+1:Nat):Int)=(l.length:Int)+1:=by omega
    omega
end
section
variable{prog:Program}{w:World}{A:Around}{E:Value->Shared->Prop}{s:Shared}
theorem JN{t sl:Addr}{items:Array Value}{vl vu:Value}{lo hi:Option Int}{Q:Value->Shared->Prop}(ht:IsTup s.heap t items)(hs:s.heap.IsSliceOf sl vl vu .none)(pl:IsPart vl lo)(pu:IsPart vu hi)
  (hw:HT.sIx items.size 0 lo=0/\HT.sIx items.size items.size hi=items.size)
  (h:Q (.ref t) s):wpAny (model prog w) A (getItem (.ref t) (.ref sl)) Q E s:=by
 obtain⟨os,hos,hcs,hds⟩:=id hs
 have hTs:s.TypeIs (.ref sl) "slice":=⟨os,hos,hcs⟩
 unfold getItem
 try with_reducible refine wpAny_holding ?_
 first|refine wpAny_bind (wpAny_pure ?_)|skip
 refine wpAny_bind (wpAny_sequenceKey ht.typeIs (by decide) ?_)
 refine wpAny_bind (wpAny_callSpecial?_slot (name:=Str.ofString "__getitem__") ht.typeIs PyProof.Rows.slot_tuple_getitem
  (wpAny_call_entry PyProof.Rows.slot_tuple_getitem ht.typeIs entry_tuple_getitem ?_ (args_tuple_getitem _ _)))
 show wpAny _ _ (Builtin.Tuple.tupleItemsOf (.ref t) >>= _) _ _ s
 refine wpAny_bind (tupleItemsOf_ ht ?_)
 refine wpAny_bind (wpAny_typeOf hTs ?_)
 rw[if_pos (by decide)]
 refine wpAny_bind (HT.Gq hs pl pu ?_)
 show wpAny _ _ (if(((HT.sIx items.size 0 lo:Nat):Int)==0 && (1:Int)==1 && (HT.sIx items.size items.size hi-HT.sIx items.size 0 lo)==items.size)=true then _ else _) _ _ s
 rw[if_pos (by rw[hw.1,hw.2];simp)]
 unfold Builtin.Tuple.tupleIsExact
 refine wpAny_bind (wpAny_bind (wpAny_typeOf ht.typeIs (wpAny_pure ?_)))
 rw[if_pos (by decide)]
 exact wpAny_bind (wpAny_rule (wpAny_pure ⟨_,rfl,wpAny_pure h⟩))
end
section
variable{X:Cx}
def gM(K:PySem.W.Frag):V->Option Int->Option Int->Hp->VK->Prop:=fun x lo hi H Q=>∃a xs,x=.ref a/\SqT K H a xs/\HT.sIx xs.length 0 lo=0/\HT.sIx xs.length xs.length hi=xs.length/\Q x H
theorem Y2:SlR X (gM X.K):=by
 intro pins s σ H x v vl vu lo hi sl Q I rx hs pl pu h
 obtain⟨a,xs,rfl,hx,h1,h2,q⟩:=h
 cases rx
 obtain⟨its,r,ht,hz⟩:=I.tuple hx
 have hlen:its.toArray.size=xs.length:=by rw[List.size_toArray];exact r.length.symm
 refine⟨"tuple",_,PyProof.Rows.slot_tuple_getitem.lookup,ht.typeIs,?_⟩
 exact JN ht hs pl pu (by rw[hlen];exact⟨h1,h2⟩) ⟨.ref a,H,I,rfl,q⟩
noncomputable def d8(K:PySem.W.Frag):R2:=fun x y H Q=>∃a b ys,x=.ref a/\y=.ref b/\SqT K H a []/\SqT K H b ys/\Q (.ref b) H
theorem YX:OpR X (binaryOp .Add) (d8 X.K):=by
 intro pins s σ H x y v u Q I rx ry h
 obtain⟨a,b,ys,rfl,rfl,ha,hb,q⟩:=h
 cases rx
 cases ry
 obtain⟨its,r1,p1,_⟩:=I.tuple ha
 obtain⟨its2,r2,p2,_⟩:=I.tuple hb
 have e0:its=[]:=r1.nil_iff.mpr rfl
 subst e0
 obtain⟨⟨cls,dd,data,sl⟩,ho,hc,n,hd⟩:=id p1
 obtain⟨⟨cls2,dd2,data2,sl2⟩,ho2,hc2,n2,hd2⟩:=id p2
 simp only at hc hd hc2 hd2
 subst hc hd hc2 hd2
 exact concat_meets ⟨_,ho,rfl⟩ ⟨_,ho2,rfl⟩ noFill_tuple_add seq_tuple_add PySem.F.slot_tuple_add PySem.F.entry_tuple_add (PySem.F.args_tuple_add_2 _ _)
   (tuple_addW0 a b #[] its2.toArray n n2 dd dd2 sl sl2 rfl) ⟨ho,ho2,⟨.ref b,H,I,rfl,q⟩⟩
end
end St
end
noncomputable section
namespace Mi
open PySem PySem.Spec L2
inductive D where
 |non|bl (b:Bool)|int (i:Int)|str (x:Str)|ty (n:String)|tup (ds:List D)|lst (ds:List D)|dct (kvs:List (Key×D))|scr (ns:List Int)|ref (n:Nat)
inductive Wv where
 |val (d:D)|own (ds:List D)
inductive Cl where
 |lst (ds:List D)|dct (kvs:List (Key×D))
abbrev Sto:=List Cl
structure Ms where
 cel:List Addr
 tmp:List Addr
def Ms.mem(M:Ms)(a:Addr):Prop:=a∈M.cel∨a∈M.tmp
noncomputable def Ms.no:Ms:=⟨[],[]⟩
theorem Ms.no_mem{a:Addr}:¬Ms.no.mem a:=fun z=>z.elim (fun z=>by cases z) fun z=>by cases z
def KL(K:PySem.W.Frag)(a:Addr)(xs:List V):Prop:=∃(o:Obj) (its:Array Value) (n:Nat),K.lookup a=some o/\o.cls=.type "list" /\o.dict=none/\o.data=.seq its n/\its.size≤sizeLine/\Vals xs its.toList
mutual
inductive Dq(K:PySem.W.Frag)(M:Ms)(H:Hp):V->D->Prop
 |non:Dq K M H .non .non
 |bl (b:Bool):Dq K M H (.bl b) (.bl b)
 |int (i:Int):Dq K M H (.int i) (.int i)
 |str (x:Str):Dq K M H (.str x) (.str x)
 |ty (n:String):Dq K M H (.ty n) (.ty n)
 |tup {a:Addr} {xs:List V} {ds:List D} (h:SqT K H a xs) (r:As K M H xs ds):Dq K M H (.ref a) (.tup ds)
 |lst {a:Addr} {xs:List V} {ds:List D} (h:H a=some (.lst xs)) (n:¬M.mem a) (r:As K M H xs ds):Dq K M H (.ref a) (.lst ds)
 |scr {a:Addr} {ns:List Int} (h:(Rd H a (.lst (ns.map V.int))/\¬M.mem a)∨KL K a (ns.map V.int)):Dq K M H (.ref a) (.scr ns)
 |dct {a:Addr} {kvs:List (Key×V)} {es:List (Key×D)} (h:H a=some (.dK kvs)) (n:¬M.mem a) (r:L6 K M H kvs es):Dq K M H (.ref a) (.dct es)
 |ref {a:Addr} {n:Nat} (h:M.cel[n]?=some a):Dq K M H (.ref a) (.ref n)
inductive As(K:PySem.W.Frag)(M:Ms)(H:Hp):List V->List D->Prop
 |nil:As K M H [] []
 |cons {v:V} {d:D} {vs:List V} {ds:List D} (h:Dq K M H v d) (t:As K M H vs ds):As K M H (v::vs) (d::ds)
inductive L6(K:PySem.W.Frag)(M:Ms)(H:Hp):List (Key×V)->List (Key×D)->Prop
 |nil:L6 K M H [] []
 |cons {k:Key} {v:V} {d:D} {vs:List (Key×V)} {ds:List (Key×D)} (h:Dq K M H v d) (t:L6 K M H vs ds):L6 K M H ((k,v)::vs) ((k,d)::ds)
end
def MOk(M:Ms)(H:Hp):Prop:=∀a,M.mem a->(∃xs,H a=some (.lst xs))∨∃kvs,H a=some (.dK kvs)
structure Sp1(M:Ms)(H:Hp)(M':Ms)(H':Hp):Prop where
 mo:MOk M H
 pre:M.cel <+: M'.cel
 fresh:∀a,M'.mem a->M.mem a∨H a=none
 keep:∀a o,H a=some o->¬M.mem a->H' a=some o
structure Gr(M:Ms)(H:Hp)(M':Ms)(H':Hp):Prop where
 mo:MOk M H
 pre:M.cel <+: M'.cel
 tmp:M'.tmp=M.tmp
 fresh:∀a,a∈M'.cel->a∈M.cel∨H a=none
 keep:∀a o,H a=some o->a∉M.cel->H' a=some o
 some:∀a,H a≠none->H' a≠none
section
variable{K:PySem.W.Frag}{M M' M2:Ms}{H H' H2:Hp}
theorem MOk.some(mo:MOk M H){a:Addr}(h:M.mem a):H a≠none:=fun z=>by
 rcases mo a h with⟨xs,e⟩|⟨xs,e⟩<;>(rw[e]at z;cases z)
theorem Gr.st(g:Gr M H M' H'):Sp1 M H M' H':=⟨g.mo,g.pre,fun a z=>z.elim (fun z=>(g.fresh a z).imp .inl id) fun z=>.inl (.inr (by rw[←g.tmp];exact z)),fun a o e n=>g.keep a o e fun z=>n (.inl z)⟩
theorem Gr.refl(mo:MOk M H):Gr M H M H:=⟨mo,List.prefix_rfl,rfl,fun _ z=>.inl z,fun _ _ e _=>e,fun _ e=>e⟩
theorem Gr.none(g:Gr M H M' H'){a:Addr}(h:H' a=none):H a=none:=by
 cases e:H a with
 |none=>rfl
 |some o=>exact absurd h (g.some a (by rw[e];intro z;cases z))
theorem Gr.trans(h:Gr M H M' H')(g:Gr M' H' M2 H2):Gr M H M2 H2:=
 ⟨h.mo,h.pre.trans g.pre,g.tmp.trans h.tmp,fun a z=>(g.fresh a z).elim (h.fresh a) fun z=>.inr (h.none z),fun a o e n=>g.keep a o (h.keep a o e n) (fun z=>by
  rcases h.fresh a z with z|z
  ·exact n z
  ·rw[e]at z;cases z),fun a e=>g.some a (h.some a e)⟩
theorem Gr.grow(mo:MOk M H)(k:∀a o,H a=Option.some o->H' a=Option.some o):Gr M H M H':=
 ⟨mo,List.prefix_rfl,rfl,fun _ z=>.inl z,fun b u eb _=>k b u eb,fun b eb z=>by
  cases h:H b with
  |none=>exact eb h
  |some o=>rw[k b o h]at z;cases z⟩
theorem Jb{α:Type}{xs ys:List α}(h:xs <+: ys){n:Nat}{a:α}(e:xs[n]?=Option.some a):ys[n]?=Option.some a:=by
 obtain⟨zs,rfl⟩:=h
 rw[List.getElem?_append_left (List.getElem?_eq_some_iff.mp e).1]
 exact e
theorem VJ{a:Addr}{xs:List V}(h:SqT K H a xs)(k:∀b o,H b=Option.some o->(∀ys,o≠.lst ys)->(∀ys,o≠.dK ys)->H' b=Option.some o):SqT K H' a xs:=by
 rcases h with h|h
 ·rcases h with h|⟨o,h⟩
  ·exact .inl (.inl (k _ _ h (fun ys z=>by cases z) fun ys z=>by cases z))
  ·exact .inl (.inr ⟨o,k _ _ h (fun ys z=>by cases z) fun ys z=>by cases z⟩)
 ·exact .inr h
theorem Sp1.sqT(g:Sp1 M H M' H'){a:Addr}{xs:List V}(h:SqT K H a xs):SqT K H' a xs:=VJ h fun b o e n1 n2=>g.keep b o e fun z=>by
 rcases g.mo b z with⟨ys,q⟩|⟨ys,q⟩
 ·exact n1 ys (Option.some.inj (e.symm.trans q))
 ·exact n2 ys (Option.some.inj (e.symm.trans q))
theorem Sp1.nm(g:Sp1 M H M' H'){a:Addr}{o:HO}(e:H a=Option.some o)(n:¬M.mem a):¬M'.mem a:=fun z=>by
 rcases g.fresh _ z with z|z
 ·exact n z
 ·rw[z]at e;cases e
mutual
theorem Dq.step(g:Sp1 M H M' H'):∀{v:V} {d:D},Dq K M H v d->Dq K M' H' v d
  |_,_,.non=>.non
  |_,_,.bl b=>.bl b
  |_,_,.int b=>.int b
  |_,_,.str b=>.str b
  |_,_,.ty b=>.ty b
  |_,_,.tup h r=>.tup (g.sqT h) (As.step g r)
  |_,_,.lst (a:=a) (xs:=xs) h n r=>.lst (g.keep _ _ h n) (g.nm h n) (As.step g r)
  | _, _, .scr (a := a) (ns := ns) h => by
    rcases h with⟨h,n⟩|h
    · rcases h with h | ⟨o, h⟩
      ·exact .scr (.inl ⟨.inl (g.keep _ _ h n),g.nm h n⟩)
      ·exact .scr (.inl ⟨.inr ⟨o,g.keep _ _ h n⟩,g.nm h n⟩)
    ·exact .scr (.inr h)
  |_,_,.dct (a:=a) h n r=>.dct (g.keep _ _ h n) (g.nm h n) (L6.step g r)
  |_,_,.ref h=>.ref (Jb g.pre h)
theorem As.step(g:Sp1 M H M' H'):∀{v:List V} {d:List D},As K M H v d->As K M' H' v d
 |_,_,.nil=>.nil
 |_,_,.cons h t=>.cons (Dq.step g h) (As.step g t)
theorem L6.step(g:Sp1 M H M' H'):∀{v:List (Key×V)} {d:List (Key×D)},L6 K M H v d->L6 K M' H' v d
 |_,_,.nil=>.nil
 |_,_,.cons h t=>.cons (Dq.step g h) (L6.step g t)
end
theorem As.length:∀{v:List V} {d:List D},As K M H v d->v.length=d.length
 |_,_,.nil=>rfl
 |_,_,.cons _ t=>by simp[As.length t]
theorem As.get:∀{v:List V} {d:List D} {i:Nat} {y:D},As K M H v d->d[i]?=Option.some y->∃x,v[i]?=Option.some x/\Dq K M H x y
  |_,_,i,y,.nil,e=>by simp at e
  |_,_,0,y,.cons h t,e=>by simp at e;subst e;exact⟨_,rfl,h⟩
  | _, _, i + 1, y, .cons h t, e => by
    obtain⟨x,h1,h2⟩:=As.get (i:=i) t (by simpa using e)
    exact⟨x,by simpa using h1,h2⟩
theorem As.append:∀{v v':List V} {d d':List D},As K M H v d->As K M H v' d'->As K M H (v++v') (d++d')
 |_,_,_,_,.nil,s=>s
 |_,_,_,_,.cons h t,s=>.cons h (As.append t s)
theorem As.take:∀{v:List V} {d:List D} (n:Nat),As K M H v d->As K M H (v.take n) (d.take n)
 |_,_,0,_=>.nil
 |_,_,_+1,.nil=>.nil
 |_,_,n+1,.cons h t=>.cons h (As.take n t)
theorem As.drop:∀{v:List V} {d:List D} (n:Nat),As K M H v d->As K M H (v.drop n) (d.drop n)
 |_,_,0,r=>r
 |_,_,_+1,.nil=>.nil
 |_,_,n+1,.cons _ t=>As.drop n t
theorem As.set{x:V}{y:D}(r:Dq K M H x y):∀{v:List V} {d:List D} (i:Nat),As K M H v d->As K M H (v.set i x) (d.set i y)
 |_,_,_,.nil=>.nil
 |_,_,0,.cons _ t=>.cons r t
 |_,_,i+1,.cons q t=>.cons q (As.set r i t)
end
abbrev En:=List (Option D)
abbrev Sg:=List (Option V)
structure EnR(K:PySem.W.Frag)(M:Ms)(E:En)(σ:Sg)(H:Hp):Prop where
 len:E.length=σ.length
 val:∀(i:Nat) (d:D),E[i]?=some (some d)->∃v,σ[i]?=some (some v)/\Dq K M H v d
def cS(K:PySem.W.Frag)(M:Ms)(H:Hp)(a:Addr):Cl->Prop
 | .lst ds=>∃xs,H a=some (.lst xs)/\As K M H xs ds
 | .dct es=>∃kvs,H a=some (.dK kvs)/\L6 K M H kvs es
structure StR(K:PySem.W.Frag)(M:Ms)(S:Sto)(H:Hp):Prop where
 mo:MOk M H
 nd:M.cel.Nodup
 nt:∀a∈M.tmp,a∉M.cel
 len:M.cel.length=S.length
 cell:∀(n:Nat) (a:Addr) (c:Cl),M.cel[n]?=some a->S[n]?=some c->cS K M H a c
section
variable{K:PySem.W.Frag}{M M' M2:Ms}{H H' H2:Hp}{E:En}{σ:Sg}{S:Sto}
theorem EnR.step(r:EnR K M E σ H)(g:Sp1 M H M' H'):EnR K M' E σ H':=⟨r.len,fun i d e=>by
 obtain⟨v,h1,h2⟩:=r.val i d e
 exact⟨v,h1,h2.step g⟩⟩
theorem StR.grow(r:StR K M S H)(k:∀a o,H a=some o->H' a=some o):StR K M S H':=by
 have g:Sp1 M H M H':=⟨r.mo,List.prefix_rfl,fun _ z=>.inl z,fun a o e _=>k a o e⟩
 refine⟨fun a z=>(r.mo a z).imp (fun⟨xs,e⟩=>⟨xs,k _ _ e⟩) fun⟨xs,e⟩=>⟨xs,k _ _ e⟩,r.nd,r.nt,r.len,fun n a c h1 h2=>?_⟩
 have q:=r.cell n a c h1 h2
 cases c with
 |lst ds=>obtain⟨xs,e,rr⟩:=q;exact⟨xs,k _ _ e,rr.step g⟩
 |dct ds=>obtain⟨xs,e,rr⟩:=q;exact⟨xs,k _ _ e,rr.step g⟩
theorem StR.chg(r:StR K M S H){n:Nat}{a:Addr}{ds es:List D}{ys:List V}(h1:M.cel[n]?=some a)(h2:S[n]?=some (.lst ds))(hy:As K M H ys es):StR K M (S.set n (.lst es)) (upd H a (.lst ys))/\Gr M H M (upd H a (.lst ys)):=by
 have ha:a∈M.cel:=List.mem_of_getElem? h1
 have hl:n<S.length:=(List.getElem?_eq_some_iff.mp h2).1
 have g:Gr M H M (upd H a (.lst ys)):=⟨r.mo,List.prefix_rfl,rfl,fun _ z=>.inl z,fun b o eb nb=>by rw[BD (fun z=>nb (by rw[z];exact ha))];exact eb,fun b eb=>by
  by_cases h:b=a
  ·subst h;rw[CH];intro z;cases z
  ·rw[BD h];exact eb⟩
 refine⟨⟨fun b z=>?_,r.nd,r.nt,by rw[List.length_set];exact r.len,fun m b c e1 e2=>?_⟩,g⟩
 ·by_cases h:b=a
  ·subst h;exact .inl ⟨ys,CH⟩
  ·rw[BD h];exact r.mo b z
 ·by_cases h:n=m
  ·subst h
   rw[h1]at e1;cases e1
   rw[List.getElem?_set_self hl]at e2;cases e2
   exact⟨ys,CH,hy.step g.st⟩
  ·rw[List.getElem?_set_ne h]at e2
   have hb:b≠a:=fun z=>by
    subst z
    exact h ((List.getElem?_inj (List.getElem?_eq_some_iff.mp h1).1 r.nd).mp (h1.trans e1.symm))
   have q:=r.cell m b c e1 e2
   cases c with
   |lst fs=>obtain⟨xs,e,rr⟩:=q;exact⟨xs,by rw[BD hb];exact e,rr.step g.st⟩
   |dct fs=>obtain⟨xs,e,rr⟩:=q;exact⟨xs,by rw[BD hb];exact e,rr.step g.st⟩
theorem StR.cel_new(r:StR K M S H){a:Addr}{xs:List V}{ds:List D}(e:H a=none)(k:∀b o,H b=some o->H' b=some o)(ea:H' a=some (.lst xs))(rr:As K M H xs ds):StR K ⟨M.cel++[a],M.tmp⟩ (S++[.lst ds]) H'/\Gr M H ⟨M.cel++[a],M.tmp⟩ H':=by
  have g:Gr M H ⟨M.cel++[a],M.tmp⟩ H':=⟨r.mo,List.prefix_append _ _,rfl,fun b z=>by
    rcases List.mem_append.mp z with z|z
    ·exact .inl z
    ·simp at z;subst z;exact .inr e,fun b o eb _=>k b o eb,fun b eb z=>by
    cases h:H b with
    |none=>exact eb h
    |some o=>rw[k b o h]at z;cases z⟩
  have na:¬M.mem a:=fun z=>r.mo.some z e
  refine⟨⟨fun b z=>?_,?_,fun b hb z=>?_,by simp[r.len],fun m b c e1 e2=>?_⟩,g⟩
  · have z' : M.mem b ∨ b = a := by
      rcases z with z|z
      · rcases List.mem_append.mp z with z | z
        ·exact .inl (.inl z)
        ·simp at z;exact .inr z
      ·exact .inl (.inr z)
    rcases z' with z|z
    ·exact(r.mo b z).imp (fun⟨xs,e⟩=>⟨xs,k _ _ e⟩) fun⟨xs,e⟩=>⟨xs,k _ _ e⟩
    ·subst z;exact .inl ⟨xs,ea⟩
  · rw [List.nodup_append]
    refine⟨r.nd,by simp,fun x hx y hy=>?_⟩
    simp at hy;subst hy
    exact fun z=>na (.inl (by rw[←z];exact hx))
  · rcases List.mem_append.mp z with z | z
    ·exact r.nt b hb z
    ·simp at z;subst z;exact na (.inr hb)
  · by_cases h : m < S.length
    · rw [List.getElem?_append_left (by rw [r.len]; exact h)] at e1
      rw[List.getElem?_append_left h]at e2
      have q:=r.cell m b c e1 e2
      cases c with
      |lst fs=>obtain⟨xs,e,rr⟩:=q;exact⟨xs,k _ _ e,rr.step g.st⟩
      |dct fs=>obtain⟨xs,e,rr⟩:=q;exact⟨xs,k _ _ e,rr.step g.st⟩
    · have hm : m = S.length := by
        have:=(List.getElem?_eq_some_iff.mp e2).1
        simp at this;omega
      subst hm
      rw[List.getElem?_append_right (by rw[r.len];exact Nat.le_refl _)]at e1
      rw[List.getElem?_append_right (Nat.le_refl _)]at e2
      rw[r.len]at e1
      simp at e1 e2
      subst e1 e2
      exact⟨xs,ea,rr.step g.st⟩
end
abbrev Ev:=En->Sto->Option (D×Sto)
noncomputable def tD(K:PySem.W.Frag)(f:Ev):TE:=fun σ H Q=>∃M E S d S',f E S=some (d,S')/\EnR K M E σ H/\StR K M S H/\∀v H' M',Gr M H M' H'->StR K M' S' H'->Dq K M' H' v d->Q v H'
structure DE(X:Cx)(e:Expr)(f:Ev):Prop where
 pe:PE X e (tD X.K f)
theorem B7{X:Cx}{e:Expr}{t t':TE}(h:PE X e t)(m:∀σ H Q,t' σ H Q->t σ H Q):PE X e t':=fun pins s σ H Q I q=>h pins s σ H Q I (m _ _ _ q)
theorem Ta{X:Cx}{e:Expr}{t t':TT}(h:PT X e t)(m:∀σ H Q,t' σ H Q->t σ H Q):PT X e t':=fun pins s σ H Q I q=>h pins s σ H Q I (m _ _ _ q)
theorem IG{K:PySem.W.Frag}{f:Ev}{σ:Sg}{H:Hp}{Q Q':VK}(h:tD K f σ H Q)(m:∀v H',Q v H'->Q' v H'):tD K f σ H Q':=by
 obtain⟨M,E,S,d,S',e,r,st,q⟩:=h
 exact⟨M,E,S,d,S',e,r,st,fun v H' M' g s r=>m _ _ (q v H' M' g s r)⟩
theorem BB{α β:Type}{o:Option α}{k:α->Option β}{y:β}(e:o.bind k=some y):∃x,o=some x/\k x=some y:=by
 cases o with
 |none=>cases e
 |some x=>exact⟨x,rfl,e⟩
theorem Jo{α β:Type}{o:Option α}{k:α->β}{y:β}(e:o.map k=some y):∃x,o=some x/\k x=y:=by
 cases o with
 |none=>cases e
 |some x=>cases e;exact⟨x,rfl,rfl⟩
noncomputable def fz:Wv->D
 | .val d=>d
 | .own ds=>.lst ds
noncomputable def at?(E:En)(i:Nat):Option D:=(E[i]?).join
theorem at?_some{E:En}{i:Nat}{w:D}(h:at? E i=some w):E[i]?=some (some w):=by
 unfold at? at h
 cases e:E[i]? with
 |none=>rw[e]at h;cases h
 |some q=>rw[e]at h;exact congrArg some h
noncomputable def evs:List Ev->En->Sto->Option (List D×Sto)
 | [],_,S=>some ([],S)
 |f::fs,E,S=>(f E S).bind fun r=>(evs fs E r.2).map fun q=>(r.1::q.1,q.2)
noncomputable def tDs(K:PySem.W.Frag):List Ev->TA
 | []=>eW
 |f::fs=>aM (tD K f) (tDs K fs)
structure DEs(X:Cx)(es:List Expr)(fs:List Ev):Prop where
 pe:PA X es (tDs X.K fs)
theorem AD{X:Cx}:DEs X [] []:=⟨RL⟩
theorem AA{X:Cx}{e:Expr}{es:List Expr}{f:Ev}{fs:List Ev}(h:DE X e f)(t:DEs X es fs)(hs:starEach (e::es) X.env=(false,eval e X.env)::starEach es X.env:=by rfl):DEs X (e::es) (f::fs):=⟨NM h.pe t.pe hs⟩
section
variable{K:PySem.W.Frag}{M M':Ms}{E:En}{S:Sto}{σ:Sg}{H H':Hp}
theorem Hy:∀{fs:List Ev} {M:Ms} {S:Sto} {ds:List D} {S':Sto} {H:Hp} {Q:List V->Hp->Prop},evs fs E S=some (ds,S')->EnR K M E σ H->StR K M S H->(∀vs H' M',Gr M H M' H'->StR K M' S' H'->As K M' H' vs ds->Q vs H')->tDs K fs σ H Q
  | [],M,S,ds,S',H,Q,e,r,st,q=>by
    cases e
    exact q [] H M (.refl st.mo) st .nil
  | f :: fs, M, S, ds, S', H, Q, e, r, st, q => by
    obtain⟨⟨d,S1⟩,e1,e⟩:=BB e
    obtain⟨⟨es,S2⟩,e2,e⟩:=Jo e
    cases e
    refine⟨M,E,S,d,S1,e1,r,st,fun v H1 M1 g1 st1 d1=>?_⟩
    exact Hy e2 (r.step g1.st) st1 fun vs H2 M2 g2 st2 d2=>q _ _ M2 (g1.trans g2) st2 (.cons (d1.step g2.st) d2)
theorem PK:∀{fs:List Ev} {S:Sto} {ds:List D} {S':Sto},evs fs E S=some (ds,S')->ds.length=fs.length
  | [],_,_,_,e=>by cases e;rfl
  | f :: fs, S, ds, S', e => by
    obtain⟨⟨d,S1⟩,e1,e⟩:=BB e
    obtain⟨⟨es,S2⟩,e2,e⟩:=Jo e
    cases e
    simp[PK e2]
def Sh(K:PySem.W.Frag)(M:Ms)(H:Hp)(v:V):Wv->Prop
 | .val d=>Dq K M H v d
 | .own ds=>∃a xs,v=.ref a/\H a=some (.lst xs)/\As K M H xs ds
inductive Shs(K:PySem.W.Frag)(M:Ms)(H:Hp):List V->List Wv->Prop
 |nil:Shs K M H [] []
 |cons {v:V} {w:Wv} {vs:List V} {ws:List Wv} (h:Sh K M H v w) (t:Shs K M H vs ws):Shs K M H (v::vs) (w::ws)
noncomputable def dr(S:Sto):D->Wv
  | .ref n=>match S[n]? with
    |some (.lst ds)=>.own ds
    |_=>.val (.ref n)
  |d=>.val d
theorem YH(st:StR K M S H){v:V}{d:D}(h:Dq K M H v d):Sh K M H v (dr S d):=by
  cases h with
  | ref h =>
    rename_i a n
    show Sh K M H (.ref a) (match S[n]? with|some (.lst ds)=>.own ds|_=>.val (.ref n))
    split
    · rename_i ds e
      obtain⟨xs,h1,h2⟩:=st.cell n a _ h e
      exact⟨a,xs,rfl,h1,h2⟩
    ·exact .ref h
  |non=>exact .non
  |bl b=>exact .bl b
  |int b=>exact .int b
  |str b=>exact .str b
  |ty b=>exact .ty b
  |tup h r=>exact .tup h r
  |lst h n r=>exact .lst h n r
  |scr h=>exact .scr h
  |dct h n r=>exact .dct h n r
theorem Wn(st:StR K M S H):∀{vs:List V} {ds:List D},As K M H vs ds->Shs K M H vs (ds.map (dr S))
 |_,_,.nil=>.nil
 |_,_,.cons h t=>.cons (YH st h) (Wn st t)
def NwR(K:PySem.W.Frag)(M:Ms)(H H':Hp)(v:V):Wv->Prop
 | .val d=>Dq K M H' v d
 | .own ds=>∃a xs,v=.ref a/\H a=none/\H' a=some (.lst xs)/\As K M H xs ds
structure Nw(K:PySem.W.Frag)(M:Ms)(H H':Hp)(v:V)(w:Wv):Prop where
 grow:∀a o,H a=some o->H' a=some o
 rel:NwR K M H H' v w
theorem Nw.same{v:V}{d:D}(mo:MOk M H)(h:Dq K M H v d):Nw K M H H v (.val d):=⟨fun _ _ e=>e,h⟩
theorem Hd{a:Addr}{o:HO}(e:H a=none):∀b u,H b=some u->upd H a o b=some u:=fun b u eb=>by rw[BD (fun z=>by subst z;rw[e]at eb;cases eb)];exact eb
theorem Nw.lst{a:Addr}{xs:List V}{ds:List D}(mo:MOk M H)(e:H a=none)(h:As K M H xs ds):Nw K M H (upd H a (.lst xs)) (.ref a) (.own ds):=⟨Hd e,a,xs,rfl,e,CH,h⟩
theorem Nw.tup{a:Addr}{xs:List V}{ds:List D}(mo:MOk M H)(e:H a=none)(h:As K M H xs ds):Nw K M H (upd H a (.tup xs)) (.ref a) (.val (.tup ds)):=⟨Hd e,.tup (.of CH) (h.step (Gr.grow mo (Hd e)).st)⟩
noncomputable def fin:Bool->Wv->Sto->Option (D×Sto)
 |_,.val d,S=>some (d,S)
 |false,.own ds,S=>some (.lst ds,S)
 |true,.own ds,S=>some (.ref S.length,S++[.lst ds])
theorem Nw.fin{c:Bool}{v:V}{w:Wv}{d:D}{S':Sto}(n:Nw K M H H' v w)(st:StR K M S H)(e:fin c w S=some (d,S')):∃M',Gr M H M' H'/\StR K M' S' H'/\Dq K M' H' v d:=by
  cases w with
  | val d' =>
    cases e
    exact⟨M,.grow st.mo n.grow,st.grow n.grow,n.rel⟩
  | own ds =>
    obtain⟨a,xs,rfl,h1,h2,h3⟩:=n.rel
    cases c with
    | false =>
      cases e
      exact⟨M,.grow st.mo n.grow,st.grow n.grow,.lst h2 (fun z=>st.mo.some z h1) (h3.step (Gr.grow st.mo n.grow).st)⟩
    | true =>
      cases e
      obtain⟨s1,g1⟩:=st.cel_new h1 n.grow h2 h3
      refine⟨_,g1,s1,.ref ?_⟩
      rw[←st.len]
      exact List.getElem?_concat_length
abbrev Op1:=Wv->Option Wv
abbrev Op2:=Wv->Wv->Option Wv
abbrev OpN:=List Wv->Option Wv
noncomputable def rOp(K:PySem.W.Frag)(op:Op2):R2:=fun x y H Q=>∃M w1 w2 r,op w1 w2=some r/\MOk M H/\Sh K M H x w1/\Sh K M H y w2/\∀v H',Nw K M H H' v r->Q v H'
def rUn(K:PySem.W.Frag)(op:Op1):V->Hp->VK->Prop:=fun x H Q=>∃M w r,op w=some r/\MOk M H/\Sh K M H x w/\∀v H',Nw K M H H' v r->Q v H'
def rN(K:PySem.W.Frag)(op:OpN):List V->Hp->VK->Prop:=fun xs H Q=>∃M ws r,op ws=some r/\MOk M H/\Shs K M H xs ws/\∀v H',Nw K M H H' v r->Q v H'
noncomputable def PF(c:Bool)(op:OpN)(fs:List Ev):Ev:=fun E S=>(evs fs E S).bind fun r=>(op (r.1.map (dr r.2))).bind fun w=>fin c w r.2
abbrev eOp:=PF false
abbrev Yf:=PF true
noncomputable def o1(op:Op1):OpN| [a]=>op a|_=>none
noncomputable def o2(op:Op2):OpN| [a,b]=>op a b|_=>none
theorem MO{c:Bool}{op:OpN}{fs:List Ev}{Q:VK}{d:D}{S':Sto}(e:PF c op fs E S=some (d,S'))(r:EnR K M E σ H)(st:StR K M S H)(h:∀v H' M',Gr M H M' H'->StR K M' S' H'->Dq K M' H' v d->Q v H'):tDs K fs σ H fun vs H1=>rN K op vs H1 Q:=by
 obtain⟨⟨ds,S1⟩,e1,e⟩:=BB e
 obtain⟨w,e2,e⟩:=BB e
 refine Hy e1 r st fun vs H1 M1 g1 st1 d1=>⟨M1,_,w,e2,st1.mo,Wn st1 d1,fun v H2 n=>?_⟩
 obtain⟨M2,g2,st2,d2⟩:=n.fin st1 e
 exact h v H2 M2 (g1.trans g2) st2 d2
end
theorem Yy{K:PySem.W.Frag}{f:Op2}{x y:V}{H:Hp}{Q:VK}(h:rN K (o2 f) [x,y] H Q):rOp K f x y H Q:=by
  obtain⟨M,ws,r,e,mo,s,q⟩:=h
  cases s with
  | cons h1 s =>
    cases s with
    | cons h2 s =>
      cases s
      exact⟨M,_,_,r,e,mo,h1,h2,q⟩
theorem ZD{K:PySem.W.Frag}{f:Op1}{x:V}{H:Hp}{Q:VK}(h:rN K (o1 f) [x] H Q):rUn K f x H Q:=by
  obtain⟨M,ws,r,e,mo,s,q⟩:=h
  cases s with
  | cons h1 s =>
    cases s
    exact⟨M,_,r,e,mo,h1,q⟩
theorem QO{K:PySem.W.Frag}{c:Bool}{f:Op2}{fa fb:Ev}{σ:Sg}{H:Hp}{Q:VK}(h:tD K (PF c (o2 f) [fa,fb]) σ H Q):tOp (rOp K f) (tD K fa) (tD K fb) σ H Q:=by
 obtain⟨M,E,S,d,S',e,r,st,q⟩:=h
 have z:tD K fa σ H fun x H1=>tD K fb σ H1 fun y H2=>rN K (o2 f) [x,y] H2 Q:=MO (Q:=Q) e r st q
 exact IG z fun x H1 z1=>IG z1 fun y H2 z2=>Yy z2
theorem Ze{K:PySem.W.Frag}{c:Bool}{f:Op1}{fa:Ev}{σ:Sg}{H:Hp}{Q:VK}(h:tD K (PF c (o1 f) [fa]) σ H Q):tUn (rUn K f) (tD K fa) σ H Q:=by
 obtain⟨M,E,S,d,S',e,r,st,q⟩:=h
 have z:tD K fa σ H fun x H1=>rN K (o1 f) [x] H1 Q:=MO (Q:=Q) e r st q
 exact IG z fun x H1 z1=>ZD z1
section
variable{X:Cx}{a b e:Expr}{es:List Expr}{fa fb:Ev}{fs:List Ev}{pos p:Pos}{c:Bool}
theorem Ac{op:Operator}{f:Op2}(ho:OpR X (binaryOp op) (rOp X.K f))(ha:DE X a fa)(hb:DE X b fb):DE X (.BinOp a op b pos) (PF c (o2 f) [fa,fb]):=⟨B7 (cu ho ha.pe hb.pe) fun _ _ _ h=>QO h⟩
theorem Hx{op:CmpOp}{f:Op2}(ho:OpR X (compareOp op) (rOp X.K f))(ha:DE X a fa)(hb:DE X b fb)(hm:behindInMarks op b=false:=by rfl):DE X (.Compare a [op] [b] pos) (PF c (o2 f) [fa,fb]):=⟨B7 (Xz ho ha.pe hb.pe hm) fun _ _ _ h=>QO h⟩
theorem PX{op:UnaryOp}{f:Op1}(ho:UnR X (unaryOp op) (rUn X.K f))(ha:DE X a fa):DE X (.UnaryOp op a pos) (PF c (o1 f) [fa]):=⟨B7 (ck ho ha.pe) fun _ _ _ h=>Ze h⟩
theorem AM{f:Op2}(hr:IxR X (rOp X.K f))(ha:DE X a fa)(hb:DE X b fb)(hs:Rq b:=by exact fun _ _=>rfl):DE X (.Subscript a b pos) (PF c (o2 f) [fa,fb]):=⟨B7 (c8 hr ha.pe hb.pe hs) fun _ _ _ h=>QO h⟩
theorem A6{id:String}{x:Str}{f:OpN}(hc:Eb X (.builtin id) (rN X.K f))(hg:Gl X x)(hm:X.mg x=none)(hv:bootBuiltins x=some (.builtin id))(ha:DEs X (e::es) fs)(hn:x≠ "__name__":=by decide)(hdb:(x==("__debug__":Str))=false:=by decide)
  (he:starEach (e::es) X.env=(false,eval e X.env)::starEach es X.env:=by rfl) (hpl:(backTo pos (starEach es X.env)).any (·.1)=false:=by rfl):DE X (.Call (.Name x p) (e::es) [] pos) (PF c f fs):=⟨
 B7 (VA hc hg hm hv ha.pe hn hdb he hpl) fun _ _ _ h=>by
  obtain⟨M,E,S,d,S',e,r,st,q⟩:=h
  exact MO e r st q⟩
theorem An{T:String}{x:Str}{f:OpN}(hc:Eb X (.type T) (rN X.K f))(hg:Gl X x)(hm:X.mg x=none)(hv:bootBuiltins x=some (.type T))(ha:DEs X (e::es) fs)(hn:x≠ "__name__":=by decide)(hdb:(x==("__debug__":Str))=false:=by decide)
  (he:starEach (e::es) X.env=(false,eval e X.env)::starEach es X.env:=by rfl) (hpl:(backTo pos (starEach es X.env)).any (·.1)=false:=by rfl):DE X (.Call (.Name x p) (e::es) [] pos) (PF c f fs):=⟨
 B7 (Ru hc hg hm hv ha.pe hn hdb he hpl) fun _ _ _ h=>by
  obtain⟨M,E,S,d,S',e,r,st,q⟩:=h
  exact MO e r st q⟩
noncomputable def eC(d:D):Ev:=fun _ S=>some (d,S)
theorem Od{v:V}{d:D}(h:PE X e (tC v))(r:∀K M H,Dq K M H v d):DE X e (eC d):=⟨B7 h fun σ H Q z=>by
 obtain⟨M,E,S,w,S',e,rr,st,q⟩:=z
 cases e
 exact q _ _ M (.refl st.mo) st (r _ _ _)⟩
theorem AE{i:Int}{j:Nat}:DE X (.Constant (.int i) j pos) (eC (.int i)):=Od Z3 fun _ _ _=>.int _
theorem RN{i:Bool}{j:Nat}:DE X (.Constant (.bool i) j pos) (eC (.bl i)):=Od eM fun _ _ _=>.bl _
theorem BY{i:Str}{j:Nat}:DE X (.Constant (.str i) j pos) (eC (.str i)):=Od ZT fun _ _ _=>.str _
theorem Wa{j:Nat}:DE X (.Constant .none j pos) (eC .non):=Od ZE fun _ _ _=>.non
noncomputable def eV(i:Nat):Ev:=fun E S=>(at? E i).map fun d=>(d,S)
theorem AB(i:Nat){x:Str}(hN:X.N[i]?=some x:=by rfl)(hv:Vis X.env.scope x:=by first|exact Or.inl rfl|exact Or.inr (Or.inl rfl)|exact Or.inr (Or.inr rfl))(hd:(x==("__debug__":Str))=false:=by decide)
  (hcd:(x==("__classdict__":Str))=false:=by decide):DE X (.Name x pos) (eV i):=⟨B7 (aK hN hv hd hcd) fun σ H Q z=>by
 obtain⟨M,E,S,d,S',e,r,st,q⟩:=z
 obtain⟨d',e1,e⟩:=Jo e
 cases e
 obtain⟨v,hv,rd⟩:=r.val i d (at?_some e1)
 exact⟨v,hv,q v H M (.refl st.mo) st rd⟩⟩
end
theorem Gf:fillsNumberSlot (.type "tuple") "mul"=pure false:=
 fillsNumberSlot_seq (id:="tuple.__mul__") (r:=some (.builtin "tuple.__rmul__")) F.slot_tuple_mul.lookup (by decide+kernel) F.slot_tuple_rmul.lookup (by decide+kernel)
theorem KI:seqRepeat? (.type "tuple")=pure (some (.builtin "tuple.__mul__")):=by
 unfold seqRepeat?
 rw[seqSlot_of (T:="tuple") (name:="__mul__") (id:="tuple.__mul__") F.slot_tuple_mul.lookup (by decide+kernel),seqSlot_of (T:="tuple") (name:="__rmul__") (id:="tuple.__rmul__") F.slot_tuple_rmul.lookup (by decide+kernel)]
 rfl
theorem Hr(a:Int)(t:Tok)(l:Addr)(items:Array Value)(n:Nat)(dd:Option Addr)(sl:Array (Option Value)):
  Meets (Builtin.«int.__rmul__» ⟨[.int a t,.ref l],[]⟩) (fun _ R s=>s.heap.get? l=some {cls:=.type "tuple",dict:=dd,data:=.seq items n,slots:=sl}/\R (.ok (.ret Value.notImplemented)) s):=
 .of_wp fun prog w A R s h=>by obtain⟨hp,g,d,tk,os⟩:=s;obtain⟨hl,h⟩:=h;wp_walk;exact⟨_,rfl,h⟩
theorem RH(its:List Value)(m:Nat):List.foldl (fun x1 x2=>x1++x2) #[] (List.replicate m its.toArray)=(List.replicate m its).flatten.toArray:=by
 have:=foldl_rep its m []
 rw[List.nil_append]at this
 exact this
theorem X9{X:Cx}:OpR X (binaryOp .Mult) (fun x y H Q=>∃a xs k,x=.ref a/\y=.int k/\SqT X.K H a xs/\xs≠[]/\1≤k/\xs.length*k.toNat≤sizeLine/\(k=1->Q (.ref a) H)/\(k≠1->∀p,H p=none->Q (.ref p) (upd H p (.tup (List.replicate k.toNat xs).flatten)))):=by
  intro pins s σ H x y v u Q I rx ry h
  obtain⟨a,xs,k,rfl,rfl,hx,hne,hk,hz,q1,q2⟩:=h
  cases rx
  obtain⟨t,rfl⟩:=ry
  obtain⟨its,r,⟨⟨c,dd,data,sl⟩,ho,hc,n,hd⟩,hzz⟩:=I.tuple hx
  simp only at hc hd
  subst hc hd
  have hl:=r.length
  have hsz:its.toArray.size=xs.length:=by rw[List.size_toArray];exact hl.symm
  have hpos:0<xs.length:=List.length_pos_iff.mpr hne
  have hkl:k.toNat≤sizeLine:=Nat.le_trans (Nat.le_mul_of_pos_left _ hpos) hz
  have hk63:k<2^63:=by
    have:(sizeLine:Nat)<2^63:=by decide
    omega
  refine wpAny_binaryOp_repeat_ref (T:="tuple") (U:="int") (by decide) ⟨_,ho,rfl⟩ (fun s'=>typeIs_int s' k t) Gf F.fills_int_mul F.slot_int_rmul KI F.slot_int_index.lookup
    (call_meets F.slot_int_rmul (typeIs_int s k t) F.entry_int_rmul (F.args_int_rmul_2 _ _) (Hr k t a its.toArray n dd sl) ⟨ho,rfl,⟨_,ho,rfl⟩,?_⟩)
  refine wpAny_call_entry F.slot_tuple_mul ⟨_,ho,rfl⟩ F.entry_tuple_mul ?_ (F.args_tuple_mul_2 _ _)
  unfold Builtin.«tuple.__mul__»
  wp_walk using AutoSeq1.wpAny_loadPart' ho
  rw [if_neg (show ¬ (decide (k < -2 ^ 63) || decide (k ≥ 2 ^ 63)) = true by
    rw[Bool.or_eq_true]
    rintro (z|z)
    ·have:=of_decide_eq_true z;omega
    ·have:=of_decide_eq_true z;omega)]
  wp_walk using AutoSeq1.wpAny_loadPart' ho
  by_cases h1:k=1
  · subst h1
    rw[if_pos (show(its.toArray.isEmpty||(1:Int)==1)=true by simp)]
    wp_walk using AutoSeq1.wpAny_loadPart' ho
    exact⟨_,rfl,.ref a,H,I,rfl,q1 rfl⟩
  · have hemp : its.toArray.isEmpty = false := by
      cases its with
      |nil=>rw[List.length_nil]at hl;omega
      |cons b bs=>rfl
    rw[if_neg (show¬(its.toArray.isEmpty||k==1)=true by rw[hemp];simpa using h1)]
    wp_walk using AutoSeq1.wpAny_loadPart' ho
    have hmul:((its.toArray.size:Int)*k)=((xs.length*k.toNat:Nat):Int):=by
      rw[hsz,Int.natCast_mul]
      congr 1
      omega
    rw [if_neg (show ¬ (decide (k ≤ 0) || its.toArray.isEmpty) = true by
      rw[hemp,Bool.or_false]
      intro z
      have:=of_decide_eq_true z
      omega)]
    wp_walk
    rw [if_neg (show ¬ ((its.toArray.size : Int) * k > (2 ^ 63 - 1) / 8) by
      rw[hmul]
      have:(sizeLine:Nat)≤(2^63-1) / 8:=by decide
      omega)]
    wp_walk
    rw [if_neg (show ¬ Builtin.Tuple.tupleTooMany ((its.toArray.size : Int) * k) = true by
      unfold Builtin.Tuple.tupleTooMany
      rw[hmul]
      intro z
      have:=of_decide_eq_true z
      omega)]
    rw[RH]
    wp_walk
    have hlen:(List.replicate k.toNat its).flatten.length≤sizeLine:=by rw[len_rep,Nat.mul_comm,←hl];exact hz
    rw[if_neg (show¬((List.replicate k.toNat its).flatten.toArray.size>sizeLine) by rw[List.size_toArray];omega)]
    wp_walk
    refine⟨_,rfl,.ref _,_,I.laid (o:=.tup (List.replicate k.toNat xs).flatten) (t':=s.toks) (fun b ob q=>Heap.get?_push_of_some _ q) (Nat.le_refl _) ?_,rfl,q2 h1 _ (I.hok.fresh (Nat.le_refl _))⟩
    exact⟨by rw[len_rep,Nat.mul_comm];exact hz,_,r.rep k.toNat,PyProof.Rows.IsTup.new _ _⟩
mutual
noncomputable def D.py:D->PyData
 | .non=>.none| .bl b=>.bool b| .int i=>.int i| .str x=>.str x| .ty _=>.none
 | .tup ds=>.tuple (D.pys ds)| .lst ds=>.list (D.pys ds)| .dct _=>.none| .scr _=>.none| .ref _=>.none
noncomputable def D.pys:List D->List PyData
 | []=>[]
 |d::ds=>D.py d::D.pys ds
end
mutual
noncomputable def D.lay:D->Bool
 | .non=>true| .bl _=>true| .int _=>true| .str x=>PySem.PyData.strOk x| .ty _=>false| .dct _=>false| .scr _=>false| .ref _=>false
 | .tup ds=>D.lays ds| .lst ds=>D.lays ds
noncomputable def D.lays:List D->Bool
 | []=>true
 |d::ds=>D.lay d && D.lays ds
end
mutual
theorem HM:∀{d:D},d.lay=true->d.py.canLay0=true
 | .non,_=>rfl
 | .bl _,_=>rfl
 | .int _,_=>rfl
 | .str x,h=>h
 | .ty _,h=>Bool.noConfusion h
 | .dct _,h=>Bool.noConfusion h
 | .scr _,h=>Bool.noConfusion h
 | .ref _,h=>Bool.noConfusion h
 | .tup ds,h=>by show PyData.canLayAll0 (D.pys ds)=true;exact Nj h
 | .lst ds,h=>by show PyData.canLayAll0 (D.pys ds)=true;exact Nj h
theorem Nj:∀{ds:List D},D.lays ds=true->PyData.canLayAll0 (D.pys ds)=true
  | [],_=>rfl
  | d :: ds, h => by
    have h':(D.lay d && D.lays ds)=true:=h
    rw[Bool.and_eq_true]at h'
    show(PyData.canLay0 d.py && PyData.canLayAll0 (D.pys ds))=true
    rw[HM h'.1,Nj h'.2];rfl
end
section
variable{X:Cx}{pins:List (Addr×Obj)}{σ:Sg}{H:Hp}{s:Shared}{M:Ms}
theorem GN(I:Inv X pins σ H s){a:Addr}{xs:List V}(h:Rd H a (.lst xs)):∃its:List Value,Vals xs its/\∃o n,s.heap.get? a=some o/\o.cls=.type "list" /\o.data=.seq its.toArray n:=by
 obtain⟨z,its,n,r,e⟩:=h.ok I.hok
 exact⟨its,r,_,n,e,rfl,rfl⟩
mutual
theorem Dq.reads(I:Inv X pins σ H s):∀{v:V} {d:D} {u:Value},Dq X.K M H v d->RelV v u->d.lay=true->∃as,Reads s.heap u d.py as
  |_,_,_,.non,r,_=>by cases r;exact⟨_,.none⟩
  |_,_,_,.bl b,r,_=>by cases r;exact⟨_,.bool b⟩
  |_,_,_,.int b,r,_=>by obtain⟨t,rfl⟩:=r;exact⟨_,.int b t⟩
  |_,_,_,.str b,r,_=>by obtain⟨t,rfl⟩:=r;exact⟨_,.str b t⟩
  |_,_,_,.ty _,_,h=>Bool.noConfusion h
  |_,_,_,.dct _ _ _,_,h=>Bool.noConfusion h
  |_,_,_,.ref _,_,h=>Bool.noConfusion h
  |_,_,_,.scr _,_,h=>Bool.noConfusion h
  | _, _, _, .tup h rs, r, hl => by
    cases r
    obtain⟨its,rv,⟨o,e,hc,n,hd⟩,_⟩:=I.tuple h
    obtain⟨as,ra⟩:=As.reads I rs rv hl
    exact⟨as,.tuple e hc hd ra⟩
  | _, _, _, .lst h _ rs, r, hl => by
    cases r
    obtain⟨its,rv,o,n,e,hc,hd⟩:=GN I (.inl h)
    obtain⟨as,ra⟩:=As.reads I rs rv hl
    exact⟨_,.list e hc hd ra⟩
theorem As.reads(I:Inv X pins σ H s):∀{vs:List V} {ds:List D} {us:List Value},As X.K M H vs ds->Vals vs us->D.lays ds=true->∃as,ReadsAll s.heap us (D.pys ds) as
  |_,_,_,.nil,r,_=>by cases r;exact⟨_,.nil⟩
  | _, _, _, .cons (d := d) (ds := ds) h t, r, hl => by
    cases r with
    | cons r1 r2 =>
      have hl':(D.lay d && D.lays ds)=true:=hl
      rw[Bool.and_eq_true]at hl'
      obtain⟨as,ra⟩:=Dq.reads I h r1 hl'.1
      obtain⟨bs,rb⟩:=As.reads I t r2 hl'.2
      exact⟨_,.cons ra rb⟩
end
end
noncomputable def deq(a b:D):Bool:=PyData.eqv a.py b.py
noncomputable def Dj(a b:D):Bool:=a.lay && b.lay && decide (min a.py.depth b.py.depth≤60)
noncomputable def wEq:Op2:=fun a b=>if Dj (fz a) (fz b)=true then some (.val (.bl (deq (fz a) (fz b))))else none
noncomputable def wNe:Op2:=fun a b=>if Dj (fz a) (fz b)=true then some (.val (.bl (!deq (fz a) (fz b))))else none
section
variable{X:Cx}
theorem Sh.reads{pins:List (Addr×Obj)}{σ:Sg}{H:Hp}{s:Shared}{M:Ms}{v:V}{u:Value}{w:Wv}(h:Sh X.K M H v w)(I:Inv X pins σ H s)(r:RelV v u)(hl:(fz w).lay=true):∃as,Reads s.heap u (fz w).py as:=by
  cases w with
  |val d=>exact Dq.reads I h r hl
  | own ds =>
    obtain⟨a,xs,rfl,h1,h2⟩:=h
    cases r
    obtain⟨its,rv,o,n,e,hc,hd⟩:=GN I (.inl h1)
    obtain⟨as,ra⟩:=As.reads I h2 rv hl
    exact⟨_,.list e hc hd ra⟩
theorem CF(hu:X.A.units+100<cLine):OpR X (compareOp .Eq) (rOp X.K wEq):=by
 intro pins s σ H x y v u Q I rx ry h
 obtain⟨M,w1,w2,r,e,mo,s1,s2,q⟩:=h
 unfold wEq at e
 split at e
 ·rename_i hk
  unfold Dj at hk
  rw[Bool.and_eq_true,Bool.and_eq_true]at hk
  cases e
  obtain⟨as,ra⟩:=s1.reads I rx hk.1.1
  obtain⟨bs,rb⟩:=s2.reads I ry hk.1.2
  have hd:=of_decide_eq_true hk.2
  exact SeqAt.compareEq_reads ra rb (HM hk.1.1) (HM hk.1.2) (by omega) ⟨.bl _,H,I,rfl,q _ _ (.same mo (.bl _))⟩
 ·cases e
theorem Lx(hu:X.A.units+100<cLine):OpR X (compareOp .NotEq) (rOp X.K wNe):=by
 intro pins s σ H x y v u Q I rx ry h
 obtain⟨M,w1,w2,r,e,mo,s1,s2,q⟩:=h
 unfold wNe at e
 split at e
 ·rename_i hk
  unfold Dj at hk
  rw[Bool.and_eq_true,Bool.and_eq_true]at hk
  cases e
  obtain⟨as,ra⟩:=s1.reads I rx hk.1.1
  obtain⟨bs,rb⟩:=s2.reads I ry hk.1.2
  have hd:=of_decide_eq_true hk.2
  exact SeqAt.compareNe_reads ra rb (HM hk.1.1) (HM hk.1.2) (by omega) ⟨.bl _,H,I,rfl,q _ _ (.same mo (.bl _))⟩
 ·cases e
noncomputable def wI2(f:Int->Int->Option D):Op2
 | .val (.int i),.val (.int j)=>(f i j).map .val
 |_,_=>none
theorem Py{g:Value->Value->Sem Value}{C:Int->Int->Prop}{h:Int->Int->V}{f:Int->Int->Option D}(o:OpR X g (rI C h))(hf:∀i j d,f i j=some d->C i j/\∀K M H,Dq K M H (h i j) d):OpR X g (rOp X.K (wI2 f)):=by
  intro pins s σ H x y v u Q I rx ry hh
  obtain⟨M,w1,w2,r,e,mo,s1,s2,q⟩:=hh
  unfold wI2 at e
  split at e
  · cases s1
    cases s2
    rename_i i j
    cases e1:f i j with
    |none=>rw[e1]at e;cases e
    | some d =>
      rw[e1]at e
      cases e
      obtain⟨c,rd⟩:=hf i j d e1
      exact o pins s σ H _ _ v u Q I rx ry ⟨i,j,rfl,rfl,c,q _ _ (.same mo (rd _ _ _))⟩
  ·cases e
theorem Lj{g:Value->Value->Sem Value}{h:Int->Int->V}{f:Int->Int->Option D}(o:OpR X g (rI0 h))(hf:∀i j d,f i j=some d->∀K M H,Dq K M H (h i j) d):OpR X g (rOp X.K (wI2 f)):=by
  intro pins s σ H x y v u Q I rx ry hh
  obtain⟨M,w1,w2,r,e,mo,s1,s2,q⟩:=hh
  unfold wI2 at e
  split at e
  · cases s1
    cases s2
    rename_i i j
    cases e1:f i j with
    |none=>rw[e1]at e;cases e
    | some d =>
      rw[e1]at e
      cases e
      exact o pins s σ H _ _ v u Q I rx ry ⟨i,j,rfl,rfl,q _ _ (.same mo (hf i j d e1 _ _ _))⟩
  ·cases e
noncomputable def Ly:Op2:=wI2 fun i j=>some (.int (i-j))
noncomputable def Wc:Nat:=2^60000
noncomputable def Er:Nat:=2^8000
noncomputable def Dl(i j:Int):Bool:=decide (i.natAbs<2^64)||(decide (j.natAbs<2^64)||(decide (i.natAbs<Wc) && decide (j.natAbs<Wc)))
theorem Xg:OpR X (binaryOp .Mult) (rI (fun i j=>Dl i j=true) fun i j=>.int (i*j)):=by
 intro pins s σ H x y v u Q I rx ry h
 obtain⟨i,j,rfl,rfl,hk,q⟩:=h
 unfold Dl at hk
 rw[Bool.or_eq_true,Bool.or_eq_true,Bool.and_eq_true]at hk
 rcases hk with hk|hk|hk
 ·have:=of_decide_eq_true hk
  exact Wt pins s σ H _ _ v u Q I rx ry ⟨i,j,rfl,rfl,.inl ⟨by omega,by omega⟩,q⟩
 ·have:=of_decide_eq_true hk
  exact Wt pins s σ H _ _ v u Q I rx ry ⟨i,j,rfl,rfl,.inr ⟨by omega,by omega⟩,q⟩
 ·have h1:i.natAbs<2^60000:=of_decide_eq_true hk.1
  have h2:j.natAbs<2^60000:=of_decide_eq_true hk.2
  obtain⟨t1,rfl⟩:=rx
  obtain⟨t2,rfl⟩:=ry
  exact PyProof.Rows.mul_int ⟨.int _,H,I.tok _,⟨_,rfl⟩,q⟩ (PyProof.Rows.mulOk_of_bits (m:=60000) (n:=60000) (PySem.intBits_le_iff.mpr h1) (PySem.intBits_le_iff.mpr h2) (by decide))
noncomputable def Zk:Op2:=wI2 fun i j=>if Dl i j=true then some (.int (i*j))else none
noncomputable def KN:Op2:=wI2 fun i j=>if(decide (0<j) && decide (j.natAbs<Er))=true then some (.int (i / j))else none
noncomputable def O4:Op2:=wI2 fun i j=>if 0<j then some (.int (i % j))else none
noncomputable def aT:Op2:=wI2 fun i j=>if(decide (0≤j) && decide (j≤1000) && decide (i.natAbs<2^64))=true then some (.int (i^j.toNat))else none
noncomputable def wLt:Op2:=wI2 fun i j=>some (.bl (decide (i<j)))
noncomputable def wLe:Op2:=wI2 fun i j=>some (.bl (decide (i≤j)))
noncomputable def wGt:Op2:=wI2 fun i j=>some (.bl (decide (j<i)))
noncomputable def wGe:Op2:=wI2 fun i j=>some (.bl (decide (j≤i)))
theorem EF:OpR X (binaryOp .Sub) (rOp X.K Ly):=Lj Zo fun i j d e K M H=>by cases e;exact .int _
theorem YZ:OpR X (binaryOp .Mult) (rOp X.K Zk):=Py Xg fun i j d e=>by
 split at e
 ·rename_i hk
  cases e
  exact⟨hk,fun _ _ _=>.int _⟩
 ·cases e
theorem Ey:OpR X (binaryOp .FloorDiv) (rOp X.K KN):=Py St.Vt fun i j d e=>by
 split at e
 ·rename_i hk
  rw[Bool.and_eq_true]at hk
  cases e
  exact⟨⟨of_decide_eq_true hk.1,of_decide_eq_true hk.2⟩,fun _ _ _=>.int _⟩
 ·cases e
theorem F3:OpR X (binaryOp .Mod) (rOp X.K O4):=Py Zx fun i j d e=>by
 split at e
 ·rename_i hk
  cases e
  exact⟨hk,fun _ _ _=>.int _⟩
 ·cases e
theorem RY:OpR X (binaryOp .Pow) (rOp X.K aT):=Py Zt fun i j d e=>by
 split at e
 ·rename_i hk
  rw[Bool.and_eq_true,Bool.and_eq_true]at hk
  cases e
  have:=of_decide_eq_true hk.1.2
  exact⟨⟨of_decide_eq_true hk.1.1,by omega,of_decide_eq_true hk.2⟩,fun _ _ _=>.int _⟩
 ·cases e
theorem Jq:OpR X (compareOp .Lt) (rOp X.K wLt):=Lj cR fun i j d e K M H=>by cases e;exact .bl _
theorem aN:OpR X (compareOp .LtE) (rOp X.K wLe):=Lj cb fun i j d e K M H=>by cases e;exact .bl _
theorem LC:OpR X (compareOp .Gt) (rOp X.K wGt):=Lj cZ fun i j d e K M H=>by cases e;exact .bl _
theorem RP:OpR X (compareOp .GtE) (rOp X.K wGe):=Lj dw fun i j d e K M H=>by cases e;exact .bl _
noncomputable def asL:Wv->Option (List D)
 | .own ds=>some ds
 | .val (.lst ds)=>some ds
 |_=>none
noncomputable def asT:Wv->Option (List D)
 | .val (.tup ds)=>some ds
 |_=>none
noncomputable def asC:Wv->Option (List D)
 | .val (.scr ns)=>some (ns.map .int)
 |_=>none
noncomputable def asS(w:Wv):Option (List D):=(asL w).or ((asT w).or (asC w))
section
variable{K:PySem.W.Frag}{M:Ms}{H:Hp}{v:V}{w:Wv}{ds:List D}
theorem Sh.l(h:Sh K M H v w)(e:asL w=some ds):∃a xs,v=.ref a/\H a=some (.lst xs)/\As K M H xs ds:=by
  cases w with
  |own es=>cases e;obtain⟨a,xs,rfl,h1,h2⟩:=h;exact⟨a,xs,rfl,h1,h2⟩
  | val d =>
    cases d<;>first|(cases e;done)|skip
    cases e
    cases h with
    |lst h n r=>exact⟨_,_,rfl,h,r⟩
theorem Sh.t(h:Sh K M H v w)(e:asT w=some ds):∃a xs,v=.ref a/\SqT K H a xs/\As K M H xs ds:=by
  cases w with
  |own es=>cases e
  | val d =>
    cases d<;>first|(cases e;done)|skip
    cases e
    cases h with
    |tup h r=>exact⟨_,_,rfl,h,r⟩
theorem KQ:∀{ns:List Int},As K M H (ns.map V.int) (ns.map D.int)
 | []=>.nil
 |n::ns=>.cons (.int n) KQ
theorem Sh.c(h:Sh K M H v w)(e:asC w=some ds):∃a xs,v=.ref a/\SqL K H a xs/\As K M H xs ds:=by
  cases w with
  |own es=>cases e
  | val d =>
    cases d<;>first|(cases e;done)|skip
    cases e
    cases h with
    | scr h =>
      refine⟨_,_,rfl,?_,KQ⟩
      rcases h with h|h
      ·exact .inl h.1
      ·exact .inr h
theorem Sh.s(h:Sh K M H v w)(e:asS w=some ds):∃a xs,v=.ref a/\(SqL K H a xs∨SqT K H a xs)/\As K M H xs ds:=by
  unfold asS at e
  cases e1:asL w with
  | some es =>
    rw[e1]at e
    cases e
    obtain⟨a,xs,h1,h2,h3⟩:=h.l e1
    exact⟨a,xs,h1,.inl (.of h2),h3⟩
  | none =>
    rw[e1]at e
    cases e2:asT w with
    | some es =>
      rw[e2]at e
      cases e
      obtain⟨a,xs,h1,h2,h3⟩:=h.t e2
      exact⟨a,xs,h1,.inr h2,h3⟩
    | none =>
      rw[e2]at e
      obtain⟨a,xs,h1,h2,h3⟩:=h.c e
      exact⟨a,xs,h1,.inl h2,h3⟩
end
noncomputable def Hh:Op1:=fun w=>match w with
 | .val (.str z)=>if z.length≤sizeLine then some (.val (.int z.length))else none
 |_=>(asS w).map fun ds=>.val (.int ds.length)
theorem CP : Eb X (.builtin "len") (rN X.K (o1 Hh)) := by
  intro pins s σ H xs us Q I r h
  obtain⟨M,ws,w,e,mo,sh,q⟩:=h
  cases sh with
  |nil=>cases e
  | cons h1 t =>
    cases t with
    |cons h2 t=>cases e
    | nil =>
      rename_i v w1
      have e':Hh w1=some w:=e
      unfold Hh at e'
      split at e'
      · split at e'
        · rename_i z hz
          cases e'
          cases h1
          exact OV pins s σ H _ us Q I r ⟨z,rfl,hz,q _ _ (.same mo (.int _))⟩
        ·cases e'
      · cases e1 : asS w1 with
        |none=>rw[e1]at e';cases e'
        | some ds =>
          rw[e1]at e'
          cases e'
          obtain⟨a,ys,rfl,h3,h4⟩:=h1.s e1
          refine Oj pins s σ H _ us Q I r ⟨a,ys,rfl,h3,q _ _ ?_⟩
          rw[h4.length]
          exact .same mo (.int _)
noncomputable def wIx:Op2:=fun a b=>match a,b with
 |a,.val (.int i)=>(asS a).bind fun ds=>(atI ds i).map .val
 |_,_=>none
theorem Xb{K:PySem.W.Frag}{M:Ms}{H:Hp}{xs:List V}{ds:List D}{i:Int}{d:D}(h:As K M H xs ds)(e:atI ds i=some d):∃x,atI xs i=some x/\Dq K M H x d:=by
  unfold atI at e⊢
  rw[h.length]
  cases e1:ixN ds.length i with
  |none=>rw[e1]at e;cases e
  | some j =>
    rw[e1]at e
    exact h.get e
theorem AY:IxR X (rOp X.K wIx):=by
  intro value slice pins s σ H x y v u Q I rx ry h hs
  obtain⟨M,w1,w2,r,e,mo,s1,s2,q⟩:=h
  unfold wIx at e
  split at e
  · rename_i i
    cases e1:asS w1 with
    |none=>rw[e1]at e;cases e
    | some ds =>
      rw[e1]at e
      simp only[Option.bind_some]at e
      cases e2:atI ds i with
      |none=>rw[e2]at e;cases e
      | some d =>
        rw[e2]at e
        cases e
        cases s2
        obtain⟨a,ys,rfl,h3,h4⟩:=s1.s e1
        obtain⟨z,h5,h6⟩:=Xb h4 e2
        rcases h3 with h3|h3
        ·exact XE value slice pins s σ H _ _ v u Q I rx ry ⟨a,ys,i,z,rfl,rfl,h3,h5,q _ _ (.same mo h6)⟩ hs
        ·exact Yw value slice pins s σ H _ _ v u Q I rx ry ⟨a,ys,i,z,rfl,rfl,h3,h5,q _ _ (.same mo h6)⟩ hs
  ·cases e
end
section
variable{X:Cx}
noncomputable def C9:Op2:=fun a b=>match a,b with
 | .val (.int i),.val (.int j)=>some (.val (.int (i+j)))
 | .val (.str x),.val (.str y)=>if x.length+y.length≤sizeLine then some (.val (.str (x++y)))else none
 | .val (.tup xs),.val (.tup ys)=>if xs.length+ys.length≤sizeLine then some (.val (.tup (xs++ys)))else none
 |a,b=>(asL a).bind fun xs=>(asL b).bind fun ys=>if xs.length+ys.length≤sizeLine then some (.own (xs++ys))else none
theorem Am : OpR X (binaryOp .Add) (rOp X.K C9) := by
  intro pins s σ H x y v u Q I rx ry h
  obtain⟨M,w1,w2,r,e,mo,s1,s2,q⟩:=h
  unfold C9 at e
  split at e
  · cases e
    cases s1;cases s2
    exact Z8 pins s σ H _ _ v u Q I rx ry ⟨_,_,rfl,rfl,q _ _ (.same mo (.int _))⟩
  · split at e
    · cases e
      cases s1;cases s2
      exact Qh pins s σ H _ _ v u Q I rx ry ⟨_,_,rfl,rfl,by assumption,q _ _ (.same mo (.str _))⟩
    ·cases e
  · split at e
    · rename_i xs ys hz
      cases e
      cases s1 with
      | tup h1 r1 =>
        cases s2 with
        | tup h2 r2 =>
          rename_i a xs' b ys'
          have l1:=r1.length
          have l2:=r2.length
          by_cases hx:xs'=[]
          · subst hx
            cases r1
            refine St.YX pins s σ H _ _ v u Q I rx ry ⟨_,_,_,rfl,rfl,h1,h2,q _ _ (.same mo ?_)⟩
            exact .tup h2 r2
          · refine X3 pins s σ H _ _ v u Q I rx ry ⟨_, _, _, _, rfl, rfl, h1, h2, hx, by omega, fun z => ?_, fun _ p hp => q _ _ (.tup mo hp (r1.append r2))⟩
            subst z
            cases r2
            rw[List.append_nil]at q
            exact q _ _ (.same mo (.tup h1 r1))
    ·cases e
  · cases e1 : asL w1 with
    |none=>rw[e1]at e;cases e
    | some xs =>
      rw[e1]at e
      cases e2:asL w2 with
      |none=>rw[e2]at e;cases e
      | some ys =>
        rw[e2]at e
        simp only[Option.bind_some]at e
        split at e
        · rename_i hz
          cases e
          obtain⟨a,xs',rfl,h1,r1⟩:=s1.l e1
          obtain⟨b,ys',rfl,h2,r2⟩:=s2.l e2
          have l1:=r1.length
          have l2:=r2.length
          exact aI pins s σ H _ _ v u Q I rx ry ⟨a,b,xs',ys',rfl,rfl,h1,h2,by omega,fun p hp=>q _ _ (.lst mo hp (r1.append r2))⟩
        ·cases e
noncomputable def bu:Op2:=fun a b=>match a,b with
 | .val (.int i),.val (.int j)=>if Dl i j=true then some (.val (.int (i*j)))else none
 | .val (.tup xs),.val (.int k)=>if(!xs.isEmpty && decide (1≤k) && decide (xs.length*k.toNat≤sizeLine))=true then some (.val (.tup (List.replicate k.toNat xs).flatten))else none
 |a,.val (.int k)=>(asL a).bind fun xs=>if(decide (k<2^63) && decide (-(2^63)≤k) && decide (xs.length*k.toNat≤sizeLine))=true then some (.own (List.replicate k.toNat xs).flatten)else none
 |_,_=>none
theorem As.rep{K:PySem.W.Frag}{M:Ms}{H:Hp}{xs:List V}{ds:List D}(h:As K M H xs ds):∀n:Nat,As K M H (List.replicate n xs).flatten (List.replicate n ds).flatten
  |0=>.nil
  | n + 1 => by
    rw[List.replicate_succ,List.replicate_succ,List.flatten_cons,List.flatten_cons]
    exact h.append (As.rep h n)
theorem RC : OpR X (binaryOp .Mult) (rOp X.K bu) := by
  intro pins s σ H x y v u Q I rx ry h
  obtain⟨M,w1,w2,r,e,mo,s1,s2,q⟩:=h
  unfold bu at e
  split at e
  · rename_i i j
    refine YZ pins s σ H x y v u Q I rx ry ⟨M,_,_,r,?_,mo,s1,s2,q⟩
    unfold Zk wI2
    show Option.map Wv.val (if Dl i j=true then some (D.int (i*j))else none)=some r
    split at e
    · rename_i hk
      rw[if_pos hk]
      exact e
    ·cases e
  · rename_i xs k
    split at e
    · rename_i hk
      rw[Bool.and_eq_true,Bool.and_eq_true]at hk
      cases e
      cases s2
      cases s1 with
      | @tup a ys _ h1 r1=>
        have l1:=r1.length
        have z:=of_decide_eq_true hk.2
        have hk1:=of_decide_eq_true hk.1.2
        have hne:ys≠[]:=fun zz=>by
          subst zz
          cases r1
          exact absurd hk.1.1 (by decide)
        refine X9 pins s σ H _ _ v u Q I rx ry ⟨a,ys,k,rfl,rfl,h1,hne,hk1,by rw[l1];exact z,fun e1=>?_,fun _ p hp=>q _ _ (.tup mo hp (r1.rep _))⟩
        subst e1
        have:(List.replicate (1:Int).toNat xs).flatten=xs:=by simp
        rw[this]at q
        exact q _ _ (.same mo (.tup h1 r1))
    ·cases e
  · rename_i k hn hn2
    cases e1:asL w1 with
    |none=>rw[e1]at e;cases e
    | some xs =>
      rw[e1]at e
      simp only[Option.bind_some]at e
      split at e
      · rename_i hk
        rw[Bool.and_eq_true,Bool.and_eq_true]at hk
        cases e
        cases s2
        obtain⟨a,xs',rfl,h1,r1⟩:=s1.l e1
        have l1:=r1.length
        have z:=of_decide_eq_true hk.2
        exact aO pins s σ H _ _ v u Q I rx ry ⟨a,k,xs',rfl,rfl,h1,of_decide_eq_true hk.1.2,of_decide_eq_true hk.1.1,by rw[l1];exact z,fun p hp=>q _ _ (.lst mo hp (r1.rep _))⟩
      ·cases e
  ·cases e
noncomputable def RV:Op1
 | .val (.int i)=>some (.val (.int (-i)))
 |_=>none
theorem IB:UnR X (unaryOp .USub) (rUn X.K RV):=by
 intro pins s σ H x v Q I rx h
 obtain⟨M,w,r,e,mo,s1,q⟩:=h
 unfold RV at e
 split at e
 ·cases e
  cases s1
  exact Z5 pins s σ H _ v Q I rx ⟨_,rfl,q _ _ (.same mo (.int _))⟩
 ·cases e
noncomputable def Gv:D->Bool
 | .non=>true| .bl _=>true| .int _=>true| .str _=>true
 |_=>false
theorem Sh.flat{K:PySem.W.Frag}{M:Ms}{H:Hp}{v:V}{w:Wv}(h:Sh K M H v w)(f:Gv (fz w)=true):Dq K M H v (fz w):=by
 cases w with
 |val d=>exact h
 |own ds=>cases f
noncomputable def inD(x:D)(xs:List D):Bool:=xs.any fun y=>deq y x
theorem Pu{K:PySem.W.Frag}{M:Ms}{H:Hp}{v:V}{d:D}(h:Dq K M H v d)(f:Gv d=true):L9 v=true:=by
 cases h<;>first|rfl|cases f
theorem YD{K:PySem.W.Frag}{M:Ms}{H:Hp}{v u:V}{d e:D}(h:Dq K M H v d)(g:Dq K M H u e)(f:Gv d=true)(f':Gv e=true):eqV v u=deq d e:=by
 cases h<;>first|(cases f;done)|skip
 all_goals (cases g<;>first|(cases f';done)|rfl)
theorem OP{K:PySem.W.Frag}{M:Ms}{H:Hp}:∀{vs:List V} {ds:List D},As K M H vs ds->ds.all Gv=true->vs.all L9=true
  |_,_,.nil,_=>rfl
  | _, _, .cons h t, f => by
    rw[List.all_cons,Bool.and_eq_true]at f⊢
    exact⟨Pu h f.1,OP t f.2⟩
theorem SN{K:PySem.W.Frag}{M:Ms}{H:Hp}{u:V}{e:D}(g:Dq K M H u e)(f':Gv e=true):∀{vs:List V} {ds:List D},As K M H vs ds->ds.all Gv=true->inV u vs=inD e ds
  |_,_,.nil,_=>rfl
  | _, _, .cons h t, f => by
    rw[List.all_cons,Bool.and_eq_true]at f
    have ih:=SN g f' t f.2
    unfold inV inD at ih⊢
    rw[List.any_cons,List.any_cons,ih,YD h g f.1 f']
noncomputable def wIn(neg:Bool):Op2:=fun a b=>(asS b).bind fun ds=>if(Gv (fz a) && ds.all Gv)=true then some (.val (.bl (if neg then !inD (fz a) ds else inD (fz a) ds)))else none
theorem WX{M:Ms}{H:Hp}{x y:V}{w1 w2 r:Wv}{neg:Bool}{Q:VK}(e:wIn neg w1 w2=some r)(mo:MOk M H)(s1:Sh X.K M H x w1)(s2:Sh X.K M H y w2)(q:∀v H',Nw X.K M H H' v r->Q v H'):rIn X.K neg x y H Q:=by
  unfold wIn at e
  cases e1:asS w2 with
  |none=>rw[e1]at e;cases e
  | some ds =>
    rw[e1]at e
    simp only[Option.bind_some]at e
    split at e
    · rename_i hk
      rw[Bool.and_eq_true]at hk
      cases e
      obtain⟨a,xs,rfl,h3,h4⟩:=s2.s e1
      have g1:=s1.flat hk.1
      refine⟨a,xs,rfl,h3,Pu g1 hk.1,OP h4 hk.2,?_⟩
      rw[SN g1 hk.1 h4 hk.2]
      exact q _ _ (.same mo (.bl _))
    ·cases e
theorem MR:OpR X (compareOp .In) (rOp X.K (wIn false)):=by
 intro pins s σ H x y v u Q I rx ry h
 obtain⟨M,w1,w2,r,e,mo,s1,s2,q⟩:=h
 exact SH pins s σ H _ _ v u Q I rx ry (WX e mo s1 s2 q)
theorem Ih:OpR X (compareOp .NotIn) (rOp X.K (wIn true)):=by
 intro pins s σ H x y v u Q I rx ry h
 obtain⟨M,w1,w2,r,e,mo,s1,s2,q⟩:=h
 exact OW pins s σ H _ _ v u Q I rx ry (WX e mo s1 s2 q)
noncomputable def isN:Wv->Bool
 | .val .non=>true
 |_=>false
noncomputable def bw(neg:Bool):Op2:=fun a b=>match b with
 | .val .non=>some (.val (.bl (if neg then !isN a else isN a)))
 |_=>none
theorem Xx{K:PySem.W.Frag}{M:Ms}{H:Hp}{x:V}{w:Wv}(s:Sh K M H x w):decide (x=.non)=isN w:=by
 cases w with
 |own ds=>obtain⟨a,xs,rfl,_⟩:=s;rfl
 |val d=>cases s<;>rfl
theorem VM:OpR X (compareOp .IsNot) (rOp X.K (bw true)):=by
 intro pins s σ H x y v u Q I rx ry h
 obtain⟨M,w1,w2,r,e,mo,s1,s2,q⟩:=h
 unfold bw at e
 split at e
 ·cases e
  cases s2
  refine YJ pins s σ H _ _ v u Q I rx ry ⟨rfl,?_⟩
  rw[Xx s1]
  exact q _ _ (.same mo (.bl _))
 ·cases e
theorem IP{K:PySem.W.Frag}{M:Ms}{H:Hp}{xs:List V}{ws:List Wv}{f:Op1}{r:Wv}(h:Shs K M H xs ws)(e:o1 f ws=some r):∃v w,xs=[v]/\ws=[w]/\Sh K M H v w/\f w=some r:=by
  cases h with
  |nil=>cases e
  | cons h1 t =>
    cases t with
    |cons h2 t=>cases e
    |nil=>exact⟨_,_,rfl,rfl,h1,e⟩
theorem O9{K:PySem.W.Frag}{M:Ms}{H:Hp}{xs:List V}{ws:List Wv}{f:Op2}{r:Wv}(h:Shs K M H xs ws)(e:o2 f ws=some r):∃v w v' w',xs=[v,v']/\ws=[w,w']/\Sh K M H v w/\Sh K M H v' w'/\f w w'=some r:=by
  cases h with
  |nil=>cases e
  | cons h1 t =>
    cases t with
    |nil=>cases e
    | cons h2 t =>
      cases t with
      |cons h3 t=>cases e
      |nil=>exact⟨_,_,_,_,rfl,rfl,h1,h2,e⟩
noncomputable def Yh:Op1
 | .val (.int i)=>some (.val (.int (if i<0 then-i else i)))
 |_=>none
theorem LK:Eb X (.builtin "abs") (rN X.K (o1 Yh)):=by
 intro pins s σ H xs us Q I r h
 obtain⟨M,ws,w,e,mo,sh,q⟩:=h
 obtain⟨v,w1,rfl,rfl,s1,e1⟩:=IP sh e
 unfold Yh at e1
 split at e1
 ·cases e1
  cases s1
  exact US pins s σ H _ us Q I r ⟨_,rfl,q _ _ (.same mo (.int _))⟩
 ·cases e1
noncomputable def bM:Op2:=wI2 fun i j=>some (.int (if j>i then j else i))
noncomputable def Ye:Op2:=wI2 fun i j=>some (.int (if j<i then j else i))
theorem QK{f:Int->Int->Option D}{a b r:Wv}(e:wI2 f a b=some r):∃i j d,a=.val (.int i)/\b=.val (.int j)/\f i j=some d/\r=.val d:=by
 unfold wI2 at e
 split at e
 ·rename_i i j
  cases e1:f i j with
  |none=>rw[e1]at e;cases e
  |some d=>rw[e1]at e;cases e;exact⟨i,j,d,rfl,rfl,e1,rfl⟩
 ·cases e
theorem Rc(hc:X.calm=true):Eb X (.builtin "max") (rN X.K (o2 bM)):=by
 intro pins s σ H xs us Q I r h
 obtain⟨M,ws,w,e,mo,sh,q⟩:=h
 obtain⟨v,w1,v',w2,rfl,rfl,s1,s2,e1⟩:=O9 sh e
 obtain⟨i,j,d,rfl,rfl,e2,rfl⟩:=QK e1
 cases e2;cases s1;cases s2
 exact SY hc pins s σ H _ us Q I r ⟨_,_,rfl,q _ _ (.same mo (.int _))⟩
theorem Oq(hc:X.calm=true):Eb X (.builtin "min") (rN X.K (o2 Ye)):=by
 intro pins s σ H xs us Q I r h
 obtain⟨M,ws,w,e,mo,sh,q⟩:=h
 obtain⟨v,w1,v',w2,rfl,rfl,s1,s2,e1⟩:=O9 sh e
 obtain⟨i,j,d,rfl,rfl,e2,rfl⟩:=QK e1
 cases e2;cases s1;cases s2
 exact SM hc pins s σ H _ us Q I r ⟨_,_,rfl,q _ _ (.same mo (.int _))⟩
noncomputable def By:Op1:=fun w=>(asS w).map fun ds=>.val (.tup ds)
theorem Al:Eb X (.type "tuple") (rN X.K (o1 By)):=by
  intro pins s σ H xs us Q I r h
  obtain⟨M,ws,w,e,mo,sh,q⟩:=h
  obtain⟨v,w1,rfl,rfl,s1,e1⟩:=IP sh e
  unfold By at e1
  cases e2:asS w1 with
  |none=>rw[e2]at e1;cases e1
  | some ds =>
    rw[e2]at e1
    cases e1
    obtain⟨a,ys,rfl,h3,h4⟩:=s1.s e2
    refine N0 pins s σ H _ us Q I r ⟨a,ys,rfl,?_⟩
    rcases h3 with h3|h3
    ·exact .inl ⟨h3,fun l hl=>q _ _ (.tup mo hl h4)⟩
    ·exact .inr ⟨h3,q _ _ (.same mo (.tup h3 h4))⟩
noncomputable def NJ:Op1:=fun w=>(asS w).map fun ds=>.own ds
theorem HX:Eb X (.type "list") (rN X.K (o1 NJ)):=by
  intro pins s σ H xs us Q I r h
  obtain⟨M,ws,w,e,mo,sh,q⟩:=h
  obtain⟨v,w1,rfl,rfl,s1,e1⟩:=IP sh e
  unfold NJ at e1
  cases e2:asS w1 with
  |none=>rw[e2]at e1;cases e1
  | some ds =>
    rw[e2]at e1
    cases e1
    obtain⟨a,ys,rfl,h3,h4⟩:=s1.s e2
    exact OM pins s σ H _ us Q I r ⟨a,ys,rfl,h3,fun l hl=>q _ _ (.lst mo hl h4)⟩
noncomputable def Xy:Op1
 | .val (.int i)=>some (.val (.int i))
 | .val (.bl b)=>some (.val (.int (if b then 1 else 0)))
 |_=>none
theorem Lr:Eb X (.type "int") (rN X.K (o1 Xy)):=by
 intro pins s σ H xs us Q I r h
 obtain⟨M,ws,w,e,mo,sh,q⟩:=h
 obtain⟨v,w1,rfl,rfl,s1,e1⟩:=IP sh e
 unfold Xy at e1
 split at e1
 ·cases e1;cases s1
  exact OG pins s σ H _ us Q I r (.inl ⟨_,rfl,q _ _ (.same mo (.int _))⟩)
 ·cases e1;cases s1
  exact OG pins s σ H _ us Q I r (.inr ⟨_,rfl,q _ _ (.same mo (.int _))⟩)
 ·cases e1
noncomputable def blD:D->Option Bool
 | .bl b=>some b
 |_=>none
noncomputable def bls(ds:List D):Option (List Bool):=ds.mapM blD
theorem TQ {K : PySem.W.Frag} {M : Ms} {H : Hp} : ∀ {vs : List V} {ds : List D} {bs : List Bool}, As K M H vs ds -> bls ds = some bs -> vs = bs.map V.bl
  |_,_,bs,.nil,e=>by cases e;rfl
  | _, _, bs, .cons (d := d) (ds := ds) h t, e => by
    unfold bls at e
    rw[List.mapM_cons]at e
    cases e1:blD d with
    |none=>rw[e1]at e;cases e
    | some b =>
      rw[e1]at e
      cases e2:ds.mapM blD with
      |none=>rw[e2]at e;cases e
      | some cs =>
        rw[e2]at e
        cases e
        have hd:d=.bl b:=by
          cases d<;>first|(cases e1;done)|skip
          cases e1;rfl
        subst hd
        cases h
        rw[List.map_cons,←TQ t e2]
noncomputable def cB:Op1:=fun w=>(asL w).bind fun ds=>(bls ds).map fun bs=>.val (.bl (bs.all id))
theorem SE(hc:X.calm=true):Eb X (.builtin "all") (rN X.K (o1 cB)):=by
  intro pins s σ H xs us Q I r h
  obtain⟨M,ws,w,e,mo,sh,q⟩:=h
  obtain⟨v,w1,rfl,rfl,s1,e1⟩:=IP sh e
  unfold cB at e1
  cases e2:asL w1 with
  |none=>rw[e2]at e1;cases e1
  | some ds =>
    rw[e2]at e1
    simp only[Option.bind_some]at e1
    cases e3:bls ds with
    |none=>rw[e3]at e1;cases e1
    | some bs =>
      rw[e3]at e1
      cases e1
      obtain⟨a,ys,rfl,h3,h4⟩:=s1.l e2
      exact St.Sv hc pins s σ H _ us Q I r ⟨a,bs,rfl,by rw[←TQ h4 e3];exact .of h3,q _ _ (.same mo (.bl _))⟩
noncomputable def kdW:Wv->Option St.Kd
 | .own _=>some .lst
 | .val .non=>some .non| .val (.bl _)=>some .bl| .val (.int _)=>some .int| .val (.str _)=>some .str| .val (.lst _)=>some .lst| .val (.dct _)=>some .dct| .val (.tup _)=>some .tup
 | .val (.ty _)=>none| .val (.scr _)=>none| .val (.ref _)=>none
end
section
variable{X:Cx}
theorem VG{K:PySem.W.Frag}(k:St.Kd):PySem.W.kitOne K (.type k.ty) (.type "list")=some (k.isA "list"):=by
 cases k<;>rfl
noncomputable def Pc(T:String):Bool:=T== "int" ||T== "bool" ||T== "tuple" ||T== "str" ||T== "list"
theorem ZK{K:PySem.W.Frag}{T:String}(h:Pc T=true)(k:St.Kd):PySem.W.kitOne K (.type k.ty) (.type T)=some (k.isA T):=by
 unfold Pc at h
 simp only[Bool.or_eq_true,beq_iff_eq]at h
 rcases h with(((rfl|rfl)|rfl)|rfl)|rfl
 ·exact St.X2 k
 ·exact St.Ud k
 ·exact St.kit_tuple k
 ·exact St.YM k
 ·exact VG k
noncomputable def Yi:Op2:=fun a t=>match t with
 | .val (.ty T)=>if Pc T=true then(kdW a).map fun k=>.val (.bl (k.isA T))else none
 |_=>none
theorem LW : Eb X (.builtin "isinstance") (rN X.K (o2 Yi)) := by
  intro pins s σ H xs us Q I r h
  obtain⟨M,ws,w,e,mo,sh,q⟩:=h
  obtain⟨v,w1,v',w2,rfl,rfl,s1,s2,e1⟩:=O9 sh e
  unfold Yi at e1
  split at e1
  · rename_i T
    split at e1
    · rename_i hT
      cases e2:kdW w1 with
      |none=>rw[e2]at e1;cases e1
      | some k =>
        rw[e2]at e1
        cases e1
        cases s2
        obtain⟨u1,u2,rfl,r1,r2⟩:=r.two
        cases (show u2=Value.type T from r2)
        have fin:∀tk,EP X pins σ Q (.bool (k.isA T)) {s with toks:=tk}:=fun tk=>⟨.bl _,H,I.tok tk,rfl,q _ _ (.same mo (.bl _))⟩
        have kk:=ZK (K:=X.K) hT k
        cases w1 with
        | own ds =>
          cases e2
          obtain⟨a,ys,rfl,h1,_⟩:=s1
          exact FU I r1 (.lst h1) kk fin
        | val d =>
          have s1':Dq X.K M H v d:=s1
          cases s1' with
          |non=>cases e2;exact FU I r1 .non kk fin
          |bl b=>cases e2;exact FU I r1 (.bl b) kk fin
          |int b=>cases e2;exact FU I r1 (.int b) kk fin
          |str b=>cases e2;exact FU I r1 (.str b) kk fin
          |ty b=>cases e2
          |scr h=>cases e2
          |lst h n rr=>cases e2;exact FU I r1 (.lst h) kk fin
          |dct h n rr=>cases e2;exact FU I r1 (.dK h) kk fin
          |ref h=>cases e2
          | tup h rr =>
            cases e2
            rename_i a ys ds
            cases (show u1=Value.ref a from r1)
            obtain⟨its,_,⟨o,h1,h2,_⟩,_⟩:=I.tuple h
            exact PySem.W.kia_one PySem.W.kitx_tuple I.kIn ⟨o,h1,h2⟩ kk (fun z=>nomatch z) fin
    ·cases e1
  ·cases e1
noncomputable def CI(fs:List Ev):Ev:=fun E S=>(evs fs E S).bind fun r=>if r.1.length≤sizeLine then some (.tup r.1,r.2)else none
noncomputable def VU(c:Bool)(fs:List Ev):Ev:=fun E S=>(evs fs E S).bind fun r=>if r.1.length≤sizeLine then fin c (.own r.1) r.2 else none
abbrev JI:=VU false
abbrev Hf:=VU true
theorem A4{es:List Expr}{fs:List Ev}{k:Nat}{pos:Pos}(h:DEs X es fs):DE X (.Tuple es k pos) (CI fs):=⟨B7 (Z2 h.pe) fun σ H Q z=>by
 obtain⟨M,E,S,d,S',e,r,st,q⟩:=z
 obtain⟨⟨ds,S1⟩,e1,e⟩:=BB e
 dsimp only at e
 split at e
 ·cases e
  refine Hy e1 r st fun vs H1 M1 g1 st1 d1=>⟨by rw[d1.length];assumption,fun p hp=>?_⟩
  have n:=Nw.tup st1.mo hp d1
  exact q _ _ M1 (g1.trans (.grow st1.mo n.grow)) (st1.grow n.grow) n.rel
 ·cases e⟩
theorem Bh{c:Bool}{es:List Expr}{fs:List Ev}{pos:Pos}(h:DEs X es fs):DE X (.List es pos) (VU c fs):=⟨B7 (aG h.pe) fun σ H Q z=>by
 obtain⟨M,E,S,d,S',e,r,st,q⟩:=z
 obtain⟨⟨ds,S1⟩,e1,e⟩:=BB e
 dsimp only at e
 split at e
 ·refine Hy e1 r st fun vs H1 M1 g1 st1 d1=>⟨by rw[d1.length];assumption,fun p hp=>?_⟩
  obtain⟨M2,g2,st2,d2⟩:=(Nw.lst st1.mo hp d1).fin st1 e
  exact q _ _ M2 (g1.trans g2) st2 d2
 ·cases e⟩
noncomputable def Jv(f g:Ev):Ev:=fun E S=>(f E S).bind fun r=>match r.1 with
 | .bl true=>g E r.2
 | .bl false=>some (.bl false,r.2)
 |_=>none
noncomputable def eOr(f g:Ev):Ev:=fun E S=>(f E S).bind fun r=>match r.1 with
 | .bl false=>g E r.2
 | .bl true=>some (.bl true,r.2)
 |_=>none
noncomputable def Ul(f:Ev):Ev:=fun E S=>(f E S).bind fun r=>match r.1 with
 | .bl b=>some (.bl (!b),r.2)
 |_=>none
noncomputable def eIf(c f g:Ev):Ev:=fun E S=>(c E S).bind fun r=>match r.1 with
 | .bl true=>f E r.2
 | .bl false=>g E r.2
 |_=>none
theorem P1{K:PySem.W.Frag}{M:Ms}{H:Hp}{v:V}{b:Bool}(h:Dq K M H v (.bl b)):v=.bl b:=by cases h;rfl
variable{a b c:Expr}{rest:List Expr}{f g h:Ev}{pos:Pos}
theorem LM{op:BoolOp}(h:DE X a f):DE X (.BoolOp op [a] pos) f:=⟨ZF h.pe⟩
theorem Jx(ha:DE X a f)(hb:DE X (.BoolOp .And (b::rest) pos) g):DE X (.BoolOp .And (a::b::rest) pos) (Jv f g):=⟨B7 (Z9 ha.pe hb.pe) fun σ H Q z=>by
 obtain⟨M,E,S,d,S',e,r,st,q⟩:=z
 obtain⟨⟨d1,S1⟩,e1,e⟩:=BB e
 dsimp only at e
 refine⟨M,E,S,d1,S1,e1,r,st,fun v H1 M1 g1 st1 r1=>?_⟩
 split at e
 ·cases P1 r1
  refine⟨_,rfl,?_⟩
  refine Xf ?_
  exact⟨M1,E,S1,d,S',e,r.step g1.st,st1,fun v H2 M2 g2 st2 r2=>q _ _ M2 (g1.trans g2) st2 r2⟩
 ·cases e
  cases P1 r1
  refine⟨_,rfl,?_⟩
  refine YG ?_
  exact q _ _ M1 g1 st1 r1
 ·cases e⟩
theorem Zg(ha:DE X a f):DE X (.UnaryOp .Not a pos) (Ul f):=⟨B7 (Zh ha.pe) fun σ H Q z=>by
 obtain⟨M,E,S,d,S',e,r,st,q⟩:=z
 obtain⟨⟨d1,S1⟩,e1,e⟩:=BB e
 dsimp only at e
 split at e
 ·cases e
  refine⟨M,E,S,_,_,e1,r,st,fun v H1 M1 g1 st1 r1=>?_⟩
  cases P1 r1
  exact⟨_,rfl,q _ _ M1 g1 st1 (.bl _)⟩
 ·cases e⟩
noncomputable def tDT(K:PySem.W.Frag)(f:Ev):TT:=fun σ H Q=>∃M E S b S',f E S=some (.bl b,S')/\EnR K M E σ H/\StR K M S H/\∀H' M',Gr M H M' H'->StR K M' S' H'->Q b H'
structure DT(X:Cx)(e:Expr)(f:Ev):Prop where
 pe:PT X e (tDT X.K f)
structure DW(X:Cx)(e:Expr)(f:Ev):Prop where
 pe:PW X e (tDT X.K f)
theorem DW.dt(h:DW X a f):DT X a f:=⟨PW.pt h.pe⟩
theorem W8{t:TE}(h:PT X a (Zm t))(m:∀σ H Q,tD X.K f σ H Q->t σ H Q):DT X a f:=⟨Ta h fun σ H Q z=>by
 obtain⟨M,E,S,b,S',e,r,st,q⟩:=z
 refine m _ _ _ ⟨M,E,S,_,S',e,r,st,fun v H1 M1 g1 st1 r1=>?_⟩
 cases P1 r1
 exact⟨_,rfl,q _ M1 g1 st1⟩⟩
theorem Pj(h:DE X a f)(he:∀whole,isTrue a X.env whole=(do let v←whole;standAt a.pos;holding [v] (truthy v)):=by intro _;rfl):DT X a f:=W8 (t:=tD X.K f) (ZH h.pe he) fun _ _ _ z=>z
theorem Aq{fa fb:Ev}{op:CmpOp}{f:Op2}(ho:OpR X (compareOp op) (rOp X.K f))(ha:DE X a fa)(hb:DE X b fb)(hm:behindInMarks op b=false:=by rfl):DT X (.Compare a [op] [b] pos) (eOp (o2 f) [fa,fb]):=
 W8 (Te ho ha.pe hb.pe hm) fun _ _ _ h=>QO h
theorem QF(ha:DT X a f):DT X (.UnaryOp .Not a pos) (Ul f):=⟨Ta (Zp ha.pe) fun σ H Q z=>by
 obtain⟨M,E,S,b,S',e,r,st,q⟩:=z
 obtain⟨⟨w1,S1⟩,e1,e⟩:=BB e
 dsimp only at e
 split at e
 ·cases e
  exact⟨M,E,S,_,_,e1,r,st,q⟩
 ·cases e⟩
theorem JT(ha:DT X a f):DW X (.BoolOp .And [a] pos) f:=⟨X7 ha.pe⟩
theorem P7(ha:DT X a f):DW X (.BoolOp .Or [a] pos) f:=⟨Zs ha.pe⟩
theorem Rf{e:Expr}{t t':TT}(h:PW X e t)(m:∀σ H Q,t' σ H Q->t σ H Q):PW X e t':=fun wh pins s σ H Q I q=>h wh pins s σ H Q I (m _ _ _ q)
theorem M8(ha:DT X a f)(hb:DW X (.BoolOp .And (b::rest) pos) g):DW X (.BoolOp .And (a::b::rest) pos) (Jv f g):=⟨Rf (ZX ha.pe hb.pe) fun σ H Q z=>by
 obtain⟨M,E,S,k,S',e,r,st,q⟩:=z
 obtain⟨⟨w1,S1⟩,e1,e⟩:=BB e
 dsimp only at e
 split at e
 ·refine⟨M,E,S,_,S1,e1,r,st,fun H1 M1 g1 st1=>?_⟩
  refine Xf ?_
  exact⟨M1,E,S1,k,S',e,r.step g1.st,st1,fun H2 M2 g2 st2=>q _ M2 (g1.trans g2) st2⟩
 ·cases e
  refine⟨M,E,S,_,_,e1,r,st,fun H1 M1 g1 st1=>?_⟩
  refine YG ?_
  exact q _ M1 g1 st1
 ·cases e⟩
theorem Ur(ha:DT X a f)(hb:DW X (.BoolOp .Or (b::rest) pos) g):DW X (.BoolOp .Or (a::b::rest) pos) (eOr f g):=⟨Rf (dm ha.pe hb.pe) fun σ H Q z=>by
 obtain⟨M,E,S,k,S',e,r,st,q⟩:=z
 obtain⟨⟨w1,S1⟩,e1,e⟩:=BB e
 dsimp only at e
 split at e
 ·refine⟨M,E,S,_,S1,e1,r,st,fun H1 M1 g1 st1=>?_⟩
  refine YG ?_
  exact⟨M1,E,S1,k,S',e,r.step g1.st,st1,fun H2 M2 g2 st2=>q _ M2 (g1.trans g2) st2⟩
 ·cases e
  refine⟨M,E,S,_,_,e1,r,st,fun H1 M1 g1 st1=>?_⟩
  refine Xf ?_
  exact q _ M1 g1 st1
 ·cases e⟩
theorem cx(hc:DT X c f)(ha:DE X a g)(hb:DE X b h):DE X (.IfExp c a b pos) (eIf f g h):=⟨B7 (Ub hc.pe ha.pe hb.pe) fun σ H Q z=>by
 obtain⟨M,E,S,d,S',e,r,st,q⟩:=z
 obtain⟨⟨w1,S1⟩,e1,e⟩:=BB e
 dsimp only at e
 split at e
 ·refine⟨M,E,S,_,S1,e1,r,st,fun H1 M1 g1 st1=>?_⟩
  refine Xf ?_
  exact⟨M1,E,S1,d,S',e,r.step g1.st,st1,fun v H2 M2 g2 st2 r2=>q _ _ M2 (g1.trans g2) st2 r2⟩
 ·refine⟨M,E,S,_,S1,e1,r,st,fun H1 M1 g1 st1=>?_⟩
  refine YG ?_
  exact⟨M1,E,S1,d,S',e,r.step g1.st,st1,fun v H2 M2 g2 st2 r2=>q _ _ M2 (g1.trans g2) st2 r2⟩
 ·cases e⟩
end
inductive Fl where
 |nx
 |ret (d:D)
abbrev Ex:=En->Sto->Option (Fl×En×Sto)
def End(K:PySem.W.Frag)(M:Ms)(H:Hp)(Dn:Ends)(E':En)(S':Sto):Fl->Prop
 | .nx=>∀σ' H' M',Gr M H M' H'->EnR K M' E' σ' H'->StR K M' S' H'->Dn.nx σ' H'
 | .ret d=>∀v H' M',Gr M H M' H'->StR K M' S' H'->Dq K M' H' v d->Dn.rt v H'
noncomputable def tX(K:PySem.W.Frag)(f:Ex):TS:=fun Dn σ H=>∃M E S fl E' S',f E S=some (fl,E',S')/\EnR K M E σ H/\StR K M S H/\End K M H Dn E' S' fl
structure DS(X:Cx)(st:Stmt)(f:Ex):Prop where
 pe:PS X st (tX X.K f)
structure DSs(X:Cx)(st:List Stmt)(f:Ex):Prop where
 pe:PSs X st (tX X.K f)
theorem FN{X:Cx}{e:Stmt}{t t':TS}(h:PS X e t)(m:∀Dn σ H,t' Dn σ H->t Dn σ H):PS X e t':=fun pins s σ H Dn I q=>h pins s σ H Dn I (m _ _ _ q)
theorem Pt{X:Cx}{e:List Stmt}{t t':TS}(h:PSs X e t)(m:∀Dn σ H,t' Dn σ H->t Dn σ H):PSs X e t':=fun pins s σ H Dn I q=>h pins s σ H Dn I (m _ _ _ q)
theorem End.later{K:PySem.W.Frag}{M M1:Ms}{H H1:Hp}{Dn:Ends}{E':En}{S':Sto}{fl:Fl}(q:End K M H Dn E' S' fl)(g:Gr M H M1 H1):End K M1 H1 Dn E' S' fl:=by
 cases fl with
 |nx=>exact fun σ' H' M' g' r st=>q σ' H' M' (g.trans g') r st
 |ret d=>exact fun v H' M' g' st r=>q v H' M' (g.trans g') st r
noncomputable def Ae(f g:Ex):Ex:=fun E S=>(f E S).bind fun r=>match r.1 with
 | .nx=>g r.2.1 r.2.2
 | .ret w=>some (.ret w,r.2)
noncomputable def Es:Ex:=fun E S=>some (.nx,E,S)
section
variable{X:Cx}{st:Stmt}{rest a b:List Stmt}{f g h:Ex}{c e:Expr}{k:Ev}{pos:Pos}
theorem A7:DSs X [] Es:=⟨Pt Xj fun Dn σ H z=>by
 obtain⟨M,E,S,fl,E',S',e,r,st,q⟩:=z
 cases e
 exact q _ _ M (.refl st.mo) r st⟩
theorem AF(h1:DS X st f)(h2:DSs X rest g):DSs X (st::rest) (Ae f g):=⟨Pt (Uo h1.pe h2.pe) fun Dn σ H z=>by
 obtain⟨M,E,S,fl,E',S',e,r,st,q⟩:=z
 obtain⟨⟨f1,E1,S1⟩,e1,e⟩:=BB e
 dsimp only at e
 split at e
 ·exact⟨M,E,S,.nx,E1,S1,e1,r,st,fun σ1 H1 M1 g1 r1 st1=>⟨M1,E1,S1,fl,E',S',e,r1,st1,q.later g1⟩⟩
 ·cases e
  exact⟨M,E,S,.ret _,_,_,e1,r,st,q⟩⟩
theorem AJ(h1:DS X st f):DSs X [st] f:=⟨YB h1.pe⟩
noncomputable def xIf(c:Ev)(f g:Ex):Ex:=fun E S=>(c E S).bind fun r=>match r.1 with
 | .bl true=>f E r.2
 | .bl false=>g E r.2
 |_=>none
theorem CT(hc:DT X c k)(ha:DSs X a f)(hb:DSs X b g):DS X (.If c a b pos) (xIf k f g):=⟨FN (dz hc.pe ha.pe hb.pe) fun Dn σ H z=>by
 obtain⟨M,E,S,fl,E',S',e,r,st,q⟩:=z
 obtain⟨⟨w1,S1⟩,e1,e⟩:=BB e
 dsimp only at e
 split at e
 ·refine⟨M,E,S,_,S1,e1,r,st,fun H1 M1 g1 st1=>?_⟩
  refine Xf ?_
  exact⟨M1,E,S1,fl,E',S',e,r.step g1.st,st1,q.later g1⟩
 ·refine⟨M,E,S,_,S1,e1,r,st,fun H1 M1 g1 st1=>?_⟩
  refine YG ?_
  exact⟨M1,E,S1,fl,E',S',e,r.step g1.st,st1,q.later g1⟩
 ·cases e⟩
noncomputable def Bf(k:Ev):Ex:=fun E S=>(k E S).map fun r=>(.ret r.1,E,r.2)
theorem AX(h:DE X e k):DS X (.Return (some e) pos) (Bf k):=⟨FN (ZC h.pe) fun Dn σ H z=>by
 obtain⟨M,E,S,fl,E',S',e,r,st,q⟩:=z
 obtain⟨⟨d,S1⟩,e1,e⟩:=Jo e
 cases e
 exact⟨M,E,S,d,S1,e1,r,st,fun v H1 M1 g1 st1 r1=>q _ _ M1 g1 st1 r1⟩⟩
end
section
variable{K:PySem.W.Frag}{M:Ms}{E:En}{σ:Sg}{H:Hp}{i:Nat}{d:D}{v:V}
theorem EnR.put(r:EnR K M E σ H)(rd:Dq K M H v d):EnR K M (E.set i (some d)) (σ.set i (some v)) H:=by
 refine⟨by rw[List.length_set,List.length_set];exact r.len,fun j e ej=>?_⟩
 by_cases h:i=j
 ·subst h
  by_cases hi:i<E.length
  ·rw[List.getElem?_set_self hi]at ej
   cases ej
   exact⟨v,List.getElem?_set_self (by rw[←r.len];exact hi),rd⟩
  ·rw[List.getElem?_eq_none_iff.mpr (by rw[List.length_set];omega)]at ej;cases ej
 ·rw[List.getElem?_set_ne h]at ej
  obtain⟨v',h1,h2⟩:=r.val j e ej
  exact⟨v',by rw[List.getElem?_set_ne h];exact h1,h2⟩
end
noncomputable def BW(i:Nat)(k:Ev):Ex:=fun E S=>(k E S).map fun r=>(.nx,E.set i (some r.1),r.2)
theorem Ah{X:Cx}{e:Expr}{k:Ev}{pos pos':Pos}(i:Nat){x:Str}(h:DE X e k)(hN:X.N.Nodup)(hi:X.N[i]?=some x:=by rfl)(hx:Loc X.env.scope x:=by first|exact Or.inl rfl|exact Or.inr rfl)
  (hs:swapsWith e (some (.Name x pos')) pos.line X.env=pure false:=by rfl) (hf:X.fn x=true∨X.env.scope.names.lookup x=some .local:=by first|exact .inl rfl|exact .inr rfl):DS X (.Assign [.Name x pos'] e pos) (BW i k):=⟨
 FN (Zf hN hi hx h.pe hs hf) fun Dn σ H z=>by
  obtain⟨M,E,S,fl,E',S',e,r,st,q⟩:=z
  obtain⟨⟨d,S1⟩,e1,e⟩:=Jo e
  cases e
  exact⟨M,E,S,d,S1,e1,r,st,fun v H1 M1 g1 st1 r1=>q _ _ M1 g1 ((r.step g1.st).put r1) st1⟩⟩
noncomputable def B9(k:Ev):Ex:=fun E S=>(k E S).map fun r=>(.nx,E,r.2)
theorem Bt{X:Cx}{e:Expr}{k:Ev}{pos:Pos}(h:DE X e k)(hs:swapsWith e none pos.line X.env=pure false:=by rfl):DS X (.Expr e pos) (B9 k):=⟨FN (X4 h.pe hs) fun Dn σ H z=>by
 obtain⟨M,E,S,fl,E',S',e,r,st,q⟩:=z
 obtain⟨⟨d,S1⟩,e1,e⟩:=Jo e
 cases e
 exact⟨M,E,S,d,S1,e1,r,st,fun v H1 M1 g1 st1 r1=>q _ _ M1 g1 (r.step g1.st) st1⟩⟩
noncomputable def DN(S:Sto)(n:Nat):Option (List D):=match S[n]? with
 |some (.lst ds)=>some ds
 |_=>none
theorem Ck{S:Sto}{n:Nat}{ds:List D}(h:DN S n=some ds):S[n]?=some (.lst ds):=by
 unfold DN at h
 split at h
 ·rename_i e
  cases h
  exact e
 ·cases h
abbrev Mo:=Sto->List D->List D->Option (D×List D)
noncomputable def Hz(op:Mo)(f:Ev)(fs:List Ev):Ev:=fun E S=>(f E S).bind fun r=>match r.1 with
 | .ref n=>(DN r.2 n).bind fun _=>(evs fs E r.2).bind fun p=>(DN p.2 n).bind fun ds=>(op p.2 ds p.1).map fun q=>(q.1,p.2.set n (.lst q.2))
 |_=>none
def bq(K:PySem.W.Frag)(op:Mo):V->List V->Hp->VK->Prop:=fun x vs H Q=>∃M S n a ds args d ds',x=.ref a/\M.cel[n]?=some a/\S[n]?=some (.lst ds)/\op S ds args=some (d,ds')/\StR K M S H/\As K M H vs args/\∀v H',StR K M (S.set n (.lst ds')) H'->Gr M H M H'->Dq K M H' v d->Q v H'
section
variable{X:Cx}
theorem aL{op:Mo}{f:Ev}{fs:List Ev}{σ:Sg}{H:Hp}{Q:VK}(h:tD X.K (Hz op f fs) σ H Q):tBM X.K "list" (bq X.K op) (tD X.K f) (tDs X.K fs) σ H Q:=by
  obtain⟨M,E,S,d,S',e,r,st,q⟩:=h
  obtain⟨⟨d1,S1⟩,e1,e⟩:=BB e
  dsimp only at e
  split at e
  · rename_i n
    obtain⟨ds0,e2,e⟩:=BB e
    obtain⟨⟨args,S2⟩,e3,e⟩:=BB e
    obtain⟨ds,e4,e⟩:=BB e
    obtain⟨⟨dd,ds'⟩,e5,e⟩:=Jo e
    cases e
    refine⟨M,E,S,_,S1,e1,r,st,fun v H1 M1 g1 st1 r1=>?_⟩
    cases r1 with
    | ref hc =>
      rename_i a
      obtain⟨xs,h1,h2⟩:=st1.cell n a _ hc (Ck e2)
      refine⟨.inl ⟨rfl,xs,.of h1⟩,?_⟩
      refine Hy e3 (r.step g1.st) st1 fun vs H2 M2 g2 st2 r2=>?_
      exact⟨M2,S2,n,a,ds,args,dd,ds',rfl,Jb g2.pre hc,Ck e4,e5,st2,r2,fun v H3 st3 g3 r3=>q _ _ M2 ((g1.trans g2).trans g3) st3 r3⟩
  ·cases e
theorem FV{id:String}{name:Str}{o e:Expr}{es:List Expr}{op:Mo}{f:Ev}{fs:List Ev}{apos cpos:Pos}(slot:Slot "list" name id)(hty:typeOf (.builtin id)=pure (.type "method_descriptor"))(hm:MtR X id (bq X.K op))(ho:DE X o f)(ha:DEs X (e::es) fs)
  (hbase:attributeBase o name X.env (eval o X.env)=eval o X.env:=by rfl)
  (hfew:((backTo cpos (starEach (e::es) X.env)).all (fun x=> !x.1) && (backToKw cpos (keywordEach [] X.env)).all (fun x=>x.1.isSome)
   && decide ((e::es).length+([]:List Keyword).length+(if([]:List Keyword).isEmpty then 0 else 1)<30))=true:=by rfl)
  (hline:(apos.endLine==cpos.line)=true:=by rfl) (hs:starEach (e::es) X.env=(false,eval e X.env)::starEach es X.env:=by rfl) (hplain:(backTo cpos (starEach es X.env)).any (·.1)=false:=by rfl):
  DE X (.Call (.Attribute o name apos) (e::es) [] cpos) (Hz op f fs):=⟨B7 (dX PySem.F.plainAttrs_list slot hty hm ho.pe ha.pe hbase hfew hline hs hplain) fun σ H Q z=>aL z⟩
noncomputable def II:Mo
 |_,ds,[x]=>if ds.length<sizeLine then some (.non,ds++[x])else none
 |_,_,_=>none
theorem P5{K:PySem.W.Frag}{M:Ms}{H:Hp}{vs:List V}{d:D}(h:As K M H vs [d]):∃v,vs=[v]/\Dq K M H v d:=by
 cases h with
 |cons h t=>cases t;exact⟨_,rfl,h⟩
theorem D5:MtR X "list.append" (bq X.K II):=by
 intro pins s σ H x vs v us Q I rx rv h
 obtain⟨M,S,n,a,ds,args,d,ds',rfl,hc,hn,e,st,ra,q⟩:=h
 unfold II at e
 split at e
 ·split at e
  ·rename_i hz
   cases e
   obtain⟨xs,h1,h2⟩:=st.cell n a _ hc hn
   obtain⟨y,rfl,ry⟩:=P5 ra
   obtain⟨st2,g2⟩:=st.chg hc hn (h2.append (.cons ry .nil))
   exact OY pins s σ H _ _ v us Q I rx rv ⟨a,xs,y,rfl,rfl,h1,by rw[h2.length];exact hz,q _ _ st2 g2 .non⟩
  ·cases e
 ·cases e
end
noncomputable def KS(k f o:Ev):Ex:=fun E S=>(k E S).bind fun r=>(f E r.2).bind fun b=>(o E b.2).bind fun i=>match b.1,i.1 with
 | .ref n,.int j=>(DN i.2 n).bind fun ds=>(ixN ds.length j).map fun m=>(.nx,E,i.2.set n (.lst (ds.set m r.1)))
 |_,_=>none
theorem B5{X:Cx}{e t bs:Expr}{k f o:Ev}{ps pos:Pos}(h:DE X e k)(hb:DE X bs f)(ht:DE X t o)
    (ha:∀v,assign (.Subscript bs t ps) X.env v=(do
      let ov←holding [v] (eval bs X.env)
      let iv←holding [v,ov] (eval t X.env)
      standAt ps
      holding [v,ov,iv] (setItem ov iv v)
      release [v,ov,iv] []):=by intro _;rfl)
    (hs:swapsWithSole [.Subscript bs t ps] e pos.line X.env=pure false:=by rfl) (hw:swappedStores [.Subscript bs t ps] e X.env=pure none:=by rfl)
    (h1:(assignEach [.Subscript bs t ps] X.env).map (·.2)=[assign (.Subscript bs t ps) X.env]:=by rfl):
    DS X (.Assign [.Subscript bs t ps] e pos) (KS k f o):=⟨
  FN (WN h.pe (Yr hb.pe ht.pe set_list ha) hs hw h1) fun Dn σ H z=>by
    obtain⟨M,E,S,fl,E',S',e,r,st,q⟩:=z
    obtain⟨⟨d,S1⟩,e1,e⟩:=BB e
    obtain⟨⟨b,S2⟩,e2,e⟩:=BB e
    obtain⟨⟨i,S3⟩,e3,e⟩:=BB e
    dsimp only at e e1 e2 e3
    split at e
    · rename_i n j _
      obtain⟨ds,e4,e⟩:=BB e
      obtain⟨m,e5,e⟩:=Jo e
      cases e
      refine⟨M,E,S,d,S1,e1,r,st,fun v H1 M1 g1 st1 r1=>?_⟩
      refine⟨M1,E,S1,_,S2,e2,r.step g1.st,st1,fun bv H2 M2 g2 st2 r2=>?_⟩
      refine⟨M2,E,S2,_,S3,e3,(r.step g1.st).step g2.st,st2,fun iv H3 M3 g3 st3 r3=>?_⟩
      cases r3
      cases r2 with
      | ref hc =>
        rename_i a
        have hc3:=Jb g3.pre hc
        obtain⟨xs,h1,h2⟩:=st3.cell n a _ hc3 (Ck e4)
        obtain⟨st4,g4⟩:=st3.chg hc3 (Ck e4) (h2.set ((r1.step g2.st).step g3.st) m)
        have g:=((g1.trans g2).trans g3).trans g4
        exact⟨a,xs,j,m,rfl,rfl,h1,by rw[h2.length];exact e5,q _ _ M3 g (r.step g.st) st4⟩
    ·cases e⟩
abbrev Fn:=List D->Sto->Option (D×Sto)
noncomputable def flD:Fl->D
 | .nx=>.non
 | .ret d=>d
noncomputable def A9(N:Nat)(body:Ex):Fn:=fun ds S=>(body (ds.map some++List.replicate (N-ds.length) none) S).map fun r=>(flD r.1,r.2.2)
def A5{α:Type}(a:α):α:=Classical.choose (⟨a,rfl⟩:∃x,x=a)
theorem SJ{α:Type}(a:α):A5 a=a:=Classical.choose_spec (⟨a,rfl⟩:∃x,x=a)
noncomputable def spD(K:PySem.W.Frag)(np:Nat)(f:Fn):Sp:=fun vs H Q _=>∃M ds S d S',ds.length=np/\f ds S=some (d,S')/\As K M H vs ds/\StR K M S H/\∀v H' M',Gr M H M' H'->StR K M' S' H'->Dq K M' H' v d->Q v H'
theorem O1{α:Type}{xs:List α}{i:Nat}{x:α}(h:(xs.map some)[i]?=some (some x)):xs[i]?=some x:=by
 rw[List.getElem?_map]at h
 cases e:xs[i]? with
 |none=>rw[e]at h;cases h
 |some y=>rw[e]at h;cases h;rfl
theorem Sq{α:Type}{xs:List (Option α)}{k i:Nat}{x:α}(h:(xs++List.replicate k none)[i]?=some (some x)):xs[i]?=some (some x):=by
 by_cases hi:i<xs.length
 ·rw[List.getElem?_append_left hi]at h;exact h
 ·rw[List.getElem?_append_right (by omega),List.getElem?_replicate]at h
  split at h<;>cases h
theorem Yb{α:Type}{xs:List (Option α)}{k i:Nat}{x:Option α}(h:xs[i]?=some x):(xs++List.replicate k none)[i]?=some x:=by
 rw[List.getElem?_append_left (List.getElem?_eq_some_iff.mp h).1];exact h
theorem EnR.args{K:PySem.W.Frag}{M:Ms}{H:Hp}{vs:List V}{ds:List D}(r:As K M H vs ds)(k:Nat):EnR K M (ds.map some++List.replicate k none) (vs.map some++List.replicate k none) H:=by
 refine⟨by simp[r.length],fun i d e=>?_⟩
 obtain⟨v,h1,h2⟩:=r.get (O1 (Sq e))
 exact⟨v,Yb (by rw[List.getElem?_map,h1];rfl),h2⟩
section
variable{P:Program}{w:World}{K:PySem.W.Frag}{mg:Str->Option Value}{base:Heap}
theorem Yq{x:Str}{st:Stmt}{f:Addr}{fd:FuncData}{N ps:List Str}{k np:Nat}{b:Ex}(Fu:Fun K x x st f fd)(S:AU N ps (AI st))(hp:ps.length=np)
  (hb:∀(cdv:Value) (A:Around) (outer:List PySem.Env) (s:Shared) (H:Hp) (E:XK),MT k (A.deeper (PyProof.Rows.envOfC x (AI st) s.heap.objs.size f cdv))->DSs (WR CX0 P w K mg base N x (AI st) f cdv A outer s H E).nox (GS st) b):
  Om P w K mg base CX0 (k+1) f fd ps (spD K np (A5 (A9 N.length b))):=by
 rw[SJ]
 refine Fu.ok S (fun vs H Q E h=>?_) (fun cdv A outer s H vs Q E hr h=>?_)
 ·obtain⟨M,ds,S0,d,S',hl,_,r,_⟩:=h
  have:=r.length
  omega
 ·obtain⟨M,ds,S0,d,S',hl,e,r,st,q⟩:=h
  have hlen:=r.length
  refine⟨_,(hb cdv A outer s H E hr).pe,?_⟩
  obtain⟨⟨fl,E',S1⟩,e1,e⟩:=Jo e
  cases e
  refine⟨M,_,S0,fl,E',S1,e1,?_,st,?_⟩
  ·rw[show L2.start N vs=vs.map some++List.replicate (N.length-ds.length) none from by unfold L2.start;rw[hlen]]
   exact .args r _
  ·cases fl with
   |nx=>exact fun σ' H' M' g _ st'=>q _ _ M' g st' .non
   |ret d=>exact fun v H' M' g st' r'=>q _ _ M' g st' r'
theorem Ag{x:Str}{st:Stmt}{N ps:List Str}{k np:Nat}{b:Ex}(S:St.Src K mg x st)(sc:AU N ps (AI st))(hp:ps.length=np)
  (hbi:∀f fd,Fun K x x st f fd->Binds K fd ps [])
  (hb:∀(f:Addr) (cdv:Value) (A:Around) (outer:List PySem.Env) (s:Shared) (H:Hp) (E:XK),MT k (A.deeper (PyProof.Rows.envOfC x (AI st) s.heap.objs.size f cdv))->DSs (WR CX0 P w K mg base N x (AI st) f cdv A outer s H E).nox (GS st) b):
  St.Dfn P w K mg base x (k+1) ps (spD K np (A5 (A9 N.length b))):=by
 obtain⟨f,fd,Fu,hm⟩:=S.ex
 exact⟨f,fd,hm,Fu.kp,hbi f fd Fu,Yq Fu sc hp fun cdv A outer s H E hr=>hb f cdv A outer s H E hr⟩
end
noncomputable def AK(f:Fn)(fs:List Ev):Ev:=fun E S=>(evs fs E S).bind fun r=>f r.1 r.2
theorem XS{K:PySem.W.Frag}{np:Nat}{f:Fn}{fs:List Ev}{σ:Sg}{H:Hp}{Q:VK}(hn:fs.length=np)(h:tD K (AK f fs) σ H Q):Xt (spD K np f) [] E0 (tDs K fs) σ H Q:=by
 obtain⟨M,E,S,d,S',e,r,st,q⟩:=h
 obtain⟨⟨ds,S1⟩,e1,e⟩:=BB e
 refine Hy e1 r st fun vs H1 M1 g1 st1 r1=>?_
 rw[List.append_nil]
 exact⟨M1,ds,S1,d,S',by rw[PK e1];exact hn,e,r1,st1,fun v H2 M2 g2 st2 r2=>q _ _ M2 (g1.trans g2) st2 r2⟩
theorem AH{X:Cx}{k np:Nat}{x:Str}{ps:List Str}{f:Fn}{e:Expr}{es:List Expr}{fs:List Ev}{p pos:Pos}(d:St.Dfn X.prog X.w X.K X.mg X.base x k ps (spD X.K np f))(hr:MT k X.A)(hg:Gl X x)(ha:DEs X (e::es) fs)
  (hn:fs.length=np:=by rfl) (hdb:(x==("__debug__":Str))=false:=by decide) (he:starEach (e::es) X.env=(false,eval e X.env)::starEach es X.env:=by rfl) (hpl:(backTo pos (starEach es X.env)).any (·.1)=false:=by rfl):
  DE X (.Call (.Name x p) (e::es) [] pos) (AK f fs):=⟨B7 (St.dY d hr hg ha.pe hdb he hpl) fun σ H Q z=>XS hn z⟩
abbrev Tf:=D->En->Sto->Option En
noncomputable def tG(K:PySem.W.Frag)(t:Tf):TG:=fun v σ H Q=>∃M d E E' S,t d E S=some E'/\EnR K M E σ H/\StR K M S H/\Dq K M H v d/\∀σ',EnR K M E' σ' H->Q σ' H
structure DG(X:Cx)(tg:Expr)(t:Tf):Prop where
 pe:PG X tg (tG X.K t)
noncomputable def tNm(i:Nat):Tf:=fun d E _=>some (E.set i (some d))
theorem Sl{X:Cx}{e:Expr}{t t':TG}(h:PG X e t)(m:∀v σ H Q,t' v σ H Q->t v σ H Q):PG X e t':=fun pins s σ H v u Q I r q=>h pins s σ H v u Q I r (m _ _ _ _ q)
theorem Ab{X:Cx}{pos:Pos}(i:Nat){x:Str}(hN:X.N.Nodup)(hi:X.N[i]?=some x:=by rfl)(hx:Loc X.env.scope x:=by first|exact Or.inl rfl|exact Or.inr rfl)
  (hf:X.fn x=true∨X.env.scope.names.lookup x=some .local:=by first|exact .inl rfl|exact .inr rfl):DG X (.Name x pos) (tNm i):=⟨Sl (YR hN hi hx hf) fun v σ H Q z=>by
 obtain⟨M,d,E,E',S,e,r,st,rd,q⟩:=z
 cases e
 exact q _ (r.put rd)⟩
noncomputable def tMs:List Tf->List D->En->Sto->Option En
 | [],[],E,_=>some E
 |t::ts,d::ds,E,S=>(t d E S).bind fun E1=>tMs ts ds E1 S
 |_,_,_,_=>none
noncomputable def tTp(ts:List Tf):Tf:=fun d E S=>match d with
 | .tup ds=>tMs ts ds E S
 | .lst ds=>tMs ts ds E S
 | .ref n=>(DN S n).bind fun ds=>tMs ts ds E S
 |_=>none
noncomputable def tGs(K:PySem.W.Frag):List Tf->TGs
 | []=>fD
 |t::ts=>ZS (tG K t) (tGs K ts)
theorem Po{K:PySem.W.Frag}{M:Ms}{H:Hp}{S:Sto}(st:StR K M S H):∀{ts:List Tf} {ds:List D} {vs:List V} {E E':En} {σ:Sg} {Q:Sg->Hp->Prop},tMs ts ds E S=some E'->EnR K M E σ H->As K M H vs ds->(∀σ',EnR K M E' σ' H->Q σ' H)->tGs K ts vs σ H Q
  | [],[],_,E,E',σ,Q,e,r,rd,q=>by
    cases e
    cases rd
    exact⟨rfl,q _ r⟩
  | t :: ts, d :: ds, _, E, E', σ, Q, e, r, rd, q => by
    obtain⟨E1,e1,e⟩:=BB e
    cases rd with
    |cons h1 h2=>exact⟨_,_,rfl,M,d,E,E1,S,e1,r,st,h1,fun σ1 r1=>Po st e r1 h2 q⟩
  | [],_::_,_,E,E',σ,Q,e,r,rd,q=>by cases e
  |_::_,[],_,E,E',σ,Q,e,r,rd,q=>by cases e
theorem NI:∀{ts:List Tf} {ds:List D} {E E':En} {S:Sto},tMs ts ds E S=some E'->ds.length=ts.length
  | [],[],_,_,_,_=>rfl
  | t :: ts, d :: ds, E, E', S, e => by
    obtain⟨E1,e1,e⟩:=BB e
    simp[NI e]
  | [],_::_,_,_,_,e=>by cases e
  |_::_,[],_,_,_,e=>by cases e
structure DGs(X:Cx)(es:List Expr)(ts:List Tf):Prop where
 pe:PGs X es (tGs X.K ts)
theorem BF{X:Cx}:DGs X [] []:=⟨W6⟩
theorem AO{X:Cx}{e:Expr}{es:List Expr}{t:Tf}{ts:List Tf}(h:DG X e t)(g:DGs X es ts)(hs:(assignEach (e::es) X.env).map (·.2)=assign e X.env::(assignEach es X.env).map (·.2):=by rfl):DGs X (e::es) (t::ts):=⟨VI h.pe g.pe hs⟩
theorem DV{X:Cx}{k:Nat}{es:List Expr}{ts:List Tf}{pos:Pos}(hc:X.calm=true)(h:DGs X es ts)(hn:(assignEach es X.env).length=ts.length:=by rfl)(hst:(assignEach es X.env).findIdx? (·.1)=none:=by rfl):DG X (.Tuple es k pos) (tTp ts):=⟨
  Sl (Za hc h.pe hn hst) fun v σ H Q z=>by
    obtain⟨M,d,E,E',S,e,r,st,rd,q⟩:=z
    unfold tTp at e
    split at e
    · cases rd with
      |tup h1 h2=>exact⟨_,_,rfl,.inl h1,by rw[h2.length];exact NI e,Po st e r h2 q⟩
    · cases rd with
      |lst h1 n h2=>exact⟨_,_,rfl,.inr h1,by rw[h2.length];exact NI e,Po st e r h2 q⟩
    · obtain ⟨ds, e1, e⟩ := BB e
      cases rd with
      | ref hc =>
        obtain⟨xs,h1,h2⟩:=st.cell _ _ _ hc (Ck e1)
        exact⟨_,_,rfl,.inr h1,by rw[h2.length];exact NI e,Po st e r h2 q⟩
    ·cases e⟩
noncomputable def OS(t:Tf)(k:Ev):Ex:=fun E S=>(k E S).bind fun r=>(t r.1 E r.2).map fun E'=>(.nx,E',r.2)
theorem Ft{X:Cx}{tg e:Expr}{t:Tf}{k:Ev}{pos:Pos}(h:DE X e k)(hg:DG X tg t)(hs:swapsWithSole [tg] e pos.line X.env=pure false:=by rfl)(hw:swappedStores [tg] e X.env=pure none:=by rfl)
  (h1:(assignEach [tg] X.env).map (·.2)=[assign tg X.env]:=by rfl):DS X (.Assign [tg] e pos) (OS t k):=⟨FN (WN h.pe hg.pe hs hw h1) fun Dn σ H z=>by
 obtain⟨M,E,S,fl,E',S',e,r,st,q⟩:=z
 obtain⟨⟨d,S1⟩,e1,e⟩:=BB e
 obtain⟨E2,e2,e⟩:=Jo e
 cases e
 exact⟨M,E,S,d,S1,e1,r,st,fun v H1 M1 g1 st1 r1=>⟨M1,d,E,_,S1,e2,r.step g1.st,st1,r1,fun σ' r2=>q _ _ M1 g1 r2 st1⟩⟩⟩
noncomputable def Qs(i j:Nat)(f g:Ev):Ex:=fun E S=>(evs [f,g] E S).bind fun r=>match r.1 with
 | [d,d']=>some (.nx,(E.set i (some d)).set j (some d'),r.2)
 |_=>none
theorem J6{X:Cx}{i j:Nat}{x y:Str}{a b:Expr}{f g:Ev}{px py pt:Pos}{kt k2:Nat}{pt2 pos:Pos}(hc:X.calm=true)(hN:X.N.Nodup)(hi:X.N[i]?=some x)(hj:X.N[j]?=some y)(hij:i≠j)
    (hx:X.env.scope.names.lookup x=some .local) (hy:X.env.scope.names.lookup y=some .local) (ha:DE X a f) (hb:DE X b g)
    (hw:swappedStores [.Tuple [.Name x px,.Name y py] kt pt] (.Tuple [a,b] k2 pt2) X.env=pure (some [x,y]):=by rfl)
    (hsa:starEach [a,b] X.env=(false,eval a X.env)::starEach [b] X.env:=by rfl) (hsb:starEach [b] X.env=(false,eval b X.env)::starEach [] X.env:=by rfl)
    (hs:swapsWithSole [.Tuple [.Name x px,.Name y py] kt pt] (.Tuple [a,b] k2 pt2) pos.line X.env=pure false:=by rfl):DS X (.Assign [.Tuple [.Name x px,.Name y py] kt pt] (.Tuple [a,b] k2 pt2) pos) (Qs i j f g):=⟨by
  refine FN (Zu hc hN hi hj hij hx hy (NM ha.pe (NM hb.pe RL hsb) hsa) hw hs) fun Dn σ H z=>?_
  obtain⟨M,E,S,fl,E',S',e,r,st,q⟩:=z
  obtain⟨⟨ds,S1⟩,e1,e⟩:=BB e
  refine Hy (K:=X.K) (fs:=[f,g]) e1 r st fun vs H1 M1 g1 st1 r1=>?_
  dsimp only at e
  split at e
  · rename_i d d'
    cases e
    cases r1 with
    | cons h1 t =>
      cases t with
      | cons h2 t =>
        cases t
        exact⟨_,_,rfl,q _ _ M1 g1 (((r.step g1.st).put h1).put h2) st1⟩
  ·cases e⟩
noncomputable def O3:Ex:=fun _ _=>none
theorem Kb{X:Cx}{st:Stmt}:DS X st O3:=⟨fun _ _ _ _ _ _ z=>by
 obtain⟨M,E,S,fl,E',S',e,_⟩:=z
 cases e⟩
abbrev Gd:=List (Nat×List D)
def gOk(gs:Gd)(S:Sto):Prop:=∀g∈gs,DN S g.1=some g.2
abbrev Sr:=En->Sto->Option ((List D×Gd)×Sto)
structure ZY(K:PySem.W.Frag)(M:Ms)(H:Hp)(gs:Gd)(ds:List D)(J:It):Prop where
 go:∀(i:Nat) (H2:Hp) (M2:Ms) (S2:Sto),Sp1 M H M2 H2->StR K M2 S2 H2->gOk gs S2->i<ds.length->J.go i H2
 stop:∀(i:Nat) (H2:Hp) (M2:Ms) (S2:Sto),Sp1 M H M2 H2->StR K M2 S2 H2->gOk gs S2->ds.length≤i->J.stop i H2
 yld:∀(i:Nat) (H2:Hp) (M2:Ms) (S2:Sto) (x:V) (H3:Hp) (d:D),Sp1 M H M2 H2->StR K M2 S2 H2->gOk gs S2->ds[i]?=some d->J.yld i H2 x H3->(∀a o,H2 a=some o->H3 a=some o)/\Dq K M2 H3 x d
noncomputable def tI(K:PySem.W.Frag)(s:Sr):TI:=fun σ H R=>∃M E S ds gs S',s E S=some ((ds,gs),S')/\EnR K M E σ H/\StR K M S H/\∀J H' M',Gr M H M' H'->StR K M' S' H'->ZY K M' H' gs ds J->R J H'
structure DI(X:Cx)(tg iter:Expr)(s:Sr):Prop where
 pe:PI X tg iter (tI X.K s)
theorem NQ{X:Cx}{tg e:Expr}{t t':TI}(h:PI X tg e t)(m:∀σ H R,t' σ H R->t σ H R):PI X tg e t':=fun pins s σ H R I q=>h pins s σ H R I (m _ _ _ q)
noncomputable def gS(K:PySem.W.Frag)(tl:TE):TI:=fun σ H R=>tl σ H fun x H1=>∃a,x=.ref a/\(((∃xs,SqL K H1 a xs)/\R (Itl K a) H1)∨((∃xs,SqT K H1 a xs)/\R (Itt K a) H1))
theorem Y5{X:Cx}{tg l:Expr}{tl:TE}(hl:PE X l tl):PI X tg l (gS X.K tl):=by
 intro pins s σ H R I h
 refine thn (hl pins s σ H _ I h) fun v s1 ⟨x,H1,I1,r1,q1⟩=>?_
 obtain⟨a,e,q1⟩:=q1
 subst e
 cases r1
 rcases q1 with⟨⟨xs,hq⟩,q⟩|⟨⟨xs,hq⟩,q⟩
 ·obtain⟨its,rv,p,hz⟩:=I1.list hq
  refine wpAny_pyIter_list p.isList ?_
  refine⟨s1.heap.objs.size,[s1.heap.objs.size],_,_,H1,rfl,I1.kept (t':=s1.toks) fun b o e=>Heap.get?_push_of_some _ e,Sj a _,⟨_,Heap.get?_push_size _ rfl,rfl,rfl⟩,fun b hb=>?_,q⟩
  have e:b=s1.heap.objs.size:=by simpa using hb
  subst e
  exact I1.fpOk (Nat.le_refl _) (I1.hok.fresh (Nat.le_refl _))
 ·obtain⟨its,rv,p,hz⟩:=I1.tuple hq
  refine wpAny_pyIter_tuple (show s1.heap.IsTuple a its.toArray from p) ?_
  refine⟨s1.heap.objs.size,[s1.heap.objs.size],_,_,H1,rfl,I1.kept (t':=s1.toks) fun b o e=>Heap.get?_push_of_some _ e,Qp a _,⟨_,Heap.get?_push_size _ rfl,rfl,rfl⟩,fun b hb=>?_,q⟩
  have e:b=s1.heap.objs.size:=by simpa using hb
  subst e
  exact I1.fpOk (Nat.le_refl _) (I1.hok.fresh (Nat.le_refl _))
theorem As.get'{K:PySem.W.Frag}{M:Ms}{H:Hp}{vs:List V}{ds:List D}{i:Nat}(h:As K M H vs ds)(hi:i<ds.length):∃x,vs[i]?=some x:=by
 have:=h.length
 exact⟨vs[i],List.getElem?_eq_getElem (by omega)⟩
structure SqF(K:PySem.W.Frag)(M:Ms)(H:Hp)(gs:Gd)(k:Bool)(a:Addr)(ds:List D):Prop where
 keep:∀(H2:Hp) (M2:Ms) (S2:Sto),Sp1 M H M2 H2->StR K M2 S2 H2->gOk gs S2->∃xs,(if k=true then SqT K H2 a xs else SqL K H2 a xs)/\As K M2 H2 xs ds
noncomputable def sqD(S:Sto):D->Option (List D×Gd)
 | .tup ds=>some (ds,[])
 | .lst ds=>some (ds,[])
 | .ref n=>(DN S n).map fun ds=>(ds,[(n,ds)])
 | .scr ns=>some (ns.map .int,[])
 |_=>none
theorem QD{K:PySem.W.Frag}{M:Ms}{H:Hp}{S:Sto}{v:V}{d:D}{ds:List D}{gs:Gd}(st:StR K M S H)(h:Dq K M H v d)(e:sqD S d=some (ds,gs)):∃k a,v=.ref a/\SqF K M H gs k a ds:=by
  cases h with
  |tup h r=>cases e;exact⟨true,_,rfl,⟨fun H2 M2 S2 g _ _=>⟨_,g.sqT h,r.step g⟩⟩⟩
  |lst h n r=>cases e;exact⟨false,_,rfl,⟨fun H2 M2 S2 g _ _=>⟨_,SqL.of (g.keep _ _ h n),r.step g⟩⟩⟩
  | scr h =>
    cases e
    refine⟨false,_,rfl,⟨fun H2 M2 S2 g _ _=>⟨_,?_,KQ⟩⟩⟩
    rcases h with⟨h,n⟩|h
    · rcases h with h | ⟨o, h⟩
      ·exact .inl (.inl (g.keep _ _ h n))
      ·exact .inl (.inr ⟨o,g.keep _ _ h n⟩)
    ·exact .inr h
  | ref h =>
    obtain⟨es,e1,e⟩:=Jo e
    cases e
    refine⟨false,_,rfl,⟨fun H2 M2 S2 g st2 ok=>?_⟩⟩
    obtain⟨xs,h1,h2⟩:=st2.cell _ _ _ (Jb g.pre h) (Ck (ok _ (List.mem_singleton.mpr rfl)))
    exact⟨xs,SqL.of h1,h2⟩
  |non=>cases e
  |bl b=>cases e
  |int b=>cases e
  |str b=>cases e
  |ty b=>cases e
  |dct h n r=>cases e
theorem cP{K:PySem.W.Frag}{M:Ms}{H:Hp}{gs:Gd}{k:Bool}{a:Addr}{ds:List D}(h:SqF K M H gs k a ds):ZY K M H gs ds (if k=true then Itt K a else Itl K a):=by
  cases k with
  | true =>
    exact{
      go:=fun i H2 M2 S2 g st ok hi=>let⟨xs,h1,h2⟩:=h.keep H2 M2 S2 g st ok;let⟨x,hx⟩:=h2.get' hi;⟨xs,x,h1,hx⟩
      stop:=fun i H2 M2 S2 g st ok hi=>let⟨xs,h1,h2⟩:=h.keep H2 M2 S2 g st ok;⟨xs,h1,by have:=h2.length;omega⟩
      yld:=fun i H2 M2 S2 x H3 d g st ok hd hy=>by
        obtain⟨xs,h1,h2⟩:=h.keep H2 M2 S2 g st ok
        obtain⟨rfl,hy⟩:=hy
        refine⟨fun _ _ e=>e,?_⟩
        have hx:=hy xs h1
        obtain⟨x',h3,h4⟩:=h2.get hd
        rw[hx]at h3;cases h3
        exact h4}
  | false =>
    exact{
      go:=fun i H2 M2 S2 g st ok hi=>let⟨xs,h1,h2⟩:=h.keep H2 M2 S2 g st ok;let⟨x,hx⟩:=h2.get' hi;⟨xs,x,h1,hx⟩
      stop:=fun i H2 M2 S2 g st ok hi=>let⟨xs,h1,h2⟩:=h.keep H2 M2 S2 g st ok;⟨xs,h1,by have:=h2.length;omega⟩
      yld:=fun i H2 M2 S2 x H3 d g st ok hd hy=>by
        obtain⟨xs,h1,h2⟩:=h.keep H2 M2 S2 g st ok
        obtain⟨rfl,hy⟩:=hy
        refine⟨fun _ _ e=>e,?_⟩
        have hx:=hy xs h1
        obtain⟨x',h3,h4⟩:=h2.get hd
        rw[hx]at h3;cases h3
        exact h4}
noncomputable def FE(f:Ev):Sr:=fun E S=>(f E S).bind fun r=>(sqD r.2 r.1).map fun p=>(p,r.2)
theorem Nf{S:Sto}{d:D}{ds:List D}{gs:Gd}(e:sqD S d=some (ds,gs)):gOk gs S:=by
  cases d<;>first|(cases e;done)|skip
  all_goals first
    |(cases e;intro g hg;cases hg;done)
    | (obtain ⟨es, e1, e⟩ := Jo e
       cases e
       intro g hg
       rw[List.mem_singleton.mp hg]
       exact e1)
theorem Bq{X:Cx}{tg e:Expr}{f:Ev}(h:DE X e f):DI X tg e (FE f):=⟨NQ (Y5 h.pe) fun σ H R z=>by
 obtain⟨M,E,S,ds,gs,S',e,r,st,q⟩:=z
 obtain⟨⟨d,S1⟩,e1,e⟩:=BB e
 obtain⟨⟨ds',gs'⟩,e2,e⟩:=Jo e
 cases e
 refine⟨M,E,S,d,S1,e1,r,st,fun v H1 M1 g1 st1 r1=>?_⟩
 obtain⟨k,a,rfl,sq⟩:=QD st1 r1 e2
 obtain⟨xs,hs,_⟩:=sq.keep H1 M1 S1 (Gr.refl st1.mo).st st1 (Nf e2)
 have it:=cP sq
 refine⟨a,rfl,?_⟩
 cases k with
 |true=>exact .inr ⟨⟨xs,hs⟩,q _ _ M1 g1 st1 it⟩
 |false=>exact .inl ⟨⟨xs,hs⟩,q _ _ M1 g1 st1 it⟩⟩
noncomputable def JJ(lo:Int)(n:Nat):List D:=(List.range n).map fun(i:Nat)=>.int (lo+(i:Int))
theorem Zl{K:PySem.W.Frag}{M:Ms}{H:Hp}{lo:Int}{n:Nat}:ZY K M H [] (JJ lo n) (Itr lo n) where
  go := fun i H2 M2 S2 g st ok hi => by
    have:i<n:=by unfold JJ at hi;simpa using hi
    exact this
  stop:=fun i H2 M2 S2 g st ok hi=>by
    have:n≤i:=by unfold JJ at hi;simpa using hi
    exact this
  yld := fun i H2 M2 S2 x H3 d g st ok hd hy => by
    obtain⟨rfl,rfl⟩:=hy
    refine⟨fun _ _ e=>e,?_⟩
    unfold JJ at hd
    rw[List.getElem?_map]at hd
    cases e:(List.range n)[i]? with
    |none=>rw[e]at hd;cases hd
    | some j =>
      rw[e]at hd
      cases hd
      have:j=i:=by
        obtain⟨h1,h2⟩:=List.getElem?_eq_some_iff.mp e
        simpa using h2.symm
      subst this
      exact .int _
noncomputable def KR(fs:List Ev):Sr:=fun E S=>(evs fs E S).bind fun r=>match r.1 with
 | [.int j]=>if(decide (-(2^62)≤j) && decide (j<2^62))=true then some ((JJ 0 j.toNat,[]),r.2)else none
 | [.int i,.int j]=>if(decide (-(2^62)≤i) && decide (i<2^62) && decide (-(2^62)≤j) && decide (j<2^62))=true then some ((JJ i (j-i).toNat,[]),r.2)else none
 |_=>none
theorem Va{K:PySem.W.Frag}{M:Ms}{H:Hp}{vs:List V}{j:Int}(h:As K M H vs [.int j]):vs=[.int j]:=by
 cases h with
 |cons h t=>cases t;cases h;rfl
theorem EK{X:Cx}{tg a:Expr}{o:Ev}{p pos:Pos}(hg:Gl X "range")(hm:X.mg "range"=none)(ha:DEs X [a] [o])(hs:starEach [a] X.env=[(false,eval a X.env)]:=by rfl):DI X tg (.Call (.Name "range" p) [a] [] pos) (KR [o]):=⟨
 NQ (So hg hm ha.pe hs) fun σ H R z=>by
  obtain⟨M,E,S,ds,gs,S',e,r,st,q⟩:=z
  obtain⟨⟨ws,S1⟩,e1,e⟩:=BB e
  have hl:=PK e1
  refine Hy e1 r st fun vs H1 M1 g1 st1 r1=>?_
  dsimp only at e
  split at e
  ·split at e
   ·rename_i j hk
    rw[Bool.and_eq_true]at hk
    cases e
    exact⟨j,Va r1,of_decide_eq_true hk.1,of_decide_eq_true hk.2,q _ _ M1 g1 st1 Zl⟩
   ·cases e
  ·simp at hl
  ·cases e⟩
open Classical in
def JV(gs:Gd)(t:Tf)(body:Ex):List D->En->Sto->Option (Fl×En×Sto)
  | [],E,S=>if gOk gs S then some (.nx,E,S)else none
  | d :: ds, E, S => if gOk gs S then (t d E S).bind fun E1 => (body E1 S).bind fun r => match r.1 with
    | .nx=>JV gs t body ds r.2.1 r.2.2
    | .ret w=>some (.ret w,r.2)
    else none
def IC(s:Sr)(t:Tf)(body:Ex):Ex:=fun E S=>(s E S).bind fun r=>JV r.1.2 t body r.1.1 E r.2
theorem OZ{α:Type}{xs:List α}{i:Nat}{x:α}{r:List α}(h:xs.drop i=x::r):xs[i]?=some x/\xs.drop (i+1)=r/\i<xs.length:=by
 have hi:i<xs.length:=by
  by_cases hi:i<xs.length
  ·exact hi
  ·rw[List.drop_eq_nil_of_le (by omega)]at h;cases h
 rw[List.drop_eq_getElem_cons hi]at h
 cases h
 exact⟨List.getElem?_eq_getElem hi,rfl,hi⟩
theorem C7{X:Cx}{tg iter:Expr}{body:List Stmt}{s:Sr}{t:Tf}{b:Ex}{pos:Pos}(hp:PassesOwn (model X.prog X.w) X.A X.env X.xe)(hc:X.calm=true)(hi:DI X tg iter s)(hg:DG X tg t)(hb:DSs X body b)
    (hs:∀x,foldedSetIterable iter X.env x=pure x:=by intro _;rfl):DS X (.For tg iter body [] pos) (IC s t b):=⟨FN (ZN hp hc hi.pe hg.pe hb.pe hs) fun Dn σ H z=>by
  obtain⟨M,E,S,fl,E',S',e,r,st,q⟩:=z
  obtain⟨⟨⟨ds,gs⟩,S1⟩,e1,e⟩:=BB e
  dsimp only at e
  refine⟨M,E,S,ds,gs,S1,e1,r,st,fun J H1 M1 g1 st1 it=>?_⟩
  refine⟨fun i m σ' H'=>m=ds.length-i/\∃E2 S2 M2,JV gs t b (ds.drop i) E2 S2=some (fl,E',S')/\Gr M1 H1 M2 H'/\EnR X.K M2 E2 σ' H'/\StR X.K M2 S2 H',⟨_,rfl,E,S1,M1,e,.refl st1.mo,r.step g1.st,st1⟩,fun i m σ2 H2 hW=>?_⟩
  obtain⟨rfl,E2,S2,M2,e2,g2,r2,st2⟩:=hW
  cases ed:ds.drop i with
  | nil =>
    rw[ed]at e2
    unfold JV at e2
    split at e2
    · rename_i ok
      cases e2
      left
      exact⟨it.stop i H2 M2 _ g2.st st2 ok (List.drop_eq_nil_iff.mp ed),q _ _ M2 (g1.trans g2) r2 st2⟩
    ·cases e2
  | cons d rest =>
    obtain⟨d1,d2,d3⟩:=OZ ed
    rw[ed]at e2
    unfold JV at e2
    split at e2
    · rename_i ok
      obtain⟨E3,e3,e2⟩:=BB e2
      obtain⟨⟨f4,E4,S4⟩,e4,e2⟩:=BB e2
      dsimp only at e2
      right
      refine⟨it.go i H2 M2 S2 g2.st st2 ok d3,fun σ' H'=>∃m',m'<ds.length-i/\(m'=ds.length-(i+1)/\∃E2 S2 M2,JV gs t b (ds.drop (i+1)) E2 S2=some (fl,E',S')/\Gr M1 H1 M2 H'/\EnR X.K M2 E2 σ' H'/\StR X.K M2 S2 H'),fun σ' H' z=>z,fun x H3 hy=>?_⟩
      obtain⟨k3,rx⟩:=it.yld i H2 M2 S2 x H3 d g2.st st2 ok d1 hy
      have g3:Gr M2 H2 M2 H3:=.grow st2.mo k3
      refine⟨M2,d,E2,E3,S2,e3,r2.step g3.st,st2.grow k3,rx,fun σ4 r4=>?_⟩
      refine⟨M2,E3,S2,f4,E4,S4,e4,r4,st2.grow k3,?_⟩
      split at e2
      ·exact fun σ6 H6 M6 g6 r6 st6=>⟨_,by omega,rfl,E4,S4,M6,by rw[d2];exact e2,(g2.trans g3).trans g6,r6,st6⟩
      · cases e2
        exact fun v H6 M6 g6 st6 r6=>q _ _ M6 (((g1.trans g2).trans g3).trans g6) st6 r6
    ·cases e2⟩
noncomputable def Fp(c:Ev)(b:Ex):Nat->En->Sto->Option (Fl×En×Sto)
  |0,_,_=>none
  | k + 1, E, S => (c E S).bind fun r => match r.1 with
    | .bl true=>(b E r.2).bind fun p=>match p.1 with
      | .nx=>Fp c b k p.2.1 p.2.2
      | .ret w=>some (.ret w,p.2)
    | .bl false=>some (.nx,E,r.2)
    |_=>none
noncomputable def KD(fuel:En->Nat)(c:Ev)(b:Ex):Ex:=fun E S=>Fp c b (fuel E) E S
theorem N1 {X : Cx} {c : Expr} {body : List Stmt} {k : Ev} {b : Ex} {pos : Pos} (fuel : En -> Nat) (hp : PassesOwn (model X.prog X.w) X.A X.env X.xe) (hc : DT X c k) (hb : DSs X body b) : DS X (.While c body [] pos) (KD fuel k b) := ⟨
  FN (U7 hp hc.pe hb.pe) fun Dn σ H z=>by
    obtain⟨M,E,S,fl,E',S',e,r,st,q⟩:=z
    refine⟨fun m σ' H'=>∃E2 S2 M2,Fp k b m E2 S2=some (fl,E',S')/\Gr M H M2 H'/\EnR X.K M2 E2 σ' H'/\StR X.K M2 S2 H',⟨fuel E,E,S,M,e,.refl st.mo,r,st⟩,fun m σ2 H2 hW=>?_⟩
    obtain⟨E2,S2,M2,e2,g2,r2,st2⟩:=hW
    cases m with
    |zero=>cases e2
    | succ m =>
      obtain⟨⟨w3,S3⟩,e3,e2⟩:=BB e2
      dsimp only at e2
      split at e2
      · obtain ⟨⟨f4, E4, S4⟩, e4, e2⟩ := BB e2
        refine⟨M2,E2,S2,true,S3,e3,r2,st2,fun H3 M3 g3 st3=>?_⟩
        refine Xf ⟨fun σ' H'=>∃m',m'<m+1/\∃E2 S2 M2,Fp k b m' E2 S2=some (fl,E',S')/\Gr M H M2 H'/\EnR X.K M2 E2 σ' H'/\StR X.K M2 S2 H',fun σ' H' z=>z,?_⟩
        refine⟨M3,E2,S3,f4,E4,S4,e4,r2.step g3.st,st3,?_⟩
        dsimp only at e2
        split at e2
        ·exact fun σ5 H5 M5 g5 r5 st5=>⟨m,by omega,E4,S4,M5,e2,(g2.trans g3).trans g5,r5,st5⟩
        · cases e2
          exact fun v H5 M5 g5 st5 r5=>q _ _ M5 ((g2.trans g3).trans g5) st5 r5
      · cases e2
        refine⟨M2,_,S2,false,_,e3,r2,st2,fun H3 M3 g3 st3=>?_⟩
        refine YG ?_
        exact q _ _ M3 (g2.trans g3) (r2.step g3.st) st3
      ·cases e2⟩
noncomputable def Qz(i:Nat):En->Nat:=fun E=>match at? E i with
 |some (.int j)=>j.natAbs+2
 |_=>0
section
variable{K:PySem.W.Frag}{M M' M2:Ms}{H H' H2:Hp}{S:Sto}
structure GrX(M:Ms)(H:Hp)(M':Ms)(H':Hp):Prop where
 pre:M.cel <+: M'.cel
 fresh:∀a,a∈M'.cel->a∈M.cel∨H a=none
 keep:∀a o,H a=some o->a∉M.cel->H' a=some o
 some:∀a,H a≠none->H' a≠none
theorem GrX.none(g:GrX M H M' H'){a:Addr}(h:H' a=none):H a=none:=by
 cases e:H a with
 |none=>rfl
 |some o=>exact absurd h (g.some a (by rw[e];intro z;cases z))
theorem Gr.x(g:Gr M H M' H'):GrX M H M' H':=⟨g.pre,g.fresh,g.keep,g.some⟩
theorem GrX.trans(h:GrX M H M' H')(g:GrX M' H' M2 H2):GrX M H M2 H2:=
 ⟨h.pre.trans g.pre,fun a z=>(g.fresh a z).elim (h.fresh a) fun z=>.inr (h.none z),fun a o e n=>g.keep a o (h.keep a o e n) (fun z=>by
  rcases h.fresh a z with z|z
  ·exact n z
  ·rw[e]at z;cases z),fun a e=>g.some a (h.some a e)⟩
theorem StR.tmp_on(r:StR K M S H){a:Addr}(e:H a=none):StR K ⟨M.cel,a::M.tmp⟩ S (upd H a (.lst []))/\GrX M H ⟨M.cel,a::M.tmp⟩ (upd H a (.lst []))/\Sp1 M H ⟨M.cel,a::M.tmp⟩ (upd H a (.lst [])):=by
 have k:∀b o,H b=some o->upd H a (.lst []) b=some o:=Hd e
 have na:¬M.mem a:=fun z=>r.mo.some z e
 have s1:Sp1 M H ⟨M.cel,a::M.tmp⟩ (upd H a (.lst [])):=⟨r.mo,List.prefix_rfl,fun b z=>by
  rcases z with z|z
  ·exact .inl (.inl z)
  ·rcases List.mem_cons.mp z with z|z
   ·subst z;exact .inr e
   ·exact .inl (.inr z),fun b o eb _=>k b o eb⟩
 refine⟨⟨fun b z=>?_,r.nd,fun b hb z=>?_,r.len,fun n b c h1 h2=>?_⟩,⟨List.prefix_rfl,fun b z=>.inl z,fun b o eb _=>k b o eb,fun b eb z=>?_⟩,s1⟩
 ·by_cases h:b=a
  ·subst h;exact .inl ⟨[],CH⟩
  ·rw[BD h]
   refine r.mo b ?_
   rcases z with z|z
   ·exact .inl z
   ·rcases List.mem_cons.mp z with z|z
    ·exact absurd z h
    ·exact .inr z
 ·rcases List.mem_cons.mp hb with hb|hb
  ·subst hb;exact na (.inl z)
  ·exact r.nt b hb z
 ·have q:=r.cell n b c h1 h2
  cases c with
  |lst ds=>obtain⟨xs,e,rr⟩:=q;exact⟨xs,k _ _ e,rr.step s1⟩
  |dct ds=>obtain⟨xs,e,rr⟩:=q;exact⟨xs,k _ _ e,rr.step s1⟩
 ·cases h:H b with
  |none=>exact eb h
  |some o=>rw[k b o h]at z;cases z
theorem StR.tmp_app(r:StR K M S H){a:Addr}{ys:List V}(ha:a∈M.tmp):StR K M S (upd H a (.lst ys))/\Sp1 M H M (upd H a (.lst ys)):=by
 have s1:Sp1 M H M (upd H a (.lst ys)):=⟨r.mo,List.prefix_rfl,fun b z=>.inl z,fun b o eb nb=>by rw[BD (fun z=>nb (by rw[z];exact .inr ha))];exact eb⟩
 refine⟨⟨fun b z=>?_,r.nd,r.nt,r.len,fun n b c h1 h2=>?_⟩,s1⟩
 ·by_cases h:b=a
  ·subst h;exact .inl ⟨ys,CH⟩
  ·rw[BD h];exact r.mo b z
 ·have hb:b≠a:=fun z=>r.nt a ha (by rw[←z];exact List.mem_of_getElem? h1)
  have q:=r.cell n b c h1 h2
  cases c with
  |lst ds=>obtain⟨xs,e,rr⟩:=q;exact⟨xs,by rw[BD hb];exact e,rr.step s1⟩
  |dct ds=>obtain⟨xs,e,rr⟩:=q;exact⟨xs,by rw[BD hb];exact e,rr.step s1⟩
theorem StR.tmp_off{c:List Addr}{t:List Addr}{a:Addr}{xs:List V}{ds:List D}{cf:Bool}{d:D}{S':Sto}(r:StR K ⟨c,a::t⟩ S H)(nt:a∉t)(e:H a=some (.lst xs))(rr:As K ⟨c,a::t⟩ H xs ds)(ef:fin cf (.own ds) S=some (d,S')):
    ∃c',StR K ⟨c',t⟩ S' H/\Dq K ⟨c',t⟩ H (.ref a) d/\c <+: c'/\(∀b∈c',b∈c∨b=a):=by
  have nc:a∉c:=r.nt a List.mem_cons_self
  cases cf with
  | false =>
    cases ef
    have s1:Sp1 ⟨c,a::t⟩ H ⟨c,t⟩ H:=⟨r.mo,List.prefix_rfl,fun b z=>.inl (z.imp id (List.mem_cons_of_mem _)),fun _ _ e _=>e⟩
    refine⟨c,⟨fun b z=>r.mo b (z.imp id (List.mem_cons_of_mem _)),r.nd,fun b hb=>r.nt b (List.mem_cons_of_mem _ hb),r.len,fun n b cl h1 h2=>?_⟩,.lst e (fun z=>z.elim nc nt) (rr.step s1),List.prefix_rfl,fun b z=>.inl z⟩
    have q:=r.cell n b cl h1 h2
    cases cl with
    |lst ds=>obtain⟨xs,e,rr⟩:=q;exact⟨xs,e,rr.step s1⟩
    |dct ds=>obtain⟨xs,e,rr⟩:=q;exact⟨xs,e,rr.step s1⟩
  | true =>
    cases ef
    have s1:Sp1 ⟨c,a::t⟩ H ⟨c++[a],t⟩ H:=⟨r.mo,List.prefix_append _ _,fun b z=>by
      rcases z with z|z
      · rcases List.mem_append.mp z with z | z
        ·exact .inl (.inl z)
        ·exact .inl (.inr (by rw[List.mem_singleton.mp z];exact List.mem_cons_self))
      ·exact .inl (.inr (List.mem_cons_of_mem _ z)),fun _ _ e _=>e⟩
    have hl:c.length=S.length:=r.len
    refine⟨c++[a],⟨fun b z=>?_,?_,fun b hb z=>?_,by simp[hl],fun n b cl h1 h2=>?_⟩,.ref ?_,List.prefix_append _ _,fun b z=>?_⟩
    · refine r.mo b ?_
      rcases z with z|z
      · rcases List.mem_append.mp z with z | z
        ·exact .inl z
        ·exact .inr (by rw[List.mem_singleton.mp z];exact List.mem_cons_self)
      ·exact .inr (List.mem_cons_of_mem _ z)
    · rw [List.nodup_append]
      refine⟨r.nd,by simp,fun x hx y hy z=>?_⟩
      simp at hy;subst hy
      exact nc (by rw[←z];exact hx)
    · rcases List.mem_append.mp z with z | z
      ·exact r.nt b (List.mem_cons_of_mem _ hb) z
      ·rw[List.mem_singleton.mp z]at hb;exact nt hb
    · by_cases h : n < S.length
      · rw [List.getElem?_append_left (by rw [hl]; exact h)] at h1
        rw[List.getElem?_append_left h]at h2
        have q:=r.cell n b cl h1 h2
        cases cl with
        |lst ds=>obtain⟨xs,e,rr⟩:=q;exact⟨xs,e,rr.step s1⟩
        |dct ds=>obtain⟨xs,e,rr⟩:=q;exact⟨xs,e,rr.step s1⟩
      · have hm : n = S.length := by
          have:=(List.getElem?_eq_some_iff.mp h2).1
          simp at this;omega
        subst hm
        rw[List.getElem?_append_right (by rw[hl];exact Nat.le_refl _)]at h1
        rw[List.getElem?_append_right (Nat.le_refl _)]at h2
        rw[hl]at h1
        simp at h1 h2
        subst h1 h2
        exact⟨xs,e,rr.step s1⟩
    ·rw[←hl];exact List.getElem?_concat_length
    · rcases List.mem_append.mp z with z | z
      ·exact .inl z
      ·exact .inr (List.mem_singleton.mp z)
end
open Classical in
def Bx (gs : Gd) (t : Tf) (c : Ev) (f : Ev) : List D -> List D -> En -> Sto -> Option (List D × Sto)
  | [],acc,_,S=>if gOk gs S then some (acc,S)else none
  | d :: ds, acc, E, S => if gOk gs S then (if acc.length < sizeLine then (t d E S).bind fun E1 => (c E1 S).bind fun r => match r.1 with
      | .bl true=>(f E1 r.2).bind fun p=>Bx gs t c f ds (acc++[p.1]) E1 p.2
      | .bl false=>Bx gs t c f ds acc E1 r.2
      |_=>none
    else none)else none
noncomputable def BU:Ev:=fun _ S=>some (.bl true,S)
noncomputable def Qg(cap:List Nat)(m:Nat)(E:En):En:=cap.map (at? E)++List.replicate m none
def Mm(cf:Bool)(cap:List Nat)(m:Nat)(s:Sr)(t:Tf)(c:Ev)(f:Ev):Ev:=fun E S=>(s E S).bind fun r=>(Bx r.1.2 t c f r.1.1 [] (Qg cap m E) r.2).bind fun q=>fin cf (.own q.1) q.2
noncomputable abbrev B4:=Mm false
noncomputable abbrev OC:=Mm true
noncomputable def ixC(cap:List Nat)(m:Nat):List (Option Nat):=cap.map some++List.replicate m none
theorem EnR.cap{K:PySem.W.Frag}{M:Ms}{E:En}{σ:Sg}{H:Hp}(r:EnR K M E σ H)(cap:List Nat)(m:Nat):EnR K M (Qg cap m E) (sig (ixC cap m) σ) H:=by
  unfold Qg sig ixC
  refine⟨by simp,fun i d e=>?_⟩
  have h1:=Sq e
  rw[List.getElem?_map]at h1
  cases e1:cap[i]? with
  |none=>rw[e1]at h1;cases h1
  | some j =>
    rw[e1]at h1
    have h2:at? E j=some d:=by simpa using h1
    obtain⟨v,hv,rd⟩:=r.val j d (at?_some h2)
    refine⟨v,?_,rd⟩
    have hi:i<cap.length:=(List.getElem?_eq_some_iff.mp e1).1
    rw[List.map_append,List.getElem?_append_left (by simpa using hi),List.getElem?_map,List.getElem?_map,e1]
    show some ((σ[j]?).join)=some (some v)
    rw[hv]
    rfl
theorem SF {K : PySem.W.Frag} {cf : Bool} {cap : List Nat} {m : Nat} {s : Sr} {t : Tf} {c f : Ev} {σ : Sg} {H : Hp} {Q : VK} (h : tD K (Mm cf cap m s t c f) σ H Q) : X1 (ixC cap m) (tI K s) (tG K t) (tDT K c) (tD K f) σ H Q := by
  obtain⟨M,E,S,d,S',e,r,st,q⟩:=h
  obtain⟨⟨⟨ds,gs⟩,S1⟩,e1,e⟩:=BB e
  obtain⟨⟨accf,Sf⟩,e3,e⟩:=BB e
  dsimp only at e e3
  refine⟨M,E,S,ds,gs,S1,e1,r,st,fun J H1 M1 g1 st1 it A0 hD=>?_⟩
  obtain⟨st0,gx0,s0⟩:=st1.tmp_on hD
  have nt:A0∉M1.tmp:=fun z=>st1.mo.some (.inr z) hD
  refine⟨fun i mm σ' H' ys=>mm=ds.length-i/\∃Ei Si Mi acc,Bx gs t c f (ds.drop i) acc Ei Si=some (accf,Sf)/\GrX M1 H1 Mi H'/\Mi.tmp=A0::M1.tmp/\EnR K Mi Ei σ' H'/\StR K Mi Si H'/\H' A0=some (.lst ys)/\As K Mi H' ys acc,
    ⟨_,rfl,_,S1,_,[],e3,gx0,rfl,((r.step g1.st).step s0).cap cap m,st0,CH,.nil⟩,fun i mm σ2 H2 ys hW=>?_⟩
  obtain⟨rfl,Ei,Si,Mi,acc,ec,gx,ht,r2,st2,hy,ry⟩:=hW
  have sp:Sp1 M1 H1 Mi H2:=⟨st1.mo,gx.pre,fun a z=>by
    rcases z with z|z
    ·exact(gx.fresh a z).imp .inl id
    · rw [ht] at z
      rcases List.mem_cons.mp z with z|z
      ·subst z;exact .inr hD
      ·exact .inl (.inr z),fun a o eo no=>gx.keep a o eo fun z=>no (.inl z)⟩
  refine⟨hy,?_⟩
  cases ed:ds.drop i with
  | nil =>
    rw[ed]at ec
    unfold Bx at ec
    split at ec
    · rename_i ok
      cases ec
      left
      obtain⟨ci,ti⟩:=Mi
      have ht':ti=A0::M1.tmp:=ht
      subst ht'
      obtain⟨c',st',rd',pr',sub'⟩:=st2.tmp_off nt hy ry e
      refine⟨it.stop i H2 _ _ sp st2 ok (List.drop_eq_nil_iff.mp ed),q _ _ ⟨c',M1.tmp⟩ (g1.trans ⟨st1.mo,gx.pre.trans pr',rfl,fun a z=>?_,gx.keep,gx.some⟩) st' rd'⟩
      rcases sub' a z with z|z
      ·exact gx.fresh a z
      ·subst z;exact .inr hD
    ·cases ec
  | cons d rest =>
    obtain⟨d1,d2,d3⟩:=OZ ed
    rw[ed]at ec
    unfold Bx at ec
    split at ec
    · rename_i ok
      split at ec
      · rename_i hz
        obtain⟨E3,e4,ec⟩:=BB ec
        obtain⟨⟨w5,S5⟩,e5,ec⟩:=BB ec
        right
        refine⟨it.go i H2 Mi Si sp st2 ok d3,by rw[ry.length];exact hz,fun x H3 hyl=>?_⟩
        obtain⟨k3,rx⟩:=it.yld i H2 Mi Si x H3 d sp st2 ok d1 hyl
        have g3:Gr Mi H2 Mi H3:=.grow st2.mo k3
        have st3:=st2.grow k3
        refine⟨Mi,d,Ei,E3,Si,e4,r2.step g3.st,st3,rx,fun σ4 r4=>?_⟩
        have hA:A0∈Mi.tmp:=by rw[ht];exact List.mem_cons_self
        have hy3:H3 A0=some (.lst ys):=k3 _ _ hy
        have ry3:As K Mi H3 ys acc:=ry.step g3.st
        have fin:∀{E6:En} {S6:Sto} {M6:Ms} {H6:Hp} {zs:List V} {acc6:List D},Bx gs t c f rest acc6 E6 S6=some (accf,Sf)->GrX M1 H1 M6 H6->M6.tmp=A0::M1.tmp->EnR K M6 E6 σ4 H6->StR K M6 S6 H6->H6 A0=some (.lst zs)->As K M6 H6 zs acc6->
            ∃m',m'<ds.length-i/\(m'=ds.length-(i+1)/\∃Ei Si Mi acc,Bx gs t c f (ds.drop (i+1)) acc Ei Si=some (accf,Sf)/\GrX M1 H1 Mi H6/\Mi.tmp=A0::M1.tmp/\EnR K Mi Ei σ4 H6/\StR K Mi Si H6/\H6 A0=some (.lst zs)/\As K Mi H6 zs acc):=
          fun{E6 S6 M6 H6 zs acc6} ec g6 t6 r6 st6 h6 y6=>⟨_,by omega,rfl,E6,S6,M6,acc6,by rw[d2];exact ec,g6,t6,r6,st6,h6,y6⟩
        dsimp only at ec
        split at ec
        · obtain ⟨⟨w7, S7⟩, e7, ec⟩ := BB ec
          refine⟨Mi,E3,Si,true,S5,e5,r4,st3,fun H5 M5 g5 st5=>?_⟩
          refine Xf ?_
          refine⟨M5,E3,S5,w7,S7,e7,r4.step g5.st,st5,fun y H7 M7 g7 st7 d7=>?_⟩
          have nA:∀{M6:Ms} {H6:Hp} {S6:Sto},StR K M6 S6 H6->A0∈M6.tmp->A0∉M6.cel:=fun r6 h6=>r6.nt A0 h6
          have hA5:A0∈M5.tmp:=by rw[g5.tmp];exact hA
          have hA7:A0∈M7.tmp:=by rw[g7.tmp];exact hA5
          have hy5:H5 A0=some (.lst ys):=g5.keep _ _ hy3 (nA st3 hA)
          have hy7:H7 A0=some (.lst ys):=g7.keep _ _ hy5 (nA st5 hA5)
          have ry7:As K M7 H7 ys acc:=(ry3.step g5.st).step g7.st
          refine⟨hy7,?_⟩
          obtain⟨st8,s8⟩:=st7.tmp_app (ys:=ys++[y]) hA7
          have gx7:GrX M1 H1 M7 H7:=((gx.trans g3.x).trans g5.x).trans g7.x
          have gx8:GrX M1 H1 M7 (upd H7 A0 (.lst (ys++[y]))):=⟨gx7.pre,gx7.fresh,fun a o eo no=>by
            rw[BD (fun z=>by subst z;rw[hD]at eo;cases eo)]
            exact gx7.keep a o eo no,fun a ea=>by
            by_cases h:a=A0
            ·subst h;rw[CH];intro z;cases z
            ·rw[BD h];exact gx7.some a ea⟩
          exact fin ec gx8 (by rw[g7.tmp,g5.tmp];exact ht) (((r4.step g5.st).step g7.st).step s8) st8 CH ((ry7.append (.cons d7 .nil)).step s8)
        · refine ⟨Mi, E3, Si, false, S5, e5, r4, st3, fun H5 M5 g5 st5 => ?_⟩
          refine YG ?_
          exact fin ec ((gx.trans g3.x).trans g5.x) (by rw[g5.tmp];exact ht) (r4.step g5.st) st5 (g5.keep _ _ hy3 (st3.nt A0 hA)) (ry3.step g5.st)
        ·cases ec
      ·cases ec
    ·cases ec
structure DTs(X:Cx)(ifs:List Expr)(c:Ev):Prop where
 pe:PTs X ifs (tDT X.K c)
theorem Vz{X:Cx}{e:List Expr}{t t':TT}(h:PTs X e t)(m:∀σ H Q,t' σ H Q->t σ H Q):PTs X e t':=fun pins s σ H Q I q=>h pins s σ H Q I (m _ _ _ q)
theorem Bm{X:Cx}:DTs X [] BU:=⟨Vz YE fun σ H Q z=>by
 obtain⟨M,E,S,b,S',e,r,st,q⟩:=z
 cases e
 exact q _ M (.refl st.mo) st⟩
theorem G5{X:Cx}{c:Expr}{f:Ev}(h:DT X c f):DTs X [c] f:=⟨Yc h.pe⟩
section
variable{X:Cx}{N':List Str}{cf:Bool}{cap:List Nat}{m:Nat}{scope:Scope}{elt tg iter:Expr}{ifs:List Expr}{pos:Pos}{s:Sr}{t:Tf}{c f:Ev}
def Blk(X:Cx)(N':List Str)(scope:Scope)(tg:Expr)(ifs:List Expr)(elt:Expr)(t:Tf)(c f:Ev):Prop:=
 ∀(s:Shared) (H:Hp) (fp:List Addr),DG (HA X N' scope s H fp) tg t/\DTs (HA X N' scope s H fp) ifs c/\DE (HA X N' scope s H fp) elt f
theorem CA(cap:List Nat)(m:Nat)(N':List Str)(hc:X.calm=true)(S:AZ X.N X.env.scope N' (ixC cap m) scope)(hi:DI X tg iter s)(hb:Blk X N' scope tg ifs elt t c f)(hs:∀x,foldedSetIterable iter X.env x=pure x:=by intro _;rfl):
  DE X (.ListComp elt [⟨tg,iter,ifs,0⟩] scope pos) (Mm cf cap m s t c f):=⟨
 B7 (XJ (g:=tG X.K t) (tc:=tDT X.K c) (te:=tD X.K f) hc S hi.pe (fun s H fp=>⟨(hb s H fp).1.pe,(hb s H fp).2.1.pe,(hb s H fp).2.2.pe⟩) hs) fun _ _ _ h=>SF h⟩
theorem CQ{i:Nat}{y:Str}{py spos:Pos}(cap:List Nat)(m:Nat)(N':List Str)(hc:X.calm=true)(hN:X.N.Nodup)(hi':X.N[i]?=some y)(hx:X.env.scope.names.lookup y=some .local)(S:AZ X.N X.env.scope N' (ixC cap m) scope)(hi:DI X tg iter s)(hb:Blk X N' scope tg ifs elt t c f)
  (hsw:swapsWith (.ListComp elt [⟨tg,iter,ifs,0⟩] scope pos) (some (.Name y py)) spos.line X.env=pure true:=by rfl) (hs:∀x,foldedSetIterable iter X.env x=pure x:=by intro _;rfl):
  DS X (.Assign [.Name y py] (.ListComp elt [⟨tg,iter,ifs,0⟩] scope pos) spos) (BW i (Mm cf cap m s t c f)):=⟨
 FN (Qt (g:=tG X.K t) (tc:=tDT X.K c) (te:=tD X.K f) hc hN hi' hx S hi.pe (fun s H fp=>⟨(hb s H fp).1.pe,(hb s H fp).2.1.pe,(hb s H fp).2.2.pe⟩) hsw hs) fun Dn σ H z=>by
  obtain⟨M,E,S,fl,E',S',e,r,st,q⟩:=z
  obtain⟨⟨d,S1⟩,e1,e⟩:=Jo e
  cases e
  exact SF ⟨M,E,S,d,S1,e1,r,st,fun v H1 M1 g1 st1 r1=>q _ _ M1 g1 ((r.step g1.st).put r1) st1⟩⟩
end
noncomputable def MB{α:Type}(xs:List α)(lo hi:Option Int):List α:=(xs.drop (HT.sIx xs.length 0 lo)).take (HT.sIx xs.length xs.length hi-HT.sIx xs.length 0 lo)
theorem TR{K:PySem.W.Frag}{M:Ms}{H:Hp}{xs:List V}{ds:List D}(h:As K M H xs ds)(lo hi:Option Int):As K M H (Ws xs lo hi) (MB ds lo hi):=by
 unfold Ws MB
 rw[h.length]
 exact(h.drop _).take _
theorem RZ{α:Type}{xs:List α}{lo hi:Option Int}(h1:HT.sIx xs.length 0 lo=0)(h2:HT.sIx xs.length xs.length hi=xs.length):MB xs lo hi=xs:=by
 unfold MB
 rw[h1,h2]
 simp
noncomputable def wSl(lo hi:Option Int):Op1:=fun w=>match w with
 | .val (.tup ds)=>some (.val (.tup (MB ds lo hi)))
 | .val (.str z)=>if z.length≤sizeLine then some (.val (.str (Txt.slice z lo hi)))else none
 |w=>(asL w).map fun ds=>.own (MB ds lo hi)
def gi(K:PySem.W.Frag):V->Option Int->Option Int->Hp->VK->Prop:=fun x lo hi H Q=>∃M w r,wSl lo hi w=some r/\MOk M H/\Sh K M H x w/\∀v H',Nw K M H H' v r->Q v H'
theorem Y8{X:Cx}:SlR X (fun x lo hi H Q=>∃z,x=.str z/\z.length≤sizeLine/\Q (.str (Txt.slice z lo hi)) H):=by
  intro pins s σ H x v vl vu lo hi sl Q I rx hs pl pu h
  obtain⟨z,rfl,hz,q⟩:=h
  obtain⟨t,rfl⟩:=rx
  have fin:∀t' k,EP X pins σ Q (.str (Txt.slice z lo hi) t') {s with toks:=k}:=fun t' k=>⟨.str _,H,I.tok k,⟨t',rfl⟩,q⟩
  cases pl with
  | none =>
    cases pu with
    |none=>exact⟨"str",_,PySem.F.slot_str_getitem.lookup,typeIs_str _ _ _,wpAny_getItem_str_slice (l:=none) (u:=none) (st:=none) hs rfl (post_val_or_str ⟨Nat.le_trans (Txt.slice_le z _ _) hz,fin⟩)⟩
    |int j u=>exact⟨"str",_,PySem.F.slot_str_getitem.lookup,typeIs_str _ _ _,wpAny_getItem_str_slice (l:=none) (u:=some (j,u)) (st:=none) hs rfl (post_val_or_str ⟨Nat.le_trans (Txt.slice_le z _ _) hz,fin⟩)⟩
  | int i u' =>
    cases pu with
    |none=>exact⟨"str",_,PySem.F.slot_str_getitem.lookup,typeIs_str _ _ _,wpAny_getItem_str_slice (l:=some (i,u')) (u:=none) (st:=none) hs rfl (post_val_or_str ⟨Nat.le_trans (Txt.slice_le z _ _) hz,fin⟩)⟩
    |int j u=>exact⟨"str",_,PySem.F.slot_str_getitem.lookup,typeIs_str _ _ _,wpAny_getItem_str_slice (l:=some (i,u')) (u:=some (j,u)) (st:=none) hs rfl (post_val_or_str ⟨Nat.le_trans (Txt.slice_le z _ _) hz,fin⟩)⟩
theorem cy{X:Cx}:SlR X (gi X.K):=by
  intro pins s σ H x v vl vu lo hi sl Q I rx hs pl pu h
  obtain⟨M,w,r,e,mo,sh,q⟩:=h
  unfold wSl at e
  split at e
  · rename_i ds
    cases e
    cases sh with
    | tup hx rr =>
      rename_i a xs
      have hl:=rr.length
      by_cases hw:HT.sIx xs.length 0 lo=0/\HT.sIx xs.length xs.length hi=xs.length
      · refine St.Y2 pins s σ H _ v vl vu lo hi sl Q I rx hs pl pu ⟨a, xs, rfl, hx, hw.1, hw.2, ?_⟩
        have ew:MB ds lo hi=ds:=RZ (by rw[←hl];exact hw.1) (by rw[←hl];exact hw.2)
        rw[ew]at q
        exact q _ _ (.same mo (.tup hx rr))
      ·exact ZV pins s σ H _ v vl vu lo hi sl Q I rx hs pl pu ⟨a,xs,rfl,hx,hw,fun p hp=>q _ _ (.tup mo hp (TR rr lo hi))⟩
  · split at e
    · cases e
      cases sh
      exact Y8 pins s σ H _ v vl vu lo hi sl Q I rx hs pl pu ⟨_,rfl,by assumption,q _ _ (.same mo (.str _))⟩
    ·cases e
  · cases e1 : asL w with
    |none=>rw[e1]at e;cases e
    | some ds =>
      rw[e1]at e
      cases e
      obtain⟨a,xs,rfl,h1,rr⟩:=sh.l e1
      exact YW pins s σ H _ v vl vu lo hi sl Q I rx hs pl pu ⟨a,xs,rfl,.of h1,fun p hp=>q _ _ (.lst mo hp (TR rr lo hi))⟩
noncomputable def Yd:Wv->Option Int
 | .val (.int i)=>some i
 |_=>none
noncomputable def NP(l h:Bool):OpN:=fun ws=>match l,h,ws with
 |false,false,[a]=>wSl none none a
 |true,false,[a,b]=>(Yd b).bind fun i=>wSl (some i) none a
 |false,true,[a,b]=>(Yd b).bind fun i=>wSl none (some i) a
 |true,true,[a,b,c]=>(Yd b).bind fun i=>(Yd c).bind fun j=>wSl (some i) (some j) a
 |_,_,_=>none
theorem TU{K:PySem.W.Frag}{M:Ms}{H:Hp}{v:V}{w:Wv}{i:Int}(s:Sh K M H v w)(e:Yd w=some i):v=.int i:=by
  cases w with
  |own ds=>cases e
  | val d =>
    cases d<;>first|(cases e;done)|skip
    cases e;cases s;rfl
section
variable{X:Cx}{e lo hi:Expr}{oe ol oh:Ev}{c:Bool}{pos p2:Pos}
theorem Kj(h:DE X e oe)(hl:DE X lo ol):DE X (.Subscript e (.Slice (some lo) none none p2) pos) (PF c (NP true false) [oe,ol]):=⟨B7 (Ng cy h.pe (N4 hl.pe) SS) fun σ H Q z=>by
  obtain⟨M0,E,S0,w,S1,e,r,st,q⟩:=z
  have z:tD X.K oe σ H fun x H1=>tD X.K ol σ H1 fun y H2=>rN X.K (NP true false) [x,y] H2 Q:=MO (Q:=Q) e r st q
  refine IG z fun x H1 z1=>IG z1 fun y H2 z2=>?_
  obtain⟨M,ws,w',e1,mo,sh,q1⟩:=z2
  cases sh with
  | cons h1 t =>
    cases t with
    | cons h2 t =>
      cases t
      obtain⟨i,ei,e1⟩:=BB e1
      exact⟨i,TU h2 ei,M,_,w',e1,mo,h1,q1⟩⟩
theorem NS(h:DE X e oe)(hh:DE X hi oh):DE X (.Subscript e (.Slice none (some hi) none p2) pos) (PF c (NP false true) [oe,oh]):=⟨B7 (Ng cy h.pe SS (N4 hh.pe)) fun σ H Q z=>by
  obtain⟨M0,E,S0,w,S1,e,r,st,q⟩:=z
  have z:tD X.K oe σ H fun x H1=>tD X.K oh σ H1 fun y H2=>rN X.K (NP false true) [x,y] H2 Q:=MO (Q:=Q) e r st q
  refine IG z fun x H1 z1=>IG z1 fun y H2 z2=>?_
  obtain⟨M,ws,w',e1,mo,sh,q1⟩:=z2
  cases sh with
  | cons h1 t =>
    cases t with
    | cons h2 t =>
      cases t
      obtain⟨i,ei,e1⟩:=BB e1
      exact⟨i,TU h2 ei,M,_,w',e1,mo,h1,q1⟩⟩
theorem SK{K:PySem.W.Frag}{M:Ms}{H:Hp}{S:Sto}{v:V}{d:D}{i:Int}(r:Dq K M H v d)(e:Yd (dr S d)=some i):v=.int i:=by
 cases r<;>first|(cases e;done)|skip
 ·cases e;rfl
 ·rename_i n h
  unfold dr at e
  dsimp only at e
  split at e<;>cases e
theorem W7(h:DE X e oe)(hl:DE X lo ol)(hh:DE X hi oh):DE X (.Subscript e (.Slice (some lo) (some hi) none p2) pos) (PF c (NP true true) [oe,ol,oh]):=⟨B7 (Ng cy h.pe (N4 hl.pe) (N4 hh.pe)) fun σ H Q z=>by
 obtain⟨M0,E,S0,w,S1,e,r,st,q⟩:=z
 obtain⟨⟨ds,S2⟩,e1,e⟩:=BB e
 obtain⟨w2,e2,e⟩:=BB e
 obtain⟨⟨d1,Sa⟩,ea,e1⟩:=BB e1
 obtain⟨⟨ds1,Sb⟩,eb,e1⟩:=Jo e1
 cases e1
 obtain⟨⟨d2,Sc⟩,ec,eb⟩:=BB eb
 obtain⟨⟨ds2,Sd⟩,ed,eb⟩:=Jo eb
 cases eb
 obtain⟨⟨d3,Se⟩,ee,ed⟩:=BB ed
 obtain⟨⟨ds3,Sf⟩,ef,ed⟩:=Jo ed
 cases ed
 cases ef
 obtain⟨i,ei,e2⟩:=BB e2
 obtain⟨j,ej,e2⟩:=BB e2
 refine⟨M0,E,S0,d1,Sa,ea,r,st,fun x H1 M1 g1 st1 r1=>?_⟩
 refine⟨M1,E,Sa,d2,Sc,ec,r.step g1.st,st1,fun y H2 M2 g2 st2 r2=>⟨i,?_,?_⟩⟩
 ·exact SK r2 ei
 refine⟨M2,E,Sc,d3,Se,ee,(r.step g1.st).step g2.st,st2,fun u H3 M3 g3 st3 r3=>⟨j,?_,?_⟩⟩
 ·exact SK r3 ej
 refine⟨M3,_,w2,e2,st3.mo,YH st3 ((r1.step g2.st).step g3.st),fun v H4 n=>?_⟩
 obtain⟨M4,g4,st4,d4⟩:=n.fin st3 e
 exact q v H4 M4 (((g1.trans g2).trans g3).trans g4) st4 d4⟩
structure Ss(K:PySem.W.Frag)(mg:Str->Option Value)(x:Str)(d:D):Prop where
 ex:∃v u,mg x=some u/\RelV v u/\∀M H,Dq K M H v d
theorem PL{x:Str}{d:D}(c:Ss X.K X.mg x d)(hg:Gl X x)(hd:(x==("__debug__":Str))=false:=by decide):DE X (.Name x pos) (eC d):=⟨by
 obtain⟨v,u,h1,h2,h3⟩:=c.ex
 exact B7 (YC hg h1 h2 hd) fun σ H Q z=>by
  obtain⟨M0,E,S0,w,S1,e,rr,st,q⟩:=z
  cases e
  exact q _ _ M0 (.refl st.mo) st (h3 _ _)⟩
theorem Xw{x:Str}{T:String}(hg:Gl X x)(hm:X.mg x=none)(hv:bootBuiltins x=some (.type T))(hn:x≠ "__name__":=by decide)(hd:(x==("__debug__":Str))=false:=by decide):DE X (.Name x pos) (eC (.ty T)):=
 Od (XC (v:=.ty T) hg hm hv rfl hn hd) fun _ _ _=>.ty T
structure iG(K:PySem.W.Frag)(w:World)(mg:Str->Option Value)(x:Str)(tbl:List (Str×D)):Prop where
 ex:∃a kvs,mg x=some (.ref a)/\TopD K w a kvs/\∀k,(tbl.lookup k=none->kvs.lookup k=none)/\∀d,tbl.lookup k=some d->∃v,kvs.lookup k=some v/\∀M H,Dq K M H v d
end
noncomputable def Md:Nat->List D->List D
 |_,[]=>[]
 |k,d::ds=>.tup [.int k,d]::Md (k+1) ds
theorem KW:∀{ds:List D} {k i:Nat},(Md k ds)[i]?=(ds[i]?).map fun d=>.tup [.int ((k+i:Nat):Int),d]
  | [],k,i=>by simp[Md]
  |d::ds,k,0=>by simp[Md]
  | d :: ds, k, i + 1 => by
    simp only[Md,List.getElem?_cons_succ]
    rw[KW,show k+1+i=k+(i+1) by omega]
theorem NB:∀{ds:List D} {k:Nat},(Md k ds).length=ds.length
 | [],k=>rfl
 |d::ds,k=>by simp[Md,NB (ds:=ds)]
theorem SqF.sqB{K:PySem.W.Frag}{M:Ms}{H:Hp}{gs:Gd}{k:Bool}{a:Addr}{ds:List D}(h:SqF K M H gs k a ds){H2:Hp}{M2:Ms}{S2:Sto}(g:Sp1 M H M2 H2)(st:StR K M2 S2 H2)(ok:gOk gs S2):∃xs,SqB K H2 k a xs/\As K M2 H2 xs ds:=by
 obtain⟨xs,h1,h2⟩:=h.keep H2 M2 S2 g st ok
 refine⟨xs,?_,h2⟩
 cases k with
 |true=>exact h1
 |false=>exact h1
theorem Z6{K:PySem.W.Frag}{M:Ms}{H:Hp}{gs:Gd}{k:Bool}{a:Addr}{ds:List D}(h:SqF K M H gs k a ds):ZY K M H gs (Md 0 ds) (ItE K k a) where
 go:=fun i H2 M2 S2 g st ok hi=>by
  rw[NB]at hi
  obtain⟨xs,h1,h2⟩:=h.sqB g st ok
  obtain⟨x,hx⟩:=h2.get' hi
  exact⟨xs,x,h1,hx⟩
 stop:=fun i H2 M2 S2 g st ok hi=>by
  rw[NB]at hi
  obtain⟨xs,h1,h2⟩:=h.sqB g st ok
  exact⟨xs,h1,by have:=h2.length;omega⟩
 yld:=fun i H2 M2 S2 x H3 d g st ok hd hy=>by
  obtain⟨xs,h1,h2⟩:=h.sqB g st ok
  obtain⟨p,y,hp,rfl,hy,rfl⟩:=hy
  have hx:=hy xs h1
  rw[KW]at hd
  obtain⟨d0,e,hd⟩:=Jo hd
  subst hd
  obtain⟨x',h3,h4⟩:=h2.get e
  rw[hx]at h3;cases h3
  have k3:=Hd (o:=.tup [.int i,y]) hp
  refine⟨k3,.tup (.of CH) (.cons ?_ (.cons (h4.step (Gr.grow st.mo k3).st) .nil))⟩
  rw[Nat.zero_add]
  exact .int _
noncomputable def VN(f:Ev):Sr:=fun E S=>(f E S).bind fun r=>(sqD r.2 r.1).map fun p=>((Md 0 p.1,p.2),r.2)
theorem OF{X:Cx}{a:Expr}{f:Ev}{p pos tp:Pos}{elts:List Expr}{k:Nat}(hg:Gl X "enumerate")(hm:X.mg "enumerate"=none)(ha:DE X a f)(hs:starEach [a] X.env=[(false,eval a X.env)]:=by rfl):DI X (.Tuple elts k tp) (.Call (.Name "enumerate" p) [a] [] pos) (VN f):=⟨
 NQ (UL hg hm (NM ha.pe RL (by rw[hs];rfl)) hs) fun σ H R z=>by
  obtain⟨M,E,S,ds,gs,S',e,r,st,q⟩:=z
  obtain⟨⟨d,S1⟩,e1,e⟩:=BB e
  obtain⟨⟨ds',gs'⟩,e2,e⟩:=Jo e
  cases e
  refine⟨M,E,S,d,S1,e1,r,st,fun v H1 M1 g1 st1 r1=>?_⟩
  obtain⟨k,a,rfl,sq⟩:=QD st1 r1 e2
  obtain⟨xs,hs,_⟩:=sq.sqB (Gr.refl st1.mo).st st1 (Nf e2)
  exact⟨k,a,rfl,⟨xs,hs⟩,q _ _ M1 g1 st1 (Z6 sq)⟩⟩
noncomputable def Mw(ds es:List D):List D:=(ds.zip es).map fun p=>.tup [p.1,p.2]
theorem Uj{ds es:List D}{i:Nat}{d:D}(h:(Mw ds es)[i]?=some d):∃x y,ds[i]?=some x/\es[i]?=some y/\d=.tup [x,y]:=by
 unfold Mw at h
 simp only[List.getElem?_map,Option.map_eq_some_iff]at h
 obtain⟨⟨x,y⟩,h1,h2⟩:=h
 rw[List.getElem?_zip_eq_some]at h1
 exact⟨x,y,h1.1,h1.2,h2.symm⟩
theorem KY{ds es:List D}:(Mw ds es).length=min ds.length es.length:=by simp[Mw]
theorem SqF.more{K:PySem.W.Frag}{M:Ms}{H:Hp}{gs gs':Gd}{k:Bool}{a:Addr}{ds:List D}(h:SqF K M H gs k a ds)(s:∀g∈gs,g∈gs'):SqF K M H gs' k a ds:=⟨fun H2 M2 S2 g st ok=>h.keep H2 M2 S2 g st fun x hx=>ok x (s x hx)⟩
theorem ZL{K:PySem.W.Frag}{M:Ms}{H:Hp}{gs:Gd}{k m:Bool}{a b:Addr}{ds es:List D}(h:SqF K M H gs k a ds)(h':SqF K M H gs m b es):ZY K M H gs (Mw ds es) (Itz K k a m b) where
 go:=fun i H2 M2 S2 g st ok hi=>by
  rw[KY]at hi
  obtain⟨xs,h1,r⟩:=h.sqB g st ok
  obtain⟨ys,h2,r'⟩:=h'.sqB g st ok
  obtain⟨x,hx⟩:=r.get' (show i<ds.length by omega)
  obtain⟨y,hy⟩:=r'.get' (show i<es.length by omega)
  exact⟨xs,ys,x,y,h1,h2,hx,hy⟩
 stop:=fun i H2 M2 S2 g st ok hi=>by
  rw[KY]at hi
  obtain⟨xs,h1,r⟩:=h.sqB g st ok
  obtain⟨ys,h2,r'⟩:=h'.sqB g st ok
  have:=r.length
  have:=r'.length
  exact⟨xs,ys,h1,h2,by omega⟩
 yld:=fun i H2 M2 S2 x H3 d g st ok hd hy=>by
  obtain⟨xs,h1,r⟩:=h.sqB g st ok
  obtain⟨ys,h2,r'⟩:=h'.sqB g st ok
  obtain⟨p,x1,y1,hp,rfl,q1,q2,rfl⟩:=hy
  obtain⟨d1,d2,e1,e2,rfl⟩:=Uj hd
  have hx:=q1 xs h1
  have hy:=q2 ys h2
  obtain⟨x',h3,h4⟩:=r.get e1
  obtain⟨y',h5,h6⟩:=r'.get e2
  rw[hx]at h3;cases h3
  rw[hy]at h5;cases h5
  have k3:=Hd (o:=.tup [x1,y1]) hp
  exact⟨k3,.tup (.of CH) (.cons (h4.step (Gr.grow st.mo k3).st) (.cons (h6.step (Gr.grow st.mo k3).st) .nil))⟩
noncomputable def Xl(f g:Ev):Sr:=fun E S=>(evs [f,g] E S).bind fun r=>match r.1 with
 | [d,e]=>(sqD r.2 d).bind fun p=>(sqD r.2 e).map fun q=>((Mw p.1 q.1,p.2++q.2),r.2)
 |_=>none
theorem QL {X : Cx} {a b : Expr} {f g : Ev} {p pos tp : Pos} {elts : List Expr} {k : Nat} (hg : Gl X "zip") (hm : X.mg "zip" = none) (ha : DE X a f) (hb : DE X b g) (hs : starEach [a, b] X.env = [(false, eval a X.env), (false, eval b X.env)] := by rfl) (hs2 : starEach [b] X.env = [(false, eval b X.env)] := by rfl) : DI X (.Tuple elts k tp) (.Call (.Name "zip" p) [a, b] [] pos) (Xl f g) := ⟨
  NQ (Z1 hg hm (AA ha (AA hb AD hs2) (by rw[hs,hs2])).pe hs hs2) fun σ H R z=>by
    obtain⟨M,E,S,ds,gs,S',e,r,st,q⟩:=z
    obtain⟨⟨ws,S1⟩,e1,e⟩:=BB e
    refine Hy (fs:=[f,g]) e1 r st fun vs H1 M1 g1 st1 r1=>?_
    dsimp only at e
    split at e
    · obtain ⟨⟨ds1, gs1⟩, eu, e⟩ := BB e
      obtain⟨⟨ds2,gs2⟩,ee,e⟩:=Jo e
      cases e
      cases r1 with
      | cons h1 t =>
        cases t with
        | cons h2 t =>
          cases t
          obtain⟨k1,a1,rfl,s1⟩:=QD st1 h1 eu
          obtain⟨k2,a2,rfl,s2⟩:=QD st1 h2 ee
          obtain⟨xs,hxs,_⟩:=s1.sqB (Gr.refl st1.mo).st st1 (Nf eu)
          obtain⟨ys,hys,_⟩:=s2.sqB (Gr.refl st1.mo).st st1 (Nf ee)
          exact⟨_,_,_,_,rfl,⟨_,hxs⟩,⟨_,hys⟩,q _ _ M1 g1 st1 (ZL (s1.more fun x hx=>List.mem_append_left _ hx) (s2.more fun x hx=>List.mem_append_right _ hx))⟩
    ·cases e⟩
noncomputable def intD:D->Option Int
 | .int i=>some i
 |_=>none
noncomputable def Iw(ds:List D):Option (List Int):=ds.mapM intD
theorem Iv {K : PySem.W.Frag} {M : Ms} {H : Hp} : ∀ {vs : List V} {ds : List D} {ns : List Int}, As K M H vs ds -> Iw ds = some ns -> vs = ns.map V.int
  |_,_,ns,.nil,e=>by cases e;rfl
  | _, _, ns, .cons (d := d) (ds := ds) h t, e => by
    unfold Iw at e
    rw[List.mapM_cons]at e
    cases e1:intD d with
    |none=>rw[e1]at e;cases e
    | some b =>
      rw[e1]at e
      cases e2:ds.mapM intD with
      |none=>rw[e2]at e;cases e
      | some cs =>
        rw[e2]at e
        cases e
        have hd:d=.int b:=by
          cases d<;>first|(cases e1;done)|skip
          cases e1;rfl
        subst hd
        cases h
        rw[List.map_cons,←Iv t e2]
theorem Sx{X:Cx}(hc:X.calm=true):Eb X (.builtin "sum") (fun xs H Q=>∃(p:Addr) (ns:List Int),xs=[.ref p]/\SqL X.K H p (ns.map V.int)/\Q (.int ns.sum) H):=by
 intro pins s σ H xs us Q I r h
 obtain⟨p,ns,rfl,hp,q⟩:=h
 obtain⟨u,rfl,ru⟩:=r.one
 cases (show u=Value.ref p from ru)
 obtain⟨its,rv,pl,hz⟩:=I.list hp
 have hd:X.A.in1.handled=none:=I.ok.hd hc
 refine call_sum_walkG (wpAny_pyIter_list pl.isList ?_)
 have hlen:ns.length=its.length:=by have:=rv.length;simpa using this
 have hpl:=pl.isList
 have hlt:p<s.heap.objs.size:=by
  obtain⟨o,ho,_⟩:=hpl
  exact Heap.lt_size ho
 refine⟨s.heap.objs.size,_,_,its.length,_,_,fun i=>ns.getD i 0,rfl,St.ML (vs:=its) hd (Nat.ne_of_lt hlt),⟨⟨_,Heap.get?_push_size _ rfl,rfl,rfl⟩,?_⟩,?_,?_,?_⟩
 ·obtain⟨o,ho,r⟩:=hpl
  exact⟨o,Heap.get?_push_of_some _ ho,r⟩
 ·intro b hb
  rw[Heap.size_push]
  simp at hb
  rcases hb with h|h
  ·rw[h];exact Nat.lt_succ_self _
  ·rw[h];exact Nat.lt_succ_of_lt hlt
 ·intro i v hv
  have hi:i<its.length:=(List.getElem?_eq_some_iff.mp hv).1
  have hb:(ns.map V.int)[i]?=some (.int (ns.getD i 0)):=by
   rw[List.getElem?_map,List.getElem?_eq_getElem (by omega)]
   simp[List.getD_eq_getElem?_getD,List.getElem?_eq_getElem (show i<ns.length by omega)]
  obtain⟨u,hu,ru⟩:=rv.get hb
  rw[hv]at hu
  cases hu
  exact ru
 ·intro h' tk t' hk
  have e:preSum (fun i=>ns.getD i 0) its.length=ns.sum:=by
   rw[←hlen,St.Lg (Nat.le_refl _),List.take_of_length_le (Nat.le_refl _)]
  rw[e]
  exact⟨.int _,H,I.kept (t':=tk) fun b o eb=>hk b o (by simp;exact Nat.ne_of_lt (Heap.lt_size eb)) (Heap.get?_push_of_some _ eb),⟨_,rfl⟩,q⟩
noncomputable def UQ:Op1:=fun w=>(asL w).bind fun ds=>(Iw ds).map fun ns=>.val (.int ns.sum)
theorem JH{X:Cx}(hc:X.calm=true):Eb X (.builtin "sum") (rN X.K (o1 UQ)):=by
 intro pins s σ H xs us Q I r h
 obtain⟨M,ws,w,e,mo,sh,q⟩:=h
 obtain⟨v,w1,rfl,rfl,s1,e1⟩:=IP sh e
 obtain⟨ds,e2,e1⟩:=BB e1
 obtain⟨ns,e3,e1⟩:=Jo e1
 cases e1
 obtain⟨a,ys,rfl,h3,h4⟩:=s1.l e2
 exact Sx hc pins s σ H _ us Q I r ⟨a,ns,rfl,by rw[←Iv h4 e3];exact .of h3,q _ _ (.same mo (.int _))⟩
noncomputable def ME(ns:List Int):List Int:=ns.mergeSort (fun a b=>decide (a≤b))
theorem MU(ns:List Int):(ME ns).Perm ns:=List.mergeSort_perm _ _
theorem QU(ns:List Int):(ME ns).Pairwise (· ≤ ·):=by
 have:=List.pairwise_mergeSort (le:=fun(a b:Int)=>decide (a≤b)) (fun a b c h1 h2=>by simp at *; omega) (fun a b=>by simp;omega) ns
 unfold ME
 exact this.imp fun h=>of_decide_eq_true h
theorem Qw{ns ms:List Int}(p:ms.Perm ns)(s:ms.Pairwise (· ≤ ·)):ms=ME ns:=PySem.W.ksm_same (p.trans (MU ns).symm) s (QU ns)
theorem intsAre_of:∀{ns:List Int} {its:List Value},Vals (ns.map V.int) its->PyProof.Rows.IntsAre its ns
  | [],_,.nil=>.nil
  | n :: ns, _, .cons h t => by
    obtain⟨tk,rfl⟩:=h
    exact .cons n tk (intsAre_of t)
theorem Jj:∀{ns:List Int} {its:List Value},PyProof.Rows.IntsAre its ns->Vals (ns.map V.int) its
 |_,_,.nil=>.nil
 |_,_,.cons n tk t=>.cons ⟨tk,rfl⟩ (Jj t)
theorem OI{X:Cx}:Eb X (.builtin "sorted") (fun xs H Q=>∃(p:Addr) (ns:List Int),xs=[.ref p]/\SqL X.K H p (ns.map V.int)/\ns.length<64/\∀q,H q=none->Q (.ref q) (upd H q (.lst ((ME ns).map V.int)))):=by
 intro pins s σ H xs us Q I r h
 obtain⟨p,ns,rfl,hp,h64,q⟩:=h
 obtain⟨u,rfl,ru⟩:=r.one
 cases (show u=Value.ref p from ru)
 obtain⟨its,rv,pl,hz⟩:=I.list hp
 have hlen:ns.length=its.length:=by have:=rv.length;simpa using this
 refine PyProof.Rows.sorted_ints pl.isList (intsAre_of rv) (by omega) fun out ns' a1 a2 a3=>?_
 obtain⟨e,he⟩:=PyProof.Rows.sortedAll_at s.heap its out
 have hn:H (s.heap.objs.size+1)=none:=I.hok.fresh (Nat.le_succ _)
 have hs:=Qw a2 a3
 subst hs
 refine⟨.ref _,_,I.laid (a:=s.heap.objs.size+1) (o:=.lst ((ME ns).map V.int)) (t':=s.toks) (fun _ _=>PyProof.Rows.sortedAll_old) (Nat.le_succ _) ?_,rfl,q _ hn⟩
 refine⟨?_,out.toList,e,Jj a1,?_⟩
 ·rw[List.length_map,(MU ns).length_eq]
  have:(64:Nat)≤sizeLine:=by decide
  omega
 ·rw[Array.toArray_toList];exact he
noncomputable def Nu:Op1:=fun w=>(asL w).bind fun ds=>(Iw ds).bind fun ns=>if ns.length<64 then some (.own ((ME ns).map D.int))else none
theorem OU{X:Cx}:Eb X (.builtin "sorted") (rN X.K (o1 Nu)):=by
 intro pins s σ H xs us Q I r h
 obtain⟨M,ws,w,e,mo,sh,q⟩:=h
 obtain⟨v,w1,rfl,rfl,s1,e1⟩:=IP sh e
 obtain⟨ds,e2,e1⟩:=BB e1
 obtain⟨ns,e3,e1⟩:=BB e1
 split at e1
 ·cases e1
  obtain⟨a,ys,rfl,h3,h4⟩:=s1.l e2
  exact OI pins s σ H _ us Q I r ⟨a,ns,rfl,by rw[←Iv h4 e3];exact .of h3,by assumption,fun p hp=>q _ _ (.lst mo hp KQ)⟩
 ·cases e1
theorem Nv(l:Addr)(items:Array Value)(n:Nat)(b:Addr)(items2:Array Value)(n2:Nat)(dd:Option Addr)(sl:Array (Option Value))(hs0:¬(!items.isEmpty && Builtin.List.listTooLong (items.size+items2.size))=true)(hs1:items.size≤sizeLine)(hs2:items.size+items2.size≤sizeLine+1):
  Meets (Builtin.«list.extend» ⟨[.ref l,.ref b],[]⟩) (fun _ R s=>s.heap.get? l=some {cls:=.type "list",dict:=none,data:=.seq items n,slots:= #[]}/\s.heap.get? b=some {cls:=.type "tuple",dict:=dd,data:=.seq items2 n2,slots:=sl}/\R (.ok (.ret Value.none)) {s with heap:=s.heap.update l (Obj.mapSeq fun x=>x++items2),toks:=s.toks}):=
 .of_wp fun prog w A R s h=>by
  obtain⟨hp,g,d,tk,os⟩:=s;obtain⟨hl,hb,h⟩:=h;have f1:=AutoSeq1.idx_int;have f2:=AutoSeq1.sub_tuple_tuple;have f3:=AutoSeq1.sub_list_list;have f4:=AutoSeq1.sub_tuple_list;have f5:=AutoSeq1.sub_list_tuple
  have hz':(items++items2).size≤sizeLine+1:=by rw[Array.size_append];exact hs2
  wp_walk using(wpAny_updateSeq hl rfl (hz:=hs1) (_hz':=hz')),AutoSeq1.wpAny_loadPart' hl,AutoSeq1.wpAny_loadPart' hb;exact⟨_,rfl,h⟩
def VF(K:PySem.W.Frag):V->List V->Hp->VK->Prop:=fun x vs H Q=>∃l b xs zs,x=.ref l/\vs=[.ref b]/\H l=some (.lst xs)/\SqT K H b zs/\xs.length+zs.length≤sizeLine/\Q .non (upd H l (.lst (xs++zs)))
theorem Ql{X:Cx}:MtM X "list.extend" (VF X.K):=by
 intro pins s σ H x vs v us Q I rx rv h
 obtain⟨l,b,xs,zs,rfl,rfl,hH,hB,hz,q⟩:=h
 cases rx
 obtain⟨u,rfl,ru⟩:=rv.one
 cases ru
 obtain⟨z,its,n,r,hl,e⟩:=I.lstM hH
 obtain⟨its2,r2,⟨⟨c,dd,dt,sl⟩,e2,hc,n2,hd⟩,z2⟩:=I.tuple hB
 simp only at hc hd
 subst hc hd
 have hl2:=r2.length
 have hsz:its.toArray.size+its2.toArray.size≤sizeLine:=by rw[List.size_toArray,List.size_toArray];omega
 have hlong:¬(!its.toArray.isEmpty && Builtin.List.listTooLong (its.toArray.size+its2.toArray.size))=true:=by
  rw[Nr hsz,Bool.and_false]
  exact Bool.false_ne_true
 refine call_meets F.slot_list_extend ⟨_,e,rfl⟩ F.entry_list_extend (F.args_list_extend_2 _ _)
  (Nv l its.toArray n b its2.toArray n2 dd sl hlong (by rw[List.size_toArray];omega) (by omega)) ⟨e,e2,?_⟩
 refine⟨.non,_,I.lset (its':=its++its2) hH e (by simp) (r.append r2) ?_,rfl,q⟩
 rw[List.length_append]
 omega
noncomputable def bp:Mo
  | S, ds, [x] => match dr S x with
    | .val (.tup zs)=>if ds.length+zs.length≤sizeLine then some (.non,ds++zs)else none
    |w=>(asL w).bind fun zs=>if ds.length+zs.length≤sizeLine then some (.non,ds++zs)else none
  |_,_,_=>none
theorem Xv {X : Cx} : MtR X "list.extend" (bq X.K bp) := by
  intro pins s σ H x vs v us Q I rx rv h
  obtain⟨M,S,n,a,ds,args,d,ds',rfl,hc,hn,e,st,ra,q⟩:=h
  unfold bp at e
  split at e
  · obtain ⟨xs, h1, h2⟩ := st.cell n a _ hc hn
    obtain⟨y,rfl,ry⟩:=P5 ra
    have sy:=YH st ry
    split at e
    · rename_i ed
      rw[ed]at sy
      split at e
      · rename_i hz
        cases e
        cases sy with
        | tup hx rr =>
          obtain⟨st2,g2⟩:=st.chg hc hn (h2.append rr)
          exact Ql pins s σ H _ _ v us Q I rx rv ⟨a,_,xs,_,rfl,rfl,h1,hx,by rw[h2.length,rr.length];exact hz,q _ _ st2 g2 .non⟩
      ·cases e
    · obtain ⟨zs, e1, e⟩ := BB e
      split at e
      · rename_i hz
        cases e
        obtain⟨b,ys,rfl,h3,h4⟩:=sy.l e1
        obtain⟨st2,g2⟩:=st.chg hc hn (h2.append h4)
        exact Su pins s σ H _ _ v us Q I rx rv ⟨a,b,xs,ys,rfl,rfl,h1,h3,by rw[h2.length,h4.length];exact hz,q _ _ st2 g2 .non⟩
      ·cases e
  ·cases e
theorem Vm{X:Cx}:OpR X (binaryOp .Mult) (fun x y H Q=>∃a xs k,x=.ref a/\y=.int k/\SqT X.K H a xs/\xs≠[]/\k≤0/\ -(2^63)≤k/\∀p,H p=none->Q (.ref p) (upd H p (.tup []))):=by
  intro pins s σ H x y v u Q I rx ry h
  obtain⟨a,xs,k,rfl,rfl,hx,hne,hk,hk2,q2⟩:=h
  cases rx
  obtain⟨t,rfl⟩:=ry
  obtain⟨its,r,⟨⟨c,dd,data,sl⟩,ho,hc,n,hd⟩,hzz⟩:=I.tuple hx
  simp only at hc hd
  subst hc hd
  have hl:=r.length
  have hpos:0<xs.length:=List.length_pos_iff.mpr hne
  refine wpAny_binaryOp_repeat_ref (T:="tuple") (U:="int") (by decide) ⟨_,ho,rfl⟩ (fun s'=>typeIs_int s' k t) Gf F.fills_int_mul F.slot_int_rmul KI F.slot_int_index.lookup
    (call_meets F.slot_int_rmul (typeIs_int s k t) F.entry_int_rmul (F.args_int_rmul_2 _ _) (Hr k t a its.toArray n dd sl) ⟨ho,rfl,⟨_,ho,rfl⟩,?_⟩)
  refine wpAny_call_entry F.slot_tuple_mul ⟨_,ho,rfl⟩ F.entry_tuple_mul ?_ (F.args_tuple_mul_2 _ _)
  unfold Builtin.«tuple.__mul__»
  wp_walk using AutoSeq1.wpAny_loadPart' ho
  rw [if_neg (show ¬ (decide (k < -2 ^ 63) || decide (k ≥ 2 ^ 63)) = true by
    rw[Bool.or_eq_true]
    rintro (z|z)
    ·have:=of_decide_eq_true z;omega
    ·have:=of_decide_eq_true z;omega)]
  wp_walk using AutoSeq1.wpAny_loadPart' ho
  have hemp:its.toArray.isEmpty=false:=by
    cases its with
    |nil=>rw[List.length_nil]at hl;omega
    |cons b bs=>rfl
  rw [if_neg (show ¬ (its.toArray.isEmpty || k == 1) = true by
    rw[hemp,Bool.false_or]
    intro z
    have:=eq_of_beq z
    omega)]
  wp_walk using AutoSeq1.wpAny_loadPart' ho
  all_goals first
    |exact⟨_,rfl,.ref _,_,I.laid (o:=.tup []) (t':=s.toks) (fun b ob q=>Heap.get?_push_of_some _ q) (Nat.le_refl _) ⟨Nat.zero_le _,[],.nil,PyProof.Rows.IsTup.new _ _⟩,rfl,q2 _ (I.hok.fresh (Nat.le_refl _))⟩
    | (exfalso
       rename_i hh
       exact hh (by rw[Bool.or_eq_true];exact .inl (decide_eq_true hk)))
noncomputable def Cn:Op2:=fun a b=>match a,b with
 | .val (.tup xs),.val (.int k)=>if(!xs.isEmpty && decide (k≤0) && decide (-(2^63)≤k))=true then some (.val (.tup []))else bu (.val (.tup xs)) (.val (.int k))
 |a,b=>bu a b
theorem Az {X : Cx} : OpR X (binaryOp .Mult) (rOp X.K Cn) := by
  intro pins s σ H x y v u Q I rx ry h
  obtain⟨M,w1,w2,r,e,mo,s1,s2,q⟩:=h
  unfold Cn at e
  split at e
  · split at e
    · rename_i xs k hk
      rw[Bool.and_eq_true,Bool.and_eq_true]at hk
      cases e
      cases s2
      cases s1 with
      | @tup a ys _ h1 r1=>
        have hne:ys≠[]:=fun zz=>by
          subst zz
          cases r1
          exact absurd hk.1.1 (by decide)
        exact Vm pins s σ H _ _ v u Q I rx ry ⟨a,ys,k,rfl,rfl,h1,hne,of_decide_eq_true hk.1.2,of_decide_eq_true hk.2,fun p hp=>q _ _ (.tup mo hp .nil)⟩
    ·exact RC pins s σ H x y v u Q I rx ry ⟨M,_,_,r,e,mo,s1,s2,q⟩
  ·exact RC pins s σ H x y v u Q I rx ry ⟨M,_,_,r,e,mo,s1,s2,q⟩
theorem AW{A:Around}{k:Nat}(hr:MT k A):A.units+100<cLine:=by have:=hr.un;omega
section
variable{P:Program}{w:World}{K:PySem.W.Frag}{mg:Str->Option Value}{base:Heap}
end
noncomputable def scE:Nat->PySem.Expr->List Scope
 |0,_=>[]
 |n+1,.ListComp e gs s _=>s::(gs.flatMap fun g=>scE n g.iter)++scE n e++(gs.flatMap fun g=>g.ifs.flatMap (scE n))
 |n+1,.BoolOp _ vs _=>vs.flatMap (scE n)
 |n+1,.Call f as _ _=>scE n f++as.flatMap (scE n)
 |n+1,.BinOp a _ b _=>scE n a++scE n b
 |n+1,.UnaryOp _ a _=>scE n a
 |n+1,.Compare a _ cs _=>scE n a++cs.flatMap (scE n)
 |n+1,.Subscript a b _=>scE n a++scE n b
 |n+1,.Tuple es _ _=>es.flatMap (scE n)
 |n+1,.List es _=>es.flatMap (scE n)
 |n+1,.IfExp c a b _=>scE n c++scE n a++scE n b
 |n+1,.Dict _ vs _=>vs.flatMap (scE n)
 |n+1,.Slice a b c _=>(a.toList++b.toList++c.toList).flatMap (scE n)
 |n+1,.Attribute v _ _=>scE n v
 |_,_=>[]
noncomputable def scS:Nat->Stmt->List Scope
 |0,_=>[]
 |n+1,.Return (some e) _=>scE 30 e
 |n+1,.Assign ts e _=>ts.flatMap (scE 30)++scE 30 e
 |n+1,.AugAssign t _ e _=>scE 30 t++scE 30 e
 |n+1,.Expr e _=>scE 30 e
 |n+1,.If t a b _=>scE 30 t++a.flatMap (scS n)++b.flatMap (scS n)
 |n+1,.For _ it a b _=>scE 30 it++a.flatMap (scS n)++b.flatMap (scS n)
 |n+1,.While t a b _=>scE 30 t++a.flatMap (scS n)++b.flatMap (scS n)
 |_,_=>[]
noncomputable def Ht(st:Stmt)(k:Nat):Scope:=((GS st).flatMap (scS 20)).getD k (AI st)
structure iH(P:Program)(w:World)(K:PySem.W.Frag)(mg:Str->Option Value)(base:Heap)(x:Str)(k np:Nat)(tbl:List (Str×Fn)):Prop where
 ex:∃a kvs,mg x=some (.ref a)/\TopD K w a kvs/\∀p G,tbl.lookup p=some G->∃f fd ps,kvs.lookup p=some (.ref f)/\Om P w K mg base CX0 k f fd ps (spD K np G)/\PySem.W.keepIn K (.ref f)=true/\Binds K fd ps []
section
variable{P:Program}{w:World}{K:PySem.W.Frag}{mg:Str->Option Value}{base h:Heap}
theorem ZU{x:Str}{st:Stmt}{f:Addr}{oc:Value}{od an:Option Addr}{osl:Array (Option Value)}{kV doc pm cdv ct:Value}(X:K.In h)(G:h.Ns mainGlobals mg)(a:PySem.W.nsIn K mainGlobals x=some (some (.ref f)))
  (l:K.lookup f=some ⟨oc,od,.func (PySem.W.fnOf x x (K8 st) (GS st) (AI st) .none kV doc pm an cdv ct),osl⟩) (c:PySem.W.codeIn K cdv x=true) (k:PySem.W.keepIn K (.ref f)=true):St.Src K mg x st:=
 ⟨f,_,Yv l c k,PySem.W.mg_of X G a⟩
def IsD(K:PySem.W.Frag)(u:Value)(d:D):Prop:=∃v,RelV v u/\∀M H,Dq K M H v d
theorem N7{i:Int}{t:Tok}:IsD K (.int i t) (.int i):=⟨.int i,⟨t,rfl⟩,fun _ _=>.int i⟩
theorem Nn{x:Str}{t:Tok}:IsD K (.str x t) (.str x):=⟨.str x,⟨t,rfl⟩,fun _ _=>.str x⟩
theorem Pw:∀{us:List Value} {ds:List D},Paired (fun d u=>IsD K u d) ds us->∃xs,Vals xs us/\∀M H,As K M H xs ds
  |_,_,.nil=>⟨[],.nil,fun _ _=>.nil⟩
  | _, _, .cons h t => by
    obtain⟨v,h1,h2⟩:=h
    obtain⟨xs,h3,h4⟩:=Pw t
    exact⟨v::xs,.cons h1 h3,fun M H=>.cons (h2 M H) (h4 M H)⟩
theorem Pb{a:Addr}{od:Option Addr}{osl:Array (Option Value)}{its:List Value}{n:Nat}{ds:List D}(l:K.lookup a=some ⟨.type "tuple",od,.seq its.toArray n,osl⟩)(hz:its.length≤sizeLine)(r:Paired (fun d u=>IsD K u d) ds its):IsD K (.ref a) (.tup ds):=by
 obtain⟨xs,h1,h2⟩:=Pw r
 exact⟨.ref a,rfl,fun M H=>.tup (.inr ⟨_,its.toArray,n,l,rfl,rfl,by simpa using hz,by simpa using h1⟩) (h2 M H)⟩
theorem RD{x:Str}{u:Value}{d:D}(X:K.In h)(G:h.Ns mainGlobals mg)(e:PySem.W.nsIn K mainGlobals x=some (some u))(r:IsD K u d):Ss K mg x d:=by
 obtain⟨v,h1,h2⟩:=r
 exact⟨v,u,PySem.W.mg_of X G e,h1,h2⟩
structure iD(w:World)(K:PySem.W.Frag)(mg:Str->Option Value)(x:Str)(ns:List (Str×Str)):Prop where
 ex:∃a kvs,mg x=some (.ref a)/\TopD K w a kvs/\Paired (fun(n:Str×Str) (q:Str×V)=>n.1=q.1/\∃f,q.2=.ref f/\mg n.2=some (.ref f)) ns kvs
noncomputable def YY(K:PySem.W.Frag):Sp:=fun vs H Q _=>∃(a:Addr) (ns:List Int),vs=[.ref a]/\SqL K H a (ns.map V.int)/\ns.length≤63/\∀H',Q (.bl true) H'
theorem Zz{k:Nat}{f:Addr}{fd:FuncData}{x:Str}{F:Fn}(Fk:Om P w K mg base CX0 k f fd [x] (spD K 1 F))(h:∀ns:List Int,ns.length≤63->∃S,F [.scr ns] []=some (.bl true,S)):Om P w K mg base CX0 k f fd [x] (YY K):=by
 refine Fk.imp fun vs H Q E z=>?_
 obtain⟨a,ns,rfl,hs,hl,q⟩:=z
 obtain⟨S,e⟩:=h ns hl
 refine⟨Ms.no,[.scr ns],[],_,S,rfl,e,.cons (.scr ?_) .nil,⟨fun a z=>absurd z Ms.no_mem,List.nodup_nil,fun a z=>(nomatch z),rfl,fun n a c z=>by simp[Ms.no]at z⟩,fun v H' M' g st r=>?_⟩
 ·rcases hs with hs|hs
  ·exact .inl ⟨hs,Ms.no_mem⟩
  ·exact .inr hs
 ·cases r
  exact q H'
end
def dZ(K:PySem.W.Frag):V->V->Hp->VK->Prop:=fun o i H Q=>∃p xs k z,o=.ref p/\i=.int k/\0≤k/\H p=some (.lst xs)/\xs[k.toNat]?=some z/\Q z H
theorem Rj{X:Cx}:fg X (dZ X.K):=by
 intro pins s σ H x y v u Q I rx ry h
 obtain⟨p,xs,i,z,rfl,rfl,h0,hp,he,q⟩:=h
 cases rx
 obtain⟨t,rfl⟩:=ry
 obtain⟨its,r,pl,hz⟩:=I.list (xs:=xs) (.inl (.of hp))
 obtain⟨w,ew,rw'⟩:=r.get he
 have hl:=r.length
 have hn:=MM
 have hi:i.toNat<its.length:=(List.getElem?_eq_some_iff.mp ew).1
 exact wpAny_getItem_list pl.isList h0 (by omega) (by simpa using ew) ⟨z,H,I,rw',q⟩
noncomputable def VH(g:Int->Int->Int)(f o k:Ev):Ex:=fun E S=>(f E S).bind fun b=>(o E b.2).bind fun i=>match b.1,i.1 with
  | .ref n,.int j=>(DN i.2 n).bind fun ds=>(ixN ds.length j).bind fun m=>if 0≤j then match ds[m]? with
    | some (.int a) => (k E i.2).bind fun r => match r.1 with
      | .int c=>(DN r.2 n).bind fun ds'=>(ixN ds'.length j).map fun m'=>(.nx,E,r.2.set n (.lst (ds'.set m' (.int (g a c)))))
      |_=>none
    |_=>none
    else none
  |_,_=>none
theorem Ys{X:Cx}{e t bs:Expr}{k f o:Ev}{op:Operator}{g:Int->Int->Int}{ps pos:Pos}(hb:DE X bs f)(ht:DE X t o)(h:DE X e k)(hp:PIp X op (ipI g))
    (ha:∀ov iv new,augStore t ov iv new=(do holding [new,ov,iv] (setItem ov iv new);release [new,ov,iv] [];pure .next):=by intros;rfl):DS X (.AugAssign (.Subscript bs t ps) op e pos) (VH g f o k):=⟨
  FN (YU hb.pe ht.pe Rj h.pe hp set_list ha) fun Dn σ H z=>by
    obtain⟨M,E,S,fl,E',S',e,r,st,q⟩:=z
    obtain⟨⟨b,S1⟩,e1,e⟩:=BB e
    obtain⟨⟨i,S2⟩,e2,e⟩:=BB e
    dsimp only at e e1 e2
    split at e
    case h_2=>cases e
    rename_i n j _
    obtain⟨ds,e3,e⟩:=BB e
    obtain⟨m,e4,e⟩:=BB e
    split at e
    case isFalse=>cases e
    rename_i h0
    split at e
    case h_2=>cases e
    rename_i a e5
    obtain⟨⟨c,S3⟩,e6,e⟩:=BB e
    dsimp only at e e6
    split at e
    case h_2=>cases e
    rename_i c
    obtain⟨ds',e7,e⟩:=BB e
    obtain⟨m',e8,e⟩:=Jo e
    cases e
    refine⟨M,E,S,_,S1,e1,r,st,fun bv H1 M1 g1 st1 r1=>?_⟩
    refine⟨M1,E,S1,_,S2,e2,r.step g1.st,st1,fun iv H2 M2 g2 st2 r2=>?_⟩
    cases r2
    cases r1 with
    | ref hc =>
      rename_i ad
      have hc2:=Jb g2.pre hc
      obtain⟨xs,h1,h2⟩:=st2.cell n ad _ hc2 (Ck e3)
      have hm:m=j.toNat:=by
        unfold ixN at e4
        rw[if_pos h0]at e4
        split at e4
        ·cases e4;rfl
        ·cases e4
      subst hm
      obtain⟨z,e9,r9⟩:=h2.get e5
      cases r9
      refine⟨ad,xs,j,.int a,rfl,rfl,h0,h1,e9,?_⟩
      refine⟨M2,E,S2,_,S3,e6,(r.step g1.st).step g2.st,st2,fun cv H3 M3 g3 st3 r3=>?_⟩
      cases r3
      refine⟨a,c,rfl,rfl,?_⟩
      have hc3:=Jb g3.pre hc2
      obtain⟨ys,h3,h4⟩:=st3.cell n ad _ hc3 (Ck e7)
      obtain⟨st4,g4⟩:=st3.chg hc3 (Ck e7) (h4.set (.int (g a c)) m')
      have gg:=((g1.trans g2).trans g3).trans g4
      exact⟨ad,ys,j,m',rfl,rfl,h3,by rw[h4.length];exact e8,q _ _ M3 gg (r.step gg.st) st4⟩⟩
noncomputable def OO{α β:Type}(f:α->Option β):List α->Option (List β)
 | []=>some []
 |a::as=>(f a).bind fun b=>(OO f as).map fun bs=>b::bs
noncomputable def Ce(S:Sto):Nat->D->Option D
  |0,_=>none
  | n + 1, d => match d with
    | .non=>some .non
    | .bl b=>some (.bl b)
    | .int i=>some (.int i)
    | .str x=>some (.str x)
    | .tup ds=>(OO (Ce S n) ds).map .tup
    | .lst ds=>(OO (Ce S n) ds).map .lst
    | .ref k=>(DN S k).bind fun ds=>(OO (Ce S n) ds).map .lst
    |_=>none
section
variable{X:Cx}{pins:List (Addr×Obj)}{σ:Sg}{H:Hp}{s:Shared}{M:Ms}{S:Sto}
theorem IY{f:D->Option D}(hf:∀{v:V} {d:D} {u:Value} {d':D},Dq X.K M H v d->RelV v u->f d=some d'->d'.lay=true->∃as,Reads s.heap u d'.py as):
    ∀{vs:List V} {ds:List D} {us:List Value} {ds':List D},As X.K M H vs ds->Vals vs us->OO f ds=some ds'->D.lays ds'=true->∃as,ReadsAll s.heap us (D.pys ds') as
  |_,_,_,_,.nil,r,e,_=>by cases r;cases e;exact⟨_,.nil⟩
  | _, _, _, _, .cons h t, r, e, hl => by
    cases r with
    | cons r1 r2 =>
      obtain⟨d',e1,e⟩:=BB e
      obtain⟨ds',e2,e⟩:=Jo e
      cases e
      have hl':(D.lay d' && D.lays ds')=true:=hl
      rw[Bool.and_eq_true]at hl'
      obtain⟨as,ra⟩:=hf h r1 e1 hl'.1
      obtain⟨bs,rb⟩:=IY hf t r2 e2 hl'.2
      exact⟨_,.cons ra rb⟩
theorem F8(I:Inv X pins σ H s)(st:StR X.K M S H):∀{n:Nat} {v:V} {d:D} {u:Value} {d':D},Dq X.K M H v d->RelV v u->Ce S n d=some d'->d'.lay=true->∃as,Reads s.heap u d'.py as
  |0,_,_,_,_,_,_,e,_=>by cases e
  |n+1,_,_,_,_,.non,r,e,_=>by cases e;cases r;exact⟨_,.none⟩
  |n+1,_,_,_,_,.bl b,r,e,_=>by cases e;cases r;exact⟨_,.bool b⟩
  |n+1,_,_,_,_,.int i,r,e,_=>by cases e;obtain⟨t,rfl⟩:=r;exact⟨_,.int i t⟩
  |n+1,_,_,_,_,.str x,r,e,_=>by cases e;obtain⟨t,rfl⟩:=r;exact⟨_,.str x t⟩
  |n+1,_,_,_,_,.ty _,_,e,_=>by cases e
  |n+1,_,_,_,_,.scr _,_,e,_=>by cases e
  |n+1,_,_,_,_,.dct _ _ _,_,e,_=>by cases e
  | n + 1, _, _, _, _, .tup h rs, r, e, hl => by
    obtain⟨ds',e1,e⟩:=Jo e
    cases e
    cases r
    obtain⟨its,rv,⟨o,eo,hc,k,hd⟩,_⟩:=I.tuple h
    obtain⟨as,ra⟩:=IY (F8 I st (n:=n)) rs rv e1 hl
    exact⟨as,.tuple eo hc hd ra⟩
  | n + 1, _, _, _, _, .lst h _ rs, r, e, hl => by
    obtain⟨ds',e1,e⟩:=Jo e
    cases e
    cases r
    obtain⟨its,rv,o,k,eo,hc,hd⟩:=GN I (.inl h)
    obtain⟨as,ra⟩:=IY (F8 I st (n:=n)) rs rv e1 hl
    exact⟨_,.list eo hc hd ra⟩
  | n + 1, _, _, _, _, .ref h, r, e, hl => by
    obtain⟨ds,e0,e⟩:=BB e
    obtain⟨ds',e1,e⟩:=Jo e
    cases e
    cases r
    obtain⟨xs,h1,rs⟩:=st.cell _ _ _ h (Ck e0)
    obtain⟨its,rv,o,k,eo,hc,hd⟩:=GN I (.inl h1)
    obtain⟨as,ra⟩:=IY (F8 I st (n:=n)) rs rv e1 hl
    exact⟨_,.list eo hc hd ra⟩
end
noncomputable def rDp(K:PySem.W.Frag)(ne:Bool):R2:=fun x y H Q=>∃M S d1 d2 a b,StR K M S H/\Dq K M H x d1/\Dq K M H y d2/\Ce S 8 d1=some a/\Ce S 8 d2=some b/\Dj a b=true/\Q (.bl (xor ne (deq a b))) H
noncomputable def eDp(ne:Bool)(fa fb:Ev):Ev:=fun E S=>(fa E S).bind fun p=>(fb E p.2).bind fun q=>(Ce q.2 8 p.1).bind fun a=>(Ce q.2 8 q.1).bind fun b=>if Dj a b=true then some (.bl (xor ne (deq a b)),q.2)else none
section
variable{X:Cx}{a b:Expr}{fa fb:Ev}{pos:Pos}
theorem ZR(hu:X.A.units+100<cLine):OpR X (compareOp .NotEq) (rDp X.K true):=by
 intro pins s σ H x y v u Q I rx ry h
 obtain⟨M,S,d1,d2,a,b,st,r1,r2,e1,e2,hk,q⟩:=h
 unfold Dj at hk
 rw[Bool.and_eq_true,Bool.and_eq_true]at hk
 obtain⟨as,ra⟩:=F8 I st r1 rx e1 hk.1.1
 obtain⟨bs,rb⟩:=F8 I st r2 ry e2 hk.1.2
 have hd:=of_decide_eq_true hk.2
 rw[Bool.true_xor]at q
 exact SeqAt.compareNe_reads ra rb (HM hk.1.1) (HM hk.1.2) (by omega) ⟨.bl _,H,I,rfl,q⟩
theorem dP{K:PySem.W.Frag}{ne:Bool}{σ:Sg}{H:Hp}{Q:VK}(h:tD K (eDp ne fa fb) σ H Q):tOp (rDp K ne) (tD K fa) (tD K fb) σ H Q:=by
 obtain⟨M,E,S,d,S',e,r,st,q⟩:=h
 obtain⟨⟨x,S1⟩,e1,e⟩:=BB e
 obtain⟨⟨y,S2⟩,e2,e⟩:=BB e
 obtain⟨x',e3,e⟩:=BB e
 obtain⟨y',e4,e⟩:=BB e
 dsimp only at e2 e3 e4 e
 split at e
 ·rename_i hk
  cases e
  refine⟨M,E,S,x,S1,e1,r,st,fun v H1 M1 g1 st1 r1=>⟨M1,E,S1,y,_,e2,r.step g1.st,st1,fun v2 H2 M2 g2 st2 r2=>?_⟩⟩
  exact⟨M2,_,x,y,x',y',st2,r1.step g2.st,r2,e3,e4,hk,q _ _ M2 (g1.trans g2) st2 (.bl _)⟩
 ·cases e
theorem TL(hu:X.A.units+100<cLine)(ha:DE X a fa)(hb:DE X b fb)(hm:behindInMarks .NotEq b=false:=by rfl):DT X (.Compare a [.NotEq] [b] pos) (eDp true fa fb):=W8 (Te (ZR hu) ha.pe hb.pe hm) fun _ _ _ h=>dP h
end
abbrev sO(led:Bool):Obj:={cls:=.type "set",dict:=none,data:=.set #[] 0 (.fresh 0 0 led)}
section
variable{prog:Program}{w:World}{A:Around}{E:Value->Shared->Prop}{s:Shared}{l:Addr}{items:Array Value}{ns:List Int}
abbrev UG(ns:List Int)(n:Nat):List Int:=PyProof.Rows.firstMet (fun i=>ns.getD i 0) n
theorem VL{led:Bool}{Q:Value->Shared->Prop}(hh:A.handled=none)(hl:s.heap.IsTuple l items)(hi:PyProof.Rows.IntsAre items.toList ns)(hb:items.size+1<scanBound)
  (h:∀(h':Heap) (tk:Nat),h'.SetOf (intKind prog w) s.heap.objs.size (fun k=>(UG ns items.size).any (· ==k)) (UG ns items.size).length->
   (∀b o,s.heap.get? b=some o->h'.get? b=some o)->Q .none {s with heap:=h',toks:=tk}):
  codeAny (model prog w) A (.call (.builtin "set.__init__") ⟨[.ref s.heap.objs.size,.ref l],[]⟩) (wants Q E) {s with heap:=s.heap.push (sO led)}:=by
 have me:(s.heap.push (sO led)).get? s.heap.objs.size=some (sO led):=Heap.get?_push_size _ rfl
 have ty:Shared.TypeIs {s with heap:=s.heap.push (sO led)} (.ref s.heap.objs.size) "set":=⟨_,me,rfl⟩
 have hl1:=hl.push (sO led)
 obtain⟨o,ho,hc,n,hd⟩:=id hl
 have lt:=Heap.lt_size ho
 refine codeAny_call_builtin F.called_set.init.plain F.entry_set_init (check_set_init_1 ty ?_)
 have ho1:=Heap.get?_push_of_some (sO led) ho
 obtain⟨c0,d0,q0,l0⟩:=o
 cases hc;cases hd
 have n1:=F.sub_tuple_set
 have n2:=F.sub_tuple_frozenset
 have n3:(Value.type "tuple" ==Value.type "dict")=false:=by decide
 unfold Builtin.«set.__init__» noKeywords Builtin.Frozenset.updateFrom
 generalize pi:pyIter=it
 wp_walk
 subst pi
 refine wpAny_pyIter_tuple hl1 (wpAny_bind (wpAny_runValue ?_))
 have sz:(s.heap.push (sO led)).objs.size=s.heap.objs.size+1:=Heap.size_push ..
 have ap:l≠(s.heap.push (sO led)).objs.size:=by rw[sz];exact Nat.ne_of_lt (Nat.lt_succ_of_lt lt)
 refine PyProof.Rows.codeAny_set_update_loopS ((Walks.tuple (by simp[hh]) _ l ap items).toS) s.heap.objs.size (by rw[sz,List.mem_cons,List.mem_singleton,not_or];exact⟨Nat.ne_of_lt (Nat.lt_succ_self _),Nat.ne_of_gt lt⟩) (fun i=>ns.getD i 0)
  (fun i v hv=>hi.int_at i v (by rw[Array.getElem?_toList];exact hv)) hb (items.size-0) 0 _ (by omega) (Nat.zero_le _) ⟨⟨_,Heap.get?_push_size _ rfl,rfl,rfl⟩,hl1.push _⟩ ?_ ?_
 ·exact PyProof.Rows.SetOf_congr ((PyProof.Rows.setObjOf_fresh (knd:=intKind prog w) led).setOf (Heap.get?_push_of_some _ me) (by unfold scanBound;omega)) (fun _=>rfl) rfl
 ·rintro ⟨h',g',d',tk',os'⟩ hm hS
  have e1:g'=s.gens:=hm.gens
  have e2:d'=s.drawn:=hm.drawn
  have e3:os'=s.os:=hm.os
  subst e1 e2 e3
  refine wpAny_pure (show wpAny _ _ (ret Value.none) _ _ _ from wpAny_pure (h h' tk' hS fun b u e=>?_))
  have lb:=Heap.lt_size e
  exact hm.heap b u (by rw[sz,List.mem_cons,List.mem_singleton,not_or];exact⟨Nat.ne_of_lt lb,Nat.ne_of_lt (Nat.lt_succ_of_lt lb)⟩) (Heap.get?_push_of_some _ (Heap.get?_push_of_some _ e))
theorem Sn{Q:Value->Shared->Prop}(hh:A.handled=none)(hl:s.heap.IsTuple l items)(hi:PyProof.Rows.IntsAre items.toList ns)(hb:items.size+1<scanBound)
  (h:∀(h':Heap) (tk:Nat),h'.SetOf (intKind prog w) s.heap.objs.size (fun k=>(UG ns items.size).any (· ==k)) (UG ns items.size).length->
   (∀b o,s.heap.get? b=some o->h'.get? b=some o)->Q (.ref s.heap.objs.size) {s with heap:=h',toks:=tk}):
  wpAny (model prog w) A (call (.type "set") [.ref l]) Q E s:=by
 obtain⟨c,tl,mr⟩:=F.called_set.mro
 have z1:=F.called_set.made
 have z2:=F.called_set.sub
 have z3:=F.called_set.notType
 have z4:=F.called_set.canCreate
 have z5:=F.typeCall_set_1 (.ref l)
 refine wpAny_call (codeAny_of_tree (show wpAny _ _ (callAny (.type "set") _) _ _ _ from wpAny_pure ⟨Code.quiet_builtin _ (by decide+kernel),codeAny_builtin F.entry_type_call ?_⟩))
 rw[Around.under_plain (weight_type_call_type "set" [.ref l] []) rfl]
 repeat (any_goals (first|assumption|wp_step))
 refine codeAny_mono (code_set_new_1 (.ref l) (E:=E) (Q₁:=fun u s1=>∃led,u=.ref s.heap.objs.size/\s1={s with heap:=s.heap.push (sO led)}) fun led=>⟨led,rfl,rfl⟩) ?_
 rintro (e|(_|u|_)) s1 hr
 all_goals first|exact hr|exact hr.elim|skip
 obtain⟨led,rfl,rfl⟩:=hr
 have me:(s.heap.push (sO led)).get? s.heap.objs.size=some (sO led):=Heap.get?_push_size _ rfl
 have ty:Shared.TypeIs {s with heap:=s.heap.push (sO led)} (.ref s.heap.objs.size) "set":=⟨_,me,rfl⟩
 have y1:=F.called_set.init.lookup
 have y2:=F.called_set.init.bind (.ref s.heap.objs.size)
 repeat (any_goals (first|assumption|wp_step))
 refine codeAny_mono (VL (E:=E) (led:=led) (Q:=fun r s2=>r=.none/\∃h' tk,s2={s with heap:=h',toks:=tk}/\h'.SetOf (intKind prog w) s.heap.objs.size (fun k=>(UG ns items.size).any (· ==k)) (UG ns items.size).length/\∀b o,s.heap.get? b=some o->h'.get? b=some o) (by simp[hh]) hl hi hb fun h' tk hS hk=>⟨rfl,h',tk,rfl,hS,hk⟩) ?_
 rintro (e|(_|u|_)) s2 hr
 all_goals first|exact hr|exact hr.elim|skip
 obtain⟨rfl,h',tk,rfl,hS,hk⟩:=hr
 repeat (any_goals (first|assumption|wp_step))
 exact h _ _ hS hk
end
noncomputable def tSL(K:PySem.W.Frag)(ta:TA):TE:=fun σ H Q=>ta σ H fun vs H1=>∃(a:Addr) (ns:List Int),vs=[.ref a]/\SqT K H1 a (ns.map V.int)/\ns.length≤1000/\Q (.int ((UG ns ns.length).length:Int)) H1
theorem QA:∀{ns:List Int} {us:List Value},Vals (ns.map V.int) us->PyProof.Rows.IntsAre us ns
  | [],_,h=>by cases h;exact .nil
  | n :: ns, _, h => by
    cases h with
    | cons h t =>
      obtain⟨k,rfl⟩:=h
      exact .cons n k (QA t)
theorem dU{X:Cx}{a:Expr}{ta:TA}{p p' pos pos':Pos}(hc:X.calm=true)(hgl:Gl X "len")(hml:X.mg "len"=none)(hg:Gl X "set")(hm:X.mg "set"=none)(ha:PA X [a] ta)(hs:starEach [a] X.env=[(false,eval a X.env)]:=by rfl)
    (hs2:starEach [Expr.Call (.Name "set" p) [a] [] pos] X.env=[(false,eval (.Call (.Name "set" p) [a] [] pos) X.env)]:=by rfl):PE X (.Call (.Name "len" p') [.Call (.Name "set" p) [a] [] pos] [] pos') (tSL X.K ta):=by
  intro pins s σ H Q I h
  refine wpAny_Call_Name_kw (J0 I hgl hml PySem.boot_len ?_ (by decide) (by decide))
  refine PyProof.Rows.callWith_builtin1 ?_ hs2 rfl
  rw[hs2]
  show wpAny _ _ (spliced ((false,eval (.Call (.Name "set" p) [a] [] pos) X.env)::backTo pos' [])) _ _ s
  refine PySem.Calls.spliced_cons ?_
  refine wpAny_Call_Name_kw (J0 I hg hm PyProof.Rows.boot_set ?_ (by decide) (by decide))
  refine PyProof.Rows.callWith_type1 (thn (ha pos pins s σ H _ I h) fun us s1 ⟨vs,H1,I1,r1,q1⟩=>?_) hs rfl
  obtain⟨b,ns,e,hT,hz,q⟩:=q1
  subst e
  cases r1 with
  | cons r rr =>
    cases rr
    cases r
    obtain⟨its,rv,tp,_⟩:=I1.tuple hT
    have hI:=QA rv
    have hl:its.length=ns.length:=by have:=rv.length;simpa using this.symm
    have hl2:its.toArray.size=ns.length:=by rw[List.size_toArray,hl]
    refine Sn (items:=its.toArray) (ns:=ns) (I1.ok.hd hc) tp (by simpa using hI) (by rw[hl2];unfold scanBound;omega) fun h' tk hS hk=>PySem.Calls.spliced_nil ?_
    rw[hl2]at hS
    obtain⟨o,es,ep,t,ho,hex,hd,_,_,hb,hf,hn⟩:=hS
    have hsz:((es.size:Nat):Int)<2^63:=by unfold scanBound at hb;omega
    refine call_len_set ho hex hd hf hsz ⟨.int es.size,H1,I1.kept hk,⟨_,rfl⟩,?_⟩
    rw[hn]
    exact q
noncomputable def slK(r:D×Sto):Option (D×Sto):=match r.1 with
 | .tup ds=>(Iw ds).bind fun ns=>if ns.length≤1000 then some (.int ((UG ns ns.length).length:Int),r.2)else none
 |_=>none
noncomputable def eSL(o:Ev):Ev:=fun E S=>(o E S).bind slK
theorem eJ {X : Cx} {a : Expr} {o : Ev} {p p' pos pos' : Pos} (hc : X.calm = true) (hgl : Gl X "len") (hml : X.mg "len" = none) (hg : Gl X "set") (hm : X.mg "set" = none) (ha : DEs X [a] [o]) (hs : starEach [a] X.env = [(false, eval a X.env)] := by rfl)
    (hs2:starEach [Expr.Call (.Name "set" p) [a] [] pos] X.env=[(false,eval (.Call (.Name "set" p) [a] [] pos) X.env)]:=by rfl):DE X (.Call (.Name "len" p') [.Call (.Name "set" p) [a] [] pos] [] pos') (eSL o):=⟨
  B7 (dU hc hgl hml hg hm ha.pe hs hs2) fun σ H Q z=>by
    obtain⟨M,E,S,d,S',e,r,st,q⟩:=z
    obtain⟨⟨w,S1⟩,e1,e⟩:=BB e
    have e1':evs [o] E S=some ([w],S1):=by
      show(o E S).bind (fun r=>(evs [] E r.2).map fun q=>(r.1::q.1,q.2))=_
      rw[e1];rfl
    refine Hy e1' r st fun vs H1 M1 g1 st1 r1=>?_
    unfold slK at e
    split at e
    · rename_i ds he
      have he:w=.tup ds:=he
      subst he
      obtain⟨ns,en,e⟩:=BB e
      split at e
      · rename_i hz
        cases e
        cases r1 with
        | cons r1 rn =>
          cases rn
          cases r1 with
          | tup h rs =>
            have:=Iv rs en
            subst this
            exact⟨_,ns,rfl,h,hz,q _ _ M1 g1 st1 (.int _)⟩
      ·cases e
    ·cases e⟩
noncomputable def VV(n:Nat):En->Nat:=fun _=>n
section
open PyProof.Rows (boot_isinstance boot_int boot_bool boot_tuple boot_str boot_list boot_abs boot_all boot_any boot_sum boot_max boot_min boot_range boot_enumerate boot_zip boot_sorted boot_set boot_divmod)
noncomputable def G4:D:=.tup [.int 0,.int 1]
noncomputable def TM:D:=.tup [.int 1,.int 1]
noncomputable def DM:D:=.tup [.str "bring",.str "pool",.str "swap",.str "trade"]
def HI:Ex:=(Bf (Jv (eOp (o2 Yi) [(eV 0),(eC (.ty "int"))]) (Ul (eOp (o2 Yi) [(eV 0),(eC (.ty "bool"))]))))
def Fs:Fn:=A5 (A9 1 HI)
def IL:Ex:=(Bf (Jv (AK Fs [(eV 0)]) (eOp (o2 wGe) [(eV 0),(eV 1)])))
def GX:Fn:=A5 (A9 2 IL)
def GP:Ex:=(Bf (Jv (AK GX [(eV 0),(eV 1)]) (eOp (o2 wLe) [(eV 0),(eV 2)])))
def E5:Fn:=A5 (A9 3 GP)
def Eu:Ex:=(Ae (Qs 0 1 (eOp (o1 Yh) [(eV 0)]) (eOp (o1 Yh) [(eV 1)]))
  (Ae (KD (Qz 1) (eOp (o2 wNe) [(eV 1),(eC (.int 0))]) (Qs 0 1 (eV 1) (eOp (o2 O4) [(eV 0),(eV 1)])))
  (Bf (eV 0))))
def CG:Fn:=A5 (A9 2 Eu)
def Ml:Ex:=(Ae (BW 2 (AK CG [(eV 0),(eV 1)]))
  (Bf (CI [(eOp (o2 KN) [(eV 0),(eV 2)]),(eOp (o2 KN) [(eV 1),(eV 2)])])))
def C0:Fn:=A5 (A9 3 Ml)
def QN:Ex:=(Bf (AK C0 [(eOp (o2 C9) [(eOp (o2 Cn) [(eOp (o2 wIx) [(eV 0),(eC (.int 0))]),(eOp (o2 wIx) [(eV 1),(eC (.int 1))])]),(eOp (o2 Cn) [(eOp (o2 wIx) [(eV 1),(eC (.int 0))]),(eOp (o2 wIx) [(eV 0),(eC (.int 1))])])]),(eOp (o2 Cn) [(eOp (o2 wIx) [(eV 0),(eC (.int 1))]),(eOp (o2 wIx) [(eV 1),(eC (.int 1))])])]))
def Io:Fn:=A5 (A9 2 QN)
def QM:Ex:=(Bf (AK C0 [(eOp (o2 Ly) [(eOp (o2 Cn) [(eOp (o2 wIx) [(eV 0),(eC (.int 0))]),(eOp (o2 wIx) [(eV 1),(eC (.int 1))])]),(eOp (o2 Cn) [(eOp (o2 wIx) [(eV 1),(eC (.int 0))]),(eOp (o2 wIx) [(eV 0),(eC (.int 1))])])]),(eOp (o2 Cn) [(eOp (o2 wIx) [(eV 0),(eC (.int 1))]),(eOp (o2 wIx) [(eV 1),(eC (.int 1))])])]))
def Ie:Fn:=A5 (A9 2 QM)
def OT:Ex:=(Bf (AK C0 [(eOp (o2 Cn) [(eOp (o2 wIx) [(eV 0),(eC (.int 0))]),(eOp (o2 wIx) [(eV 1),(eC (.int 0))])]),(eOp (o2 Cn) [(eOp (o2 wIx) [(eV 0),(eC (.int 1))]),(eOp (o2 wIx) [(eV 1),(eC (.int 1))])])]))
def Ee:Fn:=A5 (A9 2 OT)
def Og:Ex:=(Ae (BW 4 (eOp (o2 C9) [(eOp (o2 Cn) [(eOp (o2 Cn) [(eOp (o2 wIx) [(eV 0),(eC (.int 0))]),(eOp (o2 wIx) [(eV 2),(eC (.int 1))])]),(eV 1)]),(eOp (o2 Cn) [(eOp (o2 Cn) [(eOp (o2 wIx) [(eV 2),(eC (.int 0))]),(eOp (o2 wIx) [(eV 0),(eC (.int 1))])]),(eV 3)])]))
  (Bf (AK C0 [(eV 4),(eOp (o2 Cn) [(eOp (o2 Cn) [(eOp (o2 wIx) [(eV 0),(eC (.int 1))]),(eOp (o2 wIx) [(eV 2),(eC (.int 1))])]),(eOp (o2 C9) [(eV 1),(eV 3)])])])))
def G7:Fn:=A5 (A9 5 Og)
def Hu:Ex:=(Bf (Jv (eOp (o2 wLt) [(eV 1),(eOp (o1 Hh) [(eV 0)])]) (eOp (o2 wGe) [(eOp (o2 wIx) [(eOp (o2 wIx) [(eV 0),(eV 1)]),(eC (.int 1))]),(eV 2)])))
def CB:Fn:=A5 (A9 3 Hu)
def Jw:Ex:=(Bf (Jv (AK CB [(eV 0),(eV 1),(eC (.int 1))]) (Jv (AK CB [(eV 0),(eV 2),(eC (.int 1))]) (eOp (o2 wEq) [(eOp (o2 wIx) [(eOp (o2 wIx) [(eV 0),(eV 1)]),(eC (.int 0))]),(eOp (o2 wIx) [(eOp (o2 wIx) [(eV 0),(eV 2)]),(eC (.int 0))])]))))
def Fo:Fn:=A5 (A9 3 Jw)
def J9:Ex:=(Bf (Jv (AK CB [(eV 0),(eV 1),(eV 2)]) (eOp (o2 wNe) [(eOp (o2 wIx) [(eOp (o2 wIx) [(eV 0),(eV 1)]),(eC (.int 0))]),(eV 3)])))
def Eh:Fn:=A5 (A9 4 J9)
def DZ:Ex:=(Ae (BW 3 (eOp (o2 wIx) [(eV 2),(eC (.int 0))]))
  (Ae (xIf (eOp (o2 wEq) [(eV 3),(eC (.str "pool"))]) (Bf (AK Fo [(eV 0),(eOp (o2 wIx) [(eV 2),(eC (.int 1))]),(eOp (o2 wIx) [(eV 2),(eC (.int 2))])])) Es)
  (Ae (xIf (eOp (o2 wEq) [(eV 3),(eC (.str "swap"))]) (Bf (AK Eh [(eV 0),(eOp (o2 wIx) [(eV 2),(eC (.int 1))]),(eOp (o2 wIx) [(eV 2),(eC (.int 2))]),(eOp (o2 wIx) [(eV 2),(eC (.int 3))])])) Es)
  (Ae (xIf (eOp (o2 wEq) [(eV 3),(eC (.str "trade"))]) (Ae (BW 4 (B4 [] 1 (FE (eV 1)) (tNm 0) (eOp (o2 wEq) [(eOp (o2 wIx) [(eV 0),(eC (.int 0))]),(eC (.str "trade"))]) (eOp (o2 wIx) [(eV 0),(eC (.int 1))])))
  (Bf (Jv (eOp (o2 (wIn true)) [(eOp (o2 wIx) [(eV 2),(eC (.int 1))]),(eV 4)]) (AK Eh [(eV 0),(eOp (o2 wIx) [(eV 2),(eC (.int 2))]),(eOp (o2 wIx) [(eV 2),(eC (.int 3))]),(eOp (o2 wIx) [(eV 2),(eC (.int 4))])])))) Es)
  (Ae (xIf (eOp (o2 (wIn false)) [(eV 3),(CI [(eC (.str "spoil")),(eC (.str "throw"))])]) (Bf (AK CB [(eV 0),(eOp (o2 wIx) [(eV 2),(eC (.int 1))]),(eOp (o2 wIx) [(eV 2),(eC (.int 2))])])) Es)
  (Bf (eC (.bl true))))))))
def CS:Fn:=A5 (A9 5 DZ)
def Gm:Ex:=(Ae (OS (tTp [(tNm 3),(tNm 4)]) (eOp (o2 wIx) [(eV 0),(eV 1)]))
  (Bf (eOp (o2 C9) [(eOp (o2 C9) [(eOp (NP false true) [(eV 0),(eV 1)]),(JI [(CI [(eV 3),(eOp (o2 Ly) [(eV 4),(eV 2)])])])]),(eOp (NP true false) [(eV 0),(eOp (o2 C9) [(eV 1),(eC (.int 1))])])])))
def Bj:Fn:=A5 (A9 5 Gm)
def Be:Ex:=(Ae (BW 2 (eOp (o2 wIx) [(eV 1),(eC (.int 0))]))
  (Ae (xIf (eOp (o2 wEq) [(eV 2),(eC (.str "bring"))]) (Bf (eOp (o2 C9) [(eV 0),(JI [(CI [(eOp (o2 wIx) [(eV 1),(eC (.int 2))]),(eOp (o2 wIx) [(eV 1),(eC (.int 3))])])])])) Es)
  (Ae (xIf (eOp (o2 wEq) [(eV 2),(eC (.str "pool"))]) (Ae (OS (tTp [(tNm 3),(tNm 4)]) (eOp (o2 wIx) [(eV 0),(eOp (o2 wIx) [(eV 1),(eC (.int 1))])]))
  (Ae (BW 5 (eOp (o2 wIx) [(eOp (o2 wIx) [(eV 0),(eOp (o2 wIx) [(eV 1),(eC (.int 2))])]),(eC (.int 1))]))
  (Bf (eOp (o2 C9) [(AK Bj [(AK Bj [(eV 0),(eOp (o2 wIx) [(eV 1),(eC (.int 1))]),(eV 4)]),(eOp (o2 wIx) [(eV 1),(eC (.int 2))]),(eV 5)]),(JI [(CI [(eV 3),(eOp (o2 C9) [(eV 4),(eV 5)])])])])))) Es)
  (Ae (xIf (eOp (o2 (wIn false)) [(eV 2),(CI [(eC (.str "swap")),(eC (.str "trade"))])]) (Ae (OS (tTp [(tNm 6),(tNm 7),(tNm 3),(tNm 8)]) (eOp (NP true false) [(eV 1),(eOp (o1 RV) [(eC (.int 4))])]))
  (Bf (eOp (o2 C9) [(AK Bj [(eV 0),(eV 6),(eV 7)]),(JI [(CI [(eV 3),(eV 8)])])]))) Es)
  (Ae (xIf (eOp (o2 (wIn false)) [(eV 2),(CI [(eC (.str "spoil")),(eC (.str "throw"))])]) (Bf (AK Bj [(eV 0),(eOp (o2 wIx) [(eV 1),(eC (.int 1))]),(eOp (o2 wIx) [(eV 1),(eC (.int 2))])])) Es)
  (Bf (eV 0)))))))
def Aj:Fn:=A5 (A9 9 Be)
def GD:Ex:=(Bf (B4 [] 1 (FE (eOp (o2 wIx) [(eV 0),(eC (.int 1))])) (tNm 0) BU (CI [(eOp (o2 wIx) [(eV 0),(eC (.int 0))]),(eOp (o2 wIx) [(eV 0),(eC (.int 1))])])))
def Bs:Fn:=A5 (A9 1 GD)
def Du:Ex:=(Ae (BW 1 (eOp (o2 wIx) [(eV 0),(eC (.int 0))]))
  (Ae (xIf (eOp (o2 wEq) [(eV 1),(eC (.str "pool"))]) (Bf (eOp (o1 Nu) [(JI [(eOp (o2 wIx) [(eV 0),(eC (.int 1))]),(eOp (o2 wIx) [(eV 0),(eC (.int 2))])])])) Es)
  (Ae (xIf (eOp (o2 (wIn false)) [(eV 1),(CI [(eC (.str "swap")),(eC (.str "trade"))])]) (Bf (JI [(eOp (o2 wIx) [(eV 0),(eOp (o1 RV) [(eC (.int 4))])])])) Es)
  (Bf (JI [])))))
def B3:Fn:=A5 (A9 2 Du)
def HG:Ex:=(Ae (BW 1 (AK Bs [(eV 0)]))
  (Ae (BW 2 (eOp (o2 wIx) [(eV 0),(eC (.int 2))]))
  (Ae (IC (VN (eV 2)) (tTp [(tNm 3),(tNm 4)]) (Ae (xIf (Ul (AK CS [(eV 1),(eOp (NP false true) [(eV 2),(eV 3)]),(eV 4)])) (Bf (eV 3)) Es)
  (BW 1 (AK Aj [(eV 1),(eV 4)]))))
  (Bf (eC .non)))))
def D8:Fn:=A5 (A9 5 HG)
def F6:Ex:=(Ae (BW 1 (AK D8 [(eV 0)]))
  (xIf (eOp (o2 (bw true)) [(eV 1),(eC .non)]) O3 Es))
def CM:Fn:=A5 (A9 2 F6)
def Hv:Ex:=(Bf (eOp (o1 By) [(B4 [1] 1 (KR [(eV 0)]) (tNm 1) BU (eIf (eOp (o2 wEq) [(eV 1),(eV 0)]) (eC TM) (eC G4)))]))
def ES:Fn:=A5 (A9 2 Hv)
def Gj:Ex:=(Bf (eOp (o1 By) [(B4 [1,3] 2 (Xl (eV 0) (eV 2)) (tTp [(tNm 2),(tNm 3)]) BU (AK G7 [(eV 2),(eV 0),(eV 3),(eV 1)]))]))
def Bi:Fn:=A5 (A9 4 Gj)
def Ct:Ex:=(Ae (BW 3 (AK B3 [(eV 2)]))
  (Ae (xIf (eOp (o2 wEq) [(eOp (o1 Hh) [(eV 3)]),(eC (.int 1))]) (Bf (eOp (o2 wIx) [(eV 1),(eOp (o2 wIx) [(eV 3),(eC (.int 0))])])) Es)
  (Ae (OS (tTp [(tNm 4),(tNm 5)]) (eV 3))
  (Bf (AK Bi [(eOp (o2 wIx) [(eV 1),(eV 4)]),(eOp (o2 wIx) [(eOp (o2 wIx) [(eV 0),(eV 4)]),(eC (.int 1))]),(eOp (o2 wIx) [(eV 1),(eV 5)]),(eOp (o2 wIx) [(eOp (o2 wIx) [(eV 0),(eV 5)]),(eC (.int 1))])])))))
def BQ:Fn:=A5 (A9 6 Ct)
def Gn:Ex:=(Bf (eOp (o2 C9) [(eOp (o1 UQ) [(B4 [2] 2 (FE (eV 1)) (tTp [(tNm 1),(tNm 2)]) BU (eOp (o2 Cn) [(eV 2),(eOp (o2 wIx) [(eV 0),(eV 1)])]))]),(eOp (o2 Cn) [(eOp (o2 wIx) [(eV 0),(eC (.int 2))]),(eOp (o2 wIx) [(eV 2),(eOp (o1 RV) [(eC (.int 1))])])])]))
def DH:Fn:=A5 (A9 3 Gn)
def G8:Ex:=(Ae (OS (tTp [(tNm 3),(tNm 4),(tNm 5)]) (eOp (NP true false) [(eV 2),(eC (.int 1))]))
  (Bf (AK C0 [(eOp (o2 Cn) [(eV 4),(eOp (o2 wIx) [(eV 5),(eOp (o2 wIx) [(eOp (o2 wIx) [(eV 1),(eV 3)]),(eC (.int 0))])])]),(AK DH [(eV 0),(eV 1),(eV 5)])])))
def Dp:Fn:=A5 (A9 6 G8)
def GB:Ex:=(Ae (OS (tTp [(tNm 5),(tNm 6)]) (AK Dp [(eV 0),(eV 1),(eV 3)]))
  (Bf (AK Bi [(eV 4),(eOp (o2 Ly) [(eV 6),(eV 5)]),(eOp (o2 wIx) [(eV 2),(eOp (o2 wIx) [(eV 3),(eC (.int 1))])]),(eV 5)])))
def C6:Fn:=A5 (A9 7 GB)
def HC:Ex:=(Ae (OS (tTp [(tNm 2),(tNm 3),(tNm 4)]) (eOp (NP true false) [(eV 0),(eC (.int 1))]))
  (Ae (BW 5 (AK Ee [(eOp (o2 wIx) [(eV 1),(eV 2)]),(eV 4)]))
  (Ae (BW 6 (Yf (o1 NJ) [(eV 1)]))
  (Ae (KS (AK Ie [(eOp (o2 wIx) [(eV 1),(eV 2)]),(eV 5)]) (eV 6) (eV 2))
  (Ae (KS (AK Io [(eOp (o2 wIx) [(eV 1),(eV 3)]),(eV 5)]) (eV 6) (eV 3))
  (Bf (eOp (o1 By) [(eV 6)])))))))
def Dm:Fn:=A5 (A9 7 HC)
def BG:Ex:=(Ae (xIf (eOp (o2 wEq) [(eOp (o2 wIx) [(eV 3),(eC (.int 0))]),(eC (.str "throw"))]) (Bf (AK C6 [(eV 0),(eV 1),(eV 2),(eV 3),(eV 4)])) Es)
  (Ae (xIf (eOp (o2 wEq) [(eOp (o2 wIx) [(eV 3),(eC (.int 0))]),(eC (.str "sell"))]) (Bf (AK Dm [(eV 3),(eV 4)])) Es)
  (Bf (eV 4))))
def Ai:Fn:=A5 (A9 5 BG)
def BH:Ex:=(Ae (BW 4 (B4 [0,1,2,3] 1 (FE (eV 2)) (tNm 4) BU (AK Ai [(eV 0),(eV 1),(eV 2),(eV 3),(eV 4)])))
  (Ae (xIf (eOp (o2 wEq) [(eOp (o2 wIx) [(eV 3),(eC (.int 0))]),(eC (.str "bring"))]) (Bf (eOp (o2 C9) [(eV 4),(JI [(AK ES [(eOp (o2 wIx) [(eV 0),(eC (.int 0))]),(eOp (o2 wIx) [(eV 3),(eC (.int 1))])])])])) Es)
  (Ae (xIf (eOp (o2 (wIn false)) [(eOp (o2 wIx) [(eV 3),(eC (.int 0))]),(eC DM)]) (Bf (eOp (o2 C9) [(eV 4),(JI [(AK BQ [(eV 1),(eV 2),(eV 3)])])])) Es)
  (Bf (eV 4)))))
def Ar:Fn:=A5 (A9 5 BH)
def J2:Ex:=(Ae (OS (tTp [(tNm 2),(tNm 3),(tNm 4)]) (eV 0))
  (Ae (BW 5 (AK Bs [(eV 0)]))
  (Ae (BW 6 (B4 [] 1 (FE (eV 3)) (tNm 0) BU (eOp (o2 wIx) [(eV 0),(eC (.int 2))])))
  (Ae (BW 7 (eOp (o2 wIx) [(eV 2),(eC (.int 3))]))
  (Ae (IC (FE (eOp (NP false true) [(eV 4),(eV 1)])) (tNm 8) (Ae (BW 7 (AK Ai [(eV 2),(eV 5),(eV 6),(eV 8),(eV 7)]))
  (Ae (BW 6 (AK Ar [(eV 2),(eV 5),(eV 6),(eV 8)]))
  (BW 5 (AK Aj [(eV 5),(eV 8)])))))
  (Bf (CI [(eV 5),(eV 6),(eV 7)])))))))
def Fx:Fn:=A5 (A9 9 J2)
def GU:Ex:=(Ae (xIf (eOp (o2 wLt) [(eV 1),(eOp (o1 Hh) [(eV 0)])]) (Bf (eOp (o2 wIx) [(eV 0),(eV 1)])) Es)
  (Bf (eC (.int 0))))
def C3:Fn:=A5 (A9 2 GU)
def Oc:Ex:=(Bf (Hf [(eV 0),(eOp (o1 Xy) [(eOp (o2 wGe) [(eV 0),(eOp (o2 aT) [(eC (.int 10)),(eC (.int 18))])])]),(eC (.int 0)),(eOp (o2 O4) [(eV 0),(eC (.int 1000000007))])]))
def HP:Fn:=A5 (A9 1 Oc)
def HZ:Ex:=(Ae (xIf (Jv (eOp (o2 wEq) [(eOp (o2 wIx) [(eV 0),(eC (.int 1))]),(eC (.int 1))]) (eOp (o2 wGt) [(eOp (o2 wIx) [(eV 0),(eC (.int 0))]),(eC (.int 0))])) (Ae (BW 2 (eOp (o2 O4) [(eOp (o2 wIx) [(eV 0),(eC (.int 0))]),(eV 1)]))
  (Ae (KS (eOp (o2 KN) [(eOp (o2 wIx) [(eV 0),(eC (.int 0))]),(eV 1)]) (eV 0) (eC (.int 0)))
  (Bf (eV 2)))) Es)
  (Ae (KS (eOp (o2 C9) [(eOp (o2 wIx) [(eV 0),(eC (.int 2))]),(eC (.int 1))]) (eV 0) (eC (.int 2)))
  (Ae (BW 3 (eOp (o2 O4) [(eOp (o2 Cn) [(eOp (o2 C9) [(eOp (o2 wIx) [(eV 0),(eC (.int 3))]),(eC (.int 17))]),(eOp (o2 C9) [(eC (.int 69621)),(eOp (o2 Cn) [(eC (.int 2)),(eOp (o2 wIx) [(eV 0),(eC (.int 2))])])])]),(eC (.int 2147483647))]))
  (Ae (BW 3 (eOp (o2 O4) [(eOp (o2 C9) [(eOp (o2 C9) [(eOp (o2 Cn) [(eV 3),(eV 3)]),(eOp (o2 Cn) [(eC (.int 40503)),(eOp (o2 wIx) [(eV 0),(eC (.int 2))])])]),(eC (.int 5))]),(eC (.int 2147483629))]))
  (Bf (eOp (o2 O4) [(eOp (o2 KN) [(eOp (o2 O4) [(eOp (o2 Cn) [(eV 3),(eC (.int 48271))]),(eC (.int 2147483647))]),(eC (.int 32))]),(eV 1)]))))))
def AL:Fn:=A5 (A9 4 HZ)
def J3:Ex:=(Ae (KD (Qz 1) (eOp (o2 wGt) [(eV 1),(eC (.int 0))]) (Qs 0 1 (eV 1) (eOp (o2 O4) [(eV 0),(eV 1)])))
  (Bf (eV 0)))
def Fe:Fn:=A5 (A9 2 J3)
def Mv:Ex:=(Ae (BW 2 (AK Fe [(eOp (o1 Yh) [(eV 0)]),(eV 1)]))
  (Bf (CI [(eOp (o2 KN) [(eV 0),(eV 2)]),(eOp (o2 KN) [(eV 1),(eV 2)])])))
def BC:Fn:=A5 (A9 3 Mv)
def Mq:Ex:=(Bf (AK BC [(eOp (o2 C9) [(eOp (o2 Cn) [(eOp (o2 wIx) [(eV 0),(eC (.int 0))]),(eOp (o2 wIx) [(eV 1),(eC (.int 1))])]),(eOp (o2 Cn) [(eOp (o2 wIx) [(eV 1),(eC (.int 0))]),(eOp (o2 wIx) [(eV 0),(eC (.int 1))])])]),(eOp (o2 Cn) [(eOp (o2 wIx) [(eV 0),(eC (.int 1))]),(eOp (o2 wIx) [(eV 1),(eC (.int 1))])])]))
def Br:Fn:=A5 (A9 2 Mq)
def LR:Ex:=(Bf (AK BC [(eOp (o2 Cn) [(eOp (o2 wIx) [(eV 0),(eC (.int 0))]),(eOp (o2 wIx) [(eV 1),(eC (.int 0))])]),(eOp (o2 Cn) [(eOp (o2 wIx) [(eV 0),(eC (.int 1))]),(eOp (o2 wIx) [(eV 1),(eC (.int 1))])])]))
def Ak:Fn:=A5 (A9 2 LR)
def MN:Ex:=(Bf (AK Br [(eV 0),(CI [(eOp (o2 Ly) [(eC (.int 0)),(eOp (o2 wIx) [(eV 1),(eC (.int 0))])]),(eOp (o2 wIx) [(eV 1),(eC (.int 1))])])]))
def Dd:Fn:=A5 (A9 2 MN)
def ID:Ex:=(Ae (BW 2 (OC [0] 1 (KR [(eV 1)]) (tNm 1) BU (eOp (o2 wIx) [(JI [(eC (.int 0)),(eC (.int 1)),(AK AL [(eV 0),(eC (.int 4))]),(AK AL [(eV 0),(eC (.int 9))])]),(AK AL [(eV 0),(eC (.int 4))])])))
  (Ae (xIf (eOp (o2 wEq) [(eOp (o1 UQ) [(eV 2)]),(eC (.int 0))]) (KS (eC (.int 1)) (eV 2) (AK AL [(eV 0),(eV 1)])) Es)
  (Bf (eOp (o1 By) [(B4 [2] 1 (FE (eV 2)) (tNm 1) BU (AK BC [(eV 1),(eOp (o1 UQ) [(eV 0)])]))]))))
def B8:Fn:=A5 (A9 3 ID)
def Gz:Ex:=(Ae (BW 1 (eOp (o2 C9) [(eOp (o2 aT) [(eC (.int 10)),(eC (.int 30))]),(AK AL [(eV 0),(eC (.int 99))])]))
  (Bf (eOp (o2 wIx) [(JI [(eOp (o2 C9) [(eC (.int 1)),(AK AL [(eV 0),(eC (.int 4))])]),(eOp (o2 C9) [(eC (.int 1)),(AK AL [(eV 0),(eC (.int 40))])]),(eOp (o2 C9) [(eC (.int 1)),(AK AL [(eV 0),(eC (.int 999))])]),(eV 1)]),(eOp (o2 KN) [(AK AL [(eV 0),(eC (.int 7))]),(eC (.int 2))])])))
def BR:Fn:=A5 (A9 2 Gz)
def Kq:Ex:=(Ae (Qs 1 2 (eOp (o2 C9) [(eC (.int 1)),(AK AL [(eV 0),(eC (.int 4))])]) (eOp (o2 C9) [(eC (.int 1)),(AK AL [(eV 0),(eC (.int 5))])]))
  (Ae (BW 3 (eOp (o2 wIx) [(JI [(eOp (o2 C9) [(eC (.int 1)),(AK AL [(eV 0),(eC (.int 3))])]),(eOp (o2 C9) [(eC (.int 1)),(AK AL [(eV 0),(eC (.int 20))])])]),(AK AL [(eV 0),(eC (.int 2))])]))
  (Bf (CI [(eV 1),(eV 2),(eV 3),(AK B8 [(eV 0),(eV 1)]),(AK AL [(eV 0),(eC (.int 10))]),(AK AL [(eV 0),(eC (.int 10))])]))))
def FJ:Fn:=A5 (A9 4 Kq)
def Lh:Ex:=(Ae (BW 2 (Hf []))
  (Ae (IC (KR [(eOp (o2 wIx) [(JI [(eC (.int 0)),(eC (.int 1)),(AK AL [(eV 0),(eC (.int 5))])]),(AK AL [(eV 0),(eC (.int 3))])])]) (tNm 3) (B9 (Hz II (eV 2) [(CI [(AK AL [(eV 0),(eOp (o2 wIx) [(eV 1),(eC (.int 1))])]),(AK BR [(eV 0)]),(AK B8 [(eV 0),(eOp (o2 wIx) [(eV 1),(eC (.int 0))])])])])))
  (Bf (eOp (o1 By) [(eV 2)]))))
def GV:Fn:=A5 (A9 4 Lh)
def Lu:Ex:=(Ae (BW 1 (eOp (o2 C9) [(eC (.int 1)),(AK AL [(eV 0),(eC (.int 12))])]))
  (Bf (AK BC [(eOp (o2 C9) [(eC (.int 1)),(AK AL [(eV 0),(eV 1)])]),(eV 1)])))
def Fc:Fn:=A5 (A9 2 Lu)
def Jn:Ex:=(Bf (eOp (o1 By) [(B4 [0] 1 (KR [(eV 1)]) (tNm 1) BU (eOp (o2 C9) [(eC (.int 1)),(eOp (o2 wIx) [(JI [(AK AL [(eV 0),(eC (.int 3))]),(AK AL [(eV 0),(eC (.int 99))])]),(AK AL [(eV 0),(eC (.int 2))])])]))]))
def DY:Fn:=A5 (A9 2 Jn)
def Ks:Ex:=(Bf (Hf [(OC [] 1 (FE (eOp (o2 wIx) [(eV 0),(eC (.int 1))])) (tNm 0) BU (Yf (o1 NJ) [(eV 0)])),(eOp (o1 By) [(eOp (o2 wIx) [(eOp (o2 wIx) [(eV 0),(eC (.int 0))]),(eC (.int 3))])]),(Hf [])]))
def DR:Fn:=A5 (A9 1 Ks)
def J5:Ex:=(Ae (BW 2 (Hf []))
  (Ae (IC (Xl (eOp (o2 wIx) [(eV 0),(eC (.int 2))]) (eOp (o2 wIx) [(eV 1),(eC (.int 2))])) (tTp [(tNm 3),(tNm 4)]) (Ae (BW 5 (AK Br [(AK Ak [(CI [(eOp (o2 wIx) [(eV 0),(eC (.int 1))]),(eC (.int 1))]),(eV 3)]),(AK Ak [(CI [(eOp (o2 wIx) [(eV 1),(eC (.int 1))]),(eC (.int 1))]),(eV 4)])]))
  (B9 (Hz II (eV 2) [(AK Ak [(eV 5),(AK BC [(eC (.int 1)),(eOp (o2 C9) [(eOp (o2 wIx) [(eV 0),(eC (.int 1))]),(eOp (o2 wIx) [(eV 1),(eC (.int 1))])])])])]))))
  (Bf (eOp (o1 By) [(eV 2)]))))
def Fv:Fn:=A5 (A9 6 J5)
def MY:Ex:=(Ae (BW 3 (eOp (o2 wIx) [(eV 2),(eC (.int 3))]))
  (Ae (BW 4 (eOp (o2 C9) [(eOp (o1 UQ) [(B4 [3] 3 (FE (eV 1)) (tTp [(tNm 1),(tNm 2),(tNm 3)]) BU (eOp (o2 Cn) [(eV 2),(eOp (o2 wIx) [(eV 0),(eV 1)])]))]),(eOp (o2 Cn) [(eOp (o2 wIx) [(eV 0),(eC (.int 2))]),(eOp (o2 wIx) [(eV 3),(eOp (o1 RV) [(eC (.int 1))])])])]))
  (Bf (AK BC [(eOp (o2 Cn) [(eOp (o2 wIx) [(eV 2),(eC (.int 2))]),(eOp (o2 wIx) [(eV 3),(eOp (o2 wIx) [(eOp (o2 wIx) [(eV 1),(eOp (o2 wIx) [(eV 2),(eC (.int 1))])]),(eC (.int 0))])])]),(eV 4)]))))
def HY:Fn:=A5 (A9 5 MY)
def LJ:Ex:=(Ae (BW 3 (Hf []))
  (Ae (IC (Xl (eV 0) (eV 2)) (tTp [(tNm 4),(tNm 5)]) (B9 (Hz II (eV 3) [(AK Br [(AK Ak [(eV 4),(AK Dd [(CI [(eC (.int 1)),(eC (.int 1))]),(eV 1)])]),(AK Ak [(eV 5),(eV 1)])])])))
  (Bf (eOp (o1 By) [(eV 3)]))))
def ED:Fn:=A5 (A9 6 LJ)
def Mh:Ex:=(Ae (BW 2 (Yf (o1 NJ) [(eV 0)]))
  (Ae (BW 3 (AK Ak [(eOp (o2 wIx) [(eV 2),(eOp (o2 wIx) [(eV 1),(eC (.int 1))])]),(eOp (o2 wIx) [(eV 1),(eC (.int 3))])]))
  (Ae (KS (AK Dd [(eOp (o2 wIx) [(eV 2),(eOp (o2 wIx) [(eV 1),(eC (.int 1))])]),(eV 3)]) (eV 2) (eOp (o2 wIx) [(eV 1),(eC (.int 1))]))
  (Ae (KS (AK Br [(eOp (o2 wIx) [(eV 2),(eOp (o2 wIx) [(eV 1),(eC (.int 2))])]),(eV 3)]) (eV 2) (eOp (o2 wIx) [(eV 1),(eC (.int 2))]))
  (Bf (eOp (o1 By) [(eV 2)]))))))
def FC:Fn:=A5 (A9 4 Mh)
def JY:Ex:=(Ae (OS (tTp [(tNm 3),(tNm 4),(tNm 5)]) (eV 1))
  (xIf (eOp (o2 wEq) [(eOp (o2 wIx) [(eV 2),(eC (.int 0))]),(eC (.str "throw"))]) (Ae (Qs 6 7 (AK HY [(eV 0),(eV 3),(eV 2)]) (eOp (o2 wIx) [(eOp (o2 wIx) [(eV 3),(eOp (o2 wIx) [(eV 2),(eC (.int 1))])]),(eC (.int 2))]))
  (Ae (KS (eOp (o2 Ly) [(eOp (o2 wIx) [(eOp (o2 wIx) [(eV 3),(eOp (o2 wIx) [(eV 2),(eC (.int 1))])]),(eC (.int 1))]),(eOp (o2 wIx) [(eV 2),(eC (.int 2))])]) (eOp (o2 wIx) [(eV 3),(eOp (o2 wIx) [(eV 2),(eC (.int 1))])]) (eC (.int 1)))
  (Ae (IC (FE (eV 3)) (tNm 8) (KS (AK ED [(eOp (o2 wIx) [(eV 8),(eC (.int 2))]),(eV 6),(eV 7)]) (eV 8) (eC (.int 2))))
  (KS (AK ED [(eV 4),(eV 6),(eV 7)]) (eV 1) (eC (.int 1)))))) (Ae (IC (FE (eV 3)) (tNm 8) (KS (AK FC [(eOp (o2 wIx) [(eV 8),(eC (.int 2))]),(eV 2)]) (eV 8) (eC (.int 2))))
  (KS (AK FC [(eV 4),(eV 2)]) (eV 1) (eC (.int 1))))))
def E9:Fn:=A5 (A9 9 JY)
def Ff:Ex:=(Ae (OS (tTp [(tNm 3),(tNm 4),(tNm 5)]) (eV 1))
  (Ae (BW 6 (eOp (o2 wIx) [(eV 2),(eC (.int 0))]))
  (xIf (eOp (o2 wEq) [(eV 6),(eC (.str "bring"))]) (B9 (Hz II (eV 3) [(Hf [(eOp (o2 wIx) [(eV 2),(eC (.int 2))]),(eOp (o2 wIx) [(eV 2),(eC (.int 3))]),(eOp (o1 By) [(B4 [2] 1 (KR [(eOp (o2 wIx) [(eV 0),(eC (.int 0))])]) (tNm 1) BU (CI [(eOp (o1 Xy) [(eOp (o2 wEq) [(eV 1),(eOp (o2 wIx) [(eV 0),(eC (.int 1))])])]),(eC (.int 1))]))])])])) (xIf (eOp (o2 wEq) [(eV 6),(eC (.str "pool"))]) (Ae (Qs 7 8 (eOp (o2 wIx) [(eV 3),(eOp (o2 wIx) [(eV 2),(eC (.int 1))])]) (eOp (o2 wIx) [(eV 3),(eOp (o2 wIx) [(eV 2),(eC (.int 2))])]))
  (Ae (B9 (Hz II (eV 3) [(Hf [(eOp (o2 wIx) [(eV 7),(eC (.int 0))]),(eOp (o2 C9) [(eOp (o2 wIx) [(eV 7),(eC (.int 1))]),(eOp (o2 wIx) [(eV 8),(eC (.int 1))])]),(AK Fv [(eV 7),(eV 8)])])]))
  (Ae (KS (eC (.int 0)) (eV 7) (eC (.int 1)))
  (KS (eC (.int 0)) (eV 8) (eC (.int 1)))))) (xIf (eOp (o2 (wIn false)) [(eV 6),(CI [(eC (.str "swap")),(eC (.str "trade"))])]) (Ae (OS (tTp [(tNm 9),(tNm 10),(tNm 11),(tNm 12)]) (eOp (NP true false) [(eV 2),(eOp (o1 RV) [(eC (.int 4))])]))
  (Ae (KS (eOp (o2 Ly) [(eOp (o2 wIx) [(eOp (o2 wIx) [(eV 3),(eV 9)]),(eC (.int 1))]),(eV 10)]) (eOp (o2 wIx) [(eV 3),(eV 9)]) (eC (.int 1)))
  (Ae (B9 (Hz II (eV 3) [(Hf [(eV 11),(eV 12),(eOp (o2 wIx) [(eOp (o2 wIx) [(eV 3),(eV 9)]),(eC (.int 2))])])]))
  (B9 (Hz bp (eV 5) [(eOp (o2 Cn) [(eOp (NP true true) [(eV 2),(eC (.int 1)),(eC (.int 2))]),(eOp (o1 Xy) [(eOp (o2 wEq) [(eV 6),(eC (.str "trade"))])])])]))))) (xIf (eOp (o2 wEq) [(eV 6),(eC (.str "spoil"))]) (KS (eOp (o2 Ly) [(eOp (o2 wIx) [(eOp (o2 wIx) [(eV 3),(eOp (o2 wIx) [(eV 2),(eC (.int 1))])]),(eC (.int 1))]),(eOp (o2 wIx) [(eV 2),(eC (.int 2))])]) (eOp (o2 wIx) [(eV 3),(eOp (o2 wIx) [(eV 2),(eC (.int 1))])]) (eC (.int 1))) (B9 (AK E9 [(eV 0),(eV 1),(eV 2)]))))))))
def BP:Fn:=A5 (A9 13 Ff)
def MQ:Ex:=(Ae (OS (tTp [(tNm 3),(tNm 4),(tNm 5)]) (eV 2))
  (Ae (BW 6 (B4 [] 2 (VN (eV 3)) (tTp [(tNm 0),(tNm 1)]) (eOp (o2 wGt) [(eOp (o2 wIx) [(eV 1),(eC (.int 1))]),(eC (.int 0))]) (eV 0)))
  (Ae (BW 7 (AK AL [(eV 0),(eC (.int 12))]))
  (Ae (xIf (eOr (eOp (o2 wLt) [(eV 7),(eC (.int 2))]) (eOp (o2 wEq) [(eV 6),(JI [])])) (Bf (CI [(eC (.str "bring")),(AK AL [(eV 0),(eOp (o2 wIx) [(eV 1),(eC (.int 0))])]),(AK AL [(eV 0),(eOp (o2 wIx) [(eV 1),(eC (.int 1))])]),(AK BR [(eV 0)])])) Es)
  (Ae (BW 8 (eOp (o2 wIx) [(eV 6),(AK AL [(eV 0),(eOp (o1 Hh) [(eV 6)])])]))
  (Ae (BW 9 (eOp (o2 C9) [(eC (.int 1)),(AK AL [(eV 0),(eOp (o2 Ye) [(eOp (o2 wIx) [(eOp (o2 wIx) [(eV 3),(eV 8)]),(eC (.int 1))]),(eC (.int 2000))])])]))
  (Ae (xIf (eOp (o2 wLt) [(eV 7),(eC (.int 5))]) (Ae (BW 10 (B4 [3,8] 1 (FE (eV 6)) (tNm 2) (Jv (eOp (o2 wNe) [(eV 2),(eV 1)]) (eOp (o2 wEq) [(eOp (o2 wIx) [(eOp (o2 wIx) [(eV 0),(eV 2)]),(eC (.int 0))]),(eOp (o2 wIx) [(eOp (o2 wIx) [(eV 0),(eV 1)]),(eC (.int 0))])])) (eV 2)))
  (xIf (eOp (o2 wNe) [(eV 10),(JI [])]) (Bf (CI [(eC (.str "pool")),(eV 8),(eOp (o2 wIx) [(eV 10),(AK AL [(eV 0),(eOp (o1 Hh) [(eV 10)])])])])) Es)) Es)
  (Ae (xIf (Jv (eOp (o2 wLt) [(eV 7),(eC (.int 8))]) (eOp (o2 wGt) [(eOp (o2 wIx) [(eV 1),(eC (.int 1))]),(eC (.int 1))])) (Ae (BW 11 (eOp (o2 O4) [(eOp (o2 C9) [(eOp (o2 C9) [(eOp (o2 wIx) [(eOp (o2 wIx) [(eV 3),(eV 8)]),(eC (.int 0))]),(eC (.int 1))]),(AK AL [(eV 0),(eOp (o2 Ly) [(eOp (o2 wIx) [(eV 1),(eC (.int 1))]),(eC (.int 1))])])]),(eOp (o2 wIx) [(eV 1),(eC (.int 1))])]))
  (Ae (BW 12 (B4 [5] 1 (KR [(eC (.int 10))]) (tNm 1) (eOp (o2 (wIn true)) [(eV 1),(eV 0)]) (eV 1)))
  (Ae (xIf (Jv (eOp (o2 wEq) [(eV 7),(eC (.int 7))]) (eOp (o2 wNe) [(eV 12),(JI [])])) (Bf (CI [(eC (.str "trade")),(eOp (o2 wIx) [(eV 12),(AK AL [(eV 0),(eOp (o1 Hh) [(eV 12)])])]),(eV 8),(eV 9),(eV 11),(AK BR [(eV 0)])])) Es)
  (Bf (CI [(eC (.str "swap")),(eV 8),(eV 9),(eV 11),(AK BR [(eV 0)])]))))) Es)
  (Ae (xIf (eOp (o2 wEq) [(eV 7),(eC (.int 8))]) (Bf (CI [(eC (.str "spoil")),(eV 8),(eV 9)])) Es)
  (Ae (xIf (Jv (eOp (o2 wEq) [(eV 7),(eC (.int 9))]) (eOp (o2 wGt) [(eOp (o2 wIx) [(eV 1),(eC (.int 0))]),(eC (.int 1))])) (Ae (BW 13 (AK AL [(eV 0),(eOp (o2 wIx) [(eV 1),(eC (.int 0))])]))
  (Bf (CI [(eC (.str "sell")),(eV 13),(eOp (o2 O4) [(eOp (o2 C9) [(eOp (o2 C9) [(eV 13),(eC (.int 1))]),(AK AL [(eV 0),(eOp (o2 Ly) [(eOp (o2 wIx) [(eV 1),(eC (.int 0))]),(eC (.int 1))])])]),(eOp (o2 wIx) [(eV 1),(eC (.int 0))])]),(AK Fc [(eV 0)])]))) Es)
  (Bf (CI [(eC (.str "throw")),(eV 8),(eV 9),(AK DY [(eV 0),(eOp (o2 C9) [(eOp (o2 wIx) [(eV 1),(eC (.int 1))]),(eC (.int 1))])])]))))))))))))
def Cm:Fn:=A5 (A9 14 MQ)
def MP:Ex:=(Ae (BW 2 (AK FJ [(eV 0)]))
  (Ae (BW 3 (AK GV [(eV 0),(eV 2)]))
  (Ae (Qs 4 5 (AK DR [(CI [(eV 2),(eV 3),(CI [])])]) (Hf []))
  (Ae (IC (KR [(AK AL [(eV 0),(eOp (o2 C9) [(eV 1),(eC (.int 1))])])]) (tNm 6) (Ae (BW 7 (AK Cm [(eV 0),(eV 2),(eV 4)]))
  (xIf (eOr (eOp (o2 wNe) [(eOp (o2 wIx) [(eV 7),(eC (.int 0))]),(eC (.str "throw"))]) (eOp (o2 wLt) [(eOp (o1 Hh) [(B4 [] 1 (FE (eV 5)) (tNm 0) (eOp (o2 wEq) [(eOp (o2 wIx) [(eV 0),(eC (.int 0))]),(eC (.str "throw"))]) (eV 0))]),(eC (.int 3))])) (Ae (B9 (AK BP [(eV 2),(eV 4),(eV 7)]))
  (B9 (Hz II (eV 5) [(eV 7)]))) Es)))
  (Bf (CI [(eV 2),(eV 3),(eOp (o1 By) [(eV 5)])]))))))
def E8:Fn:=A5 (A9 8 MP)
def KC:Ex:=(Ae (BW 1 (AK DR [(eV 0)]))
  (Ae (BW 2 (Hf [(CI [(B4 [] 1 (FE (eOp (o2 wIx) [(eV 1),(eC (.int 0))])) (tNm 0) BU (eOp (o1 By) [(eV 0)])),(eOp (o1 By) [(eOp (o2 wIx) [(eV 1),(eC (.int 1))])])])]))
  (Ae (IC (FE (eOp (o2 wIx) [(eV 0),(eC (.int 2))])) (tNm 3) (Ae (B9 (AK BP [(eOp (o2 wIx) [(eV 0),(eC (.int 0))]),(eV 1),(eV 3)]))
  (B9 (Hz II (eV 2) [(CI [(B4 [] 1 (FE (eOp (o2 wIx) [(eV 1),(eC (.int 0))])) (tNm 0) BU (eOp (o1 By) [(eV 0)])),(eOp (o1 By) [(eOp (o2 wIx) [(eV 1),(eC (.int 1))])])])]))))
  (Bf (eV 2)))))
def Cv:Fn:=A5 (A9 4 KC)
def OQ:Ex:=(Ae (BW 2 (AK FJ [(eV 0)]))
  (Ae (BW 3 (Hf []))
  (Ae (IC (KR [(AK AL [(eV 0),(eC (.int 4))])]) (tNm 4) (B9 (Hz II (eV 3) [(CI [(AK AL [(eV 0),(eOp (o2 wIx) [(eV 2),(eC (.int 1))])]),(eOp (o2 C9) [(eC (.int 1)),(AK AL [(eV 0),(eC (.int 30))])]),(AK B8 [(eV 0),(eOp (o2 wIx) [(eV 2),(eC (.int 0))])])])])))
  (Ae (Qs 5 6 (AK DR [(CI [(eV 2),(eOp (o1 By) [(eV 3)]),(CI [])])]) (Hf []))
  (Ae (IC (KR [(AK AL [(eV 0),(eOp (o2 C9) [(eV 1),(eC (.int 1))])])]) (tNm 4) (Ae (BW 7 (AK Cm [(eV 0),(eV 2),(eV 5)]))
  (xIf (eOr (eOp (o2 (wIn true)) [(eOp (o2 wIx) [(eV 7),(eC (.int 0))]),(CI [(eC (.str "bring")),(eC (.str "throw"))])]) (Jv (eOp (o2 wEq) [(AK AL [(eV 0),(eC (.int 4))]),(eC (.int 0))]) (eOp (o2 wLt) [(eOp (o1 Hh) [(eV 6)]),(eC (.int 3))]))) (Ae (B9 (AK BP [(eV 2),(eV 5),(eV 7)]))
  (B9 (Hz II (eV 6) [(eV 7)]))) Es)))
  (Bf (CI [(eV 2),(eOp (o1 By) [(eV 3)]),(eOp (o1 By) [(eV 6)])])))))))
def GA:Fn:=A5 (A9 8 OQ)
def Ii:Ex:=(Ae (BW 3 (Yf (o1 NJ) [(eV 0)]))
  (Ae (IC (FE (eV 2)) (tNm 4) (IC (FE (eOp (o2 wIx) [(eV 1),(eV 4)])) (tTp [(tNm 5),(tNm 6)]) (KS (eOp (o2 Ly) [(eOp (o2 wIx) [(eV 3),(eV 5)]),(eV 6)]) (eV 3) (eV 5))))
  (Bf (eOp (o1 By) [(eV 3)]))))
def Ba:Fn:=A5 (A9 7 Ii)
def Jm:Ex:=(Ae (BW 1 (JI [(CI [])]))
  (Ae (BW 2 (eC (.int 0)))
  (Ae (KD (VV 70) (eOp (o2 wLt) [(eV 2),(eOp (o1 Hh) [(eV 1)])]) (Ae (BW 1 (eOp (o2 C9) [(eV 1),(B4 [1,2] 1 (KR [(eV 0)]) (tNm 2) (eOp (o2 (wIn true)) [(eV 2),(eOp (o2 wIx) [(eV 0),(eV 1)])]) (eOp (o2 C9) [(eOp (o2 wIx) [(eV 0),(eV 1)]),(CI [(eV 2)])]))]))
  (BW 2 (eOp (o2 C9) [(eV 2),(eC (.int 1))]))))
  (Bf (eV 1)))))
def EW:Fn:=A5 (A9 3 Jm)
def Mp:Ex:=(Ae (OS (tTp [(tNm 2),(tNm 3)]) (eOp (o2 wIx) [(AK Cv [(eV 0)]),(eOp (o1 RV) [(eC (.int 1))])]))
  (Ae (BW 4 (eOp (o2 wIx) [(eOp (o2 wIx) [(eV 0),(eC (.int 0))]),(eC (.int 4))]))
  (Ae (BW 5 (Hf []))
  (Ae (IC (FE (eV 2)) (tTp [(tNm 6),(tNm 7),(tNm 8)]) (Ae (BW 9 (AK Ak [(eOp (o2 wIx) [(eV 8),(eV 1)]),(AK BC [(eOp (o2 Ly) [(eC (.int 10)),(eV 4)]),(eC (.int 10))])]))
  (Ae (BW 10 (AK Ak [(eOp (o2 wIx) [(eV 3),(eV 1)]),(AK BC [(eV 4),(eC (.int 10))])]))
  (B9 (Hz II (eV 5) [(AK Ak [(CI [(eV 7),(eC (.int 1))]),(AK Br [(eV 9),(eV 10)])])])))))
  (Bf (eV 5))))))
def Hc:Fn:=A5 (A9 11 Mp)
def LG:Ex:=(Ae (BW 2 (B4 [] 2 (VN (AK Hc [(eV 0),(eV 1)])) (tTp [(tNm 0),(tNm 1)]) BU (CI [(eV 0),(eOp (o2 KN) [(eOp (o2 wIx) [(eV 1),(eC (.int 0))]),(eOp (o2 wIx) [(eV 1),(eC (.int 1))])])])))
  (Bf (B4 [] 1 (FE (eV 2)) (tNm 0) (eOp (o2 wGt) [(eOp (o2 wIx) [(eV 0),(eC (.int 1))]),(eC (.int 0))]) (eV 0))))
def DO:Fn:=A5 (A9 3 LG)
def J1:Ex:=(Ae (BW 1 (eOp (o2 wIx) [(eOp (o2 wIx) [(eV 0),(eC (.int 0))]),(eC (.int 4))]))
  (Ae (OS (tTp [(tNm 2),(tNm 3),(tNm 4)]) (AK Fx [(eV 0),(eOp (o1 Hh) [(eOp (o2 wIx) [(eV 0),(eC (.int 2))])])]))
  (Ae (BW 5 (Hf []))
  (Ae (IC (Xl (eV 2) (eV 3)) (tTp [(tTp [(tNm 7),(tNm 8)]),(tNm 6)]) (Ae (BW 9 (AK Bi [(eV 6),(eOp (o2 Ly) [(eC (.int 10)),(eV 1)]),(eV 4),(eV 1)]))
  (B9 (Hz II (eV 5) [(eOp (o1 By) [(B4 [8] 1 (FE (eV 9)) (tNm 1) BU (AK Ee [(CI [(eV 0),(eC (.int 1))]),(eV 1)]))])]))))
  (Bf (eV 5))))))
def Ec:Fn:=A5 (A9 10 J1)
def LH:Ex:=(Ae (BW 2 (AK Bs [(eV 0)]))
  (Ae (IC (FE (eOp (NP false true) [(eOp (o2 wIx) [(eV 0),(eC (.int 2))]),(eV 1)])) (tNm 3) (BW 2 (AK Aj [(eV 2),(eV 3)])))
  (Bf (eV 2))))
def GY:Fn:=A5 (A9 4 LH)
def F2:Ex:=(Bf (AK E5 [(eV 1),(eC (.int 0)),(eOp (o2 Ly) [(eOp (o2 wIx) [(eV 0),(eC (.int 0))]),(eC (.int 1))])]))
def CD:Fn:=A5 (A9 2 F2)
def FK:Ex:=(Ae (xIf (eOr (Ul (eOp (o2 Yi) [(eV 1),(eC (.ty "tuple"))])) (Ul (eOp (o1 cB) [(B4 [0] 1 (FE (eV 1)) (tNm 1) BU (AK CD [(eOp (o2 wIx) [(eV 0),(eC (.int 0))]),(eV 1)]))]))) O3 Es)
  (xIf (eOp (o2 wNe) [(eSL (eV 1)),(eOp (o1 Hh) [(eV 1)])]) O3 Es))
def Cb:Fn:=A5 (A9 2 FK)
def Gp:Ex:=(Bf (eOp (o2 KN) [(eOp (o2 wIx) [(eV 0),(eC (.int 0))]),(eOp (o2 wIx) [(eV 0),(eC (.int 1))])]))
def Cd:Fn:=A5 (A9 1 Gp)
def J7:Ex:=(Ae (BW 2 (B4 [1] 2 (VN (eV 0)) (tTp [(tNm 1),(tNm 2)]) BU (CI [(eV 1),(AK Cd [(eOp (o2 wIx) [(eV 2),(eV 0)])])])))
  (Bf (OC [] 2 (FE (eV 2)) (tTp [(tNm 0),(tNm 1)]) (eOp (o2 wGt) [(eV 1),(eC (.int 0))]) (CI [(eV 0),(eV 1)]))))
def CU:Fn:=A5 (A9 3 J7)
def Lq:Ex:=(Ae (B9 (AK CM [(eV 0)]))
  (Ae (B9 (AK Cb [(eV 0),(eV 1)]))
  (Ae (BW 2 (AK Ec [(eV 0)]))
  (Ae (BW 3 (OC [2] 1 (FE (eV 1)) (tNm 1) BU (AK CU [(eV 0),(eV 1)])))
  (Ae (BW 4 (OC [] 2 (FE (AK GY [(eV 0),(eOp (o1 Hh) [(eOp (o2 wIx) [(eV 0),(eC (.int 2))])])])) (tTp [(tNm 0),(tNm 1)]) BU (eV 1)))
  (Ae (IC (FE (eV 3)) (tNm 5) (IC (FE (eV 5)) (tTp [(tNm 6),(tNm 7)]) (VH (fun i j=>i-j) (eV 4) (eV 6) (eV 7))))
  (Bf (CI [(eV 3),(eOp (o1 By) [(eV 4)])]))))))))
def EB:Fn:=A5 (A9 8 Lq)
def EU:Ex:=(xIf (Ul (AK CD [(eOp (o2 wIx) [(eV 0),(eC (.int 0))]),(eV 1)])) O3 Es)
def B6:Fn:=A5 (A9 2 EU)
def J4:Ex:=(Ae (B9 (AK CM [(eV 0)]))
  (Ae (B9 (AK B6 [(eV 0),(eV 1)]))
  (Bf (AK CU [(AK Ec [(eV 0)]),(eV 1)]))))
def BM:Fn:=A5 (A9 2 J4)
def Rz:Ex:=(Ae (IC (KR [(eOp (o2 bM) [(eC (.int 1)),(eOp (o2 Ye) [(eOp (o1 Hh) [(eV 0)]),(eC (.int 2))])])]) (tNm 1) (Ae (BW 2 (AK HP [(AK C3 [(eV 0),(eV 1)])]))
  (IC (FE (CI [(AK E8 [(eV 2),(eC (.int 7))]),(AK GA [(eV 2),(eC (.int 8))])])) (tNm 3) (Ae (BW 4 (B4 [3] 1 (KR [(eOp (o2 wIx) [(eOp (o2 wIx) [(eV 3),(eC (.int 0))]),(eC (.int 0))])]) (tNm 1) BU (AK DO [(eV 0),(eV 1)])))
  (Ae (BW 5 (B4 [] 1 (FE (eOp (o2 wIx) [(eOp (o2 wIx) [(AK Cv [(eV 3)]),(eOp (o1 RV) [(eC (.int 1))])]),(eC (.int 0))])) (tNm 0) BU (eOp (o2 wIx) [(eV 0),(eC (.int 1))])))
  (Ae (IC (VN (eV 4)) (tTp [(tNm 6),(tNm 7)]) (Ae (BW 8 (AK BM [(eV 3),(eV 6)]))
  (Ae (xIf (eDp true (eV 8) (eV 7)) (Bf (eC (.bl false))) Es)
  (B9 (Hz II (eV 8) [(CI [])])))))
  (Ae (IC (FE (AK EW [(eOp (o2 wIx) [(eOp (o2 wIx) [(eV 3),(eC (.int 0))]),(eC (.int 0))])])) (tNm 9) (Ae (BW 10 (AK EB [(eV 3),(eV 9)]))
  (Ae (xIf (eDp true (eV 10) (CI [(B4 [4] 1 (FE (eV 9)) (tNm 1) BU (eOp (o2 wIx) [(eV 0),(eV 1)])),(AK Ba [(eV 5),(eV 4),(eV 9)])])) (Bf (eC (.bl false))) Es)
  (B9 (Hz II (eOp (o2 wIx) [(eV 10),(eC (.int 0))]) [(JI [])])))))
  (xIf (eDp true (B4 [3] 1 (KR [(eOp (o2 wIx) [(eOp (o2 wIx) [(eV 3),(eC (.int 0))]),(eC (.int 0))])]) (tNm 1) BU (AK BM [(eV 0),(eV 1)])) (eV 4)) (Bf (eC (.bl false))) Es))))))))
  (Bf (eC (.bl true))))
def Ny:Fn:=A5 (A9 11 Rz)
end
section
open PyProof.Rows (boot_isinstance boot_int boot_bool boot_tuple boot_str boot_list boot_abs boot_all boot_any boot_sum boot_max boot_min boot_range boot_enumerate boot_zip boot_sorted boot_set boot_divmod)
noncomputable def top(i:Nat):Stmt:=PySem.Challenge.pw_sharetrail_k57_settled_in_whichever_orde.main.body.getD i (.Pass ⟨0,0,0,0⟩)
abbrev s_p_is_whole:Stmt:=top 3
abbrev s_p_is_from:Stmt:=top 4
abbrev s_p_is_within:Stmt:=top 5
abbrev s_p_greatest_divisor:Stmt:=top 6
abbrev s_p_lowest:Stmt:=top 7
abbrev s_p_plus:Stmt:=top 8
abbrev s_p_less:Stmt:=top 9
abbrev s_p_times:Stmt:=top 10
abbrev s_p_mixed:Stmt:=top 11
abbrev s_p_is_partner:Stmt:=top 19
abbrev s_p_has_pieces:Stmt:=top 20
abbrev s_p_can_pool:Stmt:=top 21
abbrev s_p_can_swap:Stmt:=top 22
abbrev s_p_can_do:Stmt:=top 23
abbrev s_p_held_without:Stmt:=top 24
abbrev s_p_held_behind:Stmt:=top 25
abbrev s_p_held_at_first:Stmt:=top 26
abbrev s_p_held_by:Stmt:=top 27
abbrev s_p_made_from:Stmt:=top 28
abbrev s_p_first_wrong:Stmt:=top 29
abbrev s_p_refuse_undone:Stmt:=top 30
abbrev s_p_refuse_no_partner:Stmt:=top 31
abbrev s_p_all_to_one:Stmt:=top 33
abbrev s_p_mixed_shares:Stmt:=top 34
abbrev s_p_made_shares:Stmt:=top 35
abbrev s_p_worth_of_all:Stmt:=top 36
abbrev s_p_part_thrown:Stmt:=top 37
abbrev s_p_thrown_shares:Stmt:=top 38
abbrev s_p_sold_shares:Stmt:=top 39
abbrev s_p_shares_behind:Stmt:=top 40
abbrev s_p_owners_behind:Stmt:=top 41
abbrev s_p_state_by:Stmt:=top 42
abbrev s_p_refuse_no_order:Stmt:=top 44
abbrev s_p_all_dues:Stmt:=top 45
abbrev s_p_whole_pieces:Stmt:=top 46
abbrev s_p_taken_by:Stmt:=top 47
abbrev s_p_settled:Stmt:=top 48
abbrev s_p_takes_of:Stmt:=top 49
abbrev s_law_pen:Stmt:=top 51
abbrev s_law_cell_at:Stmt:=top 52
abbrev s_law_draw:Stmt:=top 53
abbrev s_law_common:Stmt:=top 54
abbrev s_law_made:Stmt:=top 55
abbrev s_law_whole:Stmt:=top 56
abbrev s_law_train:Stmt:=top 57
abbrev s_law_pieces:Stmt:=top 58
abbrev s_law_first:Stmt:=top 59
abbrev s_law_begun:Stmt:=top 60
abbrev s_law_share:Stmt:=top 61
abbrev s_law_worths:Stmt:=top 62
abbrev s_law_deed:Stmt:=top 63
abbrev s_law_plus:Stmt:=top 64
abbrev s_law_times:Stmt:=top 65
abbrev s_law_pooled:Stmt:=top 66
abbrev s_law_cost:Stmt:=top 67
abbrev s_law_less:Stmt:=top 68
abbrev s_law_borne:Stmt:=top 69
abbrev s_law_sold:Stmt:=top 70
abbrev s_law_turn:Stmt:=top 71
abbrev s_law_do:Stmt:=top 72
abbrev s_law_book:Stmt:=top 73
abbrev s_law_few:Stmt:=top 74
abbrev s_law_states:Stmt:=top 75
abbrev s_law_dues:Stmt:=top 76
abbrev s_law_takes:Stmt:=top 77
abbrev s_law_orders:Stmt:=top 78
abbrev s_law_left_by:Stmt:=top 79
abbrev s_p_law:Stmt:=top 80
section
variable(P:Program)(w:World)(K:PySem.W.Frag)(mg:Str->Option Value)(base:Heap)
abbrev Jz:Prop:=St.Dfn P w K mg base "is_whole" 1 ["thing"] (spD K 1 Fs)
abbrev K1:Prop:=St.Dfn P w K mg base "is_from" 2 ["thing","low"] (spD K 2 GX)
abbrev Iy:Prop:=St.Dfn P w K mg base "is_within" 3 ["thing","low","high"] (spD K 3 E5)
abbrev Ew:Prop:=St.Dfn P w K mg base "greatest_divisor" 1 ["one","other"] (spD K 2 CG)
abbrev FF:Prop:=St.Dfn P w K mg base "lowest" 2 ["top","bottom"] (spD K 2 C0)
abbrev QP:Prop:=St.Dfn P w K mg base "plus" 3 ["one","other"] (spD K 2 Io)
abbrev QH:Prop:=St.Dfn P w K mg base "less" 3 ["one","other"] (spD K 2 Ie)
abbrev Kl:Prop:=St.Dfn P w K mg base "times" 3 ["one","other"] (spD K 2 Ee)
abbrev N9:Prop:=St.Dfn P w K mg base "mixed" 3 ["one","weight","other","more"] (spD K 4 G7)
abbrev F4:Prop:=St.Dfn P w K mg base "is_partner" 4 ["train","thing"] (spD K 2 CD)
abbrev EN:Prop:=St.Dfn P w K mg base "has_pieces" 1 ["held","load","pieces"] (spD K 3 CB)
abbrev KH:Prop:=St.Dfn P w K mg base "can_pool" 2 ["held","load","other"] (spD K 3 Fo)
abbrev Js:Prop:=St.Dfn P w K mg base "can_swap" 2 ["held","load","given","kind"] (spD K 4 Eh)
abbrev MW:Prop:=St.Dfn P w K mg base "can_do" 3 ["held","done","deed"] (spD K 3 CS)
abbrev Gh:Prop:=St.Dfn P w K mg base "held_without" 1 ["held","load","pieces"] (spD K 3 Bj)
abbrev D7:Prop:=St.Dfn P w K mg base "held_behind" 2 ["held","deed"] (spD K 2 Aj)
abbrev C1:Prop:=St.Dfn P w K mg base "held_at_first" 1 ["book"] (spD K 1 Bs)
abbrev Lp:Prop:=St.Dfn P w K mg base "held_by" 3 ["book","many"] (spD K 2 GY)
abbrev JE:Prop:=St.Dfn P w K mg base "made_from" 1 ["deed"] (spD K 1 B3)
abbrev HQ:Prop:=St.Dfn P w K mg base "first_wrong" 4 ["book"] (spD K 1 D8)
abbrev EI:Prop:=St.Dfn P w K mg base "refuse_undone" 5 ["book"] (spD K 1 CM)
abbrev ET:Prop:=St.Dfn P w K mg base "refuse_no_partner" 5 ["book","partner"] (spD K 2 B6)
abbrev Hq:Prop:=St.Dfn P w K mg base "all_to_one" 1 ["many","one"] (spD K 2 ES)
abbrev DL:Prop:=St.Dfn P w K mg base "mixed_shares" 4 ["shares","weight","others","more"] (spD K 4 Bi)
abbrev G9:Prop:=St.Dfn P w K mg base "made_shares" 5 ["held","shares","deed"] (spD K 3 BQ)
abbrev Gk:Prop:=St.Dfn P w K mg base "worth_of_all" 1 ["train","held","worths"] (spD K 3 DH)
abbrev HH:Prop:=St.Dfn P w K mg base "part_thrown" 3 ["train","held","deed"] (spD K 3 Dp)
abbrev F7:Prop:=St.Dfn P w K mg base "thrown_shares" 5 ["train","held","owners","deed","shares"] (spD K 5 C6)
abbrev HB:Prop:=St.Dfn P w K mg base "sold_shares" 4 ["deed","shares"] (spD K 2 Dm)
abbrev EM:Prop:=St.Dfn P w K mg base "shares_behind" 6 ["train","held","owners","deed","shares"] (spD K 5 Ai)
abbrev GJ:Prop:=St.Dfn P w K mg base "owners_behind" 7 ["train","held","owners","deed"] (spD K 4 Ar)
abbrev Jy:Prop:=St.Dfn P w K mg base "state_by" 8 ["book","many"] (spD K 2 Fx)
abbrev FH:Prop:=St.Dfn P w K mg base "refuse_no_order" 5 ["book","order"] (spD K 2 Cb)
abbrev HW:Prop:=St.Dfn P w K mg base "all_dues" 9 ["book"] (spD K 1 Ec)
abbrev Gg:Prop:=St.Dfn P w K mg base "whole_pieces" 1 ["due"] (spD K 1 Cd)
abbrev G3:Prop:=St.Dfn P w K mg base "taken_by" 2 ["dues","partner"] (spD K 2 CU)
abbrev LP:Prop:=St.Dfn P w K mg base "settled" 10 ["book","order"] (spD K 2 EB)
abbrev Ji:Prop:=St.Dfn P w K mg base "takes_of" 10 ["book","partner"] (spD K 2 BM)
abbrev OK:Prop:=St.Dfn P w K mg base "_law_pen" 1 ["_law_cell"] (spD K 1 HP)
abbrev Ik:Prop:=St.Dfn P w K mg base "_law_cell_at" 1 ["_law_script","_law_k"] (spD K 2 C3)
abbrev Cj:Prop:=St.Dfn P w K mg base "_law_draw" 1 ["_law_pen_here","_law_bound"] (spD K 2 AL)
abbrev Ju:Prop:=St.Dfn P w K mg base "_law_common" 1 ["_law_one","_law_other"] (spD K 2 Fe)
abbrev De:Prop:=St.Dfn P w K mg base "_law_made" 2 ["_law_top","_law_bottom"] (spD K 2 BC)
abbrev GO:Prop:=St.Dfn P w K mg base "_law_whole" 3 ["_law_pen_here","_law_many"] (spD K 2 B8)
abbrev IT:Prop:=St.Dfn P w K mg base "_law_train" 4 ["_law_pen_here"] (spD K 1 FJ)
abbrev HV:Prop:=St.Dfn P w K mg base "_law_pieces" 2 ["_law_pen_here"] (spD K 1 BR)
abbrev LD:Prop:=St.Dfn P w K mg base "_law_first" 4 ["_law_pen_here","_law_train_here"] (spD K 2 GV)
abbrev GZ:Prop:=St.Dfn P w K mg base "_law_begun" 1 ["_law_book_here"] (spD K 1 DR)
abbrev Lv:Prop:=St.Dfn P w K mg base "_law_share" 3 ["_law_pen_here"] (spD K 1 Fc)
abbrev KA:Prop:=St.Dfn P w K mg base "_law_worths" 2 ["_law_pen_here","_law_many"] (spD K 2 DY)
abbrev JU:Prop:=St.Dfn P w K mg base "_law_deed" 4 ["_law_pen_here","_law_train_here","_law_state"] (spD K 3 Cm)
abbrev FA:Prop:=St.Dfn P w K mg base "_law_plus" 3 ["_law_one","_law_other"] (spD K 2 Br)
abbrev FY:Prop:=St.Dfn P w K mg base "_law_times" 3 ["_law_one","_law_other"] (spD K 2 Ak)
abbrev Jt:Prop:=St.Dfn P w K mg base "_law_pooled" 4 ["_law_one","_law_other"] (spD K 2 Fv)
abbrev Ma:Prop:=St.Dfn P w K mg base "_law_cost" 3 ["_law_train_here","_law_loads","_law_deed_here"] (spD K 3 HY)
abbrev JQ:Prop:=St.Dfn P w K mg base "_law_less" 4 ["_law_one","_law_other"] (spD K 2 Dd)
abbrev LA:Prop:=St.Dfn P w K mg base "_law_borne" 5 ["_law_shares","_law_part","_law_owners"] (spD K 3 ED)
abbrev Mn:Prop:=St.Dfn P w K mg base "_law_sold" 5 ["_law_shares","_law_deed_here"] (spD K 2 FC)
abbrev MS:Prop:=St.Dfn P w K mg base "_law_turn" 6 ["_law_train_here","_law_state","_law_deed_here"] (spD K 3 E9)
abbrev KP:Prop:=St.Dfn P w K mg base "_law_do" 7 ["_law_train_here","_law_state","_law_deed_here"] (spD K 3 BP)
abbrev Mx:Prop:=St.Dfn P w K mg base "_law_book" 8 ["_law_pen_here","_law_most"] (spD K 2 E8)
abbrev Oy:Prop:=St.Dfn P w K mg base "_law_few" 8 ["_law_pen_here","_law_most"] (spD K 2 GA)
abbrev HS:Prop:=St.Dfn P w K mg base "_law_states" 8 ["_law_book_here"] (spD K 1 Cv)
abbrev My:Prop:=St.Dfn P w K mg base "_law_dues" 9 ["_law_book_here","_law_partner"] (spD K 2 Hc)
abbrev Ln:Prop:=St.Dfn P w K mg base "_law_takes" 10 ["_law_book_here","_law_partner"] (spD K 2 DO)
abbrev Jk:Prop:=St.Dfn P w K mg base "_law_orders" 1 ["_law_many"] (spD K 1 EW)
abbrev Ic:Prop:=St.Dfn P w K mg base "_law_left_by" 1 ["_law_pieces_here","_law_takes_here","_law_order"] (spD K 3 Ba)
end
structure Bts(mg:Str->Option Value):Prop where
 abs:mg "abs"=none
 all:mg "all"=none
 bool:mg "bool"=none
 enumerate:mg "enumerate"=none
 int:mg "int"=none
 isi:mg "isinstance"=none
 len:mg "len"=none
 list:mg "list"=none
 max:mg "max"=none
 min:mg "min"=none
 range:mg "range"=none
 set:mg "set"=none
 sorted:mg "sorted"=none
 sum:mg "sum"=none
 tuple:mg "tuple"=none
 zip:mg "zip"=none
end
section
open PyProof.Rows (boot_isinstance boot_int boot_bool boot_tuple boot_str boot_list boot_abs boot_all boot_any boot_sum boot_max boot_min boot_range boot_enumerate boot_zip boot_sorted boot_set boot_divmod)
variable{P:Program}{w:World}{K:PySem.W.Frag}{mg:Str->Option Value}{base:Heap}
theorem Ni:AU ["thing"] ["thing"] (AI s_p_is_whole):=⟨rfl,rfl,rfl,by decide+kernel,rfl,by decide+kernel,by decide+kernel⟩
theorem Eg  (S:St.Src K mg "is_whole" s_p_is_whole)(B:Bts mg):Jz P w K mg base:=by
 refine Ag (k:=0) S Ni rfl (fun f fd F=>F.binds fun _ _ _ _ _ _ us hl=>match us,hl with| [_],_=>rfl) fun f cdv A outer s H E hr=>?_
 have hu:=AW hr
 exact(AJ (AX (Jx (A6 LW rfl B.isi boot_isinstance (AA (AB 0) (AA (Xw rfl B.int boot_int) AD))) (LM (Zg (A6 LW rfl B.isi boot_isinstance (AA (AB 0) (AA (Xw rfl B.bool boot_bool) AD))))))))
theorem Oo:AU ["thing","low"] ["thing","low"] (AI s_p_is_from):=⟨rfl,rfl,rfl,by decide+kernel,rfl,by decide+kernel,by decide+kernel⟩
theorem FO  (S:St.Src K mg "is_from" s_p_is_from)(Eg:Jz P w K mg base):K1 P w K mg base:=by
 refine Ag (k:=1) S Oo rfl (fun f fd F=>F.binds fun _ _ _ _ _ _ us hl=>match us,hl with| [_,_],_=>rfl) fun f cdv A outer s H E hr=>?_
 have hu:=AW hr
 exact(AJ (AX (Jx (AH Eg (hr.mono (by decide)) rfl (AA (AB 0) AD)) (LM (Hx RP (AB 0) (AB 1))))))
theorem MG:AU ["thing","low","high"] ["thing","low","high"] (AI s_p_is_within):=⟨rfl,rfl,rfl,by decide+kernel,rfl,by decide+kernel,by decide+kernel⟩
theorem D3  (S:St.Src K mg "is_within" s_p_is_within)(FO:K1 P w K mg base):Iy P w K mg base:=by
 refine Ag (k:=2) S MG rfl (fun f fd F=>F.binds fun _ _ _ _ _ _ us hl=>match us,hl with| [_,_,_],_=>rfl) fun f cdv A outer s H E hr=>?_
 have hu:=AW hr
 exact(AJ (AX (Jx (AH FO (hr.mono (by decide)) rfl (AA (AB 0) (AA (AB 1) AD))) (LM (Hx aN (AB 0) (AB 2))))))
theorem Cw:AU ["one","other"] ["one","other"] (AI s_p_greatest_divisor):=⟨rfl,rfl,rfl,by decide+kernel,rfl,by decide+kernel,by decide+kernel⟩
theorem Bl  (S:St.Src K mg "greatest_divisor" s_p_greatest_divisor)(B:Bts mg):Ew P w K mg base:=by
 refine Ag (k:=0) S Cw rfl (fun f fd F=>F.binds fun _ _ _ _ _ _ us hl=>match us,hl with| [_,_],_=>rfl) fun f cdv A outer s H E hr=>?_
 have hu:=AW hr
 exact(AF (J6 (i:=0) (j:=1) rfl Cw.nd rfl rfl (by decide) rfl rfl (A6 LK rfl B.abs boot_abs (AA (AB 0) AD)) (A6 LK rfl B.abs boot_abs (AA (AB 1) AD)))
    (AF (N1 (Qz 1) PassesOwn.never (Aq (Lx hu) (AB 1) AE) (AJ (J6 (i:=0) (j:=1) rfl Cw.nd rfl rfl (by decide) rfl rfl (AB 1) (Ac F3 (AB 0) (AB 1)))))
    (AJ (AX (AB 0)))))
theorem Lb:AU ["top","bottom","divisor"] ["top","bottom"] (AI s_p_lowest):=⟨rfl,rfl,rfl,by decide+kernel,rfl,by decide+kernel,by decide+kernel⟩
theorem BI  (S:St.Src K mg "lowest" s_p_lowest)(Bl:Ew P w K mg base):FF P w K mg base:=by
 refine Ag (k:=1) S Lb rfl (fun f fd F=>F.binds fun _ _ _ _ _ _ us hl=>match us,hl with| [_,_],_=>rfl) fun f cdv A outer s H E hr=>?_
 have hu:=AW hr
 exact(AF (Ah 2 (AH Bl (hr.mono (by decide)) rfl (AA (AB 0) (AA (AB 1) AD))) Lb.nd)
    (AJ (AX (A4 (AA (Ac Ey (AB 0) (AB 2)) (AA (Ac Ey (AB 1) (AB 2)) AD))))))
theorem S9:AU ["one","other"] ["one","other"] (AI s_p_plus):=⟨rfl,rfl,rfl,by decide+kernel,rfl,by decide+kernel,by decide+kernel⟩
theorem Ib  (S:St.Src K mg "plus" s_p_plus)(BI:FF P w K mg base):QP P w K mg base:=by
 refine Ag (k:=2) S S9 rfl (fun f fd F=>F.binds fun _ _ _ _ _ _ us hl=>match us,hl with| [_,_],_=>rfl) fun f cdv A outer s H E hr=>?_
 have hu:=AW hr
 exact(AJ (AX (AH BI (hr.mono (by decide)) rfl (AA (Ac Am (Ac Az (AM AY (AB 0) AE) (AM AY (AB 1) AE)) (Ac Az (AM AY (AB 1) AE) (AM AY (AB 0) AE))) (AA (Ac Az (AM AY (AB 0) AE) (AM AY (AB 1) AE)) AD)))))
end
section
open PyProof.Rows (boot_isinstance boot_int boot_bool boot_tuple boot_str boot_list boot_abs boot_all boot_any boot_sum boot_max boot_min boot_range boot_enumerate boot_zip boot_sorted boot_set boot_divmod)
variable{P:Program}{w:World}{K:PySem.W.Frag}{mg:Str->Option Value}{base:Heap}
theorem Ra:AU ["one","other"] ["one","other"] (AI s_p_less):=⟨rfl,rfl,rfl,by decide+kernel,rfl,by decide+kernel,by decide+kernel⟩
theorem JC  (S:St.Src K mg "less" s_p_less)(BI:FF P w K mg base):QH P w K mg base:=by
 refine Ag (k:=2) S Ra rfl (fun f fd F=>F.binds fun _ _ _ _ _ _ us hl=>match us,hl with| [_,_],_=>rfl) fun f cdv A outer s H E hr=>?_
 have hu:=AW hr
 exact(AJ (AX (AH BI (hr.mono (by decide)) rfl (AA (Ac EF (Ac Az (AM AY (AB 0) AE) (AM AY (AB 1) AE)) (Ac Az (AM AY (AB 1) AE) (AM AY (AB 0) AE))) (AA (Ac Az (AM AY (AB 0) AE) (AM AY (AB 1) AE)) AD)))))
theorem QZ:AU ["one","other"] ["one","other"] (AI s_p_times):=⟨rfl,rfl,rfl,by decide+kernel,rfl,by decide+kernel,by decide+kernel⟩
theorem Ea  (S:St.Src K mg "times" s_p_times)(BI:FF P w K mg base):Kl P w K mg base:=by
 refine Ag (k:=2) S QZ rfl (fun f fd F=>F.binds fun _ _ _ _ _ _ us hl=>match us,hl with| [_,_],_=>rfl) fun f cdv A outer s H E hr=>?_
 have hu:=AW hr
 exact(AJ (AX (AH BI (hr.mono (by decide)) rfl (AA (Ac Az (AM AY (AB 0) AE) (AM AY (AB 1) AE)) (AA (Ac Az (AM AY (AB 0) AE) (AM AY (AB 1) AE)) AD)))))
theorem Mg:AU ["one","weight","other","more","top"] ["one","weight","other","more"] (AI s_p_mixed):=⟨rfl,rfl,rfl,by decide+kernel,rfl,by decide+kernel,by decide+kernel⟩
theorem HJ  (S:St.Src K mg "mixed" s_p_mixed)(BI:FF P w K mg base):N9 P w K mg base:=by
 refine Ag (k:=2) S Mg rfl (fun f fd F=>F.binds fun _ _ _ _ _ _ us hl=>match us,hl with| [_,_,_,_],_=>rfl) fun f cdv A outer s H E hr=>?_
 have hu:=AW hr
 exact(AF (Ah 4 (Ac Am (Ac Az (Ac Az (AM AY (AB 0) AE) (AM AY (AB 2) AE)) (AB 1)) (Ac Az (Ac Az (AM AY (AB 2) AE) (AM AY (AB 0) AE)) (AB 3))) Mg.nd)
    (AJ (AX (AH BI (hr.mono (by decide)) rfl (AA (AB 4) (AA (Ac Az (Ac Az (AM AY (AB 0) AE) (AM AY (AB 2) AE)) (Ac Am (AB 1) (AB 3))) AD))))))
theorem Kk:AU ["train","thing"] ["train","thing"] (AI s_p_is_partner):=⟨rfl,rfl,rfl,by decide+kernel,rfl,by decide+kernel,by decide+kernel⟩
theorem Bo  (S:St.Src K mg "is_partner" s_p_is_partner)(D3:Iy P w K mg base):F4 P w K mg base:=by
 refine Ag (k:=3) S Kk rfl (fun f fd F=>F.binds fun _ _ _ _ _ _ us hl=>match us,hl with| [_,_],_=>rfl) fun f cdv A outer s H E hr=>?_
 have hu:=AW hr
 exact(AJ (AX (AH D3 (hr.mono (by decide)) rfl (AA (AB 1) (AA AE (AA (Ac EF (AM AY (AB 0) AE) AE) AD))))))
theorem Ls:AU ["held","load","pieces"] ["held","load","pieces"] (AI s_p_has_pieces):=⟨rfl,rfl,rfl,by decide+kernel,rfl,by decide+kernel,by decide+kernel⟩
theorem BA  (S:St.Src K mg "has_pieces" s_p_has_pieces)(B:Bts mg):EN P w K mg base:=by
 refine Ag (k:=0) S Ls rfl (fun f fd F=>F.binds fun _ _ _ _ _ _ us hl=>match us,hl with| [_,_,_],_=>rfl) fun f cdv A outer s H E hr=>?_
 have hu:=AW hr
 exact(AJ (AX (Jx (Hx Jq (AB 1) (A6 CP rfl B.len boot_len (AA (AB 0) AD))) (LM (Hx RP (AM AY (AM AY (AB 0) (AB 1)) AE) (AB 2))))))
theorem NW:AU ["held","load","other"] ["held","load","other"] (AI s_p_can_pool):=⟨rfl,rfl,rfl,by decide+kernel,rfl,by decide+kernel,by decide+kernel⟩
theorem EZ  (S:St.Src K mg "can_pool" s_p_can_pool)(BA:EN P w K mg base):KH P w K mg base:=by
 refine Ag (k:=1) S NW rfl (fun f fd F=>F.binds fun _ _ _ _ _ _ us hl=>match us,hl with| [_,_,_],_=>rfl) fun f cdv A outer s H E hr=>?_
 have hu:=AW hr
 exact(AJ (AX (Jx (AH BA (hr.mono (by decide)) rfl (AA (AB 0) (AA (AB 1) (AA AE AD)))) (Jx (AH BA (hr.mono (by decide)) rfl (AA (AB 0) (AA (AB 2) (AA AE AD)))) (LM (Hx (CF hu) (AM AY (AM AY (AB 0) (AB 1)) AE) (AM AY (AM AY (AB 0) (AB 2)) AE)))))))
end
section
open PyProof.Rows (boot_isinstance boot_int boot_bool boot_tuple boot_str boot_list boot_abs boot_all boot_any boot_sum boot_max boot_min boot_range boot_enumerate boot_zip boot_sorted boot_set boot_divmod)
variable{P:Program}{w:World}{K:PySem.W.Frag}{mg:Str->Option Value}{base:Heap}
theorem NO:AU ["held","load","given","kind"] ["held","load","given","kind"] (AI s_p_can_swap):=⟨rfl,rfl,rfl,by decide+kernel,rfl,by decide+kernel,by decide+kernel⟩
theorem Df  (S:St.Src K mg "can_swap" s_p_can_swap)(BA:EN P w K mg base):Js P w K mg base:=by
 refine Ag (k:=1) S NO rfl (fun f fd F=>F.binds fun _ _ _ _ _ _ us hl=>match us,hl with| [_,_,_,_],_=>rfl) fun f cdv A outer s H E hr=>?_
 have hu:=AW hr
 exact(AJ (AX (Jx (AH BA (hr.mono (by decide)) rfl (AA (AB 0) (AA (AB 1) (AA (AB 2) AD)))) (LM (Hx (Lx hu) (AM AY (AM AY (AB 0) (AB 1)) AE) (AB 3))))))
theorem IQ:AU ["held","done","deed","word","numbers"] ["held","done","deed"] (AI s_p_can_do):=⟨rfl,rfl,rfl,by decide+kernel,rfl,by decide+kernel,by decide+kernel⟩
theorem Nd:AZ ["held","done","deed","word","numbers"] (AI s_p_can_do) ["other"] (ixC [] 1) (Ht s_p_can_do 0):=⟨rfl,by decide+kernel,by decide+kernel,by decide+kernel,by decide+kernel⟩
theorem NU:(["other"]:List Str).Nodup:=by decide+kernel
theorem GC  (S:St.Src K mg "can_do" s_p_can_do)(BA:EN P w K mg base)(EZ:KH P w K mg base)(Df:Js P w K mg base):MW P w K mg base:=by
 refine Ag (k:=2) S IQ rfl (fun f fd F=>F.binds fun _ _ _ _ _ _ us hl=>match us,hl with| [_,_,_],_=>rfl) fun f cdv A outer s H E hr=>?_
 have hu:=AW hr
 exact(AF (Ah 3 (AM AY (AB 2) AE) IQ.nd)
    (AF (CT (Aq (CF hu) (AB 3) BY) (AJ (AX (AH EZ (hr.mono (by decide)) rfl (AA (AB 0) (AA (AM AY (AB 2) AE) (AA (AM AY (AB 2) AE) AD)))))) A7)
    (AF (CT (Aq (CF hu) (AB 3) BY) (AJ (AX (AH Df (hr.mono (by decide)) rfl (AA (AB 0) (AA (AM AY (AB 2) AE) (AA (AM AY (AB 2) AE) (AA (AM AY (AB 2) AE) AD))))))) A7)
    (AF (CT (Aq (CF hu) (AB 3) BY) (AF (CQ [] 1 ["other"] rfl IQ.nd rfl rfl Nd (Bq (AB 1)) (fun s H fp=>⟨(Ab 0 NU),(G5 (Aq (CF hu) (AM AY (AB 0) AE) BY)),(AM AY (AB 0) AE)⟩))
    (AJ (AX (Jx (Hx Ih (AM AY (AB 2) AE) (AB 4)) (LM (AH Df (hr.mono (by decide)) rfl (AA (AB 0) (AA (AM AY (AB 2) AE) (AA (AM AY (AB 2) AE) (AA (AM AY (AB 2) AE) AD)))))))))) A7)
    (AF (CT (Aq MR (AB 3) (A4 (AA BY (AA BY AD)))) (AJ (AX (AH BA (hr.mono (by decide)) rfl (AA (AB 0) (AA (AM AY (AB 2) AE) (AA (AM AY (AB 2) AE) AD)))))) A7)
    (AJ (AX RN)))))))
theorem EA:AU ["held","load","pieces","kind","there"] ["held","load","pieces"] (AI s_p_held_without):=⟨rfl,rfl,rfl,by decide+kernel,rfl,by decide+kernel,by decide+kernel⟩
theorem BS  (S:St.Src K mg "held_without" s_p_held_without):Gh P w K mg base:=by
 refine Ag (k:=0) S EA rfl (fun f fd F=>F.binds fun _ _ _ _ _ _ us hl=>match us,hl with| [_,_,_],_=>rfl) fun f cdv A outer s H E hr=>?_
 have hu:=AW hr
 exact(AF (Ft (AM AY (AB 0) (AB 1)) (DV rfl (AO (Ab 3 EA.nd) (AO (Ab 4 EA.nd) BF))))
    (AJ (AX (Ac Am (Ac Am (NS (AB 0) (AB 1)) (Bh (AA (A4 (AA (AB 3) (AA (Ac EF (AB 4) (AB 2)) AD))) AD))) (Kj (AB 0) (Ac Am (AB 1) AE))))))
theorem BE:AU ["held","deed","word","kind","pieces","more","load","given","got"] ["held","deed"] (AI s_p_held_behind):=⟨rfl,rfl,rfl,by decide+kernel,rfl,by decide+kernel,by decide+kernel⟩
theorem A8  (S:St.Src K mg "held_behind" s_p_held_behind)(BS:Gh P w K mg base):D7 P w K mg base:=by
 refine Ag (k:=1) S BE rfl (fun f fd F=>F.binds fun _ _ _ _ _ _ us hl=>match us,hl with| [_,_],_=>rfl) fun f cdv A outer s H E hr=>?_
 have hu:=AW hr
 exact(AF (Ah 2 (AM AY (AB 1) AE) BE.nd)
    (AF (CT (Aq (CF hu) (AB 2) BY) (AJ (AX (Ac Am (AB 0) (Bh (AA (A4 (AA (AM AY (AB 1) AE) (AA (AM AY (AB 1) AE) AD))) AD))))) A7)
    (AF (CT (Aq (CF hu) (AB 2) BY) (AF (Ft (AM AY (AB 0) (AM AY (AB 1) AE)) (DV rfl (AO (Ab 3 BE.nd) (AO (Ab 4 BE.nd) BF))))
    (AF (Ah 5 (AM AY (AM AY (AB 0) (AM AY (AB 1) AE)) AE) BE.nd)
    (AJ (AX (Ac Am (AH BS (hr.mono (by decide)) rfl (AA (AH BS (hr.mono (by decide)) rfl (AA (AB 0) (AA (AM AY (AB 1) AE) (AA (AB 4) AD)))) (AA (AM AY (AB 1) AE) (AA (AB 5) AD)))) (Bh (AA (A4 (AA (AB 3) (AA (Ac Am (AB 4) (AB 5)) AD))) AD))))))) A7)
    (AF (CT (Aq MR (AB 2) (A4 (AA BY (AA BY AD)))) (AF (Ft (Kj (AB 1) (PX IB AE)) (DV rfl (AO (Ab 6 BE.nd) (AO (Ab 7 BE.nd) (AO (Ab 3 BE.nd) (AO (Ab 8 BE.nd) BF))))))
    (AJ (AX (Ac Am (AH BS (hr.mono (by decide)) rfl (AA (AB 0) (AA (AB 6) (AA (AB 7) AD)))) (Bh (AA (A4 (AA (AB 3) (AA (AB 8) AD))) AD)))))) A7)
    (AF (CT (Aq MR (AB 2) (A4 (AA BY (AA BY AD)))) (AJ (AX (AH BS (hr.mono (by decide)) rfl (AA (AB 0) (AA (AM AY (AB 1) AE) (AA (AM AY (AB 1) AE) AD)))))) A7)
    (AJ (AX (AB 0))))))))
theorem IW:AU ["book"] ["book"] (AI s_p_held_at_first):=⟨rfl,rfl,rfl,by decide+kernel,rfl,by decide+kernel,by decide+kernel⟩
theorem Hg:AZ ["book"] (AI s_p_held_at_first) ["load"] (ixC [] 1) (Ht s_p_held_at_first 0):=⟨rfl,by decide+kernel,by decide+kernel,by decide+kernel,by decide+kernel⟩
theorem Hm:(["load"]:List Str).Nodup:=by decide+kernel
theorem Au  (S:St.Src K mg "held_at_first" s_p_held_at_first):C1 P w K mg base:=by
 refine Ag (k:=0) S IW rfl (fun f fd F=>F.binds fun _ _ _ _ _ _ us hl=>match us,hl with| [_],_=>rfl) fun f cdv A outer s H E hr=>?_
 have hu:=AW hr
 exact(AJ (AX (CA [] 1 ["load"] rfl Hg (Bq (AM AY (AB 0) AE)) (fun s H fp=>⟨(Ab 0 Hm),Bm,(A4 (AA (AM AY (AB 0) AE) (AA (AM AY (AB 0) AE) AD)))⟩))))
theorem Fg:AU ["book","many","held","deed"] ["book","many"] (AI s_p_held_by):=⟨rfl,rfl,rfl,by decide+kernel,rfl,by decide+kernel,by decide+kernel⟩
theorem FP  (S:St.Src K mg "held_by" s_p_held_by)(A8:D7 P w K mg base)(Au:C1 P w K mg base):Lp P w K mg base:=by
 refine Ag (k:=2) S Fg rfl (fun f fd F=>F.binds fun _ _ _ _ _ _ us hl=>match us,hl with| [_,_],_=>rfl) fun f cdv A outer s H E hr=>?_
 have hu:=AW hr
 exact(AF (Ah 2 (AH Au (hr.mono (by decide)) rfl (AA (AB 0) AD)) Fg.nd)
    (AF (C7 PassesOwn.never rfl (Bq (NS (AM AY (AB 0) AE) (AB 1))) (Ab 3 Fg.nd) (AJ (Ah 2 (AH A8 (hr.mono (by decide)) rfl (AA (AB 2) (AA (AB 3) AD))) Fg.nd)))
    (AJ (AX (AB 2)))))
end
section
open PyProof.Rows (boot_isinstance boot_int boot_bool boot_tuple boot_str boot_list boot_abs boot_all boot_any boot_sum boot_max boot_min boot_range boot_enumerate boot_zip boot_sorted boot_set boot_divmod)
variable{P:Program}{w:World}{K:PySem.W.Frag}{mg:Str->Option Value}{base:Heap}
theorem Ho:AU ["deed","word"] ["deed"] (AI s_p_made_from):=⟨rfl,rfl,rfl,by decide+kernel,rfl,by decide+kernel,by decide+kernel⟩
theorem Dt  (S:St.Src K mg "made_from" s_p_made_from)(B:Bts mg):JE P w K mg base:=by
 refine Ag (k:=0) S Ho rfl (fun f fd F=>F.binds fun _ _ _ _ _ _ us hl=>match us,hl with| [_],_=>rfl) fun f cdv A outer s H E hr=>?_
 have hu:=AW hr
 exact(AF (Ah 1 (AM AY (AB 0) AE) Ho.nd)
    (AF (CT (Aq (CF hu) (AB 1) BY) (AJ (AX (A6 OU rfl B.sorted boot_sorted (AA (Bh (AA (AM AY (AB 0) AE) (AA (AM AY (AB 0) AE) AD))) AD)))) A7)
    (AF (CT (Aq MR (AB 1) (A4 (AA BY (AA BY AD)))) (AJ (AX (Bh (AA (AM AY (AB 0) (PX IB AE)) AD)))) A7)
    (AJ (AX (Bh AD))))))
theorem B0:AU ["book","held","deeds","at","deed"] ["book"] (AI s_p_first_wrong):=⟨rfl,rfl,rfl,by decide+kernel,rfl,by decide+kernel,by decide+kernel⟩
theorem Cp  (S:St.Src K mg "first_wrong" s_p_first_wrong)(B:Bts mg)(GC:MW P w K mg base)(A8:D7 P w K mg base)(Au:C1 P w K mg base):HQ P w K mg base:=by
 refine Ag (k:=3) S B0 rfl (fun f fd F=>F.binds fun _ _ _ _ _ _ us hl=>match us,hl with| [_],_=>rfl) fun f cdv A outer s H E hr=>?_
 have hu:=AW hr
 exact(AF (Ah 1 (AH Au (hr.mono (by decide)) rfl (AA (AB 0) AD)) B0.nd)
    (AF (Ah 2 (AM AY (AB 0) AE) B0.nd)
    (AF (C7 PassesOwn.never rfl (OF rfl B.enumerate (AB 2)) (DV rfl (AO (Ab 3 B0.nd) (AO (Ab 4 B0.nd) BF))) (AF (CT (QF (Pj (AH GC (hr.mono (by decide)) rfl (AA (AB 1) (AA (NS (AB 2) (AB 3)) (AA (AB 4) AD)))))) (AJ (AX (AB 3))) A7)
    (AJ (Ah 1 (AH A8 (hr.mono (by decide)) rfl (AA (AB 1) (AA (AB 4) AD))) B0.nd))))
    (AJ (AX Wa)))))
theorem Fq:AU ["book","wrong"] ["book"] (AI s_p_refuse_undone):=⟨rfl,rfl,rfl,by decide+kernel,rfl,by decide+kernel,by decide+kernel⟩
theorem BN  (S:St.Src K mg "refuse_undone" s_p_refuse_undone)(Cp:HQ P w K mg base):EI P w K mg base:=by
 refine Ag (k:=4) S Fq rfl (fun f fd F=>F.binds fun _ _ _ _ _ _ us hl=>match us,hl with| [_],_=>rfl) fun f cdv A outer s H E hr=>?_
 have hu:=AW hr
 exact(AF (Ah 1 (AH Cp (hr.mono (by decide)) rfl (AA (AB 0) AD)) Fq.nd)
    (AJ (CT (Aq VM (AB 1) Wa) (AJ Kb) A7)))
theorem Gs:AU ["book","partner"] ["book","partner"] (AI s_p_refuse_no_partner):=⟨rfl,rfl,rfl,by decide+kernel,rfl,by decide+kernel,by decide+kernel⟩
theorem Bc  (S:St.Src K mg "refuse_no_partner" s_p_refuse_no_partner)(Bo:F4 P w K mg base):ET P w K mg base:=by
 refine Ag (k:=4) S Gs rfl (fun f fd F=>F.binds fun _ _ _ _ _ _ us hl=>match us,hl with| [_,_],_=>rfl) fun f cdv A outer s H E hr=>?_
 have hu:=AW hr
 exact(AJ (CT (QF (Pj (AH Bo (hr.mono (by decide)) rfl (AA (AM AY (AB 0) AE) (AA (AB 1) AD))))) (AJ Kb) A7))
theorem Lo:AU ["many","one"] ["many","one"] (AI s_p_all_to_one):=⟨rfl,rfl,rfl,by decide+kernel,rfl,by decide+kernel,by decide+kernel⟩
theorem JS:AZ ["many","one"] (AI s_p_all_to_one) ["one","at"] (ixC [1] 1) (Ht s_p_all_to_one 0):=⟨rfl,by decide+kernel,by decide+kernel,by decide+kernel,by decide+kernel⟩
theorem JW:(["one","at"]:List Str).Nodup:=by decide+kernel
theorem DA  (S:St.Src K mg "all_to_one" s_p_all_to_one)(B:Bts mg)(c_ALL:Ss K mg "ALL" TM)(c_NOTHING:Ss K mg "NOTHING" G4):Hq P w K mg base:=by
 refine Ag (k:=0) S Lo rfl (fun f fd F=>F.binds fun _ _ _ _ _ _ us hl=>match us,hl with| [_,_],_=>rfl) fun f cdv A outer s H E hr=>?_
 have hu:=AW hr
 exact(AJ (AX (An Al rfl B.tuple boot_tuple (AA (CA [1] 1 ["one","at"] rfl JS (EK rfl B.range (AA (AB 0) AD)) (fun s H fp=>⟨(Ab 1 JW),Bm,(cx (Aq (CF hu) (AB 1) (AB 0)) (PL c_ALL rfl) (PL c_NOTHING rfl))⟩)) AD))))
theorem Jd:AU ["shares","weight","others","more"] ["shares","weight","others","more"] (AI s_p_mixed_shares):=⟨rfl,rfl,rfl,by decide+kernel,rfl,by decide+kernel,by decide+kernel⟩
theorem IJ:AZ ["shares","weight","others","more"] (AI s_p_mixed_shares) ["weight","more","share","other"] (ixC [1,3] 2) (Ht s_p_mixed_shares 0):=⟨rfl,by decide+kernel,by decide+kernel,by decide+kernel,by decide+kernel⟩
theorem FR:(["weight","more","share","other"]:List Str).Nodup:=by decide+kernel
theorem A3  (S:St.Src K mg "mixed_shares" s_p_mixed_shares)(B:Bts mg)(HJ:N9 P w K mg base):DL P w K mg base:=by
 refine Ag (k:=3) S Jd rfl (fun f fd F=>F.binds fun _ _ _ _ _ _ us hl=>match us,hl with| [_,_,_,_],_=>rfl) fun f cdv A outer s H E hr=>?_
 have hu:=AW hr
 exact(AJ (AX (An Al rfl B.tuple boot_tuple (AA (CA [1,3] 2 ["weight","more","share","other"] rfl IJ (QL rfl B.zip (AB 0) (AB 2)) (fun s H fp=>⟨(DV rfl (AO (Ab 2 FR) (AO (Ab 3 FR) BF))),Bm,(AH HJ (hr.mono (by decide)) rfl (AA (AB 2) (AA (AB 0) (AA (AB 3) (AA (AB 1) AD)))))⟩)) AD))))
end
section
open PyProof.Rows (boot_isinstance boot_int boot_bool boot_tuple boot_str boot_list boot_abs boot_all boot_any boot_sum boot_max boot_min boot_range boot_enumerate boot_zip boot_sorted boot_set boot_divmod)
variable{P:Program}{w:World}{K:PySem.W.Frag}{mg:Str->Option Value}{base:Heap}
theorem DJ:AU ["held","shares","deed","sources","load","other"] ["held","shares","deed"] (AI s_p_made_shares):=⟨rfl,rfl,rfl,by decide+kernel,rfl,by decide+kernel,by decide+kernel⟩
theorem Cz  (S:St.Src K mg "made_shares" s_p_made_shares)(B:Bts mg)(Dt:JE P w K mg base)(A3:DL P w K mg base):G9 P w K mg base:=by
 refine Ag (k:=4) S DJ rfl (fun f fd F=>F.binds fun _ _ _ _ _ _ us hl=>match us,hl with| [_,_,_],_=>rfl) fun f cdv A outer s H E hr=>?_
 have hu:=AW hr
 exact(AF (Ah 3 (AH Dt (hr.mono (by decide)) rfl (AA (AB 2) AD)) DJ.nd)
    (AF (CT (Aq (CF hu) (A6 CP rfl B.len boot_len (AA (AB 3) AD)) AE) (AJ (AX (AM AY (AB 1) (AM AY (AB 3) AE)))) A7)
    (AF (Ft (AB 3) (DV rfl (AO (Ab 4 DJ.nd) (AO (Ab 5 DJ.nd) BF))))
    (AJ (AX (AH A3 (hr.mono (by decide)) rfl (AA (AM AY (AB 1) (AB 4)) (AA (AM AY (AM AY (AB 0) (AB 4)) AE) (AA (AM AY (AB 1) (AB 5)) (AA (AM AY (AM AY (AB 0) (AB 5)) AE) AD))))))))))
theorem Jf:AU ["train","held","worths"] ["train","held","worths"] (AI s_p_worth_of_all):=⟨rfl,rfl,rfl,by decide+kernel,rfl,by decide+kernel,by decide+kernel⟩
theorem IH:AZ ["train","held","worths"] (AI s_p_worth_of_all) ["worths","kind","pieces"] (ixC [2] 2) (Ht s_p_worth_of_all 0):=⟨rfl,by decide+kernel,by decide+kernel,by decide+kernel,by decide+kernel⟩
theorem FZ:(["worths","kind","pieces"]:List Str).Nodup:=by decide+kernel
theorem Ci  (S:St.Src K mg "worth_of_all" s_p_worth_of_all)(B:Bts mg):Gk P w K mg base:=by
 refine Ag (k:=0) S Jf rfl (fun f fd F=>F.binds fun _ _ _ _ _ _ us hl=>match us,hl with| [_,_,_],_=>rfl) fun f cdv A outer s H E hr=>?_
 have hu:=AW hr
 exact(AJ (AX (Ac Am (A6 (JH rfl) rfl B.sum boot_sum (AA (CA [2] 2 ["worths","kind","pieces"] rfl IH (Bq (AB 1)) (fun s H fp=>⟨(DV rfl (AO (Ab 1 FZ) (AO (Ab 2 FZ) BF))),Bm,(Ac Az (AB 2) (AM AY (AB 0) (AB 1)))⟩)) AD)) (Ac Az (AM AY (AB 0) AE) (AM AY (AB 2) (PX IB AE))))))
theorem DK:AU ["train","held","deed","load","pieces","worths"] ["train","held","deed"] (AI s_p_part_thrown):=⟨rfl,rfl,rfl,by decide+kernel,rfl,by decide+kernel,by decide+kernel⟩
theorem Cu  (S:St.Src K mg "part_thrown" s_p_part_thrown)(BI:FF P w K mg base)(Ci:Gk P w K mg base):HH P w K mg base:=by
 refine Ag (k:=2) S DK rfl (fun f fd F=>F.binds fun _ _ _ _ _ _ us hl=>match us,hl with| [_,_,_],_=>rfl) fun f cdv A outer s H E hr=>?_
 have hu:=AW hr
 exact(AF (Ft (Kj (AB 2) AE) (DV rfl (AO (Ab 3 DK.nd) (AO (Ab 4 DK.nd) (AO (Ab 5 DK.nd) BF)))))
    (AJ (AX (AH BI (hr.mono (by decide)) rfl (AA (Ac Az (AB 4) (AM AY (AB 5) (AM AY (AM AY (AB 1) (AB 3)) AE))) (AA (AH Ci (hr.mono (by decide)) rfl (AA (AB 0) (AA (AB 1) (AA (AB 5) AD)))) AD))))))
theorem Ds:AU ["train","held","owners","deed","shares","top","bottom"] ["train","held","owners","deed","shares"] (AI s_p_thrown_shares):=⟨rfl,rfl,rfl,by decide+kernel,rfl,by decide+kernel,by decide+kernel⟩
theorem CO  (S:St.Src K mg "thrown_shares" s_p_thrown_shares)(A3:DL P w K mg base)(Cu:HH P w K mg base):F7 P w K mg base:=by
 refine Ag (k:=4) S Ds rfl (fun f fd F=>F.binds fun _ _ _ _ _ _ us hl=>match us,hl with| [_,_,_,_,_],_=>rfl) fun f cdv A outer s H E hr=>?_
 have hu:=AW hr
 exact(AF (Ft (AH Cu (hr.mono (by decide)) rfl (AA (AB 0) (AA (AB 1) (AA (AB 3) AD)))) (DV rfl (AO (Ab 5 Ds.nd) (AO (Ab 6 Ds.nd) BF))))
    (AJ (AX (AH A3 (hr.mono (by decide)) rfl (AA (AB 4) (AA (Ac EF (AB 6) (AB 5)) (AA (AM AY (AB 2) (AM AY (AB 3) AE)) (AA (AB 5) AD))))))))
theorem B1:AU ["deed","shares","partner","other","sold","passed","changed"] ["deed","shares"] (AI s_p_sold_shares):=⟨rfl,rfl,rfl,by decide+kernel,rfl,by decide+kernel,by decide+kernel⟩
theorem Cq  (S:St.Src K mg "sold_shares" s_p_sold_shares)(B:Bts mg)(Ib:QP P w K mg base)(JC:QH P w K mg base)(Ea:Kl P w K mg base):HB P w K mg base:=by
 refine Ag (k:=3) S B1 rfl (fun f fd F=>F.binds fun _ _ _ _ _ _ us hl=>match us,hl with| [_,_],_=>rfl) fun f cdv A outer s H E hr=>?_
 have hu:=AW hr
 exact(AF (Ft (Kj (AB 0) AE) (DV rfl (AO (Ab 2 B1.nd) (AO (Ab 3 B1.nd) (AO (Ab 4 B1.nd) BF)))))
    (AF (Ah 5 (AH Ea (hr.mono (by decide)) rfl (AA (AM AY (AB 1) (AB 2)) (AA (AB 4) AD))) B1.nd)
    (AF (Ah 6 (An HX rfl B.list boot_list (AA (AB 1) AD)) B1.nd)
    (AF (B5 (AH JC (hr.mono (by decide)) rfl (AA (AM AY (AB 1) (AB 2)) (AA (AB 5) AD))) (AB 6) (AB 2))
    (AF (B5 (AH Ib (hr.mono (by decide)) rfl (AA (AM AY (AB 1) (AB 3)) (AA (AB 5) AD))) (AB 6) (AB 3))
    (AJ (AX (An Al rfl B.tuple boot_tuple (AA (AB 6) AD)))))))))
theorem Ij:AU ["train","held","owners","deed","shares"] ["train","held","owners","deed","shares"] (AI s_p_shares_behind):=⟨rfl,rfl,rfl,by decide+kernel,rfl,by decide+kernel,by decide+kernel⟩
theorem BK  (S:St.Src K mg "shares_behind" s_p_shares_behind)(CO:F7 P w K mg base)(Cq:HB P w K mg base):EM P w K mg base:=by
 refine Ag (k:=5) S Ij rfl (fun f fd F=>F.binds fun _ _ _ _ _ _ us hl=>match us,hl with| [_,_,_,_,_],_=>rfl) fun f cdv A outer s H E hr=>?_
 have hu:=AW hr
 exact(AF (CT (Aq (CF hu) (AM AY (AB 3) AE) BY) (AJ (AX (AH CO (hr.mono (by decide)) rfl (AA (AB 0) (AA (AB 1) (AA (AB 2) (AA (AB 3) (AA (AB 4) AD)))))))) A7)
    (AF (CT (Aq (CF hu) (AM AY (AB 3) AE) BY) (AJ (AX (AH Cq (hr.mono (by decide)) rfl (AA (AB 3) (AA (AB 4) AD))))) A7)
    (AJ (AX (AB 4)))))
end
section
open PyProof.Rows (boot_isinstance boot_int boot_bool boot_tuple boot_str boot_list boot_abs boot_all boot_any boot_sum boot_max boot_min boot_range boot_enumerate boot_zip boot_sorted boot_set boot_divmod)
variable{P:Program}{w:World}{K:PySem.W.Frag}{mg:Str->Option Value}{base:Heap}
theorem Fh:AU ["train","held","owners","deed","behind"] ["train","held","owners","deed"] (AI s_p_owners_behind):=⟨rfl,rfl,rfl,by decide+kernel,rfl,by decide+kernel,by decide+kernel⟩
theorem Hk:AZ ["train","held","owners","deed","behind"] (AI s_p_owners_behind) ["train","held","owners","deed","shares"] (ixC [0,1,2,3] 1) (Ht s_p_owners_behind 0):=⟨rfl,by decide+kernel,by decide+kernel,by decide+kernel,by decide+kernel⟩
theorem Hl:(["train","held","owners","deed","shares"]:List Str).Nodup:=by decide+kernel
theorem CJ  (S:St.Src K mg "owners_behind" s_p_owners_behind)(c_MAKERS:Ss K mg "MAKERS" DM)(DA:Hq P w K mg base)(Cz:G9 P w K mg base)(BK:EM P w K mg base):GJ P w K mg base:=by
 refine Ag (k:=6) S Fh rfl (fun f fd F=>F.binds fun _ _ _ _ _ _ us hl=>match us,hl with| [_,_,_,_],_=>rfl) fun f cdv A outer s H E hr=>?_
 have hu:=AW hr
 exact(AF (CQ [0,1,2,3] 1 ["train","held","owners","deed","shares"] rfl Fh.nd rfl rfl Hk (Bq (AB 2)) (fun s H fp=>⟨(Ab 4 Hl),Bm,(AH BK (hr.mono (by decide)) rfl (AA (AB 0) (AA (AB 1) (AA (AB 2) (AA (AB 3) (AA (AB 4) AD))))))⟩))
    (AF (CT (Aq (CF hu) (AM AY (AB 3) AE) BY) (AJ (AX (Ac Am (AB 4) (Bh (AA (AH DA (hr.mono (by decide)) rfl (AA (AM AY (AB 0) AE) (AA (AM AY (AB 3) AE) AD))) AD))))) A7)
    (AF (CT (Aq MR (AM AY (AB 3) AE) (PL c_MAKERS rfl)) (AJ (AX (Ac Am (AB 4) (Bh (AA (AH Cz (hr.mono (by decide)) rfl (AA (AB 1) (AA (AB 2) (AA (AB 3) AD)))) AD))))) A7)
    (AJ (AX (AB 4))))))
theorem BO:AU ["book","many","train","first","deeds","held","owners","holders","deed"] ["book","many"] (AI s_p_state_by):=⟨rfl,rfl,rfl,by decide+kernel,rfl,by decide+kernel,by decide+kernel⟩
theorem Kv:AZ ["book","many","train","first","deeds","held","owners","holders","deed"] (AI s_p_state_by) ["load"] (ixC [] 1) (Ht s_p_state_by 0):=⟨rfl,by decide+kernel,by decide+kernel,by decide+kernel,by decide+kernel⟩
theorem LZ:(["load"]:List Str).Nodup:=by decide+kernel
theorem Ef  (S:St.Src K mg "state_by" s_p_state_by)(A8:D7 P w K mg base)(Au:C1 P w K mg base)(BK:EM P w K mg base)(CJ:GJ P w K mg base):Jy P w K mg base:=by
 refine Ag (k:=7) S BO rfl (fun f fd F=>F.binds fun _ _ _ _ _ _ us hl=>match us,hl with| [_,_],_=>rfl) fun f cdv A outer s H E hr=>?_
 have hu:=AW hr
 exact(AF (Ft (AB 0) (DV rfl (AO (Ab 2 BO.nd) (AO (Ab 3 BO.nd) (AO (Ab 4 BO.nd) BF)))))
    (AF (Ah 5 (AH Au (hr.mono (by decide)) rfl (AA (AB 0) AD)) BO.nd)
    (AF (CQ [] 1 ["load"] rfl BO.nd rfl rfl Kv (Bq (AB 3)) (fun s H fp=>⟨(Ab 0 LZ),Bm,(AM AY (AB 0) AE)⟩))
    (AF (Ah 7 (AM AY (AB 2) AE) BO.nd)
    (AF (C7 PassesOwn.never rfl (Bq (NS (AB 4) (AB 1))) (Ab 8 BO.nd) (AF (Ah 7 (AH BK (hr.mono (by decide)) rfl (AA (AB 2) (AA (AB 5) (AA (AB 6) (AA (AB 8) (AA (AB 7) AD)))))) BO.nd)
    (AF (Ah 6 (AH CJ (hr.mono (by decide)) rfl (AA (AB 2) (AA (AB 5) (AA (AB 6) (AA (AB 8) AD))))) BO.nd)
    (AJ (Ah 5 (AH A8 (hr.mono (by decide)) rfl (AA (AB 5) (AA (AB 8) AD))) BO.nd)))))
    (AJ (AX (A4 (AA (AB 5) (AA (AB 6) (AA (AB 7) AD)))))))))))
theorem Hi:AU ["book","order"] ["book","order"] (AI s_p_refuse_no_order):=⟨rfl,rfl,rfl,by decide+kernel,rfl,by decide+kernel,by decide+kernel⟩
theorem Gw:AZ ["book","order"] (AI s_p_refuse_no_order) ["book","partner"] (ixC [0] 1) (Ht s_p_refuse_no_order 0):=⟨rfl,by decide+kernel,by decide+kernel,by decide+kernel,by decide+kernel⟩
theorem Gx:(["book","partner"]:List Str).Nodup:=by decide+kernel
theorem Bu  (S:St.Src K mg "refuse_no_order" s_p_refuse_no_order)(B:Bts mg)(Bo:F4 P w K mg base):FH P w K mg base:=by
 refine Ag (k:=4) S Hi rfl (fun f fd F=>F.binds fun _ _ _ _ _ _ us hl=>match us,hl with| [_,_],_=>rfl) fun f cdv A outer s H E hr=>?_
 have hu:=AW hr
 exact(AF (CT (DW.dt (Ur (QF (Pj (A6 LW rfl B.isi boot_isinstance (AA (AB 1) (AA (Xw rfl B.tuple boot_tuple) AD))))) (P7 (QF (Pj (A6 (SE rfl) rfl B.all boot_all (AA (CA [0] 1 ["book","partner"] rfl Gw (Bq (AB 1)) (fun s H fp=>⟨(Ab 1 Gx),Bm,(AH Bo (hr.mono (by decide)) rfl (AA (AM AY (AB 0) AE) (AA (AB 1) AD)))⟩)) AD))))))) (AJ Kb) A7)
    (AJ (CT (Aq (Lx hu) (eJ rfl rfl B.len rfl B.set (AA (AB 1) AD)) (A6 CP rfl B.len boot_len (AA (AB 1) AD))) (AJ Kb) A7)))
theorem BZ:AU ["book","hire","held","owners","holders","dues","shares","kind","pieces","parts"] ["book"] (AI s_p_all_dues):=⟨rfl,rfl,rfl,by decide+kernel,rfl,by decide+kernel,by decide+kernel⟩
theorem Lf:AZ ["book","hire","held","owners","holders","dues","shares","kind","pieces","parts"] (AI s_p_all_dues) ["pieces","part"] (ixC [8] 1) (Ht s_p_all_dues 0):=⟨rfl,by decide+kernel,by decide+kernel,by decide+kernel,by decide+kernel⟩
theorem Ll:(["pieces","part"]:List Str).Nodup:=by decide+kernel
theorem CY  (S:St.Src K mg "all_dues" s_p_all_dues)(B:Bts mg)(Ea:Kl P w K mg base)(A3:DL P w K mg base)(Ef:Jy P w K mg base):HW P w K mg base:=by
 refine Ag (k:=8) S BZ rfl (fun f fd F=>F.binds fun _ _ _ _ _ _ us hl=>match us,hl with| [_],_=>rfl) fun f cdv A outer s H E hr=>?_
 have hu:=AW hr
 exact(AF (Ah 1 (AM AY (AM AY (AB 0) AE) AE) BZ.nd)
    (AF (Ft (AH Ef (hr.mono (by decide)) rfl (AA (AB 0) (AA (A6 CP rfl B.len boot_len (AA (AM AY (AB 0) AE) AD)) AD))) (DV rfl (AO (Ab 2 BZ.nd) (AO (Ab 3 BZ.nd) (AO (Ab 4 BZ.nd) BF)))))
    (AF (Ah 5 (Bh AD) BZ.nd)
    (AF (C7 PassesOwn.never rfl (QL rfl B.zip (AB 2) (AB 3)) (DV rfl (AO (DV rfl (AO (Ab 7 BZ.nd) (AO (Ab 8 BZ.nd) BF))) (AO (Ab 6 BZ.nd) BF))) (AF (Ah 9 (AH A3 (hr.mono (by decide)) rfl (AA (AB 6) (AA (Ac EF AE (AB 1)) (AA (AB 4) (AA (AB 1) AD))))) BZ.nd)
    (AJ (Bt (FV PySem.F.slot_list_append PySem.F.type_list_append D5 (AB 5) (AA (An Al rfl B.tuple boot_tuple (AA (CA [8] 1 ["pieces","part"] rfl Lf (Bq (AB 9)) (fun s H fp=>⟨(Ab 1 Ll),Bm,(AH Ea (hr.mono (by decide)) rfl (AA (A4 (AA (AB 0) (AA AE AD))) (AA (AB 1) AD)))⟩)) AD)) AD))))))
    (AJ (AX (AB 5)))))))
theorem JL:AU ["due"] ["due"] (AI s_p_whole_pieces):=⟨rfl,rfl,rfl,by decide+kernel,rfl,by decide+kernel,by decide+kernel⟩
theorem Cg  (S:St.Src K mg "whole_pieces" s_p_whole_pieces):Gg P w K mg base:=by
 refine Ag (k:=0) S JL rfl (fun f fd F=>F.binds fun _ _ _ _ _ _ us hl=>match us,hl with| [_],_=>rfl) fun f cdv A outer s H E hr=>?_
 have hu:=AW hr
 exact(AJ (AX (Ac Ey (AM AY (AB 0) AE) (AM AY (AB 0) AE))))
theorem Ig:AU ["dues","partner","takes"] ["dues","partner"] (AI s_p_taken_by):=⟨rfl,rfl,rfl,by decide+kernel,rfl,by decide+kernel,by decide+kernel⟩
theorem K6:AZ ["dues","partner","takes"] (AI s_p_taken_by) ["partner","load","each"] (ixC [1] 2) (Ht s_p_taken_by 0):=⟨rfl,by decide+kernel,by decide+kernel,by decide+kernel,by decide+kernel⟩
theorem G6:(["partner","load","each"]:List Str).Nodup:=by decide+kernel
theorem K2:AZ ["dues","partner","takes"] (AI s_p_taken_by) ["load","pieces"] (ixC [] 2) (Ht s_p_taken_by 1):=⟨rfl,by decide+kernel,by decide+kernel,by decide+kernel,by decide+kernel⟩
theorem HR:(["load","pieces"]:List Str).Nodup:=by decide+kernel
theorem CV  (S:St.Src K mg "taken_by" s_p_taken_by)(B:Bts mg)(Cg:Gg P w K mg base):G3 P w K mg base:=by
 refine Ag (k:=1) S Ig rfl (fun f fd F=>F.binds fun _ _ _ _ _ _ us hl=>match us,hl with| [_,_],_=>rfl) fun f cdv A outer s H E hr=>?_
 have hu:=AW hr
 exact(AF (CQ [1] 2 ["partner","load","each"] rfl Ig.nd rfl rfl K6 (OF rfl B.enumerate (AB 0)) (fun s H fp=>⟨(DV rfl (AO (Ab 1 G6) (AO (Ab 2 G6) BF))),Bm,(A4 (AA (AB 1) (AA (AH Cg (hr.mono (by decide)) rfl (AA (AM AY (AB 2) (AB 0)) AD)) AD)))⟩))
    (AJ (AX (CA [] 2 ["load","pieces"] rfl K2 (Bq (AB 2)) (fun s H fp=>⟨(DV rfl (AO (Ab 0 HR) (AO (Ab 1 HR) BF))),(G5 (Aq LC (AB 1) AE)),(A4 (AA (AB 0) (AA (AB 1) AD)))⟩)))))
end
section
open PyProof.Rows (boot_isinstance boot_int boot_bool boot_tuple boot_str boot_list boot_abs boot_all boot_any boot_sum boot_max boot_min boot_range boot_enumerate boot_zip boot_sorted boot_set boot_divmod)
variable{P:Program}{w:World}{K:PySem.W.Frag}{mg:Str->Option Value}{base:Heap}
theorem Cs:AU ["book","order","dues","taken","left","takes","load","pieces"] ["book","order"] (AI s_p_settled):=⟨rfl,rfl,rfl,by decide+kernel,rfl,by decide+kernel,by decide+kernel⟩
theorem MI:AZ ["book","order","dues","taken","left","takes","load","pieces"] (AI s_p_settled) ["dues","partner"] (ixC [2] 1) (Ht s_p_settled 0):=⟨rfl,by decide+kernel,by decide+kernel,by decide+kernel,by decide+kernel⟩
theorem L3:(["dues","partner"]:List Str).Nodup:=by decide+kernel
theorem L7:AZ ["book","order","dues","taken","left","takes","load","pieces"] (AI s_p_settled) ["kind","pieces"] (ixC [] 2) (Ht s_p_settled 1):=⟨rfl,by decide+kernel,by decide+kernel,by decide+kernel,by decide+kernel⟩
theorem Hw:(["kind","pieces"]:List Str).Nodup:=by decide+kernel
theorem FT  (S:St.Src K mg "settled" s_p_settled)(B:Bts mg)(FP:Lp P w K mg base)(BN:EI P w K mg base)(Bu:FH P w K mg base)(CY:HW P w K mg base)(CV:G3 P w K mg base):LP P w K mg base:=by
 refine Ag (k:=9) S Cs rfl (fun f fd F=>F.binds fun _ _ _ _ _ _ us hl=>match us,hl with| [_,_],_=>rfl) fun f cdv A outer s H E hr=>?_
 have hu:=AW hr
 exact(AF (Bt (AH BN (hr.mono (by decide)) rfl (AA (AB 0) AD)))
    (AF (Bt (AH Bu (hr.mono (by decide)) rfl (AA (AB 0) (AA (AB 1) AD))))
    (AF (Ah 2 (AH CY (hr.mono (by decide)) rfl (AA (AB 0) AD)) Cs.nd)
    (AF (CQ [2] 1 ["dues","partner"] rfl Cs.nd rfl rfl MI (Bq (AB 1)) (fun s H fp=>⟨(Ab 1 L3),Bm,(AH CV (hr.mono (by decide)) rfl (AA (AB 0) (AA (AB 1) AD)))⟩))
    (AF (CQ [] 2 ["kind","pieces"] rfl Cs.nd rfl rfl L7 (Bq (AH FP (hr.mono (by decide)) rfl (AA (AB 0) (AA (A6 CP rfl B.len boot_len (AA (AM AY (AB 0) AE) AD)) AD)))) (fun s H fp=>⟨(DV rfl (AO (Ab 0 Hw) (AO (Ab 1 Hw) BF))),Bm,(AB 1)⟩))
    (AF (C7 PassesOwn.never rfl (Bq (AB 3)) (Ab 5 Cs.nd) (AJ (C7 PassesOwn.never rfl (Bq (AB 5)) (DV rfl (AO (Ab 6 Cs.nd) (AO (Ab 7 Cs.nd) BF))) (AJ (Ys (AB 4) (AB 6) (AB 7) ZJ)))))
    (AJ (AX (A4 (AA (AB 3) (AA (An Al rfl B.tuple boot_tuple (AA (AB 4) AD)) AD)))))))))))
theorem NN:AU ["book","partner"] ["book","partner"] (AI s_p_takes_of):=⟨rfl,rfl,rfl,by decide+kernel,rfl,by decide+kernel,by decide+kernel⟩
theorem Dc  (S:St.Src K mg "takes_of" s_p_takes_of)(BN:EI P w K mg base)(Bc:ET P w K mg base)(CY:HW P w K mg base)(CV:G3 P w K mg base):Ji P w K mg base:=by
 refine Ag (k:=9) S NN rfl (fun f fd F=>F.binds fun _ _ _ _ _ _ us hl=>match us,hl with| [_,_],_=>rfl) fun f cdv A outer s H E hr=>?_
 have hu:=AW hr
 exact(AF (Bt (AH BN (hr.mono (by decide)) rfl (AA (AB 0) AD)))
    (AF (Bt (AH Bc (hr.mono (by decide)) rfl (AA (AB 0) (AA (AB 1) AD))))
    (AJ (AX (AH CV (hr.mono (by decide)) rfl (AA (AH CY (hr.mono (by decide)) rfl (AA (AB 0) AD)) (AA (AB 1) AD)))))))
theorem Qa:AU ["_law_cell"] ["_law_cell"] (AI s_law_pen):=⟨rfl,rfl,rfl,by decide+kernel,rfl,by decide+kernel,by decide+kernel⟩
theorem HN  (S:St.Src K mg "_law_pen" s_law_pen)(B:Bts mg):OK P w K mg base:=by
 refine Ag (k:=0) S Qa rfl (fun f fd F=>F.binds fun _ _ _ _ _ _ us hl=>match us,hl with| [_],_=>rfl) fun f cdv A outer s H E hr=>?_
 have hu:=AW hr
 exact(AJ (AX (Bh (AA (AB 0) (AA (An Lr rfl B.int boot_int (AA (Hx RP (AB 0) (Ac RY AE AE)) AD)) (AA AE (AA (Ac F3 (AB 0) AE) AD)))))))
theorem MJ:AU ["_law_script","_law_k"] ["_law_script","_law_k"] (AI s_law_cell_at):=⟨rfl,rfl,rfl,by decide+kernel,rfl,by decide+kernel,by decide+kernel⟩
theorem Dw  (S:St.Src K mg "_law_cell_at" s_law_cell_at)(B:Bts mg):Ik P w K mg base:=by
 refine Ag (k:=0) S MJ rfl (fun f fd F=>F.binds fun _ _ _ _ _ _ us hl=>match us,hl with| [_,_],_=>rfl) fun f cdv A outer s H E hr=>?_
 have hu:=AW hr
 exact(AF (CT (Aq Jq (AB 1) (A6 CP rfl B.len boot_len (AA (AB 0) AD))) (AJ (AX (AM AY (AB 0) (AB 1)))) A7)
    (AJ (AX AE)))
theorem Gb:AU ["_law_pen_here","_law_bound","_law_found","_law_stir"] ["_law_pen_here","_law_bound"] (AI s_law_draw):=⟨rfl,rfl,rfl,by decide+kernel,rfl,by decide+kernel,by decide+kernel⟩
theorem AN  (S:St.Src K mg "_law_draw" s_law_draw):Cj P w K mg base:=by
 refine Ag (k:=0) S Gb rfl (fun f fd F=>F.binds fun _ _ _ _ _ _ us hl=>match us,hl with| [_,_],_=>rfl) fun f cdv A outer s H E hr=>?_
 have hu:=AW hr
 exact(AF (CT (DW.dt (M8 (Aq (CF hu) (AM AY (AB 0) AE) AE) (JT (Aq LC (AM AY (AB 0) AE) AE)))) (AF (Ah 2 (Ac F3 (AM AY (AB 0) AE) (AB 1)) Gb.nd)
    (AF (B5 (Ac Ey (AM AY (AB 0) AE) (AB 1)) (AB 0) AE)
    (AJ (AX (AB 2))))) A7)
    (AF (B5 (Ac Am (AM AY (AB 0) AE) AE) (AB 0) AE)
    (AF (Ah 3 (Ac F3 (Ac Az (Ac Am (AM AY (AB 0) AE) AE) (Ac Am AE (Ac Az AE (AM AY (AB 0) AE)))) AE) Gb.nd)
    (AF (Ah 3 (Ac F3 (Ac Am (Ac Am (Ac Az (AB 3) (AB 3)) (Ac Az AE (AM AY (AB 0) AE))) AE) AE) Gb.nd)
    (AJ (AX (Ac F3 (Ac Ey (Ac F3 (Ac Az (AB 3) AE) AE) AE) (AB 1))))))))
theorem Ir:AU ["_law_one","_law_other"] ["_law_one","_law_other"] (AI s_law_common):=⟨rfl,rfl,rfl,by decide+kernel,rfl,by decide+kernel,by decide+kernel⟩
theorem Ej  (S:St.Src K mg "_law_common" s_law_common):Ju P w K mg base:=by
 refine Ag (k:=0) S Ir rfl (fun f fd F=>F.binds fun _ _ _ _ _ _ us hl=>match us,hl with| [_,_],_=>rfl) fun f cdv A outer s H E hr=>?_
 have hu:=AW hr
 exact(AF (N1 (Qz 1) PassesOwn.never (Aq LC (AB 1) AE) (AJ (J6 (i:=0) (j:=1) rfl Ir.nd rfl rfl (by decide) rfl rfl (AB 1) (Ac F3 (AB 0) (AB 1)))))
    (AJ (AX (AB 0))))
end
section
open PyProof.Rows (boot_isinstance boot_int boot_bool boot_tuple boot_str boot_list boot_abs boot_all boot_any boot_sum boot_max boot_min boot_range boot_enumerate boot_zip boot_sorted boot_set boot_divmod)
variable{P:Program}{w:World}{K:PySem.W.Frag}{mg:Str->Option Value}{base:Heap}
theorem LU:AU ["_law_top","_law_bottom","_law_by"] ["_law_top","_law_bottom"] (AI s_law_made):=⟨rfl,rfl,rfl,by decide+kernel,rfl,by decide+kernel,by decide+kernel⟩
theorem Ap  (S:St.Src K mg "_law_made" s_law_made)(B:Bts mg)(Ej:Ju P w K mg base):De P w K mg base:=by
 refine Ag (k:=1) S LU rfl (fun f fd F=>F.binds fun _ _ _ _ _ _ us hl=>match us,hl with| [_,_],_=>rfl) fun f cdv A outer s H E hr=>?_
 have hu:=AW hr
 exact(AF (Ah 2 (AH Ej (hr.mono (by decide)) rfl (AA (A6 LK rfl B.abs boot_abs (AA (AB 0) AD)) (AA (AB 1) AD))) LU.nd)
    (AJ (AX (A4 (AA (Ac Ey (AB 0) (AB 2)) (AA (Ac Ey (AB 1) (AB 2)) AD))))))
theorem Jh:AU ["_law_pen_here","_law_many","_law_weights"] ["_law_pen_here","_law_many"] (AI s_law_whole):=⟨rfl,rfl,rfl,by decide+kernel,rfl,by decide+kernel,by decide+kernel⟩
theorem MD:AZ ["_law_pen_here","_law_many","_law_weights"] (AI s_law_whole) ["_law_pen_here","_law_one"] (ixC [0] 1) (Ht s_law_whole 0):=⟨rfl,by decide+kernel,by decide+kernel,by decide+kernel,by decide+kernel⟩
theorem L8:(["_law_pen_here","_law_one"]:List Str).Nodup:=by decide+kernel
theorem MA:AZ ["_law_pen_here","_law_many","_law_weights"] (AI s_law_whole) ["_law_weights","_law_weight"] (ixC [2] 1) (Ht s_law_whole 1):=⟨rfl,by decide+kernel,by decide+kernel,by decide+kernel,by decide+kernel⟩
theorem Lz:(["_law_weights","_law_weight"]:List Str).Nodup:=by decide+kernel
theorem Bw  (S:St.Src K mg "_law_whole" s_law_whole)(B:Bts mg)(AN:Cj P w K mg base)(Ap:De P w K mg base):GO P w K mg base:=by
 refine Ag (k:=2) S Jh rfl (fun f fd F=>F.binds fun _ _ _ _ _ _ us hl=>match us,hl with| [_,_],_=>rfl) fun f cdv A outer s H E hr=>?_
 have hu:=AW hr
 exact(AF (Ah 2 (CA [0] 1 ["_law_pen_here","_law_one"] rfl MD (EK rfl B.range (AA (AB 1) AD)) (fun s H fp=>⟨(Ab 1 L8),Bm,(AM AY (Bh (AA AE (AA AE (AA (AH AN (hr.mono (by decide)) rfl (AA (AB 0) (AA AE AD))) (AA (AH AN (hr.mono (by decide)) rfl (AA (AB 0) (AA AE AD))) AD))))) (AH AN (hr.mono (by decide)) rfl (AA (AB 0) (AA AE AD))))⟩)) Jh.nd)
    (AF (CT (Aq (CF hu) (A6 (JH rfl) rfl B.sum boot_sum (AA (AB 2) AD)) AE) (AJ (B5 AE (AB 2) (AH AN (hr.mono (by decide)) rfl (AA (AB 0) (AA (AB 1) AD))))) A7)
    (AJ (AX (An Al rfl B.tuple boot_tuple (AA (CA [2] 1 ["_law_weights","_law_weight"] rfl MA (Bq (AB 2)) (fun s H fp=>⟨(Ab 1 Lz),Bm,(AH Ap (hr.mono (by decide)) rfl (AA (AB 1) (AA (A6 (JH rfl) rfl B.sum boot_sum (AA (AB 0) AD)) AD)))⟩)) AD))))))
theorem HE:AU ["_law_pen_here","_law_partners","_law_kinds","_law_beasts"] ["_law_pen_here"] (AI s_law_train):=⟨rfl,rfl,rfl,by decide+kernel,rfl,by decide+kernel,by decide+kernel⟩
theorem Cy  (S:St.Src K mg "_law_train" s_law_train)(AN:Cj P w K mg base)(Bw:GO P w K mg base):IT P w K mg base:=by
 refine Ag (k:=3) S HE rfl (fun f fd F=>F.binds fun _ _ _ _ _ _ us hl=>match us,hl with| [_],_=>rfl) fun f cdv A outer s H E hr=>?_
 have hu:=AW hr
 exact(AF (J6 (i:=1) (j:=2) rfl HE.nd rfl rfl (by decide) rfl rfl (Ac Am AE (AH AN (hr.mono (by decide)) rfl (AA (AB 0) (AA AE AD)))) (Ac Am AE (AH AN (hr.mono (by decide)) rfl (AA (AB 0) (AA AE AD)))))
    (AF (Ah 3 (AM AY (Bh (AA (Ac Am AE (AH AN (hr.mono (by decide)) rfl (AA (AB 0) (AA AE AD)))) (AA (Ac Am AE (AH AN (hr.mono (by decide)) rfl (AA (AB 0) (AA AE AD)))) AD))) (AH AN (hr.mono (by decide)) rfl (AA (AB 0) (AA AE AD)))) HE.nd)
    (AJ (AX (A4 (AA (AB 1) (AA (AB 2) (AA (AB 3) (AA (AH Bw (hr.mono (by decide)) rfl (AA (AB 0) (AA (AB 1) AD))) (AA (AH AN (hr.mono (by decide)) rfl (AA (AB 0) (AA AE AD))) (AA (AH AN (hr.mono (by decide)) rfl (AA (AB 0) (AA AE AD))) AD)))))))))))
theorem Iu:AU ["_law_pen_here","_law_great"] ["_law_pen_here"] (AI s_law_pieces):=⟨rfl,rfl,rfl,by decide+kernel,rfl,by decide+kernel,by decide+kernel⟩
theorem Bn  (S:St.Src K mg "_law_pieces" s_law_pieces)(AN:Cj P w K mg base):HV P w K mg base:=by
 refine Ag (k:=1) S Iu rfl (fun f fd F=>F.binds fun _ _ _ _ _ _ us hl=>match us,hl with| [_],_=>rfl) fun f cdv A outer s H E hr=>?_
 have hu:=AW hr
 exact(AF (Ah 1 (Ac Am (Ac RY AE AE) (AH AN (hr.mono (by decide)) rfl (AA (AB 0) (AA AE AD)))) Iu.nd)
    (AJ (AX (AM AY (Bh (AA (Ac Am AE (AH AN (hr.mono (by decide)) rfl (AA (AB 0) (AA AE AD)))) (AA (Ac Am AE (AH AN (hr.mono (by decide)) rfl (AA (AB 0) (AA AE AD)))) (AA (Ac Am AE (AH AN (hr.mono (by decide)) rfl (AA (AB 0) (AA AE AD)))) (AA (AB 1) AD))))) (Ac Ey (AH AN (hr.mono (by decide)) rfl (AA (AB 0) (AA AE AD))) AE)))))
theorem HU:AU ["_law_pen_here","_law_train_here","_law_found","_law_k"] ["_law_pen_here","_law_train_here"] (AI s_law_first):=⟨rfl,rfl,rfl,by decide+kernel,rfl,by decide+kernel,by decide+kernel⟩
theorem FL  (S:St.Src K mg "_law_first" s_law_first)(B:Bts mg)(AN:Cj P w K mg base)(Bw:GO P w K mg base)(Bn:HV P w K mg base):LD P w K mg base:=by
 refine Ag (k:=3) S HU rfl (fun f fd F=>F.binds fun _ _ _ _ _ _ us hl=>match us,hl with| [_,_],_=>rfl) fun f cdv A outer s H E hr=>?_
 have hu:=AW hr
 exact(AF (Ah 2 (Bh AD) HU.nd)
    (AF (C7 PassesOwn.never rfl (EK rfl B.range (AA (AM AY (Bh (AA AE (AA AE (AA (AH AN (hr.mono (by decide)) rfl (AA (AB 0) (AA AE AD))) AD)))) (AH AN (hr.mono (by decide)) rfl (AA (AB 0) (AA AE AD)))) AD)) (Ab 3 HU.nd) (AJ (Bt (FV PySem.F.slot_list_append PySem.F.type_list_append D5 (AB 2) (AA (A4 (AA (AH AN (hr.mono (by decide)) rfl (AA (AB 0) (AA (AM AY (AB 1) AE) AD))) (AA (AH Bn (hr.mono (by decide)) rfl (AA (AB 0) AD)) (AA (AH Bw (hr.mono (by decide)) rfl (AA (AB 0) (AA (AM AY (AB 1) AE) AD))) AD)))) AD)))))
    (AJ (AX (An Al rfl B.tuple boot_tuple (AA (AB 2) AD))))))
theorem Oh:AU ["_law_book_here"] ["_law_book_here"] (AI s_law_begun):=⟨rfl,rfl,rfl,by decide+kernel,rfl,by decide+kernel,by decide+kernel⟩
theorem MK:AZ ["_law_book_here"] (AI s_law_begun) ["_law_load"] (ixC [] 1) (Ht s_law_begun 0):=⟨rfl,by decide+kernel,by decide+kernel,by decide+kernel,by decide+kernel⟩
theorem MC:(["_law_load"]:List Str).Nodup:=by decide+kernel
theorem Bv  (S:St.Src K mg "_law_begun" s_law_begun)(B:Bts mg):GZ P w K mg base:=by
 refine Ag (k:=0) S Oh rfl (fun f fd F=>F.binds fun _ _ _ _ _ _ us hl=>match us,hl with| [_],_=>rfl) fun f cdv A outer s H E hr=>?_
 have hu:=AW hr
 exact(AJ (AX (Bh (AA (CA [] 1 ["_law_load"] rfl MK (Bq (AM AY (AB 0) AE)) (fun s H fp=>⟨(Ab 0 MC),Bm,(An HX rfl B.list boot_list (AA (AB 0) AD))⟩)) (AA (An Al rfl B.tuple boot_tuple (AA (AM AY (AM AY (AB 0) AE) AE) AD)) (AA (Bh AD) AD))))))
end
section
open PyProof.Rows (boot_isinstance boot_int boot_bool boot_tuple boot_str boot_list boot_abs boot_all boot_any boot_sum boot_max boot_min boot_range boot_enumerate boot_zip boot_sorted boot_set boot_divmod)
variable{P:Program}{w:World}{K:PySem.W.Frag}{mg:Str->Option Value}{base:Heap}
theorem J8:AU ["_law_pen_here","_law_bottom"] ["_law_pen_here"] (AI s_law_share):=⟨rfl,rfl,rfl,by decide+kernel,rfl,by decide+kernel,by decide+kernel⟩
theorem FG  (S:St.Src K mg "_law_share" s_law_share)(AN:Cj P w K mg base)(Ap:De P w K mg base):Lv P w K mg base:=by
 refine Ag (k:=2) S J8 rfl (fun f fd F=>F.binds fun _ _ _ _ _ _ us hl=>match us,hl with| [_],_=>rfl) fun f cdv A outer s H E hr=>?_
 have hu:=AW hr
 exact(AF (Ah 1 (Ac Am AE (AH AN (hr.mono (by decide)) rfl (AA (AB 0) (AA AE AD)))) J8.nd)
    (AJ (AX (AH Ap (hr.mono (by decide)) rfl (AA (Ac Am AE (AH AN (hr.mono (by decide)) rfl (AA (AB 0) (AA (AB 1) AD)))) (AA (AB 1) AD))))))
theorem Nc:AU ["_law_pen_here","_law_many"] ["_law_pen_here","_law_many"] (AI s_law_worths):=⟨rfl,rfl,rfl,by decide+kernel,rfl,by decide+kernel,by decide+kernel⟩
theorem Ky:AZ ["_law_pen_here","_law_many"] (AI s_law_worths) ["_law_pen_here","_law_one"] (ixC [0] 1) (Ht s_law_worths 0):=⟨rfl,by decide+kernel,by decide+kernel,by decide+kernel,by decide+kernel⟩
theorem LB:(["_law_pen_here","_law_one"]:List Str).Nodup:=by decide+kernel
theorem EY  (S:St.Src K mg "_law_worths" s_law_worths)(B:Bts mg)(AN:Cj P w K mg base):KA P w K mg base:=by
 refine Ag (k:=1) S Nc rfl (fun f fd F=>F.binds fun _ _ _ _ _ _ us hl=>match us,hl with| [_,_],_=>rfl) fun f cdv A outer s H E hr=>?_
 have hu:=AW hr
 exact(AJ (AX (An Al rfl B.tuple boot_tuple (AA (CA [0] 1 ["_law_pen_here","_law_one"] rfl Ky (EK rfl B.range (AA (AB 1) AD)) (fun s H fp=>⟨(Ab 1 LB),Bm,(Ac Am AE (AM AY (Bh (AA (AH AN (hr.mono (by decide)) rfl (AA (AB 0) (AA AE AD))) (AA (AH AN (hr.mono (by decide)) rfl (AA (AB 0) (AA AE AD))) AD))) (AH AN (hr.mono (by decide)) rfl (AA (AB 0) (AA AE AD)))))⟩)) AD))))
theorem Bk:AU ["_law_pen_here","_law_train_here","_law_state","_law_loads","_law_holders","_law_numbers","_law_full","_law_way","_law_load","_law_some","_law_same","_law_kind","_law_left","_law_partner"] ["_law_pen_here","_law_train_here","_law_state"] (AI s_law_deed):=⟨rfl,rfl,rfl,by decide+kernel,rfl,by decide+kernel,by decide+kernel⟩
theorem N6:AZ ["_law_pen_here","_law_train_here","_law_state","_law_loads","_law_holders","_law_numbers","_law_full","_law_way","_law_load","_law_some","_law_same","_law_kind","_law_left","_law_partner"] (AI s_law_deed) ["_law_at","_law_load"] (ixC [] 2) (Ht s_law_deed 0):=⟨rfl,by decide+kernel,by decide+kernel,by decide+kernel,by decide+kernel⟩
theorem JG:(["_law_at","_law_load"]:List Str).Nodup:=by decide+kernel
theorem NY:AZ ["_law_pen_here","_law_train_here","_law_state","_law_loads","_law_holders","_law_numbers","_law_full","_law_way","_law_load","_law_some","_law_same","_law_kind","_law_left","_law_partner"] (AI s_law_deed) ["_law_loads","_law_load","_law_at"] (ixC [3,8] 1) (Ht s_law_deed 1):=⟨rfl,by decide+kernel,by decide+kernel,by decide+kernel,by decide+kernel⟩
theorem N2:(["_law_loads","_law_load","_law_at"]:List Str).Nodup:=by decide+kernel
theorem Nl:AZ ["_law_pen_here","_law_train_here","_law_state","_law_loads","_law_holders","_law_numbers","_law_full","_law_way","_law_load","_law_some","_law_same","_law_kind","_law_left","_law_partner"] (AI s_law_deed) ["_law_numbers","_law_number"] (ixC [5] 1) (Ht s_law_deed 2):=⟨rfl,by decide+kernel,by decide+kernel,by decide+kernel,by decide+kernel⟩
theorem Nt:(["_law_numbers","_law_number"]:List Str).Nodup:=by decide+kernel
theorem Dg  (S:St.Src K mg "_law_deed" s_law_deed)(B:Bts mg)(AN:Cj P w K mg base)(Bn:HV P w K mg base)(FG:Lv P w K mg base)(EY:KA P w K mg base):JU P w K mg base:=by
 refine Ag (k:=3) S Bk rfl (fun f fd F=>F.binds fun _ _ _ _ _ _ us hl=>match us,hl with| [_,_,_],_=>rfl) fun f cdv A outer s H E hr=>?_
 have hu:=AW hr
 exact(AF (Ft (AB 2) (DV rfl (AO (Ab 3 Bk.nd) (AO (Ab 4 Bk.nd) (AO (Ab 5 Bk.nd) BF)))))
    (AF (CQ [] 2 ["_law_at","_law_load"] rfl Bk.nd rfl rfl N6 (OF rfl B.enumerate (AB 3)) (fun s H fp=>⟨(DV rfl (AO (Ab 0 JG) (AO (Ab 1 JG) BF))),(G5 (Aq LC (AM AY (AB 1) AE) AE)),(AB 0)⟩))
    (AF (Ah 7 (AH AN (hr.mono (by decide)) rfl (AA (AB 0) (AA AE AD))) Bk.nd)
    (AF (CT (DW.dt (Ur (Aq Jq (AB 7) AE) (P7 (Aq (CF hu) (AB 6) (Bh AD))))) (AJ (AX (A4 (AA BY (AA (AH AN (hr.mono (by decide)) rfl (AA (AB 0) (AA (AM AY (AB 1) AE) AD))) (AA (AH AN (hr.mono (by decide)) rfl (AA (AB 0) (AA (AM AY (AB 1) AE) AD))) (AA (AH Bn (hr.mono (by decide)) rfl (AA (AB 0) AD)) AD))))))) A7)
    (AF (Ah 8 (AM AY (AB 6) (AH AN (hr.mono (by decide)) rfl (AA (AB 0) (AA (A6 CP rfl B.len boot_len (AA (AB 6) AD)) AD)))) Bk.nd)
    (AF (Ah 9 (Ac Am AE (AH AN (hr.mono (by decide)) rfl (AA (AB 0) (AA (A6 (Oq rfl) rfl B.min boot_min (AA (AM AY (AM AY (AB 3) (AB 8)) AE) (AA AE AD))) AD)))) Bk.nd)
    (AF (CT (Aq Jq (AB 7) AE) (AF (CQ [3,8] 1 ["_law_loads","_law_load","_law_at"] rfl Bk.nd rfl rfl NY (Bq (AB 6)) (fun s H fp=>⟨(Ab 2 N2),(G5 (DW.dt (M8 (Aq (Lx hu) (AB 2) (AB 1)) (JT (Aq (CF hu) (AM AY (AM AY (AB 0) (AB 2)) AE) (AM AY (AM AY (AB 0) (AB 1)) AE)))))),(AB 2)⟩))
    (AJ (CT (Aq (Lx hu) (AB 10) (Bh AD)) (AJ (AX (A4 (AA BY (AA (AB 8) (AA (AM AY (AB 10) (AH AN (hr.mono (by decide)) rfl (AA (AB 0) (AA (A6 CP rfl B.len boot_len (AA (AB 10) AD)) AD)))) AD)))))) A7))) A7)
    (AF (CT (DW.dt (M8 (Aq Jq (AB 7) AE) (JT (Aq LC (AM AY (AB 1) AE) AE)))) (AF (Ah 11 (Ac F3 (Ac Am (Ac Am (AM AY (AM AY (AB 3) (AB 8)) AE) AE) (AH AN (hr.mono (by decide)) rfl (AA (AB 0) (AA (Ac EF (AM AY (AB 1) AE) AE) AD)))) (AM AY (AB 1) AE)) Bk.nd)
    (AF (CQ [5] 1 ["_law_numbers","_law_number"] rfl Bk.nd rfl rfl Nl (EK rfl B.range (AA AE AD)) (fun s H fp=>⟨(Ab 1 Nt),(G5 (Aq Ih (AB 1) (AB 0))),(AB 1)⟩))
    (AF (CT (DW.dt (M8 (Aq (CF hu) (AB 7) AE) (JT (Aq (Lx hu) (AB 12) (Bh AD))))) (AJ (AX (A4 (AA BY (AA (AM AY (AB 12) (AH AN (hr.mono (by decide)) rfl (AA (AB 0) (AA (A6 CP rfl B.len boot_len (AA (AB 12) AD)) AD)))) (AA (AB 8) (AA (AB 9) (AA (AB 11) (AA (AH Bn (hr.mono (by decide)) rfl (AA (AB 0) AD)) AD))))))))) A7)
    (AJ (AX (A4 (AA BY (AA (AB 8) (AA (AB 9) (AA (AB 11) (AA (AH Bn (hr.mono (by decide)) rfl (AA (AB 0) AD)) AD))))))))))) A7)
    (AF (CT (Aq (CF hu) (AB 7) AE) (AJ (AX (A4 (AA BY (AA (AB 8) (AA (AB 9) AD)))))) A7)
    (AF (CT (DW.dt (M8 (Aq (CF hu) (AB 7) AE) (JT (Aq LC (AM AY (AB 1) AE) AE)))) (AF (Ah 13 (AH AN (hr.mono (by decide)) rfl (AA (AB 0) (AA (AM AY (AB 1) AE) AD))) Bk.nd)
    (AJ (AX (A4 (AA BY (AA (AB 13) (AA (Ac F3 (Ac Am (Ac Am (AB 13) AE) (AH AN (hr.mono (by decide)) rfl (AA (AB 0) (AA (Ac EF (AM AY (AB 1) AE) AE) AD)))) (AM AY (AB 1) AE)) (AA (AH FG (hr.mono (by decide)) rfl (AA (AB 0) AD)) AD)))))))) A7)
    (AJ (AX (A4 (AA BY (AA (AB 8) (AA (AB 9) (AA (AH EY (hr.mono (by decide)) rfl (AA (AB 0) (AA (Ac Am (AM AY (AB 1) AE) AE) AD))) AD)))))))))))))))))
theorem Pa:AU ["_law_one","_law_other"] ["_law_one","_law_other"] (AI s_law_plus):=⟨rfl,rfl,rfl,by decide+kernel,rfl,by decide+kernel,by decide+kernel⟩
theorem BJ  (S:St.Src K mg "_law_plus" s_law_plus)(Ap:De P w K mg base):FA P w K mg base:=by
 refine Ag (k:=2) S Pa rfl (fun f fd F=>F.binds fun _ _ _ _ _ _ us hl=>match us,hl with| [_,_],_=>rfl) fun f cdv A outer s H E hr=>?_
 have hu:=AW hr
 exact(AJ (AX (AH Ap (hr.mono (by decide)) rfl (AA (Ac Am (Ac Az (AM AY (AB 0) AE) (AM AY (AB 1) AE)) (Ac Az (AM AY (AB 1) AE) (AM AY (AB 0) AE))) (AA (Ac Az (AM AY (AB 0) AE) (AM AY (AB 1) AE)) AD)))))
theorem Ob:AU ["_law_one","_law_other"] ["_law_one","_law_other"] (AI s_law_times):=⟨rfl,rfl,rfl,by decide+kernel,rfl,by decide+kernel,by decide+kernel⟩
theorem Ay  (S:St.Src K mg "_law_times" s_law_times)(Ap:De P w K mg base):FY P w K mg base:=by
 refine Ag (k:=2) S Ob rfl (fun f fd F=>F.binds fun _ _ _ _ _ _ us hl=>match us,hl with| [_,_],_=>rfl) fun f cdv A outer s H E hr=>?_
 have hu:=AW hr
 exact(AJ (AX (AH Ap (hr.mono (by decide)) rfl (AA (Ac Az (AM AY (AB 0) AE) (AM AY (AB 1) AE)) (AA (Ac Az (AM AY (AB 0) AE) (AM AY (AB 1) AE)) AD)))))
theorem Dz:AU ["_law_one","_law_other","_law_found","_law_mine","_law_its","_law_both"] ["_law_one","_law_other"] (AI s_law_pooled):=⟨rfl,rfl,rfl,by decide+kernel,rfl,by decide+kernel,by decide+kernel⟩
theorem EV  (S:St.Src K mg "_law_pooled" s_law_pooled)(B:Bts mg)(Ap:De P w K mg base)(BJ:FA P w K mg base)(Ay:FY P w K mg base):Jt P w K mg base:=by
 refine Ag (k:=3) S Dz rfl (fun f fd F=>F.binds fun _ _ _ _ _ _ us hl=>match us,hl with| [_,_],_=>rfl) fun f cdv A outer s H E hr=>?_
 have hu:=AW hr
 exact(AF (Ah 2 (Bh AD) Dz.nd)
    (AF (C7 PassesOwn.never rfl (QL rfl B.zip (AM AY (AB 0) AE) (AM AY (AB 1) AE)) (DV rfl (AO (Ab 3 Dz.nd) (AO (Ab 4 Dz.nd) BF))) (AF (Ah 5 (AH BJ (hr.mono (by decide)) rfl (AA (AH Ay (hr.mono (by decide)) rfl (AA (A4 (AA (AM AY (AB 0) AE) (AA AE AD))) (AA (AB 3) AD))) (AA (AH Ay (hr.mono (by decide)) rfl (AA (A4 (AA (AM AY (AB 1) AE) (AA AE AD))) (AA (AB 4) AD))) AD))) Dz.nd)
    (AJ (Bt (FV PySem.F.slot_list_append PySem.F.type_list_append D5 (AB 2) (AA (AH Ay (hr.mono (by decide)) rfl (AA (AB 5) (AA (AH Ap (hr.mono (by decide)) rfl (AA AE (AA (Ac Am (AM AY (AB 0) AE) (AM AY (AB 1) AE)) AD))) AD))) AD))))))
    (AJ (AX (An Al rfl B.tuple boot_tuple (AA (AB 2) AD))))))
end
section
open PyProof.Rows (boot_isinstance boot_int boot_bool boot_tuple boot_str boot_list boot_abs boot_all boot_any boot_sum boot_max boot_min boot_range boot_enumerate boot_zip boot_sorted boot_set boot_divmod)
variable{P:Program}{w:World}{K:PySem.W.Frag}{mg:Str->Option Value}{base:Heap}
theorem IS:AU ["_law_train_here","_law_loads","_law_deed_here","_law_worths_here","_law_whole_here"] ["_law_train_here","_law_loads","_law_deed_here"] (AI s_law_cost):=⟨rfl,rfl,rfl,by decide+kernel,rfl,by decide+kernel,by decide+kernel⟩
theorem Nz:AZ ["_law_train_here","_law_loads","_law_deed_here","_law_worths_here","_law_whole_here"] (AI s_law_cost) ["_law_worths_here","_law_kind","_law_pieces_here","_law_owners"] (ixC [3] 3) (Ht s_law_cost 0):=⟨rfl,by decide+kernel,by decide+kernel,by decide+kernel,by decide+kernel⟩
theorem Ge:(["_law_worths_here","_law_kind","_law_pieces_here","_law_owners"]:List Str).Nodup:=by decide+kernel
theorem GI  (S:St.Src K mg "_law_cost" s_law_cost)(B:Bts mg)(Ap:De P w K mg base):Ma P w K mg base:=by
 refine Ag (k:=2) S IS rfl (fun f fd F=>F.binds fun _ _ _ _ _ _ us hl=>match us,hl with| [_,_,_],_=>rfl) fun f cdv A outer s H E hr=>?_
 have hu:=AW hr
 exact(AF (Ah 3 (AM AY (AB 2) AE) IS.nd)
    (AF (Ah 4 (Ac Am (A6 (JH rfl) rfl B.sum boot_sum (AA (CA [3] 3 ["_law_worths_here","_law_kind","_law_pieces_here","_law_owners"] rfl Nz (Bq (AB 1)) (fun s H fp=>⟨(DV rfl (AO (Ab 1 Ge) (AO (Ab 2 Ge) (AO (Ab 3 Ge) BF)))),Bm,(Ac Az (AB 2) (AM AY (AB 0) (AB 1)))⟩)) AD)) (Ac Az (AM AY (AB 0) AE) (AM AY (AB 3) (PX IB AE)))) IS.nd)
    (AJ (AX (AH Ap (hr.mono (by decide)) rfl (AA (Ac Az (AM AY (AB 2) AE) (AM AY (AB 3) (AM AY (AM AY (AB 1) (AM AY (AB 2) AE)) AE))) (AA (AB 4) AD)))))))
theorem Pe:AU ["_law_one","_law_other"] ["_law_one","_law_other"] (AI s_law_less):=⟨rfl,rfl,rfl,by decide+kernel,rfl,by decide+kernel,by decide+kernel⟩
theorem DX  (S:St.Src K mg "_law_less" s_law_less)(BJ:FA P w K mg base):JQ P w K mg base:=by
 refine Ag (k:=3) S Pe rfl (fun f fd F=>F.binds fun _ _ _ _ _ _ us hl=>match us,hl with| [_,_],_=>rfl) fun f cdv A outer s H E hr=>?_
 have hu:=AW hr
 exact(AJ (AX (AH BJ (hr.mono (by decide)) rfl (AA (AB 0) (AA (A4 (AA (Ac EF AE (AM AY (AB 1) AE)) (AA (AM AY (AB 1) AE) AD))) AD)))))
theorem Fd:AU ["_law_shares","_law_part","_law_owners","_law_found","_law_mine","_law_its"] ["_law_shares","_law_part","_law_owners"] (AI s_law_borne):=⟨rfl,rfl,rfl,by decide+kernel,rfl,by decide+kernel,by decide+kernel⟩
theorem EH  (S:St.Src K mg "_law_borne" s_law_borne)(B:Bts mg)(BJ:FA P w K mg base)(Ay:FY P w K mg base)(DX:JQ P w K mg base):LA P w K mg base:=by
 refine Ag (k:=4) S Fd rfl (fun f fd F=>F.binds fun _ _ _ _ _ _ us hl=>match us,hl with| [_,_,_],_=>rfl) fun f cdv A outer s H E hr=>?_
 have hu:=AW hr
 exact(AF (Ah 3 (Bh AD) Fd.nd)
    (AF (C7 PassesOwn.never rfl (QL rfl B.zip (AB 0) (AB 2)) (DV rfl (AO (Ab 4 Fd.nd) (AO (Ab 5 Fd.nd) BF))) (AJ (Bt (FV PySem.F.slot_list_append PySem.F.type_list_append D5 (AB 3) (AA (AH BJ (hr.mono (by decide)) rfl (AA (AH Ay (hr.mono (by decide)) rfl (AA (AB 4) (AA (AH DX (hr.mono (by decide)) rfl (AA (A4 (AA AE (AA AE AD))) (AA (AB 1) AD))) AD))) (AA (AH Ay (hr.mono (by decide)) rfl (AA (AB 5) (AA (AB 1) AD))) AD))) AD)))))
    (AJ (AX (An Al rfl B.tuple boot_tuple (AA (AB 3) AD))))))
theorem IF:AU ["_law_shares","_law_deed_here","_law_found","_law_passes"] ["_law_shares","_law_deed_here"] (AI s_law_sold):=⟨rfl,rfl,rfl,by decide+kernel,rfl,by decide+kernel,by decide+kernel⟩
theorem E7  (S:St.Src K mg "_law_sold" s_law_sold)(B:Bts mg)(BJ:FA P w K mg base)(Ay:FY P w K mg base)(DX:JQ P w K mg base):Mn P w K mg base:=by
 refine Ag (k:=4) S IF rfl (fun f fd F=>F.binds fun _ _ _ _ _ _ us hl=>match us,hl with| [_,_],_=>rfl) fun f cdv A outer s H E hr=>?_
 have hu:=AW hr
 exact(AF (Ah 2 (An HX rfl B.list boot_list (AA (AB 0) AD)) IF.nd)
    (AF (Ah 3 (AH Ay (hr.mono (by decide)) rfl (AA (AM AY (AB 2) (AM AY (AB 1) AE)) (AA (AM AY (AB 1) AE) AD))) IF.nd)
    (AF (B5 (AH DX (hr.mono (by decide)) rfl (AA (AM AY (AB 2) (AM AY (AB 1) AE)) (AA (AB 3) AD))) (AB 2) (AM AY (AB 1) AE))
    (AF (B5 (AH BJ (hr.mono (by decide)) rfl (AA (AM AY (AB 2) (AM AY (AB 1) AE)) (AA (AB 3) AD))) (AB 2) (AM AY (AB 1) AE))
    (AJ (AX (An Al rfl B.tuple boot_tuple (AA (AB 2) AD))))))))
theorem DQ:AU ["_law_train_here","_law_state","_law_deed_here","_law_loads","_law_holders","_law_numbers","_law_part","_law_owners","_law_load"] ["_law_train_here","_law_state","_law_deed_here"] (AI s_law_turn):=⟨rfl,rfl,rfl,by decide+kernel,rfl,by decide+kernel,by decide+kernel⟩
theorem GF  (S:St.Src K mg "_law_turn" s_law_turn)(GI:Ma P w K mg base)(EH:LA P w K mg base)(E7:Mn P w K mg base):MS P w K mg base:=by
 refine Ag (k:=5) S DQ rfl (fun f fd F=>F.binds fun _ _ _ _ _ _ us hl=>match us,hl with| [_,_,_],_=>rfl) fun f cdv A outer s H E hr=>?_
 have hu:=AW hr
 exact(AF (Ft (AB 1) (DV rfl (AO (Ab 3 DQ.nd) (AO (Ab 4 DQ.nd) (AO (Ab 5 DQ.nd) BF)))))
    (AJ (CT (Aq (CF hu) (AM AY (AB 2) AE) BY) (AF (J6 (i:=6) (j:=7) rfl DQ.nd rfl rfl (by decide) rfl rfl (AH GI (hr.mono (by decide)) rfl (AA (AB 0) (AA (AB 3) (AA (AB 2) AD)))) (AM AY (AM AY (AB 3) (AM AY (AB 2) AE)) AE))
    (AF (B5 (Ac EF (AM AY (AM AY (AB 3) (AM AY (AB 2) AE)) AE) (AM AY (AB 2) AE)) (AM AY (AB 3) (AM AY (AB 2) AE)) AE)
    (AF (C7 PassesOwn.never rfl (Bq (AB 3)) (Ab 8 DQ.nd) (AJ (B5 (AH EH (hr.mono (by decide)) rfl (AA (AM AY (AB 8) AE) (AA (AB 6) (AA (AB 7) AD)))) (AB 8) AE)))
    (AJ (B5 (AH EH (hr.mono (by decide)) rfl (AA (AB 4) (AA (AB 6) (AA (AB 7) AD)))) (AB 1) AE))))) (AF (C7 PassesOwn.never rfl (Bq (AB 3)) (Ab 8 DQ.nd) (AJ (B5 (AH E7 (hr.mono (by decide)) rfl (AA (AM AY (AB 8) AE) (AA (AB 2) AD))) (AB 8) AE)))
    (AJ (B5 (AH E7 (hr.mono (by decide)) rfl (AA (AB 4) (AA (AB 2) AD))) (AB 1) AE))))))
theorem DC:AU ["_law_train_here","_law_state","_law_deed_here","_law_loads","_law_holders","_law_numbers","_law_word","_law_one","_law_other","_law_load","_law_given","_law_kind","_law_got"] ["_law_train_here","_law_state","_law_deed_here"] (AI s_law_do):=⟨rfl,rfl,rfl,by decide+kernel,rfl,by decide+kernel,by decide+kernel⟩
theorem PV:AZ ["_law_train_here","_law_state","_law_deed_here","_law_loads","_law_holders","_law_numbers","_law_word","_law_one","_law_other","_law_load","_law_given","_law_kind","_law_got"] (AI s_law_do) ["_law_deed_here","_law_one"] (ixC [2] 1) (Ht s_law_do 0):=⟨rfl,by decide+kernel,by decide+kernel,by decide+kernel,by decide+kernel⟩
theorem PH:(["_law_deed_here","_law_one"]:List Str).Nodup:=by decide+kernel
theorem Dy  (S:St.Src K mg "_law_do" s_law_do)(B:Bts mg)(EV:Jt P w K mg base)(GF:MS P w K mg base):KP P w K mg base:=by
 refine Ag (k:=6) S DC rfl (fun f fd F=>F.binds fun _ _ _ _ _ _ us hl=>match us,hl with| [_,_,_],_=>rfl) fun f cdv A outer s H E hr=>?_
 have hu:=AW hr
 exact(AF (Ft (AB 1) (DV rfl (AO (Ab 3 DC.nd) (AO (Ab 4 DC.nd) (AO (Ab 5 DC.nd) BF)))))
    (AF (Ah 6 (AM AY (AB 2) AE) DC.nd)
    (AJ (CT (Aq (CF hu) (AB 6) BY) (AJ (Bt (FV PySem.F.slot_list_append PySem.F.type_list_append D5 (AB 3) (AA (Bh (AA (AM AY (AB 2) AE) (AA (AM AY (AB 2) AE) (AA (An Al rfl B.tuple boot_tuple (AA (CA [2] 1 ["_law_deed_here","_law_one"] rfl PV (EK rfl B.range (AA (AM AY (AB 0) AE) AD)) (fun s H fp=>⟨(Ab 1 PH),Bm,(A4 (AA (An Lr rfl B.int boot_int (AA (Hx (CF hu) (AB 1) (AM AY (AB 0) AE)) AD)) (AA AE AD)))⟩)) AD)) AD)))) AD)))) (AJ (CT (Aq (CF hu) (AB 6) BY) (AF (J6 (i:=7) (j:=8) rfl DC.nd rfl rfl (by decide) rfl rfl (AM AY (AB 3) (AM AY (AB 2) AE)) (AM AY (AB 3) (AM AY (AB 2) AE)))
    (AF (Bt (FV PySem.F.slot_list_append PySem.F.type_list_append D5 (AB 3) (AA (Bh (AA (AM AY (AB 7) AE) (AA (Ac Am (AM AY (AB 7) AE) (AM AY (AB 8) AE)) (AA (AH EV (hr.mono (by decide)) rfl (AA (AB 7) (AA (AB 8) AD))) AD)))) AD)))
    (AF (B5 AE (AB 7) AE)
    (AJ (B5 AE (AB 8) AE))))) (AJ (CT (Aq MR (AB 6) (A4 (AA BY (AA BY AD)))) (AF (Ft (Kj (AB 2) (PX IB AE)) (DV rfl (AO (Ab 9 DC.nd) (AO (Ab 10 DC.nd) (AO (Ab 11 DC.nd) (AO (Ab 12 DC.nd) BF))))))
    (AF (B5 (Ac EF (AM AY (AM AY (AB 3) (AB 9)) AE) (AB 10)) (AM AY (AB 3) (AB 9)) AE)
    (AF (Bt (FV PySem.F.slot_list_append PySem.F.type_list_append D5 (AB 3) (AA (Bh (AA (AB 11) (AA (AB 12) (AA (AM AY (AM AY (AB 3) (AB 9)) AE) AD)))) AD)))
    (AJ (Bt (FV PySem.F.slot_list_extend PySem.F.type_list_extend Xv (AB 5) (AA (Ac Az (W7 (AB 2) AE AE) (An Lr rfl B.int boot_int (AA (Hx (CF hu) (AB 6) BY) AD))) AD))))))) (AJ (CT (Aq (CF hu) (AB 6) BY) (AJ (B5 (Ac EF (AM AY (AM AY (AB 3) (AM AY (AB 2) AE)) AE) (AM AY (AB 2) AE)) (AM AY (AB 3) (AM AY (AB 2) AE)) AE)) (AJ (Bt (AH GF (hr.mono (by decide)) rfl (AA (AB 0) (AA (AB 1) (AA (AB 2) AD))))))))))))))))
end
section
open PyProof.Rows (boot_isinstance boot_int boot_bool boot_tuple boot_str boot_list boot_abs boot_all boot_any boot_sum boot_max boot_min boot_range boot_enumerate boot_zip boot_sorted boot_set boot_divmod)
variable{P:Program}{w:World}{K:PySem.W.Frag}{mg:Str->Option Value}{base:Heap}
theorem EC:AU ["_law_pen_here","_law_most","_law_train_here","_law_first_here","_law_state","_law_deeds","_law_k","_law_deed_here"] ["_law_pen_here","_law_most"] (AI s_law_book):=⟨rfl,rfl,rfl,by decide+kernel,rfl,by decide+kernel,by decide+kernel⟩
theorem Np:AZ ["_law_pen_here","_law_most","_law_train_here","_law_first_here","_law_state","_law_deeds","_law_k","_law_deed_here"] (AI s_law_book) ["_law_one"] (ixC [] 1) (Ht s_law_book 0):=⟨rfl,by decide+kernel,by decide+kernel,by decide+kernel,by decide+kernel⟩
theorem Nk:(["_law_one"]:List Str).Nodup:=by decide+kernel
theorem GG  (S:St.Src K mg "_law_book" s_law_book)(B:Bts mg)(AN:Cj P w K mg base)(Cy:IT P w K mg base)(FL:LD P w K mg base)(Bv:GZ P w K mg base)(Dg:JU P w K mg base)(Dy:KP P w K mg base):Mx P w K mg base:=by
 refine Ag (k:=7) S EC rfl (fun f fd F=>F.binds fun _ _ _ _ _ _ us hl=>match us,hl with| [_,_],_=>rfl) fun f cdv A outer s H E hr=>?_
 have hu:=AW hr
 exact(AF (Ah 2 (AH Cy (hr.mono (by decide)) rfl (AA (AB 0) AD)) EC.nd)
    (AF (Ah 3 (AH FL (hr.mono (by decide)) rfl (AA (AB 0) (AA (AB 2) AD))) EC.nd)
    (AF (J6 (i:=4) (j:=5) rfl EC.nd rfl rfl (by decide) rfl rfl (AH Bv (hr.mono (by decide)) rfl (AA (A4 (AA (AB 2) (AA (AB 3) (AA (A4 AD) AD)))) AD)) (Bh AD))
    (AF (C7 PassesOwn.never rfl (EK rfl B.range (AA (AH AN (hr.mono (by decide)) rfl (AA (AB 0) (AA (Ac Am (AB 1) AE) AD))) AD)) (Ab 6 EC.nd) (AF (Ah 7 (AH Dg (hr.mono (by decide)) rfl (AA (AB 0) (AA (AB 2) (AA (AB 4) AD)))) EC.nd)
    (AJ (CT (DW.dt (Ur (Aq (Lx hu) (AM AY (AB 7) AE) BY) (P7 (Aq Jq (A6 CP rfl B.len boot_len (AA (CA [] 1 ["_law_one"] rfl Np (Bq (AB 5)) (fun s H fp=>⟨(Ab 0 Nk),(G5 (Aq (CF hu) (AM AY (AB 0) AE) BY)),(AB 0)⟩)) AD)) AE)))) (AF (Bt (AH Dy (hr.mono (by decide)) rfl (AA (AB 2) (AA (AB 4) (AA (AB 7) AD)))))
    (AJ (Bt (FV PySem.F.slot_list_append PySem.F.type_list_append D5 (AB 5) (AA (AB 7) AD))))) A7))))
    (AJ (AX (A4 (AA (AB 2) (AA (AB 3) (AA (An Al rfl B.tuple boot_tuple (AA (AB 5) AD)) AD))))))))))
theorem EJ:AU ["_law_pen_here","_law_most","_law_train_here","_law_first_here","_law_k","_law_state","_law_deeds","_law_deed_here"] ["_law_pen_here","_law_most"] (AI s_law_few):=⟨rfl,rfl,rfl,by decide+kernel,rfl,by decide+kernel,by decide+kernel⟩
theorem HK  (S:St.Src K mg "_law_few" s_law_few)(B:Bts mg)(AN:Cj P w K mg base)(Bw:GO P w K mg base)(Cy:IT P w K mg base)(Bv:GZ P w K mg base)(Dg:JU P w K mg base)(Dy:KP P w K mg base):Oy P w K mg base:=by
 refine Ag (k:=7) S EJ rfl (fun f fd F=>F.binds fun _ _ _ _ _ _ us hl=>match us,hl with| [_,_],_=>rfl) fun f cdv A outer s H E hr=>?_
 have hu:=AW hr
 exact(AF (Ah 2 (AH Cy (hr.mono (by decide)) rfl (AA (AB 0) AD)) EJ.nd)
    (AF (Ah 3 (Bh AD) EJ.nd)
    (AF (C7 PassesOwn.never rfl (EK rfl B.range (AA (AH AN (hr.mono (by decide)) rfl (AA (AB 0) (AA AE AD))) AD)) (Ab 4 EJ.nd) (AJ (Bt (FV PySem.F.slot_list_append PySem.F.type_list_append D5 (AB 3) (AA (A4 (AA (AH AN (hr.mono (by decide)) rfl (AA (AB 0) (AA (AM AY (AB 2) AE) AD))) (AA (Ac Am AE (AH AN (hr.mono (by decide)) rfl (AA (AB 0) (AA AE AD)))) (AA (AH Bw (hr.mono (by decide)) rfl (AA (AB 0) (AA (AM AY (AB 2) AE) AD))) AD)))) AD)))))
    (AF (J6 (i:=5) (j:=6) rfl EJ.nd rfl rfl (by decide) rfl rfl (AH Bv (hr.mono (by decide)) rfl (AA (A4 (AA (AB 2) (AA (An Al rfl B.tuple boot_tuple (AA (AB 3) AD)) (AA (A4 AD) AD)))) AD)) (Bh AD))
    (AF (C7 PassesOwn.never rfl (EK rfl B.range (AA (AH AN (hr.mono (by decide)) rfl (AA (AB 0) (AA (Ac Am (AB 1) AE) AD))) AD)) (Ab 4 EJ.nd) (AF (Ah 7 (AH Dg (hr.mono (by decide)) rfl (AA (AB 0) (AA (AB 2) (AA (AB 5) AD)))) EJ.nd)
    (AJ (CT (DW.dt (Ur (Aq Ih (AM AY (AB 7) AE) (A4 (AA BY (AA BY AD)))) (P7 (DW.dt (M8 (Aq (CF hu) (AH AN (hr.mono (by decide)) rfl (AA (AB 0) (AA AE AD))) AE) (JT (Aq Jq (A6 CP rfl B.len boot_len (AA (AB 6) AD)) AE))))))) (AF (Bt (AH Dy (hr.mono (by decide)) rfl (AA (AB 2) (AA (AB 5) (AA (AB 7) AD)))))
    (AJ (Bt (FV PySem.F.slot_list_append PySem.F.type_list_append D5 (AB 6) (AA (AB 7) AD))))) A7))))
    (AJ (AX (A4 (AA (AB 2) (AA (An Al rfl B.tuple boot_tuple (AA (AB 3) AD)) (AA (An Al rfl B.tuple boot_tuple (AA (AB 6) AD)) AD)))))))))))
theorem Ez:AU ["_law_book_here","_law_state","_law_found","_law_deed_here"] ["_law_book_here"] (AI s_law_states):=⟨rfl,rfl,rfl,by decide+kernel,rfl,by decide+kernel,by decide+kernel⟩
theorem Ku:AZ ["_law_book_here","_law_state","_law_found","_law_deed_here"] (AI s_law_states) ["_law_load"] (ixC [] 1) (Ht s_law_states 0):=⟨rfl,by decide+kernel,by decide+kernel,by decide+kernel,by decide+kernel⟩
theorem K5:(["_law_load"]:List Str).Nodup:=by decide+kernel
theorem Kp:AZ ["_law_book_here","_law_state","_law_found","_law_deed_here"] (AI s_law_states) ["_law_load"] (ixC [] 1) (Ht s_law_states 1):=⟨rfl,by decide+kernel,by decide+kernel,by decide+kernel,by decide+kernel⟩
theorem Lm:(["_law_load"]:List Str).Nodup:=by decide+kernel
theorem CW  (S:St.Src K mg "_law_states" s_law_states)(B:Bts mg)(Bv:GZ P w K mg base)(Dy:KP P w K mg base):HS P w K mg base:=by
 refine Ag (k:=7) S Ez rfl (fun f fd F=>F.binds fun _ _ _ _ _ _ us hl=>match us,hl with| [_],_=>rfl) fun f cdv A outer s H E hr=>?_
 have hu:=AW hr
 exact(AF (Ah 1 (AH Bv (hr.mono (by decide)) rfl (AA (AB 0) AD)) Ez.nd)
    (AF (Ah 2 (Bh (AA (A4 (AA (CA [] 1 ["_law_load"] rfl Ku (Bq (AM AY (AB 1) AE)) (fun s H fp=>⟨(Ab 0 K5),Bm,(An Al rfl B.tuple boot_tuple (AA (AB 0) AD))⟩)) (AA (An Al rfl B.tuple boot_tuple (AA (AM AY (AB 1) AE) AD)) AD))) AD)) Ez.nd)
    (AF (C7 PassesOwn.never rfl (Bq (AM AY (AB 0) AE)) (Ab 3 Ez.nd) (AF (Bt (AH Dy (hr.mono (by decide)) rfl (AA (AM AY (AB 0) AE) (AA (AB 1) (AA (AB 3) AD)))))
    (AJ (Bt (FV PySem.F.slot_list_append PySem.F.type_list_append D5 (AB 2) (AA (A4 (AA (CA [] 1 ["_law_load"] rfl Kp (Bq (AM AY (AB 1) AE)) (fun s H fp=>⟨(Ab 0 Lm),Bm,(An Al rfl B.tuple boot_tuple (AA (AB 0) AD))⟩)) (AA (An Al rfl B.tuple boot_tuple (AA (AM AY (AB 1) AE) AD)) AD))) AD))))))
    (AJ (AX (AB 2))))))
theorem CC:AU ["_law_book_here","_law_partner","_law_loads","_law_holders","_law_hire","_law_found","_law_kind","_law_pieces_here","_law_owners","_law_own","_law_held"] ["_law_book_here","_law_partner"] (AI s_law_dues):=⟨rfl,rfl,rfl,by decide+kernel,rfl,by decide+kernel,by decide+kernel⟩
theorem GH  (S:St.Src K mg "_law_dues" s_law_dues)(Ap:De P w K mg base)(BJ:FA P w K mg base)(Ay:FY P w K mg base)(CW:HS P w K mg base):My P w K mg base:=by
 refine Ag (k:=8) S CC rfl (fun f fd F=>F.binds fun _ _ _ _ _ _ us hl=>match us,hl with| [_,_],_=>rfl) fun f cdv A outer s H E hr=>?_
 have hu:=AW hr
 exact(AF (Ft (AM AY (AH CW (hr.mono (by decide)) rfl (AA (AB 0) AD)) (PX IB AE)) (DV rfl (AO (Ab 2 CC.nd) (AO (Ab 3 CC.nd) BF))))
    (AF (Ah 4 (AM AY (AM AY (AB 0) AE) AE) CC.nd)
    (AF (Ah 5 (Bh AD) CC.nd)
    (AF (C7 PassesOwn.never rfl (Bq (AB 2)) (DV rfl (AO (Ab 6 CC.nd) (AO (Ab 7 CC.nd) (AO (Ab 8 CC.nd) BF)))) (AF (Ah 9 (AH Ay (hr.mono (by decide)) rfl (AA (AM AY (AB 8) (AB 1)) (AA (AH Ap (hr.mono (by decide)) rfl (AA (Ac EF AE (AB 4)) (AA AE AD))) AD))) CC.nd)
    (AF (Ah 10 (AH Ay (hr.mono (by decide)) rfl (AA (AM AY (AB 3) (AB 1)) (AA (AH Ap (hr.mono (by decide)) rfl (AA (AB 4) (AA AE AD))) AD))) CC.nd)
    (AJ (Bt (FV PySem.F.slot_list_append PySem.F.type_list_append D5 (AB 5) (AA (AH Ay (hr.mono (by decide)) rfl (AA (A4 (AA (AB 7) (AA AE AD))) (AA (AH BJ (hr.mono (by decide)) rfl (AA (AB 9) (AA (AB 10) AD))) AD))) AD)))))))
    (AJ (AX (AB 5)))))))
theorem KG:AU ["_law_book_here","_law_partner","_law_found"] ["_law_book_here","_law_partner"] (AI s_law_takes):=⟨rfl,rfl,rfl,by decide+kernel,rfl,by decide+kernel,by decide+kernel⟩
theorem L1:AZ ["_law_book_here","_law_partner","_law_found"] (AI s_law_takes) ["_law_load","_law_due"] (ixC [] 2) (Ht s_law_takes 0):=⟨rfl,by decide+kernel,by decide+kernel,by decide+kernel,by decide+kernel⟩
theorem H0:(["_law_load","_law_due"]:List Str).Nodup:=by decide+kernel
theorem L4:AZ ["_law_book_here","_law_partner","_law_found"] (AI s_law_takes) ["_law_row"] (ixC [] 1) (Ht s_law_takes 1):=⟨rfl,by decide+kernel,by decide+kernel,by decide+kernel,by decide+kernel⟩
theorem L5:(["_law_row"]:List Str).Nodup:=by decide+kernel
theorem Fb  (S:St.Src K mg "_law_takes" s_law_takes)(B:Bts mg)(GH:My P w K mg base):Ln P w K mg base:=by
 refine Ag (k:=9) S KG rfl (fun f fd F=>F.binds fun _ _ _ _ _ _ us hl=>match us,hl with| [_,_],_=>rfl) fun f cdv A outer s H E hr=>?_
 have hu:=AW hr
 exact(AF (CQ [] 2 ["_law_load","_law_due"] rfl KG.nd rfl rfl L1 (OF rfl B.enumerate (AH GH (hr.mono (by decide)) rfl (AA (AB 0) (AA (AB 1) AD)))) (fun s H fp=>⟨(DV rfl (AO (Ab 0 H0) (AO (Ab 1 H0) BF))),Bm,(A4 (AA (AB 0) (AA (Ac Ey (AM AY (AB 1) AE) (AM AY (AB 1) AE)) AD)))⟩))
    (AJ (AX (CA [] 1 ["_law_row"] rfl L4 (Bq (AB 2)) (fun s H fp=>⟨(Ab 0 L5),(G5 (Aq LC (AM AY (AB 0) AE) AE)),(AB 0)⟩)))))
theorem D6:AU ["_law_many","_law_rows","_law_at"] ["_law_many"] (AI s_law_orders):=⟨rfl,rfl,rfl,by decide+kernel,rfl,by decide+kernel,by decide+kernel⟩
theorem Kt:AZ ["_law_many","_law_rows","_law_at"] (AI s_law_orders) ["_law_rows","_law_at","_law_one"] (ixC [1,2] 1) (Ht s_law_orders 0):=⟨rfl,by decide+kernel,by decide+kernel,by decide+kernel,by decide+kernel⟩
theorem K3:(["_law_rows","_law_at","_law_one"]:List Str).Nodup:=by decide+kernel
theorem EX  (S:St.Src K mg "_law_orders" s_law_orders)(B:Bts mg):Jk P w K mg base:=by
 refine Ag (k:=0) S D6 rfl (fun f fd F=>F.binds fun _ _ _ _ _ _ us hl=>match us,hl with| [_],_=>rfl) fun f cdv A outer s H E hr=>?_
 have hu:=AW hr
 exact(AF (Ah 1 (Bh (AA (A4 AD) AD)) D6.nd)
    (AF (Ah 2 AE D6.nd)
    (AF (N1 (VV 70) PassesOwn.never (Aq Jq (AB 2) (A6 CP rfl B.len boot_len (AA (AB 1) AD))) (AF (Ah 1 (Ac Am (AB 1) (CA [1,2] 1 ["_law_rows","_law_at","_law_one"] rfl Kt (EK rfl B.range (AA (AB 0) AD)) (fun s H fp=>⟨(Ab 2 K3),(G5 (Aq Ih (AB 2) (AM AY (AB 0) (AB 1)))),(Ac Am (AM AY (AB 0) (AB 1)) (A4 (AA (AB 2) AD)))⟩))) D6.nd)
    (AJ (Ah 2 (Ac Am (AB 2) AE) D6.nd))))
    (AJ (AX (AB 1))))))
end
section
open PyProof.Rows (boot_isinstance boot_int boot_bool boot_tuple boot_str boot_list boot_abs boot_all boot_any boot_sum boot_max boot_min boot_range boot_enumerate boot_zip boot_sorted boot_set boot_divmod)
variable{P:Program}{w:World}{K:PySem.W.Frag}{mg:Str->Option Value}{base:Heap}
theorem DB:AU ["_law_pieces_here","_law_takes_here","_law_order","_law_left","_law_partner","_law_load","_law_many"] ["_law_pieces_here","_law_takes_here","_law_order"] (AI s_law_left_by):=⟨rfl,rfl,rfl,by decide+kernel,rfl,by decide+kernel,by decide+kernel⟩
theorem Dv  (S:St.Src K mg "_law_left_by" s_law_left_by)(B:Bts mg):Ic P w K mg base:=by
 refine Ag (k:=0) S DB rfl (fun f fd F=>F.binds fun _ _ _ _ _ _ us hl=>match us,hl with| [_,_,_],_=>rfl) fun f cdv A outer s H E hr=>?_
 have hu:=AW hr
 exact(AF (Ah 3 (An HX rfl B.list boot_list (AA (AB 0) AD)) DB.nd)
    (AF (C7 PassesOwn.never rfl (Bq (AB 2)) (Ab 4 DB.nd) (AJ (C7 PassesOwn.never rfl (Bq (AM AY (AB 1) (AB 4))) (DV rfl (AO (Ab 5 DB.nd) (AO (Ab 6 DB.nd) BF))) (AJ (B5 (Ac EF (AM AY (AB 3) (AB 5)) (AB 6)) (AB 3) (AB 5))))))
    (AJ (AX (An Al rfl B.tuple boot_tuple (AA (AB 3) AD))))))
theorem D1:AU ["_law_script","_law_k","_law_pen_here","_law_book_here","_law_takes_here","_law_pieces_here","_law_partner","_law_due","_law_row","_law_order","_law_found"] ["_law_script"] (AI s_p_law):=⟨rfl,rfl,rfl,by decide+kernel,rfl,by decide+kernel,by decide+kernel⟩
theorem Q2:AZ ["_law_script","_law_k","_law_pen_here","_law_book_here","_law_takes_here","_law_pieces_here","_law_partner","_law_due","_law_row","_law_order","_law_found"] (AI s_p_law) ["_law_book_here","_law_partner"] (ixC [3] 1) (Ht s_p_law 0):=⟨rfl,by decide+kernel,by decide+kernel,by decide+kernel,by decide+kernel⟩
theorem Qf:(["_law_book_here","_law_partner"]:List Str).Nodup:=by decide+kernel
theorem QY:AZ ["_law_script","_law_k","_law_pen_here","_law_book_here","_law_takes_here","_law_pieces_here","_law_partner","_law_due","_law_row","_law_order","_law_found"] (AI s_p_law) ["_law_load"] (ixC [] 1) (Ht s_p_law 1):=⟨rfl,by decide+kernel,by decide+kernel,by decide+kernel,by decide+kernel⟩
theorem Qm:(["_law_load"]:List Str).Nodup:=by decide+kernel
theorem Qo:AZ ["_law_script","_law_k","_law_pen_here","_law_book_here","_law_takes_here","_law_pieces_here","_law_partner","_law_due","_law_row","_law_order","_law_found"] (AI s_p_law) ["_law_takes_here","_law_partner"] (ixC [4] 1) (Ht s_p_law 2):=⟨rfl,by decide+kernel,by decide+kernel,by decide+kernel,by decide+kernel⟩
theorem Qn:(["_law_takes_here","_law_partner"]:List Str).Nodup:=by decide+kernel
theorem Qb:AZ ["_law_script","_law_k","_law_pen_here","_law_book_here","_law_takes_here","_law_pieces_here","_law_partner","_law_due","_law_row","_law_order","_law_found"] (AI s_p_law) ["_law_book_here","_law_partner"] (ixC [3] 1) (Ht s_p_law 3):=⟨rfl,by decide+kernel,by decide+kernel,by decide+kernel,by decide+kernel⟩
theorem Qj:(["_law_book_here","_law_partner"]:List Str).Nodup:=by decide+kernel
end
theorem nr{α:Sort _}{a b:α}(h:a=b):a=b:=h
@[simp high] theorem Bp{α β:Type}(a:α)(f:α->Option β):(some a).bind f=f a:=Eq.mp (congrArg (fun z=>z=f a) rfl) (Eq.refl (f a))
@[simp high] theorem eN{α β:Type}(a:α)(f:α->β):(some a).map f=some (f a):=Eq.mp (congrArg (fun z=>z=some (f a)) rfl) (Eq.refl (some (f a)))
section
variable{E:En}{S:Sto}{op:OpN}{f g c:Ev}{d:D}{i:Nat}{w:Wv}{a b e h r':D}{r:List D}{fs:List Ev}
@[simp] theorem iF{o:Option D}{E:En}:at? (o::E) 0=o:=nr rfl
@[simp] theorem iE{o:Option D}{E:En}{i:Nat}:at? (o::E) (i+1)=at? E i:=nr rfl
@[simp] theorem ek:eC d E S=some (d,S):=nr rfl
@[simp] theorem fZ:eV i E S=(at? E i).map fun d=>(d,S):=nr rfl
@[simp] theorem X8:evs [] E S=some ([],S):=nr rfl
@[simp] theorem JB:evs (f::fs) E S=(f E S).bind fun r=>(evs fs E r.2).map fun q=>(r.1::q.1,q.2):=nr rfl
@[simp] theorem du{cf:Bool}:PF cf op fs E S=(evs fs E S).bind fun r=>(op (r.1.map (dr r.2))).bind fun w=>fin cf w r.2:=nr rfl
@[simp] theorem gW{cf:Bool}:fin cf (.val d) S=some (d,S):=by cases cf<;>rfl
@[simp] theorem gh:fin false (.own r) S=some (.lst r,S):=nr rfl
@[simp] theorem gB:fin true (.own r) S=some (.ref S.length,S++[.lst r]):=nr rfl
@[simp] theorem fV:dr S .non=.val .non:=nr rfl
@[simp] theorem gH{b:Bool}:dr S (.bl b)=.val (.bl b):=nr rfl
@[simp] theorem fR{i:Int}:dr S (.int i)=.val (.int i):=nr rfl
@[simp] theorem fU{x:Str}:dr S (.str x)=.val (.str x):=nr rfl
@[simp] theorem gZ{x:String}:dr S (.ty x)=.val (.ty x):=nr rfl
@[simp] theorem eZ:dr S (.tup r)=.val (.tup r):=nr rfl
@[simp] theorem eU:dr S (.lst r)=.val (.lst r):=nr rfl
@[simp] theorem fK{ns:List Int}:dr S (.scr ns)=.val (.scr ns):=nr rfl
theorem A1{n:Nat}(h:S[n]?=some (.lst r)):dr S (.ref n)=.own r:=by
 show(match S[n]? with|some (.lst ds)=>Wv.own ds|_=>.val (.ref n))=_
 rw[h]
theorem AQ{n:Nat}(h:S[n]?=some (.lst r)):DN S n=some r:=by
 unfold DN
 rw[h]
@[simp] theorem eX{f:Op1}:o1 f [w]=f w:=nr rfl
@[simp] theorem eP{f:Op2}{w':Wv}:o2 f [w,w']=f w w':=nr rfl
@[simp] theorem ff:fz (.val d)=d:=nr rfl
noncomputable def cT(g:Ev)(E:En)(r:D×Sto):Option (D×Sto):=match r.1 with| .bl true=>g E r.2| .bl false=>some (.bl false,r.2)|_=>none
noncomputable def orK(g:Ev)(E:En)(r:D×Sto):Option (D×Sto):=match r.1 with| .bl false=>g E r.2| .bl true=>some (.bl true,r.2)|_=>none
noncomputable def eT(r:D×Sto):Option (D×Sto):=match r.1 with| .bl b=>some (.bl (!b),r.2)|_=>none
noncomputable def ifK(f g:Ev)(E:En)(r:D×Sto):Option (D×Sto):=match r.1 with| .bl true=>f E r.2| .bl false=>g E r.2|_=>none
@[simp] theorem eQ:cT g E (.bl true,S)=g E S:=nr rfl
@[simp] theorem fL:cT g E (.bl false,S)=some (.bl false,S):=nr rfl
@[simp] theorem hJ:orK g E (.bl false,S)=g E S:=nr rfl
@[simp] theorem gL:orK g E (.bl true,S)=some (.bl true,S):=nr rfl
@[simp] theorem fM{b:Bool}:eT (.bl b,S)=some (.bl (!b),S):=nr rfl
@[simp] theorem gf:ifK f g E (.bl true,S)=f E S:=nr rfl
@[simp] theorem hZ:ifK f g E (.bl false,S)=g E S:=nr rfl
@[simp] theorem ba:Jv f g E S=(f E S).bind (cT g E):=nr rfl
@[simp] theorem Lc:eOr f g E S=(f E S).bind (orK g E):=nr rfl
@[simp] theorem aV:Ul f E S=(f E S).bind eT:=nr rfl
@[simp] theorem dH:eIf c f g E S=(c E S).bind (ifK f g E):=nr rfl
@[simp] theorem bC:CI fs E S=(evs fs E S).bind fun r=>if r.1.length≤sizeLine then some (.tup r.1,r.2)else none:=nr rfl
@[simp] theorem bE{cf:Bool}:VU cf fs E S=(evs fs E S).bind fun r=>if r.1.length≤sizeLine then fin cf (.own r.1) r.2 else none:=nr rfl
@[simp] theorem Zv{F:Fn}:AK F fs E S=(evs fs E S).bind fun r=>F r.1 r.2:=nr rfl
noncomputable def fC(op:Mo)(fs:List Ev)(E:En)(r:D×Sto):Option (D×Sto):=match r.1 with
 | .ref n=>(DN r.2 n).bind fun _=>(evs fs E r.2).bind fun p=>(DN p.2 n).bind fun ds=>(op p.2 ds p.1).map fun q=>(q.1,p.2.set n (.lst q.2))
 |_=>none
@[simp] theorem cG{op:Mo}{n:Nat}:fC op fs E (.ref n,S)=(DN S n).bind fun _=>(evs fs E S).bind fun p=>(DN p.2 n).bind fun ds=>(op p.2 ds p.1).map fun q=>(q.1,p.2.set n (.lst q.2)):=nr rfl
@[simp] theorem au{op:Mo}:Hz op f fs E S=(f E S).bind (fC op fs E):=nr rfl
@[simp] theorem bG:II S r [d]=if r.length<sizeLine then some (.non,r++[d])else none:=nr rfl
variable{x y:Ex}
noncomputable def ZI(y:Ex)(r:Fl×En×Sto):Option (Fl×En×Sto):=match r.1 with| .nx=>y r.2.1 r.2.2| .ret w=>some (.ret w,r.2)
noncomputable def cw(x y:Ex)(E:En)(r:D×Sto):Option (Fl×En×Sto):=match r.1 with| .bl true=>x E r.2| .bl false=>y E r.2|_=>none
@[simp] theorem Td:ZI y (.nx,E,S)=y E S:=nr rfl
@[simp] theorem bR{w:D}:ZI y (.ret w,E,S)=some (.ret w,E,S):=nr rfl
@[simp] theorem fI:cw x y E (.bl true,S)=x E S:=nr rfl
@[simp] theorem fc:cw x y E (.bl false,S)=y E S:=nr rfl
@[simp] theorem b0:Ae x y E S=(x E S).bind (ZI y):=nr rfl
@[simp] theorem aU:Es E S=some (.nx,E,S):=nr rfl
@[simp] theorem PJ:xIf c x y E S=(c E S).bind (cw x y E):=nr rfl
@[simp] theorem bJ:Bf f E S=(f E S).map fun r=>(.ret r.1,E,r.2):=nr rfl
@[simp] theorem b9:BW i f E S=(f E S).map fun r=>(.nx,E.set i (some r.1),r.2):=nr rfl
@[simp] theorem Yu:B9 f E S=(f E S).map fun r=>(.nx,E,r.2):=nr rfl
noncomputable def fP(d b:D)(E:En)(i:D×Sto):Option (Fl×En×Sto):=match b,i.1 with
 | .ref n,.int j=>(DN i.2 n).bind fun ds=>(ixN ds.length j).map fun m=>(.nx,E,i.2.set n (.lst (ds.set m d)))
 |_,_=>none
@[simp] theorem bz{n:Nat}{j:Int}:fP d (.ref n) E (.int j,S)=(DN S n).bind fun ds=>(ixN ds.length j).map fun m=>(.nx,E,S.set n (.lst (ds.set m d))):=nr rfl
@[simp] theorem aQ{k o:Ev}:KS k f o E S=(k E S).bind fun r=>(f E r.2).bind fun b=>(o E b.2).bind (fP r.1 b.1 E):=nr rfl
@[simp] theorem bx{t:Tf}:OS t f E S=(f E S).bind fun r=>(t r.1 E r.2).map fun E'=>(.nx,E',r.2):=nr rfl
@[simp] theorem aX{i j:Nat}:Qs i j f g E S=(f E S).bind fun r=>(g E r.2).map fun q=>(.nx,(E.set i (some r.1)).set j (some q.1),q.2):=by
  unfold Qs
  rw[JB]
  cases f E S with
  |none=>rfl
  | some r =>
    rw[Bp,Bp,JB]
    cases g E r.2 with
    |none=>rfl
    |some q=>rfl
@[simp] theorem X5:tNm i d E S=some (E.set i (some d)):=nr rfl
@[simp] theorem eF{ts:List Tf}{ds:List D}:tTp ts (.tup ds) E S=tMs ts ds E S:=nr rfl
@[simp] theorem cm{ts:List Tf}{ds:List D}:tTp ts (.lst ds) E S=tMs ts ds E S:=nr rfl
@[simp] theorem cj{ts:List Tf}{n:Nat}:tTp ts (.ref n) E S=(DN S n).bind fun ds=>tMs ts ds E S:=nr rfl
@[simp] theorem dy:tMs [] [] E S=some E:=nr rfl
@[simp] theorem ak{t:Tf}{ts:List Tf}{ds:List D}:tMs (t::ts) (d::ds) E S=(t d E S).bind fun E1=>tMs ts ds E1 S:=nr rfl
@[simp] theorem aC{N:Nat}{ds:List D}:A5 (A9 N x) ds S=(x (ds.map some++List.replicate (N-ds.length) none) S).map fun r=>(flD r.1,r.2.2):=by rw[SJ];rfl
@[simp] theorem fY:flD .nx=.non:=nr rfl
@[simp] theorem cn:flD (.ret d)=d:=nr rfl
@[simp] theorem dc{i j:Int}:C9 (.val (.int i)) (.val (.int j))=some (.val (.int (i+j))):=nr rfl
@[simp] theorem dG{xs ys:List D}:C9 (.val (.tup xs)) (.val (.tup ys))=if xs.length+ys.length≤sizeLine then some (.val (.tup (xs++ys)))else none:=nr rfl
@[simp] theorem eB{xs ys:List D}:C9 (.val (.lst xs)) (.val (.lst ys))=if xs.length+ys.length≤sizeLine then some (.own (xs++ys))else none:=nr rfl
@[simp] theorem cD{i j:Int}:Cn (.val (.int i)) (.val (.int j))=if Dl i j=true then some (.val (.int (i*j)))else none:=nr rfl
@[simp] theorem ay{k:Int}:Cn (.val (.tup r)) (.val (.int k))=if(!r.isEmpty && decide (k≤0) && decide (-(2^63)≤k))=true then some (.val (.tup []))else if(!r.isEmpty && decide (1≤k) && decide (r.length*k.toNat≤sizeLine))=true then some (.val (.tup (List.replicate k.toNat r).flatten))else none:=nr rfl
@[simp] theorem cW:asS (.own r)=some r:=nr rfl
@[simp] theorem dh:asS (.val (.lst r))=some r:=nr rfl
@[simp] theorem dg:asS (.val (.tup r))=some r:=nr rfl
@[simp] theorem dJ{ns:List Int}:asS (.val (.scr ns))=some (ns.map .int):=nr rfl
@[simp] theorem YL{j:Int}:wIx w (.val (.int j))=(asS w).bind fun ds=>(atI ds j).map .val:=nr rfl
theorem C8{α:Type}{xs:List α}{n:Nat}{x:α}(h:xs[n]?=some x):atI xs (n:Int)=some x:=XA h
theorem WS{α:Type}{xs:List α}{i:Int}(h0:0≤i)(h1:i<xs.length):atI xs i=some (xs[i.toNat]'(by omega)):=by
 have:atI xs ((i.toNat:Nat):Int)=some (xs[i.toNat]'(by omega)):=C8 (List.getElem?_eq_getElem (by omega))
 rwa [Int.toNat_of_nonneg h0]at this
@[simp] theorem gT:atI (a::r) 0=some a:=C8 (n:=0) rfl
@[simp] theorem gd:atI (a::b::r) 1=some b:=C8 (n:=1) rfl
@[simp] theorem gv:atI (a::b::e::r) 2=some e:=C8 (n:=2) rfl
@[simp] theorem gC:atI (a::b::e::h::r) 3=some h:=C8 (n:=3) rfl
@[simp] theorem gu{k:D}:atI (a::b::e::h::k::r) 4=some k:=C8 (n:=4) rfl
theorem JM{n k:Nat}(h:k<n):ixN n (k:Int)=some k:=by
 unfold ixN
 simp
 omega
theorem Pp{n:Nat}{i:Int}(h0:0≤i)(h1:i<n):ixN n i=some i.toNat:=by
 have:=JM (n:=n) (k:=i.toNat) (by omega)
 rwa [Int.toNat_of_nonneg h0]at this
@[simp] theorem gk{n:Nat}:ixN (n+1) 0=some 0:=Pp (by decide) (by omega)
@[simp] theorem iA{n:Nat}:ixN (n+2) 1=some 1:=Pp (by decide) (by omega)
@[simp] theorem gX{n:Nat}:ixN (n+3) 2=some 2:=Pp (by decide) (by omega)
@[simp] theorem eR{i j:Int}:deq (.int i) (.int j)=(i==j):=nr rfl
@[simp] theorem dn{i j:Int}:Dj (.int i) (.int j)=true:=nr rfl
@[simp] theorem dS{w':Wv}:wEq w w'=if Dj (fz w) (fz w')=true then some (.val (.bl (deq (fz w) (fz w'))))else none:=nr rfl
@[simp] theorem cY{w':Wv}:wNe w w'=if Dj (fz w) (fz w')=true then some (.val (.bl (!deq (fz w) (fz w'))))else none:=nr rfl
@[simp] theorem cL{i j:Int}:wLt (.val (.int i)) (.val (.int j))=some (.val (.bl (decide (i<j)))):=nr rfl
@[simp] theorem eA{i j:Int}:wLe (.val (.int i)) (.val (.int j))=some (.val (.bl (decide (i≤j)))):=nr rfl
@[simp] theorem eL{i j:Int}:wGt (.val (.int i)) (.val (.int j))=some (.val (.bl (decide (j<i)))):=nr rfl
@[simp] theorem dE{i j:Int}:wGe (.val (.int i)) (.val (.int j))=some (.val (.bl (decide (j≤i)))):=nr rfl
@[simp] theorem ax{i j:Int}:Ly (.val (.int i)) (.val (.int j))=some (.val (.int (i-j))):=nr rfl
@[simp] theorem bh{i:Int}:RV (.val (.int i))=some (.val (.int (-i))):=nr rfl
@[simp] theorem bF{i j:Int}:O4 (.val (.int i)) (.val (.int j))=(if 0<j then some (.val (.int (i % j)))else none):=by
 show Option.map Wv.val (if 0<j then some (D.int (i % j))else none)=_
 split<;>rfl
@[simp] theorem ZO{i j:Int}:KN (.val (.int i)) (.val (.int j))=(if(decide (0<j) && decide (j.natAbs<Er))=true then some (.val (.int (i / j)))else none):=by
 show Option.map Wv.val (if(decide (0<j) && decide (j.natAbs<Er))=true then some (D.int (i / j))else none)=_
 split<;>rfl
@[simp] theorem aq{i j:Int}:aT (.val (.int i)) (.val (.int j))=if(decide (0≤j) && decide (j≤1000) && decide (i.natAbs<2^64))=true then some (.val (.int (i^j.toNat)))else none:=by
 show Option.map Wv.val (if(decide (0≤j) && decide (j≤1000) && decide (i.natAbs<2^64))=true then some (D.int (i^j.toNat))else none)=_
 split<;>rfl
@[simp] theorem bW{i:Int}:Yh (.val (.int i))=some (.val (.int (i.natAbs:Int))):=by
 show some (Wv.val (D.int (if i<0 then-i else i)))=_
 congr 3
 split<;>omega
@[simp] theorem bB:Hh (.own r)=some (.val (.int r.length)):=nr rfl
@[simp] theorem Ux:Hh (.val (.lst r))=some (.val (.int r.length)):=nr rfl
@[simp] theorem cE:Hh (.val (.tup r))=some (.val (.int r.length)):=nr rfl
@[simp] theorem cF{ns:List Int}:Hh (.val (.scr ns))=some (.val (.int ns.length)):=by
 show some (Wv.val (D.int ((ns.map D.int).length:Nat)))=_
 rw[List.length_map]
@[simp] theorem Yg:By w=(asS w).map fun ds=>.val (.tup ds):=nr rfl
@[simp] theorem Yz:NJ w=(asS w).map fun ds=>.own ds:=nr rfl
@[simp] theorem fT{b:Bool}:Xy (.val (.bl b))=some (.val (.int (if b then 1 else 0))):=nr rfl
@[simp] theorem aR{i j:Int}:bM (.val (.int i)) (.val (.int j))=some (.val (.int (if j>i then j else i))):=nr rfl
@[simp] theorem aZ{i j:Int}:Ye (.val (.int i)) (.val (.int j))=some (.val (.int (if j<i then j else i))):=nr rfl
@[simp] theorem aj{T:String}:Yi w (.val (.ty T))=if Pc T=true then(kdW w).map fun k=>.val (.bl (k.isA T))else none:=nr rfl
@[simp] theorem cI:Pc "int"=true:=by decide
@[simp] theorem aw:Pc "bool"=true:=by decide
@[simp] theorem Zi:Pc "tuple"=true:=by decide
@[simp] theorem bH:cB (.val (.lst r))=(bls r).map fun bs=>.val (.bl (bs.all id)):=nr rfl
theorem AV{n:Nat}(h:n≤1000):n≤sizeLine:=Nat.le_trans h (by decide)
@[simp] theorem sz1:(1:Nat)≤sizeLine:=AV (by decide)
@[simp] theorem sz2:(2:Nat)≤sizeLine:=AV (by decide)
@[simp] theorem sz3:(3:Nat)≤sizeLine:=AV (by decide)
@[simp] theorem sz4:(4:Nat)≤sizeLine:=AV (by decide)
@[simp] theorem sz5:(5:Nat)≤sizeLine:=AV (by decide)
@[simp] theorem sz6:(6:Nat)≤sizeLine:=AV (by decide)
@[simp] theorem HF:BU E S=some (.bl true,S):=nr rfl
@[simp] theorem ao{s:Sr}{t:Tf}{b:Ex}:IC s t b E S=(s E S).bind fun r=>JV r.1.2 t b r.1.1 E r.2:=nr rfl
@[simp] theorem Ad:gOk [] S:=fun _ h=>(nomatch h)
theorem Fy{gs:Gd}{t:Tf}{b:Ex}(h:gOk gs S):JV gs t b [] E S=some (.nx,E,S):=by
 unfold JV
 rw[if_pos h]
theorem TK{gs:Gd}{t:Tf}{b:Ex}{ds:List D}(h:gOk gs S):JV gs t b (d::ds) E S=(t d E S).bind fun E1=>(b E1 S).bind fun r=>match r.1 with
  | .nx=>JV gs t b ds r.2.1 r.2.2
  | .ret w=>some (.ret w,r.2):=by
 rw[JV,if_pos h]
 all_goals rfl
theorem Dh{gs:Gd}{t:Tf}{b:Ex}{ds:List D}(h:gOk gs S):JV gs t b (d::ds) E S=(t d E S).bind fun E1=>(b E1 S).bind (ZI (JV gs t b ds)):=by
 rw[TK h]
 rfl
@[simp] theorem cC:FE f E S=(f E S).bind fun r=>(sqD r.2 r.1).map fun p=>(p,r.2):=nr rfl
@[simp] theorem cg:sqD S (.tup r)=some (r,[]):=nr rfl
@[simp] theorem cN:sqD S (.lst r)=some (r,[]):=nr rfl
theorem EE{n:Nat}(h:S[n]?=some (.lst r)):sqD S (.ref n)=some (r,[(n,r)]):=by
 show(DN S n).map (fun ds=>(ds,[(n,ds)]))=_
 rw[AQ h]
 rfl
@[simp] theorem aS:VN f E S=(f E S).bind fun r=>(sqD r.2 r.1).map fun p=>((Md 0 p.1,p.2),r.2):=nr rfl
@[simp] theorem bf:Xl f g E S=(f E S).bind fun r=>(g E r.2).bind fun q=>(sqD q.2 r.1).bind fun a=>(sqD q.2 q.1).map fun b=>((Mw a.1 b.1,a.2++b.2),q.2):=by
  unfold Xl
  rw[JB]
  cases f E S with
  |none=>rfl
  | some r =>
    rw[Bp,Bp,JB]
    cases g E r.2 with
    |none=>rfl
    |some q=>rfl
noncomputable def Hj(j:Int):Bool:=decide (-(2^62)≤j) && decide (j<2^62)
theorem DF{j:Int}(h: -1000000≤j)(g:j≤1000000):Hj j=true:=by
 unfold Hj
 rw[Bool.and_eq_true]
 exact⟨decide_eq_true (by omega),decide_eq_true (by omega)⟩
noncomputable def fG(S:Sto):D->Option ((List D×Gd)×Sto)
 | .int j=>if Hj j=true then some ((JJ 0 j.toNat,[]),S)else none
 |_=>none
@[simp] theorem bK{j:Int}:fG S (.int j)=if Hj j=true then some ((JJ 0 j.toNat,[]),S)else none:=nr rfl
@[simp] theorem bN:KR [f] E S=(f E S).bind fun r=>fG r.2 r.1:=by
  unfold KR
  rw[JB]
  cases f E S with
  |none=>rfl
  | some r =>
    obtain⟨d,S1⟩:=r
    rw[Bp,X8,eN,Bp,Bp]
    cases d<;>rfl
@[simp] theorem Yp{cf:Bool}{cap:List Nat}{m:Nat}{s:Sr}{t:Tf}:Mm cf cap m s t c f E S=(s E S).bind fun r=>(Bx r.1.2 t c f r.1.1 [] (Qg cap m E) r.2).bind fun q=>fin cf (.own q.1) q.2:=nr rfl
@[simp] theorem az{cap:List Nat}{m:Nat}:Qg cap m E=cap.map (at? E)++List.replicate m none:=nr rfl
theorem SW{α:Type}(p:α->Bool):∀xs:List α,bls (xs.map fun x=>.bl (p x))=some (xs.map p)
  | []=>rfl
  | x :: xs => by
    have ih:=SW p xs
    unfold bls at ih⊢
    rw[List.map_cons,List.mapM_cons,ih]
    rfl
@[simp] theorem Qk{i:Int}:Iw (.int i::r)=(Iw r).map fun ns=>i::ns:=by
 unfold Iw
 rw[List.mapM_cons]
 show(do let r1←some i;let rs←List.mapM intD r;pure (r1::rs))=_
 cases List.mapM intD r<;>rfl
theorem FQ:∀(ns:List Int),Iw (ns.map D.int)=some ns
 | []=>rfl
 |n::ns=>by rw[List.map_cons,Qk,FQ ns];rfl
@[simp] theorem aW:UQ (.own r)=(Iw r).map fun ns=>.val (.int ns.sum):=nr rfl
@[simp] theorem bQ:UQ (.val (.lst r))=(Iw r).map fun ns=>.val (.int ns.sum):=nr rfl
@[simp] theorem fS:bw true w (.val .non)=some (.val (.bl (!isN w))):=nr rfl
@[simp] theorem gr{i:Int}{w:Wv}:NP true false [w,.val (.int i)]=wSl (some i) none w:=nr rfl
@[simp] theorem fm{i:Int}{w:Wv}:NP false true [w,.val (.int i)]=wSl none (some i) w:=nr rfl
@[simp] theorem gm{i j:Int}{w:Wv}:NP true true [w,.val (.int i),.val (.int j)]=wSl (some i) (some j) w:=nr rfl
@[simp] theorem eE{lo hi:Option Int}:wSl lo hi (.val (.tup r))=some (.val (.tup (MB r lo hi))):=nr rfl
end
structure Bz(A:List Nat)(S S':Sto):Prop where
 len:S.length≤S'.length
 keep:∀n,n<S.length->n∉A->S'[n]?=S[n]?
theorem Bz.refl{A:List Nat}{S:Sto}:Bz A S S:=⟨Nat.le_refl _,fun _ _ _=>rfl⟩
theorem Bz.trans{A:List Nat}{S S' S2:Sto}(h:Bz A S S')(g:Bz A S' S2):Bz A S S2:=⟨Nat.le_trans h.len g.len,fun n hn ha=>(g.keep n (Nat.lt_of_lt_of_le hn h.len) ha).trans (h.keep n hn ha)⟩
theorem Bz.mono{A B:List Nat}{S S':Sto}(h:Bz A S S')(s:∀n∈A,n∈B):Bz B S S':=⟨h.len,fun n hn hb=>h.keep n hn fun z=>hb (s n z)⟩
theorem Bz.get{A:List Nat}{S S':Sto}(h:Bz A S S'){n:Nat}{c:Cl}(e:S[n]?=some c)(ha:n∉A):S'[n]?=some c:=by
 rw[h.keep n (List.getElem?_eq_some_iff.mp e).1 ha];exact e
theorem Bz.app{A:List Nat}{S T:Sto}:Bz A S (S++T):=⟨by simp,fun n hn _=>List.getElem?_append_left hn⟩
theorem Bz.set{A:List Nat}{S:Sto}{n:Nat}{c:Cl}(h:n∈A):Bz A S (S.set n c):=⟨by simp,fun m hm ha=>List.getElem?_set_ne (fun z=>ha (by rw[←z];exact h))⟩
theorem Bz.new{A:List Nat}{S S' S2:Sto}(h:Bz A S S')(g:Bz (A++B) S' S2)(hb:∀n∈B,S.length≤n):Bz A S S2:=⟨Nat.le_trans h.len g.len,fun n hn ha=>(g.keep n (Nat.lt_of_lt_of_le hn h.len) (fun z=>by
 rcases List.mem_append.mp z with z|z
 ·exact ha z
 ·have:=hb n z;omega)).trans (h.keep n hn ha)⟩
theorem Aa{S:Sto}{n:Nat}{c:Cl}(h:S[n]?=some c):n<S.length:=(List.getElem?_eq_some_iff.mp h).1
section
theorem mulL{i j:Int}(h: -18446744073709551616<i)(g:i<18446744073709551616):Dl i j=true:=by
 unfold Dl
 rw[Bool.or_eq_true]
 exact .inl (decide_eq_true (by omega))
theorem mulR{i j:Int}(h: -18446744073709551616<j)(g:j<18446744073709551616):Dl i j=true:=by
 unfold Dl
 rw[Bool.or_eq_true,Bool.or_eq_true]
 exact .inr (.inl (decide_eq_true (by omega)))
theorem Cf{n k:Nat}(h:n<2^k)(hk:k≤8000):n<Er:=Nat.lt_of_lt_of_le h (Nat.pow_le_pow_right (by decide) hk)
theorem Cr{n:Int}(h0:0<n)(h1:n<1152921504606846976):n.natAbs<Er:=Cf (k:=60) (show n.natAbs<2^60 by omega) (by decide)
variable{S:Sto}
noncomputable def O6(a b:Int):Int:=((Nat.gcd a.natAbs b.natAbs:Nat):Int)
theorem Li{c:Ev}{b:Ex}{k:Nat}{E:En}:Fp c b (k+1) E S=(c E S).bind fun r=>match r.1 with
    | .bl true=>(b E r.2).bind fun p=>match p.1 with
      | .nx=>Fp c b k p.2.1 p.2.2
      | .ret w=>some (.ret w,p.2)
    | .bl false=>some (.nx,E,r.2)
    |_=>none:=rfl
theorem NX{c:Ev}{b:Ex}{k:Nat}{E E2:En}{S1 S2:Sto}(e1:c E S=some (.bl true,S1))(e2:b E S1=some (.nx,E2,S2)):Fp c b (k+1) E S=Fp c b k E2 S2:=by
 rw[Li,e1]
 show(b E S1).bind _=_
 rw[e2]
 rfl
theorem NG{c:Ev}{b:Ex}{k:Nat}{E:En}{S1:Sto}(e1:c E S=some (.bl false,S1)):Fp c b (k+1) E S=some (.nx,E,S1):=by
 rw[Li,e1]
 rfl
theorem Pk:∀(k:Nat) (x y:Nat),y<k->Fp (eOp (o2 wNe) [(eV 1),(eC (.int 0))]) (Qs 0 1 (eV 1) (eOp (o2 O4) [(eV 0),(eV 1)])) k [some (.int x),some (.int y)] S=some (.nx,[some (.int (Nat.gcd x y:Nat)),some (.int 0)],S)
  |0,x,y,h=>absurd h (Nat.not_lt_zero _)
  | k + 1, x, y, h => by
    by_cases hy:y=0
    · subst hy
      rw[NG (S1:=S) (by simp)]
      simp
    · have hy2 : (((y : Nat) : Int) == 0) = false := by simpa using hy
      have ih:=Pk k y (x % y) (by have:=Nat.mod_lt x (Nat.pos_of_ne_zero hy);omega)
      rw[show((x % y:Nat):Int)=(x:Int) % (y:Int) by omega]at ih
      have hy4:0<y:=Nat.pos_of_ne_zero hy
      rw[NX (S1:=S) (S2:=S) (E2:=[some (.int y),some (.int ((x:Int) % (y:Int)))]) (by simp[hy2]) (by simp[hy4]),ih]
      rw[Nat.gcd_comm x y,Nat.gcd_rec y x,Nat.gcd_comm]
theorem Yt(a b:Int):CG [.int a,.int b] S=some (.int (O6 a b),S):=by
 have:=Pk (S:=S) (b.natAbs+2) a.natAbs b.natAbs (by omega)
 simp[CG,Eu,KD,Qz,this,O6]
theorem Kz:∀(k:Nat) (x y:Nat),y<k->Fp (eOp (o2 wGt) [(eV 1),(eC (.int 0))]) (Qs 0 1 (eV 1) (eOp (o2 O4) [(eV 0),(eV 1)])) k [some (.int x),some (.int y)] S=some (.nx,[some (.int (Nat.gcd x y:Nat)),some (.int 0)],S)
  |0,x,y,h=>absurd h (Nat.not_lt_zero _)
  | k + 1, x, y, h => by
    by_cases hy:y=0
    · subst hy
      rw[NG (S1:=S) (by simp)]
      simp
    · have ih := Kz k y (x % y) (by have := Nat.mod_lt x (Nat.pos_of_ne_zero hy); omega)
      rw[show((x % y:Nat):Int)=(x:Int) % (y:Int) by omega]at ih
      have hy4:0<y:=Nat.pos_of_ne_zero hy
      rw[NX (S1:=S) (S2:=S) (E2:=[some (.int y),some (.int ((x:Int) % (y:Int)))]) (by simp[hy4]) (by simp[hy4]),ih]
      rw[Nat.gcd_comm x y,Nat.gcd_rec y x,Nat.gcd_comm]
theorem Rb(a b:Int)(ha:0≤a)(hb:0≤b):Fe [.int a,.int b] S=some (.int (O6 a b),S):=by
 have:=Kz (S:=S) (b.natAbs+2) a.natAbs b.natAbs (by omega)
 have e1:((a.natAbs:Nat):Int)=a:=by omega
 have e2:((b.natAbs:Nat):Int)=b:=by omega
 rw[e1,e2]at this
 simp[Fe,J3,KD,Qz,this,O6]
noncomputable def lowP(t b:Int):Int×Int:=(t / O6 t b,b / O6 t b)
theorem P9{t b:Int}(h:0<b):0<O6 t b:=by
 unfold O6
 have:0<Nat.gcd t.natAbs b.natAbs:=Nat.gcd_pos_of_pos_right _ (by omega)
 omega
theorem TY{t b:Int}(h:0<b):(O6 t b).natAbs≤b.natAbs:=by
 unfold O6
 have:Nat.gcd t.natAbs b.natAbs≤b.natAbs:=Nat.gcd_le_right _ (by omega)
 omega
noncomputable def amD(p:Int×Int):D:=.tup [.int p.1,.int p.2]
theorem Il{t b:Int}(h:0<b)(hb:b.natAbs<Er):C0 [.int t,.int b] S=some (amD (lowP t b),S):=by
 have h1:=P9 (t:=t) h
 have h2:(O6 t b).natAbs<Er:=Nat.lt_of_le_of_lt (TY h) hb
 simp[C0,Ml,Yt,h1,h2,amD,lowP]
theorem VC{t b:Int}:O6 (t.natAbs:Int) b=O6 t b:=by
 unfold O6
 rw[Int.natAbs_natCast]
theorem O8{t b:Int}(h:0<b)(hb:b.natAbs<Er):BC [.int t,.int b] S=some (amD (lowP t b),S):=by
 have h1:=P9 (t:=t) h
 have h2:(O6 t b).natAbs<Er:=Nat.lt_of_le_of_lt (TY h) hb
 have h3:=Rb (S:=S) (t.natAbs:Int) b (by omega) (by omega)
 rw[VC]at h3
 simp[BC,Mv,h3,h1,h2,amD,lowP]
noncomputable def aD(q:Rat):D:=.tup [.int q.num,.int q.den]
def Sz(k:Nat)(q:Rat):Prop:=q.num.natAbs<2^k/\q.den<2^k
theorem Dx(q:Rat):(q.num:Rat) / (q.den:Rat)=q:=by
 rw[←Rat.mkRat_eq_div,Rat.mkRat_self]
theorem IA(q:Rat):(q.den:Rat)≠0:=by
 have:=q.den_nz
 exact_mod_cast this
theorem Le(t:Int)(n:Nat)(h:0<n):((t:Rat) / (n:Rat)).num=t / (Nat.gcd t.natAbs n:Nat)/\((t:Rat) / (n:Rat)).den=n / Nat.gcd t.natAbs n:=by
 have e:(t:Rat) / (n:Rat)=mkRat t n:=by rw[Rat.mkRat_eq_div]
 rw[e,Rat.mkRat_def,dif_neg (by omega),Rat.normalize_eq]
 exact⟨rfl,rfl⟩
theorem IM{t b:Int}(h:0<b):amD (lowP t b)=aD ((t:Rat) / (b:Rat)):=by
 obtain⟨n,rfl⟩:∃n:Nat,b=n:=⟨b.natAbs,by omega⟩
 obtain⟨h1,h2⟩:=Le t n (by omega)
 unfold amD aD lowP O6
 rw[show(((n:Nat):Int):Rat)=((n:Nat):Rat)from rfl,h1,h2]
 simp
theorem K9{t b:Int}{k:Nat}(h:0<b)(ht:t.natAbs<2^k)(hb:b.natAbs<2^k):Sz k ((t:Rat) / (b:Rat)):=by
 obtain⟨n,rfl⟩:∃n:Nat,b=n:=⟨b.natAbs,by omega⟩
 obtain⟨h1,h2⟩:=Le t n (by omega)
 unfold Sz
 rw[show(((n:Nat):Int):Rat)=((n:Nat):Rat)from rfl,h1,h2]
 exact⟨Nat.lt_of_le_of_lt (Int.natAbs_ediv_le_natAbs _ _) ht,Nat.lt_of_le_of_lt (Nat.div_le_self _ _) (by simpa using hb)⟩
theorem CK{a b j k:Nat}(ha:a<2^j)(hb:b<2^k):a*b<2^(j+k):=by
 rw[Nat.pow_add]
 exact Nat.mul_lt_mul'' ha hb
theorem GQ{i j:Int}{k m:Nat}(hi:i.natAbs<2^k)(hj:j.natAbs<2^m)(h:k≤60000)(g:m≤60000):Dl i j=true:=by
 unfold Dl
 rw[Bool.or_eq_true,Bool.or_eq_true,Bool.and_eq_true]
 exact .inr (.inr ⟨decide_eq_true (Nat.lt_of_lt_of_le hi (Nat.pow_le_pow_right (by decide) h)),decide_eq_true (Nat.lt_of_lt_of_le hj (Nat.pow_le_pow_right (by decide) g))⟩)
theorem den_pos(q:Rat):0<(q.den:Int):=by have:=q.den_pos;omega
theorem Xr{x:Int}{n m:Nat}(h:x.natAbs<2^n)(g:n≤m):x.natAbs<2^m:=Nat.lt_of_lt_of_le h (Nat.pow_le_pow_right (by decide) g)
section
variable{p q:Rat}{j k:Nat}
theorem Di(hp:Sz j p)(hq:Sz k q):(p.num*q.den+q.num*p.den).natAbs<2^(j+k+1)/\((p.den:Int)*q.den).natAbs<2^(j+k)/\(p.num*q.den-q.num*p.den).natAbs<2^(j+k+1):=by
 have a1:=CK hp.1 hq.2
 have a2:=CK hq.1 hp.2
 have a3:=CK hp.2 hq.2
 rw[Nat.add_comm k j]at a2
 have e:2^(j+k+1)=2^(j+k)+2^(j+k):=by rw[Nat.pow_succ];omega
 refine⟨?_,?_,?_⟩
 ·refine Nat.lt_of_le_of_lt (Int.natAbs_add_le _ _) ?_
  rw[Int.natAbs_mul,Int.natAbs_mul,Int.natAbs_natCast,Int.natAbs_natCast,e]
  omega
 ·rw[Int.natAbs_mul,Int.natAbs_natCast,Int.natAbs_natCast];exact a3
 ·refine Nat.lt_of_le_of_lt (Int.natAbs_sub_le _ _) ?_
  rw[Int.natAbs_mul,Int.natAbs_mul,Int.natAbs_natCast,Int.natAbs_natCast,e]
  omega
theorem Nx:(((p.num*q.den+q.num*p.den:Int):Rat) / (((p.den:Int)*q.den:Int):Rat))=p+q:=by
 have h1:=Dx p;have h2:=Dx q
 have d1:=IA p;have d2:=IA q
 push_cast
 grind
theorem P6:(((p.num*q.den-q.num*p.den:Int):Rat) / (((p.den:Int)*q.den:Int):Rat))=p-q:=by
 have h1:=Dx p;have h2:=Dx q
 have d1:=IA p;have d2:=IA q
 push_cast
 grind
theorem LN:(((p.num*q.num:Int):Rat) / (((p.den:Int)*q.den:Int):Rat))=p*q:=by
 have h1:=Dx p;have h2:=Dx q
 have d1:=IA p;have d2:=IA q
 push_cast
 grind
theorem WG(hp:Sz j p)(hq:Sz k q):Sz (j+k+1) (p+q):=by
 rw[←Nx]
 have:=Di hp hq
 exact K9 (Int.mul_pos (den_pos _) (den_pos _)) this.1 (Xr this.2.1 (by omega))
theorem Y0(hp:Sz j p)(hq:Sz k q):Sz (j+k+1) (p-q):=by
 rw[←P6]
 have:=Di hp hq
 exact K9 (Int.mul_pos (den_pos _) (den_pos _)) this.2.2 (Xr this.2.1 (by omega))
theorem Jl(hp:Sz j p)(hq:Sz k q):Sz (j+k) (p*q):=by
 rw[←LN]
 have:=Di hp hq
 exact K9 (Int.mul_pos (den_pos _) (den_pos _)) (by rw[Int.natAbs_mul];exact CK hp.1 hq.1) this.2.1
end
section
variable{p q:Rat}{j k:Nat}
theorem Mb(hp:Sz j p)(hq:Sz k q)(hj:j+k≤7990):Dl p.num q.den=true/\Dl q.num p.den=true/\Dl p.den q.den=true/\Dl p.num q.num=true:=by
 refine⟨GQ hp.1 (by simpa using hq.2) (by omega) (by omega),GQ hq.1 (by simpa using hp.2) (by omega) (by omega),GQ (by simpa using hp.2) (by simpa using hq.2) (by omega) (by omega),GQ hp.1 hq.1 (by omega) (by omega)⟩
theorem dW(hp:Sz j p)(hq:Sz k q)(hj:j+k≤7990):Io [(aD p),(aD q)] S=some ((aD (p+q)),S):=by
 obtain⟨m1,m2,m3,m4⟩:=Mb hp hq (by omega)
 have b:=Di hp hq
 have l:=Il (S:=S) (t:=p.num*q.den+q.num*p.den) (b:=p.den*q.den) (Int.mul_pos (den_pos _) (den_pos _)) (Cf b.2.1 (by omega))
 rw[IM (Int.mul_pos (den_pos _) (den_pos _)),Nx]at l
 simp only[aD]at l⊢
 simp[Io,QN,m1,m2,m3,l]
theorem dN(hp:Sz j p)(hq:Sz k q)(hj:j+k≤7990):Ie [(aD p),(aD q)] S=some ((aD (p-q)),S):=by
 obtain⟨m1,m2,m3,m4⟩:=Mb hp hq (by omega)
 have b:=Di hp hq
 have l:=Il (S:=S) (t:=p.num*q.den-q.num*p.den) (b:=p.den*q.den) (Int.mul_pos (den_pos _) (den_pos _)) (Cf b.2.1 (by omega))
 rw[IM (Int.mul_pos (den_pos _) (den_pos _)),P6]at l
 simp only[aD]at l⊢
 simp[Ie,QM,m1,m2,m3,l]
theorem WU(hp:Sz j p)(hq:Sz k q)(hj:j+k≤7990):Ee [(aD p),(aD q)] S=some ((aD (p*q)),S):=by
 obtain⟨m1,m2,m3,m4⟩:=Mb hp hq (by omega)
 have b:=Di hp hq
 have l:=Il (S:=S) (t:=p.num*q.num) (b:=p.den*q.den) (Int.mul_pos (den_pos _) (den_pos _)) (Cf b.2.1 (by omega))
 rw[IM (Int.mul_pos (den_pos _) (den_pos _)),LN]at l
 simp only[aD]at l⊢
 simp[Ee,OT,m3,m4,l]
theorem N8(hp:Sz j p)(hq:Sz k q)(hj:j+k≤7990):Br [(aD p),(aD q)] S=some ((aD (p+q)),S):=by
 obtain⟨m1,m2,m3,m4⟩:=Mb hp hq (by omega)
 have b:=Di hp hq
 have l:=O8 (S:=S) (t:=p.num*q.den+q.num*p.den) (b:=p.den*q.den) (Int.mul_pos (den_pos _) (den_pos _)) (Cf b.2.1 (by omega))
 rw[IM (Int.mul_pos (den_pos _) (den_pos _)),Nx]at l
 simp only[aD]at l⊢
 simp[Br,Mq,m1,m2,m3,l]
theorem Ga(hp:Sz j p)(hq:Sz k q)(hj:j+k≤7990):Ak [(aD p),(aD q)] S=some ((aD (p*q)),S):=by
 obtain⟨m1,m2,m3,m4⟩:=Mb hp hq (by omega)
 have b:=Di hp hq
 have l:=O8 (S:=S) (t:=p.num*q.num) (b:=p.den*q.den) (Int.mul_pos (den_pos _) (den_pos _)) (Cf b.2.1 (by omega))
 rw[IM (Int.mul_pos (den_pos _) (den_pos _)),LN]at l
 simp only[aD]at l⊢
 simp[Ak,LR,m3,m4,l]
theorem aE:aD (-q)=.tup [.int (0-q.num),.int q.den]:=by
 unfold aD
 rw[show(-q).num=0-q.num by simp,show(-q).den=q.den by simp]
theorem ZW(hq:Sz k q):Sz k (-q):=by
 unfold Sz
 rw[show(-q).num= -q.num by simp,show(-q).den=q.den by simp,Int.natAbs_neg]
 exact hq
theorem WO(hp:Sz j p)(hq:Sz k q)(hj:j+k≤7990):Dd [(aD p),(aD q)] S=some ((aD (p-q)),S):=by
 have l:=N8 (S:=S) hp (ZW hq) hj
 rw[aE]at l
 rw[Rat.sub_eq_add_neg]
 simp only[aD]at l⊢
 simp at l
 simp[Dd,MN,l]
end
theorem TX{t b:Int}(h:0<b)(hb:b.natAbs<Er):C0 [(.int t),(.int b)] S=some ((aD (t / b)),S):=by
 rw[Il h hb,IM h]
theorem Qe{t b:Int}(h:0<b)(hb:b.natAbs<Er):BC [(.int t),(.int b)] S=some ((aD (t / b)),S):=by
 rw[O8 h hb,IM h]
theorem He{a b:Int}{k:Nat}(ha:a.natAbs<2^k)(hb:b.natAbs<2^k):(a+b).natAbs<2^(k+1):=by
 have e:2^(k+1)=2^k+2^k:=by rw[Nat.pow_succ];omega
 have:=Int.natAbs_add_le a b
 omega
theorem Iz{a b:Int}{j k:Nat}(ha:a.natAbs<2^j)(hb:b.natAbs<2^k):(a*b).natAbs<2^(j+k):=by
 rw[Int.natAbs_mul];exact CK ha hb
theorem R8{p q:Rat}{w m:Int}(h:0<w+m):((p.num*q.den*w+q.num*p.den*m:Int):Rat) / (((p.den:Int)*q.den*(w+m):Int):Rat)=(p*w+q*m) / (w+m):=by
 have h1:=Dx p;have h2:=Dx q
 have d1:=IA p;have d2:=IA q
 have d3:((w:Rat)+(m:Rat))≠0:=by
  intro e
  have:((w+m:Int):Rat)=0:=by push_cast;exact e
  have:=Rat.intCast_eq_zero_iff.mp this
  omega
 push_cast
 grind
section
variable{p q:Rat}{w m:Int}{j k n:Nat}
theorem Vg(hp:Sz j p)(hq:Sz k q)(hw:w.natAbs<2^n)(hm:m.natAbs<2^n):(p.num*q.den*w+q.num*p.den*m).natAbs<2^(j+k+n+1)/\((p.den:Int)*q.den*(w+m)).natAbs<2^(j+k+(n+1)):=by
 have d1:((p.den:Int)).natAbs<2^j:=by simpa using hp.2
 have d2:((q.den:Int)).natAbs<2^k:=by simpa using hq.2
 refine⟨He (Iz (Iz hp.1 d2) hw) ?_,Iz (Iz d1 d2) (He hw hm)⟩
 have:=Iz (Iz hq.1 d1) hm
 rwa [Nat.add_comm k j]at this
theorem Y3(hp:Sz j p)(hq:Sz k q)(hw:w.natAbs<2^n)(hm:m.natAbs<2^n)(h:0<w+m)(hj:j+k+n+1≤7990):
  G7 [(aD p),(.int w),(aD q),(.int m)] S=some ((aD ((p*w+q*m) / (w+m))),S):=by
 obtain⟨m1,m2,m3,m4⟩:=Mb hp hq (by omega)
 have d1:((p.den:Int)).natAbs<2^j:=by simpa using hp.2
 have d2:((q.den:Int)).natAbs<2^k:=by simpa using hq.2
 have b:=Vg hp hq hw hm
 have m5:Dl (p.num*q.den) w=true:=GQ (Iz hp.1 d2) hw (by omega) (by omega)
 have m6:Dl (q.num*p.den) m=true:=GQ (Iz hq.1 d1) hm (by omega) (by omega)
 have m7:Dl ((p.den:Int)*q.den) (w+m)=true:=GQ (Iz d1 d2) (He hw hm) (by omega) (by omega)
 have l:=TX (S:=S) (t:=p.num*q.den*w+q.num*p.den*m) (b:=p.den*q.den*(w+m)) (Int.mul_pos (Int.mul_pos (den_pos _) (den_pos _)) h) (Cf b.2 (by omega))
 rw[R8 h]at l
 simp only[aD]at l⊢
 simp[G7,Og,m1,m2,m3,m5,m6,m7,l]
end
end
section
variable{S:Sto}{p:Nat}
theorem WZ{r:List D}(h:p<S.length):dr (S.set p (.lst r)) (.ref p)=.own r:=A1 (List.getElem?_set_self h)
def Pen(ds:List D):Prop:=∃a b c d:Int,ds=[.int a,.int b,.int c,.int d]/\0≤d/\d<1000000007
def Dk(p:Nat)(S:Sto):Prop:=∃ds,S[p]?=some (.lst ds)/\Pen ds
structure Pn(p:Nat)(S S':Sto):Prop where
 same:Bz [p] S S'
 pen:Dk p S'
theorem Pn.trans{S S' S2:Sto}(h:Pn p S S')(g:Pn p S' S2):Pn p S S2:=⟨h.same.trans g.same,g.pen⟩
theorem Pn.get{S S':Sto}(h:Pn p S S'){n:Nat}{c:Cl}(e:S[n]?=some c)(ha:n≠p):S'[n]?=some c:=h.same.get e (by simpa using ha)
theorem Pn.refl(h:Dk p S):Pn p S S:=⟨.refl,h⟩
theorem Dk.lt(h:Dk p S):p<S.length:=by obtain⟨ds,e,_⟩:=h;exact Aa e
theorem Dk.app(h:Dk p S)(T:Sto):Dk p (S++T):=by obtain⟨ds,e,hp⟩:=h;exact⟨ds,by rw[List.getElem?_append_left (Aa e)];exact e,hp⟩
theorem Ax(h:Dk p S){n:Int}(h0:0<n)(h1:n<1152921504606846976):∃r S',AL [.ref p,.int n] S=some (.int r,S')/\0≤r/\r<n/\Pn p S S':=by
 obtain⟨ds,hp,a,b,c,d,rfl,hd0,hd1⟩:=h
 have hl:=Aa hp
 have hs:=Cr h0 h1
 have hr:=A1 hp
 have hc:=AQ hp
 by_cases hb:b=1/\0<a
 ·obtain⟨rfl,ha⟩:=hb
  refine⟨a % n,S.set p (.lst [.int (a / n),.int 1,.int c,.int d]),?_,Int.emod_nonneg _ (by omega),Int.emod_lt_of_pos _ h0,.set (by simp),_,List.getElem?_set_self hl,_,_,_,_,rfl,hd0,hd1⟩
  simp[AL,HZ,ha,h0,hs,hr,hc]
 ·have m1:Dl (d+17) (69621+2*(c+1))=true:=mulL (by omega) (by omega)
  have m2:Dl 2 (c+1)=true:=mulL (by decide) (by decide)
  generalize ht:(d+17)*(69621+2*(c+1)) % 2147483647=t at*
  have t0:0≤t:=by rw[←ht];exact Int.emod_nonneg _ (by decide)
  have t1:t<2147483647:=by rw[←ht];exact Int.emod_lt_of_pos _ (by decide)
  have m3:Dl t t=true:=mulL (by omega) (by omega)
  have m4:Dl 40503 (c+1)=true:=mulL (by decide) (by decide)
  generalize hu:(t*t+40503*(c+1)+5) % 2147483629=u at*
  have u0:0≤u:=by rw[←hu];exact Int.emod_nonneg _ (by decide)
  have u1:u<2147483629:=by rw[←hu];exact Int.emod_lt_of_pos _ (by decide)
  have m5:Dl u 48271=true:=mulL (by omega) (by omega)
  have d32:(32:Int).natAbs<Er:=Cr (by decide) (by decide)
  have d32':(32:Nat)<Er:=d32
  refine⟨u*48271 % 2147483647 / 32 % n,S.set p (.lst [.int a,.int b,.int (c+1),.int d]),?_,Int.emod_nonneg _ (by omega),Int.emod_lt_of_pos _ h0,.set (by simp),_,List.getElem?_set_self hl,_,_,_,_,rfl,hd0,hd1⟩
  by_cases hb1:b=1
  ·subst hb1
   have ha:¬0<a:=fun z=>hb ⟨rfl,z⟩
   simp[AL,HZ,ha,h0,hs,hr,hc,WZ,hl,m1,m2,m3,m4,m5,ht,hu,d32']
  ·have hb2:(b==1)=false:=by simpa using hb1
   simp[AL,HZ,hb2,h0,hs,hr,hc,WZ,hl,m1,m2,m3,m4,m5,ht,hu,d32']
theorem Zb(c:Int):∃p S',HP [.int c] S=some (.ref p,S')/\Dk p S'/\Bz [] S S'/\S.length≤p:=by
 refine⟨S.length,S++[.lst [.int c,.int (if(10:Int)^18≤c then 1 else 0),.int 0,.int (c % 1000000007)]],?_,⟨_,List.getElem?_concat_length,_,_,_,_,rfl,Int.emod_nonneg _ (by decide),Int.emod_lt_of_pos _ (by decide)⟩,.app,Nat.le_refl _⟩
 simp[HP,Oc]
theorem D4{gs:Gd}{t:Tf}{c f:Ev}{acc:List D}{E:En}(h:gOk gs S):Bx gs t c f [] acc E S=some (acc,S):=by
 unfold Bx
 rw[if_pos h]
theorem MZ{gs:Gd}{t:Tf}{c f:Ev}{d:D}{ds acc:List D}{E:En}(h:gOk gs S)(hz:acc.length<sizeLine):Bx gs t c f (d::ds) acc E S=(t d E S).bind fun E1=>(c E1 S).bind fun r=>match r.1 with
   | .bl true=>(f E1 r.2).bind fun p=>Bx gs t c f ds (acc++[p.1]) E1 p.2
   | .bl false=>Bx gs t c f ds acc E1 r.2
   |_=>none:=by
 rw[Bx,if_pos h,if_pos hz]
 all_goals rfl
theorem GW{gs:Gd}{t:Tf}{c f:Ev}{d:D}{ds acc:List D}{E E1:En}{S1:Sto}(h:gOk gs S)(hz:acc.length<sizeLine)(e1:t d E S=some E1)(e2:c E1 S=some (.bl true,S1)):Bx gs t c f (d::ds) acc E S=(f E1 S1).bind fun p=>Bx gs t c f ds (acc++[p.1]) E1 p.2:=by
 rw[MZ h hz,e1]
 show(c E1 S).bind _=_
 rw[e2]
 rfl
theorem IE{gs:Gd}{t:Tf}{c f:Ev}{d:D}{ds acc:List D}{E E1:En}{S1:Sto}(h:gOk gs S)(hz:acc.length<sizeLine)(e1:t d E S=some E1)(e2:c E1 S=some (.bl false,S1)):Bx gs t c f (d::ds) acc E S=Bx gs t c f ds acc E1 S1:=by
 rw[MZ h hz,e1]
 show(c E1 S).bind _=_
 rw[e2]
 rfl
theorem NC{gs:Gd}{t:Tf}{f:Ev}{C:En}{m:Nat}{I:Sto->Prop}{R:D->D->Prop}(hg:∀S,I S->gOk gs S):∀{ds acc:List D} {os:En} {S:Sto},os.length=m->I S->acc.length+ds.length≤sizeLine->
    (∀d∈ds,∀os S,os.length=m->I S->∃us y S',us.length=m/\t d (C++os) S=some (C++us)/\f (C++us) S=some (y,S')/\I S'/\R d y)->
    ∃ys S',Bx gs t BU f ds acc (C++os) S=some (acc++ys,S')/\I S'/\ys.length=ds.length/\Paired R ds ys
  | [],acc,os,S,ho,hI,hz,h=>⟨[],S,by rw[D4 (hg S hI)];simp,hI,rfl,.nil⟩
  | d :: ds, acc, os, S, ho, hI, hz, h => by
    obtain⟨us,y,S1,hu,e1,e2,I1,r1⟩:=h d List.mem_cons_self os S ho hI
    obtain⟨ys,S2,e3,I2,l2,r2⟩:=NC hg (ds:=ds) (acc:=acc++[y]) (os:=us) (S:=S1) hu I1 (by simp at hz ⊢; omega) fun d' hd=>h d' (List.mem_cons_of_mem _ hd)
    refine⟨y::ys,S2,?_,I2,by simp[l2],.cons r1 r2⟩
    rw[GW (hg S hI) (by simp at hz;omega) e1 HF,e2,Bp,e3]
    simp
theorem comp_map{gs:Gd}{t:Tf}{f:Ev}{C:En}{m:Nat}{g:D->D}{S:Sto}(hg:gOk gs S):∀{ds acc:List D} {os:En},os.length=m->acc.length+ds.length≤sizeLine->
    (∀d∈ds,∀os,os.length=m->∃us,us.length=m/\t d (C++os) S=some (C++us)/\f (C++us) S=some (g d,S))->
    Bx gs t BU f ds acc (C++os) S=some (acc++ds.map g,S)
  | [],acc,os,ho,hz,h=>by rw[D4 hg];simp
  | d :: ds, acc, os, ho, hz, h => by
    obtain⟨us,hu,e1,e2⟩:=h d List.mem_cons_self os ho
    rw[GW hg (by simp at hz;omega) e1 HF,e2,Bp]
    rw[comp_map hg hu (by simp at hz ⊢; omega) fun d' hd=>h d' (List.mem_cons_of_mem _ hd)]
    simp
theorem EL{gs:Gd}{t:Tf}{b:Ex}{I:List D->En->Sto->Prop}(hg:∀ds E S,I ds E S->gOk gs S):∀{ds:List D} {E:En} {S:Sto},I ds E S->
    (∀d ds E S,I (d::ds) E S->∃E1 E2 S2,t d E S=some E1/\b E1 S=some (.nx,E2,S2)/\I ds E2 S2)->
    ∃E' S',JV gs t b ds E S=some (.nx,E',S')/\I [] E' S'
  | [],E,S,hI,h=>⟨E,S,Fy (hg _ _ _ hI),hI⟩
  | d :: ds, E, S, hI, h => by
    obtain⟨E1,E2,S2,e1,e2,I2⟩:=h d ds E S hI
    obtain⟨E',S',e3,I3⟩:=EL hg I2 h
    exact⟨E',S',by rw[Dh (hg _ _ _ hI),e1];simp[e2,e3],I3⟩
theorem pick{xs:List D}{r:Int}(h0:0≤r)(h1:r<xs.length):∃x,atI xs r=some x/\x∈xs:=⟨_,WS h0 h1,List.getElem_mem _⟩
theorem JZ{α β:Type}{P:β->Prop}:∀{xs:List α} {ys:List β},Paired (fun _ y=>P y) xs ys->∀y∈ys,P y
  |_,_,.nil,y,h=>by cases h
  | _, _, .cons r t, y, h => by
    rcases List.mem_cons.mp h with h|h
    ·rw[h];exact r
    ·exact JZ t y h
theorem Fi{lo:Int}{n:Nat}:(JJ lo n).length=n:=by simp[JJ]
end
def Ok(G B:Nat)(r:Rat):Prop:=∃z:Nat,r*(G:Rat)=(z:Rat)/\z≤B
theorem Mj{n:Nat}(h:0<n):(n:Rat)≠0:=by
 have:n≠0:=by omega
 exact_mod_cast this
theorem Ok.sz{G B k:Nat}{r:Rat}(h:Ok G B r)(hG:0<G)(g:G<2^k)(b:B<2^k):Sz k r:=by
 obtain⟨z,e,hz⟩:=h
 have e2:r=((z:Int):Rat) / ((G:Int):Rat):=by
  have:=Mj hG
  rw[show(((z:Nat):Int):Rat)=(z:Rat)from rfl,show(((G:Nat):Int):Rat)=(G:Rat)from rfl,←e]
  grind
 rw[e2]
 exact K9 (by omega) (by simpa using Nat.lt_of_le_of_lt hz b) (by simpa using g)
theorem Ok.up{G B t B':Nat}{r:Rat}(h:Ok G B r)(hB:B*t≤B'):Ok (G*t) B' r:=by
 obtain⟨z,e,hz⟩:=h
 refine⟨z*t,?_,Nat.le_trans (Nat.mul_le_mul_right t hz) hB⟩
 push_cast
 rw[←e]
 grind
theorem Ok.zero{G B:Nat}:Ok G B 0:=⟨0,by simp,Nat.zero_le _⟩
theorem Ok.one{G B:Nat}(h:G≤B):Ok G B 1:=⟨G,by simp,h⟩
theorem Ok.mix{G B a b t:Nat}{r o:Rat}(hr:Ok G B r)(ho:Ok G B o)(ht:a+b=t)(h0:0<t):Ok (G*t) (B*t) ((r*(a:Rat)+o*(b:Rat)) / (t:Rat)):=by
 obtain⟨z,e1,h1⟩:=hr
 obtain⟨y,e2,h2⟩:=ho
 refine⟨z*a+y*b,?_,?_⟩
 ·have:=Mj h0
  push_cast
  rw[←e1,←e2]
  grind
 ·rw[←ht,Nat.mul_add]
  exact Nat.add_le_add (Nat.mul_le_mul_right a h1) (Nat.mul_le_mul_right b h2)
structure Tr where
 p:Nat
 k:Nat
 b:Nat
 ho:List Rat
 h:Int
 l:Int
structure Ld where
 k:Nat
 n:Int
 ow:List Rat
structure Stt where
 loads:List Ld
 hold:List Rat
 nums:List Int
inductive Af where
 |bring (p k:Nat) (n:Int)
 |pool (a b:Nat)
 |swap (l:Nat) (g:Int) (k:Nat) (n:Int)
 |trade (t:Int) (l:Nat) (g:Int) (k:Nat) (n:Int)
 |spoil (l:Nat) (n:Int)
 |thr (l:Nat) (n:Int) (ws:List Int)
 |sell (p q:Nat) (s:Rat)
noncomputable def shD(rs:List Rat):D:=.tup (rs.map aD)
noncomputable def Tr.d(t:Tr):D:=.tup [.int t.p,.int t.k,.int t.b,shD t.ho,.int t.h,.int t.l]
noncomputable def Ld.d(l:Ld):D:=.tup [.int l.k,.int l.n,shD l.ow]
noncomputable def Af.d:Af->D
 | .bring p k n=>.tup [.str "bring",.int p,.int k,.int n]
 | .pool a b=>.tup [.str "pool",.int a,.int b]
 | .swap l g k n=>.tup [.str "swap",.int l,.int g,.int k,.int n]
 | .trade t l g k n=>.tup [.str "trade",.int t,.int l,.int g,.int k,.int n]
 | .spoil l n=>.tup [.str "spoil",.int l,.int n]
 | .thr l n ws=>.tup [.str "throw",.int l,.int n,.tup (ws.map .int)]
 | .sell p q s=>.tup [.str "sell",.int p,.int q,aD s]
noncomputable def Gu(x:Rat)(os ss:List Rat):List Rat:=List.zipWith (fun s o=>s*(1-x)+o*x) ss os
noncomputable def GK(p q:Nat)(s:Rat)(ss:List Rat):List Rat:=(ss.set p (ss.getD p 0-ss.getD p 0*s)).set q (ss.getD q 0+ss.getD p 0*s)
noncomputable def Ca(n m:Int)(ss os:List Rat):List Rat:=List.zipWith (fun s o=>(s*n+o*m) / (n+m:Int)) ss os
noncomputable def D9(t:Tr)(ls:List Ld)(ws:List Int):Int:=(ls.map fun l=>l.n*ws.getD l.k 0).sum+t.b*ws.getD t.k 0
noncomputable def IK(t:Tr)(ls:List Ld)(l:Nat)(n:Int)(ws:List Int):Rat:=((n*ws.getD ((ls[l]?.map (·.k)).getD 0) 0:Int):Rat) / (D9 t ls ws:Rat)
noncomputable def AS(ls:List Ld)(l:Nat):Ld:=ls.getD l ⟨0,0,[]⟩
noncomputable def less(ls:List Ld)(l:Nat)(n:Int):List Ld:=ls.set l {AS ls l with n:=(AS ls l).n-n}
noncomputable def Ry(p i:Nat):List Rat:=(List.range p).map fun j=>if j=i then 1 else 0
noncomputable def step(t:Tr)(s:Stt):Af->Stt
 | .bring p k n=>{s with loads:=s.loads++[⟨k,n,Ry t.p p⟩]}
 | .pool a b=>{s with loads:=less (less s.loads a (AS s.loads a).n) b (AS s.loads b).n++[⟨(AS s.loads a).k,(AS s.loads a).n+(AS s.loads b).n,Ca (AS s.loads a).n (AS s.loads b).n (AS s.loads a).ow (AS s.loads b).ow⟩]}
 | .swap l g k n=>{s with loads:=less s.loads l g++[⟨k,n,(AS s.loads l).ow⟩]}
 | .trade u l g k n=>{s with loads:=less s.loads l g++[⟨k,n,(AS s.loads l).ow⟩],nums:=s.nums++[u]}
 | .spoil l n=>{s with loads:=less s.loads l n}
 | .thr l n ws=>{s with loads:=(less s.loads l n).map fun x=>{x with ow:=Gu (IK t s.loads l n ws) (AS s.loads l).ow x.ow},hold:=Gu (IK t s.loads l n ws) (AS s.loads l).ow s.hold}
 | .sell p q x=>{s with loads:=s.loads.map fun y=>{y with ow:=GK p q x y.ow},hold:=GK p q x s.hold}
def JK(t:Tr):Prop:=1≤t.p/\t.p≤4/\1≤t.k/\t.k≤5/\1≤t.b/\t.b≤20
def Can(t:Tr)(s:Stt):Af->Prop
 | .bring p k n=>p<t.p/\k<t.k/\1≤n/\n<2^131
 | .pool a b=>a≠b/\a<s.loads.length/\b<s.loads.length/\0<(AS s.loads a).n/\0<(AS s.loads b).n/\(AS s.loads a).k=(AS s.loads b).k
 | .swap l g k n=>l<s.loads.length/\1≤g/\g≤(AS s.loads l).n/\k<t.k/\k≠(AS s.loads l).k/\1≤n/\n<2^131
 | .trade u l g k n=>l<s.loads.length/\1≤g/\g≤(AS s.loads l).n/\k<t.k/\k≠(AS s.loads l).k/\1≤n/\n<2^131/\u∉s.nums/\0≤u/\u≤9
 | .spoil l n=>l<s.loads.length/\1≤n/\n≤(AS s.loads l).n
 | .thr l n ws=>l<s.loads.length/\1≤n/\n≤(AS s.loads l).n/\ws.length=t.k+1/\∀w∈ws,1≤w/\w≤99
 | .sell p q x=>p≠q/\p<t.p/\q<t.p/\0<x.num/\x.num≤x.den/\x.den≤12
structure Fz(t:Tr)(k:Nat)(s:Stt):Prop where
 len:s.loads.length≤4+k
 kind:∀l∈s.loads,l.k<t.k
 pcs:∀l∈s.loads,0≤l.n/\l.n<2^(131+k)
 own:∀l∈s.loads,l.ow.length=t.p
 hold:s.hold.length=t.p
 nm:s.nums.length≤k
 gb:∃G B:Nat,0<G/\G≤B/\B<2^(30+170*k)/\(∀l∈s.loads,∀r∈l.ow,Ok G B r)/\∀r∈s.hold,Ok G B r
theorem Fz.sz{t:Tr}{k:Nat}{s:Stt}(h:Fz t k s):(∀l∈s.loads,∀r∈l.ow,Sz (30+170*k) r)/\∀r∈s.hold,Sz (30+170*k) r:=by
 obtain⟨G,B,g0,gb,b,h1,h2⟩:=h.gb
 exact⟨fun l hl r hr=>(h1 l hl r hr).sz g0 (Nat.lt_of_le_of_lt gb b) b,fun r hr=>(h2 r hr).sz g0 (Nat.lt_of_le_of_lt gb b) b⟩
theorem Av{ls:List Ld}{l:Nat}(h:l<ls.length):AS ls l∈ls:=by
 unfold AS
 rw[List.getD_eq_getElem?_getD,List.getElem?_eq_getElem h]
 exact List.getElem_mem h
theorem EO{ls:List Ld}{l:Nat}(h:l<ls.length):ls[l]?=some (AS ls l):=by
 unfold AS
 rw[List.getD_eq_getElem?_getD,List.getElem?_eq_getElem h]
 rfl
theorem NL{ls:List Ld}{l:Nat}{n:Int}{x:Ld}(h:x∈less ls l n)(hl:l<ls.length):x∈ls∨x={AS ls l with n:=(AS ls l).n-n}:=by
 unfold less at h
 rcases List.mem_or_eq_of_mem_set h with h|h
 ·exact .inl h
 ·exact .inr h
theorem Dr{ls:List Ld}{l:Nat}{n:Int}:(less ls l n).length=ls.length:=by simp[less]
section
variable{S:Sto}{p:Nat}
theorem Pg{P:Int->Prop}:∀{ys:List D},(∀y∈ys,∃i:Int,y=.int i/\P i)->∃ns:List Int,ys=ns.map D.int/\∀n∈ns,P n
  | [],_=>⟨[],rfl,fun n h=>by cases h⟩
  | y :: ys, h => by
    obtain⟨i,rfl,hi⟩:=h y List.mem_cons_self
    obtain⟨ns,rfl,hn⟩:=Pg (P:=P) (ys:=ys) fun z hz=>h z (List.mem_cons_of_mem _ hz)
    exact⟨i::ns,rfl,fun n hn'=>by
      rcases List.mem_cons.mp hn' with e|e
      ·rw[e];exact hi
      ·exact hn n e⟩
theorem OJ{ns:List Int}(h:∀n∈ns,0≤n/\n≤8):0≤ns.sum/\ns.sum≤8*ns.length/\∀n∈ns,n≤ns.sum:=by
  induction ns with
  |nil=>simp
  | cons a l ih =>
    have h1:=h a List.mem_cons_self
    obtain⟨i1,i2,i3⟩:=ih fun n hn=>h n (List.mem_cons_of_mem _ hn)
    rw[List.sum_cons,List.length_cons]
    refine⟨by omega,by push_cast;omega,fun n hn=>?_⟩
    rcases List.mem_cons.mp hn with e|e
    ·omega
    ·have:=i3 n e;omega
theorem Q0(h:Dk p S){n:Nat}(hn:n≤20):∃(ns:List Int) (S':Sto),Bx [] (tNm 1) BU (eOp (o2 wIx) [(JI [(eC (.int 0)),(eC (.int 1)),(AK AL [(eV 0),(eC (.int 4))]),(AK AL [(eV 0),(eC (.int 9))])]),(AK AL [(eV 0),(eC (.int 4))])]) (JJ 0 n) [] [some (.ref p),none] S=some (ns.map D.int,S')/\Pn p S S'/\ns.length=n/\∀i∈ns,0≤i/\i≤8:=by
 obtain⟨ys,S',e,hI,l,r⟩:=NC (gs:=[]) (t:=tNm 1) (f:=eOp (o2 wIx) [(JI [(eC (.int 0)),(eC (.int 1)),(AK AL [(eV 0),(eC (.int 4))]),(AK AL [(eV 0),(eC (.int 9))])]),(AK AL [(eV 0),(eC (.int 4))])]) (C:=[some (.ref p)]) (m:=1) (I:=Pn p S) (R:=fun _ y=>∃i:Int,y=.int i/\0≤i/\i≤8)
  (fun _ _=>Ad) (ds:=JJ 0 n) (acc:=[]) (os:=[none]) rfl (Pn.refl h) (by rw[Fi];simp;exact AV (by omega)) fun d _ os S0 ho I0=>by
   obtain⟨o,rfl⟩:∃o,os=[o]:=by
    match os,ho with
    | [o],_=>exact⟨o,rfl⟩
   obtain⟨r1,S1,e1,a1,b1,p1⟩:=Ax I0.pen (n:=4) (by decide) (by decide)
   obtain⟨r2,S2,e2,a2,b2,p2⟩:=Ax p1.pen (n:=9) (by decide) (by decide)
   obtain⟨r3,S3,e3,a3,b3,p3⟩:=Ax p2.pen (n:=4) (by decide) (by decide)
   obtain⟨x,ex,hx⟩:=pick (xs:=[.int 0,.int 1,.int r1,.int r2]) (r:=r3) a3 (by simpa using b3)
   refine⟨[some d],x,S3,rfl,by simp,by simp[e1,e2,e3,ex],((I0.trans p1).trans p2).trans p3,?_⟩
   simp only[List.mem_cons,List.not_mem_nil,or_false]at hx
   rcases hx with rfl|rfl|rfl|rfl
   ·exact⟨0,rfl,by decide,by decide⟩
   ·exact⟨1,rfl,by decide,by decide⟩
   ·exact⟨r1,rfl,by omega,by omega⟩
   ·exact⟨r2,rfl,by omega,by omega⟩
 obtain⟨ns,rfl,hns⟩:=Pg (JZ r)
 exact⟨ns,S',by simpa using e,hI,by simpa[Fi]using l,hns⟩
noncomputable def Hs(ns:List Int):List Rat:=ns.map fun(n:Int)=>(n:Rat) / (ns.sum:Rat)
theorem LF{ns:List Int}(h:∀n∈ns,0≤n/\n≤8)(hs:0<ns.sum):∀r∈Hs ns,Ok ns.sum.toNat ns.sum.toNat r:=by
 intro r hr
 obtain⟨n,hn,rfl⟩:=List.mem_map.mp hr
 have h1:=h n hn
 have h2:=(OJ h).2.2 n hn
 refine⟨n.toNat,?_,by omega⟩
 have e1:((ns.sum.toNat:Nat):Rat)=(ns.sum:Rat):=by
  have:((ns.sum.toNat:Nat):Int)=ns.sum:=by omega
  exact congrArg (fun z:Int=>(z:Rat)) this
 have e2:((n.toNat:Nat):Rat)=(n:Rat):=by
  have:((n.toNat:Nat):Int)=n:=by omega
  exact congrArg (fun z:Int=>(z:Rat)) this
 rw[e1,e2]
 have:(ns.sum:Rat)≠0:=by
  intro z
  have:=Rat.intCast_eq_zero_iff.mp z
  omega
 grind
theorem R9{s:Rat}:∀{ns:List Int},(ns.map fun(n:Int)=>(n:Rat) / s).sum=(ns.sum:Rat) / s
  | []=>by simp;grind
  | n :: ns => by
    rw[List.map_cons,List.sum_cons,List.sum_cons,R9 (ns:=ns)]
    push_cast
    grind
theorem OE{ns:List Int}(hs:0<ns.sum):(Hs ns).sum=1:=by
 unfold Hs
 rw[R9]
 have:(ns.sum:Rat)≠0:=by
  intro z
  have:=Rat.intCast_eq_zero_iff.mp z
  omega
 grind
theorem QC{ns:List Int}{q:Nat}(hq:S[q]?=some (.lst (ns.map D.int)))(hl:ns.length≤20)(hn:∀n∈ns,0≤n/\n≤8)(hs:0<ns.sum):
  Bx [(q,ns.map D.int)] (tNm 1) BU (AK BC [(eV 1),(eOp (o1 UQ) [(eV 0)])]) (ns.map D.int) [] [some (.ref q),none] S=some ((Hs ns).map aD,S):=by
 obtain⟨s1,s2,s3⟩:=OJ hn
 have:=comp_map (gs:=[(q,ns.map D.int)]) (t:=tNm 1) (f:=AK BC [(eV 1),(eOp (o1 UQ) [(eV 0)])]) (C:=[some (.ref q)]) (m:=1) (g:=fun d=>match d with| .int n=>aD ((n:Rat) / (ns.sum:Rat))|d=>d) (S:=S) (fun g hg=>by rw[List.mem_singleton.mp hg];exact AQ hq) (ds:=ns.map D.int) (acc:=[]) (os:=[none]) rfl (by simp;exact AV (by omega)) fun d hd os ho=>by
   obtain⟨o,rfl⟩:∃o,os=[o]:=by
    match os,ho with
    | [o],_=>exact⟨o,rfl⟩
   obtain⟨i,hi,rfl⟩:=List.mem_map.mp hd
   have m:=Qe (S:=S) (t:=i) hs (Cr (by omega) (by omega))
   exact⟨[some (.int i)],rfl,by simp,by simp[A1 hq,FQ,m]⟩
 have e2:(ns.map D.int).map (fun d=>match d with| .int n=>aD ((n:Rat) / (ns.sum:Rat))|d=>d)=(Hs ns).map aD:=by
  unfold Hs
  rw[List.map_map,List.map_map]
  rfl
 rw[e2]at this
 simpa using this
theorem NK(h:Dk p S){n:Nat}(h1:1≤n)(h2:n≤4):∃rs S',B8 [.ref p,.int n] S=some (shD rs,S')/\Pn p S S'/\(rs.length=n/\rs.sum=1)/\∃G:Nat,0<G/\G≤32/\∀r∈rs,Ok G G r:=by
 obtain⟨ns,S1,e1,p1,l1,i1⟩:=Q0 (n:=n) h (by omega)
 obtain⟨s1,s2,s3⟩:=OJ i1
 have hq:(S1++[Cl.lst (ns.map D.int)])[S1.length]?=some (.lst (ns.map D.int)):=List.getElem?_concat_length
 have pp:Dk p (S1++[Cl.lst (ns.map D.int)]):=p1.pen.app _
 have hlt:=p1.pen.lt
 have r1:Hj (n:Int)=true:=DF (by omega) (by omega)
 by_cases hz:ns.sum=0
 ·obtain⟨r,S2,e2,a2,b2,p2⟩:=Ax pp (n:=n) (by omega) (by omega)
  have hq2:S2[S1.length]?=some (.lst (ns.map D.int)):=p2.get hq (by omega)
  have hn':∀x∈ns.set r.toNat 1,0≤x/\x≤8:=fun x hx=>by
   rcases List.mem_or_eq_of_mem_set hx with hx|rfl
   ·exact i1 x hx
   ·exact⟨by decide,by decide⟩
  have hs':0<(ns.set r.toNat 1).sum:=by
   have:=(OJ hn').2.2 1 (List.mem_set (by omega) 1)
   omega
  have hq3:(S2.set S1.length (.lst ((ns.set r.toNat 1).map D.int)))[S1.length]?=some (.lst ((ns.set r.toNat 1).map D.int)):=List.getElem?_set_self (Aa hq2)
  have e3:=QC hq3 (by simp;omega) hn' hs'
  have ix:ixN ns.length r=some r.toNat:=Pp a2 (by omega)
  refine⟨Hs (ns.set r.toNat 1),S2.set S1.length (.lst ((ns.set r.toNat 1).map D.int)),?_,⟨?_,?_⟩,⟨by simp[Hs,l1],OE hs'⟩,_,(show 0<(ns.set r.toNat 1).sum.toNat by omega),?_,LF hn' hs'⟩
  ·have sq3:=EE hq3
   rw[List.map_set]at e3 sq3 hq3
   simp[B8,ID,r1,e1,A1 hq,FQ,hz,e2,AQ hq2,ix,sq3,e3,shD]
  ·have g:Bz [p] S (S1++[Cl.lst (ns.map D.int)]):=p1.same.trans .app
   refine⟨Nat.le_trans (g.trans p2.same).len (by simp),fun m hm hmp=>?_⟩
   rw[List.getElem?_set_ne (by have:=p1.same.len;omega)]
   exact(g.trans p2.same).keep m hm hmp
  ·obtain⟨ds,ed,hd⟩:=p2.pen
   exact⟨ds,by rw[List.getElem?_set_ne (by omega)];exact ed,hd⟩
  ·have:=(OJ hn').2.1
   rw[List.length_set]at this
   omega
 ·have hz':(ns.sum==0)=false:=by simpa using hz
  have e3:=QC hq (by omega) i1 (by omega)
  refine⟨Hs ns,S1++[Cl.lst (ns.map D.int)],?_,⟨p1.same.trans .app,pp⟩,⟨by simp[Hs,l1],OE (by omega)⟩,_,(show 0<ns.sum.toNat by omega),by omega,LF i1 (by omega)⟩
  have sq3:=EE hq
  simp[B8,ID,r1,e1,A1 hq,FQ,hz',sq3,e3,shD]
end
section
variable{S:Sto}{p:Nat}
theorem XD:(2:Nat)<Er:=Cr (n:=2) (by decide) (by decide)
theorem IV(h:Dk p S):∃n S',BR [.ref p] S=some (.int n,S')/\Pn p S S'/\1≤n/\n<2^131:=by
  obtain⟨r1,S1,e1,a1,b1,p1⟩:=Ax h (n:=99) (by decide) (by decide)
  obtain⟨r2,S2,e2,a2,b2,p2⟩:=Ax p1.pen (n:=4) (by decide) (by decide)
  obtain⟨r3,S3,e3,a3,b3,p3⟩:=Ax p2.pen (n:=40) (by decide) (by decide)
  obtain⟨r4,S4,e4,a4,b4,p4⟩:=Ax p3.pen (n:=999) (by decide) (by decide)
  obtain⟨r5,S5,e5,a5,b5,p5⟩:=Ax p4.pen (n:=7) (by decide) (by decide)
  have pp:=(((p1.trans p2).trans p3).trans p4).trans p5
  have d2:=XD
  have go:∀g:Int,1≤g->g<2^131->∃n:Int,atI [D.int (1+r2),.int (1+r3),.int (1+r4),.int g] (r5 / 2)=some (.int n)/\1≤n/\n<2^131:=fun g g1 g2=>by
    obtain⟨x,ex,hx⟩:=pick (xs:=[D.int (1+r2),.int (1+r3),.int (1+r4),.int g]) (r:=r5 / 2) (by omega) (by simp;omega)
    simp only[List.mem_cons,List.not_mem_nil,or_false]at hx
    rcases hx with rfl|rfl|rfl|rfl
    ·exact⟨_,ex,by omega,by omega⟩
    ·exact⟨_,ex,by omega,by omega⟩
    ·exact⟨_,ex,by omega,by omega⟩
    ·exact⟨_,ex,g1,g2⟩
  first
    | (obtain ⟨n, en, n1, n2⟩ := go (10 ^ 39 + r1) (by omega) (by omega)
       exact⟨n,S5,by simp[BR,Gz,e1,e2,e3,e4,e5,d2]at en ⊢; simp[en],pp,n1,n2⟩)
    | (obtain ⟨n, en, n1, n2⟩ := go (10 ^ 30 + r1) (by omega) (by omega)
       exact⟨n,S5,by simp[BR,Gz,e1,e2,e3,e4,e5,d2]at en ⊢; simp[en],pp,n1,n2⟩)
theorem Fm{r:Int}(h:0≤r):∃m:Nat,r=m:=⟨r.toNat,by omega⟩
theorem Ut(h:Dk p S):∃x S',Fc [.ref p] S=some (aD x,S')/\Pn p S S'/\0<x.num/\x.num≤x.den/\x.den≤12:=by
 obtain⟨r1,S1,e1,a1,b1,p1⟩:=Ax h (n:=12) (by decide) (by decide)
 obtain⟨r2,S2,e2,a2,b2,p2⟩:=Ax p1.pen (n:=1+r1) (by omega) (by omega)
 have m:=Qe (S:=S2) (t:=1+r2) (b:=1+r1) (by omega) (Cr (by omega) (by omega))
 obtain⟨m1,rfl⟩:=Fm a1
 obtain⟨m2,rfl⟩:=Fm a2
 have rp:=Le (1+(m2:Int)) (1+m1) (by omega)
 have eb:(((1+(m1:Int):Int)):Rat)=(((1+m1:Nat)):Rat):=by
  have:(1+(m1:Int))=((1+m1:Nat):Int):=by omega
  rw[this];rfl
 have en:(1+(m2:Int)).natAbs=1+m2:=by omega
 have gp:0<Nat.gcd (1+m2) (1+m1):=Nat.gcd_pos_of_pos_left _ (by omega)
 obtain⟨q,hq⟩:=Nat.gcd_dvd_left (1+m2) (1+m1)
 obtain⟨q',hq'⟩:=Nat.gcd_dvd_right (1+m2) (1+m1)
 refine⟨((1+(m2:Int):Int):Rat) / ((1+(m1:Int):Int):Rat),S2,?_,p1.trans p2,?_,?_,?_⟩
 ·simp[Fc,Lu,e1,e2,m]
 ·rw[eb,rp.1,en]
  generalize Nat.gcd (1+m2) (1+m1)=g at*
  have:(1+(m2:Int))=((g*q:Nat):Int):=by omega
  rw[this,Int.natCast_mul,Int.mul_ediv_cancel_left _ (by omega)]
  have:q≠0:=fun z=>by subst z;omega
  omega
 ·rw[eb,rp.1,rp.2,en]
  generalize Nat.gcd (1+m2) (1+m1)=g at*
  have t1:(1+(m2:Int))=((g*q:Nat):Int):=by omega
  rw[t1,Int.natCast_mul,Int.mul_ediv_cancel_left _ (by omega),hq',Nat.mul_div_cancel_left _ gp]
  have:q≤q':=by
   have:g*q≤g*q':=by omega
   exact Nat.le_of_mul_le_mul_left this gp
  omega
 ·rw[eb,rp.2]
  exact Nat.le_trans (Nat.div_le_self _ _) (by omega)
theorem Rm(h:Dk p S){n:Nat}(hn:n≤6):∃(ws:List Int) (S':Sto),DY [.ref p,.int n] S=some (.tup (ws.map .int),S')/\Pn p S S'/\ws.length=n/\∀w∈ws,1≤w/\w≤99:=by
 obtain⟨ys,S',e,hI,l,r⟩:=NC (gs:=[]) (t:=tNm 1) (f:=(eOp (o2 C9) [(eC (.int 1)),(eOp (o2 wIx) [(JI [(AK AL [(eV 0),(eC (.int 3))]),(AK AL [(eV 0),(eC (.int 99))])]),(AK AL [(eV 0),(eC (.int 2))])])])) (C:=[some (.ref p)]) (m:=1) (I:=Pn p S) (R:=fun _ y=>∃i:Int,y=.int i/\1≤i/\i≤99)
  (fun _ _=>Ad) (ds:=JJ 0 n) (acc:=[]) (os:=[none]) rfl (Pn.refl h) (by rw[Fi];simp;exact AV (by omega)) fun d _ os S0 ho I0=>by
   obtain⟨o,rfl⟩:∃o,os=[o]:=by
    match os,ho with
    | [o],_=>exact⟨o,rfl⟩
   obtain⟨r1,S1,e1,a1,b1,p1⟩:=Ax I0.pen (n:=3) (by decide) (by decide)
   obtain⟨r2,S2,e2,a2,b2,p2⟩:=Ax p1.pen (n:=99) (by decide) (by decide)
   obtain⟨r3,S3,e3,a3,b3,p3⟩:=Ax p2.pen (n:=2) (by decide) (by decide)
   obtain⟨x,ex,hx⟩:=pick (xs:=[.int r1,.int r2]) (r:=r3) a3 (by simpa using b3)
   simp only[List.mem_cons,List.not_mem_nil,or_false]at hx
   rcases hx with rfl|rfl
   ·exact⟨[some d],.int (1+r1),S3,rfl,by simp,by simp[e1,e2,e3,ex],((I0.trans p1).trans p2).trans p3,_,rfl,by omega,by omega⟩
   ·exact⟨[some d],.int (1+r2),S3,rfl,by simp,by simp[e1,e2,e3,ex],((I0.trans p1).trans p2).trans p3,_,rfl,by omega,by omega⟩
 obtain⟨ns,rfl,hns⟩:=Pg (JZ r)
 have r1:Hj (n:Int)=true:=DF (by omega) (by omega)
 have e':Bx [] (tNm 1) BU (eOp (o2 C9) [(eC (.int 1)),(eOp (o2 wIx) [(JI [(AK AL [(eV 0),(eC (.int 3))]),(AK AL [(eV 0),(eC (.int 99))])]),(AK AL [(eV 0),(eC (.int 2))])])]) (JJ 0 n) [] [some (.ref p),none] S=some (ns.map D.int,S'):=by simpa using e
 exact⟨ns,S',by simp[DY,Jn,r1,e'],hI,by simpa[Fi]using l,hns⟩
def El(t:Tr)(ls:List Ld):Prop:=(∀l∈ls,l.k<t.k/\1≤l.n/\l.n<2^131/\l.ow.length=t.p/\l.ow.sum=1)/\∃G:Nat,0<G/\G≤32^ls.length/\∀l∈ls,∀r∈l.ow,Ok G G r
theorem El.snoc{t:Tr}{ls:List Ld}{l:Ld}(h:El t ls)(h1:l.k<t.k/\1≤l.n/\l.n<2^131/\l.ow.length=t.p/\l.ow.sum=1){g:Nat}(g0:0<g)(g1:g≤32)(g2:∀r∈l.ow,Ok g g r):El t (ls++[l]):=by
 obtain⟨ha,G,G0,G1,G2⟩:=h
 refine⟨fun x hx=>?_,G*g,Nat.mul_pos G0 g0,?_,fun x hx r hr=>?_⟩
 ·rcases List.mem_append.mp hx with hx|hx
  ·exact ha x hx
  ·rw[List.mem_singleton.mp hx];exact h1
 ·rw[List.length_append,List.length_singleton,Nat.pow_succ]
  exact Nat.mul_le_mul G1 g1
 ·rcases List.mem_append.mp hx with hx|hx
  ·exact(G2 x hx r hr).up (Nat.le_refl _)
  ·rw[List.mem_singleton.mp hx]at hr
   have:=(g2 r hr).up (t:=G) (B':=G*g) (by rw[Nat.mul_comm];exact Nat.le_refl _)
   rwa [Nat.mul_comm g G]at this
end
section
variable{S:Sto}{p:Nat}
theorem El.nil{t:Tr}:El t []:=⟨fun l hl=>(nomatch hl),1,by decide,by simp,fun l hl=>(nomatch hl)⟩
theorem UZ(h:Dk p S){t:Tr}(ht:JK t):∃(ls:List Ld) (S':Sto),GV [.ref p,t.d] S=some (.tup (ls.map Ld.d),S')/\Pn p S S'/\El t ls/\ls.length≤4:=by
 obtain⟨t1,t2,t3,t4,t5,t6⟩:=ht
 have hlt:=h.lt
 have hq:(S++[Cl.lst []])[S.length]?=some (.lst []):=List.getElem?_concat_length
 obtain⟨r1,S1,e1,a1,b1,p1⟩:=Ax (h.app [Cl.lst []]) (n:=5) (by decide) (by decide)
 obtain⟨r2,S2,e2,a2,b2,p2⟩:=Ax p1.pen (n:=3) (by decide) (by decide)
 obtain⟨n,en,hn⟩:∃n:Nat,atI [D.int 0,.int 1,.int r1] r2=some (.int n)/\n≤4:=by
  obtain⟨x,ex,hx⟩:=pick (xs:=[D.int 0,.int 1,.int r1]) (r:=r2) a2 (by simpa using b2)
  simp only[List.mem_cons,List.not_mem_nil,or_false]at hx
  rcases hx with rfl|rfl|rfl
  ·exact⟨0,ex,by decide⟩
  ·exact⟨1,ex,by decide⟩
  ·exact⟨r1.toNat,by rw[ex,Int.toNat_of_nonneg a1],by omega⟩
 have q2:S2[S.length]?=some (.lst []):=(p1.trans p2).get hq (by omega)
 have rn:Hj (n:Int)=true:=DF (by omega) (by omega)
 obtain⟨E',S',ef,ls,o,rfl,f1,f2,f3,f4,f5⟩:=EL (gs:=[]) (t:=tNm 3) (b:=B9 (Hz II (eV 2) [(CI [(AK AL [(eV 0),(eOp (o2 wIx) [(eV 1),(eC (.int 1))])]),(AK BR [(eV 0)]),(AK B8 [(eV 0),(eOp (o2 wIx) [(eV 1),(eC (.int 0))])])])]))
  (I:=fun ds E S'=>∃(ls:List Ld) (o:Option D),E=[some (.ref p),some t.d,some (.ref S.length),o]/\S'[S.length]?=some (.lst (ls.map Ld.d))/\Dk p S'/\Bz [p] S S'/\El t ls/\ls.length+ds.length≤4)
  (fun _ _ _ _=>Ad) (ds:=JJ 0 n) (E:=[some (.ref p),some t.d,some (.ref S.length),none]) (S:=S2)
  ⟨[],none,rfl,q2,p2.pen,(Bz.app.trans (p1.trans p2).same),El.nil,by simp[Fi];exact hn⟩ (by
   rintro d ds E S0 ⟨ls,o,rfl,i1,i2,i3,i4,i5⟩
   obtain⟨x1,T1,g1,c1,d1,k1⟩:=Ax i2 (n:=t.k) (by omega) (by omega)
   obtain⟨x2,T2,g2,k2,c2,d2⟩:=IV k1.pen
   obtain⟨rs,T3,g3,k3,l3,G,G0,G1,G2⟩:=NK k2.pen (n:=t.p) t1 t2
   obtain⟨m1,rfl⟩:=Fm c1
   have kk:=(k1.trans k2).trans k3
   have j1:T3[S.length]?=some (.lst (ls.map Ld.d)):=kk.get i1 (by omega)
   have hz:ls.length<sizeLine:=Nat.lt_of_lt_of_le (show ls.length<5 by omega) (AV (by decide))
   refine⟨[some (.ref p),some t.d,some (.ref S.length),some d],[some (.ref p),some t.d,some (.ref S.length),some d],T3.set S.length (.lst ((ls++[Ld.mk m1 x2 rs]).map Ld.d)),by simp,?_,ls++[Ld.mk m1 x2 rs],some d,rfl,List.getElem?_set_self (Aa j1),?_,?_,i4.snoc (l:=Ld.mk m1 x2 rs) ⟨show m1<t.k by omega,c2,d2,l3⟩ G0 G1 G2,by simp at i5 ⊢; omega⟩
   ·have e3:atI [D.int t.p,.int t.k,.int t.b,shD t.ho,.int t.h,.int t.l] 1=some (.int t.k):=by simp
    simp[Tr.d,g1,g2,g3,AQ i1,AQ j1,hz,Ld.d]
   ·obtain⟨ds',ed,hd⟩:=kk.pen
    exact⟨ds',by rw[List.getElem?_set_ne (by omega)];exact ed,hd⟩
   ·refine⟨Nat.le_trans (i3.trans kk.same).len (by simp),fun m hm hmp=>?_⟩
    rw[List.getElem?_set_ne (by omega)]
    exact(i3.trans kk.same).keep m hm hmp)
 refine⟨ls,S',?_,⟨f3,f2⟩,f4,by simpa using f5⟩
 simp[GV,Lh,e1,e2,en,rn,ef,A1 f1]
noncomputable def CN(x:Ld):Cl:=.lst [.int x.k,.int x.n,shD x.ow]
structure SAt(S:Sto)(s l m:Nat)(as:List Nat)(st:Stt):Prop where
 root:S[s]?=some (.lst [.ref l,shD st.hold,.ref m])
 lo:S[l]?=some (.lst (as.map .ref))
 nu:S[m]?=some (.lst (st.nums.map .int))
 ld:∀(i a:Nat) (x:Ld),as[i]?=some a->st.loads[i]?=some x->S[a]?=some (CN x)
 len:as.length=st.loads.length
 nd:(s::l::m::as).Nodup
theorem WL:∀{ls:List Ld} {acc:List D} {o:Option D} {S:Sto},acc.length+ls.length≤100->Bx [] (tNm 0) BU (Yf (o1 NJ) [(eV 0)]) (ls.map Ld.d) acc [o] S=some (acc++(List.range' S.length ls.length).map D.ref,S++ls.map CN)
  | [],acc,o,S,h=>by rw[List.map_nil,D4 Ad];simp
  | x :: ls, acc, o, S, h => by
    rw[List.map_cons,GW (E1:=[some x.d]) Ad (Nat.lt_of_lt_of_le (show acc.length<101 by simp at h;omega) (AV (by decide))) (by simp) HF]
    have:Yf (o1 NJ) [(eV 0)] [some x.d] S=some (.ref S.length,S++[CN x]):=by simp[Ld.d,CN]
    rw[this,Bp,WL (by simp at h ⊢; omega)]
    simp[List.range'_succ]
theorem getElem?_at{α:Type}{xs:List α}{x:α}{n:Nat}(h:n=xs.length):(xs++[x])[n]?=some x:=by subst h;exact List.getElem?_concat_length
theorem NH{t:Tr}{ls:List Ld}{x:D}(hl:ls.length≤20):∃s l m as S',DR [.tup [t.d,.tup (ls.map Ld.d),x]] S=some (.ref s,S')/\SAt S' s l m as ⟨ls,t.ho,[]⟩/\Bz [] S S'/\(∀n∈s::l::m::as,S.length≤n):=by
 have e:=WL (ls:=ls) (acc:=[]) (o:=none) (S:=S) (by simp;omega)
 refine⟨S.length+ls.length+2,S.length+ls.length,S.length+ls.length+1,List.range' S.length ls.length,S++ls.map CN++[.lst ((List.range' S.length ls.length).map D.ref)]++[.lst []]++[.lst [.ref (S.length+ls.length),shD t.ho,.ref (S.length+ls.length+1)]],?_,⟨?_,?_,?_,?_,?_,?_⟩,?_,?_⟩
 ·simp[DR,Ks,Tr.d,e,shD]
  omega
 ·exact getElem?_at (by simp;omega)
 ·rw[List.getElem?_append_left (by simp),List.getElem?_append_left (by simp)]
  exact getElem?_at (by simp)
 ·rw[List.getElem?_append_left (by simp;omega)]
  exact getElem?_at (by simp;omega)
 ·intro i a y ha hy
  have hi:i<ls.length:=(List.getElem?_eq_some_iff.mp hy).1
  have:a=S.length+i:=by
   rw[List.getElem?_range' hi]at ha
   simp at ha;omega
  subst this
  rw[List.getElem?_append_left (by simp;omega),List.getElem?_append_left (by simp;omega),List.getElem?_append_left (by simp;omega),List.getElem?_append_right (by omega)]
  have hy':ls[i]?=some y:=hy
  simp[hy']
 ·simp
 ·rw[List.nodup_cons,List.nodup_cons,List.nodup_cons]
  refine⟨?_,?_,?_,List.nodup_range'⟩
  ·simp only[List.mem_cons,List.mem_range'_1];omega
  ·simp only[List.mem_cons,List.mem_range'_1];omega
  ·simp only[List.mem_range'_1];omega
 ·rw[List.append_assoc,List.append_assoc,List.append_assoc]
  exact .app
 ·intro n hn
  simp only[List.mem_cons,List.mem_range'_1]at hn
  omega
end
section
variable{S:Sto}{p:Nat}
@[simp] theorem fw{rs:List Rat}{S:Sto}:sqD S (shD rs)=some (rs.map aD,[]):=nr rfl
@[simp] theorem iC{rs:List Rat}{S:Sto}:dr S (shD rs)=.val (shD rs):=nr rfl
@[simp] theorem fF{rs:List Rat}:asS (.val (shD rs))=some (rs.map aD):=nr rfl
@[simp] theorem cX{S:Sto}{r:List D}:dr (S++[.lst r]) (.ref S.length)=.own r:=A1 List.getElem?_concat_length
@[simp] theorem Yj{S:Sto}{r:List D}:DN (S++[.lst r]) S.length=some r:=AQ List.getElem?_concat_length
theorem set_same{S:Sto}{q:Nat}{c:Cl}(h:S[q]?=some c):S.set q c=S:=by
 apply List.ext_getElem?
 intro i
 by_cases e:q=i
 ·subst e;rw[List.getElem?_set_self (Aa h),h]
 ·rw[List.getElem?_set_ne e]
theorem PQ{gs:Gd}{t:Tf}{b:Ex}{C:En}{m q:Nat}{h:D->D}{I:Sto->Prop}(hg:∀S,I S->gOk gs S)(hI:∀S c,I S->I (S.set q c)):∀{ds acc:List D} {os:En} {S:Sto},os.length=m->I S->S[q]?=some (.lst acc)->acc.length+ds.length≤1000->
    (∀d∈ds,∀os S acc,os.length=m->I S->S[q]?=some (.lst acc)->acc.length<sizeLine->∃us us',t d (C++os) S=some (C++us)/\b (C++us) S=some (.nx,C++us',S.set q (.lst (acc++[h d])))/\us'.length=m)->
    ∃os',os'.length=m/\JV gs t b ds (C++os) S=some (.nx,C++os',S.set q (.lst (acc++ds.map h)))
  | [], acc, os, S, ho, hS, hq, hz, H => ⟨os, ho, by
      rw[Fy (hg S hS)]
      have:S.set q (.lst (acc++List.map h []))=S:=by
        rw[List.map_nil,List.append_nil]
        exact set_same hq
      rw[this]⟩
  | d :: ds, acc, os, S, ho, hS, hq, hz, H => by
    have hl:=Aa hq
    obtain⟨us,us',e1,e2,hu⟩:=H d List.mem_cons_self os S acc ho hS hq (Nat.lt_of_lt_of_le (show acc.length<1001 by simp at hz;omega) (Nat.le_trans (by decide) (show 1001≤sizeLine by decide)))
    obtain⟨os',ho',e3⟩:=PQ hg hI (ds:=ds) (acc:=acc++[h d]) (os:=us') (S:=S.set q (.lst (acc++[h d]))) hu (hI S _ hS) (List.getElem?_set_self hl) (by simp at hz ⊢; omega) fun d' hd=>H d' (List.mem_cons_of_mem _ hd)
    refine⟨os',ho',?_⟩
    rw[Dh (hg S hS),e1,Bp,e2,Bp,Td,e3,List.set_set]
    simp
noncomputable def un:D->Rat
 | .tup [.int n,.int d]=>(n:Rat) / (d:Rat)
 |_=>0
theorem Xk(r:Rat):un (aD r)=r:=Dx r
noncomputable def PD(f:Rat->Rat->Rat):D->D
 | .tup [a,b]=>aD (f (un a) (un b))
 |d=>d
theorem NV{f:Rat->Rat->Rat}:∀{ss os:List Rat},(Mw (ss.map aD) (os.map aD)).map (PD f)=(List.zipWith f ss os).map aD
  | [],os=>by simp[Mw]
  |s::ss,[]=>by simp[Mw]
  | s :: ss, o :: os => by
    have ih:=NV (f:=f) (ss:=ss) (os:=os)
    unfold Mw at ih⊢
    simp only[List.map_cons,List.zip_cons_cons,List.zipWith_cons_cons]at ih⊢
    rw[ih]
    simp[PD,Xk]
theorem Rv{ss os:List Rat}{d:D}(h:d∈Mw (ss.map aD) (os.map aD)):∃s∈ss,∃o∈os,d=.tup [aD s,aD o]:=by
 unfold Mw at h
 obtain⟨⟨a,b⟩,h1,rfl⟩:=List.mem_map.mp h
 have h2:=List.of_mem_zip h1
 obtain⟨s,hs,rfl⟩:=List.mem_map.mp h2.1
 obtain⟨o,ho,rfl⟩:=List.mem_map.mp h2.2
 exact⟨s,hs,o,ho,rfl⟩
theorem aP:aD 1=.tup [.int 1,.int 1]:=rfl
theorem Q6(n:Int):aD (n:Rat)=.tup [.int n,.int 1]:=by
 unfold aD
 simp
theorem P0{n:Int}{k:Nat}(h:n.natAbs<2^k)(hk:1≤k):Sz k (n:Rat):=by
 unfold Sz
 have:1<2^k:=Nat.one_lt_two_pow (by omega)
 simp[h,this]
theorem Wd{k:Nat}(hk:1≤k):Sz k (1:Rat):=by
 have:1<2^k:=Nat.one_lt_two_pow (by omega)
 exact⟨by simpa using this,by simpa using this⟩
theorem Pr{x:Rat}{ss os:List Rat}{j i:Nat}(hs:∀r∈ss,Sz j r)(ho:∀r∈os,Sz j r)(hx:Sz i x)(hj:2*j+2*i≤7900)(hl:ss.length≤10):∃S',ED [shD ss,aD x,shD os] S=some (shD (Gu x os ss),S')/\Bz [] S S':=by
 have hq:(S++[Cl.lst []])[S.length]?=some (.lst []):=List.getElem?_concat_length
 obtain⟨os',ho',e⟩:=PQ (gs:=[]) (t:=tTp [(tNm 4),(tNm 5)]) (b:=B9 (Hz II (eV 3) [(AK Br [(AK Ak [(eV 4),(AK Dd [(CI [(eC (.int 1)),(eC (.int 1))]),(eV 1)])]),(AK Ak [(eV 5),(eV 1)])])])) (C:=[some (shD ss),some (aD x),some (shD os),some (.ref S.length)]) (m:=2) (q:=S.length) (h:=PD fun s o=>s*(1-x)+o*x) (I:=fun _=>True) (fun _ _=>Ad) (fun _ _ _=>trivial)
  (ds:=Mw (ss.map aD) (os.map aD)) (acc:=[]) (os:=[none,none]) (S:=S++[Cl.lst []]) rfl trivial hq (by simp[KY];omega) (by
   intro d hd os0 S0 acc h0 _ hq0 hz
   obtain⟨o1,o2,rfl⟩:∃o1 o2,os0=[o1,o2]:=by
    match os0,h0 with
    | [a,b],_=>exact⟨a,b,rfl⟩
   obtain⟨s,hs',o,ho',rfl⟩:=Rv hd
   have l1:=WO (S:=S0) (Wd (k:=1) (by decide)) hx (by omega)
   have s1:=(Y0 (Wd (k:=1) (by decide)) hx)
   have l2:=Ga (S:=S0) (hs s hs') s1 (by omega)
   have l3:=Ga (S:=S0) (ho o ho') hx (by omega)
   have l4:=N8 (S:=S0) (Jl (hs s hs') s1) (Jl (ho o ho') hx) (by omega)
   rw[aP]at l1
   refine⟨[some (aD s),some (aD o)],[some (aD s),some (aD o)],by simp,?_,rfl⟩
   simp[l1,l2,l3,l4,AQ hq0,hz,PD,Xk])
 rw[NV]at e
 refine⟨(S++[Cl.lst []]).set S.length (.lst ((Gu x os ss).map aD)),?_,?_⟩
 ·have e':JV [] (tTp [(tNm 4),(tNm 5)]) (B9 (Hz II (eV 3) [(AK Br [(AK Ak [(eV 4),(AK Dd [(CI [(eC (.int 1)),(eC (.int 1))]),(eV 1)])]),(AK Ak [(eV 5),(eV 1)])])])) (Mw (ss.map aD) (os.map aD)) [some (shD ss),some (aD x),some (shD os),some (.ref S.length),none,none] (S++[Cl.lst []])=some (.nx,[some (shD ss),some (aD x),some (shD os),some (.ref S.length)]++os',(S++[Cl.lst []]).set S.length (.lst ((Gu x os ss).map aD))):=by simpa[Gu]using e
  simp[ED,LJ,e']
  rfl
 ·refine⟨by simp,fun n hn _=>?_⟩
  rw[List.getElem?_set_ne (by omega),List.getElem?_append_left hn]
end
section
variable{S:Sto}{p:Nat}
theorem getD_get{α:Type}{xs:List α}{n:Nat}{d:α}(h:n<xs.length):xs[n]?=some (xs.getD n d):=by
 rw[List.getD_eq_getElem?_getD,List.getElem?_eq_getElem h]
 rfl
theorem getD_mem{α:Type}{xs:List α}{n:Nat}{d:α}(h:n<xs.length):xs.getD n d∈xs:=List.mem_of_getElem? (getD_get h)
theorem Mz{ss:List Rat}{n:Nat}(h:n<ss.length):atI (ss.map aD) (n:Int)=some (aD (ss.getD n 0)):=C8 (by rw[List.getElem?_map,getD_get h];rfl)
theorem Wr{ss:List Rat}{n:Nat}(h:n<ss.length):ixN (ss.map aD).length (n:Int)=some n:=JM (by simpa using h)
theorem TV{p q:Nat}{x:Rat}{ss:List Rat}{j i:Nat}(hs:∀r∈ss,Sz j r)(hx:Sz i x)(hj:2*j+i≤7900)(hp:p<ss.length)(hq:q<ss.length)(hpq:p≠q):∃S',FC [shD ss,(Af.sell p q x).d] S=some (shD (GK p q x ss),S')/\Bz [] S S':=by
 have sp:=hs _ (getD_mem (d:=0) hp)
 have sq:=hs _ (getD_mem (d:=0) hq)
 have l1:∀S,Ak [aD (ss.getD p 0),aD x] S=some (aD (ss.getD p 0*x),S):=fun S=>Ga sp hx (by omega)
 have s1:=Jl sp hx
 have l2:∀S,Dd [aD (ss.getD p 0),aD (ss.getD p 0*x)] S=some (aD (ss.getD p 0-ss.getD p 0*x),S):=fun S=>WO sp s1 (by omega)
 have l3:∀S,Br [aD (ss.getD q 0),aD (ss.getD p 0*x)] S=some (aD (ss.getD q 0+ss.getD p 0*x),S):=fun S=>N8 sq s1 (by omega)
 have a1:=Mz hp
 have i1:=Wr hp
 have i2:ixN (((ss.map aD).set p (aD (ss.getD p 0-ss.getD p 0*x))).length) (q:Int)=some q:=JM (by simpa using hq)
 have a2:atI ((ss.map aD).set p (aD (ss.getD p 0-ss.getD p 0*x))) (q:Int)=some (aD (ss.getD q 0)):=C8 (by
  rw[List.getElem?_set_ne hpq,List.getElem?_map,getD_get hq];rfl)
 refine⟨S++[.lst ((GK p q x ss).map aD)],?_,.app⟩
 simp only[List.length_set,List.length_map]at i1 i2
 have em:(GK p q x ss).map aD=((ss.map aD).set p (aD (ss.getD p 0-ss.getD p 0*x))).set q (aD (ss.getD q 0+ss.getD p 0*x)):=by rw[GK,List.map_set,List.map_set]
 unfold shD
 rw[em]
 generalize aD (ss.getD p 0-ss.getD p 0*x)=d1 at*
 generalize aD (ss.getD q 0+ss.getD p 0*x)=d2 at*
 generalize aD (ss.getD p 0*x)=d3 at*
 generalize aD (ss.getD p 0)=d4 at*
 generalize aD (ss.getD q 0)=d5 at*
 simp[FC,Mh,Af.d,a1,l1,l2,l3,i1,i2,a2]
theorem Sm{x y:Ld}{a b:Nat}{j i:Nat}(ha:S[a]?=some (CN x))(hb:S[b]?=some (CN y))(hs:∀r∈x.ow,Sz j r)(ho:∀r∈y.ow,Sz j r)(hx:x.n.natAbs<2^i)(hy:y.n.natAbs<2^i)(h0:0<x.n+y.n)(h1:1≤i)(hj:2*j+4*i≤7900)(hl:x.ow.length≤10):∃S',Fv [.ref a,.ref b] S=some (shD (Ca x.n y.n x.ow y.ow),S')/\Bz [] S S':=by
 have la:=Aa ha
 have lb:=Aa hb
 have hq:(S++[Cl.lst []])[S.length]?=some (.lst []):=List.getElem?_concat_length
 have ha':(S++[Cl.lst []])[a]?=some (CN x):=by rw[List.getElem?_append_left la];exact ha
 have hb':(S++[Cl.lst []])[b]?=some (CN y):=by rw[List.getElem?_append_left lb];exact hb
 obtain⟨os',ho',e⟩:=PQ (gs:=[]) (t:=tTp [(tNm 3),(tNm 4)]) (b:=Ae (BW 5 (AK Br [(AK Ak [(CI [(eOp (o2 wIx) [(eV 0),(eC (.int 1))]),(eC (.int 1))]),(eV 3)]),(AK Ak [(CI [(eOp (o2 wIx) [(eV 1),(eC (.int 1))]),(eC (.int 1))]),(eV 4)])]))
  (B9 (Hz II (eV 2) [(AK Ak [(eV 5),(AK BC [(eC (.int 1)),(eOp (o2 C9) [(eOp (o2 wIx) [(eV 0),(eC (.int 1))]),(eOp (o2 wIx) [(eV 1),(eC (.int 1))])])])])]))) (C:=[some (.ref a),some (.ref b),some (.ref S.length)]) (m:=3) (q:=S.length) (h:=PD fun s o=>(s*x.n+o*y.n) / (x.n+y.n:Int)) (I:=fun S'=>S'[a]?=some (CN x)/\S'[b]?=some (CN y)) (fun _ _=>Ad) (fun S' c h=>⟨by rw[List.getElem?_set_ne (by omega)];exact h.1,by rw[List.getElem?_set_ne (by omega)];exact h.2⟩)
  (ds:=Mw (x.ow.map aD) (y.ow.map aD)) (acc:=[]) (os:=[none,none,none]) (S:=S++[Cl.lst []]) rfl ⟨ha',hb'⟩ hq (by simp[KY];omega) (by
   intro d hd os0 S0 acc h0' hI hq0 hz
   obtain⟨o1,o2,o3,rfl⟩:∃o1 o2 o3,os0=[o1,o2,o3]:=by
    match os0,h0' with
    | [a,b,c],_=>exact⟨a,b,c,rfl⟩
   obtain⟨s,hs',o,ho',rfl⟩:=Rv hd
   have d1:=A1 hI.1
   have d2:=A1 hI.2
   have z1:=P0 hx h1
   have z2:=P0 hy h1
   have l1:=Ga (S:=S0) z1 (hs s hs') (by omega)
   have l2:=Ga (S:=S0) z2 (ho o ho') (by omega)
   have s1:=Jl z1 (hs s hs')
   have s2:=Jl z2 (ho o ho')
   have l3:=N8 (S:=S0) s1 s2 (by omega)
   have b1:=He hx hy
   have l4:=Qe (S:=S0) (t:=1) h0 (Cf b1 (by omega))
   have s4:Sz (i+1) (((1:Int):Rat) / ((x.n+y.n:Int):Rat)):=K9 h0 (show(1:Int).natAbs<2^(i+1)from Nat.one_lt_two_pow (by omega)) b1
   have l5:=Ga (S:=S0) (WG s1 s2) s4 (by omega)
   rw[Q6]at l1 l2
   refine⟨[some (aD s),some (aD o),o3],[some (aD s),some (aD o),some (aD (x.n*s+y.n*o))],by simp,?_,rfl⟩
   have ev:(((x.n:Rat)*s+(y.n:Rat)*o)*(((1:Int):Rat) / ((x.n+y.n:Int):Rat)))=(s*x.n+o*y.n) / (x.n+y.n:Int):=by
    push_cast
    grind
   rw[ev]at l5
   have lf:(PD fun s o=>(s*x.n+o*y.n) / (x.n+y.n:Int)) (.tup [aD s,aD o])=aD ((s*x.n+o*y.n) / (x.n+y.n:Int)):=by simp only[PD,Xk]
   rw[lf]
   generalize aD ((s*x.n+o*y.n) / (x.n+y.n:Int))=e5 at*
   generalize aD (((1:Int):Rat) / ((x.n+y.n:Int):Rat))=e4 at*
   generalize aD (x.n*s+y.n*o)=e3 at*
   simp[d1,d2,CN,l1,l2,l3,l4,l5,AQ hq0,hz])
 rw[NV]at e
 refine⟨(S++[Cl.lst []]).set S.length (.lst ((Ca x.n y.n x.ow y.ow).map aD)),?_,?_⟩
 ·have e':=e
  simp only[List.cons_append,List.nil_append]at e'
  have d1:=A1 ha'
  have d2:=A1 hb'
  change JV _ _ _ _ _ _=some (_,_,List.set _ _ (Cl.lst (List.map aD (Ca x.n y.n x.ow y.ow))))at e'
  generalize Ca x.n y.n x.ow y.ow=rs at*
  simp[Fv,J5,d1,d2,e',shD]
 ·refine⟨by simp,fun n hn _=>?_⟩
  rw[List.getElem?_set_ne (by omega),List.getElem?_append_left hn]
end
section
variable{S:Sto}{p:Nat}
theorem CZ{α:Type}{gs:Gd}{t:Tf}{f:Ev}{C:En}{m:Nat}{e g:α->D}{S:Sto}(hg:gOk gs S):∀{xs:List α} {acc:List D} {os:En},os.length=m->acc.length+xs.length≤sizeLine->
    (∀x∈xs,∀os,os.length=m->∃us,us.length=m/\t (e x) (C++os) S=some (C++us)/\f (C++us) S=some (g x,S))->
    Bx gs t BU f (xs.map e) acc (C++os) S=some (acc++xs.map g,S)
  | [],acc,os,ho,hz,h=>by rw[List.map_nil,D4 hg];simp
  | x :: xs, acc, os, ho, hz, h => by
    obtain⟨us,hu,e1,e2⟩:=h x List.mem_cons_self os ho
    rw[List.map_cons,GW hg (by simp at hz;omega) e1 HF,e2,Bp]
    rw[CZ hg hu (by simp at hz ⊢; omega) fun x' hx=>h x' (List.mem_cons_of_mem _ hx)]
    simp
theorem D2{α:Type}{gs:Gd}{t:Tf}{c f:Ev}{C:En}{m:Nat}{e g:α->D}{b:α->Bool}{S:Sto}(hg:gOk gs S):∀{xs:List α} {acc:List D} {os:En},os.length=m->acc.length+xs.length≤sizeLine->
    (∀x∈xs,∀os,os.length=m->∃us,us.length=m/\t (e x) (C++os) S=some (C++us)/\c (C++us) S=some (.bl (b x),S)/\f (C++us) S=some (g x,S))->
    Bx gs t c f (xs.map e) acc (C++os) S=some (acc++(xs.filter b).map g,S)
  | [],acc,os,ho,hz,h=>by rw[List.map_nil,D4 hg];simp
  | x :: xs, acc, os, ho, hz, h => by
    obtain⟨us,hu,e1,e2,e3⟩:=h x List.mem_cons_self os ho
    cases hb:b x with
    | true =>
      rw[hb]at e2
      rw[List.map_cons,GW hg (by simp at hz;omega) e1 e2,e3,Bp,D2 hg hu (by simp at hz ⊢; omega) fun d' hd=>h d' (List.mem_cons_of_mem _ hd)]
      simp[hb]
    | false =>
      rw[hb]at e2
      rw[List.map_cons,IE hg (by simp at hz;omega) e1 e2,D2 hg hu (by simp at hz ⊢; omega) fun d' hd=>h d' (List.mem_cons_of_mem _ hd)]
      simp[hb]
theorem Pm{as:List Nat}{ls:List Ld}(h:as.length=ls.length):as.map D.ref=(as.zip ls).map fun z=>D.ref z.1:=by
 have:as=(as.zip ls).map Prod.fst:=(List.map_fst_zip (by omega)).symm
 conv=>lhs;rw[this]
 rw[List.map_map];rfl
theorem RX{β:Type}{as:List Nat}{ls:List Ld}(h:as.length=ls.length)(g:Ld->β):ls.map g=(as.zip ls).map fun z=>g z.2:=by
 have:ls=(as.zip ls).map Prod.snd:=(List.map_snd_zip (by omega)).symm
 conv=>lhs;rw[this]
 rw[List.map_map];rfl
section
variable{s l m:Nat}{as:List Nat}{st:Stt}
theorem SAt.zmem(h:SAt S s l m as st){z:Nat×Ld}(hz:z∈as.zip st.loads):S[z.1]?=some (CN z.2):=by
 obtain⟨i,hi⟩:=List.mem_iff_getElem?.mp hz
 have:=List.getElem?_zip_eq_some.mp hi
 exact h.ld i z.1 z.2 this.1 this.2
theorem SAt.at(h:SAt S s l m as st){i:Nat}(hi:i<st.loads.length):∃a,as[i]?=some a/\S[a]?=some (CN (AS st.loads i))/\atI (as.map D.ref) (i:Int)=some (.ref a):=by
 have h1:i<as.length:=by rw[h.len];exact hi
 refine⟨as[i],List.getElem?_eq_getElem h1,h.ld i _ _ (List.getElem?_eq_getElem h1) (EO hi),C8 (by rw[List.getElem?_map,List.getElem?_eq_getElem h1];rfl)⟩
theorem SAt.guard(h:SAt S s l m as st):gOk [(l,as.map D.ref)] S:=by
 intro g hg
 simp only[List.mem_cons,List.not_mem_nil,or_false]at hg
 subst hg
 exact AQ h.lo
end
theorem Rn{M:Int}(hM:0≤M):∀{xs:List Int},(∀x∈xs,0≤x/\x≤M)->0≤xs.sum/\xs.sum≤xs.length*M
  | [],_=>by simp
  | x :: xs, h => by
    have h1:=h x List.mem_cons_self
    have h2:=Rn hM fun y hy=>h y (List.mem_cons_of_mem _ hy)
    simp only[List.sum_cons,List.length_cons]
    refine⟨by omega,?_⟩
    have:((xs.length+1:Nat):Int)*M=xs.length*M+M:=by push_cast;grind
    omega
theorem Mf:∀{xs:List Int} {y:Int},(∀x∈xs,0≤x)->y∈xs->y≤xs.sum
  | x :: xs, y, h, hy => by
    have h1:=h x List.mem_cons_self
    have h2:0≤xs.sum:=by
      clear hy
      induction xs with
      |nil=>simp
      | cons z zs ih =>
        have:=h z (by simp)
        have:=ih fun w hw=>h w (by simp at hw ⊢; rcases hw with hw|hw<;>simp[hw])
        simp only[List.sum_cons];omega
    simp only[List.sum_cons]
    rcases List.mem_cons.mp hy with e|e
    ·omega
    · have := Mf (fun z hz => h z (List.mem_cons_of_mem _ hz)) e
      omega
section
variable{t:Tr}{k:Nat}{st:Stt}{ws:List Int}{n:Int}{l:Nat}
theorem La{i:Nat}(hw:∀w∈ws,1≤w/\w≤99)(hi:i<ws.length):1≤ws.getD i 0/\ws.getD i 0≤99:=hw _ (getD_mem hi)
theorem P8{i:Nat}(hi:i<ws.length):atI (ws.map D.int) (i:Int)=some (.int (ws.getD i 0)):=C8 (by rw[List.getElem?_map,getD_get hi];rfl)
theorem NZ(hi:ws.length=k+1):atI (ws.map D.int) (-1:Int)=some (.int (ws.getD k 0)):=by
 have ix:ixN (ws.map D.int).length (-1)=some k:=by
  rw[List.length_map,hi]
  unfold ixN
  simp
  omega
 unfold atI
 rw[ix]
 show(ws.map D.int)[k]?=_
 rw[List.getElem?_map,getD_get (d:=(0:Int)) (by omega)]
 rfl
theorem JA(ht:JK t)(h:Fz t k st)(hk:k≤20)(hl:ws.length=t.k+1)(hw:∀w∈ws,1≤w/\w≤99):0<D9 t st.loads ws/\D9 t st.loads ws<2^(145+k):=by
 obtain⟨t1,t2,t3,t4,t5,t6⟩:=ht
 have hP:(0:Int)≤2^(131+k):=Int.le_of_lt (Int.pow_pos (by decide))
 have hs:=Rn (M:=2^(131+k)*99) (by omega) (xs:=st.loads.map fun l=>l.n*ws.getD l.k 0) (by
  intro x hx
  obtain⟨y,hy,rfl⟩:=List.mem_map.mp hx
  have h1:=h.pcs y hy
  have h2:=La hw (i:=y.k) (by have:=h.kind y hy;omega)
  refine⟨Int.mul_nonneg h1.1 (by omega),Int.mul_le_mul (by omega) h2.2 (by omega) hP⟩)
 have hb:=La hw (i:=t.k) (by omega)
 have hlen:=h.len
 rw[List.length_map]at hs
 have h3:(st.loads.length:Int)*(2^(131+k)*99)≤24*(2^(131+k)*99):=Int.mul_le_mul_of_nonneg_right (by omega) (by omega)
 have h4:(1:Int)≤t.b*ws.getD t.k 0:=by
  have:0<(t.b:Int)*ws.getD t.k 0:=Int.mul_pos (by omega) (by omega)
  omega
 have h5:t.b*ws.getD t.k 0≤20*99:=Int.mul_le_mul (by omega) hb.2 (by omega) (by decide)
 have h6:(2:Int)^(145+k)=2^(131+k)*16384:=by rw[show 145+k=(131+k)+14 by omega,Int.pow_add];rfl
 have h7:(1:Int)≤2^(131+k):=by have:(0:Int)<2^(131+k):=Int.pow_pos (by decide);omega
 have h7':(2:Int)^11≤2^(131+k):=by
  have:(2^11:Nat)≤2^(131+k):=Nat.pow_le_pow_right (by decide) (by omega)
  exact_mod_cast this
 unfold D9
 rw[h6]
 generalize (2:Int)^(131+k)=P at*
 omega
theorem Q5(ht:JK t)(h:Fz t k st)(hl:ws.length=t.k+1)(hw:∀w∈ws,1≤w/\w≤99)(hi:l<st.loads.length)(h1:1≤n)(h2:n≤(AS st.loads l).n):0<n*ws.getD (AS st.loads l).k 0/\n*ws.getD (AS st.loads l).k 0<D9 t st.loads ws:=by
 obtain⟨t1,t2,t3,t4,t5,t6⟩:=ht
 have hw1:=La hw (i:=(AS st.loads l).k) (by have:=h.kind _ (Av hi);omega)
 have hb:=La hw (i:=t.k) (by omega)
 have h4:(1:Int)≤t.b*ws.getD t.k 0:=by
  have:0<(t.b:Int)*ws.getD t.k 0:=Int.mul_pos (by omega) (by omega)
  omega
 have h5:=Mf (xs:=st.loads.map fun l=>l.n*ws.getD l.k 0) (y:=(AS st.loads l).n*ws.getD (AS st.loads l).k 0) (by
  intro x hx
  obtain⟨y,hy,rfl⟩:=List.mem_map.mp hx
  have h1:=h.pcs y hy
  have h2:=La hw (i:=y.k) (by have:=h.kind y hy;omega)
  exact Int.mul_nonneg h1.1 (by omega)) (List.mem_map.mpr ⟨_,Av hi,rfl⟩)
 have h6:n*ws.getD (AS st.loads l).k 0≤(AS st.loads l).n*ws.getD (AS st.loads l).k 0:=Int.mul_le_mul_of_nonneg_right h2 (by omega)
 refine⟨Int.mul_pos (by omega) (by omega),?_⟩
 unfold D9
 omega
theorem Ke(hi:l<st.loads.length):IK t st.loads l n ws=((n*ws.getD (AS st.loads l).k 0:Int):Rat) / (D9 t st.loads ws:Rat):=by
 unfold IK
 rw[EO hi]
 rfl
theorem Ek{x:Int}{j:Nat}(h0:0≤x)(h1:x<2^j):x.natAbs<2^j:=by
 have:((x.natAbs:Nat):Int)<((2^j:Nat):Int):=by
  rw[Int.natAbs_of_nonneg h0];push_cast;exact h1
 exact_mod_cast this
theorem TB(ht:JK t)(h:Fz t k st)(hk:k≤20)(hl:ws.length=t.k+1)(hw:∀w∈ws,1≤w/\w≤99)(hi:l<st.loads.length)(h1:1≤n)(h2:n≤(AS st.loads l).n):Sz (145+k) (IK t st.loads l n ws):=by
 have a:=JA ht h hk hl hw
 have b:=Q5 ht h hl hw hi h1 h2
 rw[Ke hi]
 exact K9 a.1 (Ek (by omega) (by omega)) (Ek (by omega) a.2)
theorem X6{s r m:Nat}{as:List Nat}(hS:SAt S s r m as st)(ht:JK t)(h:Fz t k st)(hk:k≤20)(hl:ws.length=t.k+1)(hw:∀w∈ws,1≤w/\w≤99)(hi:l<st.loads.length)(h1:1≤n)(h2:n≤(AS st.loads l).n):HY [t.d,.ref r,(Af.thr l n ws).d] S=some (aD (IK t st.loads l n ws),S):=by
 have a:=JA ht h hk hl hw
 obtain⟨x,x1,x2,x3⟩:=hS.at hi
 have hlen:=h.len
 have e:=CZ (gs:=[(r,as.map D.ref)]) (t:=tTp [(tNm 1),(tNm 2),(tNm 3)]) (f:=eOp (o2 Cn) [(eV 2),(eOp (o2 wIx) [(eV 0),(eV 1)])]) (C:=[some (.tup (ws.map D.int))]) (m:=3) (e:=fun z:Nat×Ld=>D.ref z.1) (g:=fun z=>D.int (z.2.n*ws.getD z.2.k 0)) hS.guard (xs:=as.zip st.loads) (acc:=[]) (os:=[none,none,none]) rfl (Nat.le_trans (show _≤24 by simp;omega) (AV (by decide))) (by
  intro z hz os ho
  obtain⟨q1,q2,q3,rfl⟩:∃q1 q2 q3,os=[q1,q2,q3]:=by
   match os,ho with
   | [a,b,c],_=>exact⟨a,b,c,rfl⟩
  have c1:=hS.zmem hz
  have hm:z.2∈st.loads:=(List.of_mem_zip (a:=z.1) (b:=z.2) hz).2
  have hk:=h.kind _ hm
  have w1:=P8 (ws:=ws) (i:=z.2.k) (by omega)
  have w2:=La hw (i:=z.2.k) (by omega)
  have m1:Dl z.2.n (ws.getD z.2.k 0)=true:=mulR (by omega) (by omega)
  generalize ws.getD z.2.k 0=wz at*
  refine⟨[some (.int z.2.k),some (.int z.2.n),some (shD z.2.ow)],rfl,?_,?_⟩
  ·simp[AQ c1,CN]
  ·simp[w1,m1])
 rw[←Pm hS.len,←RX hS.len (fun x=>D.int (x.n*ws.getD x.k 0))]at e
 have e':=e
 simp only[List.cons_append,List.nil_append]at e'
 rw[Ke hi]
 have es:Iw (st.loads.map fun x=>D.int (x.n*ws.getD x.k 0))=some (st.loads.map fun x=>x.n*ws.getD x.k 0):=by
  have:=FQ (st.loads.map fun x=>x.n*ws.getD x.k 0)
  rwa [List.map_map]at this
 have w1:=P8 (ws:=ws) (i:=(AS st.loads l).k) (by have:=h.kind _ (Av hi);omega)
 have w3:=La hw (i:=(AS st.loads l).k) (by have:=h.kind _ (Av hi);omega)
 have w2:=NZ hl
 have w4:=La hw (i:=t.k) (by omega)
 have m1:Dl n (ws.getD (AS st.loads l).k 0)=true:=mulR (by omega) (by omega)
 have m2:Dl (t.b:Int) (ws.getD t.k 0)=true:=mulR (by omega) (by omega)
 have l1:=Qe (S:=S) (t:=n*ws.getD (AS st.loads l).k 0) a.1 (Cf (Ek (by omega) a.2) (by omega))
 have e2:D9 t st.loads ws=(st.loads.map fun x=>x.n*ws.getD x.k 0).sum+t.b*ws.getD t.k 0:=rfl
 rw[e2]at l1⊢
 generalize aD (((n*ws.getD (AS st.loads l).k 0:Int):Rat) / (((st.loads.map fun x=>x.n*ws.getD x.k 0).sum+t.b*ws.getD t.k 0:Int):Rat))=R at*
 generalize (st.loads.map fun x=>x.n*ws.getD x.k 0)=es' at*
 generalize (st.loads.map fun x=>D.int (x.n*ws.getD x.k 0))=es2 at*
 generalize ws.getD (AS st.loads l).k 0=wa at*
 generalize ws.getD t.k 0=wb at*
 have dx:=A1 x2
 have dl:=A1 hS.lo
 simp[HY,MY,Af.d,Tr.d,EE hS.lo,e',es,w2,m2,dl,x3,dx,CN,w1,m1,l1]
theorem Ri{G B:Nat}(ht:JK t)(h:Fz t k st)(hk:k≤20)(hl:ws.length=t.k+1)(hw:∀w∈ws,1≤w/\w≤99)(hi:l<st.loads.length)(h1:1≤n)(h2:n≤(AS st.loads l).n){os ss:List Rat}(ho:∀r∈os,Ok G B r)(hs:∀r∈ss,Ok G B r):∀r∈Gu (IK t st.loads l n ws) os ss,Ok (G*(D9 t st.loads ws).toNat) (B*(D9 t st.loads ws).toNat) r:=by
 have a:=JA ht h hk hl hw
 have b:=Q5 ht h hl hw hi h1 h2
 intro r hr
 unfold Gu at hr
 rw[List.mem_iff_getElem?]at hr
 obtain⟨i,hi'⟩:=hr
 rw[List.getElem?_zipWith_eq_some]at hi'
 obtain⟨x,y,hx,hy,rfl⟩:=hi'
 rw[Ke hi]
 generalize n*ws.getD (AS st.loads l).k 0=c at*
 generalize D9 t st.loads ws=W at*
 have:=Ok.mix (a:=(W-c).toNat) (b:=c.toNat) (t:=W.toNat) (hs x (List.mem_of_getElem? hx)) (ho y (List.mem_of_getElem? hy)) (by omega) (by omega)
 have e1:(((W-c).toNat:Nat):Rat)=(W:Rat)-(c:Rat):=by
  have:(((W-c).toNat:Nat):Int)=W-c:=Int.toNat_of_nonneg (by omega)
  have:((((W-c).toNat:Nat):Int):Rat)=((W-c:Int):Rat):=by rw[this]
  push_cast at this
  exact this
 have e2:((c.toNat:Nat):Rat)=(c:Rat):=by
  have:((c.toNat:Nat):Int)=c:=Int.toNat_of_nonneg (by omega)
  have:(((c.toNat:Nat):Int):Rat)=(c:Rat):=by rw[this]
  exact this
 have e3:((W.toNat:Nat):Rat)=(W:Rat):=by
  have:((W.toNat:Nat):Int)=W:=Int.toNat_of_nonneg (by omega)
  have:(((W.toNat:Nat):Int):Rat)=(W:Rat):=by rw[this]
  exact this
 rw[e1,e2,e3]at this
 have ne:(W:Rat)≠0:=by
  intro z
  have:=Rat.intCast_eq_zero_iff.mp z
  omega
 have ev:(x*((W:Rat)-(c:Rat))+y*(c:Rat)) / (W:Rat)=x*(1-(c:Rat) / (W:Rat))+y*((c:Rat) / (W:Rat)):=by grind
 rw[ev]at this
 exact this
end
end
section
variable{S:Sto}
theorem Ao{x y:Str}(h:PyData.strOk x=true)(g:PyData.strOk y=true):Dj (.str x) (.str y)=true:=by
 unfold Dj
 show(PyData.strOk x && PyData.strOk y && _)=true
 rw[h,g]
 rfl
theorem C4:PyData.strOk (Str.ofString "bring")=true:=by decide+kernel
theorem Em:PyData.strOk (Str.ofString "pool")=true:=by decide+kernel
theorem Ep:PyData.strOk (Str.ofString "swap")=true:=by decide+kernel
theorem C2:PyData.strOk (Str.ofString "trade")=true:=by decide+kernel
theorem ER:PyData.strOk (Str.ofString "spoil")=true:=by decide+kernel
theorem C5:PyData.strOk (Str.ofString "throw")=true:=by decide+kernel
theorem EG:PyData.strOk (Str.ofString "sell")=true:=by decide+kernel
@[simp] theorem T7:Dj (.str (Str.ofString "bring")) (.str (Str.ofString "bring"))=true:=Ao C4 C4
@[simp] theorem To:deq (.str (Str.ofString "bring")) (.str (Str.ofString "bring"))=true:=nr rfl
@[simp] theorem Vf:Dj (.str (Str.ofString "bring")) (.str (Str.ofString "pool"))=true:=Ao C4 Em
@[simp] theorem V5:deq (.str (Str.ofString "bring")) (.str (Str.ofString "pool"))=false:=nr rfl
@[simp] theorem VX:Dj (.str (Str.ofString "bring")) (.str (Str.ofString "swap"))=true:=Ao C4 Ep
@[simp] theorem UM:deq (.str (Str.ofString "bring")) (.str (Str.ofString "swap"))=false:=nr rfl
@[simp] theorem Tn:Dj (.str (Str.ofString "bring")) (.str (Str.ofString "trade"))=true:=Ao C4 C2
@[simp] theorem UE:deq (.str (Str.ofString "bring")) (.str (Str.ofString "trade"))=false:=nr rfl
@[simp] theorem UD:Dj (.str (Str.ofString "bring")) (.str (Str.ofString "throw"))=true:=Ao C4 C5
@[simp] theorem Tj:deq (.str (Str.ofString "bring")) (.str (Str.ofString "throw"))=false:=nr rfl
@[simp] theorem UX:Dj (.str (Str.ofString "bring")) (.str (Str.ofString "sell"))=true:=Ao C4 EG
@[simp] theorem V4:deq (.str (Str.ofString "bring")) (.str (Str.ofString "sell"))=false:=nr rfl
@[simp] theorem Vv:wIn false (.val (.str "bring")) (.val (.tup [.str "spoil",.str "throw"]))=some (.val (.bl false)):=nr rfl
@[simp] theorem UU:Dj (.str (Str.ofString "pool")) (.str (Str.ofString "bring"))=true:=Ao Em C4
@[simp] theorem Vj:deq (.str (Str.ofString "pool")) (.str (Str.ofString "bring"))=false:=nr rfl
@[simp] theorem Wq:Dj (.str (Str.ofString "pool")) (.str (Str.ofString "pool"))=true:=Ao Em Em
@[simp] theorem WW:deq (.str (Str.ofString "pool")) (.str (Str.ofString "pool"))=true:=nr rfl
@[simp] theorem Vu:Dj (.str (Str.ofString "pool")) (.str (Str.ofString "trade"))=true:=Ao Em C2
@[simp] theorem Uq:deq (.str (Str.ofString "pool")) (.str (Str.ofString "trade"))=false:=nr rfl
@[simp] theorem Uu:Dj (.str (Str.ofString "pool")) (.str (Str.ofString "throw"))=true:=Ao Em C5
@[simp] theorem U4:deq (.str (Str.ofString "pool")) (.str (Str.ofString "throw"))=false:=nr rfl
@[simp] theorem Wo:Dj (.str (Str.ofString "pool")) (.str (Str.ofString "sell"))=true:=Ao Em EG
@[simp] theorem WM:deq (.str (Str.ofString "pool")) (.str (Str.ofString "sell"))=false:=nr rfl
@[simp] theorem fX:wIn false (.val (.str "pool")) (.val DM)=some (.val (.bl true)):=nr rfl
@[simp] theorem Vx:Dj (.str (Str.ofString "swap")) (.str (Str.ofString "bring"))=true:=Ao Ep C4
@[simp] theorem U1:deq (.str (Str.ofString "swap")) (.str (Str.ofString "bring"))=false:=nr rfl
@[simp] theorem W4:Dj (.str (Str.ofString "swap")) (.str (Str.ofString "pool"))=true:=Ao Ep Em
@[simp] theorem WJ:deq (.str (Str.ofString "swap")) (.str (Str.ofString "pool"))=false:=nr rfl
@[simp] theorem WI:Dj (.str (Str.ofString "swap")) (.str (Str.ofString "swap"))=true:=Ao Ep Ep
@[simp] theorem Wm:deq (.str (Str.ofString "swap")) (.str (Str.ofString "swap"))=true:=nr rfl
@[simp] theorem V0:Dj (.str (Str.ofString "swap")) (.str (Str.ofString "trade"))=true:=Ao Ep C2
@[simp] theorem Vw:deq (.str (Str.ofString "swap")) (.str (Str.ofString "trade"))=false:=nr rfl
@[simp] theorem UR:Dj (.str (Str.ofString "swap")) (.str (Str.ofString "throw"))=true:=Ao Ep C5
@[simp] theorem Uz:deq (.str (Str.ofString "swap")) (.str (Str.ofString "throw"))=false:=nr rfl
@[simp] theorem W0:Dj (.str (Str.ofString "swap")) (.str (Str.ofString "sell"))=true:=Ao Ep EG
@[simp] theorem Wz:deq (.str (Str.ofString "swap")) (.str (Str.ofString "sell"))=false:=nr rfl
@[simp] theorem Xi:wIn false (.val (.str "swap")) (.val (.tup [.str "swap",.str "trade"]))=some (.val (.bl true)):=nr rfl
@[simp] theorem fN:wIn false (.val (.str "swap")) (.val DM)=some (.val (.bl true)):=nr rfl
@[simp] theorem UA:Dj (.str (Str.ofString "trade")) (.str (Str.ofString "bring"))=true:=Ao C2 C4
@[simp] theorem Ts:deq (.str (Str.ofString "trade")) (.str (Str.ofString "bring"))=false:=nr rfl
@[simp] theorem Uv:Dj (.str (Str.ofString "trade")) (.str (Str.ofString "pool"))=true:=Ao C2 Em
@[simp] theorem U8:deq (.str (Str.ofString "trade")) (.str (Str.ofString "pool"))=false:=nr rfl
@[simp] theorem Vb:Dj (.str (Str.ofString "trade")) (.str (Str.ofString "swap"))=true:=Ao C2 Ep
@[simp] theorem V9:deq (.str (Str.ofString "trade")) (.str (Str.ofString "swap"))=false:=nr rfl
@[simp] theorem UH:Dj (.str (Str.ofString "trade")) (.str (Str.ofString "trade"))=true:=Ao C2 C2
@[simp] theorem Tt:deq (.str (Str.ofString "trade")) (.str (Str.ofString "trade"))=true:=nr rfl
@[simp] theorem Tu:Dj (.str (Str.ofString "trade")) (.str (Str.ofString "throw"))=true:=Ao C2 C5
@[simp] theorem T4:deq (.str (Str.ofString "trade")) (.str (Str.ofString "throw"))=false:=nr rfl
@[simp] theorem VD:Dj (.str (Str.ofString "trade")) (.str (Str.ofString "sell"))=true:=Ao C2 EG
@[simp] theorem WB:deq (.str (Str.ofString "trade")) (.str (Str.ofString "sell"))=false:=nr rfl
@[simp] theorem WQ:wIn false (.val (.str "trade")) (.val (.tup [.str "swap",.str "trade"]))=some (.val (.bl true)):=nr rfl
@[simp] theorem dC:wIn false (.val (.str "trade")) (.val DM)=some (.val (.bl true)):=nr rfl
@[simp] theorem Tx:Dj (.str (Str.ofString "spoil")) (.str (Str.ofString "bring"))=true:=Ao ER C4
@[simp] theorem Tv:deq (.str (Str.ofString "spoil")) (.str (Str.ofString "bring"))=false:=nr rfl
@[simp] theorem UO:Dj (.str (Str.ofString "spoil")) (.str (Str.ofString "pool"))=true:=Ao ER Em
@[simp] theorem VE:deq (.str (Str.ofString "spoil")) (.str (Str.ofString "pool"))=false:=nr rfl
@[simp] theorem U2:Dj (.str (Str.ofString "spoil")) (.str (Str.ofString "swap"))=true:=Ao ER Ep
@[simp] theorem Vs:deq (.str (Str.ofString "spoil")) (.str (Str.ofString "swap"))=false:=nr rfl
@[simp] theorem Ti:Dj (.str (Str.ofString "spoil")) (.str (Str.ofString "trade"))=true:=Ao ER C2
@[simp] theorem UB:deq (.str (Str.ofString "spoil")) (.str (Str.ofString "trade"))=false:=nr rfl
@[simp] theorem Tq:Dj (.str (Str.ofString "spoil")) (.str (Str.ofString "spoil"))=true:=Ao ER ER
@[simp] theorem Th:deq (.str (Str.ofString "spoil")) (.str (Str.ofString "spoil"))=true:=nr rfl
@[simp] theorem T8:Dj (.str (Str.ofString "spoil")) (.str (Str.ofString "throw"))=true:=Ao ER C5
@[simp] theorem Tp:deq (.str (Str.ofString "spoil")) (.str (Str.ofString "throw"))=false:=nr rfl
@[simp] theorem Uw:Dj (.str (Str.ofString "spoil")) (.str (Str.ofString "sell"))=true:=Ao ER EG
@[simp] theorem Vn:deq (.str (Str.ofString "spoil")) (.str (Str.ofString "sell"))=false:=nr rfl
@[simp] theorem Wk:wIn false (.val (.str "spoil")) (.val (.tup [.str "swap",.str "trade"]))=some (.val (.bl false)):=nr rfl
@[simp] theorem Vy:wIn false (.val (.str "spoil")) (.val (.tup [.str "spoil",.str "throw"]))=some (.val (.bl true)):=nr rfl
@[simp] theorem dR:wIn false (.val (.str "spoil")) (.val DM)=some (.val (.bl false)):=nr rfl
@[simp] theorem Tw:Dj (.str (Str.ofString "throw")) (.str (Str.ofString "bring"))=true:=Ao C5 C4
@[simp] theorem UI:deq (.str (Str.ofString "throw")) (.str (Str.ofString "bring"))=false:=nr rfl
@[simp] theorem Vo:Dj (.str (Str.ofString "throw")) (.str (Str.ofString "pool"))=true:=Ao C5 Em
@[simp] theorem V7:deq (.str (Str.ofString "throw")) (.str (Str.ofString "pool"))=false:=nr rfl
@[simp] theorem Vq:Dj (.str (Str.ofString "throw")) (.str (Str.ofString "swap"))=true:=Ao C5 Ep
@[simp] theorem U9:deq (.str (Str.ofString "throw")) (.str (Str.ofString "swap"))=false:=nr rfl
@[simp] theorem UC:Dj (.str (Str.ofString "throw")) (.str (Str.ofString "trade"))=true:=Ao C5 C2
@[simp] theorem T6:deq (.str (Str.ofString "throw")) (.str (Str.ofString "trade"))=false:=nr rfl
@[simp] theorem T5:Dj (.str (Str.ofString "throw")) (.str (Str.ofString "spoil"))=true:=Ao C5 ER
@[simp] theorem Tz:deq (.str (Str.ofString "throw")) (.str (Str.ofString "spoil"))=false:=nr rfl
@[simp] theorem T9:Dj (.str (Str.ofString "throw")) (.str (Str.ofString "throw"))=true:=Ao C5 C5
@[simp] theorem UJ:deq (.str (Str.ofString "throw")) (.str (Str.ofString "throw"))=true:=nr rfl
@[simp] theorem WY:wIn false (.val (.str "throw")) (.val (.tup [.str "swap",.str "trade"]))=some (.val (.bl false)):=nr rfl
@[simp] theorem Uk:wIn false (.val (.str "throw")) (.val (.tup [.str "spoil",.str "throw"]))=some (.val (.bl true)):=nr rfl
@[simp] theorem cV:wIn false (.val (.str "throw")) (.val DM)=some (.val (.bl false)):=nr rfl
@[simp] theorem U0:Dj (.str (Str.ofString "sell")) (.str (Str.ofString "bring"))=true:=Ao EG C4
@[simp] theorem Up:deq (.str (Str.ofString "sell")) (.str (Str.ofString "bring"))=false:=nr rfl
@[simp] theorem Wu:Dj (.str (Str.ofString "sell")) (.str (Str.ofString "pool"))=true:=Ao EG Em
@[simp] theorem Wx:deq (.str (Str.ofString "sell")) (.str (Str.ofString "pool"))=false:=nr rfl
@[simp] theorem We:Dj (.str (Str.ofString "sell")) (.str (Str.ofString "swap"))=true:=Ao EG Ep
@[simp] theorem WV:deq (.str (Str.ofString "sell")) (.str (Str.ofString "swap"))=false:=nr rfl
@[simp] theorem Uc:Dj (.str (Str.ofString "sell")) (.str (Str.ofString "trade"))=true:=Ao EG C2
@[simp] theorem VO:deq (.str (Str.ofString "sell")) (.str (Str.ofString "trade"))=false:=nr rfl
@[simp] theorem UW:Dj (.str (Str.ofString "sell")) (.str (Str.ofString "spoil"))=true:=Ao EG ER
@[simp] theorem Vh:deq (.str (Str.ofString "sell")) (.str (Str.ofString "spoil"))=false:=nr rfl
@[simp] theorem Vd:Dj (.str (Str.ofString "sell")) (.str (Str.ofString "throw"))=true:=Ao EG C5
@[simp] theorem VP:deq (.str (Str.ofString "sell")) (.str (Str.ofString "throw"))=false:=nr rfl
@[simp] theorem Wb:Dj (.str (Str.ofString "sell")) (.str (Str.ofString "sell"))=true:=Ao EG EG
@[simp] theorem Ww:deq (.str (Str.ofString "sell")) (.str (Str.ofString "sell"))=true:=nr rfl
@[simp] theorem XN:wIn false (.val (.str "sell")) (.val (.tup [.str "swap",.str "trade"]))=some (.val (.bl false)):=nr rfl
@[simp] theorem Wg:wIn false (.val (.str "sell")) (.val (.tup [.str "spoil",.str "throw"]))=some (.val (.bl false)):=nr rfl
@[simp] theorem fe:wIn false (.val (.str "sell")) (.val DM)=some (.val (.bl false)):=nr rfl
@[simp] theorem aH:dr S DM=.val DM:=nr rfl
section
variable{a b c d e f:D}{r:List D}
@[simp] theorem ab:MB [a,b,c,d,e] (some (-4)) none=[b,c,d,e]:=nr rfl
@[simp] theorem bD:MB [a,b,c,d,e,f] (some (-4)) none=[c,d,e,f]:=nr rfl
@[simp] theorem dB:MB [a,b,c,d] (some 1) none=[b,c,d]:=nr rfl
@[simp] theorem bO:MB [a,b,c,d,e] (some 1) (some 2)=[b]:=nr rfl
@[simp] theorem bA:MB [a,b,c,d,e,f] (some 1) (some 2)=[b]:=nr rfl
@[simp] theorem bL{ds zs:List D}:bp S ds [.tup zs]=if ds.length+zs.length≤sizeLine then some (.non,ds++zs)else none:=nr rfl
end
end
section
variable{S S':Sto}{s l m:Nat}{as:List Nat}{st:Stt}
theorem SAt.same(h:SAt S s l m as st)(g:Bz A S S')(hA:∀n∈A,n∉s::l::m::as):SAt S' s l m as st where
 root:=g.get h.root fun z=>hA _ z (by simp)
 lo:=g.get h.lo fun z=>hA _ z (by simp)
 nu:=g.get h.nu fun z=>hA _ z (by simp)
 ld:=fun i a x ha hx=>g.get (h.ld i a x ha hx) fun z=>hA _ z (by simp[List.mem_of_getElem? ha])
 len:=h.len
 nd:=h.nd
theorem SAt.same0(h:SAt S s l m as st)(g:Bz [] S S'):SAt S' s l m as st:=h.same g fun _ z=>(nomatch z)
theorem SAt.ne(h:SAt S s l m as st):s≠l/\s≠m/\l≠m/\s∉as/\l∉as/\m∉as/\as.Nodup:=by
 have:=h.nd
 simp only[List.nodup_cons,List.mem_cons,not_or]at this
 obtain⟨⟨a,b,c⟩,⟨d,e⟩,f,g⟩:=this
 exact⟨a,b,d,c,e,f,g⟩
theorem SAt.setld(h:SAt S s l m as st){i a:Nat}{y:Ld}(ha:as[i]?=some a):SAt (S.set a (CN y)) s l m as {st with loads:=st.loads.set i y}:=by
 obtain⟨n1,n2,n3,n4,n5,n6,n7⟩:=h.ne
 have ma:=List.mem_of_getElem? ha
 have q1:a≠s:=fun e=>n4 (e▸ma)
 have q2:a≠l:=fun e=>n5 (e▸ma)
 have q3:a≠m:=fun e=>n6 (e▸ma)
 have hi:i<as.length:=(List.getElem?_eq_some_iff.mp ha).1
 have hi':i<st.loads.length:=by rw[←h.len];exact hi
 refine⟨by rw[List.getElem?_set_ne q1];exact h.root,by rw[List.getElem?_set_ne q2];exact h.lo,by rw[List.getElem?_set_ne q3];exact h.nu,?_,by simp[h.len],h.nd⟩
 intro j b x hb hx
 by_cases e:i=j
 ·subst e
  rw[ha]at hb
  cases hb
  have hx':(st.loads.set i y)[i]?=some x:=hx
  rw[List.getElem?_set_self hi']at hx'
  cases hx'
  have hl:a<S.length:=Aa (h.ld i a _ ha (List.getElem?_eq_getElem hi'))
  exact List.getElem?_set_self hl
 ·have hx':(st.loads.set i y)[j]?=some x:=hx
  rw[List.getElem?_set_ne e]at hx'
  have:a≠b:=by
   intro z
   subst z
   exact e ((List.getElem?_inj hi n7).mp (ha.trans hb.symm))
  rw[List.getElem?_set_ne this]
  exact h.ld j b x hb hx'
theorem SAt.lts(h:SAt S s l m as st):∀n∈s::l::m::as,n<S.length:=by
 intro n hn
 simp only[List.mem_cons]at hn
 rcases hn with rfl|rfl|rfl|hn
 ·exact Aa h.root
 ·exact Aa h.lo
 ·exact Aa h.nu
 ·obtain⟨i,hi⟩:=List.mem_iff_getElem?.mp hn
  have:i<st.loads.length:=by rw[←h.len];exact(List.getElem?_eq_some_iff.mp hi).1
  exact Aa (h.ld i n _ hi (List.getElem?_eq_getElem this))
theorem SAt.app(h:SAt S s l m as st)(y:Ld):SAt ((S++[CN y]).set l (.lst (as.map D.ref++[.ref S.length]))) s l m (as++[S.length]) {st with loads:=st.loads++[y]}:=by
 obtain⟨n1,n2,n3,n4,n5,n6,n7⟩:=h.ne
 have lt:=h.lts
 have ls:=lt s (by simp);have ll:=lt l (by simp);have lm:=lt m (by simp)
 have la:∀a∈as,a<S.length:=fun a ha=>lt a (by simp[ha])
 refine⟨?_,?_,?_,?_,by simp[h.len],?_⟩
 ·rw[List.getElem?_set_ne (Ne.symm n1),List.getElem?_append_left ls];exact h.root
 ·rw[List.getElem?_set_self (by simp;omega)];simp
 ·rw[List.getElem?_set_ne n3,List.getElem?_append_left lm];exact h.nu
 ·intro i a x ha hx
  by_cases e:i<as.length
  ·rw[List.getElem?_append_left e]at ha
   have hx':(st.loads++[y])[i]?=some x:=hx
   rw[List.getElem?_append_left (by rw[←h.len];exact e)]at hx'
   have ma:=List.mem_of_getElem? ha
   rw[List.getElem?_set_ne (show l≠a by rintro rfl;exact n5 ma),List.getElem?_append_left (la a ma)]
   exact h.ld i a x ha hx'
  ·have hx':(st.loads++[y])[i]?=some x:=hx
   have:i=as.length:=by
    have:=(List.getElem?_eq_some_iff.mp ha).1
    simp at this;omega
   subst this
   rw[List.getElem?_concat_length]at ha
   cases ha
   rw[h.len,List.getElem?_concat_length]at hx'
   cases hx'
   rw[List.getElem?_set_ne (by omega),List.getElem?_concat_length]
 ·have:(s::l::m::(as++[S.length]))=(s::l::m::as)++[S.length]:=by simp
  rw[this,List.nodup_append]
  refine⟨h.nd,by simp,?_⟩
  intro a ha b hb e
  simp only[List.mem_cons,List.not_mem_nil,or_false]at hb
  have:=lt a ha
  omega
theorem SAt.hold(h:SAt S s l m as st)(rs:List Rat):SAt (S.set s (.lst [.ref l,shD rs,.ref m])) s l m as {st with hold:=rs}:=by
 obtain⟨n1,n2,n3,n4,n5,n6,n7⟩:=h.ne
 refine⟨List.getElem?_set_self (h.lts s (by simp)),by rw[List.getElem?_set_ne n1];exact h.lo,by rw[List.getElem?_set_ne n2];exact h.nu,?_,h.len,h.nd⟩
 intro i a x ha hx
 rw[List.getElem?_set_ne (show s≠a by rintro rfl;exact n4 (List.mem_of_getElem? ha))]
 exact h.ld i a x ha hx
theorem SAt.nums(h:SAt S s l m as st)(us:List Int):SAt (S.set m (.lst (us.map D.int))) s l m as {st with nums:=us}:=by
 obtain⟨n1,n2,n3,n4,n5,n6,n7⟩:=h.ne
 refine⟨by rw[List.getElem?_set_ne (Ne.symm n2)];exact h.root,by rw[List.getElem?_set_ne (Ne.symm n3)];exact h.lo,List.getElem?_set_self (h.lts m (by simp)),?_,h.len,h.nd⟩
 intro i a x ha hx
 rw[List.getElem?_set_ne (show m≠a by rintro rfl;exact n6 (List.mem_of_getElem? ha))]
 exact h.ld i a x ha hx
theorem Ox{f:Ld->Ld}{body:Ex}{C:En}{i8:Nat}{o0:Option D}(h:SAt S s l m as st)(hi:C.length=i8)
  (hb:∀(S':Sto) (a:Nat) (x:Ld),x∈st.loads->S'[a]?=some (CN x)->∃S2,body (C++[some (.ref a)]) S'=some (.nx,C++[some (.ref a)],S2.set a (CN (f x)))/\Bz [] S' S2):
  ∃o S',JV [(l,as.map D.ref)] (tNm i8) body (as.map D.ref) (C++[o0]) S=some (.nx,C++[o],S')/\SAt S' s l m as {st with loads:=st.loads.map f}/\Bz as S S':=by
 obtain⟨E',S',e,i,o,i1,i2,rfl,i3,i4⟩:=EL (gs:=[(l,as.map D.ref)]) (t:=tNm i8) (b:=body)
  (I:=fun ds E S'=>∃(i:Nat) (o:Option D),ds=(as.drop i).map D.ref/\i≤as.length/\E=C++[o]/\SAt S' s l m as {st with loads:=(st.loads.take i).map f++st.loads.drop i}/\Bz as S S')
  (fun ds E S' hI=>by obtain⟨i,o,_,_,_,h1,_⟩:=hI;exact h1.guard) (ds:=as.map D.ref) (E:=C++[o0]) (S:=S)
  ⟨0, o0, by simp, Nat.zero_le _, rfl, by simpa using h, .refl⟩ (by
   rintro d ds E S1 ⟨i,o,i1,i2,rfl,i3,i4⟩
   have hlt:i<as.length:=by
    rcases Nat.lt_or_ge i as.length with w|w
    ·exact w
    ·rw[List.drop_eq_nil_of_le w]at i1;cases i1
   rw[List.drop_eq_getElem_cons hlt,List.map_cons]at i1
   injection i1 with e1 e2
   subst e1 e2
   have hl2:i<st.loads.length:=by rw[←h.len];exact hlt
   have ha:=List.getElem?_eq_getElem hlt
   have hx:((st.loads.take i).map f++st.loads.drop i)[i]?=some st.loads[i]:=by
    rw[List.getElem?_append_right (by simp;omega)]
    simp[Nat.min_eq_left (Nat.le_of_lt hl2)]
   obtain⟨S2,e3,g3⟩:=hb S1 as[i] st.loads[i] (List.getElem_mem hl2) (i3.ld i _ _ ha hx)
   have k:=(i3.same0 g3).setld (y:=f st.loads[i]) ha
   refine⟨C++[some (.ref as[i])],C++[some (.ref as[i])],S2.set as[i] (CN (f st.loads[i])),?_,e3,i+1,some (.ref as[i]),rfl,hlt,rfl,?_,?_⟩
   ·rw[X5]
    congr 1
    subst hi
    rw[List.set_append_right _ _ (Nat.le_refl _)]
    simp
   ·have:((st.loads.take i).map f++st.loads.drop i).set i (f st.loads[i])=(st.loads.take (i+1)).map f++st.loads.drop (i+1):=by
     rw[List.set_append_right _ _ (by simp;omega)]
     have e0:i-((st.loads.take i).map f).length=0:=by simp;omega
     rw[e0,List.drop_eq_getElem_cons hl2,List.set_cons_zero,List.take_succ_eq_append_getElem hl2,List.map_append]
     simp
    rw[←this]
    exact k
   ·exact(i4.trans (g3.mono fun _ z=>(nomatch z))).trans (.set (List.getElem_mem hlt)))
 refine⟨o,S',e,?_,i4⟩
 have hz:i=as.length:=by
  have:=congrArg List.length i1
  simp at this
  omega
 have:(st.loads.take i).map f++st.loads.drop i=st.loads.map f:=by
  rw[hz,h.len];simp
 rw[this]at i3
 exact i3
end
section
variable{S S':Sto}{s l m:Nat}{as:List Nat}{st:Stt}{t:Tr}{k:Nat}
theorem W5{i:Nat}{n:Int}{j:Nat}(hi:i<st.loads.length)(h:∀x∈st.loads,∀r∈x.ow,Sz j r):∀x∈less st.loads i n,∀r∈x.ow,Sz j r:=by
 intro x hx
 rcases NL hx hi with h1|h1
 ·exact h x h1
 ·rw[h1];exact h (AS st.loads i) (Av hi)
theorem TH{i:Nat}{n:Int}{j:Nat}(hi:i<st.loads.length)(h:∀x∈st.loads,x.ow.length=j):∀x∈less st.loads i n,x.ow.length=j:=by
 intro x hx
 rcases NL hx hi with h1|h1
 ·exact h x h1
 ·rw[h1];exact h (AS st.loads i) (Av hi)
theorem Vi(hS:SAt S s l m as st)(ht:JK t)(h:Fz t k st)(hk:k≤16){i:Nat}{n:Int}{ws:List Int}(hc:Can t st (.thr i n ws)):∃S',E9 [t.d,.ref s,(Af.thr i n ws).d] S=some (.non,S')/\SAt S' s l m as (step t st (.thr i n ws))/\Bz (s::l::m::as) S S':=by
 obtain⟨hi,h1,h2,hl,hw⟩:=hc
 have cO:=X6 hS ht h (by omega) hl hw hi h1 h2
 have cz:=TB ht h (by omega) hl hw hi h1 h2
 have sz:=h.sz
 obtain⟨a,a1,a2,a3⟩:=hS.at hi
 have hS1:=hS.setld (y:=⟨(AS st.loads i).k,(AS st.loads i).n-n,(AS st.loads i).ow⟩) a1
 have o1:=sz.1 _ (Av hi)
 have tp:=ht.2.1
 have hdef:step t st (.thr i n ws)={st with loads:=(less st.loads i n).map fun x=>{x with ow:=Gu (IK t st.loads i n ws) (AS st.loads i).ow x.ow},hold:=Gu (IK t st.loads i n ws) (AS st.loads i).ow st.hold}:=rfl
 rw[hdef]
 generalize hX:IK t st.loads i n ws=X at*
 obtain⟨o,S2,f1,f2,f3⟩:=Ox (f:=fun x=>{x with ow:=Gu X (AS st.loads i).ow x.ow}) (body:=KS (AK ED [(eOp (o2 wIx) [(eV 8),(eC (.int 2))]),(eV 6),(eV 7)]) (eV 8) (eC (.int 2))) (C:=[some t.d,some (.ref s),some (Af.thr i n ws).d,some (.ref l),some (shD st.hold),some (.ref m),some (aD X),some (shD (AS st.loads i).ow)]) (i8:=8) (o0:=none) hS1 rfl (by
  intro S' b x hx hb
  obtain⟨S2,e2,g2⟩:=Pr (S:=S') (x:=X) (ss:=x.ow) (os:=(AS st.loads i).ow) (j:=30+170*k) (i:=145+k) (W5 (n:=n) hi sz.1 x hx) o1 cz (by omega) (by rw[TH (n:=n) hi h.own x hx];omega)
  have hb2:=g2.get hb (by simp)
  refine⟨S2,?_,g2⟩
  simp[A1 hb,CN,e2,AQ hb2])
 obtain⟨S3,e3,g3⟩:=Pr (S:=S2) (x:=X) (ss:=st.hold) (os:=(AS st.loads i).ow) (j:=30+170*k) (i:=145+k) sz.2 o1 cz (by omega) (by rw[h.hold];omega)
 have f4:=(f2.same0 g3)
 have rt:=f4.root
 refine⟨S3.set s (.lst [.ref l,shD (Gu X (AS st.loads i).ow st.hold),.ref m]),?_,f4.hold _,?_⟩
 ·have f1':=f1
  simp only[List.cons_append,List.nil_append]at f1'
  have rt':DN S3 s=some [.ref l,shD st.hold,.ref m]:=AQ rt
  have r0:=AQ hS.root
  have lo:=A1 hS.lo
  have xx:=A1 a2
  have c2:=AQ a2
  have sq1:=EE hS1.lo
  simp only[CN]at f1' sq1 c2 xx
  simp only[Af.d]at f1' cO⊢
  simp[E9,JY,r0,cO,lo,a3,xx,c2,sq1,f1',e3,rt']
 ·have q1:Bz (s::l::m::as) S (S.set a (CN ⟨(AS st.loads i).k,(AS st.loads i).n-n,(AS st.loads i).ow⟩)):=.set (by simp[List.mem_of_getElem? a1])
  exact((q1.trans (f3.mono fun n hn=>by simp[hn])).trans (g3.mono fun _ z=>(nomatch z))).trans (.set (by simp))
theorem RE(hS:SAt S s l m as st)(ht:JK t)(h:Fz t k st)(hk:k≤16){p q:Nat}{x:Rat}(hc:Can t st (.sell p q x)):∃S',E9 [t.d,.ref s,(Af.sell p q x).d] S=some (.non,S')/\SAt S' s l m as (step t st (.sell p q x))/\Bz (s::l::m::as) S S':=by
 obtain⟨hpq,hp,hq,x1,x2,x3⟩:=hc
 have sz:=h.sz
 have hx:Sz 4 x:=by
  refine⟨?_,by omega⟩
  show x.num.natAbs<16
  omega
 have hdef:step t st (.sell p q x)={st with loads:=st.loads.map fun y=>{y with ow:=GK p q x y.ow},hold:=GK p q x st.hold}:=rfl
 rw[hdef]
 obtain⟨o,S2,f1,f2,f3⟩:=Ox (f:=fun y=>{y with ow:=GK p q x y.ow}) (body:=KS (AK FC [(eOp (o2 wIx) [(eV 8),(eC (.int 2))]),(eV 2)]) (eV 8) (eC (.int 2))) (C:=[some t.d,some (.ref s),some (Af.sell p q x).d,some (.ref l),some (shD st.hold),some (.ref m),none,none]) (i8:=8) (o0:=none) hS rfl (by
  intro S' b y hy hb
  obtain⟨S2,e2,g2⟩:=TV (S:=S') (p:=p) (q:=q) (x:=x) (ss:=y.ow) (j:=30+170*k) (i:=4) (sz.1 y hy) hx (by omega) (by rw[h.own y hy];exact hp) (by rw[h.own y hy];exact hq) hpq
  have hb2:=g2.get hb (by simp)
  refine⟨S2,?_,g2⟩
  simp[A1 hb,CN,e2,AQ hb2])
 obtain⟨S3,e3,g3⟩:=TV (S:=S2) (p:=p) (q:=q) (x:=x) (ss:=st.hold) (j:=30+170*k) (i:=4) sz.2 hx (by omega) (by rw[h.hold];exact hp) (by rw[h.hold];exact hq) hpq
 have f4:=(f2.same0 g3)
 have rt:=f4.root
 refine⟨S3.set s (.lst [.ref l,shD (GK p q x st.hold),.ref m]),?_,f4.hold _,?_⟩
 ·have f1':=f1
  simp only[List.cons_append,List.nil_append]at f1'
  have rt':DN S3 s=some [.ref l,shD st.hold,.ref m]:=AQ rt
  have r0:=AQ hS.root
  have sq1:=EE hS.lo
  simp only[Af.d]at f1' e3⊢
  simp[E9,JY,r0,sq1,f1',e3,rt']
 ·exact((f3.mono fun n hn=>by simp[hn]).trans (g3.mono fun _ z=>(nomatch z))).trans (.set (by simp))
end
section
variable{S S':Sto}{s l m:Nat}{as:List Nat}{st:Stt}{t:Tr}{k:Nat}
theorem PU{ls:List Ld}{l:Nat}{n:Int}:less ls l n=ls.set l ⟨(AS ls l).k,(AS ls l).n-n,(AS ls l).ow⟩:=rfl
theorem QG{P p:Nat}{cond:Int}{C:En}{dd:D}{f:Ev}(hP:P≤10)(hf:∀(i:Nat),f [some dd,some (.int i)] S=some (aD (if i=p then 1 else 0),S)):Bx [] (tNm 1) BU f (JJ 0 P) [] [some dd,none] S=some ((Ry P p).map aD,S):=by
 have:=CZ (gs:=[]) (t:=tNm 1) (f:=f) (C:=[some dd]) (m:=1) (e:=fun i:Nat=>D.int (0+(i:Int))) (g:=fun i=>aD (if i=p then 1 else 0)) (S:=S) Ad (xs:=List.range P) (acc:=[]) (os:=[none]) rfl (Nat.le_trans (show _≤10 by simp;omega) (AV (by decide))) (by
  intro i _ os ho
  obtain⟨o,rfl⟩:∃o,os=[o]:=by
   match os,ho with
   | [a],_=>exact⟨a,rfl⟩
  refine⟨[some (.int i)],rfl,by simp,hf i⟩)
 simp only[List.cons_append,List.nil_append]at this
 rw[Ry,List.map_map]
 exact this
theorem Uh(hS:SAt S s l m as st)(ht:JK t)(h:Fz t k st)(hk:k≤16){p kd:Nat}{n:Int}(hc:Can t st (.bring p kd n)):∃S' as',BP [t.d,.ref s,(Af.bring p kd n).d] S=some (.non,S')/\SAt S' s l m as' (step t st (.bring p kd n))/\Bz (s::l::m::as) S S'/\∀n∈as',n∈as∨S.length≤n:=by
 have tp:=ht.2.1
 have e:=QG (S:=S) (P:=t.p) (p:=p) (cond:=0) (C:=[]) (dd:=(Af.bring p kd n).d) (f:=CI [(eOp (o1 Xy) [(eOp (o2 wEq) [(eV 1),(eOp (o2 wIx) [(eV 0),(eC (.int 1))])])]),(eC (.int 1))]) (by omega) (by
  intro i
  by_cases hi:i=p
  ·subst hi;simp[Af.d];rfl
  ·have:((i:Int)==(p:Int))=false:=by simp;omega
   simp[Af.d,this,hi];rfl)
 have rn:Hj (t.p:Int)=true:=DF (by omega) (by omega)
 have hz:as.length<sizeLine:=Nat.lt_of_lt_of_le (show as.length<50 by rw[hS.len];have:=h.len;omega) (AV (by decide))
 refine⟨_,_,?_,hS.app ⟨kd,n,Ry t.p p⟩,?_,?_⟩
 ·have r0:=AQ hS.root
  have c0:=AQ hS.lo
  have c1:DN (S++[CN ⟨kd,n,Ry t.p p⟩]) l=some (as.map D.ref):=AQ (by rw[List.getElem?_append_left (Aa hS.lo)];exact hS.lo)
  simp only[CN]at c1⊢
  simp only[Af.d]at e⊢
  simp[BP,Ff,r0,Tr.d,rn,e,c0,shD]at c1⊢
  simp[c1,hz]
 ·exact Bz.app.trans (.set (by simp))
 ·intro n hn
  rcases List.mem_append.mp hn with w|w
  ·exact .inl w
  ·simp at w;exact .inr (by omega)
theorem V1(hS:SAt S s l m as st)(ht:JK t)(h:Fz t k st)(hk:k≤16){i:Nat}{n:Int}(hc:Can t st (.spoil i n)):∃S' as',BP [t.d,.ref s,(Af.spoil i n).d] S=some (.non,S')/\SAt S' s l m as' (step t st (.spoil i n))/\Bz (s::l::m::as) S S'/\∀n∈as',n∈as∨S.length≤n:=by
 obtain⟨hi,h1,h2⟩:=hc
 obtain⟨a,a1,a2,a3⟩:=hS.at hi
 refine⟨_,as,?_,hS.setld (y:=⟨(AS st.loads i).k,(AS st.loads i).n-n,(AS st.loads i).ow⟩) a1,.set (by simp[List.mem_of_getElem? a1]),fun n hn=>.inl hn⟩
 have r0:=AQ hS.root
 have lo:=A1 hS.lo
 have xx:=A1 a2
 have c2:=AQ a2
 simp only[CN]at c2 xx⊢
 simp[BP,Ff,Af.d,r0,lo,a3,xx,c2]
theorem Zc(hS:SAt S s l m as st)(ht:JK t)(h:Fz t k st)(hk:k≤16){i:Nat}{n:Int}{ws:List Int}(hc:Can t st (.thr i n ws)):∃S' as',BP [t.d,.ref s,(Af.thr i n ws).d] S=some (.non,S')/\SAt S' s l m as' (step t st (.thr i n ws))/\Bz (s::l::m::as) S S'/\∀n∈as',n∈as∨S.length≤n:=by
 obtain⟨S',e,g1,g2⟩:=Vi hS ht h hk hc
 refine⟨S',as,?_,g1,g2,fun n hn=>.inl hn⟩
 have r0:=AQ hS.root
 simp only[Af.d]at e⊢
 simp[BP,Ff,r0,e]
theorem Xa(hS:SAt S s l m as st)(ht:JK t)(h:Fz t k st)(hk:k≤16){p q:Nat}{x:Rat}(hc:Can t st (.sell p q x)):∃S' as',BP [t.d,.ref s,(Af.sell p q x).d] S=some (.non,S')/\SAt S' s l m as' (step t st (.sell p q x))/\Bz (s::l::m::as) S S'/\∀n∈as',n∈as∨S.length≤n:=by
 obtain⟨S',e,g1,g2⟩:=RE hS ht h hk hc
 refine⟨S',as,?_,g1,g2,fun n hn=>.inl hn⟩
 have r0:=AQ hS.root
 simp only[Af.d]at e⊢
 simp[BP,Ff,r0,e]
theorem Xh(hS:SAt S s l m as st)(ht:JK t)(h:Fz t k st)(hk:k≤16){i kd:Nat}{g n:Int}(hc:Can t st (.swap i g kd n)):∃S' as',BP [t.d,.ref s,(Af.swap i g kd n).d] S=some (.non,S')/\SAt S' s l m as' (step t st (.swap i g kd n))/\Bz (s::l::m::as) S S'/\∀n∈as',n∈as∨S.length≤n:=by
 obtain⟨hi,h1,h2,h3,h4,h5,h6⟩:=hc
 obtain⟨a,a1,a2,a3⟩:=hS.at hi
 have hS1:=hS.setld (y:=⟨(AS st.loads i).k,(AS st.loads i).n-g,(AS st.loads i).ow⟩) a1
 have hS2:=hS1.app ⟨kd,n,(AS st.loads i).ow⟩
 have hz:as.length<sizeLine:=Nat.lt_of_lt_of_le (show as.length<50 by rw[hS.len];have:=h.len;omega) (AV (by decide))
 have hz2:st.nums.length≤sizeLine:=Nat.le_trans (show _≤20 by have:=h.nm;omega) (AV (by decide))
 refine⟨_,_,?_,hS2,?_,?_⟩
 ·have r0:=AQ hS.root
  have lo:=A1 hS.lo
  have xx:=A1 a2
  have c2:=AQ a2
  have lo1:=A1 hS1.lo
  have co1:=AQ hS1.lo
  have x1:=A1 (List.getElem?_set_self (a:=CN ⟨(AS st.loads i).k,(AS st.loads i).n-g,(AS st.loads i).ow⟩) (Aa a2))
  have c4:DN ((S.set a (CN ⟨(AS st.loads i).k,(AS st.loads i).n-g,(AS st.loads i).ow⟩))++[CN ⟨kd,n,(AS st.loads i).ow⟩]) l=some (as.map D.ref):=AQ (by rw[List.getElem?_append_left (Aa hS1.lo)];exact hS1.lo)
  have nu:=hS2.nu
  have c5:=AQ nu
  have st5:∀{T:Sto},T[m]?=some (.lst (st.nums.map D.int))->T.set m (.lst (st.nums.map D.int))=T:=fun h=>set_same h
  have st6:=st5 nu
  simp only[CN]at c2 xx lo1 co1 x1 c4 c5 st6⊢
  have hz':(as.map D.ref).length<sizeLine:=by simpa using hz
  generalize (as.map D.ref)=refs at*
  simp[BP,Ff,Af.d,r0,lo,a3,xx,c2,lo1,x1,co1]at c4 c5 st6⊢
  simp[c4,hz',c5,hz2,st6]
 ·exact((Bz.set (by simp[List.mem_of_getElem? a1])).trans .app).trans (.set (by simp))
 ·intro n hn
  rcases List.mem_append.mp hn with w|w
  ·exact .inl w
  ·simp at w;exact .inr (by omega)
theorem U5(hS:SAt S s l m as st)(ht:JK t)(h:Fz t k st)(hk:k≤16){i kd:Nat}{u g n:Int}(hc:Can t st (.trade u i g kd n)):∃S' as',BP [t.d,.ref s,(Af.trade u i g kd n).d] S=some (.non,S')/\SAt S' s l m as' (step t st (.trade u i g kd n))/\Bz (s::l::m::as) S S'/\∀n∈as',n∈as∨S.length≤n:=by
 obtain⟨hi,h1,h2,h3,h4,h5,h6,h7,h8⟩:=hc
 obtain⟨a,a1,a2,a3⟩:=hS.at hi
 have hS1:=hS.setld (y:=⟨(AS st.loads i).k,(AS st.loads i).n-g,(AS st.loads i).ow⟩) a1
 have hS2:=hS1.app ⟨kd,n,(AS st.loads i).ow⟩
 have hz:as.length<sizeLine:=Nat.lt_of_lt_of_le (show as.length<50 by rw[hS.len];have:=h.len;omega) (AV (by decide))
 have hz2:st.nums.length+1≤sizeLine:=Nat.le_trans (show _≤20 by have:=h.nm;omega) (AV (by decide))
 refine⟨_,_,?_,hS2.nums (st.nums++[u]),?_,?_⟩
 ·have r0:=AQ hS.root
  have lo:=A1 hS.lo
  have xx:=A1 a2
  have c2:=AQ a2
  have lo1:=A1 hS1.lo
  have co1:=AQ hS1.lo
  have x1:=A1 (List.getElem?_set_self (a:=CN ⟨(AS st.loads i).k,(AS st.loads i).n-g,(AS st.loads i).ow⟩) (Aa a2))
  have c4:DN ((S.set a (CN ⟨(AS st.loads i).k,(AS st.loads i).n-g,(AS st.loads i).ow⟩))++[CN ⟨kd,n,(AS st.loads i).ow⟩]) l=some (as.map D.ref):=AQ (by rw[List.getElem?_append_left (Aa hS1.lo)];exact hS1.lo)
  have nu:=hS2.nu
  have c5:=AQ nu
  simp only[CN]at c2 xx lo1 co1 x1 c4 c5⊢
  have hz':(as.map D.ref).length<sizeLine:=by simpa using hz
  generalize (as.map D.ref)=refs at*
  simp[BP,Ff,Af.d,r0,lo,a3,xx,c2,lo1,x1,co1]at c4 c5⊢
  simp[c4,hz',c5,hz2]
 ·exact(((Bz.set (by simp[List.mem_of_getElem? a1])).trans .app).trans (.set (by simp))).trans (.set (by simp))
 ·intro n hn
  rcases List.mem_append.mp hn with w|w
  ·exact .inl w
  ·simp at w;exact .inr (by omega)
theorem XB(hS:SAt S s l m as st)(ht:JK t)(h:Fz t k st)(hk:k≤16){i j:Nat}(hc:Can t st (.pool i j)):∃S' as',BP [t.d,.ref s,(Af.pool i j).d] S=some (.non,S')/\SAt S' s l m as' (step t st (.pool i j))/\Bz (s::l::m::as) S S'/\∀n∈as',n∈as∨S.length≤n:=by
 obtain⟨hij,hi,hj,h1,h2,h3⟩:=hc
 obtain⟨a,a1,a2,a3⟩:=hS.at hi
 obtain⟨b,b1,b2,b3⟩:=hS.at hj
 have sz:=h.sz
 have pi:=h.pcs _ (Av hi)
 have pj:=h.pcs _ (Av hj)
 obtain⟨S1,e1,g1⟩:=Sm (S:=S) (x:=AS st.loads i) (y:=AS st.loads j) (j:=30+170*k) (i:=131+k) a2 b2 (sz.1 _ (Av hi)) (sz.1 _ (Av hj)) (Ek pi.1 pi.2) (Ek pj.1 pj.2) (by omega) (by omega) (by omega) (by rw[h.own _ (Av hi)];have:=ht.2.1;omega)
 have hS1:=hS.same0 g1
 have hab:a≠b:=by
  rintro rfl
  exact hij ((List.getElem?_inj (List.getElem?_eq_some_iff.mp a1).1 hS.ne.2.2.2.2.2.2).mp (a1.trans b1.symm))
 have hS2:=hS1.app ⟨(AS st.loads i).k,(AS st.loads i).n+(AS st.loads j).n,Ca (AS st.loads i).n (AS st.loads j).n (AS st.loads i).ow (AS st.loads j).ow⟩
 have ai:i<as.length:=(List.getElem?_eq_some_iff.mp a1).1
 have bj:j<as.length:=(List.getElem?_eq_some_iff.mp b1).1
 have a1':(as++[S1.length])[i]?=some a:=by rw[List.getElem?_append_left ai];exact a1
 have b1':(as++[S1.length])[j]?=some b:=by rw[List.getElem?_append_left bj];exact b1
 have hS3:=hS2.setld (y:=⟨(AS st.loads i).k,0,(AS st.loads i).ow⟩) a1'
 have hS4:=hS3.setld (y:=⟨(AS st.loads j).k,0,(AS st.loads j).ow⟩) b1'
 have hz:as.length<sizeLine:=Nat.lt_of_lt_of_le (show as.length<50 by rw[hS.len];have:=h.len;omega) (AV (by decide))
 have est:step t st (.pool i j)={st with loads:=((st.loads++[Ld.mk (AS st.loads i).k ((AS st.loads i).n+(AS st.loads j).n) (Ca (AS st.loads i).n (AS st.loads j).n (AS st.loads i).ow (AS st.loads j).ow)]).set i ⟨(AS st.loads i).k,0,(AS st.loads i).ow⟩).set j ⟨(AS st.loads j).k,0,(AS st.loads j).ow⟩}:=by
  have e0:AS (less st.loads i (AS st.loads i).n) j=AS st.loads j:=by
   unfold AS less
   rw[List.getD_eq_getElem?_getD,List.getElem?_set_ne hij,←List.getD_eq_getElem?_getD]
  have e1:less st.loads i (AS st.loads i).n=st.loads.set i ⟨(AS st.loads i).k,0,(AS st.loads i).ow⟩:=by
   unfold less
   rw[Int.sub_self]
  have e2:less (less st.loads i (AS st.loads i).n) j (AS st.loads j).n=(st.loads.set i ⟨(AS st.loads i).k,0,(AS st.loads i).ow⟩).set j ⟨(AS st.loads j).k,0,(AS st.loads j).ow⟩:=by
   rw[PU (ls:=less st.loads i (AS st.loads i).n),e0,Int.sub_self,e1]
  show{st with loads:=less (less st.loads i (AS st.loads i).n) j (AS st.loads j).n++_}=_
  rw[e2,List.set_append_left _ _ hi,List.set_append_left _ _ (by simpa using hj)]
 refine⟨_,_,?_,est▸hS4,?_,?_⟩
 ·have r0:=AQ hS.root
  have lo:=A1 hS.lo
  have c0:=AQ hS.lo
  have xa:=A1 a2
  have xb:=A1 b2
  have c1:=AQ hS1.lo
  have c4:DN (S1++[CN ⟨(AS st.loads i).k,(AS st.loads i).n+(AS st.loads j).n,Ca (AS st.loads i).n (AS st.loads j).n (AS st.loads i).ow (AS st.loads j).ow⟩]) l=some (as.map D.ref):=AQ (by rw[List.getElem?_append_left (Aa hS1.lo)];exact hS1.lo)
  have c5:=AQ (hS2.ld i a (AS st.loads i) a1' (by show(st.loads++_)[i]?=_;rw[List.getElem?_append_left hi];exact EO hi))
  have c6:=AQ (hS3.ld j b (AS st.loads j) b1' (by show((st.loads++_).set i _)[j]?=_;rw[List.getElem?_set_ne hij,List.getElem?_append_left hj];exact EO hj))
  simp only[CN]at xa xb c4 c5 c6⊢
  have hz':(as.map D.ref).length<sizeLine:=by simpa using hz
  generalize (as.map D.ref)=refs at*
  generalize Ca (AS st.loads i).n (AS st.loads j).n (AS st.loads i).ow (AS st.loads j).ow=pr at*
  simp[BP,Ff,Af.d,r0,lo,a3,b3,xa,xb,c0,e1]at c4 c5 c6⊢
  simp[c4,hz',c5,c6]
 ·exact(((g1.mono fun _ z=>(nomatch z)).trans .app).trans (.set (by simp))).trans ((Bz.set (by simp[List.mem_of_getElem? a1])).trans (.set (by simp[List.mem_of_getElem? b1])))
 ·intro n hn
  rcases List.mem_append.mp hn with w|w
  ·exact .inl w
  ·simp at w;subst w;exact .inr g1.len
theorem YN(hS:SAt S s l m as st)(ht:JK t)(h:Fz t k st)(hk:k≤16){d:Af}(hc:Can t st d):∃S' as',BP [t.d,.ref s,d.d] S=some (.non,S')/\SAt S' s l m as' (step t st d)/\Bz (s::l::m::as) S S'/\∀n∈as',n∈as∨S.length≤n:=by
 cases d with
 |bring=>exact Uh hS ht h hk hc
 |pool=>exact XB hS ht h hk hc
 |swap=>exact Xh hS ht h hk hc
 |trade=>exact U5 hS ht h hk hc
 |spoil=>exact V1 hS ht h hk hc
 |thr=>exact Zc hS ht h hk hc
 |sell=>exact Xa hS ht h hk hc
end
section
variable{st:Stt}{t:Tr}{k:Nat}
theorem Im{a b:Nat}(h:a≤b):2^a≤2^b:=Nat.pow_le_pow_right (by decide) h
theorem JF{a b:Nat}(h:a≤b):(2:Int)^a≤2^b:=by
 have:=Im h
 exact_mod_cast this
theorem FX{c:Int}(h:0≤c):((c.toNat:Nat):Rat)=(c:Rat):=by
 have:((c.toNat:Nat):Int)=c:=Int.toNat_of_nonneg h
 have:(((c.toNat:Nat):Int):Rat)=(c:Rat):=by rw[this]
 exact this
theorem Q9{B T k j:Nat}(hB:B<2^(30+170*k))(hT:T<2^j)(hj:j≤170):B*T<2^(30+170*(k+1)):=by
 have:=CK hB hT
 exact Nat.lt_of_lt_of_le this (Im (by omega))
theorem Zd{G B P p:Nat}(h:G≤B):∀r∈Ry P p,Ok G B r:=by
 intro r hr
 obtain⟨i,_,rfl⟩:=List.mem_map.mp hr
 split
 ·exact Ok.one h
 ·exact Ok.zero
theorem SR{G B:Nat}{n m:Int}{ss os:List Rat}(hn:0<n)(hm:0<m)(hs:∀r∈ss,Ok G B r)(ho:∀r∈os,Ok G B r):∀r∈Ca n m ss os,Ok (G*(n+m).toNat) (B*(n+m).toNat) r:=by
 intro r hr
 unfold Ca at hr
 rw[List.mem_iff_getElem?]at hr
 obtain⟨i,hi'⟩:=hr
 rw[List.getElem?_zipWith_eq_some]at hi'
 obtain⟨x,y,hx,hy,rfl⟩:=hi'
 have:=Ok.mix (a:=n.toNat) (b:=m.toNat) (t:=(n+m).toNat) (hs x (List.mem_of_getElem? hx)) (ho y (List.mem_of_getElem? hy)) (by omega) (by omega)
 rwa [FX (by omega),FX (by omega),FX (by omega)]at this
theorem Rk{G B p q:Nat}{x:Rat}{ss:List Rat}(hp:p<ss.length)(hq:q<ss.length)(x1:0<x.num)(x2:x.num≤x.den)(hs:∀r∈ss,Ok G B r):∀r∈GK p q x ss,Ok (G*x.den) (2*B*x.den) r:=by
 have dp:=x.den_pos
 have hsp:=hs _ (getD_mem (d:=0) hp)
 have hsq:=hs _ (getD_mem (d:=0) hq)
 have xs:=Dx x
 have ex:(x.num:Rat)=((x.num.toNat:Nat):Rat):=(FX (by omega)).symm
 have nz:=IA x
 intro r hr
 unfold GK at hr
 rcases List.mem_or_eq_of_mem_set hr with hr|hr
 ·rcases List.mem_or_eq_of_mem_set hr with hr|hr
  ·exact(hs r hr).up (by rw[Nat.mul_assoc];omega)
  ·rw [hr]
   obtain⟨z,e,hz⟩:=Ok.mix (a:=x.den-x.num.toNat) (b:=x.num.toNat) (t:=x.den) hsp (Ok.zero (G:=G) (B:=B)) (by omega) dp
   refine⟨z,?_,Nat.le_trans hz (by rw[Nat.mul_assoc];omega)⟩
   rw[←e]
   have e2:((x.den-x.num.toNat:Nat):Rat)=(x.den:Rat)-(x.num:Rat):=by
    have:(((x.den-x.num.toNat:Nat):Int):Rat)=((x.den-x.num:Int):Rat):=by
     congr 1;omega
    push_cast at this
    exact this
   rw[e2]
   generalize ss.getD p 0=sp at*
   congr 1
   grind
 ·rw[hr]
  obtain⟨z,e1,hz⟩:=hsp
  obtain⟨y,e2,hy⟩:=hsq
  refine⟨y*x.den+z*x.num.toNat,?_,?_⟩
  ·generalize ss.getD p 0=sp at*
   generalize ss.getD q 0=sq at*
   push_cast
   rw[←ex,←e1,←e2]
   grind
  ·have h1:y*x.den≤B*x.den:=Nat.mul_le_mul_right _ hy
   have h2:z*x.num.toNat≤B*x.den:=Nat.mul_le_mul hz (by omega)
   rw[Nat.mul_assoc];omega
theorem FI{f:Rat->Rat->Rat}{a b:List Rat}{n:Nat}(h:a.length=n)(g:b.length=n):(List.zipWith f a b).length=n:=by rw[List.length_zipWith,h,g];omega
theorem Ha{P:Ld->Prop}{i:Nat}{n:Int}(hi:i<st.loads.length)(h:∀x∈st.loads,P x)(g:P ⟨(AS st.loads i).k,(AS st.loads i).n-n,(AS st.loads i).ow⟩):∀x∈less st.loads i n,P x:=by
 intro x hx
 rcases NL hx hi with h1|h1
 ·exact h x h1
 ·rw[h1];exact g
theorem N5{P:Ld->Prop}{ls:List Ld}{y:Ld}(h:∀x∈ls,P x)(g:P y):∀x∈ls++[y],P x:=by
 intro x hx
 rcases List.mem_append.mp hx with w|w
 ·exact h x w
 ·simp at w;rw[w];exact g
structure LOk(t:Tr)(k G B:Nat)(x:Ld):Prop where
 kd:x.k<t.k
 n0:0≤x.n
 n1:x.n<2^(131+k)
 own:x.ow.length=t.p
 ok:∀r∈x.ow,Ok G B r
theorem LOk.up{G B T B':Nat}{x:Ld}(h:LOk t k G B x)(hT:B*T≤B'):LOk t (k+1) (G*T) B' x:=⟨h.kd,h.n0,Int.lt_of_lt_of_le h.n1 (JF (by omega)),h.own,fun r hr=>(h.ok r hr).up hT⟩
theorem LOk.up1{G B:Nat}{x:Ld}(h:LOk t k G B x):LOk t (k+1) G B x:=⟨h.kd,h.n0,Int.lt_of_lt_of_le h.n1 (JF (by omega)),h.own,h.ok⟩
theorem LOk.less{G B:Nat}{x:Ld}{n:Int}(h:LOk t k G B x)(h0:0≤n)(h1:n≤x.n):LOk t k G B ⟨x.k,x.n-n,x.ow⟩:=⟨h.kd,show 0≤x.n-n by omega,show x.n-n<_ by have:=h.n1;omega,h.own,h.ok⟩
theorem Fz.of{G B:Nat}(h1:st.loads.length≤4+k)(h2:∀x∈st.loads,LOk t k G B x)(h3:st.hold.length=t.p)(h4:st.nums.length≤k)(g0:0<G)(g1:G≤B)(g2:B<2^(30+170*k))(h5:∀r∈st.hold,Ok G B r):Fz t k st:=⟨h1,fun x hx=>(h2 x hx).kd,fun x hx=>⟨(h2 x hx).n0,(h2 x hx).n1⟩,fun x hx=>(h2 x hx).own,h3,h4,G,B,g0,g1,g2,fun x hx=>(h2 x hx).ok,h5⟩
theorem bX{n:Int}(h:n<2^131):n<2^(131+k):=Int.lt_of_lt_of_le h (JF (by omega))
theorem V2(ht:JK t)(h:Fz t k st)(hk:k≤16){d:Af}(hc:Can t st d):Fz t (k+1) (step t st d):=by
  obtain⟨G,B,g0,g1,g2,hl,hh⟩:=h.gb
  have L:∀x∈st.loads,LOk t k G B x:=fun x hx=>⟨h.kind x hx,(h.pcs x hx).1,(h.pcs x hx).2,h.own x hx,hl x hx⟩
  have g2':B<2^(30+170*(k+1)):=Nat.lt_of_lt_of_le g2 (Im (by omega))
  have hlen:=h.len
  have hnm:=h.nm
  cases d with
  | bring p kd n =>
    obtain⟨h1,h2,h3,h4⟩:=hc
    refine Fz.of (G:=G) (B:=B) (by simp[step];omega) (N5 (fun x hx=>(L x hx).up1) ⟨h2,by show 0≤n;omega,bX h4,by simp[Ry],Zd g1⟩) h.hold (Nat.le_succ_of_le hnm) g0 g1 g2' hh
  | pool i j =>
    obtain⟨hij,hi,hj,h1,h2,h3⟩:=hc
    have li:=L _ (Av hi)
    have lj:=L _ (Av hj)
    have tl:((AS st.loads i).n+(AS st.loads j).n).toNat<2^(132+k):=by
      have a:=li.n1;have b:=lj.n1
      have e:(2:Int)^(132+k)=2^(131+k)*2:=by rw[show 132+k=(131+k)+1 by omega,Int.pow_succ]
      have:(((AS st.loads i).n+(AS st.loads j).n).toNat:Int)<((2^(132+k):Nat):Int):=by
        rw[Int.toNat_of_nonneg (by omega)]
        push_cast
        rw[e];omega
      exact_mod_cast this
    have t0:0<((AS st.loads i).n+(AS st.loads j).n).toNat:=by omega
    refine Fz.of (G:=G*((AS st.loads i).n+(AS st.loads j).n).toNat) (B:=B*((AS st.loads i).n+(AS st.loads j).n).toNat) (by simp[step,Dr];omega) (N5 ?_ ⟨li.kd,by show 0≤(AS st.loads i).n+(AS st.loads j).n;omega,?_,?_,SR h1 h2 li.ok lj.ok⟩) h.hold (Nat.le_succ_of_le hnm) (Nat.mul_pos g0 t0) (Nat.mul_le_mul_right _ g1) (Q9 g2 tl (by omega)) (fun r hr=>(hh r hr).up (Nat.le_refl _))
    · have e0 : AS (less st.loads i (AS st.loads i).n) j = AS st.loads j := by
        unfold AS less
        rw[List.getD_eq_getElem?_getD,List.getElem?_set_ne hij,←List.getD_eq_getElem?_getD]
      have A:=Ha (P:=LOk t (k+1) (G*((AS st.loads i).n+(AS st.loads j).n).toNat) (B*((AS st.loads i).n+(AS st.loads j).n).toNat)) (n:=(AS st.loads i).n) hi (fun x hx=>(L x hx).up (Nat.le_refl _)) ((li.up (Nat.le_refl _)).less (by omega) (Int.le_refl _))
      have A2:=Ha (st:={st with loads:=less st.loads i (AS st.loads i).n}) (i:=j) (n:=(AS st.loads j).n) (by simpa[Dr]using hj) A (by
        show LOk _ _ _ _ ⟨(AS (less st.loads i (AS st.loads i).n) j).k,(AS (less st.loads i (AS st.loads i).n) j).n-_,(AS (less st.loads i (AS st.loads i).n) j).ow⟩
        rw[e0]
        exact(lj.up (Nat.le_refl _)).less (by omega) (Int.le_refl _))
      exact A2
    · show (AS st.loads i).n + (AS st.loads j).n < 2 ^ (131 + (k + 1))
      have a:=li.n1;have b:=lj.n1
      rw[show 131+(k+1)=(131+k)+1 by omega,Int.pow_succ];omega
    ·exact FI li.own lj.own
  | swap i g kd n =>
    obtain⟨hi,h1,h2,h3,h4,h5,h6⟩:=hc
    have li:=L _ (Av hi)
    refine Fz.of (G:=G) (B:=B) (by simp[step,Dr];omega) (N5 (Ha hi (fun x hx=>(L x hx).up1) (li.up1.less (by omega) h2)) ⟨h3,by show 0≤n;omega,bX h6,li.own,li.ok⟩) h.hold (Nat.le_succ_of_le hnm) g0 g1 g2' hh
  | trade u i g kd n =>
    obtain⟨hi,h1,h2,h3,h4,h5,h6,h7⟩:=hc
    have li:=L _ (Av hi)
    refine Fz.of (G:=G) (B:=B) (by simp[step,Dr];omega) (N5 (Ha hi (fun x hx=>(L x hx).up1) (li.up1.less (by omega) h2)) ⟨h3,by show 0≤n;omega,bX h6,li.own,li.ok⟩) h.hold (by simp[step];omega) g0 g1 g2' hh
  | spoil i n =>
    obtain⟨hi,h1,h2⟩:=hc
    have li:=L _ (Av hi)
    refine Fz.of (G:=G) (B:=B) (by simp[step,Dr];omega) (Ha hi (fun x hx=>(L x hx).up1) (li.up1.less (by omega) h2)) h.hold (Nat.le_succ_of_le hnm) g0 g1 g2' hh
  | thr i n ws =>
    obtain⟨hi,h1,h2,h3,h4⟩:=hc
    have li:=L _ (Av hi)
    have W:=JA ht h (by omega) h3 h4
    have wl:(D9 t st.loads ws).toNat<2^(145+k):=by
      have:((D9 t st.loads ws).toNat:Int)<((2^(145+k):Nat):Int):=by
        rw[Int.toNat_of_nonneg (by omega)];push_cast;exact W.2
      exact_mod_cast this
    have bo:=fun{ss:List Rat} (hs:∀r∈ss,Ok G B r)=>Ri ht h (by omega) h3 h4 hi h1 h2 li.ok hs
    refine Fz.of (G:=G*(D9 t st.loads ws).toNat) (B:=B*(D9 t st.loads ws).toNat) (by simp[step,Dr];omega) ?_ (FI h.hold li.own) (Nat.le_succ_of_le hnm) (Nat.mul_pos g0 (by omega)) (Nat.mul_le_mul_right _ g1) (Q9 g2 wl (by omega)) (bo hh)
    intro x hx
    obtain⟨y,hy,rfl⟩:=List.mem_map.mp hx
    have ly:=Ha (P:=LOk t k G B) hi L (li.less (n:=n) (by omega) h2) y hy
    exact⟨ly.kd,ly.n0,ly.up1.n1,FI ly.own li.own,bo ly.ok⟩
  | sell p q x =>
    obtain⟨h1,h2,h3,h4,h5,h6⟩:=hc
    have dp:=x.den_pos
    refine Fz.of (G:=G*x.den) (B:=2*B*x.den) (by simp[step];omega) ?_ (by simp[step,GK,h.hold]) (Nat.le_succ_of_le hnm) (Nat.mul_pos g0 dp) (Nat.mul_le_mul_right _ (by omega)) ?_ (Rk (by rw[h.hold];exact h2) (by rw[h.hold];exact h3) h4 h5 hh)
    · intro y hy
      obtain⟨z,hz,rfl⟩:=List.mem_map.mp hy
      have lz:=L z hz
      exact⟨lz.kd,lz.n0,lz.up1.n1,by simp[GK,lz.own],Rk (by rw[lz.own];exact h2) (by rw[lz.own];exact h3) h4 h5 lz.ok⟩
    · have := Q9 (B := B) (T := 2 * x.den) (j := 5) g2 (by omega) (by omega)
      rw[show 2*B*x.den=B*(2*x.den) by rw[←Nat.mul_assoc,Nat.mul_comm 2 B]]
      exact this
end
theorem IX{α:Type}{f:α->D}:∀{xs:List α},(∀x∈xs,(f x).lay=true)->D.lays (xs.map f)=true
  | [],_=>rfl
  | x :: xs, h => by
    show((f x).lay && D.lays (xs.map f))=true
    rw[h x List.mem_cons_self,IX fun y hy=>h y (List.mem_cons_of_mem _ hy)]
    rfl
theorem V3{ds:List D}(h:D.lays ds=true):Dj (.lst ds) (.lst [])=true:=by
 unfold Dj
 show(D.lays ds && true && _)=true
 rw[h]
 simp only[Bool.true_and,decide_eq_true_eq]
 exact Nat.le_trans (Nat.min_le_right _ _) (by decide)
noncomputable def F5(is:List Nat):List D:=is.map fun(i:Nat)=>D.int i
theorem LQ{is:List Nat}:Dj (.lst (F5 is)) (.lst [])=true:=V3 (IX fun _ _=>rfl)
theorem Vc{d:D}{ds:List D}:deq (.lst (d::ds)) (.lst [])=false:=rfl
theorem Xn:deq (.lst []) (.lst [])=true:=rfl
theorem NF{is:List Nat}:deq (.lst (F5 is)) (.lst [])=is.isEmpty:=by
 cases is with
 |nil=>exact Xn
 |cons i is=>exact Vc
theorem IU{ds:List D}:Md 0 ds=(List.range ds.length).map fun(i:Nat)=>D.tup [.int i,ds.getD i .non]:=by
 apply List.ext_getElem?
 intro i
 rw[KW,List.getElem?_map]
 by_cases h:i<ds.length
 ·rw[List.getElem?_eq_getElem h,List.getElem?_range h]
  simp[List.getElem?_eq_getElem h]
 ·rw[List.getElem?_eq_none (by omega),List.getElem?_eq_none (by simp;omega)]
  rfl
theorem Ip{is:List Nat}:(F5 is).length=is.length:=by simp[F5]
theorem LO{is:List Nat}{r:Int}(h0:0≤r)(h1:r<is.length):∃i∈is,atI (F5 is) r=some (.int (i:Nat)):=by
 have h2:r.toNat<is.length:=by omega
 refine⟨is[r.toNat],List.getElem_mem h2,?_⟩
 have:=WS (xs:=F5 is) h0 (by rw[Ip];exact h1)
 rw[this]
 simp[F5]
theorem Rg{x K:Int}(h0:0≤x)(h1:x<2*K):x % K=if x<K then x else x-K:=by
 split
 ·exact Int.emod_eq_of_lt h0 (by assumption)
 ·have:x % K=(x-K) % K:=by rw[Int.sub_emod_right]
  rw[this]
  exact Int.emod_eq_of_lt (by omega) (by omega)
section
variable{S:Sto}{p s l m:Nat}{as:List Nat}{st:Stt}{t:Tr}{k:Nat}
noncomputable def CL(st:Stt):List Nat:=(List.range st.loads.length).filter fun i=>decide (0<(AS st.loads i).n)
theorem XR(hS:SAt S s l m as st)(hl:st.loads.length≤50):Bx [(l,as.map D.ref)] (tTp [(tNm 0),(tNm 1)]) (eOp (o2 wGt) [(eOp (o2 wIx) [(eV 1),(eC (.int 1))]),(eC (.int 0))]) (eV 0) (Md 0 (as.map D.ref)) [] [none,none] S=some (F5 (CL st),S):=by
 have:=D2 (gs:=[(l,as.map D.ref)]) (t:=tTp [(tNm 0),(tNm 1)]) (c:=eOp (o2 wGt) [(eOp (o2 wIx) [(eV 1),(eC (.int 1))]),(eC (.int 0))]) (f:=eV 0) (C:=[]) (m:=2) (e:=fun i:Nat=>D.tup [.int i,(as.map D.ref).getD i .non]) (g:=fun i:Nat=>D.int i) (b:=fun i=>decide (0<(AS st.loads i).n)) (S:=S) hS.guard (xs:=List.range st.loads.length) (acc:=[]) (os:=[none,none]) rfl (Nat.le_trans (show _≤50 by simp;omega) (AV (by decide))) (by
  intro i hi os ho
  obtain⟨o1,o2,rfl⟩:∃o1 o2,os=[o1,o2]:=by
   match os,ho with
   | [a,b],_=>exact⟨a,b,rfl⟩
  obtain⟨a,a1,a2,a3⟩:=hS.at (List.mem_range.mp hi)
  have e:(as.map D.ref).getD i .non=.ref a:=by simp[a1]
  rw[e]
  refine⟨[some (.int i),some (.ref a)],rfl,by simp,?_,by simp⟩
  simp[A1 a2,CN])
 rw[IU,List.length_map,hS.len]
 exact this
theorem KU{i:Nat}(h:i∈CL st):i<st.loads.length/\0<(AS st.loads i).n:=by
 unfold CL at h
 rw[List.mem_filter]at h
 exact⟨List.mem_range.mp h.1,by simpa using h.2⟩
noncomputable def Et(st:Stt)(j:Nat):List Nat:=(CL st).filter fun i=> !(i==j) && ((AS st.loads i).k==(AS st.loads j).k)
theorem NT:(CL st).length≤st.loads.length:=by
 unfold CL
 exact Nat.le_trans (List.length_filter_le _ _) (by simp)
theorem WE{a b:Nat}:((a:Int)==(b:Int))=(a==b):=by
 by_cases h:a=b
 ·subst h;simp
 ·have:((a:Int)==(b:Int))=false:=by simp;omega
  rw[this];simp[h]
theorem X0(hS:SAt S s l m as st)(hl:st.loads.length≤50){j:Nat}(hj:j∈CL st):Bx [] (tNm 2) (Jv (eOp (o2 wNe) [(eV 2),(eV 1)]) (eOp (o2 wEq) [(eOp (o2 wIx) [(eOp (o2 wIx) [(eV 0),(eV 2)]),(eC (.int 0))]),(eOp (o2 wIx) [(eOp (o2 wIx) [(eV 0),(eV 1)]),(eC (.int 0))])])) (eV 2) (F5 (CL st)) [] [some (.ref l),some (.int j),none] S=some (F5 (Et st j),S):=by
 have fl:=NT (st:=st)
 exact D2 (gs:=[]) (t:=tNm 2) (f:=eV 2) (C:=[some (.ref l),some (.int j)]) (m:=1) (e:=fun i:Nat=>D.int i) (g:=fun i:Nat=>D.int i) (b:=fun i=> !(i==j) && ((AS st.loads i).k==(AS st.loads j).k)) (S:=S) Ad (xs:=CL st) (acc:=[]) (os:=[none]) rfl (Nat.le_trans (show _≤50 by simp;omega) (AV (by decide))) (by
  intro i hi os ho
  obtain⟨o1,rfl⟩:∃o1,os=[o1]:=by
   match os,ho with
   | [a],_=>exact⟨a,rfl⟩
  obtain⟨a,a1,a2,a3⟩:=hS.at (KU hi).1
  obtain⟨b,b1,b2,b3⟩:=hS.at (KU hj).1
  refine⟨[some (.int i)],rfl,by simp,?_,by simp⟩
  by_cases e:i=j
  ·subst e
   simp
  ·have e':((i:Int)==(j:Int))=false:=by simp;omega
   have e2:(i==j)=false:=by simp[e]
   simp[e',e2,A1 hS.lo,a3,b3,A1 a2,A1 b2,CN,WE])
theorem U3{i j:Nat}(h:i∈Et st j):i∈CL st/\i≠j/\(AS st.loads i).k=(AS st.loads j).k:=by
 unfold Et at h
 rw[List.mem_filter]at h
 simp at h
 exact⟨h.1,h.2.1,h.2.2⟩
noncomputable def Fw(st:Stt):List Nat:=(List.range 10).filter fun i=> !(st.nums.any fun u=>u==(i:Int))
theorem Nh{us:List Int}{i:Int}:inD (.int i) (us.map D.int)=us.any fun u=>u==i:=by
 unfold inD
 rw[List.any_map]
 rfl
@[simp] theorem eO{b:Bool}{w:Wv}{r:List D}:wIn b w (.own r)=if(Gv (fz w) && r.all Gv)=true then some (.val (.bl (if b then !inD (fz w) r else inD (fz w) r)))else none:=nr rfl
@[simp] theorem eH{b:Bool}{w:Wv}{r:List D}:wIn b w (.val (.lst r))=if(Gv (fz w) && r.all Gv)=true then some (.val (.bl (if b then !inD (fz w) r else inD (fz w) r)))else none:=nr rfl
theorem Ot{us:List Int}:(us.map D.int).all Gv=true:=by
 rw[List.all_map,List.all_eq_true]
 intro x _;rfl
@[simp] theorem fO{i:Int}:Gv (.int i)=true:=nr rfl
theorem XH(hS:SAt S s l m as st):Bx [] (tNm 1) (eOp (o2 (wIn true)) [(eV 1),(eV 0)]) (eV 1) (JJ 0 10) [] [some (.ref m),none] S=some (F5 (Fw st),S):=by
 exact D2 (gs:=[]) (t:=tNm 1) (f:=eV 1) (C:=[some (.ref m)]) (m:=1) (e:=fun i:Nat=>D.int (0+(i:Int))) (g:=fun i:Nat=>D.int i) (b:=fun i=> !(st.nums.any fun u=>u==(i:Int))) (S:=S) Ad (xs:=List.range 10) (acc:=[]) (os:=[none]) rfl (Nat.le_trans (show _≤50 by simp) (AV (by decide))) (by
  intro i hi os ho
  obtain⟨o1,rfl⟩:∃o1,os=[o1]:=by
   match os,ho with
   | [a],_=>exact⟨a,rfl⟩
  refine⟨[some (.int i)],rfl,by simp,?_,by simp⟩
  have nu:=A1 hS.nu
  have fi:=Ot (us:=st.nums)
  have ii:=Nh (us:=st.nums) (i:=(i:Int))
  generalize st.nums.map D.int=ud at*
  generalize (st.nums.any fun u=>u==(i:Int))=bb at*
  simp[nu,fi,ii])
theorem UK{i:Nat}(h:i∈Fw st):(i:Int)∉st.nums/\i≤9:=by
 unfold Fw at h
 rw[List.mem_filter]at h
 have h1:=List.mem_range.mp h.1
 refine⟨?_,by omega⟩
 intro z
 have h2:=h.2
 have:(st.nums.any fun u=>u==(i:Int))=true:=List.any_eq_true.mpr ⟨_,z,by simp⟩
 rw[this]at h2
 cases h2
theorem Uy:(Fw st).length≤10:=by
 unfold Fw
 exact Nat.le_trans (List.length_filter_le _ _) (by simp)
theorem VW{j:Nat}:(Et st j).length≤st.loads.length:=by
 unfold Et
 exact Nat.le_trans (List.length_filter_le _ _) NT
end
section
variable{S:Sto}{p s l m:Nat}{as:List Nat}{st:Stt}{t:Tr}{k:Nat}
def Na:Ex:=(Ae (xIf (Jv (eOp (o2 wLt) [(eV 7),(eC (.int 8))]) (eOp (o2 wGt) [(eOp (o2 wIx) [(eV 1),(eC (.int 1))]),(eC (.int 1))])) (Ae (BW 11 (eOp (o2 O4) [(eOp (o2 C9) [(eOp (o2 C9) [(eOp (o2 wIx) [(eOp (o2 wIx) [(eV 3),(eV 8)]),(eC (.int 0))]),(eC (.int 1))]),(AK AL [(eV 0),(eOp (o2 Ly) [(eOp (o2 wIx) [(eV 1),(eC (.int 1))]),(eC (.int 1))])])]),(eOp (o2 wIx) [(eV 1),(eC (.int 1))])]))
  (Ae (BW 12 (B4 [5] 1 (KR [(eC (.int 10))]) (tNm 1) (eOp (o2 (wIn true)) [(eV 1),(eV 0)]) (eV 1)))
  (Ae (xIf (Jv (eOp (o2 wEq) [(eV 7),(eC (.int 7))]) (eOp (o2 wNe) [(eV 12),(JI [])])) (Bf (CI [(eC (.str "trade")),(eOp (o2 wIx) [(eV 12),(AK AL [(eV 0),(eOp (o1 Hh) [(eV 12)])])]),(eV 8),(eV 9),(eV 11),(AK BR [(eV 0)])])) Es)
  (Bf (CI [(eC (.str "swap")),(eV 8),(eV 9),(eV 11),(AK BR [(eV 0)])]))))) Es)
  (Ae (xIf (eOp (o2 wEq) [(eV 7),(eC (.int 8))]) (Bf (CI [(eC (.str "spoil")),(eV 8),(eV 9)])) Es)
  (Ae (xIf (Jv (eOp (o2 wEq) [(eV 7),(eC (.int 9))]) (eOp (o2 wGt) [(eOp (o2 wIx) [(eV 1),(eC (.int 0))]),(eC (.int 1))])) (Ae (BW 13 (AK AL [(eV 0),(eOp (o2 wIx) [(eV 1),(eC (.int 0))])]))
  (Bf (CI [(eC (.str "sell")),(eV 13),(eOp (o2 O4) [(eOp (o2 C9) [(eOp (o2 C9) [(eV 13),(eC (.int 1))]),(AK AL [(eV 0),(eOp (o2 Ly) [(eOp (o2 wIx) [(eV 1),(eC (.int 0))]),(eC (.int 1))])])]),(eOp (o2 wIx) [(eV 1),(eC (.int 0))])]),(AK Fc [(eV 0)])]))) Es)
  (Bf (CI [(eC (.str "throw")),(eV 8),(eV 9),(AK DY [(eV 0),(eOp (o2 C9) [(eOp (o2 wIx) [(eV 1),(eC (.int 1))]),(eC (.int 1))])])])))))
def Rt:Ex:=(xIf (eOp (o2 wLt) [(eV 7),(eC (.int 5))]) (Ae (BW 10 (B4 [3,8] 1 (FE (eV 6)) (tNm 2) (Jv (eOp (o2 wNe) [(eV 2),(eV 1)]) (eOp (o2 wEq) [(eOp (o2 wIx) [(eOp (o2 wIx) [(eV 0),(eV 2)]),(eC (.int 0))]),(eOp (o2 wIx) [(eOp (o2 wIx) [(eV 0),(eV 1)]),(eC (.int 0))])])) (eV 2)))
  (xIf (eOp (o2 wNe) [(eV 10),(JI [])]) (Bf (CI [(eC (.str "pool")),(eV 8),(eOp (o2 wIx) [(eV 10),(AK AL [(eV 0),(eOp (o1 Hh) [(eV 10)])])])])) Es)) Es)
theorem Nq:MQ=(Ae (OS (tTp [(tNm 3),(tNm 4),(tNm 5)]) (eV 2))
  (Ae (BW 6 (B4 [] 2 (VN (eV 3)) (tTp [(tNm 0),(tNm 1)]) (eOp (o2 wGt) [(eOp (o2 wIx) [(eV 1),(eC (.int 1))]),(eC (.int 0))]) (eV 0)))
  (Ae (BW 7 (AK AL [(eV 0),(eC (.int 12))]))
  (Ae (xIf (eOr (eOp (o2 wLt) [(eV 7),(eC (.int 2))]) (eOp (o2 wEq) [(eV 6),(JI [])])) (Bf (CI [(eC (.str "bring")),(AK AL [(eV 0),(eOp (o2 wIx) [(eV 1),(eC (.int 0))])]),(AK AL [(eV 0),(eOp (o2 wIx) [(eV 1),(eC (.int 1))])]),(AK BR [(eV 0)])])) Es)
  (Ae (BW 8 (eOp (o2 wIx) [(eV 6),(AK AL [(eV 0),(eOp (o1 Hh) [(eV 6)])])]))
  (Ae (BW 9 (eOp (o2 C9) [(eC (.int 1)),(AK AL [(eV 0),(eOp (o2 Ye) [(eOp (o2 wIx) [(eOp (o2 wIx) [(eV 3),(eV 8)]),(eC (.int 1))]),(eC (.int 2000))])])]))
  (Ae Rt Na))))))):=rfl
theorem TC (hp : Dk p S) (hS : SAt S s l m as st) (hps : p ∉ s :: l :: m :: as) (ht : JK t) (h : Fz t k st) (hk : k ≤ 16) : ∃ d S', Cm [.ref p, t.d, .ref s] S = some (Af.d d, S') /\ Pn p S S' /\ Can t st d := by
  obtain⟨t1,t2,t3,t4,t5,t6⟩:=ht
  have hlen:=h.len
  have st':∀{S':Sto},Pn p S S'->SAt S' s l m as st:=fun g=>hS.same g.same (by simpa using hps)
  have r0:=AQ hS.root
  have cf:=XR hS (by omega)
  have fl:=NT (st:=st)
  have sq:=EE hS.lo
  obtain⟨way,S1,e1,a1,b1,p1⟩:=Ax hp (n:=12) (by decide) (by decide)
  have okF:=LQ (is:=CL st)
  have dqF:=NF (is:=CL st)
  by_cases hb:way<2∨(CL st).isEmpty=true
  · obtain ⟨x2, S2, e2, a2, b2, p2⟩ := Ax p1.pen (n := t.p) (by omega) (by omega)
    obtain⟨x3,S3,e3,a3,b3,p3⟩:=Ax p2.pen (n:=t.k) (by omega) (by omega)
    obtain⟨x4,S4,e4,p4,a4,b4⟩:=IV p3.pen
    obtain⟨x2,rfl⟩:=Fm a2
    obtain⟨x3,rfl⟩:=Fm a3
    refine⟨.bring x2 x3 x4,S4,?_,((p1.trans p2).trans p3).trans p4,by omega,by omega,a4,b4⟩
    by_cases hw:way<2
    ·simp[Cm,Nq,r0,sq,cf,e1,Tr.d,hw,e2,e3,e4,Af.d]
    · have hf := hb.resolve_left hw
      simp[Cm,Nq,r0,sq,cf,e1,Tr.d,hw,okF,dqF,hf,e2,e3,e4,Af.d]
  · have hw2 : ¬ way < 2 := fun z => hb (.inl z)
    have hf:(CL st).isEmpty=false:=by
      cases z:(CL st).isEmpty with
      |true=>exact absurd (.inr z) hb
      |false=>rfl
    have hfl:0<(CL st).length:=by
      cases z:CL st with
      |nil=>rw[z]at hf;cases hf
      |cons a b=>simp
    obtain⟨rl,S2,e2,a2,b2,p2⟩:=Ax p1.pen (n:=(CL st).length) (by omega) (by omega)
    obtain⟨i,mi,ei⟩:=LO a2 b2
    have fi:=KU mi
    have hS1:=st' p1
    have hS2:=st' (p1.trans p2)
    obtain⟨a,x1,x2,x3⟩:=hS2.at fi.1
    have n1:=fi.2
    obtain⟨rs,S3,e3,a3,b3,p3⟩:=Ax p2.pen (n:=if 2000<(AS st.loads i).n then 2000 else(AS st.loads i).n) (by split<;>omega) (by split<;>omega)
    have hsome:1≤1+rs/\1+rs≤(AS st.loads i).n:=by split at b3<;>omega
    have p23:=(p1.trans p2).trans p3
    have hS3:=st' p23
    have lo2:=A1 hS2.lo
    have lo3:=A1 hS3.lo
    have x2':=A1 x2
    have x4:S3[a]?=some (CN (AS st.loads i)):=hS3.ld i a _ x1 (EO fi.1)
    have x4':=A1 x4
    have kd:=h.kind _ (Av fi.1)
    have nl:=Ip (is:=CL st)
    have cs:=X0 hS3 (by omega) mi
    have okS:=LQ (is:=Et st i)
    have dqS:=NF (is:=Et st i)
    have sl:=VW (st:=st) (j:=i)
    have nls:=Ip (is:=Et st i)
    have pre:Cm [.ref p,t.d,.ref s] S=((Rt [some (.ref p),some t.d,some (.ref s),some (.ref l),some (shD st.hold),some (.ref m),some (.lst (F5 (CL st))),some (.int way),some (.int i),some (.int (1+rs)),none,none,none,none] S3).bind (ZI Na)).map fun r=>(flD r.1,r.2.2):=by
      simp[Cm,Nq,r0,sq,cf,e1,hw2,okF,dqF,hf,nl,e2,ei,lo2,x3,x2',e3]
    have tail : ∀ o10, (way < 5 -> (Et st i).isEmpty = true) -> ∃ d S', (Na [some (.ref p), some t.d, some (.ref s), some (.ref l), some (shD st.hold), some (.ref m), some (.lst (F5 (CL st))), some (.int way), some (.int i), some (.int (1 + rs)), o10, none, none, none] S3).map (fun r => (flD r.1, r.2.2)) = some (Af.d d, S') /\ Pn p S S' /\ Can t st d := by
      intro o10 _
      clear pre cs okS dqS
      by_cases hsw:way<8/\1<t.k
      · obtain ⟨hw8, hk1⟩ := hsw
        have hk1':(1:Int)<t.k:=by omega
        obtain⟨rk,S4,e4,a4,b4,p4⟩:=Ax p3.pen (n:=(t.k:Int)-1) (by omega) (by omega)
        have hS4:=st' (p23.trans p4)
        have hmod:=Rg (x:=((AS st.loads i).k:Int)+1+rk) (K:=t.k) (by omega) (by omega)
        obtain⟨kd2,ekd⟩:∃q:Nat,((AS st.loads i).k+1+rk) % (t.k:Int)=(q:Int):=⟨_,(Int.toNat_of_nonneg (Int.emod_nonneg _ (by omega))).symm⟩
        have hkd:kd2<t.k/\kd2≠(AS st.loads i).k:=by
          rw[ekd]at hmod
          split at hmod<;>omega
        have kp:0<t.k:=by omega
        have cl:=XH hS4
        have okL:=LQ (is:=Fw st)
        have dqL:=NF (is:=Fw st)
        have ll:=Uy (st:=st)
        have nll:=Ip (is:=Fw st)
        have rt:Hj 10=true:=DF (by decide) (by decide)
        by_cases htr:way=7/\(Fw st).isEmpty=false
        · obtain ⟨hw7, hle⟩ := htr
          have hll:0<(Fw st).length:=by
            cases z:Fw st with
            |nil=>rw[z]at hle;cases hle
            |cons a b=>simp
          obtain⟨ru,S5,e5,a5,b5,p5⟩:=Ax p4.pen (n:=(Fw st).length) (by omega) (by omega)
          obtain⟨u,mu,eu⟩:=LO a5 b5
          obtain⟨x6,S6,e6,p6,a6,b6⟩:=IV p5.pen
          have fu:=UK mu
          refine⟨.trade u i (1+rs) kd2 x6,S6,?_,((p23.trans p4).trans p5).trans p6,fi.1,hsome.1,hsome.2,hkd.1,hkd.2,a6,b6,fu.1,by omega,by omega⟩
          subst hw7
          simp[Na,Tr.d,x3,hk1',lo3,x4',e4,kp,ekd,rt,cl,okL,dqL,hle,nll,e5,eu,e6,Af.d]
        · obtain ⟨x6, S6, e6, p6, a6, b6⟩ := IV p4.pen
          refine⟨.swap i (1+rs) kd2 x6,S6,?_,(p23.trans p4).trans p6,fi.1,hsome.1,hsome.2,hkd.1,hkd.2,a6,b6⟩
          by_cases h7:way=7
          · subst h7
            have hle:(Fw st).isEmpty=true:=by
              cases z:(Fw st).isEmpty with
              |true=>rfl
              |false=>exact absurd ⟨rfl,z⟩ htr
            simp[Na,Tr.d,x3,hk1',lo3,x4',e4,kp,ekd,rt,cl,okL,dqL,hle,nll,e6,Af.d]
          · have h7' : (way == 7) = false := by simpa using h7
            simp[Na,Tr.d,x3,hw8,hk1',lo3,x4',e4,kp,ekd,rt,cl,h7',e6,Af.d]
      · have sw : ∀ (x y : Ex) (T : Sto), xIf (Jv (eOp (o2 wLt) [(eV 7), (eC (.int 8))]) (eOp (o2 wGt) [(eOp (o2 wIx) [(eV 1), (eC (.int 1))]), (eC (.int 1))])) x y [some (.ref p), some t.d, some (.ref s), some (.ref l), some (shD st.hold), some (.ref m), some (.lst (F5 (CL st))), some (.int way), some (.int i), some (.int (1 + rs)), o10, none, none, none] T = y [some (.ref p), some t.d, some (.ref s), some (.ref l), some (shD st.hold), some (.ref m), some (.lst (F5 (CL st))), some (.int way), some (.int i), some (.int (1 + rs)), o10, none, none, none] T := by
          intro x y T
          by_cases w8:way<8
          · have hk1 : ¬ (1 : Int) < t.k := by omega
            simp[Tr.d,w8,hk1]
          ·simp[w8]
        by_cases h8:way=8
        · subst h8
          refine⟨.spoil i (1+rs),S3,?_,p23,fi.1,hsome.1,hsome.2⟩
          simp[Na,-PJ,sw]
          simp[Af.d]
        · have h8' : (way == 8) = false := by simpa using h8
          by_cases h9:way=9/\1<t.p
          · obtain ⟨h9, hP⟩ := h9
            subst h9
            have hP':(1:Int)<t.p:=by omega
            obtain⟨rp,S4,e4,a4,b4,p4⟩:=Ax p3.pen (n:=t.p) (by omega) (by omega)
            obtain⟨rq,S5,e5,a5,b5,p5⟩:=Ax p4.pen (n:=(t.p:Int)-1) (by omega) (by omega)
            obtain⟨sh,S6,e6,p6,a6,b6,c6⟩:=Ut p5.pen
            have hmod:=Rg (x:=rp+1+rq) (K:=t.p) (by omega) (by omega)
            obtain⟨q,eq⟩:∃q:Nat,(rp+1+rq) % (t.p:Int)=(q:Int):=⟨_,(Int.toNat_of_nonneg (Int.emod_nonneg _ (by omega))).symm⟩
            obtain⟨rp,rfl⟩:=Fm a4
            have hq:q<t.p/\q≠rp:=by
              rw[eq]at hmod
              split at hmod<;>omega
            have pp:0<t.p:=by omega
            refine⟨.sell rp q sh,S6,?_,((p23.trans p4).trans p5).trans p6,fun z=>hq.2 z.symm,by omega,hq.1,a6,b6,c6⟩
            simp[Na,-PJ,sw]
            simp[Tr.d,hP',e4,e5,pp,eq,e6,Af.d]
          · have s9 : ∀ (x y : Ex) (T : Sto), xIf (Jv (eOp (o2 wEq) [(eV 7), (eC (.int 9))]) (eOp (o2 wGt) [(eOp (o2 wIx) [(eV 1), (eC (.int 0))]), (eC (.int 1))])) x y [some (.ref p), some t.d, some (.ref s), some (.ref l), some (shD st.hold), some (.ref m), some (.lst (F5 (CL st))), some (.int way), some (.int i), some (.int (1 + rs)), o10, none, none, none] T = y [some (.ref p), some t.d, some (.ref s), some (.ref l), some (shD st.hold), some (.ref m), some (.lst (F5 (CL st))), some (.int way), some (.int i), some (.int (1 + rs)), o10, none, none, none] T := by
              intro x y T
              by_cases z:way=9
              · have hP : ¬ (1 : Int) < t.p := by have : ¬ 1 < t.p := fun w => h9 ⟨z, w⟩; omega
                subst z
                simp[Tr.d,hP]
              · have z' : (way == 9) = false := by simpa using z
                simp[z']
            obtain⟨ws,S4,e4,p4,a4,b4⟩:=Rm p3.pen (n:=t.k+1) (by omega)
            have e4':DY [.ref p,.int ((t.k:Int)+1)] S3=some (.tup (ws.map .int),S4):=e4
            refine⟨.thr i (1+rs) ws,S4,?_,p23.trans p4,fi.1,hsome.1,hsome.2,a4,b4⟩
            have s8:∀(x y:Ex) (T:Sto),xIf (eOp (o2 wEq) [(eV 7),(eC (.int 8))]) x y [some (.ref p),some t.d,some (.ref s),some (.ref l),some (shD st.hold),some (.ref m),some (.lst (F5 (CL st))),some (.int way),some (.int i),some (.int (1+rs)),o10,none,none,none] T=y [some (.ref p),some t.d,some (.ref s),some (.ref l),some (shD st.hold),some (.ref m),some (.lst (F5 (CL st))),some (.int way),some (.int i),some (.int (1+rs)),o10,none,none,none] T:=by
              intro x y T
              simp[h8']
            simp[Na,-PJ,sw,s8,s9]
            simp[Tr.d,e4',Af.d]
    by_cases hpool:way<5/\(Et st i).isEmpty=false
    · obtain ⟨hw5, hse⟩ := hpool
      have hsl:0<(Et st i).length:=by
        cases z:Et st i with
        |nil=>rw[z]at hse;cases hse
        |cons a b=>simp
      obtain⟨rj,S4,e4,a4,b4,p4⟩:=Ax p3.pen (n:=(Et st i).length) (by omega) (by omega)
      obtain⟨j,mj,ej⟩:=LO a4 b4
      have fj:=U3 mj
      have fj':=KU fj.1
      refine⟨.pool i j,S4,?_,p23.trans p4,fun z=>fj.2.1 z.symm,fi.1,fj'.1,n1,fj'.2,fj.2.2.symm⟩
      rw[pre]
      simp[Rt,hw5,cs,okS,dqS,hse,nls,e4,ej,Af.d]
    · by_cases w5 : way < 5
      · have hse : (Et st i).isEmpty = true := by
          cases z:(Et st i).isEmpty with
          |true=>rfl
          |false=>exact absurd ⟨w5,z⟩ hpool
        obtain⟨d,S',e,pn,hc⟩:=tail (some (.lst (F5 (Et st i)))) (fun _=>hse)
        refine⟨d,S',?_,pn,hc⟩
        rw[pre,←e]
        simp[Rt,w5,cs,okS,dqS,hse]
      · obtain ⟨d, S', e, pn, hc⟩ := tail none (fun z => absurd z w5)
        refine⟨d,S',?_,pn,hc⟩
        rw[pre,←e]
        simp[Rt,w5]
end
noncomputable def runs(t:Tr)(st:Stt)(ds:List Af):Stt:=ds.foldl (step t) st
def L0(t:Tr):Stt->List Af->Prop
 |_,[]=>True
 |st,d::ds=>Can t st d/\L0 t (step t st d) ds
theorem Je{t:Tr}{d:Af}:∀{ds:List Af} {st:Stt},L0 t st ds->Can t (runs t st ds) d->L0 t st (ds++[d])
 | [],st,_,h=>⟨h,trivial⟩
 |x::ds,st,h,g=>⟨h.1,Je h.2 g⟩
theorem IZ{t:Tr}:∀{ds:List Af} {st:Stt} {i:Nat} {d:Af},L0 t st ds->ds[i]?=some d->Can t (runs t st (ds.take i)) d
  | x :: ds, st, 0, d, h, g => by
    simp at g;subst g
    exact h.1
  | x :: ds, st, i + 1, d, h, g => by
    simp at g
    show Can t (runs t (step t st x) (ds.take i)) d
    exact IZ h.2 g
theorem LI{t:Tr}{st:Stt}{ds:List Af}{d:Af}:runs t st (ds++[d])=step t (runs t st ds) d:=by simp[runs]
theorem Iq{t:Tr}{st:Stt}{ds:List Af}{i:Nat}{d:Af}(h:ds[i]?=some d):runs t st (ds.take (i+1))=step t (runs t st (ds.take i)) d:=by
 rw[List.take_succ,h]
 exact LI
theorem Kh{t:Tr}(ht:JK t):∀{ds:List Af} {st:Stt} {k:Nat},Fz t k st->L0 t st ds->k+ds.length≤17->Fz t (k+ds.length) (runs t st ds)
  | [],st,k,h,_,_=>h
  | d :: ds, st, k, h, g, hl => by
    have:=Kh ht (ds:=ds) (V2 ht h (by simp at hl;omega) g.1) g.2 (by simp at hl;omega)
    rw[show k+(d::ds).length=k+1+ds.length by simp;omega]
    exact this
theorem M9{t:Tr}:∀{ds:List Af} {st:Stt} {i:Nat},L0 t st ds->L0 t st (ds.take i)
 | [],st,i,h=>by simp;exact trivial
 |d::ds,st,0,h=>trivial
 |d::ds,st,i+1,h=>⟨h.1,M9 h.2⟩
noncomputable def st0(t:Tr)(ls:List Ld):Stt:=⟨ls,t.ho,[]⟩
structure Co(t:Tr)(ls:List Ld)(ds:List Af):Prop where
 tr:JK t
 inv:Fz t 0 (st0 t ls)
 good:L0 t (st0 t ls) ds
 len:ds.length≤16
theorem Co.at{t:Tr}{ls:List Ld}{ds:List Af}(h:Co t ls ds)(i:Nat):Fz t (ds.take i).length (runs t (st0 t ls) (ds.take i)):=by
 have:=Kh h.tr (ds:=ds.take i) h.inv (M9 h.good) (by have:=h.len;simp;omega)
 rwa [Nat.zero_add]at this
noncomputable def Aw(t:Tr)(ls:List Ld)(ds:List Af):D:=.tup [t.d,.tup (ls.map Ld.d),.tup (ds.map Af.d)]
theorem OB{t:Tr}{ls:List Ld}(h:El t ls)(hl:ls.length≤4)(h1:t.ho.length=t.p){g:Nat}(g0:0<g)(g1:g≤32)(g2:∀r∈t.ho,Ok g g r):Fz t 0 (st0 t ls):=by
 obtain⟨ha,G,G0,G1,G2⟩:=h
 have hG:G≤32^4:=Nat.le_trans G1 (Nat.pow_le_pow_right (by decide) hl)
 have hB:G*g<2^30:=by
  have:=Nat.mul_le_mul hG g1
  omega
 refine Fz.of (G:=G*g) (B:=G*g) (by simpa[st0]using hl) ?_ h1 (Nat.le_refl _) (Nat.mul_pos G0 g0) (Nat.le_refl _) hB ?_
 ·intro x hx
  have:=ha x hx
  exact⟨this.1,by omega,bX this.2.2.1,this.2.2.2.1,fun r hr=>(G2 x hx r hr).up (Nat.le_refl _)⟩
 ·intro r hr
  have:=(g2 r hr).up (t:=G) (B':=G*g) (by rw[Nat.mul_comm];exact Nat.le_refl _)
  rwa [Nat.mul_comm g G]at this
noncomputable def Hn:Af->Bool
 | .thr .. =>true
 |_=>false
section
variable{S:Sto}{p:Nat}
theorem VY(d:Af)(E:En)(h:E=[some d.d]):eOp (o2 wEq) [(eOp (o2 wIx) [(eV 0),(eC (.int 0))]),(eC (.str "throw"))] E S=some (.bl (Hn d),S):=by
 subst h
 cases d<;>simp[Af.d,Hn]
theorem hU{q:Nat}{ds:List Af}(hq:S[q]?=some (.lst (ds.map Af.d)))(hl:ds.length≤50):Bx [(q,ds.map Af.d)] (tNm 0) (eOp (o2 wEq) [(eOp (o2 wIx) [(eV 0),(eC (.int 0))]),(eC (.str "throw"))]) (eV 0) (ds.map Af.d) [] [none] S=some ((ds.filter Hn).map Af.d,S):=
 D2 (gs:=[(q,ds.map Af.d)]) (t:=tNm 0) (f:=eV 0) (C:=[]) (m:=1) (e:=Af.d) (g:=Af.d) (b:=Hn) (S:=S) (fun g hg=>by rw[List.mem_singleton.mp hg];exact AQ hq) (xs:=ds) (acc:=[]) (os:=[none]) rfl (Nat.le_trans (show _≤50 by simp;omega) (AV (by decide))) (by
  intro d _ os ho
  obtain⟨o1,rfl⟩:∃o1,os=[o1]:=by
   match os,ho with
   | [a],_=>exact⟨a,rfl⟩
  exact⟨[some d.d],rfl,by simp,VY d _ rfl,by simp⟩)
end
noncomputable def stD(st:Stt):D:=.tup [.lst (st.loads.map Ld.d),shD st.hold]
section
variable{S:Sto}{s l m:Nat}{as:List Nat}{st:Stt}
theorem YS(hS:SAt S s l m as st)(hl:st.loads.length≤50):Bx [(l,as.map D.ref)] (tNm 0) BU (eOp (o1 By) [(eV 0)]) (as.map D.ref) [] [none] S=some (st.loads.map Ld.d,S):=by
 have e:=CZ (gs:=[(l,as.map D.ref)]) (t:=tNm 0) (f:=eOp (o1 By) [(eV 0)]) (C:=[]) (m:=1) (e:=fun z:Nat×Ld=>D.ref z.1) (g:=fun z=>Ld.d z.2) hS.guard (xs:=as.zip st.loads) (acc:=[]) (os:=[none]) rfl (Nat.le_trans (show _≤50 by simp;omega) (AV (by decide))) (by
  intro z hz os ho
  obtain⟨q1,rfl⟩:∃q1,os=[q1]:=by
   match os,ho with
   | [a],_=>exact⟨a,rfl⟩
  refine⟨[some (.ref z.1)],rfl,by simp,?_⟩
  simp[A1 (hS.zmem hz),Ld.d])
 rw[←Pm hS.len,←RX hS.len Ld.d]at e
 exact e
theorem Kr{rs:List Rat}:D.tup (rs.map aD)=shD rs:=rfl
def R0:Ev:=CI [(B4 [] 1 (FE (eOp (o2 wIx) [(eV 1),(eC (.int 0))])) (tNm 0) BU (eOp (o1 By) [(eV 0)])),(eOp (o1 By) [(eOp (o2 wIx) [(eV 1),(eC (.int 1))])])]
theorem Pq{E:En}(hS:SAt S s l m as st)(hl:st.loads.length≤50)(hE:at? E 1=some (.ref s)):R0 E S=some (stD st,S):=by
 have r:=A1 hS.root
 have sq:=EE hS.lo
 have e:=YS hS hl
 simp[R0,hE,r,sq,e,Kr,stD]
theorem QV{t:Tr}{ls:List Ld}{ds:List Af}(h:Co t ls ds):∃q S',Cv [Aw t ls ds] S=some (.ref q,S')/\S'[q]?=some (.lst ((List.range (ds.length+1)).map fun j=>stD (runs t (st0 t ls) (ds.take j))))/\Bz [] S S':=by
 have hl0:=h.inv.len
 have hl1:ls.length≤4:=hl0
 obtain⟨s,l,m,as,S1,e1,hS,sm,hn⟩:=NH (S:=S) (t:=t) (ls:=ls) (x:=.tup (ds.map Af.d)) (by omega)
 have hS:SAt S1 s l m as (st0 t ls):=hS
 have lt:=hS.lts
 have hS1:SAt (S1++[Cl.lst [stD (st0 t ls)]]) s l m as (st0 t ls):=hS.same0 .app
 have hq:(S1++[Cl.lst [stD (st0 t ls)]])[S1.length]?=some (.lst [stD (st0 t ls)]):=List.getElem?_concat_length
 have qn:S1.length∉s::l::m::as:=fun z=>by have:=lt _ z;omega
 have sn0:=fun{E:En} (hE:at? E 1=some (.ref s))=>Pq (E:=E) hS (show ls.length≤50 by omega) hE
 have lSq:=sm.len
 generalize hQ:S1.length=q at*
 obtain⟨E',S',ef,i,as',o,f1,f2,rfl,f3,f4,f5,f6,f7⟩:=EL (gs:=[]) (t:=tNm 3) (b:=Ae (B9 (AK BP [(eOp (o2 wIx) [(eV 0),(eC (.int 0))]),(eV 1),(eV 3)]))
  (B9 (Hz II (eV 2) [R0])))
  (I:=fun rs E S'=>∃(i:Nat) (as':List Nat) (o:Option D),rs=(ds.drop i).map Af.d/\i≤ds.length/\E=[some (Aw t ls ds),some (.ref s),some (.ref q),o]/\S'[q]?=some (.lst ((List.range (i+1)).map fun j=>stD (runs t (st0 t ls) (ds.take j))))/\SAt S' s l m as' (runs t (st0 t ls) (ds.take i))/\q∉s::l::m::as'/\(∀n∈s::l::m::as',S.length≤n)/\Bz [] S S')
  (fun _ _ _ _=>Ad) (ds:=ds.map Af.d) (E:=[some (Aw t ls ds),some (.ref s),some (.ref q),none]) (S:=S1++[Cl.lst [stD (st0 t ls)]])
  ⟨0, as, none, by simp, Nat.zero_le _, rfl, by rw [hq]; rfl, hS1, qn, hn, sm.trans .app⟩ (by
   rintro dd rs E T ⟨i,as',o,i1,i2,rfl,i3,i4,i5,i6,i7⟩
   have hlt:i<ds.length:=by
    rcases Nat.lt_or_ge i ds.length with w|w
    ·exact w
    ·rw[List.drop_eq_nil_of_le w]at i1;cases i1
   rw[List.drop_eq_getElem_cons hlt,List.map_cons]at i1
   injection i1 with z1 z2
   subst z1 z2
   have inv:=h.at i
   have il:(ds.take i).length≤16:=by have:=h.len;simp;omega
   have can:=IZ h.good (List.getElem?_eq_getElem hlt)
   obtain⟨T2,as2,k1,k2,k3,k4⟩:=YN i4 h.tr inv il can
   have q2:=k3.get i3 i5
   rw[←Iq (List.getElem?_eq_getElem hlt)]at k2
   have inv2:=(h.at (i+1)).len
   have il2:(ds.take (i+1)).length≤16:=by have:=h.len;simp;omega
   have sn:=Pq (E:=[some (Aw t ls ds),some (.ref s),some (.ref q),some ds[i].d]) k2 (by omega) rfl
   have kk:=AQ q2
   have q5:q∉s::l::m::as2:=by
    intro z
    simp only[List.mem_cons]at z i5
    rcases z with z|z|z|z
    ·exact i5 (.inl z)
    ·exact i5 (.inr (.inl z))
    ·exact i5 (.inr (.inr (.inl z)))
    ·rcases k4 _ z with w|w
     ·exact i5 (.inr (.inr (.inr w)))
     ·have:=Aa i3;omega
   have q6:∀n∈s::l::m::as2,S.length≤n:=by
    intro n hz
    simp only[List.mem_cons]at hz i6
    rcases hz with z|z|z|z
    ·exact i6 n (.inl z)
    ·exact i6 n (.inr (.inl z))
    ·exact i6 n (.inr (.inr (.inl z)))
    ·rcases k4 _ z with w|w
     ·exact i6 n (.inr (.inr (.inr w)))
     ·exact Nat.le_trans i7.len w
   have q7:Bz [] S T2:=Bz.new (A:=[]) i7 k3 i6
   refine⟨_,[some (Aw t ls ds),some (.ref s),some (.ref q),some ds[i].d],T2.set q (.lst ((List.range (i+1+1)).map fun j=>stD (runs t (st0 t ls) (ds.take j)))),by simp;rfl,?_,i+1,as2,some ds[i].d,rfl,hlt,rfl,List.getElem?_set_self (Aa q2),k2.same (A:=[q]) (.set (by simp)) (by simpa using q5),q5,q6,Bz.new (A:=[]) (B:=[q]) q7 (.set (by simp)) (by intro n hn';simp at hn';omega)⟩
   have hz:((List.range (i+1)).map fun j=>stD (runs t (st0 t ls) (ds.take j))).length<sizeLine:=Nat.lt_of_lt_of_le (show _<50 by have:=h.len;simp;omega) (AV (by decide))
   have hfin:((List.range (i+1+1)).map fun j=>stD (runs t (st0 t ls) (ds.take j)))=((List.range (i+1)).map fun j=>stD (runs t (st0 t ls) (ds.take j)))++[stD (runs t (st0 t ls) (ds.take (i+1)))]:=by
    rw[List.range_succ,List.map_append];rfl
   rw[hfin]
   generalize ((List.range (i+1)).map fun j=>stD (runs t (st0 t ls) (ds.take j)))=DD at*
   generalize stD (runs t (st0 t ls) (ds.take (i+1)))=d2 at*
   simp only[Aw]at sn⊢
   simp[k1,kk,sn,hz])
 have hz:i=ds.length:=by
  have:=congrArg List.length f1
  simp at this
  omega
 subst hz
 refine⟨q,S',?_,f3,f7⟩
 have eb:KC=(Ae (BW 1 (AK DR [(eV 0)]))
  (Ae (BW 2 (Hf [R0]))
  (Ae (IC (FE (eOp (o2 wIx) [(eV 0),(eC (.int 2))])) (tNm 3) (Ae (B9 (AK BP [(eOp (o2 wIx) [(eV 0),(eC (.int 0))]),(eV 1),(eV 3)]))
  (B9 (Hz II (eV 2) [R0]))))
  (Bf (eV 2))))):=rfl
 have s1:=sn0 (E:=[some (Aw t ls ds),some (.ref s),none,none]) rfl
 unfold Cv
 rw[eb]
 simp only[Aw]at s1 ef⊢
 simp[e1,s1,hQ,ef]
end
theorem PN{n m d:Nat}(h:n≤m):HT.sIx m d (some (n:Int))=n:=by
 unfold HT.sIx
 have:¬((n:Int)<0):=by omega
 simp[this]
 omega
theorem Kf{α:Type}{ds:List α}{n:Nat}(h:n≤ds.length):MB ds none (some (n:Int))=ds.take n:=by
 unfold MB
 rw[PN h]
 simp[HT.sIx]
theorem Vk{α:Type}{ds:List α}{n:Nat}(h:n≤ds.length):MB ds (some (n:Int)) none=ds.drop n:=by
 unfold MB
 rw[PN h]
 simp[HT.sIx]
 exact List.take_of_length_le (by simp)
noncomputable def hD(x:Ld):D:=.tup [.int x.k,.int x.n]
noncomputable def Bb(ls:List Ld):D:=.lst (ls.map hD)
noncomputable def Jr(ls:List Ld):D:=.lst (ls.map fun x=>shD x.ow)
section
variable{S:Sto}{ls:List Ld}{i j:Nat}{n:Int}
@[simp] theorem cQ:dr S (Bb ls)=.val (Bb ls):=nr rfl
@[simp] theorem fB:dr S (Jr ls)=.val (Jr ls):=nr rfl
@[simp] theorem br:asS (.val (Bb ls))=some (ls.map hD):=nr rfl
@[simp] theorem bP:asS (.val (Jr ls))=some (ls.map fun x=>shD x.ow):=nr rfl
@[simp] theorem av:Hh (.val (Bb ls))=some (.val (.int ls.length)):=by
 show Hh (.val (.lst (ls.map hD)))=_
 rw[Ux,List.length_map]
theorem Eo(hi:i<ls.length):atI (ls.map hD) (i:Int)=some (hD (AS ls i)):=C8 (by rw[List.getElem?_map,EO hi];rfl)
theorem Kn(hi:i<ls.length):atI (ls.map fun x=>shD x.ow) (i:Int)=some (shD (AS ls i).ow):=C8 (by rw[List.getElem?_map,EO hi];rfl)
@[simp] theorem gI{x:Ld}:dr S (hD x)=.val (.tup [.int x.k,.int x.n]):=nr rfl
@[simp] theorem eY{ts:List Tf}{x:Ld}{E:En}:tTp ts (hD x) E S=tMs ts [.int x.k,.int x.n] E S:=nr rfl
theorem Ol(hi:i<ls.length)(hn:n≤(AS ls i).n):CB [Bb ls,.int i,.int n] S=some (.bl true,S):=by
 have hi':(i:Int)<ls.length:=by omega
 simp[CB,Hu,hi',hi,Eo hi,hn]
theorem Pf(hi:i<ls.length)(hj:j<ls.length)(h1:0<(AS ls i).n)(h2:0<(AS ls j).n)(hk:(AS ls i).k=(AS ls j).k):Fo [Bb ls,.int i,.int j] S=some (.bl true,S):=by
 have e1:=Ol (S:=S) (n:=1) hi (by omega)
 have e2:=Ol (S:=S) (n:=1) hj (by omega)
 simp[Fo,Jw,e1,e2,Eo hi,Eo hj,hk]
theorem K0{k:Nat}(hi:i<ls.length)(hn:n≤(AS ls i).n)(hk:k≠(AS ls i).k):Eh [Bb ls,.int i,.int n,.int k] S=some (.bl true,S):=by
 have e1:=Ol (S:=S) hi hn
 have e2:(((AS ls i).k:Int)==(k:Int))=false:=by simp;omega
 simp[Eh,J9,e1,Eo hi,e2]
theorem Ve{lo hi:Option Int}:wSl lo hi (.val (Bb ls))=some (.own (MB (ls.map hD) lo hi)):=nr rfl
theorem FD(hi:i<ls.length)(hl:ls.length≤60):Bj [Bb ls,.int i,.int n] S=some (Bb (less ls i n),S):=by
 have c1:=Kf (ds:=ls.map hD) (n:=i) (by simp;omega)
 have c2:MB (ls.map hD) (some ((i:Int)+1)) none=(ls.map hD).drop (i+1):=by
  have:=Vk (ds:=ls.map hD) (n:=i+1) (by simp;omega)
  simpa using this
 have ef:Bb (less ls i n)=.lst ((ls.map hD).take i++[.tup [.int (AS ls i).k,.int ((AS ls i).n-n)]]++(ls.map hD).drop (i+1)):=by
  rw[PU,Bb,List.map_set,List.set_eq_take_append_cons_drop,if_pos (by simpa using hi)]
  simp[hD]
 have z1:(List.take i (ls.map hD)).length+1≤sizeLine:=Nat.le_trans (show _≤100 by simp;omega) (AV (by decide))
 have z2:(List.take i (ls.map hD)++[D.tup [.int (AS ls i).k,.int ((AS ls i).n-n)]]).length+(List.drop (i+1) (ls.map hD)).length≤sizeLine:=Nat.le_trans (show _≤100 by simp;omega) (AV (by decide))
 rw[ef]
 have ah:=Eo hi
 have ws:=fun{lo hi:Option Int}=>Ve (ls:=ls) (lo:=lo) (hi:=hi)
 generalize List.take i (ls.map hD)=A at*
 generalize List.drop (i+1) (ls.map hD)=B at*
 simp only[List.length_append,List.length_cons,List.length_nil]at z2
 simp[Bj,Gm,ah,ws,c1,c2,z1,z2]
end
section
variable{S:Sto}{st:Stt}{t:Tr}{k:Nat}
@[simp] theorem Ed{ls:List Ld}{r:List D}:C9 (.val (Bb ls)) (.val (.lst r))=if(ls.map hD).length+r.length≤sizeLine then some (.own (ls.map hD++r))else none:=nr rfl
theorem Ka{ls:List Ld}{y:Ld}:D.lst (ls.map hD++[.tup [.int y.k,.int y.n]])=Bb (ls++[y]):=by simp[Bb,hD]
theorem LS(h:Fz t k st)(hk:k≤17){d:Af}(hc:Can t st d):Aj [Bb st.loads,d.d] S=some (Bb (step t st d).loads,S):=by
  have hlen:=h.len
  have hz:(st.loads.map hD).length+1≤sizeLine:=Nat.le_trans (show _≤100 by simp;omega) (AV (by decide))
  have hz2:∀{i:Nat} {n:Int},((less st.loads i n).map hD).length+1≤sizeLine:=fun{i n}=>Nat.le_trans (show _≤100 by simp[Dr];omega) (AV (by decide))
  cases d with
  | bring p kd n =>
    have e:=Ka (ls:=st.loads) (y:=⟨kd,n,Ry t.p p⟩)
    show _=some (Bb (st.loads++[⟨kd,n,Ry t.p p⟩]),S)
    rw[←e]
    have wA:=Ed (ls:=st.loads) (r:=[.tup [.int kd,.int n]])
    rw[if_pos (by simpa using hz)]at wA
    simp[Aj,Be,Af.d,-Ed,wA]
  | pool i j =>
    obtain⟨hij,hi,hj,h1,h2,h3⟩:=hc
    have e0:AS (less st.loads i (AS st.loads i).n) j=AS st.loads j:=by
      unfold AS less
      rw[List.getD_eq_getElem?_getD,List.getElem?_set_ne hij,←List.getD_eq_getElem?_getD]
    have w1:=FD (S:=S) (n:=(AS st.loads i).n) hi (by omega)
    have w2:=FD (S:=S) (ls:=less st.loads i (AS st.loads i).n) (i:=j) (n:=(AS st.loads j).n) (by rw[Dr];exact hj) (by rw[Dr];omega)
    have z3:((less (less st.loads i (AS st.loads i).n) j (AS st.loads j).n).map hD).length+1≤sizeLine:=Nat.le_trans (show _≤100 by simp[Dr];omega) (AV (by decide))
    have e:=Ka (ls:=less (less st.loads i (AS st.loads i).n) j (AS st.loads j).n) (y:=⟨(AS st.loads i).k,(AS st.loads i).n+(AS st.loads j).n,Ca (AS st.loads i).n (AS st.loads j).n (AS st.loads i).ow (AS st.loads j).ow⟩)
    show _=some (Bb (less (less st.loads i (AS st.loads i).n) j (AS st.loads j).n++[_]),S)
    rw[←e]
    have a1:=Eo hi
    have a2:=Eo hj
    have wA:=Ed (ls:=less (less st.loads i (AS st.loads i).n) j (AS st.loads j).n) (r:=[.tup [.int (AS st.loads i).k,.int ((AS st.loads i).n+(AS st.loads j).n)]])
    rw[if_pos (by simpa using z3)]at wA
    generalize (less (less st.loads i (AS st.loads i).n) j (AS st.loads j).n).map hD=A at*
    simp[Aj,Be,Af.d,a1,a2,w1,w2,-Ed,wA]
  | swap i g kd n =>
    obtain⟨hi,h1,h2,h3,h4,h5,h6⟩:=hc
    have w1:=FD (S:=S) (n:=g) hi (by omega)
    have e:=Ka (ls:=less st.loads i g) (y:=⟨kd,n,(AS st.loads i).ow⟩)
    show _=some (Bb (less st.loads i g++[⟨kd,n,(AS st.loads i).ow⟩]),S)
    rw[←e]
    have wA:=Ed (ls:=less st.loads i g) (r:=[.tup [.int kd,.int n]])
    rw[if_pos (by simpa using hz2)]at wA
    simp[Aj,Be,Af.d,w1,-Ed,wA]
  | trade u i g kd n =>
    obtain⟨hi,h1,h2,h3,h4,h5,h6,h7⟩:=hc
    have w1:=FD (S:=S) (n:=g) hi (by omega)
    have e:=Ka (ls:=less st.loads i g) (y:=⟨kd,n,(AS st.loads i).ow⟩)
    show _=some (Bb (less st.loads i g++[⟨kd,n,(AS st.loads i).ow⟩]),S)
    rw[←e]
    have wA:=Ed (ls:=less st.loads i g) (r:=[.tup [.int kd,.int n]])
    rw[if_pos (by simpa using hz2)]at wA
    simp[Aj,Be,Af.d,w1,-Ed,wA]
  | spoil i n =>
    obtain⟨hi,h1,h2⟩:=hc
    have w1:=FD (S:=S) (n:=n) hi (by omega)
    show _=some (Bb (less st.loads i n),S)
    simp[Aj,Be,Af.d,w1]
  | thr i n ws =>
    obtain⟨hi,h1,h2,h3,h4⟩:=hc
    have w1:=FD (S:=S) (n:=n) hi (by omega)
    have e:Bb (step t st (.thr i n ws)).loads=Bb (less st.loads i n):=by
      show D.lst (((less st.loads i n).map _).map hD)=_
      rw[List.map_map];rfl
    rw[e]
    simp[Aj,Be,Af.d,w1]
  | sell p q x =>
    have e:Bb (step t st (.sell p q x)).loads=Bb st.loads:=by
      show D.lst ((st.loads.map _).map hD)=_
      rw[List.map_map];rfl
    rw[e]
    simp[Aj,Be,Af.d]
noncomputable def Gi:Af->Option Int
 | .trade u .. =>some u
 |_=>none
theorem Rr{ls:List Ld}:∀{ds:List Af},(runs t (st0 t ls) ds).nums=ds.filterMap Gi:=by
  intro ds
  have : ∀ (ds : List Af) (st : Stt), (runs t st ds).nums = st.nums ++ ds.filterMap Gi := by
    intro ds
    induction ds with
    |nil=>intro st;simp[runs]
    | cons d ds ih =>
      intro st
      show(runs t (step t st d) ds).nums=_
      rw[ih]
      cases d<;>simp[step,Gi,List.filterMap_cons]
  rw[this];rfl
theorem Jg:∀{ds:List Af} {acc:List D} {o:Option D},acc.length+ds.length≤100->Bx [] (tNm 0) (eOp (o2 wEq) [(eOp (o2 wIx) [(eV 0),(eC (.int 0))]),(eC (.str "trade"))]) (eOp (o2 wIx) [(eV 0),(eC (.int 1))]) (ds.map Af.d) acc [o] S=some (acc++(ds.filterMap Gi).map D.int,S)
  | [],acc,o,h=>by rw[List.map_nil,D4 Ad];simp
  | d :: ds, acc, o, h => by
    have hz:acc.length<sizeLine:=Nat.lt_of_lt_of_le (show acc.length<101 by simp at h;omega) (AV (by decide))
    have ht:tNm 0 d.d [o] S=some [some d.d]:=by simp
    rw[List.map_cons]
    cases d with
    | trade u i g kd n =>
      rw[GW Ad hz ht (S1:=S) (by simp[Af.d])]
      have:eOp (o2 wIx) [(eV 0),(eC (.int 1))] [some (Af.trade u i g kd n).d] S=some (.int u,S):=by simp[Af.d]
      rw[this,Bp,Jg (by simp at h ⊢; omega)]
      simp[Gi,List.filterMap_cons]
    |bring=>rw[IE Ad hz ht (S1:=S) (by simp[Af.d]),Jg (by simp at h ⊢; omega)];simp[Gi,List.filterMap_cons]
    |pool=>rw[IE Ad hz ht (S1:=S) (by simp[Af.d]),Jg (by simp at h ⊢; omega)];simp[Gi,List.filterMap_cons]
    |swap=>rw[IE Ad hz ht (S1:=S) (by simp[Af.d]),Jg (by simp at h ⊢; omega)];simp[Gi,List.filterMap_cons]
    |spoil=>rw[IE Ad hz ht (S1:=S) (by simp[Af.d]),Jg (by simp at h ⊢; omega)];simp[Gi,List.filterMap_cons]
    |thr=>rw[IE Ad hz ht (S1:=S) (by simp[Af.d]),Jg (by simp at h ⊢; omega)];simp[Gi,List.filterMap_cons]
    |sell=>rw[IE Ad hz ht (S1:=S) (by simp[Af.d]),Jg (by simp at h ⊢; omega)];simp[Gi,List.filterMap_cons]
theorem RI{ds:List Af}{d:Af}(hd:ds.length≤50)(hn:st.nums=ds.filterMap Gi)(hc:Can t st d):CS [Bb st.loads,.tup (ds.map Af.d),d.d] S=some (.bl true,S):=by
  cases d with
  |bring p kd n=>simp[CS,DZ,Af.d]
  | pool i j =>
    obtain⟨hij,hi,hj,h1,h2,h3⟩:=hc
    have e:=Pf (S:=S) hi hj h1 h2 h3
    simp[CS,DZ,Af.d,e]
  | swap i g kd n =>
    obtain⟨hi,h1,h2,h3,h4,h5,h6⟩:=hc
    have e:=K0 (S:=S) (k:=kd) hi h2 h4
    simp[CS,DZ,Af.d,e]
  | trade u i g kd n =>
    obtain⟨hi,h1,h2,h3,h4,h5,h6,h7,h8⟩:=hc
    have e:=K0 (S:=S) (k:=kd) hi h2 h4
    have tc:=Jg (S:=S) (ds:=ds) (acc:=[]) (o:=none) (by simp;omega)
    rw[←hn]at tc
    have fi:=Ot (us:=st.nums)
    have ii:=Nh (us:=st.nums) (i:=u)
    have iu:(st.nums.any fun x=>x==u)=false:=by
      rw[List.any_eq_false]
      intro x hx z
      have:x=u:=by simpa using z
      exact h7 (this▸hx)
    rw[iu]at ii
    generalize st.nums.map D.int=ud at*
    simp[CS,DZ,Af.d,tc,fi,ii,e]
  | spoil i n =>
    obtain⟨hi,h1,h2⟩:=hc
    have e:=Ol (S:=S) hi h2
    simp[CS,DZ,Af.d,e]
  | thr i n ws =>
    obtain⟨hi,h1,h2,h3,h4⟩:=hc
    have e:=Ol (S:=S) hi h2
    simp[CS,DZ,Af.d,e]
  |sell p q x=>simp[CS,DZ,Af.d]
end
section
variable{S:Sto}{st:Stt}{t:Tr}{k:Nat}
theorem VS{ss os:List Rat}:Mw (ss.map aD) (os.map aD)=(ss.zip os).map fun z=>D.tup [aD z.1,aD z.2]:=by
 unfold Mw
 rw[List.zip_map,List.map_map]
 rfl
noncomputable def O0(w m:Int)(ss os:List Rat):List Rat:=List.zipWith (fun s o=>(s*w+o*m) / (w+m)) ss os
theorem D0{w m:Int}{ss os:List Rat}{j n:Nat}(hs:∀r∈ss,Sz j r)(ho:∀r∈os,Sz j r)(hw:w.natAbs<2^n)(hm:m.natAbs<2^n)(h:0<w+m)(hj:2*j+n+1≤7990)(hl:ss.length≤10):Bi [shD ss,.int w,shD os,.int m] S=some (shD (O0 w m ss os),S):=by
 have e:=CZ (gs:=[]) (t:=tTp [(tNm 2),(tNm 3)]) (f:=AK G7 [(eV 2),(eV 0),(eV 3),(eV 1)]) (C:=[some (.int w),some (.int m)]) (m:=2) (e:=fun z:Rat×Rat=>D.tup [aD z.1,aD z.2]) (g:=fun z=>aD ((z.1*w+z.2*m) / (w+m))) (S:=S) Ad (xs:=ss.zip os) (acc:=[]) (os:=[none,none]) rfl (Nat.le_trans (show _≤50 by simp;omega) (AV (by decide))) (by
  intro z hz os' ho'
  obtain⟨q1,q2,rfl⟩:∃q1 q2,os'=[q1,q2]:=by
   match os',ho' with
   | [a,b],_=>exact⟨a,b,rfl⟩
  have hm2:=List.of_mem_zip (a:=z.1) (b:=z.2) hz
  have l:=Y3 (S:=S) (hs _ hm2.1) (ho _ hm2.2) hw hm h (by omega)
  refine⟨[some (aD z.1),some (aD z.2)],rfl,by simp,?_⟩
  simp[l])
 rw[←VS]at e
 have em:(ss.zip os).map (fun z=>aD ((z.1*w+z.2*m) / (w+m)))=(O0 w m ss os).map aD:=by
  unfold O0
  rw[←List.map_uncurry_zip_eq_zipWith,List.map_map]
  rfl
 rw[em]at e
 simp only[List.cons_append,List.nil_append]at e
 simp[Bi,Gj,e,Kr]
theorem Nm{P p:Nat}(hP:P≤10):ES [.int P,.int p] S=some (shD (Ry P p),S):=by
 have e:=QG (S:=S) (P:=P) (p:=p) (cond:=0) (C:=[]) (dd:=.int p) (f:=eIf (eOp (o2 wEq) [(eV 1),(eV 0)]) (eC TM) (eC G4)) hP (by
  intro i
  by_cases hi:i=p
  ·subst hi;simp;rfl
  ·have:((i:Int)==(p:Int))=false:=by simp;omega
   simp[this,hi];rfl)
 have rn:Hj (P:Int)=true:=DF (by omega) (by omega)
 simp[ES,Hv,rn,e,Kr]
theorem Ko{n m:Int}{ss os:List Rat}:O0 n m ss os=Ca n m ss os:=by
 unfold O0 Ca
 congr 1
 funext s o
 push_cast
 rfl
theorem Pd{n m:Int}{ss os:List Rat}:Ca n m ss os=Ca m n os ss:=by
 unfold Ca
 rw[List.zipWith_comm]
 congr 1
 funext o s
 push_cast
 grind
@[simp] theorem Q8{a b:Int}:ME [a,b]=if a≤b then [a,b]else [b,a]:=by
 unfold ME
 simp[List.mergeSort,List.MergeSort.Internal.splitInTwo,List.merge]
@[simp] theorem Xq{a b:Int}:Nu (.val (.lst [.int a,.int b]))=some (.own ((if a≤b then [a,b]else [b,a]).map D.int)):=by
 have:Nu (.val (.lst [.int a,.int b]))=some (.own ((ME [a,b]).map D.int)):=rfl
 rw[this,Q8]
@[simp] theorem aY{a b c d e:D}:atI [a,b,c,d,e] (-4)=some b:=nr rfl
@[simp] theorem bU{a b c d e f:D}:atI [a,b,c,d,e,f] (-4)=some c:=nr rfl
theorem Sk{i j:Nat}(ht:JK t)(h:Fz t k st)(hk:k≤17)(hc:Can t st (.pool i j)):BQ [Bb st.loads,Jr st.loads,(Af.pool i j).d] S=some (shD (Ca (AS st.loads i).n (AS st.loads j).n (AS st.loads i).ow (AS st.loads j).ow),S):=by
 obtain⟨hij,hi,hj,h1,h2,h3⟩:=hc
 have sz:=h.sz
 have pi:=h.pcs _ (Av hi)
 have pj:=h.pcs _ (Av hj)
 have ti:=h.own _ (Av hi)
 have tj:=h.own _ (Av hj)
 have zi:=sz.1 _ (Av hi)
 have zj:=sz.1 _ (Av hj)
 have hp:t.p≤10:=by have:=ht.2.1;omega
 ·by_cases hle:i≤j
  ·have hle':(i:Int)≤j:=by omega
   have e:=D0 (S:=S) (j:=30+170*k) (n:=131+k) zi zj (Ek pi.1 pi.2) (Ek pj.1 pj.2) (by omega) (by omega) (by omega)
   rw[Ko]at e
   have a1:=Eo hi
   have a2:=Eo hj
   have b1:=Kn hi
   have b2:=Kn hj
   have mf:B3 [(Af.pool i j).d] S=some (.lst [.int i,.int j],S):=by
    simp[B3,Du,Af.d,hle,hle']
   simp only[Af.d]at mf⊢
   simp[BQ,Ct,mf,a1,a2,b1,b2,e]
  ·have hle':¬(i:Int)≤j:=by omega
   have e:=D0 (S:=S) (j:=30+170*k) (n:=131+k) zj zi (Ek pj.1 pj.2) (Ek pi.1 pi.2) (by omega) (by omega) (by omega)
   rw[Ko,Pd]at e
   have a1:=Eo hi
   have a2:=Eo hj
   have b1:=Kn hi
   have b2:=Kn hj
   have mf:B3 [(Af.pool i j).d] S=some (.lst [.int j,.int i],S):=by
    simp[B3,Du,Af.d,hle,hle']
   simp only[Af.d]at mf⊢
   simp[BQ,Ct,mf,a1,a2,b1,b2,e]
theorem Rp{i kd:Nat}{g n:Int}(hi:i<st.loads.length):BQ [Bb st.loads,Jr st.loads,(Af.swap i g kd n).d] S=some (shD (AS st.loads i).ow,S):=by
 have b1:=Kn hi
 simp[BQ,Ct,B3,Du,Af.d,b1]
theorem QT{i kd:Nat}{u g n:Int}(hi:i<st.loads.length):BQ [Bb st.loads,Jr st.loads,(Af.trade u i g kd n).d] S=some (shD (AS st.loads i).ow,S):=by
 have b1:=Kn hi
 simp[BQ,Ct,B3,Du,Af.d,b1]
theorem Um{ws:List Int}(h:Fz t k st)(hk:k≤17)(hl:ws.length=t.k+1)(hw:∀w∈ws,1≤w/\w≤99):DH [t.d,Bb st.loads,.tup (ws.map D.int)] S=some (.int (D9 t st.loads ws),S):=by
 have hlen:=h.len
 have e:=CZ (gs:=[]) (t:=tTp [(tNm 1),(tNm 2)]) (f:=eOp (o2 Cn) [(eV 2),(eOp (o2 wIx) [(eV 0),(eV 1)])]) (C:=[some (.tup (ws.map D.int))]) (m:=2) (e:=hD) (g:=fun x=>D.int (x.n*ws.getD x.k 0)) (S:=S) Ad (xs:=st.loads) (acc:=[]) (os:=[none,none]) rfl (Nat.le_trans (show _≤50 by simp;omega) (AV (by decide))) (by
  intro x hx os ho
  obtain⟨q1,q2,rfl⟩:∃q1 q2,os=[q1,q2]:=by
   match os,ho with
   | [a,b],_=>exact⟨a,b,rfl⟩
  have hkk:=h.kind _ hx
  have w1:=P8 (ws:=ws) (i:=x.k) (by omega)
  have w2:=La hw (i:=x.k) (by omega)
  have m1:Dl x.n (ws.getD x.k 0)=true:=mulR (by omega) (by omega)
  generalize ws.getD x.k 0=wz at*
  refine⟨[some (.int x.k),some (.int x.n)],rfl,by simp,?_⟩
  simp[w1,m1])
 simp only[List.cons_append,List.nil_append]at e
 have es:Iw (st.loads.map fun x=>D.int (x.n*ws.getD x.k 0))=some (st.loads.map fun x=>x.n*ws.getD x.k 0):=by
  have:=FQ (st.loads.map fun x=>x.n*ws.getD x.k 0)
  rwa [List.map_map]at this
 have w2:=NZ hl
 have w4:=La hw (i:=t.k) (by omega)
 have m2:Dl (t.b:Int) (ws.getD t.k 0)=true:=mulR (by omega) (by omega)
 have e2:D9 t st.loads ws=(st.loads.map fun x=>x.n*ws.getD x.k 0).sum+t.b*ws.getD t.k 0:=rfl
 rw[e2]
 have sq:sqD S (Bb st.loads)=some (st.loads.map hD,[]):=rfl
 generalize (st.loads.map fun x=>x.n*ws.getD x.k 0)=es' at*
 generalize (st.loads.map fun x=>D.int (x.n*ws.getD x.k 0))=es2 at*
 generalize ws.getD t.k 0=wb at*
 simp[DH,Gn,Tr.d,sq,e,es,w2,m2]
theorem Xs{i:Nat}{n:Int}{ws:List Int}(ht:JK t)(h:Fz t k st)(hk:k≤17)(hc:Can t st (.thr i n ws)):Dp [t.d,Bb st.loads,(Af.thr i n ws).d] S=some (aD (IK t st.loads i n ws),S):=by
 obtain⟨hi,h1,h2,hl,hw⟩:=hc
 have a:=JA ht h (by omega) hl hw
 have w1:=P8 (ws:=ws) (i:=(AS st.loads i).k) (by have:=h.kind _ (Av hi);omega)
 have w3:=La hw (i:=(AS st.loads i).k) (by have:=h.kind _ (Av hi);omega)
 have m1:Dl n (ws.getD (AS st.loads i).k 0)=true:=mulR (by omega) (by omega)
 have l1:=TX (S:=S) (t:=n*ws.getD (AS st.loads i).k 0) a.1 (Cf (Ek (by omega) a.2) (by omega))
 have wo:=Um (S:=S) h hk hl hw
 have ah:=Eo hi
 rw[Ke hi]
 generalize aD (((n*ws.getD (AS st.loads i).k 0:Int):Rat) / (D9 t st.loads ws:Rat))=R at*
 generalize ws.getD (AS st.loads i).k 0=wa at*
 simp[Dp,G8,Af.d,ah,w1,m1,wo,l1]
theorem SQ{X:Rat}{ss os:List Rat}:O0 ((X.den:Int)-X.num) X.num ss os=Gu X os ss:=by
 unfold O0 Gu
 congr 1
 funext s o
 have h1:=Dx X
 have h2:=IA X
 push_cast
 have e:((X.den:Rat)-(X.num:Rat)+(X.num:Rat))=(X.den:Rat):=by grind
 rw[e]
 grind
theorem TZ{i:Nat}{n:Int}{ws:List Int}{ss:List Rat}(ht:JK t)(h:Fz t k st)(hk:k≤17)(hc:Can t st (.thr i n ws))(hs:∀r∈ss,Sz (30+170*k) r)(hl:ss.length≤10):C6 [t.d,Bb st.loads,Jr st.loads,(Af.thr i n ws).d,shD ss] S=some (shD (Gu (IK t st.loads i n ws) (AS st.loads i).ow ss),S):=by
 have pt:=Xs (S:=S) ht h hk hc
 obtain⟨hi,h1,h2,hl',hw⟩:=hc
 have cz:=TB ht h (by omega) hl' hw hi h1 h2
 have b1:=Kn hi
 generalize IK t st.loads i n ws=X at*
 have d0:=den_pos X
 have c2:=cz.2
 have e:=D0 (S:=S) (w:=(X.den:Int)-X.num) (m:=X.num) (j:=30+170*k) (n:=146+k) hs (h.sz.1 _ (Av hi)) (by
  have c1:=cz.1
  have:2^(146+k)=2^(145+k)*2:=by rw[show 146+k=(145+k)+1 by omega,Nat.pow_succ]
  generalize 2^(145+k)=P at*
  omega) (Xr cz.1 (by omega)) (by omega) (by omega) hl
 rw[SQ]at e
 generalize Gu X (AS st.loads i).ow ss=rs at*
 simp only[aD,Af.d]at pt⊢
 simp[C6,GB,pt,b1,e]
theorem Rw{p q:Nat}{x:Rat}{ss:List Rat}{j i:Nat}(hs:∀r∈ss,Sz j r)(hx:Sz i x)(hj:2*j+i≤7900)(hp:p<ss.length)(hq:q<ss.length)(hpq:p≠q):∃S',Dm [(Af.sell p q x).d,shD ss] S=some (shD (GK p q x ss),S')/\Bz [] S S':=by
 have sp:=hs _ (getD_mem (d:=0) hp)
 have sq:=hs _ (getD_mem (d:=0) hq)
 have l1:∀S,Ee [aD (ss.getD p 0),aD x] S=some (aD (ss.getD p 0*x),S):=fun S=>WU sp hx (by omega)
 have s1:=Jl sp hx
 have l2:∀S,Ie [aD (ss.getD p 0),aD (ss.getD p 0*x)] S=some (aD (ss.getD p 0-ss.getD p 0*x),S):=fun S=>dN sp s1 (by omega)
 have l3:∀S,Io [aD (ss.getD q 0),aD (ss.getD p 0*x)] S=some (aD (ss.getD q 0+ss.getD p 0*x),S):=fun S=>dW sq s1 (by omega)
 have a1:=Mz hp
 have a2:=Mz hq
 have i1:=Wr hp
 have i2:ixN (((ss.map aD).set p (aD (ss.getD p 0-ss.getD p 0*x))).length) (q:Int)=some q:=JM (by simpa using hq)
 refine⟨S++[.lst ((GK p q x ss).map aD)],?_,.app⟩
 simp only[List.length_set,List.length_map]at i1 i2
 have em:(GK p q x ss).map aD=((ss.map aD).set p (aD (ss.getD p 0-ss.getD p 0*x))).set q (aD (ss.getD q 0+ss.getD p 0*x)):=by rw[GK,List.map_set,List.map_set]
 unfold shD
 rw[em]
 generalize aD (ss.getD p 0-ss.getD p 0*x)=d1 at*
 generalize aD (ss.getD q 0+ss.getD p 0*x)=d2 at*
 generalize aD (ss.getD p 0*x)=d3 at*
 generalize aD (ss.getD p 0)=d4 at*
 generalize aD (ss.getD q 0)=d5 at*
 simp[Dm,HC,Af.d,a1,a2,l1,l2,l3,i1,i2]
end
theorem LX{α:Type}{gs:Gd}{t:Tf}{f:Ev}{C:En}{m:Nat}{e g:α->D}(hg:∀S,gOk gs S):∀{xs:List α} {acc:List D} {os:En} {S:Sto},os.length=m->acc.length+xs.length≤sizeLine->
    (∀x∈xs,∀os S,os.length=m->∃us S',us.length=m/\t (e x) (C++os) S=some (C++us)/\f (C++us) S=some (g x,S')/\Bz [] S S')->
    ∃S',Bx gs t BU f (xs.map e) acc (C++os) S=some (acc++xs.map g,S')/\Bz [] S S'
  | [],acc,os,S,ho,hz,h=>⟨S,by rw[List.map_nil,D4 (hg S)];simp,.refl⟩
  | x :: xs, acc, os, S, ho, hz, h => by
    obtain⟨us,S1,hu,e1,e2,s1⟩:=h x List.mem_cons_self os S ho
    obtain⟨S2,e3,s2⟩:=LX hg (xs:=xs) (acc:=acc++[g x]) (os:=us) (S:=S1) hu (by simp at hz ⊢; omega) fun x' hx=>h x' (List.mem_cons_of_mem _ hx)
    refine⟨S2,?_,s1.trans s2⟩
    rw[List.map_cons,GW (hg S) (by simp at hz;omega) e1 HF,e2,Bp,e3]
    simp
section
variable{S:Sto}{st:Stt}{t:Tr}{k:Nat}
noncomputable def shB(t:Tr)(st:Stt):Af->List Rat->List Rat
 | .thr i n ws,ss=>Gu (IK t st.loads i n ws) (AS st.loads i).ow ss
 | .sell p q x,ss=>GK p q x ss
 |_,ss=>ss
theorem OX{d:Af}{ss:List Rat}(ht:JK t)(h:Fz t k st)(hk:k≤17)(hc:Can t st d)(hs:∀r∈ss,Sz (30+170*k) r)(hl:ss.length=t.p):∃S',Ai [t.d,Bb st.loads,Jr st.loads,d.d,shD ss] S=some (shD (shB t st d ss),S')/\Bz [] S S':=by
  have tp:=ht.2.1
  cases d with
  | thr i n ws =>
    have e:=TZ (S:=S) ht h hk hc hs (by omega)
    refine⟨S,?_,.refl⟩
    simp only[Af.d]at e⊢
    simp[Ai,BG,e,shB]
  | sell p q x =>
    obtain⟨hpq,hp,hq,x1,x2,x3⟩:=hc
    have hx:Sz 4 x:=by
      refine⟨?_,by omega⟩
      show x.num.natAbs<16
      omega
    obtain⟨S',e,sm⟩:=Rw (S:=S) (p:=p) (q:=q) hs hx (by omega) (by omega) (by omega) hpq
    refine⟨S',?_,sm⟩
    simp only[Af.d]at e⊢
    simp[Ai,BG,e,shB]
  |bring p kd n=>exact⟨S,by simp[Ai,BG,Af.d,shB],.refl⟩
  |pool i j=>exact⟨S,by simp[Ai,BG,Af.d,shB],.refl⟩
  |swap i g kd n=>exact⟨S,by simp[Ai,BG,Af.d,shB],.refl⟩
  |trade u i g kd n=>exact⟨S,by simp[Ai,BG,Af.d,shB],.refl⟩
  |spoil i n=>exact⟨S,by simp[Ai,BG,Af.d,shB],.refl⟩
theorem RM{d:Af}:(step t st d).hold=shB t st d st.hold:=by cases d<;>rfl
theorem JO{i:Nat}{n:Int}{ls:List Ld}(hi:i<ls.length){β:Type}(f:List Rat->β):(less ls i n).map (fun x=>f x.ow)=ls.map fun x=>f x.ow:=by
 rw[PU,List.map_set]
 have:(ls.map fun x=>f x.ow)[i]?=some (f (AS ls i).ow):=by rw[List.getElem?_map,EO hi];rfl
 apply List.ext_getElem?
 intro j
 by_cases e:i=j
 ·subst e;rw[List.getElem?_set_self (by simpa using hi),this]
 ·rw[List.getElem?_set_ne e]
@[simp] theorem fQ{ls:List Ld}:sqD S (Jr ls)=some (ls.map fun x=>shD x.ow,[]):=nr rfl
theorem RK{d:Af}(ht:JK t)(h:Fz t k st)(hk:k≤17)(hc:Can t st d):∃S',Ar [t.d,Bb st.loads,Jr st.loads,d.d] S=some (Jr (step t st d).loads,S')/\Bz [] S S':=by
  have hlen:=h.len
  have sz:=h.sz
  have tp:=ht.2.1
  obtain⟨S',e,sm⟩:=LX (gs:=[]) (t:=tNm 4) (f:=AK Ai [(eV 0),(eV 1),(eV 2),(eV 3),(eV 4)]) (C:=[some t.d,some (Bb st.loads),some (Jr st.loads),some d.d]) (m:=1) (e:=fun x:Ld=>shD x.ow) (g:=fun x=>shD (shB t st d x.ow)) (fun _=>Ad) (xs:=st.loads) (acc:=[]) (os:=[none]) (S:=S) rfl (Nat.le_trans (show _≤50 by simp;omega) (AV (by decide))) (by
    intro x hx os S0 ho
    obtain⟨q1,rfl⟩:∃q1,os=[q1]:=by
      match os,ho with
      | [a],_=>exact⟨a,rfl⟩
    obtain⟨S1,e1,s1⟩:=OX (S:=S0) (d:=d) (ss:=x.ow) ht h hk hc (sz.1 x hx) (h.own x hx)
    refine⟨[some (shD x.ow)],S1,rfl,by simp,?_,s1⟩
    simp[e1])
  simp only[List.cons_append,List.nil_append]at e
  refine⟨S',?_,sm⟩
  have hz:(st.loads.map fun x=>shD (shB t st d x.ow)).length+1≤sizeLine:=Nat.le_trans (show _≤100 by simp;omega) (AV (by decide))
  cases d with
  | bring p kd n =>
    have a1:=Nm (S:=S') (P:=t.p) (p:=p) (by omega)
    have ef:Jr (step t st (.bring p kd n)).loads=.lst ((st.loads.map fun x=>shD (shB t st (.bring p kd n) x.ow))++[shD (Ry t.p p)]):=by simp[Jr,step,shB]
    rw[ef]
    generalize (st.loads.map fun x=>shD (shB t st (.bring p kd n) x.ow))=A at*
    simp only[Af.d,Tr.d]at e⊢
    simp[Ar,BH,e,a1,hz]
  | pool i j =>
    have a1:=Sk (S:=S') ht h hk hc
    obtain⟨hij,hi,hj,h1,h2,h3⟩:=hc
    have e0:AS (less st.loads i (AS st.loads i).n) j=AS st.loads j:=by
      unfold AS less
      rw[List.getD_eq_getElem?_getD,List.getElem?_set_ne hij,←List.getD_eq_getElem?_getD]
    have ef:Jr (step t st (.pool i j)).loads=.lst ((st.loads.map fun x=>shD (shB t st (.pool i j) x.ow))++[shD (Ca (AS st.loads i).n (AS st.loads j).n (AS st.loads i).ow (AS st.loads j).ow)]):=by
      show D.lst ((less (less st.loads i (AS st.loads i).n) j (AS st.loads j).n++[_]).map fun x:Ld=>shD x.ow)=_
      rw[List.map_append,JO (by rw[Dr];exact hj),JO hi]
      rfl
    rw[ef]
    generalize (st.loads.map fun x=>shD (shB t st (.pool i j) x.ow))=A at*
    simp only[Af.d]at e a1⊢
    simp[Ar,BH,e,a1,hz]
  | swap i g kd n =>
    have hi:=hc.1
    have a1:=Rp (S:=S') (st:=st) (i:=i) (kd:=kd) (g:=g) (n:=n) hi
    have ef:Jr (step t st (.swap i g kd n)).loads=.lst ((st.loads.map fun x=>shD (shB t st (.swap i g kd n) x.ow))++[shD (AS st.loads i).ow]):=by
      show D.lst ((less st.loads i g++[_]).map fun x:Ld=>shD x.ow)=_
      rw[List.map_append,JO hi]
      rfl
    rw[ef]
    generalize (st.loads.map fun x=>shD (shB t st (.swap i g kd n) x.ow))=A at*
    simp only[Af.d]at e a1⊢
    simp[Ar,BH,e,a1,hz]
  | trade u i g kd n =>
    have hi:=hc.1
    have a1:=QT (S:=S') (st:=st) (i:=i) (kd:=kd) (u:=u) (g:=g) (n:=n) hi
    have ef:Jr (step t st (.trade u i g kd n)).loads=.lst ((st.loads.map fun x=>shD (shB t st (.trade u i g kd n) x.ow))++[shD (AS st.loads i).ow]):=by
      show D.lst ((less st.loads i g++[_]).map fun x:Ld=>shD x.ow)=_
      rw[List.map_append,JO hi]
      rfl
    rw[ef]
    generalize (st.loads.map fun x=>shD (shB t st (.trade u i g kd n) x.ow))=A at*
    simp only[Af.d]at e a1⊢
    simp[Ar,BH,e,a1,hz]
  | spoil i n =>
    have ef:Jr (step t st (.spoil i n)).loads=.lst (st.loads.map fun x=>shD (shB t st (.spoil i n) x.ow)):=by
      show D.lst ((less st.loads i n).map fun x:Ld=>shD x.ow)=_
      rw[JO hc.1]
      rfl
    rw[ef]
    generalize (st.loads.map fun x=>shD (shB t st (.spoil i n) x.ow))=A at*
    simp only[Af.d]at e⊢
    simp[Ar,BH,e]
  | thr i n ws =>
    have ef:Jr (step t st (.thr i n ws)).loads=.lst (st.loads.map fun x=>shD (shB t st (.thr i n ws) x.ow)):=by
      show D.lst (((less st.loads i n).map _).map fun x:Ld=>shD x.ow)=_
      rw[List.map_map]
      exact congrArg D.lst (JO hc.1 (fun o=>shD (Gu (IK t st.loads i n ws) (AS st.loads i).ow o)))
    rw[ef]
    generalize (st.loads.map fun x=>shD (shB t st (.thr i n ws) x.ow))=A at*
    simp only[Af.d]at e⊢
    simp[Ar,BH,e]
  | sell p q x =>
    have ef:Jr (step t st (.sell p q x)).loads=.lst (st.loads.map fun y=>shD (shB t st (.sell p q x) y.ow)):=by
      show D.lst ((st.loads.map _).map fun y:Ld=>shD y.ow)=_
      rw[List.map_map]
      rfl
    rw[ef]
    generalize (st.loads.map fun y=>shD (shB t st (.sell p q x) y.ow))=A at*
    simp only[Af.d]at e⊢
    simp[Ar,BH,e]
@[simp] theorem da{ls:List Ld}:sqD S (Bb ls)=some (ls.map hD,[]):=nr rfl
theorem JR{ls:List Ld}{x y:D}(hl:ls.length≤50):Bs [.tup [x,.tup (ls.map Ld.d),y]] S=some (Bb ls,S):=by
 have e:=CZ (gs:=[]) (t:=tNm 0) (f:=CI [(eOp (o2 wIx) [(eV 0),(eC (.int 0))]),(eOp (o2 wIx) [(eV 0),(eC (.int 1))])]) (C:=[]) (m:=1) (e:=Ld.d) (g:=hD) (S:=S) Ad (xs:=ls) (acc:=[]) (os:=[none]) rfl (Nat.le_trans (show _≤50 by simp;omega) (AV (by decide))) (by
  intro x hx os ho
  obtain⟨q1,rfl⟩:∃q1,os=[q1]:=by
   match os,ho with
   | [a],_=>exact⟨a,rfl⟩
  refine⟨[some x.d],rfl,by simp,?_⟩
  simp[Ld.d,hD])
 simp only[List.nil_append]at e
 simp[Bs,GD,e,Bb]
theorem Sy{ls:List Ld}(hl:ls.length≤50):Bx [] (tNm 0) BU (eOp (o2 wIx) [(eV 0),(eC (.int 2))]) (ls.map Ld.d) [] [none] S=some (ls.map fun x=>shD x.ow,S):=
 CZ (gs:=[]) (t:=tNm 0) (f:=eOp (o2 wIx) [(eV 0),(eC (.int 2))]) (C:=[]) (m:=1) (e:=Ld.d) (g:=fun x=>shD x.ow) (S:=S) Ad (xs:=ls) (acc:=[]) (os:=[none]) rfl (Nat.le_trans (show _≤50 by simp;omega) (AV (by decide))) (by
  intro x hx os ho
  obtain⟨q1,rfl⟩:∃q1,os=[q1]:=by
   match os,ho with
   | [a],_=>exact⟨a,rfl⟩
  refine⟨[some x.d],rfl,by simp,?_⟩
  simp[Ld.d])
theorem UY{ls:List Ld}{ds:List Af}{n:Nat}(h:Co t ls ds)(hn:n≤ds.length):∃S',Fx [Aw t ls ds,.int n] S=some (.tup [Bb (runs t (st0 t ls) (ds.take n)).loads,Jr (runs t (st0 t ls) (ds.take n)).loads,shD (runs t (st0 t ls) (ds.take n)).hold],S')/\Bz [] S S':=by
 have hl0:ls.length≤4:=h.inv.len
 have ct:MB (ds.map Af.d) none (some (n:Int))=(ds.take n).map Af.d:=by rw[Kf (by simpa using hn),List.map_take]
 obtain⟨E',S',ef,i,o,f1,f2,rfl,f3⟩:=EL (gs:=[]) (t:=tNm 8) (b:=Ae (BW 7 (AK Ai [(eV 2),(eV 5),(eV 6),(eV 8),(eV 7)]))
  (Ae (BW 6 (AK Ar [(eV 2),(eV 5),(eV 6),(eV 8)]))
  (BW 5 (AK Aj [(eV 5),(eV 8)]))))
  (I:=fun rs E S'=>∃(i:Nat) (o:Option D),rs=((ds.take n).drop i).map Af.d/\i≤n/\E=[some (Aw t ls ds),some (.int n),some t.d,some (.tup (ls.map Ld.d)),some (.tup (ds.map Af.d)),some (Bb (runs t (st0 t ls) (ds.take i)).loads),some (Jr (runs t (st0 t ls) (ds.take i)).loads),some (shD (runs t (st0 t ls) (ds.take i)).hold),o]/\Bz [] S S')
  (fun _ _ _ _=>Ad) (ds:=(ds.take n).map Af.d) (E:=[some (Aw t ls ds),some (.int n),some t.d,some (.tup (ls.map Ld.d)),some (.tup (ds.map Af.d)),some (Bb ls),some (Jr ls),some (shD t.ho),none]) (S:=S)
  ⟨0,none,by simp,Nat.zero_le _,by simp[runs,st0],.refl⟩ (by
   rintro dd rs E T ⟨i,o,i1,i2,rfl,i3⟩
   have hlt:i<(ds.take n).length:=by
    rcases Nat.lt_or_ge i (ds.take n).length with w|w
    ·exact w
    ·rw[List.drop_eq_nil_of_le w]at i1;cases i1
   rw[List.drop_eq_getElem_cons hlt,List.map_cons]at i1
   injection i1 with z1 z2
   subst z1 z2
   have hlt':i<ds.length:=by simp at hlt;omega
   have hin:i<n:=by simp at hlt;omega
   have hg:(ds.take n)[i]=ds[i]:=List.getElem_take
   rw[hg]
   have inv:=h.at i
   have il:(ds.take i).length≤16:=by have:=h.len;simp;omega
   have can:=IZ h.good (List.getElem?_eq_getElem hlt')
   obtain⟨T1,e1,s1⟩:=OX (S:=T) h.tr inv (by omega) can inv.sz.2 inv.hold
   obtain⟨T2,e2,s2⟩:=RK (S:=T1) h.tr inv (by omega) can
   have e3:=LS (S:=T2) inv (by omega) can
   have rt:=Iq (t:=t) (st:=st0 t ls) (List.getElem?_eq_getElem hlt')
   refine⟨_,[some (Aw t ls ds),some (.int n),some t.d,some (.tup (ls.map Ld.d)),some (.tup (ds.map Af.d)),some (Bb (runs t (st0 t ls) (ds.take (i+1))).loads),some (Jr (runs t (st0 t ls) (ds.take (i+1))).loads),some (shD (runs t (st0 t ls) (ds.take (i+1))).hold),some ds[i].d],T2,by simp;rfl,?_,i+1,some ds[i].d,rfl,hin,rfl,(i3.trans s1).trans s2⟩
   rw[rt]
   rw[←RM]at e1
   simp[e1,e2,e3])
 have hz:i=n:=by
  have:=congrArg List.length f1
  simp at this
  omega
 subst hz
 refine⟨S',?_,f3⟩
 have fh:=JR (S:=S) (ls:=ls) (x:=t.d) (y:=.tup (ds.map Af.d)) (by omega)
 have fo:=Sy (S:=S) (ls:=ls) (by omega)
 have fo':D.lst (ls.map fun x=>shD x.ow)=Jr ls:=rfl
 have th:atI [D.int t.p,D.int t.k,D.int t.b,shD t.ho,D.int t.h,D.int t.l] 3=some (shD t.ho):=by simp
 simp only[Aw]at ef⊢
 have td:wIx (.val t.d) (.val (.int 3))=some (.val (shD t.ho)):=by simp[Tr.d]
 have dt:dr S t.d=.val t.d:=rfl
 rw[List.map_take]at ef ct
 simp[Fx,J2,fh,fo,fo',-YL,td,dt,ct,ef]
theorem MF{ls:List Ld}{ds:List Af}(h:Co t ls ds):D8 [Aw t ls ds] S=some (.non,S):=by
 have hl0:ls.length≤4:=h.inv.len
 have hd:=h.len
 obtain⟨E',S',ef,i,o1,o2,f1,f2,rfl,rfl⟩:=EL (gs:=[]) (t:=tTp [(tNm 3),(tNm 4)]) (b:=Ae (xIf (Ul (AK CS [(eV 1),(eOp (NP false true) [(eV 2),(eV 3)]),(eV 4)])) (Bf (eV 3)) Es)
  (BW 1 (AK Aj [(eV 1),(eV 4)])))
  (I:=fun rs E S'=>∃(i:Nat) (o1 o2:Option D),rs=(Md 0 (ds.map Af.d)).drop i/\i≤ds.length/\E=[some (Aw t ls ds),some (Bb (runs t (st0 t ls) (ds.take i)).loads),some (.tup (ds.map Af.d)),o1,o2]/\S'=S)
  (fun _ _ _ _=>Ad) (ds:=Md 0 (ds.map Af.d)) (E:=[some (Aw t ls ds),some (Bb ls),some (.tup (ds.map Af.d)),none,none]) (S:=S)
  ⟨0,none,none,by simp,Nat.zero_le _,by simp[runs,st0],rfl⟩ (by
   rintro dd rs E T ⟨i,o1,o2,i1,i2,rfl,rfl⟩
   have el:(Md 0 (ds.map Af.d)).length=ds.length:=by rw[IU];simp
   have hlt:i<ds.length:=by
    rcases Nat.lt_or_ge i ds.length with w|w
    ·exact w
    ·rw[List.drop_eq_nil_of_le (by omega)]at i1;cases i1
   rw[List.drop_eq_getElem_cons (by omega)]at i1
   injection i1 with z1 z2
   have hd1:dd=.tup [.int i,ds[i].d]:=by
    have:=KW (ds:=ds.map Af.d) (k:=0) (i:=i)
    rw[List.getElem?_eq_getElem (by omega),←z1,List.getElem?_map,List.getElem?_eq_getElem hlt]at this
    simpa using this
   subst z2
   subst hd1
   have inv:=h.at i
   have il:(ds.take i).length≤16:=by simp;omega
   have can:=IZ h.good (List.getElem?_eq_getElem hlt)
   have cd:=RI (S:=T) (ds:=ds.take i) (by omega) Rr can
   have e3:=LS (S:=T) inv (by omega) can
   have rt:=Iq (t:=t) (st:=st0 t ls) (List.getElem?_eq_getElem hlt)
   have ct:=Kf (ds:=ds.map Af.d) (n:=i) (by simp;omega)
   rw[List.map_take]at cd
   refine⟨_,[some (Aw t ls ds),some (Bb (runs t (st0 t ls) (ds.take (i+1))).loads),some (.tup (ds.map Af.d)),some (.int i),some ds[i].d],T,by simp;rfl,?_,i+1,some (.int i),some ds[i].d,rfl,hlt,rfl,rfl⟩
   rw[rt]
   simp[ct,cd,e3])
 have fh:=JR (S:=S') (ls:=ls) (x:=t.d) (y:=.tup (ds.map Af.d)) (by omega)
 simp only[Aw]at ef⊢
 simp[D8,HG,fh,ef]
theorem Oe{ls:List Ld}{ds:List Af}(h:Co t ls ds):CM [Aw t ls ds] S=some (.non,S):=by
 have e:=MF (S:=S) h
 simp[CM,F6,e,isN]
end
theorem di{n:Nat}:∀{ds:List D},(∀d∈ds,d.py.depth≤n)->PyData.depthAll (D.pys ds)≤n
  | [],_=>by simp[D.pys,PyData.depthAll]
  | d :: ds, h => by
    have h1:=h d List.mem_cons_self
    have h2:=di fun e he=>h e (List.mem_cons_of_mem _ he)
    simp only[D.pys,PyData.depthAll]
    omega
theorem Y4{n:Nat}{ds:List D}(h:∀d∈ds,d.py.depth≤n):(D.lst ds).py.depth≤n+1:=by
 have:=di h
 simp only[D.py,PyData.depth]
 omega
theorem Xd{n:Nat}{ds:List D}(h:∀d∈ds,d.py.depth≤n):(D.tup ds).py.depth≤n+1:=by
 have:=di h
 simp only[D.py,PyData.depth]
 omega
theorem Xp{i:Int}{n:Nat}:(D.int i).py.depth≤n+1:=by
 simp only[D.py,PyData.depth]
 omega
theorem SA{d:D}(h:d.lay=true)(g:d.py.depth≤60):Dj d d=true:=by
 unfold Dj
 rw[h]
 simp only[Bool.true_and,decide_eq_true_eq]
 omega
theorem V6{d:D}(h:d.lay=true):deq d d=true:=PySem.SeqAt.eqv_refl _ (HM h)
section
variable{S:Sto}
theorem XY{ns:List Int}{k:Nat}:∃c,C3 [.scr ns,.int k] S=some (.int c,S):=by
 by_cases h:k<ns.length
 ·have h':(k:Int)<ns.length:=by omega
  refine⟨ns[k],?_⟩
  have e:atI (ns.map D.int) (k:Int)=some (.int ns[k]):=C8 (by rw[List.getElem?_map,List.getElem?_eq_getElem h];rfl)
  simp[C3,GU,h,h',e]
 ·have h':¬(k:Int)<ns.length:=by omega
  exact⟨0,by simp[C3,GU,h,h']⟩
end
theorem Ok.mulN{G B N:Nat}{r:Rat}{n:Int}(h:Ok G B r)(h0:0≤n)(h1:n≤N):Ok G (B*N) ((n:Rat)*r):=by
 obtain⟨z,e,hz⟩:=h
 refine⟨z*n.toNat,?_,Nat.mul_le_mul hz (by omega)⟩
 push_cast
 rw[FX h0,←e]
 grind
structure Bd(ls:List Ld)(G B N K:Nat):Prop where
 g0:0<G
 gK:G<2^K
 hK:2*K≤7000
 own:∀l∈ls,∀r∈l.ow,Ok G B r
 pcs:∀l∈ls,0≤l.n/\l.n≤N
 hB:B<2^K
 hN:N<2^K
 hb:200*(B*N)<2^K
 len:ls.length≤30
section
variable{S:Sto}{ls:List Ld}{G B N K:Nat}
theorem PM{n:Nat}:JJ 0 (n:Int).toNat=(List.range n).map fun(i:Nat)=>D.int i:=by simp[JJ]
end
def fJ(ls:List Ld):Prop:=∀l∈ls,l.ow.sum=1
section
variable{t:Tr}{k:Nat}{st:Stt}{d:Af}
end
theorem PB{α:Type}{t:Tf}{b:Ex}{C:En}{m q:Nat}{e h:α->D}:∀{xs:List α} {acc:List D} {os:En} {S:Sto},os.length=m->S[q]?=some (.lst acc)->acc.length+xs.length≤1000->
    (∀x∈xs,∀os S acc,os.length=m->S[q]?=some (.lst acc)->acc.length<sizeLine->∃us us' S',t (e x) (C++os) S=some (C++us)/\b (C++us) S=some (.nx,C++us',S'.set q (.lst (acc++[h x])))/\us'.length=m/\Bz [] S S')->
    ∃os' S',os'.length=m/\JV [] t b (xs.map e) (C++os) S=some (.nx,C++os',S')/\S'[q]?=some (.lst (acc++xs.map h))/\Bz [q] S S'
  | [],acc,os,S,ho,hq,hz,H=>⟨os,S,ho,by rw[List.map_nil,Fy Ad],by simpa using hq,.refl⟩
  | x :: xs, acc, os, S, ho, hq, hz, H => by
    obtain⟨us,us',S1,e1,e2,hu,sm⟩:=H x List.mem_cons_self os S acc ho hq (Nat.lt_of_lt_of_le (show acc.length<1001 by simp at hz;omega) (by decide))
    have q1:=sm.get hq (by simp)
    obtain⟨os',S2,ho',e3,q2,s2⟩:=PB (t:=t) (b:=b) (C:=C) (e:=e) (h:=h) (xs:=xs) (acc:=acc++[h x]) (os:=us') (S:=S1.set q (.lst (acc++[h x]))) hu (List.getElem?_set_self (Aa q1)) (by simp at hz ⊢; omega) fun x' hx=>H x' (List.mem_cons_of_mem _ hx)
    refine⟨os',S2,ho',?_,by simpa using q2,((sm.mono fun _ z=>(nomatch z)).trans (.set (by simp))).trans s2⟩
    rw[List.map_cons,Dh Ad,e1,Bp,e2,Bp,Td,e3]
noncomputable def Mc(t:Tr)(st:Stt)(x:Ld):List Rat:=O0 (10-t.h) t.h x.ow st.hold
noncomputable def Gy(t:Tr)(st:Stt)(x:Ld):List Rat:=(Mc t st x).map fun r=>(x.n:Rat)*r
theorem Ue{w m:Int}{ss os:List Rat}{p:Nat}(h1:p<ss.length)(h2:p<os.length):(O0 w m ss os)[p]?=some ((ss.getD p 0*w+os.getD p 0*m) / (w+m)):=by
 unfold O0
 rw[List.getElem?_zipWith,getD_get (d:=0) h1,getD_get (d:=0) h2]
theorem VT{t:Tr}{st:Stt}{x:Ld}{p:Nat}(h1:p<x.ow.length)(h2:p<st.hold.length):(Gy t st x).getD p 0=(x.n:Rat)*((x.ow.getD p 0*((10-t.h:Int):Rat)+st.hold.getD p 0*(t.h:Rat)) / (((10-t.h:Int):Rat)+(t.h:Rat))):=by
 unfold Gy Mc
 rw[List.getD_eq_getElem?_getD,List.getElem?_map,Ue h1 h2]
 rfl
def HOk(t:Tr):Prop:=0≤t.h/\t.h≤9/\0≤t.l/\t.l≤9
theorem QE{t:Tr}(hh:HOk t){st:Stt}{x:Ld}{G B:Nat}(h1:∀r∈x.ow,Ok G B r)(h2:∀r∈st.hold,Ok G B r):∀r∈Mc t st x,Ok (G*10) (B*10) r:=by
 intro r hr
 unfold Mc O0 at hr
 rw[List.mem_iff_getElem?]at hr
 obtain⟨i,hi'⟩:=hr
 rw[List.getElem?_zipWith_eq_some]at hi'
 obtain⟨s,o,hs,ho,rfl⟩:=hi'
 obtain⟨a1,a2,_,_⟩:=hh
 have:=Ok.mix (a:=(10-t.h).toNat) (b:=t.h.toNat) (t:=10) (h1 s (List.mem_of_getElem? hs)) (h2 o (List.mem_of_getElem? ho)) (by omega) (by decide)
 rw[FX (by omega),FX (by omega)]at this
 have e:(((10-t.h:Int):Rat)+(t.h:Rat))=((10:Nat):Rat):=by push_cast;grind
 rw[e]
 exact this
theorem Y9{t:Tr}(hh:HOk t){st:Stt}{x:Ld}{G B N:Nat}(h1:∀r∈x.ow,Ok G B r)(h2:∀r∈st.hold,Ok G B r)(n0:0≤x.n)(n1:x.n≤N):∀r∈Gy t st x,Ok (G*10) (B*10*N) r:=by
 intro r hr
 obtain⟨y,hy,rfl⟩:=List.mem_map.mp hr
 exact(QE hh h1 h2 y hy).mulN n0 n1
section
variable{S:Sto}{t:Tr}{ls:List Ld}{ds:List Af}
theorem Co.fin(h:Co t ls ds):Fz t 16 (runs t (st0 t ls) ds):=by
 have:=h.at ds.length
 rw[List.take_length]at this
 obtain⟨G,B,g0,gb,b,h1,h2⟩:=this.gb
 have hd:=h.len
 exact⟨by have:=this.len;omega,this.kind,fun x hx=>⟨(this.pcs x hx).1,Int.lt_of_lt_of_le (this.pcs x hx).2 (JF (by omega))⟩,this.own,this.hold,by have:=this.nm;omega,G,B,g0,gb,Nat.lt_of_lt_of_le b (Im (by omega)),h1,h2⟩
theorem Qr{n:Nat}(h:Co t ls ds)(hn:n≤ds.length):GY [Aw t ls ds,.int n] S=some (Bb (runs t (st0 t ls) (ds.take n)).loads,S):=by
 have hl0:ls.length≤4:=h.inv.len
 have ct:MB (ds.map Af.d) none (some (n:Int))=(ds.take n).map Af.d:=by rw[Kf (by simpa using hn),List.map_take]
 obtain⟨E',S',ef,i,o,f1,f2,rfl,rfl⟩:=EL (gs:=[]) (t:=tNm 3) (b:=BW 2 (AK Aj [(eV 2),(eV 3)]))
  (I:=fun rs E S'=>∃(i:Nat) (o:Option D),rs=((ds.take n).drop i).map Af.d/\i≤n/\E=[some (Aw t ls ds),some (.int n),some (Bb (runs t (st0 t ls) (ds.take i)).loads),o]/\S'=S)
  (fun _ _ _ _=>Ad) (ds:=(ds.take n).map Af.d) (E:=[some (Aw t ls ds),some (.int n),some (Bb ls),none]) (S:=S)
  ⟨0,none,by simp,Nat.zero_le _,by simp[runs,st0],rfl⟩ (by
   rintro dd rs E T ⟨i,o,i1,i2,rfl,rfl⟩
   have hlt:i<(ds.take n).length:=by
    rcases Nat.lt_or_ge i (ds.take n).length with w|w
    ·exact w
    ·rw[List.drop_eq_nil_of_le w]at i1;cases i1
   rw[List.drop_eq_getElem_cons hlt,List.map_cons]at i1
   injection i1 with z1 z2
   subst z1 z2
   have hlt':i<ds.length:=by simp at hlt;omega
   have hin:i<n:=by simp at hlt;omega
   have hg:(ds.take n)[i]=ds[i]:=List.getElem_take
   rw[hg]
   have inv:=h.at i
   have il:(ds.take i).length≤16:=by have:=h.len;simp;omega
   have can:=IZ h.good (List.getElem?_eq_getElem hlt')
   have e3:=LS (S:=T) inv (by omega) can
   have rt:=Iq (t:=t) (st:=st0 t ls) (List.getElem?_eq_getElem hlt')
   refine⟨_,[some (Aw t ls ds),some (.int n),some (Bb (runs t (st0 t ls) (ds.take (i+1))).loads),some ds[i].d],T,by simp;rfl,?_,i+1,some ds[i].d,rfl,hin,rfl,rfl⟩
   rw[rt]
   simp[e3])
 have hz:i=n:=by
  have:=congrArg List.length f1
  simp at this
  omega
 subst hz
 have fh:=JR (S:=S') (ls:=ls) (x:=t.d) (y:=.tup (ds.map Af.d)) (by omega)
 rw[List.map_take]at ef ct
 simp only[Aw]at ef⊢
 simp[GY,LH,fh,ct,ef]
theorem K4 (h : Co t ls ds) (hh : HOk t) : ∃ q S', Ec [Aw t ls ds] S = some (.ref q, S') /\ S'[q]? = some (.lst ((runs t (st0 t ls) ds).loads.map fun x => shD (Gy t (runs t (st0 t ls) ds) x))) /\ Bz [] S S' /\ S.length ≤ q := by
  obtain⟨S1,e1,s1⟩:=UY (S:=S) h (n:=ds.length) (Nat.le_refl _)
  rw[List.take_length]at e1
  have inv:=h.fin
  have hlen:=inv.len
  have sz:=inv.sz
  have tp:=h.tr.2.1
  obtain⟨G,B,g0,gb,bb,k1,k2⟩:=inv.gb
  generalize runs t (st0 t ls) ds=st at*
  have hq:(S1++[Cl.lst []])[S1.length]?=some (.lst []):=List.getElem?_concat_length
  have ez:Mw (st.loads.map hD) (st.loads.map fun x=>shD x.ow)=st.loads.map fun x=>.tup [hD x,shD x.ow]:=by
    unfold Mw
    rw[List.zip_map',List.map_map]
    rfl
  have hh':=hh
  obtain⟨a1,a2,_,_⟩:=hh
  obtain ⟨os', S2, ho', e2, q2, s2⟩ := PB (t := tTp [(tTp [(tNm 7), (tNm 8)]), (tNm 6)]) (b := Ae (BW 9 (AK Bi [(eV 6), (eOp (o2 Ly) [(eC (.int 10)), (eV 1)]), (eV 4), (eV 1)]))
    (B9 (Hz II (eV 5) [(eOp (o1 By) [(B4 [8] 1 (FE (eV 9)) (tNm 1) BU (AK Ee [(CI [(eV 0),(eC (.int 1))]),(eV 1)]))])]))) (C:=[some (Aw t ls ds),some (.int t.h),some (Bb st.loads),some (Jr st.loads),some (shD st.hold),some (.ref S1.length)]) (m:=4) (q:=S1.length) (e:=fun x:Ld=>D.tup [hD x,shD x.ow]) (h:=fun x=>shD (Gy t st x)) (xs:=st.loads) (acc:=[]) (os:=[none,none,none,none]) (S:=S1++[Cl.lst []]) rfl hq (by simp;omega) (by
      intro x hx os S0 acc ho hq0 hz
      obtain⟨o1,o2,o3,o4,rfl⟩:∃o1 o2 o3 o4,os=[o1,o2,o3,o4]:=by
        match os,ho with
        | [a,b,c,d],_=>exact⟨a,b,c,d,rfl⟩
      have px:=inv.pcs x hx
      have hw:(10-t.h).natAbs<2^4:=by show _<16;omega
      have hm:t.h.natAbs<2^4:=by show _<16;omega
      have ms:=D0 (S:=S0) (w:=10-t.h) (m:=t.h) (j:=30+170*16) (n:=4) (sz.1 x hx) sz.2 hw hm (by omega) (by decide) (by rw[inv.own x hx];omega)
      have zp:∀r∈O0 (10-t.h) t.h x.ow st.hold,Sz (30+170*16+4) r:=fun r hr=>(QE hh' (k1 x hx) k2 r hr).sz (Nat.mul_pos g0 (by decide)) (by
          have:=CK (Nat.lt_of_le_of_lt gb bb) (show 10<2^4 by decide)
          exact this) (CK bb (show 10<2^4 by decide))
      have cz:=CZ (gs:=[]) (t:=tNm 1) (f:=AK Ee [(CI [(eV 0),(eC (.int 1))]),(eV 1)]) (C:=[some (.int x.n)]) (m:=1) (e:=aD) (g:=fun r=>aD ((x.n:Rat)*r)) (S:=S0) Ad (xs:=O0 (10-t.h) t.h x.ow st.hold) (acc:=[]) (os:=[none]) rfl (Nat.le_trans (show _≤50 by rw[List.length_nil,Nat.zero_add,O0,FI (inv.own x hx) inv.hold];omega) (AV (by decide))) (by
        intro r hr os ho
        obtain⟨o,rfl⟩:∃o,os=[o]:=by
          match os,ho with
          | [a],_=>exact⟨a,rfl⟩
        have l:=WU (S:=S0) (P0 (Ek px.1 px.2) (by decide)) (zp r hr) (by decide)
        rw[Q6]at l
        refine⟨[some (aD r)],rfl,by simp,?_⟩
        simp[l])
      have ed:(O0 (10-t.h) t.h x.ow st.hold).map (fun r=>aD ((x.n:Rat)*r))=(Gy t st x).map aD:=by
        unfold Gy Mc
        rw[List.map_map];rfl
      rw[ed]at cz
      simp only[List.cons_append,List.nil_append]at cz
      refine⟨[some (shD x.ow),some (.int x.k),some (.int x.n),o4],[some (shD x.ow),some (.int x.k),some (.int x.n),some (shD (O0 (10-t.h) t.h x.ow st.hold))],S0,by simp,?_,rfl,.refl⟩
      simp[ms,AQ hq0,cz,Kr,hz])
  refine⟨S1.length,S2,?_,by simpa using q2,?_,s1.len⟩
  · rw [← ez] at e2
    simp only[List.cons_append,List.nil_append]at e2
    simp only[Aw]at e1 e2⊢
    have tdd:wIx (.val t.d) (.val (.int 4))=some (.val (.int t.h)):=by simp[Tr.d]
    have dt:∀T:Sto,dr T t.d=.val t.d:=fun _=>rfl
    have c4:atI [D.int (t.p:Int),D.int (t.k:Int),D.int (t.b:Int),shD t.ho,D.int t.h,D.int t.l] 4=some (.int t.h):=by simp
    have ast:asS (.val t.d)=some [D.int (t.p:Int),D.int (t.k:Int),D.int (t.b:Int),shD t.ho,D.int t.h,D.int t.l]:=rfl
    simp[Ec,J1,dt,ast,e1,e2]
  · refine ⟨Nat.le_trans s1.len (Nat.le_trans (by simp) s2.len), fun n hn _ => ?_⟩
    have l1:=s1.len
    rw[s2.keep n (by simp;omega) (by simp;omega),List.getElem?_append_left (by omega)]
    exact s1.keep n hn (by simp)
end
section
variable{S:Sto}{t:Tr}{ls:List Ld}{ds:List Af}
theorem YF{α:Type}{xs:List α}{x:α}{k:Nat}(hl:xs.length=k+1)(h:xs[k]?=some x):atI xs (-1:Int)=some x:=by
 have ix:ixN xs.length (-1)=some k:=by
  rw[hl]
  unfold ixN
  simp
  omega
 unfold atI
 rw[ix]
 exact h
theorem MV(h:Co t ls ds):∃q S' L,Cv [Aw t ls ds] S=some (.ref q,S')/\S'[q]?=some (.lst L)/\atI L (-1)=some (stD (runs t (st0 t ls) ds))/\Bz [] S S':=by
 obtain⟨q,S',e,hq,sm⟩:=QV (S:=S) h
 refine⟨q,S',_,e,hq,YF (k:=ds.length) (by simp) ?_,sm⟩
 rw[List.getElem?_map,List.getElem?_range (by omega)]
 simp
theorem fH{n:Int}(h0:0≤n)(h1:n≤10):Sz 4 ((n:Rat) / ((10:Int):Rat)):=K9 (by decide) (show n.natAbs<16 by omega) (by decide)
theorem O7{p:Nat}(h:Co t ls ds)(hh:HOk t)(hp:p<t.p):∃q S',Hc [Aw t ls ds,.int p] S=some (.ref q,S')/\S'[q]?=some (.lst ((runs t (st0 t ls) ds).loads.map fun x=>aD ((Gy t (runs t (st0 t ls) ds) x).getD p 0)))/\Bz [] S S':=by
 obtain⟨qs,S1,L,e1,hqs,hL,sm1⟩:=MV (S:=S) h
 have inv:=h.fin
 have hlen:=inv.len
 have sz:=inv.sz
 generalize runs t (st0 t ls) ds=st at*
 obtain⟨a1,a2,_,_⟩:=hh
 have hq:(S1++[Cl.lst []])[S1.length]?=some (.lst []):=List.getElem?_concat_length
 have hph:p<st.hold.length:=by rw[inv.hold];exact hp
 have zh:=sz.2 _ (getD_mem (d:=0) hph)
 have ath:=Mz hph
 have m1:∀T,BC [.int (10-t.h),.int 10] T=some (aD (((10-t.h:Int):Rat) / ((10:Int):Rat)),T):=fun T=>Qe (by decide) (Cr (by decide) (by decide))
 have m2:∀T,BC [.int t.h,.int 10] T=some (aD ((t.h:Rat) / ((10:Int):Rat)),T):=fun T=>Qe (by decide) (Cr (by decide) (by decide))
 have z1:=fH (n:=10-t.h) (by omega) (by omega)
 have z2:=fH (n:=t.h) (by omega) (by omega)
 obtain⟨os',S2,ho',e2,q2,s2⟩:=PB (t:=tTp [(tNm 6),(tNm 7),(tNm 8)]) (b:=Ae (BW 9 (AK Ak [(eOp (o2 wIx) [(eV 8),(eV 1)]),(AK BC [(eOp (o2 Ly) [(eC (.int 10)),(eV 4)]),(eC (.int 10))])]))
  (Ae (BW 10 (AK Ak [(eOp (o2 wIx) [(eV 3),(eV 1)]),(AK BC [(eV 4),(eC (.int 10))])]))
  (B9 (Hz II (eV 5) [(AK Ak [(CI [(eV 7),(eC (.int 1))]),(AK Br [(eV 9),(eV 10)])])])))) (C:=[some (Aw t ls ds),some (.int p),some (.lst (st.loads.map Ld.d)),some (shD st.hold),some (.int t.h),some (.ref S1.length)]) (m:=5) (q:=S1.length) (e:=Ld.d) (h:=fun x=>aD ((Gy t st x).getD p 0)) (xs:=st.loads) (acc:=[]) (os:=[none,none,none,none,none]) (S:=S1++[Cl.lst []]) rfl hq (by simp;omega) (by
   intro x hx os S0 acc ho hq0 hz
   obtain⟨o1,o2,o3,o4,o5,rfl⟩:∃o1 o2 o3 o4 o5,os=[o1,o2,o3,o4,o5]:=by
    match os,ho with
    | [a,b,c,d,e],_=>exact⟨a,b,c,d,e,rfl⟩
   have px:=inv.pcs x hx
   have hpx:p<x.ow.length:=by rw[inv.own x hx];exact hp
   have zx:=sz.1 x hx _ (getD_mem (d:=0) hpx)
   have atx:=Mz hpx
   have l1:=Ga (S:=S0) zx z1 (by decide)
   have l2:=Ga (S:=S0) zh z2 (by decide)
   have s1:=Jl zx z1
   have s2:=Jl zh z2
   have l3:=N8 (S:=S0) s1 s2 (by decide)
   have l4:=Ga (S:=S0) (P0 (Ek px.1 px.2) (by decide)) (WG s1 s2) (by decide)
   rw[Q6]at l4
   have ev:(x.n:Rat)*(x.ow.getD p 0*(((10-t.h:Int):Rat) / ((10:Int):Rat))+st.hold.getD p 0*((t.h:Rat) / ((10:Int):Rat)))=(Gy t st x).getD p 0:=by
    rw[VT hpx hph]
    have:(((10-t.h:Int):Rat)+(t.h:Rat))=((10:Int):Rat):=by push_cast;grind
    rw[this]
    have:((10:Int):Rat)≠0:=by decide
    grind
   rw[ev]at l4
   generalize aD ((Gy t st x).getD p 0)=R at*
   generalize aD (x.ow.getD p 0*(((10-t.h:Int):Rat) / ((10:Int):Rat))+st.hold.getD p 0*((t.h:Rat) / ((10:Int):Rat)))=R1 at*
   generalize aD (x.ow.getD p 0*(((10-t.h:Int):Rat) / ((10:Int):Rat)))=R2 at*
   generalize aD (st.hold.getD p 0*((t.h:Rat) / ((10:Int):Rat)))=R3 at*
   generalize aD (((10-t.h:Int):Rat) / ((10:Int):Rat))=R4 at*
   generalize aD ((t.h:Rat) / ((10:Int):Rat))=R5 at*
   generalize aD (x.ow.getD p 0)=R6 at*
   generalize aD (st.hold.getD p 0)=R7 at*
   refine⟨[some (.int x.k),some (.int x.n),some (shD x.ow),o4,o5],[some (.int x.k),some (.int x.n),some (shD x.ow),some R2,some R3],S0,by simp[Ld.d],?_,rfl,.refl⟩
   simp[atx,ath,m1,m2,l1,l2,l3,l4,AQ hq0,hz])
 have sm2:Bz [] S S2:=Bz.new (A:=[]) (B:=[S1.length]) (sm1.trans .app) s2 (by intro n hn;simp at hn;have:=sm1.len;omega)
 refine⟨S1.length,S2,?_,by simpa using q2,sm2⟩
 simp only[List.cons_append,List.nil_append]at e2
 simp only[Aw,stD]at e1 e2 hL⊢
 have dt:∀T:Sto,dr T t.d=.val t.d:=fun _=>rfl
 have ast:asS (.val t.d)=some [D.int (t.p:Int),D.int (t.k:Int),D.int (t.b:Int),shD t.ho,D.int t.h,D.int t.l]:=rfl
 simp[Hc,Mp,e1,A1 hqs,hL,dt,ast,e2]
end
section
variable{S:Sto}{p:Nat}
theorem OA(h:Dk p S):∃t S',FJ [.ref p] S=some (Tr.d t,S')/\Pn p S S'/\JK t/\(t.ho.length=t.p/\t.ho.sum=1)/\HOk t/\∃G:Nat,0<G/\G≤32/\∀r∈t.ho,Ok G G r:=by
 obtain⟨r1,S1,e1,a1,b1,p1⟩:=Ax h (n:=4) (by decide) (by decide)
 obtain⟨r2,S2,e2,a2,b2,p2⟩:=Ax p1.pen (n:=5) (by decide) (by decide)
 obtain⟨r3,S3,e3,a3,b3,p3⟩:=Ax p2.pen (n:=3) (by decide) (by decide)
 obtain⟨r4,S4,e4,a4,b4,p4⟩:=Ax p3.pen (n:=20) (by decide) (by decide)
 obtain⟨r5,S5,e5,a5,b5,p5⟩:=Ax p4.pen (n:=2) (by decide) (by decide)
 obtain⟨m1,rfl⟩:=Fm a1
 obtain⟨m2,rfl⟩:=Fm a2
 obtain⟨b,eb,hb1,hb2⟩:∃b:Nat,atI [D.int (1+r3),.int (1+r4)] r5=some (.int b)/\1≤b/\b≤20:=by
  obtain⟨x,ex,hx⟩:=pick (xs:=[D.int (1+r3),.int (1+r4)]) (r:=r5) a5 (by simpa using b5)
  obtain⟨m3,rfl⟩:=Fm a3
  obtain⟨m4,rfl⟩:=Fm a4
  simp only[List.mem_cons,List.not_mem_nil,or_false]at hx
  rcases hx with rfl|rfl
  ·exact⟨1+m3,by rw[ex];simp,by omega,by omega⟩
  ·exact⟨1+m4,by rw[ex];simp,by omega,by omega⟩
 obtain⟨rs,S6,e6,p6,l6,G,g0,g1,g2⟩:=NK p5.pen (n:=1+m1) (by omega) (by omega)
 obtain⟨r7,S7,e7,a7,b7,p7⟩:=Ax p6.pen (n:=10) (by decide) (by decide)
 obtain⟨r8,S8,e8,a8,b8,p8⟩:=Ax p7.pen (n:=10) (by decide) (by decide)
 rw[show((1+m1:Nat):Int)=1+(m1:Int) by omega]at e6
 refine⟨⟨1+m1,1+m2,b,rs,r7,r8⟩,S8,?_,((((((p1.trans p2).trans p3).trans p4).trans p5).trans p6).trans p7).trans p8,⟨by simp,by simp;omega,by simp,by simp;omega,hb1,hb2⟩,l6,⟨a7,by show r7≤9;omega,a8,by show r8≤9;omega⟩,G,g0,g1,g2⟩
 simp[FJ,Kq,e1,e2,e3,e4,e5,eb,e6,e7,e8,Tr.d]
theorem VQ {M : Nat} (hM : M ≤ 16) (h : Dk p S) : ∃ t ls ds S', E8 [.ref p, .int M] S = some (Aw t ls ds, S') /\ Co t ls ds /\ HOk t /\ (fJ ls /\ t.ho.sum = 1) /\ Dk p S' := by
  obtain⟨t,S1,e1,p1,ht,hh,hho,g,g0,g1,g2⟩:=OA h
  obtain⟨ls,S2,e2,p2,hf,hl⟩:=UZ p1.pen ht
  have hi:=OB hf hl hh.1 g0 g1 g2
  obtain⟨s,l,m,as,S3,e3,hS,sm,hn⟩:=NH (S:=S2) (t:=t) (ls:=ls) (x:=.tup []) (by omega)
  have lp:=p2.pen.lt
  have pen3:Dk p S3:=by
    obtain⟨ds,e,hp⟩:=p2.pen
    exact⟨ds,sm.get e (by simp),hp⟩
  have hq:(S3++[Cl.lst []])[S3.length]?=some (.lst []):=List.getElem?_concat_length
  obtain⟨rn,S4,e4,a4,b4,p4⟩:=Ax (pen3.app [Cl.lst []]) (n:=(M:Int)+1) (by omega) (by omega)
  have lt3:=hS.lts
  have pn:p∉s::l::m::as:=fun z=>by have:=hn p z;omega
  have qn:S3.length∉s::l::m::as:=fun z=>by have:=lt3 _ z;omega
  have hpq:S3.length≠p:=by have:=pen3.lt;omega
  have hS4:SAt S4 s l m as (st0 t ls):=(hS.same0 (.app)).same p4.same (by simpa using pn)
  have hq4:S4[S3.length]?=some (.lst []):=p4.get hq hpq
  obtain⟨rn,rfl⟩:=Fm a4
  have rk:Hj (rn:Int)=true:=DF (by omega) (by omega)
  generalize hQ:S3.length=q at*
  obtain ⟨E', S', ef, ds, as', o6, o7, rfl, f1, f2, f3, f4, f5, f6, f7⟩ := EL (gs := []) (t := tNm 6) (b := Ae (BW 7 (AK Cm [(eV 0), (eV 2), (eV 4)]))
    (xIf (eOr (eOp (o2 wNe) [(eOp (o2 wIx) [(eV 7),(eC (.int 0))]),(eC (.str "throw"))]) (eOp (o2 wLt) [(eOp (o1 Hh) [(B4 [] 1 (FE (eV 5)) (tNm 0) (eOp (o2 wEq) [(eOp (o2 wIx) [(eV 0),(eC (.int 0))]),(eC (.str "throw"))]) (eV 0))]),(eC (.int 3))])) (Ae (B9 (AK BP [(eV 2),(eV 4),(eV 7)]))
    (B9 (Hz II (eV 5) [(eV 7)]))) Es))
    (I:=fun rs E S'=>∃(ds:List Af) (as':List Nat) (o6 o7:Option D),E=[some (.ref p),some (.int M),some t.d,some (.tup (ls.map Ld.d)),some (.ref s),some (.ref q),o6,o7]/\S'[q]?=some (.lst (ds.map Af.d))/\Dk p S'/\SAt S' s l m as' (runs t (st0 t ls) ds)/\L0 t (st0 t ls) ds/\ds.length+rs.length≤16/\p∉s::l::m::as'/\q∉s::l::m::as')
    (fun _ _ _ _=>Ad) (ds:=JJ 0 rn) (E:=[some (.ref p),some (.int M),some t.d,some (.tup (ls.map Ld.d)),some (.ref s),some (.ref q),none,none]) (S:=S4)
    ⟨[], as, none, none, rfl, hq4, p4.pen, hS4, trivial, by rw [Fi]; simp; omega, pn, qn⟩ (by
      rintro dd rs E T ⟨ds,as',o6,o7,rfl,i1,i2,i3,i4,i5,i6,i7⟩
      simp only[List.length_cons]at i5
      have inv:=Kh ht hi i4 (by omega)
      rw[Nat.zero_add]at inv
      obtain⟨d,T1,d1,d2,d3⟩:=TC i2 i3 i6 ht inv (by omega)
      have j3:=i3.same d2.same (by simpa using i6)
      have j1:T1[q]?=some (.lst (ds.map Af.d)):=d2.get i1 hpq
      have tc:=hU j1 (by omega)
      by_cases hb:Hn d=false∨(ds.filter Hn).length<3
      · obtain ⟨T2, as2, k1, k2, k3, k4⟩ := YN j3 ht inv (by omega) d3
        have lt:=j3.lts
        have q2:T2[q]?=some (.lst (ds.map Af.d)):=k3.get j1 i7
        have hz:ds.length<sizeLine:=Nat.lt_of_lt_of_le (show ds.length<50 by omega) (AV (by decide))
        refine⟨_,[some (.ref p),some (.int M),some t.d,some (.tup (ls.map Ld.d)),some (.ref s),some (.ref q),some dd,some d.d],T2.set q (.lst ((ds++[d]).map Af.d)),by simp;rfl,?_,ds++[d],as2,some dd,some d.d,rfl,List.getElem?_set_self (Aa q2),?_,?_,Je i4 d3,by simp;omega,?_,?_⟩
        · have kk := AQ q2
          have w1:∀(c:Ev),eOr (eOp (o2 wNe) [(eOp (o2 wIx) [(eV 7),(eC (.int 0))]),(eC (.str "throw"))]) c [some (.ref p),some (.int M),some t.d,some (.tup (ls.map Ld.d)),some (.ref s),some (.ref q),some dd,some d.d] T1=if Hn d=true then c [some (.ref p),some (.int M),some t.d,some (.tup (ls.map Ld.d)),some (.ref s),some (.ref q),some dd,some d.d] T1 else some (.bl true,T1):=by
            intro c
            cases d<;>simp[Af.d,Hn]
          have sq:=EE j1
          have hz':(ds.map Af.d).length<sizeLine:=by simpa using hz
          have hfin:(ds++[d]).map Af.d=ds.map Af.d++[d.d]:=by simp
          rw[hfin]
          generalize hDD:ds.map Af.d=DD at*
          cases ht':Hn d with
          | false =>
            simp[d1,-Lc,w1,ht',k1,kk,hz']
          | true =>
            have h3:((ds.filter Hn).length:Int)<3:=by
              have:=hb.resolve_left (by rw[ht'];simp)
              omega
            simp[d1,-Lc,w1,ht',sq,tc,h3,k1,kk,hz']
        · obtain ⟨pd, pe, ph⟩ := d2.pen
          exact⟨pd,by rw[List.getElem?_set_ne hpq];exact k3.get pe i6,ph⟩
        · rw [LI]
          exact k2.same (A:=[q]) (.set (by simp)) (by
            intro n hn z
            simp at hn;subst hn
            simp only[List.mem_cons]at z i7
            rcases z with z|z|z|z
            ·exact i7 (.inl z)
            ·exact i7 (.inr (.inl z))
            ·exact i7 (.inr (.inr (.inl z)))
            · rcases k4 _ z with w | w
              ·exact i7 (.inr (.inr (.inr w)))
              ·have:=Aa j1;omega)
        · intro z
          simp only[List.mem_cons]at z i6
          rcases z with z|z|z|z
          ·exact i6 (.inl z)
          ·exact i6 (.inr (.inl z))
          ·exact i6 (.inr (.inr (.inl z)))
          · rcases k4 _ z with w | w
            ·exact i6 (.inr (.inr (.inr w)))
            ·have:=d2.pen.lt;omega
        · intro z
          simp only[List.mem_cons]at z i7
          rcases z with z|z|z|z
          ·exact i7 (.inl z)
          ·exact i7 (.inr (.inl z))
          ·exact i7 (.inr (.inr (.inl z)))
          · rcases k4 _ z with w | w
            ·exact i7 (.inr (.inr (.inr w)))
            ·have:=Aa j1;omega
      · have ht' : Hn d = true := by
          cases z:Hn d with
          |true=>rfl
          |false=>exact absurd (.inl z) hb
        have h3:¬((ds.filter Hn).length:Int)<3:=by
          have:¬(ds.filter Hn).length<3:=fun z=>hb (.inr z)
          omega
        refine⟨_,[some (.ref p),some (.int M),some t.d,some (.tup (ls.map Ld.d)),some (.ref s),some (.ref q),some dd,some d.d],T1,by simp;rfl,?_,ds,as',some dd,some d.d,rfl,j1,d2.pen,j3,i4,by omega,i6,i7⟩
        have w1:∀(c:Ev),eOr (eOp (o2 wNe) [(eOp (o2 wIx) [(eV 7),(eC (.int 0))]),(eC (.str "throw"))]) c [some (.ref p),some (.int M),some t.d,some (.tup (ls.map Ld.d)),some (.ref s),some (.ref q),some dd,some d.d] T1=if Hn d=true then c [some (.ref p),some (.int M),some t.d,some (.tup (ls.map Ld.d)),some (.ref s),some (.ref q),some dd,some d.d] T1 else some (.bl true,T1):=by
            intro c
            cases d<;>simp[Af.d,Hn]
        have sq:=EE j1
        generalize hDD:ds.map Af.d=DD at*
        simp[d1,-Lc,w1,ht',sq,tc,h3])
  refine⟨t,ls,ds,S',?_,⟨ht,hi,f4,by simpa using f5⟩,hho,⟨fun x hx=>(hf.1 x hx).2.2.2.2,hh.2⟩,f2⟩
  have df:=A1 f1
  simp[E8,MP,e1,e2,e3,hQ,e4,rk,ef,df,Aw]
theorem RJ{M:Int}(h:Dk p S){t:Tr}(ht:JK t){q:Nat}(hq:S[q]?=some (.lst []))(hqp:q≠p){n:Nat}(hn:n≤3){o5 o6 o7:Option D}:∃(ls:List Ld) (S':Sto) (o:Option D),JV [] (tNm 4) (B9 (Hz II (eV 3) [(CI [(AK AL [(eV 0),(eOp (o2 wIx) [(eV 2),(eC (.int 1))])]),(eOp (o2 C9) [(eC (.int 1)),(AK AL [(eV 0),(eC (.int 30))])]),(AK B8 [(eV 0),(eOp (o2 wIx) [(eV 2),(eC (.int 0))])])])])) (JJ 0 n) [some (.ref p),some (.int M),some t.d,some (.ref q),none,o5,o6,o7] S=some (.nx,[some (.ref p),some (.int M),some t.d,some (.ref q),o,o5,o6,o7],S')/\S'[q]?=some (.lst (ls.map Ld.d))/\Dk p S'/\El t ls/\ls.length≤4:=by
 obtain⟨t1,t2,t3,t4,t5,t6⟩:=ht
 obtain⟨E',S',ef,ls,o,rfl,f1,f2,f4,f5⟩:=EL (gs:=[]) (t:=tNm 4) (b:=B9 (Hz II (eV 3) [(CI [(AK AL [(eV 0),(eOp (o2 wIx) [(eV 2),(eC (.int 1))])]),(eOp (o2 C9) [(eC (.int 1)),(AK AL [(eV 0),(eC (.int 30))])]),(AK B8 [(eV 0),(eOp (o2 wIx) [(eV 2),(eC (.int 0))])])])]))
  (I:=fun ds E S'=>∃(ls:List Ld) (o:Option D),E=[some (.ref p),some (.int M),some t.d,some (.ref q),o,o5,o6,o7]/\S'[q]?=some (.lst (ls.map Ld.d))/\Dk p S'/\El t ls/\ls.length+ds.length≤4)
  (fun _ _ _ _=>Ad) (ds:=JJ 0 n) (E:=[some (.ref p),some (.int M),some t.d,some (.ref q),none,o5,o6,o7]) (S:=S)
  ⟨[],none,rfl,hq,h,El.nil,by simp[Fi];omega⟩ (by
   rintro d ds E S0 ⟨ls,o,rfl,i1,i2,i4,i5⟩
   obtain⟨x1,T1,g1,c1,d1,k1⟩:=Ax i2 (n:=t.k) (by omega) (by omega)
   obtain⟨x2,T2,g2,c2,d2,k2⟩:=Ax k1.pen (n:=30) (by decide) (by decide)
   obtain⟨rs,T3,g3,k3,l3,G,G0,G1,G2⟩:=NK k2.pen (n:=t.p) t1 t2
   obtain⟨m1,rfl⟩:=Fm c1
   have kk:=(k1.trans k2).trans k3
   have j1:T3[q]?=some (.lst (ls.map Ld.d)):=kk.get i1 hqp
   have hz:ls.length<sizeLine:=Nat.lt_of_lt_of_le (show ls.length<5 by omega) (AV (by decide))
   refine⟨[some (.ref p),some (.int M),some t.d,some (.ref q),some d,o5,o6,o7],[some (.ref p),some (.int M),some t.d,some (.ref q),some d,o5,o6,o7],T3.set q (.lst ((ls++[Ld.mk m1 (1+x2) rs]).map Ld.d)),by simp,?_,ls++[Ld.mk m1 (1+x2) rs],some d,rfl,List.getElem?_set_self (Aa j1),?_,i4.snoc (l:=Ld.mk m1 (1+x2) rs) ⟨show m1<t.k by omega,by show 1≤1+x2;omega,Int.lt_of_le_of_lt (show 1+x2≤30 by omega) (by decide),l3⟩ G0 G1 G2,by simp at i5 ⊢; omega⟩
   ·have e3:atI [D.int t.p,.int t.k,.int t.b,shD t.ho,.int t.h,.int t.l] 1=some (.int t.k):=by simp
    simp[Tr.d,g1,g2,g3,AQ i1,AQ j1,hz,Ld.d]
   ·obtain⟨ds',ed,hd⟩:=kk.pen
    exact⟨ds',by rw[List.getElem?_set_ne hqp];exact ed,hd⟩)
 exact⟨ls,S',o,ef,f1,f2,f4,by simpa using f5⟩
noncomputable def gc:Af->Bool
 | .bring .. =>true
 | .thr .. =>true
 |_=>false
@[simp] theorem bV:wIn true (.val (.str "bring")) (.val (.tup [.str "bring",.str "throw"]))=some (.val (.bl false)):=nr rfl
@[simp] theorem cA:wIn true (.val (.str "throw")) (.val (.tup [.str "bring",.str "throw"]))=some (.val (.bl false)):=nr rfl
@[simp] theorem cU:wIn true (.val (.str "pool")) (.val (.tup [.str "bring",.str "throw"]))=some (.val (.bl true)):=nr rfl
@[simp] theorem eD:wIn true (.val (.str "swap")) (.val (.tup [.str "bring",.str "throw"]))=some (.val (.bl true)):=nr rfl
@[simp] theorem bZ:wIn true (.val (.str "trade")) (.val (.tup [.str "bring",.str "throw"]))=some (.val (.bl true)):=nr rfl
@[simp] theorem af:wIn true (.val (.str "spoil")) (.val (.tup [.str "bring",.str "throw"]))=some (.val (.bl true)):=nr rfl
@[simp] theorem cH:wIn true (.val (.str "sell")) (.val (.tup [.str "bring",.str "throw"]))=some (.val (.bl true)):=nr rfl
theorem ZQ {M : Nat} (hM : M ≤ 16) (h : Dk p S) : ∃ t ls ds S', GA [.ref p, .int M] S = some (Aw t ls ds, S') /\ Co t ls ds /\ HOk t /\ (fJ ls /\ t.ho.sum = 1) /\ Dk p S' := by
  obtain⟨t,S1,e1,p1,ht,hh,hho,g,g0,g1,g2⟩:=OA h
  have pp1:=p1.pen.lt
  obtain⟨nf,S1b,e1b,a1b,b1b,p1b⟩:=Ax (p1.pen.app [Cl.lst []]) (n:=4) (by decide) (by decide)
  obtain⟨nf,rfl⟩:=Fm a1b
  have rkf:Hj (nf:Int)=true:=DF (by omega) (by omega)
  have hqf:S1b[S1.length]?=some (.lst []):=p1b.get List.getElem?_concat_length (by omega)
  obtain⟨ls,S2,of,e2,qf,pen2,hf,hl⟩:=RJ (M:=M) p1b.pen ht hqf (by omega) (n:=nf) (by omega) (o5:=none) (o6:=none) (o7:=none)
  have lS1:S1.length<S2.length:=Aa qf
  generalize hQF:S1.length=qq at*
  have hi:=OB hf hl hh.1 g0 g1 g2
  obtain⟨s,l,m,as,S3,e3,hS,sm,hn⟩:=NH (S:=S2) (t:=t) (ls:=ls) (x:=.tup []) (by omega)
  have lp:=pen2.lt
  have qf3:S3[qq]?=some (.lst (ls.map Ld.d)):=sm.get qf (by simp)
  have lqf:=Aa qf
  have pen3:Dk p S3:=by
    obtain⟨ds,e,hp⟩:=pen2
    exact⟨ds,sm.get e (by simp),hp⟩
  have hq:(S3++[Cl.lst []])[S3.length]?=some (.lst []):=List.getElem?_concat_length
  obtain⟨rn,S4,e4,a4,b4,p4⟩:=Ax (pen3.app [Cl.lst []]) (n:=(M:Int)+1) (by omega) (by omega)
  have qqp:qq≠p:=by omega
  have lt3:=hS.lts
  have pn:p∉s::l::m::as:=fun z=>by have:=hn p z;omega
  have qn:S3.length∉s::l::m::as:=fun z=>by have:=lt3 _ z;omega
  have hpq:S3.length≠p:=by have:=pen3.lt;omega
  have hS4:SAt S4 s l m as (st0 t ls):=(hS.same0 (.app)).same p4.same (by simpa using pn)
  have hq4:S4[S3.length]?=some (.lst []):=p4.get hq hpq
  obtain⟨rn,rfl⟩:=Fm a4
  have rk:Hj (rn:Int)=true:=DF (by omega) (by omega)
  have qf4:S4[qq]?=some (.lst (ls.map Ld.d)):=p4.get (by rw[List.getElem?_append_left (Aa qf3)];exact qf3) qqp
  have qqn:qq∉s::l::m::as:=fun z=>by have:=hn _ z;omega
  have qqq:qq≠S3.length:=by have:=Aa qf3;omega
  generalize hQ:S3.length=q at*
  obtain ⟨E', S', ef, ds, as', o6, o7, rfl, f1, f2, f3, f4, f5, f6, f7, f8, f9⟩ := EL (gs := []) (t := tNm 4) (b := Ae (BW 7 (AK Cm [(eV 0), (eV 2), (eV 5)]))
    (xIf (eOr (eOp (o2 (wIn true)) [(eOp (o2 wIx) [(eV 7),(eC (.int 0))]),(CI [(eC (.str "bring")),(eC (.str "throw"))])]) (Jv (eOp (o2 wEq) [(AK AL [(eV 0),(eC (.int 4))]),(eC (.int 0))]) (eOp (o2 wLt) [(eOp (o1 Hh) [(eV 6)]),(eC (.int 3))]))) (Ae (B9 (AK BP [(eV 2),(eV 5),(eV 7)]))
    (B9 (Hz II (eV 6) [(eV 7)]))) Es))
    (I:=fun rs E S'=>∃(ds:List Af) (as':List Nat) (o6 o7:Option D),E=[some (.ref p),some (.int M),some t.d,some (.ref qq),o6,some (.ref s),some (.ref q),o7]/\S'[q]?=some (.lst (ds.map Af.d))/\Dk p S'/\SAt S' s l m as' (runs t (st0 t ls) ds)/\L0 t (st0 t ls) ds/\ds.length+rs.length≤16/\p∉s::l::m::as'/\q∉s::l::m::as'/\S'[qq]?=some (.lst (ls.map Ld.d))/\qq∉s::l::m::as')
    (fun _ _ _ _=>Ad) (ds:=JJ 0 rn) (E:=[some (.ref p),some (.int M),some t.d,some (.ref qq),of,some (.ref s),some (.ref q),none]) (S:=S4)
    ⟨[], as, of, none, rfl, hq4, p4.pen, hS4, trivial, by rw [Fi]; simp; omega, pn, qn, qf4, qqn⟩ (by
      rintro dd rs E T ⟨ds,as',o6,o7,rfl,i1,i2,i3,i4,i5,i6,i7,i8,i9⟩
      simp only[List.length_cons]at i5
      have inv:=Kh ht hi i4 (by omega)
      rw[Nat.zero_add]at inv
      obtain⟨d,T1,d1,d2,d3⟩:=TC i2 i3 i6 ht inv (by omega)
      have j3:=i3.same d2.same (by simpa using i6)
      have j1:T1[q]?=some (.lst (ds.map Af.d)):=d2.get i1 hpq
      have hcond:∃bo Tc,eOr (eOp (o2 (wIn true)) [(eOp (o2 wIx) [(eV 7),(eC (.int 0))]),(CI [(eC (.str "bring")),(eC (.str "throw"))])]) (Jv (eOp (o2 wEq) [(AK AL [(eV 0),(eC (.int 4))]),(eC (.int 0))]) (eOp (o2 wLt) [(eOp (o1 Hh) [(eV 6)]),(eC (.int 3))])) [some (.ref p),some (.int M),some t.d,some (.ref qq),some dd,some (.ref s),some (.ref q),some d.d] T1=some (.bl bo,Tc)/\Pn p T1 Tc:=by
        by_cases hbt:gc d=true
        · obtain ⟨r, Tc, dr1, _, _, pc⟩ := Ax d2.pen (n := 4) (by decide) (by decide)
          have jc:Tc[q]?=some (.lst (ds.map Af.d)):=pc.get j1 hpq
          have lc:=A1 jc
          by_cases r0:r=0
          · subst r0
            refine⟨decide ((ds.length:Int)<3),Tc,?_,pc⟩
            cases d with
            |bring=>simp[Af.d,dr1,lc]
            |thr=>simp[Af.d,dr1,lc]
            |_=>cases hbt
          · have r0' : (r == 0) = false := by simpa using r0
            refine⟨false,Tc,?_,pc⟩
            cases d with
            |bring=>simp[Af.d,dr1,r0']
            |thr=>simp[Af.d,dr1,r0']
            |_=>cases hbt
        · refine ⟨true, T1, ?_, .refl d2.pen⟩
          cases d with
          |bring=>exact absurd rfl hbt
          |thr=>exact absurd rfl hbt
          |_=>simp[Af.d]
      obtain⟨bo,Tc,hc,pc⟩:=hcond
      have jc3:=j3.same pc.same (by simpa using i6)
      have jc1:Tc[q]?=some (.lst (ds.map Af.d)):=pc.get j1 hpq
      have jc8:Tc[qq]?=some (.lst (ls.map Ld.d)):=pc.get (d2.get i8 qqp) qqp
      cases bo with
      | true =>
        obtain⟨T2,as2,k1,k2,k3,k4⟩:=YN jc3 ht inv (by omega) d3
        have lt:=jc3.lts
        have q2:T2[q]?=some (.lst (ds.map Af.d)):=k3.get jc1 i7
        have qq2:T2[qq]?=some (.lst (ls.map Ld.d)):=k3.get jc8 i9
        have hz:ds.length<sizeLine:=Nat.lt_of_lt_of_le (show ds.length<50 by omega) (AV (by decide))
        have out:∀x,x∉s::l::m::as'->x<Tc.length->x∉s::l::m::as2:=by
          intro x hx hlx z
          simp only[List.mem_cons]at z hx
          rcases z with z|z|z|z
          ·exact hx (.inl z)
          ·exact hx (.inr (.inl z))
          ·exact hx (.inr (.inr (.inl z)))
          · rcases k4 _ z with w | w
            ·exact hx (.inr (.inr (.inr w)))
            ·omega
        refine⟨[some (.ref p),some (.int M),some t.d,some (.ref qq),some dd,some (.ref s),some (.ref q),o7],[some (.ref p),some (.int M),some t.d,some (.ref qq),some dd,some (.ref s),some (.ref q),some d.d],T2.set q (.lst ((ds++[d]).map Af.d)),by simp,?_,ds++[d],as2,some dd,some d.d,rfl,List.getElem?_set_self (Aa q2),?_,?_,Je i4 d3,by simp;omega,out p i6 pc.pen.lt,out q i7 (Aa jc1),?_,out qq i9 (Aa jc8)⟩
        · have kk := AQ q2
          have hz':(ds.map Af.d).length<sizeLine:=by simpa using hz
          have hfin:(ds++[d]).map Af.d=ds.map Af.d++[d.d]:=by simp
          rw[hfin]
          generalize hDD:ds.map Af.d=DD at*
          simp[d1,-Lc,hc,k1,kk,hz']
        · obtain ⟨pd, pe, ph⟩ := pc.pen
          exact⟨pd,by rw[List.getElem?_set_ne hpq];exact k3.get pe i6,ph⟩
        · rw [LI]
          exact k2.same (A:=[q]) (.set (by simp)) (by simpa using out q i7 (Aa jc1))
        ·rw[List.getElem?_set_ne (Ne.symm qqq)];exact qq2
      | false =>
        refine⟨[some (.ref p),some (.int M),some t.d,some (.ref qq),some dd,some (.ref s),some (.ref q),o7],[some (.ref p),some (.int M),some t.d,some (.ref qq),some dd,some (.ref s),some (.ref q),some d.d],Tc,by simp,?_,ds,as',some dd,some d.d,rfl,jc1,pc.pen,jc3,i4,by omega,i6,i7,jc8,i9⟩
        simp[d1,-Lc,hc])
  refine⟨t,ls,ds,S',?_,⟨ht,hi,f4,by simpa using f5⟩,hho,⟨fun x hx=>(hf.1 x hx).2.2.2.2,hh.2⟩,f2⟩
  have df:=A1 f1
  have dff:=A1 f8
  have dq2:=A1 qf
  simp[GA,OQ,e1,hQF,e1b,rkf,e2,dq2,e3,hQ,e4,rk,ef,df,dff,Aw]
end
noncomputable def flI(r:Rat):Int:=r.num / (r.den:Int)
theorem TN{r d:Rat}(hg:0<d)(hz:0≤r*d):0≤r:=by
 rcases Rat.le_total (a:=0) (b:=r)with w|w
 ·exact w
 ·have:=Rat.mul_le_mul_of_nonneg_right w (Rat.le_of_lt hg)
  rw[Rat.zero_mul]at this
  have e0:=Rat.le_antisymm this hz
  have:r=0:=by grind
  rw[this]
  exact Rat.le_refl
theorem Ok.num{G B:Nat}{r:Rat}(hG:0<G)(h:Ok G B r):0≤r.num:=by
 obtain⟨z,e,_⟩:=h
 have hg:(0:Rat)<(G:Rat):=by exact_mod_cast hG
 have hz:(0:Rat)≤(z:Rat):=by exact_mod_cast Nat.zero_le z
 rw[Rat.num_nonneg]
 exact TN hg (by rw[e];exact hz)
theorem Ok.fl{G B:Nat}{r:Rat}(hG:0<G)(h:Ok G B r):0≤flI r:=Int.ediv_nonneg (h.num hG) (by omega)
section
variable{S:Sto}{t:Tr}{ls:List Ld}{ds:List Af}{st:Stt}
theorem dQ{r:Rat}{k:Nat}(h:Sz k r)(hk:k≤8000):Cd [aD r] S=some (.int (flI r),S):=by
 have h1:0<(r.den:Int):=den_pos r
 have h2:((r.den:Nat):Int).natAbs<Er:=by
  rw[Int.natAbs_natCast]
  exact Cf h.2 hk
 unfold aD flI
 generalize hd:((r.den:Nat):Int)=d at*
 simp[Cd,Gp,h1,h2]
theorem XI(h:Co t ls ds)(hh:HOk t):∃G B:Nat,0<G/\G<2^2760/\B<2^2905/\∀x∈(runs t (st0 t ls) ds).loads,∀r∈Gy t (runs t (st0 t ls) ds) x,Ok G B r:=by
 have inv:=h.fin
 obtain⟨G,B,g0,gb,bb,k1,k2⟩:=inv.gb
 refine⟨G*10,B*10*2^147,by omega,?_,?_,fun x hx=>Y9 hh (k1 x hx) k2 (inv.pcs x hx).1 ?_⟩
 ·have:G<2^(30+170*16):=Nat.lt_of_le_of_lt gb bb
  exact Nat.lt_of_lt_of_le (CK this (show 10<2^4 by decide)) (Nat.pow_le_pow_right (by decide) (by decide))
 ·have:=CK (CK bb (show 10<2^4 by decide)) (show 2^147<2^148 by exact Nat.pow_lt_pow_right (by decide) (by decide))
  exact Nat.lt_of_lt_of_le this (Nat.pow_le_pow_right (by decide) (by decide))
 ·have:=(inv.pcs x hx).2
  have e:((2^147:Nat):Int)=2^(131+16):=by decide
  omega
structure NA(t:Tr)(st:Stt)(x:Ld):Prop where
 len:(Gy t st x).length≤4
 lenE:(Gy t st x).length=t.p
 ok:∃G B:Nat,0<G/\G<2^2760/\B<2^2905/\∀r∈Gy t st x,Ok G B r
theorem XO(h:Co t ls ds)(hh:HOk t):∀x∈(runs t (st0 t ls) ds).loads,NA t (runs t (st0 t ls) ds) x:=by
 intro x hx
 have inv:=h.fin
 have tp:=h.tr.2.1
 obtain⟨G,B,g0,gg,bb,k⟩:=XI h hh
 have hl:(Gy t (runs t (st0 t ls) ds) x).length=t.p:=by
  unfold Gy Mc
  rw[List.length_map,O0,FI (inv.own x hx) inv.hold]
 exact⟨by omega,hl,⟨G,B,g0,gg,bb,k x hx⟩⟩
theorem NA.sz{st:Stt}{x:Ld}(h:NA t st x):∀r∈Gy t st x,Sz 2906 r:=by
 obtain⟨G,B,g0,gg,bb,k⟩:=h.ok
 exact fun r hr=>(k r hr).sz g0 (Nat.lt_trans gg (Nat.pow_lt_pow_right (by decide) (by decide))) (Nat.lt_trans bb (Nat.pow_lt_pow_right (by decide) (by decide)))
theorem NA.fl{st:Stt}{x:Ld}(h:NA t st x):∀r∈Gy t st x,0≤flI r:=by
 obtain⟨G,B,g0,gg,bb,k⟩:=h.ok
 exact fun r hr=>(k r hr).fl g0
noncomputable def duI(t:Tr)(st:Stt)(p i:Nat):Rat:=(Gy t st (AS st.loads i)).getD p 0
noncomputable def tkI(t:Tr)(st:Stt)(p i:Nat):Int:=flI (duI t st p i)
theorem Pl{β:Type}{ls:List Ld}(f:Ld->β):(List.range ls.length).map (fun i=>f (AS ls i))=ls.map f:=by
 apply List.ext_getElem?
 intro i
 rw[List.getElem?_map,List.getElem?_map]
 by_cases h:i<ls.length
 ·rw[List.getElem?_range h,EO h];rfl
 ·rw[List.getElem?_eq_none (by simp;omega),List.getElem?_eq_none (by omega)];rfl
theorem Wi{ls:List Ld}(f:Ld->D):Md 0 (ls.map f)=(List.range ls.length).map fun(i:Nat)=>D.tup [.int i,f (AS ls i)]:=by
 rw[IU,List.length_map]
 apply List.map_congr_left
 intro i hi
 have h:i<ls.length:=List.mem_range.mp hi
 rw[List.getD_eq_getElem?_getD,List.getElem?_map,EO h]
 rfl
theorem PZ{p i:Nat}(hm:∀x∈st.loads,NA t st x)(hp:p<t.p)(hi:i<st.loads.length):duI t st p i∈Gy t st (AS st.loads i):=getD_mem (by rw[(hm _ (Av hi)).lenE];exact hp)
def Jc(t:Tr)(st:Stt)(p:Nat):List Nat:=(List.range st.loads.length).filter fun i=>decide (0<tkI t st p i)
noncomputable def Mr(t:Tr)(st:Stt)(p i:Nat):D:=.tup [.int i,.int (tkI t st p i)]
theorem Ow{p:Nat}(h:Co t ls ds)(hh:HOk t)(hst:runs t (st0 t ls) ds=st)(hm:∀x∈st.loads,NA t st x)(hp:p<t.p):∃S',DO [Aw t ls ds,.int p] S=some (.lst ((Jc t st p).map (Mr t st p)),S')/\Bz [] S S':=by
 obtain⟨q,S1,e1,c1,s1⟩:=O7 (S:=S) h hh hp
 have hlen:=h.fin.len
 rw[hst]at hlen c1
 have gz:gOk [(q,st.loads.map fun x=>aD ((Gy t st x).getD p 0))] S1:=fun g hg=>by rw[List.mem_singleton.mp hg];exact AQ c1
 have k1:=CZ (gs:=[(q,st.loads.map fun x=>aD ((Gy t st x).getD p 0))]) (t:=tTp [(tNm 0),(tNm 1)]) (f:=CI [(eV 0),(eOp (o2 KN) [(eOp (o2 wIx) [(eV 1),(eC (.int 0))]),(eOp (o2 wIx) [(eV 1),(eC (.int 1))])])]) (C:=[]) (m:=2) (e:=fun i:Nat=>D.tup [.int i,aD (duI t st p i)]) (g:=Mr t st p) (S:=S1) gz (xs:=List.range st.loads.length) (acc:=[]) (os:=[none,none]) rfl (Nat.le_trans (show _≤50 by simp;omega) (AV (by decide))) (by
  intro i hi os ho
  obtain⟨o1,o2,rfl⟩:∃o1 o2,os=[o1,o2]:=by
   match os,ho with
   | [a,b],_=>exact⟨a,b,rfl⟩
  have hi':i<st.loads.length:=List.mem_range.mp hi
  have z:=(hm _ (Av hi')).sz _ (PZ hm hp hi')
  have h1:0<((duI t st p i).den:Int):=den_pos _
  have h2:((((duI t st p i).den:Nat):Int)).natAbs<Er:=by
   rw[Int.natAbs_natCast]
   exact Cf z.2 (by decide)
  refine⟨[some (.int i),some (aD (duI t st p i))],rfl,by simp,?_⟩
  unfold Mr tkI aD flI
  generalize ((((duI t st p i).den:Nat):Int))=d at*
  simp[h1,h2])
 have ee:Md 0 (st.loads.map fun x=>aD ((Gy t st x).getD p 0))=(List.range st.loads.length).map fun(i:Nat)=>D.tup [.int i,aD (duI t st p i)]:=Wi _
 rw[←ee]at k1
 have k2:=D2 (gs:=[]) (t:=tNm 0) (c:=eOp (o2 wGt) [(eOp (o2 wIx) [(eV 0),(eC (.int 1))]),(eC (.int 0))]) (f:=eV 0) (C:=[]) (m:=1) (e:=Mr t st p) (g:=Mr t st p) (b:=fun i=>decide (0<tkI t st p i)) (S:=S1) Ad (xs:=List.range st.loads.length) (acc:=[]) (os:=[none]) rfl (Nat.le_trans (show _≤50 by simp;omega) (AV (by decide))) (by
  intro i hi os ho
  obtain⟨o1,rfl⟩:∃o1,os=[o1]:=by
   match os,ho with
   | [a],_=>exact⟨a,rfl⟩
  exact⟨[some (Mr t st p i)],rfl,by simp,by simp[Mr],by simp⟩)
 refine⟨S1,?_,s1⟩
 have sq:=EE c1
 simp only[List.nil_append]at k1 k2
 show _=some (D.lst (((List.range st.loads.length).filter fun i=>decide (0<tkI t st p i)).map (Mr t st p)),S1)
 generalize (List.range st.loads.length).map (Mr t st p)=R at*
 generalize ((List.range st.loads.length).filter fun i=>decide (0<tkI t st p i)).map (Mr t st p)=R2 at*
 generalize (st.loads.map fun x=>aD ((Gy t st x).getD p 0))=DU at*
 generalize Aw t ls ds=bk at*
 simp[DO,LG,e1,sq,Qg,k1,k2]
noncomputable def fnL(n:Nat)(v:Nat->Int):List D:=(List.range n).map fun j=>.int (v j)
theorem SD{n i:Nat}{v:Nat->Int}{z:Int}(hi:i<n):(fnL n v).set i (.int z)=fnL n (fun j=>if j=i then z else v j):=by
 apply List.ext_getElem?
 intro j
 rw[List.getElem?_set]
 unfold fnL
 rw[List.getElem?_map,List.getElem?_map,List.length_map,List.length_range]
 by_cases h:j<n
 ·rw[List.getElem?_range h]
  by_cases e:i=j
  ·subst e;simp[h]
  ·have e':¬j=i:=fun z=>e z.symm
   simp[e,e']
 ·have:¬i=j:=by omega
  rw[List.getElem?_eq_none (by simp;omega)]
  simp[this]
theorem Wf{n i:Nat}{v:Nat->Int}(hi:i<n):(fnL n v)[i]?=some (.int (v i)):=by
 unfold fnL
 rw[List.getElem?_map,List.getElem?_range hi]
 rfl
theorem FW{n:Nat}{v w:Nat->Int}(h:∀j<n,v j=w j):fnL n v=fnL n w:=by
 unfold fnL
 apply List.map_congr_left
 intro j hj
 rw[h j (List.mem_range.mp hj)]
end
section
variable{S:Sto}{t:Tr}{ls:List Ld}{ds:List Af}{st:Stt}
def BV(t:Tr)(st:Stt)(p:Nat):List D:=(Jc t st p).map (Mr t st p)
theorem K7{p qd:Nat}(hm:∀x∈st.loads,NA t st x)(hl:st.loads.length≤20)(hp:p<t.p)(hq:S[qd]?=some (.lst (st.loads.map fun x=>shD (Gy t st x)))):CU [.ref qd,.int p] S=some (.ref S.length,S++[.lst (BV t st p)]):=by
 have gz:gOk [(qd,st.loads.map fun x=>shD (Gy t st x))] S:=fun g hg=>by rw[List.mem_singleton.mp hg];exact AQ hq
 have k1:=CZ (gs:=[(qd,st.loads.map fun x=>shD (Gy t st x))]) (t:=tTp [(tNm 1),(tNm 2)]) (f:=CI [(eV 1),(AK Cd [(eOp (o2 wIx) [(eV 2),(eV 0)])])]) (C:=[some (.int p)]) (m:=2) (e:=fun i:Nat=>D.tup [.int i,shD (Gy t st (AS st.loads i))]) (g:=Mr t st p) (S:=S) gz (xs:=List.range st.loads.length) (acc:=[]) (os:=[none,none]) rfl (Nat.le_trans (show _≤50 by simp;omega) (AV (by decide))) (by
  intro i hi os ho
  obtain⟨x1,x2,rfl⟩:∃x1 x2,os=[x1,x2]:=by
   match os,ho with
   | [a,b],_=>exact⟨a,b,rfl⟩
  have hi':i<st.loads.length:=List.mem_range.mp hi
  have hx:=hm _ (Av hi')
  have w:=dQ (S:=S) (hx.sz _ (PZ hm hp hi')) (by decide)
  have at1:=Mz (ss:=Gy t st (AS st.loads i)) (n:=p) (by rw[hx.lenE];exact hp)
  refine⟨[some (.int i),some (shD (Gy t st (AS st.loads i)))],rfl,by simp,?_⟩
  show _=some (D.tup [.int i,.int (flI (duI t st p i))],S)
  change atI ((Gy t st (AS st.loads i)).map aD) (p:Int)=some (aD (duI t st p i))at at1
  generalize flI (duI t st p i)=z at*
  generalize aD (duI t st p i)=R at*
  simp[Kr,at1,w])
 have ee:Md 0 (st.loads.map fun x=>shD (Gy t st x))=(List.range st.loads.length).map fun(i:Nat)=>D.tup [.int i,shD (Gy t st (AS st.loads i))]:=Wi _
 rw[←ee]at k1
 have k2:=D2 (gs:=[]) (t:=tTp [(tNm 0),(tNm 1)]) (c:=eOp (o2 wGt) [(eV 1),(eC (.int 0))]) (f:=CI [(eV 0),(eV 1)]) (C:=[]) (m:=2) (e:=Mr t st p) (g:=Mr t st p) (b:=fun i=>decide (0<tkI t st p i)) (S:=S) Ad (xs:=List.range st.loads.length) (acc:=[]) (os:=[none,none]) rfl (Nat.le_trans (show _≤50 by simp;omega) (AV (by decide))) (by
  intro i hi os ho
  obtain⟨x1,x2,rfl⟩:∃x1 x2,os=[x1,x2]:=by
   match os,ho with
   | [a,b],_=>exact⟨a,b,rfl⟩
  exact⟨[some (.int i),some (.int (tkI t st p i))],rfl,by simp[Mr],by simp,by simp[Mr]⟩)
 have sq:=EE hq
 simp only[List.nil_append,List.cons_append]at k1 k2
 unfold BV Jc
 generalize (List.range st.loads.length).map (Mr t st p)=R at*
 generalize ((List.range st.loads.length).filter fun i=>decide (0<tkI t st p i)).map (Mr t st p)=R2 at*
 generalize (st.loads.map fun x=>shD (Gy t st x))=DU at*
 simp[CU,J7,sq,Qg,k1,k2]
theorem Q1{p:Nat}(hp:p<t.p):B6 [Aw t ls ds,.int p] S=some (.non,S):=by
 have k1:St.Kd.int.isA "int"=true:=by decide
 have k2:St.Kd.int.isA "bool"=false:=by decide
 have h1:(p:Int)≤(t.p:Int)-1:=by omega
 simp[B6,EU,CD,F2,k1,k2,E5,GP,GX,IL,Fs,HI,Aw,kdW,Tr.d,h1]
theorem ND{p:Nat}(hp:p<t.p):CD [t.d,.int p] S=some (.bl true,S):=by
 have k1:St.Kd.int.isA "int"=true:=by decide
 have k2:St.Kd.int.isA "bool"=false:=by decide
 have h1:(p:Int)≤(t.p:Int)-1:=by omega
 simp[CD,F2,k1,k2,E5,GP,GX,IL,Fs,HI,kdW,Tr.d,h1]
theorem LY{p:Nat}(h:Co t ls ds)(hh:HOk t)(hst:runs t (st0 t ls) ds=st)(hm:∀x∈st.loads,NA t st x)(hp:p<t.p):∃q S',BM [Aw t ls ds,.int p] S=some (.ref q,S')/\S'[q]?=some (.lst (BV t st p))/\Bz [] S S'/\S.length≤q:=by
 have r1:=Oe (S:=S) h
 have r2:=Q1 (S:=S) (ls:=ls) (ds:=ds) hp
 obtain⟨qd,S1,e1,c1,s1,l1⟩:=K4 (S:=S) h hh
 have hlen:=h.fin.len
 rw[hst]at c1 hlen
 have tb:=K7 (S:=S1) hm (by omega) hp c1
 refine⟨S1.length,S1++[.lst (BV t st p)],?_,List.getElem?_concat_length,s1.trans .app,s1.len⟩
 generalize BV t st p=R at*
 generalize Aw t ls ds=bk at*
 simp[BM,J4,r1,r2,e1,tb]
theorem Pz{ns:List Int}(hn:ns.Nodup):∀k,k≤ns.length->UG ns k=ns.take k
  |0,_=>rfl
  | k + 1, hk => by
    have hlt:k<ns.length:=by omega
    show PyProof.Rows.firstMet _ (k+1)=_
    rw[PyProof.Rows.firstMet_succ]
    have ih:=Pz hn k (by omega)
    change PyProof.Rows.firstMet _ k=_ at ih
    rw[ih]
    have eg:ns.getD k 0=ns[k]:=by rw[List.getD_eq_getElem?_getD,List.getElem?_eq_getElem hlt];rfl
    have hno:(ns.take k).any (· ==ns.getD k 0)=false:=by
      rw[Bool.eq_false_iff]
      intro z
      obtain⟨x,hx,e⟩:=List.any_eq_true.mp z
      have e:x=ns.getD k 0:=by simpa using e
      rw[eg]at e
      subst e
      obtain⟨i,hi,ei⟩:=List.mem_iff_getElem.mp hx
      rw[List.length_take]at hi
      rw[List.getElem_take]at ei
      exact List.pairwise_iff_getElem.mp hn i k (by omega) hlt (by omega) ei
    unfold PyProof.Rows.step_dedup
    rw[if_neg (by rw[hno];decide),eg,List.take_succ,List.getElem?_eq_getElem hlt]
    rfl
theorem XF{ns:List Int}(hn:ns.Nodup):(UG ns ns.length).length=ns.length:=by rw[Pz hn _ (Nat.le_refl _),List.take_length]
noncomputable def Fj(is:List Nat):List D:=is.map fun i:Nat=>D.int i
theorem gJ(is:List Nat):Iw (Fj is)=some (is.map fun i:Nat=>(i:Int)):=by
 have:=FQ (is.map fun i:Nat=>(i:Int))
 rw[List.map_map]at this
 exact this
structure SI(t:Tr)(is:List Nat):Prop where
 nd:is.Nodup
 lt:∀i∈is,i<t.p
 len:is.length≤4
theorem Yl{is:List Nat}(ho:SI t is):Cb [Aw t ls ds,.tup (Fj is)] S=some (.non,S):=by
 have hl:=ho.len
 have k1:St.Kd.tup.isA "tuple"=true:=by decide
 have c:=CZ (gs:=[]) (t:=tNm 1) (f:=AK CD [(eOp (o2 wIx) [(eV 0),(eC (.int 0))]),(eV 1)]) (C:=[some (Aw t ls ds)]) (m:=1) (e:=fun i:Nat=>D.int i) (g:=fun _=>D.bl true) (S:=S) Ad (xs:=is) (acc:=[]) (os:=[none]) rfl (Nat.le_trans (show _≤50 by simp;omega) (AV (by decide))) (by
  intro i hi os ho'
  obtain⟨x1,rfl⟩:∃x1,os=[x1]:=by
   match os,ho' with
   | [a],_=>exact⟨a,rfl⟩
  have p:=ND (S:=S) (ho.lt i hi)
  refine⟨[some (.int i)],rfl,by simp,?_⟩
  simp[Aw,p])
 have al:bls (is.map fun _=>D.bl true)=some (is.map fun _=>true):=SW (fun _:Nat=>true) is
 have aa:(is.map fun _=>true).all id=true:=by simp
 have nd:(is.map fun i:Nat=>(i:Int)).Nodup:=ho.nd.map _ fun a b hab z=>hab (by exact_mod_cast z)
 have sl:slK (.tup (Fj is),S)=some (.int (is.length:Int),S):=by
  unfold slK
  simp only
  rw[gJ]
  show(if _ then _ else _)=_
  have m:=XF nd
  rw[List.length_map]at m
  rw[if_pos (by rw[List.length_map];omega),List.length_map,m]
 have es:∀(o:Ev) (E:En) (T:Sto),eSL o E T=(o E T).bind slK:=fun _ _ _=>rfl
 have wl:Hh (.val (.tup (Fj is)))=some (.val (.int is.length)):=by
  show some (Wv.val (.int ((Fj is).length:Int)))=_
  unfold Fj
  rw[List.length_map]
 change Bx [] (tNm 1) BU _ (Fj is) [] [some (Aw t ls ds),none] S=some (is.map fun _=>D.bl true,S)at c
 have sq:sqD S (.tup (Fj is))=some (Fj is,[]):=nr rfl
 have ki:kdW (.val (.tup (Fj is)))=some St.Kd.tup:=nr rfl
 generalize Aw t ls ds=bk at*
 generalize Fj is=OD at*
 generalize is.map (fun _=>D.bl true)=BL at*
 simp[Cb,FK,k1,ki,sq,Qg,c,al,aa,es,sl,wl]
end
section
variable{S:Sto}{t:Tr}{ls:List Ld}{ds:List Af}{st:Stt}
theorem Xm{g:Int->Int->Int}{f o k:Ev}{E:En}{q:Nat}{j a c:Int}{m:Nat}{L:List D}(h1:f E S=some (.ref q,S))(h2:o E S=some (.int j,S))(h3:DN S q=some L)(h4:ixN L.length j=some m)(h5:0≤j)(h6:L[m]?=some (.int a))(h7:k E S=some (.int c,S)):VH g f o k E S=some (.nx,E,S.set q (.lst (L.set m (.int (g a c))))):=by
 unfold VH
 rw[h1,Bp,h2,Bp]
 simp only
 rw[h3,Bp,h4,Bp,if_pos h5,h6]
 simp only
 rw[h7,Bp]
 simp only
 rw[h3,Bp,h4]
 rfl
theorem Px {q r n : Nat} {d : Nat -> Int} {L : List D} {a0 a1 a2 a3 a5 : Option D} (hne : r ≠ q) : ∀ {is : List Nat} {v : Nat -> Int} {o6 o7 : Option D} {S : Sto}, is.Nodup -> (∀ i ∈ is, i < n) -> S[q]? = some (.lst (fnL n v)) -> S[r]? = some (.lst L) -> ∃ u6 u7 S', JV [(r, L)] (tTp [(tNm 6), (tNm 7)]) (VH (fun i j => i - j) (eV 4) (eV 6) (eV 7)) (is.map fun i : Nat => D.tup [.int i, .int (d i)]) [a0, a1, a2, a3, some (.ref q), a5, o6, o7] S = some (.nx, [a0, a1, a2, a3, some (.ref q), a5, u6, u7], S') /\ S'[q]? = some (.lst (fnL n fun j => if j ∈ is then v j - d j else v j)) /\ Bz [q] S S'
  | [],v,o6,o7,S,hd,hi,hq,hr=>⟨o6,o7,S,by rw[List.map_nil,Fy (fun g hg=>by rw[List.mem_singleton.mp hg];exact AQ hr)],by simpa using hq,.refl⟩
  | i :: is, v, o6, o7, S, hd, hi, hq, hr => by
    have hin:=hi i List.mem_cons_self
    obtain⟨hn,hd'⟩:=List.nodup_cons.mp hd
    have lq:=Aa hq
    obtain⟨u6,u7,S',e,c,s⟩:=Px (q:=q) (r:=r) (n:=n) (d:=d) (L:=L) (a0:=a0) (a1:=a1) (a2:=a2) (a3:=a3) (a5:=a5) hne (is:=is) (v:=fun j=>if j=i then v i-d i else v j) (o6:=some (.int i)) (o7:=some (.int (d i))) (S:=S.set q (.lst (fnL n fun j=>if j=i then v i-d i else v j))) hd' (fun j hj=>hi j (List.mem_cons_of_mem _ hj)) (List.getElem?_set_self lq) (by rw[List.getElem?_set_ne (Ne.symm hne)];exact hr)
    refine⟨u6,u7,S',?_,?_,.trans (.set (by simp)) s⟩
    · rw [List.map_cons, Dh (fun g hg => by rw [List.mem_singleton.mp hg]; exact AQ hr)]
      have ix:ixN (fnL n v).length (i:Int)=some i:=JM (by simpa[fnL]using hin)
      have fs:=SD (v:=v) (z:=v i-d i) hin
      have ag:=Xm (S:=S) (g:=fun i j=>i-j) (f:=eV 4) (o:=eV 6) (k:=eV 7) (E:=[a0,a1,a2,a3,some (.ref q),a5,some (.int i),some (.int (d i))]) (q:=q) (j:=(i:Int)) (a:=v i) (c:=d i) (m:=i) (L:=fnL n v) (by simp) (by simp) (AQ hq) ix (by omega) (Wf hin) (by simp)
      rw[fs]at ag
      generalize VH (fun i j=>i-j) (eV 4) (eV 6) (eV 7)=AG at*
      simp[ag,e]
    · have : (fnL n fun j => if j ∈ is then (if j = i then v i - d i else v j) - d j else if j = i then v i - d i else v j) = fnL n fun j => if j ∈ i :: is then v j - d j else v j := by
        apply FW
        intro j _
        by_cases e1:j=i
        ·subst e1;simp[hn]
        · by_cases e2 : j ∈ is
          ·simp[e1,e2]
          ·simp[e1,e2]
      rw[←this]
      exact c
theorem WK{p:Nat}{v:Nat->Int}(hm:∀x∈st.loads,NA t st x)(hp:p<t.p):(fnL st.loads.length fun j=>if j∈Jc t st p then v j-tkI t st p j else v j)=fnL st.loads.length fun j=>v j-tkI t st p j:=by
 apply FW
 intro j hj
 have f0:0≤tkI t st p j:=(hm _ (Av hj)).fl _ (PZ hm hp hj)
 by_cases h0:0<tkI t st p j
 ·have:j∈Jc t st p:=List.mem_filter.mpr ⟨List.mem_range.mpr hj,by simpa using h0⟩
  rw[if_pos this]
 ·have:j∉Jc t st p:=fun z=>h0 (by simpa using(List.mem_filter.mp z).2)
  rw[if_neg this]
  omega
theorem Q7{p:Nat}:(Jc t st p).Nodup:=List.Pairwise.filter _ List.nodup_range
theorem SO{p:Nat}:∀i∈Jc t st p,i<st.loads.length:=fun i hi=>List.mem_range.mp (List.mem_filter.mp hi).1
def Qv(t:Tr)(st:Stt)(is:List Nat)(v:Nat->Int)(j:Nat):Int:=v j-(is.map fun p=>tkI t st p j).sum
theorem Km{q qt:Nat}{LT:List D}{a0 a1 a2 a3:Option D}(hm:∀x∈st.loads,NA t st x)(hqt:qt≠q):∀{ps:List (Nat×Nat)} {v:Nat->Int} {o5 o6 o7:Option D} {S:Sto},(∀z∈ps,z.1<t.p/\S[z.2]?=some (.lst (BV t st z.1))/\z.2≠q)->S[q]?=some (.lst (fnL st.loads.length v))->S[qt]?=some (.lst LT)->
    ∃u5 u6 u7 S',JV [(qt,LT)] (tNm 5) (IC (FE (eV 5)) (tTp [(tNm 6),(tNm 7)]) (VH (fun i j=>i-j) (eV 4) (eV 6) (eV 7))) (ps.map fun z=>D.ref z.2) [a0,a1,a2,a3,some (.ref q),o5,o6,o7] S=some (.nx,[a0,a1,a2,a3,some (.ref q),u5,u6,u7],S')/\S'[q]?=some (.lst (fnL st.loads.length (Qv t st (ps.map (·.1)) v)))/\Bz [q] S S'
  | [],v,o5,o6,o7,S,hz,hq,ht=>⟨o5,o6,o7,S,by rw[List.map_nil,Fy (fun g hg=>by rw[List.mem_singleton.mp hg];exact AQ ht)],by
      have:fnL st.loads.length (Qv t st (List.map (·.1) ([]:List (Nat×Nat))) v)=fnL st.loads.length v:=FW fun j _=>by simp[Qv]
      rw[this];exact hq,.refl⟩
  | (p, r) :: ps, v, o5, o6, o7, S, hz, hq, ht => by
    obtain⟨hp,hr,hrq⟩:=hz (p,r) List.mem_cons_self
    obtain⟨u6,u7,S1,e1,c1,s1⟩:=Px (q:=q) (r:=r) (n:=st.loads.length) (d:=tkI t st p) (L:=BV t st p) (a0:=a0) (a1:=a1) (a2:=a2) (a3:=a3) (a5:=some (.ref r)) hrq (is:=Jc t st p) (v:=v) (o6:=o6) (o7:=o7) (S:=S) Q7 SO hq hr
    rw[WK hm hp]at c1
    obtain⟨w5,w6,w7,S2,e2,c2,s2⟩:=Km hm hqt (LT:=LT) (a0:=a0) (a1:=a1) (a2:=a2) (a3:=a3) (ps:=ps) (v:=fun j=>v j-tkI t st p j) (o5:=some (.ref r)) (o6:=u6) (o7:=u7) (S:=S1) (fun z hz'=>by
      obtain⟨z1,z2,z3⟩:=hz z (List.mem_cons_of_mem _ hz')
      exact⟨z1,s1.get z2 (by simpa using z3),z3⟩) c1 (s1.get ht (by simpa using hqt))
    refine⟨w5,w6,w7,S2,?_,?_,s1.trans s2⟩
    · rw [List.map_cons, Dh (fun g hg => by rw [List.mem_singleton.mp hg]; exact AQ ht)]
      have sq:=EE hr
      have er:(Jc t st p).map (fun i:Nat=>D.tup [.int i,.int (tkI t st p i)])=BV t st p:=rfl
      rw[er]at e1
      generalize BV t st p=RW at*
      generalize VH (fun i j=>i-j) (eV 4) (eV 6) (eV 7)=AG at*
      simp[sq,e1,e2]
    · have : fnL st.loads.length (Qv t st (ps.map (·.1)) fun j => v j - tkI t st p j) = fnL st.loads.length (Qv t st (((p, r) :: ps).map (·.1)) v) := FW fun j _ => by
        simp only[Qv,List.map_cons,List.sum_cons]
        omega
      rw[←this]
      exact c2
theorem Wy{qd:Nat}(hm:∀x∈st.loads,NA t st x)(hl:st.loads.length≤20):∀{is:List Nat} {acc:List D} {o:Option D} {S:Sto},(∀i∈is,i<t.p)->acc.length+is.length≤100->S[qd]?=some (.lst (st.loads.map fun x=>shD (Gy t st x)))->
    ∃(ps:List (Nat×Nat)) (S':Sto),Bx [] (tNm 1) BU (AK CU [(eV 0),(eV 1)]) (Fj is) acc [some (.ref qd),o] S=some (acc++ps.map fun z=>D.ref z.2,S')/\ps.map (·.1)=is/\(∀z∈ps,S'[z.2]?=some (.lst (BV t st z.1))/\S.length≤z.2)/\Bz [] S S'
  | [],acc,o,S,hi,hz,hq=>⟨[],S,by
      show Bx _ _ _ _ [] _ _ _=_
      rw[D4 Ad];simp,rfl,fun z hz=>(nomatch hz),.refl⟩
  | i :: is, acc, o, S, hi, hz, hq => by
    have tb:=K7 (S:=S) hm hl (hi i List.mem_cons_self) hq
    obtain⟨ps,S',e,h1,h2,h3⟩:=Wy hm hl (is:=is) (acc:=acc++[D.ref S.length]) (o:=some (.int i)) (S:=S++[.lst (BV t st i)]) (fun j hj=>hi j (List.mem_cons_of_mem _ hj)) (by simp at hz ⊢; omega) (by rw[List.getElem?_append_left (Aa hq)];exact hq)
    have hsz:acc.length<sizeLine:=Nat.lt_of_lt_of_le (show acc.length<101 by simp at hz;omega) (AV (by decide))
    refine⟨(i,S.length)::ps,S',?_,by rw[List.map_cons,h1],?_,Bz.trans .app h3⟩
    · show Bx [] (tNm 1) BU (AK CU [(eV 0), (eV 1)]) (D.int i :: Fj is) acc [some (.ref qd), o] S = _
      rw[GW Ad hsz (E1:=[some (.ref qd),some (.int i)]) (S1:=S) (by simp) (by simp)]
      have ev:(AK CU [(eV 0),(eV 1)]) [some (.ref qd),some (.int i)] S=some (.ref S.length,S++[.lst (BV t st i)]):=by simp[tb]
      rw[ev,Bp,e]
      simp
    · intro z hz'
      rcases List.mem_cons.mp hz' with rfl|hz'
      ·exact⟨h3.get List.getElem?_concat_length (by simp),Nat.le_refl _⟩
      · have := h2 z hz'
        exact⟨this.1,Nat.le_trans (by simp) this.2⟩
theorem dA(hl:st.loads.length≤20):Bx [] (tTp [(tNm 0),(tNm 1)]) BU (eV 1) (st.loads.map hD) [] [none,none] S=some (fnL st.loads.length (fun j=>(AS st.loads j).n),S):=by
 have k0:=CZ (gs:=[]) (t:=tTp [(tNm 0),(tNm 1)]) (f:=eV 1) (C:=[]) (m:=2) (e:=hD) (g:=fun x=>D.int x.n) (S:=S) Ad (xs:=st.loads) (acc:=[]) (os:=[none,none]) rfl (Nat.le_trans (show _≤50 by simp;omega) (AV (by decide))) (by
  intro x hx os ho
  obtain⟨x1,x2,rfl⟩:∃x1 x2,os=[x1,x2]:=by
   match os,ho with
   | [a,b],_=>exact⟨a,b,rfl⟩
  exact⟨[some (.int x.k),some (.int x.n)],rfl,by simp[hD],by simp⟩)
 rw[←Pl (fun x=>D.int x.n)]at k0
 exact k0
def Mt(t:Tr)(st:Stt)(is:List Nat):List D:=fnL st.loads.length (Qv t st is fun j=>(AS st.loads j).n)
theorem Qy{is:List Nat}(h:Co t ls ds)(hh:HOk t)(hst:runs t (st0 t ls) ds=st)(hm:∀x∈st.loads,NA t st x)(ho:SI t is):∃(qt:Nat) (ps:List (Nat×Nat)) (S':Sto),EB [Aw t ls ds,.tup (Fj is)] S=some (.tup [.ref qt,.tup (Mt t st is)],S')/\S'[qt]?=some (.lst (ps.map fun z=>D.ref z.2))/\ps.map (·.1)=is/\(∀z∈ps,S'[z.2]?=some (.lst (BV t st z.1)))/\Bz [] S S'/\S.length≤qt:=by
 have r1:=Oe (S:=S) h
 have r2:=Yl (S:=S) (ls:=ls) (ds:=ds) ho
 obtain⟨qd,S1,e1,c1,s1,l1⟩:=K4 (S:=S) h hh
 have hlen:=h.fin.len
 rw[hst]at c1 hlen
 have hil:=ho.len
 obtain⟨ps,S2,e2,p1,p2,s2⟩:=Wy hm (by omega) (is:=is) (acc:=[]) (o:=none) (S:=S1) ho.lt (by simp;omega) c1
 have hb:=Qr (S:=S2++[Cl.lst (ps.map fun z=>D.ref z.2)]) h (n:=ds.length) (Nat.le_refl _)
 rw[List.take_length,hst]at hb
 have hc:=dA (S:=S2++[Cl.lst (ps.map fun z=>D.ref z.2)]) (st:=st) (by omega)
 have lq:(S2++[Cl.lst (ps.map fun z=>D.ref z.2)]).length=S2.length+1:=by simp
 have g1:(S2++[Cl.lst (ps.map fun z=>D.ref z.2)]++[Cl.lst (fnL st.loads.length fun j=>(AS st.loads j).n)])[S2.length+1]?=some (.lst (fnL st.loads.length fun j=>(AS st.loads j).n)):=by
  rw[←lq];exact List.getElem?_concat_length
 have g2:(S2++[Cl.lst (ps.map fun z=>D.ref z.2)]++[Cl.lst (fnL st.loads.length fun j=>(AS st.loads j).n)])[S2.length]?=some (.lst (ps.map fun z=>D.ref z.2)):=by
  rw[List.getElem?_append_left (by simp)];exact List.getElem?_concat_length
 have g3:∀z∈ps,z.1<t.p/\(S2++[Cl.lst (ps.map fun z=>D.ref z.2)]++[Cl.lst (fnL st.loads.length fun j=>(AS st.loads j).n)])[z.2]?=some (.lst (BV t st z.1))/\z.2≠S2.length+1:=fun z hz=>by
  have w:=(p2 z hz).1
  have lw:=Aa w
  refine⟨ho.lt _ (by rw[←p1];exact List.mem_map.mpr ⟨z,hz,rfl⟩),?_,by omega⟩
  rw[List.getElem?_append_left (by simp;omega),List.getElem?_append_left lw]
  exact w
 obtain⟨u5,u6,u7,S3,e3,c3,s3⟩:=Km (q:=S2.length+1) (qt:=S2.length) (LT:=ps.map fun z=>D.ref z.2) (a0:=some (Aw t ls ds)) (a1:=some (.tup (Fj is))) (a2:=some (.ref qd)) (a3:=some (.ref S2.length)) hm (by omega) (ps:=ps) (v:=fun j=>(AS st.loads j).n) (o5:=none) (o6:=none) (o7:=none) g3 g1 g2
 rw[p1]at c3
 change _=some (Cl.lst (Mt t st is))at c3
 refine⟨S2.length,ps,S3,?_,s3.get g2 (by simp),p1,fun z hz=>s3.get (g3 z hz).2.1 (by simpa using(g3 z hz).2.2),?_,Nat.le_trans s1.len s2.len⟩
 ·have sq:=EE g2
  have so:∀T,sqD T (.tup (Fj is))=some (Fj is,[]):=fun _=>nr rfl
  have sh:∀T,sqD T (Bb st.loads)=some (st.loads.map hD,[]):=fun _=>nr rfl
  have d3:=A1 c3
  simp only[List.nil_append]at e2
  generalize hHD:Bb st.loads=HD at*
  generalize st.loads.map hD=HL at*
  generalize (ps.map fun z=>D.ref z.2)=RF at*
  generalize (fnL st.loads.length fun j=>(AS st.loads j).n)=F0 at*
  generalize Mt t st is=F1 at*
  generalize Fj is=OD at*
  generalize hAG:VH (fun i j=>i-j) (eV 4) (eV 6) (eV 7)=AG at*
  simp only[Aw]at r1 r2 e1 hb e3⊢
  simp only[List.append_assoc,List.cons_append,List.nil_append]at sq e3
  simp[EB,Lq,r1,r2,e1,so,Qg,e2,hb,sh,hc,sq,hAG,e3,d3]
 ·have l2:=s2.len
  have l1:=s1.len
  have l3:=s3.len
  simp at l3
  refine⟨by omega,fun n hn _=>?_⟩
  rw[s3.keep n (by simp;omega) (by simp;omega),List.getElem?_append_left (by simp;omega),List.getElem?_append_left (by omega),s2.keep n (by omega) (by simp)]
  exact s1.keep n hn (by simp)
theorem Me {q n : Nat} {d : Nat -> Int} {a0 a1 a2 a4 : Option D} : ∀ {is : List Nat} {v : Nat -> Int} {o5 o6 : Option D} {S : Sto}, is.Nodup -> (∀ i ∈ is, i < n) -> S[q]? = some (.lst (fnL n v)) -> ∃ u5 u6 S', JV [] (tTp [(tNm 5), (tNm 6)]) (KS (eOp (o2 Ly) [(eOp (o2 wIx) [(eV 3), (eV 5)]), (eV 6)]) (eV 3) (eV 5)) (is.map fun i : Nat => D.tup [.int i, .int (d i)]) [a0, a1, a2, some (.ref q), a4, o5, o6] S = some (.nx, [a0, a1, a2, some (.ref q), a4, u5, u6], S') /\ S'[q]? = some (.lst (fnL n fun j => if j ∈ is then v j - d j else v j)) /\ Bz [q] S S'
  | [],v,o5,o6,S,hd,hi,hq=>⟨o5,o6,S,by rw[List.map_nil,Fy Ad],by simpa using hq,.refl⟩
  | i :: is, v, o5, o6, S, hd, hi, hq => by
    have hin:=hi i List.mem_cons_self
    obtain⟨hn,hd'⟩:=List.nodup_cons.mp hd
    have lq:=Aa hq
    obtain⟨u5,u6,S',e,c,s⟩:=Me (q:=q) (n:=n) (d:=d) (a0:=a0) (a1:=a1) (a2:=a2) (a4:=a4) (is:=is) (v:=fun j=>if j=i then v i-d i else v j) (o5:=some (.int i)) (o6:=some (.int (d i))) (S:=S.set q (.lst (fnL n fun j=>if j=i then v i-d i else v j))) hd' (fun j hj=>hi j (List.mem_cons_of_mem _ hj)) (List.getElem?_set_self lq)
    refine⟨u5,u6,S',?_,?_,.trans (.set (by simp)) s⟩
    · rw [List.map_cons, Dh Ad]
      have a1':=C8 (Wf (v:=v) hin)
      have ix:ixN (fnL n v).length (i:Int)=some i:=JM (by simpa[fnL]using hin)
      have dq:=A1 hq
      have cq:=AQ hq
      have fs:=SD (v:=v) (z:=v i-d i) hin
      generalize fnL n v=L at*
      generalize (fnL n fun j=>if j=i then v i-d i else v j)=L2 at*
      simp[dq,a1',cq,ix,fs,e]
    · have : (fnL n fun j => if j ∈ is then (if j = i then v i - d i else v j) - d j else if j = i then v i - d i else v j) = fnL n fun j => if j ∈ i :: is then v j - d j else v j := by
        apply FW
        intro j _
        by_cases e1:j=i
        ·subst e1;simp[hn]
        · by_cases e2 : j ∈ is
          ·simp[e1,e2]
          ·simp[e1,e2]
      rw[←this]
      exact c
def allR(t:Tr)(st:Stt):List D:=(List.range t.p).map fun p=>.lst (BV t st p)
theorem Rx{p:Nat}(hp:p<t.p):atI (allR t st) (p:Int)=some (.lst (BV t st p)):=C8 (by unfold allR;rw[List.getElem?_map,List.getElem?_range hp];rfl)
theorem Mu{q:Nat}{a0 a2:Option D}(hm:∀x∈st.loads,NA t st x):∀{is:List Nat} {v:Nat->Int} {o4 o5 o6:Option D} {S:Sto},(∀i∈is,i<t.p)->S[q]?=some (.lst (fnL st.loads.length v))->
    ∃u4 u5 u6 S',JV [] (tNm 4) (IC (FE (eOp (o2 wIx) [(eV 1),(eV 4)])) (tTp [(tNm 5),(tNm 6)]) (KS (eOp (o2 Ly) [(eOp (o2 wIx) [(eV 3),(eV 5)]),(eV 6)]) (eV 3) (eV 5))) (Fj is) [a0,some (.lst (allR t st)),a2,some (.ref q),o4,o5,o6] S=some (.nx,[a0,some (.lst (allR t st)),a2,some (.ref q),u4,u5,u6],S')/\S'[q]?=some (.lst (fnL st.loads.length (Qv t st is v)))/\Bz [q] S S'
  | [],v,o4,o5,o6,S,hi,hq=>⟨o4,o5,o6,S,by
      show JV _ _ _ [] _ _=_
      rw[Fy Ad],by
      have:fnL st.loads.length (Qv t st [] v)=fnL st.loads.length v:=FW fun j _=>by simp[Qv]
      rw[this];exact hq,.refl⟩
  | p :: is, v, o4, o5, o6, S, hi, hq => by
    have hp:=hi p List.mem_cons_self
    obtain⟨u5,u6,S1,e1,c1,s1⟩:=Me (q:=q) (n:=st.loads.length) (d:=tkI t st p) (a0:=a0) (a1:=some (.lst (allR t st))) (a2:=a2) (a4:=some (.int p)) (is:=Jc t st p) (v:=v) (o5:=o5) (o6:=o6) (S:=S) Q7 SO hq
    rw[WK hm hp]at c1
    obtain⟨w4,w5,w6,S2,e2,c2,s2⟩:=Mu hm (a0:=a0) (a2:=a2) (is:=is) (v:=fun j=>v j-tkI t st p j) (o4:=some (.int p)) (o5:=u5) (o6:=u6) (S:=S1) (fun j hj=>hi j (List.mem_cons_of_mem _ hj)) c1
    refine⟨w4,w5,w6,S2,?_,?_,s1.trans s2⟩
    · show JV _ _ _ (D.int p :: Fj is) _ _ = _
      rw[Dh Ad]
      have ar:=Rx (st:=st) hp
      have er:(Jc t st p).map (fun i:Nat=>D.tup [.int i,.int (tkI t st p i)])=BV t st p:=rfl
      rw[er]at e1
      generalize BV t st p=RW at*
      generalize allR t st=AR at*
      generalize hAG:KS (eOp (o2 Ly) [(eOp (o2 wIx) [(eV 3),(eV 5)]),(eV 6)]) (eV 3) (eV 5)=AG at*
      simp[ar,e1,e2]
    · have : fnL st.loads.length (Qv t st is fun j => v j - tkI t st p j) = fnL st.loads.length (Qv t st (p :: is) v) := FW fun j _ => by
        simp only[Qv,List.map_cons,List.sum_cons]
        omega
      rw[←this]
      exact c2
theorem Qq{is:List Nat}(hm:∀x∈st.loads,NA t st x)(hi:∀i∈is,i<t.p):∃S',Ba [.lst (fnL st.loads.length fun j=>(AS st.loads j).n),.lst (allR t st),.tup (Fj is)] S=some (.tup (Mt t st is),S')/\Bz [] S S':=by
 obtain⟨u4,u5,u6,S1,e1,c1,s1⟩:=Mu hm (q:=S.length) (a0:=some (.lst (fnL st.loads.length fun j=>(AS st.loads j).n))) (a2:=some (.tup (Fj is))) (is:=is) (v:=fun j=>(AS st.loads j).n) (o4:=none) (o5:=none) (o6:=none) (S:=S++[Cl.lst (fnL st.loads.length fun j=>(AS st.loads j).n)]) hi List.getElem?_concat_length
 change _=some (Cl.lst (Mt t st is))at c1
 refine⟨S1,?_,Bz.new (A:=[]) (B:=[S.length]) .app s1 (by simp)⟩
 have so:∀T,sqD T (.tup (Fj is))=some (Fj is,[]):=fun _=>nr rfl
 have d1:=A1 c1
 generalize Mt t st is=F1 at*
 generalize (fnL st.loads.length fun j=>(AS st.loads j).n)=F0 at*
 generalize allR t st=AR at*
 generalize Fj is=OD at*
 simp[Ba,Ii,so,e1,d1]
end
noncomputable def rowAt(rows:List (List Nat))(k:Nat):List Nat:=rows.getD k []
noncomputable def Z4(P:Nat)(rows:List (List Nat))(k:Nat):List (List Nat):=rows++((List.range P).filter fun i=> !(rowAt rows k).contains i).map fun i=>rowAt rows k++[i]
noncomputable def PY(P:Nat):Nat->List (List Nat)->Nat->Option (List (List Nat))
 |0,_,_=>none
 |f+1,rows,k=>if k<rows.length then(if rows.length≤100/\(rowAt rows k).length≤100 then PY P f (Z4 P rows k) (k+1)else none)else some rows
noncomputable def bS(P:Nat)(is:List Nat):Bool:=decide is.Nodup && is.all (fun i=>decide (i<P)) && decide (is.length≤4)
theorem YV{P:Nat}(h1:1≤P)(h4:P≤4):∃R,PY P 70 [[]] 0=some R/\R.all (bS P)=true:=by
 have go:∀Q:Nat,(match PY Q 70 [[]] 0 with|some R=>R.all (bS Q)|none=>false)=true->∃R,PY Q 70 [[]] 0=some R/\R.all (bS Q)=true:=fun Q z=>by
  cases e:PY Q 70 [[]] 0 with
  |none=>rw[e]at z;cases z
  |some R=>rw[e]at z;exact⟨R,rfl,z⟩
 have:P=1∨P=2∨P=3∨P=4:=by omega
 rcases this with rfl|rfl|rfl|rfl
 ·exact go 1 (by decide+kernel)
 ·exact go 2 (by decide+kernel)
 ·exact go 3 (by decide+kernel)
 ·exact go 4 (by decide+kernel)
noncomputable def oD(is:List Nat):D:=.tup (Fj is)
@[simp] theorem cM{b:Bool}{w:Wv}{r:List D}:wIn b w (.val (.tup r))=if(Gv (fz w) && r.all Gv)=true then some (.val (.bl (if b then !inD (fz w) r else inD (fz w) r)))else none:=nr rfl
theorem YI{is:List Nat}{i:Nat}:inD (.int i) (Fj is)=is.contains i:=by
 have e:Fj is=(is.map fun j:Nat=>(j:Int)).map D.int:=by unfold Fj;rw[List.map_map];rfl
 rw[e,Nh,List.any_map,List.contains_eq_any_beq,Bool.eq_iff_iff,List.any_eq_true,List.any_eq_true]
 constructor
 ·rintro ⟨x,hx,z⟩
  exact⟨x,hx,by simp at z ⊢; omega⟩
 ·rintro ⟨x,hx,z⟩
  exact⟨x,hx,by simp at z ⊢; omega⟩
theorem Ug{is:List Nat}:(Fj is).all Gv=true:=by
 unfold Fj
 rw[List.all_map,List.all_eq_true]
 intro x _;rfl
section
variable{S:Sto}{t:Tr}{ls:List Ld}{ds:List Af}{st:Stt}
def Zj:Ex:=(Ae (BW 1 (eOp (o2 C9) [(eV 1),(B4 [1,2] 1 (KR [(eV 0)]) (tNm 2) (eOp (o2 (wIn true)) [(eV 2),(eOp (o2 wIx) [(eV 0),(eV 1)])]) (eOp (o2 C9) [(eOp (o2 wIx) [(eV 0),(eV 1)]),(CI [(eV 2)])]))]))
  (BW 2 (eOp (o2 C9) [(eV 2),(eC (.int 1))])))
theorem XX{P k:Nat}{rows:List (List Nat)}(hP:P≤4)(hk:k<rows.length)(hr:rows.length≤100)(hl:(rowAt rows k).length≤100):Zj [some (.int P),some (.lst (rows.map oD)),some (.int k)] S=some (.nx,[some (.int P),some (.lst ((Z4 P rows k).map oD)),some (.int ((k+1:Nat):Int))],S):=by
 have at1:atI (rows.map oD) (k:Int)=some (.tup (Fj (rowAt rows k))):=C8 (by
  rw[List.getElem?_map,List.getElem?_eq_getElem hk]
  show some (oD rows[k])=some (oD (rowAt rows k))
  unfold rowAt
  rw[List.getD_eq_getElem?_getD,List.getElem?_eq_getElem hk]
  rfl)
 have c:=D2 (gs:=[]) (t:=tNm 2) (c:=eOp (o2 (wIn true)) [(eV 2),(eOp (o2 wIx) [(eV 0),(eV 1)])]) (f:=eOp (o2 C9) [(eOp (o2 wIx) [(eV 0),(eV 1)]),(CI [(eV 2)])]) (C:=[some (.lst (rows.map oD)),some (.int k)]) (m:=1) (e:=fun i:Nat=>D.int i) (g:=fun i=>oD (rowAt rows k++[i])) (b:=fun i=> !(rowAt rows k).contains i) (S:=S) Ad (xs:=List.range P) (acc:=[]) (os:=[none]) rfl (Nat.le_trans (show _≤50 by simp;omega) (AV (by decide))) (by
  intro i hi os ho
  obtain⟨x1,rfl⟩:∃x1,os=[x1]:=by
   match os,ho with
   | [a],_=>exact⟨a,rfl⟩
  have fo:=Ug (is:=rowAt rows k)
  have io:=YI (is:=rowAt rows k) (i:=i)
  have eo:oD (rowAt rows k++[i])=.tup (Fj (rowAt rows k)++[.int i]):=by unfold oD Fj;rw[List.map_append];rfl
  have sz:(Fj (rowAt rows k)).length+1≤sizeLine:=Nat.le_trans (show _≤101 by unfold Fj;rw[List.length_map];omega) (AV (by decide))
  refine⟨[some (.int i)],rfl,by simp,?_,?_⟩
  ·generalize (rowAt rows k).contains i=bb at*
   generalize Fj (rowAt rows k)=RR at*
   generalize rows.map oD=RO at*
   simp[at1,fo,io]
  ·show _=some (oD (rowAt rows k++[i]),S)
   rw[eo]
   generalize Fj (rowAt rows k)=RR at*
   generalize rows.map oD=RO at*
   simp[at1,sz])
 have er:JJ 0 (P:Int).toNat=(List.range P).map fun(i:Nat)=>D.int i:=PM
 rw[←er]at c
 have rk:Hj (P:Int)=true:=DF (by omega) (by omega)
 have fl:((List.range P).filter fun i=> !(rowAt rows k).contains i).length≤4:=Nat.le_trans (List.length_filter_le _ _) (by simpa using hP)
 have sz:(rows.map oD).length+(((List.range P).filter fun i=> !(rowAt rows k).contains i).map fun i=>oD (rowAt rows k++[i])).length≤sizeLine:=Nat.le_trans (show _≤104 by rw[List.length_map,List.length_map];omega) (AV (by decide))
 have eS:(Z4 P rows k).map oD=rows.map oD++((List.range P).filter fun i=> !(rowAt rows k).contains i).map fun i=>oD (rowAt rows k++[i]):=by
  unfold Z4
  rw[List.map_append,List.map_map]
  rfl
 rw[eS]
 simp only[List.nil_append,List.cons_append]at c
 rw[Int.toNat_natCast]at c
 generalize (((List.range P).filter fun i=> !(rowAt rows k).contains i).map fun i=>oD (rowAt rows k++[i]))=NR at*
 generalize rows.map oD=RO at*
 simp[Zj,rk,Qg,c,sz]
theorem P2{P:Nat}(hP:P≤4):∀{f:Nat} {rows:List (List Nat)} {k:Nat} {R:List (List Nat)},PY P f rows k=some R->∃o,Fp (eOp (o2 wLt) [(eV 2),(eOp (o1 Hh) [(eV 1)])]) Zj f [some (.int P),some (.lst (rows.map oD)),some (.int k)] S=some (.nx,[some (.int P),some (.lst (R.map oD)),o],S)
  |0,rows,k,R,e=>by cases e
  | f + 1, rows, k, R, e => by
    unfold PY at e
    by_cases hk:k<rows.length
    · rw [if_pos hk] at e
      split at e
      · rename_i hb
        obtain⟨o,ih⟩:=P2 hP e
        refine⟨o,?_⟩
        have h1:(k:Int)<(rows.length:Int):=by omega
        rw[NX (S1:=S) (E2:=[some (.int P),some (.lst ((Z4 P rows k).map oD)),some (.int ((k+1:Nat):Int))]) (S2:=S) (by simp[hk]) (XX hP hk hb.1 hb.2)]
        exact ih
      ·cases e
    · rw [if_neg hk] at e
      cases e
      refine⟨some (.int k),?_⟩
      have h1:¬(k:Int)<(rows.length:Int):=by omega
      rw[NG (S1:=S) (by simp[hk])]
theorem TF(ht:JK t):∃R:List (List Nat),EW [.int t.p] S=some (.lst (R.map oD),S)/\∀is∈R,SI t is:=by
 obtain⟨R,e,ha⟩:=YV ht.1 ht.2.1
 obtain⟨o,w⟩:=P2 (S:=S) ht.2.1 e
 refine⟨R,?_,fun is hi=>?_⟩
 ·have eb:Jm=(Ae (BW 1 (JI [(CI [])]))
  (Ae (BW 2 (eC (.int 0)))
  (Ae (KD (VV 70) (eOp (o2 wLt) [(eV 2),(eOp (o1 Hh) [(eV 1)])]) Zj)
  (Bf (eV 1))))):=rfl
  have xw:∀(f:En->Nat) (c:Ev) (b:Ex) (E:En) (T:Sto),KD f c b E T=Fp c b (f E) E T:=fun _ _ _ _ _=>rfl
  have fn:∀E,VV 70 E=70:=fun _=>rfl
  have e0:([[]]:List (List Nat)).map oD=[.tup []]:=rfl
  rw[e0]at w
  unfold EW
  rw[eb]
  generalize R.map oD=RO at*
  generalize hWD:Fp (eOp (o2 wLt) [(eV 2),(eOp (o1 Hh) [(eV 1)])]) Zj=WD at*
  have w':WD 70 [some (.int t.p),some (.lst [.tup []]),some (.int 0)] S=some (.nx,[some (.int t.p),some (.lst RO),o],S):=w
  simp[xw,fn,hWD,w']
 ·have:=List.all_eq_true.mp ha is hi
  unfold bS at this
  rw[Bool.and_eq_true,Bool.and_eq_true]at this
  exact⟨of_decide_eq_true this.1.1,fun i hi=>of_decide_eq_true (List.all_eq_true.mp this.1.2 i hi),of_decide_eq_true this.2⟩
theorem Ki{α β γ:Type}{f:β->Option γ}{e:α->β}{g:α->γ}:∀{xs:List α},(∀x∈xs,f (e x)=some (g x))->OO f (xs.map e)=some (xs.map g)
  | [],_=>rfl
  | x :: xs, h => by
    show(f (e x)).bind (fun b=>(OO f (xs.map e)).map fun bs=>b::bs)=_
    rw[h x List.mem_cons_self,Ki fun y hy=>h y (List.mem_cons_of_mem _ hy)]
    rfl
theorem Zn{p i n:Nat}:Ce S (n+2) (Mr t st p i)=some (Mr t st p i):=rfl
theorem RA{p n:Nat}:OO (Ce S (n+2)) (BV t st p)=some (BV t st p):=Ki fun i _=>Zn
theorem W2{p n:Nat}:Ce S (n+3) (.lst (BV t st p))=some (.lst (BV t st p)):=by
 show(OO (Ce S (n+2)) (BV t st p)).map D.lst=_
 rw[RA];rfl
theorem W3{p n r:Nat}(h:S[r]?=some (.lst (BV t st p))):Ce S (n+3) (.ref r)=some (.lst (BV t st p)):=by
 show(DN S r).bind (fun ds=>(OO (Ce S (n+2)) ds).map D.lst)=_
 rw[AQ h,Bp,RA];rfl
theorem Zw{n m:Nat}{v:Nat->Int}:Ce S (n+2) (.tup (fnL m v))=some (.tup (fnL m v)):=by
 show(OO (Ce S (n+1)) (fnL m v)).map D.tup=_
 have:OO (Ce S (n+1)) (fnL m v)=some (fnL m v):=Ki fun i _=>rfl
 rw[this];rfl
theorem P4{p:Nat}:(D.lst (BV t st p)).lay=true:=IX fun _ _=>rfl
theorem WH{p:Nat}:(D.lst (BV t st p)).py.depth≤3:=Y4 (n:=2) fun d hd=>by
 obtain⟨i,_,rfl⟩:=List.mem_map.mp hd
 exact Xd (n:=1) fun e he=>by
  simp only[List.mem_cons,List.not_mem_nil,or_false]at he
  rcases he with rfl|rfl
  ·exact Xp
  ·exact Xp
def rsD(t:Tr)(st:Stt)(is:List Nat):D:=.lst (is.map fun p=>.lst (BV t st p))
theorem Wl{is:List Nat}:(rsD t st is).lay=true:=IX fun _ _=>P4
theorem fW{is:List Nat}:(rsD t st is).py.depth≤4:=Y4 (n:=3) fun d hd=>by
 obtain⟨i,_,rfl⟩:=List.mem_map.mp hd
 exact WH
theorem Y7{is:List Nat}{n:Nat}:Ce S (n+4) (rsD t st is)=some (rsD t st is):=by
 show(OO (Ce S (n+3)) (is.map fun p=>.lst (BV t st p))).map D.lst=_
 have:OO (Ce S (n+3)) (is.map fun p=>D.lst (BV t st p))=some (is.map fun p=>D.lst (BV t st p)):=Ki fun p _=>W2
 rw[this];rfl
theorem RG{ps:List (Nat×Nat)}{n:Nat}(h:∀z∈ps,S[z.2]?=some (.lst (BV t st z.1))):OO (Ce S (n+3)) (ps.map fun z=>D.ref z.2)=some ((ps.map (·.1)).map fun p=>D.lst (BV t st p)):=by
 rw[List.map_map]
 exact Ki fun z hz=>W3 (h z hz)
def WA(t:Tr)(st:Stt)(is:List Nat):D:=.tup [rsD t st is,.tup (Mt t st is)]
theorem YA{is:List Nat}:(WA t st is).lay=true:=by
 show(D.lay _ && (D.lay _ && true))=true
 rw[Wl,Bool.true_and,Bool.and_true]
 exact IX fun _ _=>rfl
theorem dF{is:List Nat}:(WA t st is).py.depth≤5:=Xd (n:=4) fun d hd=>by
 simp only[List.mem_cons,List.not_mem_nil,or_false]at hd
 rcases hd with rfl|rfl
 ·exact fW
 ·exact Nat.le_trans (Xd (n:=1) fun e he=>by
   obtain⟨i,_,rfl⟩:=List.mem_map.mp he
   exact Xp) (by decide)
theorem Yx{is:List Nat}{ps:List (Nat×Nat)}{q:Nat}(hq:S[q]?=some (.lst (ps.map fun z=>D.ref z.2)))(h1:ps.map (·.1)=is)(h:∀z∈ps,S[z.2]?=some (.lst (BV t st z.1))):Ce S 8 (.tup [.ref q,.tup (Mt t st is)])=some (WA t st is):=by
 have a:Ce S 7 (.ref q)=some (rsD t st is):=by
  show(DN S q).bind (fun ds=>(OO (Ce S 6) ds).map D.lst)=_
  rw[AQ hq,Bp,RG h,h1];rfl
 have b:Ce S 7 (.tup (Mt t st is))=some (.tup (Mt t st is)):=Zw
 show((Ce S 7 (.ref q)).bind fun x=>((Ce S 7 (.tup (Mt t st is))).bind fun y=>(some []).map fun bs=>y::bs).map fun bs=>x::bs).map D.tup=_
 rw[a,b];rfl
theorem XG{is:List Nat}:Ce S 8 (WA t st is)=some (WA t st is):=by
 have a:Ce S 7 (rsD t st is)=some (rsD t st is):=Y7
 have b:Ce S 7 (.tup (Mt t st is))=some (.tup (Mt t st is)):=Zw
 show((Ce S 7 (rsD t st is)).bind fun x=>((Ce S 7 (.tup (Mt t st is))).bind fun y=>(some []).map fun bs=>y::bs).map fun bs=>x::bs).map D.tup=_
 rw[a,b];rfl
theorem N3{fa fb:Ev}{E:En}{S1 S2:Sto}{x y z:D}(e1:fa E S=some (x,S1))(e2:fb E S1=some (y,S2))(d1:Ce S2 8 x=some z)(d2:Ce S2 8 y=some z)(hl:z.lay=true)(hd:z.py.depth≤60):eDp true fa fb E S=some (.bl false,S2):=by
 unfold eDp
 rw[e1,Bp]
 show(fb E S1).bind _=_
 rw[e2,Bp]
 show(Ce S2 8 x).bind (fun a=>(Ce S2 8 y).bind fun b=>if Dj a b=true then some (D.bl (xor true (deq a b)),S2)else none)=_
 rw[d1,Bp,d2,Bp,if_pos (SA hl hd),V6 hl]
 rfl
end
theorem Bz.late{S T T':Sto}{q:Nat}(h:Bz [] S T)(g:Bz [q] T T')(hq:S.length≤q):Bz [] S T':=Bz.new (A:=[]) (B:=[q]) h g (by simpa using hq)
section
variable{S:Sto}{t:Tr}{ls:List Ld}{ds:List Af}{st:Stt}
theorem Yo(h:Co t ls ds)(hh:HOk t)(hst:runs t (st0 t ls) ds=st)(hm:∀x∈st.loads,NA t st x):∃S',Bx [] (tNm 1) BU (AK DO [(eV 0),(eV 1)]) (JJ 0 t.p) [] [some (Aw t ls ds),none] S=some (allR t st,S')/\Bz [] S S':=by
 have tp:=h.tr.2.1
 obtain⟨S2,e2,s2⟩:=LX (gs:=[]) (t:=tNm 1) (f:=AK DO [(eV 0),(eV 1)]) (C:=[some (Aw t ls ds)]) (m:=1) (e:=fun j:Nat=>D.int j) (g:=fun p=>D.lst (BV t st p)) (fun _=>Ad) (xs:=List.range t.p) (acc:=[]) (os:=[none]) (S:=S) rfl (Nat.le_trans (show _≤50 by simp;omega) (AV (by decide))) (by
  intro j hj os T ho
  obtain⟨x1,rfl⟩:∃x1,os=[x1]:=by
   match os,ho with
   | [a],_=>exact⟨a,rfl⟩
  obtain⟨T1,g1,g2⟩:=Ow (S:=T) h hh hst hm (List.mem_range.mp hj)
  refine⟨[some (.int j)],T1,rfl,by simp,?_,g2⟩
  change _=some (D.lst (BV t st j),T1)at g1
  generalize BV t st j=RW at*
  generalize Aw t ls ds=bk at*
  simp[g1])
 have er:JJ 0 (t.p:Int).toNat=(List.range t.p).map fun(i:Nat)=>D.int i:=PM
 rw[←er,Int.toNat_natCast]at e2
 exact⟨S2,e2,s2⟩
theorem Wj(h:Co t ls ds)(hh:HOk t)(hst:runs t (st0 t ls) ds=st)(hm:∀x∈st.loads,NA t st x):∀{is:List Nat} {acc:List D} {o:Option D} {S:Sto},(∀i∈is,i<t.p)->acc.length+is.length≤100->
    ∃(ps:List (Nat×Nat)) (S':Sto),Bx [] (tNm 1) BU (AK BM [(eV 0),(eV 1)]) (Fj is) acc [some (Aw t ls ds),o] S=some (acc++ps.map fun z=>D.ref z.2,S')/\ps.map (·.1)=is/\(∀z∈ps,S'[z.2]?=some (.lst (BV t st z.1)))/\Bz [] S S'
  | [],acc,o,S,hi,hz=>⟨[],S,by
      show Bx _ _ _ _ [] _ _ _=_
      rw[D4 Ad];simp,rfl,fun z hz=>(nomatch hz),.refl⟩
  | i :: is, acc, o, S, hi, hz => by
    obtain⟨q,S1,e1,c1,s1,l1⟩:=LY (S:=S) h hh hst hm (hi i List.mem_cons_self)
    obtain⟨ps,S',e,h1,h2,h3⟩:=Wj h hh hst hm (is:=is) (acc:=acc++[D.ref q]) (o:=some (.int i)) (S:=S1) (fun j hj=>hi j (List.mem_cons_of_mem _ hj)) (by simp at hz ⊢; omega)
    have hsz:acc.length<sizeLine:=Nat.lt_of_lt_of_le (show acc.length<101 by simp at hz;omega) (AV (by decide))
    refine⟨(i,q)::ps,S',?_,by rw[List.map_cons,h1],?_,s1.trans h3⟩
    · show Bx [] (tNm 1) BU (AK BM [(eV 0), (eV 1)]) (D.int i :: Fj is) acc [some (Aw t ls ds), o] S = _
      rw[GW Ad hsz (E1:=[some (Aw t ls ds),some (.int i)]) (S1:=S) (by simp) (by simp)]
      have ev:(AK BM [(eV 0),(eV 1)]) [some (Aw t ls ds),some (.int i)] S=some (.ref q,S1):=by
        generalize Aw t ls ds=bk at*
        simp[e1]
      rw[ev,Bp,e]
      simp
    · intro z hz'
      rcases List.mem_cons.mp hz' with rfl|hz'
      ·exact h3.get c1 (by simp)
      ·exact h2 z hz'
def bI:Ex:=(Ae (BW 8 (AK BM [(eV 3),(eV 6)]))
  (Ae (xIf (eDp true (eV 8) (eV 7)) (Bf (eC (.bl false))) Es)
  (B9 (Hz II (eV 8) [(CI [])]))))
theorem YO{p:Nat}{a0 a1 a2 a4 a5 o8 a9 a10:Option D}(h:Co t ls ds)(hh:HOk t)(hst:runs t (st0 t ls) ds=st)(hm:∀x∈st.loads,NA t st x)(hp:p<t.p):∃u8 S',bI [a0,a1,a2,some (Aw t ls ds),a4,a5,some (.int p),some (.lst (BV t st p)),o8,a9,a10] S=some (.nx,[a0,a1,a2,some (Aw t ls ds),a4,a5,some (.int p),some (.lst (BV t st p)),u8,a9,a10],S')/\Bz [] S S':=by
 obtain⟨q,S1,e1,c1,s1,l1⟩:=LY (S:=S) h hh hst hm hp
 have hlen:=h.fin.len
 rw[hst]at hlen
 have hz:(BV t st p).length<sizeLine:=Nat.lt_of_lt_of_le (show _<50 by
  unfold BV Jc
  rw[List.length_map]
  exact Nat.lt_of_le_of_lt (List.length_filter_le _ _) (by simp;omega)) (AV (by decide))
 have lk:eDp true (eV 8) (eV 7) [a0,a1,a2,some (Aw t ls ds),a4,a5,some (.int p),some (.lst (BV t st p)),some (.ref q),a9,a10] S1=some (.bl false,S1):=N3 (S1:=S1) (S2:=S1) (x:=.ref q) (y:=.lst (BV t st p)) (z:=.lst (BV t st p)) (by simp) (by simp) (W3 c1) W2 P4 (Nat.le_trans WH (by decide))
 refine⟨some (.ref q),S1.set q (.lst (BV t st p++[.tup []])),?_,s1.late (.set (by simp)) l1⟩
 generalize BV t st p=RW at*
 generalize Aw t ls ds=bk at*
 simp[bI,e1,lk,AQ c1,hz]
def bc:Ex:=(Ae (BW 10 (AK EB [(eV 3),(eV 9)]))
  (Ae (xIf (eDp true (eV 10) (CI [(B4 [4] 1 (FE (eV 9)) (tNm 1) BU (eOp (o2 wIx) [(eV 0),(eV 1)])),(AK Ba [(eV 5),(eV 4),(eV 9)])])) (Bf (eC (.bl false))) Es)
  (B9 (Hz II (eOp (o2 wIx) [(eV 10),(eC (.int 0))]) [(JI [])]))))
abbrev O5(st:Stt):List D:=fnL st.loads.length fun j=>(AS st.loads j).n
theorem W9{is:List Nat}{a0 a1 a2 a6 a7 a8 o10:Option D}(h:Co t ls ds)(hh:HOk t)(hst:runs t (st0 t ls) ds=st)(hm:∀x∈st.loads,NA t st x)(ho:SI t is):∃u10 S',bc [a0,a1,a2,some (Aw t ls ds),some (.lst (allR t st)),some (.lst (O5 st)),a6,a7,a8,some (oD is),o10] S=some (.nx,[a0,a1,a2,some (Aw t ls ds),some (.lst (allR t st)),some (.lst (O5 st)),a6,a7,a8,some (oD is),u10],S')/\Bz [] S S':=by
 obtain⟨qt,ps,S1,e1,c1,p1,p2,s1,l1⟩:=Qy (S:=S) h hh hst hm ho
 obtain⟨S2,e2,s2⟩:=Qq (S:=S1) hm ho.lt
 have hl:=ho.len
 have c:=CZ (gs:=[]) (t:=tNm 1) (f:=eOp (o2 wIx) [(eV 0),(eV 1)]) (C:=[some (.lst (allR t st))]) (m:=1) (e:=fun i:Nat=>D.int i) (g:=fun p=>D.lst (BV t st p)) (S:=S1) Ad (xs:=is) (acc:=[]) (os:=[none]) rfl (Nat.le_trans (show _≤50 by simp;omega) (AV (by decide))) (by
  intro i hi os ho'
  obtain⟨x1,rfl⟩:∃x1,os=[x1]:=by
   match os,ho' with
   | [a],_=>exact⟨a,rfl⟩
  have ar:=Rx (st:=st) (ho.lt i hi)
  refine⟨[some (.int i)],rfl,by simp,?_⟩
  generalize allR t st=AR at*
  generalize BV t st i=RW at*
  simp[ar])
 have c2:=s2.get c1 (by simp)
 have p2':∀z∈ps,S2[z.2]?=some (.lst (BV t st z.1)):=fun z hz=>s2.get (p2 z hz) (by simp)
 have hR:(CI [(B4 [4] 1 (FE (eV 9)) (tNm 1) BU (eOp (o2 wIx) [(eV 0),(eV 1)])),(AK Ba [(eV 5),(eV 4),(eV 9)])]) [a0,a1,a2,some (Aw t ls ds),some (.lst (allR t st)),some (.lst (O5 st)),a6,a7,a8,some (oD is),some (.tup [.ref qt,.tup (Mt t st is)])] S1=some (WA t st is,S2):=by
  have so:sqD S1 (oD is)=some (Fj is,[]):=nr rfl
  simp only[List.nil_append,List.cons_append]at c
  change Bx [] (tNm 1) BU _ (Fj is) _ _ _=_ at c
  change Ba [_,_,oD is] S1=_ at e2
  unfold WA rsD
  generalize is.map (fun p=>D.lst (BV t st p))=RS at*
  generalize allR t st=AR at*
  generalize Mt t st is=LV at*
  generalize oD is=OD at*
  generalize Fj is=OL at*
  generalize hPC:O5 st=PC at*
  change Ba [.lst (O5 st),_,_] S1=_ at e2
  rw[hPC]at e2
  simp[so,Qg,c,e2]
 have lk:eDp true (eV 10) (CI [(B4 [4] 1 (FE (eV 9)) (tNm 1) BU (eOp (o2 wIx) [(eV 0),(eV 1)])),(AK Ba [(eV 5),(eV 4),(eV 9)])]) [a0,a1,a2,some (Aw t ls ds),some (.lst (allR t st)),some (.lst (O5 st)),a6,a7,a8,some (oD is),some (.tup [.ref qt,.tup (Mt t st is)])] S1=some (.bl false,S2):=N3 (S1:=S1) (S2:=S2) (x:=.tup [.ref qt,.tup (Mt t st is)]) (y:=WA t st is) (z:=WA t st is) (by simp) hR (Yx c2 p1 p2') XG YA (Nat.le_trans dF (by decide))
 have hz:(ps.map fun z=>D.ref z.2).length<sizeLine:=Nat.lt_of_lt_of_le (show _<50 by
  have:ps.length=is.length:=by rw[←p1,List.length_map]
  rw[List.length_map];omega) (AV (by decide))
 refine⟨some (.tup [.ref qt,.tup (Mt t st is)]),S2.set qt (.lst ((ps.map fun z=>D.ref z.2)++[.lst []])),?_,(s1.trans s2).late (.set (by simp)) l1⟩
 change EB [_,oD is] S=_ at e1
 generalize (ps.map fun z=>D.ref z.2)=RF at*
 generalize Mt t st is=LV at*
 generalize oD is=OD at*
 generalize Aw t ls ds=bk at*
 generalize hDP:eDp true (eV 10) (CI [(B4 [4] 1 (FE (eV 9)) (tNm 1) BU (eOp (o2 wIx) [(eV 0),(eV 1)])),(AK Ba [(eV 5),(eV 4),(eV 9)])])=DP at*
 simp[bc,e1,hDP,lk,AQ c2,hz]
def Xu:Ex:=(Ae (BW 4 (B4 [3] 1 (KR [(eOp (o2 wIx) [(eOp (o2 wIx) [(eV 3),(eC (.int 0))]),(eC (.int 0))])]) (tNm 1) BU (AK DO [(eV 0),(eV 1)])))
  (Ae (BW 5 (B4 [] 1 (FE (eOp (o2 wIx) [(eOp (o2 wIx) [(AK Cv [(eV 3)]),(eOp (o1 RV) [(eC (.int 1))])]),(eC (.int 0))])) (tNm 0) BU (eOp (o2 wIx) [(eV 0),(eC (.int 1))])))
  (Ae (IC (VN (eV 4)) (tTp [(tNm 6),(tNm 7)]) bI)
  (Ae (IC (FE (AK EW [(eOp (o2 wIx) [(eOp (o2 wIx) [(eV 3),(eC (.int 0))]),(eC (.int 0))])])) (tNm 9) bc)
  (xIf (eDp true (B4 [3] 1 (KR [(eOp (o2 wIx) [(eOp (o2 wIx) [(eV 3),(eC (.int 0))]),(eC (.int 0))])]) (tNm 1) BU (AK BM [(eV 0),(eV 1)])) (eV 4)) (Bf (eC (.bl false))) Es)))))
theorem QQ{a0 a1 a2 o4 o5 o6 o7 o8 o9 o10:Option D}(h:Co t ls ds)(hh:HOk t):∃u4 u5 u6 u7 u8 u9 u10 S',Xu [a0,a1,a2,some (Aw t ls ds),o4,o5,o6,o7,o8,o9,o10] S=some (.nx,[a0,a1,a2,some (Aw t ls ds),u4,u5,u6,u7,u8,u9,u10],S')/\Bz [] S S':=by
 obtain⟨st,hst⟩:∃st,runs t (st0 t ls) ds=st:=⟨_,rfl⟩
 have hm:=XO h hh
 rw[hst]at hm
 have hlen:=h.fin.len
 rw[hst]at hlen
 have tp:=h.tr.2.1
 obtain⟨S1,e1,s1⟩:=Yo (S:=S) h hh hst hm
 obtain⟨qs,S2,L,e2,hqs,hL,s2⟩:=MV (S:=S1) h
 rw[hst]at hL
 have k0:=CZ (gs:=[]) (t:=tNm 0) (f:=eOp (o2 wIx) [(eV 0),(eC (.int 1))]) (C:=[]) (m:=1) (e:=Ld.d) (g:=fun x=>D.int x.n) (S:=S2) Ad (xs:=st.loads) (acc:=[]) (os:=[none]) rfl (Nat.le_trans (show _≤50 by simp;omega) (AV (by decide))) (by
  intro x hx os ho
  obtain⟨x1,rfl⟩:∃x1,os=[x1]:=by
   match os,ho with
   | [a],_=>exact⟨a,rfl⟩
  exact⟨[some x.d],rfl,by simp,by simp[Ld.d]⟩)
 rw[←Pl (fun x=>D.int x.n)]at k0
 change _=some (O5 st,S2)at k0
 simp only[List.nil_append]at k0
 have ee:Md 0 (allR t st)=(List.range t.p).map fun(p:Nat)=>D.tup [.int p,.lst (BV t st p)]:=by
  rw[IU]
  unfold allR
  rw[List.length_map,List.length_range]
  apply List.map_congr_left
  intro i hi
  rw[List.getD_eq_getElem?_getD,List.getElem?_map,List.getElem?_range (List.mem_range.mp hi)]
  rfl
 obtain⟨E3,S3,e3,u6,u7,u8,_,rfl,s3⟩:=EL (gs:=[]) (t:=tTp [(tNm 6),(tNm 7)]) (b:=bI)
  (I:=fun rs E S'=>∃(u6 u7 u8:Option D),(∀d∈rs,∃p:Nat,d=.tup [.int p,.lst (BV t st p)]/\p<t.p)/\E=[a0,a1,a2,some (Aw t ls ds),some (.lst (allR t st)),some (.lst (O5 st)),u6,u7,u8,o9,o10]/\Bz [] S2 S')
  (fun _ _ _ _=>Ad) (ds:=Md 0 (allR t st)) (E:=[a0,a1,a2,some (Aw t ls ds),some (.lst (allR t st)),some (.lst (O5 st)),o6,o7,o8,o9,o10]) (S:=S2)
  ⟨o6,o7,o8,by
   intro d hd
   rw[ee]at hd
   obtain⟨j,hj,rfl⟩:=List.mem_map.mp hd
   exact⟨j,rfl,List.mem_range.mp hj⟩,rfl,.refl⟩ (by
   rintro dd rs E T ⟨u6,u7,u8,i0,rfl,i1⟩
   obtain⟨p,rfl,hp⟩:=i0 dd List.mem_cons_self
   obtain⟨v8,T2,e,g2⟩:=YO (S:=T) (a0:=a0) (a1:=a1) (a2:=a2) (a4:=some (.lst (allR t st))) (a5:=some (.lst (O5 st))) (o8:=u8) (a9:=o9) (a10:=o10) h hh hst hm hp
   exact⟨_,_,T2,by simp,e,some (.int p),some (.lst (BV t st p)),v8,fun d hd=>i0 d (List.mem_cons_of_mem _ hd),rfl,i1.trans g2⟩)
 obtain⟨R,eo,ro⟩:=TF (S:=S3) (t:=t) h.tr
 obtain⟨E4,S4,e4,u9,u10,_,rfl,s4⟩:=EL (gs:=[]) (t:=tNm 9) (b:=bc)
  (I:=fun rs E S'=>∃(u9 u10:Option D),(∀d∈rs,∃is,d=oD is/\SI t is)/\E=[a0,a1,a2,some (Aw t ls ds),some (.lst (allR t st)),some (.lst (O5 st)),u6,u7,u8,u9,u10]/\Bz [] S3 S')
  (fun _ _ _ _=>Ad) (ds:=R.map oD) (E:=[a0,a1,a2,some (Aw t ls ds),some (.lst (allR t st)),some (.lst (O5 st)),u6,u7,u8,o9,o10]) (S:=S3)
  ⟨o9,o10,by
   intro d hd
   obtain⟨is,hi,rfl⟩:=List.mem_map.mp hd
   exact⟨is,rfl,ro is hi⟩,rfl,.refl⟩ (by
   rintro dd rs E T ⟨u9,u10,i0,rfl,i1⟩
   obtain⟨is,rfl,hi⟩:=i0 dd List.mem_cons_self
   obtain⟨v10,T2,e,g2⟩:=W9 (S:=T) (a0:=a0) (a1:=a1) (a2:=a2) (a6:=u6) (a7:=u7) (a8:=u8) (o10:=u10) h hh hst hm hi
   exact⟨_,_,T2,by simp,e,some (oD is),v10,fun d hd=>i0 d (List.mem_cons_of_mem _ hd),rfl,i1.trans g2⟩)
 obtain⟨ps,S5,e5,p1,p2,s5⟩:=Wj h hh hst hm (is:=List.range t.p) (acc:=[]) (o:=none) (S:=S4) (fun i hi=>List.mem_range.mp hi) (by simp;omega)
 have er:JJ 0 (t.p:Int).toNat=Fj (List.range t.p):=PM
 rw[Int.toNat_natCast]at er
 rw[←er]at e5
 simp only[List.nil_append]at e5
 have rk:Hj (t.p:Int)=true:=DF (by omega) (by omega)
 have as1:asS (.val t.d)=some [.int t.p,.int t.k,.int t.b,shD t.ho,.int t.h,.int t.l]:=rfl
 have dt:∀T,dr T t.d=.val t.d:=fun _=>rfl
 have hA:allR t st=(List.range t.p).map fun p=>D.lst (BV t st p):=rfl
 have hC:(B4 [3] 1 (KR [(eOp (o2 wIx) [(eOp (o2 wIx) [(eV 3),(eC (.int 0))]),(eC (.int 0))])]) (tNm 1) BU (AK BM [(eV 0),(eV 1)])) [a0,a1,a2,some (Aw t ls ds),some (.lst (allR t st)),some (.lst (O5 st)),u6,u7,u8,u9,u10] S4=some (.lst (ps.map fun z=>D.ref z.2),S5):=by
  generalize (ps.map fun z=>D.ref z.2)=RF at*
  simp only[Aw]at e5⊢
  simp[as1,dt,rk,Qg,e5]
 have dl:Ce S5 8 (.lst (ps.map fun z=>D.ref z.2))=some (rsD t st (List.range t.p)):=by
  show(OO (Ce S5 7) (ps.map fun z=>D.ref z.2)).map D.lst=_
  rw[RG p2,p1];rfl
 have lk:eDp true (B4 [3] 1 (KR [(eOp (o2 wIx) [(eOp (o2 wIx) [(eV 3),(eC (.int 0))]),(eC (.int 0))])]) (tNm 1) BU (AK BM [(eV 0),(eV 1)])) (eV 4) [a0,a1,a2,some (Aw t ls ds),some (.lst (allR t st)),some (.lst (O5 st)),u6,u7,u8,u9,u10] S4=some (.bl false,S5):=N3 (S1:=S5) (S2:=S5) (x:=.lst (ps.map fun z=>D.ref z.2)) (y:=rsD t st (List.range t.p)) (z:=rsD t st (List.range t.p)) hC (by simp[rsD,hA]) dl Y7 Wl (Nat.le_trans fW (by decide))
 refine⟨some (.lst (allR t st)),some (.lst (O5 st)),u6,u7,u8,u9,u10,S5,?_,(((s1.trans s2).trans s3).trans s4).trans s5⟩
 simp only[stD]at hL
 generalize hDP:eDp true (B4 [3] 1 (KR [(eOp (o2 wIx) [(eOp (o2 wIx) [(eV 3),(eC (.int 0))]),(eC (.int 0))])]) (tNm 1) BU (AK BM [(eV 0),(eV 1)])) (eV 4)=DP at*
 clear hC dl ee hA
 generalize allR t st=AR at*
 generalize hPC:O5 st=PC at*
 generalize st.loads.map Ld.d=LL at*
 generalize R.map oD=RO at*
 simp only[Aw]at e1 e2 e3 e4 lk⊢
 simp[Xu,as1,dt,rk,Qg,e1,e2,A1 hqs,hL,k0,e3,eo,e4,hDP,lk]
def Ph:Ex:=(Ae (BW 2 (AK HP [(AK C3 [(eV 0),(eV 1)])]))
  (IC (FE (CI [(AK E8 [(eV 2),(eC (.int 7))]),(AK GA [(eV 2),(eC (.int 8))])])) (tNm 3) Xu))
theorem V8{ns:List Int}{k:Nat}{o2 o3 o4 o5 o6 o7 o8 o9 o10:Option D}:∃u2 u3 u4 u5 u6 u7 u8 u9 u10 S',Ph [some (.scr ns),some (.int k),o2,o3,o4,o5,o6,o7,o8,o9,o10] S=some (.nx,[some (.scr ns),some (.int k),u2,u3,u4,u5,u6,u7,u8,u9,u10],S'):=by
 obtain⟨c,e0⟩:=XY (S:=S) (ns:=ns) (k:=k)
 obtain⟨p,S1,e1,hp,_,_⟩:=Zb (S:=S) c
 obtain⟨t,ls,ds,S2,e2,hb,hh,_,hp2⟩:=VQ (M:=7) (by decide) hp
 obtain⟨t',ls',ds',S3,e3,hb',hh',_,hp3⟩:=ZQ (M:=8) (by decide) hp2
 obtain⟨u4,u5,u6,u7,u8,u9,u10,S4,e4,_⟩:=QQ (S:=S3) (a0:=some (.scr ns)) (a1:=some (.int k)) (a2:=some (.ref p)) (o4:=o4) (o5:=o5) (o6:=o6) (o7:=o7) (o8:=o8) (o9:=o9) (o10:=o10) hb hh
 obtain⟨v4,v5,v6,v7,v8,v9,v10,S5,e5,_⟩:=QQ (S:=S4) (a0:=some (.scr ns)) (a1:=some (.int k)) (a2:=some (.ref p)) (o4:=u4) (o5:=u5) (o6:=u6) (o7:=u7) (o8:=u8) (o9:=u9) (o10:=u10) hb' hh'
 refine⟨some (.ref p),some (Aw t' ls' ds'),v4,v5,v6,v7,v8,v9,v10,S5,?_⟩
 have e2':E8 [.ref p,.int 7] S1=some (Aw t ls ds,S2):=e2
 have e3':GA [.ref p,.int 8] S2=some (Aw t' ls' ds',S3):=e3
 generalize Aw t ls ds=b1 at*
 generalize Aw t' ls' ds'=b2 at*
 simp[Ph,e0,e1,e2',e3',Dh,Fy,e4,e5]
theorem aB(ns:List Int)(h:ns.length≤63):∃S',Ny [.scr ns] S=some (.bl true,S'):=by
 obtain⟨n,hn,hn2⟩:∃n:Nat,(if(if(2:Int)<ns.length then(2:Int)else ns.length)>1 then(if(2:Int)<ns.length then(2:Int)else ns.length)else 1)=(n:Int)/\n≤3:=by
  refine⟨(if(if(2:Int)<ns.length then(2:Int)else ns.length)>1 then(if(2:Int)<ns.length then(2:Int)else ns.length)else 1).toNat,?_,?_⟩
  ·split<;>split<;>omega
  ·split<;>split<;>omega
 have rn:Hj (n:Int)=true:=DF (by omega) (by omega)
 obtain⟨E',S',ef,q1,q2,q3,q4,q5,q6,q7,q8,q9,q10,_,rfl⟩:=EL (gs:=[]) (t:=tNm 1) (b:=Ph)
  (I:=fun rs E S'=>∃(o1 o2 o3 o4 o5 o6 o7 o8 o9 o10:Option D),(∀d∈rs,∃k:Nat,d=.int k)/\E=[some (.scr ns),o1,o2,o3,o4,o5,o6,o7,o8,o9,o10])
  (fun _ _ _ _=>Ad) (ds:=JJ 0 n) (E:=[some (.scr ns),none,none,none,none,none,none,none,none,none,none]) (S:=S)
  ⟨none,none,none,none,none,none,none,none,none,none,by
   intro d hd
   obtain⟨k,_,rfl⟩:=List.mem_map.mp hd
   exact⟨k,by simp⟩,rfl⟩ (by
   rintro dd rs E T ⟨o1,o2,o3,o4,o5,o6,o7,o8,o9,o10,i1,rfl⟩
   obtain⟨k,rfl⟩:=i1 dd List.mem_cons_self
   obtain⟨u2,u3,u4,u5,u6,u7,u8,u9,u10,T2,e⟩:=V8 (S:=T) (ns:=ns) (k:=k) (o2:=o2) (o3:=o3) (o4:=o4) (o5:=o5) (o6:=o6) (o7:=o7) (o8:=o8) (o9:=o9) (o10:=o10)
   exact⟨_,_,T2,by simp,e,some (.int k),u2,u3,u4,u5,u6,u7,u8,u9,u10,fun d hd=>i1 d (List.mem_cons_of_mem _ hd),rfl⟩)
 refine⟨S',?_⟩
 have eb:Rz=Ae (IC (KR [(eOp (o2 bM) [(eC (.int 1)),(eOp (o2 Ye) [(eOp (o1 Hh) [(eV 0)]),(eC (.int 2))])])]) (tNm 1) Ph) (Bf (eC (.bl true))):=rfl
 unfold Ny
 rw[eb]
 simp[hn,rn,ef]
end
open PyProof.Rows (boot_isinstance boot_int boot_bool boot_tuple boot_str boot_list boot_abs boot_all boot_any boot_sum boot_max boot_min boot_range boot_enumerate boot_zip boot_sorted boot_set boot_divmod)
structure All(w:World)(K:PySem.W.Frag)(mg:Str->Option Value):Prop where
 bt:Bts mg
 c_ALL:Ss K mg "ALL" TM
 c_MAKERS:Ss K mg "MAKERS" DM
 c_NOTHING:Ss K mg "NOTHING" G4
 s_p_is_whole:St.Src K mg "is_whole" s_p_is_whole
 s_p_is_from:St.Src K mg "is_from" s_p_is_from
 s_p_is_within:St.Src K mg "is_within" s_p_is_within
 s_p_greatest_divisor:St.Src K mg "greatest_divisor" s_p_greatest_divisor
 s_p_lowest:St.Src K mg "lowest" s_p_lowest
 s_p_plus:St.Src K mg "plus" s_p_plus
 s_p_less:St.Src K mg "less" s_p_less
 s_p_times:St.Src K mg "times" s_p_times
 s_p_mixed:St.Src K mg "mixed" s_p_mixed
 s_p_is_partner:St.Src K mg "is_partner" s_p_is_partner
 s_p_has_pieces:St.Src K mg "has_pieces" s_p_has_pieces
 s_p_can_pool:St.Src K mg "can_pool" s_p_can_pool
 s_p_can_swap:St.Src K mg "can_swap" s_p_can_swap
 s_p_can_do:St.Src K mg "can_do" s_p_can_do
 s_p_held_without:St.Src K mg "held_without" s_p_held_without
 s_p_held_behind:St.Src K mg "held_behind" s_p_held_behind
 s_p_held_at_first:St.Src K mg "held_at_first" s_p_held_at_first
 s_p_held_by:St.Src K mg "held_by" s_p_held_by
 s_p_made_from:St.Src K mg "made_from" s_p_made_from
 s_p_first_wrong:St.Src K mg "first_wrong" s_p_first_wrong
 s_p_refuse_undone:St.Src K mg "refuse_undone" s_p_refuse_undone
 s_p_refuse_no_partner:St.Src K mg "refuse_no_partner" s_p_refuse_no_partner
 s_p_all_to_one:St.Src K mg "all_to_one" s_p_all_to_one
 s_p_mixed_shares:St.Src K mg "mixed_shares" s_p_mixed_shares
 s_p_made_shares:St.Src K mg "made_shares" s_p_made_shares
 s_p_worth_of_all:St.Src K mg "worth_of_all" s_p_worth_of_all
 s_p_part_thrown:St.Src K mg "part_thrown" s_p_part_thrown
 s_p_thrown_shares:St.Src K mg "thrown_shares" s_p_thrown_shares
 s_p_sold_shares:St.Src K mg "sold_shares" s_p_sold_shares
 s_p_shares_behind:St.Src K mg "shares_behind" s_p_shares_behind
 s_p_owners_behind:St.Src K mg "owners_behind" s_p_owners_behind
 s_p_state_by:St.Src K mg "state_by" s_p_state_by
 s_p_refuse_no_order:St.Src K mg "refuse_no_order" s_p_refuse_no_order
 s_p_all_dues:St.Src K mg "all_dues" s_p_all_dues
 s_p_whole_pieces:St.Src K mg "whole_pieces" s_p_whole_pieces
 s_p_taken_by:St.Src K mg "taken_by" s_p_taken_by
 s_p_settled:St.Src K mg "settled" s_p_settled
 s_p_takes_of:St.Src K mg "takes_of" s_p_takes_of
 s_law_pen:St.Src K mg "_law_pen" s_law_pen
 s_law_cell_at:St.Src K mg "_law_cell_at" s_law_cell_at
 s_law_draw:St.Src K mg "_law_draw" s_law_draw
 s_law_common:St.Src K mg "_law_common" s_law_common
 s_law_made:St.Src K mg "_law_made" s_law_made
 s_law_whole:St.Src K mg "_law_whole" s_law_whole
 s_law_train:St.Src K mg "_law_train" s_law_train
 s_law_pieces:St.Src K mg "_law_pieces" s_law_pieces
 s_law_first:St.Src K mg "_law_first" s_law_first
 s_law_begun:St.Src K mg "_law_begun" s_law_begun
 s_law_share:St.Src K mg "_law_share" s_law_share
 s_law_worths:St.Src K mg "_law_worths" s_law_worths
 s_law_deed:St.Src K mg "_law_deed" s_law_deed
 s_law_plus:St.Src K mg "_law_plus" s_law_plus
 s_law_times:St.Src K mg "_law_times" s_law_times
 s_law_pooled:St.Src K mg "_law_pooled" s_law_pooled
 s_law_cost:St.Src K mg "_law_cost" s_law_cost
 s_law_less:St.Src K mg "_law_less" s_law_less
 s_law_borne:St.Src K mg "_law_borne" s_law_borne
 s_law_sold:St.Src K mg "_law_sold" s_law_sold
 s_law_turn:St.Src K mg "_law_turn" s_law_turn
 s_law_do:St.Src K mg "_law_do" s_law_do
 s_law_book:St.Src K mg "_law_book" s_law_book
 s_law_few:St.Src K mg "_law_few" s_law_few
 s_law_states:St.Src K mg "_law_states" s_law_states
 s_law_dues:St.Src K mg "_law_dues" s_law_dues
 s_law_takes:St.Src K mg "_law_takes" s_law_takes
 s_law_orders:St.Src K mg "_law_orders" s_law_orders
 s_law_left_by:St.Src K mg "_law_left_by" s_law_left_by
 s_p_law:St.Src K mg "law" s_p_law
section
variable{P:Program}{w:World}{K:PySem.W.Frag}{mg:Str->Option Value}{base:Heap}
theorem VB{f:Addr}{fd:FuncData}(F:Fun K "law" "law" s_p_law f fd)(B:Bts mg)(FT:LP P w K mg base)(Dc:Ji P w K mg base)(HN:OK P w K mg base)(Dw:Ik P w K mg base)(GG:Mx P w K mg base)(HK:Oy P w K mg base)(CW:HS P w K mg base)(Fb:Ln P w K mg base)(EX:Jk P w K mg base)(Dv:Ic P w K mg base):Om P w K mg base CX0 11 f fd ["_law_script"] (spD K 1 Ny):=by
 refine Yq (k:=10) F D1 rfl fun cdv A outer s H E hr=>?_
 have hu:=AW hr
 exact(AF (C7 PassesOwn.never rfl (EK rfl B.range (AA (A6 (Rc rfl) rfl B.max boot_max (AA AE (AA (A6 (Oq rfl) rfl B.min boot_min (AA (A6 CP rfl B.len boot_len (AA (AB 0) AD)) (AA AE AD))) AD))) AD)) (Ab 1 D1.nd) (AF (Ah 2 (AH HN (hr.mono (by decide)) rfl (AA (AH Dw (hr.mono (by decide)) rfl (AA (AB 0) (AA (AB 1) AD))) AD)) D1.nd)
    (AJ (C7 PassesOwn.never rfl (Bq (A4 (AA (AH GG (hr.mono (by decide)) rfl (AA (AB 2) (AA AE AD))) (AA (AH HK (hr.mono (by decide)) rfl (AA (AB 2) (AA AE AD))) AD)))) (Ab 3 D1.nd) (AF (Ah 4 (CA [3] 1 ["_law_book_here","_law_partner"] rfl Q2 (EK rfl B.range (AA (AM AY (AM AY (AB 3) AE) AE) AD)) (fun s H fp=>⟨(Ab 1 Qf),Bm,(AH Fb (hr.mono (by decide)) rfl (AA (AB 0) (AA (AB 1) AD)))⟩)) D1.nd)
    (AF (CQ [] 1 ["_law_load"] rfl D1.nd rfl rfl QY (Bq (AM AY (AM AY (AH CW (hr.mono (by decide)) rfl (AA (AB 3) AD)) (PX IB AE)) AE)) (fun s H fp=>⟨(Ab 0 Qm),Bm,(AM AY (AB 0) AE)⟩))
    (AF (C7 PassesOwn.never rfl (OF rfl B.enumerate (AB 4)) (DV rfl (AO (Ab 6 D1.nd) (AO (Ab 7 D1.nd) BF))) (AF (Ah 8 (AH Dc (hr.mono (by decide)) rfl (AA (AB 3) (AA (AB 6) AD))) D1.nd)
    (AF (CT (TL hu (AB 8) (AB 7)) (AJ (AX RN)) A7)
    (AJ (Bt (FV PySem.F.slot_list_append PySem.F.type_list_append D5 (AB 8) (AA (A4 AD) AD)))))))
    (AF (C7 PassesOwn.never rfl (Bq (AH EX (hr.mono (by decide)) rfl (AA (AM AY (AM AY (AB 3) AE) AE) AD))) (Ab 9 D1.nd) (AF (Ah 10 (AH FT (hr.mono (by decide)) rfl (AA (AB 3) (AA (AB 9) AD))) D1.nd)
    (AF (CT (TL hu (AB 10) (A4 (AA (CA [4] 1 ["_law_takes_here","_law_partner"] rfl Qo (Bq (AB 9)) (fun s H fp=>⟨(Ab 1 Qn),Bm,(AM AY (AB 0) (AB 1))⟩)) (AA (AH Dv (hr.mono (by decide)) rfl (AA (AB 5) (AA (AB 4) (AA (AB 9) AD)))) AD)))) (AJ (AX RN)) A7)
    (AJ (Bt (FV PySem.F.slot_list_append PySem.F.type_list_append D5 (AM AY (AB 10) AE) (AA (Bh AD) AD)))))))
    (AJ (CT (TL hu (CA [3] 1 ["_law_book_here","_law_partner"] rfl Qb (EK rfl B.range (AA (AM AY (AM AY (AB 3) AE) AE) AD)) (fun s H fp=>⟨(Ab 1 Qj),Bm,(AH Dc (hr.mono (by decide)) rfl (AA (AB 0) (AA (AB 1) AD)))⟩)) (AB 4)) (AJ (AX RN)) A7))))))))))
    (AJ (AX RN)))
theorem ZZ{f:Addr}{fd:FuncData}(F:Fun K "law" "law" s_p_law f fd)(T:All w K mg):Om P w K mg base CX0 11 f fd ["_law_script"] (spD K 1 Ny):=by
 have B:=T.bt
 have c_ALL:=T.c_ALL
 have c_MAKERS:=T.c_MAKERS
 have c_NOTHING:=T.c_NOTHING
 have Eg:=Eg (P:=P) (w:=w) (base:=base) T.s_p_is_whole B
 have FO:=FO (P:=P) (w:=w) (base:=base) T.s_p_is_from Eg
 have D3:=D3 (P:=P) (w:=w) (base:=base) T.s_p_is_within FO
 have Bl:=Bl (P:=P) (w:=w) (base:=base) T.s_p_greatest_divisor B
 have BI:=BI (P:=P) (w:=w) (base:=base) T.s_p_lowest Bl
 have Ib:=Ib (P:=P) (w:=w) (base:=base) T.s_p_plus BI
 have JC:=JC (P:=P) (w:=w) (base:=base) T.s_p_less BI
 have Ea:=Ea (P:=P) (w:=w) (base:=base) T.s_p_times BI
 have HJ:=HJ (P:=P) (w:=w) (base:=base) T.s_p_mixed BI
 have Bo:=Bo (P:=P) (w:=w) (base:=base) T.s_p_is_partner D3
 have BA:=BA (P:=P) (w:=w) (base:=base) T.s_p_has_pieces B
 have EZ:=EZ (P:=P) (w:=w) (base:=base) T.s_p_can_pool BA
 have Df:=Df (P:=P) (w:=w) (base:=base) T.s_p_can_swap BA
 have GC:=GC (P:=P) (w:=w) (base:=base) T.s_p_can_do BA EZ Df
 have BS:=BS (P:=P) (w:=w) (base:=base) T.s_p_held_without
 have A8:=A8 (P:=P) (w:=w) (base:=base) T.s_p_held_behind BS
 have Au:=Au (P:=P) (w:=w) (base:=base) T.s_p_held_at_first
 have FP:=FP (P:=P) (w:=w) (base:=base) T.s_p_held_by A8 Au
 have Dt:=Dt (P:=P) (w:=w) (base:=base) T.s_p_made_from B
 have Cp:=Cp (P:=P) (w:=w) (base:=base) T.s_p_first_wrong B GC A8 Au
 have BN:=BN (P:=P) (w:=w) (base:=base) T.s_p_refuse_undone Cp
 have Bc:=Bc (P:=P) (w:=w) (base:=base) T.s_p_refuse_no_partner Bo
 have DA:=DA (P:=P) (w:=w) (base:=base) T.s_p_all_to_one B c_ALL c_NOTHING
 have A3:=A3 (P:=P) (w:=w) (base:=base) T.s_p_mixed_shares B HJ
 have Cz:=Cz (P:=P) (w:=w) (base:=base) T.s_p_made_shares B Dt A3
 have Ci:=Ci (P:=P) (w:=w) (base:=base) T.s_p_worth_of_all B
 have Cu:=Cu (P:=P) (w:=w) (base:=base) T.s_p_part_thrown BI Ci
 have CO:=CO (P:=P) (w:=w) (base:=base) T.s_p_thrown_shares A3 Cu
 have Cq:=Cq (P:=P) (w:=w) (base:=base) T.s_p_sold_shares B Ib JC Ea
 have BK:=BK (P:=P) (w:=w) (base:=base) T.s_p_shares_behind CO Cq
 have CJ:=CJ (P:=P) (w:=w) (base:=base) T.s_p_owners_behind c_MAKERS DA Cz BK
 have Ef:=Ef (P:=P) (w:=w) (base:=base) T.s_p_state_by A8 Au BK CJ
 have Bu:=Bu (P:=P) (w:=w) (base:=base) T.s_p_refuse_no_order B Bo
 have CY:=CY (P:=P) (w:=w) (base:=base) T.s_p_all_dues B Ea A3 Ef
 have Cg:=Cg (P:=P) (w:=w) (base:=base) T.s_p_whole_pieces
 have CV:=CV (P:=P) (w:=w) (base:=base) T.s_p_taken_by B Cg
 have FT:=FT (P:=P) (w:=w) (base:=base) T.s_p_settled B FP BN Bu CY CV
 have Dc:=Dc (P:=P) (w:=w) (base:=base) T.s_p_takes_of BN Bc CY CV
 have HN:=HN (P:=P) (w:=w) (base:=base) T.s_law_pen B
 have Dw:=Dw (P:=P) (w:=w) (base:=base) T.s_law_cell_at B
 have AN:=AN (P:=P) (w:=w) (base:=base) T.s_law_draw
 have Ej:=Ej (P:=P) (w:=w) (base:=base) T.s_law_common
 have Ap:=Ap (P:=P) (w:=w) (base:=base) T.s_law_made B Ej
 have Bw:=Bw (P:=P) (w:=w) (base:=base) T.s_law_whole B AN Ap
 have Cy:=Cy (P:=P) (w:=w) (base:=base) T.s_law_train AN Bw
 have Bn:=Bn (P:=P) (w:=w) (base:=base) T.s_law_pieces AN
 have FL:=FL (P:=P) (w:=w) (base:=base) T.s_law_first B AN Bw Bn
 have Bv:=Bv (P:=P) (w:=w) (base:=base) T.s_law_begun B
 have FG:=FG (P:=P) (w:=w) (base:=base) T.s_law_share AN Ap
 have EY:=EY (P:=P) (w:=w) (base:=base) T.s_law_worths B AN
 have Dg:=Dg (P:=P) (w:=w) (base:=base) T.s_law_deed B AN Bn FG EY
 have BJ:=BJ (P:=P) (w:=w) (base:=base) T.s_law_plus Ap
 have Ay:=Ay (P:=P) (w:=w) (base:=base) T.s_law_times Ap
 have EV:=EV (P:=P) (w:=w) (base:=base) T.s_law_pooled B Ap BJ Ay
 have GI:=GI (P:=P) (w:=w) (base:=base) T.s_law_cost B Ap
 have DX:=DX (P:=P) (w:=w) (base:=base) T.s_law_less BJ
 have EH:=EH (P:=P) (w:=w) (base:=base) T.s_law_borne B BJ Ay DX
 have E7:=E7 (P:=P) (w:=w) (base:=base) T.s_law_sold B BJ Ay DX
 have GF:=GF (P:=P) (w:=w) (base:=base) T.s_law_turn GI EH E7
 have Dy:=Dy (P:=P) (w:=w) (base:=base) T.s_law_do B EV GF
 have GG:=GG (P:=P) (w:=w) (base:=base) T.s_law_book B AN Cy FL Bv Dg Dy
 have HK:=HK (P:=P) (w:=w) (base:=base) T.s_law_few B AN Bw Cy Bv Dg Dy
 have CW:=CW (P:=P) (w:=w) (base:=base) T.s_law_states B Bv Dy
 have GH:=GH (P:=P) (w:=w) (base:=base) T.s_law_dues Ap BJ Ay CW
 have Fb:=Fb (P:=P) (w:=w) (base:=base) T.s_law_takes B GH
 have EX:=EX (P:=P) (w:=w) (base:=base) T.s_law_orders B
 have Dv:=Dv (P:=P) (w:=w) (base:=base) T.s_law_left_by B
 exact VB (P:=P) (w:=w) (base:=base) F B FT Dc HN Dw GG HK CW Fb EX Dv
theorem aF{l:PySem.W.OpenLaw}{fa:Addr}(hfa:mg "law"=some (.ref fa))(T:All w K mg):
  ∃fd:FuncData,(∀(s:Shared) (v:Value),BindsTo s fd ⟨[v],[]⟩ [("_law_script",v)])/\∀base:Heap,K.In base->base.Ns mainGlobals mg->Om l.prog w K mg base CX0 11 fa fd ["_law_script"] (YY K):=by
 obtain⟨f,fd,F,hm⟩:=T.s_p_law.ex
 have e:=hfa.symm.trans hm
 cases e
 refine⟨fd,fun s v=>?_,fun base _ _=>?_⟩
 ·obtain⟨oc,od,kV,doc,pm,an,cdv,ct,osl,hfd,_⟩:=F.ex
  subst hfd
  exact .of_eq rfl
 ·exact Zz (ZZ (P:=l.prog) (w:=w) (base:=base) F T) fun ns hl=>aB ns hl
end
theorem walk{l:PySem.W.OpenLaw}{q:Program}{loose:List Str}{XP:(Str->Option Value)->Heap->Prop}{YP:World->Heap->Prop}{d:DefRec}{K:Params->PySem.W.Frag}(hn:l.most=some 63)(hdf:d.params.defaults=[])
  (hY:∀(w:World) (h:Heap),YP w h->(K w.params).In h) (hd:d.name="law")
  (F:∀(w:World) (mg:Str->Option Value) (h:Heap),(K w.params).In h->h.Ns mainGlobals mg->All w (K w.params) mg):
  PySem.W.WalkO q loose XP YP l.row.toRowW d [] (fun f vs=>PySem.call f vs):=
 L2.XU (n:=63) (k:=11) (x:="_law_script") (CX:=fun _=>CX0) (sp:=fun w=>YY (K w.params)) hn (by decide) hdf ⟨rfl,by decide,by decide⟩ hY (fun w mg fa h KX G hmg=>aF (by rw[←hd];exact hmg) (F w mg h KX G)) (fun _ _ a ns hl _ hS=>⟨a,ns,rfl,hS,hl,fun _=>rfl⟩) fun _ _ _ _ _ z=>z
end Mi
end
noncomputable section
namespace PySem.W.Fast
def tw7827403412162837833:=0
def tw12345662913205970266:=0
def tw15973878322794974187:=0
def tw13537263224330881339:=0
def tw13684082547938272255:=0
def tw10655938024754185914:=0
def tw808453445526187359:=0
def tw17359254056070105258:=0
def tw5710727468889162594:=0
def tw6253670748541313504:=0
def tw6464790796152073741:=0
def tw9451607338808072708:=0
def tw2588895804882905456:=0
def tw18384148369354694703:=0
def tw6754809812667194343:=0
def tw9369652242513173983:=0
def tw18293112839213167287:=0
def tw13797669968969591909:=0
def tw14036184354014748044:=0
def tw6017085029653549023:=0
def tw10048708413606396408:=0
def tw3436133438598918129:=0
def tw5224889094599185400:=0
def tw2847772829636892979:=0
def tw6311899747545759591:=0
def tw5182158111409552628:=0
def tw2743046092882976334:=0
def tw13711708718303339587:=0
def tw17400009930460878558:=0
def tw9413754258694596571:=0
def tw13774701851312319272:=0
def tw12223051568598439321:=0
def tw11151879232204232436:=0
def tw1961779220418380024:=0
def tw7175811620655097934:=0
def tw4178772666830769510:=0
def tw12761480488298558666:=0
def tw14465462314560292047:=0
def tw15960397888293821402:=0
def tw7336219006037491380:=0
def tw2911787068589245621:=0
def tw17185271626409648639:=0
def tw9343772933669558211:=0
def tw8966121334767746312:=0
def tw511329904808134490:=0
def tw1263366284506349827:=0
def tw9400807277159751373:=0
def tw17526307684421074615:=0
def tw2979000985869211996:=0
def tw116380394586206228:=0
def tw3729135111043359614:=0
def tw1071901542889662842:=0
def tw15171556233155661077:=0
def tw754241643016918135:=0
def tw9147220300345753554:=0
def tw12701238025280530753:=0
def tw10906535112279461133:=0
def tw8005684850950774089:=0
def tw3436220485157706429:=0
def tw1068592310741433305:=0
def tw3993030517797169861:=0
def tw4738066904894497924:=0
def tw17793891447002138346:=0
def tw5526593270241791230:=0
def tw2373259010175694240:=0
def tw3480990160648602590:=0
def tw12743101758477891855:=0
def tw6403265799033881314:=0
def tw15260534465674177261:=0
def tw9067322736500297125:=0
def tw14016396945148447281:=0
def tw5510306782122691049:=0
def tw15033323330307584597:=0
def tw9226656193369184458:=0
def tw9717230653517078652:=0
def tw523740457283821555:=0
def tw18418662196346737479:=0
def tw9552286260357056365:=0
def tw18030539979719766328:=0
def tw17070497663925307727:=0
def tw18013536537812165641:=0
def tw12218468160058336847:=0
def tw7832284517023368538:=0
def tw17261108236616261166:=0
def tw11951323572950258969:=0
def tw3975761081871145750:=0
def tw13291269707029997798:=0
def tw9658232871230083232:=0
def tw1201269191856384840:=0
def tw5979383094146280478:=0
def tw16253307698908840405:=0
def tw10731434755672458180:=0
def tw4400179815466478043:=0
def tw17643512087586734720:=0
def tw6844759840194867490:=0
def tw13605761014690982758:=0
def tw8937388478133173597:=0
def tw7632046675961694068:=0
def tw2614690678322513724:=0
def tw6064634699816012794:=0
def tw9753505517142454250:=0
def tw16679101201530415763:=0
def tw16412848866670783216:=0
def tw6237922793958146032:=0
def tw1065354145726582255:=0
def tw11743750800345266606:=0
def tw15669127726618223415:=0
def tw16984967769008881816:=0
def tw9109664614535793519:=0
def tw11757856658765680358:=0
def tw14284541768337170300:=0
def tw10540575072371340981:=0
def tw9095174261505088696:=0
def tw15777118894402811489:=0
def tw3563486312952886855:=0
def tw5342680981764827638:=0
def tw7334028157831719410:=0
def tw4544762828506931421:=0
def tw7116779924293024523:=0
def tw1370246169407935126:=0
def tw7698654811522457359:=0
def tw1586365795521122118:=0
def tw12297940573885271672:=0
def tw17925766784188180814:=0
def tw348069735012733996:=0
def tw7943117962873326902:=0
def tw10335300448334482284:=0
def tw2108837729600823226:=0
def tw17311036137100366626:=0
def tw2511037765605992231:=0
def tw13926684263081638380:=0
def tw12213701044138023450:=0
def tw8903793985804866839:=0
def tw16554449537223269260:=0
def tw15984350227736714392:=0
def tw18173334858966572284:=0
def tw6097450492699408855:=0
def tw7200659686261693061:=0
def tw12449746988244009295:=0
def tw5637205578817506892:=0
def tw8776942805804389355:=0
def tw11173630155123444186:=0
def tw11893739780159682365:=0
def tw10549539715739643779:=0
def tw16270511327109624235:=0
def tw13148473286788624591:=0
def tw10615476666136046339:=0
def tw14949326469329550276:=0
def tw17718834085195500019:=0
def tw17167997859338756070:=0
def tw1980196342467230979:=0
def tw1731459040024272932:=0
def tw1631527341178656554:=0
def tw11223108429427025311:=0
def tw5478239376010185182:=0
def tw15833746091503707631:=0
def tw11439463983851605316:=0
def tw6188542444635377444:=0
def tw3645243232232894343:=0
def tw2269595826131574646:=0
def tw120768000771853706:=0
def tw10553797141417134954:=0
def tw7011005205064834950:=0
def tw3233541043898757492:=0
def tw8079273500040359440:=0
def tw16181813512879758178:=0
def tw17158024944367611494:=0
def tw9554922090085867785:=0
def tw4894018721661891456:=0
def tw5302778353628796809:=0
def tw11394289311467981206:=0
def tw3660898698283404844:=0
def tw3478867171327314132:=0
def tw18251324730924042502:=0
def tw5740098979573171123:=0
def tw2905686381097146705:=0
def tw14747588191688354781:=0
def tw4410301954059464707:=0
def tw2924051395600583320:=0
def tw15886412154362726136:=0
def tw14943644983866875119:=0
def tw637991063318608454:=0
def tw16359856745249010058:=0
def tw4637353572688318434:=0
def tw16846409844526178282:=0
def tw16156284148682002487:=0
def tw10094911977066018135:=0
def tw5925715702583469546:=0
def tw7179288113260647940:=0
def tw3999980589769963601:=0
def tw10656577772566803331:=0
def tw13163836905229097329:=0
def tw1133414857611437887:=0
def tw3219127844813408922:=0
def tw16017859107801662048:=0
def tw10670227189574296164:=0
def tw13236395964968306129:=0
def tw16555706694145187176:=0
def tw17171883378712188114:=0
def tw8504010223544686303:=0
def tw3814080601204345574:=0
def tw4359659519855863177:=0
def tw16067467411606777184:=0
def tw18369569115943650446:=0
def tw10681127615515407154:=0
def tw2207947689877298895:=0
def tw7810514915306451230:=0
def tw2710557653610428770:=0
def tw16075274829099076773:=0
def tw8573583926870655473:=0
def tw12652728631702407939:=0
def tw1485769232352722819:=0
def tw6760522018206249181:=0
def tw8993071078762332527:=0
def tw12768859468293750824:=0
def tw15372809248230883314:=0
def tw11573605989057062581:=0
def tw6514827407447510778:=0
def tw12841699370270167488:=0
def tw4357835091710547674:=0
def tw10665648804895534895:=0
def tw10179932482014326501:=0
def tw109845583867062178:=0
def tw4591927885196214896:=0
def tw8190735257163781182:=0
def tw1343361750903340622:=0
def tw434942170296657170:=0
def tw6459728346630549736:=0
def tw18287358595791937858:=0
def tw7325697750498544361:=0
def tw2162330186247629821:=0
def tw13247047613465554168:=0
def tw15501500715923417979:=0
def tw11162443935843007673:=0
def tw8031146969504700380:=0
def tw12101148864281701052:=0
def tw16651211777804615168:=0
def tw11986437100064978376:=0
def tw718165401538003419:=0
def tw1081826202119726459:=0
def tw16108720099243502712:=0
def tw17748822493147714576:=0
def tw18336610806019108518:=0
def tw5358648558196966888:=0
def tw16879670334535580516:=0
def tw10864277854914633997:=0
def tw906807206702355642:=0
def tw10924903818207621140:=0
def tw2704610024088977281:=0
def tw2959763347706474649:=0
def tw9158378230353271139:=0
def tw8632054118967683071:=0
def tw1235961531356323566:=0
def tw2686827913373602689:=0
def tw16709072506710507707:=0
def tw11342319600205277942:=0
def tw6801908500784586174:=0
def tw10044577831493555752:=0
def tw5691622166317337868:=0
def tw7048173075890895587:=0
def tw12284683665602029215:=0
def tw17497172981420208358:=0
def tw17102346545939444170:=0
def tw10021856699115673827:=0
def tw3447401590343468377:=0
def tw16871173780363634287:=0
def tw18217672611027087894:=0
def tw6871670830701344206:=0
def tw5884220561434080668:=0
def tw13375780694455751695:=0
def tw9251737506119897145:=0
def tw10387475290690470387:=0
def tw3826858810641786879:=0
def tw17306558566449466109:=0
def tw17769917655571886189:=0
def tw2090398642090054457:=0
def tw16527942606692307007:=0
def tw15076231312420365446:=0
def tw9522534336582565611:=0
def tw4898226969430136532:=0
def tw16532984589074654149:=0
def tw10771667119867735452:=0
def tw10037464513202249266:=0
def tw8740682056051008751:=0
def tw4907253929025075922:=0
def tw17233417941349261682:=0
def tw1638358664789699015:=0
def tw11138915685256336573:=0
def tw8531400739634889408:=0
def tw7691487434489746322:=0
def tw973171192758796705:=0
def tw3372510591944050994:=0
def tw4014788895591103091:=0
def tw13371154962375786863:=0
def tw9924564240338724676:=0
def tw5908155009580375681:=0
def tw12907196209584737095:=0
def tw7320735497683353330:=0
def tw4103827415574267640:=0
def tw12964508639398491987:=0
def tw16234073787149439215:=0
def tw17632043083515952632:=0
def tw3867126196353980630:=0
def tw11345234410363563251:=0
def tw10270517214982820840:=0
def tw8826071712639850247:=0
def tw10026149736836505832:=0
def tw16360513502258420622:=0
def tw471153036206963734:=0
def tw16564758037037937498:=0
def tw7181358059161141456:=0
def tw16256012532299763236:=0
def tw17620958083846139842:=0
def tw16147703259519863753:=0
def tw3342683580814313577:=0
def tw1148081480652556172:=0
def tw15354845304945260535:=0
def tw17700526666595223673:=0
def tw589124991341832458:=0
def tw8141770999709936274:=0
def tw16484222597497103759:=0
def tw119496022866265858:=0
def tw10108408294760251811:=0
def tw7823748275989951723:=0
def tw4497916421078970818:=0
def tw11586945259075082594:=0
def tw4523752619158773791:=0
end PySem.W.Fast
open PySem PySem.W PyProof.Rows
set_option maxRecDepth 100000 in
set_option maxHeartbeats 0 in
theorem PySem.Challenge.cw_sharetrail_k57_settled_in_whichever_orde_holds : PySem.Challenge.rw_sharetrail_k57_settled_in_whichever_orde.Holds := by
  w_on;o_law;k_head;(case hw=>w_witness2)
  k_fill
  refine Mi.walk (l:=PySem.Challenge.rw_sharetrail_k57_settled_in_whichever_orde) rfl rfl (fun w h Y=>PySem.W.kIn_of Y) rfl ?F
  case F =>
    intro w mg h KX G
    have c_ALL:Mi.Ss (L2.KOf KX) mg "ALL" Mi.TM:=by
      dsimp only[L2.KOf]
      refine' Mi.RD KX G ?e ?r
      (case e=>k_is)
      case r=>
        refine' Mi.Pb ?l ?z ?r
        (case l=>k_is)
        (case z=>decide)
        case r=>
          refine' Paired.cons ?_ ?_
          ·exact Mi.N7
          refine' Paired.cons ?_ ?_
          ·exact Mi.N7
          exact Paired.nil
    have c_MAKERS:Mi.Ss (L2.KOf KX) mg "MAKERS" Mi.DM:=by
      dsimp only[L2.KOf]
      refine' Mi.RD KX G ?e ?r
      (case e=>k_is)
      case r=>
        refine' Mi.Pb ?l ?z ?r
        (case l=>k_is)
        (case z=>decide)
        case r=>
          refine' Paired.cons ?_ ?_
          ·exact Mi.Nn
          refine' Paired.cons ?_ ?_
          ·exact Mi.Nn
          refine' Paired.cons ?_ ?_
          ·exact Mi.Nn
          refine' Paired.cons ?_ ?_
          ·exact Mi.Nn
          exact Paired.nil
    have c_NOTHING:Mi.Ss (L2.KOf KX) mg "NOTHING" Mi.G4:=by
      dsimp only[L2.KOf]
      refine' Mi.RD KX G ?e ?r
      (case e=>k_is)
      case r=>
        refine' Mi.Pb ?l ?z ?r
        (case l=>k_is)
        (case z=>decide)
        case r=>
          refine' Paired.cons ?_ ?_
          ·exact Mi.N7
          refine' Paired.cons ?_ ?_
          ·exact Mi.N7
          exact Paired.nil
    have z_abs:mg "abs"=none:=by
      refine' PySem.W.mg_none_of KX G ?z
      (case z=>k_is)
    have z_all:mg "all"=none:=by
      refine' PySem.W.mg_none_of KX G ?z
      (case z=>k_is)
    have z_bool:mg "bool"=none:=by
      refine' PySem.W.mg_none_of KX G ?z
      (case z=>k_is)
    have z_enumerate:mg "enumerate"=none:=by
      refine' PySem.W.mg_none_of KX G ?z
      (case z=>k_is)
    have z_int:mg "int"=none:=by
      refine' PySem.W.mg_none_of KX G ?z
      (case z=>k_is)
    have z_isinstance:mg "isinstance"=none:=by
      refine' PySem.W.mg_none_of KX G ?z
      (case z=>k_is)
    have z_len:mg "len"=none:=by
      refine' PySem.W.mg_none_of KX G ?z
      (case z=>k_is)
    have z_list:mg "list"=none:=by
      refine' PySem.W.mg_none_of KX G ?z
      (case z=>k_is)
    have z_max:mg "max"=none:=by
      refine' PySem.W.mg_none_of KX G ?z
      (case z=>k_is)
    have z_min:mg "min"=none:=by
      refine' PySem.W.mg_none_of KX G ?z
      (case z=>k_is)
    have z_range:mg "range"=none:=by
      refine' PySem.W.mg_none_of KX G ?z
      (case z=>k_is)
    have z_set:mg "set"=none:=by
      refine' PySem.W.mg_none_of KX G ?z
      (case z=>k_is)
    have z_sorted:mg "sorted"=none:=by
      refine' PySem.W.mg_none_of KX G ?z
      (case z=>k_is)
    have z_sum:mg "sum"=none:=by
      refine' PySem.W.mg_none_of KX G ?z
      (case z=>k_is)
    have z_tuple:mg "tuple"=none:=by
      refine' PySem.W.mg_none_of KX G ?z
      (case z=>k_is)
    have z_zip:mg "zip"=none:=by
      refine' PySem.W.mg_none_of KX G ?z
      (case z=>k_is)
    refine⟨⟨z_abs,z_all,z_bool,z_enumerate,z_int,z_isinstance,z_len,z_list,z_max,z_min,z_range,z_set,z_sorted,z_sum,z_tuple,z_zip⟩,c_ALL,c_MAKERS,c_NOTHING,?_,?_,?_,?_,?_,?_,?_,?_,?_,?_,?_,?_,?_,?_,?_,?_,?_,?_,?_,?_,?_,?_,?_,?_,?_,?_,?_,?_,?_,?_,?_,?_,?_,?_,?_,?_,?_,?_,?_,?_,?_,?_,?_,?_,?_,?_,?_,?_,?_,?_,?_,?_,?_,?_,?_,?_,?_,?_,?_,?_,?_,?_,?_,?_,?_,?_,?_,?_⟩
    all_goals (refine' Mi.ZU KX G ?a ?l ?c ?k;(case a=>k_is);(case l=>k_is);(case c=>k_is);(case k=>k_is))
end
