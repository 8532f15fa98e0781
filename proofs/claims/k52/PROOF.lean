import PyProof.Rows.All
import Wide.All
import OpenK.AllK
import Wide.FinOn
import Lean
import PyProof.EqAt
import PyProof.EqKinds
import PyProof.TupleCall
import PyProof.Draws
import PyProof.EnumMake
import PyProof.EnumFor
import PyProof.ZipIter
import PyProof.ListMulRoad
import PyProof.NeData
import PyProof.SumWalkG
import PySem.Challenge.RW_sharetrail_k52_whole_what_came_behind_a
set_option Elab.async false
set_option linter.all false
set_option maxRecDepth 100000
set_option maxHeartbeats 4000000
set_option exponentiation.threshold 10000
noncomputable section
namespace L2
open PySem PySem.Spec PyProof.Rows
abbrev Key:=Sum Int Str
noncomputable def Z9:Key->Value->Bool
 | .inl k,v=>Value.isInt k v
 | .inr x,v=>Value.isStrOf x v
noncomputable def jP(w:World):Key->Int
 | .inl k=>hashInt k
 | .inr x=>hashStr w x
theorem Cf:∀{k:Key} {v:Value},Z9 k v=true->(∃i t,k=Sum.inl i/\v=Value.int i t)∨(∃x t,k=Sum.inr x/\v=Value.str x t)
  | .inl i,v,h=>by
    obtain⟨t,e⟩:=Value.isInt_shape (k:=i) (v:=v) h
    exact .inl ⟨i,t,rfl,e⟩
  | .inr x,v,h=>by
    obtain⟨t,e⟩:=Value.isStrOf_shape (x:=x) (v:=v) h
    exact .inr ⟨x,t,rfl,e⟩
theorem Z8(a b:Int):decide ((Sum.inl a:Key)=Sum.inl b)=(a==b):=by
 by_cases e:a=b
 ·subst e;simp
 ·have h:¬(Sum.inl a:Key)=Sum.inl b:=fun q=>e (Sum.inl.inj q)
  rw[decide_eq_false h]
  exact(beq_eq_false_iff_ne.mpr e).symm
theorem aF(a b:Str):decide ((Sum.inr a:Key)=Sum.inr b)=decide (a=b):=by
 by_cases e:a=b
 ·subst e;simp
 ·have h:¬(Sum.inr a:Key)=Sum.inr b:=fun q=>e (Sum.inr.inj q)
  rw[decide_eq_false h,decide_eq_false e]
theorem bu(a:Int)(b:Str):decide ((Sum.inl a:Key)=Sum.inr b)=false:=decide_eq_false (fun q=>nomatch q)
theorem br(a:Str)(b:Int):decide ((Sum.inr a:Key)=Sum.inl b)=false:=decide_eq_false (fun q=>nomatch q)
noncomputable def TF(prog:Program)(w:World):PySem.KeyKind prog w Key where
 is:=Z9
 hash:=jP w
 inj:=fun v a b ha hb=>by
  rcases Cf ha with⟨i,t,rfl,rfl⟩|⟨x,t,rfl,rfl⟩
  ·rcases Cf hb with⟨j,u,rfl,e⟩|⟨y,u,rfl,e⟩
   ·injection e with e1 _;rw[e1]
   ·exact nomatch e
  ·rcases Cf hb with⟨j,u,rfl,e⟩|⟨y,u,rfl,e⟩
   ·exact nomatch e
   ·injection e with e1 _;rw[e1]
 byValue:=fun k v h=>by
  rcases Cf h with⟨i,t,rfl,rfl⟩|⟨x,t,rfl,rfl⟩<;>rfl
 pyHash:=fun hv h=>by
  rcases Cf hv with⟨i,t,rfl,rfl⟩|⟨x,t,rfl,rfl⟩
  ·exact wpAny_pyHash_int h
  ·exact wpAny_pyHash_str h
 eqBool:=fun hu hv h=>by
  rcases Cf hu with⟨i,t,rfl,rfl⟩|⟨x,t,rfl,rfl⟩
  ·rcases Cf hv with⟨j,u,rfl,rfl⟩|⟨y,u,rfl,rfl⟩
   ·rw[Z8]at h;exact wpAny_eqBool_int h
   ·rw[bu]at h;exact SeqAt.EqAt.int_str i t y u _ _ _ _ h
  ·rcases Cf hv with⟨j,u,rfl,rfl⟩|⟨y,u,rfl,rfl⟩
   ·rw[br]at h;exact SeqAt.EqAt.str_int x t j u _ _ _ _ h
   ·rw[aF]at h;exact wpAny_eqBool_str h
 «strs» :=fun k x t v h=>by
  rcases Cf h with⟨i,u,rfl,e⟩|⟨y,u,rfl,e⟩
  ·exact nomatch e
  ·injection e with e1 _
   subst e1
   cases v<;>rfl
end L2
namespace L2
open PySem PySem.Spec PyProof.Rows
inductive V where
 |non|bl (b:Bool)|int (i:Int)|str (x:Str)|byt (b:Array UInt8)|flt (b:UInt64)|ref (a:Addr)|ty (n:String)
 deriving DecidableEq
def RelV:V->Value->Prop
 | .non,u=>u=Value.none
 | .bl b,u=>u=Value.bool b
 | .int i,u=>∃t,u=Value.int i t
 | .str x,u=>∃t,u=Value.str x t
 | .byt b,u=>∃t,u=Value.bytes b t
 | .flt b,u=>∃t,u=Value.float b t
 | .ref a,u=>u=Value.ref a
 | .ty n,u=>u=Value.type n
abbrev Vals:List V->List Value->Prop:=Paired RelV
theorem Vals.length{xs:List V}{us:List Value}(r:Vals xs us):xs.length=us.length:=Paired.length r
theorem Vals.get:∀{xs:List V} {us:List Value} {i:Nat} {x:V},Vals xs us->xs[i]?=some x->∃u,us[i]?=some u/\RelV x u
  |_,_,_,_,.nil,e=>by simp at e
  |_,_,0,_,.cons r _,e=>by simp at e;subst e;exact⟨_,rfl,r⟩
  | _, _, i + 1, x, .cons _ t, e => by
    obtain⟨u,h1,h2⟩:=Vals.get (i:=i) (x:=x) t (by simpa using e)
    exact⟨u,by simpa using h1,h2⟩
theorem Vals.set{x:V}{u:Value}(r:RelV x u):∀{xs:List V} {us:List Value} (i:Nat),Vals xs us->Vals (xs.set i x) (us.set i u)
 |_,_,_,.nil=>.nil
 |_,_,0,.cons _ t=>.cons r t
 |_,_,i+1,.cons q t=>.cons q (Vals.set r i t)
theorem Vals.append:∀{xs ys:List V} {us ws:List Value},Vals xs us->Vals ys ws->Vals (xs++ys) (us++ws)
 |_,_,_,_,.nil,s=>s
 |_,_,_,_,.cons r t,s=>.cons r (Vals.append t s)
theorem Vals.take:∀{xs:List V} {us:List Value} (n:Nat),Vals xs us->Vals (xs.take n) (us.take n)
 |_,_,0,_=>.nil
 |_,_,_+1,.nil=>.nil
 |_,_,n+1,.cons r t=>.cons r (Vals.take n t)
theorem Vals.drop:∀{xs:List V} {us:List Value} (n:Nat),Vals xs us->Vals (xs.drop n) (us.drop n)
 |_,_,0,r=>r
 |_,_,_+1,.nil=>.nil
 |_,_,n+1,.cons _ t=>Vals.drop n t
def de:Option V->Option Value->Prop
 |some v,some u=>RelV v u
 |none,none=>True
 |_,_=>False
def KV{κ:Type}:List (κ×V)->List (κ×Value)->Prop:=Paired fun(p:κ×V) (q:κ×Value)=>p.1=q.1/\RelV p.2 q.2
noncomputable def kV:Key->V
 | .inl i=>.int i
 | .inr x=>.str x
inductive HO where
 |lst (xs:List V)
 |tup (xs:List V)
 |dK (kvs:List (Key×V))|dT (kvs:List (List Key×V))
 |set (S:Int->Bool) (n:Nat)
 |ins (C dx:Addr) (fs:List (Str×V))
 |own (x:Addr)
 |xd (fs:List (Str×V))
 |met (f x:Addr)
 |rng (lo hi:Int)
 |frz (o:Obj) (u:HO)
 |tbl (ps:Array Value)
 |ext (φ:Heap->Prop)
abbrev Hp:=Addr->Option HO
noncomputable def upd(H:Hp)(a:Addr)(o:HO):Hp:=fun b=>if b=a then some o else H b
theorem B5{H:Hp}{a:Addr}{o:HO}:upd H a o a=some o:=by unfold upd;rw[if_pos rfl]
theorem Aw{H:Hp}{a b:Addr}{o:HO}(h:b≠a):upd H a o b=H b:=by unfold upd;rw[if_neg h]
theorem A9{H:Hp}{a b:Addr}{o:HO}(h:H a=some o)(h':H b=none):a≠b:=by
 intro e;subst e;rw[h]at h';cases h'
section
variable(P:Program)(w:World)
def Gq(H:Hp)(h:Heap)(a:Addr):HO->Prop
 | .lst xs=>xs.length≤sizeLine/\∃(its:List Value) (n:Nat),Vals xs its/\h.get? a=some {cls:=.type "list",data:=.seq its.toArray n}
 | .tup xs=>xs.length≤sizeLine/\∃its:List Value,Vals xs its/\IsTup h a its.toArray
 | .dK kvs=>kvs.length≤sizeLine/\(a==sysModules)=false/\∃vs,KV kvs vs/\h.DictOf (TF P w) a vs
 | .dT kvs=>kvs.length≤sizeLine/\(a==sysModules)=false/\∃xs:List (List Key×Addr×Value),
   Paired (fun(p:List Key×V) (q:List Key×Addr×Value)=>p.1=q.1/\H q.2.1=some (.tup (p.1.map kV))/\RelV p.2 q.2.2) kvs xs/\
   ∃o es ep,h.get? a=some o/\o.ExactDict/\o.data=.dict es ep/\es.toList=xs.map (entryOfKey (tupleKind (TF P w)))/\(xs.map (·.1)).Nodup
 | .set S n=>h.SetOf (intKind P w) a S n
 | .ins C dx fs=>H dx=some (.own a)/\fs.length≤1000/\dx≠a/\h.get? a=some (PySem.W.instObj C dx)/\
   ∃mA,h.Ns1 dx mA/\(∀f,de (fs.lookup f) (mA f))/\PySem.Within mA (fs.map (·.1))
 | .own _=>∃o,h.get? a=some o
 | .xd fs=>∃mA,h.Ns1 a mA/\∀f,de (fs.lookup f) (mA f)
 | .rng lo hi=>∃t u v,h.get? a=some {cls:=.type "range",data:=.fields #[.int lo t,.int hi u,.int 1 v]}
 | .frz o u=>h.get? a=some o/\Gq H h a u
 | .tbl ps=>h.get? a=some {cls:=.none,data:=.fields ps}
 | .met f x=>h.get? a=some (PySem.W.methodObj (.ref f) (.ref x))
 | .ext φ=>φ h/\(∃o,h.get? a=some o)/\∀h1 h2:Heap,φ h1->(∀o,h1.get? a=some o->h2.get? a=some o)->φ h2
def HOk(H:Hp)(h:Heap):Prop:=∀a o,H a=some o->Gq P w H h a o
end
section
variable{P:Program}{w:World}{H H':Hp}{h h':Heap}{a:Addr}{o:HO}
theorem Gq.lt(x:Gq P w H h a o):a<h.objs.size:=by
 cases o with
 |lst xs=>obtain⟨_,_,_,_,e⟩:=x;exact Heap.lt_size e
 |tup xs=>obtain⟨_,_,_,p⟩:=x;exact p.lt
 |dK kvs=>obtain⟨_,_,_,_,o,_,_,e,_⟩:=x;exact Heap.lt_size e
 |dT kvs=>obtain⟨_,_,_,_,o,_,_,e,_⟩:=x;exact Heap.lt_size e
 |set S n=>obtain⟨o,_,_,_,e,_⟩:=x;exact Heap.lt_size e
 |ins C dx fs=>obtain⟨_,_,_,e,_⟩:=x;exact Heap.lt_size e
 |own y=>obtain⟨_,e⟩:=x;exact Heap.lt_size e
 |xd fs=>obtain⟨_,⟨_,_,_,e,_⟩,_⟩:=x;exact Heap.lt_size e
 |rng lo hi=>obtain⟨_,_,_,e⟩:=x;exact Heap.lt_size e
 |frz ob u=>obtain⟨e,_⟩:=x;exact Heap.lt_size e
 |tbl ps=>exact Heap.lt_size (show h.get? a=some _ from x)
 |met f y=>exact Heap.lt_size (show h.get? a=some _ from x)
 |ext φ=>obtain⟨_,⟨_,e⟩,_⟩:=x;exact Heap.lt_size e
theorem Paired.mapP{α β:Type}{F G:α->β->Prop}:∀{l₁:List α} {l₂:List β},Paired F l₁ l₂->(∀a b,F a b->G a b)->Paired G l₁ l₂
 |_,_,.nil,_=>.nil
 |_,_,.cons r t,f=>.cons (f _ _ r) (Paired.mapP t f)
theorem Gq.stay(x:Gq P w H h a o)(k:∀b u,(b=a∨H b=some (.own a))->h.get? b=some u->h'.get? b=some u)
    (ho:∀b,H b=some (.own a)->H' b=some (.own a)) (ht:∀b xs,H b=some (.tup xs)->H' b=some (.tup xs)):Gq P w H' h' a o:=by
  induction o with
  |lst xs=>obtain⟨z,its,n,r,e⟩:=x;exact⟨z,its,n,r,k _ _ (.inl rfl) e⟩
  |tup xs=>obtain⟨z,its,r,ob,e,c⟩:=x;exact⟨z,its,r,ob,k _ _ (.inl rfl) e,c⟩
  |dK kvs=>obtain⟨z,y,vs,r,ob,es,ep,e,c⟩:=x;exact⟨z,y,vs,r,ob,es,ep,k _ _ (.inl rfl) e,c⟩
  | dT kvs =>
    obtain⟨z,y,xs,r,ob,es,ep,e,c⟩:=x
    exact⟨z,y,xs,Paired.mapP r fun p q z=>⟨z.1,ht _ _ z.2.1,z.2.2⟩,ob,es,ep,k _ _ (.inl rfl) e,c⟩
  |set S n=>obtain⟨ob,es,ep,t,e,c⟩:=x;exact⟨ob,es,ep,t,k _ _ (.inl rfl) e,c⟩
  | ins C dx fs =>
    obtain⟨d,z,ne,e,mA,⟨od,es,ep,e2,c⟩,r⟩:=x
    exact⟨ho _ d,z,ne,k _ _ (.inl rfl) e,mA,⟨od,es,ep,k _ _ (.inr d) e2,c⟩,r⟩
  |own y=>obtain⟨ob,e⟩:=x;exact⟨ob,k _ _ (.inl rfl) e⟩
  |xd fs=>obtain⟨mA,⟨od,es,ep,e,c⟩,r⟩:=x;exact⟨mA,⟨od,es,ep,k _ _ (.inl rfl) e,c⟩,r⟩
  |rng lo hi=>obtain⟨t,u,v,e⟩:=x;exact⟨t,u,v,k _ _ (.inl rfl) e⟩
  |frz ob u ih=>obtain⟨e,q⟩:=x;exact⟨k _ _ (.inl rfl) e,ih q⟩
  | tbl ps =>
    have e:h.get? a=some {cls:=.none,data:=.fields ps}:=x
    show h'.get? a=some {cls:=.none,data:=.fields ps}
    exact k a _ (.inl rfl) e
  | met f y =>
    have e:h.get? a=some (PySem.W.methodObj (.ref f) (.ref y)):=x
    show h'.get? a=some (PySem.W.methodObj (.ref f) (.ref y))
    exact k a _ (.inl rfl) e
  |ext φ=>obtain⟨p,⟨o,e⟩,st⟩:=x;exact⟨st _ _ p fun o q=>k _ _ (.inl rfl) q,⟨o,k _ _ (.inl rfl) e⟩,st⟩
theorem HOk.lt(x:HOk P w H h)(e:H a=some o):a<h.objs.size:=(x a o e).lt
theorem HOk.fresh(x:HOk P w H h)(e:h.objs.size≤a):H a=none:=by
 cases q:H a with
 |none=>rfl
 |some u=>exact absurd (Nat.lt_of_lt_of_le (x.lt q) e) (Nat.lt_irrefl _)
theorem HOk.kept(x:HOk P w H h)(k:∀b u,h.get? b=some u->h'.get? b=some u):HOk P w H h':=fun a o e=>
 (x a o e).stay (fun b u _ q=>k b u q) (fun _ q=>q) fun _ _ q=>q
theorem HOk.laid(x:HOk P w H h)(k:∀b u,h.get? b=some u->h'.get? b=some u)(hp:h.objs.size≤a)(new:Gq P w (upd H a o) h' a o):HOk P w (upd H a o) h':=fun b u e=>by
 have hn:=x.fresh hp
 by_cases hb:b=a
 ·subst hb;rw[B5]at e;cases e;exact new
 ·rw[Aw hb]at e
  exact(x b u e).stay (fun c v _ q=>k c v q) (fun c q=>by rw[Aw (A9 q hn)];exact q) fun c xs q=>by rw[Aw (A9 q hn)];exact q
end
def Rd(H:Hp)(a:Addr)(u:HO):Prop:=H a=some u∨∃o,H a=some (.frz o u)
theorem Rd.ok{P:Program}{w:World}{H:Hp}{h:Heap}{a:Addr}{u:HO}(r:Rd H a u)(x:HOk P w H h):Gq P w H h a u:=by
 rcases r with r|⟨o,r⟩
 ·exact x a u r
 ·obtain⟨_,q⟩:=x a _ r
  exact q
def Mut:Option HO->Prop
 |some (.lst _)=>True
 |some (.dK _)=>True
 |some (.dT _)=>True
 |some (.set _ _)=>True
 |some (.ins _ _ _)=>True
 |some (.ext _)=>True
 |_=>False
section
variable{P:Program}{w:World}{H:Hp}{h h':Heap}{x e:Addr}{o':HO}
theorem HOk.write(ok:HOk P w H h)(mu:Mut (H x))(he:e=x∨H e=some (.own x))(k:∀b u,b≠e->h.get? b=some u->h'.get? b=some u)(heo:∃u,h'.get? e=some u)
  (new:Gq P w (upd H x o') h' x o'):HOk P w (upd H x o') h':=fun b u q=>by
 have nown:∀c y,H c=some (.own y)->c≠x:=fun c y r z=>by subst z;rw[r]at mu;exact mu
 have ntup:∀c xs,H c=some (.tup xs)->c≠x:=fun c xs r z=>by subst z;rw[r]at mu;exact mu
 by_cases hb:b=x
 ·subst hb;rw[B5]at q;cases q;exact new
 ·rw [Aw hb] at q
  by_cases hbe:b=e
  ·have q':H b=some (.own x):=by
    rcases he with z|z
    ·exact absurd (hbe.trans z) hb
    ·rw[hbe];exact z
   rw[q]at q';cases q'
   obtain⟨v,hv⟩:=heo
   exact⟨v,by rw[hbe];exact hv⟩
  ·refine(ok b u q).stay (fun c v hc r=>k c v ?_ r) (fun c r=>by rw[Aw (nown c b r)];exact r) fun c xs r=>by rw[Aw (ntup c xs r)];exact r
   rcases hc with rfl|hc
   ·exact hbe
   ·rintro rfl
    rcases he with z|z
    ·exact nown c b hc z
    ·rw[hc]at z;cases z;exact hb rfl
end
structure Un(fs ex:List Addr)(H H':Hp)(h h':Heap):Prop where
 keep:∀b o,h.get? b=some o->H b=none->b∉fs->b∉ex->h'.get? b=some o
 slot:∀b o,h.get? b=some o->H b=none->b∈fs->b∉ex->∃sl,h'.get? b=some {o with slots:=sl}
 free:∀b o,h.get? b=some o->H b=none->b∉ex->H' b=none
 there:∀b o,h.get? b=some o->b∉ex->∃o',h'.get? b=some o'
 tups:∀b xs,H b=some (.tup xs)->H' b=some (.tup xs)
 frzs:∀b o u,H b=some (.frz o u)->H' b=some (.frz o u)
 tbls:∀b ps,H b=some (.tbl ps)->∃more,H' b=some (.tbl (ps++more))
section
variable{fs fs' ex ex':List Addr}{H H1 H2:Hp}{h h1 h2 h':Heap}{a x e:Addr}{o:HO}
theorem Un.any(u:Un fs ex H H1 h h1){b:Addr}{ob:Obj}(q:h.get? b=some ob)(n:H b=none)(hx:b∉ex):∃sl,h1.get? b=some {ob with slots:=sl}:=by
 by_cases hb:b∈fs
 ·exact u.slot b ob q n hb hx
 ·exact⟨ob.slots,u.keep b ob q n hb hx⟩
theorem Un.kept(k:∀b u,h.get? b=some u->h'.get? b=some u):Un fs ex H H h h':=
 ⟨fun b ob q _ _ _=>k b ob q,fun b ob q _ _ _=>⟨ob.slots,k b ob q⟩,fun _ _ _ n _=>n,fun b ob q _=>⟨ob,k b ob q⟩,fun _ _ q=>q,fun _ _ _ q=>q,fun _ ps q=>⟨#[],by rw[q];simp⟩⟩
theorem Un.refl:Un fs ex H H h h:=Un.kept fun _ _ q=>q
theorem Un.laid(k:∀b u,h.get? b=some u->h'.get? b=some u)(hp:h.objs.size≤a)(hn:H a=none):Un fs ex H (upd H a o) h h' where
 keep:=fun b u q _ _ _=>k b u q
 slot:=fun b u q _ _ _=>⟨u.slots,k b u q⟩
 free:=fun b u q n _=>by rw[Aw (Nat.ne_of_lt (Nat.lt_of_lt_of_le (Heap.lt_size q) hp))];exact n
 there:=fun b u q _=>⟨u,k b u q⟩
 tups:=fun b xs q=>by rw[Aw (A9 q hn)];exact q
 frzs:=fun b u xs q=>by rw[Aw (A9 q hn)];exact q
 tbls:=fun b ps q=>⟨#[],by rw[Aw (A9 q hn),q];simp⟩
theorem Un.write(mu:Mut (H x))(he:e=x∨H e=some (.own x))(k:∀b u,b≠e->h.get? b=some u->h'.get? b=some u)(heo:∃u,h'.get? e=some u):Un fs ex H (upd H x o) h h':=by
 have hx:∀b,H b=none->b≠x:=fun b n z=>by subst z;rw[n]at mu;exact mu
 have hb:∀b,H b=none->b≠e:=fun b n z=>by
  subst z
  rcases he with r|r
  ·exact hx b n r
  ·rw[n]at r;cases r
 have hm:∀b u,H b=some u->¬Mut (some u)->b≠x:=fun b u q nm z=>by subst z;rw[q]at mu;exact nm mu
 refine⟨fun b u q n _ _=>k b u (hb b n) q,fun b u q n _ _=>⟨u.slots,k b u (hb b n) q⟩,fun b u q n _=>by rw[Aw (hx b n)];exact n,fun b u q _=>?_,
  fun b xs q=>by rw[Aw (hm b _ q fun z=>z)];exact q,fun b u xs q=>by rw[Aw (hm b _ q fun z=>z)];exact q,fun b ps q=>⟨#[],by rw[Aw (hm b _ q fun z=>z),q];simp⟩⟩
 by_cases hbe:b=e
 ·subst hbe;exact heo
 ·exact⟨u,k b u hbe q⟩
end
noncomputable def trk(h:Heap)(H:Hp):List Addr:=(List.range h.objs.size).filter fun a=>(H a).isSome
noncomputable def Vv(h:Heap)(H:Hp):Heap:=PySem.W.hideAll h (trk h H)
theorem Ur(h:Heap)(H:Hp):(Vv h H).objs.size=h.objs.size:=PySem.W.hideAll_size _ _
theorem Wc{h:Heap}{H:Hp}{b:Addr}{o:Obj}(e:h.get? b=some o)(n:H b=none):(Vv h H).get? b=some o:=
 PySem.W.hideAll_get _ e fun hm=>by
  have q:(H b).isSome=true:=(List.mem_filter.mp hm).2
  rw[n]at q;simp at q
theorem YQ{h:Heap}{H:Hp}{b:Addr}{o:Obj}(e:(Vv h H).get? b=some o):h.get? b=some o/\H b=none:=by
  have e':h.get? b=some o:=PySem.W.of_hideAll (trk h H) e
  refine⟨e',?_⟩
  cases q:H b with
  |none=>rfl
  | some x =>
    have hm:b∈trk h H:=List.mem_filter.mpr ⟨List.mem_range.mpr (Heap.lt_size e'),by simp[q]⟩
    have z:(Vv h H).get? b=none:=PySem.W.hideAll_none (trk h H) hm
    rw[z]at e;cases e
noncomputable def Yc(g h:Heap)(L:Addr):List (Addr×Obj):=(List.range h.objs.size).filterMap fun a=>if a=L∨(g.get? a).isSome=true then none else(h.get? a).map fun o=>(a,o)
noncomputable def rest(g h:Heap)(L d:Addr):List (Addr×Obj):=(Yc g h L).filter fun p=>decide (p.1≠d)
end L2
namespace L2
open PySem PySem.Spec PyProof.Rows
structure Mod(K:PySem.W.Frag)(mg:Str->Option Value)(base:Heap):Prop where
 kin:K.In base
 glob:base.Ns mainGlobals mg
 blt:∃mb,base.Ns builtinsNs mb/\∀x:Str,x≠ "__name__"->mb x=bootBuiltins x
 nolimit:base.NoLimit
structure Cx where
 prog:Program
 w:World
 K:PySem.W.Frag
 mg:Str->Option Value
 base:Heap
 A:Around
 N:List Str
 s₀:Shared
 H₀:Hp
 env:Env
 outer:List Env
 stack:List Env
 ex:List Addr
 fn:Str->Bool
 calm:Bool
 pn:List (Addr×Obj)
 xe:Value->Shared->Prop
noncomputable def frs(l:List Env):List Addr:=l.filterMap (·.frame)
abbrev Cx.fs(X:Cx):List Addr:=frs X.outer
def Vis(sc:Scope)(x:Str):Prop:=sc.names.lookup x=some .local∨sc.names.lookup x=some .cell∨sc.names.lookup x=some .free
def Loc(sc:Scope)(x:Str):Prop:=sc.names.lookup x=some .local∨sc.names.lookup x=some .cell
def Look(env:Env)(h:Heap)(m:Str->Option Value)(x:Str)(u:Value):Prop:=
 (env.kindOf x=some .local/\m x=some u)∨((env.kindOf x=some .cell∨env.kindOf x=some .free)/\∃c,env.cells.lookup x=some c/\h.IsCell c (some u))
structure Cx.Ok(X:Cx):Prop where
 mod:Mod X.K X.mg X.base
 kind:X.env.scope.kind=.function
 glob:X.env.globals=mainGlobals
 blt:X.env.builtins=builtinsNs
 above:X.s₀.heap.objs.size≤X.env.locals
 inj:∀x y c,X.env.cells.lookup x=some c->X.env.cells.lookup y=some c->x=y
 has:∀x,(X.env.kindOf x=some .cell∨X.env.kindOf x=some .free)->∃c,X.env.cells.lookup x=some c
 cab:∀x c,X.fn x=true->X.env.cells.lookup x=some c->X.s₀.heap.objs.size≤c
 hd:X.calm=true->X.A.handled=none
 frames:X.A.frames=some X.stack
 stk:X.stack=X.outer∨(X.stack=X.env::X.outer/\X.env.frame=some X.env.locals)
 exf:∀b∈X.ex,b≠X.env.locals/\∀x c,X.env.cells.lookup x=some c->c≠b
 bs:∀b o,X.base.get? b=some o->X.s₀.heap.get? b=some o/\X.H₀ b=none
 bsz:X.base.objs.size≤X.s₀.heap.objs.size
 noex:∀b o,X.base.get? b=some o->b∉X.ex
 exfs:∀b∈X.ex,b∉X.fs
 funs:X.s₀.heap.FunFrames X.base X.outer
 frf:∀b∈X.fs,X.H₀ b=none
structure Inv(X:Cx)(pins:List (Addr×Obj))(σ:List (Option V))(H:Hp)(s:Shared):Prop where
 ok:X.Ok
 os:s.os=X.s₀.os
 bare:AllBare s.gens
 base:Un X.fs X.ex X.H₀ H X.s₀.heap s.heap
 loc:∃m,s.heap.Ns X.env.locals m/\∀(i:Nat) (x:Str) (v:V),X.N[i]?=some x->σ[i]?=some (some v)->Vis X.env.scope x->∃u,RelV v u/\Look X.env s.heap m x u
 cell:∀x c,X.env.cells.lookup x=some c->∃v,s.heap.IsCell c v
 free:H X.env.locals=none
 freeC:∀x c,X.env.cells.lookup x=some c->H c=none
 pin:∀p∈X.pn++pins,s.heap.get? p.1=some p.2/\H p.1=none/\p.1≠X.env.locals/\p.1∉X.fs/\∀v,p.2.data≠.cell v
 hok:HOk X.prog X.w H s.heap
 len:σ.length=X.N.length
section
variable{X:Cx}{pins:List (Addr×Obj)}{σ:List (Option V)}{H H':Hp}{s:Shared}{h':Heap}
theorem Cx.Ok.nofr(ok:X.Ok){b:Addr}{o:Obj}(e:X.base.get? b=some o):b∉X.fs:=fun hb=>by
 have:=(ok.funs.mem hb).1
 rw[e]at this;cases this
theorem Inv.bs(I:Inv X pins σ H s):∀b o,X.base.get? b=some o->s.heap.get? b=some o/\H b=none:=fun b o e=>
 ⟨I.base.keep b o (I.ok.bs b o e).1 (I.ok.bs b o e).2 (I.ok.nofr e) (I.ok.noex b o e),I.base.free b o (I.ok.bs b o e).1 (I.ok.bs b o e).2 (I.ok.noex b o e)⟩
theorem Inv.bk(I:Inv X pins σ H s):∀b o,X.base.get? b=some o->s.heap.get? b=some o:=fun b o e=>(I.bs b o e).1
theorem Inv.mod(I:Inv X pins σ H s):Mod X.K X.mg X.base:=I.ok.mod
theorem Inv.kIn(I:Inv X pins σ H s):X.K.In s.heap:=I.ok.mod.kin.keeps I.bk
theorem Inv.lt(I:Inv X pins σ H s):X.env.locals<s.heap.objs.size:=let⟨_,hn,_⟩:=I.loc;hn.lt
theorem Inv.sz(I:Inv X pins σ H s):X.s₀.heap.objs.size≤s.heap.objs.size:=Nat.le_trans I.ok.above (Nat.le_of_lt I.lt)
theorem Inv.nofs(I:Inv X pins σ H s){a:Addr}(h:s.heap.objs.size≤a):a∉X.fs:=fun hb=>by
 obtain⟨_,o,ho,_⟩:=I.ok.funs.mem hb
 exact absurd (Nat.lt_of_lt_of_le (Heap.lt_size ho) (Nat.le_trans I.sz h)) (Nat.lt_irrefl _)
theorem Inv.cne(I:Inv X pins σ H s):∀x c,X.env.cells.lookup x=some c->c≠X.env.locals:=fun x c e z=>by
 obtain⟨v,o,ho,hd⟩:=I.cell x c e
 obtain⟨m,⟨o',es,ep,ho',hd',_⟩,_⟩:=I.loc
 rw[z,ho']at ho;cases ho;rw[hd']at hd;cases hd
theorem Inv.funs(I:Inv X pins σ H s):s.heap.FunFrames X.base X.outer:=by
  have all:∀(l:List Env),(∀b∈frs l,b∈X.fs)->X.s₀.heap.FunFrames X.base l->s.heap.FunFrames X.base l:=by
    intro l
    induction l with
    |nil=>intro _ _;trivial
    | cons env r ih =>
      intro hs hl
      obtain⟨hk,⟨L,o,hf,hn,ho,hd⟩,hr⟩:=hl
      have hL:L∈X.fs:=hs L (by unfold frs;rw[List.filterMap_cons,hf];exact List.mem_cons_self)
      obtain⟨sl,e⟩:=I.base.slot L o ho (I.ok.frf L hL) hL fun z=>I.ok.exfs L z hL
      exact⟨hk,⟨L,_,hf,hn,e,hd⟩,ih (fun b hb=>hs b (by unfold frs;rw[List.filterMap_cons,hf];exact List.mem_cons_of_mem _ hb)) hr⟩
  exact all X.outer (fun _ hb=>hb) I.ok.funs
theorem Inv.stack(I:Inv X pins σ H s):s.heap.FunFrames X.base X.stack:=by
 rcases I.ok.stk with e|⟨e,hf⟩
 ·rw[e];exact I.funs
 ·rw[e]
  obtain⟨m,hn,_⟩:=I.loc
  refine .cons (by rw[I.ok.kind];decide) hf hn ?_ I.funs
  exact Heap.get?_none_of_le (Nat.le_trans I.ok.bsz I.ok.above)
theorem Inv.stkSub(I:Inv X pins σ H s):∀b∈frs X.stack,b∈X.env.locals::X.fs:=fun b hb=>by
 rcases I.ok.stk with e|⟨e,hf⟩
 ·rw[e]at hb;exact List.mem_cons_of_mem _ hb
 ·rw[e]at hb
  unfold frs at hb
  rw[List.filterMap_cons,hf]at hb
  exact hb
theorem Inv.stkFree(I:Inv X pins σ H s):∀b∈frs X.stack,H b=none:=fun b hb=>by
 rcases List.mem_cons.mp (I.stkSub b hb)with e|hb
 ·rw[e];exact I.free
 ·obtain⟨_,o,ho,_⟩:=I.ok.funs.mem hb
  exact I.base.free b o ho (I.ok.frf b hb) fun z=>I.ok.exfs b z hb
theorem Inv.step{g':Array GenState}{t':Nat}{d':Drawn}{ch:List Addr}(I:Inv X pins σ H s)
  (hch:∀b∈ch,(b∈X.ex∨X.s₀.heap.objs.size≤b)/\b≠X.env.locals/\(∀x c,X.env.cells.lookup x=some c->c≠b)/\∀p∈X.pn++pins,p.1≠b)
  (keep:∀b o,b≠X.env.locals->b∉X.fs->b∉ch->s.heap.get? b=some o->H b=none->h'.get? b=some o)
  (slot:∀b o,b≠X.env.locals->b∈X.fs->b∉ch->s.heap.get? b=some o->H b=none->∃sl,h'.get? b=some {o with slots:=sl}) (free:∀b o,b∉ch->s.heap.get? b=some o->H b=none->H' b=none)
  (there:∀b o,b∉ch->s.heap.get? b=some o->∃o',h'.get? b=some o')
  (tups:∀b xs,H b=some (.tup xs)->H' b=some (.tup xs)) (frzs:∀b o u,H b=some (.frz o u)->H' b=some (.frz o u)) (tbls:∀b ps,H b=some (.tbl ps)->∃more,H' b=some (.tbl (ps++more)))
  (ns:∀m,s.heap.Ns X.env.locals m->h'.Ns X.env.locals m) (hok:HOk X.prog X.w H' h') (hg:AllBare g'):
  Inv X pins σ H' {s with heap:=h',gens:=g',drawn:=d',toks:=t'}:=by
 have neL:∀b o,X.s₀.heap.get? b=some o->b≠X.env.locals:=fun b o e=>Nat.ne_of_lt (Nat.lt_of_lt_of_le (Heap.lt_size e) I.ok.above)
 have neC:∀b o,X.s₀.heap.get? b=some o->b∉X.ex->b∉ch:=fun b o e hx hb=>by
  rcases(hch b hb).1 with z|z
  ·exact hx z
  ·exact absurd (Nat.lt_of_lt_of_le (Heap.lt_size e) z) (Nat.lt_irrefl _)
 have cellK:∀x c,X.env.cells.lookup x=some c->∀v,s.heap.IsCell c v->h'.IsCell c v:=fun x c e v ⟨o,ho,hd⟩=>by
  have nch:c∉ch:=fun z=>(hch c z).2.2.1 x c e rfl
  by_cases hc:c∈X.fs
  ·obtain⟨sl,q⟩:=slot c o (I.cne x c e) hc nch ho (I.freeC x c e)
   exact⟨_,q,hd⟩
  ·exact⟨o,keep c o (I.cne x c e) hc nch ho (I.freeC x c e),hd⟩
 refine⟨I.ok,I.os,hg,⟨fun b o e n hb hx=>?_,fun b o e n hb hx=>?_,fun b o e n hx=>?_,fun b o e hx=>?_,fun b xs e=>tups b xs (I.base.tups b xs e),fun b o xs e=>frzs b o xs (I.base.frzs b o xs e),fun b ps e=>?_⟩,?_,fun x c e=>?_,?_,fun x c e=>?_,fun p hp=>?_,hok,I.len⟩
 ·exact keep b o (neL b o e) hb (neC b o e hx) (I.base.keep b o e n hb hx) (I.base.free b o e n hx)
 ·obtain⟨sl,e1⟩:=I.base.slot b o e n hb hx
  obtain⟨sl',e2⟩:=slot b _ (neL b o e) hb (neC b o e hx) e1 (I.base.free b o e n hx)
  exact⟨sl',e2⟩
 ·obtain⟨o',e1⟩:=I.base.there b o e hx
  exact free b o' (neC b o e hx) e1 (I.base.free b o e n hx)
 ·obtain⟨o',e1⟩:=I.base.there b o e hx
  exact there b o' (neC b o e hx) e1
 ·obtain⟨m1,e1⟩:=I.base.tbls b ps e
  obtain⟨m2,e2⟩:=tbls b _ e1
  exact⟨m1++m2,by rw[e2,Array.append_assoc]⟩
 ·obtain⟨m,hn,hl⟩:=I.loc
  refine⟨m,ns m hn,fun i x v e1 e2 e3=>?_⟩
  obtain⟨u,r,l⟩:=hl i x v e1 e2 e3
  refine⟨u,r,?_⟩
  rcases l with l|⟨k,c,e,z⟩
  ·exact .inl l
  ·exact .inr ⟨k,c,e,cellK x c e _ z⟩
 ·obtain⟨v,z⟩:=I.cell x c e
  exact⟨v,cellK x c e v z⟩
 ·obtain⟨m,⟨o,_,_,ho,_⟩,_⟩:=I.loc
  exact free _ o (fun z=>(hch _ z).2.1 rfl) ho I.free
 ·obtain⟨v,o,ho,hd⟩:=I.cell x c e
  exact free c o (fun z=>(hch c z).2.2.1 x c e rfl) ho (I.freeC x c e)
 ·obtain⟨e,n,ne,nf,d⟩:=I.pin p hp
  have nch:p.1∉ch:=fun z=>(hch p.1 z).2.2.2 p hp rfl
  exact⟨keep p.1 p.2 ne nf nch e n,free p.1 p.2 nch e n,ne,nf,d⟩
theorem Inv.un{t':Nat}(I:Inv X pins σ H s)(u:Un X.fs [] H H' s.heap h')(hok:HOk X.prog X.w H' h'):Inv X pins σ H' {s with heap:=h',toks:=t'}:=by
 obtain⟨m,⟨o,es,ep,ho,r⟩,_⟩:=id I.loc
 obtain⟨sl,hL⟩:=u.any ho I.free (by simp)
 exact I.step (g':=s.gens) (d':=s.drawn) (ch:=[]) (fun _ z=>nomatch z) (fun b o _ hb _ e n=>u.keep b o e n hb (by simp)) (fun b o _ hb _ e n=>u.slot b o e n hb (by simp)) (fun b o _ e n=>u.free b o e n (by simp)) (fun b o _ e=>u.there b o e (by simp)) u.tups u.frzs u.tbls (fun m' hm=>by
  obtain⟨o',es',ep',ho',r'⟩:=hm
  rw[ho]at ho';cases ho'
  exact⟨_,es',ep',hL,r'⟩) hok I.bare
theorem Inv.call{g':Array GenState}{t':Nat}{d':Drawn}{ch:List Addr}(I:Inv X pins σ H s)(u:Un (frs X.stack) ch H H' s.heap h')(hok:HOk X.prog X.w H' h')(hg:AllBare g')
  (hch:∀b∈ch,(b∈X.ex∨X.s₀.heap.objs.size≤b)/\b≠X.env.locals/\(∀x c,X.env.cells.lookup x=some c->c≠b)/\∀p∈X.pn++pins,p.1≠b):
  Inv X pins σ H' {s with heap:=h',gens:=g',drawn:=d',toks:=t'}:=by
 obtain⟨m,⟨o,es,ep,ho,r⟩,_⟩:=id I.loc
 obtain⟨sl,hL⟩:=u.any ho I.free fun z=>(hch _ z).2.1 rfl
 exact I.step (ch:=ch) hch (fun b o hL hb hc e n=>u.keep b o e n (fun z=>(List.mem_cons.mp (I.stkSub b z)).elim hL hb) hc) (fun b o _ _ hc e n=>u.any e n hc) (fun b o hc e n=>u.free b o e n hc) (fun b o hc e=>u.there b o e hc) u.tups u.frzs u.tbls (fun m' hm=>by
  obtain⟨o',es',ep',ho',r'⟩:=hm
  rw[ho]at ho';cases ho'
  exact⟨_,es',ep',hL,r'⟩) hok hg
theorem Inv.turned{t':Nat}{it:Addr}(I:Inv X pins σ H s)(k:∀b o,b≠it->s.heap.get? b=some o->h'.get? b=some o)(hn:H it=none)(hL:it≠X.env.locals)
  (h1:it∈X.ex∨X.s₀.heap.objs.size≤it) (h2:∀x c,X.env.cells.lookup x=some c->c≠it) (h3:∀p∈X.pn++pins,p.1≠it):Inv X pins σ H {s with heap:=h',toks:=t'}:=by
 have nit:∀b u,H b=some u->b≠it:=fun b u e z=>by rw[z,hn]at e;cases e
 refine I.step (g':=s.gens) (d':=s.drawn) (ch:=[it]) (fun b hb=>?_) (fun b o _ _ hc e _=>k b o (fun z=>hc (by simp[z])) e) (fun b o _ _ hc e _=>⟨o.slots,k b o (fun z=>hc (by simp[z])) e⟩) (fun _ _ _ _ n=>n)
  (fun b o hc e=>⟨o,k b o (fun z=>hc (by simp[z])) e⟩) (fun _ _ e=>e) (fun _ _ _ e=>e) (fun b ps e=>⟨#[],by rw[e];simp⟩) (fun m hm=>?_) (fun b u e=>?_) I.bare
 ·have e:b=it:=by simpa using hb
  subst e
  exact⟨h1,hL,h2,h3⟩
 ·obtain⟨o,es,ep,ho,r⟩:=hm
  exact⟨o,es,ep,k _ o (Ne.symm hL) ho,r⟩
 ·refine(I.hok b u e).stay (fun c v hc q=>k c v ?_ q) (fun _ q=>q) fun _ _ q=>q
  rcases hc with z|z
  ·rw[z];exact nit b u e
  ·exact nit c _ z
theorem Inv.tok(I:Inv X pins σ H s)(t:Nat):Inv X pins σ H {s with toks:=t}:=I.un (h':=s.heap) (t':=t) Un.refl I.hok
theorem Inv.kept{t':Nat}(I:Inv X pins σ H s)(k:∀b u,s.heap.get? b=some u->h'.get? b=some u):Inv X pins σ H {s with heap:=h',toks:=t'}:=I.un (Un.kept k) (I.hok.kept k)
theorem Inv.laid{a:Addr}{o:HO}{t':Nat}(I:Inv X pins σ H s)(k:∀b u,s.heap.get? b=some u->h'.get? b=some u)(hp:s.heap.objs.size≤a)(new:Gq X.prog X.w (upd H a o) h' a o):
  Inv X pins σ (upd H a o) {s with heap:=h',toks:=t'}:=I.un (Un.laid k hp (I.hok.fresh hp)) (I.hok.laid k hp new)
theorem Inv.write{x e:Addr}{o:HO}{t':Nat}(I:Inv X pins σ H s)(mu:Mut (H x))(he:e=x∨H e=some (.own x))(k:∀b u,b≠e->s.heap.get? b=some u->h'.get? b=some u)(heo:∃u,h'.get? e=some u)
  (new:Gq X.prog X.w (upd H x o) h' x o):Inv X pins σ (upd H x o) {s with heap:=h',toks:=t'}:=I.un (Un.write mu he k heo) (I.hok.write mu he k heo new)
theorem Inv.pins_of{pins':List (Addr×Obj)}(I:Inv X pins σ H s)(h:∀p∈pins',s.heap.get? p.1=some p.2/\H p.1=none/\p.1≠X.env.locals/\p.1∉X.fs/\∀v,p.2.data≠.cell v):Inv X pins' σ H s:=
 ⟨I.ok,I.os,I.bare,I.base,I.loc,I.cell,I.free,I.freeC,fun p hp=>(List.mem_append.mp hp).elim (fun z=>I.pin p (List.mem_append_left _ z)) (h p),I.hok,I.len⟩
theorem RU{N:List Str}(hN:N.Nodup){i j:Nat}{x:Str}(a:N[i]?=some x)(b:N[j]?=some x):i=j:=by
 obtain⟨h1,e1⟩:=List.getElem?_eq_some_iff.mp a
 obtain⟨h2,e2⟩:=List.getElem?_eq_some_iff.mp b
 exact(List.getElem_inj hN).mp (e1.trans e2.symm)
theorem QL{M:Model}{A:Around}{E:Value->Shared->Prop}{i:Nat}{x:Str}{v:V}{u:Value}{Q:Unit->Shared->Prop}(I:Inv X pins σ H s)(hN:X.N.Nodup)(hi:X.N[i]?=some x)(hx:Loc X.env.scope x)(r:RelV v u)
  (h:∀s',Inv X pins (σ.set i (some v)) H s'->(∃a,Heap.SameBut a s.heap s'.heap/\(a=X.env.locals∨X.env.cells.lookup x=some a))->Q () s') (hf:X.fn x=true∨X.env.scope.names.lookup x=some .local:=by first|exact .inl rfl|exact .inr rfl|assumption):wpAny M A (storeName X.env x u) Q E s:=by
 obtain⟨m,hn,hl⟩:=id I.loc
 have hcls:(X.env.scope.kind== .class||(X.env.scope.kind== .module && X.env.locals !=X.env.globals))=false:=by rw[I.ok.kind];rfl
 have hiσ:i<σ.length:=by rw[I.len];exact(List.getElem?_eq_some_iff.mp hi).1
 have cne:=I.cne
 have tracked:∀{a:Addr} {h':Heap},(∃o,s.heap.get? a=some o/\H a=none)->Heap.SameBut a s.heap h'->HOk X.prog X.w H h':=fun{a h'} ha hs b ob e=>by
  obtain⟨_,_,hfree⟩:=ha
  refine(I.hok b ob e).stay (fun c w' hc q=>(hs.2 c ?_).trans q) (fun _ q=>q) fun _ _ q=>q
  rintro rfl
  rcases hc with rfl|hc
  ·rw[hfree]at e;cases e
  ·rw[hfree]at hc;cases hc
 rcases hx with hk|hk
 ·refine wpAny_storeName_local hk hn (fun h' hn' hs=>?_) hcls
  obtain⟨oL,_,_,hoL,_⟩:=id hn
  refine h _ ⟨I.ok,I.os,I.bare,⟨fun b o e n hb hx=>?_,fun b o e n hb hx=>?_,I.base.free,fun b o e hx=>?_,I.base.tups,I.base.frzs,I.base.tbls⟩,⟨_,hn',fun j y v' e1 e2 e3=>?_⟩,fun y c e=>?_,I.free,I.freeC,fun p hp=>?_,tracked ⟨oL,hoL,I.free⟩ hs,by simpa using I.len⟩ ⟨_,hs,.inl rfl⟩
  ·exact(hs.2 b (Nat.ne_of_lt (Nat.lt_of_lt_of_le (Heap.lt_size e) I.ok.above))).trans (I.base.keep b o e n hb hx)
  ·obtain⟨sl,e1⟩:=I.base.slot b o e n hb hx
   exact⟨sl,(hs.2 b (Nat.ne_of_lt (Nat.lt_of_lt_of_le (Heap.lt_size e) I.ok.above))).trans e1⟩
  ·obtain⟨o',e1⟩:=I.base.there b o e hx
   exact⟨o',(hs.2 b (Nat.ne_of_lt (Nat.lt_of_lt_of_le (Heap.lt_size e) I.ok.above))).trans e1⟩
  ·by_cases hj:j=i
   ·subst hj
    rw[hi]at e1;cases e1
    rw[List.getElem?_set_self hiσ]at e2
    cases e2
    exact⟨u,r,.inl ⟨hk,by simp⟩⟩
   ·rw[List.getElem?_set_ne (Ne.symm hj)]at e2
    obtain⟨u',r',q⟩:=hl j y v' e1 e2 e3
    refine⟨u',r',?_⟩
    rcases q with⟨k,e⟩|⟨k,c,e,z⟩
    ·refine .inl ⟨k,?_⟩
     have:y≠x:=fun e=>hj (RU hN e1 (e▸hi))
     simp[this,e]
    ·exact .inr ⟨k,c,e,z.sameBut hs (cne y c e)⟩
  ·obtain⟨w',z⟩:=I.cell y c e
   exact⟨w',z.sameBut hs (cne y c e)⟩
  ·obtain⟨e,n,ne,nf,d⟩:=I.pin p hp
   exact⟨(hs.2 p.1 ne).trans e,n,ne,nf,d⟩
 ·have hfn:X.fn x=true:=by
   rcases hf with z|z
   ·exact z
   ·rw[z]at hk;cases hk
  obtain⟨c,hc⟩:=I.ok.has x (.inl hk)
  obtain⟨w',z⟩:=I.cell x c hc
  refine wpAny_storeName_cell I.ok.kind hk hc z (fun h' hc' hs=>?_)
  obtain⟨oc,hoc,hocd⟩:=id z
  refine h {s with heap:=h'} ⟨I.ok,I.os,I.bare,⟨fun b o e n hb hx=>?_,fun b o e n hb hx=>?_,I.base.free,fun b o e hx=>?_,I.base.tups,I.base.frzs,I.base.tbls⟩,⟨m,hn.sameBut hs (Ne.symm (cne x c hc)),fun j y v' e1 e2 e3=>?_⟩,fun y c' e=>?_,I.free,I.freeC,fun p hp=>?_,tracked ⟨oc,hoc,I.freeC x c hc⟩ hs,by simpa using I.len⟩ ⟨c,hs,.inr hc⟩
  ·exact(hs.2 b (Nat.ne_of_lt (Nat.lt_of_lt_of_le (Heap.lt_size e) (I.ok.cab x c hfn hc)))).trans (I.base.keep b o e n hb hx)
  ·obtain⟨sl,e1⟩:=I.base.slot b o e n hb hx
   exact⟨sl,(hs.2 b (Nat.ne_of_lt (Nat.lt_of_lt_of_le (Heap.lt_size e) (I.ok.cab x c hfn hc)))).trans e1⟩
  ·obtain⟨o',e1⟩:=I.base.there b o e hx
   exact⟨o',(hs.2 b (Nat.ne_of_lt (Nat.lt_of_lt_of_le (Heap.lt_size e) (I.ok.cab x c hfn hc)))).trans e1⟩
  ·by_cases hj:j=i
   ·subst hj
    rw[hi]at e1;cases e1
    rw[List.getElem?_set_self hiσ]at e2
    cases e2
    exact⟨u,r,.inr ⟨.inl hk,c,hc,hc'⟩⟩
   ·rw[List.getElem?_set_ne (Ne.symm hj)]at e2
    obtain⟨u',r',q⟩:=hl j y v' e1 e2 e3
    refine⟨u',r',?_⟩
    rcases q with q|⟨k,c',e,z'⟩
    ·exact .inl q
    ·refine .inr ⟨k,c',e,z'.sameBut hs ?_⟩
     rintro rfl
     exact hj (RU hN e1 (I.ok.inj _ _ _ e hc▸hi))
  ·by_cases hcc:c'=c
   ·subst hcc;exact⟨_,hc'⟩
   ·obtain⟨w2,z2⟩:=I.cell y c' e
    exact⟨w2,z2.sameBut hs hcc⟩
  ·obtain⟨e,n,ne,nf,d⟩:=I.pin p hp
   refine⟨(hs.2 p.1 ?_).trans e,n,ne,nf,d⟩
   intro q
   rw[q,hoc]at e
   have q':oc=p.2:=Option.some.inj e
   exact d w' (by rw[←q'];exact hocd)
theorem LW{M:Model}{A:Around}{E:Value->Shared->Prop}{i:Nat}{x:Str}{v:V}{u:Value}{Q:Unit->Shared->Prop}(I:Inv X pins σ H s)(hN:X.N.Nodup)(hi:X.N[i]?=some x)(hx:Loc X.env.scope x)(r:RelV v u)
  (h:∀s',Inv X pins (σ.set i (some v)) H s'->Q () s') (hf:X.fn x=true∨X.env.scope.names.lookup x=some .local:=by first|exact .inl rfl|exact .inr rfl|assumption):wpAny M A (storeName X.env x u) Q E s:=
 QL I hN hi hx r (fun s' I' _=>h s' I') hf
theorem Inv.call'{s':Shared}{ch:List Addr}(I:Inv X pins σ H s)(ho:s'.os=s.os)(u:Un (frs X.stack) ch H H' s.heap s'.heap)(hok:HOk X.prog X.w H' s'.heap)(hg:AllBare s'.gens)
  (hch:∀b∈ch,(b∈X.ex∨X.s₀.heap.objs.size≤b)/\b≠X.env.locals/\(∀x c,X.env.cells.lookup x=some c->c≠b)/\∀p∈X.pn++pins,p.1≠b):Inv X pins σ H' s':=by
 obtain⟨h',g',d',t',o'⟩:=s'
 have e:o'=s.os:=ho
 subst e
 exact I.call (g':=g') (t':=t') (d':=d') u hok hg hch
end
abbrev XK:=Value->Option Addr->Hp->Prop
abbrev St:=List (Option V)
abbrev VK:=V->Hp->Prop
abbrev TE:=St->Hp->VK->Prop
abbrev TT:=St->Hp->(Bool->Hp->Prop)->Prop
abbrev TA:=St->Hp->(List V->Hp->Prop)->Prop
structure Ends where
 nx:St->Hp->Prop
 rt:VK
 bk:St->Hp->Prop:=fun _ _=>False
 ct:St->Hp->Prop:=fun _ _=>False
abbrev TS:=Ends->St->Hp->Prop
def EP(X:Cx)(pins:List (Addr×Obj))(σ:St)(Q:VK)(u:Value)(s':Shared):Prop:=∃v H',Inv X pins σ H' s'/\RelV v u/\Q v H'
def TP(X:Cx)(pins:List (Addr×Obj))(σ:St)(Q:Bool->Hp->Prop)(b:Bool)(s':Shared):Prop:=∃H',Inv X pins σ H' s'/\Q b H'
def AP(X:Cx)(pins:List (Addr×Obj))(σ:St)(Q:List V->Hp->Prop)(us:List Value)(s':Shared):Prop:=∃vs H',Inv X pins σ H' s'/\Vals vs us/\Q vs H'
def SP(X:Cx)(pins:List (Addr×Obj))(D:Ends)(f:Flow)(s':Shared):Prop:=
 match f with
 | .next=>∃σ' H',Inv X pins σ' H' s'/\D.nx σ' H'
 | .brk=>∃σ' H',Inv X pins σ' H' s'/\D.bk σ' H'
 | .cont=>∃σ' H',Inv X pins σ' H' s'/\D.ct σ' H'
 | .ret u=>∃v σ' H',Inv X pins σ' H' s'/\RelV v u/\D.rt v H'
def PE(X:Cx)(e:Expr)(t:TE):Prop:=
 ∀(pins:List (Addr×Obj)) (s:Shared) (σ:St) (H:Hp) (Q:VK),Inv X pins σ H s->t σ H Q->wpAny (model X.prog X.w) X.A (eval e X.env) (EP X pins σ Q) X.xe s
def PT(X:Cx)(e:Expr)(t:TT):Prop:=
 ∀(pins:List (Addr×Obj)) (s:Shared) (σ:St) (H:Hp) (Q:Bool->Hp->Prop),Inv X pins σ H s->t σ H Q->wpAny (model X.prog X.w) X.A (isTrue e X.env (eval e X.env)) (TP X pins σ Q) X.xe s
def PW(X:Cx)(e:Expr)(t:TT):Prop:=
 ∀(whole:Sem Value) (pins:List (Addr×Obj)) (s:Shared) (σ:St) (H:Hp) (Q:Bool->Hp->Prop),Inv X pins σ H s->t σ H Q->wpAny (model X.prog X.w) X.A (isTrue e X.env whole) (TP X pins σ Q) X.xe s
theorem PW.pt{X:Cx}{e:Expr}{t:TT}(h:PW X e t):PT X e t:=h _
def PA(X:Cx)(es:List Expr)(t:TA):Prop:=
 ∀(pos:Pos) (pins:List (Addr×Obj)) (s:Shared) (σ:St) (H:Hp) (Q:List V->Hp->Prop),Inv X pins σ H s->t σ H Q->wpAny (model X.prog X.w) X.A (spliced (backTo pos (starEach es X.env))) (AP X pins σ Q) X.xe s
def PS(X:Cx)(st:Stmt)(t:TS):Prop:=
 ∀(pins:List (Addr×Obj)) (s:Shared) (σ:St) (H:Hp) (D:Ends),Inv X pins σ H s->t D σ H->wpAny (model X.prog X.w) X.A (exec st X.env) (SP X pins D) X.xe s
def PSs(X:Cx)(st:List Stmt)(t:TS):Prop:=
 ∀(pins:List (Addr×Obj)) (s:Shared) (σ:St) (H:Hp) (D:Ends),Inv X pins σ H s->t D σ H->wpAny (model X.prog X.w) X.A (execs st X.env) (SP X pins D) X.xe s
theorem thn{α:Type}{t:Sem α}{Q Q':α->Shared->Prop}{M:Model}{A:Around}{E:Value->Shared->Prop}{s:Shared}(h:wpAny M A t Q E s)(hQ:∀a s,Q a s->Q' a s):wpAny M A t Q' E s:=wpAny_mono h hQ fun _ _ x=>x
end L2
namespace L2
open PySem PySem.Spec PyProof.Rows
section
variable{X:Cx}
noncomputable def jI(i:Nat):TE:=fun σ H Q=>∃v,σ[i]?=some (some v)/\Q v H
noncomputable def tC(v:V):TE:=fun _ H Q=>Q v H
theorem Zv{i:Nat}{x:Str}{pos:Pos}(hN:X.N[i]?=some x)(hv:Vis X.env.scope x)(hd:(x==("__debug__":Str))=false:=by decide)(hcd:(x==("__classdict__":Str))=false:=by decide):PE X (.Name x pos) (jI i):=by
 intro pins s σ H Q I h
 obtain⟨v,e,h⟩:=h
 obtain⟨m,hn,hl⟩:=I.loc
 obtain⟨u,r,l⟩:=hl i x v hN e hv
 have fin:EP X pins σ Q u s:=⟨v,H,I,r,h⟩
 rcases l with⟨hk,hm⟩|⟨hk,c,hc,hcell⟩
 ·exact wpAny_Name (wpAny_loadName_local I.ok.kind hk hn hm fin) hd
 ·rcases hk with hk|hk
  ·exact wpAny_Name (wpAny_loadName_cell I.ok.kind hk hc hcell fin) hd
  ·exact wpAny_Name (wpAny_loadName_free I.ok.kind hk hc hcell fin hcd) hd
theorem aN{i j pos}:PE X (.Constant (.int i) j pos) (tC (.int i)):=fun _ _ _ H _ I h=>wpAny_Constant_int ⟨.int i,H,I.tok _,⟨_,rfl⟩,h⟩
theorem fc{b j pos}:PE X (.Constant (.bool b) j pos) (tC (.bl b)):=fun _ _ _ H _ I h=>Constant_bool ⟨.bl b,H,I,rfl,h⟩
theorem cH{j pos}:PE X (.Constant .none j pos) (tC .non):=fun _ _ _ H _ I h=>Constant_none ⟨.non,H,I,rfl,h⟩
theorem aG{x j pos}:PE X (.Constant (.str x) j pos) (tC (.str x)):=fun _ _ _ H _ I h=>Calls.Constant_str ⟨.str x,H,I.tok _,⟨_,rfl⟩,h⟩
def Gl(X:Cx)(x:Str):Prop:=X.env.kindOf x=some .globalImplicit
theorem UJ{E:Value->Shared->Prop}{pins:List (Addr×Obj)}{s:Shared}{σ:St}{H:Hp}{x:Str}{u:Value}{pos:Pos}{Q:Value->Shared->Prop}(I:Inv X pins σ H s)(hg:Gl X x)(hm:X.mg x=some u)(h:Q u s)
  (hd:(x==("__debug__":Str))=false:=by decide):wpAny (model X.prog X.w) X.A (eval (.Name x pos) X.env) Q E s:=
 Calls.Name_function_global I.ok.kind hg (Calls.loadGlobal_global (by rw[I.ok.glob];exact I.mod.glob.keeps I.bk) hm h) hd
theorem Li{E:Value->Shared->Prop}{pins:List (Addr×Obj)}{s:Shared}{σ:St}{H:Hp}{x:Str}{u:Value}{pos:Pos}{Q:Value->Shared->Prop}(I:Inv X pins σ H s)(hg:Gl X x)(hm:X.mg x=none)(hv:bootBuiltins x=some u)(h:Q u s)
  (hn:x≠ "__name__":=by decide) (hd:(x==("__debug__":Str))=false:=by decide):wpAny (model X.prog X.w) X.A (eval (.Name x pos) X.env) Q E s:=by
 obtain⟨mb,h1,h2⟩:=I.mod.blt
 exact Calls.Name_function_global I.ok.kind hg (Calls.loadGlobal_builtin (by rw[I.ok.glob];exact I.mod.glob.keeps I.bk) hm (by rw[I.ok.blt];exact h1.keeps I.bk) ((h2 x hn).trans hv) h) hd
theorem YM{x:Str}{v:V}{u:Value}{pos:Pos}(hg:Gl X x)(hm:X.mg x=some u)(r:RelV v u)(hd:(x==("__debug__":Str))=false:=by decide):PE X (.Name x pos) (tC v):=
 fun _ _ _ H _ I h=>UJ I hg hm ⟨v,H,I,r,h⟩ hd
theorem ZV{x:Str}{v:V}{u:Value}{pos:Pos}(hg:Gl X x)(hm:X.mg x=none)(hv:bootBuiltins x=some u)(r:RelV v u)(hn:x≠ "__name__":=by decide)(hd:(x==("__debug__":Str))=false:=by decide):PE X (.Name x pos) (tC v):=
 fun _ _ _ H _ I h=>Li I hg hm hv ⟨v,H,I,r,h⟩ hn hd
variable{a b:Expr}{ta tb:TE}{pos:Pos}
noncomputable def tB(t:TE):TT:=fun σ H Q=>t σ H fun x H1=>∃c,x=.bl c/\Q c H1
theorem ab{e:Expr}{t:TE}(h:PE X e t)(he:∀whole,isTrue e X.env whole=(do let v←whole;standAt e.pos;holding [v] (truthy v)):=by intro _;rfl):PT X e (tB t):=by
 intro pins s σ H Q I hw
 refine isTrue_plain (thn (h pins s σ H _ I hw) fun v s1 ⟨x,H1,I1,r1,q1⟩=>?_) (he _)
 obtain⟨d,rfl,q⟩:=q1
 cases r1
 exact wpAny_truthy_bool ⟨H1,I1,q⟩
variable{tA tB':TT}{rest:List Expr}
noncomputable def jR(t u:TT):TT:=fun σ H Q=>t σ H fun c H1=>if c=true then u σ H1 Q else Q false H1
noncomputable def tOr(t u:TT):TT:=fun σ H Q=>t σ H fun c H1=>if c=true then Q true H1 else u σ H1 Q
noncomputable def iS(t:TT):TT:=fun σ H Q=>t σ H fun c H1=>Q (!c) H1
theorem Yj(ha:PT X a tA):PW X (.BoolOp .And [a] pos) tA:=by
 intro wh pins s σ H Q I h
 refine isTrue_and (thn (ha pins s σ H Q I h) fun c s1 e=>?_)
 cases c with
 |true=>exact isTrue_and_nil e
 |false=>exact e
theorem bI(ha:PT X a tA):PW X (.BoolOp .Or [a] pos) tA:=by
 intro wh pins s σ H Q I h
 refine isTrue_or (thn (ha pins s σ H Q I h) fun c s1 e=>?_)
 cases c with
 |false=>exact isTrue_or_nil e
 |true=>exact e
theorem bE(ha:PT X a tA)(hb:PW X (.BoolOp .And (b::rest) pos) tB'):PW X (.BoolOp .And (a::b::rest) pos) (jR tA tB'):=by
 intro wh pins s σ H Q I h
 refine isTrue_and (thn (ha pins s σ H _ I h) fun c s1 ⟨H1,I1,q1⟩=>?_)
 cases c with
 |true=>exact hb wh pins s1 σ H1 Q I1 q1
 |false=>exact⟨H1,I1,q1⟩
theorem dz(ha:PT X a tA)(hb:PW X (.BoolOp .Or (b::rest) pos) tB'):PW X (.BoolOp .Or (a::b::rest) pos) (tOr tA tB'):=by
 intro wh pins s σ H Q I h
 refine isTrue_or (thn (ha pins s σ H _ I h) fun c s1 ⟨H1,I1,q1⟩=>?_)
 cases c with
 |true=>exact⟨H1,I1,q1⟩
 |false=>exact hb wh pins s1 σ H1 Q I1 q1
theorem cD(ha:PT X a tA):PT X (.UnaryOp .Not a pos) (iS tA):=by
 intro pins s σ H Q I h
 exact isTrue_not (ha pins s σ H (fun c H1=>Q (!c) H1) I h)
noncomputable def fW(ta tb:TE):TE:=fun σ H Q=>ta σ H fun x H1=>∃c,x=.bl c/\if c=true then tb σ H1 Q else Q (.bl false) H1
noncomputable def dv(ta:TE):TE:=fun σ H Q=>ta σ H fun x H1=>∃c,x=.bl c/\Q (.bl (!c)) H1
theorem bT{op}{t:TE}(h:PE X a t):PE X (.BoolOp op [a] pos) t:=fun pins s σ H Q I hw=>BoolOp_one (h pins s σ H Q I hw)
theorem aB(ha:PE X a ta)(hb:PE X (.BoolOp .And (b::rest) pos) tb):PE X (.BoolOp .And (a::b::rest) pos) (fW ta tb):=by
 intro pins s σ H Q I h
 refine BoolOp_and (thn (ha pins s σ H _ I h) fun v s1 ⟨x,H1,I1,r1,q1⟩=>?_)
 obtain⟨c,rfl,q1⟩:=q1
 cases r1
 refine wpAny_truthy_bool ?_
 cases c with
 |true=>exact hb pins s1 σ H1 Q I1 q1
 |false=>exact⟨.bl false,H1,I1,rfl,q1⟩
theorem bx(ha:PE X a ta):PE X (.UnaryOp .Not a pos) (dv ta):=by
 intro pins s σ H Q I h
 refine UnaryOp_ (thn (ha pins s σ H _ I h) fun v s1 ⟨x,H1,I1,r1,q1⟩=>?_)
 obtain⟨c,rfl,q1⟩:=q1
 cases r1
 exact not_of (wpAny_truthy_bool ⟨.bl (!c),H1,I1,rfl,q1⟩)
noncomputable def tIf(t:TT)(ta tb:TE):TE:=fun σ H Q=>t σ H fun c H1=>if c=true then ta σ H1 Q else tb σ H1 Q
theorem Vb{c:Expr}(hc:PT X c tA)(ha:PE X a ta)(hb:PE X b tb):PE X (.IfExp c a b pos) (tIf tA ta tb):=by
 intro pins s σ H Q I h
 refine wpAny_IfExp (thn (hc pins s σ H _ I h) fun d s1 ⟨H1,I1,q1⟩=>?_)
 cases d with
 |true=>exact ha pins s1 σ H1 Q I1 q1
 |false=>exact hb pins s1 σ H1 Q I1 q1
end
end L2
namespace L2
open PySem PySem.Spec PyProof.Rows
def SqL(K:PySem.W.Frag)(H:Hp)(a:Addr)(xs:List V):Prop:=
 Rd H a (.lst xs)∨
  ∃(o:Obj) (its:Array Value) (n:Nat),K.lookup a=some o/\o.cls=.type "list" /\o.dict=none/\o.data=.seq its n/\its.size≤sizeLine/\Vals xs its.toList
def SqT(K:PySem.W.Frag)(H:Hp)(a:Addr)(xs:List V):Prop:=
 Rd H a (.tup xs)∨
  ∃(o:Obj) (its:Array Value) (n:Nat),K.lookup a=some o/\o.cls=.type "tuple" /\o.data=.seq its n/\its.size≤sizeLine/\Vals xs its.toList
noncomputable def iU:Value->Option V
 | .none=>some .non
 | .bool b=>some (.bl b)
 | .int i _=>some (.int i)
 | .str x _=>some (.str x)
 | .bytes b _=>some (.byt b)
 | .float b _=>some (.flt b)
 | .ref a=>some (.ref a)
 | .type n=>some (.ty n)
 |_=>none
theorem RelV.abs{x:V}{u:Value}(r:RelV x u):iU u=some x:=by
 cases x with
 |non=>cases r;rfl
 |bl _=>cases r;rfl
 |int _=>obtain⟨t,rfl⟩:=r;rfl
 |str _=>obtain⟨t,rfl⟩:=r;rfl
 |byt _=>obtain⟨t,rfl⟩:=r;rfl
 |flt _=>obtain⟨t,rfl⟩:=r;rfl
 |ref _=>cases r;rfl
 |ty _=>cases r;rfl
theorem RelV.inj{x y:V}{u:Value}(r:RelV x u)(q:RelV y u):x=y:=Option.some.inj (r.abs.symm.trans q.abs)
theorem Vals.inj:∀{xs ys:List V} {us:List Value},Vals xs us->Vals ys us->xs=ys
 |_,_,_,.nil,.nil=>rfl
 |_,_,_,.cons r t,.cons r' t'=>by rw[r.inj r',Vals.inj t t']
section
variable{X:Cx}{pins:List (Addr×Obj)}{σ:St}{H:Hp}{s:Shared}{a:Addr}{xs ys:List V}
theorem SqL.of{K:PySem.W.Frag}(h:H a=some (.lst xs)):SqL K H a xs:=.inl (.inl h)
theorem SqT.of{K:PySem.W.Frag}(h:H a=some (.tup xs)):SqT K H a xs:=.inl (.inl h)
theorem Inv.list(I:Inv X pins σ H s)(h:SqL X.K H a xs):∃its:List Value,Vals xs its/\PlainL s.heap a its.toArray/\xs.length≤sizeLine:=by
 rcases h with h|⟨o,its,n,hk,hc,hd,hs,hz,r⟩
 ·obtain⟨z,its,n,r,e⟩:=h.ok I.hok
  exact⟨its,r,⟨_,n,e,rfl,rfl,rfl⟩,z⟩
 ·refine⟨its.toList,r,⟨o,n,I.kIn a o hk,hc,hd,by simpa using hs⟩,?_⟩
  have e:=r.length
  simp only[Array.length_toList]at e
  omega
theorem Inv.tuple(I:Inv X pins σ H s)(h:SqT X.K H a xs):∃its:List Value,Vals xs its/\IsTup s.heap a its.toArray/\xs.length≤sizeLine:=by
 rcases h with h|⟨o,its,n,hk,hc,hs,hz,r⟩
 ·obtain⟨z,its,r,p⟩:=h.ok I.hok
  exact⟨its,r,p,z⟩
 ·refine⟨its.toList,r,⟨o,I.kIn a o hk,hc,n,by simpa using hs⟩,?_⟩
  have e:=r.length
  simp only[Array.length_toList]at e
  omega
theorem Inv.list_inj(I:Inv X pins σ H s)(h:SqL X.K H a xs)(h':SqL X.K H a ys):xs=ys:=by
 obtain⟨its,r,⟨o,n,e,_,_,d⟩,_⟩:=I.list h
 obtain⟨its',r',⟨o',n',e',_,_,d'⟩,_⟩:=I.list h'
 rw[e]at e';cases e'
 rw[d]at d'
 injection d' with d1 _
 have:its=its':=by simpa using congrArg Array.toList d1
 subst this
 exact r.inj r'
theorem Inv.tuple_inj(I:Inv X pins σ H s)(h:SqT X.K H a xs)(h':SqT X.K H a ys):xs=ys:=by
 obtain⟨its,r,⟨o,e,_,n,d⟩,_⟩:=I.tuple h
 obtain⟨its',r',⟨o',e',_,n',d'⟩,_⟩:=I.tuple h'
 rw[e]at e';cases e'
 rw[d]at d'
 injection d' with d1 _
 have:its=its':=by simpa using congrArg Array.toList d1
 subst this
 exact r.inj r'
end
abbrev Cx.wish(X:Cx)(E:Value->Shared->Prop):Cx:={X with xe:=E}
abbrev Cx.nox(X:Cx):Cx:=X.wish fun _ _=>False
theorem Cx.Ok.wish{X:Cx}(ok:X.Ok)(E:Value->Shared->Prop):(X.wish E).Ok:=
 ⟨ok.mod,ok.kind,ok.glob,ok.blt,ok.above,ok.inj,ok.has,ok.cab,ok.hd,ok.frames,ok.stk,ok.exf,ok.bs,ok.bsz,ok.noex,ok.exfs,ok.funs,ok.frf⟩
theorem Cx.Ok.unwish{X:Cx}{E:Value->Shared->Prop}(ok:(X.wish E).Ok):X.Ok:=
 ⟨ok.mod,ok.kind,ok.glob,ok.blt,ok.above,ok.inj,ok.has,ok.cab,ok.hd,ok.frames,ok.stk,ok.exf,ok.bs,ok.bsz,ok.noex,ok.exfs,ok.funs,ok.frf⟩
section
variable{X:Cx}{pins:List (Addr×Obj)}{σ:St}{H:Hp}{s:Shared}{E:Value->Shared->Prop}
theorem Inv.wish(I:Inv X pins σ H s)(E:Value->Shared->Prop):Inv (X.wish E) pins σ H s:=⟨I.ok.wish E,I.os,I.bare,I.base,I.loc,I.cell,I.free,I.freeC,I.pin,I.hok,I.len⟩
theorem Inv.unwish(I:Inv (X.wish E) pins σ H s):Inv X pins σ H s:=⟨I.ok.unwish,I.os,I.bare,I.base,I.loc,I.cell,I.free,I.freeC,I.pin,I.hok,I.len⟩
theorem SP.unwish{D:Ends}{f:Flow}{s':Shared}(h:SP (X.wish E) pins D f s'):SP X pins D f s':=by
 cases f with
 |next=>obtain⟨σ',H',I,q⟩:=h;exact⟨σ',H',I.unwish,q⟩
 |brk=>obtain⟨σ',H',I,q⟩:=h;exact⟨σ',H',I.unwish,q⟩
 |cont=>obtain⟨σ',H',I,q⟩:=h;exact⟨σ',H',I.unwish,q⟩
 |ret u=>obtain⟨v,σ',H',I,r,q⟩:=h;exact⟨v,σ',H',I.unwish,r,q⟩
theorem PSs.nox{st:List Stmt}{t:TS}(h:PSs X.nox st t):PSs X st t:=fun pins s σ H D I hw=>
 wpAny_mono (h pins s σ H D (I.wish _) hw) (fun _ _ q=>q.unwish) fun _ _ z=>False.elim z
end
section
variable{X:Cx}{st:Stmt}{rest:List Stmt}{t u:TS}{e:Expr}{te:TE}{pos:Pos}
noncomputable def d6:TS:=fun D σ H=>D.nx σ H
noncomputable def jK(t u:TS):TS:=fun D σ H=>t {D with nx:=u D} σ H
theorem Y9:PSs X [] d6:=fun _ _ σ H _ I h=>wpAny_execs_nil ⟨σ,H,I,h⟩
theorem Ve(h1:PS X st t)(h2:PSs X rest u):PSs X (st::rest) (jK t u):=by
  intro pins s σ H D I h
  refine wpAny_execs_cons (thn (h1 pins s σ H {D with nx:=u D} I h) fun f s1 q=>?_)
  cases f with
  | next =>
    obtain⟨σ',H',I',q⟩:=q
    exact h2 pins s1 σ' H' D I' q
  |ret v=>exact q
  |brk=>exact q
  |cont=>exact q
theorem ZG(h1:PS X st t):PSs X [st] t:=by
 intro pins s σ H D I h
 refine wpAny_execs_cons (thn (h1 pins s σ H D I h) fun f s1 q=>?_)
 cases f with
 |next=>exact wpAny_execs_nil q
 |ret v=>exact q
 |brk=>exact q
 |cont=>exact q
theorem Inv.quiet{pins:List (Addr×Obj)}{σ:St}{H:Hp}{s:Shared}(I:Inv X pins σ H s):interactive X.env=false:=by simp[interactive,I.ok.kind]
noncomputable def dn(te:TE):TS:=fun D σ H=>te σ H fun _ H1=>D.nx σ H1
theorem ZM(he:PE X e te)(hs:swapsWith e none pos.line X.env=pure false:=by rfl):PS X (.Expr e pos) (dn te):=by
 intro pins s σ H D I h
 exact wpAny_Expr_any (thn (he pins s σ H _ I h) fun v s1 ⟨x,H1,I1,r1,q1⟩=>⟨σ,H1,I1,q1⟩) I.quiet hs
noncomputable def iy(te:TE):TS:=fun D σ H=>te σ H D.rt
theorem Zu(he:PE X e te):PS X (.Return (some e) pos) (iy te):=by
 intro pins s σ H D I h
 exact wpAny_Return_some (thn (he pins s σ H _ I h) fun v s1 ⟨x,H1,I1,r1,q1⟩=>⟨x,σ,H1,I1,r1,q1⟩)
noncomputable def jB(c:TT)(t u:TS):TS:=fun D σ H=>c σ H fun b H1=>if b=true then t D σ H1 else u D σ H1
theorem eZ{c:Expr}{a b:List Stmt}{tc:TT}(hc:PT X c tc)(ha:PSs X a t)(hb:PSs X b u):PS X (.If c a b pos) (jB tc t u):=by
 intro pins s σ H D I h
 refine wpAny_If (thn (hc pins s σ H _ I h) fun d s1 ⟨H1,I1,q1⟩=>?_)
 cases d with
 |true=>exact ha pins s1 σ H1 D I1 q1
 |false=>exact hb pins s1 σ H1 D I1 q1
end
abbrev TG:=V->St->Hp->(St->Hp->Prop)->Prop
abbrev TGs:=List V->St->Hp->(St->Hp->Prop)->Prop
def PG(X:Cx)(target:Expr)(t:TG):Prop:=
 ∀ (pins : List (Addr × Obj)) (s : Shared) (σ : St) (H : Hp) (v : V) (u : Value) (Q : St -> Hp -> Prop), Inv X pins σ H s -> RelV v u -> t v σ H Q ->
  wpAny (model X.prog X.w) X.A (assign target X.env u) (fun _ s'=>∃σ' H',Inv X pins σ' H' s'/\Q σ' H') X.xe s
def PGs(X:Cx)(ts:List Expr)(t:TGs):Prop:=
 ∀ (pins : List (Addr × Obj)) (s : Shared) (σ : St) (H : Hp) (vs : List V) (us : List Value) (Q : St -> Hp -> Prop), Inv X pins σ H s -> Vals vs us -> t vs σ H Q ->
  wpAny (model X.prog X.w) X.A (assignInOrder ((assignEach ts X.env).map (·.2)) us) (fun _ s'=>∃σ' H',Inv X pins σ' H' s'/\Q σ' H') X.xe s
abbrev eH:=V->V->V->Hp->(Hp->Prop)->Prop
def gh(X:Cx)(t:eH):Prop:=
 ∀ (pins : List (Addr × Obj)) (s : Shared) (σ : St) (H : Hp) (o i v : V) (ov iv u : Value) (Q : Hp -> Prop), Inv X pins σ H s -> RelV o ov -> RelV i iv -> RelV v u -> t o i v H Q ->
  wpAny (model X.prog X.w) X.A (setItem ov iv u) (fun _ s'=>∃H',Inv X pins σ H' s'/\Q H') X.xe s
section
variable{X:Cx}{pos:Pos}
noncomputable def Y2(i:Nat):TG:=fun v σ H Q=>Q (σ.set i (some v)) H
theorem Yv{i:Nat}{x:Str}(hN:X.N.Nodup)(hi:X.N[i]?=some x)(hx:Loc X.env.scope x)(hf:X.fn x=true∨X.env.scope.names.lookup x=some .local:=by first|exact .inl rfl|exact .inr rfl|assumption):PG X (.Name x pos) (Y2 i):=by
 intro pins s σ H v u Q I r h
 exact wpAny_assign_Name (LW I hN hi hx r (fun s' I'=>⟨_,H,I',h⟩) hf)
noncomputable def gd:TGs:=fun vs σ H Q=>vs=[]/\Q σ H
noncomputable def cC(t:TG)(u:TGs):TGs:=fun vs σ H Q=>∃v r,vs=v::r/\t v σ H fun σ' H'=>u r σ' H' Q
theorem YS:PGs X [] gd:=by
 intro pins s σ H vs us Q I r h
 obtain⟨e,h⟩:=h
 subst e
 cases r
 exact assignInOrder_nil ⟨σ,H,I,h⟩
theorem Wk{e:Expr}{es:List Expr}{t:TG}{u:TGs}(h1:PG X e t)(h2:PGs X es u)
    (hs:(assignEach (e::es) X.env).map (·.2)=assign e X.env::(assignEach es X.env).map (·.2):=by rfl):PGs X (e::es) (cC t u):=by
  intro pins s σ H vs us Q I r h
  obtain⟨v,vr,e1,h⟩:=h
  subst e1
  cases r with
  | cons r rr =>
    rw[hs]
    refine assignInOrder_cons (thn (h1 pins s σ H _ _ _ I r h) fun _ s1 ⟨σ1,H1,I1,q1⟩=>?_)
    exact h2 pins s1 σ1 H1 _ _ Q I1 rr q1
noncomputable def ic(K:PySem.W.Frag)(n:Nat)(t:TGs):TG:=fun v σ H Q=>∃a xs,v=.ref a/\SqT K H a xs/\xs.length=n/\t xs σ H Q
theorem bB{es:List Expr}{k:Nat}{t:TGs}{n:Nat}(hc:X.calm=true)(h:PGs X es t)
  (hn:(assignEach es X.env).length=n:=by rfl) (hst:(assignEach es X.env).findIdx? (·.1)=none:=by rfl):PG X (.Tuple es k pos) (ic X.K n t):=by
 intro pins s σ H v u Q I r hw
 obtain⟨a,xs,e1,hq,hl,hw⟩:=hw
 subst e1
 cases r
 obtain⟨its,rv,ht,hz⟩:=I.tuple hq
 refine assign_Tuple_tuple (I.ok.hd hc) ht (by simp[hn,←hl,rv.length]) hst fun h' hx=>?_
 have I1:Inv X pins σ H {s with heap:=h'}:=I.kept (t':=s.toks) fun b o e=>hx b o (Nat.ne_of_lt (Heap.lt_size e)) e
 exact h pins _ σ H xs _ Q I1 (by simpa using rv) hw
noncomputable def i9(to ti:TE)(t:eH):TG:=fun v σ H Q=>to σ H fun o H1=>ti σ H1 fun i H2=>t o i v H2 fun H3=>Q σ H3
theorem aT{o i:Expr}{to ti:TE}{t:eH}(ho:PE X o to)(hi:PE X i ti)(hs:gh X t)
  (ha:∀v,assign (.Subscript o i pos) X.env v=(do
   let ov←holding [v] (eval o X.env)
   let iv←holding [v,ov] (eval i X.env)
   standAt pos
   holding [v,ov,iv] (setItem ov iv v)
   release [v,ov,iv] []):=by intro _;rfl):PG X (.Subscript o i pos) (i9 to ti t):=by
 intro pins s σ H v u Q I r h
 rw[ha]
 refine wpAny_bind (wpAny_holding (thn (ho pins s σ H _ I h) fun ov s1 ⟨x,H1,I1,r1,q1⟩=>?_))
 refine wpAny_bind (wpAny_holding (thn (hi pins s1 σ H1 _ I1 q1) fun iv s2 ⟨y,H2,I2,r2,q2⟩=>?_))
 refine wpAny_bind (wpAny_standAt (wpAny_bind (wpAny_holding (thn (hs pins s2 σ H2 x y v ov iv u _ I2 r1 r2 r q2) fun _ s3 ⟨H3,I3,q3⟩=>?_))))
 exact wpAny_release ⟨σ,H3,I3,q3⟩
noncomputable def eU(te:TE)(g:TG):TS:=fun D σ H=>te σ H fun x H1=>g x σ H1 D.nx
theorem Xp{tg e:Expr}{te:TE}{g:TG}(he:PE X e te)(hg:PG X tg g)(hs:swapsWithSole [tg] e pos.line X.env=pure false:=by rfl)(hw:swappedStores [tg] e X.env=pure none:=by rfl)
  (h1:(assignEach [tg] X.env).map (·.2)=[assign tg X.env]:=by rfl):PS X (.Assign [tg] e pos) (eU te g):=by
 intro pins s σ H D I h
 refine wpAny_Assign_stores (thn (he pins s σ H _ I h) fun v s1 ⟨x,H1,I1,r1,q1⟩=>?_) hs hw
 rw[h1]
 exact thn (hg pins s1 σ H1 x v _ I1 r1 q1) fun _ s2 q=>q
theorem av{i:Nat}{x:Str}{e:Expr}{te:TE}{pos':Pos}(hN:X.N.Nodup)(hi:X.N[i]?=some x)(hx:Loc X.env.scope x)(he:PE X e te)(hs:swapsWith e (some (.Name x pos')) pos.line X.env=pure false:=by rfl)(hf:X.fn x=true∨X.env.scope.names.lookup x=some .local:=by first|exact .inl rfl|exact .inr rfl|assumption):
  PS X (.Assign [.Name x pos'] e pos) (eU te (Y2 i)):=by
 intro pins s σ H D I h
 refine wpAny_Assign_Name (thn (he pins s σ H _ I h) fun v s1 ⟨y,H1,I1,r1,q1⟩=>?_) hs
 exact LW I1 hN hi hx r1 (fun s2 I2=>⟨_,H1,I2,q1⟩) hf
noncomputable def iY(i j:Nat)(ta:TA):TS:=fun D σ H=>ta σ H fun vs H1=>∃v w,vs=[v,w]/\D.nx ((σ.set i (some v)).set j (some w)) H1
theorem aW{i j:Nat}{x y:Str}{a b:Expr}{ta:TA}{px py pt:Pos}{kt k2 pt2}(hc:X.calm=true)(hN:X.N.Nodup)(hi:X.N[i]?=some x)(hj:X.N[j]?=some y)(hij:i≠j)
    (hx:X.env.scope.names.lookup x=some .local) (hy:X.env.scope.names.lookup y=some .local) (ha:PA X [a,b] ta)
    (hw:swappedStores [.Tuple [.Name x px,.Name y py] kt pt] (.Tuple [a,b] k2 pt2) X.env=pure (some [x,y]))
    (hs:swapsWithSole [.Tuple [.Name x px,.Name y py] kt pt] (.Tuple [a,b] k2 pt2) pos.line X.env=pure false:=by rfl):
    PS X (.Assign [.Tuple [.Name x px,.Name y py] kt pt] (.Tuple [a,b] k2 pt2) pos) (iY i j ta):=by
  intro pins s σ H D I h
  rw[exec_Assign_arm]
  refine wpAny_bind (wpAny_standAt ?_)
  rw[hs]
  refine wpAny_bind (wpAny_pure ?_)
  rw[if_neg (by decide)]
  refine wpAny_bind (Tuple_ (thn (ha _ pins s σ H _ I h) fun us s1 ⟨vs,H1,I1,r1,q1⟩=>?_))
  obtain⟨v,w,e1,q1⟩:=q1
  subst e1
  obtain ⟨u1, u2, rfl, rv, rw'⟩ : ∃ u1 u2, us = [u1, u2] /\ RelV v u1 /\ RelV w u2 := by
    cases r1 with
    | cons p q =>
      cases q with
      | cons p' q' =>
        cases q'
        exact⟨_,_,rfl,p,p'⟩
  refine wpAny_newObj_type ?_ (by show 2≤sizeLine;decide)
  have I2:Inv X pins σ H1 {s1 with heap:=s1.heap.push {cls:=.type "tuple",data:=.seq [u1,u2].toArray}}:=I1.kept (t':=s1.toks) fun b o e=>Heap.get?_push_of_some _ e
  rw[hw]
  refine wpAny_bind (wpAny_pure ?_)
  show wpAny (model X.prog X.w) X.A (do rule "assign.swapped-stores"; let items←unpackItems (.ref s1.heap.objs.size) 2 none;assignInOrder [fun v=>bindName X.env y v,fun v=>bindName X.env x v] items.reverse;pure Flow.next) _ _ _
  refine wpAny_bind (wpAny_rule (wpAny_bind (unpackItems_tuple (items:= #[u1,u2]) (I.ok.hd hc) (IsTup.new s1.heap _) fun h' hx'=>?_)))
  have I3:=I2.kept (h':=h') (t':=s1.toks) fun b o e=>hx' b o (Nat.ne_of_lt (Heap.lt_size e)) e
  show wpAny _ _ (assignInOrder [fun v=>bindName X.env y v,fun v=>bindName X.env x v] [u2,u1] >>= fun _=>pure Flow.next) _ _ _
  refine wpAny_bind (assignInOrder_cons (wpAny_bindName (LW I3 hN hj (.inl hy) rw' (fun s2 I4=>?_) (.inr hy))))
  refine assignInOrder_cons (wpAny_bindName (LW I4 hN hi (.inl hx) rv (fun s3 I5=>assignInOrder_nil (wpAny_pure ?_)) (.inr hx)))
  rw[List.set_comm _ _ (Ne.symm hij)]at I5
  exact⟨_,H1,I5,q1⟩
end
section
variable{X:Cx}{pos:Pos}
noncomputable def bO(c:TT)(tb:TS):TS:=fun D σ H=>∃W:Nat->St->Hp->Prop,(∃m,W m σ H)/\∀m σ H,W m σ H->
 c σ H fun b H1=>if b=true then∃N:St->Hp->Prop,(∀σ' H',N σ' H'->∃m',m'<m/\W m' σ' H')/\tb {D with nx:=N,ct:=N,bk:=D.nx} σ H1 else D.nx σ H1
theorem VU{c:Expr}{body:List Stmt}{tc:TT}{tb:TS}(hp:PassesOwn (model X.prog X.w) X.A X.env X.xe)(hc:PT X c tc)(hb:PSs X body tb):PS X (.While c body [] pos) (bO tc tb):=by
  intro pins s σ H D I h
  obtain⟨W,⟨m0,w0⟩,turn⟩:=h
  refine wpAny_While (codeAny_whileLoop (fun n s'=>∃σ' H',Inv X pins σ' H' s'/\W n σ' H') ?_ m0 ⟨σ,H,I,w0⟩)
  rintro n s1 ⟨σ1,H1,I1,w1⟩
  refine wpAny_passesOwn hp (thn (hc pins s1 σ1 H1 _ I1 (turn n σ1 H1 w1)) fun b s2 ⟨H2,I2,q2⟩=>?_)
  cases b with
  | true =>
    obtain⟨N,hN,q2⟩:=q2
    rw[if_pos rfl]
    refine wpAny_passesOwn hp (thn (hb pins s2 σ1 H2 _ I2 q2) fun f s3 q3=>?_)
    cases f with
    | next =>
      obtain⟨σ3,H3,I3,n3⟩:=q3
      obtain⟨m',hm,w3⟩:=hN σ3 H3 n3
      exact⟨m',hm,σ3,H3,I3,w3⟩
    | cont =>
      obtain⟨σ3,H3,I3,n3⟩:=q3
      obtain⟨m',hm,w3⟩:=hN σ3 H3 n3
      exact⟨m',hm,σ3,H3,I3,w3⟩
    |brk=>exact q3
    |ret v=>exact q3
  | false =>
    rw[if_neg Bool.false_ne_true]
    exact wpAny_execs_nil ⟨σ1,H2,I2,q2⟩
end
structure It where
 go:Nat->Hp->Prop
 yld:Nat->Hp->V->Hp->Prop
 stop:Nat->Hp->Prop
def PY(X:Cx)(pins:List (Addr×Obj))(H:Hp)(b:Addr):Prop:=
 H b=none/\b≠X.env.locals/\b∉X.fs/\(b∈X.ex∨X.s₀.heap.objs.size≤b)/\(∀x c,X.env.cells.lookup x=some c->c≠b)/\∀p∈X.pn++pins,p.1≠b
theorem Inv.fpOk{X:Cx}{pins:List (Addr×Obj)}{σ:St}{H H':Hp}{s:Shared}{b:Addr}(I:Inv X pins σ H s)(hb:s.heap.objs.size≤b)(hn:H' b=none):PY X pins H' b:=by
 refine⟨hn,Nat.ne_of_gt (Nat.lt_of_lt_of_le I.lt hb),I.nofs hb,.inr (Nat.le_trans I.sz hb),fun x c e z=>?_,fun p hp z=>?_⟩
 ·obtain⟨v,q⟩:=I.cell x c e
  exact absurd (Nat.lt_of_lt_of_le q.lt (by rw[z];exact hb)) (Nat.lt_irrefl _)
 ·exact absurd (Nat.lt_of_lt_of_le (Heap.lt_size (I.pin p hp).1) (by rw[z];exact hb)) (Nat.lt_irrefl _)
structure Turn(P:Program)(w:World)(K:PySem.W.Frag)(tg:Expr)(J:It)(fp:List Addr)(it:Addr)(tn:Nat->Heap->Prop):Prop where
 mem:it∈fp
 obj:∀i h,tn i h->∀b∈fp,∃o,h.get? b=some o/\∀v,o.data≠.cell v
 keep:∀i h h',tn i h->(∀b∈fp,∀o,h.get? b=some o->h'.get? b=some o)->tn i h'
 item:∀(X:Cx),X.prog=P->X.w=w->X.K=K->X.calm=true->∀(i:Nat) (pins:List (Addr×Obj)) (s:Shared) (σ:St) (H:Hp) (E:Value->Shared->Prop),Inv X pins σ H s->(∀b∈fp,PY X pins H b)->tn i s.heap->J.go i H->
  wpAny (model P w) X.A (pyNext (.ref it)) (fun r s1=>∃u,r=some u/\
   wpAny (model P w) X.A (letOwnedTupleGo tg (.ref it) u) (fun _ s2=>∃x H',Inv X pins σ H' s2/\RelV x u/\J.yld i H x H'/\tn (i+1) s2.heap/\∀b∈fp,H' b=none) E s1) E s
 done:∀(X:Cx),X.prog=P->X.w=w->X.K=K->X.calm=true->∀(i:Nat) (pins:List (Addr×Obj)) (s:Shared) (σ:St) (H:Hp) (E:Value->Shared->Prop),Inv X pins σ H s->(∀b∈fp,PY X pins H b)->tn i s.heap->J.stop i H->
  wpAny (model P w) X.A (pyNext (.ref it)) (fun r s1=>r=none/\Inv X pins σ H s1) E s
 self:∀(A:Around) (i:Nat) (s:Shared) (Q:Value->Shared->Prop) (E:Value->Shared->Prop),tn i s.heap->Q (.ref it) s->wpAny (model P w) A (pyIter (.ref it)) Q E s
abbrev TI:=St->Hp->(It->Hp->Prop)->Prop
def PIE(X:Cx)(pins:List (Addr×Obj))(σ:St)(tg:Expr)(R:It->Hp->Prop)(itv:Value)(s2:Shared):Prop:=
 ∃(it:Addr) (fp:List Addr) (tn:Nat->Heap->Prop) (J:It) (H':Hp),itv=.ref it/\Inv X pins σ H' s2/\Turn X.prog X.w X.K tg J fp it tn/\tn 0 s2.heap/\(∀b∈fp,PY X pins H' b)/\R J H'
def PI(X:Cx)(tg iter:Expr)(wi:TI):Prop:=
 ∀ (pins : List (Addr × Obj)) (s : Shared) (σ : St) (H : Hp) (R : It -> Hp -> Prop), Inv X pins σ H s -> wi σ H R ->
  wpAny (model X.prog X.w) X.A (eval iter X.env) (fun v s1=>wpAny (model X.prog X.w) X.A (pyIter v) (PIE X pins σ tg R) X.xe s1) X.xe s
theorem YT {M : Model} {A : Around} {E : Value -> Shared -> Prop} {s : Shared} {tg : Expr} {it : Addr} {u : Value} {o : Obj} {n : String} {vs : Array Value} {Q : Unit -> Shared -> Prop} (ho : s.heap.get? it = some o) (hc : o.cls = .type n) (hd : o.data = .fields vs)
    (hn:["enumerate","zip","dict_itemiterator","dict_reverseitemiterator","odict_iterator","itertools.zip_longest","itertools.pairwise"].contains n=false) (hQ:Q () s):wpAny M A (letOwnedTupleGo tg (.ref it) u) Q E s:=by
  unfold letOwnedTupleGo
  cases tg <;> first
    |exact wpAny_pure hQ
    |(cases u<;>first
        |exact wpAny_pure hQ
        | (refine wpAny_bind (wpAny_load ho ?_)
           rw[hc,hd]
           show wpAny M A (if(["enumerate","zip","dict_itemiterator","dict_reverseitemiterator","odict_iterator","itertools.zip_longest","itertools.pairwise"].contains n && vs[0]?==some (rawInt _))=true then _ else _) Q E s
           rw[if_neg (by intro h;rw[hn,Bool.false_and]at h;cases h)]
           exact wpAny_pure hQ))
noncomputable def Itl(K:PySem.W.Frag)(a:Addr):It:=
 ⟨fun i H=>∃xs x,SqL K H a xs/\xs[i]?=some x,fun i H x H'=>H'=H/\∀xs,SqL K H a xs->xs[i]?=some x,fun i H=>∃xs,SqL K H a xs/\xs.length≤i⟩
noncomputable def Itt(K:PySem.W.Frag)(a:Addr):It:=
 ⟨fun i H=>∃xs x,SqT K H a xs/\xs[i]?=some x,fun i H x H'=>H'=H/\∀xs,SqT K H a xs->xs[i]?=some x,fun i H=>∃xs,SqT K H a xs/\xs.length≤i⟩
noncomputable def Itr(lo:Int)(n:Nat):It:=⟨fun i _=>i<n,fun i H x H'=>H'=H/\x=.int (lo+i),fun i _=>n≤i⟩
theorem Tu{P:Program}{w:World}{K:PySem.W.Frag}{tg:Expr}(a it:Addr):Turn P w K tg (Itl K a) [it] it (fun i h=>h.IsListIter it a i) where
 mem:=by simp
 obj:=fun i h st b hb=>by
  have e:b=it:=by simpa using hb
  subst e
  obtain⟨o,e,c,d⟩:=st
  exact⟨o,e,fun v z=>by rw[d]at z;cases z⟩
 keep:=fun i h h' st k=>st.at fun o e=>k it (by simp) o e
 item:=by
  intro X hP hw hK hc i pins s σ H E I hf st hg
  subst hP hw hK
  obtain⟨xs,x,hq,hx⟩:=hg
  obtain⟨its,rv,p,hz⟩:=I.list hq
  obtain⟨u,hu,ru⟩:=rv.get hx
  obtain⟨f0,f1,f2,f3,f4,f5⟩:=hf it (by simp)
  refine wpAny_pyNext_list_item st p.isList (x:=u) (by simpa using hu) fun h' st' sb=>?_
  have I1:Inv X pins σ H {s with heap:=h'}:=I.turned (t':=s.toks) (fun b o hb e=>(sb.2 b hb).trans e) f0 f1 f3 f4 f5
  obtain⟨o,e,c,d⟩:=id st'
  exact⟨u,rfl,YT (s:={s with heap:=h'}) e c d (by decide) ⟨x,H,I1,ru,⟨rfl,fun ys hy=>by rw[I.list_inj hy hq];exact hx⟩,st',fun b hb=>(hf b hb).1⟩⟩
 done:=by
  intro X hP hw hK hc i pins s σ H E I hf st hg
  subst hP hw hK
  obtain⟨xs,hq,hx⟩:=hg
  obtain⟨its,rv,p,hz⟩:=I.list hq
  obtain⟨f0,f1,f2,f3,f4,f5⟩:=hf it (by simp)
  have hl:=rv.length
  exact wpAny_pyNext_list_end (I.ok.hd hc) st p.isList (by simp;omega) fun h' eb=>⟨rfl,I.turned (t':=s.toks) (fun b o hb e=>eb b o hb e) f0 f1 f3 f4 f5⟩
 self:=fun _ _ _ _ _ st h=>wpAny_pyIter_listiter st h
theorem Rn{P:Program}{w:World}{K:PySem.W.Frag}{tg:Expr}(a it:Addr):Turn P w K tg (Itt K a) [it] it (fun i h=>h.IsTupleIter it a i) where
 mem:=by simp
 obj:=fun i h st b hb=>by
  have e:b=it:=by simpa using hb
  subst e
  obtain⟨o,e,c,d⟩:=st
  exact⟨o,e,fun v z=>by rw[d]at z;cases z⟩
 keep:=fun i h h' st k=>st.at fun o e=>k it (by simp) o e
 item:=by
  intro X hP hw hK hc i pins s σ H E I hf st hg
  subst hP hw hK
  obtain⟨xs,x,hq,hx⟩:=hg
  obtain⟨its,rv,p,hz⟩:=I.tuple hq
  obtain⟨u,hu,ru⟩:=rv.get hx
  obtain⟨f0,f1,f2,f3,f4,f5⟩:=hf it (by simp)
  refine wpAny_pyNext_tuple_item st (show s.heap.IsTuple a its.toArray from p) (x:=u) (by simpa using hu) fun h' st' sb=>?_
  have I1:Inv X pins σ H {s with heap:=h'}:=I.turned (t':=s.toks) (fun b o hb e=>(sb.2 b hb).trans e) f0 f1 f3 f4 f5
  obtain⟨o,e,c,d⟩:=id st'
  exact⟨u,rfl,YT (s:={s with heap:=h'}) e c d (by decide) ⟨x,H,I1,ru,⟨rfl,fun ys hy=>by rw[I.tuple_inj hy hq];exact hx⟩,st',fun b hb=>(hf b hb).1⟩⟩
 done:=by
  intro X hP hw hK hc i pins s σ H E I hf st hg
  subst hP hw hK
  obtain⟨xs,hq,hx⟩:=hg
  obtain⟨its,rv,p,hz⟩:=I.tuple hq
  obtain⟨f0,f1,f2,f3,f4,f5⟩:=hf it (by simp)
  have hl:=rv.length
  exact wpAny_pyNext_tuple_end (I.ok.hd hc) st (show s.heap.IsTuple a its.toArray from p) (by simp;omega) fun h' eb=>⟨rfl,I.turned (t':=s.toks) (fun b o hb e=>eb b o hb e) f0 f1 f3 f4 f5⟩
 self:=fun _ _ _ _ _ st h=>wpAny_pyIter_tupleiter st h
theorem R3{P:Program}{w:World}{K:PySem.W.Frag}{tg:Expr}(it:Addr)(lo:Int)(n:Nat):Turn P w K tg (Itr lo n) [it] it (fun i h=>IsRangeIter h it (lo+(i:Nat)*1) ((n:Int)-(i:Nat)) 1) where
 mem:=by simp
 obj:=fun i h st b hb=>by
  have e:b=it:=by simpa using hb
  subst e
  exact⟨_,st,fun v z=>by
   have z':Data.fields _=Data.cell v:=z
   cases z'⟩
 keep:=fun i h h' st k=>k it (by simp) _ st
 item:=by
  intro X hP hw hK hc i pins s σ H E I hf st hg
  subst hP hw hK
  obtain⟨f0,f1,f2,f3,f4,f5⟩:=hf it (by simp)
  have W:=Walks.range (prog:=X.prog) (w:=X.w) (I.ok.hd hc) it lo 1 n
  refine W.item i s _ _ hg st fun v h' tk hv st' kk=>?_
  obtain⟨t,rfl⟩:=hv
  have I1:Inv X pins σ H {s with heap:=h',toks:=tk}:=I.turned (fun b o hb e=>kk b o (by simpa using hb) e) f0 f1 f3 f4 f5
  refine⟨_,rfl,YT (s:={s with heap:=h',toks:=tk}) (n:="range_iterator") st' rfl rfl (by decide) ⟨.int (lo+i),H,I1,⟨t,?_⟩,⟨rfl,rfl⟩,st',fun b hb=>(hf b hb).1⟩⟩
  rw[Int.mul_one]
 done:=by
  intro X hP hw hK hc i pins s σ H E I hf st hg
  subst hP hw hK
  obtain⟨f0,f1,f2,f3,f4,f5⟩:=hf it (by simp)
  exact wpAny_pyNext_range_end (I.ok.hd hc) st (by have:n≤i:=hg;omega) fun h' eb=>⟨rfl,I.turned (t':=s.toks) (fun b o hb e=>eb b o hb e) f0 f1 f3 f4 f5⟩
 self:=fun _ _ _ _ _ st h=>wpAny_pyIter_rangeiter st h
end L2
namespace L2
open PySem PySem.Spec PyProof.Rows
section
variable{X:Cx}{tg:Expr}
theorem XI{pins:List (Addr×Obj)}{σ:St}{H:Hp}{s:Shared}{R:It->Hp->Prop}{E:Value->Shared->Prop}{lo hi:Int}{t u v:Tok}{tk:Nat}(I:Inv X pins σ H s)(h1: -(2^62)≤lo)(h2:lo<2^62)(h3: -(2^62)≤hi)(h4:hi<2^62)
  (q:R (Itr lo (hi-lo).toNat) H):wpAny (model X.prog X.w) X.A (pyIter (.ref s.heap.objs.size)) (PIE X pins σ tg R) E {s with heap:=s.heap.push {cls:=.type "range",data:=.fields #[.int lo t,.int hi u,.int 1 v]},toks:=tk}:=by
 refine wpAny_pyIter_range (IsRange.new ..) (small_one h1 h2 h3 h4) ?_
 have I1:Inv X pins σ H {s with heap:=s.heap.push {cls:=.type "range",data:=.fields #[.int lo t,.int hi u,.int 1 v]},toks:=tk}:=I.kept fun b o e=>Heap.get?_push_of_some _ e
 refine⟨(s.heap.push {cls:=.type "range",data:=.fields #[.int lo t,.int hi u,.int 1 v]}).objs.size,[(s.heap.push {cls:=.type "range",data:=.fields #[.int lo t,.int hi u,.int 1 v]}).objs.size],_,_,H,rfl,
  I1.kept (t':=tk) fun b o e=>Heap.get?_push_of_some _ e,R3 _ lo (hi-lo).toNat,?_,fun b hb=>?_,q⟩
 ·have e1:lo+((0:Nat):Int)*1=lo:=by simp
  have e2:(((hi-lo).toNat:Nat):Int)-((0:Nat):Int)=Builtin.Range.rangeSize lo hi 1:=by rw[rangeSize_one];split<;>omega
  show IsRangeIter _ _ (lo+((0:Nat):Int)*1) ((((hi-lo).toNat:Nat):Int)-((0:Nat):Int)) 1
  rw[e1,e2]
  exact Heap.get?_push_size _ rfl
 ·have e:b=(s.heap.push {cls:=.type "range",data:=.fields #[.int lo t,.int hi u,.int 1 v]}).objs.size:=by simpa using hb
  subst e
  exact I1.fpOk (Nat.le_refl _) (I1.hok.fresh (Nat.le_refl _))
noncomputable def fq(ta:TA):TI:=fun σ H R=>ta σ H fun vs H1=>∃j:Int,vs=[.int j]/\ -(2^62)≤j/\j<2^62/\R (Itr 0 j.toNat) H1
theorem UC{a:Expr}{ta:TA}{p pos:Pos}(hg:Gl X "range")(hm:X.mg "range"=none)(ha:PA X [a] ta)(hs:starEach [a] X.env=[(false,eval a X.env)]:=by rfl):PI X tg (.Call (.Name "range" p) [a] [] pos) (fq ta):=by
  intro pins s σ H R I h
  refine Call_ (Li I hg hm boot_range (PyProof.Rows.callWith_type1 (thn (ha pos pins s σ H _ I h) fun us s1 ⟨vs,H1,I1,r1,q1⟩=>?_) hs rfl))
  obtain⟨j,e,q1,q2,q⟩:=q1
  subst e
  cases r1 with
  | cons r rr =>
    cases rr
    obtain⟨t,rfl⟩:=r
    exact call_range_1 (XI I1 (by omega) (by omega) q1 q2 (by simpa using q))
noncomputable def jO(wi:TI)(g:TG)(tb:TS):TS:=fun D σ H=>wi σ H fun J H1=>∃W:Nat->Nat->St->Hp->Prop,(∃m,W 0 m σ H1)/\∀i m σ H,W i m σ H->
 (J.stop i H/\D.nx σ H)∨(J.go i H/\∃N:St->Hp->Prop,(∀σ' H',N σ' H'->∃m',m'<m/\W (i+1) m' σ' H')/\∀x H',J.yld i H x H'->g x σ H' fun σ2 H2=>tb {D with nx:=N,ct:=N,bk:=D.nx} σ2 H2)
noncomputable def Pt(fp:List Addr)(h:Heap):List (Addr×Obj):=fp.filterMap fun b=>(h.get? b).map fun o=>(b,o)
theorem Im{fp:List Addr}{h:Heap}{b:Addr}{o:Obj}(hb:b∈fp)(e:h.get? b=some o):(b,o)∈Pt fp h:=List.mem_filterMap.mpr ⟨b,hb,by rw[e];rfl⟩
theorem UX{fp:List Addr}{h:Heap}{p:Addr×Obj}(hp:p∈Pt fp h):p.1∈fp/\h.get? p.1=some p.2:=by
  obtain⟨b,hb,e⟩:=List.mem_filterMap.mp hp
  cases q:h.get? b with
  |none=>rw[q]at e;cases e
  | some o =>
    rw[q]at e
    have e':(b,o)=p:=Option.some.inj e
    subst e'
    exact⟨hb,q⟩
theorem Inv.pinned{pins:List (Addr×Obj)}{σ:St}{H:Hp}{s:Shared}{fp:List Addr}(I:Inv X pins σ H s)(hf:∀b∈fp,PY X pins H b)(ho:∀b∈fp,∃o,s.heap.get? b=some o/\∀v,o.data≠.cell v):Inv X (pins++Pt fp s.heap) σ H s:=
 I.pins_of fun p hp=>(List.mem_append.mp hp).elim (fun z=>I.pin p (List.mem_append_right _ z)) fun z=>by
  obtain⟨hb,e⟩:=UX z
  obtain⟨f0,f1,f2,_⟩:=hf p.1 hb
  obtain⟨o,e',d⟩:=ho p.1 hb
  rw[e]at e';cases e'
  exact⟨e,f0,f1,f2,d⟩
theorem Inv.unpinned{pins pl:List (Addr×Obj)}{σ:St}{H:Hp}{s:Shared}(I:Inv X (pins++pl) σ H s):Inv X pins σ H s:=I.pins_of fun p hp=>I.pin p (List.mem_append_right _ (List.mem_append_left _ hp))
theorem bq{iter:Expr}{body:List Stmt}{wi:TI}{g:TG}{tb:TS}{pos:Pos}(hp:PassesOwn (model X.prog X.w) X.A X.env X.xe)(hc:X.calm=true)(hi:PI X tg iter wi)(hg:PG X tg g)(hb:PSs X body tb)
  (hs:∀x,foldedSetIterable iter X.env x=pure x:=by intro _;rfl):PS X (.For tg iter body [] pos) (jO wi g tb):=by
 intro pins s σ H D I h
 refine wpAny_For (thn (hi pins s σ H _ I h) fun v s1 h1=>thn h1 fun itv s2 h2=>?_) hs
 obtain⟨it,fp,tn,J,H2,e,I2,T,st2,f2,W,⟨m0,w0⟩,turn⟩:=h2
 subst e
 have stat:∀{H':Hp},(∀b∈fp,H' b=none)->∀b∈fp,PY X pins H' b:=fun hn b hb=>⟨hn b hb,(f2 b hb).2⟩
 refine codeAny_forLoop_any (fun n s'=>∃i σ' H',Inv X pins σ' H' s'/\tn i s'.heap/\(∀b∈fp,H' b=none)/\W i n σ' H') ?_ m0 ⟨0,σ,H2,I2,st2,fun b hb=>(f2 b hb).1,w0⟩
 rintro n s3 ⟨i,σ3,H3,I3,st3,fr3,w3⟩
 rcases turn i n σ3 H3 w3 with⟨stop,qn⟩|⟨go,N,hN,step⟩
 ·refine wpAny_passesOwn hp (thn (T.done X rfl rfl rfl hc i pins s3 σ3 H3 X.xe I3 (stat fr3) st3 stop) fun r s4 ⟨hr,I4⟩=>?_)
  subst hr
  exact wpAny_execs_nil ⟨σ3,H3,I4,qn⟩
 ·refine wpAny_passesOwn hp (thn (T.item X rfl rfl rfl hc i pins s3 σ3 H3 X.xe I3 (stat fr3) st3 go) fun r s4 ⟨u,hr,h4⟩=>?_)
  subst hr
  refine wpAny_passesOwn hp (thn h4 fun _ s5 ⟨x,H5,I5,r5,y5,st5,fr5⟩=>?_)
  have I5':=I5.pinned (stat fr5) (T.obj _ _ st5)
  refine wpAny_passesOwn hp (thn (hg _ s5 σ3 H5 x u _ I5' r5 (step x H5 y5)) fun _ s6 ⟨σ6,H6,I6,q6⟩=>?_)
  refine wpAny_passesOwn hp (thn (hb _ s6 σ6 H6 _ I6 q6) fun f s7 q7=>?_)
  have again:∀{σ7:St} {H7:Hp},Inv X (pins++Pt fp s5.heap) σ7 H7 s7->N σ7 H7->∃m,m<n/\∃i σ' H',Inv X pins σ' H' s7/\tn i s7.heap/\(∀b∈fp,H' b=none)/\W i m σ' H':=fun{σ7 H7} I7 n7=>by
   obtain⟨m',hm,w7⟩:=hN σ7 H7 n7
   refine⟨m',hm,i+1,σ7,H7,I7.unpinned,T.keep _ _ _ st5 fun b hb o e=>(I7.pin (b,o) (List.mem_append_right _ (List.mem_append_right _ (Im hb e)))).1,fun b hb=>?_,w7⟩
   obtain⟨o,e,d⟩:=T.obj _ _ st5 b hb
   exact(I7.pin (b,o) (List.mem_append_right _ (List.mem_append_right _ (Im hb e)))).2.1
  cases f with
  |next=>obtain⟨σ7,H7,I7,n7⟩:=q7;exact again I7 n7
  |cont=>obtain⟨σ7,H7,I7,n7⟩:=q7;exact again I7 n7
  |brk=>obtain⟨σ7,H7,I7,q7⟩:=q7;exact⟨σ7,H7,I7.unpinned,q7⟩
  |ret v=>obtain⟨x7,σ7,H7,I7,r7,q7⟩:=q7;exact⟨x7,σ7,H7,I7.unpinned,r7,q7⟩
end
end L2
namespace L2
open PySem PySem.Spec PyProof.Rows
abbrev R2:=V->V->Hp->VK->Prop
def OpR(X:Cx)(f:Value->Value->Sem Value)(r:R2):Prop:=
 ∀ (pins : List (Addr × Obj)) (s : Shared) (σ : St) (H : Hp) (x y : V) (v u : Value) (Q : VK), Inv X pins σ H s -> RelV x v -> RelV y u -> r x y H Q ->
  wpAny (model X.prog X.w) X.A (f v u) (EP X pins σ Q) X.xe s
def UnR(X:Cx)(f:Value->Sem Value)(r:V->Hp->VK->Prop):Prop:=
 ∀ (pins : List (Addr × Obj)) (s : Shared) (σ : St) (H : Hp) (x : V) (v : Value) (Q : VK), Inv X pins σ H s -> RelV x v -> r x H Q ->
  wpAny (model X.prog X.w) X.A (f v) (EP X pins σ Q) X.xe s
def FN(X:Cx)(f:Value)(r:List V->Hp->VK->Prop):Prop:=
 ∀ (pins : List (Addr × Obj)) (s : Shared) (σ : St) (H : Hp) (xs : List V) (us : List Value) (Q : VK), Inv X pins σ H s -> Vals xs us -> r xs H Q ->
  wpAny (model X.prog X.w) X.A (call f us) (EP X pins σ Q) X.xe s
noncomputable def tOp(r:R2)(ta tb:TE):TE:=fun σ H Q=>ta σ H fun x H1=>tb σ H1 fun y H2=>r x y H2 Q
noncomputable def tUn(r:V->Hp->VK->Prop)(ta:TE):TE:=fun σ H Q=>ta σ H fun x H1=>r x H1 Q
noncomputable def rI(C:Int->Int->Prop)(g:Int->Int->V):R2:=fun x y H Q=>∃i j,x=.int i/\y=.int j/\C i j/\Q (g i j) H
noncomputable def rI0(g:Int->Int->V):R2:=fun x y H Q=>∃i j,x=.int i/\y=.int j/\Q (g i j) H
def rU(g:Int->V):V->Hp->VK->Prop:=fun x H Q=>∃i,x=.int i/\Q (g i) H
section
variable{X:Cx}{a b c:Expr}{ta tb tc:TE}{pos:Pos}
theorem eS(ha:PE X a ta)(hb:PE X b tb){pins:List (Addr×Obj)}{s:Shared}{σ:St}{H:Hp}{R:V->V->Hp->Prop}(I:Inv X pins σ H s)
  (h:ta σ H fun x H1=>tb σ H1 fun y H2=>R x y H2) {Q:Value->Shared->Prop} {f:Value->Value->Sem Value}
  (hf:∀v u s2 x y H2,Inv X pins σ H2 s2->RelV x v->RelV y u->R x y H2->wpAny (model X.prog X.w) X.A (f v u) Q X.xe s2):
  wpAny (model X.prog X.w) X.A (eval a X.env) (fun v s₁=>wpAny (model X.prog X.w) X.A (eval b X.env) (fun u s₂=>wpAny (model X.prog X.w) X.A (f v u) Q X.xe s₂) X.xe s₁) X.xe s:=by
 refine thn (ha pins s σ H _ I h) fun v s1 ⟨x,H1,I1,r1,q1⟩=>?_
 refine thn (hb pins s1 σ H1 _ I1 q1) fun u s2 ⟨y,H2,I2,r2,q2⟩=>?_
 exact hf v u s2 x y H2 I2 r1 r2 q2
theorem fP{op:Operator}{r:R2}(ho:OpR X (binaryOp op) r)(ha:PE X a ta)(hb:PE X b tb):PE X (.BinOp a op b pos) (tOp r ta tb):=by
 intro pins s σ H Q I h
 exact wpAny_BinOp (eS ha hb I h fun v u s2 x y H2 I2 rx ry q=>ho pins s2 σ H2 x y v u Q I2 rx ry q)
theorem fQ{op:UnaryOp}{r:V->Hp->VK->Prop}(ho:UnR X (unaryOp op) r)(ha:PE X a ta):PE X (.UnaryOp op a pos) (tUn r ta):=by
 intro pins s σ H Q I h
 exact UnaryOp_ (thn (ha pins s σ H _ I h) fun v s1 ⟨x,H1,I1,r1,q1⟩=>ho pins s1 σ H1 x v Q I1 r1 q1)
theorem opI{f:Value->Value->Sem Value}{C:Int->Int->Prop}{g:Int->Int->Int}
  (rule:∀(i j:Int) (t u:Tok) (s:Shared) (Q:Value->Shared->Prop) (E:Value->Shared->Prop),C i j->Q (.int (g i j) s.toks) {s with toks:=s.toks+1}->wpAny (model X.prog X.w) X.A (f (.int i t) (.int j u)) Q E s):
  OpR X f (rI C fun i j=>.int (g i j)):=by
 intro pins s σ H x y v u Q I rx ry h
 obtain⟨i,j,rfl,rfl,hc,q⟩:=h
 obtain⟨t,rfl⟩:=rx
 obtain⟨t',rfl⟩:=ry
 exact rule i j t t' s _ _ hc ⟨.int (g i j),H,I.tok _,⟨_,rfl⟩,q⟩
theorem gm{f:Value->Value->Sem Value}{g:Int->Int->Int}
  (rule:∀(i j:Int) (t u:Tok) (s:Shared) (Q:Value->Shared->Prop) (E:Value->Shared->Prop),Q (.int (g i j) s.toks) {s with toks:=s.toks+1}->wpAny (model X.prog X.w) X.A (f (.int i t) (.int j u)) Q E s):
  OpR X f (rI0 fun i j=>.int (g i j)):=by
 intro pins s σ H x y v u Q I rx ry h
 obtain⟨i,j,rfl,rfl,q⟩:=h
 obtain⟨t,rfl⟩:=rx
 obtain⟨t',rfl⟩:=ry
 exact rule i j t t' s _ _ ⟨.int (g i j),H,I.tok _,⟨_,rfl⟩,q⟩
theorem cy{f:Value->Value->Sem Value}{g:Int->Int->Bool}
  (rule:∀(i j:Int) (t u:Tok) (s:Shared) (Q:Value->Shared->Prop) (E:Value->Shared->Prop),Q (.bool (g i j)) s->wpAny (model X.prog X.w) X.A (f (.int i t) (.int j u)) Q E s):
  OpR X f (rI0 fun i j=>.bl (g i j)):=by
 intro pins s σ H x y v u Q I rx ry h
 obtain⟨i,j,rfl,rfl,q⟩:=h
 obtain⟨t,rfl⟩:=rx
 obtain⟨t',rfl⟩:=ry
 exact rule i j t t' s _ _ ⟨.bl (g i j),H,I,rfl,q⟩
def iH(i j:Int):Prop:=0≤j/\j≤1000000/\i.natAbs<2^64
def eM(i j:Int):Prop:=(-(2^64)<i/\i<2^64)∨(-(2^64)<j/\j<2^64)
theorem eM.ok{i j:Int}(h:eM i j):IntMulOk i j:=by
 rcases h with⟨h1,h2⟩|⟨h1,h2⟩
 ·exact .of_left (intBits_le_64 h1 h2)
 ·exact .of_right (intBits_le_64 h1 h2)
theorem aX:OpR X (binaryOp .Add) (rI0 fun i j=>.int (i+j)):=gm fun _ _ _ _ _ _ _ q=>add_int q
theorem bz:OpR X (binaryOp .Sub) (rI0 fun i j=>.int (i-j)):=gm fun _ _ _ _ _ _ _ q=>sub_int q
theorem Xh:OpR X (binaryOp .Mult) (rI eM fun i j=>.int (i*j)):=opI fun _ _ _ _ _ _ _ hc q=>mul_int q hc.ok
theorem cB:OpR X (binaryOp .Mod) (rI (fun _ j=>0<j) fun i j=>.int (i % j)):=opI fun i j _ _ _ _ _ hc q=>by
 have h1:(0:Int)<j:=hc
 exact mod_int' (by omega) (by rw[Int.fmod_eq_emod_of_nonneg i (by omega)];exact q)
theorem az:OpR X (binaryOp .Pow) (rI iH fun i j=>.int (i^j.toNat)):=opI fun _ _ _ _ _ _ _ hc q=>pow_int_small hc.1 hc.2.1 hc.2.2 q
theorem unI{f:Value->Sem Value}{g:Int->Int}
  (rule:∀(i:Int) (t:Tok) (s:Shared) (Q:Value->Shared->Prop) (E:Value->Shared->Prop),Q (.int (g i) s.toks) {s with toks:=s.toks+1}->wpAny (model X.prog X.w) X.A (f (.int i t)) Q E s):
  UnR X f (rU fun i=>.int (g i)):=by
 intro pins s σ H x v Q I rx h
 obtain⟨i,rfl,q⟩:=h
 obtain⟨t,rfl⟩:=rx
 exact rule i t s _ _ ⟨.int (g i),H,I.tok _,⟨_,rfl⟩,q⟩
theorem aA:UnR X (unaryOp .USub) (rU fun i=>.int (-i)):=unI fun _ _ _ _ _ q=>neg_int q
end
section
variable{X:Cx}{a b c:Expr}{ta tb tc:TE}{pos:Pos}
theorem aM{pins:List (Addr×Obj)}{σ:St}{H:Hp}{s:Shared}{Q:VK}{k k':Bool}(I:Inv X pins σ H s)(q:Q (.bl k) H)(e:k=k'):EP X pins σ Q (.bool k') s:=by
 subst e
 exact⟨.bl k,H,I,rfl,q⟩
theorem eT:OpR X (compareOp .Lt) (rI0 fun i j=>.bl (decide (i<j))):=cy fun _ _ _ _ _ _ _ q=>lt_int q
theorem dm:OpR X (compareOp .LtE) (rI0 fun i j=>.bl (decide (i≤j))):=cy fun _ _ _ _ _ _ _ q=>le_int q
theorem ek:OpR X (compareOp .Gt) (rI0 fun i j=>.bl (decide (j<i))):=cy fun _ _ _ _ _ _ _ q=>gt_int q
theorem fX:OpR X (compareOp .GtE) (rI0 fun i j=>.bl (decide (j≤i))):=cy fun _ _ _ _ _ _ _ q=>ge_int q
theorem YN:OpR X (compareOp .IsNot) (fun x y H Q=>y=.non/\Q (.bl (!decide (x=.non))) H):=by
 intro pins s σ H x y v u Q I rx ry h
 obtain⟨rfl,q⟩:=h
 cases ry
 refine isnot_none_gen (aM I q ?_)
 cases x<;>first
  |(cases rx;rfl)
  |(obtain⟨t,rfl⟩:=rx;rfl)
theorem Yl{op:CmpOp}{r:R2}(ho:OpR X (compareOp op) r)(ha:PE X a ta)(hb:PE X b tb)(hm:behindInMarks op b=false):PE X (.Compare a [op] [b] pos) (tOp r ta tb):=by
 intro pins s σ H Q I h
 exact wpAny_Compare1 (eS ha hb I h fun v u s2 x y H2 I2 rx ry q=>ho pins s2 σ H2 x y v u Q I2 rx ry q) hm
noncomputable def aY(t:TE):TT:=fun σ H Q=>t σ H fun x H'=>∃k,x=.bl k/\Q k H'
theorem ZW{op:CmpOp}{r:R2}(ho:OpR X (compareOp op) r)(ha:PE X a ta)(hb:PE X b tb)(hm:behindInMarks op b=false):PT X (.Compare a [op] [b] pos) (aY (tOp r ta tb)):=by
 intro pins s σ H Q I h
 refine wpAny_isTrue_Compare1 (thn (ha pins s σ H _ I h) fun v s1 ⟨x,H1,I1,r1,q1⟩=>thn (hb pins s1 σ H1 _ I1 q1) fun u s2 ⟨y,H2,I2,r2,q2⟩=>
  thn (ho pins s2 σ H2 x y v u _ I2 r1 r2 q2) fun c s3 ⟨z,H3,I3,r3,k,e,q3⟩=>?_) hm
 subst e
 cases r3
 exact wpAny_truthy_bool ⟨H3,I3,q3⟩
theorem O7:(sizeLine:Nat)<2^63:=by rw[sizeLine_eq];decide
theorem Rm:OpR X (binaryOp .Add) (fun x y H Q=>∃i j,x=.str i/\y=.str j/\i.length+j.length≤sizeLine/\Q (.str (i++j)) H):=by
 intro pins s σ H x y v u Q I rx ry h
 obtain⟨i,j,rfl,rfl,hz,q⟩:=h
 obtain⟨t,rfl⟩:=rx
 obtain⟨t',rfl⟩:=ry
 exact add_str (fun t' tk=>⟨.str (i++j),H,I.tok _,⟨_,rfl⟩,q⟩) hz
theorem vals1{x:V}{us:List Value}(r:Vals [x] us):∃u,us=[u]/\RelV x u:=by
 cases r with
 |cons r1 r2=>cases r2;exact⟨_,rfl,r1⟩
theorem vals2{x y:V}{us:List Value}(r:Vals [x,y] us):∃u w',us=[u,w']/\RelV x u/\RelV y w':=by
  cases r with
  | cons r1 r2 =>
    cases r2 with
    |cons r3 r4=>cases r4;exact⟨_,_,rfl,r1,r3⟩
theorem V8:FN X (.builtin "abs") (fun xs H Q=>∃i,xs=[.int i]/\Q (.int (if i<0 then-i else i)) H):=by
 intro pins s σ H xs us Q I r h
 obtain⟨i,rfl,q⟩:=h
 obtain⟨u,rfl,t,rfl⟩:=vals1 r
 exact call_abs_int fun u tk=>⟨.int (if i<0 then-i else i),H,I.tok _,⟨_,rfl⟩,q⟩
theorem Tz(hc:X.calm=true):FN X (.builtin "max") (fun xs H Q=>∃i j,xs=[.int i,.int j]/\Q (.int (if j>i then j else i)) H):=by
 intro pins s σ H xs us Q I r h
 obtain⟨i,j,rfl,q⟩:=h
 obtain⟨u,w',rfl,⟨t,rfl⟩,⟨t',rfl⟩⟩:=vals2 r
 refine max_two_ints (I.ok.hd hc) fun h' tk k=>⟨_,H,I.kept k,?_,q⟩
 by_cases hj:j>i
 ·rw[if_pos hj,if_pos hj];exact⟨_,rfl⟩
 ·rw[if_neg hj,if_neg hj];exact⟨_,rfl⟩
theorem SV(hc:X.calm=true):FN X (.builtin "min") (fun xs H Q=>∃i j,xs=[.int i,.int j]/\Q (.int (if j<i then j else i)) H):=by
 intro pins s σ H xs us Q I r h
 obtain⟨i,j,rfl,q⟩:=h
 obtain⟨u,w',rfl,⟨t,rfl⟩,⟨t',rfl⟩⟩:=vals2 r
 refine min_two_ints (I.ok.hd hc) fun h' tk k=>⟨_,H,I.kept k,?_,q⟩
 by_cases hj:j<i
 ·rw[if_pos hj,if_pos hj];exact⟨_,rfl⟩
 ·rw[if_neg hj,if_neg hj];exact⟨_,rfl⟩
theorem QG:FN X (.type "int") (fun xs H Q=>(∃i,xs=[.int i]/\Q (.int i) H)∨∃k,xs=[.bl k]/\Q (.int (if k then 1 else 0)) H):=by
 intro pins s σ H xs us Q I r h
 rcases h with⟨i,rfl,q⟩|⟨k,rfl,q⟩
 ·obtain⟨u,rfl,t,rfl⟩:=vals1 r
  exact call_int_int ⟨.int i,H,I,⟨_,rfl⟩,q⟩
 ·obtain⟨u,rfl,r1⟩:=vals1 r
  cases r1
  exact call_int_bool ⟨.int (if k then 1 else 0),H,I.tok _,⟨_,rfl⟩,q⟩
end
end L2
namespace L2
open PySem PySem.Spec PyProof.Rows
structure eg(h:Heap)(x dx C:Addr)(mA:Str->Option Value):Prop where
 obj:h.get? x=some (PySem.W.instObj C dx)
 ns:h.Ns1 dx mA
 ne:dx≠x
theorem US{h:Heap}{dx:Addr}{mA:Str->Option Value}(n:h.Ns1 dx mA):∃od,h.get? dx=some od/\∀name,PySem.W.lookIn name od=some (mA name):=by
 obtain⟨o,es,ep,ho,hd,hk,_,hm⟩:=n
 refine⟨o,ho,fun name=>?_⟩
 have e:=hm name
 unfold nsFind findBy at e
 rw[←Array.find?_toList]at e
 unfold PySem.W.lookIn
 rw[hd]
 dsimp only
 split
 ·rename_i y q
  rw[q]at e
  exact congrArg some e
 ·rename_i q
  rw[q]at e
  have a:es.toList.any (·.refKey)=false:=by
   rw[List.any_eq_false]
   intro y hy
   obtain⟨z,t,hkey⟩:=hk y (Array.mem_toList_iff.mp hy)
   simp[DictEntry.refKey,hkey]
  have a':¬es.toList.any (·.refKey)=true:=by rw[a];exact Bool.false_ne_true
  rw[if_neg a']
  exact congrArg some e
theorem eg.look{h:Heap}{x dx C:Addr}{mA:Str->Option Value}(I:eg h x dx C mA):∃od,PySem.W.InstAt h x (PySem.W.instObj C dx) C (some od)/\∀name,PySem.W.lookIn name od=some (mA name):=
 let⟨od,ho,hl⟩:=US I.ns
 ⟨od,⟨I.obj,rfl,rfl,ho⟩,hl⟩
section
variable{prog:Program}{w:World}{A:Around}{E:Value->Shared->Prop}{s:Shared}{K:PySem.W.Frag}{x dx C f:Addr}{mA:Str->Option Value}{name:Str}{v:Value}
end
section
variable{P:Program}{w:World}{H H':Hp}{h h':Heap}{a C dx:Addr}{fs fs':List (Str×V)}
theorem YX(hok:HOk P w H h)(e:H a=some (.ins C dx fs)):∃mA,eg h a dx C mA/\(∀f,de (fs.lookup f) (mA f))/\PySem.Within mA (fs.map (·.1))/\fs.length≤1000/\H dx=some (.own a):=by
 obtain⟨d,z,ne,ob,mA,n,r,q⟩:=(show Gq P w H h a (.ins C dx fs)from hok a _ e)
 exact⟨mA,⟨ob,n,ne⟩,r,q,z,d⟩
end
structure Cls(K:PySem.W.Frag)(C:Addr):Prop where
 pg:PySem.W.plainGet K C Str.empty=true
 hd:PySem.W.hasDictIn K C=true
 po:PySem.W.plainOver K C=true
 sa:PySem.W.findIn K (.ref C) "__setattr__"=some (some (.builtin "object.__setattr__"))
theorem Cls.get{K:PySem.W.Frag}{C:Addr}(c:Cls K C)(f:Str):PySem.W.plainGet K C f=true:=c.pg
structure Con(K:PySem.W.Frag)(C:Addr)(f:Str)(v:V)(u:Value):Prop where
 at_:PySem.W.findIn K (.ref C) f=some (some u)
 rel:RelV v u
 get:PySem.W.specialIn K u "__get__"=some none
 cp:PySem.W.copiedNames.contains f=false
structure Meth(K:PySem.W.Frag)(C:Addr)(m:Str)(f:Addr):Prop where
 at_:PySem.W.findIn K (.ref C) m=some (some (.ref f))
 fn:PySem.W.isFn K (.ref f)=true
 kp:PySem.W.keepIn K (.ref f)=true
section
variable{X:Cx}{pins:List (Addr×Obj)}{σ:St}{H:Hp}{s:Shared}{a C dx:Addr}{fs:List (Str×V)}{f:Str}{v:V}{A:Around}{E:Value->Shared->Prop}
end
section
variable{X:Cx}{o e value:Expr}{f:Str}{pos pos' tpos:Pos}{ta tv:TE}
end
section
variable{X:Cx}{pins:List (Addr×Obj)}{σ:St}{H:Hp}{s:Shared}{A:Around}{E:Value->Shared->Prop}{Q:Value->Shared->Prop}{c:Value}{b:Bool}
inductive SS(K:PySem.W.Frag)(H:Hp):V->Value->Prop where
 |non:SS K H .non (.type "NoneType")
 |bl (x:Bool):SS K H (.bl x) (.type "bool")
 |int (i:Int):SS K H (.int i) (.type "int")
 |str (x:Str):SS K H (.str x) (.type "str")
 |flt (x:UInt64):SS K H (.flt x) (.type "float")
 |lst {a:Addr} {xs:List V} (e:H a=some (.lst xs)):SS K H (.ref a) (.type "list")
 |frz {a:Addr} {o:Obj} {xs:List V} (e:H a=some (.frz o (.lst xs))):SS K H (.ref a) (.type "list")
 |tup {a:Addr} {xs:List V} (e:H a=some (.tup xs)):SS K H (.ref a) (.type "tuple")
 |dK {a:Addr} {kvs:List (Key×V)} (e:H a=some (.dK kvs)):SS K H (.ref a) (.type "dict")
 |dT {a:Addr} {kvs:List (List Key×V)} (e:H a=some (.dT kvs)):SS K H (.ref a) (.type "dict")
 | ins {a C dx : Addr} {fs : List (Str × V)} (e : H a = some (.ins C dx fs)) (cl : Cls K C) (ha : PySem.W.findIn K (.ref C) "__class__" = some (some (.builtin "object.__class__")))
   (hn:PySem.W.specialIn K (.builtin "object.__class__") "__get__"=some (some (.builtin "getset_descriptor.__get__"))) (htk:PySem.W.takesIn K (.builtin "object.__class__")=some true)
   (hm:PySem.W.mroIn K C (.type "object")=some true):SS K H (.ref a) (.ref C)
theorem Fe{x:V}{u t:Value}(I:Inv X pins σ H s)(rx:RelV x u)(ty:SS X.K H x t)(e:PySem.W.kitOne X.K t c=some b)(h:∀tk,Q (.bool b) {s with toks:=tk}):
    wpAny (model X.prog X.w) A (call (.builtin "isinstance") [u,c]) Q E s:=by
  cases ty with
  |non=>cases (show u=Value.none from rx);exact PySem.W.kia_one PySem.W.kitx_none I.kIn True.intro e (fun z=>nomatch z) h
  |bl y=>cases (show u=Value.bool y from rx);exact PySem.W.kia_one PySem.W.kitx_bool I.kIn True.intro e (fun z=>nomatch z) h
  |int i=>obtain⟨t,q⟩:=(show∃t,u=Value.int i t from rx);cases q;exact PySem.W.kia_one PySem.W.kitx_int I.kIn True.intro e (fun z=>nomatch z) h
  |str y=>obtain⟨t,q⟩:=(show∃t,u=Value.str y t from rx);cases q;exact PySem.W.kia_one PySem.W.kitx_str I.kIn True.intro e (fun z=>nomatch z) h
  |flt y=>obtain⟨t,q⟩:=(show∃t,u=Value.float y t from rx);cases q;exact PySem.W.kia_one PySem.W.kitx_float I.kIn True.intro e (fun z=>nomatch z) h
  | @lst a xs ea=>
    cases (show u=Value.ref a from rx)
    obtain⟨_,_,n,_,h1⟩:=(show Gq X.prog X.w H s.heap a (.lst xs)from I.hok a _ ea)
    exact PySem.W.kia_one PySem.W.kitx_list I.kIn ⟨_,h1,rfl⟩ e (fun z=>nomatch z) h
  | @frz a ob xs ea=>
    cases (show u=Value.ref a from rx)
    obtain⟨_,_,_,n,_,h1⟩:=(show Gq X.prog X.w H s.heap a (.frz ob (.lst xs))from I.hok a _ ea)
    exact PySem.W.kia_one PySem.W.kitx_list I.kIn ⟨_,h1,rfl⟩ e (fun z=>nomatch z) h
  | @tup a xs ea=>
    cases (show u=Value.ref a from rx)
    obtain⟨_,_,_,p⟩:=(show Gq X.prog X.w H s.heap a (.tup xs)from I.hok a _ ea)
    obtain⟨o,h1,h2,_⟩:=p
    exact PySem.W.kia_one PySem.W.kitx_tuple I.kIn ⟨o,h1,h2⟩ e (fun z=>nomatch z) h
  | @dK a kvs ea=>
    cases (show u=Value.ref a from rx)
    obtain⟨_,_,vs,_,p⟩:=(show Gq X.prog X.w H s.heap a (.dK kvs)from I.hok a _ ea)
    obtain⟨o,es,ep,h1,h2,_⟩:=p
    exact PySem.W.kia_one PySem.W.kitx_dict I.kIn ⟨o,h1,h2.1⟩ e (fun z=>nomatch z) h
  | @dT a kvs ea=>
    cases (show u=Value.ref a from rx)
    obtain⟨_,_,xs,_,o,es,ep,h1,h2,_⟩:=(show Gq X.prog X.w H s.heap a (.dT kvs)from I.hok a _ ea)
    exact PySem.W.kia_one PySem.W.kitx_dict I.kIn ⟨o,h1,h2.1⟩ e (fun z=>nomatch z) h
  | @ins a C dx fs ea cl ha hn htk hm=>
    cases (show u=Value.ref a from rx)
    obtain⟨mA,O,_⟩:=YX I.hok ea
    obtain⟨od,J,_⟩:=O.look
    exact PySem.W.kia_one (PySem.W.kitx_own (cl.get _) cl.hd ha hn htk hm) I.kIn J e (fun z=>nomatch z) h
end
end L2
namespace L2
open PySem PySem.Spec PyProof.Rows
structure NX(k:Nat)(A:Around):Prop where
 hd:A.handled=none
 dp:A.depth+3*k+5<recursionLimit
 un:A.units+16*k+200<cLine
theorem NX.mono{j k:Nat}{A:Around}(r:NX k A)(h:j≤k):NX j A:=⟨r.hd,by have:=r.dp;omega,by have:=r.un;omega⟩
theorem NX.deeper{k:Nat}{A:Around}(r:NX (k+1) A)(env:Env):NX k (A.deeper env):=
 ⟨r.hd,by have:=r.dp;show A.depth+1+3*k+5<_;omega,by have:=r.un;show A.units+3+16*k+200<_;omega⟩
theorem NX.depth{k:Nat}{A:Around}(r:NX k A):A.depth<recursionLimit:=by have:=r.dp;omega
noncomputable def gZ:TA:=fun _ H Q=>Q [] H
noncomputable def aU(ta:TE)(tr:TA):TA:=fun σ H Q=>ta σ H fun x H1=>tr σ H1 fun xs H2=>Q (x::xs) H2
section
variable{X:Cx}{e:Expr}{es:List Expr}{te:TE}{t:TA}{pos:Pos}
theorem Uj:PA X [] gZ:=fun _ _ _ _ H Q I h=>Calls.spliced_nil ⟨[],H,I,.nil,h⟩
theorem Og(ha:PE X e te)(hr:PA X es t)(hs:starEach (e::es) X.env=(false,eval e X.env)::starEach es X.env:=by rfl):PA X (e::es) (aU te t):=by
 intro pos pins s σ H Q I h
 rw[hs]
 show wpAny _ _ (spliced ((false,eval e X.env)::backTo pos (starEach es X.env))) _ _ s
 refine Calls.spliced_cons (thn (ha pins s σ H _ I h) fun u s1 ⟨x,H1,I1,r1,q1⟩=>?_)
 exact thn (hr pos pins s1 σ H1 _ I1 q1) fun us s2 ⟨xs,H2,I2,r2,q2⟩=>⟨x::xs,H2,I2,.cons r1 r2,q2⟩
noncomputable def jQ(t:TA):TE:=fun σ H Q=>t σ H fun xs H1=>xs.length≤sizeLine/\∀p,H1 p=none->Q (.ref p) (upd H1 p (.tup xs))
noncomputable def ig(t:TA):TE:=fun σ H Q=>t σ H fun xs H1=>xs.length≤sizeLine/\∀p,H1 p=none->Q (.ref p) (upd H1 p (.lst xs))
theorem bJ{x1}(h:PA X es t):PE X (.Tuple es x1 pos) (jQ t):=by
 intro pins s σ H Q I hq
 refine wpAny_Tuple_spliced (thn (h pos pins s σ H _ I hq) fun us s1 ⟨xs,H1,I1,r,z,q⟩=>⟨by rw[←r.length];exact z,?_⟩)
 have hf:H1 s1.heap.objs.size=none:=I1.hok.fresh (Nat.le_refl _)
 refine⟨.ref s1.heap.objs.size,upd H1 s1.heap.objs.size (.tup xs),I1.laid (t':=s1.toks) (fun b u e=>Heap.get?_push_of_some _ e) (Nat.le_refl _) ?_,rfl,q _ hf⟩
 exact⟨z,us,r,⟨_,Heap.get?_push_size _ rfl,rfl,_,rfl⟩⟩
theorem ar(h:PA X es t):PE X (.List es pos) (ig t):=by
 intro pins s σ H Q I hq
 refine wpAny_List_spliced (thn (h pos pins s σ H _ I hq) fun us s1 ⟨xs,H1,I1,r,z,q⟩=>⟨by rw[←r.length];exact z,?_⟩)
 have hf:H1 s1.heap.objs.size=none:=I1.hok.fresh (Nat.le_refl _)
 refine⟨.ref s1.heap.objs.size,upd H1 s1.heap.objs.size (.lst xs),I1.laid (t':=s1.toks) (fun b u e=>Heap.get?_push_of_some _ e) (Nat.le_refl _) ?_,rfl,q _ hf⟩
 exact⟨z,us,0,r,Heap.get?_push_size _ rfl⟩
end
abbrev Sp:=List V->Hp->VK->XK->Prop
abbrev CXT:=List Env->Hp->Shared->XK->Value->Shared->Prop
structure dJ(P:Program)(w:World)(K:PySem.W.Frag)(mg:Str->Option Value)(base:Heap)(A:Around)(outer:List Env)(s:Shared)(H:Hp):Prop where
 frames:A.frames=some outer
 mod:Mod K mg base
 bs:∀b o,base.get? b=some o->s.heap.get? b=some o/\H b=none
 bsz:base.objs.size≤s.heap.objs.size
 funs:s.heap.FunFrames base outer
 frf:∀b∈frs outer,H b=none
 hok:HOk P w H s.heap
 bare:AllBare s.gens
def CE(outer:List Env)(P:Program)(w:World)(H:Hp)(s:Shared)(Q:VK)(u:Value)(s':Shared):Prop:=
 ∃v H',s'.os=s.os/\AllBare s'.gens/\Un (frs outer) [] H H' s.heap s'.heap/\HOk P w H' s'.heap/\RelV v u/\Q v H'
def CR(CX:CXT)(outer:List Env)(P:Program)(w:World)(H:Hp)(s:Shared)(Q:VK)(E:XK)(r:Result)(s':Shared):Prop:=
 match r with
 | .ok (.ret u)=>CE outer P w H s Q u s'
 | .ok _=>False
 | .error e=>CX outer H s E e s'
structure Po(P:Program)(w:World)(K:PySem.W.Frag)(mg:Str->Option Value)(base:Heap)(CX:CXT)(k:Nat)(f:Addr)(fd:FuncData)(ps:List Str)(sp:Sp):Prop where
 len:∀vs H Q E,sp vs H Q E->vs.length=ps.length
 run:∀(A:Around) (outer:List Env) (s:Shared) (H:Hp) (args:Args) (us:List Value) (vs:List V) (Q:VK) (E:XK),NX k A->dJ P w K mg base A outer s H->BindsTo s fd args (ps.zip us)->Vals vs us->sp vs H Q E->
  codeAny (model P w) A (.call (.ref f) args) (CR CX outer P w H s Q E) s
theorem Po.imp{P:Program}{w:World}{K:PySem.W.Frag}{mg:Str->Option Value}{base:Heap}{CX:CXT}{k:Nat}{f:Addr}{fd:FuncData}{ps:List Str}{sp sp':Sp}(F:Po P w K mg base CX k f fd ps sp)
  (h:∀vs H Q E,sp' vs H Q E->sp vs H Q E):Po P w K mg base CX k f fd ps sp':=
 ⟨fun vs H Q E q=>F.len vs H Q E (h _ _ _ _ q),fun A outer s H args us vs Q E hr he hb hv hs=>F.run A outer s H args us vs Q E hr he hb hv (h _ _ _ _ hs)⟩
section
variable{X:Cx}{pins:List (Addr×Obj)}{σ:St}{H:Hp}{s s':Shared}
theorem Inv.env0(I:Inv X pins σ H s):dJ X.prog X.w X.K X.mg X.base X.A X.stack s H:=
 ⟨I.ok.frames,I.ok.mod,I.bs,Nat.le_trans I.ok.bsz I.sz,I.stack,I.stkFree,I.hok,I.bare⟩
theorem Inv.after{Q:VK}{u:Value}(I:Inv X pins σ H s)(h:CE X.stack X.prog X.w H s Q u s'):EP X pins σ Q u s':=by
 obtain⟨v,H',os,bare,un,hok,r,q⟩:=h
 obtain⟨hh,g,d,t,os'⟩:=s'
 obtain rfl:os'=s.os:=os
 exact⟨v,H',I.call (h':=hh) (g':=g) (d':=d) (t':=t) (ch:=[]) un hok bare (fun b z=>absurd z (by simp)),r,q⟩
end
noncomputable def Zg(sp:Sp)(dvs:List V)(E:XK)(t:TA):TE:=fun σ H Q=>t σ H fun vs H1=>sp (vs++dvs) H1 Q E
def Binds(K:PySem.W.Frag)(fd:FuncData)(ps:List Str)(ds:List Value):Prop:=
 ∀(s:Shared) (us:List Value),K.In s.heap->(us++ds).length=ps.length->BindsTo s fd ⟨us,[]⟩ (ps.zip (us++ds))
theorem Binds.all{K:PySem.W.Frag}{fd:FuncData}{ps:List Str}(h:∀us:List Value,us.length=ps.length->bindArgs fd ⟨us,[]⟩=pure (ps.zip us)):Binds K fd ps []:=fun s us _ hl=>by
 rw[List.append_nil]at hl⊢
 exact .of_eq (h us hl)
def Passes(CX:CXT)(X:Cx)(E:XK):Prop:=∀(pins:List (Addr×Obj)) (σ:St) (H:Hp) (s:Shared) (e:Value) (s':Shared),Inv X pins σ H s->CX X.stack H s E e s'->X.xe e s'
section
variable{X:Cx}{CX:CXT}{k:Nat}{f C:Addr}{fd:FuncData}{ps:List Str}{sp:Sp}{dvs:List V}{ds:List Value}{E:XK}{x m:Str}{p pos apos:Pos}{e o:Expr}{es:List Expr}{ta:TE}{t:TA}
theorem Zw{pins:List (Addr×Obj)}{σ:St}{H:Hp}{s:Shared}{Q:VK}{us:List Value}{vs:List V}(F:Po X.prog X.w X.K X.mg X.base CX k f fd ps sp)(hr:NX k X.A)(hb:Binds X.K fd ps ds)(hd:Vals dvs ds)(hx:Passes CX X E)
    (I:Inv X pins σ H s) (r:Vals vs us) (h:sp (vs++dvs) H Q E):wpAny (model X.prog X.w) X.A (call (.ref f) us) (EP X pins σ Q) X.xe s:=by
  have r2:Vals (vs++dvs) (us++ds):=r.append hd
  have hl:(us++ds).length=ps.length:=by rw[←r2.length];exact F.len _ _ _ _ h
  refine wpAny_call (codeAny_mono (F.run X.A X.stack s H ⟨us,[]⟩ (us++ds) (vs++dvs) Q E hr I.env0 (hb s us I.kIn hl) r2 h) fun r s' hq=>?_)
  cases r with
  |error e=>exact hx pins σ H s e s' I hq
  | ok fl =>
    cases fl with
    |ret u=>exact I.after hq
    |next=>exact False.elim hq
    |brk=>exact False.elim hq
    |cont=>exact False.elim hq
theorem ZP(F:Po X.prog X.w X.K X.mg X.base CX k f fd ps sp)(hr:NX k X.A)(hg:Gl X x)(hm:X.mg x=some (.ref f))(hk:PySem.W.keepIn X.K (.ref f)=true)(hb:Binds X.K fd ps ds)(hd:Vals dvs ds)(hx:Passes CX X E)
  (ha:PA X (e::es) t) (hdb:(x==("__debug__":Str))=false:=by decide) (he:starEach (e::es) X.env=(false,eval e X.env)::starEach es X.env:=by rfl) (hpl:(backTo pos (starEach es X.env)).any (·.1)=false:=by rfl):
  PE X (.Call (.Name x p) (e::es) [] pos) (Zg sp dvs E t):=by
 intro pins s σ H Q I h
 refine wpAny_Call_Name_kw (UJ I hg hm ?_ hdb)
 refine PySem.W.callWith_K (h₀:=X.base) I.ok.mod.kin hk (thn (ha pos pins s σ H _ I h) fun us s1 ⟨vs,H1,I1,r,q⟩=>⟨I1.kIn,?_⟩) he hpl
 exact Zw F hr hb hd hx I1 r q
structure Mk(K:PySem.W.Frag)(C f:Addr):Prop where
 makes:PySem.W.makesIn K C=true
 init:PySem.W.findIn K (.ref C) "__init__"=some (some (.ref f))
 fn:PySem.W.isFn K (.ref f)=true
 kp:PySem.W.keepIn K (.ref C)=true
end
section
variable{X:Cx}{CX:CXT}{k:Nat}{f C:Addr}{fd:FuncData}{ps ks:List Str}{sp:Sp}{E:XK}{x m:Str}{p pos apos kpos:Pos}{e o:Expr}{es:List Expr}{kws:List Keyword}{te ta:TE}{t tk:TA}{nm:Option Str}
structure gM(K:PySem.W.Frag)(fd:FuncData)(ps ks:List Str)(g:List Value->List Value->List Value)(gV:List V->List V->List V):Prop where
 to:∀(s:Shared) (us ws:List Value),K.In s.heap->(g us ws).length=ps.length->BindsTo s fd ⟨us,ks.zip ws⟩ (ps.zip (g us ws))
 rel:∀{vs:List V} {us:List Value} {zs:List V} {ws:List Value},Vals vs us->Vals zs ws->Vals (gV vs zs) (g us ws)
variable{g:List Value->List Value->List Value}{gV:List V->List V->List V}
end
structure AR(N P:List Str)(sc:Scope):Prop where
 kind:sc.kind=.function
 co:sc.isCoroutine=false
 gen:sc.isGenerator=false
 nd:N.Nodup
 pre:N.take P.length=P
 par:∀x∈P,sc.names.lookup x=some .local∨sc.names.lookup x=some .cell
 nofree:∀y∈sc.names,y.2≠.free
theorem Pc{kindOf:Str->Option NameKind}{x:Str}:∀{binds:List (Str×Value)} {m:Str->Option Value},(∀v,(x,v)∉binds)->bindL kindOf binds m x=m x
  | [],_,_=>rfl
  | (n, v) :: r, m, h => by
    unfold bindL
    rw[Pc fun w hw=>h w (List.mem_cons_of_mem _ hw)]
    split
    · have : x ≠ n := by rintro rfl; exact h v List.mem_cons_self
      simp[this]
    ·rfl
theorem P1{kindOf:Str->Option NameKind}{x:Str}:∀{binds:List (Str×Value)} {m:Str->Option Value},(∀v,(x,v)∉binds)->bindC kindOf binds m x=m x
  | [],_,_=>rfl
  | (n, v) :: r, m, h => by
    unfold bindC
    rw[P1 fun w hw=>h w (List.mem_cons_of_mem _ hw)]
    split
    ·rfl
    · have : x ≠ n := by rintro rfl; exact h v List.mem_cons_self
      simp[this]
theorem Pj{kindOf:Str->Option NameKind}{x:Str}{v:Value}:∀{P:List Str} {vs:List Value} {i:Nat} {m:Str->Option Value},P.Nodup->P[i]?=some x->vs[i]?=some v->kindOf x=some .local->
    bindL kindOf (P.zip vs) m x=some v
  | [],_,_,_,_,h,_,_=>by simp at h
  |_::_,[],_,_,_,_,h,_=>by simp at h
  | p :: P, w :: vs, 0, m, nd, h1, h2, hk => by
    simp at h1 h2;subst h1;subst h2
    show bindL kindOf ((p,w)::P.zip vs) m p=_
    unfold bindL
    rw[Pc fun v hv=>(List.nodup_cons.mp nd).1 (List.of_mem_zip hv).1,if_pos hk]
    simp
  | p :: P, w :: vs, i + 1, m, nd, h1, h2, hk => by
    show bindL kindOf ((p,w)::P.zip vs) m x=_
    unfold bindL
    exact Pj (i:=i) (List.nodup_cons.mp nd).2 (by simpa using h1) (by simpa using h2) hk
theorem PN{kindOf:Str->Option NameKind}{x:Str}{v:Value}:∀{P:List Str} {vs:List Value} {i:Nat} {m:Str->Option Value},P.Nodup->P[i]?=some x->vs[i]?=some v->kindOf x≠some .local->
    bindC kindOf (P.zip vs) m x=some v
  | [],_,_,_,_,h,_,_=>by simp at h
  |_::_,[],_,_,_,_,h,_=>by simp at h
  | p :: P, w :: vs, 0, m, nd, h1, h2, hk => by
    simp at h1 h2;subst h1;subst h2
    show bindC kindOf ((p,w)::P.zip vs) m p=_
    unfold bindC
    rw[P1 fun v hv=>(List.nodup_cons.mp nd).1 (List.of_mem_zip hv).1,if_neg hk]
    simp
  | p :: P, w :: vs, i + 1, m, nd, h1, h2, hk => by
    show bindC kindOf ((p,w)::P.zip vs) m x=_
    unfold bindC
    exact PN (i:=i) (List.nodup_cons.mp nd).2 (by simpa using h1) (by simpa using h2) hk
noncomputable def start(N:List Str)(vs:List V):St:=vs.map some++List.replicate (N.length-vs.length) none
noncomputable def X6(CX:CXT)(P:Program)(w:World)(K:PySem.W.Frag)(mg:Str->Option Value)(base:Heap)(N:List Str)(qual:Str)(scope:Scope)(f:Addr)(cd:Value)(A:Around)(outer:List Env)(s:Shared)(H:Hp)(E:XK):Cx where
 prog:=P
 w:=w
 K:=K
 mg:=mg
 base:=base
 A:=A.deeper (envOfC qual scope s.heap.objs.size f cd)
 N:=N
 s₀:=s
 H₀:=H
 env:=envOfC qual scope s.heap.objs.size f cd
 outer:=outer
 stack:=envOfC qual scope s.heap.objs.size f cd::outer
 ex:=[]
 calm:=true
 fn:=fun _=>true
 pn:=[]
 xe:=fun e s'=>wpAny (model P w) (A.deeper (envOfC qual scope s.heap.objs.size f cd)) (leaving (envOfC qual scope s.heap.objs.size f cd) e) (fun _ s''=>CX outer H s E e s'') (fun e' s''=>CX outer H s E e' s'') s'
theorem LO{sc:Scope}{n:Nat}{x:Str}(h:sc.names.lookup x=some .cell):∃c,(cellsFrom n sc.names []).lookup x=some c:=by
 have q:=PySem.W.cellsFrom_some sc.names n [] (.inl h)
 exact Option.isSome_iff_exists.mp q
theorem Uu{CX:CXT}{P:Program}{w:World}{K:PySem.W.Frag}{mg:Str->Option Value}{base:Heap}{N ps:List Str}{qual:Str}{scope:Scope}{f:Addr}{cd:Value}{A:Around}{outer:List Env}{s s1:Shared}{H:Hp}{E:XK}{us:List Value}{vs:List V}
  (S:AR N ps scope) (hd:A.handled=none) (e0:dJ P w K mg base A outer s H) (hl:vs.length=ps.length) (r:Vals vs us)
  (x:InCallC s s.heap.objs.size (bindL (envOfC qual scope s.heap.objs.size f cd).kindOf (ps.zip us) fun _=>none) (cellsFrom (s.heap.objs.size+1) scope.names []) (bindC (envOfC qual scope s.heap.objs.size f cd).kindOf (ps.zip us) fun _=>none) s1):
  Inv (X6 CX P w K mg base N qual scope f cd A outer s H E) [] (start N vs) H s1:=by
 have hpl:ps.length≤N.length:=by have:=congrArg List.length S.pre;rw[List.length_take]at this;omega
 obtain⟨h1,tk,rfl,hk⟩:=x.done
 have noA:∀b:Addr,b∉(X6 CX P w K mg base N qual scope f cd A outer s H E).ex:=fun b z=>absurd (show b∈([]:List Addr)from z) (by simp)
 refine⟨⟨e0.mod,S.kind,rfl,rfl,Nat.le_refl _,fun y z c h1 h2=>?_,fun y hy=>?_,fun y c _ h=>?_,fun _=>hd,Around.frames_deeper e0.frames,.inr ⟨rfl,rfl⟩,fun b z=>absurd z (noA b),e0.bs,e0.bsz,fun b _ _=>noA b,fun b z=>absurd z (noA b),e0.funs,e0.frf⟩,
  rfl,e0.bare,Un.kept hk,⟨_,x.toInCall.ns,fun i y v h1 h2 h3=>?_⟩,fun y c h=>⟨_,x.cell y c h⟩,e0.hok.fresh (Nat.le_refl _),fun y c h=>?_,fun p hp=>absurd (show p∈([]:List (Addr×Obj))from hp) (by simp),e0.hok.kept hk,?_⟩
 ·exact name_of_addr x.apart (PySem.mem_of_lookup h1) (PySem.mem_of_lookup h2)
 ·have hy:scope.names.lookup y=some .cell∨scope.names.lookup y=some .free:=hy
  rcases hy with hy|hy
  ·exact LO hy
  ·exact absurd rfl (S.nofree _ (PySem.mem_of_lookup hy))
 ·exact Nat.le_of_lt (x.above y c (PySem.mem_of_lookup h))
 ·have hi:i<vs.length:=by
   unfold start at h2
   by_cases hi:i<vs.length
   ·exact hi
   ·rw[List.getElem?_append_right (by simpa using hi)]at h2
    rw[List.getElem?_replicate]at h2
    split at h2<;>cases h2
  have ha:vs[i]?=some v:=by
   unfold start at h2
   rw[List.getElem?_append_left (by simpa using hi),List.getElem?_map]at h2
   cases e:vs[i]? with
   |none=>rw[e]at h2;cases h2
   |some a=>rw[e]at h2;cases h2;rfl
  obtain⟨u,hu,rv⟩:=r.get ha
  have hp:ps[i]?=some y:=by
   rw[←S.pre,List.getElem?_take_of_lt (by omega)];exact h1
  have ndP:ps.Nodup:=by rw[←S.pre];exact S.nd.sublist (List.take_sublist _ _)
  refine⟨u,rv,?_⟩
  rcases S.par y (List.mem_of_getElem? hp)with k|k
  ·exact .inl ⟨k,Pj ndP hp hu k⟩
  ·obtain⟨c,e⟩:=LO (n:=s.heap.objs.size+1) k
   refine .inr ⟨.inl k,c,e,?_⟩
   have q:=x.cell y c e
   rw[PN ndP hp hu (by show scope.names.lookup y≠_;rw[k];decide)]at q
   exact q
 ·exact e0.hok.fresh (Nat.le_of_lt (x.above y c (PySem.mem_of_lookup h)))
 ·unfold start
  show _=N.length
  rw[List.length_append,List.length_map,List.length_replicate]
  omega
theorem fS{CX:CXT}{P:Program}{w:World}{K:PySem.W.Frag}{mg:Str->Option Value}{base:Heap}{k:Nat}{f:Addr}{name qual:Str}{params:Arguments}{body:List Stmt}{scope:Scope}{dV kV doc pm cdv ct oc:Value}{an od:Option Addr}
    {osl:Array (Option Value)} {N ps:List Str} {sp:Sp} (lk:K.lookup f=some ⟨oc,od,.func (PySem.W.fnOf name qual params body scope dV kV doc pm an cdv ct),osl⟩) (hcd:PySem.W.codeIn K cdv qual=true) (S:AR N ps scope)
    (len:∀vs H Q E,sp vs H Q E->vs.length=ps.length)
    (hbody:∀(A:Around) (outer:List Env) (s:Shared) (H:Hp) (vs:List V) (Q:VK) (E:XK),NX k (A.deeper (envOfC qual scope s.heap.objs.size f cdv))->sp vs H Q E->
      ∃t,PSs (X6 CX P w K mg base N qual scope f cdv A outer s H E) body t/\t {nx:=fun _ H'=>Q .non H',rt:=Q} (start N vs) H):
    Po P w K mg base CX (k+1) f (PySem.W.fnOf name qual params body scope dV kV doc pm an cdv ct) ps sp:=by
  refine⟨len,fun A outer s H args us vs Q E hr e0 hb r hsp=>?_⟩
  have hl:=len _ _ _ _ hsp
  have KX:K.In s.heap:=e0.mod.kin.keeps fun b o e=>(e0.bs b o e).1
  have lim:s.heap.NoLimit:=e0.mod.nolimit.keeps fun b o e=>(e0.bs b o e).1
  have hkind:∀y∈ps.zip us,scope.names.lookup y.1=some .local∨(scope.names.lookup y.1=some .cell/\((cellsFrom (s.heap.objs.size+1) scope.names []).lookup y.1).isSome=true):=fun⟨n,v⟩ hy=>by
    rcases S.par n (List.of_mem_zip hy).1 with q|q
    ·exact .inl q
    ·exact .inr ⟨q,PySem.W.cellsFrom_some _ _ _ (.inl q)⟩
  refine codeAny_call_function hr.depth (KX _ _ lk) rfl S.co S.gen rfl (PySem.W.codeRec_of KX hcd) (hb _ _ _ _ ?_)
  refine wpAny_newFunctionEnv_cells S.kind hkind fun env he s1 x=>?_
  subst he
  refine⟨lim.keeps x.toInCall.keep,codeAny_func ?_⟩
  obtain⟨t,ht,hq⟩:=hbody A outer s H vs Q E (hr.deeper _) hsp
  have I:Inv (X6 CX P w K mg base N qual scope f cdv A outer s H E) [] (start N vs) H s1:=Uu S hr.hd e0 hl r x
  refine wpAny_mono (ht [] s1 (start N vs) H _ I hq) (fun fl s' hs=>?_) fun e s' hs=>hs
  have fin:∀{σ':St} {H':Hp} {v:V} {u:Value},Inv (X6 CX P w K mg base N qual scope f cdv A outer s H E) [] σ' H' s'->RelV v u->Q v H'->CE outer P w H s Q u s':=
    fun{σ' H' v u} J rv q=>⟨v,H',J.os,J.bare,J.base,J.hok,rv,q⟩
  cases fl with
  | ret u =>
    obtain⟨v,σ',H',J,rv,q⟩:=hs
    exact fin J rv q
  | next =>
    obtain⟨σ',H',J,q⟩:=hs
    exact fin (v:=V.non) (u:=Value.none) J rfl q
  | brk =>
    obtain⟨_,_,_,q⟩:=hs
    exact False.elim q
  | cont =>
    obtain⟨_,_,_,q⟩:=hs
    exact False.elim q
end L2
namespace L2
open PySem PySem.Spec PyProof.Rows
section
variable{X:Cx}{x:Str}{p pos:Pos}{e:Expr}{es:List Expr}{t:TA}{id T:String}{r:List V->Hp->VK->Prop}
noncomputable def tCB(r:List V->Hp->VK->Prop)(t:TA):TE:=fun σ H Q=>t σ H fun vs H1=>r vs H1 Q
theorem V2(hc:FN X (.builtin id) r)(hg:Gl X x)(hm:X.mg x=none)(hv:bootBuiltins x=some (.builtin id))(ha:PA X (e::es) t)(hn:x≠ "__name__":=by decide)(hdb:(x==("__debug__":Str))=false:=by decide)
  (he:starEach (e::es) X.env=(false,eval e X.env)::starEach es X.env:=by rfl) (hpl:(backTo pos (starEach es X.env)).any (·.1)=false:=by rfl):PE X (.Call (.Name x p) (e::es) [] pos) (tCB r t):=by
 intro pins s σ H Q I h
 refine wpAny_Call_Name_kw (Li I hg hm hv ?_ hn hdb)
 exact PyProof.Rows.callWith_builtin1 (thn (ha pos pins s σ H _ I h) fun us s1 ⟨vs,H1,I1,r1,q1⟩=>hc pins s1 σ H1 vs us Q I1 r1 q1) he hpl
theorem UI(hc:FN X (.type T) r)(hg:Gl X x)(hm:X.mg x=none)(hv:bootBuiltins x=some (.type T))(ha:PA X (e::es) t)(hn:x≠ "__name__":=by decide)(hdb:(x==("__debug__":Str))=false:=by decide)
  (he:starEach (e::es) X.env=(false,eval e X.env)::starEach es X.env:=by rfl) (hpl:(backTo pos (starEach es X.env)).any (·.1)=false:=by rfl):PE X (.Call (.Name x p) (e::es) [] pos) (tCB r t):=by
 intro pins s σ H Q I h
 refine wpAny_Call_Name_kw (Li I hg hm hv ?_ hn hdb)
 exact PyProof.Rows.callWith_type1 (thn (ha pos pins s σ H _ I h) fun us s1 ⟨vs,H1,I1,r1,q1⟩=>hc pins s1 σ H1 vs us Q I1 r1 q1) he hpl
end
end L2
namespace HT
open PySem PyProof.Rows
section
open PySem.SeqAt
open PySem.AutoSeq1 (wpAny_loadPart')
open PySem.MeetsSeq PySem.MeetsSeq2 PySem.MeetsSeq3
end
section
variable{prog:Program}{w:World}{A:Around}{E:Value->Shared->Prop}{s:Shared}
theorem ZQ{t b:Addr}{vs ws:List Value}{Q:Value->Shared->Prop}(ht:IsTup s.heap t vs.toArray)(hb:IsTup s.heap b ws.toArray)(hv:vs≠[])
  (h1:ws=[]->Q (.ref t) s) (h2:ws≠[]->Q (.ref s.heap.objs.size) {s with heap:=s.heap.push {cls:=.type "tuple",data:=.seq (vs++ws).toArray}})
  (hsz:vs.length+ws.length≤sizeLine):wpAny (model prog w) A (binaryOp .Add (.ref t) (.ref b)) Q E s:=by
 obtain⟨⟨cls,dd,data,sl⟩,ho,hc,n,hd⟩:=id ht
 obtain⟨⟨cls2,dd2,data2,sl2⟩,ho2,hc2,n2,hd2⟩:=id hb
 simp only at hc hd hc2 hd2
 subst hc hd hc2 hd2
 have e:vs.toArray++ws.toArray=(vs++ws).toArray:=by simp
 by_cases hw:ws=[]
 ·exact concat_meets ⟨_,ho,rfl⟩ ⟨_,ho2,rfl⟩ noFill_tuple_add seq_tuple_add PySem.F.slot_tuple_add PySem.F.entry_tuple_add (PySem.F.args_tuple_add_2 _ _)
   (tuple_addW1 t b vs.toArray ws.toArray n n2 dd dd2 sl sl2 (by simpa using hv) (by simp[hw])) ⟨ho,ho2,h1 hw⟩
 ·refine concat_meets ⟨_,ho,rfl⟩ ⟨_,ho2,rfl⟩ noFill_tuple_add seq_tuple_add PySem.F.slot_tuple_add PySem.F.entry_tuple_add (PySem.F.args_tuple_add_2 _ _)
   (tuple_addW2 t b vs.toArray ws.toArray n n2 dd dd2 sl sl2 (by simpa using hv) (by simpa using hw) (by rw[List.size_toArray,List.size_toArray];exact hsz)) ⟨ho,ho2,?_⟩
  rw[e]
  exact h2 hw
noncomputable def sIx(n d:Nat):Option Int->Nat
 |none=>d
 |some v=>if v<0 then(v+(n:Int)).toNat else min v.toNat n
theorem QU(n d k:Nat):sIx n d (some (k:Int))=min k n:=by
 show(if(k:Int)<0 then((k:Int)+(n:Int)).toNat else min (k:Int).toNat n)=min k n
 rw[if_neg (by omega),Int.toNat_natCast]
theorem bD(n d:Nat)(hd:d≤n)(o:Option Int):sIx n d o≤n:=by
  cases o with
  |none=>exact hd
  | some v =>
    show(if v<0 then(v+(n:Int)).toNat else min v.toNat n)≤n
    by_cases hv:v<0
    ·rw[if_pos hv];omega
    ·rw[if_neg hv];exact Nat.min_le_right _ _
theorem UK(v:Int)(n d:Nat):(if v<0 then max (v+(n:Int)) 0 else min v (n:Int))=((sIx n d (some v):Nat):Int):=by
 show(if v<0 then max (v+(n:Int)) 0 else min v (n:Int))=(((if v<0 then(v+(n:Int)).toNat else min v.toNat n):Nat):Int)
 by_cases hv:v<0
 ·simp only[if_pos hv];omega
 ·simp only[if_neg hv];omega
theorem R6(lo hi:Option Int)(n:Nat):Builtin.Slice.sliceAdjust lo hi 1 (n:Int)=(((sIx n 0 lo:Nat):Int),((sIx n n hi:Nat):Int)):=by
 have h1:¬((1:Int)<0):=by omega
 unfold Builtin.Slice.sliceAdjust
 simp only[h1,if_false]
 refine Prod.ext ?_ ?_
 ·cases lo with
  |none=>rfl
  |some v=>exact UK v n 0
 ·cases hi with
  |none=>rfl
  |some v=>exact UK v n n
theorem Rx(i j:Nat):Builtin.Slice.slicePlaces (i:Int) (j:Int) 1=j-i:=by
 unfold Builtin.Slice.slicePlaces
 have h1:(1:Int)>0:=by omega
 simp only[h1,if_true,Int.ediv_one]
 split<;>omega
theorem Ng{v:Value}{o:Option Int}{Q:Option Int->Shared->Prop}(p:IsPart v o)(h:Q o s):wpAny (model prog w) A (Builtin.Slice.slicePartIndex v) Q E s:=by
 cases p with
 |none=>exact slicePart_none h
 |int i t=>exact slicePart_int h
theorem HX{sl:Addr}{vl vu:Value}{lo hi:Option Int}{n:Nat}{Q:Int×Int×Nat->Shared->Prop}(hs:s.heap.IsSliceOf sl vl vu .none)(pl:IsPart vl lo)(pu:IsPart vu hi)
  (h:Q (((sIx n 0 lo:Nat):Int),1,sIx n n hi-sIx n 0 lo) s):wpAny (model prog w) A (Builtin.Slice.sliceApplied (.ref sl) (pure (n:Int))) Q E s:=by
 obtain⟨os,hos,hcs,hds⟩:=id hs
 unfold Builtin.Slice.sliceApplied Builtin.Slice.sliceFields
 refine wpAny_bind (wpAny_bind (wpAny_field hos hds (x:=vl) rfl (wpAny_bind (wpAny_field hos hds (x:=vu) rfl (wpAny_bind (wpAny_field hos hds (x:=.none) rfl (wpAny_pure ?_)))))))
 refine wpAny_bind (slicePart_none ?_)
 show wpAny _ _ (if((1:Int)==0)=true then _ else _) _ _ s
 rw[if_neg (by decide)]
 refine wpAny_bind (Ng pl (wpAny_bind (Ng pu (wpAny_bind (wpAny_pure ?_)))))
 show wpAny _ _ (match Builtin.Slice.sliceAdjust lo hi 1 (n:Int)with|(lo,hi)=>pure (lo,(1:Int),Builtin.Slice.slicePlaces lo hi 1)) _ _ s
 rw[R6 lo hi n]
 show wpAny _ _ (pure (((sIx n 0 lo:Nat):Int),(1:Int),Builtin.Slice.slicePlaces ((sIx n 0 lo:Nat):Int) ((sIx n n hi:Nat):Int) 1)) _ _ s
 rw[Rx]
 exact wpAny_pure h
theorem XW(xs:Array Value)(i k:Nat):((List.range k).filterMap fun(m:Nat)=>xs[((i:Int)+(m:Int)*1).toNat]?).toArray=((xs.toList.drop i).take k).toArray:=by
 have e:(fun(m:Nat)=>xs[((i:Int)+(m:Int)*1).toNat]?)=fun m=>xs[i+m]?:=by
  funext m
  have:((i:Int)+(m:Int)*1).toNat=i+m:=by omega
  rw[this]
 rw[e]
 have:=pick_run xs i k
 rw[List.filterMap_map]at this
 have e2:((fun x=>xs[x]?)∘fun x=>i+x)=fun m=>xs[i+m]?:=rfl
 rw[e2]at this
 rw[this]
theorem Ki{t sl:Addr}{items:Array Value}{vl vu:Value}{lo hi:Option Int}{Q:Value->Shared->Prop}(ht:IsTup s.heap t items)(hs:s.heap.IsSliceOf sl vl vu .none)(pl:IsPart vl lo)(pu:IsPart vu hi)
  (hw:¬(sIx items.size 0 lo=0/\sIx items.size items.size hi=items.size))
  (h:Q (.ref s.heap.objs.size) {s with heap:=s.heap.push {cls:=.type "tuple",data:=.seq ((items.toList.drop (sIx items.size 0 lo)).take (sIx items.size items.size hi-sIx items.size 0 lo)).toArray}})
  (hsz:items.size≤sizeLine):wpAny (model prog w) A (getItem (.ref t) (.ref sl)) Q E s:=by
 have htake:sizeOk (.seq ((items.toList.drop (sIx items.size 0 lo)).take (sIx items.size items.size hi-sIx items.size 0 lo)).toArray):=by
  show((items.toList.drop (sIx items.size 0 lo)).take (sIx items.size items.size hi-sIx items.size 0 lo)).toArray.size≤sizeLine
  rw[List.size_toArray,List.length_take,List.length_drop,Array.length_toList]
  omega
 have hj:sIx items.size items.size hi≤items.size:=bD _ _ (Nat.le_refl _) hi
 obtain⟨os,hos,hcs,hds⟩:=id hs
 have hTs:s.TypeIs (.ref sl) "slice":=⟨os,hos,hcs⟩
 unfold getItem
 try with_reducible refine wpAny_holding ?_
 first|refine wpAny_bind (wpAny_pure ?_)|skip
 refine wpAny_bind (wpAny_sequenceKey ht.typeIs (by decide) ?_)
 refine wpAny_bind (wpAny_callSpecial?_slot (name:=Str.ofString "__getitem__") ht.typeIs PyProof.Rows.slot_tuple_getitem
  (wpAny_call_entry PyProof.Rows.slot_tuple_getitem ht.typeIs entry_tuple_getitem ?_ (args_tuple_getitem _ _)))
 show wpAny _ _ (Builtin.Tuple.tupleItemsOf (.ref t) >>= _) _ _ s
 refine wpAny_bind (tupleItemsOf_ ht ?_)
 refine wpAny_bind (wpAny_typeOf hTs ?_)
 rw[if_pos (by decide)]
 refine wpAny_bind (HX hs pl pu ?_)
 have hno:¬((((sIx items.size 0 lo:Nat):Int)==0 && (1:Int)==1 && (sIx items.size items.size hi-sIx items.size 0 lo)==items.size)=true):=by
  intro q
  rw[Bool.and_eq_true,Bool.and_eq_true]at q
  have q1:((sIx items.size 0 lo:Nat):Int)=0:=eq_of_beq q.1.1
  have q2:sIx items.size items.size hi-sIx items.size 0 lo=items.size:=eq_of_beq q.2
  exact hw ⟨by omega,by omega⟩
 show wpAny _ _ (if(((sIx items.size 0 lo:Nat):Int)==0 && (1:Int)==1 && (sIx items.size items.size hi-sIx items.size 0 lo)==items.size)=true then _ else _) _ _ s
 rw[if_neg hno,XW]
 first
  |exact wpAny_bind (m:=Builtin.Tuple.tupleExact _) (wpAny_newObj_type (wpAny_pure ⟨_,rfl,wpAny_pure h⟩) htake)
  |exact wpAny_bind (m:=Builtin.Tuple.tupleExact _) (wpAny_newObj_type (wpAny_bind (wpAny_pure (wpAny_pure ⟨_,rfl,wpAny_pure h⟩))) htake)
  |exact wpAny_bind (wpAny_bind (m:=Builtin.Tuple.tupleExact _) (wpAny_newObj_type (wpAny_pure (wpAny_pure ⟨_,rfl,wpAny_pure h⟩)) htake))
  |exact wpAny_bind (wpAny_bind (m:=Builtin.Tuple.tupleExact _) (wpAny_newObj_type (wpAny_pure ⟨_,rfl,wpAny_pure h⟩) htake))
end
end HT
namespace L2
open PySem PySem.Spec PyProof.Rows
abbrev TO:=St->Hp->(Option Int->Hp->Prop)->Prop
def PO(X:Cx)(e:Option Expr)(t:TO):Prop:=
 ∀ (pins : List (Addr × Obj)) (s : Shared) (σ : St) (H : Hp) (Q : Option Int -> Hp -> Prop), Inv X pins σ H s -> t σ H Q ->
  wpAny (model X.prog X.w) X.A (evalPart e X.env) (fun u s'=>∃o H',Inv X pins σ H' s'/\IsPart u o/\Q o H') X.xe s
noncomputable def Yx:TO:=fun _ H Q=>Q none H
noncomputable def gE(t:TE):TO:=fun σ H Q=>t σ H fun x H1=>∃i,x=.int i/\Q (some i) H1
theorem intsAre_of{ns:List Int}:∀{us:List Value},Vals (ns.map V.int) us->IntsAre us ns:=by
  induction ns with
  |nil=>intro us r;rw[List.map_nil]at r;cases r;exact .nil
  | cons n ns ih =>
    intro us r
    rw[List.map_cons]at r
    cases r with
    | cons r1 r2 =>
      obtain⟨t,e⟩:=r1
      subst e
      exact .cons n t (ih r2)
section
variable{X:Cx}{e:Expr}{te:TE}{lo hi:Option Expr}{tl th:TO}{pos p2:Pos}
theorem Tn:PO X none Yx:=by
 intro pins s σ H Q I h
 rw[evalPart_none]
 exact wpAny_pure ⟨none,H,I,.none,h⟩
theorem OA(h:PE X e te):PO X (some e) (gE te):=by
 intro pins s σ H Q I hw
 rw[evalPart_some]
 refine thn (h pins s σ H _ I hw) fun u s1 ⟨x,H1,I1,r1,q1⟩=>?_
 obtain⟨i,rfl,q⟩:=q1
 obtain⟨t,rfl⟩:=r1
 exact⟨some i,H1,I1,.int i t,q⟩
def SlR(X:Cx)(r:V->Option Int->Option Int->Hp->VK->Prop):Prop:=
 ∀ (pins : List (Addr × Obj)) (s : Shared) (σ : St) (H : Hp) (x : V) (v vl vu : Value) (lo hi : Option Int) (sl : Addr) (Q : VK), Inv X pins σ H s -> RelV x v -> s.heap.IsSliceOf sl vl vu .none -> IsPart vl lo -> IsPart vu hi -> r x lo hi H Q ->
  ∃T id,typeLookup (.type T) "__getitem__"=pure (some (.builtin id))/\s.TypeIs v T/\wpAny (model X.prog X.w) X.A (getItem v (.ref sl)) (EP X pins σ Q) X.xe s
noncomputable def tSl(r:V->Option Int->Option Int->Hp->VK->Prop)(te:TE)(tl th:TO):TE:=fun σ H Q=>te σ H fun x H1=>tl σ H1 fun l H2=>th σ H2 fun u H3=>r x l u H3 Q
theorem N6{r:V->Option Int->Option Int->Hp->VK->Prop}(hr:SlR X r)(he:PE X e te)(hl:PO X lo tl)(hu:PO X hi th):PE X (.Subscript e (.Slice lo hi none p2) pos) (tSl r te tl th):=by
 intro pins s σ H Q I h
 refine Subscript_ (thn (he pins s σ H _ I h) fun v s1 ⟨x,H1,I1,r1,q1⟩=>?_)
 refine wpAny_Slice (thn (hl pins s1 σ H1 _ I1 q1) fun vl s2 ⟨l,H2,I2,pl,q2⟩=>thn (hu pins s2 σ H2 _ I2 q2) fun vu s3 ⟨u,H3,I3,pu,q3⟩=>?_)
 rw[evalPart_none]
 refine wpAny_pure ?_
 have I4:Inv X pins σ H3 {s3 with heap:=s3.heap.push {cls:=.type "slice",data:=.fields #[vl,vu,.none]}}:=I3.kept (t':=s3.toks) fun b ob q=>Heap.get?_push_of_some _ q
 obtain⟨T,id,hT,ht,hg⟩:=hr pins {s3 with heap:=s3.heap.push {cls:=.type "slice",data:=.fields #[vl,vu,.none]}} σ H3 x v vl vu l u s3.heap.objs.size Q I4 r1 (Heap.IsSliceOf.new ..) pl pu q3
 show wpAny (model X.prog X.w) X.A (subscriptTail e (.Slice lo hi none p2) v (.ref s3.heap.objs.size)) (EP X pins σ Q) X.xe {s3 with heap:=s3.heap.push {cls:=.type "slice",data:=.fields #[vl,vu,.none]}}
 exact tail_any (ops:=[.ref s3.heap.objs.size,v]) ht hT hg (by with_unfolding_all rfl)
noncomputable def X7(xs:List V)(lo hi:Option Int):List V:=(xs.drop (HT.sIx xs.length 0 lo)).take (HT.sIx xs.length xs.length hi-HT.sIx xs.length 0 lo)
theorem Lr(xs:List V)(lo hi:Option Int):(X7 xs lo hi).length≤xs.length:=by
 unfold X7
 rw[List.length_take,List.length_drop]
 omega
def iI(K:PySem.W.Frag):V->Option Int->Option Int->Hp->VK->Prop:=fun x lo hi H Q=>∃a xs,x=.ref a/\SqT K H a xs/\
 ¬(HT.sIx xs.length 0 lo=0/\HT.sIx xs.length xs.length hi=xs.length)/\∀p,H p=none->Q (.ref p) (upd H p (.tup (X7 xs lo hi)))
theorem cA:SlR X (iI X.K):=by
 intro pins s σ H x v vl vu lo hi sl Q I rx hs pl pu h
 obtain⟨a,xs,rfl,hx,hw,q⟩:=h
 cases rx
 obtain⟨its,r,ht,hz⟩:=I.tuple hx
 have hlen:its.toArray.size=xs.length:=by rw[List.size_toArray];exact r.length.symm
 refine⟨"tuple",_,PyProof.Rows.slot_tuple_getitem.lookup,ht.typeIs,?_⟩
 refine HT.Ki ht hs pl pu (by rw[hlen];exact hw) ?_ (by rw[hlen];exact hz)
 rw[hlen]
 refine⟨.ref s.heap.objs.size,_,I.laid (t':=s.toks) (o:=.tup (X7 xs lo hi)) (fun b ob q=>Heap.get?_push_of_some _ q) (Nat.le_refl _) ?_,rfl,q _ (I.hok.fresh (Nat.le_refl _))⟩
 exact⟨Nat.le_trans (Lr xs lo hi) hz,_,(r.drop (HT.sIx xs.length 0 lo)).take (HT.sIx xs.length xs.length hi-HT.sIx xs.length 0 lo),IsTup.new _ _⟩
noncomputable def gB(K:PySem.W.Frag):R2:=fun x y H Q=>∃a b xs ys,x=.ref a/\y=.ref b/\SqT K H a xs/\SqT K H b ys/\xs≠[]/\xs.length+ys.length≤sizeLine/\
 (ys=[]->Q (.ref a) H)/\(ys≠[]->∀p,H p=none->Q (.ref p) (upd H p (.tup (xs++ys))))
theorem Vals.nil_iff{xs:List V}{us:List Value}(r:Vals xs us):us=[]↔xs=[]:=by
 cases r with
 |nil=>simp
 |cons _ _=>simp
theorem YL:OpR X (binaryOp .Add) (gB X.K):=by
 intro pins s σ H x y v u Q I rx ry h
 obtain⟨a,b,xs,ys,rfl,rfl,ha,hb,hx,hz,q1,q2⟩:=h
 cases rx
 cases ry
 obtain⟨its,r1,p1,_⟩:=I.tuple ha
 obtain⟨its2,r2,p2,_⟩:=I.tuple hb
 refine HT.ZQ p1 p2 (fun z=>hx (r1.nil_iff.mp z)) (fun z=>⟨.ref a,H,I,rfl,q1 (r2.nil_iff.mp z)⟩) (fun z=>?_) (by rw[←r1.length,←r2.length];exact hz)
 refine⟨.ref s.heap.objs.size,_,I.laid (t':=s.toks) (o:=.tup (xs++ys)) (fun b ob q=>Heap.get?_push_of_some _ q) (Nat.le_refl _) ?_,rfl,q2 (fun w=>z (r2.nil_iff.mpr w)) _ (I.hok.fresh (Nat.le_refl _))⟩
 exact⟨by rw[List.length_append];exact hz,_,r1.append r2,IsTup.new _ _⟩
end
end L2
namespace L2
open PySem PySem.Spec PyProof.Rows
noncomputable def ixN(n:Nat)(i:Int):Option Nat:=if 0≤i then(if i<n then some i.toNat else none)else if-(n:Int)≤i then some (i+n).toNat else none
noncomputable def atI{α:Type}(xs:List α)(i:Int):Option α:=(ixN xs.length i).bind fun j=>xs[j]?
theorem UM{n:Nat}{i:Int}{j:Nat}(h:ixN n i=some j):seqIndex? i n=some j/\j<n/\ -(n:Int)≤i/\i<n:=by
 unfold ixN at h
 by_cases h0:0≤i
 ·rw[if_pos h0]at h
  by_cases h1:i<n
  ·rw[if_pos h1]at h
   have e:i.toNat=j:=Option.some.inj h
   exact⟨by rw[seqIndex_of h0 h1,e],by omega,by omega,h1⟩
  ·rw[if_neg h1]at h;cases h
 ·rw[if_neg h0]at h
  by_cases h1: -(n:Int)≤i
  ·rw[if_pos h1]at h
   have e:(i+n).toNat=j:=Option.some.inj h
   exact⟨by rw[seqIndex_neg (by omega) h1,e],by omega,h1,by omega⟩
  ·rw[if_neg h1]at h;cases h
theorem Tv{α:Type}{xs:List α}{i:Int}{v:α}(h:atI xs i=some v):∃j,seqIndex? i xs.length=some j/\xs[j]?=some v/\j<xs.length/\ -(xs.length:Int)≤i/\i<xs.length:=by
  unfold atI at h
  cases e:ixN xs.length i with
  |none=>rw[e]at h;cases h
  | some j =>
    rw[e]at h
    obtain⟨h1,h2,h3,h4⟩:=UM e
    exact⟨j,h1,h,h2,h3,h4⟩
theorem ZC{α:Type}{xs:List α}{j:Nat}{v:α}(h:xs[j]?=some v):atI xs (j:Int)=some v:=by
 have hj:j<xs.length:=(List.getElem?_eq_some_iff.mp h).1
 have e:ixN xs.length (j:Int)=some j:=by
  unfold ixN
  rw[if_pos (by omega),if_pos (by omega)];simp
 unfold atI;rw[e];exact h
theorem N3{α:Type}(xs:List α)(v:α):atI (xs++[v]) (-1)=some v:=by
 have hl:(xs++[v]).length=xs.length+1:=by simp
 have e:ixN (xs++[v]).length (-1)=some xs.length:=by
  unfold ixN
  rw[hl,if_neg (by decide),if_pos (by omega)]
  congr 1
  omega
 unfold atI
 rw[e]
 show(xs++[v])[xs.length]?=some v
 simp
def Tx(b:Expr):Prop:=∀o i,subscripted b false o i=operate [o,i] (getItem o i)
def IxR(X:Cx)(r:R2):Prop:=
 ∀ (value slice : Expr) (pins : List (Addr × Obj)) (s : Shared) (σ : St) (H : Hp) (x y : V) (v u : Value) (Q : VK), Inv X pins σ H s -> RelV x v -> RelV y u -> r x y H Q ->
  subscripted slice false v u=operate [v,u] (getItem v u)->wpAny (model X.prog X.w) X.A (subscriptTail value slice v u) (EP X pins σ Q) X.xe s
def MtR(X:Cx)(id:String)(r:V->List V->Hp->VK->Prop):Prop:=
 ∀ (pins : List (Addr × Obj)) (s : Shared) (σ : St) (H : Hp) (x : V) (xs : List V) (v : Value) (us : List Value) (Q : VK), Inv X pins σ H s -> RelV x v -> Vals xs us -> r x xs H Q ->
  wpAny (model X.prog X.w) X.A (call (.builtin id) (v::us)) (EP X pins σ Q) X.xe s
section
variable{X:Cx}{a b:Expr}{ta tb:TE}{pos:Pos}
theorem eN{r:R2}(hr:IxR X r)(ha:PE X a ta)(hb:PE X b tb)(hs:Tx b):PE X (.Subscript a b pos) (tOp r ta tb):=by
 intro pins s σ H Q I h
 exact Subscript_ (eS ha hb I h fun v u s2 x y H2 I2 rx ry q=>hr a b pins s2 σ H2 x y v u Q I2 rx ry q (hs _ _))
noncomputable def iN(K:PySem.W.Frag):R2:=fun x y H Q=>∃p xs i v,x=.ref p/\y=.int i/\SqL K H p xs/\atI xs i=some v/\Q v H
noncomputable def jJ(K:PySem.W.Frag):R2:=fun x y H Q=>∃p xs i v,x=.ref p/\y=.int i/\SqT K H p xs/\atI xs i=some v/\Q v H
theorem Zh:IxR X (iN X.K):=by
 intro value slice pins s σ H x y v u Q I rx ry h hs
 obtain⟨p,xs,i,z,rfl,rfl,hq,he,q⟩:=h
 cases rx
 obtain⟨t,rfl⟩:=ry
 obtain⟨its,r,pl,hz⟩:=I.list hq
 obtain⟨j,h1,h2,h3,h4,h5⟩:=Tv he
 obtain⟨w,ew,rw'⟩:=r.get h2
 have hl:=r.length
 have hn:=O7
 have fin:EP X pins σ Q w s:=⟨z,H,I,rw',q⟩
 by_cases h0:0≤i
 ·have hj:i.toNat=j:=by
   rw[seqIndex_of h0 h5]at h1
   exact Option.some.inj h1
  exact item_listR pl.isList h0 (by omega) (by rw[hj];simpa using ew) fin hs
 ·have hj:(i+(its.toArray.size:Int)).toNat=j:=by
   rw[seqIndex_neg (by omega) h4]at h1
   rw[List.size_toArray,←hl]
   exact Option.some.inj h1
  exact subscriptTail_builtinR (x:=w) pl.isList.typeIs slot_list_getitem.lookup
   (wpAny_getItem_list_neg (Q:=fun r s'=>r=w/\EP X pins σ Q r s') pl.isList (by omega) (by rw[List.size_toArray]<;>omega) (by omega) (by rw[hj];simpa using ew) ⟨rfl,fin⟩) hs
theorem bh:IxR X (jJ X.K):=by
 intro value slice pins s σ H x y v u Q I rx ry h hs
 obtain⟨p,xs,i,z,rfl,rfl,hq,he,q⟩:=h
 cases rx
 obtain⟨t,rfl⟩:=ry
 obtain⟨its,r,pl,hz⟩:=I.tuple hq
 obtain⟨j,h1,h2,h3,h4,h5⟩:=Tv he
 obtain⟨w,ew,rw'⟩:=r.get h2
 have hl:=r.length
 have hn:=O7
 have fin:EP X pins σ Q w s:=⟨z,H,I,rw',q⟩
 exact subscriptTail_builtinR (x:=w) pl.typeIs slot_tuple_getitem.lookup
  (getItem_tuple (j:=j) (Q:=fun r s'=>r=w/\EP X pins σ Q r s') pl (by omega) (by omega) (by rw[List.size_toArray,←hl];exact h1) (by simpa using ew) ⟨rfl,fin⟩) hs
theorem Rv(its:List Value)(n j:Nat)(u:Value):Obj.mapSeq (·.setIfInBounds j u) {cls:=.type "list",data:=.seq its.toArray n}={cls:=.type "list",data:=.seq (its.set j u).toArray n}:=by
 simp[Obj.mapSeq]
theorem Inv.lst{pins:List (Addr×Obj)}{σ:St}{H:Hp}{s:Shared}{p:Addr}{xs:List V}(I:Inv X pins σ H s)(h:H p=some (.lst xs)):
  ∃(its:List Value) (n:Nat),Vals xs its/\s.heap.get? p=some {cls:=.type "list",data:=.seq its.toArray n}/\xs.length≤sizeLine:=by
 obtain⟨z,its,n,r,e⟩:=I.hok p _ h
 exact⟨its,n,r,e,z⟩
theorem Inv.lstUpd{pins:List (Addr×Obj)}{σ:St}{H:Hp}{s:Shared}{p:Addr}{xs ys:List V}{its its':List Value}{n n':Nat}{f:Obj->Obj}(I:Inv X pins σ H s)(h:H p=some (.lst xs))
  (ho:s.heap.get? p=some {cls:=.type "list",data:=.seq its.toArray n}) (hf:f {cls:=.type "list",data:=.seq its.toArray n}={cls:=.type "list",data:=.seq its'.toArray n'}) (r:Vals ys its') (hz:ys.length≤sizeLine) (t:Nat):
  Inv X pins σ (upd H p (.lst ys)) {s with heap:=s.heap.update p f,toks:=t}:=by
 have e:(s.heap.update p f).get? p=some {cls:=.type "list",data:=.seq its'.toArray n'}:=by
  rw[Heap.get?_update_self f ho (by rw[hf]<;>rfl),hf]
 refine I.write (x:=p) (e:=p) (by rw[h];trivial) (.inl rfl) (fun b u hb q=>(Heap.get?_update_other _ _ (Ne.symm hb)).trans q) ⟨_,e⟩ ?_
 exact⟨hz,its',n',r,e⟩
def fV:V->V->V->Hp->(Hp->Prop)->Prop:=fun o i v H Q=>∃p xs k j,o=.ref p/\i=.int k/\H p=some (.lst xs)/\ixN xs.length k=some j/\Q (upd H p (.lst (xs.set j v)))
theorem set_list:gh X fV:=by
 intro pins s σ H o i v ov iv u Q I ro ri rv h
 obtain⟨p,xs,k,j,rfl,rfl,hp,hj,q⟩:=h
 cases ro
 obtain⟨t,rfl⟩:=ri
 obtain⟨its,n,r,ho,hz⟩:=I.lst hp
 obtain⟨h1,h2,h3,h4⟩:=UM hj
 have hl:=r.length
 have hn:=O7
 have I':Inv X pins σ (upd H p (.lst (xs.set j v))) {s with heap:=s.heap.update p (Obj.mapSeq (·.setIfInBounds j u))}:=
  I.lstUpd hp ho (Rv its n j u) (r.set rv j) (by rw[List.length_set];exact hz) s.toks
 by_cases h0:0≤k
 ·have hk:k.toNat=j:=by
   rw[seqIndex_of h0 h4]at h1
   exact Option.some.inj h1
  exact PySem.W.ki_setAt ho h0 (by omega) (by rw[List.size_toArray,←hl];exact h4) (by rw[hk];exact⟨_,I',q⟩)
 ·have hk:(k+(its.toArray.size:Int)).toNat=j:=by
   rw[seqIndex_neg (by omega) h3]at h1
   rw[List.size_toArray,←hl]
   exact Option.some.inj h1
  exact PySem.W.ki_setBack ho (by omega) (by rw[List.size_toArray,←hl];exact h3) (by omega) (by rw[hk];exact⟨_,I',q⟩)
theorem O8(lo hi:Option Int)(n:Nat):(sliceBounds lo hi none n).1=((HT.sIx n 0 lo:Nat):Int)/\(sliceBounds lo hi none n).2.1=((HT.sIx n n hi:Nat):Int)/\(sliceBounds lo hi none n).2.2=1:=by
  refine⟨?_,?_,rfl⟩
  · cases lo with
    |none=>simp[sliceBounds,HT.sIx]
    | some i =>
      simp only[sliceBounds,HT.sIx,Option.getD_none,show(1:Int)>0 by decide,if_true]
      by_cases h:i<0
      ·simp only[h,if_true]<;>omega
      ·simp only[h,if_false]<;>omega
  · cases hi with
    |none=>simp[sliceBounds,HT.sIx]
    | some i =>
      simp only[sliceBounds,HT.sIx,Option.getD_none,show(1:Int)>0 by decide,if_true]
      by_cases h:i<0
      ·simp only[h,if_true]<;>omega
      ·simp only[h,if_false]<;>omega
theorem Ol(its:List Value)(lo hi:Option Int):slicePick its.toArray lo hi none=((its.drop (HT.sIx its.length 0 lo)).take (HT.sIx its.length its.length hi-HT.sIx its.length 0 lo)).toArray:=by
 obtain⟨h1,h2,h3⟩:=O8 lo hi its.toArray.size
 unfold slicePick
 rw[h1,h2,h3]
 simp only[sliceRange_one,pick_run,List.size_toArray]<;>rfl
def iQ(K:PySem.W.Frag):V->Option Int->Option Int->Hp->VK->Prop:=fun x lo hi H Q=>∃a xs,x=.ref a/\SqL K H a xs/\∀p,H p=none->Q (.ref p) (upd H p (.lst (X7 xs lo hi)))
theorem Yb:SlR X (iQ X.K):=by
 intro pins s σ H x v vl vu lo hi sl Q I rx hs pl pu h
 obtain⟨a,xs,rfl,hx,q⟩:=h
 cases rx
 obtain⟨its,r,ht,hz⟩:=I.list hx
 have hlen:=r.length
 refine⟨"list",_,slot_list_getitem.lookup,ht.isList.typeIs,?_⟩
 refine wpAny_getItem_list_slice ht.isList hs pl pu .none (by simp) ?_ (by rw[List.size_toArray]<;>omega)
 rw[Ol,←hlen]
 refine⟨.ref s.heap.objs.size,_,I.laid (t':=s.toks) (o:=.lst (X7 xs lo hi)) (fun b ob q=>Heap.get?_push_of_some _ q) (Nat.le_refl _) ?_,rfl,q _ (I.hok.fresh (Nat.le_refl _))⟩
 exact⟨Nat.le_trans (Lr xs lo hi) hz,_,0,(r.drop (HT.sIx xs.length 0 lo)).take (HT.sIx xs.length xs.length hi-HT.sIx xs.length 0 lo),Heap.get?_push_size _ rfl⟩
noncomputable def ND:V->Bool
 | .non=>true
 | .bl _=>true
 | .int _=>true
 | .str _=>true
 |_=>false
noncomputable def eqV:V->V->Bool
 | .non,.non=>true
 | .bl a,.bl b=>a==b
 | .bl a,.int b=>(if a then 1 else 0)==b
 | .int a,.bl b=>a==(if b then 1 else 0)
 | .int a,.int b=>a==b
 | .str a,.str b=>a==b
 |_,_=>false
theorem bQ{A:Around}{s:Shared}{y x:V}{u v:Value}(ry:RelV y u)(rx:RelV x v)(fy:ND y=true)(fx:ND x=true):SeqAt.EqAt A s u v (eqV y x):=by
  cases y with
  | non =>
    cases ry
    cases x with
    |non=>cases rx;exact SeqAt.EqAt.same _
    |bl b=>cases rx;exact SeqAt.EqAt.none_bool b
    |int b=>obtain⟨t,rfl⟩:=rx;exact SeqAt.EqAt.none_int b t
    |str b=>obtain⟨t,rfl⟩:=rx;exact SeqAt.EqAt.none_str b t
    |_=>exact absurd (show false=true from fx) Bool.false_ne_true
  | bl a =>
    cases ry
    cases x with
    |non=>cases rx;exact SeqAt.EqAt.bool_none a
    |bl b=>cases rx;exact SeqAt.EqAt.bool_bool a b
    |int b=>obtain⟨t,rfl⟩:=rx;exact SeqAt.EqAt.bool_int a b t
    |str b=>obtain⟨t,rfl⟩:=rx;exact SeqAt.EqAt.bool_str a b t
    |_=>exact absurd (show false=true from fx) Bool.false_ne_true
  | int a =>
    obtain⟨t',rfl⟩:=ry
    cases x with
    |non=>cases rx;exact SeqAt.EqAt.int_none a t'
    |bl b=>cases rx;exact SeqAt.EqAt.int_bool a t' b
    |int b=>obtain⟨t,rfl⟩:=rx;exact SeqAt.EqAt.int_int a t' b t
    |str b=>obtain⟨t,rfl⟩:=rx;exact SeqAt.EqAt.int_str a t' b t
    |_=>exact absurd (show false=true from fx) Bool.false_ne_true
  | str a =>
    obtain⟨t',rfl⟩:=ry
    cases x with
    |non=>cases rx;exact SeqAt.EqAt.str_none a t'
    |bl b=>cases rx;exact SeqAt.EqAt.str_bool a t' b
    |int b=>obtain⟨t,rfl⟩:=rx;exact SeqAt.EqAt.str_int a t' b t
    |str b=>obtain⟨t,rfl⟩:=rx;exact SeqAt.EqAt.str_str a t' b t
    |_=>exact absurd (show false=true from fx) Bool.false_ne_true
  |_=>exact absurd (show false=true from fy) Bool.false_ne_true
noncomputable def eqU(x:V)(u:Value):Bool:=match u with
 | .none=>eqV .non x
 | .bool b=>eqV (.bl b) x
 | .int i _=>eqV (.int i) x
 | .str z _=>eqV (.str z) x
 |_=>false
theorem Xv{x y:V}{u:Value}(r:RelV y u)(f:ND y=true):eqU x u=eqV y x:=by
 cases y with
 |non=>cases r;rfl
 |bl b=>cases r;rfl
 |int i=>obtain⟨t,rfl⟩:=r;rfl
 |str z=>obtain⟨t,rfl⟩:=r;rfl
 |_=>exact absurd (show false=true from f) Bool.false_ne_true
theorem MT{x:V}:∀{xs:List V} {us:List Value},Vals xs us->xs.all ND=true->us.any (eqU x)=xs.any fun y=>eqV y x
  |_,_,.nil,_=>rfl
  | y :: xs, u :: us, .cons r t, f => by
    rw[List.all_cons,Bool.and_eq_true]at f
    rw[List.any_cons,List.any_cons,Xv r f.1,MT t f.2]
theorem Jl{A:Around}{s:Shared}{x:V}{v:Value}(rx:RelV x v)(fx:ND x=true):∀{xs:List V} {us:List Value},Vals xs us->xs.all ND=true->∀u∈us,SeqAt.EqAt A s u v (eqU x u)
  |_,_,.nil,_=>fun u hu=>by cases hu
  | y :: xs, u :: us, .cons r t, f => fun u' hu => by
    rw[List.all_cons,Bool.and_eq_true]at f
    rcases List.mem_cons.mp hu with rfl|hu
    ·rw[Xv r f.1];exact bQ r rx f.1 fx
    ·exact Jl rx fx t f.2 u' hu
noncomputable def inV(x:V)(xs:List V):Bool:=xs.any fun y=>eqV y x
noncomputable def rIn(K:PySem.W.Frag)(neg:Bool):R2:=fun x y H Q=>∃p xs,y=.ref p/\(SqL K H p xs∨SqT K H p xs)/\ND x=true/\xs.all ND=true/\Q (.bl (if neg then !inV x xs else inV x xs)) H
theorem SX:OpR X (compareOp .In) (rIn X.K false):=by
 intro pins s σ H x y v u Q I rx ry h
 obtain⟨p,xs,rfl,hq,fx,fs,q⟩:=h
 cases ry
 rcases hq with hq|hq
 ·obtain⟨its,r,pl,hz⟩:=I.list hq
  refine SeqAt.in_listAt (eqU x) pl.isList (fun w hw=>Jl rx fx r fs w (by simpa using hw)) ⟨.bl _,H,I,rfl,?_⟩
  rw[show its.toArray.any (eqU x)=its.any (eqU x) by simp,MT r fs]
  exact q
 ·obtain⟨its,r,pl,hz⟩:=I.tuple hq
  refine SeqAt.in_tupleAt (eqU x) pl (fun w hw=>Jl rx fx r fs w (by simpa using hw)) ⟨.bl _,H,I,rfl,?_⟩
  rw[show its.toArray.any (eqU x)=its.any (eqU x) by simp,MT r fs]
  exact q
theorem QI:OpR X (compareOp .NotIn) (rIn X.K true):=by
 intro pins s σ H x y v u Q I rx ry h
 obtain⟨p,xs,rfl,hq,fx,fs,q⟩:=h
 cases ry
 rcases hq with hq|hq
 ·obtain⟨its,r,pl,hz⟩:=I.list hq
  refine SeqAt.notIn_listAt (eqU x) pl.isList (fun w hw=>Jl rx fx r fs w (by simpa using hw)) ⟨.bl _,H,I,rfl,?_⟩
  rw[show its.toArray.any (eqU x)=its.any (eqU x) by simp,MT r fs]
  exact q
 ·obtain⟨its,r,pl,hz⟩:=I.tuple hq
  refine SeqAt.notIn_tupleAt (eqU x) pl (fun w hw=>Jl rx fx r fs w (by simpa using hw)) ⟨.bl _,H,I,rfl,?_⟩
  rw[show its.toArray.any (eqU x)=its.any (eqU x) by simp,MT r fs]
  exact q
theorem P4:FN X (.builtin "len") (fun xs H Q=>∃p ys,xs=[.ref p]/\(SqL X.K H p ys∨SqT X.K H p ys)/\Q (.int ys.length) H):=by
 intro pins s σ H xs us Q I r h
 obtain⟨p,ys,rfl,hq,q⟩:=h
 obtain⟨u,rfl,rx⟩:=vals1 r
 cases rx
 have hn:=O7
 rcases hq with hq|hq
 ·obtain⟨its,r',pl,hz⟩:=I.list hq
  have hlen:=r'.length
  exact Calls.call_len_list pl.isList (by simp only[List.size_toArray]<;>omega) ⟨.int ys.length,H,I.tok _,⟨s.toks+1,by rw[List.size_toArray,hlen]⟩,q⟩
 ·obtain⟨its,r',pl,hz⟩:=I.tuple hq
  have hlen:=r'.length
  exact len_tuple pl (by simp only[List.size_toArray]<;>omega) ⟨.int ys.length,H,I.tok _,⟨s.toks+1,by rw[List.size_toArray,hlen]⟩,q⟩
theorem Pb:FN X (.builtin "len") (fun xs H Q=>∃z,xs=[.str z]/\z.length≤sizeLine/\Q (.int z.length) H):=by
 intro pins s σ H xs us Q I r h
 obtain⟨z,rfl,hz,q⟩:=h
 obtain⟨u,rfl,t,rfl⟩:=vals1 r
 have hn:=O7
 exact len_str (by omega) ⟨.int z.length,H,I.tok _,⟨_,rfl⟩,q⟩
theorem P5:FN X (.type "list") (fun xs H Q=>∃p ys,xs=[.ref p]/\(SqL X.K H p ys∨SqT X.K H p ys)/\∀l,H l=none->Q (.ref l) (upd H l (.lst ys))):=by
 intro pins s σ H xs us Q I r h
 obtain⟨p,ys,rfl,hq,q⟩:=h
 obtain⟨u,rfl,rx⟩:=vals1 r
 cases rx
 have fin:∀(its:List Value),Vals ys its->ys.length≤sizeLine->∀(h':Heap) (c':Nat),(∀b o',s.heap.get? b=some o'->h'.get? b=some o')->
   h'.get? s.heap.objs.size=some {cls:=.type "list",dict:=none,data:=.seq its.toArray c',slots:= #[]}->EP X pins σ Q (.ref s.heap.objs.size) {s with heap:=h'}:=fun its r' hz h' c' kp e=>
  ⟨.ref s.heap.objs.size,_,I.laid (t':=s.toks) kp (Nat.le_refl _) (show Gq X.prog X.w _ h' _ (.lst ys)from⟨hz,its,c',r',e⟩),rfl,q _ (I.hok.fresh (Nat.le_refl _))⟩
 rcases hq with hq|hq
 ·obtain⟨its,r',pl,hz⟩:=I.list hq
  have hlen:=r'.length
  obtain⟨o,ho,hc,n,hd⟩:=pl.isList
  exact call_list_seq p (.inl rfl) ho hc hd (fun h' c' kp e=>fin its r' hz h' c' kp e) (by simp only[List.size_toArray]<;>omega)
 ·obtain⟨its,r',pl,hz⟩:=I.tuple hq
  have hlen:=r'.length
  obtain⟨o,ho,hc,n,hd⟩:=pl
  exact call_list_seq p (.inr rfl) ho hc hd (fun h' c' kp e=>fin its r' hz h' c' kp e) (by simp only[List.size_toArray]<;>omega)
theorem Oi:FN X (.type "tuple") (fun xs H Q=>∃p ys,xs=[.ref p]/\((SqL X.K H p ys/\∀l,H l=none->Q (.ref l) (upd H l (.tup ys)))∨(SqT X.K H p ys/\Q (.ref p) H))):=by
 intro pins s σ H xs us Q I r h
 obtain⟨p,ys,rfl,h⟩:=h
 obtain⟨u,rfl,rx⟩:=vals1 r
 cases rx
 rcases h with⟨hq,q⟩|⟨hq,q⟩
 ·obtain⟨its,r',pl,hz⟩:=I.list hq
  have hlen:=r'.length
  refine call_tuple_list pl.isList (fun h' kp=>?_) (by simp only[List.size_toArray]<;>omega)
  have I1:Inv X pins σ H {s with heap:=h'}:=I.kept (t':=s.toks) kp
  have I2:Inv X pins σ (upd H h'.objs.size (.tup ys)) {s with heap:=h'.push {cls:=.type "tuple",data:=.seq its.toArray}}:=
   I1.laid (t':=s.toks) (fun b o e=>Heap.get?_push_of_some _ e) (Nat.le_refl _) (show Gq X.prog X.w _ _ _ (.tup ys)from⟨hz,its,r',IsTup.new _ _⟩)
  exact⟨.ref h'.objs.size,_,I2,rfl,q _ (I1.hok.fresh (Nat.le_refl _))⟩
 ·obtain⟨its,r',pl,hz⟩:=I.tuple hq
  exact call_tuple_same pl ⟨.ref p,H,I,rfl,q⟩
def tyV(K:PySem.W.Frag)(T:String)(x:V)(H:Hp):Prop:=match x with
 | .str _=>T="str"
 | .int _=>T="int"
 | .ref p=>(T="list" /\∃xs,SqL K H p xs)∨(T="tuple" /\∃o,K.lookup p=some o/\o.cls=.type "tuple" /\o.dict=none)∨
   (T="dict" /\((∃kvs,H p=some (.dK kvs))∨∃kvs,H p=some (.dT kvs)))∨(T="set" /\∃S n,H p=some (.set S n))
 |_=>False
theorem bW {pins : List (Addr × Obj)} {σ : St} {H : Hp} {s : Shared} {T : String} {x : V} {v : Value} (I : Inv X pins σ H s) (r : RelV x v) (ty : tyV X.K T x H) :
    s.TypeIs v T/\∀a,v=.ref a->∃ob,s.heap.get? a=some ob/\ob.dict=none:=by
  cases x with
  | str z =>
    obtain⟨t,rfl⟩:=r
    cases (show T="str" from ty)
    exact⟨typeIs_str s z t,fun _ e=>nomatch e⟩
  | int i =>
    obtain⟨t,rfl⟩:=r
    cases (show T="int" from ty)
    exact⟨typeIs_int s i t,fun _ e=>nomatch e⟩
  | ref p =>
    cases r
    rcases ty with⟨rfl,xs,hq⟩|⟨rfl,o,hk,hc,hd⟩|⟨rfl,hk⟩|⟨rfl,S,n,hk⟩
    · obtain ⟨its, _, pl, _⟩ := I.list hq
      refine⟨pl.isList.typeIs,fun a e=>?_⟩
      cases e
      obtain⟨o,n,e,c,hd,_⟩:=pl
      exact⟨o,e,hd⟩
    · refine ⟨⟨o, I.kIn p o hk, hc⟩, fun a e => ?_⟩
      cases e
      exact⟨o,I.kIn _ o hk,hd⟩
    · have z : ∃ o, s.heap.get? p = some o /\ o.ExactDict := by
        rcases hk with⟨kvs,hk⟩|⟨kvs,hk⟩
        · obtain ⟨_, _, _, _, o, _, _, e, ex, _⟩ := I.hok p _ hk
          exact⟨o,e,ex⟩
        · obtain ⟨_, _, _, _, o, _, _, e, ex, _⟩ := I.hok p _ hk
          exact⟨o,e,ex⟩
      obtain⟨o,e,ex⟩:=z
      refine⟨⟨o,e,ex.1⟩,fun a e2=>?_⟩
      cases e2
      exact⟨o,e,ex.2.1⟩
    · obtain ⟨o, _, _, _, e, ex, _⟩ := I.hok p _ hk
      refine⟨⟨o,e,ex.1⟩,fun a e2=>?_⟩
      cases e2
      exact⟨o,e,ex.2.1⟩
  |_=>exact False.elim ty
noncomputable def tBM(K:PySem.W.Frag)(T:String)(r:V->List V->Hp->VK->Prop)(to:TE)(t:TA):TE:=fun σ H Q=>to σ H fun x H1=>tyV K T x H1/\t σ H1 fun xs H2=>r x xs H2 Q
variable{o e:Expr}{es:List Expr}{to:TE}{t:TA}{name:Str}{apos cpos:Pos}{T id:String}{r:V->List V->Hp->VK->Prop}
theorem eF(pa:PlainAttrs T)(slot:Slot T name id)(hty:typeOf (.builtin id)=pure (.type "method_descriptor"))(hm:MtR X id r)(ho:PE X o to)(ha:PA X (e::es) t)
  (hbase:attributeBase o name X.env (eval o X.env)=eval o X.env:=by rfl)
  (hfew:((backTo cpos (starEach (e::es) X.env)).all (fun x=> !x.1) && (backToKw cpos (keywordEach [] X.env)).all (fun x=>x.1.isSome)
   && decide ((e::es).length+([]:List Keyword).length+(if([]:List Keyword).isEmpty then 0 else 1)<30))=true:=by rfl)
  (hline:(apos.endLine==cpos.line)=true:=by rfl) (hs:starEach (e::es) X.env=(false,eval e X.env)::starEach es X.env:=by rfl) (hplain:(backTo cpos (starEach es X.env)).any (·.1)=false:=by rfl):
  PE X (.Call (.Attribute o name apos) (e::es) [] cpos) (tBM X.K T r to t):=by
 intro pins s σ H Q I h
 refine wpAny_Call_method_late hbase hfew hline rfl (thn (ho pins s σ H _ I h) fun v s1 ⟨x,H1,I1,r1,ty,q1⟩=>?_)
 obtain⟨h1,h2⟩:=bW I1 r1 ty
 refine⟨T,id,pa,slot,hty,h1,h2,?_⟩
 have hA:=ha cpos pins s1 σ H1 _ I1 q1
 rw[hs]at hA⊢
 refine Calls.callWith_builtin (by show(false||(backTo cpos (starEach es X.env)).any (·.1))=false;rw[hplain]<;>rfl) (Calls.evalArgs_plain ?_)
 exact thn hA fun us s2 ⟨vs,H2,I2,r2,q2⟩=>hm pins s2 σ H2 x vs v us Q I2 r1 r2 q2
end
end L2
namespace L2
open PySem PySem.Spec PyProof.Rows
def MtM(X:Cx)(id:String)(r:V->List V->Hp->VK->Prop):Prop:=
 ∀ (pins : List (Addr × Obj)) (s : Shared) (σ : St) (H : Hp) (x : V) (xs : List V) (v : Value) (us : List Value) (Q : VK), Inv X pins σ H s -> RelV x v -> Vals xs us -> r x xs H Q ->
  wpAny (model X.prog X.w) X.A (call (.builtin id) (v::us)) (EP X pins σ Q) X.xe s
theorem Vals.one:∀{x:V} {us:List Value},Vals [x] us->∃u,us=[u]/\RelV x u
 |_,_,.cons r .nil=>⟨_,rfl,r⟩
theorem Vals.two:∀{x y:V} {us:List Value},Vals [x,y] us->∃u v,us=[u,v]/\RelV x u/\RelV y v
 |_,_,_,.cons r (.cons q .nil)=>⟨_,_,rfl,r,q⟩
theorem Vals.rep{xs:List V}{us:List Value}(h:Vals xs us):∀k:Nat,Vals (List.replicate k xs).flatten (List.replicate k us).flatten
  |0=>.nil
  | k + 1 => by
    rw[List.replicate_succ,List.replicate_succ,List.flatten_cons,List.flatten_cons]
    exact Vals.append h (Vals.rep h k)
theorem foldl_rep(its:List Value):∀(k:Nat) (acc:List Value),
    List.foldl (fun x1 x2=>x1++x2) acc.toArray (List.replicate k its.toArray)=(acc++(List.replicate k its).flatten).toArray
  |0,acc=>by simp
  | k + 1, acc => by
    have e:acc.toArray++its.toArray=(acc++its).toArray:=by simp
    have e2:(acc++its)++(List.replicate k its).flatten=acc++(List.replicate (k+1) its).flatten:=by
      rw[List.replicate_succ,List.flatten_cons,List.append_assoc]
    rw[←e2,←foldl_rep its k (acc++its),←e,List.replicate_succ,List.foldl_cons]
section
variable{X:Cx}{pins:List (Addr×Obj)}{σ:St}{H:Hp}{s:Shared}{l b:Addr}{xs ys zs:List V}
theorem Inv.lset{its its':List Value}{n:Nat}{f:Array Value->Array Value}{t':Nat}(I:Inv X pins σ H s)(hH:H l=some (.lst xs))
  (e:s.heap.get? l=some {cls:=.type "list",data:=.seq its.toArray n}) (hf:f its.toArray=its'.toArray) (hv:Vals ys its') (hz:ys.length≤sizeLine):
  Inv X pins σ (upd H l (.lst ys)) {s with heap:=s.heap.update l (Obj.mapSeq f),toks:=t'}:=by
 have q:=PySem.IsL.update e f
 rw[hf]at q
 refine I.write (x:=l) (e:=l) (by rw[hH];exact trivial) (.inl rfl) (fun b' u hb hu=>(Heap.get?_update_other s.heap (Obj.mapSeq f) (Ne.symm hb)).trans hu) ⟨_,q⟩ ?_
 exact⟨hz,its',_,hv,q⟩
theorem Inv.lnew{its:List Value}{t':Nat}(I:Inv X pins σ H s)(hv:Vals ys its)(hz:ys.length≤sizeLine):
  Inv X pins σ (upd H s.heap.objs.size (.lst ys)) {s with heap:=s.heap.push {cls:=.type "list",data:=.seq its.toArray},toks:=t'}:=
 I.laid (fun _ _ q=>Heap.get?_push_of_some _ q) (Nat.le_refl _) ⟨hz,its,0,hv,Heap.get?_push_size _ rfl⟩
theorem Inv.fresh(I:Inv X pins σ H s):H s.heap.objs.size=none:=I.hok.fresh (Nat.le_refl _)
theorem Inv.lstM(I:Inv X pins σ H s)(hH:H l=some (.lst xs)):xs.length≤sizeLine/\∃(its:List Value) (n:Nat),Vals xs its/\xs.length=its.length/\s.heap.get? l=some {cls:=.type "list",data:=.seq its.toArray n}:=by
 obtain⟨z,its,n,r,e⟩:=I.hok l _ hH
 exact⟨z,its,n,r,r.length,e⟩
theorem O2{n:Nat}(h:n≤sizeLine):Builtin.List.listTooLong n=false:=by
 unfold Builtin.List.listTooLong
 exact decide_eq_false (by omega)
end
section
variable{X:Cx}
def Y8:V->List V->Hp->VK->Prop:=fun x vs H Q=>∃l xs y,x=.ref l/\vs=[y]/\H l=some (.lst xs)/\xs.length<sizeLine/\Q .non (upd H l (.lst (xs++[y])))
theorem P6:MtM X "list.append" Y8:=by
 intro pins s σ H x vs v us Q I rx rv h
 obtain⟨l,xs,y,rfl,rfl,hH,hz,q⟩:=h
 cases rx
 obtain⟨u,rfl,ru⟩:=rv.one
 obtain⟨z,its,n,r,hl,e⟩:=I.lstM hH
 refine call_meets F.slot_list_append ⟨_,e,rfl⟩ F.entry_list_append (F.args_list_append_2 _ _) (PySem.list_append l its.toArray n u (by rw[List.size_toArray];omega)) ⟨e,?_⟩
 refine⟨.non,_,I.lset (its':=its++[u]) hH e (by simp) (r.append (.cons ru .nil)) ?_,rfl,q⟩
 rw[List.length_append,List.length_singleton]
 omega
def Za:V->List V->Hp->VK->Prop:=fun x vs H Q=>∃l b xs zs,x=.ref l/\vs=[.ref b]/\H l=some (.lst xs)/\H b=some (.lst zs)/\xs.length+zs.length≤sizeLine/\Q .non (upd H l (.lst (xs++zs)))
theorem UY:MtM X "list.extend" Za:=by
 intro pins s σ H x vs v us Q I rx rv h
 obtain⟨l,b,xs,zs,rfl,rfl,hH,hB,hz,q⟩:=h
 cases rx
 obtain⟨u,rfl,ru⟩:=rv.one
 cases ru
 obtain⟨z,its,n,r,hl,e⟩:=I.lstM hH
 obtain⟨z2,its2,n2,r2,hl2,e2⟩:=I.lstM hB
 have hsz:its.toArray.size+its2.toArray.size≤sizeLine:=by rw[List.size_toArray,List.size_toArray];omega
 have hlong:¬(!its.toArray.isEmpty && Builtin.List.listTooLong (its.toArray.size+its2.toArray.size))=true:=by
  rw[O2 hsz,Bool.and_false]
  exact Bool.false_ne_true
 refine call_meets F.slot_list_extend ⟨_,e,rfl⟩ F.entry_list_extend (F.args_list_extend_2 _ _)
  (AutoSeq1.list_extend_list_list_0 l its.toArray n b its2.toArray n2 hlong (by rw[List.size_toArray];omega) (by omega)) ⟨e,e2,?_⟩
 refine⟨.non,_,I.lset (its':=its++its2) hH e (by simp) (r.append r2) ?_,rfl,q⟩
 rw[List.length_append]
 omega
noncomputable def jM:R2:=fun x y H Q=>∃l b xs zs,x=.ref l/\y=.ref b/\H l=some (.lst xs)/\H b=some (.lst zs)/\xs.length+zs.length≤sizeLine/\∀p,H p=none->Q (.ref p) (upd H p (.lst (xs++zs)))
theorem Z6:OpR X (binaryOp .Add) jM:=by
 intro pins s σ H x y v u Q I rx ry h
 obtain⟨l,b,xs,zs,rfl,rfl,hH,hB,hz,q⟩:=h
 cases rx
 cases ry
 obtain⟨z,its,n,r,hl,e⟩:=I.lstM hH
 obtain⟨z2,its2,n2,r2,hl2,e2⟩:=I.lstM hB
 refine PySem.P.add_list e e2 ?_ (by rw[List.size_toArray,List.size_toArray];omega)
 have ea:its.toArray++its2.toArray=(its++its2).toArray:=by simp
 rw[ea]
 exact⟨.ref _,_,I.lnew (t':=s.toks) (r.append r2) (by rw[List.length_append];omega),rfl,q _ I.fresh⟩
noncomputable def jD:R2:=fun x y H Q=>∃l k xs,x=.ref l/\y=.int k/\H l=some (.lst xs)/\ -(2^63)≤k/\k<2^63/\xs.length*k.toNat≤sizeLine/\
 ∀p,H p=none->Q (.ref p) (upd H p (.lst (List.replicate k.toNat xs).flatten))
theorem len_rep{α:Type}(xs:List α)(k:Nat):(List.replicate k xs).flatten.length=k*xs.length:=by
 induction k with
 |zero=>simp
 |succ k ih=>rw[List.replicate_succ,List.flatten_cons,List.length_append,ih,Nat.succ_mul,Nat.add_comm]
theorem cE:OpR X (binaryOp .Mult) jD:=by
  intro pins s σ H x y v u Q I rx ry h
  obtain⟨l,k,xs,rfl,rfl,hH,h1,h2,hz,q⟩:=h
  cases rx
  obtain⟨t,rfl⟩:=ry
  obtain⟨z,its,n,r,hl,e⟩:=I.lstM hH
  have hlen:its.toArray.size*k.toNat≤sizeLine:=by rw[List.size_toArray,←hl];exact hz
  have hcap:¬its.toArray.size*k.toNat>(2^63-1) / 8:=by
    have:(sizeLine:Nat)≤(2^63-1) / 8:=by decide
    omega
  have hfit:¬(!Builtin.List.listFitsIndex k)=true:=by
    rw[fitsIndex_both h1 h2]
    exact Bool.false_ne_true
  have hlong:¬Builtin.List.listTooLong (its.toArray.size*k.toNat)=true:=by
    rw[O2 hlen]
    exact Bool.false_ne_true
  have hnew:List.foldl (fun x1 x2=>x1++x2) #[] (List.replicate (if its.toArray.isEmpty=true then 0 else k.toNat) its.toArray)=(List.replicate k.toNat its).flatten.toArray:=by
    have f0:∀m:Nat,List.foldl (fun x1 x2=>x1++x2) #[] (List.replicate m its.toArray)=(List.replicate m its).flatten.toArray:=fun m=>by
      have:=foldl_rep its m []
      rw[List.nil_append]at this
      exact this
    rw[f0]
    cases its with
    |nil=>simp
    |cons a r'=>rw[if_neg (by simp)]
  refine wpAny_binaryOp_repeat_ref (T:="list") (U:="int") (by decide) ⟨_,e,rfl⟩ (fun s'=>typeIs_int s' k t) noFill_list_mul F.fills_int_mul F.slot_int_rmul repeat_list F.slot_int_index.lookup
    (call_meets F.slot_int_rmul (typeIs_int s k t) F.entry_int_rmul (F.args_int_rmul_2 _ _) (int___rmul___int_list k t l its.toArray n)
      ⟨e,rfl,⟨_,e,rfl⟩,call_meets F.slot_list_mul ⟨_,e,rfl⟩ F.entry_list_mul (F.args_list_mul_2 _ _) (AutoListH.list___mul___list_int_3 l its.toArray n k t hfit hcap hlong) ⟨e,?_⟩⟩)
  rw[hnew]
  exact⟨.ref _,_,I.lnew (t':=s.toks) (r.rep k.toNat) (by rw[len_rep,Nat.mul_comm];exact hz),rfl,q _ I.fresh⟩
end
section
variable{prog:Program}{w:World}{A:Around}{E:Value->Shared->Prop}{s:Shared}
end
section
variable{X:Cx}
end
end L2
namespace Att
open PySem PySem.W PySem.Calls PyProof.Rows
theorem ints_of_wellAll{P:Params}{h:Heap}:∀(ns:List Int) (vs:List Value),WellAll P h vs (ns.map WData.int)->IntsAre vs ns:=by
  intro ns
  induction ns with
  | nil =>
    intro vs w
    rw[List.map_nil]at w
    cases w
    exact .nil
  | cons n ns ih =>
    intro vs w
    rw[List.map_cons]at w
    cases w with
    | cons a b =>
      cases a
      exact .cons _ _ (ih _ b)
theorem script_of{l:OpenLaw}{n:Nat}(hn:l.most=some n){P:Params}{h:Heap}{args:List WData}{vals:List Value}
    (hpre:l.row.toRowW.claim.pre args=true) (hwl:WellAll P h vals args):
    ∃a vs ns,vals=[Value.ref a]/\args=[WData.list (ns.map WData.int)]/\h.get? a=some {cls:=.type "list",data:=.seq vs.toArray}/\IntsAre vs ns/\ns.length≤n:=by
  have hsh:WShape.hasAll [] args [.list .int]=true:=(pre_splitW hpre).1
  have hc:l.pre.holds [] {args:=args}=true:=(pre_splitW hpre).2
  obtain⟨d,r,rfl,h1,h2⟩:=hasAllW_cons hsh
  obtain rfl:=hasAllW_nil h2
  obtain⟨xs,rfl,h3⟩:=hasW_list h1
  obtain⟨ns,rfl⟩:=items_int h3
  have hlen:ns.length≤n:=by
    unfold OpenLaw.pre at hc
    have h4:(WTm.not (.lt (.lit (.int (n:Int))) (.len (.arg 0)))).holds [] {args:=[.list (ns.map .int)]}=true:=by
      have h4:=(holds_andW hc).1
      rw[hn]at h4
      exact h4
    have h5:=condW_of h4 (w_not (w_lt w_lit (w_len_list (w_arg rfl))))
    rw[List.length_map]at h5
    refine Nat.le_of_not_lt fun q=>?_
    have q':(n:Int)<((ns.length:Nat):Int):=by omega
    first
      |(rw[decide_eq_true q']at h5;exact absurd h5 (by decide))
      |(simp at h5;omega)
  cases hwl with
  | cons w1 w2 =>
    cases w2
    cases w1 with
    |list ho hall=>exact⟨_,_,ns,rfl,rfl,ho,ints_of_wellAll ns _ hall,hlen⟩
theorem post_true(l:OpenLaw)(args:List WData):l.row.toRowW.claim.post args (.bool true) args=true:=
 postW_of (r:=l.row.toRowW) (X:=(true==true))
  (show WShape.has [] (.bool true) .bool=true by first|rfl|decide|simp[WShape.has,WShape.arms,WShape.armsAll])
  (show(WTm.eq .res (.lit (.bool true))).value [] {args:=args,res:=some (.bool true),after:=args}=some (.bool (true==true))from w_eq_bool (w_res rfl) w_lit) rfl
theorem attach_call{l:OpenLaw}{n:Nat}{q:Program}{loose:List Str}{XP:(Str->Option Value)->Heap->Prop}{YP:World->Heap->Prop}{d:DefRec}
  (hn:l.most=some n) (hdf:d.params.defaults=[])
  (call:∀(w:World) (s₀ s₁:Shared) (mg mb:Str->Option Value) (fa:Addr) (o:Obj) (pm cd doc:Value) (a:Addr) (vs:List Value) (ns:List Int),
   Ground q loose [] XP w s₀ mg mb s₁.heap->YP w s₁.heap->
   s₁.heap.get? fa=some o->o.data=.func (docDef d.name d.params d.body d.scope pm cd doc)->s₁.heap.CodeRec cd d.name->mg d.name=some (.ref fa)->
   s₁.heap.get? a=some {cls:=.type "list",data:=.seq vs.toArray}->IntsAre vs ns->ns.length≤n->s₁.gens= #[]->
   codeAny (model l.prog w) callerA (.call (.ref fa) ⟨[.ref a],[]⟩) (fun r s'=>r=.ok (.ret (.bool true))/\OldK s₁.heap s'.heap/\s'.os=s₁.os/\AllBare s'.gens) s₁):
  WalkO q loose XP YP l.row.toRowW d [] (fun f vs=>PySem.call f vs):=by
 intro w s₀ s₁ mg mb G Y fa o pm cd doc dV kV ho hd hcd hD hmg hg args vals as hpre hlay hrd hwl hlo
 obtain rfl:dV=.none:=Dflts.none hD hdf
 obtain rfl:kV=.none:=Dflts.noKw hD
 obtain⟨a,vs,ns,rfl,rfl,hobj,hints,hlen⟩:=script_of hn hpre hwl
 refine enter_call (codeAny_mono (call w s₀ s₁ mg mb fa o pm cd doc a vs ns G Y ho (fd_plain hd) hcd hmg hobj hints hlen hg) fun r s' hq=>?_)
 obtain⟨rfl,h2,h3,h4⟩:=hq
 exact⟨.inl ⟨.bool true,.bool true,[],rfl,fun _=>rfl,.bool true,post_true l _,fun _=>⟨List.Pairwise.nil,fun _ hm=>(nomatch hm)⟩⟩,h2,h3,h4⟩
section
variable{prog:Program}{w:World}{A:Around}{E:Value->Shared->Prop}{s:Shared}{K:Frag}
end
end Att
namespace L2
open PySem PySem.Spec PyProof.Rows
theorem P0:∀{vs:List Value} {ns:List Int},IntsAre vs ns->Vals (ns.map V.int) vs
 |_,_,.nil=>.nil
 |_,_,.cons n t h=>.cons ⟨t,rfl⟩ (P0 h)
def fK(H:Hp):Prop:=∀b,H b=none∨∃o xs,H b=some (.frz o (.lst xs))
theorem Vl {P : Program} {w : World} {K : PySem.W.Frag} {mg mb : Str -> Option Value} {CX : CXT} {k : Nat} {fa a : Addr} {fd : FuncData} {x : Str} {sp : Sp} {s₁ : Shared} {vs : List Value} {ns : List Int}
    (KX:K.In s₁.heap) (hns:s₁.heap.Ns mainGlobals mg) (hb:s₁.heap.Ns builtinsNs mb) (hbb:∀x:Str,x≠ "__name__"->mb x=bootBuiltins x) (hlim:s₁.heap.NoLimit) (hg:s₁.gens= #[])
    (ha:s₁.heap.get? a=some {cls:=.type "list",data:=.seq vs.toArray}) (hi:IntsAre vs ns) (hl:ns.length≤sizeLine) (hr:NX k callerA)
    (F:∀base:Heap,K.In base->base.Ns mainGlobals mg->Po P w K mg base CX k fa fd [x] sp) (hbind:∀(s:Shared) (u:Value),BindsTo s fd ⟨[u],[]⟩ [(x,u)])
    (hsp:∀H:Hp,fK H->SqL K H a (ns.map V.int)->sp [.ref a] H (fun v _=>v=.bl true) fun _ _ _=>False)
    (hCX:∀H e s',CX [] H s₁ (fun _ _ _=>False) e s'->False):
    codeAny (model P w) callerA (.call (.ref fa) ⟨[.ref a],[]⟩) (fun r s'=>r=.ok (.ret (.bool true))/\OldK s₁.heap s'.heap/\s'.os=s₁.os/\AllBare s'.gens) s₁:=by
  have rv:=P0 hi
  have lenV:=hi.length
  have core : ∀ H : Hp, fK H -> SqL K H a (ns.map V.int) -> HOk P w H s₁.heap -> (∀ b, H b ≠ none -> b = a) -> (H a ≠ none -> K.lookup a = none) ->
      codeAny (model P w) callerA (.call (.ref fa) ⟨[.ref a],[]⟩) (fun r s'=>r=.ok (.ret (.bool true))/\OldK s₁.heap s'.heap/\s'.os=s₁.os/\AllBare s'.gens) s₁:=by
    intro H hO hS hok hA hK
    have base_of:∀{b:Addr} {o:Obj},s₁.heap.get? b=some o->H b=none->(Vv s₁.heap H).get? b=some o:=fun e n=>Wc e n
    have noA:∀{b:Addr} {o:Obj} {es:Array DictEntry} {ep:Nat},s₁.heap.get? b=some o->o.data=.dict es ep->H b=none:=fun{b o es ep} e d=>by
      cases q:H b with
      |none=>rfl
      | some u =>
        have e':b=a:=hA b (by rw[q];simp)
        subst e'
        rw[ha]at e;cases e
        have d':Data.seq vs.toArray _=Data.dict es ep:=d
        cases d'
    have nsK:∀{b:Addr} {m:Str->Option Value},s₁.heap.Ns b m->(Vv s₁.heap H).Ns b m:=fun{b m} ⟨o,es,ep,e,d,r⟩=>⟨o,es,ep,base_of e (noA e d),d,r⟩
    have hKb:K.In (Vv s₁.heap H):=fun b o e=>base_of (KX b o e) (by
      cases q:H b with
      |none=>rfl
      | some u =>
        have e':b=a:=hA b (by rw[q];simp)
        subst e'
        rw[hK (by rw[q];simp)]at e;cases e)
    have hM:Mod K mg (Vv s₁.heap H):=⟨hKb,nsK hns,⟨mb,nsK hb,hbb⟩,let⟨mc,h1,h2⟩:=hlim;⟨mc,nsK h1,h2⟩⟩
    have e0:dJ P w K mg (Vv s₁.heap H) callerA [] s₁ H:=⟨rfl,hM,fun b o e=>YQ e,Nat.le_of_eq (Ur _ _),trivial,fun b hb=>absurd (show b∈([]:List Addr)from hb) (by simp),hok,.of_eq hg⟩
    refine codeAny_mono ((F _ hKb (nsK hns)).run callerA [] s₁ H ⟨[.ref a],[]⟩ [.ref a] [.ref a] _ _ hr e0 (hbind s₁ (.ref a)) (.cons rfl .nil) (hsp H hO hS)) fun r s' h=>?_
    cases r with
    |error e=>exact(hCX H e s' h).elim
    | ok fl =>
      cases fl with
      |next=>exact False.elim h
      |brk=>exact False.elim h
      |cont=>exact False.elim h
      | ret u =>
        obtain⟨v,H',os,bare,un,hok',r',q⟩:=h
        have q':v=.bl true:=q
        subst q'
        obtain rfl:u=Value.bool true:=r'
        refine⟨rfl,OldK.of_keep fun b o e=>?_,os,bare⟩
        cases q:H b with
        |none=>exact un.keep b o e q (by intro z;exact absurd (show b∈([]:List Addr)from z) (by simp)) (by simp)
        | some u =>
          rcases hO b with z|⟨ob,xs,z⟩
          ·rw[q]at z;cases z
          · have z2 := un.frzs b ob _ z
            obtain⟨e1,_⟩:=hok b _ z
            obtain⟨e2,_⟩:=hok' b _ z2
            rw[e]at e1;cases e1
            exact e2
  cases hk:K.lookup a with
  | some o =>
    have e:=KX a o hk
    rw[ha]at e
    cases e
    refine core (fun _=>none) (fun _=>.inl rfl) (.inr ⟨_,vs.toArray,_,hk,rfl,rfl,rfl,by rw[List.size_toArray,lenV];exact hl,by simpa using rv⟩) (fun b u z=>by have z':(none:Option HO)=some u:=z;cases z') (fun b z=>absurd rfl z) fun z=>absurd rfl z
  | none =>
    refine core (fun b=>if b=a then some (.frz {cls:=.type "list",data:=.seq vs.toArray} (.lst (ns.map V.int)))else none) (fun b=>?_) (.inl (.inr ⟨{cls:=.type "list",data:=.seq vs.toArray},if_pos rfl⟩)) (fun b u z=>?_) (fun b z=>?_) fun _=>hk
    · by_cases hb : b = a
      ·exact .inr ⟨_,_,if_pos hb⟩
      ·exact .inl (if_neg hb)
    · by_cases hb : b = a
      · have z' := (if_pos hb).symm.trans z
        cases z'
        subst hb
        exact⟨ha,by rw[List.length_map];exact hl,vs,_,rv,ha⟩
      · have z' := (if_neg hb).symm.trans z
        cases z'
    · by_cases hb : b = a
      ·exact hb
      ·exact absurd (if_neg hb) z
end L2
namespace L2
open PySem PySem.Spec PyProof.Rows
abbrev KOf{K:PySem.W.Frag}{h:Heap}(_:K.In h):PySem.W.Frag:=K
theorem Yf{l:PySem.W.OpenLaw}{n k:Nat}{q:Program}{loose:List Str}{XP:(Str->Option Value)->Heap->Prop}{YP:World->Heap->Prop}{d:DefRec}{K:Params->PySem.W.Frag}{CX:World->CXT}{sp:World->Sp}{x:Str}
  (hn:l.most=some n) (hn2:n≤sizeLine) (hdf:d.params.defaults=[]) (hr:NX k callerA)
  (hY:∀(w:World) (h:Heap),YP w h->(K w.params).In h)
  (F : ∀ (w : World) (mg : Str -> Option Value) (fa : Addr) (h : Heap), (K w.params).In h -> h.Ns mainGlobals mg -> mg d.name = some (.ref fa) ->
   ∃ fd : FuncData, (∀ (s : Shared) (u : Value), BindsTo s fd ⟨[u], []⟩ [(x, u)]) /\
    ∀base:Heap,(K w.params).In base->base.Ns mainGlobals mg->Po l.prog w (K w.params) mg base (CX w) k fa fd [x] (sp w))
  (hsp:∀(w:World) (H:Hp) (a:Addr) (ns:List Int),ns.length≤n->fK H->SqL (K w.params) H a (ns.map V.int)->sp w [.ref a] H (fun v _=>v=.bl true) fun _ _ _=>False)
  (hCX:∀(w:World) (H:Hp) (s:Shared) (e:Value) (s':Shared),CX w [] H s (fun _ _ _=>False) e s'->False):
  PySem.W.WalkO q loose XP YP l.row.toRowW d [] (fun f vs=>PySem.call f vs):=by
 refine Att.attach_call hn hdf fun w s₀ s₁ mg mb fa o pm cd doc a vs ns G Y ho hd hcd hmg hobj hints hlen hg=>?_
 have KX:=hY w _ Y
 obtain⟨fd,hb,hF⟩:=F w mg fa _ KX G.T.g hmg
 exact Vl KX G.T.g G.T.b G.T.builtins G.T.nolimit hg hobj hints (Nat.le_trans hlen hn2) hr hF hb (fun H hO hS=>hsp w H a ns hlen hO hS) fun H e s'=>hCX w H s₁ e s'
end L2
namespace L2
open PySem PySem.Spec PyProof.Rows
noncomputable def Mb(s:Stmt):Arguments:=match s with
 | .FunctionDef _ a _ _ _ _ _ _ _ _=>a
 |_=>{posonlyargs:=[],args:=[],vararg:=none,kwonlyargs:=[],kw_defaults:=[],kwarg:=none,defaults:=[]}
noncomputable def G4(s:Stmt):List Stmt:=match s with
 | .FunctionDef _ _ b _ _ _ _ _ _ _=>b
 |_=>[]
noncomputable def AH(s:Stmt):Scope:=match s with
 | .FunctionDef _ _ _ _ _ _ sc _ _ _=>sc
 |_=>{kind:=.function,names:=[],isGenerator:=false,isCoroutine:=false}
abbrev CX0:CXT:=fun _ _ _ _ _ _=>False
abbrev E0:XK:=fun _ _ _=>False
theorem fD{X:Cx}:Passes CX0 X E0:=fun _ _ _ _ _ _ _ h=>h.elim
structure Fun(K:PySem.W.Frag)(x qual:Str)(st:Stmt)(f:Addr)(fd:FuncData):Prop where
 ex:∃(oc:Value) (od:Option Addr) (kV doc pm:Value) (an:Option Addr) (cdv ct:Value) (osl:Array (Option Value)),
  fd=PySem.W.fnOf x qual (Mb st) (G4 st) (AH st) .none kV doc pm an cdv ct/\K.lookup f=some ⟨oc,od,.func fd,osl⟩/\PySem.W.codeIn K cdv qual=true
 kp:PySem.W.keepIn K (.ref f)=true
section
variable{P:Program}{w:World}{K:PySem.W.Frag}{mg:Str->Option Value}{base:Heap}
theorem Fun.ok{x qual:Str}{st:Stmt}{f:Addr}{fd:FuncData}{N ps:List Str}{k:Nat}{sp:Sp}(F:Fun K x qual st f fd)(S:AR N ps (AH st))(len:∀vs H Q E,sp vs H Q E->vs.length=ps.length)
  (hbody:∀(cdv:Value) (A:Around) (outer:List Env) (s:Shared) (H:Hp) (vs:List V) (Q:VK) (E:XK),NX k (A.deeper (envOfC qual (AH st) s.heap.objs.size f cdv))->sp vs H Q E->
   ∃t,PSs (X6 CX0 P w K mg base N qual (AH st) f cdv A outer s H E).nox (G4 st) t/\t {nx:=fun _ H'=>Q .non H',rt:=Q} (start N vs) H):Po P w K mg base CX0 (k+1) f fd ps sp:=by
 obtain⟨oc,od,kV,doc,pm,an,cdv,ct,osl,rfl,lk,hcd⟩:=F.ex
 refine fS lk hcd S len fun A outer s H vs Q E hr hsp=>?_
 obtain⟨t,h,q⟩:=hbody cdv A outer s H vs Q E hr hsp
 exact⟨t,h.nox,q⟩
theorem Fun.binds{x qual:Str}{st:Stmt}{f:Addr}{fd:FuncData}{ps:List Str}(F:Fun K x qual st f fd)
  (h:∀(kV doc pm:Value) (an:Option Addr) (cdv ct:Value) (us:List Value),us.length=ps.length->bindArgs (PySem.W.fnOf x qual (Mb st) (G4 st) (AH st) .none kV doc pm an cdv ct) ⟨us,[]⟩=pure (ps.zip us)):Binds K fd ps []:=by
 obtain⟨oc,od,kV,doc,pm,an,cdv,ct,osl,rfl,lk,hcd⟩:=F.ex
 exact .all (h kV doc pm an cdv ct)
theorem bC{x qual:Str}{st:Stmt}{f:Addr}{oc:Value}{od an:Option Addr}{osl:Array (Option Value)}{kV doc pm cdv ct:Value}(l:K.lookup f=some ⟨oc,od,.func (PySem.W.fnOf x qual (Mb st) (G4 st) (AH st) .none kV doc pm an cdv ct),osl⟩)
  (c:PySem.W.codeIn K cdv qual=true) (k:PySem.W.keepIn K (.ref f)=true):Fun K x qual st f (PySem.W.fnOf x qual (Mb st) (G4 st) (AH st) .none kV doc pm an cdv ct):=⟨⟨oc,od,kV,doc,pm,an,cdv,ct,osl,rfl,l,c⟩,k⟩
end
section
variable{X:Cx}
end
theorem Y7{A B:Prop}(h:B):if false=true then A else B:=by
 rw[if_neg Bool.false_ne_true]
 exact h
theorem Yp{A B:Prop}(h:A):if true=true then A else B:=by
 rw[if_pos rfl]
 exact h
def Ci(H H':Hp):Prop:=∀b o,H b=some o->H' b=some o
end L2
end
noncomputable section
namespace L2
open PySem PySem.Spec PyProof.Rows
noncomputable def Gz(cells:List (Str×Addr)):List (Str×NameKind)->List (Str×Addr)->List (Str×Addr)
 | [],cs=>cs
 |(n,k)::r,cs=>if(k==NameKind.free)=true then Gz cells r ((n,(cells.lookup n).getD 0)::cs)else Gz cells r cs
theorem Pu{env:Env}:∀(names:List (Str×NameKind)) (cs:List (Str×Addr)),(∀y∈names,y.2=.free->∃a,env.cells.lookup y.1=some a)->
    (forIn names cs fun(x:Str×NameKind) r=>match x with|(name,kind)=>if(kind==NameKind.free)=true then(do let a←cellOf env name;pure (ForInStep.yield ((name,a)::r)))else pure (ForInStep.yield r):Sem (List (Str×Addr)))=pure (Gz env.cells names cs)
  | [],cs,_=>by simp[Gz]
  | (n, k) :: r, cs, h => by
    rw[List.forIn_cons]
    have ih:=fun cs=>Pu r cs fun y hy=>h y (List.mem_cons_of_mem _ hy)
    by_cases hk:(k==NameKind.free)=true
    · obtain ⟨a, ha⟩ := h (n, k) List.mem_cons_self (by simpa using hk)
      have ha':env.cells.lookup n=some a:=ha
      have e:cellOf env n=pure a:=by unfold cellOf;rw[ha']
      simp only[hk,if_true,e,pure_bind,Gz,ha',Option.getD_some]
      exact ih _
    · simp only [hk, if_false, pure_bind, Gz]
      exact ih _
theorem RV{scope:Scope}{env:Env}(h:∀y∈scope.names,y.2=.free->∃a,env.cells.lookup y.1=some a):closureFor scope env=pure (Gz env.cells scope.names []):=by
 unfold closureFor
 have:=Pu (env:=env) scope.names [] h
 simp only[bind_pure]at this⊢
 exact this
theorem Ma {cells : List (Str × Addr)} {x : Str} {c : Addr} : ∀ {names : List (Str × NameKind)} {cs : List (Str × Addr)}, (∀ y ∈ names, y.2 = .free -> ∃ a, cells.lookup y.1 = some a) ->
    (Gz cells names cs).lookup x=some c->cs.lookup x=some c∨cells.lookup x=some c
  | [],cs,_,h=>.inl h
  | (n, k) :: r, cs, hh, h => by
    have hr:∀y∈r,y.2=.free->∃a,cells.lookup y.1=some a:=fun y hy=>hh y (List.mem_cons_of_mem _ hy)
    unfold Gz at h
    by_cases hk:(k==NameKind.free)=true
    · rw [if_pos hk] at h
      rcases Ma hr h with q|q
      · obtain ⟨a, ha⟩ := hh (n, k) List.mem_cons_self (by simpa using hk)
        have ha':cells.lookup n=some a:=ha
        rw[List.lookup_cons]at q
        cases hx:x==n with
        | true =>
          rw[hx,ha']at q
          have e:x=n:=by simpa using hx
          subst e
          cases q
          exact .inr ha'
        | false =>
          rw[hx]at q
          exact .inl q
      ·exact .inr q
    · rw [if_neg hk] at h
      exact Ma hr h
theorem J4 {cells : List (Str × Addr)} {x : Str} : ∀ {names : List (Str × NameKind)} {cs : List (Str × Addr)}, ((x, NameKind.free) ∈ names ∨ ∃ c, cs.lookup x = some c) -> ∃ c, (Gz cells names cs).lookup x = some c
  | [],cs,h=>h.elim (fun z=>nomatch z) id
  | (n, k) :: r, cs, h => by
    unfold Gz
    by_cases hk:(k==NameKind.free)=true
    · rw [if_pos hk]
      refine J4 ?_
      by_cases hx:x=n
      · subst hx
        exact .inr ⟨_,by rw[List.lookup_cons,beq_self_eq_true]⟩
      · rcases h with h | ⟨c, h⟩
        · rcases List.mem_cons.mp h with e | e
          ·cases e;exact absurd rfl hx
          ·exact .inl e
        · refine .inr ⟨c, ?_⟩
          rw[List.lookup_cons,show(x==n)=false by simpa using hx]
          exact h
    · rw [if_neg hk]
      refine J4 ?_
      rcases h with h|h
      · rcases List.mem_cons.mp h with e | e
        ·cases e;exact absurd rfl hk
        ·exact .inl e
      ·exact .inr h
theorem K0{env:Env}{x:Str}:∀{names:List (Str×NameKind)},names.lookup x=some .free->
    (names.map fun(n,k)=>if(k==NameKind.free && env.scope.kind== .function && env.kindOf n==some .cell)then(n,NameKind.cell)else(n,k)).lookup x=some .cell∨
    (names.map fun(n,k)=>if(k==NameKind.free && env.scope.kind== .function && env.kindOf n==some .cell)then(n,NameKind.cell)else(n,k)).lookup x=some .free
  | [],h=>by simp at h
  | (n, k) :: r, h => by
    have ih:= @K0 env x r
    show List.lookup x ((if(k==NameKind.free && env.scope.kind== .function && env.kindOf n==some .cell)=true then(n,NameKind.cell)else(n,k))::_)=_∨List.lookup x ((if(k==NameKind.free && env.scope.kind== .function && env.kindOf n==some .cell)=true then(n,NameKind.cell)else(n,k))::_)=_
    cases hx:x==n with
    | true =>
      simp only[List.lookup_cons,hx]at h
      cases h
      by_cases hc:(NameKind.free==NameKind.free && env.scope.kind== .function && env.kindOf n==some .cell)=true
      ·rw[if_pos hc];simp only[List.lookup_cons,hx];exact .inl trivial
      ·rw[if_neg hc];simp only[List.lookup_cons,hx];exact .inr trivial
    | false =>
      simp only[List.lookup_cons,hx]at h
      by_cases hc:(k==NameKind.free && env.scope.kind== .function && env.kindOf n==some .cell)=true
      ·rw[if_pos hc];simp only[List.lookup_cons,hx];exact ih h
      ·rw[if_neg hc];simp only[List.lookup_cons,hx];exact ih h
theorem MF{env:Env}{scope:Scope}{x:Str}{k':NameKind}(hk:k'=.cell∨k'=.free)(h:(relabel scope env).names.lookup x=some k'):(x,NameKind.free)∈scope.names∨(x,NameKind.cell)∈scope.names:=by
 have hm:=PySem.mem_of_lookup h
 obtain⟨⟨n,k⟩,hy,e⟩:=List.mem_map.mp (show(x,k')∈scope.names.map _ from hm)
 by_cases hc:(k==NameKind.free && env.scope.kind== .function && env.kindOf n==some .cell)=true
 ·simp only[hc,if_true]at e
  cases e
  have:k=.free:=by
   have:=((Bool.and_eq_true _ _).mp hc).1
   exact beq_iff_eq.mp ((Bool.and_eq_true _ _).mp this).1
  subst this
  exact .inl hy
 ·simp only[hc,if_false]at e
  cases e
  rcases hk with rfl|rfl
  ·exact .inr hy
  ·exact .inl hy
theorem CD:∀(names:List (Str×NameKind)) (n:Nat) (cs:List (Str×Addr)),cellsFrom n names cs=cellsFrom n names []++cs
  | [],_,_=>rfl
  | (x, k) :: r, n, cs => by
    unfold cellsFrom
    split
    ·rw[CD r _ ((x,n)::cs),CD r _ [(x,n)]];simp
    ·exact CD r n cs
theorem G5{x:Str}{c:Addr}:∀{names:List (Str×NameKind)} {n:Nat},(x,c)∈cellsFrom n names []->(x,NameKind.cell)∈names
  | [],_,h=>nomatch h
  | (y, k) :: r, n, h => by
    unfold cellsFrom at h
    split at h
    · rename_i hk
      rw[CD]at h
      rcases List.mem_append.mp h with z|z
      ·exact List.mem_cons_of_mem _ (G5 z)
      · have e := List.mem_singleton.mp z
        cases e
        rw[beq_iff_eq.mp hk]
        exact List.mem_cons_self
    ·exact List.mem_cons_of_mem _ (G5 h)
theorem KP{M:Model}{A:Around}{E:Value->Shared->Prop}{s:Shared}{scope:Scope}{globals:Addr}{cl:List (Str×Addr)}{qual:Str}{env:Env}{Q:Env->Shared->Prop}
  (hQ:∀h':Heap,h'.Ns s.heap.objs.size (fun _=>none)->(∀b o,s.heap.get? b=some o->h'.get? b=some o)->CellsOk h' (s.heap.objs.size+1) (cellsFrom (s.heap.objs.size+1) scope.names [])->
   Q (newEnv scope s.heap.objs.size globals (cellsFrom (s.heap.objs.size+1) scope.names cl) qual none .none (some env) builtinsNs) {s with heap:=h'}):
  wpAny M A (newFunctionEnv scope globals cl [] qual none .none (some env)) Q E s:=by
 simp only[newFunctionEnv,Option.isSome_some,if_true]
 refine wpAny_bind (wpAny_alloc ?_)
 refine wpAny_bind (wpAny_layCells _ (fun name kind cells=>by cases hkc:kind==NameKind.cell<;>simp[hkc]) _ _ _ _ ?_)
 have ok:=cellsFrom_ok scope.names (s.heap.push {cls:=.type "dict",data:=.dict #[]}) (s.heap.objs.size+1) [] ⟨fun _ _ hm=>(nomatch hm),List.Pairwise.nil⟩ (by rw[Heap.size_push];exact Nat.le_refl _)
 rw[Heap.size_push]at ok
 rw[show({s with heap:=s.heap.push {cls:=.type "dict",data:=.dict #[]}}:Shared).heap.objs.size=s.heap.objs.size+1 from Heap.size_push ..]
 rw[List.forIn_nil]
 refine wpAny_bind (wpAny_pure (wpAny_pure ?_))
 exact hQ _ ((Heap.Ns.new s.heap (.type "dict")).keeps (pushCells_keeps _ _)) (fun b o e=>pushCells_keeps _ _ b o (Heap.get?_push_of_some _ e)) ok
end L2
end
noncomputable section
namespace L2
open PySem PySem.Spec PyProof.Rows
noncomputable def SJ(N:List Str)(osc scope:Scope):List Str->List (Option Nat)->Bool
 | [],[]=>true
 |_::r,none::q=>SJ N osc scope r q
 |x::r,some i::q=>decide (N[i]?=some x) && (decide (osc.names.lookup x=some .cell)||decide (osc.names.lookup x=some .free)) && decide (scope.names.lookup x=some .free) && SJ N osc scope r q
 |_,_=>false
theorem UA{N:List Str}{osc scope:Scope}:∀{N':List Str} {ix:List (Option Nat)},SJ N osc scope N' ix=true->ix.length=N'.length
  | [],[],_=>rfl
  | _ :: r, none :: q, h => by
    unfold SJ at h
    simp[UA h]
  | x :: r, some i :: q, h => by
    unfold SJ at h
    have:=((Bool.and_eq_true _ _).mp h).2
    simp[UA this]
  | [],_::_,h=>by simp[SJ]at h
  |_::_,[],h=>by simp[SJ]at h
theorem Yk{N:List Str}{osc scope:Scope}:∀{N':List Str} {ix:List (Option Nat)},SJ N osc scope N' ix=true->∀{j i:Nat} {x:Str},N'[j]?=some x->ix[j]?=some (some i)->
    N[i]?=some x/\(osc.names.lookup x=some .cell∨osc.names.lookup x=some .free)/\scope.names.lookup x=some .free
  | [],[],_,j,_,_,h,_=>by simp at h
  | _ :: r, none :: q, h, j, i, x, h1, h2 => by
    unfold SJ at h
    cases j with
    |zero=>simp at h2
    |succ j=>exact Yk h (by simpa using h1) (by simpa using h2)
  | y :: r, some k :: q, h, j, i, x, h1, h2 => by
    unfold SJ at h
    obtain⟨ha,hr⟩:=(Bool.and_eq_true _ _).mp h
    obtain⟨ha,h3⟩:=(Bool.and_eq_true _ _).mp ha
    obtain⟨h4,h5⟩:=(Bool.and_eq_true _ _).mp ha
    cases j with
    | zero =>
      simp at h1 h2
      subst h1 h2
      refine⟨of_decide_eq_true h4,?_,of_decide_eq_true h3⟩
      rcases(Bool.or_eq_true _ _).mp h5 with z|z
      ·exact .inl (of_decide_eq_true z)
      ·exact .inr (of_decide_eq_true z)
    |succ j=>exact Yk hr (by simpa using h1) (by simpa using h2)
  | [],_::_,h,_,_,_,_,_=>by simp[SJ]at h
  |_::_,[],h,_,_,_,_,_=>by simp[SJ]at h
structure Ab(N:List Str)(osc:Scope)(N':List Str)(ix:List (Option Nat))(scope:Scope):Prop where
 kind:scope.kind=.function
 cells:∀y∈scope.names,y.2=.cell->scope.names.lookup y.1=some .cell
 names:∀y∈scope.names,y.2=.local->scope.names.lookup y.1=some .local
 free:∀y∈scope.names,y.2=.free->(osc.names.lookup y.1=some .cell∨osc.names.lookup y.1=some .free)
 ok:SJ N osc scope N' ix=true
noncomputable def sig(ix:List (Option Nat))(σ:St):St:=ix.map fun o=>o.bind fun i=>(σ[i]?).join
noncomputable def Hk(X:Cx)(N':List Str)(scope:Scope)(s:Shared)(H:Hp)(fp:List Addr):Cx where
 prog:=X.prog
 w:=X.w
 K:=X.K
 mg:=X.mg
 base:=X.base
 A:=X.A
 N:=N'
 s₀:=s
 H₀:=H
 env:=compEnvC scope (cellsFrom (s.heap.objs.size+1) scope.names (Gz X.env.cells scope.names [])) s.heap.objs.size X.env
 outer:=X.stack
 stack:=X.stack
 ex:=fp
 fn:=fun x=>decide (scope.names.lookup x=some .cell)
 calm:=true
 pn:=[]
 xe:=fun _ _=>False
section
variable{X:Cx}{pins:List (Addr×Obj)}{σ:St}{H:Hp}{s:Shared}{N':List Str}{ix:List (Option Nat)}{scope:Scope}{fp:List Addr}
theorem Inv.cellsOf(I:Inv X pins σ H s)(S:Ab X.N X.env.scope N' ix scope):∀y∈scope.names,y.2=.free->∃a,X.env.cells.lookup y.1=some a:=fun y hy hk=>I.ok.has y.1 (S.free y hy hk)
theorem V6 (S : Ab X.N X.env.scope N' ix scope) (hc : X.calm = true) (I : Inv X pins σ H s) (hf : ∀ b ∈ fp, PY X pins H b) (hlt : ∀ b ∈ fp, b < s.heap.objs.size) {h1 : Heap} {m1 : Str -> Option Value} {tk : Nat}
    (hn:h1.Ns s.heap.objs.size m1) (hk:∀b o,s.heap.get? b=some o->h1.get? b=some o) (hC:CellsOk h1 (s.heap.objs.size+1) (cellsFrom (s.heap.objs.size+1) scope.names [])):
    Inv (Hk X N' scope s H fp) [] (sig ix σ) H {s with heap:=h1,toks:=tk}:=by
  have hcl:=I.cellsOf S
  have sub:∀{x:Str} {c:Addr},(Gz X.env.cells scope.names []).lookup x=some c->X.env.cells.lookup x=some c:=fun{x c} h=>by
    rcases Ma hcl h with z|z
    ·simp at z
    ·exact z
  have old:∀{x:Str} {c:Addr},X.env.cells.lookup x=some c->c<s.heap.objs.size:=fun{x c} h=>by
    obtain⟨v,oc,ho,_⟩:=I.cell x c h
    exact Heap.lt_size ho
  have look:∀{x:Str} {c:Addr},(cellsFrom (s.heap.objs.size+1) scope.names (Gz X.env.cells scope.names [])).lookup x=some c->(x,c)∈cellsFrom (s.heap.objs.size+1) scope.names []∨X.env.cells.lookup x=some c:=fun{x c} h=>by
    rw[CD,List.lookup_append]at h
    cases e:(cellsFrom (s.heap.objs.size+1) scope.names []).lookup x with
    |some a=>rw[e]at h;cases h;exact .inl (PySem.mem_of_lookup e)
    |none=>rw[e]at h;exact .inr (sub h)
  refine⟨⟨I.ok.mod,S.kind,I.ok.glob,I.ok.blt,Nat.le_refl _,fun x y c h1 h2=>?_,fun x hx=>?_,fun x c hx h=>?_,fun _=>I.ok.hd hc,I.ok.frames,.inl rfl,fun b hb=>?_,I.bs,Nat.le_trans I.ok.bsz I.sz,fun b o e hb=>?_,fun b hb hs=>?_,I.stack,I.stkFree⟩,
    rfl,I.bare,Un.kept hk,⟨m1,hn,fun j x v h1 h2 h3=>?_⟩,fun x c h=>?_,I.hok.fresh (Nat.le_refl _),fun x c h=>?_,fun p hp=>absurd (show p∈([]:List (Addr×Obj))from hp) (by simp),I.hok.kept hk,?_⟩
  · -- inj
    rcases look h1 with a|a<;>rcases look h2 with b|b
    ·exact name_of_addr hC.apart a b
    ·exact absurd (Nat.lt_of_lt_of_le (old b) (Nat.le_of_succ_le (hC.empty _ _ a).2)) (Nat.lt_irrefl _)
    ·exact absurd (Nat.lt_of_lt_of_le (old a) (Nat.le_of_succ_le (hC.empty _ _ b).2)) (Nat.lt_irrefl _)
    ·exact I.ok.inj x y c a b
  · -- has
    have hx':(relabel scope X.env).names.lookup x=some .cell∨(relabel scope X.env).names.lookup x=some .free:=hx
    show∃c,(cellsFrom (s.heap.objs.size+1) scope.names (Gz X.env.cells scope.names [])).lookup x=some c
    rw[CD,List.lookup_append]
    cases e:(cellsFrom (s.heap.objs.size+1) scope.names []).lookup x with
    |some a=>exact⟨a,rfl⟩
    | none =>
      rcases(hx'.elim (MF (.inl rfl)) (MF (.inr rfl)))with z|z
      ·exact J4 (.inl z)
      · obtain ⟨c, hc⟩ := LO (n := s.heap.objs.size + 1) (S.cells _ z rfl)
        rw[e]at hc;cases hc
  · -- cab
    obtain⟨c',hc'⟩:=LO (n:=s.heap.objs.size+1) (of_decide_eq_true hx)
    have h:(cellsFrom (s.heap.objs.size+1) scope.names (Gz X.env.cells scope.names [])).lookup x=some c:=h
    rw[CD,List.lookup_append,hc']at h
    cases h
    exact Nat.le_of_succ_le (hC.empty _ _ (PySem.mem_of_lookup hc')).2
  · -- exf
    refine⟨Nat.ne_of_lt (hlt b hb),fun x c h=>?_⟩
    rcases look h with a|a
    ·exact fun e=>absurd (Nat.lt_of_lt_of_le (e▸hlt b hb) (Nat.le_of_succ_le (hC.empty _ _ a).2)) (Nat.lt_irrefl _)
    ·exact(hf b hb).2.2.2.2.1 x c a
  · -- noex
    rcases(hf b hb).2.2.2.1 with z|z
    ·exact I.ok.noex b o e z
    ·exact absurd (Nat.lt_of_lt_of_le (Heap.lt_size (I.ok.bs b o e).1) z) (Nat.lt_irrefl _)
  · -- exfs
    rcases List.mem_cons.mp (I.stkSub b hs)with z|z
    ·exact(hf b hb).2.1 z
    ·exact(hf b hb).2.2.1 z
  · -- loc
    unfold sig at h2
    rw[List.getElem?_map]at h2
    cases e:ix[j]? with
    |none=>rw[e]at h2;cases h2
    | some o =>
      rw[e]at h2
      cases o with
      |none=>cases h2
      | some i =>
        have h2':(σ[i]?).join=some v:=by simpa using h2
        have h4:σ[i]?=some (some v):=by
          cases e4:σ[i]? with
          |none=>rw[e4]at h2';cases h2'
          |some q=>rw[e4]at h2';exact congrArg some h2'
        obtain⟨q1,q2,q3⟩:=Yk S.ok h1 e
        obtain⟨m,_,hl⟩:=I.loc
        obtain⟨u,r,l⟩:=hl i x v q1 h4 (q2.elim (fun z=>.inr (.inl z)) fun z=>.inr (.inr z))
        refine⟨u,r,?_⟩
        rcases l with⟨l,_⟩|⟨_,c,lc,z⟩
        · have l' : X.env.scope.names.lookup x = some .local := l
          rcases q2 with z|z<;>(rw[z]at l';cases l')
        · refine .inr ⟨K0 q3, ?_⟩
          obtain⟨c',hc'⟩:=J4 (cells:=X.env.cells) (cs:=[]) (.inl (PySem.mem_of_lookup q3))
          have ec:=sub hc'
          rw[lc]at ec
          cases ec
          have no:(cellsFrom (s.heap.objs.size+1) scope.names []).lookup x=none:=by
            cases e:(cellsFrom (s.heap.objs.size+1) scope.names []).lookup x with
            |none=>rfl
            | some a =>
              have q:=S.cells _ (G5 (PySem.mem_of_lookup e)) rfl
              rw[q3]at q;cases q
          refine⟨c,(by show(cellsFrom (s.heap.objs.size+1) scope.names (Gz X.env.cells scope.names [])).lookup x=some c;rw[CD,List.lookup_append,no];exact hc'),?_⟩
          obtain⟨oc,ho,hd⟩:=z
          exact⟨oc,hk _ _ ho,hd⟩
  · rcases look h with a | a
    ·exact⟨_,(hC.empty _ _ a).1⟩
    · obtain ⟨v, oc, ho, hd⟩ := I.cell x c a
      exact⟨v,oc,hk _ _ ho,hd⟩
  · rcases look h with a | a
    ·exact I.hok.fresh (Nat.le_of_succ_le (hC.empty _ _ a).2)
    ·exact I.freeC x c a
  · show (sig ix σ).length = N'.length
    unfold sig
    rw[List.length_map]
    exact UA S.ok
end
end L2
end
noncomputable section
namespace L2
open PySem PySem.Spec PyProof.Rows
def PTs(X:Cx)(ifs:List Expr)(t:TT):Prop:=
 ∀ (pins : List (Addr × Obj)) (s : Shared) (σ : St) (H : Hp) (Q : Bool -> Hp -> Prop), Inv X pins σ H s -> t σ H Q ->
  wpAny (model X.prog X.w) X.A (forIn ifs true fun c r=>if r=true then do let ok←isTrue c X.env (eval c X.env);pure (ForInStep.yield ok)else pure (ForInStep.yield r)) (TP X pins σ Q) X.xe s
noncomputable def fM:TT:=fun _ H Q=>Q true H
theorem ZO{X:Cx}:PTs X [] fM:=fun _ _ _ H _ I h=>wpAny_tests_nil ⟨H,I,h⟩
theorem Yn{X:Cx}{c:Expr}{t:TT}(h:PT X c t):PTs X [c] t:=fun pins s σ H Q I q=>wpAny_tests_one (h pins s σ H Q I q)
theorem WL{α:Type}{M:Model}{A:Around}{t:Sem α}{Q:α->Shared->Prop}{E:Value->Shared->Prop}{s:Shared}(h:wpAny M A t Q (fun _ _=>False) s):wpAny M A t Q E s:=wpAny_mono h (fun _ _ q=>q) fun _ _ f=>f.elim
def ba(ix:List (Option Nat))(g:TG)(tc:TT)(te:TE)(J:It)(σ:St)(H:Hp)(Q:VK):Prop:=
 ∀ D, H D = none -> ∃ W : Nat -> Nat -> St -> Hp -> List V -> Prop, (∃ m, W 0 m (sig ix σ) (upd H D (.lst [])) []) /\ ∀ i m σ H ys, W i m σ H ys -> H D = some (.lst ys) /\
  ((J.stop i H/\Q (.ref D) H)∨(J.go i H/\ys.length<sizeLine/\∀x H',J.yld i H x H'->g x σ H' fun σ2 H2=>tc σ2 H2 fun b H3=>
   if b=true then te σ2 H3 fun y H4=>H4 D=some (.lst ys)/\∃m',m'<m/\W (i+1) m' σ2 (upd H4 D (.lst (ys++[y]))) (ys++[y])else∃m',m'<m/\W (i+1) m' σ2 H3 ys))
noncomputable def ZT(ix:List (Option Nat))(wi:TI)(g:TG)(tc:TT)(te:TE):TE:=fun σ H Q=>wi σ H fun J H1=>ba ix g tc te J σ H1 Q
section
variable{X:Cx}{pins:List (Addr×Obj)}{σ:St}{s₂:Shared}{N':List Str}{ix:List (Option Nat)}{scope:Scope}{elt tg iter:Expr}{ifs:List Expr}{pos:Pos}{g:TG}{tc:TT}{te:TE}
def Block(X:Cx)(N':List Str)(scope:Scope)(tg:Expr)(ifs:List Expr)(elt:Expr)(g:TG)(tc:TT)(te:TE):Prop:=
 ∀(s:Shared) (H:Hp) (fp:List Addr),PG (Hk X N' scope s H fp) tg g/\PTs (Hk X N' scope s H fp) ifs tc/\PE (Hk X N' scope s H fp) elt te
theorem Ti{X':Cx}{it:Addr}{fp:List Addr}{tn:Nat->Heap->Prop}{J:It}{D:Addr}{Q:VK}{R:Result->Shared->Prop}{W:Nat->Nat->St->Hp->List V->Prop}{s:Shared}{e:Env}{n:Nat}
    (he:X'.env=e) (hx:X'.xe=fun _ _=>False) (hcm:X'.calm=true) (T:Turn X'.prog X'.w X'.K tg J fp it tn) (hfp:∀H:Hp,(∀b∈fp,H b=none)->∀b∈fp,PY X' [] H b)
    (hg:PG X' tg g) (ht:PTs X' ifs tc) (hb:PE X' elt te)
    (turn:∀i m σ H ys,W i m σ H ys->H D=some (.lst ys)/\
      ((J.stop i H/\Q (.ref D) H)∨(J.go i H/\ys.length<sizeLine/\∀x H',J.yld i H x H'->g x σ H' fun σ2 H2=>tc σ2 H2 fun b H3=>
        if b=true then te σ2 H3 fun y H4=>H4 D=some (.lst ys)/\∃m',m'<m/\W (i+1) m' σ2 (upd H4 D (.lst (ys++[y]))) (ys++[y])else∃m',m'<m/\W (i+1) m' σ2 H3 ys)))
    (hR:∀s' σ' H',Inv X' [] σ' H' s'->Q (.ref D) H'->R (.ok .next) s')
    (h0:∃i σ' H' ys,Inv X' [] σ' H' s/\tn i s.heap/\(∀b∈fp,H' b=none)/\W i n σ' H' ys):
    codeAny (model X'.prog X'.w) X'.A (.compLoop (.ListComp elt [⟨tg,iter,ifs,0⟩] scope pos) 0 (.ref it) (.ref D) e) R s:=by
  subst he
  refine codeAny_loop rfl (fun n s=>∃i σ' H' ys,Inv X' [] σ' H' s/\tn i s.heap/\(∀b∈fp,H' b=none)/\W i n σ' H' ys) (fun n s3 hI=>?_) n h0
  show wpAny _ X'.A ((compTurn (.ListComp elt [⟨tg,iter,ifs,0⟩] scope pos) 0 (.ref it) (.ref D) X'.env).onRaise (fun x=>do noteFrame x X'.env;theTreesLotGoes x)) _ _ s3
  refine wpAny_noted (WL ?_)
  rw[compTurn_list]
  obtain⟨i,σ3,H3,ys,I3,st3,fr3,w3⟩:=hI
  obtain⟨hD,alt⟩:=turn i n σ3 H3 ys w3
  rcases alt with⟨stop,q⟩|⟨go,hlen,step⟩
  · refine wpAny_bind (wpAny_standAt (wpAny_bind (thn (T.done X' rfl rfl rfl hcm i [] s3 σ3 H3 _ I3 (hfp H3 fr3) st3 stop) fun r s4 ⟨hr, I4⟩ => ?_)))
    subst hr
    exact wpAny_pure (hR s4 σ3 H3 I4 q)
  · refine wpAny_bind (wpAny_standAt (wpAny_bind (thn (T.item X' rfl rfl rfl hcm i [] s3 σ3 H3 _ I3 (hfp H3 fr3) st3 go) fun r s4 ⟨u, hr, h4⟩ => ?_)))
    subst hr
    refine wpAny_bind (thn h4 fun _ s5 ⟨x,H5,I5,r5,y5,st5,fr5⟩=>?_)
    have I5':=I5.pinned (hfp H5 fr5) (T.obj _ _ st5)
    have hg':=hg _ s5 σ3 H5 x u _ I5' r5 (step x H5 y5)
    rw[hx]at hg'
    refine wpAny_bind (thn hg' fun _ s6 ⟨σ6,H6,I6,q6⟩=>?_)
    have ht':=ht _ s6 σ6 H6 _ I6 q6
    rw[hx]at ht'
    refine wpAny_bind (thn ht' fun ok s7 ⟨H7,I7,q7⟩=>?_)
    have again:∀{s8:Shared} {H8:Hp} {zs:List V} {m':Nat},Inv X' ([]++Pt fp s5.heap) σ6 H8 s8->m'<n->W (i+1) m' σ6 H8 zs->∃m,m<n/\∃i σ' H' ys,Inv X' [] σ' H' s8/\tn i s8.heap/\(∀b∈fp,H' b=none)/\W i m σ' H' ys:=fun{s8 H8 zs m'} I8 hm w8=>by
      refine⟨m',hm,i+1,σ6,H8,zs,I8.unpinned,T.keep _ _ _ st5 fun b hb o e=>(I8.pin (b,o) (List.mem_append_right _ (List.mem_append_right _ (Im hb e)))).1,fun b hb=>?_,w8⟩
      obtain⟨o,e,d⟩:=T.obj _ _ st5 b hb
      exact(I8.pin (b,o) (List.mem_append_right _ (List.mem_append_right _ (Im hb e)))).2.1
    cases ok with
    | false =>
      rw[if_neg (by decide)]at q7
      obtain⟨m',hm,w7⟩:=q7
      exact wpAny_pure ⟨rfl,again I7 hm w7⟩
    | true =>
      rw[if_pos rfl]at q7
      have hb':=hb _ s7 σ6 H7 _ I7 q7
      rw[hx]at hb'
      refine wpAny_bind (wpAny_bind (thn hb' fun v s8 ⟨y,H8,I8,r8,hD8,m',hm,w8⟩=>?_))
      have ha:=P6 (X:=X') _ s8 σ6 H8 (.ref D) [y] (.ref D) [v] (fun _ H9=>H9=upd H8 D (.lst (ys++[y]))) I8 rfl (.cons r8 .nil) ⟨D,ys,y,rfl,rfl,hD8,hlen,rfl⟩
      rw[hx]at ha
      refine wpAny_bind (thn ha fun _ s9 ⟨_,H9,I9,_,e9⟩=>?_)
      subst e9
      exact wpAny_pure (wpAny_pure ⟨rfl,again I9 hm w8⟩)
theorem RS(hc:X.calm=true)(S:Ab X.N X.env.scope N' ix scope)(hb:Block X N' scope tg ifs elt g tc te){it:Addr}{fp:List Addr}{tn:Nat->Heap->Prop}{J:It}{H₂:Hp}{Q:VK}{E:Value->Shared->Prop}
  {RR:Value->Addr->Result->Shared->Prop} (I2:Inv X pins σ H₂ s₂) (T:Turn X.prog X.w X.K tg J fp it tn) (st2:tn 0 s₂.heap) (f2:∀b∈fp,PY X pins H₂ b) (hW:ba ix g tc te J σ H₂ Q)
  (hRR:∀D C H' s',Inv X pins σ H' s'->(∃m,s'.heap.Ns C m)->PY X pins H' C->Q (.ref D) H'->RR (.ref D) C (.ok .next) s'):
  wpAny (model X.prog X.w) X.A (newList []) (fun acc s₃=>wpAny (model X.prog X.w) X.A (newFunctionEnv scope X.env.globals (Gz X.env.cells scope.names []) [] X.env.qual none .none (some X.env)) (fun cenv s₄=>
   codeAny (model X.prog X.w) X.A (.compStart (.ListComp elt [⟨tg,iter,ifs,0⟩] scope pos) 0 (.ref it) acc {cenv with scope:=relabel scope X.env}) (RR acc cenv.locals) s₄) E s₃) E s₂:=by
 have hD0:H₂ s₂.heap.objs.size=none:=I2.hok.fresh (Nat.le_refl _)
 have hlt2:∀b∈fp,b<s₂.heap.objs.size:=fun b hb=>by
  obtain⟨o,e,_⟩:=T.obj _ _ st2 b hb
  exact Heap.lt_size e
 refine wpAny_newObj_type (KP (fun h₁ hns₁ hsb₁ hcl₁=>?_))
 have I3:Inv X pins σ (upd H₂ s₂.heap.objs.size (.lst [])) {s₂ with heap:=s₂.heap.push {cls:=.type "list",dict:=none,data:=.seq ([]:List Value).toArray}}:=
  I2.laid (t':=s₂.toks) (fun b u e=>Heap.get?_push_of_some _ e) (Nat.le_refl _) ⟨Nat.zero_le _,[],0,.nil,Heap.get?_push_size _ rfl⟩
 have f3:∀b∈fp,PY X pins (upd H₂ s₂.heap.objs.size (.lst [])) b:=fun b hb=>⟨by rw[Aw (Nat.ne_of_lt (hlt2 b hb))];exact(f2 b hb).1,(f2 b hb).2⟩
 have k3:∀b o,s₂.heap.get? b=some o->(s₂.heap.push {cls:=.type "list",dict:=none,data:=.seq ([]:List Value).toArray}).get? b=some o:=fun b o e=>Heap.get?_push_of_some _ e
 dsimp only at hns₁ hsb₁ hcl₁⊢
 generalize hs3:({s₂ with heap:=s₂.heap.push {cls:=.type "list",dict:=none,data:=.seq ([]:List Value).toArray}}:Shared)=s₃ at I3
 have eh:s₂.heap.push {cls:=.type "list",dict:=none,data:=.seq ([]:List Value).toArray}=s₃.heap:=by rw[←hs3]
 have et:s₂.toks=s₃.toks:=by rw[←hs3]
 have es:∀(h:Heap) (t:Nat),({s₂ with heap:=h,toks:=t}:Shared)={s₃ with heap:=h,toks:=t}:=fun h t=>by rw[←hs3]
 rw[eh]at hns₁ hsb₁ hcl₁ k3⊢
 have hlt3:∀b∈fp,b<s₃.heap.objs.size:=fun b hb=>by
  obtain⟨o,e,_⟩:=T.obj _ _ st2 b hb
  exact Heap.lt_size (k3 b o e)
 have k4:∀b o,s₃.heap.get? b=some o->h₁.get? b=some o:=hsb₁
 obtain⟨W,⟨m0,w0⟩,turn⟩:=hW _ hD0
 have I4:∀tk,Inv (Hk X N' scope s₃ (upd H₂ s₂.heap.objs.size (.lst [])) fp) [] (sig ix σ) (upd H₂ s₂.heap.objs.size (.lst [])) {s₃ with heap:=h₁,toks:=tk}:=fun tk=>V6 S hc I3 f3 hlt3 hns₁ k4 hcl₁
 have st4:tn 0 h₁:=T.keep _ _ _ st2 fun b hb o e=>k4 b o (k3 b o e)
 obtain⟨bg,bt,be⟩:=hb s₃ (upd H₂ s₂.heap.objs.size (.lst [])) fp
 have noX:∀(H:Hp),(∀b∈fp,H b=none)->∀b∈fp,PY (Hk X N' scope s₃ (upd H₂ s₂.heap.objs.size (.lst [])) fp) [] H b:=fun H hn b hb=>by
  obtain⟨_,h2,h3⟩:=f3 b hb
  refine⟨hn b hb,Nat.ne_of_lt (hlt3 b hb),fun hs=>(I4 0).ok.exfs b hb hs,.inl hb,fun x c h=>?_,fun p hp=>absurd (show p∈([]:List (Addr×Obj))from hp) (by simp)⟩
  exact((I4 0).ok.exf b hb).2 x c h
 have fin:∀(s':Shared) (σ':St) (H':Hp),Inv (Hk X N' scope s₃ (upd H₂ s₂.heap.objs.size (.lst [])) fp) [] σ' H' s'->Q (.ref s₂.heap.objs.size) H'->RR (.ref s₂.heap.objs.size) s₃.heap.objs.size (.ok .next) s':=fun s' σ' H' I' q=>by
  refine hRR _ _ H' s' ?_ (let⟨m,hn,_⟩:=I'.loc;⟨m,hn⟩) (I3.fpOk (Nat.le_refl _) I'.free) q
  exact I3.call' I'.os I'.base I'.hok I'.bare fun b hb=>⟨(f3 b hb).2.2.2.1,(f3 b hb).2.1,(f3 b hb).2.2.2.2.1,(f3 b hb).2.2.2.2.2⟩
 have loop:∀tk,codeAny (model X.prog X.w) X.A (.compLoop (.ListComp elt [⟨tg,iter,ifs,0⟩] scope pos) 0 (.ref it) (.ref s₂.heap.objs.size) (compEnvC scope (cellsFrom (s₃.heap.objs.size+1) scope.names (Gz X.env.cells scope.names [])) s₃.heap.objs.size X.env)) (RR (.ref s₂.heap.objs.size) s₃.heap.objs.size) {s₃ with heap:=h₁,toks:=tk}:=fun tk=>
  Ti (X':=Hk X N' scope s₃ (upd H₂ s₂.heap.objs.size (.lst [])) fp) (D:=s₂.heap.objs.size) (Q:=Q) (W:=W) rfl rfl rfl T noX bg bt be turn fin ⟨0,_,_,_,I4 tk,st4,fun b hb=>(f3 b hb).1,w0⟩
 rw[es]
 exact codeAny_compStart_list (loop _) (T.self _ 0 _ _ _ st4 (loop _))
theorem Zf{wi:TI}(hc:X.calm=true)(S:Ab X.N X.env.scope N' ix scope)(hi:PI X tg iter wi)(hb:Block X N' scope tg ifs elt g tc te)(hs:∀x,foldedSetIterable iter X.env x=pure x:=by intro _;rfl):
  PE X (.ListComp elt [⟨tg,iter,ifs,0⟩] scope pos) (ZT ix wi g tc te):=by
 intro pins s σ H Q I h
 rw[eval_ListComp]
 refine wpAny_comprehension_free (use:=none) rfl hs (RV (I.cellsOf S)) S.kind S.names (thn (hi pins s σ H _ I h) fun v s1 h1=>thn h1 fun itv s2 h2=>?_)
 obtain⟨it,fp,tn,J,H2,e,I2,T,st2,f2,hW⟩:=h2
 subst e
 refine RS (RR:=fun acc C=>compPost (model X.prog X.w) X.A X.xe none (EP X pins σ Q) acc C) hc S hb I2 T st2 f2 hW ?_
 intro D C H' s' I' hm hC q
 obtain⟨m,hm⟩:=hm
 refine⟨m,hm,fun h' hs'=>⟨.ref D,H',I'.turned (it:=C) (t':=s'.toks) (fun b o hb e=>hs'.extBut b o hb e) hC.1 hC.2.1 hC.2.2.2.1 hC.2.2.2.2.1 hC.2.2.2.2.2,rfl,q⟩⟩
end
end L2
end
noncomputable section
namespace L2
open PySem PySem.Spec PyProof.Rows
section
variable{X:Cx}{N':List Str}{ix:List (Option Nat)}{scope:Scope}{elt tg iter:Expr}{ifs:List Expr}{pos spos py:Pos}{g:TG}{tc:TT}{te:TE}{wi:TI}{i:Nat}{y:Str}
theorem R5(hc:X.calm=true)(hN:X.N.Nodup)(hi':X.N[i]?=some y)(hx:X.env.scope.names.lookup y=some .local)(S:Ab X.N X.env.scope N' ix scope)(hi:PI X tg iter wi)(hb:Block X N' scope tg ifs elt g tc te)
  (hsw:swapsWith (.ListComp elt [⟨tg,iter,ifs,0⟩] scope pos) (some (.Name y py)) spos.line X.env=pure true:=by rfl) (hs:∀x,foldedSetIterable iter X.env x=pure x:=by intro _;rfl):
  PS X (.Assign [.Name y py] (.ListComp elt [⟨tg,iter,ifs,0⟩] scope pos) spos) (eU (ZT ix wi g tc te) (Y2 i)):=by
 intro pins s σ H D I h
 rw[exec_Assign_Name_used _ _ _ _ hsw]
 refine wpAny_bind (wpAny_standAt (wpAny_bind ?_))
 show wpAny _ X.A (do let _←comprehension (.ListComp elt [⟨tg,iter,ifs,0⟩] scope pos) scope X.env _ (newList []) false (eval iter X.env) (some (assign (.Name y py) X.env))) _ _ s
 refine wpAny_bind (wpAny_mono (wpAny_comprehension_free (use:=some (assign (.Name y py) X.env)) (Q:=fun _ s'=>SP X pins D .next s') rfl hs (RV (I.cellsOf S)) S.kind S.names
  (thn (hi pins s σ H _ I h) fun v s1 h1=>thn h1 fun itv s2 h2=>?_)) (fun _ s' hq=>wpAny_pure (wpAny_pure hq)) fun _ _ e=>e)
 obtain⟨it,fp,tn,J,H2,e,I2,T,st2,f2,hW⟩:=h2
 subst e
 refine RS (RR:=fun acc C=>compPost (model X.prog X.w) X.A X.xe (some (assign (.Name y py) X.env)) (fun _ s'=>SP X pins D .next s') acc C) hc S hb I2 T st2 f2 hW ?_
 intro L C H' s' I' hm hC q
 obtain⟨m,hm⟩:=hm
 show wpAny _ X.A (assign (.Name y py) X.env (.ref L)) _ _ _
 refine wpAny_assign_Name (QL I' hN hi' (.inl hx) (v:=.ref L) rfl (fun s'' I'' ⟨a,sb,ha⟩=>?_) (.inr hx))
 have hCa:C≠a:=by
  rcases ha with rfl|ha
  ·exact hC.2.1
  ·exact Ne.symm (hC.2.2.2.2.1 y a ha)
 refine⟨m,hm.sameBut sb hCa,fun h' hs'=>?_⟩
 exact⟨_,H',I''.turned (it:=C) (t':=s''.toks) (fun b o hb e=>hs'.extBut b o hb e) hC.1 hC.2.1 hC.2.2.2.1 hC.2.2.2.2.1 hC.2.2.2.2.2,q⟩
end
end L2
end
noncomputable section
namespace L2
open PySem PySem.Spec PyProof.Rows
section
variable{prog:Program}{w:World}{A:Around}{E:Value->Shared->Prop}{s:Shared}
theorem Rt{h:Heap}{it t:Addr}{i:Nat}{o:Obj}(ho:h.get? it=some o)(hc:o.cls=.type "tuple_iterator")(hd:o.data=.fields #[.ref t,.int i 0]){h':Heap}
  (e:h'=h.update it (fun o=>o.mapFields fun a=>a.setIfInBounds 1 (rawInt ((i:Int)+1)))):h'.IsTupleIter it t (i+1):=by
 subst e
 have d:=Obj.data_mapFields hd fun a=>a.setIfInBounds 1 (rawInt ((i:Int)+1))
 refine⟨_,Heap.get?_update_self _ ho (Obj.isFreed_of_fields d),?_,?_⟩
 ·rw[Obj.cls_mapFields];exact hc
 ·rw[d];simp[rawInt]
theorem Wz{it t:Addr}{i:Nat}{items:Array Value}{x:Value}{Q:Value->Shared->Prop}(hit:s.heap.IsTupleIter it t i)(ht:s.heap.IsTuple t items)(hx:items[i]?=some x)
  (hQ:∀h',h'.IsTupleIter it t (i+1)->Heap.SameBut it s.heap h'->Q x {s with heap:=h'}):wpAny (model prog w) A (Builtin.SmallTypes.nextOf (.ref it)) Q E s:=by
 obtain⟨⟨c,dd,dt,sl⟩,ho,hc,hd⟩:=id hit
 obtain⟨⟨c2,dd2,dt2,sl2⟩,ho2,hc2,n2,hd2⟩:=id ht
 simp only at hc hd hc2 hd2
 subst hc hd hc2 hd2
 unfold Builtin.SmallTypes.nextOf
 refine wpAny_bind (wpAny_callSpecial?_slot (name:=Str.ofString "__next__") hit.typeIs F.slot_tuple_iterator_next (wpAny_call_entry F.slot_tuple_iterator_next hit.typeIs F.entry_tuple_iterator_next ?_ (F.args_tuple_iterator_next_1 _)))
 unfold Builtin.«tuple_iterator.__next__»
 wp_walk using AutoSeq1.wpAny_loadPart' ho,AutoSeq1.wpAny_loadPart' ho2
 have e:items[(i:Int).toNat]?=some x:=by rw[Int.toNat_natCast];exact hx
 rw[e]
 refine wpAny_bind (wpAny_setField ho rfl (by simp) ?_)
 exact wpAny_pure ⟨x,rfl,wpAny_pure (hQ _ (Rt ho rfl rfl rfl) (Heap.SameBut.update ..))⟩
theorem Wu{it t:Addr}{i:Nat}{items:Array Value}{Q:Value->Shared->Prop}(hh:A.handled=none)(hit:s.heap.IsTupleIter it t i)(ht:s.heap.IsTuple t items)(hx:items[i]?=none)
  (hE:∀h' e,Heap.ExtBut it s.heap h'->(∃o,h'.get? e=some o/\o.cls=.type "StopIteration")->E (.ref e) {s with heap:=h'}):wpAny (model prog w) A (Builtin.SmallTypes.nextOf (.ref it)) Q E s:=by
 obtain⟨⟨c,dd,dt,sl⟩,ho,hc,hd⟩:=id hit
 obtain⟨⟨c2,dd2,dt2,sl2⟩,ho2,hc2,n2,hd2⟩:=id ht
 simp only at hc hd hc2 hd2
 subst hc hd hc2 hd2
 unfold Builtin.SmallTypes.nextOf
 refine wpAny_bind (wpAny_callSpecial?_slot (name:=Str.ofString "__next__") hit.typeIs F.slot_tuple_iterator_next (wpAny_call_entry F.slot_tuple_iterator_next hit.typeIs F.entry_tuple_iterator_next ?_ (F.args_tuple_iterator_next_1 _)))
 unfold Builtin.«tuple_iterator.__next__»
 wp_walk using AutoSeq1.wpAny_loadPart' ho,AutoSeq1.wpAny_loadPart' ho2
 have e:items[(i:Int).toNat]?=none:=by rw[Int.toNat_natCast];exact hx
 rw[e]
 refine wpAny_bind (wpAny_rule (wpAny_bind (wpAny_setField ho rfl (by simp) ?_)))
 have hh1:A.in1.handled=none:=hh
 unfold Builtin.SmallTypes.stopIteration
 simp only[newExc,newTuple,raiseNew]
 wp_walk
 refine hE _ _ ?_ ⟨_,Heap.get?_push_size _ rfl,rfl⟩
 have a:=(Heap.SameBut.update (a:=it) (h:=s.heap) (f:=Obj.mapFields fun x=>x.setIfInBounds 0 Value.none)).extBut
 exact(a.push _).push _
theorem TQ(l:Addr)(items:Array Value)(n:Nat)(dct:Option Addr)(sl:Array (Option Value)):
  Meets (Builtin.«enumerate.__new__» ⟨[.type "enumerate",.ref l],[]⟩) (fun _ R s=>s.heap.get? l=some {cls:=.type "tuple",dict:=dct,data:=.seq items n,slots:=sl}/\
   R (.ok (.ret (.ref (s.heap.objs.size+1)))) {s with heap:=(s.heap.push {cls:=.type "tuple_iterator",data:=.fields #[.ref l,.int 0 0]}).push {cls:=.type "enumerate",data:=.fields #[.none,.bool false,.ref s.heap.objs.size,rawInt 0,.none,.none]}}):=
 .of_wp fun prog w A R s h=>by
  obtain⟨hp,g,d,tk,os⟩:=s
  obtain⟨hl,h⟩:=h
  have hsub:=sub_enumerate
  have hT:Heap.IsTuple (Shared.heap ⟨hp,g,d,tk,os⟩) l items:=⟨_,hl,rfl,n,rfl⟩
  wp_walk using AutoSeq1.wpAny_loadPart' hl
  refine wpAny_stack_any fun st=>wpAny_pure ?_
  split
  ·rename_i c _ _ _ _ _
   cases (c==Value.type "enumerate")<;>(wp_walk using AutoSeq1.wpAny_loadPart' hl,wpAny_pyIter_tuple hT)<;>(refine⟨_,rfl,?_⟩;rw[Heap.size_push];exact h)
  ·wp_walk using AutoSeq1.wpAny_loadPart' hl,wpAny_pyIter_tuple hT
   refine⟨_,rfl,?_⟩
   rw[Heap.size_push]
   exact h
theorem SH{l:Addr}{items:Array Value}{Q:Value->Shared->Prop}(hT:s.heap.IsTuple l items)
  (h:∀h',IsEnum h' (s.heap.objs.size+1) s.heap.objs.size 0 .none->h'.IsTupleIter s.heap.objs.size l 0->(∀b o,s.heap.get? b=some o->h'.get? b=some o)->Q (.ref (s.heap.objs.size+1)) {s with heap:=h'}):
  wpAny (model prog w) A (call (.type "enumerate") [.ref l]) Q E s:=by
 obtain⟨⟨c,dct,dt,sl⟩,hl,hc,n,hd⟩:=hT
 simp only at hc hd
 subst hc hd
 refine callType_new F.called_enumerate (by decide) (F.typeCall_enumerate_1 _) (F.newCall_enumerate_1 _) (fun obj=>F.args_object_init_2 obj _) F.entry_enumerate_new (TQ l items n dct sl) ⟨hl,?_⟩
 have z:=Heap.get?_push_size (s.heap.push {cls:=.type "tuple_iterator",data:=.fields #[.ref l,.int 0 0]}) (o:={cls:=.type "enumerate",data:=.fields #[.none,.bool false,.ref s.heap.objs.size,rawInt 0,.none,.none]}) rfl
 rw[Heap.size_push]at z
 exact⟨⟨_,z,rfl⟩,h _ z ⟨_,Heap.get?_push_of_some _ (Heap.get?_push_size _ rfl),rfl,rfl⟩ fun b o x=>Heap.get?_push_of_some _ (Heap.get?_push_of_some _ x)⟩
end
section
variable{X:Cx}
end
end L2
end
noncomputable section
namespace L2
open PySem PySem.Spec PyProof.Rows
structure TopD(K:PySem.W.Frag)(w:World)(a:Addr)(kvs:List (Str×V)):Prop where
 ex:∃(es:Array DictEntry) (n:Nat),K.lookup a=some ⟨.type "dict",none,.dict es n, #[]⟩/\PySem.W.KeysLit w.params es.toList/\(a==sysModules)=false/\∀x,de (kvs.lookup x) (findBy Value.isStrOf es x)
section
variable{X:Cx}
end
end L2
end
noncomputable section
namespace L2
open PySem PySem.Spec PyProof.Rows
def SIt(h:Heap)(j l:Addr)(i:Nat)(its:Array Value):Prop:=(h.IsListIter j l i/\h.IsList l its)∨(h.IsTupleIter j l i/\h.IsTuple l its)
section
variable{prog:Program}{w:World}{A:Around}{E:Value->Shared->Prop}{s:Shared}{h h':Heap}{j l:Addr}{i:Nat}{its:Array Value}
theorem SIt.at(q:SIt h j l i its)(k1:∀o,h.get? j=some o->h'.get? j=some o)(k2:∀o,h.get? l=some o->h'.get? l=some o):SIt h' j l i its:=by
 rcases q with⟨a,b⟩|⟨a,b⟩
 ·exact .inl ⟨a.at k1,b.at k2⟩
 ·exact .inr ⟨a.at k1,let⟨o,e,r⟩:=b;⟨o,k2 o e,r⟩⟩
theorem SIt.but{c:Addr}(q:SIt h j l i its)(sb:Heap.ExtBut c h h')(n1:j≠c)(n2:l≠c):SIt h' j l i its:=q.at (fun o e=>sb _ o n1 e) fun o e=>sb _ o n2 e
theorem SIt.live(q:SIt h j l i its):∃o,h.get? j=some o/\∀v,o.data≠.cell v:=by
 rcases q with⟨⟨o,a,b,c⟩,_⟩|⟨⟨o,a,b,c⟩,_⟩
 ·exact⟨o,a,fun v z=>by rw[c]at z;cases z⟩
 ·exact⟨o,a,fun v z=>by rw[c]at z;cases z⟩
theorem SIt.ne(q:SIt h j l i its):l≠j:=by
 rcases q with⟨⟨o,a,b,_⟩,⟨o2,a2,b2,_⟩⟩|⟨⟨o,a,b,_⟩,⟨o2,a2,b2,_⟩⟩
 ·intro z;subst z;rw[a]at a2;cases a2;rw[b]at b2;injection b2 with q;exact absurd q (by decide)
 ·intro z;subst z;rw[a]at a2;cases a2;rw[b]at b2;injection b2 with q;exact absurd q (by decide)
theorem HB{x:Value}{Q:Value->Shared->Prop}(q:SIt s.heap j l i its)(hx:its[i]?=some x)(k:∀h',SIt h' j l (i+1) its->Heap.SameBut j s.heap h'->Q x {s with heap:=h'}):
  wpAny (model prog w) A (Builtin.SmallTypes.nextOf (.ref j)) Q E s:=by
 have n:=q.ne
 rcases q with⟨a,b⟩|⟨a,b⟩
 ·exact wpAny_nextOf_list_item a b hx fun h' a' sb=>k h' (.inl ⟨a',b.extBut sb.extBut n⟩) sb
 ·exact Wz a b hx fun h' a' sb=>k h' (.inr ⟨a',let⟨o,e,r⟩:=b;⟨o,sb.extBut _ o n e,r⟩⟩) sb
theorem Jk{Q:Value->Shared->Prop}(hh:A.handled=none)(q:SIt s.heap j l i its)(hx:its[i]?=none)(k:∀h' e,Heap.ExtBut j s.heap h'->(∃o,h'.get? e=some o/\o.cls=.type "StopIteration")->E (.ref e) {s with heap:=h'}):
  wpAny (model prog w) A (Builtin.SmallTypes.nextOf (.ref j)) Q E s:=by
 rcases q with⟨a,b⟩|⟨a,b⟩
 ·exact wpAny_nextOf_list_end hh a b hx k
 ·exact Wu hh a b hx k
theorem Tc{z ti tt j1 j2 l1 l2:Addr}{m:Nat}{xs ys:Array Value}{x y u1 u2:Value}{Q:Value->Shared->Prop}(D:ZipApart z ti tt j1 j2 l1 l2)
  (oz:IsZip s.heap z ti tt .none) (oi:IsPair s.heap ti (.ref j1) (.ref j2)) (ot:IsPair s.heap tt u1 u2) (q1:SIt s.heap j1 l1 m xs) (q2:SIt s.heap j2 l2 m ys) (ex:xs[m]?=some x) (ey:ys[m]?=some y)
  (k:∀h',IsZip h' z ti tt (rawInt s.heap.objs.size)->IsPair h' tt x y->SIt h' j1 l1 (m+1) xs->SIt h' j2 l2 (m+1) ys->IsPair h' s.heap.objs.size x y->
   (∀c o,c≠z->c≠tt->c≠j1->c≠j2->s.heap.get? c=some o->h'.get? c=some o)->Q (.ref s.heap.objs.size) {s with heap:=h'}):
  wpAny (model prog w) A (Builtin.«zip.__next__» ⟨[.ref z],[]⟩) (fun fin s'=>∃v,fin=.done (.ret v)/\Q v s') E s:=by
 show wpAny _ _ (field (.ref z) 2 >>= _) _ _ _
 refine wpAny_bind (wpAny_field oz rfl (x:=.bool false) rfl ?_)
 show wpAny _ _ (field (.ref z) 3 >>= _) _ _ _
 refine wpAny_bind (wpAny_field oz rfl (x:=.ref ti) rfl (wpAny_bind (wpAny_seqItems oi rfl ?_)))
 show wpAny _ _ (Builtin.SmallTypes.ownedTupleIsFree (.ref z) >>= _) _ _ _
 refine wpAny_bind ?_
 unfold Builtin.SmallTypes.ownedTupleIsFree
 refine wpAny_bind (wpAny_field oz rfl (x:=.none) rfl (wpAny_pure ?_))
 simp only[if_true]
 refine wpAny_bind (wpAny_rule (wpAny_bind (wpAny_field oz rfl (x:=.ref tt) rfl (wpAny_bind (wpAny_setField_rec oz (by simp) fun g1 oz1 b1=>?_)))))
 have oz1:IsZip g1 z ti tt .ellipsis:=oz1
 refine wpAny_bind ?_
 simp only[List.zipIdx_cons,List.zipIdx_nil,List.forIn_cons,List.forIn_nil]
 refine wpAny_bind (wpAny_bind (wpAny_onRaise ?_))
 show wpAny _ _ (Builtin.SmallTypes.nextOf (.ref j1) >>= _) _ _ _
 refine wpAny_bind (HB (q1.but b1.extBut D.i1z D.l1z) ex fun g2 q12 b2=>wpAny_pure ?_)
 have ot2:IsPair g2 tt u1 u2:=b2.extBut _ _ D.TOi1 (b1.extBut _ _ D.TOz ot)
 refine wpAny_bind (wpAny_seqItems ot2 rfl (wpAny_bind (wpAny_updateSeq_pair ot2 fun g3 ot3 b3=>?_)))
 have ot3:IsPair g3 tt x u2:=ot3
 refine wpAny_bind (wpAny_letGo (wpAny_pure (wpAny_bind (wpAny_bind (wpAny_onRaise ?_)))))
 show wpAny _ _ (Builtin.SmallTypes.nextOf (.ref j2) >>= _) _ _ _
 refine wpAny_bind (HB (((q2.but b1.extBut D.i2z D.l2z).but b2.extBut D.i12.symm D.l2i1).but b3.extBut D.TOi2.symm D.l2TO) ey fun g4 q24 b4=>wpAny_pure ?_)
 have ot4:IsPair g4 tt x u2:=b4.extBut _ _ D.TOi2 ot3
 refine wpAny_bind (wpAny_seqItems ot4 rfl (wpAny_bind (wpAny_updateSeq_pair ot4 fun g5 ot5 b5=>?_)))
 have ot5:IsPair g5 tt x y:=ot5
 refine wpAny_bind (wpAny_letGo (wpAny_pure (wpAny_pure (wpAny_bind (wpAny_seqItems ot5 rfl (wpAny_bind (wpAny_newTuple ?_)))))))
 have sz:g5.objs.size=s.heap.objs.size:=by rw[b5.1,b4.1,b3.1,b2.1,b1.1]
 have oz5:IsZip g5 z ti tt .ellipsis:=b5.extBut _ _ D.TOz.symm (b4.extBut _ _ D.i2z.symm (b3.extBut _ _ D.TOz.symm (b2.extBut _ _ D.i1z.symm oz1)))
 have k5:∀c o,c≠z->c≠tt->c≠j1->c≠j2->s.heap.get? c=some o->g5.get? c=some o:=fun c o c1 c2 c3 c4 e=>b5.extBut _ _ c2 (b4.extBut _ _ c4 (b3.extBut _ _ c2 (b2.extBut _ _ c3 (b1.extBut _ _ c1 e))))
 have q15:SIt g5 j1 l1 (m+1) xs:=((q12.but b3.extBut D.TOi1.symm D.l1TO).but b4.extBut D.i12 D.l1i2).but b5.extBut D.TOi1.symm D.l1TO
 have q25:SIt g5 j2 l2 (m+1) ys:=q24.but b5.extBut D.TOi2.symm D.l2TO
 have zlt:z<g5.objs.size:=Heap.lt_size oz5
 show wpAny _ _ (Builtin.SmallTypes.ownedTupleHandOut (.ref z) (.ref g5.objs.size) >>= _) _ _ _
 refine wpAny_bind ?_
 unfold Builtin.SmallTypes.ownedTupleHandOut
 have oz6:IsZip (g5.push {cls:=.type "tuple",data:=.seq #[x,y]}) z ti tt .ellipsis:=Heap.get?_push_of_some _ oz5
 refine wpAny_bind (wpAny_setField_rec oz6 (by simp) fun g7 oz7 b7=>?_)
 have oz7:IsZip g7 z ti tt (rawInt g5.objs.size):=oz7
 refine wpAny_setField_rec oz7 (by simp) fun g8 oz8 b8=>?_
 have oz8:IsZip g8 z ti tt (rawInt g5.objs.size):=oz8
 have up:∀c o,c≠z->g5.get? c=some o->g8.get? c=some o:=fun c o c1 e=>b8.extBut _ _ c1 (b7.extBut _ _ c1 (Heap.get?_push_of_some _ e))
 have op8:IsPair g8 g5.objs.size x y:=b8.extBut _ _ (Nat.ne_of_gt zlt) (b7.extBut _ _ (Nat.ne_of_gt zlt) (Heap.get?_push_size _ rfl))
 rw[sz]at oz8 op8
 refine wpAny_pure ⟨_,rfl,?_⟩
 show Q (.ref g5.objs.size) _
 rw[sz]
 exact k g8 oz8 (up _ _ D.TOz ot5) (q15.at (fun o e=>up _ o D.i1z e) fun o e=>up _ o D.l1z e) (q25.at (fun o e=>up _ o D.i2z e) fun o e=>up _ o D.l2z e) op8 fun c o c1 c2 c3 c4 e=>up c o c1 (k5 c o c1 c2 c3 c4 e)
theorem V7{z ti tt j1 j2 l1 l2:Addr}{m:Nat}{xs ys:Array Value}{u1 u2:Value}{Q:Fin->Shared->Prop}(hh:A.handled=none)(D:ZipApart z ti tt j1 j2 l1 l2)
    (oz:IsZip s.heap z ti tt .none) (oi:IsPair s.heap ti (.ref j1) (.ref j2)) (ot:IsPair s.heap tt u1 u2) (q1:SIt s.heap j1 l1 m xs) (q2:SIt s.heap j2 l2 m ys) (en:xs[m]?=none∨ys[m]?=none)
    (k:∀h' e,(∀c o,c≠z->c≠tt->c≠j1->c≠j2->s.heap.get? c=some o->h'.get? c=some o)->(∃o,h'.get? e=some o/\o.cls=.type "StopIteration")->E (.ref e) {s with heap:=h'}):
    wpAny (model prog w) A (Builtin.«zip.__next__» ⟨[.ref z],[]⟩) Q E s:=by
  show wpAny _ _ (field (.ref z) 2 >>= _) _ _ _
  refine wpAny_bind (wpAny_field oz rfl (x:=.bool false) rfl ?_)
  show wpAny _ _ (field (.ref z) 3 >>= _) _ _ _
  refine wpAny_bind (wpAny_field oz rfl (x:=.ref ti) rfl (wpAny_bind (wpAny_seqItems oi rfl ?_)))
  show wpAny _ _ (Builtin.SmallTypes.ownedTupleIsFree (.ref z) >>= _) _ _ _
  refine wpAny_bind ?_
  unfold Builtin.SmallTypes.ownedTupleIsFree
  refine wpAny_bind (wpAny_field oz rfl (x:=.none) rfl (wpAny_pure ?_))
  simp only[if_true]
  refine wpAny_bind (wpAny_rule (wpAny_bind (wpAny_field oz rfl (x:=.ref tt) rfl (wpAny_bind (wpAny_setField_rec oz (by simp) fun g1 oz1 b1=>?_)))))
  have oz1:IsZip g1 z ti tt .ellipsis:=oz1
  refine wpAny_bind ?_
  simp only[List.zipIdx_cons,List.zipIdx_nil,List.forIn_cons,List.forIn_nil]
  refine wpAny_bind (wpAny_bind (wpAny_onRaise ?_))
  show wpAny _ _ (Builtin.SmallTypes.nextOf (.ref j1) >>= _) _ _ _
  cases ex:xs[m]? with
  | none =>
    refine wpAny_bind (Jk hh (q1.but b1.extBut D.i1z D.l1z) ex fun g2 e b2 he=>?_)
    obtain⟨oe,e1,e2⟩:=he
    have oz2:IsZip g2 z ti tt .ellipsis:=b2 _ _ D.i1z.symm oz1
    have nez:e≠z:=fun x=>by subst x;rw[oz2]at e1;cases e1;simp at e2
    exact wpAny_setField_rec oz2 (by simp) fun g3 _ b3=>k g3 e (fun c o c1 _ c3 _ x=>b3.extBut _ _ c1 (b2 _ _ c3 (b1.extBut _ _ c1 x))) ⟨oe,b3.extBut _ _ nez e1,e2⟩
  | some x =>
    have ey:ys[m]?=none:=by
      rcases en with z|z
      ·rw[ex]at z;cases z
      ·exact z
    refine wpAny_bind (HB (q1.but b1.extBut D.i1z D.l1z) ex fun g2 q12 b2=>wpAny_pure ?_)
    have ot2:IsPair g2 tt u1 u2:=b2.extBut _ _ D.TOi1 (b1.extBut _ _ D.TOz ot)
    refine wpAny_bind (wpAny_seqItems ot2 rfl (wpAny_bind (wpAny_updateSeq_pair ot2 fun g3 ot3 b3=>?_)))
    refine wpAny_bind (wpAny_letGo (wpAny_pure (wpAny_bind (wpAny_bind (wpAny_onRaise ?_)))))
    show wpAny _ _ (Builtin.SmallTypes.nextOf (.ref j2) >>= _) _ _ _
    refine wpAny_bind (Jk hh (((q2.but b1.extBut D.i2z D.l2z).but b2.extBut D.i12.symm D.l2i1).but b3.extBut D.TOi2.symm D.l2TO) ey fun g4 e b4 he=>?_)
    obtain⟨oe,e1,e2⟩:=he
    have oz4:IsZip g4 z ti tt .ellipsis:=b4 _ _ D.i2z.symm (b3.extBut _ _ D.TOz.symm (b2.extBut _ _ D.i1z.symm oz1))
    have nez:e≠z:=fun x=>by subst x;rw[oz4]at e1;cases e1;simp at e2
    exact wpAny_setField_rec oz4 (by simp) fun g5 _ b5=>k g5 e (fun c o c1 c2 c3 c4 x=>b5.extBut _ _ c1 (b4 _ _ c4 (b3.extBut _ _ c2 (b2.extBut _ _ c3 (b1.extBut _ _ c1 x))))) ⟨oe,b5.extBut _ _ nez e1,e2⟩
theorem R8{z ti tt j1 j2 l1 l2:Addr}{m:Nat}{xs ys:Array Value}{x y u1 u2:Value}{Q:Option Value->Shared->Prop}(D:ZipApart z ti tt j1 j2 l1 l2)
  (oz:IsZip s.heap z ti tt .none) (oi:IsPair s.heap ti (.ref j1) (.ref j2)) (ot:IsPair s.heap tt u1 u2) (q1:SIt s.heap j1 l1 m xs) (q2:SIt s.heap j2 l2 m ys) (ex:xs[m]?=some x) (ey:ys[m]?=some y)
  (k:∀h',IsZip h' z ti tt (rawInt s.heap.objs.size)->IsPair h' tt x y->SIt h' j1 l1 (m+1) xs->SIt h' j2 l2 (m+1) ys->IsPair h' s.heap.objs.size x y->
   (∀c o,c≠z->c≠tt->c≠j1->c≠j2->s.heap.get? c=some o->h'.get? c=some o)->Q (some (.ref s.heap.objs.size)) {s with heap:=h'}):
  wpAny (model prog w) A (pyNext (.ref z)) Q E s:=by
 have ht:s.TypeIs (.ref z) "zip":=⟨_,oz,rfl⟩
 unfold pyNext
 exact wpAny_bind (wpAny_attempt (wpAny_callSpecial?_slot (name:=Str.ofString "__next__") ht F.slot_zip_next (wpAny_call_entry F.slot_zip_next ht F.entry_zip_next
  (Tc D oz oi ot q1 q2 ex ey fun h' a1 a2 a3 a4 a5 a6=>wpAny_pure (k h' a1 a2 a3 a4 a5 a6)) (F.args_zip_next_1 _))))
theorem SY{z ti tt j1 j2 l1 l2:Addr}{m:Nat}{xs ys:Array Value}{u1 u2:Value}{Q:Option Value->Shared->Prop}(hh:A.handled=none)(D:ZipApart z ti tt j1 j2 l1 l2)
  (oz:IsZip s.heap z ti tt .none) (oi:IsPair s.heap ti (.ref j1) (.ref j2)) (ot:IsPair s.heap tt u1 u2) (q1:SIt s.heap j1 l1 m xs) (q2:SIt s.heap j2 l2 m ys) (en:xs[m]?=none∨ys[m]?=none)
  (k:∀h',(∀c o,c≠z->c≠tt->c≠j1->c≠j2->s.heap.get? c=some o->h'.get? c=some o)->Q none {s with heap:=h'}):wpAny (model prog w) A (pyNext (.ref z)) Q E s:=by
 have ht:s.TypeIs (.ref z) "zip":=⟨_,oz,rfl⟩
 unfold pyNext
 refine wpAny_bind (wpAny_attempt (wpAny_callSpecial?_slot (name:=Str.ofString "__next__") ht F.slot_zip_next (wpAny_call_entry F.slot_zip_next ht F.entry_zip_next
  (V7 hh D oz oi ot q1 q2 en fun h' e kp he=>?_) (F.args_zip_next_1 _))))
 obtain⟨o,e1,e2⟩:=he
 exact wpAny_bind (wpAny_isInstance (T:="StopIteration") (b:=true) ⟨o,e1,e2⟩ isSubtype_stop (wpAny_pure (k _ kp)))
end
end L2
end
noncomputable section
namespace L2
open PySem PySem.Spec PyProof.Rows
def HR(h:Heap)(b:Bool)(l:Addr)(its:Array Value):Prop:=match b with|true=>h.IsTuple l its|false=>h.IsList l its
noncomputable def bM:Bool->String|true=>"tuple_iterator" |false=>"list_iterator"
noncomputable def zh1(h:Heap)(b:Bool)(l:Addr):Heap:=h.push {cls:=.type (bM b),data:=.fields #[.ref l,.int 0 0]}
noncomputable def zh2(h:Heap)(b c:Bool)(l m:Addr):Heap:=zh1 (zh1 h b l) c m
noncomputable def zh3(h:Heap)(b c:Bool)(l m:Addr):Heap:=(zh2 h b c l m).push {cls:=.type "tuple",data:=.seq #[.ref h.objs.size,.ref (zh1 h b l).objs.size]}
noncomputable def zh4(h:Heap)(b c:Bool)(l m:Addr):Heap:=(zh3 h b c l m).push {cls:=.type "tuple",data:=.seq #[.none,.none]}
noncomputable def zh5(h:Heap)(b c:Bool)(l m:Addr):Heap:=(zh4 h b c l m).push {cls:=.type "zip",data:=.fields #[.none,.bool false,.bool false,.ref (zh2 h b c l m).objs.size,.ref (zh3 h b c l m).objs.size]}
theorem HR.push{h:Heap}{b:Bool}{l:Addr}{its:Array Value}(q:HR h b l its)(o:Obj):HR (h.push o) b l its:=by
 cases b
 ·exact Heap.IsList.push q _
 ·obtain⟨u,e,r⟩:=(show h.IsTuple l its from q)
  exact⟨u,Heap.get?_push_of_some _ e,r⟩
theorem Vx(b c:Bool)(l m:Addr)(xs ys:Array Value):
  Meets (Builtin.«zip.__new__» ⟨[.type "zip",.ref l,.ref m],[]⟩) (fun _ R s=>HR s.heap b l xs/\HR s.heap c m ys/\R (.ok (.ret (.ref (zh4 s.heap b c l m).objs.size))) {s with heap:=zh5 s.heap b c l m}):=
 .of_wp fun prog w A R s hyp=>by
  obtain⟨hp,gs,dr,tk,os⟩:=s
  obtain⟨i1,i2,hyp⟩:=hyp
  have hsub:=sub_zip
  have i3:HR (Shared.heap ⟨zh1 hp b l,gs,dr,tk,os⟩) c m ys:=HR.push i2 _
  cases b<;>cases c
  ·have a1:Heap.IsList (Shared.heap ⟨hp,gs,dr,tk,os⟩) l xs:=i1
   have a2:Heap.IsList (Shared.heap ⟨hp.push {cls:=.type "list_iterator",data:=.fields #[.ref l,.int 0 0]},gs,dr,tk,os⟩) m ys:=i3
   wp_walk using wpAny_pyIter_list a1,wpAny_pyIter_list a2
   exact⟨_,rfl,hyp⟩
  ·have a1:Heap.IsList (Shared.heap ⟨hp,gs,dr,tk,os⟩) l xs:=i1
   have a2:Heap.IsTuple (Shared.heap ⟨hp.push {cls:=.type "list_iterator",data:=.fields #[.ref l,.int 0 0]},gs,dr,tk,os⟩) m ys:=i3
   wp_walk using wpAny_pyIter_list a1,wpAny_pyIter_tuple a2
   exact⟨_,rfl,hyp⟩
  ·have a1:Heap.IsTuple (Shared.heap ⟨hp,gs,dr,tk,os⟩) l xs:=i1
   have a2:Heap.IsList (Shared.heap ⟨hp.push {cls:=.type "tuple_iterator",data:=.fields #[.ref l,.int 0 0]},gs,dr,tk,os⟩) m ys:=i3
   wp_walk using wpAny_pyIter_tuple a1,wpAny_pyIter_list a2
   exact⟨_,rfl,hyp⟩
  ·have a1:Heap.IsTuple (Shared.heap ⟨hp,gs,dr,tk,os⟩) l xs:=i1
   have a2:Heap.IsTuple (Shared.heap ⟨hp.push {cls:=.type "tuple_iterator",data:=.fields #[.ref l,.int 0 0]},gs,dr,tk,os⟩) m ys:=i3
   wp_walk using wpAny_pyIter_tuple a1,wpAny_pyIter_tuple a2
   exact⟨_,rfl,hyp⟩
section
variable{prog:Program}{w:World}{A:Around}{E:Value->Shared->Prop}{s:Shared}
theorem QK{h h':Heap}{b:Bool}{l j:Addr}{its:Array Value}(q:HR h b l its)(k:∀c o,h.get? c=some o->h'.get? c=some o)(e:h'.get? j=some {cls:=.type (bM b),data:=.fields #[.ref l,.int 0 0]}):SIt h' j l 0 its:=by
 cases b
 ·exact .inl ⟨⟨_,e,rfl,rfl⟩,(show h.IsList l its from q).at fun o z=>k _ o z⟩
 ·exact .inr ⟨⟨_,e,rfl,rfl⟩,let⟨o,z,r⟩:=(show h.IsTuple l its from q);⟨o,k _ o z,r⟩⟩
theorem TN{b c:Bool}{l m:Addr}{xs ys:Array Value}{Q:Value->Shared->Prop}(i1:HR s.heap b l xs)(i2:HR s.heap c m ys)
  (k:∀h',IsZip h' (s.heap.objs.size+4) (s.heap.objs.size+2) (s.heap.objs.size+3) .none->IsPair h' (s.heap.objs.size+2) (.ref s.heap.objs.size) (.ref (s.heap.objs.size+1))->
   IsPair h' (s.heap.objs.size+3) .none .none->SIt h' s.heap.objs.size l 0 xs->SIt h' (s.heap.objs.size+1) m 0 ys->(∀c o,s.heap.get? c=some o->h'.get? c=some o)->Q (.ref (s.heap.objs.size+4)) {s with heap:=h'}):
  wpAny (model prog w) A (call (.type "zip") [.ref l,.ref m]) Q E s:=by
 refine callType_new F.called_zip (by decide) (F.typeCall_zip_2 _ _) (F.newCall_zip_2 _ _) (fun obj=>F.args_object_init_3 obj _ _) F.entry_zip_new (Vx b c l m xs ys) ⟨i1,i2,?_⟩
 have z1:(zh1 s.heap b l).objs.size=s.heap.objs.size+1:=Heap.size_push ..
 have z2:(zh2 s.heap b c l m).objs.size=s.heap.objs.size+2:=by unfold zh2 zh1;rw[Heap.size_push];exact congrArg (· +1) z1
 have z3:(zh3 s.heap b c l m).objs.size=s.heap.objs.size+3:=by unfold zh3;rw[Heap.size_push,z2]
 have z4:(zh4 s.heap b c l m).objs.size=s.heap.objs.size+4:=by unfold zh4;rw[Heap.size_push,z3]
 have kp:∀d o,s.heap.get? d=some o->(zh5 s.heap b c l m).get? d=some o:=fun d o e=>by
  unfold zh5 zh4 zh3 zh2 zh1
  exact Heap.get?_push_of_some _ (Heap.get?_push_of_some _ (Heap.get?_push_of_some _ (Heap.get?_push_of_some _ (Heap.get?_push_of_some _ e))))
 have g5:(zh5 s.heap b c l m).get? (zh4 s.heap b c l m).objs.size=some _:=Heap.get?_push_size _ rfl
 have g4:(zh5 s.heap b c l m).get? (zh3 s.heap b c l m).objs.size=some _:=Heap.get?_push_of_some _ (Heap.get?_push_size _ rfl)
 have g3:(zh5 s.heap b c l m).get? (zh2 s.heap b c l m).objs.size=some _:=Heap.get?_push_of_some _ (Heap.get?_push_of_some _ (Heap.get?_push_size _ rfl))
 have g2:(zh5 s.heap b c l m).get? (zh1 s.heap b l).objs.size=some _:=Heap.get?_push_of_some _ (Heap.get?_push_of_some _ (Heap.get?_push_of_some _ (Heap.get?_push_size _ rfl)))
 have g1:(zh5 s.heap b c l m).get? s.heap.objs.size=some _:=Heap.get?_push_of_some _ (Heap.get?_push_of_some _ (Heap.get?_push_of_some _ (Heap.get?_push_of_some _ (Heap.get?_push_size _ rfl))))
 show _/\_
 rw[z2,z3,z4]at g5
 rw[z1,z2]at g3
 rw[z3]at g4
 rw[z1]at g2
 rw[z4]
 exact⟨⟨_,g5,rfl⟩,k _ g5 g3 g4 (QK i1 kp g1) (QK i2 kp g2) kp⟩
end
end L2
end
noncomputable section
namespace L2
open PySem PySem.Spec PyProof.Rows
def SqB(K:PySem.W.Frag)(H:Hp)(k:Bool)(a:Addr)(xs:List V):Prop:=match k with|true=>SqT K H a xs|false=>SqL K H a xs
def JIt(h:Heap)(k:Bool)(j l:Addr)(i:Nat):Prop:=match k with|true=>h.IsTupleIter j l i|false=>h.IsListIter j l i
theorem JIt.at{h h':Heap}{k:Bool}{j l:Addr}{i:Nat}(q:JIt h k j l i)(e:∀o,h.get? j=some o->h'.get? j=some o):JIt h' k j l i:=by
 cases k
 ·exact Heap.IsListIter.at q e
 ·exact Heap.IsTupleIter.at q e
theorem JIt.sit{h:Heap}{k:Bool}{j l:Addr}{i:Nat}{its:Array Value}(q:JIt h k j l i)(p:HR h k l its):SIt h j l i its:=by
 cases k
 ·exact .inl ⟨q,p⟩
 ·exact .inr ⟨q,p⟩
theorem SIt.jit{h:Heap}{k:Bool}{j l:Addr}{i:Nat}{its:Array Value}(q:SIt h j l i its)(p:HR h k l its):JIt h k j l i:=by
 rcases q with⟨q,r⟩|⟨q,r⟩
 ·cases k
  ·exact q
  ·obtain⟨o,e,c,_⟩:=r;obtain⟨o',e',c',_⟩:=(show h.IsTuple l its from p)
   rw[e]at e';cases e';rw[c]at c';injection c' with z;exact absurd z (by decide)
 ·cases k
  ·obtain⟨o,e,c,_⟩:=r;obtain⟨o',e',c',_⟩:=(show h.IsList l its from p)
   rw[e]at e';cases e';rw[c]at c';injection c' with z;exact absurd z (by decide)
  ·exact q
theorem Inv.sqB{X:Cx}{pins:List (Addr×Obj)}{σ:St}{H:Hp}{s:Shared}{k:Bool}{a:Addr}{xs:List V}(I:Inv X pins σ H s)(h:SqB X.K H k a xs):∃its:List Value,Vals xs its/\HR s.heap k a its.toArray:=by
 cases k
 ·obtain⟨its,h1,⟨o,n,q1,q2,_,q3⟩,h3⟩:=I.list h
  exact⟨its,h1,o,q1,q2,n,q3⟩
 ·obtain⟨its,h1,h2,h3⟩:=I.tuple h
  exact⟨its,h1,h2⟩
theorem Inv.sqB_inj{X:Cx}{pins:List (Addr×Obj)}{σ:St}{H:Hp}{s:Shared}{k:Bool}{a:Addr}{xs ys:List V}(I:Inv X pins σ H s)(h:SqB X.K H k a xs)(g:SqB X.K H k a ys):xs=ys:=by
 cases k
 ·exact I.list_inj h g
 ·exact I.tuple_inj h g
noncomputable def Itz(K:PySem.W.Frag)(k:Bool)(a:Addr)(m:Bool)(b:Addr):It:=
  ⟨fun i H=>∃(xs ys:List V) (x y:V),SqB K H k a xs/\SqB K H m b ys/\xs[i]?=some x/\ys[i]?=some y,
   fun i H v H'=>∃(p:Addr) (x y:V),H p=none/\v=.ref p/\(∀xs,SqB K H k a xs->xs[i]?=some x)/\(∀ys,SqB K H m b ys->ys[i]?=some y)/\H'=upd H p (.tup [x,y]),
   fun i H=>∃(xs ys:List V),SqB K H k a xs/\SqB K H m b ys/\(xs.length≤i∨ys.length≤i)⟩
structure ZSt(h:Heap)(z ti tt j1 j2:Addr)(k:Bool)(a:Addr)(m:Bool)(b:Addr)(i:Nat):Prop where
 oz:IsZip h z ti tt .none
 oi:IsPair h ti (.ref j1) (.ref j2)
 ot:∃u v,IsPair h tt u v
 q1:JIt h k j1 a i
 q2:JIt h m j2 b i
structure ZNe(z ti tt j1 j2:Addr):Prop where
 n1:ti≠z
 n2:tt≠z
 n3:j1≠z
 n4:j2≠z
 n5:ti≠tt
 n6:ti≠j1
 n7:ti≠j2
 n8:tt≠j1
 n9:tt≠j2
 n10:j1≠j2
theorem ZNe.apart{z ti tt j1 j2 a b:Addr}(N:ZNe z ti tt j1 j2)(ha:a∉ [z,tt,j1,j2])(hb:b∉ [z,tt,j1,j2]):ZipApart z ti tt j1 j2 a b:=by
 simp only[List.mem_cons,List.not_mem_nil,or_false,not_or]at ha hb
 exact⟨N.n1,N.n2,N.n3,N.n4,N.n5,N.n6,N.n7,N.n8,N.n9,N.n10,ha.1,ha.2.1,ha.2.2.1,ha.2.2.2,hb.1,hb.2.1,hb.2.2.1,hb.2.2.2⟩
theorem BO{X:Cx}{pins:List (Addr×Obj)}{σ:St}{H:Hp}{s:Shared}{k:Bool}{a c:Addr}{xs:List V}(I:Inv X pins σ H s)(q:SqB X.K H k a xs)(f:PY X pins H c):a≠c:=by
 intro e
 subst e
 have rd:∀o,Rd H a o->False:=fun o r=>by
  rcases r with r|⟨_,r⟩<;>(rw[f.1]at r;cases r)
 have kk:∀o,X.K.lookup a=some o->False:=fun o hk=>by
  have b:=I.ok.mod.kin a o hk
  rcases f.2.2.2.1 with z|z
  ·exact I.ok.noex a o b z
  ·exact absurd (Nat.lt_of_lt_of_le (Heap.lt_size (I.ok.bs a o b).1) z) (Nat.lt_irrefl _)
 cases k
 ·rcases(show SqL X.K H a xs from q)with q|⟨o,_,_,hk,_⟩
  ·exact rd _ q
  ·exact kk o hk
 ·rcases(show SqT X.K H a xs from q)with q|⟨o,_,_,hk,_⟩
  ·exact rd _ q
  ·exact kk o hk
theorem WV{P:Program}{w:World}{K:PySem.W.Frag}{elts:List Expr}{n:Nat}{pos:Pos}(k:Bool)(a:Addr)(m:Bool)(b:Addr)(z ti tt j1 j2:Addr)(N:ZNe z ti tt j1 j2):
  Turn P w K (.Tuple elts n pos) (Itz K k a m b) [z,ti,tt,j1,j2] z (fun i h=>ZSt h z ti tt j1 j2 k a m b i) where
 mem:=by simp
 obj := fun i h st c hc => by
  have jl:∀{q:Bool} {j l:Addr},JIt h q j l i->∃o,h.get? j=some o/\∀v,o.data≠.cell v:=fun{q j l} x=>by
   cases q
   ·obtain⟨o,e,_,d⟩:=(show h.IsListIter j l i from x)
    exact⟨o,e,fun v z=>by rw[d]at z;cases z⟩
   ·obtain⟨o,e,_,d⟩:=(show h.IsTupleIter j l i from x)
    exact⟨o,e,fun v z=>by rw[d]at z;cases z⟩
  simp only[List.mem_cons,List.not_mem_nil,or_false]at hc
  rcases hc with rfl|rfl|rfl|rfl|rfl
  ·exact⟨_,st.oz,fun v z=>nomatch z⟩
  ·exact⟨_,st.oi,fun v z=>nomatch z⟩
  ·obtain⟨u,v,e⟩:=st.ot
   exact⟨_,e,fun v z=>nomatch z⟩
  ·exact jl st.q1
  ·exact jl st.q2
 keep:=fun i h h' st kp=>⟨kp z (by simp) _ st.oz,kp ti (by simp) _ st.oi,let⟨u,v,e⟩:=st.ot;⟨u,v,kp tt (by simp) _ e⟩,st.q1.at fun o e=>kp j1 (by simp) o e,st.q2.at fun o e=>kp j2 (by simp) o e⟩
 item := by
  intro X hP hw hK hc i pins s σ H E I hf st hg
  subst hP hw hK
  obtain⟨xs,ys,x,y,s1,s2,e1,e2⟩:=hg
  obtain⟨i1,r1,p1⟩:=I.sqB s1
  obtain⟨i2,r2,p2⟩:=I.sqB s2
  obtain⟨u1,h1,ru1⟩:=r1.get e1
  obtain⟨u2,h2,ru2⟩:=r2.get e2
  have fz:=hf z (by simp);have fi:=hf ti (by simp);have ft:=hf tt (by simp);have f1:=hf j1 (by simp);have f2:=hf j2 (by simp)
  have ap:=N.apart (a:=a) (b:=b) (by simp[BO I s1 fz,BO I s1 ft,BO I s1 f1,BO I s1 f2]) (by simp[BO I s2 fz,BO I s2 ft,BO I s2 f1,BO I s2 f2])
  obtain⟨v1,v2,ot⟩:=st.ot
  refine R8 ap st.oz st.oi ot (st.q1.sit p1) (st.q2.sit p2) (x:=u1) (y:=u2) (by simpa using h1) (by simpa using h2) fun h' oz ot' q1 q2 op kp=>⟨_,rfl,wpAny_letOwnedTupleGo_zip oz fun g oz' sb=>?_⟩
  have lt:∀c o,s.heap.get? c=some o->c≠s.heap.objs.size:=fun c o q=>Nat.ne_of_lt (Heap.lt_size q)
  have nz:z≠s.heap.objs.size:=lt _ _ st.oz
  have nt:tt≠s.heap.objs.size:=lt _ _ ot
  have n1:j1≠s.heap.objs.size:=by obtain⟨o,e,_⟩:=(st.q1.sit p1).live;exact lt _ _ e
  have n2:j2≠s.heap.objs.size:=by obtain⟨o,e,_⟩:=(st.q2.sit p2).live;exact lt _ _ e
  have kp2:∀c o,c≠z->c≠tt->c≠j1->c≠j2->s.heap.get? c=some o->g.get? c=some o:=fun c o c1 c2 c3 c4 q=>(sb.2 c c1).trans (kp c o c1 c2 c3 c4 q)
  have fr:H s.heap.objs.size=none:=I.hok.fresh (Nat.le_refl _)
  have op2:g.get? s.heap.objs.size=some {cls:=.type "tuple",data:=.seq #[u1,u2]}:=(sb.2 _ (Ne.symm nz)).trans op
  have ne:∀c u,c∈ [z,ti,tt,j1,j2]->∀d,H d=some u->d≠c:=fun c u hc d q e=>by rw[e,(hf c hc).1]at q;cases q
  have kpH:∀c u,H c=some u->∀o,s.heap.get? c=some o->g.get? c=some o:=fun c u q o e=>kp2 c o (ne z u (by simp) c q) (ne tt u (by simp) c q) (ne j1 u (by simp) c q) (ne j2 u (by simp) c q) e
  have ka:∀o,s.heap.get? a=some o->g.get? a=some o:=fun o e=>kp2 a o (BO I s1 fz) (BO I s1 ft) (BO I s1 f1) (BO I s1 f2) e
  have kb:∀o,s.heap.get? b=some o->g.get? b=some o:=fun o e=>kp2 b o (BO I s2 fz) (BO I s2 ft) (BO I s2 f1) (BO I s2 f2) e
  have sq:∀{q:Bool} {d:Addr} {is:Array Value},HR s.heap q d is->(∀o,s.heap.get? d=some o->h'.get? d=some o)->HR h' q d is:=fun{q d is} x kd=>by
   cases q
   ·exact(show s.heap.IsList d is from x).at kd
   ·obtain⟨o,e,r⟩:=(show s.heap.IsTuple d is from x)
    exact⟨o,kd o e,r⟩
  have ka1:∀o,s.heap.get? a=some o->h'.get? a=some o:=fun o e=>kp a o (BO I s1 fz) (BO I s1 ft) (BO I s1 f1) (BO I s1 f2) e
  have kb1:∀o,s.heap.get? b=some o->h'.get? b=some o:=fun o e=>kp b o (BO I s2 fz) (BO I s2 ft) (BO I s2 f1) (BO I s2 f2) e
  refine⟨.ref s.heap.objs.size,upd H s.heap.objs.size (.tup [x,y]),?_,rfl,⟨_,x,y,fr,rfl,fun zs hz=>by rw[I.sqB_inj hz s1];exact e1,fun zs hz=>by rw[I.sqB_inj hz s2];exact e2,rfl⟩,⟨oz',(sb.2 _ N.n1).trans (kp ti _ N.n1 N.n5 N.n6 N.n7 st.oi),⟨_,_,(sb.2 _ N.n2).trans ot'⟩,(q1.jit (sq p1 ka1)).at fun o e=>(sb.2 _ N.n3).trans e,(q2.jit (sq p2 kb1)).at fun o e=>(sb.2 _ N.n4).trans e⟩,?_⟩
  ·show Inv X pins σ _ {s with heap:=g,gens:=s.gens,drawn:=s.drawn,toks:=s.toks}
   refine I.step (g':=s.gens) (d':=s.drawn) (ch:=[z,tt,j1,j2]) ?_ ?_ ?_ ?_ ?_ ?_ ?_ ?_ ?_ ?_ I.bare
   ·intro c hc
    have q:PY X pins H c:=hf c (by simp only[List.mem_cons,List.not_mem_nil,or_false]at hc ⊢; rcases hc with z|z|z|z<;>simp[z])
    exact⟨q.2.2.2.1,q.2.1,q.2.2.2.2.1,q.2.2.2.2.2⟩
   ·exact fun c o _ _ hc q _=>by
     simp only[List.mem_cons,List.not_mem_nil,or_false,not_or]at hc
     exact kp2 c o hc.1 hc.2.1 hc.2.2.1 hc.2.2.2 q
   ·exact fun c o _ _ hc q _=>by
     simp only[List.mem_cons,List.not_mem_nil,or_false,not_or]at hc
     exact⟨o.slots,kp2 c o hc.1 hc.2.1 hc.2.2.1 hc.2.2.2 q⟩
   ·exact fun c o _ q n=>by rw[Aw (lt c o q)];exact n
   ·exact fun c o hc q=>by
     simp only[List.mem_cons,List.not_mem_nil,or_false,not_or]at hc
     exact⟨o,kp2 c o hc.1 hc.2.1 hc.2.2.1 hc.2.2.2 q⟩
   ·exact fun c ys q=>by rw[Aw (A9 q fr)];exact q
   ·exact fun c o u q=>by rw[Aw (A9 q fr)];exact q
   ·exact fun c ps q=>⟨#[],by rw[Aw (A9 q fr),q];simp⟩
   ·rintro mm ⟨o,es,ep,ho,r⟩
    exact⟨o,es,ep,kp2 _ o (Ne.symm fz.2.1) (Ne.symm ft.2.1) (Ne.symm f1.2.1) (Ne.symm f2.2.1) ho,r⟩
   ·intro c v q
    by_cases hb:c=s.heap.objs.size
    ·subst hb
     rw[B5]at q
     cases q
     exact⟨by show 2≤sizeLine;decide,[u1,u2],.cons ru1 (.cons ru2 .nil),⟨_,op2,rfl,0,rfl⟩⟩
    ·rw[Aw hb]at q
     refine(I.hok c v q).stay (fun d o hd r=>?_) (fun d r=>by rw[Aw (A9 r fr)];exact r) (fun d ys r=>by rw[Aw (A9 r fr)];exact r)
     rcases hd with e|e
     ·rw[e]at r ⊢; exact kpH c v q o r
     ·exact kpH d _ e o r
  ·intro c hc
   have q:=hf c hc
   have:c≠s.heap.objs.size:=by
    simp only[List.mem_cons,List.not_mem_nil,or_false]at hc
    rcases hc with e|e|e|e|e
    ·rw[e];exact nz
    ·rw[e];exact lt _ _ st.oi
    ·rw[e];exact nt
    ·rw[e];exact n1
    ·rw[e];exact n2
   rw[Aw this];exact q.1
 done:=by
  intro X hP hw hK hc i pins s σ H E I hf st hg
  subst hP hw hK
  obtain⟨xs,ys,s1,s2,e⟩:=hg
  obtain⟨i1,r1,p1⟩:=I.sqB s1
  obtain⟨i2,r2,p2⟩:=I.sqB s2
  have l1:=r1.length
  have l2:=r2.length
  have hh:X.A.in1.handled=none:=I.ok.hd hc
  have hh0:X.A.handled=none:=I.ok.hd hc
  have fz:=hf z (by simp);have fi:=hf ti (by simp);have ft:=hf tt (by simp);have f1:=hf j1 (by simp);have f2:=hf j2 (by simp)
  have ap:=N.apart (a:=a) (b:=b) (by simp[BO I s1 fz,BO I s1 ft,BO I s1 f1,BO I s1 f2]) (by simp[BO I s2 fz,BO I s2 ft,BO I s2 f1,BO I s2 f2])
  obtain⟨v1,v2,ot⟩:=st.ot
  refine SY hh0 ap st.oz st.oi ot (st.q1.sit p1) (st.q2.sit p2) (by rcases e with e|e;exact .inl (by simp;omega);exact .inr (by simp;omega)) fun h' kp=>⟨rfl,?_⟩
  have ne:∀c u,c∈ [z,ti,tt,j1,j2]->∀d,H d=some u->d≠c:=fun c u hc d q e=>by rw[e,(hf c hc).1]at q;cases q
  show Inv X pins σ _ {s with heap:=h',gens:=s.gens,drawn:=s.drawn,toks:=s.toks}
  refine I.step (g':=s.gens) (d':=s.drawn) (ch:=[z,tt,j1,j2]) ?_ ?_ ?_ ?_ ?_ ?_ ?_ ?_ ?_ ?_ I.bare
  ·intro c hc
   have q:PY X pins H c:=hf c (by simp only[List.mem_cons,List.not_mem_nil,or_false]at hc ⊢; rcases hc with z|z|z|z<;>simp[z])
   exact⟨q.2.2.2.1,q.2.1,q.2.2.2.2.1,q.2.2.2.2.2⟩
  ·exact fun c o _ _ hc q _=>by
    simp only[List.mem_cons,List.not_mem_nil,or_false,not_or]at hc
    exact kp c o hc.1 hc.2.1 hc.2.2.1 hc.2.2.2 q
  ·exact fun c o _ _ hc q _=>by
    simp only[List.mem_cons,List.not_mem_nil,or_false,not_or]at hc
    exact⟨o.slots,kp c o hc.1 hc.2.1 hc.2.2.1 hc.2.2.2 q⟩
  ·exact fun c o _ q n=>n
  ·exact fun c o hc q=>by
    simp only[List.mem_cons,List.not_mem_nil,or_false,not_or]at hc
    exact⟨o,kp c o hc.1 hc.2.1 hc.2.2.1 hc.2.2.2 q⟩
  ·exact fun c ys q=>q
  ·exact fun c o u q=>q
  ·exact fun c ps q=>⟨#[],by rw[q];simp⟩
  ·rintro mm ⟨o,es,ep,ho,r⟩
   exact⟨o,es,ep,kp _ o (Ne.symm fz.2.1) (Ne.symm ft.2.1) (Ne.symm f1.2.1) (Ne.symm f2.2.1) ho,r⟩
  ·intro c v q
   refine(I.hok c v q).stay (fun d o hd r=>?_) (fun d r=>r) (fun d ys r=>r)
   rcases hd with e|e
   ·rw[e]at r ⊢; exact kp c o (ne z v (by simp) c q) (ne tt v (by simp) c q) (ne j1 v (by simp) c q) (ne j2 v (by simp) c q) r
   ·exact kp d o (ne z _ (by simp) d e) (ne tt _ (by simp) d e) (ne j1 _ (by simp) d e) (ne j2 _ (by simp) d e) r
 self:=fun _ _ _ _ _ st h=>wpAny_pyIter_zip st.oz h
end L2
end
noncomputable section
namespace L2
open PySem PySem.Spec PyProof.Rows
theorem zne(n:Nat):ZNe (n+4) (n+2) (n+3) n (n+1):=⟨fun e=>by have:n+2=n+4:=e;omega,fun e=>by have:n+3=n+4:=e;omega,fun e=>by have:n=n+4:=e;omega,fun e=>by have:n+1=n+4:=e;omega,fun e=>by have:n+2=n+3:=e;omega,fun e=>by have:n+2=n:=e;omega,fun e=>by have:n+2=n+1:=e;omega,fun e=>by have:n+3=n:=e;omega,fun e=>by have:n+3=n+1:=e;omega,fun e=>by have:n=n+1:=e;omega⟩
section
variable{X:Cx}
noncomputable def jE(K:PySem.W.Frag)(ta:TA):TI:=fun σ H R=>ta σ H fun vs H1=>∃k a m b,vs=[.ref a,.ref b]/\(∃xs,SqB K H1 k a xs)/\(∃ys,SqB K H1 m b ys)/\R (Itz K k a m b) H1
theorem ay{a b:Expr}{ta:TA}{p pos tp:Pos}{elts:List Expr}{n:Nat}(hg:Gl X "zip")(hm:X.mg "zip"=none)(ha:PA X [a,b] ta)(hs:starEach [a,b] X.env=[(false,eval a X.env),(false,eval b X.env)]:=by rfl)(hs2:starEach [b] X.env=[(false,eval b X.env)]:=by rfl):
  PI X (.Tuple elts n tp) (.Call (.Name "zip" p) [a,b] [] pos) (jE X.K ta):=by
 intro pins s σ H R I h
 refine Call_ (Li I hg hm boot_zip (PyProof.Rows.callWith_type1 (thn (ha pos pins s σ H _ I h) fun us s1 ⟨vs,H1,I1,r1,q1⟩=>?_) (by rw[hs,hs2]) (by rw[hs2];rfl)))
 obtain⟨k,a',m,b',e,⟨xs,hq⟩,⟨ys,hr⟩,q⟩:=q1
 subst e
 obtain⟨u,v,rfl,ru,rv⟩:=r1.two
 cases (show u=Value.ref a' from ru)
 cases (show v=Value.ref b' from rv)
 obtain⟨i1,v1,p1⟩:=I1.sqB hq
 obtain⟨i2,v2,p2⟩:=I1.sqB hr
 refine TN p1 p2 fun h' oz oi ot q1 q2 kp=>wpAny_pyIter_zip (s:={s1 with heap:=h'}) oz ?_
 have sq:∀{q:Bool} {d:Addr} {is:Array Value},HR s1.heap q d is->HR h' q d is:=fun{q d is} x=>by
  cases q
  ·exact(show s1.heap.IsList d is from x).at fun o e=>kp _ o e
  ·obtain⟨o,e,r⟩:=(show s1.heap.IsTuple d is from x)
   exact⟨o,kp _ o e,r⟩
 refine⟨s1.heap.objs.size+4,[s1.heap.objs.size+4,s1.heap.objs.size+2,s1.heap.objs.size+3,s1.heap.objs.size,s1.heap.objs.size+1],_,_,H1,rfl,I1.kept (t':=s1.toks) kp,
  WV k a' m b' _ _ _ _ _ (zne s1.heap.objs.size),⟨oz,oi,⟨_,_,ot⟩,q1.jit (sq p1),q2.jit (sq p2)⟩,fun c hc=>?_,q⟩
 simp only[List.mem_cons,List.not_mem_nil,or_false]at hc
 have:s1.heap.objs.size≤c:=by rcases hc with rfl|rfl|rfl|rfl|rfl<;>first|exact Nat.le_refl _|exact Nat.le_add_right _ _
 exact I1.fpOk this (I1.hok.fresh this)
end
end L2
end
noncomputable section
namespace L2
open PySem PySem.Spec PyProof.Rows
section
variable{prog:Program}{w:World}{A:Around}{E:Value->Shared->Prop}{s:Shared}
theorem IsList.at_ext{h h':Heap}{a:Addr}{items:Array Value}(p:h.IsList a items)(k:∀o,h.get? a=some o->h'.get? a=some o):h'.IsList a items:=by
 obtain⟨o,ho,r⟩:=p
 exact⟨o,k o ho,r⟩
theorem PH{it t:Addr}{items:Array Value}(hne:t≠it):∀(n i:Nat) (s:Shared) (Q:List Value->Shared->Prop),s.heap.IsListIter it t i->s.heap.IsList t items->i+n≤items.size->
    (∀h',h'.IsListIter it t (i+n)->Heap.SameBut it s.heap h'->Q ((items.toList.drop i).take n) {s with heap:=h'})->wpAny (model prog w) A (draw (.ref it) n) Q E s
  | 0, i, s, Q, hit, _, _, hQ => by
    show wpAny _ _ (pure []) Q E s
    exact wpAny_pure (by simpa using hQ s.heap hit (Heap.SameBut.refl ..))
  | n + 1, i, s, Q, hit, ht, hle, hQ => by
    have hlt:i<items.size:=by omega
    show wpAny _ _ (pyNext (.ref it) >>= _) Q E s
    refine wpAny_bind (wpAny_pyNext_list_item hit ht (x:=items[i]) (by simp[hlt]) fun h1 hit1 hs1=>?_)
    refine wpAny_bind (wpAny_holding (PH hne n (i+1) _ _ hit1 (IsList.at_ext ht fun o e=>hs1.extBut t o hne e) (by omega) fun h2 hit2 hs2=>wpAny_pure ?_))
    have hd:items.toList.drop i=items[i]::items.toList.drop (i+1):=by simp[List.drop_eq_getElem_cons,hlt]
    have:=hQ h2 (by rw[show i+(n+1)=i+1+n by omega];exact hit2) (hs1.trans hs2)
    rw[hd,List.take_succ_cons]at this
    exact this
theorem LL{t:Addr}{items:Array Value}{Q:List Value->Shared->Prop}(hh:A.handled=none)(ht:s.heap.IsList t items)(hty:s.TypeIs (.ref t) "list")
  (hQ:∀h',Heap.ExtBut s.heap.objs.size s.heap h'->Q items.toList {s with heap:=h'}):wpAny (model prog w) A (unpackItems (.ref t) items.size none) Q E s:=by
 have hlt:t≠s.heap.objs.size:=by obtain⟨o,ho,_⟩:=ht;exact Nat.ne_of_lt (Heap.lt_size ho)
 unfold unpackItems
 refine wpAny_bind ?_
 ·unfold notIterableAtAll
  refine wpAny_bind (wpAny_specialOf hty F.slot_list_iter.lookup ?_)
  refine wpAny_pure ?_
  simp only[Bool.false_eq_true,if_false]
  refine wpAny_bind (wpAny_holding (wpAny_pyIter_list ht ?_))
  refine wpAny_bind (wpAny_holding (PH hlt items.size 0 _ _ ⟨_,Heap.get?_push_size _ rfl,rfl,rfl⟩ (IsList.at_ext ht fun o e=>Heap.get?_push_of_some _ e) (by omega) fun h1 hit1 hs1=>?_))
  have hall:List.take items.size (List.drop 0 items.toList)=items.toList:=by
   rw[List.drop_zero];exact List.take_of_length_le (by simp)
  rw[hall]
  rw[if_neg (by simp)]
  have ht1:h1.IsList t items:=IsList.at_ext (IsList.at_ext ht fun o e=>Heap.get?_push_of_some _ e) fun o e=>hs1.extBut t o hlt e
  refine wpAny_bind (wpAny_holding (wpAny_pyNext_list_end hh hit1 ht1 (by simp) fun h2 he2=>?_))
  simp only[Option.isSome_none,Bool.false_eq_true,if_false]
  refine wpAny_pure (hQ h2 fun b o hb e=>he2 b o hb (hs1.extBut b o hb (Heap.get?_push_of_some _ e)))
theorem Kj{env:Env}{elts:List Expr}{x1}{pos:Pos}{t:Addr}{items:Array Value}{Q:Unit->Shared->Prop}(hh:A.handled=none)(ht:s.heap.IsList t items)(hty:s.TypeIs (.ref t) "list")
  (hn:(assignEach elts env).length=items.size) (hstar:(assignEach elts env).findIdx? (·.1)=none)
  (h:∀h',Heap.ExtBut s.heap.objs.size s.heap h'->wpAny (model prog w) A (assignInOrder ((assignEach elts env).map (·.2)) items.toList) Q E {s with heap:=h'}):
  wpAny (model prog w) A (assign (.Tuple elts x1 pos) env (.ref t)) Q E s:=by
 rw[PyProof.Rows.assign_Tuple]
 refine wpAny_bind (wpAny_standAt ?_)
 unfold unpack
 rw[hn,hstar]
 exact wpAny_bind (wpAny_holding (LL hh ht hty h))
end
section
variable{X:Cx}{pos:Pos}
noncomputable def ib(K:PySem.W.Frag)(n:Nat)(t:TGs):TG:=fun v σ H Q=>∃a xs,v=.ref a/\(SqT K H a xs∨H a=some (.lst xs))/\xs.length=n/\t xs σ H Q
theorem bP{es:List Expr}{k:Nat}{t:TGs}{n:Nat}(hc:X.calm=true)(h:PGs X es t)
  (hn:(assignEach es X.env).length=n:=by rfl) (hst:(assignEach es X.env).findIdx? (·.1)=none:=by rfl):PG X (.Tuple es k pos) (ib X.K n t):=by
 intro pins s σ H v u Q I r hw
 obtain⟨a,xs,e1,hq,hl,hw⟩:=hw
 rcases hq with hq|hq
 ·exact bB hc h hn hst pins s σ H v u Q I r ⟨a,xs,e1,hq,hl,hw⟩
 ·subst e1
  cases r
  obtain⟨its,rv,p,hz⟩:=I.list (SqL.of hq)
  obtain⟨z,its2,m,rv2,_,e⟩:=I.lstM hq
  refine Kj (I.ok.hd hc) p.isList ⟨_,e,rfl⟩ (by simp[hn,←hl,rv.length]) hst fun h' hx=>?_
  have I1:Inv X pins σ H {s with heap:=h'}:=I.kept (t':=s.toks) fun b o e=>hx b o (Nat.ne_of_lt (Heap.lt_size e)) e
  exact h pins _ σ H xs _ Q I1 (by simpa using rv) hw
end
end L2
end
noncomputable section
namespace L2
open PySem PySem.Spec PyProof.Rows
theorem JIt.live{h:Heap}{k:Bool}{j l:Addr}{i:Nat}(q:JIt h k j l i):∃o,h.get? j=some o/\∀v,o.data≠.cell v:=by
 cases k with
 |true=>obtain⟨o,e,c,d⟩:=q;exact⟨o,e,fun v z=>by rw[d]at z;cases z⟩
 |false=>obtain⟨o,e,c,d⟩:=q;exact⟨o,e,fun v z=>by rw[d]at z;cases z⟩
theorem HR.mono{h h':Heap}{k:Bool}{l:Addr}{its:Array Value}(q:HR h k l its)(e:∀o,h.get? l=some o->h'.get? l=some o):HR h' k l its:=by
 cases k with
 |true=>obtain⟨o,ho,r⟩:=q;exact⟨o,e o ho,r⟩
 |false=>obtain⟨o,ho,r⟩:=q;exact⟨o,e o ho,r⟩
theorem UT{prog:Program}{w:World}{A:Around}(hh:A.handled=none)(it t:Addr)(hne:t≠it)(items:Array Value):
  Draws prog w A it [it,t] items.size (fun i v=>items[i]?=some v) (fun i h=>SIt h it t i items) where
 live:=fun _ _ st=>let⟨o,ho,_⟩:=st.live;⟨o,ho⟩
 frame:=fun _ _ _ st hk=>st.at (fun o e=>hk it (by simp) o e) fun o e=>hk t (by simp) o e
 item:=fun i s Q E hi st hQ=>HB st (x:=items[i]) (by simp[hi]) fun h' a b=>hQ _ h' s.toks (by simp[hi]) a b
 done:=fun s Q E st hE=>Jk hh st (by simp) hE
noncomputable def ItE(K:PySem.W.Frag)(kk:Bool)(a:Addr):It:=
 ⟨fun i H=>∃xs x,SqB K H kk a xs/\xs[i]?=some x,fun i H x H'=>∃p y,H p=none/\x=.ref p/\(∀xs,SqB K H kk a xs->xs[i]?=some y)/\H'=upd H p (.tup [.int i,y]),fun i H=>∃xs,SqB K H kk a xs/\xs.length≤i⟩
theorem R4 {P : Program} {w : World} {K : PySem.W.Frag} {elts : List Expr} {k : Nat} {pos : Pos} (kk : Bool) (a e it : Addr) (hei : e ≠ it) : Turn P w K (.Tuple elts k pos) (ItE K kk a) [e, it] e (fun i h => (∃ old, IsEnum h e it i old) /\ JIt h kk it a i) where
  mem:=by simp
  obj:=fun i h st b hb=>by
    obtain⟨⟨old,h1⟩,st2⟩:=st
    obtain⟨o,h2,h4⟩:=st2.live
    simp only[List.mem_cons,List.not_mem_nil,or_false]at hb
    rcases hb with rfl|rfl
    ·exact⟨_,h1,fun v z=>nomatch z⟩
    ·exact⟨o,h2,h4⟩
  keep:=fun i h h' st k=>by
    obtain⟨⟨old,h1⟩,h2⟩:=st
    exact⟨⟨old,k e (by simp) _ h1⟩,h2.at fun o q=>k it (by simp) o q⟩
  item := by
    intro X hP hw hK hc i pins s σ H E I hf st hg
    subst hP hw hK
    obtain⟨xs,x,hq,hx⟩:=hg
    obtain⟨its,rv,p⟩:=I.sqB hq
    obtain⟨u,hu,ru⟩:=rv.get hx
    obtain⟨⟨old,h1⟩,h2⟩:=st
    obtain⟨oi,hi1,hi2⟩:=h2.live
    have hea:a≠e:=BO I hq (hf e (by simp))
    have hia:a≠it:=BO I hq (hf it (by simp))
    have hil:i<its.toArray.size:=by
      have:=(List.getElem?_eq_some_iff.mp hu).1
      simpa using this
    have hh:X.A.in1.handled=none:=I.ok.hd hc
    have D:=UT (prog:=X.prog) (w:=X.w) hh it a hia its.toArray
    refine wpAny_pyNext_enum_itemD D h1 (h2.sit p) hil hei (by simp[hei,Ne.symm hea]) ?_
    intro y h' tk hy out st' tup size kept
    have ey:y=u:=by
      have:its[i]?=some y:=by simpa using hy
      rw[hu]at this
      exact(Option.some.inj this).symm
    subst ey
    refine⟨_,rfl,wpAny_letOwnedTupleGo_enum out fun h'' en sb=>?_⟩
    have hfe:=hf e (by simp)
    have hfi:=hf it (by simp)
    have lt:∀b o,s.heap.get? b=some o->b≠s.heap.objs.size:=fun b o q=>Nat.ne_of_lt (Heap.lt_size q)
    have kept2:∀b o,b≠e->b≠it->s.heap.get? b=some o->h''.get? b=some o:=fun b o b1 b2 q=>(sb.2 b b1).trans (kept b o b1 b2 q)
    have fr:H s.heap.objs.size=none:=I.hok.fresh (Nat.le_refl _)
    have tup2:h''.get? s.heap.objs.size=some {cls:=.type "tuple",data:=.seq #[.int i tk,y]}:=(sb.2 _ (Ne.symm (lt e _ h1))).trans tup
    have ne1:∀b u,H b=some u->b≠e:=fun b u q z=>by rw[z,hfe.1]at q;cases q
    have ne2:∀b u,H b=some u->b≠it:=fun b u q z=>by rw[z,hfi.1]at q;cases q
    refine⟨.ref s.heap.objs.size,upd H s.heap.objs.size (.tup [.int i,x]),?_,rfl,⟨_,x,fr,rfl,fun ys hys=>by rw[I.sqB_inj hys hq];exact hx,rfl⟩,⟨⟨y,en⟩,?_⟩,?_⟩
    · show Inv X pins σ _ { s with heap := h'', gens := s.gens, drawn := s.drawn, toks := tk + 1 }
      refine I.step (g':=s.gens) (d':=s.drawn) (ch:=[e,it]) ?_ ?_ ?_ ?_ ?_ ?_ ?_ ?_ ?_ ?_ I.bare
      · intro b hb
        simp only[List.mem_cons,List.not_mem_nil,or_false]at hb
        rcases hb with rfl|rfl
        ·exact⟨hfe.2.2.2.1,hfe.2.1,hfe.2.2.2.2.1,hfe.2.2.2.2.2⟩
        ·exact⟨hfi.2.2.2.1,hfi.2.1,hfi.2.2.2.2.1,hfi.2.2.2.2.2⟩
      ·exact fun b o _ _ hc q _=>kept2 b o (fun z=>hc (by simp[z])) (fun z=>hc (by simp[z])) q
      ·exact fun b o _ _ hc q _=>⟨o.slots,kept2 b o (fun z=>hc (by simp[z])) (fun z=>hc (by simp[z])) q⟩
      ·exact fun b o _ q n=>by rw[Aw (lt b o q)];exact n
      ·exact fun b o hc q=>⟨o,kept2 b o (fun z=>hc (by simp[z])) (fun z=>hc (by simp[z])) q⟩
      ·exact fun b ys q=>by rw[Aw (A9 q fr)];exact q
      ·exact fun b o u q=>by rw[Aw (A9 q fr)];exact q
      ·exact fun b ps q=>⟨#[],by rw[Aw (A9 q fr),q];simp⟩
      · rintro m ⟨o, es, ep, ho, r⟩
        exact⟨o,es,ep,kept2 _ o (Ne.symm hfe.2.1) (Ne.symm hfi.2.1) ho,r⟩
      · intro b v q
        by_cases hb:b=s.heap.objs.size
        · subst hb
          rw[B5]at q
          cases q
          exact⟨by show 2≤sizeLine;decide,[.int i tk,y],.cons ⟨tk,rfl⟩ (.cons ru .nil),⟨_,tup2,rfl,0,rfl⟩⟩
        · rw [Aw hb] at q
          refine(I.hok b v q).stay (fun c z hc r=>kept2 c z ?_ ?_ r) (fun c r=>by rw[Aw (A9 r fr)];exact r) (fun c ys r=>by rw[Aw (A9 r fr)];exact r)
          · rcases hc with z | z
            ·rw[z];exact ne1 b v q
            ·exact ne1 c _ z
          · rcases hc with z | z
            ·rw[z];exact ne2 b v q
            ·exact ne2 c _ z
    · have pa : HR h'' kk a its.toArray := p.mono fun o q => kept2 a o hea hia q
      exact(st'.at (fun o q=>(sb.2 it (Ne.symm hei)).trans q) fun o q=>(sb.2 a hea).trans q).jit pa
    · intro b hb
      simp only[List.mem_cons,List.not_mem_nil,or_false]at hb
      rcases hb with rfl|rfl
      ·rw[Aw (lt b _ h1)];exact hfe.1
      ·rw[Aw (lt b _ hi1)];exact hfi.1
  done := by
    intro X hP hw hK hc i pins s σ H E I hf st hg
    subst hP hw hK
    obtain⟨xs,hq,hx⟩:=hg
    obtain⟨its,rv,p⟩:=I.sqB hq
    obtain⟨⟨old,h1⟩,h2⟩:=st
    have hl:=rv.length
    have hh:X.A.in1.handled=none:=I.ok.hd hc
    obtain⟨f0,f1,f2,f3,f4,f5⟩:=hf it (by simp)
    have D:Draws X.prog X.w X.A.in1 it [it,a] i (fun _ _=>True) (fun j h=>j=i/\SIt h it a i its.toArray):=
      { live := fun _ _ st => let ⟨o, ho, _⟩ := st.2.live; ⟨o, ho⟩
        frame:=fun _ _ _ st hk=>⟨st.1,st.2.at (fun o e=>hk it (by simp) o e) fun o e=>hk a (by simp) o e⟩
        item:=fun j s Q E hj st _=>absurd st.1 (Nat.ne_of_lt hj)
        done:=fun s Q E st hE=>Jk hh st.2 (by simp;omega) hE}
    exact wpAny_pyNext_enum_endD D h1 ⟨rfl,h2.sit p⟩ fun h' eb=>⟨rfl,I.turned (t':=s.toks) (fun b o hb q=>eb b o hb q) f0 f1 f3 f4 f5⟩
  self:=fun _ _ _ _ _ st h=>by
    obtain⟨⟨old,h1⟩,_⟩:=st
    exact wpAny_pyIter_enum h1 h
section
variable{X:Cx}
noncomputable def ak(K:PySem.W.Frag)(ta:TA):TI:=fun σ H R=>ta σ H fun vs H1=>∃kk a,vs=[.ref a]/\(∃xs,SqB K H1 kk a xs)/\R (ItE K kk a) H1
theorem Wj{a:Expr}{ta:TA}{p pos tp:Pos}{elts:List Expr}{k:Nat}(hg:Gl X "enumerate")(hm:X.mg "enumerate"=none)(ha:PA X [a] ta)(hs:starEach [a] X.env=[(false,eval a X.env)]:=by rfl):
  PI X (.Tuple elts k tp) (.Call (.Name "enumerate" p) [a] [] pos) (ak X.K ta):=by
 intro pins s σ H R I h
 refine Call_ (Li I hg hm boot_enumerate (callWith_type1 (thn (ha pos pins s σ H _ I h) fun us s1 ⟨vs,H1,I1,r1,q1⟩=>?_) hs rfl))
 obtain⟨kk,b,e,⟨xs,hq⟩,q⟩:=q1
 subst e
 obtain⟨u,rfl,ru⟩:=r1.one
 cases (show u=Value.ref b from ru)
 obtain⟨its,rv,pt⟩:=I1.sqB hq
 have fin:∀h':Heap,IsEnum h' (s1.heap.objs.size+1) s1.heap.objs.size 0 .none->JIt h' kk s1.heap.objs.size b 0->(∀b o,s1.heap.get? b=some o->h'.get? b=some o)->wpAny (model X.prog X.w) X.A (pyIter (.ref (s1.heap.objs.size+1))) (PIE X pins σ (.Tuple elts k tp) R) X.xe {s1 with heap:=h'}:=fun h' en it kp=>by
  refine wpAny_pyIter_enum (s:={s1 with heap:=h'}) en ?_
  refine⟨s1.heap.objs.size+1,[s1.heap.objs.size+1,s1.heap.objs.size],_,_,H1,rfl,I1.kept (t':=s1.toks) kp,R4 kk b (s1.heap.objs.size+1) s1.heap.objs.size (Nat.succ_ne_self _),⟨⟨_,en⟩,it⟩,fun c hc=>?_,q⟩
  simp only[List.mem_cons,List.not_mem_nil,or_false]at hc
  rcases hc with rfl|rfl
  ·exact I1.fpOk (by omega) (I1.hok.fresh (by omega))
  ·exact I1.fpOk (Nat.le_refl _) (I1.hok.fresh (Nat.le_refl _))
 cases kk with
 |true=>exact SH (show s1.heap.IsTuple b its.toArray from pt) fun h' en it kp=>fin h' en it kp
 |false=>exact call_enumerate_list (show s1.heap.IsList b its.toArray from pt) fun h' en it _ kp=>fin h' en it kp
end
end L2
end
noncomputable section
namespace L2
open PySem PySem.Spec PyProof.Rows
abbrev IsTri(h:Heap)(T:Addr)(a b c:Value):Prop:=h.get? T=some {cls:=.type "tuple",data:=.seq #[a,b,c]}
structure TriNe(z ti tt j1 j2 j3:Addr):Prop where
 tiz:ti≠z
 ttz:tt≠z
 j1z:j1≠z
 j2z:j2≠z
 j3z:j3≠z
 titt:ti≠tt
 tij1:ti≠j1
 tij2:ti≠j2
 tij3:ti≠j3
 ttj1:tt≠j1
 ttj2:tt≠j2
 ttj3:tt≠j3
 j12:j1≠j2
 j13:j1≠j3
 j23:j2≠j3
structure TriFar(l z tt j1 j2 j3:Addr):Prop where
 lz:l≠z
 lt:l≠tt
 l1:l≠j1
 l2:l≠j2
 l3:l≠j3
section
variable{prog:Program}{w:World}{A:Around}{E:Value->Shared->Prop}{s:Shared}
theorem upd_tri{T:Addr}{a b c x:Value}{k:Nat}{Q:Unit->Shared->Prop}(hT:IsTri s.heap T a b c)
  (h:∀h',h'.get? T=some {cls:=.type "tuple",data:=.seq ((#[a,b,c]:Array Value).setIfInBounds k x)}->Heap.SameBut T s.heap h'->Q () {s with heap:=h'}):
  wpAny (model prog w) A (updateSeq T (·.setIfInBounds k x)) Q E s:=by
 refine wpAny_updateSeq hT rfl (h _ ?_ (Heap.SameBut.update ..))
 rw[Heap.get?_update_self _ hT rfl]
 simp[Obj.mapSeq]
theorem tri_item{z ti tt j1 j2 j3 l1 l2 l3:Addr}{m:Nat}{xs ys zs:Array Value}{x y v u1 u2 u3:Value}{Q:Value->Shared->Prop}(D:TriNe z ti tt j1 j2 j3)(F1:TriFar l1 z tt j1 j2 j3)(F2:TriFar l2 z tt j1 j2 j3)(F3:TriFar l3 z tt j1 j2 j3)
  (oz:IsZip s.heap z ti tt .none) (oi:IsTri s.heap ti (.ref j1) (.ref j2) (.ref j3)) (ot:IsTri s.heap tt u1 u2 u3) (q1:SIt s.heap j1 l1 m xs) (q2:SIt s.heap j2 l2 m ys) (q3:SIt s.heap j3 l3 m zs) (ex:xs[m]?=some x) (ey:ys[m]?=some y) (ev:zs[m]?=some v)
  (k:∀h',IsZip h' z ti tt (rawInt s.heap.objs.size)->IsTri h' tt x y v->SIt h' j1 l1 (m+1) xs->SIt h' j2 l2 (m+1) ys->SIt h' j3 l3 (m+1) zs->IsTri h' s.heap.objs.size x y v->
   (∀c o,c≠z->c≠tt->c≠j1->c≠j2->c≠j3->s.heap.get? c=some o->h'.get? c=some o)->Q (.ref s.heap.objs.size) {s with heap:=h'}):
  wpAny (model prog w) A (Builtin.«zip.__next__» ⟨[.ref z],[]⟩) (fun fin s'=>∃v,fin=.done (.ret v)/\Q v s') E s:=by
 show wpAny _ _ (field (.ref z) 2 >>= _) _ _ _
 refine wpAny_bind (wpAny_field oz rfl (x:=.bool false) rfl ?_)
 show wpAny _ _ (field (.ref z) 3 >>= _) _ _ _
 refine wpAny_bind (wpAny_field oz rfl (x:=.ref ti) rfl (wpAny_bind (wpAny_seqItems oi rfl ?_)))
 show wpAny _ _ (Builtin.SmallTypes.ownedTupleIsFree (.ref z) >>= _) _ _ _
 refine wpAny_bind ?_
 unfold Builtin.SmallTypes.ownedTupleIsFree
 refine wpAny_bind (wpAny_field oz rfl (x:=.none) rfl (wpAny_pure ?_))
 simp only[if_true]
 refine wpAny_bind (wpAny_rule (wpAny_bind (wpAny_field oz rfl (x:=.ref tt) rfl (wpAny_bind (wpAny_setField_rec oz (by simp) fun g1 oz1 b1=>?_)))))
 have oz1:IsZip g1 z ti tt .ellipsis:=oz1
 refine wpAny_bind ?_
 simp only[List.zipIdx_cons,List.zipIdx_nil,List.forIn_cons,List.forIn_nil]
 refine wpAny_bind (wpAny_bind (wpAny_onRaise ?_))
 show wpAny _ _ (Builtin.SmallTypes.nextOf (.ref j1) >>= _) _ _ _
 refine wpAny_bind (HB (q1.but b1.extBut D.j1z F1.lz) ex fun g2 q12 b2=>wpAny_pure ?_)
 have ot2:IsTri g2 tt u1 u2 u3:=b2.extBut _ _ D.ttj1 (b1.extBut _ _ D.ttz ot)
 refine wpAny_bind (wpAny_seqItems ot2 rfl (wpAny_bind (upd_tri ot2 fun g3 ot3 b3=>?_)))
 have ot3:IsTri g3 tt x u2 u3:=ot3
 refine wpAny_bind (wpAny_letGo (wpAny_pure (wpAny_bind (wpAny_bind (wpAny_onRaise ?_)))))
 show wpAny _ _ (Builtin.SmallTypes.nextOf (.ref j2) >>= _) _ _ _
 refine wpAny_bind (HB (((q2.but b1.extBut D.j2z F2.lz).but b2.extBut D.j12.symm F2.l1).but b3.extBut D.ttj2.symm F2.lt) ey fun g4 q24 b4=>wpAny_pure ?_)
 have ot4:IsTri g4 tt x u2 u3:=b4.extBut _ _ D.ttj2 ot3
 refine wpAny_bind (wpAny_seqItems ot4 rfl (wpAny_bind (upd_tri ot4 fun g5 ot5 b5=>?_)))
 have ot5:IsTri g5 tt x y u3:=ot5
 refine wpAny_bind (wpAny_letGo (wpAny_pure (wpAny_bind (wpAny_bind (wpAny_onRaise ?_)))))
 show wpAny _ _ (Builtin.SmallTypes.nextOf (.ref j3) >>= _) _ _ _
 refine wpAny_bind (HB (((((q3.but b1.extBut D.j3z F3.lz).but b2.extBut D.j13.symm F3.l1).but b3.extBut D.ttj3.symm F3.lt).but b4.extBut D.j23.symm F3.l2).but b5.extBut D.ttj3.symm F3.lt) ev fun g6 q36 b6=>wpAny_pure ?_)
 have ot6:IsTri g6 tt x y u3:=b6.extBut _ _ D.ttj3 ot5
 refine wpAny_bind (wpAny_seqItems ot6 rfl (wpAny_bind (upd_tri ot6 fun g7 ot7 b7=>?_)))
 have ot7:IsTri g7 tt x y v:=ot7
 refine wpAny_bind (wpAny_letGo (wpAny_pure (wpAny_pure (wpAny_bind (wpAny_seqItems ot7 rfl (wpAny_bind (wpAny_newTuple ?_)))))))
 have sz:g7.objs.size=s.heap.objs.size:=by rw[b7.1,b6.1,b5.1,b4.1,b3.1,b2.1,b1.1]
 have oz5:IsZip g7 z ti tt .ellipsis:=b7.extBut _ _ D.ttz.symm (b6.extBut _ _ D.j3z.symm (b5.extBut _ _ D.ttz.symm (b4.extBut _ _ D.j2z.symm (b3.extBut _ _ D.ttz.symm (b2.extBut _ _ D.j1z.symm oz1)))))
 have k5:∀c o,c≠z->c≠tt->c≠j1->c≠j2->c≠j3->s.heap.get? c=some o->g7.get? c=some o:=fun c o c1 c2 c3 c4 c5 e=>b7.extBut _ _ c2 (b6.extBut _ _ c5 (b5.extBut _ _ c2 (b4.extBut _ _ c4 (b3.extBut _ _ c2 (b2.extBut _ _ c3 (b1.extBut _ _ c1 e))))))
 have q15:SIt g7 j1 l1 (m+1) xs:=((((q12.but b3.extBut D.ttj1.symm F1.lt).but b4.extBut D.j12 F1.l2).but b5.extBut D.ttj1.symm F1.lt).but b6.extBut D.j13 F1.l3).but b7.extBut D.ttj1.symm F1.lt
 have q25:SIt g7 j2 l2 (m+1) ys:=((q24.but b5.extBut D.ttj2.symm F2.lt).but b6.extBut D.j23 F2.l3).but b7.extBut D.ttj2.symm F2.lt
 have q35:SIt g7 j3 l3 (m+1) zs:=q36.but b7.extBut D.ttj3.symm F3.lt
 have zlt:z<g7.objs.size:=Heap.lt_size oz5
 show wpAny _ _ (Builtin.SmallTypes.ownedTupleHandOut (.ref z) (.ref g7.objs.size) >>= _) _ _ _
 refine wpAny_bind ?_
 unfold Builtin.SmallTypes.ownedTupleHandOut
 have oz6:IsZip (g7.push {cls:=.type "tuple",data:=.seq #[x,y,v]}) z ti tt .ellipsis:=Heap.get?_push_of_some _ oz5
 refine wpAny_bind (wpAny_setField_rec oz6 (by simp) fun g8 oz7 b8=>?_)
 have oz7:IsZip g8 z ti tt (rawInt g7.objs.size):=oz7
 refine wpAny_setField_rec oz7 (by simp) fun g9 oz8 b9=>?_
 have oz8:IsZip g9 z ti tt (rawInt g7.objs.size):=oz8
 have up:∀c o,c≠z->g7.get? c=some o->g9.get? c=some o:=fun c o c1 e=>b9.extBut _ _ c1 (b8.extBut _ _ c1 (Heap.get?_push_of_some _ e))
 have op8:IsTri g9 g7.objs.size x y v:=b9.extBut _ _ (Nat.ne_of_gt zlt) (b8.extBut _ _ (Nat.ne_of_gt zlt) (Heap.get?_push_size _ rfl))
 rw[sz]at oz8 op8
 refine wpAny_pure ⟨_,rfl,?_⟩
 show Q (.ref g7.objs.size) _
 rw[sz]
 exact k g9 oz8 (up _ _ D.ttz ot7) (q15.at (fun o e=>up _ o D.j1z e) fun o e=>up _ o F1.lz e) (q25.at (fun o e=>up _ o D.j2z e) fun o e=>up _ o F2.lz e) (q35.at (fun o e=>up _ o D.j3z e) fun o e=>up _ o F3.lz e) op8 fun c o c1 c2 c3 c4 c5 e=>up c o c1 (k5 c o c1 c2 c3 c4 c5 e)
theorem tri_end{z ti tt j1 l1:Addr}{v2 v3:Value}{m:Nat}{xs:Array Value}{Q:Fin->Shared->Prop}(hh:A.handled=none)(n1:j1≠z)(n2:l1≠z)
  (oz:IsZip s.heap z ti tt .none) (oi:IsTri s.heap ti (.ref j1) v2 v3) (q1:SIt s.heap j1 l1 m xs) (ex:xs[m]?=none)
  (k:∀h' e,(∀c o,c≠z->c≠j1->s.heap.get? c=some o->h'.get? c=some o)->(∃o,h'.get? e=some o/\o.cls=.type "StopIteration")->E (.ref e) {s with heap:=h'}):
  wpAny (model prog w) A (Builtin.«zip.__next__» ⟨[.ref z],[]⟩) Q E s:=by
 show wpAny _ _ (field (.ref z) 2 >>= _) _ _ _
 refine wpAny_bind (wpAny_field oz rfl (x:=.bool false) rfl ?_)
 show wpAny _ _ (field (.ref z) 3 >>= _) _ _ _
 refine wpAny_bind (wpAny_field oz rfl (x:=.ref ti) rfl (wpAny_bind (wpAny_seqItems oi rfl ?_)))
 show wpAny _ _ (Builtin.SmallTypes.ownedTupleIsFree (.ref z) >>= _) _ _ _
 refine wpAny_bind ?_
 unfold Builtin.SmallTypes.ownedTupleIsFree
 refine wpAny_bind (wpAny_field oz rfl (x:=.none) rfl (wpAny_pure ?_))
 simp only[if_true]
 refine wpAny_bind (wpAny_rule (wpAny_bind (wpAny_field oz rfl (x:=.ref tt) rfl (wpAny_bind (wpAny_setField_rec oz (by simp) fun g1 oz1 b1=>?_)))))
 have oz1:IsZip g1 z ti tt .ellipsis:=oz1
 refine wpAny_bind ?_
 simp only[List.zipIdx_cons,List.zipIdx_nil,List.forIn_cons,List.forIn_nil]
 refine wpAny_bind (wpAny_bind (wpAny_onRaise ?_))
 show wpAny _ _ (Builtin.SmallTypes.nextOf (.ref j1) >>= _) _ _ _
 refine wpAny_bind (Jk hh (q1.but b1.extBut n1 n2) ex fun g2 e b2 he=>?_)
 obtain⟨oe,e1,e2⟩:=he
 have oz2:IsZip g2 z ti tt .ellipsis:=b2 _ _ n1.symm oz1
 have nez:e≠z:=fun x=>by subst x;rw[oz2]at e1;cases e1;simp at e2
 exact wpAny_setField_rec oz2 (by simp) fun g3 _ b3=>k g3 e (fun c o c1 c3 x=>b3.extBut _ _ c1 (b2 _ _ c3 (b1.extBut _ _ c1 x))) ⟨oe,b3.extBut _ _ nez e1,e2⟩
theorem next3_item{z ti tt j1 j2 j3 l1 l2 l3:Addr}{m:Nat}{xs ys zs:Array Value}{x y v u1 u2 u3:Value}{Q:Option Value->Shared->Prop}(D:TriNe z ti tt j1 j2 j3)(F1:TriFar l1 z tt j1 j2 j3)(F2:TriFar l2 z tt j1 j2 j3)(F3:TriFar l3 z tt j1 j2 j3)
  (oz:IsZip s.heap z ti tt .none) (oi:IsTri s.heap ti (.ref j1) (.ref j2) (.ref j3)) (ot:IsTri s.heap tt u1 u2 u3) (q1:SIt s.heap j1 l1 m xs) (q2:SIt s.heap j2 l2 m ys) (q3:SIt s.heap j3 l3 m zs) (ex:xs[m]?=some x) (ey:ys[m]?=some y) (ev:zs[m]?=some v)
  (k:∀h',IsZip h' z ti tt (rawInt s.heap.objs.size)->IsTri h' tt x y v->SIt h' j1 l1 (m+1) xs->SIt h' j2 l2 (m+1) ys->SIt h' j3 l3 (m+1) zs->IsTri h' s.heap.objs.size x y v->
   (∀c o,c≠z->c≠tt->c≠j1->c≠j2->c≠j3->s.heap.get? c=some o->h'.get? c=some o)->Q (some (.ref s.heap.objs.size)) {s with heap:=h'}):
  wpAny (model prog w) A (pyNext (.ref z)) Q E s:=by
 have ht:s.TypeIs (.ref z) "zip":=⟨_,oz,rfl⟩
 unfold pyNext
 exact wpAny_bind (wpAny_attempt (wpAny_callSpecial?_slot (name:=Str.ofString "__next__") ht F.slot_zip_next (wpAny_call_entry F.slot_zip_next ht F.entry_zip_next
  (tri_item D F1 F2 F3 oz oi ot q1 q2 q3 ex ey ev fun h' a1 a2 a3 a4 a5 a6 a7=>wpAny_pure (k h' a1 a2 a3 a4 a5 a6 a7)) (F.args_zip_next_1 _))))
theorem next3_end{z ti tt j1 l1:Addr}{v2 v3:Value}{m:Nat}{xs:Array Value}{Q:Option Value->Shared->Prop}(hh:A.handled=none)(n1:j1≠z)(n2:l1≠z)
  (oz:IsZip s.heap z ti tt .none) (oi:IsTri s.heap ti (.ref j1) v2 v3) (q1:SIt s.heap j1 l1 m xs) (ex:xs[m]?=none)
  (k:∀h',(∀c o,c≠z->c≠j1->s.heap.get? c=some o->h'.get? c=some o)->Q none {s with heap:=h'}):wpAny (model prog w) A (pyNext (.ref z)) Q E s:=by
 have ht:s.TypeIs (.ref z) "zip":=⟨_,oz,rfl⟩
 unfold pyNext
 refine wpAny_bind (wpAny_attempt (wpAny_callSpecial?_slot (name:=Str.ofString "__next__") ht F.slot_zip_next (wpAny_call_entry F.slot_zip_next ht F.entry_zip_next
  (tri_end hh n1 n2 oz oi q1 ex fun h' e kp he=>?_) (F.args_zip_next_1 _))))
 obtain⟨o,e1,e2⟩:=he
 exact wpAny_bind (wpAny_isInstance (T:="StopIteration") (b:=true) ⟨o,e1,e2⟩ isSubtype_stop (wpAny_pure (k _ kp)))
theorem iter_sq{b:Bool}{l:Addr}{its:Array Value}{Q:Value->Shared->Prop}(q:HR s.heap b l its)(hQ:Q (.ref s.heap.objs.size) {s with heap:=zh1 s.heap b l}):wpAny (model prog w) A (pyIter (.ref l)) Q E s:=by
 cases b
 ·exact wpAny_pyIter_list q hQ
 ·exact wpAny_pyIter_tuple q hQ
end
end L2
end
noncomputable section
namespace L2
open PySem PySem.Spec PyProof.Rows
theorem typeCall_zip3(a b c:Value):checkTypeCall "zip" ⟨[a,b,c],[]⟩=pure ():=by kernel_rfl
theorem newCall_zip3(a b c:Value):checkBuiltinCall "zip.__new__" ⟨[.type "zip",a,b,c],[]⟩=pure ():=by kernel_rfl
theorem args_init4(a b c d:Value):argsOk "object.__init__" ⟨[a,b,c,d],[]⟩:=by
 unfold argsOk; rw [signature?_of (id := "object.__init__") (n := ['_', '_', 't', 'i', 'n', 'i', '_', '_']) (o := ['t', 'c', 'e', 'j', 'b', 'o']) (by kernel_rfl) F.owner_object]; kernel_rfl
noncomputable def th3(h:Heap)(b c d:Bool)(l m n:Addr):Heap:=zh1 (zh2 h b c l m) d n
noncomputable def th4(h:Heap)(b c d:Bool)(l m n:Addr):Heap:=(th3 h b c d l m n).push {cls:=.type "tuple",data:=.seq #[.ref h.objs.size,.ref (zh1 h b l).objs.size,.ref (zh2 h b c l m).objs.size]}
noncomputable def th5(h:Heap)(b c d:Bool)(l m n:Addr):Heap:=(th4 h b c d l m n).push {cls:=.type "tuple",data:=.seq #[.none,.none,.none]}
noncomputable def th6(h:Heap)(b c d:Bool)(l m n:Addr):Heap:=(th5 h b c d l m n).push {cls:=.type "zip",data:=.fields #[.none,.bool false,.bool false,.ref (th3 h b c d l m n).objs.size,.ref (th4 h b c d l m n).objs.size]}
theorem zip3_new(b c d:Bool)(l m n:Addr)(xs ys zs:Array Value):
  Meets (Builtin.«zip.__new__» ⟨[.type "zip",.ref l,.ref m,.ref n],[]⟩) (fun _ R s=>HR s.heap b l xs/\HR s.heap c m ys/\HR s.heap d n zs/\R (.ok (.ret (.ref (th5 s.heap b c d l m n).objs.size))) {s with heap:=th6 s.heap b c d l m n}):=
 .of_wp fun prog w A R s hyp=>by
  obtain⟨hp,gs,dr,tk,os⟩:=s
  obtain⟨i1,i2,i3,hyp⟩:=hyp
  have hsub:=sub_zip
  have i1:HR (Shared.heap ⟨hp,gs,dr,tk,os⟩) b l xs:=i1
  have i4:HR (Shared.heap ⟨zh1 hp b l,gs,dr,tk,os⟩) c m ys:=HR.push i2 _
  have i5:HR (Shared.heap ⟨zh1 (zh1 hp b l) c m,gs,dr,tk,os⟩) d n zs:=HR.push (HR.push i3 _) _
  wp_walk using iter_sq i1,iter_sq i4,iter_sq i5
  exact⟨_,rfl,hyp⟩
section
variable{prog:Program}{w:World}{A:Around}{E:Value->Shared->Prop}{s:Shared}
theorem call_zip3{b c d:Bool}{l m n:Addr}{xs ys zs:Array Value}{Q:Value->Shared->Prop}(i1:HR s.heap b l xs)(i2:HR s.heap c m ys)(i3:HR s.heap d n zs)
  (k:∀h',IsZip h' (s.heap.objs.size+5) (s.heap.objs.size+3) (s.heap.objs.size+4) .none->IsTri h' (s.heap.objs.size+3) (.ref s.heap.objs.size) (.ref (s.heap.objs.size+1)) (.ref (s.heap.objs.size+2))->
   IsTri h' (s.heap.objs.size+4) .none .none .none->SIt h' s.heap.objs.size l 0 xs->SIt h' (s.heap.objs.size+1) m 0 ys->SIt h' (s.heap.objs.size+2) n 0 zs->(∀c o,s.heap.get? c=some o->h'.get? c=some o)->Q (.ref (s.heap.objs.size+5)) {s with heap:=h'}):
  wpAny (model prog w) A (call (.type "zip") [.ref l,.ref m,.ref n]) Q E s:=by
 refine callType_new F.called_zip (by decide) (typeCall_zip3 _ _ _) (newCall_zip3 _ _ _) (fun obj=>args_init4 obj _ _ _) F.entry_zip_new (zip3_new b c d l m n xs ys zs) ⟨i1,i2,i3,?_⟩
 have z1:(zh1 s.heap b l).objs.size=s.heap.objs.size+1:=Heap.size_push ..
 have z2:(zh2 s.heap b c l m).objs.size=s.heap.objs.size+2:=by unfold zh2 zh1;rw[Heap.size_push];exact congrArg (· +1) z1
 have z3:(th3 s.heap b c d l m n).objs.size=s.heap.objs.size+3:=by unfold th3 zh1;rw[Heap.size_push,z2]
 have z4:(th4 s.heap b c d l m n).objs.size=s.heap.objs.size+4:=by unfold th4;rw[Heap.size_push,z3]
 have z5:(th5 s.heap b c d l m n).objs.size=s.heap.objs.size+5:=by unfold th5;rw[Heap.size_push,z4]
 have kp:∀e o,s.heap.get? e=some o->(th6 s.heap b c d l m n).get? e=some o:=fun e o q=>by
  unfold th6 th5 th4 th3 zh2 zh1
  exact Heap.get?_push_of_some _ (Heap.get?_push_of_some _ (Heap.get?_push_of_some _ (Heap.get?_push_of_some _ (Heap.get?_push_of_some _ (Heap.get?_push_of_some _ q)))))
 have g6:(th6 s.heap b c d l m n).get? (th5 s.heap b c d l m n).objs.size=some _:=Heap.get?_push_size _ rfl
 have g5:(th6 s.heap b c d l m n).get? (th4 s.heap b c d l m n).objs.size=some _:=Heap.get?_push_of_some _ (Heap.get?_push_size _ rfl)
 have g4:(th6 s.heap b c d l m n).get? (th3 s.heap b c d l m n).objs.size=some _:=Heap.get?_push_of_some _ (Heap.get?_push_of_some _ (Heap.get?_push_size _ rfl))
 have g3:(th6 s.heap b c d l m n).get? (zh2 s.heap b c l m).objs.size=some _:=Heap.get?_push_of_some _ (Heap.get?_push_of_some _ (Heap.get?_push_of_some _ (Heap.get?_push_size _ rfl)))
 have g2:(th6 s.heap b c d l m n).get? (zh1 s.heap b l).objs.size=some _:=Heap.get?_push_of_some _ (Heap.get?_push_of_some _ (Heap.get?_push_of_some _ (Heap.get?_push_of_some _ (Heap.get?_push_size _ rfl))))
 have g1:(th6 s.heap b c d l m n).get? s.heap.objs.size=some _:=Heap.get?_push_of_some _ (Heap.get?_push_of_some _ (Heap.get?_push_of_some _ (Heap.get?_push_of_some _ (Heap.get?_push_of_some _ (Heap.get?_push_size _ rfl)))))
 show _/\_
 rw[z3,z4,z5]at g6
 rw[z1,z2,z3]at g4
 rw[z4]at g5
 rw[z2]at g3
 rw[z1]at g2
 rw[z5]
 exact⟨⟨_,g6,rfl⟩,k _ g6 g4 g5 (QK i1 kp g1) (QK i2 kp g2) (QK i3 kp g3) kp⟩
end
noncomputable def It3(K:PySem.W.Frag)(k:Bool)(a:Addr)(m:Bool)(b:Addr)(q:Bool)(c:Addr):It:=
  ⟨fun i H=>∃(xs ys zs:List V) (x y z:V),SqB K H k a xs/\SqB K H m b ys/\SqB K H q c zs/\xs[i]?=some x/\ys[i]?=some y/\zs[i]?=some z,
   fun i H v H'=>∃(p:Addr) (x y z:V),H p=none/\v=.ref p/\(∀xs,SqB K H k a xs->xs[i]?=some x)/\(∀ys,SqB K H m b ys->ys[i]?=some y)/\(∀zs,SqB K H q c zs->zs[i]?=some z)/\H'=upd H p (.tup [x,y,z]),
   fun i H=>∃(xs:List V),SqB K H k a xs/\xs.length≤i⟩
structure ZSt3(h:Heap)(z ti tt j1 j2 j3:Addr)(k:Bool)(a:Addr)(m:Bool)(b:Addr)(q:Bool)(c:Addr)(i:Nat):Prop where
 oz:IsZip h z ti tt .none
 oi:IsTri h ti (.ref j1) (.ref j2) (.ref j3)
 ot:∃u v y,IsTri h tt u v y
 q1:JIt h k j1 a i
 q2:JIt h m j2 b i
 q3:JIt h q j3 c i
theorem turn_zip3{P:Program}{w:World}{K:PySem.W.Frag}{elts:List Expr}{n:Nat}{pos:Pos}(k:Bool)(a:Addr)(m:Bool)(b:Addr)(q:Bool)(d:Addr)(z ti tt j1 j2 j3:Addr)(N:TriNe z ti tt j1 j2 j3):
  Turn P w K (.Tuple elts n pos) (It3 K k a m b q d) [z,ti,tt,j1,j2,j3] z (fun i h=>ZSt3 h z ti tt j1 j2 j3 k a m b q d i) where
 mem:=by simp
 obj := fun i h st c hc => by
  have jl:∀{q:Bool} {j l:Addr},JIt h q j l i->∃o,h.get? j=some o/\∀v,o.data≠.cell v:=fun{q j l} x=>by
   cases q
   ·obtain⟨o,e,_,d⟩:=(show h.IsListIter j l i from x)
    exact⟨o,e,fun v z=>by rw[d]at z;cases z⟩
   ·obtain⟨o,e,_,d⟩:=(show h.IsTupleIter j l i from x)
    exact⟨o,e,fun v z=>by rw[d]at z;cases z⟩
  simp only[List.mem_cons,List.not_mem_nil,or_false]at hc
  rcases hc with rfl|rfl|rfl|rfl|rfl|rfl
  ·exact⟨_,st.oz,fun v z=>nomatch z⟩
  ·exact⟨_,st.oi,fun v z=>nomatch z⟩
  ·obtain⟨u,v,y,e⟩:=st.ot
   exact⟨_,e,fun v z=>nomatch z⟩
  ·exact jl st.q1
  ·exact jl st.q2
  ·exact jl st.q3
 keep:=fun i h h' st kp=>⟨kp z (by simp) _ st.oz,kp ti (by simp) _ st.oi,let⟨u,v,y,e⟩:=st.ot;⟨u,v,y,kp tt (by simp) _ e⟩,st.q1.at fun o e=>kp j1 (by simp) o e,st.q2.at fun o e=>kp j2 (by simp) o e,st.q3.at fun o e=>kp j3 (by simp) o e⟩
 item := by
  intro X hP hw hK hc i pins s σ H E I hf st hg
  subst hP hw hK
  obtain⟨xs,ys,zs,x,y,y3,s1,s2,s3,e1,e2,e3⟩:=hg
  obtain⟨i1,r1,p1⟩:=I.sqB s1
  obtain⟨i2,r2,p2⟩:=I.sqB s2
  obtain⟨i3,r3,p3⟩:=I.sqB s3
  obtain⟨u1,h1,ru1⟩:=r1.get e1
  obtain⟨u2,h2,ru2⟩:=r2.get e2
  obtain⟨u3,h3,ru3⟩:=r3.get e3
  have fz:=hf z (by simp);have fi:=hf ti (by simp);have ft:=hf tt (by simp);have f1:=hf j1 (by simp);have f2:=hf j2 (by simp);have f3:=hf j3 (by simp)
  have far:∀{kk:Bool} {e:Addr} {ws:List V},SqB X.K H kk e ws->TriFar e z tt j1 j2 j3:=fun s1=>⟨BO I s1 fz,BO I s1 ft,BO I s1 f1,BO I s1 f2,BO I s1 f3⟩
  have fa:=far s1
  have fb:=far s2
  have fd:=far s3
  obtain⟨v1,v2,v3,ot⟩:=st.ot
  refine next3_item N fa fb fd st.oz st.oi ot (st.q1.sit p1) (st.q2.sit p2) (st.q3.sit p3) (x:=u1) (y:=u2) (v:=u3) (by simpa using h1) (by simpa using h2) (by simpa using h3) fun h' oz ot' q1 q2 q3 op kp=>⟨_,rfl,wpAny_letOwnedTupleGo_zip oz fun g oz' sb=>?_⟩
  have lt:∀c o,s.heap.get? c=some o->c≠s.heap.objs.size:=fun c o q=>Nat.ne_of_lt (Heap.lt_size q)
  have nz:z≠s.heap.objs.size:=lt _ _ st.oz
  have nt:tt≠s.heap.objs.size:=lt _ _ ot
  have n1:j1≠s.heap.objs.size:=by obtain⟨o,e,_⟩:=(st.q1.sit p1).live;exact lt _ _ e
  have n2:j2≠s.heap.objs.size:=by obtain⟨o,e,_⟩:=(st.q2.sit p2).live;exact lt _ _ e
  have n3:j3≠s.heap.objs.size:=by obtain⟨o,e,_⟩:=(st.q3.sit p3).live;exact lt _ _ e
  have kp2:∀c o,c≠z->c≠tt->c≠j1->c≠j2->c≠j3->s.heap.get? c=some o->g.get? c=some o:=fun c o c1 c2 c3 c4 c5 q=>(sb.2 c c1).trans (kp c o c1 c2 c3 c4 c5 q)
  have fr:H s.heap.objs.size=none:=I.hok.fresh (Nat.le_refl _)
  have op2:g.get? s.heap.objs.size=some {cls:=.type "tuple",data:=.seq #[u1,u2,u3]}:=(sb.2 _ (Ne.symm nz)).trans op
  have ne:∀c u,c∈ [z,ti,tt,j1,j2,j3]->∀d,H d=some u->d≠c:=fun c u hc d q e=>by rw[e,(hf c hc).1]at q;cases q
  have kpH:∀c u,H c=some u->∀o,s.heap.get? c=some o->g.get? c=some o:=fun c u q o e=>kp2 c o (ne z u (by simp) c q) (ne tt u (by simp) c q) (ne j1 u (by simp) c q) (ne j2 u (by simp) c q) (ne j3 u (by simp) c q) e
  have sq:∀{q:Bool} {d:Addr} {is:Array Value},HR s.heap q d is->TriFar d z tt j1 j2 j3->HR h' q d is:=fun{q d is} x fr=>by
   have kd:∀o,s.heap.get? d=some o->h'.get? d=some o:=fun o e=>kp d o fr.lz fr.lt fr.l1 fr.l2 fr.l3 e
   cases q
   ·exact(show s.heap.IsList d is from x).at kd
   ·obtain⟨o,e,r⟩:=(show s.heap.IsTuple d is from x)
    exact⟨o,kd o e,r⟩
  refine⟨.ref s.heap.objs.size,upd H s.heap.objs.size (.tup [x,y,y3]),?_,rfl,⟨_,x,y,y3,fr,rfl,fun zs hz=>by rw[I.sqB_inj hz s1];exact e1,fun zs hz=>by rw[I.sqB_inj hz s2];exact e2,fun zs hz=>by rw[I.sqB_inj hz s3];exact e3,rfl⟩,⟨oz',(sb.2 _ N.tiz).trans (kp ti _ N.tiz N.titt N.tij1 N.tij2 N.tij3 st.oi),⟨_,_,_,(sb.2 _ N.ttz).trans ot'⟩,(q1.jit (sq p1 fa)).at fun o e=>(sb.2 _ N.j1z).trans e,(q2.jit (sq p2 fb)).at fun o e=>(sb.2 _ N.j2z).trans e,(q3.jit (sq p3 fd)).at fun o e=>(sb.2 _ N.j3z).trans e⟩,?_⟩
  ·show Inv X pins σ _ {s with heap:=g,gens:=s.gens,drawn:=s.drawn,toks:=s.toks}
   refine I.step (g':=s.gens) (d':=s.drawn) (ch:=[z,tt,j1,j2,j3]) ?_ ?_ ?_ ?_ ?_ ?_ ?_ ?_ ?_ ?_ I.bare
   ·intro c hc
    have q:PY X pins H c:=hf c (by simp only[List.mem_cons,List.not_mem_nil,or_false]at hc ⊢; rcases hc with z|z|z|z|z<;>simp[z])
    exact⟨q.2.2.2.1,q.2.1,q.2.2.2.2.1,q.2.2.2.2.2⟩
   ·exact fun c o _ _ hc q _=>by
     simp only[List.mem_cons,List.not_mem_nil,or_false,not_or]at hc
     exact kp2 c o hc.1 hc.2.1 hc.2.2.1 hc.2.2.2.1 hc.2.2.2.2 q
   ·exact fun c o _ _ hc q _=>by
     simp only[List.mem_cons,List.not_mem_nil,or_false,not_or]at hc
     exact⟨o.slots,kp2 c o hc.1 hc.2.1 hc.2.2.1 hc.2.2.2.1 hc.2.2.2.2 q⟩
   ·exact fun c o _ q n=>by rw[Aw (lt c o q)];exact n
   ·exact fun c o hc q=>by
     simp only[List.mem_cons,List.not_mem_nil,or_false,not_or]at hc
     exact⟨o,kp2 c o hc.1 hc.2.1 hc.2.2.1 hc.2.2.2.1 hc.2.2.2.2 q⟩
   ·exact fun c ys q=>by rw[Aw (A9 q fr)];exact q
   ·exact fun c o u q=>by rw[Aw (A9 q fr)];exact q
   ·exact fun c ps q=>⟨#[],by rw[Aw (A9 q fr),q];simp⟩
   ·rintro mm ⟨o,es,ep,ho,r⟩
    exact⟨o,es,ep,kp2 _ o (Ne.symm fz.2.1) (Ne.symm ft.2.1) (Ne.symm f1.2.1) (Ne.symm f2.2.1) (Ne.symm f3.2.1) ho,r⟩
   ·intro c v q
    by_cases hb:c=s.heap.objs.size
    ·subst hb
     rw[B5]at q
     cases q
     exact⟨by show 3≤sizeLine;decide,[u1,u2,u3],.cons ru1 (.cons ru2 (.cons ru3 .nil)),⟨_,op2,rfl,0,rfl⟩⟩
    ·rw[Aw hb]at q
     refine(I.hok c v q).stay (fun d o hd r=>?_) (fun d r=>by rw[Aw (A9 r fr)];exact r) (fun d ys r=>by rw[Aw (A9 r fr)];exact r)
     rcases hd with e|e
     ·rw[e]at r ⊢; exact kpH c v q o r
     ·exact kpH d _ e o r
  ·intro c hc
   have q:=hf c hc
   have:c≠s.heap.objs.size:=by
    simp only[List.mem_cons,List.not_mem_nil,or_false]at hc
    rcases hc with e|e|e|e|e|e
    ·rw[e];exact nz
    ·rw[e];exact lt _ _ st.oi
    ·rw[e];exact nt
    ·rw[e];exact n1
    ·rw[e];exact n2
    ·rw[e];exact n3
   rw[Aw this];exact q.1
 done:=by
  intro X hP hw hK hc i pins s σ H E I hf st hg
  subst hP hw hK
  obtain⟨xs,s1,e⟩:=hg
  obtain⟨i1,r1,p1⟩:=I.sqB s1
  have l1:=r1.length
  have hh0:X.A.handled=none:=I.ok.hd hc
  have fz:=hf z (by simp);have f1:=hf j1 (by simp)
  refine next3_end hh0 N.j1z (BO I s1 fz) st.oz st.oi (st.q1.sit p1) (by simp;omega) fun h' kp=>⟨rfl,?_⟩
  have ne:∀c u,c∈ [z,ti,tt,j1,j2,j3]->∀d,H d=some u->d≠c:=fun c u hc d q e=>by rw[e,(hf c hc).1]at q;cases q
  show Inv X pins σ _ {s with heap:=h',gens:=s.gens,drawn:=s.drawn,toks:=s.toks}
  refine I.step (g':=s.gens) (d':=s.drawn) (ch:=[z,j1]) ?_ ?_ ?_ ?_ ?_ ?_ ?_ ?_ ?_ ?_ I.bare
  ·intro c hc
   have q:PY X pins H c:=hf c (by simp only[List.mem_cons,List.not_mem_nil,or_false]at hc ⊢; rcases hc with z|z<;>simp[z])
   exact⟨q.2.2.2.1,q.2.1,q.2.2.2.2.1,q.2.2.2.2.2⟩
  ·exact fun c o _ _ hc q _=>by
    simp only[List.mem_cons,List.not_mem_nil,or_false,not_or]at hc
    exact kp c o hc.1 hc.2 q
  ·exact fun c o _ _ hc q _=>by
    simp only[List.mem_cons,List.not_mem_nil,or_false,not_or]at hc
    exact⟨o.slots,kp c o hc.1 hc.2 q⟩
  ·exact fun c o _ q n=>n
  ·exact fun c o hc q=>by
    simp only[List.mem_cons,List.not_mem_nil,or_false,not_or]at hc
    exact⟨o,kp c o hc.1 hc.2 q⟩
  ·exact fun c ys q=>q
  ·exact fun c o u q=>q
  ·exact fun c ps q=>⟨#[],by rw[q];simp⟩
  ·rintro mm ⟨o,es,ep,ho,r⟩
   exact⟨o,es,ep,kp _ o (Ne.symm fz.2.1) (Ne.symm f1.2.1) ho,r⟩
  ·intro c v q
   refine(I.hok c v q).stay (fun d o hd r=>?_) (fun d r=>r) (fun d ys r=>r)
   rcases hd with e|e
   ·rw[e]at r ⊢; exact kp c o (ne z v (by simp) c q) (ne j1 v (by simp) c q) r
   ·exact kp d o (ne z _ (by simp) d e) (ne j1 _ (by simp) d e) r
 self:=fun _ _ _ _ _ st h=>wpAny_pyIter_zip st.oz h
theorem trine(n:Nat):TriNe (n+5) (n+3) (n+4) n (n+1) (n+2):=by
 constructor<;>(intro e;first|(have e:n+3=n+5:=e;omega)|(have e:n+4=n+5:=e;omega)|(have e:n=n+5:=e;omega)|(have e:n+1=n+5:=e;omega)|(have e:n+2=n+5:=e;omega)|(have e:n+3=n+4:=e;omega)|(have e:n+3=n:=e;omega)|(have e:n+3=n+1:=e;omega)|(have e:n+3=n+2:=e;omega)|(have e:n+4=n:=e;omega)|(have e:n+4=n+1:=e;omega)|(have e:n+4=n+2:=e;omega)|(have e:n=n+1:=e;omega)|(have e:n=n+2:=e;omega)|(have e:n+1=n+2:=e;omega))
section
variable{X:Cx}
noncomputable def iZip3(K:PySem.W.Frag)(ta:TA):TI:=fun σ H R=>ta σ H fun vs H1=>∃k a m b q c,vs=[.ref a,.ref b,.ref c]/\(∃xs,SqB K H1 k a xs)/\(∃ys,SqB K H1 m b ys)/\(∃zs,SqB K H1 q c zs)/\R (It3 K k a m b q c) H1
theorem pi_zip3{a b c:Expr}{ta:TA}{p pos tp:Pos}{elts:List Expr}{n:Nat}(hg:Gl X "zip")(hm:X.mg "zip"=none)(ha:PA X [a,b,c] ta)(hs:starEach [a,b,c] X.env=[(false,eval a X.env),(false,eval b X.env),(false,eval c X.env)]:=by rfl)(hs2:starEach [b,c] X.env=[(false,eval b X.env),(false,eval c X.env)]:=by rfl):
    PI X (.Tuple elts n tp) (.Call (.Name "zip" p) [a,b,c] [] pos) (iZip3 X.K ta):=by
  intro pins s σ H R I h
  refine Call_ (Li I hg hm boot_zip (PyProof.Rows.callWith_type1 (thn (ha pos pins s σ H _ I h) fun us s1 ⟨vs,H1,I1,r1,q1⟩=>?_) (by rw[hs,hs2]) (by rw[hs2];rfl)))
  obtain⟨k,a',m,b',q',c',e,⟨xs,hq⟩,⟨ys,hr⟩,⟨zs,ht⟩,q⟩:=q1
  subst e
  obtain ⟨u, v, y, rfl, ru, rv, ry⟩ : ∃ u v y, us = [u, v, y] /\ RelV (.ref a') u /\ RelV (.ref b') v /\ RelV (.ref c') y := by
    cases r1 with
    | cons ru r1 =>
      cases r1 with
      | cons rv r1 =>
        cases r1 with
        | cons ry r1 =>
          cases r1
          exact⟨_,_,_,rfl,ru,rv,ry⟩
  cases (show u=Value.ref a' from ru)
  cases (show v=Value.ref b' from rv)
  cases (show y=Value.ref c' from ry)
  obtain⟨i1,v1,p1⟩:=I1.sqB hq
  obtain⟨i2,v2,p2⟩:=I1.sqB hr
  obtain⟨i3,v3,p3⟩:=I1.sqB ht
  refine call_zip3 p1 p2 p3 fun h' oz oi ot q1 q2 q3 kp=>wpAny_pyIter_zip (s:={s1 with heap:=h'}) oz ?_
  have sq:∀{q:Bool} {d:Addr} {is:Array Value},HR s1.heap q d is->HR h' q d is:=fun{q d is} x=>by
    cases q
    ·exact(show s1.heap.IsList d is from x).at fun o e=>kp _ o e
    · obtain ⟨o, e, r⟩ := (show s1.heap.IsTuple d is from x)
      exact⟨o,kp _ o e,r⟩
  refine⟨s1.heap.objs.size+5,[s1.heap.objs.size+5,s1.heap.objs.size+3,s1.heap.objs.size+4,s1.heap.objs.size,s1.heap.objs.size+1,s1.heap.objs.size+2],_,_,H1,rfl,I1.kept (t':=s1.toks) kp,
    turn_zip3 k a' m b' q' c' _ _ _ _ _ _ (trine s1.heap.objs.size),⟨oz,oi,⟨_,_,_,ot⟩,q1.jit (sq p1),q2.jit (sq p2),q3.jit (sq p3)⟩,fun c hc=>?_,q⟩
  simp only[List.mem_cons,List.not_mem_nil,or_false]at hc
  have:s1.heap.objs.size≤c:=by rcases hc with rfl|rfl|rfl|rfl|rfl|rfl<;>first|exact Nat.le_refl _|exact Nat.le_add_right _ _
  exact I1.fpOk this (I1.hok.fresh this)
end
end L2
end
noncomputable section
namespace St
open PySem PySem.Spec L2 PyProof.Rows
inductive Kd where
 |non|bl|int|str|tup|lst|dct
 deriving DecidableEq
noncomputable def Kd.ty:Kd->String
 | .non=>"NoneType" | .bl=>"bool" | .int=>"int" | .str=>"str" | .tup=>"tuple" | .lst=>"list" | .dct=>"dict"
noncomputable def Kd.isA:Kd->String->Bool
 | .bl,"bool"=>true| .bl,"int"=>true| .int,"int"=>true| .str,"str"=>true| .tup,"tuple"=>true| .lst,"list"=>true| .dct,"dict"=>true
 |_,_=>false
section
variable{K:PySem.W.Frag}
theorem ZK(k:Kd):PySem.W.kitOne K (.type k.ty) (.type "int")=some (k.isA "int"):=by
 cases k<;>first|rfl|(unfold PySem.W.kitOne;rfl)
theorem WY(k:Kd):PySem.W.kitOne K (.type k.ty) (.type "bool")=some (k.isA "bool"):=by
 cases k<;>rfl
theorem kit_tuple(k:Kd):PySem.W.kitOne K (.type k.ty) (.type "tuple")=some (k.isA "tuple"):=by
 cases k<;>rfl
theorem Yz(k:Kd):PySem.W.kitOne K (.type k.ty) (.type "str")=some (k.isA "str"):=by
 cases k<;>rfl
end
structure Dfn(P:Program)(w:World)(K:PySem.W.Frag)(mg:Str->Option Value)(base:Heap)(x:Str)(k:Nat)(ps:List Str)(sp:Sp):Prop where
 ex:∃f fd,mg x=some (.ref f)/\PySem.W.keepIn K (.ref f)=true/\Binds K fd ps []/\Po P w K mg base CX0 k f fd ps sp
structure Src(K:PySem.W.Frag)(mg:Str->Option Value)(x:Str)(st:Stmt):Prop where
 ex:∃f fd,Fun K x x st f fd/\mg x=some (.ref f)
theorem gA{X:Cx}{k:Nat}{x:Str}{ps:List Str}{sp:Sp}{e:Expr}{es:List Expr}{t:TA}{p pos:Pos}(d:Dfn X.prog X.w X.K X.mg X.base x k ps sp)(hr:NX k X.A)(hg:Gl X x)(ha:PA X (e::es) t)
  (hdb:(x==("__debug__":Str))=false:=by decide) (he:starEach (e::es) X.env=(false,eval e X.env)::starEach es X.env:=by rfl) (hpl:(backTo pos (starEach es X.env)).any (·.1)=false:=by rfl):
  PE X (.Call (.Name x p) (e::es) [] pos) (Zg sp [] E0 t):=by
 obtain⟨f,fd,a,b,c,F⟩:=d.ex
 exact ZP F hr hg a b c .nil fD ha hdb he hpl
section
variable{X:Cx}
theorem Y4{n:Nat}(h:n<2^8000):n.log2<9000:=by
 by_cases h0:n=0
 ·subst h0;decide
 ·exact Nat.lt_trans ((Nat.log2_lt h0).mpr h) (by decide)
theorem V4:OpR X (binaryOp .FloorDiv) (rI (fun _ j=>0<j/\j.natAbs<2^8000) fun i j=>.int (i / j)):=opI fun i j _ _ _ _ _ hc q=>by
 have h1:(0:Int)<j:=hc.1
 exact floordiv_int (by omega) (by rw[Int.fdiv_eq_ediv_of_nonneg i (by omega)];exact q) (.inl (PyProof.noPylong_of_log2 (Y4 hc.2)))
theorem R9{prog:Program}{w:World}{A:Around}(hh:A.handled=none){a it:Addr}(hne:a≠it){vs:List Value}:Walks prog w A it [it,a] [it] vs.length (fun i v=>vs[i]?=some v) (fun i h=>h.IsListIter it a i/\h.IsList a vs.toArray) where
 sub:=fun b hb=>by simp at hb;simp[hb]
 frame:=fun i h h' st k=>⟨st.1.at fun o e=>k it (by simp) o e,by
  obtain⟨o,ho,r⟩:=st.2
  exact⟨o,k a (by simp) o ho,r⟩⟩
 item:=fun i s Q E hi st hQ=>by
  refine wpAny_pyNext_list_item st.1 st.2 (x:=vs[i]) (by simp[hi]) fun h' st' sb=>?_
  refine hQ _ h' s.toks (by simp[hi]) ⟨st',?_⟩ fun b o hb e=>(sb.2 b (by simpa using hb)).trans e
  obtain⟨o,ho,r⟩:=st.2
  exact⟨o,(sb.2 a hne).trans ho,r⟩
 done:=fun s Q E st hQ=>wpAny_pyNext_list_end hh st.1 st.2 (by simp) fun h' eb=>hQ h' s.toks fun b o hb e=>eb b o (by simpa using hb) e
 self:=fun i s Q E st hQ=>wpAny_pyIter_listiter st.1 hQ
theorem Wl{ns:List Int}{j:Nat}(h:j<ns.length):(ns.take (j+1)).sum=(ns.take j).sum+ns.getD j 0:=by
 have e:ns.getD j 0=ns[j]:=by simp[List.getD_eq_getElem?_getD,List.getElem?_eq_getElem h]
 rw[List.take_succ,List.getElem?_eq_getElem h,List.sum_append,e]
 show _+(ns[j]+0)=_
 omega
theorem Lp{ns:List Int}:∀{j:Nat},j≤ns.length->preSum (fun i=>ns.getD i 0) j=(ns.take j).sum
  |0,_=>by simp[preSum]
  | j + 1, h => by
    rw[preSum,Lp (by omega),Wl (by omega)]
theorem Su{ns:List Int}(h:∀n∈ns,0≤n/\n≤1000000):0≤ns.sum/\ns.sum≤1000000*ns.length:=by
  induction ns with
  |nil=>simp
  | cons a l ih =>
    have h1:=h a (by simp)
    have h2:=ih fun n hn=>h n (by simp[hn])
    rw[List.sum_cons,List.length_cons]
    have:((l.length+1:Nat):Int)=(l.length:Int)+1:=by omega
    omega
end
section
variable{prog:Program}{w:World}{A:Around}{E:Value->Shared->Prop}{s:Shared}
theorem Km{t sl:Addr}{items:Array Value}{vl vu:Value}{lo hi:Option Int}{Q:Value->Shared->Prop}(ht:IsTup s.heap t items)(hs:s.heap.IsSliceOf sl vl vu .none)(pl:IsPart vl lo)(pu:IsPart vu hi)
  (hw:HT.sIx items.size 0 lo=0/\HT.sIx items.size items.size hi=items.size)
  (h:Q (.ref t) s):wpAny (model prog w) A (getItem (.ref t) (.ref sl)) Q E s:=by
 obtain⟨os,hos,hcs,hds⟩:=id hs
 have hTs:s.TypeIs (.ref sl) "slice":=⟨os,hos,hcs⟩
 unfold getItem
 try with_reducible refine wpAny_holding ?_
 first|refine wpAny_bind (wpAny_pure ?_)|skip
 refine wpAny_bind (wpAny_sequenceKey ht.typeIs (by decide) ?_)
 refine wpAny_bind (wpAny_callSpecial?_slot (name:=Str.ofString "__getitem__") ht.typeIs PyProof.Rows.slot_tuple_getitem
  (wpAny_call_entry PyProof.Rows.slot_tuple_getitem ht.typeIs entry_tuple_getitem ?_ (args_tuple_getitem _ _)))
 show wpAny _ _ (Builtin.Tuple.tupleItemsOf (.ref t) >>= _) _ _ s
 refine wpAny_bind (tupleItemsOf_ ht ?_)
 refine wpAny_bind (wpAny_typeOf hTs ?_)
 rw[if_pos (by decide)]
 refine wpAny_bind (HT.HX hs pl pu ?_)
 show wpAny _ _ (if(((HT.sIx items.size 0 lo:Nat):Int)==0 && (1:Int)==1 && (HT.sIx items.size items.size hi-HT.sIx items.size 0 lo)==items.size)=true then _ else _) _ _ s
 rw[if_pos (by rw[hw.1,hw.2];simp)]
 unfold Builtin.Tuple.tupleIsExact
 refine wpAny_bind (wpAny_bind (wpAny_typeOf ht.typeIs (wpAny_pure ?_)))
 rw[if_pos (by decide)]
 exact wpAny_bind (wpAny_rule (wpAny_pure ⟨_,rfl,wpAny_pure h⟩))
end
section
variable{X:Cx}
def iP(K:PySem.W.Frag):V->Option Int->Option Int->Hp->VK->Prop:=fun x lo hi H Q=>∃a xs,x=.ref a/\SqT K H a xs/\HT.sIx xs.length 0 lo=0/\HT.sIx xs.length xs.length hi=xs.length/\Q x H
theorem bw:SlR X (iP X.K):=by
 intro pins s σ H x v vl vu lo hi sl Q I rx hs pl pu h
 obtain⟨a,xs,rfl,hx,h1,h2,q⟩:=h
 cases rx
 obtain⟨its,r,ht,hz⟩:=I.tuple hx
 have hlen:its.toArray.size=xs.length:=by rw[List.size_toArray];exact r.length.symm
 refine⟨"tuple",_,PyProof.Rows.slot_tuple_getitem.lookup,ht.typeIs,?_⟩
 exact Km ht hs pl pu (by rw[hlen];exact⟨h1,h2⟩) ⟨.ref a,H,I,rfl,q⟩
noncomputable def eG(K:PySem.W.Frag):R2:=fun x y H Q=>∃a b ys,x=.ref a/\y=.ref b/\SqT K H a []/\SqT K H b ys/\Q (.ref b) H
theorem Ze:OpR X (binaryOp .Add) (eG X.K):=by
 intro pins s σ H x y v u Q I rx ry h
 obtain⟨a,b,ys,rfl,rfl,ha,hb,q⟩:=h
 cases rx
 cases ry
 obtain⟨its,r1,p1,_⟩:=I.tuple ha
 obtain⟨its2,r2,p2,_⟩:=I.tuple hb
 have e0:its=[]:=r1.nil_iff.mpr rfl
 subst e0
 obtain⟨⟨cls,dd,data,sl⟩,ho,hc,n,hd⟩:=id p1
 obtain⟨⟨cls2,dd2,data2,sl2⟩,ho2,hc2,n2,hd2⟩:=id p2
 simp only at hc hd hc2 hd2
 subst hc hd hc2 hd2
 exact concat_meets ⟨_,ho,rfl⟩ ⟨_,ho2,rfl⟩ noFill_tuple_add seq_tuple_add PySem.F.slot_tuple_add PySem.F.entry_tuple_add (PySem.F.args_tuple_add_2 _ _)
   (tuple_addW0 a b #[] its2.toArray n n2 dd dd2 sl sl2 rfl) ⟨ho,ho2,⟨.ref b,H,I,rfl,q⟩⟩
end
end St
end
noncomputable section
namespace Mi
open PySem PySem.Spec L2
inductive D where
 |non|bl (b:Bool)|int (i:Int)|str (x:Str)|ty (n:String)|tup (ds:List D)|lst (ds:List D)|dct (kvs:List (Key×D))|scr (ns:List Int)|ref (n:Nat)
inductive Wv where
 |val (d:D)|own (ds:List D)
inductive Cl where
 |lst (ds:List D)|dct (kvs:List (Key×D))
abbrev Sto:=List Cl
structure Ms where
 cel:List Addr
 tmp:List Addr
def Ms.mem(M:Ms)(a:Addr):Prop:=a∈M.cel∨a∈M.tmp
noncomputable def Ms.no:Ms:=⟨[],[]⟩
theorem Ms.no_mem{a:Addr}:¬Ms.no.mem a:=fun z=>z.elim (fun z=>by cases z) fun z=>by cases z
def KL(K:PySem.W.Frag)(a:Addr)(xs:List V):Prop:=∃(o:Obj) (its:Array Value) (n:Nat),K.lookup a=some o/\o.cls=.type "list" /\o.dict=none/\o.data=.seq its n/\its.size≤sizeLine/\Vals xs its.toList
mutual
inductive ER(K:PySem.W.Frag)(M:Ms)(H:Hp):V->D->Prop
 |non:ER K M H .non .non
 |bl (b:Bool):ER K M H (.bl b) (.bl b)
 |int (i:Int):ER K M H (.int i) (.int i)
 |str (x:Str):ER K M H (.str x) (.str x)
 |ty (n:String):ER K M H (.ty n) (.ty n)
 |tup {a:Addr} {xs:List V} {ds:List D} (h:SqT K H a xs) (r:Au K M H xs ds):ER K M H (.ref a) (.tup ds)
 |lst {a:Addr} {xs:List V} {ds:List D} (h:H a=some (.lst xs)) (n:¬M.mem a) (r:Au K M H xs ds):ER K M H (.ref a) (.lst ds)
 |scr {a:Addr} {ns:List Int} (h:(Rd H a (.lst (ns.map V.int))/\¬M.mem a)∨KL K a (ns.map V.int)):ER K M H (.ref a) (.scr ns)
 |dct {a:Addr} {kvs:List (Key×V)} {es:List (Key×D)} (h:H a=some (.dK kvs)) (n:¬M.mem a) (r:M8 K M H kvs es):ER K M H (.ref a) (.dct es)
 |ref {a:Addr} {n:Nat} (h:M.cel[n]?=some a):ER K M H (.ref a) (.ref n)
inductive Au(K:PySem.W.Frag)(M:Ms)(H:Hp):List V->List D->Prop
 |nil:Au K M H [] []
 |cons {v:V} {d:D} {vs:List V} {ds:List D} (h:ER K M H v d) (t:Au K M H vs ds):Au K M H (v::vs) (d::ds)
inductive M8(K:PySem.W.Frag)(M:Ms)(H:Hp):List (Key×V)->List (Key×D)->Prop
 |nil:M8 K M H [] []
 |cons {k:Key} {v:V} {d:D} {vs:List (Key×V)} {ds:List (Key×D)} (h:ER K M H v d) (t:M8 K M H vs ds):M8 K M H ((k,v)::vs) ((k,d)::ds)
end
def MOk(M:Ms)(H:Hp):Prop:=∀a,M.mem a->(∃xs,H a=some (.lst xs))∨∃kvs,H a=some (.dK kvs)
structure Sp1(M:Ms)(H:Hp)(M':Ms)(H':Hp):Prop where
 mo:MOk M H
 pre:M.cel <+: M'.cel
 fresh:∀a,M'.mem a->M.mem a∨H a=none
 keep:∀a o,H a=some o->¬M.mem a->H' a=some o
structure Gr(M:Ms)(H:Hp)(M':Ms)(H':Hp):Prop where
 mo:MOk M H
 pre:M.cel <+: M'.cel
 tmp:M'.tmp=M.tmp
 fresh:∀a,a∈M'.cel->a∈M.cel∨H a=none
 keep:∀a o,H a=some o->a∉M.cel->H' a=some o
 some:∀a,H a≠none->H' a≠none
section
variable{K:PySem.W.Frag}{M M' M2:Ms}{H H' H2:Hp}
theorem MOk.some(mo:MOk M H){a:Addr}(h:M.mem a):H a≠none:=fun z=>by
 rcases mo a h with⟨xs,e⟩|⟨xs,e⟩<;>(rw[e]at z;cases z)
theorem Gr.st(g:Gr M H M' H'):Sp1 M H M' H':=⟨g.mo,g.pre,fun a z=>z.elim (fun z=>(g.fresh a z).imp .inl id) fun z=>.inl (.inr (by rw[←g.tmp];exact z)),fun a o e n=>g.keep a o e fun z=>n (.inl z)⟩
theorem Gr.refl(mo:MOk M H):Gr M H M H:=⟨mo,List.prefix_rfl,rfl,fun _ z=>.inl z,fun _ _ e _=>e,fun _ e=>e⟩
theorem Gr.none(g:Gr M H M' H'){a:Addr}(h:H' a=none):H a=none:=by
 cases e:H a with
 |none=>rfl
 |some o=>exact absurd h (g.some a (by rw[e];intro z;cases z))
theorem Gr.trans(h:Gr M H M' H')(g:Gr M' H' M2 H2):Gr M H M2 H2:=
 ⟨h.mo,h.pre.trans g.pre,g.tmp.trans h.tmp,fun a z=>(g.fresh a z).elim (h.fresh a) fun z=>.inr (h.none z),fun a o e n=>g.keep a o (h.keep a o e n) (fun z=>by
  rcases h.fresh a z with z|z
  ·exact n z
  ·rw[e]at z;cases z),fun a e=>g.some a (h.some a e)⟩
theorem Gr.grow(mo:MOk M H)(k:∀a o,H a=Option.some o->H' a=Option.some o):Gr M H M H':=
 ⟨mo,List.prefix_rfl,rfl,fun _ z=>.inl z,fun b u eb _=>k b u eb,fun b eb z=>by
  cases h:H b with
  |none=>exact eb h
  |some o=>rw[k b o h]at z;cases z⟩
theorem Oj{α:Type}{xs ys:List α}(h:xs <+: ys){n:Nat}{a:α}(e:xs[n]?=Option.some a):ys[n]?=Option.some a:=by
 obtain⟨zs,rfl⟩:=h
 rw[List.getElem?_append_left (List.getElem?_eq_some_iff.mp e).1]
 exact e
theorem W5{a:Addr}{xs:List V}(h:SqT K H a xs)(k:∀b o,H b=Option.some o->(∀ys,o≠.lst ys)->(∀ys,o≠.dK ys)->H' b=Option.some o):SqT K H' a xs:=by
 rcases h with h|h
 ·rcases h with h|⟨o,h⟩
  ·exact .inl (.inl (k _ _ h (fun ys z=>by cases z) fun ys z=>by cases z))
  ·exact .inl (.inr ⟨o,k _ _ h (fun ys z=>by cases z) fun ys z=>by cases z⟩)
 ·exact .inr h
theorem Sp1.sqT(g:Sp1 M H M' H'){a:Addr}{xs:List V}(h:SqT K H a xs):SqT K H' a xs:=W5 h fun b o e n1 n2=>g.keep b o e fun z=>by
 rcases g.mo b z with⟨ys,q⟩|⟨ys,q⟩
 ·exact n1 ys (Option.some.inj (e.symm.trans q))
 ·exact n2 ys (Option.some.inj (e.symm.trans q))
theorem Sp1.nm(g:Sp1 M H M' H'){a:Addr}{o:HO}(e:H a=Option.some o)(n:¬M.mem a):¬M'.mem a:=fun z=>by
 rcases g.fresh _ z with z|z
 ·exact n z
 ·rw[z]at e;cases e
mutual
theorem ER.step(g:Sp1 M H M' H'):∀{v:V} {d:D},ER K M H v d->ER K M' H' v d
  |_,_,.non=>.non
  |_,_,.bl b=>.bl b
  |_,_,.int b=>.int b
  |_,_,.str b=>.str b
  |_,_,.ty b=>.ty b
  |_,_,.tup h r=>.tup (g.sqT h) (Au.step g r)
  |_,_,.lst (a:=a) (xs:=xs) h n r=>.lst (g.keep _ _ h n) (g.nm h n) (Au.step g r)
  | _, _, .scr (a := a) (ns := ns) h => by
    rcases h with⟨h,n⟩|h
    · rcases h with h | ⟨o, h⟩
      ·exact .scr (.inl ⟨.inl (g.keep _ _ h n),g.nm h n⟩)
      ·exact .scr (.inl ⟨.inr ⟨o,g.keep _ _ h n⟩,g.nm h n⟩)
    ·exact .scr (.inr h)
  |_,_,.dct (a:=a) h n r=>.dct (g.keep _ _ h n) (g.nm h n) (M8.step g r)
  |_,_,.ref h=>.ref (Oj g.pre h)
theorem Au.step(g:Sp1 M H M' H'):∀{v:List V} {d:List D},Au K M H v d->Au K M' H' v d
 |_,_,.nil=>.nil
 |_,_,.cons h t=>.cons (ER.step g h) (Au.step g t)
theorem M8.step(g:Sp1 M H M' H'):∀{v:List (Key×V)} {d:List (Key×D)},M8 K M H v d->M8 K M' H' v d
 |_,_,.nil=>.nil
 |_,_,.cons h t=>.cons (ER.step g h) (M8.step g t)
end
theorem Au.length:∀{v:List V} {d:List D},Au K M H v d->v.length=d.length
 |_,_,.nil=>rfl
 |_,_,.cons _ t=>by simp[Au.length t]
theorem Au.get:∀{v:List V} {d:List D} {i:Nat} {y:D},Au K M H v d->d[i]?=Option.some y->∃x,v[i]?=Option.some x/\ER K M H x y
  |_,_,i,y,.nil,e=>by simp at e
  |_,_,0,y,.cons h t,e=>by simp at e;subst e;exact⟨_,rfl,h⟩
  | _, _, i + 1, y, .cons h t, e => by
    obtain⟨x,h1,h2⟩:=Au.get (i:=i) t (by simpa using e)
    exact⟨x,by simpa using h1,h2⟩
theorem Au.append:∀{v v':List V} {d d':List D},Au K M H v d->Au K M H v' d'->Au K M H (v++v') (d++d')
 |_,_,_,_,.nil,s=>s
 |_,_,_,_,.cons h t,s=>.cons h (Au.append t s)
theorem Au.take:∀{v:List V} {d:List D} (n:Nat),Au K M H v d->Au K M H (v.take n) (d.take n)
 |_,_,0,_=>.nil
 |_,_,_+1,.nil=>.nil
 |_,_,n+1,.cons h t=>.cons h (Au.take n t)
theorem Au.drop:∀{v:List V} {d:List D} (n:Nat),Au K M H v d->Au K M H (v.drop n) (d.drop n)
 |_,_,0,r=>r
 |_,_,_+1,.nil=>.nil
 |_,_,n+1,.cons _ t=>Au.drop n t
theorem Au.set{x:V}{y:D}(r:ER K M H x y):∀{v:List V} {d:List D} (i:Nat),Au K M H v d->Au K M H (v.set i x) (d.set i y)
 |_,_,_,.nil=>.nil
 |_,_,0,.cons _ t=>.cons r t
 |_,_,i+1,.cons q t=>.cons q (Au.set r i t)
end
abbrev En:=List (Option D)
abbrev Sg:=List (Option V)
structure EnR(K:PySem.W.Frag)(M:Ms)(E:En)(σ:Sg)(H:Hp):Prop where
 len:E.length=σ.length
 val:∀(i:Nat) (d:D),E[i]?=some (some d)->∃v,σ[i]?=some (some v)/\ER K M H v d
def d9(K:PySem.W.Frag)(M:Ms)(H:Hp)(a:Addr):Cl->Prop
 | .lst ds=>∃xs,H a=some (.lst xs)/\Au K M H xs ds
 | .dct es=>∃kvs,H a=some (.dK kvs)/\M8 K M H kvs es
structure StR(K:PySem.W.Frag)(M:Ms)(S:Sto)(H:Hp):Prop where
 mo:MOk M H
 nd:M.cel.Nodup
 nt:∀a∈M.tmp,a∉M.cel
 len:M.cel.length=S.length
 cell:∀(n:Nat) (a:Addr) (c:Cl),M.cel[n]?=some a->S[n]?=some c->d9 K M H a c
section
variable{K:PySem.W.Frag}{M M' M2:Ms}{H H' H2:Hp}{E:En}{σ:Sg}{S:Sto}
theorem EnR.step(r:EnR K M E σ H)(g:Sp1 M H M' H'):EnR K M' E σ H':=⟨r.len,fun i d e=>by
 obtain⟨v,h1,h2⟩:=r.val i d e
 exact⟨v,h1,h2.step g⟩⟩
theorem StR.grow(r:StR K M S H)(k:∀a o,H a=some o->H' a=some o):StR K M S H':=by
 have g:Sp1 M H M H':=⟨r.mo,List.prefix_rfl,fun _ z=>.inl z,fun a o e _=>k a o e⟩
 refine⟨fun a z=>(r.mo a z).imp (fun⟨xs,e⟩=>⟨xs,k _ _ e⟩) fun⟨xs,e⟩=>⟨xs,k _ _ e⟩,r.nd,r.nt,r.len,fun n a c h1 h2=>?_⟩
 have q:=r.cell n a c h1 h2
 cases c with
 |lst ds=>obtain⟨xs,e,rr⟩:=q;exact⟨xs,k _ _ e,rr.step g⟩
 |dct ds=>obtain⟨xs,e,rr⟩:=q;exact⟨xs,k _ _ e,rr.step g⟩
theorem StR.chg(r:StR K M S H){n:Nat}{a:Addr}{ds es:List D}{ys:List V}(h1:M.cel[n]?=some a)(h2:S[n]?=some (.lst ds))(hy:Au K M H ys es):StR K M (S.set n (.lst es)) (upd H a (.lst ys))/\Gr M H M (upd H a (.lst ys)):=by
 have ha:a∈M.cel:=List.mem_of_getElem? h1
 have hl:n<S.length:=(List.getElem?_eq_some_iff.mp h2).1
 have g:Gr M H M (upd H a (.lst ys)):=⟨r.mo,List.prefix_rfl,rfl,fun _ z=>.inl z,fun b o eb nb=>by rw[Aw (fun z=>nb (by rw[z];exact ha))];exact eb,fun b eb=>by
  by_cases h:b=a
  ·subst h;rw[B5];intro z;cases z
  ·rw[Aw h];exact eb⟩
 refine⟨⟨fun b z=>?_,r.nd,r.nt,by rw[List.length_set];exact r.len,fun m b c e1 e2=>?_⟩,g⟩
 ·by_cases h:b=a
  ·subst h;exact .inl ⟨ys,B5⟩
  ·rw[Aw h];exact r.mo b z
 ·by_cases h:n=m
  ·subst h
   rw[h1]at e1;cases e1
   rw[List.getElem?_set_self hl]at e2;cases e2
   exact⟨ys,B5,hy.step g.st⟩
  ·rw[List.getElem?_set_ne h]at e2
   have hb:b≠a:=fun z=>by
    subst z
    exact h ((List.getElem?_inj (List.getElem?_eq_some_iff.mp h1).1 r.nd).mp (h1.trans e1.symm))
   have q:=r.cell m b c e1 e2
   cases c with
   |lst fs=>obtain⟨xs,e,rr⟩:=q;exact⟨xs,by rw[Aw hb];exact e,rr.step g.st⟩
   |dct fs=>obtain⟨xs,e,rr⟩:=q;exact⟨xs,by rw[Aw hb];exact e,rr.step g.st⟩
theorem StR.cel_new(r:StR K M S H){a:Addr}{xs:List V}{ds:List D}(e:H a=none)(k:∀b o,H b=some o->H' b=some o)(ea:H' a=some (.lst xs))(rr:Au K M H xs ds):StR K ⟨M.cel++[a],M.tmp⟩ (S++[.lst ds]) H'/\Gr M H ⟨M.cel++[a],M.tmp⟩ H':=by
  have g:Gr M H ⟨M.cel++[a],M.tmp⟩ H':=⟨r.mo,List.prefix_append _ _,rfl,fun b z=>by
    rcases List.mem_append.mp z with z|z
    ·exact .inl z
    ·simp at z;subst z;exact .inr e,fun b o eb _=>k b o eb,fun b eb z=>by
    cases h:H b with
    |none=>exact eb h
    |some o=>rw[k b o h]at z;cases z⟩
  have na:¬M.mem a:=fun z=>r.mo.some z e
  refine⟨⟨fun b z=>?_,?_,fun b hb z=>?_,by simp[r.len],fun m b c e1 e2=>?_⟩,g⟩
  · have z' : M.mem b ∨ b = a := by
      rcases z with z|z
      · rcases List.mem_append.mp z with z | z
        ·exact .inl (.inl z)
        ·simp at z;exact .inr z
      ·exact .inl (.inr z)
    rcases z' with z|z
    ·exact(r.mo b z).imp (fun⟨xs,e⟩=>⟨xs,k _ _ e⟩) fun⟨xs,e⟩=>⟨xs,k _ _ e⟩
    ·subst z;exact .inl ⟨xs,ea⟩
  · rw [List.nodup_append]
    refine⟨r.nd,by simp,fun x hx y hy=>?_⟩
    simp at hy;subst hy
    exact fun z=>na (.inl (by rw[←z];exact hx))
  · rcases List.mem_append.mp z with z | z
    ·exact r.nt b hb z
    ·simp at z;subst z;exact na (.inr hb)
  · by_cases h : m < S.length
    · rw [List.getElem?_append_left (by rw [r.len]; exact h)] at e1
      rw[List.getElem?_append_left h]at e2
      have q:=r.cell m b c e1 e2
      cases c with
      |lst fs=>obtain⟨xs,e,rr⟩:=q;exact⟨xs,k _ _ e,rr.step g.st⟩
      |dct fs=>obtain⟨xs,e,rr⟩:=q;exact⟨xs,k _ _ e,rr.step g.st⟩
    · have hm : m = S.length := by
        have:=(List.getElem?_eq_some_iff.mp e2).1
        simp at this;omega
      subst hm
      rw[List.getElem?_append_right (by rw[r.len];exact Nat.le_refl _)]at e1
      rw[List.getElem?_append_right (Nat.le_refl _)]at e2
      rw[r.len]at e1
      simp at e1 e2
      subst e1 e2
      exact⟨xs,ea,rr.step g.st⟩
end
abbrev Ev:=En->Sto->Option (D×Sto)
noncomputable def tD(K:PySem.W.Frag)(f:Ev):TE:=fun σ H Q=>∃M E S d S',f E S=some (d,S')/\EnR K M E σ H/\StR K M S H/\∀v H' M',Gr M H M' H'->StR K M' S' H'->ER K M' H' v d->Q v H'
structure DE(X:Cx)(e:Expr)(f:Ev):Prop where
 pe:PE X e (tD X.K f)
theorem CY{X:Cx}{e:Expr}{t t':TE}(h:PE X e t)(m:∀σ H Q,t' σ H Q->t σ H Q):PE X e t':=fun pins s σ H Q I q=>h pins s σ H Q I (m _ _ _ q)
theorem TC{X:Cx}{e:Expr}{t t':TT}(h:PT X e t)(m:∀σ H Q,t' σ H Q->t σ H Q):PT X e t':=fun pins s σ H Q I q=>h pins s σ H Q I (m _ _ _ q)
theorem Ja{K:PySem.W.Frag}{f:Ev}{σ:Sg}{H:Hp}{Q Q':VK}(h:tD K f σ H Q)(m:∀v H',Q v H'->Q' v H'):tD K f σ H Q':=by
 obtain⟨M,E,S,d,S',e,r,st,q⟩:=h
 exact⟨M,E,S,d,S',e,r,st,fun v H' M' g s r=>m _ _ (q v H' M' g s r)⟩
theorem BP{α β:Type}{o:Option α}{k:α->Option β}{y:β}(e:o.bind k=some y):∃x,o=some x/\k x=some y:=by
 cases o with
 |none=>cases e
 |some x=>exact⟨x,rfl,e⟩
theorem NG{α β:Type}{o:Option α}{k:α->β}{y:β}(e:o.map k=some y):∃x,o=some x/\k x=y:=by
 cases o with
 |none=>cases e
 |some x=>cases e;exact⟨x,rfl,rfl⟩
noncomputable def fz:Wv->D
 | .val d=>d
 | .own ds=>.lst ds
noncomputable def at?(E:En)(i:Nat):Option D:=(E[i]?).join
theorem at?_some{E:En}{i:Nat}{w:D}(h:at? E i=some w):E[i]?=some (some w):=by
 unfold at? at h
 cases e:E[i]? with
 |none=>rw[e]at h;cases h
 |some q=>rw[e]at h;exact congrArg some h
noncomputable def evs:List Ev->En->Sto->Option (List D×Sto)
 | [],_,S=>some ([],S)
 |f::fs,E,S=>(f E S).bind fun r=>(evs fs E r.2).map fun q=>(r.1::q.1,q.2)
noncomputable def tDs(K:PySem.W.Frag):List Ev->TA
 | []=>gZ
 |f::fs=>aU (tD K f) (tDs K fs)
structure DEs(X:Cx)(es:List Expr)(fs:List Ev):Prop where
 pe:PA X es (tDs X.K fs)
theorem AD{X:Cx}:DEs X [] []:=⟨Uj⟩
theorem AA{X:Cx}{e:Expr}{es:List Expr}{f:Ev}{fs:List Ev}(h:DE X e f)(t:DEs X es fs)(hs:starEach (e::es) X.env=(false,eval e X.env)::starEach es X.env:=by rfl):DEs X (e::es) (f::fs):=⟨Og h.pe t.pe hs⟩
section
variable{K:PySem.W.Frag}{M M':Ms}{E:En}{S:Sto}{σ:Sg}{H H':Hp}
theorem JG:∀{fs:List Ev} {M:Ms} {S:Sto} {ds:List D} {S':Sto} {H:Hp} {Q:List V->Hp->Prop},evs fs E S=some (ds,S')->EnR K M E σ H->StR K M S H->(∀vs H' M',Gr M H M' H'->StR K M' S' H'->Au K M' H' vs ds->Q vs H')->tDs K fs σ H Q
  | [],M,S,ds,S',H,Q,e,r,st,q=>by
    cases e
    exact q [] H M (.refl st.mo) st .nil
  | f :: fs, M, S, ds, S', H, Q, e, r, st, q => by
    obtain⟨⟨d,S1⟩,e1,e⟩:=BP e
    obtain⟨⟨es,S2⟩,e2,e⟩:=NG e
    cases e
    refine⟨M,E,S,d,S1,e1,r,st,fun v H1 M1 g1 st1 d1=>?_⟩
    exact JG e2 (r.step g1.st) st1 fun vs H2 M2 g2 st2 d2=>q _ _ M2 (g1.trans g2) st2 (.cons (d1.step g2.st) d2)
theorem QV:∀{fs:List Ev} {S:Sto} {ds:List D} {S':Sto},evs fs E S=some (ds,S')->ds.length=fs.length
  | [],_,_,_,e=>by cases e;rfl
  | f :: fs, S, ds, S', e => by
    obtain⟨⟨d,S1⟩,e1,e⟩:=BP e
    obtain⟨⟨es,S2⟩,e2,e⟩:=NG e
    cases e
    simp[QV e2]
def Sh(K:PySem.W.Frag)(M:Ms)(H:Hp)(v:V):Wv->Prop
 | .val d=>ER K M H v d
 | .own ds=>∃a xs,v=.ref a/\H a=some (.lst xs)/\Au K M H xs ds
inductive Shs(K:PySem.W.Frag)(M:Ms)(H:Hp):List V->List Wv->Prop
 |nil:Shs K M H [] []
 |cons {v:V} {w:Wv} {vs:List V} {ws:List Wv} (h:Sh K M H v w) (t:Shs K M H vs ws):Shs K M H (v::vs) (w::ws)
noncomputable def dr(S:Sto):D->Wv
  | .ref n=>match S[n]? with
    |some (.lst ds)=>.own ds
    |_=>.val (.ref n)
  |d=>.val d
theorem YZ(st:StR K M S H){v:V}{d:D}(h:ER K M H v d):Sh K M H v (dr S d):=by
  cases h with
  | ref h =>
    rename_i a n
    show Sh K M H (.ref a) (match S[n]? with|some (.lst ds)=>.own ds|_=>.val (.ref n))
    split
    · rename_i ds e
      obtain⟨xs,h1,h2⟩:=st.cell n a _ h e
      exact⟨a,xs,rfl,h1,h2⟩
    ·exact .ref h
  |non=>exact .non
  |bl b=>exact .bl b
  |int b=>exact .int b
  |str b=>exact .str b
  |ty b=>exact .ty b
  |tup h r=>exact .tup h r
  |lst h n r=>exact .lst h n r
  |scr h=>exact .scr h
  |dct h n r=>exact .dct h n r
theorem YJ(st:StR K M S H):∀{vs:List V} {ds:List D},Au K M H vs ds->Shs K M H vs (ds.map (dr S))
 |_,_,.nil=>.nil
 |_,_,.cons h t=>.cons (YZ st h) (YJ st t)
def NwR(K:PySem.W.Frag)(M:Ms)(H H':Hp)(v:V):Wv->Prop
 | .val d=>ER K M H' v d
 | .own ds=>∃a xs,v=.ref a/\H a=none/\H' a=some (.lst xs)/\Au K M H xs ds
structure Nw(K:PySem.W.Frag)(M:Ms)(H H':Hp)(v:V)(w:Wv):Prop where
 grow:∀a o,H a=some o->H' a=some o
 rel:NwR K M H H' v w
theorem Nw.same{v:V}{d:D}(mo:MOk M H)(h:ER K M H v d):Nw K M H H v (.val d):=⟨fun _ _ e=>e,h⟩
theorem HF{a:Addr}{o:HO}(e:H a=none):∀b u,H b=some u->upd H a o b=some u:=fun b u eb=>by rw[Aw (fun z=>by subst z;rw[e]at eb;cases eb)];exact eb
theorem Nw.lst{a:Addr}{xs:List V}{ds:List D}(mo:MOk M H)(e:H a=none)(h:Au K M H xs ds):Nw K M H (upd H a (.lst xs)) (.ref a) (.own ds):=⟨HF e,a,xs,rfl,e,B5,h⟩
theorem Nw.tup{a:Addr}{xs:List V}{ds:List D}(mo:MOk M H)(e:H a=none)(h:Au K M H xs ds):Nw K M H (upd H a (.tup xs)) (.ref a) (.val (.tup ds)):=⟨HF e,.tup (.of B5) (h.step (Gr.grow mo (HF e)).st)⟩
noncomputable def fin:Bool->Wv->Sto->Option (D×Sto)
 |_,.val d,S=>some (d,S)
 |false,.own ds,S=>some (.lst ds,S)
 |true,.own ds,S=>some (.ref S.length,S++[.lst ds])
theorem Nw.fin{c:Bool}{v:V}{w:Wv}{d:D}{S':Sto}(n:Nw K M H H' v w)(st:StR K M S H)(e:fin c w S=some (d,S')):∃M',Gr M H M' H'/\StR K M' S' H'/\ER K M' H' v d:=by
  cases w with
  | val d' =>
    cases e
    exact⟨M,.grow st.mo n.grow,st.grow n.grow,n.rel⟩
  | own ds =>
    obtain⟨a,xs,rfl,h1,h2,h3⟩:=n.rel
    cases c with
    | false =>
      cases e
      exact⟨M,.grow st.mo n.grow,st.grow n.grow,.lst h2 (fun z=>st.mo.some z h1) (h3.step (Gr.grow st.mo n.grow).st)⟩
    | true =>
      cases e
      obtain⟨s1,g1⟩:=st.cel_new h1 n.grow h2 h3
      refine⟨_,g1,s1,.ref ?_⟩
      rw[←st.len]
      exact List.getElem?_concat_length
abbrev Op1:=Wv->Option Wv
abbrev Op2:=Wv->Wv->Option Wv
abbrev OpN:=List Wv->Option Wv
noncomputable def rOp(K:PySem.W.Frag)(op:Op2):R2:=fun x y H Q=>∃M w1 w2 r,op w1 w2=some r/\MOk M H/\Sh K M H x w1/\Sh K M H y w2/\∀v H',Nw K M H H' v r->Q v H'
def rUn(K:PySem.W.Frag)(op:Op1):V->Hp->VK->Prop:=fun x H Q=>∃M w r,op w=some r/\MOk M H/\Sh K M H x w/\∀v H',Nw K M H H' v r->Q v H'
def rN(K:PySem.W.Frag)(op:OpN):List V->Hp->VK->Prop:=fun xs H Q=>∃M ws r,op ws=some r/\MOk M H/\Shs K M H xs ws/\∀v H',Nw K M H H' v r->Q v H'
noncomputable def Ql(c:Bool)(op:OpN)(fs:List Ev):Ev:=fun E S=>(evs fs E S).bind fun r=>(op (r.1.map (dr r.2))).bind fun w=>fin c w r.2
abbrev eOp:=Ql false
abbrev Zp:=Ql true
noncomputable def o1(op:Op1):OpN| [a]=>op a|_=>none
noncomputable def o2(op:Op2):OpN| [a,b]=>op a b|_=>none
theorem Nm{c:Bool}{op:OpN}{fs:List Ev}{Q:VK}{d:D}{S':Sto}(e:Ql c op fs E S=some (d,S'))(r:EnR K M E σ H)(st:StR K M S H)(h:∀v H' M',Gr M H M' H'->StR K M' S' H'->ER K M' H' v d->Q v H'):tDs K fs σ H fun vs H1=>rN K op vs H1 Q:=by
 obtain⟨⟨ds,S1⟩,e1,e⟩:=BP e
 obtain⟨w,e2,e⟩:=BP e
 refine JG e1 r st fun vs H1 M1 g1 st1 d1=>⟨M1,_,w,e2,st1.mo,YJ st1 d1,fun v H2 n=>?_⟩
 obtain⟨M2,g2,st2,d2⟩:=n.fin st1 e
 exact h v H2 M2 (g1.trans g2) st2 d2
end
theorem aH{K:PySem.W.Frag}{f:Op2}{x y:V}{H:Hp}{Q:VK}(h:rN K (o2 f) [x,y] H Q):rOp K f x y H Q:=by
  obtain⟨M,ws,r,e,mo,s,q⟩:=h
  cases s with
  | cons h1 s =>
    cases s with
    | cons h2 s =>
      cases s
      exact⟨M,_,_,r,e,mo,h1,h2,q⟩
theorem aO{K:PySem.W.Frag}{f:Op1}{x:V}{H:Hp}{Q:VK}(h:rN K (o1 f) [x] H Q):rUn K f x H Q:=by
  obtain⟨M,ws,r,e,mo,s,q⟩:=h
  cases s with
  | cons h1 s =>
    cases s
    exact⟨M,_,r,e,mo,h1,q⟩
theorem Rh{K:PySem.W.Frag}{c:Bool}{f:Op2}{fa fb:Ev}{σ:Sg}{H:Hp}{Q:VK}(h:tD K (Ql c (o2 f) [fa,fb]) σ H Q):tOp (rOp K f) (tD K fa) (tD K fb) σ H Q:=by
 obtain⟨M,E,S,d,S',e,r,st,q⟩:=h
 have z:tD K fa σ H fun x H1=>tD K fb σ H1 fun y H2=>rN K (o2 f) [x,y] H2 Q:=Nm (Q:=Q) e r st q
 exact Ja z fun x H1 z1=>Ja z1 fun y H2 z2=>aH z2
theorem Z5{K:PySem.W.Frag}{c:Bool}{f:Op1}{fa:Ev}{σ:Sg}{H:Hp}{Q:VK}(h:tD K (Ql c (o1 f) [fa]) σ H Q):tUn (rUn K f) (tD K fa) σ H Q:=by
 obtain⟨M,E,S,d,S',e,r,st,q⟩:=h
 have z:tD K fa σ H fun x H1=>rN K (o1 f) [x] H1 Q:=Nm (Q:=Q) e r st q
 exact Ja z fun x H1 z1=>aO z1
section
variable{X:Cx}{a b e:Expr}{es:List Expr}{fa fb:Ev}{fs:List Ev}{pos p:Pos}{c:Bool}
theorem AZ{op:Operator}{f:Op2}(ho:OpR X (binaryOp op) (rOp X.K f))(ha:DE X a fa)(hb:DE X b fb):DE X (.BinOp a op b pos) (Ql c (o2 f) [fa,fb]):=⟨CY (fP ho ha.pe hb.pe) fun _ _ _ h=>Rh h⟩
theorem HV{op:CmpOp}{f:Op2}(ho:OpR X (compareOp op) (rOp X.K f))(ha:DE X a fa)(hb:DE X b fb)(hm:behindInMarks op b=false:=by rfl):DE X (.Compare a [op] [b] pos) (Ql c (o2 f) [fa,fb]):=⟨CY (Yl ho ha.pe hb.pe hm) fun _ _ _ h=>Rh h⟩
theorem UB{op:UnaryOp}{f:Op1}(ho:UnR X (unaryOp op) (rUn X.K f))(ha:DE X a fa):DE X (.UnaryOp op a pos) (Ql c (o1 f) [fa]):=⟨CY (fQ ho ha.pe) fun _ _ _ h=>Z5 h⟩
theorem AK{f:Op2}(hr:IxR X (rOp X.K f))(ha:DE X a fa)(hb:DE X b fb)(hs:Tx b:=by exact fun _ _=>rfl):DE X (.Subscript a b pos) (Ql c (o2 f) [fa,fb]):=⟨CY (eN hr ha.pe hb.pe hs) fun _ _ _ h=>Rh h⟩
theorem Ax{id:String}{x:Str}{f:OpN}(hc:FN X (.builtin id) (rN X.K f))(hg:Gl X x)(hm:X.mg x=none)(hv:bootBuiltins x=some (.builtin id))(ha:DEs X (e::es) fs)(hn:x≠ "__name__":=by decide)(hdb:(x==("__debug__":Str))=false:=by decide)
  (he:starEach (e::es) X.env=(false,eval e X.env)::starEach es X.env:=by rfl) (hpl:(backTo pos (starEach es X.env)).any (·.1)=false:=by rfl):DE X (.Call (.Name x p) (e::es) [] pos) (Ql c f fs):=⟨
 CY (V2 hc hg hm hv ha.pe hn hdb he hpl) fun _ _ _ h=>by
  obtain⟨M,E,S,d,S',e,r,st,q⟩:=h
  exact Nm e r st q⟩
theorem A6{T:String}{x:Str}{f:OpN}(hc:FN X (.type T) (rN X.K f))(hg:Gl X x)(hm:X.mg x=none)(hv:bootBuiltins x=some (.type T))(ha:DEs X (e::es) fs)(hn:x≠ "__name__":=by decide)(hdb:(x==("__debug__":Str))=false:=by decide)
  (he:starEach (e::es) X.env=(false,eval e X.env)::starEach es X.env:=by rfl) (hpl:(backTo pos (starEach es X.env)).any (·.1)=false:=by rfl):DE X (.Call (.Name x p) (e::es) [] pos) (Ql c f fs):=⟨
 CY (UI hc hg hm hv ha.pe hn hdb he hpl) fun _ _ _ h=>by
  obtain⟨M,E,S,d,S',e,r,st,q⟩:=h
  exact Nm e r st q⟩
noncomputable def eC(d:D):Ev:=fun _ S=>some (d,S)
theorem QM{v:V}{d:D}(h:PE X e (tC v))(r:∀K M H,ER K M H v d):DE X e (eC d):=⟨CY h fun σ H Q z=>by
 obtain⟨M,E,S,w,S',e,rr,st,q⟩:=z
 cases e
 exact q _ _ M (.refl st.mo) st (r _ _ _)⟩
theorem AE{i:Int}{j:Nat}:DE X (.Constant (.int i) j pos) (eC (.int i)):=QM aN fun _ _ _=>.int _
theorem LJ{i:Bool}{j:Nat}:DE X (.Constant (.bool i) j pos) (eC (.bl i)):=QM fc fun _ _ _=>.bl _
theorem BY{i:Str}{j:Nat}:DE X (.Constant (.str i) j pos) (eC (.str i)):=QM aG fun _ _ _=>.str _
theorem YA{j:Nat}:DE X (.Constant .none j pos) (eC .non):=QM cH fun _ _ _=>.non
noncomputable def eV(i:Nat):Ev:=fun E S=>(at? E i).map fun d=>(d,S)
theorem AB(i:Nat){x:Str}(hN:X.N[i]?=some x:=by rfl)(hv:Vis X.env.scope x:=by first|exact Or.inl rfl|exact Or.inr (Or.inl rfl)|exact Or.inr (Or.inr rfl))(hd:(x==("__debug__":Str))=false:=by decide)
  (hcd:(x==("__classdict__":Str))=false:=by decide):DE X (.Name x pos) (eV i):=⟨CY (Zv hN hv hd hcd) fun σ H Q z=>by
 obtain⟨M,E,S,d,S',e,r,st,q⟩:=z
 obtain⟨d',e1,e⟩:=NG e
 cases e
 obtain⟨v,hv,rd⟩:=r.val i d (at?_some e1)
 exact⟨v,hv,q v H M (.refl st.mo) st rd⟩⟩
end
theorem Hf:fillsNumberSlot (.type "tuple") "mul"=pure false:=
 fillsNumberSlot_seq (id:="tuple.__mul__") (r:=some (.builtin "tuple.__rmul__")) F.slot_tuple_mul.lookup (by decide+kernel) F.slot_tuple_rmul.lookup (by decide+kernel)
theorem K6:seqRepeat? (.type "tuple")=pure (some (.builtin "tuple.__mul__")):=by
 unfold seqRepeat?
 rw[seqSlot_of (T:="tuple") (name:="__mul__") (id:="tuple.__mul__") F.slot_tuple_mul.lookup (by decide+kernel),seqSlot_of (T:="tuple") (name:="__rmul__") (id:="tuple.__rmul__") F.slot_tuple_rmul.lookup (by decide+kernel)]
 rfl
theorem JD(a:Int)(t:Tok)(l:Addr)(items:Array Value)(n:Nat)(dd:Option Addr)(sl:Array (Option Value)):
  Meets (Builtin.«int.__rmul__» ⟨[.int a t,.ref l],[]⟩) (fun _ R s=>s.heap.get? l=some {cls:=.type "tuple",dict:=dd,data:=.seq items n,slots:=sl}/\R (.ok (.ret Value.notImplemented)) s):=
 .of_wp fun prog w A R s h=>by obtain⟨hp,g,d,tk,os⟩:=s;obtain⟨hl,h⟩:=h;wp_walk;exact⟨_,rfl,h⟩
theorem PU(its:List Value)(m:Nat):List.foldl (fun x1 x2=>x1++x2) #[] (List.replicate m its.toArray)=(List.replicate m its).flatten.toArray:=by
 have:=foldl_rep its m []
 rw[List.nil_append]at this
 exact this
theorem YR{X:Cx}:OpR X (binaryOp .Mult) (fun x y H Q=>∃a xs k,x=.ref a/\y=.int k/\SqT X.K H a xs/\xs≠[]/\1≤k/\xs.length*k.toNat≤sizeLine/\(k=1->Q (.ref a) H)/\(k≠1->∀p,H p=none->Q (.ref p) (upd H p (.tup (List.replicate k.toNat xs).flatten)))):=by
  intro pins s σ H x y v u Q I rx ry h
  obtain⟨a,xs,k,rfl,rfl,hx,hne,hk,hz,q1,q2⟩:=h
  cases rx
  obtain⟨t,rfl⟩:=ry
  obtain⟨its,r,⟨⟨c,dd,data,sl⟩,ho,hc,n,hd⟩,hzz⟩:=I.tuple hx
  simp only at hc hd
  subst hc hd
  have hl:=r.length
  have hsz:its.toArray.size=xs.length:=by rw[List.size_toArray];exact hl.symm
  have hpos:0<xs.length:=List.length_pos_iff.mpr hne
  have hkl:k.toNat≤sizeLine:=Nat.le_trans (Nat.le_mul_of_pos_left _ hpos) hz
  have hk63:k<2^63:=by
    have:(sizeLine:Nat)<2^63:=by decide
    omega
  refine wpAny_binaryOp_repeat_ref (T:="tuple") (U:="int") (by decide) ⟨_,ho,rfl⟩ (fun s'=>typeIs_int s' k t) Hf F.fills_int_mul F.slot_int_rmul K6 F.slot_int_index.lookup
    (call_meets F.slot_int_rmul (typeIs_int s k t) F.entry_int_rmul (F.args_int_rmul_2 _ _) (JD k t a its.toArray n dd sl) ⟨ho,rfl,⟨_,ho,rfl⟩,?_⟩)
  refine wpAny_call_entry F.slot_tuple_mul ⟨_,ho,rfl⟩ F.entry_tuple_mul ?_ (F.args_tuple_mul_2 _ _)
  unfold Builtin.«tuple.__mul__»
  wp_walk using AutoSeq1.wpAny_loadPart' ho
  rw [if_neg (show ¬ (decide (k < -2 ^ 63) || decide (k ≥ 2 ^ 63)) = true by
    rw[Bool.or_eq_true]
    rintro (z|z)
    ·have:=of_decide_eq_true z;omega
    ·have:=of_decide_eq_true z;omega)]
  wp_walk using AutoSeq1.wpAny_loadPart' ho
  by_cases h1:k=1
  · subst h1
    rw[if_pos (show(its.toArray.isEmpty||(1:Int)==1)=true by simp)]
    wp_walk using AutoSeq1.wpAny_loadPart' ho
    exact⟨_,rfl,.ref a,H,I,rfl,q1 rfl⟩
  · have hemp : its.toArray.isEmpty = false := by
      cases its with
      |nil=>rw[List.length_nil]at hl;omega
      |cons b bs=>rfl
    rw[if_neg (show¬(its.toArray.isEmpty||k==1)=true by rw[hemp];simpa using h1)]
    wp_walk using AutoSeq1.wpAny_loadPart' ho
    have hmul:((its.toArray.size:Int)*k)=((xs.length*k.toNat:Nat):Int):=by
      rw[hsz,Int.natCast_mul]
      congr 1
      omega
    rw [if_neg (show ¬ (decide (k ≤ 0) || its.toArray.isEmpty) = true by
      rw[hemp,Bool.or_false]
      intro z
      have:=of_decide_eq_true z
      omega)]
    wp_walk
    rw [if_neg (show ¬ ((its.toArray.size : Int) * k > (2 ^ 63 - 1) / 8) by
      rw[hmul]
      have:(sizeLine:Nat)≤(2^63-1) / 8:=by decide
      omega)]
    wp_walk
    rw [if_neg (show ¬ Builtin.Tuple.tupleTooMany ((its.toArray.size : Int) * k) = true by
      unfold Builtin.Tuple.tupleTooMany
      rw[hmul]
      intro z
      have:=of_decide_eq_true z
      omega)]
    rw[PU]
    wp_walk
    have hlen:(List.replicate k.toNat its).flatten.length≤sizeLine:=by rw[len_rep,Nat.mul_comm,←hl];exact hz
    rw[if_neg (show¬((List.replicate k.toNat its).flatten.toArray.size>sizeLine) by rw[List.size_toArray];omega)]
    wp_walk
    refine⟨_,rfl,.ref _,_,I.laid (o:=.tup (List.replicate k.toNat xs).flatten) (t':=s.toks) (fun b ob q=>Heap.get?_push_of_some _ q) (Nat.le_refl _) ?_,rfl,q2 h1 _ (I.hok.fresh (Nat.le_refl _))⟩
    exact⟨by rw[len_rep,Nat.mul_comm];exact hz,_,r.rep k.toNat,PyProof.Rows.IsTup.new _ _⟩
mutual
noncomputable def D.py:D->PyData
 | .non=>.none| .bl b=>.bool b| .int i=>.int i| .str x=>.str x| .ty _=>.none
 | .tup ds=>.tuple (D.pys ds)| .lst ds=>.list (D.pys ds)| .dct _=>.none| .scr _=>.none| .ref _=>.none
noncomputable def D.pys:List D->List PyData
 | []=>[]
 |d::ds=>D.py d::D.pys ds
end
mutual
noncomputable def D.lay:D->Bool
 | .non=>true| .bl _=>true| .int _=>true| .str x=>PySem.PyData.strOk x| .ty _=>false| .dct _=>false| .scr _=>false| .ref _=>false
 | .tup ds=>D.lays ds| .lst ds=>D.lays ds
noncomputable def D.lays:List D->Bool
 | []=>true
 |d::ds=>D.lay d && D.lays ds
end
mutual
theorem KI:∀{d:D},d.lay=true->d.py.canLay0=true
 | .non,_=>rfl
 | .bl _,_=>rfl
 | .int _,_=>rfl
 | .str x,h=>h
 | .ty _,h=>Bool.noConfusion h
 | .dct _,h=>Bool.noConfusion h
 | .scr _,h=>Bool.noConfusion h
 | .ref _,h=>Bool.noConfusion h
 | .tup ds,h=>by show PyData.canLayAll0 (D.pys ds)=true;exact OR h
 | .lst ds,h=>by show PyData.canLayAll0 (D.pys ds)=true;exact OR h
theorem OR:∀{ds:List D},D.lays ds=true->PyData.canLayAll0 (D.pys ds)=true
  | [],_=>rfl
  | d :: ds, h => by
    have h':(D.lay d && D.lays ds)=true:=h
    rw[Bool.and_eq_true]at h'
    show(PyData.canLay0 d.py && PyData.canLayAll0 (D.pys ds))=true
    rw[KI h'.1,OR h'.2];rfl
end
section
variable{X:Cx}{pins:List (Addr×Obj)}{σ:Sg}{H:Hp}{s:Shared}{M:Ms}
theorem Lo(I:Inv X pins σ H s){a:Addr}{xs:List V}(h:Rd H a (.lst xs)):∃its:List Value,Vals xs its/\∃o n,s.heap.get? a=some o/\o.cls=.type "list" /\o.data=.seq its.toArray n:=by
 obtain⟨z,its,n,r,e⟩:=h.ok I.hok
 exact⟨its,r,_,n,e,rfl,rfl⟩
mutual
theorem ER.reads(I:Inv X pins σ H s):∀{v:V} {d:D} {u:Value},ER X.K M H v d->RelV v u->d.lay=true->∃as,Reads s.heap u d.py as
  |_,_,_,.non,r,_=>by cases r;exact⟨_,.none⟩
  |_,_,_,.bl b,r,_=>by cases r;exact⟨_,.bool b⟩
  |_,_,_,.int b,r,_=>by obtain⟨t,rfl⟩:=r;exact⟨_,.int b t⟩
  |_,_,_,.str b,r,_=>by obtain⟨t,rfl⟩:=r;exact⟨_,.str b t⟩
  |_,_,_,.ty _,_,h=>Bool.noConfusion h
  |_,_,_,.dct _ _ _,_,h=>Bool.noConfusion h
  |_,_,_,.ref _,_,h=>Bool.noConfusion h
  |_,_,_,.scr _,_,h=>Bool.noConfusion h
  | _, _, _, .tup h rs, r, hl => by
    cases r
    obtain⟨its,rv,⟨o,e,hc,n,hd⟩,_⟩:=I.tuple h
    obtain⟨as,ra⟩:=Au.reads I rs rv hl
    exact⟨as,.tuple e hc hd ra⟩
  | _, _, _, .lst h _ rs, r, hl => by
    cases r
    obtain⟨its,rv,o,n,e,hc,hd⟩:=Lo I (.inl h)
    obtain⟨as,ra⟩:=Au.reads I rs rv hl
    exact⟨_,.list e hc hd ra⟩
theorem Au.reads(I:Inv X pins σ H s):∀{vs:List V} {ds:List D} {us:List Value},Au X.K M H vs ds->Vals vs us->D.lays ds=true->∃as,ReadsAll s.heap us (D.pys ds) as
  |_,_,_,.nil,r,_=>by cases r;exact⟨_,.nil⟩
  | _, _, _, .cons (d := d) (ds := ds) h t, r, hl => by
    cases r with
    | cons r1 r2 =>
      have hl':(D.lay d && D.lays ds)=true:=hl
      rw[Bool.and_eq_true]at hl'
      obtain⟨as,ra⟩:=ER.reads I h r1 hl'.1
      obtain⟨bs,rb⟩:=Au.reads I t r2 hl'.2
      exact⟨_,.cons ra rb⟩
end
end
noncomputable def deq(a b:D):Bool:=PyData.eqv a.py b.py
noncomputable def Dx(a b:D):Bool:=a.lay && b.lay && decide (min a.py.depth b.py.depth≤60)
noncomputable def wEq:Op2:=fun a b=>if Dx (fz a) (fz b)=true then some (.val (.bl (deq (fz a) (fz b))))else none
noncomputable def wNe:Op2:=fun a b=>if Dx (fz a) (fz b)=true then some (.val (.bl (!deq (fz a) (fz b))))else none
section
variable{X:Cx}
theorem Sh.reads{pins:List (Addr×Obj)}{σ:Sg}{H:Hp}{s:Shared}{M:Ms}{v:V}{u:Value}{w:Wv}(h:Sh X.K M H v w)(I:Inv X pins σ H s)(r:RelV v u)(hl:(fz w).lay=true):∃as,Reads s.heap u (fz w).py as:=by
  cases w with
  |val d=>exact ER.reads I h r hl
  | own ds =>
    obtain⟨a,xs,rfl,h1,h2⟩:=h
    cases r
    obtain⟨its,rv,o,n,e,hc,hd⟩:=Lo I (.inl h1)
    obtain⟨as,ra⟩:=Au.reads I h2 rv hl
    exact⟨_,.list e hc hd ra⟩
theorem B6(hu:X.A.units+100<cLine):OpR X (compareOp .Eq) (rOp X.K wEq):=by
 intro pins s σ H x y v u Q I rx ry h
 obtain⟨M,w1,w2,r,e,mo,s1,s2,q⟩:=h
 unfold wEq at e
 split at e
 ·rename_i hk
  unfold Dx at hk
  rw[Bool.and_eq_true,Bool.and_eq_true]at hk
  cases e
  obtain⟨as,ra⟩:=s1.reads I rx hk.1.1
  obtain⟨bs,rb⟩:=s2.reads I ry hk.1.2
  have hd:=of_decide_eq_true hk.2
  exact SeqAt.compareEq_reads ra rb (KI hk.1.1) (KI hk.1.2) (by omega) ⟨.bl _,H,I,rfl,q _ _ (.same mo (.bl _))⟩
 ·cases e
theorem HS(hu:X.A.units+100<cLine):OpR X (compareOp .NotEq) (rOp X.K wNe):=by
 intro pins s σ H x y v u Q I rx ry h
 obtain⟨M,w1,w2,r,e,mo,s1,s2,q⟩:=h
 unfold wNe at e
 split at e
 ·rename_i hk
  unfold Dx at hk
  rw[Bool.and_eq_true,Bool.and_eq_true]at hk
  cases e
  obtain⟨as,ra⟩:=s1.reads I rx hk.1.1
  obtain⟨bs,rb⟩:=s2.reads I ry hk.1.2
  have hd:=of_decide_eq_true hk.2
  exact SeqAt.compareNe_reads ra rb (KI hk.1.1) (KI hk.1.2) (by omega) ⟨.bl _,H,I,rfl,q _ _ (.same mo (.bl _))⟩
 ·cases e
noncomputable def wI2(f:Int->Int->Option D):Op2
 | .val (.int i),.val (.int j)=>(f i j).map .val
 |_,_=>none
theorem RQ{g:Value->Value->Sem Value}{C:Int->Int->Prop}{h:Int->Int->V}{f:Int->Int->Option D}(o:OpR X g (rI C h))(hf:∀i j d,f i j=some d->C i j/\∀K M H,ER K M H (h i j) d):OpR X g (rOp X.K (wI2 f)):=by
  intro pins s σ H x y v u Q I rx ry hh
  obtain⟨M,w1,w2,r,e,mo,s1,s2,q⟩:=hh
  unfold wI2 at e
  split at e
  · cases s1
    cases s2
    rename_i i j
    cases e1:f i j with
    |none=>rw[e1]at e;cases e
    | some d =>
      rw[e1]at e
      cases e
      obtain⟨c,rd⟩:=hf i j d e1
      exact o pins s σ H _ _ v u Q I rx ry ⟨i,j,rfl,rfl,c,q _ _ (.same mo (rd _ _ _))⟩
  ·cases e
theorem Lc{g:Value->Value->Sem Value}{h:Int->Int->V}{f:Int->Int->Option D}(o:OpR X g (rI0 h))(hf:∀i j d,f i j=some d->∀K M H,ER K M H (h i j) d):OpR X g (rOp X.K (wI2 f)):=by
  intro pins s σ H x y v u Q I rx ry hh
  obtain⟨M,w1,w2,r,e,mo,s1,s2,q⟩:=hh
  unfold wI2 at e
  split at e
  · cases s1
    cases s2
    rename_i i j
    cases e1:f i j with
    |none=>rw[e1]at e;cases e
    | some d =>
      rw[e1]at e
      cases e
      exact o pins s σ H _ _ v u Q I rx ry ⟨i,j,rfl,rfl,q _ _ (.same mo (hf i j d e1 _ _ _))⟩
  ·cases e
noncomputable def NH:Op2:=wI2 fun i j=>some (.int (i-j))
noncomputable def Xy:Nat:=2^60000
noncomputable def F7:Nat:=2^8000
noncomputable def Ds(i j:Int):Bool:=decide (i.natAbs<2^64)||(decide (j.natAbs<2^64)||(decide (i.natAbs<Xy) && decide (j.natAbs<Xy)))
theorem ZJ:OpR X (binaryOp .Mult) (rI (fun i j=>Ds i j=true) fun i j=>.int (i*j)):=by
 intro pins s σ H x y v u Q I rx ry h
 obtain⟨i,j,rfl,rfl,hk,q⟩:=h
 unfold Ds at hk
 rw[Bool.or_eq_true,Bool.or_eq_true,Bool.and_eq_true]at hk
 rcases hk with hk|hk|hk
 ·have:=of_decide_eq_true hk
  exact Xh pins s σ H _ _ v u Q I rx ry ⟨i,j,rfl,rfl,.inl ⟨by omega,by omega⟩,q⟩
 ·have:=of_decide_eq_true hk
  exact Xh pins s σ H _ _ v u Q I rx ry ⟨i,j,rfl,rfl,.inr ⟨by omega,by omega⟩,q⟩
 ·have h1:i.natAbs<2^60000:=of_decide_eq_true hk.1
  have h2:j.natAbs<2^60000:=of_decide_eq_true hk.2
  obtain⟨t1,rfl⟩:=rx
  obtain⟨t2,rfl⟩:=ry
  exact PyProof.Rows.mul_int ⟨.int _,H,I.tok _,⟨_,rfl⟩,q⟩ (PyProof.Rows.mulOk_of_bits (m:=60000) (n:=60000) (PySem.intBits_le_iff.mpr h1) (PySem.intBits_le_iff.mpr h2) (by decide))
noncomputable def aj:Op2:=wI2 fun i j=>if Ds i j=true then some (.int (i*j))else none
noncomputable def Ox:Op2:=wI2 fun i j=>if(decide (0<j) && decide (j.natAbs<F7))=true then some (.int (i / j))else none
noncomputable def O4:Op2:=wI2 fun i j=>if 0<j then some (.int (i % j))else none
noncomputable def dM:Op2:=wI2 fun i j=>if(decide (0≤j) && decide (j≤1000) && decide (i.natAbs<2^64))=true then some (.int (i^j.toNat))else none
noncomputable def wLt:Op2:=wI2 fun i j=>some (.bl (decide (i<j)))
noncomputable def wLe:Op2:=wI2 fun i j=>some (.bl (decide (i≤j)))
noncomputable def wGt:Op2:=wI2 fun i j=>some (.bl (decide (j<i)))
noncomputable def wGe:Op2:=wI2 fun i j=>some (.bl (decide (j≤i)))
theorem EA:OpR X (binaryOp .Sub) (rOp X.K NH):=Lc bz fun i j d e K M H=>by cases e;exact .int _
theorem ZY:OpR X (binaryOp .Mult) (rOp X.K aj):=RQ ZJ fun i j d e=>by
 split at e
 ·rename_i hk
  cases e
  exact⟨hk,fun _ _ _=>.int _⟩
 ·cases e
theorem HC:OpR X (binaryOp .FloorDiv) (rOp X.K Ox):=RQ St.V4 fun i j d e=>by
 split at e
 ·rename_i hk
  rw[Bool.and_eq_true]at hk
  cases e
  exact⟨⟨of_decide_eq_true hk.1,of_decide_eq_true hk.2⟩,fun _ _ _=>.int _⟩
 ·cases e
theorem Ff:OpR X (binaryOp .Mod) (rOp X.K O4):=RQ cB fun i j d e=>by
 split at e
 ·rename_i hk
  cases e
  exact⟨hk,fun _ _ _=>.int _⟩
 ·cases e
theorem Tb:OpR X (binaryOp .Pow) (rOp X.K dM):=RQ az fun i j d e=>by
 split at e
 ·rename_i hk
  rw[Bool.and_eq_true,Bool.and_eq_true]at hk
  cases e
  have:=of_decide_eq_true hk.1.2
  exact⟨⟨of_decide_eq_true hk.1.1,by omega,of_decide_eq_true hk.2⟩,fun _ _ _=>.int _⟩
 ·cases e
theorem K1:OpR X (compareOp .Lt) (rOp X.K wLt):=Lc eT fun i j d e K M H=>by cases e;exact .bl _
theorem aI:OpR X (compareOp .LtE) (rOp X.K wLe):=Lc dm fun i j d e K M H=>by cases e;exact .bl _
theorem PC:OpR X (compareOp .Gt) (rOp X.K wGt):=Lc ek fun i j d e K M H=>by cases e;exact .bl _
theorem Tp:OpR X (compareOp .GtE) (rOp X.K wGe):=Lc fX fun i j d e K M H=>by cases e;exact .bl _
noncomputable def asL:Wv->Option (List D)
 | .own ds=>some ds
 | .val (.lst ds)=>some ds
 |_=>none
noncomputable def asT:Wv->Option (List D)
 | .val (.tup ds)=>some ds
 |_=>none
noncomputable def asC:Wv->Option (List D)
 | .val (.scr ns)=>some (ns.map .int)
 |_=>none
noncomputable def asS(w:Wv):Option (List D):=(asL w).or ((asT w).or (asC w))
section
variable{K:PySem.W.Frag}{M:Ms}{H:Hp}{v:V}{w:Wv}{ds:List D}
theorem Sh.l(h:Sh K M H v w)(e:asL w=some ds):∃a xs,v=.ref a/\H a=some (.lst xs)/\Au K M H xs ds:=by
  cases w with
  |own es=>cases e;obtain⟨a,xs,rfl,h1,h2⟩:=h;exact⟨a,xs,rfl,h1,h2⟩
  | val d =>
    cases d<;>first|(cases e;done)|skip
    cases e
    cases h with
    |lst h n r=>exact⟨_,_,rfl,h,r⟩
theorem Sh.t(h:Sh K M H v w)(e:asT w=some ds):∃a xs,v=.ref a/\SqT K H a xs/\Au K M H xs ds:=by
  cases w with
  |own es=>cases e
  | val d =>
    cases d<;>first|(cases e;done)|skip
    cases e
    cases h with
    |tup h r=>exact⟨_,_,rfl,h,r⟩
theorem LS:∀{ns:List Int},Au K M H (ns.map V.int) (ns.map D.int)
 | []=>.nil
 |n::ns=>.cons (.int n) LS
theorem Sh.c(h:Sh K M H v w)(e:asC w=some ds):∃a xs,v=.ref a/\SqL K H a xs/\Au K M H xs ds:=by
  cases w with
  |own es=>cases e
  | val d =>
    cases d<;>first|(cases e;done)|skip
    cases e
    cases h with
    | scr h =>
      refine⟨_,_,rfl,?_,LS⟩
      rcases h with h|h
      ·exact .inl h.1
      ·exact .inr h
theorem Sh.s(h:Sh K M H v w)(e:asS w=some ds):∃a xs,v=.ref a/\(SqL K H a xs∨SqT K H a xs)/\Au K M H xs ds:=by
  unfold asS at e
  cases e1:asL w with
  | some es =>
    rw[e1]at e
    cases e
    obtain⟨a,xs,h1,h2,h3⟩:=h.l e1
    exact⟨a,xs,h1,.inl (.of h2),h3⟩
  | none =>
    rw[e1]at e
    cases e2:asT w with
    | some es =>
      rw[e2]at e
      cases e
      obtain⟨a,xs,h1,h2,h3⟩:=h.t e2
      exact⟨a,xs,h1,.inr h2,h3⟩
    | none =>
      rw[e2]at e
      obtain⟨a,xs,h1,h2,h3⟩:=h.c e
      exact⟨a,xs,h1,.inl h2,h3⟩
end
noncomputable def Hj:Op1:=fun w=>match w with
 | .val (.str z)=>if z.length≤sizeLine then some (.val (.int z.length))else none
 |_=>(asS w).map fun ds=>.val (.int ds.length)
theorem Be : FN X (.builtin "len") (rN X.K (o1 Hj)) := by
  intro pins s σ H xs us Q I r h
  obtain⟨M,ws,w,e,mo,sh,q⟩:=h
  cases sh with
  |nil=>cases e
  | cons h1 t =>
    cases t with
    |cons h2 t=>cases e
    | nil =>
      rename_i v w1
      have e':Hj w1=some w:=e
      unfold Hj at e'
      split at e'
      · split at e'
        · rename_i z hz
          cases e'
          cases h1
          exact Pb pins s σ H _ us Q I r ⟨z,rfl,hz,q _ _ (.same mo (.int _))⟩
        ·cases e'
      · cases e1 : asS w1 with
        |none=>rw[e1]at e';cases e'
        | some ds =>
          rw[e1]at e'
          cases e'
          obtain⟨a,ys,rfl,h3,h4⟩:=h1.s e1
          refine P4 pins s σ H _ us Q I r ⟨a,ys,rfl,h3,q _ _ ?_⟩
          rw[h4.length]
          exact .same mo (.int _)
noncomputable def wIx:Op2:=fun a b=>match a,b with
 |a,.val (.int i)=>(asS a).bind fun ds=>(atI ds i).map .val
 |_,_=>none
theorem Ya{K:PySem.W.Frag}{M:Ms}{H:Hp}{xs:List V}{ds:List D}{i:Int}{d:D}(h:Au K M H xs ds)(e:atI ds i=some d):∃x,atI xs i=some x/\ER K M H x d:=by
  unfold atI at e⊢
  rw[h.length]
  cases e1:ixN ds.length i with
  |none=>rw[e1]at e;cases e
  | some j =>
    rw[e1]at e
    exact h.get e
theorem AY:IxR X (rOp X.K wIx):=by
  intro value slice pins s σ H x y v u Q I rx ry h hs
  obtain⟨M,w1,w2,r,e,mo,s1,s2,q⟩:=h
  unfold wIx at e
  split at e
  · rename_i i
    cases e1:asS w1 with
    |none=>rw[e1]at e;cases e
    | some ds =>
      rw[e1]at e
      simp only[Option.bind_some]at e
      cases e2:atI ds i with
      |none=>rw[e2]at e;cases e
      | some d =>
        rw[e2]at e
        cases e
        cases s2
        obtain⟨a,ys,rfl,h3,h4⟩:=s1.s e1
        obtain⟨z,h5,h6⟩:=Ya h4 e2
        rcases h3 with h3|h3
        ·exact Zh value slice pins s σ H _ _ v u Q I rx ry ⟨a,ys,i,z,rfl,rfl,h3,h5,q _ _ (.same mo h6)⟩ hs
        ·exact bh value slice pins s σ H _ _ v u Q I rx ry ⟨a,ys,i,z,rfl,rfl,h3,h5,q _ _ (.same mo h6)⟩ hs
  ·cases e
end
section
variable{X:Cx}
noncomputable def Cv:Op2:=fun a b=>match a,b with
 | .val (.int i),.val (.int j)=>some (.val (.int (i+j)))
 | .val (.str x),.val (.str y)=>if x.length+y.length≤sizeLine then some (.val (.str (x++y)))else none
 | .val (.tup xs),.val (.tup ys)=>if xs.length+ys.length≤sizeLine then some (.val (.tup (xs++ys)))else none
 |a,b=>(asL a).bind fun xs=>(asL b).bind fun ys=>if xs.length+ys.length≤sizeLine then some (.own (xs++ys))else none
theorem Ae : OpR X (binaryOp .Add) (rOp X.K Cv) := by
  intro pins s σ H x y v u Q I rx ry h
  obtain⟨M,w1,w2,r,e,mo,s1,s2,q⟩:=h
  unfold Cv at e
  split at e
  · cases e
    cases s1;cases s2
    exact aX pins s σ H _ _ v u Q I rx ry ⟨_,_,rfl,rfl,q _ _ (.same mo (.int _))⟩
  · split at e
    · cases e
      cases s1;cases s2
      exact Rm pins s σ H _ _ v u Q I rx ry ⟨_,_,rfl,rfl,by assumption,q _ _ (.same mo (.str _))⟩
    ·cases e
  · split at e
    · rename_i xs ys hz
      cases e
      cases s1 with
      | tup h1 r1 =>
        cases s2 with
        | tup h2 r2 =>
          rename_i a xs' b ys'
          have l1:=r1.length
          have l2:=r2.length
          by_cases hx:xs'=[]
          · subst hx
            cases r1
            refine St.Ze pins s σ H _ _ v u Q I rx ry ⟨_,_,_,rfl,rfl,h1,h2,q _ _ (.same mo ?_)⟩
            exact .tup h2 r2
          · refine YL pins s σ H _ _ v u Q I rx ry ⟨_, _, _, _, rfl, rfl, h1, h2, hx, by omega, fun z => ?_, fun _ p hp => q _ _ (.tup mo hp (r1.append r2))⟩
            subst z
            cases r2
            rw[List.append_nil]at q
            exact q _ _ (.same mo (.tup h1 r1))
    ·cases e
  · cases e1 : asL w1 with
    |none=>rw[e1]at e;cases e
    | some xs =>
      rw[e1]at e
      cases e2:asL w2 with
      |none=>rw[e2]at e;cases e
      | some ys =>
        rw[e2]at e
        simp only[Option.bind_some]at e
        split at e
        · rename_i hz
          cases e
          obtain⟨a,xs',rfl,h1,r1⟩:=s1.l e1
          obtain⟨b,ys',rfl,h2,r2⟩:=s2.l e2
          have l1:=r1.length
          have l2:=r2.length
          exact Z6 pins s σ H _ _ v u Q I rx ry ⟨a,b,xs',ys',rfl,rfl,h1,h2,by omega,fun p hp=>q _ _ (.lst mo hp (r1.append r2))⟩
        ·cases e
noncomputable def cV:Op2:=fun a b=>match a,b with
 | .val (.int i),.val (.int j)=>if Ds i j=true then some (.val (.int (i*j)))else none
 | .val (.tup xs),.val (.int k)=>if(!xs.isEmpty && decide (1≤k) && decide (xs.length*k.toNat≤sizeLine))=true then some (.val (.tup (List.replicate k.toNat xs).flatten))else none
 |a,.val (.int k)=>(asL a).bind fun xs=>if(decide (k<2^63) && decide (-(2^63)≤k) && decide (xs.length*k.toNat≤sizeLine))=true then some (.own (List.replicate k.toNat xs).flatten)else none
 |_,_=>none
theorem Au.rep{K:PySem.W.Frag}{M:Ms}{H:Hp}{xs:List V}{ds:List D}(h:Au K M H xs ds):∀n:Nat,Au K M H (List.replicate n xs).flatten (List.replicate n ds).flatten
  |0=>.nil
  | n + 1 => by
    rw[List.replicate_succ,List.replicate_succ,List.flatten_cons,List.flatten_cons]
    exact h.append (Au.rep h n)
theorem Te : OpR X (binaryOp .Mult) (rOp X.K cV) := by
  intro pins s σ H x y v u Q I rx ry h
  obtain⟨M,w1,w2,r,e,mo,s1,s2,q⟩:=h
  unfold cV at e
  split at e
  · rename_i i j
    refine ZY pins s σ H x y v u Q I rx ry ⟨M,_,_,r,?_,mo,s1,s2,q⟩
    unfold aj wI2
    show Option.map Wv.val (if Ds i j=true then some (D.int (i*j))else none)=some r
    split at e
    · rename_i hk
      rw[if_pos hk]
      exact e
    ·cases e
  · rename_i xs k
    split at e
    · rename_i hk
      rw[Bool.and_eq_true,Bool.and_eq_true]at hk
      cases e
      cases s2
      cases s1 with
      | @tup a ys _ h1 r1=>
        have l1:=r1.length
        have z:=of_decide_eq_true hk.2
        have hk1:=of_decide_eq_true hk.1.2
        have hne:ys≠[]:=fun zz=>by
          subst zz
          cases r1
          exact absurd hk.1.1 (by decide)
        refine YR pins s σ H _ _ v u Q I rx ry ⟨a,ys,k,rfl,rfl,h1,hne,hk1,by rw[l1];exact z,fun e1=>?_,fun _ p hp=>q _ _ (.tup mo hp (r1.rep _))⟩
        subst e1
        have:(List.replicate (1:Int).toNat xs).flatten=xs:=by simp
        rw[this]at q
        exact q _ _ (.same mo (.tup h1 r1))
    ·cases e
  · rename_i k hn hn2
    cases e1:asL w1 with
    |none=>rw[e1]at e;cases e
    | some xs =>
      rw[e1]at e
      simp only[Option.bind_some]at e
      split at e
      · rename_i hk
        rw[Bool.and_eq_true,Bool.and_eq_true]at hk
        cases e
        cases s2
        obtain⟨a,xs',rfl,h1,r1⟩:=s1.l e1
        have l1:=r1.length
        have z:=of_decide_eq_true hk.2
        exact cE pins s σ H _ _ v u Q I rx ry ⟨a,k,xs',rfl,rfl,h1,of_decide_eq_true hk.1.2,of_decide_eq_true hk.1.1,by rw[l1];exact z,fun p hp=>q _ _ (.lst mo hp (r1.rep _))⟩
      ·cases e
  ·cases e
noncomputable def YB:Op1
 | .val (.int i)=>some (.val (.int (-i)))
 |_=>none
theorem MU:UnR X (unaryOp .USub) (rUn X.K YB):=by
 intro pins s σ H x v Q I rx h
 obtain⟨M,w,r,e,mo,s1,q⟩:=h
 unfold YB at e
 split at e
 ·cases e
  cases s1
  exact aA pins s σ H _ v Q I rx ⟨_,rfl,q _ _ (.same mo (.int _))⟩
 ·cases e
noncomputable def Jc:D->Bool
 | .non=>true| .bl _=>true| .int _=>true| .str _=>true
 |_=>false
theorem Sh.flat{K:PySem.W.Frag}{M:Ms}{H:Hp}{v:V}{w:Wv}(h:Sh K M H v w)(f:Jc (fz w)=true):ER K M H v (fz w):=by
 cases w with
 |val d=>exact h
 |own ds=>cases f
noncomputable def inD(x:D)(xs:List D):Bool:=xs.any fun y=>deq y x
theorem Rf{K:PySem.W.Frag}{M:Ms}{H:Hp}{v:V}{d:D}(h:ER K M H v d)(f:Jc d=true):ND v=true:=by
 cases h<;>first|rfl|cases f
theorem Zi{K:PySem.W.Frag}{M:Ms}{H:Hp}{v u:V}{d e:D}(h:ER K M H v d)(g:ER K M H u e)(f:Jc d=true)(f':Jc e=true):eqV v u=deq d e:=by
 cases h<;>first|(cases f;done)|skip
 all_goals (cases g<;>first|(cases f';done)|rfl)
theorem Pl{K:PySem.W.Frag}{M:Ms}{H:Hp}:∀{vs:List V} {ds:List D},Au K M H vs ds->ds.all Jc=true->vs.all ND=true
  |_,_,.nil,_=>rfl
  | _, _, .cons h t, f => by
    rw[List.all_cons,Bool.and_eq_true]at f⊢
    exact⟨Rf h f.1,Pl t f.2⟩
theorem T8{K:PySem.W.Frag}{M:Ms}{H:Hp}{u:V}{e:D}(g:ER K M H u e)(f':Jc e=true):∀{vs:List V} {ds:List D},Au K M H vs ds->ds.all Jc=true->inV u vs=inD e ds
  |_,_,.nil,_=>rfl
  | _, _, .cons h t, f => by
    rw[List.all_cons,Bool.and_eq_true]at f
    have ih:=T8 g f' t f.2
    unfold inV inD at ih⊢
    rw[List.any_cons,List.any_cons,ih,Zi h g f.1 f']
noncomputable def wIn(neg:Bool):Op2:=fun a b=>(asS b).bind fun ds=>if(Jc (fz a) && ds.all Jc)=true then some (.val (.bl (if neg then !inD (fz a) ds else inD (fz a) ds)))else none
theorem YC{M:Ms}{H:Hp}{x y:V}{w1 w2 r:Wv}{neg:Bool}{Q:VK}(e:wIn neg w1 w2=some r)(mo:MOk M H)(s1:Sh X.K M H x w1)(s2:Sh X.K M H y w2)(q:∀v H',Nw X.K M H H' v r->Q v H'):rIn X.K neg x y H Q:=by
  unfold wIn at e
  cases e1:asS w2 with
  |none=>rw[e1]at e;cases e
  | some ds =>
    rw[e1]at e
    simp only[Option.bind_some]at e
    split at e
    · rename_i hk
      rw[Bool.and_eq_true]at hk
      cases e
      obtain⟨a,xs,rfl,h3,h4⟩:=s2.s e1
      have g1:=s1.flat hk.1
      refine⟨a,xs,rfl,h3,Rf g1 hk.1,Pl h4 hk.2,?_⟩
      rw[T8 g1 hk.1 h4 hk.2]
      exact q _ _ (.same mo (.bl _))
    ·cases e
theorem L8:OpR X (compareOp .In) (rOp X.K (wIn false)):=by
 intro pins s σ H x y v u Q I rx ry h
 obtain⟨M,w1,w2,r,e,mo,s1,s2,q⟩:=h
 exact SX pins s σ H _ _ v u Q I rx ry (YC e mo s1 s2 q)
theorem Lj:OpR X (compareOp .NotIn) (rOp X.K (wIn true)):=by
 intro pins s σ H x y v u Q I rx ry h
 obtain⟨M,w1,w2,r,e,mo,s1,s2,q⟩:=h
 exact QI pins s σ H _ _ v u Q I rx ry (YC e mo s1 s2 q)
noncomputable def isN:Wv->Bool
 | .val .non=>true
 |_=>false
noncomputable def dC(neg:Bool):Op2:=fun a b=>match b with
 | .val .non=>some (.val (.bl (if neg then !isN a else isN a)))
 |_=>none
theorem YV{K:PySem.W.Frag}{M:Ms}{H:Hp}{x:V}{w:Wv}(s:Sh K M H x w):decide (x=.non)=isN w:=by
 cases w with
 |own ds=>obtain⟨a,xs,rfl,_⟩:=s;rfl
 |val d=>cases s<;>rfl
theorem Wb:OpR X (compareOp .IsNot) (rOp X.K (dC true)):=by
 intro pins s σ H x y v u Q I rx ry h
 obtain⟨M,w1,w2,r,e,mo,s1,s2,q⟩:=h
 unfold dC at e
 split at e
 ·cases e
  cases s2
  refine YN pins s σ H _ _ v u Q I rx ry ⟨rfl,?_⟩
  rw[YV s1]
  exact q _ _ (.same mo (.bl _))
 ·cases e
theorem Kb{K:PySem.W.Frag}{M:Ms}{H:Hp}{xs:List V}{ws:List Wv}{f:Op1}{r:Wv}(h:Shs K M H xs ws)(e:o1 f ws=some r):∃v w,xs=[v]/\ws=[w]/\Sh K M H v w/\f w=some r:=by
  cases h with
  |nil=>cases e
  | cons h1 t =>
    cases t with
    |cons h2 t=>cases e
    |nil=>exact⟨_,_,rfl,rfl,h1,e⟩
theorem QS{K:PySem.W.Frag}{M:Ms}{H:Hp}{xs:List V}{ws:List Wv}{f:Op2}{r:Wv}(h:Shs K M H xs ws)(e:o2 f ws=some r):∃v w v' w',xs=[v,v']/\ws=[w,w']/\Sh K M H v w/\Sh K M H v' w'/\f w w'=some r:=by
  cases h with
  |nil=>cases e
  | cons h1 t =>
    cases t with
    |nil=>cases e
    | cons h2 t =>
      cases t with
      |cons h3 t=>cases e
      |nil=>exact⟨_,_,_,_,rfl,rfl,h1,h2,e⟩
noncomputable def Zo:Op1
 | .val (.int i)=>some (.val (.int (if i<0 then-i else i)))
 |_=>none
theorem Lw:FN X (.builtin "abs") (rN X.K (o1 Zo)):=by
 intro pins s σ H xs us Q I r h
 obtain⟨M,ws,w,e,mo,sh,q⟩:=h
 obtain⟨v,w1,rfl,rfl,s1,e1⟩:=Kb sh e
 unfold Zo at e1
 split at e1
 ·cases e1
  cases s1
  exact V8 pins s σ H _ us Q I r ⟨_,rfl,q _ _ (.same mo (.int _))⟩
 ·cases e1
noncomputable def cn:Op2:=wI2 fun i j=>some (.int (if j>i then j else i))
noncomputable def Zm:Op2:=wI2 fun i j=>some (.int (if j<i then j else i))
theorem Qz{f:Int->Int->Option D}{a b r:Wv}(e:wI2 f a b=some r):∃i j d,a=.val (.int i)/\b=.val (.int j)/\f i j=some d/\r=.val d:=by
 unfold wI2 at e
 split at e
 ·rename_i i j
  cases e1:f i j with
  |none=>rw[e1]at e;cases e
  |some d=>rw[e1]at e;cases e;exact⟨i,j,d,rfl,rfl,e1,rfl⟩
 ·cases e
theorem Sj(hc:X.calm=true):FN X (.builtin "max") (rN X.K (o2 cn)):=by
 intro pins s σ H xs us Q I r h
 obtain⟨M,ws,w,e,mo,sh,q⟩:=h
 obtain⟨v,w1,v',w2,rfl,rfl,s1,s2,e1⟩:=QS sh e
 obtain⟨i,j,d,rfl,rfl,e2,rfl⟩:=Qz e1
 cases e2;cases s1;cases s2
 exact Tz hc pins s σ H _ us Q I r ⟨_,_,rfl,q _ _ (.same mo (.int _))⟩
theorem P9(hc:X.calm=true):FN X (.builtin "min") (rN X.K (o2 Zm)):=by
 intro pins s σ H xs us Q I r h
 obtain⟨M,ws,w,e,mo,sh,q⟩:=h
 obtain⟨v,w1,v',w2,rfl,rfl,s1,s2,e1⟩:=QS sh e
 obtain⟨i,j,d,rfl,rfl,e2,rfl⟩:=Qz e1
 cases e2;cases s1;cases s2
 exact SV hc pins s σ H _ us Q I r ⟨_,_,rfl,q _ _ (.same mo (.int _))⟩
noncomputable def C7:Op1:=fun w=>(asS w).map fun ds=>.val (.tup ds)
theorem A4:FN X (.type "tuple") (rN X.K (o1 C7)):=by
  intro pins s σ H xs us Q I r h
  obtain⟨M,ws,w,e,mo,sh,q⟩:=h
  obtain⟨v,w1,rfl,rfl,s1,e1⟩:=Kb sh e
  unfold C7 at e1
  cases e2:asS w1 with
  |none=>rw[e2]at e1;cases e1
  | some ds =>
    rw[e2]at e1
    cases e1
    obtain⟨a,ys,rfl,h3,h4⟩:=s1.s e2
    refine Oi pins s σ H _ us Q I r ⟨a,ys,rfl,?_⟩
    rcases h3 with h3|h3
    ·exact .inl ⟨h3,fun l hl=>q _ _ (.tup mo hl h4)⟩
    ·exact .inr ⟨h3,q _ _ (.same mo (.tup h3 h4))⟩
noncomputable def QB:Op1:=fun w=>(asS w).map fun ds=>.own ds
theorem KW:FN X (.type "list") (rN X.K (o1 QB)):=by
  intro pins s σ H xs us Q I r h
  obtain⟨M,ws,w,e,mo,sh,q⟩:=h
  obtain⟨v,w1,rfl,rfl,s1,e1⟩:=Kb sh e
  unfold QB at e1
  cases e2:asS w1 with
  |none=>rw[e2]at e1;cases e1
  | some ds =>
    rw[e2]at e1
    cases e1
    obtain⟨a,ys,rfl,h3,h4⟩:=s1.s e2
    exact P5 pins s σ H _ us Q I r ⟨a,ys,rfl,h3,fun l hl=>q _ _ (.lst mo hl h4)⟩
noncomputable def Yy:Op1
 | .val (.int i)=>some (.val (.int i))
 | .val (.bl b)=>some (.val (.int (if b then 1 else 0)))
 |_=>none
theorem MC:FN X (.type "int") (rN X.K (o1 Yy)):=by
 intro pins s σ H xs us Q I r h
 obtain⟨M,ws,w,e,mo,sh,q⟩:=h
 obtain⟨v,w1,rfl,rfl,s1,e1⟩:=Kb sh e
 unfold Yy at e1
 split at e1
 ·cases e1;cases s1
  exact QG pins s σ H _ us Q I r (.inl ⟨_,rfl,q _ _ (.same mo (.int _))⟩)
 ·cases e1;cases s1
  exact QG pins s σ H _ us Q I r (.inr ⟨_,rfl,q _ _ (.same mo (.int _))⟩)
 ·cases e1
noncomputable def kdW:Wv->Option St.Kd
 | .own _=>some .lst
 | .val .non=>some .non| .val (.bl _)=>some .bl| .val (.int _)=>some .int| .val (.str _)=>some .str| .val (.lst _)=>some .lst| .val (.dct _)=>some .dct| .val (.tup _)=>some .tup
 | .val (.ty _)=>none| .val (.scr _)=>none| .val (.ref _)=>none
end
section
variable{X:Cx}
theorem V5{K:PySem.W.Frag}(k:St.Kd):PySem.W.kitOne K (.type k.ty) (.type "list")=some (k.isA "list"):=by
 cases k<;>rfl
noncomputable def SI(T:String):Bool:=T== "int" ||T== "bool" ||T== "tuple" ||T== "str" ||T== "list"
theorem b0{K:PySem.W.Frag}{T:String}(h:SI T=true)(k:St.Kd):PySem.W.kitOne K (.type k.ty) (.type T)=some (k.isA T):=by
 unfold SI at h
 simp only[Bool.or_eq_true,beq_iff_eq]at h
 rcases h with(((rfl|rfl)|rfl)|rfl)|rfl
 ·exact St.ZK k
 ·exact St.WY k
 ·exact St.kit_tuple k
 ·exact St.Yz k
 ·exact V5 k
noncomputable def bV:Op2:=fun a t=>match t with
 | .val (.ty T)=>if SI T=true then(kdW a).map fun k=>.val (.bl (k.isA T))else none
 |_=>none
theorem PK : FN X (.builtin "isinstance") (rN X.K (o2 bV)) := by
  intro pins s σ H xs us Q I r h
  obtain⟨M,ws,w,e,mo,sh,q⟩:=h
  obtain⟨v,w1,v',w2,rfl,rfl,s1,s2,e1⟩:=QS sh e
  unfold bV at e1
  split at e1
  · rename_i T
    split at e1
    · rename_i hT
      cases e2:kdW w1 with
      |none=>rw[e2]at e1;cases e1
      | some k =>
        rw[e2]at e1
        cases e1
        cases s2
        obtain⟨u1,u2,rfl,r1,r2⟩:=r.two
        cases (show u2=Value.type T from r2)
        have fin:∀tk,EP X pins σ Q (.bool (k.isA T)) {s with toks:=tk}:=fun tk=>⟨.bl _,H,I.tok tk,rfl,q _ _ (.same mo (.bl _))⟩
        have kk:=b0 (K:=X.K) hT k
        cases w1 with
        | own ds =>
          cases e2
          obtain⟨a,ys,rfl,h1,_⟩:=s1
          exact Fe I r1 (.lst h1) kk fin
        | val d =>
          have s1':ER X.K M H v d:=s1
          cases s1' with
          |non=>cases e2;exact Fe I r1 .non kk fin
          |bl b=>cases e2;exact Fe I r1 (.bl b) kk fin
          |int b=>cases e2;exact Fe I r1 (.int b) kk fin
          |str b=>cases e2;exact Fe I r1 (.str b) kk fin
          |ty b=>cases e2
          |scr h=>cases e2
          |lst h n rr=>cases e2;exact Fe I r1 (.lst h) kk fin
          |dct h n rr=>cases e2;exact Fe I r1 (.dK h) kk fin
          |ref h=>cases e2
          | tup h rr =>
            cases e2
            rename_i a ys ds
            cases (show u1=Value.ref a from r1)
            obtain⟨its,_,⟨o,h1,h2,_⟩,_⟩:=I.tuple h
            exact PySem.W.kia_one PySem.W.kitx_tuple I.kIn ⟨o,h1,h2⟩ kk (fun z=>nomatch z) fin
    ·cases e1
  ·cases e1
noncomputable def Bc(fs:List Ev):Ev:=fun E S=>(evs fs E S).bind fun r=>if r.1.length≤sizeLine then some (.tup r.1,r.2)else none
noncomputable def WR(c:Bool)(fs:List Ev):Ev:=fun E S=>(evs fs E S).bind fun r=>if r.1.length≤sizeLine then fin c (.own r.1) r.2 else none
abbrev Jh:=WR false
abbrev LH:=WR true
theorem Ag{es:List Expr}{fs:List Ev}{k:Nat}{pos:Pos}(h:DEs X es fs):DE X (.Tuple es k pos) (Bc fs):=⟨CY (bJ h.pe) fun σ H Q z=>by
 obtain⟨M,E,S,d,S',e,r,st,q⟩:=z
 obtain⟨⟨ds,S1⟩,e1,e⟩:=BP e
 dsimp only at e
 split at e
 ·cases e
  refine JG e1 r st fun vs H1 M1 g1 st1 d1=>⟨by rw[d1.length];assumption,fun p hp=>?_⟩
  have n:=Nw.tup st1.mo hp d1
  exact q _ _ M1 (g1.trans (.grow st1.mo n.grow)) (st1.grow n.grow) n.rel
 ·cases e⟩
theorem Bs{c:Bool}{es:List Expr}{fs:List Ev}{pos:Pos}(h:DEs X es fs):DE X (.List es pos) (WR c fs):=⟨CY (ar h.pe) fun σ H Q z=>by
 obtain⟨M,E,S,d,S',e,r,st,q⟩:=z
 obtain⟨⟨ds,S1⟩,e1,e⟩:=BP e
 dsimp only at e
 split at e
 ·refine JG e1 r st fun vs H1 M1 g1 st1 d1=>⟨by rw[d1.length];assumption,fun p hp=>?_⟩
  obtain⟨M2,g2,st2,d2⟩:=(Nw.lst st1.mo hp d1).fin st1 e
  exact q _ _ M2 (g1.trans g2) st2 d2
 ·cases e⟩
noncomputable def Ko(f g:Ev):Ev:=fun E S=>(f E S).bind fun r=>match r.1 with
 | .bl true=>g E r.2
 | .bl false=>some (.bl false,r.2)
 |_=>none
noncomputable def eOr(f g:Ev):Ev:=fun E S=>(f E S).bind fun r=>match r.1 with
 | .bl false=>g E r.2
 | .bl true=>some (.bl true,r.2)
 |_=>none
noncomputable def Qa(f:Ev):Ev:=fun E S=>(f E S).bind fun r=>match r.1 with
 | .bl b=>some (.bl (!b),r.2)
 |_=>none
noncomputable def eIf(c f g:Ev):Ev:=fun E S=>(c E S).bind fun r=>match r.1 with
 | .bl true=>f E r.2
 | .bl false=>g E r.2
 |_=>none
theorem RJ{K:PySem.W.Frag}{M:Ms}{H:Hp}{v:V}{b:Bool}(h:ER K M H v (.bl b)):v=.bl b:=by cases h;rfl
variable{a b c:Expr}{rest:List Expr}{f g h:Ev}{pos:Pos}
theorem Kz{op:BoolOp}(h:DE X a f):DE X (.BoolOp op [a] pos) f:=⟨bT h.pe⟩
theorem J9(ha:DE X a f)(hb:DE X (.BoolOp .And (b::rest) pos) g):DE X (.BoolOp .And (a::b::rest) pos) (Ko f g):=⟨CY (aB ha.pe hb.pe) fun σ H Q z=>by
 obtain⟨M,E,S,d,S',e,r,st,q⟩:=z
 obtain⟨⟨d1,S1⟩,e1,e⟩:=BP e
 dsimp only at e
 refine⟨M,E,S,d1,S1,e1,r,st,fun v H1 M1 g1 st1 r1=>?_⟩
 split at e
 ·cases RJ r1
  refine⟨_,rfl,?_⟩
  refine Yp ?_
  exact⟨M1,E,S1,d,S',e,r.step g1.st,st1,fun v H2 M2 g2 st2 r2=>q _ _ M2 (g1.trans g2) st2 r2⟩
 ·cases e
  cases RJ r1
  refine⟨_,rfl,?_⟩
  refine Y7 ?_
  exact q _ _ M1 g1 st1 r1
 ·cases e⟩
theorem bN(ha:DE X a f):DE X (.UnaryOp .Not a pos) (Qa f):=⟨CY (bx ha.pe) fun σ H Q z=>by
 obtain⟨M,E,S,d,S',e,r,st,q⟩:=z
 obtain⟨⟨d1,S1⟩,e1,e⟩:=BP e
 dsimp only at e
 split at e
 ·cases e
  refine⟨M,E,S,_,_,e1,r,st,fun v H1 M1 g1 st1 r1=>?_⟩
  cases RJ r1
  exact⟨_,rfl,q _ _ M1 g1 st1 (.bl _)⟩
 ·cases e⟩
noncomputable def tDT(K:PySem.W.Frag)(f:Ev):TT:=fun σ H Q=>∃M E S b S',f E S=some (.bl b,S')/\EnR K M E σ H/\StR K M S H/\∀H' M',Gr M H M' H'->StR K M' S' H'->Q b H'
structure DT(X:Cx)(e:Expr)(f:Ev):Prop where
 pe:PT X e (tDT X.K f)
structure DW(X:Cx)(e:Expr)(f:Ev):Prop where
 pe:PW X e (tDT X.K f)
theorem DW.dt(h:DW X a f):DT X a f:=⟨PW.pt h.pe⟩
theorem bY{t:TE}(h:PT X a (aY t))(m:∀σ H Q,tD X.K f σ H Q->t σ H Q):DT X a f:=⟨TC h fun σ H Q z=>by
 obtain⟨M,E,S,b,S',e,r,st,q⟩:=z
 refine m _ _ _ ⟨M,E,S,_,S',e,r,st,fun v H1 M1 g1 st1 r1=>?_⟩
 cases RJ r1
 exact⟨_,rfl,q _ M1 g1 st1⟩⟩
theorem Mm(h:DE X a f)(he:∀whole,isTrue a X.env whole=(do let v←whole;standAt a.pos;holding [v] (truthy v)):=by intro _;rfl):DT X a f:=bY (t:=tD X.K f) (ab h.pe he) fun _ _ _ z=>z
theorem An{fa fb:Ev}{op:CmpOp}{f:Op2}(ho:OpR X (compareOp op) (rOp X.K f))(ha:DE X a fa)(hb:DE X b fb)(hm:behindInMarks op b=false:=by rfl):DT X (.Compare a [op] [b] pos) (eOp (o2 f) [fa,fb]):=
 bY (ZW ho ha.pe hb.pe hm) fun _ _ _ h=>Rh h
theorem Le(ha:DT X a f):DT X (.UnaryOp .Not a pos) (Qa f):=⟨TC (cD ha.pe) fun σ H Q z=>by
 obtain⟨M,E,S,b,S',e,r,st,q⟩:=z
 obtain⟨⟨w1,S1⟩,e1,e⟩:=BP e
 dsimp only at e
 split at e
 ·cases e
  exact⟨M,E,S,_,_,e1,r,st,q⟩
 ·cases e⟩
theorem KN(ha:DT X a f):DW X (.BoolOp .And [a] pos) f:=⟨Yj ha.pe⟩
theorem PD(ha:DT X a f):DW X (.BoolOp .Or [a] pos) f:=⟨bI ha.pe⟩
theorem UU{e:Expr}{t t':TT}(h:PW X e t)(m:∀σ H Q,t' σ H Q->t σ H Q):PW X e t':=fun wh pins s σ H Q I q=>h wh pins s σ H Q I (m _ _ _ q)
theorem NK(ha:DT X a f)(hb:DW X (.BoolOp .And (b::rest) pos) g):DW X (.BoolOp .And (a::b::rest) pos) (Ko f g):=⟨UU (bE ha.pe hb.pe) fun σ H Q z=>by
 obtain⟨M,E,S,k,S',e,r,st,q⟩:=z
 obtain⟨⟨w1,S1⟩,e1,e⟩:=BP e
 dsimp only at e
 split at e
 ·refine⟨M,E,S,_,S1,e1,r,st,fun H1 M1 g1 st1=>?_⟩
  refine Yp ?_
  exact⟨M1,E,S1,k,S',e,r.step g1.st,st1,fun H2 M2 g2 st2=>q _ M2 (g1.trans g2) st2⟩
 ·cases e
  refine⟨M,E,S,_,_,e1,r,st,fun H1 M1 g1 st1=>?_⟩
  refine Y7 ?_
  exact q _ M1 g1 st1
 ·cases e⟩
theorem SU(ha:DT X a f)(hb:DW X (.BoolOp .Or (b::rest) pos) g):DW X (.BoolOp .Or (a::b::rest) pos) (eOr f g):=⟨UU (dz ha.pe hb.pe) fun σ H Q z=>by
 obtain⟨M,E,S,k,S',e,r,st,q⟩:=z
 obtain⟨⟨w1,S1⟩,e1,e⟩:=BP e
 dsimp only at e
 split at e
 ·refine⟨M,E,S,_,S1,e1,r,st,fun H1 M1 g1 st1=>?_⟩
  refine Y7 ?_
  exact⟨M1,E,S1,k,S',e,r.step g1.st,st1,fun H2 M2 g2 st2=>q _ M2 (g1.trans g2) st2⟩
 ·cases e
  refine⟨M,E,S,_,_,e1,r,st,fun H1 M1 g1 st1=>?_⟩
  refine Yp ?_
  exact q _ M1 g1 st1
 ·cases e⟩
theorem gC(hc:DT X c f)(ha:DE X a g)(hb:DE X b h):DE X (.IfExp c a b pos) (eIf f g h):=⟨CY (Vb hc.pe ha.pe hb.pe) fun σ H Q z=>by
 obtain⟨M,E,S,d,S',e,r,st,q⟩:=z
 obtain⟨⟨w1,S1⟩,e1,e⟩:=BP e
 dsimp only at e
 split at e
 ·refine⟨M,E,S,_,S1,e1,r,st,fun H1 M1 g1 st1=>?_⟩
  refine Yp ?_
  exact⟨M1,E,S1,d,S',e,r.step g1.st,st1,fun v H2 M2 g2 st2 r2=>q _ _ M2 (g1.trans g2) st2 r2⟩
 ·refine⟨M,E,S,_,S1,e1,r,st,fun H1 M1 g1 st1=>?_⟩
  refine Y7 ?_
  exact⟨M1,E,S1,d,S',e,r.step g1.st,st1,fun v H2 M2 g2 st2 r2=>q _ _ M2 (g1.trans g2) st2 r2⟩
 ·cases e⟩
end
inductive Fl where
 |nx
 |ret (d:D)
abbrev Ex:=En->Sto->Option (Fl×En×Sto)
def End(K:PySem.W.Frag)(M:Ms)(H:Hp)(Dn:Ends)(E':En)(S':Sto):Fl->Prop
 | .nx=>∀σ' H' M',Gr M H M' H'->EnR K M' E' σ' H'->StR K M' S' H'->Dn.nx σ' H'
 | .ret d=>∀v H' M',Gr M H M' H'->StR K M' S' H'->ER K M' H' v d->Dn.rt v H'
noncomputable def tX(K:PySem.W.Frag)(f:Ex):TS:=fun Dn σ H=>∃M E S fl E' S',f E S=some (fl,E',S')/\EnR K M E σ H/\StR K M S H/\End K M H Dn E' S' fl
structure DS(X:Cx)(st:Stmt)(f:Ex):Prop where
 pe:PS X st (tX X.K f)
structure DSs(X:Cx)(st:List Stmt)(f:Ex):Prop where
 pe:PSs X st (tX X.K f)
theorem GO{X:Cx}{e:Stmt}{t t':TS}(h:PS X e t)(m:∀Dn σ H,t' Dn σ H->t Dn σ H):PS X e t':=fun pins s σ H Dn I q=>h pins s σ H Dn I (m _ _ _ q)
theorem Qw{X:Cx}{e:List Stmt}{t t':TS}(h:PSs X e t)(m:∀Dn σ H,t' Dn σ H->t Dn σ H):PSs X e t':=fun pins s σ H Dn I q=>h pins s σ H Dn I (m _ _ _ q)
theorem End.later{K:PySem.W.Frag}{M M1:Ms}{H H1:Hp}{Dn:Ends}{E':En}{S':Sto}{fl:Fl}(q:End K M H Dn E' S' fl)(g:Gr M H M1 H1):End K M1 H1 Dn E' S' fl:=by
 cases fl with
 |nx=>exact fun σ' H' M' g' r st=>q σ' H' M' (g.trans g') r st
 |ret d=>exact fun v H' M' g' st r=>q v H' M' (g.trans g') st r
noncomputable def Af(f g:Ex):Ex:=fun E S=>(f E S).bind fun r=>match r.1 with
 | .nx=>g r.2.1 r.2.2
 | .ret w=>some (.ret w,r.2)
noncomputable def Dw:Ex:=fun E S=>some (.nx,E,S)
section
variable{X:Cx}{st:Stmt}{rest a b:List Stmt}{f g h:Ex}{c e:Expr}{k:Ev}{pos:Pos}
theorem Av:DSs X [] Dw:=⟨Qw Y9 fun Dn σ H z=>by
 obtain⟨M,E,S,fl,E',S',e,r,st,q⟩:=z
 cases e
 exact q _ _ M (.refl st.mo) r st⟩
theorem AF(h1:DS X st f)(h2:DSs X rest g):DSs X (st::rest) (Af f g):=⟨Qw (Ve h1.pe h2.pe) fun Dn σ H z=>by
 obtain⟨M,E,S,fl,E',S',e,r,st,q⟩:=z
 obtain⟨⟨f1,E1,S1⟩,e1,e⟩:=BP e
 dsimp only at e
 split at e
 ·exact⟨M,E,S,.nx,E1,S1,e1,r,st,fun σ1 H1 M1 g1 r1 st1=>⟨M1,E1,S1,fl,E',S',e,r1,st1,q.later g1⟩⟩
 ·cases e
  exact⟨M,E,S,.ret _,_,_,e1,r,st,q⟩⟩
theorem AI(h1:DS X st f):DSs X [st] f:=⟨ZG h1.pe⟩
noncomputable def xIf(c:Ev)(f g:Ex):Ex:=fun E S=>(c E S).bind fun r=>match r.1 with
 | .bl true=>f E r.2
 | .bl false=>g E r.2
 |_=>none
theorem B7(hc:DT X c k)(ha:DSs X a f)(hb:DSs X b g):DS X (.If c a b pos) (xIf k f g):=⟨GO (eZ hc.pe ha.pe hb.pe) fun Dn σ H z=>by
 obtain⟨M,E,S,fl,E',S',e,r,st,q⟩:=z
 obtain⟨⟨w1,S1⟩,e1,e⟩:=BP e
 dsimp only at e
 split at e
 ·refine⟨M,E,S,_,S1,e1,r,st,fun H1 M1 g1 st1=>?_⟩
  refine Yp ?_
  exact⟨M1,E,S1,fl,E',S',e,r.step g1.st,st1,q.later g1⟩
 ·refine⟨M,E,S,_,S1,e1,r,st,fun H1 M1 g1 st1=>?_⟩
  refine Y7 ?_
  exact⟨M1,E,S1,fl,E',S',e,r.step g1.st,st1,q.later g1⟩
 ·cases e⟩
noncomputable def BR(k:Ev):Ex:=fun E S=>(k E S).map fun r=>(.ret r.1,E,r.2)
theorem AS(h:DE X e k):DS X (.Return (some e) pos) (BR k):=⟨GO (Zu h.pe) fun Dn σ H z=>by
 obtain⟨M,E,S,fl,E',S',e,r,st,q⟩:=z
 obtain⟨⟨d,S1⟩,e1,e⟩:=NG e
 cases e
 exact⟨M,E,S,d,S1,e1,r,st,fun v H1 M1 g1 st1 r1=>q _ _ M1 g1 st1 r1⟩⟩
end
section
variable{K:PySem.W.Frag}{M:Ms}{E:En}{σ:Sg}{H:Hp}{i:Nat}{d:D}{v:V}
theorem EnR.put(r:EnR K M E σ H)(rd:ER K M H v d):EnR K M (E.set i (some d)) (σ.set i (some v)) H:=by
 refine⟨by rw[List.length_set,List.length_set];exact r.len,fun j e ej=>?_⟩
 by_cases h:i=j
 ·subst h
  by_cases hi:i<E.length
  ·rw[List.getElem?_set_self hi]at ej
   cases ej
   exact⟨v,List.getElem?_set_self (by rw[←r.len];exact hi),rd⟩
  ·rw[List.getElem?_eq_none_iff.mpr (by rw[List.length_set];omega)]at ej;cases ej
 ·rw[List.getElem?_set_ne h]at ej
  obtain⟨v',h1,h2⟩:=r.val j e ej
  exact⟨v',by rw[List.getElem?_set_ne h];exact h1,h2⟩
end
noncomputable def Bp(i:Nat)(k:Ev):Ex:=fun E S=>(k E S).map fun r=>(.nx,E.set i (some r.1),r.2)
theorem Ah{X:Cx}{e:Expr}{k:Ev}{pos pos':Pos}(i:Nat){x:Str}(h:DE X e k)(hN:X.N.Nodup)(hi:X.N[i]?=some x:=by rfl)(hx:Loc X.env.scope x:=by first|exact Or.inl rfl|exact Or.inr rfl)
  (hs:swapsWith e (some (.Name x pos')) pos.line X.env=pure false:=by rfl) (hf:X.fn x=true∨X.env.scope.names.lookup x=some .local:=by first|exact .inl rfl|exact .inr rfl):DS X (.Assign [.Name x pos'] e pos) (Bp i k):=⟨
 GO (av hN hi hx h.pe hs hf) fun Dn σ H z=>by
  obtain⟨M,E,S,fl,E',S',e,r,st,q⟩:=z
  obtain⟨⟨d,S1⟩,e1,e⟩:=NG e
  cases e
  exact⟨M,E,S,d,S1,e1,r,st,fun v H1 M1 g1 st1 r1=>q _ _ M1 g1 ((r.step g1.st).put r1) st1⟩⟩
noncomputable def EO(k:Ev):Ex:=fun E S=>(k E S).map fun r=>(.nx,E,r.2)
theorem Cs{X:Cx}{e:Expr}{k:Ev}{pos:Pos}(h:DE X e k)(hs:swapsWith e none pos.line X.env=pure false:=by rfl):DS X (.Expr e pos) (EO k):=⟨GO (ZM h.pe hs) fun Dn σ H z=>by
 obtain⟨M,E,S,fl,E',S',e,r,st,q⟩:=z
 obtain⟨⟨d,S1⟩,e1,e⟩:=NG e
 cases e
 exact⟨M,E,S,d,S1,e1,r,st,fun v H1 M1 g1 st1 r1=>q _ _ M1 g1 (r.step g1.st) st1⟩⟩
noncomputable def E5(S:Sto)(n:Nat):Option (List D):=match S[n]? with
 |some (.lst ds)=>some ds
 |_=>none
theorem FQ{S:Sto}{n:Nat}{ds:List D}(h:E5 S n=some ds):S[n]?=some (.lst ds):=by
 unfold E5 at h
 split at h
 ·rename_i e
  cases h
  exact e
 ·cases h
abbrev Mo:=Sto->List D->List D->Option (D×List D)
noncomputable def O3(op:Mo)(f:Ev)(fs:List Ev):Ev:=fun E S=>(f E S).bind fun r=>match r.1 with
 | .ref n=>(E5 r.2 n).bind fun _=>(evs fs E r.2).bind fun p=>(E5 p.2 n).bind fun ds=>(op p.2 ds p.1).map fun q=>(q.1,p.2.set n (.lst q.2))
 |_=>none
def cx(K:PySem.W.Frag)(op:Mo):V->List V->Hp->VK->Prop:=fun x vs H Q=>∃M S n a ds args d ds',x=.ref a/\M.cel[n]?=some a/\S[n]?=some (.lst ds)/\op S ds args=some (d,ds')/\StR K M S H/\Au K M H vs args/\∀v H',StR K M (S.set n (.lst ds')) H'->Gr M H M H'->ER K M H' v d->Q v H'
section
variable{X:Cx}
theorem bp{op:Mo}{f:Ev}{fs:List Ev}{σ:Sg}{H:Hp}{Q:VK}(h:tD X.K (O3 op f fs) σ H Q):tBM X.K "list" (cx X.K op) (tD X.K f) (tDs X.K fs) σ H Q:=by
  obtain⟨M,E,S,d,S',e,r,st,q⟩:=h
  obtain⟨⟨d1,S1⟩,e1,e⟩:=BP e
  dsimp only at e
  split at e
  · rename_i n
    obtain⟨ds0,e2,e⟩:=BP e
    obtain⟨⟨args,S2⟩,e3,e⟩:=BP e
    obtain⟨ds,e4,e⟩:=BP e
    obtain⟨⟨dd,ds'⟩,e5,e⟩:=NG e
    cases e
    refine⟨M,E,S,_,S1,e1,r,st,fun v H1 M1 g1 st1 r1=>?_⟩
    cases r1 with
    | ref hc =>
      rename_i a
      obtain⟨xs,h1,h2⟩:=st1.cell n a _ hc (FQ e2)
      refine⟨.inl ⟨rfl,xs,.of h1⟩,?_⟩
      refine JG e3 (r.step g1.st) st1 fun vs H2 M2 g2 st2 r2=>?_
      exact⟨M2,S2,n,a,ds,args,dd,ds',rfl,Oj g2.pre hc,FQ e4,e5,st2,r2,fun v H3 st3 g3 r3=>q _ _ M2 ((g1.trans g2).trans g3) st3 r3⟩
  ·cases e
theorem Jv{id:String}{name:Str}{o e:Expr}{es:List Expr}{op:Mo}{f:Ev}{fs:List Ev}{apos cpos:Pos}(slot:Slot "list" name id)(hty:typeOf (.builtin id)=pure (.type "method_descriptor"))(hm:MtR X id (cx X.K op))(ho:DE X o f)(ha:DEs X (e::es) fs)
  (hbase:attributeBase o name X.env (eval o X.env)=eval o X.env:=by rfl)
  (hfew:((backTo cpos (starEach (e::es) X.env)).all (fun x=> !x.1) && (backToKw cpos (keywordEach [] X.env)).all (fun x=>x.1.isSome)
   && decide ((e::es).length+([]:List Keyword).length+(if([]:List Keyword).isEmpty then 0 else 1)<30))=true:=by rfl)
  (hline:(apos.endLine==cpos.line)=true:=by rfl) (hs:starEach (e::es) X.env=(false,eval e X.env)::starEach es X.env:=by rfl) (hplain:(backTo cpos (starEach es X.env)).any (·.1)=false:=by rfl):
  DE X (.Call (.Attribute o name apos) (e::es) [] cpos) (O3 op f fs):=⟨CY (eF PySem.F.plainAttrs_list slot hty hm ho.pe ha.pe hbase hfew hline hs hplain) fun σ H Q z=>bp z⟩
noncomputable def QD:Mo
 |_,ds,[x]=>if ds.length<sizeLine then some (.non,ds++[x])else none
 |_,_,_=>none
theorem RT{K:PySem.W.Frag}{M:Ms}{H:Hp}{vs:List V}{d:D}(h:Au K M H vs [d]):∃v,vs=[v]/\ER K M H v d:=by
 cases h with
 |cons h t=>cases t;exact⟨_,rfl,h⟩
theorem IX:MtR X "list.append" (cx X.K QD):=by
 intro pins s σ H x vs v us Q I rx rv h
 obtain⟨M,S,n,a,ds,args,d,ds',rfl,hc,hn,e,st,ra,q⟩:=h
 unfold QD at e
 split at e
 ·split at e
  ·rename_i hz
   cases e
   obtain⟨xs,h1,h2⟩:=st.cell n a _ hc hn
   obtain⟨y,rfl,ry⟩:=RT ra
   obtain⟨st2,g2⟩:=st.chg hc hn (h2.append (.cons ry .nil))
   exact P6 pins s σ H _ _ v us Q I rx rv ⟨a,xs,y,rfl,rfl,h1,by rw[h2.length];exact hz,q _ _ st2 g2 .non⟩
  ·cases e
 ·cases e
end
noncomputable def Mn(k f o:Ev):Ex:=fun E S=>(k E S).bind fun r=>(f E r.2).bind fun b=>(o E b.2).bind fun i=>match b.1,i.1 with
 | .ref n,.int j=>(E5 i.2 n).bind fun ds=>(ixN ds.length j).map fun m=>(.nx,E,i.2.set n (.lst (ds.set m r.1)))
 |_,_=>none
theorem CK{X:Cx}{e t bs:Expr}{k f o:Ev}{ps pos:Pos}(h:DE X e k)(hb:DE X bs f)(ht:DE X t o)
    (ha:∀v,assign (.Subscript bs t ps) X.env v=(do
      let ov←holding [v] (eval bs X.env)
      let iv←holding [v,ov] (eval t X.env)
      standAt ps
      holding [v,ov,iv] (setItem ov iv v)
      release [v,ov,iv] []):=by intro _;rfl)
    (hs:swapsWithSole [.Subscript bs t ps] e pos.line X.env=pure false:=by rfl) (hw:swappedStores [.Subscript bs t ps] e X.env=pure none:=by rfl)
    (h1:(assignEach [.Subscript bs t ps] X.env).map (·.2)=[assign (.Subscript bs t ps) X.env]:=by rfl):
    DS X (.Assign [.Subscript bs t ps] e pos) (Mn k f o):=⟨
  GO (Xp h.pe (aT hb.pe ht.pe set_list ha) hs hw h1) fun Dn σ H z=>by
    obtain⟨M,E,S,fl,E',S',e,r,st,q⟩:=z
    obtain⟨⟨d,S1⟩,e1,e⟩:=BP e
    obtain⟨⟨b,S2⟩,e2,e⟩:=BP e
    obtain⟨⟨i,S3⟩,e3,e⟩:=BP e
    dsimp only at e e1 e2 e3
    split at e
    · rename_i n j _
      obtain⟨ds,e4,e⟩:=BP e
      obtain⟨m,e5,e⟩:=NG e
      cases e
      refine⟨M,E,S,d,S1,e1,r,st,fun v H1 M1 g1 st1 r1=>?_⟩
      refine⟨M1,E,S1,_,S2,e2,r.step g1.st,st1,fun bv H2 M2 g2 st2 r2=>?_⟩
      refine⟨M2,E,S2,_,S3,e3,(r.step g1.st).step g2.st,st2,fun iv H3 M3 g3 st3 r3=>?_⟩
      cases r3
      cases r2 with
      | ref hc =>
        rename_i a
        have hc3:=Oj g3.pre hc
        obtain⟨xs,h1,h2⟩:=st3.cell n a _ hc3 (FQ e4)
        obtain⟨st4,g4⟩:=st3.chg hc3 (FQ e4) (h2.set ((r1.step g2.st).step g3.st) m)
        have g:=((g1.trans g2).trans g3).trans g4
        exact⟨a,xs,j,m,rfl,rfl,h1,by rw[h2.length];exact e5,q _ _ M3 g (r.step g.st) st4⟩
    ·cases e⟩
abbrev Fn:=List D->Sto->Option (D×Sto)
noncomputable def flD:Fl->D
 | .nx=>.non
 | .ret d=>d
noncomputable def A3(N:Nat)(body:Ex):Fn:=fun ds S=>(body (ds.map some++List.replicate (N-ds.length) none) S).map fun r=>(flD r.1,r.2.2)
def A1{α:Type}(a:α):α:=Classical.choose (⟨a,rfl⟩:∃x,x=a)
theorem T4{α:Type}(a:α):A1 a=a:=Classical.choose_spec (⟨a,rfl⟩:∃x,x=a)
noncomputable def spD(K:PySem.W.Frag)(np:Nat)(f:Fn):Sp:=fun vs H Q _=>∃M ds S d S',ds.length=np/\f ds S=some (d,S')/\Au K M H vs ds/\StR K M S H/\∀v H' M',Gr M H M' H'->StR K M' S' H'->ER K M' H' v d->Q v H'
theorem Pf{α:Type}{xs:List α}{i:Nat}{x:α}(h:(xs.map some)[i]?=some (some x)):xs[i]?=some x:=by
 rw[List.getElem?_map]at h
 cases e:xs[i]? with
 |none=>rw[e]at h;cases h
 |some y=>rw[e]at h;cases h;rfl
theorem TB{α:Type}{xs:List (Option α)}{k i:Nat}{x:α}(h:(xs++List.replicate k none)[i]?=some (some x)):xs[i]?=some (some x):=by
 by_cases hi:i<xs.length
 ·rw[List.getElem?_append_left hi]at h;exact h
 ·rw[List.getElem?_append_right (by omega),List.getElem?_replicate]at h
  split at h<;>cases h
theorem Ym{α:Type}{xs:List (Option α)}{k i:Nat}{x:Option α}(h:xs[i]?=some x):(xs++List.replicate k none)[i]?=some x:=by
 rw[List.getElem?_append_left (List.getElem?_eq_some_iff.mp h).1];exact h
theorem EnR.args{K:PySem.W.Frag}{M:Ms}{H:Hp}{vs:List V}{ds:List D}(r:Au K M H vs ds)(k:Nat):EnR K M (ds.map some++List.replicate k none) (vs.map some++List.replicate k none) H:=by
 refine⟨by simp[r.length],fun i d e=>?_⟩
 obtain⟨v,h1,h2⟩:=r.get (Pf (TB e))
 exact⟨v,Ym (by rw[List.getElem?_map,h1];rfl),h2⟩
section
variable{P:Program}{w:World}{K:PySem.W.Frag}{mg:Str->Option Value}{base:Heap}
theorem af{x:Str}{st:Stmt}{f:Addr}{fd:FuncData}{N ps:List Str}{k np:Nat}{b:Ex}(Fu:Fun K x x st f fd)(S:AR N ps (AH st))(hp:ps.length=np)
  (hb:∀(cdv:Value) (A:Around) (outer:List PySem.Env) (s:Shared) (H:Hp) (E:XK),NX k (A.deeper (PyProof.Rows.envOfC x (AH st) s.heap.objs.size f cdv))->DSs (X6 CX0 P w K mg base N x (AH st) f cdv A outer s H E).nox (G4 st) b):
  Po P w K mg base CX0 (k+1) f fd ps (spD K np (A1 (A3 N.length b))):=by
 rw[T4]
 refine Fu.ok S (fun vs H Q E h=>?_) (fun cdv A outer s H vs Q E hr h=>?_)
 ·obtain⟨M,ds,S0,d,S',hl,_,r,_⟩:=h
  have:=r.length
  omega
 ·obtain⟨M,ds,S0,d,S',hl,e,r,st,q⟩:=h
  have hlen:=r.length
  refine⟨_,(hb cdv A outer s H E hr).pe,?_⟩
  obtain⟨⟨fl,E',S1⟩,e1,e⟩:=NG e
  cases e
  refine⟨M,_,S0,fl,E',S1,e1,?_,st,?_⟩
  ·rw[show L2.start N vs=vs.map some++List.replicate (N.length-ds.length) none from by unfold L2.start;rw[hlen]]
   exact .args r _
  ·cases fl with
   |nx=>exact fun σ' H' M' g _ st'=>q _ _ M' g st' .non
   |ret d=>exact fun v H' M' g st' r'=>q _ _ M' g st' r'
theorem Ac{x:Str}{st:Stmt}{N ps:List Str}{k np:Nat}{b:Ex}(S:St.Src K mg x st)(sc:AR N ps (AH st))(hp:ps.length=np)
  (hbi:∀f fd,Fun K x x st f fd->Binds K fd ps [])
  (hb:∀(f:Addr) (cdv:Value) (A:Around) (outer:List PySem.Env) (s:Shared) (H:Hp) (E:XK),NX k (A.deeper (PyProof.Rows.envOfC x (AH st) s.heap.objs.size f cdv))->DSs (X6 CX0 P w K mg base N x (AH st) f cdv A outer s H E).nox (G4 st) b):
  St.Dfn P w K mg base x (k+1) ps (spD K np (A1 (A3 N.length b))):=by
 obtain⟨f,fd,Fu,hm⟩:=S.ex
 exact⟨f,fd,hm,Fu.kp,hbi f fd Fu,af Fu sc hp fun cdv A outer s H E hr=>hb f cdv A outer s H E hr⟩
end
noncomputable def AJ(f:Fn)(fs:List Ev):Ev:=fun E S=>(evs fs E S).bind fun r=>f r.1 r.2
theorem ZR{K:PySem.W.Frag}{np:Nat}{f:Fn}{fs:List Ev}{σ:Sg}{H:Hp}{Q:VK}(hn:fs.length=np)(h:tD K (AJ f fs) σ H Q):Zg (spD K np f) [] E0 (tDs K fs) σ H Q:=by
 obtain⟨M,E,S,d,S',e,r,st,q⟩:=h
 obtain⟨⟨ds,S1⟩,e1,e⟩:=BP e
 refine JG e1 r st fun vs H1 M1 g1 st1 r1=>?_
 rw[List.append_nil]
 exact⟨M1,ds,S1,d,S',by rw[QV e1];exact hn,e,r1,st1,fun v H2 M2 g2 st2 r2=>q _ _ M2 (g1.trans g2) st2 r2⟩
theorem AG{X:Cx}{k np:Nat}{x:Str}{ps:List Str}{f:Fn}{e:Expr}{es:List Expr}{fs:List Ev}{p pos:Pos}(d:St.Dfn X.prog X.w X.K X.mg X.base x k ps (spD X.K np f))(hr:NX k X.A)(hg:Gl X x)(ha:DEs X (e::es) fs)
  (hn:fs.length=np:=by rfl) (hdb:(x==("__debug__":Str))=false:=by decide) (he:starEach (e::es) X.env=(false,eval e X.env)::starEach es X.env:=by rfl) (hpl:(backTo pos (starEach es X.env)).any (·.1)=false:=by rfl):
  DE X (.Call (.Name x p) (e::es) [] pos) (AJ f fs):=⟨CY (St.gA d hr hg ha.pe hdb he hpl) fun σ H Q z=>ZR hn z⟩
abbrev Tf:=D->En->Sto->Option En
noncomputable def tG(K:PySem.W.Frag)(t:Tf):TG:=fun v σ H Q=>∃M d E E' S,t d E S=some E'/\EnR K M E σ H/\StR K M S H/\ER K M H v d/\∀σ',EnR K M E' σ' H->Q σ' H
structure DG(X:Cx)(tg:Expr)(t:Tf):Prop where
 pe:PG X tg (tG X.K t)
noncomputable def tNm(i:Nat):Tf:=fun d E _=>some (E.set i (some d))
theorem Td{X:Cx}{e:Expr}{t t':TG}(h:PG X e t)(m:∀v σ H Q,t' v σ H Q->t v σ H Q):PG X e t':=fun pins s σ H v u Q I r q=>h pins s σ H v u Q I r (m _ _ _ _ q)
theorem Ad{X:Cx}{pos:Pos}(i:Nat){x:Str}(hN:X.N.Nodup)(hi:X.N[i]?=some x:=by rfl)(hx:Loc X.env.scope x:=by first|exact Or.inl rfl|exact Or.inr rfl)
  (hf:X.fn x=true∨X.env.scope.names.lookup x=some .local:=by first|exact .inl rfl|exact .inr rfl):DG X (.Name x pos) (tNm i):=⟨Td (Yv hN hi hx hf) fun v σ H Q z=>by
 obtain⟨M,d,E,E',S,e,r,st,rd,q⟩:=z
 cases e
 exact q _ (r.put rd)⟩
noncomputable def tMs:List Tf->List D->En->Sto->Option En
 | [],[],E,_=>some E
 |t::ts,d::ds,E,S=>(t d E S).bind fun E1=>tMs ts ds E1 S
 |_,_,_,_=>none
noncomputable def tTp(ts:List Tf):Tf:=fun d E S=>match d with
 | .tup ds=>tMs ts ds E S
 | .lst ds=>tMs ts ds E S
 | .ref n=>(E5 S n).bind fun ds=>tMs ts ds E S
 |_=>none
noncomputable def tGs(K:PySem.W.Frag):List Tf->TGs
 | []=>gd
 |t::ts=>cC (tG K t) (tGs K ts)
theorem RK{K:PySem.W.Frag}{M:Ms}{H:Hp}{S:Sto}(st:StR K M S H):∀{ts:List Tf} {ds:List D} {vs:List V} {E E':En} {σ:Sg} {Q:Sg->Hp->Prop},tMs ts ds E S=some E'->EnR K M E σ H->Au K M H vs ds->(∀σ',EnR K M E' σ' H->Q σ' H)->tGs K ts vs σ H Q
  | [],[],_,E,E',σ,Q,e,r,rd,q=>by
    cases e
    cases rd
    exact⟨rfl,q _ r⟩
  | t :: ts, d :: ds, _, E, E', σ, Q, e, r, rd, q => by
    obtain⟨E1,e1,e⟩:=BP e
    cases rd with
    |cons h1 h2=>exact⟨_,_,rfl,M,d,E,E1,S,e1,r,st,h1,fun σ1 r1=>RK st e r1 h2 q⟩
  | [],_::_,_,E,E',σ,Q,e,r,rd,q=>by cases e
  |_::_,[],_,E,E',σ,Q,e,r,rd,q=>by cases e
theorem OH:∀{ts:List Tf} {ds:List D} {E E':En} {S:Sto},tMs ts ds E S=some E'->ds.length=ts.length
  | [],[],_,_,_,_=>rfl
  | t :: ts, d :: ds, E, E', S, e => by
    obtain⟨E1,e1,e⟩:=BP e
    simp[OH e]
  | [],_::_,_,_,_,e=>by cases e
  |_::_,[],_,_,_,e=>by cases e
structure DGs(X:Cx)(es:List Expr)(ts:List Tf):Prop where
 pe:PGs X es (tGs X.K ts)
theorem BN{X:Cx}:DGs X [] []:=⟨YS⟩
theorem AN{X:Cx}{e:Expr}{es:List Expr}{t:Tf}{ts:List Tf}(h:DG X e t)(g:DGs X es ts)(hs:(assignEach (e::es) X.env).map (·.2)=assign e X.env::(assignEach es X.env).map (·.2):=by rfl):DGs X (e::es) (t::ts):=⟨Wk h.pe g.pe hs⟩
theorem Dt{X:Cx}{k:Nat}{es:List Expr}{ts:List Tf}{pos:Pos}(hc:X.calm=true)(h:DGs X es ts)(hn:(assignEach es X.env).length=ts.length:=by rfl)(hst:(assignEach es X.env).findIdx? (·.1)=none:=by rfl):DG X (.Tuple es k pos) (tTp ts):=⟨
  Td (bP hc h.pe hn hst) fun v σ H Q z=>by
    obtain⟨M,d,E,E',S,e,r,st,rd,q⟩:=z
    unfold tTp at e
    split at e
    · cases rd with
      |tup h1 h2=>exact⟨_,_,rfl,.inl h1,by rw[h2.length];exact OH e,RK st e r h2 q⟩
    · cases rd with
      |lst h1 n h2=>exact⟨_,_,rfl,.inr h1,by rw[h2.length];exact OH e,RK st e r h2 q⟩
    · obtain ⟨ds, e1, e⟩ := BP e
      cases rd with
      | ref hc =>
        obtain⟨xs,h1,h2⟩:=st.cell _ _ _ hc (FQ e1)
        exact⟨_,_,rfl,.inr h1,by rw[h2.length];exact OH e,RK st e r h2 q⟩
    ·cases e⟩
noncomputable def Nr(t:Tf)(k:Ev):Ex:=fun E S=>(k E S).bind fun r=>(t r.1 E r.2).map fun E'=>(.nx,E',r.2)
theorem Er{X:Cx}{tg e:Expr}{t:Tf}{k:Ev}{pos:Pos}(h:DE X e k)(hg:DG X tg t)(hs:swapsWithSole [tg] e pos.line X.env=pure false:=by rfl)(hw:swappedStores [tg] e X.env=pure none:=by rfl)
  (h1:(assignEach [tg] X.env).map (·.2)=[assign tg X.env]:=by rfl):DS X (.Assign [tg] e pos) (Nr t k):=⟨GO (Xp h.pe hg.pe hs hw h1) fun Dn σ H z=>by
 obtain⟨M,E,S,fl,E',S',e,r,st,q⟩:=z
 obtain⟨⟨d,S1⟩,e1,e⟩:=BP e
 obtain⟨E2,e2,e⟩:=NG e
 cases e
 exact⟨M,E,S,d,S1,e1,r,st,fun v H1 M1 g1 st1 r1=>⟨M1,d,E,_,S1,e2,r.step g1.st,st1,r1,fun σ' r2=>q _ _ M1 g1 r2 st1⟩⟩⟩
noncomputable def PV(i j:Nat)(f g:Ev):Ex:=fun E S=>(evs [f,g] E S).bind fun r=>match r.1 with
 | [d,d']=>some (.nx,(E.set i (some d)).set j (some d'),r.2)
 |_=>none
theorem JK{X:Cx}{i j:Nat}{x y:Str}{a b:Expr}{f g:Ev}{px py pt:Pos}{kt k2:Nat}{pt2 pos:Pos}(hc:X.calm=true)(hN:X.N.Nodup)(hi:X.N[i]?=some x)(hj:X.N[j]?=some y)(hij:i≠j)
    (hx:X.env.scope.names.lookup x=some .local) (hy:X.env.scope.names.lookup y=some .local) (ha:DE X a f) (hb:DE X b g)
    (hw:swappedStores [.Tuple [.Name x px,.Name y py] kt pt] (.Tuple [a,b] k2 pt2) X.env=pure (some [x,y]):=by rfl)
    (hsa:starEach [a,b] X.env=(false,eval a X.env)::starEach [b] X.env:=by rfl) (hsb:starEach [b] X.env=(false,eval b X.env)::starEach [] X.env:=by rfl)
    (hs:swapsWithSole [.Tuple [.Name x px,.Name y py] kt pt] (.Tuple [a,b] k2 pt2) pos.line X.env=pure false:=by rfl):DS X (.Assign [.Tuple [.Name x px,.Name y py] kt pt] (.Tuple [a,b] k2 pt2) pos) (PV i j f g):=⟨by
  refine GO (aW hc hN hi hj hij hx hy (Og ha.pe (Og hb.pe Uj hsb) hsa) hw hs) fun Dn σ H z=>?_
  obtain⟨M,E,S,fl,E',S',e,r,st,q⟩:=z
  obtain⟨⟨ds,S1⟩,e1,e⟩:=BP e
  refine JG (K:=X.K) (fs:=[f,g]) e1 r st fun vs H1 M1 g1 st1 r1=>?_
  dsimp only at e
  split at e
  · rename_i d d'
    cases e
    cases r1 with
    | cons h1 t =>
      cases t with
      | cons h2 t =>
        cases t
        exact⟨_,_,rfl,q _ _ M1 g1 (((r.step g1.st).put h1).put h2) st1⟩
  ·cases e⟩
noncomputable def PX:Ex:=fun _ _=>none
theorem LX{X:Cx}{st:Stmt}:DS X st PX:=⟨fun _ _ _ _ _ _ z=>by
 obtain⟨M,E,S,fl,E',S',e,_⟩:=z
 cases e⟩
abbrev Gd:=List (Nat×List D)
def gOk(gs:Gd)(S:Sto):Prop:=∀g∈gs,E5 S g.1=some g.2
abbrev Sr:=En->Sto->Option ((List D×Gd)×Sto)
structure Zr(K:PySem.W.Frag)(M:Ms)(H:Hp)(gs:Gd)(ds:List D)(J:It):Prop where
 go:∀(i:Nat) (H2:Hp) (M2:Ms) (S2:Sto),Sp1 M H M2 H2->StR K M2 S2 H2->gOk gs S2->i<ds.length->J.go i H2
 stop:∀(i:Nat) (H2:Hp) (M2:Ms) (S2:Sto),Sp1 M H M2 H2->StR K M2 S2 H2->gOk gs S2->ds.length≤i->J.stop i H2
 yld:∀(i:Nat) (H2:Hp) (M2:Ms) (S2:Sto) (x:V) (H3:Hp) (d:D),Sp1 M H M2 H2->StR K M2 S2 H2->gOk gs S2->ds[i]?=some d->J.yld i H2 x H3->(∀a o,H2 a=some o->H3 a=some o)/\ER K M2 H3 x d
noncomputable def tI(K:PySem.W.Frag)(s:Sr):TI:=fun σ H R=>∃M E S ds gs S',s E S=some ((ds,gs),S')/\EnR K M E σ H/\StR K M S H/\∀J H' M',Gr M H M' H'->StR K M' S' H'->Zr K M' H' gs ds J->R J H'
structure DI(X:Cx)(tg iter:Expr)(s:Sr):Prop where
 pe:PI X tg iter (tI X.K s)
theorem MR{X:Cx}{tg e:Expr}{t t':TI}(h:PI X tg e t)(m:∀σ H R,t' σ H R->t σ H R):PI X tg e t':=fun pins s σ H R I q=>h pins s σ H R I (m _ _ _ q)
noncomputable def iO(K:PySem.W.Frag)(tl:TE):TI:=fun σ H R=>tl σ H fun x H1=>∃a,x=.ref a/\(((∃xs,SqL K H1 a xs)/\R (Itl K a) H1)∨((∃xs,SqT K H1 a xs)/\R (Itt K a) H1))
theorem aS{X:Cx}{tg l:Expr}{tl:TE}(hl:PE X l tl):PI X tg l (iO X.K tl):=by
 intro pins s σ H R I h
 refine thn (hl pins s σ H _ I h) fun v s1 ⟨x,H1,I1,r1,q1⟩=>?_
 obtain⟨a,e,q1⟩:=q1
 subst e
 cases r1
 rcases q1 with⟨⟨xs,hq⟩,q⟩|⟨⟨xs,hq⟩,q⟩
 ·obtain⟨its,rv,p,hz⟩:=I1.list hq
  refine wpAny_pyIter_list p.isList ?_
  refine⟨s1.heap.objs.size,[s1.heap.objs.size],_,_,H1,rfl,I1.kept (t':=s1.toks) fun b o e=>Heap.get?_push_of_some _ e,Tu a _,⟨_,Heap.get?_push_size _ rfl,rfl,rfl⟩,fun b hb=>?_,q⟩
  have e:b=s1.heap.objs.size:=by simpa using hb
  subst e
  exact I1.fpOk (Nat.le_refl _) (I1.hok.fresh (Nat.le_refl _))
 ·obtain⟨its,rv,p,hz⟩:=I1.tuple hq
  refine wpAny_pyIter_tuple (show s1.heap.IsTuple a its.toArray from p) ?_
  refine⟨s1.heap.objs.size,[s1.heap.objs.size],_,_,H1,rfl,I1.kept (t':=s1.toks) fun b o e=>Heap.get?_push_of_some _ e,Rn a _,⟨_,Heap.get?_push_size _ rfl,rfl,rfl⟩,fun b hb=>?_,q⟩
  have e:b=s1.heap.objs.size:=by simpa using hb
  subst e
  exact I1.fpOk (Nat.le_refl _) (I1.hok.fresh (Nat.le_refl _))
theorem Au.get'{K:PySem.W.Frag}{M:Ms}{H:Hp}{vs:List V}{ds:List D}{i:Nat}(h:Au K M H vs ds)(hi:i<ds.length):∃x,vs[i]?=some x:=by
 have:=h.length
 exact⟨vs[i],List.getElem?_eq_getElem (by omega)⟩
structure SqF(K:PySem.W.Frag)(M:Ms)(H:Hp)(gs:Gd)(k:Bool)(a:Addr)(ds:List D):Prop where
 keep:∀(H2:Hp) (M2:Ms) (S2:Sto),Sp1 M H M2 H2->StR K M2 S2 H2->gOk gs S2->∃xs,(if k=true then SqT K H2 a xs else SqL K H2 a xs)/\Au K M2 H2 xs ds
noncomputable def sqD(S:Sto):D->Option (List D×Gd)
 | .tup ds=>some (ds,[])
 | .lst ds=>some (ds,[])
 | .ref n=>(E5 S n).map fun ds=>(ds,[(n,ds)])
 | .scr ns=>some (ns.map .int,[])
 |_=>none
theorem Lq{K:PySem.W.Frag}{M:Ms}{H:Hp}{S:Sto}{v:V}{d:D}{ds:List D}{gs:Gd}(st:StR K M S H)(h:ER K M H v d)(e:sqD S d=some (ds,gs)):∃k a,v=.ref a/\SqF K M H gs k a ds:=by
  cases h with
  |tup h r=>cases e;exact⟨true,_,rfl,⟨fun H2 M2 S2 g _ _=>⟨_,g.sqT h,r.step g⟩⟩⟩
  |lst h n r=>cases e;exact⟨false,_,rfl,⟨fun H2 M2 S2 g _ _=>⟨_,SqL.of (g.keep _ _ h n),r.step g⟩⟩⟩
  | scr h =>
    cases e
    refine⟨false,_,rfl,⟨fun H2 M2 S2 g _ _=>⟨_,?_,LS⟩⟩⟩
    rcases h with⟨h,n⟩|h
    · rcases h with h | ⟨o, h⟩
      ·exact .inl (.inl (g.keep _ _ h n))
      ·exact .inl (.inr ⟨o,g.keep _ _ h n⟩)
    ·exact .inr h
  | ref h =>
    obtain⟨es,e1,e⟩:=NG e
    cases e
    refine⟨false,_,rfl,⟨fun H2 M2 S2 g st2 ok=>?_⟩⟩
    obtain⟨xs,h1,h2⟩:=st2.cell _ _ _ (Oj g.pre h) (FQ (ok _ (List.mem_singleton.mpr rfl)))
    exact⟨xs,SqL.of h1,h2⟩
  |non=>cases e
  |bl b=>cases e
  |int b=>cases e
  |str b=>cases e
  |ty b=>cases e
  |dct h n r=>cases e
theorem fR{K:PySem.W.Frag}{M:Ms}{H:Hp}{gs:Gd}{k:Bool}{a:Addr}{ds:List D}(h:SqF K M H gs k a ds):Zr K M H gs ds (if k=true then Itt K a else Itl K a):=by
  cases k with
  | true =>
    exact{
      go:=fun i H2 M2 S2 g st ok hi=>let⟨xs,h1,h2⟩:=h.keep H2 M2 S2 g st ok;let⟨x,hx⟩:=h2.get' hi;⟨xs,x,h1,hx⟩
      stop:=fun i H2 M2 S2 g st ok hi=>let⟨xs,h1,h2⟩:=h.keep H2 M2 S2 g st ok;⟨xs,h1,by have:=h2.length;omega⟩
      yld:=fun i H2 M2 S2 x H3 d g st ok hd hy=>by
        obtain⟨xs,h1,h2⟩:=h.keep H2 M2 S2 g st ok
        obtain⟨rfl,hy⟩:=hy
        refine⟨fun _ _ e=>e,?_⟩
        have hx:=hy xs h1
        obtain⟨x',h3,h4⟩:=h2.get hd
        rw[hx]at h3;cases h3
        exact h4}
  | false =>
    exact{
      go:=fun i H2 M2 S2 g st ok hi=>let⟨xs,h1,h2⟩:=h.keep H2 M2 S2 g st ok;let⟨x,hx⟩:=h2.get' hi;⟨xs,x,h1,hx⟩
      stop:=fun i H2 M2 S2 g st ok hi=>let⟨xs,h1,h2⟩:=h.keep H2 M2 S2 g st ok;⟨xs,h1,by have:=h2.length;omega⟩
      yld:=fun i H2 M2 S2 x H3 d g st ok hd hy=>by
        obtain⟨xs,h1,h2⟩:=h.keep H2 M2 S2 g st ok
        obtain⟨rfl,hy⟩:=hy
        refine⟨fun _ _ e=>e,?_⟩
        have hx:=hy xs h1
        obtain⟨x',h3,h4⟩:=h2.get hd
        rw[hx]at h3;cases h3
        exact h4}
noncomputable def JR(f:Ev):Sr:=fun E S=>(f E S).bind fun r=>(sqD r.2 r.1).map fun p=>(p,r.2)
theorem JN{S:Sto}{d:D}{ds:List D}{gs:Gd}(e:sqD S d=some (ds,gs)):gOk gs S:=by
  cases d<;>first|(cases e;done)|skip
  all_goals first
    |(cases e;intro g hg;cases hg;done)
    | (obtain ⟨es, e1, e⟩ := NG e
       cases e
       intro g hg
       rw[List.mem_singleton.mp hg]
       exact e1)
theorem DR{X:Cx}{tg e:Expr}{f:Ev}(h:DE X e f):DI X tg e (JR f):=⟨MR (aS h.pe) fun σ H R z=>by
 obtain⟨M,E,S,ds,gs,S',e,r,st,q⟩:=z
 obtain⟨⟨d,S1⟩,e1,e⟩:=BP e
 obtain⟨⟨ds',gs'⟩,e2,e⟩:=NG e
 cases e
 refine⟨M,E,S,d,S1,e1,r,st,fun v H1 M1 g1 st1 r1=>?_⟩
 obtain⟨k,a,rfl,sq⟩:=Lq st1 r1 e2
 obtain⟨xs,hs,_⟩:=sq.keep H1 M1 S1 (Gr.refl st1.mo).st st1 (JN e2)
 have it:=fR sq
 refine⟨a,rfl,?_⟩
 cases k with
 |true=>exact .inr ⟨⟨xs,hs⟩,q _ _ M1 g1 st1 it⟩
 |false=>exact .inl ⟨⟨xs,hs⟩,q _ _ M1 g1 st1 it⟩⟩
noncomputable def LM(lo:Int)(n:Nat):List D:=(List.range n).map fun(i:Nat)=>.int (lo+(i:Int))
theorem Zt{K:PySem.W.Frag}{M:Ms}{H:Hp}{lo:Int}{n:Nat}:Zr K M H [] (LM lo n) (Itr lo n) where
  go := fun i H2 M2 S2 g st ok hi => by
    have:i<n:=by unfold LM at hi;simpa using hi
    exact this
  stop:=fun i H2 M2 S2 g st ok hi=>by
    have:n≤i:=by unfold LM at hi;simpa using hi
    exact this
  yld := fun i H2 M2 S2 x H3 d g st ok hd hy => by
    obtain⟨rfl,rfl⟩:=hy
    refine⟨fun _ _ e=>e,?_⟩
    unfold LM at hd
    rw[List.getElem?_map]at hd
    cases e:(List.range n)[i]? with
    |none=>rw[e]at hd;cases hd
    | some j =>
      rw[e]at hd
      cases hd
      have:j=i:=by
        obtain⟨h1,h2⟩:=List.getElem?_eq_some_iff.mp e
        simpa using h2.symm
      subst this
      exact .int _
noncomputable def Mq(fs:List Ev):Sr:=fun E S=>(evs fs E S).bind fun r=>match r.1 with
 | [.int j]=>if(decide (-(2^62)≤j) && decide (j<2^62))=true then some ((LM 0 j.toNat,[]),r.2)else none
 | [.int i,.int j]=>if(decide (-(2^62)≤i) && decide (i<2^62) && decide (-(2^62)≤j) && decide (j<2^62))=true then some ((LM i (j-i).toNat,[]),r.2)else none
 |_=>none
theorem WB{K:PySem.W.Frag}{M:Ms}{H:Hp}{vs:List V}{j:Int}(h:Au K M H vs [.int j]):vs=[.int j]:=by
 cases h with
 |cons h t=>cases t;cases h;rfl
theorem EB{X:Cx}{tg a:Expr}{o:Ev}{p pos:Pos}(hg:Gl X "range")(hm:X.mg "range"=none)(ha:DEs X [a] [o])(hs:starEach [a] X.env=[(false,eval a X.env)]:=by rfl):DI X tg (.Call (.Name "range" p) [a] [] pos) (Mq [o]):=⟨
 MR (UC hg hm ha.pe hs) fun σ H R z=>by
  obtain⟨M,E,S,ds,gs,S',e,r,st,q⟩:=z
  obtain⟨⟨ws,S1⟩,e1,e⟩:=BP e
  have hl:=QV e1
  refine JG e1 r st fun vs H1 M1 g1 st1 r1=>?_
  dsimp only at e
  split at e
  ·split at e
   ·rename_i j hk
    rw[Bool.and_eq_true]at hk
    cases e
    exact⟨j,WB r1,of_decide_eq_true hk.1,of_decide_eq_true hk.2,q _ _ M1 g1 st1 Zt⟩
   ·cases e
  ·simp at hl
  ·cases e⟩
open Classical in
def NN(gs:Gd)(t:Tf)(body:Ex):List D->En->Sto->Option (Fl×En×Sto)
  | [],E,S=>if gOk gs S then some (.nx,E,S)else none
  | d :: ds, E, S => if gOk gs S then (t d E S).bind fun E1 => (body E1 S).bind fun r => match r.1 with
    | .nx=>NN gs t body ds r.2.1 r.2.2
    | .ret w=>some (.ret w,r.2)
    else none
def Mp(s:Sr)(t:Tf)(body:Ex):Ex:=fun E S=>(s E S).bind fun r=>NN r.1.2 t body r.1.1 E r.2
theorem O5{α:Type}{xs:List α}{i:Nat}{x:α}{r:List α}(h:xs.drop i=x::r):xs[i]?=some x/\xs.drop (i+1)=r/\i<xs.length:=by
 have hi:i<xs.length:=by
  by_cases hi:i<xs.length
  ·exact hi
  ·rw[List.drop_eq_nil_of_le (by omega)]at h;cases h
 rw[List.drop_eq_getElem_cons hi]at h
 cases h
 exact⟨List.getElem?_eq_getElem hi,rfl,hi⟩
theorem FI{X:Cx}{tg iter:Expr}{body:List Stmt}{s:Sr}{t:Tf}{b:Ex}{pos:Pos}(hp:PassesOwn (model X.prog X.w) X.A X.env X.xe)(hc:X.calm=true)(hi:DI X tg iter s)(hg:DG X tg t)(hb:DSs X body b)
    (hs:∀x,foldedSetIterable iter X.env x=pure x:=by intro _;rfl):DS X (.For tg iter body [] pos) (Mp s t b):=⟨GO (bq hp hc hi.pe hg.pe hb.pe hs) fun Dn σ H z=>by
  obtain⟨M,E,S,fl,E',S',e,r,st,q⟩:=z
  obtain⟨⟨⟨ds,gs⟩,S1⟩,e1,e⟩:=BP e
  dsimp only at e
  refine⟨M,E,S,ds,gs,S1,e1,r,st,fun J H1 M1 g1 st1 it=>?_⟩
  refine⟨fun i m σ' H'=>m=ds.length-i/\∃E2 S2 M2,NN gs t b (ds.drop i) E2 S2=some (fl,E',S')/\Gr M1 H1 M2 H'/\EnR X.K M2 E2 σ' H'/\StR X.K M2 S2 H',⟨_,rfl,E,S1,M1,e,.refl st1.mo,r.step g1.st,st1⟩,fun i m σ2 H2 hW=>?_⟩
  obtain⟨rfl,E2,S2,M2,e2,g2,r2,st2⟩:=hW
  cases ed:ds.drop i with
  | nil =>
    rw[ed]at e2
    unfold NN at e2
    split at e2
    · rename_i ok
      cases e2
      left
      exact⟨it.stop i H2 M2 _ g2.st st2 ok (List.drop_eq_nil_iff.mp ed),q _ _ M2 (g1.trans g2) r2 st2⟩
    ·cases e2
  | cons d rest =>
    obtain⟨d1,d2,d3⟩:=O5 ed
    rw[ed]at e2
    unfold NN at e2
    split at e2
    · rename_i ok
      obtain⟨E3,e3,e2⟩:=BP e2
      obtain⟨⟨f4,E4,S4⟩,e4,e2⟩:=BP e2
      dsimp only at e2
      right
      refine⟨it.go i H2 M2 S2 g2.st st2 ok d3,fun σ' H'=>∃m',m'<ds.length-i/\(m'=ds.length-(i+1)/\∃E2 S2 M2,NN gs t b (ds.drop (i+1)) E2 S2=some (fl,E',S')/\Gr M1 H1 M2 H'/\EnR X.K M2 E2 σ' H'/\StR X.K M2 S2 H'),fun σ' H' z=>z,fun x H3 hy=>?_⟩
      obtain⟨k3,rx⟩:=it.yld i H2 M2 S2 x H3 d g2.st st2 ok d1 hy
      have g3:Gr M2 H2 M2 H3:=.grow st2.mo k3
      refine⟨M2,d,E2,E3,S2,e3,r2.step g3.st,st2.grow k3,rx,fun σ4 r4=>?_⟩
      refine⟨M2,E3,S2,f4,E4,S4,e4,r4,st2.grow k3,?_⟩
      split at e2
      ·exact fun σ6 H6 M6 g6 r6 st6=>⟨_,by omega,rfl,E4,S4,M6,by rw[d2];exact e2,(g2.trans g3).trans g6,r6,st6⟩
      · cases e2
        exact fun v H6 M6 g6 st6 r6=>q _ _ M6 (((g1.trans g2).trans g3).trans g6) st6 r6
    ·cases e2⟩
noncomputable def IP(c:Ev)(b:Ex):Nat->En->Sto->Option (Fl×En×Sto)
  |0,_,_=>none
  | k + 1, E, S => (c E S).bind fun r => match r.1 with
    | .bl true=>(b E r.2).bind fun p=>match p.1 with
      | .nx=>IP c b k p.2.1 p.2.2
      | .ret w=>some (.ret w,p.2)
    | .bl false=>some (.nx,E,r.2)
    |_=>none
noncomputable def Ph(fuel:En->Nat)(c:Ev)(b:Ex):Ex:=fun E S=>IP c b (fuel E) E S
theorem RX {X : Cx} {c : Expr} {body : List Stmt} {k : Ev} {b : Ex} {pos : Pos} (fuel : En -> Nat) (hp : PassesOwn (model X.prog X.w) X.A X.env X.xe) (hc : DT X c k) (hb : DSs X body b) : DS X (.While c body [] pos) (Ph fuel k b) := ⟨
  GO (VU hp hc.pe hb.pe) fun Dn σ H z=>by
    obtain⟨M,E,S,fl,E',S',e,r,st,q⟩:=z
    refine⟨fun m σ' H'=>∃E2 S2 M2,IP k b m E2 S2=some (fl,E',S')/\Gr M H M2 H'/\EnR X.K M2 E2 σ' H'/\StR X.K M2 S2 H',⟨fuel E,E,S,M,e,.refl st.mo,r,st⟩,fun m σ2 H2 hW=>?_⟩
    obtain⟨E2,S2,M2,e2,g2,r2,st2⟩:=hW
    cases m with
    |zero=>cases e2
    | succ m =>
      obtain⟨⟨w3,S3⟩,e3,e2⟩:=BP e2
      dsimp only at e2
      split at e2
      · obtain ⟨⟨f4, E4, S4⟩, e4, e2⟩ := BP e2
        refine⟨M2,E2,S2,true,S3,e3,r2,st2,fun H3 M3 g3 st3=>?_⟩
        refine Yp ⟨fun σ' H'=>∃m',m'<m+1/\∃E2 S2 M2,IP k b m' E2 S2=some (fl,E',S')/\Gr M H M2 H'/\EnR X.K M2 E2 σ' H'/\StR X.K M2 S2 H',fun σ' H' z=>z,?_⟩
        refine⟨M3,E2,S3,f4,E4,S4,e4,r2.step g3.st,st3,?_⟩
        dsimp only at e2
        split at e2
        ·exact fun σ5 H5 M5 g5 r5 st5=>⟨m,by omega,E4,S4,M5,e2,(g2.trans g3).trans g5,r5,st5⟩
        · cases e2
          exact fun v H5 M5 g5 st5 r5=>q _ _ M5 ((g2.trans g3).trans g5) st5 r5
      · cases e2
        refine⟨M2,_,S2,false,_,e3,r2,st2,fun H3 M3 g3 st3=>?_⟩
        refine Y7 ?_
        exact q _ _ M3 (g2.trans g3) (r2.step g3.st) st3
      ·cases e2⟩
noncomputable def Rp(i:Nat):En->Nat:=fun E=>match at? E i with
 |some (.int j)=>j.natAbs+2
 |_=>0
section
variable{K:PySem.W.Frag}{M M' M2:Ms}{H H' H2:Hp}{S:Sto}
structure GrX(M:Ms)(H:Hp)(M':Ms)(H':Hp):Prop where
 pre:M.cel <+: M'.cel
 fresh:∀a,a∈M'.cel->a∈M.cel∨H a=none
 keep:∀a o,H a=some o->a∉M.cel->H' a=some o
 some:∀a,H a≠none->H' a≠none
theorem GrX.none(g:GrX M H M' H'){a:Addr}(h:H' a=none):H a=none:=by
 cases e:H a with
 |none=>rfl
 |some o=>exact absurd h (g.some a (by rw[e];intro z;cases z))
theorem Gr.x(g:Gr M H M' H'):GrX M H M' H':=⟨g.pre,g.fresh,g.keep,g.some⟩
theorem GrX.trans(h:GrX M H M' H')(g:GrX M' H' M2 H2):GrX M H M2 H2:=
 ⟨h.pre.trans g.pre,fun a z=>(g.fresh a z).elim (h.fresh a) fun z=>.inr (h.none z),fun a o e n=>g.keep a o (h.keep a o e n) (fun z=>by
  rcases h.fresh a z with z|z
  ·exact n z
  ·rw[e]at z;cases z),fun a e=>g.some a (h.some a e)⟩
theorem StR.tmp_on(r:StR K M S H){a:Addr}(e:H a=none):StR K ⟨M.cel,a::M.tmp⟩ S (upd H a (.lst []))/\GrX M H ⟨M.cel,a::M.tmp⟩ (upd H a (.lst []))/\Sp1 M H ⟨M.cel,a::M.tmp⟩ (upd H a (.lst [])):=by
 have k:∀b o,H b=some o->upd H a (.lst []) b=some o:=HF e
 have na:¬M.mem a:=fun z=>r.mo.some z e
 have s1:Sp1 M H ⟨M.cel,a::M.tmp⟩ (upd H a (.lst [])):=⟨r.mo,List.prefix_rfl,fun b z=>by
  rcases z with z|z
  ·exact .inl (.inl z)
  ·rcases List.mem_cons.mp z with z|z
   ·subst z;exact .inr e
   ·exact .inl (.inr z),fun b o eb _=>k b o eb⟩
 refine⟨⟨fun b z=>?_,r.nd,fun b hb z=>?_,r.len,fun n b c h1 h2=>?_⟩,⟨List.prefix_rfl,fun b z=>.inl z,fun b o eb _=>k b o eb,fun b eb z=>?_⟩,s1⟩
 ·by_cases h:b=a
  ·subst h;exact .inl ⟨[],B5⟩
  ·rw[Aw h]
   refine r.mo b ?_
   rcases z with z|z
   ·exact .inl z
   ·rcases List.mem_cons.mp z with z|z
    ·exact absurd z h
    ·exact .inr z
 ·rcases List.mem_cons.mp hb with hb|hb
  ·subst hb;exact na (.inl z)
  ·exact r.nt b hb z
 ·have q:=r.cell n b c h1 h2
  cases c with
  |lst ds=>obtain⟨xs,e,rr⟩:=q;exact⟨xs,k _ _ e,rr.step s1⟩
  |dct ds=>obtain⟨xs,e,rr⟩:=q;exact⟨xs,k _ _ e,rr.step s1⟩
 ·cases h:H b with
  |none=>exact eb h
  |some o=>rw[k b o h]at z;cases z
theorem StR.tmp_app(r:StR K M S H){a:Addr}{ys:List V}(ha:a∈M.tmp):StR K M S (upd H a (.lst ys))/\Sp1 M H M (upd H a (.lst ys)):=by
 have s1:Sp1 M H M (upd H a (.lst ys)):=⟨r.mo,List.prefix_rfl,fun b z=>.inl z,fun b o eb nb=>by rw[Aw (fun z=>nb (by rw[z];exact .inr ha))];exact eb⟩
 refine⟨⟨fun b z=>?_,r.nd,r.nt,r.len,fun n b c h1 h2=>?_⟩,s1⟩
 ·by_cases h:b=a
  ·subst h;exact .inl ⟨ys,B5⟩
  ·rw[Aw h];exact r.mo b z
 ·have hb:b≠a:=fun z=>r.nt a ha (by rw[←z];exact List.mem_of_getElem? h1)
  have q:=r.cell n b c h1 h2
  cases c with
  |lst ds=>obtain⟨xs,e,rr⟩:=q;exact⟨xs,by rw[Aw hb];exact e,rr.step s1⟩
  |dct ds=>obtain⟨xs,e,rr⟩:=q;exact⟨xs,by rw[Aw hb];exact e,rr.step s1⟩
theorem StR.tmp_off{c:List Addr}{t:List Addr}{a:Addr}{xs:List V}{ds:List D}{cf:Bool}{d:D}{S':Sto}(r:StR K ⟨c,a::t⟩ S H)(nt:a∉t)(e:H a=some (.lst xs))(rr:Au K ⟨c,a::t⟩ H xs ds)(ef:fin cf (.own ds) S=some (d,S')):
    ∃c',StR K ⟨c',t⟩ S' H/\ER K ⟨c',t⟩ H (.ref a) d/\c <+: c'/\(∀b∈c',b∈c∨b=a):=by
  have nc:a∉c:=r.nt a List.mem_cons_self
  cases cf with
  | false =>
    cases ef
    have s1:Sp1 ⟨c,a::t⟩ H ⟨c,t⟩ H:=⟨r.mo,List.prefix_rfl,fun b z=>.inl (z.imp id (List.mem_cons_of_mem _)),fun _ _ e _=>e⟩
    refine⟨c,⟨fun b z=>r.mo b (z.imp id (List.mem_cons_of_mem _)),r.nd,fun b hb=>r.nt b (List.mem_cons_of_mem _ hb),r.len,fun n b cl h1 h2=>?_⟩,.lst e (fun z=>z.elim nc nt) (rr.step s1),List.prefix_rfl,fun b z=>.inl z⟩
    have q:=r.cell n b cl h1 h2
    cases cl with
    |lst ds=>obtain⟨xs,e,rr⟩:=q;exact⟨xs,e,rr.step s1⟩
    |dct ds=>obtain⟨xs,e,rr⟩:=q;exact⟨xs,e,rr.step s1⟩
  | true =>
    cases ef
    have s1:Sp1 ⟨c,a::t⟩ H ⟨c++[a],t⟩ H:=⟨r.mo,List.prefix_append _ _,fun b z=>by
      rcases z with z|z
      · rcases List.mem_append.mp z with z | z
        ·exact .inl (.inl z)
        ·exact .inl (.inr (by rw[List.mem_singleton.mp z];exact List.mem_cons_self))
      ·exact .inl (.inr (List.mem_cons_of_mem _ z)),fun _ _ e _=>e⟩
    have hl:c.length=S.length:=r.len
    refine⟨c++[a],⟨fun b z=>?_,?_,fun b hb z=>?_,by simp[hl],fun n b cl h1 h2=>?_⟩,.ref ?_,List.prefix_append _ _,fun b z=>?_⟩
    · refine r.mo b ?_
      rcases z with z|z
      · rcases List.mem_append.mp z with z | z
        ·exact .inl z
        ·exact .inr (by rw[List.mem_singleton.mp z];exact List.mem_cons_self)
      ·exact .inr (List.mem_cons_of_mem _ z)
    · rw [List.nodup_append]
      refine⟨r.nd,by simp,fun x hx y hy z=>?_⟩
      simp at hy;subst hy
      exact nc (by rw[←z];exact hx)
    · rcases List.mem_append.mp z with z | z
      ·exact r.nt b (List.mem_cons_of_mem _ hb) z
      ·rw[List.mem_singleton.mp z]at hb;exact nt hb
    · by_cases h : n < S.length
      · rw [List.getElem?_append_left (by rw [hl]; exact h)] at h1
        rw[List.getElem?_append_left h]at h2
        have q:=r.cell n b cl h1 h2
        cases cl with
        |lst ds=>obtain⟨xs,e,rr⟩:=q;exact⟨xs,e,rr.step s1⟩
        |dct ds=>obtain⟨xs,e,rr⟩:=q;exact⟨xs,e,rr.step s1⟩
      · have hm : n = S.length := by
          have:=(List.getElem?_eq_some_iff.mp h2).1
          simp at this;omega
        subst hm
        rw[List.getElem?_append_right (by rw[hl];exact Nat.le_refl _)]at h1
        rw[List.getElem?_append_right (Nat.le_refl _)]at h2
        rw[hl]at h1
        simp at h1 h2
        subst h1 h2
        exact⟨xs,e,rr.step s1⟩
    ·rw[←hl];exact List.getElem?_concat_length
    · rcases List.mem_append.mp z with z | z
      ·exact .inl z
      ·exact .inr (List.mem_singleton.mp z)
end
open Classical in
def CM (gs : Gd) (t : Tf) (c : Ev) (f : Ev) : List D -> List D -> En -> Sto -> Option (List D × Sto)
  | [],acc,_,S=>if gOk gs S then some (acc,S)else none
  | d :: ds, acc, E, S => if gOk gs S then (if acc.length < sizeLine then (t d E S).bind fun E1 => (c E1 S).bind fun r => match r.1 with
      | .bl true=>(f E1 r.2).bind fun p=>CM gs t c f ds (acc++[p.1]) E1 p.2
      | .bl false=>CM gs t c f ds acc E1 r.2
      |_=>none
    else none)else none
noncomputable def B3:Ev:=fun _ S=>some (.bl true,S)
noncomputable def UE(cap:List Nat)(m:Nat)(E:En):En:=cap.map (at? E)++List.replicate m none
def NJ(cf:Bool)(cap:List Nat)(m:Nat)(s:Sr)(t:Tf)(c:Ev)(f:Ev):Ev:=fun E S=>(s E S).bind fun r=>(CM r.1.2 t c f r.1.1 [] (UE cap m E) r.2).bind fun q=>fin cf (.own q.1) q.2
noncomputable abbrev Cn:=NJ false
noncomputable abbrev Xb:=NJ true
noncomputable def ixC(cap:List Nat)(m:Nat):List (Option Nat):=cap.map some++List.replicate m none
theorem EnR.cap{K:PySem.W.Frag}{M:Ms}{E:En}{σ:Sg}{H:Hp}(r:EnR K M E σ H)(cap:List Nat)(m:Nat):EnR K M (UE cap m E) (sig (ixC cap m) σ) H:=by
  unfold UE sig ixC
  refine⟨by simp,fun i d e=>?_⟩
  have h1:=TB e
  rw[List.getElem?_map]at h1
  cases e1:cap[i]? with
  |none=>rw[e1]at h1;cases h1
  | some j =>
    rw[e1]at h1
    have h2:at? E j=some d:=by simpa using h1
    obtain⟨v,hv,rd⟩:=r.val j d (at?_some h2)
    refine⟨v,?_,rd⟩
    have hi:i<cap.length:=(List.getElem?_eq_some_iff.mp e1).1
    rw[List.map_append,List.getElem?_append_left (by simpa using hi),List.getElem?_map,List.getElem?_map,e1]
    show some ((σ[j]?).join)=some (some v)
    rw[hv]
    rfl
theorem Tt {K : PySem.W.Frag} {cf : Bool} {cap : List Nat} {m : Nat} {s : Sr} {t : Tf} {c f : Ev} {σ : Sg} {H : Hp} {Q : VK} (h : tD K (NJ cf cap m s t c f) σ H Q) : ZT (ixC cap m) (tI K s) (tG K t) (tDT K c) (tD K f) σ H Q := by
  obtain⟨M,E,S,d,S',e,r,st,q⟩:=h
  obtain⟨⟨⟨ds,gs⟩,S1⟩,e1,e⟩:=BP e
  obtain⟨⟨accf,Sf⟩,e3,e⟩:=BP e
  dsimp only at e e3
  refine⟨M,E,S,ds,gs,S1,e1,r,st,fun J H1 M1 g1 st1 it A0 hD=>?_⟩
  obtain⟨st0,gx0,s0⟩:=st1.tmp_on hD
  have nt:A0∉M1.tmp:=fun z=>st1.mo.some (.inr z) hD
  refine⟨fun i mm σ' H' ys=>mm=ds.length-i/\∃Ei Si Mi acc,CM gs t c f (ds.drop i) acc Ei Si=some (accf,Sf)/\GrX M1 H1 Mi H'/\Mi.tmp=A0::M1.tmp/\EnR K Mi Ei σ' H'/\StR K Mi Si H'/\H' A0=some (.lst ys)/\Au K Mi H' ys acc,
    ⟨_,rfl,_,S1,_,[],e3,gx0,rfl,((r.step g1.st).step s0).cap cap m,st0,B5,.nil⟩,fun i mm σ2 H2 ys hW=>?_⟩
  obtain⟨rfl,Ei,Si,Mi,acc,ec,gx,ht,r2,st2,hy,ry⟩:=hW
  have sp:Sp1 M1 H1 Mi H2:=⟨st1.mo,gx.pre,fun a z=>by
    rcases z with z|z
    ·exact(gx.fresh a z).imp .inl id
    · rw [ht] at z
      rcases List.mem_cons.mp z with z|z
      ·subst z;exact .inr hD
      ·exact .inl (.inr z),fun a o eo no=>gx.keep a o eo fun z=>no (.inl z)⟩
  refine⟨hy,?_⟩
  cases ed:ds.drop i with
  | nil =>
    rw[ed]at ec
    unfold CM at ec
    split at ec
    · rename_i ok
      cases ec
      left
      obtain⟨ci,ti⟩:=Mi
      have ht':ti=A0::M1.tmp:=ht
      subst ht'
      obtain⟨c',st',rd',pr',sub'⟩:=st2.tmp_off nt hy ry e
      refine⟨it.stop i H2 _ _ sp st2 ok (List.drop_eq_nil_iff.mp ed),q _ _ ⟨c',M1.tmp⟩ (g1.trans ⟨st1.mo,gx.pre.trans pr',rfl,fun a z=>?_,gx.keep,gx.some⟩) st' rd'⟩
      rcases sub' a z with z|z
      ·exact gx.fresh a z
      ·subst z;exact .inr hD
    ·cases ec
  | cons d rest =>
    obtain⟨d1,d2,d3⟩:=O5 ed
    rw[ed]at ec
    unfold CM at ec
    split at ec
    · rename_i ok
      split at ec
      · rename_i hz
        obtain⟨E3,e4,ec⟩:=BP ec
        obtain⟨⟨w5,S5⟩,e5,ec⟩:=BP ec
        right
        refine⟨it.go i H2 Mi Si sp st2 ok d3,by rw[ry.length];exact hz,fun x H3 hyl=>?_⟩
        obtain⟨k3,rx⟩:=it.yld i H2 Mi Si x H3 d sp st2 ok d1 hyl
        have g3:Gr Mi H2 Mi H3:=.grow st2.mo k3
        have st3:=st2.grow k3
        refine⟨Mi,d,Ei,E3,Si,e4,r2.step g3.st,st3,rx,fun σ4 r4=>?_⟩
        have hA:A0∈Mi.tmp:=by rw[ht];exact List.mem_cons_self
        have hy3:H3 A0=some (.lst ys):=k3 _ _ hy
        have ry3:Au K Mi H3 ys acc:=ry.step g3.st
        have fin:∀{E6:En} {S6:Sto} {M6:Ms} {H6:Hp} {zs:List V} {acc6:List D},CM gs t c f rest acc6 E6 S6=some (accf,Sf)->GrX M1 H1 M6 H6->M6.tmp=A0::M1.tmp->EnR K M6 E6 σ4 H6->StR K M6 S6 H6->H6 A0=some (.lst zs)->Au K M6 H6 zs acc6->
            ∃m',m'<ds.length-i/\(m'=ds.length-(i+1)/\∃Ei Si Mi acc,CM gs t c f (ds.drop (i+1)) acc Ei Si=some (accf,Sf)/\GrX M1 H1 Mi H6/\Mi.tmp=A0::M1.tmp/\EnR K Mi Ei σ4 H6/\StR K Mi Si H6/\H6 A0=some (.lst zs)/\Au K Mi H6 zs acc):=
          fun{E6 S6 M6 H6 zs acc6} ec g6 t6 r6 st6 h6 y6=>⟨_,by omega,rfl,E6,S6,M6,acc6,by rw[d2];exact ec,g6,t6,r6,st6,h6,y6⟩
        dsimp only at ec
        split at ec
        · obtain ⟨⟨w7, S7⟩, e7, ec⟩ := BP ec
          refine⟨Mi,E3,Si,true,S5,e5,r4,st3,fun H5 M5 g5 st5=>?_⟩
          refine Yp ?_
          refine⟨M5,E3,S5,w7,S7,e7,r4.step g5.st,st5,fun y H7 M7 g7 st7 d7=>?_⟩
          have nA:∀{M6:Ms} {H6:Hp} {S6:Sto},StR K M6 S6 H6->A0∈M6.tmp->A0∉M6.cel:=fun r6 h6=>r6.nt A0 h6
          have hA5:A0∈M5.tmp:=by rw[g5.tmp];exact hA
          have hA7:A0∈M7.tmp:=by rw[g7.tmp];exact hA5
          have hy5:H5 A0=some (.lst ys):=g5.keep _ _ hy3 (nA st3 hA)
          have hy7:H7 A0=some (.lst ys):=g7.keep _ _ hy5 (nA st5 hA5)
          have ry7:Au K M7 H7 ys acc:=(ry3.step g5.st).step g7.st
          refine⟨hy7,?_⟩
          obtain⟨st8,s8⟩:=st7.tmp_app (ys:=ys++[y]) hA7
          have gx7:GrX M1 H1 M7 H7:=((gx.trans g3.x).trans g5.x).trans g7.x
          have gx8:GrX M1 H1 M7 (upd H7 A0 (.lst (ys++[y]))):=⟨gx7.pre,gx7.fresh,fun a o eo no=>by
            rw[Aw (fun z=>by subst z;rw[hD]at eo;cases eo)]
            exact gx7.keep a o eo no,fun a ea=>by
            by_cases h:a=A0
            ·subst h;rw[B5];intro z;cases z
            ·rw[Aw h];exact gx7.some a ea⟩
          exact fin ec gx8 (by rw[g7.tmp,g5.tmp];exact ht) (((r4.step g5.st).step g7.st).step s8) st8 B5 ((ry7.append (.cons d7 .nil)).step s8)
        · refine ⟨Mi, E3, Si, false, S5, e5, r4, st3, fun H5 M5 g5 st5 => ?_⟩
          refine Y7 ?_
          exact fin ec ((gx.trans g3.x).trans g5.x) (by rw[g5.tmp];exact ht) (r4.step g5.st) st5 (g5.keep _ _ hy3 (st3.nt A0 hA)) (ry3.step g5.st)
        ·cases ec
      ·cases ec
    ·cases ec
structure DTs(X:Cx)(ifs:List Expr)(c:Ev):Prop where
 pe:PTs X ifs (tDT X.K c)
theorem V3{X:Cx}{e:List Expr}{t t':TT}(h:PTs X e t)(m:∀σ H Q,t' σ H Q->t σ H Q):PTs X e t':=fun pins s σ H Q I q=>h pins s σ H Q I (m _ _ _ q)
theorem Bz{X:Cx}:DTs X [] B3:=⟨V3 ZO fun σ H Q z=>by
 obtain⟨M,E,S,b,S',e,r,st,q⟩:=z
 cases e
 exact q _ M (.refl st.mo) st⟩
theorem KS{X:Cx}{c:Expr}{f:Ev}(h:DT X c f):DTs X [c] f:=⟨Yn h.pe⟩
section
variable{X:Cx}{N':List Str}{cf:Bool}{cap:List Nat}{m:Nat}{scope:Scope}{elt tg iter:Expr}{ifs:List Expr}{pos:Pos}{s:Sr}{t:Tf}{c f:Ev}
def Blk(X:Cx)(N':List Str)(scope:Scope)(tg:Expr)(ifs:List Expr)(elt:Expr)(t:Tf)(c f:Ev):Prop:=
 ∀(s:Shared) (H:Hp) (fp:List Addr),DG (Hk X N' scope s H fp) tg t/\DTs (Hk X N' scope s H fp) ifs c/\DE (Hk X N' scope s H fp) elt f
theorem B2(cap:List Nat)(m:Nat)(N':List Str)(hc:X.calm=true)(S:Ab X.N X.env.scope N' (ixC cap m) scope)(hi:DI X tg iter s)(hb:Blk X N' scope tg ifs elt t c f)(hs:∀x,foldedSetIterable iter X.env x=pure x:=by intro _;rfl):
  DE X (.ListComp elt [⟨tg,iter,ifs,0⟩] scope pos) (NJ cf cap m s t c f):=⟨
 CY (Zf (g:=tG X.K t) (tc:=tDT X.K c) (te:=tD X.K f) hc S hi.pe (fun s H fp=>⟨(hb s H fp).1.pe,(hb s H fp).2.1.pe,(hb s H fp).2.2.pe⟩) hs) fun _ _ _ h=>Tt h⟩
theorem FT{i:Nat}{y:Str}{py spos:Pos}(cap:List Nat)(m:Nat)(N':List Str)(hc:X.calm=true)(hN:X.N.Nodup)(hi':X.N[i]?=some y)(hx:X.env.scope.names.lookup y=some .local)(S:Ab X.N X.env.scope N' (ixC cap m) scope)(hi:DI X tg iter s)(hb:Blk X N' scope tg ifs elt t c f)
  (hsw:swapsWith (.ListComp elt [⟨tg,iter,ifs,0⟩] scope pos) (some (.Name y py)) spos.line X.env=pure true:=by rfl) (hs:∀x,foldedSetIterable iter X.env x=pure x:=by intro _;rfl):
  DS X (.Assign [.Name y py] (.ListComp elt [⟨tg,iter,ifs,0⟩] scope pos) spos) (Bp i (NJ cf cap m s t c f)):=⟨
 GO (R5 (g:=tG X.K t) (tc:=tDT X.K c) (te:=tD X.K f) hc hN hi' hx S hi.pe (fun s H fp=>⟨(hb s H fp).1.pe,(hb s H fp).2.1.pe,(hb s H fp).2.2.pe⟩) hsw hs) fun Dn σ H z=>by
  obtain⟨M,E,S,fl,E',S',e,r,st,q⟩:=z
  obtain⟨⟨d,S1⟩,e1,e⟩:=NG e
  cases e
  exact Tt ⟨M,E,S,d,S1,e1,r,st,fun v H1 M1 g1 st1 r1=>q _ _ M1 g1 ((r.step g1.st).put r1) st1⟩⟩
end
noncomputable def KU{α:Type}(xs:List α)(lo hi:Option Int):List α:=(xs.drop (HT.sIx xs.length 0 lo)).take (HT.sIx xs.length xs.length hi-HT.sIx xs.length 0 lo)
theorem Tq{K:PySem.W.Frag}{M:Ms}{H:Hp}{xs:List V}{ds:List D}(h:Au K M H xs ds)(lo hi:Option Int):Au K M H (X7 xs lo hi) (KU ds lo hi):=by
 unfold X7 KU
 rw[h.length]
 exact(h.drop _).take _
theorem UZ{α:Type}{xs:List α}{lo hi:Option Int}(h1:HT.sIx xs.length 0 lo=0)(h2:HT.sIx xs.length xs.length hi=xs.length):KU xs lo hi=xs:=by
 unfold KU
 rw[h1,h2]
 simp
noncomputable def wSl(lo hi:Option Int):Op1:=fun w=>match w with
 | .val (.tup ds)=>some (.val (.tup (KU ds lo hi)))
 | .val (.str z)=>if z.length≤sizeLine then some (.val (.str (Txt.slice z lo hi)))else none
 |w=>(asL w).map fun ds=>.own (KU ds lo hi)
def ip(K:PySem.W.Frag):V->Option Int->Option Int->Hp->VK->Prop:=fun x lo hi H Q=>∃M w r,wSl lo hi w=some r/\MOk M H/\Sh K M H x w/\∀v H',Nw K M H H' v r->Q v H'
theorem ax{X:Cx}:SlR X (fun x lo hi H Q=>∃z,x=.str z/\z.length≤sizeLine/\Q (.str (Txt.slice z lo hi)) H):=by
  intro pins s σ H x v vl vu lo hi sl Q I rx hs pl pu h
  obtain⟨z,rfl,hz,q⟩:=h
  obtain⟨t,rfl⟩:=rx
  have fin:∀t' k,EP X pins σ Q (.str (Txt.slice z lo hi) t') {s with toks:=k}:=fun t' k=>⟨.str _,H,I.tok k,⟨t',rfl⟩,q⟩
  cases pl with
  | none =>
    cases pu with
    |none=>exact⟨"str",_,PySem.F.slot_str_getitem.lookup,typeIs_str _ _ _,wpAny_getItem_str_slice (l:=none) (u:=none) (st:=none) hs rfl (post_val_or_str ⟨Nat.le_trans (Txt.slice_le z _ _) hz,fin⟩)⟩
    |int j u=>exact⟨"str",_,PySem.F.slot_str_getitem.lookup,typeIs_str _ _ _,wpAny_getItem_str_slice (l:=none) (u:=some (j,u)) (st:=none) hs rfl (post_val_or_str ⟨Nat.le_trans (Txt.slice_le z _ _) hz,fin⟩)⟩
  | int i u' =>
    cases pu with
    |none=>exact⟨"str",_,PySem.F.slot_str_getitem.lookup,typeIs_str _ _ _,wpAny_getItem_str_slice (l:=some (i,u')) (u:=none) (st:=none) hs rfl (post_val_or_str ⟨Nat.le_trans (Txt.slice_le z _ _) hz,fin⟩)⟩
    |int j u=>exact⟨"str",_,PySem.F.slot_str_getitem.lookup,typeIs_str _ _ _,wpAny_getItem_str_slice (l:=some (i,u')) (u:=some (j,u)) (st:=none) hs rfl (post_val_or_str ⟨Nat.le_trans (Txt.slice_le z _ _) hz,fin⟩)⟩
theorem fI{X:Cx}:SlR X (ip X.K):=by
  intro pins s σ H x v vl vu lo hi sl Q I rx hs pl pu h
  obtain⟨M,w,r,e,mo,sh,q⟩:=h
  unfold wSl at e
  split at e
  · rename_i ds
    cases e
    cases sh with
    | tup hx rr =>
      rename_i a xs
      have hl:=rr.length
      by_cases hw:HT.sIx xs.length 0 lo=0/\HT.sIx xs.length xs.length hi=xs.length
      · refine St.bw pins s σ H _ v vl vu lo hi sl Q I rx hs pl pu ⟨a, xs, rfl, hx, hw.1, hw.2, ?_⟩
        have ew:KU ds lo hi=ds:=UZ (by rw[←hl];exact hw.1) (by rw[←hl];exact hw.2)
        rw[ew]at q
        exact q _ _ (.same mo (.tup hx rr))
      ·exact cA pins s σ H _ v vl vu lo hi sl Q I rx hs pl pu ⟨a,xs,rfl,hx,hw,fun p hp=>q _ _ (.tup mo hp (Tq rr lo hi))⟩
  · split at e
    · cases e
      cases sh
      exact ax pins s σ H _ v vl vu lo hi sl Q I rx hs pl pu ⟨_,rfl,by assumption,q _ _ (.same mo (.str _))⟩
    ·cases e
  · cases e1 : asL w with
    |none=>rw[e1]at e;cases e
    | some ds =>
      rw[e1]at e
      cases e
      obtain⟨a,xs,rfl,h1,rr⟩:=sh.l e1
      exact Yb pins s σ H _ v vl vu lo hi sl Q I rx hs pl pu ⟨a,xs,rfl,.of h1,fun p hp=>q _ _ (.lst mo hp (Tq rr lo hi))⟩
noncomputable def Zs:Wv->Option Int
 | .val (.int i)=>some i
 |_=>none
noncomputable def Ik(l h:Bool):OpN:=fun ws=>match l,h,ws with
 |false,false,[a]=>wSl none none a
 |true,false,[a,b]=>(Zs b).bind fun i=>wSl (some i) none a
 |false,true,[a,b]=>(Zs b).bind fun i=>wSl none (some i) a
 |true,true,[a,b,c]=>(Zs b).bind fun i=>(Zs c).bind fun j=>wSl (some i) (some j) a
 |_,_,_=>none
theorem Us{K:PySem.W.Frag}{M:Ms}{H:Hp}{v:V}{w:Wv}{i:Int}(s:Sh K M H v w)(e:Zs w=some i):v=.int i:=by
  cases w with
  |own ds=>cases e
  | val d =>
    cases d<;>first|(cases e;done)|skip
    cases e;cases s;rfl
section
variable{X:Cx}{e lo hi:Expr}{oe ol oh:Ev}{c:Bool}{pos p2:Pos}
theorem Gy(h:DE X e oe)(hl:DE X lo ol):DE X (.Subscript e (.Slice (some lo) none none p2) pos) (Ql c (Ik true false) [oe,ol]):=⟨CY (N6 fI h.pe (OA hl.pe) Tn) fun σ H Q z=>by
  obtain⟨M0,E,S0,w,S1,e,r,st,q⟩:=z
  have z:tD X.K oe σ H fun x H1=>tD X.K ol σ H1 fun y H2=>rN X.K (Ik true false) [x,y] H2 Q:=Nm (Q:=Q) e r st q
  refine Ja z fun x H1 z1=>Ja z1 fun y H2 z2=>?_
  obtain⟨M,ws,w',e1,mo,sh,q1⟩:=z2
  cases sh with
  | cons h1 t =>
    cases t with
    | cons h2 t =>
      cases t
      obtain⟨i,ei,e1⟩:=BP e1
      exact⟨i,Us h2 ei,M,_,w',e1,mo,h1,q1⟩⟩
theorem HA(h:DE X e oe)(hh:DE X hi oh):DE X (.Subscript e (.Slice none (some hi) none p2) pos) (Ql c (Ik false true) [oe,oh]):=⟨CY (N6 fI h.pe Tn (OA hh.pe)) fun σ H Q z=>by
  obtain⟨M0,E,S0,w,S1,e,r,st,q⟩:=z
  have z:tD X.K oe σ H fun x H1=>tD X.K oh σ H1 fun y H2=>rN X.K (Ik false true) [x,y] H2 Q:=Nm (Q:=Q) e r st q
  refine Ja z fun x H1 z1=>Ja z1 fun y H2 z2=>?_
  obtain⟨M,ws,w',e1,mo,sh,q1⟩:=z2
  cases sh with
  | cons h1 t =>
    cases t with
    | cons h2 t =>
      cases t
      obtain⟨i,ei,e1⟩:=BP e1
      exact⟨i,Us h2 ei,M,_,w',e1,mo,h1,q1⟩⟩
theorem UD{K:PySem.W.Frag}{M:Ms}{H:Hp}{S:Sto}{v:V}{d:D}{i:Int}(r:ER K M H v d)(e:Zs (dr S d)=some i):v=.int i:=by
 cases r<;>first|(cases e;done)|skip
 ·cases e;rfl
 ·rename_i n h
  unfold dr at e
  dsimp only at e
  split at e<;>cases e
theorem Qr(h:DE X e oe)(hl:DE X lo ol)(hh:DE X hi oh):DE X (.Subscript e (.Slice (some lo) (some hi) none p2) pos) (Ql c (Ik true true) [oe,ol,oh]):=⟨CY (N6 fI h.pe (OA hl.pe) (OA hh.pe)) fun σ H Q z=>by
 obtain⟨M0,E,S0,w,S1,e,r,st,q⟩:=z
 obtain⟨⟨ds,S2⟩,e1,e⟩:=BP e
 obtain⟨w2,e2,e⟩:=BP e
 obtain⟨⟨d1,Sa⟩,ea,e1⟩:=BP e1
 obtain⟨⟨ds1,Sb⟩,eb,e1⟩:=NG e1
 cases e1
 obtain⟨⟨d2,Sc⟩,ec,eb⟩:=BP eb
 obtain⟨⟨ds2,Sd⟩,ed,eb⟩:=NG eb
 cases eb
 obtain⟨⟨d3,Se⟩,ee,ed⟩:=BP ed
 obtain⟨⟨ds3,Sf⟩,ef,ed⟩:=NG ed
 cases ed
 cases ef
 obtain⟨i,ei,e2⟩:=BP e2
 obtain⟨j,ej,e2⟩:=BP e2
 refine⟨M0,E,S0,d1,Sa,ea,r,st,fun x H1 M1 g1 st1 r1=>?_⟩
 refine⟨M1,E,Sa,d2,Sc,ec,r.step g1.st,st1,fun y H2 M2 g2 st2 r2=>⟨i,?_,?_⟩⟩
 ·exact UD r2 ei
 refine⟨M2,E,Sc,d3,Se,ee,(r.step g1.st).step g2.st,st2,fun u H3 M3 g3 st3 r3=>⟨j,?_,?_⟩⟩
 ·exact UD r3 ej
 refine⟨M3,_,w2,e2,st3.mo,YZ st3 ((r1.step g2.st).step g3.st),fun v H4 n=>?_⟩
 obtain⟨M4,g4,st4,d4⟩:=n.fin st3 e
 exact q v H4 M4 (((g1.trans g2).trans g3).trans g4) st4 d4⟩
structure SQ(K:PySem.W.Frag)(mg:Str->Option Value)(x:Str)(d:D):Prop where
 ex:∃v u,mg x=some u/\RelV v u/\∀M H,ER K M H v d
theorem N1{x:Str}{d:D}(c:SQ X.K X.mg x d)(hg:Gl X x)(hd:(x==("__debug__":Str))=false:=by decide):DE X (.Name x pos) (eC d):=⟨by
 obtain⟨v,u,h1,h2,h3⟩:=c.ex
 exact CY (YM hg h1 h2 hd) fun σ H Q z=>by
  obtain⟨M0,E,S0,w,S1,e,rr,st,q⟩:=z
  cases e
  exact q _ _ M0 (.refl st.mo) st (h3 _ _)⟩
theorem bH{x:Str}{T:String}(hg:Gl X x)(hm:X.mg x=none)(hv:bootBuiltins x=some (.type T))(hn:x≠ "__name__":=by decide)(hd:(x==("__debug__":Str))=false:=by decide):DE X (.Name x pos) (eC (.ty T)):=
 QM (ZV (v:=.ty T) hg hm hv rfl hn hd) fun _ _ _=>.ty T
structure jV(K:PySem.W.Frag)(w:World)(mg:Str->Option Value)(x:Str)(tbl:List (Str×D)):Prop where
 ex:∃a kvs,mg x=some (.ref a)/\TopD K w a kvs/\∀k,(tbl.lookup k=none->kvs.lookup k=none)/\∀d,tbl.lookup k=some d->∃v,kvs.lookup k=some v/\∀M H,ER K M H v d
end
noncomputable def QW:Nat->List D->List D
 |_,[]=>[]
 |k,d::ds=>.tup [.int k,d]::QW (k+1) ds
theorem LU:∀{ds:List D} {k i:Nat},(QW k ds)[i]?=(ds[i]?).map fun d=>.tup [.int ((k+i:Nat):Int),d]
  | [],k,i=>by simp[QW]
  |d::ds,k,0=>by simp[QW]
  | d :: ds, k, i + 1 => by
    simp only[QW,List.getElem?_cons_succ]
    rw[LU,show k+1+i=k+(i+1) by omega]
theorem OT:∀{ds:List D} {k:Nat},(QW k ds).length=ds.length
 | [],k=>rfl
 |d::ds,k=>by simp[QW,OT (ds:=ds)]
theorem SqF.sqB{K:PySem.W.Frag}{M:Ms}{H:Hp}{gs:Gd}{k:Bool}{a:Addr}{ds:List D}(h:SqF K M H gs k a ds){H2:Hp}{M2:Ms}{S2:Sto}(g:Sp1 M H M2 H2)(st:StR K M2 S2 H2)(ok:gOk gs S2):∃xs,SqB K H2 k a xs/\Au K M2 H2 xs ds:=by
 obtain⟨xs,h1,h2⟩:=h.keep H2 M2 S2 g st ok
 refine⟨xs,?_,h2⟩
 cases k with
 |true=>exact h1
 |false=>exact h1
theorem aJ{K:PySem.W.Frag}{M:Ms}{H:Hp}{gs:Gd}{k:Bool}{a:Addr}{ds:List D}(h:SqF K M H gs k a ds):Zr K M H gs (QW 0 ds) (ItE K k a) where
 go:=fun i H2 M2 S2 g st ok hi=>by
  rw[OT]at hi
  obtain⟨xs,h1,h2⟩:=h.sqB g st ok
  obtain⟨x,hx⟩:=h2.get' hi
  exact⟨xs,x,h1,hx⟩
 stop:=fun i H2 M2 S2 g st ok hi=>by
  rw[OT]at hi
  obtain⟨xs,h1,h2⟩:=h.sqB g st ok
  exact⟨xs,h1,by have:=h2.length;omega⟩
 yld:=fun i H2 M2 S2 x H3 d g st ok hd hy=>by
  obtain⟨xs,h1,h2⟩:=h.sqB g st ok
  obtain⟨p,y,hp,rfl,hy,rfl⟩:=hy
  have hx:=hy xs h1
  rw[LU]at hd
  obtain⟨d0,e,hd⟩:=NG hd
  subst hd
  obtain⟨x',h3,h4⟩:=h2.get e
  rw[hx]at h3;cases h3
  have k3:=HF (o:=.tup [.int i,y]) hp
  refine⟨k3,.tup (.of B5) (.cons ?_ (.cons (h4.step (Gr.grow st.mo k3).st) .nil))⟩
  rw[Nat.zero_add]
  exact .int _
noncomputable def ao(f:Ev):Sr:=fun E S=>(f E S).bind fun r=>(sqD r.2 r.1).map fun p=>((QW 0 p.1,p.2),r.2)
theorem Xm{X:Cx}{a:Expr}{f:Ev}{p pos tp:Pos}{elts:List Expr}{k:Nat}(hg:Gl X "enumerate")(hm:X.mg "enumerate"=none)(ha:DE X a f)(hs:starEach [a] X.env=[(false,eval a X.env)]:=by rfl):DI X (.Tuple elts k tp) (.Call (.Name "enumerate" p) [a] [] pos) (ao f):=⟨
 MR (Wj hg hm (Og ha.pe Uj (by rw[hs];rfl)) hs) fun σ H R z=>by
  obtain⟨M,E,S,ds,gs,S',e,r,st,q⟩:=z
  obtain⟨⟨d,S1⟩,e1,e⟩:=BP e
  obtain⟨⟨ds',gs'⟩,e2,e⟩:=NG e
  cases e
  refine⟨M,E,S,d,S1,e1,r,st,fun v H1 M1 g1 st1 r1=>?_⟩
  obtain⟨k,a,rfl,sq⟩:=Lq st1 r1 e2
  obtain⟨xs,hs,_⟩:=sq.sqB (Gr.refl st1.mo).st st1 (JN e2)
  exact⟨k,a,rfl,⟨xs,hs⟩,q _ _ M1 g1 st1 (aJ sq)⟩⟩
noncomputable def Ml(ds es:List D):List D:=(ds.zip es).map fun p=>.tup [p.1,p.2]
theorem VV{ds es:List D}{i:Nat}{d:D}(h:(Ml ds es)[i]?=some d):∃x y,ds[i]?=some x/\es[i]?=some y/\d=.tup [x,y]:=by
 unfold Ml at h
 simp only[List.getElem?_map,Option.map_eq_some_iff]at h
 obtain⟨⟨x,y⟩,h1,h2⟩:=h
 rw[List.getElem?_zip_eq_some]at h1
 exact⟨x,y,h1.1,h1.2,h2.symm⟩
theorem LV{ds es:List D}:(Ml ds es).length=min ds.length es.length:=by simp[Ml]
theorem SqF.more{K:PySem.W.Frag}{M:Ms}{H:Hp}{gs gs':Gd}{k:Bool}{a:Addr}{ds:List D}(h:SqF K M H gs k a ds)(s:∀g∈gs,g∈gs'):SqF K M H gs' k a ds:=⟨fun H2 M2 S2 g st ok=>h.keep H2 M2 S2 g st fun x hx=>ok x (s x hx)⟩
theorem aP{K:PySem.W.Frag}{M:Ms}{H:Hp}{gs:Gd}{k m:Bool}{a b:Addr}{ds es:List D}(h:SqF K M H gs k a ds)(h':SqF K M H gs m b es):Zr K M H gs (Ml ds es) (Itz K k a m b) where
 go:=fun i H2 M2 S2 g st ok hi=>by
  rw[LV]at hi
  obtain⟨xs,h1,r⟩:=h.sqB g st ok
  obtain⟨ys,h2,r'⟩:=h'.sqB g st ok
  obtain⟨x,hx⟩:=r.get' (show i<ds.length by omega)
  obtain⟨y,hy⟩:=r'.get' (show i<es.length by omega)
  exact⟨xs,ys,x,y,h1,h2,hx,hy⟩
 stop:=fun i H2 M2 S2 g st ok hi=>by
  rw[LV]at hi
  obtain⟨xs,h1,r⟩:=h.sqB g st ok
  obtain⟨ys,h2,r'⟩:=h'.sqB g st ok
  have:=r.length
  have:=r'.length
  exact⟨xs,ys,h1,h2,by omega⟩
 yld:=fun i H2 M2 S2 x H3 d g st ok hd hy=>by
  obtain⟨xs,h1,r⟩:=h.sqB g st ok
  obtain⟨ys,h2,r'⟩:=h'.sqB g st ok
  obtain⟨p,x1,y1,hp,rfl,q1,q2,rfl⟩:=hy
  obtain⟨d1,d2,e1,e2,rfl⟩:=VV hd
  have hx:=q1 xs h1
  have hy:=q2 ys h2
  obtain⟨x',h3,h4⟩:=r.get e1
  obtain⟨y',h5,h6⟩:=r'.get e2
  rw[hx]at h3;cases h3
  rw[hy]at h5;cases h5
  have k3:=HF (o:=.tup [x1,y1]) hp
  exact⟨k3,.tup (.of B5) (.cons (h4.step (Gr.grow st.mo k3).st) (.cons (h6.step (Gr.grow st.mo k3).st) .nil))⟩
noncomputable def Ub(f g:Ev):Sr:=fun E S=>(evs [f,g] E S).bind fun r=>match r.1 with
 | [d,e]=>(sqD r.2 d).bind fun p=>(sqD r.2 e).map fun q=>((Ml p.1 q.1,p.2++q.2),r.2)
 |_=>none
theorem Mc {X : Cx} {a b : Expr} {f g : Ev} {p pos tp : Pos} {elts : List Expr} {k : Nat} (hg : Gl X "zip") (hm : X.mg "zip" = none) (ha : DE X a f) (hb : DE X b g) (hs : starEach [a, b] X.env = [(false, eval a X.env), (false, eval b X.env)] := by rfl) (hs2 : starEach [b] X.env = [(false, eval b X.env)] := by rfl) : DI X (.Tuple elts k tp) (.Call (.Name "zip" p) [a, b] [] pos) (Ub f g) := ⟨
  MR (ay hg hm (AA ha (AA hb AD hs2) (by rw[hs,hs2])).pe hs hs2) fun σ H R z=>by
    obtain⟨M,E,S,ds,gs,S',e,r,st,q⟩:=z
    obtain⟨⟨ws,S1⟩,e1,e⟩:=BP e
    refine JG (fs:=[f,g]) e1 r st fun vs H1 M1 g1 st1 r1=>?_
    dsimp only at e
    split at e
    · obtain ⟨⟨ds1, gs1⟩, eu, e⟩ := BP e
      obtain⟨⟨ds2,gs2⟩,ee,e⟩:=NG e
      cases e
      cases r1 with
      | cons h1 t =>
        cases t with
        | cons h2 t =>
          cases t
          obtain⟨k1,a1,rfl,s1⟩:=Lq st1 h1 eu
          obtain⟨k2,a2,rfl,s2⟩:=Lq st1 h2 ee
          obtain⟨xs,hxs,_⟩:=s1.sqB (Gr.refl st1.mo).st st1 (JN eu)
          obtain⟨ys,hys,_⟩:=s2.sqB (Gr.refl st1.mo).st st1 (JN ee)
          exact⟨_,_,_,_,rfl,⟨_,hxs⟩,⟨_,hys⟩,q _ _ M1 g1 st1 (aP (s1.more fun x hx=>List.mem_append_left _ hx) (s2.more fun x hx=>List.mem_append_right _ hx))⟩
    ·cases e⟩
noncomputable def intD:D->Option Int
 | .int i=>some i
 |_=>none
noncomputable def LG(ds:List D):Option (List Int):=ds.mapM intD
theorem Ln {K : PySem.W.Frag} {M : Ms} {H : Hp} : ∀ {vs : List V} {ds : List D} {ns : List Int}, Au K M H vs ds -> LG ds = some ns -> vs = ns.map V.int
  |_,_,ns,.nil,e=>by cases e;rfl
  | _, _, ns, .cons (d := d) (ds := ds) h t, e => by
    unfold LG at e
    rw[List.mapM_cons]at e
    cases e1:intD d with
    |none=>rw[e1]at e;cases e
    | some b =>
      rw[e1]at e
      cases e2:ds.mapM intD with
      |none=>rw[e2]at e;cases e
      | some cs =>
        rw[e2]at e
        cases e
        have hd:d=.int b:=by
          cases d<;>first|(cases e1;done)|skip
          cases e1;rfl
        subst hd
        cases h
        rw[List.map_cons,←Ln t e2]
theorem UO{X:Cx}(hc:X.calm=true):FN X (.builtin "sum") (fun xs H Q=>∃(p:Addr) (ns:List Int),xs=[.ref p]/\SqL X.K H p (ns.map V.int)/\Q (.int ns.sum) H):=by
 intro pins s σ H xs us Q I r h
 obtain⟨p,ns,rfl,hp,q⟩:=h
 obtain⟨u,rfl,ru⟩:=r.one
 cases (show u=Value.ref p from ru)
 obtain⟨its,rv,pl,hz⟩:=I.list hp
 have hd:X.A.in1.handled=none:=I.ok.hd hc
 refine call_sum_walkG (wpAny_pyIter_list pl.isList ?_)
 have hlen:ns.length=its.length:=by have:=rv.length;simpa using this
 have hpl:=pl.isList
 have hlt:p<s.heap.objs.size:=by
  obtain⟨o,ho,_⟩:=hpl
  exact Heap.lt_size ho
 refine⟨s.heap.objs.size,_,_,its.length,_,_,fun i=>ns.getD i 0,rfl,St.R9 (vs:=its) hd (Nat.ne_of_lt hlt),⟨⟨_,Heap.get?_push_size _ rfl,rfl,rfl⟩,?_⟩,?_,?_,?_⟩
 ·obtain⟨o,ho,r⟩:=hpl
  exact⟨o,Heap.get?_push_of_some _ ho,r⟩
 ·intro b hb
  rw[Heap.size_push]
  simp at hb
  rcases hb with h|h
  ·rw[h];exact Nat.lt_succ_self _
  ·rw[h];exact Nat.lt_succ_of_lt hlt
 ·intro i v hv
  have hi:i<its.length:=(List.getElem?_eq_some_iff.mp hv).1
  have hb:(ns.map V.int)[i]?=some (.int (ns.getD i 0)):=by
   rw[List.getElem?_map,List.getElem?_eq_getElem (by omega)]
   simp[List.getD_eq_getElem?_getD,List.getElem?_eq_getElem (show i<ns.length by omega)]
  obtain⟨u,hu,ru⟩:=rv.get hb
  rw[hv]at hu
  cases hu
  exact ru
 ·intro h' tk t' hk
  have e:preSum (fun i=>ns.getD i 0) its.length=ns.sum:=by
   rw[←hlen,St.Lp (Nat.le_refl _),List.take_of_length_le (Nat.le_refl _)]
  rw[e]
  exact⟨.int _,H,I.kept (t':=tk) fun b o eb=>hk b o (by simp;exact Nat.ne_of_lt (Heap.lt_size eb)) (Heap.get?_push_of_some _ eb),⟨_,rfl⟩,q⟩
noncomputable def WE:Op1:=fun w=>(asL w).bind fun ds=>(LG ds).map fun ns=>.val (.int ns.sum)
theorem J2{X:Cx}(hc:X.calm=true):FN X (.builtin "sum") (rN X.K (o1 WE)):=by
 intro pins s σ H xs us Q I r h
 obtain⟨M,ws,w,e,mo,sh,q⟩:=h
 obtain⟨v,w1,rfl,rfl,s1,e1⟩:=Kb sh e
 obtain⟨ds,e2,e1⟩:=BP e1
 obtain⟨ns,e3,e1⟩:=NG e1
 cases e1
 obtain⟨a,ys,rfl,h3,h4⟩:=s1.l e2
 exact UO hc pins s σ H _ us Q I r ⟨a,ns,rfl,by rw[←Ln h4 e3];exact .of h3,q _ _ (.same mo (.int _))⟩
noncomputable def Mv(ns:List Int):List Int:=ns.mergeSort (fun a b=>decide (a≤b))
theorem Nf(ns:List Int):(Mv ns).Perm ns:=List.mergeSort_perm _ _
theorem Rw(ns:List Int):(Mv ns).Pairwise (· ≤ ·):=by
 have:=List.pairwise_mergeSort (le:=fun(a b:Int)=>decide (a≤b)) (fun a b c h1 h2=>by simp at *; omega) (fun a b=>by simp;omega) ns
 unfold Mv
 exact this.imp fun h=>of_decide_eq_true h
theorem Ry{ns ms:List Int}(p:ms.Perm ns)(s:ms.Pairwise (· ≤ ·)):ms=Mv ns:=PySem.W.ksm_same (p.trans (Nf ns).symm) s (Rw ns)
theorem intsAre_of:∀{ns:List Int} {its:List Value},Vals (ns.map V.int) its->PyProof.Rows.IntsAre its ns
  | [],_,.nil=>.nil
  | n :: ns, _, .cons h t => by
    obtain⟨tk,rfl⟩:=h
    exact .cons n tk (intsAre_of t)
theorem Ks:∀{ns:List Int} {its:List Value},PyProof.Rows.IntsAre its ns->Vals (ns.map V.int) its
 |_,_,.nil=>.nil
 |_,_,.cons n tk t=>.cons ⟨tk,rfl⟩ (Ks t)
theorem QA{X:Cx}:FN X (.builtin "sorted") (fun xs H Q=>∃(p:Addr) (ns:List Int),xs=[.ref p]/\SqL X.K H p (ns.map V.int)/\ns.length<64/\∀q,H q=none->Q (.ref q) (upd H q (.lst ((Mv ns).map V.int)))):=by
 intro pins s σ H xs us Q I r h
 obtain⟨p,ns,rfl,hp,h64,q⟩:=h
 obtain⟨u,rfl,ru⟩:=r.one
 cases (show u=Value.ref p from ru)
 obtain⟨its,rv,pl,hz⟩:=I.list hp
 have hlen:ns.length=its.length:=by have:=rv.length;simpa using this
 refine PyProof.Rows.sorted_ints pl.isList (intsAre_of rv) (by omega) fun out ns' a1 a2 a3=>?_
 obtain⟨e,he⟩:=PyProof.Rows.sortedAll_at s.heap its out
 have hn:H (s.heap.objs.size+1)=none:=I.hok.fresh (Nat.le_succ _)
 have hs:=Ry a2 a3
 subst hs
 refine⟨.ref _,_,I.laid (a:=s.heap.objs.size+1) (o:=.lst ((Mv ns).map V.int)) (t':=s.toks) (fun _ _=>PyProof.Rows.sortedAll_old) (Nat.le_succ _) ?_,rfl,q _ hn⟩
 refine⟨?_,out.toList,e,Ks a1,?_⟩
 ·rw[List.length_map,(Nf ns).length_eq]
  have:(64:Nat)≤sizeLine:=by decide
  omega
 ·rw[Array.toArray_toList];exact he
noncomputable def Oz:Op1:=fun w=>(asL w).bind fun ds=>(LG ds).bind fun ns=>if ns.length<64 then some (.own ((Mv ns).map D.int))else none
theorem QJ{X:Cx}:FN X (.builtin "sorted") (rN X.K (o1 Oz)):=by
 intro pins s σ H xs us Q I r h
 obtain⟨M,ws,w,e,mo,sh,q⟩:=h
 obtain⟨v,w1,rfl,rfl,s1,e1⟩:=Kb sh e
 obtain⟨ds,e2,e1⟩:=BP e1
 obtain⟨ns,e3,e1⟩:=BP e1
 split at e1
 ·cases e1
  obtain⟨a,ys,rfl,h3,h4⟩:=s1.l e2
  exact QA pins s σ H _ us Q I r ⟨a,ns,rfl,by rw[←Ln h4 e3];exact .of h3,by assumption,fun p hp=>q _ _ (.lst mo hp LS)⟩
 ·cases e1
theorem OX(l:Addr)(items:Array Value)(n:Nat)(b:Addr)(items2:Array Value)(n2:Nat)(dd:Option Addr)(sl:Array (Option Value))(hs0:¬(!items.isEmpty && Builtin.List.listTooLong (items.size+items2.size))=true)(hs1:items.size≤sizeLine)(hs2:items.size+items2.size≤sizeLine+1):
  Meets (Builtin.«list.extend» ⟨[.ref l,.ref b],[]⟩) (fun _ R s=>s.heap.get? l=some {cls:=.type "list",dict:=none,data:=.seq items n,slots:= #[]}/\s.heap.get? b=some {cls:=.type "tuple",dict:=dd,data:=.seq items2 n2,slots:=sl}/\R (.ok (.ret Value.none)) {s with heap:=s.heap.update l (Obj.mapSeq fun x=>x++items2),toks:=s.toks}):=
 .of_wp fun prog w A R s h=>by
  obtain⟨hp,g,d,tk,os⟩:=s;obtain⟨hl,hb,h⟩:=h;have f1:=AutoSeq1.idx_int;have f2:=AutoSeq1.sub_tuple_tuple;have f3:=AutoSeq1.sub_list_list;have f4:=AutoSeq1.sub_tuple_list;have f5:=AutoSeq1.sub_list_tuple
  have hz':(items++items2).size≤sizeLine+1:=by rw[Array.size_append];exact hs2
  wp_walk using(wpAny_updateSeq hl rfl (hz:=hs1) (_hz':=hz')),AutoSeq1.wpAny_loadPart' hl,AutoSeq1.wpAny_loadPart' hb;exact⟨_,rfl,h⟩
def XO(K:PySem.W.Frag):V->List V->Hp->VK->Prop:=fun x vs H Q=>∃l b xs zs,x=.ref l/\vs=[.ref b]/\H l=some (.lst xs)/\SqT K H b zs/\xs.length+zs.length≤sizeLine/\Q .non (upd H l (.lst (xs++zs)))
theorem R0{X:Cx}:MtM X "list.extend" (XO X.K):=by
 intro pins s σ H x vs v us Q I rx rv h
 obtain⟨l,b,xs,zs,rfl,rfl,hH,hB,hz,q⟩:=h
 cases rx
 obtain⟨u,rfl,ru⟩:=rv.one
 cases ru
 obtain⟨z,its,n,r,hl,e⟩:=I.lstM hH
 obtain⟨its2,r2,⟨⟨c,dd,dt,sl⟩,e2,hc,n2,hd⟩,z2⟩:=I.tuple hB
 simp only at hc hd
 subst hc hd
 have hl2:=r2.length
 have hsz:its.toArray.size+its2.toArray.size≤sizeLine:=by rw[List.size_toArray,List.size_toArray];omega
 have hlong:¬(!its.toArray.isEmpty && Builtin.List.listTooLong (its.toArray.size+its2.toArray.size))=true:=by
  rw[O2 hsz,Bool.and_false]
  exact Bool.false_ne_true
 refine call_meets F.slot_list_extend ⟨_,e,rfl⟩ F.entry_list_extend (F.args_list_extend_2 _ _)
  (OX l its.toArray n b its2.toArray n2 dd sl hlong (by rw[List.size_toArray];omega) (by omega)) ⟨e,e2,?_⟩
 refine⟨.non,_,I.lset (its':=its++its2) hH e (by simp) (r.append r2) ?_,rfl,q⟩
 rw[List.length_append]
 omega
noncomputable def cU:Mo
  | S, ds, [x] => match dr S x with
    | .val (.tup zs)=>if ds.length+zs.length≤sizeLine then some (.non,ds++zs)else none
    |w=>(asL w).bind fun zs=>if ds.length+zs.length≤sizeLine then some (.non,ds++zs)else none
  |_,_,_=>none
theorem Zj {X : Cx} : MtR X "list.extend" (cx X.K cU) := by
  intro pins s σ H x vs v us Q I rx rv h
  obtain⟨M,S,n,a,ds,args,d,ds',rfl,hc,hn,e,st,ra,q⟩:=h
  unfold cU at e
  split at e
  · obtain ⟨xs, h1, h2⟩ := st.cell n a _ hc hn
    obtain⟨y,rfl,ry⟩:=RT ra
    have sy:=YZ st ry
    split at e
    · rename_i ed
      rw[ed]at sy
      split at e
      · rename_i hz
        cases e
        cases sy with
        | tup hx rr =>
          obtain⟨st2,g2⟩:=st.chg hc hn (h2.append rr)
          exact R0 pins s σ H _ _ v us Q I rx rv ⟨a,_,xs,_,rfl,rfl,h1,hx,by rw[h2.length,rr.length];exact hz,q _ _ st2 g2 .non⟩
      ·cases e
    · obtain ⟨zs, e1, e⟩ := BP e
      split at e
      · rename_i hz
        cases e
        obtain⟨b,ys,rfl,h3,h4⟩:=sy.l e1
        obtain⟨st2,g2⟩:=st.chg hc hn (h2.append h4)
        exact UY pins s σ H _ _ v us Q I rx rv ⟨a,b,xs,ys,rfl,rfl,h1,h3,by rw[h2.length,h4.length];exact hz,q _ _ st2 g2 .non⟩
      ·cases e
  ·cases e
theorem Wi{X:Cx}:OpR X (binaryOp .Mult) (fun x y H Q=>∃a xs k,x=.ref a/\y=.int k/\SqT X.K H a xs/\xs≠[]/\k≤0/\ -(2^63)≤k/\∀p,H p=none->Q (.ref p) (upd H p (.tup []))):=by
  intro pins s σ H x y v u Q I rx ry h
  obtain⟨a,xs,k,rfl,rfl,hx,hne,hk,hk2,q2⟩:=h
  cases rx
  obtain⟨t,rfl⟩:=ry
  obtain⟨its,r,⟨⟨c,dd,data,sl⟩,ho,hc,n,hd⟩,hzz⟩:=I.tuple hx
  simp only at hc hd
  subst hc hd
  have hl:=r.length
  have hpos:0<xs.length:=List.length_pos_iff.mpr hne
  refine wpAny_binaryOp_repeat_ref (T:="tuple") (U:="int") (by decide) ⟨_,ho,rfl⟩ (fun s'=>typeIs_int s' k t) Hf F.fills_int_mul F.slot_int_rmul K6 F.slot_int_index.lookup
    (call_meets F.slot_int_rmul (typeIs_int s k t) F.entry_int_rmul (F.args_int_rmul_2 _ _) (JD k t a its.toArray n dd sl) ⟨ho,rfl,⟨_,ho,rfl⟩,?_⟩)
  refine wpAny_call_entry F.slot_tuple_mul ⟨_,ho,rfl⟩ F.entry_tuple_mul ?_ (F.args_tuple_mul_2 _ _)
  unfold Builtin.«tuple.__mul__»
  wp_walk using AutoSeq1.wpAny_loadPart' ho
  rw [if_neg (show ¬ (decide (k < -2 ^ 63) || decide (k ≥ 2 ^ 63)) = true by
    rw[Bool.or_eq_true]
    rintro (z|z)
    ·have:=of_decide_eq_true z;omega
    ·have:=of_decide_eq_true z;omega)]
  wp_walk using AutoSeq1.wpAny_loadPart' ho
  have hemp:its.toArray.isEmpty=false:=by
    cases its with
    |nil=>rw[List.length_nil]at hl;omega
    |cons b bs=>rfl
  rw [if_neg (show ¬ (its.toArray.isEmpty || k == 1) = true by
    rw[hemp,Bool.false_or]
    intro z
    have:=eq_of_beq z
    omega)]
  wp_walk using AutoSeq1.wpAny_loadPart' ho
  all_goals first
    |exact⟨_,rfl,.ref _,_,I.laid (o:=.tup []) (t':=s.toks) (fun b ob q=>Heap.get?_push_of_some _ q) (Nat.le_refl _) ⟨Nat.zero_le _,[],.nil,PyProof.Rows.IsTup.new _ _⟩,rfl,q2 _ (I.hok.fresh (Nat.le_refl _))⟩
    | (exfalso
       rename_i hh
       exact hh (by rw[Bool.or_eq_true];exact .inl (decide_eq_true hk)))
noncomputable def Bx:Op2:=fun a b=>match a,b with
 | .val (.tup xs),.val (.int k)=>if(!xs.isEmpty && decide (k≤0) && decide (-(2^63)≤k))=true then some (.val (.tup []))else cV (.val (.tup xs)) (.val (.int k))
 |a,b=>cV a b
theorem Am {X : Cx} : OpR X (binaryOp .Mult) (rOp X.K Bx) := by
  intro pins s σ H x y v u Q I rx ry h
  obtain⟨M,w1,w2,r,e,mo,s1,s2,q⟩:=h
  unfold Bx at e
  split at e
  · split at e
    · rename_i xs k hk
      rw[Bool.and_eq_true,Bool.and_eq_true]at hk
      cases e
      cases s2
      cases s1 with
      | @tup a ys _ h1 r1=>
        have hne:ys≠[]:=fun zz=>by
          subst zz
          cases r1
          exact absurd hk.1.1 (by decide)
        exact Wi pins s σ H _ _ v u Q I rx ry ⟨a,ys,k,rfl,rfl,h1,hne,of_decide_eq_true hk.1.2,of_decide_eq_true hk.2,fun p hp=>q _ _ (.tup mo hp .nil)⟩
    ·exact Te pins s σ H x y v u Q I rx ry ⟨M,_,_,r,e,mo,s1,s2,q⟩
  ·exact Te pins s σ H x y v u Q I rx ry ⟨M,_,_,r,e,mo,s1,s2,q⟩
theorem AU{A:Around}{k:Nat}(hr:NX k A):A.units+100<cLine:=by have:=hr.un;omega
section
variable{P:Program}{w:World}{K:PySem.W.Frag}{mg:Str->Option Value}{base:Heap}
end
noncomputable def scE:Nat->PySem.Expr->List Scope
 |0,_=>[]
 |n+1,.ListComp e gs s _=>s::(gs.flatMap fun g=>scE n g.iter)++scE n e++(gs.flatMap fun g=>g.ifs.flatMap (scE n))
 |n+1,.BoolOp _ vs _=>vs.flatMap (scE n)
 |n+1,.Call f as _ _=>scE n f++as.flatMap (scE n)
 |n+1,.BinOp a _ b _=>scE n a++scE n b
 |n+1,.UnaryOp _ a _=>scE n a
 |n+1,.Compare a _ cs _=>scE n a++cs.flatMap (scE n)
 |n+1,.Subscript a b _=>scE n a++scE n b
 |n+1,.Tuple es _ _=>es.flatMap (scE n)
 |n+1,.List es _=>es.flatMap (scE n)
 |n+1,.IfExp c a b _=>scE n c++scE n a++scE n b
 |n+1,.Dict _ vs _=>vs.flatMap (scE n)
 |n+1,.Slice a b c _=>(a.toList++b.toList++c.toList).flatMap (scE n)
 |n+1,.Attribute v _ _=>scE n v
 |_,_=>[]
noncomputable def scS:Nat->Stmt->List Scope
 |0,_=>[]
 |n+1,.Return (some e) _=>scE 30 e
 |n+1,.Assign ts e _=>ts.flatMap (scE 30)++scE 30 e
 |n+1,.AugAssign t _ e _=>scE 30 t++scE 30 e
 |n+1,.Expr e _=>scE 30 e
 |n+1,.If t a b _=>scE 30 t++a.flatMap (scS n)++b.flatMap (scS n)
 |n+1,.For _ it a b _=>scE 30 it++a.flatMap (scS n)++b.flatMap (scS n)
 |n+1,.While t a b _=>scE 30 t++a.flatMap (scS n)++b.flatMap (scS n)
 |_,_=>[]
noncomputable def JV(st:Stmt)(k:Nat):Scope:=((G4 st).flatMap (scS 20)).getD k (AH st)
structure jS(P:Program)(w:World)(K:PySem.W.Frag)(mg:Str->Option Value)(base:Heap)(x:Str)(k np:Nat)(tbl:List (Str×Fn)):Prop where
 ex:∃a kvs,mg x=some (.ref a)/\TopD K w a kvs/\∀p G,tbl.lookup p=some G->∃f fd ps,kvs.lookup p=some (.ref f)/\Po P w K mg base CX0 k f fd ps (spD K np G)/\PySem.W.keepIn K (.ref f)=true/\Binds K fd ps []
section
variable{P:Program}{w:World}{K:PySem.W.Frag}{mg:Str->Option Value}{base h:Heap}
theorem aQ{x:Str}{st:Stmt}{f:Addr}{oc:Value}{od an:Option Addr}{osl:Array (Option Value)}{kV doc pm cdv ct:Value}(X:K.In h)(G:h.Ns mainGlobals mg)(a:PySem.W.nsIn K mainGlobals x=some (some (.ref f)))
  (l:K.lookup f=some ⟨oc,od,.func (PySem.W.fnOf x x (Mb st) (G4 st) (AH st) .none kV doc pm an cdv ct),osl⟩) (c:PySem.W.codeIn K cdv x=true) (k:PySem.W.keepIn K (.ref f)=true):St.Src K mg x st:=
 ⟨f,_,bC l c k,PySem.W.mg_of X G a⟩
def IsD(K:PySem.W.Frag)(u:Value)(d:D):Prop:=∃v,RelV v u/\∀M H,ER K M H v d
theorem OQ{i:Int}{t:Tok}:IsD K (.int i t) (.int i):=⟨.int i,⟨t,rfl⟩,fun _ _=>.int i⟩
theorem O0{x:Str}{t:Tok}:IsD K (.str x t) (.str x):=⟨.str x,⟨t,rfl⟩,fun _ _=>.str x⟩
theorem Qy:∀{us:List Value} {ds:List D},Paired (fun d u=>IsD K u d) ds us->∃xs,Vals xs us/\∀M H,Au K M H xs ds
  |_,_,.nil=>⟨[],.nil,fun _ _=>.nil⟩
  | _, _, .cons h t => by
    obtain⟨v,h1,h2⟩:=h
    obtain⟨xs,h3,h4⟩:=Qy t
    exact⟨v::xs,.cons h1 h3,fun M H=>.cons (h2 M H) (h4 M H)⟩
theorem Qq{a:Addr}{od:Option Addr}{osl:Array (Option Value)}{its:List Value}{n:Nat}{ds:List D}(l:K.lookup a=some ⟨.type "tuple",od,.seq its.toArray n,osl⟩)(hz:its.length≤sizeLine)(r:Paired (fun d u=>IsD K u d) ds its):IsD K (.ref a) (.tup ds):=by
 obtain⟨xs,h1,h2⟩:=Qy r
 exact⟨.ref a,rfl,fun M H=>.tup (.inr ⟨_,its.toArray,n,l,rfl,rfl,by simpa using hz,by simpa using h1⟩) (h2 M H)⟩
theorem Um{x:Str}{u:Value}{d:D}(X:K.In h)(G:h.Ns mainGlobals mg)(e:PySem.W.nsIn K mainGlobals x=some (some u))(r:IsD K u d):SQ K mg x d:=by
 obtain⟨v,h1,h2⟩:=r
 exact⟨v,u,PySem.W.mg_of X G e,h1,h2⟩
structure jU(w:World)(K:PySem.W.Frag)(mg:Str->Option Value)(x:Str)(ns:List (Str×Str)):Prop where
 ex:∃a kvs,mg x=some (.ref a)/\TopD K w a kvs/\Paired (fun(n:Str×Str) (q:Str×V)=>n.1=q.1/\∃f,q.2=.ref f/\mg n.2=some (.ref f)) ns kvs
noncomputable def Y1(K:PySem.W.Frag):Sp:=fun vs H Q _=>∃(a:Addr) (ns:List Int),vs=[.ref a]/\SqL K H a (ns.map V.int)/\ns.length≤63/\∀H',Q (.bl true) H'
theorem bU{k:Nat}{f:Addr}{fd:FuncData}{x:Str}{F:Fn}(Fk:Po P w K mg base CX0 k f fd [x] (spD K 1 F))(h:∀ns:List Int,ns.length≤63->∃S,F [.scr ns] []=some (.bl true,S)):Po P w K mg base CX0 k f fd [x] (Y1 K):=by
 refine Fk.imp fun vs H Q E z=>?_
 obtain⟨a,ns,rfl,hs,hl,q⟩:=z
 obtain⟨S,e⟩:=h ns hl
 refine⟨Ms.no,[.scr ns],[],_,S,rfl,e,.cons (.scr ?_) .nil,⟨fun a z=>absurd z Ms.no_mem,List.nodup_nil,fun a z=>(nomatch z),rfl,fun n a c z=>by simp[Ms.no]at z⟩,fun v H' M' g st r=>?_⟩
 ·rcases hs with hs|hs
  ·exact .inl ⟨hs,Ms.no_mem⟩
  ·exact .inr hs
 ·cases r
  exact q H'
end
noncomputable def Jz:List D->List D->List D->List D
 |d::ds,e::es,f::fs=>.tup [d,e,f]::Jz ds es fs
 |_,_,_=>[]
theorem OI:∀{ds es fs:List D},ds.length≤es.length->ds.length≤fs.length->(Jz ds es fs).length=ds.length
  | [],es,fs,_,_=>by cases es<;>cases fs<;>rfl
  | d :: ds, e :: es, f :: fs, h1, h2 => by
    have:=OI (ds:=ds) (es:=es) (fs:=fs) (by simpa using h1) (by simpa using h2)
    simp[Jz,this]
theorem RL:∀{ds es fs:List D} {i:Nat} {d:D},(Jz ds es fs)[i]?=some d->∃x y z,ds[i]?=some x/\es[i]?=some y/\fs[i]?=some z/\d=.tup [x,y,z]
  | d :: ds, e :: es, f :: fs, 0, x, h => by
    simp only[Jz,List.getElem?_cons_zero]at h
    cases h
    exact⟨_,_,_,rfl,rfl,rfl,rfl⟩
  | d :: ds, e :: es, f :: fs, i + 1, x, h => by
    simp only[Jz,List.getElem?_cons_succ]at h⊢
    exact RL h
  | [],es,fs,i,x,h=>by simp[Jz]at h
  |d::ds,[],fs,i,x,h=>by simp[Jz]at h
  |d::ds,e::es,[],i,x,h=>by simp[Jz]at h
theorem Yd{K:PySem.W.Frag}{M:Ms}{H:Hp}{gs:Gd}{k m q:Bool}{a b c:Addr}{ds es fs:List D}(l1:ds.length≤es.length)(l2:ds.length≤fs.length)(h:SqF K M H gs k a ds)(h':SqF K M H gs m b es)(h'':SqF K M H gs q c fs):Zr K M H gs (Jz ds es fs) (It3 K k a m b q c) where
 go:=fun i H2 M2 S2 g st ok hi=>by
  rw[OI l1 l2]at hi
  obtain⟨xs,h1,r⟩:=h.sqB g st ok
  obtain⟨ys,h2,r'⟩:=h'.sqB g st ok
  obtain⟨zs,h3,r''⟩:=h''.sqB g st ok
  obtain⟨x,hx⟩:=r.get' (show i<ds.length by omega)
  obtain⟨y,hy⟩:=r'.get' (show i<es.length by omega)
  obtain⟨z,hz⟩:=r''.get' (show i<fs.length by omega)
  exact⟨xs,ys,zs,x,y,z,h1,h2,h3,hx,hy,hz⟩
 stop:=fun i H2 M2 S2 g st ok hi=>by
  rw[OI l1 l2]at hi
  obtain⟨xs,h1,r⟩:=h.sqB g st ok
  have:=r.length
  exact⟨xs,h1,by omega⟩
 yld:=fun i H2 M2 S2 x H3 d g st ok hd hy=>by
  obtain⟨xs,h1,r⟩:=h.sqB g st ok
  obtain⟨ys,h2,r'⟩:=h'.sqB g st ok
  obtain⟨zs,h3,r''⟩:=h''.sqB g st ok
  obtain⟨p,x1,y1,z1,hp,rfl,q1,q2,q3,rfl⟩:=hy
  obtain⟨d1,d2,d3,e1,e2,e3,rfl⟩:=RL hd
  have hx:=q1 xs h1
  have hy:=q2 ys h2
  have hz:=q3 zs h3
  obtain⟨x',k1,k2⟩:=r.get e1
  obtain⟨y',k3,k4⟩:=r'.get e2
  obtain⟨z',k5,k6⟩:=r''.get e3
  rw[hx]at k1;cases k1
  rw[hy]at k3;cases k3
  rw[hz]at k5;cases k5
  have k3:=HF (o:=.tup [x1,y1,z1]) hp
  exact⟨k3,.tup (.of B5) (.cons (k2.step (Gr.grow st.mo k3).st) (.cons (k4.step (Gr.grow st.mo k3).st) (.cons (k6.step (Gr.grow st.mo k3).st) .nil)))⟩
noncomputable def XC(f g h:Ev):Sr:=fun E S=>(evs [f,g,h] E S).bind fun r=>match r.1 with
 | [d,e,k]=>(sqD r.2 d).bind fun p=>(sqD r.2 e).bind fun q=>(sqD r.2 k).bind fun t=>if p.1.length≤q.1.length/\p.1.length≤t.1.length then some ((Jz p.1 q.1 t.1,p.2++(q.2++t.2)),r.2)else none
 |_=>none
theorem YW {X : Cx} {a b c : Expr} {f g h : Ev} {p pos tp : Pos} {elts : List Expr} {k : Nat} (hg : Gl X "zip") (hm : X.mg "zip" = none) (ha : DE X a f) (hb : DE X b g) (hc : DE X c h) (hs : starEach [a, b, c] X.env = [(false, eval a X.env), (false, eval b X.env), (false, eval c X.env)] := by rfl) (hs2 : starEach [b, c] X.env = [(false, eval b X.env), (false, eval c X.env)] := by rfl) (hs3 : starEach [c] X.env = [(false, eval c X.env)] := by rfl) : DI X (.Tuple elts k tp) (.Call (.Name "zip" p) [a, b, c] [] pos) (XC f g h) := ⟨
  MR (pi_zip3 hg hm (AA ha (AA hb (AA hc AD hs3) (by rw[hs2,hs3])) (by rw[hs,hs2])).pe hs hs2) fun σ H R z=>by
    obtain⟨M,E,S,ds,gs,S',e,r,st,q⟩:=z
    obtain⟨⟨ws,S1⟩,e1,e⟩:=BP e
    refine JG (fs:=[f,g,h]) e1 r st fun vs H1 M1 g1 st1 r1=>?_
    dsimp only at e
    split at e
    · obtain ⟨⟨ds1, gs1⟩, eu, e⟩ := BP e
      obtain⟨⟨ds2,gs2⟩,ee,e⟩:=BP e
      obtain⟨⟨ds3,gs3⟩,et,e⟩:=BP e
      split at e
      · rename_i hl
        cases e
        cases r1 with
        | cons h1 t =>
          cases t with
          | cons h2 t =>
            cases t with
            | cons h3 t =>
              cases t
              obtain⟨k1,a1,rfl,s1⟩:=Lq st1 h1 eu
              obtain⟨k2,a2,rfl,s2⟩:=Lq st1 h2 ee
              obtain⟨k3,a3,rfl,s3⟩:=Lq st1 h3 et
              obtain⟨xs,hxs,_⟩:=s1.sqB (Gr.refl st1.mo).st st1 (JN eu)
              obtain⟨ys,hys,_⟩:=s2.sqB (Gr.refl st1.mo).st st1 (JN ee)
              obtain⟨zs,hzs,_⟩:=s3.sqB (Gr.refl st1.mo).st st1 (JN et)
              exact⟨_,_,_,_,_,_,rfl,⟨_,hxs⟩,⟨_,hys⟩,⟨_,hzs⟩,q _ _ M1 g1 st1 (Yd hl.1 hl.2 (s1.more fun x hx=>List.mem_append_left _ hx) (s2.more fun x hx=>List.mem_append_right _ (List.mem_append_left _ hx)) (s3.more fun x hx=>List.mem_append_right _ (List.mem_append_right _ hx)))⟩
      ·cases e
    ·cases e⟩
section
open PyProof.Rows (boot_isinstance boot_int boot_bool boot_tuple boot_str boot_list boot_abs boot_all boot_any boot_sum boot_max boot_min boot_range boot_enumerate boot_zip boot_sorted boot_set boot_divmod)
noncomputable def D0:D:=.tup [.int 0,.int 1]
noncomputable def Tw:D:=.tup [.int 1,.int 1]
noncomputable def Dd:D:=.tup [.str "bring",.str "pool",.str "swap",.str "trade"]
def Fw:Ex:=(BR (Ko (eOp (o2 bV) [(eV 0),(eC (.ty "int"))]) (Qa (eOp (o2 bV) [(eV 0),(eC (.ty "bool"))]))))
def Ec:Fn:=A1 (A3 1 Fw)
def HD:Ex:=(BR (Ko (AJ Ec [(eV 0)]) (eOp (o2 wGe) [(eV 0),(eV 1)])))
def Fs:Fn:=A1 (A3 2 HD)
def FJ:Ex:=(BR (Ko (AJ Fs [(eV 0),(eV 1)]) (eOp (o2 wLe) [(eV 0),(eV 2)])))
def Cd:Fn:=A1 (A3 3 FJ)
def FE:Ex:=(Af (PV 0 1 (eOp (o1 Zo) [(eV 0)]) (eOp (o1 Zo) [(eV 1)]))
  (Af (Ph (Rp 1) (eOp (o2 wNe) [(eV 1),(eC (.int 0))]) (PV 0 1 (eV 1) (eOp (o2 O4) [(eV 0),(eV 1)])))
  (BR (eV 0))))
def CN:Fn:=A1 (A3 2 FE)
def NR:Ex:=(Af (Bp 2 (AJ CN [(eV 0),(eV 1)]))
  (BR (Bc [(eOp (o2 Ox) [(eV 0),(eV 2)]),(eOp (o2 Ox) [(eV 1),(eV 2)])])))
def DC:Fn:=A1 (A3 3 NR)
def Rk:Ex:=(BR (AJ DC [(eOp (o2 Cv) [(eOp (o2 Bx) [(eOp (o2 wIx) [(eV 0),(eC (.int 0))]),(eOp (o2 wIx) [(eV 1),(eC (.int 1))])]),(eOp (o2 Bx) [(eOp (o2 wIx) [(eV 1),(eC (.int 0))]),(eOp (o2 wIx) [(eV 0),(eC (.int 1))])])]),(eOp (o2 Bx) [(eOp (o2 wIx) [(eV 0),(eC (.int 1))]),(eOp (o2 wIx) [(eV 1),(eC (.int 1))])])]))
def HE:Fn:=A1 (A3 2 Rk)
def Q2:Ex:=(BR (AJ DC [(eOp (o2 NH) [(eOp (o2 Bx) [(eOp (o2 wIx) [(eV 0),(eC (.int 0))]),(eOp (o2 wIx) [(eV 1),(eC (.int 1))])]),(eOp (o2 Bx) [(eOp (o2 wIx) [(eV 1),(eC (.int 0))]),(eOp (o2 wIx) [(eV 0),(eC (.int 1))])])]),(eOp (o2 Bx) [(eOp (o2 wIx) [(eV 0),(eC (.int 1))]),(eOp (o2 wIx) [(eV 1),(eC (.int 1))])])]))
def HP:Fn:=A1 (A3 2 Q2)
def P8:Ex:=(BR (AJ DC [(eOp (o2 Bx) [(eOp (o2 wIx) [(eV 0),(eC (.int 0))]),(eOp (o2 wIx) [(eV 1),(eC (.int 0))])]),(eOp (o2 Bx) [(eOp (o2 wIx) [(eV 0),(eC (.int 1))]),(eOp (o2 wIx) [(eV 1),(eC (.int 1))])])]))
def Fq:Fn:=A1 (A3 2 P8)
def Pe:Ex:=(Af (Bp 4 (eOp (o2 Cv) [(eOp (o2 Bx) [(eOp (o2 Bx) [(eOp (o2 wIx) [(eV 0),(eC (.int 0))]),(eOp (o2 wIx) [(eV 2),(eC (.int 1))])]),(eV 1)]),(eOp (o2 Bx) [(eOp (o2 Bx) [(eOp (o2 wIx) [(eV 2),(eC (.int 0))]),(eOp (o2 wIx) [(eV 0),(eC (.int 1))])]),(eV 3)])]))
  (BR (AJ DC [(eV 4),(eOp (o2 Bx) [(eOp (o2 Bx) [(eOp (o2 wIx) [(eV 0),(eC (.int 1))]),(eOp (o2 wIx) [(eV 2),(eC (.int 1))])]),(eOp (o2 Cv) [(eV 1),(eV 3)])])])))
def IU:Fn:=A1 (A3 5 Pe)
def JL:Ex:=(BR (Ko (eOp (o2 wLt) [(eV 1),(eOp (o1 Hj) [(eV 0)])]) (eOp (o2 wGe) [(eOp (o2 wIx) [(eOp (o2 wIx) [(eV 0),(eV 1)]),(eC (.int 1))]),(eV 2)])))
def CL:Fn:=A1 (A3 3 JL)
def Kp:Ex:=(BR (Ko (AJ CL [(eV 0),(eV 1),(eC (.int 1))]) (Ko (AJ CL [(eV 0),(eV 2),(eC (.int 1))]) (eOp (o2 wEq) [(eOp (o2 wIx) [(eOp (o2 wIx) [(eV 0),(eV 1)]),(eC (.int 0))]),(eOp (o2 wIx) [(eOp (o2 wIx) [(eV 0),(eV 2)]),(eC (.int 0))])]))))
def GF:Fn:=A1 (A3 3 Kp)
def K8:Ex:=(BR (Ko (AJ CL [(eV 0),(eV 1),(eV 2)]) (eOp (o2 wNe) [(eOp (o2 wIx) [(eOp (o2 wIx) [(eV 0),(eV 1)]),(eC (.int 0))]),(eV 3)])))
def Et:Fn:=A1 (A3 4 K8)
def Dm:Ex:=(Af (Bp 3 (eOp (o2 wIx) [(eV 2),(eC (.int 0))]))
  (Af (xIf (eOp (o2 wEq) [(eV 3),(eC (.str "pool"))]) (BR (AJ GF [(eV 0),(eOp (o2 wIx) [(eV 2),(eC (.int 1))]),(eOp (o2 wIx) [(eV 2),(eC (.int 2))])])) Dw)
  (Af (xIf (eOp (o2 wEq) [(eV 3),(eC (.str "swap"))]) (BR (AJ Et [(eV 0),(eOp (o2 wIx) [(eV 2),(eC (.int 1))]),(eOp (o2 wIx) [(eV 2),(eC (.int 2))]),(eOp (o2 wIx) [(eV 2),(eC (.int 3))])])) Dw)
  (Af (xIf (eOp (o2 wEq) [(eV 3),(eC (.str "trade"))]) (Af (Bp 4 (Cn [] 1 (JR (eV 1)) (tNm 0) (eOp (o2 wEq) [(eOp (o2 wIx) [(eV 0),(eC (.int 0))]),(eC (.str "trade"))]) (eOp (o2 wIx) [(eV 0),(eC (.int 1))])))
  (BR (Ko (eOp (o2 (wIn true)) [(eOp (o2 wIx) [(eV 2),(eC (.int 1))]),(eV 4)]) (AJ Et [(eV 0),(eOp (o2 wIx) [(eV 2),(eC (.int 2))]),(eOp (o2 wIx) [(eV 2),(eC (.int 3))]),(eOp (o2 wIx) [(eV 2),(eC (.int 4))])])))) Dw)
  (Af (xIf (eOp (o2 (wIn false)) [(eV 3),(Bc [(eC (.str "spoil")),(eC (.str "throw"))])]) (BR (AJ CL [(eV 0),(eOp (o2 wIx) [(eV 2),(eC (.int 1))]),(eOp (o2 wIx) [(eV 2),(eC (.int 2))])])) Dw)
  (BR (eC (.bl true))))))))
def CW:Fn:=A1 (A3 5 Dm)
def HU:Ex:=(Af (Nr (tTp [(tNm 3),(tNm 4)]) (eOp (o2 wIx) [(eV 0),(eV 1)]))
  (BR (eOp (o2 Cv) [(eOp (o2 Cv) [(eOp (Ik false true) [(eV 0),(eV 1)]),(Jh [(Bc [(eV 3),(eOp (o2 NH) [(eV 4),(eV 2)])])])]),(eOp (Ik true false) [(eV 0),(eOp (o2 Cv) [(eV 1),(eC (.int 1))])])])))
def Bn:Fn:=A1 (A3 5 HU)
def Bj:Ex:=(Af (Bp 2 (eOp (o2 wIx) [(eV 1),(eC (.int 0))]))
  (Af (xIf (eOp (o2 wEq) [(eV 2),(eC (.str "bring"))]) (BR (eOp (o2 Cv) [(eV 0),(Jh [(Bc [(eOp (o2 wIx) [(eV 1),(eC (.int 2))]),(eOp (o2 wIx) [(eV 1),(eC (.int 3))])])])])) Dw)
  (Af (xIf (eOp (o2 wEq) [(eV 2),(eC (.str "pool"))]) (Af (Nr (tTp [(tNm 3),(tNm 4)]) (eOp (o2 wIx) [(eV 0),(eOp (o2 wIx) [(eV 1),(eC (.int 1))])]))
  (Af (Bp 5 (eOp (o2 wIx) [(eOp (o2 wIx) [(eV 0),(eOp (o2 wIx) [(eV 1),(eC (.int 2))])]),(eC (.int 1))]))
  (BR (eOp (o2 Cv) [(AJ Bn [(AJ Bn [(eV 0),(eOp (o2 wIx) [(eV 1),(eC (.int 1))]),(eV 4)]),(eOp (o2 wIx) [(eV 1),(eC (.int 2))]),(eV 5)]),(Jh [(Bc [(eV 3),(eOp (o2 Cv) [(eV 4),(eV 5)])])])])))) Dw)
  (Af (xIf (eOp (o2 (wIn false)) [(eV 2),(Bc [(eC (.str "swap")),(eC (.str "trade"))])]) (Af (Nr (tTp [(tNm 6),(tNm 7),(tNm 3),(tNm 8)]) (eOp (Ik true false) [(eV 1),(eOp (o1 YB) [(eC (.int 4))])]))
  (BR (eOp (o2 Cv) [(AJ Bn [(eV 0),(eV 6),(eV 7)]),(Jh [(Bc [(eV 3),(eV 8)])])]))) Dw)
  (Af (xIf (eOp (o2 (wIn false)) [(eV 2),(Bc [(eC (.str "spoil")),(eC (.str "throw"))])]) (BR (AJ Bn [(eV 0),(eOp (o2 wIx) [(eV 1),(eC (.int 1))]),(eOp (o2 wIx) [(eV 1),(eC (.int 2))])])) Dw)
  (BR (eV 0)))))))
def Aq:Fn:=A1 (A3 9 Bj)
def Gm:Ex:=(BR (Cn [] 1 (JR (eOp (o2 wIx) [(eV 0),(eC (.int 1))])) (tNm 0) B3 (Bc [(eOp (o2 wIx) [(eV 0),(eC (.int 0))]),(eOp (o2 wIx) [(eV 0),(eC (.int 1))])])))
def CV:Fn:=A1 (A3 1 Gm)
def EG:Ex:=(Af (Bp 1 (eOp (o2 wIx) [(eV 0),(eC (.int 0))]))
  (Af (xIf (eOp (o2 wEq) [(eV 1),(eC (.str "pool"))]) (BR (eOp (o1 Oz) [(Jh [(eOp (o2 wIx) [(eV 0),(eC (.int 1))]),(eOp (o2 wIx) [(eV 0),(eC (.int 2))])])])) Dw)
  (Af (xIf (eOp (o2 (wIn false)) [(eV 1),(Bc [(eC (.str "swap")),(eC (.str "trade"))])]) (BR (Jh [(eOp (o2 wIx) [(eV 0),(eOp (o1 YB) [(eC (.int 4))])])])) Dw)
  (BR (Jh [])))))
def CC:Fn:=A1 (A3 2 EG)
def Hm:Ex:=(Af (Bp 1 (AJ CV [(eV 0)]))
  (Af (Bp 2 (eOp (o2 wIx) [(eV 0),(eC (.int 2))]))
  (Af (Mp (ao (eV 2)) (tTp [(tNm 3),(tNm 4)]) (Af (xIf (Qa (AJ CW [(eV 1),(eOp (Ik false true) [(eV 2),(eV 3)]),(eV 4)])) (BR (eV 3)) Dw)
  (Bp 1 (AJ Aq [(eV 1),(eV 4)]))))
  (BR (eC .non)))))
def D5:Fn:=A1 (A3 5 Hm)
def Gp:Ex:=(Af (Bp 1 (AJ D5 [(eV 0)]))
  (xIf (eOp (o2 (dC true)) [(eV 1),(eC .non)]) PX Dw))
def Bw:Fn:=A1 (A3 2 Gp)
def FC:Ex:=(xIf (Qa (AJ Cd [(eV 1),(eC (.int 0)),(eOp (o1 Hj) [(eOp (o2 wIx) [(eV 0),(eC (.int 2))])])])) PX Dw)
def CO:Fn:=A1 (A3 2 FC)
def JI:Ex:=(BR (eOp (o1 C7) [(Cn [1] 1 (Mq [(eV 0)]) (tNm 1) B3 (eIf (eOp (o2 wEq) [(eV 1),(eV 0)]) (eC Tw) (eC D0)))]))
def Ea:Fn:=A1 (A3 2 JI)
def HQ:Ex:=(BR (eOp (o1 C7) [(Cn [1,3] 2 (Ub (eV 0) (eV 2)) (tTp [(tNm 2),(tNm 3)]) B3 (AJ IU [(eV 2),(eV 0),(eV 3),(eV 1)]))]))
def Cp:Fn:=A1 (A3 4 HQ)
def C1:Ex:=(Af (Bp 3 (AJ CC [(eV 2)]))
  (Af (xIf (eOp (o2 wEq) [(eOp (o1 Hj) [(eV 3)]),(eC (.int 1))]) (BR (eOp (o2 wIx) [(eV 1),(eOp (o2 wIx) [(eV 3),(eC (.int 0))])])) Dw)
  (Af (Nr (tTp [(tNm 4),(tNm 5)]) (eV 3))
  (BR (AJ Cp [(eOp (o2 wIx) [(eV 1),(eV 4)]),(eOp (o2 wIx) [(eOp (o2 wIx) [(eV 0),(eV 4)]),(eC (.int 1))]),(eOp (o2 wIx) [(eV 1),(eV 5)]),(eOp (o2 wIx) [(eOp (o2 wIx) [(eV 0),(eV 5)]),(eC (.int 1))])])))))
def BU:Fn:=A1 (A3 6 C1)
def HW:Ex:=(BR (eOp (o2 Cv) [(eOp (o1 WE) [(Cn [2] 2 (JR (eV 1)) (tTp [(tNm 1),(tNm 2)]) B3 (eOp (o2 Bx) [(eV 2),(eOp (o2 wIx) [(eV 0),(eV 1)])]))]),(eOp (o2 Bx) [(eOp (o2 wIx) [(eV 0),(eC (.int 2))]),(eOp (o2 wIx) [(eV 2),(eOp (o1 YB) [(eC (.int 1))])])])]))
def De:Fn:=A1 (A3 3 HW)
def Hq:Ex:=(Af (Nr (tTp [(tNm 3),(tNm 4),(tNm 5)]) (eOp (Ik true false) [(eV 2),(eC (.int 1))]))
  (BR (AJ DC [(eOp (o2 Bx) [(eV 4),(eOp (o2 wIx) [(eV 5),(eOp (o2 wIx) [(eOp (o2 wIx) [(eV 1),(eV 3)]),(eC (.int 0))])])]),(AJ De [(eV 0),(eV 1),(eV 5)])])))
def EC:Fn:=A1 (A3 6 Hq)
def Gb:Ex:=(Af (Nr (tTp [(tNm 5),(tNm 6)]) (AJ EC [(eV 0),(eV 1),(eV 3)]))
  (BR (AJ Cp [(eV 4),(eOp (o2 NH) [(eV 6),(eV 5)]),(eOp (o2 wIx) [(eV 2),(eOp (o2 wIx) [(eV 3),(eC (.int 1))])]),(eV 5)])))
def DH:Fn:=A1 (A3 7 Gb)
def Hr:Ex:=(Af (Nr (tTp [(tNm 2),(tNm 3),(tNm 4)]) (eOp (Ik true false) [(eV 0),(eC (.int 1))]))
  (Af (Bp 5 (AJ Fq [(eOp (o2 wIx) [(eV 1),(eV 2)]),(eV 4)]))
  (Af (Bp 6 (Zp (o1 QB) [(eV 1)]))
  (Af (Mn (AJ HP [(eOp (o2 wIx) [(eV 1),(eV 2)]),(eV 5)]) (eV 6) (eV 2))
  (Af (Mn (AJ HE [(eOp (o2 wIx) [(eV 1),(eV 3)]),(eV 5)]) (eV 6) (eV 3))
  (BR (eOp (o1 C7) [(eV 6)])))))))
def D8:Fn:=A1 (A3 7 Hr)
def BH:Ex:=(Af (xIf (eOp (o2 wEq) [(eOp (o2 wIx) [(eV 3),(eC (.int 0))]),(eC (.str "throw"))]) (BR (AJ DH [(eV 0),(eV 1),(eV 2),(eV 3),(eV 4)])) Dw)
  (Af (xIf (eOp (o2 wEq) [(eOp (o2 wIx) [(eV 3),(eC (.int 0))]),(eC (.str "sell"))]) (BR (AJ D8 [(eV 3),(eV 4)])) Dw)
  (BR (eV 4))))
def Ai:Fn:=A1 (A3 5 BH)
def BI:Ex:=(Af (Bp 4 (Cn [0,1,2,3] 1 (JR (eV 2)) (tNm 4) B3 (AJ Ai [(eV 0),(eV 1),(eV 2),(eV 3),(eV 4)])))
  (Af (xIf (eOp (o2 wEq) [(eOp (o2 wIx) [(eV 3),(eC (.int 0))]),(eC (.str "bring"))]) (BR (eOp (o2 Cv) [(eV 4),(Jh [(AJ Ea [(eOp (o2 wIx) [(eV 0),(eC (.int 0))]),(eOp (o2 wIx) [(eV 3),(eC (.int 1))])])])])) Dw)
  (Af (xIf (eOp (o2 (wIn false)) [(eOp (o2 wIx) [(eV 3),(eC (.int 0))]),(eC Dd)]) (BR (eOp (o2 Cv) [(eV 4),(Jh [(AJ BU [(eV 1),(eV 2),(eV 3)])])])) Dw)
  (BR (eV 4)))))
def Ar:Fn:=A1 (A3 5 BI)
def K2:Ex:=(Af (Nr (tTp [(tNm 2),(tNm 3),(tNm 4)]) (eV 0))
  (Af (Bp 5 (AJ CV [(eV 0)]))
  (Af (Bp 6 (Cn [] 1 (JR (eV 3)) (tNm 0) B3 (eOp (o2 wIx) [(eV 0),(eC (.int 2))])))
  (Af (Bp 7 (eOp (o2 wIx) [(eV 2),(eC (.int 3))]))
  (Af (Mp (JR (eOp (Ik false true) [(eV 4),(eV 1)])) (tNm 8) (Af (Bp 7 (AJ Ai [(eV 2),(eV 5),(eV 6),(eV 8),(eV 7)]))
  (Af (Bp 6 (AJ Ar [(eV 2),(eV 5),(eV 6),(eV 8)]))
  (Bp 5 (AJ Aq [(eV 5),(eV 8)])))))
  (BR (Bc [(eV 5),(eV 6),(eV 7)])))))))
def GJ:Fn:=A1 (A3 9 K2)
def G6:Ex:=(Af (xIf (eOp (o2 wLt) [(eV 1),(eOp (o1 Hj) [(eV 0)])]) (BR (eOp (o2 wIx) [(eV 0),(eV 1)])) Dw)
  (BR (eC (.int 0))))
def DL:Fn:=A1 (A3 2 G6)
def QE:Ex:=(BR (LH [(eV 0),(eOp (o1 Yy) [(eOp (o2 wGe) [(eV 0),(eOp (o2 dM) [(eC (.int 10)),(eC (.int 18))])])]),(eC (.int 0)),(eOp (o2 O4) [(eV 0),(eC (.int 1000000007))])]))
def IC:Fn:=A1 (A3 1 QE)
def Ij:Ex:=(Af (xIf (Ko (eOp (o2 wEq) [(eOp (o2 wIx) [(eV 0),(eC (.int 1))]),(eC (.int 1))]) (eOp (o2 wGt) [(eOp (o2 wIx) [(eV 0),(eC (.int 0))]),(eC (.int 0))])) (Af (Bp 2 (eOp (o2 O4) [(eOp (o2 wIx) [(eV 0),(eC (.int 0))]),(eV 1)]))
  (Af (Mn (eOp (o2 Ox) [(eOp (o2 wIx) [(eV 0),(eC (.int 0))]),(eV 1)]) (eV 0) (eC (.int 0)))
  (BR (eV 2)))) Dw)
  (Af (Mn (eOp (o2 Cv) [(eOp (o2 wIx) [(eV 0),(eC (.int 2))]),(eC (.int 1))]) (eV 0) (eC (.int 2)))
  (Af (Bp 3 (eOp (o2 O4) [(eOp (o2 Bx) [(eOp (o2 Cv) [(eOp (o2 wIx) [(eV 0),(eC (.int 3))]),(eC (.int 17))]),(eOp (o2 Cv) [(eC (.int 69621)),(eOp (o2 Bx) [(eC (.int 2)),(eOp (o2 wIx) [(eV 0),(eC (.int 2))])])])]),(eC (.int 2147483647))]))
  (Af (Bp 3 (eOp (o2 O4) [(eOp (o2 Cv) [(eOp (o2 Cv) [(eOp (o2 Bx) [(eV 3),(eV 3)]),(eOp (o2 Bx) [(eC (.int 40503)),(eOp (o2 wIx) [(eV 0),(eC (.int 2))])])]),(eC (.int 5))]),(eC (.int 2147483629))]))
  (BR (eOp (o2 O4) [(eOp (o2 Ox) [(eOp (o2 O4) [(eOp (o2 Bx) [(eV 3),(eC (.int 48271))]),(eC (.int 2147483647))]),(eC (.int 32))]),(eV 1)]))))))
def AL:Fn:=A1 (A3 4 Ij)
def LF:Ex:=(Af (Ph (Rp 1) (eOp (o2 wGt) [(eV 1),(eC (.int 0))]) (PV 0 1 (eV 1) (eOp (o2 O4) [(eV 0),(eV 1)])))
  (BR (eV 0)))
def F4:Fn:=A1 (A3 2 LF)
def Nk:Ex:=(Af (Bp 2 (AJ F4 [(eOp (o1 Zo) [(eV 0)]),(eV 1)]))
  (BR (Bc [(eOp (o2 Ox) [(eV 0),(eV 2)]),(eOp (o2 Ox) [(eV 1),(eV 2)])])))
def By:Fn:=A1 (A3 3 Nk)
def NO:Ex:=(BR (AJ By [(eOp (o2 Cv) [(eOp (o2 Bx) [(eOp (o2 wIx) [(eV 0),(eC (.int 0))]),(eOp (o2 wIx) [(eV 1),(eC (.int 1))])]),(eOp (o2 Bx) [(eOp (o2 wIx) [(eV 1),(eC (.int 0))]),(eOp (o2 wIx) [(eV 0),(eC (.int 1))])])]),(eOp (o2 Bx) [(eOp (o2 wIx) [(eV 0),(eC (.int 1))]),(eOp (o2 wIx) [(eV 1),(eC (.int 1))])])]))
def Bu:Fn:=A1 (A3 2 NO)
def L9:Ex:=(BR (AJ By [(eOp (o2 Bx) [(eOp (o2 wIx) [(eV 0),(eC (.int 0))]),(eOp (o2 wIx) [(eV 1),(eC (.int 0))])]),(eOp (o2 Bx) [(eOp (o2 wIx) [(eV 0),(eC (.int 1))]),(eOp (o2 wIx) [(eV 1),(eC (.int 1))])])]))
def Ak:Fn:=A1 (A3 2 L9)
def NQ:Ex:=(BR (AJ Bu [(eV 0),(Bc [(eOp (o2 NH) [(eC (.int 0)),(eOp (o2 wIx) [(eV 1),(eC (.int 0))])]),(eOp (o2 wIx) [(eV 1),(eC (.int 1))])])]))
def Bh:Fn:=A1 (A3 2 NQ)
def JW:Ex:=(Af (Bp 2 (Xb [0] 1 (Mq [(eV 1)]) (tNm 1) B3 (eOp (o2 wIx) [(Jh [(eC (.int 0)),(eC (.int 1)),(AJ AL [(eV 0),(eC (.int 4))]),(AJ AL [(eV 0),(eC (.int 9))])]),(AJ AL [(eV 0),(eC (.int 4))])])))
  (Af (xIf (eOp (o2 wEq) [(eOp (o1 WE) [(eV 2)]),(eC (.int 0))]) (Mn (eC (.int 1)) (eV 2) (AJ AL [(eV 0),(eV 1)])) Dw)
  (BR (eOp (o1 C7) [(Cn [2] 1 (JR (eV 2)) (tNm 1) B3 (AJ By [(eV 1),(eOp (o1 WE) [(eV 0)])]))]))))
def Di:Fn:=A1 (A3 3 JW)
def IE:Ex:=(Af (Bp 1 (eOp (o2 Cv) [(eOp (o2 dM) [(eC (.int 10)),(eC (.int 30))]),(AJ AL [(eV 0),(eC (.int 99))])]))
  (BR (eOp (o2 wIx) [(Jh [(eOp (o2 Cv) [(eC (.int 1)),(AJ AL [(eV 0),(eC (.int 4))])]),(eOp (o2 Cv) [(eC (.int 1)),(AJ AL [(eV 0),(eC (.int 40))])]),(eOp (o2 Cv) [(eC (.int 1)),(AJ AL [(eV 0),(eC (.int 999))])]),(eV 1)]),(eOp (o2 Ox) [(AJ AL [(eV 0),(eC (.int 7))]),(eC (.int 2))])])))
def Bb:Fn:=A1 (A3 2 IE)
def MV:Ex:=(Af (PV 1 2 (eOp (o2 Cv) [(eC (.int 1)),(AJ AL [(eV 0),(eC (.int 4))])]) (eOp (o2 Cv) [(eC (.int 1)),(AJ AL [(eV 0),(eC (.int 5))])]))
  (Af (Bp 3 (eOp (o2 wIx) [(Jh [(eOp (o2 Cv) [(eC (.int 1)),(AJ AL [(eV 0),(eC (.int 3))])]),(eOp (o2 Cv) [(eC (.int 1)),(AJ AL [(eV 0),(eC (.int 20))])])]),(AJ AL [(eV 0),(eC (.int 2))])]))
  (BR (Bc [(eV 1),(eV 2),(eV 3),(AJ Di [(eV 0),(eV 1)]),(AJ AL [(eV 0),(eC (.int 10))]),(AJ AL [(eV 0),(eC (.int 10))])]))))
def HN:Fn:=A1 (A3 4 MV)
def L4:Ex:=(Af (Bp 2 (LH []))
  (Af (Mp (Mq [(eOp (o2 wIx) [(Jh [(eC (.int 0)),(eC (.int 1)),(AJ AL [(eV 0),(eC (.int 5))])]),(AJ AL [(eV 0),(eC (.int 3))])])]) (tNm 3) (EO (O3 QD (eV 2) [(Bc [(AJ AL [(eV 0),(eOp (o2 wIx) [(eV 1),(eC (.int 1))])]),(AJ Bb [(eV 0)]),(AJ Di [(eV 0),(eOp (o2 wIx) [(eV 1),(eC (.int 0))])])])])))
  (BR (eOp (o1 C7) [(eV 2)]))))
def G7:Fn:=A1 (A3 4 L4)
def MH:Ex:=(Af (Bp 1 (eOp (o2 Cv) [(eC (.int 1)),(AJ AL [(eV 0),(eC (.int 12))])]))
  (BR (AJ By [(eOp (o2 Cv) [(eC (.int 1)),(AJ AL [(eV 0),(eV 1)])]),(eV 1)])))
def Dj:Fn:=A1 (A3 2 MH)
def Kv:Ex:=(BR (eOp (o1 C7) [(Cn [0] 1 (Mq [(eV 1)]) (tNm 1) B3 (eOp (o2 Cv) [(eC (.int 1)),(eOp (o2 wIx) [(Jh [(AJ AL [(eV 0),(eC (.int 3))]),(AJ AL [(eV 0),(eC (.int 99))])]),(AJ AL [(eV 0),(eC (.int 2))])])]))]))
def Dl:Fn:=A1 (A3 2 Kv)
def Ly:Ex:=(BR (LH [(Xb [] 1 (JR (eOp (o2 wIx) [(eV 0),(eC (.int 1))])) (tNm 0) B3 (Zp (o1 QB) [(eV 0)])),(eOp (o1 C7) [(eOp (o2 wIx) [(eOp (o2 wIx) [(eV 0),(eC (.int 0))]),(eC (.int 3))])]),(LH [])]))
def G8:Fn:=A1 (A3 1 Ly)
def K7:Ex:=(Af (Bp 2 (LH []))
  (Af (Mp (Ub (eOp (o2 wIx) [(eV 0),(eC (.int 2))]) (eOp (o2 wIx) [(eV 1),(eC (.int 2))])) (tTp [(tNm 3),(tNm 4)]) (Af (Bp 5 (AJ Bu [(AJ Ak [(Bc [(eOp (o2 wIx) [(eV 0),(eC (.int 1))]),(eC (.int 1))]),(eV 3)]),(AJ Ak [(Bc [(eOp (o2 wIx) [(eV 1),(eC (.int 1))]),(eC (.int 1))]),(eV 4)])]))
  (EO (O3 QD (eV 2) [(AJ Ak [(eV 5),(AJ By [(eC (.int 1)),(eOp (o2 Cv) [(eOp (o2 wIx) [(eV 0),(eC (.int 1))]),(eOp (o2 wIx) [(eV 1),(eC (.int 1))])])])])]))))
  (BR (eOp (o1 C7) [(eV 2)]))))
def GH:Fn:=A1 (A3 6 K7)
def Nb:Ex:=(Af (Bp 3 (eOp (o2 wIx) [(eV 2),(eC (.int 3))]))
  (Af (Bp 4 (eOp (o2 Cv) [(eOp (o1 WE) [(Cn [3] 3 (JR (eV 1)) (tTp [(tNm 1),(tNm 2),(tNm 3)]) B3 (eOp (o2 Bx) [(eV 2),(eOp (o2 wIx) [(eV 0),(eV 1)])]))]),(eOp (o2 Bx) [(eOp (o2 wIx) [(eV 0),(eC (.int 2))]),(eOp (o2 wIx) [(eV 3),(eOp (o1 YB) [(eC (.int 1))])])])]))
  (BR (AJ By [(eOp (o2 Bx) [(eOp (o2 wIx) [(eV 2),(eC (.int 2))]),(eOp (o2 wIx) [(eV 3),(eOp (o2 wIx) [(eOp (o2 wIx) [(eV 1),(eOp (o2 wIx) [(eV 2),(eC (.int 1))])]),(eC (.int 0))])])]),(eV 4)]))))
def Ie:Fn:=A1 (A3 5 Nb)
def MM:Ex:=(Af (Bp 3 (LH []))
  (Af (Mp (Ub (eV 0) (eV 2)) (tTp [(tNm 4),(tNm 5)]) (EO (O3 QD (eV 3) [(AJ Bu [(AJ Ak [(eV 4),(AJ Bh [(Bc [(eC (.int 1)),(eC (.int 1))]),(eV 1)])]),(AJ Ak [(eV 5),(eV 1)])])])))
  (BR (eOp (o1 C7) [(eV 3)]))))
def EM:Fn:=A1 (A3 6 MM)
def Nt:Ex:=(Af (Bp 2 (Zp (o1 QB) [(eV 0)]))
  (Af (Bp 3 (AJ Ak [(eOp (o2 wIx) [(eV 2),(eOp (o2 wIx) [(eV 1),(eC (.int 1))])]),(eOp (o2 wIx) [(eV 1),(eC (.int 3))])]))
  (Af (Mn (AJ Bh [(eOp (o2 wIx) [(eV 2),(eOp (o2 wIx) [(eV 1),(eC (.int 1))])]),(eV 3)]) (eV 2) (eOp (o2 wIx) [(eV 1),(eC (.int 1))]))
  (Af (Mn (AJ Bu [(eOp (o2 wIx) [(eV 2),(eOp (o2 wIx) [(eV 1),(eC (.int 2))])]),(eV 3)]) (eV 2) (eOp (o2 wIx) [(eV 1),(eC (.int 2))]))
  (BR (eOp (o1 C7) [(eV 2)]))))))
def FR:Fn:=A1 (A3 4 Nt)
def Kk:Ex:=(Af (Nr (tTp [(tNm 3),(tNm 4),(tNm 5)]) (eV 1))
  (xIf (eOp (o2 wEq) [(eOp (o2 wIx) [(eV 2),(eC (.int 0))]),(eC (.str "throw"))]) (Af (PV 6 7 (AJ Ie [(eV 0),(eV 3),(eV 2)]) (eOp (o2 wIx) [(eOp (o2 wIx) [(eV 3),(eOp (o2 wIx) [(eV 2),(eC (.int 1))])]),(eC (.int 2))]))
  (Af (Mn (eOp (o2 NH) [(eOp (o2 wIx) [(eOp (o2 wIx) [(eV 3),(eOp (o2 wIx) [(eV 2),(eC (.int 1))])]),(eC (.int 1))]),(eOp (o2 wIx) [(eV 2),(eC (.int 2))])]) (eOp (o2 wIx) [(eV 3),(eOp (o2 wIx) [(eV 2),(eC (.int 1))])]) (eC (.int 1)))
  (Af (Mp (JR (eV 3)) (tNm 8) (Mn (AJ EM [(eOp (o2 wIx) [(eV 8),(eC (.int 2))]),(eV 6),(eV 7)]) (eV 8) (eC (.int 2))))
  (Mn (AJ EM [(eV 4),(eV 6),(eV 7)]) (eV 1) (eC (.int 1)))))) (Af (Mp (JR (eV 3)) (tNm 8) (Mn (AJ FR [(eOp (o2 wIx) [(eV 8),(eC (.int 2))]),(eV 2)]) (eV 8) (eC (.int 2))))
  (Mn (AJ FR [(eV 4),(eV 2)]) (eV 1) (eC (.int 1))))))
def FU:Fn:=A1 (A3 9 Kk)
def F8:Ex:=(Af (Nr (tTp [(tNm 3),(tNm 4),(tNm 5)]) (eV 1))
  (Af (Bp 6 (eOp (o2 wIx) [(eV 2),(eC (.int 0))]))
  (xIf (eOp (o2 wEq) [(eV 6),(eC (.str "bring"))]) (EO (O3 QD (eV 3) [(LH [(eOp (o2 wIx) [(eV 2),(eC (.int 2))]),(eOp (o2 wIx) [(eV 2),(eC (.int 3))]),(eOp (o1 C7) [(Cn [2] 1 (Mq [(eOp (o2 wIx) [(eV 0),(eC (.int 0))])]) (tNm 1) B3 (Bc [(eOp (o1 Yy) [(eOp (o2 wEq) [(eV 1),(eOp (o2 wIx) [(eV 0),(eC (.int 1))])])]),(eC (.int 1))]))])])])) (xIf (eOp (o2 wEq) [(eV 6),(eC (.str "pool"))]) (Af (PV 7 8 (eOp (o2 wIx) [(eV 3),(eOp (o2 wIx) [(eV 2),(eC (.int 1))])]) (eOp (o2 wIx) [(eV 3),(eOp (o2 wIx) [(eV 2),(eC (.int 2))])]))
  (Af (EO (O3 QD (eV 3) [(LH [(eOp (o2 wIx) [(eV 7),(eC (.int 0))]),(eOp (o2 Cv) [(eOp (o2 wIx) [(eV 7),(eC (.int 1))]),(eOp (o2 wIx) [(eV 8),(eC (.int 1))])]),(AJ GH [(eV 7),(eV 8)])])]))
  (Af (Mn (eC (.int 0)) (eV 7) (eC (.int 1)))
  (Mn (eC (.int 0)) (eV 8) (eC (.int 1)))))) (xIf (eOp (o2 (wIn false)) [(eV 6),(Bc [(eC (.str "swap")),(eC (.str "trade"))])]) (Af (Nr (tTp [(tNm 9),(tNm 10),(tNm 11),(tNm 12)]) (eOp (Ik true false) [(eV 2),(eOp (o1 YB) [(eC (.int 4))])]))
  (Af (Mn (eOp (o2 NH) [(eOp (o2 wIx) [(eOp (o2 wIx) [(eV 3),(eV 9)]),(eC (.int 1))]),(eV 10)]) (eOp (o2 wIx) [(eV 3),(eV 9)]) (eC (.int 1)))
  (Af (EO (O3 QD (eV 3) [(LH [(eV 11),(eV 12),(eOp (o2 wIx) [(eOp (o2 wIx) [(eV 3),(eV 9)]),(eC (.int 2))])])]))
  (EO (O3 cU (eV 5) [(eOp (o2 Bx) [(eOp (Ik true true) [(eV 2),(eC (.int 1)),(eC (.int 2))]),(eOp (o1 Yy) [(eOp (o2 wEq) [(eV 6),(eC (.str "trade"))])])])]))))) (xIf (eOp (o2 wEq) [(eV 6),(eC (.str "spoil"))]) (Mn (eOp (o2 NH) [(eOp (o2 wIx) [(eOp (o2 wIx) [(eV 3),(eOp (o2 wIx) [(eV 2),(eC (.int 1))])]),(eC (.int 1))]),(eOp (o2 wIx) [(eV 2),(eC (.int 2))])]) (eOp (o2 wIx) [(eV 3),(eOp (o2 wIx) [(eV 2),(eC (.int 1))])]) (eC (.int 1))) (EO (AJ FU [(eV 0),(eV 1),(eV 2)]))))))))
def B4:Fn:=A1 (A3 13 F8)
def Nc:Ex:=(Af (Nr (tTp [(tNm 3),(tNm 4),(tNm 5)]) (eV 2))
  (Af (Bp 6 (Cn [] 2 (ao (eV 3)) (tTp [(tNm 0),(tNm 1)]) (eOp (o2 wGt) [(eOp (o2 wIx) [(eV 1),(eC (.int 1))]),(eC (.int 0))]) (eV 0)))
  (Af (Bp 7 (AJ AL [(eV 0),(eC (.int 12))]))
  (Af (xIf (eOr (eOp (o2 wLt) [(eV 7),(eC (.int 2))]) (eOp (o2 wEq) [(eV 6),(Jh [])])) (BR (Bc [(eC (.str "bring")),(AJ AL [(eV 0),(eOp (o2 wIx) [(eV 1),(eC (.int 0))])]),(AJ AL [(eV 0),(eOp (o2 wIx) [(eV 1),(eC (.int 1))])]),(AJ Bb [(eV 0)])])) Dw)
  (Af (Bp 8 (eOp (o2 wIx) [(eV 6),(AJ AL [(eV 0),(eOp (o1 Hj) [(eV 6)])])]))
  (Af (Bp 9 (eOp (o2 Cv) [(eC (.int 1)),(AJ AL [(eV 0),(eOp (o2 Zm) [(eOp (o2 wIx) [(eOp (o2 wIx) [(eV 3),(eV 8)]),(eC (.int 1))]),(eC (.int 2000))])])]))
  (Af (xIf (eOp (o2 wLt) [(eV 7),(eC (.int 5))]) (Af (Bp 10 (Cn [3,8] 1 (JR (eV 6)) (tNm 2) (Ko (eOp (o2 wNe) [(eV 2),(eV 1)]) (eOp (o2 wEq) [(eOp (o2 wIx) [(eOp (o2 wIx) [(eV 0),(eV 2)]),(eC (.int 0))]),(eOp (o2 wIx) [(eOp (o2 wIx) [(eV 0),(eV 1)]),(eC (.int 0))])])) (eV 2)))
  (xIf (eOp (o2 wNe) [(eV 10),(Jh [])]) (BR (Bc [(eC (.str "pool")),(eV 8),(eOp (o2 wIx) [(eV 10),(AJ AL [(eV 0),(eOp (o1 Hj) [(eV 10)])])])])) Dw)) Dw)
  (Af (xIf (Ko (eOp (o2 wLt) [(eV 7),(eC (.int 8))]) (eOp (o2 wGt) [(eOp (o2 wIx) [(eV 1),(eC (.int 1))]),(eC (.int 1))])) (Af (Bp 11 (eOp (o2 O4) [(eOp (o2 Cv) [(eOp (o2 Cv) [(eOp (o2 wIx) [(eOp (o2 wIx) [(eV 3),(eV 8)]),(eC (.int 0))]),(eC (.int 1))]),(AJ AL [(eV 0),(eOp (o2 NH) [(eOp (o2 wIx) [(eV 1),(eC (.int 1))]),(eC (.int 1))])])]),(eOp (o2 wIx) [(eV 1),(eC (.int 1))])]))
  (Af (Bp 12 (Cn [5] 1 (Mq [(eC (.int 10))]) (tNm 1) (eOp (o2 (wIn true)) [(eV 1),(eV 0)]) (eV 1)))
  (Af (xIf (Ko (eOp (o2 wEq) [(eV 7),(eC (.int 7))]) (eOp (o2 wNe) [(eV 12),(Jh [])])) (BR (Bc [(eC (.str "trade")),(eOp (o2 wIx) [(eV 12),(AJ AL [(eV 0),(eOp (o1 Hj) [(eV 12)])])]),(eV 8),(eV 9),(eV 11),(AJ Bb [(eV 0)])])) Dw)
  (BR (Bc [(eC (.str "swap")),(eV 8),(eV 9),(eV 11),(AJ Bb [(eV 0)])]))))) Dw)
  (Af (xIf (eOp (o2 wEq) [(eV 7),(eC (.int 8))]) (BR (Bc [(eC (.str "spoil")),(eV 8),(eV 9)])) Dw)
  (Af (xIf (Ko (eOp (o2 wEq) [(eV 7),(eC (.int 9))]) (eOp (o2 wGt) [(eOp (o2 wIx) [(eV 1),(eC (.int 0))]),(eC (.int 1))])) (Af (Bp 13 (AJ AL [(eV 0),(eOp (o2 wIx) [(eV 1),(eC (.int 0))])]))
  (BR (Bc [(eC (.str "sell")),(eV 13),(eOp (o2 O4) [(eOp (o2 Cv) [(eOp (o2 Cv) [(eV 13),(eC (.int 1))]),(AJ AL [(eV 0),(eOp (o2 NH) [(eOp (o2 wIx) [(eV 1),(eC (.int 0))]),(eC (.int 1))])])]),(eOp (o2 wIx) [(eV 1),(eC (.int 0))])]),(AJ Dj [(eV 0)])]))) Dw)
  (BR (Bc [(eC (.str "throw")),(eV 8),(eV 9),(AJ Dl [(eV 0),(eOp (o2 Cv) [(eOp (o2 wIx) [(eV 1),(eC (.int 1))]),(eC (.int 1))])])]))))))))))))
def Dq:Fn:=A1 (A3 14 Nc)
def Nl:Ex:=(Af (Bp 2 (AJ HN [(eV 0)]))
  (Af (Bp 3 (AJ G7 [(eV 0),(eV 2)]))
  (Af (PV 4 5 (AJ G8 [(Bc [(eV 2),(eV 3),(Bc [])])]) (LH []))
  (Af (Mp (Mq [(AJ AL [(eV 0),(eOp (o2 Cv) [(eV 1),(eC (.int 1))])])]) (tNm 6) (Af (Bp 7 (AJ Dq [(eV 0),(eV 2),(eV 4)]))
  (xIf (eOr (eOp (o2 wNe) [(eOp (o2 wIx) [(eV 7),(eC (.int 0))]),(eC (.str "throw"))]) (eOp (o2 wLt) [(eOp (o1 Hj) [(Cn [] 1 (JR (eV 5)) (tNm 0) (eOp (o2 wEq) [(eOp (o2 wIx) [(eV 0),(eC (.int 0))]),(eC (.str "throw"))]) (eV 0))]),(eC (.int 3))])) (Af (EO (AJ B4 [(eV 2),(eV 4),(eV 7)]))
  (EO (O3 QD (eV 5) [(eV 7)]))) Dw)))
  (BR (Bc [(eV 2),(eV 3),(eOp (o1 C7) [(eV 5)])]))))))
def Gw:Fn:=A1 (A3 8 Nl)
def IG:Ex:=(Af (Mp (XC (eV 0) (eV 1) (eV 2)) (tTp [(tNm 3),(tNm 4),(tNm 5)]) (xIf (eOr (eOp (o2 wLt) [(eOp (o2 wIx) [(AJ Bh [(eV 3),(eV 4)]),(eC (.int 0))]),(eC (.int 0))]) (eOp (o2 wLt) [(eOp (o2 wIx) [(AJ Bh [(eV 5),(eV 3)]),(eC (.int 0))]),(eC (.int 0))])) (BR (eC (.bl false))) Dw))
  (BR (eC (.bl true))))
def Cy:Fn:=A1 (A3 6 IG)
def Pm:Ex:=(Af (Bp 1 (Bc [(eC (.int 0)),(eC (.int 1))]))
  (Af (Mp (JR (eV 0)) (tNm 2) (Bp 1 (AJ Bu [(eV 1),(eV 2)])))
  (BR (eV 1))))
def Gg:Fn:=A1 (A3 3 Pm)
def NI:Ex:=(BR (Cn [0] 1 (Mq [(eOp (o1 Hj) [(eOp (o2 wIx) [(eV 0),(eC (.int 0))])])]) (tNm 1) B3 (AJ Gg [(Cn [1] 1 (JR (eV 0)) (tNm 1) B3 (eOp (o2 wIx) [(eV 1),(eV 0)]))])))
def FX:Fn:=A1 (A3 1 NI)
def NZ:Ex:=(Af (Nr (tTp [(tNm 3),(tNm 4),(tNm 5)]) (eV 0))
  (BR (Bc [(eV 3),(eV 4),(eOp (o2 Cv) [(eOp (o2 Cv) [(eOp (Ik false true) [(eV 5),(eV 1)]),(Bc [(eV 2)])]),(eOp (Ik true false) [(eV 5),(eV 1)])])])))
def DK:Fn:=A1 (A3 6 NZ)
def JH:Ex:=(BR (AJ Cd [(eV 1),(eC (.int 0)),(eOp (o2 NH) [(eOp (o2 wIx) [(eV 0),(eC (.int 0))]),(eC (.int 1))])]))
def GK:Fn:=A1 (A3 2 JH)
def Ef:Ex:=(xIf (Qa (AJ GK [(eOp (o2 wIx) [(eV 0),(eC (.int 0))]),(eV 1)])) PX Dw)
def CG:Fn:=A1 (A3 2 Ef)
def Gv:Ex:=(Af (Bp 3 (Zp (o2 Bx) [(Jh [(eC D0)]),(eV 0)]))
  (Af (Mp (Ub (eV 1) (eV 2)) (tTp [(tTp [(tNm 5),(tNm 6)]),(tNm 4)]) (Mn (AJ HE [(eOp (o2 wIx) [(eV 3),(eV 5)]),(AJ Fq [(Bc [(eV 6),(eC (.int 1))]),(eV 4)])]) (eV 3) (eV 5)))
  (BR (eOp (o1 C7) [(eV 3)]))))
def CU:Fn:=A1 (A3 7 Gv)
def Ib:Ex:=(Af (Nr (tTp [(tNm 2),(tNm 3)]) (eOp (Ik false true) [(eOp (o2 wIx) [(eV 0),(eC (.int 0))]),(eC (.int 2))]))
  (Af (Nr (tTp [(tNm 4),(tNm 5),(tNm 6)]) (AJ GJ [(eV 0),(eV 1)]))
  (BR (Cn [3,4,5] 1 (Mq [(eV 2)]) (tNm 3) B3 (AJ CU [(eV 0),(eV 1),(Cn [3] 1 (JR (eV 2)) (tNm 1) B3 (eOp (o2 wIx) [(eV 1),(eV 0)]))])))))
def B1:Fn:=A1 (A3 7 Ib)
def Jn:Ex:=(Af (EO (AJ Bw [(eV 0)]))
  (Af (EO (AJ CO [(eV 0),(eV 1)]))
  (Af (EO (AJ CG [(eV 0),(eV 2)]))
  (BR (eOp (o2 wIx) [(AJ B1 [(eV 0),(eV 1)]),(eV 2)])))))
def Ay:Fn:=A1 (A3 3 Jn)
def J8:Ex:=(BR (eOp (o1 C7) [(Cn [] 2 (Ub (eV 0) (eV 1)) (tTp [(tNm 0),(tNm 1)]) B3 (AJ HP [(eV 0),(eV 1)]))]))
def EH:Fn:=A1 (A3 2 J8)
def K5:Ex:=(BR (AJ Cd [(eV 1),(eC (.int 0)),(eOp (o2 NH) [(eOp (o1 Hj) [(eOp (o2 wIx) [(eV 0),(eC (.int 2))])]),(eC (.int 1))])]))
def IK:Fn:=A1 (A3 2 K5)
def Hw:Ex:=(BR (Ko (AJ IK [(eV 0),(eV 2)]) (eOp (o2 wEq) [(eOp (o2 wIx) [(eOp (o2 wIx) [(eOp (o2 wIx) [(eV 0),(eC (.int 2))]),(eV 2)]),(eC (.int 0))]),(eV 1)])))
def Ft:Fn:=A1 (A3 3 Hw)
def GB:Ex:=(xIf (Qa (AJ Ft [(eV 0),(eC (.str "sell")),(eV 1)])) PX Dw)
def CJ:Fn:=A1 (A3 2 GB)
def Hd:Ex:=(Af (Nr (tTp [(tNm 2),(tNm 3),(tNm 4)]) (eV 0))
  (BR (Bc [(eV 2),(eV 3),(eOp (o2 Cv) [(eOp (Ik false true) [(eV 4),(eV 1)]),(eOp (Ik true false) [(eV 4),(eOp (o2 Cv) [(eV 1),(eC (.int 1))])])])])))
def Co:Fn:=A1 (A3 5 Hd)
def KG:Ex:=(Af (EO (AJ Bw [(eV 0)]))
  (Af (EO (AJ CJ [(eV 0),(eV 1)]))
  (Af (Bp 2 (AJ Co [(eV 0),(eV 1)]))
  (Af (PV 3 4 (AJ B1 [(eV 0),(eOp (o1 Hj) [(eOp (o2 wIx) [(eV 0),(eC (.int 2))])])]) (AJ B1 [(eV 2),(eOp (o1 Hj) [(eOp (o2 wIx) [(eV 2),(eC (.int 2))])])]))
  (BR (eOp (o1 C7) [(Cn [] 2 (Ub (eV 3) (eV 4)) (tTp [(tNm 0),(tNm 1)]) B3 (AJ EH [(eV 0),(eV 1)]))]))))))
def Cg:Fn:=A1 (A3 5 KG)
def Nh:Ex:=(Af (EO (AJ Bw [(eV 0)]))
  (Af (EO (AJ CJ [(eV 0),(eV 1)]))
  (BR (AJ Co [(eV 0),(eV 1)]))))
def GW:Fn:=A1 (A3 2 Nh)
def GI:Ex:=(Af (Bp 3 (AJ DK [(eV 0),(eV 1),(eV 2)]))
  (Af (PV 4 5 (eOp (o1 Hj) [(eOp (o2 wIx) [(eV 3),(eC (.int 2))])]) (AJ Cg [(eV 3),(eV 1)]))
  (Af (xIf (eOr (eOp (o2 wNe) [(AJ GW [(eV 3),(eV 1)]),(eV 0)]) (eOp (o2 wNe) [(Cn [] 1 (JR (AJ FX [(eV 5)])) (tNm 0) B3 (eOp (o2 wIx) [(eV 0),(eC (.int 0))])),(eOp (o2 Bx) [(Jh [(eC (.int 0))]),(eOp (o2 wIx) [(eOp (o2 wIx) [(eV 0),(eC (.int 0))]),(eC (.int 1))])])])) (BR (eC (.bl false))) Dw)
  (Af (Mp (Mq [(eOp (o2 wIx) [(eOp (o2 wIx) [(eV 0),(eC (.int 0))]),(eC (.int 0))])]) (tNm 6) (Af (PV 7 8 (AJ Ay [(eV 0),(eOp (o2 NH) [(eV 4),(eC (.int 1))]),(eV 6)]) (AJ Ay [(eV 3),(eV 4),(eV 6)]))
  (xIf (eOp (o2 wNe) [(eOp (o2 wIx) [(eV 5),(eV 6)]),(eOp (o1 C7) [(Cn [] 2 (Ub (eV 8) (eV 7)) (tTp [(tNm 0),(tNm 1)]) B3 (AJ Bh [(eV 0),(eV 1)]))])]) (BR (eC (.bl false))) Dw)))
  (Af (xIf (eOp (o2 wNe) [(Cn [] 1 (JR (eOp (Ik true false) [(eOp (o2 wIx) [(eV 0),(eC (.int 2))]),(eV 1)])) (tNm 0) (eOp (o2 (wIn false)) [(eOp (o2 wIx) [(eV 0),(eC (.int 0))]),(Bc [(eC (.str "throw")),(eC (.str "sell"))])]) (eV 0)),(Jh [])]) (BR (eC (.bl true))) Dw)
  (Af (Mp (Mq [(eOp (o2 wIx) [(eOp (o2 wIx) [(eV 0),(eC (.int 0))]),(eC (.int 0))])]) (tNm 6) (xIf (Ko (eOp (o2 (wIn true)) [(eV 6),(eOp (Ik true true) [(eV 2),(eC (.int 1)),(eC (.int 3))])]) (eOp (o2 wNe) [(Cn [] 1 (JR (eOp (o2 wIx) [(eV 5),(eV 6)])) (tNm 0) B3 (eOp (o2 wIx) [(eV 0),(eC (.int 0))])),(eOp (o2 Bx) [(Jh [(eC (.int 0))]),(eOp (o2 wIx) [(eOp (o2 wIx) [(eV 0),(eC (.int 0))]),(eC (.int 1))])])])) (BR (eC (.bl false))) Dw))
  (Af (Bp 7 (AJ Ay [(eV 0),(eOp (o2 NH) [(eV 4),(eC (.int 1))]),(eOp (o2 wIx) [(eV 2),(eC (.int 1))])]))
  (Af (Bp 9 (eOp (o1 C7) [(Cn [2] 1 (JR (eV 7)) (tNm 1) B3 (AJ Ak [(eV 1),(eOp (o2 wIx) [(eV 0),(eC (.int 3))])]))]))
  (BR (AJ Cy [(eOp (o2 wIx) [(eV 5),(eOp (o2 wIx) [(eV 2),(eC (.int 2))])]),(eOp (o2 Bx) [(Bc [(Bc [(eC (.int 0)),(eC (.int 1))])]),(eOp (o2 wIx) [(eOp (o2 wIx) [(eV 0),(eC (.int 0))]),(eC (.int 1))])]),(eV 9)]))))))))))
def Bm:Fn:=A1 (A3 10 GI)
def Hc:Ex:=(Af (Bp 2 (eOp (o1 Hj) [(eOp (o2 wIx) [(eV 0),(eC (.int 2))])]))
  (Af (Bp 3 (AJ DK [(eV 0),(eV 2),(eV 1)]))
  (Af (Bp 4 (AJ Ay [(eV 0),(eV 2),(eOp (o2 wIx) [(eV 1),(eC (.int 1))])]))
  (BR (eOp (o2 wEq) [(eOp (o2 wIx) [(AJ Cg [(eV 3),(eV 2)]),(eOp (o2 wIx) [(eV 1),(eC (.int 2))])]),(eOp (o1 C7) [(Cn [1] 1 (JR (eV 4)) (tNm 1) B3 (AJ Ak [(eV 1),(eOp (o2 wIx) [(eV 0),(eC (.int 3))])]))])])))))
def Cj:Fn:=A1 (A3 5 Hc)
def GX:Ex:=(Af (Nr (tTp [(tNm 4),(tNm 5),(tNm 6)]) (eV 3))
  (Af (Bp 7 (AJ DK [(AJ DK [(eV 0),(eV 1),(eOp (o2 Cv) [(eOp (Ik false true) [(eV 2),(eC (.int 3))]),(Bc [(eV 5)])])]),(eV 1),(eOp (o2 Cv) [(eOp (Ik false true) [(eV 2),(eC (.int 3))]),(Bc [(eV 4)])])]))
  (Af (Bp 8 (AJ DK [(eV 0),(eV 1),(eOp (o2 Cv) [(eOp (Ik false true) [(eV 2),(eC (.int 3))]),(Bc [(eV 6)])])]))
  (Af (Mp (Mq [(eOp (o2 wIx) [(eOp (o2 wIx) [(eV 0),(eC (.int 0))]),(eC (.int 0))])]) (tNm 9) (xIf (eOp (o2 wNe) [(AJ Ay [(eV 7),(eOp (o1 Hj) [(eOp (o2 wIx) [(eV 7),(eC (.int 2))])]),(eV 9)]),(AJ Ay [(eV 8),(eOp (o1 Hj) [(eOp (o2 wIx) [(eV 8),(eC (.int 2))])]),(eV 9)])]) (BR (eC (.bl false))) Dw))
  (BR (eC (.bl true)))))))
def CP:Fn:=A1 (A3 10 GX)
def Uy:Ex:=(Af (Mp (Mq [(eOp (o2 cn) [(eC (.int 1)),(eOp (o2 Zm) [(eOp (o1 Hj) [(eV 0)]),(eC (.int 3))])])]) (tNm 1) (Af (Bp 2 (AJ IC [(AJ DL [(eV 0),(eV 1)])]))
  (Af (Bp 3 (AJ Gw [(eV 2),(eC (.int 10))]))
  (Af (Bp 4 (eOp (o2 wIx) [(eOp (o2 wIx) [(eV 3),(eC (.int 0))]),(eC (.int 0))]))
  (Af (xIf (eOp (o2 wEq) [(eV 4),(eC (.int 1))]) (Af (Bp 3 (Bc [(eOp (o2 Cv) [(eOp (o2 Cv) [(eOp (o2 Cv) [(Bc [(eC (.int 2))]),(eOp (Ik true true) [(eOp (o2 wIx) [(eV 3),(eC (.int 0))]),(eC (.int 1)),(eC (.int 3))])]),(Bc [(Bc [(Bc [(eC (.int 1)),(eC (.int 2))]),(Bc [(eC (.int 1)),(eC (.int 2))])])])]),(eOp (Ik true false) [(eOp (o2 wIx) [(eV 3),(eC (.int 0))]),(eC (.int 4))])]),(Bc []),(Bc [])]))
  (Bp 4 (eC (.int 2)))) Dw)
  (Mp (Mq [(eC (.int 3))]) (tNm 5) (Af (Bp 6 (AJ AL [(eV 2),(eV 4)]))
  (Af (Bp 7 (eOp (o2 O4) [(eOp (o2 Cv) [(eOp (o2 Cv) [(eV 6),(eC (.int 1))]),(AJ AL [(eV 2),(eOp (o2 NH) [(eV 4),(eC (.int 1))])])]),(eV 4)]))
  (Af (Bp 8 (Bc [(eC (.str "sell")),(eV 6),(eV 7),(AJ Dj [(eV 2)])]))
  (Af (Bp 9 (AJ AL [(eV 2),(eOp (o2 Cv) [(eOp (o1 Hj) [(eOp (o2 wIx) [(eV 3),(eC (.int 2))])]),(eC (.int 1))])]))
  (Af (xIf (eOr (Qa (AJ Bm [(eV 3),(eV 9),(eV 8)])) (Qa (AJ Cj [(eV 3),(eV 8)]))) (BR (eC (.bl false))) Dw)
  (Af (Bp 10 (LH [(Bc [(Bc [(eC (.int 1)),(eC (.int 2))]),(Bc [(eC (.int 1)),(eC (.int 2))]),(Bc [(eC (.int 3)),(eC (.int 4))])]),(Bc [(Bc [(eC (.int 1)),(eC (.int 3))]),(Bc [(eC (.int 1)),(eC (.int 2))]),(Bc [(eC (.int 2)),(eC (.int 3))])]),(Bc [(Bc [(eC (.int 1)),(eC (.int 4))]),(Bc [(eC (.int 1)),(eC (.int 3))]),(Bc [(eC (.int 1)),(eC (.int 2))])])]))
  (Af (EO (O3 QD (eV 10) [(Bc [(Bc [(eC (.int 1)),(eC (.int 1))]),(Bc [(eC (.int 1)),(eC (.int 5))]),(Bc [(eC (.int 1)),(eC (.int 1))])])]))
  (xIf (Qa (AJ CP [(eV 3),(eV 9),(eV 8),(eOp (o2 wIx) [(eV 10),(AJ AL [(eV 2),(eC (.int 4))])])])) (BR (eC (.bl false))) Dw))))))))))))))
  (BR (eC (.bl true))))
def ON:Fn:=A1 (A3 11 Uy)
end
section
open PyProof.Rows (boot_isinstance boot_int boot_bool boot_tuple boot_str boot_list boot_abs boot_all boot_any boot_sum boot_max boot_min boot_range boot_enumerate boot_zip boot_sorted boot_set boot_divmod)
noncomputable def top(i:Nat):Stmt:=PySem.Challenge.pw_sharetrail_k52_whole_what_came_behind_a.main.body.getD i (.Pass ⟨0,0,0,0⟩)
noncomputable def aK(sc osc:Scope):Scope:={sc with names:=sc.names.map fun(n,k)=>if(k== .free && osc.kind== .function && osc.names.lookup n==some .cell)then(n,.cell)else(n,k)}
abbrev s_p_is_whole:Stmt:=top 3
abbrev s_p_is_from:Stmt:=top 4
abbrev s_p_is_within:Stmt:=top 5
abbrev s_p_greatest_divisor:Stmt:=top 6
abbrev s_p_lowest:Stmt:=top 7
abbrev s_p_plus:Stmt:=top 8
abbrev s_p_less:Stmt:=top 9
abbrev s_p_less_each:Stmt:=top 10
abbrev s_p_times:Stmt:=top 11
abbrev s_p_mixed:Stmt:=top 12
abbrev s_p_is_partner:Stmt:=top 21
abbrev s_p_has_pieces:Stmt:=top 22
abbrev s_p_can_pool:Stmt:=top 23
abbrev s_p_can_swap:Stmt:=top 24
abbrev s_p_can_do:Stmt:=top 25
abbrev s_p_held_without:Stmt:=top 26
abbrev s_p_held_behind:Stmt:=top 27
abbrev s_p_held_at_first:Stmt:=top 28
abbrev s_p_made_from:Stmt:=top 29
abbrev s_p_first_wrong:Stmt:=top 30
abbrev s_p_refuse_undone:Stmt:=top 31
abbrev s_p_is_place:Stmt:=top 32
abbrev s_p_is_place_of:Stmt:=top 33
abbrev s_p_refuse_no_number:Stmt:=top 34
abbrev s_p_refuse_no_partner:Stmt:=top 35
abbrev s_p_all_to_one:Stmt:=top 37
abbrev s_p_mixed_shares:Stmt:=top 38
abbrev s_p_made_shares:Stmt:=top 39
abbrev s_p_worth_of_all:Stmt:=top 40
abbrev s_p_part_thrown:Stmt:=top 41
abbrev s_p_thrown_shares:Stmt:=top 42
abbrev s_p_sold_shares:Stmt:=top 43
abbrev s_p_shares_behind:Stmt:=top 44
abbrev s_p_owners_behind:Stmt:=top 45
abbrev s_p_state_by:Stmt:=top 46
abbrev s_p_sums_by_kinds:Stmt:=top 47
abbrev s_p_theirs_told:Stmt:=top 48
abbrev s_p_theirs_by:Stmt:=top 49
abbrev s_p_refuse_no_sale:Stmt:=top 51
abbrev s_p_without_deed:Stmt:=top 52
abbrev s_p_unsold:Stmt:=top 53
abbrev s_p_turned_by:Stmt:=top 54
abbrev s_law_pen:Stmt:=top 56
abbrev s_law_cell_at:Stmt:=top 57
abbrev s_law_draw:Stmt:=top 58
abbrev s_law_common:Stmt:=top 59
abbrev s_law_made:Stmt:=top 60
abbrev s_law_whole:Stmt:=top 61
abbrev s_law_train:Stmt:=top 62
abbrev s_law_pieces:Stmt:=top 63
abbrev s_law_first:Stmt:=top 64
abbrev s_law_begun:Stmt:=top 65
abbrev s_law_share:Stmt:=top 66
abbrev s_law_worths:Stmt:=top 67
abbrev s_law_deed:Stmt:=top 68
abbrev s_law_plus:Stmt:=top 69
abbrev s_law_times:Stmt:=top 70
abbrev s_law_pooled:Stmt:=top 71
abbrev s_law_cost:Stmt:=top 72
abbrev s_law_less:Stmt:=top 73
abbrev s_law_borne:Stmt:=top 74
abbrev s_law_sold:Stmt:=top 75
abbrev s_law_turn:Stmt:=top 76
abbrev s_law_do:Stmt:=top 77
abbrev s_law_book:Stmt:=top 78
abbrev s_law_with:Stmt:=top 79
abbrev s_law_sum:Stmt:=top 80
abbrev s_law_sums:Stmt:=top 81
abbrev s_law_is_within:Stmt:=top 82
abbrev s_law_behind_right:Stmt:=top 83
abbrev s_law_last_right:Stmt:=top 84
abbrev s_law_split_right:Stmt:=top 85
abbrev s_p_law:Stmt:=top 86
section
variable(P:Program)(w:World)(K:PySem.W.Frag)(mg:Str->Option Value)(base:Heap)
abbrev K4:Prop:=St.Dfn P w K mg base "is_whole" 1 ["thing"] (spD K 1 Ec)
abbrev MS:Prop:=St.Dfn P w K mg base "is_from" 2 ["thing","low"] (spD K 2 Fs)
abbrev FO:Prop:=St.Dfn P w K mg base "is_within" 3 ["thing","low","high"] (spD K 3 Cd)
abbrev FG:Prop:=St.Dfn P w K mg base "greatest_divisor" 1 ["one","other"] (spD K 2 CN)
abbrev FW:Prop:=St.Dfn P w K mg base "lowest" 2 ["top","bottom"] (spD K 2 DC)
abbrev Ou:Prop:=St.Dfn P w K mg base "plus" 3 ["one","other"] (spD K 2 HE)
abbrev N8:Prop:=St.Dfn P w K mg base "less" 3 ["one","other"] (spD K 2 HP)
abbrev KC:Prop:=St.Dfn P w K mg base "less_each" 4 ["ones","others"] (spD K 2 EH)
abbrev Lf:Prop:=St.Dfn P w K mg base "times" 3 ["one","other"] (spD K 2 Fq)
abbrev PJ:Prop:=St.Dfn P w K mg base "mixed" 3 ["one","weight","other","more"] (spD K 4 IU)
abbrev JC:Prop:=St.Dfn P w K mg base "is_partner" 4 ["train","thing"] (spD K 2 GK)
abbrev EY:Prop:=St.Dfn P w K mg base "has_pieces" 1 ["held","load","pieces"] (spD K 3 CL)
abbrev K9:Prop:=St.Dfn P w K mg base "can_pool" 2 ["held","load","other"] (spD K 3 GF)
abbrev Ku:Prop:=St.Dfn P w K mg base "can_swap" 2 ["held","load","given","kind"] (spD K 4 Et)
abbrev NM:Prop:=St.Dfn P w K mg base "can_do" 3 ["held","done","deed"] (spD K 3 CW)
abbrev Hg:Prop:=St.Dfn P w K mg base "held_without" 1 ["held","load","pieces"] (spD K 3 Bn)
abbrev Fp:Prop:=St.Dfn P w K mg base "held_behind" 2 ["held","deed"] (spD K 2 Aq)
abbrev EK:Prop:=St.Dfn P w K mg base "held_at_first" 1 ["book"] (spD K 1 CV)
abbrev Jt:Prop:=St.Dfn P w K mg base "made_from" 1 ["deed"] (spD K 1 CC)
abbrev Hz:Prop:=St.Dfn P w K mg base "first_wrong" 4 ["book"] (spD K 1 D5)
abbrev DN:Prop:=St.Dfn P w K mg base "refuse_undone" 5 ["book"] (spD K 1 Bw)
abbrev LC:Prop:=St.Dfn P w K mg base "is_place" 4 ["book","thing"] (spD K 2 IK)
abbrev Ic:Prop:=St.Dfn P w K mg base "is_place_of" 5 ["book","word","thing"] (spD K 3 Ft)
abbrev FH:Prop:=St.Dfn P w K mg base "refuse_no_number" 4 ["book","many"] (spD K 2 CO)
abbrev Ee:Prop:=St.Dfn P w K mg base "refuse_no_partner" 5 ["book","partner"] (spD K 2 CG)
abbrev JF:Prop:=St.Dfn P w K mg base "all_to_one" 1 ["many","one"] (spD K 2 Ea)
abbrev E9:Prop:=St.Dfn P w K mg base "mixed_shares" 4 ["shares","weight","others","more"] (spD K 4 Cp)
abbrev IT:Prop:=St.Dfn P w K mg base "made_shares" 5 ["held","shares","deed"] (spD K 3 BU)
abbrev HY:Prop:=St.Dfn P w K mg base "worth_of_all" 1 ["train","held","worths"] (spD K 3 De)
abbrev IV:Prop:=St.Dfn P w K mg base "part_thrown" 3 ["train","held","deed"] (spD K 3 EC)
abbrev GV:Prop:=St.Dfn P w K mg base "thrown_shares" 5 ["train","held","owners","deed","shares"] (spD K 5 DH)
abbrev IM:Prop:=St.Dfn P w K mg base "sold_shares" 4 ["deed","shares"] (spD K 2 D8)
abbrev ES:Prop:=St.Dfn P w K mg base "shares_behind" 6 ["train","held","owners","deed","shares"] (spD K 5 Ai)
abbrev GS:Prop:=St.Dfn P w K mg base "owners_behind" 7 ["train","held","owners","deed"] (spD K 4 Ar)
abbrev Kx:Prop:=St.Dfn P w K mg base "state_by" 8 ["book","many"] (spD K 2 GJ)
abbrev Gf:Prop:=St.Dfn P w K mg base "sums_by_kinds" 4 ["kinds","held","shares"] (spD K 3 CU)
abbrev Fb:Prop:=St.Dfn P w K mg base "theirs_told" 9 ["book","many"] (spD K 2 B1)
abbrev FK:Prop:=St.Dfn P w K mg base "theirs_by" 10 ["book","many","partner"] (spD K 3 Ay)
abbrev Dy:Prop:=St.Dfn P w K mg base "refuse_no_sale" 6 ["book","place"] (spD K 2 CJ)
abbrev E8:Prop:=St.Dfn P w K mg base "without_deed" 1 ["book","place"] (spD K 2 Co)
abbrev Nd:Prop:=St.Dfn P w K mg base "unsold" 7 ["book","place"] (spD K 2 GW)
abbrev HM:Prop:=St.Dfn P w K mg base "turned_by" 10 ["book","place"] (spD K 2 Cg)
abbrev P7:Prop:=St.Dfn P w K mg base "_law_pen" 1 ["_law_cell"] (spD K 1 IC)
abbrev Jp:Prop:=St.Dfn P w K mg base "_law_cell_at" 1 ["_law_script","_law_k"] (spD K 2 DL)
abbrev Cr:Prop:=St.Dfn P w K mg base "_law_draw" 1 ["_law_pen_here","_law_bound"] (spD K 2 AL)
abbrev Kr:Prop:=St.Dfn P w K mg base "_law_common" 1 ["_law_one","_law_other"] (spD K 2 F4)
abbrev EL:Prop:=St.Dfn P w K mg base "_law_made" 2 ["_law_top","_law_bottom"] (spD K 2 By)
abbrev JP:Prop:=St.Dfn P w K mg base "_law_whole" 3 ["_law_pen_here","_law_many"] (spD K 2 Di)
abbrev Mg:Prop:=St.Dfn P w K mg base "_law_train" 4 ["_law_pen_here"] (spD K 1 HN)
abbrev IQ:Prop:=St.Dfn P w K mg base "_law_pieces" 2 ["_law_pen_here"] (spD K 1 Bb)
abbrev Lk:Prop:=St.Dfn P w K mg base "_law_first" 4 ["_law_pen_here","_law_train_here"] (spD K 2 G7)
abbrev Ll:Prop:=St.Dfn P w K mg base "_law_begun" 1 ["_law_book_here"] (spD K 1 G8)
abbrev JQ:Prop:=St.Dfn P w K mg base "_law_share" 3 ["_law_pen_here"] (spD K 1 Dj)
abbrev Ky:Prop:=St.Dfn P w K mg base "_law_worths" 2 ["_law_pen_here","_law_many"] (spD K 2 Dl)
abbrev Nz:Prop:=St.Dfn P w K mg base "_law_deed" 4 ["_law_pen_here","_law_train_here","_law_state"] (spD K 3 Dq)
abbrev FY:Prop:=St.Dfn P w K mg base "_law_plus" 3 ["_law_one","_law_other"] (spD K 2 Bu)
abbrev EV:Prop:=St.Dfn P w K mg base "_law_times" 3 ["_law_one","_law_other"] (spD K 2 Ak)
abbrev Kt:Prop:=St.Dfn P w K mg base "_law_pooled" 4 ["_law_one","_law_other"] (spD K 2 GH)
abbrev Nx:Prop:=St.Dfn P w K mg base "_law_cost" 3 ["_law_train_here","_law_loads","_law_deed_here"] (spD K 3 Ie)
abbrev Gk:Prop:=St.Dfn P w K mg base "_law_less" 4 ["_law_one","_law_other"] (spD K 2 Bh)
abbrev Ls:Prop:=St.Dfn P w K mg base "_law_borne" 5 ["_law_shares","_law_part","_law_owners"] (spD K 3 EM)
abbrev NU:Prop:=St.Dfn P w K mg base "_law_sold" 5 ["_law_shares","_law_deed_here"] (spD K 2 FR)
abbrev Nq:Prop:=St.Dfn P w K mg base "_law_turn" 6 ["_law_train_here","_law_state","_law_deed_here"] (spD K 3 FU)
abbrev Q4:Prop:=St.Dfn P w K mg base "_law_do" 7 ["_law_train_here","_law_state","_law_deed_here"] (spD K 3 B4)
abbrev Na:Prop:=St.Dfn P w K mg base "_law_book" 8 ["_law_pen_here","_law_most"] (spD K 2 Gw)
abbrev Io:Prop:=St.Dfn P w K mg base "_law_with" 1 ["_law_book_here","_law_at","_law_deed_here"] (spD K 3 DK)
abbrev Pw:Prop:=St.Dfn P w K mg base "_law_sum" 4 ["_law_some"] (spD K 1 Gg)
abbrev Ni:Prop:=St.Dfn P w K mg base "_law_sums" 5 ["_law_rows"] (spD K 1 FX)
abbrev II:Prop:=St.Dfn P w K mg base "_law_is_within" 5 ["_law_mine","_law_least","_law_most"] (spD K 3 Cy)
abbrev Fv:Prop:=St.Dfn P w K mg base "_law_behind_right" 11 ["_law_book_here","_law_at","_law_deed_here"] (spD K 3 Bm)
abbrev HZ:Prop:=St.Dfn P w K mg base "_law_last_right" 11 ["_law_book_here","_law_deed_here"] (spD K 2 Cj)
abbrev GZ:Prop:=St.Dfn P w K mg base "_law_split_right" 11 ["_law_book_here","_law_at","_law_deed_here","_law_halves"] (spD K 4 CP)
end
structure Bts(mg:Str->Option Value):Prop where
 abs:mg "abs"=none
 bool:mg "bool"=none
 enumerate:mg "enumerate"=none
 int:mg "int"=none
 isi:mg "isinstance"=none
 len:mg "len"=none
 list:mg "list"=none
 max:mg "max"=none
 min:mg "min"=none
 range:mg "range"=none
 sorted:mg "sorted"=none
 sum:mg "sum"=none
 tuple:mg "tuple"=none
 zip:mg "zip"=none
end
section
open PyProof.Rows (boot_isinstance boot_int boot_bool boot_tuple boot_str boot_list boot_abs boot_all boot_any boot_sum boot_max boot_min boot_range boot_enumerate boot_zip boot_sorted boot_set boot_divmod)
variable{P:Program}{w:World}{K:PySem.W.Frag}{mg:Str->Option Value}{base:Heap}
theorem N4:AR ["thing"] ["thing"] (AH s_p_is_whole):=⟨rfl,rfl,rfl,by decide+kernel,rfl,by decide+kernel,by decide+kernel⟩
theorem Es  (S:St.Src K mg "is_whole" s_p_is_whole)(B:Bts mg):K4 P w K mg base:=by
 refine Ac (k:=0) S N4 rfl (fun f fd F=>F.binds fun _ _ _ _ _ _ us hl=>match us,hl with| [_],_=>rfl) fun f cdv A outer s H E hr=>?_
 have hu:=AU hr
 exact(AI (AS (J9 (Ax PK rfl B.isi boot_isinstance (AA (AB 0) (AA (bH rfl B.int boot_int) AD))) (Kz (bN (Ax PK rfl B.isi boot_isinstance (AA (AB 0) (AA (bH rfl B.bool boot_bool) AD))))))))
theorem PM:AR ["thing","low"] ["thing","low"] (AH s_p_is_from):=⟨rfl,rfl,rfl,by decide+kernel,rfl,by decide+kernel,by decide+kernel⟩
theorem Fd  (S:St.Src K mg "is_from" s_p_is_from)(Es:K4 P w K mg base):MS P w K mg base:=by
 refine Ac (k:=1) S PM rfl (fun f fd F=>F.binds fun _ _ _ _ _ _ us hl=>match us,hl with| [_,_],_=>rfl) fun f cdv A outer s H E hr=>?_
 have hu:=AU hr
 exact(AI (AS (J9 (AG Es (hr.mono (by decide)) rfl (AA (AB 0) AD)) (Kz (HV Tp (AB 0) (AB 1))))))
theorem Mt:AR ["thing","low","high"] ["thing","low","high"] (AH s_p_is_within):=⟨rfl,rfl,rfl,by decide+kernel,rfl,by decide+kernel,by decide+kernel⟩
theorem BV  (S:St.Src K mg "is_within" s_p_is_within)(Fd:MS P w K mg base):FO P w K mg base:=by
 refine Ac (k:=2) S Mt rfl (fun f fd F=>F.binds fun _ _ _ _ _ _ us hl=>match us,hl with| [_,_,_],_=>rfl) fun f cdv A outer s H E hr=>?_
 have hu:=AU hr
 exact(AI (AS (J9 (AG Fd (hr.mono (by decide)) rfl (AA (AB 0) (AA (AB 1) AD))) (Kz (HV aI (AB 0) (AB 2))))))
theorem Cz:AR ["one","other"] ["one","other"] (AH s_p_greatest_divisor):=⟨rfl,rfl,rfl,by decide+kernel,rfl,by decide+kernel,by decide+kernel⟩
theorem Br  (S:St.Src K mg "greatest_divisor" s_p_greatest_divisor)(B:Bts mg):FG P w K mg base:=by
 refine Ac (k:=0) S Cz rfl (fun f fd F=>F.binds fun _ _ _ _ _ _ us hl=>match us,hl with| [_,_],_=>rfl) fun f cdv A outer s H E hr=>?_
 have hu:=AU hr
 exact(AF (JK (i:=0) (j:=1) rfl Cz.nd rfl rfl (by decide) rfl rfl (Ax Lw rfl B.abs boot_abs (AA (AB 0) AD)) (Ax Lw rfl B.abs boot_abs (AA (AB 1) AD)))
    (AF (RX (Rp 1) PassesOwn.never (An (HS hu) (AB 1) AE) (AI (JK (i:=0) (j:=1) rfl Cz.nd rfl rfl (by decide) rfl rfl (AB 1) (AZ Ff (AB 0) (AB 1)))))
    (AI (AS (AB 0)))))
theorem Md:AR ["top","bottom","divisor"] ["top","bottom"] (AH s_p_lowest):=⟨rfl,rfl,rfl,by decide+kernel,rfl,by decide+kernel,by decide+kernel⟩
theorem BL  (S:St.Src K mg "lowest" s_p_lowest)(Br:FG P w K mg base):FW P w K mg base:=by
 refine Ac (k:=1) S Md rfl (fun f fd F=>F.binds fun _ _ _ _ _ _ us hl=>match us,hl with| [_,_],_=>rfl) fun f cdv A outer s H E hr=>?_
 have hu:=AU hr
 exact(AF (Ah 2 (AG Br (hr.mono (by decide)) rfl (AA (AB 0) (AA (AB 1) AD))) Md.nd)
    (AI (AS (Ag (AA (AZ HC (AB 0) (AB 2)) (AA (AZ HC (AB 1) (AB 2)) AD))))))
theorem Ug:AR ["one","other"] ["one","other"] (AH s_p_plus):=⟨rfl,rfl,rfl,by decide+kernel,rfl,by decide+kernel,by decide+kernel⟩
theorem F9  (S:St.Src K mg "plus" s_p_plus)(BL:FW P w K mg base):Ou P w K mg base:=by
 refine Ac (k:=2) S Ug rfl (fun f fd F=>F.binds fun _ _ _ _ _ _ us hl=>match us,hl with| [_,_],_=>rfl) fun f cdv A outer s H E hr=>?_
 have hu:=AU hr
 exact(AI (AS (AG BL (hr.mono (by decide)) rfl (AA (AZ Ae (AZ Am (AK AY (AB 0) AE) (AK AY (AB 1) AE)) (AZ Am (AK AY (AB 1) AE) (AK AY (AB 0) AE))) (AA (AZ Am (AK AY (AB 0) AE) (AK AY (AB 1) AE)) AD)))))
end
section
open PyProof.Rows (boot_isinstance boot_int boot_bool boot_tuple boot_str boot_list boot_abs boot_all boot_any boot_sum boot_max boot_min boot_range boot_enumerate boot_zip boot_sorted boot_set boot_divmod)
variable{P:Program}{w:World}{K:PySem.W.Frag}{mg:Str->Option Value}{base:Heap}
theorem Ue:AR ["one","other"] ["one","other"] (AH s_p_less):=⟨rfl,rfl,rfl,by decide+kernel,rfl,by decide+kernel,by decide+kernel⟩
theorem Fy  (S:St.Src K mg "less" s_p_less)(BL:FW P w K mg base):N8 P w K mg base:=by
 refine Ac (k:=2) S Ue rfl (fun f fd F=>F.binds fun _ _ _ _ _ _ us hl=>match us,hl with| [_,_],_=>rfl) fun f cdv A outer s H E hr=>?_
 have hu:=AU hr
 exact(AI (AS (AG BL (hr.mono (by decide)) rfl (AA (AZ EA (AZ Am (AK AY (AB 0) AE) (AK AY (AB 1) AE)) (AZ Am (AK AY (AB 1) AE) (AK AY (AB 0) AE))) (AA (AZ Am (AK AY (AB 0) AE) (AK AY (AB 1) AE)) AD)))))
theorem Mz:AR ["ones","others"] ["ones","others"] (AH s_p_less_each):=⟨rfl,rfl,rfl,by decide+kernel,rfl,by decide+kernel,by decide+kernel⟩
theorem LI:Ab ["ones","others"] (AH s_p_less_each) ["one","other"] (ixC [] 2) (JV s_p_less_each 0):=⟨rfl,by decide+kernel,by decide+kernel,by decide+kernel,by decide+kernel⟩
theorem He:(["one","other"]:List Str).Nodup:=by decide+kernel
theorem D9  (S:St.Src K mg "less_each" s_p_less_each)(B:Bts mg)(Fy:N8 P w K mg base):KC P w K mg base:=by
 refine Ac (k:=3) S Mz rfl (fun f fd F=>F.binds fun _ _ _ _ _ _ us hl=>match us,hl with| [_,_],_=>rfl) fun f cdv A outer s H E hr=>?_
 have hu:=AU hr
 exact(AI (AS (A6 A4 rfl B.tuple boot_tuple (AA (B2 [] 2 ["one","other"] rfl LI (Mc rfl B.zip (AB 0) (AB 1)) (fun s H fp=>⟨(Dt rfl (AN (Ad 0 He) (AN (Ad 1 He) BN))),Bz,(AG Fy (hr.mono (by decide)) rfl (AA (AB 0) (AA (AB 1) AD)))⟩)) AD))))
theorem SM:AR ["one","other"] ["one","other"] (AH s_p_times):=⟨rfl,rfl,rfl,by decide+kernel,rfl,by decide+kernel,by decide+kernel⟩
theorem Ew  (S:St.Src K mg "times" s_p_times)(BL:FW P w K mg base):Lf P w K mg base:=by
 refine Ac (k:=2) S SM rfl (fun f fd F=>F.binds fun _ _ _ _ _ _ us hl=>match us,hl with| [_,_],_=>rfl) fun f cdv A outer s H E hr=>?_
 have hu:=AU hr
 exact(AI (AS (AG BL (hr.mono (by decide)) rfl (AA (AZ Am (AK AY (AB 0) AE) (AK AY (AB 1) AE)) (AA (AZ Am (AK AY (AB 0) AE) (AK AY (AB 1) AE)) AD)))))
theorem Nj:AR ["one","weight","other","more","top"] ["one","weight","other","more"] (AH s_p_mixed):=⟨rfl,rfl,rfl,by decide+kernel,rfl,by decide+kernel,by decide+kernel⟩
theorem Hu  (S:St.Src K mg "mixed" s_p_mixed)(BL:FW P w K mg base):PJ P w K mg base:=by
 refine Ac (k:=2) S Nj rfl (fun f fd F=>F.binds fun _ _ _ _ _ _ us hl=>match us,hl with| [_,_,_,_],_=>rfl) fun f cdv A outer s H E hr=>?_
 have hu:=AU hr
 exact(AF (Ah 4 (AZ Ae (AZ Am (AZ Am (AK AY (AB 0) AE) (AK AY (AB 2) AE)) (AB 1)) (AZ Am (AZ Am (AK AY (AB 2) AE) (AK AY (AB 0) AE)) (AB 3))) Nj.nd)
    (AI (AS (AG BL (hr.mono (by decide)) rfl (AA (AB 4) (AA (AZ Am (AZ Am (AK AY (AB 0) AE) (AK AY (AB 2) AE)) (AZ Ae (AB 1) (AB 3))) AD))))))
theorem MN:AR ["train","thing"] ["train","thing"] (AH s_p_is_partner):=⟨rfl,rfl,rfl,by decide+kernel,rfl,by decide+kernel,by decide+kernel⟩
theorem DU  (S:St.Src K mg "is_partner" s_p_is_partner)(BV:FO P w K mg base):JC P w K mg base:=by
 refine Ac (k:=3) S MN rfl (fun f fd F=>F.binds fun _ _ _ _ _ _ us hl=>match us,hl with| [_,_],_=>rfl) fun f cdv A outer s H E hr=>?_
 have hu:=AU hr
 exact(AI (AS (AG BV (hr.mono (by decide)) rfl (AA (AB 1) (AA AE (AA (AZ EA (AK AY (AB 0) AE) AE) AD))))))
theorem Mf:AR ["held","load","pieces"] ["held","load","pieces"] (AH s_p_has_pieces):=⟨rfl,rfl,rfl,by decide+kernel,rfl,by decide+kernel,by decide+kernel⟩
theorem BC  (S:St.Src K mg "has_pieces" s_p_has_pieces)(B:Bts mg):EY P w K mg base:=by
 refine Ac (k:=0) S Mf rfl (fun f fd F=>F.binds fun _ _ _ _ _ _ us hl=>match us,hl with| [_,_,_],_=>rfl) fun f cdv A outer s H E hr=>?_
 have hu:=AU hr
 exact(AI (AS (J9 (HV K1 (AB 1) (Ax Be rfl B.len boot_len (AA (AB 0) AD))) (Kz (HV Tp (AK AY (AK AY (AB 0) (AB 1)) AE) (AB 2))))))
end
section
open PyProof.Rows (boot_isinstance boot_int boot_bool boot_tuple boot_str boot_list boot_abs boot_all boot_any boot_sum boot_max boot_min boot_range boot_enumerate boot_zip boot_sorted boot_set boot_divmod)
variable{P:Program}{w:World}{K:PySem.W.Frag}{mg:Str->Option Value}{base:Heap}
theorem Of:AR ["held","load","other"] ["held","load","other"] (AH s_p_can_pool):=⟨rfl,rfl,rfl,by decide+kernel,rfl,by decide+kernel,by decide+kernel⟩
theorem El  (S:St.Src K mg "can_pool" s_p_can_pool)(BC:EY P w K mg base):K9 P w K mg base:=by
 refine Ac (k:=1) S Of rfl (fun f fd F=>F.binds fun _ _ _ _ _ _ us hl=>match us,hl with| [_,_,_],_=>rfl) fun f cdv A outer s H E hr=>?_
 have hu:=AU hr
 exact(AI (AS (J9 (AG BC (hr.mono (by decide)) rfl (AA (AB 0) (AA (AB 1) (AA AE AD)))) (J9 (AG BC (hr.mono (by decide)) rfl (AA (AB 0) (AA (AB 2) (AA AE AD)))) (Kz (HV (B6 hu) (AK AY (AK AY (AB 0) (AB 1)) AE) (AK AY (AK AY (AB 0) (AB 2)) AE)))))))
theorem N0:AR ["held","load","given","kind"] ["held","load","given","kind"] (AH s_p_can_swap):=⟨rfl,rfl,rfl,by decide+kernel,rfl,by decide+kernel,by decide+kernel⟩
theorem Dr  (S:St.Src K mg "can_swap" s_p_can_swap)(BC:EY P w K mg base):Ku P w K mg base:=by
 refine Ac (k:=1) S N0 rfl (fun f fd F=>F.binds fun _ _ _ _ _ _ us hl=>match us,hl with| [_,_,_,_],_=>rfl) fun f cdv A outer s H E hr=>?_
 have hu:=AU hr
 exact(AI (AS (J9 (AG BC (hr.mono (by decide)) rfl (AA (AB 0) (AA (AB 1) (AA (AB 2) AD)))) (Kz (HV (HS hu) (AK AY (AK AY (AB 0) (AB 1)) AE) (AB 3))))))
theorem Jf:AR ["held","done","deed","word","numbers"] ["held","done","deed"] (AH s_p_can_do):=⟨rfl,rfl,rfl,by decide+kernel,rfl,by decide+kernel,by decide+kernel⟩
theorem N2:Ab ["held","done","deed","word","numbers"] (AH s_p_can_do) ["other"] (ixC [] 1) (JV s_p_can_do 0):=⟨rfl,by decide+kernel,by decide+kernel,by decide+kernel,by decide+kernel⟩
theorem OC:(["other"]:List Str).Nodup:=by decide+kernel
theorem GQ  (S:St.Src K mg "can_do" s_p_can_do)(BC:EY P w K mg base)(El:K9 P w K mg base)(Dr:Ku P w K mg base):NM P w K mg base:=by
 refine Ac (k:=2) S Jf rfl (fun f fd F=>F.binds fun _ _ _ _ _ _ us hl=>match us,hl with| [_,_,_],_=>rfl) fun f cdv A outer s H E hr=>?_
 have hu:=AU hr
 exact(AF (Ah 3 (AK AY (AB 2) AE) Jf.nd)
    (AF (B7 (An (B6 hu) (AB 3) BY) (AI (AS (AG El (hr.mono (by decide)) rfl (AA (AB 0) (AA (AK AY (AB 2) AE) (AA (AK AY (AB 2) AE) AD)))))) Av)
    (AF (B7 (An (B6 hu) (AB 3) BY) (AI (AS (AG Dr (hr.mono (by decide)) rfl (AA (AB 0) (AA (AK AY (AB 2) AE) (AA (AK AY (AB 2) AE) (AA (AK AY (AB 2) AE) AD))))))) Av)
    (AF (B7 (An (B6 hu) (AB 3) BY) (AF (FT [] 1 ["other"] rfl Jf.nd rfl rfl N2 (DR (AB 1)) (fun s H fp=>⟨(Ad 0 OC),(KS (An (B6 hu) (AK AY (AB 0) AE) BY)),(AK AY (AB 0) AE)⟩))
    (AI (AS (J9 (HV Lj (AK AY (AB 2) AE) (AB 4)) (Kz (AG Dr (hr.mono (by decide)) rfl (AA (AB 0) (AA (AK AY (AB 2) AE) (AA (AK AY (AB 2) AE) (AA (AK AY (AB 2) AE) AD)))))))))) Av)
    (AF (B7 (An L8 (AB 3) (Ag (AA BY (AA BY AD)))) (AI (AS (AG BC (hr.mono (by decide)) rfl (AA (AB 0) (AA (AK AY (AB 2) AE) (AA (AK AY (AB 2) AE) AD)))))) Av)
    (AI (AS LJ)))))))
theorem EI:AR ["held","load","pieces","kind","there"] ["held","load","pieces"] (AH s_p_held_without):=⟨rfl,rfl,rfl,by decide+kernel,rfl,by decide+kernel,by decide+kernel⟩
theorem Ba  (S:St.Src K mg "held_without" s_p_held_without):Hg P w K mg base:=by
 refine Ac (k:=0) S EI rfl (fun f fd F=>F.binds fun _ _ _ _ _ _ us hl=>match us,hl with| [_,_,_],_=>rfl) fun f cdv A outer s H E hr=>?_
 have hu:=AU hr
 exact(AF (Er (AK AY (AB 0) (AB 1)) (Dt rfl (AN (Ad 3 EI.nd) (AN (Ad 4 EI.nd) BN))))
    (AI (AS (AZ Ae (AZ Ae (HA (AB 0) (AB 1)) (Bs (AA (Ag (AA (AB 3) (AA (AZ EA (AB 4) (AB 2)) AD))) AD))) (Gy (AB 0) (AZ Ae (AB 1) AE))))))
theorem BF:AR ["held","deed","word","kind","pieces","more","load","given","got"] ["held","deed"] (AH s_p_held_behind):=⟨rfl,rfl,rfl,by decide+kernel,rfl,by decide+kernel,by decide+kernel⟩
theorem Bk  (S:St.Src K mg "held_behind" s_p_held_behind)(Ba:Hg P w K mg base):Fp P w K mg base:=by
 refine Ac (k:=1) S BF rfl (fun f fd F=>F.binds fun _ _ _ _ _ _ us hl=>match us,hl with| [_,_],_=>rfl) fun f cdv A outer s H E hr=>?_
 have hu:=AU hr
 exact(AF (Ah 2 (AK AY (AB 1) AE) BF.nd)
    (AF (B7 (An (B6 hu) (AB 2) BY) (AI (AS (AZ Ae (AB 0) (Bs (AA (Ag (AA (AK AY (AB 1) AE) (AA (AK AY (AB 1) AE) AD))) AD))))) Av)
    (AF (B7 (An (B6 hu) (AB 2) BY) (AF (Er (AK AY (AB 0) (AK AY (AB 1) AE)) (Dt rfl (AN (Ad 3 BF.nd) (AN (Ad 4 BF.nd) BN))))
    (AF (Ah 5 (AK AY (AK AY (AB 0) (AK AY (AB 1) AE)) AE) BF.nd)
    (AI (AS (AZ Ae (AG Ba (hr.mono (by decide)) rfl (AA (AG Ba (hr.mono (by decide)) rfl (AA (AB 0) (AA (AK AY (AB 1) AE) (AA (AB 4) AD)))) (AA (AK AY (AB 1) AE) (AA (AB 5) AD)))) (Bs (AA (Ag (AA (AB 3) (AA (AZ Ae (AB 4) (AB 5)) AD))) AD))))))) Av)
    (AF (B7 (An L8 (AB 2) (Ag (AA BY (AA BY AD)))) (AF (Er (Gy (AB 1) (UB MU AE)) (Dt rfl (AN (Ad 6 BF.nd) (AN (Ad 7 BF.nd) (AN (Ad 3 BF.nd) (AN (Ad 8 BF.nd) BN))))))
    (AI (AS (AZ Ae (AG Ba (hr.mono (by decide)) rfl (AA (AB 0) (AA (AB 6) (AA (AB 7) AD)))) (Bs (AA (Ag (AA (AB 3) (AA (AB 8) AD))) AD)))))) Av)
    (AF (B7 (An L8 (AB 2) (Ag (AA BY (AA BY AD)))) (AI (AS (AG Ba (hr.mono (by decide)) rfl (AA (AB 0) (AA (AK AY (AB 1) AE) (AA (AK AY (AB 1) AE) AD)))))) Av)
    (AI (AS (AB 0))))))))
theorem KA:AR ["book"] ["book"] (AH s_p_held_at_first):=⟨rfl,rfl,rfl,by decide+kernel,rfl,by decide+kernel,by decide+kernel⟩
theorem Iv:Ab ["book"] (AH s_p_held_at_first) ["load"] (ixC [] 1) (JV s_p_held_at_first 0):=⟨rfl,by decide+kernel,by decide+kernel,by decide+kernel,by decide+kernel⟩
theorem JA:(["load"]:List Str).Nodup:=by decide+kernel
theorem BG  (S:St.Src K mg "held_at_first" s_p_held_at_first):EK P w K mg base:=by
 refine Ac (k:=0) S KA rfl (fun f fd F=>F.binds fun _ _ _ _ _ _ us hl=>match us,hl with| [_],_=>rfl) fun f cdv A outer s H E hr=>?_
 have hu:=AU hr
 exact(AI (AS (B2 [] 1 ["load"] rfl Iv (DR (AK AY (AB 0) AE)) (fun s H fp=>⟨(Ad 0 JA),Bz,(Ag (AA (AK AY (AB 0) AE) (AA (AK AY (AB 0) AE) AD)))⟩))))
end
section
open PyProof.Rows (boot_isinstance boot_int boot_bool boot_tuple boot_str boot_list boot_abs boot_all boot_any boot_sum boot_max boot_min boot_range boot_enumerate boot_zip boot_sorted boot_set boot_divmod)
variable{P:Program}{w:World}{K:PySem.W.Frag}{mg:Str->Option Value}{base:Heap}
theorem JE:AR ["deed","word"] ["deed"] (AH s_p_made_from):=⟨rfl,rfl,rfl,by decide+kernel,rfl,by decide+kernel,by decide+kernel⟩
theorem D6  (S:St.Src K mg "made_from" s_p_made_from)(B:Bts mg):Jt P w K mg base:=by
 refine Ac (k:=0) S JE rfl (fun f fd F=>F.binds fun _ _ _ _ _ _ us hl=>match us,hl with| [_],_=>rfl) fun f cdv A outer s H E hr=>?_
 have hu:=AU hr
 exact(AF (Ah 1 (AK AY (AB 0) AE) JE.nd)
    (AF (B7 (An (B6 hu) (AB 1) BY) (AI (AS (Ax QJ rfl B.sorted boot_sorted (AA (Bs (AA (AK AY (AB 0) AE) (AA (AK AY (AB 0) AE) AD))) AD)))) Av)
    (AF (B7 (An L8 (AB 1) (Ag (AA BY (AA BY AD)))) (AI (AS (Bs (AA (AK AY (AB 0) (UB MU AE)) AD)))) Av)
    (AI (AS (Bs AD))))))
theorem CA:AR ["book","held","deeds","at","deed"] ["book"] (AH s_p_first_wrong):=⟨rfl,rfl,rfl,by decide+kernel,rfl,by decide+kernel,by decide+kernel⟩
theorem C0  (S:St.Src K mg "first_wrong" s_p_first_wrong)(B:Bts mg)(GQ:NM P w K mg base)(Bk:Fp P w K mg base)(BG:EK P w K mg base):Hz P w K mg base:=by
 refine Ac (k:=3) S CA rfl (fun f fd F=>F.binds fun _ _ _ _ _ _ us hl=>match us,hl with| [_],_=>rfl) fun f cdv A outer s H E hr=>?_
 have hu:=AU hr
 exact(AF (Ah 1 (AG BG (hr.mono (by decide)) rfl (AA (AB 0) AD)) CA.nd)
    (AF (Ah 2 (AK AY (AB 0) AE) CA.nd)
    (AF (FI PassesOwn.never rfl (Xm rfl B.enumerate (AB 2)) (Dt rfl (AN (Ad 3 CA.nd) (AN (Ad 4 CA.nd) BN))) (AF (B7 (Le (Mm (AG GQ (hr.mono (by decide)) rfl (AA (AB 1) (AA (HA (AB 2) (AB 3)) (AA (AB 4) AD)))))) (AI (AS (AB 3))) Av)
    (AI (Ah 1 (AG Bk (hr.mono (by decide)) rfl (AA (AB 1) (AA (AB 4) AD))) CA.nd))))
    (AI (AS YA)))))
theorem GD:AR ["book","wrong"] ["book"] (AH s_p_refuse_undone):=⟨rfl,rfl,rfl,by decide+kernel,rfl,by decide+kernel,by decide+kernel⟩
theorem As  (S:St.Src K mg "refuse_undone" s_p_refuse_undone)(C0:Hz P w K mg base):DN P w K mg base:=by
 refine Ac (k:=4) S GD rfl (fun f fd F=>F.binds fun _ _ _ _ _ _ us hl=>match us,hl with| [_],_=>rfl) fun f cdv A outer s H E hr=>?_
 have hu:=AU hr
 exact(AF (Ah 1 (AG C0 (hr.mono (by decide)) rfl (AA (AB 0) AD)) GD.nd)
    (AI (B7 (An Wb (AB 1) YA) (AI LX) Av)))
theorem Od:AR ["book","thing"] ["book","thing"] (AH s_p_is_place):=⟨rfl,rfl,rfl,by decide+kernel,rfl,by decide+kernel,by decide+kernel⟩
theorem Em  (S:St.Src K mg "is_place" s_p_is_place)(B:Bts mg)(BV:FO P w K mg base):LC P w K mg base:=by
 refine Ac (k:=3) S Od rfl (fun f fd F=>F.binds fun _ _ _ _ _ _ us hl=>match us,hl with| [_,_],_=>rfl) fun f cdv A outer s H E hr=>?_
 have hu:=AU hr
 exact(AI (AS (AG BV (hr.mono (by decide)) rfl (AA (AB 1) (AA AE (AA (AZ EA (Ax Be rfl B.len boot_len (AA (AK AY (AB 0) AE) AD)) AE) AD))))))
theorem LN:AR ["book","word","thing"] ["book","word","thing"] (AH s_p_is_place_of):=⟨rfl,rfl,rfl,by decide+kernel,rfl,by decide+kernel,by decide+kernel⟩
theorem C4  (S:St.Src K mg "is_place_of" s_p_is_place_of)(Em:LC P w K mg base):Ic P w K mg base:=by
 refine Ac (k:=4) S LN rfl (fun f fd F=>F.binds fun _ _ _ _ _ _ us hl=>match us,hl with| [_,_,_],_=>rfl) fun f cdv A outer s H E hr=>?_
 have hu:=AU hr
 exact(AI (AS (J9 (AG Em (hr.mono (by decide)) rfl (AA (AB 0) (AA (AB 2) AD))) (Kz (HV (B6 hu) (AK AY (AK AY (AK AY (AB 0) AE) (AB 2)) AE) (AB 1))))))
theorem IW:AR ["book","many"] ["book","many"] (AH s_p_refuse_no_number):=⟨rfl,rfl,rfl,by decide+kernel,rfl,by decide+kernel,by decide+kernel⟩
theorem Bq  (S:St.Src K mg "refuse_no_number" s_p_refuse_no_number)(B:Bts mg)(BV:FO P w K mg base):FH P w K mg base:=by
 refine Ac (k:=3) S IW rfl (fun f fd F=>F.binds fun _ _ _ _ _ _ us hl=>match us,hl with| [_,_],_=>rfl) fun f cdv A outer s H E hr=>?_
 have hu:=AU hr
 exact(AI (B7 (Le (Mm (AG BV (hr.mono (by decide)) rfl (AA (AB 1) (AA AE (AA (Ax Be rfl B.len boot_len (AA (AK AY (AB 0) AE) AD)) AD)))))) (AI LX) Av))
end
section
open PyProof.Rows (boot_isinstance boot_int boot_bool boot_tuple boot_str boot_list boot_abs boot_all boot_any boot_sum boot_max boot_min boot_range boot_enumerate boot_zip boot_sorted boot_set boot_divmod)
variable{P:Program}{w:World}{K:PySem.W.Frag}{mg:Str->Option Value}{base:Heap}
theorem Hi:AR ["book","partner"] ["book","partner"] (AH s_p_refuse_no_partner):=⟨rfl,rfl,rfl,by decide+kernel,rfl,by decide+kernel,by decide+kernel⟩
theorem Bi  (S:St.Src K mg "refuse_no_partner" s_p_refuse_no_partner)(DU:JC P w K mg base):Ee P w K mg base:=by
 refine Ac (k:=4) S Hi rfl (fun f fd F=>F.binds fun _ _ _ _ _ _ us hl=>match us,hl with| [_,_],_=>rfl) fun f cdv A outer s H E hr=>?_
 have hu:=AU hr
 exact(AI (B7 (Le (Mm (AG DU (hr.mono (by decide)) rfl (AA (AK AY (AB 0) AE) (AA (AB 1) AD))))) (AI LX) Av))
theorem MG:AR ["many","one"] ["many","one"] (AH s_p_all_to_one):=⟨rfl,rfl,rfl,by decide+kernel,rfl,by decide+kernel,by decide+kernel⟩
theorem Ke:Ab ["many","one"] (AH s_p_all_to_one) ["one","at"] (ixC [1] 1) (JV s_p_all_to_one 0):=⟨rfl,by decide+kernel,by decide+kernel,by decide+kernel,by decide+kernel⟩
theorem Kf:(["one","at"]:List Str).Nodup:=by decide+kernel
theorem DV  (S:St.Src K mg "all_to_one" s_p_all_to_one)(B:Bts mg)(c_ALL:SQ K mg "ALL" Tw)(c_NOTHING:SQ K mg "NOTHING" D0):JF P w K mg base:=by
 refine Ac (k:=0) S MG rfl (fun f fd F=>F.binds fun _ _ _ _ _ _ us hl=>match us,hl with| [_,_],_=>rfl) fun f cdv A outer s H E hr=>?_
 have hu:=AU hr
 exact(AI (AS (A6 A4 rfl B.tuple boot_tuple (AA (B2 [1] 1 ["one","at"] rfl Ke (EB rfl B.range (AA (AB 0) AD)) (fun s H fp=>⟨(Ad 1 Kf),Bz,(gC (An (B6 hu) (AB 1) (AB 0)) (N1 c_ALL rfl) (N1 c_NOTHING rfl))⟩)) AD))))
theorem Kg:AR ["shares","weight","others","more"] ["shares","weight","others","more"] (AH s_p_mixed_shares):=⟨rfl,rfl,rfl,by decide+kernel,rfl,by decide+kernel,by decide+kernel⟩
theorem JY:Ab ["shares","weight","others","more"] (AH s_p_mixed_shares) ["weight","more","share","other"] (ixC [1,3] 2) (JV s_p_mixed_shares 0):=⟨rfl,by decide+kernel,by decide+kernel,by decide+kernel,by decide+kernel⟩
theorem Fm:(["weight","more","share","other"]:List Str).Nodup:=by decide+kernel
theorem BZ  (S:St.Src K mg "mixed_shares" s_p_mixed_shares)(B:Bts mg)(Hu:PJ P w K mg base):E9 P w K mg base:=by
 refine Ac (k:=3) S Kg rfl (fun f fd F=>F.binds fun _ _ _ _ _ _ us hl=>match us,hl with| [_,_,_,_],_=>rfl) fun f cdv A outer s H E hr=>?_
 have hu:=AU hr
 exact(AI (AS (A6 A4 rfl B.tuple boot_tuple (AA (B2 [1,3] 2 ["weight","more","share","other"] rfl JY (Mc rfl B.zip (AB 0) (AB 2)) (fun s H fp=>⟨(Dt rfl (AN (Ad 2 Fm) (AN (Ad 3 Fm) BN))),Bz,(AG Hu (hr.mono (by decide)) rfl (AA (AB 2) (AA (AB 0) (AA (AB 3) (AA (AB 1) AD)))))⟩)) AD))))
theorem Dh:AR ["held","shares","deed","sources","load","other"] ["held","shares","deed"] (AH s_p_made_shares):=⟨rfl,rfl,rfl,by decide+kernel,rfl,by decide+kernel,by decide+kernel⟩
theorem Cw  (S:St.Src K mg "made_shares" s_p_made_shares)(B:Bts mg)(D6:Jt P w K mg base)(BZ:E9 P w K mg base):IT P w K mg base:=by
 refine Ac (k:=4) S Dh rfl (fun f fd F=>F.binds fun _ _ _ _ _ _ us hl=>match us,hl with| [_,_,_],_=>rfl) fun f cdv A outer s H E hr=>?_
 have hu:=AU hr
 exact(AF (Ah 3 (AG D6 (hr.mono (by decide)) rfl (AA (AB 2) AD)) Dh.nd)
    (AF (B7 (An (B6 hu) (Ax Be rfl B.len boot_len (AA (AB 3) AD)) AE) (AI (AS (AK AY (AB 1) (AK AY (AB 3) AE)))) Av)
    (AF (Er (AB 3) (Dt rfl (AN (Ad 4 Dh.nd) (AN (Ad 5 Dh.nd) BN))))
    (AI (AS (AG BZ (hr.mono (by decide)) rfl (AA (AK AY (AB 1) (AB 4)) (AA (AK AY (AK AY (AB 0) (AB 4)) AE) (AA (AK AY (AB 1) (AB 5)) (AA (AK AY (AK AY (AB 0) (AB 5)) AE) AD))))))))))
theorem Kh:AR ["train","held","worths"] ["train","held","worths"] (AH s_p_worth_of_all):=⟨rfl,rfl,rfl,by decide+kernel,rfl,by decide+kernel,by decide+kernel⟩
theorem Je:Ab ["train","held","worths"] (AH s_p_worth_of_all) ["worths","kind","pieces"] (ixC [2] 2) (JV s_p_worth_of_all 0):=⟨rfl,by decide+kernel,by decide+kernel,by decide+kernel,by decide+kernel⟩
theorem Fc:(["worths","kind","pieces"]:List Str).Nodup:=by decide+kernel
theorem Cm  (S:St.Src K mg "worth_of_all" s_p_worth_of_all)(B:Bts mg):HY P w K mg base:=by
 refine Ac (k:=0) S Kh rfl (fun f fd F=>F.binds fun _ _ _ _ _ _ us hl=>match us,hl with| [_,_,_],_=>rfl) fun f cdv A outer s H E hr=>?_
 have hu:=AU hr
 exact(AI (AS (AZ Ae (Ax (J2 rfl) rfl B.sum boot_sum (AA (B2 [2] 2 ["worths","kind","pieces"] rfl Je (DR (AB 1)) (fun s H fp=>⟨(Dt rfl (AN (Ad 1 Fc) (AN (Ad 2 Fc) BN))),Bz,(AZ Am (AB 2) (AK AY (AB 0) (AB 1)))⟩)) AD)) (AZ Am (AK AY (AB 0) AE) (AK AY (AB 2) (UB MU AE))))))
theorem Dg:AR ["train","held","deed","load","pieces","worths"] ["train","held","deed"] (AH s_p_part_thrown):=⟨rfl,rfl,rfl,by decide+kernel,rfl,by decide+kernel,by decide+kernel⟩
theorem C8  (S:St.Src K mg "part_thrown" s_p_part_thrown)(BL:FW P w K mg base)(Cm:HY P w K mg base):IV P w K mg base:=by
 refine Ac (k:=2) S Dg rfl (fun f fd F=>F.binds fun _ _ _ _ _ _ us hl=>match us,hl with| [_,_,_],_=>rfl) fun f cdv A outer s H E hr=>?_
 have hu:=AU hr
 exact(AF (Er (Gy (AB 2) AE) (Dt rfl (AN (Ad 3 Dg.nd) (AN (Ad 4 Dg.nd) (AN (Ad 5 Dg.nd) BN)))))
    (AI (AS (AG BL (hr.mono (by decide)) rfl (AA (AZ Am (AB 4) (AK AY (AB 5) (AK AY (AK AY (AB 1) (AB 3)) AE))) (AA (AG Cm (hr.mono (by decide)) rfl (AA (AB 0) (AA (AB 1) (AA (AB 5) AD)))) AD))))))
end
section
open PyProof.Rows (boot_isinstance boot_int boot_bool boot_tuple boot_str boot_list boot_abs boot_all boot_any boot_sum boot_max boot_min boot_range boot_enumerate boot_zip boot_sorted boot_set boot_divmod)
variable{P:Program}{w:World}{K:PySem.W.Frag}{mg:Str->Option Value}{base:Heap}
theorem EF:AR ["train","held","owners","deed","shares","top","bottom"] ["train","held","owners","deed","shares"] (AH s_p_thrown_shares):=⟨rfl,rfl,rfl,by decide+kernel,rfl,by decide+kernel,by decide+kernel⟩
theorem CQ  (S:St.Src K mg "thrown_shares" s_p_thrown_shares)(BZ:E9 P w K mg base)(C8:IV P w K mg base):GV P w K mg base:=by
 refine Ac (k:=4) S EF rfl (fun f fd F=>F.binds fun _ _ _ _ _ _ us hl=>match us,hl with| [_,_,_,_,_],_=>rfl) fun f cdv A outer s H E hr=>?_
 have hu:=AU hr
 exact(AF (Er (AG C8 (hr.mono (by decide)) rfl (AA (AB 0) (AA (AB 1) (AA (AB 3) AD)))) (Dt rfl (AN (Ad 5 EF.nd) (AN (Ad 6 EF.nd) BN))))
    (AI (AS (AG BZ (hr.mono (by decide)) rfl (AA (AB 4) (AA (AZ EA (AB 6) (AB 5)) (AA (AK AY (AB 2) (AK AY (AB 3) AE)) (AA (AB 5) AD))))))))
theorem CB:AR ["deed","shares","partner","other","sold","passed","changed"] ["deed","shares"] (AH s_p_sold_shares):=⟨rfl,rfl,rfl,by decide+kernel,rfl,by decide+kernel,by decide+kernel⟩
theorem C6  (S:St.Src K mg "sold_shares" s_p_sold_shares)(B:Bts mg)(F9:Ou P w K mg base)(Fy:N8 P w K mg base)(Ew:Lf P w K mg base):IM P w K mg base:=by
 refine Ac (k:=3) S CB rfl (fun f fd F=>F.binds fun _ _ _ _ _ _ us hl=>match us,hl with| [_,_],_=>rfl) fun f cdv A outer s H E hr=>?_
 have hu:=AU hr
 exact(AF (Er (Gy (AB 0) AE) (Dt rfl (AN (Ad 2 CB.nd) (AN (Ad 3 CB.nd) (AN (Ad 4 CB.nd) BN)))))
    (AF (Ah 5 (AG Ew (hr.mono (by decide)) rfl (AA (AK AY (AB 1) (AB 2)) (AA (AB 4) AD))) CB.nd)
    (AF (Ah 6 (A6 KW rfl B.list boot_list (AA (AB 1) AD)) CB.nd)
    (AF (CK (AG Fy (hr.mono (by decide)) rfl (AA (AK AY (AB 1) (AB 2)) (AA (AB 5) AD))) (AB 6) (AB 2))
    (AF (CK (AG F9 (hr.mono (by decide)) rfl (AA (AK AY (AB 1) (AB 3)) (AA (AB 5) AD))) (AB 6) (AB 3))
    (AI (AS (A6 A4 rfl B.tuple boot_tuple (AA (AB 6) AD)))))))))
theorem J5:AR ["train","held","owners","deed","shares"] ["train","held","owners","deed","shares"] (AH s_p_shares_behind):=⟨rfl,rfl,rfl,by decide+kernel,rfl,by decide+kernel,by decide+kernel⟩
theorem BK  (S:St.Src K mg "shares_behind" s_p_shares_behind)(CQ:GV P w K mg base)(C6:IM P w K mg base):ES P w K mg base:=by
 refine Ac (k:=5) S J5 rfl (fun f fd F=>F.binds fun _ _ _ _ _ _ us hl=>match us,hl with| [_,_,_,_,_],_=>rfl) fun f cdv A outer s H E hr=>?_
 have hu:=AU hr
 exact(AF (B7 (An (B6 hu) (AK AY (AB 3) AE) BY) (AI (AS (AG CQ (hr.mono (by decide)) rfl (AA (AB 0) (AA (AB 1) (AA (AB 2) (AA (AB 3) (AA (AB 4) AD)))))))) Av)
    (AF (B7 (An (B6 hu) (AK AY (AB 3) AE) BY) (AI (AS (AG C6 (hr.mono (by decide)) rfl (AA (AB 3) (AA (AB 4) AD))))) Av)
    (AI (AS (AB 4)))))
theorem GC:AR ["train","held","owners","deed","behind"] ["train","held","owners","deed"] (AH s_p_owners_behind):=⟨rfl,rfl,rfl,by decide+kernel,rfl,by decide+kernel,by decide+kernel⟩
theorem Iw:Ab ["train","held","owners","deed","behind"] (AH s_p_owners_behind) ["train","held","owners","deed","shares"] (ixC [0,1,2,3] 1) (JV s_p_owners_behind 0):=⟨rfl,by decide+kernel,by decide+kernel,by decide+kernel,by decide+kernel⟩
theorem Iz:(["train","held","owners","deed","shares"]:List Str).Nodup:=by decide+kernel
theorem CZ  (S:St.Src K mg "owners_behind" s_p_owners_behind)(c_MAKERS:SQ K mg "MAKERS" Dd)(DV:JF P w K mg base)(Cw:IT P w K mg base)(BK:ES P w K mg base):GS P w K mg base:=by
 refine Ac (k:=6) S GC rfl (fun f fd F=>F.binds fun _ _ _ _ _ _ us hl=>match us,hl with| [_,_,_,_],_=>rfl) fun f cdv A outer s H E hr=>?_
 have hu:=AU hr
 exact(AF (FT [0,1,2,3] 1 ["train","held","owners","deed","shares"] rfl GC.nd rfl rfl Iw (DR (AB 2)) (fun s H fp=>⟨(Ad 4 Iz),Bz,(AG BK (hr.mono (by decide)) rfl (AA (AB 0) (AA (AB 1) (AA (AB 2) (AA (AB 3) (AA (AB 4) AD))))))⟩))
    (AF (B7 (An (B6 hu) (AK AY (AB 3) AE) BY) (AI (AS (AZ Ae (AB 4) (Bs (AA (AG DV (hr.mono (by decide)) rfl (AA (AK AY (AB 0) AE) (AA (AK AY (AB 3) AE) AD))) AD))))) Av)
    (AF (B7 (An L8 (AK AY (AB 3) AE) (N1 c_MAKERS rfl)) (AI (AS (AZ Ae (AB 4) (Bs (AA (AG Cw (hr.mono (by decide)) rfl (AA (AB 1) (AA (AB 2) (AA (AB 3) AD)))) AD))))) Av)
    (AI (AS (AB 4))))))
theorem BQ:AR ["book","many","train","first","deeds","held","owners","holders","deed"] ["book","many"] (AH s_p_state_by):=⟨rfl,rfl,rfl,by decide+kernel,rfl,by decide+kernel,by decide+kernel⟩
theorem Lm:Ab ["book","many","train","first","deeds","held","owners","holders","deed"] (AH s_p_state_by) ["load"] (ixC [] 1) (JV s_p_state_by 0):=⟨rfl,by decide+kernel,by decide+kernel,by decide+kernel,by decide+kernel⟩
theorem MW:(["load"]:List Str).Nodup:=by decide+kernel
theorem Ep  (S:St.Src K mg "state_by" s_p_state_by)(Bk:Fp P w K mg base)(BG:EK P w K mg base)(BK:ES P w K mg base)(CZ:GS P w K mg base):Kx P w K mg base:=by
 refine Ac (k:=7) S BQ rfl (fun f fd F=>F.binds fun _ _ _ _ _ _ us hl=>match us,hl with| [_,_],_=>rfl) fun f cdv A outer s H E hr=>?_
 have hu:=AU hr
 exact(AF (Er (AB 0) (Dt rfl (AN (Ad 2 BQ.nd) (AN (Ad 3 BQ.nd) (AN (Ad 4 BQ.nd) BN)))))
    (AF (Ah 5 (AG BG (hr.mono (by decide)) rfl (AA (AB 0) AD)) BQ.nd)
    (AF (FT [] 1 ["load"] rfl BQ.nd rfl rfl Lm (DR (AB 3)) (fun s H fp=>⟨(Ad 0 MW),Bz,(AK AY (AB 0) AE)⟩))
    (AF (Ah 7 (AK AY (AB 2) AE) BQ.nd)
    (AF (FI PassesOwn.never rfl (DR (HA (AB 4) (AB 1))) (Ad 8 BQ.nd) (AF (Ah 7 (AG BK (hr.mono (by decide)) rfl (AA (AB 2) (AA (AB 5) (AA (AB 6) (AA (AB 8) (AA (AB 7) AD)))))) BQ.nd)
    (AF (Ah 6 (AG CZ (hr.mono (by decide)) rfl (AA (AB 2) (AA (AB 5) (AA (AB 6) (AA (AB 8) AD))))) BQ.nd)
    (AI (Ah 5 (AG Bk (hr.mono (by decide)) rfl (AA (AB 5) (AA (AB 8) AD))) BQ.nd)))))
    (AI (AS (Ag (AA (AB 5) (AA (AB 6) (AA (AB 7) AD)))))))))))
theorem CI:AR ["kinds","held","shares","sums","share","kind","pieces"] ["kinds","held","shares"] (AH s_p_sums_by_kinds):=⟨rfl,rfl,rfl,by decide+kernel,rfl,by decide+kernel,by decide+kernel⟩
theorem Cc  (S:St.Src K mg "sums_by_kinds" s_p_sums_by_kinds)(B:Bts mg)(c_NOTHING:SQ K mg "NOTHING" D0)(F9:Ou P w K mg base)(Ew:Lf P w K mg base):Gf P w K mg base:=by
 refine Ac (k:=3) S CI rfl (fun f fd F=>F.binds fun _ _ _ _ _ _ us hl=>match us,hl with| [_,_,_],_=>rfl) fun f cdv A outer s H E hr=>?_
 have hu:=AU hr
 exact(AF (Ah 3 (AZ Am (Bs (AA (N1 c_NOTHING rfl) AD)) (AB 0)) CI.nd)
    (AF (FI PassesOwn.never rfl (Mc rfl B.zip (AB 1) (AB 2)) (Dt rfl (AN (Dt rfl (AN (Ad 5 CI.nd) (AN (Ad 6 CI.nd) BN))) (AN (Ad 4 CI.nd) BN))) (AI (CK (AG F9 (hr.mono (by decide)) rfl (AA (AK AY (AB 3) (AB 5)) (AA (AG Ew (hr.mono (by decide)) rfl (AA (Ag (AA (AB 6) (AA AE AD))) (AA (AB 4) AD))) AD))) (AB 3) (AB 5))))
    (AI (AS (A6 A4 rfl B.tuple boot_tuple (AA (AB 3) AD))))))
end
section
open PyProof.Rows (boot_isinstance boot_int boot_bool boot_tuple boot_str boot_list boot_abs boot_all boot_any boot_sum boot_max boot_min boot_range boot_enumerate boot_zip boot_sorted boot_set boot_divmod)
variable{P:Program}{w:World}{K:PySem.W.Frag}{mg:Str->Option Value}{base:Heap}
theorem B9:AR ["book","many","partners","kinds","held","owners","holders"] ["book","many"] (AH s_p_theirs_told):=⟨rfl,rfl,rfl,by decide+kernel,rfl,by decide+kernel,by decide+kernel⟩
theorem J3:Ab ["book","many","partners","kinds","held","owners","holders"] (AH s_p_theirs_told) ["kinds","held","owners","partner"] (ixC [3,4,5] 1) (JV s_p_theirs_told 0):=⟨rfl,by decide+kernel,by decide+kernel,by decide+kernel,by decide+kernel⟩
theorem Jq:(["kinds","held","owners","partner"]:List Str).Nodup:=by decide+kernel
theorem Jo:Ab ["kinds","held","owners","partner"] (aK (JV s_p_theirs_told 0) (AH s_p_theirs_told)) ["partner","shares"] (ixC [3] 1) (JV s_p_theirs_told 1):=⟨rfl,by decide+kernel,by decide+kernel,by decide+kernel,by decide+kernel⟩
theorem KH:(["partner","shares"]:List Str).Nodup:=by decide+kernel
theorem BS  (S:St.Src K mg "theirs_told" s_p_theirs_told)(B:Bts mg)(Ep:Kx P w K mg base)(Cc:Gf P w K mg base):Fb P w K mg base:=by
 refine Ac (k:=8) S B9 rfl (fun f fd F=>F.binds fun _ _ _ _ _ _ us hl=>match us,hl with| [_,_],_=>rfl) fun f cdv A outer s H E hr=>?_
 have hu:=AU hr
 exact(AF (Er (HA (AK AY (AB 0) AE) AE) (Dt rfl (AN (Ad 2 B9.nd) (AN (Ad 3 B9.nd) BN))))
    (AF (Er (AG Ep (hr.mono (by decide)) rfl (AA (AB 0) (AA (AB 1) AD))) (Dt rfl (AN (Ad 4 B9.nd) (AN (Ad 5 B9.nd) (AN (Ad 6 B9.nd) BN)))))
    (AI (AS (B2 [3,4,5] 1 ["kinds","held","owners","partner"] rfl J3 (EB rfl B.range (AA (AB 2) AD)) (fun s H fp=>⟨(Ad 3 Jq),Bz,(AG Cc (hr.mono (by decide)) rfl (AA (AB 0) (AA (AB 1) (AA (B2 [3] 1 ["partner","shares"] rfl Jo (DR (AB 2)) (fun s H fp=>⟨(Ad 1 KH),Bz,(AK AY (AB 1) (AB 0))⟩)) AD))))⟩))))))
theorem NC:AR ["book","many","partner"] ["book","many","partner"] (AH s_p_theirs_by):=⟨rfl,rfl,rfl,by decide+kernel,rfl,by decide+kernel,by decide+kernel⟩
theorem A5  (S:St.Src K mg "theirs_by" s_p_theirs_by)(As:DN P w K mg base)(Bq:FH P w K mg base)(Bi:Ee P w K mg base)(BS:Fb P w K mg base):FK P w K mg base:=by
 refine Ac (k:=9) S NC rfl (fun f fd F=>F.binds fun _ _ _ _ _ _ us hl=>match us,hl with| [_,_,_],_=>rfl) fun f cdv A outer s H E hr=>?_
 have hu:=AU hr
 exact(AF (Cs (AG As (hr.mono (by decide)) rfl (AA (AB 0) AD)))
    (AF (Cs (AG Bq (hr.mono (by decide)) rfl (AA (AB 0) (AA (AB 1) AD))))
    (AF (Cs (AG Bi (hr.mono (by decide)) rfl (AA (AB 0) (AA (AB 2) AD))))
    (AI (AS (AK AY (AG BS (hr.mono (by decide)) rfl (AA (AB 0) (AA (AB 1) AD))) (AB 2)))))))
theorem JU:AR ["book","place"] ["book","place"] (AH s_p_refuse_no_sale):=⟨rfl,rfl,rfl,by decide+kernel,rfl,by decide+kernel,by decide+kernel⟩
theorem BD  (S:St.Src K mg "refuse_no_sale" s_p_refuse_no_sale)(C4:Ic P w K mg base):Dy P w K mg base:=by
 refine Ac (k:=5) S JU rfl (fun f fd F=>F.binds fun _ _ _ _ _ _ us hl=>match us,hl with| [_,_],_=>rfl) fun f cdv A outer s H E hr=>?_
 have hu:=AU hr
 exact(AI (B7 (Le (Mm (AG C4 (hr.mono (by decide)) rfl (AA (AB 0) (AA BY (AA (AB 1) AD)))))) (AI LX) Av))
theorem DJ:AR ["book","place","train","first","deeds"] ["book","place"] (AH s_p_without_deed):=⟨rfl,rfl,rfl,by decide+kernel,rfl,by decide+kernel,by decide+kernel⟩
theorem BX  (S:St.Src K mg "without_deed" s_p_without_deed):E8 P w K mg base:=by
 refine Ac (k:=0) S DJ rfl (fun f fd F=>F.binds fun _ _ _ _ _ _ us hl=>match us,hl with| [_,_],_=>rfl) fun f cdv A outer s H E hr=>?_
 have hu:=AU hr
 exact(AF (Er (AB 0) (Dt rfl (AN (Ad 2 DJ.nd) (AN (Ad 3 DJ.nd) (AN (Ad 4 DJ.nd) BN)))))
    (AI (AS (Ag (AA (AB 2) (AA (AB 3) (AA (AZ Ae (HA (AB 4) (AB 1)) (Gy (AB 4) (AZ Ae (AB 1) AE))) AD)))))))
theorem Qs:AR ["book","place"] ["book","place"] (AH s_p_unsold):=⟨rfl,rfl,rfl,by decide+kernel,rfl,by decide+kernel,by decide+kernel⟩
theorem Gj  (S:St.Src K mg "unsold" s_p_unsold)(As:DN P w K mg base)(BD:Dy P w K mg base)(BX:E8 P w K mg base):Nd P w K mg base:=by
 refine Ac (k:=6) S Qs rfl (fun f fd F=>F.binds fun _ _ _ _ _ _ us hl=>match us,hl with| [_,_],_=>rfl) fun f cdv A outer s H E hr=>?_
 have hu:=AU hr
 exact(AF (Cs (AG As (hr.mono (by decide)) rfl (AA (AB 0) AD)))
    (AF (Cs (AG BD (hr.mono (by decide)) rfl (AA (AB 0) (AA (AB 1) AD))))
    (AI (AS (AG BX (hr.mono (by decide)) rfl (AA (AB 0) (AA (AB 1) AD)))))))
theorem GL:AR ["book","place","without","with_it","without_it"] ["book","place"] (AH s_p_turned_by):=⟨rfl,rfl,rfl,by decide+kernel,rfl,by decide+kernel,by decide+kernel⟩
theorem LK:Ab ["book","place","without","with_it","without_it"] (AH s_p_turned_by) ["theirs","others"] (ixC [] 2) (JV s_p_turned_by 0):=⟨rfl,by decide+kernel,by decide+kernel,by decide+kernel,by decide+kernel⟩
theorem Hb:(["theirs","others"]:List Str).Nodup:=by decide+kernel
theorem CF  (S:St.Src K mg "turned_by" s_p_turned_by)(B:Bts mg)(D9:KC P w K mg base)(As:DN P w K mg base)(BS:Fb P w K mg base)(BD:Dy P w K mg base)(BX:E8 P w K mg base):HM P w K mg base:=by
 refine Ac (k:=9) S GL rfl (fun f fd F=>F.binds fun _ _ _ _ _ _ us hl=>match us,hl with| [_,_],_=>rfl) fun f cdv A outer s H E hr=>?_
 have hu:=AU hr
 exact(AF (Cs (AG As (hr.mono (by decide)) rfl (AA (AB 0) AD)))
    (AF (Cs (AG BD (hr.mono (by decide)) rfl (AA (AB 0) (AA (AB 1) AD))))
    (AF (Ah 2 (AG BX (hr.mono (by decide)) rfl (AA (AB 0) (AA (AB 1) AD))) GL.nd)
    (AF (JK (i:=3) (j:=4) rfl GL.nd rfl rfl (by decide) rfl rfl (AG BS (hr.mono (by decide)) rfl (AA (AB 0) (AA (Ax Be rfl B.len boot_len (AA (AK AY (AB 0) AE) AD)) AD))) (AG BS (hr.mono (by decide)) rfl (AA (AB 2) (AA (Ax Be rfl B.len boot_len (AA (AK AY (AB 2) AE) AD)) AD))))
    (AI (AS (A6 A4 rfl B.tuple boot_tuple (AA (B2 [] 2 ["theirs","others"] rfl LK (Mc rfl B.zip (AB 3) (AB 4)) (fun s H fp=>⟨(Dt rfl (AN (Ad 0 Hb) (AN (Ad 1 Hb) BN))),Bz,(AG D9 (hr.mono (by decide)) rfl (AA (AB 0) (AA (AB 1) AD)))⟩)) AD))))))))
end
section
open PyProof.Rows (boot_isinstance boot_int boot_bool boot_tuple boot_str boot_list boot_abs boot_all boot_any boot_sum boot_max boot_min boot_range boot_enumerate boot_zip boot_sorted boot_set boot_divmod)
variable{P:Program}{w:World}{K:PySem.W.Frag}{mg:Str->Option Value}{base:Heap}
theorem SE:AR ["_law_cell"] ["_law_cell"] (AH s_law_pen):=⟨rfl,rfl,rfl,by decide+kernel,rfl,by decide+kernel,by decide+kernel⟩
theorem ID  (S:St.Src K mg "_law_pen" s_law_pen)(B:Bts mg):P7 P w K mg base:=by
 refine Ac (k:=0) S SE rfl (fun f fd F=>F.binds fun _ _ _ _ _ _ us hl=>match us,hl with| [_],_=>rfl) fun f cdv A outer s H E hr=>?_
 have hu:=AU hr
 exact(AI (AS (Bs (AA (AB 0) (AA (A6 MC rfl B.int boot_int (AA (HV Tp (AB 0) (AZ Tb AE AE)) AD)) (AA AE (AA (AZ Ff (AB 0) AE) AD)))))))
theorem My:AR ["_law_script","_law_k"] ["_law_script","_law_k"] (AH s_law_cell_at):=⟨rfl,rfl,rfl,by decide+kernel,rfl,by decide+kernel,by decide+kernel⟩
theorem Dz  (S:St.Src K mg "_law_cell_at" s_law_cell_at)(B:Bts mg):Jp P w K mg base:=by
 refine Ac (k:=0) S My rfl (fun f fd F=>F.binds fun _ _ _ _ _ _ us hl=>match us,hl with| [_,_],_=>rfl) fun f cdv A outer s H E hr=>?_
 have hu:=AU hr
 exact(AF (B7 (An K1 (AB 1) (Ax Be rfl B.len boot_len (AA (AB 0) AD))) (AI (AS (AK AY (AB 0) (AB 1)))) Av)
    (AI (AS AE)))
theorem HG:AR ["_law_pen_here","_law_bound","_law_found","_law_stir"] ["_law_pen_here","_law_bound"] (AH s_law_draw):=⟨rfl,rfl,rfl,by decide+kernel,rfl,by decide+kernel,by decide+kernel⟩
theorem AM  (S:St.Src K mg "_law_draw" s_law_draw):Cr P w K mg base:=by
 refine Ac (k:=0) S HG rfl (fun f fd F=>F.binds fun _ _ _ _ _ _ us hl=>match us,hl with| [_,_],_=>rfl) fun f cdv A outer s H E hr=>?_
 have hu:=AU hr
 exact(AF (B7 (DW.dt (NK (An (B6 hu) (AK AY (AB 0) AE) AE) (KN (An PC (AK AY (AB 0) AE) AE)))) (AF (Ah 2 (AZ Ff (AK AY (AB 0) AE) (AB 1)) HG.nd)
    (AF (CK (AZ HC (AK AY (AB 0) AE) (AB 1)) (AB 0) AE)
    (AI (AS (AB 2))))) Av)
    (AF (CK (AZ Ae (AK AY (AB 0) AE) AE) (AB 0) AE)
    (AF (Ah 3 (AZ Ff (AZ Am (AZ Ae (AK AY (AB 0) AE) AE) (AZ Ae AE (AZ Am AE (AK AY (AB 0) AE)))) AE) HG.nd)
    (AF (Ah 3 (AZ Ff (AZ Ae (AZ Ae (AZ Am (AB 3) (AB 3)) (AZ Am AE (AK AY (AB 0) AE))) AE) AE) HG.nd)
    (AI (AS (AZ Ff (AZ HC (AZ Ff (AZ Am (AB 3) AE) AE) AE) (AB 1))))))))
theorem Jw:AR ["_law_one","_law_other"] ["_law_one","_law_other"] (AH s_law_common):=⟨rfl,rfl,rfl,by decide+kernel,rfl,by decide+kernel,by decide+kernel⟩
theorem Ej  (S:St.Src K mg "_law_common" s_law_common):Kr P w K mg base:=by
 refine Ac (k:=0) S Jw rfl (fun f fd F=>F.binds fun _ _ _ _ _ _ us hl=>match us,hl with| [_,_],_=>rfl) fun f cdv A outer s H E hr=>?_
 have hu:=AU hr
 exact(AF (RX (Rp 1) PassesOwn.never (An PC (AB 1) AE) (AI (JK (i:=0) (j:=1) rfl Jw.nd rfl rfl (by decide) rfl rfl (AB 1) (AZ Ff (AB 0) (AB 1)))))
    (AI (AS (AB 0))))
theorem MZ:AR ["_law_top","_law_bottom","_law_by"] ["_law_top","_law_bottom"] (AH s_law_made):=⟨rfl,rfl,rfl,by decide+kernel,rfl,by decide+kernel,by decide+kernel⟩
theorem A8  (S:St.Src K mg "_law_made" s_law_made)(B:Bts mg)(Ej:Kr P w K mg base):EL P w K mg base:=by
 refine Ac (k:=1) S MZ rfl (fun f fd F=>F.binds fun _ _ _ _ _ _ us hl=>match us,hl with| [_,_],_=>rfl) fun f cdv A outer s H E hr=>?_
 have hu:=AU hr
 exact(AF (Ah 2 (AG Ej (hr.mono (by decide)) rfl (AA (Ax Lw rfl B.abs boot_abs (AA (AB 0) AD)) (AA (AB 1) AD))) MZ.nd)
    (AI (AS (Ag (AA (AZ HC (AB 0) (AB 2)) (AA (AZ HC (AB 1) (AB 2)) AD))))))
theorem Kw:AR ["_law_pen_here","_law_many","_law_weights"] ["_law_pen_here","_law_many"] (AH s_law_whole):=⟨rfl,rfl,rfl,by decide+kernel,rfl,by decide+kernel,by decide+kernel⟩
theorem Mu:Ab ["_law_pen_here","_law_many","_law_weights"] (AH s_law_whole) ["_law_pen_here","_law_one"] (ixC [0] 1) (JV s_law_whole 0):=⟨rfl,by decide+kernel,by decide+kernel,by decide+kernel,by decide+kernel⟩
theorem Mx:(["_law_pen_here","_law_one"]:List Str).Nodup:=by decide+kernel
theorem M9:Ab ["_law_pen_here","_law_many","_law_weights"] (AH s_law_whole) ["_law_weights","_law_weight"] (ixC [2] 1) (JV s_law_whole 1):=⟨rfl,by decide+kernel,by decide+kernel,by decide+kernel,by decide+kernel⟩
theorem NA:(["_law_weights","_law_weight"]:List Str).Nodup:=by decide+kernel
theorem C2  (S:St.Src K mg "_law_whole" s_law_whole)(B:Bts mg)(AM:Cr P w K mg base)(A8:EL P w K mg base):JP P w K mg base:=by
 refine Ac (k:=2) S Kw rfl (fun f fd F=>F.binds fun _ _ _ _ _ _ us hl=>match us,hl with| [_,_],_=>rfl) fun f cdv A outer s H E hr=>?_
 have hu:=AU hr
 exact(AF (Ah 2 (B2 [0] 1 ["_law_pen_here","_law_one"] rfl Mu (EB rfl B.range (AA (AB 1) AD)) (fun s H fp=>⟨(Ad 1 Mx),Bz,(AK AY (Bs (AA AE (AA AE (AA (AG AM (hr.mono (by decide)) rfl (AA (AB 0) (AA AE AD))) (AA (AG AM (hr.mono (by decide)) rfl (AA (AB 0) (AA AE AD))) AD))))) (AG AM (hr.mono (by decide)) rfl (AA (AB 0) (AA AE AD))))⟩)) Kw.nd)
    (AF (B7 (An (B6 hu) (Ax (J2 rfl) rfl B.sum boot_sum (AA (AB 2) AD)) AE) (AI (CK AE (AB 2) (AG AM (hr.mono (by decide)) rfl (AA (AB 0) (AA (AB 1) AD))))) Av)
    (AI (AS (A6 A4 rfl B.tuple boot_tuple (AA (B2 [2] 1 ["_law_weights","_law_weight"] rfl M9 (DR (AB 2)) (fun s H fp=>⟨(Ad 1 NA),Bz,(AG A8 (hr.mono (by decide)) rfl (AA (AB 1) (AA (Ax (J2 rfl) rfl B.sum boot_sum (AA (AB 0) AD)) AD)))⟩)) AD))))))
end
section
open PyProof.Rows (boot_isinstance boot_int boot_bool boot_tuple boot_str boot_list boot_abs boot_all boot_any boot_sum boot_max boot_min boot_range boot_enumerate boot_zip boot_sorted boot_set boot_divmod)
variable{P:Program}{w:World}{K:PySem.W.Frag}{mg:Str->Option Value}{base:Heap}
theorem IA:AR ["_law_pen_here","_law_partners","_law_kinds","_law_beasts"] ["_law_pen_here"] (AH s_law_train):=⟨rfl,rfl,rfl,by decide+kernel,rfl,by decide+kernel,by decide+kernel⟩
theorem Fi  (S:St.Src K mg "_law_train" s_law_train)(AM:Cr P w K mg base)(C2:JP P w K mg base):Mg P w K mg base:=by
 refine Ac (k:=3) S IA rfl (fun f fd F=>F.binds fun _ _ _ _ _ _ us hl=>match us,hl with| [_],_=>rfl) fun f cdv A outer s H E hr=>?_
 have hu:=AU hr
 exact(AF (JK (i:=1) (j:=2) rfl IA.nd rfl rfl (by decide) rfl rfl (AZ Ae AE (AG AM (hr.mono (by decide)) rfl (AA (AB 0) (AA AE AD)))) (AZ Ae AE (AG AM (hr.mono (by decide)) rfl (AA (AB 0) (AA AE AD)))))
    (AF (Ah 3 (AK AY (Bs (AA (AZ Ae AE (AG AM (hr.mono (by decide)) rfl (AA (AB 0) (AA AE AD)))) (AA (AZ Ae AE (AG AM (hr.mono (by decide)) rfl (AA (AB 0) (AA AE AD)))) AD))) (AG AM (hr.mono (by decide)) rfl (AA (AB 0) (AA AE AD)))) IA.nd)
    (AI (AS (Ag (AA (AB 1) (AA (AB 2) (AA (AB 3) (AA (AG C2 (hr.mono (by decide)) rfl (AA (AB 0) (AA (AB 1) AD))) (AA (AG AM (hr.mono (by decide)) rfl (AA (AB 0) (AA AE AD))) (AA (AG AM (hr.mono (by decide)) rfl (AA (AB 0) (AA AE AD))) AD)))))))))))
theorem J0:AR ["_law_pen_here","_law_great"] ["_law_pen_here"] (AH s_law_pieces):=⟨rfl,rfl,rfl,by decide+kernel,rfl,by decide+kernel,by decide+kernel⟩
theorem Bt  (S:St.Src K mg "_law_pieces" s_law_pieces)(AM:Cr P w K mg base):IQ P w K mg base:=by
 refine Ac (k:=1) S J0 rfl (fun f fd F=>F.binds fun _ _ _ _ _ _ us hl=>match us,hl with| [_],_=>rfl) fun f cdv A outer s H E hr=>?_
 have hu:=AU hr
 exact(AF (Ah 1 (AZ Ae (AZ Tb AE AE) (AG AM (hr.mono (by decide)) rfl (AA (AB 0) (AA AE AD)))) J0.nd)
    (AI (AS (AK AY (Bs (AA (AZ Ae AE (AG AM (hr.mono (by decide)) rfl (AA (AB 0) (AA AE AD)))) (AA (AZ Ae AE (AG AM (hr.mono (by decide)) rfl (AA (AB 0) (AA AE AD)))) (AA (AZ Ae AE (AG AM (hr.mono (by decide)) rfl (AA (AB 0) (AA AE AD)))) (AA (AB 1) AD))))) (AZ HC (AG AM (hr.mono (by decide)) rfl (AA (AB 0) (AA AE AD))) AE)))))
theorem Hn:AR ["_law_pen_here","_law_train_here","_law_found","_law_k"] ["_law_pen_here","_law_train_here"] (AH s_law_first):=⟨rfl,rfl,rfl,by decide+kernel,rfl,by decide+kernel,by decide+kernel⟩
theorem Fh  (S:St.Src K mg "_law_first" s_law_first)(B:Bts mg)(AM:Cr P w K mg base)(C2:JP P w K mg base)(Bt:IQ P w K mg base):Lk P w K mg base:=by
 refine Ac (k:=3) S Hn rfl (fun f fd F=>F.binds fun _ _ _ _ _ _ us hl=>match us,hl with| [_,_],_=>rfl) fun f cdv A outer s H E hr=>?_
 have hu:=AU hr
 exact(AF (Ah 2 (Bs AD) Hn.nd)
    (AF (FI PassesOwn.never rfl (EB rfl B.range (AA (AK AY (Bs (AA AE (AA AE (AA (AG AM (hr.mono (by decide)) rfl (AA (AB 0) (AA AE AD))) AD)))) (AG AM (hr.mono (by decide)) rfl (AA (AB 0) (AA AE AD)))) AD)) (Ad 3 Hn.nd) (AI (Cs (Jv PySem.F.slot_list_append PySem.F.type_list_append IX (AB 2) (AA (Ag (AA (AG AM (hr.mono (by decide)) rfl (AA (AB 0) (AA (AK AY (AB 1) AE) AD))) (AA (AG Bt (hr.mono (by decide)) rfl (AA (AB 0) AD)) (AA (AG C2 (hr.mono (by decide)) rfl (AA (AB 0) (AA (AK AY (AB 1) AE) AD))) AD)))) AD)))))
    (AI (AS (A6 A4 rfl B.tuple boot_tuple (AA (AB 2) AD))))))
theorem Pk:AR ["_law_book_here"] ["_law_book_here"] (AH s_law_begun):=⟨rfl,rfl,rfl,by decide+kernel,rfl,by decide+kernel,by decide+kernel⟩
theorem Mr:Ab ["_law_book_here"] (AH s_law_begun) ["_law_load"] (ixC [] 1) (JV s_law_begun 0):=⟨rfl,by decide+kernel,by decide+kernel,by decide+kernel,by decide+kernel⟩
theorem NF:(["_law_load"]:List Str).Nodup:=by decide+kernel
theorem Fj  (S:St.Src K mg "_law_begun" s_law_begun)(B:Bts mg):Ll P w K mg base:=by
 refine Ac (k:=0) S Pk rfl (fun f fd F=>F.binds fun _ _ _ _ _ _ us hl=>match us,hl with| [_],_=>rfl) fun f cdv A outer s H E hr=>?_
 have hu:=AU hr
 exact(AI (AS (Bs (AA (B2 [] 1 ["_law_load"] rfl Mr (DR (AK AY (AB 0) AE)) (fun s H fp=>⟨(Ad 0 NF),Bz,(A6 KW rfl B.list boot_list (AA (AB 0) AD))⟩)) (AA (A6 A4 rfl B.tuple boot_tuple (AA (AK AY (AK AY (AB 0) AE) AE) AD)) (AA (Bs AD) AD))))))
theorem Kq:AR ["_law_pen_here","_law_bottom"] ["_law_pen_here"] (AH s_law_share):=⟨rfl,rfl,rfl,by decide+kernel,rfl,by decide+kernel,by decide+kernel⟩
theorem C3  (S:St.Src K mg "_law_share" s_law_share)(AM:Cr P w K mg base)(A8:EL P w K mg base):JQ P w K mg base:=by
 refine Ac (k:=2) S Kq rfl (fun f fd F=>F.binds fun _ _ _ _ _ _ us hl=>match us,hl with| [_],_=>rfl) fun f cdv A outer s H E hr=>?_
 have hu:=AU hr
 exact(AF (Ah 1 (AZ Ae AE (AG AM (hr.mono (by decide)) rfl (AA (AB 0) (AA AE AD)))) Kq.nd)
    (AI (AS (AG A8 (hr.mono (by decide)) rfl (AA (AZ Ae AE (AG AM (hr.mono (by decide)) rfl (AA (AB 0) (AA (AB 1) AD)))) (AA (AB 1) AD))))))
theorem Ot:AR ["_law_pen_here","_law_many"] ["_law_pen_here","_law_many"] (AH s_law_worths):=⟨rfl,rfl,rfl,by decide+kernel,rfl,by decide+kernel,by decide+kernel⟩
theorem Lu:Ab ["_law_pen_here","_law_many"] (AH s_law_worths) ["_law_pen_here","_law_one"] (ixC [0] 1) (JV s_law_worths 0):=⟨rfl,by decide+kernel,by decide+kernel,by decide+kernel,by decide+kernel⟩
theorem MB:(["_law_pen_here","_law_one"]:List Str).Nodup:=by decide+kernel
theorem Eo  (S:St.Src K mg "_law_worths" s_law_worths)(B:Bts mg)(AM:Cr P w K mg base):Ky P w K mg base:=by
 refine Ac (k:=1) S Ot rfl (fun f fd F=>F.binds fun _ _ _ _ _ _ us hl=>match us,hl with| [_,_],_=>rfl) fun f cdv A outer s H E hr=>?_
 have hu:=AU hr
 exact(AI (AS (A6 A4 rfl B.tuple boot_tuple (AA (B2 [0] 1 ["_law_pen_here","_law_one"] rfl Lu (EB rfl B.range (AA (AB 1) AD)) (fun s H fp=>⟨(Ad 1 MB),Bz,(AZ Ae AE (AK AY (Bs (AA (AG AM (hr.mono (by decide)) rfl (AA (AB 0) (AA AE AD))) (AA (AG AM (hr.mono (by decide)) rfl (AA (AB 0) (AA AE AD))) AD))) (AG AM (hr.mono (by decide)) rfl (AA (AB 0) (AA AE AD)))))⟩)) AD))))
end
section
open PyProof.Rows (boot_isinstance boot_int boot_bool boot_tuple boot_str boot_list boot_abs boot_all boot_any boot_sum boot_max boot_min boot_range boot_enumerate boot_zip boot_sorted boot_set boot_divmod)
variable{P:Program}{w:World}{K:PySem.W.Frag}{mg:Str->Option Value}{base:Heap}
theorem Bo:AR ["_law_pen_here","_law_train_here","_law_state","_law_loads","_law_holders","_law_numbers","_law_full","_law_way","_law_load","_law_some","_law_same","_law_kind","_law_left","_law_partner"] ["_law_pen_here","_law_train_here","_law_state"] (AH s_law_deed):=⟨rfl,rfl,rfl,by decide+kernel,rfl,by decide+kernel,by decide+kernel⟩
theorem Om:Ab ["_law_pen_here","_law_train_here","_law_state","_law_loads","_law_holders","_law_numbers","_law_full","_law_way","_law_load","_law_some","_law_same","_law_kind","_law_left","_law_partner"] (AH s_law_deed) ["_law_at","_law_load"] (ixC [] 2) (JV s_law_deed 0):=⟨rfl,by decide+kernel,by decide+kernel,by decide+kernel,by decide+kernel⟩
theorem Jy:(["_law_at","_law_load"]:List Str).Nodup:=by decide+kernel
theorem OZ:Ab ["_law_pen_here","_law_train_here","_law_state","_law_loads","_law_holders","_law_numbers","_law_full","_law_way","_law_load","_law_some","_law_same","_law_kind","_law_left","_law_partner"] (AH s_law_deed) ["_law_loads","_law_load","_law_at"] (ixC [3,8] 1) (JV s_law_deed 1):=⟨rfl,by decide+kernel,by decide+kernel,by decide+kernel,by decide+kernel⟩
theorem OV:(["_law_loads","_law_load","_law_at"]:List Str).Nodup:=by decide+kernel
theorem O1:Ab ["_law_pen_here","_law_train_here","_law_state","_law_loads","_law_holders","_law_numbers","_law_full","_law_way","_law_load","_law_some","_law_same","_law_kind","_law_left","_law_partner"] (AH s_law_deed) ["_law_numbers","_law_number"] (ixC [5] 1) (JV s_law_deed 2):=⟨rfl,by decide+kernel,by decide+kernel,by decide+kernel,by decide+kernel⟩
theorem N9:(["_law_numbers","_law_number"]:List Str).Nodup:=by decide+kernel
theorem Gh  (S:St.Src K mg "_law_deed" s_law_deed)(B:Bts mg)(AM:Cr P w K mg base)(Bt:IQ P w K mg base)(C3:JQ P w K mg base)(Eo:Ky P w K mg base):Nz P w K mg base:=by
 refine Ac (k:=3) S Bo rfl (fun f fd F=>F.binds fun _ _ _ _ _ _ us hl=>match us,hl with| [_,_,_],_=>rfl) fun f cdv A outer s H E hr=>?_
 have hu:=AU hr
 exact(AF (Er (AB 2) (Dt rfl (AN (Ad 3 Bo.nd) (AN (Ad 4 Bo.nd) (AN (Ad 5 Bo.nd) BN)))))
    (AF (FT [] 2 ["_law_at","_law_load"] rfl Bo.nd rfl rfl Om (Xm rfl B.enumerate (AB 3)) (fun s H fp=>⟨(Dt rfl (AN (Ad 0 Jy) (AN (Ad 1 Jy) BN))),(KS (An PC (AK AY (AB 1) AE) AE)),(AB 0)⟩))
    (AF (Ah 7 (AG AM (hr.mono (by decide)) rfl (AA (AB 0) (AA AE AD))) Bo.nd)
    (AF (B7 (DW.dt (SU (An K1 (AB 7) AE) (PD (An (B6 hu) (AB 6) (Bs AD))))) (AI (AS (Ag (AA BY (AA (AG AM (hr.mono (by decide)) rfl (AA (AB 0) (AA (AK AY (AB 1) AE) AD))) (AA (AG AM (hr.mono (by decide)) rfl (AA (AB 0) (AA (AK AY (AB 1) AE) AD))) (AA (AG Bt (hr.mono (by decide)) rfl (AA (AB 0) AD)) AD))))))) Av)
    (AF (Ah 8 (AK AY (AB 6) (AG AM (hr.mono (by decide)) rfl (AA (AB 0) (AA (Ax Be rfl B.len boot_len (AA (AB 6) AD)) AD)))) Bo.nd)
    (AF (Ah 9 (AZ Ae AE (AG AM (hr.mono (by decide)) rfl (AA (AB 0) (AA (Ax (P9 rfl) rfl B.min boot_min (AA (AK AY (AK AY (AB 3) (AB 8)) AE) (AA AE AD))) AD)))) Bo.nd)
    (AF (B7 (An K1 (AB 7) AE) (AF (FT [3,8] 1 ["_law_loads","_law_load","_law_at"] rfl Bo.nd rfl rfl OZ (DR (AB 6)) (fun s H fp=>⟨(Ad 2 OV),(KS (DW.dt (NK (An (HS hu) (AB 2) (AB 1)) (KN (An (B6 hu) (AK AY (AK AY (AB 0) (AB 2)) AE) (AK AY (AK AY (AB 0) (AB 1)) AE)))))),(AB 2)⟩))
    (AI (B7 (An (HS hu) (AB 10) (Bs AD)) (AI (AS (Ag (AA BY (AA (AB 8) (AA (AK AY (AB 10) (AG AM (hr.mono (by decide)) rfl (AA (AB 0) (AA (Ax Be rfl B.len boot_len (AA (AB 10) AD)) AD)))) AD)))))) Av))) Av)
    (AF (B7 (DW.dt (NK (An K1 (AB 7) AE) (KN (An PC (AK AY (AB 1) AE) AE)))) (AF (Ah 11 (AZ Ff (AZ Ae (AZ Ae (AK AY (AK AY (AB 3) (AB 8)) AE) AE) (AG AM (hr.mono (by decide)) rfl (AA (AB 0) (AA (AZ EA (AK AY (AB 1) AE) AE) AD)))) (AK AY (AB 1) AE)) Bo.nd)
    (AF (FT [5] 1 ["_law_numbers","_law_number"] rfl Bo.nd rfl rfl O1 (EB rfl B.range (AA AE AD)) (fun s H fp=>⟨(Ad 1 N9),(KS (An Lj (AB 1) (AB 0))),(AB 1)⟩))
    (AF (B7 (DW.dt (NK (An (B6 hu) (AB 7) AE) (KN (An (HS hu) (AB 12) (Bs AD))))) (AI (AS (Ag (AA BY (AA (AK AY (AB 12) (AG AM (hr.mono (by decide)) rfl (AA (AB 0) (AA (Ax Be rfl B.len boot_len (AA (AB 12) AD)) AD)))) (AA (AB 8) (AA (AB 9) (AA (AB 11) (AA (AG Bt (hr.mono (by decide)) rfl (AA (AB 0) AD)) AD))))))))) Av)
    (AI (AS (Ag (AA BY (AA (AB 8) (AA (AB 9) (AA (AB 11) (AA (AG Bt (hr.mono (by decide)) rfl (AA (AB 0) AD)) AD))))))))))) Av)
    (AF (B7 (An (B6 hu) (AB 7) AE) (AI (AS (Ag (AA BY (AA (AB 8) (AA (AB 9) AD)))))) Av)
    (AF (B7 (DW.dt (NK (An (B6 hu) (AB 7) AE) (KN (An PC (AK AY (AB 1) AE) AE)))) (AF (Ah 13 (AG AM (hr.mono (by decide)) rfl (AA (AB 0) (AA (AK AY (AB 1) AE) AD))) Bo.nd)
    (AI (AS (Ag (AA BY (AA (AB 13) (AA (AZ Ff (AZ Ae (AZ Ae (AB 13) AE) (AG AM (hr.mono (by decide)) rfl (AA (AB 0) (AA (AZ EA (AK AY (AB 1) AE) AE) AD)))) (AK AY (AB 1) AE)) (AA (AG C3 (hr.mono (by decide)) rfl (AA (AB 0) AD)) AD)))))))) Av)
    (AI (AS (Ag (AA BY (AA (AB 8) (AA (AB 9) (AA (AG Eo (hr.mono (by decide)) rfl (AA (AB 0) (AA (AZ Ae (AK AY (AB 1) AE) AE) AD))) AD)))))))))))))))))
theorem QT:AR ["_law_one","_law_other"] ["_law_one","_law_other"] (AH s_law_plus):=⟨rfl,rfl,rfl,by decide+kernel,rfl,by decide+kernel,by decide+kernel⟩
theorem BM  (S:St.Src K mg "_law_plus" s_law_plus)(A8:EL P w K mg base):FY P w K mg base:=by
 refine Ac (k:=2) S QT rfl (fun f fd F=>F.binds fun _ _ _ _ _ _ us hl=>match us,hl with| [_,_],_=>rfl) fun f cdv A outer s H E hr=>?_
 have hu:=AU hr
 exact(AI (AS (AG A8 (hr.mono (by decide)) rfl (AA (AZ Ae (AZ Am (AK AY (AB 0) AE) (AK AY (AB 1) AE)) (AZ Am (AK AY (AB 1) AE) (AK AY (AB 0) AE))) (AA (AZ Am (AK AY (AB 0) AE) (AK AY (AB 1) AE)) AD)))))
theorem O6:AR ["_law_one","_law_other"] ["_law_one","_law_other"] (AH s_law_times):=⟨rfl,rfl,rfl,by decide+kernel,rfl,by decide+kernel,by decide+kernel⟩
theorem Ap  (S:St.Src K mg "_law_times" s_law_times)(A8:EL P w K mg base):EV P w K mg base:=by
 refine Ac (k:=2) S O6 rfl (fun f fd F=>F.binds fun _ _ _ _ _ _ us hl=>match us,hl with| [_,_],_=>rfl) fun f cdv A outer s H E hr=>?_
 have hu:=AU hr
 exact(AI (AS (AG A8 (hr.mono (by decide)) rfl (AA (AZ Am (AK AY (AB 0) AE) (AK AY (AB 1) AE)) (AA (AZ Am (AK AY (AB 0) AE) (AK AY (AB 1) AE)) AD)))))
theorem EE:AR ["_law_one","_law_other","_law_found","_law_mine","_law_its","_law_both"] ["_law_one","_law_other"] (AH s_law_pooled):=⟨rfl,rfl,rfl,by decide+kernel,rfl,by decide+kernel,by decide+kernel⟩
theorem Eu  (S:St.Src K mg "_law_pooled" s_law_pooled)(B:Bts mg)(A8:EL P w K mg base)(BM:FY P w K mg base)(Ap:EV P w K mg base):Kt P w K mg base:=by
 refine Ac (k:=3) S EE rfl (fun f fd F=>F.binds fun _ _ _ _ _ _ us hl=>match us,hl with| [_,_],_=>rfl) fun f cdv A outer s H E hr=>?_
 have hu:=AU hr
 exact(AF (Ah 2 (Bs AD) EE.nd)
    (AF (FI PassesOwn.never rfl (Mc rfl B.zip (AK AY (AB 0) AE) (AK AY (AB 1) AE)) (Dt rfl (AN (Ad 3 EE.nd) (AN (Ad 4 EE.nd) BN))) (AF (Ah 5 (AG BM (hr.mono (by decide)) rfl (AA (AG Ap (hr.mono (by decide)) rfl (AA (Ag (AA (AK AY (AB 0) AE) (AA AE AD))) (AA (AB 3) AD))) (AA (AG Ap (hr.mono (by decide)) rfl (AA (Ag (AA (AK AY (AB 1) AE) (AA AE AD))) (AA (AB 4) AD))) AD))) EE.nd)
    (AI (Cs (Jv PySem.F.slot_list_append PySem.F.type_list_append IX (AB 2) (AA (AG Ap (hr.mono (by decide)) rfl (AA (AB 5) (AA (AG A8 (hr.mono (by decide)) rfl (AA AE (AA (AZ Ae (AK AY (AB 0) AE) (AK AY (AB 1) AE)) AD))) AD))) AD))))))
    (AI (AS (A6 A4 rfl B.tuple boot_tuple (AA (AB 2) AD))))))
theorem JZ:AR ["_law_train_here","_law_loads","_law_deed_here","_law_worths_here","_law_whole_here"] ["_law_train_here","_law_loads","_law_deed_here"] (AH s_law_cost):=⟨rfl,rfl,rfl,by decide+kernel,rfl,by decide+kernel,by decide+kernel⟩
theorem OY:Ab ["_law_train_here","_law_loads","_law_deed_here","_law_worths_here","_law_whole_here"] (AH s_law_cost) ["_law_worths_here","_law_kind","_law_pieces_here","_law_owners"] (ixC [3] 3) (JV s_law_cost 0):=⟨rfl,by decide+kernel,by decide+kernel,by decide+kernel,by decide+kernel⟩
theorem HI:(["_law_worths_here","_law_kind","_law_pieces_here","_law_owners"]:List Str).Nodup:=by decide+kernel
theorem Gn  (S:St.Src K mg "_law_cost" s_law_cost)(B:Bts mg)(A8:EL P w K mg base):Nx P w K mg base:=by
 refine Ac (k:=2) S JZ rfl (fun f fd F=>F.binds fun _ _ _ _ _ _ us hl=>match us,hl with| [_,_,_],_=>rfl) fun f cdv A outer s H E hr=>?_
 have hu:=AU hr
 exact(AF (Ah 3 (AK AY (AB 2) AE) JZ.nd)
    (AF (Ah 4 (AZ Ae (Ax (J2 rfl) rfl B.sum boot_sum (AA (B2 [3] 3 ["_law_worths_here","_law_kind","_law_pieces_here","_law_owners"] rfl OY (DR (AB 1)) (fun s H fp=>⟨(Dt rfl (AN (Ad 1 HI) (AN (Ad 2 HI) (AN (Ad 3 HI) BN)))),Bz,(AZ Am (AB 2) (AK AY (AB 0) (AB 1)))⟩)) AD)) (AZ Am (AK AY (AB 0) AE) (AK AY (AB 3) (UB MU AE)))) JZ.nd)
    (AI (AS (AG A8 (hr.mono (by decide)) rfl (AA (AZ Am (AK AY (AB 2) AE) (AK AY (AB 3) (AK AY (AK AY (AB 1) (AK AY (AB 2) AE)) AE))) (AA (AB 4) AD)))))))
theorem Qg:AR ["_law_one","_law_other"] ["_law_one","_law_other"] (AH s_law_less):=⟨rfl,rfl,rfl,by decide+kernel,rfl,by decide+kernel,by decide+kernel⟩
theorem Bg  (S:St.Src K mg "_law_less" s_law_less)(BM:FY P w K mg base):Gk P w K mg base:=by
 refine Ac (k:=3) S Qg rfl (fun f fd F=>F.binds fun _ _ _ _ _ _ us hl=>match us,hl with| [_,_],_=>rfl) fun f cdv A outer s H E hr=>?_
 have hu:=AU hr
 exact(AI (AS (AG BM (hr.mono (by decide)) rfl (AA (AB 0) (AA (Ag (AA (AZ EA AE (AK AY (AB 1) AE)) (AA (AK AY (AB 1) AE) AD))) AD)))))
end
section
open PyProof.Rows (boot_isinstance boot_int boot_bool boot_tuple boot_str boot_list boot_abs boot_all boot_any boot_sum boot_max boot_min boot_range boot_enumerate boot_zip boot_sorted boot_set boot_divmod)
variable{P:Program}{w:World}{K:PySem.W.Frag}{mg:Str->Option Value}{base:Heap}
theorem GA:AR ["_law_shares","_law_part","_law_owners","_law_found","_law_mine","_law_its"] ["_law_shares","_law_part","_law_owners"] (AH s_law_borne):=⟨rfl,rfl,rfl,by decide+kernel,rfl,by decide+kernel,by decide+kernel⟩
theorem EU  (S:St.Src K mg "_law_borne" s_law_borne)(B:Bts mg)(BM:FY P w K mg base)(Ap:EV P w K mg base)(Bg:Gk P w K mg base):Ls P w K mg base:=by
 refine Ac (k:=4) S GA rfl (fun f fd F=>F.binds fun _ _ _ _ _ _ us hl=>match us,hl with| [_,_,_],_=>rfl) fun f cdv A outer s H E hr=>?_
 have hu:=AU hr
 exact(AF (Ah 3 (Bs AD) GA.nd)
    (AF (FI PassesOwn.never rfl (Mc rfl B.zip (AB 0) (AB 2)) (Dt rfl (AN (Ad 4 GA.nd) (AN (Ad 5 GA.nd) BN))) (AI (Cs (Jv PySem.F.slot_list_append PySem.F.type_list_append IX (AB 3) (AA (AG BM (hr.mono (by decide)) rfl (AA (AG Ap (hr.mono (by decide)) rfl (AA (AB 4) (AA (AG Bg (hr.mono (by decide)) rfl (AA (Ag (AA AE (AA AE AD))) (AA (AB 1) AD))) AD))) (AA (AG Ap (hr.mono (by decide)) rfl (AA (AB 5) (AA (AB 1) AD))) AD))) AD)))))
    (AI (AS (A6 A4 rfl B.tuple boot_tuple (AA (AB 3) AD))))))
theorem JX:AR ["_law_shares","_law_deed_here","_law_found","_law_passes"] ["_law_shares","_law_deed_here"] (AH s_law_sold):=⟨rfl,rfl,rfl,by decide+kernel,rfl,by decide+kernel,by decide+kernel⟩
theorem FV  (S:St.Src K mg "_law_sold" s_law_sold)(B:Bts mg)(BM:FY P w K mg base)(Ap:EV P w K mg base)(Bg:Gk P w K mg base):NU P w K mg base:=by
 refine Ac (k:=4) S JX rfl (fun f fd F=>F.binds fun _ _ _ _ _ _ us hl=>match us,hl with| [_,_],_=>rfl) fun f cdv A outer s H E hr=>?_
 have hu:=AU hr
 exact(AF (Ah 2 (A6 KW rfl B.list boot_list (AA (AB 0) AD)) JX.nd)
    (AF (Ah 3 (AG Ap (hr.mono (by decide)) rfl (AA (AK AY (AB 2) (AK AY (AB 1) AE)) (AA (AK AY (AB 1) AE) AD))) JX.nd)
    (AF (CK (AG Bg (hr.mono (by decide)) rfl (AA (AK AY (AB 2) (AK AY (AB 1) AE)) (AA (AB 3) AD))) (AB 2) (AK AY (AB 1) AE))
    (AF (CK (AG BM (hr.mono (by decide)) rfl (AA (AK AY (AB 2) (AK AY (AB 1) AE)) (AA (AB 3) AD))) (AB 2) (AK AY (AB 1) AE))
    (AI (AS (A6 A4 rfl B.tuple boot_tuple (AA (AB 2) AD))))))))
theorem Dk:AR ["_law_train_here","_law_state","_law_deed_here","_law_loads","_law_holders","_law_numbers","_law_part","_law_owners","_law_load"] ["_law_train_here","_law_state","_law_deed_here"] (AH s_law_turn):=⟨rfl,rfl,rfl,by decide+kernel,rfl,by decide+kernel,by decide+kernel⟩
theorem GP  (S:St.Src K mg "_law_turn" s_law_turn)(Gn:Nx P w K mg base)(EU:Ls P w K mg base)(FV:NU P w K mg base):Nq P w K mg base:=by
 refine Ac (k:=5) S Dk rfl (fun f fd F=>F.binds fun _ _ _ _ _ _ us hl=>match us,hl with| [_,_,_],_=>rfl) fun f cdv A outer s H E hr=>?_
 have hu:=AU hr
 exact(AF (Er (AB 1) (Dt rfl (AN (Ad 3 Dk.nd) (AN (Ad 4 Dk.nd) (AN (Ad 5 Dk.nd) BN)))))
    (AI (B7 (An (B6 hu) (AK AY (AB 2) AE) BY) (AF (JK (i:=6) (j:=7) rfl Dk.nd rfl rfl (by decide) rfl rfl (AG Gn (hr.mono (by decide)) rfl (AA (AB 0) (AA (AB 3) (AA (AB 2) AD)))) (AK AY (AK AY (AB 3) (AK AY (AB 2) AE)) AE))
    (AF (CK (AZ EA (AK AY (AK AY (AB 3) (AK AY (AB 2) AE)) AE) (AK AY (AB 2) AE)) (AK AY (AB 3) (AK AY (AB 2) AE)) AE)
    (AF (FI PassesOwn.never rfl (DR (AB 3)) (Ad 8 Dk.nd) (AI (CK (AG EU (hr.mono (by decide)) rfl (AA (AK AY (AB 8) AE) (AA (AB 6) (AA (AB 7) AD)))) (AB 8) AE)))
    (AI (CK (AG EU (hr.mono (by decide)) rfl (AA (AB 4) (AA (AB 6) (AA (AB 7) AD)))) (AB 1) AE))))) (AF (FI PassesOwn.never rfl (DR (AB 3)) (Ad 8 Dk.nd) (AI (CK (AG FV (hr.mono (by decide)) rfl (AA (AK AY (AB 8) AE) (AA (AB 2) AD))) (AB 8) AE)))
    (AI (CK (AG FV (hr.mono (by decide)) rfl (AA (AB 4) (AA (AB 2) AD))) (AB 1) AE))))))
theorem DZ:AR ["_law_train_here","_law_state","_law_deed_here","_law_loads","_law_holders","_law_numbers","_law_word","_law_one","_law_other","_law_load","_law_given","_law_kind","_law_got"] ["_law_train_here","_law_state","_law_deed_here"] (AH s_law_do):=⟨rfl,rfl,rfl,by decide+kernel,rfl,by decide+kernel,by decide+kernel⟩
theorem Qo:Ab ["_law_train_here","_law_state","_law_deed_here","_law_loads","_law_holders","_law_numbers","_law_word","_law_one","_law_other","_law_load","_law_given","_law_kind","_law_got"] (AH s_law_do) ["_law_deed_here","_law_one"] (ixC [2] 1) (JV s_law_do 0):=⟨rfl,by decide+kernel,by decide+kernel,by decide+kernel,by decide+kernel⟩
theorem Qi:(["_law_deed_here","_law_one"]:List Str).Nodup:=by decide+kernel
theorem J6  (S:St.Src K mg "_law_do" s_law_do)(B:Bts mg)(Eu:Kt P w K mg base)(GP:Nq P w K mg base):Q4 P w K mg base:=by
 refine Ac (k:=6) S DZ rfl (fun f fd F=>F.binds fun _ _ _ _ _ _ us hl=>match us,hl with| [_,_,_],_=>rfl) fun f cdv A outer s H E hr=>?_
 have hu:=AU hr
 exact(AF (Er (AB 1) (Dt rfl (AN (Ad 3 DZ.nd) (AN (Ad 4 DZ.nd) (AN (Ad 5 DZ.nd) BN)))))
    (AF (Ah 6 (AK AY (AB 2) AE) DZ.nd)
    (AI (B7 (An (B6 hu) (AB 6) BY) (AI (Cs (Jv PySem.F.slot_list_append PySem.F.type_list_append IX (AB 3) (AA (Bs (AA (AK AY (AB 2) AE) (AA (AK AY (AB 2) AE) (AA (A6 A4 rfl B.tuple boot_tuple (AA (B2 [2] 1 ["_law_deed_here","_law_one"] rfl Qo (EB rfl B.range (AA (AK AY (AB 0) AE) AD)) (fun s H fp=>⟨(Ad 1 Qi),Bz,(Ag (AA (A6 MC rfl B.int boot_int (AA (HV (B6 hu) (AB 1) (AK AY (AB 0) AE)) AD)) (AA AE AD)))⟩)) AD)) AD)))) AD)))) (AI (B7 (An (B6 hu) (AB 6) BY) (AF (JK (i:=7) (j:=8) rfl DZ.nd rfl rfl (by decide) rfl rfl (AK AY (AB 3) (AK AY (AB 2) AE)) (AK AY (AB 3) (AK AY (AB 2) AE)))
    (AF (Cs (Jv PySem.F.slot_list_append PySem.F.type_list_append IX (AB 3) (AA (Bs (AA (AK AY (AB 7) AE) (AA (AZ Ae (AK AY (AB 7) AE) (AK AY (AB 8) AE)) (AA (AG Eu (hr.mono (by decide)) rfl (AA (AB 7) (AA (AB 8) AD))) AD)))) AD)))
    (AF (CK AE (AB 7) AE)
    (AI (CK AE (AB 8) AE))))) (AI (B7 (An L8 (AB 6) (Ag (AA BY (AA BY AD)))) (AF (Er (Gy (AB 2) (UB MU AE)) (Dt rfl (AN (Ad 9 DZ.nd) (AN (Ad 10 DZ.nd) (AN (Ad 11 DZ.nd) (AN (Ad 12 DZ.nd) BN))))))
    (AF (CK (AZ EA (AK AY (AK AY (AB 3) (AB 9)) AE) (AB 10)) (AK AY (AB 3) (AB 9)) AE)
    (AF (Cs (Jv PySem.F.slot_list_append PySem.F.type_list_append IX (AB 3) (AA (Bs (AA (AB 11) (AA (AB 12) (AA (AK AY (AK AY (AB 3) (AB 9)) AE) AD)))) AD)))
    (AI (Cs (Jv PySem.F.slot_list_extend PySem.F.type_list_extend Zj (AB 5) (AA (AZ Am (Qr (AB 2) AE AE) (A6 MC rfl B.int boot_int (AA (HV (B6 hu) (AB 6) BY) AD))) AD))))))) (AI (B7 (An (B6 hu) (AB 6) BY) (AI (CK (AZ EA (AK AY (AK AY (AB 3) (AK AY (AB 2) AE)) AE) (AK AY (AB 2) AE)) (AK AY (AB 3) (AK AY (AB 2) AE)) AE)) (AI (Cs (AG GP (hr.mono (by decide)) rfl (AA (AB 0) (AA (AB 1) (AA (AB 2) AD))))))))))))))))
theorem EN:AR ["_law_pen_here","_law_most","_law_train_here","_law_first_here","_law_state","_law_deeds","_law_k","_law_deed_here"] ["_law_pen_here","_law_most"] (AH s_law_book):=⟨rfl,rfl,rfl,by decide+kernel,rfl,by decide+kernel,by decide+kernel⟩
theorem OD:Ab ["_law_pen_here","_law_most","_law_train_here","_law_first_here","_law_state","_law_deeds","_law_k","_law_deed_here"] (AH s_law_book) ["_law_one"] (ixC [] 1) (JV s_law_book 0):=⟨rfl,by decide+kernel,by decide+kernel,by decide+kernel,by decide+kernel⟩
theorem OE:(["_law_one"]:List Str).Nodup:=by decide+kernel
theorem GR  (S:St.Src K mg "_law_book" s_law_book)(B:Bts mg)(AM:Cr P w K mg base)(Fi:Mg P w K mg base)(Fh:Lk P w K mg base)(Fj:Ll P w K mg base)(Gh:Nz P w K mg base)(J6:Q4 P w K mg base):Na P w K mg base:=by
 refine Ac (k:=7) S EN rfl (fun f fd F=>F.binds fun _ _ _ _ _ _ us hl=>match us,hl with| [_,_],_=>rfl) fun f cdv A outer s H E hr=>?_
 have hu:=AU hr
 exact(AF (Ah 2 (AG Fi (hr.mono (by decide)) rfl (AA (AB 0) AD)) EN.nd)
    (AF (Ah 3 (AG Fh (hr.mono (by decide)) rfl (AA (AB 0) (AA (AB 2) AD))) EN.nd)
    (AF (JK (i:=4) (j:=5) rfl EN.nd rfl rfl (by decide) rfl rfl (AG Fj (hr.mono (by decide)) rfl (AA (Ag (AA (AB 2) (AA (AB 3) (AA (Ag AD) AD)))) AD)) (Bs AD))
    (AF (FI PassesOwn.never rfl (EB rfl B.range (AA (AG AM (hr.mono (by decide)) rfl (AA (AB 0) (AA (AZ Ae (AB 1) AE) AD))) AD)) (Ad 6 EN.nd) (AF (Ah 7 (AG Gh (hr.mono (by decide)) rfl (AA (AB 0) (AA (AB 2) (AA (AB 4) AD)))) EN.nd)
    (AI (B7 (DW.dt (SU (An (HS hu) (AK AY (AB 7) AE) BY) (PD (An K1 (Ax Be rfl B.len boot_len (AA (B2 [] 1 ["_law_one"] rfl OD (DR (AB 5)) (fun s H fp=>⟨(Ad 0 OE),(KS (An (B6 hu) (AK AY (AB 0) AE) BY)),(AB 0)⟩)) AD)) AE)))) (AF (Cs (AG J6 (hr.mono (by decide)) rfl (AA (AB 2) (AA (AB 4) (AA (AB 7) AD)))))
    (AI (Cs (Jv PySem.F.slot_list_append PySem.F.type_list_append IX (AB 5) (AA (AB 7) AD))))) Av))))
    (AI (AS (Ag (AA (AB 2) (AA (AB 3) (AA (A6 A4 rfl B.tuple boot_tuple (AA (AB 5) AD)) AD))))))))))
theorem HJ:AR ["_law_book_here","_law_at","_law_deed_here","_law_train_here","_law_first_here","_law_deeds"] ["_law_book_here","_law_at","_law_deed_here"] (AH s_law_with):=⟨rfl,rfl,rfl,by decide+kernel,rfl,by decide+kernel,by decide+kernel⟩
theorem Bv  (S:St.Src K mg "_law_with" s_law_with):Io P w K mg base:=by
 refine Ac (k:=0) S HJ rfl (fun f fd F=>F.binds fun _ _ _ _ _ _ us hl=>match us,hl with| [_,_,_],_=>rfl) fun f cdv A outer s H E hr=>?_
 have hu:=AU hr
 exact(AF (Er (AB 0) (Dt rfl (AN (Ad 3 HJ.nd) (AN (Ad 4 HJ.nd) (AN (Ad 5 HJ.nd) BN)))))
    (AI (AS (Ag (AA (AB 3) (AA (AB 4) (AA (AZ Ae (AZ Ae (HA (AB 5) (AB 1)) (Ag (AA (AB 2) AD))) (Gy (AB 5) (AB 1))) AD)))))))
end
section
open PyProof.Rows (boot_isinstance boot_int boot_bool boot_tuple boot_str boot_list boot_abs boot_all boot_any boot_sum boot_max boot_min boot_range boot_enumerate boot_zip boot_sorted boot_set boot_divmod)
variable{P:Program}{w:World}{K:PySem.W.Frag}{mg:Str->Option Value}{base:Heap}
theorem Iq:AR ["_law_some","_law_found","_law_one"] ["_law_some"] (AH s_law_sum):=⟨rfl,rfl,rfl,by decide+kernel,rfl,by decide+kernel,by decide+kernel⟩
theorem Hl  (S:St.Src K mg "_law_sum" s_law_sum)(BM:FY P w K mg base):Pw P w K mg base:=by
 refine Ac (k:=3) S Iq rfl (fun f fd F=>F.binds fun _ _ _ _ _ _ us hl=>match us,hl with| [_],_=>rfl) fun f cdv A outer s H E hr=>?_
 have hu:=AU hr
 exact(AF (Ah 1 (Ag (AA AE (AA AE AD))) Iq.nd)
    (AF (FI PassesOwn.never rfl (DR (AB 0)) (Ad 2 Iq.nd) (AI (Ah 1 (AG BM (hr.mono (by decide)) rfl (AA (AB 1) (AA (AB 2) AD))) Iq.nd)))
    (AI (AS (AB 1)))))
theorem Qp:AR ["_law_rows"] ["_law_rows"] (AH s_law_sums):=⟨rfl,rfl,rfl,by decide+kernel,rfl,by decide+kernel,by decide+kernel⟩
theorem OK:Ab ["_law_rows"] (AH s_law_sums) ["_law_rows","_law_at"] (ixC [0] 1) (JV s_law_sums 0):=⟨rfl,by decide+kernel,by decide+kernel,by decide+kernel,by decide+kernel⟩
theorem OU:(["_law_rows","_law_at"]:List Str).Nodup:=by decide+kernel
theorem Oe:Ab ["_law_rows","_law_at"] (aK (JV s_law_sums 0) (AH s_law_sums)) ["_law_at","_law_row"] (ixC [1] 1) (JV s_law_sums 1):=⟨rfl,by decide+kernel,by decide+kernel,by decide+kernel,by decide+kernel⟩
theorem Ob:(["_law_at","_law_row"]:List Str).Nodup:=by decide+kernel
theorem Gs  (S:St.Src K mg "_law_sums" s_law_sums)(B:Bts mg)(Hl:Pw P w K mg base):Ni P w K mg base:=by
 refine Ac (k:=4) S Qp rfl (fun f fd F=>F.binds fun _ _ _ _ _ _ us hl=>match us,hl with| [_],_=>rfl) fun f cdv A outer s H E hr=>?_
 have hu:=AU hr
 exact(AI (AS (B2 [0] 1 ["_law_rows","_law_at"] rfl OK (EB rfl B.range (AA (Ax Be rfl B.len boot_len (AA (AK AY (AB 0) AE) AD)) AD)) (fun s H fp=>⟨(Ad 1 OU),Bz,(AG Hl (hr.mono (by decide)) rfl (AA (B2 [1] 1 ["_law_at","_law_row"] rfl Oe (DR (AB 0)) (fun s H fp=>⟨(Ad 1 Ob),Bz,(AK AY (AB 1) (AB 0))⟩)) AD))⟩))))
theorem Df:AR ["_law_mine","_law_least","_law_most","_law_one","_law_low","_law_high"] ["_law_mine","_law_least","_law_most"] (AH s_law_is_within):=⟨rfl,rfl,rfl,by decide+kernel,rfl,by decide+kernel,by decide+kernel⟩
theorem C5  (S:St.Src K mg "_law_is_within" s_law_is_within)(B:Bts mg)(Bg:Gk P w K mg base):II P w K mg base:=by
 refine Ac (k:=4) S Df rfl (fun f fd F=>F.binds fun _ _ _ _ _ _ us hl=>match us,hl with| [_,_,_],_=>rfl) fun f cdv A outer s H E hr=>?_
 have hu:=AU hr
 exact(AF (FI PassesOwn.never rfl (YW rfl B.zip (AB 0) (AB 1) (AB 2)) (Dt rfl (AN (Ad 3 Df.nd) (AN (Ad 4 Df.nd) (AN (Ad 5 Df.nd) BN)))) (AI (B7 (DW.dt (SU (An K1 (AK AY (AG Bg (hr.mono (by decide)) rfl (AA (AB 3) (AA (AB 4) AD))) AE) AE) (PD (An K1 (AK AY (AG Bg (hr.mono (by decide)) rfl (AA (AB 5) (AA (AB 3) AD))) AE) AE)))) (AI (AS LJ)) Av)))
    (AI (AS LJ)))
theorem BA:AR ["_law_book_here","_law_at","_law_deed_here","_law_more","_law_many","_law_turned","_law_partner","_law_had","_law_has","_law_most"] ["_law_book_here","_law_at","_law_deed_here"] (AH s_law_behind_right):=⟨rfl,rfl,rfl,by decide+kernel,rfl,by decide+kernel,by decide+kernel⟩
theorem IS:Ab ["_law_book_here","_law_at","_law_deed_here","_law_more","_law_many","_law_turned","_law_partner","_law_had","_law_has","_law_most"] (AH s_law_behind_right) ["_law_one"] (ixC [] 1) (JV s_law_behind_right 0):=⟨rfl,by decide+kernel,by decide+kernel,by decide+kernel,by decide+kernel⟩
theorem Hv:(["_law_one"]:List Str).Nodup:=by decide+kernel
theorem IY:Ab ["_law_book_here","_law_at","_law_deed_here","_law_more","_law_many","_law_turned","_law_partner","_law_had","_law_has","_law_most"] (AH s_law_behind_right) ["_law_one","_law_two"] (ixC [] 2) (JV s_law_behind_right 1):=⟨rfl,by decide+kernel,by decide+kernel,by decide+kernel,by decide+kernel⟩
theorem Eh:(["_law_one","_law_two"]:List Str).Nodup:=by decide+kernel
theorem H0:Ab ["_law_book_here","_law_at","_law_deed_here","_law_more","_law_many","_law_turned","_law_partner","_law_had","_law_has","_law_most"] (AH s_law_behind_right) ["_law_one"] (ixC [] 1) (JV s_law_behind_right 2):=⟨rfl,by decide+kernel,by decide+kernel,by decide+kernel,by decide+kernel⟩
theorem Ia:(["_law_one"]:List Str).Nodup:=by decide+kernel
theorem IL:Ab ["_law_book_here","_law_at","_law_deed_here","_law_more","_law_many","_law_turned","_law_partner","_law_had","_law_has","_law_most"] (AH s_law_behind_right) ["_law_one"] (ixC [] 1) (JV s_law_behind_right 3):=⟨rfl,by decide+kernel,by decide+kernel,by decide+kernel,by decide+kernel⟩
theorem IF:(["_law_one"]:List Str).Nodup:=by decide+kernel
theorem Ht:Ab ["_law_book_here","_law_at","_law_deed_here","_law_more","_law_many","_law_turned","_law_partner","_law_had","_law_has","_law_most"] (AH s_law_behind_right) ["_law_deed_here","_law_one"] (ixC [2] 1) (JV s_law_behind_right 4):=⟨rfl,by decide+kernel,by decide+kernel,by decide+kernel,by decide+kernel⟩
theorem Hs:(["_law_deed_here","_law_one"]:List Str).Nodup:=by decide+kernel
theorem CH  (S:St.Src K mg "_law_behind_right" s_law_behind_right)(B:Bts mg)(A5:FK P w K mg base)(Gj:Nd P w K mg base)(CF:HM P w K mg base)(Ap:EV P w K mg base)(Bg:Gk P w K mg base)(Bv:Io P w K mg base)(Gs:Ni P w K mg base)(C5:II P w K mg base):Fv P w K mg base:=by
 refine Ac (k:=10) S BA rfl (fun f fd F=>F.binds fun _ _ _ _ _ _ us hl=>match us,hl with| [_,_,_],_=>rfl) fun f cdv A outer s H E hr=>?_
 have hu:=AU hr
 exact(AF (Ah 3 (AG Bv (hr.mono (by decide)) rfl (AA (AB 0) (AA (AB 1) (AA (AB 2) AD)))) BA.nd)
    (AF (JK (i:=4) (j:=5) rfl BA.nd rfl rfl (by decide) rfl rfl (Ax Be rfl B.len boot_len (AA (AK AY (AB 3) AE) AD)) (AG CF (hr.mono (by decide)) rfl (AA (AB 3) (AA (AB 1) AD))))
    (AF (B7 (DW.dt (SU (An (HS hu) (AG Gj (hr.mono (by decide)) rfl (AA (AB 3) (AA (AB 1) AD))) (AB 0)) (PD (An (HS hu) (B2 [] 1 ["_law_one"] rfl IS (DR (AG Gs (hr.mono (by decide)) rfl (AA (AB 5) AD))) (fun s H fp=>⟨(Ad 0 Hv),Bz,(AK AY (AB 0) AE)⟩)) (AZ Am (Bs (AA AE AD)) (AK AY (AK AY (AB 0) AE) AE)))))) (AI (AS LJ)) Av)
    (AF (FI PassesOwn.never rfl (EB rfl B.range (AA (AK AY (AK AY (AB 0) AE) AE) AD)) (Ad 6 BA.nd) (AF (JK (i:=7) (j:=8) rfl BA.nd rfl rfl (by decide) rfl rfl (AG A5 (hr.mono (by decide)) rfl (AA (AB 0) (AA (AZ EA (AB 4) AE) (AA (AB 6) AD)))) (AG A5 (hr.mono (by decide)) rfl (AA (AB 3) (AA (AB 4) (AA (AB 6) AD)))))
    (AI (B7 (An (HS hu) (AK AY (AB 5) (AB 6)) (A6 A4 rfl B.tuple boot_tuple (AA (B2 [] 2 ["_law_one","_law_two"] rfl IY (Mc rfl B.zip (AB 8) (AB 7)) (fun s H fp=>⟨(Dt rfl (AN (Ad 0 Eh) (AN (Ad 1 Eh) BN))),Bz,(AG Bg (hr.mono (by decide)) rfl (AA (AB 0) (AA (AB 1) AD)))⟩)) AD))) (AI (AS LJ)) Av))))
    (AF (B7 (An (HS hu) (B2 [] 1 ["_law_one"] rfl H0 (DR (Gy (AK AY (AB 0) AE) (AB 1))) (fun s H fp=>⟨(Ad 0 Ia),(KS (An L8 (AK AY (AB 0) AE) (Ag (AA BY (AA BY AD))))),(AB 0)⟩)) (Bs AD)) (AI (AS LJ)) Av)
    (AF (FI PassesOwn.never rfl (EB rfl B.range (AA (AK AY (AK AY (AB 0) AE) AE) AD)) (Ad 6 BA.nd) (AI (B7 (DW.dt (NK (An Lj (AB 6) (Qr (AB 2) AE AE)) (KN (An (HS hu) (B2 [] 1 ["_law_one"] rfl IL (DR (AK AY (AB 5) (AB 6))) (fun s H fp=>⟨(Ad 0 IF),Bz,(AK AY (AB 0) AE)⟩)) (AZ Am (Bs (AA AE AD)) (AK AY (AK AY (AB 0) AE) AE)))))) (AI (AS LJ)) Av)))
    (AF (Ah 7 (AG A5 (hr.mono (by decide)) rfl (AA (AB 0) (AA (AZ EA (AB 4) AE) (AA (AK AY (AB 2) AE) AD)))) BA.nd)
    (AF (Ah 9 (A6 A4 rfl B.tuple boot_tuple (AA (B2 [2] 1 ["_law_deed_here","_law_one"] rfl Ht (DR (AB 7)) (fun s H fp=>⟨(Ad 1 Hs),Bz,(AG Ap (hr.mono (by decide)) rfl (AA (AB 1) (AA (AK AY (AB 0) AE) AD)))⟩)) AD)) BA.nd)
    (AI (AS (AG C5 (hr.mono (by decide)) rfl (AA (AK AY (AB 5) (AK AY (AB 2) AE)) (AA (AZ Am (Ag (AA (Ag (AA AE (AA AE AD))) AD)) (AK AY (AK AY (AB 0) AE) AE)) (AA (AB 9) AD))))))))))))))
theorem C9:AR ["_law_book_here","_law_deed_here","_law_many","_law_more","_law_had"] ["_law_book_here","_law_deed_here"] (AH s_law_last_right):=⟨rfl,rfl,rfl,by decide+kernel,rfl,by decide+kernel,by decide+kernel⟩
theorem JM:Ab ["_law_book_here","_law_deed_here","_law_many","_law_more","_law_had"] (AH s_law_last_right) ["_law_deed_here","_law_one"] (ixC [1] 1) (JV s_law_last_right 0):=⟨rfl,by decide+kernel,by decide+kernel,by decide+kernel,by decide+kernel⟩
theorem JS:(["_law_deed_here","_law_one"]:List Str).Nodup:=by decide+kernel
theorem Ck  (S:St.Src K mg "_law_last_right" s_law_last_right)(B:Bts mg)(A5:FK P w K mg base)(CF:HM P w K mg base)(Ap:EV P w K mg base)(Bv:Io P w K mg base):HZ P w K mg base:=by
 refine Ac (k:=10) S C9 rfl (fun f fd F=>F.binds fun _ _ _ _ _ _ us hl=>match us,hl with| [_,_],_=>rfl) fun f cdv A outer s H E hr=>?_
 have hu:=AU hr
 exact(AF (Ah 2 (Ax Be rfl B.len boot_len (AA (AK AY (AB 0) AE) AD)) C9.nd)
    (AF (Ah 3 (AG Bv (hr.mono (by decide)) rfl (AA (AB 0) (AA (AB 2) (AA (AB 1) AD)))) C9.nd)
    (AF (Ah 4 (AG A5 (hr.mono (by decide)) rfl (AA (AB 0) (AA (AB 2) (AA (AK AY (AB 1) AE) AD)))) C9.nd)
    (AI (AS (HV (B6 hu) (AK AY (AG CF (hr.mono (by decide)) rfl (AA (AB 3) (AA (AB 2) AD))) (AK AY (AB 1) AE)) (A6 A4 rfl B.tuple boot_tuple (AA (B2 [1] 1 ["_law_deed_here","_law_one"] rfl JM (DR (AB 4)) (fun s H fp=>⟨(Ad 1 JS),Bz,(AG Ap (hr.mono (by decide)) rfl (AA (AB 1) (AA (AK AY (AB 0) AE) AD)))⟩)) AD))))))))
theorem BW:AR ["_law_book_here","_law_at","_law_deed_here","_law_halves","_law_first_here","_law_second","_law_both","_law_two","_law_one","_law_partner"] ["_law_book_here","_law_at","_law_deed_here","_law_halves"] (AH s_law_split_right):=⟨rfl,rfl,rfl,by decide+kernel,rfl,by decide+kernel,by decide+kernel⟩
theorem CT  (S:St.Src K mg "_law_split_right" s_law_split_right)(B:Bts mg)(A5:FK P w K mg base)(Bv:Io P w K mg base):GZ P w K mg base:=by
 refine Ac (k:=10) S BW rfl (fun f fd F=>F.binds fun _ _ _ _ _ _ us hl=>match us,hl with| [_,_,_,_],_=>rfl) fun f cdv A outer s H E hr=>?_
 have hu:=AU hr
 exact(AF (Er (AB 3) (Dt rfl (AN (Ad 4 BW.nd) (AN (Ad 5 BW.nd) (AN (Ad 6 BW.nd) BN)))))
    (AF (Ah 7 (AG Bv (hr.mono (by decide)) rfl (AA (AG Bv (hr.mono (by decide)) rfl (AA (AB 0) (AA (AB 1) (AA (AZ Ae (HA (AB 2) AE) (Ag (AA (AB 5) AD))) AD)))) (AA (AB 1) (AA (AZ Ae (HA (AB 2) AE) (Ag (AA (AB 4) AD))) AD)))) BW.nd)
    (AF (Ah 8 (AG Bv (hr.mono (by decide)) rfl (AA (AB 0) (AA (AB 1) (AA (AZ Ae (HA (AB 2) AE) (Ag (AA (AB 6) AD))) AD)))) BW.nd)
    (AF (FI PassesOwn.never rfl (EB rfl B.range (AA (AK AY (AK AY (AB 0) AE) AE) AD)) (Ad 9 BW.nd) (AI (B7 (An (HS hu) (AG A5 (hr.mono (by decide)) rfl (AA (AB 7) (AA (Ax Be rfl B.len boot_len (AA (AK AY (AB 7) AE) AD)) (AA (AB 9) AD)))) (AG A5 (hr.mono (by decide)) rfl (AA (AB 8) (AA (Ax Be rfl B.len boot_len (AA (AK AY (AB 8) AE) AD)) (AA (AB 9) AD))))) (AI (AS LJ)) Av)))
    (AI (AS LJ))))))
end
section
open PyProof.Rows (boot_isinstance boot_int boot_bool boot_tuple boot_str boot_list boot_abs boot_all boot_any boot_sum boot_max boot_min boot_range boot_enumerate boot_zip boot_sorted boot_set boot_divmod)
variable{P:Program}{w:World}{K:PySem.W.Frag}{mg:Str->Option Value}{base:Heap}
theorem DM:AR ["_law_script","_law_k","_law_pen_here","_law_book_here","_law_many","_law_turn_here","_law_partner","_law_other","_law_deed_here","_law_at","_law_ways"] ["_law_script"] (AH s_p_law):=⟨rfl,rfl,rfl,by decide+kernel,rfl,by decide+kernel,by decide+kernel⟩
end
theorem nr{α:Sort _}{a b:α}(h:a=b):a=b:=h
@[simp high] theorem Eb{α β:Type}(a:α)(f:α->Option β):(some a).bind f=f a:=Eq.mp (congrArg (fun z=>z=f a) rfl) (Eq.refl (f a))
@[simp high] theorem gH{α β:Type}(a:α)(f:α->β):(some a).map f=some (f a):=Eq.mp (congrArg (fun z=>z=some (f a)) rfl) (Eq.refl (some (f a)))
section
variable{E:En}{S:Sto}{op:OpN}{f g c:Ev}{d:D}{i:Nat}{w:Wv}{a b e h r':D}{r:List D}{fs:List Ev}
@[simp] theorem jT{o:Option D}{E:En}:at? (o::E) 0=o:=nr rfl
@[simp] theorem jW{o:Option D}{E:En}{i:Nat}:at? (o::E) (i+1)=at? E i:=nr rfl
@[simp] theorem gR:eC d E S=some (d,S):=nr rfl
@[simp] theorem hV:eV i E S=(at? E i).map fun d=>(d,S):=nr rfl
@[simp] theorem YU:evs [] E S=some ([],S):=nr rfl
@[simp] theorem Jm:evs (f::fs) E S=(f E S).bind fun r=>(evs fs E r.2).map fun q=>(r.1::q.1,q.2):=nr rfl
@[simp] theorem fE{cf:Bool}:Ql cf op fs E S=(evs fs E S).bind fun r=>(op (r.1.map (dr r.2))).bind fun w=>fin cf w r.2:=nr rfl
@[simp] theorem iZ{cf:Bool}:fin cf (.val d) S=some (d,S):=by cases cf<;>rfl
@[simp] theorem jC:fin false (.own r) S=some (.lst r,S):=nr rfl
@[simp] theorem jL:fin true (.own r) S=some (.ref S.length,S++[.lst r]):=nr rfl
@[simp] theorem gu:dr S .non=.val .non:=nr rfl
@[simp] theorem jA{b:Bool}:dr S (.bl b)=.val (.bl b):=nr rfl
@[simp] theorem gS{i:Int}:dr S (.int i)=.val (.int i):=nr rfl
@[simp] theorem gq{x:Str}:dr S (.str x)=.val (.str x):=nr rfl
@[simp] theorem iJ{x:String}:dr S (.ty x)=.val (.ty x):=nr rfl
@[simp] theorem iE:dr S (.tup r)=.val (.tup r):=nr rfl
@[simp] theorem gw:dr S (.lst r)=.val (.lst r):=nr rfl
@[simp] theorem iB{ns:List Int}:dr S (.scr ns)=.val (.scr ns):=nr rfl
theorem BE{n:Nat}(h:S[n]?=some (.lst r)):dr S (.ref n)=.own r:=by
 show(match S[n]? with|some (.lst ds)=>Wv.own ds|_=>.val (.ref n))=_
 rw[h]
theorem Aa{n:Nat}(h:S[n]?=some (.lst r)):E5 S n=some r:=by
 unfold E5
 rw[h]
@[simp] theorem gy{f:Op1}:o1 f [w]=f w:=nr rfl
@[simp] theorem gU{f:Op2}{w':Wv}:o2 f [w,w']=f w w':=nr rfl
@[simp] theorem YH:fz (.val d)=d:=nr rfl
noncomputable def eY(g:Ev)(E:En)(r:D×Sto):Option (D×Sto):=match r.1 with| .bl true=>g E r.2| .bl false=>some (.bl false,r.2)|_=>none
noncomputable def orK(g:Ev)(E:En)(r:D×Sto):Option (D×Sto):=match r.1 with| .bl false=>g E r.2| .bl true=>some (.bl true,r.2)|_=>none
noncomputable def gY(r:D×Sto):Option (D×Sto):=match r.1 with| .bl b=>some (.bl (!b),r.2)|_=>none
noncomputable def ifK(f g:Ev)(E:En)(r:D×Sto):Option (D×Sto):=match r.1 with| .bl true=>f E r.2| .bl false=>g E r.2|_=>none
@[simp] theorem iA:eY g E (.bl true,S)=g E S:=nr rfl
@[simp] theorem gP:eY g E (.bl false,S)=some (.bl false,S):=nr rfl
@[simp] theorem jG:orK g E (.bl false,S)=g E S:=nr rfl
@[simp] theorem iX:orK g E (.bl true,S)=some (.bl true,S):=nr rfl
@[simp] theorem gW{b:Bool}:gY (.bl b,S)=some (.bl (!b),S):=nr rfl
@[simp] theorem iL:ifK f g E (.bl true,S)=f E S:=nr rfl
@[simp] theorem iT:ifK f g E (.bl false,S)=g E S:=nr rfl
@[simp] theorem cT:Ko f g E S=(f E S).bind (eY g E):=nr rfl
@[simp] theorem Qh:eOr f g E S=(f E S).bind (orK g E):=nr rfl
@[simp] theorem dg:Qa f E S=(f E S).bind gY:=nr rfl
@[simp] theorem dw:eIf c f g E S=(c E S).bind (ifK f g E):=nr rfl
@[simp] theorem cw:Bc fs E S=(evs fs E S).bind fun r=>if r.1.length≤sizeLine then some (.tup r.1,r.2)else none:=nr rfl
@[simp] theorem dc{cf:Bool}:WR cf fs E S=(evs fs E S).bind fun r=>if r.1.length≤sizeLine then fin cf (.own r.1) r.2 else none:=nr rfl
@[simp] theorem bZ{F:Fn}:AJ F fs E S=(evs fs E S).bind fun r=>F r.1 r.2:=nr rfl
noncomputable def gv(op:Mo)(fs:List Ev)(E:En)(r:D×Sto):Option (D×Sto):=match r.1 with
 | .ref n=>(E5 r.2 n).bind fun _=>(evs fs E r.2).bind fun p=>(E5 p.2 n).bind fun ds=>(op p.2 ds p.1).map fun q=>(q.1,p.2.set n (.lst q.2))
 |_=>none
@[simp] theorem dX{op:Mo}{n:Nat}:gv op fs E (.ref n,S)=(E5 S n).bind fun _=>(evs fs E S).bind fun p=>(E5 p.2 n).bind fun ds=>(op p.2 ds p.1).map fun q=>(q.1,p.2.set n (.lst q.2)):=nr rfl
@[simp] theorem dI{op:Mo}:O3 op f fs E S=(f E S).bind (gv op fs E):=nr rfl
@[simp] theorem dN:QD S r [d]=if r.length<sizeLine then some (.non,r++[d])else none:=nr rfl
variable{x y:Ex}
noncomputable def bF(y:Ex)(r:Fl×En×Sto):Option (Fl×En×Sto):=match r.1 with| .nx=>y r.2.1 r.2.2| .ret w=>some (.ret w,r.2)
noncomputable def fv(x y:Ex)(E:En)(r:D×Sto):Option (Fl×En×Sto):=match r.1 with| .bl true=>x E r.2| .bl false=>y E r.2|_=>none
@[simp] theorem Y5:bF y (.nx,E,S)=y E S:=nr rfl
@[simp] theorem cJ{w:D}:bF y (.ret w,E,S)=some (.ret w,E,S):=nr rfl
@[simp] theorem iF:fv x y E (.bl true,S)=x E S:=nr rfl
@[simp] theorem gk:fv x y E (.bl false,S)=y E S:=nr rfl
@[simp] theorem cu:Af x y E S=(x E S).bind (bF y):=nr rfl
@[simp] theorem dR:Dw E S=some (.nx,E,S):=nr rfl
@[simp] theorem QZ:xIf c x y E S=(c E S).bind (fv x y E):=nr rfl
@[simp] theorem c9:BR f E S=(f E S).map fun r=>(.ret r.1,E,r.2):=nr rfl
@[simp] theorem di:Bp i f E S=(f E S).map fun r=>(.nx,E.set i (some r.1),r.2):=nr rfl
@[simp] theorem bX:EO f E S=(f E S).map fun r=>(.nx,E,r.2):=nr rfl
noncomputable def gz(d b:D)(E:En)(i:D×Sto):Option (Fl×En×Sto):=match b,i.1 with
 | .ref n,.int j=>(E5 i.2 n).bind fun ds=>(ixN ds.length j).map fun m=>(.nx,E,i.2.set n (.lst (ds.set m d)))
 |_,_=>none
@[simp] theorem cS{n:Nat}{j:Int}:gz d (.ref n) E (.int j,S)=(E5 S n).bind fun ds=>(ixN ds.length j).map fun m=>(.nx,E,S.set n (.lst (ds.set m d))):=nr rfl
@[simp] theorem dB{k o:Ev}:Mn k f o E S=(k E S).bind fun r=>(f E r.2).bind fun b=>(o E b.2).bind (gz r.1 b.1 E):=nr rfl
@[simp] theorem dk{t:Tf}:Nr t f E S=(f E S).bind fun r=>(t r.1 E r.2).map fun E'=>(.nx,E',r.2):=nr rfl
@[simp] theorem dD{i j:Nat}:PV i j f g E S=(f E S).bind fun r=>(g E r.2).map fun q=>(.nx,(E.set i (some r.1)).set j (some q.1),q.2):=by
  unfold PV
  rw[Jm]
  cases f E S with
  |none=>rfl
  | some r =>
    rw[Eb,Eb,Jm]
    cases g E r.2 with
    |none=>rfl
    |some q=>rfl
@[simp] theorem ZD:tNm i d E S=some (E.set i (some d)):=nr rfl
@[simp] theorem gJ{ts:List Tf}{ds:List D}:tTp ts (.tup ds) E S=tMs ts ds E S:=nr rfl
@[simp] theorem eA{ts:List Tf}{ds:List D}:tTp ts (.lst ds) E S=tMs ts ds E S:=nr rfl
@[simp] theorem fe{ts:List Tf}{n:Nat}:tTp ts (.ref n) E S=(E5 S n).bind fun ds=>tMs ts ds E S:=nr rfl
@[simp] theorem eX:tMs [] [] E S=some E:=nr rfl
@[simp] theorem dH{t:Tf}{ts:List Tf}{ds:List D}:tMs (t::ts) (d::ds) E S=(t d E S).bind fun E1=>tMs ts ds E1 S:=nr rfl
@[simp] theorem aV{N:Nat}{ds:List D}:A1 (A3 N x) ds S=(x (ds.map some++List.replicate (N-ds.length) none) S).map fun r=>(flD r.1,r.2.2):=by rw[T4];rfl
@[simp] theorem gT:flD .nx=.non:=nr rfl
@[simp] theorem eO:flD (.ret d)=d:=nr rfl
@[simp] theorem fA{i j:Int}:Cv (.val (.int i)) (.val (.int j))=some (.val (.int (i+j))):=nr rfl
@[simp] theorem fH{xs ys:List D}:Cv (.val (.tup xs)) (.val (.tup ys))=if xs.length+ys.length≤sizeLine then some (.val (.tup (xs++ys)))else none:=nr rfl
@[simp] theorem fB{xs ys:List D}:Cv (.val (.lst xs)) (.val (.lst ys))=if xs.length+ys.length≤sizeLine then some (.own (xs++ys))else none:=nr rfl
@[simp] theorem cY{i j:Int}:Bx (.val (.int i)) (.val (.int j))=if Ds i j=true then some (.val (.int (i*j)))else none:=nr rfl
@[simp] theorem RD{k:Int}:Bx (.val (.tup r)) (.val (.int k))=if(!r.isEmpty && decide (k≤0) && decide (-(2^63)≤k))=true then some (.val (.tup []))else if(!r.isEmpty && decide (1≤k) && decide (r.length*k.toNat≤sizeLine))=true then some (.val (.tup (List.replicate k.toNat r).flatten))else none:=nr rfl
@[simp] theorem KD{k:Int}:Bx (.val (.lst r)) (.val (.int k))=if(decide (k<2^63) && decide (-(2^63)≤k) && decide (r.length*k.toNat≤sizeLine))=true then some (.own (List.replicate k.toNat r).flatten)else none:=nr rfl
@[simp] theorem fT:asS (.own r)=some r:=nr rfl
@[simp] theorem fU:asS (.val (.lst r))=some r:=nr rfl
@[simp] theorem eI:asS (.val (.tup r))=some r:=nr rfl
@[simp] theorem fF{ns:List Int}:asS (.val (.scr ns))=some (ns.map .int):=nr rfl
@[simp] theorem TY{j:Int}:wIx w (.val (.int j))=(asS w).bind fun ds=>(atI ds j).map .val:=nr rfl
theorem Cb{α:Type}{xs:List α}{n:Nat}{x:α}(h:xs[n]?=some x):atI xs (n:Int)=some x:=ZC h
theorem YG{α:Type}{xs:List α}{i:Int}(h0:0≤i)(h1:i<xs.length):atI xs i=some (xs[i.toNat]'(by omega)):=by
 have:atI xs ((i.toNat:Nat):Int)=some (xs[i.toNat]'(by omega)):=Cb (List.getElem?_eq_getElem (by omega))
 rwa [Int.toNat_of_nonneg h0]at this
@[simp] theorem i0:atI (a::r) 0=some a:=Cb (n:=0) rfl
@[simp] theorem ij:atI (a::b::r) 1=some b:=Cb (n:=1) rfl
@[simp] theorem ik:atI (a::b::e::r) 2=some e:=Cb (n:=2) rfl
@[simp] theorem iz:atI (a::b::e::h::r) 3=some h:=Cb (n:=3) rfl
@[simp] theorem iW{k:D}:atI (a::b::e::h::k::r) 4=some k:=Cb (n:=4) rfl
theorem L6{n k:Nat}(h:k<n):ixN n (k:Int)=some k:=by
 unfold ixN
 simp
 omega
theorem Rj{n:Nat}{i:Int}(h0:0≤i)(h1:i<n):ixN n i=some i.toNat:=by
 have:=L6 (n:=n) (k:=i.toNat) (by omega)
 rwa [Int.toNat_of_nonneg h0]at this
@[simp] theorem iR{n:Nat}:ixN (n+1) 0=some 0:=Rj (by decide) (by omega)
@[simp] theorem ir{n:Nat}:ixN (n+2) 1=some 1:=Rj (by decide) (by omega)
@[simp] theorem iG{n:Nat}:ixN (n+3) 2=some 2:=Rj (by decide) (by omega)
@[simp] theorem gL{i j:Int}:deq (.int i) (.int j)=(i==j):=nr rfl
@[simp] theorem fg{i j:Int}:Dx (.int i) (.int j)=true:=nr rfl
@[simp] theorem gG{w':Wv}:wEq w w'=if Dx (fz w) (fz w')=true then some (.val (.bl (deq (fz w) (fz w'))))else none:=nr rfl
@[simp] theorem Uh{w':Wv}:wNe w w'=if Dx (fz w) (fz w')=true then some (.val (.bl (!deq (fz w) (fz w'))))else none:=nr rfl
@[simp] theorem fZ{i j:Int}:wLt (.val (.int i)) (.val (.int j))=some (.val (.bl (decide (i<j)))):=nr rfl
@[simp] theorem eD{i j:Int}:wLe (.val (.int i)) (.val (.int j))=some (.val (.bl (decide (i≤j)))):=nr rfl
@[simp] theorem fN{i j:Int}:wGt (.val (.int i)) (.val (.int j))=some (.val (.bl (decide (j<i)))):=nr rfl
@[simp] theorem eK{i j:Int}:wGe (.val (.int i)) (.val (.int j))=some (.val (.bl (decide (j≤i)))):=nr rfl
@[simp] theorem cN{i j:Int}:NH (.val (.int i)) (.val (.int j))=some (.val (.int (i-j))):=nr rfl
@[simp] theorem cQ{i:Int}:YB (.val (.int i))=some (.val (.int (-i))):=nr rfl
@[simp] theorem cm{i j:Int}:O4 (.val (.int i)) (.val (.int j))=(if 0<j then some (.val (.int (i % j)))else none):=by
 show Option.map Wv.val (if 0<j then some (D.int (i % j))else none)=_
 split<;>rfl
@[simp] theorem bG{i j:Int}:Ox (.val (.int i)) (.val (.int j))=(if(decide (0<j) && decide (j.natAbs<F7))=true then some (.val (.int (i / j)))else none):=by
 show Option.map Wv.val (if(decide (0<j) && decide (j.natAbs<F7))=true then some (D.int (i / j))else none)=_
 split<;>rfl
@[simp] theorem dj{i j:Int}:dM (.val (.int i)) (.val (.int j))=if(decide (0≤j) && decide (j≤1000) && decide (i.natAbs<2^64))=true then some (.val (.int (i^j.toNat)))else none:=by
 show Option.map Wv.val (if(decide (0≤j) && decide (j≤1000) && decide (i.natAbs<2^64))=true then some (D.int (i^j.toNat))else none)=_
 split<;>rfl
@[simp] theorem cR{i:Int}:Zo (.val (.int i))=some (.val (.int (i.natAbs:Int))):=by
 show some (Wv.val (D.int (if i<0 then-i else i)))=_
 congr 3
 split<;>omega
@[simp] theorem XR:Hj (.val (.lst r))=some (.val (.int r.length)):=nr rfl
@[simp] theorem da:Hj (.val (.tup r))=some (.val (.int r.length)):=nr rfl
@[simp] theorem dO{ns:List Int}:Hj (.val (.scr ns))=some (.val (.int ns.length)):=by
 show some (Wv.val (D.int ((ns.map D.int).length:Nat)))=_
 rw[List.length_map]
@[simp] theorem Zq:C7 w=(asS w).map fun ds=>.val (.tup ds):=nr rfl
@[simp] theorem Zz:QB w=(asS w).map fun ds=>.own ds:=nr rfl
@[simp] theorem gc{b:Bool}:Yy (.val (.bl b))=some (.val (.int (if b then 1 else 0))):=nr rfl
@[simp] theorem cP{i j:Int}:cn (.val (.int i)) (.val (.int j))=some (.val (.int (if j>i then j else i))):=nr rfl
@[simp] theorem ck{i j:Int}:Zm (.val (.int i)) (.val (.int j))=some (.val (.int (if j<i then j else i))):=nr rfl
@[simp] theorem cg{T:String}:bV w (.val (.ty T))=if SI T=true then(kdW w).map fun k=>.val (.bl (k.isA T))else none:=nr rfl
@[simp] theorem fG:SI "int"=true:=by decide
@[simp] theorem c8:SI "bool"=true:=by decide
theorem AW{n:Nat}(h:n≤1000):n≤sizeLine:=Nat.le_trans h (by decide)
@[simp] theorem sz1:(1:Nat)≤sizeLine:=AW (by decide)
@[simp] theorem sz2:(2:Nat)≤sizeLine:=AW (by decide)
@[simp] theorem sz3:(3:Nat)≤sizeLine:=AW (by decide)
@[simp] theorem sz4:(4:Nat)≤sizeLine:=AW (by decide)
@[simp] theorem sz5:(5:Nat)≤sizeLine:=AW (by decide)
@[simp] theorem sz6:(6:Nat)≤sizeLine:=AW (by decide)
@[simp] theorem Ge:B3 E S=some (.bl true,S):=nr rfl
@[simp] theorem dU{s:Sr}{t:Tf}{b:Ex}:Mp s t b E S=(s E S).bind fun r=>NN r.1.2 t b r.1.1 E r.2:=nr rfl
@[simp] theorem Al:gOk [] S:=fun _ h=>(nomatch h)
theorem N7{gs:Gd}{t:Tf}{b:Ex}(h:gOk gs S):NN gs t b [] E S=some (.nx,E,S):=by
 unfold NN
 rw[if_pos h]
theorem Uv{gs:Gd}{t:Tf}{b:Ex}{ds:List D}(h:gOk gs S):NN gs t b (d::ds) E S=(t d E S).bind fun E1=>(b E1 S).bind fun r=>match r.1 with
  | .nx=>NN gs t b ds r.2.1 r.2.2
  | .ret w=>some (.ret w,r.2):=by
 rw[NN,if_pos h]
 all_goals rfl
theorem Kn{gs:Gd}{t:Tf}{b:Ex}{ds:List D}(h:gOk gs S):NN gs t b (d::ds) E S=(t d E S).bind fun E1=>(b E1 S).bind (bF (NN gs t b ds)):=by
 rw[Uv h]
 rfl
@[simp] theorem cW:JR f E S=(f E S).bind fun r=>(sqD r.2 r.1).map fun p=>(p,r.2):=nr rfl
@[simp] theorem eL:sqD S (.tup r)=some (r,[]):=nr rfl
@[simp] theorem eE:sqD S (.lst r)=some (r,[]):=nr rfl
theorem IZ{n:Nat}(h:S[n]?=some (.lst r)):sqD S (.ref n)=some (r,[(n,r)]):=by
 show(E5 S n).map (fun ds=>(ds,[(n,ds)]))=_
 rw[Aa h]
 rfl
@[simp] theorem cM:ao f E S=(f E S).bind fun r=>(sqD r.2 r.1).map fun p=>((QW 0 p.1,p.2),r.2):=nr rfl
@[simp] theorem dE:Ub f g E S=(f E S).bind fun r=>(g E r.2).bind fun q=>(sqD q.2 r.1).bind fun a=>(sqD q.2 q.1).map fun b=>((Ml a.1 b.1,a.2++b.2),q.2):=by
  unfold Ub
  rw[Jm]
  cases f E S with
  |none=>rfl
  | some r =>
    rw[Eb,Eb,Jm]
    cases g E r.2 with
    |none=>rfl
    |some q=>rfl
noncomputable def Hx(j:Int):Bool:=decide (-(2^62)≤j) && decide (j<2^62)
theorem Dc{j:Int}(h: -1000000≤j)(g:j≤1000000):Hx j=true:=by
 unfold Hx
 rw[Bool.and_eq_true]
 exact⟨decide_eq_true (by omega),decide_eq_true (by omega)⟩
noncomputable def gg(S:Sto):D->Option ((List D×Gd)×Sto)
 | .int j=>if Hx j=true then some ((LM 0 j.toNat,[]),S)else none
 |_=>none
@[simp] theorem dP{j:Int}:gg S (.int j)=if Hx j=true then some ((LM 0 j.toNat,[]),S)else none:=nr rfl
@[simp] theorem dS:Mq [f] E S=(f E S).bind fun r=>gg r.2 r.1:=by
  unfold Mq
  rw[Jm]
  cases f E S with
  |none=>rfl
  | some r =>
    obtain⟨d,S1⟩:=r
    rw[Eb,YU,gH,Eb,Eb]
    cases d<;>rfl
@[simp] theorem Z0{cf:Bool}{cap:List Nat}{m:Nat}{s:Sr}{t:Tf}:NJ cf cap m s t c f E S=(s E S).bind fun r=>(CM r.1.2 t c f r.1.1 [] (UE cap m E) r.2).bind fun q=>fin cf (.own q.1) q.2:=nr rfl
@[simp] theorem dZ{cap:List Nat}{m:Nat}:UE cap m E=cap.map (at? E)++List.replicate m none:=nr rfl
@[simp] theorem Ru{i:Int}:LG (.int i::r)=(LG r).map fun ns=>i::ns:=by
 unfold LG
 rw[List.mapM_cons]
 show(do let r1←some i;let rs←List.mapM intD r;pure (r1::rs))=_
 cases List.mapM intD r<;>rfl
theorem GY:∀(ns:List Int),LG (ns.map D.int)=some ns
 | []=>rfl
 |n::ns=>by rw[List.map_cons,Ru,GY ns];rfl
@[simp] theorem cZ:WE (.own r)=(LG r).map fun ns=>.val (.int ns.sum):=nr rfl
@[simp] theorem dF:WE (.val (.lst r))=(LG r).map fun ns=>.val (.int ns.sum):=nr rfl
@[simp] theorem gO:dC true w (.val .non)=some (.val (.bl (!isN w))):=nr rfl
@[simp] theorem iM{i:Int}{w:Wv}:Ik true false [w,.val (.int i)]=wSl (some i) none w:=nr rfl
@[simp] theorem ia{i:Int}{w:Wv}:Ik false true [w,.val (.int i)]=wSl none (some i) w:=nr rfl
@[simp] theorem iV{i j:Int}{w:Wv}:Ik true true [w,.val (.int i),.val (.int j)]=wSl (some i) (some j) w:=nr rfl
@[simp] theorem fO{lo hi:Option Int}:wSl lo hi (.val (.tup r))=some (.val (.tup (KU r lo hi))):=nr rfl
end
structure Ci(A:List Nat)(S S':Sto):Prop where
 len:S.length≤S'.length
 keep:∀n,n<S.length->n∉A->S'[n]?=S[n]?
theorem Ci.refl{A:List Nat}{S:Sto}:Ci A S S:=⟨Nat.le_refl _,fun _ _ _=>rfl⟩
theorem Ci.trans{A:List Nat}{S S' S2:Sto}(h:Ci A S S')(g:Ci A S' S2):Ci A S S2:=⟨Nat.le_trans h.len g.len,fun n hn ha=>(g.keep n (Nat.lt_of_lt_of_le hn h.len) ha).trans (h.keep n hn ha)⟩
theorem Ci.mono{A B:List Nat}{S S':Sto}(h:Ci A S S')(s:∀n∈A,n∈B):Ci B S S':=⟨h.len,fun n hn hb=>h.keep n hn fun z=>hb (s n z)⟩
theorem Ci.get{A:List Nat}{S S':Sto}(h:Ci A S S'){n:Nat}{c:Cl}(e:S[n]?=some c)(ha:n∉A):S'[n]?=some c:=by
 rw[h.keep n (List.getElem?_eq_some_iff.mp e).1 ha];exact e
theorem Ci.app{A:List Nat}{S T:Sto}:Ci A S (S++T):=⟨by simp,fun n hn _=>List.getElem?_append_left hn⟩
theorem Ci.set{A:List Nat}{S:Sto}{n:Nat}{c:Cl}(h:n∈A):Ci A S (S.set n c):=⟨by simp,fun m hm ha=>List.getElem?_set_ne (fun z=>ha (by rw[←z];exact h))⟩
theorem Ci.new{A:List Nat}{S S' S2:Sto}(h:Ci A S S')(g:Ci (A++B) S' S2)(hb:∀n∈B,S.length≤n):Ci A S S2:=⟨Nat.le_trans h.len g.len,fun n hn ha=>(g.keep n (Nat.lt_of_lt_of_le hn h.len) (fun z=>by
 rcases List.mem_append.mp z with z|z
 ·exact ha z
 ·have:=hb n z;omega)).trans (h.keep n hn ha)⟩
theorem A7{S:Sto}{n:Nat}{c:Cl}(h:S[n]?=some c):n<S.length:=(List.getElem?_eq_some_iff.mp h).1
section
theorem mulL{i j:Int}(h: -18446744073709551616<i)(g:i<18446744073709551616):Ds i j=true:=by
 unfold Ds
 rw[Bool.or_eq_true]
 exact .inl (decide_eq_true (by omega))
theorem mulR{i j:Int}(h: -18446744073709551616<j)(g:j<18446744073709551616):Ds i j=true:=by
 unfold Ds
 rw[Bool.or_eq_true,Bool.or_eq_true]
 exact .inr (.inl (decide_eq_true (by omega)))
theorem DY{n k:Nat}(h:n<2^k)(hk:k≤8000):n<F7:=Nat.lt_of_lt_of_le h (Nat.pow_le_pow_right (by decide) hk)
theorem Eg{n:Int}(h0:0<n)(h1:n<1152921504606846976):n.natAbs<F7:=DY (k:=60) (show n.natAbs<2^60 by omega) (by decide)
variable{S:Sto}
noncomputable def QR(a b:Int):Int:=((Nat.gcd a.natAbs b.natAbs:Nat):Int)
theorem Lb{c:Ev}{b:Ex}{k:Nat}{E:En}:IP c b (k+1) E S=(c E S).bind fun r=>match r.1 with
    | .bl true=>(b E r.2).bind fun p=>match p.1 with
      | .nx=>IP c b k p.2.1 p.2.2
      | .ret w=>some (.ret w,p.2)
    | .bl false=>some (.nx,E,r.2)
    |_=>none:=rfl
theorem RC{c:Ev}{b:Ex}{k:Nat}{E E2:En}{S1 S2:Sto}(e1:c E S=some (.bl true,S1))(e2:b E S1=some (.nx,E2,S2)):IP c b (k+1) E S=IP c b k E2 S2:=by
 rw[Lb,e1]
 show(b E S1).bind _=_
 rw[e2]
 rfl
theorem Q3{c:Ev}{b:Ex}{k:Nat}{E:En}{S1:Sto}(e1:c E S=some (.bl false,S1)):IP c b (k+1) E S=some (.nx,E,S1):=by
 rw[Lb,e1]
 rfl
theorem RM:∀(k:Nat) (x y:Nat),y<k->IP (eOp (o2 wNe) [(eV 1),(eC (.int 0))]) (PV 0 1 (eV 1) (eOp (o2 O4) [(eV 0),(eV 1)])) k [some (.int x),some (.int y)] S=some (.nx,[some (.int (Nat.gcd x y:Nat)),some (.int 0)],S)
  |0,x,y,h=>absurd h (Nat.not_lt_zero _)
  | k + 1, x, y, h => by
    by_cases hy:y=0
    · subst hy
      rw[Q3 (S1:=S) (by simp)]
      simp
    · have hy2 : (((y : Nat) : Int) == 0) = false := by simpa using hy
      have ih:=RM k y (x % y) (by have:=Nat.mod_lt x (Nat.pos_of_ne_zero hy);omega)
      rw[show((x % y:Nat):Int)=(x:Int) % (y:Int) by omega]at ih
      have hy4:0<y:=Nat.pos_of_ne_zero hy
      rw[RC (S1:=S) (S2:=S) (E2:=[some (.int y),some (.int ((x:Int) % (y:Int)))]) (by simp[hy2]) (by simp[hy4]),ih]
      rw[Nat.gcd_comm x y,Nat.gcd_rec y x,Nat.gcd_comm]
theorem bc(a b:Int):CN [.int a,.int b] S=some (.int (QR a b),S):=by
 have:=RM (S:=S) (b.natAbs+2) a.natAbs b.natAbs (by omega)
 simp[CN,FE,Ph,Rp,this,QR]
theorem L3:∀(k:Nat) (x y:Nat),y<k->IP (eOp (o2 wGt) [(eV 1),(eC (.int 0))]) (PV 0 1 (eV 1) (eOp (o2 O4) [(eV 0),(eV 1)])) k [some (.int x),some (.int y)] S=some (.nx,[some (.int (Nat.gcd x y:Nat)),some (.int 0)],S)
  |0,x,y,h=>absurd h (Nat.not_lt_zero _)
  | k + 1, x, y, h => by
    by_cases hy:y=0
    · subst hy
      rw[Q3 (S1:=S) (by simp)]
      simp
    · have ih := L3 k y (x % y) (by have := Nat.mod_lt x (Nat.pos_of_ne_zero hy); omega)
      rw[show((x % y:Nat):Int)=(x:Int) % (y:Int) by omega]at ih
      have hy4:0<y:=Nat.pos_of_ne_zero hy
      rw[RC (S1:=S) (S2:=S) (E2:=[some (.int y),some (.int ((x:Int) % (y:Int)))]) (by simp[hy4]) (by simp[hy4]),ih]
      rw[Nat.gcd_comm x y,Nat.gcd_rec y x,Nat.gcd_comm]
theorem Sn(a b:Int)(ha:0≤a)(hb:0≤b):F4 [.int a,.int b] S=some (.int (QR a b),S):=by
 have:=L3 (S:=S) (b.natAbs+2) a.natAbs b.natAbs (by omega)
 have e1:((a.natAbs:Nat):Int)=a:=by omega
 have e2:((b.natAbs:Nat):Int)=b:=by omega
 rw[e1,e2]at this
 simp[F4,LF,Ph,Rp,this,QR]
noncomputable def lowP(t b:Int):Int×Int:=(t / QR t b,b / QR t b)
theorem RO{t b:Int}(h:0<b):0<QR t b:=by
 unfold QR
 have:0<Nat.gcd t.natAbs b.natAbs:=Nat.gcd_pos_of_pos_right _ (by omega)
 omega
theorem Sq{t b:Int}(h:0<b):(QR t b).natAbs≤b.natAbs:=by
 unfold QR
 have:Nat.gcd t.natAbs b.natAbs≤b.natAbs:=Nat.gcd_le_right _ (by omega)
 omega
noncomputable def amD(p:Int×Int):D:=.tup [.int p.1,.int p.2]
theorem Js{t b:Int}(h:0<b)(hb:b.natAbs<F7):DC [.int t,.int b] S=some (amD (lowP t b),S):=by
 have h1:=RO (t:=t) h
 have h2:(QR t b).natAbs<F7:=Nat.lt_of_le_of_lt (Sq h) hb
 simp[DC,NR,bc,h1,h2,amD,lowP]
theorem Vs{t b:Int}:QR (t.natAbs:Int) b=QR t b:=by
 unfold QR
 rw[Int.natAbs_natCast]
theorem Qb{t b:Int}(h:0<b)(hb:b.natAbs<F7):By [.int t,.int b] S=some (amD (lowP t b),S):=by
 have h1:=RO (t:=t) h
 have h2:(QR t b).natAbs<F7:=Nat.lt_of_le_of_lt (Sq h) hb
 have h3:=Sn (S:=S) (t.natAbs:Int) b (by omega) (by omega)
 rw[Vs]at h3
 simp[By,Nk,h3,h1,h2,amD,lowP]
noncomputable def aD(q:Rat):D:=.tup [.int q.num,.int q.den]
def Sz(k:Nat)(q:Rat):Prop:=q.num.natAbs<2^k/\q.den<2^k
theorem D7(q:Rat):(q.num:Rat) / (q.den:Rat)=q:=by
 rw[←Rat.mkRat_eq_div,Rat.mkRat_self]
theorem JJ(q:Rat):(q.den:Rat)≠0:=by
 have:=q.den_nz
 exact_mod_cast this
theorem Mj(t:Int)(n:Nat)(h:0<n):((t:Rat) / (n:Rat)).num=t / (Nat.gcd t.natAbs n:Nat)/\((t:Rat) / (n:Rat)).den=n / Nat.gcd t.natAbs n:=by
 have e:(t:Rat) / (n:Rat)=mkRat t n:=by rw[Rat.mkRat_eq_div]
 rw[e,Rat.mkRat_def,dif_neg (by omega),Rat.normalize_eq]
 exact⟨rfl,rfl⟩
theorem Jb{t b:Int}(h:0<b):amD (lowP t b)=aD ((t:Rat) / (b:Rat)):=by
 obtain⟨n,rfl⟩:∃n:Nat,b=n:=⟨b.natAbs,by omega⟩
 obtain⟨h1,h2⟩:=Mj t n (by omega)
 unfold amD aD lowP QR
 rw[show(((n:Nat):Int):Rat)=((n:Nat):Rat)from rfl,h1,h2]
 simp
theorem L5{t b:Int}{k:Nat}(h:0<b)(ht:t.natAbs<2^k)(hb:b.natAbs<2^k):Sz k ((t:Rat) / (b:Rat)):=by
 obtain⟨n,rfl⟩:∃n:Nat,b=n:=⟨b.natAbs,by omega⟩
 obtain⟨h1,h2⟩:=Mj t n (by omega)
 unfold Sz
 rw[show(((n:Nat):Int):Rat)=((n:Nat):Rat)from rfl,h1,h2]
 exact⟨Nat.lt_of_le_of_lt (Int.natAbs_ediv_le_natAbs _ _) ht,Nat.lt_of_le_of_lt (Nat.div_le_self _ _) (by simpa using hb)⟩
theorem Cq{a b j k:Nat}(ha:a<2^j)(hb:b<2^k):a*b<2^(j+k):=by
 rw[Nat.pow_add]
 exact Nat.mul_lt_mul'' ha hb
theorem HK{i j:Int}{k m:Nat}(hi:i.natAbs<2^k)(hj:j.natAbs<2^m)(h:k≤60000)(g:m≤60000):Ds i j=true:=by
 unfold Ds
 rw[Bool.or_eq_true,Bool.or_eq_true,Bool.and_eq_true]
 exact .inr (.inr ⟨decide_eq_true (Nat.lt_of_lt_of_le hi (Nat.pow_le_pow_right (by decide) h)),decide_eq_true (Nat.lt_of_lt_of_le hj (Nat.pow_le_pow_right (by decide) g))⟩)
theorem den_pos(q:Rat):0<(q.den:Int):=by have:=q.den_pos;omega
theorem Zl{x:Int}{n m:Nat}(h:x.natAbs<2^n)(g:n≤m):x.natAbs<2^m:=Nat.lt_of_lt_of_le h (Nat.pow_le_pow_right (by decide) g)
section
variable{p q:Rat}{j k:Nat}
theorem Dp(hp:Sz j p)(hq:Sz k q):(p.num*q.den+q.num*p.den).natAbs<2^(j+k+1)/\((p.den:Int)*q.den).natAbs<2^(j+k)/\(p.num*q.den-q.num*p.den).natAbs<2^(j+k+1):=by
 have a1:=Cq hp.1 hq.2
 have a2:=Cq hq.1 hp.2
 have a3:=Cq hp.2 hq.2
 rw[Nat.add_comm k j]at a2
 have e:2^(j+k+1)=2^(j+k)+2^(j+k):=by rw[Nat.pow_succ];omega
 refine⟨?_,?_,?_⟩
 ·refine Nat.lt_of_le_of_lt (Int.natAbs_add_le _ _) ?_
  rw[Int.natAbs_mul,Int.natAbs_mul,Int.natAbs_natCast,Int.natAbs_natCast,e]
  omega
 ·rw[Int.natAbs_mul,Int.natAbs_natCast,Int.natAbs_natCast];exact a3
 ·refine Nat.lt_of_le_of_lt (Int.natAbs_sub_le _ _) ?_
  rw[Int.natAbs_mul,Int.natAbs_mul,Int.natAbs_natCast,Int.natAbs_natCast,e]
  omega
theorem OM:(((p.num*q.den+q.num*p.den:Int):Rat) / (((p.den:Int)*q.den:Int):Rat))=p+q:=by
 have h1:=D7 p;have h2:=D7 q
 have d1:=JJ p;have d2:=JJ q
 push_cast
 grind
theorem RI:(((p.num*q.den-q.num*p.den:Int):Rat) / (((p.den:Int)*q.den:Int):Rat))=p-q:=by
 have h1:=D7 p;have h2:=D7 q
 have d1:=JJ p;have d2:=JJ q
 push_cast
 grind
theorem L0:(((p.num*q.num:Int):Rat) / (((p.den:Int)*q.den:Int):Rat))=p*q:=by
 have h1:=D7 p;have h2:=D7 q
 have d1:=JJ p;have d2:=JJ q
 push_cast
 grind
theorem ae(hp:Sz j p)(hq:Sz k q):Sz (j+k+1) (p+q):=by
 rw[←OM]
 have:=Dp hp hq
 exact L5 (Int.mul_pos (den_pos _) (den_pos _)) this.1 (Zl this.2.1 (by omega))
theorem bS(hp:Sz j p)(hq:Sz k q):Sz (j+k+1) (p-q):=by
 rw[←RI]
 have:=Dp hp hq
 exact L5 (Int.mul_pos (den_pos _) (den_pos _)) this.2.2 (Zl this.2.1 (by omega))
theorem Lg(hp:Sz j p)(hq:Sz k q):Sz (j+k) (p*q):=by
 rw[←L0]
 have:=Dp hp hq
 exact L5 (Int.mul_pos (den_pos _) (den_pos _)) (by rw[Int.natAbs_mul];exact Cq hp.1 hq.1) this.2.1
end
section
variable{p q:Rat}{j k:Nat}
theorem NS(hp:Sz j p)(hq:Sz k q)(hj:j+k≤7990):Ds p.num q.den=true/\Ds q.num p.den=true/\Ds p.den q.den=true/\Ds p.num q.num=true:=by
 refine⟨HK hp.1 (by simpa using hq.2) (by omega) (by omega),HK hq.1 (by simpa using hp.2) (by omega) (by omega),HK (by simpa using hp.2) (by simpa using hq.2) (by omega) (by omega),HK hp.1 hq.1 (by omega) (by omega)⟩
theorem ag(hp:Sz j p)(hq:Sz k q)(hj:j+k≤7990):HE [(aD p),(aD q)] S=some ((aD (p+q)),S):=by
 obtain⟨m1,m2,m3,m4⟩:=NS hp hq (by omega)
 have b:=Dp hp hq
 have l:=Js (S:=S) (t:=p.num*q.den+q.num*p.den) (b:=p.den*q.den) (Int.mul_pos (den_pos _) (den_pos _)) (DY b.2.1 (by omega))
 rw[Jb (Int.mul_pos (den_pos _) (den_pos _)),OM]at l
 simp only[aD]at l⊢
 simp[HE,Rk,m1,m2,m3,l]
theorem aq(hp:Sz j p)(hq:Sz k q)(hj:j+k≤7990):HP [(aD p),(aD q)] S=some ((aD (p-q)),S):=by
 obtain⟨m1,m2,m3,m4⟩:=NS hp hq (by omega)
 have b:=Dp hp hq
 have l:=Js (S:=S) (t:=p.num*q.den-q.num*p.den) (b:=p.den*q.den) (Int.mul_pos (den_pos _) (den_pos _)) (DY b.2.1 (by omega))
 rw[Jb (Int.mul_pos (den_pos _) (den_pos _)),RI]at l
 simp only[aD]at l⊢
 simp[HP,Q2,m1,m2,m3,l]
theorem YI(hp:Sz j p)(hq:Sz k q)(hj:j+k≤7990):Fq [(aD p),(aD q)] S=some ((aD (p*q)),S):=by
 obtain⟨m1,m2,m3,m4⟩:=NS hp hq (by omega)
 have b:=Dp hp hq
 have l:=Js (S:=S) (t:=p.num*q.num) (b:=p.den*q.den) (Int.mul_pos (den_pos _) (den_pos _)) (DY b.2.1 (by omega))
 rw[Jb (Int.mul_pos (den_pos _) (den_pos _)),L0]at l
 simp only[aD]at l⊢
 simp[Fq,P8,m3,m4,l]
theorem Pg(hp:Sz j p)(hq:Sz k q)(hj:j+k≤7990):Bu [(aD p),(aD q)] S=some ((aD (p+q)),S):=by
 obtain⟨m1,m2,m3,m4⟩:=NS hp hq (by omega)
 have b:=Dp hp hq
 have l:=Qb (S:=S) (t:=p.num*q.den+q.num*p.den) (b:=p.den*q.den) (Int.mul_pos (den_pos _) (den_pos _)) (DY b.2.1 (by omega))
 rw[Jb (Int.mul_pos (den_pos _) (den_pos _)),OM]at l
 simp only[aD]at l⊢
 simp[Bu,NO,m1,m2,m3,l]
theorem JO(hp:Sz j p)(hq:Sz k q)(hj:j+k≤7990):Ak [(aD p),(aD q)] S=some ((aD (p*q)),S):=by
 obtain⟨m1,m2,m3,m4⟩:=NS hp hq (by omega)
 have b:=Dp hp hq
 have l:=Qb (S:=S) (t:=p.num*q.num) (b:=p.den*q.den) (Int.mul_pos (den_pos _) (den_pos _)) (DY b.2.1 (by omega))
 rw[Jb (Int.mul_pos (den_pos _) (den_pos _)),L0]at l
 simp only[aD]at l⊢
 simp[Ak,L9,m3,m4,l]
theorem cI:aD (-q)=.tup [.int (0-q.num),.int q.den]:=by
 unfold aD
 rw[show(-q).num=0-q.num by simp,show(-q).den=q.den by simp]
theorem Z3(hq:Sz k q):Sz k (-q):=by
 unfold Sz
 rw[show(-q).num= -q.num by simp,show(-q).den=q.den by simp,Int.natAbs_neg]
 exact hq
theorem O9(hp:Sz j p)(hq:Sz k q)(hj:j+k≤7990):Bh [(aD p),(aD q)] S=some ((aD (p-q)),S):=by
 have l:=Pg (S:=S) hp (Z3 hq) hj
 rw[cI]at l
 rw[Rat.sub_eq_add_neg]
 simp only[aD]at l⊢
 simp at l
 simp[Bh,NQ,l]
end
theorem T6{t b:Int}(h:0<b)(hb:b.natAbs<F7):DC [(.int t),(.int b)] S=some ((aD (t / b)),S):=by
 rw[Js h hb,Jb h]
theorem WT{t b:Int}(h:0<b)(hb:b.natAbs<F7):By [(.int t),(.int b)] S=some ((aD (t / b)),S):=by
 rw[Qb h hb,Jb h]
theorem Iu{a b:Int}{k:Nat}(ha:a.natAbs<2^k)(hb:b.natAbs<2^k):(a+b).natAbs<2^(k+1):=by
 have e:2^(k+1)=2^k+2^k:=by rw[Nat.pow_succ];omega
 have:=Int.natAbs_add_le a b
 omega
theorem Jr{a b:Int}{j k:Nat}(ha:a.natAbs<2^j)(hb:b.natAbs<2^k):(a*b).natAbs<2^(j+k):=by
 rw[Int.natAbs_mul];exact Cq ha hb
theorem TZ{p q:Rat}{w m:Int}(h:0<w+m):((p.num*q.den*w+q.num*p.den*m:Int):Rat) / (((p.den:Int)*q.den*(w+m):Int):Rat)=(p*w+q*m) / (w+m):=by
 have h1:=D7 p;have h2:=D7 q
 have d1:=JJ p;have d2:=JJ q
 have d3:((w:Rat)+(m:Rat))≠0:=by
  intro e
  have:((w+m:Int):Rat)=0:=by push_cast;exact e
  have:=Rat.intCast_eq_zero_iff.mp this
  omega
 push_cast
 grind
section
variable{p q:Rat}{w m:Int}{j k n:Nat}
theorem Vi(hp:Sz j p)(hq:Sz k q)(hw:w.natAbs<2^n)(hm:m.natAbs<2^n):(p.num*q.den*w+q.num*p.den*m).natAbs<2^(j+k+n+1)/\((p.den:Int)*q.den*(w+m)).natAbs<2^(j+k+(n+1)):=by
 have d1:((p.den:Int)).natAbs<2^j:=by simpa using hp.2
 have d2:((q.den:Int)).natAbs<2^k:=by simpa using hq.2
 refine⟨Iu (Jr (Jr hp.1 d2) hw) ?_,Jr (Jr d1 d2) (Iu hw hm)⟩
 have:=Jr (Jr hq.1 d1) hm
 rwa [Nat.add_comm k j]at this
theorem bL(hp:Sz j p)(hq:Sz k q)(hw:w.natAbs<2^n)(hm:m.natAbs<2^n)(h:0<w+m)(hj:j+k+n+1≤7990):
  IU [(aD p),(.int w),(aD q),(.int m)] S=some ((aD ((p*w+q*m) / (w+m))),S):=by
 obtain⟨m1,m2,m3,m4⟩:=NS hp hq (by omega)
 have d1:((p.den:Int)).natAbs<2^j:=by simpa using hp.2
 have d2:((q.den:Int)).natAbs<2^k:=by simpa using hq.2
 have b:=Vi hp hq hw hm
 have m5:Ds (p.num*q.den) w=true:=HK (Jr hp.1 d2) hw (by omega) (by omega)
 have m6:Ds (q.num*p.den) m=true:=HK (Jr hq.1 d1) hm (by omega) (by omega)
 have m7:Ds ((p.den:Int)*q.den) (w+m)=true:=HK (Jr d1 d2) (Iu hw hm) (by omega) (by omega)
 have l:=T6 (S:=S) (t:=p.num*q.den*w+q.num*p.den*m) (b:=p.den*q.den*(w+m)) (Int.mul_pos (Int.mul_pos (den_pos _) (den_pos _)) h) (DY b.2 (by omega))
 rw[TZ h]at l
 simp only[aD]at l⊢
 simp[IU,Pe,m1,m2,m3,m5,m6,m7,l]
end
end
section
variable{S:Sto}{p:Nat}
theorem Xt{r:List D}(h:p<S.length):dr (S.set p (.lst r)) (.ref p)=.own r:=BE (List.getElem?_set_self h)
def Pen(ds:List D):Prop:=∃a b c d:Int,ds=[.int a,.int b,.int c,.int d]/\0≤d/\d<1000000007
def Dv(p:Nat)(S:Sto):Prop:=∃ds,S[p]?=some (.lst ds)/\Pen ds
structure Pn(p:Nat)(S S':Sto):Prop where
 same:Ci [p] S S'
 pen:Dv p S'
theorem Pn.trans{S S' S2:Sto}(h:Pn p S S')(g:Pn p S' S2):Pn p S S2:=⟨h.same.trans g.same,g.pen⟩
theorem Pn.get{S S':Sto}(h:Pn p S S'){n:Nat}{c:Cl}(e:S[n]?=some c)(ha:n≠p):S'[n]?=some c:=h.same.get e (by simpa using ha)
theorem Pn.refl(h:Dv p S):Pn p S S:=⟨.refl,h⟩
theorem Dv.lt(h:Dv p S):p<S.length:=by obtain⟨ds,e,_⟩:=h;exact A7 e
theorem Dv.app(h:Dv p S)(T:Sto):Dv p (S++T):=by obtain⟨ds,e,hp⟩:=h;exact⟨ds,by rw[List.getElem?_append_left (A7 e)];exact e,hp⟩
theorem Az(h:Dv p S){n:Int}(h0:0<n)(h1:n<1152921504606846976):∃r S',AL [.ref p,.int n] S=some (.int r,S')/\0≤r/\r<n/\Pn p S S':=by
 obtain⟨ds,hp,a,b,c,d,rfl,hd0,hd1⟩:=h
 have hl:=A7 hp
 have hs:=Eg h0 h1
 have hr:=BE hp
 have hc:=Aa hp
 by_cases hb:b=1/\0<a
 ·obtain⟨rfl,ha⟩:=hb
  refine⟨a % n,S.set p (.lst [.int (a / n),.int 1,.int c,.int d]),?_,Int.emod_nonneg _ (by omega),Int.emod_lt_of_pos _ h0,.set (by simp),_,List.getElem?_set_self hl,_,_,_,_,rfl,hd0,hd1⟩
  simp[AL,Ij,ha,h0,hs,hr,hc]
 ·have m1:Ds (d+17) (69621+2*(c+1))=true:=mulL (by omega) (by omega)
  have m2:Ds 2 (c+1)=true:=mulL (by decide) (by decide)
  generalize ht:(d+17)*(69621+2*(c+1)) % 2147483647=t at*
  have t0:0≤t:=by rw[←ht];exact Int.emod_nonneg _ (by decide)
  have t1:t<2147483647:=by rw[←ht];exact Int.emod_lt_of_pos _ (by decide)
  have m3:Ds t t=true:=mulL (by omega) (by omega)
  have m4:Ds 40503 (c+1)=true:=mulL (by decide) (by decide)
  generalize hu:(t*t+40503*(c+1)+5) % 2147483629=u at*
  have u0:0≤u:=by rw[←hu];exact Int.emod_nonneg _ (by decide)
  have u1:u<2147483629:=by rw[←hu];exact Int.emod_lt_of_pos _ (by decide)
  have m5:Ds u 48271=true:=mulL (by omega) (by omega)
  have d32:(32:Int).natAbs<F7:=Eg (by decide) (by decide)
  have d32':(32:Nat)<F7:=d32
  refine⟨u*48271 % 2147483647 / 32 % n,S.set p (.lst [.int a,.int b,.int (c+1),.int d]),?_,Int.emod_nonneg _ (by omega),Int.emod_lt_of_pos _ h0,.set (by simp),_,List.getElem?_set_self hl,_,_,_,_,rfl,hd0,hd1⟩
  by_cases hb1:b=1
  ·subst hb1
   have ha:¬0<a:=fun z=>hb ⟨rfl,z⟩
   simp[AL,Ij,ha,h0,hs,hr,hc,Xt,hl,m1,m2,m3,m4,m5,ht,hu,d32']
  ·have hb2:(b==1)=false:=by simpa using hb1
   simp[AL,Ij,hb2,h0,hs,hr,hc,Xt,hl,m1,m2,m3,m4,m5,ht,hu,d32']
theorem Zy(c:Int):∃p S',IC [.int c] S=some (.ref p,S')/\Dv p S'/\Ci [] S S'/\S.length≤p:=by
 refine⟨S.length,S++[.lst [.int c,.int (if(10:Int)^18≤c then 1 else 0),.int 0,.int (c % 1000000007)]],?_,⟨_,List.getElem?_concat_length,_,_,_,_,rfl,Int.emod_nonneg _ (by decide),Int.emod_lt_of_pos _ (by decide)⟩,.app,Nat.le_refl _⟩
 simp[IC,QE]
theorem Ek{gs:Gd}{t:Tf}{c f:Ev}{acc:List D}{E:En}(h:gOk gs S):CM gs t c f [] acc E S=some (acc,S):=by
 unfold CM
 rw[if_pos h]
theorem NP{gs:Gd}{t:Tf}{c f:Ev}{d:D}{ds acc:List D}{E:En}(h:gOk gs S)(hz:acc.length<sizeLine):CM gs t c f (d::ds) acc E S=(t d E S).bind fun E1=>(c E1 S).bind fun r=>match r.1 with
   | .bl true=>(f E1 r.2).bind fun p=>CM gs t c f ds (acc++[p.1]) E1 p.2
   | .bl false=>CM gs t c f ds acc E1 r.2
   |_=>none:=by
 rw[CM,if_pos h,if_pos hz]
 all_goals rfl
theorem Hy{gs:Gd}{t:Tf}{c f:Ev}{d:D}{ds acc:List D}{E E1:En}{S1:Sto}(h:gOk gs S)(hz:acc.length<sizeLine)(e1:t d E S=some E1)(e2:c E1 S=some (.bl true,S1)):CM gs t c f (d::ds) acc E S=(f E1 S1).bind fun p=>CM gs t c f ds (acc++[p.1]) E1 p.2:=by
 rw[NP h hz,e1]
 show(c E1 S).bind _=_
 rw[e2]
 rfl
theorem Ji{gs:Gd}{t:Tf}{c f:Ev}{d:D}{ds acc:List D}{E E1:En}{S1:Sto}(h:gOk gs S)(hz:acc.length<sizeLine)(e1:t d E S=some E1)(e2:c E1 S=some (.bl false,S1)):CM gs t c f (d::ds) acc E S=CM gs t c f ds acc E1 S1:=by
 rw[NP h hz,e1]
 show(c E1 S).bind _=_
 rw[e2]
 rfl
theorem Oc{gs:Gd}{t:Tf}{f:Ev}{C:En}{m:Nat}{I:Sto->Prop}{R:D->D->Prop}(hg:∀S,I S->gOk gs S):∀{ds acc:List D} {os:En} {S:Sto},os.length=m->I S->acc.length+ds.length≤sizeLine->
    (∀d∈ds,∀os S,os.length=m->I S->∃us y S',us.length=m/\t d (C++os) S=some (C++us)/\f (C++us) S=some (y,S')/\I S'/\R d y)->
    ∃ys S',CM gs t B3 f ds acc (C++os) S=some (acc++ys,S')/\I S'/\ys.length=ds.length/\Paired R ds ys
  | [],acc,os,S,ho,hI,hz,h=>⟨[],S,by rw[Ek (hg S hI)];simp,hI,rfl,.nil⟩
  | d :: ds, acc, os, S, ho, hI, hz, h => by
    obtain⟨us,y,S1,hu,e1,e2,I1,r1⟩:=h d List.mem_cons_self os S ho hI
    obtain⟨ys,S2,e3,I2,l2,r2⟩:=Oc hg (ds:=ds) (acc:=acc++[y]) (os:=us) (S:=S1) hu I1 (by simp at hz ⊢; omega) fun d' hd=>h d' (List.mem_cons_of_mem _ hd)
    refine⟨y::ys,S2,?_,I2,by simp[l2],.cons r1 r2⟩
    rw[Hy (hg S hI) (by simp at hz;omega) e1 Ge,e2,Eb,e3]
    simp
theorem comp_map{gs:Gd}{t:Tf}{f:Ev}{C:En}{m:Nat}{g:D->D}{S:Sto}(hg:gOk gs S):∀{ds acc:List D} {os:En},os.length=m->acc.length+ds.length≤sizeLine->
    (∀d∈ds,∀os,os.length=m->∃us,us.length=m/\t d (C++os) S=some (C++us)/\f (C++us) S=some (g d,S))->
    CM gs t B3 f ds acc (C++os) S=some (acc++ds.map g,S)
  | [],acc,os,ho,hz,h=>by rw[Ek hg];simp
  | d :: ds, acc, os, ho, hz, h => by
    obtain⟨us,hu,e1,e2⟩:=h d List.mem_cons_self os ho
    rw[Hy hg (by simp at hz;omega) e1 Ge,e2,Eb]
    rw[comp_map hg hu (by simp at hz ⊢; omega) fun d' hd=>h d' (List.mem_cons_of_mem _ hd)]
    simp
theorem ET{gs:Gd}{t:Tf}{b:Ex}{I:List D->En->Sto->Prop}(hg:∀ds E S,I ds E S->gOk gs S):∀{ds:List D} {E:En} {S:Sto},I ds E S->
    (∀d ds E S,I (d::ds) E S->∃E1 E2 S2,t d E S=some E1/\b E1 S=some (.nx,E2,S2)/\I ds E2 S2)->
    ∃E' S',NN gs t b ds E S=some (.nx,E',S')/\I [] E' S'
  | [],E,S,hI,h=>⟨E,S,N7 (hg _ _ _ hI),hI⟩
  | d :: ds, E, S, hI, h => by
    obtain⟨E1,E2,S2,e1,e2,I2⟩:=h d ds E S hI
    obtain⟨E',S',e3,I3⟩:=ET hg I2 h
    exact⟨E',S',by rw[Kn (hg _ _ _ hI),e1];simp[e2,e3],I3⟩
theorem pick{xs:List D}{r:Int}(h0:0≤r)(h1:r<xs.length):∃x,atI xs r=some x/\x∈xs:=⟨_,YG h0 h1,List.getElem_mem _⟩
theorem KR{α β:Type}{P:β->Prop}:∀{xs:List α} {ys:List β},Paired (fun _ y=>P y) xs ys->∀y∈ys,P y
  |_,_,.nil,y,h=>by cases h
  | _, _, .cons r t, y, h => by
    rcases List.mem_cons.mp h with h|h
    ·rw[h];exact r
    ·exact KR t y h
theorem Ig{lo:Int}{n:Nat}:(LM lo n).length=n:=by simp[LM]
end
def Ok(G B:Nat)(r:Rat):Prop:=∃z:Nat,r*(G:Rat)=(z:Rat)/\z≤B
theorem KZ{n:Nat}(h:0<n):(n:Rat)≠0:=by
 have:n≠0:=by omega
 exact_mod_cast this
theorem Ok.sz{G B k:Nat}{r:Rat}(h:Ok G B r)(hG:0<G)(g:G<2^k)(b:B<2^k):Sz k r:=by
 obtain⟨z,e,hz⟩:=h
 have e2:r=((z:Int):Rat) / ((G:Int):Rat):=by
  have:=KZ hG
  rw[show(((z:Nat):Int):Rat)=(z:Rat)from rfl,show(((G:Nat):Int):Rat)=(G:Rat)from rfl,←e]
  grind
 rw[e2]
 exact L5 (by omega) (by simpa using Nat.lt_of_le_of_lt hz b) (by simpa using g)
theorem Ok.up{G B t B':Nat}{r:Rat}(h:Ok G B r)(hB:B*t≤B'):Ok (G*t) B' r:=by
 obtain⟨z,e,hz⟩:=h
 refine⟨z*t,?_,Nat.le_trans (Nat.mul_le_mul_right t hz) hB⟩
 push_cast
 rw[←e]
 grind
theorem Ok.zero{G B:Nat}:Ok G B 0:=⟨0,by simp,Nat.zero_le _⟩
theorem Ok.one{G B:Nat}(h:G≤B):Ok G B 1:=⟨G,by simp,h⟩
theorem Ok.mix{G B a b t:Nat}{r o:Rat}(hr:Ok G B r)(ho:Ok G B o)(ht:a+b=t)(h0:0<t):Ok (G*t) (B*t) ((r*(a:Rat)+o*(b:Rat)) / (t:Rat)):=by
 obtain⟨z,e1,h1⟩:=hr
 obtain⟨y,e2,h2⟩:=ho
 refine⟨z*a+y*b,?_,?_⟩
 ·have:=KZ h0
  push_cast
  rw[←e1,←e2]
  grind
 ·rw[←ht,Nat.mul_add]
  exact Nat.add_le_add (Nat.mul_le_mul_right a h1) (Nat.mul_le_mul_right b h2)
structure Tr where
 p:Nat
 k:Nat
 b:Nat
 ho:List Rat
 h:Int
 l:Int
structure Ld where
 k:Nat
 n:Int
 ow:List Rat
structure Stt where
 loads:List Ld
 hold:List Rat
 nums:List Int
inductive AV where
 |bring (p k:Nat) (n:Int)
 |pool (a b:Nat)
 |swap (l:Nat) (g:Int) (k:Nat) (n:Int)
 |trade (t:Int) (l:Nat) (g:Int) (k:Nat) (n:Int)
 |spoil (l:Nat) (n:Int)
 |thr (l:Nat) (n:Int) (ws:List Int)
 |sell (p q:Nat) (s:Rat)
noncomputable def shD(rs:List Rat):D:=.tup (rs.map aD)
noncomputable def Tr.d(t:Tr):D:=.tup [.int t.p,.int t.k,.int t.b,shD t.ho,.int t.h,.int t.l]
noncomputable def Ld.d(l:Ld):D:=.tup [.int l.k,.int l.n,shD l.ow]
noncomputable def AV.d:AV->D
 | .bring p k n=>.tup [.str "bring",.int p,.int k,.int n]
 | .pool a b=>.tup [.str "pool",.int a,.int b]
 | .swap l g k n=>.tup [.str "swap",.int l,.int g,.int k,.int n]
 | .trade t l g k n=>.tup [.str "trade",.int t,.int l,.int g,.int k,.int n]
 | .spoil l n=>.tup [.str "spoil",.int l,.int n]
 | .thr l n ws=>.tup [.str "throw",.int l,.int n,.tup (ws.map .int)]
 | .sell p q s=>.tup [.str "sell",.int p,.int q,aD s]
noncomputable def Gi(x:Rat)(os ss:List Rat):List Rat:=List.zipWith (fun s o=>s*(1-x)+o*x) ss os
noncomputable def B8(p q:Nat)(s:Rat)(ss:List Rat):List Rat:=(ss.set p (ss.getD p 0-ss.getD p 0*s)).set q (ss.getD q 0+ss.getD p 0*s)
noncomputable def Bf(n m:Int)(ss os:List Rat):List Rat:=List.zipWith (fun s o=>(s*n+o*m) / (n+m:Int)) ss os
noncomputable def Ct(t:Tr)(ls:List Ld)(ws:List Int):Int:=(ls.map fun l=>l.n*ws.getD l.k 0).sum+t.b*ws.getD t.k 0
noncomputable def Jg(t:Tr)(ls:List Ld)(l:Nat)(n:Int)(ws:List Int):Rat:=((n*ws.getD ((ls[l]?.map (·.k)).getD 0) 0:Int):Rat) / (Ct t ls ws:Rat)
noncomputable def AO(ls:List Ld)(l:Nat):Ld:=ls.getD l ⟨0,0,[]⟩
noncomputable def less(ls:List Ld)(l:Nat)(n:Int):List Ld:=ls.set l {AO ls l with n:=(AO ls l).n-n}
noncomputable def QQ(p i:Nat):List Rat:=(List.range p).map fun j=>if j=i then 1 else 0
noncomputable def step(t:Tr)(s:Stt):AV->Stt
 | .bring p k n=>{s with loads:=s.loads++[⟨k,n,QQ t.p p⟩]}
 | .pool a b=>{s with loads:=less (less s.loads a (AO s.loads a).n) b (AO s.loads b).n++[⟨(AO s.loads a).k,(AO s.loads a).n+(AO s.loads b).n,Bf (AO s.loads a).n (AO s.loads b).n (AO s.loads a).ow (AO s.loads b).ow⟩]}
 | .swap l g k n=>{s with loads:=less s.loads l g++[⟨k,n,(AO s.loads l).ow⟩]}
 | .trade u l g k n=>{s with loads:=less s.loads l g++[⟨k,n,(AO s.loads l).ow⟩],nums:=s.nums++[u]}
 | .spoil l n=>{s with loads:=less s.loads l n}
 | .thr l n ws=>{s with loads:=(less s.loads l n).map fun x=>{x with ow:=Gi (Jg t s.loads l n ws) (AO s.loads l).ow x.ow},hold:=Gi (Jg t s.loads l n ws) (AO s.loads l).ow s.hold}
 | .sell p q x=>{s with loads:=s.loads.map fun y=>{y with ow:=B8 p q x y.ow},hold:=B8 p q x s.hold}
def Jj(t:Tr):Prop:=1≤t.p/\t.p≤4/\1≤t.k/\t.k≤5/\1≤t.b/\t.b≤20
def Can(t:Tr)(s:Stt):AV->Prop
 | .bring p k n=>p<t.p/\k<t.k/\1≤n/\n<2^131
 | .pool a b=>a≠b/\a<s.loads.length/\b<s.loads.length/\0<(AO s.loads a).n/\0<(AO s.loads b).n/\(AO s.loads a).k=(AO s.loads b).k
 | .swap l g k n=>l<s.loads.length/\1≤g/\g≤(AO s.loads l).n/\k<t.k/\k≠(AO s.loads l).k/\1≤n/\n<2^131
 | .trade u l g k n=>l<s.loads.length/\1≤g/\g≤(AO s.loads l).n/\k<t.k/\k≠(AO s.loads l).k/\1≤n/\n<2^131/\u∉s.nums/\0≤u/\u≤9
 | .spoil l n=>l<s.loads.length/\1≤n/\n≤(AO s.loads l).n
 | .thr l n ws=>l<s.loads.length/\1≤n/\n≤(AO s.loads l).n/\ws.length=t.k+1/\∀w∈ws,1≤w/\w≤99
 | .sell p q x=>p≠q/\p<t.p/\q<t.p/\0<x.num/\x.num≤x.den/\x.den≤12
structure Du(t:Tr)(k:Nat)(s:Stt):Prop where
 len:s.loads.length≤4+k
 kind:∀l∈s.loads,l.k<t.k
 pcs:∀l∈s.loads,0≤l.n/\l.n<2^(131+k)
 own:∀l∈s.loads,l.ow.length=t.p
 hold:s.hold.length=t.p
 nm:s.nums.length≤k
 gb:∃G B:Nat,0<G/\G≤B/\B<2^(30+170*k)/\(∀l∈s.loads,∀r∈l.ow,Ok G B r)/\∀r∈s.hold,Ok G B r
theorem Du.sz{t:Tr}{k:Nat}{s:Stt}(h:Du t k s):(∀l∈s.loads,∀r∈l.ow,Sz (30+170*k) r)/\∀r∈s.hold,Sz (30+170*k) r:=by
 obtain⟨G,B,g0,gb,b,h1,h2⟩:=h.gb
 exact⟨fun l hl r hr=>(h1 l hl r hr).sz g0 (Nat.lt_of_le_of_lt gb b) b,fun r hr=>(h2 r hr).sz g0 (Nat.lt_of_le_of_lt gb b) b⟩
theorem AX{ls:List Ld}{l:Nat}(h:l<ls.length):AO ls l∈ls:=by
 unfold AO
 rw[List.getD_eq_getElem?_getD,List.getElem?_eq_getElem h]
 exact List.getElem_mem h
theorem F5{ls:List Ld}{l:Nat}(h:l<ls.length):ls[l]?=some (AO ls l):=by
 unfold AO
 rw[List.getD_eq_getElem?_getD,List.getElem?_eq_getElem h]
 rfl
theorem Ir{ls:List Ld}{l:Nat}{n:Int}{x:Ld}(h:x∈less ls l n)(hl:l<ls.length):x∈ls∨x={AO ls l with n:=(AO ls l).n-n}:=by
 unfold less at h
 rcases List.mem_or_eq_of_mem_set h with h|h
 ·exact .inl h
 ·exact .inr h
theorem Ce{ls:List Ld}{l:Nat}{n:Int}:(less ls l n).length=ls.length:=by simp[less]
section
variable{S:Sto}{p:Nat}
theorem Qt{P:Int->Prop}:∀{ys:List D},(∀y∈ys,∃i:Int,y=.int i/\P i)->∃ns:List Int,ys=ns.map D.int/\∀n∈ns,P n
  | [],_=>⟨[],rfl,fun n h=>by cases h⟩
  | y :: ys, h => by
    obtain⟨i,rfl,hi⟩:=h y List.mem_cons_self
    obtain⟨ns,rfl,hn⟩:=Qt (P:=P) (ys:=ys) fun z hz=>h z (List.mem_cons_of_mem _ hz)
    exact⟨i::ns,rfl,fun n hn'=>by
      rcases List.mem_cons.mp hn' with e|e
      ·rw[e];exact hi
      ·exact hn n e⟩
theorem PF{ns:List Int}(h:∀n∈ns,0≤n/\n≤8):0≤ns.sum/\ns.sum≤8*ns.length/\∀n∈ns,n≤ns.sum:=by
  induction ns with
  |nil=>simp
  | cons a l ih =>
    have h1:=h a List.mem_cons_self
    obtain⟨i1,i2,i3⟩:=ih fun n hn=>h n (List.mem_cons_of_mem _ hn)
    rw[List.sum_cons,List.length_cons]
    refine⟨by omega,by push_cast;omega,fun n hn=>?_⟩
    rcases List.mem_cons.mp hn with e|e
    ·omega
    ·have:=i3 n e;omega
theorem Rr(h:Dv p S){n:Nat}(hn:n≤20):∃(ns:List Int) (S':Sto),CM [] (tNm 1) B3 (eOp (o2 wIx) [(Jh [(eC (.int 0)),(eC (.int 1)),(AJ AL [(eV 0),(eC (.int 4))]),(AJ AL [(eV 0),(eC (.int 9))])]),(AJ AL [(eV 0),(eC (.int 4))])]) (LM 0 n) [] [some (.ref p),none] S=some (ns.map D.int,S')/\Pn p S S'/\ns.length=n/\∀i∈ns,0≤i/\i≤8:=by
 obtain⟨ys,S',e,hI,l,r⟩:=Oc (gs:=[]) (t:=tNm 1) (f:=eOp (o2 wIx) [(Jh [(eC (.int 0)),(eC (.int 1)),(AJ AL [(eV 0),(eC (.int 4))]),(AJ AL [(eV 0),(eC (.int 9))])]),(AJ AL [(eV 0),(eC (.int 4))])]) (C:=[some (.ref p)]) (m:=1) (I:=Pn p S) (R:=fun _ y=>∃i:Int,y=.int i/\0≤i/\i≤8)
  (fun _ _=>Al) (ds:=LM 0 n) (acc:=[]) (os:=[none]) rfl (Pn.refl h) (by rw[Ig];simp;exact AW (by omega)) fun d _ os S0 ho I0=>by
   obtain⟨o,rfl⟩:∃o,os=[o]:=by
    match os,ho with
    | [o],_=>exact⟨o,rfl⟩
   obtain⟨r1,S1,e1,a1,b1,p1⟩:=Az I0.pen (n:=4) (by decide) (by decide)
   obtain⟨r2,S2,e2,a2,b2,p2⟩:=Az p1.pen (n:=9) (by decide) (by decide)
   obtain⟨r3,S3,e3,a3,b3,p3⟩:=Az p2.pen (n:=4) (by decide) (by decide)
   obtain⟨x,ex,hx⟩:=pick (xs:=[.int 0,.int 1,.int r1,.int r2]) (r:=r3) a3 (by simpa using b3)
   refine⟨[some d],x,S3,rfl,by simp,by simp[e1,e2,e3,ex],((I0.trans p1).trans p2).trans p3,?_⟩
   simp only[List.mem_cons,List.not_mem_nil,or_false]at hx
   rcases hx with rfl|rfl|rfl|rfl
   ·exact⟨0,rfl,by decide,by decide⟩
   ·exact⟨1,rfl,by decide,by decide⟩
   ·exact⟨r1,rfl,by omega,by omega⟩
   ·exact⟨r2,rfl,by omega,by omega⟩
 obtain⟨ns,rfl,hns⟩:=Qt (KR r)
 exact⟨ns,S',by simpa using e,hI,by simpa[Ig]using l,hns⟩
noncomputable def JB(ns:List Int):List Rat:=ns.map fun(n:Int)=>(n:Rat) / (ns.sum:Rat)
theorem Me{ns:List Int}(h:∀n∈ns,0≤n/\n≤8)(hs:0<ns.sum):∀r∈JB ns,Ok ns.sum.toNat ns.sum.toNat r:=by
 intro r hr
 obtain⟨n,hn,rfl⟩:=List.mem_map.mp hr
 have h1:=h n hn
 have h2:=(PF h).2.2 n hn
 refine⟨n.toNat,?_,by omega⟩
 have e1:((ns.sum.toNat:Nat):Rat)=(ns.sum:Rat):=by
  have:((ns.sum.toNat:Nat):Int)=ns.sum:=by omega
  exact congrArg (fun z:Int=>(z:Rat)) this
 have e2:((n.toNat:Nat):Rat)=(n:Rat):=by
  have:((n.toNat:Nat):Int)=n:=by omega
  exact congrArg (fun z:Int=>(z:Rat)) this
 rw[e1,e2]
 have:(ns.sum:Rat)≠0:=by
  intro z
  have:=Rat.intCast_eq_zero_iff.mp z
  omega
 grind
theorem TJ{s:Rat}:∀{ns:List Int},(ns.map fun(n:Int)=>(n:Rat) / s).sum=(ns.sum:Rat) / s
  | []=>by simp;grind
  | n :: ns => by
    rw[List.map_cons,List.sum_cons,List.sum_cons,TJ (ns:=ns)]
    push_cast
    grind
theorem QO{ns:List Int}(hs:0<ns.sum):(JB ns).sum=1:=by
 unfold JB
 rw[TJ]
 have:(ns.sum:Rat)≠0:=by
  intro z
  have:=Rat.intCast_eq_zero_iff.mp z
  omega
 grind
theorem RH{ns:List Int}{q:Nat}(hq:S[q]?=some (.lst (ns.map D.int)))(hl:ns.length≤20)(hn:∀n∈ns,0≤n/\n≤8)(hs:0<ns.sum):
  CM [(q,ns.map D.int)] (tNm 1) B3 (AJ By [(eV 1),(eOp (o1 WE) [(eV 0)])]) (ns.map D.int) [] [some (.ref q),none] S=some ((JB ns).map aD,S):=by
 obtain⟨s1,s2,s3⟩:=PF hn
 have:=comp_map (gs:=[(q,ns.map D.int)]) (t:=tNm 1) (f:=AJ By [(eV 1),(eOp (o1 WE) [(eV 0)])]) (C:=[some (.ref q)]) (m:=1) (g:=fun d=>match d with| .int n=>aD ((n:Rat) / (ns.sum:Rat))|d=>d) (S:=S) (fun g hg=>by rw[List.mem_singleton.mp hg];exact Aa hq) (ds:=ns.map D.int) (acc:=[]) (os:=[none]) rfl (by simp;exact AW (by omega)) fun d hd os ho=>by
   obtain⟨o,rfl⟩:∃o,os=[o]:=by
    match os,ho with
    | [o],_=>exact⟨o,rfl⟩
   obtain⟨i,hi,rfl⟩:=List.mem_map.mp hd
   have m:=WT (S:=S) (t:=i) hs (Eg (by omega) (by omega))
   exact⟨[some (.int i)],rfl,by simp,by simp[BE hq,GY,m]⟩
 have e2:(ns.map D.int).map (fun d=>match d with| .int n=>aD ((n:Rat) / (ns.sum:Rat))|d=>d)=(JB ns).map aD:=by
  unfold JB
  rw[List.map_map,List.map_map]
  rfl
 rw[e2]at this
 simpa using this
theorem Q1(h:Dv p S){n:Nat}(h1:1≤n)(h2:n≤4):∃rs S',Di [.ref p,.int n] S=some (shD rs,S')/\Pn p S S'/\(rs.length=n/\rs.sum=1)/\∃G:Nat,0<G/\G≤32/\∀r∈rs,Ok G G r:=by
 obtain⟨ns,S1,e1,p1,l1,i1⟩:=Rr (n:=n) h (by omega)
 obtain⟨s1,s2,s3⟩:=PF i1
 have hq:(S1++[Cl.lst (ns.map D.int)])[S1.length]?=some (.lst (ns.map D.int)):=List.getElem?_concat_length
 have pp:Dv p (S1++[Cl.lst (ns.map D.int)]):=p1.pen.app _
 have hlt:=p1.pen.lt
 have r1:Hx (n:Int)=true:=Dc (by omega) (by omega)
 by_cases hz:ns.sum=0
 ·obtain⟨r,S2,e2,a2,b2,p2⟩:=Az pp (n:=n) (by omega) (by omega)
  have hq2:S2[S1.length]?=some (.lst (ns.map D.int)):=p2.get hq (by omega)
  have hn':∀x∈ns.set r.toNat 1,0≤x/\x≤8:=fun x hx=>by
   rcases List.mem_or_eq_of_mem_set hx with hx|rfl
   ·exact i1 x hx
   ·exact⟨by decide,by decide⟩
  have hs':0<(ns.set r.toNat 1).sum:=by
   have:=(PF hn').2.2 1 (List.mem_set (by omega) 1)
   omega
  have hq3:(S2.set S1.length (.lst ((ns.set r.toNat 1).map D.int)))[S1.length]?=some (.lst ((ns.set r.toNat 1).map D.int)):=List.getElem?_set_self (A7 hq2)
  have e3:=RH hq3 (by simp;omega) hn' hs'
  have ix:ixN ns.length r=some r.toNat:=Rj a2 (by omega)
  refine⟨JB (ns.set r.toNat 1),S2.set S1.length (.lst ((ns.set r.toNat 1).map D.int)),?_,⟨?_,?_⟩,⟨by simp[JB,l1],QO hs'⟩,_,(show 0<(ns.set r.toNat 1).sum.toNat by omega),?_,Me hn' hs'⟩
  ·have sq3:=IZ hq3
   rw[List.map_set]at e3 sq3 hq3
   simp[Di,JW,r1,e1,BE hq,GY,hz,e2,Aa hq2,ix,sq3,e3,shD]
  ·have g:Ci [p] S (S1++[Cl.lst (ns.map D.int)]):=p1.same.trans .app
   refine⟨Nat.le_trans (g.trans p2.same).len (by simp),fun m hm hmp=>?_⟩
   rw[List.getElem?_set_ne (by have:=p1.same.len;omega)]
   exact(g.trans p2.same).keep m hm hmp
  ·obtain⟨ds,ed,hd⟩:=p2.pen
   exact⟨ds,by rw[List.getElem?_set_ne (by omega)];exact ed,hd⟩
  ·have:=(PF hn').2.1
   rw[List.length_set]at this
   omega
 ·have hz':(ns.sum==0)=false:=by simpa using hz
  have e3:=RH hq (by omega) i1 (by omega)
  refine⟨JB ns,S1++[Cl.lst (ns.map D.int)],?_,⟨p1.same.trans .app,pp⟩,⟨by simp[JB,l1],QO (by omega)⟩,_,(show 0<ns.sum.toNat by omega),by omega,Me i1 (by omega)⟩
  have sq3:=IZ hq
  simp[Di,JW,r1,e1,BE hq,GY,hz',sq3,e3,shD]
end
section
variable{S:Sto}{p:Nat}
theorem Yq:(2:Nat)<F7:=Eg (n:=2) (by decide) (by decide)
theorem J7(h:Dv p S):∃n S',Bb [.ref p] S=some (.int n,S')/\Pn p S S'/\1≤n/\n<2^131:=by
  obtain⟨r1,S1,e1,a1,b1,p1⟩:=Az h (n:=99) (by decide) (by decide)
  obtain⟨r2,S2,e2,a2,b2,p2⟩:=Az p1.pen (n:=4) (by decide) (by decide)
  obtain⟨r3,S3,e3,a3,b3,p3⟩:=Az p2.pen (n:=40) (by decide) (by decide)
  obtain⟨r4,S4,e4,a4,b4,p4⟩:=Az p3.pen (n:=999) (by decide) (by decide)
  obtain⟨r5,S5,e5,a5,b5,p5⟩:=Az p4.pen (n:=7) (by decide) (by decide)
  have pp:=(((p1.trans p2).trans p3).trans p4).trans p5
  have d2:=Yq
  have go:∀g:Int,1≤g->g<2^131->∃n:Int,atI [D.int (1+r2),.int (1+r3),.int (1+r4),.int g] (r5 / 2)=some (.int n)/\1≤n/\n<2^131:=fun g g1 g2=>by
    obtain⟨x,ex,hx⟩:=pick (xs:=[D.int (1+r2),.int (1+r3),.int (1+r4),.int g]) (r:=r5 / 2) (by omega) (by simp;omega)
    simp only[List.mem_cons,List.not_mem_nil,or_false]at hx
    rcases hx with rfl|rfl|rfl|rfl
    ·exact⟨_,ex,by omega,by omega⟩
    ·exact⟨_,ex,by omega,by omega⟩
    ·exact⟨_,ex,by omega,by omega⟩
    ·exact⟨_,ex,g1,g2⟩
  first
    | (obtain ⟨n, en, n1, n2⟩ := go (10 ^ 39 + r1) (by omega) (by omega)
       exact⟨n,S5,by simp[Bb,IE,e1,e2,e3,e4,e5,d2]at en ⊢; simp[en],pp,n1,n2⟩)
    | (obtain ⟨n, en, n1, n2⟩ := go (10 ^ 30 + r1) (by omega) (by omega)
       exact⟨n,S5,by simp[Bb,IE,e1,e2,e3,e4,e5,d2]at en ⊢; simp[en],pp,n1,n2⟩)
theorem Gx{r:Int}(h:0≤r):∃m:Nat,r=m:=⟨r.toNat,by omega⟩
theorem XD(h:Dv p S):∃t S',HN [.ref p] S=some (Tr.d t,S')/\Pn p S S'/\Jj t/\(t.ho.length=t.p/\t.ho.sum=1)/\∃G:Nat,0<G/\G≤32/\∀r∈t.ho,Ok G G r:=by
 obtain⟨r1,S1,e1,a1,b1,p1⟩:=Az h (n:=4) (by decide) (by decide)
 obtain⟨r2,S2,e2,a2,b2,p2⟩:=Az p1.pen (n:=5) (by decide) (by decide)
 obtain⟨r3,S3,e3,a3,b3,p3⟩:=Az p2.pen (n:=3) (by decide) (by decide)
 obtain⟨r4,S4,e4,a4,b4,p4⟩:=Az p3.pen (n:=20) (by decide) (by decide)
 obtain⟨r5,S5,e5,a5,b5,p5⟩:=Az p4.pen (n:=2) (by decide) (by decide)
 obtain⟨m1,rfl⟩:=Gx a1
 obtain⟨m2,rfl⟩:=Gx a2
 obtain⟨b,eb,hb1,hb2⟩:∃b:Nat,atI [D.int (1+r3),.int (1+r4)] r5=some (.int b)/\1≤b/\b≤20:=by
  obtain⟨x,ex,hx⟩:=pick (xs:=[D.int (1+r3),.int (1+r4)]) (r:=r5) a5 (by simpa using b5)
  obtain⟨m3,rfl⟩:=Gx a3
  obtain⟨m4,rfl⟩:=Gx a4
  simp only[List.mem_cons,List.not_mem_nil,or_false]at hx
  rcases hx with rfl|rfl
  ·exact⟨1+m3,by rw[ex];simp,by omega,by omega⟩
  ·exact⟨1+m4,by rw[ex];simp,by omega,by omega⟩
 obtain⟨rs,S6,e6,p6,l6,G,g0,g1,g2⟩:=Q1 p5.pen (n:=1+m1) (by omega) (by omega)
 obtain⟨r7,S7,e7,a7,b7,p7⟩:=Az p6.pen (n:=10) (by decide) (by decide)
 obtain⟨r8,S8,e8,a8,b8,p8⟩:=Az p7.pen (n:=10) (by decide) (by decide)
 rw[show((1+m1:Nat):Int)=1+(m1:Int) by omega]at e6
 refine⟨⟨1+m1,1+m2,b,rs,r7,r8⟩,S8,?_,((((((p1.trans p2).trans p3).trans p4).trans p5).trans p6).trans p7).trans p8,⟨by simp,by simp;omega,by simp,by simp;omega,hb1,hb2⟩,l6,G,g0,g1,g2⟩
 simp[HN,MV,e1,e2,e3,e4,e5,eb,e6,e7,e8,Tr.d]
theorem Q8(h:Dv p S):∃x S',Dj [.ref p] S=some (aD x,S')/\Pn p S S'/\0<x.num/\x.num≤x.den/\x.den≤12:=by
 obtain⟨r1,S1,e1,a1,b1,p1⟩:=Az h (n:=12) (by decide) (by decide)
 obtain⟨r2,S2,e2,a2,b2,p2⟩:=Az p1.pen (n:=1+r1) (by omega) (by omega)
 have m:=WT (S:=S2) (t:=1+r2) (b:=1+r1) (by omega) (Eg (by omega) (by omega))
 obtain⟨m1,rfl⟩:=Gx a1
 obtain⟨m2,rfl⟩:=Gx a2
 have rp:=Mj (1+(m2:Int)) (1+m1) (by omega)
 have eb:(((1+(m1:Int):Int)):Rat)=(((1+m1:Nat)):Rat):=by
  have:(1+(m1:Int))=((1+m1:Nat):Int):=by omega
  rw[this];rfl
 have en:(1+(m2:Int)).natAbs=1+m2:=by omega
 have gp:0<Nat.gcd (1+m2) (1+m1):=Nat.gcd_pos_of_pos_left _ (by omega)
 obtain⟨q,hq⟩:=Nat.gcd_dvd_left (1+m2) (1+m1)
 obtain⟨q',hq'⟩:=Nat.gcd_dvd_right (1+m2) (1+m1)
 refine⟨((1+(m2:Int):Int):Rat) / ((1+(m1:Int):Int):Rat),S2,?_,p1.trans p2,?_,?_,?_⟩
 ·simp[Dj,MH,e1,e2,m]
 ·rw[eb,rp.1,en]
  generalize Nat.gcd (1+m2) (1+m1)=g at*
  have:(1+(m2:Int))=((g*q:Nat):Int):=by omega
  rw[this,Int.natCast_mul,Int.mul_ediv_cancel_left _ (by omega)]
  have:q≠0:=fun z=>by subst z;omega
  omega
 ·rw[eb,rp.1,rp.2,en]
  generalize Nat.gcd (1+m2) (1+m1)=g at*
  have t1:(1+(m2:Int))=((g*q:Nat):Int):=by omega
  rw[t1,Int.natCast_mul,Int.mul_ediv_cancel_left _ (by omega),hq',Nat.mul_div_cancel_left _ gp]
  have:q≤q':=by
   have:g*q≤g*q':=by omega
   exact Nat.le_of_mul_le_mul_left this gp
  omega
 ·rw[eb,rp.2]
  exact Nat.le_trans (Nat.div_le_self _ _) (by omega)
theorem Sv(h:Dv p S){n:Nat}(hn:n≤6):∃(ws:List Int) (S':Sto),Dl [.ref p,.int n] S=some (.tup (ws.map .int),S')/\Pn p S S'/\ws.length=n/\∀w∈ws,1≤w/\w≤99:=by
 obtain⟨ys,S',e,hI,l,r⟩:=Oc (gs:=[]) (t:=tNm 1) (f:=(eOp (o2 Cv) [(eC (.int 1)),(eOp (o2 wIx) [(Jh [(AJ AL [(eV 0),(eC (.int 3))]),(AJ AL [(eV 0),(eC (.int 99))])]),(AJ AL [(eV 0),(eC (.int 2))])])])) (C:=[some (.ref p)]) (m:=1) (I:=Pn p S) (R:=fun _ y=>∃i:Int,y=.int i/\1≤i/\i≤99)
  (fun _ _=>Al) (ds:=LM 0 n) (acc:=[]) (os:=[none]) rfl (Pn.refl h) (by rw[Ig];simp;exact AW (by omega)) fun d _ os S0 ho I0=>by
   obtain⟨o,rfl⟩:∃o,os=[o]:=by
    match os,ho with
    | [o],_=>exact⟨o,rfl⟩
   obtain⟨r1,S1,e1,a1,b1,p1⟩:=Az I0.pen (n:=3) (by decide) (by decide)
   obtain⟨r2,S2,e2,a2,b2,p2⟩:=Az p1.pen (n:=99) (by decide) (by decide)
   obtain⟨r3,S3,e3,a3,b3,p3⟩:=Az p2.pen (n:=2) (by decide) (by decide)
   obtain⟨x,ex,hx⟩:=pick (xs:=[.int r1,.int r2]) (r:=r3) a3 (by simpa using b3)
   simp only[List.mem_cons,List.not_mem_nil,or_false]at hx
   rcases hx with rfl|rfl
   ·exact⟨[some d],.int (1+r1),S3,rfl,by simp,by simp[e1,e2,e3,ex],((I0.trans p1).trans p2).trans p3,_,rfl,by omega,by omega⟩
   ·exact⟨[some d],.int (1+r2),S3,rfl,by simp,by simp[e1,e2,e3,ex],((I0.trans p1).trans p2).trans p3,_,rfl,by omega,by omega⟩
 obtain⟨ns,rfl,hns⟩:=Qt (KR r)
 have r1:Hx (n:Int)=true:=Dc (by omega) (by omega)
 have e':CM [] (tNm 1) B3 (eOp (o2 Cv) [(eC (.int 1)),(eOp (o2 wIx) [(Jh [(AJ AL [(eV 0),(eC (.int 3))]),(AJ AL [(eV 0),(eC (.int 99))])]),(AJ AL [(eV 0),(eC (.int 2))])])]) (LM 0 n) [] [some (.ref p),none] S=some (ns.map D.int,S'):=by simpa using e
 exact⟨ns,S',by simp[Dl,Kv,r1,e'],hI,by simpa[Ig]using l,hns⟩
def G9(t:Tr)(ls:List Ld):Prop:=(∀l∈ls,l.k<t.k/\1≤l.n/\l.n<2^131/\l.ow.length=t.p/\l.ow.sum=1)/\∃G:Nat,0<G/\G≤32^ls.length/\∀l∈ls,∀r∈l.ow,Ok G G r
theorem G9.snoc{t:Tr}{ls:List Ld}{l:Ld}(h:G9 t ls)(h1:l.k<t.k/\1≤l.n/\l.n<2^131/\l.ow.length=t.p/\l.ow.sum=1){g:Nat}(g0:0<g)(g1:g≤32)(g2:∀r∈l.ow,Ok g g r):G9 t (ls++[l]):=by
 obtain⟨ha,G,G0,G1,G2⟩:=h
 refine⟨fun x hx=>?_,G*g,Nat.mul_pos G0 g0,?_,fun x hx r hr=>?_⟩
 ·rcases List.mem_append.mp hx with hx|hx
  ·exact ha x hx
  ·rw[List.mem_singleton.mp hx];exact h1
 ·rw[List.length_append,List.length_singleton,Nat.pow_succ]
  exact Nat.mul_le_mul G1 g1
 ·rcases List.mem_append.mp hx with hx|hx
  ·exact(G2 x hx r hr).up (Nat.le_refl _)
  ·rw[List.mem_singleton.mp hx]at hr
   have:=(g2 r hr).up (t:=G) (B':=G*g) (by rw[Nat.mul_comm];exact Nat.le_refl _)
   rwa [Nat.mul_comm g G]at this
end
section
variable{S:Sto}{p:Nat}
theorem G9.nil{t:Tr}:G9 t []:=⟨fun l hl=>(nomatch hl),1,by decide,by simp,fun l hl=>(nomatch hl)⟩
theorem XH(h:Dv p S){t:Tr}(ht:Jj t):∃(ls:List Ld) (S':Sto),G7 [.ref p,t.d] S=some (.tup (ls.map Ld.d),S')/\Pn p S S'/\G9 t ls/\ls.length≤4:=by
 obtain⟨t1,t2,t3,t4,t5,t6⟩:=ht
 have hlt:=h.lt
 have hq:(S++[Cl.lst []])[S.length]?=some (.lst []):=List.getElem?_concat_length
 obtain⟨r1,S1,e1,a1,b1,p1⟩:=Az (h.app [Cl.lst []]) (n:=5) (by decide) (by decide)
 obtain⟨r2,S2,e2,a2,b2,p2⟩:=Az p1.pen (n:=3) (by decide) (by decide)
 obtain⟨n,en,hn⟩:∃n:Nat,atI [D.int 0,.int 1,.int r1] r2=some (.int n)/\n≤4:=by
  obtain⟨x,ex,hx⟩:=pick (xs:=[D.int 0,.int 1,.int r1]) (r:=r2) a2 (by simpa using b2)
  simp only[List.mem_cons,List.not_mem_nil,or_false]at hx
  rcases hx with rfl|rfl|rfl
  ·exact⟨0,ex,by decide⟩
  ·exact⟨1,ex,by decide⟩
  ·exact⟨r1.toNat,by rw[ex,Int.toNat_of_nonneg a1],by omega⟩
 have q2:S2[S.length]?=some (.lst []):=(p1.trans p2).get hq (by omega)
 have rn:Hx (n:Int)=true:=Dc (by omega) (by omega)
 obtain⟨E',S',ef,ls,o,rfl,f1,f2,f3,f4,f5⟩:=ET (gs:=[]) (t:=tNm 3) (b:=EO (O3 QD (eV 2) [(Bc [(AJ AL [(eV 0),(eOp (o2 wIx) [(eV 1),(eC (.int 1))])]),(AJ Bb [(eV 0)]),(AJ Di [(eV 0),(eOp (o2 wIx) [(eV 1),(eC (.int 0))])])])]))
  (I:=fun ds E S'=>∃(ls:List Ld) (o:Option D),E=[some (.ref p),some t.d,some (.ref S.length),o]/\S'[S.length]?=some (.lst (ls.map Ld.d))/\Dv p S'/\Ci [p] S S'/\G9 t ls/\ls.length+ds.length≤4)
  (fun _ _ _ _=>Al) (ds:=LM 0 n) (E:=[some (.ref p),some t.d,some (.ref S.length),none]) (S:=S2)
  ⟨[],none,rfl,q2,p2.pen,(Ci.app.trans (p1.trans p2).same),G9.nil,by simp[Ig];exact hn⟩ (by
   rintro d ds E S0 ⟨ls,o,rfl,i1,i2,i3,i4,i5⟩
   obtain⟨x1,T1,g1,c1,d1,k1⟩:=Az i2 (n:=t.k) (by omega) (by omega)
   obtain⟨x2,T2,g2,k2,c2,d2⟩:=J7 k1.pen
   obtain⟨rs,T3,g3,k3,l3,G,G0,G1,G2⟩:=Q1 k2.pen (n:=t.p) t1 t2
   obtain⟨m1,rfl⟩:=Gx c1
   have kk:=(k1.trans k2).trans k3
   have j1:T3[S.length]?=some (.lst (ls.map Ld.d)):=kk.get i1 (by omega)
   have hz:ls.length<sizeLine:=Nat.lt_of_lt_of_le (show ls.length<5 by omega) (AW (by decide))
   refine⟨[some (.ref p),some t.d,some (.ref S.length),some d],[some (.ref p),some t.d,some (.ref S.length),some d],T3.set S.length (.lst ((ls++[Ld.mk m1 x2 rs]).map Ld.d)),by simp,?_,ls++[Ld.mk m1 x2 rs],some d,rfl,List.getElem?_set_self (A7 j1),?_,?_,i4.snoc (l:=Ld.mk m1 x2 rs) ⟨show m1<t.k by omega,c2,d2,l3⟩ G0 G1 G2,by simp at i5 ⊢; omega⟩
   ·have e3:atI [D.int t.p,.int t.k,.int t.b,shD t.ho,.int t.h,.int t.l] 1=some (.int t.k):=by simp
    simp[Tr.d,g1,g2,g3,Aa i1,Aa j1,hz,Ld.d]
   ·obtain⟨ds',ed,hd⟩:=kk.pen
    exact⟨ds',by rw[List.getElem?_set_ne (by omega)];exact ed,hd⟩
   ·refine⟨Nat.le_trans (i3.trans kk.same).len (by simp),fun m hm hmp=>?_⟩
    rw[List.getElem?_set_ne (by omega)]
    exact(i3.trans kk.same).keep m hm hmp)
 refine⟨ls,S',?_,⟨f3,f2⟩,f4,by simpa using f5⟩
 simp[G7,L4,e1,e2,en,rn,ef,BE f1]
noncomputable def Ca(x:Ld):Cl:=.lst [.int x.k,.int x.n,shD x.ow]
structure SAt(S:Sto)(s l m:Nat)(as:List Nat)(st:Stt):Prop where
 root:S[s]?=some (.lst [.ref l,shD st.hold,.ref m])
 lo:S[l]?=some (.lst (as.map .ref))
 nu:S[m]?=some (.lst (st.nums.map .int))
 ld:∀(i a:Nat) (x:Ld),as[i]?=some a->st.loads[i]?=some x->S[a]?=some (Ca x)
 len:as.length=st.loads.length
 nd:(s::l::m::as).Nodup
theorem Xo:∀{ls:List Ld} {acc:List D} {o:Option D} {S:Sto},acc.length+ls.length≤100->CM [] (tNm 0) B3 (Zp (o1 QB) [(eV 0)]) (ls.map Ld.d) acc [o] S=some (acc++(List.range' S.length ls.length).map D.ref,S++ls.map Ca)
  | [],acc,o,S,h=>by rw[List.map_nil,Ek Al];simp
  | x :: ls, acc, o, S, h => by
    rw[List.map_cons,Hy (E1:=[some x.d]) Al (Nat.lt_of_lt_of_le (show acc.length<101 by simp at h;omega) (AW (by decide))) (by simp) Ge]
    have:Zp (o1 QB) [(eV 0)] [some x.d] S=some (.ref S.length,S++[Ca x]):=by simp[Ld.d,Ca]
    rw[this,Eb,Xo (by simp at h ⊢; omega)]
    simp[List.range'_succ]
theorem getElem?_at{α:Type}{xs:List α}{x:α}{n:Nat}(h:n=xs.length):(xs++[x])[n]?=some x:=by subst h;exact List.getElem?_concat_length
theorem WK{t:Tr}{ls:List Ld}{x:D}(hl:ls.length≤20):∃s l m as S',G8 [.tup [t.d,.tup (ls.map Ld.d),x]] S=some (.ref s,S')/\SAt S' s l m as ⟨ls,t.ho,[]⟩/\Ci [] S S'/\(∀n∈s::l::m::as,S.length≤n):=by
 have e:=Xo (ls:=ls) (acc:=[]) (o:=none) (S:=S) (by simp;omega)
 refine⟨S.length+ls.length+2,S.length+ls.length,S.length+ls.length+1,List.range' S.length ls.length,S++ls.map Ca++[.lst ((List.range' S.length ls.length).map D.ref)]++[.lst []]++[.lst [.ref (S.length+ls.length),shD t.ho,.ref (S.length+ls.length+1)]],?_,⟨?_,?_,?_,?_,?_,?_⟩,?_,?_⟩
 ·simp[G8,Ly,Tr.d,e,shD]
  omega
 ·exact getElem?_at (by simp;omega)
 ·rw[List.getElem?_append_left (by simp),List.getElem?_append_left (by simp)]
  exact getElem?_at (by simp)
 ·rw[List.getElem?_append_left (by simp;omega)]
  exact getElem?_at (by simp;omega)
 ·intro i a y ha hy
  have hi:i<ls.length:=(List.getElem?_eq_some_iff.mp hy).1
  have:a=S.length+i:=by
   rw[List.getElem?_range' hi]at ha
   simp at ha;omega
  subst this
  rw[List.getElem?_append_left (by simp;omega),List.getElem?_append_left (by simp;omega),List.getElem?_append_left (by simp;omega),List.getElem?_append_right (by omega)]
  have hy':ls[i]?=some y:=hy
  simp[hy']
 ·simp
 ·rw[List.nodup_cons,List.nodup_cons,List.nodup_cons]
  refine⟨?_,?_,?_,List.nodup_range'⟩
  ·simp only[List.mem_cons,List.mem_range'_1];omega
  ·simp only[List.mem_cons,List.mem_range'_1];omega
  ·simp only[List.mem_range'_1];omega
 ·rw[List.append_assoc,List.append_assoc,List.append_assoc]
  exact .app
 ·intro n hn
  simp only[List.mem_cons,List.mem_range'_1]at hn
  omega
end
section
variable{S:Sto}{p:Nat}
@[simp] theorem jF{rs:List Rat}{S:Sto}:sqD S (shD rs)=some (rs.map aD,[]):=nr rfl
@[simp] theorem eQ{S:Sto}{r:List D}:dr (S++[.lst r]) (.ref S.length)=.own r:=BE List.getElem?_concat_length
@[simp] theorem Zn{S:Sto}{r:List D}:E5 (S++[.lst r]) S.length=some r:=Aa List.getElem?_concat_length
theorem set_same{S:Sto}{q:Nat}{c:Cl}(h:S[q]?=some c):S.set q c=S:=by
 apply List.ext_getElem?
 intro i
 by_cases e:q=i
 ·subst e;rw[List.getElem?_set_self (A7 h),h]
 ·rw[List.getElem?_set_ne e]
theorem Qm{gs:Gd}{t:Tf}{b:Ex}{C:En}{m q:Nat}{h:D->D}{I:Sto->Prop}(hg:∀S,I S->gOk gs S)(hI:∀S c,I S->I (S.set q c)):∀{ds acc:List D} {os:En} {S:Sto},os.length=m->I S->S[q]?=some (.lst acc)->acc.length+ds.length≤1000->
    (∀d∈ds,∀os S acc,os.length=m->I S->S[q]?=some (.lst acc)->acc.length<sizeLine->∃us us',t d (C++os) S=some (C++us)/\b (C++us) S=some (.nx,C++us',S.set q (.lst (acc++[h d])))/\us'.length=m)->
    ∃os',os'.length=m/\NN gs t b ds (C++os) S=some (.nx,C++os',S.set q (.lst (acc++ds.map h)))
  | [], acc, os, S, ho, hS, hq, hz, H => ⟨os, ho, by
      rw[N7 (hg S hS)]
      have:S.set q (.lst (acc++List.map h []))=S:=by
        rw[List.map_nil,List.append_nil]
        exact set_same hq
      rw[this]⟩
  | d :: ds, acc, os, S, ho, hS, hq, hz, H => by
    have hl:=A7 hq
    obtain⟨us,us',e1,e2,hu⟩:=H d List.mem_cons_self os S acc ho hS hq (Nat.lt_of_lt_of_le (show acc.length<1001 by simp at hz;omega) (Nat.le_trans (by decide) (show 1001≤sizeLine by decide)))
    obtain⟨os',ho',e3⟩:=Qm hg hI (ds:=ds) (acc:=acc++[h d]) (os:=us') (S:=S.set q (.lst (acc++[h d]))) hu (hI S _ hS) (List.getElem?_set_self hl) (by simp at hz ⊢; omega) fun d' hd=>H d' (List.mem_cons_of_mem _ hd)
    refine⟨os',ho',?_⟩
    rw[Kn (hg S hS),e1,Eb,e2,Eb,Y5,e3,List.set_set]
    simp
noncomputable def un:D->Rat
 | .tup [.int n,.int d]=>(n:Rat) / (d:Rat)
 |_=>0
theorem ZX(r:Rat):un (aD r)=r:=D7 r
noncomputable def Qd(f:Rat->Rat->Rat):D->D
 | .tup [a,b]=>aD (f (un a) (un b))
 |d=>d
theorem OO{f:Rat->Rat->Rat}:∀{ss os:List Rat},(Ml (ss.map aD) (os.map aD)).map (Qd f)=(List.zipWith f ss os).map aD
  | [],os=>by simp[Ml]
  |s::ss,[]=>by simp[Ml]
  | s :: ss, o :: os => by
    have ih:=OO (f:=f) (ss:=ss) (os:=os)
    unfold Ml at ih⊢
    simp only[List.map_cons,List.zip_cons_cons,List.zipWith_cons_cons]at ih⊢
    rw[ih]
    simp[Qd,ZX]
theorem TL{ss os:List Rat}{d:D}(h:d∈Ml (ss.map aD) (os.map aD)):∃s∈ss,∃o∈os,d=.tup [aD s,aD o]:=by
 unfold Ml at h
 obtain⟨⟨a,b⟩,h1,rfl⟩:=List.mem_map.mp h
 have h2:=List.of_mem_zip h1
 obtain⟨s,hs,rfl⟩:=List.mem_map.mp h2.1
 obtain⟨o,ho,rfl⟩:=List.mem_map.mp h2.2
 exact⟨s,hs,o,ho,rfl⟩
theorem aR:aD 1=.tup [.int 1,.int 1]:=rfl
theorem Xw(n:Int):aD (n:Rat)=.tup [.int n,.int 1]:=by
 unfold aD
 simp
theorem X4{n:Int}{k:Nat}(h:n.natAbs<2^k)(hk:1≤k):Sz k (n:Rat):=by
 unfold Sz
 have:1<2^k:=Nat.one_lt_two_pow (by omega)
 simp[h,this]
theorem Xn{k:Nat}(hk:1≤k):Sz k (1:Rat):=by
 have:1<2^k:=Nat.one_lt_two_pow (by omega)
 exact⟨by simpa using this,by simpa using this⟩
theorem Rl{x:Rat}{ss os:List Rat}{j i:Nat}(hs:∀r∈ss,Sz j r)(ho:∀r∈os,Sz j r)(hx:Sz i x)(hj:2*j+2*i≤7900)(hl:ss.length≤10):∃S',EM [shD ss,aD x,shD os] S=some (shD (Gi x os ss),S')/\Ci [] S S':=by
 have hq:(S++[Cl.lst []])[S.length]?=some (.lst []):=List.getElem?_concat_length
 obtain⟨os',ho',e⟩:=Qm (gs:=[]) (t:=tTp [(tNm 4),(tNm 5)]) (b:=EO (O3 QD (eV 3) [(AJ Bu [(AJ Ak [(eV 4),(AJ Bh [(Bc [(eC (.int 1)),(eC (.int 1))]),(eV 1)])]),(AJ Ak [(eV 5),(eV 1)])])])) (C:=[some (shD ss),some (aD x),some (shD os),some (.ref S.length)]) (m:=2) (q:=S.length) (h:=Qd fun s o=>s*(1-x)+o*x) (I:=fun _=>True) (fun _ _=>Al) (fun _ _ _=>trivial)
  (ds:=Ml (ss.map aD) (os.map aD)) (acc:=[]) (os:=[none,none]) (S:=S++[Cl.lst []]) rfl trivial hq (by simp[LV];omega) (by
   intro d hd os0 S0 acc h0 _ hq0 hz
   obtain⟨o1,o2,rfl⟩:∃o1 o2,os0=[o1,o2]:=by
    match os0,h0 with
    | [a,b],_=>exact⟨a,b,rfl⟩
   obtain⟨s,hs',o,ho',rfl⟩:=TL hd
   have l1:=O9 (S:=S0) (Xn (k:=1) (by decide)) hx (by omega)
   have s1:=(bS (Xn (k:=1) (by decide)) hx)
   have l2:=JO (S:=S0) (hs s hs') s1 (by omega)
   have l3:=JO (S:=S0) (ho o ho') hx (by omega)
   have l4:=Pg (S:=S0) (Lg (hs s hs') s1) (Lg (ho o ho') hx) (by omega)
   rw[aR]at l1
   refine⟨[some (aD s),some (aD o)],[some (aD s),some (aD o)],by simp,?_,rfl⟩
   simp[l1,l2,l3,l4,Aa hq0,hz,Qd,ZX])
 rw[OO]at e
 refine⟨(S++[Cl.lst []]).set S.length (.lst ((Gi x os ss).map aD)),?_,?_⟩
 ·have e':NN [] (tTp [(tNm 4),(tNm 5)]) (EO (O3 QD (eV 3) [(AJ Bu [(AJ Ak [(eV 4),(AJ Bh [(Bc [(eC (.int 1)),(eC (.int 1))]),(eV 1)])]),(AJ Ak [(eV 5),(eV 1)])])])) (Ml (ss.map aD) (os.map aD)) [some (shD ss),some (aD x),some (shD os),some (.ref S.length),none,none] (S++[Cl.lst []])=some (.nx,[some (shD ss),some (aD x),some (shD os),some (.ref S.length)]++os',(S++[Cl.lst []]).set S.length (.lst ((Gi x os ss).map aD))):=by simpa[Gi]using e
  simp[EM,MM,e']
  rfl
 ·refine⟨by simp,fun n hn _=>?_⟩
  rw[List.getElem?_set_ne (by omega),List.getElem?_append_left hn]
end
section
variable{S:Sto}{p:Nat}
theorem getD_get{α:Type}{xs:List α}{n:Nat}{d:α}(h:n<xs.length):xs[n]?=some (xs.getD n d):=by
 rw[List.getD_eq_getElem?_getD,List.getElem?_eq_getElem h]
 rfl
theorem getD_mem{α:Type}{xs:List α}{n:Nat}{d:α}(h:n<xs.length):xs.getD n d∈xs:=List.mem_of_getElem? (getD_get h)
theorem UQ{ss:List Rat}{n:Nat}(h:n<ss.length):atI (ss.map aD) (n:Int)=some (aD (ss.getD n 0)):=Cb (by rw[List.getElem?_map,getD_get h];rfl)
theorem XZ{ss:List Rat}{n:Nat}(h:n<ss.length):ixN (ss.map aD).length (n:Int)=some n:=L6 (by simpa using h)
theorem So{p q:Nat}{x:Rat}{ss:List Rat}{j i:Nat}(hs:∀r∈ss,Sz j r)(hx:Sz i x)(hj:2*j+i≤7900)(hp:p<ss.length)(hq:q<ss.length)(hpq:p≠q):∃S',FR [shD ss,(AV.sell p q x).d] S=some (shD (B8 p q x ss),S')/\Ci [] S S':=by
 have sp:=hs _ (getD_mem (d:=0) hp)
 have sq:=hs _ (getD_mem (d:=0) hq)
 have l1:∀S,Ak [aD (ss.getD p 0),aD x] S=some (aD (ss.getD p 0*x),S):=fun S=>JO sp hx (by omega)
 have s1:=Lg sp hx
 have l2:∀S,Bh [aD (ss.getD p 0),aD (ss.getD p 0*x)] S=some (aD (ss.getD p 0-ss.getD p 0*x),S):=fun S=>O9 sp s1 (by omega)
 have l3:∀S,Bu [aD (ss.getD q 0),aD (ss.getD p 0*x)] S=some (aD (ss.getD q 0+ss.getD p 0*x),S):=fun S=>Pg sq s1 (by omega)
 have a1:=UQ hp
 have i1:=XZ hp
 have i2:ixN (((ss.map aD).set p (aD (ss.getD p 0-ss.getD p 0*x))).length) (q:Int)=some q:=L6 (by simpa using hq)
 have a2:atI ((ss.map aD).set p (aD (ss.getD p 0-ss.getD p 0*x))) (q:Int)=some (aD (ss.getD q 0)):=Cb (by
  rw[List.getElem?_set_ne hpq,List.getElem?_map,getD_get hq];rfl)
 refine⟨S++[.lst ((B8 p q x ss).map aD)],?_,.app⟩
 simp only[List.length_set,List.length_map]at i1 i2
 have em:(B8 p q x ss).map aD=((ss.map aD).set p (aD (ss.getD p 0-ss.getD p 0*x))).set q (aD (ss.getD q 0+ss.getD p 0*x)):=by rw[B8,List.map_set,List.map_set]
 unfold shD
 rw[em]
 generalize aD (ss.getD p 0-ss.getD p 0*x)=d1 at*
 generalize aD (ss.getD q 0+ss.getD p 0*x)=d2 at*
 generalize aD (ss.getD p 0*x)=d3 at*
 generalize aD (ss.getD p 0)=d4 at*
 generalize aD (ss.getD q 0)=d5 at*
 simp[FR,Nt,AV.d,a1,l1,l2,l3,i1,i2,a2]
theorem SW{x y:Ld}{a b:Nat}{j i:Nat}(ha:S[a]?=some (Ca x))(hb:S[b]?=some (Ca y))(hs:∀r∈x.ow,Sz j r)(ho:∀r∈y.ow,Sz j r)(hx:x.n.natAbs<2^i)(hy:y.n.natAbs<2^i)(h0:0<x.n+y.n)(h1:1≤i)(hj:2*j+4*i≤7900)(hl:x.ow.length≤10):∃S',GH [.ref a,.ref b] S=some (shD (Bf x.n y.n x.ow y.ow),S')/\Ci [] S S':=by
 have la:=A7 ha
 have lb:=A7 hb
 have hq:(S++[Cl.lst []])[S.length]?=some (.lst []):=List.getElem?_concat_length
 have ha':(S++[Cl.lst []])[a]?=some (Ca x):=by rw[List.getElem?_append_left la];exact ha
 have hb':(S++[Cl.lst []])[b]?=some (Ca y):=by rw[List.getElem?_append_left lb];exact hb
 obtain⟨os',ho',e⟩:=Qm (gs:=[]) (t:=tTp [(tNm 3),(tNm 4)]) (b:=Af (Bp 5 (AJ Bu [(AJ Ak [(Bc [(eOp (o2 wIx) [(eV 0),(eC (.int 1))]),(eC (.int 1))]),(eV 3)]),(AJ Ak [(Bc [(eOp (o2 wIx) [(eV 1),(eC (.int 1))]),(eC (.int 1))]),(eV 4)])]))
  (EO (O3 QD (eV 2) [(AJ Ak [(eV 5),(AJ By [(eC (.int 1)),(eOp (o2 Cv) [(eOp (o2 wIx) [(eV 0),(eC (.int 1))]),(eOp (o2 wIx) [(eV 1),(eC (.int 1))])])])])]))) (C:=[some (.ref a),some (.ref b),some (.ref S.length)]) (m:=3) (q:=S.length) (h:=Qd fun s o=>(s*x.n+o*y.n) / (x.n+y.n:Int)) (I:=fun S'=>S'[a]?=some (Ca x)/\S'[b]?=some (Ca y)) (fun _ _=>Al) (fun S' c h=>⟨by rw[List.getElem?_set_ne (by omega)];exact h.1,by rw[List.getElem?_set_ne (by omega)];exact h.2⟩)
  (ds:=Ml (x.ow.map aD) (y.ow.map aD)) (acc:=[]) (os:=[none,none,none]) (S:=S++[Cl.lst []]) rfl ⟨ha',hb'⟩ hq (by simp[LV];omega) (by
   intro d hd os0 S0 acc h0' hI hq0 hz
   obtain⟨o1,o2,o3,rfl⟩:∃o1 o2 o3,os0=[o1,o2,o3]:=by
    match os0,h0' with
    | [a,b,c],_=>exact⟨a,b,c,rfl⟩
   obtain⟨s,hs',o,ho',rfl⟩:=TL hd
   have d1:=BE hI.1
   have d2:=BE hI.2
   have z1:=X4 hx h1
   have z2:=X4 hy h1
   have l1:=JO (S:=S0) z1 (hs s hs') (by omega)
   have l2:=JO (S:=S0) z2 (ho o ho') (by omega)
   have s1:=Lg z1 (hs s hs')
   have s2:=Lg z2 (ho o ho')
   have l3:=Pg (S:=S0) s1 s2 (by omega)
   have b1:=Iu hx hy
   have l4:=WT (S:=S0) (t:=1) h0 (DY b1 (by omega))
   have s4:Sz (i+1) (((1:Int):Rat) / ((x.n+y.n:Int):Rat)):=L5 h0 (show(1:Int).natAbs<2^(i+1)from Nat.one_lt_two_pow (by omega)) b1
   have l5:=JO (S:=S0) (ae s1 s2) s4 (by omega)
   rw[Xw]at l1 l2
   refine⟨[some (aD s),some (aD o),o3],[some (aD s),some (aD o),some (aD (x.n*s+y.n*o))],by simp,?_,rfl⟩
   have ev:(((x.n:Rat)*s+(y.n:Rat)*o)*(((1:Int):Rat) / ((x.n+y.n:Int):Rat)))=(s*x.n+o*y.n) / (x.n+y.n:Int):=by
    push_cast
    grind
   rw[ev]at l5
   have lf:(Qd fun s o=>(s*x.n+o*y.n) / (x.n+y.n:Int)) (.tup [aD s,aD o])=aD ((s*x.n+o*y.n) / (x.n+y.n:Int)):=by simp only[Qd,ZX]
   rw[lf]
   generalize aD ((s*x.n+o*y.n) / (x.n+y.n:Int))=e5 at*
   generalize aD (((1:Int):Rat) / ((x.n+y.n:Int):Rat))=e4 at*
   generalize aD (x.n*s+y.n*o)=e3 at*
   simp[d1,d2,Ca,l1,l2,l3,l4,l5,Aa hq0,hz])
 rw[OO]at e
 refine⟨(S++[Cl.lst []]).set S.length (.lst ((Bf x.n y.n x.ow y.ow).map aD)),?_,?_⟩
 ·have e':=e
  simp only[List.cons_append,List.nil_append]at e'
  have d1:=BE ha'
  have d2:=BE hb'
  change NN _ _ _ _ _ _=some (_,_,List.set _ _ (Cl.lst (List.map aD (Bf x.n y.n x.ow y.ow))))at e'
  generalize Bf x.n y.n x.ow y.ow=rs at*
  simp[GH,K7,d1,d2,e',shD]
 ·refine⟨by simp,fun n hn _=>?_⟩
  rw[List.getElem?_set_ne (by omega),List.getElem?_append_left hn]
end
section
variable{S:Sto}{p:Nat}
theorem Cu{α:Type}{gs:Gd}{t:Tf}{f:Ev}{C:En}{m:Nat}{e g:α->D}{S:Sto}(hg:gOk gs S):∀{xs:List α} {acc:List D} {os:En},os.length=m->acc.length+xs.length≤sizeLine->
    (∀x∈xs,∀os,os.length=m->∃us,us.length=m/\t (e x) (C++os) S=some (C++us)/\f (C++us) S=some (g x,S))->
    CM gs t B3 f (xs.map e) acc (C++os) S=some (acc++xs.map g,S)
  | [],acc,os,ho,hz,h=>by rw[List.map_nil,Ek hg];simp
  | x :: xs, acc, os, ho, hz, h => by
    obtain⟨us,hu,e1,e2⟩:=h x List.mem_cons_self os ho
    rw[List.map_cons,Hy hg (by simp at hz;omega) e1 Ge,e2,Eb]
    rw[Cu hg hu (by simp at hz ⊢; omega) fun x' hx=>h x' (List.mem_cons_of_mem _ hx)]
    simp
theorem Fg{α:Type}{gs:Gd}{t:Tf}{c f:Ev}{C:En}{m:Nat}{e g:α->D}{b:α->Bool}{S:Sto}(hg:gOk gs S):∀{xs:List α} {acc:List D} {os:En},os.length=m->acc.length+xs.length≤sizeLine->
    (∀x∈xs,∀os,os.length=m->∃us,us.length=m/\t (e x) (C++os) S=some (C++us)/\c (C++us) S=some (.bl (b x),S)/\f (C++us) S=some (g x,S))->
    CM gs t c f (xs.map e) acc (C++os) S=some (acc++(xs.filter b).map g,S)
  | [],acc,os,ho,hz,h=>by rw[List.map_nil,Ek hg];simp
  | x :: xs, acc, os, ho, hz, h => by
    obtain⟨us,hu,e1,e2,e3⟩:=h x List.mem_cons_self os ho
    cases hb:b x with
    | true =>
      rw[hb]at e2
      rw[List.map_cons,Hy hg (by simp at hz;omega) e1 e2,e3,Eb,Fg hg hu (by simp at hz ⊢; omega) fun d' hd=>h d' (List.mem_cons_of_mem _ hd)]
      simp[hb]
    | false =>
      rw[hb]at e2
      rw[List.map_cons,Ji hg (by simp at hz;omega) e1 e2,Fg hg hu (by simp at hz ⊢; omega) fun d' hd=>h d' (List.mem_cons_of_mem _ hd)]
      simp[hb]
theorem WS{as:List Nat}{ls:List Ld}(h:as.length=ls.length):as.map D.ref=(as.zip ls).map fun z=>D.ref z.1:=by
 have:as=(as.zip ls).map Prod.fst:=(List.map_fst_zip (by omega)).symm
 conv=>lhs;rw[this]
 rw[List.map_map];rfl
theorem Zd{β:Type}{as:List Nat}{ls:List Ld}(h:as.length=ls.length)(g:Ld->β):ls.map g=(as.zip ls).map fun z=>g z.2:=by
 have:ls=(as.zip ls).map Prod.snd:=(List.map_snd_zip (by omega)).symm
 conv=>lhs;rw[this]
 rw[List.map_map];rfl
section
variable{s l m:Nat}{as:List Nat}{st:Stt}
theorem SAt.zmem(h:SAt S s l m as st){z:Nat×Ld}(hz:z∈as.zip st.loads):S[z.1]?=some (Ca z.2):=by
 obtain⟨i,hi⟩:=List.mem_iff_getElem?.mp hz
 have:=List.getElem?_zip_eq_some.mp hi
 exact h.ld i z.1 z.2 this.1 this.2
theorem SAt.at(h:SAt S s l m as st){i:Nat}(hi:i<st.loads.length):∃a,as[i]?=some a/\S[a]?=some (Ca (AO st.loads i))/\atI (as.map D.ref) (i:Int)=some (.ref a):=by
 have h1:i<as.length:=by rw[h.len];exact hi
 refine⟨as[i],List.getElem?_eq_getElem h1,h.ld i _ _ (List.getElem?_eq_getElem h1) (F5 hi),Cb (by rw[List.getElem?_map,List.getElem?_eq_getElem h1];rfl)⟩
theorem SAt.guard(h:SAt S s l m as st):gOk [(l,as.map D.ref)] S:=by
 intro g hg
 simp only[List.mem_cons,List.not_mem_nil,or_false]at hg
 subst hg
 exact Aa h.lo
end
theorem Su{M:Int}(hM:0≤M):∀{xs:List Int},(∀x∈xs,0≤x/\x≤M)->0≤xs.sum/\xs.sum≤xs.length*M
  | [],_=>by simp
  | x :: xs, h => by
    have h1:=h x List.mem_cons_self
    have h2:=Su hM fun y hy=>h y (List.mem_cons_of_mem _ hy)
    simp only[List.sum_cons,List.length_cons]
    refine⟨by omega,?_⟩
    have:((xs.length+1:Nat):Int)*M=xs.length*M+M:=by push_cast;grind
    omega
theorem Nv:∀{xs:List Int} {y:Int},(∀x∈xs,0≤x)->y∈xs->y≤xs.sum
  | x :: xs, y, h, hy => by
    have h1:=h x List.mem_cons_self
    have h2:0≤xs.sum:=by
      clear hy
      induction xs with
      |nil=>simp
      | cons z zs ih =>
        have:=h z (by simp)
        have:=ih fun w hw=>h w (by simp at hw ⊢; rcases hw with hw|hw<;>simp[hw])
        simp only[List.sum_cons];omega
    simp only[List.sum_cons]
    rcases List.mem_cons.mp hy with e|e
    ·omega
    · have := Nv (fun z hz => h z (List.mem_cons_of_mem _ hz)) e
      omega
section
variable{t:Tr}{k:Nat}{st:Stt}{ws:List Int}{n:Int}{l:Nat}
theorem MJ{i:Nat}(hw:∀w∈ws,1≤w/\w≤99)(hi:i<ws.length):1≤ws.getD i 0/\ws.getD i 0≤99:=hw _ (getD_mem hi)
theorem Ra{i:Nat}(hi:i<ws.length):atI (ws.map D.int) (i:Int)=some (.int (ws.getD i 0)):=Cb (by rw[List.getElem?_map,getD_get hi];rfl)
theorem N3(hi:ws.length=k+1):atI (ws.map D.int) (-1:Int)=some (.int (ws.getD k 0)):=by
 have ix:ixN (ws.map D.int).length (-1)=some k:=by
  rw[List.length_map,hi]
  unfold ixN
  simp
  omega
 unfold atI
 rw[ix]
 show(ws.map D.int)[k]?=_
 rw[List.getElem?_map,getD_get (d:=(0:Int)) (by omega)]
 rfl
theorem Ii(ht:Jj t)(h:Du t k st)(hk:k≤20)(hl:ws.length=t.k+1)(hw:∀w∈ws,1≤w/\w≤99):0<Ct t st.loads ws/\Ct t st.loads ws<2^(145+k):=by
 obtain⟨t1,t2,t3,t4,t5,t6⟩:=ht
 have hP:(0:Int)≤2^(131+k):=Int.le_of_lt (Int.pow_pos (by decide))
 have hs:=Su (M:=2^(131+k)*99) (by omega) (xs:=st.loads.map fun l=>l.n*ws.getD l.k 0) (by
  intro x hx
  obtain⟨y,hy,rfl⟩:=List.mem_map.mp hx
  have h1:=h.pcs y hy
  have h2:=MJ hw (i:=y.k) (by have:=h.kind y hy;omega)
  refine⟨Int.mul_nonneg h1.1 (by omega),Int.mul_le_mul (by omega) h2.2 (by omega) hP⟩)
 have hb:=MJ hw (i:=t.k) (by omega)
 have hlen:=h.len
 rw[List.length_map]at hs
 have h3:(st.loads.length:Int)*(2^(131+k)*99)≤24*(2^(131+k)*99):=Int.mul_le_mul_of_nonneg_right (by omega) (by omega)
 have h4:(1:Int)≤t.b*ws.getD t.k 0:=by
  have:0<(t.b:Int)*ws.getD t.k 0:=Int.mul_pos (by omega) (by omega)
  omega
 have h5:t.b*ws.getD t.k 0≤20*99:=Int.mul_le_mul (by omega) hb.2 (by omega) (by decide)
 have h6:(2:Int)^(145+k)=2^(131+k)*16384:=by rw[show 145+k=(131+k)+14 by omega,Int.pow_add];rfl
 have h7:(1:Int)≤2^(131+k):=by have:(0:Int)<2^(131+k):=Int.pow_pos (by decide);omega
 have h7':(2:Int)^11≤2^(131+k):=by
  have:(2^11:Nat)≤2^(131+k):=Nat.pow_le_pow_right (by decide) (by omega)
  exact_mod_cast this
 unfold Ct
 rw[h6]
 generalize (2:Int)^(131+k)=P at*
 omega
theorem Ut(ht:Jj t)(h:Du t k st)(hl:ws.length=t.k+1)(hw:∀w∈ws,1≤w/\w≤99)(hi:l<st.loads.length)(h1:1≤n)(h2:n≤(AO st.loads l).n):0<n*ws.getD (AO st.loads l).k 0/\n*ws.getD (AO st.loads l).k 0<Ct t st.loads ws:=by
 obtain⟨t1,t2,t3,t4,t5,t6⟩:=ht
 have hw1:=MJ hw (i:=(AO st.loads l).k) (by have:=h.kind _ (AX hi);omega)
 have hb:=MJ hw (i:=t.k) (by omega)
 have h4:(1:Int)≤t.b*ws.getD t.k 0:=by
  have:0<(t.b:Int)*ws.getD t.k 0:=Int.mul_pos (by omega) (by omega)
  omega
 have h5:=Nv (xs:=st.loads.map fun l=>l.n*ws.getD l.k 0) (y:=(AO st.loads l).n*ws.getD (AO st.loads l).k 0) (by
  intro x hx
  obtain⟨y,hy,rfl⟩:=List.mem_map.mp hx
  have h1:=h.pcs y hy
  have h2:=MJ hw (i:=y.k) (by have:=h.kind y hy;omega)
  exact Int.mul_nonneg h1.1 (by omega)) (List.mem_map.mpr ⟨_,AX hi,rfl⟩)
 have h6:n*ws.getD (AO st.loads l).k 0≤(AO st.loads l).n*ws.getD (AO st.loads l).k 0:=Int.mul_le_mul_of_nonneg_right h2 (by omega)
 refine⟨Int.mul_pos (by omega) (by omega),?_⟩
 unfold Ct
 omega
theorem LY(hi:l<st.loads.length):Jg t st.loads l n ws=((n*ws.getD (AO st.loads l).k 0:Int):Rat) / (Ct t st.loads ws:Rat):=by
 unfold Jg
 rw[F5 hi]
 rfl
theorem GN{x:Int}{j:Nat}(h0:0≤x)(h1:x<2^j):x.natAbs<2^j:=by
 have:((x.natAbs:Nat):Int)<((2^j:Nat):Int):=by
  rw[Int.natAbs_of_nonneg h0];push_cast;exact h1
 exact_mod_cast this
theorem Ss(ht:Jj t)(h:Du t k st)(hk:k≤20)(hl:ws.length=t.k+1)(hw:∀w∈ws,1≤w/\w≤99)(hi:l<st.loads.length)(h1:1≤n)(h2:n≤(AO st.loads l).n):Sz (145+k) (Jg t st.loads l n ws):=by
 have a:=Ii ht h hk hl hw
 have b:=Ut ht h hl hw hi h1 h2
 rw[LY hi]
 exact L5 a.1 (GN (by omega) (by omega)) (GN (by omega) a.2)
theorem Yi{s r m:Nat}{as:List Nat}(hS:SAt S s r m as st)(ht:Jj t)(h:Du t k st)(hk:k≤20)(hl:ws.length=t.k+1)(hw:∀w∈ws,1≤w/\w≤99)(hi:l<st.loads.length)(h1:1≤n)(h2:n≤(AO st.loads l).n):Ie [t.d,.ref r,(AV.thr l n ws).d] S=some (aD (Jg t st.loads l n ws),S):=by
 have a:=Ii ht h hk hl hw
 obtain⟨x,x1,x2,x3⟩:=hS.at hi
 have hlen:=h.len
 have e:=Cu (gs:=[(r,as.map D.ref)]) (t:=tTp [(tNm 1),(tNm 2),(tNm 3)]) (f:=eOp (o2 Bx) [(eV 2),(eOp (o2 wIx) [(eV 0),(eV 1)])]) (C:=[some (.tup (ws.map D.int))]) (m:=3) (e:=fun z:Nat×Ld=>D.ref z.1) (g:=fun z=>D.int (z.2.n*ws.getD z.2.k 0)) hS.guard (xs:=as.zip st.loads) (acc:=[]) (os:=[none,none,none]) rfl (Nat.le_trans (show _≤24 by simp;omega) (AW (by decide))) (by
  intro z hz os ho
  obtain⟨q1,q2,q3,rfl⟩:∃q1 q2 q3,os=[q1,q2,q3]:=by
   match os,ho with
   | [a,b,c],_=>exact⟨a,b,c,rfl⟩
  have c1:=hS.zmem hz
  have hm:z.2∈st.loads:=(List.of_mem_zip (a:=z.1) (b:=z.2) hz).2
  have hk:=h.kind _ hm
  have w1:=Ra (ws:=ws) (i:=z.2.k) (by omega)
  have w2:=MJ hw (i:=z.2.k) (by omega)
  have m1:Ds z.2.n (ws.getD z.2.k 0)=true:=mulR (by omega) (by omega)
  generalize ws.getD z.2.k 0=wz at*
  refine⟨[some (.int z.2.k),some (.int z.2.n),some (shD z.2.ow)],rfl,?_,?_⟩
  ·simp[Aa c1,Ca]
  ·simp[w1,m1])
 rw[←WS hS.len,←Zd hS.len (fun x=>D.int (x.n*ws.getD x.k 0))]at e
 have e':=e
 simp only[List.cons_append,List.nil_append]at e'
 rw[LY hi]
 have es:LG (st.loads.map fun x=>D.int (x.n*ws.getD x.k 0))=some (st.loads.map fun x=>x.n*ws.getD x.k 0):=by
  have:=GY (st.loads.map fun x=>x.n*ws.getD x.k 0)
  rwa [List.map_map]at this
 have w1:=Ra (ws:=ws) (i:=(AO st.loads l).k) (by have:=h.kind _ (AX hi);omega)
 have w3:=MJ hw (i:=(AO st.loads l).k) (by have:=h.kind _ (AX hi);omega)
 have w2:=N3 hl
 have w4:=MJ hw (i:=t.k) (by omega)
 have m1:Ds n (ws.getD (AO st.loads l).k 0)=true:=mulR (by omega) (by omega)
 have m2:Ds (t.b:Int) (ws.getD t.k 0)=true:=mulR (by omega) (by omega)
 have l1:=WT (S:=S) (t:=n*ws.getD (AO st.loads l).k 0) a.1 (DY (GN (by omega) a.2) (by omega))
 have e2:Ct t st.loads ws=(st.loads.map fun x=>x.n*ws.getD x.k 0).sum+t.b*ws.getD t.k 0:=rfl
 rw[e2]at l1⊢
 generalize aD (((n*ws.getD (AO st.loads l).k 0:Int):Rat) / (((st.loads.map fun x=>x.n*ws.getD x.k 0).sum+t.b*ws.getD t.k 0:Int):Rat))=R at*
 generalize (st.loads.map fun x=>x.n*ws.getD x.k 0)=es' at*
 generalize (st.loads.map fun x=>D.int (x.n*ws.getD x.k 0))=es2 at*
 generalize ws.getD (AO st.loads l).k 0=wa at*
 generalize ws.getD t.k 0=wb at*
 have dx:=BE x2
 have dl:=BE hS.lo
 simp[Ie,Nb,AV.d,Tr.d,IZ hS.lo,e',es,w2,m2,dl,x3,dx,Ca,w1,m1,l1]
theorem MX{G B:Nat}(ht:Jj t)(h:Du t k st)(hk:k≤20)(hl:ws.length=t.k+1)(hw:∀w∈ws,1≤w/\w≤99)(hi:l<st.loads.length)(h1:1≤n)(h2:n≤(AO st.loads l).n){os ss:List Rat}(ho:∀r∈os,Ok G B r)(hs:∀r∈ss,Ok G B r):∀r∈Gi (Jg t st.loads l n ws) os ss,Ok (G*(Ct t st.loads ws).toNat) (B*(Ct t st.loads ws).toNat) r:=by
 have a:=Ii ht h hk hl hw
 have b:=Ut ht h hl hw hi h1 h2
 intro r hr
 unfold Gi at hr
 rw[List.mem_iff_getElem?]at hr
 obtain⟨i,hi'⟩:=hr
 rw[List.getElem?_zipWith_eq_some]at hi'
 obtain⟨x,y,hx,hy,rfl⟩:=hi'
 rw[LY hi]
 generalize n*ws.getD (AO st.loads l).k 0=c at*
 generalize Ct t st.loads ws=W at*
 have:=Ok.mix (a:=(W-c).toNat) (b:=c.toNat) (t:=W.toNat) (hs x (List.mem_of_getElem? hx)) (ho y (List.mem_of_getElem? hy)) (by omega) (by omega)
 have e1:(((W-c).toNat:Nat):Rat)=(W:Rat)-(c:Rat):=by
  have:(((W-c).toNat:Nat):Int)=W-c:=Int.toNat_of_nonneg (by omega)
  have:((((W-c).toNat:Nat):Int):Rat)=((W-c:Int):Rat):=by rw[this]
  push_cast at this
  exact this
 have e2:((c.toNat:Nat):Rat)=(c:Rat):=by
  have:((c.toNat:Nat):Int)=c:=Int.toNat_of_nonneg (by omega)
  have:(((c.toNat:Nat):Int):Rat)=(c:Rat):=by rw[this]
  exact this
 have e3:((W.toNat:Nat):Rat)=(W:Rat):=by
  have:((W.toNat:Nat):Int)=W:=Int.toNat_of_nonneg (by omega)
  have:(((W.toNat:Nat):Int):Rat)=(W:Rat):=by rw[this]
  exact this
 rw[e1,e2,e3]at this
 have ne:(W:Rat)≠0:=by
  intro z
  have:=Rat.intCast_eq_zero_iff.mp z
  omega
 have ev:(x*((W:Rat)-(c:Rat))+y*(c:Rat)) / (W:Rat)=x*(1-(c:Rat) / (W:Rat))+y*((c:Rat) / (W:Rat)):=by grind
 rw[ev]at this
 exact this
end
end
section
variable{S:Sto}
theorem Ao{x y:Str}(h:PyData.strOk x=true)(g:PyData.strOk y=true):Dx (.str x) (.str y)=true:=by
 unfold Dx
 show(PyData.strOk x && PyData.strOk y && _)=true
 rw[h,g]
 rfl
theorem DB:PyData.strOk (Str.ofString "bring")=true:=by decide+kernel
theorem E7:PyData.strOk (Str.ofString "pool")=true:=by decide+kernel
theorem Ez:PyData.strOk (Str.ofString "swap")=true:=by decide+kernel
theorem DF:PyData.strOk (Str.ofString "trade")=true:=by decide+kernel
theorem EZ:PyData.strOk (Str.ofString "spoil")=true:=by decide+kernel
theorem DA:PyData.strOk (Str.ofString "throw")=true:=by decide+kernel
theorem EX:PyData.strOk (Str.ofString "sell")=true:=by decide+kernel
@[simp] theorem VM:Dx (.str (Str.ofString "bring")) (.str (Str.ofString "bring"))=true:=Ao DB DB
@[simp] theorem VH:deq (.str (Str.ofString "bring")) (.str (Str.ofString "bring"))=true:=nr rfl
@[simp] theorem Vq:Dx (.str (Str.ofString "bring")) (.str (Str.ofString "pool"))=true:=Ao DB E7
@[simp] theorem Wn:deq (.str (Str.ofString "bring")) (.str (Str.ofString "pool"))=false:=nr rfl
@[simp] theorem WA:Dx (.str (Str.ofString "bring")) (.str (Str.ofString "swap"))=true:=Ao DB Ez
@[simp] theorem WN:deq (.str (Str.ofString "bring")) (.str (Str.ofString "swap"))=false:=nr rfl
@[simp] theorem VL:Dx (.str (Str.ofString "bring")) (.str (Str.ofString "trade"))=true:=Ao DB DF
@[simp] theorem Uz:deq (.str (Str.ofString "bring")) (.str (Str.ofString "trade"))=false:=nr rfl
@[simp] theorem U0:Dx (.str (Str.ofString "bring")) (.str (Str.ofString "throw"))=true:=Ao DB DA
@[simp] theorem VD:deq (.str (Str.ofString "bring")) (.str (Str.ofString "throw"))=false:=nr rfl
@[simp] theorem Wm:Dx (.str (Str.ofString "bring")) (.str (Str.ofString "sell"))=true:=Ao DB EX
@[simp] theorem Wo:deq (.str (Str.ofString "bring")) (.str (Str.ofString "sell"))=false:=nr rfl
@[simp] theorem XJ:wIn false (.val (.str "bring")) (.val (.tup [.str "spoil",.str "throw"]))=some (.val (.bl false)):=nr rfl
@[simp] theorem WI:Dx (.str (Str.ofString "pool")) (.str (Str.ofString "bring"))=true:=Ao E7 DB
@[simp] theorem Vk:deq (.str (Str.ofString "pool")) (.str (Str.ofString "bring"))=false:=nr rfl
@[simp] theorem YE:Dx (.str (Str.ofString "pool")) (.str (Str.ofString "pool"))=true:=Ao E7 E7
@[simp] theorem XY:deq (.str (Str.ofString "pool")) (.str (Str.ofString "pool"))=true:=nr rfl
@[simp] theorem WX:Dx (.str (Str.ofString "pool")) (.str (Str.ofString "trade"))=true:=Ao E7 DF
@[simp] theorem Vn:deq (.str (Str.ofString "pool")) (.str (Str.ofString "trade"))=false:=nr rfl
@[simp] theorem XM:Dx (.str (Str.ofString "pool")) (.str (Str.ofString "throw"))=true:=Ao E7 DA
@[simp] theorem XN:deq (.str (Str.ofString "pool")) (.str (Str.ofString "throw"))=false:=nr rfl
@[simp] theorem Xs:Dx (.str (Str.ofString "pool")) (.str (Str.ofString "sell"))=true:=Ao E7 EX
@[simp] theorem X9:deq (.str (Str.ofString "pool")) (.str (Str.ofString "sell"))=false:=nr rfl
@[simp] theorem iD:wIn false (.val (.str "pool")) (.val Dd)=some (.val (.bl true)):=nr rfl
@[simp] theorem WJ:Dx (.str (Str.ofString "swap")) (.str (Str.ofString "bring"))=true:=Ao Ez DB
@[simp] theorem W6:deq (.str (Str.ofString "swap")) (.str (Str.ofString "bring"))=false:=nr rfl
@[simp] theorem YF:Dx (.str (Str.ofString "swap")) (.str (Str.ofString "pool"))=true:=Ao Ez E7
@[simp] theorem Xx:deq (.str (Str.ofString "swap")) (.str (Str.ofString "pool"))=false:=nr rfl
@[simp] theorem X8:Dx (.str (Str.ofString "swap")) (.str (Str.ofString "swap"))=true:=Ao Ez Ez
@[simp] theorem Xf:deq (.str (Str.ofString "swap")) (.str (Str.ofString "swap"))=true:=nr rfl
@[simp] theorem WO:Dx (.str (Str.ofString "swap")) (.str (Str.ofString "trade"))=true:=Ao Ez DF
@[simp] theorem WH:deq (.str (Str.ofString "swap")) (.str (Str.ofString "trade"))=false:=nr rfl
@[simp] theorem Va:Dx (.str (Str.ofString "swap")) (.str (Str.ofString "throw"))=true:=Ao Ez DA
@[simp] theorem WC:deq (.str (Str.ofString "swap")) (.str (Str.ofString "throw"))=false:=nr rfl
@[simp] theorem Xq:Dx (.str (Str.ofString "swap")) (.str (Str.ofString "sell"))=true:=Ao Ez EX
@[simp] theorem Xz:deq (.str (Str.ofString "swap")) (.str (Str.ofString "sell"))=false:=nr rfl
@[simp] theorem Yu:wIn false (.val (.str "swap")) (.val (.tup [.str "swap",.str "trade"]))=some (.val (.bl true)):=nr rfl
@[simp] theorem hU:wIn false (.val (.str "swap")) (.val Dd)=some (.val (.bl true)):=nr rfl
@[simp] theorem U2:Dx (.str (Str.ofString "trade")) (.str (Str.ofString "bring"))=true:=Ao DF DB
@[simp] theorem VP:deq (.str (Str.ofString "trade")) (.str (Str.ofString "bring"))=false:=nr rfl
@[simp] theorem WD:Dx (.str (Str.ofString "trade")) (.str (Str.ofString "pool"))=true:=Ao DF E7
@[simp] theorem XF:deq (.str (Str.ofString "trade")) (.str (Str.ofString "pool"))=false:=nr rfl
@[simp] theorem Vp:Dx (.str (Str.ofString "trade")) (.str (Str.ofString "swap"))=true:=Ao DF Ez
@[simp] theorem WM:deq (.str (Str.ofString "trade")) (.str (Str.ofString "swap"))=false:=nr rfl
@[simp] theorem U8:Dx (.str (Str.ofString "trade")) (.str (Str.ofString "trade"))=true:=Ao DF DF
@[simp] theorem VI:deq (.str (Str.ofString "trade")) (.str (Str.ofString "trade"))=true:=nr rfl
@[simp] theorem U7:Dx (.str (Str.ofString "trade")) (.str (Str.ofString "throw"))=true:=Ao DF DA
@[simp] theorem U4:deq (.str (Str.ofString "trade")) (.str (Str.ofString "throw"))=false:=nr rfl
@[simp] theorem WU:Dx (.str (Str.ofString "trade")) (.str (Str.ofString "sell"))=true:=Ao DF EX
@[simp] theorem XU:deq (.str (Str.ofString "trade")) (.str (Str.ofString "sell"))=false:=nr rfl
@[simp] theorem Xu:wIn false (.val (.str "trade")) (.val (.tup [.str "swap",.str "trade"]))=some (.val (.bl true)):=nr rfl
@[simp] theorem eB:wIn false (.val (.str "trade")) (.val Dd)=some (.val (.bl true)):=nr rfl
@[simp] theorem VO:Dx (.str (Str.ofString "spoil")) (.str (Str.ofString "bring"))=true:=Ao EZ DB
@[simp] theorem U5:deq (.str (Str.ofString "spoil")) (.str (Str.ofString "bring"))=false:=nr rfl
@[simp] theorem Wq:Dx (.str (Str.ofString "spoil")) (.str (Str.ofString "pool"))=true:=Ao EZ E7
@[simp] theorem XE:deq (.str (Str.ofString "spoil")) (.str (Str.ofString "pool"))=false:=nr rfl
@[simp] theorem W0:Dx (.str (Str.ofString "spoil")) (.str (Str.ofString "swap"))=true:=Ao EZ Ez
@[simp] theorem Wf:deq (.str (Str.ofString "spoil")) (.str (Str.ofString "swap"))=false:=nr rfl
@[simp] theorem VF:Dx (.str (Str.ofString "spoil")) (.str (Str.ofString "trade"))=true:=Ao EZ DF
@[simp] theorem U6:deq (.str (Str.ofString "spoil")) (.str (Str.ofString "trade"))=false:=nr rfl
@[simp] theorem VR:Dx (.str (Str.ofString "spoil")) (.str (Str.ofString "spoil"))=true:=Ao EZ EZ
@[simp] theorem U9:deq (.str (Str.ofString "spoil")) (.str (Str.ofString "spoil"))=true:=nr rfl
@[simp] theorem VC:Dx (.str (Str.ofString "spoil")) (.str (Str.ofString "throw"))=true:=Ao EZ DA
@[simp] theorem VA:deq (.str (Str.ofString "spoil")) (.str (Str.ofString "throw"))=false:=nr rfl
@[simp] theorem Wg:Dx (.str (Str.ofString "spoil")) (.str (Str.ofString "sell"))=true:=Ao EZ EX
@[simp] theorem Vm:deq (.str (Str.ofString "spoil")) (.str (Str.ofString "sell"))=false:=nr rfl
@[simp] theorem Xe:wIn false (.val (.str "spoil")) (.val (.tup [.str "swap",.str "trade"]))=some (.val (.bl false)):=nr rfl
@[simp] theorem VZ:wIn false (.val (.str "spoil")) (.val (.tup [.str "spoil",.str "throw"]))=some (.val (.bl true)):=nr rfl
@[simp] theorem fC:wIn false (.val (.str "spoil")) (.val Dd)=some (.val (.bl false)):=nr rfl
@[simp] theorem VN:Dx (.str (Str.ofString "throw")) (.str (Str.ofString "bring"))=true:=Ao DA DB
@[simp] theorem VB:deq (.str (Str.ofString "throw")) (.str (Str.ofString "bring"))=false:=nr rfl
@[simp] theorem W4:Dx (.str (Str.ofString "throw")) (.str (Str.ofString "pool"))=true:=Ao DA E7
@[simp] theorem XA:deq (.str (Str.ofString "throw")) (.str (Str.ofString "pool"))=false:=nr rfl
@[simp] theorem V9:Dx (.str (Str.ofString "throw")) (.str (Str.ofString "swap"))=true:=Ao DA Ez
@[simp] theorem Vg:deq (.str (Str.ofString "throw")) (.str (Str.ofString "swap"))=false:=nr rfl
@[simp] theorem U1:Dx (.str (Str.ofString "throw")) (.str (Str.ofString "trade"))=true:=Ao DA DF
@[simp] theorem U3:deq (.str (Str.ofString "throw")) (.str (Str.ofString "trade"))=false:=nr rfl
@[simp] theorem VQ:Dx (.str (Str.ofString "throw")) (.str (Str.ofString "spoil"))=true:=Ao DA EZ
@[simp] theorem VE:deq (.str (Str.ofString "throw")) (.str (Str.ofString "spoil"))=false:=nr rfl
@[simp] theorem VJ:Dx (.str (Str.ofString "throw")) (.str (Str.ofString "throw"))=true:=Ao DA DA
@[simp] theorem VG:deq (.str (Str.ofString "throw")) (.str (Str.ofString "throw"))=true:=nr rfl
@[simp] theorem Xc:wIn false (.val (.str "throw")) (.val (.tup [.str "swap",.str "trade"]))=some (.val (.bl false)):=nr rfl
@[simp] theorem W9:wIn false (.val (.str "throw")) (.val (.tup [.str "spoil",.str "throw"]))=some (.val (.bl true)):=nr rfl
@[simp] theorem fY:wIn false (.val (.str "throw")) (.val Dd)=some (.val (.bl false)):=nr rfl
@[simp] theorem XQ:Dx (.str (Str.ofString "sell")) (.str (Str.ofString "bring"))=true:=Ao EX DB
@[simp] theorem W7:deq (.str (Str.ofString "sell")) (.str (Str.ofString "bring"))=false:=nr rfl
@[simp] theorem X5:Dx (.str (Str.ofString "sell")) (.str (Str.ofString "pool"))=true:=Ao EX E7
@[simp] theorem YD:deq (.str (Str.ofString "sell")) (.str (Str.ofString "pool"))=false:=nr rfl
@[simp] theorem Xk:Dx (.str (Str.ofString "sell")) (.str (Str.ofString "swap"))=true:=Ao EX Ez
@[simp] theorem Xj:deq (.str (Str.ofString "sell")) (.str (Str.ofString "swap"))=false:=nr rfl
@[simp] theorem VW:Dx (.str (Str.ofString "sell")) (.str (Str.ofString "trade"))=true:=Ao EX DF
@[simp] theorem VS:deq (.str (Str.ofString "sell")) (.str (Str.ofString "trade"))=false:=nr rfl
@[simp] theorem Vz:Dx (.str (Str.ofString "sell")) (.str (Str.ofString "spoil"))=true:=Ao EX EZ
@[simp] theorem Vy:deq (.str (Str.ofString "sell")) (.str (Str.ofString "spoil"))=false:=nr rfl
@[simp] theorem Vf:Dx (.str (Str.ofString "sell")) (.str (Str.ofString "throw"))=true:=Ao EX DA
@[simp] theorem Wh:deq (.str (Str.ofString "sell")) (.str (Str.ofString "throw"))=false:=nr rfl
@[simp] theorem Xg:Dx (.str (Str.ofString "sell")) (.str (Str.ofString "sell"))=true:=Ao EX EX
@[simp] theorem Xr:deq (.str (Str.ofString "sell")) (.str (Str.ofString "sell"))=true:=nr rfl
@[simp] theorem Yr:wIn false (.val (.str "sell")) (.val (.tup [.str "swap",.str "trade"]))=some (.val (.bl false)):=nr rfl
@[simp] theorem Xi:wIn false (.val (.str "sell")) (.val (.tup [.str "spoil",.str "throw"]))=some (.val (.bl false)):=nr rfl
@[simp] theorem hJ:wIn false (.val (.str "sell")) (.val Dd)=some (.val (.bl false)):=nr rfl
@[simp] theorem Z4:dr S Dd=.val Dd:=nr rfl
section
variable{a b c d e f:D}{r:List D}
@[simp] theorem dG:KU [a,b,c,d,e] (some (-4)) none=[b,c,d,e]:=nr rfl
@[simp] theorem dY:KU [a,b,c,d,e,f] (some (-4)) none=[c,d,e,f]:=nr rfl
@[simp] theorem gF:KU [a,b,c,d] (some 1) none=[b,c,d]:=nr rfl
@[simp] theorem dW:KU [a,b,c,d,e] (some 1) (some 2)=[b]:=nr rfl
@[simp] theorem cj:KU [a,b,c,d,e,f] (some 1) (some 2)=[b]:=nr rfl
@[simp] theorem cK{ds zs:List D}:cU S ds [.tup zs]=if ds.length+zs.length≤sizeLine then some (.non,ds++zs)else none:=nr rfl
end
end
section
variable{S S':Sto}{s l m:Nat}{as:List Nat}{st:Stt}
theorem SAt.same(h:SAt S s l m as st)(g:Ci A S S')(hA:∀n∈A,n∉s::l::m::as):SAt S' s l m as st where
 root:=g.get h.root fun z=>hA _ z (by simp)
 lo:=g.get h.lo fun z=>hA _ z (by simp)
 nu:=g.get h.nu fun z=>hA _ z (by simp)
 ld:=fun i a x ha hx=>g.get (h.ld i a x ha hx) fun z=>hA _ z (by simp[List.mem_of_getElem? ha])
 len:=h.len
 nd:=h.nd
theorem SAt.same0(h:SAt S s l m as st)(g:Ci [] S S'):SAt S' s l m as st:=h.same g fun _ z=>(nomatch z)
theorem SAt.ne(h:SAt S s l m as st):s≠l/\s≠m/\l≠m/\s∉as/\l∉as/\m∉as/\as.Nodup:=by
 have:=h.nd
 simp only[List.nodup_cons,List.mem_cons,not_or]at this
 obtain⟨⟨a,b,c⟩,⟨d,e⟩,f,g⟩:=this
 exact⟨a,b,d,c,e,f,g⟩
theorem SAt.setld(h:SAt S s l m as st){i a:Nat}{y:Ld}(ha:as[i]?=some a):SAt (S.set a (Ca y)) s l m as {st with loads:=st.loads.set i y}:=by
 obtain⟨n1,n2,n3,n4,n5,n6,n7⟩:=h.ne
 have ma:=List.mem_of_getElem? ha
 have q1:a≠s:=fun e=>n4 (e▸ma)
 have q2:a≠l:=fun e=>n5 (e▸ma)
 have q3:a≠m:=fun e=>n6 (e▸ma)
 have hi:i<as.length:=(List.getElem?_eq_some_iff.mp ha).1
 have hi':i<st.loads.length:=by rw[←h.len];exact hi
 refine⟨by rw[List.getElem?_set_ne q1];exact h.root,by rw[List.getElem?_set_ne q2];exact h.lo,by rw[List.getElem?_set_ne q3];exact h.nu,?_,by simp[h.len],h.nd⟩
 intro j b x hb hx
 by_cases e:i=j
 ·subst e
  rw[ha]at hb
  cases hb
  have hx':(st.loads.set i y)[i]?=some x:=hx
  rw[List.getElem?_set_self hi']at hx'
  cases hx'
  have hl:a<S.length:=A7 (h.ld i a _ ha (List.getElem?_eq_getElem hi'))
  exact List.getElem?_set_self hl
 ·have hx':(st.loads.set i y)[j]?=some x:=hx
  rw[List.getElem?_set_ne e]at hx'
  have:a≠b:=by
   intro z
   subst z
   exact e ((List.getElem?_inj hi n7).mp (ha.trans hb.symm))
  rw[List.getElem?_set_ne this]
  exact h.ld j b x hb hx'
theorem SAt.lts(h:SAt S s l m as st):∀n∈s::l::m::as,n<S.length:=by
 intro n hn
 simp only[List.mem_cons]at hn
 rcases hn with rfl|rfl|rfl|hn
 ·exact A7 h.root
 ·exact A7 h.lo
 ·exact A7 h.nu
 ·obtain⟨i,hi⟩:=List.mem_iff_getElem?.mp hn
  have:i<st.loads.length:=by rw[←h.len];exact(List.getElem?_eq_some_iff.mp hi).1
  exact A7 (h.ld i n _ hi (List.getElem?_eq_getElem this))
theorem SAt.app(h:SAt S s l m as st)(y:Ld):SAt ((S++[Ca y]).set l (.lst (as.map D.ref++[.ref S.length]))) s l m (as++[S.length]) {st with loads:=st.loads++[y]}:=by
 obtain⟨n1,n2,n3,n4,n5,n6,n7⟩:=h.ne
 have lt:=h.lts
 have ls:=lt s (by simp);have ll:=lt l (by simp);have lm:=lt m (by simp)
 have la:∀a∈as,a<S.length:=fun a ha=>lt a (by simp[ha])
 refine⟨?_,?_,?_,?_,by simp[h.len],?_⟩
 ·rw[List.getElem?_set_ne (Ne.symm n1),List.getElem?_append_left ls];exact h.root
 ·rw[List.getElem?_set_self (by simp;omega)];simp
 ·rw[List.getElem?_set_ne n3,List.getElem?_append_left lm];exact h.nu
 ·intro i a x ha hx
  by_cases e:i<as.length
  ·rw[List.getElem?_append_left e]at ha
   have hx':(st.loads++[y])[i]?=some x:=hx
   rw[List.getElem?_append_left (by rw[←h.len];exact e)]at hx'
   have ma:=List.mem_of_getElem? ha
   rw[List.getElem?_set_ne (show l≠a by rintro rfl;exact n5 ma),List.getElem?_append_left (la a ma)]
   exact h.ld i a x ha hx'
  ·have hx':(st.loads++[y])[i]?=some x:=hx
   have:i=as.length:=by
    have:=(List.getElem?_eq_some_iff.mp ha).1
    simp at this;omega
   subst this
   rw[List.getElem?_concat_length]at ha
   cases ha
   rw[h.len,List.getElem?_concat_length]at hx'
   cases hx'
   rw[List.getElem?_set_ne (by omega),List.getElem?_concat_length]
 ·have:(s::l::m::(as++[S.length]))=(s::l::m::as)++[S.length]:=by simp
  rw[this,List.nodup_append]
  refine⟨h.nd,by simp,?_⟩
  intro a ha b hb e
  simp only[List.mem_cons,List.not_mem_nil,or_false]at hb
  have:=lt a ha
  omega
theorem SAt.hold(h:SAt S s l m as st)(rs:List Rat):SAt (S.set s (.lst [.ref l,shD rs,.ref m])) s l m as {st with hold:=rs}:=by
 obtain⟨n1,n2,n3,n4,n5,n6,n7⟩:=h.ne
 refine⟨List.getElem?_set_self (h.lts s (by simp)),by rw[List.getElem?_set_ne n1];exact h.lo,by rw[List.getElem?_set_ne n2];exact h.nu,?_,h.len,h.nd⟩
 intro i a x ha hx
 rw[List.getElem?_set_ne (show s≠a by rintro rfl;exact n4 (List.mem_of_getElem? ha))]
 exact h.ld i a x ha hx
theorem SAt.nums(h:SAt S s l m as st)(us:List Int):SAt (S.set m (.lst (us.map D.int))) s l m as {st with nums:=us}:=by
 obtain⟨n1,n2,n3,n4,n5,n6,n7⟩:=h.ne
 refine⟨by rw[List.getElem?_set_ne (Ne.symm n2)];exact h.root,by rw[List.getElem?_set_ne (Ne.symm n3)];exact h.lo,List.getElem?_set_self (h.lts m (by simp)),?_,h.len,h.nd⟩
 intro i a x ha hx
 rw[List.getElem?_set_ne (show m≠a by rintro rfl;exact n6 (List.mem_of_getElem? ha))]
 exact h.ld i a x ha hx
theorem Py{f:Ld->Ld}{body:Ex}{C:En}{i8:Nat}{o0:Option D}(h:SAt S s l m as st)(hi:C.length=i8)
  (hb:∀(S':Sto) (a:Nat) (x:Ld),x∈st.loads->S'[a]?=some (Ca x)->∃S2,body (C++[some (.ref a)]) S'=some (.nx,C++[some (.ref a)],S2.set a (Ca (f x)))/\Ci [] S' S2):
  ∃o S',NN [(l,as.map D.ref)] (tNm i8) body (as.map D.ref) (C++[o0]) S=some (.nx,C++[o],S')/\SAt S' s l m as {st with loads:=st.loads.map f}/\Ci as S S':=by
 obtain⟨E',S',e,i,o,i1,i2,rfl,i3,i4⟩:=ET (gs:=[(l,as.map D.ref)]) (t:=tNm i8) (b:=body)
  (I:=fun ds E S'=>∃(i:Nat) (o:Option D),ds=(as.drop i).map D.ref/\i≤as.length/\E=C++[o]/\SAt S' s l m as {st with loads:=(st.loads.take i).map f++st.loads.drop i}/\Ci as S S')
  (fun ds E S' hI=>by obtain⟨i,o,_,_,_,h1,_⟩:=hI;exact h1.guard) (ds:=as.map D.ref) (E:=C++[o0]) (S:=S)
  ⟨0, o0, by simp, Nat.zero_le _, rfl, by simpa using h, .refl⟩ (by
   rintro d ds E S1 ⟨i,o,i1,i2,rfl,i3,i4⟩
   have hlt:i<as.length:=by
    rcases Nat.lt_or_ge i as.length with w|w
    ·exact w
    ·rw[List.drop_eq_nil_of_le w]at i1;cases i1
   rw[List.drop_eq_getElem_cons hlt,List.map_cons]at i1
   injection i1 with e1 e2
   subst e1 e2
   have hl2:i<st.loads.length:=by rw[←h.len];exact hlt
   have ha:=List.getElem?_eq_getElem hlt
   have hx:((st.loads.take i).map f++st.loads.drop i)[i]?=some st.loads[i]:=by
    rw[List.getElem?_append_right (by simp;omega)]
    simp[Nat.min_eq_left (Nat.le_of_lt hl2)]
   obtain⟨S2,e3,g3⟩:=hb S1 as[i] st.loads[i] (List.getElem_mem hl2) (i3.ld i _ _ ha hx)
   have k:=(i3.same0 g3).setld (y:=f st.loads[i]) ha
   refine⟨C++[some (.ref as[i])],C++[some (.ref as[i])],S2.set as[i] (Ca (f st.loads[i])),?_,e3,i+1,some (.ref as[i]),rfl,hlt,rfl,?_,?_⟩
   ·rw[ZD]
    congr 1
    subst hi
    rw[List.set_append_right _ _ (Nat.le_refl _)]
    simp
   ·have:((st.loads.take i).map f++st.loads.drop i).set i (f st.loads[i])=(st.loads.take (i+1)).map f++st.loads.drop (i+1):=by
     rw[List.set_append_right _ _ (by simp;omega)]
     have e0:i-((st.loads.take i).map f).length=0:=by simp;omega
     rw[e0,List.drop_eq_getElem_cons hl2,List.set_cons_zero,List.take_succ_eq_append_getElem hl2,List.map_append]
     simp
    rw[←this]
    exact k
   ·exact(i4.trans (g3.mono fun _ z=>(nomatch z))).trans (.set (List.getElem_mem hlt)))
 refine⟨o,S',e,?_,i4⟩
 have hz:i=as.length:=by
  have:=congrArg List.length i1
  simp at this
  omega
 have:(st.loads.take i).map f++st.loads.drop i=st.loads.map f:=by
  rw[hz,h.len];simp
 rw[this]at i3
 exact i3
end
section
variable{S S':Sto}{s l m:Nat}{as:List Nat}{st:Stt}{t:Tr}{k:Nat}
theorem YO{i:Nat}{n:Int}{j:Nat}(hi:i<st.loads.length)(h:∀x∈st.loads,∀r∈x.ow,Sz j r):∀x∈less st.loads i n,∀r∈x.ow,Sz j r:=by
 intro x hx
 rcases Ir hx hi with h1|h1
 ·exact h x h1
 ·rw[h1];exact h (AO st.loads i) (AX hi)
theorem Tg{i:Nat}{n:Int}{j:Nat}(hi:i<st.loads.length)(h:∀x∈st.loads,x.ow.length=j):∀x∈less st.loads i n,x.ow.length=j:=by
 intro x hx
 rcases Ir hx hi with h1|h1
 ·exact h x h1
 ·rw[h1];exact h (AO st.loads i) (AX hi)
theorem XT(hS:SAt S s l m as st)(ht:Jj t)(h:Du t k st)(hk:k≤16){i:Nat}{n:Int}{ws:List Int}(hc:Can t st (.thr i n ws)):∃S',FU [t.d,.ref s,(AV.thr i n ws).d] S=some (.non,S')/\SAt S' s l m as (step t st (.thr i n ws))/\Ci (s::l::m::as) S S':=by
 obtain⟨hi,h1,h2,hl,hw⟩:=hc
 have cO:=Yi hS ht h (by omega) hl hw hi h1 h2
 have cz:=Ss ht h (by omega) hl hw hi h1 h2
 have sz:=h.sz
 obtain⟨a,a1,a2,a3⟩:=hS.at hi
 have hS1:=hS.setld (y:=⟨(AO st.loads i).k,(AO st.loads i).n-n,(AO st.loads i).ow⟩) a1
 have o1:=sz.1 _ (AX hi)
 have tp:=ht.2.1
 have hdef:step t st (.thr i n ws)={st with loads:=(less st.loads i n).map fun x=>{x with ow:=Gi (Jg t st.loads i n ws) (AO st.loads i).ow x.ow},hold:=Gi (Jg t st.loads i n ws) (AO st.loads i).ow st.hold}:=rfl
 rw[hdef]
 generalize hX:Jg t st.loads i n ws=X at*
 obtain⟨o,S2,f1,f2,f3⟩:=Py (f:=fun x=>{x with ow:=Gi X (AO st.loads i).ow x.ow}) (body:=Mn (AJ EM [(eOp (o2 wIx) [(eV 8),(eC (.int 2))]),(eV 6),(eV 7)]) (eV 8) (eC (.int 2))) (C:=[some t.d,some (.ref s),some (AV.thr i n ws).d,some (.ref l),some (shD st.hold),some (.ref m),some (aD X),some (shD (AO st.loads i).ow)]) (i8:=8) (o0:=none) hS1 rfl (by
  intro S' b x hx hb
  obtain⟨S2,e2,g2⟩:=Rl (S:=S') (x:=X) (ss:=x.ow) (os:=(AO st.loads i).ow) (j:=30+170*k) (i:=145+k) (YO (n:=n) hi sz.1 x hx) o1 cz (by omega) (by rw[Tg (n:=n) hi h.own x hx];omega)
  have hb2:=g2.get hb (by simp)
  refine⟨S2,?_,g2⟩
  simp[BE hb,Ca,e2,Aa hb2])
 obtain⟨S3,e3,g3⟩:=Rl (S:=S2) (x:=X) (ss:=st.hold) (os:=(AO st.loads i).ow) (j:=30+170*k) (i:=145+k) sz.2 o1 cz (by omega) (by rw[h.hold];omega)
 have f4:=(f2.same0 g3)
 have rt:=f4.root
 refine⟨S3.set s (.lst [.ref l,shD (Gi X (AO st.loads i).ow st.hold),.ref m]),?_,f4.hold _,?_⟩
 ·have f1':=f1
  simp only[List.cons_append,List.nil_append]at f1'
  have rt':E5 S3 s=some [.ref l,shD st.hold,.ref m]:=Aa rt
  have r0:=Aa hS.root
  have lo:=BE hS.lo
  have xx:=BE a2
  have c2:=Aa a2
  have sq1:=IZ hS1.lo
  simp only[Ca]at f1' sq1 c2 xx
  simp only[AV.d]at f1' cO⊢
  simp[FU,Kk,r0,cO,lo,a3,xx,c2,sq1,f1',e3,rt']
 ·have q1:Ci (s::l::m::as) S (S.set a (Ca ⟨(AO st.loads i).k,(AO st.loads i).n-n,(AO st.loads i).ow⟩)):=.set (by simp[List.mem_of_getElem? a1])
  exact((q1.trans (f3.mono fun n hn=>by simp[hn])).trans (g3.mono fun _ z=>(nomatch z))).trans (.set (by simp))
theorem Uc(hS:SAt S s l m as st)(ht:Jj t)(h:Du t k st)(hk:k≤16){p q:Nat}{x:Rat}(hc:Can t st (.sell p q x)):∃S',FU [t.d,.ref s,(AV.sell p q x).d] S=some (.non,S')/\SAt S' s l m as (step t st (.sell p q x))/\Ci (s::l::m::as) S S':=by
 obtain⟨hpq,hp,hq,x1,x2,x3⟩:=hc
 have sz:=h.sz
 have hx:Sz 4 x:=by
  refine⟨?_,by omega⟩
  show x.num.natAbs<16
  omega
 have hdef:step t st (.sell p q x)={st with loads:=st.loads.map fun y=>{y with ow:=B8 p q x y.ow},hold:=B8 p q x st.hold}:=rfl
 rw[hdef]
 obtain⟨o,S2,f1,f2,f3⟩:=Py (f:=fun y=>{y with ow:=B8 p q x y.ow}) (body:=Mn (AJ FR [(eOp (o2 wIx) [(eV 8),(eC (.int 2))]),(eV 2)]) (eV 8) (eC (.int 2))) (C:=[some t.d,some (.ref s),some (AV.sell p q x).d,some (.ref l),some (shD st.hold),some (.ref m),none,none]) (i8:=8) (o0:=none) hS rfl (by
  intro S' b y hy hb
  obtain⟨S2,e2,g2⟩:=So (S:=S') (p:=p) (q:=q) (x:=x) (ss:=y.ow) (j:=30+170*k) (i:=4) (sz.1 y hy) hx (by omega) (by rw[h.own y hy];exact hp) (by rw[h.own y hy];exact hq) hpq
  have hb2:=g2.get hb (by simp)
  refine⟨S2,?_,g2⟩
  simp[BE hb,Ca,e2,Aa hb2])
 obtain⟨S3,e3,g3⟩:=So (S:=S2) (p:=p) (q:=q) (x:=x) (ss:=st.hold) (j:=30+170*k) (i:=4) sz.2 hx (by omega) (by rw[h.hold];exact hp) (by rw[h.hold];exact hq) hpq
 have f4:=(f2.same0 g3)
 have rt:=f4.root
 refine⟨S3.set s (.lst [.ref l,shD (B8 p q x st.hold),.ref m]),?_,f4.hold _,?_⟩
 ·have f1':=f1
  simp only[List.cons_append,List.nil_append]at f1'
  have rt':E5 S3 s=some [.ref l,shD st.hold,.ref m]:=Aa rt
  have r0:=Aa hS.root
  have sq1:=IZ hS.lo
  simp only[AV.d]at f1' e3⊢
  simp[FU,Kk,r0,sq1,f1',e3,rt']
 ·exact((f3.mono fun n hn=>by simp[hn]).trans (g3.mono fun _ z=>(nomatch z))).trans (.set (by simp))
end
section
variable{S S':Sto}{s l m:Nat}{as:List Nat}{st:Stt}{t:Tr}{k:Nat}
theorem QX{ls:List Ld}{l:Nat}{n:Int}:less ls l n=ls.set l ⟨(AO ls l).k,(AO ls l).n-n,(AO ls l).ow⟩:=rfl
theorem RG{P p:Nat}{cond:Int}{C:En}{dd:D}{f:Ev}(hP:P≤10)(hf:∀(i:Nat),f [some dd,some (.int i)] S=some (aD (if i=p then 1 else 0),S)):CM [] (tNm 1) B3 f (LM 0 P) [] [some dd,none] S=some ((QQ P p).map aD,S):=by
 have:=Cu (gs:=[]) (t:=tNm 1) (f:=f) (C:=[some dd]) (m:=1) (e:=fun i:Nat=>D.int (0+(i:Int))) (g:=fun i=>aD (if i=p then 1 else 0)) (S:=S) Al (xs:=List.range P) (acc:=[]) (os:=[none]) rfl (Nat.le_trans (show _≤10 by simp;omega) (AW (by decide))) (by
  intro i _ os ho
  obtain⟨o,rfl⟩:∃o,os=[o]:=by
   match os,ho with
   | [a],_=>exact⟨a,rfl⟩
  refine⟨[some (.int i)],rfl,by simp,hf i⟩)
 simp only[List.cons_append,List.nil_append]at this
 rw[QQ,List.map_map]
 exact this
theorem Wr(hS:SAt S s l m as st)(ht:Jj t)(h:Du t k st)(hk:k≤16){p kd:Nat}{n:Int}(hc:Can t st (.bring p kd n)):∃S' as',B4 [t.d,.ref s,(AV.bring p kd n).d] S=some (.non,S')/\SAt S' s l m as' (step t st (.bring p kd n))/\Ci (s::l::m::as) S S'/\∀n∈as',n∈as∨S.length≤n:=by
 have tp:=ht.2.1
 have e:=RG (S:=S) (P:=t.p) (p:=p) (cond:=0) (C:=[]) (dd:=(AV.bring p kd n).d) (f:=Bc [(eOp (o1 Yy) [(eOp (o2 wEq) [(eV 1),(eOp (o2 wIx) [(eV 0),(eC (.int 1))])])]),(eC (.int 1))]) (by omega) (by
  intro i
  by_cases hi:i=p
  ·subst hi;simp[AV.d];rfl
  ·have:((i:Int)==(p:Int))=false:=by simp;omega
   simp[AV.d,this,hi];rfl)
 have rn:Hx (t.p:Int)=true:=Dc (by omega) (by omega)
 have hz:as.length<sizeLine:=Nat.lt_of_lt_of_le (show as.length<50 by rw[hS.len];have:=h.len;omega) (AW (by decide))
 refine⟨_,_,?_,hS.app ⟨kd,n,QQ t.p p⟩,?_,?_⟩
 ·have r0:=Aa hS.root
  have c0:=Aa hS.lo
  have c1:E5 (S++[Ca ⟨kd,n,QQ t.p p⟩]) l=some (as.map D.ref):=Aa (by rw[List.getElem?_append_left (A7 hS.lo)];exact hS.lo)
  simp only[Ca]at c1⊢
  simp only[AV.d]at e⊢
  simp[B4,F8,r0,Tr.d,rn,e,c0,shD]at c1⊢
  simp[c1,hz]
 ·exact Ci.app.trans (.set (by simp))
 ·intro n hn
  rcases List.mem_append.mp hn with w|w
  ·exact .inl w
  ·simp at w;exact .inr (by omega)
theorem W2(hS:SAt S s l m as st)(ht:Jj t)(h:Du t k st)(hk:k≤16){i:Nat}{n:Int}(hc:Can t st (.spoil i n)):∃S' as',B4 [t.d,.ref s,(AV.spoil i n).d] S=some (.non,S')/\SAt S' s l m as' (step t st (.spoil i n))/\Ci (s::l::m::as) S S'/\∀n∈as',n∈as∨S.length≤n:=by
 obtain⟨hi,h1,h2⟩:=hc
 obtain⟨a,a1,a2,a3⟩:=hS.at hi
 refine⟨_,as,?_,hS.setld (y:=⟨(AO st.loads i).k,(AO st.loads i).n-n,(AO st.loads i).ow⟩) a1,.set (by simp[List.mem_of_getElem? a1]),fun n hn=>.inl hn⟩
 have r0:=Aa hS.root
 have lo:=BE hS.lo
 have xx:=BE a2
 have c2:=Aa a2
 simp only[Ca]at c2 xx⊢
 simp[B4,F8,AV.d,r0,lo,a3,xx,c2]
theorem cG(hS:SAt S s l m as st)(ht:Jj t)(h:Du t k st)(hk:k≤16){i:Nat}{n:Int}{ws:List Int}(hc:Can t st (.thr i n ws)):∃S' as',B4 [t.d,.ref s,(AV.thr i n ws).d] S=some (.non,S')/\SAt S' s l m as' (step t st (.thr i n ws))/\Ci (s::l::m::as) S S'/\∀n∈as',n∈as∨S.length≤n:=by
 obtain⟨S',e,g1,g2⟩:=XT hS ht h hk hc
 refine⟨S',as,?_,g1,g2,fun n hn=>.inl hn⟩
 have r0:=Aa hS.root
 simp only[AV.d]at e⊢
 simp[B4,F8,r0,e]
theorem YK(hS:SAt S s l m as st)(ht:Jj t)(h:Du t k st)(hk:k≤16){p q:Nat}{x:Rat}(hc:Can t st (.sell p q x)):∃S' as',B4 [t.d,.ref s,(AV.sell p q x).d] S=some (.non,S')/\SAt S' s l m as' (step t st (.sell p q x))/\Ci (s::l::m::as) S S'/\∀n∈as',n∈as∨S.length≤n:=by
 obtain⟨S',e,g1,g2⟩:=Uc hS ht h hk hc
 refine⟨S',as,?_,g1,g2,fun n hn=>.inl hn⟩
 have r0:=Aa hS.root
 simp only[AV.d]at e⊢
 simp[B4,F8,r0,e]
theorem Zb(hS:SAt S s l m as st)(ht:Jj t)(h:Du t k st)(hk:k≤16){i kd:Nat}{g n:Int}(hc:Can t st (.swap i g kd n)):∃S' as',B4 [t.d,.ref s,(AV.swap i g kd n).d] S=some (.non,S')/\SAt S' s l m as' (step t st (.swap i g kd n))/\Ci (s::l::m::as) S S'/\∀n∈as',n∈as∨S.length≤n:=by
 obtain⟨hi,h1,h2,h3,h4,h5,h6⟩:=hc
 obtain⟨a,a1,a2,a3⟩:=hS.at hi
 have hS1:=hS.setld (y:=⟨(AO st.loads i).k,(AO st.loads i).n-g,(AO st.loads i).ow⟩) a1
 have hS2:=hS1.app ⟨kd,n,(AO st.loads i).ow⟩
 have hz:as.length<sizeLine:=Nat.lt_of_lt_of_le (show as.length<50 by rw[hS.len];have:=h.len;omega) (AW (by decide))
 have hz2:st.nums.length≤sizeLine:=Nat.le_trans (show _≤20 by have:=h.nm;omega) (AW (by decide))
 refine⟨_,_,?_,hS2,?_,?_⟩
 ·have r0:=Aa hS.root
  have lo:=BE hS.lo
  have xx:=BE a2
  have c2:=Aa a2
  have lo1:=BE hS1.lo
  have co1:=Aa hS1.lo
  have x1:=BE (List.getElem?_set_self (a:=Ca ⟨(AO st.loads i).k,(AO st.loads i).n-g,(AO st.loads i).ow⟩) (A7 a2))
  have c4:E5 ((S.set a (Ca ⟨(AO st.loads i).k,(AO st.loads i).n-g,(AO st.loads i).ow⟩))++[Ca ⟨kd,n,(AO st.loads i).ow⟩]) l=some (as.map D.ref):=Aa (by rw[List.getElem?_append_left (A7 hS1.lo)];exact hS1.lo)
  have nu:=hS2.nu
  have c5:=Aa nu
  have st5:∀{T:Sto},T[m]?=some (.lst (st.nums.map D.int))->T.set m (.lst (st.nums.map D.int))=T:=fun h=>set_same h
  have st6:=st5 nu
  simp only[Ca]at c2 xx lo1 co1 x1 c4 c5 st6⊢
  have hz':(as.map D.ref).length<sizeLine:=by simpa using hz
  generalize (as.map D.ref)=refs at*
  simp[B4,F8,AV.d,r0,lo,a3,xx,c2,lo1,x1,co1]at c4 c5 st6⊢
  simp[c4,hz',c5,hz2,st6]
 ·exact((Ci.set (by simp[List.mem_of_getElem? a1])).trans .app).trans (.set (by simp))
 ·intro n hn
  rcases List.mem_append.mp hn with w|w
  ·exact .inl w
  ·simp at w;exact .inr (by omega)
theorem Vo(hS:SAt S s l m as st)(ht:Jj t)(h:Du t k st)(hk:k≤16){i kd:Nat}{u g n:Int}(hc:Can t st (.trade u i g kd n)):∃S' as',B4 [t.d,.ref s,(AV.trade u i g kd n).d] S=some (.non,S')/\SAt S' s l m as' (step t st (.trade u i g kd n))/\Ci (s::l::m::as) S S'/\∀n∈as',n∈as∨S.length≤n:=by
 obtain⟨hi,h1,h2,h3,h4,h5,h6,h7,h8⟩:=hc
 obtain⟨a,a1,a2,a3⟩:=hS.at hi
 have hS1:=hS.setld (y:=⟨(AO st.loads i).k,(AO st.loads i).n-g,(AO st.loads i).ow⟩) a1
 have hS2:=hS1.app ⟨kd,n,(AO st.loads i).ow⟩
 have hz:as.length<sizeLine:=Nat.lt_of_lt_of_le (show as.length<50 by rw[hS.len];have:=h.len;omega) (AW (by decide))
 have hz2:st.nums.length+1≤sizeLine:=Nat.le_trans (show _≤20 by have:=h.nm;omega) (AW (by decide))
 refine⟨_,_,?_,hS2.nums (st.nums++[u]),?_,?_⟩
 ·have r0:=Aa hS.root
  have lo:=BE hS.lo
  have xx:=BE a2
  have c2:=Aa a2
  have lo1:=BE hS1.lo
  have co1:=Aa hS1.lo
  have x1:=BE (List.getElem?_set_self (a:=Ca ⟨(AO st.loads i).k,(AO st.loads i).n-g,(AO st.loads i).ow⟩) (A7 a2))
  have c4:E5 ((S.set a (Ca ⟨(AO st.loads i).k,(AO st.loads i).n-g,(AO st.loads i).ow⟩))++[Ca ⟨kd,n,(AO st.loads i).ow⟩]) l=some (as.map D.ref):=Aa (by rw[List.getElem?_append_left (A7 hS1.lo)];exact hS1.lo)
  have nu:=hS2.nu
  have c5:=Aa nu
  simp only[Ca]at c2 xx lo1 co1 x1 c4 c5⊢
  have hz':(as.map D.ref).length<sizeLine:=by simpa using hz
  generalize (as.map D.ref)=refs at*
  simp[B4,F8,AV.d,r0,lo,a3,xx,c2,lo1,x1,co1]at c4 c5⊢
  simp[c4,hz',c5,hz2]
 ·exact(((Ci.set (by simp[List.mem_of_getElem? a1])).trans .app).trans (.set (by simp))).trans (.set (by simp))
 ·intro n hn
  rcases List.mem_append.mp hn with w|w
  ·exact .inl w
  ·simp at w;exact .inr (by omega)
theorem ZN(hS:SAt S s l m as st)(ht:Jj t)(h:Du t k st)(hk:k≤16){i j:Nat}(hc:Can t st (.pool i j)):∃S' as',B4 [t.d,.ref s,(AV.pool i j).d] S=some (.non,S')/\SAt S' s l m as' (step t st (.pool i j))/\Ci (s::l::m::as) S S'/\∀n∈as',n∈as∨S.length≤n:=by
 obtain⟨hij,hi,hj,h1,h2,h3⟩:=hc
 obtain⟨a,a1,a2,a3⟩:=hS.at hi
 obtain⟨b,b1,b2,b3⟩:=hS.at hj
 have sz:=h.sz
 have pi:=h.pcs _ (AX hi)
 have pj:=h.pcs _ (AX hj)
 obtain⟨S1,e1,g1⟩:=SW (S:=S) (x:=AO st.loads i) (y:=AO st.loads j) (j:=30+170*k) (i:=131+k) a2 b2 (sz.1 _ (AX hi)) (sz.1 _ (AX hj)) (GN pi.1 pi.2) (GN pj.1 pj.2) (by omega) (by omega) (by omega) (by rw[h.own _ (AX hi)];have:=ht.2.1;omega)
 have hS1:=hS.same0 g1
 have hab:a≠b:=by
  rintro rfl
  exact hij ((List.getElem?_inj (List.getElem?_eq_some_iff.mp a1).1 hS.ne.2.2.2.2.2.2).mp (a1.trans b1.symm))
 have hS2:=hS1.app ⟨(AO st.loads i).k,(AO st.loads i).n+(AO st.loads j).n,Bf (AO st.loads i).n (AO st.loads j).n (AO st.loads i).ow (AO st.loads j).ow⟩
 have ai:i<as.length:=(List.getElem?_eq_some_iff.mp a1).1
 have bj:j<as.length:=(List.getElem?_eq_some_iff.mp b1).1
 have a1':(as++[S1.length])[i]?=some a:=by rw[List.getElem?_append_left ai];exact a1
 have b1':(as++[S1.length])[j]?=some b:=by rw[List.getElem?_append_left bj];exact b1
 have hS3:=hS2.setld (y:=⟨(AO st.loads i).k,0,(AO st.loads i).ow⟩) a1'
 have hS4:=hS3.setld (y:=⟨(AO st.loads j).k,0,(AO st.loads j).ow⟩) b1'
 have hz:as.length<sizeLine:=Nat.lt_of_lt_of_le (show as.length<50 by rw[hS.len];have:=h.len;omega) (AW (by decide))
 have est:step t st (.pool i j)={st with loads:=((st.loads++[Ld.mk (AO st.loads i).k ((AO st.loads i).n+(AO st.loads j).n) (Bf (AO st.loads i).n (AO st.loads j).n (AO st.loads i).ow (AO st.loads j).ow)]).set i ⟨(AO st.loads i).k,0,(AO st.loads i).ow⟩).set j ⟨(AO st.loads j).k,0,(AO st.loads j).ow⟩}:=by
  have e0:AO (less st.loads i (AO st.loads i).n) j=AO st.loads j:=by
   unfold AO less
   rw[List.getD_eq_getElem?_getD,List.getElem?_set_ne hij,←List.getD_eq_getElem?_getD]
  have e1:less st.loads i (AO st.loads i).n=st.loads.set i ⟨(AO st.loads i).k,0,(AO st.loads i).ow⟩:=by
   unfold less
   rw[Int.sub_self]
  have e2:less (less st.loads i (AO st.loads i).n) j (AO st.loads j).n=(st.loads.set i ⟨(AO st.loads i).k,0,(AO st.loads i).ow⟩).set j ⟨(AO st.loads j).k,0,(AO st.loads j).ow⟩:=by
   rw[QX (ls:=less st.loads i (AO st.loads i).n),e0,Int.sub_self,e1]
  show{st with loads:=less (less st.loads i (AO st.loads i).n) j (AO st.loads j).n++_}=_
  rw[e2,List.set_append_left _ _ hi,List.set_append_left _ _ (by simpa using hj)]
 refine⟨_,_,?_,est▸hS4,?_,?_⟩
 ·have r0:=Aa hS.root
  have lo:=BE hS.lo
  have c0:=Aa hS.lo
  have xa:=BE a2
  have xb:=BE b2
  have c1:=Aa hS1.lo
  have c4:E5 (S1++[Ca ⟨(AO st.loads i).k,(AO st.loads i).n+(AO st.loads j).n,Bf (AO st.loads i).n (AO st.loads j).n (AO st.loads i).ow (AO st.loads j).ow⟩]) l=some (as.map D.ref):=Aa (by rw[List.getElem?_append_left (A7 hS1.lo)];exact hS1.lo)
  have c5:=Aa (hS2.ld i a (AO st.loads i) a1' (by show(st.loads++_)[i]?=_;rw[List.getElem?_append_left hi];exact F5 hi))
  have c6:=Aa (hS3.ld j b (AO st.loads j) b1' (by show((st.loads++_).set i _)[j]?=_;rw[List.getElem?_set_ne hij,List.getElem?_append_left hj];exact F5 hj))
  simp only[Ca]at xa xb c4 c5 c6⊢
  have hz':(as.map D.ref).length<sizeLine:=by simpa using hz
  generalize (as.map D.ref)=refs at*
  generalize Bf (AO st.loads i).n (AO st.loads j).n (AO st.loads i).ow (AO st.loads j).ow=pr at*
  simp[B4,F8,AV.d,r0,lo,a3,b3,xa,xb,c0,e1]at c4 c5 c6⊢
  simp[c4,hz',c5,c6]
 ·exact(((g1.mono fun _ z=>(nomatch z)).trans .app).trans (.set (by simp))).trans ((Ci.set (by simp[List.mem_of_getElem? a1])).trans (.set (by simp[List.mem_of_getElem? b1])))
 ·intro n hn
  rcases List.mem_append.mp hn with w|w
  ·exact .inl w
  ·simp at w;subst w;exact .inr g1.len
theorem fm(hS:SAt S s l m as st)(ht:Jj t)(h:Du t k st)(hk:k≤16){d:AV}(hc:Can t st d):∃S' as',B4 [t.d,.ref s,d.d] S=some (.non,S')/\SAt S' s l m as' (step t st d)/\Ci (s::l::m::as) S S'/\∀n∈as',n∈as∨S.length≤n:=by
 cases d with
 |bring=>exact Wr hS ht h hk hc
 |pool=>exact ZN hS ht h hk hc
 |swap=>exact Zb hS ht h hk hc
 |trade=>exact Vo hS ht h hk hc
 |spoil=>exact W2 hS ht h hk hc
 |thr=>exact cG hS ht h hk hc
 |sell=>exact YK hS ht h hk hc
end
section
variable{st:Stt}{t:Tr}{k:Nat}
theorem Lx{a b:Nat}(h:a≤b):2^a≤2^b:=Nat.pow_le_pow_right (by decide) h
theorem Ga{a b:Nat}(h:a≤b):(2:Int)^a≤2^b:=by
 have:=Lx h
 exact_mod_cast this
theorem IB{c:Int}(h:0≤c):((c.toNat:Nat):Rat)=(c:Rat):=by
 have:((c.toNat:Nat):Int)=c:=Int.toNat_of_nonneg h
 have:(((c.toNat:Nat):Int):Rat)=(c:Rat):=by rw[this]
 exact this
theorem MP{B T k j:Nat}(hB:B<2^(30+170*k))(hT:T<2^j)(hj:j≤170):B*T<2^(30+170*(k+1)):=by
 have:=Cq hB hT
 exact Nat.lt_of_lt_of_le this (Lx (by omega))
theorem Up{G B P p:Nat}(h:G≤B):∀r∈QQ P p,Ok G B r:=by
 intro r hr
 obtain⟨i,_,rfl⟩:=List.mem_map.mp hr
 split
 ·exact Ok.one h
 ·exact Ok.zero
theorem L7{G B:Nat}{n m:Int}{ss os:List Rat}(hn:0<n)(hm:0<m)(hs:∀r∈ss,Ok G B r)(ho:∀r∈os,Ok G B r):∀r∈Bf n m ss os,Ok (G*(n+m).toNat) (B*(n+m).toNat) r:=by
 intro r hr
 unfold Bf at hr
 rw[List.mem_iff_getElem?]at hr
 obtain⟨i,hi'⟩:=hr
 rw[List.getElem?_zipWith_eq_some]at hi'
 obtain⟨x,y,hx,hy,rfl⟩:=hi'
 have:=Ok.mix (a:=n.toNat) (b:=m.toNat) (t:=(n+m).toNat) (hs x (List.mem_of_getElem? hx)) (ho y (List.mem_of_getElem? hy)) (by omega) (by omega)
 rwa [IB (by omega),IB (by omega),IB (by omega)]at this
theorem MY{G B p q:Nat}{x:Rat}{ss:List Rat}(hp:p<ss.length)(hq:q<ss.length)(x1:0<x.num)(x2:x.num≤x.den)(hs:∀r∈ss,Ok G B r):∀r∈B8 p q x ss,Ok (G*x.den) (2*B*x.den) r:=by
 have dp:=x.den_pos
 have hsp:=hs _ (getD_mem (d:=0) hp)
 have hsq:=hs _ (getD_mem (d:=0) hq)
 have xs:=D7 x
 have ex:(x.num:Rat)=((x.num.toNat:Nat):Rat):=(IB (by omega)).symm
 have nz:=JJ x
 intro r hr
 unfold B8 at hr
 rcases List.mem_or_eq_of_mem_set hr with hr|hr
 ·rcases List.mem_or_eq_of_mem_set hr with hr|hr
  ·exact(hs r hr).up (by rw[Nat.mul_assoc];omega)
  ·rw [hr]
   obtain⟨z,e,hz⟩:=Ok.mix (a:=x.den-x.num.toNat) (b:=x.num.toNat) (t:=x.den) hsp (Ok.zero (G:=G) (B:=B)) (by omega) dp
   refine⟨z,?_,Nat.le_trans hz (by rw[Nat.mul_assoc];omega)⟩
   rw[←e]
   have e2:((x.den-x.num.toNat:Nat):Rat)=(x.den:Rat)-(x.num:Rat):=by
    have:(((x.den-x.num.toNat:Nat):Int):Rat)=((x.den-x.num:Int):Rat):=by
     congr 1;omega
    push_cast at this
    exact this
   rw[e2]
   generalize ss.getD p 0=sp at*
   congr 1
   grind
 ·rw[hr]
  obtain⟨z,e1,hz⟩:=hsp
  obtain⟨y,e2,hy⟩:=hsq
  refine⟨y*x.den+z*x.num.toNat,?_,?_⟩
  ·generalize ss.getD p 0=sp at*
   generalize ss.getD q 0=sq at*
   push_cast
   rw[←ex,←e1,←e2]
   grind
  ·have h1:y*x.den≤B*x.den:=Nat.mul_le_mul_right _ hy
   have h2:z*x.num.toNat≤B*x.den:=Nat.mul_le_mul hz (by omega)
   rw[Nat.mul_assoc];omega
theorem Jd{f:Rat->Rat->Rat}{a b:List Rat}{n:Nat}(h:a.length=n)(g:b.length=n):(List.zipWith f a b).length=n:=by rw[List.length_zipWith,h,g];omega
theorem Il{P:Ld->Prop}{i:Nat}{n:Int}(hi:i<st.loads.length)(h:∀x∈st.loads,P x)(g:P ⟨(AO st.loads i).k,(AO st.loads i).n-n,(AO st.loads i).ow⟩):∀x∈less st.loads i n,P x:=by
 intro x hx
 rcases Ir hx hi with h1|h1
 ·exact h x h1
 ·rw[h1];exact g
theorem Ow{P:Ld->Prop}{ls:List Ld}{y:Ld}(h:∀x∈ls,P x)(g:P y):∀x∈ls++[y],P x:=by
 intro x hx
 rcases List.mem_append.mp hx with w|w
 ·exact h x w
 ·simp at w;rw[w];exact g
structure LOk(t:Tr)(k G B:Nat)(x:Ld):Prop where
 kd:x.k<t.k
 n0:0≤x.n
 n1:x.n<2^(131+k)
 own:x.ow.length=t.p
 ok:∀r∈x.ow,Ok G B r
theorem LOk.up{G B T B':Nat}{x:Ld}(h:LOk t k G B x)(hT:B*T≤B'):LOk t (k+1) (G*T) B' x:=⟨h.kd,h.n0,Int.lt_of_lt_of_le h.n1 (Ga (by omega)),h.own,fun r hr=>(h.ok r hr).up hT⟩
theorem LOk.up1{G B:Nat}{x:Ld}(h:LOk t k G B x):LOk t (k+1) G B x:=⟨h.kd,h.n0,Int.lt_of_lt_of_le h.n1 (Ga (by omega)),h.own,h.ok⟩
theorem LOk.less{G B:Nat}{x:Ld}{n:Int}(h:LOk t k G B x)(h0:0≤n)(h1:n≤x.n):LOk t k G B ⟨x.k,x.n-n,x.ow⟩:=⟨h.kd,show 0≤x.n-n by omega,show x.n-n<_ by have:=h.n1;omega,h.own,h.ok⟩
theorem Du.of{G B:Nat}(h1:st.loads.length≤4+k)(h2:∀x∈st.loads,LOk t k G B x)(h3:st.hold.length=t.p)(h4:st.nums.length≤k)(g0:0<G)(g1:G≤B)(g2:B<2^(30+170*k))(h5:∀r∈st.hold,Ok G B r):Du t k st:=⟨h1,fun x hx=>(h2 x hx).kd,fun x hx=>⟨(h2 x hx).n0,(h2 x hx).n1⟩,fun x hx=>(h2 x hx).own,h3,h4,G,B,g0,g1,g2,fun x hx=>(h2 x hx).ok,h5⟩
theorem cc{n:Int}(h:n<2^131):n<2^(131+k):=Int.lt_of_lt_of_le h (Ga (by omega))
theorem Fz(ht:Jj t)(h:Du t k st)(hk:k≤16){d:AV}(hc:Can t st d):Du t (k+1) (step t st d):=by
  obtain⟨G,B,g0,g1,g2,hl,hh⟩:=h.gb
  have L:∀x∈st.loads,LOk t k G B x:=fun x hx=>⟨h.kind x hx,(h.pcs x hx).1,(h.pcs x hx).2,h.own x hx,hl x hx⟩
  have g2':B<2^(30+170*(k+1)):=Nat.lt_of_lt_of_le g2 (Lx (by omega))
  have hlen:=h.len
  have hnm:=h.nm
  cases d with
  | bring p kd n =>
    obtain⟨h1,h2,h3,h4⟩:=hc
    refine Du.of (G:=G) (B:=B) (by simp[step];omega) (Ow (fun x hx=>(L x hx).up1) ⟨h2,by show 0≤n;omega,cc h4,by simp[QQ],Up g1⟩) h.hold (Nat.le_succ_of_le hnm) g0 g1 g2' hh
  | pool i j =>
    obtain⟨hij,hi,hj,h1,h2,h3⟩:=hc
    have li:=L _ (AX hi)
    have lj:=L _ (AX hj)
    have tl:((AO st.loads i).n+(AO st.loads j).n).toNat<2^(132+k):=by
      have a:=li.n1;have b:=lj.n1
      have e:(2:Int)^(132+k)=2^(131+k)*2:=by rw[show 132+k=(131+k)+1 by omega,Int.pow_succ]
      have:(((AO st.loads i).n+(AO st.loads j).n).toNat:Int)<((2^(132+k):Nat):Int):=by
        rw[Int.toNat_of_nonneg (by omega)]
        push_cast
        rw[e];omega
      exact_mod_cast this
    have t0:0<((AO st.loads i).n+(AO st.loads j).n).toNat:=by omega
    refine Du.of (G:=G*((AO st.loads i).n+(AO st.loads j).n).toNat) (B:=B*((AO st.loads i).n+(AO st.loads j).n).toNat) (by simp[step,Ce];omega) (Ow ?_ ⟨li.kd,by show 0≤(AO st.loads i).n+(AO st.loads j).n;omega,?_,?_,L7 h1 h2 li.ok lj.ok⟩) h.hold (Nat.le_succ_of_le hnm) (Nat.mul_pos g0 t0) (Nat.mul_le_mul_right _ g1) (MP g2 tl (by omega)) (fun r hr=>(hh r hr).up (Nat.le_refl _))
    · have e0 : AO (less st.loads i (AO st.loads i).n) j = AO st.loads j := by
        unfold AO less
        rw[List.getD_eq_getElem?_getD,List.getElem?_set_ne hij,←List.getD_eq_getElem?_getD]
      have A:=Il (P:=LOk t (k+1) (G*((AO st.loads i).n+(AO st.loads j).n).toNat) (B*((AO st.loads i).n+(AO st.loads j).n).toNat)) (n:=(AO st.loads i).n) hi (fun x hx=>(L x hx).up (Nat.le_refl _)) ((li.up (Nat.le_refl _)).less (by omega) (Int.le_refl _))
      have A2:=Il (st:={st with loads:=less st.loads i (AO st.loads i).n}) (i:=j) (n:=(AO st.loads j).n) (by simpa[Ce]using hj) A (by
        show LOk _ _ _ _ ⟨(AO (less st.loads i (AO st.loads i).n) j).k,(AO (less st.loads i (AO st.loads i).n) j).n-_,(AO (less st.loads i (AO st.loads i).n) j).ow⟩
        rw[e0]
        exact(lj.up (Nat.le_refl _)).less (by omega) (Int.le_refl _))
      exact A2
    · show (AO st.loads i).n + (AO st.loads j).n < 2 ^ (131 + (k + 1))
      have a:=li.n1;have b:=lj.n1
      rw[show 131+(k+1)=(131+k)+1 by omega,Int.pow_succ];omega
    ·exact Jd li.own lj.own
  | swap i g kd n =>
    obtain⟨hi,h1,h2,h3,h4,h5,h6⟩:=hc
    have li:=L _ (AX hi)
    refine Du.of (G:=G) (B:=B) (by simp[step,Ce];omega) (Ow (Il hi (fun x hx=>(L x hx).up1) (li.up1.less (by omega) h2)) ⟨h3,by show 0≤n;omega,cc h6,li.own,li.ok⟩) h.hold (Nat.le_succ_of_le hnm) g0 g1 g2' hh
  | trade u i g kd n =>
    obtain⟨hi,h1,h2,h3,h4,h5,h6,h7⟩:=hc
    have li:=L _ (AX hi)
    refine Du.of (G:=G) (B:=B) (by simp[step,Ce];omega) (Ow (Il hi (fun x hx=>(L x hx).up1) (li.up1.less (by omega) h2)) ⟨h3,by show 0≤n;omega,cc h6,li.own,li.ok⟩) h.hold (by simp[step];omega) g0 g1 g2' hh
  | spoil i n =>
    obtain⟨hi,h1,h2⟩:=hc
    have li:=L _ (AX hi)
    refine Du.of (G:=G) (B:=B) (by simp[step,Ce];omega) (Il hi (fun x hx=>(L x hx).up1) (li.up1.less (by omega) h2)) h.hold (Nat.le_succ_of_le hnm) g0 g1 g2' hh
  | thr i n ws =>
    obtain⟨hi,h1,h2,h3,h4⟩:=hc
    have li:=L _ (AX hi)
    have W:=Ii ht h (by omega) h3 h4
    have wl:(Ct t st.loads ws).toNat<2^(145+k):=by
      have:((Ct t st.loads ws).toNat:Int)<((2^(145+k):Nat):Int):=by
        rw[Int.toNat_of_nonneg (by omega)];push_cast;exact W.2
      exact_mod_cast this
    have bo:=fun{ss:List Rat} (hs:∀r∈ss,Ok G B r)=>MX ht h (by omega) h3 h4 hi h1 h2 li.ok hs
    refine Du.of (G:=G*(Ct t st.loads ws).toNat) (B:=B*(Ct t st.loads ws).toNat) (by simp[step,Ce];omega) ?_ (Jd h.hold li.own) (Nat.le_succ_of_le hnm) (Nat.mul_pos g0 (by omega)) (Nat.mul_le_mul_right _ g1) (MP g2 wl (by omega)) (bo hh)
    intro x hx
    obtain⟨y,hy,rfl⟩:=List.mem_map.mp hx
    have ly:=Il (P:=LOk t k G B) hi L (li.less (n:=n) (by omega) h2) y hy
    exact⟨ly.kd,ly.n0,ly.up1.n1,Jd ly.own li.own,bo ly.ok⟩
  | sell p q x =>
    obtain⟨h1,h2,h3,h4,h5,h6⟩:=hc
    have dp:=x.den_pos
    refine Du.of (G:=G*x.den) (B:=2*B*x.den) (by simp[step];omega) ?_ (by simp[step,B8,h.hold]) (Nat.le_succ_of_le hnm) (Nat.mul_pos g0 dp) (Nat.mul_le_mul_right _ (by omega)) ?_ (MY (by rw[h.hold];exact h2) (by rw[h.hold];exact h3) h4 h5 hh)
    · intro y hy
      obtain⟨z,hz,rfl⟩:=List.mem_map.mp hy
      have lz:=L z hz
      exact⟨lz.kd,lz.n0,lz.up1.n1,by simp[B8,lz.own],MY (by rw[lz.own];exact h2) (by rw[lz.own];exact h3) h4 h5 lz.ok⟩
    · have := MP (B := B) (T := 2 * x.den) (j := 5) g2 (by omega) (by omega)
      rw[show 2*B*x.den=B*(2*x.den) by rw[←Nat.mul_assoc,Nat.mul_comm 2 B]]
      exact this
end
theorem Fx{α:Type}{f:α->D}:∀{xs:List α},(∀x∈xs,(f x).lay=true)->D.lays (xs.map f)=true
  | [],_=>rfl
  | x :: xs, h => by
    show((f x).lay && D.lays (xs.map f))=true
    rw[h x List.mem_cons_self,Fx fun y hy=>h y (List.mem_cons_of_mem _ hy)]
    rfl
theorem RZ{ds:List D}(h:D.lays ds=true):Dx (.lst ds) (.lst [])=true:=by
 unfold Dx
 show(D.lays ds && true && _)=true
 rw[h]
 simp only[Bool.true_and,decide_eq_true_eq]
 exact Nat.le_trans (Nat.min_le_right _ _) (by decide)
noncomputable def GU(is:List Nat):List D:=is.map fun(i:Nat)=>D.int i
theorem Mh{is:List Nat}:Dx (.lst (GU is)) (.lst [])=true:=RZ (Fx fun _ _=>rfl)
theorem VY{d:D}{ds:List D}:deq (.lst (d::ds)) (.lst [])=false:=rfl
theorem ZA:deq (.lst []) (.lst [])=true:=rfl
theorem OP{is:List Nat}:deq (.lst (GU is)) (.lst [])=is.isEmpty:=by
 cases is with
 |nil=>exact ZA
 |cons i is=>exact VY
theorem P2{ds:List D}:QW 0 ds=(List.range ds.length).map fun(i:Nat)=>D.tup [.int i,ds.getD i .non]:=by
 apply List.ext_getElem?
 intro i
 rw[LU,List.getElem?_map]
 by_cases h:i<ds.length
 ·rw[List.getElem?_eq_getElem h,List.getElem?_range h]
  simp[List.getElem?_eq_getElem h]
 ·rw[List.getElem?_eq_none (by omega),List.getElem?_eq_none (by simp;omega)]
  rfl
theorem J1{is:List Nat}:(GU is).length=is.length:=by simp[GU]
theorem Lv{is:List Nat}{r:Int}(h0:0≤r)(h1:r<is.length):∃i∈is,atI (GU is) r=some (.int (i:Nat)):=by
 have h2:r.toNat<is.length:=by omega
 refine⟨is[r.toNat],List.getElem_mem h2,?_⟩
 have:=YG (xs:=GU is) h0 (by rw[J1];exact h1)
 rw[this]
 simp[GU]
theorem Qk{x K:Int}(h0:0≤x)(h1:x<2*K):x % K=if x<K then x else x-K:=by
 split
 ·exact Int.emod_eq_of_lt h0 (by assumption)
 ·have:x % K=(x-K) % K:=by rw[Int.sub_emod_right]
  rw[this]
  exact Int.emod_eq_of_lt (by omega) (by omega)
section
variable{S:Sto}{p s l m:Nat}{as:List Nat}{st:Stt}{t:Tr}{k:Nat}
noncomputable def CS(st:Stt):List Nat:=(List.range st.loads.length).filter fun i=>decide (0<(AO st.loads i).n)
theorem Zc(hS:SAt S s l m as st)(hl:st.loads.length≤50):CM [(l,as.map D.ref)] (tTp [(tNm 0),(tNm 1)]) (eOp (o2 wGt) [(eOp (o2 wIx) [(eV 1),(eC (.int 1))]),(eC (.int 0))]) (eV 0) (QW 0 (as.map D.ref)) [] [none,none] S=some (GU (CS st),S):=by
 have:=Fg (gs:=[(l,as.map D.ref)]) (t:=tTp [(tNm 0),(tNm 1)]) (c:=eOp (o2 wGt) [(eOp (o2 wIx) [(eV 1),(eC (.int 1))]),(eC (.int 0))]) (f:=eV 0) (C:=[]) (m:=2) (e:=fun i:Nat=>D.tup [.int i,(as.map D.ref).getD i .non]) (g:=fun i:Nat=>D.int i) (b:=fun i=>decide (0<(AO st.loads i).n)) (S:=S) hS.guard (xs:=List.range st.loads.length) (acc:=[]) (os:=[none,none]) rfl (Nat.le_trans (show _≤50 by simp;omega) (AW (by decide))) (by
  intro i hi os ho
  obtain⟨o1,o2,rfl⟩:∃o1 o2,os=[o1,o2]:=by
   match os,ho with
   | [a,b],_=>exact⟨a,b,rfl⟩
  obtain⟨a,a1,a2,a3⟩:=hS.at (List.mem_range.mp hi)
  have e:(as.map D.ref).getD i .non=.ref a:=by simp[a1]
  rw[e]
  refine⟨[some (.int i),some (.ref a)],rfl,by simp,?_,by simp⟩
  simp[BE a2,Ca])
 rw[P2,List.length_map,hS.len]
 exact this
theorem LZ{i:Nat}(h:i∈CS st):i<st.loads.length/\0<(AO st.loads i).n:=by
 unfold CS at h
 rw[List.mem_filter]at h
 exact⟨List.mem_range.mp h.1,by simpa using h.2⟩
noncomputable def FA(st:Stt)(j:Nat):List Nat:=(CS st).filter fun i=> !(i==j) && ((AO st.loads i).k==(AO st.loads j).k)
theorem OL:(CS st).length≤st.loads.length:=by
 unfold CS
 exact Nat.le_trans (List.length_filter_le _ _) (by simp)
theorem WZ{a b:Nat}:((a:Int)==(b:Int))=(a==b):=by
 by_cases h:a=b
 ·subst h;simp
 ·have:((a:Int)==(b:Int))=false:=by simp;omega
  rw[this];simp[h]
theorem Yg(hS:SAt S s l m as st)(hl:st.loads.length≤50){j:Nat}(hj:j∈CS st):CM [] (tNm 2) (Ko (eOp (o2 wNe) [(eV 2),(eV 1)]) (eOp (o2 wEq) [(eOp (o2 wIx) [(eOp (o2 wIx) [(eV 0),(eV 2)]),(eC (.int 0))]),(eOp (o2 wIx) [(eOp (o2 wIx) [(eV 0),(eV 1)]),(eC (.int 0))])])) (eV 2) (GU (CS st)) [] [some (.ref l),some (.int j),none] S=some (GU (FA st j),S):=by
 have fl:=OL (st:=st)
 exact Fg (gs:=[]) (t:=tNm 2) (f:=eV 2) (C:=[some (.ref l),some (.int j)]) (m:=1) (e:=fun i:Nat=>D.int i) (g:=fun i:Nat=>D.int i) (b:=fun i=> !(i==j) && ((AO st.loads i).k==(AO st.loads j).k)) (S:=S) Al (xs:=CS st) (acc:=[]) (os:=[none]) rfl (Nat.le_trans (show _≤50 by simp;omega) (AW (by decide))) (by
  intro i hi os ho
  obtain⟨o1,rfl⟩:∃o1,os=[o1]:=by
   match os,ho with
   | [a],_=>exact⟨a,rfl⟩
  obtain⟨a,a1,a2,a3⟩:=hS.at (LZ hi).1
  obtain⟨b,b1,b2,b3⟩:=hS.at (LZ hj).1
  refine⟨[some (.int i)],rfl,by simp,?_,by simp⟩
  by_cases e:i=j
  ·subst e
   simp
  ·have e':((i:Int)==(j:Int))=false:=by simp;omega
   have e2:(i==j)=false:=by simp[e]
   simp[e',e2,BE hS.lo,a3,b3,BE a2,BE b2,Ca,WZ])
theorem Wt{i j:Nat}(h:i∈FA st j):i∈CS st/\i≠j/\(AO st.loads i).k=(AO st.loads j).k:=by
 unfold FA at h
 rw[List.mem_filter]at h
 simp at h
 exact⟨h.1,h.2.1,h.2.2⟩
noncomputable def F6(st:Stt):List Nat:=(List.range 10).filter fun i=> !(st.nums.any fun u=>u==(i:Int))
theorem N5{us:List Int}{i:Int}:inD (.int i) (us.map D.int)=us.any fun u=>u==i:=by
 unfold inD
 rw[List.any_map]
 rfl
@[simp] theorem eP{b:Bool}{w:Wv}{r:List D}:wIn b w (.own r)=if(Jc (fz w) && r.all Jc)=true then some (.val (.bl (if b then !inD (fz w) r else inD (fz w) r)))else none:=nr rfl
@[simp] theorem gI{b:Bool}{w:Wv}{r:List D}:wIn b w (.val (.lst r))=if(Jc (fz w) && r.all Jc)=true then some (.val (.bl (if b then !inD (fz w) r else inD (fz w) r)))else none:=nr rfl
theorem PB{us:List Int}:(us.map D.int).all Jc=true:=by
 rw[List.all_map,List.all_eq_true]
 intro x _;rfl
@[simp] theorem iC{i:Int}:Jc (.int i)=true:=nr rfl
theorem ZI(hS:SAt S s l m as st):CM [] (tNm 1) (eOp (o2 (wIn true)) [(eV 1),(eV 0)]) (eV 1) (LM 0 10) [] [some (.ref m),none] S=some (GU (F6 st),S):=by
 exact Fg (gs:=[]) (t:=tNm 1) (f:=eV 1) (C:=[some (.ref m)]) (m:=1) (e:=fun i:Nat=>D.int (0+(i:Int))) (g:=fun i:Nat=>D.int i) (b:=fun i=> !(st.nums.any fun u=>u==(i:Int))) (S:=S) Al (xs:=List.range 10) (acc:=[]) (os:=[none]) rfl (Nat.le_trans (show _≤50 by simp) (AW (by decide))) (by
  intro i hi os ho
  obtain⟨o1,rfl⟩:∃o1,os=[o1]:=by
   match os,ho with
   | [a],_=>exact⟨a,rfl⟩
  refine⟨[some (.int i)],rfl,by simp,?_,by simp⟩
  have nu:=BE hS.nu
  have fi:=PB (us:=st.nums)
  have ii:=N5 (us:=st.nums) (i:=(i:Int))
  generalize st.nums.map D.int=ud at*
  generalize (st.nums.any fun u=>u==(i:Int))=bb at*
  simp[nu,fi,ii])
theorem Vh{i:Nat}(h:i∈F6 st):(i:Int)∉st.nums/\i≤9:=by
 unfold F6 at h
 rw[List.mem_filter]at h
 have h1:=List.mem_range.mp h.1
 refine⟨?_,by omega⟩
 intro z
 have h2:=h.2
 have:(st.nums.any fun u=>u==(i:Int))=true:=List.any_eq_true.mpr ⟨_,z,by simp⟩
 rw[this]at h2
 cases h2
theorem Vd:(F6 st).length≤10:=by
 unfold F6
 exact Nat.le_trans (List.length_filter_le _ _) (by simp)
theorem Wd{j:Nat}:(FA st j).length≤st.loads.length:=by
 unfold FA
 exact Nat.le_trans (List.length_filter_le _ _) OL
end
section
variable{S:Sto}{p s l m:Nat}{as:List Nat}{st:Stt}{t:Tr}{k:Nat}
def Oy:Ex:=(Af (xIf (Ko (eOp (o2 wLt) [(eV 7),(eC (.int 8))]) (eOp (o2 wGt) [(eOp (o2 wIx) [(eV 1),(eC (.int 1))]),(eC (.int 1))])) (Af (Bp 11 (eOp (o2 O4) [(eOp (o2 Cv) [(eOp (o2 Cv) [(eOp (o2 wIx) [(eOp (o2 wIx) [(eV 3),(eV 8)]),(eC (.int 0))]),(eC (.int 1))]),(AJ AL [(eV 0),(eOp (o2 NH) [(eOp (o2 wIx) [(eV 1),(eC (.int 1))]),(eC (.int 1))])])]),(eOp (o2 wIx) [(eV 1),(eC (.int 1))])]))
  (Af (Bp 12 (Cn [5] 1 (Mq [(eC (.int 10))]) (tNm 1) (eOp (o2 (wIn true)) [(eV 1),(eV 0)]) (eV 1)))
  (Af (xIf (Ko (eOp (o2 wEq) [(eV 7),(eC (.int 7))]) (eOp (o2 wNe) [(eV 12),(Jh [])])) (BR (Bc [(eC (.str "trade")),(eOp (o2 wIx) [(eV 12),(AJ AL [(eV 0),(eOp (o1 Hj) [(eV 12)])])]),(eV 8),(eV 9),(eV 11),(AJ Bb [(eV 0)])])) Dw)
  (BR (Bc [(eC (.str "swap")),(eV 8),(eV 9),(eV 11),(AJ Bb [(eV 0)])]))))) Dw)
  (Af (xIf (eOp (o2 wEq) [(eV 7),(eC (.int 8))]) (BR (Bc [(eC (.str "spoil")),(eV 8),(eV 9)])) Dw)
  (Af (xIf (Ko (eOp (o2 wEq) [(eV 7),(eC (.int 9))]) (eOp (o2 wGt) [(eOp (o2 wIx) [(eV 1),(eC (.int 0))]),(eC (.int 1))])) (Af (Bp 13 (AJ AL [(eV 0),(eOp (o2 wIx) [(eV 1),(eC (.int 0))])]))
  (BR (Bc [(eC (.str "sell")),(eV 13),(eOp (o2 O4) [(eOp (o2 Cv) [(eOp (o2 Cv) [(eV 13),(eC (.int 1))]),(AJ AL [(eV 0),(eOp (o2 NH) [(eOp (o2 wIx) [(eV 1),(eC (.int 0))]),(eC (.int 1))])])]),(eOp (o2 wIx) [(eV 1),(eC (.int 0))])]),(AJ Dj [(eV 0)])]))) Dw)
  (BR (Bc [(eC (.str "throw")),(eV 8),(eV 9),(AJ Dl [(eV 0),(eOp (o2 Cv) [(eOp (o2 wIx) [(eV 1),(eC (.int 1))]),(eC (.int 1))])])])))))
def T9:Ex:=(xIf (eOp (o2 wLt) [(eV 7),(eC (.int 5))]) (Af (Bp 10 (Cn [3,8] 1 (JR (eV 6)) (tNm 2) (Ko (eOp (o2 wNe) [(eV 2),(eV 1)]) (eOp (o2 wEq) [(eOp (o2 wIx) [(eOp (o2 wIx) [(eV 0),(eV 2)]),(eC (.int 0))]),(eOp (o2 wIx) [(eOp (o2 wIx) [(eV 0),(eV 1)]),(eC (.int 0))])])) (eV 2)))
  (xIf (eOp (o2 wNe) [(eV 10),(Jh [])]) (BR (Bc [(eC (.str "pool")),(eV 8),(eOp (o2 wIx) [(eV 10),(AJ AL [(eV 0),(eOp (o1 Hj) [(eV 10)])])])])) Dw)) Dw)
theorem OJ:Nc=(Af (Nr (tTp [(tNm 3),(tNm 4),(tNm 5)]) (eV 2))
  (Af (Bp 6 (Cn [] 2 (ao (eV 3)) (tTp [(tNm 0),(tNm 1)]) (eOp (o2 wGt) [(eOp (o2 wIx) [(eV 1),(eC (.int 1))]),(eC (.int 0))]) (eV 0)))
  (Af (Bp 7 (AJ AL [(eV 0),(eC (.int 12))]))
  (Af (xIf (eOr (eOp (o2 wLt) [(eV 7),(eC (.int 2))]) (eOp (o2 wEq) [(eV 6),(Jh [])])) (BR (Bc [(eC (.str "bring")),(AJ AL [(eV 0),(eOp (o2 wIx) [(eV 1),(eC (.int 0))])]),(AJ AL [(eV 0),(eOp (o2 wIx) [(eV 1),(eC (.int 1))])]),(AJ Bb [(eV 0)])])) Dw)
  (Af (Bp 8 (eOp (o2 wIx) [(eV 6),(AJ AL [(eV 0),(eOp (o1 Hj) [(eV 6)])])]))
  (Af (Bp 9 (eOp (o2 Cv) [(eC (.int 1)),(AJ AL [(eV 0),(eOp (o2 Zm) [(eOp (o2 wIx) [(eOp (o2 wIx) [(eV 3),(eV 8)]),(eC (.int 1))]),(eC (.int 2000))])])]))
  (Af T9 Oy))))))):=rfl
theorem ZL (hp : Dv p S) (hS : SAt S s l m as st) (hps : p ∉ s :: l :: m :: as) (ht : Jj t) (h : Du t k st) (hk : k ≤ 16) : ∃ d S', Dq [.ref p, t.d, .ref s] S = some (AV.d d, S') /\ Pn p S S' /\ Can t st d := by
  obtain⟨t1,t2,t3,t4,t5,t6⟩:=ht
  have hlen:=h.len
  have st':∀{S':Sto},Pn p S S'->SAt S' s l m as st:=fun g=>hS.same g.same (by simpa using hps)
  have r0:=Aa hS.root
  have cf:=Zc hS (by omega)
  have fl:=OL (st:=st)
  have sq:=IZ hS.lo
  obtain⟨way,S1,e1,a1,b1,p1⟩:=Az hp (n:=12) (by decide) (by decide)
  have okF:=Mh (is:=CS st)
  have dqF:=OP (is:=CS st)
  by_cases hb:way<2∨(CS st).isEmpty=true
  · obtain ⟨x2, S2, e2, a2, b2, p2⟩ := Az p1.pen (n := t.p) (by omega) (by omega)
    obtain⟨x3,S3,e3,a3,b3,p3⟩:=Az p2.pen (n:=t.k) (by omega) (by omega)
    obtain⟨x4,S4,e4,p4,a4,b4⟩:=J7 p3.pen
    obtain⟨x2,rfl⟩:=Gx a2
    obtain⟨x3,rfl⟩:=Gx a3
    refine⟨.bring x2 x3 x4,S4,?_,((p1.trans p2).trans p3).trans p4,by omega,by omega,a4,b4⟩
    by_cases hw:way<2
    ·simp[Dq,OJ,r0,sq,cf,e1,Tr.d,hw,e2,e3,e4,AV.d]
    · have hf := hb.resolve_left hw
      simp[Dq,OJ,r0,sq,cf,e1,Tr.d,hw,okF,dqF,hf,e2,e3,e4,AV.d]
  · have hw2 : ¬ way < 2 := fun z => hb (.inl z)
    have hf:(CS st).isEmpty=false:=by
      cases z:(CS st).isEmpty with
      |true=>exact absurd (.inr z) hb
      |false=>rfl
    have hfl:0<(CS st).length:=by
      cases z:CS st with
      |nil=>rw[z]at hf;cases hf
      |cons a b=>simp
    obtain⟨rl,S2,e2,a2,b2,p2⟩:=Az p1.pen (n:=(CS st).length) (by omega) (by omega)
    obtain⟨i,mi,ei⟩:=Lv a2 b2
    have fi:=LZ mi
    have hS1:=st' p1
    have hS2:=st' (p1.trans p2)
    obtain⟨a,x1,x2,x3⟩:=hS2.at fi.1
    have n1:=fi.2
    obtain⟨rs,S3,e3,a3,b3,p3⟩:=Az p2.pen (n:=if 2000<(AO st.loads i).n then 2000 else(AO st.loads i).n) (by split<;>omega) (by split<;>omega)
    have hsome:1≤1+rs/\1+rs≤(AO st.loads i).n:=by split at b3<;>omega
    have p23:=(p1.trans p2).trans p3
    have hS3:=st' p23
    have lo2:=BE hS2.lo
    have lo3:=BE hS3.lo
    have x2':=BE x2
    have x4:S3[a]?=some (Ca (AO st.loads i)):=hS3.ld i a _ x1 (F5 fi.1)
    have x4':=BE x4
    have kd:=h.kind _ (AX fi.1)
    have nl:=J1 (is:=CS st)
    have cs:=Yg hS3 (by omega) mi
    have okS:=Mh (is:=FA st i)
    have dqS:=OP (is:=FA st i)
    have sl:=Wd (st:=st) (j:=i)
    have nls:=J1 (is:=FA st i)
    have pre:Dq [.ref p,t.d,.ref s] S=((T9 [some (.ref p),some t.d,some (.ref s),some (.ref l),some (shD st.hold),some (.ref m),some (.lst (GU (CS st))),some (.int way),some (.int i),some (.int (1+rs)),none,none,none,none] S3).bind (bF Oy)).map fun r=>(flD r.1,r.2.2):=by
      simp[Dq,OJ,r0,sq,cf,e1,hw2,okF,dqF,hf,nl,e2,ei,lo2,x3,x2',e3]
    have tail : ∀ o10, (way < 5 -> (FA st i).isEmpty = true) -> ∃ d S', (Oy [some (.ref p), some t.d, some (.ref s), some (.ref l), some (shD st.hold), some (.ref m), some (.lst (GU (CS st))), some (.int way), some (.int i), some (.int (1 + rs)), o10, none, none, none] S3).map (fun r => (flD r.1, r.2.2)) = some (AV.d d, S') /\ Pn p S S' /\ Can t st d := by
      intro o10 _
      clear pre cs okS dqS
      by_cases hsw:way<8/\1<t.k
      · obtain ⟨hw8, hk1⟩ := hsw
        have hk1':(1:Int)<t.k:=by omega
        obtain⟨rk,S4,e4,a4,b4,p4⟩:=Az p3.pen (n:=(t.k:Int)-1) (by omega) (by omega)
        have hS4:=st' (p23.trans p4)
        have hmod:=Qk (x:=((AO st.loads i).k:Int)+1+rk) (K:=t.k) (by omega) (by omega)
        obtain⟨kd2,ekd⟩:∃q:Nat,((AO st.loads i).k+1+rk) % (t.k:Int)=(q:Int):=⟨_,(Int.toNat_of_nonneg (Int.emod_nonneg _ (by omega))).symm⟩
        have hkd:kd2<t.k/\kd2≠(AO st.loads i).k:=by
          rw[ekd]at hmod
          split at hmod<;>omega
        have kp:0<t.k:=by omega
        have cl:=ZI hS4
        have okL:=Mh (is:=F6 st)
        have dqL:=OP (is:=F6 st)
        have ll:=Vd (st:=st)
        have nll:=J1 (is:=F6 st)
        have rt:Hx 10=true:=Dc (by decide) (by decide)
        by_cases htr:way=7/\(F6 st).isEmpty=false
        · obtain ⟨hw7, hle⟩ := htr
          have hll:0<(F6 st).length:=by
            cases z:F6 st with
            |nil=>rw[z]at hle;cases hle
            |cons a b=>simp
          obtain⟨ru,S5,e5,a5,b5,p5⟩:=Az p4.pen (n:=(F6 st).length) (by omega) (by omega)
          obtain⟨u,mu,eu⟩:=Lv a5 b5
          obtain⟨x6,S6,e6,p6,a6,b6⟩:=J7 p5.pen
          have fu:=Vh mu
          refine⟨.trade u i (1+rs) kd2 x6,S6,?_,((p23.trans p4).trans p5).trans p6,fi.1,hsome.1,hsome.2,hkd.1,hkd.2,a6,b6,fu.1,by omega,by omega⟩
          subst hw7
          simp[Oy,Tr.d,x3,hk1',lo3,x4',e4,kp,ekd,rt,cl,okL,dqL,hle,nll,e5,eu,e6,AV.d]
        · obtain ⟨x6, S6, e6, p6, a6, b6⟩ := J7 p4.pen
          refine⟨.swap i (1+rs) kd2 x6,S6,?_,(p23.trans p4).trans p6,fi.1,hsome.1,hsome.2,hkd.1,hkd.2,a6,b6⟩
          by_cases h7:way=7
          · subst h7
            have hle:(F6 st).isEmpty=true:=by
              cases z:(F6 st).isEmpty with
              |true=>rfl
              |false=>exact absurd ⟨rfl,z⟩ htr
            simp[Oy,Tr.d,x3,hk1',lo3,x4',e4,kp,ekd,rt,cl,okL,dqL,hle,nll,e6,AV.d]
          · have h7' : (way == 7) = false := by simpa using h7
            simp[Oy,Tr.d,x3,hw8,hk1',lo3,x4',e4,kp,ekd,rt,cl,h7',e6,AV.d]
      · have sw : ∀ (x y : Ex) (T : Sto), xIf (Ko (eOp (o2 wLt) [(eV 7), (eC (.int 8))]) (eOp (o2 wGt) [(eOp (o2 wIx) [(eV 1), (eC (.int 1))]), (eC (.int 1))])) x y [some (.ref p), some t.d, some (.ref s), some (.ref l), some (shD st.hold), some (.ref m), some (.lst (GU (CS st))), some (.int way), some (.int i), some (.int (1 + rs)), o10, none, none, none] T = y [some (.ref p), some t.d, some (.ref s), some (.ref l), some (shD st.hold), some (.ref m), some (.lst (GU (CS st))), some (.int way), some (.int i), some (.int (1 + rs)), o10, none, none, none] T := by
          intro x y T
          by_cases w8:way<8
          · have hk1 : ¬ (1 : Int) < t.k := by omega
            simp[Tr.d,w8,hk1]
          ·simp[w8]
        by_cases h8:way=8
        · subst h8
          refine⟨.spoil i (1+rs),S3,?_,p23,fi.1,hsome.1,hsome.2⟩
          simp[Oy,-QZ,sw]
          simp[AV.d]
        · have h8' : (way == 8) = false := by simpa using h8
          by_cases h9:way=9/\1<t.p
          · obtain ⟨h9, hP⟩ := h9
            subst h9
            have hP':(1:Int)<t.p:=by omega
            obtain⟨rp,S4,e4,a4,b4,p4⟩:=Az p3.pen (n:=t.p) (by omega) (by omega)
            obtain⟨rq,S5,e5,a5,b5,p5⟩:=Az p4.pen (n:=(t.p:Int)-1) (by omega) (by omega)
            obtain⟨sh,S6,e6,p6,a6,b6,c6⟩:=Q8 p5.pen
            have hmod:=Qk (x:=rp+1+rq) (K:=t.p) (by omega) (by omega)
            obtain⟨q,eq⟩:∃q:Nat,(rp+1+rq) % (t.p:Int)=(q:Int):=⟨_,(Int.toNat_of_nonneg (Int.emod_nonneg _ (by omega))).symm⟩
            obtain⟨rp,rfl⟩:=Gx a4
            have hq:q<t.p/\q≠rp:=by
              rw[eq]at hmod
              split at hmod<;>omega
            have pp:0<t.p:=by omega
            refine⟨.sell rp q sh,S6,?_,((p23.trans p4).trans p5).trans p6,fun z=>hq.2 z.symm,by omega,hq.1,a6,b6,c6⟩
            simp[Oy,-QZ,sw]
            simp[Tr.d,hP',e4,e5,pp,eq,e6,AV.d]
          · have s9 : ∀ (x y : Ex) (T : Sto), xIf (Ko (eOp (o2 wEq) [(eV 7), (eC (.int 9))]) (eOp (o2 wGt) [(eOp (o2 wIx) [(eV 1), (eC (.int 0))]), (eC (.int 1))])) x y [some (.ref p), some t.d, some (.ref s), some (.ref l), some (shD st.hold), some (.ref m), some (.lst (GU (CS st))), some (.int way), some (.int i), some (.int (1 + rs)), o10, none, none, none] T = y [some (.ref p), some t.d, some (.ref s), some (.ref l), some (shD st.hold), some (.ref m), some (.lst (GU (CS st))), some (.int way), some (.int i), some (.int (1 + rs)), o10, none, none, none] T := by
              intro x y T
              by_cases z:way=9
              · have hP : ¬ (1 : Int) < t.p := by have : ¬ 1 < t.p := fun w => h9 ⟨z, w⟩; omega
                subst z
                simp[Tr.d,hP]
              · have z' : (way == 9) = false := by simpa using z
                simp[z']
            obtain⟨ws,S4,e4,p4,a4,b4⟩:=Sv p3.pen (n:=t.k+1) (by omega)
            have e4':Dl [.ref p,.int ((t.k:Int)+1)] S3=some (.tup (ws.map .int),S4):=e4
            refine⟨.thr i (1+rs) ws,S4,?_,p23.trans p4,fi.1,hsome.1,hsome.2,a4,b4⟩
            have s8:∀(x y:Ex) (T:Sto),xIf (eOp (o2 wEq) [(eV 7),(eC (.int 8))]) x y [some (.ref p),some t.d,some (.ref s),some (.ref l),some (shD st.hold),some (.ref m),some (.lst (GU (CS st))),some (.int way),some (.int i),some (.int (1+rs)),o10,none,none,none] T=y [some (.ref p),some t.d,some (.ref s),some (.ref l),some (shD st.hold),some (.ref m),some (.lst (GU (CS st))),some (.int way),some (.int i),some (.int (1+rs)),o10,none,none,none] T:=by
              intro x y T
              simp[h8']
            simp[Oy,-QZ,sw,s8,s9]
            simp[Tr.d,e4',AV.d]
    by_cases hpool:way<5/\(FA st i).isEmpty=false
    · obtain ⟨hw5, hse⟩ := hpool
      have hsl:0<(FA st i).length:=by
        cases z:FA st i with
        |nil=>rw[z]at hse;cases hse
        |cons a b=>simp
      obtain⟨rj,S4,e4,a4,b4,p4⟩:=Az p3.pen (n:=(FA st i).length) (by omega) (by omega)
      obtain⟨j,mj,ej⟩:=Lv a4 b4
      have fj:=Wt mj
      have fj':=LZ fj.1
      refine⟨.pool i j,S4,?_,p23.trans p4,fun z=>fj.2.1 z.symm,fi.1,fj'.1,n1,fj'.2,fj.2.2.symm⟩
      rw[pre]
      simp[T9,hw5,cs,okS,dqS,hse,nls,e4,ej,AV.d]
    · by_cases w5 : way < 5
      · have hse : (FA st i).isEmpty = true := by
          cases z:(FA st i).isEmpty with
          |true=>rfl
          |false=>exact absurd ⟨w5,z⟩ hpool
        obtain⟨d,S',e,pn,hc⟩:=tail (some (.lst (GU (FA st i)))) (fun _=>hse)
        refine⟨d,S',?_,pn,hc⟩
        rw[pre,←e]
        simp[T9,w5,cs,okS,dqS,hse]
      · obtain ⟨d, S', e, pn, hc⟩ := tail none (fun z => absurd z w5)
        refine⟨d,S',?_,pn,hc⟩
        rw[pre,←e]
        simp[T9,w5]
end
noncomputable def runs(t:Tr)(st:Stt)(ds:List AV):Stt:=ds.foldl (step t) st
def HL(t:Tr):Stt->List AV->Prop
 |_,[]=>True
 |st,d::ds=>Can t st d/\HL t (step t st d) ds
theorem Np{t:Tr}{d:AV}:∀{ds:List AV} {st:Stt},HL t st ds->Can t (runs t st ds) d->HL t st (ds++[d])
 | [],st,_,h=>⟨h,trivial⟩
 |x::ds,st,h,g=>⟨h.1,Np h.2 g⟩
theorem Oh{t:Tr}:∀{ds:List AV} {st:Stt} {i:Nat} {d:AV},HL t st ds->ds[i]?=some d->Can t (runs t st (ds.take i)) d
  | x :: ds, st, 0, d, h, g => by
    simp at g;subst g
    exact h.1
  | x :: ds, st, i + 1, d, h, g => by
    simp at g
    show Can t (runs t (step t st x) (ds.take i)) d
    exact Oh h.2 g
theorem PQ{t:Tr}{st:Stt}{ds:List AV}{d:AV}:runs t st (ds++[d])=step t (runs t st ds) d:=by simp[runs]
theorem Pz{t:Tr}{st:Stt}{ds:List AV}{i:Nat}{d:AV}(h:ds[i]?=some d):runs t st (ds.take (i+1))=step t (runs t st (ds.take i)) d:=by
 rw[List.take_succ,h]
 exact PQ
theorem OB{t:Tr}(ht:Jj t):∀{ds:List AV} {st:Stt} {k:Nat},Du t k st->HL t st ds->k+ds.length≤17->Du t (k+ds.length) (runs t st ds)
  | [],st,k,h,_,_=>h
  | d :: ds, st, k, h, g, hl => by
    have:=OB ht (ds:=ds) (Fz ht h (by simp at hl;omega) g.1) g.2 (by simp at hl;omega)
    rw[show k+(d::ds).length=k+1+ds.length by simp;omega]
    exact this
theorem Ka{t:Tr}:∀{ds:List AV} {st:Stt} {i:Nat},HL t st ds->HL t st (ds.take i)
 | [],st,i,h=>by simp;exact trivial
 |d::ds,st,0,h=>trivial
 |d::ds,st,i+1,h=>⟨h.1,Ka h.2⟩
noncomputable def st0(t:Tr)(ls:List Ld):Stt:=⟨ls,t.ho,[]⟩
structure BJ(t:Tr)(ls:List Ld)(ds:List AV):Prop where
 tr:Jj t
 inv:Du t 0 (st0 t ls)
 good:HL t (st0 t ls) ds
 len:ds.length≤16
theorem BJ.at{t:Tr}{ls:List Ld}{ds:List AV}(h:BJ t ls ds)(i:Nat):Du t (ds.take i).length (runs t (st0 t ls) (ds.take i)):=by
 have:=OB h.tr (ds:=ds.take i) h.inv (Ka h.good) (by have:=h.len;simp;omega)
 rwa [Nat.zero_add]at this
noncomputable def Aj(t:Tr)(ls:List Ld)(ds:List AV):D:=.tup [t.d,.tup (ls.map Ld.d),.tup (ds.map AV.d)]
theorem To{t:Tr}{ls:List Ld}(h:G9 t ls)(hl:ls.length≤4)(h1:t.ho.length=t.p){g:Nat}(g0:0<g)(g1:g≤32)(g2:∀r∈t.ho,Ok g g r):Du t 0 (st0 t ls):=by
 obtain⟨ha,G,G0,G1,G2⟩:=h
 have hG:G≤32^4:=Nat.le_trans G1 (Nat.pow_le_pow_right (by decide) hl)
 have hB:G*g<2^30:=by
  have:=Nat.mul_le_mul hG g1
  omega
 refine Du.of (G:=G*g) (B:=G*g) (by simpa[st0]using hl) ?_ h1 (Nat.le_refl _) (Nat.mul_pos G0 g0) (Nat.le_refl _) hB ?_
 ·intro x hx
  have:=ha x hx
  exact⟨this.1,by omega,cc this.2.2.1,this.2.2.2.1,fun r hr=>(G2 x hx r hr).up (Nat.le_refl _)⟩
 ·intro r hr
  have:=(g2 r hr).up (t:=G) (B':=G*g) (by rw[Nat.mul_comm];exact Nat.le_refl _)
  rwa [Nat.mul_comm g G]at this
noncomputable def Iy:AV->Bool
 | .thr .. =>true
 |_=>false
section
variable{S:Sto}{p:Nat}
theorem VT(d:AV)(E:En)(h:E=[some d.d]):eOp (o2 wEq) [(eOp (o2 wIx) [(eV 0),(eC (.int 0))]),(eC (.str "throw"))] E S=some (.bl (Iy d),S):=by
 subst h
 cases d<;>simp[AV.d,Iy]
theorem iK{q:Nat}{ds:List AV}(hq:S[q]?=some (.lst (ds.map AV.d)))(hl:ds.length≤50):CM [(q,ds.map AV.d)] (tNm 0) (eOp (o2 wEq) [(eOp (o2 wIx) [(eV 0),(eC (.int 0))]),(eC (.str "throw"))]) (eV 0) (ds.map AV.d) [] [none] S=some ((ds.filter Iy).map AV.d,S):=
 Fg (gs:=[(q,ds.map AV.d)]) (t:=tNm 0) (f:=eV 0) (C:=[]) (m:=1) (e:=AV.d) (g:=AV.d) (b:=Iy) (S:=S) (fun g hg=>by rw[List.mem_singleton.mp hg];exact Aa hq) (xs:=ds) (acc:=[]) (os:=[none]) rfl (Nat.le_trans (show _≤50 by simp;omega) (AW (by decide))) (by
  intro d _ os ho
  obtain⟨o1,rfl⟩:∃o1,os=[o1]:=by
   match os,ho with
   | [a],_=>exact⟨a,rfl⟩
  exact⟨[some d.d],rfl,by simp,VT d _ rfl,by simp⟩)
theorem Ys {M : Nat} (hM : M ≤ 16) (h : Dv p S) : ∃ t ls ds S', Gw [.ref p, .int M] S = some (Aj t ls ds, S') /\ (BJ t ls ds /\ ds.length ≤ M) /\ ((∀ l ∈ ls, l.ow.sum = 1) /\ t.ho.sum = 1) /\ Dv p S' := by
  obtain⟨t,S1,e1,p1,ht,hh,g,g0,g1,g2⟩:=XD h
  obtain⟨ls,S2,e2,p2,hf,hl⟩:=XH p1.pen ht
  have hi:=To hf hl hh.1 g0 g1 g2
  obtain⟨s,l,m,as,S3,e3,hS,sm,hn⟩:=WK (S:=S2) (t:=t) (ls:=ls) (x:=.tup []) (by omega)
  have lp:=p2.pen.lt
  have pen3:Dv p S3:=by
    obtain⟨ds,e,hp⟩:=p2.pen
    exact⟨ds,sm.get e (by simp),hp⟩
  have hq:(S3++[Cl.lst []])[S3.length]?=some (.lst []):=List.getElem?_concat_length
  obtain⟨rn,S4,e4,a4,b4,p4⟩:=Az (pen3.app [Cl.lst []]) (n:=(M:Int)+1) (by omega) (by omega)
  have lt3:=hS.lts
  have pn:p∉s::l::m::as:=fun z=>by have:=hn p z;omega
  have qn:S3.length∉s::l::m::as:=fun z=>by have:=lt3 _ z;omega
  have hpq:S3.length≠p:=by have:=pen3.lt;omega
  have hS4:SAt S4 s l m as (st0 t ls):=(hS.same0 (.app)).same p4.same (by simpa using pn)
  have hq4:S4[S3.length]?=some (.lst []):=p4.get hq hpq
  obtain⟨rn,rfl⟩:=Gx a4
  have rk:Hx (rn:Int)=true:=Dc (by omega) (by omega)
  generalize hQ:S3.length=q at*
  obtain ⟨E', S', ef, ds, as', o6, o7, rfl, f1, f2, f3, f4, f5, f6, f7⟩ := ET (gs := []) (t := tNm 6) (b := Af (Bp 7 (AJ Dq [(eV 0), (eV 2), (eV 4)]))
    (xIf (eOr (eOp (o2 wNe) [(eOp (o2 wIx) [(eV 7),(eC (.int 0))]),(eC (.str "throw"))]) (eOp (o2 wLt) [(eOp (o1 Hj) [(Cn [] 1 (JR (eV 5)) (tNm 0) (eOp (o2 wEq) [(eOp (o2 wIx) [(eV 0),(eC (.int 0))]),(eC (.str "throw"))]) (eV 0))]),(eC (.int 3))])) (Af (EO (AJ B4 [(eV 2),(eV 4),(eV 7)]))
    (EO (O3 QD (eV 5) [(eV 7)]))) Dw))
    (I:=fun rs E S'=>∃(ds:List AV) (as':List Nat) (o6 o7:Option D),E=[some (.ref p),some (.int M),some t.d,some (.tup (ls.map Ld.d)),some (.ref s),some (.ref q),o6,o7]/\S'[q]?=some (.lst (ds.map AV.d))/\Dv p S'/\SAt S' s l m as' (runs t (st0 t ls) ds)/\HL t (st0 t ls) ds/\ds.length+rs.length≤M/\p∉s::l::m::as'/\q∉s::l::m::as')
    (fun _ _ _ _=>Al) (ds:=LM 0 rn) (E:=[some (.ref p),some (.int M),some t.d,some (.tup (ls.map Ld.d)),some (.ref s),some (.ref q),none,none]) (S:=S4)
    ⟨[], as, none, none, rfl, hq4, p4.pen, hS4, trivial, by rw [Ig]; simp; omega, pn, qn⟩ (by
      rintro dd rs E T ⟨ds,as',o6,o7,rfl,i1,i2,i3,i4,i5,i6,i7⟩
      simp only[List.length_cons]at i5
      have inv:=OB ht hi i4 (by omega)
      rw[Nat.zero_add]at inv
      obtain⟨d,T1,d1,d2,d3⟩:=ZL i2 i3 i6 ht inv (by omega)
      have j3:=i3.same d2.same (by simpa using i6)
      have j1:T1[q]?=some (.lst (ds.map AV.d)):=d2.get i1 hpq
      have tc:=iK j1 (by omega)
      by_cases hb:Iy d=false∨(ds.filter Iy).length<3
      · obtain ⟨T2, as2, k1, k2, k3, k4⟩ := fm j3 ht inv (by omega) d3
        have lt:=j3.lts
        have q2:T2[q]?=some (.lst (ds.map AV.d)):=k3.get j1 i7
        have hz:ds.length<sizeLine:=Nat.lt_of_lt_of_le (show ds.length<50 by omega) (AW (by decide))
        refine⟨_,[some (.ref p),some (.int M),some t.d,some (.tup (ls.map Ld.d)),some (.ref s),some (.ref q),some dd,some d.d],T2.set q (.lst ((ds++[d]).map AV.d)),by simp;rfl,?_,ds++[d],as2,some dd,some d.d,rfl,List.getElem?_set_self (A7 q2),?_,?_,Np i4 d3,by simp;omega,?_,?_⟩
        · have kk := Aa q2
          have w1:∀(c:Ev),eOr (eOp (o2 wNe) [(eOp (o2 wIx) [(eV 7),(eC (.int 0))]),(eC (.str "throw"))]) c [some (.ref p),some (.int M),some t.d,some (.tup (ls.map Ld.d)),some (.ref s),some (.ref q),some dd,some d.d] T1=if Iy d=true then c [some (.ref p),some (.int M),some t.d,some (.tup (ls.map Ld.d)),some (.ref s),some (.ref q),some dd,some d.d] T1 else some (.bl true,T1):=by
            intro c
            cases d<;>simp[AV.d,Iy]
          have sq:=IZ j1
          have hz':(ds.map AV.d).length<sizeLine:=by simpa using hz
          have hfin:(ds++[d]).map AV.d=ds.map AV.d++[d.d]:=by simp
          rw[hfin]
          generalize hDD:ds.map AV.d=DD at*
          cases ht':Iy d with
          | false =>
            simp[d1,-Qh,w1,ht',k1,kk,hz']
          | true =>
            have h3:((ds.filter Iy).length:Int)<3:=by
              have:=hb.resolve_left (by rw[ht'];simp)
              omega
            simp[d1,-Qh,w1,ht',sq,tc,h3,k1,kk,hz']
        · obtain ⟨pd, pe, ph⟩ := d2.pen
          exact⟨pd,by rw[List.getElem?_set_ne hpq];exact k3.get pe i6,ph⟩
        · rw [PQ]
          exact k2.same (A:=[q]) (.set (by simp)) (by
            intro n hn z
            simp at hn;subst hn
            simp only[List.mem_cons]at z i7
            rcases z with z|z|z|z
            ·exact i7 (.inl z)
            ·exact i7 (.inr (.inl z))
            ·exact i7 (.inr (.inr (.inl z)))
            · rcases k4 _ z with w | w
              ·exact i7 (.inr (.inr (.inr w)))
              ·have:=A7 j1;omega)
        · intro z
          simp only[List.mem_cons]at z i6
          rcases z with z|z|z|z
          ·exact i6 (.inl z)
          ·exact i6 (.inr (.inl z))
          ·exact i6 (.inr (.inr (.inl z)))
          · rcases k4 _ z with w | w
            ·exact i6 (.inr (.inr (.inr w)))
            ·have:=d2.pen.lt;omega
        · intro z
          simp only[List.mem_cons]at z i7
          rcases z with z|z|z|z
          ·exact i7 (.inl z)
          ·exact i7 (.inr (.inl z))
          ·exact i7 (.inr (.inr (.inl z)))
          · rcases k4 _ z with w | w
            ·exact i7 (.inr (.inr (.inr w)))
            ·have:=A7 j1;omega
      · have ht' : Iy d = true := by
          cases z:Iy d with
          |true=>rfl
          |false=>exact absurd (.inl z) hb
        have h3:¬((ds.filter Iy).length:Int)<3:=by
          have:¬(ds.filter Iy).length<3:=fun z=>hb (.inr z)
          omega
        refine⟨_,[some (.ref p),some (.int M),some t.d,some (.tup (ls.map Ld.d)),some (.ref s),some (.ref q),some dd,some d.d],T1,by simp;rfl,?_,ds,as',some dd,some d.d,rfl,j1,d2.pen,j3,i4,by omega,i6,i7⟩
        have w1:∀(c:Ev),eOr (eOp (o2 wNe) [(eOp (o2 wIx) [(eV 7),(eC (.int 0))]),(eC (.str "throw"))]) c [some (.ref p),some (.int M),some t.d,some (.tup (ls.map Ld.d)),some (.ref s),some (.ref q),some dd,some d.d] T1=if Iy d=true then c [some (.ref p),some (.int M),some t.d,some (.tup (ls.map Ld.d)),some (.ref s),some (.ref q),some dd,some d.d] T1 else some (.bl true,T1):=by
            intro c
            cases d<;>simp[AV.d,Iy]
        have sq:=IZ j1
        generalize hDD:ds.map AV.d=DD at*
        simp[d1,-Qh,w1,ht',sq,tc,h3])
  refine⟨t,ls,ds,S',?_,⟨⟨ht,hi,f4,by simp at f5;omega⟩,by simpa using f5⟩,⟨fun x hx=>(hf.1 x hx).2.2.2.2,hh.2⟩,f2⟩
  have df:=BE f1
  simp[Gw,Nl,e1,e2,e3,hQ,e4,rk,ef,df,Aj]
end
section
variable{S:Sto}{s l m:Nat}{as:List Nat}{st:Stt}
theorem TM{rs:List Rat}:D.tup (rs.map aD)=shD rs:=rfl
end
theorem QU{n m d:Nat}(h:n≤m):HT.sIx m d (some (n:Int))=n:=by
 unfold HT.sIx
 have:¬((n:Int)<0):=by omega
 simp[this]
 omega
theorem Jx{α:Type}{ds:List α}{n:Nat}(h:n≤ds.length):KU ds none (some (n:Int))=ds.take n:=by
 unfold KU
 rw[QU h]
 simp[HT.sIx]
theorem LQ{α:Type}{ds:List α}{n:Nat}(h:n≤ds.length):KU ds (some (n:Int)) none=ds.drop n:=by
 unfold KU
 rw[QU h]
 simp[HT.sIx]
 exact List.take_of_length_le (by simp)
noncomputable def hD(x:Ld):D:=.tup [.int x.k,.int x.n]
noncomputable def Bl(ls:List Ld):D:=.lst (ls.map hD)
noncomputable def KJ(ls:List Ld):D:=.lst (ls.map fun x=>shD x.ow)
section
variable{S:Sto}{ls:List Ld}{i j:Nat}{n:Int}
@[simp] theorem ff:dr S (Bl ls)=.val (Bl ls):=nr rfl
@[simp] theorem gX:dr S (KJ ls)=.val (KJ ls):=nr rfl
@[simp] theorem dQ:asS (.val (Bl ls))=some (ls.map hD):=nr rfl
@[simp] theorem cX:asS (.val (KJ ls))=some (ls.map fun x=>shD x.ow):=nr rfl
@[simp] theorem dA:Hj (.val (Bl ls))=some (.val (.int ls.length)):=by
 show Hj (.val (.lst (ls.map hD)))=_
 rw[XR,List.length_map]
theorem Ey(hi:i<ls.length):atI (ls.map hD) (i:Int)=some (hD (AO ls i)):=Cb (by rw[List.getElem?_map,F5 hi];rfl)
theorem MQ(hi:i<ls.length):atI (ls.map fun x=>shD x.ow) (i:Int)=some (shD (AO ls i).ow):=Cb (by rw[List.getElem?_map,F5 hi];rfl)
@[simp] theorem iq{x:Ld}:dr S (hD x)=.val (.tup [.int x.k,.int x.n]):=nr rfl
@[simp] theorem gN{ts:List Tf}{x:Ld}{E:En}:tTp ts (hD x) E S=tMs ts [.int x.k,.int x.n] E S:=nr rfl
theorem QF(hi:i<ls.length)(hn:n≤(AO ls i).n):CL [Bl ls,.int i,.int n] S=some (.bl true,S):=by
 have hi':(i:Int)<ls.length:=by omega
 simp[CL,JL,hi',hi,Ey hi,hn]
theorem Qv(hi:i<ls.length)(hj:j<ls.length)(h1:0<(AO ls i).n)(h2:0<(AO ls j).n)(hk:(AO ls i).k=(AO ls j).k):GF [Bl ls,.int i,.int j] S=some (.bl true,S):=by
 have e1:=QF (S:=S) (n:=1) hi (by omega)
 have e2:=QF (S:=S) (n:=1) hj (by omega)
 simp[GF,Kp,e1,e2,Ey hi,Ey hj,hk]
theorem ME{k:Nat}(hi:i<ls.length)(hn:n≤(AO ls i).n)(hk:k≠(AO ls i).k):Et [Bl ls,.int i,.int n,.int k] S=some (.bl true,S):=by
 have e1:=QF (S:=S) hi hn
 have e2:(((AO ls i).k:Int)==(k:Int))=false:=by simp;omega
 simp[Et,K8,e1,Ey hi,e2]
theorem Wy{lo hi:Option Int}:wSl lo hi (.val (Bl ls))=some (.own (KU (ls.map hD) lo hi)):=nr rfl
theorem FZ(hi:i<ls.length)(hl:ls.length≤60):Bn [Bl ls,.int i,.int n] S=some (Bl (less ls i n),S):=by
 have c1:=Jx (ds:=ls.map hD) (n:=i) (by simp;omega)
 have c2:KU (ls.map hD) (some ((i:Int)+1)) none=(ls.map hD).drop (i+1):=by
  have:=LQ (ds:=ls.map hD) (n:=i+1) (by simp;omega)
  simpa using this
 have ef:Bl (less ls i n)=.lst ((ls.map hD).take i++[.tup [.int (AO ls i).k,.int ((AO ls i).n-n)]]++(ls.map hD).drop (i+1)):=by
  rw[QX,Bl,List.map_set,List.set_eq_take_append_cons_drop,if_pos (by simpa using hi)]
  simp[hD]
 have z1:(List.take i (ls.map hD)).length+1≤sizeLine:=Nat.le_trans (show _≤100 by simp;omega) (AW (by decide))
 have z2:(List.take i (ls.map hD)++[D.tup [.int (AO ls i).k,.int ((AO ls i).n-n)]]).length+(List.drop (i+1) (ls.map hD)).length≤sizeLine:=Nat.le_trans (show _≤100 by simp;omega) (AW (by decide))
 rw[ef]
 have ah:=Ey hi
 have ws:=fun{lo hi:Option Int}=>Wy (ls:=ls) (lo:=lo) (hi:=hi)
 generalize List.take i (ls.map hD)=A at*
 generalize List.drop (i+1) (ls.map hD)=B at*
 simp only[List.length_append,List.length_cons,List.length_nil]at z2
 simp[Bn,HU,ah,ws,c1,c2,z1,z2]
end
section
variable{S:Sto}{st:Stt}{t:Tr}{k:Nat}
@[simp] theorem Ed{ls:List Ld}{r:List D}:Cv (.val (Bl ls)) (.val (.lst r))=if(ls.map hD).length+r.length≤sizeLine then some (.own (ls.map hD++r))else none:=nr rfl
theorem LP{ls:List Ld}{y:Ld}:D.lst (ls.map hD++[.tup [.int y.k,.int y.n]])=Bl (ls++[y]):=by simp[Bl,hD]
theorem PR(h:Du t k st)(hk:k≤17){d:AV}(hc:Can t st d):Aq [Bl st.loads,d.d] S=some (Bl (step t st d).loads,S):=by
  have hlen:=h.len
  have hz:(st.loads.map hD).length+1≤sizeLine:=Nat.le_trans (show _≤100 by simp;omega) (AW (by decide))
  have hz2:∀{i:Nat} {n:Int},((less st.loads i n).map hD).length+1≤sizeLine:=fun{i n}=>Nat.le_trans (show _≤100 by simp[Ce];omega) (AW (by decide))
  cases d with
  | bring p kd n =>
    have e:=LP (ls:=st.loads) (y:=⟨kd,n,QQ t.p p⟩)
    show _=some (Bl (st.loads++[⟨kd,n,QQ t.p p⟩]),S)
    rw[←e]
    have wA:=Ed (ls:=st.loads) (r:=[.tup [.int kd,.int n]])
    rw[if_pos (by simpa using hz)]at wA
    simp[Aq,Bj,AV.d,-Ed,wA]
  | pool i j =>
    obtain⟨hij,hi,hj,h1,h2,h3⟩:=hc
    have e0:AO (less st.loads i (AO st.loads i).n) j=AO st.loads j:=by
      unfold AO less
      rw[List.getD_eq_getElem?_getD,List.getElem?_set_ne hij,←List.getD_eq_getElem?_getD]
    have w1:=FZ (S:=S) (n:=(AO st.loads i).n) hi (by omega)
    have w2:=FZ (S:=S) (ls:=less st.loads i (AO st.loads i).n) (i:=j) (n:=(AO st.loads j).n) (by rw[Ce];exact hj) (by rw[Ce];omega)
    have z3:((less (less st.loads i (AO st.loads i).n) j (AO st.loads j).n).map hD).length+1≤sizeLine:=Nat.le_trans (show _≤100 by simp[Ce];omega) (AW (by decide))
    have e:=LP (ls:=less (less st.loads i (AO st.loads i).n) j (AO st.loads j).n) (y:=⟨(AO st.loads i).k,(AO st.loads i).n+(AO st.loads j).n,Bf (AO st.loads i).n (AO st.loads j).n (AO st.loads i).ow (AO st.loads j).ow⟩)
    show _=some (Bl (less (less st.loads i (AO st.loads i).n) j (AO st.loads j).n++[_]),S)
    rw[←e]
    have a1:=Ey hi
    have a2:=Ey hj
    have wA:=Ed (ls:=less (less st.loads i (AO st.loads i).n) j (AO st.loads j).n) (r:=[.tup [.int (AO st.loads i).k,.int ((AO st.loads i).n+(AO st.loads j).n)]])
    rw[if_pos (by simpa using z3)]at wA
    generalize (less (less st.loads i (AO st.loads i).n) j (AO st.loads j).n).map hD=A at*
    simp[Aq,Bj,AV.d,a1,a2,w1,w2,-Ed,wA]
  | swap i g kd n =>
    obtain⟨hi,h1,h2,h3,h4,h5,h6⟩:=hc
    have w1:=FZ (S:=S) (n:=g) hi (by omega)
    have e:=LP (ls:=less st.loads i g) (y:=⟨kd,n,(AO st.loads i).ow⟩)
    show _=some (Bl (less st.loads i g++[⟨kd,n,(AO st.loads i).ow⟩]),S)
    rw[←e]
    have wA:=Ed (ls:=less st.loads i g) (r:=[.tup [.int kd,.int n]])
    rw[if_pos (by simpa using hz2)]at wA
    simp[Aq,Bj,AV.d,w1,-Ed,wA]
  | trade u i g kd n =>
    obtain⟨hi,h1,h2,h3,h4,h5,h6,h7⟩:=hc
    have w1:=FZ (S:=S) (n:=g) hi (by omega)
    have e:=LP (ls:=less st.loads i g) (y:=⟨kd,n,(AO st.loads i).ow⟩)
    show _=some (Bl (less st.loads i g++[⟨kd,n,(AO st.loads i).ow⟩]),S)
    rw[←e]
    have wA:=Ed (ls:=less st.loads i g) (r:=[.tup [.int kd,.int n]])
    rw[if_pos (by simpa using hz2)]at wA
    simp[Aq,Bj,AV.d,w1,-Ed,wA]
  | spoil i n =>
    obtain⟨hi,h1,h2⟩:=hc
    have w1:=FZ (S:=S) (n:=n) hi (by omega)
    show _=some (Bl (less st.loads i n),S)
    simp[Aq,Bj,AV.d,w1]
  | thr i n ws =>
    obtain⟨hi,h1,h2,h3,h4⟩:=hc
    have w1:=FZ (S:=S) (n:=n) hi (by omega)
    have e:Bl (step t st (.thr i n ws)).loads=Bl (less st.loads i n):=by
      show D.lst (((less st.loads i n).map _).map hD)=_
      rw[List.map_map];rfl
    rw[e]
    simp[Aq,Bj,AV.d,w1]
  | sell p q x =>
    have e:Bl (step t st (.sell p q x)).loads=Bl st.loads:=by
      show D.lst ((st.loads.map _).map hD)=_
      rw[List.map_map];rfl
    rw[e]
    simp[Aq,Bj,AV.d]
noncomputable def Ha:AV->Option Int
 | .trade u .. =>some u
 |_=>none
theorem Ua{ls:List Ld}:∀{ds:List AV},(runs t (st0 t ls) ds).nums=ds.filterMap Ha:=by
  intro ds
  have : ∀ (ds : List AV) (st : Stt), (runs t st ds).nums = st.nums ++ ds.filterMap Ha := by
    intro ds
    induction ds with
    |nil=>intro st;simp[runs]
    | cons d ds ih =>
      intro st
      show(runs t (step t st d) ds).nums=_
      rw[ih]
      cases d<;>simp[step,Ha,List.filterMap_cons]
  rw[this];rfl
theorem K3:∀{ds:List AV} {acc:List D} {o:Option D},acc.length+ds.length≤100->CM [] (tNm 0) (eOp (o2 wEq) [(eOp (o2 wIx) [(eV 0),(eC (.int 0))]),(eC (.str "trade"))]) (eOp (o2 wIx) [(eV 0),(eC (.int 1))]) (ds.map AV.d) acc [o] S=some (acc++(ds.filterMap Ha).map D.int,S)
  | [],acc,o,h=>by rw[List.map_nil,Ek Al];simp
  | d :: ds, acc, o, h => by
    have hz:acc.length<sizeLine:=Nat.lt_of_lt_of_le (show acc.length<101 by simp at h;omega) (AW (by decide))
    have ht:tNm 0 d.d [o] S=some [some d.d]:=by simp
    rw[List.map_cons]
    cases d with
    | trade u i g kd n =>
      rw[Hy Al hz ht (S1:=S) (by simp[AV.d])]
      have:eOp (o2 wIx) [(eV 0),(eC (.int 1))] [some (AV.trade u i g kd n).d] S=some (.int u,S):=by simp[AV.d]
      rw[this,Eb,K3 (by simp at h ⊢; omega)]
      simp[Ha,List.filterMap_cons]
    |bring=>rw[Ji Al hz ht (S1:=S) (by simp[AV.d]),K3 (by simp at h ⊢; omega)];simp[Ha,List.filterMap_cons]
    |pool=>rw[Ji Al hz ht (S1:=S) (by simp[AV.d]),K3 (by simp at h ⊢; omega)];simp[Ha,List.filterMap_cons]
    |swap=>rw[Ji Al hz ht (S1:=S) (by simp[AV.d]),K3 (by simp at h ⊢; omega)];simp[Ha,List.filterMap_cons]
    |spoil=>rw[Ji Al hz ht (S1:=S) (by simp[AV.d]),K3 (by simp at h ⊢; omega)];simp[Ha,List.filterMap_cons]
    |thr=>rw[Ji Al hz ht (S1:=S) (by simp[AV.d]),K3 (by simp at h ⊢; omega)];simp[Ha,List.filterMap_cons]
    |sell=>rw[Ji Al hz ht (S1:=S) (by simp[AV.d]),K3 (by simp at h ⊢; omega)];simp[Ha,List.filterMap_cons]
theorem Ta{ds:List AV}{d:AV}(hd:ds.length≤50)(hn:st.nums=ds.filterMap Ha)(hc:Can t st d):CW [Bl st.loads,.tup (ds.map AV.d),d.d] S=some (.bl true,S):=by
  cases d with
  |bring p kd n=>simp[CW,Dm,AV.d]
  | pool i j =>
    obtain⟨hij,hi,hj,h1,h2,h3⟩:=hc
    have e:=Qv (S:=S) hi hj h1 h2 h3
    simp[CW,Dm,AV.d,e]
  | swap i g kd n =>
    obtain⟨hi,h1,h2,h3,h4,h5,h6⟩:=hc
    have e:=ME (S:=S) (k:=kd) hi h2 h4
    simp[CW,Dm,AV.d,e]
  | trade u i g kd n =>
    obtain⟨hi,h1,h2,h3,h4,h5,h6,h7,h8⟩:=hc
    have e:=ME (S:=S) (k:=kd) hi h2 h4
    have tc:=K3 (S:=S) (ds:=ds) (acc:=[]) (o:=none) (by simp;omega)
    rw[←hn]at tc
    have fi:=PB (us:=st.nums)
    have ii:=N5 (us:=st.nums) (i:=u)
    have iu:(st.nums.any fun x=>x==u)=false:=by
      rw[List.any_eq_false]
      intro x hx z
      have:x=u:=by simpa using z
      exact h7 (this▸hx)
    rw[iu]at ii
    generalize st.nums.map D.int=ud at*
    simp[CW,Dm,AV.d,tc,fi,ii,e]
  | spoil i n =>
    obtain⟨hi,h1,h2⟩:=hc
    have e:=QF (S:=S) hi h2
    simp[CW,Dm,AV.d,e]
  | thr i n ws =>
    obtain⟨hi,h1,h2,h3,h4⟩:=hc
    have e:=QF (S:=S) hi h2
    simp[CW,Dm,AV.d,e]
  |sell p q x=>simp[CW,Dm,AV.d]
end
section
variable{S:Sto}{st:Stt}{t:Tr}{k:Nat}
theorem Q7{ss os:List Rat}:Ml (ss.map aD) (os.map aD)=(ss.zip os).map fun z=>D.tup [aD z.1,aD z.2]:=by
 unfold Ml
 rw[List.zip_map,List.map_map]
 rfl
noncomputable def ZZ(w m:Int)(ss os:List Rat):List Rat:=List.zipWith (fun s o=>(s*w+o*m) / (w+m)) ss os
theorem Fo{w m:Int}{ss os:List Rat}{j n:Nat}(hs:∀r∈ss,Sz j r)(ho:∀r∈os,Sz j r)(hw:w.natAbs<2^n)(hm:m.natAbs<2^n)(h:0<w+m)(hj:2*j+n+1≤7990)(hl:ss.length≤10):Cp [shD ss,.int w,shD os,.int m] S=some (shD (ZZ w m ss os),S):=by
 have e:=Cu (gs:=[]) (t:=tTp [(tNm 2),(tNm 3)]) (f:=AJ IU [(eV 2),(eV 0),(eV 3),(eV 1)]) (C:=[some (.int w),some (.int m)]) (m:=2) (e:=fun z:Rat×Rat=>D.tup [aD z.1,aD z.2]) (g:=fun z=>aD ((z.1*w+z.2*m) / (w+m))) (S:=S) Al (xs:=ss.zip os) (acc:=[]) (os:=[none,none]) rfl (Nat.le_trans (show _≤50 by simp;omega) (AW (by decide))) (by
  intro z hz os' ho'
  obtain⟨q1,q2,rfl⟩:∃q1 q2,os'=[q1,q2]:=by
   match os',ho' with
   | [a,b],_=>exact⟨a,b,rfl⟩
  have hm2:=List.of_mem_zip (a:=z.1) (b:=z.2) hz
  have l:=bL (S:=S) (hs _ hm2.1) (ho _ hm2.2) hw hm h (by omega)
  refine⟨[some (aD z.1),some (aD z.2)],rfl,by simp,?_⟩
  simp[l])
 rw[←Q7]at e
 have em:(ss.zip os).map (fun z=>aD ((z.1*w+z.2*m) / (w+m)))=(ZZ w m ss os).map aD:=by
  unfold ZZ
  rw[←List.map_uncurry_zip_eq_zipWith,List.map_map]
  rfl
 rw[em]at e
 simp only[List.cons_append,List.nil_append]at e
 simp[Cp,HQ,e,TM]
theorem OS{P p:Nat}(hP:P≤10):Ea [.int P,.int p] S=some (shD (QQ P p),S):=by
 have e:=RG (S:=S) (P:=P) (p:=p) (cond:=0) (C:=[]) (dd:=.int p) (f:=eIf (eOp (o2 wEq) [(eV 1),(eV 0)]) (eC Tw) (eC D0)) hP (by
  intro i
  by_cases hi:i=p
  ·subst hi;simp;rfl
  ·have:((i:Int)==(p:Int))=false:=by simp;omega
   simp[this,hi];rfl)
 have rn:Hx (P:Int)=true:=Dc (by omega) (by omega)
 simp[Ea,JI,rn,e,TM]
theorem MA{n m:Int}{ss os:List Rat}:ZZ n m ss os=Bf n m ss os:=by
 unfold ZZ Bf
 congr 1
 funext s o
 push_cast
 rfl
theorem Qu{n m:Int}{ss os:List Rat}:Bf n m ss os=Bf m n os ss:=by
 unfold Bf
 rw[List.zipWith_comm]
 congr 1
 funext o s
 push_cast
 grind
@[simp] theorem Ud{a b:Int}:Mv [a,b]=if a≤b then [a,b]else [b,a]:=by
 unfold Mv
 simp[List.mergeSort,List.MergeSort.Internal.splitInTwo,List.merge]
@[simp] theorem Yt{a b:Int}:Oz (.val (.lst [.int a,.int b]))=some (.own ((if a≤b then [a,b]else [b,a]).map D.int)):=by
 have:Oz (.val (.lst [.int a,.int b]))=some (.own ((Mv [a,b]).map D.int)):=rfl
 rw[this,Ud]
@[simp] theorem cv{a b c d e:D}:atI [a,b,c,d,e] (-4)=some b:=nr rfl
@[simp] theorem cL{a b c d e f:D}:atI [a,b,c,d,e,f] (-4)=some c:=nr rfl
theorem Ux{i j:Nat}(ht:Jj t)(h:Du t k st)(hk:k≤17)(hc:Can t st (.pool i j)):BU [Bl st.loads,KJ st.loads,(AV.pool i j).d] S=some (shD (Bf (AO st.loads i).n (AO st.loads j).n (AO st.loads i).ow (AO st.loads j).ow),S):=by
 obtain⟨hij,hi,hj,h1,h2,h3⟩:=hc
 have sz:=h.sz
 have pi:=h.pcs _ (AX hi)
 have pj:=h.pcs _ (AX hj)
 have ti:=h.own _ (AX hi)
 have tj:=h.own _ (AX hj)
 have zi:=sz.1 _ (AX hi)
 have zj:=sz.1 _ (AX hj)
 have hp:t.p≤10:=by have:=ht.2.1;omega
 ·by_cases hle:i≤j
  ·have hle':(i:Int)≤j:=by omega
   have e:=Fo (S:=S) (j:=30+170*k) (n:=131+k) zi zj (GN pi.1 pi.2) (GN pj.1 pj.2) (by omega) (by omega) (by omega)
   rw[MA]at e
   have a1:=Ey hi
   have a2:=Ey hj
   have b1:=MQ hi
   have b2:=MQ hj
   have mf:CC [(AV.pool i j).d] S=some (.lst [.int i,.int j],S):=by
    simp[CC,EG,AV.d,hle,hle']
   simp only[AV.d]at mf⊢
   simp[BU,C1,mf,a1,a2,b1,b2,e]
  ·have hle':¬(i:Int)≤j:=by omega
   have e:=Fo (S:=S) (j:=30+170*k) (n:=131+k) zj zi (GN pj.1 pj.2) (GN pi.1 pi.2) (by omega) (by omega) (by omega)
   rw[MA,Qu]at e
   have a1:=Ey hi
   have a2:=Ey hj
   have b1:=MQ hi
   have b2:=MQ hj
   have mf:CC [(AV.pool i j).d] S=some (.lst [.int j,.int i],S):=by
    simp[CC,EG,AV.d,hle,hle']
   simp only[AV.d]at mf⊢
   simp[BU,C1,mf,a1,a2,b1,b2,e]
theorem UW{i kd:Nat}{g n:Int}(hi:i<st.loads.length):BU [Bl st.loads,KJ st.loads,(AV.swap i g kd n).d] S=some (shD (AO st.loads i).ow,S):=by
 have b1:=MQ hi
 simp[BU,C1,CC,EG,AV.d,b1]
theorem SO{i kd:Nat}{u g n:Int}(hi:i<st.loads.length):BU [Bl st.loads,KJ st.loads,(AV.trade u i g kd n).d] S=some (shD (AO st.loads i).ow,S):=by
 have b1:=MQ hi
 simp[BU,C1,CC,EG,AV.d,b1]
theorem Vc{ws:List Int}(h:Du t k st)(hk:k≤17)(hl:ws.length=t.k+1)(hw:∀w∈ws,1≤w/\w≤99):De [t.d,Bl st.loads,.tup (ws.map D.int)] S=some (.int (Ct t st.loads ws),S):=by
 have hlen:=h.len
 have e:=Cu (gs:=[]) (t:=tTp [(tNm 1),(tNm 2)]) (f:=eOp (o2 Bx) [(eV 2),(eOp (o2 wIx) [(eV 0),(eV 1)])]) (C:=[some (.tup (ws.map D.int))]) (m:=2) (e:=hD) (g:=fun x=>D.int (x.n*ws.getD x.k 0)) (S:=S) Al (xs:=st.loads) (acc:=[]) (os:=[none,none]) rfl (Nat.le_trans (show _≤50 by simp;omega) (AW (by decide))) (by
  intro x hx os ho
  obtain⟨q1,q2,rfl⟩:∃q1 q2,os=[q1,q2]:=by
   match os,ho with
   | [a,b],_=>exact⟨a,b,rfl⟩
  have hkk:=h.kind _ hx
  have w1:=Ra (ws:=ws) (i:=x.k) (by omega)
  have w2:=MJ hw (i:=x.k) (by omega)
  have m1:Ds x.n (ws.getD x.k 0)=true:=mulR (by omega) (by omega)
  generalize ws.getD x.k 0=wz at*
  refine⟨[some (.int x.k),some (.int x.n)],rfl,by simp,?_⟩
  simp[w1,m1])
 simp only[List.cons_append,List.nil_append]at e
 have es:LG (st.loads.map fun x=>D.int (x.n*ws.getD x.k 0))=some (st.loads.map fun x=>x.n*ws.getD x.k 0):=by
  have:=GY (st.loads.map fun x=>x.n*ws.getD x.k 0)
  rwa [List.map_map]at this
 have w2:=N3 hl
 have w4:=MJ hw (i:=t.k) (by omega)
 have m2:Ds (t.b:Int) (ws.getD t.k 0)=true:=mulR (by omega) (by omega)
 have e2:Ct t st.loads ws=(st.loads.map fun x=>x.n*ws.getD x.k 0).sum+t.b*ws.getD t.k 0:=rfl
 rw[e2]
 have sq:sqD S (Bl st.loads)=some (st.loads.map hD,[]):=rfl
 generalize (st.loads.map fun x=>x.n*ws.getD x.k 0)=es' at*
 generalize (st.loads.map fun x=>D.int (x.n*ws.getD x.k 0))=es2 at*
 generalize ws.getD t.k 0=wb at*
 simp[De,HW,Tr.d,sq,e,es,w2,m2]
theorem Y6{i:Nat}{n:Int}{ws:List Int}(ht:Jj t)(h:Du t k st)(hk:k≤17)(hc:Can t st (.thr i n ws)):EC [t.d,Bl st.loads,(AV.thr i n ws).d] S=some (aD (Jg t st.loads i n ws),S):=by
 obtain⟨hi,h1,h2,hl,hw⟩:=hc
 have a:=Ii ht h (by omega) hl hw
 have w1:=Ra (ws:=ws) (i:=(AO st.loads i).k) (by have:=h.kind _ (AX hi);omega)
 have w3:=MJ hw (i:=(AO st.loads i).k) (by have:=h.kind _ (AX hi);omega)
 have m1:Ds n (ws.getD (AO st.loads i).k 0)=true:=mulR (by omega) (by omega)
 have l1:=T6 (S:=S) (t:=n*ws.getD (AO st.loads i).k 0) a.1 (DY (GN (by omega) a.2) (by omega))
 have wo:=Vc (S:=S) h hk hl hw
 have ah:=Ey hi
 rw[LY hi]
 generalize aD (((n*ws.getD (AO st.loads i).k 0:Int):Rat) / (Ct t st.loads ws:Rat))=R at*
 generalize ws.getD (AO st.loads i).k 0=wa at*
 simp[EC,Hq,AV.d,ah,w1,m1,wo,l1]
theorem Sm{X:Rat}{ss os:List Rat}:ZZ ((X.den:Int)-X.num) X.num ss os=Gi X os ss:=by
 unfold ZZ Gi
 congr 1
 funext s o
 have h1:=D7 X
 have h2:=JJ X
 push_cast
 have e:((X.den:Rat)-(X.num:Rat)+(X.num:Rat))=(X.den:Rat):=by grind
 rw[e]
 grind
theorem TU{i:Nat}{n:Int}{ws:List Int}{ss:List Rat}(ht:Jj t)(h:Du t k st)(hk:k≤17)(hc:Can t st (.thr i n ws))(hs:∀r∈ss,Sz (30+170*k) r)(hl:ss.length≤10):DH [t.d,Bl st.loads,KJ st.loads,(AV.thr i n ws).d,shD ss] S=some (shD (Gi (Jg t st.loads i n ws) (AO st.loads i).ow ss),S):=by
 have pt:=Y6 (S:=S) ht h hk hc
 obtain⟨hi,h1,h2,hl',hw⟩:=hc
 have cz:=Ss ht h (by omega) hl' hw hi h1 h2
 have b1:=MQ hi
 generalize Jg t st.loads i n ws=X at*
 have d0:=den_pos X
 have c2:=cz.2
 have e:=Fo (S:=S) (w:=(X.den:Int)-X.num) (m:=X.num) (j:=30+170*k) (n:=146+k) hs (h.sz.1 _ (AX hi)) (by
  have c1:=cz.1
  have:2^(146+k)=2^(145+k)*2:=by rw[show 146+k=(145+k)+1 by omega,Nat.pow_succ]
  generalize 2^(145+k)=P at*
  omega) (Zl cz.1 (by omega)) (by omega) (by omega) hl
 rw[Sm]at e
 generalize Gi X (AO st.loads i).ow ss=rs at*
 simp only[aD,AV.d]at pt⊢
 simp[DH,Gb,pt,b1,e]
theorem Ui{p q:Nat}{x:Rat}{ss:List Rat}{j i:Nat}(hs:∀r∈ss,Sz j r)(hx:Sz i x)(hj:2*j+i≤7900)(hp:p<ss.length)(hq:q<ss.length)(hpq:p≠q):∃S',D8 [(AV.sell p q x).d,shD ss] S=some (shD (B8 p q x ss),S')/\Ci [] S S':=by
 have sp:=hs _ (getD_mem (d:=0) hp)
 have sq:=hs _ (getD_mem (d:=0) hq)
 have l1:∀S,Fq [aD (ss.getD p 0),aD x] S=some (aD (ss.getD p 0*x),S):=fun S=>YI sp hx (by omega)
 have s1:=Lg sp hx
 have l2:∀S,HP [aD (ss.getD p 0),aD (ss.getD p 0*x)] S=some (aD (ss.getD p 0-ss.getD p 0*x),S):=fun S=>aq sp s1 (by omega)
 have l3:∀S,HE [aD (ss.getD q 0),aD (ss.getD p 0*x)] S=some (aD (ss.getD q 0+ss.getD p 0*x),S):=fun S=>ag sq s1 (by omega)
 have a1:=UQ hp
 have a2:=UQ hq
 have i1:=XZ hp
 have i2:ixN (((ss.map aD).set p (aD (ss.getD p 0-ss.getD p 0*x))).length) (q:Int)=some q:=L6 (by simpa using hq)
 refine⟨S++[.lst ((B8 p q x ss).map aD)],?_,.app⟩
 simp only[List.length_set,List.length_map]at i1 i2
 have em:(B8 p q x ss).map aD=((ss.map aD).set p (aD (ss.getD p 0-ss.getD p 0*x))).set q (aD (ss.getD q 0+ss.getD p 0*x)):=by rw[B8,List.map_set,List.map_set]
 unfold shD
 rw[em]
 generalize aD (ss.getD p 0-ss.getD p 0*x)=d1 at*
 generalize aD (ss.getD q 0+ss.getD p 0*x)=d2 at*
 generalize aD (ss.getD p 0*x)=d3 at*
 generalize aD (ss.getD p 0)=d4 at*
 generalize aD (ss.getD q 0)=d5 at*
 simp[D8,Hr,AV.d,a1,a2,l1,l2,l3,i1,i2]
end
theorem QC{α:Type}{gs:Gd}{t:Tf}{f:Ev}{C:En}{m:Nat}{e g:α->D}(hg:∀S,gOk gs S):∀{xs:List α} {acc:List D} {os:En} {S:Sto},os.length=m->acc.length+xs.length≤sizeLine->
    (∀x∈xs,∀os S,os.length=m->∃us S',us.length=m/\t (e x) (C++os) S=some (C++us)/\f (C++us) S=some (g x,S')/\Ci [] S S')->
    ∃S',CM gs t B3 f (xs.map e) acc (C++os) S=some (acc++xs.map g,S')/\Ci [] S S'
  | [],acc,os,S,ho,hz,h=>⟨S,by rw[List.map_nil,Ek (hg S)];simp,.refl⟩
  | x :: xs, acc, os, S, ho, hz, h => by
    obtain⟨us,S1,hu,e1,e2,s1⟩:=h x List.mem_cons_self os S ho
    obtain⟨S2,e3,s2⟩:=QC hg (xs:=xs) (acc:=acc++[g x]) (os:=us) (S:=S1) hu (by simp at hz ⊢; omega) fun x' hx=>h x' (List.mem_cons_of_mem _ hx)
    refine⟨S2,?_,s1.trans s2⟩
    rw[List.map_cons,Hy (hg S) (by simp at hz;omega) e1 Ge,e2,Eb,e3]
    simp
section
variable{S:Sto}{st:Stt}{t:Tr}{k:Nat}
noncomputable def shB(t:Tr)(st:Stt):AV->List Rat->List Rat
 | .thr i n ws,ss=>Gi (Jg t st.loads i n ws) (AO st.loads i).ow ss
 | .sell p q x,ss=>B8 p q x ss
 |_,ss=>ss
theorem Pq{d:AV}{ss:List Rat}(ht:Jj t)(h:Du t k st)(hk:k≤17)(hc:Can t st d)(hs:∀r∈ss,Sz (30+170*k) r)(hl:ss.length=t.p):∃S',Ai [t.d,Bl st.loads,KJ st.loads,d.d,shD ss] S=some (shD (shB t st d ss),S')/\Ci [] S S':=by
  have tp:=ht.2.1
  cases d with
  | thr i n ws =>
    have e:=TU (S:=S) ht h hk hc hs (by omega)
    refine⟨S,?_,.refl⟩
    simp only[AV.d]at e⊢
    simp[Ai,BH,e,shB]
  | sell p q x =>
    obtain⟨hpq,hp,hq,x1,x2,x3⟩:=hc
    have hx:Sz 4 x:=by
      refine⟨?_,by omega⟩
      show x.num.natAbs<16
      omega
    obtain⟨S',e,sm⟩:=Ui (S:=S) (p:=p) (q:=q) hs hx (by omega) (by omega) (by omega) hpq
    refine⟨S',?_,sm⟩
    simp only[AV.d]at e⊢
    simp[Ai,BH,e,shB]
  |bring p kd n=>exact⟨S,by simp[Ai,BH,AV.d,shB],.refl⟩
  |pool i j=>exact⟨S,by simp[Ai,BH,AV.d,shB],.refl⟩
  |swap i g kd n=>exact⟨S,by simp[Ai,BH,AV.d,shB],.refl⟩
  |trade u i g kd n=>exact⟨S,by simp[Ai,BH,AV.d,shB],.refl⟩
  |spoil i n=>exact⟨S,by simp[Ai,BH,AV.d,shB],.refl⟩
theorem T5{d:AV}:(step t st d).hold=shB t st d st.hold:=by cases d<;>rfl
theorem KY{i:Nat}{n:Int}{ls:List Ld}(hi:i<ls.length){β:Type}(f:List Rat->β):(less ls i n).map (fun x=>f x.ow)=ls.map fun x=>f x.ow:=by
 rw[QX,List.map_set]
 have:(ls.map fun x=>f x.ow)[i]?=some (f (AO ls i).ow):=by rw[List.getElem?_map,F5 hi];rfl
 apply List.ext_getElem?
 intro j
 by_cases e:i=j
 ·subst e;rw[List.getElem?_set_self (by simpa using hi),this]
 ·rw[List.getElem?_set_ne e]
@[simp] theorem gn{ls:List Ld}:sqD S (KJ ls)=some (ls.map fun x=>shD x.ow,[]):=nr rfl
theorem Sw{d:AV}(ht:Jj t)(h:Du t k st)(hk:k≤17)(hc:Can t st d):∃S',Ar [t.d,Bl st.loads,KJ st.loads,d.d] S=some (KJ (step t st d).loads,S')/\Ci [] S S':=by
  have hlen:=h.len
  have sz:=h.sz
  have tp:=ht.2.1
  obtain⟨S',e,sm⟩:=QC (gs:=[]) (t:=tNm 4) (f:=AJ Ai [(eV 0),(eV 1),(eV 2),(eV 3),(eV 4)]) (C:=[some t.d,some (Bl st.loads),some (KJ st.loads),some d.d]) (m:=1) (e:=fun x:Ld=>shD x.ow) (g:=fun x=>shD (shB t st d x.ow)) (fun _=>Al) (xs:=st.loads) (acc:=[]) (os:=[none]) (S:=S) rfl (Nat.le_trans (show _≤50 by simp;omega) (AW (by decide))) (by
    intro x hx os S0 ho
    obtain⟨q1,rfl⟩:∃q1,os=[q1]:=by
      match os,ho with
      | [a],_=>exact⟨a,rfl⟩
    obtain⟨S1,e1,s1⟩:=Pq (S:=S0) (d:=d) (ss:=x.ow) ht h hk hc (sz.1 x hx) (h.own x hx)
    refine⟨[some (shD x.ow)],S1,rfl,by simp,?_,s1⟩
    simp[e1])
  simp only[List.cons_append,List.nil_append]at e
  refine⟨S',?_,sm⟩
  have hz:(st.loads.map fun x=>shD (shB t st d x.ow)).length+1≤sizeLine:=Nat.le_trans (show _≤100 by simp;omega) (AW (by decide))
  cases d with
  | bring p kd n =>
    have a1:=OS (S:=S') (P:=t.p) (p:=p) (by omega)
    have ef:KJ (step t st (.bring p kd n)).loads=.lst ((st.loads.map fun x=>shD (shB t st (.bring p kd n) x.ow))++[shD (QQ t.p p)]):=by simp[KJ,step,shB]
    rw[ef]
    generalize (st.loads.map fun x=>shD (shB t st (.bring p kd n) x.ow))=A at*
    simp only[AV.d,Tr.d]at e⊢
    simp[Ar,BI,e,a1,hz]
  | pool i j =>
    have a1:=Ux (S:=S') ht h hk hc
    obtain⟨hij,hi,hj,h1,h2,h3⟩:=hc
    have e0:AO (less st.loads i (AO st.loads i).n) j=AO st.loads j:=by
      unfold AO less
      rw[List.getD_eq_getElem?_getD,List.getElem?_set_ne hij,←List.getD_eq_getElem?_getD]
    have ef:KJ (step t st (.pool i j)).loads=.lst ((st.loads.map fun x=>shD (shB t st (.pool i j) x.ow))++[shD (Bf (AO st.loads i).n (AO st.loads j).n (AO st.loads i).ow (AO st.loads j).ow)]):=by
      show D.lst ((less (less st.loads i (AO st.loads i).n) j (AO st.loads j).n++[_]).map fun x:Ld=>shD x.ow)=_
      rw[List.map_append,KY (by rw[Ce];exact hj),KY hi]
      rfl
    rw[ef]
    generalize (st.loads.map fun x=>shD (shB t st (.pool i j) x.ow))=A at*
    simp only[AV.d]at e a1⊢
    simp[Ar,BI,e,a1,hz]
  | swap i g kd n =>
    have hi:=hc.1
    have a1:=UW (S:=S') (st:=st) (i:=i) (kd:=kd) (g:=g) (n:=n) hi
    have ef:KJ (step t st (.swap i g kd n)).loads=.lst ((st.loads.map fun x=>shD (shB t st (.swap i g kd n) x.ow))++[shD (AO st.loads i).ow]):=by
      show D.lst ((less st.loads i g++[_]).map fun x:Ld=>shD x.ow)=_
      rw[List.map_append,KY hi]
      rfl
    rw[ef]
    generalize (st.loads.map fun x=>shD (shB t st (.swap i g kd n) x.ow))=A at*
    simp only[AV.d]at e a1⊢
    simp[Ar,BI,e,a1,hz]
  | trade u i g kd n =>
    have hi:=hc.1
    have a1:=SO (S:=S') (st:=st) (i:=i) (kd:=kd) (u:=u) (g:=g) (n:=n) hi
    have ef:KJ (step t st (.trade u i g kd n)).loads=.lst ((st.loads.map fun x=>shD (shB t st (.trade u i g kd n) x.ow))++[shD (AO st.loads i).ow]):=by
      show D.lst ((less st.loads i g++[_]).map fun x:Ld=>shD x.ow)=_
      rw[List.map_append,KY hi]
      rfl
    rw[ef]
    generalize (st.loads.map fun x=>shD (shB t st (.trade u i g kd n) x.ow))=A at*
    simp only[AV.d]at e a1⊢
    simp[Ar,BI,e,a1,hz]
  | spoil i n =>
    have ef:KJ (step t st (.spoil i n)).loads=.lst (st.loads.map fun x=>shD (shB t st (.spoil i n) x.ow)):=by
      show D.lst ((less st.loads i n).map fun x:Ld=>shD x.ow)=_
      rw[KY hc.1]
      rfl
    rw[ef]
    generalize (st.loads.map fun x=>shD (shB t st (.spoil i n) x.ow))=A at*
    simp only[AV.d]at e⊢
    simp[Ar,BI,e]
  | thr i n ws =>
    have ef:KJ (step t st (.thr i n ws)).loads=.lst (st.loads.map fun x=>shD (shB t st (.thr i n ws) x.ow)):=by
      show D.lst (((less st.loads i n).map _).map fun x:Ld=>shD x.ow)=_
      rw[List.map_map]
      exact congrArg D.lst (KY hc.1 (fun o=>shD (Gi (Jg t st.loads i n ws) (AO st.loads i).ow o)))
    rw[ef]
    generalize (st.loads.map fun x=>shD (shB t st (.thr i n ws) x.ow))=A at*
    simp only[AV.d]at e⊢
    simp[Ar,BI,e]
  | sell p q x =>
    have ef:KJ (step t st (.sell p q x)).loads=.lst (st.loads.map fun y=>shD (shB t st (.sell p q x) y.ow)):=by
      show D.lst ((st.loads.map _).map fun y:Ld=>shD y.ow)=_
      rw[List.map_map]
      rfl
    rw[ef]
    generalize (st.loads.map fun y=>shD (shB t st (.sell p q x) y.ow))=A at*
    simp only[AV.d]at e⊢
    simp[Ar,BI,e]
theorem NW{ls:List Ld}{x y:D}(hl:ls.length≤50):CV [.tup [x,.tup (ls.map Ld.d),y]] S=some (Bl ls,S):=by
 have e:=Cu (gs:=[]) (t:=tNm 0) (f:=Bc [(eOp (o2 wIx) [(eV 0),(eC (.int 0))]),(eOp (o2 wIx) [(eV 0),(eC (.int 1))])]) (C:=[]) (m:=1) (e:=Ld.d) (g:=hD) (S:=S) Al (xs:=ls) (acc:=[]) (os:=[none]) rfl (Nat.le_trans (show _≤50 by simp;omega) (AW (by decide))) (by
  intro x hx os ho
  obtain⟨q1,rfl⟩:∃q1,os=[q1]:=by
   match os,ho with
   | [a],_=>exact⟨a,rfl⟩
  refine⟨[some x.d],rfl,by simp,?_⟩
  simp[Ld.d,hD])
 simp only[List.nil_append]at e
 simp[CV,Gm,e,Bl]
theorem TH{ls:List Ld}(hl:ls.length≤50):CM [] (tNm 0) B3 (eOp (o2 wIx) [(eV 0),(eC (.int 2))]) (ls.map Ld.d) [] [none] S=some (ls.map fun x=>shD x.ow,S):=
 Cu (gs:=[]) (t:=tNm 0) (f:=eOp (o2 wIx) [(eV 0),(eC (.int 2))]) (C:=[]) (m:=1) (e:=Ld.d) (g:=fun x=>shD x.ow) (S:=S) Al (xs:=ls) (acc:=[]) (os:=[none]) rfl (Nat.le_trans (show _≤50 by simp;omega) (AW (by decide))) (by
  intro x hx os ho
  obtain⟨q1,rfl⟩:∃q1,os=[q1]:=by
   match os,ho with
   | [a],_=>exact⟨a,rfl⟩
  refine⟨[some x.d],rfl,by simp,?_⟩
  simp[Ld.d])
theorem Vu{ls:List Ld}{ds:List AV}{n:Nat}(h:BJ t ls ds)(hn:n≤ds.length):∃S',GJ [Aj t ls ds,.int n] S=some (.tup [Bl (runs t (st0 t ls) (ds.take n)).loads,KJ (runs t (st0 t ls) (ds.take n)).loads,shD (runs t (st0 t ls) (ds.take n)).hold],S')/\Ci [] S S':=by
 have hl0:ls.length≤4:=h.inv.len
 have ct:KU (ds.map AV.d) none (some (n:Int))=(ds.take n).map AV.d:=by rw[Jx (by simpa using hn),List.map_take]
 obtain⟨E',S',ef,i,o,f1,f2,rfl,f3⟩:=ET (gs:=[]) (t:=tNm 8) (b:=Af (Bp 7 (AJ Ai [(eV 2),(eV 5),(eV 6),(eV 8),(eV 7)]))
  (Af (Bp 6 (AJ Ar [(eV 2),(eV 5),(eV 6),(eV 8)]))
  (Bp 5 (AJ Aq [(eV 5),(eV 8)]))))
  (I:=fun rs E S'=>∃(i:Nat) (o:Option D),rs=((ds.take n).drop i).map AV.d/\i≤n/\E=[some (Aj t ls ds),some (.int n),some t.d,some (.tup (ls.map Ld.d)),some (.tup (ds.map AV.d)),some (Bl (runs t (st0 t ls) (ds.take i)).loads),some (KJ (runs t (st0 t ls) (ds.take i)).loads),some (shD (runs t (st0 t ls) (ds.take i)).hold),o]/\Ci [] S S')
  (fun _ _ _ _=>Al) (ds:=(ds.take n).map AV.d) (E:=[some (Aj t ls ds),some (.int n),some t.d,some (.tup (ls.map Ld.d)),some (.tup (ds.map AV.d)),some (Bl ls),some (KJ ls),some (shD t.ho),none]) (S:=S)
  ⟨0,none,by simp,Nat.zero_le _,by simp[runs,st0],.refl⟩ (by
   rintro dd rs E T ⟨i,o,i1,i2,rfl,i3⟩
   have hlt:i<(ds.take n).length:=by
    rcases Nat.lt_or_ge i (ds.take n).length with w|w
    ·exact w
    ·rw[List.drop_eq_nil_of_le w]at i1;cases i1
   rw[List.drop_eq_getElem_cons hlt,List.map_cons]at i1
   injection i1 with z1 z2
   subst z1 z2
   have hlt':i<ds.length:=by simp at hlt;omega
   have hin:i<n:=by simp at hlt;omega
   have hg:(ds.take n)[i]=ds[i]:=List.getElem_take
   rw[hg]
   have inv:=h.at i
   have il:(ds.take i).length≤16:=by have:=h.len;simp;omega
   have can:=Oh h.good (List.getElem?_eq_getElem hlt')
   obtain⟨T1,e1,s1⟩:=Pq (S:=T) h.tr inv (by omega) can inv.sz.2 inv.hold
   obtain⟨T2,e2,s2⟩:=Sw (S:=T1) h.tr inv (by omega) can
   have e3:=PR (S:=T2) inv (by omega) can
   have rt:=Pz (t:=t) (st:=st0 t ls) (List.getElem?_eq_getElem hlt')
   refine⟨_,[some (Aj t ls ds),some (.int n),some t.d,some (.tup (ls.map Ld.d)),some (.tup (ds.map AV.d)),some (Bl (runs t (st0 t ls) (ds.take (i+1))).loads),some (KJ (runs t (st0 t ls) (ds.take (i+1))).loads),some (shD (runs t (st0 t ls) (ds.take (i+1))).hold),some ds[i].d],T2,by simp;rfl,?_,i+1,some ds[i].d,rfl,hin,rfl,(i3.trans s1).trans s2⟩
   rw[rt]
   rw[←T5]at e1
   simp[e1,e2,e3])
 have hz:i=n:=by
  have:=congrArg List.length f1
  simp at this
  omega
 subst hz
 refine⟨S',?_,f3⟩
 have fh:=NW (S:=S) (ls:=ls) (x:=t.d) (y:=.tup (ds.map AV.d)) (by omega)
 have fo:=TH (S:=S) (ls:=ls) (by omega)
 have fo':D.lst (ls.map fun x=>shD x.ow)=KJ ls:=rfl
 have th:atI [D.int t.p,D.int t.k,D.int t.b,shD t.ho,D.int t.h,D.int t.l] 3=some (shD t.ho):=by simp
 simp only[Aj]at ef⊢
 have td:wIx (.val t.d) (.val (.int 3))=some (.val (shD t.ho)):=by simp[Tr.d]
 have dt:dr S t.d=.val t.d:=rfl
 rw[List.map_take]at ef ct
 simp[GJ,K2,fh,fo,fo',-TY,td,dt,ct,ef]
theorem NB{ls:List Ld}{ds:List AV}(h:BJ t ls ds):D5 [Aj t ls ds] S=some (.non,S):=by
 have hl0:ls.length≤4:=h.inv.len
 have hd:=h.len
 obtain⟨E',S',ef,i,o1,o2,f1,f2,rfl,rfl⟩:=ET (gs:=[]) (t:=tTp [(tNm 3),(tNm 4)]) (b:=Af (xIf (Qa (AJ CW [(eV 1),(eOp (Ik false true) [(eV 2),(eV 3)]),(eV 4)])) (BR (eV 3)) Dw)
  (Bp 1 (AJ Aq [(eV 1),(eV 4)])))
  (I:=fun rs E S'=>∃(i:Nat) (o1 o2:Option D),rs=(QW 0 (ds.map AV.d)).drop i/\i≤ds.length/\E=[some (Aj t ls ds),some (Bl (runs t (st0 t ls) (ds.take i)).loads),some (.tup (ds.map AV.d)),o1,o2]/\S'=S)
  (fun _ _ _ _=>Al) (ds:=QW 0 (ds.map AV.d)) (E:=[some (Aj t ls ds),some (Bl ls),some (.tup (ds.map AV.d)),none,none]) (S:=S)
  ⟨0,none,none,by simp,Nat.zero_le _,by simp[runs,st0],rfl⟩ (by
   rintro dd rs E T ⟨i,o1,o2,i1,i2,rfl,rfl⟩
   have el:(QW 0 (ds.map AV.d)).length=ds.length:=by rw[P2];simp
   have hlt:i<ds.length:=by
    rcases Nat.lt_or_ge i ds.length with w|w
    ·exact w
    ·rw[List.drop_eq_nil_of_le (by omega)]at i1;cases i1
   rw[List.drop_eq_getElem_cons (by omega)]at i1
   injection i1 with z1 z2
   have hd1:dd=.tup [.int i,ds[i].d]:=by
    have:=LU (ds:=ds.map AV.d) (k:=0) (i:=i)
    rw[List.getElem?_eq_getElem (by omega),←z1,List.getElem?_map,List.getElem?_eq_getElem hlt]at this
    simpa using this
   subst z2
   subst hd1
   have inv:=h.at i
   have il:(ds.take i).length≤16:=by simp;omega
   have can:=Oh h.good (List.getElem?_eq_getElem hlt)
   have cd:=Ta (S:=T) (ds:=ds.take i) (by omega) Ua can
   have e3:=PR (S:=T) inv (by omega) can
   have rt:=Pz (t:=t) (st:=st0 t ls) (List.getElem?_eq_getElem hlt)
   have ct:=Jx (ds:=ds.map AV.d) (n:=i) (by simp;omega)
   rw[List.map_take]at cd
   refine⟨_,[some (Aj t ls ds),some (Bl (runs t (st0 t ls) (ds.take (i+1))).loads),some (.tup (ds.map AV.d)),some (.int i),some ds[i].d],T,by simp;rfl,?_,i+1,some (.int i),some ds[i].d,rfl,hlt,rfl,rfl⟩
   rw[rt]
   simp[ct,cd,e3])
 have fh:=NW (S:=S') (ls:=ls) (x:=t.d) (y:=.tup (ds.map AV.d)) (by omega)
 simp only[Aj]at ef⊢
 simp[D5,Hm,fh,ef]
theorem MK{ls:List Ld}{ds:List AV}(h:BJ t ls ds):Bw [Aj t ls ds] S=some (.non,S):=by
 have e:=NB (S:=S) h
 simp[Bw,Gp,e,isN]
theorem Uw{ls:List Ld}{ds:List AV}{n:Nat}(hn:n≤ds.length):CO [Aj t ls ds,.int n] S=some (.non,S):=by
 have h1:(n:Int)≤ds.length:=by omega
 have k1:St.Kd.int.isA "int"=true:=by decide
 have k2:St.Kd.int.isA "bool"=false:=by decide
 simp[k1,k2,CO,FC,Cd,FJ,Fs,HD,Ec,Fw,Aj,kdW,h1]
end
theorem fk{n:Nat}:∀{ds:List D},(∀d∈ds,d.py.depth≤n)->PyData.depthAll (D.pys ds)≤n
  | [],_=>by simp[D.pys,PyData.depthAll]
  | d :: ds, h => by
    have h1:=h d List.mem_cons_self
    have h2:=fk fun e he=>h e (List.mem_cons_of_mem _ he)
    simp only[D.pys,PyData.depthAll]
    omega
theorem eJ{n:Nat}{ds:List D}(h:∀d∈ds,d.py.depth≤n):(D.lst ds).py.depth≤n+1:=by
 have:=fk h
 simp only[D.py,PyData.depth]
 omega
theorem L1{n:Nat}{ds:List D}(h:∀d∈ds,d.py.depth≤n):(D.tup ds).py.depth≤n+1:=by
 have:=fk h
 simp only[D.py,PyData.depth]
 omega
theorem Hh{i:Int}{n:Nat}:(D.int i).py.depth≤n+1:=by
 simp only[D.py,PyData.depth]
 omega
theorem gf{r:Rat}:(aD r).py.depth≤2:=L1 (n:=1) (by
 intro d hd
 simp only[List.mem_cons,List.not_mem_nil,or_false]at hd
 rcases hd with rfl|rfl<;>exact Hh)
theorem fL{rs:List Rat}:(shD rs).py.depth≤3:=L1 (n:=2) (by
 intro d hd
 obtain⟨r,_,rfl⟩:=List.mem_map.mp hd
 exact gf)
theorem jH{x:Ld}:x.d.py.depth≤4:=L1 (n:=3) (by
 intro d hd
 simp only[List.mem_cons,List.not_mem_nil,or_false]at hd
 rcases hd with rfl|rfl|rfl
 ·exact Hh
 ·exact Hh
 ·exact fL)
theorem aC{r:Rat}:(aD r).lay=true:=rfl
theorem Qx{rs:List Rat}:(shD rs).lay=true:=Fx fun _ _=>aC
theorem aw{x:Ld}:x.d.lay=true:=by
 show(true && (true && ((shD x.ow).lay && true)))=true
 rw[Qx];rfl
theorem Lz{d:D}(h:d.lay=true)(g:d.py.depth≤60):Dx d d=true:=by
 unfold Dx
 rw[h]
 simp only[Bool.true_and,decide_eq_true_eq]
 omega
theorem Oq{d:D}(h:d.lay=true):deq d d=true:=PySem.SeqAt.eqv_refl _ (KI h)
theorem Qj{rs:List Rat}:Dx (shD rs) (shD rs)=true:=Lz Qx (Nat.le_trans fL (by decide))
theorem T7{rs:List Rat}:deq (shD rs) (shD rs)=true:=Oq Qx
section
variable{S:Sto}
theorem ZH{ns:List Int}{k:Nat}:∃c,DL [.scr ns,.int k] S=some (.int c,S):=by
 by_cases h:k<ns.length
 ·have h':(k:Int)<ns.length:=by omega
  refine⟨ns[k],?_⟩
  have e:atI (ns.map D.int) (k:Int)=some (.int ns[k]):=Cb (by rw[List.getElem?_map,List.getElem?_eq_getElem h];rfl)
  simp[DL,G6,h,h',e]
 ·have h':¬(k:Int)<ns.length:=by omega
  exact⟨0,by simp[DL,G6,h,h']⟩
end
theorem Ok.add{G B C:Nat}{r q:Rat}(h:Ok G B r)(g:Ok G C q):Ok G (B+C) (r+q):=by
 obtain⟨z,e1,h1⟩:=h
 obtain⟨y,e2,h2⟩:=g
 refine⟨z+y,?_,Nat.add_le_add h1 h2⟩
 push_cast
 rw[←e1,←e2]
 grind
theorem Ok.mono{G B C:Nat}{r:Rat}(h:Ok G B r)(g:B≤C):Ok G C r:=by
 obtain⟨z,e,hz⟩:=h
 exact⟨z,e,Nat.le_trans hz g⟩
theorem Ok.mulN{G B N:Nat}{r:Rat}{n:Int}(h:Ok G B r)(h0:0≤n)(h1:n≤N):Ok G (B*N) ((n:Rat)*r):=by
 obtain⟨z,e,hz⟩:=h
 refine⟨z*n.toNat,?_,Nat.mul_le_mul hz (by omega)⟩
 push_cast
 rw[IB h0,←e]
 grind
theorem Ok.int{G:Nat}{n:Int}{N:Nat}(h0:0≤n)(h1:n≤N):Ok G (G*N) (n:Rat):=by
 have:=(Ok.one (G:=G) (B:=G) (Nat.le_refl _)).mulN (N:=N) h0 h1
 have e:(n:Rat)*1=(n:Rat):=by grind
 rwa [e]at this
theorem Kc:aD 0=.tup [.int 0,.int 1]:=rfl
noncomputable def ownAt(x:Ld)(p:Nat):Rat:=x.ow.getD p 0
noncomputable def kindS(ls:List Ld)(p kd:Nat):Rat:=((ls.filter fun x=>x.k==kd).map fun x=>(x.n:Rat)*ownAt x p).sum
noncomputable def AQ(k:Nat)(ls:List Ld)(p:Nat):List Rat:=(List.range k).map (kindS ls p)
theorem SG{ls:List Ld}{x:Ld}{p kd:Nat}:kindS (ls++[x]) p kd=if x.k=kd then kindS ls p kd+(x.n:Rat)*ownAt x p else kindS ls p kd:=by
 unfold kindS
 rw[List.filter_append,List.map_append,List.sum_append]
 by_cases h:x.k=kd
 ·simp[h];grind
 ·simp[h];grind
theorem FP{ls:List Ld}{x:Ld}{p kd:Nat}:kindS (x::ls) p kd=(if x.k=kd then(x.n:Rat)*ownAt x p else 0)+kindS ls p kd:=by
 unfold kindS
 rw[List.filter_cons]
 by_cases h:x.k=kd
 ·simp[h]
 ·simp[h];grind
theorem QY{k:Nat}{ls:List Ld}{x:Ld}{p:Nat}:AQ k (ls++[x]) p=(AQ k ls p).set x.k (kindS ls p x.k+(x.n:Rat)*ownAt x p):=by
 unfold AQ
 apply List.ext_getElem
 ·simp
 ·intro i h1 h2
  rw[List.getElem_set]
  simp only[List.getElem_map,List.getElem_range,SG]
  by_cases h:x.k=i
  ·subst h;simp
  ·simp[h]
structure Bd(ls:List Ld)(G B N K:Nat):Prop where
 g0:0<G
 gK:G<2^K
 hK:2*K≤7000
 own:∀l∈ls,∀r∈l.ow,Ok G B r
 pcs:∀l∈ls,0≤l.n/\l.n≤N
 hB:B<2^K
 hN:N<2^K
 hb:200*(B*N)<2^K
 len:ls.length≤30
section
variable{S:Sto}{ls:List Ld}{G B N K:Nat}
theorem Bd.at(h:Bd ls G B N K){x:Ld}(hx:x∈ls)(p:Nat):Ok G B (ownAt x p):=by
 unfold ownAt
 rw[List.getD_eq_getElem?_getD]
 cases e:x.ow[p]? with
 |none=>exact Ok.zero
 |some r=>exact h.own x hx r (List.mem_of_getElem? e)
theorem Bd.mul(h:Bd ls G B N K){x:Ld}(hx:x∈ls)(p:Nat):Ok G (B*N) ((x.n:Rat)*ownAt x p):=(h.at hx p).mulN (h.pcs x hx).1 (h.pcs x hx).2
theorem Rb{G C:Nat}{p kd:Nat}:∀{ls:List Ld},(∀l∈ls,Ok G C ((l.n:Rat)*ownAt l p))->Ok G (ls.length*C) (kindS ls p kd)
  | [],_=>Ok.zero
  | x :: ls, h => by
    rw[FP]
    have ih:=Rb (kd:=kd) (ls:=ls) fun l hl=>h l (List.mem_cons_of_mem _ hl)
    have h1:Ok G C (if x.k=kd then(x.n:Rat)*ownAt x p else 0):=by
      split
      ·exact h x List.mem_cons_self
      ·exact Ok.zero
    have:=h1.add ih
    rw[List.length_cons,Nat.succ_mul,Nat.add_comm]
    exact this
theorem Bd.kind(h:Bd ls G B N K){p kd:Nat}:Ok G (30*(B*N)) (kindS ls p kd):=(Rb fun l hl=>h.mul hl p).mono (Nat.mul_le_mul_right _ h.len)
theorem Bd.take(h:Bd ls G B N K)(i:Nat):Bd (ls.take i) G B N K:=⟨h.g0,h.gK,h.hK,fun l hl=>h.own l (List.mem_of_mem_take hl),fun l hl=>h.pcs l (List.mem_of_mem_take hl),h.hB,h.hN,h.hb,by have:=h.len;simp;omega⟩
theorem Bd.nSz(h:Bd ls G B N K){x:Ld}(hx:x∈ls):Sz K (x.n:Rat):=by
 have o:=Ok.int (G:=1) (h.pcs x hx).1 (h.pcs x hx).2
 refine o.sz (by decide) ?_ (by rw[Nat.one_mul];exact h.hN)
 have:=h.gK;have:=h.g0;omega
theorem Sx{n:Nat}:LM 0 (n:Int).toNat=(List.range n).map fun(i:Nat)=>D.int i:=by simp[LM]
theorem R7{k p:Nat}:(AQ k [] p).map aD=List.replicate k (.tup [.int 0,.int 1]):=by
 apply List.ext_getElem
 ·simp[AQ]
 ·intro i h1 h2
  simp[AQ,kindS,Kc]
end
section
variable{S:Sto}{ls:List Ld}{G B N K:Nat}
theorem ZE{k:Nat}(hk:k≤20){p:Nat}(hkind:∀l∈ls,l.k<k)(h:Bd ls G B N K):∃S',CU [.int k,Bl ls,.lst (ls.map fun x=>aD (ownAt x p))] S=some (shD (AQ k ls p),S')/\Ci [] S S':=by
 have ez:Ml (ls.map hD) (ls.map fun x=>aD (ownAt x p))=ls.map fun x=>.tup [hD x,aD (ownAt x p)]:=by
  unfold Ml
  rw[List.zip_map',List.map_map]
  rfl
 have hq:(S++[Cl.lst ((AQ k [] p).map aD)])[S.length]?=some (.lst ((AQ k [] p).map aD)):=List.getElem?_concat_length
 generalize hQ:S.length=q at*
 obtain⟨E',S',ef,i,o4,o5,o6,f1,f2,rfl,f3,f4⟩:=ET (gs:=[]) (t:=tTp [(tTp [(tNm 5),(tNm 6)]),(tNm 4)]) (b:=Mn (AJ HE [(eOp (o2 wIx) [(eV 3),(eV 5)]),(AJ Fq [(Bc [(eV 6),(eC (.int 1))]),(eV 4)])]) (eV 3) (eV 5))
  (I:=fun rs E S'=>∃(i:Nat) (o4 o5 o6:Option D),rs=(ls.drop i).map (fun x=>D.tup [hD x,aD (ownAt x p)])/\i≤ls.length/\E=[some (.int k),some (Bl ls),some (.lst (ls.map fun x=>aD (ownAt x p))),some (.ref q),o4,o5,o6]/\S'[q]?=some (.lst ((AQ k (ls.take i) p).map aD))/\Ci [] S S')
  (fun _ _ _ _=>Al) (ds:=ls.map fun x=>D.tup [hD x,aD (ownAt x p)]) (E:=[some (.int k),some (Bl ls),some (.lst (ls.map fun x=>aD (ownAt x p))),some (.ref q),none,none,none]) (S:=S++[Cl.lst ((AQ k [] p).map aD)])
  ⟨0,none,none,none,by simp,Nat.zero_le _,rfl,by simpa using hq,.app⟩ (by
   rintro dd rs E T ⟨i,o4,o5,o6,i1,i2,rfl,i3,i4⟩
   have hlt:i<ls.length:=by
    rcases Nat.lt_or_ge i ls.length with w|w
    ·exact w
    ·rw[List.drop_eq_nil_of_le w]at i1;cases i1
   rw[List.drop_eq_getElem_cons hlt,List.map_cons]at i1
   injection i1 with z1 z2
   subst z1 z2
   have hm:ls[i]∈ls:=List.getElem_mem hlt
   have htk:ls.take (i+1)=ls.take i++[ls[i]]:=by rw[List.take_succ,List.getElem?_eq_getElem hlt];rfl
   have tm:=YI (S:=T) (h.nSz hm) ((h.at hm p).sz h.g0 h.gK h.hB) (by have:=h.hK;omega)
   rw[Xw]at tm
   have zb:30*(B*N)<2^K:=by have:=h.hb;omega
   have zb1:B*N<2^K:=by have:=h.hb;omega
   have pl:=ag (S:=T) ((h.take i).kind (p:=p) (kd:=ls[i].k)|>.sz h.g0 h.gK zb) ((h.mul hm p).sz h.g0 h.gK zb1) (by have:=h.hK;omega)
   have hkd:=hkind _ hm
   have at1:atI ((AQ k (ls.take i) p).map aD) (ls[i].k:Int)=some (aD (kindS (ls.take i) p ls[i].k)):=Cb (by
    rw[List.getElem?_map,AQ,List.getElem?_map,List.getElem?_range hkd];rfl)
   have ix1:ixN ((AQ k (ls.take i) p).map aD).length (ls[i].k:Int)=some ls[i].k:=L6 (by simp[AQ];exact hkd)
   have ef:((AQ k (ls.take i) p).map aD).set ls[i].k (aD (kindS (ls.take i) p ls[i].k+(ls[i].n:Rat)*ownAt ls[i] p))=(AQ k (ls.take (i+1)) p).map aD:=by rw[htk,QY,List.map_set]
   have dq:=BE i3
   have cq:=Aa i3
   generalize (AQ k (ls.take i) p).map aD=V at*
   generalize hx:ls[i]=x at*
   generalize aD (kindS (ls.take i) p x.k+(x.n:Rat)*ownAt x p)=D1 at*
   generalize aD ((x.n:Rat)*ownAt x p)=D2 at*
   generalize aD (kindS (ls.take i) p x.k)=D3 at*
   have lq:=i4.len
   refine⟨_,[some (.int k),some (Bl ls),some (.lst (ls.map fun x=>aD (ownAt x p))),some (.ref q),some (aD (ownAt x p)),some (.int x.k),some (.int x.n)],T.set q (.lst (V.set x.k D1)),by simp;rfl,?_,i+1,_,_,_,rfl,hlt,rfl,by rw[←ef];exact List.getElem?_set_self (A7 i3),Ci.new (A:=[]) (B:=[q]) i4 (.set (by simp)) (by intro n hn';simp at hn';omega)⟩
   generalize aD (ownAt x p)=D4 at*
   simp[dq,at1,tm,pl,cq,ix1])
 have hz:i=ls.length:=by
  have:=congrArg List.length f1
  simp at this
  omega
 subst hz
 rw[List.take_length]at f3
 refine⟨S',?_,f4⟩
 have m1:Bx (.val (.lst [D0])) (.val (.int k))=some (.own ((AQ k [] p).map aD)):=by
  have hs:k≤sizeLine:=AW (by omega)
  have h1:(k:Int)<2^63:=by omega
  have h2: -(2:Int)^63≤k:=by omega
  rw[R7,KD,if_pos (by simp[hs];omega)]
  simp[PU,D0]
 have df:=BE f3
 generalize (AQ k [] p).map aD=V0 at*
 rw[show shD (AQ k ls p)=.tup ((AQ k ls p).map aD)from rfl]
 generalize (AQ k ls p).map aD=V1 at*
 have dh:sqD (S++[Cl.lst V0]) (Bl ls)=some (ls.map hD,[]):=nr rfl
 simp[CU,Gv,-KD,m1,hQ,dh,ez,ef,df]
end
theorem Pr{α:Type}{gs:Gd}{t:Tf}{f:Ev}{C:En}{m:Nat}{e g:α->D}{S0:Sto}(hg:∀S,Ci [] S0 S->gOk gs S):∀{xs:List α} {acc:List D} {os:En} {S:Sto},os.length=m->Ci [] S0 S->acc.length+xs.length≤sizeLine->
    (∀x∈xs,∀os S,os.length=m->Ci [] S0 S->∃us S',us.length=m/\t (e x) (C++os) S=some (C++us)/\f (C++us) S=some (g x,S')/\Ci [] S0 S')->
    ∃S',CM gs t B3 f (xs.map e) acc (C++os) S=some (acc++xs.map g,S')/\Ci [] S0 S'
  | [],acc,os,S,ho,hS,hz,h=>⟨S,by rw[List.map_nil,Ek (hg S hS)];simp,hS⟩
  | x :: xs, acc, os, S, ho, hS, hz, h => by
    obtain⟨us,S1,hu,e1,e2,s1⟩:=h x List.mem_cons_self os S ho hS
    obtain⟨S2,e3,s2⟩:=Pr hg (acc:=acc++[g x]) hu s1 (by simp at hz ⊢; omega) fun x' hx=>h x' (List.mem_cons_of_mem _ hx)
    refine⟨S2,?_,s2⟩
    rw[List.map_cons,Hy (hg S hS) (by simp at hz;omega) e1 Ge,e2,Eb,e3]
    simp
theorem Du.bd{t:Tr}{k:Nat}{s:Stt}(h:Du t k s)(hk:k≤16):∃G B N K,Bd s.loads G B N K:=by
 obtain⟨G,B,g0,gb,b,h1,h2⟩:=h.gb
 have hB:B<2^2750:=Nat.lt_of_lt_of_le b (Nat.pow_le_pow_right (by decide) (by omega))
 have hB':B<2^3000:=Nat.lt_of_lt_of_le hB (Nat.pow_le_pow_right (by decide) (by decide))
 have hN:(2^147:Nat)<2^148:=Nat.pow_lt_pow_right (by decide) (by decide)
 refine⟨G,B,2^147,3000,g0,Nat.lt_of_le_of_lt gb hB',by decide,h1,fun l hl=>?_,hB',Nat.lt_of_lt_of_le hN (Nat.pow_le_pow_right (by decide) (by decide)),?_,by have:=h.len;omega⟩
 ·have:=h.pcs l hl
  refine⟨this.1,?_⟩
  have e:(2:Int)^(131+k)≤((2^147:Nat):Int):=by
   have:(2:Nat)^(131+k)≤2^147:=Nat.pow_le_pow_right (by decide) (by omega)
   exact_mod_cast this
  omega
 ·have:=Cq (show 200<2^8 by decide) (Cq hB hN)
  exact Nat.lt_of_lt_of_le this (Nat.pow_le_pow_right (by decide) (by decide))
section
variable{S:Sto}{t:Tr}{ls:List Ld}{ds:List AV}{n:Nat}
theorem Zx{x:Ld}{p:Nat}(h:p<x.ow.length):atI (x.ow.map aD) (p:Int)=some (aD (ownAt x p)):=Cb (by
 rw[List.getElem?_map,List.getElem?_eq_getElem h]
 simp[ownAt,List.getD_eq_getElem?_getD,List.getElem?_eq_getElem h])
theorem gD{ls:List Ld}{p:Nat}{T:Sto}(h:∀l∈ls,p<l.ow.length)(hl:ls.length≤30):CM [] (tNm 1) B3 (eOp (o2 wIx) [(eV 1),(eV 0)]) (ls.map fun x=>shD x.ow) [] [some (.int p),none] T=some (ls.map (fun x=>aD (ownAt x p)),T):=
 Cu (gs:=[]) (t:=tNm 1) (f:=eOp (o2 wIx) [(eV 1),(eV 0)]) (C:=[some (.int p)]) (m:=1) (e:=fun x:Ld=>shD x.ow) (g:=fun x=>aD (ownAt x p)) (S:=T) Al (xs:=ls) (acc:=[]) (os:=[none]) rfl (Nat.le_trans (show _≤50 by simp;omega) (AW (by decide))) (by
  intro x hx os ho
  obtain⟨o1,rfl⟩:∃o1,os=[o1]:=by
   match os,ho with
   | [a],_=>exact⟨a,rfl⟩
  have a:=Zx (h x hx)
  refine⟨[some (shD x.ow)],rfl,by simp,?_⟩
  simp[shD,a])
end
section
variable{S:Sto}{t:Tr}{ls:List Ld}{ds:List AV}{n:Nat}
theorem Ul(h:BJ t ls ds)(hn:n≤ds.length):∃S',B1 [Aj t ls ds,.int n] S=some (.lst ((List.range t.p).map fun p=>shD (AQ t.k (runs t (st0 t ls) (ds.take n)).loads p)),S')/\Ci [] S S':=by
 obtain⟨S1,e1,s1⟩:=Vu (S:=S) h hn
 have il:(ds.take n).length≤16:=by have:=h.len;simp;omega
 have inv:=h.at n
 obtain⟨G,B,N,K,bd⟩:=inv.bd il
 have ho:=inv.own
 have hk:=inv.kind
 obtain⟨t1,t2,t3,t4,t5,t6⟩:=h.tr
 generalize (runs t (st0 t ls) (ds.take n)).loads=L at*
 generalize (runs t (st0 t ls) (ds.take n)).hold=Ho at*
 obtain⟨S2,e2,s2⟩:=Pr (gs:=[]) (t:=tNm 3) (f:=AJ CU [(eV 0),(eV 1),(Cn [3] 1 (JR (eV 2)) (tNm 1) B3 (eOp (o2 wIx) [(eV 1),(eV 0)]))]) (C:=[some (.int t.k),some (Bl L),some (KJ L)]) (m:=1) (e:=fun p:Nat=>D.int p) (g:=fun p=>shD (AQ t.k L p)) (S0:=S1) (fun _ _=>Al) (xs:=List.range t.p) (acc:=[]) (os:=[none]) (S:=S1) rfl .refl (Nat.le_trans (show _≤50 by simp;omega) (AW (by decide))) (by
  intro p hp os T ho' hT
  obtain⟨o1,rfl⟩:∃o1,os=[o1]:=by
   match os,ho' with
   | [a],_=>exact⟨a,rfl⟩
  have hp':p<t.p:=by simpa using hp
  have pc:=gD (ls:=L) (p:=p) (T:=T) (fun l hl=>by rw[ho l hl];exact hp') bd.len
  obtain⟨T2,e3,s3⟩:=ZE (S:=T) (k:=t.k) (by omega) (p:=p) hk bd
  refine⟨[some (.int p)],T2,rfl,by simp,?_,hT.trans s3⟩
  have dh:sqD T (KJ L)=some (L.map (fun x=>shD x.ow),[]):=nr rfl
  simp[dh,UE,pc,e3])
 refine⟨S2,?_,s1.trans s2⟩
 have rk:Hx (t.p:Int)=true:=Dc (by omega) (by omega)
 have ct:KU [D.int t.p,D.int t.k,D.int t.b,shD t.ho,D.int t.h,D.int t.l] none (some 2)=[.int t.p,.int t.k]:=nr rfl
 have td:wSl none (some 2) (.val t.d)=some (.val (.tup [.int t.p,.int t.k])):=nr rfl
 have dt:dr S t.d=.val t.d:=rfl
 rw[←Sx]at e2
 simp only[Aj]at e1⊢
 simp only[List.nil_append,List.cons_append,Int.toNat_natCast]at e2
 simp[B1,Ib,dt,td,e1,rk,UE,e2]
end
def Oa(ls:List Ld):Prop:=∀l∈ls,l.ow.sum=1
theorem Qc{a b:Rat}:∀{ss os:List Rat},ss.length=os.length->(List.zipWith (fun s o=>s*a+o*b) ss os).sum=ss.sum*a+os.sum*b
  | [],[],_=>by simp;grind
  | s :: ss, o :: os, h => by
    rw[List.zipWith_cons_cons,List.sum_cons,List.sum_cons,List.sum_cons,Qc (by simpa using h)]
    grind
theorem Uq{x:Rat}{os ss:List Rat}(h:ss.length=os.length)(h1:ss.sum=1)(h2:os.sum=1):(Gi x os ss).sum=1:=by
 unfold Gi
 rw[Qc h,h1,h2]
 grind
theorem R1{n m:Int}{ss os:List Rat}(h:ss.length=os.length)(h1:ss.sum=1)(h2:os.sum=1)(h0:0<n+m):(Bf n m ss os).sum=1:=by
 have hc:((n+m:Int):Rat)≠0:=by
  intro z
  have:=Rat.intCast_eq_zero_iff.mp z
  omega
 have e:(fun(s o:Rat)=>(s*n+o*m) / ((n+m:Int):Rat))=fun s o=>s*((n:Rat) / ((n+m:Int):Rat))+o*((m:Rat) / ((n+m:Int):Rat)):=by
  funext s o
  grind
 unfold Bf
 rw[e,Qc h,h1,h2]
 push_cast at hc⊢
 grind
theorem Qf{v:Rat}:∀{l:List Rat} {i:Nat},i<l.length->(l.set i v).sum=l.sum-l.getD i 0+v
  | a :: l, 0, _ => by
    rw[List.set_cons_zero,List.sum_cons,List.sum_cons]
    simp
    grind
  | a :: l, i + 1, h => by
    rw[List.set_cons_succ,List.sum_cons,List.sum_cons,Qf (by simpa using h)]
    simp
    grind
theorem Ww{p q:Nat}{x:Rat}{ss:List Rat}(hpq:p≠q)(hp:p<ss.length)(hq:q<ss.length):(B8 p q x ss).sum=ss.sum:=by
 unfold B8
 rw[Qf (by simpa using hq),Qf hp]
 have:(ss.set p (ss.getD p 0-ss.getD p 0*x)).getD q 0=ss.getD q 0:=by
  rw[List.getD_eq_getElem?_getD,List.getElem?_set_ne hpq,←List.getD_eq_getElem?_getD]
 rw[this]
 grind
theorem Sy{i:Nat}:∀{n:Nat},(QQ n i).sum=if i<n then 1 else 0
  |0=>by simp[QQ]
  | n + 1 => by
    have ih:=Sy (i:=i) (n:=n)
    unfold QQ at ih⊢
    rw[List.range_succ,List.map_append,List.sum_append,ih]
    by_cases h:n=i
    ·subst h;simp;grind
    · have : i < n + 1 ↔ i < n := by omega
      simp[h,this]
      grind
section
variable{t:Tr}{k:Nat}{st:Stt}{d:AV}
theorem Gu{ls:List Ld}(h:Oa ls){l:Nat}{n:Int}(hl:l<ls.length):Oa (less ls l n):=fun x hx=>by
 rcases Ir hx hl with hx|rfl
 ·exact h x hx
 ·exact(h (AO ls l) (AX hl):)
theorem Ju{ls:List Ld}(h:Oa ls){y:Ld}(hy:y.ow.sum=1):Oa (ls++[y]):=fun x hx=>by
 rcases List.mem_append.mp hx with hx|hx
 ·exact h x hx
 ·rw[List.mem_singleton.mp hx];exact hy
theorem Tj(h:Du t k st)(hc:Can t st d)(ho:Oa st.loads):Oa (step t st d).loads:=by
  cases d with
  | bring p kd n =>
    refine Ju ho ?_
    rw[Sy,if_pos hc.1]
  | pool i j =>
    obtain⟨hij,hi,hj,h1,h2,h3⟩:=hc
    refine Ju (Gu (Gu ho hi) (by rw[Ce];exact hj)) ?_
    exact R1 (by rw[h.own _ (AX hi),h.own _ (AX hj)]) (ho _ (AX hi)) (ho _ (AX hj)) (by omega)
  |swap i g kd n=>exact Ju (Gu ho hc.1) (ho (AO st.loads i) (AX hc.1):)
  |trade u i g kd n=>exact Ju (Gu ho hc.1) (ho (AO st.loads i) (AX hc.1):)
  |spoil i n=>exact Gu ho hc.1
  | thr i n ws =>
    intro x hx
    obtain⟨y,hy,rfl⟩:=List.mem_map.mp hx
    have hl:=hc.1
    have ly:y.ow.length=t.p:=by
      rcases Ir hy hl with hy|rfl
      ·exact h.own y hy
      ·exact(h.own (AO st.loads i) (AX hl):)
    exact Uq (by rw[ly,h.own _ (AX hl)]) (Gu ho hl y hy) (ho _ (AX hl))
  | sell p q x =>
    intro y hy
    obtain⟨z,hz,rfl⟩:=List.mem_map.mp hy
    obtain⟨h1,h2,h3,_⟩:=hc
    have:=h.own z hz
    show(B8 p q x z.ow).sum=1
    rw[Ww h1 (by omega) (by omega)]
    exact ho z hz
theorem QP(ht:Jj t):∀{ds:List AV} {st:Stt} {k:Nat},Du t k st->HL t st ds->k+ds.length≤17->Oa st.loads->Oa (runs t st ds).loads
 | [],st,k,h,_,_,o=>o
 |d::ds,st,k,h,g,hl,o=>QP ht (ds:=ds) (Fz ht h (by simp at hl;omega) g.1) g.2 (by simp at hl;omega) (Tj h g.1 o)
theorem BJ.ones{ls:List Ld}{ds:List AV}(h:BJ t ls ds)(ho:Oa ls)(n:Nat):Oa (runs t (st0 t ls) (ds.take n)).loads:=QP h.tr h.inv (Ka h.good) (by have:=h.len;simp;omega) ho
end
noncomputable def NL(ls:List Ld)(kd:Nat):Int:=((ls.filter fun x=>x.k==kd).map fun x=>x.n).sum
theorem sum_add{f g:Nat->Rat}:∀{xs:List Nat},(xs.map fun p=>f p+g p).sum=(xs.map f).sum+(xs.map g).sum
  | []=>by simp;grind
  | x :: xs => by
    rw[List.map_cons,List.map_cons,List.map_cons,List.sum_cons,List.sum_cons,List.sum_cons,sum_add]
    grind
theorem Qn{c:Rat}{f:Nat->Rat}:∀{xs:List Nat},(xs.map fun p=>c*f p).sum=c*(xs.map f).sum
  | []=>by simp
  | x :: xs => by
    rw[List.map_cons,List.map_cons,List.sum_cons,List.sum_cons,Qn]
    grind
theorem OF:∀{xs:List Nat},(xs.map fun _=>(0:Rat)).sum=0
 | []=>rfl
 |x::xs=>by rw[List.map_cons,List.sum_cons,OF];grind
theorem Uo{x:Ld}{P:Nat}(h:x.ow.length=P):(List.range P).map (ownAt x)=x.ow:=by
 apply List.ext_getElem
 ·simp[h]
 ·intro i h1 h2
  simp[ownAt,List.getD_eq_getElem?_getD,List.getElem?_eq_getElem h2]
theorem Kl{P kd:Nat}:∀{ls:List Ld},(∀l∈ls,l.ow.length=P)->Oa ls->((List.range P).map fun p=>kindS ls p kd).sum=(NL ls kd:Rat)
  | [],_,_=>by
    have:(fun p=>kindS [] p kd)=fun _=>(0:Rat):=rfl
    rw[this,OF];rfl
  | x :: ls, h, o => by
    have ih:=Kl (kd:=kd) (ls:=ls) (fun l hl=>h l (List.mem_cons_of_mem _ hl)) fun l hl=>o l (List.mem_cons_of_mem _ hl)
    have e:(fun p=>kindS (x::ls) p kd)=fun p=>(if x.k=kd then(x.n:Rat)*ownAt x p else 0)+kindS ls p kd:=by
      funext p;exact FP
    rw[e,sum_add,ih]
    unfold NL
    rw[List.filter_cons]
    by_cases hk:x.k=kd
    · have : ((List.range P).map fun p => (if x.k = kd then (x.n : Rat) * ownAt x p else 0)) = (List.range P).map fun p => (x.n : Rat) * ownAt x p := by simp [hk]
      rw[this,Qn,Uo (h x List.mem_cons_self),o x List.mem_cons_self]
      simp[hk]
    · have : ((List.range P).map fun p => (if x.k = kd then (x.n : Rat) * ownAt x p else 0)) = (List.range P).map fun _ => 0 := by simp [hk]
      rw[this,OF]
      simp[hk]
      grind
section
variable{S:Sto}{t:Tr}{ls L:List Ld}{ds:List AV}{G B N K p:Nat}
noncomputable def B0(rs qs:List Rat):List Rat:=List.zipWith (fun a b=>a-b) rs qs
theorem Xa{F:Fn}(hF:∀{j k:Nat} {p q:Rat} (S:Sto),Sz j p->Sz k q->j+k≤7990->F [aD p,aD q] S=some (aD (p-q),S)){rs qs:List Rat}{j k:Nat}(h1:∀r∈rs,Sz j r)(h2:∀r∈qs,Sz k r)(hj:j+k≤7990)(hl:rs.length≤50):
  CM [] (tTp [(tNm 0),(tNm 1)]) B3 (AJ F [(eV 0),(eV 1)]) (Ml (rs.map aD) (qs.map aD)) [] [none,none] S=some ((B0 rs qs).map aD,S):=by
 have e:=Cu (gs:=[]) (t:=tTp [(tNm 0),(tNm 1)]) (f:=AJ F [(eV 0),(eV 1)]) (C:=[]) (m:=2) (e:=fun z:Rat×Rat=>D.tup [aD z.1,aD z.2]) (g:=fun z=>aD (z.1-z.2)) (S:=S) Al (xs:=rs.zip qs) (acc:=[]) (os:=[none,none]) rfl (Nat.le_trans (show _≤50 by simp;omega) (AW (by decide))) (by
  intro z hz os ho
  obtain⟨q1,q2,rfl⟩:∃q1 q2,os=[q1,q2]:=by
   match os,ho with
   | [a,b],_=>exact⟨a,b,rfl⟩
  have hm:=List.of_mem_zip (a:=z.1) (b:=z.2) hz
  have l:=hF S (h1 _ hm.1) (h2 _ hm.2) hj
  refine⟨[some (aD z.1),some (aD z.2)],rfl,by simp,?_⟩
  generalize aD (z.1-z.2)=D1 at*
  simp[l])
 rw[←Q7]at e
 have em:(rs.zip qs).map (fun z=>aD (z.1-z.2))=(B0 rs qs).map aD:=by
  unfold B0
  rw[←List.map_uncurry_zip_eq_zipWith,List.map_map]
  rfl
 rw[em]at e
 exact e
end
theorem SF{x:Str}{n:Nat}:(D.str x).py.depth≤n+1:=by
 simp only[D.py,PyData.depth]
 omega
theorem Vt:(D.str "bring").lay=true/\(D.str "pool").lay=true/\(D.str "swap").lay=true/\(D.str "trade").lay=true/\(D.str "spoil").lay=true/\(D.str "throw").lay=true/\(D.str "sell").lay=true:=by decide+kernel
theorem RF{d:AV}:d.d.lay=true:=by
  obtain⟨w1,w2,w3,w4,w5,w6,w7⟩:=Vt
  have hw:∀ws:List Int,(D.tup (ws.map D.int)).lay=true:=fun ws=>Fx fun _ _=>rfl
  have ha:∀r:Rat,(aD r).lay=true:=fun _=>rfl
  have hi:∀i:Int,(D.int i).lay=true:=fun _=>rfl
  have ht:∀ds:List D,(D.tup ds).lay=D.lays ds:=fun _=>rfl
  have hc:∀(d:D) (ds:List D),D.lays (d::ds)=(d.lay && D.lays ds):=fun _ _=>rfl
  have hn:D.lays []=true:=rfl
  cases d with
  | thr l n ws =>
    have:=hw ws
    generalize hq:D.tup (ws.map D.int)=q at*
    simp only[AV.d,hq,ht,hc,hn,hi,w6,this,Bool.and_self]
  |_=>simp only[AV.d,ht,hc,hn,hi,ha,w1,w2,w3,w4,w5,w7,Bool.and_self]
theorem aL{d:AV}:d.d.py.depth≤3:=by
  cases d with
  | thr l n ws =>
    refine L1 (n:=2) fun e he=>?_
    simp only[List.mem_cons,List.not_mem_nil,or_false]at he
    rcases he with rfl|rfl|rfl|rfl
    ·exact SF
    ·exact Hh
    ·exact Hh
    · refine L1 (n := 1) fun e he => ?_
      obtain⟨w,_,rfl⟩:=List.mem_map.mp he
      exact Hh
  | sell p q s =>
    refine L1 (n:=2) fun e he=>?_
    simp only[List.mem_cons,List.not_mem_nil,or_false]at he
    rcases he with rfl|rfl|rfl|rfl
    ·exact SF
    ·exact Hh
    ·exact Hh
    ·exact gf
  | _ =>
    refine L1 (n:=2) fun e he=>?_
    simp only[List.mem_cons,List.not_mem_nil,or_false]at he
    first
      |(rcases he with rfl|rfl|rfl|rfl|rfl|rfl<;>first|exact SF|exact Hh)
      |(rcases he with rfl|rfl|rfl|rfl|rfl<;>first|exact SF|exact Hh)
      |(rcases he with rfl|rfl|rfl|rfl<;>first|exact SF|exact Hh)
      |(rcases he with rfl|rfl|rfl<;>first|exact SF|exact Hh)
section
variable{S:Sto}{t:Tr}{ls L:List Ld}{ds:List AV}
theorem aa:t.d.lay=true:=by
 show(true && (true && (true && ((shD t.ho).lay && (true && (true && true))))))=true
 rw[Qx];rfl
theorem jN:t.d.py.depth≤4:=L1 (n:=3) fun e he=>by
 simp only[List.mem_cons,List.not_mem_nil,or_false]at he
 rcases he with rfl|rfl|rfl|rfl|rfl|rfl
 ·exact Hh
 ·exact Hh
 ·exact Hh
 ·exact fL
 ·exact Hh
 ·exact Hh
theorem Rg:(Aj t ls ds).lay=true:=by
 show(t.d.lay && ((D.tup (ls.map Ld.d)).lay && ((D.tup (ds.map AV.d)).lay && true)))=true
 rw[aa,show(D.tup (ls.map Ld.d)).lay=true from Fx fun _ _=>aw,show(D.tup (ds.map AV.d)).lay=true from Fx fun _ _=>RF]
 rfl
theorem UN:Dx (Aj t ls ds) (Aj t ls ds)=true:=Lz Rg (Nat.le_trans (L1 (n:=5) fun e he=>by
 simp only[List.mem_cons,List.not_mem_nil,or_false]at he
 rcases he with rfl|rfl|rfl
 ·exact Nat.le_trans jN (by decide)
 ·refine L1 (n:=4) fun e he=>?_
  obtain⟨w,_,rfl⟩:=List.mem_map.mp he
  exact jH
 ·refine L1 (n:=4) fun e he=>?_
  obtain⟨w,_,rfl⟩:=List.mem_map.mp he
  exact Nat.le_trans aL (by decide)) (by decide))
theorem Wx:deq (Aj t ls ds) (Aj t ls ds)=true:=Oq Rg
end
noncomputable def kn(x:Ld):Nat×Int:=(x.k,x.n)
structure Sim(s s':Stt):Prop where
 kn:s.loads.map kn=s'.loads.map kn
 nums:s.nums=s'.nums
section
variable{s s':Stt}{t:Tr}{d:AV}
theorem W8{ls:List Ld}{l:Nat}:kn (AO ls l)=(ls.map kn).getD l (0,0):=by
 unfold AO
 rw[List.getD_eq_getElem?_getD,List.getD_eq_getElem?_getD,List.getElem?_map]
 cases ls[l]?<;>rfl
theorem Sim.at(h:Sim s s')(l:Nat):(AO s.loads l).k=(AO s'.loads l).k/\(AO s.loads l).n=(AO s'.loads l).n:=by
 have e:Mi.kn (AO s.loads l)=Mi.kn (AO s'.loads l):=by rw[W8,W8,h.kn]
 exact⟨congrArg Prod.fst e,congrArg Prod.snd e⟩
theorem Sim.len(h:Sim s s'):s.loads.length=s'.loads.length:=by
 have:=congrArg List.length h.kn
 simpa using this
theorem KQ{ls ls':List Ld}{l:Nat}{n:Int}(h:ls.map kn=ls'.map kn):(less ls l n).map kn=(less ls' l n).map kn:=by
 have e:kn (AO ls l)=kn (AO ls' l):=by rw[W8,W8,h]
 unfold less
 rw[List.map_set,List.map_set,h]
 have e1:(AO ls l).k=(AO ls' l).k:=congrArg Prod.fst e
 have e2:(AO ls l).n=(AO ls' l).n:=congrArg Prod.snd e
 simp only[kn,e1,e2]
theorem Sim.can(h:Sim s s')(hc:Can t s d):Can t s' d:=by
 have hk:=fun l=>(h.at l).1
 have hn:=fun l=>(h.at l).2
 cases d<;>simp only[Can,hk,hn,h.len,h.nums]at hc⊢ <;>exact hc
theorem Sim.step(h:Sim s s'):Sim (step t s d) (step t s' d):=by
  have hk:=fun l=>(h.at l).1
  have hn:=fun l=>(h.at l).2
  cases d with
  |bring p k n=>exact⟨by simp only[Mi.step,List.map_append,h.kn],h.nums⟩
  | pool a b =>
    refine⟨?_,h.nums⟩
    simp only[Mi.step,List.map_append,hn]
    rw[KQ (KQ h.kn)]
    simp only[List.map_cons,List.map_nil,Mi.kn,hk,hn]
  | swap l g k n =>
    refine⟨?_,h.nums⟩
    simp only[Mi.step,List.map_append]
    rw[KQ h.kn]
    rfl
  | trade u l g k n =>
    refine⟨?_,by simp only[Mi.step,h.nums]⟩
    simp only[Mi.step,List.map_append]
    rw[KQ h.kn]
    rfl
  |spoil l n=>exact⟨KQ h.kn,h.nums⟩
  | thr l n ws =>
    refine⟨?_,h.nums⟩
    simp only[Mi.step,List.map_map]
    exact KQ h.kn
  | sell p q x =>
    refine⟨?_,h.nums⟩
    simp only[Mi.step,List.map_map]
    exact h.kn
theorem Sim.good:∀{ds:List AV} {s s':Stt},Sim s s'->HL t s ds->HL t s' ds
 | [],_,_,_,_=>trivial
 |d::ds,s,s',h,g=>⟨h.can g.1,Sim.good h.step g.2⟩
theorem Ih{p q:Nat}{x:Rat}:Sim (step t s (.sell p q x)) s:=⟨by simp only[Mi.step,List.map_map];rfl,rfl⟩
theorem Nn{p q:Nat}{x:Rat}:∀{ds:List AV} {i:Nat} {s:Stt},HL t s ds->ds[i]?=some (.sell p q x)->HL t s (ds.eraseIdx i)
  | d :: ds, 0, s, g, h => by
    simp at h
    subst h
    exact Ih.good g.2
  |d::ds,i+1,s,g,h=>⟨g.1,Nn g.2 (by simpa using h)⟩
theorem BJ.erase{ls:List Ld}{ds:List AV}{i p q:Nat}{x:Rat}(h:BJ t ls ds)(hi:ds[i]?=some (.sell p q x)):BJ t ls (ds.eraseIdx i):=
 ⟨h.tr,h.inv,Nn h.good hi,Nat.le_trans (by rw[List.length_eraseIdx];split<;>omega) h.len⟩
end
section
variable{S:Sto}{t:Tr}{ls L:List Ld}{ds:List AV}{G B N K p:Nat}
theorem BJ.fin(h:BJ t ls ds):Du t ds.length (runs t (st0 t ls) ds):=by
 have:=h.at ds.length
 rwa [List.take_length]at this
theorem RY(h:BJ t ls ds):∃S',B1 [Aj t ls ds,.int ds.length] S=some (.lst ((List.range t.p).map fun p=>shD (AQ t.k (runs t (st0 t ls) ds).loads p)),S')/\Ci [] S S':=by
 have:=Ul (S:=S) h (n:=ds.length) (Nat.le_refl _)
 rwa [List.take_length]at this
theorem La(h:Bd L G B N K){k:Nat}:∀r∈AQ k L p,Sz K r:=by
 intro r hr
 obtain⟨kd,_,rfl⟩:=List.mem_map.mp hr
 exact h.kind.sz h.g0 h.gK (by have:=h.hb;omega)
theorem PZ{rs qs:List Rat}{j k:Nat}(h1:∀r∈rs,Sz j r)(h2:∀r∈qs,Sz k r)(hj:j+k≤7990)(hl:rs.length≤50):EH [shD rs,shD qs] S=some (shD (B0 rs qs),S):=by
 have e:=Xa (S:=S) (F:=HP) (fun S a b c=>aq a b c) h1 h2 hj hl
 simp[EH,J8,shD,e]
end
section
variable{S:Sto}{t:Tr}{ls L:List Ld}{ds:List AV}{n p i q:Nat}{x:Rat}
theorem Rq(hp:p<t.p):CG [Aj t ls ds,.int p] S=some (.non,S):=by
 have h1:(p:Int)≤(t.p:Int)-1:=by omega
 have k1:St.Kd.int.isA "int"=true:=by decide
 have k2:St.Kd.int.isA "bool"=false:=by decide
 simp[k1,k2,CG,Ef,GK,JH,Cd,FJ,Fs,HD,Ec,Fw,Aj,Tr.d,kdW,h1]
theorem Sk{k:Nat}{L:List Ld}(hp:p<n):atI ((List.range n).map fun p=>shD (AQ k L p)) (p:Int)=some (shD (AQ k L p)):=Cb (by rw[List.getElem?_map,List.getElem?_range hp];rfl)
theorem fJ(h:BJ t ls ds)(hn:n≤ds.length)(hp:p<t.p):∃S',Ay [Aj t ls ds,.int n,.int p] S=some (shD (AQ t.k (runs t (st0 t ls) (ds.take n)).loads p),S')/\Ci [] S S':=by
 obtain⟨S1,e1,s1⟩:=Ul (S:=S) h hn
 have r1:=MK (S:=S) h
 have r2:=Uw (S:=S) (t:=t) (ls:=ls) hn
 have r3:=Rq (S:=S) (ls:=ls) (ds:=ds) hp
 have a:=Sk (k:=t.k) (L:=(runs t (st0 t ls) (ds.take n)).loads) hp
 refine⟨S1,?_,s1⟩
 simp[Ay,Jn,r1,r2,r3,e1,a]
end
def SR(G B:Nat)(L:List Ld):Prop:=∀l∈L,∀r∈l.ow,Ok G B r
def Rz(k:Nat)(L A:List Ld):Prop:=∃G B:Nat,0<G/\G≤B/\B<2^(30+170*k)/\SR G B L/\SR G B A
section
variable{t:Tr}{k k':Nat}{s a:Stt}{L:List Ld}{G B:Nat}{d:AV}
theorem SR.less(h:SR G B L){l:Nat}{n:Int}(hl:l<L.length):SR G B (less L l n):=fun x hx r hr=>by
 rcases Ir hx hl with hx|rfl
 ·exact h x hx r hr
 ·exact h (AO L l) (AX hl) r hr
theorem SR.app(h:SR G B L){y:Ld}(hy:∀r∈y.ow,Ok G B r):SR G B (L++[y]):=fun x hx r hr=>by
 rcases List.mem_append.mp hx with hx|hx
 ·exact h x hx r hr
 ·rw[List.mem_singleton.mp hx]at hr;exact hy r hr
theorem SR.up(h:SR G B L){T B':Nat}(hT:B*T≤B'):SR (G*T) B' L:=fun x hx r hr=>(h x hx r hr).up hT
theorem Pd{B k:Nat}(h:B<2^(30+170*k)):B<2^(30+170*(k+1)):=Nat.lt_of_lt_of_le h (Nat.pow_le_pow_right (by decide) (by omega))
end
def OkZ(G B:Nat)(r:Rat):Prop:=∃z:Int,r*(G:Rat)=(z:Rat)/\z.natAbs≤B
section
variable{G B C K:Nat}{r q:Rat}{S:Sto}
theorem OkZ.sz(h:OkZ G B r)(hG:0<G)(g:G<2^K)(b:B<2^K):Sz K r:=by
 obtain⟨z,e,hz⟩:=h
 have e2:r=(z:Rat) / ((G:Int):Rat):=by
  have:=KZ hG
  rw[show(((G:Nat):Int):Rat)=(G:Rat)from rfl,←e]
  grind
 rw[e2]
 exact L5 (by omega) (Nat.lt_of_le_of_lt hz b) (by simpa using g)
theorem OkZ.zero:OkZ G B 0:=⟨0,by simp,Nat.zero_le _⟩
theorem OkZ.add(h:OkZ G B r)(g:OkZ G C q):OkZ G (B+C) (r+q):=by
 obtain⟨z,e1,h1⟩:=h
 obtain⟨y,e2,h2⟩:=g
 refine⟨z+y,?_,by omega⟩
 push_cast
 rw[←e1,←e2]
 grind
theorem Ok.subZ(h:Ok G B r)(g:Ok G B q):OkZ G B (r-q):=by
 obtain⟨z,e1,h1⟩:=h
 obtain⟨y,e2,h2⟩:=g
 refine⟨(z:Int)-y,?_,by omega⟩
 have:(((z:Int)-(y:Int):Int):Rat)=(z:Rat)-(y:Rat):=by push_cast;rfl
 rw[this,←e1,←e2]
 grind
theorem QN(hG:0<G)(gK:G<2^K)(hK:2*K≤7990){X:Option D}:∀{rs:List Rat} {acc:Rat} {m:Nat} {o:Option D},OkZ G (m*B) acc->(∀r∈rs,OkZ G B r)->(m+rs.length)*B<2^K->
    ∃o',NN [] (tNm 2) (Bp 1 (AJ Bu [(eV 1),(eV 2)])) (rs.map aD) [X,some (aD acc),o] S=some (.nx,[X,some (aD (acc+rs.sum)),o'],S)
  | [],acc,m,o,ha,hr,hb=>⟨o,by
      rw[List.map_nil,N7 Al,List.sum_nil]
      have:acc+0=acc:=by grind
      rw[this]⟩
  | r :: rs, acc, m, o, ha, hr, hb => by
    have h1:=hr r List.mem_cons_self
    have b1:(m+1)*B≤(m+(r::rs).length)*B:=Nat.mul_le_mul_right _ (by simp)
    have mb:(m+1)*B=m*B+B:=by rw[Nat.succ_mul]
    have e:=Pg (S:=S) (ha.sz hG gK (by omega)) (h1.sz hG gK (by omega)) (by omega)
    have ha2:OkZ G ((m+1)*B) (acc+r):=by rw[mb];exact ha.add h1
    obtain⟨o',ih⟩:=QN hG gK hK (X:=X) (rs:=rs) (acc:=acc+r) (m:=m+1) (o:=some (aD r)) ha2 (fun q hq=>hr q (List.mem_cons_of_mem _ hq)) (by
      have:m+1+rs.length=m+(r::rs).length:=by simp;omega
      rw[this];exact hb)
    refine⟨o',?_⟩
    have ea:acc+(r::rs).sum=acc+r+rs.sum:=by rw[List.sum_cons];grind
    rw[List.map_cons,Kn Al,ea,←ih]
    simp[e]
theorem Ye{rs:List Rat}(hG:0<G)(gK:G<2^K)(hK:2*K≤7990)(hr:∀r∈rs,OkZ G B r)(hb:rs.length*B<2^K):Gg [.lst (rs.map aD)] S=some (aD rs.sum,S):=by
 obtain⟨o',e⟩:=QN (S:=S) hG gK hK (X:=some (.lst (rs.map aD))) (rs:=rs) (acc:=0) (m:=0) (o:=none) OkZ.zero hr (by simpa using hb)
 have ez:(0:Rat)+rs.sum=rs.sum:=by grind
 rw[ez,Kc]at e
 simp[Gg,Pm,e]
end
noncomputable def DQ(ds:List AV)(i:Nat)(d:AV):List AV:=ds.take i++d::ds.drop i
section
variable{t:Tr}{ls:List Ld}{ds:List AV}{s s':Stt}{d:AV}{p q i:Nat}{x:Rat}
theorem UL(h:i≤ds.length):(DQ ds i d).length=ds.length+1:=by
 unfold DQ
 simp
 omega
theorem X0(h:i≤ds.length):(DQ ds i d)[i]?=some d:=by
 unfold DQ
 rw[List.getElem?_append_right (by simp;omega)]
 have:i-(ds.take i).length=0:=by simp;omega
 rw[this]
 rfl
theorem PL(h:i≤ds.length):(DQ ds i d).eraseIdx i=ds:=by
 unfold DQ
 rw[List.eraseIdx_append_of_length_le (by simp;omega)]
 have:i-(ds.take i).length=0:=by simp;omega
 rw[this]
 simp
theorem G3:∀{ds es:List AV} {s:Stt},HL t s (ds++es)↔HL t s ds/\HL t (runs t s ds) es
 | [],es,s=>⟨fun h=>⟨trivial,h⟩,fun h=>h.2⟩
 |d::ds,es,s=>⟨fun h=>⟨⟨h.1,(G3.mp h.2).1⟩,(G3 (ds:=ds) (s:=step t s d)).mp h.2|>.2⟩,fun h=>⟨h.1.1,G3.mpr ⟨h.1.2,h.2⟩⟩⟩
theorem Sim.symm(h:Sim s s'):Sim s' s:=⟨h.kn.symm,h.nums.symm⟩
theorem BJ.ins(h:BJ t ls ds)(hl:ds.length≤15)(hc:p≠q/\p<t.p/\q<t.p/\0<x.num/\x.num≤x.den/\x.den≤12):BJ t ls (DQ ds i (.sell p q x)):=by
 refine⟨h.tr,h.inv,?_,?_⟩
 ·have g:=h.good
  rw[←List.take_append_drop i ds,G3]at g
  exact G3.mpr ⟨g.1,hc,Ih.symm.good g.2⟩
 ·unfold DQ
  simp
  omega
theorem RN{ds es:List AV}:runs t s (ds++es)=runs t (runs t s ds) es:=List.foldl_append
theorem Ip:runs t s (DQ ds i d)=runs t (step t (runs t s (ds.take i)) d) (ds.drop i):=RN
theorem OW:runs t s ds=runs t (runs t s (ds.take i)) (ds.drop i):=by
 conv=>lhs;rw[←List.take_append_drop i ds]
 exact RN
end
def OwS(p q:Nat)(x:Rat)(b a:List Rat):Prop:=(∀j,j≠p->j≠q->b.getD j 0=a.getD j 0)/\a.getD q 0≤b.getD q 0/\b.getD q 0≤a.getD q 0+x*a.getD p 0
structure LdS(p q:Nat)(x:Rat)(y' y:Ld):Prop where
 k:y'.k=y.k
 n:y'.n=y.n
 ow:OwS p q x y'.ow y.ow
section
variable{t:Tr}{p q i j:Nat}{x:Rat}{a b a' b':List Rat}{s s':Stt}{L L':List Ld}
theorem JT{v:Rat}(h:i≠j):(a.set i v).getD j 0=a.getD j 0:=by
 rw[List.getD_eq_getElem?_getD,List.getElem?_set_ne h,←List.getD_eq_getElem?_getD]
theorem FL{v:Rat}(h:i<a.length):(a.set i v).getD i 0=v:=by
 rw[List.getD_eq_getElem?_getD,List.getElem?_set_self h]
 rfl
theorem OwS.refl(hx:0≤x)(ha:0≤a.getD p 0):OwS p q x a a:=⟨fun _ _ _=>rfl,Rat.le_refl,by
 have:=Rat.mul_nonneg hx ha
 grind⟩
theorem W3(hpq:p≠q)(hq:q<a.length)(hx:0≤x)(ha:0≤a.getD p 0):OwS p q x (B8 p q x a) a:=by
 have e:(B8 p q x a).getD q 0=a.getD q 0+a.getD p 0*x:=FL (by simpa using hq)
 refine⟨fun j h1 h2=>?_,?_,?_⟩
 ·unfold B8
  rw[JT (Ne.symm h2),JT (Ne.symm h1)]
 ·rw[e]
  have:=Rat.mul_nonneg ha hx
  grind
 ·rw[e]
  grind
theorem EJ{n m:Int}(h:a.length=a'.length):(Bf n m a a').getD j 0=a.getD j 0*((n:Rat) / ((n+m:Int):Rat))+a'.getD j 0*((m:Rat) / ((n+m:Int):Rat)):=by
 unfold Bf
 rw[List.getD_eq_getElem?_getD,List.getD_eq_getElem?_getD,List.getD_eq_getElem?_getD,List.getElem?_zipWith]
 by_cases hj:j<a.length
 ·rw[List.getElem?_eq_getElem hj,List.getElem?_eq_getElem (by omega)]
  simp
  grind
 ·rw[List.getElem?_eq_none (by omega),List.getElem?_eq_none (by omega)]
  simp
  grind
theorem Q5{n m:Int}(h:0<n+m)(h1:0≤n):0≤(n:Rat) / ((n+m:Int):Rat):=by
 rw[Rat.div_def]
 refine Rat.mul_nonneg (by exact_mod_cast h1) ?_
 exact Rat.le_of_lt (Rat.inv_pos.mpr (by exact_mod_cast h))
theorem OwS.pool{n m:Int}(h:OwS p q x b a)(h':OwS p q x b' a')(l1:b.length=b'.length)(l2:a.length=a'.length)(h0:0<n+m)(hn:0≤n)(hm:0≤m):OwS p q x (Bf n m b b') (Bf n m a a'):=by
 have c:=Q5 h0 hn
 have d:0≤(m:Rat) / ((n+m:Int):Rat):=by
  have:=Q5 (n:=m) (m:=n) (by omega) hm
  rwa [Int.add_comm]at this
 refine⟨fun j h1 h2=>?_,?_,?_⟩
 ·rw[EJ l1,EJ l2,h.1 j h1 h2,h'.1 j h1 h2]
 ·rw[EJ l1,EJ l2]
  have:=Rat.mul_le_mul_of_nonneg_right h.2.1 c
  have:=Rat.mul_le_mul_of_nonneg_right h'.2.1 d
  grind
 ·rw[EJ l1,EJ l2,EJ l2]
  have:=Rat.mul_le_mul_of_nonneg_right h.2.2 c
  have:=Rat.mul_le_mul_of_nonneg_right h'.2.2 d
  grind
theorem KO{R:Ld->Ld->Prop}:∀{L' L:List Ld} {i:Nat},Paired R L' L->i<L.length->R (AO L' i) (AO L i)
 |_,_,0,.cons h _,_=>h
 |_,_,i+1,.cons _ t,hi=>(KO (i:=i) t (by simpa using hi):)
theorem Q6{R:Ld->Ld->Prop}{u' u:Ld}:∀{L' L:List Ld} {i:Nat},Paired R L' L->R u' u->Paired R (L'.set i u') (L.set i u)
 |_,_,_,.nil,_=>.nil
 |_,_,0,.cons _ t,h=>.cons h t
 |_,_,i+1,.cons g t,h=>.cons g (Q6 t h)
theorem IJ{n:Int}(h:Paired (LdS p q x) L' L)(hi:i<L.length):Paired (LdS p q x) (less L' i n) (less L i n):=by
 have g:=KO h hi
 exact Q6 h ⟨g.k,by show(AO L' i).n-n=(AO L i).n-n;rw[g.n],g.ow⟩
noncomputable def quiet:AV->Bool
 | .thr .. =>false
 | .sell .. =>false
 |_=>true
theorem Vj{f:Ld->Ld}(h:∀l∈L,LdS p q x (f l) l):Paired (LdS p q x) (L.map f) L:=by
 induction L with
 |nil=>exact .nil
 |cons y L ih=>exact .cons (h y List.mem_cons_self) (ih fun l hl=>h l (List.mem_cons_of_mem _ hl))
theorem Sl{k k':Nat}{d:AV}(hx:0≤x)(h:Paired (LdS p q x) s'.loads s.loads)(hI:Du t k s)(hI':Du t k' s')(hc:Can t s d)(hd:quiet d=true):Paired (LdS p q x) (step t s' d).loads (step t s d).loads:=by
  cases d with
  | bring r kd n =>
    refine Paired.snoc h ⟨rfl,rfl,.refl hx ?_⟩
    show 0≤(QQ t.p r).getD p 0
    rw[List.getD_eq_getElem?_getD]
    unfold QQ
    rw[List.getElem?_map]
    by_cases hp:p<t.p
    · rw [List.getElem?_range hp]
      show 0≤(if p=r then(1:Rat)else 0)
      split<;>decide
    · rw [List.getElem?_eq_none (by simpa using hp)]
      exact Rat.le_refl
  | pool i j =>
    obtain⟨hij,hi,hj,h1,h2,h3⟩:=hc
    have gi:=KO h hi
    have gj:=KO h hj
    have ll:=h.length
    have e1:(AO s'.loads i).n=(AO s.loads i).n:=gi.n
    have e2:(AO s'.loads j).n=(AO s.loads j).n:=gj.n
    have e3:(AO s'.loads i).k=(AO s.loads i).k:=gi.k
    show Paired _ (less (less s'.loads i (AO s'.loads i).n) j (AO s'.loads j).n++[⟨(AO s'.loads i).k,(AO s'.loads i).n+(AO s'.loads j).n,Bf (AO s'.loads i).n (AO s'.loads j).n (AO s'.loads i).ow (AO s'.loads j).ow⟩]) (less (less s.loads i (AO s.loads i).n) j (AO s.loads j).n++[⟨(AO s.loads i).k,(AO s.loads i).n+(AO s.loads j).n,Bf (AO s.loads i).n (AO s.loads j).n (AO s.loads i).ow (AO s.loads j).ow⟩])
    rw[e1,e2,e3]
    refine Paired.snoc (IJ (IJ h hi) (by rw[Ce];exact hj)) ⟨rfl,rfl,gi.ow.pool gj.ow ?_ ?_ (by omega) (by omega) (by omega)⟩
    ·rw[hI'.own _ (AX (by omega)),hI'.own _ (AX (by omega))]
    ·rw[hI.own _ (AX hi),hI.own _ (AX hj)]
  |swap i g kd n=>exact Paired.snoc (IJ h hc.1) ⟨rfl,rfl,(KO h hc.1).ow⟩
  |trade u i g kd n=>exact Paired.snoc (IJ h hc.1) ⟨rfl,rfl,(KO h hc.1).ow⟩
  |spoil i n=>exact IJ h hc.1
  |thr i n ws=>cases hd
  |sell p q x=>cases hd
theorem MO{kd:Nat}:∀{L' L:List Ld},Paired (LdS p q x) L' L->(∀l∈L,0≤l.n)->(∀j,j≠p->j≠q->kindS L' j kd=kindS L j kd)/\kindS L q kd≤kindS L' q kd/\kindS L' q kd≤kindS L q kd+x*kindS L p kd
  | _, _, .nil, _ => by
    refine⟨fun _ _ _=>rfl,Rat.le_refl,?_⟩
    show(0:Rat)≤0+x*0
    grind
  | y' :: L', y :: L, .cons h t, hn => by
    obtain⟨i1,i2,i3⟩:=MO (kd:=kd) t fun l hl=>hn l (List.mem_cons_of_mem _ hl)
    have n0:(0:Rat)≤(y.n:Rat):=by exact_mod_cast hn y List.mem_cons_self
    simp only[FP,h.k,h.n]
    obtain⟨o1,o2,o3⟩:=h.ow
    refine⟨fun j h1 h2=>?_,?_,?_⟩
    · rw [i1 j h1 h2]
      have:ownAt y' j=ownAt y j:=o1 j h1 h2
      rw[this]
    · have := Rat.mul_le_mul_of_nonneg_right (show ownAt y q ≤ ownAt y' q from o2) n0
      split<;>grind
    · have := Rat.mul_le_mul_of_nonneg_right (show ownAt y' q ≤ ownAt y q + x * ownAt y p from o3) n0
      split<;>grind
end
section
variable{t:Tr}{k k':Nat}{s a:Stt}{d:AV}{p q i:Nat}{x:Rat}{ls:List Ld}{ds:List AV}
theorem XB{ws:List Int}:∀{L A:List Ld},L.map kn=A.map kn->Ct t L ws=Ct t A ws:=fun{L A} h=>by
 unfold Ct
 have e:∀M:List Ld,(M.map fun l=>l.n*ws.getD l.k 0)=(M.map kn).map fun z=>z.2*ws.getD z.1 0:=fun M=>by
  rw[List.map_map];rfl
 rw[e,e,h]
theorem TX(ht:Jj t)(h:Du t k' s)(h':Du t k' a)(hk:k'≤16)(sim:Sim s a)(hc:Can t s d)(j:Rz k s.loads a.loads):Rz (k+1) (step t s d).loads (step t a d).loads:=by
  obtain⟨G,B,g0,gb,b,h1,h2⟩:=j
  have len:=sim.len
  cases d with
  |bring p kd n=>exact⟨G,B,g0,gb,Pd b,h1.app (Up gb),h2.app (Up gb)⟩
  | pool i j =>
    obtain⟨hij,hi,hj,n1,n2,n3⟩:=hc
    have pi:=(h.pcs _ (AX hi)).2
    have pj:=(h.pcs _ (AX hj)).2
    have e:(2:Int)^(131+k')≤2^147:=Ga (by omega)
    have hT:((AO s.loads i).n+(AO s.loads j).n).toNat<2^149:=by omega
    have si:=(sim.at i).2
    have sj:=(sim.at j).2
    have T0:0<((AO s.loads i).n+(AO s.loads j).n).toNat:=by omega
    refine⟨G*((AO s.loads i).n+(AO s.loads j).n).toNat,B*((AO s.loads i).n+(AO s.loads j).n).toNat,Nat.mul_pos g0 T0,Nat.mul_le_mul_right _ gb,MP b hT (by decide),?_,?_⟩
    ·exact(((h1.less hi).less (by rw[Ce];exact hj)).up (Nat.le_refl _)).app (L7 n1 n2 (h1 _ (AX hi)) (h1 _ (AX hj)))
    · have m1 : 0 < (AO a.loads i).n := by omega
      have m2:0<(AO a.loads j).n:=by omega
      rw[si,sj]
      exact(((h2.less (by omega)).less (by rw[Ce];omega)).up (Nat.le_refl _)).app (L7 m1 m2 (h2 _ (AX (by omega))) (h2 _ (AX (by omega))))
  | swap l g kd n =>
    have hla:l<a.loads.length:=by rw[←len];exact hc.1
    exact⟨G,B,g0,gb,Pd b,(h1.less hc.1).app (h1 (AO s.loads l) (AX hc.1):),(h2.less hla).app (h2 (AO a.loads l) (AX hla):)⟩
  | trade u l g kd n =>
    have hla:l<a.loads.length:=by rw[←len];exact hc.1
    exact⟨G,B,g0,gb,Pd b,(h1.less hc.1).app (h1 (AO s.loads l) (AX hc.1):),(h2.less hla).app (h2 (AO a.loads l) (AX hla):)⟩
  |spoil l n=>exact⟨G,B,g0,gb,Pd b,h1.less hc.1,h2.less (by have:=hc.1;omega)⟩
  | thr l n ws =>
    have hc':=sim.can hc
    obtain⟨hl,n1,n2,w1,w2⟩:=hc
    obtain⟨hl',_,n2',_,_⟩:=hc'
    have wb:=Ii ht h (by omega) w1 w2
    have we:=XB (t:=t) (ws:=ws) sim.kn
    have e:(2:Int)^(145+k')≤2^161:=Ga (by omega)
    have hT:(Ct t s.loads ws).toNat<2^162:=by omega
    refine⟨G*(Ct t s.loads ws).toNat,B*(Ct t s.loads ws).toNat,Nat.mul_pos g0 (by omega),Nat.mul_le_mul_right _ gb,MP b hT (by decide),fun x hx r hr=>?_,fun x hx r hr=>?_⟩
    · obtain ⟨y, hy, rfl⟩ := List.mem_map.mp hx
      exact MX ht h (by omega) w1 w2 hl n1 n2 (h1 _ (AX hl)) (h1.less hl y hy) r hr
    · obtain ⟨y, hy, rfl⟩ := List.mem_map.mp hx
      rw[we]
      exact MX ht h' (by omega) w1 w2 hl' n1 n2' (h2 _ (AX hl')) (h2.less hl' y hy) r hr
  | sell p q x =>
    obtain⟨hpq,hp,hq,x1,x2,x3⟩:=hc
    have dp:=x.den_pos
    have hT:2*x.den<2^5:=by omega
    have hb:=MP b hT (by decide)
    have e:B*(2*x.den)=2*B*x.den:=by rw[←Nat.mul_assoc,Nat.mul_comm B 2]
    rw[e]at hb
    have e2:B*x.den≤2*B*x.den:=Nat.mul_le_mul_right _ (by omega)
    refine⟨G*x.den,2*B*x.den,Nat.mul_pos g0 dp,Nat.le_trans (Nat.mul_le_mul_right _ gb) e2,hb,fun y hy r hr=>?_,fun y hy r hr=>?_⟩
    · obtain ⟨z, hz, rfl⟩ := List.mem_map.mp hy
      exact MY (by rw[h.own z hz];exact hp) (by rw[h.own z hz];exact hq) x1 x2 (h1 z hz) r hr
    · obtain ⟨z, hz, rfl⟩ := List.mem_map.mp hy
      exact MY (by rw[h'.own z hz];exact hp) (by rw[h'.own z hz];exact hq) x1 x2 (h2 z hz) r hr
theorem SA(h:Du t k s)(hc:Can t s (.sell p q x)):Rz (k+1) (step t s (.sell p q x)).loads s.loads:=by
 obtain⟨G,B,g0,gb,b,h1,_⟩:=h.gb
 have h1:SR G B s.loads:=h1
 obtain⟨hpq,hp,hq,x1,x2,x3⟩:=hc
 have dp:=x.den_pos
 have hT:2*x.den<2^5:=by omega
 have hb:=MP b hT (by decide)
 have e:B*(2*x.den)=2*B*x.den:=by rw[←Nat.mul_assoc,Nat.mul_comm B 2]
 rw[e]at hb
 have e2:B*x.den≤2*B*x.den:=Nat.mul_le_mul_right _ (by omega)
 refine⟨G*x.den,2*B*x.den,Nat.mul_pos g0 dp,Nat.le_trans (Nat.mul_le_mul_right _ gb) e2,hb,fun y hy r hr=>?_,h1.up e2⟩
 obtain⟨z,hz,rfl⟩:=List.mem_map.mp hy
 exact MY (by rw[h.own z hz];exact hp) (by rw[h.own z hz];exact hq) x1 x2 (h1 z hz) r hr
theorem Nu(ht:Jj t):∀{ds:List AV} {k:Nat} {s a:Stt},Du t k s->Du t k a->k+ds.length≤17->Sim s a->HL t s ds->Rz k s.loads a.loads->Rz (k+ds.length) (runs t s ds).loads (runs t a ds).loads
  | [],k,s,a,_,_,_,_,_,j=>j
  | d :: ds, k, s, a, h, h', hl, sim, g, j => by
    have hk:k≤16:=by simp at hl;omega
    have:=Nu ht (ds:=ds) (k:=k+1) (Fz ht h (by omega) g.1) (Fz ht h' (by omega) (sim.can g.1)) (by simp at hl;omega) sim.step g.2 (TX ht h h' hk sim g.1 j)
    have e:k+(d::ds).length=k+1+ds.length:=by simp;omega
    rw[e]
    exact this
theorem QH(ht:Jj t)(hx:0≤x):∀{ds:List AV} {k k':Nat} {s' s:Stt},Du t k s->Du t k' s'->k+ds.length≤17->k'+ds.length≤17->Sim s' s->HL t s ds->(∀d∈ds,quiet d=true)->Paired (LdS p q x) s'.loads s.loads->Paired (LdS p q x) (runs t s' ds).loads (runs t s ds).loads
 | [],_,_,_,_,_,_,_,_,_,_,_,h=>h
 |d::ds,k,k',s',s,hI,hI',l1,l2,sim,g,hd,h=>QH ht hx (ds:=ds) (k:=k+1) (k':=k'+1) (Fz ht hI (by simp at l1;omega) g.1) (Fz ht hI' (by simp at l2;omega) (sim.symm.can g.1)) (by simp at l1;omega) (by simp at l2;omega) sim.step g.2 (fun e he=>hd e (List.mem_cons_of_mem _ he)) (Sl hx h hI hI' g.1 (hd d List.mem_cons_self))
end
section
variable{S:Sto}{t:Tr}{ls L:List Ld}{ds:List AV}{i p q:Nat}{x:Rat}
theorem Yw(h:ds[i]?=some (.sell p q x)):atI (ds.map AV.d) (i:Int)=some (AV.sell p q x).d:=Cb (by rw[List.getElem?_map,h];rfl)
theorem NT(h:ds[i]?=some (.sell p q x)):CJ [Aj t ls ds,.int i] S=some (.non,S):=by
 have hi:i<ds.length:=(List.getElem?_eq_some_iff.mp h).1
 have h1:(i:Int)≤(ds.length:Int)-1:=by omega
 have k1:St.Kd.int.isA "int"=true:=by decide
 have k2:St.Kd.int.isA "bool"=false:=by decide
 have a:=Yw h
 simp[k1,k2,CJ,GB,Ft,Hw,IK,K5,Cd,FJ,Fs,HD,Ec,Fw,Aj,kdW,h1,a,AV.d]
theorem erase_eq{α:Type}{xs:List α}:xs.eraseIdx i=xs.take i++xs.drop (i+1):=List.eraseIdx_eq_take_drop_succ xs i
theorem UP{n:Nat}(hi:i<ds.length)(hl:ds.length≤50):KU (ds.map AV.d) none (some (i:Int))=(ds.take i).map AV.d/\KU (ds.map AV.d) (some ((i:Int)+1)) none=(ds.drop (i+1)).map AV.d/\((ds.take i).map AV.d).length+((ds.drop (i+1)).map AV.d).length≤sizeLine:=by
 refine⟨?_,?_,Nat.le_trans (show _≤100 by simp;omega) (AW (by decide))⟩
 ·rw[Jx (by simp;omega),List.map_take]
 ·have:=LQ (ds:=ds.map AV.d) (n:=i+1) (by simp;omega)
  rw[List.map_drop]
  simpa using this
theorem IH(hi:i<ds.length)(hl:ds.length≤50):Co [Aj t ls ds,.int i] S=some (Aj t ls (ds.eraseIdx i),S):=by
 obtain⟨c1,c2,c3⟩:=UP (n:=0) hi hl
 rw[erase_eq]
 simp only[Aj,List.map_append]
 generalize (ds.take i).map AV.d=A at*
 generalize (ds.drop (i+1)).map AV.d=B at*
 simp[Co,Hd,c1,c2,c3]
theorem UG(h:BJ t ls ds)(hs:ds[i]?=some (.sell p q x)):GW [Aj t ls ds,.int i] S=some (Aj t ls (ds.eraseIdx i),S):=by
 have hi:i<ds.length:=(List.getElem?_eq_some_iff.mp hs).1
 have e1:=MK (S:=S) h
 have e2:=NT (S:=S) (t:=t) (ls:=ls) hs
 have e3:=IH (S:=S) (t:=t) (ls:=ls) hi (by have:=h.len;omega)
 simp[GW,Nh,e1,e2,e3]
noncomputable def EW(t:Tr)(A B:List Ld):List D:=(List.range t.p).map fun p=>shD (B0 (AQ t.k A p) (AQ t.k B p))
theorem Th(h:BJ t ls ds)(hs:ds[i]?=some (.sell p q x)):∃S',Cg [Aj t ls ds,.int i] S=some (.tup (EW t (runs t (st0 t ls) ds).loads (runs t (st0 t ls) (ds.eraseIdx i)).loads),S')/\Ci [] S S':=by
 have hi:i<ds.length:=(List.getElem?_eq_some_iff.mp hs).1
 have e1:=MK (S:=S) h
 have e2:=NT (S:=S) (t:=t) (ls:=ls) hs
 have e3:=IH (S:=S) (t:=t) (ls:=ls) hi (by have:=h.len;omega)
 have hE:=h.erase hs
 obtain⟨S1,e4,s1⟩:=RY (S:=S) h
 obtain⟨S2,e5,s2⟩:=RY (S:=S1) hE
 obtain⟨G,B,N,K,bd⟩:=h.fin.bd (by have:=h.len;omega)
 obtain⟨G',B',N',K',bd'⟩:=hE.fin.bd (by have:=hE.len;omega)
 obtain⟨t1,t2,t3,t4,t5,t6⟩:=h.tr
 generalize (runs t (st0 t ls) ds).loads=LA at*
 generalize (runs t (st0 t ls) (ds.eraseIdx i)).loads=LB at*
 have e:=Cu (gs:=[]) (t:=tTp [(tNm 0),(tNm 1)]) (f:=AJ EH [(eV 0),(eV 1)]) (C:=[]) (m:=2) (e:=fun p:Nat=>D.tup [shD (AQ t.k LA p),shD (AQ t.k LB p)]) (g:=fun p=>shD (B0 (AQ t.k LA p) (AQ t.k LB p))) (S:=S2) Al (xs:=List.range t.p) (acc:=[]) (os:=[none,none]) rfl (Nat.le_trans (show _≤50 by simp;omega) (AW (by decide))) (by
  intro z hz os ho
  obtain⟨q1,q2,rfl⟩:∃q1 q2,os=[q1,q2]:=by
   match os,ho with
   | [a,b],_=>exact⟨a,b,rfl⟩
  have l:=PZ (S:=S2) (La bd (k:=t.k) (p:=z)) (La bd' (k:=t.k) (p:=z)) (by have:=bd.hK;have:=bd'.hK;omega) (by simp[AQ];omega)
  refine⟨[some (shD (AQ t.k LA z)),some (shD (AQ t.k LB z))],rfl,by simp,?_⟩
  simp[l])
 have ez:Ml ((List.range t.p).map fun p=>shD (AQ t.k LA p)) ((List.range t.p).map fun p=>shD (AQ t.k LB p))=(List.range t.p).map fun p=>D.tup [shD (AQ t.k LA p),shD (AQ t.k LB p)]:=by
  unfold Ml
  rw[List.zip_map',List.map_map]
  rfl
 rw[←ez]at e
 refine⟨S2,?_,s1.trans s2⟩
 have w1:∀(ds:List AV),eOp (o1 Hj) [(eOp (o2 wIx) [(eV 0),(eC (.int 2))])] [some (Aj t ls ds)] S=some (.int ds.length,S):=fun ds=>by simp[Aj]
 simp only[Aj]at e1 e2 e3 e4 e5⊢
 rw[show(List.range t.p).map (fun p=>shD (B0 (AQ t.k LA p) (AQ t.k LB p)))=EW t LA LB from rfl]at e
 generalize (List.range t.p).map (fun p=>shD (AQ t.k LA p))=RA at*
 generalize (List.range t.p).map (fun p=>shD (AQ t.k LB p))=RB at*
 simp only[List.nil_append]at e
 generalize EW t LA LB=TD at*
 simp[Cg,KG,e1,e2,e3,e4,e5,e]
end
section
variable{S:Sto}{t:Tr}{ls L A:List Ld}{ds:List AV}{n p i q k kd:Nat}{x:Rat}{s:Stt}
theorem MI{d:AV}(hi:i≤ds.length)(hl:ds.length≤40):DK [Aj t ls ds,.int i,d.d] S=some (Aj t ls (DQ ds i d),S):=by
 have c1:=Jx (ds:=ds.map AV.d) (n:=i) (by simpa using hi)
 have c2:=LQ (ds:=ds.map AV.d) (n:=i) (by simpa using hi)
 have z1:(List.take i (ds.map AV.d)).length+1≤sizeLine:=Nat.le_trans (show _≤50 by simp;omega) (AW (by decide))
 have z2:(List.take i (ds.map AV.d)).length+1+(List.drop i (ds.map AV.d)).length≤sizeLine:=Nat.le_trans (show _≤50 by simp;omega) (AW (by decide))
 have e:(DQ ds i d).map AV.d=List.take i (ds.map AV.d)++[d.d]++List.drop i (ds.map AV.d):=by
  unfold DQ
  simp[List.map_take,List.map_drop]
 have dd:dr S d.d=.val d.d:=by cases d<;>rfl
 unfold Aj
 rw[e]
 generalize List.take i (ds.map AV.d)=TK at*
 generalize List.drop i (ds.map AV.d)=DP at*
 simp[DK,NZ,c1,c2,z1,z2,dd]
theorem Du.more(h:Du t k s):Du t (k+1) s:=by
 obtain⟨G,B,g0,gb,b,h1,h2⟩:=h.gb
 refine⟨by have:=h.len;omega,h.kind,fun l hl=>⟨(h.pcs l hl).1,Int.lt_of_lt_of_le (h.pcs l hl).2 (Ga (by omega))⟩,h.own,h.hold,by have:=h.nm;omega,G,B,g0,gb,Pd b,h1,h2⟩
theorem WG(h:L.map kn=A.map kn):NL L kd=NL A kd:=by
 have e:∀L:List Ld,NL L kd=(((L.map kn).filter fun z=>z.1==kd).map fun z=>z.2).sum:=fun L=>by
  unfold NL
  rw[List.filter_map,List.map_map]
  rfl
 rw[e,e,h]
theorem BJ.onesF(h:BJ t ls ds)(ho:Oa ls):Oa (runs t (st0 t ls) ds).loads:=by
 have:=h.ones ho ds.length
 rwa [List.take_length]at this
def DO(t:Tr)(p q:Nat)(x:Rat):Prop:=p≠q/\p<t.p/\q<t.p/\0<x.num/\x.num≤x.den/\x.den≤12
theorem Q9:∀{ds:List AV} {s a:Stt},Sim s a->Sim (runs t s ds) (runs t a ds)
 | [],_,_,h=>h
 |d::ds,_,_,h=>Q9 (ds:=ds) h.step
theorem Y0:Sim (runs t s (DQ ds i (.sell p q x))) (runs t s ds):=by
 rw[Ip,OW (ds:=ds) (i:=i)]
 exact Q9 Ih
theorem UH(h:BJ t ls ds)(hl:ds.length≤15)(hi:i≤ds.length)(hc:DO t p q x):Rz (ds.length+1) (runs t (st0 t ls) (DQ ds i (.sell p q x))).loads (runs t (st0 t ls) ds).loads:=by
 have inv:=h.at i
 have li:(ds.take i).length=i:=by simp;omega
 rw[li]at inv
 rw[Ip,OW (ds:=ds) (i:=i)]
 have g:=h.good
 rw[←List.take_append_drop i ds,G3]at g
 have g2:=g.2
 have hc':Can t (runs t (st0 t ls) (ds.take i)) (.sell p q x):=hc
 have j:=Nu h.tr (ds:=ds.drop i) (k:=i+1) (Fz h.tr inv (by omega) hc') inv.more (by simp;omega) Ih (Ih.symm.good g2) (SA inv hc')
 have e:i+1+(ds.drop i).length=ds.length+1:=by simp;omega
 rw[e]at j
 exact j
theorem Xl(h:BJ t ls ds)(hl:ds.length≤14)(hi:i≤ds.length)(hc:DO t p q x):∃G B N K:Nat,Bd (runs t (st0 t ls) (DQ ds i (.sell p q x))).loads G B N K/\Bd (runs t (st0 t ls) ds).loads G B N K:=by
 obtain⟨G,B,g0,gb,b,h1,h2⟩:=UH h (by omega) hi hc
 have ha:=h.ins (i:=i) (by omega) hc
 have i1:=ha.fin
 have i2:=h.fin
 have hal:=ha.len
 have hB:B<2^2750:=Nat.lt_of_lt_of_le b (Nat.pow_le_pow_right (by decide) (by omega))
 have hB':B<2^3000:=Nat.lt_of_lt_of_le hB (Nat.pow_le_pow_right (by decide) (by decide))
 have hN:(2^147:Nat)<2^148:=Nat.pow_lt_pow_right (by decide) (by decide)
 have pc:∀{k:Nat} {s:Stt},Du t k s->k≤16->∀l∈s.loads,0≤l.n/\l.n≤((2^147:Nat):Int):=fun{k s} h hk l hl=>by
  have:=h.pcs l hl
  refine⟨this.1,?_⟩
  have e:(2:Int)^(131+k)≤((2^147:Nat):Int):=by
   have:(2:Nat)^(131+k)≤2^147:=Nat.pow_le_pow_right (by decide) (by omega)
   exact_mod_cast this
  omega
 have hb:200*(B*2^147)<2^3000:=by
  have:=Cq (show 200<2^8 by decide) (Cq hB hN)
  exact Nat.lt_of_lt_of_le this (Nat.pow_le_pow_right (by decide) (by decide))
 have nk:=Nat.lt_of_lt_of_le hN (Nat.pow_le_pow_right (show 0<2 by decide) (show 148≤3000 by decide))
 exact⟨G,B,2^147,3000,⟨g0,Nat.lt_of_le_of_lt gb hB',by decide,h1,pc i1 hal,hB',nk,hb,by have:=i1.len;omega⟩,⟨g0,Nat.lt_of_le_of_lt gb hB',by decide,h2,pc i2 h.len,hB',nk,hb,by have:=i2.len;omega⟩⟩
theorem Wa{f:Nat->List Rat}{P:Nat}(hP:1≤P)(hP4:P≤4)(hk:k≤20)(hf:∀p,p<P->(f p).length=k)(hs:∀kd,kd<k->Gg [.lst (((List.range P).map fun p=>(f p).getD kd 0).map aD)] S=some (aD ((List.range P).map fun p=>(f p).getD kd 0).sum,S)):
    FX [.tup ((List.range P).map fun p=>shD (f p))] S=some (.lst (((List.range k).map fun kd=>((List.range P).map fun p=>(f p).getD kd 0).sum).map aD),S):=by
  have e := Cu (gs := []) (t := tNm 1) (f := AJ Gg [(Cn [1] 1 (JR (eV 0)) (tNm 1) B3 (eOp (o2 wIx) [(eV 1), (eV 0)]))]) (C := [some (.tup ((List.range P).map fun p => shD (f p)))]) (m := 1) (e := fun kd : Nat => D.int kd) (g := fun kd => aD ((List.range P).map fun p => (f p).getD kd 0).sum) (S := S) Al (xs := List.range k) (acc := []) (os := [none]) rfl (Nat.le_trans (show _ ≤ 50 by simp; omega) (AW (by decide))) (by
    intro kd hkd os ho
    obtain⟨o1,rfl⟩:∃o1,os=[o1]:=by
      match os,ho with
      | [a],_=>exact⟨a,rfl⟩
    have hkd':kd<k:=by simpa using hkd
    have c:=Cu (gs:=[]) (t:=tNm 1) (f:=eOp (o2 wIx) [(eV 1),(eV 0)]) (C:=[some (.int kd)]) (m:=1) (e:=fun p:Nat=>shD (f p)) (g:=fun p=>aD ((f p).getD kd 0)) (S:=S) Al (xs:=List.range P) (acc:=[]) (os:=[none]) rfl (Nat.le_trans (show _≤50 by simp;omega) (AW (by decide))) (by
      intro p hp os ho
      obtain⟨o1,rfl⟩:∃o1,os=[o1]:=by
        match os,ho with
        | [a],_=>exact⟨a,rfl⟩
      have hl:kd<(f p).length:=by rw[hf p (by simpa using hp)];exact hkd'
      have a:atI ((f p).map aD) (kd:Int)=some (aD ((f p).getD kd 0)):=Cb (by
        rw[List.getElem?_map,List.getElem?_eq_getElem hl,List.getD_eq_getElem?_getD,List.getElem?_eq_getElem hl];rfl)
      refine⟨[some (shD (f p))],rfl,by simp,?_⟩
      simp[shD,a])
    have h1:=hs kd hkd'
    rw[show(List.range P).map (fun p=>aD ((f p).getD kd 0))=((List.range P).map fun p=>(f p).getD kd 0).map aD by rw[List.map_map];rfl]at c
    refine⟨[some (.int kd)],rfl,by simp,?_⟩
    simp only[List.cons_append,List.nil_append]at c⊢
    generalize ((List.range P).map fun p=>(f p).getD kd 0).map aD=V at*
    generalize aD ((List.range P).map fun p=>(f p).getD kd 0).sum=D1 at*
    generalize (List.range P).map (fun p=>shD (f p))=RW at*
    simp[UE,c,h1])
  have a0:atI ((List.range P).map fun p=>shD (f p)) 0=some (.tup ((f 0).map aD)):=by
    have:=Cb (xs:=(List.range P).map fun p=>shD (f p)) (n:=0) (x:=.tup ((f 0).map aD)) (by rw[List.getElem?_map,List.getElem?_range (by omega)];rfl)
    exact this
  have l0:((f 0).map aD).length=k:=by rw[List.length_map];exact hf 0 (by omega)
  have rk:Hx (k:Int)=true:=Dc (by omega) (by omega)
  rw[←Sx]at e
  simp only[List.cons_append,List.nil_append,Int.toNat_natCast]at e
  rw[List.map_map]
  rw[show((aD∘fun kd=>((List.range P).map fun p=>(f p).getD kd 0).sum))=fun kd=>aD ((List.range P).map fun p=>(f p).getD kd 0).sum from rfl]
  generalize (List.range k).map (fun kd=>aD ((List.range P).map fun p=>(f p).getD kd 0).sum)=W at*
  generalize (List.range P).map (fun p=>shD (f p))=RW at*
  generalize (f 0).map aD=F0 at*
  simp[FX,NI,a0,l0,rk,UE,e]
theorem SK(hk:kd<k):(B0 (AQ k L p) (AQ k A p)).getD kd 0=kindS L p kd-kindS A p kd:=by
 unfold B0 AQ
 rw[List.getD_eq_getElem?_getD,List.getElem?_zipWith,List.getElem?_map,List.getElem?_map,List.getElem?_range hk];rfl
theorem Qe(h:BJ t ls ds)(ho:Oa ls)(hl:ds.length≤14)(hi:i≤ds.length)(hc:DO t p q x):FX [.tup (EW t (runs t (st0 t ls) (DQ ds i (.sell p q x))).loads (runs t (st0 t ls) ds).loads)] S=some (.lst (List.replicate t.k (.tup [.int 0,.int 1])),S):=by
 obtain⟨t1,t2,t3,t4,t5,t6⟩:=h.tr
 obtain⟨G,B,N,K,bR,bA⟩:=Xl h hl hi hc
 have hI:=h.ins (i:=i) (by omega) hc
 have oA:=h.onesF ho
 have oR:=hI.onesF ho
 have wA:=h.fin.own
 have wR:=hI.fin.own
 have kn':=(Y0 (t:=t) (s:=st0 t ls) (ds:=ds) (i:=i) (p:=p) (q:=q) (x:=x)).kn
 generalize (runs t (st0 t ls) ds).loads=A at*
 generalize (runs t (st0 t ls) (DQ ds i (.sell p q x))).loads=R at*
 have tot:∀kd,((List.range t.p).map fun p=>kindS R p kd-kindS A p kd).sum=0:=fun kd=>by
  have e:(fun p=>kindS R p kd-kindS A p kd)=fun p=>kindS R p kd+(-1)*kindS A p kd:=by
   funext p;grind
  rw[e,sum_add,Qn,Kl wR oR,Kl wA oA,WG kn']
  grind
 have e1:∀kd,kd<t.k->(List.range t.p).map (fun p=>(B0 (AQ t.k R p) (AQ t.k A p)).getD kd 0)=(List.range t.p).map fun p=>kindS R p kd-kindS A p kd:=fun kd hk=>List.map_congr_left fun p _=>SK hk
 have:=Wa (S:=S) (f:=fun p=>B0 (AQ t.k R p) (AQ t.k A p)) (P:=t.p) (k:=t.k) t1 t2 (by omega) (fun p _=>by simp[AQ,B0]) (fun kd hk=>by
  rw[e1 kd hk]
  refine Ye (B:=30*(B*N)) bA.g0 bA.gK (by have:=bA.hK;omega) (fun r hr=>?_) ?_
  ·obtain⟨p,_,rfl⟩:=List.mem_map.mp hr
   exact bR.kind.subZ bA.kind
  ·have l1:((List.range t.p).map fun p=>kindS R p kd-kindS A p kd).length≤4:=by simpa using t2
   have:=Nat.mul_le_mul_right (30*(B*N)) l1
   have:=bA.hb
   omega)
 unfold EW
 rw[this,List.map_map]
 have er:List.replicate t.k (D.tup [.int 0,.int 1])=(List.range t.k).map fun _=>D.tup [.int 0,.int 1]:=by rw[List.map_const',List.length_range]
 rw[er]
 congr 3
 refine List.map_congr_left fun kd hk=>?_
 show aD ((List.range t.p).map fun p=>(B0 (AQ t.k R p) (AQ t.k A p)).getD kd 0).sum=_
 rw[e1 kd (by simpa using hk),tot,Kc]
end
@[simp] theorem au{f g h:Ev}{E:En}{S:Sto}:XC f g h E S=(f E S).bind fun r=>(g E r.2).bind fun q=>(h E q.2).bind fun w=>(sqD w.2 r.1).bind fun a=>(sqD w.2 q.1).bind fun b=>(sqD w.2 w.1).bind fun c=>if a.1.length≤b.1.length/\a.1.length≤c.1.length then some ((Jz a.1 b.1 c.1,a.2++(b.2++c.2)),w.2)else none:=by
  unfold XC
  cases e1:f E S with
  |none=>simp[evs,e1]
  | some r =>
    cases e2:g E r.2 with
    |none=>simp[evs,e1,e2]
    | some q =>
      cases e3:h E q.2 with
      |none=>simp[evs,e1,e2,e3]
      |some w=>simp[evs,e1,e2,e3]
section
variable{S:Sto}{t:Tr}{ls L A:List Ld}{ds:List AV}{n p i q k kd:Nat}{x:Rat}{s:Stt}
theorem Pa{α:Type}{u v w:α->D}:∀{xs:List α},Jz (xs.map u) (xs.map v) (xs.map w)=xs.map fun x=>D.tup [u x,v x,w x]
  | []=>rfl
  | x :: xs => by
    show D.tup [u x,v x,w x]::Jz (xs.map u) (xs.map v) (xs.map w)=_
    rw[Pa]
    rfl
theorem Uk{f g h:Nat->Rat}{j k l K:Nat}(hK:K≤50)(sf:∀i,i<K->Sz j (f i))(sg:∀i,i<K->Sz k (g i))(sh:∀i,i<K->Sz l (h i))(h1:j+k≤7990)(h2:l+j≤7990)(lo:∀i,i<K->g i≤f i)(hi:∀i,i<K->f i≤h i):
  Cy [.tup ((List.range K).map fun i=>aD (f i)),.tup ((List.range K).map fun i=>aD (g i)),.tup ((List.range K).map fun i=>aD (h i))] S=some (.bl true,S):=by
 obtain⟨E',S',ef,o3,o4,o5,_,rfl,rfl⟩:=ET (gs:=[]) (t:=tTp [(tNm 3),(tNm 4),(tNm 5)]) (b:=xIf (eOr (eOp (o2 wLt) [(eOp (o2 wIx) [(AJ Bh [(eV 3),(eV 4)]),(eC (.int 0))]),(eC (.int 0))]) (eOp (o2 wLt) [(eOp (o2 wIx) [(AJ Bh [(eV 5),(eV 3)]),(eC (.int 0))]),(eC (.int 0))])) (BR (eC (.bl false))) Dw)
  (I:=fun rs E S'=>∃(o3 o4 o5:Option D),(∀d∈rs,∃i:Nat,i<K/\d=.tup [aD (f i),aD (g i),aD (h i)])/\E=[some (.tup ((List.range K).map fun i=>aD (f i))),some (.tup ((List.range K).map fun i=>aD (g i))),some (.tup ((List.range K).map fun i=>aD (h i))),o3,o4,o5]/\S'=S)
  (fun _ _ _ _=>Al) (ds:=(List.range K).map fun i=>D.tup [aD (f i),aD (g i),aD (h i)]) (E:=[some (.tup ((List.range K).map fun i=>aD (f i))),some (.tup ((List.range K).map fun i=>aD (g i))),some (.tup ((List.range K).map fun i=>aD (h i))),none,none,none]) (S:=S)
  ⟨none,none,none,fun d hd=>by
   obtain⟨i,hi,rfl⟩:=List.mem_map.mp hd
   exact⟨i,by simpa using hi,rfl⟩,rfl,rfl⟩ (by
   rintro dd rs E T ⟨o3,o4,o5,i1,rfl,rfl⟩
   obtain⟨i,hK',rfl⟩:=i1 dd List.mem_cons_self
   have l1:=O9 (S:=T) (sf i hK') (sg i hK') h1
   have l2:=O9 (S:=T) (sh i hK') (sf i hK') h2
   have n1:¬(f i-g i).num<0:=by
    have:0≤f i-g i:=by have:=lo i hK';grind
    have:=Rat.num_nonneg.mpr this
    omega
   have n2:¬(h i-f i).num<0:=by
    have:0≤h i-f i:=by have:=hi i hK';grind
    have:=Rat.num_nonneg.mpr this
    omega
   refine⟨_,[some (.tup ((List.range K).map fun i=>aD (f i))),some (.tup ((List.range K).map fun i=>aD (g i))),some (.tup ((List.range K).map fun i=>aD (h i))),some (aD (f i)),some (aD (g i)),some (aD (h i))],T,by simp;rfl,?_,_,_,_,fun d hd=>i1 d (List.mem_cons_of_mem _ hd),rfl,rfl⟩
   have d1:∀r:Rat,dr T (aD r)=.val (aD r):=fun _=>rfl
   have w1:∀r:Rat,wIx (.val (aD r)) (.val (.int 0))=some (.val (.int r.num)):=fun r=>by simp[aD]
   generalize f i-g i=r1 at*
   generalize h i-f i=r2 at*
   generalize (List.range K).map (fun i=>aD (f i))=FF at*
   generalize (List.range K).map (fun i=>aD (g i))=GG at*
   generalize (List.range K).map (fun i=>aD (h i))=HH at*
   simp[l1,l2,d1,-TY,w1,n1,n2])
 have z:=Pa (u:=fun i=>aD (f i)) (v:=fun i=>aD (g i)) (w:=fun i=>aD (h i)) (xs:=List.range K)
 rw[←z]at ef
 have e1:((List.range K).map fun i=>aD (f i)).length=K:=by simp
 have e2:((List.range K).map fun i=>aD (g i)).length=K:=by simp
 have e3:((List.range K).map fun i=>aD (h i)).length=K:=by simp
 generalize (List.range K).map (fun i=>aD (f i))=FF at*
 generalize (List.range K).map (fun i=>aD (g i))=GG at*
 generalize (List.range K).map (fun i=>aD (h i))=HH at*
 simp[Cy,IG,e1,e2,e3,ef]
theorem Z7{rs:List Rat}{xs:List D}(hx:xs=rs.map aD)(hr:∀r∈rs,r=0)(hl:rs.length≤50):CM [] (tNm 0) B3 (eOp (o2 wIx) [(eV 0),(eC (.int 0))]) xs [] [none] S=some (List.replicate rs.length (.int 0),S):=by
 subst hx
 have e:=Cu (gs:=[]) (t:=tNm 0) (f:=eOp (o2 wIx) [(eV 0),(eC (.int 0))]) (C:=[]) (m:=1) (e:=aD) (g:=fun _=>D.int 0) (S:=S) Al (xs:=rs) (acc:=[]) (os:=[none]) rfl (Nat.le_trans (show _≤50 by simpa using hl) (AW (by decide))) (by
  intro r hx os ho
  obtain⟨o1,rfl⟩:∃o1,os=[o1]:=by
   match os,ho with
   | [a],_=>exact⟨a,rfl⟩
  refine⟨[some (aD r)],rfl,by simp,?_⟩
  rw[hr r hx,Kc]
  simp)
 rw[List.map_const']at e
 exact e
theorem Rc{k:Nat}{xs:List D}(hk:k≤50)(hx:xs=List.replicate k (.int 0)):Dx (.lst xs) (.lst (List.replicate k (.int 0)))=true/\deq (.lst xs) (.lst (List.replicate k (.int 0)))=true:=by
 subst hx
 have ly:(D.lst (List.replicate k (.int 0))).lay=true:=by
  have e:List.replicate k (D.int 0)=(List.range k).map fun _=>D.int 0:=by rw[List.map_const',List.length_range]
  rw[e]
  exact Fx fun _ _=>rfl
 exact⟨Lz ly (Nat.le_trans (eJ (n:=1) (by
  intro d hd
  rw[List.eq_of_mem_replicate hd]
  exact Hh (n:=0))) (by decide)),Oq ly⟩
end
section
variable{S:Sto}{t:Tr}{ls L A R:List Ld}{ds:List AV}{n p i q k kd r:Nat}{x:Rat}{s:Stt}
theorem Ov:B0 (AQ k R r) (AQ k A r)=(List.range k).map fun kd=>kindS R r kd-kindS A r kd:=by
 unfold B0 AQ
 rw[List.zipWith_map,List.zipWith_self]
theorem Y3:shD (B0 (AQ k R r) (AQ k A r))=.tup ((List.range k).map fun kd=>aD (kindS R r kd-kindS A r kd)):=by
 rw[Ov]
 show D.tup (((List.range k).map _).map aD)=_
 rw[List.map_map]
 rfl
theorem Oo(hr:r<t.p):atI (EW t R A) (r:Int)=some (shD (B0 (AQ t.k R r) (AQ t.k A r))):=Cb (by
 unfold EW
 rw[List.getElem?_map,List.getElem?_range hr]
 rfl)
theorem NY(h:BJ t ls ds)(hp:p<t.p):∃S',Ay [Aj t ls ds,.int ds.length,.int p] S=some (shD (AQ t.k (runs t (st0 t ls) ds).loads p),S')/\Ci [] S S':=by
 have:=fJ (S:=S) h (Nat.le_refl ds.length) hp
 rwa [List.take_length]at this
def RE:Ex:=(Af (PV 7 8 (AJ Ay [(eV 0),(eOp (o2 NH) [(eV 4),(eC (.int 1))]),(eV 6)]) (AJ Ay [(eV 3),(eV 4),(eV 6)]))
  (xIf (eOp (o2 wNe) [(eOp (o2 wIx) [(eV 5),(eV 6)]),(eOp (o1 C7) [(Cn [] 2 (Ub (eV 8) (eV 7)) (tTp [(tNm 0),(tNm 1)]) B3 (AJ Bh [(eV 0),(eV 1)]))])]) (BR (eC (.bl false))) Dw))
theorem Vr{es:List AV}(h:BJ t ls ds)(h':BJ t ls es)(he:es.length=ds.length+1)(hr:r<t.p){a1 a2 o7 o8 o9:Option D}:∃u7 u8 S',RE [some (Aj t ls ds),a1,a2,some (Aj t ls es),some (.int es.length),some (.tup (EW t (runs t (st0 t ls) es).loads (runs t (st0 t ls) ds).loads)),some (.int r),o7,o8,o9] S=some (.nx,[some (Aj t ls ds),a1,a2,some (Aj t ls es),some (.int es.length),some (.tup (EW t (runs t (st0 t ls) es).loads (runs t (st0 t ls) ds).loads)),some (.int r),u7,u8,o9],S')/\Ci [] S S':=by
 obtain⟨S1,e1,m1⟩:=NY (S:=S) h hr
 obtain⟨S2,e2,m2⟩:=NY (S:=S1) h' hr
 obtain⟨G,B,N,K,bd⟩:=h.fin.bd (by have:=h.len;omega)
 obtain⟨G',B',N',K',bd'⟩:=h'.fin.bd (by have:=h'.len;omega)
 obtain⟨t1,t2,t3,t4,t5,t6⟩:=id h.tr
 have ta:=Oo (t:=t) (R:=(runs t (st0 t ls) es).loads) (A:=(runs t (st0 t ls) ds).loads) hr
 have hm:(es.length:Int)-1=(ds.length:Int):=by omega
 generalize (runs t (st0 t ls) es).loads=R at*
 generalize (runs t (st0 t ls) ds).loads=A at*
 have zl:=Xa (S:=S2) (F:=Bh) (fun S h1 h2 h3=>O9 (S:=S) h1 h2 h3) (rs:=AQ t.k R r) (qs:=AQ t.k A r) (La bd' (k:=t.k) (p:=r)) (La bd (k:=t.k) (p:=r)) (by have:=bd.hK;have:=bd'.hK;omega) (by simp[AQ];omega)
 have k1:=Qj (rs:=B0 (AQ t.k R r) (AQ t.k A r))
 have k2:=T7 (rs:=B0 (AQ t.k R r) (AQ t.k A r))
 refine⟨some (shD (AQ t.k A r)),some (shD (AQ t.k R r)),S2,?_,m1.trans m2⟩
 have sq:∀T (rs:List Rat),sqD T (shD rs)=some (rs.map aD,[]):=fun _ _=>nr rfl
 have sd:∀T (rs:List Rat),dr T (shD rs)=.val (shD rs):=fun _ _=>rfl
 have se:shD (B0 (AQ t.k R r) (AQ t.k A r))=.tup ((B0 (AQ t.k R r) (AQ t.k A r)).map aD):=rfl
 simp only[Aj]at e1 e2⊢
 rw[se]at ta k1 k2
 generalize EW t R A=TD at*
 generalize (B0 (AQ t.k R r) (AQ t.k A r)).map aD=LD at*
 generalize AQ t.k R r=TR at*
 generalize AQ t.k A r=TA at*
 simp[RE,hm,e1,e2,ta,sq,zl,k1,k2]
def Ny:Ex:=(xIf (Ko (eOp (o2 (wIn true)) [(eV 6),(eOp (Ik true true) [(eV 2),(eC (.int 1)),(eC (.int 3))])]) (eOp (o2 wNe) [(Cn [] 1 (JR (eOp (o2 wIx) [(eV 5),(eV 6)])) (tNm 0) B3 (eOp (o2 wIx) [(eV 0),(eC (.int 0))])),(eOp (o2 Bx) [(Jh [(eC (.int 0))]),(eOp (o2 wIx) [(eOp (o2 wIx) [(eV 0),(eC (.int 0))]),(eC (.int 1))])])])) (BR (eC (.bl false))) Dw)
theorem Px(hk:k≤50):Bx (.val (.lst [.int 0])) (.val (.int (k:Int)))=some (.own (List.replicate k (.int 0))):=by
 have hs:k≤sizeLine:=AW (by omega)
 rw[KD,if_pos (by simp[hs];omega)]
 simp
theorem aE:wIn true (.val (.int (r:Int))) (.val (.tup [.int (p:Int),.int (q:Int)]))=some (.val (.bl (!(((p:Int)==r)||((q:Int)==r))))):=by
 have e:=N5 (us:=[(p:Int),(q:Int)]) (i:=(r:Int))
 have w:wIn true (.val (.int (r:Int))) (.val (.tup [.int (p:Int),.int (q:Int)]))=some (.val (.bl (!inD (.int (r:Int)) [.int (p:Int),.int (q:Int)]))):=nr rfl
 rw[w]
 simp only[List.map_cons,List.map_nil]at e
 rw[e]
 simp
theorem VX(hk:t.k≤50)(hr:r<t.p)(hz:r≠p->r≠q->∀kd,kindS R r kd=kindS A r kd){u v:D}{a1 a3 a4 o7 o8 o9:Option D}:Ny [some (.tup [t.d,u,v]),a1,some (AV.sell p q x).d,a3,a4,some (.tup (EW t R A)),some (.int r),o7,o8,o9] S=some (.nx,[some (.tup [t.d,u,v]),a1,some (AV.sell p q x).d,a3,a4,some (.tup (EW t R A)),some (.int r),o7,o8,o9],S):=by
 have ct:KU [D.str "sell",.int p,.int q,aD x] (some 1) (some 3)=[.int p,.int q]:=nr rfl
 have ta:=Oo (t:=t) (R:=R) (A:=A) hr
 have mz:=Px hk
 have as1:asS (.val t.d)=some [.int t.p,.int t.k,.int t.b,shD t.ho,.int t.h,.int t.l]:=rfl
 have dt:∀T,dr T t.d=.val t.d:=fun _=>rfl
 have tc:r≠p->r≠q->CM [] (tNm 0) B3 (eOp (o2 wIx) [(eV 0),(eC (.int 0))]) ((B0 (AQ t.k R r) (AQ t.k A r)).map aD) [] [none] S=some (List.replicate t.k (.int 0),S):=fun h1 h2=>by
  have:=Z7 (S:=S) (rs:=B0 (AQ t.k R r) (AQ t.k A r)) rfl (fun y hy=>by
   rw[Ov]at hy
   obtain⟨kd,_,rfl⟩:=List.mem_map.mp hy
   rw[hz h1 h2 kd]
   grind) (by simp[B0,AQ];omega)
  rw[show(B0 (AQ t.k R r) (AQ t.k A r)).length=t.k by simp[B0,AQ]]at this
  exact this
 have zn:=Rc (k:=t.k) hk rfl
 have sq:∀T (rs:List Rat),sqD T (shD rs)=some (rs.map aD,[]):=fun _ _=>nr rfl
 generalize EW t R A=TD at*
 simp only[AV.d]
 have iw:=aE (p:=p) (q:=q) (r:=r)
 by_cases h1:p=r
 ·have b1:((p:Int)==(r:Int))=true:=by simp;omega
  rw[b1]at iw
  simp[Ny,ct,iw]
 ·by_cases h2:q=r
  ·have b2:((q:Int)==(r:Int))=true:=by simp;omega
   rw[b2]at iw
   simp[Ny,ct,iw]
  ·have tc:=tc (Ne.symm h1) (Ne.symm h2)
   have b1:((p:Int)==(r:Int))=false:=by simp;omega
   have b2:((q:Int)==(r:Int))=false:=by simp;omega
   rw[b1,b2]at iw
   generalize B0 (AQ t.k R r) (AQ t.k A r)=LR at*
   simp[Ny,ct,iw,ta,sq,tc,as1,dt,-KD,mz,zn.1,zn.2]
end
@[simp] theorem du:wIn false (.val (.str "bring")) (.val (.tup [.str "throw",.str "sell"]))=some (.val (.bl false)):=nr rfl
@[simp] theorem gQ:wIn false (.val (.str "pool")) (.val (.tup [.str "throw",.str "sell"]))=some (.val (.bl false)):=nr rfl
@[simp] theorem gr:wIn false (.val (.str "swap")) (.val (.tup [.str "throw",.str "sell"]))=some (.val (.bl false)):=nr rfl
@[simp] theorem eW:wIn false (.val (.str "trade")) (.val (.tup [.str "throw",.str "sell"]))=some (.val (.bl false)):=nr rfl
@[simp] theorem dy:wIn false (.val (.str "spoil")) (.val (.tup [.str "throw",.str "sell"]))=some (.val (.bl false)):=nr rfl
@[simp] theorem f9:wIn false (.val (.str "throw")) (.val (.tup [.str "throw",.str "sell"]))=some (.val (.bl true)):=nr rfl
@[simp] theorem hZ:wIn false (.val (.str "sell")) (.val (.tup [.str "throw",.str "sell"]))=some (.val (.bl true)):=nr rfl
section
variable{S:Sto}{t:Tr}{ls L A R:List Ld}{ds:List AV}{n p i q k kd r:Nat}{x:Rat}{s:Stt}
theorem ne_nil{xs:List D}(h:D.lays xs=true):wNe (.val (.lst xs)) (.val (.lst []))=some (.val (.bl (!xs.isEmpty))):=by
 rw[Uh,YH,YH,if_pos (RZ h)]
 cases xs<;>rfl
theorem bf(hl:ds.length≤40):CM [] (tNm 0) (eOp (o2 (wIn false)) [(eOp (o2 wIx) [(eV 0),(eC (.int 0))]),(Bc [(eC (.str "throw")),(eC (.str "sell"))])]) (eV 0) (ds.map AV.d) [] [none] S=some ((ds.filter fun d=> !quiet d).map AV.d,S):=
 Fg (gs:=[]) (t:=tNm 0) (c:=eOp (o2 (wIn false)) [(eOp (o2 wIx) [(eV 0),(eC (.int 0))]),(Bc [(eC (.str "throw")),(eC (.str "sell"))])]) (f:=eV 0) (C:=[]) (m:=1) (e:=AV.d) (g:=AV.d) (b:=fun d=> !quiet d) (S:=S) Al (xs:=ds) (acc:=[]) (os:=[none]) rfl (Nat.le_trans (show _≤50 by simp;omega) (AW (by decide))) (by
  intro d hx os ho
  obtain⟨o1,rfl⟩:∃o1,os=[o1]:=by
   match os,ho with
   | [a],_=>exact⟨a,rfl⟩
  exact⟨[some d.d],rfl,by simp,by cases d<;>simp[AV.d,quiet],by simp⟩)
theorem Ok.ge{G B:Nat}{r:Rat}(hG:0<G)(h:Ok G B r):0≤r:=by
 obtain⟨z,e,_⟩:=h
 have hg:(0:Rat)<(G:Rat):=by exact_mod_cast hG
 have hz:(0:Rat)≤(z:Rat):=by exact_mod_cast Nat.zero_le z
 rw[←e]at hz
 exact Rat.le_of_mul_le_mul_right (by rw[Rat.zero_mul];exact hz) hg
theorem DO.ge(h:DO t p q x):0≤x:=Rat.num_nonneg.mp (Int.le_of_lt h.2.2.2.1)
theorem DO.sz(h:DO t p q x):Sz 4 x:=⟨by have:=h.2.2.2;omega,by have:=h.2.2.2;omega⟩
theorem Ts(h:Du t k s)(hc:DO t p q x):Paired (LdS p q x) (step t s (.sell p q x)).loads s.loads:=by
 obtain⟨G,B,g0,gb,b,h1,_⟩:=h.gb
 refine Vj fun y hy=>⟨rfl,rfl,W3 hc.1 (by rw[h.own y hy];exact hc.2.2.1) hc.ge ?_⟩
 have hp:p<y.ow.length:=by rw[h.own y hy];exact hc.2.1
 exact(h1 y hy _ (getD_mem (d:=0) hp)).ge g0
theorem Ri(h:BJ t ls ds)(hl:ds.length≤15)(hi:i≤ds.length)(hc:DO t p q x)(hq:∀d∈ds.drop i,quiet d=true):Paired (LdS p q x) (runs t (st0 t ls) (DQ ds i (.sell p q x))).loads (runs t (st0 t ls) ds).loads:=by
 have inv:=h.at i
 have li:(ds.take i).length=i:=by simp;omega
 rw[li]at inv
 rw[Ip,OW (ds:=ds) (i:=i)]
 have g:=h.good
 rw[←List.take_append_drop i ds,G3]at g
 have hc':Can t (runs t (st0 t ls) (ds.take i)) (.sell p q x):=hc
 exact QH h.tr hc.ge (ds:=ds.drop i) (k:=i) (k':=i+1) inv (Fz h.tr inv (by omega) hc') (by simp;omega) (by simp;omega) Ih g.2 hq (Ts inv hc)
theorem Xd{K:Nat}(hx:Sz 4 x)(hs:∀kd,Sz K (kindS A p kd))(hK:K≤7000)(hk:k≤40){u v w:D}:CM [] (tNm 1) B3 (AJ Ak [(eV 1),(eOp (o2 wIx) [(eV 0),(eC (.int 3))])]) ((AQ k A p).map aD) [] [some (.tup [u,v,w,aD x]),none] S=some ((List.range k).map fun kd=>aD (kindS A p kd*x),S):=by
 have e:=Cu (gs:=[]) (t:=tNm 1) (f:=AJ Ak [(eV 1),(eOp (o2 wIx) [(eV 0),(eC (.int 3))])]) (C:=[some (.tup [u,v,w,aD x])]) (m:=1) (e:=fun kd=>aD (kindS A p kd)) (g:=fun kd=>aD (kindS A p kd*x)) (S:=S) Al (xs:=List.range k) (acc:=[]) (os:=[none]) rfl (Nat.le_trans (show _≤50 by simp;omega) (AW (by decide))) (by
  intro kd hx' os ho
  obtain⟨o1,rfl⟩:∃o1,os=[o1]:=by
   match os,ho with
   | [a],_=>exact⟨a,rfl⟩
  have l:=JO (S:=S) (hs kd) hx (by omega)
  refine⟨[some (aD (kindS A p kd))],rfl,by simp,?_⟩
  have dx:dr S (aD x)=.val (aD x):=rfl
  generalize aD (kindS A p kd*x)=D1 at*
  generalize aD (kindS A p kd)=D2 at*
  generalize aD x=D3 at*
  simp[l,dx])
 have:(AQ k A p).map aD=(List.range k).map fun kd=>aD (kindS A p kd):=by
  unfold AQ
  rw[List.map_map]
  rfl
 rw[this]
 exact e
theorem WW(h1:1≤k)(hk:k≤50):Bx (.val (.tup [.tup [.int 0,.int 1]])) (.val (.int (k:Int)))=some (.val (.tup ((List.range k).map fun _=>aD 0))):=by
 have hs:k≤sizeLine:=AW (by omega)
 rw[RD,if_neg (by simp;omega),if_pos (by simp[hs];omega)]
 rw[List.map_const',List.length_range,Kc]
 simp
def ZU:Ex:=(xIf (eOr (eOp (o2 wNe) [(AJ GW [(eV 3),(eV 1)]),(eV 0)]) (eOp (o2 wNe) [(Cn [] 1 (JR (AJ FX [(eV 5)])) (tNm 0) B3 (eOp (o2 wIx) [(eV 0),(eC (.int 0))])),(eOp (o2 Bx) [(Jh [(eC (.int 0))]),(eOp (o2 wIx) [(eOp (o2 wIx) [(eV 0),(eC (.int 0))]),(eC (.int 1))])])])) (BR (eC (.bl false))) Dw)
def UR:Ex:=(xIf (eOp (o2 wNe) [(Cn [] 1 (JR (eOp (Ik true false) [(eOp (o2 wIx) [(eV 0),(eC (.int 2))]),(eV 1)])) (tNm 0) (eOp (o2 (wIn false)) [(eOp (o2 wIx) [(eV 0),(eC (.int 0))]),(Bc [(eC (.str "throw")),(eC (.str "sell"))])]) (eV 0)),(Jh [])]) (BR (eC (.bl true))) Dw)
def ZF:Ex:=(Af (Bp 7 (AJ Ay [(eV 0),(eOp (o2 NH) [(eV 4),(eC (.int 1))]),(eOp (o2 wIx) [(eV 2),(eC (.int 1))])]))
  (Af (Bp 9 (eOp (o1 C7) [(Cn [2] 1 (JR (eV 7)) (tNm 1) B3 (AJ Ak [(eV 1),(eOp (o2 wIx) [(eV 0),(eC (.int 3))])]))]))
  (BR (AJ Cy [(eOp (o2 wIx) [(eV 5),(eOp (o2 wIx) [(eV 2),(eC (.int 2))])]),(eOp (o2 Bx) [(Bc [(Bc [(eC (.int 0)),(eC (.int 1))])]),(eOp (o2 wIx) [(eOp (o2 wIx) [(eV 0),(eC (.int 0))]),(eC (.int 1))])]),(eV 9)]))))
theorem Yo(h:BJ t ls ds)(ho:Oa ls)(hl:ds.length≤14)(hi:i≤ds.length)(hc:DO t p q x){a2 a4 a6 a7 a8 a9:Option D}:ZU [some (Aj t ls ds),some (.int i),a2,some (Aj t ls (DQ ds i (.sell p q x))),a4,some (.tup (EW t (runs t (st0 t ls) (DQ ds i (.sell p q x))).loads (runs t (st0 t ls) ds).loads)),a6,a7,a8,a9] S=some (.nx,[some (Aj t ls ds),some (.int i),a2,some (Aj t ls (DQ ds i (.sell p q x))),a4,some (.tup (EW t (runs t (st0 t ls) (DQ ds i (.sell p q x))).loads (runs t (st0 t ls) ds).loads)),a6,a7,a8,a9],S):=by
 obtain⟨t1,t2,t3,t4,t5,t6⟩:=id h.tr
 have hI:=h.ins (i:=i) (by omega) hc
 have us:=UG (S:=S) hI (X0 hi)
 rw[PL hi]at us
 have k1:=UN (t:=t) (ls:=ls) (ds:=ds)
 have k2:=Wx (t:=t) (ls:=ls) (ds:=ds)
 have ts:=Qe (S:=S) h ho hl hi hc
 have tc:=Z7 (S:=S) (rs:=List.replicate t.k 0) (xs:=List.replicate t.k (.tup [.int 0,.int 1])) (by rw[List.map_replicate,Kc]) (fun r hr=>List.eq_of_mem_replicate hr) (by simp;omega)
 rw[List.length_replicate]at tc
 have mz:=Px (k:=t.k) (by omega)
 have zn:=Rc (k:=t.k) (by omega) rfl
 have as1:asS (.val t.d)=some [.int t.p,.int t.k,.int t.b,shD t.ho,.int t.h,.int t.l]:=rfl
 have dt:∀T,dr T t.d=.val t.d:=fun _=>rfl
 simp only[Aj]at us k1 k2⊢
 generalize EW t (runs t (st0 t ls) (DQ ds i (.sell p q x))).loads (runs t (st0 t ls) ds).loads=TD at*
 generalize List.replicate t.k (D.tup [.int 0,.int 1])=ZS at*
 simp[ZU,us,k1,k2,ts,tc,as1,dt,-KD,mz,zn.1,zn.2]
theorem WQ(hl:ds.length≤40)(hi:i≤ds.length){u v:D}{a2 a3 a4 a5 a6 a7 a8 a9:Option D}:UR [some (.tup [u,v,.tup (ds.map AV.d)]),some (.int i),a2,a3,a4,a5,a6,a7,a8,a9] S=some (if((ds.drop i).filter fun d=> !quiet d).isEmpty then .nx else .ret (.bl true),[some (.tup [u,v,.tup (ds.map AV.d)]),some (.int i),a2,a3,a4,a5,a6,a7,a8,a9],S):=by
 have c2:=LQ (ds:=ds.map AV.d) (n:=i) (by simpa using hi)
 have qc:=bf (S:=S) (ds:=ds.drop i) (by simp;omega)
 rw[List.map_drop]at qc
 have nn:=ne_nil (xs:=((ds.drop i).filter fun d=> !quiet d).map AV.d) (Fx fun _ _=>RF)
 have ie:(((ds.drop i).filter fun d=> !quiet d).map AV.d).isEmpty=((ds.drop i).filter fun d=> !quiet d).isEmpty:=by
  cases (ds.drop i).filter fun d=> !quiet d<;>rfl
 rw[ie]at nn
 generalize ((ds.drop i).filter fun d=> !quiet d).map AV.d=Z at*
 generalize ((ds.drop i).filter fun d=> !quiet d).isEmpty=b at*
 cases b<;>simp[UR,c2,qc,-Uh,nn]
end
section
variable{S:Sto}{t:Tr}{ls L A R:List Ld}{ds:List AV}{n p i q k kd r:Nat}{x:Rat}{s:Stt}
theorem NV(h:BJ t ls ds)(hl:ds.length≤15)(hi:i≤ds.length)(hc:DO t p q x):∃S',Cg [Aj t ls (DQ ds i (.sell p q x)),.int i] S=some (.tup (EW t (runs t (st0 t ls) (DQ ds i (.sell p q x))).loads (runs t (st0 t ls) ds).loads),S')/\Ci [] S S':=by
 have:=Th (S:=S) (h.ins (i:=i) hl hc) (X0 hi)
 rwa [PL hi]at this
theorem TV(h:BJ t ls ds)(hl:ds.length≤14)(hi:i≤ds.length)(hc:DO t p q x)(hq:∀d∈ds.drop i,quiet d=true){a1 a3 a6 a7 a8 a9:Option D}:∃E' S',ZF [some (Aj t ls ds),a1,some (AV.sell p q x).d,a3,some (.int (ds.length+1:Nat)),some (.tup (EW t (runs t (st0 t ls) (DQ ds i (.sell p q x))).loads (runs t (st0 t ls) ds).loads)),a6,a7,a8,a9] S=some (.ret (.bl true),E',S')/\Ci [] S S':=by
 obtain⟨t1,t2,t3,t4,t5,t6⟩:=id h.tr
 obtain⟨S1,e1,m1⟩:=NY (S:=S) h hc.2.1
 obtain⟨G,B,N,K,bR,bA⟩:=Xl h hl hi hc
 have pr:=Ri h (by omega) hi hc hq
 have pn:∀l∈(runs t (st0 t ls) ds).loads,0≤l.n:=fun l hl=>(h.fin.pcs l hl).1
 have hm:((ds.length+1:Nat):Int)-1=(ds.length:Int):=by omega
 generalize (runs t (st0 t ls) (DQ ds i (.sell p q x))).loads=R at*
 generalize (runs t (st0 t ls) ds).loads=A at*
 have ks:=fun kd=>MO (kd:=kd) pr pn
 have bK:=bA.hK
 have bb:=bA.hb
 have sA:∀kd,Sz K (kindS A p kd):=fun kd=>bA.kind.sz bA.g0 bA.gK (by omega)
 have tc:=Xd (S:=S1) (A:=A) (p:=p) (k:=t.k) hc.sz sA (by omega) (by omega) (u:=.str "sell") (v:=.int p) (w:=.int q)
 have ta:=Oo (t:=t) (R:=R) (A:=A) hc.2.2.1
 rw[Y3]at ta
 have ml:=WW (k:=t.k) (by omega) (by omega)
 have wi:=Uk (S:=S1) (f:=fun kd=>kindS R q kd-kindS A q kd) (g:=fun _=>0) (h:=fun kd=>kindS A p kd*x) (j:=K) (k:=1) (l:=K+4) (K:=t.k) (by omega) (fun kd _=>(bR.kind.subZ bA.kind).sz bA.g0 bA.gK (by omega)) (fun _ _=>⟨by decide,by decide⟩) (fun kd _=>Lg (sA kd) hc.sz) (by omega) (by omega) (fun kd _=>by have:=(ks kd).2.1;grind) (fun kd _=>by have:=(ks kd).2.2;grind)
 have as1:asS (.val t.d)=some [.int t.p,.int t.k,.int t.b,shD t.ho,.int t.h,.int t.l]:=rfl
 have dt:∀T,dr T t.d=.val t.d:=fun _=>rfl
 have sq:∀T (rs:List Rat),sqD T (shD rs)=some (rs.map aD,[]):=fun _ _=>nr rfl
 refine⟨[some (Aj t ls ds),a1,some (AV.sell p q x).d,a3,some (.int (ds.length+1:Nat)),some (.tup (EW t R A)),a6,some (shD (AQ t.k A p)),a8,some (.tup ((List.range t.k).map fun kd=>aD (kindS A p kd*x)))],S1,?_,m1⟩
 simp only[Aj,AV.d]at e1⊢
 generalize EW t R A=TD at*
 generalize (List.range t.k).map (fun kd=>aD (kindS R q kd-kindS A q kd))=FF at*
 generalize (List.range t.k).map (fun kd=>aD (kindS A p kd*x))=HH at*
 generalize (List.range t.k).map (fun _=>aD 0)=GG at*
 generalize AQ t.k A p=TA at*
 generalize aD x=DX at*
 simp[ZF,hm,e1,sq,UE,tc,ta,as1,dt,-RD,ml,wi]
theorem Lh(h:BJ t ls ds)(ho:Oa ls)(hl:ds.length≤14)(hi:i≤ds.length)(hc:DO t p q x):∃S',Bm [Aj t ls ds,.int i,(AV.sell p q x).d] S=some (.bl true,S')/\Ci [] S S':=by
  obtain⟨t1,t2,t3,t4,t5,t6⟩:=id h.tr
  have hI:=h.ins (i:=i) (by omega) hc
  have wi:=MI (S:=S) (t:=t) (ls:=ls) (d:=.sell p q x) hi (by omega)
  obtain⟨S1,e1,m1⟩:=NV (S:=S) h (by omega) hi hc
  have hlen:(DQ ds i (.sell p q x)).length=ds.length+1:=UL hi
  have rn:Hx (t.p:Int)=true:=Dc (by omega) (by omega)
  have te:=fun{a2 a4 a6 a7 a8 a9:Option D}=>Yo (S:=S1) h ho hl hi hc (a2:=a2) (a4:=a4) (a6:=a6) (a7:=a7) (a8:=a8) (a9:=a9)
  obtain⟨E2,S2,f1,u6,u7,u8,_,rfl,m2⟩:=ET (gs:=[]) (t:=tNm 6) (b:=RE)
    (I:=fun rs E S'=>∃(u6 u7 u8:Option D),(∀d∈rs,∃r:Nat,d=.int r/\r<t.p)/\E=[some (Aj t ls ds),some (.int i),some (AV.sell p q x).d,some (Aj t ls (DQ ds i (.sell p q x))),some (.int (DQ ds i (.sell p q x)).length),some (.tup (EW t (runs t (st0 t ls) (DQ ds i (.sell p q x))).loads (runs t (st0 t ls) ds).loads)),u6,u7,u8,none]/\Ci [] S S')
    (fun _ _ _ _=>Al) (ds:=LM 0 t.p) (E:=[some (Aj t ls ds),some (.int i),some (AV.sell p q x).d,some (Aj t ls (DQ ds i (.sell p q x))),some (.int (DQ ds i (.sell p q x)).length),some (.tup (EW t (runs t (st0 t ls) (DQ ds i (.sell p q x))).loads (runs t (st0 t ls) ds).loads)),none,none,none,none]) (S:=S1)
    ⟨none,none,none,by
      intro d hd
      obtain⟨r,hr,rfl⟩:=List.mem_map.mp hd
      exact⟨r,by simp,by simpa using hr⟩,rfl,m1⟩ (by
      rintro dd rs E T ⟨u6,u7,u8,i1,rfl,i2⟩
      obtain⟨r,rfl,hr⟩:=i1 dd List.mem_cons_self
      obtain⟨v7,v8,T2,e,i3⟩:=Vr (S:=T) h hI hlen hr (a1:=some (.int i)) (a2:=some (AV.sell p q x).d) (o7:=u7) (o8:=u8) (o9:=none)
      exact⟨_,_,T2,by simp,e,some (.int r),v7,v8,fun d hd=>i1 d (List.mem_cons_of_mem _ hd),rfl,i2.trans i3⟩)
  have ea:=fun{a2 a3 a4 a5 a6 a7 a8 a9:Option D}=>WQ (S:=S2) (ds:=ds) (i:=i) (by omega) hi (u:=t.d) (v:=.tup (ls.map Ld.d)) (a2:=a2) (a3:=a3) (a4:=a4) (a5:=a5) (a6:=a6) (a7:=a7) (a8:=a8) (a9:=a9)
  have eb:GI=(Af (Bp 3 (AJ DK [(eV 0),(eV 1),(eV 2)]))
    (Af (PV 4 5 (eOp (o1 Hj) [(eOp (o2 wIx) [(eV 3),(eC (.int 2))])]) (AJ Cg [(eV 3),(eV 1)]))
    (Af ZU
    (Af (Mp (Mq [(eOp (o2 wIx) [(eOp (o2 wIx) [(eV 0),(eC (.int 0))]),(eC (.int 0))])]) (tNm 6) RE)
    (Af UR
    (Af (Mp (Mq [(eOp (o2 wIx) [(eOp (o2 wIx) [(eV 0),(eC (.int 0))]),(eC (.int 0))])]) (tNm 6) Ny)
    ZF)))))):=rfl
  have as1:asS (.val t.d)=some [.int t.p,.int t.k,.int t.b,shD t.ho,.int t.h,.int t.l]:=rfl
  have dt:∀T,dr T t.d=.val t.d:=fun _=>rfl
  have nl:((DQ ds i (.sell p q x)).map AV.d).length=(DQ ds i (.sell p q x)).length:=by simp
  have d5:∀T,dr T (AV.sell p q x).d=.val (AV.sell p q x).d:=fun _=>rfl
  cases hb:((ds.drop i).filter fun d=> !quiet d).isEmpty with
  | false =>
    rw[hb]at ea
    refine⟨S2,?_,m2⟩
    unfold Bm
    rw[eb]
    simp only[Aj]at wi e1 te f1⊢
    generalize (AV.sell p q x).d=SD at*
    generalize EW t (runs t (st0 t ls) (DQ ds i (.sell p q x))).loads (runs t (st0 t ls) ds).loads=TD at*
    generalize (DQ ds i (.sell p q x)).length=ML at*
    generalize (DQ ds i (.sell p q x)).map AV.d=MD at*
    simp[wi,nl,e1,te,as1,dt,rn,f1,ea]
  | true =>
    rw[hb]at ea
    have hq:∀d∈ds.drop i,quiet d=true:=fun d hd=>by
      rw[List.isEmpty_iff,List.filter_eq_nil_iff]at hb
      have:=hb d hd
      simpa using this
    have pr:=Ri h (by omega) hi hc hq
    have pn:∀l∈(runs t (st0 t ls) ds).loads,0≤l.n:=fun l hl=>(h.fin.pcs l hl).1
    have ks:=fun kd=>MO (kd:=kd) pr pn
    obtain⟨E3,S3,f2,v6,_,rfl,rfl⟩:=ET (gs:=[]) (t:=tNm 6) (b:=Ny)
      (I:=fun rs E S'=>∃(v6:Option D),(∀d∈rs,∃r:Nat,d=.int r/\r<t.p)/\E=[some (Aj t ls ds),some (.int i),some (AV.sell p q x).d,some (Aj t ls (DQ ds i (.sell p q x))),some (.int (DQ ds i (.sell p q x)).length),some (.tup (EW t (runs t (st0 t ls) (DQ ds i (.sell p q x))).loads (runs t (st0 t ls) ds).loads)),v6,u7,u8,none]/\S'=S2)
      (fun _ _ _ _=>Al) (ds:=LM 0 t.p) (E:=[some (Aj t ls ds),some (.int i),some (AV.sell p q x).d,some (Aj t ls (DQ ds i (.sell p q x))),some (.int (DQ ds i (.sell p q x)).length),some (.tup (EW t (runs t (st0 t ls) (DQ ds i (.sell p q x))).loads (runs t (st0 t ls) ds).loads)),u6,u7,u8,none]) (S:=S2)
      ⟨u6,by
        intro d hd
        obtain⟨r,hr,rfl⟩:=List.mem_map.mp hd
        exact⟨r,by simp,by simpa using hr⟩,rfl,rfl⟩ (by
        rintro dd rs E T ⟨v6,i1,rfl,rfl⟩
        obtain⟨r,rfl,hr⟩:=i1 dd List.mem_cons_self
        have e:=VX (S:=T) (t:=t) (R:=(runs t (st0 t ls) (DQ ds i (.sell p q x))).loads) (A:=(runs t (st0 t ls) ds).loads) (p:=p) (q:=q) (x:=x) (by omega) hr (fun h1 h2 kd=>(ks kd).1 r h1 h2) (u:=.tup (ls.map Ld.d)) (v:=.tup (ds.map AV.d)) (a1:=some (.int i)) (a3:=some (Aj t ls (DQ ds i (.sell p q x)))) (a4:=some (.int (DQ ds i (.sell p q x)).length)) (o7:=u7) (o8:=u8) (o9:=none)
        exact⟨_,_,T,by simp;rfl,e,some (.int r),fun d hd=>i1 d (List.mem_cons_of_mem _ hd),rfl,rfl⟩)
    obtain⟨E4,S4,e4,m4⟩:=TV (S:=S3) h hl hi hc hq (a1:=some (.int i)) (a3:=some (Aj t ls (DQ ds i (.sell p q x)))) (a6:=v6) (a7:=u7) (a8:=u8) (a9:=none)
    rw[←hlen]at e4
    refine⟨S4,?_,m2.trans m4⟩
    unfold Bm
    rw[eb]
    simp only[Aj]at wi e1 te f1 f2 e4⊢
    generalize (AV.sell p q x).d=SD at*
    generalize EW t (runs t (st0 t ls) (DQ ds i (.sell p q x))).loads (runs t (st0 t ls) ds).loads=TD at*
    generalize (DQ ds i (.sell p q x)).length=ML at*
    generalize (DQ ds i (.sell p q x)).map AV.d=MD at*
    simp[wi,nl,e1,te,as1,dt,rn,f1,ea,f2,e4]
end
section
variable{S:Sto}{t:Tr}{ls L A R:List Ld}{ds:List AV}{n p i q k kd r:Nat}{x:Rat}{s:Stt}
theorem Pp(hpq:p≠q):∀{L:List Ld},(∀l∈L,q<l.ow.length)->kindS (L.map fun y=>{y with ow:=B8 p q x y.ow}) q kd=kindS L q kd+kindS L p kd*x
  | [],_=>by
    show(0:Rat)=0+0*x
    grind
  | y :: L, h => by
    have ih:=Pp hpq (L:=L) fun l hl=>h l (List.mem_cons_of_mem _ hl)
    rw[List.map_cons,FP,FP,FP,ih]
    have e:ownAt {y with ow:=B8 p q x y.ow} q=ownAt y q+ownAt y p*x:=FL (by simpa using h y List.mem_cons_self)
    rw[e]
    show(if y.k=kd then(y.n:Rat)*_ else 0)+_=_
    split<;>grind
theorem OG(h:BJ t ls ds)(hl:ds.length≤14)(hc:DO t p q x):∃S',Cj [Aj t ls ds,(AV.sell p q x).d] S=some (.bl true,S')/\Ci [] S S':=by
 obtain⟨t1,t2,t3,t4,t5,t6⟩:=id h.tr
 have wi:=MI (S:=S) (t:=t) (ls:=ls) (d:=.sell p q x) (Nat.le_refl ds.length) (by omega)
 obtain⟨S1,e1,m1⟩:=NY (S:=S) h hc.2.1
 obtain⟨S2,e2,m2⟩:=NV (S:=S1) (i:=ds.length) h (by omega) (Nat.le_refl _) hc
 obtain⟨G,B,N,K,bA⟩:=h.fin.bd h.len
 have eR:(runs t (st0 t ls) (DQ ds ds.length (.sell p q x))).loads=(runs t (st0 t ls) ds).loads.map fun y=>{y with ow:=B8 p q x y.ow}:=by
  rw[Ip,List.take_length,List.drop_length]
  rfl
 have ow:=h.fin.own
 rw[eR]at e2
 have kl:=fun kd=>Pp (x:=x) (kd:=kd) hc.1 (L:=(runs t (st0 t ls) ds).loads) fun l hl=>by rw[ow l hl];exact hc.2.2.1
 generalize (runs t (st0 t ls) ds).loads=A at*
 generalize (A.map fun y=>{y with ow:=B8 p q x y.ow})=R at*
 have bK:=bA.hK
 have bb:=bA.hb
 have sA:∀kd,Sz K (kindS A p kd):=fun kd=>bA.kind.sz bA.g0 bA.gK (by omega)
 have tc:=Xd (S:=S2) (A:=A) (p:=p) (k:=t.k) hc.sz sA (by omega) (by omega) (u:=.str "sell") (v:=.int p) (w:=.int q)
 have ta:=Oo (t:=t) (R:=R) (A:=A) hc.2.2.1
 have ee:(fun kd=>kindS R q kd-kindS A q kd)=fun kd=>kindS A p kd*x:=by
  funext kd
  rw[kl kd]
  grind
 have sh:shD (B0 (AQ t.k R q) (AQ t.k A q))=.tup ((List.range t.k).map fun kd=>aD (kindS A p kd*x)):=by
  rw[Ov,ee]
  show D.tup (((List.range t.k).map _).map aD)=_
  rw[List.map_map]
  rfl
 have k1:=Qj (rs:=B0 (AQ t.k R q) (AQ t.k A q))
 have k2:=T7 (rs:=B0 (AQ t.k R q) (AQ t.k A q))
 rw[sh]at ta k1 k2
 have sq:∀T (rs:List Rat),sqD T (shD rs)=some (rs.map aD,[]):=fun _ _=>nr rfl
 refine⟨S2,?_,m1.trans m2⟩
 have nl:(ds.map AV.d).length=ds.length:=by simp
 simp only[Aj,AV.d]at wi e1 e2⊢
 generalize EW t R A=TD at*
 generalize (List.range t.k).map (fun kd=>aD (kindS A p kd*x))=HH at*
 generalize AQ t.k A p=TA at*
 generalize (DQ ds ds.length (.sell p q x)).map AV.d=MD at*
 generalize ds.map AV.d=DD at*
 generalize aD x=DX at*
 simp[Cj,Hc,nl,wi,e1,e2,ta,sq,UE,tc,k1,k2]
theorem Q0{a:List Rat}{x1 x2 x3:Rat}(hpq:p≠q)(hp:p<a.length)(hq:q<a.length)(hx:x1+x2-x1*x2=x3):B8 p q x2 (B8 p q x1 a)=B8 p q x3 a:=by
 have g1:(B8 p q x1 a).getD p 0=a.getD p 0-a.getD p 0*x1:=by
  unfold B8
  rw[JT (Ne.symm hpq),FL hp]
 have g2:(B8 p q x1 a).getD q 0=a.getD q 0+a.getD p 0*x1:=FL (by simpa using hq)
 apply List.ext_getElem?
 intro j
 show((((B8 p q x1 a).set p _).set q _))[j]?=_
 rw[g1,g2]
 unfold B8
 by_cases h2:q=j
 ·subst h2
  rw[List.getElem?_set_self (by simpa using hq),List.getElem?_set_self (by simpa using hq)]
  congr 1
  grind
 ·rw[List.getElem?_set_ne h2,List.getElem?_set_ne h2]
  by_cases h1:p=j
  ·subst h1
   rw[List.getElem?_set_self (by simpa using hp),List.getElem?_set_self hp]
   congr 1
   grind
  ·rw[List.getElem?_set_ne h1,List.getElem?_set_ne h1,List.getElem?_set_ne h2,List.getElem?_set_ne h1]
theorem SN(h:BJ t ls ds)(hi:i≤ds.length){x1 x2 x3:Rat}(hpq:p≠q)(hp:p<t.p)(hq:q<t.p)(hx:x1+x2-x1*x2=x3):runs t (st0 t ls) (DQ (DQ ds i (.sell p q x2)) i (.sell p q x1))=runs t (st0 t ls) (DQ ds i (.sell p q x3)):=by
 have inv:=h.at i
 have e1:(DQ ds i (.sell p q x2)).take i=ds.take i:=by
  unfold DQ
  rw[List.take_append_of_le_length (by simp;omega),List.take_take,Nat.min_self]
 have e2:(DQ ds i (.sell p q x2)).drop i=.sell p q x2::ds.drop i:=by
  unfold DQ
  rw[List.drop_append_of_le_length (by simp;omega),List.drop_eq_nil_of_le (by simp;omega)]
  rfl
 rw[Ip,Ip,e1,e2]
 show runs t (step t (step t _ (.sell p q x1)) (.sell p q x2)) (ds.drop i)=_
 congr 1
 generalize runs t (st0 t ls) (ds.take i)=s at*
 show({s with loads:=(s.loads.map fun y=>{y with ow:=B8 p q x1 y.ow}).map fun y=>{y with ow:=B8 p q x2 y.ow},hold:=B8 p q x2 (B8 p q x1 s.hold)}:Stt)={s with loads:=s.loads.map fun y=>{y with ow:=B8 p q x3 y.ow},hold:=B8 p q x3 s.hold}
 have hh:=inv.hold
 rw[Q0 hpq (by omega) (by omega) hx,List.map_map]
 congr 1
 refine List.map_congr_left fun y hy=>?_
 have:=inv.own y hy
 show({y with ow:=B8 p q x2 (B8 p q x1 y.ow)}:Ld)=_
 rw[Q0 hpq (by omega) (by omega) hx]
theorem Mw(h:BJ t ls ds)(hl:ds.length≤13)(hi:i≤ds.length)(hc:DO t p q x){x1 x2 x3:Rat}(h1:DO t p q x1)(h2:DO t p q x2)(h3:DO t p q x3)(hx:x1+x2-x1*x2=x3):∃S',CP [Aj t ls ds,.int i,(AV.sell p q x).d,.tup [aD x1,aD x2,aD x3]] S=some (.bl true,S')/\Ci [] S S':=by
 obtain⟨t1,t2,t3,t4,t5,t6⟩:=id h.tr
 have w2:=MI (S:=S) (t:=t) (ls:=ls) (d:=.sell p q x2) hi (by omega)
 have l2:(DQ ds i (.sell p q x2)).length=ds.length+1:=UL hi
 have b2:=h.ins (i:=i) (by omega) h2
 have w1:=MI (S:=S) (t:=t) (ls:=ls) (ds:=DQ ds i (.sell p q x2)) (i:=i) (d:=.sell p q x1) (by omega) (by omega)
 have b1:=b2.ins (i:=i) (by omega) h1
 have w3:=MI (S:=S) (t:=t) (ls:=ls) (d:=.sell p q x3) hi (by omega)
 have b3:=h.ins (i:=i) (by omega) h3
 have er:=SN h hi h1.1 h1.2.1 h1.2.2.1 hx
 have ct:KU [D.str "sell",.int p,.int q,aD x] none (some 3)=[.str "sell",.int p,.int q]:=nr rfl
 have rn:Hx (t.p:Int)=true:=Dc (by omega) (by omega)
 have as1:asS (.val t.d)=some [.int t.p,.int t.k,.int t.b,shD t.ho,.int t.h,.int t.l]:=rfl
 have dt:∀T,dr T t.d=.val t.d:=fun _=>rfl
 have f1:=fun(T:Sto) {r:Nat} (hr:r<t.p)=>NY (S:=T) b1 hr
 have f3:=fun(T:Sto) {r:Nat} (hr:r<t.p)=>NY (S:=T) b3 hr
 rw[er]at f1
 generalize hE2:DQ (DQ ds i (.sell p q x2)) i (.sell p q x1)=es at*
 generalize hE3:DQ ds i (.sell p q x3)=fs at*
 have n1:(es.map AV.d).length=es.length:=by simp
 have n3:(fs.map AV.d).length=fs.length:=by simp
 obtain⟨E',S',ef,u9,_,rfl,mm⟩:=ET (gs:=[]) (t:=tNm 9) (b:=xIf (eOp (o2 wNe) [(AJ Ay [(eV 7),(eOp (o1 Hj) [(eOp (o2 wIx) [(eV 7),(eC (.int 2))])]),(eV 9)]),(AJ Ay [(eV 8),(eOp (o1 Hj) [(eOp (o2 wIx) [(eV 8),(eC (.int 2))])]),(eV 9)])]) (BR (eC (.bl false))) Dw)
  (I:=fun rs E S'=>∃(u9:Option D),(∀d∈rs,∃r:Nat,d=.int r/\r<t.p)/\E=[some (Aj t ls ds),some (.int i),some (AV.sell p q x).d,some (.tup [aD x1,aD x2,aD x3]),some (aD x1),some (aD x2),some (aD x3),some (Aj t ls es),some (Aj t ls fs),u9]/\Ci [] S S')
  (fun _ _ _ _=>Al) (ds:=LM 0 t.p) (E:=[some (Aj t ls ds),some (.int i),some (AV.sell p q x).d,some (.tup [aD x1,aD x2,aD x3]),some (aD x1),some (aD x2),some (aD x3),some (Aj t ls es),some (Aj t ls fs),none]) (S:=S)
  ⟨none,by
   intro d hd
   obtain⟨r,hr,rfl⟩:=List.mem_map.mp hd
   exact⟨r,by simp,by simpa using hr⟩,rfl,.refl⟩ (by
   rintro dd rs E T ⟨u9,i1,rfl,i2⟩
   obtain⟨r,rfl,hr⟩:=i1 dd List.mem_cons_self
   obtain⟨T1,e1,m1⟩:=f1 T hr
   obtain⟨T2,e2,m2⟩:=f3 T1 hr
   have k1:=Qj (rs:=AQ t.k (runs t (st0 t ls) fs).loads r)
   have k2:=T7 (rs:=AQ t.k (runs t (st0 t ls) fs).loads r)
   refine⟨_,[some (Aj t ls ds),some (.int i),some (AV.sell p q x).d,some (.tup [aD x1,aD x2,aD x3]),some (aD x1),some (aD x2),some (aD x3),some (Aj t ls es),some (Aj t ls fs),some (.int r)],T2,by simp;rfl,?_,some (.int r),fun d hd=>i1 d (List.mem_cons_of_mem _ hd),rfl,(i2.trans m1).trans m2⟩
   have sd:∀T (rs:List Rat),dr T (shD rs)=.val (shD rs):=fun _ _=>rfl
   simp only[Aj]at e1 e2⊢
   generalize AQ t.k (runs t (st0 t ls) fs).loads r=TR at*
   generalize aD x1=X1 at*
   generalize aD x2=X2 at*
   generalize aD x3=X3 at*
   generalize es.map AV.d=ED at*
   generalize fs.map AV.d=FD at*
   simp[n1,n3,e1,e2,sd,k1,k2])
 refine⟨S',?_,mm⟩
 have z4:(4:Nat)≤sizeLine:=AW (by decide)
 simp only[Aj,AV.d]at w1 w2 w3 ef⊢
 generalize (DQ ds i (.sell p q x2)).map AV.d=MD at*
 generalize es.map AV.d=ED at*
 generalize fs.map AV.d=FD at*
 generalize aD x1=X1 at*
 generalize aD x2=X2 at*
 generalize aD x3=X3 at*
 generalize aD x=XX at*
 simp[CP,GX,ct,z4,w2,w1,w3,as1,dt,rn,ef]
end
section
variable{S:Sto}{t:Tr}{ls:List Ld}{ds:List AV}{p:Nat}
theorem Dv.keep{S':Sto}(h:Dv p S)(g:Ci [] S S'):Dv p S':=let⟨ds,e,r⟩:=h;⟨ds,g.get e (by simp),r⟩
noncomputable def Ro:List D:=[.tup [.tup [.int 1,.int 2],.tup [.int 1,.int 2],.tup [.int 3,.int 4]],.tup [.tup [.int 1,.int 3],.tup [.int 1,.int 2],.tup [.int 2,.int 3]],.tup [.tup [.int 1,.int 4],.tup [.int 1,.int 3],.tup [.int 1,.int 2]],.tup [.tup [.int 1,.int 1],.tup [.int 1,.int 5],.tup [.int 1,.int 1]]]
theorem Zk{a b:Nat}{r:Int}(h0:0≤r)(h4:r<4)(hab:a≠b)(ha:a<t.p)(hb:b<t.p):∃x1 x2 x3:Rat,atI Ro r=some (.tup [aD x1,aD x2,aD x3])/\DO t a b x1/\DO t a b x2/\DO t a b x3/\x1+x2-x1*x2=x3:=by
 have hr:r=0∨r=1∨r=2∨r=3:=by omega
 rcases hr with rfl|rfl|rfl|rfl
 ·exact⟨⟨1,2,by decide,by decide⟩,⟨1,2,by decide,by decide⟩,⟨3,4,by decide,by decide⟩,rfl,⟨hab,ha,hb,by decide,by decide,by decide⟩,⟨hab,ha,hb,by decide,by decide,by decide⟩,⟨hab,ha,hb,by decide,by decide,by decide⟩,by decide+kernel⟩
 ·exact⟨⟨1,3,by decide,by decide⟩,⟨1,2,by decide,by decide⟩,⟨2,3,by decide,by decide⟩,rfl,⟨hab,ha,hb,by decide,by decide,by decide⟩,⟨hab,ha,hb,by decide,by decide,by decide⟩,⟨hab,ha,hb,by decide,by decide,by decide⟩,by decide+kernel⟩
 ·exact⟨⟨1,4,by decide,by decide⟩,⟨1,3,by decide,by decide⟩,⟨1,2,by decide,by decide⟩,rfl,⟨hab,ha,hb,by decide,by decide,by decide⟩,⟨hab,ha,hb,by decide,by decide,by decide⟩,⟨hab,ha,hb,by decide,by decide,by decide⟩,by decide+kernel⟩
 ·exact⟨⟨1,1,by decide,by decide⟩,⟨1,5,by decide,by decide⟩,⟨1,1,by decide,by decide⟩,rfl,⟨hab,ha,hb,by decide,by decide,by decide⟩,⟨hab,ha,hb,by decide,by decide,by decide⟩,⟨hab,ha,hb,by decide,by decide,by decide⟩,by decide+kernel⟩
def XG:Ex:=(Af (Bp 6 (AJ AL [(eV 2),(eV 4)]))
  (Af (Bp 7 (eOp (o2 O4) [(eOp (o2 Cv) [(eOp (o2 Cv) [(eV 6),(eC (.int 1))]),(AJ AL [(eV 2),(eOp (o2 NH) [(eV 4),(eC (.int 1))])])]),(eV 4)]))
  (Af (Bp 8 (Bc [(eC (.str "sell")),(eV 6),(eV 7),(AJ Dj [(eV 2)])]))
  (Af (Bp 9 (AJ AL [(eV 2),(eOp (o2 Cv) [(eOp (o1 Hj) [(eOp (o2 wIx) [(eV 3),(eC (.int 2))])]),(eC (.int 1))])]))
  (Af (xIf (eOr (Qa (AJ Bm [(eV 3),(eV 9),(eV 8)])) (Qa (AJ Cj [(eV 3),(eV 8)]))) (BR (eC (.bl false))) Dw)
  (Af (Bp 10 (LH [(Bc [(Bc [(eC (.int 1)),(eC (.int 2))]),(Bc [(eC (.int 1)),(eC (.int 2))]),(Bc [(eC (.int 3)),(eC (.int 4))])]),(Bc [(Bc [(eC (.int 1)),(eC (.int 3))]),(Bc [(eC (.int 1)),(eC (.int 2))]),(Bc [(eC (.int 2)),(eC (.int 3))])]),(Bc [(Bc [(eC (.int 1)),(eC (.int 4))]),(Bc [(eC (.int 1)),(eC (.int 3))]),(Bc [(eC (.int 1)),(eC (.int 2))])])]))
  (Af (EO (O3 QD (eV 10) [(Bc [(Bc [(eC (.int 1)),(eC (.int 1))]),(Bc [(eC (.int 1)),(eC (.int 5))]),(Bc [(eC (.int 1)),(eC (.int 1))])])]))
  (xIf (Qa (AJ CP [(eV 3),(eV 9),(eV 8),(eOp (o2 wIx) [(eV 10),(AJ AL [(eV 2),(eC (.int 4))])])])) (BR (eC (.bl false))) Dw))))))))
theorem YY(hP:Dv p S)(h:BJ t ls ds)(ho:Oa ls)(hl:ds.length≤10)(hp2:2≤t.p){a0 a1 a5 o6 o7 o8 o9 o10:Option D}:∃u6 u7 u8 u9 u10 S',XG [a0,a1,some (.ref p),some (Aj t ls ds),some (.int t.p),a5,o6,o7,o8,o9,o10] S=some (.nx,[a0,a1,some (.ref p),some (Aj t ls ds),some (.int t.p),a5,u6,u7,u8,u9,u10],S')/\Dv p S':=by
 obtain⟨t1,t2,t3,t4,t5,t6⟩:=id h.tr
 obtain⟨rp,S1,e1,a1',b1,p1⟩:=Az hP (n:=t.p) (by omega) (by omega)
 obtain⟨rq,S2,e2,a2,b2,p2⟩:=Az p1.pen (n:=(t.p:Int)-1) (by omega) (by omega)
 obtain⟨sh,S3,e3,p3,a3,b3,c3⟩:=Q8 p2.pen
 obtain⟨ri,S4,e4,a4,b4,p4⟩:=Az p3.pen (n:=(ds.length:Int)+1) (by omega) (by omega)
 have hmod:=Qk (x:=rp+1+rq) (K:=t.p) (by omega) (by omega)
 obtain⟨q,eq⟩:∃q:Nat,(rp+1+rq) % (t.p:Int)=(q:Int):=⟨_,(Int.toNat_of_nonneg (Int.emod_nonneg _ (by omega))).symm⟩
 obtain⟨rp,rfl⟩:=Gx a1'
 obtain⟨ri,rfl⟩:=Gx a4
 have hq:q<t.p/\q≠rp:=by
  rw[eq]at hmod
  split at hmod<;>omega
 have pp:0<t.p:=by omega
 have hc:DO t rp q sh:=⟨fun z=>hq.2 z.symm,by omega,hq.1,a3,b3,c3⟩
 have hi:ri≤ds.length:=by omega
 obtain⟨S5,e5,s5⟩:=Lh (S:=S4) h ho (by omega) hi hc
 obtain⟨S6,e6,s6⟩:=OG (S:=S5) h (by omega) hc
 have pen6:=(p4.pen.keep s5).keep s6
 have hw:(S6++[Cl.lst (Ro.take 3)])[S6.length]?=some (.lst (Ro.take 3)):=List.getElem?_concat_length
 have pl:=pen6.lt
 have pen7:Dv p (S6++[Cl.lst Ro]):=pen6.keep .app
 obtain⟨rw',S8,e8,a8,b8,p8⟩:=Az pen7 (n:=4) (by decide) (by decide)
 have hw8:S8[S6.length]?=some (.lst Ro):=p8.get List.getElem?_concat_length (by omega)
 obtain⟨x1,x2,x3,wa,h1,h2,h3,hx⟩:=Zk (t:=t) a8 b8 hc.1 hc.2.1 hc.2.2.1
 obtain⟨S9,e9,s9⟩:=Mw (S:=S8) h (by omega) hi hc h1 h2 h3 hx
 refine⟨some (.int rp),some (.int q),some (AV.sell rp q sh).d,some (.int ri),some (.ref S6.length),S9,?_,p8.pen.keep s9⟩
 have c7:=Aa hw
 have d8:=BE hw8
 have nl:(ds.map AV.d).length=ds.length:=by simp
 have z4:(3:Nat)<sizeLine:=Nat.lt_of_lt_of_le (show 3<50 by decide) (AW (by decide))
 generalize hQ:S6.length=w at*
 simp only[Aj,AV.d]at e5 e6 e9⊢
 generalize aD x1=X1 at*
 generalize aD x2=X2 at*
 generalize aD x3=X3 at*
 generalize aD sh=XS at*
 generalize ds.map AV.d=DD at*
 simp only[Ro,List.take_succ_cons,List.take_zero]at c7 d8 wa e8
 simp[XG,e1,e2,pp,eq,e3,nl,e4,e5,e6,hQ,c7,z4,e8,d8,wa,e9]
end
section
variable{S:Sto}{t:Tr}{ls:List Ld}{ds:List AV}{p:Nat}
noncomputable def half:Rat:=⟨1,2,by decide,by decide⟩
noncomputable def two(t:Tr):Tr:=⟨2,t.k,t.b,[half,half],t.h,t.l⟩
theorem Ws(h:Jj t):BJ (two t) [] []:=by
 obtain⟨t1,t2,t3,t4,t5,t6⟩:=h
 refine⟨⟨show 1≤2 by decide,show 2≤4 by decide,t3,t4,t5,t6⟩,⟨by simp[st0],fun l hl=>(nomatch hl),fun l hl=>(nomatch hl),fun l hl=>(nomatch hl),rfl,by simp[st0],2,2,by decide,by decide,by decide,fun l hl=>(nomatch hl),fun r hr=>?_⟩,trivial,by simp⟩
 have:r=half:=by simpa[st0,two]using hr
 subst this
 exact⟨1,by decide+kernel,by decide⟩
theorem fw:Aj (two t) [] []=.tup [.tup [.int 2,.int t.k,.int t.b,.tup [.tup [.int 1,.int 2],.tup [.int 1,.int 2]],.int t.h,.int t.l],.tup [],.tup []]:=rfl
def cb:Ex:=(xIf (eOp (o2 wEq) [(eV 4),(eC (.int 1))]) (Af (Bp 3 (Bc [(eOp (o2 Cv) [(eOp (o2 Cv) [(eOp (o2 Cv) [(Bc [(eC (.int 2))]),(eOp (Ik true true) [(eOp (o2 wIx) [(eV 3),(eC (.int 0))]),(eC (.int 1)),(eC (.int 3))])]),(Bc [(Bc [(Bc [(eC (.int 1)),(eC (.int 2))]),(Bc [(eC (.int 1)),(eC (.int 2))])])])]),(eOp (Ik true false) [(eOp (o2 wIx) [(eV 3),(eC (.int 0))]),(eC (.int 4))])]),(Bc []),(Bc [])]))
  (Bp 4 (eC (.int 2)))) Dw)
theorem Yh(h:BJ t ls ds)(ho:Oa ls)(hl:ds.length≤10){a0 a1 a2 a5 o6 o7 o8 o9 o10:Option D}:∃(t':Tr) (ls':List Ld) (ds':List AV),BJ t' ls' ds'/\Oa ls'/\ds'.length≤10/\2≤t'.p/\cb [a0,a1,a2,some (Aj t ls ds),some (.int t.p),a5,o6,o7,o8,o9,o10] S=some (.nx,[a0,a1,a2,some (Aj t' ls' ds'),some (.int t'.p),a5,o6,o7,o8,o9,o10],S):=by
 obtain⟨t1,t2,t3,t4,t5,t6⟩:=id h.tr
 by_cases h1:t.p=1
 ·refine⟨two t,[],[],Ws h.tr,fun l hl=>(nomatch hl),by simp,show 2≤2 by decide,?_⟩
  rw[fw]
  have c1:KU [D.int t.p,.int t.k,.int t.b,shD t.ho,.int t.h,.int t.l] (some 1) (some 3)=[.int t.k,.int t.b]:=nr rfl
  have c2:KU [D.int t.p,.int t.k,.int t.b,shD t.ho,.int t.h,.int t.l] (some 4) none=[.int t.h,.int t.l]:=nr rfl
  have z3:(3:Nat)≤sizeLine:=AW (by decide)
  have z4:(4:Nat)≤sizeLine:=AW (by decide)
  have z6:(6:Nat)≤sizeLine:=AW (by decide)
  have hp:((t.p:Nat):Int)=1:=by omega
  have e2:((two t).p:Int)=2:=rfl
  rw[e2,hp]
  rw[hp]at c1 c2
  simp[cb,Aj,Tr.d,hp,c1,c2,z3,z4,z6]
 ·have b:(((t.p:Nat):Int)==1)=false:=by simp;omega
  exact⟨t,ls,ds,h,ho,hl,by omega,by simp[cb,b]⟩
def RP:Ex:=(Af (Bp 2 (AJ IC [(AJ DL [(eV 0),(eV 1)])]))
  (Af (Bp 3 (AJ Gw [(eV 2),(eC (.int 10))]))
  (Af (Bp 4 (eOp (o2 wIx) [(eOp (o2 wIx) [(eV 3),(eC (.int 0))]),(eC (.int 0))]))
  (Af cb
  (Mp (Mq [(eC (.int 3))]) (tNm 5) XG)))))
theorem Vw{ns:List Int}{k:Nat}{o2 o3 o4 o5 o6 o7 o8 o9 o10:Option D}:∃u2 u3 u4 u5 u6 u7 u8 u9 u10 S',RP [some (.scr ns),some (.int k),o2,o3,o4,o5,o6,o7,o8,o9,o10] S=some (.nx,[some (.scr ns),some (.int k),u2,u3,u4,u5,u6,u7,u8,u9,u10],S'):=by
 obtain⟨c,e0⟩:=ZH (S:=S) (ns:=ns) (k:=k)
 obtain⟨p,S1,e1,hp,_,_⟩:=Zy (S:=S) c
 obtain⟨t,ls,ds,S2,e2,⟨hb,hl⟩,⟨h1,_⟩,pen⟩:=Ys (M:=10) (by decide) hp
 obtain⟨t',ls',ds',hb',ho',hl',hp',ot⟩:=Yh (S:=S2) hb h1 hl (a0:=some (.scr ns)) (a1:=some (.int k)) (a2:=some (.ref p)) (a5:=o5) (o6:=o6) (o7:=o7) (o8:=o8) (o9:=o9) (o10:=o10)
 obtain⟨E',S',ef,u5,u6,u7,u8,u9,u10,_,rfl,_⟩:=ET (gs:=[]) (t:=tNm 5) (b:=XG)
  (I:=fun rs E S'=>∃(u5 u6 u7 u8 u9 u10:Option D),(∀d∈rs,∃r:Nat,d=.int r)/\E=[some (.scr ns),some (.int k),some (.ref p),some (Aj t' ls' ds'),some (.int t'.p),u5,u6,u7,u8,u9,u10]/\Dv p S')
  (fun _ _ _ _=>Al) (ds:=LM 0 3) (E:=[some (.scr ns),some (.int k),some (.ref p),some (Aj t' ls' ds'),some (.int t'.p),o5,o6,o7,o8,o9,o10]) (S:=S2)
  ⟨o5,o6,o7,o8,o9,o10,by
   intro d hd
   obtain⟨r,hr,rfl⟩:=List.mem_map.mp hd
   exact⟨r,by simp⟩,rfl,pen⟩ (by
   rintro dd rs E T ⟨u5,u6,u7,u8,u9,u10,i1,rfl,i2⟩
   obtain⟨r,rfl⟩:=i1 dd List.mem_cons_self
   obtain⟨v6,v7,v8,v9,v10,T2,e,i3⟩:=YY (S:=T) i2 hb' ho' hl' hp' (a0:=some (.scr ns)) (a1:=some (.int k)) (a5:=some (.int r)) (o6:=u6) (o7:=u7) (o8:=u8) (o9:=u9) (o10:=u10)
   exact⟨_,_,T2,by simp,e,some (.int r),v6,v7,v8,v9,v10,fun d hd=>i1 d (List.mem_cons_of_mem _ hd),rfl,i3⟩)
 refine⟨some (.ref p),some (Aj t' ls' ds'),some (.int t'.p),u5,u6,u7,u8,u9,u10,S',?_⟩
 rw[show((10:Nat):Int)=10 from rfl]at e2
 have r3:Hx 3=true:=by decide
 have as1:asS (.val t.d)=some [.int t.p,.int t.k,.int t.b,shD t.ho,.int t.h,.int t.l]:=rfl
 have dt:∀T,dr T t.d=.val t.d:=fun _=>rfl
 generalize Aj t' ls' ds'=BB at*
 simp only[Aj]at e2 ot⊢
 simp[RP,e0,e1,e2,as1,dt,ot,r3,ef]
theorem cF(ns:List Int)(h:ns.length≤63):∃S',ON [.scr ns] S=some (.bl true,S'):=by
 obtain⟨n,hn,hn2⟩:∃n:Nat,(if(if(3:Int)<ns.length then(3:Int)else ns.length)>1 then(if(3:Int)<ns.length then(3:Int)else ns.length)else 1)=(n:Int)/\n≤3:=by
  refine⟨(if(if(3:Int)<ns.length then(3:Int)else ns.length)>1 then(if(3:Int)<ns.length then(3:Int)else ns.length)else 1).toNat,?_,?_⟩
  ·split<;>split<;>omega
  ·split<;>split<;>omega
 have rn:Hx (n:Int)=true:=Dc (by omega) (by omega)
 obtain⟨E',S',ef,q1,q2,q3,q4,q5,q6,q7,q8,q9,q10,_,rfl⟩:=ET (gs:=[]) (t:=tNm 1) (b:=RP)
  (I:=fun rs E S'=>∃(o1 o2 o3 o4 o5 o6 o7 o8 o9 o10:Option D),(∀d∈rs,∃k:Nat,d=.int k)/\E=[some (.scr ns),o1,o2,o3,o4,o5,o6,o7,o8,o9,o10])
  (fun _ _ _ _=>Al) (ds:=LM 0 n) (E:=[some (.scr ns),none,none,none,none,none,none,none,none,none,none]) (S:=S)
  ⟨none,none,none,none,none,none,none,none,none,none,by
   intro d hd
   obtain⟨k,_,rfl⟩:=List.mem_map.mp hd
   exact⟨k,by simp⟩,rfl⟩ (by
   rintro dd rs E T ⟨o1,o2,o3,o4,o5,o6,o7,o8,o9,o10,i1,rfl⟩
   obtain⟨k,rfl⟩:=i1 dd List.mem_cons_self
   obtain⟨u2,u3,u4,u5,u6,u7,u8,u9,u10,T2,e⟩:=Vw (S:=T) (ns:=ns) (k:=k) (o2:=o2) (o3:=o3) (o4:=o4) (o5:=o5) (o6:=o6) (o7:=o7) (o8:=o8) (o9:=o9) (o10:=o10)
   exact⟨_,_,T2,by simp,e,some (.int k),u2,u3,u4,u5,u6,u7,u8,u9,u10,fun d hd=>i1 d (List.mem_cons_of_mem _ hd),rfl⟩)
 refine⟨S',?_⟩
 have eb:Uy=Af (Mp (Mq [(eOp (o2 cn) [(eC (.int 1)),(eOp (o2 Zm) [(eOp (o1 Hj) [(eV 0)]),(eC (.int 3))])])]) (tNm 1) RP) (BR (eC (.bl true))):=rfl
 unfold ON
 rw[eb]
 simp[hn,rn,ef]
end
open PyProof.Rows (boot_isinstance boot_int boot_bool boot_tuple boot_str boot_list boot_abs boot_all boot_any boot_sum boot_max boot_min boot_range boot_enumerate boot_zip boot_sorted boot_set boot_divmod)
structure All(w:World)(K:PySem.W.Frag)(mg:Str->Option Value):Prop where
 bt:Bts mg
 c_ALL:SQ K mg "ALL" Tw
 c_MAKERS:SQ K mg "MAKERS" Dd
 c_NOTHING:SQ K mg "NOTHING" D0
 s_p_is_whole:St.Src K mg "is_whole" s_p_is_whole
 s_p_is_from:St.Src K mg "is_from" s_p_is_from
 s_p_is_within:St.Src K mg "is_within" s_p_is_within
 s_p_greatest_divisor:St.Src K mg "greatest_divisor" s_p_greatest_divisor
 s_p_lowest:St.Src K mg "lowest" s_p_lowest
 s_p_plus:St.Src K mg "plus" s_p_plus
 s_p_less:St.Src K mg "less" s_p_less
 s_p_less_each:St.Src K mg "less_each" s_p_less_each
 s_p_times:St.Src K mg "times" s_p_times
 s_p_mixed:St.Src K mg "mixed" s_p_mixed
 s_p_is_partner:St.Src K mg "is_partner" s_p_is_partner
 s_p_has_pieces:St.Src K mg "has_pieces" s_p_has_pieces
 s_p_can_pool:St.Src K mg "can_pool" s_p_can_pool
 s_p_can_swap:St.Src K mg "can_swap" s_p_can_swap
 s_p_can_do:St.Src K mg "can_do" s_p_can_do
 s_p_held_without:St.Src K mg "held_without" s_p_held_without
 s_p_held_behind:St.Src K mg "held_behind" s_p_held_behind
 s_p_held_at_first:St.Src K mg "held_at_first" s_p_held_at_first
 s_p_made_from:St.Src K mg "made_from" s_p_made_from
 s_p_first_wrong:St.Src K mg "first_wrong" s_p_first_wrong
 s_p_refuse_undone:St.Src K mg "refuse_undone" s_p_refuse_undone
 s_p_is_place:St.Src K mg "is_place" s_p_is_place
 s_p_is_place_of:St.Src K mg "is_place_of" s_p_is_place_of
 s_p_refuse_no_number:St.Src K mg "refuse_no_number" s_p_refuse_no_number
 s_p_refuse_no_partner:St.Src K mg "refuse_no_partner" s_p_refuse_no_partner
 s_p_all_to_one:St.Src K mg "all_to_one" s_p_all_to_one
 s_p_mixed_shares:St.Src K mg "mixed_shares" s_p_mixed_shares
 s_p_made_shares:St.Src K mg "made_shares" s_p_made_shares
 s_p_worth_of_all:St.Src K mg "worth_of_all" s_p_worth_of_all
 s_p_part_thrown:St.Src K mg "part_thrown" s_p_part_thrown
 s_p_thrown_shares:St.Src K mg "thrown_shares" s_p_thrown_shares
 s_p_sold_shares:St.Src K mg "sold_shares" s_p_sold_shares
 s_p_shares_behind:St.Src K mg "shares_behind" s_p_shares_behind
 s_p_owners_behind:St.Src K mg "owners_behind" s_p_owners_behind
 s_p_state_by:St.Src K mg "state_by" s_p_state_by
 s_p_sums_by_kinds:St.Src K mg "sums_by_kinds" s_p_sums_by_kinds
 s_p_theirs_told:St.Src K mg "theirs_told" s_p_theirs_told
 s_p_theirs_by:St.Src K mg "theirs_by" s_p_theirs_by
 s_p_refuse_no_sale:St.Src K mg "refuse_no_sale" s_p_refuse_no_sale
 s_p_without_deed:St.Src K mg "without_deed" s_p_without_deed
 s_p_unsold:St.Src K mg "unsold" s_p_unsold
 s_p_turned_by:St.Src K mg "turned_by" s_p_turned_by
 s_law_pen:St.Src K mg "_law_pen" s_law_pen
 s_law_cell_at:St.Src K mg "_law_cell_at" s_law_cell_at
 s_law_draw:St.Src K mg "_law_draw" s_law_draw
 s_law_common:St.Src K mg "_law_common" s_law_common
 s_law_made:St.Src K mg "_law_made" s_law_made
 s_law_whole:St.Src K mg "_law_whole" s_law_whole
 s_law_train:St.Src K mg "_law_train" s_law_train
 s_law_pieces:St.Src K mg "_law_pieces" s_law_pieces
 s_law_first:St.Src K mg "_law_first" s_law_first
 s_law_begun:St.Src K mg "_law_begun" s_law_begun
 s_law_share:St.Src K mg "_law_share" s_law_share
 s_law_worths:St.Src K mg "_law_worths" s_law_worths
 s_law_deed:St.Src K mg "_law_deed" s_law_deed
 s_law_plus:St.Src K mg "_law_plus" s_law_plus
 s_law_times:St.Src K mg "_law_times" s_law_times
 s_law_pooled:St.Src K mg "_law_pooled" s_law_pooled
 s_law_cost:St.Src K mg "_law_cost" s_law_cost
 s_law_less:St.Src K mg "_law_less" s_law_less
 s_law_borne:St.Src K mg "_law_borne" s_law_borne
 s_law_sold:St.Src K mg "_law_sold" s_law_sold
 s_law_turn:St.Src K mg "_law_turn" s_law_turn
 s_law_do:St.Src K mg "_law_do" s_law_do
 s_law_book:St.Src K mg "_law_book" s_law_book
 s_law_with:St.Src K mg "_law_with" s_law_with
 s_law_sum:St.Src K mg "_law_sum" s_law_sum
 s_law_sums:St.Src K mg "_law_sums" s_law_sums
 s_law_is_within:St.Src K mg "_law_is_within" s_law_is_within
 s_law_behind_right:St.Src K mg "_law_behind_right" s_law_behind_right
 s_law_last_right:St.Src K mg "_law_last_right" s_law_last_right
 s_law_split_right:St.Src K mg "_law_split_right" s_law_split_right
 s_p_law:St.Src K mg "law" s_p_law
section
variable{P:Program}{w:World}{K:PySem.W.Frag}{mg:Str->Option Value}{base:Heap}
theorem We{f:Addr}{fd:FuncData}(F:Fun K "law" "law" s_p_law f fd)(B:Bts mg)(ID:P7 P w K mg base)(Dz:Jp P w K mg base)(AM:Cr P w K mg base)(C3:JQ P w K mg base)(GR:Na P w K mg base)(CH:Fv P w K mg base)(Ck:HZ P w K mg base)(CT:GZ P w K mg base):Po P w K mg base CX0 12 f fd ["_law_script"] (spD K 1 ON):=by
 refine af (k:=11) F DM rfl fun cdv A outer s H E hr=>?_
 have hu:=AU hr
 exact(AF (FI PassesOwn.never rfl (EB rfl B.range (AA (Ax (Sj rfl) rfl B.max boot_max (AA AE (AA (Ax (P9 rfl) rfl B.min boot_min (AA (Ax Be rfl B.len boot_len (AA (AB 0) AD)) (AA AE AD))) AD))) AD)) (Ad 1 DM.nd) (AF (Ah 2 (AG ID (hr.mono (by decide)) rfl (AA (AG Dz (hr.mono (by decide)) rfl (AA (AB 0) (AA (AB 1) AD))) AD)) DM.nd)
    (AF (Ah 3 (AG GR (hr.mono (by decide)) rfl (AA (AB 2) (AA AE AD))) DM.nd)
    (AF (Ah 4 (AK AY (AK AY (AB 3) AE) AE) DM.nd)
    (AF (B7 (An (B6 hu) (AB 4) AE) (AF (Ah 3 (Ag (AA (AZ Ae (AZ Ae (AZ Ae (Ag (AA AE AD)) (Qr (AK AY (AB 3) AE) AE AE)) (Ag (AA (Ag (AA (Ag (AA AE (AA AE AD))) (AA (Ag (AA AE (AA AE AD))) AD))) AD))) (Gy (AK AY (AB 3) AE) AE)) (AA (Ag AD) (AA (Ag AD) AD)))) DM.nd)
    (AI (Ah 4 AE DM.nd))) Av)
    (AI (FI PassesOwn.never rfl (EB rfl B.range (AA AE AD)) (Ad 5 DM.nd) (AF (Ah 6 (AG AM (hr.mono (by decide)) rfl (AA (AB 2) (AA (AB 4) AD))) DM.nd)
    (AF (Ah 7 (AZ Ff (AZ Ae (AZ Ae (AB 6) AE) (AG AM (hr.mono (by decide)) rfl (AA (AB 2) (AA (AZ EA (AB 4) AE) AD)))) (AB 4)) DM.nd)
    (AF (Ah 8 (Ag (AA BY (AA (AB 6) (AA (AB 7) (AA (AG C3 (hr.mono (by decide)) rfl (AA (AB 2) AD)) AD))))) DM.nd)
    (AF (Ah 9 (AG AM (hr.mono (by decide)) rfl (AA (AB 2) (AA (AZ Ae (Ax Be rfl B.len boot_len (AA (AK AY (AB 3) AE) AD)) AE) AD))) DM.nd)
    (AF (B7 (DW.dt (SU (Le (Mm (AG CH (hr.mono (by decide)) rfl (AA (AB 3) (AA (AB 9) (AA (AB 8) AD)))))) (PD (Le (Mm (AG Ck (hr.mono (by decide)) rfl (AA (AB 3) (AA (AB 8) AD)))))))) (AI (AS LJ)) Av)
    (AF (Ah 10 (Bs (AA (Ag (AA (Ag (AA AE (AA AE AD))) (AA (Ag (AA AE (AA AE AD))) (AA (Ag (AA AE (AA AE AD))) AD)))) (AA (Ag (AA (Ag (AA AE (AA AE AD))) (AA (Ag (AA AE (AA AE AD))) (AA (Ag (AA AE (AA AE AD))) AD)))) (AA (Ag (AA (Ag (AA AE (AA AE AD))) (AA (Ag (AA AE (AA AE AD))) (AA (Ag (AA AE (AA AE AD))) AD)))) AD)))) DM.nd)
    (AF (Cs (Jv PySem.F.slot_list_append PySem.F.type_list_append IX (AB 10) (AA (Ag (AA (Ag (AA AE (AA AE AD))) (AA (Ag (AA AE (AA AE AD))) (AA (Ag (AA AE (AA AE AD))) AD)))) AD)))
    (AI (B7 (Le (Mm (AG CT (hr.mono (by decide)) rfl (AA (AB 3) (AA (AB 9) (AA (AB 8) (AA (AK AY (AB 10) (AG AM (hr.mono (by decide)) rfl (AA (AB 2) (AA AE AD)))) AD))))))) (AI (AS LJ)) Av))))))))))))))))
    (AI (AS LJ)))
theorem Z2{f:Addr}{fd:FuncData}(F:Fun K "law" "law" s_p_law f fd)(T:All w K mg):Po P w K mg base CX0 12 f fd ["_law_script"] (spD K 1 ON):=by
 have B:=T.bt
 have c_ALL:=T.c_ALL
 have c_MAKERS:=T.c_MAKERS
 have c_NOTHING:=T.c_NOTHING
 have Es:=Es (P:=P) (w:=w) (base:=base) T.s_p_is_whole B
 have Fd:=Fd (P:=P) (w:=w) (base:=base) T.s_p_is_from Es
 have BV:=BV (P:=P) (w:=w) (base:=base) T.s_p_is_within Fd
 have Br:=Br (P:=P) (w:=w) (base:=base) T.s_p_greatest_divisor B
 have BL:=BL (P:=P) (w:=w) (base:=base) T.s_p_lowest Br
 have F9:=F9 (P:=P) (w:=w) (base:=base) T.s_p_plus BL
 have Fy:=Fy (P:=P) (w:=w) (base:=base) T.s_p_less BL
 have D9:=D9 (P:=P) (w:=w) (base:=base) T.s_p_less_each B Fy
 have Ew:=Ew (P:=P) (w:=w) (base:=base) T.s_p_times BL
 have Hu:=Hu (P:=P) (w:=w) (base:=base) T.s_p_mixed BL
 have DU:=DU (P:=P) (w:=w) (base:=base) T.s_p_is_partner BV
 have BC:=BC (P:=P) (w:=w) (base:=base) T.s_p_has_pieces B
 have El:=El (P:=P) (w:=w) (base:=base) T.s_p_can_pool BC
 have Dr:=Dr (P:=P) (w:=w) (base:=base) T.s_p_can_swap BC
 have GQ:=GQ (P:=P) (w:=w) (base:=base) T.s_p_can_do BC El Dr
 have Ba:=Ba (P:=P) (w:=w) (base:=base) T.s_p_held_without
 have Bk:=Bk (P:=P) (w:=w) (base:=base) T.s_p_held_behind Ba
 have BG:=BG (P:=P) (w:=w) (base:=base) T.s_p_held_at_first
 have D6:=D6 (P:=P) (w:=w) (base:=base) T.s_p_made_from B
 have C0:=C0 (P:=P) (w:=w) (base:=base) T.s_p_first_wrong B GQ Bk BG
 have As:=As (P:=P) (w:=w) (base:=base) T.s_p_refuse_undone C0
 have Em:=Em (P:=P) (w:=w) (base:=base) T.s_p_is_place B BV
 have C4:=C4 (P:=P) (w:=w) (base:=base) T.s_p_is_place_of Em
 have Bq:=Bq (P:=P) (w:=w) (base:=base) T.s_p_refuse_no_number B BV
 have Bi:=Bi (P:=P) (w:=w) (base:=base) T.s_p_refuse_no_partner DU
 have DV:=DV (P:=P) (w:=w) (base:=base) T.s_p_all_to_one B c_ALL c_NOTHING
 have BZ:=BZ (P:=P) (w:=w) (base:=base) T.s_p_mixed_shares B Hu
 have Cw:=Cw (P:=P) (w:=w) (base:=base) T.s_p_made_shares B D6 BZ
 have Cm:=Cm (P:=P) (w:=w) (base:=base) T.s_p_worth_of_all B
 have C8:=C8 (P:=P) (w:=w) (base:=base) T.s_p_part_thrown BL Cm
 have CQ:=CQ (P:=P) (w:=w) (base:=base) T.s_p_thrown_shares BZ C8
 have C6:=C6 (P:=P) (w:=w) (base:=base) T.s_p_sold_shares B F9 Fy Ew
 have BK:=BK (P:=P) (w:=w) (base:=base) T.s_p_shares_behind CQ C6
 have CZ:=CZ (P:=P) (w:=w) (base:=base) T.s_p_owners_behind c_MAKERS DV Cw BK
 have Ep:=Ep (P:=P) (w:=w) (base:=base) T.s_p_state_by Bk BG BK CZ
 have Cc:=Cc (P:=P) (w:=w) (base:=base) T.s_p_sums_by_kinds B c_NOTHING F9 Ew
 have BS:=BS (P:=P) (w:=w) (base:=base) T.s_p_theirs_told B Ep Cc
 have A5:=A5 (P:=P) (w:=w) (base:=base) T.s_p_theirs_by As Bq Bi BS
 have BD:=BD (P:=P) (w:=w) (base:=base) T.s_p_refuse_no_sale C4
 have BX:=BX (P:=P) (w:=w) (base:=base) T.s_p_without_deed
 have Gj:=Gj (P:=P) (w:=w) (base:=base) T.s_p_unsold As BD BX
 have CF:=CF (P:=P) (w:=w) (base:=base) T.s_p_turned_by B D9 As BS BD BX
 have ID:=ID (P:=P) (w:=w) (base:=base) T.s_law_pen B
 have Dz:=Dz (P:=P) (w:=w) (base:=base) T.s_law_cell_at B
 have AM:=AM (P:=P) (w:=w) (base:=base) T.s_law_draw
 have Ej:=Ej (P:=P) (w:=w) (base:=base) T.s_law_common
 have A8:=A8 (P:=P) (w:=w) (base:=base) T.s_law_made B Ej
 have C2:=C2 (P:=P) (w:=w) (base:=base) T.s_law_whole B AM A8
 have Fi:=Fi (P:=P) (w:=w) (base:=base) T.s_law_train AM C2
 have Bt:=Bt (P:=P) (w:=w) (base:=base) T.s_law_pieces AM
 have Fh:=Fh (P:=P) (w:=w) (base:=base) T.s_law_first B AM C2 Bt
 have Fj:=Fj (P:=P) (w:=w) (base:=base) T.s_law_begun B
 have C3:=C3 (P:=P) (w:=w) (base:=base) T.s_law_share AM A8
 have Eo:=Eo (P:=P) (w:=w) (base:=base) T.s_law_worths B AM
 have Gh:=Gh (P:=P) (w:=w) (base:=base) T.s_law_deed B AM Bt C3 Eo
 have BM:=BM (P:=P) (w:=w) (base:=base) T.s_law_plus A8
 have Ap:=Ap (P:=P) (w:=w) (base:=base) T.s_law_times A8
 have Eu:=Eu (P:=P) (w:=w) (base:=base) T.s_law_pooled B A8 BM Ap
 have Gn:=Gn (P:=P) (w:=w) (base:=base) T.s_law_cost B A8
 have Bg:=Bg (P:=P) (w:=w) (base:=base) T.s_law_less BM
 have EU:=EU (P:=P) (w:=w) (base:=base) T.s_law_borne B BM Ap Bg
 have FV:=FV (P:=P) (w:=w) (base:=base) T.s_law_sold B BM Ap Bg
 have GP:=GP (P:=P) (w:=w) (base:=base) T.s_law_turn Gn EU FV
 have J6:=J6 (P:=P) (w:=w) (base:=base) T.s_law_do B Eu GP
 have GR:=GR (P:=P) (w:=w) (base:=base) T.s_law_book B AM Fi Fh Fj Gh J6
 have Bv:=Bv (P:=P) (w:=w) (base:=base) T.s_law_with
 have Hl:=Hl (P:=P) (w:=w) (base:=base) T.s_law_sum BM
 have Gs:=Gs (P:=P) (w:=w) (base:=base) T.s_law_sums B Hl
 have C5:=C5 (P:=P) (w:=w) (base:=base) T.s_law_is_within B Bg
 have CH:=CH (P:=P) (w:=w) (base:=base) T.s_law_behind_right B A5 Gj CF Ap Bg Bv Gs C5
 have Ck:=Ck (P:=P) (w:=w) (base:=base) T.s_law_last_right B A5 CF Ap Bv
 have CT:=CT (P:=P) (w:=w) (base:=base) T.s_law_split_right B A5 Bv
 exact We (P:=P) (w:=w) (base:=base) F B ID Dz AM C3 GR CH Ck CT
theorem aZ{l:PySem.W.OpenLaw}{fa:Addr}(hfa:mg "law"=some (.ref fa))(T:All w K mg):
  ∃fd:FuncData,(∀(s:Shared) (v:Value),BindsTo s fd ⟨[v],[]⟩ [("_law_script",v)])/\∀base:Heap,K.In base->base.Ns mainGlobals mg->Po l.prog w K mg base CX0 12 fa fd ["_law_script"] (Y1 K):=by
 obtain⟨f,fd,F,hm⟩:=T.s_p_law.ex
 have e:=hfa.symm.trans hm
 cases e
 refine⟨fd,fun s v=>?_,fun base _ _=>?_⟩
 ·obtain⟨oc,od,kV,doc,pm,an,cdv,ct,osl,hfd,_⟩:=F.ex
  subst hfd
  exact .of_eq rfl
 ·exact bU (Z2 (P:=l.prog) (w:=w) (base:=base) F T) fun ns hl=>cF ns hl
end
theorem walk{l:PySem.W.OpenLaw}{q:Program}{loose:List Str}{XP:(Str->Option Value)->Heap->Prop}{YP:World->Heap->Prop}{d:DefRec}{K:Params->PySem.W.Frag}(hn:l.most=some 63)(hdf:d.params.defaults=[])
  (hY:∀(w:World) (h:Heap),YP w h->(K w.params).In h) (hd:d.name="law")
  (F:∀(w:World) (mg:Str->Option Value) (h:Heap),(K w.params).In h->h.Ns mainGlobals mg->All w (K w.params) mg):
  PySem.W.WalkO q loose XP YP l.row.toRowW d [] (fun f vs=>PySem.call f vs):=
 L2.Yf (n:=63) (k:=12) (x:="_law_script") (CX:=fun _=>CX0) (sp:=fun w=>Y1 (K w.params)) hn (by decide) hdf ⟨rfl,by decide,by decide⟩ hY (fun w mg fa h KX G hmg=>aZ (by rw[←hd];exact hmg) (F w mg h KX G)) (fun _ _ a ns hl _ hS=>⟨a,ns,rfl,hS,hl,fun _=>rfl⟩) fun _ _ _ _ _ z=>z
end Mi
end
noncomputable section
namespace PySem.W.Fast
def tw12983043171062350272:=0
def tw12524442352635460545:=0
def tw15583411993474712145:=0
def tw163505731829630613:=0
def tw13337634649383501116:=0
def tw16634124802883860225:=0
def tw1111902253413796571:=0
def tw6201868958319900667:=0
def tw193002480972578647:=0
def tw914963370324881190:=0
def tw7005239406847697027:=0
def tw8724960154614832249:=0
def tw4204925006365024308:=0
def tw6001257675756708350:=0
def tw15995771665505380660:=0
def tw6038445210889648167:=0
def tw17358004765826455768:=0
def tw2493165328501442613:=0
def tw4802738709935390992:=0
def tw857363594803123032:=0
def tw15746446872880438149:=0
def tw3112464825781076179:=0
def tw17835175810298385042:=0
def tw4895783527693203532:=0
def tw1471370488086630979:=0
def tw18234775236874392792:=0
def tw2512123683150514989:=0
def tw18178407312997828299:=0
def tw993359960084159425:=0
def tw16319166218022821362:=0
def tw983912573077653297:=0
def tw6542671715118547067:=0
def tw4531796770639404785:=0
def tw2719310406357828891:=0
def tw11359004976453341833:=0
def tw15697213396713005000:=0
def tw10827329666082962154:=0
def tw4772878093013063739:=0
def tw16934642002346718099:=0
def tw639451821521422758:=0
def tw5935078544610682535:=0
def tw10524937888676987213:=0
def tw16448718076680955750:=0
def tw7787226596486990911:=0
def tw13433326069868087878:=0
def tw13110485234025199899:=0
def tw17829187118876777741:=0
def tw8230047143006705252:=0
def tw10922937291577772772:=0
def tw5724744542217324423:=0
def tw13367611963058734378:=0
def tw6099060160566437237:=0
def tw7383566063468610333:=0
def tw17709254750825791719:=0
def tw17754153517069328126:=0
def tw10106222354837452172:=0
def tw16028271771762231443:=0
def tw18084506538058616820:=0
def tw15223186805483506870:=0
def tw692073166399095820:=0
def tw17076357699700226459:=0
def tw4644228688711018780:=0
def tw17707935042022141191:=0
def tw3229296505767425949:=0
def tw5253402066606315650:=0
def tw326377104531680926:=0
def tw16932542320998742046:=0
def tw8212004410838775381:=0
def tw16964104344891619049:=0
def tw5535001814605061720:=0
def tw1112778505477851869:=0
def tw16310174813384475018:=0
def tw4870985108615912682:=0
def tw15585821438057119327:=0
def tw10013021506368591697:=0
def tw12513120471542330661:=0
def tw16359392584856899186:=0
def tw439309298653140422:=0
def tw12341733575214304487:=0
def tw9410801288915752475:=0
def tw17476534486319751812:=0
def tw3256403784055819779:=0
def tw12795773706493698870:=0
def tw17837597095817171925:=0
def tw8995293257556747965:=0
def tw14305802218639828045:=0
def tw18063880706117343203:=0
def tw9328784086628561839:=0
def tw5202361935131244883:=0
def tw8575238782990701719:=0
def tw4565063973100994451:=0
def tw7386790927018102257:=0
def tw2886876837593869286:=0
def tw18113692153945785156:=0
def tw10066053033751015644:=0
def tw7070667258518336065:=0
def tw13467198589479324462:=0
def tw9201910984433327158:=0
def tw16329634436725324293:=0
def tw8670886604246722313:=0
def tw16536286834324863491:=0
def tw6685897667119601070:=0
def tw6096947854025313619:=0
def tw8681773730224087529:=0
def tw4110082329965752393:=0
def tw4042779772547287618:=0
def tw1604790559982924300:=0
def tw1942119489742472409:=0
def tw13443753853587030174:=0
def tw13826693574800987236:=0
def tw5072449888013588559:=0
def tw7715113698059247562:=0
def tw1072429562029975018:=0
def tw4922495038415068289:=0
def tw4545368098442162356:=0
def tw2231936814072273953:=0
def tw17029567983303981597:=0
def tw5586912637108726558:=0
def tw4596209992998233211:=0
def tw18123449396134644393:=0
def tw2342388148594197987:=0
def tw16440806022121459286:=0
def tw2290587744433128455:=0
def tw15531878511414698835:=0
def tw839931348729930828:=0
def tw4580775374913263877:=0
def tw14608848825491406817:=0
def tw1874096022761449112:=0
def tw6943088549984290343:=0
def tw1373033483464766049:=0
def tw17365864017787368214:=0
def tw6442077886463698903:=0
def tw14128714741084737335:=0
def tw12161439411440958487:=0
def tw13125341838195300642:=0
def tw11946601425569244568:=0
def tw7841310267545681026:=0
def tw71771689907159600:=0
def tw5937988787102168852:=0
def tw6982138186828807343:=0
def tw12000563438614083763:=0
def tw16687373036110821636:=0
def tw16116260339488728839:=0
def tw6027931311225999384:=0
def tw3492089635478780419:=0
def tw12000733897496412581:=0
def tw504301711028783556:=0
def tw1578299572468425346:=0
def tw18422628453177324351:=0
def tw7091527881907720898:=0
def tw5047762511796560505:=0
def tw16883782294562278465:=0
def tw8749860095883466030:=0
def tw13498460018181204006:=0
def tw14399535567293287640:=0
def tw15187154881672277584:=0
def tw18342425692065782412:=0
def tw3619314241128906605:=0
def tw8620204841823980005:=0
def tw16106659404502261992:=0
def tw11653184733451707488:=0
def tw6928568130517318792:=0
def tw13947960726595329274:=0
def tw4238701430930625911:=0
def tw18162203388274647973:=0
def tw961729220616365623:=0
def tw1225470894635247505:=0
def tw5025416426753321180:=0
def tw2649650136097634975:=0
def tw13311957956888701509:=0
def tw15852107339282830124:=0
def tw4986546747955682149:=0
def tw14046779806600013837:=0
def tw18173346988475083124:=0
def tw3329463612309497480:=0
def tw11066994713034690167:=0
def tw5392965872522112218:=0
def tw17808916156098632220:=0
def tw17968452664179665384:=0
def tw1279893892089204021:=0
def tw12634330023175124919:=0
def tw10546015707327199218:=0
def tw7369807886474568944:=0
def tw10874712657844691918:=0
def tw714993156973167273:=0
def tw6714047794084977092:=0
def tw17362315044201416290:=0
def tw9875739207946922464:=0
def tw3055262726056633299:=0
def tw9004864080185883060:=0
def tw7647213479105648704:=0
def tw16844336271624952390:=0
def tw9353962976324572542:=0
def tw6566769453547673556:=0
def tw5115479019310080690:=0
def tw470927207790852151:=0
def tw18294480916452175120:=0
def tw4514655299836842660:=0
def tw1819187148982410765:=0
def tw7884716114222675347:=0
def tw14463554181567700219:=0
def tw3775846961917492880:=0
def tw5840668986582158412:=0
def tw13941610523608447225:=0
def tw901153400836646257:=0
def tw14983714781150164561:=0
def tw14084468239046559049:=0
def tw15940599298183908178:=0
def tw7347495907627495985:=0
def tw10498153003062702327:=0
def tw11723997733309269306:=0
def tw3762788107635765018:=0
def tw15165984303929295020:=0
def tw10726179408406375666:=0
def tw12132329828010642328:=0
def tw11504149751006466302:=0
def tw4409627548081410414:=0
def tw12836067453799590563:=0
def tw17938195914044617201:=0
def tw6346585604739756635:=0
def tw15473936790691530488:=0
def tw7752950966599351510:=0
def tw9469076202666245746:=0
def tw8337556817991239185:=0
def tw4918899078039396782:=0
def tw15790788932040671196:=0
def tw12691607170627187614:=0
def tw12337554170894227186:=0
def tw2573444471498296007:=0
def tw2029651671990945662:=0
def tw1082557843707787359:=0
def tw6414247608630679515:=0
def tw5539324364798675992:=0
def tw11910988322054581437:=0
def tw12864470283127868204:=0
def tw14509097853429323514:=0
def tw5308695543472538901:=0
def tw13257490015508818263:=0
def tw13915567488537425400:=0
def tw9442158749475349227:=0
def tw5515372782316068823:=0
def tw334660829289508702:=0
def tw14055884655529291732:=0
def tw16414482712570449749:=0
def tw103769644466706241:=0
def tw4099665017577617673:=0
def tw5319066771535525935:=0
def tw5407592913914394605:=0
def tw13597320272061118922:=0
def tw558132276834230029:=0
def tw7610390678312446370:=0
def tw11178975504844100780:=0
def tw1466277523547944408:=0
def tw12851268262823749688:=0
def tw11935435500669945439:=0
def tw13982550900251683283:=0
def tw5403606751975299868:=0
def tw13859698264220815187:=0
def tw6450933294363324192:=0
def tw16521831028468840931:=0
def tw11623303068019052385:=0
def tw1412775411717124461:=0
def tw678300165326660797:=0
def tw13464161033217127769:=0
def tw5831886216072909894:=0
def tw9580390383132676012:=0
def tw7295330476939693025:=0
def tw14345971350332022094:=0
def tw8240852031100476790:=0
def tw5892751619334771517:=0
def tw27357120290198798:=0
def tw5227508027634776305:=0
def tw2420380013686042211:=0
def tw10661854687609006559:=0
def tw8213118201410676503:=0
def tw15695851412559941624:=0
def tw1927433386667565799:=0
def tw5885005769182864557:=0
def tw9301839736264753693:=0
def tw14716914018645005653:=0
def tw7879833229833214624:=0
def tw7725529941561944952:=0
def tw9178808781903600612:=0
def tw1174517653618482994:=0
def tw12502351154495429406:=0
def tw18014817302416132762:=0
def tw15303572545168969711:=0
def tw6926619776841621177:=0
def tw3019955901092390264:=0
def tw15610476290328520191:=0
def tw12503084380193307851:=0
def tw9102550614194535309:=0
def tw6041727746451432479:=0
def tw9336241014554380973:=0
def tw18274263733974237588:=0
def tw1810556534640114447:=0
def tw6252772584786488126:=0
def tw8382136889416955405:=0
def tw12581623546580274019:=0
def tw8515185437486617350:=0
def tw1641805431239928107:=0
def tw7630192757982748034:=0
def tw14922344272051969155:=0
def tw13275492441898768895:=0
def tw1009797915046064832:=0
def tw6767703438215273703:=0
def tw882845455267189714:=0
def tw16929125332577968548:=0
def tw2552649140149612127:=0
def tw16747419464102428762:=0
def tw1919624955458966625:=0
def tw6256039774771551697:=0
def tw4094695144382945929:=0
def tw14836700875839852107:=0
def tw12111330774297195081:=0
def tw10256721376194005556:=0
def tw16098997940077724708:=0
def tw1832923468974163636:=0
def tw5264018463326760539:=0
def tw9086447345870935084:=0
def tw13290784274438392317:=0
def tw3236637768250759576:=0
def tw9530122285519264281:=0
def tw10717235390683702743:=0
def tw6763231980424996079:=0
def tw11187738267933609008:=0
def tw13087816839529158848:=0
def tw4833166376108622454:=0
def tw8860204112372920510:=0
def tw5211083114649675382:=0
def tw5486515575695338083:=0
def tw9266969374760721313:=0
def tw6065309194441934189:=0
def tw13528754009489132271:=0
def tw14658951136760755082:=0
def tw14179051816631694942:=0
def tw10599230261281060165:=0
def tw2778920797029412084:=0
def tw2136019715157211528:=0
def tw8333493107404037462:=0
def tw12200283127849481272:=0
def tw15886880599755834817:=0
def tw16496985535172918667:=0
def tw7885667343531236138:=0
def tw16709151863387563737:=0
def tw10959695258785388774:=0
def tw1143425621779018831:=0
def tw18132743446156343322:=0
def tw7325260656330609161:=0
def tw11985252459757919028:=0
def tw3381658424301201239:=0
def tw15856001680061892019:=0
def tw3048989515401803321:=0
def tw6333236770895336657:=0
def tw14750399885327862626:=0
def tw8113840701624685481:=0
def tw13619225742144616529:=0
def tw11615002618203592226:=0
def tw2635921590501425785:=0
def tw9866450239464219484:=0
def tw7524987501349872559:=0
def tw6378395739190919484:=0
def tw7345148031711781756:=0
def tw17919038510804041036:=0
def tw7697441225519587400:=0
def tw8960824950202480389:=0
def tw405555406831025418:=0
def tw12252619547605528697:=0
def tw3132110673941026052:=0
def tw12707478467993152383:=0
def tw4464013881132149762:=0
def tw7530555699002545324:=0
def tw221119633858263443:=0
def tw18160452582995041792:=0
def tw3747801136799743075:=0
def tw7286994888518955348:=0
def tw709536704895964594:=0
def tw16741246256957178976:=0
def tw17392372668119717694:=0
def tw2686309969966024038:=0
def tw15036933725329548157:=0
def tw11844982528785226077:=0
def tw13830379965798465364:=0
def tw16859695874258327009:=0
def tw9694651855166074122:=0
def tw16254462437780878762:=0
def tw3720865806690632707:=0
def tw8799332235646772705:=0
def tw15462717551851622830:=0
def tw7816625233592556605:=0
def tw8231896872305366117:=0
def tw17086312267062155711:=0
def tw2510156982646812866:=0
def tw117936549679430347:=0
def tw16148073272852239382:=0
def tw2930809118981458848:=0
def tw4653283351222495617:=0
def tw8347836548697670426:=0
def tw13790815802841564823:=0
def tw7136030379231044732:=0
def tw6326667823068360370:=0
def tw2332737148276271162:=0
def tw18062484047671739116:=0
def tw11695798464123507459:=0
def tw18341390192657272876:=0
def tw15637522007924935196:=0
def tw10412580669299937989:=0
def tw10903292296037140493:=0
def tw14185268189993861384:=0
def tw8317191744754327739:=0
def tw842307057658481241:=0
def tw2242086176523273843:=0
def tw10010948435029839067:=0
def tw8071662614386944437:=0
def tw804467652173841847:=0
def tw17998780322462789684:=0
def tw3581418454922811449:=0
def tw2855562687699882067:=0
def tw16246934352361134023:=0
def tw16270687043870872820:=0
def tw3826662764043300589:=0
def tw6020740582812265585:=0
def tw11175084833640355509:=0
def tw8011433597244877716:=0
def tw14625854971815450276:=0
def tw13318891895199974599:=0
def tw13723638089415766361:=0
def tw11494491045076263887:=0
def tw6526701658111746213:=0
def tw7250683972771210106:=0
def tw4337080096031102348:=0
def tw11766054009158262146:=0
def tw3679413518497905514:=0
def tw2443670009226896673:=0
def tw4579300110849342572:=0
def tw1037928260725091723:=0
def tw12756438793231977359:=0
def tw18132224884749479996:=0
def tw7049800438828936496:=0
def tw2477169893369283725:=0
def tw12639022728292848216:=0
def tw3028753637580002245:=0
def tw9369153849654686555:=0
def tw7304295096785111015:=0
def tw2832842271197079312:=0
def tw15807747975632545569:=0
def tw11144476923582861486:=0
def tw704148209050812737:=0
def tw16301524715364729294:=0
def tw2274679369211123758:=0
def tw8816736312429521925:=0
def tw8742476919063541419:=0
def tw5533662292616177979:=0
def tw14433407369635284646:=0
def tw18069002015722194924:=0
def tw12384595708516029909:=0
def tw4735330032611601677:=0
def tw573821697817387186:=0
def tw972345408087414905:=0
def tw10810385240385167597:=0
def tw13003683884734669821:=0
def tw13539241718911006924:=0
def tw14666326817331823411:=0
def tw4251038269027014372:=0
def tw14883067988204267820:=0
def tw11881094238942177231:=0
def tw14966436119542730196:=0
def tw15589783845584585352:=0
def tw6957826283675239358:=0
def tw17346245825950184571:=0
def tw6379951249159327061:=0
def tw5975914360125084320:=0
def tw14709011664877285178:=0
def tw8654082518594793781:=0
def tw12235874003960029221:=0
def tw15718107819777551615:=0
def tw12578434800129768185:=0
def tw598555555492073466:=0
def tw8732985649651036153:=0
def tw14110152173994802043:=0
def tw13072993866574382244:=0
def tw13533719232437464030:=0
def tw9211166943396682860:=0
def tw18418157756948843730:=0
def tw5882542078306640974:=0
def tw16558468641381598759:=0
def tw12703251572945653144:=0
def tw6881255125388472053:=0
def tw722749050638733155:=0
def tw9414417502457983742:=0
def tw10740110517978160956:=0
def tw16860781968224765042:=0
def tw17117787362214592572:=0
def tw7348658650366653004:=0
def tw15207215488409960764:=0
def tw385991665712538404:=0
def tw5962596967653336152:=0
def tw12844731861837143081:=0
def tw15959946191430921112:=0
def tw10358990621411072770:=0
def tw3243332556151456182:=0
def tw15377154275357221067:=0
def tw7484768353040509539:=0
def tw5037950513318640368:=0
def tw16163498518035047185:=0
def tw14101078823099156148:=0
def tw9103490192709893207:=0
end PySem.W.Fast
open PySem PySem.W PyProof.Rows
set_option maxRecDepth 100000 in
set_option maxHeartbeats 0 in
theorem PySem.Challenge.cw_sharetrail_k52_whole_what_came_behind_a_holds : PySem.Challenge.rw_sharetrail_k52_whole_what_came_behind_a.Holds := by
  w_on;o_law;k_head;(case hw=>w_witness2)
  k_fill
  refine Mi.walk (l:=PySem.Challenge.rw_sharetrail_k52_whole_what_came_behind_a) rfl rfl (fun w h Y=>PySem.W.kIn_of Y) rfl ?F
  case F =>
    intro w mg h KX G
    have c_ALL:Mi.SQ (L2.KOf KX) mg "ALL" Mi.Tw:=by
      dsimp only[L2.KOf]
      refine' Mi.Um KX G ?e ?r
      (case e=>k_is)
      case r=>
        refine' Mi.Qq ?l ?z ?r
        (case l=>k_is)
        (case z=>decide)
        case r=>
          refine' Paired.cons ?_ ?_
          ·exact Mi.OQ
          refine' Paired.cons ?_ ?_
          ·exact Mi.OQ
          exact Paired.nil
    have c_MAKERS:Mi.SQ (L2.KOf KX) mg "MAKERS" Mi.Dd:=by
      dsimp only[L2.KOf]
      refine' Mi.Um KX G ?e ?r
      (case e=>k_is)
      case r=>
        refine' Mi.Qq ?l ?z ?r
        (case l=>k_is)
        (case z=>decide)
        case r=>
          refine' Paired.cons ?_ ?_
          ·exact Mi.O0
          refine' Paired.cons ?_ ?_
          ·exact Mi.O0
          refine' Paired.cons ?_ ?_
          ·exact Mi.O0
          refine' Paired.cons ?_ ?_
          ·exact Mi.O0
          exact Paired.nil
    have c_NOTHING:Mi.SQ (L2.KOf KX) mg "NOTHING" Mi.D0:=by
      dsimp only[L2.KOf]
      refine' Mi.Um KX G ?e ?r
      (case e=>k_is)
      case r=>
        refine' Mi.Qq ?l ?z ?r
        (case l=>k_is)
        (case z=>decide)
        case r=>
          refine' Paired.cons ?_ ?_
          ·exact Mi.OQ
          refine' Paired.cons ?_ ?_
          ·exact Mi.OQ
          exact Paired.nil
    have z_abs:mg "abs"=none:=by
      refine' PySem.W.mg_none_of KX G ?z
      (case z=>k_is)
    have z_bool:mg "bool"=none:=by
      refine' PySem.W.mg_none_of KX G ?z
      (case z=>k_is)
    have z_enumerate:mg "enumerate"=none:=by
      refine' PySem.W.mg_none_of KX G ?z
      (case z=>k_is)
    have z_int:mg "int"=none:=by
      refine' PySem.W.mg_none_of KX G ?z
      (case z=>k_is)
    have z_isinstance:mg "isinstance"=none:=by
      refine' PySem.W.mg_none_of KX G ?z
      (case z=>k_is)
    have z_len:mg "len"=none:=by
      refine' PySem.W.mg_none_of KX G ?z
      (case z=>k_is)
    have z_list:mg "list"=none:=by
      refine' PySem.W.mg_none_of KX G ?z
      (case z=>k_is)
    have z_max:mg "max"=none:=by
      refine' PySem.W.mg_none_of KX G ?z
      (case z=>k_is)
    have z_min:mg "min"=none:=by
      refine' PySem.W.mg_none_of KX G ?z
      (case z=>k_is)
    have z_range:mg "range"=none:=by
      refine' PySem.W.mg_none_of KX G ?z
      (case z=>k_is)
    have z_sorted:mg "sorted"=none:=by
      refine' PySem.W.mg_none_of KX G ?z
      (case z=>k_is)
    have z_sum:mg "sum"=none:=by
      refine' PySem.W.mg_none_of KX G ?z
      (case z=>k_is)
    have z_tuple:mg "tuple"=none:=by
      refine' PySem.W.mg_none_of KX G ?z
      (case z=>k_is)
    have z_zip:mg "zip"=none:=by
      refine' PySem.W.mg_none_of KX G ?z
      (case z=>k_is)
    refine⟨⟨z_abs,z_bool,z_enumerate,z_int,z_isinstance,z_len,z_list,z_max,z_min,z_range,z_sorted,z_sum,z_tuple,z_zip⟩,c_ALL,c_MAKERS,c_NOTHING,?_,?_,?_,?_,?_,?_,?_,?_,?_,?_,?_,?_,?_,?_,?_,?_,?_,?_,?_,?_,?_,?_,?_,?_,?_,?_,?_,?_,?_,?_,?_,?_,?_,?_,?_,?_,?_,?_,?_,?_,?_,?_,?_,?_,?_,?_,?_,?_,?_,?_,?_,?_,?_,?_,?_,?_,?_,?_,?_,?_,?_,?_,?_,?_,?_,?_,?_,?_,?_,?_,?_,?_,?_⟩
    all_goals (refine' Mi.aQ KX G ?a ?l ?c ?k;(case a=>k_is);(case l=>k_is);(case c=>k_is);(case k=>k_is))
end
