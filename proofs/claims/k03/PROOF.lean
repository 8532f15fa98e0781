import PyProof.Rows.All
import Wide.All
import OpenK.AllK
import Wide.FinOn
import Lean
import PyProof.EqAt
import PyProof.EqKinds
import PyProof.TupleCall
import PyProof.Draws
import PyProof.EnumMake
import PyProof.EnumFor
import PyProof.ZipIter
import PyProof.ListMulRoad
import PyProof.NeData
import PyProof.SumWalkG
import PySem.Challenge.RW_sharetrail_k03_books_looked_at
set_option Elab.async false
set_option linter.all false
set_option maxRecDepth 100000
set_option maxHeartbeats 4000000
set_option exponentiation.threshold 10000
noncomputable section
namespace L2
open PySem PySem.Spec PyProof.Rows
abbrev Key:=Sum Int Str
noncomputable def Ra:Key->Value->Bool
 | .inl k,v=>Value.isInt k v
 | .inr x,v=>Value.isStrOf x v
noncomputable def ju(w:World):Key->Int
 | .inl k=>hashInt k
 | .inr x=>hashStr w x
theorem Ce:∀{k:Key} {v:Value},Ra k v=true->(∃i t,k=Sum.inl i/\v=Value.int i t)∨(∃x t,k=Sum.inr x/\v=Value.str x t)
  | .inl i,v,h=>by
    obtain⟨t,e⟩:=Value.isInt_shape (k:=i) (v:=v) h
    exact .inl ⟨i,t,rfl,e⟩
  | .inr x,v,h=>by
    obtain⟨t,e⟩:=Value.isStrOf_shape (x:=x) (v:=v) h
    exact .inr ⟨x,t,rfl,e⟩
theorem Tp(i:Int)(t:Tok):Ra (.inl i) (.int i t)=true:=by simp[Ra,Value.isInt]
theorem TU(x:Str)(t:Tok):Ra (.inr x) (.str x t)=true:=by simp[Ra,Value.isStrOf]
theorem bW(a b:Int):decide ((Sum.inl a:Key)=Sum.inl b)=(a==b):=by
 by_cases e:a=b
 ·subst e;simp
 ·have h:¬(Sum.inl a:Key)=Sum.inl b:=fun q=>e (Sum.inl.inj q)
  rw[decide_eq_false h]
  exact(beq_eq_false_iff_ne.mpr e).symm
theorem dR(a b:Str):decide ((Sum.inr a:Key)=Sum.inr b)=decide (a=b):=by
 by_cases e:a=b
 ·subst e;simp
 ·have h:¬(Sum.inr a:Key)=Sum.inr b:=fun q=>e (Sum.inr.inj q)
  rw[decide_eq_false h,decide_eq_false e]
theorem aw(a:Int)(b:Str):decide ((Sum.inl a:Key)=Sum.inr b)=false:=decide_eq_false (fun q=>nomatch q)
theorem cn(a:Str)(b:Int):decide ((Sum.inr a:Key)=Sum.inl b)=false:=decide_eq_false (fun q=>nomatch q)
noncomputable def Cw(prog:Program)(w:World):PySem.KeyKind prog w Key where
 is:=Ra
 hash:=ju w
 inj:=fun v a b ha hb=>by
  rcases Ce ha with⟨i,t,rfl,rfl⟩|⟨x,t,rfl,rfl⟩
  ·rcases Ce hb with⟨j,u,rfl,e⟩|⟨y,u,rfl,e⟩
   ·injection e with e1 _;rw[e1]
   ·exact nomatch e
  ·rcases Ce hb with⟨j,u,rfl,e⟩|⟨y,u,rfl,e⟩
   ·exact nomatch e
   ·injection e with e1 _;rw[e1]
 byValue:=fun k v h=>by
  rcases Ce h with⟨i,t,rfl,rfl⟩|⟨x,t,rfl,rfl⟩<;>rfl
 pyHash:=fun hv h=>by
  rcases Ce hv with⟨i,t,rfl,rfl⟩|⟨x,t,rfl,rfl⟩
  ·exact wpAny_pyHash_int h
  ·exact wpAny_pyHash_str h
 eqBool:=fun hu hv h=>by
  rcases Ce hu with⟨i,t,rfl,rfl⟩|⟨x,t,rfl,rfl⟩
  ·rcases Ce hv with⟨j,u,rfl,rfl⟩|⟨y,u,rfl,rfl⟩
   ·rw[bW]at h;exact wpAny_eqBool_int h
   ·rw[aw]at h;exact SeqAt.EqAt.int_str i t y u _ _ _ _ h
  ·rcases Ce hv with⟨j,u,rfl,rfl⟩|⟨y,u,rfl,rfl⟩
   ·rw[cn]at h;exact SeqAt.EqAt.str_int x t j u _ _ _ _ h
   ·rw[dR]at h;exact wpAny_eqBool_str h
 «strs» :=fun k x t v h=>by
  rcases Ce h with⟨i,u,rfl,e⟩|⟨y,u,rfl,e⟩
  ·exact nomatch e
  ·injection e with e1 _
   subst e1
   cases v<;>rfl
theorem QF(prog:Program)(w:World)(i:Int)(t:Tok):(Cw prog w).is (.inl i) (.int i t)=true:=Tp i t
theorem P9(prog:Program)(w:World)(x:Str)(t:Tok):(Cw prog w).is (.inr x) (.str x t)=true:=TU x t
end L2
namespace L2
open PySem PySem.Spec PyProof.Rows
inductive V where
 |non|bl (b:Bool)|int (i:Int)|str (x:Str)|byt (b:Array UInt8)|flt (b:UInt64)|ref (a:Addr)|ty (n:String)
 deriving DecidableEq
def RelV:V->Value->Prop
 | .non,u=>u=Value.none
 | .bl b,u=>u=Value.bool b
 | .int i,u=>∃t,u=Value.int i t
 | .str x,u=>∃t,u=Value.str x t
 | .byt b,u=>∃t,u=Value.bytes b t
 | .flt b,u=>∃t,u=Value.float b t
 | .ref a,u=>u=Value.ref a
 | .ty n,u=>u=Value.type n
abbrev Vals:List V->List Value->Prop:=Paired RelV
theorem Vals.length{xs:List V}{us:List Value}(r:Vals xs us):xs.length=us.length:=Paired.length r
theorem Vals.get:∀{xs:List V} {us:List Value} {i:Nat} {x:V},Vals xs us->xs[i]?=some x->∃u,us[i]?=some u/\RelV x u
  |_,_,_,_,.nil,e=>by simp at e
  |_,_,0,_,.cons r _,e=>by simp at e;subst e;exact⟨_,rfl,r⟩
  | _, _, i + 1, x, .cons _ t, e => by
    obtain⟨u,h1,h2⟩:=Vals.get (i:=i) (x:=x) t (by simpa using e)
    exact⟨u,by simpa using h1,h2⟩
theorem Vals.set{x:V}{u:Value}(r:RelV x u):∀{xs:List V} {us:List Value} (i:Nat),Vals xs us->Vals (xs.set i x) (us.set i u)
 |_,_,_,.nil=>.nil
 |_,_,0,.cons _ t=>.cons r t
 |_,_,i+1,.cons q t=>.cons q (Vals.set r i t)
theorem Vals.append:∀{xs ys:List V} {us ws:List Value},Vals xs us->Vals ys ws->Vals (xs++ys) (us++ws)
 |_,_,_,_,.nil,s=>s
 |_,_,_,_,.cons r t,s=>.cons r (Vals.append t s)
theorem Vals.take:∀{xs:List V} {us:List Value} (n:Nat),Vals xs us->Vals (xs.take n) (us.take n)
 |_,_,0,_=>.nil
 |_,_,_+1,.nil=>.nil
 |_,_,n+1,.cons r t=>.cons r (Vals.take n t)
theorem Vals.drop:∀{xs:List V} {us:List Value} (n:Nat),Vals xs us->Vals (xs.drop n) (us.drop n)
 |_,_,0,r=>r
 |_,_,_+1,.nil=>.nil
 |_,_,n+1,.cons _ t=>Vals.drop n t
theorem Vals.none_of:∀{xs:List V} {us:List Value} {i:Nat},Vals xs us->xs[i]?=none->us[i]?=none:=fun{xs us i} r e=>by
 have h1:=r.length
 have h2:xs.length≤i:=List.getElem?_eq_none_iff.mp e
 exact List.getElem?_eq_none_iff.mpr (by omega)
def Rq:Option V->Option Value->Prop
 |some v,some u=>RelV v u
 |none,none=>True
 |_,_=>False
def KV{κ:Type}:List (κ×V)->List (κ×Value)->Prop:=Paired fun(p:κ×V) (q:κ×Value)=>p.1=q.1/\RelV p.2 q.2
noncomputable def kV:Key->V
 | .inl i=>.int i
 | .inr x=>.str x
inductive HO where
 |lst (xs:List V)
 |tup (xs:List V)
 |dK (kvs:List (Key×V))|dT (kvs:List (List Key×V))
 |set (S:Int->Bool) (n:Nat)
 |ins (C dx:Addr) (fs:List (Str×V))
 |own (x:Addr)
 |xd (fs:List (Str×V))
 |met (f x:Addr)
 |rng (lo hi:Int)
 |frz (o:Obj) (u:HO)
 |tbl (ps:Array Value)
 |ext (φ:Heap->Prop)
abbrev Hp:=Addr->Option HO
noncomputable def upd(H:Hp)(a:Addr)(o:HO):Hp:=fun b=>if b=a then some o else H b
theorem BV{H:Hp}{a:Addr}{o:HO}:upd H a o a=some o:=by unfold upd;rw[if_pos rfl]
theorem As{H:Hp}{a b:Addr}{o:HO}(h:b≠a):upd H a o b=H b:=by unfold upd;rw[if_neg h]
theorem BW{H:Hp}{a b:Addr}{o:HO}(h:H a=some o)(h':H b=none):a≠b:=by
 intro e;subst e;rw[h]at h';cases h'
section
variable(P:Program)(w:World)
def ED(H:Hp)(h:Heap)(a:Addr):HO->Prop
 | .lst xs=>xs.length≤sizeLine/\∃(its:List Value) (n:Nat),Vals xs its/\h.get? a=some {cls:=.type "list",data:=.seq its.toArray n}
 | .tup xs=>xs.length≤sizeLine/\∃its:List Value,Vals xs its/\IsTup h a its.toArray
 | .dK kvs=>kvs.length≤sizeLine/\(a==sysModules)=false/\∃vs,KV kvs vs/\h.DictOf (Cw P w) a vs
 | .dT kvs=>kvs.length≤sizeLine/\(a==sysModules)=false/\∃xs:List (List Key×Addr×Value),
   Paired (fun(p:List Key×V) (q:List Key×Addr×Value)=>p.1=q.1/\H q.2.1=some (.tup (p.1.map kV))/\RelV p.2 q.2.2) kvs xs/\
   ∃o es ep,h.get? a=some o/\o.ExactDict/\o.data=.dict es ep/\es.toList=xs.map (entryOfKey (tupleKind (Cw P w)))/\(xs.map (·.1)).Nodup
 | .set S n=>h.SetOf (intKind P w) a S n
 | .ins C dx fs=>H dx=some (.own a)/\fs.length≤1000/\dx≠a/\h.get? a=some (PySem.W.instObj C dx)/\
   ∃mA,h.Ns1 dx mA/\(∀f,Rq (fs.lookup f) (mA f))/\PySem.Within mA (fs.map (·.1))
 | .own _=>∃o,h.get? a=some o
 | .xd fs=>∃mA,h.Ns1 a mA/\∀f,Rq (fs.lookup f) (mA f)
 | .rng lo hi=>∃t u v,h.get? a=some {cls:=.type "range",data:=.fields #[.int lo t,.int hi u,.int 1 v]}
 | .frz o u=>h.get? a=some o/\ED H h a u
 | .tbl ps=>h.get? a=some {cls:=.none,data:=.fields ps}
 | .met f x=>h.get? a=some (PySem.W.methodObj (.ref f) (.ref x))
 | .ext φ=>φ h/\(∃o,h.get? a=some o)/\∀h1 h2:Heap,φ h1->(∀o,h1.get? a=some o->h2.get? a=some o)->φ h2
def HOk(H:Hp)(h:Heap):Prop:=∀a o,H a=some o->ED P w H h a o
end
section
variable{P:Program}{w:World}{H H':Hp}{h h':Heap}{a:Addr}{o:HO}
theorem ED.lt(x:ED P w H h a o):a<h.objs.size:=by
 cases o with
 |lst xs=>obtain⟨_,_,_,_,e⟩:=x;exact Heap.lt_size e
 |tup xs=>obtain⟨_,_,_,p⟩:=x;exact p.lt
 |dK kvs=>obtain⟨_,_,_,_,o,_,_,e,_⟩:=x;exact Heap.lt_size e
 |dT kvs=>obtain⟨_,_,_,_,o,_,_,e,_⟩:=x;exact Heap.lt_size e
 |set S n=>obtain⟨o,_,_,_,e,_⟩:=x;exact Heap.lt_size e
 |ins C dx fs=>obtain⟨_,_,_,e,_⟩:=x;exact Heap.lt_size e
 |own y=>obtain⟨_,e⟩:=x;exact Heap.lt_size e
 |xd fs=>obtain⟨_,⟨_,_,_,e,_⟩,_⟩:=x;exact Heap.lt_size e
 |rng lo hi=>obtain⟨_,_,_,e⟩:=x;exact Heap.lt_size e
 |frz ob u=>obtain⟨e,_⟩:=x;exact Heap.lt_size e
 |tbl ps=>exact Heap.lt_size (show h.get? a=some _ from x)
 |met f y=>exact Heap.lt_size (show h.get? a=some _ from x)
 |ext φ=>obtain⟨_,⟨_,e⟩,_⟩:=x;exact Heap.lt_size e
theorem Paired.mapP{α β:Type}{F G:α->β->Prop}:∀{l₁:List α} {l₂:List β},Paired F l₁ l₂->(∀a b,F a b->G a b)->Paired G l₁ l₂
 |_,_,.nil,_=>.nil
 |_,_,.cons r t,f=>.cons (f _ _ r) (Paired.mapP t f)
theorem ED.stay(x:ED P w H h a o)(k:∀b u,(b=a∨H b=some (.own a))->h.get? b=some u->h'.get? b=some u)
    (ho:∀b,H b=some (.own a)->H' b=some (.own a)) (ht:∀b xs,H b=some (.tup xs)->H' b=some (.tup xs)):ED P w H' h' a o:=by
  induction o with
  |lst xs=>obtain⟨z,its,n,r,e⟩:=x;exact⟨z,its,n,r,k _ _ (.inl rfl) e⟩
  |tup xs=>obtain⟨z,its,r,ob,e,c⟩:=x;exact⟨z,its,r,ob,k _ _ (.inl rfl) e,c⟩
  |dK kvs=>obtain⟨z,y,vs,r,ob,es,ep,e,c⟩:=x;exact⟨z,y,vs,r,ob,es,ep,k _ _ (.inl rfl) e,c⟩
  | dT kvs =>
    obtain⟨z,y,xs,r,ob,es,ep,e,c⟩:=x
    exact⟨z,y,xs,Paired.mapP r fun p q z=>⟨z.1,ht _ _ z.2.1,z.2.2⟩,ob,es,ep,k _ _ (.inl rfl) e,c⟩
  |set S n=>obtain⟨ob,es,ep,t,e,c⟩:=x;exact⟨ob,es,ep,t,k _ _ (.inl rfl) e,c⟩
  | ins C dx fs =>
    obtain⟨d,z,ne,e,mA,⟨od,es,ep,e2,c⟩,r⟩:=x
    exact⟨ho _ d,z,ne,k _ _ (.inl rfl) e,mA,⟨od,es,ep,k _ _ (.inr d) e2,c⟩,r⟩
  |own y=>obtain⟨ob,e⟩:=x;exact⟨ob,k _ _ (.inl rfl) e⟩
  |xd fs=>obtain⟨mA,⟨od,es,ep,e,c⟩,r⟩:=x;exact⟨mA,⟨od,es,ep,k _ _ (.inl rfl) e,c⟩,r⟩
  |rng lo hi=>obtain⟨t,u,v,e⟩:=x;exact⟨t,u,v,k _ _ (.inl rfl) e⟩
  |frz ob u ih=>obtain⟨e,q⟩:=x;exact⟨k _ _ (.inl rfl) e,ih q⟩
  | tbl ps =>
    have e:h.get? a=some {cls:=.none,data:=.fields ps}:=x
    show h'.get? a=some {cls:=.none,data:=.fields ps}
    exact k a _ (.inl rfl) e
  | met f y =>
    have e:h.get? a=some (PySem.W.methodObj (.ref f) (.ref y)):=x
    show h'.get? a=some (PySem.W.methodObj (.ref f) (.ref y))
    exact k a _ (.inl rfl) e
  |ext φ=>obtain⟨p,⟨o,e⟩,st⟩:=x;exact⟨st _ _ p fun o q=>k _ _ (.inl rfl) q,⟨o,k _ _ (.inl rfl) e⟩,st⟩
theorem HOk.lt(x:HOk P w H h)(e:H a=some o):a<h.objs.size:=(x a o e).lt
theorem HOk.fresh(x:HOk P w H h)(e:h.objs.size≤a):H a=none:=by
 cases q:H a with
 |none=>rfl
 |some u=>exact absurd (Nat.lt_of_lt_of_le (x.lt q) e) (Nat.lt_irrefl _)
theorem HOk.kept(x:HOk P w H h)(k:∀b u,h.get? b=some u->h'.get? b=some u):HOk P w H h':=fun a o e=>
 (x a o e).stay (fun b u _ q=>k b u q) (fun _ q=>q) fun _ _ q=>q
theorem HOk.laid(x:HOk P w H h)(k:∀b u,h.get? b=some u->h'.get? b=some u)(hp:h.objs.size≤a)(new:ED P w (upd H a o) h' a o):HOk P w (upd H a o) h':=fun b u e=>by
 have hn:=x.fresh hp
 by_cases hb:b=a
 ·subst hb;rw[BV]at e;cases e;exact new
 ·rw[As hb]at e
  exact(x b u e).stay (fun c v _ q=>k c v q) (fun c q=>by rw[As (BW q hn)];exact q) fun c xs q=>by rw[As (BW q hn)];exact q
end
def Rd(H:Hp)(a:Addr)(u:HO):Prop:=H a=some u∨∃o,H a=some (.frz o u)
theorem Rd.ok{P:Program}{w:World}{H:Hp}{h:Heap}{a:Addr}{u:HO}(r:Rd H a u)(x:HOk P w H h):ED P w H h a u:=by
 rcases r with r|⟨o,r⟩
 ·exact x a u r
 ·obtain⟨_,q⟩:=x a _ r
  exact q
def Mut:Option HO->Prop
 |some (.lst _)=>True
 |some (.dK _)=>True
 |some (.dT _)=>True
 |some (.set _ _)=>True
 |some (.ins _ _ _)=>True
 |some (.ext _)=>True
 |_=>False
section
variable{P:Program}{w:World}{H:Hp}{h h':Heap}{x e:Addr}{o':HO}
theorem HOk.write(ok:HOk P w H h)(mu:Mut (H x))(he:e=x∨H e=some (.own x))(k:∀b u,b≠e->h.get? b=some u->h'.get? b=some u)(heo:∃u,h'.get? e=some u)
  (new:ED P w (upd H x o') h' x o'):HOk P w (upd H x o') h':=fun b u q=>by
 have nown:∀c y,H c=some (.own y)->c≠x:=fun c y r z=>by subst z;rw[r]at mu;exact mu
 have ntup:∀c xs,H c=some (.tup xs)->c≠x:=fun c xs r z=>by subst z;rw[r]at mu;exact mu
 by_cases hb:b=x
 ·subst hb;rw[BV]at q;cases q;exact new
 ·rw [As hb] at q
  by_cases hbe:b=e
  ·have q':H b=some (.own x):=by
    rcases he with z|z
    ·exact absurd (hbe.trans z) hb
    ·rw[hbe];exact z
   rw[q]at q';cases q'
   obtain⟨v,hv⟩:=heo
   exact⟨v,by rw[hbe];exact hv⟩
  ·refine(ok b u q).stay (fun c v hc r=>k c v ?_ r) (fun c r=>by rw[As (nown c b r)];exact r) fun c xs r=>by rw[As (ntup c xs r)];exact r
   rcases hc with rfl|hc
   ·exact hbe
   ·rintro rfl
    rcases he with z|z
    ·exact nown c b hc z
    ·rw[hc]at z;cases z;exact hb rfl
end
structure Un(fs ex:List Addr)(H H':Hp)(h h':Heap):Prop where
 keep:∀b o,h.get? b=some o->H b=none->b∉fs->b∉ex->h'.get? b=some o
 slot:∀b o,h.get? b=some o->H b=none->b∈fs->b∉ex->∃sl,h'.get? b=some {o with slots:=sl}
 free:∀b o,h.get? b=some o->H b=none->b∉ex->H' b=none
 there:∀b o,h.get? b=some o->b∉ex->∃o',h'.get? b=some o'
 tups:∀b xs,H b=some (.tup xs)->H' b=some (.tup xs)
 frzs:∀b o u,H b=some (.frz o u)->H' b=some (.frz o u)
 tbls:∀b ps,H b=some (.tbl ps)->∃more,H' b=some (.tbl (ps++more))
section
variable{fs fs' ex ex':List Addr}{H H1 H2:Hp}{h h1 h2 h':Heap}{a x e:Addr}{o:HO}
theorem Un.any(u:Un fs ex H H1 h h1){b:Addr}{ob:Obj}(q:h.get? b=some ob)(n:H b=none)(hx:b∉ex):∃sl,h1.get? b=some {ob with slots:=sl}:=by
 by_cases hb:b∈fs
 ·exact u.slot b ob q n hb hx
 ·exact⟨ob.slots,u.keep b ob q n hb hx⟩
theorem Un.kept(k:∀b u,h.get? b=some u->h'.get? b=some u):Un fs ex H H h h':=
 ⟨fun b ob q _ _ _=>k b ob q,fun b ob q _ _ _=>⟨ob.slots,k b ob q⟩,fun _ _ _ n _=>n,fun b ob q _=>⟨ob,k b ob q⟩,fun _ _ q=>q,fun _ _ _ q=>q,fun _ ps q=>⟨#[],by rw[q];simp⟩⟩
theorem Un.refl:Un fs ex H H h h:=Un.kept fun _ _ q=>q
theorem Un.laid(k:∀b u,h.get? b=some u->h'.get? b=some u)(hp:h.objs.size≤a)(hn:H a=none):Un fs ex H (upd H a o) h h' where
 keep:=fun b u q _ _ _=>k b u q
 slot:=fun b u q _ _ _=>⟨u.slots,k b u q⟩
 free:=fun b u q n _=>by rw[As (Nat.ne_of_lt (Nat.lt_of_lt_of_le (Heap.lt_size q) hp))];exact n
 there:=fun b u q _=>⟨u,k b u q⟩
 tups:=fun b xs q=>by rw[As (BW q hn)];exact q
 frzs:=fun b u xs q=>by rw[As (BW q hn)];exact q
 tbls:=fun b ps q=>⟨#[],by rw[As (BW q hn),q];simp⟩
theorem Un.write(mu:Mut (H x))(he:e=x∨H e=some (.own x))(k:∀b u,b≠e->h.get? b=some u->h'.get? b=some u)(heo:∃u,h'.get? e=some u):Un fs ex H (upd H x o) h h':=by
 have hx:∀b,H b=none->b≠x:=fun b n z=>by subst z;rw[n]at mu;exact mu
 have hb:∀b,H b=none->b≠e:=fun b n z=>by
  subst z
  rcases he with r|r
  ·exact hx b n r
  ·rw[n]at r;cases r
 have hm:∀b u,H b=some u->¬Mut (some u)->b≠x:=fun b u q nm z=>by subst z;rw[q]at mu;exact nm mu
 refine⟨fun b u q n _ _=>k b u (hb b n) q,fun b u q n _ _=>⟨u.slots,k b u (hb b n) q⟩,fun b u q n _=>by rw[As (hx b n)];exact n,fun b u q _=>?_,
  fun b xs q=>by rw[As (hm b _ q fun z=>z)];exact q,fun b u xs q=>by rw[As (hm b _ q fun z=>z)];exact q,fun b ps q=>⟨#[],by rw[As (hm b _ q fun z=>z),q];simp⟩⟩
 by_cases hbe:b=e
 ·subst hbe;exact heo
 ·exact⟨u,k b u hbe q⟩
end
noncomputable def trk(h:Heap)(H:Hp):List Addr:=(List.range h.objs.size).filter fun a=>(H a).isSome
noncomputable def WW(h:Heap)(H:Hp):Heap:=PySem.W.hideAll h (trk h H)
theorem TB(h:Heap)(H:Hp):(WW h H).objs.size=h.objs.size:=PySem.W.hideAll_size _ _
theorem Vv{h:Heap}{H:Hp}{b:Addr}{o:Obj}(e:h.get? b=some o)(n:H b=none):(WW h H).get? b=some o:=
 PySem.W.hideAll_get _ e fun hm=>by
  have q:(H b).isSome=true:=(List.mem_filter.mp hm).2
  rw[n]at q;simp at q
theorem aX{h:Heap}{H:Hp}{b:Addr}{o:Obj}(e:(WW h H).get? b=some o):h.get? b=some o/\H b=none:=by
  have e':h.get? b=some o:=PySem.W.of_hideAll (trk h H) e
  refine⟨e',?_⟩
  cases q:H b with
  |none=>rfl
  | some x =>
    have hm:b∈trk h H:=List.mem_filter.mpr ⟨List.mem_range.mpr (Heap.lt_size e'),by simp[q]⟩
    have z:(WW h H).get? b=none:=PySem.W.hideAll_none (trk h H) hm
    rw[z]at e;cases e
noncomputable def Z4(g h:Heap)(L:Addr):List (Addr×Obj):=(List.range h.objs.size).filterMap fun a=>if a=L∨(g.get? a).isSome=true then none else(h.get? a).map fun o=>(a,o)
noncomputable def rest(g h:Heap)(L d:Addr):List (Addr×Obj):=(Z4 g h L).filter fun p=>decide (p.1≠d)
end L2
namespace L2
open PySem PySem.Spec PyProof.Rows
structure Mod(K:PySem.W.Frag)(mg:Str->Option Value)(base:Heap):Prop where
 kin:K.In base
 glob:base.Ns mainGlobals mg
 blt:∃mb,base.Ns builtinsNs mb/\∀x:Str,x≠ "__name__"->mb x=bootBuiltins x
 nolimit:base.NoLimit
structure Cx where
 prog:Program
 w:World
 K:PySem.W.Frag
 mg:Str->Option Value
 base:Heap
 A:Around
 N:List Str
 s₀:Shared
 H₀:Hp
 env:Env
 outer:List Env
 stack:List Env
 ex:List Addr
 fn:Str->Bool
 calm:Bool
 pn:List (Addr×Obj)
 xe:Value->Shared->Prop
noncomputable def frs(l:List Env):List Addr:=l.filterMap (·.frame)
abbrev Cx.fs(X:Cx):List Addr:=frs X.outer
def Vis(sc:Scope)(x:Str):Prop:=sc.names.lookup x=some .local∨sc.names.lookup x=some .cell∨sc.names.lookup x=some .free
def Loc(sc:Scope)(x:Str):Prop:=sc.names.lookup x=some .local∨sc.names.lookup x=some .cell
def Look(env:Env)(h:Heap)(m:Str->Option Value)(x:Str)(u:Value):Prop:=
 (env.kindOf x=some .local/\m x=some u)∨((env.kindOf x=some .cell∨env.kindOf x=some .free)/\∃c,env.cells.lookup x=some c/\h.IsCell c (some u))
structure Cx.Ok(X:Cx):Prop where
 mod:Mod X.K X.mg X.base
 kind:X.env.scope.kind=.function
 glob:X.env.globals=mainGlobals
 blt:X.env.builtins=builtinsNs
 above:X.s₀.heap.objs.size≤X.env.locals
 inj:∀x y c,X.env.cells.lookup x=some c->X.env.cells.lookup y=some c->x=y
 has:∀x,(X.env.kindOf x=some .cell∨X.env.kindOf x=some .free)->∃c,X.env.cells.lookup x=some c
 cab:∀x c,X.fn x=true->X.env.cells.lookup x=some c->X.s₀.heap.objs.size≤c
 hd:X.calm=true->X.A.handled=none
 frames:X.A.frames=some X.stack
 stk:X.stack=X.outer∨(X.stack=X.env::X.outer/\X.env.frame=some X.env.locals)
 exf:∀b∈X.ex,b≠X.env.locals/\∀x c,X.env.cells.lookup x=some c->c≠b
 bs:∀b o,X.base.get? b=some o->X.s₀.heap.get? b=some o/\X.H₀ b=none
 bsz:X.base.objs.size≤X.s₀.heap.objs.size
 noex:∀b o,X.base.get? b=some o->b∉X.ex
 exfs:∀b∈X.ex,b∉X.fs
 funs:X.s₀.heap.FunFrames X.base X.outer
 frf:∀b∈X.fs,X.H₀ b=none
structure Inv(X:Cx)(pins:List (Addr×Obj))(σ:List (Option V))(H:Hp)(s:Shared):Prop where
 ok:X.Ok
 os:s.os=X.s₀.os
 bare:AllBare s.gens
 base:Un X.fs X.ex X.H₀ H X.s₀.heap s.heap
 loc:∃m,s.heap.Ns X.env.locals m/\∀(i:Nat) (x:Str) (v:V),X.N[i]?=some x->σ[i]?=some (some v)->Vis X.env.scope x->∃u,RelV v u/\Look X.env s.heap m x u
 cell:∀x c,X.env.cells.lookup x=some c->∃v,s.heap.IsCell c v
 free:H X.env.locals=none
 freeC:∀x c,X.env.cells.lookup x=some c->H c=none
 pin:∀p∈X.pn++pins,s.heap.get? p.1=some p.2/\H p.1=none/\p.1≠X.env.locals/\p.1∉X.fs/\∀v,p.2.data≠.cell v
 hok:HOk X.prog X.w H s.heap
 len:σ.length=X.N.length
section
variable{X:Cx}{pins:List (Addr×Obj)}{σ:List (Option V)}{H H':Hp}{s:Shared}{h':Heap}
theorem Cx.Ok.nofr(ok:X.Ok){b:Addr}{o:Obj}(e:X.base.get? b=some o):b∉X.fs:=fun hb=>by
 have:=(ok.funs.mem hb).1
 rw[e]at this;cases this
theorem Inv.bs(I:Inv X pins σ H s):∀b o,X.base.get? b=some o->s.heap.get? b=some o/\H b=none:=fun b o e=>
 ⟨I.base.keep b o (I.ok.bs b o e).1 (I.ok.bs b o e).2 (I.ok.nofr e) (I.ok.noex b o e),I.base.free b o (I.ok.bs b o e).1 (I.ok.bs b o e).2 (I.ok.noex b o e)⟩
theorem Inv.bk(I:Inv X pins σ H s):∀b o,X.base.get? b=some o->s.heap.get? b=some o:=fun b o e=>(I.bs b o e).1
theorem Inv.mod(I:Inv X pins σ H s):Mod X.K X.mg X.base:=I.ok.mod
theorem Inv.kIn(I:Inv X pins σ H s):X.K.In s.heap:=I.ok.mod.kin.keeps I.bk
theorem Inv.lt(I:Inv X pins σ H s):X.env.locals<s.heap.objs.size:=let⟨_,hn,_⟩:=I.loc;hn.lt
theorem Inv.sz(I:Inv X pins σ H s):X.s₀.heap.objs.size≤s.heap.objs.size:=Nat.le_trans I.ok.above (Nat.le_of_lt I.lt)
theorem Inv.nofs(I:Inv X pins σ H s){a:Addr}(h:s.heap.objs.size≤a):a∉X.fs:=fun hb=>by
 obtain⟨_,o,ho,_⟩:=I.ok.funs.mem hb
 exact absurd (Nat.lt_of_lt_of_le (Heap.lt_size ho) (Nat.le_trans I.sz h)) (Nat.lt_irrefl _)
theorem Inv.cne(I:Inv X pins σ H s):∀x c,X.env.cells.lookup x=some c->c≠X.env.locals:=fun x c e z=>by
 obtain⟨v,o,ho,hd⟩:=I.cell x c e
 obtain⟨m,⟨o',es,ep,ho',hd',_⟩,_⟩:=I.loc
 rw[z,ho']at ho;cases ho;rw[hd']at hd;cases hd
theorem Inv.funs(I:Inv X pins σ H s):s.heap.FunFrames X.base X.outer:=by
  have all:∀(l:List Env),(∀b∈frs l,b∈X.fs)->X.s₀.heap.FunFrames X.base l->s.heap.FunFrames X.base l:=by
    intro l
    induction l with
    |nil=>intro _ _;trivial
    | cons env r ih =>
      intro hs hl
      obtain⟨hk,⟨L,o,hf,hn,ho,hd⟩,hr⟩:=hl
      have hL:L∈X.fs:=hs L (by unfold frs;rw[List.filterMap_cons,hf];exact List.mem_cons_self)
      obtain⟨sl,e⟩:=I.base.slot L o ho (I.ok.frf L hL) hL fun z=>I.ok.exfs L z hL
      exact⟨hk,⟨L,_,hf,hn,e,hd⟩,ih (fun b hb=>hs b (by unfold frs;rw[List.filterMap_cons,hf];exact List.mem_cons_of_mem _ hb)) hr⟩
  exact all X.outer (fun _ hb=>hb) I.ok.funs
theorem Inv.stack(I:Inv X pins σ H s):s.heap.FunFrames X.base X.stack:=by
 rcases I.ok.stk with e|⟨e,hf⟩
 ·rw[e];exact I.funs
 ·rw[e]
  obtain⟨m,hn,_⟩:=I.loc
  refine .cons (by rw[I.ok.kind];decide) hf hn ?_ I.funs
  exact Heap.get?_none_of_le (Nat.le_trans I.ok.bsz I.ok.above)
theorem Inv.stkSub(I:Inv X pins σ H s):∀b∈frs X.stack,b∈X.env.locals::X.fs:=fun b hb=>by
 rcases I.ok.stk with e|⟨e,hf⟩
 ·rw[e]at hb;exact List.mem_cons_of_mem _ hb
 ·rw[e]at hb
  unfold frs at hb
  rw[List.filterMap_cons,hf]at hb
  exact hb
theorem Inv.stkFree(I:Inv X pins σ H s):∀b∈frs X.stack,H b=none:=fun b hb=>by
 rcases List.mem_cons.mp (I.stkSub b hb)with e|hb
 ·rw[e];exact I.free
 ·obtain⟨_,o,ho,_⟩:=I.ok.funs.mem hb
  exact I.base.free b o ho (I.ok.frf b hb) fun z=>I.ok.exfs b z hb
theorem Inv.step{g':Array GenState}{t':Nat}{d':Drawn}{ch:List Addr}(I:Inv X pins σ H s)
  (hch:∀b∈ch,(b∈X.ex∨X.s₀.heap.objs.size≤b)/\b≠X.env.locals/\(∀x c,X.env.cells.lookup x=some c->c≠b)/\∀p∈X.pn++pins,p.1≠b)
  (keep:∀b o,b≠X.env.locals->b∉X.fs->b∉ch->s.heap.get? b=some o->H b=none->h'.get? b=some o)
  (slot:∀b o,b≠X.env.locals->b∈X.fs->b∉ch->s.heap.get? b=some o->H b=none->∃sl,h'.get? b=some {o with slots:=sl}) (free:∀b o,b∉ch->s.heap.get? b=some o->H b=none->H' b=none)
  (there:∀b o,b∉ch->s.heap.get? b=some o->∃o',h'.get? b=some o')
  (tups:∀b xs,H b=some (.tup xs)->H' b=some (.tup xs)) (frzs:∀b o u,H b=some (.frz o u)->H' b=some (.frz o u)) (tbls:∀b ps,H b=some (.tbl ps)->∃more,H' b=some (.tbl (ps++more)))
  (ns:∀m,s.heap.Ns X.env.locals m->h'.Ns X.env.locals m) (hok:HOk X.prog X.w H' h') (hg:AllBare g'):
  Inv X pins σ H' {s with heap:=h',gens:=g',drawn:=d',toks:=t'}:=by
 have neL:∀b o,X.s₀.heap.get? b=some o->b≠X.env.locals:=fun b o e=>Nat.ne_of_lt (Nat.lt_of_lt_of_le (Heap.lt_size e) I.ok.above)
 have neC:∀b o,X.s₀.heap.get? b=some o->b∉X.ex->b∉ch:=fun b o e hx hb=>by
  rcases(hch b hb).1 with z|z
  ·exact hx z
  ·exact absurd (Nat.lt_of_lt_of_le (Heap.lt_size e) z) (Nat.lt_irrefl _)
 have cellK:∀x c,X.env.cells.lookup x=some c->∀v,s.heap.IsCell c v->h'.IsCell c v:=fun x c e v ⟨o,ho,hd⟩=>by
  have nch:c∉ch:=fun z=>(hch c z).2.2.1 x c e rfl
  by_cases hc:c∈X.fs
  ·obtain⟨sl,q⟩:=slot c o (I.cne x c e) hc nch ho (I.freeC x c e)
   exact⟨_,q,hd⟩
  ·exact⟨o,keep c o (I.cne x c e) hc nch ho (I.freeC x c e),hd⟩
 refine⟨I.ok,I.os,hg,⟨fun b o e n hb hx=>?_,fun b o e n hb hx=>?_,fun b o e n hx=>?_,fun b o e hx=>?_,fun b xs e=>tups b xs (I.base.tups b xs e),fun b o xs e=>frzs b o xs (I.base.frzs b o xs e),fun b ps e=>?_⟩,?_,fun x c e=>?_,?_,fun x c e=>?_,fun p hp=>?_,hok,I.len⟩
 ·exact keep b o (neL b o e) hb (neC b o e hx) (I.base.keep b o e n hb hx) (I.base.free b o e n hx)
 ·obtain⟨sl,e1⟩:=I.base.slot b o e n hb hx
  obtain⟨sl',e2⟩:=slot b _ (neL b o e) hb (neC b o e hx) e1 (I.base.free b o e n hx)
  exact⟨sl',e2⟩
 ·obtain⟨o',e1⟩:=I.base.there b o e hx
  exact free b o' (neC b o e hx) e1 (I.base.free b o e n hx)
 ·obtain⟨o',e1⟩:=I.base.there b o e hx
  exact there b o' (neC b o e hx) e1
 ·obtain⟨m1,e1⟩:=I.base.tbls b ps e
  obtain⟨m2,e2⟩:=tbls b _ e1
  exact⟨m1++m2,by rw[e2,Array.append_assoc]⟩
 ·obtain⟨m,hn,hl⟩:=I.loc
  refine⟨m,ns m hn,fun i x v e1 e2 e3=>?_⟩
  obtain⟨u,r,l⟩:=hl i x v e1 e2 e3
  refine⟨u,r,?_⟩
  rcases l with l|⟨k,c,e,z⟩
  ·exact .inl l
  ·exact .inr ⟨k,c,e,cellK x c e _ z⟩
 ·obtain⟨v,z⟩:=I.cell x c e
  exact⟨v,cellK x c e v z⟩
 ·obtain⟨m,⟨o,_,_,ho,_⟩,_⟩:=I.loc
  exact free _ o (fun z=>(hch _ z).2.1 rfl) ho I.free
 ·obtain⟨v,o,ho,hd⟩:=I.cell x c e
  exact free c o (fun z=>(hch c z).2.2.1 x c e rfl) ho (I.freeC x c e)
 ·obtain⟨e,n,ne,nf,d⟩:=I.pin p hp
  have nch:p.1∉ch:=fun z=>(hch p.1 z).2.2.2 p hp rfl
  exact⟨keep p.1 p.2 ne nf nch e n,free p.1 p.2 nch e n,ne,nf,d⟩
theorem Inv.un{t':Nat}(I:Inv X pins σ H s)(u:Un X.fs [] H H' s.heap h')(hok:HOk X.prog X.w H' h'):Inv X pins σ H' {s with heap:=h',toks:=t'}:=by
 obtain⟨m,⟨o,es,ep,ho,r⟩,_⟩:=id I.loc
 obtain⟨sl,hL⟩:=u.any ho I.free (by simp)
 exact I.step (g':=s.gens) (d':=s.drawn) (ch:=[]) (fun _ z=>nomatch z) (fun b o _ hb _ e n=>u.keep b o e n hb (by simp)) (fun b o _ hb _ e n=>u.slot b o e n hb (by simp)) (fun b o _ e n=>u.free b o e n (by simp)) (fun b o _ e=>u.there b o e (by simp)) u.tups u.frzs u.tbls (fun m' hm=>by
  obtain⟨o',es',ep',ho',r'⟩:=hm
  rw[ho]at ho';cases ho'
  exact⟨_,es',ep',hL,r'⟩) hok I.bare
theorem Inv.call{g':Array GenState}{t':Nat}{d':Drawn}{ch:List Addr}(I:Inv X pins σ H s)(u:Un (frs X.stack) ch H H' s.heap h')(hok:HOk X.prog X.w H' h')(hg:AllBare g')
  (hch:∀b∈ch,(b∈X.ex∨X.s₀.heap.objs.size≤b)/\b≠X.env.locals/\(∀x c,X.env.cells.lookup x=some c->c≠b)/\∀p∈X.pn++pins,p.1≠b):
  Inv X pins σ H' {s with heap:=h',gens:=g',drawn:=d',toks:=t'}:=by
 obtain⟨m,⟨o,es,ep,ho,r⟩,_⟩:=id I.loc
 obtain⟨sl,hL⟩:=u.any ho I.free fun z=>(hch _ z).2.1 rfl
 exact I.step (ch:=ch) hch (fun b o hL hb hc e n=>u.keep b o e n (fun z=>(List.mem_cons.mp (I.stkSub b z)).elim hL hb) hc) (fun b o _ _ hc e n=>u.any e n hc) (fun b o hc e n=>u.free b o e n hc) (fun b o hc e=>u.there b o e hc) u.tups u.frzs u.tbls (fun m' hm=>by
  obtain⟨o',es',ep',ho',r'⟩:=hm
  rw[ho]at ho';cases ho'
  exact⟨_,es',ep',hL,r'⟩) hok hg
theorem Inv.turned{t':Nat}{it:Addr}(I:Inv X pins σ H s)(k:∀b o,b≠it->s.heap.get? b=some o->h'.get? b=some o)(hn:H it=none)(hL:it≠X.env.locals)
  (h1:it∈X.ex∨X.s₀.heap.objs.size≤it) (h2:∀x c,X.env.cells.lookup x=some c->c≠it) (h3:∀p∈X.pn++pins,p.1≠it):Inv X pins σ H {s with heap:=h',toks:=t'}:=by
 have nit:∀b u,H b=some u->b≠it:=fun b u e z=>by rw[z,hn]at e;cases e
 refine I.step (g':=s.gens) (d':=s.drawn) (ch:=[it]) (fun b hb=>?_) (fun b o _ _ hc e _=>k b o (fun z=>hc (by simp[z])) e) (fun b o _ _ hc e _=>⟨o.slots,k b o (fun z=>hc (by simp[z])) e⟩) (fun _ _ _ _ n=>n)
  (fun b o hc e=>⟨o,k b o (fun z=>hc (by simp[z])) e⟩) (fun _ _ e=>e) (fun _ _ _ e=>e) (fun b ps e=>⟨#[],by rw[e];simp⟩) (fun m hm=>?_) (fun b u e=>?_) I.bare
 ·have e:b=it:=by simpa using hb
  subst e
  exact⟨h1,hL,h2,h3⟩
 ·obtain⟨o,es,ep,ho,r⟩:=hm
  exact⟨o,es,ep,k _ o (Ne.symm hL) ho,r⟩
 ·refine(I.hok b u e).stay (fun c v hc q=>k c v ?_ q) (fun _ q=>q) fun _ _ q=>q
  rcases hc with z|z
  ·rw[z];exact nit b u e
  ·exact nit c _ z
theorem Inv.tok(I:Inv X pins σ H s)(t:Nat):Inv X pins σ H {s with toks:=t}:=I.un (h':=s.heap) (t':=t) Un.refl I.hok
theorem Inv.kept{t':Nat}(I:Inv X pins σ H s)(k:∀b u,s.heap.get? b=some u->h'.get? b=some u):Inv X pins σ H {s with heap:=h',toks:=t'}:=I.un (Un.kept k) (I.hok.kept k)
theorem Inv.laid{a:Addr}{o:HO}{t':Nat}(I:Inv X pins σ H s)(k:∀b u,s.heap.get? b=some u->h'.get? b=some u)(hp:s.heap.objs.size≤a)(new:ED X.prog X.w (upd H a o) h' a o):
  Inv X pins σ (upd H a o) {s with heap:=h',toks:=t'}:=I.un (Un.laid k hp (I.hok.fresh hp)) (I.hok.laid k hp new)
theorem Inv.write{x e:Addr}{o:HO}{t':Nat}(I:Inv X pins σ H s)(mu:Mut (H x))(he:e=x∨H e=some (.own x))(k:∀b u,b≠e->s.heap.get? b=some u->h'.get? b=some u)(heo:∃u,h'.get? e=some u)
  (new:ED X.prog X.w (upd H x o) h' x o):Inv X pins σ (upd H x o) {s with heap:=h',toks:=t'}:=I.un (Un.write mu he k heo) (I.hok.write mu he k heo new)
theorem Inv.pins_of{pins':List (Addr×Obj)}(I:Inv X pins σ H s)(h:∀p∈pins',s.heap.get? p.1=some p.2/\H p.1=none/\p.1≠X.env.locals/\p.1∉X.fs/\∀v,p.2.data≠.cell v):Inv X pins' σ H s:=
 ⟨I.ok,I.os,I.bare,I.base,I.loc,I.cell,I.free,I.freeC,fun p hp=>(List.mem_append.mp hp).elim (fun z=>I.pin p (List.mem_append_left _ z)) (h p),I.hok,I.len⟩
theorem QQ{N:List Str}(hN:N.Nodup){i j:Nat}{x:Str}(a:N[i]?=some x)(b:N[j]?=some x):i=j:=by
 obtain⟨h1,e1⟩:=List.getElem?_eq_some_iff.mp a
 obtain⟨h2,e2⟩:=List.getElem?_eq_some_iff.mp b
 exact(List.getElem_inj hN).mp (e1.trans e2.symm)
theorem PR{M:Model}{A:Around}{E:Value->Shared->Prop}{i:Nat}{x:Str}{v:V}{u:Value}{Q:Unit->Shared->Prop}(I:Inv X pins σ H s)(hN:X.N.Nodup)(hi:X.N[i]?=some x)(hx:Loc X.env.scope x)(r:RelV v u)
  (h:∀s',Inv X pins (σ.set i (some v)) H s'->(∃a,Heap.SameBut a s.heap s'.heap/\(a=X.env.locals∨X.env.cells.lookup x=some a))->Q () s') (hf:X.fn x=true∨X.env.scope.names.lookup x=some .local:=by first|exact .inl rfl|exact .inr rfl|assumption):wpAny M A (storeName X.env x u) Q E s:=by
 obtain⟨m,hn,hl⟩:=id I.loc
 have hcls:(X.env.scope.kind== .class||(X.env.scope.kind== .module && X.env.locals !=X.env.globals))=false:=by rw[I.ok.kind];rfl
 have hiσ:i<σ.length:=by rw[I.len];exact(List.getElem?_eq_some_iff.mp hi).1
 have cne:=I.cne
 have tracked:∀{a:Addr} {h':Heap},(∃o,s.heap.get? a=some o/\H a=none)->Heap.SameBut a s.heap h'->HOk X.prog X.w H h':=fun{a h'} ha hs b ob e=>by
  obtain⟨_,_,hfree⟩:=ha
  refine(I.hok b ob e).stay (fun c w' hc q=>(hs.2 c ?_).trans q) (fun _ q=>q) fun _ _ q=>q
  rintro rfl
  rcases hc with rfl|hc
  ·rw[hfree]at e;cases e
  ·rw[hfree]at hc;cases hc
 rcases hx with hk|hk
 ·refine wpAny_storeName_local hk hn (fun h' hn' hs=>?_) hcls
  obtain⟨oL,_,_,hoL,_⟩:=id hn
  refine h _ ⟨I.ok,I.os,I.bare,⟨fun b o e n hb hx=>?_,fun b o e n hb hx=>?_,I.base.free,fun b o e hx=>?_,I.base.tups,I.base.frzs,I.base.tbls⟩,⟨_,hn',fun j y v' e1 e2 e3=>?_⟩,fun y c e=>?_,I.free,I.freeC,fun p hp=>?_,tracked ⟨oL,hoL,I.free⟩ hs,by simpa using I.len⟩ ⟨_,hs,.inl rfl⟩
  ·exact(hs.2 b (Nat.ne_of_lt (Nat.lt_of_lt_of_le (Heap.lt_size e) I.ok.above))).trans (I.base.keep b o e n hb hx)
  ·obtain⟨sl,e1⟩:=I.base.slot b o e n hb hx
   exact⟨sl,(hs.2 b (Nat.ne_of_lt (Nat.lt_of_lt_of_le (Heap.lt_size e) I.ok.above))).trans e1⟩
  ·obtain⟨o',e1⟩:=I.base.there b o e hx
   exact⟨o',(hs.2 b (Nat.ne_of_lt (Nat.lt_of_lt_of_le (Heap.lt_size e) I.ok.above))).trans e1⟩
  ·by_cases hj:j=i
   ·subst hj
    rw[hi]at e1;cases e1
    rw[List.getElem?_set_self hiσ]at e2
    cases e2
    exact⟨u,r,.inl ⟨hk,by simp⟩⟩
   ·rw[List.getElem?_set_ne (Ne.symm hj)]at e2
    obtain⟨u',r',q⟩:=hl j y v' e1 e2 e3
    refine⟨u',r',?_⟩
    rcases q with⟨k,e⟩|⟨k,c,e,z⟩
    ·refine .inl ⟨k,?_⟩
     have:y≠x:=fun e=>hj (QQ hN e1 (e▸hi))
     simp[this,e]
    ·exact .inr ⟨k,c,e,z.sameBut hs (cne y c e)⟩
  ·obtain⟨w',z⟩:=I.cell y c e
   exact⟨w',z.sameBut hs (cne y c e)⟩
  ·obtain⟨e,n,ne,nf,d⟩:=I.pin p hp
   exact⟨(hs.2 p.1 ne).trans e,n,ne,nf,d⟩
 ·have hfn:X.fn x=true:=by
   rcases hf with z|z
   ·exact z
   ·rw[z]at hk;cases hk
  obtain⟨c,hc⟩:=I.ok.has x (.inl hk)
  obtain⟨w',z⟩:=I.cell x c hc
  refine wpAny_storeName_cell I.ok.kind hk hc z (fun h' hc' hs=>?_)
  obtain⟨oc,hoc,hocd⟩:=id z
  refine h {s with heap:=h'} ⟨I.ok,I.os,I.bare,⟨fun b o e n hb hx=>?_,fun b o e n hb hx=>?_,I.base.free,fun b o e hx=>?_,I.base.tups,I.base.frzs,I.base.tbls⟩,⟨m,hn.sameBut hs (Ne.symm (cne x c hc)),fun j y v' e1 e2 e3=>?_⟩,fun y c' e=>?_,I.free,I.freeC,fun p hp=>?_,tracked ⟨oc,hoc,I.freeC x c hc⟩ hs,by simpa using I.len⟩ ⟨c,hs,.inr hc⟩
  ·exact(hs.2 b (Nat.ne_of_lt (Nat.lt_of_lt_of_le (Heap.lt_size e) (I.ok.cab x c hfn hc)))).trans (I.base.keep b o e n hb hx)
  ·obtain⟨sl,e1⟩:=I.base.slot b o e n hb hx
   exact⟨sl,(hs.2 b (Nat.ne_of_lt (Nat.lt_of_lt_of_le (Heap.lt_size e) (I.ok.cab x c hfn hc)))).trans e1⟩
  ·obtain⟨o',e1⟩:=I.base.there b o e hx
   exact⟨o',(hs.2 b (Nat.ne_of_lt (Nat.lt_of_lt_of_le (Heap.lt_size e) (I.ok.cab x c hfn hc)))).trans e1⟩
  ·by_cases hj:j=i
   ·subst hj
    rw[hi]at e1;cases e1
    rw[List.getElem?_set_self hiσ]at e2
    cases e2
    exact⟨u,r,.inr ⟨.inl hk,c,hc,hc'⟩⟩
   ·rw[List.getElem?_set_ne (Ne.symm hj)]at e2
    obtain⟨u',r',q⟩:=hl j y v' e1 e2 e3
    refine⟨u',r',?_⟩
    rcases q with q|⟨k,c',e,z'⟩
    ·exact .inl q
    ·refine .inr ⟨k,c',e,z'.sameBut hs ?_⟩
     rintro rfl
     exact hj (QQ hN e1 (I.ok.inj _ _ _ e hc▸hi))
  ·by_cases hcc:c'=c
   ·subst hcc;exact⟨_,hc'⟩
   ·obtain⟨w2,z2⟩:=I.cell y c' e
    exact⟨w2,z2.sameBut hs hcc⟩
  ·obtain⟨e,n,ne,nf,d⟩:=I.pin p hp
   refine⟨(hs.2 p.1 ?_).trans e,n,ne,nf,d⟩
   intro q
   rw[q,hoc]at e
   have q':oc=p.2:=Option.some.inj e
   exact d w' (by rw[←q'];exact hocd)
theorem Kj{M:Model}{A:Around}{E:Value->Shared->Prop}{i:Nat}{x:Str}{v:V}{u:Value}{Q:Unit->Shared->Prop}(I:Inv X pins σ H s)(hN:X.N.Nodup)(hi:X.N[i]?=some x)(hx:Loc X.env.scope x)(r:RelV v u)
  (h:∀s',Inv X pins (σ.set i (some v)) H s'->Q () s') (hf:X.fn x=true∨X.env.scope.names.lookup x=some .local:=by first|exact .inl rfl|exact .inr rfl|assumption):wpAny M A (storeName X.env x u) Q E s:=
 PR I hN hi hx r (fun s' I' _=>h s' I') hf
theorem Inv.call'{s':Shared}{ch:List Addr}(I:Inv X pins σ H s)(ho:s'.os=s.os)(u:Un (frs X.stack) ch H H' s.heap s'.heap)(hok:HOk X.prog X.w H' s'.heap)(hg:AllBare s'.gens)
  (hch:∀b∈ch,(b∈X.ex∨X.s₀.heap.objs.size≤b)/\b≠X.env.locals/\(∀x c,X.env.cells.lookup x=some c->c≠b)/\∀p∈X.pn++pins,p.1≠b):Inv X pins σ H' s':=by
 obtain⟨h',g',d',t',o'⟩:=s'
 have e:o'=s.os:=ho
 subst e
 exact I.call (g':=g') (t':=t') (d':=d') u hok hg hch
end
abbrev XK:=Value->Option Addr->Hp->Prop
abbrev St:=List (Option V)
abbrev VK:=V->Hp->Prop
abbrev TE:=St->Hp->VK->Prop
abbrev TT:=St->Hp->(Bool->Hp->Prop)->Prop
abbrev TA:=St->Hp->(List V->Hp->Prop)->Prop
structure Ends where
 nx:St->Hp->Prop
 rt:VK
 bk:St->Hp->Prop:=fun _ _=>False
 ct:St->Hp->Prop:=fun _ _=>False
abbrev TS:=Ends->St->Hp->Prop
def EP(X:Cx)(pins:List (Addr×Obj))(σ:St)(Q:VK)(u:Value)(s':Shared):Prop:=∃v H',Inv X pins σ H' s'/\RelV v u/\Q v H'
def TP(X:Cx)(pins:List (Addr×Obj))(σ:St)(Q:Bool->Hp->Prop)(b:Bool)(s':Shared):Prop:=∃H',Inv X pins σ H' s'/\Q b H'
def AP(X:Cx)(pins:List (Addr×Obj))(σ:St)(Q:List V->Hp->Prop)(us:List Value)(s':Shared):Prop:=∃vs H',Inv X pins σ H' s'/\Vals vs us/\Q vs H'
def SP(X:Cx)(pins:List (Addr×Obj))(D:Ends)(f:Flow)(s':Shared):Prop:=
 match f with
 | .next=>∃σ' H',Inv X pins σ' H' s'/\D.nx σ' H'
 | .brk=>∃σ' H',Inv X pins σ' H' s'/\D.bk σ' H'
 | .cont=>∃σ' H',Inv X pins σ' H' s'/\D.ct σ' H'
 | .ret u=>∃v σ' H',Inv X pins σ' H' s'/\RelV v u/\D.rt v H'
def PE(X:Cx)(e:Expr)(t:TE):Prop:=
 ∀(pins:List (Addr×Obj)) (s:Shared) (σ:St) (H:Hp) (Q:VK),Inv X pins σ H s->t σ H Q->wpAny (model X.prog X.w) X.A (eval e X.env) (EP X pins σ Q) X.xe s
def PT(X:Cx)(e:Expr)(t:TT):Prop:=
 ∀(pins:List (Addr×Obj)) (s:Shared) (σ:St) (H:Hp) (Q:Bool->Hp->Prop),Inv X pins σ H s->t σ H Q->wpAny (model X.prog X.w) X.A (isTrue e X.env (eval e X.env)) (TP X pins σ Q) X.xe s
def PW(X:Cx)(e:Expr)(t:TT):Prop:=
 ∀(whole:Sem Value) (pins:List (Addr×Obj)) (s:Shared) (σ:St) (H:Hp) (Q:Bool->Hp->Prop),Inv X pins σ H s->t σ H Q->wpAny (model X.prog X.w) X.A (isTrue e X.env whole) (TP X pins σ Q) X.xe s
theorem PW.pt{X:Cx}{e:Expr}{t:TT}(h:PW X e t):PT X e t:=h _
def PA(X:Cx)(es:List Expr)(t:TA):Prop:=
 ∀(pos:Pos) (pins:List (Addr×Obj)) (s:Shared) (σ:St) (H:Hp) (Q:List V->Hp->Prop),Inv X pins σ H s->t σ H Q->wpAny (model X.prog X.w) X.A (spliced (backTo pos (starEach es X.env))) (AP X pins σ Q) X.xe s
def PS(X:Cx)(st:Stmt)(t:TS):Prop:=
 ∀(pins:List (Addr×Obj)) (s:Shared) (σ:St) (H:Hp) (D:Ends),Inv X pins σ H s->t D σ H->wpAny (model X.prog X.w) X.A (exec st X.env) (SP X pins D) X.xe s
def PSs(X:Cx)(st:List Stmt)(t:TS):Prop:=
 ∀(pins:List (Addr×Obj)) (s:Shared) (σ:St) (H:Hp) (D:Ends),Inv X pins σ H s->t D σ H->wpAny (model X.prog X.w) X.A (execs st X.env) (SP X pins D) X.xe s
theorem thn{α:Type}{t:Sem α}{Q Q':α->Shared->Prop}{M:Model}{A:Around}{E:Value->Shared->Prop}{s:Shared}(h:wpAny M A t Q E s)(hQ:∀a s,Q a s->Q' a s):wpAny M A t Q' E s:=wpAny_mono h hQ fun _ _ x=>x
end L2
namespace L2
open PySem PySem.Spec PyProof.Rows
section
variable{X:Cx}
noncomputable def jv(i:Nat):TE:=fun σ H Q=>∃v,σ[i]?=some (some v)/\Q v H
noncomputable def tC(v:V):TE:=fun _ H Q=>Q v H
theorem Tw{i:Nat}{x:Str}{pos:Pos}(hN:X.N[i]?=some x)(hv:Vis X.env.scope x)(hd:(x==("__debug__":Str))=false:=by decide)(hcd:(x==("__classdict__":Str))=false:=by decide):PE X (.Name x pos) (jv i):=by
 intro pins s σ H Q I h
 obtain⟨v,e,h⟩:=h
 obtain⟨m,hn,hl⟩:=I.loc
 obtain⟨u,r,l⟩:=hl i x v hN e hv
 have fin:EP X pins σ Q u s:=⟨v,H,I,r,h⟩
 rcases l with⟨hk,hm⟩|⟨hk,c,hc,hcell⟩
 ·exact wpAny_Name (wpAny_loadName_local I.ok.kind hk hn hm fin) hd
 ·rcases hk with hk|hk
  ·exact wpAny_Name (wpAny_loadName_cell I.ok.kind hk hc hcell fin) hd
  ·exact wpAny_Name (wpAny_loadName_free I.ok.kind hk hc hcell fin hcd) hd
theorem Xs{i j pos}:PE X (.Constant (.int i) j pos) (tC (.int i)):=fun _ _ _ H _ I h=>wpAny_Constant_int ⟨.int i,H,I.tok _,⟨_,rfl⟩,h⟩
theorem iK{b j pos}:PE X (.Constant (.bool b) j pos) (tC (.bl b)):=fun _ _ _ H _ I h=>Constant_bool ⟨.bl b,H,I,rfl,h⟩
theorem dh{j pos}:PE X (.Constant .none j pos) (tC .non):=fun _ _ _ H _ I h=>Constant_none ⟨.non,H,I,rfl,h⟩
theorem dy{x j pos}:PE X (.Constant (.str x) j pos) (tC (.str x)):=fun _ _ _ H _ I h=>Calls.Constant_str ⟨.str x,H,I.tok _,⟨_,rfl⟩,h⟩
def Gl(X:Cx)(x:Str):Prop:=X.env.kindOf x=some .globalImplicit
theorem Sv{E:Value->Shared->Prop}{pins:List (Addr×Obj)}{s:Shared}{σ:St}{H:Hp}{x:Str}{u:Value}{pos:Pos}{Q:Value->Shared->Prop}(I:Inv X pins σ H s)(hg:Gl X x)(hm:X.mg x=some u)(h:Q u s)
  (hd:(x==("__debug__":Str))=false:=by decide):wpAny (model X.prog X.w) X.A (eval (.Name x pos) X.env) Q E s:=
 Calls.Name_function_global I.ok.kind hg (Calls.loadGlobal_global (by rw[I.ok.glob];exact I.mod.glob.keeps I.bk) hm h) hd
theorem MZ{E:Value->Shared->Prop}{pins:List (Addr×Obj)}{s:Shared}{σ:St}{H:Hp}{x:Str}{u:Value}{pos:Pos}{Q:Value->Shared->Prop}(I:Inv X pins σ H s)(hg:Gl X x)(hm:X.mg x=none)(hv:bootBuiltins x=some u)(h:Q u s)
  (hn:x≠ "__name__":=by decide) (hd:(x==("__debug__":Str))=false:=by decide):wpAny (model X.prog X.w) X.A (eval (.Name x pos) X.env) Q E s:=by
 obtain⟨mb,h1,h2⟩:=I.mod.blt
 exact Calls.Name_function_global I.ok.kind hg (Calls.loadGlobal_builtin (by rw[I.ok.glob];exact I.mod.glob.keeps I.bk) hm (by rw[I.ok.blt];exact h1.keeps I.bk) ((h2 x hn).trans hv) h) hd
theorem NV{x:Str}{v:V}{u:Value}{pos:Pos}(hg:Gl X x)(hm:X.mg x=some u)(r:RelV v u)(hd:(x==("__debug__":Str))=false:=by decide):PE X (.Name x pos) (tC v):=
 fun _ _ _ H _ I h=>Sv I hg hm ⟨v,H,I,r,h⟩ hd
theorem ZO{x:Str}{v:V}{u:Value}{pos:Pos}(hg:Gl X x)(hm:X.mg x=none)(hv:bootBuiltins x=some u)(r:RelV v u)(hn:x≠ "__name__":=by decide)(hd:(x==("__debug__":Str))=false:=by decide):PE X (.Name x pos) (tC v):=
 fun _ _ _ H _ I h=>MZ I hg hm hv ⟨v,H,I,r,h⟩ hn hd
variable{a b:Expr}{ta tb:TE}{pos:Pos}
noncomputable def tB(t:TE):TT:=fun σ H Q=>t σ H fun x H1=>∃c,x=.bl c/\Q c H1
theorem cH{e:Expr}{t:TE}(h:PE X e t)(he:∀whole,isTrue e X.env whole=(do let v←whole;standAt e.pos;holding [v] (truthy v)):=by intro _;rfl):PT X e (tB t):=by
 intro pins s σ H Q I hw
 refine isTrue_plain (thn (h pins s σ H _ I hw) fun v s1 ⟨x,H1,I1,r1,q1⟩=>?_) (he _)
 obtain⟨d,rfl,q⟩:=q1
 cases r1
 exact wpAny_truthy_bool ⟨H1,I1,q⟩
variable{tA tB':TT}{rest:List Expr}
noncomputable def jy(t u:TT):TT:=fun σ H Q=>t σ H fun c H1=>if c=true then u σ H1 Q else Q false H1
noncomputable def tOr(t u:TT):TT:=fun σ H Q=>t σ H fun c H1=>if c=true then Q true H1 else u σ H1 Q
noncomputable def kU(t:TT):TT:=fun σ H Q=>t σ H fun c H1=>Q (!c) H1
theorem ZK(ha:PT X a tA):PW X (.BoolOp .And [a] pos) tA:=by
 intro wh pins s σ H Q I h
 refine isTrue_and (thn (ha pins s σ H Q I h) fun c s1 e=>?_)
 cases c with
 |true=>exact isTrue_and_nil e
 |false=>exact e
theorem dM(ha:PT X a tA):PW X (.BoolOp .Or [a] pos) tA:=by
 intro wh pins s σ H Q I h
 refine isTrue_or (thn (ha pins s σ H Q I h) fun c s1 e=>?_)
 cases c with
 |false=>exact isTrue_or_nil e
 |true=>exact e
theorem cR(ha:PT X a tA)(hb:PW X (.BoolOp .And (b::rest) pos) tB'):PW X (.BoolOp .And (a::b::rest) pos) (jy tA tB'):=by
 intro wh pins s σ H Q I h
 refine isTrue_and (thn (ha pins s σ H _ I h) fun c s1 ⟨H1,I1,q1⟩=>?_)
 cases c with
 |true=>exact hb wh pins s1 σ H1 Q I1 q1
 |false=>exact⟨H1,I1,q1⟩
theorem hV(ha:PT X a tA)(hb:PW X (.BoolOp .Or (b::rest) pos) tB'):PW X (.BoolOp .Or (a::b::rest) pos) (tOr tA tB'):=by
 intro wh pins s σ H Q I h
 refine isTrue_or (thn (ha pins s σ H _ I h) fun c s1 ⟨H1,I1,q1⟩=>?_)
 cases c with
 |true=>exact⟨H1,I1,q1⟩
 |false=>exact hb wh pins s1 σ H1 Q I1 q1
theorem bp(ha:PT X a tA):PT X (.UnaryOp .Not a pos) (kU tA):=by
 intro pins s σ H Q I h
 exact isTrue_not (ha pins s σ H (fun c H1=>Q (!c) H1) I h)
noncomputable def iM(ta tb:TE):TE:=fun σ H Q=>ta σ H fun x H1=>∃c,x=.bl c/\if c=true then tb σ H1 Q else Q (.bl false) H1
noncomputable def lA(ta tb:TE):TE:=fun σ H Q=>ta σ H fun x H1=>∃c,x=.bl c/\if c=true then Q (.bl true) H1 else tb σ H1 Q
noncomputable def i0(ta:TE):TE:=fun σ H Q=>ta σ H fun x H1=>∃c,x=.bl c/\Q (.bl (!c)) H1
theorem cj{op}{t:TE}(h:PE X a t):PE X (.BoolOp op [a] pos) t:=fun pins s σ H Q I hw=>BoolOp_one (h pins s σ H Q I hw)
theorem cB(ha:PE X a ta)(hb:PE X (.BoolOp .And (b::rest) pos) tb):PE X (.BoolOp .And (a::b::rest) pos) (iM ta tb):=by
 intro pins s σ H Q I h
 refine BoolOp_and (thn (ha pins s σ H _ I h) fun v s1 ⟨x,H1,I1,r1,q1⟩=>?_)
 obtain⟨c,rfl,q1⟩:=q1
 cases r1
 refine wpAny_truthy_bool ?_
 cases c with
 |true=>exact hb pins s1 σ H1 Q I1 q1
 |false=>exact⟨.bl false,H1,I1,rfl,q1⟩
theorem gj(ha:PE X a ta)(hb:PE X (.BoolOp .Or (b::rest) pos) tb):PE X (.BoolOp .Or (a::b::rest) pos) (lA ta tb):=by
 intro pins s σ H Q I h
 refine BoolOp_or (thn (ha pins s σ H _ I h) fun v s1 ⟨x,H1,I1,r1,q1⟩=>?_)
 obtain⟨c,rfl,q1⟩:=q1
 cases r1
 refine wpAny_truthy_bool ?_
 cases c with
 |false=>exact hb pins s1 σ H1 Q I1 q1
 |true=>exact⟨.bl true,H1,I1,rfl,q1⟩
theorem az(ha:PE X a ta):PE X (.UnaryOp .Not a pos) (i0 ta):=by
 intro pins s σ H Q I h
 refine UnaryOp_ (thn (ha pins s σ H _ I h) fun v s1 ⟨x,H1,I1,r1,q1⟩=>?_)
 obtain⟨c,rfl,q1⟩:=q1
 cases r1
 exact not_of (wpAny_truthy_bool ⟨.bl (!c),H1,I1,rfl,q1⟩)
end
end L2
namespace L2
open PySem PySem.Spec PyProof.Rows
def SqL(K:PySem.W.Frag)(H:Hp)(a:Addr)(xs:List V):Prop:=
 Rd H a (.lst xs)∨
  ∃(o:Obj) (its:Array Value) (n:Nat),K.lookup a=some o/\o.cls=.type "list" /\o.dict=none/\o.data=.seq its n/\its.size≤sizeLine/\Vals xs its.toList
def SqT(K:PySem.W.Frag)(H:Hp)(a:Addr)(xs:List V):Prop:=
 Rd H a (.tup xs)∨
  ∃(o:Obj) (its:Array Value) (n:Nat),K.lookup a=some o/\o.cls=.type "tuple" /\o.data=.seq its n/\its.size≤sizeLine/\Vals xs its.toList
noncomputable def ky:Value->Option V
 | .none=>some .non
 | .bool b=>some (.bl b)
 | .int i _=>some (.int i)
 | .str x _=>some (.str x)
 | .bytes b _=>some (.byt b)
 | .float b _=>some (.flt b)
 | .ref a=>some (.ref a)
 | .type n=>some (.ty n)
 |_=>none
theorem RelV.abs{x:V}{u:Value}(r:RelV x u):ky u=some x:=by
 cases x with
 |non=>cases r;rfl
 |bl _=>cases r;rfl
 |int _=>obtain⟨t,rfl⟩:=r;rfl
 |str _=>obtain⟨t,rfl⟩:=r;rfl
 |byt _=>obtain⟨t,rfl⟩:=r;rfl
 |flt _=>obtain⟨t,rfl⟩:=r;rfl
 |ref _=>cases r;rfl
 |ty _=>cases r;rfl
theorem RelV.inj{x y:V}{u:Value}(r:RelV x u)(q:RelV y u):x=y:=Option.some.inj (r.abs.symm.trans q.abs)
theorem Vals.inj:∀{xs ys:List V} {us:List Value},Vals xs us->Vals ys us->xs=ys
 |_,_,_,.nil,.nil=>rfl
 |_,_,_,.cons r t,.cons r' t'=>by rw[r.inj r',Vals.inj t t']
section
variable{X:Cx}{pins:List (Addr×Obj)}{σ:St}{H:Hp}{s:Shared}{a:Addr}{xs ys:List V}
theorem SqL.of{K:PySem.W.Frag}(h:H a=some (.lst xs)):SqL K H a xs:=.inl (.inl h)
theorem SqT.of{K:PySem.W.Frag}(h:H a=some (.tup xs)):SqT K H a xs:=.inl (.inl h)
theorem Inv.list(I:Inv X pins σ H s)(h:SqL X.K H a xs):∃its:List Value,Vals xs its/\PlainL s.heap a its.toArray/\xs.length≤sizeLine:=by
 rcases h with h|⟨o,its,n,hk,hc,hd,hs,hz,r⟩
 ·obtain⟨z,its,n,r,e⟩:=h.ok I.hok
  exact⟨its,r,⟨_,n,e,rfl,rfl,rfl⟩,z⟩
 ·refine⟨its.toList,r,⟨o,n,I.kIn a o hk,hc,hd,by simpa using hs⟩,?_⟩
  have e:=r.length
  simp only[Array.length_toList]at e
  omega
theorem Inv.tuple(I:Inv X pins σ H s)(h:SqT X.K H a xs):∃its:List Value,Vals xs its/\IsTup s.heap a its.toArray/\xs.length≤sizeLine:=by
 rcases h with h|⟨o,its,n,hk,hc,hs,hz,r⟩
 ·obtain⟨z,its,r,p⟩:=h.ok I.hok
  exact⟨its,r,p,z⟩
 ·refine⟨its.toList,r,⟨o,I.kIn a o hk,hc,n,by simpa using hs⟩,?_⟩
  have e:=r.length
  simp only[Array.length_toList]at e
  omega
theorem Inv.list_inj(I:Inv X pins σ H s)(h:SqL X.K H a xs)(h':SqL X.K H a ys):xs=ys:=by
 obtain⟨its,r,⟨o,n,e,_,_,d⟩,_⟩:=I.list h
 obtain⟨its',r',⟨o',n',e',_,_,d'⟩,_⟩:=I.list h'
 rw[e]at e';cases e'
 rw[d]at d'
 injection d' with d1 _
 have:its=its':=by simpa using congrArg Array.toList d1
 subst this
 exact r.inj r'
theorem Inv.tuple_inj(I:Inv X pins σ H s)(h:SqT X.K H a xs)(h':SqT X.K H a ys):xs=ys:=by
 obtain⟨its,r,⟨o,e,_,n,d⟩,_⟩:=I.tuple h
 obtain⟨its',r',⟨o',e',_,n',d'⟩,_⟩:=I.tuple h'
 rw[e]at e';cases e'
 rw[d]at d'
 injection d' with d1 _
 have:its=its':=by simpa using congrArg Array.toList d1
 subst this
 exact r.inj r'
end
abbrev Cx.wish(X:Cx)(E:Value->Shared->Prop):Cx:={X with xe:=E}
abbrev Cx.nox(X:Cx):Cx:=X.wish fun _ _=>False
theorem Cx.Ok.wish{X:Cx}(ok:X.Ok)(E:Value->Shared->Prop):(X.wish E).Ok:=
 ⟨ok.mod,ok.kind,ok.glob,ok.blt,ok.above,ok.inj,ok.has,ok.cab,ok.hd,ok.frames,ok.stk,ok.exf,ok.bs,ok.bsz,ok.noex,ok.exfs,ok.funs,ok.frf⟩
theorem Cx.Ok.unwish{X:Cx}{E:Value->Shared->Prop}(ok:(X.wish E).Ok):X.Ok:=
 ⟨ok.mod,ok.kind,ok.glob,ok.blt,ok.above,ok.inj,ok.has,ok.cab,ok.hd,ok.frames,ok.stk,ok.exf,ok.bs,ok.bsz,ok.noex,ok.exfs,ok.funs,ok.frf⟩
section
variable{X:Cx}{pins:List (Addr×Obj)}{σ:St}{H:Hp}{s:Shared}{E:Value->Shared->Prop}
theorem Inv.wish(I:Inv X pins σ H s)(E:Value->Shared->Prop):Inv (X.wish E) pins σ H s:=⟨I.ok.wish E,I.os,I.bare,I.base,I.loc,I.cell,I.free,I.freeC,I.pin,I.hok,I.len⟩
theorem Inv.unwish(I:Inv (X.wish E) pins σ H s):Inv X pins σ H s:=⟨I.ok.unwish,I.os,I.bare,I.base,I.loc,I.cell,I.free,I.freeC,I.pin,I.hok,I.len⟩
theorem SP.unwish{D:Ends}{f:Flow}{s':Shared}(h:SP (X.wish E) pins D f s'):SP X pins D f s':=by
 cases f with
 |next=>obtain⟨σ',H',I,q⟩:=h;exact⟨σ',H',I.unwish,q⟩
 |brk=>obtain⟨σ',H',I,q⟩:=h;exact⟨σ',H',I.unwish,q⟩
 |cont=>obtain⟨σ',H',I,q⟩:=h;exact⟨σ',H',I.unwish,q⟩
 |ret u=>obtain⟨v,σ',H',I,r,q⟩:=h;exact⟨v,σ',H',I.unwish,r,q⟩
theorem PSs.nox{st:List Stmt}{t:TS}(h:PSs X.nox st t):PSs X st t:=fun pins s σ H D I hw=>
 wpAny_mono (h pins s σ H D (I.wish _) hw) (fun _ _ q=>q.unwish) fun _ _ z=>False.elim z
end
section
variable{X:Cx}{st:Stmt}{rest:List Stmt}{t u:TS}{e:Expr}{te:TE}{pos:Pos}
noncomputable def iB:TS:=fun D σ H=>D.nx σ H
noncomputable def kH(t u:TS):TS:=fun D σ H=>t {D with nx:=u D} σ H
theorem Z6:PSs X [] iB:=fun _ _ σ H _ I h=>wpAny_execs_nil ⟨σ,H,I,h⟩
theorem QP(h1:PS X st t)(h2:PSs X rest u):PSs X (st::rest) (kH t u):=by
  intro pins s σ H D I h
  refine wpAny_execs_cons (thn (h1 pins s σ H {D with nx:=u D} I h) fun f s1 q=>?_)
  cases f with
  | next =>
    obtain⟨σ',H',I',q⟩:=q
    exact h2 pins s1 σ' H' D I' q
  |ret v=>exact q
  |brk=>exact q
  |cont=>exact q
theorem S9(h1:PS X st t):PSs X [st] t:=by
 intro pins s σ H D I h
 refine wpAny_execs_cons (thn (h1 pins s σ H D I h) fun f s1 q=>?_)
 cases f with
 |next=>exact wpAny_execs_nil q
 |ret v=>exact q
 |brk=>exact q
 |cont=>exact q
theorem Inv.quiet{pins:List (Addr×Obj)}{σ:St}{H:Hp}{s:Shared}(I:Inv X pins σ H s):interactive X.env=false:=by simp[interactive,I.ok.kind]
noncomputable def iZ(te:TE):TS:=fun D σ H=>te σ H fun _ H1=>D.nx σ H1
theorem Z3(he:PE X e te)(hs:swapsWith e none pos.line X.env=pure false:=by rfl):PS X (.Expr e pos) (iZ te):=by
 intro pins s σ H D I h
 exact wpAny_Expr_any (thn (he pins s σ H _ I h) fun v s1 ⟨x,H1,I1,r1,q1⟩=>⟨σ,H1,I1,q1⟩) I.quiet hs
noncomputable def jw(te:TE):TS:=fun D σ H=>te σ H D.rt
theorem Xw(he:PE X e te):PS X (.Return (some e) pos) (jw te):=by
 intro pins s σ H D I h
 exact wpAny_Return_some (thn (he pins s σ H _ I h) fun v s1 ⟨x,H1,I1,r1,q1⟩=>⟨x,σ,H1,I1,r1,q1⟩)
noncomputable def kG(c:TT)(t u:TS):TS:=fun D σ H=>c σ H fun b H1=>if b=true then t D σ H1 else u D σ H1
theorem iu{c:Expr}{a b:List Stmt}{tc:TT}(hc:PT X c tc)(ha:PSs X a t)(hb:PSs X b u):PS X (.If c a b pos) (kG tc t u):=by
 intro pins s σ H D I h
 refine wpAny_If (thn (hc pins s σ H _ I h) fun d s1 ⟨H1,I1,q1⟩=>?_)
 cases d with
 |true=>exact ha pins s1 σ H1 D I1 q1
 |false=>exact hb pins s1 σ H1 D I1 q1
end
abbrev TG:=V->St->Hp->(St->Hp->Prop)->Prop
abbrev TGs:=List V->St->Hp->(St->Hp->Prop)->Prop
def PG(X:Cx)(target:Expr)(t:TG):Prop:=
 ∀ (pins : List (Addr × Obj)) (s : Shared) (σ : St) (H : Hp) (v : V) (u : Value) (Q : St -> Hp -> Prop), Inv X pins σ H s -> RelV v u -> t v σ H Q ->
  wpAny (model X.prog X.w) X.A (assign target X.env u) (fun _ s'=>∃σ' H',Inv X pins σ' H' s'/\Q σ' H') X.xe s
def PGs(X:Cx)(ts:List Expr)(t:TGs):Prop:=
 ∀ (pins : List (Addr × Obj)) (s : Shared) (σ : St) (H : Hp) (vs : List V) (us : List Value) (Q : St -> Hp -> Prop), Inv X pins σ H s -> Vals vs us -> t vs σ H Q ->
  wpAny (model X.prog X.w) X.A (assignInOrder ((assignEach ts X.env).map (·.2)) us) (fun _ s'=>∃σ' H',Inv X pins σ' H' s'/\Q σ' H') X.xe s
abbrev iX:=V->V->V->Hp->(Hp->Prop)->Prop
def jZ(X:Cx)(t:iX):Prop:=
 ∀ (pins : List (Addr × Obj)) (s : Shared) (σ : St) (H : Hp) (o i v : V) (ov iv u : Value) (Q : Hp -> Prop), Inv X pins σ H s -> RelV o ov -> RelV i iv -> RelV v u -> t o i v H Q ->
  wpAny (model X.prog X.w) X.A (setItem ov iv u) (fun _ s'=>∃H',Inv X pins σ H' s'/\Q H') X.xe s
section
variable{X:Cx}{pos:Pos}
noncomputable def aN(i:Nat):TG:=fun v σ H Q=>Q (σ.set i (some v)) H
theorem ZT{i:Nat}{x:Str}(hN:X.N.Nodup)(hi:X.N[i]?=some x)(hx:Loc X.env.scope x)(hf:X.fn x=true∨X.env.scope.names.lookup x=some .local:=by first|exact .inl rfl|exact .inr rfl|assumption):PG X (.Name x pos) (aN i):=by
 intro pins s σ H v u Q I r h
 exact wpAny_assign_Name (Kj I hN hi hx r (fun s' I'=>⟨_,H,I',h⟩) hf)
noncomputable def jH:TGs:=fun vs σ H Q=>vs=[]/\Q σ H
noncomputable def cL(t:TG)(u:TGs):TGs:=fun vs σ H Q=>∃v r,vs=v::r/\t v σ H fun σ' H'=>u r σ' H' Q
theorem Y0:PGs X [] jH:=by
 intro pins s σ H vs us Q I r h
 obtain⟨e,h⟩:=h
 subst e
 cases r
 exact assignInOrder_nil ⟨σ,H,I,h⟩
theorem WJ{e:Expr}{es:List Expr}{t:TG}{u:TGs}(h1:PG X e t)(h2:PGs X es u)
    (hs:(assignEach (e::es) X.env).map (·.2)=assign e X.env::(assignEach es X.env).map (·.2):=by rfl):PGs X (e::es) (cL t u):=by
  intro pins s σ H vs us Q I r h
  obtain⟨v,vr,e1,h⟩:=h
  subst e1
  cases r with
  | cons r rr =>
    rw[hs]
    refine assignInOrder_cons (thn (h1 pins s σ H _ _ _ I r h) fun _ s1 ⟨σ1,H1,I1,q1⟩=>?_)
    exact h2 pins s1 σ1 H1 _ _ Q I1 rr q1
noncomputable def kh(K:PySem.W.Frag)(n:Nat)(t:TGs):TG:=fun v σ H Q=>∃a xs,v=.ref a/\SqT K H a xs/\xs.length=n/\t xs σ H Q
theorem bE{es:List Expr}{k:Nat}{t:TGs}{n:Nat}(hc:X.calm=true)(h:PGs X es t)
  (hn:(assignEach es X.env).length=n:=by rfl) (hst:(assignEach es X.env).findIdx? (·.1)=none:=by rfl):PG X (.Tuple es k pos) (kh X.K n t):=by
 intro pins s σ H v u Q I r hw
 obtain⟨a,xs,e1,hq,hl,hw⟩:=hw
 subst e1
 cases r
 obtain⟨its,rv,ht,hz⟩:=I.tuple hq
 refine assign_Tuple_tuple (I.ok.hd hc) ht (by simp[hn,←hl,rv.length]) hst fun h' hx=>?_
 have I1:Inv X pins σ H {s with heap:=h'}:=I.kept (t':=s.toks) fun b o e=>hx b o (Nat.ne_of_lt (Heap.lt_size e)) e
 exact h pins _ σ H xs _ Q I1 (by simpa using rv) hw
noncomputable def lB(to ti:TE)(t:iX):TG:=fun v σ H Q=>to σ H fun o H1=>ti σ H1 fun i H2=>t o i v H2 fun H3=>Q σ H3
theorem cK{o i:Expr}{to ti:TE}{t:iX}(ho:PE X o to)(hi:PE X i ti)(hs:jZ X t)
  (ha:∀v,assign (.Subscript o i pos) X.env v=(do
   let ov←holding [v] (eval o X.env)
   let iv←holding [v,ov] (eval i X.env)
   standAt pos
   holding [v,ov,iv] (setItem ov iv v)
   release [v,ov,iv] []):=by intro _;rfl):PG X (.Subscript o i pos) (lB to ti t):=by
 intro pins s σ H v u Q I r h
 rw[ha]
 refine wpAny_bind (wpAny_holding (thn (ho pins s σ H _ I h) fun ov s1 ⟨x,H1,I1,r1,q1⟩=>?_))
 refine wpAny_bind (wpAny_holding (thn (hi pins s1 σ H1 _ I1 q1) fun iv s2 ⟨y,H2,I2,r2,q2⟩=>?_))
 refine wpAny_bind (wpAny_standAt (wpAny_bind (wpAny_holding (thn (hs pins s2 σ H2 x y v ov iv u _ I2 r1 r2 r q2) fun _ s3 ⟨H3,I3,q3⟩=>?_))))
 exact wpAny_release ⟨σ,H3,I3,q3⟩
noncomputable def gX(te:TE)(g:TG):TS:=fun D σ H=>te σ H fun x H1=>g x σ H1 D.nx
theorem Yl{tg e:Expr}{te:TE}{g:TG}(he:PE X e te)(hg:PG X tg g)(hs:swapsWithSole [tg] e pos.line X.env=pure false:=by rfl)(hw:swappedStores [tg] e X.env=pure none:=by rfl)
  (h1:(assignEach [tg] X.env).map (·.2)=[assign tg X.env]:=by rfl):PS X (.Assign [tg] e pos) (gX te g):=by
 intro pins s σ H D I h
 refine wpAny_Assign_stores (thn (he pins s σ H _ I h) fun v s1 ⟨x,H1,I1,r1,q1⟩=>?_) hs hw
 rw[h1]
 exact thn (hg pins s1 σ H1 x v _ I1 r1 q1) fun _ s2 q=>q
theorem Yh{i:Nat}{x:Str}{e:Expr}{te:TE}{pos':Pos}(hN:X.N.Nodup)(hi:X.N[i]?=some x)(hx:Loc X.env.scope x)(he:PE X e te)(hs:swapsWith e (some (.Name x pos')) pos.line X.env=pure false:=by rfl)(hf:X.fn x=true∨X.env.scope.names.lookup x=some .local:=by first|exact .inl rfl|exact .inr rfl|assumption):
  PS X (.Assign [.Name x pos'] e pos) (gX te (aN i)):=by
 intro pins s σ H D I h
 refine wpAny_Assign_Name (thn (he pins s σ H _ I h) fun v s1 ⟨y,H1,I1,r1,q1⟩=>?_) hs
 exact Kj I1 hN hi hx r1 (fun s2 I2=>⟨_,H1,I2,q1⟩) hf
noncomputable def jz(i j:Nat)(ta:TA):TS:=fun D σ H=>ta σ H fun vs H1=>∃v w,vs=[v,w]/\D.nx ((σ.set i (some v)).set j (some w)) H1
theorem cx{i j:Nat}{x y:Str}{a b:Expr}{ta:TA}{px py pt:Pos}{kt k2 pt2}(hc:X.calm=true)(hN:X.N.Nodup)(hi:X.N[i]?=some x)(hj:X.N[j]?=some y)(hij:i≠j)
    (hx:X.env.scope.names.lookup x=some .local) (hy:X.env.scope.names.lookup y=some .local) (ha:PA X [a,b] ta)
    (hw:swappedStores [.Tuple [.Name x px,.Name y py] kt pt] (.Tuple [a,b] k2 pt2) X.env=pure (some [x,y]))
    (hs:swapsWithSole [.Tuple [.Name x px,.Name y py] kt pt] (.Tuple [a,b] k2 pt2) pos.line X.env=pure false:=by rfl):
    PS X (.Assign [.Tuple [.Name x px,.Name y py] kt pt] (.Tuple [a,b] k2 pt2) pos) (jz i j ta):=by
  intro pins s σ H D I h
  rw[exec_Assign_arm]
  refine wpAny_bind (wpAny_standAt ?_)
  rw[hs]
  refine wpAny_bind (wpAny_pure ?_)
  rw[if_neg (by decide)]
  refine wpAny_bind (Tuple_ (thn (ha _ pins s σ H _ I h) fun us s1 ⟨vs,H1,I1,r1,q1⟩=>?_))
  obtain⟨v,w,e1,q1⟩:=q1
  subst e1
  obtain ⟨u1, u2, rfl, rv, rw'⟩ : ∃ u1 u2, us = [u1, u2] /\ RelV v u1 /\ RelV w u2 := by
    cases r1 with
    | cons p q =>
      cases q with
      | cons p' q' =>
        cases q'
        exact⟨_,_,rfl,p,p'⟩
  refine wpAny_newObj_type ?_ (by show 2≤sizeLine;decide)
  have I2:Inv X pins σ H1 {s1 with heap:=s1.heap.push {cls:=.type "tuple",data:=.seq [u1,u2].toArray}}:=I1.kept (t':=s1.toks) fun b o e=>Heap.get?_push_of_some _ e
  rw[hw]
  refine wpAny_bind (wpAny_pure ?_)
  show wpAny (model X.prog X.w) X.A (do rule "assign.swapped-stores"; let items←unpackItems (.ref s1.heap.objs.size) 2 none;assignInOrder [fun v=>bindName X.env y v,fun v=>bindName X.env x v] items.reverse;pure Flow.next) _ _ _
  refine wpAny_bind (wpAny_rule (wpAny_bind (unpackItems_tuple (items:= #[u1,u2]) (I.ok.hd hc) (IsTup.new s1.heap _) fun h' hx'=>?_)))
  have I3:=I2.kept (h':=h') (t':=s1.toks) fun b o e=>hx' b o (Nat.ne_of_lt (Heap.lt_size e)) e
  show wpAny _ _ (assignInOrder [fun v=>bindName X.env y v,fun v=>bindName X.env x v] [u2,u1] >>= fun _=>pure Flow.next) _ _ _
  refine wpAny_bind (assignInOrder_cons (wpAny_bindName (Kj I3 hN hj (.inl hy) rw' (fun s2 I4=>?_) (.inr hy))))
  refine assignInOrder_cons (wpAny_bindName (Kj I4 hN hi (.inl hx) rv (fun s3 I5=>assignInOrder_nil (wpAny_pure ?_)) (.inr hx)))
  rw[List.set_comm _ _ (Ne.symm hij)]at I5
  exact⟨_,H1,I5,q1⟩
end
section
variable{X:Cx}{pos:Pos}
noncomputable def dX(c:TT)(tb:TS):TS:=fun D σ H=>∃W:Nat->St->Hp->Prop,(∃m,W m σ H)/\∀m σ H,W m σ H->
 c σ H fun b H1=>if b=true then∃N:St->Hp->Prop,(∀σ' H',N σ' H'->∃m',m'<m/\W m' σ' H')/\tb {D with nx:=N,ct:=N,bk:=D.nx} σ H1 else D.nx σ H1
theorem XS{c:Expr}{body:List Stmt}{tc:TT}{tb:TS}(hp:PassesOwn (model X.prog X.w) X.A X.env X.xe)(hc:PT X c tc)(hb:PSs X body tb):PS X (.While c body [] pos) (dX tc tb):=by
  intro pins s σ H D I h
  obtain⟨W,⟨m0,w0⟩,turn⟩:=h
  refine wpAny_While (codeAny_whileLoop (fun n s'=>∃σ' H',Inv X pins σ' H' s'/\W n σ' H') ?_ m0 ⟨σ,H,I,w0⟩)
  rintro n s1 ⟨σ1,H1,I1,w1⟩
  refine wpAny_passesOwn hp (thn (hc pins s1 σ1 H1 _ I1 (turn n σ1 H1 w1)) fun b s2 ⟨H2,I2,q2⟩=>?_)
  cases b with
  | true =>
    obtain⟨N,hN,q2⟩:=q2
    rw[if_pos rfl]
    refine wpAny_passesOwn hp (thn (hb pins s2 σ1 H2 _ I2 q2) fun f s3 q3=>?_)
    cases f with
    | next =>
      obtain⟨σ3,H3,I3,n3⟩:=q3
      obtain⟨m',hm,w3⟩:=hN σ3 H3 n3
      exact⟨m',hm,σ3,H3,I3,w3⟩
    | cont =>
      obtain⟨σ3,H3,I3,n3⟩:=q3
      obtain⟨m',hm,w3⟩:=hN σ3 H3 n3
      exact⟨m',hm,σ3,H3,I3,w3⟩
    |brk=>exact q3
    |ret v=>exact q3
  | false =>
    rw[if_neg Bool.false_ne_true]
    exact wpAny_execs_nil ⟨σ1,H2,I2,q2⟩
end
structure It where
 go:Nat->Hp->Prop
 yld:Nat->Hp->V->Hp->Prop
 stop:Nat->Hp->Prop
def Pq(X:Cx)(pins:List (Addr×Obj))(H:Hp)(b:Addr):Prop:=
 H b=none/\b≠X.env.locals/\b∉X.fs/\(b∈X.ex∨X.s₀.heap.objs.size≤b)/\(∀x c,X.env.cells.lookup x=some c->c≠b)/\∀p∈X.pn++pins,p.1≠b
theorem Inv.fpOk{X:Cx}{pins:List (Addr×Obj)}{σ:St}{H H':Hp}{s:Shared}{b:Addr}(I:Inv X pins σ H s)(hb:s.heap.objs.size≤b)(hn:H' b=none):Pq X pins H' b:=by
 refine⟨hn,Nat.ne_of_gt (Nat.lt_of_lt_of_le I.lt hb),I.nofs hb,.inr (Nat.le_trans I.sz hb),fun x c e z=>?_,fun p hp z=>?_⟩
 ·obtain⟨v,q⟩:=I.cell x c e
  exact absurd (Nat.lt_of_lt_of_le q.lt (by rw[z];exact hb)) (Nat.lt_irrefl _)
 ·exact absurd (Nat.lt_of_lt_of_le (Heap.lt_size (I.pin p hp).1) (by rw[z];exact hb)) (Nat.lt_irrefl _)
structure Turn(P:Program)(w:World)(K:PySem.W.Frag)(tg:Expr)(J:It)(fp:List Addr)(it:Addr)(tn:Nat->Heap->Prop):Prop where
 mem:it∈fp
 obj:∀i h,tn i h->∀b∈fp,∃o,h.get? b=some o/\∀v,o.data≠.cell v
 keep:∀i h h',tn i h->(∀b∈fp,∀o,h.get? b=some o->h'.get? b=some o)->tn i h'
 item:∀(X:Cx),X.prog=P->X.w=w->X.K=K->X.calm=true->∀(i:Nat) (pins:List (Addr×Obj)) (s:Shared) (σ:St) (H:Hp) (E:Value->Shared->Prop),Inv X pins σ H s->(∀b∈fp,Pq X pins H b)->tn i s.heap->J.go i H->
  wpAny (model P w) X.A (pyNext (.ref it)) (fun r s1=>∃u,r=some u/\
   wpAny (model P w) X.A (letOwnedTupleGo tg (.ref it) u) (fun _ s2=>∃x H',Inv X pins σ H' s2/\RelV x u/\J.yld i H x H'/\tn (i+1) s2.heap/\∀b∈fp,H' b=none) E s1) E s
 done:∀(X:Cx),X.prog=P->X.w=w->X.K=K->X.calm=true->∀(i:Nat) (pins:List (Addr×Obj)) (s:Shared) (σ:St) (H:Hp) (E:Value->Shared->Prop),Inv X pins σ H s->(∀b∈fp,Pq X pins H b)->tn i s.heap->J.stop i H->
  wpAny (model P w) X.A (pyNext (.ref it)) (fun r s1=>r=none/\Inv X pins σ H s1) E s
 self:∀(A:Around) (i:Nat) (s:Shared) (Q:Value->Shared->Prop) (E:Value->Shared->Prop),tn i s.heap->Q (.ref it) s->wpAny (model P w) A (pyIter (.ref it)) Q E s
abbrev TI:=St->Hp->(It->Hp->Prop)->Prop
def PIE(X:Cx)(pins:List (Addr×Obj))(σ:St)(tg:Expr)(R:It->Hp->Prop)(itv:Value)(s2:Shared):Prop:=
 ∃(it:Addr) (fp:List Addr) (tn:Nat->Heap->Prop) (J:It) (H':Hp),itv=.ref it/\Inv X pins σ H' s2/\Turn X.prog X.w X.K tg J fp it tn/\tn 0 s2.heap/\(∀b∈fp,Pq X pins H' b)/\R J H'
def PI(X:Cx)(tg iter:Expr)(wi:TI):Prop:=
 ∀ (pins : List (Addr × Obj)) (s : Shared) (σ : St) (H : Hp) (R : It -> Hp -> Prop), Inv X pins σ H s -> wi σ H R ->
  wpAny (model X.prog X.w) X.A (eval iter X.env) (fun v s1=>wpAny (model X.prog X.w) X.A (pyIter v) (PIE X pins σ tg R) X.xe s1) X.xe s
theorem Yq {M : Model} {A : Around} {E : Value -> Shared -> Prop} {s : Shared} {tg : Expr} {it : Addr} {u : Value} {o : Obj} {n : String} {vs : Array Value} {Q : Unit -> Shared -> Prop} (ho : s.heap.get? it = some o) (hc : o.cls = .type n) (hd : o.data = .fields vs)
    (hn:["enumerate","zip","dict_itemiterator","dict_reverseitemiterator","odict_iterator","itertools.zip_longest","itertools.pairwise"].contains n=false) (hQ:Q () s):wpAny M A (letOwnedTupleGo tg (.ref it) u) Q E s:=by
  unfold letOwnedTupleGo
  cases tg <;> first
    |exact wpAny_pure hQ
    |(cases u<;>first
        |exact wpAny_pure hQ
        | (refine wpAny_bind (wpAny_load ho ?_)
           rw[hc,hd]
           show wpAny M A (if(["enumerate","zip","dict_itemiterator","dict_reverseitemiterator","odict_iterator","itertools.zip_longest","itertools.pairwise"].contains n && vs[0]?==some (rawInt _))=true then _ else _) Q E s
           rw[if_neg (by intro h;rw[hn,Bool.false_and]at h;cases h)]
           exact wpAny_pure hQ))
noncomputable def Itl(K:PySem.W.Frag)(a:Addr):It:=
 ⟨fun i H=>∃xs x,SqL K H a xs/\xs[i]?=some x,fun i H x H'=>H'=H/\∀xs,SqL K H a xs->xs[i]?=some x,fun i H=>∃xs,SqL K H a xs/\xs.length≤i⟩
noncomputable def Itt(K:PySem.W.Frag)(a:Addr):It:=
 ⟨fun i H=>∃xs x,SqT K H a xs/\xs[i]?=some x,fun i H x H'=>H'=H/\∀xs,SqT K H a xs->xs[i]?=some x,fun i H=>∃xs,SqT K H a xs/\xs.length≤i⟩
noncomputable def Itr(lo:Int)(n:Nat):It:=⟨fun i _=>i<n,fun i H x H'=>H'=H/\x=.int (lo+i),fun i _=>n≤i⟩
theorem Uh{P:Program}{w:World}{K:PySem.W.Frag}{tg:Expr}(a it:Addr):Turn P w K tg (Itl K a) [it] it (fun i h=>h.IsListIter it a i) where
 mem:=by simp
 obj:=fun i h st b hb=>by
  have e:b=it:=by simpa using hb
  subst e
  obtain⟨o,e,c,d⟩:=st
  exact⟨o,e,fun v z=>by rw[d]at z;cases z⟩
 keep:=fun i h h' st k=>st.at fun o e=>k it (by simp) o e
 item:=by
  intro X hP hw hK hc i pins s σ H E I hf st hg
  subst hP hw hK
  obtain⟨xs,x,hq,hx⟩:=hg
  obtain⟨its,rv,p,hz⟩:=I.list hq
  obtain⟨u,hu,ru⟩:=rv.get hx
  obtain⟨f0,f1,f2,f3,f4,f5⟩:=hf it (by simp)
  refine wpAny_pyNext_list_item st p.isList (x:=u) (by simpa using hu) fun h' st' sb=>?_
  have I1:Inv X pins σ H {s with heap:=h'}:=I.turned (t':=s.toks) (fun b o hb e=>(sb.2 b hb).trans e) f0 f1 f3 f4 f5
  obtain⟨o,e,c,d⟩:=id st'
  exact⟨u,rfl,Yq (s:={s with heap:=h'}) e c d (by decide) ⟨x,H,I1,ru,⟨rfl,fun ys hy=>by rw[I.list_inj hy hq];exact hx⟩,st',fun b hb=>(hf b hb).1⟩⟩
 done:=by
  intro X hP hw hK hc i pins s σ H E I hf st hg
  subst hP hw hK
  obtain⟨xs,hq,hx⟩:=hg
  obtain⟨its,rv,p,hz⟩:=I.list hq
  obtain⟨f0,f1,f2,f3,f4,f5⟩:=hf it (by simp)
  have hl:=rv.length
  exact wpAny_pyNext_list_end (I.ok.hd hc) st p.isList (by simp;omega) fun h' eb=>⟨rfl,I.turned (t':=s.toks) (fun b o hb e=>eb b o hb e) f0 f1 f3 f4 f5⟩
 self:=fun _ _ _ _ _ st h=>wpAny_pyIter_listiter st h
theorem Q7{P:Program}{w:World}{K:PySem.W.Frag}{tg:Expr}(a it:Addr):Turn P w K tg (Itt K a) [it] it (fun i h=>h.IsTupleIter it a i) where
 mem:=by simp
 obj:=fun i h st b hb=>by
  have e:b=it:=by simpa using hb
  subst e
  obtain⟨o,e,c,d⟩:=st
  exact⟨o,e,fun v z=>by rw[d]at z;cases z⟩
 keep:=fun i h h' st k=>st.at fun o e=>k it (by simp) o e
 item:=by
  intro X hP hw hK hc i pins s σ H E I hf st hg
  subst hP hw hK
  obtain⟨xs,x,hq,hx⟩:=hg
  obtain⟨its,rv,p,hz⟩:=I.tuple hq
  obtain⟨u,hu,ru⟩:=rv.get hx
  obtain⟨f0,f1,f2,f3,f4,f5⟩:=hf it (by simp)
  refine wpAny_pyNext_tuple_item st (show s.heap.IsTuple a its.toArray from p) (x:=u) (by simpa using hu) fun h' st' sb=>?_
  have I1:Inv X pins σ H {s with heap:=h'}:=I.turned (t':=s.toks) (fun b o hb e=>(sb.2 b hb).trans e) f0 f1 f3 f4 f5
  obtain⟨o,e,c,d⟩:=id st'
  exact⟨u,rfl,Yq (s:={s with heap:=h'}) e c d (by decide) ⟨x,H,I1,ru,⟨rfl,fun ys hy=>by rw[I.tuple_inj hy hq];exact hx⟩,st',fun b hb=>(hf b hb).1⟩⟩
 done:=by
  intro X hP hw hK hc i pins s σ H E I hf st hg
  subst hP hw hK
  obtain⟨xs,hq,hx⟩:=hg
  obtain⟨its,rv,p,hz⟩:=I.tuple hq
  obtain⟨f0,f1,f2,f3,f4,f5⟩:=hf it (by simp)
  have hl:=rv.length
  exact wpAny_pyNext_tuple_end (I.ok.hd hc) st (show s.heap.IsTuple a its.toArray from p) (by simp;omega) fun h' eb=>⟨rfl,I.turned (t':=s.toks) (fun b o hb e=>eb b o hb e) f0 f1 f3 f4 f5⟩
 self:=fun _ _ _ _ _ st h=>wpAny_pyIter_tupleiter st h
theorem Q5{P:Program}{w:World}{K:PySem.W.Frag}{tg:Expr}(it:Addr)(lo:Int)(n:Nat):Turn P w K tg (Itr lo n) [it] it (fun i h=>IsRangeIter h it (lo+(i:Nat)*1) ((n:Int)-(i:Nat)) 1) where
 mem:=by simp
 obj:=fun i h st b hb=>by
  have e:b=it:=by simpa using hb
  subst e
  exact⟨_,st,fun v z=>by
   have z':Data.fields _=Data.cell v:=z
   cases z'⟩
 keep:=fun i h h' st k=>k it (by simp) _ st
 item:=by
  intro X hP hw hK hc i pins s σ H E I hf st hg
  subst hP hw hK
  obtain⟨f0,f1,f2,f3,f4,f5⟩:=hf it (by simp)
  have W:=Walks.range (prog:=X.prog) (w:=X.w) (I.ok.hd hc) it lo 1 n
  refine W.item i s _ _ hg st fun v h' tk hv st' kk=>?_
  obtain⟨t,rfl⟩:=hv
  have I1:Inv X pins σ H {s with heap:=h',toks:=tk}:=I.turned (fun b o hb e=>kk b o (by simpa using hb) e) f0 f1 f3 f4 f5
  refine⟨_,rfl,Yq (s:={s with heap:=h',toks:=tk}) (n:="range_iterator") st' rfl rfl (by decide) ⟨.int (lo+i),H,I1,⟨t,?_⟩,⟨rfl,rfl⟩,st',fun b hb=>(hf b hb).1⟩⟩
  rw[Int.mul_one]
 done:=by
  intro X hP hw hK hc i pins s σ H E I hf st hg
  subst hP hw hK
  obtain⟨f0,f1,f2,f3,f4,f5⟩:=hf it (by simp)
  exact wpAny_pyNext_range_end (I.ok.hd hc) st (by have:n≤i:=hg;omega) fun h' eb=>⟨rfl,I.turned (t':=s.toks) (fun b o hb e=>eb b o hb e) f0 f1 f3 f4 f5⟩
 self:=fun _ _ _ _ _ st h=>wpAny_pyIter_rangeiter st h
end L2
namespace L2
open PySem PySem.Spec PyProof.Rows
section
variable{X:Cx}{tg:Expr}
theorem XQ{pins:List (Addr×Obj)}{σ:St}{H:Hp}{s:Shared}{R:It->Hp->Prop}{E:Value->Shared->Prop}{lo hi:Int}{t u v:Tok}{tk:Nat}(I:Inv X pins σ H s)(h1: -(2^62)≤lo)(h2:lo<2^62)(h3: -(2^62)≤hi)(h4:hi<2^62)
  (q:R (Itr lo (hi-lo).toNat) H):wpAny (model X.prog X.w) X.A (pyIter (.ref s.heap.objs.size)) (PIE X pins σ tg R) E {s with heap:=s.heap.push {cls:=.type "range",data:=.fields #[.int lo t,.int hi u,.int 1 v]},toks:=tk}:=by
 refine wpAny_pyIter_range (IsRange.new ..) (small_one h1 h2 h3 h4) ?_
 have I1:Inv X pins σ H {s with heap:=s.heap.push {cls:=.type "range",data:=.fields #[.int lo t,.int hi u,.int 1 v]},toks:=tk}:=I.kept fun b o e=>Heap.get?_push_of_some _ e
 refine⟨(s.heap.push {cls:=.type "range",data:=.fields #[.int lo t,.int hi u,.int 1 v]}).objs.size,[(s.heap.push {cls:=.type "range",data:=.fields #[.int lo t,.int hi u,.int 1 v]}).objs.size],_,_,H,rfl,
  I1.kept (t':=tk) fun b o e=>Heap.get?_push_of_some _ e,Q5 _ lo (hi-lo).toNat,?_,fun b hb=>?_,q⟩
 ·have e1:lo+((0:Nat):Int)*1=lo:=by simp
  have e2:(((hi-lo).toNat:Nat):Int)-((0:Nat):Int)=Builtin.Range.rangeSize lo hi 1:=by rw[rangeSize_one];split<;>omega
  show IsRangeIter _ _ (lo+((0:Nat):Int)*1) ((((hi-lo).toNat:Nat):Int)-((0:Nat):Int)) 1
  rw[e1,e2]
  exact Heap.get?_push_size _ rfl
 ·have e:b=(s.heap.push {cls:=.type "range",data:=.fields #[.int lo t,.int hi u,.int 1 v]}).objs.size:=by simpa using hb
  subst e
  exact I1.fpOk (Nat.le_refl _) (I1.hok.fresh (Nat.le_refl _))
noncomputable def iC(ta:TA):TI:=fun σ H R=>ta σ H fun vs H1=>∃j:Int,vs=[.int j]/\ -(2^62)≤j/\j<2^62/\R (Itr 0 j.toNat) H1
theorem R7{a:Expr}{ta:TA}{p pos:Pos}(hg:Gl X "range")(hm:X.mg "range"=none)(ha:PA X [a] ta)(hs:starEach [a] X.env=[(false,eval a X.env)]:=by rfl):PI X tg (.Call (.Name "range" p) [a] [] pos) (iC ta):=by
  intro pins s σ H R I h
  refine Call_ (MZ I hg hm boot_range (PyProof.Rows.callWith_type1 (thn (ha pos pins s σ H _ I h) fun us s1 ⟨vs,H1,I1,r1,q1⟩=>?_) hs rfl))
  obtain⟨j,e,q1,q2,q⟩:=q1
  subst e
  cases r1 with
  | cons r rr =>
    cases rr
    obtain⟨t,rfl⟩:=r
    exact call_range_1 (XQ I1 (by omega) (by omega) q1 q2 (by simpa using q))
noncomputable def j5(wi:TI)(g:TG)(tb:TS):TS:=fun D σ H=>wi σ H fun J H1=>∃W:Nat->Nat->St->Hp->Prop,(∃m,W 0 m σ H1)/\∀i m σ H,W i m σ H->
 (J.stop i H/\D.nx σ H)∨(J.go i H/\∃N:St->Hp->Prop,(∀σ' H',N σ' H'->∃m',m'<m/\W (i+1) m' σ' H')/\∀x H',J.yld i H x H'->g x σ H' fun σ2 H2=>tb {D with nx:=N,ct:=N,bk:=D.nx} σ2 H2)
noncomputable def Od(fp:List Addr)(h:Heap):List (Addr×Obj):=fp.filterMap fun b=>(h.get? b).map fun o=>(b,o)
theorem Hm{fp:List Addr}{h:Heap}{b:Addr}{o:Obj}(hb:b∈fp)(e:h.get? b=some o):(b,o)∈Od fp h:=List.mem_filterMap.mpr ⟨b,hb,by rw[e];rfl⟩
theorem Sy{fp:List Addr}{h:Heap}{p:Addr×Obj}(hp:p∈Od fp h):p.1∈fp/\h.get? p.1=some p.2:=by
  obtain⟨b,hb,e⟩:=List.mem_filterMap.mp hp
  cases q:h.get? b with
  |none=>rw[q]at e;cases e
  | some o =>
    rw[q]at e
    have e':(b,o)=p:=Option.some.inj e
    subst e'
    exact⟨hb,q⟩
theorem Inv.pinned{pins:List (Addr×Obj)}{σ:St}{H:Hp}{s:Shared}{fp:List Addr}(I:Inv X pins σ H s)(hf:∀b∈fp,Pq X pins H b)(ho:∀b∈fp,∃o,s.heap.get? b=some o/\∀v,o.data≠.cell v):Inv X (pins++Od fp s.heap) σ H s:=
 I.pins_of fun p hp=>(List.mem_append.mp hp).elim (fun z=>I.pin p (List.mem_append_right _ z)) fun z=>by
  obtain⟨hb,e⟩:=Sy z
  obtain⟨f0,f1,f2,_⟩:=hf p.1 hb
  obtain⟨o,e',d⟩:=ho p.1 hb
  rw[e]at e';cases e'
  exact⟨e,f0,f1,f2,d⟩
theorem Inv.unpinned{pins pl:List (Addr×Obj)}{σ:St}{H:Hp}{s:Shared}(I:Inv X (pins++pl) σ H s):Inv X pins σ H s:=I.pins_of fun p hp=>I.pin p (List.mem_append_right _ (List.mem_append_left _ hp))
theorem dZ{iter:Expr}{body:List Stmt}{wi:TI}{g:TG}{tb:TS}{pos:Pos}(hp:PassesOwn (model X.prog X.w) X.A X.env X.xe)(hc:X.calm=true)(hi:PI X tg iter wi)(hg:PG X tg g)(hb:PSs X body tb)
  (hs:∀x,foldedSetIterable iter X.env x=pure x:=by intro _;rfl):PS X (.For tg iter body [] pos) (j5 wi g tb):=by
 intro pins s σ H D I h
 refine wpAny_For (thn (hi pins s σ H _ I h) fun v s1 h1=>thn h1 fun itv s2 h2=>?_) hs
 obtain⟨it,fp,tn,J,H2,e,I2,T,st2,f2,W,⟨m0,w0⟩,turn⟩:=h2
 subst e
 have stat:∀{H':Hp},(∀b∈fp,H' b=none)->∀b∈fp,Pq X pins H' b:=fun hn b hb=>⟨hn b hb,(f2 b hb).2⟩
 refine codeAny_forLoop_any (fun n s'=>∃i σ' H',Inv X pins σ' H' s'/\tn i s'.heap/\(∀b∈fp,H' b=none)/\W i n σ' H') ?_ m0 ⟨0,σ,H2,I2,st2,fun b hb=>(f2 b hb).1,w0⟩
 rintro n s3 ⟨i,σ3,H3,I3,st3,fr3,w3⟩
 rcases turn i n σ3 H3 w3 with⟨stop,qn⟩|⟨go,N,hN,step⟩
 ·refine wpAny_passesOwn hp (thn (T.done X rfl rfl rfl hc i pins s3 σ3 H3 X.xe I3 (stat fr3) st3 stop) fun r s4 ⟨hr,I4⟩=>?_)
  subst hr
  exact wpAny_execs_nil ⟨σ3,H3,I4,qn⟩
 ·refine wpAny_passesOwn hp (thn (T.item X rfl rfl rfl hc i pins s3 σ3 H3 X.xe I3 (stat fr3) st3 go) fun r s4 ⟨u,hr,h4⟩=>?_)
  subst hr
  refine wpAny_passesOwn hp (thn h4 fun _ s5 ⟨x,H5,I5,r5,y5,st5,fr5⟩=>?_)
  have I5':=I5.pinned (stat fr5) (T.obj _ _ st5)
  refine wpAny_passesOwn hp (thn (hg _ s5 σ3 H5 x u _ I5' r5 (step x H5 y5)) fun _ s6 ⟨σ6,H6,I6,q6⟩=>?_)
  refine wpAny_passesOwn hp (thn (hb _ s6 σ6 H6 _ I6 q6) fun f s7 q7=>?_)
  have again:∀{σ7:St} {H7:Hp},Inv X (pins++Od fp s5.heap) σ7 H7 s7->N σ7 H7->∃m,m<n/\∃i σ' H',Inv X pins σ' H' s7/\tn i s7.heap/\(∀b∈fp,H' b=none)/\W i m σ' H':=fun{σ7 H7} I7 n7=>by
   obtain⟨m',hm,w7⟩:=hN σ7 H7 n7
   refine⟨m',hm,i+1,σ7,H7,I7.unpinned,T.keep _ _ _ st5 fun b hb o e=>(I7.pin (b,o) (List.mem_append_right _ (List.mem_append_right _ (Hm hb e)))).1,fun b hb=>?_,w7⟩
   obtain⟨o,e,d⟩:=T.obj _ _ st5 b hb
   exact(I7.pin (b,o) (List.mem_append_right _ (List.mem_append_right _ (Hm hb e)))).2.1
  cases f with
  |next=>obtain⟨σ7,H7,I7,n7⟩:=q7;exact again I7 n7
  |cont=>obtain⟨σ7,H7,I7,n7⟩:=q7;exact again I7 n7
  |brk=>obtain⟨σ7,H7,I7,q7⟩:=q7;exact⟨σ7,H7,I7.unpinned,q7⟩
  |ret v=>obtain⟨x7,σ7,H7,I7,r7,q7⟩:=q7;exact⟨x7,σ7,H7,I7.unpinned,r7,q7⟩
end
end L2
namespace L2
open PySem PySem.Spec PyProof.Rows
abbrev R2:=V->V->Hp->VK->Prop
def OpR(X:Cx)(f:Value->Value->Sem Value)(r:R2):Prop:=
 ∀ (pins : List (Addr × Obj)) (s : Shared) (σ : St) (H : Hp) (x y : V) (v u : Value) (Q : VK), Inv X pins σ H s -> RelV x v -> RelV y u -> r x y H Q ->
  wpAny (model X.prog X.w) X.A (f v u) (EP X pins σ Q) X.xe s
def UnR(X:Cx)(f:Value->Sem Value)(r:V->Hp->VK->Prop):Prop:=
 ∀ (pins : List (Addr × Obj)) (s : Shared) (σ : St) (H : Hp) (x : V) (v : Value) (Q : VK), Inv X pins σ H s -> RelV x v -> r x H Q ->
  wpAny (model X.prog X.w) X.A (f v) (EP X pins σ Q) X.xe s
def Eb(X:Cx)(f:Value)(r:List V->Hp->VK->Prop):Prop:=
 ∀ (pins : List (Addr × Obj)) (s : Shared) (σ : St) (H : Hp) (xs : List V) (us : List Value) (Q : VK), Inv X pins σ H s -> Vals xs us -> r xs H Q ->
  wpAny (model X.prog X.w) X.A (call f us) (EP X pins σ Q) X.xe s
noncomputable def tOp(r:R2)(ta tb:TE):TE:=fun σ H Q=>ta σ H fun x H1=>tb σ H1 fun y H2=>r x y H2 Q
noncomputable def tUn(r:V->Hp->VK->Prop)(ta:TE):TE:=fun σ H Q=>ta σ H fun x H1=>r x H1 Q
noncomputable def rI(C:Int->Int->Prop)(g:Int->Int->V):R2:=fun x y H Q=>∃i j,x=.int i/\y=.int j/\C i j/\Q (g i j) H
noncomputable def rI0(g:Int->Int->V):R2:=fun x y H Q=>∃i j,x=.int i/\y=.int j/\Q (g i j) H
def rU(g:Int->V):V->Hp->VK->Prop:=fun x H Q=>∃i,x=.int i/\Q (g i) H
section
variable{X:Cx}{a b c:Expr}{ta tb tc:TE}{pos:Pos}
theorem gS(ha:PE X a ta)(hb:PE X b tb){pins:List (Addr×Obj)}{s:Shared}{σ:St}{H:Hp}{R:V->V->Hp->Prop}(I:Inv X pins σ H s)
  (h:ta σ H fun x H1=>tb σ H1 fun y H2=>R x y H2) {Q:Value->Shared->Prop} {f:Value->Value->Sem Value}
  (hf:∀v u s2 x y H2,Inv X pins σ H2 s2->RelV x v->RelV y u->R x y H2->wpAny (model X.prog X.w) X.A (f v u) Q X.xe s2):
  wpAny (model X.prog X.w) X.A (eval a X.env) (fun v s₁=>wpAny (model X.prog X.w) X.A (eval b X.env) (fun u s₂=>wpAny (model X.prog X.w) X.A (f v u) Q X.xe s₂) X.xe s₁) X.xe s:=by
 refine thn (ha pins s σ H _ I h) fun v s1 ⟨x,H1,I1,r1,q1⟩=>?_
 refine thn (hb pins s1 σ H1 _ I1 q1) fun u s2 ⟨y,H2,I2,r2,q2⟩=>?_
 exact hf v u s2 x y H2 I2 r1 r2 q2
theorem jA{op:Operator}{r:R2}(ho:OpR X (binaryOp op) r)(ha:PE X a ta)(hb:PE X b tb):PE X (.BinOp a op b pos) (tOp r ta tb):=by
 intro pins s σ H Q I h
 exact wpAny_BinOp (gS ha hb I h fun v u s2 x y H2 I2 rx ry q=>ho pins s2 σ H2 x y v u Q I2 rx ry q)
theorem dS{op:UnaryOp}{r:V->Hp->VK->Prop}(ho:UnR X (unaryOp op) r)(ha:PE X a ta):PE X (.UnaryOp op a pos) (tUn r ta):=by
 intro pins s σ H Q I h
 exact UnaryOp_ (thn (ha pins s σ H _ I h) fun v s1 ⟨x,H1,I1,r1,q1⟩=>ho pins s1 σ H1 x v Q I1 r1 q1)
theorem opI{f:Value->Value->Sem Value}{C:Int->Int->Prop}{g:Int->Int->Int}
  (rule:∀(i j:Int) (t u:Tok) (s:Shared) (Q:Value->Shared->Prop) (E:Value->Shared->Prop),C i j->Q (.int (g i j) s.toks) {s with toks:=s.toks+1}->wpAny (model X.prog X.w) X.A (f (.int i t) (.int j u)) Q E s):
  OpR X f (rI C fun i j=>.int (g i j)):=by
 intro pins s σ H x y v u Q I rx ry h
 obtain⟨i,j,rfl,rfl,hc,q⟩:=h
 obtain⟨t,rfl⟩:=rx
 obtain⟨t',rfl⟩:=ry
 exact rule i j t t' s _ _ hc ⟨.int (g i j),H,I.tok _,⟨_,rfl⟩,q⟩
theorem jQ{f:Value->Value->Sem Value}{g:Int->Int->Int}
  (rule:∀(i j:Int) (t u:Tok) (s:Shared) (Q:Value->Shared->Prop) (E:Value->Shared->Prop),Q (.int (g i j) s.toks) {s with toks:=s.toks+1}->wpAny (model X.prog X.w) X.A (f (.int i t) (.int j u)) Q E s):
  OpR X f (rI0 fun i j=>.int (g i j)):=by
 intro pins s σ H x y v u Q I rx ry h
 obtain⟨i,j,rfl,rfl,q⟩:=h
 obtain⟨t,rfl⟩:=rx
 obtain⟨t',rfl⟩:=ry
 exact rule i j t t' s _ _ ⟨.int (g i j),H,I.tok _,⟨_,rfl⟩,q⟩
theorem fm{f:Value->Value->Sem Value}{g:Int->Int->Bool}
  (rule:∀(i j:Int) (t u:Tok) (s:Shared) (Q:Value->Shared->Prop) (E:Value->Shared->Prop),Q (.bool (g i j)) s->wpAny (model X.prog X.w) X.A (f (.int i t) (.int j u)) Q E s):
  OpR X f (rI0 fun i j=>.bl (g i j)):=by
 intro pins s σ H x y v u Q I rx ry h
 obtain⟨i,j,rfl,rfl,q⟩:=h
 obtain⟨t,rfl⟩:=rx
 obtain⟨t',rfl⟩:=ry
 exact rule i j t t' s _ _ ⟨.bl (g i j),H,I,rfl,q⟩
def jx(i j:Int):Prop:=0≤j/\j≤1000000/\i.natAbs<2^64
def iF(i j:Int):Prop:=(-(2^64)<i/\i<2^64)∨(-(2^64)<j/\j<2^64)
theorem iF.ok{i j:Int}(h:iF i j):IntMulOk i j:=by
 rcases h with⟨h1,h2⟩|⟨h1,h2⟩
 ·exact .of_left (intBits_le_64 h1 h2)
 ·exact .of_right (intBits_le_64 h1 h2)
theorem cG:OpR X (binaryOp .Add) (rI0 fun i j=>.int (i+j)):=jQ fun _ _ _ _ _ _ _ q=>add_int q
theorem bx:OpR X (binaryOp .Sub) (rI0 fun i j=>.int (i-j)):=jQ fun _ _ _ _ _ _ _ q=>sub_int q
theorem YU:OpR X (binaryOp .Mult) (rI iF fun i j=>.int (i*j)):=opI fun _ _ _ _ _ _ _ hc q=>mul_int q hc.ok
theorem dc:OpR X (binaryOp .Mod) (rI (fun _ j=>0<j) fun i j=>.int (i % j)):=opI fun i j _ _ _ _ _ hc q=>by
 have h1:(0:Int)<j:=hc
 exact mod_int' (by omega) (by rw[Int.fmod_eq_emod_of_nonneg i (by omega)];exact q)
theorem cW:OpR X (binaryOp .Pow) (rI jx fun i j=>.int (i^j.toNat)):=opI fun _ _ _ _ _ _ _ hc q=>pow_int_small hc.1 hc.2.1 hc.2.2 q
theorem unI{f:Value->Sem Value}{g:Int->Int}
  (rule:∀(i:Int) (t:Tok) (s:Shared) (Q:Value->Shared->Prop) (E:Value->Shared->Prop),Q (.int (g i) s.toks) {s with toks:=s.toks+1}->wpAny (model X.prog X.w) X.A (f (.int i t)) Q E s):
  UnR X f (rU fun i=>.int (g i)):=by
 intro pins s σ H x v Q I rx h
 obtain⟨i,rfl,q⟩:=h
 obtain⟨t,rfl⟩:=rx
 exact rule i t s _ _ ⟨.int (g i),H,I.tok _,⟨_,rfl⟩,q⟩
theorem YM:UnR X (unaryOp .USub) (rU fun i=>.int (-i)):=unI fun _ _ _ _ _ q=>neg_int q
end
section
variable{X:Cx}{a b c:Expr}{ta tb tc:TE}{pos:Pos}
theorem cy{pins:List (Addr×Obj)}{σ:St}{H:Hp}{s:Shared}{Q:VK}{k k':Bool}(I:Inv X pins σ H s)(q:Q (.bl k) H)(e:k=k'):EP X pins σ Q (.bool k') s:=by
 subst e
 exact⟨.bl k,H,I,rfl,q⟩
theorem iY:OpR X (compareOp .Lt) (rI0 fun i j=>.bl (decide (i<j))):=fm fun _ _ _ _ _ _ _ q=>lt_int q
theorem aP:OpR X (compareOp .LtE) (rI0 fun i j=>.bl (decide (i≤j))):=fm fun _ _ _ _ _ _ _ q=>le_int q
theorem gr:OpR X (compareOp .Gt) (rI0 fun i j=>.bl (decide (j<i))):=fm fun _ _ _ _ _ _ _ q=>gt_int q
theorem gg:OpR X (compareOp .GtE) (rI0 fun i j=>.bl (decide (j≤i))):=fm fun _ _ _ _ _ _ _ q=>ge_int q
theorem dQ:OpR X (compareOp .Is) (fun x y H Q=>y=.non/\Q (.bl (decide (x=.non))) H):=by
 intro pins s σ H x y v u Q I rx ry h
 obtain⟨rfl,q⟩:=h
 cases ry
 refine is_none_gen (cy I q ?_)
 cases x<;>first
  |(cases rx;rfl)
  |(obtain⟨t,rfl⟩:=rx;rfl)
theorem aR{op:CmpOp}{r:R2}(ho:OpR X (compareOp op) r)(ha:PE X a ta)(hb:PE X b tb)(hm:behindInMarks op b=false):PE X (.Compare a [op] [b] pos) (tOp r ta tb):=by
 intro pins s σ H Q I h
 exact wpAny_Compare1 (gS ha hb I h fun v u s2 x y H2 I2 rx ry q=>ho pins s2 σ H2 x y v u Q I2 rx ry q) hm
noncomputable def eB(t:TE):TT:=fun σ H Q=>t σ H fun x H'=>∃k,x=.bl k/\Q k H'
theorem SR{op:CmpOp}{r:R2}(ho:OpR X (compareOp op) r)(ha:PE X a ta)(hb:PE X b tb)(hm:behindInMarks op b=false):PT X (.Compare a [op] [b] pos) (eB (tOp r ta tb)):=by
 intro pins s σ H Q I h
 refine wpAny_isTrue_Compare1 (thn (ha pins s σ H _ I h) fun v s1 ⟨x,H1,I1,r1,q1⟩=>thn (hb pins s1 σ H1 _ I1 q1) fun u s2 ⟨y,H2,I2,r2,q2⟩=>
  thn (ho pins s2 σ H2 x y v u _ I2 r1 r2 q2) fun c s3 ⟨z,H3,I3,r3,k,e,q3⟩=>?_) hm
 subst e
 cases r3
 exact wpAny_truthy_bool ⟨H3,I3,q3⟩
noncomputable def Xu(r r':R2)(ta tb tc:TE):TE:=fun σ H Q=>ta σ H fun x H1=>tb σ H1 fun y H2=>r x y H2 fun z H3=>∃k,z=.bl k/\
 (if k=true then tc σ H3 fun w' H4=>r' y w' H4 Q else Q (.bl false) H3)
theorem XN{op op':CmpOp}{r r':R2}(ho:OpR X (compareOp op) r)(ho':OpR X (compareOp op') r')(ha:PE X a ta)(hb:PE X b tb)(hc:PE X c tc)
  (hm:lastMarks [op,op'] [b,c]=false:=by with_unfolding_all rfl):PE X (.Compare a [op,op'] [b,c] pos) (Xu r r' ta tb tc):=by
 intro pins s σ H Q I h
 refine Compare_chain (thn (ha pins s σ H _ I h) fun v s1 ⟨x,H1,I1,r1,q1⟩=>chain_link (thn (hb pins s1 σ H1 _ I1 q1) fun u s2 ⟨y,H2,I2,r2,q2⟩=>
  thn (ho pins s2 σ H2 x y v u _ I2 r1 r2 q2) fun d s3 ⟨z,H3,I3,r3,k,e,q3⟩=>?_)) hm
 subst e
 cases r3
 refine wpAny_truthy_bool ?_
 cases k with
 |false=>exact ite_ff ⟨.bl false,H3,I3,rfl,q3⟩
 |true=>exact ite_tt (chain_last (thn (hc pins s3 σ H3 _ I3 q3) fun w' s4 ⟨z',H4,I4,r4,q4⟩=>ho' pins s4 σ H4 y z' u w' Q I4 r2 r4 q4))
theorem PN:(sizeLine:Nat)<2^63:=by rw[sizeLine_eq];decide
theorem Q6:OpR X (binaryOp .Add) (fun x y H Q=>∃i j,x=.str i/\y=.str j/\i.length+j.length≤sizeLine/\Q (.str (i++j)) H):=by
 intro pins s σ H x y v u Q I rx ry h
 obtain⟨i,j,rfl,rfl,hz,q⟩:=h
 obtain⟨t,rfl⟩:=rx
 obtain⟨t',rfl⟩:=ry
 exact add_str (fun t' tk=>⟨.str (i++j),H,I.tok _,⟨_,rfl⟩,q⟩) hz
theorem vals1{x:V}{us:List Value}(r:Vals [x] us):∃u,us=[u]/\RelV x u:=by
 cases r with
 |cons r1 r2=>cases r2;exact⟨_,rfl,r1⟩
theorem vals2{x y:V}{us:List Value}(r:Vals [x,y] us):∃u w',us=[u,w']/\RelV x u/\RelV y w':=by
  cases r with
  | cons r1 r2 =>
    cases r2 with
    |cons r3 r4=>cases r4;exact⟨_,_,rfl,r1,r3⟩
theorem V8:Eb X (.builtin "abs") (fun xs H Q=>∃i,xs=[.int i]/\Q (.int (if i<0 then-i else i)) H):=by
 intro pins s σ H xs us Q I r h
 obtain⟨i,rfl,q⟩:=h
 obtain⟨u,rfl,t,rfl⟩:=vals1 r
 exact call_abs_int fun u tk=>⟨.int (if i<0 then-i else i),H,I.tok _,⟨_,rfl⟩,q⟩
theorem Sj(hc:X.calm=true):Eb X (.builtin "max") (fun xs H Q=>∃i j,xs=[.int i,.int j]/\Q (.int (if j>i then j else i)) H):=by
 intro pins s σ H xs us Q I r h
 obtain⟨i,j,rfl,q⟩:=h
 obtain⟨u,w',rfl,⟨t,rfl⟩,⟨t',rfl⟩⟩:=vals2 r
 refine max_two_ints (I.ok.hd hc) fun h' tk k=>⟨_,H,I.kept k,?_,q⟩
 by_cases hj:j>i
 ·rw[if_pos hj,if_pos hj];exact⟨_,rfl⟩
 ·rw[if_neg hj,if_neg hj];exact⟨_,rfl⟩
theorem Sl(hc:X.calm=true):Eb X (.builtin "min") (fun xs H Q=>∃i j,xs=[.int i,.int j]/\Q (.int (if j<i then j else i)) H):=by
 intro pins s σ H xs us Q I r h
 obtain⟨i,j,rfl,q⟩:=h
 obtain⟨u,w',rfl,⟨t,rfl⟩,⟨t',rfl⟩⟩:=vals2 r
 refine min_two_ints (I.ok.hd hc) fun h' tk k=>⟨_,H,I.kept k,?_,q⟩
 by_cases hj:j<i
 ·rw[if_pos hj,if_pos hj];exact⟨_,rfl⟩
 ·rw[if_neg hj,if_neg hj];exact⟨_,rfl⟩
theorem PD:Eb X (.type "int") (fun xs H Q=>(∃i,xs=[.int i]/\Q (.int i) H)∨∃k,xs=[.bl k]/\Q (.int (if k then 1 else 0)) H):=by
 intro pins s σ H xs us Q I r h
 rcases h with⟨i,rfl,q⟩|⟨k,rfl,q⟩
 ·obtain⟨u,rfl,t,rfl⟩:=vals1 r
  exact call_int_int ⟨.int i,H,I,⟨_,rfl⟩,q⟩
 ·obtain⟨u,rfl,r1⟩:=vals1 r
  cases r1
  exact call_int_bool ⟨.int (if k then 1 else 0),H,I.tok _,⟨_,rfl⟩,q⟩
theorem PQ:Eb X (.type "str") (fun xs H Q=>∃i,xs=[.int i]/\i.natAbs.log2<1920/\Q (.str (toString i)) H):=by
 intro pins s σ H xs us Q I r h
 obtain⟨i,rfl,hz,q⟩:=h
 obtain⟨u,rfl,t,rfl⟩:=vals1 r
 exact PySem.P.str_of_int hz ⟨.str _,H,I.tok _,⟨_,rfl⟩,q⟩
end
end L2
namespace L2
open PySem PySem.Spec PyProof.Rows
structure iO(h:Heap)(x dx C:Addr)(mA:Str->Option Value):Prop where
 obj:h.get? x=some (PySem.W.instObj C dx)
 ns:h.Ns1 dx mA
 ne:dx≠x
theorem T9{h:Heap}{dx:Addr}{mA:Str->Option Value}(n:h.Ns1 dx mA):∃od,h.get? dx=some od/\∀name,PySem.W.lookIn name od=some (mA name):=by
 obtain⟨o,es,ep,ho,hd,hk,_,hm⟩:=n
 refine⟨o,ho,fun name=>?_⟩
 have e:=hm name
 unfold nsFind findBy at e
 rw[←Array.find?_toList]at e
 unfold PySem.W.lookIn
 rw[hd]
 dsimp only
 split
 ·rename_i y q
  rw[q]at e
  exact congrArg some e
 ·rename_i q
  rw[q]at e
  have a:es.toList.any (·.refKey)=false:=by
   rw[List.any_eq_false]
   intro y hy
   obtain⟨z,t,hkey⟩:=hk y (Array.mem_toList_iff.mp hy)
   simp[DictEntry.refKey,hkey]
  have a':¬es.toList.any (·.refKey)=true:=by rw[a];exact Bool.false_ne_true
  rw[if_neg a']
  exact congrArg some e
theorem iO.look{h:Heap}{x dx C:Addr}{mA:Str->Option Value}(I:iO h x dx C mA):∃od,PySem.W.InstAt h x (PySem.W.instObj C dx) C (some od)/\∀name,PySem.W.lookIn name od=some (mA name):=
 let⟨od,ho,hl⟩:=T9 I.ns
 ⟨od,⟨I.obj,rfl,rfl,ho⟩,hl⟩
section
variable{prog:Program}{w:World}{A:Around}{E:Value->Shared->Prop}{s:Shared}{K:PySem.W.Frag}{x dx C f:Addr}{mA:Str->Option Value}{name:Str}{v:Value}
end
section
variable{P:Program}{w:World}{H H':Hp}{h h':Heap}{a C dx:Addr}{fs fs':List (Str×V)}
theorem aM(hok:HOk P w H h)(e:H a=some (.ins C dx fs)):∃mA,iO h a dx C mA/\(∀f,Rq (fs.lookup f) (mA f))/\PySem.Within mA (fs.map (·.1))/\fs.length≤1000/\H dx=some (.own a):=by
 obtain⟨d,z,ne,ob,mA,n,r,q⟩:=(show ED P w H h a (.ins C dx fs)from hok a _ e)
 exact⟨mA,⟨ob,n,ne⟩,r,q,z,d⟩
end
structure Cls(K:PySem.W.Frag)(C:Addr):Prop where
 pg:PySem.W.plainGet K C Str.empty=true
 hd:PySem.W.hasDictIn K C=true
 po:PySem.W.plainOver K C=true
 sa:PySem.W.findIn K (.ref C) "__setattr__"=some (some (.builtin "object.__setattr__"))
theorem Cls.get{K:PySem.W.Frag}{C:Addr}(c:Cls K C)(f:Str):PySem.W.plainGet K C f=true:=c.pg
structure Con(K:PySem.W.Frag)(C:Addr)(f:Str)(v:V)(u:Value):Prop where
 at_:PySem.W.findIn K (.ref C) f=some (some u)
 rel:RelV v u
 get:PySem.W.specialIn K u "__get__"=some none
 cp:PySem.W.copiedNames.contains f=false
structure Meth(K:PySem.W.Frag)(C:Addr)(m:Str)(f:Addr):Prop where
 at_:PySem.W.findIn K (.ref C) m=some (some (.ref f))
 fn:PySem.W.isFn K (.ref f)=true
 kp:PySem.W.keepIn K (.ref f)=true
section
variable{X:Cx}{pins:List (Addr×Obj)}{σ:St}{H:Hp}{s:Shared}{a C dx:Addr}{fs:List (Str×V)}{f:Str}{v:V}{A:Around}{E:Value->Shared->Prop}
end
section
variable{X:Cx}{o e value:Expr}{f:Str}{pos pos' tpos:Pos}{ta tv:TE}
end
section
variable{X:Cx}{pins:List (Addr×Obj)}{σ:St}{H:Hp}{s:Shared}{A:Around}{E:Value->Shared->Prop}{Q:Value->Shared->Prop}{c:Value}{b:Bool}
inductive Rn(K:PySem.W.Frag)(H:Hp):V->Value->Prop where
 |non:Rn K H .non (.type "NoneType")
 |bl (x:Bool):Rn K H (.bl x) (.type "bool")
 |int (i:Int):Rn K H (.int i) (.type "int")
 |str (x:Str):Rn K H (.str x) (.type "str")
 |flt (x:UInt64):Rn K H (.flt x) (.type "float")
 |lst {a:Addr} {xs:List V} (e:H a=some (.lst xs)):Rn K H (.ref a) (.type "list")
 |frz {a:Addr} {o:Obj} {xs:List V} (e:H a=some (.frz o (.lst xs))):Rn K H (.ref a) (.type "list")
 |tup {a:Addr} {xs:List V} (e:H a=some (.tup xs)):Rn K H (.ref a) (.type "tuple")
 |dK {a:Addr} {kvs:List (Key×V)} (e:H a=some (.dK kvs)):Rn K H (.ref a) (.type "dict")
 |dT {a:Addr} {kvs:List (List Key×V)} (e:H a=some (.dT kvs)):Rn K H (.ref a) (.type "dict")
 | ins {a C dx : Addr} {fs : List (Str × V)} (e : H a = some (.ins C dx fs)) (cl : Cls K C) (ha : PySem.W.findIn K (.ref C) "__class__" = some (some (.builtin "object.__class__")))
   (hn:PySem.W.specialIn K (.builtin "object.__class__") "__get__"=some (some (.builtin "getset_descriptor.__get__"))) (htk:PySem.W.takesIn K (.builtin "object.__class__")=some true)
   (hm:PySem.W.mroIn K C (.type "object")=some true):Rn K H (.ref a) (.ref C)
theorem Fd{x:V}{u t:Value}(I:Inv X pins σ H s)(rx:RelV x u)(ty:Rn X.K H x t)(e:PySem.W.kitOne X.K t c=some b)(h:∀tk,Q (.bool b) {s with toks:=tk}):
    wpAny (model X.prog X.w) A (call (.builtin "isinstance") [u,c]) Q E s:=by
  cases ty with
  |non=>cases (show u=Value.none from rx);exact PySem.W.kia_one PySem.W.kitx_none I.kIn True.intro e (fun z=>nomatch z) h
  |bl y=>cases (show u=Value.bool y from rx);exact PySem.W.kia_one PySem.W.kitx_bool I.kIn True.intro e (fun z=>nomatch z) h
  |int i=>obtain⟨t,q⟩:=(show∃t,u=Value.int i t from rx);cases q;exact PySem.W.kia_one PySem.W.kitx_int I.kIn True.intro e (fun z=>nomatch z) h
  |str y=>obtain⟨t,q⟩:=(show∃t,u=Value.str y t from rx);cases q;exact PySem.W.kia_one PySem.W.kitx_str I.kIn True.intro e (fun z=>nomatch z) h
  |flt y=>obtain⟨t,q⟩:=(show∃t,u=Value.float y t from rx);cases q;exact PySem.W.kia_one PySem.W.kitx_float I.kIn True.intro e (fun z=>nomatch z) h
  | @lst a xs ea=>
    cases (show u=Value.ref a from rx)
    obtain⟨_,_,n,_,h1⟩:=(show ED X.prog X.w H s.heap a (.lst xs)from I.hok a _ ea)
    exact PySem.W.kia_one PySem.W.kitx_list I.kIn ⟨_,h1,rfl⟩ e (fun z=>nomatch z) h
  | @frz a ob xs ea=>
    cases (show u=Value.ref a from rx)
    obtain⟨_,_,_,n,_,h1⟩:=(show ED X.prog X.w H s.heap a (.frz ob (.lst xs))from I.hok a _ ea)
    exact PySem.W.kia_one PySem.W.kitx_list I.kIn ⟨_,h1,rfl⟩ e (fun z=>nomatch z) h
  | @tup a xs ea=>
    cases (show u=Value.ref a from rx)
    obtain⟨_,_,_,p⟩:=(show ED X.prog X.w H s.heap a (.tup xs)from I.hok a _ ea)
    obtain⟨o,h1,h2,_⟩:=p
    exact PySem.W.kia_one PySem.W.kitx_tuple I.kIn ⟨o,h1,h2⟩ e (fun z=>nomatch z) h
  | @dK a kvs ea=>
    cases (show u=Value.ref a from rx)
    obtain⟨_,_,vs,_,p⟩:=(show ED X.prog X.w H s.heap a (.dK kvs)from I.hok a _ ea)
    obtain⟨o,es,ep,h1,h2,_⟩:=p
    exact PySem.W.kia_one PySem.W.kitx_dict I.kIn ⟨o,h1,h2.1⟩ e (fun z=>nomatch z) h
  | @dT a kvs ea=>
    cases (show u=Value.ref a from rx)
    obtain⟨_,_,xs,_,o,es,ep,h1,h2,_⟩:=(show ED X.prog X.w H s.heap a (.dT kvs)from I.hok a _ ea)
    exact PySem.W.kia_one PySem.W.kitx_dict I.kIn ⟨o,h1,h2.1⟩ e (fun z=>nomatch z) h
  | @ins a C dx fs ea cl ha hn htk hm=>
    cases (show u=Value.ref a from rx)
    obtain⟨mA,O,_⟩:=aM I.hok ea
    obtain⟨od,J,_⟩:=O.look
    exact PySem.W.kia_one (PySem.W.kitx_own (cl.get _) cl.hd ha hn htk hm) I.kIn J e (fun z=>nomatch z) h
end
end L2
namespace L2
open PySem PySem.Spec PyProof.Rows
structure L5(k:Nat)(A:Around):Prop where
 hd:A.handled=none
 dp:A.depth+3*k+5<recursionLimit
 un:A.units+16*k+200<cLine
theorem L5.mono{j k:Nat}{A:Around}(r:L5 k A)(h:j≤k):L5 j A:=⟨r.hd,by have:=r.dp;omega,by have:=r.un;omega⟩
theorem L5.deeper{k:Nat}{A:Around}(r:L5 (k+1) A)(env:Env):L5 k (A.deeper env):=
 ⟨r.hd,by have:=r.dp;show A.depth+1+3*k+5<_;omega,by have:=r.un;show A.units+3+16*k+200<_;omega⟩
theorem L5.depth{k:Nat}{A:Around}(r:L5 k A):A.depth<recursionLimit:=by have:=r.dp;omega
noncomputable def jK:TA:=fun _ H Q=>Q [] H
noncomputable def cF(ta:TE)(tr:TA):TA:=fun σ H Q=>ta σ H fun x H1=>tr σ H1 fun xs H2=>Q (x::xs) H2
section
variable{X:Cx}{e:Expr}{es:List Expr}{te:TE}{t:TA}{pos:Pos}
theorem Sw:PA X [] jK:=fun _ _ _ _ H Q I h=>Calls.spliced_nil ⟨[],H,I,.nil,h⟩
theorem Ng(ha:PE X e te)(hr:PA X es t)(hs:starEach (e::es) X.env=(false,eval e X.env)::starEach es X.env:=by rfl):PA X (e::es) (cF te t):=by
 intro pos pins s σ H Q I h
 rw[hs]
 show wpAny _ _ (spliced ((false,eval e X.env)::backTo pos (starEach es X.env))) _ _ s
 refine Calls.spliced_cons (thn (ha pins s σ H _ I h) fun u s1 ⟨x,H1,I1,r1,q1⟩=>?_)
 exact thn (hr pos pins s1 σ H1 _ I1 q1) fun us s2 ⟨xs,H2,I2,r2,q2⟩=>⟨x::xs,H2,I2,.cons r1 r2,q2⟩
noncomputable def kZ(t:TA):TE:=fun σ H Q=>t σ H fun xs H1=>xs.length≤sizeLine/\∀p,H1 p=none->Q (.ref p) (upd H1 p (.tup xs))
noncomputable def lC(t:TA):TE:=fun σ H Q=>t σ H fun xs H1=>xs.length≤sizeLine/\∀p,H1 p=none->Q (.ref p) (upd H1 p (.lst xs))
theorem bN{x1}(h:PA X es t):PE X (.Tuple es x1 pos) (kZ t):=by
 intro pins s σ H Q I hq
 refine wpAny_Tuple_spliced (thn (h pos pins s σ H _ I hq) fun us s1 ⟨xs,H1,I1,r,z,q⟩=>⟨by rw[←r.length];exact z,?_⟩)
 have hf:H1 s1.heap.objs.size=none:=I1.hok.fresh (Nat.le_refl _)
 refine⟨.ref s1.heap.objs.size,upd H1 s1.heap.objs.size (.tup xs),I1.laid (t':=s1.toks) (fun b u e=>Heap.get?_push_of_some _ e) (Nat.le_refl _) ?_,rfl,q _ hf⟩
 exact⟨z,us,r,⟨_,Heap.get?_push_size _ rfl,rfl,_,rfl⟩⟩
theorem ay(h:PA X es t):PE X (.List es pos) (lC t):=by
 intro pins s σ H Q I hq
 refine wpAny_List_spliced (thn (h pos pins s σ H _ I hq) fun us s1 ⟨xs,H1,I1,r,z,q⟩=>⟨by rw[←r.length];exact z,?_⟩)
 have hf:H1 s1.heap.objs.size=none:=I1.hok.fresh (Nat.le_refl _)
 refine⟨.ref s1.heap.objs.size,upd H1 s1.heap.objs.size (.lst xs),I1.laid (t':=s1.toks) (fun b u e=>Heap.get?_push_of_some _ e) (Nat.le_refl _) ?_,rfl,q _ hf⟩
 exact⟨z,us,0,r,Heap.get?_push_size _ rfl⟩
end
abbrev Sp:=List V->Hp->VK->XK->Prop
abbrev CXT:=List Env->Hp->Shared->XK->Value->Shared->Prop
structure fZ(P:Program)(w:World)(K:PySem.W.Frag)(mg:Str->Option Value)(base:Heap)(A:Around)(outer:List Env)(s:Shared)(H:Hp):Prop where
 frames:A.frames=some outer
 mod:Mod K mg base
 bs:∀b o,base.get? b=some o->s.heap.get? b=some o/\H b=none
 bsz:base.objs.size≤s.heap.objs.size
 funs:s.heap.FunFrames base outer
 frf:∀b∈frs outer,H b=none
 hok:HOk P w H s.heap
 bare:AllBare s.gens
def CE(outer:List Env)(P:Program)(w:World)(H:Hp)(s:Shared)(Q:VK)(u:Value)(s':Shared):Prop:=
 ∃v H',s'.os=s.os/\AllBare s'.gens/\Un (frs outer) [] H H' s.heap s'.heap/\HOk P w H' s'.heap/\RelV v u/\Q v H'
def CR(CX:CXT)(outer:List Env)(P:Program)(w:World)(H:Hp)(s:Shared)(Q:VK)(E:XK)(r:Result)(s':Shared):Prop:=
 match r with
 | .ok (.ret u)=>CE outer P w H s Q u s'
 | .ok _=>False
 | .error e=>CX outer H s E e s'
structure L4(P:Program)(w:World)(K:PySem.W.Frag)(mg:Str->Option Value)(base:Heap)(CX:CXT)(k:Nat)(f:Addr)(fd:FuncData)(ps:List Str)(sp:Sp):Prop where
 len:∀vs H Q E,sp vs H Q E->vs.length=ps.length
 run:∀(A:Around) (outer:List Env) (s:Shared) (H:Hp) (args:Args) (us:List Value) (vs:List V) (Q:VK) (E:XK),L5 k A->fZ P w K mg base A outer s H->BindsTo s fd args (ps.zip us)->Vals vs us->sp vs H Q E->
  codeAny (model P w) A (.call (.ref f) args) (CR CX outer P w H s Q E) s
theorem L4.mono{P:Program}{w:World}{K:PySem.W.Frag}{mg:Str->Option Value}{base:Heap}{CX:CXT}{j k:Nat}{f:Addr}{fd:FuncData}{ps:List Str}{sp:Sp}(F:L4 P w K mg base CX j f fd ps sp)(h:j≤k):
  L4 P w K mg base CX k f fd ps sp:=⟨F.len,fun A outer s H args us vs Q E hr=>F.run A outer s H args us vs Q E (hr.mono h)⟩
theorem L4.imp{P:Program}{w:World}{K:PySem.W.Frag}{mg:Str->Option Value}{base:Heap}{CX:CXT}{k:Nat}{f:Addr}{fd:FuncData}{ps:List Str}{sp sp':Sp}(F:L4 P w K mg base CX k f fd ps sp)
  (h:∀vs H Q E,sp' vs H Q E->sp vs H Q E):L4 P w K mg base CX k f fd ps sp':=
 ⟨fun vs H Q E q=>F.len vs H Q E (h _ _ _ _ q),fun A outer s H args us vs Q E hr he hb hv hs=>F.run A outer s H args us vs Q E hr he hb hv (h _ _ _ _ hs)⟩
section
variable{X:Cx}{pins:List (Addr×Obj)}{σ:St}{H:Hp}{s s':Shared}
theorem Inv.env0(I:Inv X pins σ H s):fZ X.prog X.w X.K X.mg X.base X.A X.stack s H:=
 ⟨I.ok.frames,I.ok.mod,I.bs,Nat.le_trans I.ok.bsz I.sz,I.stack,I.stkFree,I.hok,I.bare⟩
theorem Inv.after{Q:VK}{u:Value}(I:Inv X pins σ H s)(h:CE X.stack X.prog X.w H s Q u s'):EP X pins σ Q u s':=by
 obtain⟨v,H',os,bare,un,hok,r,q⟩:=h
 obtain⟨hh,g,d,t,os'⟩:=s'
 obtain rfl:os'=s.os:=os
 exact⟨v,H',I.call (h':=hh) (g':=g) (d':=d) (t':=t) (ch:=[]) un hok bare (fun b z=>absurd z (by simp)),r,q⟩
end
noncomputable def aY(sp:Sp)(dvs:List V)(E:XK)(t:TA):TE:=fun σ H Q=>t σ H fun vs H1=>sp (vs++dvs) H1 Q E
def Binds(K:PySem.W.Frag)(fd:FuncData)(ps:List Str)(ds:List Value):Prop:=
 ∀(s:Shared) (us:List Value),K.In s.heap->(us++ds).length=ps.length->BindsTo s fd ⟨us,[]⟩ (ps.zip (us++ds))
theorem Binds.all{K:PySem.W.Frag}{fd:FuncData}{ps:List Str}(h:∀us:List Value,us.length=ps.length->bindArgs fd ⟨us,[]⟩=pure (ps.zip us)):Binds K fd ps []:=fun s us _ hl=>by
 rw[List.append_nil]at hl⊢
 exact .of_eq (h us hl)
def Passes(CX:CXT)(X:Cx)(E:XK):Prop:=∀(pins:List (Addr×Obj)) (σ:St) (H:Hp) (s:Shared) (e:Value) (s':Shared),Inv X pins σ H s->CX X.stack H s E e s'->X.xe e s'
section
variable{X:Cx}{CX:CXT}{k:Nat}{f C:Addr}{fd:FuncData}{ps:List Str}{sp:Sp}{dvs:List V}{ds:List Value}{E:XK}{x m:Str}{p pos apos:Pos}{e o:Expr}{es:List Expr}{ta:TE}{t:TA}
theorem YO{pins:List (Addr×Obj)}{σ:St}{H:Hp}{s:Shared}{Q:VK}{us:List Value}{vs:List V}(F:L4 X.prog X.w X.K X.mg X.base CX k f fd ps sp)(hr:L5 k X.A)(hb:Binds X.K fd ps ds)(hd:Vals dvs ds)(hx:Passes CX X E)
    (I:Inv X pins σ H s) (r:Vals vs us) (h:sp (vs++dvs) H Q E):wpAny (model X.prog X.w) X.A (call (.ref f) us) (EP X pins σ Q) X.xe s:=by
  have r2:Vals (vs++dvs) (us++ds):=r.append hd
  have hl:(us++ds).length=ps.length:=by rw[←r2.length];exact F.len _ _ _ _ h
  refine wpAny_call (codeAny_mono (F.run X.A X.stack s H ⟨us,[]⟩ (us++ds) (vs++dvs) Q E hr I.env0 (hb s us I.kIn hl) r2 h) fun r s' hq=>?_)
  cases r with
  |error e=>exact hx pins σ H s e s' I hq
  | ok fl =>
    cases fl with
    |ret u=>exact I.after hq
    |next=>exact False.elim hq
    |brk=>exact False.elim hq
    |cont=>exact False.elim hq
theorem ZI(F:L4 X.prog X.w X.K X.mg X.base CX k f fd ps sp)(hr:L5 k X.A)(hg:Gl X x)(hm:X.mg x=some (.ref f))(hk:PySem.W.keepIn X.K (.ref f)=true)(hb:Binds X.K fd ps ds)(hd:Vals dvs ds)(hx:Passes CX X E)
  (ha:PA X (e::es) t) (hdb:(x==("__debug__":Str))=false:=by decide) (he:starEach (e::es) X.env=(false,eval e X.env)::starEach es X.env:=by rfl) (hpl:(backTo pos (starEach es X.env)).any (·.1)=false:=by rfl):
  PE X (.Call (.Name x p) (e::es) [] pos) (aY sp dvs E t):=by
 intro pins s σ H Q I h
 refine wpAny_Call_Name_kw (Sv I hg hm ?_ hdb)
 refine PySem.W.callWith_K (h₀:=X.base) I.ok.mod.kin hk (thn (ha pos pins s σ H _ I h) fun us s1 ⟨vs,H1,I1,r,q⟩=>⟨I1.kIn,?_⟩) he hpl
 exact YO F hr hb hd hx I1 r q
structure Mk(K:PySem.W.Frag)(C f:Addr):Prop where
 makes:PySem.W.makesIn K C=true
 init:PySem.W.findIn K (.ref C) "__init__"=some (some (.ref f))
 fn:PySem.W.isFn K (.ref f)=true
 kp:PySem.W.keepIn K (.ref C)=true
end
section
variable{X:Cx}{CX:CXT}{k:Nat}{f C:Addr}{fd:FuncData}{ps ks:List Str}{sp:Sp}{E:XK}{x m:Str}{p pos apos kpos:Pos}{e o:Expr}{es:List Expr}{kws:List Keyword}{te ta:TE}{t tk:TA}{nm:Option Str}
structure jP(K:PySem.W.Frag)(fd:FuncData)(ps ks:List Str)(g:List Value->List Value->List Value)(gV:List V->List V->List V):Prop where
 to:∀(s:Shared) (us ws:List Value),K.In s.heap->(g us ws).length=ps.length->BindsTo s fd ⟨us,ks.zip ws⟩ (ps.zip (g us ws))
 rel:∀{vs:List V} {us:List Value} {zs:List V} {ws:List Value},Vals vs us->Vals zs ws->Vals (gV vs zs) (g us ws)
variable{g:List Value->List Value->List Value}{gV:List V->List V->List V}
end
structure AS(N P:List Str)(sc:Scope):Prop where
 kind:sc.kind=.function
 co:sc.isCoroutine=false
 gen:sc.isGenerator=false
 nd:N.Nodup
 pre:N.take P.length=P
 par:∀x∈P,sc.names.lookup x=some .local∨sc.names.lookup x=some .cell
 nofree:∀y∈sc.names,y.2≠.free
theorem O5{kindOf:Str->Option NameKind}{x:Str}:∀{binds:List (Str×Value)} {m:Str->Option Value},(∀v,(x,v)∉binds)->bindL kindOf binds m x=m x
  | [],_,_=>rfl
  | (n, v) :: r, m, h => by
    unfold bindL
    rw[O5 fun w hw=>h w (List.mem_cons_of_mem _ hw)]
    split
    · have : x ≠ n := by rintro rfl; exact h v List.mem_cons_self
      simp[this]
    ·rfl
theorem Og{kindOf:Str->Option NameKind}{x:Str}:∀{binds:List (Str×Value)} {m:Str->Option Value},(∀v,(x,v)∉binds)->bindC kindOf binds m x=m x
  | [],_,_=>rfl
  | (n, v) :: r, m, h => by
    unfold bindC
    rw[Og fun w hw=>h w (List.mem_cons_of_mem _ hw)]
    split
    ·rfl
    · have : x ≠ n := by rintro rfl; exact h v List.mem_cons_self
      simp[this]
theorem O1{kindOf:Str->Option NameKind}{x:Str}{v:Value}:∀{P:List Str} {vs:List Value} {i:Nat} {m:Str->Option Value},P.Nodup->P[i]?=some x->vs[i]?=some v->kindOf x=some .local->
    bindL kindOf (P.zip vs) m x=some v
  | [],_,_,_,_,h,_,_=>by simp at h
  |_::_,[],_,_,_,_,h,_=>by simp at h
  | p :: P, w :: vs, 0, m, nd, h1, h2, hk => by
    simp at h1 h2;subst h1;subst h2
    show bindL kindOf ((p,w)::P.zip vs) m p=_
    unfold bindL
    rw[O5 fun v hv=>(List.nodup_cons.mp nd).1 (List.of_mem_zip hv).1,if_pos hk]
    simp
  | p :: P, w :: vs, i + 1, m, nd, h1, h2, hk => by
    show bindL kindOf ((p,w)::P.zip vs) m x=_
    unfold bindL
    exact O1 (i:=i) (List.nodup_cons.mp nd).2 (by simpa using h1) (by simpa using h2) hk
theorem PK{kindOf:Str->Option NameKind}{x:Str}{v:Value}:∀{P:List Str} {vs:List Value} {i:Nat} {m:Str->Option Value},P.Nodup->P[i]?=some x->vs[i]?=some v->kindOf x≠some .local->
    bindC kindOf (P.zip vs) m x=some v
  | [],_,_,_,_,h,_,_=>by simp at h
  |_::_,[],_,_,_,_,h,_=>by simp at h
  | p :: P, w :: vs, 0, m, nd, h1, h2, hk => by
    simp at h1 h2;subst h1;subst h2
    show bindC kindOf ((p,w)::P.zip vs) m p=_
    unfold bindC
    rw[Og fun v hv=>(List.nodup_cons.mp nd).1 (List.of_mem_zip hv).1,if_neg hk]
    simp
  | p :: P, w :: vs, i + 1, m, nd, h1, h2, hk => by
    show bindC kindOf ((p,w)::P.zip vs) m x=_
    unfold bindC
    exact PK (i:=i) (List.nodup_cons.mp nd).2 (by simpa using h1) (by simpa using h2) hk
noncomputable def start(N:List Str)(vs:List V):St:=vs.map some++List.replicate (N.length-vs.length) none
noncomputable def YC(CX:CXT)(P:Program)(w:World)(K:PySem.W.Frag)(mg:Str->Option Value)(base:Heap)(N:List Str)(qual:Str)(scope:Scope)(f:Addr)(cd:Value)(A:Around)(outer:List Env)(s:Shared)(H:Hp)(E:XK):Cx where
 prog:=P
 w:=w
 K:=K
 mg:=mg
 base:=base
 A:=A.deeper (envOfC qual scope s.heap.objs.size f cd)
 N:=N
 s₀:=s
 H₀:=H
 env:=envOfC qual scope s.heap.objs.size f cd
 outer:=outer
 stack:=envOfC qual scope s.heap.objs.size f cd::outer
 ex:=[]
 calm:=true
 fn:=fun _=>true
 pn:=[]
 xe:=fun e s'=>wpAny (model P w) (A.deeper (envOfC qual scope s.heap.objs.size f cd)) (leaving (envOfC qual scope s.heap.objs.size f cd) e) (fun _ s''=>CX outer H s E e s'') (fun e' s''=>CX outer H s E e' s'') s'
theorem Kp{sc:Scope}{n:Nat}{x:Str}(h:sc.names.lookup x=some .cell):∃c,(cellsFrom n sc.names []).lookup x=some c:=by
 have q:=PySem.W.cellsFrom_some sc.names n [] (.inl h)
 exact Option.isSome_iff_exists.mp q
theorem Uc{CX:CXT}{P:Program}{w:World}{K:PySem.W.Frag}{mg:Str->Option Value}{base:Heap}{N ps:List Str}{qual:Str}{scope:Scope}{f:Addr}{cd:Value}{A:Around}{outer:List Env}{s s1:Shared}{H:Hp}{E:XK}{us:List Value}{vs:List V}
  (S:AS N ps scope) (hd:A.handled=none) (e0:fZ P w K mg base A outer s H) (hl:vs.length=ps.length) (r:Vals vs us)
  (x:InCallC s s.heap.objs.size (bindL (envOfC qual scope s.heap.objs.size f cd).kindOf (ps.zip us) fun _=>none) (cellsFrom (s.heap.objs.size+1) scope.names []) (bindC (envOfC qual scope s.heap.objs.size f cd).kindOf (ps.zip us) fun _=>none) s1):
  Inv (YC CX P w K mg base N qual scope f cd A outer s H E) [] (start N vs) H s1:=by
 have hpl:ps.length≤N.length:=by have:=congrArg List.length S.pre;rw[List.length_take]at this;omega
 obtain⟨h1,tk,rfl,hk⟩:=x.done
 have noA:∀b:Addr,b∉(YC CX P w K mg base N qual scope f cd A outer s H E).ex:=fun b z=>absurd (show b∈([]:List Addr)from z) (by simp)
 refine⟨⟨e0.mod,S.kind,rfl,rfl,Nat.le_refl _,fun y z c h1 h2=>?_,fun y hy=>?_,fun y c _ h=>?_,fun _=>hd,Around.frames_deeper e0.frames,.inr ⟨rfl,rfl⟩,fun b z=>absurd z (noA b),e0.bs,e0.bsz,fun b _ _=>noA b,fun b z=>absurd z (noA b),e0.funs,e0.frf⟩,
  rfl,e0.bare,Un.kept hk,⟨_,x.toInCall.ns,fun i y v h1 h2 h3=>?_⟩,fun y c h=>⟨_,x.cell y c h⟩,e0.hok.fresh (Nat.le_refl _),fun y c h=>?_,fun p hp=>absurd (show p∈([]:List (Addr×Obj))from hp) (by simp),e0.hok.kept hk,?_⟩
 ·exact name_of_addr x.apart (PySem.mem_of_lookup h1) (PySem.mem_of_lookup h2)
 ·have hy:scope.names.lookup y=some .cell∨scope.names.lookup y=some .free:=hy
  rcases hy with hy|hy
  ·exact Kp hy
  ·exact absurd rfl (S.nofree _ (PySem.mem_of_lookup hy))
 ·exact Nat.le_of_lt (x.above y c (PySem.mem_of_lookup h))
 ·have hi:i<vs.length:=by
   unfold start at h2
   by_cases hi:i<vs.length
   ·exact hi
   ·rw[List.getElem?_append_right (by simpa using hi)]at h2
    rw[List.getElem?_replicate]at h2
    split at h2<;>cases h2
  have ha:vs[i]?=some v:=by
   unfold start at h2
   rw[List.getElem?_append_left (by simpa using hi),List.getElem?_map]at h2
   cases e:vs[i]? with
   |none=>rw[e]at h2;cases h2
   |some a=>rw[e]at h2;cases h2;rfl
  obtain⟨u,hu,rv⟩:=r.get ha
  have hp:ps[i]?=some y:=by
   rw[←S.pre,List.getElem?_take_of_lt (by omega)];exact h1
  have ndP:ps.Nodup:=by rw[←S.pre];exact S.nd.sublist (List.take_sublist _ _)
  refine⟨u,rv,?_⟩
  rcases S.par y (List.mem_of_getElem? hp)with k|k
  ·exact .inl ⟨k,O1 ndP hp hu k⟩
  ·obtain⟨c,e⟩:=Kp (n:=s.heap.objs.size+1) k
   refine .inr ⟨.inl k,c,e,?_⟩
   have q:=x.cell y c e
   rw[PK ndP hp hu (by show scope.names.lookup y≠_;rw[k];decide)]at q
   exact q
 ·exact e0.hok.fresh (Nat.le_of_lt (x.above y c (PySem.mem_of_lookup h)))
 ·unfold start
  show _=N.length
  rw[List.length_append,List.length_map,List.length_replicate]
  omega
theorem jG{CX:CXT}{P:Program}{w:World}{K:PySem.W.Frag}{mg:Str->Option Value}{base:Heap}{k:Nat}{f:Addr}{name qual:Str}{params:Arguments}{body:List Stmt}{scope:Scope}{dV kV doc pm cdv ct oc:Value}{an od:Option Addr}
    {osl:Array (Option Value)} {N ps:List Str} {sp:Sp} (lk:K.lookup f=some ⟨oc,od,.func (PySem.W.fnOf name qual params body scope dV kV doc pm an cdv ct),osl⟩) (hcd:PySem.W.codeIn K cdv qual=true) (S:AS N ps scope)
    (len:∀vs H Q E,sp vs H Q E->vs.length=ps.length)
    (hbody:∀(A:Around) (outer:List Env) (s:Shared) (H:Hp) (vs:List V) (Q:VK) (E:XK),L5 k (A.deeper (envOfC qual scope s.heap.objs.size f cdv))->sp vs H Q E->
      ∃t,PSs (YC CX P w K mg base N qual scope f cdv A outer s H E) body t/\t {nx:=fun _ H'=>Q .non H',rt:=Q} (start N vs) H):
    L4 P w K mg base CX (k+1) f (PySem.W.fnOf name qual params body scope dV kV doc pm an cdv ct) ps sp:=by
  refine⟨len,fun A outer s H args us vs Q E hr e0 hb r hsp=>?_⟩
  have hl:=len _ _ _ _ hsp
  have KX:K.In s.heap:=e0.mod.kin.keeps fun b o e=>(e0.bs b o e).1
  have lim:s.heap.NoLimit:=e0.mod.nolimit.keeps fun b o e=>(e0.bs b o e).1
  have hkind:∀y∈ps.zip us,scope.names.lookup y.1=some .local∨(scope.names.lookup y.1=some .cell/\((cellsFrom (s.heap.objs.size+1) scope.names []).lookup y.1).isSome=true):=fun⟨n,v⟩ hy=>by
    rcases S.par n (List.of_mem_zip hy).1 with q|q
    ·exact .inl q
    ·exact .inr ⟨q,PySem.W.cellsFrom_some _ _ _ (.inl q)⟩
  refine codeAny_call_function hr.depth (KX _ _ lk) rfl S.co S.gen rfl (PySem.W.codeRec_of KX hcd) (hb _ _ _ _ ?_)
  refine wpAny_newFunctionEnv_cells S.kind hkind fun env he s1 x=>?_
  subst he
  refine⟨lim.keeps x.toInCall.keep,codeAny_func ?_⟩
  obtain⟨t,ht,hq⟩:=hbody A outer s H vs Q E (hr.deeper _) hsp
  have I:Inv (YC CX P w K mg base N qual scope f cdv A outer s H E) [] (start N vs) H s1:=Uc S hr.hd e0 hl r x
  refine wpAny_mono (ht [] s1 (start N vs) H _ I hq) (fun fl s' hs=>?_) fun e s' hs=>hs
  have fin:∀{σ':St} {H':Hp} {v:V} {u:Value},Inv (YC CX P w K mg base N qual scope f cdv A outer s H E) [] σ' H' s'->RelV v u->Q v H'->CE outer P w H s Q u s':=
    fun{σ' H' v u} J rv q=>⟨v,H',J.os,J.bare,J.base,J.hok,rv,q⟩
  cases fl with
  | ret u =>
    obtain⟨v,σ',H',J,rv,q⟩:=hs
    exact fin J rv q
  | next =>
    obtain⟨σ',H',J,q⟩:=hs
    exact fin (v:=V.non) (u:=Value.none) J rfl q
  | brk =>
    obtain⟨_,_,_,q⟩:=hs
    exact False.elim q
  | cont =>
    obtain⟨_,_,_,q⟩:=hs
    exact False.elim q
end L2
namespace L2
open PySem PySem.Spec PyProof.Rows
section
variable{X:Cx}{x:Str}{p pos:Pos}{e:Expr}{es:List Expr}{t:TA}{id T:String}{r:List V->Hp->VK->Prop}
noncomputable def tCB(r:List V->Hp->VK->Prop)(t:TA):TE:=fun σ H Q=>t σ H fun vs H1=>r vs H1 Q
theorem Wd(hc:Eb X (.builtin id) r)(hg:Gl X x)(hm:X.mg x=none)(hv:bootBuiltins x=some (.builtin id))(ha:PA X (e::es) t)(hn:x≠ "__name__":=by decide)(hdb:(x==("__debug__":Str))=false:=by decide)
  (he:starEach (e::es) X.env=(false,eval e X.env)::starEach es X.env:=by rfl) (hpl:(backTo pos (starEach es X.env)).any (·.1)=false:=by rfl):PE X (.Call (.Name x p) (e::es) [] pos) (tCB r t):=by
 intro pins s σ H Q I h
 refine wpAny_Call_Name_kw (MZ I hg hm hv ?_ hn hdb)
 exact PyProof.Rows.callWith_builtin1 (thn (ha pos pins s σ H _ I h) fun us s1 ⟨vs,H1,I1,r1,q1⟩=>hc pins s1 σ H1 vs us Q I1 r1 q1) he hpl
theorem TM(hc:Eb X (.type T) r)(hg:Gl X x)(hm:X.mg x=none)(hv:bootBuiltins x=some (.type T))(ha:PA X (e::es) t)(hn:x≠ "__name__":=by decide)(hdb:(x==("__debug__":Str))=false:=by decide)
  (he:starEach (e::es) X.env=(false,eval e X.env)::starEach es X.env:=by rfl) (hpl:(backTo pos (starEach es X.env)).any (·.1)=false:=by rfl):PE X (.Call (.Name x p) (e::es) [] pos) (tCB r t):=by
 intro pins s σ H Q I h
 refine wpAny_Call_Name_kw (MZ I hg hm hv ?_ hn hdb)
 exact PyProof.Rows.callWith_type1 (thn (ha pos pins s σ H _ I h) fun us s1 ⟨vs,H1,I1,r1,q1⟩=>hc pins s1 σ H1 vs us Q I1 r1 q1) he hpl
end
end L2
namespace HT
open PySem PyProof.Rows
section
open PySem.SeqAt
open PySem.AutoSeq1 (wpAny_loadPart')
open PySem.MeetsSeq PySem.MeetsSeq2 PySem.MeetsSeq3
end
section
variable{prog:Program}{w:World}{A:Around}{E:Value->Shared->Prop}{s:Shared}
theorem Ym{t b:Addr}{vs ws:List Value}{Q:Value->Shared->Prop}(ht:IsTup s.heap t vs.toArray)(hb:IsTup s.heap b ws.toArray)(hv:vs≠[])
  (h1:ws=[]->Q (.ref t) s) (h2:ws≠[]->Q (.ref s.heap.objs.size) {s with heap:=s.heap.push {cls:=.type "tuple",data:=.seq (vs++ws).toArray}})
  (hsz:vs.length+ws.length≤sizeLine):wpAny (model prog w) A (binaryOp .Add (.ref t) (.ref b)) Q E s:=by
 obtain⟨⟨cls,dd,data,sl⟩,ho,hc,n,hd⟩:=id ht
 obtain⟨⟨cls2,dd2,data2,sl2⟩,ho2,hc2,n2,hd2⟩:=id hb
 simp only at hc hd hc2 hd2
 subst hc hd hc2 hd2
 have e:vs.toArray++ws.toArray=(vs++ws).toArray:=by simp
 by_cases hw:ws=[]
 ·exact concat_meets ⟨_,ho,rfl⟩ ⟨_,ho2,rfl⟩ noFill_tuple_add seq_tuple_add PySem.F.slot_tuple_add PySem.F.entry_tuple_add (PySem.F.args_tuple_add_2 _ _)
   (tuple_addW1 t b vs.toArray ws.toArray n n2 dd dd2 sl sl2 (by simpa using hv) (by simp[hw])) ⟨ho,ho2,h1 hw⟩
 ·refine concat_meets ⟨_,ho,rfl⟩ ⟨_,ho2,rfl⟩ noFill_tuple_add seq_tuple_add PySem.F.slot_tuple_add PySem.F.entry_tuple_add (PySem.F.args_tuple_add_2 _ _)
   (tuple_addW2 t b vs.toArray ws.toArray n n2 dd dd2 sl sl2 (by simpa using hv) (by simpa using hw) (by rw[List.size_toArray,List.size_toArray];exact hsz)) ⟨ho,ho2,?_⟩
  rw[e]
  exact h2 hw
noncomputable def sIx(n d:Nat):Option Int->Nat
 |none=>d
 |some v=>if v<0 then(v+(n:Int)).toNat else min v.toNat n
theorem bJ(n d:Nat)(hd:d≤n)(o:Option Int):sIx n d o≤n:=by
  cases o with
  |none=>exact hd
  | some v =>
    show(if v<0 then(v+(n:Int)).toNat else min v.toNat n)≤n
    by_cases hv:v<0
    ·rw[if_pos hv];omega
    ·rw[if_neg hv];exact Nat.min_le_right _ _
theorem Ud(v:Int)(n d:Nat):(if v<0 then max (v+(n:Int)) 0 else min v (n:Int))=((sIx n d (some v):Nat):Int):=by
 show(if v<0 then max (v+(n:Int)) 0 else min v (n:Int))=(((if v<0 then(v+(n:Int)).toNat else min v.toNat n):Nat):Int)
 by_cases hv:v<0
 ·simp only[if_pos hv];omega
 ·simp only[if_neg hv];omega
theorem Qz(lo hi:Option Int)(n:Nat):Builtin.Slice.sliceAdjust lo hi 1 (n:Int)=(((sIx n 0 lo:Nat):Int),((sIx n n hi:Nat):Int)):=by
 have h1:¬((1:Int)<0):=by omega
 unfold Builtin.Slice.sliceAdjust
 simp only[h1,if_false]
 refine Prod.ext ?_ ?_
 ·cases lo with
  |none=>rfl
  |some v=>exact Ud v n 0
 ·cases hi with
  |none=>rfl
  |some v=>exact Ud v n n
theorem RC(i j:Nat):Builtin.Slice.slicePlaces (i:Int) (j:Int) 1=j-i:=by
 unfold Builtin.Slice.slicePlaces
 have h1:(1:Int)>0:=by omega
 simp only[h1,if_true,Int.ediv_one]
 split<;>omega
theorem My{v:Value}{o:Option Int}{Q:Option Int->Shared->Prop}(p:IsPart v o)(h:Q o s):wpAny (model prog w) A (Builtin.Slice.slicePartIndex v) Q E s:=by
 cases p with
 |none=>exact slicePart_none h
 |int i t=>exact slicePart_int h
theorem G3{sl:Addr}{vl vu:Value}{lo hi:Option Int}{n:Nat}{Q:Int×Int×Nat->Shared->Prop}(hs:s.heap.IsSliceOf sl vl vu .none)(pl:IsPart vl lo)(pu:IsPart vu hi)
  (h:Q (((sIx n 0 lo:Nat):Int),1,sIx n n hi-sIx n 0 lo) s):wpAny (model prog w) A (Builtin.Slice.sliceApplied (.ref sl) (pure (n:Int))) Q E s:=by
 obtain⟨os,hos,hcs,hds⟩:=id hs
 unfold Builtin.Slice.sliceApplied Builtin.Slice.sliceFields
 refine wpAny_bind (wpAny_bind (wpAny_field hos hds (x:=vl) rfl (wpAny_bind (wpAny_field hos hds (x:=vu) rfl (wpAny_bind (wpAny_field hos hds (x:=.none) rfl (wpAny_pure ?_)))))))
 refine wpAny_bind (slicePart_none ?_)
 show wpAny _ _ (if((1:Int)==0)=true then _ else _) _ _ s
 rw[if_neg (by decide)]
 refine wpAny_bind (My pl (wpAny_bind (My pu (wpAny_bind (wpAny_pure ?_)))))
 show wpAny _ _ (match Builtin.Slice.sliceAdjust lo hi 1 (n:Int)with|(lo,hi)=>pure (lo,(1:Int),Builtin.Slice.slicePlaces lo hi 1)) _ _ s
 rw[Qz lo hi n]
 show wpAny _ _ (pure (((sIx n 0 lo:Nat):Int),(1:Int),Builtin.Slice.slicePlaces ((sIx n 0 lo:Nat):Int) ((sIx n n hi:Nat):Int) 1)) _ _ s
 rw[RC]
 exact wpAny_pure h
theorem XY(xs:Array Value)(i k:Nat):((List.range k).filterMap fun(m:Nat)=>xs[((i:Int)+(m:Int)*1).toNat]?).toArray=((xs.toList.drop i).take k).toArray:=by
 have e:(fun(m:Nat)=>xs[((i:Int)+(m:Int)*1).toNat]?)=fun m=>xs[i+m]?:=by
  funext m
  have:((i:Int)+(m:Int)*1).toNat=i+m:=by omega
  rw[this]
 rw[e]
 have:=pick_run xs i k
 rw[List.filterMap_map]at this
 have e2:((fun x=>xs[x]?)∘fun x=>i+x)=fun m=>xs[i+m]?:=rfl
 rw[e2]at this
 rw[this]
theorem J2{t sl:Addr}{items:Array Value}{vl vu:Value}{lo hi:Option Int}{Q:Value->Shared->Prop}(ht:IsTup s.heap t items)(hs:s.heap.IsSliceOf sl vl vu .none)(pl:IsPart vl lo)(pu:IsPart vu hi)
  (hw:¬(sIx items.size 0 lo=0/\sIx items.size items.size hi=items.size))
  (h:Q (.ref s.heap.objs.size) {s with heap:=s.heap.push {cls:=.type "tuple",data:=.seq ((items.toList.drop (sIx items.size 0 lo)).take (sIx items.size items.size hi-sIx items.size 0 lo)).toArray}})
  (hsz:items.size≤sizeLine):wpAny (model prog w) A (getItem (.ref t) (.ref sl)) Q E s:=by
 have htake:sizeOk (.seq ((items.toList.drop (sIx items.size 0 lo)).take (sIx items.size items.size hi-sIx items.size 0 lo)).toArray):=by
  show((items.toList.drop (sIx items.size 0 lo)).take (sIx items.size items.size hi-sIx items.size 0 lo)).toArray.size≤sizeLine
  rw[List.size_toArray,List.length_take,List.length_drop,Array.length_toList]
  omega
 have hj:sIx items.size items.size hi≤items.size:=bJ _ _ (Nat.le_refl _) hi
 obtain⟨os,hos,hcs,hds⟩:=id hs
 have hTs:s.TypeIs (.ref sl) "slice":=⟨os,hos,hcs⟩
 unfold getItem
 try with_reducible refine wpAny_holding ?_
 first|refine wpAny_bind (wpAny_pure ?_)|skip
 refine wpAny_bind (wpAny_sequenceKey ht.typeIs (by decide) ?_)
 refine wpAny_bind (wpAny_callSpecial?_slot (name:=Str.ofString "__getitem__") ht.typeIs PyProof.Rows.slot_tuple_getitem
  (wpAny_call_entry PyProof.Rows.slot_tuple_getitem ht.typeIs entry_tuple_getitem ?_ (args_tuple_getitem _ _)))
 show wpAny _ _ (Builtin.Tuple.tupleItemsOf (.ref t) >>= _) _ _ s
 refine wpAny_bind (tupleItemsOf_ ht ?_)
 refine wpAny_bind (wpAny_typeOf hTs ?_)
 rw[if_pos (by decide)]
 refine wpAny_bind (G3 hs pl pu ?_)
 have hno:¬((((sIx items.size 0 lo:Nat):Int)==0 && (1:Int)==1 && (sIx items.size items.size hi-sIx items.size 0 lo)==items.size)=true):=by
  intro q
  rw[Bool.and_eq_true,Bool.and_eq_true]at q
  have q1:((sIx items.size 0 lo:Nat):Int)=0:=eq_of_beq q.1.1
  have q2:sIx items.size items.size hi-sIx items.size 0 lo=items.size:=eq_of_beq q.2
  exact hw ⟨by omega,by omega⟩
 show wpAny _ _ (if(((sIx items.size 0 lo:Nat):Int)==0 && (1:Int)==1 && (sIx items.size items.size hi-sIx items.size 0 lo)==items.size)=true then _ else _) _ _ s
 rw[if_neg hno,XY]
 first
  |exact wpAny_bind (m:=Builtin.Tuple.tupleExact _) (wpAny_newObj_type (wpAny_pure ⟨_,rfl,wpAny_pure h⟩) htake)
  |exact wpAny_bind (m:=Builtin.Tuple.tupleExact _) (wpAny_newObj_type (wpAny_bind (wpAny_pure (wpAny_pure ⟨_,rfl,wpAny_pure h⟩))) htake)
  |exact wpAny_bind (wpAny_bind (m:=Builtin.Tuple.tupleExact _) (wpAny_newObj_type (wpAny_pure (wpAny_pure ⟨_,rfl,wpAny_pure h⟩)) htake))
  |exact wpAny_bind (wpAny_bind (m:=Builtin.Tuple.tupleExact _) (wpAny_newObj_type (wpAny_pure ⟨_,rfl,wpAny_pure h⟩) htake))
end
end HT
namespace L2
open PySem PySem.Spec PyProof.Rows
abbrev TO:=St->Hp->(Option Int->Hp->Prop)->Prop
def PO(X:Cx)(e:Option Expr)(t:TO):Prop:=
 ∀ (pins : List (Addr × Obj)) (s : Shared) (σ : St) (H : Hp) (Q : Option Int -> Hp -> Prop), Inv X pins σ H s -> t σ H Q ->
  wpAny (model X.prog X.w) X.A (evalPart e X.env) (fun u s'=>∃o H',Inv X pins σ H' s'/\IsPart u o/\Q o H') X.xe s
noncomputable def aG:TO:=fun _ H Q=>Q none H
noncomputable def iz(t:TE):TO:=fun σ H Q=>t σ H fun x H1=>∃i,x=.int i/\Q (some i) H1
section
variable{X:Cx}{e:Expr}{te:TE}{lo hi:Option Expr}{tl th:TO}{pos p2:Pos}
theorem TF:PO X none aG:=by
 intro pins s σ H Q I h
 rw[evalPart_none]
 exact wpAny_pure ⟨none,H,I,.none,h⟩
theorem NO(h:PE X e te):PO X (some e) (iz te):=by
 intro pins s σ H Q I hw
 rw[evalPart_some]
 refine thn (h pins s σ H _ I hw) fun u s1 ⟨x,H1,I1,r1,q1⟩=>?_
 obtain⟨i,rfl,q⟩:=q1
 obtain⟨t,rfl⟩:=r1
 exact⟨some i,H1,I1,.int i t,q⟩
def SlR(X:Cx)(r:V->Option Int->Option Int->Hp->VK->Prop):Prop:=
 ∀ (pins : List (Addr × Obj)) (s : Shared) (σ : St) (H : Hp) (x : V) (v vl vu : Value) (lo hi : Option Int) (sl : Addr) (Q : VK), Inv X pins σ H s -> RelV x v -> s.heap.IsSliceOf sl vl vu .none -> IsPart vl lo -> IsPart vu hi -> r x lo hi H Q ->
  ∃T id,typeLookup (.type T) "__getitem__"=pure (some (.builtin id))/\s.TypeIs v T/\wpAny (model X.prog X.w) X.A (getItem v (.ref sl)) (EP X pins σ Q) X.xe s
noncomputable def tSl(r:V->Option Int->Option Int->Hp->VK->Prop)(te:TE)(tl th:TO):TE:=fun σ H Q=>te σ H fun x H1=>tl σ H1 fun l H2=>th σ H2 fun u H3=>r x l u H3 Q
theorem NW{r:V->Option Int->Option Int->Hp->VK->Prop}(hr:SlR X r)(he:PE X e te)(hl:PO X lo tl)(hu:PO X hi th):PE X (.Subscript e (.Slice lo hi none p2) pos) (tSl r te tl th):=by
 intro pins s σ H Q I h
 refine Subscript_ (thn (he pins s σ H _ I h) fun v s1 ⟨x,H1,I1,r1,q1⟩=>?_)
 refine wpAny_Slice (thn (hl pins s1 σ H1 _ I1 q1) fun vl s2 ⟨l,H2,I2,pl,q2⟩=>thn (hu pins s2 σ H2 _ I2 q2) fun vu s3 ⟨u,H3,I3,pu,q3⟩=>?_)
 rw[evalPart_none]
 refine wpAny_pure ?_
 have I4:Inv X pins σ H3 {s3 with heap:=s3.heap.push {cls:=.type "slice",data:=.fields #[vl,vu,.none]}}:=I3.kept (t':=s3.toks) fun b ob q=>Heap.get?_push_of_some _ q
 obtain⟨T,id,hT,ht,hg⟩:=hr pins {s3 with heap:=s3.heap.push {cls:=.type "slice",data:=.fields #[vl,vu,.none]}} σ H3 x v vl vu l u s3.heap.objs.size Q I4 r1 (Heap.IsSliceOf.new ..) pl pu q3
 show wpAny (model X.prog X.w) X.A (subscriptTail e (.Slice lo hi none p2) v (.ref s3.heap.objs.size)) (EP X pins σ Q) X.xe {s3 with heap:=s3.heap.push {cls:=.type "slice",data:=.fields #[vl,vu,.none]}}
 exact tail_any (ops:=[.ref s3.heap.objs.size,v]) ht hT hg (by with_unfolding_all rfl)
noncomputable def YT(xs:List V)(lo hi:Option Int):List V:=(xs.drop (HT.sIx xs.length 0 lo)).take (HT.sIx xs.length xs.length hi-HT.sIx xs.length 0 lo)
theorem LR(xs:List V)(lo hi:Option Int):(YT xs lo hi).length≤xs.length:=by
 unfold YT
 rw[List.length_take,List.length_drop]
 omega
def ku(K:PySem.W.Frag):V->Option Int->Option Int->Hp->VK->Prop:=fun x lo hi H Q=>∃a xs,x=.ref a/\SqT K H a xs/\
 ¬(HT.sIx xs.length 0 lo=0/\HT.sIx xs.length xs.length hi=xs.length)/\∀p,H p=none->Q (.ref p) (upd H p (.tup (YT xs lo hi)))
theorem ba:SlR X (ku X.K):=by
 intro pins s σ H x v vl vu lo hi sl Q I rx hs pl pu h
 obtain⟨a,xs,rfl,hx,hw,q⟩:=h
 cases rx
 obtain⟨its,r,ht,hz⟩:=I.tuple hx
 have hlen:its.toArray.size=xs.length:=by rw[List.size_toArray];exact r.length.symm
 refine⟨"tuple",_,PyProof.Rows.slot_tuple_getitem.lookup,ht.typeIs,?_⟩
 refine HT.J2 ht hs pl pu (by rw[hlen];exact hw) ?_ (by rw[hlen];exact hz)
 rw[hlen]
 refine⟨.ref s.heap.objs.size,_,I.laid (t':=s.toks) (o:=.tup (YT xs lo hi)) (fun b ob q=>Heap.get?_push_of_some _ q) (Nat.le_refl _) ?_,rfl,q _ (I.hok.fresh (Nat.le_refl _))⟩
 exact⟨Nat.le_trans (LR xs lo hi) hz,_,(r.drop (HT.sIx xs.length 0 lo)).take (HT.sIx xs.length xs.length hi-HT.sIx xs.length 0 lo),IsTup.new _ _⟩
noncomputable def gZ(K:PySem.W.Frag):R2:=fun x y H Q=>∃a b xs ys,x=.ref a/\y=.ref b/\SqT K H a xs/\SqT K H b ys/\xs≠[]/\xs.length+ys.length≤sizeLine/\
 (ys=[]->Q (.ref a) H)/\(ys≠[]->∀p,H p=none->Q (.ref p) (upd H p (.tup (xs++ys))))
theorem Vals.nil_iff{xs:List V}{us:List Value}(r:Vals xs us):us=[]↔xs=[]:=by
 cases r with
 |nil=>simp
 |cons _ _=>simp
theorem Y8:OpR X (binaryOp .Add) (gZ X.K):=by
 intro pins s σ H x y v u Q I rx ry h
 obtain⟨a,b,xs,ys,rfl,rfl,ha,hb,hx,hz,q1,q2⟩:=h
 cases rx
 cases ry
 obtain⟨its,r1,p1,_⟩:=I.tuple ha
 obtain⟨its2,r2,p2,_⟩:=I.tuple hb
 refine HT.Ym p1 p2 (fun z=>hx (r1.nil_iff.mp z)) (fun z=>⟨.ref a,H,I,rfl,q1 (r2.nil_iff.mp z)⟩) (fun z=>?_) (by rw[←r1.length,←r2.length];exact hz)
 refine⟨.ref s.heap.objs.size,_,I.laid (t':=s.toks) (o:=.tup (xs++ys)) (fun b ob q=>Heap.get?_push_of_some _ q) (Nat.le_refl _) ?_,rfl,q2 (fun w=>z (r2.nil_iff.mpr w)) _ (I.hok.fresh (Nat.le_refl _))⟩
 exact⟨by rw[List.length_append];exact hz,_,r1.append r2,IsTup.new _ _⟩
end
end L2
namespace L2
open PySem PySem.Spec PyProof.Rows
noncomputable def ixN(n:Nat)(i:Int):Option Nat:=if 0≤i then(if i<n then some i.toNat else none)else if-(n:Int)≤i then some (i+n).toNat else none
noncomputable def atI{α:Type}(xs:List α)(i:Int):Option α:=(ixN xs.length i).bind fun j=>xs[j]?
theorem SJ{n:Nat}{i:Int}{j:Nat}(h:ixN n i=some j):seqIndex? i n=some j/\j<n/\ -(n:Int)≤i/\i<n:=by
 unfold ixN at h
 by_cases h0:0≤i
 ·rw[if_pos h0]at h
  by_cases h1:i<n
  ·rw[if_pos h1]at h
   have e:i.toNat=j:=Option.some.inj h
   exact⟨by rw[seqIndex_of h0 h1,e],by omega,by omega,h1⟩
  ·rw[if_neg h1]at h;cases h
 ·rw[if_neg h0]at h
  by_cases h1: -(n:Int)≤i
  ·rw[if_pos h1]at h
   have e:(i+n).toNat=j:=Option.some.inj h
   exact⟨by rw[seqIndex_neg (by omega) h1,e],by omega,h1,by omega⟩
  ·rw[if_neg h1]at h;cases h
theorem Tt{α:Type}{xs:List α}{i:Int}{v:α}(h:atI xs i=some v):∃j,seqIndex? i xs.length=some j/\xs[j]?=some v/\j<xs.length/\ -(xs.length:Int)≤i/\i<xs.length:=by
  unfold atI at h
  cases e:ixN xs.length i with
  |none=>rw[e]at h;cases h
  | some j =>
    rw[e]at h
    obtain⟨h1,h2,h3,h4⟩:=SJ e
    exact⟨j,h1,h,h2,h3,h4⟩
theorem aC{α:Type}{xs:List α}{j:Nat}{v:α}(h:xs[j]?=some v):atI xs (j:Int)=some v:=by
 have hj:j<xs.length:=(List.getElem?_eq_some_iff.mp h).1
 have e:ixN xs.length (j:Int)=some j:=by
  unfold ixN
  rw[if_pos (by omega),if_pos (by omega)];simp
 unfold atI;rw[e];exact h
theorem Qh{α:Type}(xs:List α)(v:α):atI (xs++[v]) (-1)=some v:=by
 have hl:(xs++[v]).length=xs.length+1:=by simp
 have e:ixN (xs++[v]).length (-1)=some xs.length:=by
  unfold ixN
  rw[hl,if_neg (by decide),if_pos (by omega)]
  congr 1
  omega
 unfold atI
 rw[e]
 show(xs++[v])[xs.length]?=some v
 simp
def Nc(b:Expr):Prop:=∀o i,subscripted b false o i=operate [o,i] (getItem o i)
def IxR(X:Cx)(r:R2):Prop:=
 ∀ (value slice : Expr) (pins : List (Addr × Obj)) (s : Shared) (σ : St) (H : Hp) (x y : V) (v u : Value) (Q : VK), Inv X pins σ H s -> RelV x v -> RelV y u -> r x y H Q ->
  subscripted slice false v u=operate [v,u] (getItem v u)->wpAny (model X.prog X.w) X.A (subscriptTail value slice v u) (EP X pins σ Q) X.xe s
def MtR(X:Cx)(id:String)(r:V->List V->Hp->VK->Prop):Prop:=
 ∀ (pins : List (Addr × Obj)) (s : Shared) (σ : St) (H : Hp) (x : V) (xs : List V) (v : Value) (us : List Value) (Q : VK), Inv X pins σ H s -> RelV x v -> Vals xs us -> r x xs H Q ->
  wpAny (model X.prog X.w) X.A (call (.builtin id) (v::us)) (EP X pins σ Q) X.xe s
section
variable{X:Cx}{a b:Expr}{ta tb:TE}{pos:Pos}
theorem aK{r:R2}(hr:IxR X r)(ha:PE X a ta)(hb:PE X b tb)(hs:Nc b):PE X (.Subscript a b pos) (tOp r ta tb):=by
 intro pins s σ H Q I h
 exact Subscript_ (gS ha hb I h fun v u s2 x y H2 I2 rx ry q=>hr a b pins s2 σ H2 x y v u Q I2 rx ry q (hs _ _))
noncomputable def k7(K:PySem.W.Frag):R2:=fun x y H Q=>∃p xs i v,x=.ref p/\y=.int i/\SqL K H p xs/\atI xs i=some v/\Q v H
noncomputable def kN(K:PySem.W.Frag):R2:=fun x y H Q=>∃p xs i v,x=.ref p/\y=.int i/\SqT K H p xs/\atI xs i=some v/\Q v H
theorem Z1:IxR X (k7 X.K):=by
 intro value slice pins s σ H x y v u Q I rx ry h hs
 obtain⟨p,xs,i,z,rfl,rfl,hq,he,q⟩:=h
 cases rx
 obtain⟨t,rfl⟩:=ry
 obtain⟨its,r,pl,hz⟩:=I.list hq
 obtain⟨j,h1,h2,h3,h4,h5⟩:=Tt he
 obtain⟨w,ew,rw'⟩:=r.get h2
 have hl:=r.length
 have hn:=PN
 have fin:EP X pins σ Q w s:=⟨z,H,I,rw',q⟩
 by_cases h0:0≤i
 ·have hj:i.toNat=j:=by
   rw[seqIndex_of h0 h5]at h1
   exact Option.some.inj h1
  exact item_listR pl.isList h0 (by omega) (by rw[hj];simpa using ew) fin hs
 ·have hj:(i+(its.toArray.size:Int)).toNat=j:=by
   rw[seqIndex_neg (by omega) h4]at h1
   rw[List.size_toArray,←hl]
   exact Option.some.inj h1
  exact subscriptTail_builtinR (x:=w) pl.isList.typeIs slot_list_getitem.lookup
   (wpAny_getItem_list_neg (Q:=fun r s'=>r=w/\EP X pins σ Q r s') pl.isList (by omega) (by rw[List.size_toArray]<;>omega) (by omega) (by rw[hj];simpa using ew) ⟨rfl,fin⟩) hs
theorem cZ:IxR X (kN X.K):=by
 intro value slice pins s σ H x y v u Q I rx ry h hs
 obtain⟨p,xs,i,z,rfl,rfl,hq,he,q⟩:=h
 cases rx
 obtain⟨t,rfl⟩:=ry
 obtain⟨its,r,pl,hz⟩:=I.tuple hq
 obtain⟨j,h1,h2,h3,h4,h5⟩:=Tt he
 obtain⟨w,ew,rw'⟩:=r.get h2
 have hl:=r.length
 have hn:=PN
 have fin:EP X pins σ Q w s:=⟨z,H,I,rw',q⟩
 exact subscriptTail_builtinR (x:=w) pl.typeIs slot_tuple_getitem.lookup
  (getItem_tuple (j:=j) (Q:=fun r s'=>r=w/\EP X pins σ Q r s') pl (by omega) (by omega) (by rw[List.size_toArray,←hl];exact h1) (by simpa using ew) ⟨rfl,fin⟩) hs
theorem RY(its:List Value)(n j:Nat)(u:Value):Obj.mapSeq (·.setIfInBounds j u) {cls:=.type "list",data:=.seq its.toArray n}={cls:=.type "list",data:=.seq (its.set j u).toArray n}:=by
 simp[Obj.mapSeq]
theorem Inv.lst{pins:List (Addr×Obj)}{σ:St}{H:Hp}{s:Shared}{p:Addr}{xs:List V}(I:Inv X pins σ H s)(h:H p=some (.lst xs)):
  ∃(its:List Value) (n:Nat),Vals xs its/\s.heap.get? p=some {cls:=.type "list",data:=.seq its.toArray n}/\xs.length≤sizeLine:=by
 obtain⟨z,its,n,r,e⟩:=I.hok p _ h
 exact⟨its,n,r,e,z⟩
theorem Inv.lstUpd{pins:List (Addr×Obj)}{σ:St}{H:Hp}{s:Shared}{p:Addr}{xs ys:List V}{its its':List Value}{n n':Nat}{f:Obj->Obj}(I:Inv X pins σ H s)(h:H p=some (.lst xs))
  (ho:s.heap.get? p=some {cls:=.type "list",data:=.seq its.toArray n}) (hf:f {cls:=.type "list",data:=.seq its.toArray n}={cls:=.type "list",data:=.seq its'.toArray n'}) (r:Vals ys its') (hz:ys.length≤sizeLine) (t:Nat):
  Inv X pins σ (upd H p (.lst ys)) {s with heap:=s.heap.update p f,toks:=t}:=by
 have e:(s.heap.update p f).get? p=some {cls:=.type "list",data:=.seq its'.toArray n'}:=by
  rw[Heap.get?_update_self f ho (by rw[hf]<;>rfl),hf]
 refine I.write (x:=p) (e:=p) (by rw[h];trivial) (.inl rfl) (fun b u hb q=>(Heap.get?_update_other _ _ (Ne.symm hb)).trans q) ⟨_,e⟩ ?_
 exact⟨hz,its',n',r,e⟩
def gQ:V->V->V->Hp->(Hp->Prop)->Prop:=fun o i v H Q=>∃p xs k j,o=.ref p/\i=.int k/\H p=some (.lst xs)/\ixN xs.length k=some j/\Q (upd H p (.lst (xs.set j v)))
theorem set_list:jZ X gQ:=by
 intro pins s σ H o i v ov iv u Q I ro ri rv h
 obtain⟨p,xs,k,j,rfl,rfl,hp,hj,q⟩:=h
 cases ro
 obtain⟨t,rfl⟩:=ri
 obtain⟨its,n,r,ho,hz⟩:=I.lst hp
 obtain⟨h1,h2,h3,h4⟩:=SJ hj
 have hl:=r.length
 have hn:=PN
 have I':Inv X pins σ (upd H p (.lst (xs.set j v))) {s with heap:=s.heap.update p (Obj.mapSeq (·.setIfInBounds j u))}:=
  I.lstUpd hp ho (RY its n j u) (r.set rv j) (by rw[List.length_set];exact hz) s.toks
 by_cases h0:0≤k
 ·have hk:k.toNat=j:=by
   rw[seqIndex_of h0 h4]at h1
   exact Option.some.inj h1
  exact PySem.W.ki_setAt ho h0 (by omega) (by rw[List.size_toArray,←hl];exact h4) (by rw[hk];exact⟨_,I',q⟩)
 ·have hk:(k+(its.toArray.size:Int)).toNat=j:=by
   rw[seqIndex_neg (by omega) h3]at h1
   rw[List.size_toArray,←hl]
   exact Option.some.inj h1
  exact PySem.W.ki_setBack ho (by omega) (by rw[List.size_toArray,←hl];exact h3) (by omega) (by rw[hk];exact⟨_,I',q⟩)
theorem OG(lo hi:Option Int)(n:Nat):(sliceBounds lo hi none n).1=((HT.sIx n 0 lo:Nat):Int)/\(sliceBounds lo hi none n).2.1=((HT.sIx n n hi:Nat):Int)/\(sliceBounds lo hi none n).2.2=1:=by
  refine⟨?_,?_,rfl⟩
  · cases lo with
    |none=>simp[sliceBounds,HT.sIx]
    | some i =>
      simp only[sliceBounds,HT.sIx,Option.getD_none,show(1:Int)>0 by decide,if_true]
      by_cases h:i<0
      ·simp only[h,if_true]<;>omega
      ·simp only[h,if_false]<;>omega
  · cases hi with
    |none=>simp[sliceBounds,HT.sIx]
    | some i =>
      simp only[sliceBounds,HT.sIx,Option.getD_none,show(1:Int)>0 by decide,if_true]
      by_cases h:i<0
      ·simp only[h,if_true]<;>omega
      ·simp only[h,if_false]<;>omega
theorem Nv(its:List Value)(lo hi:Option Int):slicePick its.toArray lo hi none=((its.drop (HT.sIx its.length 0 lo)).take (HT.sIx its.length its.length hi-HT.sIx its.length 0 lo)).toArray:=by
 obtain⟨h1,h2,h3⟩:=OG lo hi its.toArray.size
 unfold slicePick
 rw[h1,h2,h3]
 simp only[sliceRange_one,pick_run,List.size_toArray]<;>rfl
def kL(K:PySem.W.Frag):V->Option Int->Option Int->Hp->VK->Prop:=fun x lo hi H Q=>∃a xs,x=.ref a/\SqL K H a xs/\∀p,H p=none->Q (.ref p) (upd H p (.lst (YT xs lo hi)))
theorem Za:SlR X (kL X.K):=by
 intro pins s σ H x v vl vu lo hi sl Q I rx hs pl pu h
 obtain⟨a,xs,rfl,hx,q⟩:=h
 cases rx
 obtain⟨its,r,ht,hz⟩:=I.list hx
 have hlen:=r.length
 refine⟨"list",_,slot_list_getitem.lookup,ht.isList.typeIs,?_⟩
 refine wpAny_getItem_list_slice ht.isList hs pl pu .none (by simp) ?_ (by rw[List.size_toArray]<;>omega)
 rw[Nv,←hlen]
 refine⟨.ref s.heap.objs.size,_,I.laid (t':=s.toks) (o:=.lst (YT xs lo hi)) (fun b ob q=>Heap.get?_push_of_some _ q) (Nat.le_refl _) ?_,rfl,q _ (I.hok.fresh (Nat.le_refl _))⟩
 exact⟨Nat.le_trans (LR xs lo hi) hz,_,0,(r.drop (HT.sIx xs.length 0 lo)).take (HT.sIx xs.length xs.length hi-HT.sIx xs.length 0 lo),Heap.get?_push_size _ rfl⟩
noncomputable def MU:V->Bool
 | .non=>true
 | .bl _=>true
 | .int _=>true
 | .str _=>true
 |_=>false
noncomputable def eqV:V->V->Bool
 | .non,.non=>true
 | .bl a,.bl b=>a==b
 | .bl a,.int b=>(if a then 1 else 0)==b
 | .int a,.bl b=>a==(if b then 1 else 0)
 | .int a,.int b=>a==b
 | .str a,.str b=>a==b
 |_,_=>false
theorem dC{A:Around}{s:Shared}{y x:V}{u v:Value}(ry:RelV y u)(rx:RelV x v)(fy:MU y=true)(fx:MU x=true):SeqAt.EqAt A s u v (eqV y x):=by
  cases y with
  | non =>
    cases ry
    cases x with
    |non=>cases rx;exact SeqAt.EqAt.same _
    |bl b=>cases rx;exact SeqAt.EqAt.none_bool b
    |int b=>obtain⟨t,rfl⟩:=rx;exact SeqAt.EqAt.none_int b t
    |str b=>obtain⟨t,rfl⟩:=rx;exact SeqAt.EqAt.none_str b t
    |_=>exact absurd (show false=true from fx) Bool.false_ne_true
  | bl a =>
    cases ry
    cases x with
    |non=>cases rx;exact SeqAt.EqAt.bool_none a
    |bl b=>cases rx;exact SeqAt.EqAt.bool_bool a b
    |int b=>obtain⟨t,rfl⟩:=rx;exact SeqAt.EqAt.bool_int a b t
    |str b=>obtain⟨t,rfl⟩:=rx;exact SeqAt.EqAt.bool_str a b t
    |_=>exact absurd (show false=true from fx) Bool.false_ne_true
  | int a =>
    obtain⟨t',rfl⟩:=ry
    cases x with
    |non=>cases rx;exact SeqAt.EqAt.int_none a t'
    |bl b=>cases rx;exact SeqAt.EqAt.int_bool a t' b
    |int b=>obtain⟨t,rfl⟩:=rx;exact SeqAt.EqAt.int_int a t' b t
    |str b=>obtain⟨t,rfl⟩:=rx;exact SeqAt.EqAt.int_str a t' b t
    |_=>exact absurd (show false=true from fx) Bool.false_ne_true
  | str a =>
    obtain⟨t',rfl⟩:=ry
    cases x with
    |non=>cases rx;exact SeqAt.EqAt.str_none a t'
    |bl b=>cases rx;exact SeqAt.EqAt.str_bool a t' b
    |int b=>obtain⟨t,rfl⟩:=rx;exact SeqAt.EqAt.str_int a t' b t
    |str b=>obtain⟨t,rfl⟩:=rx;exact SeqAt.EqAt.str_str a t' b t
    |_=>exact absurd (show false=true from fx) Bool.false_ne_true
  |_=>exact absurd (show false=true from fy) Bool.false_ne_true
noncomputable def eqU(x:V)(u:Value):Bool:=match u with
 | .none=>eqV .non x
 | .bool b=>eqV (.bl b) x
 | .int i _=>eqV (.int i) x
 | .str z _=>eqV (.str z) x
 |_=>false
theorem X7{x y:V}{u:Value}(r:RelV y u)(f:MU y=true):eqU x u=eqV y x:=by
 cases y with
 |non=>cases r;rfl
 |bl b=>cases r;rfl
 |int i=>obtain⟨t,rfl⟩:=r;rfl
 |str z=>obtain⟨t,rfl⟩:=r;rfl
 |_=>exact absurd (show false=true from f) Bool.false_ne_true
theorem LO{x:V}:∀{xs:List V} {us:List Value},Vals xs us->xs.all MU=true->us.any (eqU x)=xs.any fun y=>eqV y x
  |_,_,.nil,_=>rfl
  | y :: xs, u :: us, .cons r t, f => by
    rw[List.all_cons,Bool.and_eq_true]at f
    rw[List.any_cons,List.any_cons,X7 r f.1,LO t f.2]
theorem JO{A:Around}{s:Shared}{x:V}{v:Value}(rx:RelV x v)(fx:MU x=true):∀{xs:List V} {us:List Value},Vals xs us->xs.all MU=true->∀u∈us,SeqAt.EqAt A s u v (eqU x u)
  |_,_,.nil,_=>fun u hu=>by cases hu
  | y :: xs, u :: us, .cons r t, f => fun u' hu => by
    rw[List.all_cons,Bool.and_eq_true]at f
    rcases List.mem_cons.mp hu with rfl|hu
    ·rw[X7 r f.1];exact dC r rx f.1 fx
    ·exact JO rx fx t f.2 u' hu
noncomputable def inV(x:V)(xs:List V):Bool:=xs.any fun y=>eqV y x
noncomputable def rIn(K:PySem.W.Frag)(neg:Bool):R2:=fun x y H Q=>∃p xs,y=.ref p/\(SqL K H p xs∨SqT K H p xs)/\MU x=true/\xs.all MU=true/\Q (.bl (if neg then !inV x xs else inV x xs)) H
theorem SI:OpR X (compareOp .In) (rIn X.K false):=by
 intro pins s σ H x y v u Q I rx ry h
 obtain⟨p,xs,rfl,hq,fx,fs,q⟩:=h
 cases ry
 rcases hq with hq|hq
 ·obtain⟨its,r,pl,hz⟩:=I.list hq
  refine SeqAt.in_listAt (eqU x) pl.isList (fun w hw=>JO rx fx r fs w (by simpa using hw)) ⟨.bl _,H,I,rfl,?_⟩
  rw[show its.toArray.any (eqU x)=its.any (eqU x) by simp,LO r fs]
  exact q
 ·obtain⟨its,r,pl,hz⟩:=I.tuple hq
  refine SeqAt.in_tupleAt (eqU x) pl (fun w hw=>JO rx fx r fs w (by simpa using hw)) ⟨.bl _,H,I,rfl,?_⟩
  rw[show its.toArray.any (eqU x)=its.any (eqU x) by simp,LO r fs]
  exact q
theorem PH:OpR X (compareOp .NotIn) (rIn X.K true):=by
 intro pins s σ H x y v u Q I rx ry h
 obtain⟨p,xs,rfl,hq,fx,fs,q⟩:=h
 cases ry
 rcases hq with hq|hq
 ·obtain⟨its,r,pl,hz⟩:=I.list hq
  refine SeqAt.notIn_listAt (eqU x) pl.isList (fun w hw=>JO rx fx r fs w (by simpa using hw)) ⟨.bl _,H,I,rfl,?_⟩
  rw[show its.toArray.any (eqU x)=its.any (eqU x) by simp,LO r fs]
  exact q
 ·obtain⟨its,r,pl,hz⟩:=I.tuple hq
  refine SeqAt.notIn_tupleAt (eqU x) pl (fun w hw=>JO rx fx r fs w (by simpa using hw)) ⟨.bl _,H,I,rfl,?_⟩
  rw[show its.toArray.any (eqU x)=its.any (eqU x) by simp,LO r fs]
  exact q
theorem Oy:Eb X (.builtin "len") (fun xs H Q=>∃p ys,xs=[.ref p]/\(SqL X.K H p ys∨SqT X.K H p ys)/\Q (.int ys.length) H):=by
 intro pins s σ H xs us Q I r h
 obtain⟨p,ys,rfl,hq,q⟩:=h
 obtain⟨u,rfl,rx⟩:=vals1 r
 cases rx
 have hn:=PN
 rcases hq with hq|hq
 ·obtain⟨its,r',pl,hz⟩:=I.list hq
  have hlen:=r'.length
  exact Calls.call_len_list pl.isList (by simp only[List.size_toArray]<;>omega) ⟨.int ys.length,H,I.tok _,⟨s.toks+1,by rw[List.size_toArray,hlen]⟩,q⟩
 ·obtain⟨its,r',pl,hz⟩:=I.tuple hq
  have hlen:=r'.length
  exact len_tuple pl (by simp only[List.size_toArray]<;>omega) ⟨.int ys.length,H,I.tok _,⟨s.toks+1,by rw[List.size_toArray,hlen]⟩,q⟩
theorem PC:Eb X (.builtin "len") (fun xs H Q=>∃z,xs=[.str z]/\z.length≤sizeLine/\Q (.int z.length) H):=by
 intro pins s σ H xs us Q I r h
 obtain⟨z,rfl,hz,q⟩:=h
 obtain⟨u,rfl,t,rfl⟩:=vals1 r
 have hn:=PN
 exact len_str (by omega) ⟨.int z.length,H,I.tok _,⟨_,rfl⟩,q⟩
theorem Ov:Eb X (.type "list") (fun xs H Q=>∃p ys,xs=[.ref p]/\(SqL X.K H p ys∨SqT X.K H p ys)/\∀l,H l=none->Q (.ref l) (upd H l (.lst ys))):=by
 intro pins s σ H xs us Q I r h
 obtain⟨p,ys,rfl,hq,q⟩:=h
 obtain⟨u,rfl,rx⟩:=vals1 r
 cases rx
 have fin:∀(its:List Value),Vals ys its->ys.length≤sizeLine->∀(h':Heap) (c':Nat),(∀b o',s.heap.get? b=some o'->h'.get? b=some o')->
   h'.get? s.heap.objs.size=some {cls:=.type "list",dict:=none,data:=.seq its.toArray c',slots:= #[]}->EP X pins σ Q (.ref s.heap.objs.size) {s with heap:=h'}:=fun its r' hz h' c' kp e=>
  ⟨.ref s.heap.objs.size,_,I.laid (t':=s.toks) kp (Nat.le_refl _) (show ED X.prog X.w _ h' _ (.lst ys)from⟨hz,its,c',r',e⟩),rfl,q _ (I.hok.fresh (Nat.le_refl _))⟩
 rcases hq with hq|hq
 ·obtain⟨its,r',pl,hz⟩:=I.list hq
  have hlen:=r'.length
  obtain⟨o,ho,hc,n,hd⟩:=pl.isList
  exact call_list_seq p (.inl rfl) ho hc hd (fun h' c' kp e=>fin its r' hz h' c' kp e) (by simp only[List.size_toArray]<;>omega)
 ·obtain⟨its,r',pl,hz⟩:=I.tuple hq
  have hlen:=r'.length
  obtain⟨o,ho,hc,n,hd⟩:=pl
  exact call_list_seq p (.inr rfl) ho hc hd (fun h' c' kp e=>fin its r' hz h' c' kp e) (by simp only[List.size_toArray]<;>omega)
theorem NM:Eb X (.type "tuple") (fun xs H Q=>∃p ys,xs=[.ref p]/\((SqL X.K H p ys/\∀l,H l=none->Q (.ref l) (upd H l (.tup ys)))∨(SqT X.K H p ys/\Q (.ref p) H))):=by
 intro pins s σ H xs us Q I r h
 obtain⟨p,ys,rfl,h⟩:=h
 obtain⟨u,rfl,rx⟩:=vals1 r
 cases rx
 rcases h with⟨hq,q⟩|⟨hq,q⟩
 ·obtain⟨its,r',pl,hz⟩:=I.list hq
  have hlen:=r'.length
  refine call_tuple_list pl.isList (fun h' kp=>?_) (by simp only[List.size_toArray]<;>omega)
  have I1:Inv X pins σ H {s with heap:=h'}:=I.kept (t':=s.toks) kp
  have I2:Inv X pins σ (upd H h'.objs.size (.tup ys)) {s with heap:=h'.push {cls:=.type "tuple",data:=.seq its.toArray}}:=
   I1.laid (t':=s.toks) (fun b o e=>Heap.get?_push_of_some _ e) (Nat.le_refl _) (show ED X.prog X.w _ _ _ (.tup ys)from⟨hz,its,r',IsTup.new _ _⟩)
  exact⟨.ref h'.objs.size,_,I2,rfl,q _ (I1.hok.fresh (Nat.le_refl _))⟩
 ·obtain⟨its,r',pl,hz⟩:=I.tuple hq
  exact call_tuple_same pl ⟨.ref p,H,I,rfl,q⟩
def tyV(K:PySem.W.Frag)(T:String)(x:V)(H:Hp):Prop:=match x with
 | .str _=>T="str"
 | .int _=>T="int"
 | .ref p=>(T="list" /\∃xs,SqL K H p xs)∨(T="tuple" /\∃o,K.lookup p=some o/\o.cls=.type "tuple" /\o.dict=none)∨
   (T="dict" /\((∃kvs,H p=some (.dK kvs))∨∃kvs,H p=some (.dT kvs)))∨(T="set" /\∃S n,H p=some (.set S n))
 |_=>False
theorem Ya {pins : List (Addr × Obj)} {σ : St} {H : Hp} {s : Shared} {T : String} {x : V} {v : Value} (I : Inv X pins σ H s) (r : RelV x v) (ty : tyV X.K T x H) :
    s.TypeIs v T/\∀a,v=.ref a->∃ob,s.heap.get? a=some ob/\ob.dict=none:=by
  cases x with
  | str z =>
    obtain⟨t,rfl⟩:=r
    cases (show T="str" from ty)
    exact⟨typeIs_str s z t,fun _ e=>nomatch e⟩
  | int i =>
    obtain⟨t,rfl⟩:=r
    cases (show T="int" from ty)
    exact⟨typeIs_int s i t,fun _ e=>nomatch e⟩
  | ref p =>
    cases r
    rcases ty with⟨rfl,xs,hq⟩|⟨rfl,o,hk,hc,hd⟩|⟨rfl,hk⟩|⟨rfl,S,n,hk⟩
    · obtain ⟨its, _, pl, _⟩ := I.list hq
      refine⟨pl.isList.typeIs,fun a e=>?_⟩
      cases e
      obtain⟨o,n,e,c,hd,_⟩:=pl
      exact⟨o,e,hd⟩
    · refine ⟨⟨o, I.kIn p o hk, hc⟩, fun a e => ?_⟩
      cases e
      exact⟨o,I.kIn _ o hk,hd⟩
    · have z : ∃ o, s.heap.get? p = some o /\ o.ExactDict := by
        rcases hk with⟨kvs,hk⟩|⟨kvs,hk⟩
        · obtain ⟨_, _, _, _, o, _, _, e, ex, _⟩ := I.hok p _ hk
          exact⟨o,e,ex⟩
        · obtain ⟨_, _, _, _, o, _, _, e, ex, _⟩ := I.hok p _ hk
          exact⟨o,e,ex⟩
      obtain⟨o,e,ex⟩:=z
      refine⟨⟨o,e,ex.1⟩,fun a e2=>?_⟩
      cases e2
      exact⟨o,e,ex.2.1⟩
    · obtain ⟨o, _, _, _, e, ex, _⟩ := I.hok p _ hk
      refine⟨⟨o,e,ex.1⟩,fun a e2=>?_⟩
      cases e2
      exact⟨o,e,ex.2.1⟩
  |_=>exact False.elim ty
noncomputable def kT(K:PySem.W.Frag)(T:String)(r:V->List V->Hp->VK->Prop)(to:TE):TE:=fun σ H Q=>to σ H fun x H1=>tyV K T x H1/\r x [] H1 Q
noncomputable def tBM(K:PySem.W.Frag)(T:String)(r:V->List V->Hp->VK->Prop)(to:TE)(t:TA):TE:=fun σ H Q=>to σ H fun x H1=>tyV K T x H1/\t σ H1 fun xs H2=>r x xs H2 Q
variable{o e:Expr}{es:List Expr}{to:TE}{t:TA}{name:Str}{apos cpos:Pos}{T id:String}{r:V->List V->Hp->VK->Prop}
theorem cA(pa:PlainAttrs T)(slot:Slot T name id)(hty:typeOf (.builtin id)=pure (.type "method_descriptor"))(hm:MtR X id r)(ho:PE X o to)
  (hbase:attributeBase o name X.env (eval o X.env)=eval o X.env:=by rfl) (hline:(apos.endLine==cpos.line)=true:=by rfl):PE X (.Call (.Attribute o name apos) [] [] cpos) (kT X.K T r to):=by
 intro pins s σ H Q I h
 refine wpAny_Call_method0_late hbase hline (thn (ho pins s σ H _ I h) fun v s1 ⟨x,H1,I1,r1,ty,q1⟩=>?_)
 obtain⟨h1,h2⟩:=Ya I1 r1 ty
 exact⟨T,id,pa,slot,hty,h1,h2,Calls.callWith_builtin rfl (PySem.evalArgs_none (hm pins s1 σ H1 x [] v [] Q I1 r1 .nil q1))⟩
theorem hJ(pa:PlainAttrs T)(slot:Slot T name id)(hty:typeOf (.builtin id)=pure (.type "method_descriptor"))(hm:MtR X id r)(ho:PE X o to)(ha:PA X (e::es) t)
  (hbase:attributeBase o name X.env (eval o X.env)=eval o X.env:=by rfl)
  (hfew:((backTo cpos (starEach (e::es) X.env)).all (fun x=> !x.1) && (backToKw cpos (keywordEach [] X.env)).all (fun x=>x.1.isSome)
   && decide ((e::es).length+([]:List Keyword).length+(if([]:List Keyword).isEmpty then 0 else 1)<30))=true:=by rfl)
  (hline:(apos.endLine==cpos.line)=true:=by rfl) (hs:starEach (e::es) X.env=(false,eval e X.env)::starEach es X.env:=by rfl) (hplain:(backTo cpos (starEach es X.env)).any (·.1)=false:=by rfl):
  PE X (.Call (.Attribute o name apos) (e::es) [] cpos) (tBM X.K T r to t):=by
 intro pins s σ H Q I h
 refine wpAny_Call_method_late hbase hfew hline rfl (thn (ho pins s σ H _ I h) fun v s1 ⟨x,H1,I1,r1,ty,q1⟩=>?_)
 obtain⟨h1,h2⟩:=Ya I1 r1 ty
 refine⟨T,id,pa,slot,hty,h1,h2,?_⟩
 have hA:=ha cpos pins s1 σ H1 _ I1 q1
 rw[hs]at hA⊢
 refine Calls.callWith_builtin (by show(false||(backTo cpos (starEach es X.env)).any (·.1))=false;rw[hplain]<;>rfl) (Calls.evalArgs_plain ?_)
 exact thn hA fun us s2 ⟨vs,H2,I2,r2,q2⟩=>hm pins s2 σ H2 x vs v us Q I2 r1 r2 q2
end
end L2
namespace L2
open PySem PySem.Spec PyProof.Rows
def MtM(X:Cx)(id:String)(r:V->List V->Hp->VK->Prop):Prop:=
 ∀ (pins : List (Addr × Obj)) (s : Shared) (σ : St) (H : Hp) (x : V) (xs : List V) (v : Value) (us : List Value) (Q : VK), Inv X pins σ H s -> RelV x v -> Vals xs us -> r x xs H Q ->
  wpAny (model X.prog X.w) X.A (call (.builtin id) (v::us)) (EP X pins σ Q) X.xe s
theorem Vals.one:∀{x:V} {us:List Value},Vals [x] us->∃u,us=[u]/\RelV x u
 |_,_,.cons r .nil=>⟨_,rfl,r⟩
theorem Vals.two:∀{x y:V} {us:List Value},Vals [x,y] us->∃u v,us=[u,v]/\RelV x u/\RelV y v
 |_,_,_,.cons r (.cons q .nil)=>⟨_,_,rfl,r,q⟩
theorem Vals.rep{xs:List V}{us:List Value}(h:Vals xs us):∀k:Nat,Vals (List.replicate k xs).flatten (List.replicate k us).flatten
  |0=>.nil
  | k + 1 => by
    rw[List.replicate_succ,List.replicate_succ,List.flatten_cons,List.flatten_cons]
    exact Vals.append h (Vals.rep h k)
theorem foldl_rep(its:List Value):∀(k:Nat) (acc:List Value),
    List.foldl (fun x1 x2=>x1++x2) acc.toArray (List.replicate k its.toArray)=(acc++(List.replicate k its).flatten).toArray
  |0,acc=>by simp
  | k + 1, acc => by
    have e:acc.toArray++its.toArray=(acc++its).toArray:=by simp
    have e2:(acc++its)++(List.replicate k its).flatten=acc++(List.replicate (k+1) its).flatten:=by
      rw[List.replicate_succ,List.flatten_cons,List.append_assoc]
    rw[←e2,←foldl_rep its k (acc++its),←e,List.replicate_succ,List.foldl_cons]
section
variable{X:Cx}{pins:List (Addr×Obj)}{σ:St}{H:Hp}{s:Shared}{l b:Addr}{xs ys zs:List V}
theorem Inv.lset{its its':List Value}{n:Nat}{f:Array Value->Array Value}{t':Nat}(I:Inv X pins σ H s)(hH:H l=some (.lst xs))
  (e:s.heap.get? l=some {cls:=.type "list",data:=.seq its.toArray n}) (hf:f its.toArray=its'.toArray) (hv:Vals ys its') (hz:ys.length≤sizeLine):
  Inv X pins σ (upd H l (.lst ys)) {s with heap:=s.heap.update l (Obj.mapSeq f),toks:=t'}:=by
 have q:=PySem.IsL.update e f
 rw[hf]at q
 refine I.write (x:=l) (e:=l) (by rw[hH];exact trivial) (.inl rfl) (fun b' u hb hu=>(Heap.get?_update_other s.heap (Obj.mapSeq f) (Ne.symm hb)).trans hu) ⟨_,q⟩ ?_
 exact⟨hz,its',_,hv,q⟩
theorem Inv.lnew{its:List Value}{t':Nat}(I:Inv X pins σ H s)(hv:Vals ys its)(hz:ys.length≤sizeLine):
  Inv X pins σ (upd H s.heap.objs.size (.lst ys)) {s with heap:=s.heap.push {cls:=.type "list",data:=.seq its.toArray},toks:=t'}:=
 I.laid (fun _ _ q=>Heap.get?_push_of_some _ q) (Nat.le_refl _) ⟨hz,its,0,hv,Heap.get?_push_size _ rfl⟩
theorem Inv.fresh(I:Inv X pins σ H s):H s.heap.objs.size=none:=I.hok.fresh (Nat.le_refl _)
theorem Inv.lstM(I:Inv X pins σ H s)(hH:H l=some (.lst xs)):xs.length≤sizeLine/\∃(its:List Value) (n:Nat),Vals xs its/\xs.length=its.length/\s.heap.get? l=some {cls:=.type "list",data:=.seq its.toArray n}:=by
 obtain⟨z,its,n,r,e⟩:=I.hok l _ hH
 exact⟨z,its,n,r,r.length,e⟩
theorem N5{n:Nat}(h:n≤sizeLine):Builtin.List.listTooLong n=false:=by
 unfold Builtin.List.listTooLong
 exact decide_eq_false (by omega)
end
section
variable{X:Cx}
def Zx:V->List V->Hp->VK->Prop:=fun x vs H Q=>∃l xs y,x=.ref l/\vs=[y]/\H l=some (.lst xs)/\xs.length<sizeLine/\Q .non (upd H l (.lst (xs++[y])))
theorem OF:MtM X "list.append" Zx:=by
 intro pins s σ H x vs v us Q I rx rv h
 obtain⟨l,xs,y,rfl,rfl,hH,hz,q⟩:=h
 cases rx
 obtain⟨u,rfl,ru⟩:=rv.one
 obtain⟨z,its,n,r,hl,e⟩:=I.lstM hH
 refine call_meets F.slot_list_append ⟨_,e,rfl⟩ F.entry_list_append (F.args_list_append_2 _ _) (PySem.list_append l its.toArray n u (by rw[List.size_toArray];omega)) ⟨e,?_⟩
 refine⟨.non,_,I.lset (its':=its++[u]) hH e (by simp) (r.append (.cons ru .nil)) ?_,rfl,q⟩
 rw[List.length_append,List.length_singleton]
 omega
def Zs:V->List V->Hp->VK->Prop:=fun x vs H Q=>∃l b xs zs,x=.ref l/\vs=[.ref b]/\H l=some (.lst xs)/\H b=some (.lst zs)/\xs.length+zs.length≤sizeLine/\Q .non (upd H l (.lst (xs++zs)))
theorem TJ:MtM X "list.extend" Zs:=by
 intro pins s σ H x vs v us Q I rx rv h
 obtain⟨l,b,xs,zs,rfl,rfl,hH,hB,hz,q⟩:=h
 cases rx
 obtain⟨u,rfl,ru⟩:=rv.one
 cases ru
 obtain⟨z,its,n,r,hl,e⟩:=I.lstM hH
 obtain⟨z2,its2,n2,r2,hl2,e2⟩:=I.lstM hB
 have hsz:its.toArray.size+its2.toArray.size≤sizeLine:=by rw[List.size_toArray,List.size_toArray];omega
 have hlong:¬(!its.toArray.isEmpty && Builtin.List.listTooLong (its.toArray.size+its2.toArray.size))=true:=by
  rw[N5 hsz,Bool.and_false]
  exact Bool.false_ne_true
 refine call_meets F.slot_list_extend ⟨_,e,rfl⟩ F.entry_list_extend (F.args_list_extend_2 _ _)
  (AutoSeq1.list_extend_list_list_0 l its.toArray n b its2.toArray n2 hlong (by rw[List.size_toArray];omega) (by omega)) ⟨e,e2,?_⟩
 refine⟨.non,_,I.lset (its':=its++its2) hH e (by simp) (r.append r2) ?_,rfl,q⟩
 rw[List.length_append]
 omega
noncomputable def kJ:R2:=fun x y H Q=>∃l b xs zs,x=.ref l/\y=.ref b/\H l=some (.lst xs)/\H b=some (.lst zs)/\xs.length+zs.length≤sizeLine/\∀p,H p=none->Q (.ref p) (upd H p (.lst (xs++zs)))
theorem bY:OpR X (binaryOp .Add) kJ:=by
 intro pins s σ H x y v u Q I rx ry h
 obtain⟨l,b,xs,zs,rfl,rfl,hH,hB,hz,q⟩:=h
 cases rx
 cases ry
 obtain⟨z,its,n,r,hl,e⟩:=I.lstM hH
 obtain⟨z2,its2,n2,r2,hl2,e2⟩:=I.lstM hB
 refine PySem.P.add_list e e2 ?_ (by rw[List.size_toArray,List.size_toArray];omega)
 have ea:its.toArray++its2.toArray=(its++its2).toArray:=by simp
 rw[ea]
 exact⟨.ref _,_,I.lnew (t':=s.toks) (r.append r2) (by rw[List.length_append];omega),rfl,q _ I.fresh⟩
noncomputable def kX:R2:=fun x y H Q=>∃l k xs,x=.ref l/\y=.int k/\H l=some (.lst xs)/\ -(2^63)≤k/\k<2^63/\xs.length*k.toNat≤sizeLine/\
 ∀p,H p=none->Q (.ref p) (upd H p (.lst (List.replicate k.toNat xs).flatten))
theorem len_rep{α:Type}(xs:List α)(k:Nat):(List.replicate k xs).flatten.length=k*xs.length:=by
 induction k with
 |zero=>simp
 |succ k ih=>rw[List.replicate_succ,List.flatten_cons,List.length_append,ih,Nat.succ_mul,Nat.add_comm]
theorem dF:OpR X (binaryOp .Mult) kX:=by
  intro pins s σ H x y v u Q I rx ry h
  obtain⟨l,k,xs,rfl,rfl,hH,h1,h2,hz,q⟩:=h
  cases rx
  obtain⟨t,rfl⟩:=ry
  obtain⟨z,its,n,r,hl,e⟩:=I.lstM hH
  have hlen:its.toArray.size*k.toNat≤sizeLine:=by rw[List.size_toArray,←hl];exact hz
  have hcap:¬its.toArray.size*k.toNat>(2^63-1) / 8:=by
    have:(sizeLine:Nat)≤(2^63-1) / 8:=by decide
    omega
  have hfit:¬(!Builtin.List.listFitsIndex k)=true:=by
    rw[fitsIndex_both h1 h2]
    exact Bool.false_ne_true
  have hlong:¬Builtin.List.listTooLong (its.toArray.size*k.toNat)=true:=by
    rw[N5 hlen]
    exact Bool.false_ne_true
  have hnew:List.foldl (fun x1 x2=>x1++x2) #[] (List.replicate (if its.toArray.isEmpty=true then 0 else k.toNat) its.toArray)=(List.replicate k.toNat its).flatten.toArray:=by
    have f0:∀m:Nat,List.foldl (fun x1 x2=>x1++x2) #[] (List.replicate m its.toArray)=(List.replicate m its).flatten.toArray:=fun m=>by
      have:=foldl_rep its m []
      rw[List.nil_append]at this
      exact this
    rw[f0]
    cases its with
    |nil=>simp
    |cons a r'=>rw[if_neg (by simp)]
  refine wpAny_binaryOp_repeat_ref (T:="list") (U:="int") (by decide) ⟨_,e,rfl⟩ (fun s'=>typeIs_int s' k t) noFill_list_mul F.fills_int_mul F.slot_int_rmul repeat_list F.slot_int_index.lookup
    (call_meets F.slot_int_rmul (typeIs_int s k t) F.entry_int_rmul (F.args_int_rmul_2 _ _) (int___rmul___int_list k t l its.toArray n)
      ⟨e,rfl,⟨_,e,rfl⟩,call_meets F.slot_list_mul ⟨_,e,rfl⟩ F.entry_list_mul (F.args_list_mul_2 _ _) (AutoListH.list___mul___list_int_3 l its.toArray n k t hfit hcap hlong) ⟨e,?_⟩⟩)
  rw[hnew]
  exact⟨.ref _,_,I.lnew (t':=s.toks) (r.rep k.toNat) (by rw[len_rep,Nat.mul_comm];exact hz),rfl,q _ I.fresh⟩
end
section
variable{prog:Program}{w:World}{A:Around}{E:Value->Shared->Prop}{s:Shared}
end
section
variable{X:Cx}
end
end L2
namespace Att
open PySem PySem.W PySem.Calls PyProof.Rows
theorem ints_of_wellAll{P:Params}{h:Heap}:∀(ns:List Int) (vs:List Value),WellAll P h vs (ns.map WData.int)->IntsAre vs ns:=by
  intro ns
  induction ns with
  | nil =>
    intro vs w
    rw[List.map_nil]at w
    cases w
    exact .nil
  | cons n ns ih =>
    intro vs w
    rw[List.map_cons]at w
    cases w with
    | cons a b =>
      cases a
      exact .cons _ _ (ih _ b)
theorem script_of{l:OpenLaw}{n:Nat}(hn:l.most=some n){P:Params}{h:Heap}{args:List WData}{vals:List Value}
    (hpre:l.row.toRowW.claim.pre args=true) (hwl:WellAll P h vals args):
    ∃a vs ns,vals=[Value.ref a]/\args=[WData.list (ns.map WData.int)]/\h.get? a=some {cls:=.type "list",data:=.seq vs.toArray}/\IntsAre vs ns/\ns.length≤n:=by
  have hsh:WShape.hasAll [] args [.list .int]=true:=(pre_splitW hpre).1
  have hc:l.pre.holds [] {args:=args}=true:=(pre_splitW hpre).2
  obtain⟨d,r,rfl,h1,h2⟩:=hasAllW_cons hsh
  obtain rfl:=hasAllW_nil h2
  obtain⟨xs,rfl,h3⟩:=hasW_list h1
  obtain⟨ns,rfl⟩:=items_int h3
  have hlen:ns.length≤n:=by
    unfold OpenLaw.pre at hc
    have h4:(WTm.not (.lt (.lit (.int (n:Int))) (.len (.arg 0)))).holds [] {args:=[.list (ns.map .int)]}=true:=by
      have h4:=(holds_andW hc).1
      rw[hn]at h4
      exact h4
    have h5:=condW_of h4 (w_not (w_lt w_lit (w_len_list (w_arg rfl))))
    rw[List.length_map]at h5
    refine Nat.le_of_not_lt fun q=>?_
    have q':(n:Int)<((ns.length:Nat):Int):=by omega
    first
      |(rw[decide_eq_true q']at h5;exact absurd h5 (by decide))
      |(simp at h5;omega)
  cases hwl with
  | cons w1 w2 =>
    cases w2
    cases w1 with
    |list ho hall=>exact⟨_,_,ns,rfl,rfl,ho,ints_of_wellAll ns _ hall,hlen⟩
theorem post_true(l:OpenLaw)(args:List WData):l.row.toRowW.claim.post args (.bool true) args=true:=
 postW_of (r:=l.row.toRowW) (X:=(true==true))
  (show WShape.has [] (.bool true) .bool=true by first|rfl|decide|simp[WShape.has,WShape.arms,WShape.armsAll])
  (show(WTm.eq .res (.lit (.bool true))).value [] {args:=args,res:=some (.bool true),after:=args}=some (.bool (true==true))from w_eq_bool (w_res rfl) w_lit) rfl
theorem attach_call{l:OpenLaw}{n:Nat}{q:Program}{loose:List Str}{XP:(Str->Option Value)->Heap->Prop}{YP:World->Heap->Prop}{d:DefRec}
  (hn:l.most=some n) (hdf:d.params.defaults=[])
  (call:∀(w:World) (s₀ s₁:Shared) (mg mb:Str->Option Value) (fa:Addr) (o:Obj) (pm cd doc:Value) (a:Addr) (vs:List Value) (ns:List Int),
   Ground q loose [] XP w s₀ mg mb s₁.heap->YP w s₁.heap->
   s₁.heap.get? fa=some o->o.data=.func (docDef d.name d.params d.body d.scope pm cd doc)->s₁.heap.CodeRec cd d.name->mg d.name=some (.ref fa)->
   s₁.heap.get? a=some {cls:=.type "list",data:=.seq vs.toArray}->IntsAre vs ns->ns.length≤n->s₁.gens= #[]->
   codeAny (model l.prog w) callerA (.call (.ref fa) ⟨[.ref a],[]⟩) (fun r s'=>r=.ok (.ret (.bool true))/\OldK s₁.heap s'.heap/\s'.os=s₁.os/\AllBare s'.gens) s₁):
  WalkO q loose XP YP l.row.toRowW d [] (fun f vs=>PySem.call f vs):=by
 intro w s₀ s₁ mg mb G Y fa o pm cd doc dV kV ho hd hcd hD hmg hg args vals as hpre hlay hrd hwl hlo
 obtain rfl:dV=.none:=Dflts.none hD hdf
 obtain rfl:kV=.none:=Dflts.noKw hD
 obtain⟨a,vs,ns,rfl,rfl,hobj,hints,hlen⟩:=script_of hn hpre hwl
 refine enter_call (codeAny_mono (call w s₀ s₁ mg mb fa o pm cd doc a vs ns G Y ho (fd_plain hd) hcd hmg hobj hints hlen hg) fun r s' hq=>?_)
 obtain⟨rfl,h2,h3,h4⟩:=hq
 exact⟨.inl ⟨.bool true,.bool true,[],rfl,fun _=>rfl,.bool true,post_true l _,fun _=>⟨List.Pairwise.nil,fun _ hm=>(nomatch hm)⟩⟩,h2,h3,h4⟩
section
variable{prog:Program}{w:World}{A:Around}{E:Value->Shared->Prop}{s:Shared}{K:Frag}
end
end Att
namespace L2
open PySem PySem.Spec PyProof.Rows
theorem O4:∀{vs:List Value} {ns:List Int},IntsAre vs ns->Vals (ns.map V.int) vs
 |_,_,.nil=>.nil
 |_,_,.cons n t h=>.cons ⟨t,rfl⟩ (O4 h)
def gf(H:Hp):Prop:=∀b,H b=none∨∃o xs,H b=some (.frz o (.lst xs))
theorem Wt {P : Program} {w : World} {K : PySem.W.Frag} {mg mb : Str -> Option Value} {CX : CXT} {k : Nat} {fa a : Addr} {fd : FuncData} {x : Str} {sp : Sp} {s₁ : Shared} {vs : List Value} {ns : List Int}
    (KX:K.In s₁.heap) (hns:s₁.heap.Ns mainGlobals mg) (hb:s₁.heap.Ns builtinsNs mb) (hbb:∀x:Str,x≠ "__name__"->mb x=bootBuiltins x) (hlim:s₁.heap.NoLimit) (hg:s₁.gens= #[])
    (ha:s₁.heap.get? a=some {cls:=.type "list",data:=.seq vs.toArray}) (hi:IntsAre vs ns) (hl:ns.length≤sizeLine) (hr:L5 k callerA)
    (F:∀base:Heap,K.In base->base.Ns mainGlobals mg->L4 P w K mg base CX k fa fd [x] sp) (hbind:∀(s:Shared) (u:Value),BindsTo s fd ⟨[u],[]⟩ [(x,u)])
    (hsp:∀H:Hp,gf H->SqL K H a (ns.map V.int)->sp [.ref a] H (fun v _=>v=.bl true) fun _ _ _=>False)
    (hCX:∀H e s',CX [] H s₁ (fun _ _ _=>False) e s'->False):
    codeAny (model P w) callerA (.call (.ref fa) ⟨[.ref a],[]⟩) (fun r s'=>r=.ok (.ret (.bool true))/\OldK s₁.heap s'.heap/\s'.os=s₁.os/\AllBare s'.gens) s₁:=by
  have rv:=O4 hi
  have lenV:=hi.length
  have core : ∀ H : Hp, gf H -> SqL K H a (ns.map V.int) -> HOk P w H s₁.heap -> (∀ b, H b ≠ none -> b = a) -> (H a ≠ none -> K.lookup a = none) ->
      codeAny (model P w) callerA (.call (.ref fa) ⟨[.ref a],[]⟩) (fun r s'=>r=.ok (.ret (.bool true))/\OldK s₁.heap s'.heap/\s'.os=s₁.os/\AllBare s'.gens) s₁:=by
    intro H hO hS hok hA hK
    have base_of:∀{b:Addr} {o:Obj},s₁.heap.get? b=some o->H b=none->(WW s₁.heap H).get? b=some o:=fun e n=>Vv e n
    have noA:∀{b:Addr} {o:Obj} {es:Array DictEntry} {ep:Nat},s₁.heap.get? b=some o->o.data=.dict es ep->H b=none:=fun{b o es ep} e d=>by
      cases q:H b with
      |none=>rfl
      | some u =>
        have e':b=a:=hA b (by rw[q];simp)
        subst e'
        rw[ha]at e;cases e
        have d':Data.seq vs.toArray _=Data.dict es ep:=d
        cases d'
    have nsK:∀{b:Addr} {m:Str->Option Value},s₁.heap.Ns b m->(WW s₁.heap H).Ns b m:=fun{b m} ⟨o,es,ep,e,d,r⟩=>⟨o,es,ep,base_of e (noA e d),d,r⟩
    have hKb:K.In (WW s₁.heap H):=fun b o e=>base_of (KX b o e) (by
      cases q:H b with
      |none=>rfl
      | some u =>
        have e':b=a:=hA b (by rw[q];simp)
        subst e'
        rw[hK (by rw[q];simp)]at e;cases e)
    have hM:Mod K mg (WW s₁.heap H):=⟨hKb,nsK hns,⟨mb,nsK hb,hbb⟩,let⟨mc,h1,h2⟩:=hlim;⟨mc,nsK h1,h2⟩⟩
    have e0:fZ P w K mg (WW s₁.heap H) callerA [] s₁ H:=⟨rfl,hM,fun b o e=>aX e,Nat.le_of_eq (TB _ _),trivial,fun b hb=>absurd (show b∈([]:List Addr)from hb) (by simp),hok,.of_eq hg⟩
    refine codeAny_mono ((F _ hKb (nsK hns)).run callerA [] s₁ H ⟨[.ref a],[]⟩ [.ref a] [.ref a] _ _ hr e0 (hbind s₁ (.ref a)) (.cons rfl .nil) (hsp H hO hS)) fun r s' h=>?_
    cases r with
    |error e=>exact(hCX H e s' h).elim
    | ok fl =>
      cases fl with
      |next=>exact False.elim h
      |brk=>exact False.elim h
      |cont=>exact False.elim h
      | ret u =>
        obtain⟨v,H',os,bare,un,hok',r',q⟩:=h
        have q':v=.bl true:=q
        subst q'
        obtain rfl:u=Value.bool true:=r'
        refine⟨rfl,OldK.of_keep fun b o e=>?_,os,bare⟩
        cases q:H b with
        |none=>exact un.keep b o e q (by intro z;exact absurd (show b∈([]:List Addr)from z) (by simp)) (by simp)
        | some u =>
          rcases hO b with z|⟨ob,xs,z⟩
          ·rw[q]at z;cases z
          · have z2 := un.frzs b ob _ z
            obtain⟨e1,_⟩:=hok b _ z
            obtain⟨e2,_⟩:=hok' b _ z2
            rw[e]at e1;cases e1
            exact e2
  cases hk:K.lookup a with
  | some o =>
    have e:=KX a o hk
    rw[ha]at e
    cases e
    refine core (fun _=>none) (fun _=>.inl rfl) (.inr ⟨_,vs.toArray,_,hk,rfl,rfl,rfl,by rw[List.size_toArray,lenV];exact hl,by simpa using rv⟩) (fun b u z=>by have z':(none:Option HO)=some u:=z;cases z') (fun b z=>absurd rfl z) fun z=>absurd rfl z
  | none =>
    refine core (fun b=>if b=a then some (.frz {cls:=.type "list",data:=.seq vs.toArray} (.lst (ns.map V.int)))else none) (fun b=>?_) (.inl (.inr ⟨{cls:=.type "list",data:=.seq vs.toArray},if_pos rfl⟩)) (fun b u z=>?_) (fun b z=>?_) fun _=>hk
    · by_cases hb : b = a
      ·exact .inr ⟨_,_,if_pos hb⟩
      ·exact .inl (if_neg hb)
    · by_cases hb : b = a
      · have z' := (if_pos hb).symm.trans z
        cases z'
        subst hb
        exact⟨ha,by rw[List.length_map];exact hl,vs,_,rv,ha⟩
      · have z' := (if_neg hb).symm.trans z
        cases z'
    · by_cases hb : b = a
      ·exact hb
      ·exact absurd (if_neg hb) z
end L2
namespace L2
open PySem PySem.Spec PyProof.Rows
abbrev KOf{K:PySem.W.Frag}{h:Heap}(_:K.In h):PySem.W.Frag:=K
theorem Yw{l:PySem.W.OpenLaw}{n k:Nat}{q:Program}{loose:List Str}{XP:(Str->Option Value)->Heap->Prop}{YP:World->Heap->Prop}{d:DefRec}{K:Params->PySem.W.Frag}{CX:World->CXT}{sp:World->Sp}{x:Str}
  (hn:l.most=some n) (hn2:n≤sizeLine) (hdf:d.params.defaults=[]) (hr:L5 k callerA)
  (hY:∀(w:World) (h:Heap),YP w h->(K w.params).In h)
  (F : ∀ (w : World) (mg : Str -> Option Value) (fa : Addr) (h : Heap), (K w.params).In h -> h.Ns mainGlobals mg -> mg d.name = some (.ref fa) ->
   ∃ fd : FuncData, (∀ (s : Shared) (u : Value), BindsTo s fd ⟨[u], []⟩ [(x, u)]) /\
    ∀base:Heap,(K w.params).In base->base.Ns mainGlobals mg->L4 l.prog w (K w.params) mg base (CX w) k fa fd [x] (sp w))
  (hsp:∀(w:World) (H:Hp) (a:Addr) (ns:List Int),ns.length≤n->gf H->SqL (K w.params) H a (ns.map V.int)->sp w [.ref a] H (fun v _=>v=.bl true) fun _ _ _=>False)
  (hCX:∀(w:World) (H:Hp) (s:Shared) (e:Value) (s':Shared),CX w [] H s (fun _ _ _=>False) e s'->False):
  PySem.W.WalkO q loose XP YP l.row.toRowW d [] (fun f vs=>PySem.call f vs):=by
 refine Att.attach_call hn hdf fun w s₀ s₁ mg mb fa o pm cd doc a vs ns G Y ho hd hcd hmg hobj hints hlen hg=>?_
 have KX:=hY w _ Y
 obtain⟨fd,hb,hF⟩:=F w mg fa _ KX G.T.g hmg
 exact Wt KX G.T.g G.T.b G.T.builtins G.T.nolimit hg hobj hints (Nat.le_trans hlen hn2) hr hF hb (fun H hO hS=>hsp w H a ns hlen hO hS) fun H e s'=>hCX w H s₁ e s'
end L2
namespace L2
open PySem PySem.Spec PyProof.Rows
noncomputable def Lj(s:Stmt):Arguments:=match s with
 | .FunctionDef _ a _ _ _ _ _ _ _ _=>a
 |_=>{posonlyargs:=[],args:=[],vararg:=none,kwonlyargs:=[],kw_defaults:=[],kwarg:=none,defaults:=[]}
noncomputable def Gb(s:Stmt):List Stmt:=match s with
 | .FunctionDef _ _ b _ _ _ _ _ _ _=>b
 |_=>[]
noncomputable def AK(s:Stmt):Scope:=match s with
 | .FunctionDef _ _ _ _ _ _ sc _ _ _=>sc
 |_=>{kind:=.function,names:=[],isGenerator:=false,isCoroutine:=false}
abbrev CX0:CXT:=fun _ _ _ _ _ _=>False
abbrev E0:XK:=fun _ _ _=>False
theorem d9{X:Cx}:Passes CX0 X E0:=fun _ _ _ _ _ _ _ h=>h.elim
structure Fun(K:PySem.W.Frag)(x qual:Str)(st:Stmt)(f:Addr)(fd:FuncData):Prop where
 ex:∃(oc:Value) (od:Option Addr) (kV doc pm:Value) (an:Option Addr) (cdv ct:Value) (osl:Array (Option Value)),
  fd=PySem.W.fnOf x qual (Lj st) (Gb st) (AK st) .none kV doc pm an cdv ct/\K.lookup f=some ⟨oc,od,.func fd,osl⟩/\PySem.W.codeIn K cdv qual=true
 kp:PySem.W.keepIn K (.ref f)=true
section
variable{P:Program}{w:World}{K:PySem.W.Frag}{mg:Str->Option Value}{base:Heap}
theorem Fun.ok{x qual:Str}{st:Stmt}{f:Addr}{fd:FuncData}{N ps:List Str}{k:Nat}{sp:Sp}(F:Fun K x qual st f fd)(S:AS N ps (AK st))(len:∀vs H Q E,sp vs H Q E->vs.length=ps.length)
  (hbody:∀(cdv:Value) (A:Around) (outer:List Env) (s:Shared) (H:Hp) (vs:List V) (Q:VK) (E:XK),L5 k (A.deeper (envOfC qual (AK st) s.heap.objs.size f cdv))->sp vs H Q E->
   ∃t,PSs (YC CX0 P w K mg base N qual (AK st) f cdv A outer s H E).nox (Gb st) t/\t {nx:=fun _ H'=>Q .non H',rt:=Q} (start N vs) H):L4 P w K mg base CX0 (k+1) f fd ps sp:=by
 obtain⟨oc,od,kV,doc,pm,an,cdv,ct,osl,rfl,lk,hcd⟩:=F.ex
 refine jG lk hcd S len fun A outer s H vs Q E hr hsp=>?_
 obtain⟨t,h,q⟩:=hbody cdv A outer s H vs Q E hr hsp
 exact⟨t,h.nox,q⟩
theorem Fun.binds{x qual:Str}{st:Stmt}{f:Addr}{fd:FuncData}{ps:List Str}(F:Fun K x qual st f fd)
  (h:∀(kV doc pm:Value) (an:Option Addr) (cdv ct:Value) (us:List Value),us.length=ps.length->bindArgs (PySem.W.fnOf x qual (Lj st) (Gb st) (AK st) .none kV doc pm an cdv ct) ⟨us,[]⟩=pure (ps.zip us)):Binds K fd ps []:=by
 obtain⟨oc,od,kV,doc,pm,an,cdv,ct,osl,rfl,lk,hcd⟩:=F.ex
 exact .all (h kV doc pm an cdv ct)
theorem bA{x qual:Str}{st:Stmt}{f:Addr}{oc:Value}{od an:Option Addr}{osl:Array (Option Value)}{kV doc pm cdv ct:Value}(l:K.lookup f=some ⟨oc,od,.func (PySem.W.fnOf x qual (Lj st) (Gb st) (AK st) .none kV doc pm an cdv ct),osl⟩)
  (c:PySem.W.codeIn K cdv qual=true) (k:PySem.W.keepIn K (.ref f)=true):Fun K x qual st f (PySem.W.fnOf x qual (Lj st) (Gb st) (AK st) .none kV doc pm an cdv ct):=⟨⟨oc,od,kV,doc,pm,an,cdv,ct,osl,rfl,l,c⟩,k⟩
end
section
variable{X:Cx}
end
theorem ZY{A B:Prop}(h:B):if false=true then A else B:=by
 rw[if_neg Bool.false_ne_true]
 exact h
theorem ZJ{A B:Prop}(h:A):if true=true then A else B:=by
 rw[if_pos rfl]
 exact h
def Fm(H H':Hp):Prop:=∀b o,H b=some o->H' b=some o
end L2
end
noncomputable section
namespace L2
open PySem PySem.Spec PyProof.Rows
noncomputable def Gf(cells:List (Str×Addr)):List (Str×NameKind)->List (Str×Addr)->List (Str×Addr)
 | [],cs=>cs
 |(n,k)::r,cs=>if(k==NameKind.free)=true then Gf cells r ((n,(cells.lookup n).getD 0)::cs)else Gf cells r cs
theorem O7{env:Env}:∀(names:List (Str×NameKind)) (cs:List (Str×Addr)),(∀y∈names,y.2=.free->∃a,env.cells.lookup y.1=some a)->
    (forIn names cs fun(x:Str×NameKind) r=>match x with|(name,kind)=>if(kind==NameKind.free)=true then(do let a←cellOf env name;pure (ForInStep.yield ((name,a)::r)))else pure (ForInStep.yield r):Sem (List (Str×Addr)))=pure (Gf env.cells names cs)
  | [],cs,_=>by simp[Gf]
  | (n, k) :: r, cs, h => by
    rw[List.forIn_cons]
    have ih:=fun cs=>O7 r cs fun y hy=>h y (List.mem_cons_of_mem _ hy)
    by_cases hk:(k==NameKind.free)=true
    · obtain ⟨a, ha⟩ := h (n, k) List.mem_cons_self (by simpa using hk)
      have ha':env.cells.lookup n=some a:=ha
      have e:cellOf env n=pure a:=by unfold cellOf;rw[ha']
      simp only[hk,if_true,e,pure_bind,Gf,ha',Option.getD_some]
      exact ih _
    · simp only [hk, if_false, pure_bind, Gf]
      exact ih _
theorem Qi{scope:Scope}{env:Env}(h:∀y∈scope.names,y.2=.free->∃a,env.cells.lookup y.1=some a):closureFor scope env=pure (Gf env.cells scope.names []):=by
 unfold closureFor
 have:=O7 (env:=env) scope.names [] h
 simp only[bind_pure]at this⊢
 exact this
theorem K7 {cells : List (Str × Addr)} {x : Str} {c : Addr} : ∀ {names : List (Str × NameKind)} {cs : List (Str × Addr)}, (∀ y ∈ names, y.2 = .free -> ∃ a, cells.lookup y.1 = some a) ->
    (Gf cells names cs).lookup x=some c->cs.lookup x=some c∨cells.lookup x=some c
  | [],cs,_,h=>.inl h
  | (n, k) :: r, cs, hh, h => by
    have hr:∀y∈r,y.2=.free->∃a,cells.lookup y.1=some a:=fun y hy=>hh y (List.mem_cons_of_mem _ hy)
    unfold Gf at h
    by_cases hk:(k==NameKind.free)=true
    · rw [if_pos hk] at h
      rcases K7 hr h with q|q
      · obtain ⟨a, ha⟩ := hh (n, k) List.mem_cons_self (by simpa using hk)
        have ha':cells.lookup n=some a:=ha
        rw[List.lookup_cons]at q
        cases hx:x==n with
        | true =>
          rw[hx,ha']at q
          have e:x=n:=by simpa using hx
          subst e
          cases q
          exact .inr ha'
        | false =>
          rw[hx]at q
          exact .inl q
      ·exact .inr q
    · rw [if_neg hk] at h
      exact K7 hr h
theorem Iw {cells : List (Str × Addr)} {x : Str} : ∀ {names : List (Str × NameKind)} {cs : List (Str × Addr)}, ((x, NameKind.free) ∈ names ∨ ∃ c, cs.lookup x = some c) -> ∃ c, (Gf cells names cs).lookup x = some c
  | [],cs,h=>h.elim (fun z=>nomatch z) id
  | (n, k) :: r, cs, h => by
    unfold Gf
    by_cases hk:(k==NameKind.free)=true
    · rw [if_pos hk]
      refine Iw ?_
      by_cases hx:x=n
      · subst hx
        exact .inr ⟨_,by rw[List.lookup_cons,beq_self_eq_true]⟩
      · rcases h with h | ⟨c, h⟩
        · rcases List.mem_cons.mp h with e | e
          ·cases e;exact absurd rfl hx
          ·exact .inl e
        · refine .inr ⟨c, ?_⟩
          rw[List.lookup_cons,show(x==n)=false by simpa using hx]
          exact h
    · rw [if_neg hk]
      refine Iw ?_
      rcases h with h|h
      · rcases List.mem_cons.mp h with e | e
        ·cases e;exact absurd rfl hk
        ·exact .inl e
      ·exact .inr h
theorem J9{env:Env}{x:Str}:∀{names:List (Str×NameKind)},names.lookup x=some .free->
    (names.map fun(n,k)=>if(k==NameKind.free && env.scope.kind== .function && env.kindOf n==some .cell)then(n,NameKind.cell)else(n,k)).lookup x=some .cell∨
    (names.map fun(n,k)=>if(k==NameKind.free && env.scope.kind== .function && env.kindOf n==some .cell)then(n,NameKind.cell)else(n,k)).lookup x=some .free
  | [],h=>by simp at h
  | (n, k) :: r, h => by
    have ih:= @J9 env x r
    show List.lookup x ((if(k==NameKind.free && env.scope.kind== .function && env.kindOf n==some .cell)=true then(n,NameKind.cell)else(n,k))::_)=_∨List.lookup x ((if(k==NameKind.free && env.scope.kind== .function && env.kindOf n==some .cell)=true then(n,NameKind.cell)else(n,k))::_)=_
    cases hx:x==n with
    | true =>
      simp only[List.lookup_cons,hx]at h
      cases h
      by_cases hc:(NameKind.free==NameKind.free && env.scope.kind== .function && env.kindOf n==some .cell)=true
      ·rw[if_pos hc];simp only[List.lookup_cons,hx];exact .inl trivial
      ·rw[if_neg hc];simp only[List.lookup_cons,hx];exact .inr trivial
    | false =>
      simp only[List.lookup_cons,hx]at h
      by_cases hc:(k==NameKind.free && env.scope.kind== .function && env.kindOf n==some .cell)=true
      ·rw[if_pos hc];simp only[List.lookup_cons,hx];exact ih h
      ·rw[if_neg hc];simp only[List.lookup_cons,hx];exact ih h
theorem Kx{env:Env}{scope:Scope}{x:Str}{k':NameKind}(hk:k'=.cell∨k'=.free)(h:(relabel scope env).names.lookup x=some k'):(x,NameKind.free)∈scope.names∨(x,NameKind.cell)∈scope.names:=by
 have hm:=PySem.mem_of_lookup h
 obtain⟨⟨n,k⟩,hy,e⟩:=List.mem_map.mp (show(x,k')∈scope.names.map _ from hm)
 by_cases hc:(k==NameKind.free && env.scope.kind== .function && env.kindOf n==some .cell)=true
 ·simp only[hc,if_true]at e
  cases e
  have:k=.free:=by
   have:=((Bool.and_eq_true _ _).mp hc).1
   exact beq_iff_eq.mp ((Bool.and_eq_true _ _).mp this).1
  subst this
  exact .inl hy
 ·simp only[hc,if_false]at e
  cases e
  rcases hk with rfl|rfl
  ·exact .inr hy
  ·exact .inl hy
theorem B1:∀(names:List (Str×NameKind)) (n:Nat) (cs:List (Str×Addr)),cellsFrom n names cs=cellsFrom n names []++cs
  | [],_,_=>rfl
  | (x, k) :: r, n, cs => by
    unfold cellsFrom
    split
    ·rw[B1 r _ ((x,n)::cs),B1 r _ [(x,n)]];simp
    ·exact B1 r n cs
theorem Gp{x:Str}{c:Addr}:∀{names:List (Str×NameKind)} {n:Nat},(x,c)∈cellsFrom n names []->(x,NameKind.cell)∈names
  | [],_,h=>nomatch h
  | (y, k) :: r, n, h => by
    unfold cellsFrom at h
    split at h
    · rename_i hk
      rw[B1]at h
      rcases List.mem_append.mp h with z|z
      ·exact List.mem_cons_of_mem _ (Gp z)
      · have e := List.mem_singleton.mp z
        cases e
        rw[beq_iff_eq.mp hk]
        exact List.mem_cons_self
    ·exact List.mem_cons_of_mem _ (Gp h)
theorem J1{M:Model}{A:Around}{E:Value->Shared->Prop}{s:Shared}{scope:Scope}{globals:Addr}{cl:List (Str×Addr)}{qual:Str}{env:Env}{Q:Env->Shared->Prop}
  (hQ:∀h':Heap,h'.Ns s.heap.objs.size (fun _=>none)->(∀b o,s.heap.get? b=some o->h'.get? b=some o)->CellsOk h' (s.heap.objs.size+1) (cellsFrom (s.heap.objs.size+1) scope.names [])->
   Q (newEnv scope s.heap.objs.size globals (cellsFrom (s.heap.objs.size+1) scope.names cl) qual none .none (some env) builtinsNs) {s with heap:=h'}):
  wpAny M A (newFunctionEnv scope globals cl [] qual none .none (some env)) Q E s:=by
 simp only[newFunctionEnv,Option.isSome_some,if_true]
 refine wpAny_bind (wpAny_alloc ?_)
 refine wpAny_bind (wpAny_layCells _ (fun name kind cells=>by cases hkc:kind==NameKind.cell<;>simp[hkc]) _ _ _ _ ?_)
 have ok:=cellsFrom_ok scope.names (s.heap.push {cls:=.type "dict",data:=.dict #[]}) (s.heap.objs.size+1) [] ⟨fun _ _ hm=>(nomatch hm),List.Pairwise.nil⟩ (by rw[Heap.size_push];exact Nat.le_refl _)
 rw[Heap.size_push]at ok
 rw[show({s with heap:=s.heap.push {cls:=.type "dict",data:=.dict #[]}}:Shared).heap.objs.size=s.heap.objs.size+1 from Heap.size_push ..]
 rw[List.forIn_nil]
 refine wpAny_bind (wpAny_pure (wpAny_pure ?_))
 exact hQ _ ((Heap.Ns.new s.heap (.type "dict")).keeps (pushCells_keeps _ _)) (fun b o e=>pushCells_keeps _ _ b o (Heap.get?_push_of_some _ e)) ok
end L2
end
noncomputable section
namespace L2
open PySem PySem.Spec PyProof.Rows
noncomputable def Q9(N:List Str)(osc scope:Scope):List Str->List (Option Nat)->Bool
 | [],[]=>true
 |_::r,none::q=>Q9 N osc scope r q
 |x::r,some i::q=>decide (N[i]?=some x) && (decide (osc.names.lookup x=some .cell)||decide (osc.names.lookup x=some .free)) && decide (scope.names.lookup x=some .free) && Q9 N osc scope r q
 |_,_=>false
theorem T6{N:List Str}{osc scope:Scope}:∀{N':List Str} {ix:List (Option Nat)},Q9 N osc scope N' ix=true->ix.length=N'.length
  | [],[],_=>rfl
  | _ :: r, none :: q, h => by
    unfold Q9 at h
    simp[T6 h]
  | x :: r, some i :: q, h => by
    unfold Q9 at h
    have:=((Bool.and_eq_true _ _).mp h).2
    simp[T6 this]
  | [],_::_,h=>by simp[Q9]at h
  |_::_,[],h=>by simp[Q9]at h
theorem Yz{N:List Str}{osc scope:Scope}:∀{N':List Str} {ix:List (Option Nat)},Q9 N osc scope N' ix=true->∀{j i:Nat} {x:Str},N'[j]?=some x->ix[j]?=some (some i)->
    N[i]?=some x/\(osc.names.lookup x=some .cell∨osc.names.lookup x=some .free)/\scope.names.lookup x=some .free
  | [],[],_,j,_,_,h,_=>by simp at h
  | _ :: r, none :: q, h, j, i, x, h1, h2 => by
    unfold Q9 at h
    cases j with
    |zero=>simp at h2
    |succ j=>exact Yz h (by simpa using h1) (by simpa using h2)
  | y :: r, some k :: q, h, j, i, x, h1, h2 => by
    unfold Q9 at h
    obtain⟨ha,hr⟩:=(Bool.and_eq_true _ _).mp h
    obtain⟨ha,h3⟩:=(Bool.and_eq_true _ _).mp ha
    obtain⟨h4,h5⟩:=(Bool.and_eq_true _ _).mp ha
    cases j with
    | zero =>
      simp at h1 h2
      subst h1 h2
      refine⟨of_decide_eq_true h4,?_,of_decide_eq_true h3⟩
      rcases(Bool.or_eq_true _ _).mp h5 with z|z
      ·exact .inl (of_decide_eq_true z)
      ·exact .inr (of_decide_eq_true z)
    |succ j=>exact Yz hr (by simpa using h1) (by simpa using h2)
  | [],_::_,h,_,_,_,_,_=>by simp[Q9]at h
  |_::_,[],h,_,_,_,_,_=>by simp[Q9]at h
structure Ae(N:List Str)(osc:Scope)(N':List Str)(ix:List (Option Nat))(scope:Scope):Prop where
 kind:scope.kind=.function
 cells:∀y∈scope.names,y.2=.cell->scope.names.lookup y.1=some .cell
 names:∀y∈scope.names,y.2=.local->scope.names.lookup y.1=some .local
 free:∀y∈scope.names,y.2=.free->(osc.names.lookup y.1=some .cell∨osc.names.lookup y.1=some .free)
 ok:Q9 N osc scope N' ix=true
noncomputable def sig(ix:List (Option Nat))(σ:St):St:=ix.map fun o=>o.bind fun i=>(σ[i]?).join
noncomputable def Hc(X:Cx)(N':List Str)(scope:Scope)(s:Shared)(H:Hp)(fp:List Addr):Cx where
 prog:=X.prog
 w:=X.w
 K:=X.K
 mg:=X.mg
 base:=X.base
 A:=X.A
 N:=N'
 s₀:=s
 H₀:=H
 env:=compEnvC scope (cellsFrom (s.heap.objs.size+1) scope.names (Gf X.env.cells scope.names [])) s.heap.objs.size X.env
 outer:=X.stack
 stack:=X.stack
 ex:=fp
 fn:=fun x=>decide (scope.names.lookup x=some .cell)
 calm:=true
 pn:=[]
 xe:=fun _ _=>False
section
variable{X:Cx}{pins:List (Addr×Obj)}{σ:St}{H:Hp}{s:Shared}{N':List Str}{ix:List (Option Nat)}{scope:Scope}{fp:List Addr}
theorem Inv.cellsOf(I:Inv X pins σ H s)(S:Ae X.N X.env.scope N' ix scope):∀y∈scope.names,y.2=.free->∃a,X.env.cells.lookup y.1=some a:=fun y hy hk=>I.ok.has y.1 (S.free y hy hk)
theorem Xk (S : Ae X.N X.env.scope N' ix scope) (hc : X.calm = true) (I : Inv X pins σ H s) (hf : ∀ b ∈ fp, Pq X pins H b) (hlt : ∀ b ∈ fp, b < s.heap.objs.size) {h1 : Heap} {m1 : Str -> Option Value} {tk : Nat}
    (hn:h1.Ns s.heap.objs.size m1) (hk:∀b o,s.heap.get? b=some o->h1.get? b=some o) (hC:CellsOk h1 (s.heap.objs.size+1) (cellsFrom (s.heap.objs.size+1) scope.names [])):
    Inv (Hc X N' scope s H fp) [] (sig ix σ) H {s with heap:=h1,toks:=tk}:=by
  have hcl:=I.cellsOf S
  have sub:∀{x:Str} {c:Addr},(Gf X.env.cells scope.names []).lookup x=some c->X.env.cells.lookup x=some c:=fun{x c} h=>by
    rcases K7 hcl h with z|z
    ·simp at z
    ·exact z
  have old:∀{x:Str} {c:Addr},X.env.cells.lookup x=some c->c<s.heap.objs.size:=fun{x c} h=>by
    obtain⟨v,oc,ho,_⟩:=I.cell x c h
    exact Heap.lt_size ho
  have look:∀{x:Str} {c:Addr},(cellsFrom (s.heap.objs.size+1) scope.names (Gf X.env.cells scope.names [])).lookup x=some c->(x,c)∈cellsFrom (s.heap.objs.size+1) scope.names []∨X.env.cells.lookup x=some c:=fun{x c} h=>by
    rw[B1,List.lookup_append]at h
    cases e:(cellsFrom (s.heap.objs.size+1) scope.names []).lookup x with
    |some a=>rw[e]at h;cases h;exact .inl (PySem.mem_of_lookup e)
    |none=>rw[e]at h;exact .inr (sub h)
  refine⟨⟨I.ok.mod,S.kind,I.ok.glob,I.ok.blt,Nat.le_refl _,fun x y c h1 h2=>?_,fun x hx=>?_,fun x c hx h=>?_,fun _=>I.ok.hd hc,I.ok.frames,.inl rfl,fun b hb=>?_,I.bs,Nat.le_trans I.ok.bsz I.sz,fun b o e hb=>?_,fun b hb hs=>?_,I.stack,I.stkFree⟩,
    rfl,I.bare,Un.kept hk,⟨m1,hn,fun j x v h1 h2 h3=>?_⟩,fun x c h=>?_,I.hok.fresh (Nat.le_refl _),fun x c h=>?_,fun p hp=>absurd (show p∈([]:List (Addr×Obj))from hp) (by simp),I.hok.kept hk,?_⟩
  · -- inj
    rcases look h1 with a|a<;>rcases look h2 with b|b
    ·exact name_of_addr hC.apart a b
    ·exact absurd (Nat.lt_of_lt_of_le (old b) (Nat.le_of_succ_le (hC.empty _ _ a).2)) (Nat.lt_irrefl _)
    ·exact absurd (Nat.lt_of_lt_of_le (old a) (Nat.le_of_succ_le (hC.empty _ _ b).2)) (Nat.lt_irrefl _)
    ·exact I.ok.inj x y c a b
  · -- has
    have hx':(relabel scope X.env).names.lookup x=some .cell∨(relabel scope X.env).names.lookup x=some .free:=hx
    show∃c,(cellsFrom (s.heap.objs.size+1) scope.names (Gf X.env.cells scope.names [])).lookup x=some c
    rw[B1,List.lookup_append]
    cases e:(cellsFrom (s.heap.objs.size+1) scope.names []).lookup x with
    |some a=>exact⟨a,rfl⟩
    | none =>
      rcases(hx'.elim (Kx (.inl rfl)) (Kx (.inr rfl)))with z|z
      ·exact Iw (.inl z)
      · obtain ⟨c, hc⟩ := Kp (n := s.heap.objs.size + 1) (S.cells _ z rfl)
        rw[e]at hc;cases hc
  · -- cab
    obtain⟨c',hc'⟩:=Kp (n:=s.heap.objs.size+1) (of_decide_eq_true hx)
    have h:(cellsFrom (s.heap.objs.size+1) scope.names (Gf X.env.cells scope.names [])).lookup x=some c:=h
    rw[B1,List.lookup_append,hc']at h
    cases h
    exact Nat.le_of_succ_le (hC.empty _ _ (PySem.mem_of_lookup hc')).2
  · -- exf
    refine⟨Nat.ne_of_lt (hlt b hb),fun x c h=>?_⟩
    rcases look h with a|a
    ·exact fun e=>absurd (Nat.lt_of_lt_of_le (e▸hlt b hb) (Nat.le_of_succ_le (hC.empty _ _ a).2)) (Nat.lt_irrefl _)
    ·exact(hf b hb).2.2.2.2.1 x c a
  · -- noex
    rcases(hf b hb).2.2.2.1 with z|z
    ·exact I.ok.noex b o e z
    ·exact absurd (Nat.lt_of_lt_of_le (Heap.lt_size (I.ok.bs b o e).1) z) (Nat.lt_irrefl _)
  · -- exfs
    rcases List.mem_cons.mp (I.stkSub b hs)with z|z
    ·exact(hf b hb).2.1 z
    ·exact(hf b hb).2.2.1 z
  · -- loc
    unfold sig at h2
    rw[List.getElem?_map]at h2
    cases e:ix[j]? with
    |none=>rw[e]at h2;cases h2
    | some o =>
      rw[e]at h2
      cases o with
      |none=>cases h2
      | some i =>
        have h2':(σ[i]?).join=some v:=by simpa using h2
        have h4:σ[i]?=some (some v):=by
          cases e4:σ[i]? with
          |none=>rw[e4]at h2';cases h2'
          |some q=>rw[e4]at h2';exact congrArg some h2'
        obtain⟨q1,q2,q3⟩:=Yz S.ok h1 e
        obtain⟨m,_,hl⟩:=I.loc
        obtain⟨u,r,l⟩:=hl i x v q1 h4 (q2.elim (fun z=>.inr (.inl z)) fun z=>.inr (.inr z))
        refine⟨u,r,?_⟩
        rcases l with⟨l,_⟩|⟨_,c,lc,z⟩
        · have l' : X.env.scope.names.lookup x = some .local := l
          rcases q2 with z|z<;>(rw[z]at l';cases l')
        · refine .inr ⟨J9 q3, ?_⟩
          obtain⟨c',hc'⟩:=Iw (cells:=X.env.cells) (cs:=[]) (.inl (PySem.mem_of_lookup q3))
          have ec:=sub hc'
          rw[lc]at ec
          cases ec
          have no:(cellsFrom (s.heap.objs.size+1) scope.names []).lookup x=none:=by
            cases e:(cellsFrom (s.heap.objs.size+1) scope.names []).lookup x with
            |none=>rfl
            | some a =>
              have q:=S.cells _ (Gp (PySem.mem_of_lookup e)) rfl
              rw[q3]at q;cases q
          refine⟨c,(by show(cellsFrom (s.heap.objs.size+1) scope.names (Gf X.env.cells scope.names [])).lookup x=some c;rw[B1,List.lookup_append,no];exact hc'),?_⟩
          obtain⟨oc,ho,hd⟩:=z
          exact⟨oc,hk _ _ ho,hd⟩
  · rcases look h with a | a
    ·exact⟨_,(hC.empty _ _ a).1⟩
    · obtain ⟨v, oc, ho, hd⟩ := I.cell x c a
      exact⟨v,oc,hk _ _ ho,hd⟩
  · rcases look h with a | a
    ·exact I.hok.fresh (Nat.le_of_succ_le (hC.empty _ _ a).2)
    ·exact I.freeC x c a
  · show (sig ix σ).length = N'.length
    unfold sig
    rw[List.length_map]
    exact T6 S.ok
end
end L2
end
noncomputable section
namespace L2
open PySem PySem.Spec PyProof.Rows
def PTs(X:Cx)(ifs:List Expr)(t:TT):Prop:=
 ∀ (pins : List (Addr × Obj)) (s : Shared) (σ : St) (H : Hp) (Q : Bool -> Hp -> Prop), Inv X pins σ H s -> t σ H Q ->
  wpAny (model X.prog X.w) X.A (forIn ifs true fun c r=>if r=true then do let ok←isTrue c X.env (eval c X.env);pure (ForInStep.yield ok)else pure (ForInStep.yield r)) (TP X pins σ Q) X.xe s
noncomputable def ij:TT:=fun _ H Q=>Q true H
theorem aO{X:Cx}:PTs X [] ij:=fun _ _ _ H _ I h=>wpAny_tests_nil ⟨H,I,h⟩
theorem Zq{X:Cx}{c:Expr}{t:TT}(h:PT X c t):PTs X [c] t:=fun pins s σ H Q I q=>wpAny_tests_one (h pins s σ H Q I q)
theorem V2{α:Type}{M:Model}{A:Around}{t:Sem α}{Q:α->Shared->Prop}{E:Value->Shared->Prop}{s:Shared}(h:wpAny M A t Q (fun _ _=>False) s):wpAny M A t Q E s:=wpAny_mono h (fun _ _ q=>q) fun _ _ f=>f.elim
def dq(ix:List (Option Nat))(g:TG)(tc:TT)(te:TE)(J:It)(σ:St)(H:Hp)(Q:VK):Prop:=
 ∀ D, H D = none -> ∃ W : Nat -> Nat -> St -> Hp -> List V -> Prop, (∃ m, W 0 m (sig ix σ) (upd H D (.lst [])) []) /\ ∀ i m σ H ys, W i m σ H ys -> H D = some (.lst ys) /\
  ((J.stop i H/\Q (.ref D) H)∨(J.go i H/\ys.length<sizeLine/\∀x H',J.yld i H x H'->g x σ H' fun σ2 H2=>tc σ2 H2 fun b H3=>
   if b=true then te σ2 H3 fun y H4=>H4 D=some (.lst ys)/\∃m',m'<m/\W (i+1) m' σ2 (upd H4 D (.lst (ys++[y]))) (ys++[y])else∃m',m'<m/\W (i+1) m' σ2 H3 ys))
noncomputable def ZC(ix:List (Option Nat))(wi:TI)(g:TG)(tc:TT)(te:TE):TE:=fun σ H Q=>wi σ H fun J H1=>dq ix g tc te J σ H1 Q
section
variable{X:Cx}{pins:List (Addr×Obj)}{σ:St}{s₂:Shared}{N':List Str}{ix:List (Option Nat)}{scope:Scope}{elt tg iter:Expr}{ifs:List Expr}{pos:Pos}{g:TG}{tc:TT}{te:TE}
def Block(X:Cx)(N':List Str)(scope:Scope)(tg:Expr)(ifs:List Expr)(elt:Expr)(g:TG)(tc:TT)(te:TE):Prop:=
 ∀(s:Shared) (H:Hp) (fp:List Addr),PG (Hc X N' scope s H fp) tg g/\PTs (Hc X N' scope s H fp) ifs tc/\PE (Hc X N' scope s H fp) elt te
theorem Rx{X':Cx}{it:Addr}{fp:List Addr}{tn:Nat->Heap->Prop}{J:It}{D:Addr}{Q:VK}{R:Result->Shared->Prop}{W:Nat->Nat->St->Hp->List V->Prop}{s:Shared}{e:Env}{n:Nat}
    (he:X'.env=e) (hx:X'.xe=fun _ _=>False) (hcm:X'.calm=true) (T:Turn X'.prog X'.w X'.K tg J fp it tn) (hfp:∀H:Hp,(∀b∈fp,H b=none)->∀b∈fp,Pq X' [] H b)
    (hg:PG X' tg g) (ht:PTs X' ifs tc) (hb:PE X' elt te)
    (turn:∀i m σ H ys,W i m σ H ys->H D=some (.lst ys)/\
      ((J.stop i H/\Q (.ref D) H)∨(J.go i H/\ys.length<sizeLine/\∀x H',J.yld i H x H'->g x σ H' fun σ2 H2=>tc σ2 H2 fun b H3=>
        if b=true then te σ2 H3 fun y H4=>H4 D=some (.lst ys)/\∃m',m'<m/\W (i+1) m' σ2 (upd H4 D (.lst (ys++[y]))) (ys++[y])else∃m',m'<m/\W (i+1) m' σ2 H3 ys)))
    (hR:∀s' σ' H',Inv X' [] σ' H' s'->Q (.ref D) H'->R (.ok .next) s')
    (h0:∃i σ' H' ys,Inv X' [] σ' H' s/\tn i s.heap/\(∀b∈fp,H' b=none)/\W i n σ' H' ys):
    codeAny (model X'.prog X'.w) X'.A (.compLoop (.ListComp elt [⟨tg,iter,ifs,0⟩] scope pos) 0 (.ref it) (.ref D) e) R s:=by
  subst he
  refine codeAny_loop rfl (fun n s=>∃i σ' H' ys,Inv X' [] σ' H' s/\tn i s.heap/\(∀b∈fp,H' b=none)/\W i n σ' H' ys) (fun n s3 hI=>?_) n h0
  show wpAny _ X'.A ((compTurn (.ListComp elt [⟨tg,iter,ifs,0⟩] scope pos) 0 (.ref it) (.ref D) X'.env).onRaise (fun x=>do noteFrame x X'.env;theTreesLotGoes x)) _ _ s3
  refine wpAny_noted (V2 ?_)
  rw[compTurn_list]
  obtain⟨i,σ3,H3,ys,I3,st3,fr3,w3⟩:=hI
  obtain⟨hD,alt⟩:=turn i n σ3 H3 ys w3
  rcases alt with⟨stop,q⟩|⟨go,hlen,step⟩
  · refine wpAny_bind (wpAny_standAt (wpAny_bind (thn (T.done X' rfl rfl rfl hcm i [] s3 σ3 H3 _ I3 (hfp H3 fr3) st3 stop) fun r s4 ⟨hr, I4⟩ => ?_)))
    subst hr
    exact wpAny_pure (hR s4 σ3 H3 I4 q)
  · refine wpAny_bind (wpAny_standAt (wpAny_bind (thn (T.item X' rfl rfl rfl hcm i [] s3 σ3 H3 _ I3 (hfp H3 fr3) st3 go) fun r s4 ⟨u, hr, h4⟩ => ?_)))
    subst hr
    refine wpAny_bind (thn h4 fun _ s5 ⟨x,H5,I5,r5,y5,st5,fr5⟩=>?_)
    have I5':=I5.pinned (hfp H5 fr5) (T.obj _ _ st5)
    have hg':=hg _ s5 σ3 H5 x u _ I5' r5 (step x H5 y5)
    rw[hx]at hg'
    refine wpAny_bind (thn hg' fun _ s6 ⟨σ6,H6,I6,q6⟩=>?_)
    have ht':=ht _ s6 σ6 H6 _ I6 q6
    rw[hx]at ht'
    refine wpAny_bind (thn ht' fun ok s7 ⟨H7,I7,q7⟩=>?_)
    have again:∀{s8:Shared} {H8:Hp} {zs:List V} {m':Nat},Inv X' ([]++Od fp s5.heap) σ6 H8 s8->m'<n->W (i+1) m' σ6 H8 zs->∃m,m<n/\∃i σ' H' ys,Inv X' [] σ' H' s8/\tn i s8.heap/\(∀b∈fp,H' b=none)/\W i m σ' H' ys:=fun{s8 H8 zs m'} I8 hm w8=>by
      refine⟨m',hm,i+1,σ6,H8,zs,I8.unpinned,T.keep _ _ _ st5 fun b hb o e=>(I8.pin (b,o) (List.mem_append_right _ (List.mem_append_right _ (Hm hb e)))).1,fun b hb=>?_,w8⟩
      obtain⟨o,e,d⟩:=T.obj _ _ st5 b hb
      exact(I8.pin (b,o) (List.mem_append_right _ (List.mem_append_right _ (Hm hb e)))).2.1
    cases ok with
    | false =>
      rw[if_neg (by decide)]at q7
      obtain⟨m',hm,w7⟩:=q7
      exact wpAny_pure ⟨rfl,again I7 hm w7⟩
    | true =>
      rw[if_pos rfl]at q7
      have hb':=hb _ s7 σ6 H7 _ I7 q7
      rw[hx]at hb'
      refine wpAny_bind (wpAny_bind (thn hb' fun v s8 ⟨y,H8,I8,r8,hD8,m',hm,w8⟩=>?_))
      have ha:=OF (X:=X') _ s8 σ6 H8 (.ref D) [y] (.ref D) [v] (fun _ H9=>H9=upd H8 D (.lst (ys++[y]))) I8 rfl (.cons r8 .nil) ⟨D,ys,y,rfl,rfl,hD8,hlen,rfl⟩
      rw[hx]at ha
      refine wpAny_bind (thn ha fun _ s9 ⟨_,H9,I9,_,e9⟩=>?_)
      subst e9
      exact wpAny_pure (wpAny_pure ⟨rfl,again I9 hm w8⟩)
theorem Qt(hc:X.calm=true)(S:Ae X.N X.env.scope N' ix scope)(hb:Block X N' scope tg ifs elt g tc te){it:Addr}{fp:List Addr}{tn:Nat->Heap->Prop}{J:It}{H₂:Hp}{Q:VK}{E:Value->Shared->Prop}
  {RR:Value->Addr->Result->Shared->Prop} (I2:Inv X pins σ H₂ s₂) (T:Turn X.prog X.w X.K tg J fp it tn) (st2:tn 0 s₂.heap) (f2:∀b∈fp,Pq X pins H₂ b) (hW:dq ix g tc te J σ H₂ Q)
  (hRR:∀D C H' s',Inv X pins σ H' s'->(∃m,s'.heap.Ns C m)->Pq X pins H' C->Q (.ref D) H'->RR (.ref D) C (.ok .next) s'):
  wpAny (model X.prog X.w) X.A (newList []) (fun acc s₃=>wpAny (model X.prog X.w) X.A (newFunctionEnv scope X.env.globals (Gf X.env.cells scope.names []) [] X.env.qual none .none (some X.env)) (fun cenv s₄=>
   codeAny (model X.prog X.w) X.A (.compStart (.ListComp elt [⟨tg,iter,ifs,0⟩] scope pos) 0 (.ref it) acc {cenv with scope:=relabel scope X.env}) (RR acc cenv.locals) s₄) E s₃) E s₂:=by
 have hD0:H₂ s₂.heap.objs.size=none:=I2.hok.fresh (Nat.le_refl _)
 have hlt2:∀b∈fp,b<s₂.heap.objs.size:=fun b hb=>by
  obtain⟨o,e,_⟩:=T.obj _ _ st2 b hb
  exact Heap.lt_size e
 refine wpAny_newObj_type (J1 (fun h₁ hns₁ hsb₁ hcl₁=>?_))
 have I3:Inv X pins σ (upd H₂ s₂.heap.objs.size (.lst [])) {s₂ with heap:=s₂.heap.push {cls:=.type "list",dict:=none,data:=.seq ([]:List Value).toArray}}:=
  I2.laid (t':=s₂.toks) (fun b u e=>Heap.get?_push_of_some _ e) (Nat.le_refl _) ⟨Nat.zero_le _,[],0,.nil,Heap.get?_push_size _ rfl⟩
 have f3:∀b∈fp,Pq X pins (upd H₂ s₂.heap.objs.size (.lst [])) b:=fun b hb=>⟨by rw[As (Nat.ne_of_lt (hlt2 b hb))];exact(f2 b hb).1,(f2 b hb).2⟩
 have k3:∀b o,s₂.heap.get? b=some o->(s₂.heap.push {cls:=.type "list",dict:=none,data:=.seq ([]:List Value).toArray}).get? b=some o:=fun b o e=>Heap.get?_push_of_some _ e
 dsimp only at hns₁ hsb₁ hcl₁⊢
 generalize hs3:({s₂ with heap:=s₂.heap.push {cls:=.type "list",dict:=none,data:=.seq ([]:List Value).toArray}}:Shared)=s₃ at I3
 have eh:s₂.heap.push {cls:=.type "list",dict:=none,data:=.seq ([]:List Value).toArray}=s₃.heap:=by rw[←hs3]
 have et:s₂.toks=s₃.toks:=by rw[←hs3]
 have es:∀(h:Heap) (t:Nat),({s₂ with heap:=h,toks:=t}:Shared)={s₃ with heap:=h,toks:=t}:=fun h t=>by rw[←hs3]
 rw[eh]at hns₁ hsb₁ hcl₁ k3⊢
 have hlt3:∀b∈fp,b<s₃.heap.objs.size:=fun b hb=>by
  obtain⟨o,e,_⟩:=T.obj _ _ st2 b hb
  exact Heap.lt_size (k3 b o e)
 have k4:∀b o,s₃.heap.get? b=some o->h₁.get? b=some o:=hsb₁
 obtain⟨W,⟨m0,w0⟩,turn⟩:=hW _ hD0
 have I4:∀tk,Inv (Hc X N' scope s₃ (upd H₂ s₂.heap.objs.size (.lst [])) fp) [] (sig ix σ) (upd H₂ s₂.heap.objs.size (.lst [])) {s₃ with heap:=h₁,toks:=tk}:=fun tk=>Xk S hc I3 f3 hlt3 hns₁ k4 hcl₁
 have st4:tn 0 h₁:=T.keep _ _ _ st2 fun b hb o e=>k4 b o (k3 b o e)
 obtain⟨bg,bt,be⟩:=hb s₃ (upd H₂ s₂.heap.objs.size (.lst [])) fp
 have noX:∀(H:Hp),(∀b∈fp,H b=none)->∀b∈fp,Pq (Hc X N' scope s₃ (upd H₂ s₂.heap.objs.size (.lst [])) fp) [] H b:=fun H hn b hb=>by
  obtain⟨_,h2,h3⟩:=f3 b hb
  refine⟨hn b hb,Nat.ne_of_lt (hlt3 b hb),fun hs=>(I4 0).ok.exfs b hb hs,.inl hb,fun x c h=>?_,fun p hp=>absurd (show p∈([]:List (Addr×Obj))from hp) (by simp)⟩
  exact((I4 0).ok.exf b hb).2 x c h
 have fin:∀(s':Shared) (σ':St) (H':Hp),Inv (Hc X N' scope s₃ (upd H₂ s₂.heap.objs.size (.lst [])) fp) [] σ' H' s'->Q (.ref s₂.heap.objs.size) H'->RR (.ref s₂.heap.objs.size) s₃.heap.objs.size (.ok .next) s':=fun s' σ' H' I' q=>by
  refine hRR _ _ H' s' ?_ (let⟨m,hn,_⟩:=I'.loc;⟨m,hn⟩) (I3.fpOk (Nat.le_refl _) I'.free) q
  exact I3.call' I'.os I'.base I'.hok I'.bare fun b hb=>⟨(f3 b hb).2.2.2.1,(f3 b hb).2.1,(f3 b hb).2.2.2.2.1,(f3 b hb).2.2.2.2.2⟩
 have loop:∀tk,codeAny (model X.prog X.w) X.A (.compLoop (.ListComp elt [⟨tg,iter,ifs,0⟩] scope pos) 0 (.ref it) (.ref s₂.heap.objs.size) (compEnvC scope (cellsFrom (s₃.heap.objs.size+1) scope.names (Gf X.env.cells scope.names [])) s₃.heap.objs.size X.env)) (RR (.ref s₂.heap.objs.size) s₃.heap.objs.size) {s₃ with heap:=h₁,toks:=tk}:=fun tk=>
  Rx (X':=Hc X N' scope s₃ (upd H₂ s₂.heap.objs.size (.lst [])) fp) (D:=s₂.heap.objs.size) (Q:=Q) (W:=W) rfl rfl rfl T noX bg bt be turn fin ⟨0,_,_,_,I4 tk,st4,fun b hb=>(f3 b hb).1,w0⟩
 rw[es]
 exact codeAny_compStart_list (loop _) (T.self _ 0 _ _ _ st4 (loop _))
theorem Y9{wi:TI}(hc:X.calm=true)(S:Ae X.N X.env.scope N' ix scope)(hi:PI X tg iter wi)(hb:Block X N' scope tg ifs elt g tc te)(hs:∀x,foldedSetIterable iter X.env x=pure x:=by intro _;rfl):
  PE X (.ListComp elt [⟨tg,iter,ifs,0⟩] scope pos) (ZC ix wi g tc te):=by
 intro pins s σ H Q I h
 rw[eval_ListComp]
 refine wpAny_comprehension_free (use:=none) rfl hs (Qi (I.cellsOf S)) S.kind S.names (thn (hi pins s σ H _ I h) fun v s1 h1=>thn h1 fun itv s2 h2=>?_)
 obtain⟨it,fp,tn,J,H2,e,I2,T,st2,f2,hW⟩:=h2
 subst e
 refine Qt (RR:=fun acc C=>compPost (model X.prog X.w) X.A X.xe none (EP X pins σ Q) acc C) hc S hb I2 T st2 f2 hW ?_
 intro D C H' s' I' hm hC q
 obtain⟨m,hm⟩:=hm
 refine⟨m,hm,fun h' hs'=>⟨.ref D,H',I'.turned (it:=C) (t':=s'.toks) (fun b o hb e=>hs'.extBut b o hb e) hC.1 hC.2.1 hC.2.2.2.1 hC.2.2.2.2.1 hC.2.2.2.2.2,rfl,q⟩⟩
end
end L2
end
noncomputable section
namespace L2
open PySem PySem.Spec PyProof.Rows
section
variable{X:Cx}{N':List Str}{ix:List (Option Nat)}{scope:Scope}{elt tg iter:Expr}{ifs:List Expr}{pos spos py:Pos}{g:TG}{tc:TT}{te:TE}{wi:TI}{i:Nat}{y:Str}
theorem Rb(hc:X.calm=true)(hN:X.N.Nodup)(hi':X.N[i]?=some y)(hx:X.env.scope.names.lookup y=some .local)(S:Ae X.N X.env.scope N' ix scope)(hi:PI X tg iter wi)(hb:Block X N' scope tg ifs elt g tc te)
  (hsw:swapsWith (.ListComp elt [⟨tg,iter,ifs,0⟩] scope pos) (some (.Name y py)) spos.line X.env=pure true:=by rfl) (hs:∀x,foldedSetIterable iter X.env x=pure x:=by intro _;rfl):
  PS X (.Assign [.Name y py] (.ListComp elt [⟨tg,iter,ifs,0⟩] scope pos) spos) (gX (ZC ix wi g tc te) (aN i)):=by
 intro pins s σ H D I h
 rw[exec_Assign_Name_used _ _ _ _ hsw]
 refine wpAny_bind (wpAny_standAt (wpAny_bind ?_))
 show wpAny _ X.A (do let _←comprehension (.ListComp elt [⟨tg,iter,ifs,0⟩] scope pos) scope X.env _ (newList []) false (eval iter X.env) (some (assign (.Name y py) X.env))) _ _ s
 refine wpAny_bind (wpAny_mono (wpAny_comprehension_free (use:=some (assign (.Name y py) X.env)) (Q:=fun _ s'=>SP X pins D .next s') rfl hs (Qi (I.cellsOf S)) S.kind S.names
  (thn (hi pins s σ H _ I h) fun v s1 h1=>thn h1 fun itv s2 h2=>?_)) (fun _ s' hq=>wpAny_pure (wpAny_pure hq)) fun _ _ e=>e)
 obtain⟨it,fp,tn,J,H2,e,I2,T,st2,f2,hW⟩:=h2
 subst e
 refine Qt (RR:=fun acc C=>compPost (model X.prog X.w) X.A X.xe (some (assign (.Name y py) X.env)) (fun _ s'=>SP X pins D .next s') acc C) hc S hb I2 T st2 f2 hW ?_
 intro L C H' s' I' hm hC q
 obtain⟨m,hm⟩:=hm
 show wpAny _ X.A (assign (.Name y py) X.env (.ref L)) _ _ _
 refine wpAny_assign_Name (PR I' hN hi' (.inl hx) (v:=.ref L) rfl (fun s'' I'' ⟨a,sb,ha⟩=>?_) (.inr hx))
 have hCa:C≠a:=by
  rcases ha with rfl|ha
  ·exact hC.2.1
  ·exact Ne.symm (hC.2.2.2.2.1 y a ha)
 refine⟨m,hm.sameBut sb hCa,fun h' hs'=>?_⟩
 exact⟨_,H',I''.turned (it:=C) (t':=s''.toks) (fun b o hb e=>hs'.extBut b o hb e) hC.1 hC.2.1 hC.2.2.2.1 hC.2.2.2.2.1 hC.2.2.2.2.2,q⟩
end
end L2
end
noncomputable section
namespace L2
open PySem PySem.Spec PyProof.Rows
section
variable{κ:Type} [DecidableEq κ]
noncomputable def Rp(kvs:List (κ×V))(k:κ):Option V:=(kvs.find? fun kv=>decide (kv.1=k)).map (·.2)
noncomputable def putK(kvs:List (κ×V))(k:κ)(v:V):List (κ×V):=
 if(kvs.any fun kv=>decide (kv.1=k))=true then kvs.map (fun kv=>if kv.1=k then(kv.1,v)else kv)else kvs++[(k,v)]
theorem Na{p:κ×V}{r:List (κ×V)}{k:κ}(e:p.1=k):Rp (p::r) k=some p.2:=by simp[Rp,List.find?_cons,e]
theorem NQ{p:κ×V}{r:List (κ×V)}{k:κ}(e:¬p.1=k):Rp (p::r) k=Rp r k:=by simp[Rp,List.find?_cons,e]
theorem QJ(kvs:List (κ×V))(k:κ)(v:V):(putK kvs k v).length≤kvs.length+1:=by
 unfold putK
 split
 ·rw[List.length_map];omega
 ·rw[List.length_append,List.length_cons,List.length_nil];omega
theorem Rq.isSome_eq{o:Option V}{u:Option Value}(r:Rq o u):o.isSome=u.isSome:=by
  cases o with
  | none => cases u with
    |none=>rfl
    |some _=>exact(show False from r).elim
  | some _ => cases u with
    |none=>exact(show False from r).elim
    |some _=>rfl
theorem Rq.getD{o:Option V}{u:Option Value}{d:V}{d':Value}(r:Rq o u)(rd:RelV d d'):RelV (o.getD d) (u.getD d'):=by
  cases o with
  | none => cases u with
    |none=>exact rd
    |some _=>exact(show False from r).elim
  | some _ => cases u with
    |none=>exact(show False from r).elim
    |some _=>exact r
theorem KV.val{kvs:List (κ×V)}{vs:List (κ×Value)}(r:KV kvs vs)(k:κ):Rq (Rp kvs k) (valueAt vs k):=by
  unfold KV at r
  induction r with
  |nil=>exact True.intro
  | @cons p q ps qs h t ih=>
    obtain⟨h1,h2⟩:=h
    by_cases e:p.1=k
    · have e' : q.1 = k := h1.symm.trans e
      have b:valueAt (q::qs) k=some q.2:=by simp[valueAt,List.find?_cons,e']
      rw[Na e,b];exact h2
    · have e' : ¬ q.1 = k := fun z => e (h1.trans z)
      have b:valueAt (q::qs) k=valueAt qs k:=by simp[valueAt,List.find?_cons,e']
      rw[NQ e,b];exact ih
theorem KV.any{kvs:List (κ×V)}{vs:List (κ×Value)}(r:KV kvs vs)(k:κ):(kvs.any fun kv=>decide (kv.1=k))=vs.any fun kv=>decide (kv.1=k):=by
 unfold KV at r
 induction r with
 |nil=>rfl
 |cons h t ih=>rw[List.any_cons,List.any_cons,ih,h.1]
theorem KV.repl{kvs:List (κ×V)}{vs:List (κ×Value)}(r:KV kvs vs)(k:κ){y:V}{u:Value}(ry:RelV y u):
    KV (kvs.map fun kv=>if kv.1=k then(kv.1,y)else kv) (vs.map fun kv=>if kv.1=k then(kv.1,u)else kv):=by
  unfold KV at r⊢
  induction r with
  |nil=>exact .nil
  | @cons p q ps qs h t ih=>
    rw[List.map_cons,List.map_cons]
    refine .cons ?_ ih
    obtain⟨h1,h2⟩:=h
    by_cases e:p.1=k
    ·rw[if_pos e,if_pos (h1.symm.trans e)];exact⟨h1,ry⟩
    ·rw[if_neg e,if_neg (fun z=>e (h1.trans z))];exact⟨h1,h2⟩
theorem KV.put{kvs:List (κ×V)}{vs:List (κ×Value)}(r:KV kvs vs)(k:κ){y:V}{u:Value}(ry:RelV y u):KV (putK kvs k y) (stored vs k u):=by
 unfold putK stored
 rw[r.any k]
 by_cases e:(vs.any fun kv=>decide (kv.1=k))=true
 ·rw[if_pos e,if_pos e];exact r.repl k ry
 ·rw[if_neg e,if_neg e];exact Paired.snoc r ⟨rfl,ry⟩
end
theorem ZX{P:Program}{w:World}{k:Key}{u:Value}(r:RelV (kV k) u):(Cw P w).is k u=true:=by
 cases k with
 |inl i=>obtain⟨t,e⟩:=(show∃t,u=Value.int i t from r);subst e;exact QF P w i t
 |inr x=>obtain⟨t,e⟩:=(show∃t,u=Value.str x t from r);subst e;exact P9 P w x t
theorem PM{P:Program}{w:World}:∀{ks:List Key} {us:List Value},Vals (ks.map kV) us->ItemsAre (Cw P w) ks us
  | [],_,r=>by rw[List.map_nil]at r;cases r;exact .nil
  | k :: ks, _, r => by
    rw[List.map_cons]at r
    cases r with
    |cons h t=>exact .cons (ZX h) (PM t)
abbrev KT(H:Hp):List (List Key×V)->List (List Key×Addr×Value)->Prop:=Paired fun p q=>p.1=q.1/\H q.2.1=some (.tup (p.1.map kV))/\RelV p.2 q.2.2
theorem KT.val{H:Hp}{kvs:List (List Key×V)}{xs:List (List Key×Addr×Value)}(r:KT H kvs xs)(k:List Key):Rq (Rp kvs k) ((atKey xs k).map (·.2)):=by
  induction r with
  |nil=>exact True.intro
  | @cons p q ps qs h t ih=>
    obtain⟨h1,_,h2⟩:=h
    by_cases e:p.1=k
    · have e' : q.1 = k := h1.symm.trans e
      have b:atKey (q::qs) k=some q.2:=by simp[atKey,List.find?_cons,e']
      rw[Na e,b];exact h2
    · have e' : ¬ q.1 = k := fun z => e (h1.trans z)
      have b:atKey (q::qs) k=atKey qs k:=by simp[atKey,List.find?_cons,e']
      rw[NQ e,b];exact ih
section
variable{P:Program}{w:World}{H:Hp}{h:Heap}{a:Addr}
theorem cP{u:HO}(ok:HOk P w H h)(e:Rd H a u):ED P w H h a u:=e.ok ok
theorem ZL{kvs:List (Key×V)}(ok:HOk P w H h)(e:Rd H a (.dK kvs)):kvs.length≤sizeLine/\(a==sysModules)=false/\∃vs,KV kvs vs/\h.DictOf (Cw P w) a vs:=
 show ED P w H h a (.dK kvs)from cP ok e
theorem ig{kvs:List (Key×V)}(ok:HOk P w H h)(e:H a=some (.dK kvs)):kvs.length≤sizeLine/\(a==sysModules)=false/\∃vs,KV kvs vs/\h.DictOf (Cw P w) a vs:=ZL ok (.inl e)
theorem YW{ks:List Key}(ok:HOk P w H h)(e:H a=some (.tup (ks.map kV))):(tupleKind (Cw P w)).is h ks a:=by
 obtain⟨_,its,r,o,h1,h2,n,h3⟩:=(show ED P w H h a (.tup (ks.map kV))from ok a _ e)
 exact⟨o,its.toArray,n,h1,h2,h3,by simpa using PM r⟩
theorem ZQ{kvs:List (List Key×V)}(ok:HOk P w H h)(e:Rd H a (.dT kvs)):kvs.length≤sizeLine/\(a==sysModules)=false/\
    ∃xs,KT H kvs xs/\h.DictOfH (tupleKind (Cw P w)) a xs:=by
  obtain⟨z,y,xs,r,o,es,ep,h1,h2,h3,h4,h5⟩:=(show ED P w H h a (.dT kvs)from cP ok e)
  refine⟨z,y,xs,r,o,es,ep,h1,h2,h3,h4,fun x hx=>?_,h5⟩
  have all:∀{l:List (List Key×V)} {m:List (List Key×Addr×Value)},KT H l m->∀x∈m,(tupleKind (Cw P w)).is h x.1 x.2.1:=by
    intro l m q
    induction q with
    |nil=>intro x hx;exact nomatch hx
    | @cons p q ps qs hq t ih=>
      intro x hx
      rcases List.mem_cons.mp hx with e|hx
      · subst e
        exact YW ok (by rw[←hq.1];exact hq.2.1)
      ·exact ih x hx
  exact all r x hx
theorem Wq{kvs:List (List Key×V)}(ok:HOk P w H h)(e:H a=some (.dT kvs)):kvs.length≤sizeLine/\(a==sysModules)=false/\
  ∃xs,KT H kvs xs/\h.DictOfH (tupleKind (Cw P w)) a xs:=ZQ ok (.inl e)
end
def fW(H:Hp)(a:Addr)(y:V)(r:Option V):Prop:=
 (∃kvs k,Rd H a (.dK kvs)/\y=kV k/\r=Rp kvs k)∨∃kvs k b,Rd H a (.dT kvs)/\y=.ref b/\H b=some (.tup (k.map kV))/\r=Rp kvs k
theorem fW.k{H:Hp}{a:Addr}{kvs:List (Key×V)}{k:Key}(e:H a=some (.dK kvs)):fW H a (kV k) (Rp kvs k):=.inl ⟨kvs,k,.inl e,rfl,rfl⟩
section
variable{X:Cx}{pins:List (Addr×Obj)}{σ:St}{H:Hp}{s:Shared}{a:Addr}{y v:V}{u r:Value}{o:Option V}{A:Around}{E:Value->Shared->Prop}
theorem Inv.big(I:Inv X pins σ H s):sysModules<s.heap.objs.size:=by
 have h:mainGlobals<s.heap.objs.size:=(I.mod.glob.keeps I.bk).lt
 exact Nat.lt_trans (by decide) h
theorem Yo{h':Heap}{t':Nat}{ob:HO}(I:Inv X pins σ H s)(mu:Mut (H a))(hs:Heap.SameBut a s.heap h')(he:∃q,h'.get? a=some q)(new:ED X.prog X.w (upd H a ob) h' a ob):
  Inv X pins σ (upd H a ob) {s with heap:=h',toks:=t'}:=
 I.write (x:=a) (e:=a) mu (.inl rfl) (fun b q hb z=>(hs.2 b hb).trans z) he new
theorem cS{P:Program}{w:World}{H':Hp}{h':Heap}{kvs:List (Key×V)}{vs:List (Key×Value)}(z:kvs.length≤sizeLine)(hd:(a==sysModules)=false)(rel:KV kvs vs)(dd:h'.DictOf (Cw P w) a vs):
  ED P w H' h' a (.dK kvs):=⟨z,hd,vs,rel,dd⟩
end
section
variable{X:Cx}{pins:List (Addr×Obj)}{σ:St}{H:Hp}{s:Shared}{a:Addr}{kvs:List (Key×V)}{k:Key}{u:Value}{A:Around}{E:Value->Shared->Prop}
end
section
variable{X:Cx}{o i e value:Expr}{pos pos' tpos:Pos}{td ty tv:TE}
end
theorem Wi{P:Program}{w:World}{H:Hp}(h:Heap)(hb:sysModules<h.objs.size):ED P w H (h.push {cls:=.type "dict",data:=.dict #[]}) h.objs.size (.dK []):=
 ⟨Nat.zero_le _,beq_eq_false_iff_ne.mpr (Ne.symm (Nat.ne_of_lt hb)),[],.nil,Heap.DictOf.new h⟩
section
variable{X:Cx}{pos:Pos}
end
def QZ:List (TE×TE)->St->Hp->(List (V×V)->Hp->Prop)->Prop
 | [],_,H,Q=>Q [] H
 |(tk,tv)::r,σ,H,Q=>tk σ H fun x H1=>tv σ H1 fun y H2=>QZ r σ H2 fun ps H3=>Q ((x,y)::ps) H3
abbrev VV:List (V×V)->List (Value×Value)->Prop:=Paired fun p q=>RelV p.1 q.1/\RelV p.2 q.2
def PPs(X:Cx)(pos:Pos)(keys:List (Option Expr))(values:List Expr)(trs:List (TE×TE)):Prop:=
 ∀ (pins : List (Addr × Obj)) (s : Shared) (σ : St) (H : Hp) (Q : List (V × V) -> Hp -> Prop), Inv X pins σ H s -> QZ trs σ H Q ->
  wpAny (model X.prog X.w) X.A (evalPairs (pairTrees keys values X.env pos)) (fun vs s'=>∃ps H',Inv X pins σ H' s'/\VV ps vs/\Q ps H') X.xe s
theorem Y6{X:Cx}{pos:Pos}:PPs X pos [] [] []:=fun pins s σ H Q I h=>pairTrees_nil_walk ⟨[],H,I,.nil,h⟩
theorem Xe{X:Cx}{pos:Pos}{k v:Expr}{ks:List (Option Expr)}{vs:List Expr}{tk tv:TE}{trs:List (TE×TE)}(hk:PE X k tk)(hv:PE X v tv)(hr:PPs X pos ks vs trs):
  PPs X pos (some k::ks) (v::vs) ((tk,tv)::trs):=fun pins s σ H Q I h=>
 pairTrees_cons_walk (thn (hk pins s σ H _ I h) fun u s1 ⟨x,H1,I1,rx,q1⟩=>thn (hv pins s1 σ H1 _ I1 q1) fun w2 s2 ⟨y,H2,I2,ry,q2⟩=>
  thn (hr pins s2 σ H2 _ I2 q2) fun ws s3 ⟨ps,H3,I3,rel,q3⟩=>⟨(x,y)::ps,H3,I3,.cons ⟨rx,ry⟩ rel,q3⟩)
noncomputable def Ky(kvs more:List (Key×V)):List (Key×V):=more.foldl (fun acc kv=>putK acc kv.1 kv.2) kvs
theorem KV.merge:∀{more:List (Key×V)} {rs:List (Key×Value)} {kvs:List (Key×V)} {vs:List (Key×Value)},KV more rs->KV kvs vs->KV (Ky kvs more) (merged vs rs):=by
  intro more rs kvs vs r
  unfold KV at r
  induction r generalizing kvs vs with
  |nil=>intro q;exact q
  | @cons p q ps qs h t ih=>
    intro r0
    have e:KV (putK kvs p.1 p.2) (stored vs q.1 q.2):=by
      have:=r0.put p.1 h.2
      rw[←h.1];exact this
    exact ih e
theorem JR:∀(more kvs:List (Key×V)),(Ky kvs more).length≤kvs.length+more.length
  | [],kvs=>by show kvs.length≤kvs.length+0;omega
  | p :: r, kvs => by
    have h1:=JR r (putK kvs p.1 p.2)
    have h2:=QJ kvs p.1 p.2
    show(Ky (putK kvs p.1 p.2) r).length≤_
    rw[List.length_cons];omega
theorem MV{P:Program}{w:World}:∀{kvs:List (Key×V)} {ws:List (Value×Value)},VV (kvs.map fun kv=>(kV kv.1,kv.2)) ws->∃rs,Carries (Cw P w) ws rs/\KV kvs rs
  | [],_,r=>by rw[List.map_nil]at r;cases r;exact⟨[],True.intro,.nil⟩
  | p :: kvs, _, r => by
    rw[List.map_cons]at r
    cases r with
    | @cons a b as bs h t=>
      obtain⟨rs,c,q⟩:=MV (P:=P) (w:=w) t
      obtain⟨b1,b2⟩:=b
      exact⟨(p.1,b2)::rs,⟨ZX h.1,rfl,c⟩,.cons ⟨rfl,h.2⟩ q⟩
noncomputable def gw(trs:List (TE×TE)):TE:=fun σ H Q=>∀p,H p=none->QZ trs σ (upd H p (.dK [])) fun ps H2=>H2 p=some (.dK [])/\∃kvs:List (Key×V),ps=kvs.map (fun kv=>(kV kv.1,kv.2))/\kvs.length≤15/\Q (.ref p) (upd H2 p (.dK (Ky [] kvs)))
theorem Zd{X:Cx}{pos:Pos}{keys:List (Option Expr)}{values:List Expr}{trs:List (TE×TE)}(h:PPs X pos keys values trs)(hall:keys.all (·.isSome)=true)(hl:keys.length=values.length)(h0:keys≠[])
  (h15:keys.length≤15):PE X (.Dict keys values pos) (gw trs):=by
 intro pins s σ H Q I q
 have hn:=I.hok.fresh (Nat.le_refl s.heap.objs.size)
 have I1:=I.laid (a:=s.heap.objs.size) (o:=.dK []) (h':=s.heap.push {cls:=.type "dict",data:=.dict #[]}) (t':=s.toks) (fun _ _ q=>Heap.get?_push_of_some _ q) (Nat.le_refl _) (Wi s.heap I.big)
 refine wpAny_Dict_walk (knd:=Cw X.prog X.w) hall hl h0 h15 (thn (h pins _ σ _ _ I1 (q _ hn)) fun ws s2 ⟨ps,H2,I2,rel,e,kvs,ep,lk,q2⟩=>?_)
 subst ep
 obtain⟨rs,c,rk⟩:=MV (P:=X.prog) (w:=X.w) rel
 obtain⟨z,hd,vs0,r0,dd⟩:=ig I2.hok e
 cases r0
 refine⟨rs,c,dd,fun h' dd' hs=>⟨.ref s.heap.objs.size,_,?_,rfl,q2⟩⟩
 have hz:(Ky [] kvs).length≤sizeLine:=by
  have h1:=JR kvs []
  rw[List.length_nil]at h1
  rw[sizeLine_eq];omega
 have he:∃q,h'.get? s.heap.objs.size=some q:=let⟨q,_,_,hq,_⟩:=dd';⟨q,hq⟩
 exact Yo I2 (by rw[e];exact True.intro) hs he (cS hz hd (rk.merge .nil) dd')
structure M1(X:Cx)(o:Expr)(m:Str)(apos:Pos)(e:Expr)(cpos:Pos):Prop where
 base:attributeBase o m X.env (eval o X.env)=eval o X.env
 few:((backTo cpos (starEach [e] X.env)).all (fun x=> !x.1) && (backToKw cpos (keywordEach [] X.env)).all (fun x=>x.1.isSome)
  && decide (([e]:List Expr).length+([]:List Keyword).length+(if([]:List Keyword).isEmpty then 0 else 1)<30))=true
 line:(apos.endLine==cpos.line)=true
 trees:backTo cpos (starEach [e] X.env)=[(false,eval e X.env)]
structure M2(X:Cx)(o:Expr)(m:Str)(apos:Pos)(e f:Expr)(cpos:Pos):Prop where
 base:attributeBase o m X.env (eval o X.env)=eval o X.env
 few:((backTo cpos (starEach [e,f] X.env)).all (fun x=> !x.1) && (backToKw cpos (keywordEach [] X.env)).all (fun x=>x.1.isSome)
  && decide (([e,f]:List Expr).length+([]:List Keyword).length+(if([]:List Keyword).isEmpty then 0 else 1)<30))=true
 line:(apos.endLine==cpos.line)=true
 trees:backTo cpos (starEach [e,f] X.env)=[(false,eval e X.env),(false,eval f X.env)]
def IsD(H:Hp)(a:Addr):Prop:=(∃kvs,Rd H a (.dK kvs))∨∃kvs,Rd H a (.dT kvs)
theorem cu{X:Cx}{pins:List (Addr×Obj)}{σ:St}{H:Hp}{s:Shared}{a:Addr}(I:Inv X pins σ H s)(d:IsD H a):
  s.TypeIs (.ref a) "dict" /\(∀b,Value.ref a=.ref b->∃ob,s.heap.get? b=some ob/\ob.dict=none)/\(a==sysModules)=false:=by
 rcases d with⟨kvs,e⟩|⟨kvs,e⟩
 ·obtain⟨_,hd,vs,_,dd⟩:=ZL I.hok e
  refine⟨dd.typeIs,fun b q=>?_,hd⟩
  cases q
  obtain⟨ob,_,_,h1,h2,_⟩:=dd
  exact⟨ob,h1,h2.2.1⟩
 ·obtain⟨_,hd,xs,_,dd⟩:=ZQ I.hok e
  refine⟨dd.typeIs,fun b q=>?_,hd⟩
  cases q
  obtain⟨ob,_,_,h1,h2,_⟩:=dd
  exact⟨ob,h1,h2.2.1⟩
section
variable{X:Cx}{pins:List (Addr×Obj)}{σ:St}{H:Hp}{s:Shared}{a:Addr}{y d:V}{u r:Value}{o:Option V}{A:Around}{E:Value->Shared->Prop}
theorem bR{Q:Value->Shared->Prop}(hu:A.units+1<cLine)(I:Inv X pins σ H s)(g:fW H a y o)(ry:RelV y u)(rd:RelV d r)(h:∀w' s',Inv X pins σ H s'->RelV (o.getD d) w'->Q w' s'):
  wpAny (model X.prog X.w) A (call (.builtin "dict.get") [.ref a,u,r]) Q E s:=by
 rcases g with⟨kvs,k,e,ey,l⟩|⟨kvs,k,b,e,ey,eb,l⟩
 ·subst ey
  obtain⟨z,hd,vs,rel,dd⟩:=ZL I.hok e
  refine call_meetsIn PySem.F.slot_dict_get dd.typeIs PySem.F.entry_dict_get (PySem.F.args_dict_get_3 _ _ _) (meets_dict_get_default (Cw X.prog X.w) a (ZX ry) hd r) ⟨_,dd.mapOf,h _ _ (I.tok _) ?_⟩
  rw[l]
  exact(rel.val k).getD rd
 ·subst ey
  cases (show u=Value.ref b from ry)
  obtain⟨z,hd,xs,rel,dd⟩:=ZQ I.hok e
  refine call_meetsIn PySem.F.slot_dict_get dd.typeIs PySem.F.entry_dict_get (PySem.F.args_dict_get_3 _ _ _) (meetsH_dict_get_default (tupleKind (Cw X.prog X.w)) a b hd r) ⟨tupleKind_room_in1 hu,k,xs,YW I.hok eb,dd,h _ _ (I.tok _) ?_⟩
  rw[l]
  exact(rel.val k).getD rd
end
noncomputable def dY(td ty tx:TE):TE:=fun σ H Q=>td σ H fun x H1=>∃a,x=.ref a/\IsD H1 a/\ty σ H1 fun y H2=>tx σ H2 fun z H3=>∃o,fW H3 a y o/\Q (o.getD z) H3
section
variable{X:Cx}{o e f:Expr}{apos cpos:Pos}{td ty tx:TE}
theorem Ww(hu:X.A.units+1<cLine)(ho:PE X o td)(he:PE X e ty)(hf:PE X f tx)(m:M2 X o "get" apos e f cpos):PE X (.Call (.Attribute o "get" apos) [e,f] [] cpos) (dY td ty tx):=by
 intro pins s σ H Q I h
 refine wpAny_Call_method m.base m.few m.line PySem.F.plainAttrs_dict PySem.F.slot_dict_get PySem.F.type_dict_get (thn (ho pins s σ H _ I h) fun u s1 ⟨x,H1,I1,rx,a,ex,d,q1⟩=>?_)
 subst ex
 obtain rfl:u=Value.ref a:=rx
 obtain⟨t1,t2,_⟩:=cu I1 d
 refine⟨t1,t2,?_⟩
 rw[m.trees]
 refine Calls.callWith_builtin rfl (Calls.evalArgs_plain (Calls.spliced_cons (thn (he pins s1 σ H1 _ I1 q1) fun iv s2 ⟨y,H2,I2,ry,q2⟩=>
  Calls.spliced_cons (thn (hf pins s2 σ H2 _ I2 q2) fun fv s3 ⟨z,H3,I3,rz,ov,g,q3⟩=>Calls.spliced_nil ?_))))
 exact bR hu I3 g ry rz fun w' s4 I4 rw'=>⟨_,H3,I4,rw',q3⟩
end
section
variable{X:Cx}{pins:List (Addr×Obj)}{σ:St}{H:Hp}{s:Shared}{a:Addr}{kvs:List (Key×V)}{A:Around}{E:Value->Shared->Prop}
end
section
variable{X:Cx}{pins:List (Addr×Obj)}{σ:St}{H:Hp}{s:Shared}{a:Addr}{y:V}{u:Value}{A:Around}{E:Value->Shared->Prop}
end
end L2
end
noncomputable section
namespace L2
open PySem PySem.Spec PyProof.Rows
section
variable{prog:Program}{w:World}{A:Around}{E:Value->Shared->Prop}{s:Shared}
theorem RJ{h:Heap}{it t:Addr}{i:Nat}{o:Obj}(ho:h.get? it=some o)(hc:o.cls=.type "tuple_iterator")(hd:o.data=.fields #[.ref t,.int i 0]){h':Heap}
  (e:h'=h.update it (fun o=>o.mapFields fun a=>a.setIfInBounds 1 (rawInt ((i:Int)+1)))):h'.IsTupleIter it t (i+1):=by
 subst e
 have d:=Obj.data_mapFields hd fun a=>a.setIfInBounds 1 (rawInt ((i:Int)+1))
 refine⟨_,Heap.get?_update_self _ ho (Obj.isFreed_of_fields d),?_,?_⟩
 ·rw[Obj.cls_mapFields];exact hc
 ·rw[d];simp[rawInt]
theorem XJ{it t:Addr}{i:Nat}{items:Array Value}{x:Value}{Q:Value->Shared->Prop}(hit:s.heap.IsTupleIter it t i)(ht:s.heap.IsTuple t items)(hx:items[i]?=some x)
  (hQ:∀h',h'.IsTupleIter it t (i+1)->Heap.SameBut it s.heap h'->Q x {s with heap:=h'}):wpAny (model prog w) A (Builtin.SmallTypes.nextOf (.ref it)) Q E s:=by
 obtain⟨⟨c,dd,dt,sl⟩,ho,hc,hd⟩:=id hit
 obtain⟨⟨c2,dd2,dt2,sl2⟩,ho2,hc2,n2,hd2⟩:=id ht
 simp only at hc hd hc2 hd2
 subst hc hd hc2 hd2
 unfold Builtin.SmallTypes.nextOf
 refine wpAny_bind (wpAny_callSpecial?_slot (name:=Str.ofString "__next__") hit.typeIs F.slot_tuple_iterator_next (wpAny_call_entry F.slot_tuple_iterator_next hit.typeIs F.entry_tuple_iterator_next ?_ (F.args_tuple_iterator_next_1 _)))
 unfold Builtin.«tuple_iterator.__next__»
 wp_walk using AutoSeq1.wpAny_loadPart' ho,AutoSeq1.wpAny_loadPart' ho2
 have e:items[(i:Int).toNat]?=some x:=by rw[Int.toNat_natCast];exact hx
 rw[e]
 refine wpAny_bind (wpAny_setField ho rfl (by simp) ?_)
 exact wpAny_pure ⟨x,rfl,wpAny_pure (hQ _ (RJ ho rfl rfl rfl) (Heap.SameBut.update ..))⟩
theorem XE{it t:Addr}{i:Nat}{items:Array Value}{Q:Value->Shared->Prop}(hh:A.handled=none)(hit:s.heap.IsTupleIter it t i)(ht:s.heap.IsTuple t items)(hx:items[i]?=none)
  (hE:∀h' e,Heap.ExtBut it s.heap h'->(∃o,h'.get? e=some o/\o.cls=.type "StopIteration")->E (.ref e) {s with heap:=h'}):wpAny (model prog w) A (Builtin.SmallTypes.nextOf (.ref it)) Q E s:=by
 obtain⟨⟨c,dd,dt,sl⟩,ho,hc,hd⟩:=id hit
 obtain⟨⟨c2,dd2,dt2,sl2⟩,ho2,hc2,n2,hd2⟩:=id ht
 simp only at hc hd hc2 hd2
 subst hc hd hc2 hd2
 unfold Builtin.SmallTypes.nextOf
 refine wpAny_bind (wpAny_callSpecial?_slot (name:=Str.ofString "__next__") hit.typeIs F.slot_tuple_iterator_next (wpAny_call_entry F.slot_tuple_iterator_next hit.typeIs F.entry_tuple_iterator_next ?_ (F.args_tuple_iterator_next_1 _)))
 unfold Builtin.«tuple_iterator.__next__»
 wp_walk using AutoSeq1.wpAny_loadPart' ho,AutoSeq1.wpAny_loadPart' ho2
 have e:items[(i:Int).toNat]?=none:=by rw[Int.toNat_natCast];exact hx
 rw[e]
 refine wpAny_bind (wpAny_rule (wpAny_bind (wpAny_setField ho rfl (by simp) ?_)))
 have hh1:A.in1.handled=none:=hh
 unfold Builtin.SmallTypes.stopIteration
 simp only[newExc,newTuple,raiseNew]
 wp_walk
 refine hE _ _ ?_ ⟨_,Heap.get?_push_size _ rfl,rfl⟩
 have a:=(Heap.SameBut.update (a:=it) (h:=s.heap) (f:=Obj.mapFields fun x=>x.setIfInBounds 0 Value.none)).extBut
 exact(a.push _).push _
theorem Rt(l:Addr)(items:Array Value)(n:Nat)(dct:Option Addr)(sl:Array (Option Value)):
  Meets (Builtin.«enumerate.__new__» ⟨[.type "enumerate",.ref l],[]⟩) (fun _ R s=>s.heap.get? l=some {cls:=.type "tuple",dict:=dct,data:=.seq items n,slots:=sl}/\
   R (.ok (.ret (.ref (s.heap.objs.size+1)))) {s with heap:=(s.heap.push {cls:=.type "tuple_iterator",data:=.fields #[.ref l,.int 0 0]}).push {cls:=.type "enumerate",data:=.fields #[.none,.bool false,.ref s.heap.objs.size,rawInt 0,.none,.none]}}):=
 .of_wp fun prog w A R s h=>by
  obtain⟨hp,g,d,tk,os⟩:=s
  obtain⟨hl,h⟩:=h
  have hsub:=sub_enumerate
  have hT:Heap.IsTuple (Shared.heap ⟨hp,g,d,tk,os⟩) l items:=⟨_,hl,rfl,n,rfl⟩
  wp_walk using AutoSeq1.wpAny_loadPart' hl
  refine wpAny_stack_any fun st=>wpAny_pure ?_
  split
  ·rename_i c _ _ _ _ _
   cases (c==Value.type "enumerate")<;>(wp_walk using AutoSeq1.wpAny_loadPart' hl,wpAny_pyIter_tuple hT)<;>(refine⟨_,rfl,?_⟩;rw[Heap.size_push];exact h)
  ·wp_walk using AutoSeq1.wpAny_loadPart' hl,wpAny_pyIter_tuple hT
   refine⟨_,rfl,?_⟩
   rw[Heap.size_push]
   exact h
theorem RU{l:Addr}{items:Array Value}{Q:Value->Shared->Prop}(hT:s.heap.IsTuple l items)
  (h:∀h',IsEnum h' (s.heap.objs.size+1) s.heap.objs.size 0 .none->h'.IsTupleIter s.heap.objs.size l 0->(∀b o,s.heap.get? b=some o->h'.get? b=some o)->Q (.ref (s.heap.objs.size+1)) {s with heap:=h'}):
  wpAny (model prog w) A (call (.type "enumerate") [.ref l]) Q E s:=by
 obtain⟨⟨c,dct,dt,sl⟩,hl,hc,n,hd⟩:=hT
 simp only at hc hd
 subst hc hd
 refine callType_new F.called_enumerate (by decide) (F.typeCall_enumerate_1 _) (F.newCall_enumerate_1 _) (fun obj=>F.args_object_init_2 obj _) F.entry_enumerate_new (Rt l items n dct sl) ⟨hl,?_⟩
 have z:=Heap.get?_push_size (s.heap.push {cls:=.type "tuple_iterator",data:=.fields #[.ref l,.int 0 0]}) (o:={cls:=.type "enumerate",data:=.fields #[.none,.bool false,.ref s.heap.objs.size,rawInt 0,.none,.none]}) rfl
 rw[Heap.size_push]at z
 exact⟨⟨_,z,rfl⟩,h _ z ⟨_,Heap.get?_push_of_some _ (Heap.get?_push_size _ rfl),rfl,rfl⟩ fun b o x=>Heap.get?_push_of_some _ (Heap.get?_push_of_some _ x)⟩
end
section
variable{X:Cx}
end
end L2
end
noncomputable section
namespace L2
open PySem PySem.Spec PyProof.Rows
section
variable{X:Cx}
def FnAt(X:Cx)(k:Nat)(f:Addr)(sp:Sp):Prop:=∃fd ps,L4 X.prog X.w X.K X.mg X.base CX0 k f fd ps sp/\PySem.W.keepIn X.K (.ref f)=true/\Binds X.K fd ps []
noncomputable def bH(X:Cx)(k i:Nat)(t:TA):TE:=fun σ H Q=>∃f sp,σ[i]?=some (some (.ref f))/\FnAt X k f sp/\t σ H fun vs H1=>sp (vs++[]) H1 Q E0
theorem Wl{k i:Nat}{x:Str}{e:Expr}{es:List Expr}{t:TA}{p pos:Pos}(hN:X.N[i]?=some x)(hv:Vis X.env.scope x)(hr:L5 k X.A)(ha:PA X (e::es) t)
  (hd:(x==("__debug__":Str))=false:=by decide) (hcd:(x==("__classdict__":Str))=false:=by decide) (he:starEach (e::es) X.env=(false,eval e X.env)::starEach es X.env:=by rfl)
  (hpl:(backTo pos (starEach es X.env)).any (·.1)=false:=by rfl):PE X (.Call (.Name x p) (e::es) [] pos) (bH X k i t):=by
 intro pins s σ H Q I h
 obtain⟨f,sp,el,⟨fd,ps,F,hk,hb⟩,h⟩:=h
 refine wpAny_Call_Name_kw (thn (Tw hN hv hd hcd pins s σ H (fun v H1=>v=.ref f/\H1=H) I ⟨_,el,rfl,rfl⟩) fun u s1 ⟨v,H1,I1,r,ev,eh⟩=>?_)
 subst ev eh
 obtain rfl:u=Value.ref f:=r
 refine PySem.W.callWith_K (h₀:=X.base) I.ok.mod.kin hk (thn (ha pos pins s1 σ H1 _ I1 h) fun us s2 ⟨vs,H2,I2,r2,q⟩=>⟨I2.kIn,?_⟩) he hpl
 exact YO F hr hb .nil d9 I2 r2 q
end
end L2
end
noncomputable section
namespace L2
open PySem PySem.Spec PyProof.Rows
structure TopD(K:PySem.W.Frag)(w:World)(a:Addr)(kvs:List (Str×V)):Prop where
 ex:∃(es:Array DictEntry) (n:Nat),K.lookup a=some ⟨.type "dict",none,.dict es n, #[]⟩/\PySem.W.KeysLit w.params es.toList/\(a==sysModules)=false/\∀x,Rq (kvs.lookup x) (findBy Value.isStrOf es x)
section
variable{X:Cx}
noncomputable def dG(K:PySem.W.Frag)(w:World):R2:=fun x y H Q=>∃a kvs k v,x=.ref a/\y=.str k/\TopD K w a kvs/\kvs.lookup k=some v/\Q v H
theorem Xt:IxR X (dG X.K X.w):=by
  intro value slice pins s σ H x y v u Q I rx ry h hs
  obtain⟨a,kvs,k,z,rfl,rfl,⟨es,n,hl,hk,hne,hr⟩,e,q⟩:=h
  cases rx
  obtain⟨t,rfl⟩:=ry
  have hm:=PySem.W.mapOf_K (prog:=X.prog) I.kIn hl hk
  have r:=hr k
  rw[e]at r
  cases f:findBy Value.isStrOf es k with
  |none=>rw[f]at r;exact r.elim
  | some u =>
    rw[f]at r
    exact tail_any hm.typeIs slot_dict_getitem.lookup (wpAny_getItem_of (strKind_is X.prog X.w k t) hm f ⟨z,H,I.tok _,r,q⟩) hs
noncomputable def YS(K:PySem.W.Frag)(w:World)(neg:Bool):R2:=fun x y H Q=>∃a kvs k,y=.ref a/\x=.str k/\TopD K w a kvs/\Q (.bl (if neg then !(kvs.lookup k).isSome else(kvs.lookup k).isSome)) H
theorem Oc:OpR X (compareOp .NotIn) (YS X.K X.w true):=by
 intro pins s σ H x y v u Q I rx ry h
 obtain⟨a,kvs,k,rfl,rfl,⟨es,n,hl,hk,hne,hr⟩,q⟩:=h
 cases ry
 obtain⟨t,rfl⟩:=rx
 refine wpAny_notIn_of (strKind_is X.prog X.w k t) hne (PySem.W.mapOf_K (prog:=X.prog) I.kIn hl hk) ⟨.bl _,H,I.tok _,?_,q⟩
 show _=_
 have r:(kvs.lookup k).isSome=(findBy Value.isStrOf es k).isSome:=(hr k).isSome_eq
 rw[←r]
 rfl
end
theorem Pe{kvs:List (Str×V)}{es:List DictEntry}(p:Paired (fun(p:Str×V) (e:DictEntry)=>(∃t,e.key=.str p.1 t)/\RelV p.2 e.val) kvs es)(x:Str):Rq (kvs.lookup x) (findBy Value.isStrOf es.toArray x):=by
  unfold findBy
  rw[List.find?_toArray]
  induction p with
  |nil=>trivial
  | @cons q e r t h _ ih=>
    obtain⟨⟨tk,hk⟩,hv⟩:=h
    obtain⟨k,v⟩:=q
    rw[List.find?_cons,hk]
    show Rq (match x==k with|true=>some v|false=>List.lookup x r) _
    by_cases z:x=k
    · subst z
      have e1:(x==x)=true:=beq_self_eq_true x
      have e2:Value.isStrOf x (.str x tk)=true:=beq_self_eq_true x
      rw[e1,e2]
      exact hv
    · have e1 : (x == k) = false := beq_eq_false_iff_ne.mpr z
      have e2:Value.isStrOf x (.str k tk)=false:=beq_eq_false_iff_ne.mpr (Ne.symm z)
      rw[e1,e2]
      exact ih
theorem X9{K:PySem.W.Frag}{w:World}{a:Addr}{n:Nat}{es:List DictEntry}{kvs:List (Str×V)}(l:K.lookup a=some ⟨.type "dict",none,.dict es.toArray n, #[]⟩)(hk:PySem.W.KeysLit w.params es)(hne:(a==sysModules)=false)
  (hp:Paired (fun(p:Str×V) (e:DictEntry)=>(∃t,e.key=.str p.1 t)/\RelV p.2 e.val) kvs es):TopD K w a kvs:=⟨_,n,l,hk,hne,Pe hp⟩
end L2
end
noncomputable section
namespace L2
open PySem PySem.Spec PyProof.Rows
def SIt(h:Heap)(j l:Addr)(i:Nat)(its:Array Value):Prop:=(h.IsListIter j l i/\h.IsList l its)∨(h.IsTupleIter j l i/\h.IsTuple l its)
section
variable{prog:Program}{w:World}{A:Around}{E:Value->Shared->Prop}{s:Shared}{h h':Heap}{j l:Addr}{i:Nat}{its:Array Value}
theorem SIt.at(q:SIt h j l i its)(k1:∀o,h.get? j=some o->h'.get? j=some o)(k2:∀o,h.get? l=some o->h'.get? l=some o):SIt h' j l i its:=by
 rcases q with⟨a,b⟩|⟨a,b⟩
 ·exact .inl ⟨a.at k1,b.at k2⟩
 ·exact .inr ⟨a.at k1,let⟨o,e,r⟩:=b;⟨o,k2 o e,r⟩⟩
theorem SIt.but{c:Addr}(q:SIt h j l i its)(sb:Heap.ExtBut c h h')(n1:j≠c)(n2:l≠c):SIt h' j l i its:=q.at (fun o e=>sb _ o n1 e) fun o e=>sb _ o n2 e
theorem SIt.live(q:SIt h j l i its):∃o,h.get? j=some o/\∀v,o.data≠.cell v:=by
 rcases q with⟨⟨o,a,b,c⟩,_⟩|⟨⟨o,a,b,c⟩,_⟩
 ·exact⟨o,a,fun v z=>by rw[c]at z;cases z⟩
 ·exact⟨o,a,fun v z=>by rw[c]at z;cases z⟩
theorem SIt.ne(q:SIt h j l i its):l≠j:=by
 rcases q with⟨⟨o,a,b,_⟩,⟨o2,a2,b2,_⟩⟩|⟨⟨o,a,b,_⟩,⟨o2,a2,b2,_⟩⟩
 ·intro z;subst z;rw[a]at a2;cases a2;rw[b]at b2;injection b2 with q;exact absurd q (by decide)
 ·intro z;subst z;rw[a]at a2;cases a2;rw[b]at b2;injection b2 with q;exact absurd q (by decide)
theorem Kt{x:Value}{Q:Value->Shared->Prop}(q:SIt s.heap j l i its)(hx:its[i]?=some x)(k:∀h',SIt h' j l (i+1) its->Heap.SameBut j s.heap h'->Q x {s with heap:=h'}):
  wpAny (model prog w) A (Builtin.SmallTypes.nextOf (.ref j)) Q E s:=by
 have n:=q.ne
 rcases q with⟨a,b⟩|⟨a,b⟩
 ·exact wpAny_nextOf_list_item a b hx fun h' a' sb=>k h' (.inl ⟨a',b.extBut sb.extBut n⟩) sb
 ·exact XJ a b hx fun h' a' sb=>k h' (.inr ⟨a',let⟨o,e,r⟩:=b;⟨o,sb.extBut _ o n e,r⟩⟩) sb
theorem Kk{Q:Value->Shared->Prop}(hh:A.handled=none)(q:SIt s.heap j l i its)(hx:its[i]?=none)(k:∀h' e,Heap.ExtBut j s.heap h'->(∃o,h'.get? e=some o/\o.cls=.type "StopIteration")->E (.ref e) {s with heap:=h'}):
  wpAny (model prog w) A (Builtin.SmallTypes.nextOf (.ref j)) Q E s:=by
 rcases q with⟨a,b⟩|⟨a,b⟩
 ·exact wpAny_nextOf_list_end hh a b hx k
 ·exact XE hh a b hx k
theorem Rw{z ti tt j1 j2 l1 l2:Addr}{m:Nat}{xs ys:Array Value}{x y u1 u2:Value}{Q:Value->Shared->Prop}(D:ZipApart z ti tt j1 j2 l1 l2)
  (oz:IsZip s.heap z ti tt .none) (oi:IsPair s.heap ti (.ref j1) (.ref j2)) (ot:IsPair s.heap tt u1 u2) (q1:SIt s.heap j1 l1 m xs) (q2:SIt s.heap j2 l2 m ys) (ex:xs[m]?=some x) (ey:ys[m]?=some y)
  (k:∀h',IsZip h' z ti tt (rawInt s.heap.objs.size)->IsPair h' tt x y->SIt h' j1 l1 (m+1) xs->SIt h' j2 l2 (m+1) ys->IsPair h' s.heap.objs.size x y->
   (∀c o,c≠z->c≠tt->c≠j1->c≠j2->s.heap.get? c=some o->h'.get? c=some o)->Q (.ref s.heap.objs.size) {s with heap:=h'}):
  wpAny (model prog w) A (Builtin.«zip.__next__» ⟨[.ref z],[]⟩) (fun fin s'=>∃v,fin=.done (.ret v)/\Q v s') E s:=by
 show wpAny _ _ (field (.ref z) 2 >>= _) _ _ _
 refine wpAny_bind (wpAny_field oz rfl (x:=.bool false) rfl ?_)
 show wpAny _ _ (field (.ref z) 3 >>= _) _ _ _
 refine wpAny_bind (wpAny_field oz rfl (x:=.ref ti) rfl (wpAny_bind (wpAny_seqItems oi rfl ?_)))
 show wpAny _ _ (Builtin.SmallTypes.ownedTupleIsFree (.ref z) >>= _) _ _ _
 refine wpAny_bind ?_
 unfold Builtin.SmallTypes.ownedTupleIsFree
 refine wpAny_bind (wpAny_field oz rfl (x:=.none) rfl (wpAny_pure ?_))
 simp only[if_true]
 refine wpAny_bind (wpAny_rule (wpAny_bind (wpAny_field oz rfl (x:=.ref tt) rfl (wpAny_bind (wpAny_setField_rec oz (by simp) fun g1 oz1 b1=>?_)))))
 have oz1:IsZip g1 z ti tt .ellipsis:=oz1
 refine wpAny_bind ?_
 simp only[List.zipIdx_cons,List.zipIdx_nil,List.forIn_cons,List.forIn_nil]
 refine wpAny_bind (wpAny_bind (wpAny_onRaise ?_))
 show wpAny _ _ (Builtin.SmallTypes.nextOf (.ref j1) >>= _) _ _ _
 refine wpAny_bind (Kt (q1.but b1.extBut D.i1z D.l1z) ex fun g2 q12 b2=>wpAny_pure ?_)
 have ot2:IsPair g2 tt u1 u2:=b2.extBut _ _ D.TOi1 (b1.extBut _ _ D.TOz ot)
 refine wpAny_bind (wpAny_seqItems ot2 rfl (wpAny_bind (wpAny_updateSeq_pair ot2 fun g3 ot3 b3=>?_)))
 have ot3:IsPair g3 tt x u2:=ot3
 refine wpAny_bind (wpAny_letGo (wpAny_pure (wpAny_bind (wpAny_bind (wpAny_onRaise ?_)))))
 show wpAny _ _ (Builtin.SmallTypes.nextOf (.ref j2) >>= _) _ _ _
 refine wpAny_bind (Kt (((q2.but b1.extBut D.i2z D.l2z).but b2.extBut D.i12.symm D.l2i1).but b3.extBut D.TOi2.symm D.l2TO) ey fun g4 q24 b4=>wpAny_pure ?_)
 have ot4:IsPair g4 tt x u2:=b4.extBut _ _ D.TOi2 ot3
 refine wpAny_bind (wpAny_seqItems ot4 rfl (wpAny_bind (wpAny_updateSeq_pair ot4 fun g5 ot5 b5=>?_)))
 have ot5:IsPair g5 tt x y:=ot5
 refine wpAny_bind (wpAny_letGo (wpAny_pure (wpAny_pure (wpAny_bind (wpAny_seqItems ot5 rfl (wpAny_bind (wpAny_newTuple ?_)))))))
 have sz:g5.objs.size=s.heap.objs.size:=by rw[b5.1,b4.1,b3.1,b2.1,b1.1]
 have oz5:IsZip g5 z ti tt .ellipsis:=b5.extBut _ _ D.TOz.symm (b4.extBut _ _ D.i2z.symm (b3.extBut _ _ D.TOz.symm (b2.extBut _ _ D.i1z.symm oz1)))
 have k5:∀c o,c≠z->c≠tt->c≠j1->c≠j2->s.heap.get? c=some o->g5.get? c=some o:=fun c o c1 c2 c3 c4 e=>b5.extBut _ _ c2 (b4.extBut _ _ c4 (b3.extBut _ _ c2 (b2.extBut _ _ c3 (b1.extBut _ _ c1 e))))
 have q15:SIt g5 j1 l1 (m+1) xs:=((q12.but b3.extBut D.TOi1.symm D.l1TO).but b4.extBut D.i12 D.l1i2).but b5.extBut D.TOi1.symm D.l1TO
 have q25:SIt g5 j2 l2 (m+1) ys:=q24.but b5.extBut D.TOi2.symm D.l2TO
 have zlt:z<g5.objs.size:=Heap.lt_size oz5
 show wpAny _ _ (Builtin.SmallTypes.ownedTupleHandOut (.ref z) (.ref g5.objs.size) >>= _) _ _ _
 refine wpAny_bind ?_
 unfold Builtin.SmallTypes.ownedTupleHandOut
 have oz6:IsZip (g5.push {cls:=.type "tuple",data:=.seq #[x,y]}) z ti tt .ellipsis:=Heap.get?_push_of_some _ oz5
 refine wpAny_bind (wpAny_setField_rec oz6 (by simp) fun g7 oz7 b7=>?_)
 have oz7:IsZip g7 z ti tt (rawInt g5.objs.size):=oz7
 refine wpAny_setField_rec oz7 (by simp) fun g8 oz8 b8=>?_
 have oz8:IsZip g8 z ti tt (rawInt g5.objs.size):=oz8
 have up:∀c o,c≠z->g5.get? c=some o->g8.get? c=some o:=fun c o c1 e=>b8.extBut _ _ c1 (b7.extBut _ _ c1 (Heap.get?_push_of_some _ e))
 have op8:IsPair g8 g5.objs.size x y:=b8.extBut _ _ (Nat.ne_of_gt zlt) (b7.extBut _ _ (Nat.ne_of_gt zlt) (Heap.get?_push_size _ rfl))
 rw[sz]at oz8 op8
 refine wpAny_pure ⟨_,rfl,?_⟩
 show Q (.ref g5.objs.size) _
 rw[sz]
 exact k g8 oz8 (up _ _ D.TOz ot5) (q15.at (fun o e=>up _ o D.i1z e) fun o e=>up _ o D.l1z e) (q25.at (fun o e=>up _ o D.i2z e) fun o e=>up _ o D.l2z e) op8 fun c o c1 c2 c3 c4 e=>up c o c1 (k5 c o c1 c2 c3 c4 e)
theorem WB{z ti tt j1 j2 l1 l2:Addr}{m:Nat}{xs ys:Array Value}{u1 u2:Value}{Q:Fin->Shared->Prop}(hh:A.handled=none)(D:ZipApart z ti tt j1 j2 l1 l2)
    (oz:IsZip s.heap z ti tt .none) (oi:IsPair s.heap ti (.ref j1) (.ref j2)) (ot:IsPair s.heap tt u1 u2) (q1:SIt s.heap j1 l1 m xs) (q2:SIt s.heap j2 l2 m ys) (en:xs[m]?=none∨ys[m]?=none)
    (k:∀h' e,(∀c o,c≠z->c≠tt->c≠j1->c≠j2->s.heap.get? c=some o->h'.get? c=some o)->(∃o,h'.get? e=some o/\o.cls=.type "StopIteration")->E (.ref e) {s with heap:=h'}):
    wpAny (model prog w) A (Builtin.«zip.__next__» ⟨[.ref z],[]⟩) Q E s:=by
  show wpAny _ _ (field (.ref z) 2 >>= _) _ _ _
  refine wpAny_bind (wpAny_field oz rfl (x:=.bool false) rfl ?_)
  show wpAny _ _ (field (.ref z) 3 >>= _) _ _ _
  refine wpAny_bind (wpAny_field oz rfl (x:=.ref ti) rfl (wpAny_bind (wpAny_seqItems oi rfl ?_)))
  show wpAny _ _ (Builtin.SmallTypes.ownedTupleIsFree (.ref z) >>= _) _ _ _
  refine wpAny_bind ?_
  unfold Builtin.SmallTypes.ownedTupleIsFree
  refine wpAny_bind (wpAny_field oz rfl (x:=.none) rfl (wpAny_pure ?_))
  simp only[if_true]
  refine wpAny_bind (wpAny_rule (wpAny_bind (wpAny_field oz rfl (x:=.ref tt) rfl (wpAny_bind (wpAny_setField_rec oz (by simp) fun g1 oz1 b1=>?_)))))
  have oz1:IsZip g1 z ti tt .ellipsis:=oz1
  refine wpAny_bind ?_
  simp only[List.zipIdx_cons,List.zipIdx_nil,List.forIn_cons,List.forIn_nil]
  refine wpAny_bind (wpAny_bind (wpAny_onRaise ?_))
  show wpAny _ _ (Builtin.SmallTypes.nextOf (.ref j1) >>= _) _ _ _
  cases ex:xs[m]? with
  | none =>
    refine wpAny_bind (Kk hh (q1.but b1.extBut D.i1z D.l1z) ex fun g2 e b2 he=>?_)
    obtain⟨oe,e1,e2⟩:=he
    have oz2:IsZip g2 z ti tt .ellipsis:=b2 _ _ D.i1z.symm oz1
    have nez:e≠z:=fun x=>by subst x;rw[oz2]at e1;cases e1;simp at e2
    exact wpAny_setField_rec oz2 (by simp) fun g3 _ b3=>k g3 e (fun c o c1 _ c3 _ x=>b3.extBut _ _ c1 (b2 _ _ c3 (b1.extBut _ _ c1 x))) ⟨oe,b3.extBut _ _ nez e1,e2⟩
  | some x =>
    have ey:ys[m]?=none:=by
      rcases en with z|z
      ·rw[ex]at z;cases z
      ·exact z
    refine wpAny_bind (Kt (q1.but b1.extBut D.i1z D.l1z) ex fun g2 q12 b2=>wpAny_pure ?_)
    have ot2:IsPair g2 tt u1 u2:=b2.extBut _ _ D.TOi1 (b1.extBut _ _ D.TOz ot)
    refine wpAny_bind (wpAny_seqItems ot2 rfl (wpAny_bind (wpAny_updateSeq_pair ot2 fun g3 ot3 b3=>?_)))
    refine wpAny_bind (wpAny_letGo (wpAny_pure (wpAny_bind (wpAny_bind (wpAny_onRaise ?_)))))
    show wpAny _ _ (Builtin.SmallTypes.nextOf (.ref j2) >>= _) _ _ _
    refine wpAny_bind (Kk hh (((q2.but b1.extBut D.i2z D.l2z).but b2.extBut D.i12.symm D.l2i1).but b3.extBut D.TOi2.symm D.l2TO) ey fun g4 e b4 he=>?_)
    obtain⟨oe,e1,e2⟩:=he
    have oz4:IsZip g4 z ti tt .ellipsis:=b4 _ _ D.i2z.symm (b3.extBut _ _ D.TOz.symm (b2.extBut _ _ D.i1z.symm oz1))
    have nez:e≠z:=fun x=>by subst x;rw[oz4]at e1;cases e1;simp at e2
    exact wpAny_setField_rec oz4 (by simp) fun g5 _ b5=>k g5 e (fun c o c1 c2 c3 c4 x=>b5.extBut _ _ c1 (b4 _ _ c4 (b3.extBut _ _ c2 (b2.extBut _ _ c3 (b1.extBut _ _ c1 x))))) ⟨oe,b5.extBut _ _ nez e1,e2⟩
theorem Q4{z ti tt j1 j2 l1 l2:Addr}{m:Nat}{xs ys:Array Value}{x y u1 u2:Value}{Q:Option Value->Shared->Prop}(D:ZipApart z ti tt j1 j2 l1 l2)
  (oz:IsZip s.heap z ti tt .none) (oi:IsPair s.heap ti (.ref j1) (.ref j2)) (ot:IsPair s.heap tt u1 u2) (q1:SIt s.heap j1 l1 m xs) (q2:SIt s.heap j2 l2 m ys) (ex:xs[m]?=some x) (ey:ys[m]?=some y)
  (k:∀h',IsZip h' z ti tt (rawInt s.heap.objs.size)->IsPair h' tt x y->SIt h' j1 l1 (m+1) xs->SIt h' j2 l2 (m+1) ys->IsPair h' s.heap.objs.size x y->
   (∀c o,c≠z->c≠tt->c≠j1->c≠j2->s.heap.get? c=some o->h'.get? c=some o)->Q (some (.ref s.heap.objs.size)) {s with heap:=h'}):
  wpAny (model prog w) A (pyNext (.ref z)) Q E s:=by
 have ht:s.TypeIs (.ref z) "zip":=⟨_,oz,rfl⟩
 unfold pyNext
 exact wpAny_bind (wpAny_attempt (wpAny_callSpecial?_slot (name:=Str.ofString "__next__") ht F.slot_zip_next (wpAny_call_entry F.slot_zip_next ht F.entry_zip_next
  (Rw D oz oi ot q1 q2 ex ey fun h' a1 a2 a3 a4 a5 a6=>wpAny_pure (k h' a1 a2 a3 a4 a5 a6)) (F.args_zip_next_1 _))))
theorem SE{z ti tt j1 j2 l1 l2:Addr}{m:Nat}{xs ys:Array Value}{u1 u2:Value}{Q:Option Value->Shared->Prop}(hh:A.handled=none)(D:ZipApart z ti tt j1 j2 l1 l2)
  (oz:IsZip s.heap z ti tt .none) (oi:IsPair s.heap ti (.ref j1) (.ref j2)) (ot:IsPair s.heap tt u1 u2) (q1:SIt s.heap j1 l1 m xs) (q2:SIt s.heap j2 l2 m ys) (en:xs[m]?=none∨ys[m]?=none)
  (k:∀h',(∀c o,c≠z->c≠tt->c≠j1->c≠j2->s.heap.get? c=some o->h'.get? c=some o)->Q none {s with heap:=h'}):wpAny (model prog w) A (pyNext (.ref z)) Q E s:=by
 have ht:s.TypeIs (.ref z) "zip":=⟨_,oz,rfl⟩
 unfold pyNext
 refine wpAny_bind (wpAny_attempt (wpAny_callSpecial?_slot (name:=Str.ofString "__next__") ht F.slot_zip_next (wpAny_call_entry F.slot_zip_next ht F.entry_zip_next
  (WB hh D oz oi ot q1 q2 en fun h' e kp he=>?_) (F.args_zip_next_1 _))))
 obtain⟨o,e1,e2⟩:=he
 exact wpAny_bind (wpAny_isInstance (T:="StopIteration") (b:=true) ⟨o,e1,e2⟩ isSubtype_stop (wpAny_pure (k _ kp)))
end
end L2
end
noncomputable section
namespace L2
open PySem PySem.Spec PyProof.Rows
def MH(h:Heap)(b:Bool)(l:Addr)(its:Array Value):Prop:=match b with|true=>h.IsTuple l its|false=>h.IsList l its
noncomputable def dH:Bool->String|true=>"tuple_iterator" |false=>"list_iterator"
noncomputable def zh1(h:Heap)(b:Bool)(l:Addr):Heap:=h.push {cls:=.type (dH b),data:=.fields #[.ref l,.int 0 0]}
noncomputable def zh2(h:Heap)(b c:Bool)(l m:Addr):Heap:=zh1 (zh1 h b l) c m
noncomputable def zh3(h:Heap)(b c:Bool)(l m:Addr):Heap:=(zh2 h b c l m).push {cls:=.type "tuple",data:=.seq #[.ref h.objs.size,.ref (zh1 h b l).objs.size]}
noncomputable def zh4(h:Heap)(b c:Bool)(l m:Addr):Heap:=(zh3 h b c l m).push {cls:=.type "tuple",data:=.seq #[.none,.none]}
noncomputable def zh5(h:Heap)(b c:Bool)(l m:Addr):Heap:=(zh4 h b c l m).push {cls:=.type "zip",data:=.fields #[.none,.bool false,.bool false,.ref (zh2 h b c l m).objs.size,.ref (zh3 h b c l m).objs.size]}
theorem MH.push{h:Heap}{b:Bool}{l:Addr}{its:Array Value}(q:MH h b l its)(o:Obj):MH (h.push o) b l its:=by
 cases b
 ·exact Heap.IsList.push q _
 ·obtain⟨u,e,r⟩:=(show h.IsTuple l its from q)
  exact⟨u,Heap.get?_push_of_some _ e,r⟩
theorem XG(b c:Bool)(l m:Addr)(xs ys:Array Value):
  Meets (Builtin.«zip.__new__» ⟨[.type "zip",.ref l,.ref m],[]⟩) (fun _ R s=>MH s.heap b l xs/\MH s.heap c m ys/\R (.ok (.ret (.ref (zh4 s.heap b c l m).objs.size))) {s with heap:=zh5 s.heap b c l m}):=
 .of_wp fun prog w A R s hyp=>by
  obtain⟨hp,gs,dr,tk,os⟩:=s
  obtain⟨i1,i2,hyp⟩:=hyp
  have hsub:=sub_zip
  have i3:MH (Shared.heap ⟨zh1 hp b l,gs,dr,tk,os⟩) c m ys:=MH.push i2 _
  cases b<;>cases c
  ·have a1:Heap.IsList (Shared.heap ⟨hp,gs,dr,tk,os⟩) l xs:=i1
   have a2:Heap.IsList (Shared.heap ⟨hp.push {cls:=.type "list_iterator",data:=.fields #[.ref l,.int 0 0]},gs,dr,tk,os⟩) m ys:=i3
   wp_walk using wpAny_pyIter_list a1,wpAny_pyIter_list a2
   exact⟨_,rfl,hyp⟩
  ·have a1:Heap.IsList (Shared.heap ⟨hp,gs,dr,tk,os⟩) l xs:=i1
   have a2:Heap.IsTuple (Shared.heap ⟨hp.push {cls:=.type "list_iterator",data:=.fields #[.ref l,.int 0 0]},gs,dr,tk,os⟩) m ys:=i3
   wp_walk using wpAny_pyIter_list a1,wpAny_pyIter_tuple a2
   exact⟨_,rfl,hyp⟩
  ·have a1:Heap.IsTuple (Shared.heap ⟨hp,gs,dr,tk,os⟩) l xs:=i1
   have a2:Heap.IsList (Shared.heap ⟨hp.push {cls:=.type "tuple_iterator",data:=.fields #[.ref l,.int 0 0]},gs,dr,tk,os⟩) m ys:=i3
   wp_walk using wpAny_pyIter_tuple a1,wpAny_pyIter_list a2
   exact⟨_,rfl,hyp⟩
  ·have a1:Heap.IsTuple (Shared.heap ⟨hp,gs,dr,tk,os⟩) l xs:=i1
   have a2:Heap.IsTuple (Shared.heap ⟨hp.push {cls:=.type "tuple_iterator",data:=.fields #[.ref l,.int 0 0]},gs,dr,tk,os⟩) m ys:=i3
   wp_walk using wpAny_pyIter_tuple a1,wpAny_pyIter_tuple a2
   exact⟨_,rfl,hyp⟩
section
variable{prog:Program}{w:World}{A:Around}{E:Value->Shared->Prop}{s:Shared}
theorem X0{h h':Heap}{b:Bool}{l j:Addr}{its:Array Value}(q:MH h b l its)(k:∀c o,h.get? c=some o->h'.get? c=some o)(e:h'.get? j=some {cls:=.type (dH b),data:=.fields #[.ref l,.int 0 0]}):SIt h' j l 0 its:=by
 cases b
 ·exact .inl ⟨⟨_,e,rfl,rfl⟩,(show h.IsList l its from q).at fun o z=>k _ o z⟩
 ·exact .inr ⟨⟨_,e,rfl,rfl⟩,let⟨o,z,r⟩:=(show h.IsTuple l its from q);⟨o,k _ o z,r⟩⟩
theorem R0{b c:Bool}{l m:Addr}{xs ys:Array Value}{Q:Value->Shared->Prop}(i1:MH s.heap b l xs)(i2:MH s.heap c m ys)
  (k:∀h',IsZip h' (s.heap.objs.size+4) (s.heap.objs.size+2) (s.heap.objs.size+3) .none->IsPair h' (s.heap.objs.size+2) (.ref s.heap.objs.size) (.ref (s.heap.objs.size+1))->
   IsPair h' (s.heap.objs.size+3) .none .none->SIt h' s.heap.objs.size l 0 xs->SIt h' (s.heap.objs.size+1) m 0 ys->(∀c o,s.heap.get? c=some o->h'.get? c=some o)->Q (.ref (s.heap.objs.size+4)) {s with heap:=h'}):
  wpAny (model prog w) A (call (.type "zip") [.ref l,.ref m]) Q E s:=by
 refine callType_new F.called_zip (by decide) (F.typeCall_zip_2 _ _) (F.newCall_zip_2 _ _) (fun obj=>F.args_object_init_3 obj _ _) F.entry_zip_new (XG b c l m xs ys) ⟨i1,i2,?_⟩
 have z1:(zh1 s.heap b l).objs.size=s.heap.objs.size+1:=Heap.size_push ..
 have z2:(zh2 s.heap b c l m).objs.size=s.heap.objs.size+2:=by unfold zh2 zh1;rw[Heap.size_push];exact congrArg (· +1) z1
 have z3:(zh3 s.heap b c l m).objs.size=s.heap.objs.size+3:=by unfold zh3;rw[Heap.size_push,z2]
 have z4:(zh4 s.heap b c l m).objs.size=s.heap.objs.size+4:=by unfold zh4;rw[Heap.size_push,z3]
 have kp:∀d o,s.heap.get? d=some o->(zh5 s.heap b c l m).get? d=some o:=fun d o e=>by
  unfold zh5 zh4 zh3 zh2 zh1
  exact Heap.get?_push_of_some _ (Heap.get?_push_of_some _ (Heap.get?_push_of_some _ (Heap.get?_push_of_some _ (Heap.get?_push_of_some _ e))))
 have g5:(zh5 s.heap b c l m).get? (zh4 s.heap b c l m).objs.size=some _:=Heap.get?_push_size _ rfl
 have g4:(zh5 s.heap b c l m).get? (zh3 s.heap b c l m).objs.size=some _:=Heap.get?_push_of_some _ (Heap.get?_push_size _ rfl)
 have g3:(zh5 s.heap b c l m).get? (zh2 s.heap b c l m).objs.size=some _:=Heap.get?_push_of_some _ (Heap.get?_push_of_some _ (Heap.get?_push_size _ rfl))
 have g2:(zh5 s.heap b c l m).get? (zh1 s.heap b l).objs.size=some _:=Heap.get?_push_of_some _ (Heap.get?_push_of_some _ (Heap.get?_push_of_some _ (Heap.get?_push_size _ rfl)))
 have g1:(zh5 s.heap b c l m).get? s.heap.objs.size=some _:=Heap.get?_push_of_some _ (Heap.get?_push_of_some _ (Heap.get?_push_of_some _ (Heap.get?_push_of_some _ (Heap.get?_push_size _ rfl))))
 show _/\_
 rw[z2,z3,z4]at g5
 rw[z1,z2]at g3
 rw[z3]at g4
 rw[z1]at g2
 rw[z4]
 exact⟨⟨_,g5,rfl⟩,k _ g5 g3 g4 (X0 i1 kp g1) (X0 i2 kp g2) kp⟩
end
end L2
end
noncomputable section
namespace L2
open PySem PySem.Spec PyProof.Rows
def SqB(K:PySem.W.Frag)(H:Hp)(k:Bool)(a:Addr)(xs:List V):Prop:=match k with|true=>SqT K H a xs|false=>SqL K H a xs
def JIt(h:Heap)(k:Bool)(j l:Addr)(i:Nat):Prop:=match k with|true=>h.IsTupleIter j l i|false=>h.IsListIter j l i
theorem JIt.at{h h':Heap}{k:Bool}{j l:Addr}{i:Nat}(q:JIt h k j l i)(e:∀o,h.get? j=some o->h'.get? j=some o):JIt h' k j l i:=by
 cases k
 ·exact Heap.IsListIter.at q e
 ·exact Heap.IsTupleIter.at q e
theorem JIt.sit{h:Heap}{k:Bool}{j l:Addr}{i:Nat}{its:Array Value}(q:JIt h k j l i)(p:MH h k l its):SIt h j l i its:=by
 cases k
 ·exact .inl ⟨q,p⟩
 ·exact .inr ⟨q,p⟩
theorem SIt.jit{h:Heap}{k:Bool}{j l:Addr}{i:Nat}{its:Array Value}(q:SIt h j l i its)(p:MH h k l its):JIt h k j l i:=by
 rcases q with⟨q,r⟩|⟨q,r⟩
 ·cases k
  ·exact q
  ·obtain⟨o,e,c,_⟩:=r;obtain⟨o',e',c',_⟩:=(show h.IsTuple l its from p)
   rw[e]at e';cases e';rw[c]at c';injection c' with z;exact absurd z (by decide)
 ·cases k
  ·obtain⟨o,e,c,_⟩:=r;obtain⟨o',e',c',_⟩:=(show h.IsList l its from p)
   rw[e]at e';cases e';rw[c]at c';injection c' with z;exact absurd z (by decide)
  ·exact q
theorem Inv.sqB{X:Cx}{pins:List (Addr×Obj)}{σ:St}{H:Hp}{s:Shared}{k:Bool}{a:Addr}{xs:List V}(I:Inv X pins σ H s)(h:SqB X.K H k a xs):∃its:List Value,Vals xs its/\MH s.heap k a its.toArray:=by
 cases k
 ·obtain⟨its,h1,⟨o,n,q1,q2,_,q3⟩,h3⟩:=I.list h
  exact⟨its,h1,o,q1,q2,n,q3⟩
 ·obtain⟨its,h1,h2,h3⟩:=I.tuple h
  exact⟨its,h1,h2⟩
theorem Inv.sqB_inj{X:Cx}{pins:List (Addr×Obj)}{σ:St}{H:Hp}{s:Shared}{k:Bool}{a:Addr}{xs ys:List V}(I:Inv X pins σ H s)(h:SqB X.K H k a xs)(g:SqB X.K H k a ys):xs=ys:=by
 cases k
 ·exact I.list_inj h g
 ·exact I.tuple_inj h g
noncomputable def Itz(K:PySem.W.Frag)(k:Bool)(a:Addr)(m:Bool)(b:Addr):It:=
  ⟨fun i H=>∃(xs ys:List V) (x y:V),SqB K H k a xs/\SqB K H m b ys/\xs[i]?=some x/\ys[i]?=some y,
   fun i H v H'=>∃(p:Addr) (x y:V),H p=none/\v=.ref p/\(∀xs,SqB K H k a xs->xs[i]?=some x)/\(∀ys,SqB K H m b ys->ys[i]?=some y)/\H'=upd H p (.tup [x,y]),
   fun i H=>∃(xs ys:List V),SqB K H k a xs/\SqB K H m b ys/\(xs.length≤i∨ys.length≤i)⟩
structure ZSt(h:Heap)(z ti tt j1 j2:Addr)(k:Bool)(a:Addr)(m:Bool)(b:Addr)(i:Nat):Prop where
 oz:IsZip h z ti tt .none
 oi:IsPair h ti (.ref j1) (.ref j2)
 ot:∃u v,IsPair h tt u v
 q1:JIt h k j1 a i
 q2:JIt h m j2 b i
structure ZNe(z ti tt j1 j2:Addr):Prop where
 n1:ti≠z
 n2:tt≠z
 n3:j1≠z
 n4:j2≠z
 n5:ti≠tt
 n6:ti≠j1
 n7:ti≠j2
 n8:tt≠j1
 n9:tt≠j2
 n10:j1≠j2
theorem ZNe.apart{z ti tt j1 j2 a b:Addr}(N:ZNe z ti tt j1 j2)(ha:a∉ [z,tt,j1,j2])(hb:b∉ [z,tt,j1,j2]):ZipApart z ti tt j1 j2 a b:=by
 simp only[List.mem_cons,List.not_mem_nil,or_false,not_or]at ha hb
 exact⟨N.n1,N.n2,N.n3,N.n4,N.n5,N.n6,N.n7,N.n8,N.n9,N.n10,ha.1,ha.2.1,ha.2.2.1,ha.2.2.2,hb.1,hb.2.1,hb.2.2.1,hb.2.2.2⟩
theorem Bd{X:Cx}{pins:List (Addr×Obj)}{σ:St}{H:Hp}{s:Shared}{k:Bool}{a c:Addr}{xs:List V}(I:Inv X pins σ H s)(q:SqB X.K H k a xs)(f:Pq X pins H c):a≠c:=by
 intro e
 subst e
 have rd:∀o,Rd H a o->False:=fun o r=>by
  rcases r with r|⟨_,r⟩<;>(rw[f.1]at r;cases r)
 have kk:∀o,X.K.lookup a=some o->False:=fun o hk=>by
  have b:=I.ok.mod.kin a o hk
  rcases f.2.2.2.1 with z|z
  ·exact I.ok.noex a o b z
  ·exact absurd (Nat.lt_of_lt_of_le (Heap.lt_size (I.ok.bs a o b).1) z) (Nat.lt_irrefl _)
 cases k
 ·rcases(show SqL X.K H a xs from q)with q|⟨o,_,_,hk,_⟩
  ·exact rd _ q
  ·exact kk o hk
 ·rcases(show SqT X.K H a xs from q)with q|⟨o,_,_,hk,_⟩
  ·exact rd _ q
  ·exact kk o hk
theorem XC{P:Program}{w:World}{K:PySem.W.Frag}{elts:List Expr}{n:Nat}{pos:Pos}(k:Bool)(a:Addr)(m:Bool)(b:Addr)(z ti tt j1 j2:Addr)(N:ZNe z ti tt j1 j2):
  Turn P w K (.Tuple elts n pos) (Itz K k a m b) [z,ti,tt,j1,j2] z (fun i h=>ZSt h z ti tt j1 j2 k a m b i) where
 mem:=by simp
 obj := fun i h st c hc => by
  have jl:∀{q:Bool} {j l:Addr},JIt h q j l i->∃o,h.get? j=some o/\∀v,o.data≠.cell v:=fun{q j l} x=>by
   cases q
   ·obtain⟨o,e,_,d⟩:=(show h.IsListIter j l i from x)
    exact⟨o,e,fun v z=>by rw[d]at z;cases z⟩
   ·obtain⟨o,e,_,d⟩:=(show h.IsTupleIter j l i from x)
    exact⟨o,e,fun v z=>by rw[d]at z;cases z⟩
  simp only[List.mem_cons,List.not_mem_nil,or_false]at hc
  rcases hc with rfl|rfl|rfl|rfl|rfl
  ·exact⟨_,st.oz,fun v z=>nomatch z⟩
  ·exact⟨_,st.oi,fun v z=>nomatch z⟩
  ·obtain⟨u,v,e⟩:=st.ot
   exact⟨_,e,fun v z=>nomatch z⟩
  ·exact jl st.q1
  ·exact jl st.q2
 keep:=fun i h h' st kp=>⟨kp z (by simp) _ st.oz,kp ti (by simp) _ st.oi,let⟨u,v,e⟩:=st.ot;⟨u,v,kp tt (by simp) _ e⟩,st.q1.at fun o e=>kp j1 (by simp) o e,st.q2.at fun o e=>kp j2 (by simp) o e⟩
 item := by
  intro X hP hw hK hc i pins s σ H E I hf st hg
  subst hP hw hK
  obtain⟨xs,ys,x,y,s1,s2,e1,e2⟩:=hg
  obtain⟨i1,r1,p1⟩:=I.sqB s1
  obtain⟨i2,r2,p2⟩:=I.sqB s2
  obtain⟨u1,h1,ru1⟩:=r1.get e1
  obtain⟨u2,h2,ru2⟩:=r2.get e2
  have fz:=hf z (by simp);have fi:=hf ti (by simp);have ft:=hf tt (by simp);have f1:=hf j1 (by simp);have f2:=hf j2 (by simp)
  have ap:=N.apart (a:=a) (b:=b) (by simp[Bd I s1 fz,Bd I s1 ft,Bd I s1 f1,Bd I s1 f2]) (by simp[Bd I s2 fz,Bd I s2 ft,Bd I s2 f1,Bd I s2 f2])
  obtain⟨v1,v2,ot⟩:=st.ot
  refine Q4 ap st.oz st.oi ot (st.q1.sit p1) (st.q2.sit p2) (x:=u1) (y:=u2) (by simpa using h1) (by simpa using h2) fun h' oz ot' q1 q2 op kp=>⟨_,rfl,wpAny_letOwnedTupleGo_zip oz fun g oz' sb=>?_⟩
  have lt:∀c o,s.heap.get? c=some o->c≠s.heap.objs.size:=fun c o q=>Nat.ne_of_lt (Heap.lt_size q)
  have nz:z≠s.heap.objs.size:=lt _ _ st.oz
  have nt:tt≠s.heap.objs.size:=lt _ _ ot
  have n1:j1≠s.heap.objs.size:=by obtain⟨o,e,_⟩:=(st.q1.sit p1).live;exact lt _ _ e
  have n2:j2≠s.heap.objs.size:=by obtain⟨o,e,_⟩:=(st.q2.sit p2).live;exact lt _ _ e
  have kp2:∀c o,c≠z->c≠tt->c≠j1->c≠j2->s.heap.get? c=some o->g.get? c=some o:=fun c o c1 c2 c3 c4 q=>(sb.2 c c1).trans (kp c o c1 c2 c3 c4 q)
  have fr:H s.heap.objs.size=none:=I.hok.fresh (Nat.le_refl _)
  have op2:g.get? s.heap.objs.size=some {cls:=.type "tuple",data:=.seq #[u1,u2]}:=(sb.2 _ (Ne.symm nz)).trans op
  have ne:∀c u,c∈ [z,ti,tt,j1,j2]->∀d,H d=some u->d≠c:=fun c u hc d q e=>by rw[e,(hf c hc).1]at q;cases q
  have kpH:∀c u,H c=some u->∀o,s.heap.get? c=some o->g.get? c=some o:=fun c u q o e=>kp2 c o (ne z u (by simp) c q) (ne tt u (by simp) c q) (ne j1 u (by simp) c q) (ne j2 u (by simp) c q) e
  have ka:∀o,s.heap.get? a=some o->g.get? a=some o:=fun o e=>kp2 a o (Bd I s1 fz) (Bd I s1 ft) (Bd I s1 f1) (Bd I s1 f2) e
  have kb:∀o,s.heap.get? b=some o->g.get? b=some o:=fun o e=>kp2 b o (Bd I s2 fz) (Bd I s2 ft) (Bd I s2 f1) (Bd I s2 f2) e
  have sq:∀{q:Bool} {d:Addr} {is:Array Value},MH s.heap q d is->(∀o,s.heap.get? d=some o->h'.get? d=some o)->MH h' q d is:=fun{q d is} x kd=>by
   cases q
   ·exact(show s.heap.IsList d is from x).at kd
   ·obtain⟨o,e,r⟩:=(show s.heap.IsTuple d is from x)
    exact⟨o,kd o e,r⟩
  have ka1:∀o,s.heap.get? a=some o->h'.get? a=some o:=fun o e=>kp a o (Bd I s1 fz) (Bd I s1 ft) (Bd I s1 f1) (Bd I s1 f2) e
  have kb1:∀o,s.heap.get? b=some o->h'.get? b=some o:=fun o e=>kp b o (Bd I s2 fz) (Bd I s2 ft) (Bd I s2 f1) (Bd I s2 f2) e
  refine⟨.ref s.heap.objs.size,upd H s.heap.objs.size (.tup [x,y]),?_,rfl,⟨_,x,y,fr,rfl,fun zs hz=>by rw[I.sqB_inj hz s1];exact e1,fun zs hz=>by rw[I.sqB_inj hz s2];exact e2,rfl⟩,⟨oz',(sb.2 _ N.n1).trans (kp ti _ N.n1 N.n5 N.n6 N.n7 st.oi),⟨_,_,(sb.2 _ N.n2).trans ot'⟩,(q1.jit (sq p1 ka1)).at fun o e=>(sb.2 _ N.n3).trans e,(q2.jit (sq p2 kb1)).at fun o e=>(sb.2 _ N.n4).trans e⟩,?_⟩
  ·show Inv X pins σ _ {s with heap:=g,gens:=s.gens,drawn:=s.drawn,toks:=s.toks}
   refine I.step (g':=s.gens) (d':=s.drawn) (ch:=[z,tt,j1,j2]) ?_ ?_ ?_ ?_ ?_ ?_ ?_ ?_ ?_ ?_ I.bare
   ·intro c hc
    have q:Pq X pins H c:=hf c (by simp only[List.mem_cons,List.not_mem_nil,or_false]at hc ⊢; rcases hc with z|z|z|z<;>simp[z])
    exact⟨q.2.2.2.1,q.2.1,q.2.2.2.2.1,q.2.2.2.2.2⟩
   ·exact fun c o _ _ hc q _=>by
     simp only[List.mem_cons,List.not_mem_nil,or_false,not_or]at hc
     exact kp2 c o hc.1 hc.2.1 hc.2.2.1 hc.2.2.2 q
   ·exact fun c o _ _ hc q _=>by
     simp only[List.mem_cons,List.not_mem_nil,or_false,not_or]at hc
     exact⟨o.slots,kp2 c o hc.1 hc.2.1 hc.2.2.1 hc.2.2.2 q⟩
   ·exact fun c o _ q n=>by rw[As (lt c o q)];exact n
   ·exact fun c o hc q=>by
     simp only[List.mem_cons,List.not_mem_nil,or_false,not_or]at hc
     exact⟨o,kp2 c o hc.1 hc.2.1 hc.2.2.1 hc.2.2.2 q⟩
   ·exact fun c ys q=>by rw[As (BW q fr)];exact q
   ·exact fun c o u q=>by rw[As (BW q fr)];exact q
   ·exact fun c ps q=>⟨#[],by rw[As (BW q fr),q];simp⟩
   ·rintro mm ⟨o,es,ep,ho,r⟩
    exact⟨o,es,ep,kp2 _ o (Ne.symm fz.2.1) (Ne.symm ft.2.1) (Ne.symm f1.2.1) (Ne.symm f2.2.1) ho,r⟩
   ·intro c v q
    by_cases hb:c=s.heap.objs.size
    ·subst hb
     rw[BV]at q
     cases q
     exact⟨by show 2≤sizeLine;decide,[u1,u2],.cons ru1 (.cons ru2 .nil),⟨_,op2,rfl,0,rfl⟩⟩
    ·rw[As hb]at q
     refine(I.hok c v q).stay (fun d o hd r=>?_) (fun d r=>by rw[As (BW r fr)];exact r) (fun d ys r=>by rw[As (BW r fr)];exact r)
     rcases hd with e|e
     ·rw[e]at r ⊢; exact kpH c v q o r
     ·exact kpH d _ e o r
  ·intro c hc
   have q:=hf c hc
   have:c≠s.heap.objs.size:=by
    simp only[List.mem_cons,List.not_mem_nil,or_false]at hc
    rcases hc with e|e|e|e|e
    ·rw[e];exact nz
    ·rw[e];exact lt _ _ st.oi
    ·rw[e];exact nt
    ·rw[e];exact n1
    ·rw[e];exact n2
   rw[As this];exact q.1
 done:=by
  intro X hP hw hK hc i pins s σ H E I hf st hg
  subst hP hw hK
  obtain⟨xs,ys,s1,s2,e⟩:=hg
  obtain⟨i1,r1,p1⟩:=I.sqB s1
  obtain⟨i2,r2,p2⟩:=I.sqB s2
  have l1:=r1.length
  have l2:=r2.length
  have hh:X.A.in1.handled=none:=I.ok.hd hc
  have hh0:X.A.handled=none:=I.ok.hd hc
  have fz:=hf z (by simp);have fi:=hf ti (by simp);have ft:=hf tt (by simp);have f1:=hf j1 (by simp);have f2:=hf j2 (by simp)
  have ap:=N.apart (a:=a) (b:=b) (by simp[Bd I s1 fz,Bd I s1 ft,Bd I s1 f1,Bd I s1 f2]) (by simp[Bd I s2 fz,Bd I s2 ft,Bd I s2 f1,Bd I s2 f2])
  obtain⟨v1,v2,ot⟩:=st.ot
  refine SE hh0 ap st.oz st.oi ot (st.q1.sit p1) (st.q2.sit p2) (by rcases e with e|e;exact .inl (by simp;omega);exact .inr (by simp;omega)) fun h' kp=>⟨rfl,?_⟩
  have ne:∀c u,c∈ [z,ti,tt,j1,j2]->∀d,H d=some u->d≠c:=fun c u hc d q e=>by rw[e,(hf c hc).1]at q;cases q
  show Inv X pins σ _ {s with heap:=h',gens:=s.gens,drawn:=s.drawn,toks:=s.toks}
  refine I.step (g':=s.gens) (d':=s.drawn) (ch:=[z,tt,j1,j2]) ?_ ?_ ?_ ?_ ?_ ?_ ?_ ?_ ?_ ?_ I.bare
  ·intro c hc
   have q:Pq X pins H c:=hf c (by simp only[List.mem_cons,List.not_mem_nil,or_false]at hc ⊢; rcases hc with z|z|z|z<;>simp[z])
   exact⟨q.2.2.2.1,q.2.1,q.2.2.2.2.1,q.2.2.2.2.2⟩
  ·exact fun c o _ _ hc q _=>by
    simp only[List.mem_cons,List.not_mem_nil,or_false,not_or]at hc
    exact kp c o hc.1 hc.2.1 hc.2.2.1 hc.2.2.2 q
  ·exact fun c o _ _ hc q _=>by
    simp only[List.mem_cons,List.not_mem_nil,or_false,not_or]at hc
    exact⟨o.slots,kp c o hc.1 hc.2.1 hc.2.2.1 hc.2.2.2 q⟩
  ·exact fun c o _ q n=>n
  ·exact fun c o hc q=>by
    simp only[List.mem_cons,List.not_mem_nil,or_false,not_or]at hc
    exact⟨o,kp c o hc.1 hc.2.1 hc.2.2.1 hc.2.2.2 q⟩
  ·exact fun c ys q=>q
  ·exact fun c o u q=>q
  ·exact fun c ps q=>⟨#[],by rw[q];simp⟩
  ·rintro mm ⟨o,es,ep,ho,r⟩
   exact⟨o,es,ep,kp _ o (Ne.symm fz.2.1) (Ne.symm ft.2.1) (Ne.symm f1.2.1) (Ne.symm f2.2.1) ho,r⟩
  ·intro c v q
   refine(I.hok c v q).stay (fun d o hd r=>?_) (fun d r=>r) (fun d ys r=>r)
   rcases hd with e|e
   ·rw[e]at r ⊢; exact kp c o (ne z v (by simp) c q) (ne tt v (by simp) c q) (ne j1 v (by simp) c q) (ne j2 v (by simp) c q) r
   ·exact kp d o (ne z _ (by simp) d e) (ne tt _ (by simp) d e) (ne j1 _ (by simp) d e) (ne j2 _ (by simp) d e) r
 self:=fun _ _ _ _ _ st h=>wpAny_pyIter_zip st.oz h
end L2
end
noncomputable section
namespace L2
open PySem PySem.Spec PyProof.Rows
theorem zne(n:Nat):ZNe (n+4) (n+2) (n+3) n (n+1):=⟨fun e=>by have:n+2=n+4:=e;omega,fun e=>by have:n+3=n+4:=e;omega,fun e=>by have:n=n+4:=e;omega,fun e=>by have:n+1=n+4:=e;omega,fun e=>by have:n+2=n+3:=e;omega,fun e=>by have:n+2=n:=e;omega,fun e=>by have:n+2=n+1:=e;omega,fun e=>by have:n+3=n:=e;omega,fun e=>by have:n+3=n+1:=e;omega,fun e=>by have:n=n+1:=e;omega⟩
section
variable{X:Cx}
noncomputable def kC(K:PySem.W.Frag)(ta:TA):TI:=fun σ H R=>ta σ H fun vs H1=>∃k a m b,vs=[.ref a,.ref b]/\(∃xs,SqB K H1 k a xs)/\(∃ys,SqB K H1 m b ys)/\R (Itz K k a m b) H1
theorem du{a b:Expr}{ta:TA}{p pos tp:Pos}{elts:List Expr}{n:Nat}(hg:Gl X "zip")(hm:X.mg "zip"=none)(ha:PA X [a,b] ta)(hs:starEach [a,b] X.env=[(false,eval a X.env),(false,eval b X.env)]:=by rfl)(hs2:starEach [b] X.env=[(false,eval b X.env)]:=by rfl):
  PI X (.Tuple elts n tp) (.Call (.Name "zip" p) [a,b] [] pos) (kC X.K ta):=by
 intro pins s σ H R I h
 refine Call_ (MZ I hg hm boot_zip (PyProof.Rows.callWith_type1 (thn (ha pos pins s σ H _ I h) fun us s1 ⟨vs,H1,I1,r1,q1⟩=>?_) (by rw[hs,hs2]) (by rw[hs2];rfl)))
 obtain⟨k,a',m,b',e,⟨xs,hq⟩,⟨ys,hr⟩,q⟩:=q1
 subst e
 obtain⟨u,v,rfl,ru,rv⟩:=r1.two
 cases (show u=Value.ref a' from ru)
 cases (show v=Value.ref b' from rv)
 obtain⟨i1,v1,p1⟩:=I1.sqB hq
 obtain⟨i2,v2,p2⟩:=I1.sqB hr
 refine R0 p1 p2 fun h' oz oi ot q1 q2 kp=>wpAny_pyIter_zip (s:={s1 with heap:=h'}) oz ?_
 have sq:∀{q:Bool} {d:Addr} {is:Array Value},MH s1.heap q d is->MH h' q d is:=fun{q d is} x=>by
  cases q
  ·exact(show s1.heap.IsList d is from x).at fun o e=>kp _ o e
  ·obtain⟨o,e,r⟩:=(show s1.heap.IsTuple d is from x)
   exact⟨o,kp _ o e,r⟩
 refine⟨s1.heap.objs.size+4,[s1.heap.objs.size+4,s1.heap.objs.size+2,s1.heap.objs.size+3,s1.heap.objs.size,s1.heap.objs.size+1],_,_,H1,rfl,I1.kept (t':=s1.toks) kp,
  XC k a' m b' _ _ _ _ _ (zne s1.heap.objs.size),⟨oz,oi,⟨_,_,ot⟩,q1.jit (sq p1),q2.jit (sq p2)⟩,fun c hc=>?_,q⟩
 simp only[List.mem_cons,List.not_mem_nil,or_false]at hc
 have:s1.heap.objs.size≤c:=by rcases hc with rfl|rfl|rfl|rfl|rfl<;>first|exact Nat.le_refl _|exact Nat.le_add_right _ _
 exact I1.fpOk this (I1.hok.fresh this)
end
end L2
end
noncomputable section
namespace L2
open PySem PySem.Spec PyProof.Rows
section
variable{prog:Program}{w:World}{A:Around}{E:Value->Shared->Prop}{s:Shared}
theorem IsList.at_ext{h h':Heap}{a:Addr}{items:Array Value}(p:h.IsList a items)(k:∀o,h.get? a=some o->h'.get? a=some o):h'.IsList a items:=by
 obtain⟨o,ho,r⟩:=p
 exact⟨o,k o ho,r⟩
theorem OY{it t:Addr}{items:Array Value}(hne:t≠it):∀(n i:Nat) (s:Shared) (Q:List Value->Shared->Prop),s.heap.IsListIter it t i->s.heap.IsList t items->i+n≤items.size->
    (∀h',h'.IsListIter it t (i+n)->Heap.SameBut it s.heap h'->Q ((items.toList.drop i).take n) {s with heap:=h'})->wpAny (model prog w) A (draw (.ref it) n) Q E s
  | 0, i, s, Q, hit, _, _, hQ => by
    show wpAny _ _ (pure []) Q E s
    exact wpAny_pure (by simpa using hQ s.heap hit (Heap.SameBut.refl ..))
  | n + 1, i, s, Q, hit, ht, hle, hQ => by
    have hlt:i<items.size:=by omega
    show wpAny _ _ (pyNext (.ref it) >>= _) Q E s
    refine wpAny_bind (wpAny_pyNext_list_item hit ht (x:=items[i]) (by simp[hlt]) fun h1 hit1 hs1=>?_)
    refine wpAny_bind (wpAny_holding (OY hne n (i+1) _ _ hit1 (IsList.at_ext ht fun o e=>hs1.extBut t o hne e) (by omega) fun h2 hit2 hs2=>wpAny_pure ?_))
    have hd:items.toList.drop i=items[i]::items.toList.drop (i+1):=by simp[List.drop_eq_getElem_cons,hlt]
    have:=hQ h2 (by rw[show i+(n+1)=i+1+n by omega];exact hit2) (hs1.trans hs2)
    rw[hd,List.take_succ_cons]at this
    exact this
theorem Kb{t:Addr}{items:Array Value}{Q:List Value->Shared->Prop}(hh:A.handled=none)(ht:s.heap.IsList t items)(hty:s.TypeIs (.ref t) "list")
  (hQ:∀h',Heap.ExtBut s.heap.objs.size s.heap h'->Q items.toList {s with heap:=h'}):wpAny (model prog w) A (unpackItems (.ref t) items.size none) Q E s:=by
 have hlt:t≠s.heap.objs.size:=by obtain⟨o,ho,_⟩:=ht;exact Nat.ne_of_lt (Heap.lt_size ho)
 unfold unpackItems
 refine wpAny_bind ?_
 ·unfold notIterableAtAll
  refine wpAny_bind (wpAny_specialOf hty F.slot_list_iter.lookup ?_)
  refine wpAny_pure ?_
  simp only[Bool.false_eq_true,if_false]
  refine wpAny_bind (wpAny_holding (wpAny_pyIter_list ht ?_))
  refine wpAny_bind (wpAny_holding (OY hlt items.size 0 _ _ ⟨_,Heap.get?_push_size _ rfl,rfl,rfl⟩ (IsList.at_ext ht fun o e=>Heap.get?_push_of_some _ e) (by omega) fun h1 hit1 hs1=>?_))
  have hall:List.take items.size (List.drop 0 items.toList)=items.toList:=by
   rw[List.drop_zero];exact List.take_of_length_le (by simp)
  rw[hall]
  rw[if_neg (by simp)]
  have ht1:h1.IsList t items:=IsList.at_ext (IsList.at_ext ht fun o e=>Heap.get?_push_of_some _ e) fun o e=>hs1.extBut t o hlt e
  refine wpAny_bind (wpAny_holding (wpAny_pyNext_list_end hh hit1 ht1 (by simp) fun h2 he2=>?_))
  simp only[Option.isSome_none,Bool.false_eq_true,if_false]
  refine wpAny_pure (hQ h2 fun b o hb e=>he2 b o hb (hs1.extBut b o hb (Heap.get?_push_of_some _ e)))
theorem Jq{env:Env}{elts:List Expr}{x1}{pos:Pos}{t:Addr}{items:Array Value}{Q:Unit->Shared->Prop}(hh:A.handled=none)(ht:s.heap.IsList t items)(hty:s.TypeIs (.ref t) "list")
  (hn:(assignEach elts env).length=items.size) (hstar:(assignEach elts env).findIdx? (·.1)=none)
  (h:∀h',Heap.ExtBut s.heap.objs.size s.heap h'->wpAny (model prog w) A (assignInOrder ((assignEach elts env).map (·.2)) items.toList) Q E {s with heap:=h'}):
  wpAny (model prog w) A (assign (.Tuple elts x1 pos) env (.ref t)) Q E s:=by
 rw[PyProof.Rows.assign_Tuple]
 refine wpAny_bind (wpAny_standAt ?_)
 unfold unpack
 rw[hn,hstar]
 exact wpAny_bind (wpAny_holding (Kb hh ht hty h))
end
section
variable{X:Cx}{pos:Pos}
noncomputable def j6(K:PySem.W.Frag)(n:Nat)(t:TGs):TG:=fun v σ H Q=>∃a xs,v=.ref a/\(SqT K H a xs∨H a=some (.lst xs))/\xs.length=n/\t xs σ H Q
theorem da{es:List Expr}{k:Nat}{t:TGs}{n:Nat}(hc:X.calm=true)(h:PGs X es t)
  (hn:(assignEach es X.env).length=n:=by rfl) (hst:(assignEach es X.env).findIdx? (·.1)=none:=by rfl):PG X (.Tuple es k pos) (j6 X.K n t):=by
 intro pins s σ H v u Q I r hw
 obtain⟨a,xs,e1,hq,hl,hw⟩:=hw
 rcases hq with hq|hq
 ·exact bE hc h hn hst pins s σ H v u Q I r ⟨a,xs,e1,hq,hl,hw⟩
 ·subst e1
  cases r
  obtain⟨its,rv,p,hz⟩:=I.list (SqL.of hq)
  obtain⟨z,its2,m,rv2,_,e⟩:=I.lstM hq
  refine Jq (I.ok.hd hc) p.isList ⟨_,e,rfl⟩ (by simp[hn,←hl,rv.length]) hst fun h' hx=>?_
  have I1:Inv X pins σ H {s with heap:=h'}:=I.kept (t':=s.toks) fun b o e=>hx b o (Nat.ne_of_lt (Heap.lt_size e)) e
  exact h pins _ σ H xs _ Q I1 (by simpa using rv) hw
end
end L2
end
noncomputable section
namespace L2
open PySem PySem.Spec PyProof.Rows
theorem JIt.live{h:Heap}{k:Bool}{j l:Addr}{i:Nat}(q:JIt h k j l i):∃o,h.get? j=some o/\∀v,o.data≠.cell v:=by
 cases k with
 |true=>obtain⟨o,e,c,d⟩:=q;exact⟨o,e,fun v z=>by rw[d]at z;cases z⟩
 |false=>obtain⟨o,e,c,d⟩:=q;exact⟨o,e,fun v z=>by rw[d]at z;cases z⟩
theorem MH.mono{h h':Heap}{k:Bool}{l:Addr}{its:Array Value}(q:MH h k l its)(e:∀o,h.get? l=some o->h'.get? l=some o):MH h' k l its:=by
 cases k with
 |true=>obtain⟨o,ho,r⟩:=q;exact⟨o,e o ho,r⟩
 |false=>obtain⟨o,ho,r⟩:=q;exact⟨o,e o ho,r⟩
theorem Tv{prog:Program}{w:World}{A:Around}(hh:A.handled=none)(it t:Addr)(hne:t≠it)(items:Array Value):
  Draws prog w A it [it,t] items.size (fun i v=>items[i]?=some v) (fun i h=>SIt h it t i items) where
 live:=fun _ _ st=>let⟨o,ho,_⟩:=st.live;⟨o,ho⟩
 frame:=fun _ _ _ st hk=>st.at (fun o e=>hk it (by simp) o e) fun o e=>hk t (by simp) o e
 item:=fun i s Q E hi st hQ=>Kt st (x:=items[i]) (by simp[hi]) fun h' a b=>hQ _ h' s.toks (by simp[hi]) a b
 done:=fun s Q E st hE=>Kk hh st (by simp) hE
noncomputable def ItE(K:PySem.W.Frag)(kk:Bool)(a:Addr):It:=
 ⟨fun i H=>∃xs x,SqB K H kk a xs/\xs[i]?=some x,fun i H x H'=>∃p y,H p=none/\x=.ref p/\(∀xs,SqB K H kk a xs->xs[i]?=some y)/\H'=upd H p (.tup [.int i,y]),fun i H=>∃xs,SqB K H kk a xs/\xs.length≤i⟩
theorem RG {P : Program} {w : World} {K : PySem.W.Frag} {elts : List Expr} {k : Nat} {pos : Pos} (kk : Bool) (a e it : Addr) (hei : e ≠ it) : Turn P w K (.Tuple elts k pos) (ItE K kk a) [e, it] e (fun i h => (∃ old, IsEnum h e it i old) /\ JIt h kk it a i) where
  mem:=by simp
  obj:=fun i h st b hb=>by
    obtain⟨⟨old,h1⟩,st2⟩:=st
    obtain⟨o,h2,h4⟩:=st2.live
    simp only[List.mem_cons,List.not_mem_nil,or_false]at hb
    rcases hb with rfl|rfl
    ·exact⟨_,h1,fun v z=>nomatch z⟩
    ·exact⟨o,h2,h4⟩
  keep:=fun i h h' st k=>by
    obtain⟨⟨old,h1⟩,h2⟩:=st
    exact⟨⟨old,k e (by simp) _ h1⟩,h2.at fun o q=>k it (by simp) o q⟩
  item := by
    intro X hP hw hK hc i pins s σ H E I hf st hg
    subst hP hw hK
    obtain⟨xs,x,hq,hx⟩:=hg
    obtain⟨its,rv,p⟩:=I.sqB hq
    obtain⟨u,hu,ru⟩:=rv.get hx
    obtain⟨⟨old,h1⟩,h2⟩:=st
    obtain⟨oi,hi1,hi2⟩:=h2.live
    have hea:a≠e:=Bd I hq (hf e (by simp))
    have hia:a≠it:=Bd I hq (hf it (by simp))
    have hil:i<its.toArray.size:=by
      have:=(List.getElem?_eq_some_iff.mp hu).1
      simpa using this
    have hh:X.A.in1.handled=none:=I.ok.hd hc
    have D:=Tv (prog:=X.prog) (w:=X.w) hh it a hia its.toArray
    refine wpAny_pyNext_enum_itemD D h1 (h2.sit p) hil hei (by simp[hei,Ne.symm hea]) ?_
    intro y h' tk hy out st' tup size kept
    have ey:y=u:=by
      have:its[i]?=some y:=by simpa using hy
      rw[hu]at this
      exact(Option.some.inj this).symm
    subst ey
    refine⟨_,rfl,wpAny_letOwnedTupleGo_enum out fun h'' en sb=>?_⟩
    have hfe:=hf e (by simp)
    have hfi:=hf it (by simp)
    have lt:∀b o,s.heap.get? b=some o->b≠s.heap.objs.size:=fun b o q=>Nat.ne_of_lt (Heap.lt_size q)
    have kept2:∀b o,b≠e->b≠it->s.heap.get? b=some o->h''.get? b=some o:=fun b o b1 b2 q=>(sb.2 b b1).trans (kept b o b1 b2 q)
    have fr:H s.heap.objs.size=none:=I.hok.fresh (Nat.le_refl _)
    have tup2:h''.get? s.heap.objs.size=some {cls:=.type "tuple",data:=.seq #[.int i tk,y]}:=(sb.2 _ (Ne.symm (lt e _ h1))).trans tup
    have ne1:∀b u,H b=some u->b≠e:=fun b u q z=>by rw[z,hfe.1]at q;cases q
    have ne2:∀b u,H b=some u->b≠it:=fun b u q z=>by rw[z,hfi.1]at q;cases q
    refine⟨.ref s.heap.objs.size,upd H s.heap.objs.size (.tup [.int i,x]),?_,rfl,⟨_,x,fr,rfl,fun ys hys=>by rw[I.sqB_inj hys hq];exact hx,rfl⟩,⟨⟨y,en⟩,?_⟩,?_⟩
    · show Inv X pins σ _ { s with heap := h'', gens := s.gens, drawn := s.drawn, toks := tk + 1 }
      refine I.step (g':=s.gens) (d':=s.drawn) (ch:=[e,it]) ?_ ?_ ?_ ?_ ?_ ?_ ?_ ?_ ?_ ?_ I.bare
      · intro b hb
        simp only[List.mem_cons,List.not_mem_nil,or_false]at hb
        rcases hb with rfl|rfl
        ·exact⟨hfe.2.2.2.1,hfe.2.1,hfe.2.2.2.2.1,hfe.2.2.2.2.2⟩
        ·exact⟨hfi.2.2.2.1,hfi.2.1,hfi.2.2.2.2.1,hfi.2.2.2.2.2⟩
      ·exact fun b o _ _ hc q _=>kept2 b o (fun z=>hc (by simp[z])) (fun z=>hc (by simp[z])) q
      ·exact fun b o _ _ hc q _=>⟨o.slots,kept2 b o (fun z=>hc (by simp[z])) (fun z=>hc (by simp[z])) q⟩
      ·exact fun b o _ q n=>by rw[As (lt b o q)];exact n
      ·exact fun b o hc q=>⟨o,kept2 b o (fun z=>hc (by simp[z])) (fun z=>hc (by simp[z])) q⟩
      ·exact fun b ys q=>by rw[As (BW q fr)];exact q
      ·exact fun b o u q=>by rw[As (BW q fr)];exact q
      ·exact fun b ps q=>⟨#[],by rw[As (BW q fr),q];simp⟩
      · rintro m ⟨o, es, ep, ho, r⟩
        exact⟨o,es,ep,kept2 _ o (Ne.symm hfe.2.1) (Ne.symm hfi.2.1) ho,r⟩
      · intro b v q
        by_cases hb:b=s.heap.objs.size
        · subst hb
          rw[BV]at q
          cases q
          exact⟨by show 2≤sizeLine;decide,[.int i tk,y],.cons ⟨tk,rfl⟩ (.cons ru .nil),⟨_,tup2,rfl,0,rfl⟩⟩
        · rw [As hb] at q
          refine(I.hok b v q).stay (fun c z hc r=>kept2 c z ?_ ?_ r) (fun c r=>by rw[As (BW r fr)];exact r) (fun c ys r=>by rw[As (BW r fr)];exact r)
          · rcases hc with z | z
            ·rw[z];exact ne1 b v q
            ·exact ne1 c _ z
          · rcases hc with z | z
            ·rw[z];exact ne2 b v q
            ·exact ne2 c _ z
    · have pa : MH h'' kk a its.toArray := p.mono fun o q => kept2 a o hea hia q
      exact(st'.at (fun o q=>(sb.2 it (Ne.symm hei)).trans q) fun o q=>(sb.2 a hea).trans q).jit pa
    · intro b hb
      simp only[List.mem_cons,List.not_mem_nil,or_false]at hb
      rcases hb with rfl|rfl
      ·rw[As (lt b _ h1)];exact hfe.1
      ·rw[As (lt b _ hi1)];exact hfi.1
  done := by
    intro X hP hw hK hc i pins s σ H E I hf st hg
    subst hP hw hK
    obtain⟨xs,hq,hx⟩:=hg
    obtain⟨its,rv,p⟩:=I.sqB hq
    obtain⟨⟨old,h1⟩,h2⟩:=st
    have hl:=rv.length
    have hh:X.A.in1.handled=none:=I.ok.hd hc
    obtain⟨f0,f1,f2,f3,f4,f5⟩:=hf it (by simp)
    have D:Draws X.prog X.w X.A.in1 it [it,a] i (fun _ _=>True) (fun j h=>j=i/\SIt h it a i its.toArray):=
      { live := fun _ _ st => let ⟨o, ho, _⟩ := st.2.live; ⟨o, ho⟩
        frame:=fun _ _ _ st hk=>⟨st.1,st.2.at (fun o e=>hk it (by simp) o e) fun o e=>hk a (by simp) o e⟩
        item:=fun j s Q E hj st _=>absurd st.1 (Nat.ne_of_lt hj)
        done:=fun s Q E st hE=>Kk hh st.2 (by simp;omega) hE}
    exact wpAny_pyNext_enum_endD D h1 ⟨rfl,h2.sit p⟩ fun h' eb=>⟨rfl,I.turned (t':=s.toks) (fun b o hb q=>eb b o hb q) f0 f1 f3 f4 f5⟩
  self:=fun _ _ _ _ _ st h=>by
    obtain⟨⟨old,h1⟩,_⟩:=st
    exact wpAny_pyIter_enum h1 h
section
variable{X:Cx}
noncomputable def cD(K:PySem.W.Frag)(ta:TA):TI:=fun σ H R=>ta σ H fun vs H1=>∃kk a,vs=[.ref a]/\(∃xs,SqB K H1 kk a xs)/\R (ItE K kk a) H1
theorem Vo{a:Expr}{ta:TA}{p pos tp:Pos}{elts:List Expr}{k:Nat}(hg:Gl X "enumerate")(hm:X.mg "enumerate"=none)(ha:PA X [a] ta)(hs:starEach [a] X.env=[(false,eval a X.env)]:=by rfl):
  PI X (.Tuple elts k tp) (.Call (.Name "enumerate" p) [a] [] pos) (cD X.K ta):=by
 intro pins s σ H R I h
 refine Call_ (MZ I hg hm boot_enumerate (callWith_type1 (thn (ha pos pins s σ H _ I h) fun us s1 ⟨vs,H1,I1,r1,q1⟩=>?_) hs rfl))
 obtain⟨kk,b,e,⟨xs,hq⟩,q⟩:=q1
 subst e
 obtain⟨u,rfl,ru⟩:=r1.one
 cases (show u=Value.ref b from ru)
 obtain⟨its,rv,pt⟩:=I1.sqB hq
 have fin:∀h':Heap,IsEnum h' (s1.heap.objs.size+1) s1.heap.objs.size 0 .none->JIt h' kk s1.heap.objs.size b 0->(∀b o,s1.heap.get? b=some o->h'.get? b=some o)->wpAny (model X.prog X.w) X.A (pyIter (.ref (s1.heap.objs.size+1))) (PIE X pins σ (.Tuple elts k tp) R) X.xe {s1 with heap:=h'}:=fun h' en it kp=>by
  refine wpAny_pyIter_enum (s:={s1 with heap:=h'}) en ?_
  refine⟨s1.heap.objs.size+1,[s1.heap.objs.size+1,s1.heap.objs.size],_,_,H1,rfl,I1.kept (t':=s1.toks) kp,RG kk b (s1.heap.objs.size+1) s1.heap.objs.size (Nat.succ_ne_self _),⟨⟨_,en⟩,it⟩,fun c hc=>?_,q⟩
  simp only[List.mem_cons,List.not_mem_nil,or_false]at hc
  rcases hc with rfl|rfl
  ·exact I1.fpOk (by omega) (I1.hok.fresh (by omega))
  ·exact I1.fpOk (Nat.le_refl _) (I1.hok.fresh (Nat.le_refl _))
 cases kk with
 |true=>exact RU (show s1.heap.IsTuple b its.toArray from pt) fun h' en it kp=>fin h' en it kp
 |false=>exact call_enumerate_list (show s1.heap.IsList b its.toArray from pt) fun h' en it _ kp=>fin h' en it kp
end
end L2
end
noncomputable section
namespace St
open PySem PySem.Spec L2 PyProof.Rows
inductive Kd where
 |non|bl|int|str|tup|lst|dct
 deriving DecidableEq
noncomputable def Kd.ty:Kd->String
 | .non=>"NoneType" | .bl=>"bool" | .int=>"int" | .str=>"str" | .tup=>"tuple" | .lst=>"list" | .dct=>"dict"
noncomputable def Kd.isA:Kd->String->Bool
 | .bl,"bool"=>true| .bl,"int"=>true| .int,"int"=>true| .str,"str"=>true| .tup,"tuple"=>true| .lst,"list"=>true| .dct,"dict"=>true
 |_,_=>false
section
variable{K:PySem.W.Frag}
theorem ZN(k:Kd):PySem.W.kitOne K (.type k.ty) (.type "int")=some (k.isA "int"):=by
 cases k<;>first|rfl|(unfold PySem.W.kitOne;rfl)
theorem Xn(k:Kd):PySem.W.kitOne K (.type k.ty) (.type "bool")=some (k.isA "bool"):=by
 cases k<;>rfl
theorem kit_tuple(k:Kd):PySem.W.kitOne K (.type k.ty) (.type "tuple")=some (k.isA "tuple"):=by
 cases k<;>rfl
theorem ZW(k:Kd):PySem.W.kitOne K (.type k.ty) (.type "str")=some (k.isA "str"):=by
 cases k<;>rfl
end
structure Dfn(P:Program)(w:World)(K:PySem.W.Frag)(mg:Str->Option Value)(base:Heap)(x:Str)(k:Nat)(ps:List Str)(sp:Sp):Prop where
 ex:∃f fd,mg x=some (.ref f)/\PySem.W.keepIn K (.ref f)=true/\Binds K fd ps []/\L4 P w K mg base CX0 k f fd ps sp
structure Src(K:PySem.W.Frag)(mg:Str->Option Value)(x:Str)(st:Stmt):Prop where
 ex:∃f fd,Fun K x x st f fd/\mg x=some (.ref f)
theorem iw{X:Cx}{k:Nat}{x:Str}{ps:List Str}{sp:Sp}{e:Expr}{es:List Expr}{t:TA}{p pos:Pos}(d:Dfn X.prog X.w X.K X.mg X.base x k ps sp)(hr:L5 k X.A)(hg:Gl X x)(ha:PA X (e::es) t)
  (hdb:(x==("__debug__":Str))=false:=by decide) (he:starEach (e::es) X.env=(false,eval e X.env)::starEach es X.env:=by rfl) (hpl:(backTo pos (starEach es X.env)).any (·.1)=false:=by rfl):
  PE X (.Call (.Name x p) (e::es) [] pos) (aY sp [] E0 t):=by
 obtain⟨f,fd,a,b,c,F⟩:=d.ex
 exact ZI F hr hg a b c .nil d9 ha hdb he hpl
section
variable{X:Cx}
theorem ZE{n:Nat}(h:n<2^8000):n.log2<9000:=by
 by_cases h0:n=0
 ·subst h0;decide
 ·exact Nat.lt_trans ((Nat.log2_lt h0).mpr h) (by decide)
theorem XD:OpR X (binaryOp .FloorDiv) (rI (fun _ j=>0<j/\j.natAbs<2^8000) fun i j=>.int (i / j)):=opI fun i j _ _ _ _ _ hc q=>by
 have h1:(0:Int)<j:=hc.1
 exact floordiv_int (by omega) (by rw[Int.fdiv_eq_ediv_of_nonneg i (by omega)];exact q) (.inl (PyProof.noPylong_of_log2 (ZE hc.2)))
theorem Mw{prog:Program}{w:World}{A:Around}(hh:A.handled=none){a it:Addr}(hne:a≠it){vs:List Value}:Walks prog w A it [it,a] [it] vs.length (fun i v=>vs[i]?=some v) (fun i h=>h.IsListIter it a i/\h.IsList a vs.toArray) where
 sub:=fun b hb=>by simp at hb;simp[hb]
 frame:=fun i h h' st k=>⟨st.1.at fun o e=>k it (by simp) o e,by
  obtain⟨o,ho,r⟩:=st.2
  exact⟨o,k a (by simp) o ho,r⟩⟩
 item:=fun i s Q E hi st hQ=>by
  refine wpAny_pyNext_list_item st.1 st.2 (x:=vs[i]) (by simp[hi]) fun h' st' sb=>?_
  refine hQ _ h' s.toks (by simp[hi]) ⟨st',?_⟩ fun b o hb e=>(sb.2 b (by simpa using hb)).trans e
  obtain⟨o,ho,r⟩:=st.2
  exact⟨o,(sb.2 a hne).trans ho,r⟩
 done:=fun s Q E st hQ=>wpAny_pyNext_list_end hh st.1 st.2 (by simp) fun h' eb=>hQ h' s.toks fun b o hb e=>eb b o (by simpa using hb) e
 self:=fun i s Q E st hQ=>wpAny_pyIter_listiter st.1 hQ
theorem US (hc : X.calm = true) : Eb X (.builtin "all") (fun xs H Q => ∃ (p : Addr) (bs : List Bool), xs = [.ref p] /\ SqL X.K H p (bs.map V.bl) /\ Q (.bl (bs.all id)) H) := by
  intro pins s σ H xs us Q I r h
  obtain⟨p,bs,rfl,hp,q⟩:=h
  obtain⟨u,rfl,ru⟩:=r.one
  cases (show u=Value.ref p from ru)
  obtain⟨its,rv,pl,hz⟩:=I.list hp
  have hd:X.A.in1.handled=none:=I.ok.hd hc
  refine call_all_walk (wpAny_pyIter_list pl.isList ?_)
  have hlen:bs.length=its.length:=by have:=rv.length;simpa using this
  have hpl:=pl.isList
  have hne:p≠s.heap.objs.size:=by
    obtain⟨o,ho,_⟩:=hpl
    exact Nat.ne_of_lt (Heap.lt_size ho)
  refine⟨s.heap.objs.size,_,_,its.length,_,_,fun i=>bs.getD i true,rfl,Mw (vs:=its) hd hne,⟨⟨_,Heap.get?_push_size _ rfl,rfl,rfl⟩,?_⟩,?_,?_⟩
  · obtain ⟨o, ho, r⟩ := hpl
    exact⟨o,Heap.get?_push_of_some _ ho,r⟩
  · intro i v s' Q' E' hv hq
    have hi:i<its.length:=(List.getElem?_eq_some_iff.mp hv).1
    have hb:(bs.map V.bl)[i]?=some (.bl (bs.getD i true)):=by
      rw[List.getElem?_map,List.getElem?_eq_getElem (by omega)]
      simp[List.getD_eq_getElem?_getD,List.getElem?_eq_getElem (show i<bs.length by omega)]
    obtain⟨u,hu,ru⟩:=rv.get hb
    rw[hv]at hu
    cases hu
    cases (show v=Value.bool _ from ru)
    exact wpAny_truthy_bool hq
  · intro h' tk hk
    have e : (List.range its.length).all (fun i => bs.getD i true) = bs.all id := by
      rw[←hlen]
      clear q hp rv hlen
      have : ∀ (l : List Bool), (List.range l.length).all (fun i => l.getD i true) = l.all id := by
        intro l
        induction l with
        |nil=>rfl
        | cons b l ih =>
          rw[List.length_cons,List.range_succ_eq_map,List.all_cons,List.all_map,List.all_cons,←ih]
          rfl
      exact this bs
    rw[e]
    exact⟨.bl _,H,I.kept (t':=tk) fun b o eb=>hk b o (by simp;exact Nat.ne_of_lt (Heap.lt_size eb)) (Heap.get?_push_of_some _ eb),rfl,q⟩
theorem WN{ns:List Int}{j:Nat}(h:j<ns.length):(ns.take (j+1)).sum=(ns.take j).sum+ns.getD j 0:=by
 have e:ns.getD j 0=ns[j]:=by simp[List.getD_eq_getElem?_getD,List.getElem?_eq_getElem h]
 rw[List.take_succ,List.getElem?_eq_getElem h,List.sum_append,e]
 show _+(ns[j]+0)=_
 omega
theorem K5{ns:List Int}:∀{j:Nat},j≤ns.length->preSum (fun i=>ns.getD i 0) j=(ns.take j).sum
  |0,_=>by simp[preSum]
  | j + 1, h => by
    rw[preSum,K5 (by omega),WN (by omega)]
theorem Tx{ns:List Int}(h:∀n∈ns,0≤n/\n≤1000000):0≤ns.sum/\ns.sum≤1000000*ns.length:=by
  induction ns with
  |nil=>simp
  | cons a l ih =>
    have h1:=h a (by simp)
    have h2:=ih fun n hn=>h n (by simp[hn])
    rw[List.sum_cons,List.length_cons]
    have:((l.length+1:Nat):Int)=(l.length:Int)+1:=by omega
    omega
end
section
variable{prog:Program}{w:World}{A:Around}{E:Value->Shared->Prop}{s:Shared}
theorem Jr{t sl:Addr}{items:Array Value}{vl vu:Value}{lo hi:Option Int}{Q:Value->Shared->Prop}(ht:IsTup s.heap t items)(hs:s.heap.IsSliceOf sl vl vu .none)(pl:IsPart vl lo)(pu:IsPart vu hi)
  (hw:HT.sIx items.size 0 lo=0/\HT.sIx items.size items.size hi=items.size)
  (h:Q (.ref t) s):wpAny (model prog w) A (getItem (.ref t) (.ref sl)) Q E s:=by
 obtain⟨os,hos,hcs,hds⟩:=id hs
 have hTs:s.TypeIs (.ref sl) "slice":=⟨os,hos,hcs⟩
 unfold getItem
 try with_reducible refine wpAny_holding ?_
 first|refine wpAny_bind (wpAny_pure ?_)|skip
 refine wpAny_bind (wpAny_sequenceKey ht.typeIs (by decide) ?_)
 refine wpAny_bind (wpAny_callSpecial?_slot (name:=Str.ofString "__getitem__") ht.typeIs PyProof.Rows.slot_tuple_getitem
  (wpAny_call_entry PyProof.Rows.slot_tuple_getitem ht.typeIs entry_tuple_getitem ?_ (args_tuple_getitem _ _)))
 show wpAny _ _ (Builtin.Tuple.tupleItemsOf (.ref t) >>= _) _ _ s
 refine wpAny_bind (tupleItemsOf_ ht ?_)
 refine wpAny_bind (wpAny_typeOf hTs ?_)
 rw[if_pos (by decide)]
 refine wpAny_bind (HT.G3 hs pl pu ?_)
 show wpAny _ _ (if(((HT.sIx items.size 0 lo:Nat):Int)==0 && (1:Int)==1 && (HT.sIx items.size items.size hi-HT.sIx items.size 0 lo)==items.size)=true then _ else _) _ _ s
 rw[if_pos (by rw[hw.1,hw.2];simp)]
 unfold Builtin.Tuple.tupleIsExact
 refine wpAny_bind (wpAny_bind (wpAny_typeOf ht.typeIs (wpAny_pure ?_)))
 rw[if_pos (by decide)]
 exact wpAny_bind (wpAny_rule (wpAny_pure ⟨_,rfl,wpAny_pure h⟩))
theorem Kc{sl:Addr}{u:Tok}{n:Nat}{Q:Int×Int×Nat->Shared->Prop}(hs:s.heap.IsSliceOf sl .none .none (.int (-1) u))
  (h:Q ((n:Int)-1,-1,n) s):wpAny (model prog w) A (Builtin.Slice.sliceApplied (.ref sl) (pure (n:Int))) Q E s:=by
 obtain⟨os,hos,hcs,hds⟩:=id hs
 unfold Builtin.Slice.sliceApplied Builtin.Slice.sliceFields
 refine wpAny_bind (wpAny_bind (wpAny_field hos hds (x:=.none) rfl (wpAny_bind (wpAny_field hos hds (x:=.none) rfl (wpAny_bind (wpAny_field hos hds (x:=.int (-1) u) rfl (wpAny_pure ?_)))))))
 refine wpAny_bind (slicePart_int ?_)
 show wpAny _ _ (if((-1:Int)==0)=true then _ else _) _ _ s
 rw[if_neg (by decide)]
 refine wpAny_bind (slicePart_none (wpAny_bind (slicePart_none (wpAny_bind (wpAny_pure ?_)))))
 show wpAny _ _ (match Builtin.Slice.sliceAdjust none none (-1) (n:Int)with|(lo,hi)=>pure (lo,(-1:Int),Builtin.Slice.slicePlaces lo hi (-1))) _ _ s
 have e:Builtin.Slice.sliceAdjust none none (-1) (n:Int)=((n:Int)-1,-1):=by
  unfold Builtin.Slice.sliceAdjust
  have h1:((-1:Int)<0):=by decide
  simp only[h1,if_true]
 rw[e]
 have e2:Builtin.Slice.slicePlaces ((n:Int)-1) (-1) (-1)=n:=by
  unfold Builtin.Slice.slicePlaces
  have h1:¬((-1:Int)>0):=by decide
  simp only[h1,if_false]
  by_cases h0:n=0
  ·subst h0;rfl
  ·rw[if_pos (by omega)]
   have:(-(-1):Int)=1:=rfl
   rw[this,Int.ediv_one]
   omega
 show wpAny _ _ (pure ((n:Int)-1,(-1:Int),Builtin.Slice.slicePlaces ((n:Int)-1) (-1) (-1))) _ _ s
 rw[e2]
 exact wpAny_pure h
noncomputable def NK(n:Nat)(k:Nat):Nat:=((n:Int)-1+(k:Int)*(-1)).toNat
theorem J4{t sl:Addr}{items:Array Value}{u:Tok}{Q:Value->Shared->Prop}(ht:IsTup s.heap t items)(hs:s.heap.IsSliceOf sl .none .none (.int (-1) u))(hz:items.size≤sizeLine)
  (h:Q (.ref s.heap.objs.size) {s with heap:=s.heap.push {cls:=.type "tuple",data:=.seq ((List.range items.size).filterMap fun k=>items[NK items.size k]?).toArray}}):wpAny (model prog w) A (getItem (.ref t) (.ref sl)) Q E s:=by
 obtain⟨os,hos,hcs,hds⟩:=id hs
 have hTs:s.TypeIs (.ref sl) "slice":=⟨os,hos,hcs⟩
 have htake:sizeOk (.seq ((List.range items.size).filterMap fun k=>items[NK items.size k]?).toArray):=by
  show((List.range items.size).filterMap fun k=>items[NK items.size k]?).toArray.size≤sizeLine
  rw[List.size_toArray]
  refine Nat.le_trans (List.length_filterMap_le _ _) ?_
  rw[List.length_range]
  exact hz
 unfold getItem
 try with_reducible refine wpAny_holding ?_
 first|refine wpAny_bind (wpAny_pure ?_)|skip
 refine wpAny_bind (wpAny_sequenceKey ht.typeIs (by decide) ?_)
 refine wpAny_bind (wpAny_callSpecial?_slot (name:=Str.ofString "__getitem__") ht.typeIs PyProof.Rows.slot_tuple_getitem
  (wpAny_call_entry PyProof.Rows.slot_tuple_getitem ht.typeIs entry_tuple_getitem ?_ (args_tuple_getitem _ _)))
 show wpAny _ _ (Builtin.Tuple.tupleItemsOf (.ref t) >>= _) _ _ s
 refine wpAny_bind (tupleItemsOf_ ht ?_)
 refine wpAny_bind (wpAny_typeOf hTs ?_)
 rw[if_pos (by decide)]
 refine wpAny_bind (Kc hs ?_)
 show wpAny _ _ (if(((items.size:Int)-1)==0 && (-1:Int)==1 && items.size==items.size)=true then _ else _) _ _ s
 rw[if_neg (by rw[show((-1:Int)==1)=false from rfl,Bool.and_false,Bool.false_and];decide)]
 first
  |exact wpAny_bind (m:=Builtin.Tuple.tupleExact _) (wpAny_newObj_type (wpAny_pure ⟨_,rfl,wpAny_pure h⟩) htake)
  |exact wpAny_bind (m:=Builtin.Tuple.tupleExact _) (wpAny_newObj_type (wpAny_bind (wpAny_pure (wpAny_pure ⟨_,rfl,wpAny_pure h⟩))) htake)
  |exact wpAny_bind (wpAny_bind (m:=Builtin.Tuple.tupleExact _) (wpAny_newObj_type (wpAny_pure (wpAny_pure ⟨_,rfl,wpAny_pure h⟩)) htake))
  |exact wpAny_bind (wpAny_bind (m:=Builtin.Tuple.tupleExact _) (wpAny_newObj_type (wpAny_pure ⟨_,rfl,wpAny_pure h⟩) htake))
end
section
variable{X:Cx}
def kc(K:PySem.W.Frag):V->Option Int->Option Int->Hp->VK->Prop:=fun x lo hi H Q=>∃a xs,x=.ref a/\SqT K H a xs/\HT.sIx xs.length 0 lo=0/\HT.sIx xs.length xs.length hi=xs.length/\Q x H
theorem bK:SlR X (kc X.K):=by
 intro pins s σ H x v vl vu lo hi sl Q I rx hs pl pu h
 obtain⟨a,xs,rfl,hx,h1,h2,q⟩:=h
 cases rx
 obtain⟨its,r,ht,hz⟩:=I.tuple hx
 have hlen:its.toArray.size=xs.length:=by rw[List.size_toArray];exact r.length.symm
 refine⟨"tuple",_,PyProof.Rows.slot_tuple_getitem.lookup,ht.typeIs,?_⟩
 exact Jr ht hs pl pu (by rw[hlen];exact⟨h1,h2⟩) ⟨.ref a,H,I,rfl,q⟩
noncomputable def iA(K:PySem.W.Frag):R2:=fun x y H Q=>∃a b ys,x=.ref a/\y=.ref b/\SqT K H a []/\SqT K H b ys/\Q (.ref b) H
theorem Zi:OpR X (binaryOp .Add) (iA X.K):=by
 intro pins s σ H x y v u Q I rx ry h
 obtain⟨a,b,ys,rfl,rfl,ha,hb,q⟩:=h
 cases rx
 cases ry
 obtain⟨its,r1,p1,_⟩:=I.tuple ha
 obtain⟨its2,r2,p2,_⟩:=I.tuple hb
 have e0:its=[]:=r1.nil_iff.mpr rfl
 subst e0
 obtain⟨⟨cls,dd,data,sl⟩,ho,hc,n,hd⟩:=id p1
 obtain⟨⟨cls2,dd2,data2,sl2⟩,ho2,hc2,n2,hd2⟩:=id p2
 simp only at hc hd hc2 hd2
 subst hc hd hc2 hd2
 exact concat_meets ⟨_,ho,rfl⟩ ⟨_,ho2,rfl⟩ noFill_tuple_add seq_tuple_add PySem.F.slot_tuple_add PySem.F.entry_tuple_add (PySem.F.args_tuple_add_2 _ _)
   (tuple_addW0 a b #[] its2.toArray n n2 dd dd2 sl sl2 rfl) ⟨ho,ho2,⟨.ref b,H,I,rfl,q⟩⟩
theorem Vals.pick{xs:List V}{us:List Value}(r:Vals xs us)(f:Nat->Nat):∀ks:List Nat,Vals (ks.filterMap fun k=>xs[f k]?) (ks.filterMap fun k=>us[f k]?)
  | []=>.nil
  | k :: ks => by
    have ih:=Vals.pick r f ks
    rw[List.filterMap_cons,List.filterMap_cons]
    cases e:xs[f k]? with
    |none=>rw[r.none_of e];exact ih
    | some x =>
      obtain⟨u,hu,ru⟩:=r.get e
      rw[hu]
      exact .cons ru ih
end
end St
end
noncomputable section
namespace Mi
open PySem PySem.Spec L2
inductive D where
 |non|bl (b:Bool)|int (i:Int)|str (x:Str)|ty (n:String)|tup (ds:List D)|lst (ds:List D)|dct (kvs:List (Key×D))|scr (ns:List Int)|ref (n:Nat)
inductive Wv where
 |val (d:D)|own (ds:List D)
inductive Cl where
 |lst (ds:List D)|dct (kvs:List (Key×D))
abbrev Sto:=List Cl
structure Ms where
 cel:List Addr
 tmp:List Addr
def Ms.mem(M:Ms)(a:Addr):Prop:=a∈M.cel∨a∈M.tmp
noncomputable def Ms.no:Ms:=⟨[],[]⟩
theorem Ms.no_mem{a:Addr}:¬Ms.no.mem a:=fun z=>z.elim (fun z=>by cases z) fun z=>by cases z
def KL(K:PySem.W.Frag)(a:Addr)(xs:List V):Prop:=∃(o:Obj) (its:Array Value) (n:Nat),K.lookup a=some o/\o.cls=.type "list" /\o.dict=none/\o.data=.seq its n/\its.size≤sizeLine/\Vals xs its.toList
mutual
inductive Dc(K:PySem.W.Frag)(M:Ms)(H:Hp):V->D->Prop
 |non:Dc K M H .non .non
 |bl (b:Bool):Dc K M H (.bl b) (.bl b)
 |int (i:Int):Dc K M H (.int i) (.int i)
 |str (x:Str):Dc K M H (.str x) (.str x)
 |ty (n:String):Dc K M H (.ty n) (.ty n)
 |tup {a:Addr} {xs:List V} {ds:List D} (h:SqT K H a xs) (r:Aq K M H xs ds):Dc K M H (.ref a) (.tup ds)
 |lst {a:Addr} {xs:List V} {ds:List D} (h:H a=some (.lst xs)) (n:¬M.mem a) (r:Aq K M H xs ds):Dc K M H (.ref a) (.lst ds)
 |scr {a:Addr} {ns:List Int} (h:(Rd H a (.lst (ns.map V.int))/\¬M.mem a)∨KL K a (ns.map V.int)):Dc K M H (.ref a) (.scr ns)
 |dct {a:Addr} {kvs:List (Key×V)} {es:List (Key×D)} (h:H a=some (.dK kvs)) (n:¬M.mem a) (r:Cj K M H kvs es):Dc K M H (.ref a) (.dct es)
 |ref {a:Addr} {n:Nat} (h:M.cel[n]?=some a):Dc K M H (.ref a) (.ref n)
inductive Aq(K:PySem.W.Frag)(M:Ms)(H:Hp):List V->List D->Prop
 |nil:Aq K M H [] []
 |cons {v:V} {d:D} {vs:List V} {ds:List D} (h:Dc K M H v d) (t:Aq K M H vs ds):Aq K M H (v::vs) (d::ds)
inductive Cj(K:PySem.W.Frag)(M:Ms)(H:Hp):List (Key×V)->List (Key×D)->Prop
 |nil:Cj K M H [] []
 |cons {k:Key} {v:V} {d:D} {vs:List (Key×V)} {ds:List (Key×D)} (h:Dc K M H v d) (t:Cj K M H vs ds):Cj K M H ((k,v)::vs) ((k,d)::ds)
end
def MOk(M:Ms)(H:Hp):Prop:=∀a,M.mem a->(∃xs,H a=some (.lst xs))∨∃kvs,H a=some (.dK kvs)
structure Sp1(M:Ms)(H:Hp)(M':Ms)(H':Hp):Prop where
 mo:MOk M H
 pre:M.cel <+: M'.cel
 fresh:∀a,M'.mem a->M.mem a∨H a=none
 keep:∀a o,H a=some o->¬M.mem a->H' a=some o
structure Gr(M:Ms)(H:Hp)(M':Ms)(H':Hp):Prop where
 mo:MOk M H
 pre:M.cel <+: M'.cel
 tmp:M'.tmp=M.tmp
 fresh:∀a,a∈M'.cel->a∈M.cel∨H a=none
 keep:∀a o,H a=some o->a∉M.cel->H' a=some o
 some:∀a,H a≠none->H' a≠none
section
variable{K:PySem.W.Frag}{M M' M2:Ms}{H H' H2:Hp}
theorem MOk.some(mo:MOk M H){a:Addr}(h:M.mem a):H a≠none:=fun z=>by
 rcases mo a h with⟨xs,e⟩|⟨xs,e⟩<;>(rw[e]at z;cases z)
theorem Gr.st(g:Gr M H M' H'):Sp1 M H M' H':=⟨g.mo,g.pre,fun a z=>z.elim (fun z=>(g.fresh a z).imp .inl id) fun z=>.inl (.inr (by rw[←g.tmp];exact z)),fun a o e n=>g.keep a o e fun z=>n (.inl z)⟩
theorem Gr.refl(mo:MOk M H):Gr M H M H:=⟨mo,List.prefix_rfl,rfl,fun _ z=>.inl z,fun _ _ e _=>e,fun _ e=>e⟩
theorem Gr.none(g:Gr M H M' H'){a:Addr}(h:H' a=none):H a=none:=by
 cases e:H a with
 |none=>rfl
 |some o=>exact absurd h (g.some a (by rw[e];intro z;cases z))
theorem Gr.trans(h:Gr M H M' H')(g:Gr M' H' M2 H2):Gr M H M2 H2:=
 ⟨h.mo,h.pre.trans g.pre,g.tmp.trans h.tmp,fun a z=>(g.fresh a z).elim (h.fresh a) fun z=>.inr (h.none z),fun a o e n=>g.keep a o (h.keep a o e n) (fun z=>by
  rcases h.fresh a z with z|z
  ·exact n z
  ·rw[e]at z;cases z),fun a e=>g.some a (h.some a e)⟩
theorem Gr.grow(mo:MOk M H)(k:∀a o,H a=Option.some o->H' a=Option.some o):Gr M H M H':=
 ⟨mo,List.prefix_rfl,rfl,fun _ z=>.inl z,fun b u eb _=>k b u eb,fun b eb z=>by
  cases h:H b with
  |none=>exact eb h
  |some o=>rw[k b o h]at z;cases z⟩
theorem N4{α:Type}{xs ys:List α}(h:xs <+: ys){n:Nat}{a:α}(e:xs[n]?=Option.some a):ys[n]?=Option.some a:=by
 obtain⟨zs,rfl⟩:=h
 rw[List.getElem?_append_left (List.getElem?_eq_some_iff.mp e).1]
 exact e
theorem W9{a:Addr}{xs:List V}(h:SqT K H a xs)(k:∀b o,H b=Option.some o->(∀ys,o≠.lst ys)->(∀ys,o≠.dK ys)->H' b=Option.some o):SqT K H' a xs:=by
 rcases h with h|h
 ·rcases h with h|⟨o,h⟩
  ·exact .inl (.inl (k _ _ h (fun ys z=>by cases z) fun ys z=>by cases z))
  ·exact .inl (.inr ⟨o,k _ _ h (fun ys z=>by cases z) fun ys z=>by cases z⟩)
 ·exact .inr h
theorem Sp1.sqT(g:Sp1 M H M' H'){a:Addr}{xs:List V}(h:SqT K H a xs):SqT K H' a xs:=W9 h fun b o e n1 n2=>g.keep b o e fun z=>by
 rcases g.mo b z with⟨ys,q⟩|⟨ys,q⟩
 ·exact n1 ys (Option.some.inj (e.symm.trans q))
 ·exact n2 ys (Option.some.inj (e.symm.trans q))
theorem Sp1.nm(g:Sp1 M H M' H'){a:Addr}{o:HO}(e:H a=Option.some o)(n:¬M.mem a):¬M'.mem a:=fun z=>by
 rcases g.fresh _ z with z|z
 ·exact n z
 ·rw[z]at e;cases e
mutual
theorem Dc.step(g:Sp1 M H M' H'):∀{v:V} {d:D},Dc K M H v d->Dc K M' H' v d
  |_,_,.non=>.non
  |_,_,.bl b=>.bl b
  |_,_,.int b=>.int b
  |_,_,.str b=>.str b
  |_,_,.ty b=>.ty b
  |_,_,.tup h r=>.tup (g.sqT h) (Aq.step g r)
  |_,_,.lst (a:=a) (xs:=xs) h n r=>.lst (g.keep _ _ h n) (g.nm h n) (Aq.step g r)
  | _, _, .scr (a := a) (ns := ns) h => by
    rcases h with⟨h,n⟩|h
    · rcases h with h | ⟨o, h⟩
      ·exact .scr (.inl ⟨.inl (g.keep _ _ h n),g.nm h n⟩)
      ·exact .scr (.inl ⟨.inr ⟨o,g.keep _ _ h n⟩,g.nm h n⟩)
    ·exact .scr (.inr h)
  |_,_,.dct (a:=a) h n r=>.dct (g.keep _ _ h n) (g.nm h n) (Cj.step g r)
  |_,_,.ref h=>.ref (N4 g.pre h)
theorem Aq.step(g:Sp1 M H M' H'):∀{v:List V} {d:List D},Aq K M H v d->Aq K M' H' v d
 |_,_,.nil=>.nil
 |_,_,.cons h t=>.cons (Dc.step g h) (Aq.step g t)
theorem Cj.step(g:Sp1 M H M' H'):∀{v:List (Key×V)} {d:List (Key×D)},Cj K M H v d->Cj K M' H' v d
 |_,_,.nil=>.nil
 |_,_,.cons h t=>.cons (Dc.step g h) (Cj.step g t)
end
theorem Aq.length:∀{v:List V} {d:List D},Aq K M H v d->v.length=d.length
 |_,_,.nil=>rfl
 |_,_,.cons _ t=>by simp[Aq.length t]
theorem Aq.get:∀{v:List V} {d:List D} {i:Nat} {y:D},Aq K M H v d->d[i]?=Option.some y->∃x,v[i]?=Option.some x/\Dc K M H x y
  |_,_,i,y,.nil,e=>by simp at e
  |_,_,0,y,.cons h t,e=>by simp at e;subst e;exact⟨_,rfl,h⟩
  | _, _, i + 1, y, .cons h t, e => by
    obtain⟨x,h1,h2⟩:=Aq.get (i:=i) t (by simpa using e)
    exact⟨x,by simpa using h1,h2⟩
theorem Aq.append:∀{v v':List V} {d d':List D},Aq K M H v d->Aq K M H v' d'->Aq K M H (v++v') (d++d')
 |_,_,_,_,.nil,s=>s
 |_,_,_,_,.cons h t,s=>.cons h (Aq.append t s)
theorem Aq.take:∀{v:List V} {d:List D} (n:Nat),Aq K M H v d->Aq K M H (v.take n) (d.take n)
 |_,_,0,_=>.nil
 |_,_,_+1,.nil=>.nil
 |_,_,n+1,.cons h t=>.cons h (Aq.take n t)
theorem Aq.drop:∀{v:List V} {d:List D} (n:Nat),Aq K M H v d->Aq K M H (v.drop n) (d.drop n)
 |_,_,0,r=>r
 |_,_,_+1,.nil=>.nil
 |_,_,n+1,.cons _ t=>Aq.drop n t
theorem Aq.set{x:V}{y:D}(r:Dc K M H x y):∀{v:List V} {d:List D} (i:Nat),Aq K M H v d->Aq K M H (v.set i x) (d.set i y)
 |_,_,_,.nil=>.nil
 |_,_,0,.cons _ t=>.cons r t
 |_,_,i+1,.cons q t=>.cons q (Aq.set r i t)
end
abbrev En:=List (Option D)
abbrev Sg:=List (Option V)
structure EnR(K:PySem.W.Frag)(M:Ms)(E:En)(σ:Sg)(H:Hp):Prop where
 len:E.length=σ.length
 val:∀(i:Nat) (d:D),E[i]?=some (some d)->∃v,σ[i]?=some (some v)/\Dc K M H v d
def cM(K:PySem.W.Frag)(M:Ms)(H:Hp)(a:Addr):Cl->Prop
 | .lst ds=>∃xs,H a=some (.lst xs)/\Aq K M H xs ds
 | .dct es=>∃kvs,H a=some (.dK kvs)/\Cj K M H kvs es
structure StR(K:PySem.W.Frag)(M:Ms)(S:Sto)(H:Hp):Prop where
 mo:MOk M H
 nd:M.cel.Nodup
 nt:∀a∈M.tmp,a∉M.cel
 len:M.cel.length=S.length
 cell:∀(n:Nat) (a:Addr) (c:Cl),M.cel[n]?=some a->S[n]?=some c->cM K M H a c
section
variable{K:PySem.W.Frag}{M M' M2:Ms}{H H' H2:Hp}{E:En}{σ:Sg}{S:Sto}
theorem EnR.step(r:EnR K M E σ H)(g:Sp1 M H M' H'):EnR K M' E σ H':=⟨r.len,fun i d e=>by
 obtain⟨v,h1,h2⟩:=r.val i d e
 exact⟨v,h1,h2.step g⟩⟩
theorem StR.grow(r:StR K M S H)(k:∀a o,H a=some o->H' a=some o):StR K M S H':=by
 have g:Sp1 M H M H':=⟨r.mo,List.prefix_rfl,fun _ z=>.inl z,fun a o e _=>k a o e⟩
 refine⟨fun a z=>(r.mo a z).imp (fun⟨xs,e⟩=>⟨xs,k _ _ e⟩) fun⟨xs,e⟩=>⟨xs,k _ _ e⟩,r.nd,r.nt,r.len,fun n a c h1 h2=>?_⟩
 have q:=r.cell n a c h1 h2
 cases c with
 |lst ds=>obtain⟨xs,e,rr⟩:=q;exact⟨xs,k _ _ e,rr.step g⟩
 |dct ds=>obtain⟨xs,e,rr⟩:=q;exact⟨xs,k _ _ e,rr.step g⟩
theorem StR.chg(r:StR K M S H){n:Nat}{a:Addr}{ds es:List D}{ys:List V}(h1:M.cel[n]?=some a)(h2:S[n]?=some (.lst ds))(hy:Aq K M H ys es):StR K M (S.set n (.lst es)) (upd H a (.lst ys))/\Gr M H M (upd H a (.lst ys)):=by
 have ha:a∈M.cel:=List.mem_of_getElem? h1
 have hl:n<S.length:=(List.getElem?_eq_some_iff.mp h2).1
 have g:Gr M H M (upd H a (.lst ys)):=⟨r.mo,List.prefix_rfl,rfl,fun _ z=>.inl z,fun b o eb nb=>by rw[As (fun z=>nb (by rw[z];exact ha))];exact eb,fun b eb=>by
  by_cases h:b=a
  ·subst h;rw[BV];intro z;cases z
  ·rw[As h];exact eb⟩
 refine⟨⟨fun b z=>?_,r.nd,r.nt,by rw[List.length_set];exact r.len,fun m b c e1 e2=>?_⟩,g⟩
 ·by_cases h:b=a
  ·subst h;exact .inl ⟨ys,BV⟩
  ·rw[As h];exact r.mo b z
 ·by_cases h:n=m
  ·subst h
   rw[h1]at e1;cases e1
   rw[List.getElem?_set_self hl]at e2;cases e2
   exact⟨ys,BV,hy.step g.st⟩
  ·rw[List.getElem?_set_ne h]at e2
   have hb:b≠a:=fun z=>by
    subst z
    exact h ((List.getElem?_inj (List.getElem?_eq_some_iff.mp h1).1 r.nd).mp (h1.trans e1.symm))
   have q:=r.cell m b c e1 e2
   cases c with
   |lst fs=>obtain⟨xs,e,rr⟩:=q;exact⟨xs,by rw[As hb];exact e,rr.step g.st⟩
   |dct fs=>obtain⟨xs,e,rr⟩:=q;exact⟨xs,by rw[As hb];exact e,rr.step g.st⟩
theorem StR.cel_new(r:StR K M S H){a:Addr}{xs:List V}{ds:List D}(e:H a=none)(k:∀b o,H b=some o->H' b=some o)(ea:H' a=some (.lst xs))(rr:Aq K M H xs ds):StR K ⟨M.cel++[a],M.tmp⟩ (S++[.lst ds]) H'/\Gr M H ⟨M.cel++[a],M.tmp⟩ H':=by
  have g:Gr M H ⟨M.cel++[a],M.tmp⟩ H':=⟨r.mo,List.prefix_append _ _,rfl,fun b z=>by
    rcases List.mem_append.mp z with z|z
    ·exact .inl z
    ·simp at z;subst z;exact .inr e,fun b o eb _=>k b o eb,fun b eb z=>by
    cases h:H b with
    |none=>exact eb h
    |some o=>rw[k b o h]at z;cases z⟩
  have na:¬M.mem a:=fun z=>r.mo.some z e
  refine⟨⟨fun b z=>?_,?_,fun b hb z=>?_,by simp[r.len],fun m b c e1 e2=>?_⟩,g⟩
  · have z' : M.mem b ∨ b = a := by
      rcases z with z|z
      · rcases List.mem_append.mp z with z | z
        ·exact .inl (.inl z)
        ·simp at z;exact .inr z
      ·exact .inl (.inr z)
    rcases z' with z|z
    ·exact(r.mo b z).imp (fun⟨xs,e⟩=>⟨xs,k _ _ e⟩) fun⟨xs,e⟩=>⟨xs,k _ _ e⟩
    ·subst z;exact .inl ⟨xs,ea⟩
  · rw [List.nodup_append]
    refine⟨r.nd,by simp,fun x hx y hy=>?_⟩
    simp at hy;subst hy
    exact fun z=>na (.inl (by rw[←z];exact hx))
  · rcases List.mem_append.mp z with z | z
    ·exact r.nt b hb z
    ·simp at z;subst z;exact na (.inr hb)
  · by_cases h : m < S.length
    · rw [List.getElem?_append_left (by rw [r.len]; exact h)] at e1
      rw[List.getElem?_append_left h]at e2
      have q:=r.cell m b c e1 e2
      cases c with
      |lst fs=>obtain⟨xs,e,rr⟩:=q;exact⟨xs,k _ _ e,rr.step g.st⟩
      |dct fs=>obtain⟨xs,e,rr⟩:=q;exact⟨xs,k _ _ e,rr.step g.st⟩
    · have hm : m = S.length := by
        have:=(List.getElem?_eq_some_iff.mp e2).1
        simp at this;omega
      subst hm
      rw[List.getElem?_append_right (by rw[r.len];exact Nat.le_refl _)]at e1
      rw[List.getElem?_append_right (Nat.le_refl _)]at e2
      rw[r.len]at e1
      simp at e1 e2
      subst e1 e2
      exact⟨xs,ea,rr.step g.st⟩
end
abbrev Ev:=En->Sto->Option (D×Sto)
noncomputable def tD(K:PySem.W.Frag)(f:Ev):TE:=fun σ H Q=>∃M E S d S',f E S=some (d,S')/\EnR K M E σ H/\StR K M S H/\∀v H' M',Gr M H M' H'->StR K M' S' H'->Dc K M' H' v d->Q v H'
structure DE(X:Cx)(e:Expr)(f:Ev):Prop where
 pe:PE X e (tD X.K f)
theorem Bb{X:Cx}{e:Expr}{t t':TE}(h:PE X e t)(m:∀σ H Q,t' σ H Q->t σ H Q):PE X e t':=fun pins s σ H Q I q=>h pins s σ H Q I (m _ _ _ q)
theorem Rr{X:Cx}{e:Expr}{t t':TT}(h:PT X e t)(m:∀σ H Q,t' σ H Q->t σ H Q):PT X e t':=fun pins s σ H Q I q=>h pins s σ H Q I (m _ _ _ q)
theorem EI{K:PySem.W.Frag}{f:Ev}{σ:Sg}{H:Hp}{Q Q':VK}(h:tD K f σ H Q)(m:∀v H',Q v H'->Q' v H'):tD K f σ H Q':=by
 obtain⟨M,E,S,d,S',e,r,st,q⟩:=h
 exact⟨M,E,S,d,S',e,r,st,fun v H' M' g s r=>m _ _ (q v H' M' g s r)⟩
theorem BE{α β:Type}{o:Option α}{k:α->Option β}{y:β}(e:o.bind k=some y):∃x,o=some x/\k x=some y:=by
 cases o with
 |none=>cases e
 |some x=>exact⟨x,rfl,e⟩
theorem Kf{α β:Type}{o:Option α}{k:α->β}{y:β}(e:o.map k=some y):∃x,o=some x/\k x=y:=by
 cases o with
 |none=>cases e
 |some x=>cases e;exact⟨x,rfl,rfl⟩
noncomputable def fz:Wv->D
 | .val d=>d
 | .own ds=>.lst ds
noncomputable def at?(E:En)(i:Nat):Option D:=(E[i]?).join
theorem at?_some{E:En}{i:Nat}{w:D}(h:at? E i=some w):E[i]?=some (some w):=by
 unfold at? at h
 cases e:E[i]? with
 |none=>rw[e]at h;cases h
 |some q=>rw[e]at h;exact congrArg some h
noncomputable def evs:List Ev->En->Sto->Option (List D×Sto)
 | [],_,S=>some ([],S)
 |f::fs,E,S=>(f E S).bind fun r=>(evs fs E r.2).map fun q=>(r.1::q.1,q.2)
noncomputable def tDs(K:PySem.W.Frag):List Ev->TA
 | []=>jK
 |f::fs=>cF (tD K f) (tDs K fs)
structure DEs(X:Cx)(es:List Expr)(fs:List Ev):Prop where
 pe:PA X es (tDs X.K fs)
theorem AD{X:Cx}:DEs X [] []:=⟨Sw⟩
theorem AA{X:Cx}{e:Expr}{es:List Expr}{f:Ev}{fs:List Ev}(h:DE X e f)(t:DEs X es fs)(hs:starEach (e::es) X.env=(false,eval e X.env)::starEach es X.env:=by rfl):DEs X (e::es) (f::fs):=⟨Ng h.pe t.pe hs⟩
section
variable{K:PySem.W.Frag}{M M':Ms}{E:En}{S:Sto}{σ:Sg}{H H':Hp}
theorem H0:∀{fs:List Ev} {M:Ms} {S:Sto} {ds:List D} {S':Sto} {H:Hp} {Q:List V->Hp->Prop},evs fs E S=some (ds,S')->EnR K M E σ H->StR K M S H->(∀vs H' M',Gr M H M' H'->StR K M' S' H'->Aq K M' H' vs ds->Q vs H')->tDs K fs σ H Q
  | [],M,S,ds,S',H,Q,e,r,st,q=>by
    cases e
    exact q [] H M (.refl st.mo) st .nil
  | f :: fs, M, S, ds, S', H, Q, e, r, st, q => by
    obtain⟨⟨d,S1⟩,e1,e⟩:=BE e
    obtain⟨⟨es,S2⟩,e2,e⟩:=Kf e
    cases e
    refine⟨M,E,S,d,S1,e1,r,st,fun v H1 M1 g1 st1 d1=>?_⟩
    exact H0 e2 (r.step g1.st) st1 fun vs H2 M2 g2 st2 d2=>q _ _ M2 (g1.trans g2) st2 (.cons (d1.step g2.st) d2)
theorem Pf:∀{fs:List Ev} {S:Sto} {ds:List D} {S':Sto},evs fs E S=some (ds,S')->ds.length=fs.length
  | [],_,_,_,e=>by cases e;rfl
  | f :: fs, S, ds, S', e => by
    obtain⟨⟨d,S1⟩,e1,e⟩:=BE e
    obtain⟨⟨es,S2⟩,e2,e⟩:=Kf e
    cases e
    simp[Pf e2]
def Sh(K:PySem.W.Frag)(M:Ms)(H:Hp)(v:V):Wv->Prop
 | .val d=>Dc K M H v d
 | .own ds=>∃a xs,v=.ref a/\H a=some (.lst xs)/\Aq K M H xs ds
inductive Shs(K:PySem.W.Frag)(M:Ms)(H:Hp):List V->List Wv->Prop
 |nil:Shs K M H [] []
 |cons {v:V} {w:Wv} {vs:List V} {ws:List Wv} (h:Sh K M H v w) (t:Shs K M H vs ws):Shs K M H (v::vs) (w::ws)
noncomputable def dr(S:Sto):D->Wv
  | .ref n=>match S[n]? with
    |some (.lst ds)=>.own ds
    |_=>.val (.ref n)
  |d=>.val d
theorem aU(st:StR K M S H){v:V}{d:D}(h:Dc K M H v d):Sh K M H v (dr S d):=by
  cases h with
  | ref h =>
    rename_i a n
    show Sh K M H (.ref a) (match S[n]? with|some (.lst ds)=>.own ds|_=>.val (.ref n))
    split
    · rename_i ds e
      obtain⟨xs,h1,h2⟩:=st.cell n a _ h e
      exact⟨a,xs,rfl,h1,h2⟩
    ·exact .ref h
  |non=>exact .non
  |bl b=>exact .bl b
  |int b=>exact .int b
  |str b=>exact .str b
  |ty b=>exact .ty b
  |tup h r=>exact .tup h r
  |lst h n r=>exact .lst h n r
  |scr h=>exact .scr h
  |dct h n r=>exact .dct h n r
theorem YL(st:StR K M S H):∀{vs:List V} {ds:List D},Aq K M H vs ds->Shs K M H vs (ds.map (dr S))
 |_,_,.nil=>.nil
 |_,_,.cons h t=>.cons (aU st h) (YL st t)
def NwR(K:PySem.W.Frag)(M:Ms)(H H':Hp)(v:V):Wv->Prop
 | .val d=>Dc K M H' v d
 | .own ds=>∃a xs,v=.ref a/\H a=none/\H' a=some (.lst xs)/\Aq K M H xs ds
structure Nw(K:PySem.W.Frag)(M:Ms)(H H':Hp)(v:V)(w:Wv):Prop where
 grow:∀a o,H a=some o->H' a=some o
 rel:NwR K M H H' v w
theorem Nw.same{v:V}{d:D}(mo:MOk M H)(h:Dc K M H v d):Nw K M H H v (.val d):=⟨fun _ _ e=>e,h⟩
theorem Gq{a:Addr}{o:HO}(e:H a=none):∀b u,H b=some u->upd H a o b=some u:=fun b u eb=>by rw[As (fun z=>by subst z;rw[e]at eb;cases eb)];exact eb
theorem Nw.lst{a:Addr}{xs:List V}{ds:List D}(mo:MOk M H)(e:H a=none)(h:Aq K M H xs ds):Nw K M H (upd H a (.lst xs)) (.ref a) (.own ds):=⟨Gq e,a,xs,rfl,e,BV,h⟩
theorem Nw.tup{a:Addr}{xs:List V}{ds:List D}(mo:MOk M H)(e:H a=none)(h:Aq K M H xs ds):Nw K M H (upd H a (.tup xs)) (.ref a) (.val (.tup ds)):=⟨Gq e,.tup (.of BV) (h.step (Gr.grow mo (Gq e)).st)⟩
noncomputable def fin:Bool->Wv->Sto->Option (D×Sto)
 |_,.val d,S=>some (d,S)
 |false,.own ds,S=>some (.lst ds,S)
 |true,.own ds,S=>some (.ref S.length,S++[.lst ds])
theorem Nw.fin{c:Bool}{v:V}{w:Wv}{d:D}{S':Sto}(n:Nw K M H H' v w)(st:StR K M S H)(e:fin c w S=some (d,S')):∃M',Gr M H M' H'/\StR K M' S' H'/\Dc K M' H' v d:=by
  cases w with
  | val d' =>
    cases e
    exact⟨M,.grow st.mo n.grow,st.grow n.grow,n.rel⟩
  | own ds =>
    obtain⟨a,xs,rfl,h1,h2,h3⟩:=n.rel
    cases c with
    | false =>
      cases e
      exact⟨M,.grow st.mo n.grow,st.grow n.grow,.lst h2 (fun z=>st.mo.some z h1) (h3.step (Gr.grow st.mo n.grow).st)⟩
    | true =>
      cases e
      obtain⟨s1,g1⟩:=st.cel_new h1 n.grow h2 h3
      refine⟨_,g1,s1,.ref ?_⟩
      rw[←st.len]
      exact List.getElem?_concat_length
abbrev Op1:=Wv->Option Wv
abbrev Op2:=Wv->Wv->Option Wv
abbrev OpN:=List Wv->Option Wv
noncomputable def rOp(K:PySem.W.Frag)(op:Op2):R2:=fun x y H Q=>∃M w1 w2 r,op w1 w2=some r/\MOk M H/\Sh K M H x w1/\Sh K M H y w2/\∀v H',Nw K M H H' v r->Q v H'
def rUn(K:PySem.W.Frag)(op:Op1):V->Hp->VK->Prop:=fun x H Q=>∃M w r,op w=some r/\MOk M H/\Sh K M H x w/\∀v H',Nw K M H H' v r->Q v H'
def rN(K:PySem.W.Frag)(op:OpN):List V->Hp->VK->Prop:=fun xs H Q=>∃M ws r,op ws=some r/\MOk M H/\Shs K M H xs ws/\∀v H',Nw K M H H' v r->Q v H'
noncomputable def P4(c:Bool)(op:OpN)(fs:List Ev):Ev:=fun E S=>(evs fs E S).bind fun r=>(op (r.1.map (dr r.2))).bind fun w=>fin c w r.2
abbrev eOp:=P4 false
abbrev eK:=P4 true
noncomputable def o1(op:Op1):OpN| [a]=>op a|_=>none
noncomputable def o2(op:Op2):OpN| [a,b]=>op a b|_=>none
theorem Mx{c:Bool}{op:OpN}{fs:List Ev}{Q:VK}{d:D}{S':Sto}(e:P4 c op fs E S=some (d,S'))(r:EnR K M E σ H)(st:StR K M S H)(h:∀v H' M',Gr M H M' H'->StR K M' S' H'->Dc K M' H' v d->Q v H'):tDs K fs σ H fun vs H1=>rN K op vs H1 Q:=by
 obtain⟨⟨ds,S1⟩,e1,e⟩:=BE e
 obtain⟨w,e2,e⟩:=BE e
 refine H0 e1 r st fun vs H1 M1 g1 st1 d1=>⟨M1,_,w,e2,st1.mo,YL st1 d1,fun v H2 n=>?_⟩
 obtain⟨M2,g2,st2,d2⟩:=n.fin st1 e
 exact h v H2 M2 (g1.trans g2) st2 d2
end
theorem bC{K:PySem.W.Frag}{f:Op2}{x y:V}{H:Hp}{Q:VK}(h:rN K (o2 f) [x,y] H Q):rOp K f x y H Q:=by
  obtain⟨M,ws,r,e,mo,s,q⟩:=h
  cases s with
  | cons h1 s =>
    cases s with
    | cons h2 s =>
      cases s
      exact⟨M,_,_,r,e,mo,h1,h2,q⟩
theorem cV{K:PySem.W.Frag}{f:Op1}{x:V}{H:Hp}{Q:VK}(h:rN K (o1 f) [x] H Q):rUn K f x H Q:=by
  obtain⟨M,ws,r,e,mo,s,q⟩:=h
  cases s with
  | cons h1 s =>
    cases s
    exact⟨M,_,r,e,mo,h1,q⟩
theorem QW{K:PySem.W.Frag}{c:Bool}{f:Op2}{fa fb:Ev}{σ:Sg}{H:Hp}{Q:VK}(h:tD K (P4 c (o2 f) [fa,fb]) σ H Q):tOp (rOp K f) (tD K fa) (tD K fb) σ H Q:=by
 obtain⟨M,E,S,d,S',e,r,st,q⟩:=h
 have z:tD K fa σ H fun x H1=>tD K fb σ H1 fun y H2=>rN K (o2 f) [x,y] H2 Q:=Mx (Q:=Q) e r st q
 exact EI z fun x H1 z1=>EI z1 fun y H2 z2=>bC z2
theorem Oj{K:PySem.W.Frag}{c:Bool}{f:Op1}{fa:Ev}{σ:Sg}{H:Hp}{Q:VK}(h:tD K (P4 c (o1 f) [fa]) σ H Q):tUn (rUn K f) (tD K fa) σ H Q:=by
 obtain⟨M,E,S,d,S',e,r,st,q⟩:=h
 have z:tD K fa σ H fun x H1=>rN K (o1 f) [x] H1 Q:=Mx (Q:=Q) e r st q
 exact EI z fun x H1 z1=>cV z1
section
variable{X:Cx}{a b e:Expr}{es:List Expr}{fa fb:Ev}{fs:List Ev}{pos p:Pos}{c:Bool}
theorem Aa{op:Operator}{f:Op2}(ho:OpR X (binaryOp op) (rOp X.K f))(ha:DE X a fa)(hb:DE X b fb):DE X (.BinOp a op b pos) (P4 c (o2 f) [fa,fb]):=⟨Bb (jA ho ha.pe hb.pe) fun _ _ _ h=>QW h⟩
theorem CD{op:CmpOp}{f:Op2}(ho:OpR X (compareOp op) (rOp X.K f))(ha:DE X a fa)(hb:DE X b fb)(hm:behindInMarks op b=false:=by rfl):DE X (.Compare a [op] [b] pos) (P4 c (o2 f) [fa,fb]):=⟨Bb (aR ho ha.pe hb.pe hm) fun _ _ _ h=>QW h⟩
theorem Rc{op:UnaryOp}{f:Op1}(ho:UnR X (unaryOp op) (rUn X.K f))(ha:DE X a fa):DE X (.UnaryOp op a pos) (P4 c (o1 f) [fa]):=⟨Bb (dS ho ha.pe) fun _ _ _ h=>Oj h⟩
theorem AN{f:Op2}(hr:IxR X (rOp X.K f))(ha:DE X a fa)(hb:DE X b fb)(hs:Nc b:=by exact fun _ _=>rfl):DE X (.Subscript a b pos) (P4 c (o2 f) [fa,fb]):=⟨Bb (aK hr ha.pe hb.pe hs) fun _ _ _ h=>QW h⟩
theorem AQ{id:String}{x:Str}{f:OpN}(hc:Eb X (.builtin id) (rN X.K f))(hg:Gl X x)(hm:X.mg x=none)(hv:bootBuiltins x=some (.builtin id))(ha:DEs X (e::es) fs)(hn:x≠ "__name__":=by decide)(hdb:(x==("__debug__":Str))=false:=by decide)
  (he:starEach (e::es) X.env=(false,eval e X.env)::starEach es X.env:=by rfl) (hpl:(backTo pos (starEach es X.env)).any (·.1)=false:=by rfl):DE X (.Call (.Name x p) (e::es) [] pos) (P4 c f fs):=⟨
 Bb (Wd hc hg hm hv ha.pe hn hdb he hpl) fun _ _ _ h=>by
  obtain⟨M,E,S,d,S',e,r,st,q⟩:=h
  exact Mx e r st q⟩
theorem BH{T:String}{x:Str}{f:OpN}(hc:Eb X (.type T) (rN X.K f))(hg:Gl X x)(hm:X.mg x=none)(hv:bootBuiltins x=some (.type T))(ha:DEs X (e::es) fs)(hn:x≠ "__name__":=by decide)(hdb:(x==("__debug__":Str))=false:=by decide)
  (he:starEach (e::es) X.env=(false,eval e X.env)::starEach es X.env:=by rfl) (hpl:(backTo pos (starEach es X.env)).any (·.1)=false:=by rfl):DE X (.Call (.Name x p) (e::es) [] pos) (P4 c f fs):=⟨
 Bb (TM hc hg hm hv ha.pe hn hdb he hpl) fun _ _ _ h=>by
  obtain⟨M,E,S,d,S',e,r,st,q⟩:=h
  exact Mx e r st q⟩
noncomputable def eC(d:D):Ev:=fun _ S=>some (d,S)
theorem ON{v:V}{d:D}(h:PE X e (tC v))(r:∀K M H,Dc K M H v d):DE X e (eC d):=⟨Bb h fun σ H Q z=>by
 obtain⟨M,E,S,w,S',e,rr,st,q⟩:=z
 cases e
 exact q _ _ M (.refl st.mo) st (r _ _ _)⟩
theorem AE{i:Int}{j:Nat}:DE X (.Constant (.int i) j pos) (eC (.int i)):=ON Xs fun _ _ _=>.int _
theorem DP{i:Bool}{j:Nat}:DE X (.Constant (.bool i) j pos) (eC (.bl i)):=ON iK fun _ _ _=>.bl _
theorem BK{i:Str}{j:Nat}:DE X (.Constant (.str i) j pos) (eC (.str i)):=ON dy fun _ _ _=>.str _
theorem HI{j:Nat}:DE X (.Constant .none j pos) (eC .non):=ON dh fun _ _ _=>.non
noncomputable def eV(i:Nat):Ev:=fun E S=>(at? E i).map fun d=>(d,S)
theorem AB(i:Nat){x:Str}(hN:X.N[i]?=some x:=by rfl)(hv:Vis X.env.scope x:=by first|exact Or.inl rfl|exact Or.inr (Or.inl rfl)|exact Or.inr (Or.inr rfl))(hd:(x==("__debug__":Str))=false:=by decide)
  (hcd:(x==("__classdict__":Str))=false:=by decide):DE X (.Name x pos) (eV i):=⟨Bb (Tw hN hv hd hcd) fun σ H Q z=>by
 obtain⟨M,E,S,d,S',e,r,st,q⟩:=z
 obtain⟨d',e1,e⟩:=Kf e
 cases e
 obtain⟨v,hv,rd⟩:=r.val i d (at?_some e1)
 exact⟨v,hv,q v H M (.refl st.mo) st rd⟩⟩
end
theorem Gz:fillsNumberSlot (.type "tuple") "mul"=pure false:=
 fillsNumberSlot_seq (id:="tuple.__mul__") (r:=some (.builtin "tuple.__rmul__")) F.slot_tuple_mul.lookup (by decide+kernel) F.slot_tuple_rmul.lookup (by decide+kernel)
theorem KQ:seqRepeat? (.type "tuple")=pure (some (.builtin "tuple.__mul__")):=by
 unfold seqRepeat?
 rw[seqSlot_of (T:="tuple") (name:="__mul__") (id:="tuple.__mul__") F.slot_tuple_mul.lookup (by decide+kernel),seqSlot_of (T:="tuple") (name:="__rmul__") (id:="tuple.__rmul__") F.slot_tuple_rmul.lookup (by decide+kernel)]
 rfl
theorem IJ(a:Int)(t:Tok)(l:Addr)(items:Array Value)(n:Nat)(dd:Option Addr)(sl:Array (Option Value)):
  Meets (Builtin.«int.__rmul__» ⟨[.int a t,.ref l],[]⟩) (fun _ R s=>s.heap.get? l=some {cls:=.type "tuple",dict:=dd,data:=.seq items n,slots:=sl}/\R (.ok (.ret Value.notImplemented)) s):=
 .of_wp fun prog w A R s h=>by obtain⟨hp,g,d,tk,os⟩:=s;obtain⟨hl,h⟩:=h;wp_walk;exact⟨_,rfl,h⟩
theorem TZ(its:List Value)(m:Nat):List.foldl (fun x1 x2=>x1++x2) #[] (List.replicate m its.toArray)=(List.replicate m its).flatten.toArray:=by
 have:=foldl_rep its m []
 rw[List.nil_append]at this
 exact this
theorem Zk{X:Cx}:OpR X (binaryOp .Mult) (fun x y H Q=>∃a xs k,x=.ref a/\y=.int k/\SqT X.K H a xs/\xs≠[]/\1≤k/\xs.length*k.toNat≤sizeLine/\(k=1->Q (.ref a) H)/\(k≠1->∀p,H p=none->Q (.ref p) (upd H p (.tup (List.replicate k.toNat xs).flatten)))):=by
  intro pins s σ H x y v u Q I rx ry h
  obtain⟨a,xs,k,rfl,rfl,hx,hne,hk,hz,q1,q2⟩:=h
  cases rx
  obtain⟨t,rfl⟩:=ry
  obtain⟨its,r,⟨⟨c,dd,data,sl⟩,ho,hc,n,hd⟩,hzz⟩:=I.tuple hx
  simp only at hc hd
  subst hc hd
  have hl:=r.length
  have hsz:its.toArray.size=xs.length:=by rw[List.size_toArray];exact hl.symm
  have hpos:0<xs.length:=List.length_pos_iff.mpr hne
  have hkl:k.toNat≤sizeLine:=Nat.le_trans (Nat.le_mul_of_pos_left _ hpos) hz
  have hk63:k<2^63:=by
    have:(sizeLine:Nat)<2^63:=by decide
    omega
  refine wpAny_binaryOp_repeat_ref (T:="tuple") (U:="int") (by decide) ⟨_,ho,rfl⟩ (fun s'=>typeIs_int s' k t) Gz F.fills_int_mul F.slot_int_rmul KQ F.slot_int_index.lookup
    (call_meets F.slot_int_rmul (typeIs_int s k t) F.entry_int_rmul (F.args_int_rmul_2 _ _) (IJ k t a its.toArray n dd sl) ⟨ho,rfl,⟨_,ho,rfl⟩,?_⟩)
  refine wpAny_call_entry F.slot_tuple_mul ⟨_,ho,rfl⟩ F.entry_tuple_mul ?_ (F.args_tuple_mul_2 _ _)
  unfold Builtin.«tuple.__mul__»
  wp_walk using AutoSeq1.wpAny_loadPart' ho
  rw [if_neg (show ¬ (decide (k < -2 ^ 63) || decide (k ≥ 2 ^ 63)) = true by
    rw[Bool.or_eq_true]
    rintro (z|z)
    ·have:=of_decide_eq_true z;omega
    ·have:=of_decide_eq_true z;omega)]
  wp_walk using AutoSeq1.wpAny_loadPart' ho
  by_cases h1:k=1
  · subst h1
    rw[if_pos (show(its.toArray.isEmpty||(1:Int)==1)=true by simp)]
    wp_walk using AutoSeq1.wpAny_loadPart' ho
    exact⟨_,rfl,.ref a,H,I,rfl,q1 rfl⟩
  · have hemp : its.toArray.isEmpty = false := by
      cases its with
      |nil=>rw[List.length_nil]at hl;omega
      |cons b bs=>rfl
    rw[if_neg (show¬(its.toArray.isEmpty||k==1)=true by rw[hemp];simpa using h1)]
    wp_walk using AutoSeq1.wpAny_loadPart' ho
    have hmul:((its.toArray.size:Int)*k)=((xs.length*k.toNat:Nat):Int):=by
      rw[hsz,Int.natCast_mul]
      congr 1
      omega
    rw [if_neg (show ¬ (decide (k ≤ 0) || its.toArray.isEmpty) = true by
      rw[hemp,Bool.or_false]
      intro z
      have:=of_decide_eq_true z
      omega)]
    wp_walk
    rw [if_neg (show ¬ ((its.toArray.size : Int) * k > (2 ^ 63 - 1) / 8) by
      rw[hmul]
      have:(sizeLine:Nat)≤(2^63-1) / 8:=by decide
      omega)]
    wp_walk
    rw [if_neg (show ¬ Builtin.Tuple.tupleTooMany ((its.toArray.size : Int) * k) = true by
      unfold Builtin.Tuple.tupleTooMany
      rw[hmul]
      intro z
      have:=of_decide_eq_true z
      omega)]
    rw[TZ]
    wp_walk
    have hlen:(List.replicate k.toNat its).flatten.length≤sizeLine:=by rw[len_rep,Nat.mul_comm,←hl];exact hz
    rw[if_neg (show¬((List.replicate k.toNat its).flatten.toArray.size>sizeLine) by rw[List.size_toArray];omega)]
    wp_walk
    refine⟨_,rfl,.ref _,_,I.laid (o:=.tup (List.replicate k.toNat xs).flatten) (t':=s.toks) (fun b ob q=>Heap.get?_push_of_some _ q) (Nat.le_refl _) ?_,rfl,q2 h1 _ (I.hok.fresh (Nat.le_refl _))⟩
    exact⟨by rw[len_rep,Nat.mul_comm];exact hz,_,r.rep k.toNat,PyProof.Rows.IsTup.new _ _⟩
mutual
noncomputable def D.py:D->PyData
 | .non=>.none| .bl b=>.bool b| .int i=>.int i| .str x=>.str x| .ty _=>.none
 | .tup ds=>.tuple (D.pys ds)| .lst ds=>.list (D.pys ds)| .dct _=>.none| .scr _=>.none| .ref _=>.none
noncomputable def D.pys:List D->List PyData
 | []=>[]
 |d::ds=>D.py d::D.pys ds
end
mutual
noncomputable def D.lay:D->Bool
 | .non=>true| .bl _=>true| .int _=>true| .str x=>PySem.PyData.strOk x| .ty _=>false| .dct _=>false| .scr _=>false| .ref _=>false
 | .tup ds=>D.lays ds| .lst ds=>D.lays ds
noncomputable def D.lays:List D->Bool
 | []=>true
 |d::ds=>D.lay d && D.lays ds
end
mutual
theorem Kv:∀{d:D},d.lay=true->d.py.canLay0=true
 | .non,_=>rfl
 | .bl _,_=>rfl
 | .int _,_=>rfl
 | .str x,h=>h
 | .ty _,h=>Bool.noConfusion h
 | .dct _,h=>Bool.noConfusion h
 | .scr _,h=>Bool.noConfusion h
 | .ref _,h=>Bool.noConfusion h
 | .tup ds,h=>by show PyData.canLayAll0 (D.pys ds)=true;exact N6 h
 | .lst ds,h=>by show PyData.canLayAll0 (D.pys ds)=true;exact N6 h
theorem N6:∀{ds:List D},D.lays ds=true->PyData.canLayAll0 (D.pys ds)=true
  | [],_=>rfl
  | d :: ds, h => by
    have h':(D.lay d && D.lays ds)=true:=h
    rw[Bool.and_eq_true]at h'
    show(PyData.canLay0 d.py && PyData.canLayAll0 (D.pys ds))=true
    rw[Kv h'.1,N6 h'.2];rfl
end
section
variable{X:Cx}{pins:List (Addr×Obj)}{σ:Sg}{H:Hp}{s:Shared}{M:Ms}
theorem LK(I:Inv X pins σ H s){a:Addr}{xs:List V}(h:Rd H a (.lst xs)):∃its:List Value,Vals xs its/\∃o n,s.heap.get? a=some o/\o.cls=.type "list" /\o.data=.seq its.toArray n:=by
 obtain⟨z,its,n,r,e⟩:=h.ok I.hok
 exact⟨its,r,_,n,e,rfl,rfl⟩
mutual
theorem Dc.reads(I:Inv X pins σ H s):∀{v:V} {d:D} {u:Value},Dc X.K M H v d->RelV v u->d.lay=true->∃as,Reads s.heap u d.py as
  |_,_,_,.non,r,_=>by cases r;exact⟨_,.none⟩
  |_,_,_,.bl b,r,_=>by cases r;exact⟨_,.bool b⟩
  |_,_,_,.int b,r,_=>by obtain⟨t,rfl⟩:=r;exact⟨_,.int b t⟩
  |_,_,_,.str b,r,_=>by obtain⟨t,rfl⟩:=r;exact⟨_,.str b t⟩
  |_,_,_,.ty _,_,h=>Bool.noConfusion h
  |_,_,_,.dct _ _ _,_,h=>Bool.noConfusion h
  |_,_,_,.ref _,_,h=>Bool.noConfusion h
  |_,_,_,.scr _,_,h=>Bool.noConfusion h
  | _, _, _, .tup h rs, r, hl => by
    cases r
    obtain⟨its,rv,⟨o,e,hc,n,hd⟩,_⟩:=I.tuple h
    obtain⟨as,ra⟩:=Aq.reads I rs rv hl
    exact⟨as,.tuple e hc hd ra⟩
  | _, _, _, .lst h _ rs, r, hl => by
    cases r
    obtain⟨its,rv,o,n,e,hc,hd⟩:=LK I (.inl h)
    obtain⟨as,ra⟩:=Aq.reads I rs rv hl
    exact⟨_,.list e hc hd ra⟩
theorem Aq.reads(I:Inv X pins σ H s):∀{vs:List V} {ds:List D} {us:List Value},Aq X.K M H vs ds->Vals vs us->D.lays ds=true->∃as,ReadsAll s.heap us (D.pys ds) as
  |_,_,_,.nil,r,_=>by cases r;exact⟨_,.nil⟩
  | _, _, _, .cons (d := d) (ds := ds) h t, r, hl => by
    cases r with
    | cons r1 r2 =>
      have hl':(D.lay d && D.lays ds)=true:=hl
      rw[Bool.and_eq_true]at hl'
      obtain⟨as,ra⟩:=Dc.reads I h r1 hl'.1
      obtain⟨bs,rb⟩:=Aq.reads I t r2 hl'.2
      exact⟨_,.cons ra rb⟩
end
end
noncomputable def deq(a b:D):Bool:=PyData.eqv a.py b.py
noncomputable def B2(a b:D):Bool:=a.lay && b.lay && decide (min a.py.depth b.py.depth≤60)
noncomputable def wEq:Op2:=fun a b=>if B2 (fz a) (fz b)=true then some (.val (.bl (deq (fz a) (fz b))))else none
noncomputable def wNe:Op2:=fun a b=>if B2 (fz a) (fz b)=true then some (.val (.bl (!deq (fz a) (fz b))))else none
section
variable{X:Cx}
theorem Sh.reads{pins:List (Addr×Obj)}{σ:Sg}{H:Hp}{s:Shared}{M:Ms}{v:V}{u:Value}{w:Wv}(h:Sh X.K M H v w)(I:Inv X pins σ H s)(r:RelV v u)(hl:(fz w).lay=true):∃as,Reads s.heap u (fz w).py as:=by
  cases w with
  |val d=>exact Dc.reads I h r hl
  | own ds =>
    obtain⟨a,xs,rfl,h1,h2⟩:=h
    cases r
    obtain⟨its,rv,o,n,e,hc,hd⟩:=LK I (.inl h1)
    obtain⟨as,ra⟩:=Aq.reads I h2 rv hl
    exact⟨_,.list e hc hd ra⟩
theorem Bo(hu:X.A.units+100<cLine):OpR X (compareOp .Eq) (rOp X.K wEq):=by
 intro pins s σ H x y v u Q I rx ry h
 obtain⟨M,w1,w2,r,e,mo,s1,s2,q⟩:=h
 unfold wEq at e
 split at e
 ·rename_i hk
  unfold B2 at hk
  rw[Bool.and_eq_true,Bool.and_eq_true]at hk
  cases e
  obtain⟨as,ra⟩:=s1.reads I rx hk.1.1
  obtain⟨bs,rb⟩:=s2.reads I ry hk.1.2
  have hd:=of_decide_eq_true hk.2
  exact SeqAt.compareEq_reads ra rb (Kv hk.1.1) (Kv hk.1.2) (by omega) ⟨.bl _,H,I,rfl,q _ _ (.same mo (.bl _))⟩
 ·cases e
theorem Ek(hu:X.A.units+100<cLine):OpR X (compareOp .NotEq) (rOp X.K wNe):=by
 intro pins s σ H x y v u Q I rx ry h
 obtain⟨M,w1,w2,r,e,mo,s1,s2,q⟩:=h
 unfold wNe at e
 split at e
 ·rename_i hk
  unfold B2 at hk
  rw[Bool.and_eq_true,Bool.and_eq_true]at hk
  cases e
  obtain⟨as,ra⟩:=s1.reads I rx hk.1.1
  obtain⟨bs,rb⟩:=s2.reads I ry hk.1.2
  have hd:=of_decide_eq_true hk.2
  exact SeqAt.compareNe_reads ra rb (Kv hk.1.1) (Kv hk.1.2) (by omega) ⟨.bl _,H,I,rfl,q _ _ (.same mo (.bl _))⟩
 ·cases e
noncomputable def wI2(f:Int->Int->Option D):Op2
 | .val (.int i),.val (.int j)=>(f i j).map .val
 |_,_=>none
theorem Qn{g:Value->Value->Sem Value}{C:Int->Int->Prop}{h:Int->Int->V}{f:Int->Int->Option D}(o:OpR X g (rI C h))(hf:∀i j d,f i j=some d->C i j/\∀K M H,Dc K M H (h i j) d):OpR X g (rOp X.K (wI2 f)):=by
  intro pins s σ H x y v u Q I rx ry hh
  obtain⟨M,w1,w2,r,e,mo,s1,s2,q⟩:=hh
  unfold wI2 at e
  split at e
  · cases s1
    cases s2
    rename_i i j
    cases e1:f i j with
    |none=>rw[e1]at e;cases e
    | some d =>
      rw[e1]at e
      cases e
      obtain⟨c,rd⟩:=hf i j d e1
      exact o pins s σ H _ _ v u Q I rx ry ⟨i,j,rfl,rfl,c,q _ _ (.same mo (rd _ _ _))⟩
  ·cases e
theorem L1{g:Value->Value->Sem Value}{h:Int->Int->V}{f:Int->Int->Option D}(o:OpR X g (rI0 h))(hf:∀i j d,f i j=some d->∀K M H,Dc K M H (h i j) d):OpR X g (rOp X.K (wI2 f)):=by
  intro pins s σ H x y v u Q I rx ry hh
  obtain⟨M,w1,w2,r,e,mo,s1,s2,q⟩:=hh
  unfold wI2 at e
  split at e
  · cases s1
    cases s2
    rename_i i j
    cases e1:f i j with
    |none=>rw[e1]at e;cases e
    | some d =>
      rw[e1]at e
      cases e
      exact o pins s σ H _ _ v u Q I rx ry ⟨i,j,rfl,rfl,q _ _ (.same mo (hf i j d e1 _ _ _))⟩
  ·cases e
noncomputable def JU:Op2:=wI2 fun i j=>some (.int (i-j))
noncomputable def YJ:Nat:=2^60000
noncomputable def GS:Nat:=2^8000
noncomputable def Dr(i j:Int):Bool:=decide (i.natAbs<2^64)||(decide (j.natAbs<2^64)||(decide (i.natAbs<YJ) && decide (j.natAbs<YJ)))
theorem aa:OpR X (binaryOp .Mult) (rI (fun i j=>Dr i j=true) fun i j=>.int (i*j)):=by
 intro pins s σ H x y v u Q I rx ry h
 obtain⟨i,j,rfl,rfl,hk,q⟩:=h
 unfold Dr at hk
 rw[Bool.or_eq_true,Bool.or_eq_true,Bool.and_eq_true]at hk
 rcases hk with hk|hk|hk
 ·have:=of_decide_eq_true hk
  exact YU pins s σ H _ _ v u Q I rx ry ⟨i,j,rfl,rfl,.inl ⟨by omega,by omega⟩,q⟩
 ·have:=of_decide_eq_true hk
  exact YU pins s σ H _ _ v u Q I rx ry ⟨i,j,rfl,rfl,.inr ⟨by omega,by omega⟩,q⟩
 ·have h1:i.natAbs<2^60000:=of_decide_eq_true hk.1
  have h2:j.natAbs<2^60000:=of_decide_eq_true hk.2
  obtain⟨t1,rfl⟩:=rx
  obtain⟨t2,rfl⟩:=ry
  exact PyProof.Rows.mul_int ⟨.int _,H,I.tok _,⟨_,rfl⟩,q⟩ (PyProof.Rows.mulOk_of_bits (m:=60000) (n:=60000) (PySem.intBits_le_iff.mpr h1) (PySem.intBits_le_iff.mpr h2) (by decide))
noncomputable def bf:Op2:=wI2 fun i j=>if Dr i j=true then some (.int (i*j))else none
noncomputable def NX:Op2:=wI2 fun i j=>if(decide (0<j) && decide (j.natAbs<GS))=true then some (.int (i / j))else none
noncomputable def PX:Op2:=wI2 fun i j=>if 0<j then some (.int (i % j))else none
noncomputable def ZV:Op2:=wI2 fun i j=>if(decide (0≤j) && decide (j≤1000) && decide (i.natAbs<2^64))=true then some (.int (i^j.toNat))else none
noncomputable def wLt:Op2:=wI2 fun i j=>some (.bl (decide (i<j)))
noncomputable def wLe:Op2:=wI2 fun i j=>some (.bl (decide (i≤j)))
noncomputable def wGt:Op2:=wI2 fun i j=>some (.bl (decide (j<i)))
noncomputable def wGe:Op2:=wI2 fun i j=>some (.bl (decide (j≤i)))
theorem Cz:OpR X (binaryOp .Sub) (rOp X.K JU):=L1 bx fun i j d e K M H=>by cases e;exact .int _
theorem ZU:OpR X (binaryOp .Mult) (rOp X.K bf):=Qn aa fun i j d e=>by
 split at e
 ·rename_i hk
  cases e
  exact⟨hk,fun _ _ _=>.int _⟩
 ·cases e
theorem Gk:OpR X (binaryOp .FloorDiv) (rOp X.K NX):=Qn St.XD fun i j d e=>by
 split at e
 ·rename_i hk
  rw[Bool.and_eq_true]at hk
  cases e
  exact⟨⟨of_decide_eq_true hk.1,of_decide_eq_true hk.2⟩,fun _ _ _=>.int _⟩
 ·cases e
theorem GH:OpR X (binaryOp .Mod) (rOp X.K PX):=Qn dc fun i j d e=>by
 split at e
 ·rename_i hk
  cases e
  exact⟨hk,fun _ _ _=>.int _⟩
 ·cases e
theorem Pg:OpR X (binaryOp .Pow) (rOp X.K ZV):=Qn cW fun i j d e=>by
 split at e
 ·rename_i hk
  rw[Bool.and_eq_true,Bool.and_eq_true]at hk
  cases e
  have:=of_decide_eq_true hk.1.2
  exact⟨⟨of_decide_eq_true hk.1.1,by omega,of_decide_eq_true hk.2⟩,fun _ _ _=>.int _⟩
 ·cases e
theorem G9:OpR X (compareOp .Lt) (rOp X.K wLt):=L1 iY fun i j d e K M H=>by cases e;exact .bl _
theorem LA:OpR X (compareOp .LtE) (rOp X.K wLe):=L1 aP fun i j d e K M H=>by cases e;exact .bl _
theorem FY:OpR X (compareOp .Gt) (rOp X.K wGt):=L1 gr fun i j d e K M H=>by cases e;exact .bl _
theorem Xq:OpR X (compareOp .GtE) (rOp X.K wGe):=L1 gg fun i j d e K M H=>by cases e;exact .bl _
noncomputable def asL:Wv->Option (List D)
 | .own ds=>some ds
 | .val (.lst ds)=>some ds
 |_=>none
noncomputable def asT:Wv->Option (List D)
 | .val (.tup ds)=>some ds
 |_=>none
noncomputable def asC:Wv->Option (List D)
 | .val (.scr ns)=>some (ns.map .int)
 |_=>none
noncomputable def asS(w:Wv):Option (List D):=(asL w).or ((asT w).or (asC w))
section
variable{K:PySem.W.Frag}{M:Ms}{H:Hp}{v:V}{w:Wv}{ds:List D}
theorem Sh.l(h:Sh K M H v w)(e:asL w=some ds):∃a xs,v=.ref a/\H a=some (.lst xs)/\Aq K M H xs ds:=by
  cases w with
  |own es=>cases e;obtain⟨a,xs,rfl,h1,h2⟩:=h;exact⟨a,xs,rfl,h1,h2⟩
  | val d =>
    cases d<;>first|(cases e;done)|skip
    cases e
    cases h with
    |lst h n r=>exact⟨_,_,rfl,h,r⟩
theorem Sh.t(h:Sh K M H v w)(e:asT w=some ds):∃a xs,v=.ref a/\SqT K H a xs/\Aq K M H xs ds:=by
  cases w with
  |own es=>cases e
  | val d =>
    cases d<;>first|(cases e;done)|skip
    cases e
    cases h with
    |tup h r=>exact⟨_,_,rfl,h,r⟩
theorem Nk:∀{ns:List Int},Aq K M H (ns.map V.int) (ns.map D.int)
 | []=>.nil
 |n::ns=>.cons (.int n) Nk
theorem Sh.c(h:Sh K M H v w)(e:asC w=some ds):∃a xs,v=.ref a/\SqL K H a xs/\Aq K M H xs ds:=by
  cases w with
  |own es=>cases e
  | val d =>
    cases d<;>first|(cases e;done)|skip
    cases e
    cases h with
    | scr h =>
      refine⟨_,_,rfl,?_,Nk⟩
      rcases h with h|h
      ·exact .inl h.1
      ·exact .inr h
theorem Sh.s(h:Sh K M H v w)(e:asS w=some ds):∃a xs,v=.ref a/\(SqL K H a xs∨SqT K H a xs)/\Aq K M H xs ds:=by
  unfold asS at e
  cases e1:asL w with
  | some es =>
    rw[e1]at e
    cases e
    obtain⟨a,xs,h1,h2,h3⟩:=h.l e1
    exact⟨a,xs,h1,.inl (.of h2),h3⟩
  | none =>
    rw[e1]at e
    cases e2:asT w with
    | some es =>
      rw[e2]at e
      cases e
      obtain⟨a,xs,h1,h2,h3⟩:=h.t e2
      exact⟨a,xs,h1,.inr h2,h3⟩
    | none =>
      rw[e2]at e
      obtain⟨a,xs,h1,h2,h3⟩:=h.c e
      exact⟨a,xs,h1,.inl h2,h3⟩
end
noncomputable def GC:Op1:=fun w=>match w with
 | .val (.str z)=>if z.length≤sizeLine then some (.val (.int z.length))else none
 |_=>(asS w).map fun ds=>.val (.int ds.length)
theorem Au : Eb X (.builtin "len") (rN X.K (o1 GC)) := by
  intro pins s σ H xs us Q I r h
  obtain⟨M,ws,w,e,mo,sh,q⟩:=h
  cases sh with
  |nil=>cases e
  | cons h1 t =>
    cases t with
    |cons h2 t=>cases e
    | nil =>
      rename_i v w1
      have e':GC w1=some w:=e
      unfold GC at e'
      split at e'
      · split at e'
        · rename_i z hz
          cases e'
          cases h1
          exact PC pins s σ H _ us Q I r ⟨z,rfl,hz,q _ _ (.same mo (.int _))⟩
        ·cases e'
      · cases e1 : asS w1 with
        |none=>rw[e1]at e';cases e'
        | some ds =>
          rw[e1]at e'
          cases e'
          obtain⟨a,ys,rfl,h3,h4⟩:=h1.s e1
          refine Oy pins s σ H _ us Q I r ⟨a,ys,rfl,h3,q _ _ ?_⟩
          rw[h4.length]
          exact .same mo (.int _)
noncomputable def wIx:Op2:=fun a b=>match a,b with
 |a,.val (.int i)=>(asS a).bind fun ds=>(atI ds i).map .val
 |_,_=>none
theorem ZF{K:PySem.W.Frag}{M:Ms}{H:Hp}{xs:List V}{ds:List D}{i:Int}{d:D}(h:Aq K M H xs ds)(e:atI ds i=some d):∃x,atI xs i=some x/\Dc K M H x d:=by
  unfold atI at e⊢
  rw[h.length]
  cases e1:ixN ds.length i with
  |none=>rw[e1]at e;cases e
  | some j =>
    rw[e1]at e
    exact h.get e
theorem Ah:IxR X (rOp X.K wIx):=by
  intro value slice pins s σ H x y v u Q I rx ry h hs
  obtain⟨M,w1,w2,r,e,mo,s1,s2,q⟩:=h
  unfold wIx at e
  split at e
  · rename_i i
    cases e1:asS w1 with
    |none=>rw[e1]at e;cases e
    | some ds =>
      rw[e1]at e
      simp only[Option.bind_some]at e
      cases e2:atI ds i with
      |none=>rw[e2]at e;cases e
      | some d =>
        rw[e2]at e
        cases e
        cases s2
        obtain⟨a,ys,rfl,h3,h4⟩:=s1.s e1
        obtain⟨z,h5,h6⟩:=ZF h4 e2
        rcases h3 with h3|h3
        ·exact Z1 value slice pins s σ H _ _ v u Q I rx ry ⟨a,ys,i,z,rfl,rfl,h3,h5,q _ _ (.same mo h6)⟩ hs
        ·exact cZ value slice pins s σ H _ _ v u Q I rx ry ⟨a,ys,i,z,rfl,rfl,h3,h5,q _ _ (.same mo h6)⟩ hs
  ·cases e
end
section
variable{X:Cx}
noncomputable def B9:Op2:=fun a b=>match a,b with
 | .val (.int i),.val (.int j)=>some (.val (.int (i+j)))
 | .val (.str x),.val (.str y)=>if x.length+y.length≤sizeLine then some (.val (.str (x++y)))else none
 | .val (.tup xs),.val (.tup ys)=>if xs.length+ys.length≤sizeLine then some (.val (.tup (xs++ys)))else none
 |a,b=>(asL a).bind fun xs=>(asL b).bind fun ys=>if xs.length+ys.length≤sizeLine then some (.own (xs++ys))else none
theorem Ag : OpR X (binaryOp .Add) (rOp X.K B9) := by
  intro pins s σ H x y v u Q I rx ry h
  obtain⟨M,w1,w2,r,e,mo,s1,s2,q⟩:=h
  unfold B9 at e
  split at e
  · cases e
    cases s1;cases s2
    exact cG pins s σ H _ _ v u Q I rx ry ⟨_,_,rfl,rfl,q _ _ (.same mo (.int _))⟩
  · split at e
    · cases e
      cases s1;cases s2
      exact Q6 pins s σ H _ _ v u Q I rx ry ⟨_,_,rfl,rfl,by assumption,q _ _ (.same mo (.str _))⟩
    ·cases e
  · split at e
    · rename_i xs ys hz
      cases e
      cases s1 with
      | tup h1 r1 =>
        cases s2 with
        | tup h2 r2 =>
          rename_i a xs' b ys'
          have l1:=r1.length
          have l2:=r2.length
          by_cases hx:xs'=[]
          · subst hx
            cases r1
            refine St.Zi pins s σ H _ _ v u Q I rx ry ⟨_,_,_,rfl,rfl,h1,h2,q _ _ (.same mo ?_)⟩
            exact .tup h2 r2
          · refine Y8 pins s σ H _ _ v u Q I rx ry ⟨_, _, _, _, rfl, rfl, h1, h2, hx, by omega, fun z => ?_, fun _ p hp => q _ _ (.tup mo hp (r1.append r2))⟩
            subst z
            cases r2
            rw[List.append_nil]at q
            exact q _ _ (.same mo (.tup h1 r1))
    ·cases e
  · cases e1 : asL w1 with
    |none=>rw[e1]at e;cases e
    | some xs =>
      rw[e1]at e
      cases e2:asL w2 with
      |none=>rw[e2]at e;cases e
      | some ys =>
        rw[e2]at e
        simp only[Option.bind_some]at e
        split at e
        · rename_i hz
          cases e
          obtain⟨a,xs',rfl,h1,r1⟩:=s1.l e1
          obtain⟨b,ys',rfl,h2,r2⟩:=s2.l e2
          have l1:=r1.length
          have l2:=r2.length
          exact bY pins s σ H _ _ v u Q I rx ry ⟨a,b,xs',ys',rfl,rfl,h1,h2,by omega,fun p hp=>q _ _ (.lst mo hp (r1.append r2))⟩
        ·cases e
noncomputable def gH:Op2:=fun a b=>match a,b with
 | .val (.int i),.val (.int j)=>if Dr i j=true then some (.val (.int (i*j)))else none
 | .val (.tup xs),.val (.int k)=>if(!xs.isEmpty && decide (1≤k) && decide (xs.length*k.toNat≤sizeLine))=true then some (.val (.tup (List.replicate k.toNat xs).flatten))else none
 |a,.val (.int k)=>(asL a).bind fun xs=>if(decide (k<2^63) && decide (-(2^63)≤k) && decide (xs.length*k.toNat≤sizeLine))=true then some (.own (List.replicate k.toNat xs).flatten)else none
 |_,_=>none
theorem Aq.rep{K:PySem.W.Frag}{M:Ms}{H:Hp}{xs:List V}{ds:List D}(h:Aq K M H xs ds):∀n:Nat,Aq K M H (List.replicate n xs).flatten (List.replicate n ds).flatten
  |0=>.nil
  | n + 1 => by
    rw[List.replicate_succ,List.replicate_succ,List.flatten_cons,List.flatten_cons]
    exact h.append (Aq.rep h n)
theorem R5 : OpR X (binaryOp .Mult) (rOp X.K gH) := by
  intro pins s σ H x y v u Q I rx ry h
  obtain⟨M,w1,w2,r,e,mo,s1,s2,q⟩:=h
  unfold gH at e
  split at e
  · rename_i i j
    refine ZU pins s σ H x y v u Q I rx ry ⟨M,_,_,r,?_,mo,s1,s2,q⟩
    unfold bf wI2
    show Option.map Wv.val (if Dr i j=true then some (D.int (i*j))else none)=some r
    split at e
    · rename_i hk
      rw[if_pos hk]
      exact e
    ·cases e
  · rename_i xs k
    split at e
    · rename_i hk
      rw[Bool.and_eq_true,Bool.and_eq_true]at hk
      cases e
      cases s2
      cases s1 with
      | @tup a ys _ h1 r1=>
        have l1:=r1.length
        have z:=of_decide_eq_true hk.2
        have hk1:=of_decide_eq_true hk.1.2
        have hne:ys≠[]:=fun zz=>by
          subst zz
          cases r1
          exact absurd hk.1.1 (by decide)
        refine Zk pins s σ H _ _ v u Q I rx ry ⟨a,ys,k,rfl,rfl,h1,hne,hk1,by rw[l1];exact z,fun e1=>?_,fun _ p hp=>q _ _ (.tup mo hp (r1.rep _))⟩
        subst e1
        have:(List.replicate (1:Int).toNat xs).flatten=xs:=by simp
        rw[this]at q
        exact q _ _ (.same mo (.tup h1 r1))
    ·cases e
  · rename_i k hn hn2
    cases e1:asL w1 with
    |none=>rw[e1]at e;cases e
    | some xs =>
      rw[e1]at e
      simp only[Option.bind_some]at e
      split at e
      · rename_i hk
        rw[Bool.and_eq_true,Bool.and_eq_true]at hk
        cases e
        cases s2
        obtain⟨a,xs',rfl,h1,r1⟩:=s1.l e1
        have l1:=r1.length
        have z:=of_decide_eq_true hk.2
        exact dF pins s σ H _ _ v u Q I rx ry ⟨a,k,xs',rfl,rfl,h1,of_decide_eq_true hk.1.2,of_decide_eq_true hk.1.1,by rw[l1];exact z,fun p hp=>q _ _ (.lst mo hp (r1.rep _))⟩
      ·cases e
  ·cases e
noncomputable def Pw:Op1
 | .val (.int i)=>some (.val (.int (-i)))
 |_=>none
theorem Js:UnR X (unaryOp .USub) (rUn X.K Pw):=by
 intro pins s σ H x v Q I rx h
 obtain⟨M,w,r,e,mo,s1,q⟩:=h
 unfold Pw at e
 split at e
 ·cases e
  cases s1
  exact YM pins s σ H _ v Q I rx ⟨_,rfl,q _ _ (.same mo (.int _))⟩
 ·cases e
noncomputable def HJ:D->Bool
 | .non=>true| .bl _=>true| .int _=>true| .str _=>true
 |_=>false
theorem Sh.flat{K:PySem.W.Frag}{M:Ms}{H:Hp}{v:V}{w:Wv}(h:Sh K M H v w)(f:HJ (fz w)=true):Dc K M H v (fz w):=by
 cases w with
 |val d=>exact h
 |own ds=>cases f
noncomputable def inD(x:D)(xs:List D):Bool:=xs.any fun y=>deq y x
theorem QV{K:PySem.W.Frag}{M:Ms}{H:Hp}{v:V}{d:D}(h:Dc K M H v d)(f:HJ d=true):MU v=true:=by
 cases h<;>first|rfl|cases f
theorem Z2{K:PySem.W.Frag}{M:Ms}{H:Hp}{v u:V}{d e:D}(h:Dc K M H v d)(g:Dc K M H u e)(f:HJ d=true)(f':HJ e=true):eqV v u=deq d e:=by
 cases h<;>first|(cases f;done)|skip
 all_goals (cases g<;>first|(cases f';done)|rfl)
theorem OJ{K:PySem.W.Frag}{M:Ms}{H:Hp}:∀{vs:List V} {ds:List D},Aq K M H vs ds->ds.all HJ=true->vs.all MU=true
  |_,_,.nil,_=>rfl
  | _, _, .cons h t, f => by
    rw[List.all_cons,Bool.and_eq_true]at f⊢
    exact⟨QV h f.1,OJ t f.2⟩
theorem R8{K:PySem.W.Frag}{M:Ms}{H:Hp}{u:V}{e:D}(g:Dc K M H u e)(f':HJ e=true):∀{vs:List V} {ds:List D},Aq K M H vs ds->ds.all HJ=true->inV u vs=inD e ds
  |_,_,.nil,_=>rfl
  | _, _, .cons h t, f => by
    rw[List.all_cons,Bool.and_eq_true]at f
    have ih:=R8 g f' t f.2
    unfold inV inD at ih⊢
    rw[List.any_cons,List.any_cons,ih,Z2 h g f.1 f']
noncomputable def wIn(neg:Bool):Op2:=fun a b=>(asS b).bind fun ds=>if(HJ (fz a) && ds.all HJ)=true then some (.val (.bl (if neg then !inD (fz a) ds else inD (fz a) ds)))else none
theorem Yb{M:Ms}{H:Hp}{x y:V}{w1 w2 r:Wv}{neg:Bool}{Q:VK}(e:wIn neg w1 w2=some r)(mo:MOk M H)(s1:Sh X.K M H x w1)(s2:Sh X.K M H y w2)(q:∀v H',Nw X.K M H H' v r->Q v H'):rIn X.K neg x y H Q:=by
  unfold wIn at e
  cases e1:asS w2 with
  |none=>rw[e1]at e;cases e
  | some ds =>
    rw[e1]at e
    simp only[Option.bind_some]at e
    split at e
    · rename_i hk
      rw[Bool.and_eq_true]at hk
      cases e
      obtain⟨a,xs,rfl,h3,h4⟩:=s2.s e1
      have g1:=s1.flat hk.1
      refine⟨a,xs,rfl,h3,QV g1 hk.1,OJ h4 hk.2,?_⟩
      rw[R8 g1 hk.1 h4 hk.2]
      exact q _ _ (.same mo (.bl _))
    ·cases e
theorem YY:OpR X (compareOp .In) (rOp X.K (wIn false)):=by
 intro pins s σ H x y v u Q I rx ry h
 obtain⟨M,w1,w2,r,e,mo,s1,s2,q⟩:=h
 exact SI pins s σ H _ _ v u Q I rx ry (Yb e mo s1 s2 q)
theorem OT:OpR X (compareOp .NotIn) (rOp X.K (wIn true)):=by
 intro pins s σ H x y v u Q I rx ry h
 obtain⟨M,w1,w2,r,e,mo,s1,s2,q⟩:=h
 exact PH pins s σ H _ _ v u Q I rx ry (Yb e mo s1 s2 q)
noncomputable def isN:Wv->Bool
 | .val .non=>true
 |_=>false
noncomputable def fo(neg:Bool):Op2:=fun a b=>match b with
 | .val .non=>some (.val (.bl (if neg then !isN a else isN a)))
 |_=>none
theorem Zm{K:PySem.W.Frag}{M:Ms}{H:Hp}{x:V}{w:Wv}(s:Sh K M H x w):decide (x=.non)=isN w:=by
 cases w with
 |own ds=>obtain⟨a,xs,rfl,_⟩:=s;rfl
 |val d=>cases s<;>rfl
theorem Yt:OpR X (compareOp .Is) (rOp X.K (fo false)):=by
 intro pins s σ H x y v u Q I rx ry h
 obtain⟨M,w1,w2,r,e,mo,s1,s2,q⟩:=h
 unfold fo at e
 split at e
 ·cases e
  cases s2
  refine dQ pins s σ H _ _ v u Q I rx ry ⟨rfl,?_⟩
  rw[Zm s1]
  exact q _ _ (.same mo (.bl _))
 ·cases e
theorem Ie{K:PySem.W.Frag}{M:Ms}{H:Hp}{xs:List V}{ws:List Wv}{f:Op1}{r:Wv}(h:Shs K M H xs ws)(e:o1 f ws=some r):∃v w,xs=[v]/\ws=[w]/\Sh K M H v w/\f w=some r:=by
  cases h with
  |nil=>cases e
  | cons h1 t =>
    cases t with
    |cons h2 t=>cases e
    |nil=>exact⟨_,_,rfl,rfl,h1,e⟩
theorem Py{K:PySem.W.Frag}{M:Ms}{H:Hp}{xs:List V}{ws:List Wv}{f:Op2}{r:Wv}(h:Shs K M H xs ws)(e:o2 f ws=some r):∃v w v' w',xs=[v,v']/\ws=[w,w']/\Sh K M H v w/\Sh K M H v' w'/\f w w'=some r:=by
  cases h with
  |nil=>cases e
  | cons h1 t =>
    cases t with
    |nil=>cases e
    | cons h2 t =>
      cases t with
      |cons h3 t=>cases e
      |nil=>exact⟨_,_,_,_,rfl,rfl,h1,h2,e⟩
noncomputable def aq:Op1
 | .val (.int i)=>some (.val (.int (if i<0 then-i else i)))
 |_=>none
theorem Lm:Eb X (.builtin "abs") (rN X.K (o1 aq)):=by
 intro pins s σ H xs us Q I r h
 obtain⟨M,ws,w,e,mo,sh,q⟩:=h
 obtain⟨v,w1,rfl,rfl,s1,e1⟩:=Ie sh e
 unfold aq at e1
 split at e1
 ·cases e1
  cases s1
  exact V8 pins s σ H _ us Q I r ⟨_,rfl,q _ _ (.same mo (.int _))⟩
 ·cases e1
noncomputable def eT:Op2:=wI2 fun i j=>some (.int (if j>i then j else i))
noncomputable def ao:Op2:=wI2 fun i j=>some (.int (if j<i then j else i))
theorem Ql{f:Int->Int->Option D}{a b r:Wv}(e:wI2 f a b=some r):∃i j d,a=.val (.int i)/\b=.val (.int j)/\f i j=some d/\r=.val d:=by
 unfold wI2 at e
 split at e
 ·rename_i i j
  cases e1:f i j with
  |none=>rw[e1]at e;cases e
  |some d=>rw[e1]at e;cases e;exact⟨i,j,d,rfl,rfl,e1,rfl⟩
 ·cases e
theorem UY(hc:X.calm=true):Eb X (.builtin "max") (rN X.K (o2 eT)):=by
 intro pins s σ H xs us Q I r h
 obtain⟨M,ws,w,e,mo,sh,q⟩:=h
 obtain⟨v,w1,v',w2,rfl,rfl,s1,s2,e1⟩:=Py sh e
 obtain⟨i,j,d,rfl,rfl,e2,rfl⟩:=Ql e1
 cases e2;cases s1;cases s2
 exact Sj hc pins s σ H _ us Q I r ⟨_,_,rfl,q _ _ (.same mo (.int _))⟩
theorem OL(hc:X.calm=true):Eb X (.builtin "min") (rN X.K (o2 ao)):=by
 intro pins s σ H xs us Q I r h
 obtain⟨M,ws,w,e,mo,sh,q⟩:=h
 obtain⟨v,w1,v',w2,rfl,rfl,s1,s2,e1⟩:=Py sh e
 obtain⟨i,j,d,rfl,rfl,e2,rfl⟩:=Ql e1
 cases e2;cases s1;cases s2
 exact Sl hc pins s σ H _ us Q I r ⟨_,_,rfl,q _ _ (.same mo (.int _))⟩
noncomputable def Fq:Op1:=fun w=>(asS w).map fun ds=>.val (.tup ds)
theorem CC:Eb X (.type "tuple") (rN X.K (o1 Fq)):=by
  intro pins s σ H xs us Q I r h
  obtain⟨M,ws,w,e,mo,sh,q⟩:=h
  obtain⟨v,w1,rfl,rfl,s1,e1⟩:=Ie sh e
  unfold Fq at e1
  cases e2:asS w1 with
  |none=>rw[e2]at e1;cases e1
  | some ds =>
    rw[e2]at e1
    cases e1
    obtain⟨a,ys,rfl,h3,h4⟩:=s1.s e2
    refine NM pins s σ H _ us Q I r ⟨a,ys,rfl,?_⟩
    rcases h3 with h3|h3
    ·exact .inl ⟨h3,fun l hl=>q _ _ (.tup mo hl h4)⟩
    ·exact .inr ⟨h3,q _ _ (.same mo (.tup h3 h4))⟩
noncomputable def Ia:Op1:=fun w=>(asS w).map fun ds=>.own ds
theorem FE:Eb X (.type "list") (rN X.K (o1 Ia)):=by
  intro pins s σ H xs us Q I r h
  obtain⟨M,ws,w,e,mo,sh,q⟩:=h
  obtain⟨v,w1,rfl,rfl,s1,e1⟩:=Ie sh e
  unfold Ia at e1
  cases e2:asS w1 with
  |none=>rw[e2]at e1;cases e1
  | some ds =>
    rw[e2]at e1
    cases e1
    obtain⟨a,ys,rfl,h3,h4⟩:=s1.s e2
    exact Ov pins s σ H _ us Q I r ⟨a,ys,rfl,h3,fun l hl=>q _ _ (.lst mo hl h4)⟩
noncomputable def Zo:Op1
 | .val (.int i)=>some (.val (.int i))
 | .val (.bl b)=>some (.val (.int (if b then 1 else 0)))
 |_=>none
theorem Lc:Eb X (.type "int") (rN X.K (o1 Zo)):=by
 intro pins s σ H xs us Q I r h
 obtain⟨M,ws,w,e,mo,sh,q⟩:=h
 obtain⟨v,w1,rfl,rfl,s1,e1⟩:=Ie sh e
 unfold Zo at e1
 split at e1
 ·cases e1;cases s1
  exact PD pins s σ H _ us Q I r (.inl ⟨_,rfl,q _ _ (.same mo (.int _))⟩)
 ·cases e1;cases s1
  exact PD pins s σ H _ us Q I r (.inr ⟨_,rfl,q _ _ (.same mo (.int _))⟩)
 ·cases e1
noncomputable def bB:Op1
 | .val (.int i)=>if i.natAbs.log2<1920 then some (.val (.str (toString i)))else none
 |_=>none
theorem Rz:Eb X (.type "str") (rN X.K (o1 bB)):=by
 intro pins s σ H xs us Q I r h
 obtain⟨M,ws,w,e,mo,sh,q⟩:=h
 obtain⟨v,w1,rfl,rfl,s1,e1⟩:=Ie sh e
 unfold bB at e1
 split at e1
 ·split at e1
  ·cases e1;cases s1
   exact PQ pins s σ H _ us Q I r ⟨_,rfl,by assumption,q _ _ (.same mo (.str _))⟩
  ·cases e1
 ·cases e1
noncomputable def blD:D->Option Bool
 | .bl b=>some b
 |_=>none
noncomputable def bls(ds:List D):Option (List Bool):=ds.mapM blD
theorem UN {K : PySem.W.Frag} {M : Ms} {H : Hp} : ∀ {vs : List V} {ds : List D} {bs : List Bool}, Aq K M H vs ds -> bls ds = some bs -> vs = bs.map V.bl
  |_,_,bs,.nil,e=>by cases e;rfl
  | _, _, bs, .cons (d := d) (ds := ds) h t, e => by
    unfold bls at e
    rw[List.mapM_cons]at e
    cases e1:blD d with
    |none=>rw[e1]at e;cases e
    | some b =>
      rw[e1]at e
      cases e2:ds.mapM blD with
      |none=>rw[e2]at e;cases e
      | some cs =>
        rw[e2]at e
        cases e
        have hd:d=.bl b:=by
          cases d<;>first|(cases e1;done)|skip
          cases e1;rfl
        subst hd
        cases h
        rw[List.map_cons,←UN t e2]
noncomputable def Q8:Op1:=fun w=>(asL w).bind fun ds=>(bls ds).map fun bs=>.val (.bl (bs.all id))
theorem D0(hc:X.calm=true):Eb X (.builtin "all") (rN X.K (o1 Q8)):=by
  intro pins s σ H xs us Q I r h
  obtain⟨M,ws,w,e,mo,sh,q⟩:=h
  obtain⟨v,w1,rfl,rfl,s1,e1⟩:=Ie sh e
  unfold Q8 at e1
  cases e2:asL w1 with
  |none=>rw[e2]at e1;cases e1
  | some ds =>
    rw[e2]at e1
    simp only[Option.bind_some]at e1
    cases e3:bls ds with
    |none=>rw[e3]at e1;cases e1
    | some bs =>
      rw[e3]at e1
      cases e1
      obtain⟨a,ys,rfl,h3,h4⟩:=s1.l e2
      exact St.US hc pins s σ H _ us Q I r ⟨a,bs,rfl,by rw[←UN h4 e3];exact .of h3,q _ _ (.same mo (.bl _))⟩
noncomputable def kdW:Wv->Option St.Kd
 | .own _=>some .lst
 | .val .non=>some .non| .val (.bl _)=>some .bl| .val (.int _)=>some .int| .val (.str _)=>some .str| .val (.lst _)=>some .lst| .val (.dct _)=>some .dct| .val (.tup _)=>some .tup
 | .val (.ty _)=>none| .val (.scr _)=>none| .val (.ref _)=>none
end
section
variable{X:Cx}
theorem Wc{K:PySem.W.Frag}(k:St.Kd):PySem.W.kitOne K (.type k.ty) (.type "list")=some (k.isA "list"):=by
 cases k<;>rfl
noncomputable def O8(T:String):Bool:=T== "int" ||T== "bool" ||T== "tuple" ||T== "str" ||T== "list"
theorem bz{K:PySem.W.Frag}{T:String}(h:O8 T=true)(k:St.Kd):PySem.W.kitOne K (.type k.ty) (.type T)=some (k.isA T):=by
 unfold O8 at h
 simp only[Bool.or_eq_true,beq_iff_eq]at h
 rcases h with(((rfl|rfl)|rfl)|rfl)|rfl
 ·exact St.ZN k
 ·exact St.Xn k
 ·exact St.kit_tuple k
 ·exact St.ZW k
 ·exact Wc k
noncomputable def Hh:Op2:=fun a t=>match t with
 | .val (.ty T)=>if O8 T=true then(kdW a).map fun k=>.val (.bl (k.isA T))else none
 |_=>none
theorem Az : Eb X (.builtin "isinstance") (rN X.K (o2 Hh)) := by
  intro pins s σ H xs us Q I r h
  obtain⟨M,ws,w,e,mo,sh,q⟩:=h
  obtain⟨v,w1,v',w2,rfl,rfl,s1,s2,e1⟩:=Py sh e
  unfold Hh at e1
  split at e1
  · rename_i T
    split at e1
    · rename_i hT
      cases e2:kdW w1 with
      |none=>rw[e2]at e1;cases e1
      | some k =>
        rw[e2]at e1
        cases e1
        cases s2
        obtain⟨u1,u2,rfl,r1,r2⟩:=r.two
        cases (show u2=Value.type T from r2)
        have fin:∀tk,EP X pins σ Q (.bool (k.isA T)) {s with toks:=tk}:=fun tk=>⟨.bl _,H,I.tok tk,rfl,q _ _ (.same mo (.bl _))⟩
        have kk:=bz (K:=X.K) hT k
        cases w1 with
        | own ds =>
          cases e2
          obtain⟨a,ys,rfl,h1,_⟩:=s1
          exact Fd I r1 (.lst h1) kk fin
        | val d =>
          have s1':Dc X.K M H v d:=s1
          cases s1' with
          |non=>cases e2;exact Fd I r1 .non kk fin
          |bl b=>cases e2;exact Fd I r1 (.bl b) kk fin
          |int b=>cases e2;exact Fd I r1 (.int b) kk fin
          |str b=>cases e2;exact Fd I r1 (.str b) kk fin
          |ty b=>cases e2
          |scr h=>cases e2
          |lst h n rr=>cases e2;exact Fd I r1 (.lst h) kk fin
          |dct h n rr=>cases e2;exact Fd I r1 (.dK h) kk fin
          |ref h=>cases e2
          | tup h rr =>
            cases e2
            rename_i a ys ds
            cases (show u1=Value.ref a from r1)
            obtain⟨its,_,⟨o,h1,h2,_⟩,_⟩:=I.tuple h
            exact PySem.W.kia_one PySem.W.kitx_tuple I.kIn ⟨o,h1,h2⟩ kk (fun z=>nomatch z) fin
    ·cases e1
  ·cases e1
noncomputable def BD(fs:List Ev):Ev:=fun E S=>(evs fs E S).bind fun r=>if r.1.length≤sizeLine then some (.tup r.1,r.2)else none
noncomputable def XF(c:Bool)(fs:List Ev):Ev:=fun E S=>(evs fs E S).bind fun r=>if r.1.length≤sizeLine then fin c (.own r.1) r.2 else none
abbrev Hj:=XF false
abbrev MT:=XF true
theorem Ar{es:List Expr}{fs:List Ev}{k:Nat}{pos:Pos}(h:DEs X es fs):DE X (.Tuple es k pos) (BD fs):=⟨Bb (bN h.pe) fun σ H Q z=>by
 obtain⟨M,E,S,d,S',e,r,st,q⟩:=z
 obtain⟨⟨ds,S1⟩,e1,e⟩:=BE e
 dsimp only at e
 split at e
 ·cases e
  refine H0 e1 r st fun vs H1 M1 g1 st1 d1=>⟨by rw[d1.length];assumption,fun p hp=>?_⟩
  have n:=Nw.tup st1.mo hp d1
  exact q _ _ M1 (g1.trans (.grow st1.mo n.grow)) (st1.grow n.grow) n.rel
 ·cases e⟩
theorem CN{c:Bool}{es:List Expr}{fs:List Ev}{pos:Pos}(h:DEs X es fs):DE X (.List es pos) (XF c fs):=⟨Bb (ay h.pe) fun σ H Q z=>by
 obtain⟨M,E,S,d,S',e,r,st,q⟩:=z
 obtain⟨⟨ds,S1⟩,e1,e⟩:=BE e
 dsimp only at e
 split at e
 ·refine H0 e1 r st fun vs H1 M1 g1 st1 d1=>⟨by rw[d1.length];assumption,fun p hp=>?_⟩
  obtain⟨M2,g2,st2,d2⟩:=(Nw.lst st1.mo hp d1).fin st1 e
  exact q _ _ M2 (g1.trans g2) st2 d2
 ·cases e⟩
noncomputable def C8(f g:Ev):Ev:=fun E S=>(f E S).bind fun r=>match r.1 with
 | .bl true=>g E r.2
 | .bl false=>some (.bl false,r.2)
 |_=>none
noncomputable def eOr(f g:Ev):Ev:=fun E S=>(f E S).bind fun r=>match r.1 with
 | .bl false=>g E r.2
 | .bl true=>some (.bl true,r.2)
 |_=>none
noncomputable def FL(f:Ev):Ev:=fun E S=>(f E S).bind fun r=>match r.1 with
 | .bl b=>some (.bl (!b),r.2)
 |_=>none
theorem Mp{K:PySem.W.Frag}{M:Ms}{H:Hp}{v:V}{b:Bool}(h:Dc K M H v (.bl b)):v=.bl b:=by cases h;rfl
variable{a b c:Expr}{rest:List Expr}{f g h:Ev}{pos:Pos}
theorem B7{op:BoolOp}(h:DE X a f):DE X (.BoolOp op [a] pos) f:=⟨cj h.pe⟩
theorem Bc(ha:DE X a f)(hb:DE X (.BoolOp .And (b::rest) pos) g):DE X (.BoolOp .And (a::b::rest) pos) (C8 f g):=⟨Bb (cB ha.pe hb.pe) fun σ H Q z=>by
 obtain⟨M,E,S,d,S',e,r,st,q⟩:=z
 obtain⟨⟨d1,S1⟩,e1,e⟩:=BE e
 dsimp only at e
 refine⟨M,E,S,d1,S1,e1,r,st,fun v H1 M1 g1 st1 r1=>?_⟩
 split at e
 ·cases Mp r1
  refine⟨_,rfl,?_⟩
  refine ZJ ?_
  exact⟨M1,E,S1,d,S',e,r.step g1.st,st1,fun v H2 M2 g2 st2 r2=>q _ _ M2 (g1.trans g2) st2 r2⟩
 ·cases e
  cases Mp r1
  refine⟨_,rfl,?_⟩
  refine ZY ?_
  exact q _ _ M1 g1 st1 r1
 ·cases e⟩
theorem aA(ha:DE X a f)(hb:DE X (.BoolOp .Or (b::rest) pos) g):DE X (.BoolOp .Or (a::b::rest) pos) (eOr f g):=⟨Bb (gj ha.pe hb.pe) fun σ H Q z=>by
 obtain⟨M,E,S,d,S',e,r,st,q⟩:=z
 obtain⟨⟨d1,S1⟩,e1,e⟩:=BE e
 dsimp only at e
 refine⟨M,E,S,d1,S1,e1,r,st,fun v H1 M1 g1 st1 r1=>?_⟩
 split at e
 ·cases Mp r1
  refine⟨_,rfl,?_⟩
  refine ZY ?_
  exact⟨M1,E,S1,d,S',e,r.step g1.st,st1,fun v H2 M2 g2 st2 r2=>q _ _ M2 (g1.trans g2) st2 r2⟩
 ·cases e
  cases Mp r1
  refine⟨_,rfl,?_⟩
  refine ZJ ?_
  exact q _ _ M1 g1 st1 r1
 ·cases e⟩
theorem bQ(ha:DE X a f):DE X (.UnaryOp .Not a pos) (FL f):=⟨Bb (az ha.pe) fun σ H Q z=>by
 obtain⟨M,E,S,d,S',e,r,st,q⟩:=z
 obtain⟨⟨d1,S1⟩,e1,e⟩:=BE e
 dsimp only at e
 split at e
 ·cases e
  refine⟨M,E,S,_,_,e1,r,st,fun v H1 M1 g1 st1 r1=>?_⟩
  cases Mp r1
  exact⟨_,rfl,q _ _ M1 g1 st1 (.bl _)⟩
 ·cases e⟩
noncomputable def tDT(K:PySem.W.Frag)(f:Ev):TT:=fun σ H Q=>∃M E S b S',f E S=some (.bl b,S')/\EnR K M E σ H/\StR K M S H/\∀H' M',Gr M H M' H'->StR K M' S' H'->Q b H'
structure DT(X:Cx)(e:Expr)(f:Ev):Prop where
 pe:PT X e (tDT X.K f)
structure DW(X:Cx)(e:Expr)(f:Ev):Prop where
 pe:PW X e (tDT X.K f)
theorem DW.dt(h:DW X a f):DT X a f:=⟨PW.pt h.pe⟩
theorem Wq{t:TE}(h:PT X a (eB t))(m:∀σ H Q,tD X.K f σ H Q->t σ H Q):DT X a f:=⟨Rr h fun σ H Q z=>by
 obtain⟨M,E,S,b,S',e,r,st,q⟩:=z
 refine m _ _ _ ⟨M,E,S,_,S',e,r,st,fun v H1 M1 g1 st1 r1=>?_⟩
 cases Mp r1
 exact⟨_,rfl,q _ M1 g1 st1⟩⟩
theorem BF(h:DE X a f)(he:∀whole,isTrue a X.env whole=(do let v←whole;standAt a.pos;holding [v] (truthy v)):=by intro _;rfl):DT X a f:=Wq (t:=tD X.K f) (cH h.pe he) fun _ _ _ z=>z
theorem Ak{fa fb:Ev}{op:CmpOp}{f:Op2}(ho:OpR X (compareOp op) (rOp X.K f))(ha:DE X a fa)(hb:DE X b fb)(hm:behindInMarks op b=false:=by rfl):DT X (.Compare a [op] [b] pos) (eOp (o2 f) [fa,fb]):=
 Wq (SR ho ha.pe hb.pe hm) fun _ _ _ h=>QW h
theorem BY(ha:DT X a f):DT X (.UnaryOp .Not a pos) (FL f):=⟨Rr (bp ha.pe) fun σ H Q z=>by
 obtain⟨M,E,S,b,S',e,r,st,q⟩:=z
 obtain⟨⟨w1,S1⟩,e1,e⟩:=BE e
 dsimp only at e
 split at e
 ·cases e
  exact⟨M,E,S,_,_,e1,r,st,q⟩
 ·cases e⟩
theorem F4(ha:DT X a f):DW X (.BoolOp .And [a] pos) f:=⟨ZK ha.pe⟩
theorem EA(ha:DT X a f):DW X (.BoolOp .Or [a] pos) f:=⟨dM ha.pe⟩
theorem TC{e:Expr}{t t':TT}(h:PW X e t)(m:∀σ H Q,t' σ H Q->t σ H Q):PW X e t':=fun wh pins s σ H Q I q=>h wh pins s σ H Q I (m _ _ _ q)
theorem Gy(ha:DT X a f)(hb:DW X (.BoolOp .And (b::rest) pos) g):DW X (.BoolOp .And (a::b::rest) pos) (C8 f g):=⟨TC (cR ha.pe hb.pe) fun σ H Q z=>by
 obtain⟨M,E,S,k,S',e,r,st,q⟩:=z
 obtain⟨⟨w1,S1⟩,e1,e⟩:=BE e
 dsimp only at e
 split at e
 ·refine⟨M,E,S,_,S1,e1,r,st,fun H1 M1 g1 st1=>?_⟩
  refine ZJ ?_
  exact⟨M1,E,S1,k,S',e,r.step g1.st,st1,fun H2 M2 g2 st2=>q _ M2 (g1.trans g2) st2⟩
 ·cases e
  refine⟨M,E,S,_,_,e1,r,st,fun H1 M1 g1 st1=>?_⟩
  refine ZY ?_
  exact q _ M1 g1 st1
 ·cases e⟩
theorem D9(ha:DT X a f)(hb:DW X (.BoolOp .Or (b::rest) pos) g):DW X (.BoolOp .Or (a::b::rest) pos) (eOr f g):=⟨TC (hV ha.pe hb.pe) fun σ H Q z=>by
 obtain⟨M,E,S,k,S',e,r,st,q⟩:=z
 obtain⟨⟨w1,S1⟩,e1,e⟩:=BE e
 dsimp only at e
 split at e
 ·refine⟨M,E,S,_,S1,e1,r,st,fun H1 M1 g1 st1=>?_⟩
  refine ZY ?_
  exact⟨M1,E,S1,k,S',e,r.step g1.st,st1,fun H2 M2 g2 st2=>q _ M2 (g1.trans g2) st2⟩
 ·cases e
  refine⟨M,E,S,_,_,e1,r,st,fun H1 M1 g1 st1=>?_⟩
  refine ZJ ?_
  exact q _ M1 g1 st1
 ·cases e⟩
end
inductive Fl where
 |nx
 |ret (d:D)
abbrev Ex:=En->Sto->Option (Fl×En×Sto)
def End(K:PySem.W.Frag)(M:Ms)(H:Hp)(Dn:Ends)(E':En)(S':Sto):Fl->Prop
 | .nx=>∀σ' H' M',Gr M H M' H'->EnR K M' E' σ' H'->StR K M' S' H'->Dn.nx σ' H'
 | .ret d=>∀v H' M',Gr M H M' H'->StR K M' S' H'->Dc K M' H' v d->Dn.rt v H'
noncomputable def tX(K:PySem.W.Frag)(f:Ex):TS:=fun Dn σ H=>∃M E S fl E' S',f E S=some (fl,E',S')/\EnR K M E σ H/\StR K M S H/\End K M H Dn E' S' fl
structure DS(X:Cx)(st:Stmt)(f:Ex):Prop where
 pe:PS X st (tX X.K f)
structure DSs(X:Cx)(st:List Stmt)(f:Ex):Prop where
 pe:PSs X st (tX X.K f)
theorem GD{X:Cx}{e:Stmt}{t t':TS}(h:PS X e t)(m:∀Dn σ H,t' Dn σ H->t Dn σ H):PS X e t':=fun pins s σ H Dn I q=>h pins s σ H Dn I (m _ _ _ q)
theorem NI{X:Cx}{e:List Stmt}{t t':TS}(h:PSs X e t)(m:∀Dn σ H,t' Dn σ H->t Dn σ H):PSs X e t':=fun pins s σ H Dn I q=>h pins s σ H Dn I (m _ _ _ q)
theorem End.later{K:PySem.W.Frag}{M M1:Ms}{H H1:Hp}{Dn:Ends}{E':En}{S':Sto}{fl:Fl}(q:End K M H Dn E' S' fl)(g:Gr M H M1 H1):End K M1 H1 Dn E' S' fl:=by
 cases fl with
 |nx=>exact fun σ' H' M' g' r st=>q σ' H' M' (g.trans g') r st
 |ret d=>exact fun v H' M' g' st r=>q v H' M' (g.trans g') st r
noncomputable def Ai(f g:Ex):Ex:=fun E S=>(f E S).bind fun r=>match r.1 with
 | .nx=>g r.2.1 r.2.2
 | .ret w=>some (.ret w,r.2)
noncomputable def CJ:Ex:=fun E S=>some (.nx,E,S)
section
variable{X:Cx}{st:Stmt}{rest a b:List Stmt}{f g h:Ex}{c e:Expr}{k:Ev}{pos:Pos}
theorem Ac:DSs X [] CJ:=⟨NI Z6 fun Dn σ H z=>by
 obtain⟨M,E,S,fl,E',S',e,r,st,q⟩:=z
 cases e
 exact q _ _ M (.refl st.mo) r st⟩
theorem AF(h1:DS X st f)(h2:DSs X rest g):DSs X (st::rest) (Ai f g):=⟨NI (QP h1.pe h2.pe) fun Dn σ H z=>by
 obtain⟨M,E,S,fl,E',S',e,r,st,q⟩:=z
 obtain⟨⟨f1,E1,S1⟩,e1,e⟩:=BE e
 dsimp only at e
 split at e
 ·exact⟨M,E,S,.nx,E1,S1,e1,r,st,fun σ1 H1 M1 g1 r1 st1=>⟨M1,E1,S1,fl,E',S',e,r1,st1,q.later g1⟩⟩
 ·cases e
  exact⟨M,E,S,.ret _,_,_,e1,r,st,q⟩⟩
theorem AH(h1:DS X st f):DSs X [st] f:=⟨S9 h1.pe⟩
noncomputable def xIf(c:Ev)(f g:Ex):Ex:=fun E S=>(c E S).bind fun r=>match r.1 with
 | .bl true=>f E r.2
 | .bl false=>g E r.2
 |_=>none
theorem BS(hc:DT X c k)(ha:DSs X a f)(hb:DSs X b g):DS X (.If c a b pos) (xIf k f g):=⟨GD (iu hc.pe ha.pe hb.pe) fun Dn σ H z=>by
 obtain⟨M,E,S,fl,E',S',e,r,st,q⟩:=z
 obtain⟨⟨w1,S1⟩,e1,e⟩:=BE e
 dsimp only at e
 split at e
 ·refine⟨M,E,S,_,S1,e1,r,st,fun H1 M1 g1 st1=>?_⟩
  refine ZJ ?_
  exact⟨M1,E,S1,fl,E',S',e,r.step g1.st,st1,q.later g1⟩
 ·refine⟨M,E,S,_,S1,e1,r,st,fun H1 M1 g1 st1=>?_⟩
  refine ZY ?_
  exact⟨M1,E,S1,fl,E',S',e,r.step g1.st,st1,q.later g1⟩
 ·cases e⟩
noncomputable def A3(k:Ev):Ex:=fun E S=>(k E S).map fun r=>(.ret r.1,E,r.2)
theorem AR(h:DE X e k):DS X (.Return (some e) pos) (A3 k):=⟨GD (Xw h.pe) fun Dn σ H z=>by
 obtain⟨M,E,S,fl,E',S',e,r,st,q⟩:=z
 obtain⟨⟨d,S1⟩,e1,e⟩:=Kf e
 cases e
 exact⟨M,E,S,d,S1,e1,r,st,fun v H1 M1 g1 st1 r1=>q _ _ M1 g1 st1 r1⟩⟩
end
section
variable{K:PySem.W.Frag}{M:Ms}{E:En}{σ:Sg}{H:Hp}{i:Nat}{d:D}{v:V}
theorem EnR.put(r:EnR K M E σ H)(rd:Dc K M H v d):EnR K M (E.set i (some d)) (σ.set i (some v)) H:=by
 refine⟨by rw[List.length_set,List.length_set];exact r.len,fun j e ej=>?_⟩
 by_cases h:i=j
 ·subst h
  by_cases hi:i<E.length
  ·rw[List.getElem?_set_self hi]at ej
   cases ej
   exact⟨v,List.getElem?_set_self (by rw[←r.len];exact hi),rd⟩
  ·rw[List.getElem?_eq_none_iff.mpr (by rw[List.length_set];omega)]at ej;cases ej
 ·rw[List.getElem?_set_ne h]at ej
  obtain⟨v',h1,h2⟩:=r.val j e ej
  exact⟨v',by rw[List.getElem?_set_ne h];exact h1,h2⟩
end
noncomputable def CF(i:Nat)(k:Ev):Ex:=fun E S=>(k E S).map fun r=>(.nx,E.set i (some r.1),r.2)
theorem BB{X:Cx}{e:Expr}{k:Ev}{pos pos':Pos}(i:Nat){x:Str}(h:DE X e k)(hN:X.N.Nodup)(hi:X.N[i]?=some x:=by rfl)(hx:Loc X.env.scope x:=by first|exact Or.inl rfl|exact Or.inr rfl)
  (hs:swapsWith e (some (.Name x pos')) pos.line X.env=pure false:=by rfl) (hf:X.fn x=true∨X.env.scope.names.lookup x=some .local:=by first|exact .inl rfl|exact .inr rfl):DS X (.Assign [.Name x pos'] e pos) (CF i k):=⟨
 GD (Yh hN hi hx h.pe hs hf) fun Dn σ H z=>by
  obtain⟨M,E,S,fl,E',S',e,r,st,q⟩:=z
  obtain⟨⟨d,S1⟩,e1,e⟩:=Kf e
  cases e
  exact⟨M,E,S,d,S1,e1,r,st,fun v H1 M1 g1 st1 r1=>q _ _ M1 g1 ((r.step g1.st).put r1) st1⟩⟩
noncomputable def G7(k:Ev):Ex:=fun E S=>(k E S).map fun r=>(.nx,E,r.2)
theorem F6{X:Cx}{e:Expr}{k:Ev}{pos:Pos}(h:DE X e k)(hs:swapsWith e none pos.line X.env=pure false:=by rfl):DS X (.Expr e pos) (G7 k):=⟨GD (Z3 h.pe hs) fun Dn σ H z=>by
 obtain⟨M,E,S,fl,E',S',e,r,st,q⟩:=z
 obtain⟨⟨d,S1⟩,e1,e⟩:=Kf e
 cases e
 exact⟨M,E,S,d,S1,e1,r,st,fun v H1 M1 g1 st1 r1=>q _ _ M1 g1 (r.step g1.st) st1⟩⟩
noncomputable def Em(S:Sto)(n:Nat):Option (List D):=match S[n]? with
 |some (.lst ds)=>some ds
 |_=>none
theorem FF{S:Sto}{n:Nat}{ds:List D}(h:Em S n=some ds):S[n]?=some (.lst ds):=by
 unfold Em at h
 split at h
 ·rename_i e
  cases h
  exact e
 ·cases h
abbrev Mo:=Sto->List D->List D->Option (D×List D)
noncomputable def PV(op:Mo)(f:Ev)(fs:List Ev):Ev:=fun E S=>(f E S).bind fun r=>match r.1 with
 | .ref n=>(Em r.2 n).bind fun _=>(evs fs E r.2).bind fun p=>(Em p.2 n).bind fun ds=>(op p.2 ds p.1).map fun q=>(q.1,p.2.set n (.lst q.2))
 |_=>none
def gB(K:PySem.W.Frag)(op:Mo):V->List V->Hp->VK->Prop:=fun x vs H Q=>∃M S n a ds args d ds',x=.ref a/\M.cel[n]?=some a/\S[n]?=some (.lst ds)/\op S ds args=some (d,ds')/\StR K M S H/\Aq K M H vs args/\∀v H',StR K M (S.set n (.lst ds')) H'->Gr M H M H'->Dc K M H' v d->Q v H'
section
variable{X:Cx}
theorem bI{op:Mo}{f:Ev}{fs:List Ev}{σ:Sg}{H:Hp}{Q:VK}(h:tD X.K (PV op f fs) σ H Q):tBM X.K "list" (gB X.K op) (tD X.K f) (tDs X.K fs) σ H Q:=by
  obtain⟨M,E,S,d,S',e,r,st,q⟩:=h
  obtain⟨⟨d1,S1⟩,e1,e⟩:=BE e
  dsimp only at e
  split at e
  · rename_i n
    obtain⟨ds0,e2,e⟩:=BE e
    obtain⟨⟨args,S2⟩,e3,e⟩:=BE e
    obtain⟨ds,e4,e⟩:=BE e
    obtain⟨⟨dd,ds'⟩,e5,e⟩:=Kf e
    cases e
    refine⟨M,E,S,_,S1,e1,r,st,fun v H1 M1 g1 st1 r1=>?_⟩
    cases r1 with
    | ref hc =>
      rename_i a
      obtain⟨xs,h1,h2⟩:=st1.cell n a _ hc (FF e2)
      refine⟨.inl ⟨rfl,xs,.of h1⟩,?_⟩
      refine H0 e3 (r.step g1.st) st1 fun vs H2 M2 g2 st2 r2=>?_
      exact⟨M2,S2,n,a,ds,args,dd,ds',rfl,N4 g2.pre hc,FF e4,e5,st2,r2,fun v H3 st3 g3 r3=>q _ _ M2 ((g1.trans g2).trans g3) st3 r3⟩
  ·cases e
theorem KG{id:String}{name:Str}{o e:Expr}{es:List Expr}{op:Mo}{f:Ev}{fs:List Ev}{apos cpos:Pos}(slot:Slot "list" name id)(hty:typeOf (.builtin id)=pure (.type "method_descriptor"))(hm:MtR X id (gB X.K op))(ho:DE X o f)(ha:DEs X (e::es) fs)
  (hbase:attributeBase o name X.env (eval o X.env)=eval o X.env:=by rfl)
  (hfew:((backTo cpos (starEach (e::es) X.env)).all (fun x=> !x.1) && (backToKw cpos (keywordEach [] X.env)).all (fun x=>x.1.isSome)
   && decide ((e::es).length+([]:List Keyword).length+(if([]:List Keyword).isEmpty then 0 else 1)<30))=true:=by rfl)
  (hline:(apos.endLine==cpos.line)=true:=by rfl) (hs:starEach (e::es) X.env=(false,eval e X.env)::starEach es X.env:=by rfl) (hplain:(backTo cpos (starEach es X.env)).any (·.1)=false:=by rfl):
  DE X (.Call (.Attribute o name apos) (e::es) [] cpos) (PV op f fs):=⟨Bb (hJ PySem.F.plainAttrs_list slot hty hm ho.pe ha.pe hbase hfew hline hs hplain) fun σ H Q z=>bI z⟩
noncomputable def Po:Mo
 |_,ds,[x]=>if ds.length<sizeLine then some (.non,ds++[x])else none
 |_,_,_=>none
theorem Qv{K:PySem.W.Frag}{M:Ms}{H:Hp}{vs:List V}{d:D}(h:Aq K M H vs [d]):∃v,vs=[v]/\Dc K M H v d:=by
 cases h with
 |cons h t=>cases t;exact⟨_,rfl,h⟩
theorem IP:MtR X "list.append" (gB X.K Po):=by
 intro pins s σ H x vs v us Q I rx rv h
 obtain⟨M,S,n,a,ds,args,d,ds',rfl,hc,hn,e,st,ra,q⟩:=h
 unfold Po at e
 split at e
 ·split at e
  ·rename_i hz
   cases e
   obtain⟨xs,h1,h2⟩:=st.cell n a _ hc hn
   obtain⟨y,rfl,ry⟩:=Qv ra
   obtain⟨st2,g2⟩:=st.chg hc hn (h2.append (.cons ry .nil))
   exact OF pins s σ H _ _ v us Q I rx rv ⟨a,xs,y,rfl,rfl,h1,by rw[h2.length];exact hz,q _ _ st2 g2 .non⟩
  ·cases e
 ·cases e
end
noncomputable def OB(k f o:Ev):Ex:=fun E S=>(k E S).bind fun r=>(f E r.2).bind fun b=>(o E b.2).bind fun i=>match b.1,i.1 with
 | .ref n,.int j=>(Em i.2 n).bind fun ds=>(ixN ds.length j).map fun m=>(.nx,E,i.2.set n (.lst (ds.set m r.1)))
 |_,_=>none
theorem Cu{X:Cx}{e t bs:Expr}{k f o:Ev}{ps pos:Pos}(h:DE X e k)(hb:DE X bs f)(ht:DE X t o)
    (ha:∀v,assign (.Subscript bs t ps) X.env v=(do
      let ov←holding [v] (eval bs X.env)
      let iv←holding [v,ov] (eval t X.env)
      standAt ps
      holding [v,ov,iv] (setItem ov iv v)
      release [v,ov,iv] []):=by intro _;rfl)
    (hs:swapsWithSole [.Subscript bs t ps] e pos.line X.env=pure false:=by rfl) (hw:swappedStores [.Subscript bs t ps] e X.env=pure none:=by rfl)
    (h1:(assignEach [.Subscript bs t ps] X.env).map (·.2)=[assign (.Subscript bs t ps) X.env]:=by rfl):
    DS X (.Assign [.Subscript bs t ps] e pos) (OB k f o):=⟨
  GD (Yl h.pe (cK hb.pe ht.pe set_list ha) hs hw h1) fun Dn σ H z=>by
    obtain⟨M,E,S,fl,E',S',e,r,st,q⟩:=z
    obtain⟨⟨d,S1⟩,e1,e⟩:=BE e
    obtain⟨⟨b,S2⟩,e2,e⟩:=BE e
    obtain⟨⟨i,S3⟩,e3,e⟩:=BE e
    dsimp only at e e1 e2 e3
    split at e
    · rename_i n j _
      obtain⟨ds,e4,e⟩:=BE e
      obtain⟨m,e5,e⟩:=Kf e
      cases e
      refine⟨M,E,S,d,S1,e1,r,st,fun v H1 M1 g1 st1 r1=>?_⟩
      refine⟨M1,E,S1,_,S2,e2,r.step g1.st,st1,fun bv H2 M2 g2 st2 r2=>?_⟩
      refine⟨M2,E,S2,_,S3,e3,(r.step g1.st).step g2.st,st2,fun iv H3 M3 g3 st3 r3=>?_⟩
      cases r3
      cases r2 with
      | ref hc =>
        rename_i a
        have hc3:=N4 g3.pre hc
        obtain⟨xs,h1,h2⟩:=st3.cell n a _ hc3 (FF e4)
        obtain⟨st4,g4⟩:=st3.chg hc3 (FF e4) (h2.set ((r1.step g2.st).step g3.st) m)
        have g:=((g1.trans g2).trans g3).trans g4
        exact⟨a,xs,j,m,rfl,rfl,h1,by rw[h2.length];exact e5,q _ _ M3 g (r.step g.st) st4⟩
    ·cases e⟩
abbrev Fn:=List D->Sto->Option (D×Sto)
noncomputable def flD:Fl->D
 | .nx=>.non
 | .ret d=>d
noncomputable def BA(N:Nat)(body:Ex):Fn:=fun ds S=>(body (ds.map some++List.replicate (N-ds.length) none) S).map fun r=>(flD r.1,r.2.2)
def A6{α:Type}(a:α):α:=Classical.choose (⟨a,rfl⟩:∃x,x=a)
theorem SY{α:Type}(a:α):A6 a=a:=Classical.choose_spec (⟨a,rfl⟩:∃x,x=a)
noncomputable def spD(K:PySem.W.Frag)(np:Nat)(f:Fn):Sp:=fun vs H Q _=>∃M ds S d S',ds.length=np/\f ds S=some (d,S')/\Aq K M H vs ds/\StR K M S H/\∀v H' M',Gr M H M' H'->StR K M' S' H'->Dc K M' H' v d->Q v H'
theorem OZ{α:Type}{xs:List α}{i:Nat}{x:α}(h:(xs.map some)[i]?=some (some x)):xs[i]?=some x:=by
 rw[List.getElem?_map]at h
 cases e:xs[i]? with
 |none=>rw[e]at h;cases h
 |some y=>rw[e]at h;cases h;rfl
theorem Ug{α:Type}{xs:List (Option α)}{k i:Nat}{x:α}(h:(xs++List.replicate k none)[i]?=some (some x)):xs[i]?=some (some x):=by
 by_cases hi:i<xs.length
 ·rw[List.getElem?_append_left hi]at h;exact h
 ·rw[List.getElem?_append_right (by omega),List.getElem?_replicate]at h
  split at h<;>cases h
theorem Z8{α:Type}{xs:List (Option α)}{k i:Nat}{x:Option α}(h:xs[i]?=some x):(xs++List.replicate k none)[i]?=some x:=by
 rw[List.getElem?_append_left (List.getElem?_eq_some_iff.mp h).1];exact h
theorem EnR.args{K:PySem.W.Frag}{M:Ms}{H:Hp}{vs:List V}{ds:List D}(r:Aq K M H vs ds)(k:Nat):EnR K M (ds.map some++List.replicate k none) (vs.map some++List.replicate k none) H:=by
 refine⟨by simp[r.length],fun i d e=>?_⟩
 obtain⟨v,h1,h2⟩:=r.get (OZ (Ug e))
 exact⟨v,Z8 (by rw[List.getElem?_map,h1];rfl),h2⟩
section
variable{P:Program}{w:World}{K:PySem.W.Frag}{mg:Str->Option Value}{base:Heap}
theorem dP{x:Str}{st:Stmt}{f:Addr}{fd:FuncData}{N ps:List Str}{k np:Nat}{b:Ex}(Fu:Fun K x x st f fd)(S:AS N ps (AK st))(hp:ps.length=np)
  (hb:∀(cdv:Value) (A:Around) (outer:List PySem.Env) (s:Shared) (H:Hp) (E:XK),L5 k (A.deeper (PyProof.Rows.envOfC x (AK st) s.heap.objs.size f cdv))->DSs (YC CX0 P w K mg base N x (AK st) f cdv A outer s H E).nox (Gb st) b):
  L4 P w K mg base CX0 (k+1) f fd ps (spD K np (A6 (BA N.length b))):=by
 rw[SY]
 refine Fu.ok S (fun vs H Q E h=>?_) (fun cdv A outer s H vs Q E hr h=>?_)
 ·obtain⟨M,ds,S0,d,S',hl,_,r,_⟩:=h
  have:=r.length
  omega
 ·obtain⟨M,ds,S0,d,S',hl,e,r,st,q⟩:=h
  have hlen:=r.length
  refine⟨_,(hb cdv A outer s H E hr).pe,?_⟩
  obtain⟨⟨fl,E',S1⟩,e1,e⟩:=Kf e
  cases e
  refine⟨M,_,S0,fl,E',S1,e1,?_,st,?_⟩
  ·rw[show L2.start N vs=vs.map some++List.replicate (N.length-ds.length) none from by unfold L2.start;rw[hlen]]
   exact .args r _
  ·cases fl with
   |nx=>exact fun σ' H' M' g _ st'=>q _ _ M' g st' .non
   |ret d=>exact fun v H' M' g st' r'=>q _ _ M' g st' r'
theorem Aj{x:Str}{st:Stmt}{N ps:List Str}{k np:Nat}{b:Ex}(S:St.Src K mg x st)(sc:AS N ps (AK st))(hp:ps.length=np)
  (hbi:∀f fd,Fun K x x st f fd->Binds K fd ps [])
  (hb:∀(f:Addr) (cdv:Value) (A:Around) (outer:List PySem.Env) (s:Shared) (H:Hp) (E:XK),L5 k (A.deeper (PyProof.Rows.envOfC x (AK st) s.heap.objs.size f cdv))->DSs (YC CX0 P w K mg base N x (AK st) f cdv A outer s H E).nox (Gb st) b):
  St.Dfn P w K mg base x (k+1) ps (spD K np (A6 (BA N.length b))):=by
 obtain⟨f,fd,Fu,hm⟩:=S.ex
 exact⟨f,fd,hm,Fu.kp,hbi f fd Fu,dP Fu sc hp fun cdv A outer s H E hr=>hb f cdv A outer s H E hr⟩
end
noncomputable def AJ(f:Fn)(fs:List Ev):Ev:=fun E S=>(evs fs E S).bind fun r=>f r.1 r.2
theorem TX{K:PySem.W.Frag}{np:Nat}{f:Fn}{fs:List Ev}{σ:Sg}{H:Hp}{Q:VK}(hn:fs.length=np)(h:tD K (AJ f fs) σ H Q):aY (spD K np f) [] E0 (tDs K fs) σ H Q:=by
 obtain⟨M,E,S,d,S',e,r,st,q⟩:=h
 obtain⟨⟨ds,S1⟩,e1,e⟩:=BE e
 refine H0 e1 r st fun vs H1 M1 g1 st1 r1=>?_
 rw[List.append_nil]
 exact⟨M1,ds,S1,d,S',by rw[Pf e1];exact hn,e,r1,st1,fun v H2 M2 g2 st2 r2=>q _ _ M2 (g1.trans g2) st2 r2⟩
theorem AG{X:Cx}{k np:Nat}{x:Str}{ps:List Str}{f:Fn}{e:Expr}{es:List Expr}{fs:List Ev}{p pos:Pos}(d:St.Dfn X.prog X.w X.K X.mg X.base x k ps (spD X.K np f))(hr:L5 k X.A)(hg:Gl X x)(ha:DEs X (e::es) fs)
  (hn:fs.length=np:=by rfl) (hdb:(x==("__debug__":Str))=false:=by decide) (he:starEach (e::es) X.env=(false,eval e X.env)::starEach es X.env:=by rfl) (hpl:(backTo pos (starEach es X.env)).any (·.1)=false:=by rfl):
  DE X (.Call (.Name x p) (e::es) [] pos) (AJ f fs):=⟨Bb (St.iw d hr hg ha.pe hdb he hpl) fun σ H Q z=>TX hn z⟩
abbrev Tf:=D->En->Sto->Option En
noncomputable def tG(K:PySem.W.Frag)(t:Tf):TG:=fun v σ H Q=>∃M d E E' S,t d E S=some E'/\EnR K M E σ H/\StR K M S H/\Dc K M H v d/\∀σ',EnR K M E' σ' H->Q σ' H
structure DG(X:Cx)(tg:Expr)(t:Tf):Prop where
 pe:PG X tg (tG X.K t)
noncomputable def tNm(i:Nat):Tf:=fun d E _=>some (E.set i (some d))
theorem Tu{X:Cx}{e:Expr}{t t':TG}(h:PG X e t)(m:∀v σ H Q,t' v σ H Q->t v σ H Q):PG X e t':=fun pins s σ H v u Q I r q=>h pins s σ H v u Q I r (m _ _ _ _ q)
theorem Ax{X:Cx}{pos:Pos}(i:Nat){x:Str}(hN:X.N.Nodup)(hi:X.N[i]?=some x:=by rfl)(hx:Loc X.env.scope x:=by first|exact Or.inl rfl|exact Or.inr rfl)
  (hf:X.fn x=true∨X.env.scope.names.lookup x=some .local:=by first|exact .inl rfl|exact .inr rfl):DG X (.Name x pos) (tNm i):=⟨Tu (ZT hN hi hx hf) fun v σ H Q z=>by
 obtain⟨M,d,E,E',S,e,r,st,rd,q⟩:=z
 cases e
 exact q _ (r.put rd)⟩
noncomputable def tMs:List Tf->List D->En->Sto->Option En
 | [],[],E,_=>some E
 |t::ts,d::ds,E,S=>(t d E S).bind fun E1=>tMs ts ds E1 S
 |_,_,_,_=>none
noncomputable def tTp(ts:List Tf):Tf:=fun d E S=>match d with
 | .tup ds=>tMs ts ds E S
 | .lst ds=>tMs ts ds E S
 | .ref n=>(Em S n).bind fun ds=>tMs ts ds E S
 |_=>none
noncomputable def tGs(K:PySem.W.Frag):List Tf->TGs
 | []=>jH
 |t::ts=>cL (tG K t) (tGs K ts)
theorem Qp{K:PySem.W.Frag}{M:Ms}{H:Hp}{S:Sto}(st:StR K M S H):∀{ts:List Tf} {ds:List D} {vs:List V} {E E':En} {σ:Sg} {Q:Sg->Hp->Prop},tMs ts ds E S=some E'->EnR K M E σ H->Aq K M H vs ds->(∀σ',EnR K M E' σ' H->Q σ' H)->tGs K ts vs σ H Q
  | [],[],_,E,E',σ,Q,e,r,rd,q=>by
    cases e
    cases rd
    exact⟨rfl,q _ r⟩
  | t :: ts, d :: ds, _, E, E', σ, Q, e, r, rd, q => by
    obtain⟨E1,e1,e⟩:=BE e
    cases rd with
    |cons h1 h2=>exact⟨_,_,rfl,M,d,E,E1,S,e1,r,st,h1,fun σ1 r1=>Qp st e r1 h2 q⟩
  | [],_::_,_,E,E',σ,Q,e,r,rd,q=>by cases e
  |_::_,[],_,E,E',σ,Q,e,r,rd,q=>by cases e
theorem NL:∀{ts:List Tf} {ds:List D} {E E':En} {S:Sto},tMs ts ds E S=some E'->ds.length=ts.length
  | [],[],_,_,_,_=>rfl
  | t :: ts, d :: ds, E, E', S, e => by
    obtain⟨E1,e1,e⟩:=BE e
    simp[NL e]
  | [],_::_,_,_,_,e=>by cases e
  |_::_,[],_,_,_,e=>by cases e
structure DGs(X:Cx)(es:List Expr)(ts:List Tf):Prop where
 pe:PGs X es (tGs X.K ts)
theorem DJ{X:Cx}:DGs X [] []:=⟨Y0⟩
theorem AX{X:Cx}{e:Expr}{es:List Expr}{t:Tf}{ts:List Tf}(h:DG X e t)(g:DGs X es ts)(hs:(assignEach (e::es) X.env).map (·.2)=assign e X.env::(assignEach es X.env).map (·.2):=by rfl):DGs X (e::es) (t::ts):=⟨WJ h.pe g.pe hs⟩
theorem Hx{X:Cx}{k:Nat}{es:List Expr}{ts:List Tf}{pos:Pos}(hc:X.calm=true)(h:DGs X es ts)(hn:(assignEach es X.env).length=ts.length:=by rfl)(hst:(assignEach es X.env).findIdx? (·.1)=none:=by rfl):DG X (.Tuple es k pos) (tTp ts):=⟨
  Tu (da hc h.pe hn hst) fun v σ H Q z=>by
    obtain⟨M,d,E,E',S,e,r,st,rd,q⟩:=z
    unfold tTp at e
    split at e
    · cases rd with
      |tup h1 h2=>exact⟨_,_,rfl,.inl h1,by rw[h2.length];exact NL e,Qp st e r h2 q⟩
    · cases rd with
      |lst h1 n h2=>exact⟨_,_,rfl,.inr h1,by rw[h2.length];exact NL e,Qp st e r h2 q⟩
    · obtain ⟨ds, e1, e⟩ := BE e
      cases rd with
      | ref hc =>
        obtain⟨xs,h1,h2⟩:=st.cell _ _ _ hc (FF e1)
        exact⟨_,_,rfl,.inr h1,by rw[h2.length];exact NL e,Qp st e r h2 q⟩
    ·cases e⟩
noncomputable def PL(t:Tf)(k:Ev):Ex:=fun E S=>(k E S).bind fun r=>(t r.1 E r.2).map fun E'=>(.nx,E',r.2)
theorem HQ{X:Cx}{tg e:Expr}{t:Tf}{k:Ev}{pos:Pos}(h:DE X e k)(hg:DG X tg t)(hs:swapsWithSole [tg] e pos.line X.env=pure false:=by rfl)(hw:swappedStores [tg] e X.env=pure none:=by rfl)
  (h1:(assignEach [tg] X.env).map (·.2)=[assign tg X.env]:=by rfl):DS X (.Assign [tg] e pos) (PL t k):=⟨GD (Yl h.pe hg.pe hs hw h1) fun Dn σ H z=>by
 obtain⟨M,E,S,fl,E',S',e,r,st,q⟩:=z
 obtain⟨⟨d,S1⟩,e1,e⟩:=BE e
 obtain⟨E2,e2,e⟩:=Kf e
 cases e
 exact⟨M,E,S,d,S1,e1,r,st,fun v H1 M1 g1 st1 r1=>⟨M1,d,E,_,S1,e2,r.step g1.st,st1,r1,fun σ' r2=>q _ _ M1 g1 r2 st1⟩⟩⟩
noncomputable def Qs(i j:Nat)(f g:Ev):Ex:=fun E S=>(evs [f,g] E S).bind fun r=>match r.1 with
 | [d,d']=>some (.nx,(E.set i (some d)).set j (some d'),r.2)
 |_=>none
theorem KD{X:Cx}{i j:Nat}{x y:Str}{a b:Expr}{f g:Ev}{px py pt:Pos}{kt k2:Nat}{pt2 pos:Pos}(hc:X.calm=true)(hN:X.N.Nodup)(hi:X.N[i]?=some x)(hj:X.N[j]?=some y)(hij:i≠j)
    (hx:X.env.scope.names.lookup x=some .local) (hy:X.env.scope.names.lookup y=some .local) (ha:DE X a f) (hb:DE X b g)
    (hw:swappedStores [.Tuple [.Name x px,.Name y py] kt pt] (.Tuple [a,b] k2 pt2) X.env=pure (some [x,y]):=by rfl)
    (hsa:starEach [a,b] X.env=(false,eval a X.env)::starEach [b] X.env:=by rfl) (hsb:starEach [b] X.env=(false,eval b X.env)::starEach [] X.env:=by rfl)
    (hs:swapsWithSole [.Tuple [.Name x px,.Name y py] kt pt] (.Tuple [a,b] k2 pt2) pos.line X.env=pure false:=by rfl):DS X (.Assign [.Tuple [.Name x px,.Name y py] kt pt] (.Tuple [a,b] k2 pt2) pos) (Qs i j f g):=⟨by
  refine GD (cx hc hN hi hj hij hx hy (Ng ha.pe (Ng hb.pe Sw hsb) hsa) hw hs) fun Dn σ H z=>?_
  obtain⟨M,E,S,fl,E',S',e,r,st,q⟩:=z
  obtain⟨⟨ds,S1⟩,e1,e⟩:=BE e
  refine H0 (K:=X.K) (fs:=[f,g]) e1 r st fun vs H1 M1 g1 st1 r1=>?_
  dsimp only at e
  split at e
  · rename_i d d'
    cases e
    cases r1 with
    | cons h1 t =>
      cases t with
      | cons h2 t =>
        cases t
        exact⟨_,_,rfl,q _ _ M1 g1 (((r.step g1.st).put h1).put h2) st1⟩
  ·cases e⟩
abbrev Gd:=List (Nat×List D)
def gOk(gs:Gd)(S:Sto):Prop:=∀g∈gs,Em S g.1=some g.2
abbrev Sr:=En->Sto->Option ((List D×Gd)×Sto)
structure cw(K:PySem.W.Frag)(M:Ms)(H:Hp)(gs:Gd)(ds:List D)(J:It):Prop where
 go:∀(i:Nat) (H2:Hp) (M2:Ms) (S2:Sto),Sp1 M H M2 H2->StR K M2 S2 H2->gOk gs S2->i<ds.length->J.go i H2
 stop:∀(i:Nat) (H2:Hp) (M2:Ms) (S2:Sto),Sp1 M H M2 H2->StR K M2 S2 H2->gOk gs S2->ds.length≤i->J.stop i H2
 yld:∀(i:Nat) (H2:Hp) (M2:Ms) (S2:Sto) (x:V) (H3:Hp) (d:D),Sp1 M H M2 H2->StR K M2 S2 H2->gOk gs S2->ds[i]?=some d->J.yld i H2 x H3->(∀a o,H2 a=some o->H3 a=some o)/\Dc K M2 H3 x d
noncomputable def tI(K:PySem.W.Frag)(s:Sr):TI:=fun σ H R=>∃M E S ds gs S',s E S=some ((ds,gs),S')/\EnR K M E σ H/\StR K M S H/\∀J H' M',Gr M H M' H'->StR K M' S' H'->cw K M' H' gs ds J->R J H'
structure DI(X:Cx)(tg iter:Expr)(s:Sr):Prop where
 pe:PI X tg iter (tI X.K s)
theorem Nm{X:Cx}{tg e:Expr}{t t':TI}(h:PI X tg e t)(m:∀σ H R,t' σ H R->t σ H R):PI X tg e t':=fun pins s σ H R I q=>h pins s σ H R I (m _ _ _ q)
noncomputable def km(K:PySem.W.Frag)(tl:TE):TI:=fun σ H R=>tl σ H fun x H1=>∃a,x=.ref a/\(((∃xs,SqL K H1 a xs)/\R (Itl K a) H1)∨((∃xs,SqT K H1 a xs)/\R (Itt K a) H1))
theorem dw{X:Cx}{tg l:Expr}{tl:TE}(hl:PE X l tl):PI X tg l (km X.K tl):=by
 intro pins s σ H R I h
 refine thn (hl pins s σ H _ I h) fun v s1 ⟨x,H1,I1,r1,q1⟩=>?_
 obtain⟨a,e,q1⟩:=q1
 subst e
 cases r1
 rcases q1 with⟨⟨xs,hq⟩,q⟩|⟨⟨xs,hq⟩,q⟩
 ·obtain⟨its,rv,p,hz⟩:=I1.list hq
  refine wpAny_pyIter_list p.isList ?_
  refine⟨s1.heap.objs.size,[s1.heap.objs.size],_,_,H1,rfl,I1.kept (t':=s1.toks) fun b o e=>Heap.get?_push_of_some _ e,Uh a _,⟨_,Heap.get?_push_size _ rfl,rfl,rfl⟩,fun b hb=>?_,q⟩
  have e:b=s1.heap.objs.size:=by simpa using hb
  subst e
  exact I1.fpOk (Nat.le_refl _) (I1.hok.fresh (Nat.le_refl _))
 ·obtain⟨its,rv,p,hz⟩:=I1.tuple hq
  refine wpAny_pyIter_tuple (show s1.heap.IsTuple a its.toArray from p) ?_
  refine⟨s1.heap.objs.size,[s1.heap.objs.size],_,_,H1,rfl,I1.kept (t':=s1.toks) fun b o e=>Heap.get?_push_of_some _ e,Q7 a _,⟨_,Heap.get?_push_size _ rfl,rfl,rfl⟩,fun b hb=>?_,q⟩
  have e:b=s1.heap.objs.size:=by simpa using hb
  subst e
  exact I1.fpOk (Nat.le_refl _) (I1.hok.fresh (Nat.le_refl _))
theorem Aq.get'{K:PySem.W.Frag}{M:Ms}{H:Hp}{vs:List V}{ds:List D}{i:Nat}(h:Aq K M H vs ds)(hi:i<ds.length):∃x,vs[i]?=some x:=by
 have:=h.length
 exact⟨vs[i],List.getElem?_eq_getElem (by omega)⟩
structure SqF(K:PySem.W.Frag)(M:Ms)(H:Hp)(gs:Gd)(k:Bool)(a:Addr)(ds:List D):Prop where
 keep:∀(H2:Hp) (M2:Ms) (S2:Sto),Sp1 M H M2 H2->StR K M2 S2 H2->gOk gs S2->∃xs,(if k=true then SqT K H2 a xs else SqL K H2 a xs)/\Aq K M2 H2 xs ds
noncomputable def sqD(S:Sto):D->Option (List D×Gd)
 | .tup ds=>some (ds,[])
 | .lst ds=>some (ds,[])
 | .ref n=>(Em S n).map fun ds=>(ds,[(n,ds)])
 | .scr ns=>some (ns.map .int,[])
 |_=>none
theorem Qm{K:PySem.W.Frag}{M:Ms}{H:Hp}{S:Sto}{v:V}{d:D}{ds:List D}{gs:Gd}(st:StR K M S H)(h:Dc K M H v d)(e:sqD S d=some (ds,gs)):∃k a,v=.ref a/\SqF K M H gs k a ds:=by
  cases h with
  |tup h r=>cases e;exact⟨true,_,rfl,⟨fun H2 M2 S2 g _ _=>⟨_,g.sqT h,r.step g⟩⟩⟩
  |lst h n r=>cases e;exact⟨false,_,rfl,⟨fun H2 M2 S2 g _ _=>⟨_,SqL.of (g.keep _ _ h n),r.step g⟩⟩⟩
  | scr h =>
    cases e
    refine⟨false,_,rfl,⟨fun H2 M2 S2 g _ _=>⟨_,?_,Nk⟩⟩⟩
    rcases h with⟨h,n⟩|h
    · rcases h with h | ⟨o, h⟩
      ·exact .inl (.inl (g.keep _ _ h n))
      ·exact .inl (.inr ⟨o,g.keep _ _ h n⟩)
    ·exact .inr h
  | ref h =>
    obtain⟨es,e1,e⟩:=Kf e
    cases e
    refine⟨false,_,rfl,⟨fun H2 M2 S2 g st2 ok=>?_⟩⟩
    obtain⟨xs,h1,h2⟩:=st2.cell _ _ _ (N4 g.pre h) (FF (ok _ (List.mem_singleton.mpr rfl)))
    exact⟨xs,SqL.of h1,h2⟩
  |non=>cases e
  |bl b=>cases e
  |int b=>cases e
  |str b=>cases e
  |ty b=>cases e
  |dct h n r=>cases e
theorem gY{K:PySem.W.Frag}{M:Ms}{H:Hp}{gs:Gd}{k:Bool}{a:Addr}{ds:List D}(h:SqF K M H gs k a ds):cw K M H gs ds (if k=true then Itt K a else Itl K a):=by
  cases k with
  | true =>
    exact{
      go:=fun i H2 M2 S2 g st ok hi=>let⟨xs,h1,h2⟩:=h.keep H2 M2 S2 g st ok;let⟨x,hx⟩:=h2.get' hi;⟨xs,x,h1,hx⟩
      stop:=fun i H2 M2 S2 g st ok hi=>let⟨xs,h1,h2⟩:=h.keep H2 M2 S2 g st ok;⟨xs,h1,by have:=h2.length;omega⟩
      yld:=fun i H2 M2 S2 x H3 d g st ok hd hy=>by
        obtain⟨xs,h1,h2⟩:=h.keep H2 M2 S2 g st ok
        obtain⟨rfl,hy⟩:=hy
        refine⟨fun _ _ e=>e,?_⟩
        have hx:=hy xs h1
        obtain⟨x',h3,h4⟩:=h2.get hd
        rw[hx]at h3;cases h3
        exact h4}
  | false =>
    exact{
      go:=fun i H2 M2 S2 g st ok hi=>let⟨xs,h1,h2⟩:=h.keep H2 M2 S2 g st ok;let⟨x,hx⟩:=h2.get' hi;⟨xs,x,h1,hx⟩
      stop:=fun i H2 M2 S2 g st ok hi=>let⟨xs,h1,h2⟩:=h.keep H2 M2 S2 g st ok;⟨xs,h1,by have:=h2.length;omega⟩
      yld:=fun i H2 M2 S2 x H3 d g st ok hd hy=>by
        obtain⟨xs,h1,h2⟩:=h.keep H2 M2 S2 g st ok
        obtain⟨rfl,hy⟩:=hy
        refine⟨fun _ _ e=>e,?_⟩
        have hx:=hy xs h1
        obtain⟨x',h3,h4⟩:=h2.get hd
        rw[hx]at h3;cases h3
        exact h4}
noncomputable def Hy(f:Ev):Sr:=fun E S=>(f E S).bind fun r=>(sqD r.2 r.1).map fun p=>(p,r.2)
theorem Nh{S:Sto}{d:D}{ds:List D}{gs:Gd}(e:sqD S d=some (ds,gs)):gOk gs S:=by
  cases d<;>first|(cases e;done)|skip
  all_goals first
    |(cases e;intro g hg;cases hg;done)
    | (obtain ⟨es, e1, e⟩ := Kf e
       cases e
       intro g hg
       rw[List.mem_singleton.mp hg]
       exact e1)
theorem C0{X:Cx}{tg e:Expr}{f:Ev}(h:DE X e f):DI X tg e (Hy f):=⟨Nm (dw h.pe) fun σ H R z=>by
 obtain⟨M,E,S,ds,gs,S',e,r,st,q⟩:=z
 obtain⟨⟨d,S1⟩,e1,e⟩:=BE e
 obtain⟨⟨ds',gs'⟩,e2,e⟩:=Kf e
 cases e
 refine⟨M,E,S,d,S1,e1,r,st,fun v H1 M1 g1 st1 r1=>?_⟩
 obtain⟨k,a,rfl,sq⟩:=Qm st1 r1 e2
 obtain⟨xs,hs,_⟩:=sq.keep H1 M1 S1 (Gr.refl st1.mo).st st1 (Nh e2)
 have it:=gY sq
 refine⟨a,rfl,?_⟩
 cases k with
 |true=>exact .inr ⟨⟨xs,hs⟩,q _ _ M1 g1 st1 it⟩
 |false=>exact .inl ⟨⟨xs,hs⟩,q _ _ M1 g1 st1 it⟩⟩
noncomputable def Kw(lo:Int)(n:Nat):List D:=(List.range n).map fun(i:Nat)=>.int (lo+(i:Int))
theorem bM{K:PySem.W.Frag}{M:Ms}{H:Hp}{lo:Int}{n:Nat}:cw K M H [] (Kw lo n) (Itr lo n) where
  go := fun i H2 M2 S2 g st ok hi => by
    have:i<n:=by unfold Kw at hi;simpa using hi
    exact this
  stop:=fun i H2 M2 S2 g st ok hi=>by
    have:n≤i:=by unfold Kw at hi;simpa using hi
    exact this
  yld := fun i H2 M2 S2 x H3 d g st ok hd hy => by
    obtain⟨rfl,rfl⟩:=hy
    refine⟨fun _ _ e=>e,?_⟩
    unfold Kw at hd
    rw[List.getElem?_map]at hd
    cases e:(List.range n)[i]? with
    |none=>rw[e]at hd;cases hd
    | some j =>
      rw[e]at hd
      cases hd
      have:j=i:=by
        obtain⟨h1,h2⟩:=List.getElem?_eq_some_iff.mp e
        simpa using h2.symm
      subst this
      exact .int _
noncomputable def PY(fs:List Ev):Sr:=fun E S=>(evs fs E S).bind fun r=>match r.1 with
 | [.int j]=>if(decide (-(2^62)≤j) && decide (j<2^62))=true then some ((Kw 0 j.toNat,[]),r.2)else none
 | [.int i,.int j]=>if(decide (-(2^62)≤i) && decide (i<2^62) && decide (-(2^62)≤j) && decide (j<2^62))=true then some ((Kw i (j-i).toNat,[]),r.2)else none
 |_=>none
theorem Qd{K:PySem.W.Frag}{M:Ms}{H:Hp}{vs:List V}{j:Int}(h:Aq K M H vs [.int j]):vs=[.int j]:=by
 cases h with
 |cons h t=>cases t;cases h;rfl
theorem TQ{K:PySem.W.Frag}{M:Ms}{H:Hp}{vs:List V}{i j:Int}(h:Aq K M H vs [.int i,.int j]):vs=[.int i,.int j]:=by
 cases h with
 |cons h t=>cases h;cases Qd t;rfl
theorem Gu{X:Cx}{tg a:Expr}{o:Ev}{p pos:Pos}(hg:Gl X "range")(hm:X.mg "range"=none)(ha:DEs X [a] [o])(hs:starEach [a] X.env=[(false,eval a X.env)]:=by rfl):DI X tg (.Call (.Name "range" p) [a] [] pos) (PY [o]):=⟨
 Nm (R7 hg hm ha.pe hs) fun σ H R z=>by
  obtain⟨M,E,S,ds,gs,S',e,r,st,q⟩:=z
  obtain⟨⟨ws,S1⟩,e1,e⟩:=BE e
  have hl:=Pf e1
  refine H0 e1 r st fun vs H1 M1 g1 st1 r1=>?_
  dsimp only at e
  split at e
  ·split at e
   ·rename_i j hk
    rw[Bool.and_eq_true]at hk
    cases e
    exact⟨j,Qd r1,of_decide_eq_true hk.1,of_decide_eq_true hk.2,q _ _ M1 g1 st1 bM⟩
   ·cases e
  ·simp at hl
  ·cases e⟩
open Classical in
def MC(gs:Gd)(t:Tf)(body:Ex):List D->En->Sto->Option (Fl×En×Sto)
  | [],E,S=>if gOk gs S then some (.nx,E,S)else none
  | d :: ds, E, S => if gOk gs S then (t d E S).bind fun E1 => (body E1 S).bind fun r => match r.1 with
    | .nx=>MC gs t body ds r.2.1 r.2.2
    | .ret w=>some (.ret w,r.2)
    else none
def Pt(s:Sr)(t:Tf)(body:Ex):Ex:=fun E S=>(s E S).bind fun r=>MC r.1.2 t body r.1.1 E r.2
theorem Oa{α:Type}{xs:List α}{i:Nat}{x:α}{r:List α}(h:xs.drop i=x::r):xs[i]?=some x/\xs.drop (i+1)=r/\i<xs.length:=by
 have hi:i<xs.length:=by
  by_cases hi:i<xs.length
  ·exact hi
  ·rw[List.drop_eq_nil_of_le (by omega)]at h;cases h
 rw[List.drop_eq_getElem_cons hi]at h
 cases h
 exact⟨List.getElem?_eq_getElem hi,rfl,hi⟩
theorem IA{X:Cx}{tg iter:Expr}{body:List Stmt}{s:Sr}{t:Tf}{b:Ex}{pos:Pos}(hp:PassesOwn (model X.prog X.w) X.A X.env X.xe)(hc:X.calm=true)(hi:DI X tg iter s)(hg:DG X tg t)(hb:DSs X body b)
    (hs:∀x,foldedSetIterable iter X.env x=pure x:=by intro _;rfl):DS X (.For tg iter body [] pos) (Pt s t b):=⟨GD (dZ hp hc hi.pe hg.pe hb.pe hs) fun Dn σ H z=>by
  obtain⟨M,E,S,fl,E',S',e,r,st,q⟩:=z
  obtain⟨⟨⟨ds,gs⟩,S1⟩,e1,e⟩:=BE e
  dsimp only at e
  refine⟨M,E,S,ds,gs,S1,e1,r,st,fun J H1 M1 g1 st1 it=>?_⟩
  refine⟨fun i m σ' H'=>m=ds.length-i/\∃E2 S2 M2,MC gs t b (ds.drop i) E2 S2=some (fl,E',S')/\Gr M1 H1 M2 H'/\EnR X.K M2 E2 σ' H'/\StR X.K M2 S2 H',⟨_,rfl,E,S1,M1,e,.refl st1.mo,r.step g1.st,st1⟩,fun i m σ2 H2 hW=>?_⟩
  obtain⟨rfl,E2,S2,M2,e2,g2,r2,st2⟩:=hW
  cases ed:ds.drop i with
  | nil =>
    rw[ed]at e2
    unfold MC at e2
    split at e2
    · rename_i ok
      cases e2
      left
      exact⟨it.stop i H2 M2 _ g2.st st2 ok (List.drop_eq_nil_iff.mp ed),q _ _ M2 (g1.trans g2) r2 st2⟩
    ·cases e2
  | cons d rest =>
    obtain⟨d1,d2,d3⟩:=Oa ed
    rw[ed]at e2
    unfold MC at e2
    split at e2
    · rename_i ok
      obtain⟨E3,e3,e2⟩:=BE e2
      obtain⟨⟨f4,E4,S4⟩,e4,e2⟩:=BE e2
      dsimp only at e2
      right
      refine⟨it.go i H2 M2 S2 g2.st st2 ok d3,fun σ' H'=>∃m',m'<ds.length-i/\(m'=ds.length-(i+1)/\∃E2 S2 M2,MC gs t b (ds.drop (i+1)) E2 S2=some (fl,E',S')/\Gr M1 H1 M2 H'/\EnR X.K M2 E2 σ' H'/\StR X.K M2 S2 H'),fun σ' H' z=>z,fun x H3 hy=>?_⟩
      obtain⟨k3,rx⟩:=it.yld i H2 M2 S2 x H3 d g2.st st2 ok d1 hy
      have g3:Gr M2 H2 M2 H3:=.grow st2.mo k3
      refine⟨M2,d,E2,E3,S2,e3,r2.step g3.st,st2.grow k3,rx,fun σ4 r4=>?_⟩
      refine⟨M2,E3,S2,f4,E4,S4,e4,r4,st2.grow k3,?_⟩
      split at e2
      ·exact fun σ6 H6 M6 g6 r6 st6=>⟨_,by omega,rfl,E4,S4,M6,by rw[d2];exact e2,(g2.trans g3).trans g6,r6,st6⟩
      · cases e2
        exact fun v H6 M6 g6 st6 r6=>q _ _ M6 (((g1.trans g2).trans g3).trans g6) st6 r6
    ·cases e2⟩
noncomputable def Hi(c:Ev)(b:Ex):Nat->En->Sto->Option (Fl×En×Sto)
  |0,_,_=>none
  | k + 1, E, S => (c E S).bind fun r => match r.1 with
    | .bl true=>(b E r.2).bind fun p=>match p.1 with
      | .nx=>Hi c b k p.2.1 p.2.2
      | .ret w=>some (.ret w,p.2)
    | .bl false=>some (.nx,E,r.2)
    |_=>none
noncomputable def Ow(fuel:En->Nat)(c:Ev)(b:Ex):Ex:=fun E S=>Hi c b (fuel E) E S
theorem Qj {X : Cx} {c : Expr} {body : List Stmt} {k : Ev} {b : Ex} {pos : Pos} (fuel : En -> Nat) (hp : PassesOwn (model X.prog X.w) X.A X.env X.xe) (hc : DT X c k) (hb : DSs X body b) : DS X (.While c body [] pos) (Ow fuel k b) := ⟨
  GD (XS hp hc.pe hb.pe) fun Dn σ H z=>by
    obtain⟨M,E,S,fl,E',S',e,r,st,q⟩:=z
    refine⟨fun m σ' H'=>∃E2 S2 M2,Hi k b m E2 S2=some (fl,E',S')/\Gr M H M2 H'/\EnR X.K M2 E2 σ' H'/\StR X.K M2 S2 H',⟨fuel E,E,S,M,e,.refl st.mo,r,st⟩,fun m σ2 H2 hW=>?_⟩
    obtain⟨E2,S2,M2,e2,g2,r2,st2⟩:=hW
    cases m with
    |zero=>cases e2
    | succ m =>
      obtain⟨⟨w3,S3⟩,e3,e2⟩:=BE e2
      dsimp only at e2
      split at e2
      · obtain ⟨⟨f4, E4, S4⟩, e4, e2⟩ := BE e2
        refine⟨M2,E2,S2,true,S3,e3,r2,st2,fun H3 M3 g3 st3=>?_⟩
        refine ZJ ⟨fun σ' H'=>∃m',m'<m+1/\∃E2 S2 M2,Hi k b m' E2 S2=some (fl,E',S')/\Gr M H M2 H'/\EnR X.K M2 E2 σ' H'/\StR X.K M2 S2 H',fun σ' H' z=>z,?_⟩
        refine⟨M3,E2,S3,f4,E4,S4,e4,r2.step g3.st,st3,?_⟩
        dsimp only at e2
        split at e2
        ·exact fun σ5 H5 M5 g5 r5 st5=>⟨m,by omega,E4,S4,M5,e2,(g2.trans g3).trans g5,r5,st5⟩
        · cases e2
          exact fun v H5 M5 g5 st5 r5=>q _ _ M5 ((g2.trans g3).trans g5) st5 r5
      · cases e2
        refine⟨M2,_,S2,false,_,e3,r2,st2,fun H3 M3 g3 st3=>?_⟩
        refine ZY ?_
        exact q _ _ M3 (g2.trans g3) (r2.step g3.st) st3
      ·cases e2⟩
noncomputable def RF(i:Nat):En->Nat:=fun E=>match at? E i with
 |some (.int j)=>j.natAbs+2
 |_=>0
section
variable{K:PySem.W.Frag}{M M' M2:Ms}{H H' H2:Hp}{S:Sto}
structure GrX(M:Ms)(H:Hp)(M':Ms)(H':Hp):Prop where
 pre:M.cel <+: M'.cel
 fresh:∀a,a∈M'.cel->a∈M.cel∨H a=none
 keep:∀a o,H a=some o->a∉M.cel->H' a=some o
 some:∀a,H a≠none->H' a≠none
theorem GrX.none(g:GrX M H M' H'){a:Addr}(h:H' a=none):H a=none:=by
 cases e:H a with
 |none=>rfl
 |some o=>exact absurd h (g.some a (by rw[e];intro z;cases z))
theorem Gr.x(g:Gr M H M' H'):GrX M H M' H':=⟨g.pre,g.fresh,g.keep,g.some⟩
theorem GrX.trans(h:GrX M H M' H')(g:GrX M' H' M2 H2):GrX M H M2 H2:=
 ⟨h.pre.trans g.pre,fun a z=>(g.fresh a z).elim (h.fresh a) fun z=>.inr (h.none z),fun a o e n=>g.keep a o (h.keep a o e n) (fun z=>by
  rcases h.fresh a z with z|z
  ·exact n z
  ·rw[e]at z;cases z),fun a e=>g.some a (h.some a e)⟩
theorem StR.tmp_on(r:StR K M S H){a:Addr}(e:H a=none):StR K ⟨M.cel,a::M.tmp⟩ S (upd H a (.lst []))/\GrX M H ⟨M.cel,a::M.tmp⟩ (upd H a (.lst []))/\Sp1 M H ⟨M.cel,a::M.tmp⟩ (upd H a (.lst [])):=by
 have k:∀b o,H b=some o->upd H a (.lst []) b=some o:=Gq e
 have na:¬M.mem a:=fun z=>r.mo.some z e
 have s1:Sp1 M H ⟨M.cel,a::M.tmp⟩ (upd H a (.lst [])):=⟨r.mo,List.prefix_rfl,fun b z=>by
  rcases z with z|z
  ·exact .inl (.inl z)
  ·rcases List.mem_cons.mp z with z|z
   ·subst z;exact .inr e
   ·exact .inl (.inr z),fun b o eb _=>k b o eb⟩
 refine⟨⟨fun b z=>?_,r.nd,fun b hb z=>?_,r.len,fun n b c h1 h2=>?_⟩,⟨List.prefix_rfl,fun b z=>.inl z,fun b o eb _=>k b o eb,fun b eb z=>?_⟩,s1⟩
 ·by_cases h:b=a
  ·subst h;exact .inl ⟨[],BV⟩
  ·rw[As h]
   refine r.mo b ?_
   rcases z with z|z
   ·exact .inl z
   ·rcases List.mem_cons.mp z with z|z
    ·exact absurd z h
    ·exact .inr z
 ·rcases List.mem_cons.mp hb with hb|hb
  ·subst hb;exact na (.inl z)
  ·exact r.nt b hb z
 ·have q:=r.cell n b c h1 h2
  cases c with
  |lst ds=>obtain⟨xs,e,rr⟩:=q;exact⟨xs,k _ _ e,rr.step s1⟩
  |dct ds=>obtain⟨xs,e,rr⟩:=q;exact⟨xs,k _ _ e,rr.step s1⟩
 ·cases h:H b with
  |none=>exact eb h
  |some o=>rw[k b o h]at z;cases z
theorem StR.tmp_app(r:StR K M S H){a:Addr}{ys:List V}(ha:a∈M.tmp):StR K M S (upd H a (.lst ys))/\Sp1 M H M (upd H a (.lst ys)):=by
 have s1:Sp1 M H M (upd H a (.lst ys)):=⟨r.mo,List.prefix_rfl,fun b z=>.inl z,fun b o eb nb=>by rw[As (fun z=>nb (by rw[z];exact .inr ha))];exact eb⟩
 refine⟨⟨fun b z=>?_,r.nd,r.nt,r.len,fun n b c h1 h2=>?_⟩,s1⟩
 ·by_cases h:b=a
  ·subst h;exact .inl ⟨ys,BV⟩
  ·rw[As h];exact r.mo b z
 ·have hb:b≠a:=fun z=>r.nt a ha (by rw[←z];exact List.mem_of_getElem? h1)
  have q:=r.cell n b c h1 h2
  cases c with
  |lst ds=>obtain⟨xs,e,rr⟩:=q;exact⟨xs,by rw[As hb];exact e,rr.step s1⟩
  |dct ds=>obtain⟨xs,e,rr⟩:=q;exact⟨xs,by rw[As hb];exact e,rr.step s1⟩
theorem StR.tmp_off{c:List Addr}{t:List Addr}{a:Addr}{xs:List V}{ds:List D}{cf:Bool}{d:D}{S':Sto}(r:StR K ⟨c,a::t⟩ S H)(nt:a∉t)(e:H a=some (.lst xs))(rr:Aq K ⟨c,a::t⟩ H xs ds)(ef:fin cf (.own ds) S=some (d,S')):
    ∃c',StR K ⟨c',t⟩ S' H/\Dc K ⟨c',t⟩ H (.ref a) d/\c <+: c'/\(∀b∈c',b∈c∨b=a):=by
  have nc:a∉c:=r.nt a List.mem_cons_self
  cases cf with
  | false =>
    cases ef
    have s1:Sp1 ⟨c,a::t⟩ H ⟨c,t⟩ H:=⟨r.mo,List.prefix_rfl,fun b z=>.inl (z.imp id (List.mem_cons_of_mem _)),fun _ _ e _=>e⟩
    refine⟨c,⟨fun b z=>r.mo b (z.imp id (List.mem_cons_of_mem _)),r.nd,fun b hb=>r.nt b (List.mem_cons_of_mem _ hb),r.len,fun n b cl h1 h2=>?_⟩,.lst e (fun z=>z.elim nc nt) (rr.step s1),List.prefix_rfl,fun b z=>.inl z⟩
    have q:=r.cell n b cl h1 h2
    cases cl with
    |lst ds=>obtain⟨xs,e,rr⟩:=q;exact⟨xs,e,rr.step s1⟩
    |dct ds=>obtain⟨xs,e,rr⟩:=q;exact⟨xs,e,rr.step s1⟩
  | true =>
    cases ef
    have s1:Sp1 ⟨c,a::t⟩ H ⟨c++[a],t⟩ H:=⟨r.mo,List.prefix_append _ _,fun b z=>by
      rcases z with z|z
      · rcases List.mem_append.mp z with z | z
        ·exact .inl (.inl z)
        ·exact .inl (.inr (by rw[List.mem_singleton.mp z];exact List.mem_cons_self))
      ·exact .inl (.inr (List.mem_cons_of_mem _ z)),fun _ _ e _=>e⟩
    have hl:c.length=S.length:=r.len
    refine⟨c++[a],⟨fun b z=>?_,?_,fun b hb z=>?_,by simp[hl],fun n b cl h1 h2=>?_⟩,.ref ?_,List.prefix_append _ _,fun b z=>?_⟩
    · refine r.mo b ?_
      rcases z with z|z
      · rcases List.mem_append.mp z with z | z
        ·exact .inl z
        ·exact .inr (by rw[List.mem_singleton.mp z];exact List.mem_cons_self)
      ·exact .inr (List.mem_cons_of_mem _ z)
    · rw [List.nodup_append]
      refine⟨r.nd,by simp,fun x hx y hy z=>?_⟩
      simp at hy;subst hy
      exact nc (by rw[←z];exact hx)
    · rcases List.mem_append.mp z with z | z
      ·exact r.nt b (List.mem_cons_of_mem _ hb) z
      ·rw[List.mem_singleton.mp z]at hb;exact nt hb
    · by_cases h : n < S.length
      · rw [List.getElem?_append_left (by rw [hl]; exact h)] at h1
        rw[List.getElem?_append_left h]at h2
        have q:=r.cell n b cl h1 h2
        cases cl with
        |lst ds=>obtain⟨xs,e,rr⟩:=q;exact⟨xs,e,rr.step s1⟩
        |dct ds=>obtain⟨xs,e,rr⟩:=q;exact⟨xs,e,rr.step s1⟩
      · have hm : n = S.length := by
          have:=(List.getElem?_eq_some_iff.mp h2).1
          simp at this;omega
        subst hm
        rw[List.getElem?_append_right (by rw[hl];exact Nat.le_refl _)]at h1
        rw[List.getElem?_append_right (Nat.le_refl _)]at h2
        rw[hl]at h1
        simp at h1 h2
        subst h1 h2
        exact⟨xs,e,rr.step s1⟩
    ·rw[←hl];exact List.getElem?_concat_length
    · rcases List.mem_append.mp z with z | z
      ·exact .inl z
      ·exact .inr (List.mem_singleton.mp z)
end
open Classical in
def Bg (gs : Gd) (t : Tf) (c : Ev) (f : Ev) : List D -> List D -> En -> Sto -> Option (List D × Sto)
  | [],acc,_,S=>if gOk gs S then some (acc,S)else none
  | d :: ds, acc, E, S => if gOk gs S then (if acc.length < sizeLine then (t d E S).bind fun E1 => (c E1 S).bind fun r => match r.1 with
      | .bl true=>(f E1 r.2).bind fun p=>Bg gs t c f ds (acc++[p.1]) E1 p.2
      | .bl false=>Bg gs t c f ds acc E1 r.2
      |_=>none
    else none)else none
noncomputable def Bx:Ev:=fun _ S=>some (.bl true,S)
noncomputable def P5(cap:List Nat)(m:Nat)(E:En):En:=cap.map (at? E)++List.replicate m none
def Mg(cf:Bool)(cap:List Nat)(m:Nat)(s:Sr)(t:Tf)(c:Ev)(f:Ev):Ev:=fun E S=>(s E S).bind fun r=>(Bg r.1.2 t c f r.1.1 [] (P5 cap m E) r.2).bind fun q=>fin cf (.own q.1) q.2
noncomputable abbrev C4:=Mg false
noncomputable abbrev Xz:=Mg true
noncomputable def ixC(cap:List Nat)(m:Nat):List (Option Nat):=cap.map some++List.replicate m none
theorem EnR.cap{K:PySem.W.Frag}{M:Ms}{E:En}{σ:Sg}{H:Hp}(r:EnR K M E σ H)(cap:List Nat)(m:Nat):EnR K M (P5 cap m E) (sig (ixC cap m) σ) H:=by
  unfold P5 sig ixC
  refine⟨by simp,fun i d e=>?_⟩
  have h1:=Ug e
  rw[List.getElem?_map]at h1
  cases e1:cap[i]? with
  |none=>rw[e1]at h1;cases h1
  | some j =>
    rw[e1]at h1
    have h2:at? E j=some d:=by simpa using h1
    obtain⟨v,hv,rd⟩:=r.val j d (at?_some h2)
    refine⟨v,?_,rd⟩
    have hi:i<cap.length:=(List.getElem?_eq_some_iff.mp e1).1
    rw[List.map_append,List.getElem?_append_left (by simpa using hi),List.getElem?_map,List.getElem?_map,e1]
    show some ((σ[j]?).join)=some (some v)
    rw[hv]
    rfl
theorem UE {K : PySem.W.Frag} {cf : Bool} {cap : List Nat} {m : Nat} {s : Sr} {t : Tf} {c f : Ev} {σ : Sg} {H : Hp} {Q : VK} (h : tD K (Mg cf cap m s t c f) σ H Q) : ZC (ixC cap m) (tI K s) (tG K t) (tDT K c) (tD K f) σ H Q := by
  obtain⟨M,E,S,d,S',e,r,st,q⟩:=h
  obtain⟨⟨⟨ds,gs⟩,S1⟩,e1,e⟩:=BE e
  obtain⟨⟨accf,Sf⟩,e3,e⟩:=BE e
  dsimp only at e e3
  refine⟨M,E,S,ds,gs,S1,e1,r,st,fun J H1 M1 g1 st1 it A0 hD=>?_⟩
  obtain⟨st0,gx0,s0⟩:=st1.tmp_on hD
  have nt:A0∉M1.tmp:=fun z=>st1.mo.some (.inr z) hD
  refine⟨fun i mm σ' H' ys=>mm=ds.length-i/\∃Ei Si Mi acc,Bg gs t c f (ds.drop i) acc Ei Si=some (accf,Sf)/\GrX M1 H1 Mi H'/\Mi.tmp=A0::M1.tmp/\EnR K Mi Ei σ' H'/\StR K Mi Si H'/\H' A0=some (.lst ys)/\Aq K Mi H' ys acc,
    ⟨_,rfl,_,S1,_,[],e3,gx0,rfl,((r.step g1.st).step s0).cap cap m,st0,BV,.nil⟩,fun i mm σ2 H2 ys hW=>?_⟩
  obtain⟨rfl,Ei,Si,Mi,acc,ec,gx,ht,r2,st2,hy,ry⟩:=hW
  have sp:Sp1 M1 H1 Mi H2:=⟨st1.mo,gx.pre,fun a z=>by
    rcases z with z|z
    ·exact(gx.fresh a z).imp .inl id
    · rw [ht] at z
      rcases List.mem_cons.mp z with z|z
      ·subst z;exact .inr hD
      ·exact .inl (.inr z),fun a o eo no=>gx.keep a o eo fun z=>no (.inl z)⟩
  refine⟨hy,?_⟩
  cases ed:ds.drop i with
  | nil =>
    rw[ed]at ec
    unfold Bg at ec
    split at ec
    · rename_i ok
      cases ec
      left
      obtain⟨ci,ti⟩:=Mi
      have ht':ti=A0::M1.tmp:=ht
      subst ht'
      obtain⟨c',st',rd',pr',sub'⟩:=st2.tmp_off nt hy ry e
      refine⟨it.stop i H2 _ _ sp st2 ok (List.drop_eq_nil_iff.mp ed),q _ _ ⟨c',M1.tmp⟩ (g1.trans ⟨st1.mo,gx.pre.trans pr',rfl,fun a z=>?_,gx.keep,gx.some⟩) st' rd'⟩
      rcases sub' a z with z|z
      ·exact gx.fresh a z
      ·subst z;exact .inr hD
    ·cases ec
  | cons d rest =>
    obtain⟨d1,d2,d3⟩:=Oa ed
    rw[ed]at ec
    unfold Bg at ec
    split at ec
    · rename_i ok
      split at ec
      · rename_i hz
        obtain⟨E3,e4,ec⟩:=BE ec
        obtain⟨⟨w5,S5⟩,e5,ec⟩:=BE ec
        right
        refine⟨it.go i H2 Mi Si sp st2 ok d3,by rw[ry.length];exact hz,fun x H3 hyl=>?_⟩
        obtain⟨k3,rx⟩:=it.yld i H2 Mi Si x H3 d sp st2 ok d1 hyl
        have g3:Gr Mi H2 Mi H3:=.grow st2.mo k3
        have st3:=st2.grow k3
        refine⟨Mi,d,Ei,E3,Si,e4,r2.step g3.st,st3,rx,fun σ4 r4=>?_⟩
        have hA:A0∈Mi.tmp:=by rw[ht];exact List.mem_cons_self
        have hy3:H3 A0=some (.lst ys):=k3 _ _ hy
        have ry3:Aq K Mi H3 ys acc:=ry.step g3.st
        have fin:∀{E6:En} {S6:Sto} {M6:Ms} {H6:Hp} {zs:List V} {acc6:List D},Bg gs t c f rest acc6 E6 S6=some (accf,Sf)->GrX M1 H1 M6 H6->M6.tmp=A0::M1.tmp->EnR K M6 E6 σ4 H6->StR K M6 S6 H6->H6 A0=some (.lst zs)->Aq K M6 H6 zs acc6->
            ∃m',m'<ds.length-i/\(m'=ds.length-(i+1)/\∃Ei Si Mi acc,Bg gs t c f (ds.drop (i+1)) acc Ei Si=some (accf,Sf)/\GrX M1 H1 Mi H6/\Mi.tmp=A0::M1.tmp/\EnR K Mi Ei σ4 H6/\StR K Mi Si H6/\H6 A0=some (.lst zs)/\Aq K Mi H6 zs acc):=
          fun{E6 S6 M6 H6 zs acc6} ec g6 t6 r6 st6 h6 y6=>⟨_,by omega,rfl,E6,S6,M6,acc6,by rw[d2];exact ec,g6,t6,r6,st6,h6,y6⟩
        dsimp only at ec
        split at ec
        · obtain ⟨⟨w7, S7⟩, e7, ec⟩ := BE ec
          refine⟨Mi,E3,Si,true,S5,e5,r4,st3,fun H5 M5 g5 st5=>?_⟩
          refine ZJ ?_
          refine⟨M5,E3,S5,w7,S7,e7,r4.step g5.st,st5,fun y H7 M7 g7 st7 d7=>?_⟩
          have nA:∀{M6:Ms} {H6:Hp} {S6:Sto},StR K M6 S6 H6->A0∈M6.tmp->A0∉M6.cel:=fun r6 h6=>r6.nt A0 h6
          have hA5:A0∈M5.tmp:=by rw[g5.tmp];exact hA
          have hA7:A0∈M7.tmp:=by rw[g7.tmp];exact hA5
          have hy5:H5 A0=some (.lst ys):=g5.keep _ _ hy3 (nA st3 hA)
          have hy7:H7 A0=some (.lst ys):=g7.keep _ _ hy5 (nA st5 hA5)
          have ry7:Aq K M7 H7 ys acc:=(ry3.step g5.st).step g7.st
          refine⟨hy7,?_⟩
          obtain⟨st8,s8⟩:=st7.tmp_app (ys:=ys++[y]) hA7
          have gx7:GrX M1 H1 M7 H7:=((gx.trans g3.x).trans g5.x).trans g7.x
          have gx8:GrX M1 H1 M7 (upd H7 A0 (.lst (ys++[y]))):=⟨gx7.pre,gx7.fresh,fun a o eo no=>by
            rw[As (fun z=>by subst z;rw[hD]at eo;cases eo)]
            exact gx7.keep a o eo no,fun a ea=>by
            by_cases h:a=A0
            ·subst h;rw[BV];intro z;cases z
            ·rw[As h];exact gx7.some a ea⟩
          exact fin ec gx8 (by rw[g7.tmp,g5.tmp];exact ht) (((r4.step g5.st).step g7.st).step s8) st8 BV ((ry7.append (.cons d7 .nil)).step s8)
        · refine ⟨Mi, E3, Si, false, S5, e5, r4, st3, fun H5 M5 g5 st5 => ?_⟩
          refine ZY ?_
          exact fin ec ((gx.trans g3.x).trans g5.x) (by rw[g5.tmp];exact ht) (r4.step g5.st) st5 (g5.keep _ _ hy3 (st3.nt A0 hA)) (ry3.step g5.st)
        ·cases ec
      ·cases ec
    ·cases ec
structure DTs(X:Cx)(ifs:List Expr)(c:Ev):Prop where
 pe:PTs X ifs (tDT X.K c)
theorem Wy{X:Cx}{e:List Expr}{t t':TT}(h:PTs X e t)(m:∀σ H Q,t' σ H Q->t σ H Q):PTs X e t':=fun pins s σ H Q I q=>h pins s σ H Q I (m _ _ _ q)
theorem CL{X:Cx}:DTs X [] Bx:=⟨Wy aO fun σ H Q z=>by
 obtain⟨M,E,S,b,S',e,r,st,q⟩:=z
 cases e
 exact q _ M (.refl st.mo) st⟩
theorem J0{X:Cx}{c:Expr}{f:Ev}(h:DT X c f):DTs X [c] f:=⟨Zq h.pe⟩
section
variable{X:Cx}{N':List Str}{cf:Bool}{cap:List Nat}{m:Nat}{scope:Scope}{elt tg iter:Expr}{ifs:List Expr}{pos:Pos}{s:Sr}{t:Tf}{c f:Ev}
def Blk(X:Cx)(N':List Str)(scope:Scope)(tg:Expr)(ifs:List Expr)(elt:Expr)(t:Tf)(c f:Ev):Prop:=
 ∀(s:Shared) (H:Hp) (fp:List Addr),DG (Hc X N' scope s H fp) tg t/\DTs (Hc X N' scope s H fp) ifs c/\DE (Hc X N' scope s H fp) elt f
theorem B0(cap:List Nat)(m:Nat)(N':List Str)(hc:X.calm=true)(S:Ae X.N X.env.scope N' (ixC cap m) scope)(hi:DI X tg iter s)(hb:Blk X N' scope tg ifs elt t c f)(hs:∀x,foldedSetIterable iter X.env x=pure x:=by intro _;rfl):
  DE X (.ListComp elt [⟨tg,iter,ifs,0⟩] scope pos) (Mg cf cap m s t c f):=⟨
 Bb (Y9 (g:=tG X.K t) (tc:=tDT X.K c) (te:=tD X.K f) hc S hi.pe (fun s H fp=>⟨(hb s H fp).1.pe,(hb s H fp).2.1.pe,(hb s H fp).2.2.pe⟩) hs) fun _ _ _ h=>UE h⟩
theorem Hv{i:Nat}{y:Str}{py spos:Pos}(cap:List Nat)(m:Nat)(N':List Str)(hc:X.calm=true)(hN:X.N.Nodup)(hi':X.N[i]?=some y)(hx:X.env.scope.names.lookup y=some .local)(S:Ae X.N X.env.scope N' (ixC cap m) scope)(hi:DI X tg iter s)(hb:Blk X N' scope tg ifs elt t c f)
  (hsw:swapsWith (.ListComp elt [⟨tg,iter,ifs,0⟩] scope pos) (some (.Name y py)) spos.line X.env=pure true:=by rfl) (hs:∀x,foldedSetIterable iter X.env x=pure x:=by intro _;rfl):
  DS X (.Assign [.Name y py] (.ListComp elt [⟨tg,iter,ifs,0⟩] scope pos) spos) (CF i (Mg cf cap m s t c f)):=⟨
 GD (Rb (g:=tG X.K t) (tc:=tDT X.K c) (te:=tD X.K f) hc hN hi' hx S hi.pe (fun s H fp=>⟨(hb s H fp).1.pe,(hb s H fp).2.1.pe,(hb s H fp).2.2.pe⟩) hsw hs) fun Dn σ H z=>by
  obtain⟨M,E,S,fl,E',S',e,r,st,q⟩:=z
  obtain⟨⟨d,S1⟩,e1,e⟩:=Kf e
  cases e
  exact UE ⟨M,E,S,d,S1,e1,r,st,fun v H1 M1 g1 st1 r1=>q _ _ M1 g1 ((r.step g1.st).put r1) st1⟩⟩
end
noncomputable def JW{α:Type}(xs:List α)(lo hi:Option Int):List α:=(xs.drop (HT.sIx xs.length 0 lo)).take (HT.sIx xs.length xs.length hi-HT.sIx xs.length 0 lo)
theorem T8{K:PySem.W.Frag}{M:Ms}{H:Hp}{xs:List V}{ds:List D}(h:Aq K M H xs ds)(lo hi:Option Int):Aq K M H (YT xs lo hi) (JW ds lo hi):=by
 unfold YT JW
 rw[h.length]
 exact(h.drop _).take _
theorem To{α:Type}{xs:List α}{lo hi:Option Int}(h1:HT.sIx xs.length 0 lo=0)(h2:HT.sIx xs.length xs.length hi=xs.length):JW xs lo hi=xs:=by
 unfold JW
 rw[h1,h2]
 simp
noncomputable def wSl(lo hi:Option Int):Op1:=fun w=>match w with
 | .val (.tup ds)=>some (.val (.tup (JW ds lo hi)))
 | .val (.str z)=>if z.length≤sizeLine then some (.val (.str (Txt.slice z lo hi)))else none
 |w=>(asL w).map fun ds=>.own (JW ds lo hi)
def kR(K:PySem.W.Frag):V->Option Int->Option Int->Hp->VK->Prop:=fun x lo hi H Q=>∃M w r,wSl lo hi w=some r/\MOk M H/\Sh K M H x w/\∀v H',Nw K M H H' v r->Q v H'
theorem dj{X:Cx}:SlR X (fun x lo hi H Q=>∃z,x=.str z/\z.length≤sizeLine/\Q (.str (Txt.slice z lo hi)) H):=by
  intro pins s σ H x v vl vu lo hi sl Q I rx hs pl pu h
  obtain⟨z,rfl,hz,q⟩:=h
  obtain⟨t,rfl⟩:=rx
  have fin:∀t' k,EP X pins σ Q (.str (Txt.slice z lo hi) t') {s with toks:=k}:=fun t' k=>⟨.str _,H,I.tok k,⟨t',rfl⟩,q⟩
  cases pl with
  | none =>
    cases pu with
    |none=>exact⟨"str",_,PySem.F.slot_str_getitem.lookup,typeIs_str _ _ _,wpAny_getItem_str_slice (l:=none) (u:=none) (st:=none) hs rfl (post_val_or_str ⟨Nat.le_trans (Txt.slice_le z _ _) hz,fin⟩)⟩
    |int j u=>exact⟨"str",_,PySem.F.slot_str_getitem.lookup,typeIs_str _ _ _,wpAny_getItem_str_slice (l:=none) (u:=some (j,u)) (st:=none) hs rfl (post_val_or_str ⟨Nat.le_trans (Txt.slice_le z _ _) hz,fin⟩)⟩
  | int i u' =>
    cases pu with
    |none=>exact⟨"str",_,PySem.F.slot_str_getitem.lookup,typeIs_str _ _ _,wpAny_getItem_str_slice (l:=some (i,u')) (u:=none) (st:=none) hs rfl (post_val_or_str ⟨Nat.le_trans (Txt.slice_le z _ _) hz,fin⟩)⟩
    |int j u=>exact⟨"str",_,PySem.F.slot_str_getitem.lookup,typeIs_str _ _ _,wpAny_getItem_str_slice (l:=some (i,u')) (u:=some (j,u)) (st:=none) hs rfl (post_val_or_str ⟨Nat.le_trans (Txt.slice_le z _ _) hz,fin⟩)⟩
theorem gh{X:Cx}:SlR X (kR X.K):=by
  intro pins s σ H x v vl vu lo hi sl Q I rx hs pl pu h
  obtain⟨M,w,r,e,mo,sh,q⟩:=h
  unfold wSl at e
  split at e
  · rename_i ds
    cases e
    cases sh with
    | tup hx rr =>
      rename_i a xs
      have hl:=rr.length
      by_cases hw:HT.sIx xs.length 0 lo=0/\HT.sIx xs.length xs.length hi=xs.length
      · refine St.bK pins s σ H _ v vl vu lo hi sl Q I rx hs pl pu ⟨a, xs, rfl, hx, hw.1, hw.2, ?_⟩
        have ew:JW ds lo hi=ds:=To (by rw[←hl];exact hw.1) (by rw[←hl];exact hw.2)
        rw[ew]at q
        exact q _ _ (.same mo (.tup hx rr))
      ·exact ba pins s σ H _ v vl vu lo hi sl Q I rx hs pl pu ⟨a,xs,rfl,hx,hw,fun p hp=>q _ _ (.tup mo hp (T8 rr lo hi))⟩
  · split at e
    · cases e
      cases sh
      exact dj pins s σ H _ v vl vu lo hi sl Q I rx hs pl pu ⟨_,rfl,by assumption,q _ _ (.same mo (.str _))⟩
    ·cases e
  · cases e1 : asL w with
    |none=>rw[e1]at e;cases e
    | some ds =>
      rw[e1]at e
      cases e
      obtain⟨a,xs,rfl,h1,rr⟩:=sh.l e1
      exact Za pins s σ H _ v vl vu lo hi sl Q I rx hs pl pu ⟨a,xs,rfl,.of h1,fun p hp=>q _ _ (.lst mo hp (T8 rr lo hi))⟩
noncomputable def aj:Wv->Option Int
 | .val (.int i)=>some i
 |_=>none
noncomputable def J6(l h:Bool):OpN:=fun ws=>match l,h,ws with
 |false,false,[a]=>wSl none none a
 |true,false,[a,b]=>(aj b).bind fun i=>wSl (some i) none a
 |false,true,[a,b]=>(aj b).bind fun i=>wSl none (some i) a
 |true,true,[a,b,c]=>(aj b).bind fun i=>(aj c).bind fun j=>wSl (some i) (some j) a
 |_,_,_=>none
theorem UD{K:PySem.W.Frag}{M:Ms}{H:Hp}{v:V}{w:Wv}{i:Int}(s:Sh K M H v w)(e:aj w=some i):v=.int i:=by
  cases w with
  |own ds=>cases e
  | val d =>
    cases d<;>first|(cases e;done)|skip
    cases e;cases s;rfl
section
variable{X:Cx}{e lo hi:Expr}{oe ol oh:Ev}{c:Bool}{pos p2:Pos}
theorem LX(h:DE X e oe)(hl:DE X lo ol):DE X (.Subscript e (.Slice (some lo) none none p2) pos) (P4 c (J6 true false) [oe,ol]):=⟨Bb (NW gh h.pe (NO hl.pe) TF) fun σ H Q z=>by
  obtain⟨M0,E,S0,w,S1,e,r,st,q⟩:=z
  have z:tD X.K oe σ H fun x H1=>tD X.K ol σ H1 fun y H2=>rN X.K (J6 true false) [x,y] H2 Q:=Mx (Q:=Q) e r st q
  refine EI z fun x H1 z1=>EI z1 fun y H2 z2=>?_
  obtain⟨M,ws,w',e1,mo,sh,q1⟩:=z2
  cases sh with
  | cons h1 t =>
    cases t with
    | cons h2 t =>
      cases t
      obtain⟨i,ei,e1⟩:=BE e1
      exact⟨i,UD h2 ei,M,_,w',e1,mo,h1,q1⟩⟩
theorem NT(h:DE X e oe)(hh:DE X hi oh):DE X (.Subscript e (.Slice none (some hi) none p2) pos) (P4 c (J6 false true) [oe,oh]):=⟨Bb (NW gh h.pe TF (NO hh.pe)) fun σ H Q z=>by
  obtain⟨M0,E,S0,w,S1,e,r,st,q⟩:=z
  have z:tD X.K oe σ H fun x H1=>tD X.K oh σ H1 fun y H2=>rN X.K (J6 false true) [x,y] H2 Q:=Mx (Q:=Q) e r st q
  refine EI z fun x H1 z1=>EI z1 fun y H2 z2=>?_
  obtain⟨M,ws,w',e1,mo,sh,q1⟩:=z2
  cases sh with
  | cons h1 t =>
    cases t with
    | cons h2 t =>
      cases t
      obtain⟨i,ei,e1⟩:=BE e1
      exact⟨i,UD h2 ei,M,_,w',e1,mo,h1,q1⟩⟩
theorem UX{K:PySem.W.Frag}{M:Ms}{H:Hp}{S:Sto}{v:V}{d:D}{i:Int}(r:Dc K M H v d)(e:aj (dr S d)=some i):v=.int i:=by
 cases r<;>first|(cases e;done)|skip
 ·cases e;rfl
 ·rename_i n h
  unfold dr at e
  dsimp only at e
  split at e<;>cases e
theorem Yu(h:DE X e oe)(hl:DE X lo ol)(hh:DE X hi oh):DE X (.Subscript e (.Slice (some lo) (some hi) none p2) pos) (P4 c (J6 true true) [oe,ol,oh]):=⟨Bb (NW gh h.pe (NO hl.pe) (NO hh.pe)) fun σ H Q z=>by
 obtain⟨M0,E,S0,w,S1,e,r,st,q⟩:=z
 obtain⟨⟨ds,S2⟩,e1,e⟩:=BE e
 obtain⟨w2,e2,e⟩:=BE e
 obtain⟨⟨d1,Sa⟩,ea,e1⟩:=BE e1
 obtain⟨⟨ds1,Sb⟩,eb,e1⟩:=Kf e1
 cases e1
 obtain⟨⟨d2,Sc⟩,ec,eb⟩:=BE eb
 obtain⟨⟨ds2,Sd⟩,ed,eb⟩:=Kf eb
 cases eb
 obtain⟨⟨d3,Se⟩,ee,ed⟩:=BE ed
 obtain⟨⟨ds3,Sf⟩,ef,ed⟩:=Kf ed
 cases ed
 cases ef
 obtain⟨i,ei,e2⟩:=BE e2
 obtain⟨j,ej,e2⟩:=BE e2
 refine⟨M0,E,S0,d1,Sa,ea,r,st,fun x H1 M1 g1 st1 r1=>?_⟩
 refine⟨M1,E,Sa,d2,Sc,ec,r.step g1.st,st1,fun y H2 M2 g2 st2 r2=>⟨i,?_,?_⟩⟩
 ·exact UX r2 ei
 refine⟨M2,E,Sc,d3,Se,ee,(r.step g1.st).step g2.st,st2,fun u H3 M3 g3 st3 r3=>⟨j,?_,?_⟩⟩
 ·exact UX r3 ej
 refine⟨M3,_,w2,e2,st3.mo,aU st3 ((r1.step g2.st).step g3.st),fun v H4 n=>?_⟩
 obtain⟨M4,g4,st4,d4⟩:=n.fin st3 e
 exact q v H4 M4 (((g1.trans g2).trans g3).trans g4) st4 d4⟩
noncomputable def RB{α:Type}(xs:List α):List α:=(List.range xs.length).filterMap fun k=>xs[St.NK xs.length k]?
theorem aI{K:PySem.W.Frag}{M:Ms}{H:Hp}{xs:List V}{ds:List D}(h:Aq K M H xs ds):Aq K M H (RB xs) (RB ds):=by
  unfold RB
  rw[h.length]
  generalize List.range ds.length=ks
  induction ks with
  |nil=>exact .nil
  | cons k ks ih =>
    rw[List.filterMap_cons,List.filterMap_cons]
    cases e:ds[St.NK ds.length k]? with
    | none =>
      have:xs[St.NK ds.length k]?=none:=by rw[List.getElem?_eq_none_iff]at e ⊢; rw[h.length];exact e
      rw[this]
      exact ih
    | some d =>
      obtain⟨x,h1,h2⟩:=h.get e
      rw[h1]
      exact .cons h2 ih
noncomputable def bF:Op1
 | .val (.tup ds)=>some (.val (.tup (RB ds)))
 |_=>none
noncomputable def iS(K:PySem.W.Frag)(te:TE):TE:=fun σ H Q=>te σ H fun x H1=>∃a xs,x=.ref a/\SqT K H1 a xs/\∀p,H1 p=none->Q (.ref p) (upd H1 p (.tup (RB xs)))
theorem Ze{e:Expr}{te:TE}{p1 p2 p3 pos:Pos}{k:Nat}(he:PE X e te):PE X (.Subscript e (.Slice none none (some (.UnaryOp .USub (.Constant (.int 1) k p1) p2)) p3) pos) (iS X.K te):=by
 intro pins s σ H Q I h
 refine PyProof.Rows.Subscript_ (thn (he pins s σ H _ I h) fun v s1 ⟨x,H1,I1,r1,q1⟩=>?_)
 obtain⟨a,xs,rfl,hx,q⟩:=q1
 cases r1
 refine wpAny_Slice ?_
 rw[evalPart_none]
 refine wpAny_pure (wpAny_pure ?_)
 rw[evalPart_some]
 refine thn ((dS (X:=X) YM (Xs (i:=1) (j:=k) (pos:=p1)) (pos:=p2)) pins s1 σ H1 (fun v H2=>v=.int (-1)/\H2=H1) I1 ⟨_,rfl,rfl,rfl⟩) fun u s2 ⟨y,H2,I2,r2,ey,eh⟩=>?_
 subst ey eh
 obtain⟨tk,rfl⟩:=r2
 have I4:Inv X pins σ H2 {s2 with heap:=s2.heap.push {cls:=.type "slice",data:=.fields #[.none,.none,.int (-1) tk]}}:=I2.kept (t':=s2.toks) fun b ob q=>Heap.get?_push_of_some _ q
 obtain⟨its,r,ht,hz⟩:=I4.tuple hx
 have hlen:its.toArray.size=xs.length:=by rw[List.size_toArray];exact r.length.symm
 refine PyProof.Rows.tail_any (ops:=[.ref a,.ref s2.heap.objs.size]) ht.typeIs PyProof.Rows.slot_tuple_getitem.lookup ?_ (by with_unfolding_all rfl)
 refine St.J4 ht (Heap.IsSliceOf.new ..) (by rw[hlen];exact hz) ?_
 have fr:=I4.hok.fresh (Nat.le_refl _)
 refine⟨.ref _,_,I4.laid (o:=.tup (RB xs)) (fun b ob q=>Heap.get?_push_of_some _ q) (Nat.le_refl _) ?_,rfl,q _ fr⟩
 have:=St.Vals.pick r (St.NK xs.length) (List.range xs.length)
 refine⟨?_,_,this,?_⟩
 ·unfold RB
  refine Nat.le_trans (List.length_filterMap_le _ _) ?_
  rw[List.length_range]
  exact hz
 ·have e:((List.range its.toArray.size).filterMap fun k=>its.toArray[St.NK its.toArray.size k]?)=((List.range xs.length).filterMap fun k=>its[St.NK xs.length k]?):=by
   rw[hlen]
   congr 1
   funext k
   rw[List.getElem?_toArray]
  rw[e]
  exact PyProof.Rows.IsTup.new _ _
theorem cC{p1 p3:Pos}{k:Nat}(h:DE X e oe):DE X (.Subscript e (.Slice none none (some (.UnaryOp .USub (.Constant (.int 1) k p1) p2)) p3) pos) (eOp (o1 bF) [oe]):=⟨Bb (Ze h.pe) fun σ H Q z=>by
 refine EI (Oj z) fun x H1 z1=>?_
 obtain⟨M,w,r,e,mo,sh,q⟩:=z1
 unfold bF at e
 split at e
 ·cases e
  cases sh with
  |tup hx rr=>exact⟨_,_,rfl,hx,fun p hp=>q _ _ (.tup mo hp (aI rr))⟩
 ·cases e⟩
noncomputable def wUp:Op1
 | .val (.str z)=>if(Txt.upper z).length≤sizeLine then some (.val (.str (Txt.upper z)))else none
 |_=>none
theorem Wz:MtR X "str.upper" (fun x xs H Q=>xs=[]/\∃z,x=.str z/\(Txt.upper z).length≤sizeLine/\Q (.str (Txt.upper z)) H):=by
 intro pins s σ H x xs v us Q I rx rv h
 obtain⟨rfl,z,rfl,hz,q⟩:=h
 cases rv
 obtain⟨t,rfl⟩:=rx
 have hfit:Builtin.Str.tooLong (Txt.upper z).length=false:=by
  unfold Builtin.Str.tooLong
  exact decide_eq_false (by omega)
 exact call_gives PySem.F.slot_str_upper (typeIs_str _ _ _) PySem.F.entry_str_upper (PySem.F.args_str_upper_1 _) (gives_str_upper z t hfit) ⟨hz,⟨.str _,H,I.tok _,⟨_,rfl⟩,q⟩⟩
theorem Xc{o:Expr}{oo:Ev}{apos cpos:Pos}(h:DE X o oo)(hbase:attributeBase o "upper" X.env (eval o X.env)=eval o X.env:=by rfl)(hline:(apos.endLine==cpos.line)=true:=by rfl):DE X (.Call (.Attribute o "upper" apos) [] [] cpos) (eOp (o1 wUp) [oo]):=⟨
 Bb (cA PySem.F.plainAttrs_str PySem.F.slot_str_upper PySem.F.type_str_upper Wz h.pe hbase hline) fun σ H Q z=>by
  refine EI (Oj z) fun x H1 z1=>?_
  obtain⟨M,w,r,e,mo,sh,q⟩:=z1
  unfold wUp at e
  split at e
  ·split at e
   ·cases e
    cases sh
    exact⟨rfl,rfl,_,rfl,by assumption,q _ _ (.same mo (.str _))⟩
   ·cases e
  ·cases e⟩
noncomputable def Qx(oa ob oc:Ev):Ev:=fun E S=>(evs [oa,ob] E S).bind fun r=>match r.1 with
  | [.int i,.int j]=>if i≤j then(oc E r.2).bind fun p=>match p.1 with
      | .int k=>some (.bl (decide (j≤k)),p.2)
      |_=>none
    else some (.bl false,r.2)
  |_=>none
theorem ir{K:PySem.W.Frag}{oa ob oc:Ev}{σ:Sg}{H:Hp}{Q:VK}(h:tD K (Qx oa ob oc) σ H Q):Xu (rI0 fun i j=>.bl (decide (i≤j))) (rI0 fun i j=>.bl (decide (i≤j))) (tD K oa) (tD K ob) (tD K oc) σ H Q:=by
 obtain⟨M,E,S,d,S',e,r,st,q⟩:=h
 obtain⟨⟨ws,S1⟩,e1,e⟩:=BE e
 have zz:=H0 (K:=K) (σ:=σ) (fs:=[oa,ob]) (Q:=fun vs H2=>∃i j:Int,vs=[V.int i,V.int j]/\rI0 (fun i j=>.bl (decide (i≤j))) (.int i) (.int j) H2 fun z H3=>∃k,z=.bl k/\(if k=true then tD K oc σ H3 fun w' H4=>rI0 (fun i j=>.bl (decide (i≤j))) (.int j) w' H4 Q else Q (.bl false) H3)) e1 r st (fun vs H1 M1 g1 st1 r1=>by
  dsimp only at e
  split at e
  ·rename_i i j
   have hv:=TQ r1
   refine⟨i,j,hv,i,j,rfl,rfl,_,rfl,?_⟩
   by_cases hij:i≤j
   ·rw[if_pos hij]at e
    rw[if_pos (by simpa using hij)]
    obtain⟨⟨w2,S2⟩,e2,e⟩:=BE e
    dsimp only at e
    split at e
    ·rename_i k
     cases e
     refine⟨M1,E,S1,_,_,e2,r.step g1.st,st1,fun v H2 M2 g2 st2 r2=>?_⟩
     cases r2
     exact⟨j,k,rfl,rfl,q _ _ M2 (g1.trans g2) st2 (.bl _)⟩
    ·cases e
   ·rw[if_neg hij]at e
    cases e
    rw[if_neg (by simpa using hij)]
    exact q _ _ M1 g1 st1 (.bl _)
  ·cases e)
 refine EI (show tD K oa σ H _ from zz) fun x H1 z1=>EI z1 fun y H2 z2=>?_
 obtain⟨i,j,ev,z2⟩:=z2
 cases ev
 exact z2
theorem Yv{a b c:Expr}{oa ob oc:Ev}(ha:DE X a oa)(hb:DE X b ob)(hc:DE X c oc)(hm:lastMarks [.LtE,.LtE] [b,c]=false:=by with_unfolding_all rfl):DE X (.Compare a [.LtE,.LtE] [b,c] pos) (Qx oa ob oc):=⟨
 Bb (XN aP aP ha.pe hb.pe hc.pe hm) fun _ _ _ h=>ir h⟩
structure MY(K:PySem.W.Frag)(mg:Str->Option Value)(x:Str)(d:D):Prop where
 ex:∃v u,mg x=some u/\RelV v u/\∀M H,Dc K M H v d
theorem JZ{x:Str}{d:D}(c:MY X.K X.mg x d)(hg:Gl X x)(hd:(x==("__debug__":Str))=false:=by decide):DE X (.Name x pos) (eC d):=⟨by
 obtain⟨v,u,h1,h2,h3⟩:=c.ex
 exact Bb (NV hg h1 h2 hd) fun σ H Q z=>by
  obtain⟨M0,E,S0,w,S1,e,rr,st,q⟩:=z
  cases e
  exact q _ _ M0 (.refl st.mo) st (h3 _ _)⟩
theorem Ey{x:Str}{T:String}(hg:Gl X x)(hm:X.mg x=none)(hv:bootBuiltins x=some (.type T))(hn:x≠ "__name__":=by decide)(hd:(x==("__debug__":Str))=false:=by decide):DE X (.Name x pos) (eC (.ty T)):=
 ON (ZO (v:=.ty T) hg hm hv rfl hn hd) fun _ _ _=>.ty T
structure ak(K:PySem.W.Frag)(w:World)(mg:Str->Option Value)(x:Str)(tbl:List (Str×D)):Prop where
 ex:∃a kvs,mg x=some (.ref a)/\TopD K w a kvs/\∀k,(tbl.lookup k=none->kvs.lookup k=none)/\∀d,tbl.lookup k=some d->∃v,kvs.lookup k=some v/\∀M H,Dc K M H v d
noncomputable def bG(tbl:List (Str×D)):Op1
 | .val (.str k)=>(tbl.lookup k).map .val
 |_=>none
noncomputable def MX(neg:Bool)(tbl:List (Str×D)):Op1
 | .val (.str k)=>some (.val (.bl (if neg then !(tbl.lookup k).isSome else(tbl.lookup k).isSome)))
 |_=>none
theorem bX{x:Str}{tbl:List (Str×D)}{i:Expr}{o:Ev}{p:Pos}(c:ak X.K X.w X.mg x tbl)(hg:Gl X x)(h:DE X i o)(hs:Nc i:=by exact fun _ _=>rfl)(hd:(x==("__debug__":Str))=false:=by decide):DE X (.Subscript (.Name x p) i pos) (eOp (o1 (bG tbl)) [o]):=⟨by
  obtain⟨a,kvs,h1,h2,h3⟩:=c.ex
  refine Bb (aK Xt (NV (v:=.ref a) hg h1 rfl hd) h.pe hs) fun σ H Q z=>?_
  refine EI (Oj z) fun y H1 z1=>?_
  obtain⟨M,w,r,e,mo,sh,q⟩:=z1
  unfold bG at e
  split at e
  · rename_i k
    cases e1:tbl.lookup k with
    |none=>rw[e1]at e;cases e
    | some d =>
      rw[e1]at e
      cases e
      cases sh
      obtain⟨v,q1,q2⟩:=(h3 k).2 d e1
      exact⟨a,kvs,k,v,rfl,rfl,h2,q1,q _ _ (.same mo (q2 _ _))⟩
  ·cases e⟩
theorem cE{x:Str}{tbl:List (Str×D)}{neg:Bool}{a:Addr}{kvs:List (Str×V)}(h2:TopD X.K X.w a kvs)(h3:∀k,(tbl.lookup k=none->kvs.lookup k=none)/\∀d,tbl.lookup k=some d->∃v,kvs.lookup k=some v/\∀M H,Dc X.K M H v d)
  {y:V} {H:Hp} {Q:VK} (z:rUn X.K (MX neg tbl) y H Q):YS X.K X.w neg y (.ref a) H Q:=by
 obtain⟨M,w,r,e,mo,sh,q⟩:=z
 unfold MX at e
 split at e
 ·rename_i k
  cases e
  cases sh
  refine⟨a,kvs,k,rfl,rfl,h2,?_⟩
  have:(kvs.lookup k).isSome=(tbl.lookup k).isSome:=by
   cases e1:tbl.lookup k with
   |none=>rw[(h3 k).1 e1];rfl
   |some d=>obtain⟨v,q1,_⟩:=(h3 k).2 d e1;rw[q1];rfl
  rw[this]
  exact q _ _ (.same mo (.bl _))
 ·cases e
theorem Ph{x:Str}{tbl:List (Str×D)}{i:Expr}{o:Ev}{p:Pos}(c:ak X.K X.w X.mg x tbl)(hg:Gl X x)(h:DE X i o)(hd:(x==("__debug__":Str))=false:=by decide):DT X (.Compare i [.NotIn] [.Name x p] pos) (eOp (o1 (MX true tbl)) [o]):=by
 obtain⟨a,kvs,h1,h2,h3⟩:=c.ex
 exact Wq (SR Oc h.pe (NV (v:=.ref a) hg h1 rfl hd) rfl) fun σ H Q z=>EI (Oj z) fun y H1 z1=>cE (x:=x) h2 h3 z1
end
noncomputable def QG:Nat->List D->List D
 |_,[]=>[]
 |k,d::ds=>.tup [.int k,d]::QG (k+1) ds
theorem Nx:∀{ds:List D} {k i:Nat},(QG k ds)[i]?=(ds[i]?).map fun d=>.tup [.int ((k+i:Nat):Int),d]
  | [],k,i=>by simp[QG]
  |d::ds,k,0=>by simp[QG]
  | d :: ds, k, i + 1 => by
    simp only[QG,List.getElem?_cons_succ]
    rw[Nx,show k+1+i=k+(i+1) by omega]
theorem N7:∀{ds:List D} {k:Nat},(QG k ds).length=ds.length
 | [],k=>rfl
 |d::ds,k=>by simp[QG,N7 (ds:=ds)]
theorem SqF.sqB{K:PySem.W.Frag}{M:Ms}{H:Hp}{gs:Gd}{k:Bool}{a:Addr}{ds:List D}(h:SqF K M H gs k a ds){H2:Hp}{M2:Ms}{S2:Sto}(g:Sp1 M H M2 H2)(st:StR K M2 S2 H2)(ok:gOk gs S2):∃xs,SqB K H2 k a xs/\Aq K M2 H2 xs ds:=by
 obtain⟨xs,h1,h2⟩:=h.keep H2 M2 S2 g st ok
 refine⟨xs,?_,h2⟩
 cases k with
 |true=>exact h1
 |false=>exact h1
theorem dA{K:PySem.W.Frag}{M:Ms}{H:Hp}{gs:Gd}{k:Bool}{a:Addr}{ds:List D}(h:SqF K M H gs k a ds):cw K M H gs (QG 0 ds) (ItE K k a) where
 go:=fun i H2 M2 S2 g st ok hi=>by
  rw[N7]at hi
  obtain⟨xs,h1,h2⟩:=h.sqB g st ok
  obtain⟨x,hx⟩:=h2.get' hi
  exact⟨xs,x,h1,hx⟩
 stop:=fun i H2 M2 S2 g st ok hi=>by
  rw[N7]at hi
  obtain⟨xs,h1,h2⟩:=h.sqB g st ok
  exact⟨xs,h1,by have:=h2.length;omega⟩
 yld:=fun i H2 M2 S2 x H3 d g st ok hd hy=>by
  obtain⟨xs,h1,h2⟩:=h.sqB g st ok
  obtain⟨p,y,hp,rfl,hy,rfl⟩:=hy
  have hx:=hy xs h1
  rw[Nx]at hd
  obtain⟨d0,e,hd⟩:=Kf hd
  subst hd
  obtain⟨x',h3,h4⟩:=h2.get e
  rw[hx]at h3;cases h3
  have k3:=Gq (o:=.tup [.int i,y]) hp
  refine⟨k3,.tup (.of BV) (.cons ?_ (.cons (h4.step (Gr.grow st.mo k3).st) .nil))⟩
  rw[Nat.zero_add]
  exact .int _
noncomputable def ah(f:Ev):Sr:=fun E S=>(f E S).bind fun r=>(sqD r.2 r.1).map fun p=>((QG 0 p.1,p.2),r.2)
theorem X6{X:Cx}{a:Expr}{f:Ev}{p pos tp:Pos}{elts:List Expr}{k:Nat}(hg:Gl X "enumerate")(hm:X.mg "enumerate"=none)(ha:DE X a f)(hs:starEach [a] X.env=[(false,eval a X.env)]:=by rfl):DI X (.Tuple elts k tp) (.Call (.Name "enumerate" p) [a] [] pos) (ah f):=⟨
 Nm (Vo hg hm (Ng ha.pe Sw (by rw[hs];rfl)) hs) fun σ H R z=>by
  obtain⟨M,E,S,ds,gs,S',e,r,st,q⟩:=z
  obtain⟨⟨d,S1⟩,e1,e⟩:=BE e
  obtain⟨⟨ds',gs'⟩,e2,e⟩:=Kf e
  cases e
  refine⟨M,E,S,d,S1,e1,r,st,fun v H1 M1 g1 st1 r1=>?_⟩
  obtain⟨k,a,rfl,sq⟩:=Qm st1 r1 e2
  obtain⟨xs,hs,_⟩:=sq.sqB (Gr.refl st1.mo).st st1 (Nh e2)
  exact⟨k,a,rfl,⟨xs,hs⟩,q _ _ M1 g1 st1 (dA sq)⟩⟩
noncomputable def PZ(ds es:List D):List D:=(ds.zip es).map fun p=>.tup [p.1,p.2]
theorem WR{ds es:List D}{i:Nat}{d:D}(h:(PZ ds es)[i]?=some d):∃x y,ds[i]?=some x/\es[i]?=some y/\d=.tup [x,y]:=by
 unfold PZ at h
 simp only[List.getElem?_map,Option.map_eq_some_iff]at h
 obtain⟨⟨x,y⟩,h1,h2⟩:=h
 rw[List.getElem?_zip_eq_some]at h1
 exact⟨x,y,h1.1,h1.2,h2.symm⟩
theorem Km{ds es:List D}:(PZ ds es).length=min ds.length es.length:=by simp[PZ]
theorem SqF.more{K:PySem.W.Frag}{M:Ms}{H:Hp}{gs gs':Gd}{k:Bool}{a:Addr}{ds:List D}(h:SqF K M H gs k a ds)(s:∀g∈gs,g∈gs'):SqF K M H gs' k a ds:=⟨fun H2 M2 S2 g st ok=>h.keep H2 M2 S2 g st fun x hx=>ok x (s x hx)⟩
theorem b9{K:PySem.W.Frag}{M:Ms}{H:Hp}{gs:Gd}{k m:Bool}{a b:Addr}{ds es:List D}(h:SqF K M H gs k a ds)(h':SqF K M H gs m b es):cw K M H gs (PZ ds es) (Itz K k a m b) where
 go:=fun i H2 M2 S2 g st ok hi=>by
  rw[Km]at hi
  obtain⟨xs,h1,r⟩:=h.sqB g st ok
  obtain⟨ys,h2,r'⟩:=h'.sqB g st ok
  obtain⟨x,hx⟩:=r.get' (show i<ds.length by omega)
  obtain⟨y,hy⟩:=r'.get' (show i<es.length by omega)
  exact⟨xs,ys,x,y,h1,h2,hx,hy⟩
 stop:=fun i H2 M2 S2 g st ok hi=>by
  rw[Km]at hi
  obtain⟨xs,h1,r⟩:=h.sqB g st ok
  obtain⟨ys,h2,r'⟩:=h'.sqB g st ok
  have:=r.length
  have:=r'.length
  exact⟨xs,ys,h1,h2,by omega⟩
 yld:=fun i H2 M2 S2 x H3 d g st ok hd hy=>by
  obtain⟨xs,h1,r⟩:=h.sqB g st ok
  obtain⟨ys,h2,r'⟩:=h'.sqB g st ok
  obtain⟨p,x1,y1,hp,rfl,q1,q2,rfl⟩:=hy
  obtain⟨d1,d2,e1,e2,rfl⟩:=WR hd
  have hx:=q1 xs h1
  have hy:=q2 ys h2
  obtain⟨x',h3,h4⟩:=r.get e1
  obtain⟨y',h5,h6⟩:=r'.get e2
  rw[hx]at h3;cases h3
  rw[hy]at h5;cases h5
  have k3:=Gq (o:=.tup [x1,y1]) hp
  exact⟨k3,.tup (.of BV) (.cons (h4.step (Gr.grow st.mo k3).st) (.cons (h6.step (Gr.grow st.mo k3).st) .nil))⟩
noncomputable def cc(f g:Ev):Sr:=fun E S=>(evs [f,g] E S).bind fun r=>match r.1 with
 | [d,e]=>(sqD r.2 d).bind fun p=>(sqD r.2 e).map fun q=>((PZ p.1 q.1,p.2++q.2),r.2)
 |_=>none
theorem Yi {X : Cx} {a b : Expr} {f g : Ev} {p pos tp : Pos} {elts : List Expr} {k : Nat} (hg : Gl X "zip") (hm : X.mg "zip" = none) (ha : DE X a f) (hb : DE X b g) (hs : starEach [a, b] X.env = [(false, eval a X.env), (false, eval b X.env)] := by rfl) (hs2 : starEach [b] X.env = [(false, eval b X.env)] := by rfl) : DI X (.Tuple elts k tp) (.Call (.Name "zip" p) [a, b] [] pos) (cc f g) := ⟨
  Nm (du hg hm (AA ha (AA hb AD hs2) (by rw[hs,hs2])).pe hs hs2) fun σ H R z=>by
    obtain⟨M,E,S,ds,gs,S',e,r,st,q⟩:=z
    obtain⟨⟨ws,S1⟩,e1,e⟩:=BE e
    refine H0 (fs:=[f,g]) e1 r st fun vs H1 M1 g1 st1 r1=>?_
    dsimp only at e
    split at e
    · obtain ⟨⟨ds1, gs1⟩, eu, e⟩ := BE e
      obtain⟨⟨ds2,gs2⟩,ee,e⟩:=Kf e
      cases e
      cases r1 with
      | cons h1 t =>
        cases t with
        | cons h2 t =>
          cases t
          obtain⟨k1,a1,rfl,s1⟩:=Qm st1 h1 eu
          obtain⟨k2,a2,rfl,s2⟩:=Qm st1 h2 ee
          obtain⟨xs,hxs,_⟩:=s1.sqB (Gr.refl st1.mo).st st1 (Nh eu)
          obtain⟨ys,hys,_⟩:=s2.sqB (Gr.refl st1.mo).st st1 (Nh ee)
          exact⟨_,_,_,_,rfl,⟨_,hxs⟩,⟨_,hys⟩,q _ _ M1 g1 st1 (b9 (s1.more fun x hx=>List.mem_append_left _ hx) (s2.more fun x hx=>List.mem_append_right _ hx))⟩
    ·cases e⟩
noncomputable def intD:D->Option Int
 | .int i=>some i
 |_=>none
noncomputable def MS(ds:List D):Option (List Int):=ds.mapM intD
theorem Oz {K : PySem.W.Frag} {M : Ms} {H : Hp} : ∀ {vs : List V} {ds : List D} {ns : List Int}, Aq K M H vs ds -> MS ds = some ns -> vs = ns.map V.int
  |_,_,ns,.nil,e=>by cases e;rfl
  | _, _, ns, .cons (d := d) (ds := ds) h t, e => by
    unfold MS at e
    rw[List.mapM_cons]at e
    cases e1:intD d with
    |none=>rw[e1]at e;cases e
    | some b =>
      rw[e1]at e
      cases e2:ds.mapM intD with
      |none=>rw[e2]at e;cases e
      | some cs =>
        rw[e2]at e
        cases e
        have hd:d=.int b:=by
          cases d<;>first|(cases e1;done)|skip
          cases e1;rfl
        subst hd
        cases h
        rw[List.map_cons,←Oz t e2]
theorem Tz{X:Cx}(hc:X.calm=true):Eb X (.builtin "sum") (fun xs H Q=>∃(p:Addr) (ns:List Int),xs=[.ref p]/\SqL X.K H p (ns.map V.int)/\Q (.int ns.sum) H):=by
 intro pins s σ H xs us Q I r h
 obtain⟨p,ns,rfl,hp,q⟩:=h
 obtain⟨u,rfl,ru⟩:=r.one
 cases (show u=Value.ref p from ru)
 obtain⟨its,rv,pl,hz⟩:=I.list hp
 have hd:X.A.in1.handled=none:=I.ok.hd hc
 refine call_sum_walkG (wpAny_pyIter_list pl.isList ?_)
 have hlen:ns.length=its.length:=by have:=rv.length;simpa using this
 have hpl:=pl.isList
 have hlt:p<s.heap.objs.size:=by
  obtain⟨o,ho,_⟩:=hpl
  exact Heap.lt_size ho
 refine⟨s.heap.objs.size,_,_,its.length,_,_,fun i=>ns.getD i 0,rfl,St.Mw (vs:=its) hd (Nat.ne_of_lt hlt),⟨⟨_,Heap.get?_push_size _ rfl,rfl,rfl⟩,?_⟩,?_,?_,?_⟩
 ·obtain⟨o,ho,r⟩:=hpl
  exact⟨o,Heap.get?_push_of_some _ ho,r⟩
 ·intro b hb
  rw[Heap.size_push]
  simp at hb
  rcases hb with h|h
  ·rw[h];exact Nat.lt_succ_self _
  ·rw[h];exact Nat.lt_succ_of_lt hlt
 ·intro i v hv
  have hi:i<its.length:=(List.getElem?_eq_some_iff.mp hv).1
  have hb:(ns.map V.int)[i]?=some (.int (ns.getD i 0)):=by
   rw[List.getElem?_map,List.getElem?_eq_getElem (by omega)]
   simp[List.getD_eq_getElem?_getD,List.getElem?_eq_getElem (show i<ns.length by omega)]
  obtain⟨u,hu,ru⟩:=rv.get hb
  rw[hv]at hu
  cases hu
  exact ru
 ·intro h' tk t' hk
  have e:preSum (fun i=>ns.getD i 0) its.length=ns.sum:=by
   rw[←hlen,St.K5 (Nat.le_refl _),List.take_of_length_le (Nat.le_refl _)]
  rw[e]
  exact⟨.int _,H,I.kept (t':=tk) fun b o eb=>hk b o (by simp;exact Nat.ne_of_lt (Heap.lt_size eb)) (Heap.get?_push_of_some _ eb),⟨_,rfl⟩,q⟩
noncomputable def YK:Op1:=fun w=>(asL w).bind fun ds=>(MS ds).map fun ns=>.val (.int ns.sum)
theorem Lq{X:Cx}(hc:X.calm=true):Eb X (.builtin "sum") (rN X.K (o1 YK)):=by
 intro pins s σ H xs us Q I r h
 obtain⟨M,ws,w,e,mo,sh,q⟩:=h
 obtain⟨v,w1,rfl,rfl,s1,e1⟩:=Ie sh e
 obtain⟨ds,e2,e1⟩:=BE e1
 obtain⟨ns,e3,e1⟩:=Kf e1
 cases e1
 obtain⟨a,ys,rfl,h3,h4⟩:=s1.l e2
 exact Tz hc pins s σ H _ us Q I r ⟨a,ns,rfl,by rw[←Oz h4 e3];exact .of h3,q _ _ (.same mo (.int _))⟩
theorem NG(l:Addr)(items:Array Value)(n:Nat)(b:Addr)(items2:Array Value)(n2:Nat)(dd:Option Addr)(sl:Array (Option Value))(hs0:¬(!items.isEmpty && Builtin.List.listTooLong (items.size+items2.size))=true)(hs1:items.size≤sizeLine)(hs2:items.size+items2.size≤sizeLine+1):
  Meets (Builtin.«list.extend» ⟨[.ref l,.ref b],[]⟩) (fun _ R s=>s.heap.get? l=some {cls:=.type "list",dict:=none,data:=.seq items n,slots:= #[]}/\s.heap.get? b=some {cls:=.type "tuple",dict:=dd,data:=.seq items2 n2,slots:=sl}/\R (.ok (.ret Value.none)) {s with heap:=s.heap.update l (Obj.mapSeq fun x=>x++items2),toks:=s.toks}):=
 .of_wp fun prog w A R s h=>by
  obtain⟨hp,g,d,tk,os⟩:=s;obtain⟨hl,hb,h⟩:=h;have f1:=AutoSeq1.idx_int;have f2:=AutoSeq1.sub_tuple_tuple;have f3:=AutoSeq1.sub_list_list;have f4:=AutoSeq1.sub_tuple_list;have f5:=AutoSeq1.sub_list_tuple
  have hz':(items++items2).size≤sizeLine+1:=by rw[Array.size_append];exact hs2
  wp_walk using(wpAny_updateSeq hl rfl (hz:=hs1) (_hz':=hz')),AutoSeq1.wpAny_loadPart' hl,AutoSeq1.wpAny_loadPart' hb;exact⟨_,rfl,h⟩
def WQ(K:PySem.W.Frag):V->List V->Hp->VK->Prop:=fun x vs H Q=>∃l b xs zs,x=.ref l/\vs=[.ref b]/\H l=some (.lst xs)/\SqT K H b zs/\xs.length+zs.length≤sizeLine/\Q .non (upd H l (.lst (xs++zs)))
theorem RA{X:Cx}:MtM X "list.extend" (WQ X.K):=by
 intro pins s σ H x vs v us Q I rx rv h
 obtain⟨l,b,xs,zs,rfl,rfl,hH,hB,hz,q⟩:=h
 cases rx
 obtain⟨u,rfl,ru⟩:=rv.one
 cases ru
 obtain⟨z,its,n,r,hl,e⟩:=I.lstM hH
 obtain⟨its2,r2,⟨⟨c,dd,dt,sl⟩,e2,hc,n2,hd⟩,z2⟩:=I.tuple hB
 simp only at hc hd
 subst hc hd
 have hl2:=r2.length
 have hsz:its.toArray.size+its2.toArray.size≤sizeLine:=by rw[List.size_toArray,List.size_toArray];omega
 have hlong:¬(!its.toArray.isEmpty && Builtin.List.listTooLong (its.toArray.size+its2.toArray.size))=true:=by
  rw[N5 hsz,Bool.and_false]
  exact Bool.false_ne_true
 refine call_meets F.slot_list_extend ⟨_,e,rfl⟩ F.entry_list_extend (F.args_list_extend_2 _ _)
  (NG l its.toArray n b its2.toArray n2 dd sl hlong (by rw[List.size_toArray];omega) (by omega)) ⟨e,e2,?_⟩
 refine⟨.non,_,I.lset (its':=its++its2) hH e (by simp) (r.append r2) ?_,rfl,q⟩
 rw[List.length_append]
 omega
noncomputable def fw:Mo
  | S, ds, [x] => match dr S x with
    | .val (.tup zs)=>if ds.length+zs.length≤sizeLine then some (.non,ds++zs)else none
    |w=>(asL w).bind fun zs=>if ds.length+zs.length≤sizeLine then some (.non,ds++zs)else none
  |_,_,_=>none
theorem Zu {X : Cx} : MtR X "list.extend" (gB X.K fw) := by
  intro pins s σ H x vs v us Q I rx rv h
  obtain⟨M,S,n,a,ds,args,d,ds',rfl,hc,hn,e,st,ra,q⟩:=h
  unfold fw at e
  split at e
  · obtain ⟨xs, h1, h2⟩ := st.cell n a _ hc hn
    obtain⟨y,rfl,ry⟩:=Qv ra
    have sy:=aU st ry
    split at e
    · rename_i ed
      rw[ed]at sy
      split at e
      · rename_i hz
        cases e
        cases sy with
        | tup hx rr =>
          obtain⟨st2,g2⟩:=st.chg hc hn (h2.append rr)
          exact RA pins s σ H _ _ v us Q I rx rv ⟨a,_,xs,_,rfl,rfl,h1,hx,by rw[h2.length,rr.length];exact hz,q _ _ st2 g2 .non⟩
      ·cases e
    · obtain ⟨zs, e1, e⟩ := BE e
      split at e
      · rename_i hz
        cases e
        obtain⟨b,ys,rfl,h3,h4⟩:=sy.l e1
        obtain⟨st2,g2⟩:=st.chg hc hn (h2.append h4)
        exact TJ pins s σ H _ _ v us Q I rx rv ⟨a,b,xs,ys,rfl,rfl,h1,h3,by rw[h2.length,h4.length];exact hz,q _ _ st2 g2 .non⟩
      ·cases e
  ·cases e
theorem Vw{X:Cx}:OpR X (binaryOp .Mult) (fun x y H Q=>∃a xs k,x=.ref a/\y=.int k/\SqT X.K H a xs/\xs≠[]/\k≤0/\ -(2^63)≤k/\∀p,H p=none->Q (.ref p) (upd H p (.tup []))):=by
  intro pins s σ H x y v u Q I rx ry h
  obtain⟨a,xs,k,rfl,rfl,hx,hne,hk,hk2,q2⟩:=h
  cases rx
  obtain⟨t,rfl⟩:=ry
  obtain⟨its,r,⟨⟨c,dd,data,sl⟩,ho,hc,n,hd⟩,hzz⟩:=I.tuple hx
  simp only at hc hd
  subst hc hd
  have hl:=r.length
  have hpos:0<xs.length:=List.length_pos_iff.mpr hne
  refine wpAny_binaryOp_repeat_ref (T:="tuple") (U:="int") (by decide) ⟨_,ho,rfl⟩ (fun s'=>typeIs_int s' k t) Gz F.fills_int_mul F.slot_int_rmul KQ F.slot_int_index.lookup
    (call_meets F.slot_int_rmul (typeIs_int s k t) F.entry_int_rmul (F.args_int_rmul_2 _ _) (IJ k t a its.toArray n dd sl) ⟨ho,rfl,⟨_,ho,rfl⟩,?_⟩)
  refine wpAny_call_entry F.slot_tuple_mul ⟨_,ho,rfl⟩ F.entry_tuple_mul ?_ (F.args_tuple_mul_2 _ _)
  unfold Builtin.«tuple.__mul__»
  wp_walk using AutoSeq1.wpAny_loadPart' ho
  rw [if_neg (show ¬ (decide (k < -2 ^ 63) || decide (k ≥ 2 ^ 63)) = true by
    rw[Bool.or_eq_true]
    rintro (z|z)
    ·have:=of_decide_eq_true z;omega
    ·have:=of_decide_eq_true z;omega)]
  wp_walk using AutoSeq1.wpAny_loadPart' ho
  have hemp:its.toArray.isEmpty=false:=by
    cases its with
    |nil=>rw[List.length_nil]at hl;omega
    |cons b bs=>rfl
  rw [if_neg (show ¬ (its.toArray.isEmpty || k == 1) = true by
    rw[hemp,Bool.false_or]
    intro z
    have:=eq_of_beq z
    omega)]
  wp_walk using AutoSeq1.wpAny_loadPart' ho
  all_goals first
    |exact⟨_,rfl,.ref _,_,I.laid (o:=.tup []) (t':=s.toks) (fun b ob q=>Heap.get?_push_of_some _ q) (Nat.le_refl _) ⟨Nat.zero_le _,[],.nil,PyProof.Rows.IsTup.new _ _⟩,rfl,q2 _ (I.hok.fresh (Nat.le_refl _))⟩
    | (exfalso
       rename_i hh
       exact hh (by rw[Bool.or_eq_true];exact .inl (decide_eq_true hk)))
noncomputable def Cn:Op2:=fun a b=>match a,b with
 | .val (.tup xs),.val (.int k)=>if(!xs.isEmpty && decide (k≤0) && decide (-(2^63)≤k))=true then some (.val (.tup []))else gH (.val (.tup xs)) (.val (.int k))
 |a,b=>gH a b
theorem BZ {X : Cx} : OpR X (binaryOp .Mult) (rOp X.K Cn) := by
  intro pins s σ H x y v u Q I rx ry h
  obtain⟨M,w1,w2,r,e,mo,s1,s2,q⟩:=h
  unfold Cn at e
  split at e
  · split at e
    · rename_i xs k hk
      rw[Bool.and_eq_true,Bool.and_eq_true]at hk
      cases e
      cases s2
      cases s1 with
      | @tup a ys _ h1 r1=>
        have hne:ys≠[]:=fun zz=>by
          subst zz
          cases r1
          exact absurd hk.1.1 (by decide)
        exact Vw pins s σ H _ _ v u Q I rx ry ⟨a,ys,k,rfl,rfl,h1,hne,of_decide_eq_true hk.1.2,of_decide_eq_true hk.2,fun p hp=>q _ _ (.tup mo hp .nil)⟩
    ·exact R5 pins s σ H x y v u Q I rx ry ⟨M,_,_,r,e,mo,s1,s2,q⟩
  ·exact R5 pins s σ H x y v u Q I rx ry ⟨M,_,_,r,e,mo,s1,s2,q⟩
theorem AU{A:Around}{k:Nat}(hr:L5 k A):A.units+100<cLine:=by have:=hr.un;omega
section
variable{P:Program}{w:World}{K:PySem.W.Frag}{mg:Str->Option Value}{base:Heap}
theorem Qe{x:Str}{st:Stmt}{k np:Nat}{ps:List Str}(S:St.Src K mg x st)(hbi:∀f fd,Fun K x x st f fd->Binds K fd ps []):St.Dfn P w K mg base x k ps (spD K np fun _ _=>none):=by
 obtain⟨f,fd,Fu,hm⟩:=S.ex
 refine⟨f,fd,hm,Fu.kp,hbi f fd Fu,⟨fun vs H Q E h=>?_,fun A outer s H args us vs Q E hr h0 hb hv h=>?_⟩⟩
 ·obtain⟨_,_,_,_,_,_,e,_⟩:=h;cases e
 ·obtain⟨_,_,_,_,_,_,e,_⟩:=h;cases e
end
noncomputable def scE:Nat->PySem.Expr->List Scope
 |0,_=>[]
 |n+1,.ListComp e gs s _=>s::(gs.flatMap fun g=>scE n g.iter)++scE n e++(gs.flatMap fun g=>g.ifs.flatMap (scE n))
 |n+1,.BoolOp _ vs _=>vs.flatMap (scE n)
 |n+1,.Call f as _ _=>scE n f++as.flatMap (scE n)
 |n+1,.BinOp a _ b _=>scE n a++scE n b
 |n+1,.UnaryOp _ a _=>scE n a
 |n+1,.Compare a _ cs _=>scE n a++cs.flatMap (scE n)
 |n+1,.Subscript a b _=>scE n a++scE n b
 |n+1,.Tuple es _ _=>es.flatMap (scE n)
 |n+1,.List es _=>es.flatMap (scE n)
 |n+1,.IfExp c a b _=>scE n c++scE n a++scE n b
 |n+1,.Dict _ vs _=>vs.flatMap (scE n)
 |n+1,.Slice a b c _=>(a.toList++b.toList++c.toList).flatMap (scE n)
 |n+1,.Attribute v _ _=>scE n v
 |_,_=>[]
noncomputable def scS:Nat->Stmt->List Scope
 |0,_=>[]
 |n+1,.Return (some e) _=>scE 30 e
 |n+1,.Assign ts e _=>ts.flatMap (scE 30)++scE 30 e
 |n+1,.AugAssign t _ e _=>scE 30 t++scE 30 e
 |n+1,.Expr e _=>scE 30 e
 |n+1,.If t a b _=>scE 30 t++a.flatMap (scS n)++b.flatMap (scS n)
 |n+1,.For _ it a b _=>scE 30 it++a.flatMap (scS n)++b.flatMap (scS n)
 |n+1,.While t a b _=>scE 30 t++a.flatMap (scS n)++b.flatMap (scS n)
 |_,_=>[]
noncomputable def KC(st:Stmt)(k:Nat):Scope:=((Gb st).flatMap (scS 20)).getD k (AK st)
structure gF(P:Program)(w:World)(K:PySem.W.Frag)(mg:Str->Option Value)(base:Heap)(x:Str)(k np:Nat)(tbl:List (Str×Fn)):Prop where
 ex:∃a kvs,mg x=some (.ref a)/\TopD K w a kvs/\∀p G,tbl.lookup p=some G->∃f fd ps,kvs.lookup p=some (.ref f)/\L4 P w K mg base CX0 k f fd ps (spD K np G)/\PySem.W.keepIn K (.ref f)=true/\Binds K fd ps []
noncomputable def c7(tbl:List (Str×Fn))(i j:Nat)(fs:List Ev):Ex:=fun E S=>if((at? E i).isNone && decide (i<E.length))=true then(at? E j).bind fun w=>match w with
 | .str p=>(tbl.lookup p).bind fun G=>A3 (AJ G fs) E S
 |_=>none
 else none
theorem EnR.setNone{K:PySem.W.Frag}{M:Ms}{E:En}{σ:Sg}{H:Hp}{i:Nat}{v:V}(r:EnR K M E σ H)(h:at? E i=none):EnR K M E (σ.set i (some v)) H:=by
 refine⟨by rw[List.length_set];exact r.len,fun j d e=>?_⟩
 have ne:i≠j:=fun z=>by
  subst z
  unfold at? at h
  rw[e]at h
  cases h
 obtain⟨u,h1,h2⟩:=r.val j d e
 exact⟨u,by rw[List.getElem?_set_ne ne];exact h1,h2⟩
theorem aV{X:Cx}{k np:Nat}{tbl:List (Str×Fn)}{x h y:Str}{px ph ph2 py pr p1 p2 pc:Pos}{e:Expr}{es:List Expr}{fs:List Ev}(i j:Nat)(T:gF X.prog X.w X.K X.mg X.base x k np tbl)(hr:L5 k X.A)(ha:DEs X (e::es) fs)(hnp:fs.length=np)(hN:X.N.Nodup)
  (hg:Gl X x:=by rfl) (hi:X.N[i]?=some h:=by rfl) (hil:X.env.scope.names.lookup h=some .local:=by rfl) (hj:X.N[j]?=some y:=by rfl) (hv:Vis X.env.scope y:=by first|exact Or.inl rfl|exact Or.inr (Or.inl rfl)|exact Or.inr (Or.inr rfl))
  (hdx:(x==("__debug__":Str))=false:=by decide) (hdy:(y==("__debug__":Str))=false:=by decide) (hcy:(y==("__classdict__":Str))=false:=by decide) (hdh:(h==("__debug__":Str))=false:=by decide) (hch:(h==("__classdict__":Str))=false:=by decide)
  (hs:swapsWith (.Subscript (.Name x px) (.Name y py) p1) (some (.Name h ph)) p2.line X.env=pure false:=by rfl) (hpl:Nc (.Name y py):=by exact fun _ _=>rfl)
  (he:starEach (e::es) X.env=(false,eval e X.env)::starEach es X.env:=by rfl) (hpa:(backTo pc (starEach es X.env)).any (·.1)=false:=by rfl):
  DSs X [.Assign [.Name h ph] (.Subscript (.Name x px) (.Name y py) p1) p2,.Return (some (.Call (.Name h ph2) (e::es) [] pc)) pr] (c7 tbl i j fs):=⟨by
 obtain⟨a,kvs,t1,t2,t3⟩:=T.ex
 refine NI (QP (Yh (i:=i) hN hi (.inl hil) (aK Xt (NV (v:=.ref a) hg t1 rfl hdx) (Tw hj hv hdy hcy) hpl) hs (.inr hil)) (S9 (Xw (Wl (k:=k) (i:=i) hi (.inl hil) hr ha.pe hdh hch he hpa)))) fun Dn σ H z=>?_
 obtain⟨M,E,S,fl,E',S',e,r,st,q⟩:=z
 unfold c7 at e
 split at e
 ·rename_i hnone
  rw[Bool.and_eq_true]at hnone
  have hlt:=of_decide_eq_true hnone.2
  have hnone:at? E i=none:=by simpa using hnone.1
  obtain⟨w,e1,e⟩:=BE e
  split at e
  ·rename_i p
   obtain⟨G,e2,e⟩:=BE e
   obtain⟨⟨d4,S4⟩,e3,e⟩:=Kf e
   cases e
   obtain⟨v,hv1,hv2⟩:=r.val j _ (at?_some e1)
   cases hv2
   obtain⟨f,fd,ps,l1,l2,l3,l4⟩:=t3 p G e2
   refine⟨_,hv1,a,kvs,p,_,rfl,rfl,t2,l1,?_⟩
   have r1:=r.setNone (v:=.ref f) hnone
   have hlen:i<σ.length:=by
    have:=r.len
    omega
   refine⟨f,spD X.K np G,List.getElem?_set_self hlen,⟨fd,ps,l2,l3,l4⟩,?_⟩
   exact TX (σ:=σ.set i (some (.ref f))) hnp ⟨M,_,S,d4,S4,e3,r1,st,q⟩
  ·cases e
 ·cases e⟩
section
variable{P:Program}{w:World}{K:PySem.W.Frag}{mg:Str->Option Value}{base h:Heap}
theorem cU{x:Str}{st:Stmt}{f:Addr}{oc:Value}{od an:Option Addr}{osl:Array (Option Value)}{kV doc pm cdv ct:Value}(X:K.In h)(G:h.Ns mainGlobals mg)(a:PySem.W.nsIn K mainGlobals x=some (some (.ref f)))
  (l:K.lookup f=some ⟨oc,od,.func (PySem.W.fnOf x x (Lj st) (Gb st) (AK st) .none kV doc pm an cdv ct),osl⟩) (c:PySem.W.codeIn K cdv x=true) (k:PySem.W.keepIn K (.ref f)=true):St.Src K mg x st:=
 ⟨f,_,bA l c k,PySem.W.mg_of X G a⟩
def IsD(K:PySem.W.Frag)(u:Value)(d:D):Prop:=∃v,RelV v u/\∀M H,Dc K M H v d
theorem IY{i:Int}{t:Tok}:IsD K (.int i t) (.int i):=⟨.int i,⟨t,rfl⟩,fun _ _=>.int i⟩
theorem Bm{x:Str}{t:Tok}:IsD K (.str x t) (.str x):=⟨.str x,⟨t,rfl⟩,fun _ _=>.str x⟩
theorem QR:∀{us:List Value} {ds:List D},Paired (fun d u=>IsD K u d) ds us->∃xs,Vals xs us/\∀M H,Aq K M H xs ds
  |_,_,.nil=>⟨[],.nil,fun _ _=>.nil⟩
  | _, _, .cons h t => by
    obtain⟨v,h1,h2⟩:=h
    obtain⟨xs,h3,h4⟩:=QR t
    exact⟨v::xs,.cons h1 h3,fun M H=>.cons (h2 M H) (h4 M H)⟩
theorem F5{a:Addr}{od:Option Addr}{osl:Array (Option Value)}{its:List Value}{n:Nat}{ds:List D}(l:K.lookup a=some ⟨.type "tuple",od,.seq its.toArray n,osl⟩)(hz:its.length≤sizeLine)(r:Paired (fun d u=>IsD K u d) ds its):IsD K (.ref a) (.tup ds):=by
 obtain⟨xs,h1,h2⟩:=QR r
 exact⟨.ref a,rfl,fun M H=>.tup (.inr ⟨_,its.toArray,n,l,rfl,rfl,by simpa using hz,by simpa using h1⟩) (h2 M H)⟩
theorem Mb{x:Str}{u:Value}{d:D}(X:K.In h)(G:h.Ns mainGlobals mg)(e:PySem.W.nsIn K mainGlobals x=some (some u))(r:IsD K u d):MY K mg x d:=by
 obtain⟨v,h1,h2⟩:=r
 exact⟨v,u,PySem.W.mg_of X G e,h1,h2⟩
theorem UC:∀{tbl:List (Str×D)} {es:List DictEntry},Paired (fun(p:Str×D) (e:DictEntry)=>(∃t,e.key=.str p.1 t)/\IsD K e.val p.2) tbl es->
    ∃kvs:List (Str×V),Paired (fun(p:Str×V) (e:DictEntry)=>(∃t,e.key=.str p.1 t)/\RelV p.2 e.val) kvs es/\∀k,(tbl.lookup k=none->kvs.lookup k=none)/\∀d,tbl.lookup k=some d->∃v,kvs.lookup k=some v/\∀M H,Dc K M H v d
  |_,_,.nil=>⟨[],.nil,fun k=>⟨fun _=>rfl,fun d e=>by cases e⟩⟩
  | (k0, d0) :: tbl, _ :: es, .cons hh t => by
    obtain⟨hk,v,h1,h2⟩:=hh
    obtain⟨kvs,h3,h4⟩:=UC t
    refine⟨(k0,v)::kvs,.cons ⟨hk,h1⟩ h3,fun k=>?_⟩
    rw[List.lookup_cons,List.lookup_cons]
    cases e:k==k0 with
    |true=>exact⟨fun z=>(nomatch z),fun d z=>by cases z;exact⟨v,rfl,h2⟩⟩
    |false=>exact h4 k
theorem Zj{x:Str}{a:Addr}{n:Nat}{es:List DictEntry}{tbl:List (Str×D)}(X:K.In h)(G:h.Ns mainGlobals mg)(e:PySem.W.nsIn K mainGlobals x=some (some (.ref a)))(l:K.lookup a=some ⟨.type "dict",none,.dict es.toArray n, #[]⟩)
  (hk:PySem.W.KeysLit w.params es) (hne:(a==sysModules)=false) (hp:Paired (fun(p:Str×D) (e:DictEntry)=>(∃t,e.key=.str p.1 t)/\IsD K e.val p.2) tbl es):ak K w mg x tbl:=by
 obtain⟨kvs,h1,h2⟩:=UC hp
 exact⟨a,kvs,PySem.W.mg_of X G e,X9 l hk hne h1,h2⟩
structure eI(w:World)(K:PySem.W.Frag)(mg:Str->Option Value)(x:Str)(ns:List (Str×Str)):Prop where
 ex:∃a kvs,mg x=some (.ref a)/\TopD K w a kvs/\Paired (fun(n:Str×Str) (q:Str×V)=>n.1=q.1/\∃f,q.2=.ref f/\mg n.2=some (.ref f)) ns kvs
theorem OV(X:K.In h)(G:h.Ns mainGlobals mg):∀{ns:List (Str×Str)} {es:List DictEntry},Paired (fun(n:Str×Str) (e:DictEntry)=>(∃t,e.key=.str n.1 t)/\∃f,e.val=.ref f/\PySem.W.nsIn K mainGlobals n.2=some (some (.ref f))) ns es->
    ∃kvs:List (Str×V),Paired (fun(p:Str×V) (e:DictEntry)=>(∃t,e.key=.str p.1 t)/\RelV p.2 e.val) kvs es/\Paired (fun(n:Str×Str) (q:Str×V)=>n.1=q.1/\∃f,q.2=.ref f/\mg n.2=some (.ref f)) ns kvs
  |_,_,.nil=>⟨[],.nil,.nil⟩
  | (k0, g0) :: ns, _ :: es, .cons hh t => by
    obtain⟨hk,f,h1,h2⟩:=hh
    obtain⟨kvs,h3,h4⟩:=OV X G t
    exact⟨(k0,.ref f)::kvs,.cons ⟨hk,h1⟩ h3,.cons ⟨rfl,f,rfl,PySem.W.mg_of X G h2⟩ h4⟩
theorem aF{x:Str}{a:Addr}{n:Nat}{es:List DictEntry}{ns:List (Str×Str)}(X:K.In h)(G:h.Ns mainGlobals mg)(e:PySem.W.nsIn K mainGlobals x=some (some (.ref a)))(l:K.lookup a=some ⟨.type "dict",none,.dict es.toArray n, #[]⟩)
  (hk:PySem.W.KeysLit w.params es) (hne:(a==sysModules)=false) (hp:Paired (fun(n:Str×Str) (e:DictEntry)=>(∃t,e.key=.str n.1 t)/\∃f,e.val=.ref f/\PySem.W.nsIn K mainGlobals n.2=some (some (.ref f))) ns es):eI w K mg x ns:=by
 obtain⟨kvs,h1,h2⟩:=OV X G hp
 exact⟨a,kvs,PySem.W.mg_of X G e,X9 l hk hne h1,h2⟩
theorem Ss{k np:Nat}:∀{ns:List (Str×Str)} {kvs:List (Str×V)} {tbl:List (Str×Fn)},Paired (fun(n:Str×Str) (q:Str×V)=>n.1=q.1/\∃f,q.2=.ref f/\mg n.2=some (.ref f)) ns kvs->Paired (fun(n:Str×Str) (q:Str×Fn)=>n.1=q.1/\∃j ps,j≤k/\St.Dfn P w K mg base n.2 j ps (spD K np q.2)) ns tbl->
    ∀p G,tbl.lookup p=some G->∃f fd ps,kvs.lookup p=some (.ref f)/\L4 P w K mg base CX0 k f fd ps (spD K np G)/\PySem.W.keepIn K (.ref f)=true/\Binds K fd ps []
  |_,_,_,.nil,.nil,p,G,e=>by cases e
  | _ :: _, (k1, v1) :: kvs, (k2, G2) :: tbl, .cons h1 t1, .cons h2 t2, p, G, e => by
    obtain⟨e1,f,e2,e3⟩:=h1
    obtain⟨e4,j,ps,hj,hd⟩:=h2
    have e5:k1=k2:=e1.symm.trans e4
    subst e5
    rw[List.lookup_cons]at e⊢
    cases eq:p==k1 with
    | true =>
      rw[eq]at e
      cases e
      obtain⟨f',fd,m1,m2,m3,m4⟩:=hd.ex
      have:f'=f:=by
        have:=m1.symm.trans e3
        cases this;rfl
      subst this
      exact⟨f',fd,ps,by rw[show v1=.ref f' from e2],m4.mono hj,m2,m3⟩
    | false =>
      rw[eq]at e
      exact Ss t1 t2 p G e
theorem Z9{x:Str}{k np:Nat}{ns:List (Str×Str)}{tbl:List (Str×Fn)}(T:eI w K mg x ns)(h:Paired (fun(n:Str×Str) (q:Str×Fn)=>n.1=q.1/\∃j ps,j≤k/\St.Dfn P w K mg base n.2 j ps (spD K np q.2)) ns tbl):gF P w K mg base x k np tbl:=by
 obtain⟨a,kvs,h1,h2,h3⟩:=T.ex
 exact⟨a,kvs,h1,h2,Ss h3 h⟩
noncomputable def aE(K:PySem.W.Frag):Sp:=fun vs H Q _=>∃(a:Addr) (ns:List Int),vs=[.ref a]/\SqL K H a (ns.map V.int)/\ns.length≤63/\∀H',Q (.bl true) H'
theorem bw{k:Nat}{f:Addr}{fd:FuncData}{x:Str}{F:Fn}(Fk:L4 P w K mg base CX0 k f fd [x] (spD K 1 F))(h:∀ns:List Int,ns.length≤63->∃S,F [.scr ns] []=some (.bl true,S)):L4 P w K mg base CX0 k f fd [x] (aE K):=by
 refine Fk.imp fun vs H Q E z=>?_
 obtain⟨a,ns,rfl,hs,hl,q⟩:=z
 obtain⟨S,e⟩:=h ns hl
 refine⟨Ms.no,[.scr ns],[],_,S,rfl,e,.cons (.scr ?_) .nil,⟨fun a z=>absurd z Ms.no_mem,List.nodup_nil,fun a z=>(nomatch z),rfl,fun n a c z=>by simp[Ms.no]at z⟩,fun v H' M' g st r=>?_⟩
 ·rcases hs with hs|hs
  ·exact .inl ⟨hs,Ms.no_mem⟩
  ·exact .inr hs
 ·cases r
  exact q H'
end
noncomputable def putD(kvs:List (Key×D))(k:Key)(v:D):List (Key×D):=
 if(kvs.any fun kv=>decide (kv.1=k))=true then kvs.map (fun kv=>if kv.1=k then(kv.1,v)else kv)else kvs++[(k,v)]
noncomputable def Lr(kvs more:List (Key×D)):List (Key×D):=more.foldl (fun acc kv=>putD acc kv.1 kv.2) kvs
noncomputable def MD:List (Key×D)->Key->Option D
 | [],_=>none
 |(j,d)::r,k=>if j=k then some d else MD r k
noncomputable def ae:D->Option Key
 | .int i=>some (.inl i)
 | .str x=>some (.inr x)
 |_=>none
noncomputable def Zw(S:Sto):D->Option (List (Key×D))
  | .dct es=>some es
  | .ref n=>match S[n]? with
    |some (.dct es)=>some es
    |_=>none
  |_=>none
noncomputable def WS:Bool->List (Key×D)->Sto->D×Sto
 |false,es,S=>(.dct es,S)
 |true,es,S=>(.ref S.length,S++[.dct es])
section
variable{K:PySem.W.Frag}{M M':Ms}{H:Hp}{S:Sto}{E:En}{σ:Sg}
theorem Cj.any(k:Key):∀{kvs:List (Key×V)} {es:List (Key×D)},Cj K M H kvs es->(kvs.any fun kv=>decide (kv.1=k))=es.any fun kv=>decide (kv.1=k)
 |_,_,.nil=>rfl
 |_,_,.cons h t=>by rw[List.any_cons,List.any_cons,Cj.any k t]
theorem Cj.app:∀{kvs kvs':List (Key×V)} {es es':List (Key×D)},Cj K M H kvs es->Cj K M H kvs' es'->Cj K M H (kvs++kvs') (es++es')
 |_,_,_,_,.nil,s=>s
 |_,_,_,_,.cons h t,s=>.cons h (Cj.app t s)
theorem Cj.repl{k:Key}{v:V}{d:D}(r:Dc K M H v d):∀{kvs:List (Key×V)} {es:List (Key×D)},Cj K M H kvs es->Cj K M H (kvs.map fun kv=>if kv.1=k then(kv.1,v)else kv) (es.map fun kv=>if kv.1=k then(kv.1,d)else kv)
  |_,_,.nil=>.nil
  | _, _, .cons (k := k') h t => by
    rw[List.map_cons,List.map_cons]
    by_cases e:k'=k
    ·rw[if_pos e,if_pos e];exact .cons r (Cj.repl r t)
    ·rw[if_neg e,if_neg e];exact .cons h (Cj.repl r t)
theorem Cj.put{k:Key}{v:V}{d:D}{kvs:List (Key×V)}{es:List (Key×D)}(r:Dc K M H v d)(h:Cj K M H kvs es):Cj K M H (putK kvs k v) (putD es k d):=by
 unfold putK putD
 rw[h.any k]
 split
 ·exact h.repl r
 ·exact h.app (.cons r .nil)
theorem Cj.merge:∀{more:List (Key×V)} {more':List (Key×D)} {kvs:List (Key×V)} {es:List (Key×D)},Cj K M H more more'->Cj K M H kvs es->Cj K M H (Ky kvs more) (Lr es more')
 |_,_,_,_,.nil,h=>h
 |_,_,kvs,es,.cons (k:=k) (v:=v) (d:=d) (vs:=vs) (ds:=ds) r t,h=>show Cj K M H (Ky (putK kvs k v) vs) (Lr (putD es k d) ds)from Cj.merge t (h.put r)
theorem Cj.val(k:Key):∀{kvs:List (Key×V)} {es:List (Key×D)},Cj K M H kvs es->(Rp kvs k=none/\MD es k=none)∨∃v d,Rp kvs k=some v/\MD es k=some d/\Dc K M H v d
  |_,_,.nil=>.inl ⟨rfl,rfl⟩
  | _, _, .cons (k := k') (d := d) (v := v) (ds := ds) h t => by
    by_cases e:k'=k
    ·exact .inr ⟨v,d,Na e,by simp[MD,e],h⟩
    · rw [NQ e]
      have:MD ((k',d)::ds) k=MD ds k:=by simp[MD,e]
      rw[this]
      exact Cj.val k t
theorem YB{v:V}{d:D}{k:Key}(r:Dc K M H v d)(e:ae d=some k):v=kV k:=by
 cases r<;>cases e<;>rfl
theorem YZ{v:V}{d:D}{es:List (Key×D)}(st:StR K M S H)(r:Dc K M H v d)(e:Zw S d=some es):∃a kvs,v=.ref a/\H a=some (.dK kvs)/\Cj K M H kvs es:=by
  cases r with
  |dct h n r=>cases e;exact⟨_,_,rfl,h,r⟩
  | ref h =>
    rename_i a n
    unfold Zw at e
    dsimp only at e
    split at e
    · rename_i es' e'
      cases e
      obtain⟨kvs,h1,h2⟩:=st.cell n a _ h e'
      exact⟨a,kvs,rfl,h1,h2⟩
    ·cases e
  |_=>cases e
theorem StR.dn(r:StR K M S H){a:Addr}(e:H a=none):StR K ⟨M.cel,a::M.tmp⟩ S (upd H a (.dK []))/\Sp1 M H ⟨M.cel,a::M.tmp⟩ (upd H a (.dK [])):=by
 have k:∀b o,H b=some o->upd H a (.dK []) b=some o:=Gq e
 have na:¬M.mem a:=fun z=>r.mo.some z e
 have s1:Sp1 M H ⟨M.cel,a::M.tmp⟩ (upd H a (.dK [])):=⟨r.mo,List.prefix_rfl,fun b z=>by
  rcases z with z|z
  ·exact .inl (.inl z)
  ·rcases List.mem_cons.mp z with z|z
   ·subst z;exact .inr e
   ·exact .inl (.inr z),fun b o eb _=>k b o eb⟩
 refine⟨⟨fun b z=>?_,r.nd,fun b hb z=>?_,r.len,fun n b c h1 h2=>?_⟩,s1⟩
 ·by_cases h:b=a
  ·subst h;exact .inr ⟨[],BV⟩
  ·rw[As h]
   refine r.mo b ?_
   rcases z with z|z
   ·exact .inl z
   ·rcases List.mem_cons.mp z with z|z
    ·exact absurd z h
    ·exact .inr z
 ·rcases List.mem_cons.mp hb with hb|hb
  ·subst hb;exact na (.inl z)
  ·exact r.nt b hb z
 ·have q:=r.cell n b c h1 h2
  cases c with
  |lst ds=>obtain⟨xs,e,rr⟩:=q;exact⟨xs,k _ _ e,rr.step s1⟩
  |dct ds=>obtain⟨xs,e,rr⟩:=q;exact⟨xs,k _ _ e,rr.step s1⟩
theorem StR.doff{c t:List Addr}{a:Addr}{kvs:List (Key×V)}{es:List (Key×D)}(cf:Bool)(r:StR K ⟨c,a::t⟩ S H)(nt:a∉t)(rr:Cj K ⟨c,a::t⟩ H kvs es):
    ∃c',StR K ⟨c',t⟩ (WS cf es S).2 (upd H a (.dK kvs))/\Dc K ⟨c',t⟩ (upd H a (.dK kvs)) (.ref a) (WS cf es S).1/\c <+: c'/\(∀b∈c',b∈c∨b=a):=by
  have nc:a∉c:=r.nt a List.mem_cons_self
  have hl:c.length=S.length:=r.len
  have ne:∀b∈c,b≠a:=fun b hb z=>nc (by rw[←z];exact hb)
  have kp:∀b o,H b=some o->¬Ms.mem ⟨c,a::t⟩ b->upd H a (.dK kvs) b=some o:=fun b o eb nb=>by rw[As (fun z=>nb (.inr (by rw[z];exact List.mem_cons_self)))];exact eb
  have old:∀{c':List Addr},Sp1 ⟨c,a::t⟩ H ⟨c',t⟩ (upd H a (.dK kvs))->∀(n:Nat) (b:Addr) (cl:Cl),c[n]?=some b->S[n]?=some cl->cM K ⟨c',t⟩ (upd H a (.dK kvs)) b cl:=fun s1 n b cl h1 h2=>by
    have hb:=ne b (List.mem_of_getElem? h1)
    have q:=r.cell n b cl h1 h2
    cases cl with
    |lst ds=>obtain⟨xs,e,rr⟩:=q;exact⟨xs,by rw[As hb];exact e,rr.step s1⟩
    |dct ds=>obtain⟨xs,e,rr⟩:=q;exact⟨xs,by rw[As hb];exact e,rr.step s1⟩
  have mo:∀b,Ms.mem ⟨c,t⟩ b∨b=a->(∃xs,upd H a (.dK kvs) b=some (.lst xs))∨∃ks,upd H a (.dK kvs) b=some (.dK ks):=fun b z=>by
    by_cases h:b=a
    ·subst h;exact .inr ⟨kvs,BV⟩
    · rw [As h]
      rcases z with z|z
      ·exact r.mo b (z.imp id (List.mem_cons_of_mem _))
      ·exact absurd z h
  cases cf with
  | false =>
    have s1:Sp1 ⟨c,a::t⟩ H ⟨c,t⟩ (upd H a (.dK kvs)):=⟨r.mo,List.prefix_rfl,fun b z=>.inl (z.imp id (List.mem_cons_of_mem _)),kp⟩
    exact⟨c,⟨fun b z=>mo b (.inl z),r.nd,fun b hb=>r.nt b (List.mem_cons_of_mem _ hb),r.len,old s1⟩,.dct BV (fun z=>z.elim nc nt) (rr.step s1),List.prefix_rfl,fun b z=>.inl z⟩
  | true =>
    have s1:Sp1 ⟨c,a::t⟩ H ⟨c++[a],t⟩ (upd H a (.dK kvs)):=⟨r.mo,List.prefix_append _ _,fun b z=>by
      rcases z with z|z
      · rcases List.mem_append.mp z with z | z
        ·exact .inl (.inl z)
        ·exact .inl (.inr (by rw[List.mem_singleton.mp z];exact List.mem_cons_self))
      ·exact .inl (.inr (List.mem_cons_of_mem _ z)),kp⟩
    refine⟨c++[a],⟨fun b z=>mo b ?_,?_,fun b hb z=>?_,by simp[WS,hl],fun n b cl h1 h2=>?_⟩,.ref (by rw[←hl];exact List.getElem?_concat_length),List.prefix_append _ _,fun b z=>?_⟩
    · rcases z with z | z
      · rcases List.mem_append.mp z with z | z
        ·exact .inl (.inl z)
        ·exact .inr (List.mem_singleton.mp z)
      ·exact .inl (.inr z)
    · rw [List.nodup_append]
      refine⟨r.nd,by simp,fun x hx y hy z=>?_⟩
      simp at hy;subst hy
      exact nc (by rw[←z];exact hx)
    · rcases List.mem_append.mp z with z | z
      ·exact r.nt b (List.mem_cons_of_mem _ hb) z
      ·rw[List.mem_singleton.mp z]at hb;exact nt hb
    · have h2 : (S ++ [Cl.dct es])[n]? = some cl := h2
      by_cases h:n<S.length
      · rw [List.getElem?_append_left (by rw [hl]; exact h)] at h1
        rw[List.getElem?_append_left h]at h2
        exact old s1 n b cl h1 h2
      · have hm : n = S.length := by
          have:=(List.getElem?_eq_some_iff.mp h2).1
          simp at this;omega
        subst hm
        rw[List.getElem?_append_right (by rw[hl];exact Nat.le_refl _)]at h1
        rw[List.getElem?_append_right (Nat.le_refl _)]at h2
        rw[hl]at h1
        simp at h1 h2
        subst h1 h2
        exact⟨kvs,BV,rr.step s1⟩
    · rcases List.mem_append.mp z with z | z
      ·exact .inl z
      ·exact .inr (List.mem_singleton.mp z)
noncomputable def evP:List (Ev×Ev)->En->Sto->Option (List (Key×D)×Sto)
 | [],_,S=>some ([],S)
 |(k,v)::r,E,S=>(k E S).bind fun a=>(ae a.1).bind fun kk=>(v E a.2).bind fun b=>(evP r E b.2).map fun q=>((kk,b.1)::q.1,q.2)
theorem YF:∀{fs:List (Ev×Ev)} {M:Ms} {S:Sto} {es:List (Key×D)} {S':Sto} {H:Hp} {Q:List (V×V)->Hp->Prop},evP fs E S=some (es,S')->EnR K M E σ H->StR K M S H->
    (∀kvs H' M',Gr M H M' H'->StR K M' S' H'->Cj K M' H' kvs es->kvs.length=fs.length->Q (kvs.map fun kv=>(kV kv.1,kv.2)) H')->QZ (fs.map fun x=>(tD K x.1,tD K x.2)) σ H Q
  | [],M,S,es,S',H,Q,e,r,st,q=>by
    cases e
    exact q [] H M (.refl st.mo) st .nil rfl
  | (fk, fv) :: fs, M, S, es, S', H, Q, e, r, st, q => by
    obtain⟨⟨dk,S1⟩,e1,e⟩:=BE e
    obtain⟨kk,ek,e⟩:=BE e
    obtain⟨⟨dv,S2⟩,e2,e⟩:=BE e
    obtain⟨⟨es',S3⟩,e3,e⟩:=Kf e
    cases e
    refine⟨M,E,S,dk,S1,e1,r,st,fun v H1 M1 g1 st1 d1=>?_⟩
    refine⟨M1,E,S1,dv,S2,e2,r.step g1.st,st1,fun v2 H2 M2 g2 st2 d2=>?_⟩
    refine YF e3 ((r.step g1.st).step g2.st) st2 fun kvs H3 M3 g3 st3 rk hl=>?_
    rw[YB d1 ek]
    exact q ((kk,v2)::kvs) H3 M3 ((g1.trans g2).trans g3) st3 (.cons (d2.step g3.st) rk) (by simp[hl])
end
noncomputable def Tg(cf:Bool)(fs:List (Ev×Ev)):Ev:=fun E S=>(evP fs E S).map fun r=>WS cf (Lr [] r.1) r.2
abbrev Vx:=Tg false
section
variable{X:Cx}{pos:Pos}
structure DPs(X:Cx)(pos:Pos)(ks:List (Option Expr))(vs:List Expr)(fs:List (Ev×Ev)):Prop where
 pe:PPs X pos ks vs (fs.map fun x=>(tD X.K x.1,tD X.K x.2))
 all:ks.all (·.isSome)=true
 len:ks.length=vs.length
 num:fs.length=vs.length
theorem TL:DPs X pos [] [] []:=⟨Y6,rfl,rfl,rfl⟩
theorem Fx{k v:Expr}{ks:List (Option Expr)}{vs:List Expr}{fk fv:Ev}{fs:List (Ev×Ev)}(hk:DE X k fk)(hv:DE X v fv)(h:DPs X pos ks vs fs):DPs X pos (some k::ks) (v::vs) ((fk,fv)::fs):=
 ⟨Xe hk.pe hv.pe h.pe,by rw[List.all_cons,h.all];rfl,by rw[List.length_cons,List.length_cons,h.len],by rw[List.length_cons,List.length_cons,h.num]⟩
theorem Zv{K:PySem.W.Frag}{M:Ms}{H:Hp}{S S':Sto}{Q:VK}{cf:Bool}{p:Addr}{M2:Ms}{H2:Hp}{S2:Sto}{kvs:List (Key×V)}{es:List (Key×D)}(st:StR K M S H)(hp:H p=none)(g:Gr ⟨M.cel,p::M.tmp⟩ (upd H p (.dK [])) M2 H2)(st2:StR K M2 S2 H2)(rk:Cj K M2 H2 kvs es)
  (q:∀v H' M',Gr M H M' H'->StR K M' (WS cf es S2).2 H'->Dc K M' H' v (WS cf es S2).1->Q v H'):Q (.ref p) (upd H2 p (.dK kvs)):=by
 obtain⟨c2,t2⟩:=M2
 have ht:t2=p::M.tmp:=g.tmp
 subst ht
 have np:p∉M.tmp:=fun z=>st.mo.some (.inr z) hp
 obtain⟨c',st',rd,pr,sub⟩:=st2.doff cf np rk
 refine q _ _ ⟨c',M.tmp⟩ ⟨st.mo,(show M.cel <+: c2 from g.pre).trans pr,rfl,fun b z=>?_,fun b o eb nb=>?_,fun b eb=>?_⟩ st' rd
 ·rcases sub b z with z|z
  ·rcases g.fresh b z with z|z
   ·exact .inl z
   ·right
    by_cases h:b=p
    ·rw[h];exact hp
    ·rw[As h]at z;exact z
  ·right;rw[z];exact hp
 ·have h:b≠p:=fun z=>by rw[z,hp]at eb;cases eb
  rw[As h]
  exact g.keep b o (by rw[As h];exact eb) nb
 ·by_cases h:b=p
  ·subst h;rw[BV];intro z;cases z
  ·rw[As h]
   exact g.some b (by rw[As h];exact eb)
theorem Xr{cf:Bool}{ks:List (Option Expr)}{vs:List Expr}{fs:List (Ev×Ev)}(h:DPs X pos ks vs fs)(h0:ks≠[])(h15:ks.length≤15):DE X (.Dict ks vs pos) (Tg cf fs):=⟨
 Bb (Zd h.pe h.all h.len h0 h15) fun σ H Q z=>by
  obtain⟨M,E,S,d,S',e,r,st,q⟩:=z
  obtain⟨⟨es,S2⟩,e1,e⟩:=Kf e
  intro p hp
  obtain⟨st0,s0⟩:=st.dn hp
  refine YF e1 (r.step s0) st0 fun kvs H2 M2 g st2 rk hl=>⟨g.keep p _ BV (st0.nt p List.mem_cons_self),kvs,rfl,by rw[hl,h.num,←h.len];exact h15,?_⟩
  refine Zv (cf:=cf) (S':=S') st hp g st2 (rk.merge .nil) ?_
  have e':WS cf (Lr [] es) S2=(d,S'):=e
  rw[e']
  exact q⟩
noncomputable def eH(fd fk fx:Ev):Ev:=fun E S=>(fd E S).bind fun a=>(Zw a.2 a.1).bind fun _=>(fk E a.2).bind fun b=>(fx E b.2).bind fun c=>(Zw c.2 a.1).bind fun es=>(ae b.1).map fun k=>((MD es k).getD c.1,c.2)
theorem dI{o e f:Expr}{fd fk fx:Ev}{apos cpos:Pos}(hu:X.A.units+100<cLine)(ho:DE X o fd)(hk:DE X e fk)(hx:DE X f fx)(m:M2 X o "get" apos e f cpos):DE X (.Call (.Attribute o "get" apos) [e,f] [] cpos) (eH fd fk fx):=⟨
 Bb (Ww (by omega) ho.pe hk.pe hx.pe m) fun σ H Q z=>by
  obtain⟨M,E,S,d,S',e,r,st,q⟩:=z
  obtain⟨⟨a,S1⟩,e1,e⟩:=BE e
  obtain⟨es1,ed,e⟩:=BE e
  obtain⟨⟨b,S2⟩,e2,e⟩:=BE e
  obtain⟨⟨c,S3⟩,e3,e⟩:=BE e
  obtain⟨es,ed3,e⟩:=BE e
  obtain⟨k,ek,e⟩:=Kf e
  cases e
  refine⟨M,E,S,a,S1,e1,r,st,fun v H1 M1 g1 st1 d1=>?_⟩
  obtain⟨p,kvs,rfl,hp,_⟩:=YZ st1 d1 ed
  refine⟨p,rfl,.inl ⟨kvs,.inl hp⟩,M1,E,S1,b,S2,e2,r.step g1.st,st1,fun v2 H2 M2 g2 st2 d2=>?_⟩
  refine⟨M2,E,S2,c,S3,e3,(r.step g1.st).step g2.st,st2,fun v3 H3 M3 g3 st3 d3=>?_⟩
  obtain⟨p',kvs3,e4,hp3,rk⟩:=YZ st3 ((d1.step g2.st).step g3.st) ed3
  cases e4
  rw[YB d2 ek]
  refine⟨_,.k hp3,?_⟩
  rcases rk.val k with⟨h1,h2⟩|⟨v,d,h1,h2,h3⟩
  ·rw[h1];rw[h2]at q;exact q _ _ M3 ((g1.trans g2).trans g3) st3 d3
  ·rw[h1];rw[h2]at q;exact q _ _ M3 ((g1.trans g2).trans g3) st3 h3⟩
end
section
open PyProof.Rows (boot_isinstance boot_int boot_bool boot_tuple boot_str boot_list boot_abs boot_all boot_any boot_sum boot_max boot_min boot_range boot_enumerate boot_zip boot_sorted boot_set boot_divmod)
noncomputable def HS:D:=.tup [.int 0,.int 1]
noncomputable def R4:D:=.tup [.int 1,.int 1]
def Hb:Ex:=(A3 (C8 (eOp (o2 Hh) [(eV 0),(eC (.ty "int"))]) (FL (eOp (o2 Hh) [(eV 0),(eC (.ty "bool"))]))))
def Dm:Fn:=A6 (BA 1 Hb)
def IW:Ex:=(A3 (C8 (AJ Dm [(eV 0)]) (eOp (o2 wGe) [(eV 0),(eV 1)])))
def Ck:Fn:=A6 (BA 2 IW)
def Gm:Ex:=(A3 (C8 (AJ Ck [(eV 0),(eV 1)]) (eOp (o2 wLe) [(eV 0),(eV 2)])))
def Aw:Fn:=A6 (BA 3 Gm)
def Et:Ex:=(Ai (Qs 0 1 (eOp (o1 aq) [(eV 0)]) (eOp (o1 aq) [(eV 1)]))
  (Ai (Ow (RF 1) (eOp (o2 wNe) [(eV 1),(eC (.int 0))]) (Qs 0 1 (eV 1) (eOp (o2 PX) [(eV 0),(eV 1)])))
  (A3 (eV 0))))
def Bl:Fn:=A6 (BA 2 Et)
def Ma:Ex:=(Ai (CF 2 (AJ Bl [(eV 0),(eV 1)]))
  (A3 (BD [(eOp (o2 NX) [(eV 0),(eV 2)]),(eOp (o2 NX) [(eV 1),(eV 2)])])))
def Hs:Fn:=A6 (BA 3 Ma)
def Qa:Ex:=(A3 (AJ Hs [(eOp (o2 B9) [(eOp (o2 Cn) [(eOp (o2 wIx) [(eV 0),(eC (.int 0))]),(eOp (o2 wIx) [(eV 1),(eC (.int 1))])]),(eOp (o2 Cn) [(eOp (o2 wIx) [(eV 1),(eC (.int 0))]),(eOp (o2 wIx) [(eV 0),(eC (.int 1))])])]),(eOp (o2 Cn) [(eOp (o2 wIx) [(eV 0),(eC (.int 1))]),(eOp (o2 wIx) [(eV 1),(eC (.int 1))])])]))
def Iu:Fn:=A6 (BA 2 Qa)
def Gv:Ex:=(Ai (xIf (eOp (o2 wLt) [(eV 1),(eOp (o1 GC) [(eV 0)])]) (A3 (eOp (o2 wIx) [(eV 0),(eV 1)])) CJ)
  (A3 (eC (.int 0))))
def CZ:Fn:=A6 (BA 2 Gv)
def OM:Ex:=(A3 (MT [(eV 0),(eOp (o1 Zo) [(eOp (o2 wGe) [(eV 0),(eOp (o2 ZV) [(eC (.int 10)),(eC (.int 18))])])]),(eC (.int 0)),(eOp (o2 PX) [(eV 0),(eC (.int 1000000007))])]))
def GP:Fn:=A6 (BA 1 OM)
def Hu:Ex:=(Ai (xIf (C8 (eOp (o2 wEq) [(eOp (o2 wIx) [(eV 0),(eC (.int 1))]),(eC (.int 1))]) (eOp (o2 wGt) [(eOp (o2 wIx) [(eV 0),(eC (.int 0))]),(eC (.int 0))])) (Ai (CF 2 (eOp (o2 PX) [(eOp (o2 wIx) [(eV 0),(eC (.int 0))]),(eV 1)]))
  (Ai (OB (eOp (o2 NX) [(eOp (o2 wIx) [(eV 0),(eC (.int 0))]),(eV 1)]) (eV 0) (eC (.int 0)))
  (A3 (eV 2)))) CJ)
  (Ai (OB (eOp (o2 B9) [(eOp (o2 wIx) [(eV 0),(eC (.int 2))]),(eC (.int 1))]) (eV 0) (eC (.int 2)))
  (Ai (CF 3 (eOp (o2 PX) [(eOp (o2 Cn) [(eOp (o2 B9) [(eOp (o2 wIx) [(eV 0),(eC (.int 3))]),(eC (.int 17))]),(eOp (o2 B9) [(eC (.int 69621)),(eOp (o2 Cn) [(eC (.int 2)),(eOp (o2 wIx) [(eV 0),(eC (.int 2))])])])]),(eC (.int 2147483647))]))
  (Ai (CF 3 (eOp (o2 PX) [(eOp (o2 B9) [(eOp (o2 B9) [(eOp (o2 Cn) [(eV 3),(eV 3)]),(eOp (o2 Cn) [(eC (.int 40503)),(eOp (o2 wIx) [(eV 0),(eC (.int 2))])])]),(eC (.int 5))]),(eC (.int 2147483629))]))
  (A3 (eOp (o2 PX) [(eOp (o2 NX) [(eOp (o2 PX) [(eOp (o2 Cn) [(eV 3),(eC (.int 48271))]),(eC (.int 2147483647))]),(eC (.int 32))]),(eV 1)]))))))
def AI:Fn:=A6 (BA 4 Hu)
def KJ:Ex:=(Ai (Ow (RF 1) (eOp (o2 wGt) [(eV 1),(eC (.int 0))]) (Qs 0 1 (eV 1) (eOp (o2 PX) [(eV 0),(eV 1)])))
  (A3 (eV 0)))
def Ej:Fn:=A6 (BA 2 KJ)
def M8:Ex:=(Ai (CF 2 (AJ Ej [(eOp (o1 aq) [(eV 0)]),(eV 1)]))
  (A3 (BD [(eOp (o2 NX) [(eV 0),(eV 2)]),(eOp (o2 NX) [(eV 1),(eV 2)])])))
def Bv:Fn:=A6 (BA 3 M8)
def Jt:Ex:=(A3 (AJ Bv [(eOp (o2 B9) [(eOp (o2 Cn) [(eOp (o2 wIx) [(eV 0),(eC (.int 0))]),(eOp (o2 wIx) [(eV 1),(eC (.int 1))])]),(eOp (o2 Cn) [(eOp (o2 wIx) [(eV 1),(eC (.int 0))]),(eOp (o2 wIx) [(eV 0),(eC (.int 1))])])]),(eOp (o2 Cn) [(eOp (o2 wIx) [(eV 0),(eC (.int 1))]),(eOp (o2 wIx) [(eV 1),(eC (.int 1))])])]))
def BX:Fn:=A6 (BA 2 Jt)
def Ly:Ex:=(A3 (AJ Bv [(eOp (o2 Cn) [(eOp (o2 wIx) [(eV 0),(eC (.int 0))]),(eOp (o2 wIx) [(eV 1),(eC (.int 0))])]),(eOp (o2 Cn) [(eOp (o2 wIx) [(eV 0),(eC (.int 1))]),(eOp (o2 wIx) [(eV 1),(eC (.int 1))])])]))
def A7:Fn:=A6 (BA 2 Ly)
def Mu:Ex:=(A3 (AJ BX [(eV 0),(BD [(eOp (o2 JU) [(eC (.int 0)),(eOp (o2 wIx) [(eV 1),(eC (.int 0))])]),(eOp (o2 wIx) [(eV 1),(eC (.int 1))])])]))
def Dk:Fn:=A6 (BA 2 Mu)
def IQ:Ex:=(Ai (CF 2 (Xz [0] 1 (PY [(eV 1)]) (tNm 1) Bx (eOp (o2 wIx) [(Hj [(eC (.int 0)),(eC (.int 1)),(AJ AI [(eV 0),(eC (.int 4))]),(AJ AI [(eV 0),(eC (.int 9))])]),(AJ AI [(eV 0),(eC (.int 4))])])))
  (Ai (xIf (eOp (o2 wEq) [(eOp (o1 YK) [(eV 2)]),(eC (.int 0))]) (OB (eC (.int 1)) (eV 2) (AJ AI [(eV 0),(eV 1)])) CJ)
  (A3 (eOp (o1 Fq) [(C4 [2] 1 (Hy (eV 2)) (tNm 1) Bx (AJ Bv [(eV 1),(eOp (o1 YK) [(eV 0)])]))]))))
def Ci:Fn:=A6 (BA 3 IQ)
def HD:Ex:=(Ai (CF 1 (eOp (o2 B9) [(eOp (o2 ZV) [(eC (.int 10)),(eC (.int 30))]),(AJ AI [(eV 0),(eC (.int 99))])]))
  (A3 (eOp (o2 wIx) [(Hj [(eOp (o2 B9) [(eC (.int 1)),(AJ AI [(eV 0),(eC (.int 4))])]),(eOp (o2 B9) [(eC (.int 1)),(AJ AI [(eV 0),(eC (.int 40))])]),(eOp (o2 B9) [(eC (.int 1)),(AJ AI [(eV 0),(eC (.int 999))])]),(eV 1)]),(eOp (o2 NX) [(AJ AI [(eV 0),(eC (.int 7))]),(eC (.int 2))])])))
def BQ:Fn:=A6 (BA 2 HD)
def LF:Ex:=(Ai (Qs 1 2 (eOp (o2 B9) [(eC (.int 1)),(AJ AI [(eV 0),(eC (.int 4))])]) (eOp (o2 B9) [(eC (.int 1)),(AJ AI [(eV 0),(eC (.int 5))])]))
  (Ai (CF 3 (eOp (o2 wIx) [(Hj [(eOp (o2 B9) [(eC (.int 1)),(AJ AI [(eV 0),(eC (.int 3))])]),(eOp (o2 B9) [(eC (.int 1)),(AJ AI [(eV 0),(eC (.int 20))])])]),(AJ AI [(eV 0),(eC (.int 2))])]))
  (A3 (BD [(eV 1),(eV 2),(eV 3),(AJ Ci [(eV 0),(eV 1)]),(AJ AI [(eV 0),(eC (.int 10))]),(AJ AI [(eV 0),(eC (.int 10))])]))))
def GW:Fn:=A6 (BA 4 LF)
def LV:Ex:=(Ai (CF 2 (MT []))
  (Ai (Pt (PY [(eOp (o2 wIx) [(Hj [(eC (.int 0)),(eC (.int 1)),(AJ AI [(eV 0),(eC (.int 5))])]),(AJ AI [(eV 0),(eC (.int 3))])])]) (tNm 3) (G7 (PV Po (eV 2) [(BD [(AJ AI [(eV 0),(eOp (o2 wIx) [(eV 1),(eC (.int 1))])]),(AJ BQ [(eV 0)]),(AJ Ci [(eV 0),(eOp (o2 wIx) [(eV 1),(eC (.int 0))])])])])))
  (A3 (eOp (o1 Fq) [(eV 2)]))))
def Gj:Fn:=A6 (BA 4 LV)
def Lk:Ex:=(Ai (CF 1 (eOp (o2 B9) [(eC (.int 1)),(AJ AI [(eV 0),(eC (.int 12))])]))
  (A3 (AJ Bv [(eOp (o2 B9) [(eC (.int 1)),(AJ AI [(eV 0),(eV 1)])]),(eV 1)])))
def FP:Fn:=A6 (BA 2 Lk)
def KA:Ex:=(A3 (eOp (o1 Fq) [(C4 [0] 1 (PY [(eV 1)]) (tNm 1) Bx (eOp (o2 B9) [(eC (.int 1)),(eOp (o2 wIx) [(Hj [(AJ AI [(eV 0),(eC (.int 3))]),(AJ AI [(eV 0),(eC (.int 99))])]),(AJ AI [(eV 0),(eC (.int 2))])])]))]))
def Dp:Fn:=A6 (BA 2 KA)
def Ku:Ex:=(A3 (MT [(Xz [] 1 (Hy (eOp (o2 wIx) [(eV 0),(eC (.int 1))])) (tNm 0) Bx (eK (o1 Ia) [(eV 0)])),(eOp (o1 Fq) [(eOp (o2 wIx) [(eOp (o2 wIx) [(eV 0),(eC (.int 0))]),(eC (.int 3))])]),(MT [])]))
def Gw:Fn:=A6 (BA 1 Ku)
def KI:Ex:=(Ai (CF 2 (MT []))
  (Ai (Pt (cc (eOp (o2 wIx) [(eV 0),(eC (.int 2))]) (eOp (o2 wIx) [(eV 1),(eC (.int 2))])) (tTp [(tNm 3),(tNm 4)]) (Ai (CF 5 (AJ BX [(AJ A7 [(BD [(eOp (o2 wIx) [(eV 0),(eC (.int 1))]),(eC (.int 1))]),(eV 3)]),(AJ A7 [(BD [(eOp (o2 wIx) [(eV 1),(eC (.int 1))]),(eC (.int 1))]),(eV 4)])]))
  (G7 (PV Po (eV 2) [(AJ A7 [(eV 5),(AJ Bv [(eC (.int 1)),(eOp (o2 B9) [(eOp (o2 wIx) [(eV 0),(eC (.int 1))]),(eOp (o2 wIx) [(eV 1),(eC (.int 1))])])])])]))))
  (A3 (eOp (o1 Fq) [(eV 2)]))))
def Fs:Fn:=A6 (BA 6 KI)
def NB:Ex:=(Ai (CF 3 (eOp (o2 wIx) [(eV 2),(eC (.int 3))]))
  (Ai (CF 4 (eOp (o2 B9) [(eOp (o1 YK) [(C4 [3] 3 (Hy (eV 1)) (tTp [(tNm 1),(tNm 2),(tNm 3)]) Bx (eOp (o2 Cn) [(eV 2),(eOp (o2 wIx) [(eV 0),(eV 1)])]))]),(eOp (o2 Cn) [(eOp (o2 wIx) [(eV 0),(eC (.int 2))]),(eOp (o2 wIx) [(eV 3),(eOp (o1 Pw) [(eC (.int 1))])])])]))
  (A3 (AJ Bv [(eOp (o2 Cn) [(eOp (o2 wIx) [(eV 2),(eC (.int 2))]),(eOp (o2 wIx) [(eV 3),(eOp (o2 wIx) [(eOp (o2 wIx) [(eV 1),(eOp (o2 wIx) [(eV 2),(eC (.int 1))])]),(eC (.int 0))])])]),(eV 4)]))))
def Hn:Fn:=A6 (BA 5 NB)
def LZ:Ex:=(Ai (CF 3 (MT []))
  (Ai (Pt (cc (eV 0) (eV 2)) (tTp [(tNm 4),(tNm 5)]) (G7 (PV Po (eV 3) [(AJ BX [(AJ A7 [(eV 4),(AJ Dk [(BD [(eC (.int 1)),(eC (.int 1))]),(eV 1)])]),(AJ A7 [(eV 5),(eV 1)])])])))
  (A3 (eOp (o1 Fq) [(eV 3)]))))
def EH:Fn:=A6 (BA 6 LZ)
def MW:Ex:=(Ai (CF 2 (eK (o1 Ia) [(eV 0)]))
  (Ai (CF 3 (AJ A7 [(eOp (o2 wIx) [(eV 2),(eOp (o2 wIx) [(eV 1),(eC (.int 1))])]),(eOp (o2 wIx) [(eV 1),(eC (.int 3))])]))
  (Ai (OB (AJ Dk [(eOp (o2 wIx) [(eV 2),(eOp (o2 wIx) [(eV 1),(eC (.int 1))])]),(eV 3)]) (eV 2) (eOp (o2 wIx) [(eV 1),(eC (.int 1))]))
  (Ai (OB (AJ BX [(eOp (o2 wIx) [(eV 2),(eOp (o2 wIx) [(eV 1),(eC (.int 2))])]),(eV 3)]) (eV 2) (eOp (o2 wIx) [(eV 1),(eC (.int 2))]))
  (A3 (eOp (o1 Fq) [(eV 2)]))))))
def FD:Fn:=A6 (BA 4 MW)
def Jo:Ex:=(Ai (PL (tTp [(tNm 3),(tNm 4),(tNm 5)]) (eV 1))
  (xIf (eOp (o2 wEq) [(eOp (o2 wIx) [(eV 2),(eC (.int 0))]),(eC (.str "throw"))]) (Ai (Qs 6 7 (AJ Hn [(eV 0),(eV 3),(eV 2)]) (eOp (o2 wIx) [(eOp (o2 wIx) [(eV 3),(eOp (o2 wIx) [(eV 2),(eC (.int 1))])]),(eC (.int 2))]))
  (Ai (OB (eOp (o2 JU) [(eOp (o2 wIx) [(eOp (o2 wIx) [(eV 3),(eOp (o2 wIx) [(eV 2),(eC (.int 1))])]),(eC (.int 1))]),(eOp (o2 wIx) [(eV 2),(eC (.int 2))])]) (eOp (o2 wIx) [(eV 3),(eOp (o2 wIx) [(eV 2),(eC (.int 1))])]) (eC (.int 1)))
  (Ai (Pt (Hy (eV 3)) (tNm 8) (OB (AJ EH [(eOp (o2 wIx) [(eV 8),(eC (.int 2))]),(eV 6),(eV 7)]) (eV 8) (eC (.int 2))))
  (OB (AJ EH [(eV 4),(eV 6),(eV 7)]) (eV 1) (eC (.int 1)))))) (Ai (Pt (Hy (eV 3)) (tNm 8) (OB (AJ FD [(eOp (o2 wIx) [(eV 8),(eC (.int 2))]),(eV 2)]) (eV 8) (eC (.int 2))))
  (OB (AJ FD [(eV 4),(eV 2)]) (eV 1) (eC (.int 1))))))
def FA:Fn:=A6 (BA 9 Jo)
def Fv:Ex:=(Ai (PL (tTp [(tNm 3),(tNm 4),(tNm 5)]) (eV 1))
  (Ai (CF 6 (eOp (o2 wIx) [(eV 2),(eC (.int 0))]))
  (xIf (eOp (o2 wEq) [(eV 6),(eC (.str "bring"))]) (G7 (PV Po (eV 3) [(MT [(eOp (o2 wIx) [(eV 2),(eC (.int 2))]),(eOp (o2 wIx) [(eV 2),(eC (.int 3))]),(eOp (o1 Fq) [(C4 [2] 1 (PY [(eOp (o2 wIx) [(eV 0),(eC (.int 0))])]) (tNm 1) Bx (BD [(eOp (o1 Zo) [(eOp (o2 wEq) [(eV 1),(eOp (o2 wIx) [(eV 0),(eC (.int 1))])])]),(eC (.int 1))]))])])])) (xIf (eOp (o2 wEq) [(eV 6),(eC (.str "pool"))]) (Ai (Qs 7 8 (eOp (o2 wIx) [(eV 3),(eOp (o2 wIx) [(eV 2),(eC (.int 1))])]) (eOp (o2 wIx) [(eV 3),(eOp (o2 wIx) [(eV 2),(eC (.int 2))])]))
  (Ai (G7 (PV Po (eV 3) [(MT [(eOp (o2 wIx) [(eV 7),(eC (.int 0))]),(eOp (o2 B9) [(eOp (o2 wIx) [(eV 7),(eC (.int 1))]),(eOp (o2 wIx) [(eV 8),(eC (.int 1))])]),(AJ Fs [(eV 7),(eV 8)])])]))
  (Ai (OB (eC (.int 0)) (eV 7) (eC (.int 1)))
  (OB (eC (.int 0)) (eV 8) (eC (.int 1)))))) (xIf (eOp (o2 (wIn false)) [(eV 6),(BD [(eC (.str "swap")),(eC (.str "trade"))])]) (Ai (PL (tTp [(tNm 9),(tNm 10),(tNm 11),(tNm 12)]) (eOp (J6 true false) [(eV 2),(eOp (o1 Pw) [(eC (.int 4))])]))
  (Ai (OB (eOp (o2 JU) [(eOp (o2 wIx) [(eOp (o2 wIx) [(eV 3),(eV 9)]),(eC (.int 1))]),(eV 10)]) (eOp (o2 wIx) [(eV 3),(eV 9)]) (eC (.int 1)))
  (Ai (G7 (PV Po (eV 3) [(MT [(eV 11),(eV 12),(eOp (o2 wIx) [(eOp (o2 wIx) [(eV 3),(eV 9)]),(eC (.int 2))])])]))
  (G7 (PV fw (eV 5) [(eOp (o2 Cn) [(eOp (J6 true true) [(eV 2),(eC (.int 1)),(eC (.int 2))]),(eOp (o1 Zo) [(eOp (o2 wEq) [(eV 6),(eC (.str "trade"))])])])]))))) (xIf (eOp (o2 wEq) [(eV 6),(eC (.str "spoil"))]) (OB (eOp (o2 JU) [(eOp (o2 wIx) [(eOp (o2 wIx) [(eV 3),(eOp (o2 wIx) [(eV 2),(eC (.int 1))])]),(eC (.int 1))]),(eOp (o2 wIx) [(eV 2),(eC (.int 2))])]) (eOp (o2 wIx) [(eV 3),(eOp (o2 wIx) [(eV 2),(eC (.int 1))])]) (eC (.int 1))) (G7 (AJ FA [(eV 0),(eV 1),(eV 2)]))))))))
def Bz:Fn:=A6 (BA 13 Fv)
def Mz:Ex:=(Ai (PL (tTp [(tNm 3),(tNm 4),(tNm 5)]) (eV 2))
  (Ai (CF 6 (C4 [] 2 (ah (eV 3)) (tTp [(tNm 0),(tNm 1)]) (eOp (o2 wGt) [(eOp (o2 wIx) [(eV 1),(eC (.int 1))]),(eC (.int 0))]) (eV 0)))
  (Ai (CF 7 (AJ AI [(eV 0),(eC (.int 12))]))
  (Ai (xIf (eOr (eOp (o2 wLt) [(eV 7),(eC (.int 2))]) (eOp (o2 wEq) [(eV 6),(Hj [])])) (A3 (BD [(eC (.str "bring")),(AJ AI [(eV 0),(eOp (o2 wIx) [(eV 1),(eC (.int 0))])]),(AJ AI [(eV 0),(eOp (o2 wIx) [(eV 1),(eC (.int 1))])]),(AJ BQ [(eV 0)])])) CJ)
  (Ai (CF 8 (eOp (o2 wIx) [(eV 6),(AJ AI [(eV 0),(eOp (o1 GC) [(eV 6)])])]))
  (Ai (CF 9 (eOp (o2 B9) [(eC (.int 1)),(AJ AI [(eV 0),(eOp (o2 ao) [(eOp (o2 wIx) [(eOp (o2 wIx) [(eV 3),(eV 8)]),(eC (.int 1))]),(eC (.int 2000))])])]))
  (Ai (xIf (eOp (o2 wLt) [(eV 7),(eC (.int 5))]) (Ai (CF 10 (C4 [3,8] 1 (Hy (eV 6)) (tNm 2) (C8 (eOp (o2 wNe) [(eV 2),(eV 1)]) (eOp (o2 wEq) [(eOp (o2 wIx) [(eOp (o2 wIx) [(eV 0),(eV 2)]),(eC (.int 0))]),(eOp (o2 wIx) [(eOp (o2 wIx) [(eV 0),(eV 1)]),(eC (.int 0))])])) (eV 2)))
  (xIf (eOp (o2 wNe) [(eV 10),(Hj [])]) (A3 (BD [(eC (.str "pool")),(eV 8),(eOp (o2 wIx) [(eV 10),(AJ AI [(eV 0),(eOp (o1 GC) [(eV 10)])])])])) CJ)) CJ)
  (Ai (xIf (C8 (eOp (o2 wLt) [(eV 7),(eC (.int 8))]) (eOp (o2 wGt) [(eOp (o2 wIx) [(eV 1),(eC (.int 1))]),(eC (.int 1))])) (Ai (CF 11 (eOp (o2 PX) [(eOp (o2 B9) [(eOp (o2 B9) [(eOp (o2 wIx) [(eOp (o2 wIx) [(eV 3),(eV 8)]),(eC (.int 0))]),(eC (.int 1))]),(AJ AI [(eV 0),(eOp (o2 JU) [(eOp (o2 wIx) [(eV 1),(eC (.int 1))]),(eC (.int 1))])])]),(eOp (o2 wIx) [(eV 1),(eC (.int 1))])]))
  (Ai (CF 12 (C4 [5] 1 (PY [(eC (.int 10))]) (tNm 1) (eOp (o2 (wIn true)) [(eV 1),(eV 0)]) (eV 1)))
  (Ai (xIf (C8 (eOp (o2 wEq) [(eV 7),(eC (.int 7))]) (eOp (o2 wNe) [(eV 12),(Hj [])])) (A3 (BD [(eC (.str "trade")),(eOp (o2 wIx) [(eV 12),(AJ AI [(eV 0),(eOp (o1 GC) [(eV 12)])])]),(eV 8),(eV 9),(eV 11),(AJ BQ [(eV 0)])])) CJ)
  (A3 (BD [(eC (.str "swap")),(eV 8),(eV 9),(eV 11),(AJ BQ [(eV 0)])]))))) CJ)
  (Ai (xIf (eOp (o2 wEq) [(eV 7),(eC (.int 8))]) (A3 (BD [(eC (.str "spoil")),(eV 8),(eV 9)])) CJ)
  (Ai (xIf (C8 (eOp (o2 wEq) [(eV 7),(eC (.int 9))]) (eOp (o2 wGt) [(eOp (o2 wIx) [(eV 1),(eC (.int 0))]),(eC (.int 1))])) (Ai (CF 13 (AJ AI [(eV 0),(eOp (o2 wIx) [(eV 1),(eC (.int 0))])]))
  (A3 (BD [(eC (.str "sell")),(eV 13),(eOp (o2 PX) [(eOp (o2 B9) [(eOp (o2 B9) [(eV 13),(eC (.int 1))]),(AJ AI [(eV 0),(eOp (o2 JU) [(eOp (o2 wIx) [(eV 1),(eC (.int 0))]),(eC (.int 1))])])]),(eOp (o2 wIx) [(eV 1),(eC (.int 0))])]),(AJ FP [(eV 0)])]))) CJ)
  (A3 (BD [(eC (.str "throw")),(eV 8),(eV 9),(AJ Dp [(eV 0),(eOp (o2 B9) [(eOp (o2 wIx) [(eV 1),(eC (.int 1))]),(eC (.int 1))])])]))))))))))))
def Dq:Fn:=A6 (BA 14 Mz)
def Mh:Ex:=(Ai (CF 2 (AJ GW [(eV 0)]))
  (Ai (CF 3 (AJ Gj [(eV 0),(eV 2)]))
  (Ai (Qs 4 5 (AJ Gw [(BD [(eV 2),(eV 3),(BD [])])]) (MT []))
  (Ai (Pt (PY [(AJ AI [(eV 0),(eOp (o2 B9) [(eV 1),(eC (.int 1))])])]) (tNm 6) (Ai (CF 7 (AJ Dq [(eV 0),(eV 2),(eV 4)]))
  (xIf (eOr (eOp (o2 wNe) [(eOp (o2 wIx) [(eV 7),(eC (.int 0))]),(eC (.str "throw"))]) (eOp (o2 wLt) [(eOp (o1 GC) [(C4 [] 1 (Hy (eV 5)) (tNm 0) (eOp (o2 wEq) [(eOp (o2 wIx) [(eV 0),(eC (.int 0))]),(eC (.str "throw"))]) (eV 0))]),(eC (.int 3))])) (Ai (G7 (AJ Bz [(eV 2),(eV 4),(eV 7)]))
  (G7 (PV Po (eV 5) [(eV 7)]))) CJ)))
  (A3 (BD [(eV 2),(eV 3),(eOp (o1 Fq) [(eV 5)])]))))))
def EG:Fn:=A6 (BA 8 Mh)
def JT:Ex:=(Ai (xIf (eOr (FL (eOp (o2 Hh) [(eV 0),(eC (.ty "int"))])) (eOp (o2 Hh) [(eV 0),(eC (.ty "bool"))])) (A3 (eC (.bl false))) CJ)
  (A3 (C8 (eOp (o2 wLe) [(eV 1),(eV 0)]) (eOr (eOp (o2 (fo false)) [(eV 2),(eC .non)]) (eOp (o2 wLe) [(eV 0),(eV 2)])))))
def Ad:Fn:=A6 (BA 3 JT)
def De:Ex:=(A3 (C8 (eOp (o2 Hh) [(eV 0),(eC (.ty "tuple"))]) (C8 (eOp (o2 wEq) [(eOp (o1 GC) [(eV 0)]),(eV 1)]) (eOp (o1 Q8) [(C4 [] 1 (Hy (eV 0)) (tNm 0) Bx (AJ Ad [(eV 0),(eC (.int 1)),(eC (.int 99))]))]))))
def Bi:Fn:=A6 (BA 2 De)
def Dt:Ex:=(Ai (xIf (eOr (FL (eOp (o2 Hh) [(eV 0),(eC (.ty "tuple"))])) (eOr (eOp (o2 wNe) [(eOp (o1 GC) [(eV 0)]),(eC (.int 2))]) (FL (AJ Ad [(eOp (o2 wIx) [(eV 0),(eC (.int 0))]),(eC (.int 0)),(eC .non)])))) (A3 (eC (.bl false))) CJ)
  (A3 (C8 (AJ Ad [(eOp (o2 wIx) [(eV 0),(eC (.int 1))]),(eC (.int 1)),(eC .non)]) (eOp (o2 wEq) [(AJ Ej [(eOp (o2 wIx) [(eV 0),(eC (.int 0))]),(eOp (o2 wIx) [(eV 0),(eC (.int 1))])]),(eC (.int 1))]))))
def CH:Fn:=A6 (BA 1 Dt)
def F7:Ex:=(A3 (C8 (AJ CH [(eV 0)]) (eOp (o2 wLe) [(eOp (o2 wIx) [(eV 0),(eC (.int 0))]),(eOp (o2 wIx) [(eV 0),(eC (.int 1))])])))
def Bs:Fn:=A6 (BA 1 F7)
def Im:Ex:=(Ai (xIf (eOr (FL (AJ Ad [(eOp (o2 wIx) [(eV 1),(eC (.int 0))]),(eC (.int 0)),(eOp (o2 JU) [(eOp (o2 wIx) [(eV 0),(eC (.int 0))]),(eC (.int 1))])])) (eOr (FL (AJ Ad [(eOp (o2 wIx) [(eV 1),(eC (.int 1))]),(eC (.int 0)),(eOp (o2 JU) [(eOp (o2 wIx) [(eV 0),(eC (.int 0))]),(eC (.int 1))])])) (eOp (o2 wEq) [(eOp (o2 wIx) [(eV 1),(eC (.int 0))]),(eOp (o2 wIx) [(eV 1),(eC (.int 1))])]))) (A3 (eC (.bl false))) CJ)
  (A3 (C8 (AJ Bs [(eOp (o2 wIx) [(eV 1),(eC (.int 2))])]) (C8 (eOp (o2 wGt) [(eOp (o2 wIx) [(eOp (o2 wIx) [(eV 1),(eC (.int 2))]),(eC (.int 0))]),(eC (.int 0))]) (eOp (o2 wLe) [(eOp (o2 wIx) [(eOp (o2 wIx) [(eV 1),(eC (.int 2))]),(eC (.int 1))]),(eC (.int 12))])))))
def Dw:Fn:=A6 (BA 2 Im)
def B3:Ex:=(Ai (xIf (eOr (FL (eOp (o2 Hh) [(eV 1),(eC (.ty "tuple"))])) (eOr (eOp (o2 wLt) [(eOp (o1 GC) [(eV 1)]),(eC (.int 2))]) (FL (eOp (o2 Hh) [(eOp (o2 wIx) [(eV 1),(eC (.int 0))]),(eC (.ty "str"))])))) (A3 (eC (.bl false))) CJ)
  (Ai (CF 2 (Vx [((eC (.str "bring")),(eC (.int 3))),((eC (.str "pool")),(eC (.int 2))),((eC (.str "swap")),(eC (.int 4))),((eC (.str "trade")),(eC (.int 5))),((eC (.str "spoil")),(eC (.int 2))),((eC (.str "throw")),(eC (.int 3))),((eC (.str "sell")),(eC (.int 3)))]))
  (Ai (xIf (eOp (o2 wNe) [(eH (eV 2) (eOp (o2 wIx) [(eV 1),(eC (.int 0))]) (eC (.int 0))),(eOp (o2 JU) [(eOp (o1 GC) [(eV 1)]),(eC (.int 1))])]) (A3 (eC (.bl false))) CJ)
  (Ai (Qs 3 4 (eOp (o2 wIx) [(eV 1),(eC (.int 0))]) (eOp (J6 true false) [(eV 1),(eC (.int 1))]))
  (Ai (xIf (eOp (o2 wEq) [(eV 3),(eC (.str "sell"))]) (A3 (AJ Dw [(eV 0),(eV 4)])) CJ)
  (Ai (xIf (eOp (o2 wEq) [(eV 3),(eC (.str "bring"))]) (Ai (CF 5 (C8 (AJ Ad [(eOp (o2 wIx) [(eV 4),(eC (.int 0))]),(eC (.int 0)),(eOp (o2 JU) [(eOp (o2 wIx) [(eV 0),(eC (.int 0))]),(eC (.int 1))])]) (AJ Ad [(eOp (o2 wIx) [(eV 4),(eC (.int 1))]),(eC (.int 0)),(eOp (o2 JU) [(eOp (o2 wIx) [(eV 0),(eC (.int 1))]),(eC (.int 1))])])))
  (A3 (C8 (eV 5) (AJ Ad [(eOp (o2 wIx) [(eV 4),(eC (.int 2))]),(eC (.int 1)),(eC .non)])))) CJ)
  (Ai (xIf (eOp (o2 wEq) [(eV 3),(eC (.str "trade"))]) (Ai (xIf (FL (AJ Ad [(eOp (o2 wIx) [(eV 4),(eC (.int 0))]),(eC (.int 0)),(eC (.int 9))])) (A3 (eC (.bl false))) CJ)
  (CF 4 (eOp (J6 true false) [(eV 4),(eC (.int 1))]))) CJ)
  (Ai (xIf (FL (AJ Ad [(eOp (o2 wIx) [(eV 4),(eC (.int 0))]),(eC (.int 0)),(eC .non)])) (A3 (eC (.bl false))) CJ)
  (Ai (xIf (eOp (o2 wEq) [(eV 3),(eC (.str "pool"))]) (A3 (C8 (AJ Ad [(eOp (o2 wIx) [(eV 4),(eC (.int 1))]),(eC (.int 0)),(eC .non)]) (eOp (o2 wNe) [(eOp (o2 wIx) [(eV 4),(eC (.int 0))]),(eOp (o2 wIx) [(eV 4),(eC (.int 1))])]))) CJ)
  (Ai (xIf (eOp (o2 (wIn false)) [(eV 3),(BD [(eC (.str "swap")),(eC (.str "trade"))])]) (A3 (C8 (AJ Ad [(eOp (o2 wIx) [(eV 4),(eC (.int 1))]),(eC (.int 1)),(eC .non)]) (C8 (AJ Ad [(eOp (o2 wIx) [(eV 4),(eC (.int 2))]),(eC (.int 0)),(eOp (o2 JU) [(eOp (o2 wIx) [(eV 0),(eC (.int 1))]),(eC (.int 1))])]) (AJ Ad [(eOp (o2 wIx) [(eV 4),(eC (.int 3))]),(eC (.int 1)),(eC .non)])))) CJ)
  (A3 (C8 (AJ Ad [(eOp (o2 wIx) [(eV 4),(eC (.int 1))]),(eC (.int 1)),(eC .non)]) (eOr (eOp (o2 wEq) [(eV 3),(eC (.str "spoil"))]) (AJ Bi [(eOp (o2 wIx) [(eV 4),(eC (.int 2))]),(eOp (o2 B9) [(eOp (o2 wIx) [(eV 0),(eC (.int 1))]),(eC (.int 1))])]))))))))))))))
def AV:Fn:=A6 (BA 6 B3)
def OD:Ex:=(Ai (CF 1 (BD [(eC (.int 0)),(eC (.int 1))]))
  (Ai (Pt (Hy (eV 0)) (tNm 2) (CF 1 (AJ BX [(eV 1),(eV 2)])))
  (A3 (eV 1))))
def JG:Fn:=A6 (BA 3 OD)
def Cm:Ex:=(Ai (xIf (eOr (FL (eOp (o2 Hh) [(eV 0),(eC (.ty "tuple"))])) (eOr (eOp (o2 wNe) [(eOp (o1 GC) [(eV 0)]),(eV 1)]) (FL (eOp (o1 Q8) [(C4 [] 1 (Hy (eV 0)) (tNm 0) Bx (AJ Bs [(eV 0)]))])))) (A3 (eC (.bl false))) CJ)
  (A3 (eOp (o2 wEq) [(AJ JG [(eV 0)]),(BD [(eC (.int 1)),(eC (.int 1))])])))
def BP:Fn:=A6 (BA 2 Cm)
def Ez:Ex:=(Ai (xIf (eOr (FL (eOp (o2 Hh) [(eV 1),(eC (.ty "tuple"))])) (eOr (eOp (o2 wNe) [(eOp (o1 GC) [(eV 1)]),(eC (.int 3))]) (FL (AJ Ad [(eOp (o2 wIx) [(eV 1),(eC (.int 0))]),(eC (.int 0)),(eOp (o2 JU) [(eOp (o2 wIx) [(eV 0),(eC (.int 1))]),(eC (.int 1))])])))) (A3 (eC (.bl false))) CJ)
  (A3 (C8 (AJ Ad [(eOp (o2 wIx) [(eV 1),(eC (.int 1))]),(eC (.int 0)),(eC .non)]) (AJ BP [(eOp (o2 wIx) [(eV 1),(eC (.int 2))]),(eOp (o2 wIx) [(eV 0),(eC (.int 0))])]))))
def Cg:Fn:=A6 (BA 2 Ez)
def DR:Ex:=(Ai (xIf (eOr (FL (eOp (o2 Hh) [(eV 0),(eC (.ty "tuple"))])) (eOr (eOp (o2 wNe) [(eOp (o1 GC) [(eV 0)]),(eC (.int 6))]) (eOr (FL (AJ Ad [(eOp (o2 wIx) [(eV 0),(eC (.int 0))]),(eC (.int 1)),(eC (.int 4))])) (FL (AJ Ad [(eOp (o2 wIx) [(eV 0),(eC (.int 1))]),(eC (.int 1)),(eC (.int 5))]))))) (A3 (eC (.bl false))) CJ)
  (Ai (xIf (eOr (FL (AJ Ad [(eOp (o2 wIx) [(eV 0),(eC (.int 2))]),(eC (.int 1)),(eC (.int 20))])) (FL (AJ BP [(eOp (o2 wIx) [(eV 0),(eC (.int 3))]),(eOp (o2 wIx) [(eV 0),(eC (.int 0))])]))) (A3 (eC (.bl false))) CJ)
  (A3 (C8 (AJ Ad [(eOp (o2 wIx) [(eV 0),(eC (.int 4))]),(eC (.int 0)),(eC (.int 9))]) (AJ Ad [(eOp (o2 wIx) [(eV 0),(eC (.int 5))]),(eC (.int 0)),(eC (.int 9))])))))
def CA:Fn:=A6 (BA 1 DR)
def CB:Ex:=(Ai (xIf (eOr (FL (eOp (o2 Hh) [(eV 0),(eC (.ty "tuple"))])) (eOr (eOp (o2 wNe) [(eOp (o1 GC) [(eV 0)]),(eC (.int 3))]) (FL (AJ CA [(eOp (o2 wIx) [(eV 0),(eC (.int 0))])])))) (A3 (eC (.bl false))) CJ)
  (Ai (PL (tTp [(tNm 1),(tNm 2),(tNm 3)]) (eV 0))
  (Ai (xIf (eOr (FL (eOp (o2 Hh) [(eV 2),(eC (.ty "tuple"))])) (eOr (FL (eOp (o2 Hh) [(eV 3),(eC (.ty "tuple"))])) (eOr (eOp (o2 wGt) [(eOp (o1 GC) [(eV 2)]),(eC (.int 4))]) (eOp (o2 wGt) [(eOp (o1 GC) [(eV 3)]),(eC (.int 20))])))) (A3 (eC (.bl false))) CJ)
  (Ai (xIf (FL (eOp (o1 Q8) [(C4 [1] 1 (Hy (eV 2)) (tNm 1) Bx (C8 (AJ Cg [(eV 0),(eV 1)]) (eOp (o2 wGt) [(eOp (o2 wIx) [(eV 1),(eC (.int 1))]),(eC (.int 0))])))])) (A3 (eC (.bl false))) CJ)
  (Ai (xIf (FL (eOp (o1 Q8) [(C4 [1] 1 (Hy (eV 3)) (tNm 1) Bx (AJ AV [(eV 0),(eV 1)]))])) (A3 (eC (.bl false))) CJ)
  (A3 (eOp (o2 wLt) [(eOp (o1 GC) [(C4 [] 1 (Hy (eV 3)) (tNm 0) (eOp (o2 wEq) [(eOp (o2 wIx) [(eV 0),(eC (.int 0))]),(eC (.str "throw"))]) (eV 0))]),(eC (.int 4))])))))))
def BL:Fn:=A6 (BA 4 CB)
def IU(rec:Fn):Ex:=(Ai (CF 2 (AJ AI [(eV 0),(eC (.int 12))]))
  (Ai (xIf (eOr (eOp (o2 wLt) [(eV 2),(eC (.int 8))]) (eOp (o2 wEq) [(eV 1),(eC (.int 0))])) (A3 (eOp (o2 wIx) [(Hj [(eC .non),(eC (.bl true)),(eC (.bl false)),(eC (.int 0)),(eC (.int 1)),(eOp (o1 Pw) [(eC (.int 1))]),(eC (.int 9)),(eOp (o2 ZV) [(eC (.int 10)),(eC (.int 39))]),(eC (.str "")),(eC (.str "a")),(BD []),(Hj [])]),(AJ AI [(eV 0),(eC (.int 12))])])) CJ)
  (Ai (CF 3 (C4 [0,1] 1 (PY [(AJ AI [(eV 0),(eC (.int 4))])]) (tNm 2) Bx (AJ rec [(eV 0),(eOp (o2 JU) [(eV 1),(eC (.int 1))])])))
  (Ai (xIf (eOp (o2 wEq) [(eV 2),(eC (.int 8))]) (A3 (eV 3)) CJ)
  (Ai (xIf (eOp (o2 wEq) [(eV 2),(eC (.int 9))]) (A3 (Vx [((eC (.str "a")),(eV 3))])) CJ)
  (A3 (eOp (o1 Fq) [(eV 3)])))))))
def BC:Nat->Fn
 |0=>fun _ _=>none
 |n+1=>A6 (BA 4 (IU (BC n)))
def Ed(rec:Fn):Ex:=(Ai (xIf (C8 (eOp (o2 Hh) [(eV 1),(eC (.ty "tuple"))]) (C8 (eOp (o2 wNe) [(eV 1),(BD [])]) (eOp (o2 wGt) [(AJ AI [(eV 0),(eC (.int 6))]),(eC (.int 0))]))) (Ai (CF 2 (AJ AI [(eV 0),(eOp (o1 GC) [(eV 1)])]))
  (A3 (eOp (o2 B9) [(eOp (o2 B9) [(eOp (J6 false true) [(eV 1),(eV 2)]),(BD [(AJ rec [(eV 0),(eOp (o2 wIx) [(eV 1),(eV 2)])])])]),(eOp (J6 true false) [(eV 1),(eOp (o2 B9) [(eV 2),(eC (.int 1))])])]))) CJ)
  (Ai (CF 3 (AJ AI [(eV 0),(eC (.int 8))]))
  (Ai (xIf (C8 (eOp (o2 Hh) [(eV 1),(eC (.ty "tuple"))]) (eOp (o2 wLt) [(eV 3),(eC (.int 4))])) (A3 (eOp (o2 wIx) [(Hj [(eOp (o2 B9) [(eV 1),(eOp (J6 true false) [(eV 1),(eOp (o1 Pw) [(eC (.int 1))])])]),(eOp (J6 false true) [(eV 1),(eOp (o1 Pw) [(eC (.int 1))])]),(eOp (o1 Ia) [(eV 1)]),(eOp (o1 bF) [(eV 1)])]),(eV 3)])) CJ)
  (Ai (xIf (C8 (eOp (o2 Hh) [(eV 1),(eC (.ty "int"))]) (eOp (o2 wLt) [(eV 3),(eC (.int 4))])) (A3 (eOp (o2 wIx) [(Hj [(eOp (o2 B9) [(eV 1),(eC (.int 1))]),(eOp (o2 JU) [(eV 1),(eC (.int 1))]),(eOp (o2 wGt) [(eV 1),(eC (.int 0))]),(eOp (o1 bB) [(eV 1)])]),(eV 3)])) CJ)
  (Ai (xIf (C8 (eOp (o2 Hh) [(eV 1),(eC (.ty "str"))]) (eOp (o2 wLt) [(eV 3),(eC (.int 4))])) (A3 (eOp (o2 wIx) [(Hj [(eOp (o2 B9) [(eV 1),(eC (.str "a"))]),(eOp (o1 wUp) [(eV 1)]),(eOp (J6 false true) [(eV 1),(eOp (o1 Pw) [(eC (.int 1))])]),(eOp (o2 B9) [(eC (.str "1")),(eV 1)])]),(eV 3)])) CJ)
  (A3 (AJ (BC 8) [(eV 0),(eC (.int 2))])))))))
def Ba:Nat->Fn
 |0=>fun _ _=>none
 |n+1=>A6 (BA 4 (Ed (Ba n)))
def IH:Ex:=(A3 (AJ Ck [(eV 1),(eC (.int 1))]))
def DQ:Fn:=A6 (BA 2 IH)
def FO:Ex:=(A3 (C8 (eOp (o2 Hh) [(eV 0),(eC (.ty "tuple"))]) (eOp (o2 wEq) [(eOp (o1 GC) [(eV 0)]),(eV 1)])))
def BN:Fn:=A6 (BA 2 FO)
def ES:Ex:=(A3 (C8 (AJ BN [(eV 0),(eV 1)]) (eOp (o1 Q8) [(C4 [] 1 (Hy (eV 0)) (tNm 0) Bx (AJ Aw [(eV 0),(eC (.int 1)),(eC (.int 99))]))])))
def Cp:Fn:=A6 (BA 2 ES)
def IC:Ex:=(A3 (AJ Cp [(eV 1),(eOp (o2 B9) [(eOp (o2 wIx) [(eV 0),(eC (.int 1))]),(eC (.int 1))])]))
def DM:Fn:=A6 (BA 2 IC)
def K2:Ex:=(A3 (AJ Aw [(eV 1),(eC (.int 0)),(eOp (o2 JU) [(eOp (o2 wIx) [(eV 0),(eC (.int 1))]),(eC (.int 1))])]))
def EJ:Fn:=A6 (BA 2 K2)
def F2:Ex:=(A3 (AJ Ck [(eV 1),(eC (.int 0))]))
def B8:Fn:=A6 (BA 2 F2)
def II:Ex:=(A3 (AJ Aw [(eV 1),(eC (.int 0)),(eOp (o2 JU) [(eOp (o2 wIx) [(eV 0),(eC (.int 0))]),(eC (.int 1))])]))
def DK:Fn:=A6 (BA 2 II)
def E9:Ex:=(Ai (xIf (eOr (FL (eOp (o2 Hh) [(eV 0),(eC (.ty "tuple"))])) (eOp (o2 wNe) [(eOp (o1 GC) [(eV 0)]),(eC (.int 2))])) (A3 (eC (.bl false))) CJ)
  (Ai (PL (tTp [(tNm 1),(tNm 2)]) (eV 0))
  (A3 (C8 (AJ Dm [(eV 1)]) (C8 (AJ Ck [(eV 2),(eC (.int 1))]) (eOp (o2 wEq) [(AJ Bl [(eV 1),(eV 2)]),(eC (.int 1))]))))))
def DB:Fn:=A6 (BA 3 E9)
def HU:Ex:=(A3 (C8 (AJ DB [(eV 0)]) (Qx (eC (.int 0)) (eOp (o2 wIx) [(eV 0),(eC (.int 0))]) (eOp (o2 wIx) [(eV 0),(eC (.int 1))]))))
def CT:Fn:=A6 (BA 1 HU)
def EN:Ex:=(A3 (C8 (AJ CT [(eV 1)]) (C8 (eOp (o2 wGt) [(eOp (o2 wIx) [(eV 1),(eC (.int 0))]),(eC (.int 0))]) (eOp (o2 wLe) [(eOp (o2 wIx) [(eV 1),(eC (.int 1))]),(eC (.int 12))]))))
def Bu:Fn:=A6 (BA 2 EN)
def FW:Ex:=(A3 (AJ Aw [(eV 1),(eC (.int 0)),(eC (.int 9))]))
def By:Fn:=A6 (BA 2 FW)
def EU:List (Str×Fn):=[("partner",DK),("kind",EJ),("load",B8),("number",By),("pieces",DQ),("worths",DM),("share",Bu)]
def C1:Ex:=(c7 EU 3 1 [(eV 0),(eV 2)])
def A5:Fn:=A6 (BA 4 C1)
noncomputable def Ca:List (Str×D):=[("bring",.tup [.str "partner",.str "kind",.str "pieces"]),("pool",.tup [.str "load",.str "load"]),("swap",.tup [.str "load",.str "pieces",.str "kind",.str "pieces"]),("trade",.tup [.str "number",.str "load",.str "pieces",.str "kind",.str "pieces"]),("spoil",.tup [.str "load",.str "pieces"]),("throw",.tup [.str "load",.str "pieces",.str "worths"]),("sell",.tup [.str "partner",.str "partner",.str "share"])]
noncomputable def Ft:D:=.tup [.str "pool",.str "sell"]
def Di:Ex:=(Ai (xIf (eOr (FL (eOp (o2 Hh) [(eV 1),(eC (.ty "tuple"))])) (eOp (o2 wEq) [(eOp (o1 GC) [(eV 1)]),(eC (.int 0))])) (A3 (eC (.bl false))) CJ)
  (Ai (CF 2 (eOp (o2 wIx) [(eV 1),(eC (.int 0))]))
  (Ai (xIf (eOr (FL (eOp (o2 Hh) [(eV 2),(eC (.ty "str"))])) (eOp (o1 (MX true Ca)) [(eV 2)])) (A3 (eC (.bl false))) CJ)
  (Ai (CF 3 (eOp (o1 (bG Ca)) [(eV 2)]))
  (Ai (xIf (eOp (o2 wNe) [(eOp (o1 GC) [(eV 1)]),(eOp (o2 B9) [(eOp (o1 GC) [(eV 3)]),(eC (.int 1))])]) (A3 (eC (.bl false))) CJ)
  (Ai (xIf (FL (eOp (o1 Q8) [(C4 [0,1] 2 (ah (eV 3)) (tTp [(tNm 2),(tNm 3)]) Bx (AJ A5 [(eV 0),(eV 3),(eOp (o2 wIx) [(eV 1),(eOp (o2 B9) [(eV 2),(eC (.int 1))])])]))])) (A3 (eC (.bl false))) CJ)
  (A3 (eOr (eOp (o2 (wIn true)) [(eV 2),(eC Ft)]) (eOp (o2 wNe) [(eOp (o2 wIx) [(eV 1),(eC (.int 1))]),(eOp (o2 wIx) [(eV 1),(eC (.int 2))])])))))))))
def An:Fn:=A6 (BA 4 Di)
noncomputable def Ef:D:=.int 20
noncomputable def Dx:D:=.int 3
def D7:Ex:=(Ai (xIf (eOr (FL (eOp (o2 Hh) [(eV 1),(eC (.ty "tuple"))])) (eOp (o2 wGt) [(eOp (o1 GC) [(eV 1)]),(eC Ef)])) (A3 (eC (.bl false))) CJ)
  (Ai (xIf (FL (eOp (o1 Q8) [(C4 [0] 1 (Hy (eV 1)) (tNm 1) Bx (AJ An [(eV 0),(eV 1)]))])) (A3 (eC (.bl false))) CJ)
  (A3 (eOp (o2 wLe) [(eOp (o1 GC) [(C4 [] 1 (Hy (eV 1)) (tNm 0) (eOp (o2 wEq) [(eOp (o2 wIx) [(eV 0),(eC (.int 0))]),(eC (.str "throw"))]) (eV 0))]),(eC Dx)]))))
def Cd:Fn:=A6 (BA 2 D7)
def O0:Ex:=(Ai (CF 1 (eC HS))
  (Ai (Pt (Hy (eV 0)) (tNm 2) (CF 1 (AJ Iu [(eV 1),(eV 2)])))
  (A3 (eV 1))))
def JS:Fn:=A6 (BA 3 O0)
def DY:Ex:=(Ai (xIf (FL (AJ BN [(eV 1),(eV 0)])) (A3 (eC (.bl false))) CJ)
  (A3 (C8 (eOp (o1 Q8) [(C4 [] 1 (Hy (eV 1)) (tNm 0) Bx (AJ CT [(eV 0)]))]) (eOp (o2 wEq) [(AJ JS [(eV 1)]),(eC R4)]))))
def Br:Fn:=A6 (BA 2 DY)
def Gx:Ex:=(Ai (xIf (FL (AJ BN [(eV 1),(eC (.int 3))])) (A3 (eC (.bl false))) CJ)
  (Ai (PL (tTp [(tNm 2),(tNm 3),(tNm 4)]) (eV 1))
  (A3 (C8 (AJ EJ [(eV 0),(eV 2)]) (C8 (AJ Ck [(eV 3),(eC (.int 0))]) (AJ Br [(eOp (o2 wIx) [(eV 0),(eC (.int 0))]),(eV 4)]))))))
def Df:Fn:=A6 (BA 5 Gx)
noncomputable def EY:D:=.int 4
def Ew:Ex:=(Ai (xIf (eOr (FL (eOp (o2 Hh) [(eV 1),(eC (.ty "tuple"))])) (eOp (o2 wGt) [(eOp (o1 GC) [(eV 1)]),(eC EY)])) (A3 (eC (.bl false))) CJ)
  (A3 (eOp (o1 Q8) [(C4 [0] 1 (Hy (eV 1)) (tNm 1) Bx (C8 (AJ Df [(eV 0),(eV 1)]) (eOp (o2 wGt) [(eOp (o2 wIx) [(eV 1),(eC (.int 1))]),(eC (.int 0))])))])))
def DA:Fn:=A6 (BA 2 Ew)
def EZ:Ex:=(Ai (xIf (FL (AJ BN [(eV 0),(eC (.int 6))])) (A3 (eC (.bl false))) CJ)
  (Ai (PL (tTp [(tNm 1),(tNm 2),(tNm 3),(tNm 4),(tNm 5),(tNm 6)]) (eV 0))
  (Ai (xIf (FL (C8 (AJ Aw [(eV 1),(eC (.int 1)),(eC (.int 4))]) (C8 (AJ Aw [(eV 2),(eC (.int 1)),(eC (.int 5))]) (AJ Aw [(eV 3),(eC (.int 1)),(eC (.int 20))])))) (A3 (eC (.bl false))) CJ)
  (A3 (C8 (AJ Br [(eV 1),(eV 4)]) (C8 (AJ Aw [(eV 5),(eC (.int 0)),(eC (.int 9))]) (AJ Aw [(eV 6),(eC (.int 0)),(eC (.int 9))])))))))
def C6:Fn:=A6 (BA 7 EZ)
def Fg:Ex:=(Ai (xIf (FL (AJ BN [(eV 0),(eC (.int 3))])) (A3 (eC (.bl false))) CJ)
  (Ai (PL (tTp [(tNm 1),(tNm 2),(tNm 3)]) (eV 0))
  (A3 (C8 (AJ C6 [(eV 1)]) (C8 (AJ DA [(eV 1),(eV 2)]) (AJ Cd [(eV 1),(eV 3)]))))))
def C5:Fn:=A6 (BA 4 Fg)
def SO:Ex:=(Ai (Pt (PY [(eOp (o2 eT) [(eC (.int 1)),(eOp (o2 ao) [(eOp (o1 GC) [(eV 0)]),(eC (.int 3))])])]) (tNm 1) (Ai (CF 2 (AJ GP [(AJ CZ [(eV 0),(eV 1)])]))
  (Ai (CF 3 (AJ EG [(eV 2),(eC (.int 12))]))
  (Ai (PL (tTp [(tNm 4),(tNm 5),(tNm 6)]) (eV 3))
  (Ai (PL (tTp [(tNm 7),(tNm 8)]) (BD [(BD [(eC (.str "bring")),(eC (.int 0)),(eC (.int 0)),(eC (.int 1))]),(BD [(eC (.str "throw")),(eC (.int 0)),(eC (.int 1)),(eOp (o2 Cn) [(BD [(eC (.int 1))]),(eOp (o2 B9) [(eOp (o2 wIx) [(eV 4),(eC (.int 1))]),(eC (.int 1))])])])]))
  (Ai (CF 9 (BD [(eC (.int 0)),(eC (.int 1)),(AJ Ci [(eV 2),(eOp (o2 wIx) [(eV 4),(eC (.int 0))])])]))
  (Ai (CF 10 (Hj [(eV 3),(eOp (o1 Ia) [(eV 3)]),(eOp (J6 false true) [(eV 3),(eC (.int 2))]),(eOp (o2 B9) [(eV 3),(BD [(BD [])])]),(BD [(eV 4),(eOp (o1 Ia) [(eV 5)]),(eV 6)]),(BD [(eV 4),(eV 5),(eOp (o1 Ia) [(eV 6)])])]))
  (Ai (CF 10 (eOp (o2 B9) [(eOp (o2 B9) [(eV 10),(C4 [4,9] 1 (Hy (BD [(eC (.int 0)),(eC (.int 4)),(eC (.int 5))])) (tNm 2) Bx (BD [(eV 0),(eOp (o2 Cn) [(BD [(eV 1)]),(eV 2)]),(BD [])]))]),(Hj [(BD [(eV 4),(BD [(BD [(eC (.int 0)),(eC (.int 0)),(eOp (o2 wIx) [(eV 9),(eC (.int 2))])])]),(BD [])])])]))
  (Ai (CF 10 (eOp (o2 B9) [(eOp (o2 B9) [(eV 10),(C4 [4,7] 1 (Hy (BD [(eC (.int 20)),(eC (.int 21))])) (tNm 2) Bx (BD [(eV 0),(BD []),(eOp (o2 Cn) [(BD [(eV 1)]),(eV 2)])]))]),(Hj [(AJ (BC 8) [(eV 2),(eC (.int 3))])])]))
  (Ai (CF 10 (eOp (o2 B9) [(eV 10),(C4 [4,7,8] 1 (Hy (BD [(eC (.int 3)),(eC (.int 4))])) (tNm 3) Bx (BD [(eV 0),(BD []),(eOp (o2 B9) [(BD [(eV 1)]),(eOp (o2 Cn) [(BD [(eV 2)]),(eV 3)])])]))]))
  (Ai (CF 10 (eOp (o2 B9) [(eOp (o2 B9) [(eV 10),(C4 [2,3] 1 (PY [(eC (.int 8))]) (tNm 2) Bx (AJ (Ba 8) [(eV 0),(eV 1)]))]),(Hj [(BD [(eV 4),(BD []),(BD [(BD [(eC (.str "pool")),(eC (.int 8)),(eC (.int 9))])])])])]))
  (Pt (Hy (eV 10)) (tNm 11) (xIf (eOp (o2 wNe) [(AJ C5 [(eV 11)]),(AJ BL [(eV 11)])]) (A3 (eC (.bl false))) CJ)))))))))))))
  (A3 (eC (.bl true))))
def NJ:Fn:=A6 (BA 12 SO)
end
section
open PyProof.Rows (boot_isinstance boot_int boot_bool boot_tuple boot_str boot_list boot_abs boot_all boot_any boot_sum boot_max boot_min boot_range boot_enumerate boot_zip boot_sorted boot_set boot_divmod)
noncomputable def top(i:Nat):Stmt:=PySem.Challenge.pw_sharetrail_k03_books_looked_at.main.body.getD i (.Pass ⟨0,0,0,0⟩)
abbrev s_p_is_whole:Stmt:=top 3
abbrev s_p_is_from:Stmt:=top 4
abbrev s_p_is_within:Stmt:=top 5
abbrev s_p_greatest_divisor:Stmt:=top 6
abbrev s_p_is_amount:Stmt:=top 7
abbrev s_p_lowest:Stmt:=top 8
abbrev s_p_plus:Stmt:=top 9
abbrev s_p_total:Stmt:=top 10
abbrev s_p_is_tuple_of:Stmt:=top 17
abbrev s_p_is_share:Stmt:=top 18
abbrev s_p_are_owners:Stmt:=top 19
abbrev s_p_is_train:Stmt:=top 20
abbrev s_p_is_partner:Stmt:=top 21
abbrev s_p_is_kind:Stmt:=top 22
abbrev s_p_is_load_number:Stmt:=top 23
abbrev s_p_is_trade_number:Stmt:=top 24
abbrev s_p_are_pieces:Stmt:=top 25
abbrev s_p_are_values:Stmt:=top 26
abbrev s_p_are_worths:Stmt:=top 27
abbrev s_p_is_sold_share:Stmt:=top 28
abbrev s_p_is_part:Stmt:=top 30
abbrev s_p_is_load:Stmt:=top 31
abbrev s_p_is_deed:Stmt:=top 32
abbrev s_p_are_first:Stmt:=top 33
abbrev s_p_are_deeds:Stmt:=top 34
abbrev s_p_is_book:Stmt:=top 35
abbrev s_law_cell_at:Stmt:=top 37
abbrev s_law_pen:Stmt:=top 38
abbrev s_law_draw:Stmt:=top 39
abbrev s_law_common:Stmt:=top 40
abbrev s_law_made:Stmt:=top 41
abbrev s_law_plus:Stmt:=top 42
abbrev s_law_times:Stmt:=top 43
abbrev s_law_less:Stmt:=top 44
abbrev s_law_sum:Stmt:=top 45
abbrev s_law_whole:Stmt:=top 46
abbrev s_law_pieces:Stmt:=top 47
abbrev s_law_train:Stmt:=top 48
abbrev s_law_first:Stmt:=top 49
abbrev s_law_share:Stmt:=top 50
abbrev s_law_worths:Stmt:=top 51
abbrev s_law_begun:Stmt:=top 52
abbrev s_law_pooled:Stmt:=top 55
abbrev s_law_cost:Stmt:=top 56
abbrev s_law_borne:Stmt:=top 57
abbrev s_law_sold:Stmt:=top 58
abbrev s_law_turn:Stmt:=top 59
abbrev s_law_do:Stmt:=top 60
abbrev s_law_deed:Stmt:=top 61
abbrev s_law_book:Stmt:=top 62
abbrev s_law_thing:Stmt:=top 64
abbrev s_law_spoilt:Stmt:=top 65
abbrev s_law_in:Stmt:=top 66
abbrev s_law_is_amount:Stmt:=top 67
abbrev s_law_is_share:Stmt:=top 68
abbrev s_law_are_shares:Stmt:=top 69
abbrev s_law_is_train:Stmt:=top 70
abbrev s_law_is_load:Stmt:=top 71
abbrev s_law_are_worths:Stmt:=top 72
abbrev s_law_is_sale:Stmt:=top 73
abbrev s_law_is_deed:Stmt:=top 74
abbrev s_law_is_right:Stmt:=top 75
abbrev s_p_law:Stmt:=top 76
section
variable(P:Program)(w:World)(K:PySem.W.Frag)(mg:Str->Option Value)(base:Heap)
abbrev HY:Prop:=St.Dfn P w K mg base "is_whole" 1 ["thing"] (spD K 1 Dm)
abbrev EE:Prop:=St.Dfn P w K mg base "is_from" 2 ["thing","low"] (spD K 2 Ck)
abbrev C9:Prop:=St.Dfn P w K mg base "is_within" 3 ["thing","low","high"] (spD K 3 Aw)
abbrev DH:Prop:=St.Dfn P w K mg base "greatest_divisor" 1 ["one","other"] (spD K 2 Bl)
abbrev Ip:Prop:=St.Dfn P w K mg base "is_amount" 3 ["thing"] (spD K 1 DB)
abbrev NC:Prop:=St.Dfn P w K mg base "lowest" 2 ["top","bottom"] (spD K 2 Hs)
abbrev QY:Prop:=St.Dfn P w K mg base "plus" 3 ["one","other"] (spD K 2 Iu)
abbrev OU:Prop:=St.Dfn P w K mg base "total" 4 ["amounts"] (spD K 1 JS)
abbrev CM:Prop:=St.Dfn P w K mg base "is_tuple_of" 1 ["thing","many"] (spD K 2 BN)
abbrev Hd:Prop:=St.Dfn P w K mg base "is_share" 4 ["thing"] (spD K 1 CT)
abbrev GB:Prop:=St.Dfn P w K mg base "are_owners" 5 ["partners","thing"] (spD K 2 Br)
abbrev KH:Prop:=St.Dfn P w K mg base "is_train" 6 ["thing"] (spD K 1 C6)
abbrev L7:Prop:=St.Dfn P w K mg base "is_partner" 4 ["train","thing"] (spD K 2 DK)
abbrev LQ:Prop:=St.Dfn P w K mg base "is_kind" 4 ["train","thing"] (spD K 2 EJ)
abbrev Il:Prop:=St.Dfn P w K mg base "is_load_number" 3 ["train","thing"] (spD K 2 B8)
abbrev Ic:Prop:=St.Dfn P w K mg base "is_trade_number" 4 ["train","thing"] (spD K 2 By)
abbrev ME:Prop:=St.Dfn P w K mg base "are_pieces" 3 ["train","thing"] (spD K 2 DQ)
abbrev IK:Prop:=St.Dfn P w K mg base "are_values" 4 ["thing","many"] (spD K 2 Cp)
abbrev MM:Prop:=St.Dfn P w K mg base "are_worths" 5 ["train","thing"] (spD K 2 DM)
abbrev Ji:Prop:=St.Dfn P w K mg base "is_sold_share" 5 ["train","thing"] (spD K 2 Bu)
abbrev LM:Prop:=St.Dfn P w K mg base "is_part" 6 ["train","part","thing"] (spD K 3 A5)
abbrev Lb:Prop:=St.Dfn P w K mg base "is_load" 6 ["train","thing"] (spD K 2 Df)
abbrev LI:Prop:=St.Dfn P w K mg base "is_deed" 7 ["train","thing"] (spD K 2 An)
abbrev Iq:Prop:=St.Dfn P w K mg base "are_first" 7 ["train","thing"] (spD K 2 DA)
abbrev JK:Prop:=St.Dfn P w K mg base "are_deeds" 8 ["train","thing"] (spD K 2 Cd)
abbrev Lg:Prop:=St.Dfn P w K mg base "is_book" 9 ["thing"] (spD K 1 C5)
abbrev Ir:Prop:=St.Dfn P w K mg base "_law_cell_at" 1 ["_law_script","_law_k"] (spD K 2 CZ)
abbrev OO:Prop:=St.Dfn P w K mg base "_law_pen" 1 ["_law_cell"] (spD K 1 GP)
abbrev CO:Prop:=St.Dfn P w K mg base "_law_draw" 1 ["_law_pen_here","_law_bound"] (spD K 2 AI)
abbrev HC:Prop:=St.Dfn P w K mg base "_law_common" 1 ["_law_one","_law_other"] (spD K 2 Ej)
abbrev EO:Prop:=St.Dfn P w K mg base "_law_made" 2 ["_law_top","_law_bottom"] (spD K 2 Bv)
abbrev FC:Prop:=St.Dfn P w K mg base "_law_plus" 3 ["_law_one","_law_other"] (spD K 2 BX)
abbrev Ge:Prop:=St.Dfn P w K mg base "_law_times" 3 ["_law_one","_law_other"] (spD K 2 A7)
abbrev Je:Prop:=St.Dfn P w K mg base "_law_less" 4 ["_law_one","_law_other"] (spD K 2 Dk)
abbrev Oo:Prop:=St.Dfn P w K mg base "_law_sum" 4 ["_law_some"] (spD K 1 JG)
abbrev GY:Prop:=St.Dfn P w K mg base "_law_whole" 3 ["_law_pen_here","_law_many"] (spD K 2 Ci)
abbrev HN:Prop:=St.Dfn P w K mg base "_law_pieces" 2 ["_law_pen_here"] (spD K 1 BQ)
abbrev Lu:Prop:=St.Dfn P w K mg base "_law_train" 4 ["_law_pen_here"] (spD K 1 GW)
abbrev Lz:Prop:=St.Dfn P w K mg base "_law_first" 4 ["_law_pen_here","_law_train_here"] (spD K 2 Gj)
abbrev K8:Prop:=St.Dfn P w K mg base "_law_share" 3 ["_law_pen_here"] (spD K 1 FP)
abbrev KO:Prop:=St.Dfn P w K mg base "_law_worths" 2 ["_law_pen_here","_law_many"] (spD K 2 Dp)
abbrev Ls:Prop:=St.Dfn P w K mg base "_law_begun" 1 ["_law_book_here"] (spD K 1 Gw)
abbrev KR:Prop:=St.Dfn P w K mg base "_law_pooled" 4 ["_law_one","_law_other"] (spD K 2 Fs)
abbrev Mn:Prop:=St.Dfn P w K mg base "_law_cost" 3 ["_law_train_here","_law_loads","_law_deed_here"] (spD K 3 Hn)
abbrev LG:Prop:=St.Dfn P w K mg base "_law_borne" 5 ["_law_shares","_law_part","_law_owners"] (spD K 3 EH)
abbrev Mj:Prop:=St.Dfn P w K mg base "_law_sold" 5 ["_law_shares","_law_deed_here"] (spD K 2 FD)
abbrev Mf:Prop:=St.Dfn P w K mg base "_law_turn" 6 ["_law_train_here","_law_state","_law_deed_here"] (spD K 3 FA)
abbrev QN:Prop:=St.Dfn P w K mg base "_law_do" 7 ["_law_train_here","_law_state","_law_deed_here"] (spD K 3 Bz)
abbrev Mm:Prop:=St.Dfn P w K mg base "_law_deed" 4 ["_law_pen_here","_law_train_here","_law_state"] (spD K 3 Dq)
abbrev Mq:Prop:=St.Dfn P w K mg base "_law_book" 8 ["_law_pen_here","_law_most"] (spD K 2 EG)
abbrev LB(n:Nat):Prop:=St.Dfn P w K mg base "_law_thing" (2+n) ["_law_pen_here","_law_deep"] (spD K 2 (BC n))
abbrev OP(n:Nat):Prop:=St.Dfn P w K mg base "_law_spoilt" (11+n) ["_law_pen_here","_law_thing_here"] (spD K 2 (Ba n))
abbrev GZ:Prop:=St.Dfn P w K mg base "_law_in" 1 ["_law_thing_here","_law_low","_law_high"] (spD K 3 Ad)
abbrev HP:Prop:=St.Dfn P w K mg base "_law_is_amount" 2 ["_law_thing_here"] (spD K 1 CH)
abbrev GG:Prop:=St.Dfn P w K mg base "_law_is_share" 3 ["_law_thing_here"] (spD K 1 Bs)
abbrev Eo:Prop:=St.Dfn P w K mg base "_law_are_shares" 5 ["_law_thing_here","_law_many"] (spD K 2 BP)
abbrev IB:Prop:=St.Dfn P w K mg base "_law_is_train" 6 ["_law_thing_here"] (spD K 1 CA)
abbrev JH:Prop:=St.Dfn P w K mg base "_law_is_load" 6 ["_law_train_here","_law_thing_here"] (spD K 2 Cg)
abbrev G4:Prop:=St.Dfn P w K mg base "_law_are_worths" 2 ["_law_thing_here","_law_many"] (spD K 2 Bi)
abbrev JD:Prop:=St.Dfn P w K mg base "_law_is_sale" 4 ["_law_train_here","_law_things"] (spD K 2 Dw)
abbrev JI:Prop:=St.Dfn P w K mg base "_law_is_deed" 5 ["_law_train_here","_law_thing_here"] (spD K 2 AV)
abbrev IG:Prop:=St.Dfn P w K mg base "_law_is_right" 7 ["_law_thing_here"] (spD K 1 BL)
end
structure Bts(mg:Str->Option Value):Prop where
 abs:mg "abs"=none
 all:mg "all"=none
 bool:mg "bool"=none
 enumerate:mg "enumerate"=none
 int:mg "int"=none
 isi:mg "isinstance"=none
 len:mg "len"=none
 list:mg "list"=none
 max:mg "max"=none
 min:mg "min"=none
 range:mg "range"=none
 str:mg "str"=none
 sum:mg "sum"=none
 tuple:mg "tuple"=none
 zip:mg "zip"=none
end
section
open PyProof.Rows (boot_isinstance boot_int boot_bool boot_tuple boot_str boot_list boot_abs boot_all boot_any boot_sum boot_max boot_min boot_range boot_enumerate boot_zip boot_sorted boot_set boot_divmod)
variable{P:Program}{w:World}{K:PySem.W.Frag}{mg:Str->Option Value}{base:Heap}
theorem Nd:AS ["thing"] ["thing"] (AK s_p_is_whole):=⟨rfl,rfl,rfl,by decide+kernel,rfl,by decide+kernel,by decide+kernel⟩
theorem CQ  (S:St.Src K mg "is_whole" s_p_is_whole)(B:Bts mg):HY P w K mg base:=by
 refine Aj (k:=0) S Nd rfl (fun f fd F=>F.binds fun _ _ _ _ _ _ us hl=>match us,hl with| [_],_=>rfl) fun f cdv A outer s H E hr=>?_
 have hu:=AU hr
 exact(AH (AR (Bc (AQ Az rfl B.isi boot_isinstance (AA (AB 0) (AA (Ey rfl B.int boot_int) AD))) (B7 (bQ (AQ Az rfl B.isi boot_isinstance (AA (AB 0) (AA (Ey rfl B.bool boot_bool) AD))))))))
theorem Oh:AS ["thing","low"] ["thing","low"] (AK s_p_is_from):=⟨rfl,rfl,rfl,by decide+kernel,rfl,by decide+kernel,by decide+kernel⟩
theorem A4  (S:St.Src K mg "is_from" s_p_is_from)(CQ:HY P w K mg base):EE P w K mg base:=by
 refine Aj (k:=1) S Oh rfl (fun f fd F=>F.binds fun _ _ _ _ _ _ us hl=>match us,hl with| [_,_],_=>rfl) fun f cdv A outer s H E hr=>?_
 have hu:=AU hr
 exact(AH (AR (Bc (AG CQ (hr.mono (by decide)) rfl (AA (AB 0) AD)) (B7 (CD Xq (AB 0) (AB 1))))))
theorem L9:AS ["thing","low","high"] ["thing","low","high"] (AK s_p_is_within):=⟨rfl,rfl,rfl,by decide+kernel,rfl,by decide+kernel,by decide+kernel⟩
theorem AZ  (S:St.Src K mg "is_within" s_p_is_within)(A4:EE P w K mg base):C9 P w K mg base:=by
 refine Aj (k:=2) S L9 rfl (fun f fd F=>F.binds fun _ _ _ _ _ _ us hl=>match us,hl with| [_,_,_],_=>rfl) fun f cdv A outer s H E hr=>?_
 have hu:=AU hr
 exact(AH (AR (Bc (AG A4 (hr.mono (by decide)) rfl (AA (AB 0) (AA (AB 1) AD))) (B7 (CD LA (AB 0) (AB 2))))))
theorem C2:AS ["one","other"] ["one","other"] (AK s_p_greatest_divisor):=⟨rfl,rfl,rfl,by decide+kernel,rfl,by decide+kernel,by decide+kernel⟩
theorem Ay  (S:St.Src K mg "greatest_divisor" s_p_greatest_divisor)(B:Bts mg):DH P w K mg base:=by
 refine Aj (k:=0) S C2 rfl (fun f fd F=>F.binds fun _ _ _ _ _ _ us hl=>match us,hl with| [_,_],_=>rfl) fun f cdv A outer s H E hr=>?_
 have hu:=AU hr
 exact(AF (KD (i:=0) (j:=1) rfl C2.nd rfl rfl (by decide) rfl rfl (AQ Lm rfl B.abs boot_abs (AA (AB 0) AD)) (AQ Lm rfl B.abs boot_abs (AA (AB 1) AD)))
    (AF (Qj (RF 1) PassesOwn.never (Ak (Ek hu) (AB 1) AE) (AH (KD (i:=0) (j:=1) rfl C2.nd rfl rfl (by decide) rfl rfl (AB 1) (Aa GH (AB 0) (AB 1)))))
    (AH (AR (AB 0)))))
theorem GF:AS ["thing","top","bottom"] ["thing"] (AK s_p_is_amount):=⟨rfl,rfl,rfl,by decide+kernel,rfl,by decide+kernel,by decide+kernel⟩
theorem D5  (S:St.Src K mg "is_amount" s_p_is_amount)(B:Bts mg)(CQ:HY P w K mg base)(A4:EE P w K mg base)(Ay:DH P w K mg base):Ip P w K mg base:=by
 refine Aj (k:=2) S GF rfl (fun f fd F=>F.binds fun _ _ _ _ _ _ us hl=>match us,hl with| [_],_=>rfl) fun f cdv A outer s H E hr=>?_
 have hu:=AU hr
 exact(AF (BS (DW.dt (D9 (BY (BF (AQ Az rfl B.isi boot_isinstance (AA (AB 0) (AA (Ey rfl B.tuple boot_tuple) AD))))) (EA (Ak (Ek hu) (AQ Au rfl B.len boot_len (AA (AB 0) AD)) AE)))) (AH (AR DP)) Ac)
    (AF (HQ (AB 0) (Hx rfl (AX (Ax 1 GF.nd) (AX (Ax 2 GF.nd) DJ))))
    (AH (AR (Bc (AG CQ (hr.mono (by decide)) rfl (AA (AB 1) AD)) (Bc (AG A4 (hr.mono (by decide)) rfl (AA (AB 2) (AA AE AD))) (B7 (CD (Bo hu) (AG Ay (hr.mono (by decide)) rfl (AA (AB 1) (AA (AB 2) AD))) AE))))))))
theorem Lv:AS ["top","bottom","divisor"] ["top","bottom"] (AK s_p_lowest):=⟨rfl,rfl,rfl,by decide+kernel,rfl,by decide+kernel,by decide+kernel⟩
theorem GR  (S:St.Src K mg "lowest" s_p_lowest)(Ay:DH P w K mg base):NC P w K mg base:=by
 refine Aj (k:=1) S Lv rfl (fun f fd F=>F.binds fun _ _ _ _ _ _ us hl=>match us,hl with| [_,_],_=>rfl) fun f cdv A outer s H E hr=>?_
 have hu:=AU hr
 exact(AF (BB 2 (AG Ay (hr.mono (by decide)) rfl (AA (AB 0) (AA (AB 1) AD))) Lv.nd)
    (AH (AR (Ar (AA (Aa Gk (AB 0) (AB 2)) (AA (Aa Gk (AB 1) (AB 2)) AD))))))
end
section
open PyProof.Rows (boot_isinstance boot_int boot_bool boot_tuple boot_str boot_list boot_abs boot_all boot_any boot_sum boot_max boot_min boot_range boot_enumerate boot_zip boot_sorted boot_set boot_divmod)
variable{P:Program}{w:World}{K:PySem.W.Frag}{mg:Str->Option Value}{base:Heap}
theorem UG:AS ["one","other"] ["one","other"] (AK s_p_plus):=⟨rfl,rfl,rfl,by decide+kernel,rfl,by decide+kernel,by decide+kernel⟩
theorem JQ  (S:St.Src K mg "plus" s_p_plus)(GR:NC P w K mg base):QY P w K mg base:=by
 refine Aj (k:=2) S UG rfl (fun f fd F=>F.binds fun _ _ _ _ _ _ us hl=>match us,hl with| [_,_],_=>rfl) fun f cdv A outer s H E hr=>?_
 have hu:=AU hr
 exact(AH (AR (AG GR (hr.mono (by decide)) rfl (AA (Aa Ag (Aa BZ (AN Ah (AB 0) AE) (AN Ah (AB 1) AE)) (Aa BZ (AN Ah (AB 1) AE) (AN Ah (AB 0) AE))) (AA (Aa BZ (AN Ah (AB 0) AE) (AN Ah (AB 1) AE)) AD)))))
theorem Hl:AS ["amounts","together","amount"] ["amounts"] (AK s_p_total):=⟨rfl,rfl,rfl,by decide+kernel,rfl,by decide+kernel,by decide+kernel⟩
theorem HR  (S:St.Src K mg "total" s_p_total)(c_NOTHING:MY K mg "NOTHING" HS)(JQ:QY P w K mg base):OU P w K mg base:=by
 refine Aj (k:=3) S Hl rfl (fun f fd F=>F.binds fun _ _ _ _ _ _ us hl=>match us,hl with| [_],_=>rfl) fun f cdv A outer s H E hr=>?_
 have hu:=AU hr
 exact(AF (BB 1 (JZ c_NOTHING rfl) Hl.nd)
    (AF (IA PassesOwn.never rfl (C0 (AB 0)) (Ax 2 Hl.nd) (AH (BB 1 (AG JQ (hr.mono (by decide)) rfl (AA (AB 1) (AA (AB 2) AD))) Hl.nd)))
    (AH (AR (AB 1)))))
theorem Kg:AS ["thing","many"] ["thing","many"] (AK s_p_is_tuple_of):=⟨rfl,rfl,rfl,by decide+kernel,rfl,by decide+kernel,by decide+kernel⟩
theorem Ab  (S:St.Src K mg "is_tuple_of" s_p_is_tuple_of)(B:Bts mg):CM P w K mg base:=by
 refine Aj (k:=0) S Kg rfl (fun f fd F=>F.binds fun _ _ _ _ _ _ us hl=>match us,hl with| [_,_],_=>rfl) fun f cdv A outer s H E hr=>?_
 have hu:=AU hr
 exact(AH (AR (Bc (AQ Az rfl B.isi boot_isinstance (AA (AB 0) (AA (Ey rfl B.tuple boot_tuple) AD))) (B7 (CD (Bo hu) (AQ Au rfl B.len boot_len (AA (AB 0) AD)) (AB 1))))))
theorem Nn:AS ["thing"] ["thing"] (AK s_p_is_share):=⟨rfl,rfl,rfl,by decide+kernel,rfl,by decide+kernel,by decide+kernel⟩
theorem CS  (S:St.Src K mg "is_share" s_p_is_share)(D5:Ip P w K mg base):Hd P w K mg base:=by
 refine Aj (k:=3) S Nn rfl (fun f fd F=>F.binds fun _ _ _ _ _ _ us hl=>match us,hl with| [_],_=>rfl) fun f cdv A outer s H E hr=>?_
 have hu:=AU hr
 exact(AH (AR (Bc (AG D5 (hr.mono (by decide)) rfl (AA (AB 0) AD)) (B7 (Yv AE (AN Ah (AB 0) AE) (AN Ah (AB 0) AE))))))
theorem Lw:AS ["partners","thing"] ["partners","thing"] (AK s_p_are_owners):=⟨rfl,rfl,rfl,by decide+kernel,rfl,by decide+kernel,by decide+kernel⟩
theorem Jb:Ae ["partners","thing"] (AK s_p_are_owners) ["share"] (ixC [] 1) (KC s_p_are_owners 0):=⟨rfl,by decide+kernel,by decide+kernel,by decide+kernel,by decide+kernel⟩
theorem Jy:(["share"]:List Str).Nodup:=by decide+kernel
theorem Bp  (S:St.Src K mg "are_owners" s_p_are_owners)(B:Bts mg)(c_ALL:MY K mg "ALL" R4)(HR:OU P w K mg base)(Ab:CM P w K mg base)(CS:Hd P w K mg base):GB P w K mg base:=by
 refine Aj (k:=4) S Lw rfl (fun f fd F=>F.binds fun _ _ _ _ _ _ us hl=>match us,hl with| [_,_],_=>rfl) fun f cdv A outer s H E hr=>?_
 have hu:=AU hr
 exact(AF (BS (BY (BF (AG Ab (hr.mono (by decide)) rfl (AA (AB 1) (AA (AB 0) AD))))) (AH (AR DP)) Ac)
    (AH (AR (Bc (AQ (D0 rfl) rfl B.all boot_all (AA (B0 [] 1 ["share"] rfl Jb (C0 (AB 1)) (fun s H fp=>⟨(Ax 0 Jy),CL,(AG CS (hr.mono (by decide)) rfl (AA (AB 0) AD))⟩)) AD)) (B7 (CD (Bo hu) (AG HR (hr.mono (by decide)) rfl (AA (AB 1) AD)) (JZ c_ALL rfl)))))))
theorem Cf:AS ["thing","partners","kinds","beasts","holders","hire","part"] ["thing"] (AK s_p_is_train):=⟨rfl,rfl,rfl,by decide+kernel,rfl,by decide+kernel,by decide+kernel⟩
theorem Ec  (S:St.Src K mg "is_train" s_p_is_train)(AZ:C9 P w K mg base)(Ab:CM P w K mg base)(Bp:GB P w K mg base):KH P w K mg base:=by
 refine Aj (k:=5) S Cf rfl (fun f fd F=>F.binds fun _ _ _ _ _ _ us hl=>match us,hl with| [_],_=>rfl) fun f cdv A outer s H E hr=>?_
 have hu:=AU hr
 exact(AF (BS (BY (BF (AG Ab (hr.mono (by decide)) rfl (AA (AB 0) (AA AE AD))))) (AH (AR DP)) Ac)
    (AF (HQ (AB 0) (Hx rfl (AX (Ax 1 Cf.nd) (AX (Ax 2 Cf.nd) (AX (Ax 3 Cf.nd) (AX (Ax 4 Cf.nd) (AX (Ax 5 Cf.nd) (AX (Ax 6 Cf.nd) DJ))))))))
    (AF (BS (BY (DW.dt (Gy (BF (AG AZ (hr.mono (by decide)) rfl (AA (AB 1) (AA AE (AA AE AD))))) (Gy (BF (AG AZ (hr.mono (by decide)) rfl (AA (AB 2) (AA AE (AA AE AD))))) (F4 (BF (AG AZ (hr.mono (by decide)) rfl (AA (AB 3) (AA AE (AA AE AD)))))))))) (AH (AR DP)) Ac)
    (AH (AR (Bc (AG Bp (hr.mono (by decide)) rfl (AA (AB 1) (AA (AB 4) AD))) (Bc (AG AZ (hr.mono (by decide)) rfl (AA (AB 5) (AA AE (AA AE AD)))) (B7 (AG AZ (hr.mono (by decide)) rfl (AA (AB 6) (AA AE (AA AE AD))))))))))))
end
section
open PyProof.Rows (boot_isinstance boot_int boot_bool boot_tuple boot_str boot_list boot_abs boot_all boot_any boot_sum boot_max boot_min boot_range boot_enumerate boot_zip boot_sorted boot_set boot_divmod)
variable{P:Program}{w:World}{K:PySem.W.Frag}{mg:Str->Option Value}{base:Heap}
theorem Kz:AS ["train","thing"] ["train","thing"] (AK s_p_is_partner):=⟨rfl,rfl,rfl,by decide+kernel,rfl,by decide+kernel,by decide+kernel⟩
theorem GA  (S:St.Src K mg "is_partner" s_p_is_partner)(AZ:C9 P w K mg base):L7 P w K mg base:=by
 refine Aj (k:=3) S Kz rfl (fun f fd F=>F.binds fun _ _ _ _ _ _ us hl=>match us,hl with| [_,_],_=>rfl) fun f cdv A outer s H E hr=>?_
 have hu:=AU hr
 exact(AH (AR (AG AZ (hr.mono (by decide)) rfl (AA (AB 1) (AA AE (AA (Aa Cz (AN Ah (AB 0) AE) AE) AD))))))
theorem OE:AS ["train","thing"] ["train","thing"] (AK s_p_is_kind):=⟨rfl,rfl,rfl,by decide+kernel,rfl,by decide+kernel,by decide+kernel⟩
theorem EC  (S:St.Src K mg "is_kind" s_p_is_kind)(AZ:C9 P w K mg base):LQ P w K mg base:=by
 refine Aj (k:=3) S OE rfl (fun f fd F=>F.binds fun _ _ _ _ _ _ us hl=>match us,hl with| [_,_],_=>rfl) fun f cdv A outer s H E hr=>?_
 have hu:=AU hr
 exact(AH (AR (AG AZ (hr.mono (by decide)) rfl (AA (AB 1) (AA AE (AA (Aa Cz (AN Ah (AB 0) AE) AE) AD))))))
theorem Ii:AS ["train","thing"] ["train","thing"] (AK s_p_is_load_number):=⟨rfl,rfl,rfl,by decide+kernel,rfl,by decide+kernel,by decide+kernel⟩
theorem D3  (S:St.Src K mg "is_load_number" s_p_is_load_number)(A4:EE P w K mg base):Il P w K mg base:=by
 refine Aj (k:=2) S Ii rfl (fun f fd F=>F.binds fun _ _ _ _ _ _ us hl=>match us,hl with| [_,_],_=>rfl) fun f cdv A outer s H E hr=>?_
 have hu:=AU hr
 exact(AH (AR (AG A4 (hr.mono (by decide)) rfl (AA (AB 1) (AA AE AD)))))
theorem Hw:AS ["train","thing"] ["train","thing"] (AK s_p_is_trade_number):=⟨rfl,rfl,rfl,by decide+kernel,rfl,by decide+kernel,by decide+kernel⟩
theorem Dg  (S:St.Src K mg "is_trade_number" s_p_is_trade_number)(AZ:C9 P w K mg base):Ic P w K mg base:=by
 refine Aj (k:=3) S Hw rfl (fun f fd F=>F.binds fun _ _ _ _ _ _ us hl=>match us,hl with| [_,_],_=>rfl) fun f cdv A outer s H E hr=>?_
 have hu:=AU hr
 exact(AH (AR (AG AZ (hr.mono (by decide)) rfl (AA (AB 1) (AA AE (AA AE AD))))))
theorem LH:AS ["train","thing"] ["train","thing"] (AK s_p_are_pieces):=⟨rfl,rfl,rfl,by decide+kernel,rfl,by decide+kernel,by decide+kernel⟩
theorem F9  (S:St.Src K mg "are_pieces" s_p_are_pieces)(A4:EE P w K mg base):ME P w K mg base:=by
 refine Aj (k:=2) S LH rfl (fun f fd F=>F.binds fun _ _ _ _ _ _ us hl=>match us,hl with| [_,_],_=>rfl) fun f cdv A outer s H E hr=>?_
 have hu:=AU hr
 exact(AH (AR (AG A4 (hr.mono (by decide)) rfl (AA (AB 1) (AA AE AD)))))
theorem Le:AS ["thing","many"] ["thing","many"] (AK s_p_are_values):=⟨rfl,rfl,rfl,by decide+kernel,rfl,by decide+kernel,by decide+kernel⟩
theorem Jc:Ae ["thing","many"] (AK s_p_are_values) ["value"] (ixC [] 1) (KC s_p_are_values 0):=⟨rfl,by decide+kernel,by decide+kernel,by decide+kernel,by decide+kernel⟩
theorem JY:(["value"]:List Str).Nodup:=by decide+kernel
theorem DV  (S:St.Src K mg "are_values" s_p_are_values)(B:Bts mg)(AZ:C9 P w K mg base)(Ab:CM P w K mg base):IK P w K mg base:=by
 refine Aj (k:=3) S Le rfl (fun f fd F=>F.binds fun _ _ _ _ _ _ us hl=>match us,hl with| [_,_],_=>rfl) fun f cdv A outer s H E hr=>?_
 have hu:=AU hr
 exact(AH (AR (Bc (AG Ab (hr.mono (by decide)) rfl (AA (AB 0) (AA (AB 1) AD))) (B7 (AQ (D0 rfl) rfl B.all boot_all (AA (B0 [] 1 ["value"] rfl Jc (C0 (AB 0)) (fun s H fp=>⟨(Ax 0 JY),CL,(AG AZ (hr.mono (by decide)) rfl (AA (AB 0) (AA AE (AA AE AD))))⟩)) AD))))))
end
section
open PyProof.Rows (boot_isinstance boot_int boot_bool boot_tuple boot_str boot_list boot_abs boot_all boot_any boot_sum boot_max boot_min boot_range boot_enumerate boot_zip boot_sorted boot_set boot_divmod)
variable{P:Program}{w:World}{K:PySem.W.Frag}{mg:Str->Option Value}{base:Heap}
theorem LN:AS ["train","thing"] ["train","thing"] (AK s_p_are_worths):=⟨rfl,rfl,rfl,by decide+kernel,rfl,by decide+kernel,by decide+kernel⟩
theorem F8  (S:St.Src K mg "are_worths" s_p_are_worths)(DV:IK P w K mg base):MM P w K mg base:=by
 refine Aj (k:=4) S LN rfl (fun f fd F=>F.binds fun _ _ _ _ _ _ us hl=>match us,hl with| [_,_],_=>rfl) fun f cdv A outer s H E hr=>?_
 have hu:=AU hr
 exact(AH (AR (AG DV (hr.mono (by decide)) rfl (AA (AB 1) (AA (Aa Ag (AN Ah (AB 0) AE) AE) AD)))))
theorem JL:AS ["train","thing"] ["train","thing"] (AK s_p_is_sold_share):=⟨rfl,rfl,rfl,by decide+kernel,rfl,by decide+kernel,by decide+kernel⟩
theorem EF  (S:St.Src K mg "is_sold_share" s_p_is_sold_share)(CS:Hd P w K mg base):Ji P w K mg base:=by
 refine Aj (k:=4) S JL rfl (fun f fd F=>F.binds fun _ _ _ _ _ _ us hl=>match us,hl with| [_,_],_=>rfl) fun f cdv A outer s H E hr=>?_
 have hu:=AU hr
 exact(AH (AR (Bc (AG CS (hr.mono (by decide)) rfl (AA (AB 1) AD)) (Bc (CD FY (AN Ah (AB 1) AE) AE) (B7 (CD LA (AN Ah (AB 1) AE) AE))))))
theorem J7:AS ["train","part","thing","holds"] ["train","part","thing"] (AK s_p_is_part):=⟨rfl,rfl,rfl,by decide+kernel,rfl,by decide+kernel,by decide+kernel⟩
theorem FX  (S:St.Src K mg "is_part" s_p_is_part)(T_PARTS:gF P w K mg base "PARTS" 5 2 EU):LM P w K mg base:=by
 refine Aj (k:=5) S J7 rfl (fun f fd F=>F.binds fun _ _ _ _ _ _ us hl=>match us,hl with| [_,_,_],_=>rfl) fun f cdv A outer s H E hr=>?_
 have hu:=AU hr
 exact(aV 3 1 T_PARTS (hr.mono (by decide)) (AA (AB 0) (AA (AB 2) AD)) rfl J7.nd)
theorem Fo:AS ["train","thing","kind","pieces","owners"] ["train","thing"] (AK s_p_is_load):=⟨rfl,rfl,rfl,by decide+kernel,rfl,by decide+kernel,by decide+kernel⟩
theorem Fi  (S:St.Src K mg "is_load" s_p_is_load)(A4:EE P w K mg base)(Ab:CM P w K mg base)(Bp:GB P w K mg base)(EC:LQ P w K mg base):Lb P w K mg base:=by
 refine Aj (k:=5) S Fo rfl (fun f fd F=>F.binds fun _ _ _ _ _ _ us hl=>match us,hl with| [_,_],_=>rfl) fun f cdv A outer s H E hr=>?_
 have hu:=AU hr
 exact(AF (BS (BY (BF (AG Ab (hr.mono (by decide)) rfl (AA (AB 1) (AA AE AD))))) (AH (AR DP)) Ac)
    (AF (HQ (AB 1) (Hx rfl (AX (Ax 2 Fo.nd) (AX (Ax 3 Fo.nd) (AX (Ax 4 Fo.nd) DJ)))))
    (AH (AR (Bc (AG EC (hr.mono (by decide)) rfl (AA (AB 0) (AA (AB 2) AD))) (Bc (AG A4 (hr.mono (by decide)) rfl (AA (AB 3) (AA AE AD))) (B7 (AG Bp (hr.mono (by decide)) rfl (AA (AN Ah (AB 0) AE) (AA (AB 4) AD))))))))))
theorem HA:AS ["train","thing","word","form"] ["train","thing"] (AK s_p_is_deed):=⟨rfl,rfl,rfl,by decide+kernel,rfl,by decide+kernel,by decide+kernel⟩
theorem MI:Ae ["train","thing","word","form"] (AK s_p_is_deed) ["train","thing","at","part"] (ixC [0,1] 2) (KC s_p_is_deed 0):=⟨rfl,by decide+kernel,by decide+kernel,by decide+kernel,by decide+kernel⟩
theorem IE:(["train","thing","at","part"]:List Str).Nodup:=by decide+kernel
theorem FZ  (S:St.Src K mg "is_deed" s_p_is_deed)(B:Bts mg)(c_UNLIKE:MY K mg "UNLIKE" Ft)(c_FORMS:ak K w mg "FORMS" Ca)(FX:LM P w K mg base):LI P w K mg base:=by
 refine Aj (k:=6) S HA rfl (fun f fd F=>F.binds fun _ _ _ _ _ _ us hl=>match us,hl with| [_,_],_=>rfl) fun f cdv A outer s H E hr=>?_
 have hu:=AU hr
 exact(AF (BS (DW.dt (D9 (BY (BF (AQ Az rfl B.isi boot_isinstance (AA (AB 1) (AA (Ey rfl B.tuple boot_tuple) AD))))) (EA (Ak (Bo hu) (AQ Au rfl B.len boot_len (AA (AB 1) AD)) AE)))) (AH (AR DP)) Ac)
    (AF (BB 2 (AN Ah (AB 1) AE) HA.nd)
    (AF (BS (DW.dt (D9 (BY (BF (AQ Az rfl B.isi boot_isinstance (AA (AB 2) (AA (Ey rfl B.str boot_str) AD))))) (EA (Ph c_FORMS rfl (AB 2))))) (AH (AR DP)) Ac)
    (AF (BB 3 (bX c_FORMS rfl (AB 2)) HA.nd)
    (AF (BS (Ak (Ek hu) (AQ Au rfl B.len boot_len (AA (AB 1) AD)) (Aa Ag (AQ Au rfl B.len boot_len (AA (AB 3) AD)) AE)) (AH (AR DP)) Ac)
    (AF (BS (BY (BF (AQ (D0 rfl) rfl B.all boot_all (AA (B0 [0,1] 2 ["train","thing","at","part"] rfl MI (X6 rfl B.enumerate (AB 3)) (fun s H fp=>⟨(Hx rfl (AX (Ax 2 IE) (AX (Ax 3 IE) DJ))),CL,(AG FX (hr.mono (by decide)) rfl (AA (AB 0) (AA (AB 3) (AA (AN Ah (AB 1) (Aa Ag (AB 2) AE)) AD))))⟩)) AD)))) (AH (AR DP)) Ac)
    (AH (AR (aA (CD OT (AB 2) (JZ c_UNLIKE rfl)) (B7 (CD (Ek hu) (AN Ah (AB 1) AE) (AN Ah (AB 1) AE))))))))))))
theorem MG:AS ["train","thing"] ["train","thing"] (AK s_p_are_first):=⟨rfl,rfl,rfl,by decide+kernel,rfl,by decide+kernel,by decide+kernel⟩
theorem Kh:Ae ["train","thing"] (AK s_p_are_first) ["train","load"] (ixC [0] 1) (KC s_p_are_first 0):=⟨rfl,by decide+kernel,by decide+kernel,by decide+kernel,by decide+kernel⟩
theorem Ke:(["train","load"]:List Str).Nodup:=by decide+kernel
theorem Du  (S:St.Src K mg "are_first" s_p_are_first)(B:Bts mg)(c_MOST_FIRST:MY K mg "MOST_FIRST" EY)(Fi:Lb P w K mg base):Iq P w K mg base:=by
 refine Aj (k:=6) S MG rfl (fun f fd F=>F.binds fun _ _ _ _ _ _ us hl=>match us,hl with| [_,_],_=>rfl) fun f cdv A outer s H E hr=>?_
 have hu:=AU hr
 exact(AF (BS (DW.dt (D9 (BY (BF (AQ Az rfl B.isi boot_isinstance (AA (AB 1) (AA (Ey rfl B.tuple boot_tuple) AD))))) (EA (Ak FY (AQ Au rfl B.len boot_len (AA (AB 1) AD)) (JZ c_MOST_FIRST rfl))))) (AH (AR DP)) Ac)
    (AH (AR (AQ (D0 rfl) rfl B.all boot_all (AA (B0 [0] 1 ["train","load"] rfl Kh (C0 (AB 1)) (fun s H fp=>⟨(Ax 1 Ke),CL,(Bc (AG Fi (hr.mono (by decide)) rfl (AA (AB 0) (AA (AB 1) AD))) (B7 (CD FY (AN Ah (AB 1) AE) AE)))⟩)) AD)))))
end
section
open PyProof.Rows (boot_isinstance boot_int boot_bool boot_tuple boot_str boot_list boot_abs boot_all boot_any boot_sum boot_max boot_min boot_range boot_enumerate boot_zip boot_sorted boot_set boot_divmod)
variable{P:Program}{w:World}{K:PySem.W.Frag}{mg:Str->Option Value}{base:Heap}
theorem MR:AS ["train","thing"] ["train","thing"] (AK s_p_are_deeds):=⟨rfl,rfl,rfl,by decide+kernel,rfl,by decide+kernel,by decide+kernel⟩
theorem KY:Ae ["train","thing"] (AK s_p_are_deeds) ["train","deed"] (ixC [0] 1) (KC s_p_are_deeds 0):=⟨rfl,by decide+kernel,by decide+kernel,by decide+kernel,by decide+kernel⟩
theorem KZ:(["train","deed"]:List Str).Nodup:=by decide+kernel
theorem KW:Ae ["train","thing"] (AK s_p_are_deeds) ["deed"] (ixC [] 1) (KC s_p_are_deeds 1):=⟨rfl,by decide+kernel,by decide+kernel,by decide+kernel,by decide+kernel⟩
theorem Ki:(["deed"]:List Str).Nodup:=by decide+kernel
theorem D2  (S:St.Src K mg "are_deeds" s_p_are_deeds)(B:Bts mg)(c_MOST_DEEDS:MY K mg "MOST_DEEDS" Ef)(c_MOST_THROWS:MY K mg "MOST_THROWS" Dx)(FZ:LI P w K mg base):JK P w K mg base:=by
 refine Aj (k:=7) S MR rfl (fun f fd F=>F.binds fun _ _ _ _ _ _ us hl=>match us,hl with| [_,_],_=>rfl) fun f cdv A outer s H E hr=>?_
 have hu:=AU hr
 exact(AF (BS (DW.dt (D9 (BY (BF (AQ Az rfl B.isi boot_isinstance (AA (AB 1) (AA (Ey rfl B.tuple boot_tuple) AD))))) (EA (Ak FY (AQ Au rfl B.len boot_len (AA (AB 1) AD)) (JZ c_MOST_DEEDS rfl))))) (AH (AR DP)) Ac)
    (AF (BS (BY (BF (AQ (D0 rfl) rfl B.all boot_all (AA (B0 [0] 1 ["train","deed"] rfl KY (C0 (AB 1)) (fun s H fp=>⟨(Ax 1 KZ),CL,(AG FZ (hr.mono (by decide)) rfl (AA (AB 0) (AA (AB 1) AD)))⟩)) AD)))) (AH (AR DP)) Ac)
    (AH (AR (CD LA (AQ Au rfl B.len boot_len (AA (B0 [] 1 ["deed"] rfl KW (C0 (AB 1)) (fun s H fp=>⟨(Ax 0 Ki),(J0 (Ak (Bo hu) (AN Ah (AB 0) AE) BK)),(AB 0)⟩)) AD)) (JZ c_MOST_THROWS rfl))))))
theorem Fp:AS ["thing","train","first","deeds"] ["thing"] (AK s_p_is_book):=⟨rfl,rfl,rfl,by decide+kernel,rfl,by decide+kernel,by decide+kernel⟩
theorem FN  (S:St.Src K mg "is_book" s_p_is_book)(Ab:CM P w K mg base)(Ec:KH P w K mg base)(Du:Iq P w K mg base)(D2:JK P w K mg base):Lg P w K mg base:=by
 refine Aj (k:=8) S Fp rfl (fun f fd F=>F.binds fun _ _ _ _ _ _ us hl=>match us,hl with| [_],_=>rfl) fun f cdv A outer s H E hr=>?_
 have hu:=AU hr
 exact(AF (BS (BY (BF (AG Ab (hr.mono (by decide)) rfl (AA (AB 0) (AA AE AD))))) (AH (AR DP)) Ac)
    (AF (HQ (AB 0) (Hx rfl (AX (Ax 1 Fp.nd) (AX (Ax 2 Fp.nd) (AX (Ax 3 Fp.nd) DJ)))))
    (AH (AR (Bc (AG Ec (hr.mono (by decide)) rfl (AA (AB 1) AD)) (Bc (AG Du (hr.mono (by decide)) rfl (AA (AB 1) (AA (AB 2) AD))) (B7 (AG D2 (hr.mono (by decide)) rfl (AA (AB 1) (AA (AB 3) AD))))))))))
theorem MQ:AS ["_law_script","_law_k"] ["_law_script","_law_k"] (AK s_law_cell_at):=⟨rfl,rfl,rfl,by decide+kernel,rfl,by decide+kernel,by decide+kernel⟩
theorem D6  (S:St.Src K mg "_law_cell_at" s_law_cell_at)(B:Bts mg):Ir P w K mg base:=by
 refine Aj (k:=0) S MQ rfl (fun f fd F=>F.binds fun _ _ _ _ _ _ us hl=>match us,hl with| [_,_],_=>rfl) fun f cdv A outer s H E hr=>?_
 have hu:=AU hr
 exact(AF (BS (Ak G9 (AB 1) (AQ Au rfl B.len boot_len (AA (AB 0) AD))) (AH (AR (AN Ah (AB 0) (AB 1)))) Ac)
    (AH (AR AE)))
theorem RP:AS ["_law_cell"] ["_law_cell"] (AK s_law_pen):=⟨rfl,rfl,rfl,by decide+kernel,rfl,by decide+kernel,by decide+kernel⟩
theorem HX  (S:St.Src K mg "_law_pen" s_law_pen)(B:Bts mg):OO P w K mg base:=by
 refine Aj (k:=0) S RP rfl (fun f fd F=>F.binds fun _ _ _ _ _ _ us hl=>match us,hl with| [_],_=>rfl) fun f cdv A outer s H E hr=>?_
 have hu:=AU hr
 exact(AH (AR (CN (AA (AB 0) (AA (BH Lc rfl B.int boot_int (AA (CD Xq (AB 0) (Aa Pg AE AE)) AD)) (AA AE (AA (Aa GH (AB 0) AE) AD)))))))
theorem Gg:AS ["_law_pen_here","_law_bound","_law_found","_law_stir"] ["_law_pen_here","_law_bound"] (AK s_law_draw):=⟨rfl,rfl,rfl,by decide+kernel,rfl,by decide+kernel,by decide+kernel⟩
theorem AL  (S:St.Src K mg "_law_draw" s_law_draw):CO P w K mg base:=by
 refine Aj (k:=0) S Gg rfl (fun f fd F=>F.binds fun _ _ _ _ _ _ us hl=>match us,hl with| [_,_],_=>rfl) fun f cdv A outer s H E hr=>?_
 have hu:=AU hr
 exact(AF (BS (DW.dt (Gy (Ak (Bo hu) (AN Ah (AB 0) AE) AE) (F4 (Ak FY (AN Ah (AB 0) AE) AE)))) (AF (BB 2 (Aa GH (AN Ah (AB 0) AE) (AB 1)) Gg.nd)
    (AF (Cu (Aa Gk (AN Ah (AB 0) AE) (AB 1)) (AB 0) AE)
    (AH (AR (AB 2))))) Ac)
    (AF (Cu (Aa Ag (AN Ah (AB 0) AE) AE) (AB 0) AE)
    (AF (BB 3 (Aa GH (Aa BZ (Aa Ag (AN Ah (AB 0) AE) AE) (Aa Ag AE (Aa BZ AE (AN Ah (AB 0) AE)))) AE) Gg.nd)
    (AF (BB 3 (Aa GH (Aa Ag (Aa Ag (Aa BZ (AB 3) (AB 3)) (Aa BZ AE (AN Ah (AB 0) AE))) AE) AE) Gg.nd)
    (AH (AR (Aa GH (Aa Gk (Aa GH (Aa BZ (AB 3) AE) AE) AE) (AB 1))))))))
theorem JA:AS ["_law_one","_law_other"] ["_law_one","_law_other"] (AK s_law_common):=⟨rfl,rfl,rfl,by decide+kernel,rfl,by decide+kernel,by decide+kernel⟩
theorem CY  (S:St.Src K mg "_law_common" s_law_common):HC P w K mg base:=by
 refine Aj (k:=0) S JA rfl (fun f fd F=>F.binds fun _ _ _ _ _ _ us hl=>match us,hl with| [_,_],_=>rfl) fun f cdv A outer s H E hr=>?_
 have hu:=AU hr
 exact(AF (Qj (RF 1) PassesOwn.never (Ak FY (AB 1) AE) (AH (KD (i:=0) (j:=1) rfl JA.nd rfl rfl (by decide) rfl rfl (AB 1) (Aa GH (AB 0) (AB 1)))))
    (AH (AR (AB 0))))
end
section
open PyProof.Rows (boot_isinstance boot_int boot_bool boot_tuple boot_str boot_list boot_abs boot_all boot_any boot_sum boot_max boot_min boot_range boot_enumerate boot_zip boot_sorted boot_set boot_divmod)
variable{P:Program}{w:World}{K:PySem.W.Frag}{mg:Str->Option Value}{base:Heap}
theorem K4:AS ["_law_top","_law_bottom","_law_by"] ["_law_top","_law_bottom"] (AK s_law_made):=⟨rfl,rfl,rfl,by decide+kernel,rfl,by decide+kernel,by decide+kernel⟩
theorem A1  (S:St.Src K mg "_law_made" s_law_made)(B:Bts mg)(CY:HC P w K mg base):EO P w K mg base:=by
 refine Aj (k:=1) S K4 rfl (fun f fd F=>F.binds fun _ _ _ _ _ _ us hl=>match us,hl with| [_,_],_=>rfl) fun f cdv A outer s H E hr=>?_
 have hu:=AU hr
 exact(AF (BB 2 (AG CY (hr.mono (by decide)) rfl (AA (AQ Lm rfl B.abs boot_abs (AA (AB 0) AD)) (AA (AB 1) AD))) K4.nd)
    (AH (AR (Ar (AA (Aa Gk (AB 0) (AB 2)) (AA (Aa Gk (AB 1) (AB 2)) AD))))))
theorem Pz:AS ["_law_one","_law_other"] ["_law_one","_law_other"] (AK s_law_plus):=⟨rfl,rfl,rfl,by decide+kernel,rfl,by decide+kernel,by decide+kernel⟩
theorem BG  (S:St.Src K mg "_law_plus" s_law_plus)(A1:EO P w K mg base):FC P w K mg base:=by
 refine Aj (k:=2) S Pz rfl (fun f fd F=>F.binds fun _ _ _ _ _ _ us hl=>match us,hl with| [_,_],_=>rfl) fun f cdv A outer s H E hr=>?_
 have hu:=AU hr
 exact(AH (AR (AG A1 (hr.mono (by decide)) rfl (AA (Aa Ag (Aa BZ (AN Ah (AB 0) AE) (AN Ah (AB 1) AE)) (Aa BZ (AN Ah (AB 1) AE) (AN Ah (AB 0) AE))) (AA (Aa BZ (AN Ah (AB 0) AE) (AN Ah (AB 1) AE)) AD)))))
theorem PB:AS ["_law_one","_law_other"] ["_law_one","_law_other"] (AK s_law_times):=⟨rfl,rfl,rfl,by decide+kernel,rfl,by decide+kernel,by decide+kernel⟩
theorem BM  (S:St.Src K mg "_law_times" s_law_times)(A1:EO P w K mg base):Ge P w K mg base:=by
 refine Aj (k:=2) S PB rfl (fun f fd F=>F.binds fun _ _ _ _ _ _ us hl=>match us,hl with| [_,_],_=>rfl) fun f cdv A outer s H E hr=>?_
 have hu:=AU hr
 exact(AH (AR (AG A1 (hr.mono (by decide)) rfl (AA (Aa BZ (AN Ah (AB 0) AE) (AN Ah (AB 1) AE)) (AA (Aa BZ (AN Ah (AB 0) AE) (AN Ah (AB 1) AE)) AD)))))
theorem Pc:AS ["_law_one","_law_other"] ["_law_one","_law_other"] (AK s_law_less):=⟨rfl,rfl,rfl,by decide+kernel,rfl,by decide+kernel,by decide+kernel⟩
theorem Dl  (S:St.Src K mg "_law_less" s_law_less)(BG:FC P w K mg base):Je P w K mg base:=by
 refine Aj (k:=3) S Pc rfl (fun f fd F=>F.binds fun _ _ _ _ _ _ us hl=>match us,hl with| [_,_],_=>rfl) fun f cdv A outer s H E hr=>?_
 have hu:=AU hr
 exact(AH (AR (AG BG (hr.mono (by decide)) rfl (AA (AB 0) (AA (Ar (AA (Aa Cz AE (AN Ah (AB 1) AE)) (AA (AN Ah (AB 1) AE) AD))) AD)))))
theorem Hr:AS ["_law_some","_law_found","_law_one"] ["_law_some"] (AK s_law_sum):=⟨rfl,rfl,rfl,by decide+kernel,rfl,by decide+kernel,by decide+kernel⟩
theorem HZ  (S:St.Src K mg "_law_sum" s_law_sum)(BG:FC P w K mg base):Oo P w K mg base:=by
 refine Aj (k:=3) S Hr rfl (fun f fd F=>F.binds fun _ _ _ _ _ _ us hl=>match us,hl with| [_],_=>rfl) fun f cdv A outer s H E hr=>?_
 have hu:=AU hr
 exact(AF (BB 1 (Ar (AA AE (AA AE AD))) Hr.nd)
    (AF (IA PassesOwn.never rfl (C0 (AB 0)) (Ax 2 Hr.nd) (AH (BB 1 (AG BG (hr.mono (by decide)) rfl (AA (AB 1) (AA (AB 2) AD))) Hr.nd)))
    (AH (AR (AB 1)))))
theorem KN:AS ["_law_pen_here","_law_many","_law_weights"] ["_law_pen_here","_law_many"] (AK s_law_whole):=⟨rfl,rfl,rfl,by decide+kernel,rfl,by decide+kernel,by decide+kernel⟩
theorem MK:Ae ["_law_pen_here","_law_many","_law_weights"] (AK s_law_whole) ["_law_pen_here","_law_one"] (ixC [0] 1) (KC s_law_whole 0):=⟨rfl,by decide+kernel,by decide+kernel,by decide+kernel,by decide+kernel⟩
theorem MB:(["_law_pen_here","_law_one"]:List Str).Nodup:=by decide+kernel
theorem MJ:Ae ["_law_pen_here","_law_many","_law_weights"] (AK s_law_whole) ["_law_weights","_law_weight"] (ixC [2] 1) (KC s_law_whole 1):=⟨rfl,by decide+kernel,by decide+kernel,by decide+kernel,by decide+kernel⟩
theorem MN:(["_law_weights","_law_weight"]:List Str).Nodup:=by decide+kernel
theorem Bw  (S:St.Src K mg "_law_whole" s_law_whole)(B:Bts mg)(AL:CO P w K mg base)(A1:EO P w K mg base):GY P w K mg base:=by
 refine Aj (k:=2) S KN rfl (fun f fd F=>F.binds fun _ _ _ _ _ _ us hl=>match us,hl with| [_,_],_=>rfl) fun f cdv A outer s H E hr=>?_
 have hu:=AU hr
 exact(AF (BB 2 (B0 [0] 1 ["_law_pen_here","_law_one"] rfl MK (Gu rfl B.range (AA (AB 1) AD)) (fun s H fp=>⟨(Ax 1 MB),CL,(AN Ah (CN (AA AE (AA AE (AA (AG AL (hr.mono (by decide)) rfl (AA (AB 0) (AA AE AD))) (AA (AG AL (hr.mono (by decide)) rfl (AA (AB 0) (AA AE AD))) AD))))) (AG AL (hr.mono (by decide)) rfl (AA (AB 0) (AA AE AD))))⟩)) KN.nd)
    (AF (BS (Ak (Bo hu) (AQ (Lq rfl) rfl B.sum boot_sum (AA (AB 2) AD)) AE) (AH (Cu AE (AB 2) (AG AL (hr.mono (by decide)) rfl (AA (AB 0) (AA (AB 1) AD))))) Ac)
    (AH (AR (BH CC rfl B.tuple boot_tuple (AA (B0 [2] 1 ["_law_weights","_law_weight"] rfl MJ (C0 (AB 2)) (fun s H fp=>⟨(Ax 1 MN),CL,(AG A1 (hr.mono (by decide)) rfl (AA (AB 1) (AA (AQ (Lq rfl) rfl B.sum boot_sum (AA (AB 0) AD)) AD)))⟩)) AD))))))
end
section
open PyProof.Rows (boot_isinstance boot_int boot_bool boot_tuple boot_str boot_list boot_abs boot_all boot_any boot_sum boot_max boot_min boot_range boot_enumerate boot_zip boot_sorted boot_set boot_divmod)
variable{P:Program}{w:World}{K:PySem.W.Frag}{mg:Str->Option Value}{base:Heap}
theorem JJ:AS ["_law_pen_here","_law_great"] ["_law_pen_here"] (AK s_law_pieces):=⟨rfl,rfl,rfl,by decide+kernel,rfl,by decide+kernel,by decide+kernel⟩
theorem Bq  (S:St.Src K mg "_law_pieces" s_law_pieces)(AL:CO P w K mg base):HN P w K mg base:=by
 refine Aj (k:=1) S JJ rfl (fun f fd F=>F.binds fun _ _ _ _ _ _ us hl=>match us,hl with| [_],_=>rfl) fun f cdv A outer s H E hr=>?_
 have hu:=AU hr
 exact(AF (BB 1 (Aa Ag (Aa Pg AE AE) (AG AL (hr.mono (by decide)) rfl (AA (AB 0) (AA AE AD)))) JJ.nd)
    (AH (AR (AN Ah (CN (AA (Aa Ag AE (AG AL (hr.mono (by decide)) rfl (AA (AB 0) (AA AE AD)))) (AA (Aa Ag AE (AG AL (hr.mono (by decide)) rfl (AA (AB 0) (AA AE AD)))) (AA (Aa Ag AE (AG AL (hr.mono (by decide)) rfl (AA (AB 0) (AA AE AD)))) (AA (AB 1) AD))))) (Aa Gk (AG AL (hr.mono (by decide)) rfl (AA (AB 0) (AA AE AD))) AE)))))
theorem HG:AS ["_law_pen_here","_law_partners","_law_kinds","_law_beasts"] ["_law_pen_here"] (AK s_law_train):=⟨rfl,rfl,rfl,by decide+kernel,rfl,by decide+kernel,by decide+kernel⟩
theorem Fb  (S:St.Src K mg "_law_train" s_law_train)(AL:CO P w K mg base)(Bw:GY P w K mg base):Lu P w K mg base:=by
 refine Aj (k:=3) S HG rfl (fun f fd F=>F.binds fun _ _ _ _ _ _ us hl=>match us,hl with| [_],_=>rfl) fun f cdv A outer s H E hr=>?_
 have hu:=AU hr
 exact(AF (KD (i:=1) (j:=2) rfl HG.nd rfl rfl (by decide) rfl rfl (Aa Ag AE (AG AL (hr.mono (by decide)) rfl (AA (AB 0) (AA AE AD)))) (Aa Ag AE (AG AL (hr.mono (by decide)) rfl (AA (AB 0) (AA AE AD)))))
    (AF (BB 3 (AN Ah (CN (AA (Aa Ag AE (AG AL (hr.mono (by decide)) rfl (AA (AB 0) (AA AE AD)))) (AA (Aa Ag AE (AG AL (hr.mono (by decide)) rfl (AA (AB 0) (AA AE AD)))) AD))) (AG AL (hr.mono (by decide)) rfl (AA (AB 0) (AA AE AD)))) HG.nd)
    (AH (AR (Ar (AA (AB 1) (AA (AB 2) (AA (AB 3) (AA (AG Bw (hr.mono (by decide)) rfl (AA (AB 0) (AA (AB 1) AD))) (AA (AG AL (hr.mono (by decide)) rfl (AA (AB 0) (AA AE AD))) (AA (AG AL (hr.mono (by decide)) rfl (AA (AB 0) (AA AE AD))) AD)))))))))))
theorem HL:AS ["_law_pen_here","_law_train_here","_law_found","_law_k"] ["_law_pen_here","_law_train_here"] (AK s_law_first):=⟨rfl,rfl,rfl,by decide+kernel,rfl,by decide+kernel,by decide+kernel⟩
theorem Fj  (S:St.Src K mg "_law_first" s_law_first)(B:Bts mg)(AL:CO P w K mg base)(Bw:GY P w K mg base)(Bq:HN P w K mg base):Lz P w K mg base:=by
 refine Aj (k:=3) S HL rfl (fun f fd F=>F.binds fun _ _ _ _ _ _ us hl=>match us,hl with| [_,_],_=>rfl) fun f cdv A outer s H E hr=>?_
 have hu:=AU hr
 exact(AF (BB 2 (CN AD) HL.nd)
    (AF (IA PassesOwn.never rfl (Gu rfl B.range (AA (AN Ah (CN (AA AE (AA AE (AA (AG AL (hr.mono (by decide)) rfl (AA (AB 0) (AA AE AD))) AD)))) (AG AL (hr.mono (by decide)) rfl (AA (AB 0) (AA AE AD)))) AD)) (Ax 3 HL.nd) (AH (F6 (KG PySem.F.slot_list_append PySem.F.type_list_append IP (AB 2) (AA (Ar (AA (AG AL (hr.mono (by decide)) rfl (AA (AB 0) (AA (AN Ah (AB 1) AE) AD))) (AA (AG Bq (hr.mono (by decide)) rfl (AA (AB 0) AD)) (AA (AG Bw (hr.mono (by decide)) rfl (AA (AB 0) (AA (AN Ah (AB 1) AE) AD))) AD)))) AD)))))
    (AH (AR (BH CC rfl B.tuple boot_tuple (AA (AB 2) AD))))))
theorem KP:AS ["_law_pen_here","_law_bottom"] ["_law_pen_here"] (AK s_law_share):=⟨rfl,rfl,rfl,by decide+kernel,rfl,by decide+kernel,by decide+kernel⟩
theorem FU  (S:St.Src K mg "_law_share" s_law_share)(AL:CO P w K mg base)(A1:EO P w K mg base):K8 P w K mg base:=by
 refine Aj (k:=2) S KP rfl (fun f fd F=>F.binds fun _ _ _ _ _ _ us hl=>match us,hl with| [_],_=>rfl) fun f cdv A outer s H E hr=>?_
 have hu:=AU hr
 exact(AF (BB 1 (Aa Ag AE (AG AL (hr.mono (by decide)) rfl (AA (AB 0) (AA AE AD)))) KP.nd)
    (AH (AR (AG A1 (hr.mono (by decide)) rfl (AA (Aa Ag AE (AG AL (hr.mono (by decide)) rfl (AA (AB 0) (AA (AB 1) AD)))) (AA (AB 1) AD))))))
theorem N2:AS ["_law_pen_here","_law_many"] ["_law_pen_here","_law_many"] (AK s_law_worths):=⟨rfl,rfl,rfl,by decide+kernel,rfl,by decide+kernel,by decide+kernel⟩
theorem LL:Ae ["_law_pen_here","_law_many"] (AK s_law_worths) ["_law_pen_here","_law_one"] (ixC [0] 1) (KC s_law_worths 0):=⟨rfl,by decide+kernel,by decide+kernel,by decide+kernel,by decide+kernel⟩
theorem LP:(["_law_pen_here","_law_one"]:List Str).Nodup:=by decide+kernel
theorem Eh  (S:St.Src K mg "_law_worths" s_law_worths)(B:Bts mg)(AL:CO P w K mg base):KO P w K mg base:=by
 refine Aj (k:=1) S N2 rfl (fun f fd F=>F.binds fun _ _ _ _ _ _ us hl=>match us,hl with| [_,_],_=>rfl) fun f cdv A outer s H E hr=>?_
 have hu:=AU hr
 exact(AH (AR (BH CC rfl B.tuple boot_tuple (AA (B0 [0] 1 ["_law_pen_here","_law_one"] rfl LL (Gu rfl B.range (AA (AB 1) AD)) (fun s H fp=>⟨(Ax 1 LP),CL,(Aa Ag AE (AN Ah (CN (AA (AG AL (hr.mono (by decide)) rfl (AA (AB 0) (AA AE AD))) (AA (AG AL (hr.mono (by decide)) rfl (AA (AB 0) (AA AE AD))) AD))) (AG AL (hr.mono (by decide)) rfl (AA (AB 0) (AA AE AD)))))⟩)) AD))))
theorem OQ:AS ["_law_book_here"] ["_law_book_here"] (AK s_law_begun):=⟨rfl,rfl,rfl,by decide+kernel,rfl,by decide+kernel,by decide+kernel⟩
theorem MP:Ae ["_law_book_here"] (AK s_law_begun) ["_law_load"] (ixC [] 1) (KC s_law_begun 0):=⟨rfl,by decide+kernel,by decide+kernel,by decide+kernel,by decide+kernel⟩
theorem L8:(["_law_load"]:List Str).Nodup:=by decide+kernel
theorem FQ  (S:St.Src K mg "_law_begun" s_law_begun)(B:Bts mg):Ls P w K mg base:=by
 refine Aj (k:=0) S OQ rfl (fun f fd F=>F.binds fun _ _ _ _ _ _ us hl=>match us,hl with| [_],_=>rfl) fun f cdv A outer s H E hr=>?_
 have hu:=AU hr
 exact(AH (AR (CN (AA (B0 [] 1 ["_law_load"] rfl MP (C0 (AN Ah (AB 0) AE)) (fun s H fp=>⟨(Ax 0 L8),CL,(BH FE rfl B.list boot_list (AA (AB 0) AD))⟩)) (AA (BH CC rfl B.tuple boot_tuple (AA (AN Ah (AN Ah (AB 0) AE) AE) AD)) (AA (CN AD) AD))))))
end
section
open PyProof.Rows (boot_isinstance boot_int boot_bool boot_tuple boot_str boot_list boot_abs boot_all boot_any boot_sum boot_max boot_min boot_range boot_enumerate boot_zip boot_sorted boot_set boot_divmod)
variable{P:Program}{w:World}{K:PySem.W.Frag}{mg:Str->Option Value}{base:Heap}
theorem Dz:AS ["_law_one","_law_other","_law_found","_law_mine","_law_its","_law_both"] ["_law_one","_law_other"] (AK s_law_pooled):=⟨rfl,rfl,rfl,by decide+kernel,rfl,by decide+kernel,by decide+kernel⟩
theorem El  (S:St.Src K mg "_law_pooled" s_law_pooled)(B:Bts mg)(A1:EO P w K mg base)(BG:FC P w K mg base)(BM:Ge P w K mg base):KR P w K mg base:=by
 refine Aj (k:=3) S Dz rfl (fun f fd F=>F.binds fun _ _ _ _ _ _ us hl=>match us,hl with| [_,_],_=>rfl) fun f cdv A outer s H E hr=>?_
 have hu:=AU hr
 exact(AF (BB 2 (CN AD) Dz.nd)
    (AF (IA PassesOwn.never rfl (Yi rfl B.zip (AN Ah (AB 0) AE) (AN Ah (AB 1) AE)) (Hx rfl (AX (Ax 3 Dz.nd) (AX (Ax 4 Dz.nd) DJ))) (AF (BB 5 (AG BG (hr.mono (by decide)) rfl (AA (AG BM (hr.mono (by decide)) rfl (AA (Ar (AA (AN Ah (AB 0) AE) (AA AE AD))) (AA (AB 3) AD))) (AA (AG BM (hr.mono (by decide)) rfl (AA (Ar (AA (AN Ah (AB 1) AE) (AA AE AD))) (AA (AB 4) AD))) AD))) Dz.nd)
    (AH (F6 (KG PySem.F.slot_list_append PySem.F.type_list_append IP (AB 2) (AA (AG BM (hr.mono (by decide)) rfl (AA (AB 5) (AA (AG A1 (hr.mono (by decide)) rfl (AA AE (AA (Aa Ag (AN Ah (AB 0) AE) (AN Ah (AB 1) AE)) AD))) AD))) AD))))))
    (AH (AR (BH CC rfl B.tuple boot_tuple (AA (AB 2) AD))))))
theorem IL:AS ["_law_train_here","_law_loads","_law_deed_here","_law_worths_here","_law_whole_here"] ["_law_train_here","_law_loads","_law_deed_here"] (AK s_law_cost):=⟨rfl,rfl,rfl,by decide+kernel,rfl,by decide+kernel,by decide+kernel⟩
theorem NH:Ae ["_law_train_here","_law_loads","_law_deed_here","_law_worths_here","_law_whole_here"] (AK s_law_cost) ["_law_worths_here","_law_kind","_law_pieces_here","_law_owners"] (ixC [3] 3) (KC s_law_cost 0):=⟨rfl,by decide+kernel,by decide+kernel,by decide+kernel,by decide+kernel⟩
theorem Ga:(["_law_worths_here","_law_kind","_law_pieces_here","_law_owners"]:List Str).Nodup:=by decide+kernel
theorem GO  (S:St.Src K mg "_law_cost" s_law_cost)(B:Bts mg)(A1:EO P w K mg base):Mn P w K mg base:=by
 refine Aj (k:=2) S IL rfl (fun f fd F=>F.binds fun _ _ _ _ _ _ us hl=>match us,hl with| [_,_,_],_=>rfl) fun f cdv A outer s H E hr=>?_
 have hu:=AU hr
 exact(AF (BB 3 (AN Ah (AB 2) AE) IL.nd)
    (AF (BB 4 (Aa Ag (AQ (Lq rfl) rfl B.sum boot_sum (AA (B0 [3] 3 ["_law_worths_here","_law_kind","_law_pieces_here","_law_owners"] rfl NH (C0 (AB 1)) (fun s H fp=>⟨(Hx rfl (AX (Ax 1 Ga) (AX (Ax 2 Ga) (AX (Ax 3 Ga) DJ)))),CL,(Aa BZ (AB 2) (AN Ah (AB 0) (AB 1)))⟩)) AD)) (Aa BZ (AN Ah (AB 0) AE) (AN Ah (AB 3) (Rc Js AE)))) IL.nd)
    (AH (AR (AG A1 (hr.mono (by decide)) rfl (AA (Aa BZ (AN Ah (AB 2) AE) (AN Ah (AB 3) (AN Ah (AN Ah (AB 1) (AN Ah (AB 2) AE)) AE))) (AA (AB 4) AD)))))))
theorem Fz:AS ["_law_shares","_law_part","_law_owners","_law_found","_law_mine","_law_its"] ["_law_shares","_law_part","_law_owners"] (AK s_law_borne):=⟨rfl,rfl,rfl,by decide+kernel,rfl,by decide+kernel,by decide+kernel⟩
theorem EB  (S:St.Src K mg "_law_borne" s_law_borne)(B:Bts mg)(BG:FC P w K mg base)(BM:Ge P w K mg base)(Dl:Je P w K mg base):LG P w K mg base:=by
 refine Aj (k:=4) S Fz rfl (fun f fd F=>F.binds fun _ _ _ _ _ _ us hl=>match us,hl with| [_,_,_],_=>rfl) fun f cdv A outer s H E hr=>?_
 have hu:=AU hr
 exact(AF (BB 3 (CN AD) Fz.nd)
    (AF (IA PassesOwn.never rfl (Yi rfl B.zip (AB 0) (AB 2)) (Hx rfl (AX (Ax 4 Fz.nd) (AX (Ax 5 Fz.nd) DJ))) (AH (F6 (KG PySem.F.slot_list_append PySem.F.type_list_append IP (AB 3) (AA (AG BG (hr.mono (by decide)) rfl (AA (AG BM (hr.mono (by decide)) rfl (AA (AB 4) (AA (AG Dl (hr.mono (by decide)) rfl (AA (Ar (AA AE (AA AE AD))) (AA (AB 1) AD))) AD))) (AA (AG BM (hr.mono (by decide)) rfl (AA (AB 5) (AA (AB 1) AD))) AD))) AD)))))
    (AH (AR (BH CC rfl B.tuple boot_tuple (AA (AB 3) AD))))))
theorem Ib:AS ["_law_shares","_law_deed_here","_law_found","_law_passes"] ["_law_shares","_law_deed_here"] (AK s_law_sold):=⟨rfl,rfl,rfl,by decide+kernel,rfl,by decide+kernel,by decide+kernel⟩
theorem FG  (S:St.Src K mg "_law_sold" s_law_sold)(B:Bts mg)(BG:FC P w K mg base)(BM:Ge P w K mg base)(Dl:Je P w K mg base):Mj P w K mg base:=by
 refine Aj (k:=4) S Ib rfl (fun f fd F=>F.binds fun _ _ _ _ _ _ us hl=>match us,hl with| [_,_],_=>rfl) fun f cdv A outer s H E hr=>?_
 have hu:=AU hr
 exact(AF (BB 2 (BH FE rfl B.list boot_list (AA (AB 0) AD)) Ib.nd)
    (AF (BB 3 (AG BM (hr.mono (by decide)) rfl (AA (AN Ah (AB 2) (AN Ah (AB 1) AE)) (AA (AN Ah (AB 1) AE) AD))) Ib.nd)
    (AF (Cu (AG Dl (hr.mono (by decide)) rfl (AA (AN Ah (AB 2) (AN Ah (AB 1) AE)) (AA (AB 3) AD))) (AB 2) (AN Ah (AB 1) AE))
    (AF (Cu (AG BG (hr.mono (by decide)) rfl (AA (AN Ah (AB 2) (AN Ah (AB 1) AE)) (AA (AB 3) AD))) (AB 2) (AN Ah (AB 1) AE))
    (AH (AR (BH CC rfl B.tuple boot_tuple (AA (AB 2) AD))))))))
theorem Dh:AS ["_law_train_here","_law_state","_law_deed_here","_law_loads","_law_holders","_law_numbers","_law_part","_law_owners","_law_load"] ["_law_train_here","_law_state","_law_deed_here"] (AK s_law_turn):=⟨rfl,rfl,rfl,by decide+kernel,rfl,by decide+kernel,by decide+kernel⟩
theorem GU  (S:St.Src K mg "_law_turn" s_law_turn)(GO:Mn P w K mg base)(EB:LG P w K mg base)(FG:Mj P w K mg base):Mf P w K mg base:=by
 refine Aj (k:=5) S Dh rfl (fun f fd F=>F.binds fun _ _ _ _ _ _ us hl=>match us,hl with| [_,_,_],_=>rfl) fun f cdv A outer s H E hr=>?_
 have hu:=AU hr
 exact(AF (HQ (AB 1) (Hx rfl (AX (Ax 3 Dh.nd) (AX (Ax 4 Dh.nd) (AX (Ax 5 Dh.nd) DJ)))))
    (AH (BS (Ak (Bo hu) (AN Ah (AB 2) AE) BK) (AF (KD (i:=6) (j:=7) rfl Dh.nd rfl rfl (by decide) rfl rfl (AG GO (hr.mono (by decide)) rfl (AA (AB 0) (AA (AB 3) (AA (AB 2) AD)))) (AN Ah (AN Ah (AB 3) (AN Ah (AB 2) AE)) AE))
    (AF (Cu (Aa Cz (AN Ah (AN Ah (AB 3) (AN Ah (AB 2) AE)) AE) (AN Ah (AB 2) AE)) (AN Ah (AB 3) (AN Ah (AB 2) AE)) AE)
    (AF (IA PassesOwn.never rfl (C0 (AB 3)) (Ax 8 Dh.nd) (AH (Cu (AG EB (hr.mono (by decide)) rfl (AA (AN Ah (AB 8) AE) (AA (AB 6) (AA (AB 7) AD)))) (AB 8) AE)))
    (AH (Cu (AG EB (hr.mono (by decide)) rfl (AA (AB 4) (AA (AB 6) (AA (AB 7) AD)))) (AB 1) AE))))) (AF (IA PassesOwn.never rfl (C0 (AB 3)) (Ax 8 Dh.nd) (AH (Cu (AG FG (hr.mono (by decide)) rfl (AA (AN Ah (AB 8) AE) (AA (AB 2) AD))) (AB 8) AE)))
    (AH (Cu (AG FG (hr.mono (by decide)) rfl (AA (AB 4) (AA (AB 2) AD))) (AB 1) AE))))))
theorem DO:AS ["_law_train_here","_law_state","_law_deed_here","_law_loads","_law_holders","_law_numbers","_law_word","_law_one","_law_other","_law_load","_law_given","_law_kind","_law_got"] ["_law_train_here","_law_state","_law_deed_here"] (AK s_law_do):=⟨rfl,rfl,rfl,by decide+kernel,rfl,by decide+kernel,by decide+kernel⟩
theorem P8:Ae ["_law_train_here","_law_state","_law_deed_here","_law_loads","_law_holders","_law_numbers","_law_word","_law_one","_law_other","_law_load","_law_given","_law_kind","_law_got"] (AK s_law_do) ["_law_deed_here","_law_one"] (ixC [2] 1) (KC s_law_do 0):=⟨rfl,by decide+kernel,by decide+kernel,by decide+kernel,by decide+kernel⟩
theorem Pl:(["_law_deed_here","_law_one"]:List Str).Nodup:=by decide+kernel
theorem JF  (S:St.Src K mg "_law_do" s_law_do)(B:Bts mg)(El:KR P w K mg base)(GU:Mf P w K mg base):QN P w K mg base:=by
 refine Aj (k:=6) S DO rfl (fun f fd F=>F.binds fun _ _ _ _ _ _ us hl=>match us,hl with| [_,_,_],_=>rfl) fun f cdv A outer s H E hr=>?_
 have hu:=AU hr
 exact(AF (HQ (AB 1) (Hx rfl (AX (Ax 3 DO.nd) (AX (Ax 4 DO.nd) (AX (Ax 5 DO.nd) DJ)))))
    (AF (BB 6 (AN Ah (AB 2) AE) DO.nd)
    (AH (BS (Ak (Bo hu) (AB 6) BK) (AH (F6 (KG PySem.F.slot_list_append PySem.F.type_list_append IP (AB 3) (AA (CN (AA (AN Ah (AB 2) AE) (AA (AN Ah (AB 2) AE) (AA (BH CC rfl B.tuple boot_tuple (AA (B0 [2] 1 ["_law_deed_here","_law_one"] rfl P8 (Gu rfl B.range (AA (AN Ah (AB 0) AE) AD)) (fun s H fp=>⟨(Ax 1 Pl),CL,(Ar (AA (BH Lc rfl B.int boot_int (AA (CD (Bo hu) (AB 1) (AN Ah (AB 0) AE)) AD)) (AA AE AD)))⟩)) AD)) AD)))) AD)))) (AH (BS (Ak (Bo hu) (AB 6) BK) (AF (KD (i:=7) (j:=8) rfl DO.nd rfl rfl (by decide) rfl rfl (AN Ah (AB 3) (AN Ah (AB 2) AE)) (AN Ah (AB 3) (AN Ah (AB 2) AE)))
    (AF (F6 (KG PySem.F.slot_list_append PySem.F.type_list_append IP (AB 3) (AA (CN (AA (AN Ah (AB 7) AE) (AA (Aa Ag (AN Ah (AB 7) AE) (AN Ah (AB 8) AE)) (AA (AG El (hr.mono (by decide)) rfl (AA (AB 7) (AA (AB 8) AD))) AD)))) AD)))
    (AF (Cu AE (AB 7) AE)
    (AH (Cu AE (AB 8) AE))))) (AH (BS (Ak YY (AB 6) (Ar (AA BK (AA BK AD)))) (AF (HQ (LX (AB 2) (Rc Js AE)) (Hx rfl (AX (Ax 9 DO.nd) (AX (Ax 10 DO.nd) (AX (Ax 11 DO.nd) (AX (Ax 12 DO.nd) DJ))))))
    (AF (Cu (Aa Cz (AN Ah (AN Ah (AB 3) (AB 9)) AE) (AB 10)) (AN Ah (AB 3) (AB 9)) AE)
    (AF (F6 (KG PySem.F.slot_list_append PySem.F.type_list_append IP (AB 3) (AA (CN (AA (AB 11) (AA (AB 12) (AA (AN Ah (AN Ah (AB 3) (AB 9)) AE) AD)))) AD)))
    (AH (F6 (KG PySem.F.slot_list_extend PySem.F.type_list_extend Zu (AB 5) (AA (Aa BZ (Yu (AB 2) AE AE) (BH Lc rfl B.int boot_int (AA (CD (Bo hu) (AB 6) BK) AD))) AD))))))) (AH (BS (Ak (Bo hu) (AB 6) BK) (AH (Cu (Aa Cz (AN Ah (AN Ah (AB 3) (AN Ah (AB 2) AE)) AE) (AN Ah (AB 2) AE)) (AN Ah (AB 3) (AN Ah (AB 2) AE)) AE)) (AH (F6 (AG GU (hr.mono (by decide)) rfl (AA (AB 0) (AA (AB 1) (AA (AB 2) AD))))))))))))))))
end
section
open PyProof.Rows (boot_isinstance boot_int boot_bool boot_tuple boot_str boot_list boot_abs boot_all boot_any boot_sum boot_max boot_min boot_range boot_enumerate boot_zip boot_sorted boot_set boot_divmod)
variable{P:Program}{w:World}{K:PySem.W.Frag}{mg:Str->Option Value}{base:Heap}
theorem Bh:AS ["_law_pen_here","_law_train_here","_law_state","_law_loads","_law_holders","_law_numbers","_law_full","_law_way","_law_load","_law_some","_law_same","_law_kind","_law_left","_law_partner"] ["_law_pen_here","_law_train_here","_law_state"] (AK s_law_deed):=⟨rfl,rfl,rfl,by decide+kernel,rfl,by decide+kernel,by decide+kernel⟩
theorem ND:Ae ["_law_pen_here","_law_train_here","_law_state","_law_loads","_law_holders","_law_numbers","_law_full","_law_way","_law_load","_law_some","_law_same","_law_kind","_law_left","_law_partner"] (AK s_law_deed) ["_law_at","_law_load"] (ixC [] 2) (KC s_law_deed 0):=⟨rfl,by decide+kernel,by decide+kernel,by decide+kernel,by decide+kernel⟩
theorem JM:(["_law_at","_law_load"]:List Str).Nodup:=by decide+kernel
theorem NZ:Ae ["_law_pen_here","_law_train_here","_law_state","_law_loads","_law_holders","_law_numbers","_law_full","_law_way","_law_load","_law_some","_law_same","_law_kind","_law_left","_law_partner"] (AK s_law_deed) ["_law_loads","_law_load","_law_at"] (ixC [3,8] 1) (KC s_law_deed 1):=⟨rfl,by decide+kernel,by decide+kernel,by decide+kernel,by decide+kernel⟩
theorem NU:(["_law_loads","_law_load","_law_at"]:List Str).Nodup:=by decide+kernel
theorem N8:Ae ["_law_pen_here","_law_train_here","_law_state","_law_loads","_law_holders","_law_numbers","_law_full","_law_way","_law_load","_law_some","_law_same","_law_kind","_law_left","_law_partner"] (AK s_law_deed) ["_law_numbers","_law_number"] (ixC [5] 1) (KC s_law_deed 2):=⟨rfl,by decide+kernel,by decide+kernel,by decide+kernel,by decide+kernel⟩
theorem OA:(["_law_numbers","_law_number"]:List Str).Nodup:=by decide+kernel
theorem GV  (S:St.Src K mg "_law_deed" s_law_deed)(B:Bts mg)(AL:CO P w K mg base)(Bq:HN P w K mg base)(FU:K8 P w K mg base)(Eh:KO P w K mg base):Mm P w K mg base:=by
 refine Aj (k:=3) S Bh rfl (fun f fd F=>F.binds fun _ _ _ _ _ _ us hl=>match us,hl with| [_,_,_],_=>rfl) fun f cdv A outer s H E hr=>?_
 have hu:=AU hr
 exact(AF (HQ (AB 2) (Hx rfl (AX (Ax 3 Bh.nd) (AX (Ax 4 Bh.nd) (AX (Ax 5 Bh.nd) DJ)))))
    (AF (Hv [] 2 ["_law_at","_law_load"] rfl Bh.nd rfl rfl ND (X6 rfl B.enumerate (AB 3)) (fun s H fp=>⟨(Hx rfl (AX (Ax 0 JM) (AX (Ax 1 JM) DJ))),(J0 (Ak FY (AN Ah (AB 1) AE) AE)),(AB 0)⟩))
    (AF (BB 7 (AG AL (hr.mono (by decide)) rfl (AA (AB 0) (AA AE AD))) Bh.nd)
    (AF (BS (DW.dt (D9 (Ak G9 (AB 7) AE) (EA (Ak (Bo hu) (AB 6) (CN AD))))) (AH (AR (Ar (AA BK (AA (AG AL (hr.mono (by decide)) rfl (AA (AB 0) (AA (AN Ah (AB 1) AE) AD))) (AA (AG AL (hr.mono (by decide)) rfl (AA (AB 0) (AA (AN Ah (AB 1) AE) AD))) (AA (AG Bq (hr.mono (by decide)) rfl (AA (AB 0) AD)) AD))))))) Ac)
    (AF (BB 8 (AN Ah (AB 6) (AG AL (hr.mono (by decide)) rfl (AA (AB 0) (AA (AQ Au rfl B.len boot_len (AA (AB 6) AD)) AD)))) Bh.nd)
    (AF (BB 9 (Aa Ag AE (AG AL (hr.mono (by decide)) rfl (AA (AB 0) (AA (AQ (OL rfl) rfl B.min boot_min (AA (AN Ah (AN Ah (AB 3) (AB 8)) AE) (AA AE AD))) AD)))) Bh.nd)
    (AF (BS (Ak G9 (AB 7) AE) (AF (Hv [3,8] 1 ["_law_loads","_law_load","_law_at"] rfl Bh.nd rfl rfl NZ (C0 (AB 6)) (fun s H fp=>⟨(Ax 2 NU),(J0 (DW.dt (Gy (Ak (Ek hu) (AB 2) (AB 1)) (F4 (Ak (Bo hu) (AN Ah (AN Ah (AB 0) (AB 2)) AE) (AN Ah (AN Ah (AB 0) (AB 1)) AE)))))),(AB 2)⟩))
    (AH (BS (Ak (Ek hu) (AB 10) (CN AD)) (AH (AR (Ar (AA BK (AA (AB 8) (AA (AN Ah (AB 10) (AG AL (hr.mono (by decide)) rfl (AA (AB 0) (AA (AQ Au rfl B.len boot_len (AA (AB 10) AD)) AD)))) AD)))))) Ac))) Ac)
    (AF (BS (DW.dt (Gy (Ak G9 (AB 7) AE) (F4 (Ak FY (AN Ah (AB 1) AE) AE)))) (AF (BB 11 (Aa GH (Aa Ag (Aa Ag (AN Ah (AN Ah (AB 3) (AB 8)) AE) AE) (AG AL (hr.mono (by decide)) rfl (AA (AB 0) (AA (Aa Cz (AN Ah (AB 1) AE) AE) AD)))) (AN Ah (AB 1) AE)) Bh.nd)
    (AF (Hv [5] 1 ["_law_numbers","_law_number"] rfl Bh.nd rfl rfl N8 (Gu rfl B.range (AA AE AD)) (fun s H fp=>⟨(Ax 1 OA),(J0 (Ak OT (AB 1) (AB 0))),(AB 1)⟩))
    (AF (BS (DW.dt (Gy (Ak (Bo hu) (AB 7) AE) (F4 (Ak (Ek hu) (AB 12) (CN AD))))) (AH (AR (Ar (AA BK (AA (AN Ah (AB 12) (AG AL (hr.mono (by decide)) rfl (AA (AB 0) (AA (AQ Au rfl B.len boot_len (AA (AB 12) AD)) AD)))) (AA (AB 8) (AA (AB 9) (AA (AB 11) (AA (AG Bq (hr.mono (by decide)) rfl (AA (AB 0) AD)) AD))))))))) Ac)
    (AH (AR (Ar (AA BK (AA (AB 8) (AA (AB 9) (AA (AB 11) (AA (AG Bq (hr.mono (by decide)) rfl (AA (AB 0) AD)) AD))))))))))) Ac)
    (AF (BS (Ak (Bo hu) (AB 7) AE) (AH (AR (Ar (AA BK (AA (AB 8) (AA (AB 9) AD)))))) Ac)
    (AF (BS (DW.dt (Gy (Ak (Bo hu) (AB 7) AE) (F4 (Ak FY (AN Ah (AB 1) AE) AE)))) (AF (BB 13 (AG AL (hr.mono (by decide)) rfl (AA (AB 0) (AA (AN Ah (AB 1) AE) AD))) Bh.nd)
    (AH (AR (Ar (AA BK (AA (AB 13) (AA (Aa GH (Aa Ag (Aa Ag (AB 13) AE) (AG AL (hr.mono (by decide)) rfl (AA (AB 0) (AA (Aa Cz (AN Ah (AB 1) AE) AE) AD)))) (AN Ah (AB 1) AE)) (AA (AG FU (hr.mono (by decide)) rfl (AA (AB 0) AD)) AD)))))))) Ac)
    (AH (AR (Ar (AA BK (AA (AB 8) (AA (AB 9) (AA (AG Eh (hr.mono (by decide)) rfl (AA (AB 0) (AA (Aa Ag (AN Ah (AB 1) AE) AE) AD))) AD)))))))))))))))))
theorem EK:AS ["_law_pen_here","_law_most","_law_train_here","_law_first_here","_law_state","_law_deeds","_law_k","_law_deed_here"] ["_law_pen_here","_law_most"] (AK s_law_book):=⟨rfl,rfl,rfl,by decide+kernel,rfl,by decide+kernel,by decide+kernel⟩
theorem Nq:Ae ["_law_pen_here","_law_most","_law_train_here","_law_first_here","_law_state","_law_deeds","_law_k","_law_deed_here"] (AK s_law_book) ["_law_one"] (ixC [] 1) (KC s_law_book 0):=⟨rfl,by decide+kernel,by decide+kernel,by decide+kernel,by decide+kernel⟩
theorem Nj:(["_law_one"]:List Str).Nodup:=by decide+kernel
theorem GJ  (S:St.Src K mg "_law_book" s_law_book)(B:Bts mg)(AL:CO P w K mg base)(Fb:Lu P w K mg base)(Fj:Lz P w K mg base)(FQ:Ls P w K mg base)(JF:QN P w K mg base)(GV:Mm P w K mg base):Mq P w K mg base:=by
 refine Aj (k:=7) S EK rfl (fun f fd F=>F.binds fun _ _ _ _ _ _ us hl=>match us,hl with| [_,_],_=>rfl) fun f cdv A outer s H E hr=>?_
 have hu:=AU hr
 exact(AF (BB 2 (AG Fb (hr.mono (by decide)) rfl (AA (AB 0) AD)) EK.nd)
    (AF (BB 3 (AG Fj (hr.mono (by decide)) rfl (AA (AB 0) (AA (AB 2) AD))) EK.nd)
    (AF (KD (i:=4) (j:=5) rfl EK.nd rfl rfl (by decide) rfl rfl (AG FQ (hr.mono (by decide)) rfl (AA (Ar (AA (AB 2) (AA (AB 3) (AA (Ar AD) AD)))) AD)) (CN AD))
    (AF (IA PassesOwn.never rfl (Gu rfl B.range (AA (AG AL (hr.mono (by decide)) rfl (AA (AB 0) (AA (Aa Ag (AB 1) AE) AD))) AD)) (Ax 6 EK.nd) (AF (BB 7 (AG GV (hr.mono (by decide)) rfl (AA (AB 0) (AA (AB 2) (AA (AB 4) AD)))) EK.nd)
    (AH (BS (DW.dt (D9 (Ak (Ek hu) (AN Ah (AB 7) AE) BK) (EA (Ak G9 (AQ Au rfl B.len boot_len (AA (B0 [] 1 ["_law_one"] rfl Nq (C0 (AB 5)) (fun s H fp=>⟨(Ax 0 Nj),(J0 (Ak (Bo hu) (AN Ah (AB 0) AE) BK)),(AB 0)⟩)) AD)) AE)))) (AF (F6 (AG JF (hr.mono (by decide)) rfl (AA (AB 2) (AA (AB 4) (AA (AB 7) AD)))))
    (AH (F6 (KG PySem.F.slot_list_append PySem.F.type_list_append IP (AB 5) (AA (AB 7) AD))))) Ac))))
    (AH (AR (Ar (AA (AB 2) (AA (AB 3) (AA (BH CC rfl B.tuple boot_tuple (AA (AB 5) AD)) AD))))))))))
theorem Hf:AS ["_law_pen_here","_law_deep","_law_way","_law_parts"] ["_law_pen_here","_law_deep"] (AK s_law_thing):=⟨rfl,rfl,rfl,by decide+kernel,rfl,by decide+kernel,by decide+kernel⟩
theorem ML:Ae ["_law_pen_here","_law_deep","_law_way","_law_parts"] (AK s_law_thing) ["_law_pen_here","_law_deep","_law_k"] (ixC [0,1] 1) (KC s_law_thing 0):=⟨rfl,by decide+kernel,by decide+kernel,by decide+kernel,by decide+kernel⟩
theorem MF:(["_law_pen_here","_law_deep","_law_k"]:List Str).Nodup:=by decide+kernel
theorem Bj  (S:St.Src K mg "_law_thing" s_law_thing)(B:Bts mg)(AL:CO P w K mg base):∀n:Nat,n≤8->St.Dfn P w K mg base "_law_thing" (2+n) ["_law_pen_here","_law_deep"] (spD K 2 (BC n))
  |0,_=>Qe S (fun f fd F=>F.binds fun _ _ _ _ _ _ us hl=>match us,hl with| [_,_],_=>rfl)
  | n + 1, hn => by
    have Bj:=Bj S B AL n (by omega)
    refine Aj (k:=2+n) S Hf rfl (fun f fd F=>F.binds fun _ _ _ _ _ _ us hl=>match us,hl with| [_,_],_=>rfl) fun f cdv A outer s H E hr=>?_
    have hu:=AU hr
    exact(AF (BB 2 (AG AL (hr.mono (by omega)) rfl (AA (AB 0) (AA AE AD))) Hf.nd)
        (AF (BS (DW.dt (D9 (Ak G9 (AB 2) AE) (EA (Ak (Bo hu) (AB 1) AE)))) (AH (AR (AN Ah (CN (AA HI (AA DP (AA DP (AA AE (AA AE (AA (Rc Js AE) (AA AE (AA (Aa Pg AE AE) (AA BK (AA BK (AA (Ar AD) (AA (CN AD) AD))))))))))))) (AG AL (hr.mono (by omega)) rfl (AA (AB 0) (AA AE AD)))))) Ac)
        (AF (Hv [0,1] 1 ["_law_pen_here","_law_deep","_law_k"] rfl Hf.nd rfl rfl ML (Gu rfl B.range (AA (AG AL (hr.mono (by omega)) rfl (AA (AB 0) (AA AE AD))) AD)) (fun s H fp=>⟨(Ax 2 MF),CL,(AG Bj (hr.mono (by omega)) rfl (AA (AB 0) (AA (Aa Cz (AB 1) AE) AD)))⟩))
        (AF (BS (Ak (Bo hu) (AB 2) AE) (AH (AR (AB 3))) Ac)
        (AF (BS (Ak (Bo hu) (AB 2) AE) (AH (AR (Xr (Fx BK (AB 3) TL) (List.cons_ne_nil _ _) (by decide)))) Ac)
        (AH (AR (BH CC rfl B.tuple boot_tuple (AA (AB 3) AD)))))))))
theorem GX:AS ["_law_pen_here","_law_thing_here","_law_at","_law_way"] ["_law_pen_here","_law_thing_here"] (AK s_law_spoilt):=⟨rfl,rfl,rfl,by decide+kernel,rfl,by decide+kernel,by decide+kernel⟩
theorem CU  (S:St.Src K mg "_law_spoilt" s_law_spoilt)(B:Bts mg)(AL:CO P w K mg base)(Bj:LB P w K mg base 8):∀n:Nat,n≤8->St.Dfn P w K mg base "_law_spoilt" (11+n) ["_law_pen_here","_law_thing_here"] (spD K 2 (Ba n))
  |0,_=>Qe S (fun f fd F=>F.binds fun _ _ _ _ _ _ us hl=>match us,hl with| [_,_],_=>rfl)
  | n + 1, hn => by
    have CU:=CU S B AL Bj n (by omega)
    refine Aj (k:=11+n) S GX rfl (fun f fd F=>F.binds fun _ _ _ _ _ _ us hl=>match us,hl with| [_,_],_=>rfl) fun f cdv A outer s H E hr=>?_
    have hu:=AU hr
    exact(AF (BS (DW.dt (Gy (BF (AQ Az rfl B.isi boot_isinstance (AA (AB 1) (AA (Ey rfl B.tuple boot_tuple) AD)))) (Gy (Ak (Ek hu) (AB 1) (Ar AD)) (F4 (Ak FY (AG AL (hr.mono (by omega)) rfl (AA (AB 0) (AA AE AD))) AE))))) (AF (BB 2 (AG AL (hr.mono (by omega)) rfl (AA (AB 0) (AA (AQ Au rfl B.len boot_len (AA (AB 1) AD)) AD))) GX.nd)
        (AH (AR (Aa Ag (Aa Ag (NT (AB 1) (AB 2)) (Ar (AA (AG CU (hr.mono (by omega)) rfl (AA (AB 0) (AA (AN Ah (AB 1) (AB 2)) AD))) AD))) (LX (AB 1) (Aa Ag (AB 2) AE)))))) Ac)
        (AF (BB 3 (AG AL (hr.mono (by omega)) rfl (AA (AB 0) (AA AE AD))) GX.nd)
        (AF (BS (DW.dt (Gy (BF (AQ Az rfl B.isi boot_isinstance (AA (AB 1) (AA (Ey rfl B.tuple boot_tuple) AD)))) (F4 (Ak G9 (AB 3) AE)))) (AH (AR (AN Ah (CN (AA (Aa Ag (AB 1) (LX (AB 1) (Rc Js AE))) (AA (NT (AB 1) (Rc Js AE)) (AA (BH FE rfl B.list boot_list (AA (AB 1) AD)) (AA (cC (AB 1)) AD))))) (AB 3)))) Ac)
        (AF (BS (DW.dt (Gy (BF (AQ Az rfl B.isi boot_isinstance (AA (AB 1) (AA (Ey rfl B.int boot_int) AD)))) (F4 (Ak G9 (AB 3) AE)))) (AH (AR (AN Ah (CN (AA (Aa Ag (AB 1) AE) (AA (Aa Cz (AB 1) AE) (AA (CD FY (AB 1) AE) (AA (BH Rz rfl B.str boot_str (AA (AB 1) AD)) AD))))) (AB 3)))) Ac)
        (AF (BS (DW.dt (Gy (BF (AQ Az rfl B.isi boot_isinstance (AA (AB 1) (AA (Ey rfl B.str boot_str) AD)))) (F4 (Ak G9 (AB 3) AE)))) (AH (AR (AN Ah (CN (AA (Aa Ag (AB 1) BK) (AA (Xc (AB 1)) (AA (NT (AB 1) (Rc Js AE)) (AA (Aa Ag BK (AB 1)) AD))))) (AB 3)))) Ac)
        (AH (AR (AG Bj (hr.mono (by omega)) rfl (AA (AB 0) (AA AE AD))))))))))
theorem UQ:AS ["_law_thing_here","_law_low","_law_high"] ["_law_thing_here","_law_low","_law_high"] (AK s_law_in):=⟨rfl,rfl,rfl,by decide+kernel,rfl,by decide+kernel,by decide+kernel⟩
theorem Al  (S:St.Src K mg "_law_in" s_law_in)(B:Bts mg):GZ P w K mg base:=by
 refine Aj (k:=0) S UQ rfl (fun f fd F=>F.binds fun _ _ _ _ _ _ us hl=>match us,hl with| [_,_,_],_=>rfl) fun f cdv A outer s H E hr=>?_
 have hu:=AU hr
 exact(AF (BS (DW.dt (D9 (BY (BF (AQ Az rfl B.isi boot_isinstance (AA (AB 0) (AA (Ey rfl B.int boot_int) AD))))) (EA (BF (AQ Az rfl B.isi boot_isinstance (AA (AB 0) (AA (Ey rfl B.bool boot_bool) AD))))))) (AH (AR DP)) Ac)
    (AH (AR (Bc (CD LA (AB 1) (AB 0)) (B7 (aA (CD Yt (AB 2) HI) (B7 (CD LA (AB 0) (AB 2)))))))))
theorem Ka:AS ["_law_thing_here"] ["_law_thing_here"] (AK s_law_is_amount):=⟨rfl,rfl,rfl,by decide+kernel,rfl,by decide+kernel,by decide+kernel⟩
theorem Cy  (S:St.Src K mg "_law_is_amount" s_law_is_amount)(B:Bts mg)(CY:HC P w K mg base)(Al:GZ P w K mg base):HP P w K mg base:=by
 refine Aj (k:=1) S Ka rfl (fun f fd F=>F.binds fun _ _ _ _ _ _ us hl=>match us,hl with| [_],_=>rfl) fun f cdv A outer s H E hr=>?_
 have hu:=AU hr
 exact(AF (BS (DW.dt (D9 (BY (BF (AQ Az rfl B.isi boot_isinstance (AA (AB 0) (AA (Ey rfl B.tuple boot_tuple) AD))))) (D9 (Ak (Ek hu) (AQ Au rfl B.len boot_len (AA (AB 0) AD)) AE) (EA (BY (BF (AG Al (hr.mono (by decide)) rfl (AA (AN Ah (AB 0) AE) (AA AE (AA HI AD)))))))))) (AH (AR DP)) Ac)
    (AH (AR (Bc (AG Al (hr.mono (by decide)) rfl (AA (AN Ah (AB 0) AE) (AA AE (AA HI AD)))) (B7 (CD (Bo hu) (AG CY (hr.mono (by decide)) rfl (AA (AN Ah (AB 0) AE) (AA (AN Ah (AB 0) AE) AD))) AE))))))
end
section
open PyProof.Rows (boot_isinstance boot_int boot_bool boot_tuple boot_str boot_list boot_abs boot_all boot_any boot_sum boot_max boot_min boot_range boot_enumerate boot_zip boot_sorted boot_set boot_divmod)
variable{P:Program}{w:World}{K:PySem.W.Frag}{mg:Str->Option Value}{base:Heap}
theorem Ll:AS ["_law_thing_here"] ["_law_thing_here"] (AK s_law_is_share):=⟨rfl,rfl,rfl,by decide+kernel,rfl,by decide+kernel,by decide+kernel⟩
theorem Bt  (S:St.Src K mg "_law_is_share" s_law_is_share)(Cy:HP P w K mg base):GG P w K mg base:=by
 refine Aj (k:=2) S Ll rfl (fun f fd F=>F.binds fun _ _ _ _ _ _ us hl=>match us,hl with| [_],_=>rfl) fun f cdv A outer s H E hr=>?_
 have hu:=AU hr
 exact(AH (AR (Bc (AG Cy (hr.mono (by decide)) rfl (AA (AB 0) AD)) (B7 (CD LA (AN Ah (AB 0) AE) (AN Ah (AB 0) AE))))))
theorem J3:AS ["_law_thing_here","_law_many"] ["_law_thing_here","_law_many"] (AK s_law_are_shares):=⟨rfl,rfl,rfl,by decide+kernel,rfl,by decide+kernel,by decide+kernel⟩
theorem IZ:Ae ["_law_thing_here","_law_many"] (AK s_law_are_shares) ["_law_one"] (ixC [] 1) (KC s_law_are_shares 0):=⟨rfl,by decide+kernel,by decide+kernel,by decide+kernel,by decide+kernel⟩
theorem IS:(["_law_one"]:List Str).Nodup:=by decide+kernel
theorem BR  (S:St.Src K mg "_law_are_shares" s_law_are_shares)(B:Bts mg)(HZ:Oo P w K mg base)(Bt:GG P w K mg base):Eo P w K mg base:=by
 refine Aj (k:=4) S J3 rfl (fun f fd F=>F.binds fun _ _ _ _ _ _ us hl=>match us,hl with| [_,_],_=>rfl) fun f cdv A outer s H E hr=>?_
 have hu:=AU hr
 exact(AF (BS (DW.dt (D9 (BY (BF (AQ Az rfl B.isi boot_isinstance (AA (AB 0) (AA (Ey rfl B.tuple boot_tuple) AD))))) (D9 (Ak (Ek hu) (AQ Au rfl B.len boot_len (AA (AB 0) AD)) (AB 1)) (EA (BY (BF (AQ (D0 rfl) rfl B.all boot_all (AA (B0 [] 1 ["_law_one"] rfl IZ (C0 (AB 0)) (fun s H fp=>⟨(Ax 0 IS),CL,(AG Bt (hr.mono (by decide)) rfl (AA (AB 0) AD))⟩)) AD)))))))) (AH (AR DP)) Ac)
    (AH (AR (CD (Bo hu) (AG HZ (hr.mono (by decide)) rfl (AA (AB 0) AD)) (Ar (AA AE (AA AE AD)))))))
theorem Lp:AS ["_law_thing_here"] ["_law_thing_here"] (AK s_law_is_train):=⟨rfl,rfl,rfl,by decide+kernel,rfl,by decide+kernel,by decide+kernel⟩
theorem DZ  (S:St.Src K mg "_law_is_train" s_law_is_train)(B:Bts mg)(Al:GZ P w K mg base)(BR:Eo P w K mg base):IB P w K mg base:=by
 refine Aj (k:=5) S Lp rfl (fun f fd F=>F.binds fun _ _ _ _ _ _ us hl=>match us,hl with| [_],_=>rfl) fun f cdv A outer s H E hr=>?_
 have hu:=AU hr
 exact(AF (BS (DW.dt (D9 (BY (BF (AQ Az rfl B.isi boot_isinstance (AA (AB 0) (AA (Ey rfl B.tuple boot_tuple) AD))))) (D9 (Ak (Ek hu) (AQ Au rfl B.len boot_len (AA (AB 0) AD)) AE) (D9 (BY (BF (AG Al (hr.mono (by decide)) rfl (AA (AN Ah (AB 0) AE) (AA AE (AA AE AD)))))) (EA (BY (BF (AG Al (hr.mono (by decide)) rfl (AA (AN Ah (AB 0) AE) (AA AE (AA AE AD))))))))))) (AH (AR DP)) Ac)
    (AF (BS (DW.dt (D9 (BY (BF (AG Al (hr.mono (by decide)) rfl (AA (AN Ah (AB 0) AE) (AA AE (AA AE AD)))))) (EA (BY (BF (AG BR (hr.mono (by decide)) rfl (AA (AN Ah (AB 0) AE) (AA (AN Ah (AB 0) AE) AD)))))))) (AH (AR DP)) Ac)
    (AH (AR (Bc (AG Al (hr.mono (by decide)) rfl (AA (AN Ah (AB 0) AE) (AA AE (AA AE AD)))) (B7 (AG Al (hr.mono (by decide)) rfl (AA (AN Ah (AB 0) AE) (AA AE (AA AE AD))))))))))
theorem MA:AS ["_law_train_here","_law_thing_here"] ["_law_train_here","_law_thing_here"] (AK s_law_is_load):=⟨rfl,rfl,rfl,by decide+kernel,rfl,by decide+kernel,by decide+kernel⟩
theorem Ds  (S:St.Src K mg "_law_is_load" s_law_is_load)(B:Bts mg)(Al:GZ P w K mg base)(BR:Eo P w K mg base):JH P w K mg base:=by
 refine Aj (k:=5) S MA rfl (fun f fd F=>F.binds fun _ _ _ _ _ _ us hl=>match us,hl with| [_,_],_=>rfl) fun f cdv A outer s H E hr=>?_
 have hu:=AU hr
 exact(AF (BS (DW.dt (D9 (BY (BF (AQ Az rfl B.isi boot_isinstance (AA (AB 1) (AA (Ey rfl B.tuple boot_tuple) AD))))) (D9 (Ak (Ek hu) (AQ Au rfl B.len boot_len (AA (AB 1) AD)) AE) (EA (BY (BF (AG Al (hr.mono (by decide)) rfl (AA (AN Ah (AB 1) AE) (AA AE (AA (Aa Cz (AN Ah (AB 0) AE) AE) AD)))))))))) (AH (AR DP)) Ac)
    (AH (AR (Bc (AG Al (hr.mono (by decide)) rfl (AA (AN Ah (AB 1) AE) (AA AE (AA HI AD)))) (B7 (AG BR (hr.mono (by decide)) rfl (AA (AN Ah (AB 1) AE) (AA (AN Ah (AB 0) AE) AD))))))))
theorem Jl:AS ["_law_thing_here","_law_many"] ["_law_thing_here","_law_many"] (AK s_law_are_worths):=⟨rfl,rfl,rfl,by decide+kernel,rfl,by decide+kernel,by decide+kernel⟩
theorem Ig:Ae ["_law_thing_here","_law_many"] (AK s_law_are_worths) ["_law_one"] (ixC [] 1) (KC s_law_are_worths 0):=⟨rfl,by decide+kernel,by decide+kernel,by decide+kernel,by decide+kernel⟩
theorem Ih:(["_law_one"]:List Str).Nodup:=by decide+kernel
theorem Co  (S:St.Src K mg "_law_are_worths" s_law_are_worths)(B:Bts mg)(Al:GZ P w K mg base):G4 P w K mg base:=by
 refine Aj (k:=1) S Jl rfl (fun f fd F=>F.binds fun _ _ _ _ _ _ us hl=>match us,hl with| [_,_],_=>rfl) fun f cdv A outer s H E hr=>?_
 have hu:=AU hr
 exact(AH (AR (Bc (AQ Az rfl B.isi boot_isinstance (AA (AB 0) (AA (Ey rfl B.tuple boot_tuple) AD))) (Bc (CD (Bo hu) (AQ Au rfl B.len boot_len (AA (AB 0) AD)) (AB 1)) (B7 (AQ (D0 rfl) rfl B.all boot_all (AA (B0 [] 1 ["_law_one"] rfl Ig (C0 (AB 0)) (fun s H fp=>⟨(Ax 0 Ih),CL,(AG Al (hr.mono (by decide)) rfl (AA (AB 0) (AA AE (AA AE AD))))⟩)) AD)))))))
theorem L6:AS ["_law_train_here","_law_things"] ["_law_train_here","_law_things"] (AK s_law_is_sale):=⟨rfl,rfl,rfl,by decide+kernel,rfl,by decide+kernel,by decide+kernel⟩
theorem D4  (S:St.Src K mg "_law_is_sale" s_law_is_sale)(Al:GZ P w K mg base)(Bt:GG P w K mg base):JD P w K mg base:=by
 refine Aj (k:=3) S L6 rfl (fun f fd F=>F.binds fun _ _ _ _ _ _ us hl=>match us,hl with| [_,_],_=>rfl) fun f cdv A outer s H E hr=>?_
 have hu:=AU hr
 exact(AF (BS (DW.dt (D9 (BY (BF (AG Al (hr.mono (by decide)) rfl (AA (AN Ah (AB 1) AE) (AA AE (AA (Aa Cz (AN Ah (AB 0) AE) AE) AD)))))) (D9 (BY (BF (AG Al (hr.mono (by decide)) rfl (AA (AN Ah (AB 1) AE) (AA AE (AA (Aa Cz (AN Ah (AB 0) AE) AE) AD)))))) (EA (Ak (Bo hu) (AN Ah (AB 1) AE) (AN Ah (AB 1) AE)))))) (AH (AR DP)) Ac)
    (AH (AR (Bc (AG Bt (hr.mono (by decide)) rfl (AA (AN Ah (AB 1) AE) AD)) (Bc (CD FY (AN Ah (AN Ah (AB 1) AE) AE) AE) (B7 (CD LA (AN Ah (AN Ah (AB 1) AE) AE) AE)))))))
end
section
open PyProof.Rows (boot_isinstance boot_int boot_bool boot_tuple boot_str boot_list boot_abs boot_all boot_any boot_sum boot_max boot_min boot_range boot_enumerate boot_zip boot_sorted boot_set boot_divmod)
variable{P:Program}{w:World}{K:PySem.W.Frag}{mg:Str->Option Value}{base:Heap}
theorem DN:AS ["_law_train_here","_law_thing_here","_law_many","_law_word","_law_things","_law_here"] ["_law_train_here","_law_thing_here"] (AK s_law_is_deed):=⟨rfl,rfl,rfl,by decide+kernel,rfl,by decide+kernel,by decide+kernel⟩
theorem Dv  (S:St.Src K mg "_law_is_deed" s_law_is_deed)(B:Bts mg)(Al:GZ P w K mg base)(Co:G4 P w K mg base)(D4:JD P w K mg base):JI P w K mg base:=by
 refine Aj (k:=4) S DN rfl (fun f fd F=>F.binds fun _ _ _ _ _ _ us hl=>match us,hl with| [_,_],_=>rfl) fun f cdv A outer s H E hr=>?_
 have hu:=AU hr
 exact(AF (BS (DW.dt (D9 (BY (BF (AQ Az rfl B.isi boot_isinstance (AA (AB 1) (AA (Ey rfl B.tuple boot_tuple) AD))))) (D9 (Ak G9 (AQ Au rfl B.len boot_len (AA (AB 1) AD)) AE) (EA (BY (BF (AQ Az rfl B.isi boot_isinstance (AA (AN Ah (AB 1) AE) (AA (Ey rfl B.str boot_str) AD))))))))) (AH (AR DP)) Ac)
    (AF (BB 2 (Xr (Fx BK AE (Fx BK AE (Fx BK AE (Fx BK AE (Fx BK AE (Fx BK AE (Fx BK AE TL))))))) (List.cons_ne_nil _ _) (by decide)) DN.nd)
    (AF (BS (Ak (Ek hu) (dI hu (AB 2) (AN Ah (AB 1) AE) AE ⟨rfl,rfl,rfl,rfl⟩) (Aa Cz (AQ Au rfl B.len boot_len (AA (AB 1) AD)) AE)) (AH (AR DP)) Ac)
    (AF (KD (i:=3) (j:=4) rfl DN.nd rfl rfl (by decide) rfl rfl (AN Ah (AB 1) AE) (LX (AB 1) AE))
    (AF (BS (Ak (Bo hu) (AB 3) BK) (AH (AR (AG D4 (hr.mono (by decide)) rfl (AA (AB 0) (AA (AB 4) AD))))) Ac)
    (AF (BS (Ak (Bo hu) (AB 3) BK) (AF (BB 5 (Bc (AG Al (hr.mono (by decide)) rfl (AA (AN Ah (AB 4) AE) (AA AE (AA (Aa Cz (AN Ah (AB 0) AE) AE) AD)))) (B7 (AG Al (hr.mono (by decide)) rfl (AA (AN Ah (AB 4) AE) (AA AE (AA (Aa Cz (AN Ah (AB 0) AE) AE) AD)))))) DN.nd)
    (AH (AR (Bc (AB 5) (B7 (AG Al (hr.mono (by decide)) rfl (AA (AN Ah (AB 4) AE) (AA AE (AA HI AD))))))))) Ac)
    (AF (BS (Ak (Bo hu) (AB 3) BK) (AF (BS (BY (BF (AG Al (hr.mono (by decide)) rfl (AA (AN Ah (AB 4) AE) (AA AE (AA AE AD)))))) (AH (AR DP)) Ac)
    (AH (BB 4 (LX (AB 4) AE) DN.nd))) Ac)
    (AF (BS (BY (BF (AG Al (hr.mono (by decide)) rfl (AA (AN Ah (AB 4) AE) (AA AE (AA HI AD)))))) (AH (AR DP)) Ac)
    (AF (BS (Ak (Bo hu) (AB 3) BK) (AH (AR (Bc (AG Al (hr.mono (by decide)) rfl (AA (AN Ah (AB 4) AE) (AA AE (AA HI AD)))) (B7 (CD (Ek hu) (AN Ah (AB 4) AE) (AN Ah (AB 4) AE)))))) Ac)
    (AF (BS (Ak YY (AB 3) (Ar (AA BK (AA BK AD)))) (AH (AR (Bc (AG Al (hr.mono (by decide)) rfl (AA (AN Ah (AB 4) AE) (AA AE (AA HI AD)))) (Bc (AG Al (hr.mono (by decide)) rfl (AA (AN Ah (AB 4) AE) (AA AE (AA (Aa Cz (AN Ah (AB 0) AE) AE) AD)))) (B7 (AG Al (hr.mono (by decide)) rfl (AA (AN Ah (AB 4) AE) (AA AE (AA HI AD))))))))) Ac)
    (AH (AR (Bc (AG Al (hr.mono (by decide)) rfl (AA (AN Ah (AB 4) AE) (AA AE (AA HI AD)))) (B7 (aA (CD (Bo hu) (AB 3) BK) (B7 (AG Co (hr.mono (by decide)) rfl (AA (AN Ah (AB 4) AE) (AA (Aa Ag (AN Ah (AB 0) AE) AE) AD)))))))))))))))))))
theorem D1:AS ["_law_thing_here","_law_train_here","_law_first_here","_law_deeds"] ["_law_thing_here"] (AK s_law_is_right):=⟨rfl,rfl,rfl,by decide+kernel,rfl,by decide+kernel,by decide+kernel⟩
theorem Jd:Ae ["_law_thing_here","_law_train_here","_law_first_here","_law_deeds"] (AK s_law_is_right) ["_law_train_here","_law_one"] (ixC [1] 1) (KC s_law_is_right 0):=⟨rfl,by decide+kernel,by decide+kernel,by decide+kernel,by decide+kernel⟩
theorem Jj:(["_law_train_here","_law_one"]:List Str).Nodup:=by decide+kernel
theorem Jh:Ae ["_law_thing_here","_law_train_here","_law_first_here","_law_deeds"] (AK s_law_is_right) ["_law_train_here","_law_one"] (ixC [1] 1) (KC s_law_is_right 1):=⟨rfl,by decide+kernel,by decide+kernel,by decide+kernel,by decide+kernel⟩
theorem Jx:(["_law_train_here","_law_one"]:List Str).Nodup:=by decide+kernel
theorem JX:Ae ["_law_thing_here","_law_train_here","_law_first_here","_law_deeds"] (AK s_law_is_right) ["_law_one"] (ixC [] 1) (KC s_law_is_right 2):=⟨rfl,by decide+kernel,by decide+kernel,by decide+kernel,by decide+kernel⟩
theorem Jz:(["_law_one"]:List Str).Nodup:=by decide+kernel
theorem DU  (S:St.Src K mg "_law_is_right" s_law_is_right)(B:Bts mg)(DZ:IB P w K mg base)(Ds:JH P w K mg base)(Dv:JI P w K mg base):IG P w K mg base:=by
 refine Aj (k:=6) S D1 rfl (fun f fd F=>F.binds fun _ _ _ _ _ _ us hl=>match us,hl with| [_],_=>rfl) fun f cdv A outer s H E hr=>?_
 have hu:=AU hr
 exact(AF (BS (DW.dt (D9 (BY (BF (AQ Az rfl B.isi boot_isinstance (AA (AB 0) (AA (Ey rfl B.tuple boot_tuple) AD))))) (D9 (Ak (Ek hu) (AQ Au rfl B.len boot_len (AA (AB 0) AD)) AE) (EA (BY (BF (AG DZ (hr.mono (by decide)) rfl (AA (AN Ah (AB 0) AE) AD)))))))) (AH (AR DP)) Ac)
    (AF (HQ (AB 0) (Hx rfl (AX (Ax 1 D1.nd) (AX (Ax 2 D1.nd) (AX (Ax 3 D1.nd) DJ)))))
    (AF (BS (DW.dt (D9 (BY (BF (AQ Az rfl B.isi boot_isinstance (AA (AB 2) (AA (Ey rfl B.tuple boot_tuple) AD))))) (D9 (BY (BF (AQ Az rfl B.isi boot_isinstance (AA (AB 3) (AA (Ey rfl B.tuple boot_tuple) AD))))) (D9 (Ak FY (AQ Au rfl B.len boot_len (AA (AB 2) AD)) AE) (EA (Ak FY (AQ Au rfl B.len boot_len (AA (AB 3) AD)) AE)))))) (AH (AR DP)) Ac)
    (AF (BS (BY (BF (AQ (D0 rfl) rfl B.all boot_all (AA (B0 [1] 1 ["_law_train_here","_law_one"] rfl Jd (C0 (AB 2)) (fun s H fp=>⟨(Ax 1 Jj),CL,(Bc (AG Ds (hr.mono (by decide)) rfl (AA (AB 0) (AA (AB 1) AD))) (B7 (CD FY (AN Ah (AB 1) AE) AE)))⟩)) AD)))) (AH (AR DP)) Ac)
    (AF (BS (BY (BF (AQ (D0 rfl) rfl B.all boot_all (AA (B0 [1] 1 ["_law_train_here","_law_one"] rfl Jh (C0 (AB 3)) (fun s H fp=>⟨(Ax 1 Jx),CL,(AG Dv (hr.mono (by decide)) rfl (AA (AB 0) (AA (AB 1) AD)))⟩)) AD)))) (AH (AR DP)) Ac)
    (AH (AR (CD G9 (AQ Au rfl B.len boot_len (AA (B0 [] 1 ["_law_one"] rfl JX (C0 (AB 3)) (fun s H fp=>⟨(Ax 0 Jz),(J0 (Ak (Bo hu) (AN Ah (AB 0) AE) BK)),(AB 0)⟩)) AD)) AE))))))))
theorem CG:AS ["_law_script","_law_k","_law_pen_here","_law_book_here","_law_train_here","_law_first_here","_law_deeds","_law_bring","_law_throw","_law_load","_law_things","_law_thing_here"] ["_law_script"] (AK s_p_law):=⟨rfl,rfl,rfl,by decide+kernel,rfl,by decide+kernel,by decide+kernel⟩
theorem RI:Ae ["_law_script","_law_k","_law_pen_here","_law_book_here","_law_train_here","_law_first_here","_law_deeds","_law_bring","_law_throw","_law_load","_law_things","_law_thing_here"] (AK s_p_law) ["_law_train_here","_law_load","_law_many"] (ixC [4,9] 1) (KC s_p_law 0):=⟨rfl,by decide+kernel,by decide+kernel,by decide+kernel,by decide+kernel⟩
theorem RO:(["_law_train_here","_law_load","_law_many"]:List Str).Nodup:=by decide+kernel
theorem RV:Ae ["_law_script","_law_k","_law_pen_here","_law_book_here","_law_train_here","_law_first_here","_law_deeds","_law_bring","_law_throw","_law_load","_law_things","_law_thing_here"] (AK s_p_law) ["_law_train_here","_law_bring","_law_many"] (ixC [4,7] 1) (KC s_p_law 1):=⟨rfl,by decide+kernel,by decide+kernel,by decide+kernel,by decide+kernel⟩
theorem RQ:(["_law_train_here","_law_bring","_law_many"]:List Str).Nodup:=by decide+kernel
theorem Rj:Ae ["_law_script","_law_k","_law_pen_here","_law_book_here","_law_train_here","_law_first_here","_law_deeds","_law_bring","_law_throw","_law_load","_law_things","_law_thing_here"] (AK s_p_law) ["_law_train_here","_law_bring","_law_throw","_law_many"] (ixC [4,7,8] 1) (KC s_p_law 2):=⟨rfl,by decide+kernel,by decide+kernel,by decide+kernel,by decide+kernel⟩
theorem RX:(["_law_train_here","_law_bring","_law_throw","_law_many"]:List Str).Nodup:=by decide+kernel
theorem RS:Ae ["_law_script","_law_k","_law_pen_here","_law_book_here","_law_train_here","_law_first_here","_law_deeds","_law_bring","_law_throw","_law_load","_law_things","_law_thing_here"] (AK s_p_law) ["_law_pen_here","_law_book_here","_law_turn_here"] (ixC [2,3] 1) (KC s_p_law 3):=⟨rfl,by decide+kernel,by decide+kernel,by decide+kernel,by decide+kernel⟩
theorem RH:(["_law_pen_here","_law_book_here","_law_turn_here"]:List Str).Nodup:=by decide+kernel
end
theorem nr{α:Sort _}{a b:α}(h:a=b):a=b:=h
@[simp high] theorem CI{α β:Type}(a:α)(f:α->Option β):(some a).bind f=f a:=Eq.mp (congrArg (fun z=>z=f a) rfl) (Eq.refl (f a))
@[simp high] theorem ik{α β:Type}(a:α)(f:α->β):(some a).map f=some (f a):=Eq.mp (congrArg (fun z=>z=some (f a)) rfl) (Eq.refl (some (f a)))
section
variable{E:En}{S:Sto}{op:OpN}{f g c:Ev}{d:D}{i:Nat}{w:Wv}{a b e h r':D}{r:List D}{fs:List Ev}
@[simp] theorem lI{o:Option D}{E:En}:at? (o::E) 0=o:=nr rfl
@[simp] theorem lH{o:Option D}{E:En}{i:Nat}:at? (o::E) (i+1)=at? E i:=nr rfl
@[simp] theorem jV:eC d E S=some (d,S):=nr rfl
@[simp] theorem jq:eV i E S=(at? E i).map fun d=>(d,S):=nr rfl
@[simp] theorem aH:evs [] E S=some ([],S):=nr rfl
@[simp] theorem JP:evs (f::fs) E S=(f E S).bind fun r=>(evs fs E r.2).map fun q=>(r.1::q.1,q.2):=nr rfl
@[simp] theorem ia{cf:Bool}:P4 cf op fs E S=(evs fs E S).bind fun r=>(op (r.1.map (dr r.2))).bind fun w=>fin cf w r.2:=nr rfl
@[simp] theorem ko{cf:Bool}:fin cf (.val d) S=some (d,S):=by cases cf<;>rfl
@[simp] theorem ke:fin false (.own r) S=some (.lst r,S):=nr rfl
@[simp] theorem j0:fin true (.own r) S=some (.ref S.length,S++[.lst r]):=nr rfl
@[simp] theorem jS:dr S .non=.val .non:=nr rfl
@[simp] theorem kD{b:Bool}:dr S (.bl b)=.val (.bl b):=nr rfl
@[simp] theorem jT{i:Int}:dr S (.int i)=.val (.int i):=nr rfl
@[simp] theorem jJ{x:Str}:dr S (.str x)=.val (.str x):=nr rfl
@[simp] theorem kI{x:String}:dr S (.ty x)=.val (.ty x):=nr rfl
@[simp] theorem jN:dr S (.tup r)=.val (.tup r):=nr rfl
@[simp] theorem je:dr S (.lst r)=.val (.lst r):=nr rfl
@[simp] theorem jj{ns:List Int}:dr S (.scr ns)=.val (.scr ns):=nr rfl
theorem BJ{n:Nat}(h:S[n]?=some (.lst r)):dr S (.ref n)=.own r:=by
 show(match S[n]? with|some (.lst ds)=>Wv.own ds|_=>.val (.ref n))=_
 rw[h]
theorem AY{n:Nat}(h:S[n]?=some (.lst r)):Em S n=some r:=by
 unfold Em
 rw[h]
@[simp] theorem jU{f:Op1}:o1 f [w]=f w:=nr rfl
@[simp] theorem jI{f:Op2}{w':Wv}:o2 f [w,w']=f w w':=nr rfl
@[simp] theorem GL:fz (.val d)=d:=nr rfl
noncomputable def gz(g:Ev)(E:En)(r:D×Sto):Option (D×Sto):=match r.1 with| .bl true=>g E r.2| .bl false=>some (.bl false,r.2)|_=>none
noncomputable def orK(g:Ev)(E:En)(r:D×Sto):Option (D×Sto):=match r.1 with| .bl false=>g E r.2| .bl true=>some (.bl true,r.2)|_=>none
noncomputable def jR(r:D×Sto):Option (D×Sto):=match r.1 with| .bl b=>some (.bl (!b),r.2)|_=>none
@[simp] theorem jm:gz g E (.bl true,S)=g E S:=nr rfl
@[simp] theorem jL:gz g E (.bl false,S)=some (.bl false,S):=nr rfl
@[simp] theorem j8:orK g E (.bl false,S)=g E S:=nr rfl
@[simp] theorem kf:orK g E (.bl true,S)=some (.bl true,S):=nr rfl
@[simp] theorem jO{b:Bool}:jR (.bl b,S)=some (.bl (!b),S):=nr rfl
@[simp] theorem fC:C8 f g E S=(f E S).bind (gz g E):=nr rfl
@[simp] theorem QM:eOr f g E S=(f E S).bind (orK g E):=nr rfl
@[simp] theorem fE:FL f E S=(f E S).bind jR:=nr rfl
@[simp] theorem gM:BD fs E S=(evs fs E S).bind fun r=>if r.1.length≤sizeLine then some (.tup r.1,r.2)else none:=nr rfl
@[simp] theorem eP{cf:Bool}:XF cf fs E S=(evs fs E S).bind fun r=>if r.1.length≤sizeLine then fin cf (.own r.1) r.2 else none:=nr rfl
@[simp] theorem bq{F:Fn}:AJ F fs E S=(evs fs E S).bind fun r=>F r.1 r.2:=nr rfl
noncomputable def jc(op:Mo)(fs:List Ev)(E:En)(r:D×Sto):Option (D×Sto):=match r.1 with
 | .ref n=>(Em r.2 n).bind fun _=>(evs fs E r.2).bind fun p=>(Em p.2 n).bind fun ds=>(op p.2 ds p.1).map fun q=>(q.1,p.2.set n (.lst q.2))
 |_=>none
@[simp] theorem gG{op:Mo}{n:Nat}:jc op fs E (.ref n,S)=(Em S n).bind fun _=>(evs fs E S).bind fun p=>(Em p.2 n).bind fun ds=>(op p.2 ds p.1).map fun q=>(q.1,p.2.set n (.lst q.2)):=nr rfl
@[simp] theorem eS{op:Mo}:PV op f fs E S=(f E S).bind (jc op fs E):=nr rfl
@[simp] theorem gA:Po S r [d]=if r.length<sizeLine then some (.non,r++[d])else none:=nr rfl
variable{x y:Ex}
noncomputable def dO(y:Ex)(r:Fl×En×Sto):Option (Fl×En×Sto):=match r.1 with| .nx=>y r.2.1 r.2.2| .ret w=>some (.ret w,r.2)
noncomputable def iI(x y:Ex)(E:En)(r:D×Sto):Option (Fl×En×Sto):=match r.1 with| .bl true=>x E r.2| .bl false=>y E r.2|_=>none
@[simp] theorem Fe:dO y (.nx,E,S)=y E S:=nr rfl
@[simp] theorem gC{w:D}:dO y (.ret w,E,S)=some (.ret w,E,S):=nr rfl
@[simp] theorem jf:iI x y E (.bl true,S)=x E S:=nr rfl
@[simp] theorem jW:iI x y E (.bl false,S)=y E S:=nr rfl
@[simp] theorem ER:Ai x y E S=(x E S).bind (dO y):=nr rfl
@[simp] theorem fD:CJ E S=some (.nx,E,S):=nr rfl
@[simp] theorem P1:xIf c x y E S=(c E S).bind (iI x y E):=nr rfl
@[simp] theorem fg:A3 f E S=(f E S).map fun r=>(.ret r.1,E,r.2):=nr rfl
@[simp] theorem fI:CF i f E S=(f E S).map fun r=>(.nx,E.set i (some r.1),r.2):=nr rfl
@[simp] theorem di:G7 f E S=(f E S).map fun r=>(.nx,E,r.2):=nr rfl
noncomputable def jr(d b:D)(E:En)(i:D×Sto):Option (Fl×En×Sto):=match b,i.1 with
 | .ref n,.int j=>(Em i.2 n).bind fun ds=>(ixN ds.length j).map fun m=>(.nx,E,i.2.set n (.lst (ds.set m d)))
 |_,_=>none
@[simp] theorem gL{n:Nat}{j:Int}:jr d (.ref n) E (.int j,S)=(Em S n).bind fun ds=>(ixN ds.length j).map fun m=>(.nx,E,S.set n (.lst (ds.set m d))):=nr rfl
@[simp] theorem gK{k o:Ev}:OB k f o E S=(k E S).bind fun r=>(f E r.2).bind fun b=>(o E b.2).bind (jr r.1 b.1 E):=nr rfl
@[simp] theorem gI{t:Tf}:PL t f E S=(f E S).bind fun r=>(t r.1 E r.2).map fun E'=>(.nx,E',r.2):=nr rfl
@[simp] theorem eN{i j:Nat}:Qs i j f g E S=(f E S).bind fun r=>(g E r.2).map fun q=>(.nx,(E.set i (some r.1)).set j (some q.1),q.2):=by
  unfold Qs
  rw[JP]
  cases f E S with
  |none=>rfl
  | some r =>
    rw[CI,CI,JP]
    cases g E r.2 with
    |none=>rfl
    |some q=>rfl
@[simp] theorem Zh:tNm i d E S=some (E.set i (some d)):=nr rfl
@[simp] theorem g9{ts:List Tf}{ds:List D}:tTp ts (.tup ds) E S=tMs ts ds E S:=nr rfl
@[simp] theorem il{ts:List Tf}{n:Nat}:tTp ts (.ref n) E S=(Em S n).bind fun ds=>tMs ts ds E S:=nr rfl
@[simp] theorem iR:tMs [] [] E S=some E:=nr rfl
@[simp] theorem fc{t:Tf}{ts:List Tf}{ds:List D}:tMs (t::ts) (d::ds) E S=(t d E S).bind fun E1=>tMs ts ds E1 S:=nr rfl
@[simp] theorem bD{N:Nat}{ds:List D}:A6 (BA N x) ds S=(x (ds.map some++List.replicate (N-ds.length) none) S).map fun r=>(flD r.1,r.2.2):=by rw[SY];rfl
@[simp] theorem jg:flD .nx=.non:=nr rfl
@[simp] theorem gd:flD (.ret d)=d:=nr rfl
@[simp] theorem jC{i j:Int}:B9 (.val (.int i)) (.val (.int j))=some (.val (.int (i+j))):=nr rfl
@[simp] theorem iq{i j:Str}:B9 (.val (.str i)) (.val (.str j))=if i.length+j.length≤sizeLine then some (.val (.str (i++j)))else none:=nr rfl
@[simp] theorem iP{xs ys:List D}:B9 (.val (.tup xs)) (.val (.tup ys))=if xs.length+ys.length≤sizeLine then some (.val (.tup (xs++ys)))else none:=nr rfl
@[simp] theorem iV{xs ys:List D}:B9 (.val (.lst xs)) (.val (.lst ys))=if xs.length+ys.length≤sizeLine then some (.own (xs++ys))else none:=nr rfl
@[simp] theorem eE{i j:Int}:Cn (.val (.int i)) (.val (.int j))=if Dr i j=true then some (.val (.int (i*j)))else none:=nr rfl
@[simp] theorem Qc{k:Int}:Cn (.val (.tup r)) (.val (.int k))=if(!r.isEmpty && decide (k≤0) && decide (-(2^63)≤k))=true then some (.val (.tup []))else if(!r.isEmpty && decide (1≤k) && decide (r.length*k.toNat≤sizeLine))=true then some (.val (.tup (List.replicate k.toNat r).flatten))else none:=nr rfl
@[simp] theorem ie:asS (.own r)=some r:=nr rfl
@[simp] theorem gy:asS (.val (.lst r))=some r:=nr rfl
@[simp] theorem ip:asS (.val (.tup r))=some r:=nr rfl
@[simp] theorem iL{ns:List Int}:asS (.val (.scr ns))=some (ns.map .int):=nr rfl
@[simp] theorem R9{j:Int}:wIx w (.val (.int j))=(asS w).bind fun ds=>(atI ds j).map .val:=nr rfl
theorem Ep{α:Type}{xs:List α}{n:Nat}{x:α}(h:xs[n]?=some x):atI xs (n:Int)=some x:=aC h
theorem Yd{α:Type}{xs:List α}{i:Int}(h0:0≤i)(h1:i<xs.length):atI xs i=some (xs[i.toNat]'(by omega)):=by
 have:atI xs ((i.toNat:Nat):Int)=some (xs[i.toNat]'(by omega)):=Ep (List.getElem?_eq_getElem (by omega))
 rwa [Int.toNat_of_nonneg h0]at this
@[simp] theorem ic:atI (a::r) 0=some a:=Ep (n:=0) rfl
@[simp] theorem kg:atI (a::b::r) 1=some b:=Ep (n:=1) rfl
@[simp] theorem kl:atI (a::b::e::r) 2=some e:=Ep (n:=2) rfl
@[simp] theorem jt:atI (a::b::e::h::r) 3=some h:=Ep (n:=3) rfl
@[simp] theorem lD{k:D}:atI (a::b::e::h::k::r) 4=some k:=Ep (n:=4) rfl
@[simp] theorem lG{k l:D}:atI (a::b::e::h::k::l::r) 5=some l:=Ep (n:=5) rfl
theorem Pr{n k:Nat}(h:k<n):ixN n (k:Int)=some k:=by
 unfold ixN
 simp
 omega
theorem Qg{n:Nat}{i:Int}(h0:0≤i)(h1:i<n):ixN n i=some i.toNat:=by
 have:=Pr (n:=n) (k:=i.toNat) (by omega)
 rwa [Int.toNat_of_nonneg h0]at this
@[simp] theorem kA{n:Nat}:ixN (n+1) 0=some 0:=Qg (by decide) (by omega)
@[simp] theorem kY{n:Nat}:ixN (n+2) 1=some 1:=Qg (by decide) (by omega)
@[simp] theorem kQ{n:Nat}:ixN (n+3) 2=some 2:=Qg (by decide) (by omega)
@[simp] theorem jb{i j:Int}:deq (.int i) (.int j)=(i==j):=nr rfl
@[simp] theorem iG{i j:Int}:B2 (.int i) (.int j)=true:=nr rfl
@[simp] theorem Ha{w':Wv}:wEq w w'=if B2 (fz w) (fz w')=true then some (.val (.bl (deq (fz w) (fz w'))))else none:=nr rfl
@[simp] theorem gi{w':Wv}:wNe w w'=if B2 (fz w) (fz w')=true then some (.val (.bl (!deq (fz w) (fz w'))))else none:=nr rfl
@[simp] theorem iW{i j:Int}:wLt (.val (.int i)) (.val (.int j))=some (.val (.bl (decide (i<j)))):=nr rfl
@[simp] theorem gR{i j:Int}:wLe (.val (.int i)) (.val (.int j))=some (.val (.bl (decide (i≤j)))):=nr rfl
@[simp] theorem gn{i j:Int}:wGt (.val (.int i)) (.val (.int j))=some (.val (.bl (decide (j<i)))):=nr rfl
@[simp] theorem iH{i j:Int}:wGe (.val (.int i)) (.val (.int j))=some (.val (.bl (decide (j≤i)))):=nr rfl
@[simp] theorem fX{i j:Int}:JU (.val (.int i)) (.val (.int j))=some (.val (.int (i-j))):=nr rfl
@[simp] theorem fH{i:Int}:Pw (.val (.int i))=some (.val (.int (-i))):=nr rfl
@[simp] theorem eM{i j:Int}:PX (.val (.int i)) (.val (.int j))=(if 0<j then some (.val (.int (i % j)))else none):=by
 show Option.map Wv.val (if 0<j then some (D.int (i % j))else none)=_
 split<;>rfl
@[simp] theorem bZ{i j:Int}:NX (.val (.int i)) (.val (.int j))=(if(decide (0<j) && decide (j.natAbs<GS))=true then some (.val (.int (i / j)))else none):=by
 show Option.map Wv.val (if(decide (0<j) && decide (j.natAbs<GS))=true then some (D.int (i / j))else none)=_
 split<;>rfl
@[simp] theorem fJ{i j:Int}:ZV (.val (.int i)) (.val (.int j))=if(decide (0≤j) && decide (j≤1000) && decide (i.natAbs<2^64))=true then some (.val (.int (i^j.toNat)))else none:=by
 show Option.map Wv.val (if(decide (0≤j) && decide (j≤1000) && decide (i.natAbs<2^64))=true then some (D.int (i^j.toNat))else none)=_
 split<;>rfl
@[simp] theorem ez{i:Int}:aq (.val (.int i))=some (.val (.int (i.natAbs:Int))):=by
 show some (Wv.val (D.int (if i<0 then-i else i)))=_
 congr 3
 split<;>omega
@[simp] theorem ff:GC (.val (.lst r))=some (.val (.int r.length)):=nr rfl
@[simp] theorem gO:GC (.val (.tup r))=some (.val (.int r.length)):=nr rfl
@[simp] theorem fP{ns:List Int}:GC (.val (.scr ns))=some (.val (.int ns.length)):=by
 show some (Wv.val (D.int ((ns.map D.int).length:Nat)))=_
 rw[List.length_map]
@[simp] theorem ab:Fq w=(asS w).map fun ds=>.val (.tup ds):=nr rfl
@[simp] theorem dW:Ia w=(asS w).map fun ds=>.own ds:=nr rfl
@[simp] theorem jk{b:Bool}:Zo (.val (.bl b))=some (.val (.int (if b then 1 else 0))):=nr rfl
@[simp] theorem eY{i j:Int}:eT (.val (.int i)) (.val (.int j))=some (.val (.int (if j>i then j else i))):=nr rfl
@[simp] theorem fT{i j:Int}:ao (.val (.int i)) (.val (.int j))=some (.val (.int (if j<i then j else i))):=nr rfl
@[simp] theorem eQ{T:String}:Hh w (.val (.ty T))=if O8 T=true then(kdW w).map fun k=>.val (.bl (k.isA T))else none:=nr rfl
@[simp] theorem iT:O8 "int"=true:=by decide
@[simp] theorem fM:O8 "bool"=true:=by decide
@[simp] theorem ck:O8 "tuple"=true:=by decide
@[simp] theorem gk:O8 "str"=true:=by decide
@[simp] theorem fQ:Q8 (.val (.lst r))=(bls r).map fun bs=>.val (.bl (bs.all id)):=nr rfl
theorem AO{n:Nat}(h:n≤1000):n≤sizeLine:=Nat.le_trans h (by decide)
@[simp] theorem sz1:(1:Nat)≤sizeLine:=AO (by decide)
@[simp] theorem sz2:(2:Nat)≤sizeLine:=AO (by decide)
@[simp] theorem sz3:(3:Nat)≤sizeLine:=AO (by decide)
@[simp] theorem sz4:(4:Nat)≤sizeLine:=AO (by decide)
@[simp] theorem sz5:(5:Nat)≤sizeLine:=AO (by decide)
@[simp] theorem sz6:(6:Nat)≤sizeLine:=AO (by decide)
@[simp] theorem Io:Bx E S=some (.bl true,S):=nr rfl
@[simp] theorem gN{s:Sr}{t:Tf}{b:Ex}:Pt s t b E S=(s E S).bind fun r=>MC r.1.2 t b r.1.1 E r.2:=nr rfl
@[simp] theorem BU:gOk [] S:=fun _ h=>(nomatch h)
theorem N9{gs:Gd}{t:Tf}{b:Ex}(h:gOk gs S):MC gs t b [] E S=some (.nx,E,S):=by
 unfold MC
 rw[if_pos h]
theorem UT{gs:Gd}{t:Tf}{b:Ex}{ds:List D}(h:gOk gs S):MC gs t b (d::ds) E S=(t d E S).bind fun E1=>(b E1 S).bind fun r=>match r.1 with
  | .nx=>MC gs t b ds r.2.1 r.2.2
  | .ret w=>some (.ret w,r.2):=by
 rw[MC,if_pos h]
 all_goals rfl
theorem Jv{gs:Gd}{t:Tf}{b:Ex}{ds:List D}(h:gOk gs S):MC gs t b (d::ds) E S=(t d E S).bind fun E1=>(b E1 S).bind (dO (MC gs t b ds)):=by
 rw[UT h]
 rfl
@[simp] theorem eO:Hy f E S=(f E S).bind fun r=>(sqD r.2 r.1).map fun p=>(p,r.2):=nr rfl
@[simp] theorem jE:sqD S (.tup r)=some (r,[]):=nr rfl
@[simp] theorem i9:sqD S (.lst r)=some (r,[]):=nr rfl
theorem He{n:Nat}(h:S[n]?=some (.lst r)):sqD S (.ref n)=some (r,[(n,r)]):=by
 show(Em S n).map (fun ds=>(ds,[(n,ds)]))=_
 rw[AY h]
 rfl
@[simp] theorem fL:ah f E S=(f E S).bind fun r=>(sqD r.2 r.1).map fun p=>((QG 0 p.1,p.2),r.2):=nr rfl
@[simp] theorem fS:cc f g E S=(f E S).bind fun r=>(g E r.2).bind fun q=>(sqD q.2 r.1).bind fun a=>(sqD q.2 q.1).map fun b=>((PZ a.1 b.1,a.2++b.2),q.2):=by
  unfold cc
  rw[JP]
  cases f E S with
  |none=>rfl
  | some r =>
    rw[CI,CI,JP]
    cases g E r.2 with
    |none=>rfl
    |some q=>rfl
noncomputable def Ja(j:Int):Bool:=decide (-(2^62)≤j) && decide (j<2^62)
theorem E5{j:Int}(h: -1000000≤j)(g:j≤1000000):Ja j=true:=by
 unfold Ja
 rw[Bool.and_eq_true]
 exact⟨decide_eq_true (by omega),decide_eq_true (by omega)⟩
noncomputable def jM(S:Sto):D->Option ((List D×Gd)×Sto)
 | .int j=>if Ja j=true then some ((Kw 0 j.toNat,[]),S)else none
 |_=>none
@[simp] theorem gJ{j:Int}:jM S (.int j)=if Ja j=true then some ((Kw 0 j.toNat,[]),S)else none:=nr rfl
@[simp] theorem fq:PY [f] E S=(f E S).bind fun r=>jM r.2 r.1:=by
  unfold PY
  rw[JP]
  cases f E S with
  |none=>rfl
  | some r =>
    obtain⟨d,S1⟩:=r
    rw[CI,aH,ik,CI,CI]
    cases d<;>rfl
@[simp] theorem bP{cf:Bool}{cap:List Nat}{m:Nat}{s:Sr}{t:Tf}:Mg cf cap m s t c f E S=(s E S).bind fun r=>(Bg r.1.2 t c f r.1.1 [] (P5 cap m E) r.2).bind fun q=>fin cf (.own q.1) q.2:=nr rfl
@[simp] theorem fG{cap:List Nat}{m:Nat}:P5 cap m E=cap.map (at? E)++List.replicate m none:=nr rfl
theorem Gi{α:Type}(p:α->Bool):∀xs:List α,bls (xs.map fun x=>.bl (p x))=some (xs.map p)
  | []=>rfl
  | x :: xs => by
    have ih:=Gi p xs
    unfold bls at ih⊢
    rw[List.map_cons,List.mapM_cons,ih]
    rfl
@[simp] theorem RZ{i:Int}:MS (.int i::r)=(MS r).map fun ns=>i::ns:=by
 unfold MS
 rw[List.mapM_cons]
 show(do let r1←some i;let rs←List.mapM intD r;pure (r1::rs))=_
 cases List.mapM intD r<;>rfl
theorem HF:∀(ns:List Int),MS (ns.map D.int)=some ns
 | []=>rfl
 |n::ns=>by rw[List.map_cons,RZ,HF ns];rfl
@[simp] theorem eF:YK (.own r)=(MS r).map fun ns=>.val (.int ns.sum):=nr rfl
@[simp] theorem eZ:YK (.val (.lst r))=(MS r).map fun ns=>.val (.int ns.sum):=nr rfl
@[simp] theorem k8{i:Int}{w:Wv}:J6 true false [w,.val (.int i)]=wSl (some i) none w:=nr rfl
@[simp] theorem kB{i:Int}{w:Wv}:J6 false true [w,.val (.int i)]=wSl none (some i) w:=nr rfl
@[simp] theorem kn{i j:Int}{w:Wv}:J6 true true [w,.val (.int i),.val (.int j)]=wSl (some i) (some j) w:=nr rfl
@[simp] theorem hZ{lo hi:Option Int}:wSl lo hi (.val (.tup r))=some (.val (.tup (JW r lo hi))):=nr rfl
end
structure Fm(A:List Nat)(S S':Sto):Prop where
 len:S.length≤S'.length
 keep:∀n,n<S.length->n∉A->S'[n]?=S[n]?
theorem Fm.refl{A:List Nat}{S:Sto}:Fm A S S:=⟨Nat.le_refl _,fun _ _ _=>rfl⟩
theorem Fm.trans{A:List Nat}{S S' S2:Sto}(h:Fm A S S')(g:Fm A S' S2):Fm A S S2:=⟨Nat.le_trans h.len g.len,fun n hn ha=>(g.keep n (Nat.lt_of_lt_of_le hn h.len) ha).trans (h.keep n hn ha)⟩
theorem Fm.mono{A B:List Nat}{S S':Sto}(h:Fm A S S')(s:∀n∈A,n∈B):Fm B S S':=⟨h.len,fun n hn hb=>h.keep n hn fun z=>hb (s n z)⟩
theorem Fm.get{A:List Nat}{S S':Sto}(h:Fm A S S'){n:Nat}{c:Cl}(e:S[n]?=some c)(ha:n∉A):S'[n]?=some c:=by
 rw[h.keep n (List.getElem?_eq_some_iff.mp e).1 ha];exact e
theorem Fm.app{A:List Nat}{S T:Sto}:Fm A S (S++T):=⟨by simp,fun n hn _=>List.getElem?_append_left hn⟩
theorem Fm.set{A:List Nat}{S:Sto}{n:Nat}{c:Cl}(h:n∈A):Fm A S (S.set n c):=⟨by simp,fun m hm ha=>List.getElem?_set_ne (fun z=>ha (by rw[←z];exact h))⟩
theorem A9{S:Sto}{n:Nat}{c:Cl}(h:S[n]?=some c):n<S.length:=(List.getElem?_eq_some_iff.mp h).1
section
theorem mulL{i j:Int}(h: -18446744073709551616<i)(g:i<18446744073709551616):Dr i j=true:=by
 unfold Dr
 rw[Bool.or_eq_true]
 exact .inl (decide_eq_true (by omega))
theorem mulR{i j:Int}(h: -18446744073709551616<j)(g:j<18446744073709551616):Dr i j=true:=by
 unfold Dr
 rw[Bool.or_eq_true,Bool.or_eq_true]
 exact .inr (.inl (decide_eq_true (by omega)))
theorem HK{n k:Nat}(h:n<2^k)(hk:k≤8000):n<GS:=Nat.lt_of_lt_of_le h (Nat.pow_le_pow_right (by decide) hk)
theorem Eg{n:Int}(h0:0<n)(h1:n<1152921504606846976):n.natAbs<GS:=HK (k:=60) (show n.natAbs<2^60 by omega) (by decide)
variable{S:Sto}
noncomputable def JV(a b:Int):Int:=((Nat.gcd a.natAbs b.natAbs:Nat):Int)
theorem Ln{c:Ev}{b:Ex}{k:Nat}{E:En}:Hi c b (k+1) E S=(c E S).bind fun r=>match r.1 with
    | .bl true=>(b E r.2).bind fun p=>match p.1 with
      | .nx=>Hi c b k p.2.1 p.2.2
      | .ret w=>some (.ret w,p.2)
    | .bl false=>some (.nx,E,r.2)
    |_=>none:=rfl
theorem Qu{c:Ev}{b:Ex}{k:Nat}{E E2:En}{S1 S2:Sto}(e1:c E S=some (.bl true,S1))(e2:b E S1=some (.nx,E2,S2)):Hi c b (k+1) E S=Hi c b k E2 S2:=by
 rw[Ln,e1]
 show(b E S1).bind _=_
 rw[e2]
 rfl
theorem Qr{c:Ev}{b:Ex}{k:Nat}{E:En}{S1:Sto}(e1:c E S=some (.bl false,S1)):Hi c b (k+1) E S=some (.nx,E,S1):=by
 rw[Ln,e1]
 rfl
theorem Qb:∀(k:Nat) (x y:Nat),y<k->Hi (eOp (o2 wNe) [(eV 1),(eC (.int 0))]) (Qs 0 1 (eV 1) (eOp (o2 PX) [(eV 0),(eV 1)])) k [some (.int x),some (.int y)] S=some (.nx,[some (.int (Nat.gcd x y:Nat)),some (.int 0)],S)
  |0,x,y,h=>absurd h (Nat.not_lt_zero _)
  | k + 1, x, y, h => by
    by_cases hy:y=0
    · subst hy
      rw[Qr (S1:=S) (by simp)]
      simp
    · have hy2 : (((y : Nat) : Int) == 0) = false := by simpa using hy
      have ih:=Qb k y (x % y) (by have:=Nat.mod_lt x (Nat.pos_of_ne_zero hy);omega)
      rw[show((x % y:Nat):Int)=(x:Int) % (y:Int) by omega]at ih
      have hy4:0<y:=Nat.pos_of_ne_zero hy
      rw[Qu (S1:=S) (S2:=S) (E2:=[some (.int y),some (.int ((x:Int) % (y:Int)))]) (by simp[hy2]) (by simp[hy4]),ih]
      rw[Nat.gcd_comm x y,Nat.gcd_rec y x,Nat.gcd_comm]
theorem X3(a b:Int):Bl [.int a,.int b] S=some (.int (JV a b),S):=by
 have:=Qb (S:=S) (b.natAbs+2) a.natAbs b.natAbs (by omega)
 simp[Bl,Et,Ow,RF,this,JV]
theorem LS:∀(k:Nat) (x y:Nat),y<k->Hi (eOp (o2 wGt) [(eV 1),(eC (.int 0))]) (Qs 0 1 (eV 1) (eOp (o2 PX) [(eV 0),(eV 1)])) k [some (.int x),some (.int y)] S=some (.nx,[some (.int (Nat.gcd x y:Nat)),some (.int 0)],S)
  |0,x,y,h=>absurd h (Nat.not_lt_zero _)
  | k + 1, x, y, h => by
    by_cases hy:y=0
    · subst hy
      rw[Qr (S1:=S) (by simp)]
      simp
    · have ih := LS k y (x % y) (by have := Nat.mod_lt x (Nat.pos_of_ne_zero hy); omega)
      rw[show((x % y:Nat):Int)=(x:Int) % (y:Int) by omega]at ih
      have hy4:0<y:=Nat.pos_of_ne_zero hy
      rw[Qu (S1:=S) (S2:=S) (E2:=[some (.int y),some (.int ((x:Int) % (y:Int)))]) (by simp[hy4]) (by simp[hy4]),ih]
      rw[Nat.gcd_comm x y,Nat.gcd_rec y x,Nat.gcd_comm]
theorem Ob(a b:Int)(ha:0≤a)(hb:0≤b):Ej [.int a,.int b] S=some (.int (JV a b),S):=by
 have:=LS (S:=S) (b.natAbs+2) a.natAbs b.natAbs (by omega)
 have e1:((a.natAbs:Nat):Int)=a:=by omega
 have e2:((b.natAbs:Nat):Int)=b:=by omega
 rw[e1,e2]at this
 simp[Ej,KJ,Ow,RF,this,JV]
noncomputable def lowP(t b:Int):Int×Int:=(t / JV t b,b / JV t b)
theorem Nb{t b:Int}(h:0<b):0<JV t b:=by
 unfold JV
 have:0<Nat.gcd t.natAbs b.natAbs:=Nat.gcd_pos_of_pos_right _ (by omega)
 omega
theorem Tq{t b:Int}(h:0<b):(JV t b).natAbs≤b.natAbs:=by
 unfold JV
 have:Nat.gcd t.natAbs b.natAbs≤b.natAbs:=Nat.gcd_le_right _ (by omega)
 omega
noncomputable def amD(p:Int×Int):D:=.tup [.int p.1,.int p.2]
theorem TV{t b:Int}(h:0<b)(hb:b.natAbs<GS):Hs [.int t,.int b] S=some (amD (lowP t b),S):=by
 have h1:=Nb (t:=t) h
 have h2:(JV t b).natAbs<GS:=Nat.lt_of_le_of_lt (Tq h) hb
 simp[Hs,Ma,X3,h1,h2,amD,lowP]
theorem WH{t b:Int}:JV (t.natAbs:Int) b=JV t b:=by
 unfold JV
 rw[Int.natAbs_natCast]
theorem Ni{t b:Int}(h:0<b)(hb:b.natAbs<GS):Bv [.int t,.int b] S=some (amD (lowP t b),S):=by
 have h1:=Nb (t:=t) h
 have h2:(JV t b).natAbs<GS:=Nat.lt_of_le_of_lt (Tq h) hb
 have h3:=Ob (S:=S) (t.natAbs:Int) b (by omega) (by omega)
 rw[WH]at h3
 simp[Bv,M8,h3,h1,h2,amD,lowP]
noncomputable def aD(q:Rat):D:=.tup [.int q.num,.int q.den]
def Sz(k:Nat)(q:Rat):Prop:=q.num.natAbs<2^k/\q.den<2^k
theorem F1(q:Rat):(q.num:Rat) / (q.den:Rat)=q:=by
 rw[←Rat.mkRat_eq_div,Rat.mkRat_self]
theorem LY(q:Rat):(q.den:Rat)≠0:=by
 have:=q.den_nz
 exact_mod_cast this
theorem Lo(t:Int)(n:Nat)(h:0<n):((t:Rat) / (n:Rat)).num=t / (Nat.gcd t.natAbs n:Nat)/\((t:Rat) / (n:Rat)).den=n / Nat.gcd t.natAbs n:=by
 have e:(t:Rat) / (n:Rat)=mkRat t n:=by rw[Rat.mkRat_eq_div]
 rw[e,Rat.mkRat_def,dif_neg (by omega),Rat.normalize_eq]
 exact⟨rfl,rfl⟩
theorem QD{t b:Int}(h:0<b):amD (lowP t b)=aD ((t:Rat) / (b:Rat)):=by
 obtain⟨n,rfl⟩:∃n:Nat,b=n:=⟨b.natAbs,by omega⟩
 obtain⟨h1,h2⟩:=Lo t n (by omega)
 unfold amD aD lowP JV
 rw[show(((n:Nat):Int):Rat)=((n:Nat):Rat)from rfl,h1,h2]
 simp
theorem Mr{t b:Int}{k:Nat}(h:0<b)(ht:t.natAbs<2^k)(hb:b.natAbs<2^k):Sz k ((t:Rat) / (b:Rat)):=by
 obtain⟨n,rfl⟩:∃n:Nat,b=n:=⟨b.natAbs,by omega⟩
 obtain⟨h1,h2⟩:=Lo t n (by omega)
 unfold Sz
 rw[show(((n:Nat):Int):Rat)=((n:Nat):Rat)from rfl,h1,h2]
 exact⟨Nat.lt_of_le_of_lt (Int.natAbs_ediv_le_natAbs _ _) ht,Nat.lt_of_le_of_lt (Nat.div_le_self _ _) (by simpa using hb)⟩
theorem Cq{a b j k:Nat}(ha:a<2^j)(hb:b<2^k):a*b<2^(j+k):=by
 rw[Nat.pow_add]
 exact Nat.mul_lt_mul'' ha hb
theorem EX{i j:Int}{k m:Nat}(hi:i.natAbs<2^k)(hj:j.natAbs<2^m)(h:k≤60000)(g:m≤60000):Dr i j=true:=by
 unfold Dr
 rw[Bool.or_eq_true,Bool.or_eq_true,Bool.and_eq_true]
 exact .inr (.inr ⟨decide_eq_true (Nat.lt_of_lt_of_le hi (Nat.pow_le_pow_right (by decide) h)),decide_eq_true (Nat.lt_of_lt_of_le hj (Nat.pow_le_pow_right (by decide) g))⟩)
theorem den_pos(q:Rat):0<(q.den:Int):=by have:=q.den_pos;omega
theorem cY{x:Int}{n m:Nat}(h:x.natAbs<2^n)(g:n≤m):x.natAbs<2^m:=Nat.lt_of_lt_of_le h (Nat.pow_le_pow_right (by decide) g)
section
variable{p q:Rat}{j k:Nat}
theorem GI(hp:Sz j p)(hq:Sz k q):(p.num*q.den+q.num*p.den).natAbs<2^(j+k+1)/\((p.den:Int)*q.den).natAbs<2^(j+k)/\(p.num*q.den-q.num*p.den).natAbs<2^(j+k+1):=by
 have a1:=Cq hp.1 hq.2
 have a2:=Cq hq.1 hp.2
 have a3:=Cq hp.2 hq.2
 rw[Nat.add_comm k j]at a2
 have e:2^(j+k+1)=2^(j+k)+2^(j+k):=by rw[Nat.pow_succ];omega
 refine⟨?_,?_,?_⟩
 ·refine Nat.lt_of_le_of_lt (Int.natAbs_add_le _ _) ?_
  rw[Int.natAbs_mul,Int.natAbs_mul,Int.natAbs_natCast,Int.natAbs_natCast,e]
  omega
 ·rw[Int.natAbs_mul,Int.natAbs_natCast,Int.natAbs_natCast];exact a3
 ·refine Nat.lt_of_le_of_lt (Int.natAbs_sub_le _ _) ?_
  rw[Int.natAbs_mul,Int.natAbs_mul,Int.natAbs_natCast,Int.natAbs_natCast,e]
  omega
theorem QX:(((p.num*q.den+q.num*p.den:Int):Rat) / (((p.den:Int)*q.den:Int):Rat))=p+q:=by
 have h1:=F1 p;have h2:=F1 q
 have d1:=LY p;have d2:=LY q
 push_cast
 grind
theorem Vl:(((p.num*q.den-q.num*p.den:Int):Rat) / (((p.den:Int)*q.den:Int):Rat))=p-q:=by
 have h1:=F1 p;have h2:=F1 q
 have d1:=LY p;have d2:=LY q
 push_cast
 grind
theorem OH:(((p.num*q.num:Int):Rat) / (((p.den:Int)*q.den:Int):Rat))=p*q:=by
 have h1:=F1 p;have h2:=F1 q
 have d1:=LY p;have d2:=LY q
 push_cast
 grind
theorem dg(hp:Sz j p)(hq:Sz k q):Sz (j+k+1) (p+q):=by
 rw[←QX]
 have:=GI hp hq
 exact Mr (Int.mul_pos (den_pos _) (den_pos _)) this.1 (cY this.2.1 (by omega))
theorem cQ(hp:Sz j p)(hq:Sz k q):Sz (j+k+1) (p-q):=by
 rw[←Vl]
 have:=GI hp hq
 exact Mr (Int.mul_pos (den_pos _) (den_pos _)) this.2.2 (cY this.2.1 (by omega))
theorem O3(hp:Sz j p)(hq:Sz k q):Sz (j+k) (p*q):=by
 rw[←OH]
 have:=GI hp hq
 exact Mr (Int.mul_pos (den_pos _) (den_pos _)) (by rw[Int.natAbs_mul];exact Cq hp.1 hq.1) this.2.1
end
section
variable{p q:Rat}{j k:Nat}
theorem YA(hp:Sz j p)(hq:Sz k q)(hj:j+k≤7990):Dr p.num q.den=true/\Dr q.num p.den=true/\Dr p.den q.den=true/\Dr p.num q.num=true:=by
 refine⟨EX hp.1 (by simpa using hq.2) (by omega) (by omega),EX hq.1 (by simpa using hp.2) (by omega) (by omega),EX (by simpa using hp.2) (by simpa using hq.2) (by omega) (by omega),EX hp.1 hq.1 (by omega) (by omega)⟩
theorem Qf(hp:Sz j p)(hq:Sz k q)(hj:j+k≤7990):BX [(aD p),(aD q)] S=some ((aD (p+q)),S):=by
 obtain⟨m1,m2,m3,m4⟩:=YA hp hq (by omega)
 have b:=GI hp hq
 have l:=Ni (S:=S) (t:=p.num*q.den+q.num*p.den) (b:=p.den*q.den) (Int.mul_pos (den_pos _) (den_pos _)) (HK b.2.1 (by omega))
 rw[QD (Int.mul_pos (den_pos _) (den_pos _)),QX]at l
 simp only[aD]at l⊢
 simp[BX,Jt,m1,m2,m3,l]
theorem Jn(hp:Sz j p)(hq:Sz k q)(hj:j+k≤7990):A7 [(aD p),(aD q)] S=some ((aD (p*q)),S):=by
 obtain⟨m1,m2,m3,m4⟩:=YA hp hq (by omega)
 have b:=GI hp hq
 have l:=Ni (S:=S) (t:=p.num*q.num) (b:=p.den*q.den) (Int.mul_pos (den_pos _) (den_pos _)) (HK b.2.1 (by omega))
 rw[QD (Int.mul_pos (den_pos _) (den_pos _)),OH]at l
 simp only[aD]at l⊢
 simp[A7,Ly,m3,m4,l]
theorem bL:aD (-q)=.tup [.int (0-q.num),.int q.den]:=by
 unfold aD
 rw[show(-q).num=0-q.num by simp,show(-q).den=q.den by simp]
theorem bO(hq:Sz k q):Sz k (-q):=by
 unfold Sz
 rw[show(-q).num= -q.num by simp,show(-q).den=q.den by simp,Int.natAbs_neg]
 exact hq
theorem Xx(hp:Sz j p)(hq:Sz k q)(hj:j+k≤7990):Dk [(aD p),(aD q)] S=some ((aD (p-q)),S):=by
 have l:=Qf (S:=S) hp (bO hq) hj
 rw[bL]at l
 rw[Rat.sub_eq_add_neg]
 simp only[aD]at l⊢
 simp at l
 simp[Dk,Mu,l]
end
theorem V1{t b:Int}(h:0<b)(hb:b.natAbs<GS):Bv [(.int t),(.int b)] S=some ((aD (t / b)),S):=by
 rw[Ni h hb,QD h]
theorem Rf{a b:Int}{k:Nat}(ha:a.natAbs<2^k)(hb:b.natAbs<2^k):(a+b).natAbs<2^(k+1):=by
 have e:2^(k+1)=2^k+2^k:=by rw[Nat.pow_succ];omega
 have:=Int.natAbs_add_le a b
 omega
section
variable{p q:Rat}{w m:Int}{j k n:Nat}
end
end
section
variable{S:Sto}{p:Nat}
theorem X8{r:List D}(h:p<S.length):dr (S.set p (.lst r)) (.ref p)=.own r:=BJ (List.getElem?_set_self h)
def Pen(ds:List D):Prop:=∃a b c d:Int,ds=[.int a,.int b,.int c,.int d]/\0≤d/\d<1000000007
def DX(p:Nat)(S:Sto):Prop:=∃ds,S[p]?=some (.lst ds)/\Pen ds
structure Pn(p:Nat)(S S':Sto):Prop where
 same:Fm [p] S S'
 pen:DX p S'
theorem Pn.trans{S S' S2:Sto}(h:Pn p S S')(g:Pn p S' S2):Pn p S S2:=⟨h.same.trans g.same,g.pen⟩
theorem Pn.get{S S':Sto}(h:Pn p S S'){n:Nat}{c:Cl}(e:S[n]?=some c)(ha:n≠p):S'[n]?=some c:=h.same.get e (by simpa using ha)
theorem Pn.refl(h:DX p S):Pn p S S:=⟨.refl,h⟩
theorem DX.lt(h:DX p S):p<S.length:=by obtain⟨ds,e,_⟩:=h;exact A9 e
theorem DX.app(h:DX p S)(T:Sto):DX p (S++T):=by obtain⟨ds,e,hp⟩:=h;exact⟨ds,by rw[List.getElem?_append_left (A9 e)];exact e,hp⟩
theorem Ap(h:DX p S){n:Int}(h0:0<n)(h1:n<1152921504606846976):∃r S',AI [.ref p,.int n] S=some (.int r,S')/\0≤r/\r<n/\Pn p S S':=by
 obtain⟨ds,hp,a,b,c,d,rfl,hd0,hd1⟩:=h
 have hl:=A9 hp
 have hs:=Eg h0 h1
 have hr:=BJ hp
 have hc:=AY hp
 by_cases hb:b=1/\0<a
 ·obtain⟨rfl,ha⟩:=hb
  refine⟨a % n,S.set p (.lst [.int (a / n),.int 1,.int c,.int d]),?_,Int.emod_nonneg _ (by omega),Int.emod_lt_of_pos _ h0,.set (by simp),_,List.getElem?_set_self hl,_,_,_,_,rfl,hd0,hd1⟩
  simp[AI,Hu,ha,h0,hs,hr,hc]
 ·have m1:Dr (d+17) (69621+2*(c+1))=true:=mulL (by omega) (by omega)
  have m2:Dr 2 (c+1)=true:=mulL (by decide) (by decide)
  generalize ht:(d+17)*(69621+2*(c+1)) % 2147483647=t at*
  have t0:0≤t:=by rw[←ht];exact Int.emod_nonneg _ (by decide)
  have t1:t<2147483647:=by rw[←ht];exact Int.emod_lt_of_pos _ (by decide)
  have m3:Dr t t=true:=mulL (by omega) (by omega)
  have m4:Dr 40503 (c+1)=true:=mulL (by decide) (by decide)
  generalize hu:(t*t+40503*(c+1)+5) % 2147483629=u at*
  have u0:0≤u:=by rw[←hu];exact Int.emod_nonneg _ (by decide)
  have u1:u<2147483629:=by rw[←hu];exact Int.emod_lt_of_pos _ (by decide)
  have m5:Dr u 48271=true:=mulL (by omega) (by omega)
  have d32:(32:Int).natAbs<GS:=Eg (by decide) (by decide)
  have d32':(32:Nat)<GS:=d32
  refine⟨u*48271 % 2147483647 / 32 % n,S.set p (.lst [.int a,.int b,.int (c+1),.int d]),?_,Int.emod_nonneg _ (by omega),Int.emod_lt_of_pos _ h0,.set (by simp),_,List.getElem?_set_self hl,_,_,_,_,rfl,hd0,hd1⟩
  by_cases hb1:b=1
  ·subst hb1
   have ha:¬0<a:=fun z=>hb ⟨rfl,z⟩
   simp[AI,Hu,ha,h0,hs,hr,hc,X8,hl,m1,m2,m3,m4,m5,ht,hu,d32']
  ·have hb2:(b==1)=false:=by simpa using hb1
   simp[AI,Hu,hb2,h0,hs,hr,hc,X8,hl,m1,m2,m3,m4,m5,ht,hu,d32']
theorem dE(c:Int):∃p S',GP [.int c] S=some (.ref p,S')/\DX p S'/\Fm [] S S'/\S.length≤p:=by
 refine⟨S.length,S++[.lst [.int c,.int (if(10:Int)^18≤c then 1 else 0),.int 0,.int (c % 1000000007)]],?_,⟨_,List.getElem?_concat_length,_,_,_,_,rfl,Int.emod_nonneg _ (by decide),Int.emod_lt_of_pos _ (by decide)⟩,.app,Nat.le_refl _⟩
 simp[GP,OM]
theorem Fc{gs:Gd}{t:Tf}{c f:Ev}{acc:List D}{E:En}(h:gOk gs S):Bg gs t c f [] acc E S=some (acc,S):=by
 unfold Bg
 rw[if_pos h]
theorem Jw{gs:Gd}{t:Tf}{c f:Ev}{d:D}{ds acc:List D}{E:En}(h:gOk gs S)(hz:acc.length<sizeLine):Bg gs t c f (d::ds) acc E S=(t d E S).bind fun E1=>(c E1 S).bind fun r=>match r.1 with
   | .bl true=>(f E1 r.2).bind fun p=>Bg gs t c f ds (acc++[p.1]) E1 p.2
   | .bl false=>Bg gs t c f ds acc E1 r.2
   |_=>none:=by
 rw[Bg,if_pos h,if_pos hz]
 all_goals rfl
theorem Jm{gs:Gd}{t:Tf}{c f:Ev}{d:D}{ds acc:List D}{E E1:En}{S1:Sto}(h:gOk gs S)(hz:acc.length<sizeLine)(e1:t d E S=some E1)(e2:c E1 S=some (.bl true,S1)):Bg gs t c f (d::ds) acc E S=(f E1 S1).bind fun p=>Bg gs t c f ds (acc++[p.1]) E1 p.2:=by
 rw[Jw h hz,e1]
 show(c E1 S).bind _=_
 rw[e2]
 rfl
theorem UB{gs:Gd}{t:Tf}{c f:Ev}{d:D}{ds acc:List D}{E E1:En}{S1:Sto}(h:gOk gs S)(hz:acc.length<sizeLine)(e1:t d E S=some E1)(e2:c E1 S=some (.bl false,S1)):Bg gs t c f (d::ds) acc E S=Bg gs t c f ds acc E1 S1:=by
 rw[Jw h hz,e1]
 show(c E1 S).bind _=_
 rw[e2]
 rfl
theorem Hq{gs:Gd}{t:Tf}{f:Ev}{C:En}{m:Nat}{I:Sto->Prop}{R:D->D->Prop}(hg:∀S,I S->gOk gs S):∀{ds acc:List D} {os:En} {S:Sto},os.length=m->I S->acc.length+ds.length≤sizeLine->
    (∀d∈ds,∀os S,os.length=m->I S->∃us y S',us.length=m/\t d (C++os) S=some (C++us)/\f (C++us) S=some (y,S')/\I S'/\R d y)->
    ∃ys S',Bg gs t Bx f ds acc (C++os) S=some (acc++ys,S')/\I S'/\ys.length=ds.length/\Paired R ds ys
  | [],acc,os,S,ho,hI,hz,h=>⟨[],S,by rw[Fc (hg S hI)];simp,hI,rfl,.nil⟩
  | d :: ds, acc, os, S, ho, hI, hz, h => by
    obtain⟨us,y,S1,hu,e1,e2,I1,r1⟩:=h d List.mem_cons_self os S ho hI
    obtain⟨ys,S2,e3,I2,l2,r2⟩:=Hq hg (ds:=ds) (acc:=acc++[y]) (os:=us) (S:=S1) hu I1 (by simp at hz ⊢; omega) fun d' hd=>h d' (List.mem_cons_of_mem _ hd)
    refine⟨y::ys,S2,?_,I2,by simp[l2],.cons r1 r2⟩
    rw[Jm (hg S hI) (by simp at hz;omega) e1 Io,e2,CI,e3]
    simp
theorem comp_map{gs:Gd}{t:Tf}{f:Ev}{C:En}{m:Nat}{g:D->D}{S:Sto}(hg:gOk gs S):∀{ds acc:List D} {os:En},os.length=m->acc.length+ds.length≤sizeLine->
    (∀d∈ds,∀os,os.length=m->∃us,us.length=m/\t d (C++os) S=some (C++us)/\f (C++us) S=some (g d,S))->
    Bg gs t Bx f ds acc (C++os) S=some (acc++ds.map g,S)
  | [],acc,os,ho,hz,h=>by rw[Fc hg];simp
  | d :: ds, acc, os, ho, hz, h => by
    obtain⟨us,hu,e1,e2⟩:=h d List.mem_cons_self os ho
    rw[Jm hg (by simp at hz;omega) e1 Io,e2,CI]
    rw[comp_map hg hu (by simp at hz ⊢; omega) fun d' hd=>h d' (List.mem_cons_of_mem _ hd)]
    simp
theorem IX{gs:Gd}{t:Tf}{c f:Ev}{C:En}{m:Nat}{b:D->Bool}{g:D->D}{S:Sto}(hg:gOk gs S):∀{ds acc:List D} {os:En},os.length=m->acc.length+ds.length≤sizeLine->
    (∀d∈ds,∀os,os.length=m->∃us,us.length=m/\t d (C++os) S=some (C++us)/\c (C++us) S=some (.bl (b d),S)/\f (C++us) S=some (g d,S))->
    Bg gs t c f ds acc (C++os) S=some (acc++(ds.filter b).map g,S)
  | [],acc,os,ho,hz,h=>by rw[Fc hg];simp
  | d :: ds, acc, os, ho, hz, h => by
    obtain⟨us,hu,e1,e2,e3⟩:=h d List.mem_cons_self os ho
    cases hb:b d with
    | true =>
      rw[hb]at e2
      rw[Jm hg (by simp at hz;omega) e1 e2,e3,CI,IX hg hu (by simp at hz ⊢; omega) fun d' hd=>h d' (List.mem_cons_of_mem _ hd)]
      simp[hb]
    | false =>
      rw[hb]at e2
      rw[UB hg (by simp at hz;omega) e1 e2,IX hg hu (by simp at hz ⊢; omega) fun d' hd=>h d' (List.mem_cons_of_mem _ hd)]
      simp[hb]
theorem Li{gs:Gd}{t:Tf}{b:Ex}{I:List D->En->Sto->Prop}(hg:∀ds E S,I ds E S->gOk gs S):∀{ds:List D} {E:En} {S:Sto},I ds E S->
    (∀d ds E S,I (d::ds) E S->∃E1 E2 S2,t d E S=some E1/\b E1 S=some (.nx,E2,S2)/\I ds E2 S2)->
    ∃E' S',MC gs t b ds E S=some (.nx,E',S')/\I [] E' S'
  | [],E,S,hI,h=>⟨E,S,N9 (hg _ _ _ hI),hI⟩
  | d :: ds, E, S, hI, h => by
    obtain⟨E1,E2,S2,e1,e2,I2⟩:=h d ds E S hI
    obtain⟨E',S',e3,I3⟩:=Li hg I2 h
    exact⟨E',S',by rw[Jv (hg _ _ _ hI),e1];simp[e2,e3],I3⟩
theorem pick{xs:List D}{r:Int}(h0:0≤r)(h1:r<xs.length):∃x,atI xs r=some x/\x∈xs:=⟨_,Yd h0 h1,List.getElem_mem _⟩
theorem FH{α β:Type}{P:β->Prop}:∀{xs:List α} {ys:List β},Paired (fun _ y=>P y) xs ys->∀y∈ys,P y
  |_,_,.nil,y,h=>by cases h
  | _, _, .cons r t, y, h => by
    rcases List.mem_cons.mp h with h|h
    ·rw[h];exact r
    ·exact FH t y h
theorem EV{lo:Int}{n:Nat}:(Kw lo n).length=n:=by simp[Kw]
end
def Ok(G B:Nat)(r:Rat):Prop:=∃z:Nat,r*(G:Rat)=(z:Rat)/\z≤B
theorem Mv{n:Nat}(h:0<n):(n:Rat)≠0:=by
 have:n≠0:=by omega
 exact_mod_cast this
theorem Ok.sz{G B k:Nat}{r:Rat}(h:Ok G B r)(hG:0<G)(g:G<2^k)(b:B<2^k):Sz k r:=by
 obtain⟨z,e,hz⟩:=h
 have e2:r=((z:Int):Rat) / ((G:Int):Rat):=by
  have:=Mv hG
  rw[show(((z:Nat):Int):Rat)=(z:Rat)from rfl,show(((G:Nat):Int):Rat)=(G:Rat)from rfl,←e]
  grind
 rw[e2]
 exact Mr (by omega) (by simpa using Nat.lt_of_le_of_lt hz b) (by simpa using g)
theorem Ok.up{G B t B':Nat}{r:Rat}(h:Ok G B r)(hB:B*t≤B'):Ok (G*t) B' r:=by
 obtain⟨z,e,hz⟩:=h
 refine⟨z*t,?_,Nat.le_trans (Nat.mul_le_mul_right t hz) hB⟩
 push_cast
 rw[←e]
 grind
theorem Ok.zero{G B:Nat}:Ok G B 0:=⟨0,by simp,Nat.zero_le _⟩
theorem Ok.one{G B:Nat}(h:G≤B):Ok G B 1:=⟨G,by simp,h⟩
theorem Ok.mix{G B a b t:Nat}{r o:Rat}(hr:Ok G B r)(ho:Ok G B o)(ht:a+b=t)(h0:0<t):Ok (G*t) (B*t) ((r*(a:Rat)+o*(b:Rat)) / (t:Rat)):=by
 obtain⟨z,e1,h1⟩:=hr
 obtain⟨y,e2,h2⟩:=ho
 refine⟨z*a+y*b,?_,?_⟩
 ·have:=Mv h0
  push_cast
  rw[←e1,←e2]
  grind
 ·rw[←ht,Nat.mul_add]
  exact Nat.add_le_add (Nat.mul_le_mul_right a h1) (Nat.mul_le_mul_right b h2)
structure Tr where
 p:Nat
 k:Nat
 b:Nat
 ho:List Rat
 h:Int
 l:Int
structure Ld where
 k:Nat
 n:Int
 ow:List Rat
structure Stt where
 loads:List Ld
 hold:List Rat
 nums:List Int
inductive Bf where
 |bring (p k:Nat) (n:Int)
 |pool (a b:Nat)
 |swap (l:Nat) (g:Int) (k:Nat) (n:Int)
 |trade (t:Int) (l:Nat) (g:Int) (k:Nat) (n:Int)
 |spoil (l:Nat) (n:Int)
 |thr (l:Nat) (n:Int) (ws:List Int)
 |sell (p q:Nat) (s:Rat)
noncomputable def shD(rs:List Rat):D:=.tup (rs.map aD)
noncomputable def Tr.d(t:Tr):D:=.tup [.int t.p,.int t.k,.int t.b,shD t.ho,.int t.h,.int t.l]
noncomputable def Ld.d(l:Ld):D:=.tup [.int l.k,.int l.n,shD l.ow]
noncomputable def Bf.d:Bf->D
 | .bring p k n=>.tup [.str "bring",.int p,.int k,.int n]
 | .pool a b=>.tup [.str "pool",.int a,.int b]
 | .swap l g k n=>.tup [.str "swap",.int l,.int g,.int k,.int n]
 | .trade t l g k n=>.tup [.str "trade",.int t,.int l,.int g,.int k,.int n]
 | .spoil l n=>.tup [.str "spoil",.int l,.int n]
 | .thr l n ws=>.tup [.str "throw",.int l,.int n,.tup (ws.map .int)]
 | .sell p q s=>.tup [.str "sell",.int p,.int q,aD s]
noncomputable def KU(x:Rat)(os ss:List Rat):List Rat:=List.zipWith (fun s o=>s*(1-x)+o*x) ss os
noncomputable def JE(p q:Nat)(s:Rat)(ss:List Rat):List Rat:=(ss.set p (ss.getD p 0-ss.getD p 0*s)).set q (ss.getD q 0+ss.getD p 0*s)
noncomputable def FT(n m:Int)(ss os:List Rat):List Rat:=List.zipWith (fun s o=>(s*n+o*m) / (n+m:Int)) ss os
noncomputable def Fh(t:Tr)(ls:List Ld)(ws:List Int):Int:=(ls.map fun l=>l.n*ws.getD l.k 0).sum+t.b*ws.getD t.k 0
noncomputable def MO(t:Tr)(ls:List Ld)(l:Nat)(n:Int)(ws:List Int):Rat:=((n*ws.getD ((ls[l]?.map (·.k)).getD 0) 0:Int):Rat) / (Fh t ls ws:Rat)
noncomputable def Af(ls:List Ld)(l:Nat):Ld:=ls.getD l ⟨0,0,[]⟩
noncomputable def less(ls:List Ld)(l:Nat)(n:Int):List Ld:=ls.set l {Af ls l with n:=(Af ls l).n-n}
noncomputable def aJ(p i:Nat):List Rat:=(List.range p).map fun j=>if j=i then 1 else 0
noncomputable def step(t:Tr)(s:Stt):Bf->Stt
 | .bring p k n=>{s with loads:=s.loads++[⟨k,n,aJ t.p p⟩]}
 | .pool a b=>{s with loads:=less (less s.loads a (Af s.loads a).n) b (Af s.loads b).n++[⟨(Af s.loads a).k,(Af s.loads a).n+(Af s.loads b).n,FT (Af s.loads a).n (Af s.loads b).n (Af s.loads a).ow (Af s.loads b).ow⟩]}
 | .swap l g k n=>{s with loads:=less s.loads l g++[⟨k,n,(Af s.loads l).ow⟩]}
 | .trade u l g k n=>{s with loads:=less s.loads l g++[⟨k,n,(Af s.loads l).ow⟩],nums:=s.nums++[u]}
 | .spoil l n=>{s with loads:=less s.loads l n}
 | .thr l n ws=>{s with loads:=(less s.loads l n).map fun x=>{x with ow:=KU (MO t s.loads l n ws) (Af s.loads l).ow x.ow},hold:=KU (MO t s.loads l n ws) (Af s.loads l).ow s.hold}
 | .sell p q x=>{s with loads:=s.loads.map fun y=>{y with ow:=JE p q x y.ow},hold:=JE p q x s.hold}
def L3(t:Tr):Prop:=1≤t.p/\t.p≤4/\1≤t.k/\t.k≤5/\1≤t.b/\t.b≤20
def Can(t:Tr)(s:Stt):Bf->Prop
 | .bring p k n=>p<t.p/\k<t.k/\1≤n/\n<2^131
 | .pool a b=>a≠b/\a<s.loads.length/\b<s.loads.length/\0<(Af s.loads a).n/\0<(Af s.loads b).n/\(Af s.loads a).k=(Af s.loads b).k
 | .swap l g k n=>l<s.loads.length/\1≤g/\g≤(Af s.loads l).n/\k<t.k/\k≠(Af s.loads l).k/\1≤n/\n<2^131
 | .trade u l g k n=>l<s.loads.length/\1≤g/\g≤(Af s.loads l).n/\k<t.k/\k≠(Af s.loads l).k/\1≤n/\n<2^131/\u∉s.nums/\0≤u/\u≤9
 | .spoil l n=>l<s.loads.length/\1≤n/\n≤(Af s.loads l).n
 | .thr l n ws=>l<s.loads.length/\1≤n/\n≤(Af s.loads l).n/\ws.length=t.k+1/\∀w∈ws,1≤w/\w≤99
 | .sell p q x=>p≠q/\p<t.p/\q<t.p/\0<x.num/\x.num≤x.den/\x.den≤12
structure G8(t:Tr)(k:Nat)(s:Stt):Prop where
 len:s.loads.length≤4+k
 kind:∀l∈s.loads,l.k<t.k
 pcs:∀l∈s.loads,0≤l.n/\l.n<2^(131+k)
 own:∀l∈s.loads,l.ow.length=t.p
 hold:s.hold.length=t.p
 nm:s.nums.length≤k
 gb:∃G B:Nat,0<G/\G≤B/\B<2^(30+170*k)/\(∀l∈s.loads,∀r∈l.ow,Ok G B r)/\∀r∈s.hold,Ok G B r
theorem G8.sz{t:Tr}{k:Nat}{s:Stt}(h:G8 t k s):(∀l∈s.loads,∀r∈l.ow,Sz (30+170*k) r)/\∀r∈s.hold,Sz (30+170*k) r:=by
 obtain⟨G,B,g0,gb,b,h1,h2⟩:=h.gb
 exact⟨fun l hl r hr=>(h1 l hl r hr).sz g0 (Nat.lt_of_le_of_lt gb b) b,fun r hr=>(h2 r hr).sz g0 (Nat.lt_of_le_of_lt gb b) b⟩
theorem Be{ls:List Ld}{l:Nat}(h:l<ls.length):Af ls l∈ls:=by
 unfold Af
 rw[List.getD_eq_getElem?_getD,List.getElem?_eq_getElem h]
 exact List.getElem_mem h
theorem JN{ls:List Ld}{l:Nat}(h:l<ls.length):ls[l]?=some (Af ls l):=by
 unfold Af
 rw[List.getD_eq_getElem?_getD,List.getElem?_eq_getElem h]
 rfl
theorem Nr{ls:List Ld}{l:Nat}{n:Int}{x:Ld}(h:x∈less ls l n)(hl:l<ls.length):x∈ls∨x={Af ls l with n:=(Af ls l).n-n}:=by
 unfold less at h
 rcases List.mem_or_eq_of_mem_set h with h|h
 ·exact .inl h
 ·exact .inr h
theorem Hk{ls:List Ld}{l:Nat}{n:Int}:(less ls l n).length=ls.length:=by simp[less]
section
variable{S:Sto}{p:Nat}
theorem Pa{P:Int->Prop}:∀{ys:List D},(∀y∈ys,∃i:Int,y=.int i/\P i)->∃ns:List Int,ys=ns.map D.int/\∀n∈ns,P n
  | [],_=>⟨[],rfl,fun n h=>by cases h⟩
  | y :: ys, h => by
    obtain⟨i,rfl,hi⟩:=h y List.mem_cons_self
    obtain⟨ns,rfl,hn⟩:=Pa (P:=P) (ys:=ys) fun z hz=>h z (List.mem_cons_of_mem _ hz)
    exact⟨i::ns,rfl,fun n hn'=>by
      rcases List.mem_cons.mp hn' with e|e
      ·rw[e];exact hi
      ·exact hn n e⟩
theorem Ox{ns:List Int}(h:∀n∈ns,0≤n/\n≤8):0≤ns.sum/\ns.sum≤8*ns.length/\∀n∈ns,n≤ns.sum:=by
  induction ns with
  |nil=>simp
  | cons a l ih =>
    have h1:=h a List.mem_cons_self
    obtain⟨i1,i2,i3⟩:=ih fun n hn=>h n (List.mem_cons_of_mem _ hn)
    rw[List.sum_cons,List.length_cons]
    refine⟨by omega,by push_cast;omega,fun n hn=>?_⟩
    rcases List.mem_cons.mp hn with e|e
    ·omega
    ·have:=i3 n e;omega
theorem Rh(h:DX p S){n:Nat}(hn:n≤20):∃(ns:List Int) (S':Sto),Bg [] (tNm 1) Bx (eOp (o2 wIx) [(Hj [(eC (.int 0)),(eC (.int 1)),(AJ AI [(eV 0),(eC (.int 4))]),(AJ AI [(eV 0),(eC (.int 9))])]),(AJ AI [(eV 0),(eC (.int 4))])]) (Kw 0 n) [] [some (.ref p),none] S=some (ns.map D.int,S')/\Pn p S S'/\ns.length=n/\∀i∈ns,0≤i/\i≤8:=by
 obtain⟨ys,S',e,hI,l,r⟩:=Hq (gs:=[]) (t:=tNm 1) (f:=eOp (o2 wIx) [(Hj [(eC (.int 0)),(eC (.int 1)),(AJ AI [(eV 0),(eC (.int 4))]),(AJ AI [(eV 0),(eC (.int 9))])]),(AJ AI [(eV 0),(eC (.int 4))])]) (C:=[some (.ref p)]) (m:=1) (I:=Pn p S) (R:=fun _ y=>∃i:Int,y=.int i/\0≤i/\i≤8)
  (fun _ _=>BU) (ds:=Kw 0 n) (acc:=[]) (os:=[none]) rfl (Pn.refl h) (by rw[EV];simp;exact AO (by omega)) fun d _ os S0 ho I0=>by
   obtain⟨o,rfl⟩:∃o,os=[o]:=by
    match os,ho with
    | [o],_=>exact⟨o,rfl⟩
   obtain⟨r1,S1,e1,a1,b1,p1⟩:=Ap I0.pen (n:=4) (by decide) (by decide)
   obtain⟨r2,S2,e2,a2,b2,p2⟩:=Ap p1.pen (n:=9) (by decide) (by decide)
   obtain⟨r3,S3,e3,a3,b3,p3⟩:=Ap p2.pen (n:=4) (by decide) (by decide)
   obtain⟨x,ex,hx⟩:=pick (xs:=[.int 0,.int 1,.int r1,.int r2]) (r:=r3) a3 (by simpa using b3)
   refine⟨[some d],x,S3,rfl,by simp,by simp[e1,e2,e3,ex],((I0.trans p1).trans p2).trans p3,?_⟩
   simp only[List.mem_cons,List.not_mem_nil,or_false]at hx
   rcases hx with rfl|rfl|rfl|rfl
   ·exact⟨0,rfl,by decide,by decide⟩
   ·exact⟨1,rfl,by decide,by decide⟩
   ·exact⟨r1,rfl,by omega,by omega⟩
   ·exact⟨r2,rfl,by omega,by omega⟩
 obtain⟨ns,rfl,hns⟩:=Pa (FH r)
 exact⟨ns,S',by simpa using e,hI,by simpa[EV]using l,hns⟩
noncomputable def IF(ns:List Int):List Rat:=ns.map fun(n:Int)=>(n:Rat) / (ns.sum:Rat)
theorem K1{ns:List Int}(h:∀n∈ns,0≤n/\n≤8)(hs:0<ns.sum):∀r∈IF ns,Ok ns.sum.toNat ns.sum.toNat r:=by
 intro r hr
 obtain⟨n,hn,rfl⟩:=List.mem_map.mp hr
 have h1:=h n hn
 have h2:=(Ox h).2.2 n hn
 refine⟨n.toNat,?_,by omega⟩
 have e1:((ns.sum.toNat:Nat):Rat)=(ns.sum:Rat):=by
  have:((ns.sum.toNat:Nat):Int)=ns.sum:=by omega
  exact congrArg (fun z:Int=>(z:Rat)) this
 have e2:((n.toNat:Nat):Rat)=(n:Rat):=by
  have:((n.toNat:Nat):Int)=n:=by omega
  exact congrArg (fun z:Int=>(z:Rat)) this
 rw[e1,e2]
 have:(ns.sum:Rat)≠0:=by
  intro z
  have:=Rat.intCast_eq_zero_iff.mp z
  omega
 grind
theorem Ry{s:Rat}:∀{ns:List Int},(ns.map fun(n:Int)=>(n:Rat) / s).sum=(ns.sum:Rat) / s
  | []=>by simp;grind
  | n :: ns => by
    rw[List.map_cons,List.sum_cons,List.sum_cons,Ry (ns:=ns)]
    push_cast
    grind
theorem Of{ns:List Int}(hs:0<ns.sum):(IF ns).sum=1:=by
 unfold IF
 rw[Ry]
 have:(ns.sum:Rat)≠0:=by
  intro z
  have:=Rat.intCast_eq_zero_iff.mp z
  omega
 grind
theorem Qk{ns:List Int}{q:Nat}(hq:S[q]?=some (.lst (ns.map D.int)))(hl:ns.length≤20)(hn:∀n∈ns,0≤n/\n≤8)(hs:0<ns.sum):
  Bg [(q,ns.map D.int)] (tNm 1) Bx (AJ Bv [(eV 1),(eOp (o1 YK) [(eV 0)])]) (ns.map D.int) [] [some (.ref q),none] S=some ((IF ns).map aD,S):=by
 obtain⟨s1,s2,s3⟩:=Ox hn
 have:=comp_map (gs:=[(q,ns.map D.int)]) (t:=tNm 1) (f:=AJ Bv [(eV 1),(eOp (o1 YK) [(eV 0)])]) (C:=[some (.ref q)]) (m:=1) (g:=fun d=>match d with| .int n=>aD ((n:Rat) / (ns.sum:Rat))|d=>d) (S:=S) (fun g hg=>by rw[List.mem_singleton.mp hg];exact AY hq) (ds:=ns.map D.int) (acc:=[]) (os:=[none]) rfl (by simp;exact AO (by omega)) fun d hd os ho=>by
   obtain⟨o,rfl⟩:∃o,os=[o]:=by
    match os,ho with
    | [o],_=>exact⟨o,rfl⟩
   obtain⟨i,hi,rfl⟩:=List.mem_map.mp hd
   have m:=V1 (S:=S) (t:=i) hs (Eg (by omega) (by omega))
   exact⟨[some (.int i)],rfl,by simp,by simp[BJ hq,HF,m]⟩
 have e2:(ns.map D.int).map (fun d=>match d with| .int n=>aD ((n:Rat) / (ns.sum:Rat))|d=>d)=(IF ns).map aD:=by
  unfold IF
  rw[List.map_map,List.map_map]
  rfl
 rw[e2]at this
 simpa using this
theorem Nz(h:DX p S){n:Nat}(h1:1≤n)(h2:n≤4):∃rs S',Ci [.ref p,.int n] S=some (shD rs,S')/\Pn p S S'/\(rs.length=n/\rs.sum=1)/\∃G:Nat,0<G/\G≤32/\∀r∈rs,Ok G G r:=by
 obtain⟨ns,S1,e1,p1,l1,i1⟩:=Rh (n:=n) h (by omega)
 obtain⟨s1,s2,s3⟩:=Ox i1
 have hq:(S1++[Cl.lst (ns.map D.int)])[S1.length]?=some (.lst (ns.map D.int)):=List.getElem?_concat_length
 have pp:DX p (S1++[Cl.lst (ns.map D.int)]):=p1.pen.app _
 have hlt:=p1.pen.lt
 have r1:Ja (n:Int)=true:=E5 (by omega) (by omega)
 by_cases hz:ns.sum=0
 ·obtain⟨r,S2,e2,a2,b2,p2⟩:=Ap pp (n:=n) (by omega) (by omega)
  have hq2:S2[S1.length]?=some (.lst (ns.map D.int)):=p2.get hq (by omega)
  have hn':∀x∈ns.set r.toNat 1,0≤x/\x≤8:=fun x hx=>by
   rcases List.mem_or_eq_of_mem_set hx with hx|rfl
   ·exact i1 x hx
   ·exact⟨by decide,by decide⟩
  have hs':0<(ns.set r.toNat 1).sum:=by
   have:=(Ox hn').2.2 1 (List.mem_set (by omega) 1)
   omega
  have hq3:(S2.set S1.length (.lst ((ns.set r.toNat 1).map D.int)))[S1.length]?=some (.lst ((ns.set r.toNat 1).map D.int)):=List.getElem?_set_self (A9 hq2)
  have e3:=Qk hq3 (by simp;omega) hn' hs'
  have ix:ixN ns.length r=some r.toNat:=Qg a2 (by omega)
  refine⟨IF (ns.set r.toNat 1),S2.set S1.length (.lst ((ns.set r.toNat 1).map D.int)),?_,⟨?_,?_⟩,⟨by simp[IF,l1],Of hs'⟩,_,(show 0<(ns.set r.toNat 1).sum.toNat by omega),?_,K1 hn' hs'⟩
  ·have sq3:=He hq3
   rw[List.map_set]at e3 sq3 hq3
   simp[Ci,IQ,r1,e1,BJ hq,HF,hz,e2,AY hq2,ix,sq3,e3,shD]
  ·have g:Fm [p] S (S1++[Cl.lst (ns.map D.int)]):=p1.same.trans .app
   refine⟨Nat.le_trans (g.trans p2.same).len (by simp),fun m hm hmp=>?_⟩
   rw[List.getElem?_set_ne (by have:=p1.same.len;omega)]
   exact(g.trans p2.same).keep m hm hmp
  ·obtain⟨ds,ed,hd⟩:=p2.pen
   exact⟨ds,by rw[List.getElem?_set_ne (by omega)];exact ed,hd⟩
  ·have:=(Ox hn').2.1
   rw[List.length_set]at this
   omega
 ·have hz':(ns.sum==0)=false:=by simpa using hz
  have e3:=Qk hq (by omega) i1 (by omega)
  refine⟨IF ns,S1++[Cl.lst (ns.map D.int)],?_,⟨p1.same.trans .app,pp⟩,⟨by simp[IF,l1],Of (by omega)⟩,_,(show 0<ns.sum.toNat by omega),by omega,K1 i1 (by omega)⟩
  have sq3:=He hq
  simp[Ci,IQ,r1,e1,BJ hq,HF,hz',sq3,e3,shD]
end
section
variable{S:Sto}{p:Nat}
theorem Zc:(2:Nat)<GS:=Eg (n:=2) (by decide) (by decide)
theorem Iy(h:DX p S):∃n S',BQ [.ref p] S=some (.int n,S')/\Pn p S S'/\1≤n/\n<2^131:=by
  obtain⟨r1,S1,e1,a1,b1,p1⟩:=Ap h (n:=99) (by decide) (by decide)
  obtain⟨r2,S2,e2,a2,b2,p2⟩:=Ap p1.pen (n:=4) (by decide) (by decide)
  obtain⟨r3,S3,e3,a3,b3,p3⟩:=Ap p2.pen (n:=40) (by decide) (by decide)
  obtain⟨r4,S4,e4,a4,b4,p4⟩:=Ap p3.pen (n:=999) (by decide) (by decide)
  obtain⟨r5,S5,e5,a5,b5,p5⟩:=Ap p4.pen (n:=7) (by decide) (by decide)
  have pp:=(((p1.trans p2).trans p3).trans p4).trans p5
  have d2:=Zc
  have go:∀g:Int,1≤g->g<2^131->∃n:Int,atI [D.int (1+r2),.int (1+r3),.int (1+r4),.int g] (r5 / 2)=some (.int n)/\1≤n/\n<2^131:=fun g g1 g2=>by
    obtain⟨x,ex,hx⟩:=pick (xs:=[D.int (1+r2),.int (1+r3),.int (1+r4),.int g]) (r:=r5 / 2) (by omega) (by simp;omega)
    simp only[List.mem_cons,List.not_mem_nil,or_false]at hx
    rcases hx with rfl|rfl|rfl|rfl
    ·exact⟨_,ex,by omega,by omega⟩
    ·exact⟨_,ex,by omega,by omega⟩
    ·exact⟨_,ex,by omega,by omega⟩
    ·exact⟨_,ex,g1,g2⟩
  first
    | (obtain ⟨n, en, n1, n2⟩ := go (10 ^ 39 + r1) (by omega) (by omega)
       exact⟨n,S5,by simp[BQ,HD,e1,e2,e3,e4,e5,d2]at en ⊢; simp[en],pp,n1,n2⟩)
    | (obtain ⟨n, en, n1, n2⟩ := go (10 ^ 30 + r1) (by omega) (by omega)
       exact⟨n,S5,by simp[BQ,HD,e1,e2,e3,e4,e5,d2]at en ⊢; simp[en],pp,n1,n2⟩)
theorem G5{r:Int}(h:0≤r):∃m:Nat,r=m:=⟨r.toNat,by omega⟩
theorem WV(h:DX p S):∃t S',GW [.ref p] S=some (Tr.d t,S')/\Pn p S S'/\L3 t/\(t.ho.length=t.p/\t.ho.sum=1/\0≤t.h/\t.h≤9/\0≤t.l/\t.l≤9)/\∃G:Nat,0<G/\G≤32/\∀r∈t.ho,Ok G G r:=by
 obtain⟨r1,S1,e1,a1,b1,p1⟩:=Ap h (n:=4) (by decide) (by decide)
 obtain⟨r2,S2,e2,a2,b2,p2⟩:=Ap p1.pen (n:=5) (by decide) (by decide)
 obtain⟨r3,S3,e3,a3,b3,p3⟩:=Ap p2.pen (n:=3) (by decide) (by decide)
 obtain⟨r4,S4,e4,a4,b4,p4⟩:=Ap p3.pen (n:=20) (by decide) (by decide)
 obtain⟨r5,S5,e5,a5,b5,p5⟩:=Ap p4.pen (n:=2) (by decide) (by decide)
 obtain⟨m1,rfl⟩:=G5 a1
 obtain⟨m2,rfl⟩:=G5 a2
 obtain⟨b,eb,hb1,hb2⟩:∃b:Nat,atI [D.int (1+r3),.int (1+r4)] r5=some (.int b)/\1≤b/\b≤20:=by
  obtain⟨x,ex,hx⟩:=pick (xs:=[D.int (1+r3),.int (1+r4)]) (r:=r5) a5 (by simpa using b5)
  obtain⟨m3,rfl⟩:=G5 a3
  obtain⟨m4,rfl⟩:=G5 a4
  simp only[List.mem_cons,List.not_mem_nil,or_false]at hx
  rcases hx with rfl|rfl
  ·exact⟨1+m3,by rw[ex];simp,by omega,by omega⟩
  ·exact⟨1+m4,by rw[ex];simp,by omega,by omega⟩
 obtain⟨rs,S6,e6,p6,l6,G,g0,g1,g2⟩:=Nz p5.pen (n:=1+m1) (by omega) (by omega)
 obtain⟨r7,S7,e7,a7,b7,p7⟩:=Ap p6.pen (n:=10) (by decide) (by decide)
 obtain⟨r8,S8,e8,a8,b8,p8⟩:=Ap p7.pen (n:=10) (by decide) (by decide)
 rw[show((1+m1:Nat):Int)=1+(m1:Int) by omega]at e6
 refine⟨⟨1+m1,1+m2,b,rs,r7,r8⟩,S8,?_,((((((p1.trans p2).trans p3).trans p4).trans p5).trans p6).trans p7).trans p8,⟨by simp,by simp;omega,by simp,by simp;omega,hb1,hb2⟩,⟨l6.1,l6.2,a7,by show r7≤9;omega,a8,by show r8≤9;omega⟩,G,g0,g1,g2⟩
 simp[GW,LF,e1,e2,e3,e4,e5,eb,e6,e7,e8,Tr.d]
theorem W8(h:DX p S):∃x S',FP [.ref p] S=some (aD x,S')/\Pn p S S'/\0<x.num/\x.num≤x.den/\x.den≤12:=by
 obtain⟨r1,S1,e1,a1,b1,p1⟩:=Ap h (n:=12) (by decide) (by decide)
 obtain⟨r2,S2,e2,a2,b2,p2⟩:=Ap p1.pen (n:=1+r1) (by omega) (by omega)
 have m:=V1 (S:=S2) (t:=1+r2) (b:=1+r1) (by omega) (Eg (by omega) (by omega))
 obtain⟨m1,rfl⟩:=G5 a1
 obtain⟨m2,rfl⟩:=G5 a2
 have rp:=Lo (1+(m2:Int)) (1+m1) (by omega)
 have eb:(((1+(m1:Int):Int)):Rat)=(((1+m1:Nat)):Rat):=by
  have:(1+(m1:Int))=((1+m1:Nat):Int):=by omega
  rw[this];rfl
 have en:(1+(m2:Int)).natAbs=1+m2:=by omega
 have gp:0<Nat.gcd (1+m2) (1+m1):=Nat.gcd_pos_of_pos_left _ (by omega)
 obtain⟨q,hq⟩:=Nat.gcd_dvd_left (1+m2) (1+m1)
 obtain⟨q',hq'⟩:=Nat.gcd_dvd_right (1+m2) (1+m1)
 refine⟨((1+(m2:Int):Int):Rat) / ((1+(m1:Int):Int):Rat),S2,?_,p1.trans p2,?_,?_,?_⟩
 ·simp[FP,Lk,e1,e2,m]
 ·rw[eb,rp.1,en]
  generalize Nat.gcd (1+m2) (1+m1)=g at*
  have:(1+(m2:Int))=((g*q:Nat):Int):=by omega
  rw[this,Int.natCast_mul,Int.mul_ediv_cancel_left _ (by omega)]
  have:q≠0:=fun z=>by subst z;omega
  omega
 ·rw[eb,rp.1,rp.2,en]
  generalize Nat.gcd (1+m2) (1+m1)=g at*
  have t1:(1+(m2:Int))=((g*q:Nat):Int):=by omega
  rw[t1,Int.natCast_mul,Int.mul_ediv_cancel_left _ (by omega),hq',Nat.mul_div_cancel_left _ gp]
  have:q≤q':=by
   have:g*q≤g*q':=by omega
   exact Nat.le_of_mul_le_mul_left this gp
  omega
 ·rw[eb,rp.2]
  exact Nat.le_trans (Nat.div_le_self _ _) (by omega)
theorem SS(h:DX p S){n:Nat}(hn:n≤6):∃(ws:List Int) (S':Sto),Dp [.ref p,.int n] S=some (.tup (ws.map .int),S')/\Pn p S S'/\ws.length=n/\∀w∈ws,1≤w/\w≤99:=by
 obtain⟨ys,S',e,hI,l,r⟩:=Hq (gs:=[]) (t:=tNm 1) (f:=(eOp (o2 B9) [(eC (.int 1)),(eOp (o2 wIx) [(Hj [(AJ AI [(eV 0),(eC (.int 3))]),(AJ AI [(eV 0),(eC (.int 99))])]),(AJ AI [(eV 0),(eC (.int 2))])])])) (C:=[some (.ref p)]) (m:=1) (I:=Pn p S) (R:=fun _ y=>∃i:Int,y=.int i/\1≤i/\i≤99)
  (fun _ _=>BU) (ds:=Kw 0 n) (acc:=[]) (os:=[none]) rfl (Pn.refl h) (by rw[EV];simp;exact AO (by omega)) fun d _ os S0 ho I0=>by
   obtain⟨o,rfl⟩:∃o,os=[o]:=by
    match os,ho with
    | [o],_=>exact⟨o,rfl⟩
   obtain⟨r1,S1,e1,a1,b1,p1⟩:=Ap I0.pen (n:=3) (by decide) (by decide)
   obtain⟨r2,S2,e2,a2,b2,p2⟩:=Ap p1.pen (n:=99) (by decide) (by decide)
   obtain⟨r3,S3,e3,a3,b3,p3⟩:=Ap p2.pen (n:=2) (by decide) (by decide)
   obtain⟨x,ex,hx⟩:=pick (xs:=[.int r1,.int r2]) (r:=r3) a3 (by simpa using b3)
   simp only[List.mem_cons,List.not_mem_nil,or_false]at hx
   rcases hx with rfl|rfl
   ·exact⟨[some d],.int (1+r1),S3,rfl,by simp,by simp[e1,e2,e3,ex],((I0.trans p1).trans p2).trans p3,_,rfl,by omega,by omega⟩
   ·exact⟨[some d],.int (1+r2),S3,rfl,by simp,by simp[e1,e2,e3,ex],((I0.trans p1).trans p2).trans p3,_,rfl,by omega,by omega⟩
 obtain⟨ns,rfl,hns⟩:=Pa (FH r)
 have r1:Ja (n:Int)=true:=E5 (by omega) (by omega)
 have e':Bg [] (tNm 1) Bx (eOp (o2 B9) [(eC (.int 1)),(eOp (o2 wIx) [(Hj [(AJ AI [(eV 0),(eC (.int 3))]),(AJ AI [(eV 0),(eC (.int 99))])]),(AJ AI [(eV 0),(eC (.int 2))])])]) (Kw 0 n) [] [some (.ref p),none] S=some (ns.map D.int,S'):=by simpa using e
 exact⟨ns,S',by simp[Dp,KA,r1,e'],hI,by simpa[EV]using l,hns⟩
def Gs(t:Tr)(ls:List Ld):Prop:=(∀l∈ls,l.k<t.k/\1≤l.n/\l.n<2^131/\l.ow.length=t.p/\l.ow.sum=1)/\∃G:Nat,0<G/\G≤32^ls.length/\∀l∈ls,∀r∈l.ow,Ok G G r
theorem Gs.snoc{t:Tr}{ls:List Ld}{l:Ld}(h:Gs t ls)(h1:l.k<t.k/\1≤l.n/\l.n<2^131/\l.ow.length=t.p/\l.ow.sum=1){g:Nat}(g0:0<g)(g1:g≤32)(g2:∀r∈l.ow,Ok g g r):Gs t (ls++[l]):=by
 obtain⟨ha,G,G0,G1,G2⟩:=h
 refine⟨fun x hx=>?_,G*g,Nat.mul_pos G0 g0,?_,fun x hx r hr=>?_⟩
 ·rcases List.mem_append.mp hx with hx|hx
  ·exact ha x hx
  ·rw[List.mem_singleton.mp hx];exact h1
 ·rw[List.length_append,List.length_singleton,Nat.pow_succ]
  exact Nat.mul_le_mul G1 g1
 ·rcases List.mem_append.mp hx with hx|hx
  ·exact(G2 x hx r hr).up (Nat.le_refl _)
  ·rw[List.mem_singleton.mp hx]at hr
   have:=(g2 r hr).up (t:=G) (B':=G*g) (by rw[Nat.mul_comm];exact Nat.le_refl _)
   rwa [Nat.mul_comm g G]at this
end
section
variable{S:Sto}{p:Nat}
theorem Gs.nil{t:Tr}:Gs t []:=⟨fun l hl=>(nomatch hl),1,by decide,by simp,fun l hl=>(nomatch hl)⟩
theorem XZ(h:DX p S){t:Tr}(ht:L3 t):∃(ls:List Ld) (S':Sto),Gj [.ref p,t.d] S=some (.tup (ls.map Ld.d),S')/\Pn p S S'/\Gs t ls/\ls.length≤4:=by
 obtain⟨t1,t2,t3,t4,t5,t6⟩:=ht
 have hlt:=h.lt
 have hq:(S++[Cl.lst []])[S.length]?=some (.lst []):=List.getElem?_concat_length
 obtain⟨r1,S1,e1,a1,b1,p1⟩:=Ap (h.app [Cl.lst []]) (n:=5) (by decide) (by decide)
 obtain⟨r2,S2,e2,a2,b2,p2⟩:=Ap p1.pen (n:=3) (by decide) (by decide)
 obtain⟨n,en,hn⟩:∃n:Nat,atI [D.int 0,.int 1,.int r1] r2=some (.int n)/\n≤4:=by
  obtain⟨x,ex,hx⟩:=pick (xs:=[D.int 0,.int 1,.int r1]) (r:=r2) a2 (by simpa using b2)
  simp only[List.mem_cons,List.not_mem_nil,or_false]at hx
  rcases hx with rfl|rfl|rfl
  ·exact⟨0,ex,by decide⟩
  ·exact⟨1,ex,by decide⟩
  ·exact⟨r1.toNat,by rw[ex,Int.toNat_of_nonneg a1],by omega⟩
 have q2:S2[S.length]?=some (.lst []):=(p1.trans p2).get hq (by omega)
 have rn:Ja (n:Int)=true:=E5 (by omega) (by omega)
 obtain⟨E',S',ef,ls,o,rfl,f1,f2,f3,f4,f5⟩:=Li (gs:=[]) (t:=tNm 3) (b:=G7 (PV Po (eV 2) [(BD [(AJ AI [(eV 0),(eOp (o2 wIx) [(eV 1),(eC (.int 1))])]),(AJ BQ [(eV 0)]),(AJ Ci [(eV 0),(eOp (o2 wIx) [(eV 1),(eC (.int 0))])])])]))
  (I:=fun ds E S'=>∃(ls:List Ld) (o:Option D),E=[some (.ref p),some t.d,some (.ref S.length),o]/\S'[S.length]?=some (.lst (ls.map Ld.d))/\DX p S'/\Fm [p] S S'/\Gs t ls/\ls.length+ds.length≤4)
  (fun _ _ _ _=>BU) (ds:=Kw 0 n) (E:=[some (.ref p),some t.d,some (.ref S.length),none]) (S:=S2)
  ⟨[],none,rfl,q2,p2.pen,(Fm.app.trans (p1.trans p2).same),Gs.nil,by simp[EV];exact hn⟩ (by
   rintro d ds E S0 ⟨ls,o,rfl,i1,i2,i3,i4,i5⟩
   obtain⟨x1,T1,g1,c1,d1,k1⟩:=Ap i2 (n:=t.k) (by omega) (by omega)
   obtain⟨x2,T2,g2,k2,c2,d2⟩:=Iy k1.pen
   obtain⟨rs,T3,g3,k3,l3,G,G0,G1,G2⟩:=Nz k2.pen (n:=t.p) t1 t2
   obtain⟨m1,rfl⟩:=G5 c1
   have kk:=(k1.trans k2).trans k3
   have j1:T3[S.length]?=some (.lst (ls.map Ld.d)):=kk.get i1 (by omega)
   have hz:ls.length<sizeLine:=Nat.lt_of_lt_of_le (show ls.length<5 by omega) (AO (by decide))
   refine⟨[some (.ref p),some t.d,some (.ref S.length),some d],[some (.ref p),some t.d,some (.ref S.length),some d],T3.set S.length (.lst ((ls++[Ld.mk m1 x2 rs]).map Ld.d)),by simp,?_,ls++[Ld.mk m1 x2 rs],some d,rfl,List.getElem?_set_self (A9 j1),?_,?_,i4.snoc (l:=Ld.mk m1 x2 rs) ⟨show m1<t.k by omega,c2,d2,l3⟩ G0 G1 G2,by simp at i5 ⊢; omega⟩
   ·have e3:atI [D.int t.p,.int t.k,.int t.b,shD t.ho,.int t.h,.int t.l] 1=some (.int t.k):=by simp
    simp[Tr.d,g1,g2,g3,AY i1,AY j1,hz,Ld.d]
   ·obtain⟨ds',ed,hd⟩:=kk.pen
    exact⟨ds',by rw[List.getElem?_set_ne (by omega)];exact ed,hd⟩
   ·refine⟨Nat.le_trans (i3.trans kk.same).len (by simp),fun m hm hmp=>?_⟩
    rw[List.getElem?_set_ne (by omega)]
    exact(i3.trans kk.same).keep m hm hmp)
 refine⟨ls,S',?_,⟨f3,f2⟩,f4,by simpa using f5⟩
 simp[Gj,LV,e1,e2,en,rn,ef,BJ f1]
noncomputable def CP(x:Ld):Cl:=.lst [.int x.k,.int x.n,shD x.ow]
structure SAt(S:Sto)(s l m:Nat)(as:List Nat)(st:Stt):Prop where
 root:S[s]?=some (.lst [.ref l,shD st.hold,.ref m])
 lo:S[l]?=some (.lst (as.map .ref))
 nu:S[m]?=some (.lst (st.nums.map .int))
 ld:∀(i a:Nat) (x:Ld),as[i]?=some a->st.loads[i]?=some x->S[a]?=some (CP x)
 len:as.length=st.loads.length
 nd:(s::l::m::as).Nodup
theorem YX:∀{ls:List Ld} {acc:List D} {o:Option D} {S:Sto},acc.length+ls.length≤100->Bg [] (tNm 0) Bx (eK (o1 Ia) [(eV 0)]) (ls.map Ld.d) acc [o] S=some (acc++(List.range' S.length ls.length).map D.ref,S++ls.map CP)
  | [],acc,o,S,h=>by rw[List.map_nil,Fc BU];simp
  | x :: ls, acc, o, S, h => by
    rw[List.map_cons,Jm (E1:=[some x.d]) BU (Nat.lt_of_lt_of_le (show acc.length<101 by simp at h;omega) (AO (by decide))) (by simp) Io]
    have:eK (o1 Ia) [(eV 0)] [some x.d] S=some (.ref S.length,S++[CP x]):=by simp[Ld.d,CP]
    rw[this,CI,YX (by simp at h ⊢; omega)]
    simp[List.range'_succ]
theorem getElem?_at{α:Type}{xs:List α}{x:α}{n:Nat}(h:n=xs.length):(xs++[x])[n]?=some x:=by subst h;exact List.getElem?_concat_length
theorem W5{t:Tr}{ls:List Ld}{x:D}(hl:ls.length≤20):∃s l m as S',Gw [.tup [t.d,.tup (ls.map Ld.d),x]] S=some (.ref s,S')/\SAt S' s l m as ⟨ls,t.ho,[]⟩/\Fm [] S S'/\(∀n∈s::l::m::as,S.length≤n):=by
 have e:=YX (ls:=ls) (acc:=[]) (o:=none) (S:=S) (by simp;omega)
 refine⟨S.length+ls.length+2,S.length+ls.length,S.length+ls.length+1,List.range' S.length ls.length,S++ls.map CP++[.lst ((List.range' S.length ls.length).map D.ref)]++[.lst []]++[.lst [.ref (S.length+ls.length),shD t.ho,.ref (S.length+ls.length+1)]],?_,⟨?_,?_,?_,?_,?_,?_⟩,?_,?_⟩
 ·simp[Gw,Ku,Tr.d,e,shD]
  omega
 ·exact getElem?_at (by simp;omega)
 ·rw[List.getElem?_append_left (by simp),List.getElem?_append_left (by simp)]
  exact getElem?_at (by simp)
 ·rw[List.getElem?_append_left (by simp;omega)]
  exact getElem?_at (by simp;omega)
 ·intro i a y ha hy
  have hi:i<ls.length:=(List.getElem?_eq_some_iff.mp hy).1
  have:a=S.length+i:=by
   rw[List.getElem?_range' hi]at ha
   simp at ha;omega
  subst this
  rw[List.getElem?_append_left (by simp;omega),List.getElem?_append_left (by simp;omega),List.getElem?_append_left (by simp;omega),List.getElem?_append_right (by omega)]
  have hy':ls[i]?=some y:=hy
  simp[hy']
 ·simp
 ·rw[List.nodup_cons,List.nodup_cons,List.nodup_cons]
  refine⟨?_,?_,?_,List.nodup_range'⟩
  ·simp only[List.mem_cons,List.mem_range'_1];omega
  ·simp only[List.mem_cons,List.mem_range'_1];omega
  ·simp only[List.mem_range'_1];omega
 ·rw[List.append_assoc,List.append_assoc,List.append_assoc]
  exact .app
 ·intro n hn
  simp only[List.mem_cons,List.mem_range'_1]at hn
  omega
end
section
variable{S:Sto}{p:Nat}
@[simp] theorem kS{rs:List Rat}{S:Sto}:sqD S (shD rs)=some (rs.map aD,[]):=nr rfl
@[simp] theorem gU{S:Sto}{r:List D}:dr (S++[.lst r]) (.ref S.length)=.own r:=BJ List.getElem?_concat_length
@[simp] theorem af{S:Sto}{r:List D}:Em (S++[.lst r]) S.length=some r:=AY List.getElem?_concat_length
theorem set_same{S:Sto}{q:Nat}{c:Cl}(h:S[q]?=some c):S.set q c=S:=by
 apply List.ext_getElem?
 intro i
 by_cases e:q=i
 ·subst e;rw[List.getElem?_set_self (A9 h),h]
 ·rw[List.getElem?_set_ne e]
theorem Pm{gs:Gd}{t:Tf}{b:Ex}{C:En}{m q:Nat}{h:D->D}{I:Sto->Prop}(hg:∀S,I S->gOk gs S)(hI:∀S c,I S->I (S.set q c)):∀{ds acc:List D} {os:En} {S:Sto},os.length=m->I S->S[q]?=some (.lst acc)->acc.length+ds.length≤1000->
    (∀d∈ds,∀os S acc,os.length=m->I S->S[q]?=some (.lst acc)->acc.length<sizeLine->∃us us',t d (C++os) S=some (C++us)/\b (C++us) S=some (.nx,C++us',S.set q (.lst (acc++[h d])))/\us'.length=m)->
    ∃os',os'.length=m/\MC gs t b ds (C++os) S=some (.nx,C++os',S.set q (.lst (acc++ds.map h)))
  | [], acc, os, S, ho, hS, hq, hz, H => ⟨os, ho, by
      rw[N9 (hg S hS)]
      have:S.set q (.lst (acc++List.map h []))=S:=by
        rw[List.map_nil,List.append_nil]
        exact set_same hq
      rw[this]⟩
  | d :: ds, acc, os, S, ho, hS, hq, hz, H => by
    have hl:=A9 hq
    obtain⟨us,us',e1,e2,hu⟩:=H d List.mem_cons_self os S acc ho hS hq (Nat.lt_of_lt_of_le (show acc.length<1001 by simp at hz;omega) (Nat.le_trans (by decide) (show 1001≤sizeLine by decide)))
    obtain⟨os',ho',e3⟩:=Pm hg hI (ds:=ds) (acc:=acc++[h d]) (os:=us') (S:=S.set q (.lst (acc++[h d]))) hu (hI S _ hS) (List.getElem?_set_self hl) (by simp at hz ⊢; omega) fun d' hd=>H d' (List.mem_cons_of_mem _ hd)
    refine⟨os',ho',?_⟩
    rw[Jv (hg S hS),e1,CI,e2,CI,Fe,e3,List.set_set]
    simp
noncomputable def un:D->Rat
 | .tup [.int n,.int d]=>(n:Rat) / (d:Rat)
 |_=>0
theorem aL(r:Rat):un (aD r)=r:=F1 r
noncomputable def QA(f:Rat->Rat->Rat):D->D
 | .tup [a,b]=>aD (f (un a) (un b))
 |d=>d
theorem NP{f:Rat->Rat->Rat}:∀{ss os:List Rat},(PZ (ss.map aD) (os.map aD)).map (QA f)=(List.zipWith f ss os).map aD
  | [],os=>by simp[PZ]
  |s::ss,[]=>by simp[PZ]
  | s :: ss, o :: os => by
    have ih:=NP (f:=f) (ss:=ss) (os:=os)
    unfold PZ at ih⊢
    simp only[List.map_cons,List.zip_cons_cons,List.zipWith_cons_cons]at ih⊢
    rw[ih]
    simp[QA,aL]
theorem Ru{ss os:List Rat}{d:D}(h:d∈PZ (ss.map aD) (os.map aD)):∃s∈ss,∃o∈os,d=.tup [aD s,aD o]:=by
 unfold PZ at h
 obtain⟨⟨a,b⟩,h1,rfl⟩:=List.mem_map.mp h
 have h2:=List.of_mem_zip h1
 obtain⟨s,hs,rfl⟩:=List.mem_map.mp h2.1
 obtain⟨o,ho,rfl⟩:=List.mem_map.mp h2.2
 exact⟨s,hs,o,ho,rfl⟩
theorem dJ:aD 1=.tup [.int 1,.int 1]:=rfl
theorem c9(n:Int):aD (n:Rat)=.tup [.int n,.int 1]:=by
 unfold aD
 simp
theorem Ye{n:Int}{k:Nat}(h:n.natAbs<2^k)(hk:1≤k):Sz k (n:Rat):=by
 unfold Sz
 have:1<2^k:=Nat.one_lt_two_pow (by omega)
 simp[h,this]
theorem YI{k:Nat}(hk:1≤k):Sz k (1:Rat):=by
 have:1<2^k:=Nat.one_lt_two_pow (by omega)
 exact⟨by simpa using this,by simpa using this⟩
theorem Qo{x:Rat}{ss os:List Rat}{j i:Nat}(hs:∀r∈ss,Sz j r)(ho:∀r∈os,Sz j r)(hx:Sz i x)(hj:2*j+2*i≤7900)(hl:ss.length≤10):∃S',EH [shD ss,aD x,shD os] S=some (shD (KU x os ss),S')/\Fm [] S S':=by
 have hq:(S++[Cl.lst []])[S.length]?=some (.lst []):=List.getElem?_concat_length
 obtain⟨os',ho',e⟩:=Pm (gs:=[]) (t:=tTp [(tNm 4),(tNm 5)]) (b:=G7 (PV Po (eV 3) [(AJ BX [(AJ A7 [(eV 4),(AJ Dk [(BD [(eC (.int 1)),(eC (.int 1))]),(eV 1)])]),(AJ A7 [(eV 5),(eV 1)])])])) (C:=[some (shD ss),some (aD x),some (shD os),some (.ref S.length)]) (m:=2) (q:=S.length) (h:=QA fun s o=>s*(1-x)+o*x) (I:=fun _=>True) (fun _ _=>BU) (fun _ _ _=>trivial)
  (ds:=PZ (ss.map aD) (os.map aD)) (acc:=[]) (os:=[none,none]) (S:=S++[Cl.lst []]) rfl trivial hq (by simp[Km];omega) (by
   intro d hd os0 S0 acc h0 _ hq0 hz
   obtain⟨o1,o2,rfl⟩:∃o1 o2,os0=[o1,o2]:=by
    match os0,h0 with
    | [a,b],_=>exact⟨a,b,rfl⟩
   obtain⟨s,hs',o,ho',rfl⟩:=Ru hd
   have l1:=Xx (S:=S0) (YI (k:=1) (by decide)) hx (by omega)
   have s1:=(cQ (YI (k:=1) (by decide)) hx)
   have l2:=Jn (S:=S0) (hs s hs') s1 (by omega)
   have l3:=Jn (S:=S0) (ho o ho') hx (by omega)
   have l4:=Qf (S:=S0) (O3 (hs s hs') s1) (O3 (ho o ho') hx) (by omega)
   rw[dJ]at l1
   refine⟨[some (aD s),some (aD o)],[some (aD s),some (aD o)],by simp,?_,rfl⟩
   simp[l1,l2,l3,l4,AY hq0,hz,QA,aL])
 rw[NP]at e
 refine⟨(S++[Cl.lst []]).set S.length (.lst ((KU x os ss).map aD)),?_,?_⟩
 ·have e':MC [] (tTp [(tNm 4),(tNm 5)]) (G7 (PV Po (eV 3) [(AJ BX [(AJ A7 [(eV 4),(AJ Dk [(BD [(eC (.int 1)),(eC (.int 1))]),(eV 1)])]),(AJ A7 [(eV 5),(eV 1)])])])) (PZ (ss.map aD) (os.map aD)) [some (shD ss),some (aD x),some (shD os),some (.ref S.length),none,none] (S++[Cl.lst []])=some (.nx,[some (shD ss),some (aD x),some (shD os),some (.ref S.length)]++os',(S++[Cl.lst []]).set S.length (.lst ((KU x os ss).map aD))):=by simpa[KU]using e
  simp[EH,LZ,e']
  rfl
 ·refine⟨by simp,fun n hn _=>?_⟩
  rw[List.getElem?_set_ne (by omega),List.getElem?_append_left hn]
end
section
variable{S:Sto}{p:Nat}
theorem getD_get{α:Type}{xs:List α}{n:Nat}{d:α}(h:n<xs.length):xs[n]?=some (xs.getD n d):=by
 rw[List.getD_eq_getElem?_getD,List.getElem?_eq_getElem h]
 rfl
theorem getD_mem{α:Type}{xs:List α}{n:Nat}{d:α}(h:n<xs.length):xs.getD n d∈xs:=List.mem_of_getElem? (getD_get h)
theorem dm{ss:List Rat}{n:Nat}(h:n<ss.length):atI (ss.map aD) (n:Int)=some (aD (ss.getD n 0)):=Ep (by rw[List.getElem?_map,getD_get h];rfl)
theorem bc{ss:List Rat}{n:Nat}(h:n<ss.length):ixN (ss.map aD).length (n:Int)=some n:=Pr (by simpa using h)
theorem Ta{p q:Nat}{x:Rat}{ss:List Rat}{j i:Nat}(hs:∀r∈ss,Sz j r)(hx:Sz i x)(hj:2*j+i≤7900)(hp:p<ss.length)(hq:q<ss.length)(hpq:p≠q):∃S',FD [shD ss,(Bf.sell p q x).d] S=some (shD (JE p q x ss),S')/\Fm [] S S':=by
 have sp:=hs _ (getD_mem (d:=0) hp)
 have sq:=hs _ (getD_mem (d:=0) hq)
 have l1:∀S,A7 [aD (ss.getD p 0),aD x] S=some (aD (ss.getD p 0*x),S):=fun S=>Jn sp hx (by omega)
 have s1:=O3 sp hx
 have l2:∀S,Dk [aD (ss.getD p 0),aD (ss.getD p 0*x)] S=some (aD (ss.getD p 0-ss.getD p 0*x),S):=fun S=>Xx sp s1 (by omega)
 have l3:∀S,BX [aD (ss.getD q 0),aD (ss.getD p 0*x)] S=some (aD (ss.getD q 0+ss.getD p 0*x),S):=fun S=>Qf sq s1 (by omega)
 have a1:=dm hp
 have i1:=bc hp
 have i2:ixN (((ss.map aD).set p (aD (ss.getD p 0-ss.getD p 0*x))).length) (q:Int)=some q:=Pr (by simpa using hq)
 have a2:atI ((ss.map aD).set p (aD (ss.getD p 0-ss.getD p 0*x))) (q:Int)=some (aD (ss.getD q 0)):=Ep (by
  rw[List.getElem?_set_ne hpq,List.getElem?_map,getD_get hq];rfl)
 refine⟨S++[.lst ((JE p q x ss).map aD)],?_,.app⟩
 simp only[List.length_set,List.length_map]at i1 i2
 have em:(JE p q x ss).map aD=((ss.map aD).set p (aD (ss.getD p 0-ss.getD p 0*x))).set q (aD (ss.getD q 0+ss.getD p 0*x)):=by rw[JE,List.map_set,List.map_set]
 unfold shD
 rw[em]
 generalize aD (ss.getD p 0-ss.getD p 0*x)=d1 at*
 generalize aD (ss.getD q 0+ss.getD p 0*x)=d2 at*
 generalize aD (ss.getD p 0*x)=d3 at*
 generalize aD (ss.getD p 0)=d4 at*
 generalize aD (ss.getD q 0)=d5 at*
 simp[FD,MW,Bf.d,a1,l1,l2,l3,i1,i2,a2]
theorem UI{x y:Ld}{a b:Nat}{j i:Nat}(ha:S[a]?=some (CP x))(hb:S[b]?=some (CP y))(hs:∀r∈x.ow,Sz j r)(ho:∀r∈y.ow,Sz j r)(hx:x.n.natAbs<2^i)(hy:y.n.natAbs<2^i)(h0:0<x.n+y.n)(h1:1≤i)(hj:2*j+4*i≤7900)(hl:x.ow.length≤10):∃S',Fs [.ref a,.ref b] S=some (shD (FT x.n y.n x.ow y.ow),S')/\Fm [] S S':=by
 have la:=A9 ha
 have lb:=A9 hb
 have hq:(S++[Cl.lst []])[S.length]?=some (.lst []):=List.getElem?_concat_length
 have ha':(S++[Cl.lst []])[a]?=some (CP x):=by rw[List.getElem?_append_left la];exact ha
 have hb':(S++[Cl.lst []])[b]?=some (CP y):=by rw[List.getElem?_append_left lb];exact hb
 obtain⟨os',ho',e⟩:=Pm (gs:=[]) (t:=tTp [(tNm 3),(tNm 4)]) (b:=Ai (CF 5 (AJ BX [(AJ A7 [(BD [(eOp (o2 wIx) [(eV 0),(eC (.int 1))]),(eC (.int 1))]),(eV 3)]),(AJ A7 [(BD [(eOp (o2 wIx) [(eV 1),(eC (.int 1))]),(eC (.int 1))]),(eV 4)])]))
  (G7 (PV Po (eV 2) [(AJ A7 [(eV 5),(AJ Bv [(eC (.int 1)),(eOp (o2 B9) [(eOp (o2 wIx) [(eV 0),(eC (.int 1))]),(eOp (o2 wIx) [(eV 1),(eC (.int 1))])])])])]))) (C:=[some (.ref a),some (.ref b),some (.ref S.length)]) (m:=3) (q:=S.length) (h:=QA fun s o=>(s*x.n+o*y.n) / (x.n+y.n:Int)) (I:=fun S'=>S'[a]?=some (CP x)/\S'[b]?=some (CP y)) (fun _ _=>BU) (fun S' c h=>⟨by rw[List.getElem?_set_ne (by omega)];exact h.1,by rw[List.getElem?_set_ne (by omega)];exact h.2⟩)
  (ds:=PZ (x.ow.map aD) (y.ow.map aD)) (acc:=[]) (os:=[none,none,none]) (S:=S++[Cl.lst []]) rfl ⟨ha',hb'⟩ hq (by simp[Km];omega) (by
   intro d hd os0 S0 acc h0' hI hq0 hz
   obtain⟨o1,o2,o3,rfl⟩:∃o1 o2 o3,os0=[o1,o2,o3]:=by
    match os0,h0' with
    | [a,b,c],_=>exact⟨a,b,c,rfl⟩
   obtain⟨s,hs',o,ho',rfl⟩:=Ru hd
   have d1:=BJ hI.1
   have d2:=BJ hI.2
   have z1:=Ye hx h1
   have z2:=Ye hy h1
   have l1:=Jn (S:=S0) z1 (hs s hs') (by omega)
   have l2:=Jn (S:=S0) z2 (ho o ho') (by omega)
   have s1:=O3 z1 (hs s hs')
   have s2:=O3 z2 (ho o ho')
   have l3:=Qf (S:=S0) s1 s2 (by omega)
   have b1:=Rf hx hy
   have l4:=V1 (S:=S0) (t:=1) h0 (HK b1 (by omega))
   have s4:Sz (i+1) (((1:Int):Rat) / ((x.n+y.n:Int):Rat)):=Mr h0 (show(1:Int).natAbs<2^(i+1)from Nat.one_lt_two_pow (by omega)) b1
   have l5:=Jn (S:=S0) (dg s1 s2) s4 (by omega)
   rw[c9]at l1 l2
   refine⟨[some (aD s),some (aD o),o3],[some (aD s),some (aD o),some (aD (x.n*s+y.n*o))],by simp,?_,rfl⟩
   have ev:(((x.n:Rat)*s+(y.n:Rat)*o)*(((1:Int):Rat) / ((x.n+y.n:Int):Rat)))=(s*x.n+o*y.n) / (x.n+y.n:Int):=by
    push_cast
    grind
   rw[ev]at l5
   have lf:(QA fun s o=>(s*x.n+o*y.n) / (x.n+y.n:Int)) (.tup [aD s,aD o])=aD ((s*x.n+o*y.n) / (x.n+y.n:Int)):=by simp only[QA,aL]
   rw[lf]
   generalize aD ((s*x.n+o*y.n) / (x.n+y.n:Int))=e5 at*
   generalize aD (((1:Int):Rat) / ((x.n+y.n:Int):Rat))=e4 at*
   generalize aD (x.n*s+y.n*o)=e3 at*
   simp[d1,d2,CP,l1,l2,l3,l4,l5,AY hq0,hz])
 rw[NP]at e
 refine⟨(S++[Cl.lst []]).set S.length (.lst ((FT x.n y.n x.ow y.ow).map aD)),?_,?_⟩
 ·have e':=e
  simp only[List.cons_append,List.nil_append]at e'
  have d1:=BJ ha'
  have d2:=BJ hb'
  change MC _ _ _ _ _ _=some (_,_,List.set _ _ (Cl.lst (List.map aD (FT x.n y.n x.ow y.ow))))at e'
  generalize FT x.n y.n x.ow y.ow=rs at*
  simp[Fs,KI,d1,d2,e',shD]
 ·refine⟨by simp,fun n hn _=>?_⟩
  rw[List.getElem?_set_ne (by omega),List.getElem?_append_left hn]
end
section
variable{S:Sto}{p:Nat}
theorem NY{α:Type}{gs:Gd}{t:Tf}{f:Ev}{C:En}{m:Nat}{e g:α->D}{S:Sto}(hg:gOk gs S):∀{xs:List α} {acc:List D} {os:En},os.length=m->acc.length+xs.length≤sizeLine->
    (∀x∈xs,∀os,os.length=m->∃us,us.length=m/\t (e x) (C++os) S=some (C++us)/\f (C++us) S=some (g x,S))->
    Bg gs t Bx f (xs.map e) acc (C++os) S=some (acc++xs.map g,S)
  | [],acc,os,ho,hz,h=>by rw[List.map_nil,Fc hg];simp
  | x :: xs, acc, os, ho, hz, h => by
    obtain⟨us,hu,e1,e2⟩:=h x List.mem_cons_self os ho
    rw[List.map_cons,Jm hg (by simp at hz;omega) e1 Io,e2,CI]
    rw[NY hg hu (by simp at hz ⊢; omega) fun x' hx=>h x' (List.mem_cons_of_mem _ hx)]
    simp
theorem GN{α:Type}{gs:Gd}{t:Tf}{c f:Ev}{C:En}{m:Nat}{e g:α->D}{b:α->Bool}{S:Sto}(hg:gOk gs S):∀{xs:List α} {acc:List D} {os:En},os.length=m->acc.length+xs.length≤sizeLine->
    (∀x∈xs,∀os,os.length=m->∃us,us.length=m/\t (e x) (C++os) S=some (C++us)/\c (C++us) S=some (.bl (b x),S)/\f (C++us) S=some (g x,S))->
    Bg gs t c f (xs.map e) acc (C++os) S=some (acc++(xs.filter b).map g,S)
  | [],acc,os,ho,hz,h=>by rw[List.map_nil,Fc hg];simp
  | x :: xs, acc, os, ho, hz, h => by
    obtain⟨us,hu,e1,e2,e3⟩:=h x List.mem_cons_self os ho
    cases hb:b x with
    | true =>
      rw[hb]at e2
      rw[List.map_cons,Jm hg (by simp at hz;omega) e1 e2,e3,CI,GN hg hu (by simp at hz ⊢; omega) fun d' hd=>h d' (List.mem_cons_of_mem _ hd)]
      simp[hb]
    | false =>
      rw[hb]at e2
      rw[List.map_cons,UB hg (by simp at hz;omega) e1 e2,GN hg hu (by simp at hz ⊢; omega) fun d' hd=>h d' (List.mem_cons_of_mem _ hd)]
      simp[hb]
theorem V3{as:List Nat}{ls:List Ld}(h:as.length=ls.length):as.map D.ref=(as.zip ls).map fun z=>D.ref z.1:=by
 have:as=(as.zip ls).map Prod.fst:=(List.map_fst_zip (by omega)).symm
 conv=>lhs;rw[this]
 rw[List.map_map];rfl
theorem Yy{β:Type}{as:List Nat}{ls:List Ld}(h:as.length=ls.length)(g:Ld->β):ls.map g=(as.zip ls).map fun z=>g z.2:=by
 have:ls=(as.zip ls).map Prod.snd:=(List.map_snd_zip (by omega)).symm
 conv=>lhs;rw[this]
 rw[List.map_map];rfl
section
variable{s l m:Nat}{as:List Nat}{st:Stt}
theorem SAt.zmem(h:SAt S s l m as st){z:Nat×Ld}(hz:z∈as.zip st.loads):S[z.1]?=some (CP z.2):=by
 obtain⟨i,hi⟩:=List.mem_iff_getElem?.mp hz
 have:=List.getElem?_zip_eq_some.mp hi
 exact h.ld i z.1 z.2 this.1 this.2
theorem SAt.at(h:SAt S s l m as st){i:Nat}(hi:i<st.loads.length):∃a,as[i]?=some a/\S[a]?=some (CP (Af st.loads i))/\atI (as.map D.ref) (i:Int)=some (.ref a):=by
 have h1:i<as.length:=by rw[h.len];exact hi
 refine⟨as[i],List.getElem?_eq_getElem h1,h.ld i _ _ (List.getElem?_eq_getElem h1) (JN hi),Ep (by rw[List.getElem?_map,List.getElem?_eq_getElem h1];rfl)⟩
theorem SAt.guard(h:SAt S s l m as st):gOk [(l,as.map D.ref)] S:=by
 intro g hg
 simp only[List.mem_cons,List.not_mem_nil,or_false]at hg
 subst hg
 exact AY h.lo
end
theorem Tx{M:Int}(hM:0≤M):∀{xs:List Int},(∀x∈xs,0≤x/\x≤M)->0≤xs.sum/\xs.sum≤xs.length*M
  | [],_=>by simp
  | x :: xs, h => by
    have h1:=h x List.mem_cons_self
    have h2:=Tx hM fun y hy=>h y (List.mem_cons_of_mem _ hy)
    simp only[List.sum_cons,List.length_cons]
    refine⟨by omega,?_⟩
    have:((xs.length+1:Nat):Int)*M=xs.length*M+M:=by push_cast;grind
    omega
theorem Ml:∀{xs:List Int} {y:Int},(∀x∈xs,0≤x)->y∈xs->y≤xs.sum
  | x :: xs, y, h, hy => by
    have h1:=h x List.mem_cons_self
    have h2:0≤xs.sum:=by
      clear hy
      induction xs with
      |nil=>simp
      | cons z zs ih =>
        have:=h z (by simp)
        have:=ih fun w hw=>h w (by simp at hw ⊢; rcases hw with hw|hw<;>simp[hw])
        simp only[List.sum_cons];omega
    simp only[List.sum_cons]
    rcases List.mem_cons.mp hy with e|e
    ·omega
    · have := Ml (fun z hz => h z (List.mem_cons_of_mem _ hz)) e
      omega
section
variable{t:Tr}{k:Nat}{st:Stt}{ws:List Int}{n:Int}{l:Nat}
theorem OI{i:Nat}(hw:∀w∈ws,1≤w/\w≤99)(hi:i<ws.length):1≤ws.getD i 0/\ws.getD i 0≤99:=hw _ (getD_mem hi)
theorem Yj{i:Nat}(hi:i<ws.length):atI (ws.map D.int) (i:Int)=some (.int (ws.getD i 0)):=Ep (by rw[List.getElem?_map,getD_get hi];rfl)
theorem Qh(hi:ws.length=k+1):atI (ws.map D.int) (-1:Int)=some (.int (ws.getD k 0)):=by
 have ix:ixN (ws.map D.int).length (-1)=some k:=by
  rw[List.length_map,hi]
  unfold ixN
  simp
  omega
 unfold atI
 rw[ix]
 show(ws.map D.int)[k]?=_
 rw[List.getElem?_map,getD_get (d:=(0:Int)) (by omega)]
 rfl
theorem Kn(ht:L3 t)(h:G8 t k st)(hk:k≤20)(hl:ws.length=t.k+1)(hw:∀w∈ws,1≤w/\w≤99):0<Fh t st.loads ws/\Fh t st.loads ws<2^(145+k):=by
 obtain⟨t1,t2,t3,t4,t5,t6⟩:=ht
 have hP:(0:Int)≤2^(131+k):=Int.le_of_lt (Int.pow_pos (by decide))
 have hs:=Tx (M:=2^(131+k)*99) (by omega) (xs:=st.loads.map fun l=>l.n*ws.getD l.k 0) (by
  intro x hx
  obtain⟨y,hy,rfl⟩:=List.mem_map.mp hx
  have h1:=h.pcs y hy
  have h2:=OI hw (i:=y.k) (by have:=h.kind y hy;omega)
  refine⟨Int.mul_nonneg h1.1 (by omega),Int.mul_le_mul (by omega) h2.2 (by omega) hP⟩)
 have hb:=OI hw (i:=t.k) (by omega)
 have hlen:=h.len
 rw[List.length_map]at hs
 have h3:(st.loads.length:Int)*(2^(131+k)*99)≤24*(2^(131+k)*99):=Int.mul_le_mul_of_nonneg_right (by omega) (by omega)
 have h4:(1:Int)≤t.b*ws.getD t.k 0:=by
  have:0<(t.b:Int)*ws.getD t.k 0:=Int.mul_pos (by omega) (by omega)
  omega
 have h5:t.b*ws.getD t.k 0≤20*99:=Int.mul_le_mul (by omega) hb.2 (by omega) (by decide)
 have h6:(2:Int)^(145+k)=2^(131+k)*16384:=by rw[show 145+k=(131+k)+14 by omega,Int.pow_add];rfl
 have h7:(1:Int)≤2^(131+k):=by have:(0:Int)<2^(131+k):=Int.pow_pos (by decide);omega
 have h7':(2:Int)^11≤2^(131+k):=by
  have:(2^11:Nat)≤2^(131+k):=Nat.pow_le_pow_right (by decide) (by omega)
  exact_mod_cast this
 unfold Fh
 rw[h6]
 generalize (2:Int)^(131+k)=P at*
 omega
theorem UH(ht:L3 t)(h:G8 t k st)(hl:ws.length=t.k+1)(hw:∀w∈ws,1≤w/\w≤99)(hi:l<st.loads.length)(h1:1≤n)(h2:n≤(Af st.loads l).n):0<n*ws.getD (Af st.loads l).k 0/\n*ws.getD (Af st.loads l).k 0<Fh t st.loads ws:=by
 obtain⟨t1,t2,t3,t4,t5,t6⟩:=ht
 have hw1:=OI hw (i:=(Af st.loads l).k) (by have:=h.kind _ (Be hi);omega)
 have hb:=OI hw (i:=t.k) (by omega)
 have h4:(1:Int)≤t.b*ws.getD t.k 0:=by
  have:0<(t.b:Int)*ws.getD t.k 0:=Int.mul_pos (by omega) (by omega)
  omega
 have h5:=Ml (xs:=st.loads.map fun l=>l.n*ws.getD l.k 0) (y:=(Af st.loads l).n*ws.getD (Af st.loads l).k 0) (by
  intro x hx
  obtain⟨y,hy,rfl⟩:=List.mem_map.mp hx
  have h1:=h.pcs y hy
  have h2:=OI hw (i:=y.k) (by have:=h.kind y hy;omega)
  exact Int.mul_nonneg h1.1 (by omega)) (List.mem_map.mpr ⟨_,Be hi,rfl⟩)
 have h6:n*ws.getD (Af st.loads l).k 0≤(Af st.loads l).n*ws.getD (Af st.loads l).k 0:=Int.mul_le_mul_of_nonneg_right h2 (by omega)
 refine⟨Int.mul_pos (by omega) (by omega),?_⟩
 unfold Fh
 omega
theorem N0(hi:l<st.loads.length):MO t st.loads l n ws=((n*ws.getD (Af st.loads l).k 0:Int):Rat) / (Fh t st.loads ws:Rat):=by
 unfold MO
 rw[JN hi]
 rfl
theorem Jk{x:Int}{j:Nat}(h0:0≤x)(h1:x<2^j):x.natAbs<2^j:=by
 have:((x.natAbs:Nat):Int)<((2^j:Nat):Int):=by
  rw[Int.natAbs_of_nonneg h0];push_cast;exact h1
 exact_mod_cast this
theorem ZG(ht:L3 t)(h:G8 t k st)(hk:k≤20)(hl:ws.length=t.k+1)(hw:∀w∈ws,1≤w/\w≤99)(hi:l<st.loads.length)(h1:1≤n)(h2:n≤(Af st.loads l).n):Sz (145+k) (MO t st.loads l n ws):=by
 have a:=Kn ht h hk hl hw
 have b:=UH ht h hl hw hi h1 h2
 rw[N0 hi]
 exact Mr a.1 (Jk (by omega) (by omega)) (Jk (by omega) a.2)
theorem Ys{s r m:Nat}{as:List Nat}(hS:SAt S s r m as st)(ht:L3 t)(h:G8 t k st)(hk:k≤20)(hl:ws.length=t.k+1)(hw:∀w∈ws,1≤w/\w≤99)(hi:l<st.loads.length)(h1:1≤n)(h2:n≤(Af st.loads l).n):Hn [t.d,.ref r,(Bf.thr l n ws).d] S=some (aD (MO t st.loads l n ws),S):=by
 have a:=Kn ht h hk hl hw
 obtain⟨x,x1,x2,x3⟩:=hS.at hi
 have hlen:=h.len
 have e:=NY (gs:=[(r,as.map D.ref)]) (t:=tTp [(tNm 1),(tNm 2),(tNm 3)]) (f:=eOp (o2 Cn) [(eV 2),(eOp (o2 wIx) [(eV 0),(eV 1)])]) (C:=[some (.tup (ws.map D.int))]) (m:=3) (e:=fun z:Nat×Ld=>D.ref z.1) (g:=fun z=>D.int (z.2.n*ws.getD z.2.k 0)) hS.guard (xs:=as.zip st.loads) (acc:=[]) (os:=[none,none,none]) rfl (Nat.le_trans (show _≤24 by simp;omega) (AO (by decide))) (by
  intro z hz os ho
  obtain⟨q1,q2,q3,rfl⟩:∃q1 q2 q3,os=[q1,q2,q3]:=by
   match os,ho with
   | [a,b,c],_=>exact⟨a,b,c,rfl⟩
  have c1:=hS.zmem hz
  have hm:z.2∈st.loads:=(List.of_mem_zip (a:=z.1) (b:=z.2) hz).2
  have hk:=h.kind _ hm
  have w1:=Yj (ws:=ws) (i:=z.2.k) (by omega)
  have w2:=OI hw (i:=z.2.k) (by omega)
  have m1:Dr z.2.n (ws.getD z.2.k 0)=true:=mulR (by omega) (by omega)
  generalize ws.getD z.2.k 0=wz at*
  refine⟨[some (.int z.2.k),some (.int z.2.n),some (shD z.2.ow)],rfl,?_,?_⟩
  ·simp[AY c1,CP]
  ·simp[w1,m1])
 rw[←V3 hS.len,←Yy hS.len (fun x=>D.int (x.n*ws.getD x.k 0))]at e
 have e':=e
 simp only[List.cons_append,List.nil_append]at e'
 rw[N0 hi]
 have es:MS (st.loads.map fun x=>D.int (x.n*ws.getD x.k 0))=some (st.loads.map fun x=>x.n*ws.getD x.k 0):=by
  have:=HF (st.loads.map fun x=>x.n*ws.getD x.k 0)
  rwa [List.map_map]at this
 have w1:=Yj (ws:=ws) (i:=(Af st.loads l).k) (by have:=h.kind _ (Be hi);omega)
 have w3:=OI hw (i:=(Af st.loads l).k) (by have:=h.kind _ (Be hi);omega)
 have w2:=Qh hl
 have w4:=OI hw (i:=t.k) (by omega)
 have m1:Dr n (ws.getD (Af st.loads l).k 0)=true:=mulR (by omega) (by omega)
 have m2:Dr (t.b:Int) (ws.getD t.k 0)=true:=mulR (by omega) (by omega)
 have l1:=V1 (S:=S) (t:=n*ws.getD (Af st.loads l).k 0) a.1 (HK (Jk (by omega) a.2) (by omega))
 have e2:Fh t st.loads ws=(st.loads.map fun x=>x.n*ws.getD x.k 0).sum+t.b*ws.getD t.k 0:=rfl
 rw[e2]at l1⊢
 generalize aD (((n*ws.getD (Af st.loads l).k 0:Int):Rat) / (((st.loads.map fun x=>x.n*ws.getD x.k 0).sum+t.b*ws.getD t.k 0:Int):Rat))=R at*
 generalize (st.loads.map fun x=>x.n*ws.getD x.k 0)=es' at*
 generalize (st.loads.map fun x=>D.int (x.n*ws.getD x.k 0))=es2 at*
 generalize ws.getD (Af st.loads l).k 0=wa at*
 generalize ws.getD t.k 0=wb at*
 have dx:=BJ x2
 have dl:=BJ hS.lo
 simp[Hn,NB,Bf.d,Tr.d,He hS.lo,e',es,w2,m2,dl,x3,dx,CP,w1,m1,l1]
theorem UU{G B:Nat}(ht:L3 t)(h:G8 t k st)(hk:k≤20)(hl:ws.length=t.k+1)(hw:∀w∈ws,1≤w/\w≤99)(hi:l<st.loads.length)(h1:1≤n)(h2:n≤(Af st.loads l).n){os ss:List Rat}(ho:∀r∈os,Ok G B r)(hs:∀r∈ss,Ok G B r):∀r∈KU (MO t st.loads l n ws) os ss,Ok (G*(Fh t st.loads ws).toNat) (B*(Fh t st.loads ws).toNat) r:=by
 have a:=Kn ht h hk hl hw
 have b:=UH ht h hl hw hi h1 h2
 intro r hr
 unfold KU at hr
 rw[List.mem_iff_getElem?]at hr
 obtain⟨i,hi'⟩:=hr
 rw[List.getElem?_zipWith_eq_some]at hi'
 obtain⟨x,y,hx,hy,rfl⟩:=hi'
 rw[N0 hi]
 generalize n*ws.getD (Af st.loads l).k 0=c at*
 generalize Fh t st.loads ws=W at*
 have:=Ok.mix (a:=(W-c).toNat) (b:=c.toNat) (t:=W.toNat) (hs x (List.mem_of_getElem? hx)) (ho y (List.mem_of_getElem? hy)) (by omega) (by omega)
 have e1:(((W-c).toNat:Nat):Rat)=(W:Rat)-(c:Rat):=by
  have:(((W-c).toNat:Nat):Int)=W-c:=Int.toNat_of_nonneg (by omega)
  have:((((W-c).toNat:Nat):Int):Rat)=((W-c:Int):Rat):=by rw[this]
  push_cast at this
  exact this
 have e2:((c.toNat:Nat):Rat)=(c:Rat):=by
  have:((c.toNat:Nat):Int)=c:=Int.toNat_of_nonneg (by omega)
  have:(((c.toNat:Nat):Int):Rat)=(c:Rat):=by rw[this]
  exact this
 have e3:((W.toNat:Nat):Rat)=(W:Rat):=by
  have:((W.toNat:Nat):Int)=W:=Int.toNat_of_nonneg (by omega)
  have:(((W.toNat:Nat):Int):Rat)=(W:Rat):=by rw[this]
  exact this
 rw[e1,e2,e3]at this
 have ne:(W:Rat)≠0:=by
  intro z
  have:=Rat.intCast_eq_zero_iff.mp z
  omega
 have ev:(x*((W:Rat)-(c:Rat))+y*(c:Rat)) / (W:Rat)=x*(1-(c:Rat) / (W:Rat))+y*((c:Rat) / (W:Rat)):=by grind
 rw[ev]at this
 exact this
end
end
section
variable{S:Sto}
theorem A8{x y:Str}(h:PyData.strOk x=true)(g:PyData.strOk y=true):B2 (.str x) (.str y)=true:=by
 unfold B2
 show(PyData.strOk x && PyData.strOk y && _)=true
 rw[h,g]
 rfl
theorem ET:PyData.strOk (Str.ofString "bring")=true:=by decide+kernel
theorem FR:PyData.strOk (Str.ofString "pool")=true:=by decide+kernel
theorem LD:PyData.strOk (Str.ofString "swap")=true:=by decide+kernel
theorem EW:PyData.strOk (Str.ofString "trade")=true:=by decide+kernel
theorem E7:PyData.strOk (Str.ofString "spoil")=true:=by decide+kernel
theorem C7:PyData.strOk (Str.ofString "throw")=true:=by decide+kernel
theorem Er:PyData.strOk (Str.ofString "sell")=true:=by decide+kernel
@[simp] theorem U1:B2 (.str (Str.ofString "bring")) (.str (Str.ofString "bring"))=true:=A8 ET ET
@[simp] theorem VL:deq (.str (Str.ofString "bring")) (.str (Str.ofString "bring"))=true:=nr rfl
@[simp] theorem U3:B2 (.str (Str.ofString "bring")) (.str (Str.ofString "throw"))=true:=A8 ET C7
@[simp] theorem VJ:deq (.str (Str.ofString "bring")) (.str (Str.ofString "throw"))=false:=nr rfl
@[simp] theorem WE:B2 (.str (Str.ofString "bring")) (.str (Str.ofString "sell"))=true:=A8 ET Er
@[simp] theorem Vp:deq (.str (Str.ofString "bring")) (.str (Str.ofString "sell"))=false:=nr rfl
@[simp] theorem V4:B2 (.str (Str.ofString "pool")) (.str (Str.ofString "bring"))=true:=A8 FR ET
@[simp] theorem Ws:deq (.str (Str.ofString "pool")) (.str (Str.ofString "bring"))=false:=nr rfl
@[simp] theorem X1:B2 (.str (Str.ofString "pool")) (.str (Str.ofString "pool"))=true:=A8 FR FR
@[simp] theorem Xy:deq (.str (Str.ofString "pool")) (.str (Str.ofString "pool"))=true:=nr rfl
@[simp] theorem WU:B2 (.str (Str.ofString "pool")) (.str (Str.ofString "trade"))=true:=A8 FR EW
@[simp] theorem XI:deq (.str (Str.ofString "pool")) (.str (Str.ofString "trade"))=false:=nr rfl
@[simp] theorem Xm:B2 (.str (Str.ofString "pool")) (.str (Str.ofString "throw"))=true:=A8 FR C7
@[simp] theorem Vj:deq (.str (Str.ofString "pool")) (.str (Str.ofString "throw"))=false:=nr rfl
@[simp] theorem YD:B2 (.str (Str.ofString "pool")) (.str (Str.ofString "sell"))=true:=A8 FR Er
@[simp] theorem X4:deq (.str (Str.ofString "pool")) (.str (Str.ofString "sell"))=false:=nr rfl
@[simp] theorem Xb:B2 (.str (Str.ofString "swap")) (.str (Str.ofString "bring"))=true:=A8 LD ET
@[simp] theorem Vs:deq (.str (Str.ofString "swap")) (.str (Str.ofString "bring"))=false:=nr rfl
@[simp] theorem YN:B2 (.str (Str.ofString "swap")) (.str (Str.ofString "pool"))=true:=A8 LD FR
@[simp] theorem Yf:deq (.str (Str.ofString "swap")) (.str (Str.ofString "pool"))=false:=nr rfl
@[simp] theorem Wa:B2 (.str (Str.ofString "swap")) (.str (Str.ofString "trade"))=true:=A8 LD EW
@[simp] theorem V0:deq (.str (Str.ofString "swap")) (.str (Str.ofString "trade"))=false:=nr rfl
@[simp] theorem WO:B2 (.str (Str.ofString "swap")) (.str (Str.ofString "throw"))=true:=A8 LD C7
@[simp] theorem Vz:deq (.str (Str.ofString "swap")) (.str (Str.ofString "throw"))=false:=nr rfl
@[simp] theorem Yk:B2 (.str (Str.ofString "swap")) (.str (Str.ofString "sell"))=true:=A8 LD Er
@[simp] theorem YE:deq (.str (Str.ofString "swap")) (.str (Str.ofString "sell"))=false:=nr rfl
@[simp] theorem Zt:wIn false (.val (.str "swap")) (.val (.tup [.str "swap",.str "trade"]))=some (.val (.bl true)):=nr rfl
@[simp] theorem U2:B2 (.str (Str.ofString "trade")) (.str (Str.ofString "bring"))=true:=A8 EW ET
@[simp] theorem VO:deq (.str (Str.ofString "trade")) (.str (Str.ofString "bring"))=false:=nr rfl
@[simp] theorem Wf:B2 (.str (Str.ofString "trade")) (.str (Str.ofString "pool"))=true:=A8 EW FR
@[simp] theorem Vu:deq (.str (Str.ofString "trade")) (.str (Str.ofString "pool"))=false:=nr rfl
@[simp] theorem U6:B2 (.str (Str.ofString "trade")) (.str (Str.ofString "trade"))=true:=A8 EW EW
@[simp] theorem VZ:deq (.str (Str.ofString "trade")) (.str (Str.ofString "trade"))=true:=nr rfl
@[simp] theorem VI:B2 (.str (Str.ofString "trade")) (.str (Str.ofString "throw"))=true:=A8 EW C7
@[simp] theorem U9:deq (.str (Str.ofString "trade")) (.str (Str.ofString "throw"))=false:=nr rfl
@[simp] theorem W7:B2 (.str (Str.ofString "trade")) (.str (Str.ofString "sell"))=true:=A8 EW Er
@[simp] theorem Vy:deq (.str (Str.ofString "trade")) (.str (Str.ofString "sell"))=false:=nr rfl
@[simp] theorem Yg:wIn false (.val (.str "trade")) (.val (.tup [.str "swap",.str "trade"]))=some (.val (.bl true)):=nr rfl
@[simp] theorem Uu:B2 (.str (Str.ofString "spoil")) (.str (Str.ofString "bring"))=true:=A8 E7 ET
@[simp] theorem Ut:deq (.str (Str.ofString "spoil")) (.str (Str.ofString "bring"))=false:=nr rfl
@[simp] theorem W3:B2 (.str (Str.ofString "spoil")) (.str (Str.ofString "pool"))=true:=A8 E7 FR
@[simp] theorem WC:deq (.str (Str.ofString "spoil")) (.str (Str.ofString "pool"))=false:=nr rfl
@[simp] theorem VW:B2 (.str (Str.ofString "spoil")) (.str (Str.ofString "trade"))=true:=A8 E7 EW
@[simp] theorem Vg:deq (.str (Str.ofString "spoil")) (.str (Str.ofString "trade"))=false:=nr rfl
@[simp] theorem Ul:B2 (.str (Str.ofString "spoil")) (.str (Str.ofString "spoil"))=true:=A8 E7 E7
@[simp] theorem U8:deq (.str (Str.ofString "spoil")) (.str (Str.ofString "spoil"))=true:=nr rfl
@[simp] theorem Us:B2 (.str (Str.ofString "spoil")) (.str (Str.ofString "throw"))=true:=A8 E7 C7
@[simp] theorem VP:deq (.str (Str.ofString "spoil")) (.str (Str.ofString "throw"))=false:=nr rfl
@[simp] theorem Wk:B2 (.str (Str.ofString "spoil")) (.str (Str.ofString "sell"))=true:=A8 E7 Er
@[simp] theorem V9:deq (.str (Str.ofString "spoil")) (.str (Str.ofString "sell"))=false:=nr rfl
@[simp] theorem YV:wIn false (.val (.str "spoil")) (.val (.tup [.str "swap",.str "trade"]))=some (.val (.bl false)):=nr rfl
@[simp] theorem VU:B2 (.str (Str.ofString "throw")) (.str (Str.ofString "bring"))=true:=A8 C7 ET
@[simp] theorem VF:deq (.str (Str.ofString "throw")) (.str (Str.ofString "bring"))=false:=nr rfl
@[simp] theorem Wx:B2 (.str (Str.ofString "throw")) (.str (Str.ofString "pool"))=true:=A8 C7 FR
@[simp] theorem XX:deq (.str (Str.ofString "throw")) (.str (Str.ofString "pool"))=false:=nr rfl
@[simp] theorem VD:B2 (.str (Str.ofString "throw")) (.str (Str.ofString "trade"))=true:=A8 C7 EW
@[simp] theorem Uv:deq (.str (Str.ofString "throw")) (.str (Str.ofString "trade"))=false:=nr rfl
@[simp] theorem Uk:B2 (.str (Str.ofString "throw")) (.str (Str.ofString "spoil"))=true:=A8 C7 E7
@[simp] theorem VE:deq (.str (Str.ofString "throw")) (.str (Str.ofString "spoil"))=false:=nr rfl
@[simp] theorem VA:B2 (.str (Str.ofString "throw")) (.str (Str.ofString "throw"))=true:=A8 C7 C7
@[simp] theorem Um:deq (.str (Str.ofString "throw")) (.str (Str.ofString "throw"))=true:=nr rfl
@[simp] theorem XA:B2 (.str (Str.ofString "throw")) (.str (Str.ofString "sell"))=true:=A8 C7 Er
@[simp] theorem Wr:deq (.str (Str.ofString "throw")) (.str (Str.ofString "sell"))=false:=nr rfl
@[simp] theorem X5:wIn false (.val (.str "throw")) (.val (.tup [.str "swap",.str "trade"]))=some (.val (.bl false)):=nr rfl
@[simp] theorem Vm:B2 (.str (Str.ofString "sell")) (.str (Str.ofString "bring"))=true:=A8 Er ET
@[simp] theorem Xg:deq (.str (Str.ofString "sell")) (.str (Str.ofString "bring"))=false:=nr rfl
@[simp] theorem YQ:B2 (.str (Str.ofString "sell")) (.str (Str.ofString "pool"))=true:=A8 Er FR
@[simp] theorem YG:deq (.str (Str.ofString "sell")) (.str (Str.ofString "pool"))=false:=nr rfl
@[simp] theorem Wm:B2 (.str (Str.ofString "sell")) (.str (Str.ofString "spoil"))=true:=A8 Er E7
@[simp] theorem WL:deq (.str (Str.ofString "sell")) (.str (Str.ofString "spoil"))=false:=nr rfl
@[simp] theorem Xa:B2 (.str (Str.ofString "sell")) (.str (Str.ofString "throw"))=true:=A8 Er C7
@[simp] theorem XH:deq (.str (Str.ofString "sell")) (.str (Str.ofString "throw"))=false:=nr rfl
@[simp] theorem Yc:B2 (.str (Str.ofString "sell")) (.str (Str.ofString "sell"))=true:=A8 Er Er
@[simp] theorem X2:deq (.str (Str.ofString "sell")) (.str (Str.ofString "sell"))=true:=nr rfl
@[simp] theorem Zr:wIn false (.val (.str "sell")) (.val (.tup [.str "swap",.str "trade"]))=some (.val (.bl false)):=nr rfl
section
variable{a b c d e f:D}{r:List D}
@[simp] theorem eD:JW [a,b,c,d,e] (some (-4)) none=[b,c,d,e]:=nr rfl
@[simp] theorem f9:JW [a,b,c,d,e,f] (some (-4)) none=[c,d,e,f]:=nr rfl
@[simp] theorem eW:JW [a,b,c,d,e] (some 1) (some 2)=[b]:=nr rfl
@[simp] theorem fh:JW [a,b,c,d,e,f] (some 1) (some 2)=[b]:=nr rfl
@[simp] theorem fV{ds zs:List D}:fw S ds [.tup zs]=if ds.length+zs.length≤sizeLine then some (.non,ds++zs)else none:=nr rfl
end
end
section
variable{S S':Sto}{s l m:Nat}{as:List Nat}{st:Stt}
theorem SAt.same(h:SAt S s l m as st)(g:Fm A S S')(hA:∀n∈A,n∉s::l::m::as):SAt S' s l m as st where
 root:=g.get h.root fun z=>hA _ z (by simp)
 lo:=g.get h.lo fun z=>hA _ z (by simp)
 nu:=g.get h.nu fun z=>hA _ z (by simp)
 ld:=fun i a x ha hx=>g.get (h.ld i a x ha hx) fun z=>hA _ z (by simp[List.mem_of_getElem? ha])
 len:=h.len
 nd:=h.nd
theorem SAt.same0(h:SAt S s l m as st)(g:Fm [] S S'):SAt S' s l m as st:=h.same g fun _ z=>(nomatch z)
theorem SAt.ne(h:SAt S s l m as st):s≠l/\s≠m/\l≠m/\s∉as/\l∉as/\m∉as/\as.Nodup:=by
 have:=h.nd
 simp only[List.nodup_cons,List.mem_cons,not_or]at this
 obtain⟨⟨a,b,c⟩,⟨d,e⟩,f,g⟩:=this
 exact⟨a,b,d,c,e,f,g⟩
theorem SAt.setld(h:SAt S s l m as st){i a:Nat}{y:Ld}(ha:as[i]?=some a):SAt (S.set a (CP y)) s l m as {st with loads:=st.loads.set i y}:=by
 obtain⟨n1,n2,n3,n4,n5,n6,n7⟩:=h.ne
 have ma:=List.mem_of_getElem? ha
 have q1:a≠s:=fun e=>n4 (e▸ma)
 have q2:a≠l:=fun e=>n5 (e▸ma)
 have q3:a≠m:=fun e=>n6 (e▸ma)
 have hi:i<as.length:=(List.getElem?_eq_some_iff.mp ha).1
 have hi':i<st.loads.length:=by rw[←h.len];exact hi
 refine⟨by rw[List.getElem?_set_ne q1];exact h.root,by rw[List.getElem?_set_ne q2];exact h.lo,by rw[List.getElem?_set_ne q3];exact h.nu,?_,by simp[h.len],h.nd⟩
 intro j b x hb hx
 by_cases e:i=j
 ·subst e
  rw[ha]at hb
  cases hb
  have hx':(st.loads.set i y)[i]?=some x:=hx
  rw[List.getElem?_set_self hi']at hx'
  cases hx'
  have hl:a<S.length:=A9 (h.ld i a _ ha (List.getElem?_eq_getElem hi'))
  exact List.getElem?_set_self hl
 ·have hx':(st.loads.set i y)[j]?=some x:=hx
  rw[List.getElem?_set_ne e]at hx'
  have:a≠b:=by
   intro z
   subst z
   exact e ((List.getElem?_inj hi n7).mp (ha.trans hb.symm))
  rw[List.getElem?_set_ne this]
  exact h.ld j b x hb hx'
theorem SAt.lts(h:SAt S s l m as st):∀n∈s::l::m::as,n<S.length:=by
 intro n hn
 simp only[List.mem_cons]at hn
 rcases hn with rfl|rfl|rfl|hn
 ·exact A9 h.root
 ·exact A9 h.lo
 ·exact A9 h.nu
 ·obtain⟨i,hi⟩:=List.mem_iff_getElem?.mp hn
  have:i<st.loads.length:=by rw[←h.len];exact(List.getElem?_eq_some_iff.mp hi).1
  exact A9 (h.ld i n _ hi (List.getElem?_eq_getElem this))
theorem SAt.app(h:SAt S s l m as st)(y:Ld):SAt ((S++[CP y]).set l (.lst (as.map D.ref++[.ref S.length]))) s l m (as++[S.length]) {st with loads:=st.loads++[y]}:=by
 obtain⟨n1,n2,n3,n4,n5,n6,n7⟩:=h.ne
 have lt:=h.lts
 have ls:=lt s (by simp);have ll:=lt l (by simp);have lm:=lt m (by simp)
 have la:∀a∈as,a<S.length:=fun a ha=>lt a (by simp[ha])
 refine⟨?_,?_,?_,?_,by simp[h.len],?_⟩
 ·rw[List.getElem?_set_ne (Ne.symm n1),List.getElem?_append_left ls];exact h.root
 ·rw[List.getElem?_set_self (by simp;omega)];simp
 ·rw[List.getElem?_set_ne n3,List.getElem?_append_left lm];exact h.nu
 ·intro i a x ha hx
  by_cases e:i<as.length
  ·rw[List.getElem?_append_left e]at ha
   have hx':(st.loads++[y])[i]?=some x:=hx
   rw[List.getElem?_append_left (by rw[←h.len];exact e)]at hx'
   have ma:=List.mem_of_getElem? ha
   rw[List.getElem?_set_ne (show l≠a by rintro rfl;exact n5 ma),List.getElem?_append_left (la a ma)]
   exact h.ld i a x ha hx'
  ·have hx':(st.loads++[y])[i]?=some x:=hx
   have:i=as.length:=by
    have:=(List.getElem?_eq_some_iff.mp ha).1
    simp at this;omega
   subst this
   rw[List.getElem?_concat_length]at ha
   cases ha
   rw[h.len,List.getElem?_concat_length]at hx'
   cases hx'
   rw[List.getElem?_set_ne (by omega),List.getElem?_concat_length]
 ·have:(s::l::m::(as++[S.length]))=(s::l::m::as)++[S.length]:=by simp
  rw[this,List.nodup_append]
  refine⟨h.nd,by simp,?_⟩
  intro a ha b hb e
  simp only[List.mem_cons,List.not_mem_nil,or_false]at hb
  have:=lt a ha
  omega
theorem SAt.hold(h:SAt S s l m as st)(rs:List Rat):SAt (S.set s (.lst [.ref l,shD rs,.ref m])) s l m as {st with hold:=rs}:=by
 obtain⟨n1,n2,n3,n4,n5,n6,n7⟩:=h.ne
 refine⟨List.getElem?_set_self (h.lts s (by simp)),by rw[List.getElem?_set_ne n1];exact h.lo,by rw[List.getElem?_set_ne n2];exact h.nu,?_,h.len,h.nd⟩
 intro i a x ha hx
 rw[List.getElem?_set_ne (show s≠a by rintro rfl;exact n4 (List.mem_of_getElem? ha))]
 exact h.ld i a x ha hx
theorem SAt.nums(h:SAt S s l m as st)(us:List Int):SAt (S.set m (.lst (us.map D.int))) s l m as {st with nums:=us}:=by
 obtain⟨n1,n2,n3,n4,n5,n6,n7⟩:=h.ne
 refine⟨by rw[List.getElem?_set_ne (Ne.symm n2)];exact h.root,by rw[List.getElem?_set_ne (Ne.symm n3)];exact h.lo,List.getElem?_set_self (h.lts m (by simp)),?_,h.len,h.nd⟩
 intro i a x ha hx
 rw[List.getElem?_set_ne (show m≠a by rintro rfl;exact n6 (List.mem_of_getElem? ha))]
 exact h.ld i a x ha hx
theorem OC{f:Ld->Ld}{body:Ex}{C:En}{i8:Nat}{o0:Option D}(h:SAt S s l m as st)(hi:C.length=i8)
  (hb:∀(S':Sto) (a:Nat) (x:Ld),x∈st.loads->S'[a]?=some (CP x)->∃S2,body (C++[some (.ref a)]) S'=some (.nx,C++[some (.ref a)],S2.set a (CP (f x)))/\Fm [] S' S2):
  ∃o S',MC [(l,as.map D.ref)] (tNm i8) body (as.map D.ref) (C++[o0]) S=some (.nx,C++[o],S')/\SAt S' s l m as {st with loads:=st.loads.map f}/\Fm as S S':=by
 obtain⟨E',S',e,i,o,i1,i2,rfl,i3,i4⟩:=Li (gs:=[(l,as.map D.ref)]) (t:=tNm i8) (b:=body)
  (I:=fun ds E S'=>∃(i:Nat) (o:Option D),ds=(as.drop i).map D.ref/\i≤as.length/\E=C++[o]/\SAt S' s l m as {st with loads:=(st.loads.take i).map f++st.loads.drop i}/\Fm as S S')
  (fun ds E S' hI=>by obtain⟨i,o,_,_,_,h1,_⟩:=hI;exact h1.guard) (ds:=as.map D.ref) (E:=C++[o0]) (S:=S)
  ⟨0, o0, by simp, Nat.zero_le _, rfl, by simpa using h, .refl⟩ (by
   rintro d ds E S1 ⟨i,o,i1,i2,rfl,i3,i4⟩
   have hlt:i<as.length:=by
    rcases Nat.lt_or_ge i as.length with w|w
    ·exact w
    ·rw[List.drop_eq_nil_of_le w]at i1;cases i1
   rw[List.drop_eq_getElem_cons hlt,List.map_cons]at i1
   injection i1 with e1 e2
   subst e1 e2
   have hl2:i<st.loads.length:=by rw[←h.len];exact hlt
   have ha:=List.getElem?_eq_getElem hlt
   have hx:((st.loads.take i).map f++st.loads.drop i)[i]?=some st.loads[i]:=by
    rw[List.getElem?_append_right (by simp;omega)]
    simp[Nat.min_eq_left (Nat.le_of_lt hl2)]
   obtain⟨S2,e3,g3⟩:=hb S1 as[i] st.loads[i] (List.getElem_mem hl2) (i3.ld i _ _ ha hx)
   have k:=(i3.same0 g3).setld (y:=f st.loads[i]) ha
   refine⟨C++[some (.ref as[i])],C++[some (.ref as[i])],S2.set as[i] (CP (f st.loads[i])),?_,e3,i+1,some (.ref as[i]),rfl,hlt,rfl,?_,?_⟩
   ·rw[Zh]
    congr 1
    subst hi
    rw[List.set_append_right _ _ (Nat.le_refl _)]
    simp
   ·have:((st.loads.take i).map f++st.loads.drop i).set i (f st.loads[i])=(st.loads.take (i+1)).map f++st.loads.drop (i+1):=by
     rw[List.set_append_right _ _ (by simp;omega)]
     have e0:i-((st.loads.take i).map f).length=0:=by simp;omega
     rw[e0,List.drop_eq_getElem_cons hl2,List.set_cons_zero,List.take_succ_eq_append_getElem hl2,List.map_append]
     simp
    rw[←this]
    exact k
   ·exact(i4.trans (g3.mono fun _ z=>(nomatch z))).trans (.set (List.getElem_mem hlt)))
 refine⟨o,S',e,?_,i4⟩
 have hz:i=as.length:=by
  have:=congrArg List.length i1
  simp at this
  omega
 have:(st.loads.take i).map f++st.loads.drop i=st.loads.map f:=by
  rw[hz,h.len];simp
 rw[this]at i3
 exact i3
end
section
variable{S S':Sto}{s l m:Nat}{as:List Nat}{st:Stt}{t:Tr}{k:Nat}
theorem Z7{i:Nat}{n:Int}{j:Nat}(hi:i<st.loads.length)(h:∀x∈st.loads,∀r∈x.ow,Sz j r):∀x∈less st.loads i n,∀r∈x.ow,Sz j r:=by
 intro x hx
 rcases Nr hx hi with h1|h1
 ·exact h x h1
 ·rw[h1];exact h (Af st.loads i) (Be hi)
theorem Ub{i:Nat}{n:Int}{j:Nat}(hi:i<st.loads.length)(h:∀x∈st.loads,x.ow.length=j):∀x∈less st.loads i n,x.ow.length=j:=by
 intro x hx
 rcases Nr hx hi with h1|h1
 ·exact h x h1
 ·rw[h1];exact h (Af st.loads i) (Be hi)
theorem WK(hS:SAt S s l m as st)(ht:L3 t)(h:G8 t k st)(hk:k≤16){i:Nat}{n:Int}{ws:List Int}(hc:Can t st (.thr i n ws)):∃S',FA [t.d,.ref s,(Bf.thr i n ws).d] S=some (.non,S')/\SAt S' s l m as (step t st (.thr i n ws))/\Fm (s::l::m::as) S S':=by
 obtain⟨hi,h1,h2,hl,hw⟩:=hc
 have cO:=Ys hS ht h (by omega) hl hw hi h1 h2
 have cz:=ZG ht h (by omega) hl hw hi h1 h2
 have sz:=h.sz
 obtain⟨a,a1,a2,a3⟩:=hS.at hi
 have hS1:=hS.setld (y:=⟨(Af st.loads i).k,(Af st.loads i).n-n,(Af st.loads i).ow⟩) a1
 have o1:=sz.1 _ (Be hi)
 have tp:=ht.2.1
 have hdef:step t st (.thr i n ws)={st with loads:=(less st.loads i n).map fun x=>{x with ow:=KU (MO t st.loads i n ws) (Af st.loads i).ow x.ow},hold:=KU (MO t st.loads i n ws) (Af st.loads i).ow st.hold}:=rfl
 rw[hdef]
 generalize hX:MO t st.loads i n ws=X at*
 obtain⟨o,S2,f1,f2,f3⟩:=OC (f:=fun x=>{x with ow:=KU X (Af st.loads i).ow x.ow}) (body:=OB (AJ EH [(eOp (o2 wIx) [(eV 8),(eC (.int 2))]),(eV 6),(eV 7)]) (eV 8) (eC (.int 2))) (C:=[some t.d,some (.ref s),some (Bf.thr i n ws).d,some (.ref l),some (shD st.hold),some (.ref m),some (aD X),some (shD (Af st.loads i).ow)]) (i8:=8) (o0:=none) hS1 rfl (by
  intro S' b x hx hb
  obtain⟨S2,e2,g2⟩:=Qo (S:=S') (x:=X) (ss:=x.ow) (os:=(Af st.loads i).ow) (j:=30+170*k) (i:=145+k) (Z7 (n:=n) hi sz.1 x hx) o1 cz (by omega) (by rw[Ub (n:=n) hi h.own x hx];omega)
  have hb2:=g2.get hb (by simp)
  refine⟨S2,?_,g2⟩
  simp[BJ hb,CP,e2,AY hb2])
 obtain⟨S3,e3,g3⟩:=Qo (S:=S2) (x:=X) (ss:=st.hold) (os:=(Af st.loads i).ow) (j:=30+170*k) (i:=145+k) sz.2 o1 cz (by omega) (by rw[h.hold];omega)
 have f4:=(f2.same0 g3)
 have rt:=f4.root
 refine⟨S3.set s (.lst [.ref l,shD (KU X (Af st.loads i).ow st.hold),.ref m]),?_,f4.hold _,?_⟩
 ·have f1':=f1
  simp only[List.cons_append,List.nil_append]at f1'
  have rt':Em S3 s=some [.ref l,shD st.hold,.ref m]:=AY rt
  have r0:=AY hS.root
  have lo:=BJ hS.lo
  have xx:=BJ a2
  have c2:=AY a2
  have sq1:=He hS1.lo
  simp only[CP]at f1' sq1 c2 xx
  simp only[Bf.d]at f1' cO⊢
  simp[FA,Jo,r0,cO,lo,a3,xx,c2,sq1,f1',e3,rt']
 ·have q1:Fm (s::l::m::as) S (S.set a (CP ⟨(Af st.loads i).k,(Af st.loads i).n-n,(Af st.loads i).ow⟩)):=.set (by simp[List.mem_of_getElem? a1])
  exact((q1.trans (f3.mono fun n hn=>by simp[hn])).trans (g3.mono fun _ z=>(nomatch z))).trans (.set (by simp))
theorem TK(hS:SAt S s l m as st)(ht:L3 t)(h:G8 t k st)(hk:k≤16){p q:Nat}{x:Rat}(hc:Can t st (.sell p q x)):∃S',FA [t.d,.ref s,(Bf.sell p q x).d] S=some (.non,S')/\SAt S' s l m as (step t st (.sell p q x))/\Fm (s::l::m::as) S S':=by
 obtain⟨hpq,hp,hq,x1,x2,x3⟩:=hc
 have sz:=h.sz
 have hx:Sz 4 x:=by
  refine⟨?_,by omega⟩
  show x.num.natAbs<16
  omega
 have hdef:step t st (.sell p q x)={st with loads:=st.loads.map fun y=>{y with ow:=JE p q x y.ow},hold:=JE p q x st.hold}:=rfl
 rw[hdef]
 obtain⟨o,S2,f1,f2,f3⟩:=OC (f:=fun y=>{y with ow:=JE p q x y.ow}) (body:=OB (AJ FD [(eOp (o2 wIx) [(eV 8),(eC (.int 2))]),(eV 2)]) (eV 8) (eC (.int 2))) (C:=[some t.d,some (.ref s),some (Bf.sell p q x).d,some (.ref l),some (shD st.hold),some (.ref m),none,none]) (i8:=8) (o0:=none) hS rfl (by
  intro S' b y hy hb
  obtain⟨S2,e2,g2⟩:=Ta (S:=S') (p:=p) (q:=q) (x:=x) (ss:=y.ow) (j:=30+170*k) (i:=4) (sz.1 y hy) hx (by omega) (by rw[h.own y hy];exact hp) (by rw[h.own y hy];exact hq) hpq
  have hb2:=g2.get hb (by simp)
  refine⟨S2,?_,g2⟩
  simp[BJ hb,CP,e2,AY hb2])
 obtain⟨S3,e3,g3⟩:=Ta (S:=S2) (p:=p) (q:=q) (x:=x) (ss:=st.hold) (j:=30+170*k) (i:=4) sz.2 hx (by omega) (by rw[h.hold];exact hp) (by rw[h.hold];exact hq) hpq
 have f4:=(f2.same0 g3)
 have rt:=f4.root
 refine⟨S3.set s (.lst [.ref l,shD (JE p q x st.hold),.ref m]),?_,f4.hold _,?_⟩
 ·have f1':=f1
  simp only[List.cons_append,List.nil_append]at f1'
  have rt':Em S3 s=some [.ref l,shD st.hold,.ref m]:=AY rt
  have r0:=AY hS.root
  have sq1:=He hS.lo
  simp only[Bf.d]at f1' e3⊢
  simp[FA,Jo,r0,sq1,f1',e3,rt']
 ·exact((f3.mono fun n hn=>by simp[hn]).trans (g3.mono fun _ z=>(nomatch z))).trans (.set (by simp))
end
section
variable{S S':Sto}{s l m:Nat}{as:List Nat}{st:Stt}{t:Tr}{k:Nat}
theorem aQ{ls:List Ld}{l:Nat}{n:Int}:less ls l n=ls.set l ⟨(Af ls l).k,(Af ls l).n-n,(Af ls l).ow⟩:=rfl
theorem Wj{P p:Nat}{cond:Int}{C:En}{dd:D}{f:Ev}(hP:P≤10)(hf:∀(i:Nat),f [some dd,some (.int i)] S=some (aD (if i=p then 1 else 0),S)):Bg [] (tNm 1) Bx f (Kw 0 P) [] [some dd,none] S=some ((aJ P p).map aD,S):=by
 have:=NY (gs:=[]) (t:=tNm 1) (f:=f) (C:=[some dd]) (m:=1) (e:=fun i:Nat=>D.int (0+(i:Int))) (g:=fun i=>aD (if i=p then 1 else 0)) (S:=S) BU (xs:=List.range P) (acc:=[]) (os:=[none]) rfl (Nat.le_trans (show _≤10 by simp;omega) (AO (by decide))) (by
  intro i _ os ho
  obtain⟨o,rfl⟩:∃o,os=[o]:=by
   match os,ho with
   | [a],_=>exact⟨a,rfl⟩
  refine⟨[some (.int i)],rfl,by simp,hf i⟩)
 simp only[List.cons_append,List.nil_append]at this
 rw[aJ,List.map_map]
 exact this
theorem Wu(hS:SAt S s l m as st)(ht:L3 t)(h:G8 t k st)(hk:k≤16){p kd:Nat}{n:Int}(hc:Can t st (.bring p kd n)):∃S' as',Bz [t.d,.ref s,(Bf.bring p kd n).d] S=some (.non,S')/\SAt S' s l m as' (step t st (.bring p kd n))/\Fm (s::l::m::as) S S'/\∀n∈as',n∈as∨S.length≤n:=by
 have tp:=ht.2.1
 have e:=Wj (S:=S) (P:=t.p) (p:=p) (cond:=0) (C:=[]) (dd:=(Bf.bring p kd n).d) (f:=BD [(eOp (o1 Zo) [(eOp (o2 wEq) [(eV 1),(eOp (o2 wIx) [(eV 0),(eC (.int 1))])])]),(eC (.int 1))]) (by omega) (by
  intro i
  by_cases hi:i=p
  ·subst hi;simp[Bf.d];rfl
  ·have:((i:Int)==(p:Int))=false:=by simp;omega
   simp[Bf.d,this,hi];rfl)
 have rn:Ja (t.p:Int)=true:=E5 (by omega) (by omega)
 have hz:as.length<sizeLine:=Nat.lt_of_lt_of_le (show as.length<50 by rw[hS.len];have:=h.len;omega) (AO (by decide))
 refine⟨_,_,?_,hS.app ⟨kd,n,aJ t.p p⟩,?_,?_⟩
 ·have r0:=AY hS.root
  have c0:=AY hS.lo
  have c1:Em (S++[CP ⟨kd,n,aJ t.p p⟩]) l=some (as.map D.ref):=AY (by rw[List.getElem?_append_left (A9 hS.lo)];exact hS.lo)
  simp only[CP]at c1⊢
  simp only[Bf.d]at e⊢
  simp[Bz,Fv,r0,Tr.d,rn,e,c0,shD]at c1⊢
  simp[c1,hz]
 ·exact Fm.app.trans (.set (by simp))
 ·intro n hn
  rcases List.mem_append.mp hn with w|w
  ·exact .inl w
  ·simp at w;exact .inr (by omega)
theorem WY(hS:SAt S s l m as st)(ht:L3 t)(h:G8 t k st)(hk:k≤16){i:Nat}{n:Int}(hc:Can t st (.spoil i n)):∃S' as',Bz [t.d,.ref s,(Bf.spoil i n).d] S=some (.non,S')/\SAt S' s l m as' (step t st (.spoil i n))/\Fm (s::l::m::as) S S'/\∀n∈as',n∈as∨S.length≤n:=by
 obtain⟨hi,h1,h2⟩:=hc
 obtain⟨a,a1,a2,a3⟩:=hS.at hi
 refine⟨_,as,?_,hS.setld (y:=⟨(Af st.loads i).k,(Af st.loads i).n-n,(Af st.loads i).ow⟩) a1,.set (by simp[List.mem_of_getElem? a1]),fun n hn=>.inl hn⟩
 have r0:=AY hS.root
 have lo:=BJ hS.lo
 have xx:=BJ a2
 have c2:=AY a2
 simp only[CP]at c2 xx⊢
 simp[Bz,Fv,Bf.d,r0,lo,a3,xx,c2]
theorem cg(hS:SAt S s l m as st)(ht:L3 t)(h:G8 t k st)(hk:k≤16){i:Nat}{n:Int}{ws:List Int}(hc:Can t st (.thr i n ws)):∃S' as',Bz [t.d,.ref s,(Bf.thr i n ws).d] S=some (.non,S')/\SAt S' s l m as' (step t st (.thr i n ws))/\Fm (s::l::m::as) S S'/\∀n∈as',n∈as∨S.length≤n:=by
 obtain⟨S',e,g1,g2⟩:=WK hS ht h hk hc
 refine⟨S',as,?_,g1,g2,fun n hn=>.inl hn⟩
 have r0:=AY hS.root
 simp only[Bf.d]at e⊢
 simp[Bz,Fv,r0,e]
theorem Zf(hS:SAt S s l m as st)(ht:L3 t)(h:G8 t k st)(hk:k≤16){p q:Nat}{x:Rat}(hc:Can t st (.sell p q x)):∃S' as',Bz [t.d,.ref s,(Bf.sell p q x).d] S=some (.non,S')/\SAt S' s l m as' (step t st (.sell p q x))/\Fm (s::l::m::as) S S'/\∀n∈as',n∈as∨S.length≤n:=by
 obtain⟨S',e,g1,g2⟩:=TK hS ht h hk hc
 refine⟨S',as,?_,g1,g2,fun n hn=>.inl hn⟩
 have r0:=AY hS.root
 simp only[Bf.d]at e⊢
 simp[Bz,Fv,r0,e]
theorem ZS(hS:SAt S s l m as st)(ht:L3 t)(h:G8 t k st)(hk:k≤16){i kd:Nat}{g n:Int}(hc:Can t st (.swap i g kd n)):∃S' as',Bz [t.d,.ref s,(Bf.swap i g kd n).d] S=some (.non,S')/\SAt S' s l m as' (step t st (.swap i g kd n))/\Fm (s::l::m::as) S S'/\∀n∈as',n∈as∨S.length≤n:=by
 obtain⟨hi,h1,h2,h3,h4,h5,h6⟩:=hc
 obtain⟨a,a1,a2,a3⟩:=hS.at hi
 have hS1:=hS.setld (y:=⟨(Af st.loads i).k,(Af st.loads i).n-g,(Af st.loads i).ow⟩) a1
 have hS2:=hS1.app ⟨kd,n,(Af st.loads i).ow⟩
 have hz:as.length<sizeLine:=Nat.lt_of_lt_of_le (show as.length<50 by rw[hS.len];have:=h.len;omega) (AO (by decide))
 have hz2:st.nums.length≤sizeLine:=Nat.le_trans (show _≤20 by have:=h.nm;omega) (AO (by decide))
 refine⟨_,_,?_,hS2,?_,?_⟩
 ·have r0:=AY hS.root
  have lo:=BJ hS.lo
  have xx:=BJ a2
  have c2:=AY a2
  have lo1:=BJ hS1.lo
  have co1:=AY hS1.lo
  have x1:=BJ (List.getElem?_set_self (a:=CP ⟨(Af st.loads i).k,(Af st.loads i).n-g,(Af st.loads i).ow⟩) (A9 a2))
  have c4:Em ((S.set a (CP ⟨(Af st.loads i).k,(Af st.loads i).n-g,(Af st.loads i).ow⟩))++[CP ⟨kd,n,(Af st.loads i).ow⟩]) l=some (as.map D.ref):=AY (by rw[List.getElem?_append_left (A9 hS1.lo)];exact hS1.lo)
  have nu:=hS2.nu
  have c5:=AY nu
  have st5:∀{T:Sto},T[m]?=some (.lst (st.nums.map D.int))->T.set m (.lst (st.nums.map D.int))=T:=fun h=>set_same h
  have st6:=st5 nu
  simp only[CP]at c2 xx lo1 co1 x1 c4 c5 st6⊢
  have hz':(as.map D.ref).length<sizeLine:=by simpa using hz
  generalize (as.map D.ref)=refs at*
  simp[Bz,Fv,Bf.d,r0,lo,a3,xx,c2,lo1,x1,co1]at c4 c5 st6⊢
  simp[c4,hz',c5,hz2,st6]
 ·exact((Fm.set (by simp[List.mem_of_getElem? a1])).trans .app).trans (.set (by simp))
 ·intro n hn
  rcases List.mem_append.mp hn with w|w
  ·exact .inl w
  ·simp at w;exact .inr (by omega)
theorem WX(hS:SAt S s l m as st)(ht:L3 t)(h:G8 t k st)(hk:k≤16){i kd:Nat}{u g n:Int}(hc:Can t st (.trade u i g kd n)):∃S' as',Bz [t.d,.ref s,(Bf.trade u i g kd n).d] S=some (.non,S')/\SAt S' s l m as' (step t st (.trade u i g kd n))/\Fm (s::l::m::as) S S'/\∀n∈as',n∈as∨S.length≤n:=by
 obtain⟨hi,h1,h2,h3,h4,h5,h6,h7,h8⟩:=hc
 obtain⟨a,a1,a2,a3⟩:=hS.at hi
 have hS1:=hS.setld (y:=⟨(Af st.loads i).k,(Af st.loads i).n-g,(Af st.loads i).ow⟩) a1
 have hS2:=hS1.app ⟨kd,n,(Af st.loads i).ow⟩
 have hz:as.length<sizeLine:=Nat.lt_of_lt_of_le (show as.length<50 by rw[hS.len];have:=h.len;omega) (AO (by decide))
 have hz2:st.nums.length+1≤sizeLine:=Nat.le_trans (show _≤20 by have:=h.nm;omega) (AO (by decide))
 refine⟨_,_,?_,hS2.nums (st.nums++[u]),?_,?_⟩
 ·have r0:=AY hS.root
  have lo:=BJ hS.lo
  have xx:=BJ a2
  have c2:=AY a2
  have lo1:=BJ hS1.lo
  have co1:=AY hS1.lo
  have x1:=BJ (List.getElem?_set_self (a:=CP ⟨(Af st.loads i).k,(Af st.loads i).n-g,(Af st.loads i).ow⟩) (A9 a2))
  have c4:Em ((S.set a (CP ⟨(Af st.loads i).k,(Af st.loads i).n-g,(Af st.loads i).ow⟩))++[CP ⟨kd,n,(Af st.loads i).ow⟩]) l=some (as.map D.ref):=AY (by rw[List.getElem?_append_left (A9 hS1.lo)];exact hS1.lo)
  have nu:=hS2.nu
  have c5:=AY nu
  simp only[CP]at c2 xx lo1 co1 x1 c4 c5⊢
  have hz':(as.map D.ref).length<sizeLine:=by simpa using hz
  generalize (as.map D.ref)=refs at*
  simp[Bz,Fv,Bf.d,r0,lo,a3,xx,c2,lo1,x1,co1]at c4 c5⊢
  simp[c4,hz',c5,hz2]
 ·exact(((Fm.set (by simp[List.mem_of_getElem? a1])).trans .app).trans (.set (by simp))).trans (.set (by simp))
 ·intro n hn
  rcases List.mem_append.mp hn with w|w
  ·exact .inl w
  ·simp at w;exact .inr (by omega)
theorem aT(hS:SAt S s l m as st)(ht:L3 t)(h:G8 t k st)(hk:k≤16){i j:Nat}(hc:Can t st (.pool i j)):∃S' as',Bz [t.d,.ref s,(Bf.pool i j).d] S=some (.non,S')/\SAt S' s l m as' (step t st (.pool i j))/\Fm (s::l::m::as) S S'/\∀n∈as',n∈as∨S.length≤n:=by
 obtain⟨hij,hi,hj,h1,h2,h3⟩:=hc
 obtain⟨a,a1,a2,a3⟩:=hS.at hi
 obtain⟨b,b1,b2,b3⟩:=hS.at hj
 have sz:=h.sz
 have pi:=h.pcs _ (Be hi)
 have pj:=h.pcs _ (Be hj)
 obtain⟨S1,e1,g1⟩:=UI (S:=S) (x:=Af st.loads i) (y:=Af st.loads j) (j:=30+170*k) (i:=131+k) a2 b2 (sz.1 _ (Be hi)) (sz.1 _ (Be hj)) (Jk pi.1 pi.2) (Jk pj.1 pj.2) (by omega) (by omega) (by omega) (by rw[h.own _ (Be hi)];have:=ht.2.1;omega)
 have hS1:=hS.same0 g1
 have hab:a≠b:=by
  rintro rfl
  exact hij ((List.getElem?_inj (List.getElem?_eq_some_iff.mp a1).1 hS.ne.2.2.2.2.2.2).mp (a1.trans b1.symm))
 have hS2:=hS1.app ⟨(Af st.loads i).k,(Af st.loads i).n+(Af st.loads j).n,FT (Af st.loads i).n (Af st.loads j).n (Af st.loads i).ow (Af st.loads j).ow⟩
 have ai:i<as.length:=(List.getElem?_eq_some_iff.mp a1).1
 have bj:j<as.length:=(List.getElem?_eq_some_iff.mp b1).1
 have a1':(as++[S1.length])[i]?=some a:=by rw[List.getElem?_append_left ai];exact a1
 have b1':(as++[S1.length])[j]?=some b:=by rw[List.getElem?_append_left bj];exact b1
 have hS3:=hS2.setld (y:=⟨(Af st.loads i).k,0,(Af st.loads i).ow⟩) a1'
 have hS4:=hS3.setld (y:=⟨(Af st.loads j).k,0,(Af st.loads j).ow⟩) b1'
 have hz:as.length<sizeLine:=Nat.lt_of_lt_of_le (show as.length<50 by rw[hS.len];have:=h.len;omega) (AO (by decide))
 have est:step t st (.pool i j)={st with loads:=((st.loads++[Ld.mk (Af st.loads i).k ((Af st.loads i).n+(Af st.loads j).n) (FT (Af st.loads i).n (Af st.loads j).n (Af st.loads i).ow (Af st.loads j).ow)]).set i ⟨(Af st.loads i).k,0,(Af st.loads i).ow⟩).set j ⟨(Af st.loads j).k,0,(Af st.loads j).ow⟩}:=by
  have e0:Af (less st.loads i (Af st.loads i).n) j=Af st.loads j:=by
   unfold Af less
   rw[List.getD_eq_getElem?_getD,List.getElem?_set_ne hij,←List.getD_eq_getElem?_getD]
  have e1:less st.loads i (Af st.loads i).n=st.loads.set i ⟨(Af st.loads i).k,0,(Af st.loads i).ow⟩:=by
   unfold less
   rw[Int.sub_self]
  have e2:less (less st.loads i (Af st.loads i).n) j (Af st.loads j).n=(st.loads.set i ⟨(Af st.loads i).k,0,(Af st.loads i).ow⟩).set j ⟨(Af st.loads j).k,0,(Af st.loads j).ow⟩:=by
   rw[aQ (ls:=less st.loads i (Af st.loads i).n),e0,Int.sub_self,e1]
  show{st with loads:=less (less st.loads i (Af st.loads i).n) j (Af st.loads j).n++_}=_
  rw[e2,List.set_append_left _ _ hi,List.set_append_left _ _ (by simpa using hj)]
 refine⟨_,_,?_,est▸hS4,?_,?_⟩
 ·have r0:=AY hS.root
  have lo:=BJ hS.lo
  have c0:=AY hS.lo
  have xa:=BJ a2
  have xb:=BJ b2
  have c1:=AY hS1.lo
  have c4:Em (S1++[CP ⟨(Af st.loads i).k,(Af st.loads i).n+(Af st.loads j).n,FT (Af st.loads i).n (Af st.loads j).n (Af st.loads i).ow (Af st.loads j).ow⟩]) l=some (as.map D.ref):=AY (by rw[List.getElem?_append_left (A9 hS1.lo)];exact hS1.lo)
  have c5:=AY (hS2.ld i a (Af st.loads i) a1' (by show(st.loads++_)[i]?=_;rw[List.getElem?_append_left hi];exact JN hi))
  have c6:=AY (hS3.ld j b (Af st.loads j) b1' (by show((st.loads++_).set i _)[j]?=_;rw[List.getElem?_set_ne hij,List.getElem?_append_left hj];exact JN hj))
  simp only[CP]at xa xb c4 c5 c6⊢
  have hz':(as.map D.ref).length<sizeLine:=by simpa using hz
  generalize (as.map D.ref)=refs at*
  generalize FT (Af st.loads i).n (Af st.loads j).n (Af st.loads i).ow (Af st.loads j).ow=pr at*
  simp[Bz,Fv,Bf.d,r0,lo,a3,b3,xa,xb,c0,e1]at c4 c5 c6⊢
  simp[c4,hz',c5,c6]
 ·exact(((g1.mono fun _ z=>(nomatch z)).trans .app).trans (.set (by simp))).trans ((Fm.set (by simp[List.mem_of_getElem? a1])).trans (.set (by simp[List.mem_of_getElem? b1])))
 ·intro n hn
  rcases List.mem_append.mp hn with w|w
  ·exact .inl w
  ·simp at w;subst w;exact .inr g1.len
theorem iN(hS:SAt S s l m as st)(ht:L3 t)(h:G8 t k st)(hk:k≤16){d:Bf}(hc:Can t st d):∃S' as',Bz [t.d,.ref s,d.d] S=some (.non,S')/\SAt S' s l m as' (step t st d)/\Fm (s::l::m::as) S S'/\∀n∈as',n∈as∨S.length≤n:=by
 cases d with
 |bring=>exact Wu hS ht h hk hc
 |pool=>exact aT hS ht h hk hc
 |swap=>exact ZS hS ht h hk hc
 |trade=>exact WX hS ht h hk hc
 |spoil=>exact WY hS ht h hk hc
 |thr=>exact cg hS ht h hk hc
 |sell=>exact Zf hS ht h hk hc
end
section
variable{st:Stt}{t:Tr}{k:Nat}
theorem K6{a b:Nat}(h:a≤b):2^a≤2^b:=Nat.pow_le_pow_right (by decide) h
theorem GQ{a b:Nat}(h:a≤b):(2:Int)^a≤2^b:=by
 have:=K6 h
 exact_mod_cast this
theorem Ik{c:Int}(h:0≤c):((c.toNat:Nat):Rat)=(c:Rat):=by
 have:((c.toNat:Nat):Int)=c:=Int.toNat_of_nonneg h
 have:(((c.toNat:Nat):Int):Rat)=(c:Rat):=by rw[this]
 exact this
theorem Sx{B T k j:Nat}(hB:B<2^(30+170*k))(hT:T<2^j)(hj:j≤170):B*T<2^(30+170*(k+1)):=by
 have:=Cq hB hT
 exact Nat.lt_of_lt_of_le this (K6 (by omega))
theorem dB{G B P p:Nat}(h:G≤B):∀r∈aJ P p,Ok G B r:=by
 intro r hr
 obtain⟨i,_,rfl⟩:=List.mem_map.mp hr
 split
 ·exact Ok.one h
 ·exact Ok.zero
theorem Sk{G B:Nat}{n m:Int}{ss os:List Rat}(hn:0<n)(hm:0<m)(hs:∀r∈ss,Ok G B r)(ho:∀r∈os,Ok G B r):∀r∈FT n m ss os,Ok (G*(n+m).toNat) (B*(n+m).toNat) r:=by
 intro r hr
 unfold FT at hr
 rw[List.mem_iff_getElem?]at hr
 obtain⟨i,hi'⟩:=hr
 rw[List.getElem?_zipWith_eq_some]at hi'
 obtain⟨x,y,hx,hy,rfl⟩:=hi'
 have:=Ok.mix (a:=n.toNat) (b:=m.toNat) (t:=(n+m).toNat) (hs x (List.mem_of_getElem? hx)) (ho y (List.mem_of_getElem? hy)) (by omega) (by omega)
 rwa [Ik (by omega),Ik (by omega),Ik (by omega)]at this
theorem TY{G B p q:Nat}{x:Rat}{ss:List Rat}(hp:p<ss.length)(hq:q<ss.length)(x1:0<x.num)(x2:x.num≤x.den)(hs:∀r∈ss,Ok G B r):∀r∈JE p q x ss,Ok (G*x.den) (2*B*x.den) r:=by
 have dp:=x.den_pos
 have hsp:=hs _ (getD_mem (d:=0) hp)
 have hsq:=hs _ (getD_mem (d:=0) hq)
 have xs:=F1 x
 have ex:(x.num:Rat)=((x.num.toNat:Nat):Rat):=(Ik (by omega)).symm
 have nz:=LY x
 intro r hr
 unfold JE at hr
 rcases List.mem_or_eq_of_mem_set hr with hr|hr
 ·rcases List.mem_or_eq_of_mem_set hr with hr|hr
  ·exact(hs r hr).up (by rw[Nat.mul_assoc];omega)
  ·rw [hr]
   obtain⟨z,e,hz⟩:=Ok.mix (a:=x.den-x.num.toNat) (b:=x.num.toNat) (t:=x.den) hsp (Ok.zero (G:=G) (B:=B)) (by omega) dp
   refine⟨z,?_,Nat.le_trans hz (by rw[Nat.mul_assoc];omega)⟩
   rw[←e]
   have e2:((x.den-x.num.toNat:Nat):Rat)=(x.den:Rat)-(x.num:Rat):=by
    have:(((x.den-x.num.toNat:Nat):Int):Rat)=((x.den-x.num:Int):Rat):=by
     congr 1;omega
    push_cast at this
    exact this
   rw[e2]
   generalize ss.getD p 0=sp at*
   congr 1
   grind
 ·rw[hr]
  obtain⟨z,e1,hz⟩:=hsp
  obtain⟨y,e2,hy⟩:=hsq
  refine⟨y*x.den+z*x.num.toNat,?_,?_⟩
  ·generalize ss.getD p 0=sp at*
   generalize ss.getD q 0=sq at*
   push_cast
   rw[←ex,←e1,←e2]
   grind
  ·have h1:y*x.den≤B*x.den:=Nat.mul_le_mul_right _ hy
   have h2:z*x.num.toNat≤B*x.den:=Nat.mul_le_mul hz (by omega)
   rw[Nat.mul_assoc];omega
theorem IV{f:Rat->Rat->Rat}{a b:List Rat}{n:Nat}(h:a.length=n)(g:b.length=n):(List.zipWith f a b).length=n:=by rw[List.length_zipWith,h,g];omega
theorem Ho{P:Ld->Prop}{i:Nat}{n:Int}(hi:i<st.loads.length)(h:∀x∈st.loads,P x)(g:P ⟨(Af st.loads i).k,(Af st.loads i).n-n,(Af st.loads i).ow⟩):∀x∈less st.loads i n,P x:=by
 intro x hx
 rcases Nr hx hi with h1|h1
 ·exact h x h1
 ·rw[h1];exact g
theorem Ny{P:Ld->Prop}{ls:List Ld}{y:Ld}(h:∀x∈ls,P x)(g:P y):∀x∈ls++[y],P x:=by
 intro x hx
 rcases List.mem_append.mp hx with w|w
 ·exact h x w
 ·simp at w;rw[w];exact g
structure LOk(t:Tr)(k G B:Nat)(x:Ld):Prop where
 kd:x.k<t.k
 n0:0≤x.n
 n1:x.n<2^(131+k)
 own:x.ow.length=t.p
 ok:∀r∈x.ow,Ok G B r
theorem LOk.up{G B T B':Nat}{x:Ld}(h:LOk t k G B x)(hT:B*T≤B'):LOk t (k+1) (G*T) B' x:=⟨h.kd,h.n0,Int.lt_of_lt_of_le h.n1 (GQ (by omega)),h.own,fun r hr=>(h.ok r hr).up hT⟩
theorem LOk.up1{G B:Nat}{x:Ld}(h:LOk t k G B x):LOk t (k+1) G B x:=⟨h.kd,h.n0,Int.lt_of_lt_of_le h.n1 (GQ (by omega)),h.own,h.ok⟩
theorem LOk.less{G B:Nat}{x:Ld}{n:Int}(h:LOk t k G B x)(h0:0≤n)(h1:n≤x.n):LOk t k G B ⟨x.k,x.n-n,x.ow⟩:=⟨h.kd,show 0≤x.n-n by omega,show x.n-n<_ by have:=h.n1;omega,h.own,h.ok⟩
theorem G8.of{G B:Nat}(h1:st.loads.length≤4+k)(h2:∀x∈st.loads,LOk t k G B x)(h3:st.hold.length=t.p)(h4:st.nums.length≤k)(g0:0<G)(g1:G≤B)(g2:B<2^(30+170*k))(h5:∀r∈st.hold,Ok G B r):G8 t k st:=⟨h1,fun x hx=>(h2 x hx).kd,fun x hx=>⟨(h2 x hx).n0,(h2 x hx).n1⟩,fun x hx=>(h2 x hx).own,h3,h4,G,B,g0,g1,g2,fun x hx=>(h2 x hx).ok,h5⟩
theorem gP{n:Int}(h:n<2^131):n<2^(131+k):=Int.lt_of_lt_of_le h (GQ (by omega))
theorem Vq(ht:L3 t)(h:G8 t k st)(hk:k≤16){d:Bf}(hc:Can t st d):G8 t (k+1) (step t st d):=by
  obtain⟨G,B,g0,g1,g2,hl,hh⟩:=h.gb
  have L:∀x∈st.loads,LOk t k G B x:=fun x hx=>⟨h.kind x hx,(h.pcs x hx).1,(h.pcs x hx).2,h.own x hx,hl x hx⟩
  have g2':B<2^(30+170*(k+1)):=Nat.lt_of_lt_of_le g2 (K6 (by omega))
  have hlen:=h.len
  have hnm:=h.nm
  cases d with
  | bring p kd n =>
    obtain⟨h1,h2,h3,h4⟩:=hc
    refine G8.of (G:=G) (B:=B) (by simp[step];omega) (Ny (fun x hx=>(L x hx).up1) ⟨h2,by show 0≤n;omega,gP h4,by simp[aJ],dB g1⟩) h.hold (Nat.le_succ_of_le hnm) g0 g1 g2' hh
  | pool i j =>
    obtain⟨hij,hi,hj,h1,h2,h3⟩:=hc
    have li:=L _ (Be hi)
    have lj:=L _ (Be hj)
    have tl:((Af st.loads i).n+(Af st.loads j).n).toNat<2^(132+k):=by
      have a:=li.n1;have b:=lj.n1
      have e:(2:Int)^(132+k)=2^(131+k)*2:=by rw[show 132+k=(131+k)+1 by omega,Int.pow_succ]
      have:(((Af st.loads i).n+(Af st.loads j).n).toNat:Int)<((2^(132+k):Nat):Int):=by
        rw[Int.toNat_of_nonneg (by omega)]
        push_cast
        rw[e];omega
      exact_mod_cast this
    have t0:0<((Af st.loads i).n+(Af st.loads j).n).toNat:=by omega
    refine G8.of (G:=G*((Af st.loads i).n+(Af st.loads j).n).toNat) (B:=B*((Af st.loads i).n+(Af st.loads j).n).toNat) (by simp[step,Hk];omega) (Ny ?_ ⟨li.kd,by show 0≤(Af st.loads i).n+(Af st.loads j).n;omega,?_,?_,Sk h1 h2 li.ok lj.ok⟩) h.hold (Nat.le_succ_of_le hnm) (Nat.mul_pos g0 t0) (Nat.mul_le_mul_right _ g1) (Sx g2 tl (by omega)) (fun r hr=>(hh r hr).up (Nat.le_refl _))
    · have e0 : Af (less st.loads i (Af st.loads i).n) j = Af st.loads j := by
        unfold Af less
        rw[List.getD_eq_getElem?_getD,List.getElem?_set_ne hij,←List.getD_eq_getElem?_getD]
      have A:=Ho (P:=LOk t (k+1) (G*((Af st.loads i).n+(Af st.loads j).n).toNat) (B*((Af st.loads i).n+(Af st.loads j).n).toNat)) (n:=(Af st.loads i).n) hi (fun x hx=>(L x hx).up (Nat.le_refl _)) ((li.up (Nat.le_refl _)).less (by omega) (Int.le_refl _))
      have A2:=Ho (st:={st with loads:=less st.loads i (Af st.loads i).n}) (i:=j) (n:=(Af st.loads j).n) (by simpa[Hk]using hj) A (by
        show LOk _ _ _ _ ⟨(Af (less st.loads i (Af st.loads i).n) j).k,(Af (less st.loads i (Af st.loads i).n) j).n-_,(Af (less st.loads i (Af st.loads i).n) j).ow⟩
        rw[e0]
        exact(lj.up (Nat.le_refl _)).less (by omega) (Int.le_refl _))
      exact A2
    · show (Af st.loads i).n + (Af st.loads j).n < 2 ^ (131 + (k + 1))
      have a:=li.n1;have b:=lj.n1
      rw[show 131+(k+1)=(131+k)+1 by omega,Int.pow_succ];omega
    ·exact IV li.own lj.own
  | swap i g kd n =>
    obtain⟨hi,h1,h2,h3,h4,h5,h6⟩:=hc
    have li:=L _ (Be hi)
    refine G8.of (G:=G) (B:=B) (by simp[step,Hk];omega) (Ny (Ho hi (fun x hx=>(L x hx).up1) (li.up1.less (by omega) h2)) ⟨h3,by show 0≤n;omega,gP h6,li.own,li.ok⟩) h.hold (Nat.le_succ_of_le hnm) g0 g1 g2' hh
  | trade u i g kd n =>
    obtain⟨hi,h1,h2,h3,h4,h5,h6,h7⟩:=hc
    have li:=L _ (Be hi)
    refine G8.of (G:=G) (B:=B) (by simp[step,Hk];omega) (Ny (Ho hi (fun x hx=>(L x hx).up1) (li.up1.less (by omega) h2)) ⟨h3,by show 0≤n;omega,gP h6,li.own,li.ok⟩) h.hold (by simp[step];omega) g0 g1 g2' hh
  | spoil i n =>
    obtain⟨hi,h1,h2⟩:=hc
    have li:=L _ (Be hi)
    refine G8.of (G:=G) (B:=B) (by simp[step,Hk];omega) (Ho hi (fun x hx=>(L x hx).up1) (li.up1.less (by omega) h2)) h.hold (Nat.le_succ_of_le hnm) g0 g1 g2' hh
  | thr i n ws =>
    obtain⟨hi,h1,h2,h3,h4⟩:=hc
    have li:=L _ (Be hi)
    have W:=Kn ht h (by omega) h3 h4
    have wl:(Fh t st.loads ws).toNat<2^(145+k):=by
      have:((Fh t st.loads ws).toNat:Int)<((2^(145+k):Nat):Int):=by
        rw[Int.toNat_of_nonneg (by omega)];push_cast;exact W.2
      exact_mod_cast this
    have bo:=fun{ss:List Rat} (hs:∀r∈ss,Ok G B r)=>UU ht h (by omega) h3 h4 hi h1 h2 li.ok hs
    refine G8.of (G:=G*(Fh t st.loads ws).toNat) (B:=B*(Fh t st.loads ws).toNat) (by simp[step,Hk];omega) ?_ (IV h.hold li.own) (Nat.le_succ_of_le hnm) (Nat.mul_pos g0 (by omega)) (Nat.mul_le_mul_right _ g1) (Sx g2 wl (by omega)) (bo hh)
    intro x hx
    obtain⟨y,hy,rfl⟩:=List.mem_map.mp hx
    have ly:=Ho (P:=LOk t k G B) hi L (li.less (n:=n) (by omega) h2) y hy
    exact⟨ly.kd,ly.n0,ly.up1.n1,IV ly.own li.own,bo ly.ok⟩
  | sell p q x =>
    obtain⟨h1,h2,h3,h4,h5,h6⟩:=hc
    have dp:=x.den_pos
    refine G8.of (G:=G*x.den) (B:=2*B*x.den) (by simp[step];omega) ?_ (by simp[step,JE,h.hold]) (Nat.le_succ_of_le hnm) (Nat.mul_pos g0 dp) (Nat.mul_le_mul_right _ (by omega)) ?_ (TY (by rw[h.hold];exact h2) (by rw[h.hold];exact h3) h4 h5 hh)
    · intro y hy
      obtain⟨z,hz,rfl⟩:=List.mem_map.mp hy
      have lz:=L z hz
      exact⟨lz.kd,lz.n0,lz.up1.n1,by simp[JE,lz.own],TY (by rw[lz.own];exact h2) (by rw[lz.own];exact h3) h4 h5 lz.ok⟩
    · have := Sx (B := B) (T := 2 * x.den) (j := 5) g2 (by omega) (by omega)
      rw[show 2*B*x.den=B*(2*x.den) by rw[←Nat.mul_assoc,Nat.mul_comm 2 B]]
      exact this
end
theorem N3{α:Type}{f:α->D}:∀{xs:List α},(∀x∈xs,(f x).lay=true)->D.lays (xs.map f)=true
  | [],_=>rfl
  | x :: xs, h => by
    show((f x).lay && D.lays (xs.map f))=true
    rw[h x List.mem_cons_self,N3 fun y hy=>h y (List.mem_cons_of_mem _ hy)]
    rfl
theorem Xp{ds:List D}(h:D.lays ds=true):B2 (.lst ds) (.lst [])=true:=by
 unfold B2
 show(D.lays ds && true && _)=true
 rw[h]
 simp only[Bool.true_and,decide_eq_true_eq]
 exact Nat.le_trans (Nat.min_le_right _ _) (by decide)
noncomputable def GK(is:List Nat):List D:=is.map fun(i:Nat)=>D.int i
theorem K9{is:List Nat}:B2 (.lst (GK is)) (.lst [])=true:=Xp (N3 fun _ _=>rfl)
theorem W4{d:D}{ds:List D}:deq (.lst (d::ds)) (.lst [])=false:=rfl
theorem ZH:deq (.lst []) (.lst [])=true:=rfl
theorem Nt{is:List Nat}:deq (.lst (GK is)) (.lst [])=is.isEmpty:=by
 cases is with
 |nil=>exact ZH
 |cons i is=>exact W4
theorem Ts{ds:List D}:QG 0 ds=(List.range ds.length).map fun(i:Nat)=>D.tup [.int i,ds.getD i .non]:=by
 apply List.ext_getElem?
 intro i
 rw[Nx,List.getElem?_map]
 by_cases h:i<ds.length
 ·rw[List.getElem?_eq_getElem h,List.getElem?_range h]
  simp[List.getElem?_eq_getElem h]
 ·rw[List.getElem?_eq_none (by omega),List.getElem?_eq_none (by simp;omega)]
  rfl
theorem Ij{is:List Nat}:(GK is).length=is.length:=by simp[GK]
theorem La{is:List Nat}{r:Int}(h0:0≤r)(h1:r<is.length):∃i∈is,atI (GK is) r=some (.int (i:Nat)):=by
 have h2:r.toNat<is.length:=by omega
 refine⟨is[r.toNat],List.getElem_mem h2,?_⟩
 have:=Yd (xs:=GK is) h0 (by rw[Ij];exact h1)
 rw[this]
 simp[GK]
theorem Sq{x K:Int}(h0:0≤x)(h1:x<2*K):x % K=if x<K then x else x-K:=by
 split
 ·exact Int.emod_eq_of_lt h0 (by assumption)
 ·have:x % K=(x-K) % K:=by rw[Int.sub_emod_right]
  rw[this]
  exact Int.emod_eq_of_lt (by omega) (by omega)
section
variable{S:Sto}{p s l m:Nat}{as:List Nat}{st:Stt}{t:Tr}{k:Nat}
noncomputable def CK(st:Stt):List Nat:=(List.range st.loads.length).filter fun i=>decide (0<(Af st.loads i).n)
theorem Yx(hS:SAt S s l m as st)(hl:st.loads.length≤50):Bg [(l,as.map D.ref)] (tTp [(tNm 0),(tNm 1)]) (eOp (o2 wGt) [(eOp (o2 wIx) [(eV 1),(eC (.int 1))]),(eC (.int 0))]) (eV 0) (QG 0 (as.map D.ref)) [] [none,none] S=some (GK (CK st),S):=by
 have:=GN (gs:=[(l,as.map D.ref)]) (t:=tTp [(tNm 0),(tNm 1)]) (c:=eOp (o2 wGt) [(eOp (o2 wIx) [(eV 1),(eC (.int 1))]),(eC (.int 0))]) (f:=eV 0) (C:=[]) (m:=2) (e:=fun i:Nat=>D.tup [.int i,(as.map D.ref).getD i .non]) (g:=fun i:Nat=>D.int i) (b:=fun i=>decide (0<(Af st.loads i).n)) (S:=S) hS.guard (xs:=List.range st.loads.length) (acc:=[]) (os:=[none,none]) rfl (Nat.le_trans (show _≤50 by simp;omega) (AO (by decide))) (by
  intro i hi os ho
  obtain⟨o1,o2,rfl⟩:∃o1 o2,os=[o1,o2]:=by
   match os,ho with
   | [a,b],_=>exact⟨a,b,rfl⟩
  obtain⟨a,a1,a2,a3⟩:=hS.at (List.mem_range.mp hi)
  have e:(as.map D.ref).getD i .non=.ref a:=by simp[a1]
  rw[e]
  refine⟨[some (.int i),some (.ref a)],rfl,by simp,?_,by simp⟩
  simp[BJ a2,CP])
 rw[Ts,List.length_map,hS.len]
 exact this
theorem Ks{i:Nat}(h:i∈CK st):i<st.loads.length/\0<(Af st.loads i).n:=by
 unfold CK at h
 rw[List.mem_filter]at h
 exact⟨List.mem_range.mp h.1,by simpa using h.2⟩
noncomputable def Es(st:Stt)(j:Nat):List Nat:=(CK st).filter fun i=> !(i==j) && ((Af st.loads i).k==(Af st.loads j).k)
theorem Nu:(CK st).length≤st.loads.length:=by
 unfold CK
 exact Nat.le_trans (List.length_filter_le _ _) (by simp)
theorem WI{a b:Nat}:((a:Int)==(b:Int))=(a==b):=by
 by_cases h:a=b
 ·subst h;simp
 ·have:((a:Int)==(b:Int))=false:=by simp;omega
  rw[this];simp[h]
theorem Z5(hS:SAt S s l m as st)(hl:st.loads.length≤50){j:Nat}(hj:j∈CK st):Bg [] (tNm 2) (C8 (eOp (o2 wNe) [(eV 2),(eV 1)]) (eOp (o2 wEq) [(eOp (o2 wIx) [(eOp (o2 wIx) [(eV 0),(eV 2)]),(eC (.int 0))]),(eOp (o2 wIx) [(eOp (o2 wIx) [(eV 0),(eV 1)]),(eC (.int 0))])])) (eV 2) (GK (CK st)) [] [some (.ref l),some (.int j),none] S=some (GK (Es st j),S):=by
 have fl:=Nu (st:=st)
 exact GN (gs:=[]) (t:=tNm 2) (f:=eV 2) (C:=[some (.ref l),some (.int j)]) (m:=1) (e:=fun i:Nat=>D.int i) (g:=fun i:Nat=>D.int i) (b:=fun i=> !(i==j) && ((Af st.loads i).k==(Af st.loads j).k)) (S:=S) BU (xs:=CK st) (acc:=[]) (os:=[none]) rfl (Nat.le_trans (show _≤50 by simp;omega) (AO (by decide))) (by
  intro i hi os ho
  obtain⟨o1,rfl⟩:∃o1,os=[o1]:=by
   match os,ho with
   | [a],_=>exact⟨a,rfl⟩
  obtain⟨a,a1,a2,a3⟩:=hS.at (Ks hi).1
  obtain⟨b,b1,b2,b3⟩:=hS.at (Ks hj).1
  refine⟨[some (.int i)],rfl,by simp,?_,by simp⟩
  by_cases e:i=j
  ·subst e
   simp
  ·have e':((i:Int)==(j:Int))=false:=by simp;omega
   have e2:(i==j)=false:=by simp[e]
   simp[e',e2,BJ hS.lo,a3,b3,BJ a2,BJ b2,CP,WI])
theorem Vk{i j:Nat}(h:i∈Es st j):i∈CK st/\i≠j/\(Af st.loads i).k=(Af st.loads j).k:=by
 unfold Es at h
 rw[List.mem_filter]at h
 simp at h
 exact⟨h.1,h.2.1,h.2.2⟩
noncomputable def Fw(st:Stt):List Nat:=(List.range 10).filter fun i=> !(st.nums.any fun u=>u==(i:Int))
theorem WM{us:List Int}{i:Int}:inD (.int i) (us.map D.int)=us.any fun u=>u==i:=by
 unfold inD
 rw[List.any_map]
 rfl
@[simp] theorem gq{b:Bool}{w:Wv}{r:List D}:wIn b w (.own r)=if(HJ (fz w) && r.all HJ)=true then some (.val (.bl (if b then !inD (fz w) r else inD (fz w) r)))else none:=nr rfl
theorem Td{us:List Int}:(us.map D.int).all HJ=true:=by
 rw[List.all_map,List.all_eq_true]
 intro x _;rfl
@[simp] theorem jh{i:Int}:HJ (.int i)=true:=nr rfl
theorem ZA(hS:SAt S s l m as st):Bg [] (tNm 1) (eOp (o2 (wIn true)) [(eV 1),(eV 0)]) (eV 1) (Kw 0 10) [] [some (.ref m),none] S=some (GK (Fw st),S):=by
 exact GN (gs:=[]) (t:=tNm 1) (f:=eV 1) (C:=[some (.ref m)]) (m:=1) (e:=fun i:Nat=>D.int (0+(i:Int))) (g:=fun i:Nat=>D.int i) (b:=fun i=> !(st.nums.any fun u=>u==(i:Int))) (S:=S) BU (xs:=List.range 10) (acc:=[]) (os:=[none]) rfl (Nat.le_trans (show _≤50 by simp) (AO (by decide))) (by
  intro i hi os ho
  obtain⟨o1,rfl⟩:∃o1,os=[o1]:=by
   match os,ho with
   | [a],_=>exact⟨a,rfl⟩
  refine⟨[some (.int i)],rfl,by simp,?_,by simp⟩
  have nu:=BJ hS.nu
  have fi:=Td (us:=st.nums)
  have ii:=WM (us:=st.nums) (i:=(i:Int))
  generalize st.nums.map D.int=ud at*
  generalize (st.nums.any fun u=>u==(i:Int))=bb at*
  simp[nu,fi,ii])
theorem Wh{i:Nat}(h:i∈Fw st):(i:Int)∉st.nums/\i≤9:=by
 unfold Fw at h
 rw[List.mem_filter]at h
 have h1:=List.mem_range.mp h.1
 refine⟨?_,by omega⟩
 intro z
 have h2:=h.2
 have:(st.nums.any fun u=>u==(i:Int))=true:=List.any_eq_true.mpr ⟨_,z,by simp⟩
 rw[this]at h2
 cases h2
theorem Wo:(Fw st).length≤10:=by
 unfold Fw
 exact Nat.le_trans (List.length_filter_le _ _) (by simp)
theorem WZ{j:Nat}:(Es st j).length≤st.loads.length:=by
 unfold Es
 exact Nat.le_trans (List.length_filter_le _ _) Nu
end
section
variable{S:Sto}{p s l m:Nat}{as:List Nat}{st:Stt}{t:Tr}{k:Nat}
def N1:Ex:=(Ai (xIf (C8 (eOp (o2 wLt) [(eV 7),(eC (.int 8))]) (eOp (o2 wGt) [(eOp (o2 wIx) [(eV 1),(eC (.int 1))]),(eC (.int 1))])) (Ai (CF 11 (eOp (o2 PX) [(eOp (o2 B9) [(eOp (o2 B9) [(eOp (o2 wIx) [(eOp (o2 wIx) [(eV 3),(eV 8)]),(eC (.int 0))]),(eC (.int 1))]),(AJ AI [(eV 0),(eOp (o2 JU) [(eOp (o2 wIx) [(eV 1),(eC (.int 1))]),(eC (.int 1))])])]),(eOp (o2 wIx) [(eV 1),(eC (.int 1))])]))
  (Ai (CF 12 (C4 [5] 1 (PY [(eC (.int 10))]) (tNm 1) (eOp (o2 (wIn true)) [(eV 1),(eV 0)]) (eV 1)))
  (Ai (xIf (C8 (eOp (o2 wEq) [(eV 7),(eC (.int 7))]) (eOp (o2 wNe) [(eV 12),(Hj [])])) (A3 (BD [(eC (.str "trade")),(eOp (o2 wIx) [(eV 12),(AJ AI [(eV 0),(eOp (o1 GC) [(eV 12)])])]),(eV 8),(eV 9),(eV 11),(AJ BQ [(eV 0)])])) CJ)
  (A3 (BD [(eC (.str "swap")),(eV 8),(eV 9),(eV 11),(AJ BQ [(eV 0)])]))))) CJ)
  (Ai (xIf (eOp (o2 wEq) [(eV 7),(eC (.int 8))]) (A3 (BD [(eC (.str "spoil")),(eV 8),(eV 9)])) CJ)
  (Ai (xIf (C8 (eOp (o2 wEq) [(eV 7),(eC (.int 9))]) (eOp (o2 wGt) [(eOp (o2 wIx) [(eV 1),(eC (.int 0))]),(eC (.int 1))])) (Ai (CF 13 (AJ AI [(eV 0),(eOp (o2 wIx) [(eV 1),(eC (.int 0))])]))
  (A3 (BD [(eC (.str "sell")),(eV 13),(eOp (o2 PX) [(eOp (o2 B9) [(eOp (o2 B9) [(eV 13),(eC (.int 1))]),(AJ AI [(eV 0),(eOp (o2 JU) [(eOp (o2 wIx) [(eV 1),(eC (.int 0))]),(eC (.int 1))])])]),(eOp (o2 wIx) [(eV 1),(eC (.int 0))])]),(AJ FP [(eV 0)])]))) CJ)
  (A3 (BD [(eC (.str "throw")),(eV 8),(eV 9),(AJ Dp [(eV 0),(eOp (o2 B9) [(eOp (o2 wIx) [(eV 1),(eC (.int 1))]),(eC (.int 1))])])])))))
def Ua:Ex:=(xIf (eOp (o2 wLt) [(eV 7),(eC (.int 5))]) (Ai (CF 10 (C4 [3,8] 1 (Hy (eV 6)) (tNm 2) (C8 (eOp (o2 wNe) [(eV 2),(eV 1)]) (eOp (o2 wEq) [(eOp (o2 wIx) [(eOp (o2 wIx) [(eV 0),(eV 2)]),(eC (.int 0))]),(eOp (o2 wIx) [(eOp (o2 wIx) [(eV 0),(eV 1)]),(eC (.int 0))])])) (eV 2)))
  (xIf (eOp (o2 wNe) [(eV 10),(Hj [])]) (A3 (BD [(eC (.str "pool")),(eV 8),(eOp (o2 wIx) [(eV 10),(AJ AI [(eV 0),(eOp (o1 GC) [(eV 10)])])])])) CJ)) CJ)
theorem Nf:Mz=(Ai (PL (tTp [(tNm 3),(tNm 4),(tNm 5)]) (eV 2))
  (Ai (CF 6 (C4 [] 2 (ah (eV 3)) (tTp [(tNm 0),(tNm 1)]) (eOp (o2 wGt) [(eOp (o2 wIx) [(eV 1),(eC (.int 1))]),(eC (.int 0))]) (eV 0)))
  (Ai (CF 7 (AJ AI [(eV 0),(eC (.int 12))]))
  (Ai (xIf (eOr (eOp (o2 wLt) [(eV 7),(eC (.int 2))]) (eOp (o2 wEq) [(eV 6),(Hj [])])) (A3 (BD [(eC (.str "bring")),(AJ AI [(eV 0),(eOp (o2 wIx) [(eV 1),(eC (.int 0))])]),(AJ AI [(eV 0),(eOp (o2 wIx) [(eV 1),(eC (.int 1))])]),(AJ BQ [(eV 0)])])) CJ)
  (Ai (CF 8 (eOp (o2 wIx) [(eV 6),(AJ AI [(eV 0),(eOp (o1 GC) [(eV 6)])])]))
  (Ai (CF 9 (eOp (o2 B9) [(eC (.int 1)),(AJ AI [(eV 0),(eOp (o2 ao) [(eOp (o2 wIx) [(eOp (o2 wIx) [(eV 3),(eV 8)]),(eC (.int 1))]),(eC (.int 2000))])])]))
  (Ai Ua N1))))))):=rfl
theorem aB (hp : DX p S) (hS : SAt S s l m as st) (hps : p ∉ s :: l :: m :: as) (ht : L3 t) (h : G8 t k st) (hk : k ≤ 16) : ∃ d S', Dq [.ref p, t.d, .ref s] S = some (Bf.d d, S') /\ Pn p S S' /\ Can t st d := by
  obtain⟨t1,t2,t3,t4,t5,t6⟩:=ht
  have hlen:=h.len
  have st':∀{S':Sto},Pn p S S'->SAt S' s l m as st:=fun g=>hS.same g.same (by simpa using hps)
  have r0:=AY hS.root
  have cf:=Yx hS (by omega)
  have fl:=Nu (st:=st)
  have sq:=He hS.lo
  obtain⟨way,S1,e1,a1,b1,p1⟩:=Ap hp (n:=12) (by decide) (by decide)
  have okF:=K9 (is:=CK st)
  have dqF:=Nt (is:=CK st)
  by_cases hb:way<2∨(CK st).isEmpty=true
  · obtain ⟨x2, S2, e2, a2, b2, p2⟩ := Ap p1.pen (n := t.p) (by omega) (by omega)
    obtain⟨x3,S3,e3,a3,b3,p3⟩:=Ap p2.pen (n:=t.k) (by omega) (by omega)
    obtain⟨x4,S4,e4,p4,a4,b4⟩:=Iy p3.pen
    obtain⟨x2,rfl⟩:=G5 a2
    obtain⟨x3,rfl⟩:=G5 a3
    refine⟨.bring x2 x3 x4,S4,?_,((p1.trans p2).trans p3).trans p4,by omega,by omega,a4,b4⟩
    by_cases hw:way<2
    ·simp[Dq,Nf,r0,sq,cf,e1,Tr.d,hw,e2,e3,e4,Bf.d]
    · have hf := hb.resolve_left hw
      simp[Dq,Nf,r0,sq,cf,e1,Tr.d,hw,okF,dqF,hf,e2,e3,e4,Bf.d]
  · have hw2 : ¬ way < 2 := fun z => hb (.inl z)
    have hf:(CK st).isEmpty=false:=by
      cases z:(CK st).isEmpty with
      |true=>exact absurd (.inr z) hb
      |false=>rfl
    have hfl:0<(CK st).length:=by
      cases z:CK st with
      |nil=>rw[z]at hf;cases hf
      |cons a b=>simp
    obtain⟨rl,S2,e2,a2,b2,p2⟩:=Ap p1.pen (n:=(CK st).length) (by omega) (by omega)
    obtain⟨i,mi,ei⟩:=La a2 b2
    have fi:=Ks mi
    have hS1:=st' p1
    have hS2:=st' (p1.trans p2)
    obtain⟨a,x1,x2,x3⟩:=hS2.at fi.1
    have n1:=fi.2
    obtain⟨rs,S3,e3,a3,b3,p3⟩:=Ap p2.pen (n:=if 2000<(Af st.loads i).n then 2000 else(Af st.loads i).n) (by split<;>omega) (by split<;>omega)
    have hsome:1≤1+rs/\1+rs≤(Af st.loads i).n:=by split at b3<;>omega
    have p23:=(p1.trans p2).trans p3
    have hS3:=st' p23
    have lo2:=BJ hS2.lo
    have lo3:=BJ hS3.lo
    have x2':=BJ x2
    have x4:S3[a]?=some (CP (Af st.loads i)):=hS3.ld i a _ x1 (JN fi.1)
    have x4':=BJ x4
    have kd:=h.kind _ (Be fi.1)
    have nl:=Ij (is:=CK st)
    have cs:=Z5 hS3 (by omega) mi
    have okS:=K9 (is:=Es st i)
    have dqS:=Nt (is:=Es st i)
    have sl:=WZ (st:=st) (j:=i)
    have nls:=Ij (is:=Es st i)
    have pre:Dq [.ref p,t.d,.ref s] S=((Ua [some (.ref p),some t.d,some (.ref s),some (.ref l),some (shD st.hold),some (.ref m),some (.lst (GK (CK st))),some (.int way),some (.int i),some (.int (1+rs)),none,none,none,none] S3).bind (dO N1)).map fun r=>(flD r.1,r.2.2):=by
      simp[Dq,Nf,r0,sq,cf,e1,hw2,okF,dqF,hf,nl,e2,ei,lo2,x3,x2',e3]
    have tail : ∀ o10, (way < 5 -> (Es st i).isEmpty = true) -> ∃ d S', (N1 [some (.ref p), some t.d, some (.ref s), some (.ref l), some (shD st.hold), some (.ref m), some (.lst (GK (CK st))), some (.int way), some (.int i), some (.int (1 + rs)), o10, none, none, none] S3).map (fun r => (flD r.1, r.2.2)) = some (Bf.d d, S') /\ Pn p S S' /\ Can t st d := by
      intro o10 _
      clear pre cs okS dqS
      by_cases hsw:way<8/\1<t.k
      · obtain ⟨hw8, hk1⟩ := hsw
        have hk1':(1:Int)<t.k:=by omega
        obtain⟨rk,S4,e4,a4,b4,p4⟩:=Ap p3.pen (n:=(t.k:Int)-1) (by omega) (by omega)
        have hS4:=st' (p23.trans p4)
        have hmod:=Sq (x:=((Af st.loads i).k:Int)+1+rk) (K:=t.k) (by omega) (by omega)
        obtain⟨kd2,ekd⟩:∃q:Nat,((Af st.loads i).k+1+rk) % (t.k:Int)=(q:Int):=⟨_,(Int.toNat_of_nonneg (Int.emod_nonneg _ (by omega))).symm⟩
        have hkd:kd2<t.k/\kd2≠(Af st.loads i).k:=by
          rw[ekd]at hmod
          split at hmod<;>omega
        have kp:0<t.k:=by omega
        have cl:=ZA hS4
        have okL:=K9 (is:=Fw st)
        have dqL:=Nt (is:=Fw st)
        have ll:=Wo (st:=st)
        have nll:=Ij (is:=Fw st)
        have rt:Ja 10=true:=E5 (by decide) (by decide)
        by_cases htr:way=7/\(Fw st).isEmpty=false
        · obtain ⟨hw7, hle⟩ := htr
          have hll:0<(Fw st).length:=by
            cases z:Fw st with
            |nil=>rw[z]at hle;cases hle
            |cons a b=>simp
          obtain⟨ru,S5,e5,a5,b5,p5⟩:=Ap p4.pen (n:=(Fw st).length) (by omega) (by omega)
          obtain⟨u,mu,eu⟩:=La a5 b5
          obtain⟨x6,S6,e6,p6,a6,b6⟩:=Iy p5.pen
          have fu:=Wh mu
          refine⟨.trade u i (1+rs) kd2 x6,S6,?_,((p23.trans p4).trans p5).trans p6,fi.1,hsome.1,hsome.2,hkd.1,hkd.2,a6,b6,fu.1,by omega,by omega⟩
          subst hw7
          simp[N1,Tr.d,x3,hk1',lo3,x4',e4,kp,ekd,rt,cl,okL,dqL,hle,nll,e5,eu,e6,Bf.d]
        · obtain ⟨x6, S6, e6, p6, a6, b6⟩ := Iy p4.pen
          refine⟨.swap i (1+rs) kd2 x6,S6,?_,(p23.trans p4).trans p6,fi.1,hsome.1,hsome.2,hkd.1,hkd.2,a6,b6⟩
          by_cases h7:way=7
          · subst h7
            have hle:(Fw st).isEmpty=true:=by
              cases z:(Fw st).isEmpty with
              |true=>rfl
              |false=>exact absurd ⟨rfl,z⟩ htr
            simp[N1,Tr.d,x3,hk1',lo3,x4',e4,kp,ekd,rt,cl,okL,dqL,hle,nll,e6,Bf.d]
          · have h7' : (way == 7) = false := by simpa using h7
            simp[N1,Tr.d,x3,hw8,hk1',lo3,x4',e4,kp,ekd,rt,cl,h7',e6,Bf.d]
      · have sw : ∀ (x y : Ex) (T : Sto), xIf (C8 (eOp (o2 wLt) [(eV 7), (eC (.int 8))]) (eOp (o2 wGt) [(eOp (o2 wIx) [(eV 1), (eC (.int 1))]), (eC (.int 1))])) x y [some (.ref p), some t.d, some (.ref s), some (.ref l), some (shD st.hold), some (.ref m), some (.lst (GK (CK st))), some (.int way), some (.int i), some (.int (1 + rs)), o10, none, none, none] T = y [some (.ref p), some t.d, some (.ref s), some (.ref l), some (shD st.hold), some (.ref m), some (.lst (GK (CK st))), some (.int way), some (.int i), some (.int (1 + rs)), o10, none, none, none] T := by
          intro x y T
          by_cases w8:way<8
          · have hk1 : ¬ (1 : Int) < t.k := by omega
            simp[Tr.d,w8,hk1]
          ·simp[w8]
        by_cases h8:way=8
        · subst h8
          refine⟨.spoil i (1+rs),S3,?_,p23,fi.1,hsome.1,hsome.2⟩
          simp[N1,-P1,sw]
          simp[Bf.d]
        · have h8' : (way == 8) = false := by simpa using h8
          by_cases h9:way=9/\1<t.p
          · obtain ⟨h9, hP⟩ := h9
            subst h9
            have hP':(1:Int)<t.p:=by omega
            obtain⟨rp,S4,e4,a4,b4,p4⟩:=Ap p3.pen (n:=t.p) (by omega) (by omega)
            obtain⟨rq,S5,e5,a5,b5,p5⟩:=Ap p4.pen (n:=(t.p:Int)-1) (by omega) (by omega)
            obtain⟨sh,S6,e6,p6,a6,b6,c6⟩:=W8 p5.pen
            have hmod:=Sq (x:=rp+1+rq) (K:=t.p) (by omega) (by omega)
            obtain⟨q,eq⟩:∃q:Nat,(rp+1+rq) % (t.p:Int)=(q:Int):=⟨_,(Int.toNat_of_nonneg (Int.emod_nonneg _ (by omega))).symm⟩
            obtain⟨rp,rfl⟩:=G5 a4
            have hq:q<t.p/\q≠rp:=by
              rw[eq]at hmod
              split at hmod<;>omega
            have pp:0<t.p:=by omega
            refine⟨.sell rp q sh,S6,?_,((p23.trans p4).trans p5).trans p6,fun z=>hq.2 z.symm,by omega,hq.1,a6,b6,c6⟩
            simp[N1,-P1,sw]
            simp[Tr.d,hP',e4,e5,pp,eq,e6,Bf.d]
          · have s9 : ∀ (x y : Ex) (T : Sto), xIf (C8 (eOp (o2 wEq) [(eV 7), (eC (.int 9))]) (eOp (o2 wGt) [(eOp (o2 wIx) [(eV 1), (eC (.int 0))]), (eC (.int 1))])) x y [some (.ref p), some t.d, some (.ref s), some (.ref l), some (shD st.hold), some (.ref m), some (.lst (GK (CK st))), some (.int way), some (.int i), some (.int (1 + rs)), o10, none, none, none] T = y [some (.ref p), some t.d, some (.ref s), some (.ref l), some (shD st.hold), some (.ref m), some (.lst (GK (CK st))), some (.int way), some (.int i), some (.int (1 + rs)), o10, none, none, none] T := by
              intro x y T
              by_cases z:way=9
              · have hP : ¬ (1 : Int) < t.p := by have : ¬ 1 < t.p := fun w => h9 ⟨z, w⟩; omega
                subst z
                simp[Tr.d,hP]
              · have z' : (way == 9) = false := by simpa using z
                simp[z']
            obtain⟨ws,S4,e4,p4,a4,b4⟩:=SS p3.pen (n:=t.k+1) (by omega)
            have e4':Dp [.ref p,.int ((t.k:Int)+1)] S3=some (.tup (ws.map .int),S4):=e4
            refine⟨.thr i (1+rs) ws,S4,?_,p23.trans p4,fi.1,hsome.1,hsome.2,a4,b4⟩
            have s8:∀(x y:Ex) (T:Sto),xIf (eOp (o2 wEq) [(eV 7),(eC (.int 8))]) x y [some (.ref p),some t.d,some (.ref s),some (.ref l),some (shD st.hold),some (.ref m),some (.lst (GK (CK st))),some (.int way),some (.int i),some (.int (1+rs)),o10,none,none,none] T=y [some (.ref p),some t.d,some (.ref s),some (.ref l),some (shD st.hold),some (.ref m),some (.lst (GK (CK st))),some (.int way),some (.int i),some (.int (1+rs)),o10,none,none,none] T:=by
              intro x y T
              simp[h8']
            simp[N1,-P1,sw,s8,s9]
            simp[Tr.d,e4',Bf.d]
    by_cases hpool:way<5/\(Es st i).isEmpty=false
    · obtain ⟨hw5, hse⟩ := hpool
      have hsl:0<(Es st i).length:=by
        cases z:Es st i with
        |nil=>rw[z]at hse;cases hse
        |cons a b=>simp
      obtain⟨rj,S4,e4,a4,b4,p4⟩:=Ap p3.pen (n:=(Es st i).length) (by omega) (by omega)
      obtain⟨j,mj,ej⟩:=La a4 b4
      have fj:=Vk mj
      have fj':=Ks fj.1
      refine⟨.pool i j,S4,?_,p23.trans p4,fun z=>fj.2.1 z.symm,fi.1,fj'.1,n1,fj'.2,fj.2.2.symm⟩
      rw[pre]
      simp[Ua,hw5,cs,okS,dqS,hse,nls,e4,ej,Bf.d]
    · by_cases w5 : way < 5
      · have hse : (Es st i).isEmpty = true := by
          cases z:(Es st i).isEmpty with
          |true=>rfl
          |false=>exact absurd ⟨w5,z⟩ hpool
        obtain⟨d,S',e,pn,hc⟩:=tail (some (.lst (GK (Es st i)))) (fun _=>hse)
        refine⟨d,S',?_,pn,hc⟩
        rw[pre,←e]
        simp[Ua,w5,cs,okS,dqS,hse]
      · obtain ⟨d, S', e, pn, hc⟩ := tail none (fun z => absurd z w5)
        refine⟨d,S',?_,pn,hc⟩
        rw[pre,←e]
        simp[Ua,w5]
end
noncomputable def runs(t:Tr)(st:Stt)(ds:List Bf):Stt:=ds.foldl (step t) st
def NS(t:Tr):Stt->List Bf->Prop
 |_,[]=>True
 |st,d::ds=>Can t st d/\NS t (step t st d) ds
theorem Md{t:Tr}{d:Bf}:∀{ds:List Bf} {st:Stt},NS t st ds->Can t (runs t st ds) d->NS t st (ds++[d])
 | [],st,_,h=>⟨h,trivial⟩
 |x::ds,st,h,g=>⟨h.1,Md h.2 g⟩
theorem QT{t:Tr}:∀{ds:List Bf} {st:Stt} {i:Nat} {d:Bf},NS t st ds->ds[i]?=some d->Can t (runs t st (ds.take i)) d
  | x :: ds, st, 0, d, h, g => by
    simp at g;subst g
    exact h.1
  | x :: ds, st, i + 1, d, h, g => by
    simp at g
    show Can t (runs t (step t st x) (ds.take i)) d
    exact QT h.2 g
theorem SG{t:Tr}{st:Stt}{ds:List Bf}{d:Bf}:runs t st (ds++[d])=step t (runs t st ds) d:=by simp[runs]
theorem NF{t:Tr}(ht:L3 t):∀{ds:List Bf} {st:Stt} {k:Nat},G8 t k st->NS t st ds->k+ds.length≤17->G8 t (k+ds.length) (runs t st ds)
  | [],st,k,h,_,_=>h
  | d :: ds, st, k, h, g, hl => by
    have:=NF ht (ds:=ds) (Vq ht h (by simp at hl;omega) g.1) g.2 (by simp at hl;omega)
    rw[show k+(d::ds).length=k+1+ds.length by simp;omega]
    exact this
theorem NA{t:Tr}:∀{ds:List Bf} {st:Stt} {i:Nat},NS t st ds->NS t st (ds.take i)
 | [],st,i,h=>by simp;exact trivial
 |d::ds,st,0,h=>trivial
 |d::ds,st,i+1,h=>⟨h.1,NA h.2⟩
noncomputable def st0(t:Tr)(ls:List Ld):Stt:=⟨ls,t.ho,[]⟩
structure K0(t:Tr)(ls:List Ld)(ds:List Bf):Prop where
 tr:L3 t
 inv:G8 t 0 (st0 t ls)
 good:NS t (st0 t ls) ds
 len:ds.length≤16
theorem K0.at{t:Tr}{ls:List Ld}{ds:List Bf}(h:K0 t ls ds)(i:Nat):G8 t (ds.take i).length (runs t (st0 t ls) (ds.take i)):=by
 have:=NF h.tr (ds:=ds.take i) h.inv (NA h.good) (by have:=h.len;simp;omega)
 rwa [Nat.zero_add]at this
noncomputable def Eu(t:Tr)(ls:List Ld)(ds:List Bf):D:=.tup [t.d,.tup (ls.map Ld.d),.tup (ds.map Bf.d)]
theorem UR{t:Tr}{ls:List Ld}(h:Gs t ls)(hl:ls.length≤4)(h1:t.ho.length=t.p){g:Nat}(g0:0<g)(g1:g≤32)(g2:∀r∈t.ho,Ok g g r):G8 t 0 (st0 t ls):=by
 obtain⟨ha,G,G0,G1,G2⟩:=h
 have hG:G≤32^4:=Nat.le_trans G1 (Nat.pow_le_pow_right (by decide) hl)
 have hB:G*g<2^30:=by
  have:=Nat.mul_le_mul hG g1
  omega
 refine G8.of (G:=G*g) (B:=G*g) (by simpa[st0]using hl) ?_ h1 (Nat.le_refl _) (Nat.mul_pos G0 g0) (Nat.le_refl _) hB ?_
 ·intro x hx
  have:=ha x hx
  exact⟨this.1,by omega,gP this.2.2.1,this.2.2.2.1,fun r hr=>(G2 x hx r hr).up (Nat.le_refl _)⟩
 ·intro r hr
  have:=(g2 r hr).up (t:=G) (B':=G*g) (by rw[Nat.mul_comm];exact Nat.le_refl _)
  rwa [Nat.mul_comm g G]at this
noncomputable def Hz:Bf->Bool
 | .thr .. =>true
 |_=>false
section
variable{S:Sto}{p:Nat}
theorem XT(d:Bf)(E:En)(h:E=[some d.d]):eOp (o2 wEq) [(eOp (o2 wIx) [(eV 0),(eC (.int 0))]),(eC (.str "throw"))] E S=some (.bl (Hz d),S):=by
 subst h
 cases d<;>simp[Bf.d,Hz]
theorem kO{q:Nat}{ds:List Bf}(hq:S[q]?=some (.lst (ds.map Bf.d)))(hl:ds.length≤50):Bg [(q,ds.map Bf.d)] (tNm 0) (eOp (o2 wEq) [(eOp (o2 wIx) [(eV 0),(eC (.int 0))]),(eC (.str "throw"))]) (eV 0) (ds.map Bf.d) [] [none] S=some ((ds.filter Hz).map Bf.d,S):=
 GN (gs:=[(q,ds.map Bf.d)]) (t:=tNm 0) (f:=eV 0) (C:=[]) (m:=1) (e:=Bf.d) (g:=Bf.d) (b:=Hz) (S:=S) (fun g hg=>by rw[List.mem_singleton.mp hg];exact AY hq) (xs:=ds) (acc:=[]) (os:=[none]) rfl (Nat.le_trans (show _≤50 by simp;omega) (AO (by decide))) (by
  intro d _ os ho
  obtain⟨o1,rfl⟩:∃o1,os=[o1]:=by
   match os,ho with
   | [a],_=>exact⟨a,rfl⟩
  exact⟨[some d.d],rfl,by simp,XT d _ rfl,by simp⟩)
theorem Zg {M : Nat} (hM : M ≤ 16) (h : DX p S) : ∃ t ls ds S', EG [.ref p, .int M] S = some (Eu t ls ds, S') /\ (K0 t ls ds /\ ds.length ≤ M) /\ ((∀ l ∈ ls, l.ow.sum = 1) /\ t.ho.sum = 1 /\ 0 ≤ t.h /\ t.h ≤ 9 /\ 0 ≤ t.l /\ t.l ≤ 9) /\ DX p S' := by
  obtain⟨t,S1,e1,p1,ht,hh,g,g0,g1,g2⟩:=WV h
  obtain⟨ls,S2,e2,p2,hf,hl⟩:=XZ p1.pen ht
  have hi:=UR hf hl hh.1 g0 g1 g2
  obtain⟨s,l,m,as,S3,e3,hS,sm,hn⟩:=W5 (S:=S2) (t:=t) (ls:=ls) (x:=.tup []) (by omega)
  have lp:=p2.pen.lt
  have pen3:DX p S3:=by
    obtain⟨ds,e,hp⟩:=p2.pen
    exact⟨ds,sm.get e (by simp),hp⟩
  have hq:(S3++[Cl.lst []])[S3.length]?=some (.lst []):=List.getElem?_concat_length
  obtain⟨rn,S4,e4,a4,b4,p4⟩:=Ap (pen3.app [Cl.lst []]) (n:=(M:Int)+1) (by omega) (by omega)
  have lt3:=hS.lts
  have pn:p∉s::l::m::as:=fun z=>by have:=hn p z;omega
  have qn:S3.length∉s::l::m::as:=fun z=>by have:=lt3 _ z;omega
  have hpq:S3.length≠p:=by have:=pen3.lt;omega
  have hS4:SAt S4 s l m as (st0 t ls):=(hS.same0 (.app)).same p4.same (by simpa using pn)
  have hq4:S4[S3.length]?=some (.lst []):=p4.get hq hpq
  obtain⟨rn,rfl⟩:=G5 a4
  have rk:Ja (rn:Int)=true:=E5 (by omega) (by omega)
  generalize hQ:S3.length=q at*
  obtain ⟨E', S', ef, ds, as', o6, o7, rfl, f1, f2, f3, f4, f5, f6, f7⟩ := Li (gs := []) (t := tNm 6) (b := Ai (CF 7 (AJ Dq [(eV 0), (eV 2), (eV 4)]))
    (xIf (eOr (eOp (o2 wNe) [(eOp (o2 wIx) [(eV 7),(eC (.int 0))]),(eC (.str "throw"))]) (eOp (o2 wLt) [(eOp (o1 GC) [(C4 [] 1 (Hy (eV 5)) (tNm 0) (eOp (o2 wEq) [(eOp (o2 wIx) [(eV 0),(eC (.int 0))]),(eC (.str "throw"))]) (eV 0))]),(eC (.int 3))])) (Ai (G7 (AJ Bz [(eV 2),(eV 4),(eV 7)]))
    (G7 (PV Po (eV 5) [(eV 7)]))) CJ))
    (I:=fun rs E S'=>∃(ds:List Bf) (as':List Nat) (o6 o7:Option D),E=[some (.ref p),some (.int M),some t.d,some (.tup (ls.map Ld.d)),some (.ref s),some (.ref q),o6,o7]/\S'[q]?=some (.lst (ds.map Bf.d))/\DX p S'/\SAt S' s l m as' (runs t (st0 t ls) ds)/\NS t (st0 t ls) ds/\ds.length+rs.length≤M/\p∉s::l::m::as'/\q∉s::l::m::as')
    (fun _ _ _ _=>BU) (ds:=Kw 0 rn) (E:=[some (.ref p),some (.int M),some t.d,some (.tup (ls.map Ld.d)),some (.ref s),some (.ref q),none,none]) (S:=S4)
    ⟨[], as, none, none, rfl, hq4, p4.pen, hS4, trivial, by rw [EV]; simp; omega, pn, qn⟩ (by
      rintro dd rs E T ⟨ds,as',o6,o7,rfl,i1,i2,i3,i4,i5,i6,i7⟩
      simp only[List.length_cons]at i5
      have inv:=NF ht hi i4 (by omega)
      rw[Nat.zero_add]at inv
      obtain⟨d,T1,d1,d2,d3⟩:=aB i2 i3 i6 ht inv (by omega)
      have j3:=i3.same d2.same (by simpa using i6)
      have j1:T1[q]?=some (.lst (ds.map Bf.d)):=d2.get i1 hpq
      have tc:=kO j1 (by omega)
      by_cases hb:Hz d=false∨(ds.filter Hz).length<3
      · obtain ⟨T2, as2, k1, k2, k3, k4⟩ := iN j3 ht inv (by omega) d3
        have lt:=j3.lts
        have q2:T2[q]?=some (.lst (ds.map Bf.d)):=k3.get j1 i7
        have hz:ds.length<sizeLine:=Nat.lt_of_lt_of_le (show ds.length<50 by omega) (AO (by decide))
        refine⟨_,[some (.ref p),some (.int M),some t.d,some (.tup (ls.map Ld.d)),some (.ref s),some (.ref q),some dd,some d.d],T2.set q (.lst ((ds++[d]).map Bf.d)),by simp;rfl,?_,ds++[d],as2,some dd,some d.d,rfl,List.getElem?_set_self (A9 q2),?_,?_,Md i4 d3,by simp;omega,?_,?_⟩
        · have kk := AY q2
          have w1:∀(c:Ev),eOr (eOp (o2 wNe) [(eOp (o2 wIx) [(eV 7),(eC (.int 0))]),(eC (.str "throw"))]) c [some (.ref p),some (.int M),some t.d,some (.tup (ls.map Ld.d)),some (.ref s),some (.ref q),some dd,some d.d] T1=if Hz d=true then c [some (.ref p),some (.int M),some t.d,some (.tup (ls.map Ld.d)),some (.ref s),some (.ref q),some dd,some d.d] T1 else some (.bl true,T1):=by
            intro c
            cases d<;>simp[Bf.d,Hz]
          have sq:=He j1
          have hz':(ds.map Bf.d).length<sizeLine:=by simpa using hz
          have hfin:(ds++[d]).map Bf.d=ds.map Bf.d++[d.d]:=by simp
          rw[hfin]
          generalize hDD:ds.map Bf.d=DD at*
          cases ht':Hz d with
          | false =>
            simp[d1,-QM,w1,ht',k1,kk,hz']
          | true =>
            have h3:((ds.filter Hz).length:Int)<3:=by
              have:=hb.resolve_left (by rw[ht'];simp)
              omega
            simp[d1,-QM,w1,ht',sq,tc,h3,k1,kk,hz']
        · obtain ⟨pd, pe, ph⟩ := d2.pen
          exact⟨pd,by rw[List.getElem?_set_ne hpq];exact k3.get pe i6,ph⟩
        · rw [SG]
          exact k2.same (A:=[q]) (.set (by simp)) (by
            intro n hn z
            simp at hn;subst hn
            simp only[List.mem_cons]at z i7
            rcases z with z|z|z|z
            ·exact i7 (.inl z)
            ·exact i7 (.inr (.inl z))
            ·exact i7 (.inr (.inr (.inl z)))
            · rcases k4 _ z with w | w
              ·exact i7 (.inr (.inr (.inr w)))
              ·have:=A9 j1;omega)
        · intro z
          simp only[List.mem_cons]at z i6
          rcases z with z|z|z|z
          ·exact i6 (.inl z)
          ·exact i6 (.inr (.inl z))
          ·exact i6 (.inr (.inr (.inl z)))
          · rcases k4 _ z with w | w
            ·exact i6 (.inr (.inr (.inr w)))
            ·have:=d2.pen.lt;omega
        · intro z
          simp only[List.mem_cons]at z i7
          rcases z with z|z|z|z
          ·exact i7 (.inl z)
          ·exact i7 (.inr (.inl z))
          ·exact i7 (.inr (.inr (.inl z)))
          · rcases k4 _ z with w | w
            ·exact i7 (.inr (.inr (.inr w)))
            ·have:=A9 j1;omega
      · have ht' : Hz d = true := by
          cases z:Hz d with
          |true=>rfl
          |false=>exact absurd (.inl z) hb
        have h3:¬((ds.filter Hz).length:Int)<3:=by
          have:¬(ds.filter Hz).length<3:=fun z=>hb (.inr z)
          omega
        refine⟨_,[some (.ref p),some (.int M),some t.d,some (.tup (ls.map Ld.d)),some (.ref s),some (.ref q),some dd,some d.d],T1,by simp;rfl,?_,ds,as',some dd,some d.d,rfl,j1,d2.pen,j3,i4,by omega,i6,i7⟩
        have w1:∀(c:Ev),eOr (eOp (o2 wNe) [(eOp (o2 wIx) [(eV 7),(eC (.int 0))]),(eC (.str "throw"))]) c [some (.ref p),some (.int M),some t.d,some (.tup (ls.map Ld.d)),some (.ref s),some (.ref q),some dd,some d.d] T1=if Hz d=true then c [some (.ref p),some (.int M),some t.d,some (.tup (ls.map Ld.d)),some (.ref s),some (.ref q),some dd,some d.d] T1 else some (.bl true,T1):=by
            intro c
            cases d<;>simp[Bf.d,Hz]
        have sq:=He j1
        generalize hDD:ds.map Bf.d=DD at*
        simp[d1,-QM,w1,ht',sq,tc,h3])
  refine⟨t,ls,ds,S',?_,⟨⟨ht,hi,f4,by simp at f5;omega⟩,by simpa using f5⟩,⟨fun x hx=>(hf.1 x hx).2.2.2.2,hh.2⟩,f2⟩
  have df:=BJ f1
  simp[EG,Mh,e1,e2,e3,hQ,e4,rk,ef,df,Eu]
end
section
variable{S:Sto}{s l m:Nat}{as:List Nat}{st:Stt}
end
section
variable{S:Sto}
theorem Zb{ns:List Int}{k:Nat}:∃c,CZ [.scr ns,.int k] S=some (.int c,S):=by
 by_cases h:k<ns.length
 ·have h':(k:Int)<ns.length:=by omega
  refine⟨ns[k],?_⟩
  have e:atI (ns.map D.int) (k:Int)=some (.int ns[k]):=Ep (by rw[List.getElem?_map,List.getElem?_eq_getElem h];rfl)
  simp[CZ,Gv,h,h',e]
 ·have h':¬(k:Int)<ns.length:=by omega
  exact⟨0,by simp[CZ,Gv,h,h']⟩
end
theorem YH{gs:Gd}{t:Tf}{b:Ex}{Iv:Nat->En->Sto->Prop}{L:List D}(hg:∀i E S,Iv i E S->gOk gs S){E:En}{S:Sto}(h0:Iv 0 E S)
  (hs:∀i d E S,L[i]?=some d->Iv i E S->∃E1 E2 S2,t d E S=some E1/\b E1 S=some (.nx,E2,S2)/\Iv (i+1) E2 S2):∃E' S',MC gs t b L E S=some (.nx,E',S')/\Iv L.length E' S':=by
 obtain⟨E',S',e,i,f1,f2,f3⟩:=Li (gs:=gs) (t:=t) (b:=b) (I:=fun rs E S=>∃i,rs=L.drop i/\i≤L.length/\Iv i E S) (fun ds E S ⟨i,_,_,h⟩=>hg i E S h) (ds:=L) (E:=E) (S:=S) ⟨0,rfl,Nat.zero_le _,h0⟩ (by
  rintro d ds E S ⟨i,e,hi,h⟩
  have hlt:i<L.length:=by
   rcases Nat.lt_or_ge i L.length with w|w
   ·exact w
   ·rw[List.drop_eq_nil_of_le w]at e;cases e
  rw[List.drop_eq_getElem_cons hlt]at e
  injection e with z1 z2
  obtain⟨E1,E2,S2,a,b,c⟩:=hs i d E S (by rw[z1];exact List.getElem?_eq_getElem hlt) h
  exact⟨E1,E2,S2,a,b,i+1,z2,hlt,c⟩)
 have:i=L.length:=by
  have:=congrArg List.length f1
  simp at this
  omega
 subst this
 exact⟨E',S',e,f3⟩
theorem cX{n i:Nat}{d:D}(h:(Kw 0 n)[i]?=some d):d=.int i/\i<n:=by
 unfold Kw at h
 have hi:=(List.getElem?_eq_some_iff.mp h).1
 simp at hi
 rw[List.getElem?_map,List.getElem?_range hi]at h
 simp at h
 exact⟨h.symm,hi⟩
section
variable{E:En}{S:Sto}{f g k o:Ev}{d:D}{es:List (Key×D)}
@[simp] theorem gu:evP [] E S=some ([],S):=nr rfl
@[simp] theorem fR{r:List (Ev×Ev)}:evP ((k,f)::r) E S=(k E S).bind fun a=>(ae a.1).bind fun kk=>(f E a.2).bind fun b=>(evP r E b.2).map fun q=>((kk,b.1)::q.1,q.2):=nr rfl
@[simp] theorem fO{x:Str}:ae (.str x)=some (.inr x):=nr rfl
@[simp] theorem dz{cf:Bool}{fs:List (Ev×Ev)}:Tg cf fs E S=(evP fs E S).map fun r=>WS cf (Lr [] r.1) r.2:=nr rfl
@[simp] theorem js:WS false es S=(.dct es,S):=nr rfl
@[simp] theorem fK:eH f k o E S=(f E S).bind fun a=>(Zw a.2 a.1).bind fun _=>(k E a.2).bind fun b=>(o E b.2).bind fun c=>(Zw c.2 a.1).bind fun es=>(ae b.1).map fun k=>((MD es k).getD c.1,c.2):=nr rfl
end
section
variable{S:Sto}
inductive Tb:D->Prop
 |non:Tb .non
 |bl (b:Bool):Tb (.bl b)
 |int {i:Int} (h:i.natAbs<2^160):Tb (.int i)
 |str (x:Str):Tb (.str x)
 |tup {ds:List D} (h:∀d∈ds,Tb d) (l:ds.length≤1000):Tb (.tup ds)
 |lst {ds:List D} (h:∀d∈ds,Tb d) (l:ds.length≤1000):Tb (.lst ds)
 |dct (kvs:List (Key×D)):Tb (.dct kvs)
noncomputable def ag:D->Bool
 | .int _=>true
 |_=>false
noncomputable def AW(lo:Int):D->Bool
 | .int i=>decide (lo≤i)
 |_=>false
noncomputable def AM(lo hi:Int):D->Bool
 | .int i=>decide (lo≤i) && decide (i≤hi)
 |_=>false
section
variable{d:D}
@[simp] theorem hU:kdW (.val .non)=some .non:=nr rfl
@[simp] theorem jn{b:Bool}:kdW (.val (.bl b))=some .bl:=nr rfl
@[simp] theorem jB{i:Int}:kdW (.val (.int i))=some .int:=nr rfl
@[simp] theorem iE{x:Str}:kdW (.val (.str x))=some .str:=nr rfl
@[simp] theorem iJ{ds:List D}:kdW (.val (.tup ds))=some .tup:=nr rfl
@[simp] theorem gv{ds:List D}:kdW (.val (.lst ds))=some .lst:=nr rfl
@[simp] theorem ib{ds:List (Key×D)}:kdW (.val (.dct ds))=some .dct:=nr rfl
theorem Tb.kd(h:Tb d):(∃ds,(∀x∈ds,Tb x)/\ds.length≤1000/\d=.tup ds)∨((∃kk,kdW (.val d)=some kk/\St.Kd.isA kk "tuple"=false)/\dr S d=.val d/\∀ds,d≠.tup ds):=by
 cases h with
 | @tup ds h l=>exact .inl ⟨ds,h,l,rfl⟩
 |_=>exact .inr ⟨⟨_,rfl,rfl⟩,rfl,fun _ z=>nomatch z⟩
theorem Tb.ks(h:Tb d)(hx:∀w,d≠.str w):∃kk,kdW (.val d)=some kk/\St.Kd.isA kk "str"=false/\dr S d=.val d:=by
 cases h with
 |str x=>exact absurd rfl (hx x)
 |_=>exact⟨_,rfl,rfl,rfl⟩
theorem Om:St.Kd.isA .tup "tuple"=true:=rfl
theorem Tb.ki(h:Tb d):(∃i:Int,i.natAbs<2^160/\d=.int i)∨(∃kk,kdW (.val d)=some kk/\(St.Kd.isA kk "int" && !St.Kd.isA kk "bool")=false/\dr S d=.val d/\∀i,d≠.int i):=by
 cases h with
 | @int i h=>exact .inl ⟨i,h,rfl⟩
 |_=>exact .inr ⟨_,rfl,rfl,rfl,fun _ z=>nomatch z⟩
theorem UO:St.Kd.isA .int "int"=true:=rfl
theorem QK:St.Kd.isA .int "bool"=false:=rfl
theorem Ot(h:Tb d):Dm [d] S=some ((.bl (ag d)),S):=by
 rcases h.ki (S:=S)with⟨i,hi,rfl⟩|⟨kk,q1,q2,q3,q4⟩
 ·simp[Dm,Hb,UO,QK,ag]
 ·have z:ag d=false:=by cases d<;>first|rfl|exact absurd rfl (q4 _)
  cases b1:St.Kd.isA kk "int" <;>simp[b1]at q2<;>simp[Dm,Hb,q1,q3,b1,q2,z]
theorem JC(h:Tb d)(lo:Int):Ck [d,(.int lo)] S=some ((.bl (AW lo d)),S):=by
 have w:=Ot (S:=S) h
 rcases h.ki (S:=S)with⟨i,hi,rfl⟩|⟨kk,q1,q2,q3,q4⟩
 ·simp[Ck,IW,w,ag,AW]
 ·have z:ag d=false:=by cases d<;>first|rfl|exact absurd rfl (q4 _)
  have z2:AW lo d=false:=by cases d<;>first|rfl|exact absurd rfl (q4 _)
  simp[Ck,IW,w,z,z2]
theorem DC(h:Tb d)(lo hi:Int):Aw [d,(.int lo),(.int hi)] S=some ((.bl (AM lo hi d)),S):=by
 have w:=JC (S:=S) h lo
 rcases h.ki (S:=S)with⟨i,hi,rfl⟩|⟨kk,q1,q2,q3,q4⟩
 ·by_cases c:lo≤i<;>simp[Aw,Gm,w,AW,AM,c]
 ·have z:AM lo hi d=false:=by cases d<;>first|rfl|exact absurd rfl (q4 _)
  have z2:AW lo d=false:=by cases d<;>first|rfl|exact absurd rfl (q4 _)
  simp[Aw,Gm,w,z,z2]
noncomputable def Bn(n:Int):D->Bool
 | .tup ds=>decide ((ds.length:Int)=n)
 |_=>false
theorem FV(h:Tb d)(n:Int):BN [d,(.int n)] S=some ((.bl (Bn n d)),S):=by
 rcases h.kd (S:=S)with⟨ds,g,l,rfl⟩|⟨⟨kk,q1,q2⟩,q3,q4⟩
 ·simp[BN,FO,Om,Bn]
  rfl
 ·have z:Bn n d=false:=by cases d<;>first|rfl|exact absurd rfl (q4 _)
  simp[BN,FO,q1,q2,q3,z]
noncomputable def IT:D->Bool
 | .tup [.int t,.int b]=>decide (1≤b) && decide (JV t b=1)
 |_=>false
noncomputable def BI:D->Bool
 | .tup [.int t,.int b]=>decide (1≤b) && decide (JV t b=1) && (decide (0≤t) && decide (t≤b))
 |_=>false
theorem RT (h : Tb d) : DB [d] S = some ((.bl (IT d)), S) := by
  rcases h.kd (S:=S)with⟨ds,g,l,rfl⟩|⟨⟨kk,q1,q2⟩,q3,q4⟩
  · replace h := g
    by_cases hl:ds.length=2
    · match ds, hl, h with
      | [x, y], _, h =>
        have hx:=h x (by simp)
        have hy:=h y (by simp)
        have w1:=Ot (S:=S) hx
        have w2:=JC (S:=S) hy 1
        simp[DB,E9,St.Kd.isA,w1]
        cases c1:ag x with
        | false =>
          have z:IT (.tup [x,y])=false:=by cases x<;>first|rfl|(cases c1)
          simp[z]
        | true =>
          obtain⟨i,rfl⟩:∃i,x=.int i:=by cases x<;>first|exact⟨_,rfl⟩|cases c1
          simp[w2]
          cases c2:AW 1 y with
          | false =>
            have z:IT (.tup [.int i,y])=false:=by
              cases y<;>first|rfl|skip
              rename_i j' hq
              have c2:decide (1≤j')=false:=c2
              show(decide (1≤j') && _)=false
              rw[c2];rfl
            simp[z]
          | true =>
            obtain⟨j,rfl⟩:∃i,y=.int i:=by cases y<;>first|exact⟨_,rfl⟩|cases c2
            have c:1≤j:=of_decide_eq_true c2
            simp[IT,c,X3]
            rfl
    · have z1 : IT (.tup ds) = false := by
        unfold IT
        split
        · rename_i e
          cases e
          exact absurd rfl hl
        ·rfl
      have z2:((ds.length:Int)==2)=false:=beq_eq_false_iff_ne.mpr (by omega)
      simp[DB,E9,St.Kd.isA,z1,z2]
  · have z1 : (IT d) = false := by cases d <;> first | rfl | exact absurd rfl (q4 _)
    simp[DB,E9,q1,q2,q3,z1]
end
theorem iQ{oa ob oc:Ev}{E:En}{i j k:Int}{S1 S2:Sto}(e1:evs [oa,ob] E S=some ([.int i,.int j],S1))(e2:oc E S1=some (.int k,S2)):Qx oa ob oc E S=some (.bl (decide (i≤j) && decide (j≤k)),if i≤j then S2 else S1):=by
 unfold Qx
 rw[e1]
 show(if i≤j then _ else _)=_
 by_cases h:i≤j
 ·rw[if_pos h,if_pos h,e2];simp[h]
 ·rw[if_neg h,if_neg h];simp[h]
theorem Mt{d:D}(h:IT d=true):∃t b:Int,d=.tup [.int t,.int b]/\1≤b/\JV t b=1:=by
 unfold IT at h
 split at h
 ·rename_i t b
  rw[Bool.and_eq_true]at h
  exact⟨t,b,rfl,of_decide_eq_true h.1,of_decide_eq_true h.2⟩
 ·cases h
theorem LJ {d : D} (h : IT d = false) : BI d = false := by
  cases hs:BI d with
  |false=>rfl
  | true =>
    exfalso
    have : IT d = true := by
      cases d with
      | tup ds =>
        match ds,hs with
        | [.int t,.int b],hs=>
          have hs':(decide (1≤b) && decide (JV t b=1) && (decide (0≤t) && decide (t≤b)))=true:=hs
          rw[Bool.and_eq_true]at hs'
          exact hs'.1
      |_=>cases hs
    rw[h]at this
    cases this
theorem Oi{d:D}(h:Tb d):CT [d] S=some ((.bl (BI d)),S):=by
 have a:=RT (S:=S) h
 by_cases hb:IT d=true
 ·obtain⟨t,b,rfl,h1,h2⟩:=Mt hb
  have ll:Qx (eC (.int 0)) (eOp (o2 wIx) [(eV 0),(eC (.int 0))]) (eOp (o2 wIx) [(eV 0),(eC (.int 1))]) [some (.tup [.int t,.int b])] S=some (.bl (decide (0≤t) && decide (t≤b)),S):=by
   rw[iQ (i:=0) (j:=t) (k:=b) (S1:=S) (S2:=S) (by simp) (by simp)]
   simp
  by_cases c:0≤t<;>simp[CT,HU,a,IT,BI,h1,h2,c,ll]
 ·have hb':IT d=false:=by simpa using hb
  simp[CT,HU,a,hb',LJ hb']
noncomputable def KS(p q:Int×Int):Int×Int:=lowP (p.1*q.2+q.1*p.2) (p.2*q.2)
def zBd(k:Nat)(p:Int×Int):Prop:=p.1.natAbs<2^k/\p.2.natAbs<2^k/\0<p.2
theorem OS(a b:Int):(a / b).natAbs≤a.natAbs:=Int.natAbs_ediv_le_natAbs a b
theorem SN{t b:Int}:JV t b∣b:=by
 unfold JV
 have:Nat.gcd t.natAbs b.natAbs∣b.natAbs:=Nat.gcd_dvd_right _ _
 exact Int.ofNat_dvd_left.mpr this
theorem Xo{t b:Int}(h:0<b):0<(lowP t b).2:=by
 show 0<b / JV t b
 exact Int.ediv_pos_of_pos_of_dvd h (Int.le_of_lt (Nb h)) SN
theorem XW{p q:Int×Int}{j k:Nat}(hp:zBd j p)(hq:zBd k q):zBd (j+k+1) (KS p q):=by
 obtain⟨p1,p2,p3⟩:=hp
 obtain⟨q1,q2,q3⟩:=hq
 have a1:=Cq p1 q2
 have a2:=Cq q1 p2
 have a3:=Cq p2 q2
 rw[Nat.add_comm k j]at a2
 have e:2^(j+k+1)=2^(j+k)+2^(j+k):=by rw[Nat.pow_succ];omega
 refine⟨?_,?_,Xo (Int.mul_pos p3 q3)⟩
 ·refine Nat.lt_of_le_of_lt (OS _ _) ?_
  refine Nat.lt_of_le_of_lt (Int.natAbs_add_le _ _) ?_
  rw[Int.natAbs_mul,Int.natAbs_mul,e]
  omega
 ·refine Nat.lt_of_le_of_lt (OS _ _) ?_
  rw[Int.natAbs_mul,e]
  omega
theorem Wb{p q:Int×Int}{j k:Nat}(hp:zBd j p)(hq:zBd k q)(hj:j≤4000)(hk:k≤4000)(hjk:j+k≤8000):Iu [(amD p),(amD q)] S=some ((amD (KS p q)),S):=by
 have up:∀{n m:Nat} {x:Int},x.natAbs<2^n->n≤m->x.natAbs<2^m:=fun h g=>Nat.lt_of_lt_of_le h (Nat.pow_le_pow_right (by decide) g)
 have m1:Dr p.1 q.2=true:=EX (k:=4000) (m:=4000) (up hp.1 hj) (up hq.2.1 hk) (by decide) (by decide)
 have m2:Dr q.1 p.2=true:=EX (k:=4000) (m:=4000) (up hq.1 hk) (up hp.2.1 hj) (by decide) (by decide)
 have m3:Dr p.2 q.2=true:=EX (k:=4000) (m:=4000) (up hp.2.1 hj) (up hq.2.1 hk) (by decide) (by decide)
 have b1:(p.2*q.2).natAbs<2^8000:=by
  rw[Int.natAbs_mul]
  exact Nat.lt_of_lt_of_le (Cq hp.2.1 hq.2.1) (Nat.pow_le_pow_right (by decide) hjk)
 have l:=TV (t:=p.1*q.2+q.1*p.2) (S:=S) (Int.mul_pos hp.2.2 hq.2.2) b1
 simp[Iu,Qa,amD,m1,m2,m3,l,KS]
noncomputable def aZ:D->Int×Int
 | .tup [.int t,.int b]=>(t,b)
 |_=>(0,1)
noncomputable def UL(ps:List (Int×Int))(a:Int×Int):Int×Int:=ps.foldl KS a
theorem ZM{F:Fn}(hF:∀{p q:Int×Int} {j k:Nat},zBd j p->zBd k q->j≤4000->k≤4000->j+k≤8000->F [amD p,amD q] S=some (amD (KS p q),S)):∀(ps:List (Int×Int)) (a:Int×Int) (k:Nat) (x:D) (o:Option D),zBd (161*k+1) a->(∀p∈ps,zBd 160 p)->k+ps.length≤20->
    ∃o',MC [] (tNm 2) (CF 1 (AJ F [(eV 1),(eV 2)])) (ps.map amD) [some x,some (amD a),o] S=some (.nx,[some x,some (amD (UL ps a)),o'],S)
  | [],a,k,x,o,ha,hp,hk=>⟨o,by rw[List.map_nil,N9 BU];rfl⟩
  | p :: ps, a, k, x, o, ha, hp, hk => by
    have hk':k+(ps.length+1)≤20:=by simpa using hk
    have hpp:=hp p (by simp)
    have pl:=hF ha hpp (by omega) (by decide) (by omega)
    have bd:=XW ha hpp
    have e1:161*k+1+160+1=161*(k+1)+1:=by omega
    rw[e1]at bd
    obtain⟨o',ih⟩:=ZM hF ps (KS a p) (k+1) x (some (amD p)) bd (fun q hq=>hp q (List.mem_cons_of_mem _ hq)) (by omega)
    refine⟨o',?_⟩
    rw[List.map_cons,Jv BU]
    simp[pl,ih,UL]
theorem jY:zBd (161*0+1) (0,1):=⟨by decide,by decide,by decide⟩
theorem UZ {d : D} (h : Tb d) (s : BI d = true) : d = amD (aZ d) /\ zBd 160 (aZ d) := by
  cases h with
  | @tup ds h l=>
    match ds,h,s with
    | [.int t,.int b],h,s=>
      have s':(decide (1≤b) && decide (JV t b=1) && (decide (0≤t) && decide (t≤b)))=true:=s
      rw[Bool.and_eq_true,Bool.and_eq_true,Bool.and_eq_true]at s'
      have h1:=h (.int t) (by simp)
      have h2:=h (.int b) (by simp)
      cases h1 with
      | int h1 =>
        cases h2 with
        | int h2 =>
          have:=of_decide_eq_true s'.1.1
          exact⟨rfl,h1,h2,by show 0<b;omega⟩
  |_=>cases s
theorem Jp:∀{ds:List D},(∀d∈ds,Tb d)->ds.all BI=true->ds=(ds.map aZ).map amD/\∀p∈ds.map aZ,zBd 160 p
  | [],_,_=>⟨rfl,fun p hp=>by simp at hp⟩
  | d :: ds, h, s => by
    rw[List.all_cons,Bool.and_eq_true]at s
    obtain⟨h1,h2⟩:=UZ (h d (by simp)) s.1
    obtain⟨h3,h4⟩:=Jp (fun x hx=>h x (List.mem_cons_of_mem _ hx)) s.2
    refine⟨?_,fun p hp=>?_⟩
    ·rw[List.map_cons,List.map_cons,←h1,←h3]
    · rw [List.map_cons] at hp
      rcases List.mem_cons.mp hp with rfl|hp
      ·exact h2
      ·exact h4 p hp
theorem UJ{ps:List (Int×Int)}(hp:∀p∈ps,zBd 160 p)(hl:ps.length≤20):JS [(.tup (ps.map amD))] S=some ((amD (UL ps (0,1))),S):=by
 obtain⟨o',h⟩:=ZM (S:=S) (F:=Iu) Wb ps (0,1) 0 (.tup (ps.map amD)) none jY hp (by omega)
 have e:HS=amD (0,1):=rfl
 simp[JS,O0,e,h]
@[simp] theorem jX{p:Int×Int}:dr S (amD p)=.val (amD p):=nr rfl
@[simp] theorem eR{p q:Int×Int}:B2 (amD p) (amD q)=true:=nr rfl
@[simp] theorem iy{p q:Int×Int}:deq (amD p) (amD q)=decide (p=q):=by
 show((p.1==q.1) && ((p.2==q.2) && true))=decide (p=q)
 rw[Bool.and_true]
 by_cases h:p=q
 ·subst h;simp
 ·rw[decide_eq_false h]
  by_cases h1:p.1=q.1
  ·by_cases h2:p.2=q.2
   ·exact absurd (Prod.ext h1 h2) h
   ·simp[h2]
  ·simp[h1]
noncomputable def Ct(n:Int):D->Bool
 | .tup ds=>decide ((ds.length:Int)=n) && (ds.all BI && decide (UL (ds.map aZ) (0,1)=(1,1)))
 |_=>false
theorem OK{ds:List D}(h:∀d∈ds,Tb d)(hl:ds.length≤1000):Bg [] (tNm 0) Bx (AJ CT [(eV 0)]) ds [] [none] S=some (ds.map fun d=>.bl (BI d),S):=by
 have:=comp_map (gs:=[]) (t:=tNm 0) (f:=AJ CT [(eV 0)]) (C:=[]) (m:=1) (g:=fun d=>.bl (BI d)) (S:=S) BU (ds:=ds) (acc:=[]) (os:=[none]) rfl (AO (by simpa using hl)) (by
  intro d hd os ho
  match os,ho with
  | [a],_=>exact⟨[some d],rfl,by simp,by simp[Oi (h d hd)]⟩)
 simpa using this
theorem E8{α:Type}(p:α->Bool)(xs:List α):(xs.map p).all id=xs.all p:=by
 induction xs with
 |nil=>rfl
 |cons x xs ih=>simp[ih]
theorem M9{d:D}(h:Tb d)(n:Int)(hn:n≤20):Br [(.int n),d] S=some ((.bl (Ct n d)),S):=by
 have t:=FV (S:=S) h n
 rcases h.kd (S:=S)with⟨ds,g,l,rfl⟩|⟨⟨kk,q1,q2⟩,q3,q4⟩
 ·replace h:=g
  by_cases c:(ds.length:Int)=n
  ·have ct:Bn n (.tup ds)=true:=by simp[Bn,c]
   have e:=OK (S:=S) h l
   have b:=Gi BI ds
   by_cases s:ds.all BI=true
   ·obtain⟨s1,s2⟩:=Jp h s
    have tt:=UJ (S:=S) (ps:=ds.map aZ) s2 (by simp;omega)
    rw[←s1]at tt
    have e1:R4=amD (1,1):=rfl
    have am:=E8 BI ds
    simp[Br,DY,t,ct,e,b,am,s,tt,e1,Ct,c]
   ·have s':ds.all BI=false:=by simpa using s
    have am:=E8 BI ds
    simp[Br,DY,t,ct,e,b,am,s',Ct,c]
  ·have ct:Bn n (.tup ds)=false:=by simp[Bn,c]
   simp[Br,DY,t,ct,Ct,c]
 ·have z1:(Ct n d)=false:=by cases d<;>first|rfl|exact absurd rfl (q4 _)
  have z2:Bn n d=false:=by cases d<;>first|rfl|exact absurd rfl (q4 _)
  simp[Br,DY,t,z2,q1,q2,q3,z1]
end
section
variable{S:Sto}
noncomputable def Cv(p k:Int)(r:List D):D:=.tup (.int p:: .int k::r)
section
variable{d:D}{p k:Int}{r:List D}
theorem Pu(h:Tb d):DK [(Cv p k r),d] S=some ((.bl (AM 0 (p-1) d)),S):=by
 simp[DK,II,Cv,DC h]
theorem QS(h:Tb d):EJ [(Cv p k r),d] S=some ((.bl (AM 0 (k-1) d)),S):=by
 simp[EJ,K2,Cv,DC h]
theorem Rl(h:Tb d):B8 [(Cv p k r),d] S=some ((.bl (AW 0 d)),S):=by
 simp[B8,F2,Cv,JC h]
theorem Pb(h:Tb d):By [(Cv p k r),d] S=some ((.bl (AM 0 9 d)),S):=by
 simp[By,FW,Cv,DC h]
theorem Qy(h:Tb d):DQ [(Cv p k r),d] S=some ((.bl (AW 1 d)),S):=by
 simp[DQ,IH,Cv,JC h]
noncomputable def F0(n:Int):D->Bool
 | .tup ds=>decide ((ds.length:Int)=n) && ds.all (AM 1 99)
 |_=>false
theorem RK{ds:List D}(h:∀d∈ds,Tb d)(hl:ds.length≤1000):Bg [] (tNm 0) Bx (AJ Aw [(eV 0),(eC (.int 1)),(eC (.int 99))]) ds [] [none] S=some (ds.map fun d=>.bl (AM 1 99 d),S):=by
 have:=comp_map (gs:=[]) (t:=tNm 0) (f:=AJ Aw [(eV 0),(eC (.int 1)),(eC (.int 99))]) (C:=[]) (m:=1) (g:=fun d=>.bl (AM 1 99 d)) (S:=S) BU (ds:=ds) (acc:=[]) (os:=[none]) rfl (AO (by simpa using hl)) (by
  intro d hd os ho
  match os,ho with
  | [a],_=>exact⟨[some d],rfl,by simp,by simp[DC (h d hd)]⟩)
 simpa using this
theorem RM(h:Tb d)(n:Int):Cp [d,(.int n)] S=some ((.bl (F0 n d)),S):=by
 have t:=FV (S:=S) h n
 rcases h.kd (S:=S)with⟨ds,g,l,rfl⟩|⟨⟨kk,q1,q2⟩,q3,q4⟩
 ·replace h:=g
  by_cases c:(ds.length:Int)=n
  ·have ct:Bn n (.tup ds)=true:=by simp[Bn,c]
   have e:=RK (S:=S) h l
   have b:=Gi (AM 1 99) ds
   have am:=E8 (AM 1 99) ds
   simp[Cp,ES,t,ct,e,b,am,F0,c]
  ·have ct:Bn n (.tup ds)=false:=by simp[Bn,c]
   simp[Cp,ES,t,ct,F0,c]
 ·have z1:(F0 n d)=false:=by cases d<;>first|rfl|exact absurd rfl (q4 _)
  have z2:Bn n d=false:=by cases d<;>first|rfl|exact absurd rfl (q4 _)
  simp[Cp,ES,t,z2,q1,q2,q3,z1]
theorem Rm(h:Tb d):DM [(Cv p k r),d] S=some ((.bl (F0 (k+1) d)),S):=by
 simp[DM,IC,Cv,RM h]
noncomputable def ID:D->Bool
 | .tup [.int t,.int b]=>BI (.tup [.int t,.int b]) && (decide (0<t) && decide (b≤12))
 |_=>false
theorem HH{d:D}(h:BI d=true):∃t b:Int,d=.tup [.int t,.int b]:=by
  cases ha:IT d with
  |false=>rw[LJ ha]at h;cases h
  | true =>
    obtain⟨t,b,e,_⟩:=Mt ha
    exact⟨t,b,e⟩
theorem J8{d:D}(h:BI d=false):ID d=false:=by
  cases d with
  | tup ds =>
    match ds,h with
    | [.int t,.int b],h=>
      show(BI (.tup [.int t,.int b]) && _)=false
      rw[h];rfl
    | [],_=>rfl
    | [x],_=>cases x<;>rfl
    |x::y::z::q,_=>cases x<;>(first|rfl|(cases y<;>rfl))
    | [.int t,.non],_=>rfl
    | [.int t,.bl _],_=>rfl
    | [.int t,.str _],_=>rfl
    | [.int t,.ty _],_=>rfl
    | [.int t,.tup _],_=>rfl
    | [.int t,.lst _],_=>rfl
    | [.int t,.dct _],_=>rfl
    | [.int t,.scr _],_=>rfl
    | [.int t,.ref _],_=>rfl
    | [.non,_],_=>rfl
    | [.bl _,_],_=>rfl
    | [.str _,_],_=>rfl
    | [.ty _,_],_=>rfl
    | [.tup _,_],_=>rfl
    | [.lst _,_],_=>rfl
    | [.dct _,_],_=>rfl
    | [.scr _,_],_=>rfl
    | [.ref _,_],_=>rfl
  |_=>rfl
theorem Xi(h:Tb d):Bu [(Cv p k r),d] S=some ((.bl (ID d)),S):=by
  have s:=Oi (S:=S) h
  cases hs:BI d with
  | true =>
    obtain⟨t,b,rfl⟩:=HH hs
    by_cases c:0<t<;>simp[Bu,EN,s,hs,ID,c]
  |false=>simp[Bu,EN,s,hs,J8 hs]
theorem Ff{tbl:List (Str×Fn)}{i j:Nat}{fs:List Ev}{E:En}{p:Str}{G:Fn}(h1:((at? E i).isNone && decide (i<E.length))=true)(h2:at? E j=some (.str p))(h3:tbl.lookup p=some G):c7 tbl i j fs E S=A3 (AJ G fs) E S:=by
 unfold c7
 rw[if_pos h1,h2,CI]
 dsimp only
 rw[h3,CI]
@[simp] theorem YR:List.lookup (Str.ofString "partner") EU=some DK:=nr rfl
@[simp] theorem bu:List.lookup (Str.ofString "kind") EU=some EJ:=nr rfl
@[simp] theorem cq:List.lookup (Str.ofString "load") EU=some B8:=nr rfl
@[simp] theorem aS:List.lookup (Str.ofString "number") EU=some By:=nr rfl
@[simp] theorem Yp:List.lookup (Str.ofString "pieces") EU=some DQ:=nr rfl
@[simp] theorem Zn:List.lookup (Str.ofString "worths") EU=some DM:=nr rfl
@[simp] theorem ar:List.lookup (Str.ofString "share") EU=some Bu:=nr rfl
theorem Gn(h:Tb d):A5 [(Cv p k r),(.str "partner"),d] S=some ((.bl (AM 0 (p-1) d)),S):=by
 simp[A5,C1,Ff,Pu h]
theorem Jf(h:Tb d):A5 [(Cv p k r),(.str "kind"),d] S=some ((.bl (AM 0 (k-1) d)),S):=by
 simp[A5,C1,Ff,QS h]
theorem FI(h:Tb d):A5 [(Cv p k r),(.str "load"),d] S=some ((.bl (AW 0 d)),S):=by
 simp[A5,C1,Ff,Rl h]
theorem OW(h:Tb d):A5 [(Cv p k r),(.str "number"),d] S=some ((.bl (AM 0 9 d)),S):=by
 simp[A5,C1,Ff,Pb h]
theorem C3(h:Tb d):A5 [(Cv p k r),(.str "pieces"),d] S=some ((.bl (AW 1 d)),S):=by
 simp[A5,C1,Ff,Qy h]
theorem PU(h:Tb d):A5 [(Cv p k r),(.str "worths"),d] S=some ((.bl (F0 (k+1) d)),S):=by
 simp[A5,C1,Ff,Rm h]
theorem P7(h:Tb d):A5 [(Cv p k r),(.str "share"),d] S=some ((.bl (ID d)),S):=by
 simp[A5,C1,Ff,Xi h]
end
end
section
variable{S:Sto}
noncomputable def DF(p k:Int):D->Bool
 | .tup [a,b,c]=>AM 0 (k-1) a && (AW 0 b && Ct p c)
 |_=>false
theorem W2 {d : D} {p k : Int} {r : List D} (h : Tb d) (hp : p ≤ 20) : Df [(Cv p k r), d] S = some ((.bl (DF p k d)), S) := by
  have t:=FV (S:=S) h 3
  rcases h.kd (S:=S)with⟨ds,g,l,rfl⟩|⟨⟨kk,q1,q2⟩,q3,q4⟩
  · replace h := g
    by_cases hl:ds.length=3
    · match ds, hl, h with
      | [x,y,z],_,h=>
        have k1:=QS (S:=S) (p:=p) (k:=k) (r:=r) (h x (by simp))
        have k2:=JC (S:=S) (h y (by simp)) 0
        have k3:=M9 (S:=S) (h z (by simp)) p hp
        have e:atI (D.int p::D.int k::r) 0=some (D.int p):=ic
        simp[Cv]at k1
        simp[Df,Gx,t,Bn,k1,DF,Cv]
        cases AM 0 (k-1) x
        ·simp
        · simp [k2]
          cases AW 0 y<;>simp[k3]
    · have z1 : DF p k (.tup ds) = false := by
        unfold DF
        split
        · rename_i e
          cases e
          exact absurd rfl hl
        ·rfl
      have z2:Bn 3 (.tup ds)=false:=decide_eq_false (by omega)
      simp[Df,Gx,t,z1,z2]
  · have z1 : (DF p k d) = false := by cases d <;> first | rfl | exact absurd rfl (q4 _)
    have z2:Bn 3 d=false:=by cases d<;>first|rfl|exact absurd rfl (q4 _)
    simp[Df,Gx,t,z2,q1,q2,q3,z1]
noncomputable def Ro(a b:D):Bool:= !deq a b
noncomputable def LC(p k:Int)(w:Str)(xs:List D):Bool:=
 if w="bring" then(match xs with| [a,b,c]=>AM 0 (p-1) a && (AM 0 (k-1) b && AW 1 c)|_=>false)
 else if w="pool" then(match xs with| [a,b]=>AW 0 a && (AW 0 b && Ro a b)|_=>false)
 else if w="swap" then(match xs with| [a,b,c,e]=>AW 0 a && (AW 1 b && (AM 0 (k-1) c && AW 1 e))|_=>false)
 else if w="trade" then(match xs with| [n,a,b,c,e]=>AM 0 9 n && (AW 0 a && (AW 1 b && (AM 0 (k-1) c && AW 1 e)))|_=>false)
 else if w="spoil" then(match xs with| [a,b]=>AW 0 a && AW 1 b|_=>false)
 else if w="throw" then(match xs with| [a,b,c]=>AW 0 a && (AW 1 b && F0 (k+1) c)|_=>false)
 else if w="sell" then(match xs with| [a,b,c]=>AM 0 (p-1) a && (AM 0 (p-1) b && (ID c && Ro a b))|_=>false)
 else false
noncomputable def DL(p k:Int):D->Bool
 | .tup (.str w::xs)=>LC p k w xs
 |_=>false
section
variable{p k:Int}{r:List D}
@[simp] theorem jo:dr S Ft=.val Ft:=nr rfl
@[simp] theorem Jg{t:Tf}{c f:Ev}{acc:List D}{E:En}:Bg [] t c f [] acc E S=some (acc,S):=Fc BU
def zcK(t:Tf)(f:Ev)(ds acc:List D)(E1:En)(c:Ev)(r:D×Sto):Option (List D×Sto):=match r.1 with
   | .bl true=>(f E1 r.2).bind fun p=>Bg [] t c f ds (acc++[p.1]) E1 p.2
   | .bl false=>Bg [] t c f ds acc E1 r.2
   |_=>none
@[simp] theorem kq{t:Tf}{c f:Ev}{acc ds:List D}{E:En}:zcK t f ds acc E c (.bl true,S)=(f E S).bind fun p=>Bg [] t c f ds (acc++[p.1]) E p.2:=nr rfl
@[simp] theorem j4{t:Tf}{c f:Ev}{acc ds:List D}{E:En}:zcK t f ds acc E c (.bl false,S)=Bg [] t c f ds acc E S:=nr rfl
@[simp] theorem IM{t:Tf}{c f:Ev}{acc ds:List D}{d:D}{E:En}:Bg [] t c f (d::ds) acc E S=if acc.length<sizeLine then(t d E S).bind fun E1=>(c E1 S).bind (zcK t f ds acc E1 c)else none:=by
 by_cases h:acc.length<sizeLine
 ·rw[Jw BU h,if_pos h];rfl
 ·rw[Bg,if_pos BU,if_neg h,if_neg h]
@[simp] theorem kW:(0:Nat)<sizeLine:=by decide
@[simp] theorem kM:(1:Nat)<sizeLine:=by decide
@[simp] theorem j9:(2:Nat)<sizeLine:=by decide
@[simp] theorem kF:(3:Nat)<sizeLine:=by decide
@[simp] theorem kx:(4:Nat)<sizeLine:=by decide
@[simp] theorem kP:(5:Nat)<sizeLine:=by decide
@[simp] theorem gT{b:Bool}:blD (.bl b)=some b:=nr rfl
@[simp] theorem fB:bls []=some []:=nr rfl
@[simp] theorem dD{b:Bool}{ds:List D}:bls (.bl b::ds)=(bls ds).map fun bs=>b::bs:=by
 unfold bls
 rw[List.mapM_cons]
 show(do let r←some b;let rs←List.mapM blD ds;pure (r::rs))=_
 cases List.mapM blD ds<;>rfl
@[simp] theorem au{tbl:List (Str×D)}{k:Str}:bG tbl (.val (.str k))=(tbl.lookup k).map .val:=nr rfl
@[simp] theorem ZZ{neg:Bool}{tbl:List (Str×D)}{k:Str}:MX neg tbl (.val (.str k))=some (.val (.bl (if neg then !(tbl.lookup k).isSome else(tbl.lookup k).isSome))):=nr rfl
@[simp] theorem fe{neg:Bool}{a b:Wv}:wIn neg a b=(asS b).bind fun ds=>if(HJ (fz a) && ds.all HJ)=true then some (.val (.bl (if neg then !inD (fz a) ds else inD (fz a) ds)))else none:=nr rfl
@[simp] theorem fY{i:Nat}:QG i []=[]:=nr rfl
@[simp] theorem d8{i:Nat}{d:D}{ds:List D}:QG i (d::ds)=.tup [.int i,d]::QG (i+1) ds:=nr rfl
@[simp] theorem Hg:List.lookup (Str.ofString "bring") Ca=some (.tup [.str "partner",.str "kind",.str "pieces"]):=nr rfl
@[simp] theorem Ko:List.lookup (Str.ofString "pool") Ca=some (.tup [.str "load",.str "load"]):=nr rfl
@[simp] theorem Ht:List.lookup (Str.ofString "swap") Ca=some (.tup [.str "load",.str "pieces",.str "kind",.str "pieces"]):=nr rfl
@[simp] theorem FK:List.lookup (Str.ofString "trade") Ca=some (.tup [.str "number",.str "load",.str "pieces",.str "kind",.str "pieces"]):=nr rfl
@[simp] theorem JB:List.lookup (Str.ofString "spoil") Ca=some (.tup [.str "load",.str "pieces"]):=nr rfl
@[simp] theorem HW:List.lookup (Str.ofString "throw") Ca=some (.tup [.str "load",.str "pieces",.str "worths"]):=nr rfl
@[simp] theorem Iz:List.lookup (Str.ofString "sell") Ca=some (.tup [.str "partner",.str "partner",.str "share"]):=nr rfl
@[simp] theorem eA{x:Str}:HJ (.str x)=true:=nr rfl
@[simp] theorem iU:asS (.val Ft)=some [.str "pool",.str "sell"]:=nr rfl
@[simp] theorem bV:inD (.str (Str.ofString "bring")) [.str "pool",.str "sell"]=false:=nr rfl
@[simp] theorem gD:inD (.str (Str.ofString "pool")) [.str "pool",.str "sell"]=true:=nr rfl
@[simp] theorem er:inD (.str (Str.ofString "swap")) [.str "pool",.str "sell"]=false:=nr rfl
@[simp] theorem c8:inD (.str (Str.ofString "trade")) [.str "pool",.str "sell"]=false:=nr rfl
@[simp] theorem bU:inD (.str (Str.ofString "spoil")) [.str "pool",.str "sell"]=false:=nr rfl
@[simp] theorem dU:inD (.str (Str.ofString "throw")) [.str "pool",.str "sell"]=false:=nr rfl
@[simp] theorem eG:inD (.str (Str.ofString "sell")) [.str "pool",.str "sell"]=true:=nr rfl
def pT:Ex:=(Ai (xIf (FL (eOp (o1 Q8) [(C4 [0,1] 2 (ah (eV 3)) (tTp [(tNm 2),(tNm 3)]) Bx (AJ A5 [(eV 0),(eV 3),(eOp (o2 wIx) [(eV 1),(eOp (o2 B9) [(eV 2),(eC (.int 1))])])]))])) (A3 (eC (.bl false))) CJ)
  (A3 (eOr (eOp (o2 (wIn true)) [(eV 2),(eC Ft)]) (eOp (o2 wNe) [(eOp (o2 wIx) [(eV 1),(eC (.int 1))]),(eOp (o2 wIx) [(eV 1),(eC (.int 2))])]))))
theorem FJ{w:Str}{xs form:List D}(hf:List.lookup w Ca=some (.tup form))(hl:xs.length=form.length):An [(Cv p k r),(.tup (.str w::xs))] S=(pT [some (Cv p k r),some (.tup (.str w::xs)),some (.str w),some (.tup form)] S).map fun r=>(flD r.1,r.2.2):=by
 have h1:(((form.length:Nat):Int)+1==0)=false:=beq_eq_false_iff_ne.mpr (by omega)
 have eb:Di=(Ai (xIf (eOr (FL (eOp (o2 Hh) [(eV 1),(eC (.ty "tuple"))])) (eOp (o2 wEq) [(eOp (o1 GC) [(eV 1)]),(eC (.int 0))])) (A3 (eC (.bl false))) CJ)
  (Ai (CF 2 (eOp (o2 wIx) [(eV 1),(eC (.int 0))]))
  (Ai (xIf (eOr (FL (eOp (o2 Hh) [(eV 2),(eC (.ty "str"))])) (eOp (o1 (MX true Ca)) [(eV 2)])) (A3 (eC (.bl false))) CJ)
  (Ai (CF 3 (eOp (o1 (bG Ca)) [(eV 2)]))
  (Ai (xIf (eOp (o2 wNe) [(eOp (o1 GC) [(eV 1)]),(eOp (o2 B9) [(eOp (o1 GC) [(eV 3)]),(eC (.int 1))])]) (A3 (eC (.bl false))) CJ)
  pT))))):=rfl
 generalize Cv p k r=T
 simp[An,eb,St.Kd.isA,hf,h1,hl]
theorem Pj{a b c:D}(ha:Tb a)(hb:Tb b)(hc:Tb c):An [(Cv p k r),(.tup [.str "bring",a,b,c])] S=some ((.bl (AM 0 (p-1) a && (AM 0 (k-1) b && AW 1 c))),S):=by
 have h1:=Gn (S:=S) (p:=p) (k:=k) (r:=r) ha
 have h2:=Jf (S:=S) (p:=p) (k:=k) (r:=r) hb
 have h3:=C3 (S:=S) (p:=p) (k:=k) (r:=r) hc
 rw[FJ (xs:=[a,b,c]) Hg rfl]
 simp[pT,h1,h2,h3]
 simp only[←Bool.not_and]
 generalize (AM 0 (p-1) a && (AM 0 (k-1) b && AW 1 c))=B
 cases B<;>simp
end
section
variable{p k:Int}{r:List D}
theorem EM{lo:Int}{d:D}(h:AW lo d=true):∃i,d=.int i:=by
 cases d<;>first|exact⟨_,rfl⟩|cases h
theorem CV{lo hi:Int}{d:D}(h:AM lo hi d=true):∃i,d=.int i:=by
 cases d<;>first|exact⟨_,rfl⟩|cases h
theorem RD{a b:D}(ha:Tb a)(hb:Tb b):An [(Cv p k r),(.tup [.str "pool",a,b])] S=some ((.bl (AW 0 a && (AW 0 b && (Ro a b)))),S):=by
 have h1:=FI (S:=S) (p:=p) (k:=k) (r:=r) ha
 have h2:=FI (S:=S) (p:=p) (k:=k) (r:=r) hb
 rw[FJ (xs:=[a,b]) Ko rfl]
 simp[pT,h1,h2]
 cases c1:AW 0 a
 ·simp
 ·cases c2:AW 0 b
  ·simp
  ·obtain⟨i,rfl⟩:=EM c1
   obtain⟨j,rfl⟩:=EM c2
   simp[Ro]
theorem Q0{a b c d:D}(ha:Tb a)(hb:Tb b)(hc:Tb c)(hd:Tb d):An [(Cv p k r),(.tup [.str "swap",a,b,c,d])] S=some ((.bl (AW 0 a && (AW 1 b && (AM 0 (k-1) c && (AW 1 d))))),S):=by
 have h1:=FI (S:=S) (p:=p) (k:=k) (r:=r) ha
 have h2:=C3 (S:=S) (p:=p) (k:=k) (r:=r) hb
 have h3:=Jf (S:=S) (p:=p) (k:=k) (r:=r) hc
 have h4:=C3 (S:=S) (p:=p) (k:=k) (r:=r) hd
 rw[FJ (xs:=[a,b,c,d]) Ht rfl]
 simp[pT,h1,h2,h3,h4]
 simp only[←Bool.not_and]
 generalize (AW 0 a && (AW 1 b && (AM 0 (k-1) c && AW 1 d)))=B
 cases B<;>simp
theorem QE{a b c d e:D}(ha:Tb a)(hb:Tb b)(hc:Tb c)(hd:Tb d)(he:Tb e):An [(Cv p k r),(.tup [.str "trade",a,b,c,d,e])] S=some ((.bl (AM 0 9 a && (AW 0 b && (AW 1 c && (AM 0 (k-1) d && (AW 1 e)))))),S):=by
 have h1:=OW (S:=S) (p:=p) (k:=k) (r:=r) ha
 have h2:=FI (S:=S) (p:=p) (k:=k) (r:=r) hb
 have h3:=C3 (S:=S) (p:=p) (k:=k) (r:=r) hc
 have h4:=Jf (S:=S) (p:=p) (k:=k) (r:=r) hd
 have h5:=C3 (S:=S) (p:=p) (k:=k) (r:=r) he
 rw[FJ (xs:=[a,b,c,d,e]) FK rfl]
 simp[pT,h1,h2,h3,h4,h5]
 simp only[←Bool.not_and]
 generalize (AM 0 9 a && (AW 0 b && (AW 1 c && (AM 0 (k-1) d && AW 1 e))))=B
 cases B<;>simp
theorem Px{a b:D}(ha:Tb a)(hb:Tb b):An [(Cv p k r),(.tup [.str "spoil",a,b])] S=some ((.bl (AW 0 a && (AW 1 b))),S):=by
 have h1:=FI (S:=S) (p:=p) (k:=k) (r:=r) ha
 have h2:=C3 (S:=S) (p:=p) (k:=k) (r:=r) hb
 rw[FJ (xs:=[a,b]) JB rfl]
 simp[pT,h1,h2]
 simp only[←Bool.not_and]
 generalize (AW 0 a && AW 1 b)=B
 cases B<;>simp
theorem QI{a b c:D}(ha:Tb a)(hb:Tb b)(hc:Tb c):An [(Cv p k r),(.tup [.str "throw",a,b,c])] S=some ((.bl (AW 0 a && (AW 1 b && (F0 (k+1) c)))),S):=by
 have h1:=FI (S:=S) (p:=p) (k:=k) (r:=r) ha
 have h2:=C3 (S:=S) (p:=p) (k:=k) (r:=r) hb
 have h3:=PU (S:=S) (p:=p) (k:=k) (r:=r) hc
 rw[FJ (xs:=[a,b,c]) HW rfl]
 simp[pT,h1,h2,h3]
 simp only[←Bool.not_and]
 generalize (AW 0 a && (AW 1 b && F0 (k+1) c))=B
 cases B<;>simp
theorem Q3{a b c:D}(ha:Tb a)(hb:Tb b)(hc:Tb c):An [(Cv p k r),(.tup [.str "sell",a,b,c])] S=some ((.bl (AM 0 (p-1) a && (AM 0 (p-1) b && (ID c && (Ro a b))))),S):=by
 have h1:=Gn (S:=S) (p:=p) (k:=k) (r:=r) ha
 have h2:=Gn (S:=S) (p:=p) (k:=k) (r:=r) hb
 have h3:=P7 (S:=S) (p:=p) (k:=k) (r:=r) hc
 rw[FJ (xs:=[a,b,c]) Iz rfl]
 simp[pT,h1,h2,h3]
 cases c1:AM 0 (p-1) a
 ·simp
 ·cases c2:AM 0 (p-1) b
  ·simp
  ·cases ID c
   ·simp
   ·obtain⟨i,rfl⟩:=CV c1
    obtain⟨j,rfl⟩:=CV c2
    simp[Ro]
end
section
variable{p k:Int}{r:List D}
theorem Ao{w:Str}{xs form:List D}(hf:List.lookup w Ca=some (.tup form))(hl:xs.length≠form.length):An [(Cv p k r),(.tup (.str w::xs))] S=some ((.bl false),S):=by
 have h1:(((xs.length:Nat):Int)+1==0)=false:=beq_eq_false_iff_ne.mpr (by omega)
 have h2:(((xs.length:Nat):Int)+1==((form.length:Nat):Int)+1)=false:=beq_eq_false_iff_ne.mpr (by omega)
 simp[An,Di,St.Kd.isA,hf,h1,h2]
theorem PJ{w:Str}{xs:List D}(hf:List.lookup w Ca=none):An [(Cv p k r),(.tup (.str w::xs))] S=some ((.bl false),S):=by
 have h1:(((xs.length:Nat):Int)+1==0)=false:=beq_eq_false_iff_ne.mpr (by omega)
 simp[An,Di,St.Kd.isA,hf,h1]
theorem Pd{x:D}{xs:List D}(h:Tb x)(hx:∀w,x≠.str w):An [(Cv p k r),(.tup (x::xs))] S=some ((.bl false),S):=by
 have h1:(((xs.length:Nat):Int)+1==0)=false:=beq_eq_false_iff_ne.mpr (by omega)
 obtain⟨kk,q1,q2,q3⟩:=h.ks (S:=S) hx
 simp[An,Di,Om,h1,q1,q2,q3]
theorem O9{w:Str}(h1:w≠ "bring")(h2:w≠ "pool")(h3:w≠ "swap")(h4:w≠ "trade")(h5:w≠ "spoil")(h6:w≠ "throw")(h7:w≠ "sell"):List.lookup w Ca=none:=by
 have e:∀{u:Str},w≠u->(w==u)=false:=fun h=>beq_eq_false_iff_ne.mpr h
 unfold Ca
 simp only[List.lookup_cons,e h1,e h2,e h3,e h4,e h5,e h6,e h7,List.lookup_nil]
theorem Xj {d : D} (h : Tb d) : An [(Cv p k r), d] S = some ((.bl (DL p k d)), S) := by
  rcases h.kd (S:=S)with⟨ds,g,l,rfl⟩|⟨⟨kk,q1,q2⟩,q3,q4⟩
  · replace h := g
    match ds,h with
    | [],h=>simp[An,Di,St.Kd.isA,DL]
    | x :: xs, h =>
      by_cases hx:∃w,x=.str w
      · obtain ⟨w, rfl⟩ := hx
        show An _ _=some ((.bl (LC p k w xs)),_)
        have th:∀y∈xs,Tb y:=fun y hy=>h y (List.mem_cons_of_mem _ hy)
        unfold LC
        by_cases h1:w="bring"
        · subst h1
          rw[if_pos rfl]
          match xs,th with
          | [a,b,c],th=>exact Pj (th a (by simp)) (th b (by simp)) (th c (by simp))
          | [],_=>exact Ao Hg (by simp)
          | [_],_=>exact Ao Hg (by simp)
          | [_,_],_=>exact Ao Hg (by simp)
          |_::_::_::_::_,_=>exact Ao Hg (by simp)
        rw[if_neg h1]
        by_cases h2:w="pool"
        · subst h2
          rw[if_pos rfl]
          match xs,th with
          | [a,b],th=>exact RD (th a (by simp)) (th b (by simp))
          | [],_=>exact Ao Ko (by simp)
          | [_],_=>exact Ao Ko (by simp)
          |_::_::_::_,_=>exact Ao Ko (by simp)
        rw[if_neg h2]
        by_cases h3:w="swap"
        · subst h3
          rw[if_pos rfl]
          match xs,th with
          | [a,b,c,e],th=>exact Q0 (th a (by simp)) (th b (by simp)) (th c (by simp)) (th e (by simp))
          | [],_=>exact Ao Ht (by simp)
          | [_],_=>exact Ao Ht (by simp)
          | [_,_],_=>exact Ao Ht (by simp)
          | [_,_,_],_=>exact Ao Ht (by simp)
          |_::_::_::_::_::_,_=>exact Ao Ht (by simp)
        rw[if_neg h3]
        by_cases h4:w="trade"
        · subst h4
          rw[if_pos rfl]
          match xs,th with
          | [a,b,c,e,f],th=>exact QE (th a (by simp)) (th b (by simp)) (th c (by simp)) (th e (by simp)) (th f (by simp))
          | [],_=>exact Ao FK (by simp)
          | [_],_=>exact Ao FK (by simp)
          | [_,_],_=>exact Ao FK (by simp)
          | [_,_,_],_=>exact Ao FK (by simp)
          | [_,_,_,_],_=>exact Ao FK (by simp)
          |_::_::_::_::_::_::_,_=>exact Ao FK (by simp)
        rw[if_neg h4]
        by_cases h5:w="spoil"
        · subst h5
          rw[if_pos rfl]
          match xs,th with
          | [a,b],th=>exact Px (th a (by simp)) (th b (by simp))
          | [],_=>exact Ao JB (by simp)
          | [_],_=>exact Ao JB (by simp)
          |_::_::_::_,_=>exact Ao JB (by simp)
        rw[if_neg h5]
        by_cases h6:w="throw"
        · subst h6
          rw[if_pos rfl]
          match xs,th with
          | [a,b,c],th=>exact QI (th a (by simp)) (th b (by simp)) (th c (by simp))
          | [],_=>exact Ao HW (by simp)
          | [_],_=>exact Ao HW (by simp)
          | [_,_],_=>exact Ao HW (by simp)
          |_::_::_::_::_,_=>exact Ao HW (by simp)
        rw[if_neg h6]
        by_cases h7:w="sell"
        · subst h7
          rw[if_pos rfl]
          match xs,th with
          | [a,b,c],th=>exact Q3 (th a (by simp)) (th b (by simp)) (th c (by simp))
          | [],_=>exact Ao Iz (by simp)
          | [_],_=>exact Ao Iz (by simp)
          | [_,_],_=>exact Ao Iz (by simp)
          |_::_::_::_::_,_=>exact Ao Iz (by simp)
        rw[if_neg h7]
        exact PJ (O9 h1 h2 h3 h4 h5 h6 h7)
      · have hx' : ∀ w, x ≠ .str w := fun w e => hx ⟨w, e⟩
        rw[Pd (h x (by simp)) hx']
        have:DL p k (.tup (x::xs))=false:=by
          cases x<;>first|rfl|exact absurd rfl (hx' _)
        rw[this]
  · have z1 : (DL p k d) = false := by cases d <;> first | rfl | exact absurd rfl (q4 _)
    simp[An,Di,q1,q2,q3,z1]
end
end
section
variable{S:Sto}
section
variable{d:D}
@[simp] theorem cI{neg:Bool}{a:Wv}:fo neg a (.val .non)=some (.val (.bl (if neg then !isN a else isN a))):=nr rfl
@[simp] theorem eg:isN (.val .non)=true:=nr rfl
@[simp] theorem gE{i:Int}:isN (.val (.int i))=false:=nr rfl
theorem Bk(h:Tb d)(lo:Int):Ad [d,(.int lo),.non] S=some ((.bl (AW lo d)),S):=by
 rcases h.ki (S:=S)with⟨i,hi,rfl⟩|⟨kk,q1,q2,q3,q4⟩
 ·simp[Ad,JT,UO,QK,AW]
  by_cases c:lo≤i<;>simp[c]
 ·have z:AW lo d=false:=by cases d<;>first|rfl|exact absurd rfl (q4 _)
  cases b1:St.Kd.isA kk "int" <;>simp[b1]at q2<;>simp[Ad,JT,q1,q3,b1,q2,z]
theorem BO(h:Tb d)(lo hi:Int):Ad [d,(.int lo),(.int hi)] S=some ((.bl (AM lo hi d)),S):=by
 rcases h.ki (S:=S)with⟨i,hi,rfl⟩|⟨kk,q1,q2,q3,q4⟩
 ·simp[Ad,JT,UO,QK,AM]
  by_cases c:lo≤i<;>simp[c]
 ·have z:AM lo hi d=false:=by cases d<;>first|rfl|exact absurd rfl (q4 _)
  cases b1:St.Kd.isA kk "int" <;>simp[b1]at q2<;>simp[Ad,JT,q1,q3,b1,q2,z]
noncomputable def HE:D->Bool
 | .tup [.int t,.int b]=>decide (0≤t) && (decide (1≤b) && decide (JV t b=1))
 |_=>false
theorem XO (h : Tb d) : CH [d] S = some ((.bl (HE d)), S) := by
  rcases h.kd (S:=S)with⟨ds,g,l,rfl⟩|⟨⟨kk,q1,q2⟩,q3,q4⟩
  · replace h := g
    by_cases hl:ds.length=2
    · match ds, hl, h with
      | [x, y], _, h =>
        have hx:=h x (by simp)
        have hy:=h y (by simp)
        have w1:=Bk (S:=S) hx 0
        have w2:=Bk (S:=S) hy 1
        simp[CH,Dt,St.Kd.isA,w1]
        cases c1:AW 0 x with
        | false =>
          have z:HE (.tup [x,y])=false:=by
            cases x<;>first|rfl|skip
            cases y<;>first|rfl|skip
            rename_i i' j' hq
            have c1:decide (0≤i')=false:=c1
            show(decide (0≤i') && _)=false
            rw[c1];rfl
          simp[z]
        | true =>
          obtain⟨i,rfl⟩:=EM c1
          have d1:0≤i:=of_decide_eq_true c1
          simp[w2]
          cases c2:AW 1 y with
          | false =>
            have z:HE (.tup [.int i,y])=false:=by
              cases y<;>first|rfl|skip
              rename_i j' hq
              have c2:decide (1≤j')=false:=c2
              show(decide (0≤i) && (decide (1≤j') && _))=false
              rw[c2]
              exact Bool.and_false _
            simp[z]
          | true =>
            obtain⟨j,rfl⟩:=EM c2
            have c:1≤j:=of_decide_eq_true c2
            have g:=Ob (S:=S) i j d1 (by omega)
            simp[HE,d1,c,g]
            rfl
    · have z1 : HE (.tup ds) = false := by
        unfold HE
        split
        · rename_i e
          cases e
          exact absurd rfl hl
        ·rfl
      have z2:((ds.length:Int)==2)=false:=beq_eq_false_iff_ne.mpr (by omega)
      simp[CH,Dt,St.Kd.isA,z1,z2]
  · have z1 : (HE d) = false := by cases d <;> first | rfl | exact absurd rfl (q4 _)
    simp[CH,Dt,q1,q2,q3,z1]
theorem P2(h:HE d=true):∃t b:Int,d=.tup [.int t,.int b]/\0≤t/\1≤b/\JV t b=1:=by
 unfold HE at h
 split at h
 ·rename_i t b
  rw[Bool.and_eq_true,Bool.and_eq_true]at h
  exact⟨t,b,rfl,of_decide_eq_true h.1,of_decide_eq_true h.2.1,of_decide_eq_true h.2.2⟩
 ·cases h
theorem Ol(h:HE d=false):BI d=false:=by
  cases hs:BI d with
  |false=>rfl
  | true =>
    exfalso
    obtain⟨t,b,rfl⟩:=HH hs
    have hs':(decide (1≤b) && decide (JV t b=1) && (decide (0≤t) && decide (t≤b)))=true:=hs
    have h':(decide (0≤t) && (decide (1≤b) && decide (JV t b=1)))=false:=h
    rw[Bool.and_eq_true,Bool.and_eq_true,Bool.and_eq_true]at hs'
    rw[hs'.1.1,hs'.1.2,hs'.2.1]at h'
    cases h'
theorem Mc(h:Tb d):Bs [d] S=some ((.bl (BI d)),S):=by
  have a:=XO (S:=S) h
  cases hb:HE d with
  | true =>
    obtain⟨t,b,rfl,h0,h1,h2⟩:=P2 hb
    simp[Bs,F7,a,hb,BI,h0,h1,h2]
  |false=>simp[Bs,F7,a,hb,Ol hb]
theorem R1{p q:Int×Int}{j k:Nat}(hp:zBd j p)(hq:zBd k q)(hj:j≤4000)(hk:k≤4000)(hjk:j+k≤8000):BX [(amD p),(amD q)] S=some ((amD (KS p q)),S):=by
 have up:∀{n m:Nat} {x:Int},x.natAbs<2^n->n≤m->x.natAbs<2^m:=fun h g=>Nat.lt_of_lt_of_le h (Nat.pow_le_pow_right (by decide) g)
 have m1:Dr p.1 q.2=true:=EX (k:=4000) (m:=4000) (up hp.1 hj) (up hq.2.1 hk) (by decide) (by decide)
 have m2:Dr q.1 p.2=true:=EX (k:=4000) (m:=4000) (up hq.1 hk) (up hp.2.1 hj) (by decide) (by decide)
 have m3:Dr p.2 q.2=true:=EX (k:=4000) (m:=4000) (up hp.2.1 hj) (up hq.2.1 hk) (by decide) (by decide)
 have b1:(p.2*q.2).natAbs<2^8000:=by
  rw[Int.natAbs_mul]
  exact Nat.lt_of_lt_of_le (Cq hp.2.1 hq.2.1) (Nat.pow_le_pow_right (by decide) hjk)
 have l:=Ni (t:=p.1*q.2+q.1*p.2) (S:=S) (Int.mul_pos hp.2.2 hq.2.2) b1
 simp[BX,Jt,amD,m1,m2,m3,l,KS]
theorem WA{ps:List (Int×Int)}(hp:∀p∈ps,zBd 160 p)(hl:ps.length≤20):JG [(.tup (ps.map amD))] S=some ((amD (UL ps (0,1))),S):=by
 obtain⟨o',h⟩:=ZM (S:=S) (F:=BX) R1 ps (0,1) 0 (.tup (ps.map amD)) none jY hp (by omega)
 have e:D.tup [.int 0,.int 1]=amD (0,1):=rfl
 simp[JG,OD,e,h]
theorem Np{ds:List D}(h:∀d∈ds,Tb d)(hl:ds.length≤1000):Bg [] (tNm 0) Bx (AJ Bs [(eV 0)]) ds [] [none] S=some (ds.map fun d=>.bl (BI d),S):=by
 have:=comp_map (gs:=[]) (t:=tNm 0) (f:=AJ Bs [(eV 0)]) (C:=[]) (m:=1) (g:=fun d=>.bl (BI d)) (S:=S) BU (ds:=ds) (acc:=[]) (os:=[none]) rfl (AO (by simpa using hl)) (by
  intro d hd os ho
  match os,ho with
  | [a],_=>exact⟨[some d],rfl,by simp,by simp[Mc (h d hd)]⟩)
 simpa using this
theorem Lf(h:Tb d)(n:Int)(hn:n≤20):BP [d,(.int n)] S=some ((.bl (Ct n d)),S):=by
 rcases h.kd (S:=S)with⟨ds,g,l,rfl⟩|⟨⟨kk,q1,q2⟩,q3,q4⟩
 ·replace h:=g
  by_cases c:(ds.length:Int)=n
  ·have ct:(((ds.length:Nat):Int)==n)=true:=by simpa using c
   have e:=Np (S:=S) h l
   have b:=Gi BI ds
   have am:=E8 BI ds
   by_cases s:ds.all BI=true
   ·obtain⟨s1,s2⟩:=Jp h s
    have tt:=WA (S:=S) (ps:=ds.map aZ) s2 (by simp;omega)
    rw[←s1]at tt
    have e1:D.tup [.int 1,.int 1]=amD (1,1):=rfl
    simp[BP,Cm,St.Kd.isA,ct,e,b,am,s,tt,e1,Ct,c]
   ·have s':ds.all BI=false:=by simpa using s
    simp[BP,Cm,St.Kd.isA,ct,e,b,am,s',Ct,c]
  ·have ct:(((ds.length:Nat):Int)==n)=false:=by simpa using c
   simp[BP,Cm,St.Kd.isA,ct,Ct,c]
 ·have z1:(Ct n d)=false:=by cases d<;>first|rfl|exact absurd rfl (q4 _)
  simp[BP,Cm,q1,q2,q3,z1]
end
section
variable{d:D}{p k:Int}{r:List D}
theorem SA (h : Tb d) (hp : p ≤ 20) : Cg [(Cv p k r), d] S = some ((.bl (DF p k d)), S) := by
  rcases h.kd (S:=S)with⟨ds,g,l,rfl⟩|⟨⟨kk,q1,q2⟩,q3,q4⟩
  · replace h := g
    by_cases hl:ds.length=3
    · match ds, hl, h with
      | [x,y,z],_,h=>
        have k1:=BO (S:=S) (h x (by simp)) 0 (k-1)
        have k2:=Bk (S:=S) (h y (by simp)) 0
        have k3:=Lf (S:=S) (h z (by simp)) p hp
        simp[Cg,Ez,St.Kd.isA,Cv,k1,DF]
        cases AM 0 (k-1) x<;>simp[k2]
        cases AW 0 y<;>simp[k3]
    · have z1 : DF p k (.tup ds) = false := by
        unfold DF
        split
        · rename_i e
          cases e
          exact absurd rfl hl
        ·rfl
      have z2:((ds.length:Int)==3)=false:=beq_eq_false_iff_ne.mpr (by omega)
      simp[Cg,Ez,St.Kd.isA,z1,z2]
  · have z1 : (DF p k d) = false := by cases d <;> first | rfl | exact absurd rfl (q4 _)
    simp[Cg,Ez,q1,q2,q3,z1]
theorem P0{ds:List D}(h:∀d∈ds,Tb d)(hl:ds.length≤1000):Bg [] (tNm 0) Bx (AJ Ad [(eV 0),(eC (.int 1)),(eC (.int 99))]) ds [] [none] S=some (ds.map fun d=>.bl (AM 1 99 d),S):=by
 have:=comp_map (gs:=[]) (t:=tNm 0) (f:=AJ Ad [(eV 0),(eC (.int 1)),(eC (.int 99))]) (C:=[]) (m:=1) (g:=fun d=>.bl (AM 1 99 d)) (S:=S) BU (ds:=ds) (acc:=[]) (os:=[none]) rfl (AO (by simpa using hl)) (by
  intro d hd os ho
  match os,ho with
  | [a],_=>exact⟨[some d],rfl,by simp,by simp[BO (h d hd)]⟩)
 simpa using this
theorem Pp(h:Tb d)(n:Int):Bi [d,(.int n)] S=some ((.bl (F0 n d)),S):=by
 rcases h.kd (S:=S)with⟨ds,g,l,rfl⟩|⟨⟨kk,q1,q2⟩,q3,q4⟩
 ·replace h:=g
  by_cases c:(ds.length:Int)=n
  ·have ct:(((ds.length:Nat):Int)==n)=true:=by simpa using c
   have e:=P0 (S:=S) h l
   have b:=Gi (AM 1 99) ds
   have am:=E8 (AM 1 99) ds
   simp[Bi,De,St.Kd.isA,ct,e,b,am,F0,c]
  ·have ct:(((ds.length:Nat):Int)==n)=false:=by simpa using c
   simp[Bi,De,St.Kd.isA,ct,F0,c]
 ·have z1:(F0 n d)=false:=by cases d<;>first|rfl|exact absurd rfl (q4 _)
  simp[Bi,De,q1,q2,q3,z1]
theorem SM{a b c:D}(ha:Tb a)(hb:Tb b)(hc:Tb c):Dw [(Cv p k r),(.tup [a,b,c])] S=some ((.bl (AM 0 (p-1) a && (AM 0 (p-1) b && (ID c && Ro a b)))),S):=by
  have k1:=BO (S:=S) ha 0 (p-1)
  have k2:=BO (S:=S) hb 0 (p-1)
  have k3:=Mc (S:=S) hc
  simp[Dw,Im,Cv,k1]
  cases c1:AM 0 (p-1) a<;>simp[k2]
  cases c2:AM 0 (p-1) b<;>simp
  obtain⟨i,rfl⟩:=CV c1
  obtain⟨j,rfl⟩:=CV c2
  by_cases e:i=j
  · subst e
    simp[Ro]
  · have e' : (i == j) = false := by simpa using e
    simp[Ro,e',k3]
    cases c3:BI c with
    |false=>simp[J8 c3]
    | true =>
      obtain⟨t,u,rfl⟩:=HH c3
      by_cases c4:0<t<;>simp[c3,ID,c4]
noncomputable def Fy:List (Key×D):=[(.inr "bring",.int 3),(.inr "pool",.int 2),(.inr "swap",.int 4),(.inr "trade",.int 5),(.inr "spoil",.int 2),(.inr "throw",.int 3),(.inr "sell",.int 3)]
@[simp] theorem Zl:Lr [] [(.inr (Str.ofString "bring"),.int 3),(.inr (Str.ofString "pool"),.int 2),(.inr (Str.ofString "swap"),.int 4),(.inr (Str.ofString "trade"),.int 5),(.inr (Str.ofString "spoil"),.int 2),(.inr (Str.ofString "throw"),.int 3),(.inr (Str.ofString "sell"),.int 3)]=Fy:=nr rfl
@[simp] theorem j7{es:List (Key×D)}:Zw S (.dct es)=some es:=nr rfl
@[simp] theorem Lh:MD Fy (Sum.inr (Str.ofString "bring"))=some (.int 3):=nr rfl
@[simp] theorem Qq:MD Fy (Sum.inr (Str.ofString "pool"))=some (.int 2):=nr rfl
@[simp] theorem Kl:MD Fy (Sum.inr (Str.ofString "swap"))=some (.int 4):=nr rfl
@[simp] theorem HB:MD Fy (Sum.inr (Str.ofString "trade"))=some (.int 5):=nr rfl
@[simp] theorem OX:MD Fy (Sum.inr (Str.ofString "spoil"))=some (.int 2):=nr rfl
@[simp] theorem LW:MD Fy (Sum.inr (Str.ofString "throw"))=some (.int 3):=nr rfl
@[simp] theorem Nl:MD Fy (Sum.inr (Str.ofString "sell"))=some (.int 3):=nr rfl
@[simp] theorem ja{a:D}{r:List D}:JW (a::r) (some 1) none=r:=by
 unfold JW HT.sIx
 simp
@[simp] theorem jF{x:Str}:HJ (.str x)=true:=nr rfl
theorem Am{x y:Str}(h:PyData.strOk x=true)(g:PyData.strOk y=true):B2 (.str x) (.str y)=true:=by
 unfold B2
 show(PyData.strOk x && PyData.strOk y && _)=true
 rw[h,g]
 rfl
end
end
section
variable{S:Sto}
theorem B6:PyData.strOk (Str.ofString "bring")=true:=by decide+kernel
theorem Cs:PyData.strOk (Str.ofString "pool")=true:=by decide+kernel
theorem Gh:PyData.strOk (Str.ofString "swap")=true:=by decide+kernel
theorem B4:PyData.strOk (Str.ofString "trade")=true:=by decide+kernel
theorem B5:PyData.strOk (Str.ofString "spoil")=true:=by decide+kernel
theorem Ea:PyData.strOk (Str.ofString "throw")=true:=by decide+kernel
theorem Cr:PyData.strOk (Str.ofString "sell")=true:=by decide+kernel
@[simp] theorem U0:deq (.str (Str.ofString "bring")) (.str (Str.ofString "sell"))=false:=nr rfl
@[simp] theorem Ux:B2 (.str (Str.ofString "bring")) (.str (Str.ofString "sell"))=true:=Am B6 Cr
@[simp] theorem TH:deq (.str (Str.ofString "bring")) (.str (Str.ofString "bring"))=true:=nr rfl
@[simp] theorem UK:B2 (.str (Str.ofString "bring")) (.str (Str.ofString "bring"))=true:=Am B6 B6
@[simp] theorem UP:deq (.str (Str.ofString "bring")) (.str (Str.ofString "trade"))=false:=nr rfl
@[simp] theorem SX:B2 (.str (Str.ofString "bring")) (.str (Str.ofString "trade"))=true:=Am B6 B4
@[simp] theorem VQ:deq (.str (Str.ofString "bring")) (.str (Str.ofString "pool"))=false:=nr rfl
@[simp] theorem VR:B2 (.str (Str.ofString "bring")) (.str (Str.ofString "pool"))=true:=Am B6 Cs
@[simp] theorem UW:deq (.str (Str.ofString "bring")) (.str (Str.ofString "spoil"))=false:=nr rfl
@[simp] theorem Sm:B2 (.str (Str.ofString "bring")) (.str (Str.ofString "spoil"))=true:=Am B6 B5
@[simp] theorem bS:inD (.str (Str.ofString "bring")) [.str "swap",.str "trade"]=false:=nr rfl
@[simp] theorem Wg:deq (.str (Str.ofString "pool")) (.str (Str.ofString "sell"))=false:=nr rfl
@[simp] theorem WT:B2 (.str (Str.ofString "pool")) (.str (Str.ofString "sell"))=true:=Am Cs Cr
@[simp] theorem Vb:deq (.str (Str.ofString "pool")) (.str (Str.ofString "bring"))=false:=nr rfl
@[simp] theorem Ur:B2 (.str (Str.ofString "pool")) (.str (Str.ofString "bring"))=true:=Am Cs B6
@[simp] theorem Uw:deq (.str (Str.ofString "pool")) (.str (Str.ofString "trade"))=false:=nr rfl
@[simp] theorem VS:B2 (.str (Str.ofString "pool")) (.str (Str.ofString "trade"))=true:=Am Cs B4
@[simp] theorem V7:deq (.str (Str.ofString "pool")) (.str (Str.ofString "pool"))=true:=nr rfl
@[simp] theorem Xl:B2 (.str (Str.ofString "pool")) (.str (Str.ofString "pool"))=true:=Am Cs Cs
@[simp] theorem Va:deq (.str (Str.ofString "pool")) (.str (Str.ofString "spoil"))=false:=nr rfl
@[simp] theorem VH:B2 (.str (Str.ofString "pool")) (.str (Str.ofString "spoil"))=true:=Am Cs B5
@[simp] theorem eU:inD (.str (Str.ofString "pool")) [.str "swap",.str "trade"]=false:=nr rfl
@[simp] theorem WG:deq (.str (Str.ofString "swap")) (.str (Str.ofString "sell"))=false:=nr rfl
@[simp] theorem V5:B2 (.str (Str.ofString "swap")) (.str (Str.ofString "sell"))=true:=Am Gh Cr
@[simp] theorem VT:deq (.str (Str.ofString "swap")) (.str (Str.ofString "bring"))=false:=nr rfl
@[simp] theorem Up:B2 (.str (Str.ofString "swap")) (.str (Str.ofString "bring"))=true:=Am Gh B6
@[simp] theorem Vh:deq (.str (Str.ofString "swap")) (.str (Str.ofString "trade"))=false:=nr rfl
@[simp] theorem VX:B2 (.str (Str.ofString "swap")) (.str (Str.ofString "trade"))=true:=Am Gh B4
@[simp] theorem Vr:deq (.str (Str.ofString "swap")) (.str (Str.ofString "pool"))=false:=nr rfl
@[simp] theorem XR:B2 (.str (Str.ofString "swap")) (.str (Str.ofString "pool"))=true:=Am Gh Cs
@[simp] theorem U4:deq (.str (Str.ofString "swap")) (.str (Str.ofString "spoil"))=false:=nr rfl
@[simp] theorem VM:B2 (.str (Str.ofString "swap")) (.str (Str.ofString "spoil"))=true:=Am Gh B5
@[simp] theorem fN:inD (.str (Str.ofString "swap")) [.str "swap",.str "trade"]=true:=nr rfl
@[simp] theorem Ui:deq (.str (Str.ofString "trade")) (.str (Str.ofString "sell"))=false:=nr rfl
@[simp] theorem U7:B2 (.str (Str.ofString "trade")) (.str (Str.ofString "sell"))=true:=Am B4 Cr
@[simp] theorem T5:deq (.str (Str.ofString "trade")) (.str (Str.ofString "bring"))=false:=nr rfl
@[simp] theorem SV:B2 (.str (Str.ofString "trade")) (.str (Str.ofString "bring"))=true:=Am B4 B6
@[simp] theorem SH:deq (.str (Str.ofString "trade")) (.str (Str.ofString "trade"))=true:=nr rfl
@[simp] theorem Th:B2 (.str (Str.ofString "trade")) (.str (Str.ofString "trade"))=true:=Am B4 B4
@[simp] theorem Uo:deq (.str (Str.ofString "trade")) (.str (Str.ofString "pool"))=false:=nr rfl
@[simp] theorem Vi:B2 (.str (Str.ofString "trade")) (.str (Str.ofString "pool"))=true:=Am B4 Cs
@[simp] theorem Tn:deq (.str (Str.ofString "trade")) (.str (Str.ofString "spoil"))=false:=nr rfl
@[simp] theorem Tc:B2 (.str (Str.ofString "trade")) (.str (Str.ofString "spoil"))=true:=Am B4 B5
@[simp] theorem d6:inD (.str (Str.ofString "trade")) [.str "swap",.str "trade"]=true:=nr rfl
@[simp] theorem VY:deq (.str (Str.ofString "spoil")) (.str (Str.ofString "sell"))=false:=nr rfl
@[simp] theorem VC:B2 (.str (Str.ofString "spoil")) (.str (Str.ofString "sell"))=true:=Am B5 Cr
@[simp] theorem Ti:deq (.str (Str.ofString "spoil")) (.str (Str.ofString "bring"))=false:=nr rfl
@[simp] theorem R6:B2 (.str (Str.ofString "spoil")) (.str (Str.ofString "bring"))=true:=Am B5 B6
@[simp] theorem SU:deq (.str (Str.ofString "spoil")) (.str (Str.ofString "trade"))=false:=nr rfl
@[simp] theorem Sn:B2 (.str (Str.ofString "spoil")) (.str (Str.ofString "trade"))=true:=Am B5 B4
@[simp] theorem VB:deq (.str (Str.ofString "spoil")) (.str (Str.ofString "pool"))=false:=nr rfl
@[simp] theorem Vc:B2 (.str (Str.ofString "spoil")) (.str (Str.ofString "pool"))=true:=Am B5 Cs
@[simp] theorem Tj:deq (.str (Str.ofString "spoil")) (.str (Str.ofString "spoil"))=true:=nr rfl
@[simp] theorem So:B2 (.str (Str.ofString "spoil")) (.str (Str.ofString "spoil"))=true:=Am B5 B5
@[simp] theorem cv:inD (.str (Str.ofString "spoil")) [.str "swap",.str "trade"]=false:=nr rfl
@[simp] theorem Uq:deq (.str (Str.ofString "throw")) (.str (Str.ofString "sell"))=false:=nr rfl
@[simp] theorem Uy:B2 (.str (Str.ofString "throw")) (.str (Str.ofString "sell"))=true:=Am Ea Cr
@[simp] theorem R3:deq (.str (Str.ofString "throw")) (.str (Str.ofString "bring"))=false:=nr rfl
@[simp] theorem Rv:B2 (.str (Str.ofString "throw")) (.str (Str.ofString "bring"))=true:=Am Ea B6
@[simp] theorem SQ:deq (.str (Str.ofString "throw")) (.str (Str.ofString "trade"))=false:=nr rfl
@[simp] theorem TR:B2 (.str (Str.ofString "throw")) (.str (Str.ofString "trade"))=true:=Am Ea B4
@[simp] theorem Uz:deq (.str (Str.ofString "throw")) (.str (Str.ofString "pool"))=false:=nr rfl
@[simp] theorem Vd:B2 (.str (Str.ofString "throw")) (.str (Str.ofString "pool"))=true:=Am Ea Cs
@[simp] theorem UA:deq (.str (Str.ofString "throw")) (.str (Str.ofString "spoil"))=false:=nr rfl
@[simp] theorem SF:B2 (.str (Str.ofString "throw")) (.str (Str.ofString "spoil"))=true:=Am Ea B5
@[simp] theorem cJ:inD (.str (Str.ofString "throw")) [.str "swap",.str "trade"]=false:=nr rfl
@[simp] theorem We:deq (.str (Str.ofString "sell")) (.str (Str.ofString "sell"))=true:=nr rfl
@[simp] theorem Vt:B2 (.str (Str.ofString "sell")) (.str (Str.ofString "sell"))=true:=Am Cr Cr
@[simp] theorem Uj:deq (.str (Str.ofString "sell")) (.str (Str.ofString "bring"))=false:=nr rfl
@[simp] theorem U5:B2 (.str (Str.ofString "sell")) (.str (Str.ofString "bring"))=true:=Am Cr B6
@[simp] theorem VG:deq (.str (Str.ofString "sell")) (.str (Str.ofString "trade"))=false:=nr rfl
@[simp] theorem VN:B2 (.str (Str.ofString "sell")) (.str (Str.ofString "trade"))=true:=Am Cr B4
@[simp] theorem W0:deq (.str (Str.ofString "sell")) (.str (Str.ofString "pool"))=false:=nr rfl
@[simp] theorem Xd:B2 (.str (Str.ofString "sell")) (.str (Str.ofString "pool"))=true:=Am Cr Cs
@[simp] theorem Vf:deq (.str (Str.ofString "sell")) (.str (Str.ofString "spoil"))=false:=nr rfl
@[simp] theorem Ve:B2 (.str (Str.ofString "sell")) (.str (Str.ofString "spoil"))=true:=Am Cr B5
@[simp] theorem fA:inD (.str (Str.ofString "sell")) [.str "swap",.str "trade"]=false:=nr rfl
section
variable{p k:Int}{r:List D}
def dT:Ex:=(Ai (xIf (eOp (o2 wEq) [(eV 3),(eC (.str "sell"))]) (A3 (AJ Dw [(eV 0),(eV 4)])) CJ)
  (Ai (xIf (eOp (o2 wEq) [(eV 3),(eC (.str "bring"))]) (Ai (CF 5 (C8 (AJ Ad [(eOp (o2 wIx) [(eV 4),(eC (.int 0))]),(eC (.int 0)),(eOp (o2 JU) [(eOp (o2 wIx) [(eV 0),(eC (.int 0))]),(eC (.int 1))])]) (AJ Ad [(eOp (o2 wIx) [(eV 4),(eC (.int 1))]),(eC (.int 0)),(eOp (o2 JU) [(eOp (o2 wIx) [(eV 0),(eC (.int 1))]),(eC (.int 1))])])))
  (A3 (C8 (eV 5) (AJ Ad [(eOp (o2 wIx) [(eV 4),(eC (.int 2))]),(eC (.int 1)),(eC .non)])))) CJ)
  (Ai (xIf (eOp (o2 wEq) [(eV 3),(eC (.str "trade"))]) (Ai (xIf (FL (AJ Ad [(eOp (o2 wIx) [(eV 4),(eC (.int 0))]),(eC (.int 0)),(eC (.int 9))])) (A3 (eC (.bl false))) CJ)
  (CF 4 (eOp (J6 true false) [(eV 4),(eC (.int 1))]))) CJ)
  (Ai (xIf (FL (AJ Ad [(eOp (o2 wIx) [(eV 4),(eC (.int 0))]),(eC (.int 0)),(eC .non)])) (A3 (eC (.bl false))) CJ)
  (Ai (xIf (eOp (o2 wEq) [(eV 3),(eC (.str "pool"))]) (A3 (C8 (AJ Ad [(eOp (o2 wIx) [(eV 4),(eC (.int 1))]),(eC (.int 0)),(eC .non)]) (eOp (o2 wNe) [(eOp (o2 wIx) [(eV 4),(eC (.int 0))]),(eOp (o2 wIx) [(eV 4),(eC (.int 1))])]))) CJ)
  (Ai (xIf (eOp (o2 (wIn false)) [(eV 3),(BD [(eC (.str "swap")),(eC (.str "trade"))])]) (A3 (C8 (AJ Ad [(eOp (o2 wIx) [(eV 4),(eC (.int 1))]),(eC (.int 1)),(eC .non)]) (C8 (AJ Ad [(eOp (o2 wIx) [(eV 4),(eC (.int 2))]),(eC (.int 0)),(eOp (o2 JU) [(eOp (o2 wIx) [(eV 0),(eC (.int 1))]),(eC (.int 1))])]) (AJ Ad [(eOp (o2 wIx) [(eV 4),(eC (.int 3))]),(eC (.int 1)),(eC .non)])))) CJ)
  (A3 (C8 (AJ Ad [(eOp (o2 wIx) [(eV 4),(eC (.int 1))]),(eC (.int 1)),(eC .non)]) (eOr (eOp (o2 wEq) [(eV 3),(eC (.str "spoil"))]) (AJ Bi [(eOp (o2 wIx) [(eV 4),(eC (.int 2))]),(eOp (o2 B9) [(eOp (o2 wIx) [(eV 0),(eC (.int 1))]),(eC (.int 1))])]))))))))))
theorem EL{w:Str}{xs:List D}(hf:MD Fy (Sum.inr w)=some (.int (xs.length:Int)))(h1:1≤xs.length):AV [(Cv p k r),(.tup (.str w::xs))] S=(dT [some (Cv p k r),some (.tup (.str w::xs)),some (.dct Fy),some (.str w),some (.tup xs),none] S).map fun r=>(flD r.1,r.2.2):=by
 have e1:¬(((xs.length:Nat):Int)+1<2):=by omega
 have eb:B3=(Ai (xIf (eOr (FL (eOp (o2 Hh) [(eV 1),(eC (.ty "tuple"))])) (eOr (eOp (o2 wLt) [(eOp (o1 GC) [(eV 1)]),(eC (.int 2))]) (FL (eOp (o2 Hh) [(eOp (o2 wIx) [(eV 1),(eC (.int 0))]),(eC (.ty "str"))])))) (A3 (eC (.bl false))) CJ)
  (Ai (CF 2 (Vx [((eC (.str "bring")),(eC (.int 3))),((eC (.str "pool")),(eC (.int 2))),((eC (.str "swap")),(eC (.int 4))),((eC (.str "trade")),(eC (.int 5))),((eC (.str "spoil")),(eC (.int 2))),((eC (.str "throw")),(eC (.int 3))),((eC (.str "sell")),(eC (.int 3)))]))
  (Ai (xIf (eOp (o2 wNe) [(eH (eV 2) (eOp (o2 wIx) [(eV 1),(eC (.int 0))]) (eC (.int 0))),(eOp (o2 JU) [(eOp (o1 GC) [(eV 1)]),(eC (.int 1))])]) (A3 (eC (.bl false))) CJ)
  (Ai (Qs 3 4 (eOp (o2 wIx) [(eV 1),(eC (.int 0))]) (eOp (J6 true false) [(eV 1),(eC (.int 1))]))
  dT)))):=rfl
 generalize Cv p k r=T
 simp[AV,eb,St.Kd.isA,hf,e1]
theorem Ou{a b c:D}(ha:Tb a)(hb:Tb b)(hc:Tb c):AV [(Cv p k r),(.tup [.str "bring",a,b,c])] S=some ((.bl (AM 0 (p-1) a && (AM 0 (k-1) b && (AW 1 c)))),S):=by
 have h1:=BO (S:=S) ha 0 (p-1)
 have h2:=BO (S:=S) hb 0 (k-1)
 have h3:=Bk (S:=S) hc 1
 rw[EL (by simp) (by simp)]
 simp[dT,Cv,h1,h2,h3]
 cases c1:AM 0 (p-1) a
 ·simp
 ·simp[h1,h2,h3]
  cases c2:AM 0 (k-1) b
  ·simp
  ·simp[h1,h2,h3]
theorem QB{a b:D}(ha:Tb a)(hb:Tb b):AV [(Cv p k r),(.tup [.str "pool",a,b])] S=some ((.bl (AW 0 a && (AW 0 b && (Ro a b)))),S):=by
 have h1:=Bk (S:=S) ha 0
 have h2:=Bk (S:=S) hb 0
 rw[EL (by simp) (by simp)]
 simp[dT,Cv,h1,h2]
 cases c1:AW 0 a
 ·simp
 ·simp[h1,h2]
  cases c2:AW 0 b
  ·simp
  ·obtain⟨i,rfl⟩:=EM c1
   obtain⟨j,rfl⟩:=EM c2
   simp[h1,h2,Ro]
theorem QH{a b c d:D}(ha:Tb a)(hb:Tb b)(hc:Tb c)(hd:Tb d):AV [(Cv p k r),(.tup [.str "swap",a,b,c,d])] S=some ((.bl (AW 0 a && (AW 1 b && (AM 0 (k-1) c && (AW 1 d))))),S):=by
 have h1:=Bk (S:=S) ha 0
 have h2:=Bk (S:=S) hb 1
 have h3:=BO (S:=S) hc 0 (k-1)
 have h4:=Bk (S:=S) hd 1
 rw[EL (by simp) (by simp)]
 simp[dT,Cv,h1,h2,h3,h4]
 cases c1:AW 0 a
 ·simp
 ·simp[h1,h2,h3,h4]
  cases c2:AW 1 b
  ·simp
  ·simp[h1,h2,h3,h4]
   cases c3:AM 0 (k-1) c
   ·simp
   ·simp[h1,h2,h3,h4]
theorem OR{a b c d e:D}(ha:Tb a)(hb:Tb b)(hc:Tb c)(hd:Tb d)(he:Tb e):AV [(Cv p k r),(.tup [.str "trade",a,b,c,d,e])] S=some ((.bl (AM 0 9 a && (AW 0 b && (AW 1 c && (AM 0 (k-1) d && (AW 1 e)))))),S):=by
 have h1:=BO (S:=S) ha 0 9
 have h2:=Bk (S:=S) hb 0
 have h3:=Bk (S:=S) hc 1
 have h4:=BO (S:=S) hd 0 (k-1)
 have h5:=Bk (S:=S) he 1
 rw[EL (by simp) (by simp)]
 simp[dT,Cv,h1,h2,h3,h4,h5]
 cases c1:AM 0 9 a
 ·simp
 ·simp[h1,h2,h3,h4,h5]
  cases c2:AW 0 b
  ·simp
  ·simp[h1,h2,h3,h4,h5]
   cases c3:AW 1 c
   ·simp
   ·simp[h1,h2,h3,h4,h5]
    cases c4:AM 0 (k-1) d
    ·simp
    ·simp[h1,h2,h3,h4,h5]
theorem O6{a b:D}(ha:Tb a)(hb:Tb b):AV [(Cv p k r),(.tup [.str "spoil",a,b])] S=some ((.bl (AW 0 a && (AW 1 b))),S):=by
 have h1:=Bk (S:=S) ha 0
 have h2:=Bk (S:=S) hb 1
 rw[EL (by simp) (by simp)]
 simp[dT,Cv,h1,h2]
 cases c1:AW 0 a
 ·simp
 ·simp[h1,h2]
  cases c2:AW 1 b
  ·simp
  ·simp[h1,h2]
theorem O2{a b c:D}(ha:Tb a)(hb:Tb b)(hc:Tb c):AV [(Cv p k r),(.tup [.str "throw",a,b,c])] S=some ((.bl (AW 0 a && (AW 1 b && (F0 (k+1) c)))),S):=by
 have h1:=Bk (S:=S) ha 0
 have h2:=Bk (S:=S) hb 1
 have h3:=Pp (S:=S) hc (k+1)
 rw[EL (by simp) (by simp)]
 simp[dT,Cv,h1,h2,h3]
 cases c1:AW 0 a
 ·simp
 ·simp[h1,h2,h3]
  cases c2:AW 1 b
  ·simp
  ·simp[h1,h2,h3]
theorem QC{a b c:D}(ha:Tb a)(hb:Tb b)(hc:Tb c):AV [(Cv p k r),(.tup [.str "sell",a,b,c])] S=some ((.bl (AM 0 (p-1) a && (AM 0 (p-1) b && (ID c && (Ro a b))))),S):=by
 have h1:=SM (S:=S) (p:=p) (k:=k) (r:=r) ha hb hc
 rw[EL (by simp) (by simp)]
 simp[dT,h1]
end
section
variable{p k:Int}{r:List D}
theorem Av{w:Str}{xs:List D}{n:Nat}(hf:MD Fy (Sum.inr w)=some (.int (n:Int)))(h1:1≤xs.length)(hl:xs.length≠n):AV [(Cv p k r),(.tup (.str w::xs))] S=some ((.bl false),S):=by
 have e1:¬(((xs.length:Nat):Int)+1<2):=by omega
 have e2:(((n:Nat):Int)==((xs.length:Nat):Int))=false:=beq_eq_false_iff_ne.mpr (by omega)
 simp[AV,B3,St.Kd.isA,hf,e1,e2]
theorem CW{w:Str}(h:Tb (.str w)):AV [(Cv p k r),(.tup [.str w])] S=some ((.bl false),S):=by
 simp[AV,B3,St.Kd.isA]
theorem NR{w:Str}{xs:List D}(hf:MD Fy (Sum.inr w)=none)(h1:1≤xs.length):AV [(Cv p k r),(.tup (.str w::xs))] S=some ((.bl false),S):=by
 have e1:¬(((xs.length:Nat):Int)+1<2):=by omega
 have e2:((0:Int)==((xs.length:Nat):Int))=false:=beq_eq_false_iff_ne.mpr (by omega)
 simp[AV,B3,St.Kd.isA,hf,e1,e2]
theorem PF{x:D}{xs:List D}(h:Tb x)(hx:∀w,x≠.str w):AV [(Cv p k r),(.tup (x::xs))] S=some ((.bl false),S):=by
 obtain⟨kk,q1,q2,q3⟩:=h.ks (S:=S) hx
 simp[AV,B3,Om,q1,q2,q3]
 by_cases e1:(((xs.length:Nat):Int)+1<2)<;>simp[e1,q1,q2,q3]
theorem RN{w:Str}(h1:w≠ "bring")(h2:w≠ "pool")(h3:w≠ "swap")(h4:w≠ "trade")(h5:w≠ "spoil")(h6:w≠ "throw")(h7:w≠ "sell"):MD Fy (Sum.inr w)=none:=by
 have e:∀{u:Str},w≠u->¬((Sum.inr u:Key)=Sum.inr w):=fun h z=>h (Sum.inr.inj z).symm
 unfold Fy
 simp only[MD,if_neg (e h1),if_neg (e h2),if_neg (e h3),if_neg (e h4),if_neg (e h5),if_neg (e h6),if_neg (e h7)]
theorem SK {d : D} (h : Tb d) : AV [(Cv p k r), d] S = some ((.bl (DL p k d)), S) := by
  rcases h.kd (S:=S)with⟨ds,g,l,rfl⟩|⟨⟨kk,q1,q2⟩,q3,q4⟩
  · replace h := g
    match ds,h with
    | [],h=>simp[AV,B3,St.Kd.isA,DL]
    | x :: xs, h =>
      by_cases hx:∃w,x=.str w
      · obtain ⟨w, rfl⟩ := hx
        show AV _ _=some ((.bl (LC p k w xs)),_)
        have th:∀y∈xs,Tb y:=fun y hy=>h y (List.mem_cons_of_mem _ hy)
        unfold LC
        by_cases h1:w="bring"
        · subst h1
          rw[if_pos rfl]
          match xs,th with
          | [a,b,c],th=>exact Ou (th a (by simp)) (th b (by simp)) (th c (by simp))
          | [],_=>exact CW (by simpa using h (.str _) (by simp))
          | [_],_=>exact Av Lh (by simp) (by simp;try omega)
          | [_,_],_=>exact Av Lh (by simp) (by simp;try omega)
          |_::_::_::_::_,_=>exact Av Lh (by simp) (by simp;try omega)
        rw[if_neg h1]
        by_cases h2:w="pool"
        · subst h2
          rw[if_pos rfl]
          match xs,th with
          | [a,b],th=>exact QB (th a (by simp)) (th b (by simp))
          | [],_=>exact CW (by simpa using h (.str _) (by simp))
          | [_],_=>exact Av Qq (by simp) (by simp;try omega)
          |_::_::_::_,_=>exact Av Qq (by simp) (by simp;try omega)
        rw[if_neg h2]
        by_cases h3:w="swap"
        · subst h3
          rw[if_pos rfl]
          match xs,th with
          | [a,b,c,e],th=>exact QH (th a (by simp)) (th b (by simp)) (th c (by simp)) (th e (by simp))
          | [],_=>exact CW (by simpa using h (.str _) (by simp))
          | [_],_=>exact Av Kl (by simp) (by simp;try omega)
          | [_,_],_=>exact Av Kl (by simp) (by simp;try omega)
          | [_,_,_],_=>exact Av Kl (by simp) (by simp;try omega)
          |_::_::_::_::_::_,_=>exact Av Kl (by simp) (by simp;try omega)
        rw[if_neg h3]
        by_cases h4:w="trade"
        · subst h4
          rw[if_pos rfl]
          match xs,th with
          | [a,b,c,e,f],th=>exact OR (th a (by simp)) (th b (by simp)) (th c (by simp)) (th e (by simp)) (th f (by simp))
          | [],_=>exact CW (by simpa using h (.str _) (by simp))
          | [_],_=>exact Av HB (by simp) (by simp;try omega)
          | [_,_],_=>exact Av HB (by simp) (by simp;try omega)
          | [_,_,_],_=>exact Av HB (by simp) (by simp;try omega)
          | [_,_,_,_],_=>exact Av HB (by simp) (by simp;try omega)
          |_::_::_::_::_::_::_,_=>exact Av HB (by simp) (by simp;try omega)
        rw[if_neg h4]
        by_cases h5:w="spoil"
        · subst h5
          rw[if_pos rfl]
          match xs,th with
          | [a,b],th=>exact O6 (th a (by simp)) (th b (by simp))
          | [],_=>exact CW (by simpa using h (.str _) (by simp))
          | [_],_=>exact Av OX (by simp) (by simp;try omega)
          |_::_::_::_,_=>exact Av OX (by simp) (by simp;try omega)
        rw[if_neg h5]
        by_cases h6:w="throw"
        · subst h6
          rw[if_pos rfl]
          match xs,th with
          | [a,b,c],th=>exact O2 (th a (by simp)) (th b (by simp)) (th c (by simp))
          | [],_=>exact CW (by simpa using h (.str _) (by simp))
          | [_],_=>exact Av LW (by simp) (by simp;try omega)
          | [_,_],_=>exact Av LW (by simp) (by simp;try omega)
          |_::_::_::_::_,_=>exact Av LW (by simp) (by simp;try omega)
        rw[if_neg h6]
        by_cases h7:w="sell"
        · subst h7
          rw[if_pos rfl]
          match xs,th with
          | [a,b,c],th=>exact QC (th a (by simp)) (th b (by simp)) (th c (by simp))
          | [],_=>exact CW (by simpa using h (.str _) (by simp))
          | [_],_=>exact Av Nl (by simp) (by simp;try omega)
          | [_,_],_=>exact Av Nl (by simp) (by simp;try omega)
          |_::_::_::_::_,_=>exact Av Nl (by simp) (by simp;try omega)
        rw[if_neg h7]
        match xs with
        | []=>exact CW (h (.str w) (by simp))
        |y::ys=>exact NR (RN h1 h2 h3 h4 h5 h6 h7) (by simp)
      · have hx' : ∀ w, x ≠ .str w := fun w e => hx ⟨w, e⟩
        rw[PF (h x (by simp)) hx']
        have:DL p k (.tup (x::xs))=false:=by
          cases x<;>first|rfl|exact absurd rfl (hx' _)
        rw[this]
  · have z1 : (DL p k d) = false := by cases d <;> first | rfl | exact absurd rfl (q4 _)
    simp[AV,B3,q1,q2,q3,z1]
end
end
section
variable{S:Sto}
noncomputable def Yn:D->D->Bool
 | .int p,d=>Ct p d
 |_,_=>false
noncomputable def Cb:D->Bool
 | .tup [a,b,c,d,e,f]=>AM 1 4 a && (AM 1 5 b && (AM 1 20 c && (Yn a d && (AM 0 9 e && AM 0 9 f))))
 |_=>false
theorem T4 {x : D} (h : Tb x) : C6 [x] S = some (.bl (Cb x), S) := by
  have t:=FV (S:=S) h 6
  rcases h.kd (S:=S)with⟨ds,g,l,rfl⟩|⟨⟨kk,q1,q2⟩,q3,q4⟩
  · replace h := g
    by_cases hl:ds.length=6
    · match ds, hl, h with
      | [a,b,c,d,e,f],_,h=>
        have k1:=DC (S:=S) (h a (by simp)) 1 4
        have k2:=DC (S:=S) (h b (by simp)) 1 5
        have k3:=DC (S:=S) (h c (by simp)) 1 20
        have k5:=DC (S:=S) (h e (by simp)) 0 9
        have k6:=DC (S:=S) (h f (by simp)) 0 9
        cases c1:AM 1 4 a with
        |false=>simp[C6,EZ,t,Bn,k1,c1,Cb]
        | true =>
          obtain⟨p,rfl⟩:=CV c1
          have hp:p≤4:=by simp[AM]at c1;exact c1.2
          have k4:=M9 (S:=S) (h d (by simp)) p (by omega)
          cases c2:AM 1 5 b<;>cases c3:AM 1 20 c<;>cases c4:Ct p d<;>cases c5:AM 0 9 e<;>simp[C6,EZ,t,Bn,k1,k2,k3,k4,k5,k6,c1,c2,c3,c4,c5,Cb,Yn]
    · have z1 : Cb (.tup ds) = false := by
        unfold Cb
        split
        · rename_i e
          cases e
          exact absurd rfl hl
        ·rfl
      have z2:Bn 6 (.tup ds)=false:=decide_eq_false (by omega)
      simp[C6,EZ,t,z1,z2]
  · have z1 : (Cb x) = false := by cases x <;> first | rfl | exact absurd rfl (q4 _)
    have z2:Bn 6 x=false:=by cases x<;>first|rfl|exact absurd rfl (q4 _)
    simp[C6,EZ,t,z2,q1,q2,q3,z1]
theorem Rk {x : D} (h : Tb x) : CA [x] S = some (.bl (Cb x), S) := by
  rcases h.kd (S:=S)with⟨ds,g,l,rfl⟩|⟨⟨kk,q1,q2⟩,q3,q4⟩
  · replace h := g
    by_cases hl:ds.length=6
    · match ds, hl, h with
      | [a,b,c,d,e,f],_,h=>
        have k1:=BO (S:=S) (h a (by simp)) 1 4
        have k2:=BO (S:=S) (h b (by simp)) 1 5
        have k3:=BO (S:=S) (h c (by simp)) 1 20
        have k5:=BO (S:=S) (h e (by simp)) 0 9
        have k6:=BO (S:=S) (h f (by simp)) 0 9
        cases c1:AM 1 4 a with
        |false=>simp[CA,DR,St.Kd.isA,k1,c1,Cb]
        | true =>
          obtain⟨p,rfl⟩:=CV c1
          have hp:p≤4:=by simp[AM]at c1;exact c1.2
          have k4:=Lf (S:=S) (h d (by simp)) p (by omega)
          cases c2:AM 1 5 b<;>cases c3:AM 1 20 c<;>cases c4:Ct p d<;>cases c5:AM 0 9 e<;>simp[CA,DR,St.Kd.isA,k1,k2,k3,k4,k5,k6,c1,c2,c3,c4,c5,Cb,Yn]
    · have z1 : Cb (.tup ds) = false := by
        unfold Cb
        split
        · rename_i e
          cases e
          exact absurd rfl hl
        ·rfl
      have z2:((ds.length:Int)==6)=false:=beq_eq_false_iff_ne.mpr (by omega)
      simp[CA,DR,St.Kd.isA,z1,z2]
  · have z1 : (Cb x) = false := by cases x <;> first | rfl | exact absurd rfl (q4 _)
    simp[CA,DR,q1,q2,q3,z1]
theorem Oe{x:D}(h:Cb x=true):∃p k r,x=Cv p k r/\p≤4:=by
 unfold Cb at h
 split at h
 ·rename_i a b c d e f
  simp only[Bool.and_eq_true]at h
  obtain⟨p,rfl⟩:=CV h.1
  obtain⟨k,rfl⟩:=CV h.2.1
  have:p≤4:=by have:=h.1;simp[AM]at this;exact this.2
  exact⟨p,k,_,rfl,this⟩
 ·cases h
noncomputable def NN:D->Bool
 | .tup [_,.int n,_]=>decide (0<n)
 |_=>false
theorem Pk{p k:Int}{x:D}(h:DF p k x=true):∃a n c,x=.tup [a,.int n,c]:=by
 unfold DF at h
 split at h
 ·rename_i a b c
  simp only[Bool.and_eq_true]at h
  obtain⟨n,rfl⟩:=EM h.2.1
  exact⟨a,n,c,rfl⟩
 ·cases h
theorem Te{F:Fn}{p k:Int}{r:List D}{T:D}(hF:∀{d:D},Tb d->F [T,d] S=some (.bl (DF p k d),S)){ds:List D}(h:∀d∈ds,Tb d)(hl:ds.length≤1000):Bg [] (tNm 1) Bx (C8 (AJ F [(eV 0),(eV 1)]) (eOp (o2 wGt) [(eOp (o2 wIx) [(eV 1),(eC (.int 1))]),(eC (.int 0))])) ds [] [some T,none] S=some (ds.map fun d=>.bl (DF p k d && NN d),S):=by
  have := comp_map (gs := []) (t := tNm 1) (f := C8 (AJ F [(eV 0), (eV 1)]) (eOp (o2 wGt) [(eOp (o2 wIx) [(eV 1), (eC (.int 1))]), (eC (.int 0))])) (C := [some T]) (m := 1) (g := fun d => .bl (DF p k d && NN d)) (S := S) BU (ds := ds) (acc := []) (os := [none]) rfl (AO (by simpa using hl)) (by
    intro d hd os ho
    match os,ho with
    | [a],_=>
    refine⟨[some d],rfl,by simp,?_⟩
    have e:=hF (h d hd)
    cases c:DF p k d with
    |false=>rw[c]at e;simp[e]
    | true =>
      rw[c]at e
      obtain⟨x,n,z,rfl⟩:=Pk c
      simp[e,NN])
  simpa using this
noncomputable def Dj(p k:Int):D->Bool
 | .tup ds=>decide (ds.length≤4) && ds.all fun d=>DF p k d && NN d
 |_=>false
theorem Su{p k:Int}{r:List D}{x:D}(h:Tb x)(hp:p≤20):DA [Cv p k r,x] S=some (.bl (Dj p k x),S):=by
 have hk:dr S EY=.val (.int 4):=rfl
 rcases h.kd (S:=S)with⟨ds,g,l,rfl⟩|⟨⟨kk,q1,q2⟩,q3,q4⟩
 ·replace h:=g
  have e:=Te (S:=S) (F:=Df) (p:=p) (k:=k) (r:=r) (T:=Cv p k r) (fun hd=>W2 hd hp) h l
  have b:=Gi (fun d=>DF p k d && NN d) ds
  have am:=E8 (fun d=>DF p k d && NN d) ds
  by_cases c:ds.length≤4
  ·have c':¬(4:Int)<ds.length:=by omega
   simp[DA,Ew,St.Kd.isA,hk,c,c',P5,e,b,am,Dj]
  ·have c':(4:Int)<ds.length:=by omega
   simp[DA,Ew,St.Kd.isA,hk,c,c',Dj]
 ·have z1:(Dj p k x)=false:=by cases x<;>first|rfl|exact absurd rfl (q4 _)
  simp[DA,Ew,q1,q2,q3,z1]
noncomputable def RE:D->Bool
 | .tup (.str w::_)=>decide (w="throw")
 |_=>false
noncomputable def Oq:List Str:=["bring","pool","swap","trade","spoil","throw","sell"]
theorem RW{p k:Int}{w:Str}{xs:List D}(h:LC p k w xs=true):w∈Oq:=by
 unfold LC at h
 simp only[Oq,List.mem_cons,List.not_mem_nil,or_false]
 by_cases h1:w="bring"; ·exact .inl h1
 rw[if_neg h1]at h
 by_cases h2:w="pool"; ·exact .inr (.inl h2)
 rw[if_neg h2]at h
 by_cases h3:w="swap"; ·exact .inr (.inr (.inl h3))
 rw[if_neg h3]at h
 by_cases h4:w="trade"; ·exact .inr (.inr (.inr (.inl h4)))
 rw[if_neg h4]at h
 by_cases h5:w="spoil"; ·exact .inr (.inr (.inr (.inr (.inl h5))))
 rw[if_neg h5]at h
 by_cases h6:w="throw"; ·exact .inr (.inr (.inr (.inr (.inr (.inl h6)))))
 rw[if_neg h6]at h
 by_cases h7:w="sell"; ·exact .inr (.inr (.inr (.inr (.inr (.inr h7)))))
 rw[if_neg h7]at h
 cases h
theorem Ri{p k:Int}{x:D}(h:DL p k x=true):∃w xs,x=.tup (.str w::xs)/\w∈Oq:=by
 unfold DL at h
 split at h
 ·exact⟨_,_,rfl,RW h⟩
 ·cases h
theorem Yr{w:Str}(h:w∈Oq):wEq (.val (.str w)) (.val (.str "throw"))=some (.val (.bl (decide (w="throw")))):=by
 have ok:∀{u:Str},PyData.strOk u=true->B2 (.str u) (.str (Str.ofString "throw"))=true:=fun hu=>Am hu Ea
 simp only[Oq,List.mem_cons,List.not_mem_nil,or_false]at h
 rcases h with rfl|rfl|rfl|rfl|rfl|rfl|rfl
 ·rw[Ha,GL,GL,if_pos (ok B6)];rfl
 ·rw[Ha,GL,GL,if_pos (ok Cs)];rfl
 ·rw[Ha,GL,GL,if_pos (ok Gh)];rfl
 ·rw[Ha,GL,GL,if_pos (ok B4)];rfl
 ·rw[Ha,GL,GL,if_pos (ok B5)];rfl
 ·rw[Ha,GL,if_pos (ok Ea)];rfl
 ·rw[Ha,GL,GL,if_pos (ok Cr)];rfl
theorem cm{p k:Int}{ds:List D}(h:ds.all (DL p k)=true)(hl:ds.length≤1000):Bg [] (tNm 0) (eOp (o2 wEq) [(eOp (o2 wIx) [(eV 0),(eC (.int 0))]),(eC (.str "throw"))]) (eV 0) ds [] [none] S=some (ds.filter RE,S):=by
 have:=IX (gs:=[]) (t:=tNm 0) (c:=eOp (o2 wEq) [(eOp (o2 wIx) [(eV 0),(eC (.int 0))]),(eC (.str "throw"))]) (f:=eV 0) (C:=[]) (m:=1) (b:=RE) (g:=fun d=>d) (S:=S) BU (ds:=ds) (acc:=[]) (os:=[none]) rfl (AO (by simpa using hl)) (by
  intro d hd os ho
  match os,ho with
  | [a],_=>
  obtain⟨w,xs,rfl,hw⟩:=Ri (List.all_eq_true.mp h d hd)
  have e:=Yr hw
  refine⟨[some (.tup (.str w::xs))],rfl,by simp,?_,by simp⟩
  simp[-Ha,e,RE])
 simpa using this
theorem Xv{F:Fn}{p k:Int}{T:D}(hF:∀{d:D},Tb d->F [T,d] S=some (.bl (DL p k d),S)){ds:List D}(h:∀d∈ds,Tb d)(hl:ds.length≤1000):Bg [] (tNm 1) Bx (AJ F [(eV 0),(eV 1)]) ds [] [some T,none] S=some (ds.map fun d=>.bl (DL p k d),S):=by
 have:=comp_map (gs:=[]) (t:=tNm 1) (f:=AJ F [(eV 0),(eV 1)]) (C:=[some T]) (m:=1) (g:=fun d=>.bl (DL p k d)) (S:=S) BU (ds:=ds) (acc:=[]) (os:=[none]) rfl (AO (by simpa using hl)) (by
  intro d hd os ho
  match os,ho with
  | [a],_=>
  refine⟨[some d],rfl,by simp,?_⟩
  have e:=hF (h d hd)
  simp[e])
 simpa using this
noncomputable def Dy(p k:Int):D->Bool
 | .tup ds=>decide (ds.length≤20) && (ds.all (DL p k) && decide ((ds.filter RE).length≤3))
 |_=>false
theorem Ue{p k:Int}{r:List D}{x:D}(h:Tb x):Cd [Cv p k r,x] S=some (.bl (Dy p k x),S):=by
  have hk:dr S Ef=.val (.int 20):=rfl
  have hk2:dr S Dx=.val (.int 3):=rfl
  rcases h.kd (S:=S)with⟨ds,g,l,rfl⟩|⟨⟨kk,q1,q2⟩,q3,q4⟩
  · replace h := g
    have e:=Xv (S:=S) (F:=An) (p:=p) (k:=k) (T:=Cv p k r) (fun hd=>Xj hd) h l
    have b:=Gi (DL p k) ds
    have am:=E8 (DL p k) ds
    by_cases c:ds.length≤20
    · have c' : ¬ (20 : Int) < ds.length := by omega
      cases s:ds.all (DL p k)with
      | true =>
        have tc:=cm (S:=S) s l
        have ed:(decide (((ds.filter RE).length:Int)≤3))=decide ((ds.filter RE).length≤3):=decide_eq_decide.mpr (by omega)
        simp[Cd,D7,St.Kd.isA,hk,hk2,c,c',P5,e,b,am,s,tc,Dy]
        omega
      |false=>simp[Cd,D7,St.Kd.isA,hk,c,c',P5,e,b,am,s,Dy]
    · have c' : (20 : Int) < ds.length := by omega
      simp[Cd,D7,St.Kd.isA,hk,c,c',Dy]
  · have z1 : (Dy p k x) = false := by cases x <;> first | rfl | exact absurd rfl (q4 _)
    simp[Cd,D7,q1,q2,q3,z1]
noncomputable def G6:D->Bool
 | .tup [t,f,d]=>Cb t && (match t with| .tup (.int p:: .int k::_)=>Dj p k f && Dy p k d|_=>false)
 |_=>false
theorem WD {x : D} (h : Tb x) : C5 [x] S = some (.bl (G6 x), S) := by
  have t:=FV (S:=S) h 3
  rcases h.kd (S:=S)with⟨ds,g,l,rfl⟩|⟨⟨kk,q1,q2⟩,q3,q4⟩
  · replace h := g
    by_cases hl:ds.length=3
    · match ds, hl, h with
      | [a, b, c], _, h =>
        have k1:=T4 (S:=S) (h a (by simp))
        cases c1:Cb a with
        |false=>simp[C5,Fg,t,Bn,k1,c1,G6]
        | true =>
          obtain⟨p,k,r,rfl,hp⟩:=Oe c1
          have k2:=Su (S:=S) (p:=p) (k:=k) (r:=r) (h b (by simp)) (by omega)
          have k3:=Ue (S:=S) (p:=p) (k:=k) (r:=r) (h c (by simp))
          have eb:G6 (.tup [Cv p k r,b,c])=(Dj p k b && Dy p k c):=by
            show(Cb (Cv p k r) && (Dj p k b && Dy p k c))=_
            rw[c1];rfl
          rw[eb]
          generalize Cv p k r=T at*
          cases c2:Dj p k b<;>simp[C5,Fg,t,Bn,k1,c1,k2,c2,k3]
    · have z1 : G6 (.tup ds) = false := by
        unfold G6
        split
        · rename_i e
          cases e
          exact absurd rfl hl
        ·rfl
      have z2:Bn 3 (.tup ds)=false:=decide_eq_false (by omega)
      simp[C5,Fg,t,z1,z2]
  · have z1 : (G6 x) = false := by cases x <;> first | rfl | exact absurd rfl (q4 _)
    have z2:Bn 3 x=false:=by cases x<;>first|rfl|exact absurd rfl (q4 _)
    simp[C5,Fg,t,z2,q1,q2,q3,z1]
end
section
variable{S:Sto}
theorem RL {x : D} (h : Tb x) : BL [x] S = some (.bl (G6 x), S) := by
  rcases h.kd (S:=S)with⟨ds,g,l,rfl⟩|⟨⟨kk,q1,q2⟩,q3,q4⟩
  · replace h := g
    by_cases hl:ds.length=3
    · match ds, hl, h with
      | [a, b, c], _, h =>
        have k1:=Rk (S:=S) (h a (by simp))
        cases c1:Cb a with
        |false=>simp[BL,CB,St.Kd.isA,k1,c1,G6]
        | true =>
          obtain⟨p,k,r,rfl,hp⟩:=Oe c1
          have eb:G6 (.tup [Cv p k r,b,c])=(Dj p k b && Dy p k c):=by
            show(Cb (Cv p k r) && (Dj p k b && Dy p k c))=_
            rw[c1];rfl
          rw[eb]
          rw[c1]at k1
          have hb:=h b (by simp)
          have hc:=h c (by simp)
          have T1:=fun{d:D} (hd:Tb d)=>SA (S:=S) (p:=p) (k:=k) (r:=r) hd (by omega)
          have T2:=fun{d:D} (hd:Tb d)=>SK (S:=S) (p:=p) (k:=k) (r:=r) hd
          generalize Cv p k r=T at*
          rcases hb.kd (S:=S)with⟨fs,hf,lf,rfl⟩|⟨⟨kk,q1,q2⟩,q3,q4⟩
          · rcases hc.kd (S := S) with ⟨es, he, le, rfl⟩ | ⟨⟨kk, q1, q2⟩, q3, q4⟩
            · have e1 := Te (S := S) (F := Cg) (p := p) (k := k) (r := r) (T := T) T1 hf lf
              have b1:=Gi (fun d=>DF p k d && NN d) fs
              have a1:=E8 (fun d=>DF p k d && NN d) fs
              have e2:=Xv (S:=S) (F:=AV) (p:=p) (k:=k) (T:=T) T2 he le
              have b2:=Gi (DL p k) es
              have a2:=E8 (DL p k) es
              simp[BL,CB,St.Kd.isA,k1]
              by_cases l1:fs.length≤4
              · have l1' : ¬ (4 : Int) < fs.length := by omega
                simp[l1']
                by_cases l2:es.length≤20
                · have l2' : ¬ (20 : Int) < es.length := by omega
                  simp[l2',e1,b1,a1]
                  cases s1:fs.all (fun d=>DF p k d && NN d)with
                  |false=>simp[s1,Dj]
                  | true =>
                    simp[e2,b2,a2]
                    cases s2:es.all (DL p k)with
                    |false=>simp[s1,s2,Dj,Dy]
                    | true =>
                      have tc:=cm (S:=S) s2 le
                      simp[s1,s2,tc,l1,l2,Dj,Dy]
                      omega
                · have l2' : (20 : Int) < es.length := by omega
                  simp[l2',l2,Dy]
              · have l1' : (4 : Int) < fs.length := by omega
                simp[l1',l1,Dj]
            · have z1 : Dy p k c = false := by cases c <;> first | rfl | exact absurd rfl (q4 _)
              simp[BL,CB,Om,k1,q1,q2,q3,z1]
          · have z1 : Dj p k b = false := by cases b <;> first | rfl | exact absurd rfl (q4 _)
            simp[BL,CB,Om,k1,q1,q2,q3,z1]
    · have z1 : G6 (.tup ds) = false := by
        unfold G6
        split
        · rename_i e
          cases e
          exact absurd rfl hl
        ·rfl
      have z2:((ds.length:Int)==3)=false:=beq_eq_false_iff_ne.mpr (by omega)
      simp[BL,CB,St.Kd.isA,z1,z2]
  · have z1 : (G6 x) = false := by cases x <;> first | rfl | exact absurd rfl (q4 _)
    simp[BL,CB,q1,q2,q3,z1]
end
section
variable{S:Sto}{p:Nat}
theorem P6{n:Nat}:BC (n+1)=A6 (BA 4 (IU (BC n))):=rfl
noncomputable def Ju:List D:=[.non,.bl true,.bl false,.int 0,.int 1,.int (-1),.int 9,.int (10^39),.str "",.str "a",.tup [],.lst []]
theorem Q1:∀x∈Ju,Tb x:=by
 intro x hx
 simp only[Ju,List.mem_cons,List.not_mem_nil,or_false]at hx
 rcases hx with rfl|rfl|rfl|rfl|rfl|rfl|rfl|rfl|rfl|rfl|rfl|rfl
 ·exact .non
 ·exact .bl _
 ·exact .bl _
 ·exact .int (by decide)
 ·exact .int (by decide)
 ·exact .int (by decide)
 ·exact .int (by decide)
 ·exact .int (by decide)
 ·exact .str _
 ·exact .str _
 ·exact .tup (fun d hd=>by cases hd) (by decide)
 ·exact .lst (fun d hd=>by cases hd) (by decide)
def QL:Ev:=(Hj [(eC .non),(eC (.bl true)),(eC (.bl false)),(eC (.int 0)),(eC (.int 1)),(eOp (o1 Pw) [(eC (.int 1))]),(eC (.int 9)),(eOp (o2 ZV) [(eC (.int 10)),(eC (.int 39))]),(eC (.str "")),(eC (.str "a")),(BD []),(Hj [])])
theorem Rg{E:En}:QL E S=some (.lst Ju,S):=by
 have n1:Pw (.val (.int 1))=some (.val (.int (-1))):=rfl
 have p1:ZV (.val (.int 10)) (.val (.int 39))=some (.val (.int (10^39))):=by with_unfolding_all rfl
 have sz:(12:Nat)≤sizeLine:=AO (by decide)
 simp[QL,n1,p1,Ju,sz]
theorem HV : ∀ {n d : Nat}, d < n -> ∀ {S : Sto}, DX p S -> ∃ X S', BC n [.ref p, .int d] S = some (X, S') /\ Tb X /\ Pn p S S'
  |0,d,h,_,_=>absurd h (by omega)
  | n + 1, d, h, S, hp => by
    obtain⟨way,S1,e1,w0,w1,p1⟩:=Ap hp (n:=12) (by decide) (by decide)
    rw[P6]
    have eb:IU (BC n)=(Ai (CF 2 (AJ AI [(eV 0),(eC (.int 12))]))
    (Ai (xIf (eOr (eOp (o2 wLt) [(eV 2),(eC (.int 8))]) (eOp (o2 wEq) [(eV 1),(eC (.int 0))])) (A3 (eOp (o2 wIx) [QL,(AJ AI [(eV 0),(eC (.int 12))])])) CJ)
    (Ai (CF 3 (C4 [0,1] 1 (PY [(AJ AI [(eV 0),(eC (.int 4))])]) (tNm 2) Bx (AJ (BC n) [(eV 0),(eOp (o2 JU) [(eV 1),(eC (.int 1))])])))
    (Ai (xIf (eOp (o2 wEq) [(eV 2),(eC (.int 8))]) (A3 (eV 3)) CJ)
    (Ai (xIf (eOp (o2 wEq) [(eV 2),(eC (.int 9))]) (A3 (Vx [((eC (.str "a")),(eV 3))])) CJ)
    (A3 (eOp (o1 Fq) [(eV 3)]))))))):=rfl
    rw[eb]
    by_cases c:way<8∨d=0
    · obtain ⟨r, S2, e2, r0, r1, p2⟩ := Ap p1.pen (n := 12) (by decide) (by decide)
      obtain⟨x,ax,hx⟩:=pick (xs:=Ju) r0 (by simpa[Ju]using r1)
      refine⟨x,S2,?_,Q1 x hx,p1.trans p2⟩
      have k:=fun E=>Rg (S:=S1) (E:=E)
      rcases Decidable.em (way<8)with c1|c1
      ·simp[e1,c1,k,e2,ax]
      · have c2 : d = 0 := c.resolve_left c1
        subst c2
        simp[e1,c1,k,e2,ax]
    · have c1 : ¬ way < 8 := fun z => c (.inl z)
      have c2:¬d=0:=fun z=>c (.inr z)
      obtain⟨r,S2,e2,r0,r1,p2⟩:=Ap p1.pen (n:=4) (by decide) (by decide)
      obtain⟨k,rfl⟩:=G5 r0
      have rk:Ja (k:Int)=true:=E5 (by omega) (by omega)
      obtain⟨ys,S3,e3,i3,l3,r3⟩:=Hq (gs:=[]) (t:=tNm 2) (f:=AJ (BC n) [(eV 0),(eOp (o2 JU) [(eV 1),(eC (.int 1))])]) (C:=[some (.ref p),some (.int d)]) (m:=1) (I:=fun T=>Pn p S2 T) (R:=fun _ y=>Tb y) (fun _ _=>BU) (ds:=Kw 0 k) (acc:=[]) (os:=[none]) (S:=S2) rfl (.refl p2.pen) (AO (by simp[EV];omega)) (by
        intro dd hd os T ho hI
        match os,ho with
        | [a],_=>
        obtain⟨X,T',ex,hX,hP⟩:=HV (n:=n) (d:=d-1) (by omega) hI.pen
        refine⟨[some dd],X,T',rfl,by simp,?_,hI.trans hP,hX⟩
        have ec:(d:Int)-1=((d-1:Nat):Int):=by omega
        simp[ec,ex])
      have th:=FH r3
      have ly:ys.length≤1000:=by rw[l3,EV];omega
      have pn:=(p1.trans p2).trans i3
      simp only[List.nil_append,List.cons_append]at e3
      have c2':((d:Int)==0)=false:=by simpa using c2
      have tn:(k:Int).toNat=k:=by omega
      by_cases w8:way=8
      · subst w8
        refine⟨.lst ys,S3,?_,.lst th ly,pn⟩
        simp[e1,c2',e2,rk,P5,e3,tn]
      · have w8' : (way == 8) = false := by simpa using w8
        by_cases w9:way=9
        · subst w9
          refine⟨.dct (Lr [] [(.inr "a",.lst ys)]),S3,?_,.dct _,pn⟩
          simp[e1,c2',e2,rk,P5,e3,tn]
        · have w9' : (way == 9) = false := by simpa using w9
          refine⟨.tup ys,S3,?_,.tup th ly,pn⟩
          simp[e1,c1,c2',e2,rk,P5,e3,tn,w8',w9']
inductive Sd:Nat->D->Prop
 |int {n:Nat} {i:Int} (h:i.natAbs<2^155):Sd n (.int i)
 |str {n:Nat} {x:Str} (h:x.length≤1000) (u:(Txt.upper x).length≤1000) (o:PyData.strOk x=true):Sd n (.str x)
 |tup {n:Nat} {ds:List D} (h:∀d∈ds,Sd n d) (l:ds.length≤100):Sd (n+1) (.tup ds)
theorem Sd.tb:∀{n:Nat} {d:D},Sd n d->Tb d
 |_,_,.int h=>.int (Nat.lt_of_lt_of_le h (Nat.pow_le_pow_right (by decide) (by decide)))
 |_,_,.str _ _ _=>.str _
 |_,_,.tup h l=>.tup (fun d hd=>Sd.tb (h d hd)) (by omega)
theorem Sd.lay:∀{n:Nat} {d:D},Sd n d->d.lay=true
  |_,_,.int h=>rfl
  |_,_,.str _ _ o=>o
  | _, _, .tup (ds := ds) h l => by
    show D.lays ds=true
    have:=N3 (f:=id) (xs:=ds) fun d hd=>Sd.lay (h d hd)
    simpa using this
theorem Sd.up:∀{n m:Nat} {d:D},Sd n d->n≤m->Sd m d
  |_,_,_,.int h,_=>.int h
  |_,_,_,.str a b c,_=>.str a b c
  | n + 1, m, _, .tup h l, hm => by
    obtain⟨m',rfl⟩:∃m',m=m'+1:=⟨m-1,by omega⟩
    exact .tup (fun d hd=>(h d hd).up (by omega)) l
theorem Kr{α:Type}{xs:List α}{lo hi:Option Int}{x:α}(h:x∈JW xs lo hi):x∈xs:=by
 unfold JW at h
 exact List.mem_of_mem_drop (List.mem_of_mem_take h)
theorem F3{α:Type}{xs:List α}{lo hi:Option Int}:(JW xs lo hi).length≤xs.length:=by
 unfold JW
 rw[List.length_take,List.length_drop]
 omega
theorem XB{xs:List D}{x:D}(h:x∈RB xs):x∈xs:=by
 unfold RB at h
 obtain⟨k,_,hk⟩:=List.mem_filterMap.mp h
 exact List.mem_of_getElem? hk
theorem Xf{xs:List D}:(RB xs).length≤xs.length:=by
 unfold RB
 refine Nat.le_trans (List.length_filterMap_le _ _) ?_
 rw[List.length_range]
 exact Nat.le_refl _
@[simp] theorem bT{xs:List D}:bF (.val (.tup xs))=some (.val (.tup (RB xs))):=nr rfl
@[simp] theorem eL{z:Str}:wUp (.val (.str z))=if(Txt.upper z).length≤sizeLine then some (.val (.str (Txt.upper z)))else none:=nr rfl
@[simp] theorem eJ{z:Str}{lo hi:Option Int}:wSl lo hi (.val (.str z))=if z.length≤sizeLine then some (.val (.str (Txt.slice z lo hi)))else none:=nr rfl
@[simp] theorem cN{i:Int}:bB (.val (.int i))=if i.natAbs.log2<1920 then some (.val (.str (toString i)))else none:=nr rfl
@[simp] theorem jd:(Str.ofString "a").length=1:=nr rfl
@[simp] theorem ji:(Str.ofString "1").length=1:=nr rfl
theorem TN{ds:List D}(h:D.lays ds=true):B2 (.tup ds) (.tup [])=true:=by
 unfold B2
 show(D.lays ds && true && decide (min (D.tup ds).py.depth (D.tup []).py.depth≤60))=true
 rw[h]
 have:(D.tup []).py.depth≤60:=by decide
 rw[decide_eq_true (by omega)]
 rfl
theorem W6{ds:List D}:deq (.tup ds) (.tup [])=ds.isEmpty:=by
 cases ds<;>rfl
theorem Q2{i:Int}(h:i.natAbs<2^155):i.natAbs.log2<1920:=by
 by_cases h0:i.natAbs=0
 ·rw[h0];decide
 ·exact Nat.lt_trans ((Nat.log2_lt h0).mpr h) (by decide)
theorem iD{r:Int}(h0:0≤r)(h1:r<4):r=0∨r=1∨r=2∨r=3:=by omega
theorem Zy{xs ys:List D}(hx:∀d∈xs,Tb d)(hy:∀d∈ys,Tb d)(l:xs.length+ys.length≤1000):Tb (.tup (xs++ys)):=.tup (fun d hd=>(List.mem_append.mp hd).elim (hx d) (hy d)) (by simpa using l)
theorem V6{n:Nat}:Ba (n+1)=A6 (BA 4 (Ed (Ba n))):=rfl
def spT:Ex:=(Ai (CF 3 (AJ AI [(eV 0),(eC (.int 8))]))
  (Ai (xIf (C8 (eOp (o2 Hh) [(eV 1),(eC (.ty "tuple"))]) (eOp (o2 wLt) [(eV 3),(eC (.int 4))])) (A3 (eOp (o2 wIx) [(Hj [(eOp (o2 B9) [(eV 1),(eOp (J6 true false) [(eV 1),(eOp (o1 Pw) [(eC (.int 1))])])]),(eOp (J6 false true) [(eV 1),(eOp (o1 Pw) [(eC (.int 1))])]),(eOp (o1 Ia) [(eV 1)]),(eOp (o1 bF) [(eV 1)])]),(eV 3)])) CJ)
  (Ai (xIf (C8 (eOp (o2 Hh) [(eV 1),(eC (.ty "int"))]) (eOp (o2 wLt) [(eV 3),(eC (.int 4))])) (A3 (eOp (o2 wIx) [(Hj [(eOp (o2 B9) [(eV 1),(eC (.int 1))]),(eOp (o2 JU) [(eV 1),(eC (.int 1))]),(eOp (o2 wGt) [(eV 1),(eC (.int 0))]),(eOp (o1 bB) [(eV 1)])]),(eV 3)])) CJ)
  (Ai (xIf (C8 (eOp (o2 Hh) [(eV 1),(eC (.ty "str"))]) (eOp (o2 wLt) [(eV 3),(eC (.int 4))])) (A3 (eOp (o2 wIx) [(Hj [(eOp (o2 B9) [(eV 1),(eC (.str "a"))]),(eOp (o1 wUp) [(eV 1)]),(eOp (J6 false true) [(eV 1),(eOp (o1 Pw) [(eC (.int 1))])]),(eOp (o2 B9) [(eC (.str "1")),(eV 1)])]),(eV 3)])) CJ)
  (A3 (AJ (BC 8) [(eV 0),(eC (.int 2))]))))))
theorem K3{rec:Fn}:Ed rec=(Ai (xIf (C8 (eOp (o2 Hh) [(eV 1),(eC (.ty "tuple"))]) (C8 (eOp (o2 wNe) [(eV 1),(BD [])]) (eOp (o2 wGt) [(AJ AI [(eV 0),(eC (.int 6))]),(eC (.int 0))]))) (Ai (CF 2 (AJ AI [(eV 0),(eOp (o1 GC) [(eV 1)])]))
  (A3 (eOp (o2 B9) [(eOp (o2 B9) [(eOp (J6 false true) [(eV 1),(eV 2)]),(BD [(AJ rec [(eV 0),(eOp (o2 wIx) [(eV 1),(eV 2)])])])]),(eOp (J6 true false) [(eV 1),(eOp (o2 B9) [(eV 2),(eC (.int 1))])])]))) CJ)
  spT):=rfl
theorem J5 : ∀ (N k : Nat) {d : D} {S : Sto}, k < N -> Sd k d -> DX p S -> ∃ X S', Ba N [.ref p, d] S = some (X, S') /\ Tb X /\ Pn p S S'
  |0,k,d,S,h,_,_=>absurd h (Nat.not_lt_zero _)
  | N + 1, k, d, S, hk, sd, h => by
    have rest:∀{T:Sto},DX p T->∃X T',BC 8 [.ref p,.int 2] T=some (X,T')/\Tb X/\Pn p T T':=fun hq=>HV (n:=8) (d:=2) (by decide) hq
    have hl:=sd.lay
    have s4:(4:Nat)≤sizeLine:=AO (by decide)
    have n1:Pw (.val (.int 1))=some (.val (.int (-1))):=rfl
    rw[V6]
    cases sd with
    | @int _ i hi=>
      obtain⟨r1,S1,e1,a1,b1,p1⟩:=Ap h (n:=8) (by decide) (by decide)
      by_cases c:r1<4
      · have lg := Q2 hi
        have q:(atI [D.int (i+1),.int (i-1),.bl (decide (0<i)),.str (toString i)] r1).map (fun x=>(x,S1))=A6 (BA 4 (Ed (Ba N))) [.ref p,.int i] S:=by
          simp[K3,spT,St.Kd.isA,e1,c,lg,s4]
          generalize atI _ r1=o
          cases o<;>rfl
        rcases iD a1 c with rfl|rfl|rfl|rfl
        ·exact⟨.int (i+1),S1,q.symm,.int (Nat.lt_of_lt_of_le (show(i+1).natAbs<2^156 by omega) (Nat.pow_le_pow_right (by decide) (by decide))),p1⟩
        ·exact⟨.int (i-1),S1,q.symm,.int (Nat.lt_of_lt_of_le (show(i-1).natAbs<2^156 by omega) (Nat.pow_le_pow_right (by decide) (by decide))),p1⟩
        ·exact⟨.bl (decide (0<i)),S1,q.symm,.bl _,p1⟩
        ·exact⟨.str (toString i),S1,q.symm,.str _,p1⟩
      · obtain ⟨w, q', ew, tw, pw⟩ := rest p1.pen
        exact⟨w,q',by simp[K3,spT,St.Kd.isA,e1,c,ew],tw,p1.trans pw⟩
    | @str _ x hx ux _=>
      obtain⟨r1,S1,e1,a1,b1,p1⟩:=Ap h (n:=8) (by decide) (by decide)
      by_cases c:r1<4
      · have s1 : x.length + 1 ≤ sizeLine := Nat.le_trans (show x.length + 1 ≤ 1001 by omega) (by decide)
        have s2:(Txt.upper x).length≤sizeLine:=AO ux
        have s3:x.length≤sizeLine:=AO hx
        have s5:1+x.length≤sizeLine:=by omega
        have q:(atI [D.str (x++(Str.ofString "a")),.str (Txt.upper x),.str (Txt.slice x none (some (-1))),.str ((Str.ofString "1")++x)] r1).map (fun x=>(x,S1))=A6 (BA 4 (Ed (Ba N))) [.ref p,.str x] S:=by
          simp[K3,spT,St.Kd.isA,e1,c,s1,s2,s3,s4,s5,n1]
          generalize atI _ r1=o
          cases o<;>rfl
        rcases iD a1 c with rfl|rfl|rfl|rfl
        ·exact⟨.str (x++(Str.ofString "a")),S1,q.symm,.str _,p1⟩
        ·exact⟨.str (Txt.upper x),S1,q.symm,.str _,p1⟩
        ·exact⟨.str (Txt.slice x none (some (-1))),S1,q.symm,.str _,p1⟩
        ·exact⟨.str ((Str.ofString "1")++x),S1,q.symm,.str _,p1⟩
      · obtain ⟨w, q', ew, tw, pw⟩ := rest p1.pen
        exact⟨w,q',by simp[K3,spT,St.Kd.isA,e1,c,ew],tw,p1.trans pw⟩
    | @tup k' xs hx lx=>
      have tx:∀d∈xs,Tb d:=fun d hd=>(hx d hd).tb
      have ways:∀{T:Sto},DX p T->∃X T' r,AI [.ref p,.int 8] T=some (.int r,T')/\Pn p T T'/\Tb X/\((r<4/\atI [D.tup (xs++JW xs (some (-1)) none),.tup (JW xs none (some (-1))),.lst xs,.tup (RB xs)] r=some X)∨(¬r<4/\∃T'',BC 8 [.ref p,.int 2] T'=some (X,T'')/\Pn p T' T'')):=by
        intro T hq
        obtain⟨r1,d1,e1,a1,b1,p1⟩:=Ap hq (n:=8) (by decide) (by decide)
        by_cases c:r1<4
        · rcases iD a1 c with rfl | rfl | rfl | rfl
          ·exact⟨_,d1,0,e1,p1,Zy tx (fun d hd=>tx d (Kr hd)) (by have:=F3 (xs:=xs) (lo:=some (-1)) (hi:=none);omega),.inl ⟨by decide,rfl⟩⟩
          ·exact⟨_,d1,1,e1,p1,.tup (fun d hd=>tx d (Kr hd)) (by have:=F3 (xs:=xs) (lo:=none) (hi:=some (-1));omega),.inl ⟨by decide,rfl⟩⟩
          ·exact⟨_,d1,2,e1,p1,.lst tx (by omega),.inl ⟨by decide,rfl⟩⟩
          ·exact⟨_,d1,3,e1,p1,.tup (fun d hd=>tx d (XB hd)) (by have:=Xf (xs:=xs);omega),.inl ⟨by decide,rfl⟩⟩
        · obtain ⟨w, q', ew, tw, pw⟩ := rest p1.pen
          exact⟨w,d1,r1,e1,p1,tw,.inr ⟨c,q',ew,pw⟩⟩
      have z1:xs.length+(JW xs (some (-1)) none).length≤sizeLine:=AO (by have:=F3 (xs:=xs) (lo:=some (-1)) (hi:=none);omega)
      have hlay:D.lays xs=true:=hl
      have eo:=TN hlay
      have en:=W6 (ds:=xs)
      have tl:∀{T:Sto},DX p T->∃X T',(spT [some (.ref p),some (.tup xs),none,none] T).map (fun r=>(flD r.1,r.2.2))=some (X,T')/\Tb X/\Pn p T T':=by
        intro T hq
        obtain⟨X,T',r,e1,p1,tw,alt⟩:=ways hq
        rcases alt with⟨c,ed⟩|⟨c,q'',ew,pw⟩
        ·exact⟨X,T',by simp[spT,St.Kd.isA,e1,c,z1,ed,s4,n1],tw,p1⟩
        ·exact⟨X,q'',by simp[spT,St.Kd.isA,e1,c,ew],tw,p1.trans pw⟩
      by_cases hemp:xs.isEmpty=true
      · obtain ⟨X, T', e1, tw, p1⟩ := tl h
        exact⟨X,T',by simp[K3,St.Kd.isA,eo,en,hemp,e1],tw,p1⟩
      · have hemp : xs.isEmpty = false := by simpa using hemp
        have hpos:0<xs.length:=by
          cases xs with
          |nil=>cases hemp
          |cons a b=>simp
        obtain⟨r0,S0,e0,a0,b0,p0⟩:=Ap h (n:=6) (by decide) (by decide)
        by_cases c0:0<r0
        · obtain ⟨r1, S1, e1, a1, b1, p1⟩ := Ap p0.pen (n := (xs.length : Int)) (by omega) (by omega)
          obtain⟨y,ey,hy⟩:=pick (xs:=xs) (r:=r1) a1 b1
          obtain⟨X,S2,ew,tw,pw⟩:=J5 N k' (by omega) (hx y hy) p1.pen
          have z2:(JW xs none (some r1)).length+1≤sizeLine:=AO (by have:=F3 (xs:=xs) (lo:=none) (hi:=some r1);omega)
          have z3:(JW xs none (some r1)).length+1+(JW xs (some (r1+1)) none).length≤sizeLine:=AO (by have:=F3 (xs:=xs) (lo:=none) (hi:=some r1);have:=F3 (xs:=xs) (lo:=some (r1+1)) (hi:=none);omega)
          have s1:(1:Nat)≤sizeLine:=AO (by decide)
          refine⟨.tup (JW xs none (some r1)++X::JW xs (some (r1+1)) none),S2,by simp[K3,St.Kd.isA,eo,en,hemp,e0,c0,e1,ey,ew,z2,z3,s1],?_,(p0.trans p1).trans pw⟩
          refine .tup (fun d hd=>?_) (by
            have:=F3 (xs:=xs) (lo:=none) (hi:=some r1)
            have:=F3 (xs:=xs) (lo:=some (r1+1)) (hi:=none)
            rw[List.length_append,List.length_cons]
            omega)
          rcases List.mem_append.mp hd with hd|hd
          ·exact tx d (Kr hd)
          · rcases List.mem_cons.mp hd with rfl | hd
            ·exact tw
            ·exact tx d (Kr hd)
        · obtain ⟨X, T', e1, tw, p1⟩ := tl p0.pen
          exact⟨X,T',by simp[K3,St.Kd.isA,eo,en,hemp,e0,c0,e1],tw,p0.trans p1⟩
end
section
variable{S:Sto}{p:Nat}{t:Tr}{ls:List Ld}{ds:List Bf}{n:Nat}
theorem D8{i:Int}(h0:0≤i)(h1:i<2^150):Sd n (.int i):=.int (by
 have:i.natAbs<2^150:=Jk h0 h1
 exact Nat.lt_of_lt_of_le this (Nat.pow_le_pow_right (by decide) (by decide)))
theorem fF:(1000:Int)<2^150:=by decide
theorem HM{i:Nat}(h:i≤1000):Sd n (.int (i:Int)):=D8 (by omega) (by have:=fF;omega)
theorem dN{r:Rat}(h:Sz 30 r):Sd (n+1) (aD r):=.tup (fun d hd=>by
 simp only[List.mem_cons,List.not_mem_nil,or_false]at hd
 rcases hd with rfl|rfl
 ·exact .int (Nat.lt_of_lt_of_le h.1 (Nat.pow_le_pow_right (by decide) (by decide)))
 ·exact .int (Nat.lt_of_lt_of_le (show((r.den:Int)).natAbs<2^30 by simpa using h.2) (Nat.pow_le_pow_right (by decide) (by decide)))) (by simp)
theorem Zp{rs:List Rat}(h:∀r∈rs,Sz 30 r)(l:rs.length≤10):Sd (n+2) (shD rs):=.tup (fun d hd=>by
 obtain⟨r,hr,rfl⟩:=List.mem_map.mp hd
 exact dN (h r hr)) (by simp;omega)
theorem Wn:Sd n (.str (Str.ofString "bring")):=.str (by decide+kernel) (by decide+kernel) B6
theorem aW:Sd n (.str (Str.ofString "pool")):=.str (by decide+kernel) (by decide+kernel) Cs
theorem Y7:Sd n (.str (Str.ofString "swap")):=.str (by decide+kernel) (by decide+kernel) Gh
theorem Vn:Sd n (.str (Str.ofString "trade")):=.str (by decide+kernel) (by decide+kernel) B4
theorem Xh:Sd n (.str (Str.ofString "spoil")):=.str (by decide+kernel) (by decide+kernel) B5
theorem XU:Sd n (.str (Str.ofString "throw")):=.str (by decide+kernel) (by decide+kernel) Ea
theorem Z0:Sd n (.str (Str.ofString "sell")):=.str (by decide+kernel) (by decide+kernel) Cr
theorem ZR{st:Stt}{k:Nat}{d:Bf}(ht:L3 t)(inv:G8 t k st)(hk:k≤16)(hc:Can t st d):Sd 2 d.d:=by
  obtain⟨t1,t2,t3,t4,t5,t6⟩:=ht
  have big:∀{x:Int},x<2^(131+k)->x<2^150:=fun h=>Int.lt_of_lt_of_le h (GQ (by omega))
  have big2:∀{x:Int},x<2^131->x<2^150:=fun h=>Int.lt_of_lt_of_le h (GQ (by omega))
  have pc:∀{i:Nat} {x:Int},i<st.loads.length->1≤x->x≤(Af st.loads i).n->Sd 1 (.int x):=fun hi h1 h2=>D8 (by omega) (big (Int.lt_of_le_of_lt h2 (inv.pcs _ (Be hi)).2))
  have ix:∀{i:Nat},i<st.loads.length->Sd 1 (.int (i:Int)):=fun hi=>HM (by have:=inv.len;omega)
  cases d with
  | bring p kd n =>
    obtain⟨h1,h2,h3,h4⟩:=hc
    refine .tup (fun x hx=>?_) (by simp)
    simp only[List.mem_cons,List.not_mem_nil,or_false]at hx
    rcases hx with rfl|rfl|rfl|rfl
    ·exact Wn
    ·exact HM (by omega)
    ·exact HM (by omega)
    ·exact D8 (by omega) (big2 h4)
  | pool a b =>
    obtain⟨_,h1,h2,_⟩:=hc
    refine .tup (fun x hx=>?_) (by simp)
    simp only[List.mem_cons,List.not_mem_nil,or_false]at hx
    rcases hx with rfl|rfl|rfl
    ·exact aW
    ·exact ix h1
    ·exact ix h2
  | swap l g kd n =>
    obtain⟨h1,h2,h3,h4,h5,h6,h7⟩:=hc
    refine .tup (fun x hx=>?_) (by simp)
    simp only[List.mem_cons,List.not_mem_nil,or_false]at hx
    rcases hx with rfl|rfl|rfl|rfl|rfl
    ·exact Y7
    ·exact ix h1
    ·exact pc h1 h2 h3
    ·exact HM (by omega)
    ·exact D8 (by omega) (big2 h7)
  | trade u l g kd n =>
    obtain⟨h1,h2,h3,h4,h5,h6,h7,h8,h9,h10⟩:=hc
    refine .tup (fun x hx=>?_) (by simp)
    simp only[List.mem_cons,List.not_mem_nil,or_false]at hx
    rcases hx with rfl|rfl|rfl|rfl|rfl|rfl
    ·exact Vn
    ·exact D8 h9 (by have:=fF;omega)
    ·exact ix h1
    ·exact pc h1 h2 h3
    ·exact HM (by omega)
    ·exact D8 (by omega) (big2 h7)
  | spoil l n =>
    obtain⟨h1,h2,h3⟩:=hc
    refine .tup (fun x hx=>?_) (by simp)
    simp only[List.mem_cons,List.not_mem_nil,or_false]at hx
    rcases hx with rfl|rfl|rfl
    ·exact Xh
    ·exact ix h1
    ·exact pc h1 h2 h3
  | thr l n ws =>
    obtain⟨h1,h2,h3,h4,h5⟩:=hc
    refine .tup (fun x hx=>?_) (by simp)
    simp only[List.mem_cons,List.not_mem_nil,or_false]at hx
    rcases hx with rfl|rfl|rfl|rfl
    ·exact XU
    ·exact ix h1
    ·exact pc h1 h2 h3
    · refine .tup (fun y hy => ?_) (by simp; omega)
      obtain⟨w,hw,rfl⟩:=List.mem_map.mp hy
      have:=h5 w hw
      exact D8 (by omega) (by have:=fF;omega)
  | sell a b x =>
    obtain⟨_,h1,h2,h3,h4,h5⟩:=hc
    refine .tup (fun y hy=>?_) (by simp)
    simp only[List.mem_cons,List.not_mem_nil,or_false]at hy
    rcases hy with rfl|rfl|rfl|rfl
    ·exact Z0
    ·exact HM (by omega)
    ·exact HM (by omega)
    · refine dN ⟨?_, ?_⟩
      · have : (12 : Nat) < 2 ^ 30 := by decide
        omega
      · have : (12 : Nat) < 2 ^ 30 := by decide
        omega
theorem QU(h:K0 t ls ds)(hh:0≤t.h/\t.h≤9/\0≤t.l/\t.l≤9):Sd 3 t.d:=by
 obtain⟨t1,t2,t3,t4,t5,t6⟩:=h.tr
 have sz:=h.inv.sz.2
 have hl:t.ho.length=t.p:=h.inv.hold
 have k9:(1000:Int)<2^150:=by decide
 refine .tup (fun x hx=>?_) (by simp)
 simp only[List.mem_cons,List.not_mem_nil,or_false]at hx
 rcases hx with rfl|rfl|rfl|rfl|rfl|rfl
 ·exact HM (by omega)
 ·exact HM (by omega)
 ·exact HM (by omega)
 ·exact Zp sz (by omega)
 ·exact D8 hh.1 (by omega)
 ·exact D8 hh.2.2.1 (by omega)
theorem QO(h:K0 t ls ds):Sd 4 (.tup (ls.map Ld.d)):=by
 obtain⟨t1,t2,t3,t4,t5,t6⟩:=h.tr
 have sz:=h.inv.sz.1
 have ln:ls.length≤4:=h.inv.len
 refine .tup (fun x hx=>?_) (by simp;omega)
 obtain⟨l,hl,rfl⟩:=List.mem_map.mp hx
 have kd:=h.inv.kind l hl
 have pc:=h.inv.pcs l hl
 have ow:l.ow.length=t.p:=h.inv.own l hl
 refine .tup (fun y hy=>?_) (by simp)
 simp only[List.mem_cons,List.not_mem_nil,or_false]at hy
 rcases hy with rfl|rfl|rfl
 ·exact HM (by omega)
 ·exact D8 pc.1 (Int.lt_of_lt_of_le pc.2 (GQ (by omega)))
 ·exact Zp (sz l hl) (by omega)
theorem Qw(h:K0 t ls ds):Sd 3 (.tup (ds.map Bf.d)):=by
 have hl:=h.len
 refine .tup (fun x hx=>?_) (by simp;omega)
 obtain⟨d,hd,rfl⟩:=List.mem_map.mp hx
 obtain⟨i,hi⟩:=List.getElem?_of_mem hd
 exact ZR h.tr (h.at i) (by simp;omega) (QT h.good hi)
theorem ZP(h:K0 t ls ds)(hh:0≤t.h/\t.h≤9/\0≤t.l/\t.l≤9):Sd 5 (Eu t ls ds):=by
 refine .tup (fun x hx=>?_) (by simp)
 simp only[List.mem_cons,List.not_mem_nil,or_false]at hx
 rcases hx with rfl|rfl|rfl
 ·exact(QU h hh).up (by decide)
 ·exact QO h
 ·exact(Qw h).up (by decide)
end
section
variable{S:Sto}{p:Nat}{t:Tr}{ls:List Ld}{ds:List Bf}
theorem Kq{x:D}{n:Nat}(hn:n≤100):∃ys,Cn (.val (.tup [x])) (.val (.int (n:Int)))=some (.val (.tup ys))/\(∀y∈ys,y=x)/\ys.length≤n:=by
 have sz:n≤sizeLine:=AO (by omega)
 by_cases h:n=0
 ·subst h
  refine⟨[],?_,fun y hy=>(by cases hy),Nat.le_refl _⟩
  rw[Qc]
  simp
 ·have h1:¬((n:Int)≤0):=by omega
  have h2:(1:Int)≤n:=by omega
  refine⟨(List.replicate n [x]).flatten,?_,fun y hy=>?_,by simp⟩
  ·rw[Qc]
   simp[h1,h2,sz]
  ·obtain⟨l,hl,hy⟩:=List.mem_flatten.mp hy
   rw[List.eq_of_mem_replicate hl]at hy
   simpa using hy
theorem UM{f:Ev}{C:En}{ms:List Nat}{j:Nat}(hj:j=C.length)(hl:ms.length≤100)(h:∀m∈ms,∃y,f (C++[some (.int (m:Int))]) S=some (y,S)/\Tb y):∃ys,Bg [] (tNm j) Bx f (ms.map fun(m:Nat)=>D.int m) [] (C++[none]) S=some (ys,S)/\(∀y∈ys,Tb y)/\ys.length=ms.length:=by
 obtain⟨ys,S',e,rfl,l,r⟩:=Hq (gs:=[]) (t:=tNm j) (f:=f) (C:=C) (m:=1) (I:=fun T=>S=T) (R:=fun _ y=>Tb y) (fun _ _=>BU) (ds:=ms.map fun(m:Nat)=>D.int m) (acc:=[]) (os:=[none]) (S:=S) rfl rfl (AO (by simp;omega)) (by
  intro d hd os T ho hT
  match os,ho with
  | [a],_=>
  obtain⟨m,hm,rfl⟩:=List.mem_map.mp hd
  obtain⟨y,e,ty⟩:=h m hm
  subst hT
  refine⟨[some (.int m)],y,S,rfl,?_,e,rfl,ty⟩
  subst hj
  simp[List.set_append])
 exact⟨ys,by simpa using e,FH r,by simpa using l⟩
theorem Lx{A B:List D}(ha:∀y∈A,Tb y)(hb:∀y∈B,Tb y):∀y∈A++B,Tb y:=fun y hy=>(List.mem_append.mp hy).elim (ha y) (hb y)
theorem SW{xs:List D}(h:∀d∈xs,Tb d)(l:xs.length≤1000):Tb (.tup xs):=.tup h l
theorem tb3{a b c:D}(ha:Tb a)(hb:Tb b)(hc:Tb c):Tb (.tup [a,b,c]):=.tup (fun d hd=>by
 simp only[List.mem_cons,List.not_mem_nil,or_false]at hd
 rcases hd with rfl|rfl|rfl<;>assumption) (by simp)
theorem Me:Tb (.tup []):=.tup (fun d hd=>by cases hd) (by simp)
theorem L0{i:Int}(h0:0≤i)(h1:i≤1000):Tb (.int i):=(D8 (n:=0) h0 (by have:=fF;omega)).tb
theorem T7{xs:List D}{x:D}(h:∀y∈xs,y=x)(hx:Tb x)(l:xs.length≤1000):Tb (.tup xs):=.tup (fun d hd=>by rw[h d hd];exact hx) l
def SD:Ex:=(xIf (eOp (o2 wNe) [(AJ C5 [(eV 11)]),(AJ BL [(eV 11)])]) (A3 (eC (.bl false))) CJ)
theorem ZD{X:D}{a0 a1 a2 a3 a4 a5 a6 a7 a8 a9 a10:Option D}(h:Tb X):SD [a0,a1,a2,a3,a4,a5,a6,a7,a8,a9,a10,some X] S=some (.nx,[a0,a1,a2,a3,a4,a5,a6,a7,a8,a9,a10,some X],S):=by
 have e1:=WD (S:=S) h
 have e2:=RL (S:=S) h
 have o:∀b:Bool,B2 (.bl b) (.bl b)=true:=fun b=>rfl
 have q:∀b:Bool,deq (.bl b) (.bl b)=true:=fun b=>by cases b<;>rfl
 simp[SD,e1,e2,o,q]
abbrev LU(a0 a1 a2 bk tr fi de br th ld ts x:Option D):En:=[a0,a1,a2,bk,tr,fi,de,br,th,ld,ts,x]
def bh:Ex:=(CF 10 (Hj [(eV 3),(eOp (o1 Ia) [(eV 3)]),(eOp (J6 false true) [(eV 3),(eC (.int 2))]),(eOp (o2 B9) [(eV 3),(BD [(BD [])])]),(BD [(eV 4),(eOp (o1 Ia) [(eV 5)]),(eV 6)]),(BD [(eV 4),(eV 5),(eOp (o1 Ia) [(eV 6)])])]))
def gW:Ex:=(CF 10 (eOp (o2 B9) [(eOp (o2 B9) [(eV 10),(C4 [4,9] 1 (Hy (BD [(eC (.int 0)),(eC (.int 4)),(eC (.int 5))])) (tNm 2) Bx (BD [(eV 0),(eOp (o2 Cn) [(BD [(eV 1)]),(eV 2)]),(BD [])]))]),(Hj [(BD [(eV 4),(BD [(BD [(eC (.int 0)),(eC (.int 0)),(eOp (o2 wIx) [(eV 9),(eC (.int 2))])])]),(BD [])])])]))
def gc:Ex:=(CF 10 (eOp (o2 B9) [(eOp (o2 B9) [(eV 10),(C4 [4,7] 1 (Hy (BD [(eC (.int 20)),(eC (.int 21))])) (tNm 2) Bx (BD [(eV 0),(BD []),(eOp (o2 Cn) [(BD [(eV 1)]),(eV 2)])]))]),(Hj [(AJ (BC 8) [(eV 2),(eC (.int 3))])])]))
def jD:Ex:=(CF 10 (eOp (o2 B9) [(eV 10),(C4 [4,7,8] 1 (Hy (BD [(eC (.int 3)),(eC (.int 4))])) (tNm 3) Bx (BD [(eV 0),(BD []),(eOp (o2 B9) [(BD [(eV 1)]),(eOp (o2 Cn) [(BD [(eV 2)]),(eV 3)])])]))]))
def gm:Ex:=(CF 10 (eOp (o2 B9) [(eOp (o2 B9) [(eV 10),(C4 [2,3] 1 (PY [(eC (.int 8))]) (tNm 2) Bx (AJ (Ba 8) [(eV 0),(eV 1)]))]),(Hj [(BD [(eV 4),(BD []),(BD [(BD [(eC (.str "pool")),(eC (.int 8)),(eC (.int 9))])])])])]))
variable{a0 a1 x:Option D}{T F Dd br th ow:D}{fs es:List D}{Y:List D}
theorem kE(hT:Tb T)(hf:∀y∈fs,Tb y)(he:∀y∈es,Tb y)(lf:fs.length≤100)(le:es.length≤100){o10:Option D}:∃Y,bh (LU a0 a1 (some (.ref p)) (some (.tup [T,.tup fs,.tup es])) (some T) (some (.tup fs)) (some (.tup es)) (some br) (some th) (some (.tup [.int 0,.int 1,ow])) o10 x) S=some (.nx,LU a0 a1 (some (.ref p)) (some (.tup [T,.tup fs,.tup es])) (some T) (some (.tup fs)) (some (.tup es)) (some br) (some th) (some (.tup [.int 0,.int 1,ow])) (some (.lst Y)) x,S)/\(∀y∈Y,Tb y)/\Y.length=6:=by
 have c:JW [T,.tup fs,.tup es] none (some 2)=[T,.tup fs]:=by simp[JW,HT.sIx]
 have l6:(6:Nat)≤sizeLine:=AO (by decide)
 have l4:(4:Nat)≤sizeLine:=AO (by decide)
 have l3:(3:Nat)≤sizeLine:=AO (by decide)
 have l1:(1:Nat)≤sizeLine:=AO (by decide)
 have tf:Tb (.tup fs):=.tup hf (by omega)
 have te:Tb (.tup es):=.tup he (by omega)
 have tl:Tb (.lst fs):=.lst hf (by omega)
 have tm:Tb (.lst es):=.lst he (by omega)
 refine⟨[.tup [T,.tup fs,.tup es],.lst [T,.tup fs,.tup es],.tup [T,.tup fs],.tup [T,.tup fs,.tup es,.tup []],.tup [T,.lst fs,.tup es],.tup [T,.tup fs,.lst es]],?_,?_,rfl⟩
 ·simp[bh,LU,c,l6,l4,l3,l1]
 ·intro y hy
  simp only[List.mem_cons,List.not_mem_nil,or_false]at hy
  rcases hy with rfl|rfl|rfl|rfl|rfl|rfl
  ·exact tb3 hT tf te
  ·refine .lst (fun d hd=>?_) (by simp)
   simp only[List.mem_cons,List.not_mem_nil,or_false]at hd
   rcases hd with rfl|rfl|rfl<;>assumption
  ·refine .tup (fun d hd=>?_) (by simp)
   simp only[List.mem_cons,List.not_mem_nil,or_false]at hd
   rcases hd with rfl|rfl<;>assumption
  ·refine .tup (fun d hd=>?_) (by simp)
   simp only[List.mem_cons,List.not_mem_nil,or_false]at hd
   rcases hd with rfl|rfl|rfl|rfl
   ·assumption
   ·assumption
   ·assumption
   ·exact Me
  ·exact tb3 hT tl te
  ·exact tb3 hT tf tm
theorem kr{bk fi de:D}(hT:Tb T)(ho:Tb ow)(hY:∀y∈Y,Tb y)(lY:Y.length≤50):∃Z,gW (LU a0 a1 (some (.ref p)) (some bk) (some T) (some fi) (some de) (some br) (some th) (some (.tup [.int 0,.int 1,ow])) (some (.lst Y)) x) S=some (.nx,LU a0 a1 (some (.ref p)) (some bk) (some T) (some fi) (some de) (some br) (some th) (some (.tup [.int 0,.int 1,ow])) (some (.lst Z)) x,S)/\(∀y∈Z,Tb y)/\Z.length=Y.length+4:=by
 have l3:(3:Nat)≤sizeLine:=AO (by decide)
 have l1:(1:Nat)≤sizeLine:=AO (by decide)
 have tl:Tb (.tup [.int 0,.int 1,ow]):=tb3 (L0 (by decide) (by decide)) (L0 (by decide) (by decide)) ho
 obtain⟨ys,e,ty,ly⟩:=UM (S:=S) (f:=BD [(eV 0),(eOp (o2 Cn) [(BD [(eV 1)]),(eV 2)]),(BD [])]) (C:=[some T,some (.tup [.int 0,.int 1,ow])]) (ms:=[0,4,5]) (j:=2) rfl (by decide) (by
  intro m hm
  have hm':m≤100:=by
   simp only[List.mem_cons,List.not_mem_nil,or_false]at hm
   omega
  obtain⟨us,eu,hu,lu⟩:=Kq (x:=.tup [.int 0,.int 1,ow]) hm'
  refine⟨.tup [T,.tup us,.tup []],?_,tb3 hT (T7 hu tl (by omega)) Me⟩
  simp[l1,l3,eu])
 simp only[List.map_cons,List.map_nil,List.cons_append,List.nil_append]at e
 have z1:Y.length+ys.length≤sizeLine:=AO (by rw[ly];simp;omega)
 have z2:Y.length+(ys.length+1)≤sizeLine:=AO (by rw[ly];simp;omega)
 have z3:Y.length+ys.length+1≤sizeLine:=AO (by rw[ly];simp;omega)
 refine⟨Y++(ys++[.tup [T,.tup [.tup [.int 0,.int 0,ow]],.tup []]]),?_,Lx hY (Lx ty fun y hy=>?_),by simp[ly]⟩
 ·have e':Bg [] (tNm 2) Bx (BD [(eV 0),(eOp (o2 Cn) [(BD [(eV 1)]),(eV 2)]),(BD [])]) [D.int 0,.int 4,.int 5] [] [some T,some (.tup [.int 0,.int 1,ow]),none] S=some (ys,S):=e
  generalize hf:(BD [(eV 0),(eOp (o2 Cn) [(BD [(eV 1)]),(eV 2)]),(BD [])])=f at e'
  have eb:gW=(CF 10 (eOp (o2 B9) [(eOp (o2 B9) [(eV 10),(C4 [4,9] 1 (Hy (BD [(eC (.int 0)),(eC (.int 4)),(eC (.int 5))])) (tNm 2) Bx f)]),(Hj [(BD [(eV 4),(BD [(BD [(eC (.int 0)),(eC (.int 0)),(eOp (o2 wIx) [(eV 9),(eC (.int 2))])])]),(BD [])])])])):=by rw[←hf];rfl
  rw[eb]
  simp[-IM,-Jg,LU,l1,l3,P5,e',z1,z2,z3]
 ·rw[List.mem_singleton.mp hy]
  refine tb3 hT (SW (fun d hd=>?_) (by simp)) Me
  rw[List.mem_singleton.mp hd]
  exact tb3 (L0 (by decide) (by decide)) (L0 (by decide) (by decide)) ho
theorem kj{bk fi de:D}(hp:DX p S)(hT:Tb T)(hb:Tb br)(hY:∀y∈Y,Tb y)(lY:Y.length≤50){ld:Option D}:∃Z S',gc (LU a0 a1 (some (.ref p)) (some bk) (some T) (some fi) (some de) (some br) (some th) ld (some (.lst Y)) x) S=some (.nx,LU a0 a1 (some (.ref p)) (some bk) (some T) (some fi) (some de) (some br) (some th) ld (some (.lst Z)) x,S')/\(∀y∈Z,Tb y)/\Z.length=Y.length+3/\DX p S':=by
 have l3:(3:Nat)≤sizeLine:=AO (by decide)
 have l2:(2:Nat)≤sizeLine:=AO (by decide)
 have l1:(1:Nat)≤sizeLine:=AO (by decide)
 obtain⟨ys,e,ty,ly⟩:=UM (S:=S) (f:=BD [(eV 0),(BD []),(eOp (o2 Cn) [(BD [(eV 1)]),(eV 2)])]) (C:=[some T,some br]) (ms:=[20,21]) (j:=2) rfl (by decide) (by
  intro m hm
  have hm':m≤100:=by
   simp only[List.mem_cons,List.not_mem_nil,or_false]at hm
   omega
  obtain⟨us,eu,hu,lu⟩:=Kq (x:=br) hm'
  refine⟨.tup [T,.tup [],.tup us],?_,tb3 hT Me (T7 hu hb (by omega))⟩
  simp[l1,l3,eu])
 simp only[List.map_cons,List.map_nil,List.cons_append,List.nil_append]at e
 obtain⟨X,S',eX,hX,pX⟩:=HV (n:=8) (d:=3) (by decide) hp
 have eX':BC 8 [.ref p,.int 3] S=some (X,S'):=eX
 have z1:Y.length+ys.length≤sizeLine:=AO (by rw[ly];simp;omega)
 have z3:Y.length+ys.length+1≤sizeLine:=AO (by rw[ly];simp;omega)
 refine⟨Y++(ys++[X]),S',?_,Lx hY (Lx ty fun y hy=>by rw[List.mem_singleton.mp hy];exact hX),by simp[ly],pX.pen⟩
 have e':Bg [] (tNm 2) Bx (BD [(eV 0),(BD []),(eOp (o2 Cn) [(BD [(eV 1)]),(eV 2)])]) [D.int 20,.int 21] [] [some T,some br,none] S=some (ys,S):=e
 simp[-IM,-Jg,gc,LU,l1,l2,l3,P5,e',z1,z3,eX']
theorem kK{bk fi de:D}(hT:Tb T)(hb:Tb br)(ht:Tb th)(hY:∀y∈Y,Tb y)(lY:Y.length≤50){ld:Option D}:∃Z,jD (LU a0 a1 (some (.ref p)) (some bk) (some T) (some fi) (some de) (some br) (some th) ld (some (.lst Y)) x) S=some (.nx,LU a0 a1 (some (.ref p)) (some bk) (some T) (some fi) (some de) (some br) (some th) ld (some (.lst Z)) x,S)/\(∀y∈Z,Tb y)/\Z.length=Y.length+2:=by
 have l3:(3:Nat)≤sizeLine:=AO (by decide)
 have l2:(2:Nat)≤sizeLine:=AO (by decide)
 have l1:(1:Nat)≤sizeLine:=AO (by decide)
 obtain⟨ys,e,ty,ly⟩:=UM (S:=S) (f:=BD [(eV 0),(BD []),(eOp (o2 B9) [(BD [(eV 1)]),(eOp (o2 Cn) [(BD [(eV 2)]),(eV 3)])])]) (C:=[some T,some br,some th]) (ms:=[3,4]) (j:=3) rfl (by decide) (by
  intro m hm
  have hm':m≤100:=by
   simp only[List.mem_cons,List.not_mem_nil,or_false]at hm
   omega
  obtain⟨us,eu,hu,lu⟩:=Kq (x:=th) hm'
  have lz:1+us.length≤sizeLine:=AO (by omega)
  refine⟨.tup [T,.tup [],.tup (br::us)],?_,tb3 hT Me (SW (fun d hd=>?_) (by simp;omega))⟩
  ·simp[l1,l3,eu,lz]
  ·rcases List.mem_cons.mp hd with rfl|hd
   ·exact hb
   ·rw[hu d hd];exact ht)
 simp only[List.map_cons,List.map_nil,List.cons_append,List.nil_append]at e
 have z1:Y.length+ys.length≤sizeLine:=AO (by rw[ly];simp;omega)
 refine⟨Y++ys,?_,Lx hY ty,by simp[ly]⟩
 have e':Bg [] (tNm 3) Bx (BD [(eV 0),(BD []),(eOp (o2 B9) [(BD [(eV 1)]),(eOp (o2 Cn) [(BD [(eV 2)]),(eV 3)])])]) [D.int 3,.int 4] [] [some T,some br,some th,none] S=some (ys,S):=e
 simp[-IM,-Jg,jD,LU,l1,l2,l3,P5,e',z1]
theorem kz{bk fi de:D}(hp:DX p S)(hT:Tb T)(hB:Sd 5 bk)(hY:∀y∈Y,Tb y)(lY:Y.length≤50){ld:Option D}:∃Z S',gm (LU a0 a1 (some (.ref p)) (some bk) (some T) (some fi) (some de) (some br) (some th) ld (some (.lst Y)) x) S=some (.nx,LU a0 a1 (some (.ref p)) (some bk) (some T) (some fi) (some de) (some br) (some th) ld (some (.lst Z)) x,S')/\(∀y∈Z,Tb y):=by
 have l3:(3:Nat)≤sizeLine:=AO (by decide)
 have l1:(1:Nat)≤sizeLine:=AO (by decide)
 obtain⟨ys,S',e,i,l,r⟩:=Hq (gs:=[]) (t:=tNm 2) (f:=AJ (Ba 8) [(eV 0),(eV 1)]) (C:=[some (.ref p),some bk]) (m:=1) (I:=fun T=>DX p T) (R:=fun _ y=>Tb y) (fun _ _=>BU) (ds:=Kw 0 8) (acc:=[]) (os:=[none]) (S:=S) rfl hp (AO (by simp[EV])) (by
  intro d hd os T ho hI
  match os,ho with
  | [a],_=>
  obtain⟨X,T',ex,hX,hP⟩:=J5 8 5 (by decide) hB hI
  exact⟨[some d],X,T',rfl,by simp,by simp[ex],hP.pen,hX⟩)
 have ty:=FH r
 simp only[List.nil_append,List.cons_append]at e
 rw[EV]at l
 have r8:Ja (8:Int)=true:=E5 (by decide) (by decide)
 have t8:(8:Int).toNat=8:=rfl
 have z1:Y.length+ys.length≤sizeLine:=AO (by rw[l];omega)
 have z3:Y.length+ys.length+1≤sizeLine:=AO (by rw[l];omega)
 refine⟨Y++(ys++[.tup [T,.tup [],.tup [.tup [.str "pool",.int 8,.int 9]]]]),S',?_,Lx hY (Lx ty fun y hy=>?_)⟩
 ·simp[gm,LU,r8,t8,P5,e,z1,z3,l1,l3]
 ·rw[List.mem_singleton.mp hy]
  refine tb3 hT Me (SW (fun d hd=>?_) (by simp))
  rw[List.mem_singleton.mp hd]
  exact tb3 (.str _) (L0 (by decide) (by decide)) (L0 (by decide) (by decide))
end
section
variable{S:Sto}
def x78:Ex:=(PL (tTp [(tNm 7),(tNm 8)]) (BD [(BD [(eC (.str "bring")),(eC (.int 0)),(eC (.int 0)),(eC (.int 1))]),(BD [(eC (.str "throw")),(eC (.int 0)),(eC (.int 1)),(eOp (o2 Cn) [(BD [(eC (.int 1))]),(eOp (o2 B9) [(eOp (o2 wIx) [(eV 4),(eC (.int 1))]),(eC (.int 1))])])])]))
def x9:Ex:=(CF 9 (BD [(eC (.int 0)),(eC (.int 1)),(AJ Ci [(eV 2),(eOp (o2 wIx) [(eV 4),(eC (.int 0))])])]))
def fU:Ex:=(Ai (CF 2 (AJ GP [(AJ CZ [(eV 0),(eV 1)])]))
  (Ai (CF 3 (AJ EG [(eV 2),(eC (.int 12))]))
  (Ai (PL (tTp [(tNm 4),(tNm 5),(tNm 6)]) (eV 3))
  (Ai x78 (Ai x9 (Ai bh (Ai gW (Ai gc (Ai jD (Ai gm
  (Pt (Hy (eV 10)) (tNm 11) SD)))))))))))
theorem Zz{ns:List Int}{k:Nat}{q2 q3 q4 q5 q6 q7 q8 q9 q10 q11:Option D}:∃u2 u3 u4 u5 u6 u7 u8 u9 u10 u11 S',fU [some (.scr ns),some (.int k),q2,q3,q4,q5,q6,q7,q8,q9,q10,q11] S=some (.nx,[some (.scr ns),some (.int k),u2,u3,u4,u5,u6,u7,u8,u9,u10,u11],S'):=by
  obtain⟨c,e0⟩:=Zb (S:=S) (ns:=ns) (k:=k)
  obtain⟨p,S1,e1,hp,_,_⟩:=dE (S:=S) c
  obtain⟨t,ls,ds,S2,e2,⟨hb,_⟩,⟨_,_,hh⟩,hp2⟩:=Zg (M:=12) (by decide) hp
  have e2':EG [.ref p,.int 12] S1=some (Eu t ls ds,S2):=e2
  have ht:=hb.tr
  obtain⟨t1,t2,t3,t4,t5,t6⟩:=ht
  have sB:=ZP hb hh
  have tT:Tb t.d:=(QU hb hh).tb
  have tF:∀y∈ls.map Ld.d,Tb y:=by
    have:=(QO hb).tb
    cases this with
    |tup h l=>exact h
  have tE:∀y∈ds.map Bf.d,Tb y:=by
    have:=(Qw hb).tb
    cases this with
    |tup h l=>exact h
  have lF:(ls.map Ld.d).length≤100:=by have:ls.length≤4:=hb.inv.len;simp;omega
  have lE:(ds.map Bf.d).length≤100:=by have:=hb.len;simp;omega
  obtain⟨us,eu,hu,lu⟩:=Kq (x:=.int 1) (n:=t.k+1) (by omega)
  obtain⟨rs,S3,e3,p3,⟨lr,_⟩,G,g0,g1,g2⟩:=Nz hp2 (n:=t.p) t1 t2
  have tO:Tb (shD rs):=(Zp (n:=0) (fun r hr=>(g2 r hr).sz g0 (Nat.lt_of_le_of_lt g1 (by decide)) (Nat.lt_of_le_of_lt g1 (by decide))) (by omega)).tb
  have ti:∀{i:Int},0≤i->i≤1000->Tb (.int i):=L0
  have tBr:Tb (.tup [.str "bring",.int 0,.int 0,.int 1]):=.tup (fun d hd=>by
    simp only[List.mem_cons,List.not_mem_nil,or_false]at hd
    rcases hd with rfl|rfl|rfl|rfl
    ·exact .str _
    ·exact ti (by decide) (by decide)
    ·exact ti (by decide) (by decide)
    ·exact ti (by decide) (by decide)) (by simp)
  have tTh:Tb (.tup [.str "throw",.int 0,.int 1,.tup us]):=.tup (fun d hd=>by
    simp only[List.mem_cons,List.not_mem_nil,or_false]at hd
    rcases hd with rfl|rfl|rfl|rfl
    ·exact .str _
    ·exact ti (by decide) (by decide)
    ·exact ti (by decide) (by decide)
    ·exact T7 hu (ti (by decide) (by decide)) (by omega)) (by simp)
  obtain⟨Y1,f1,h1,l1⟩:=kE (S:=S3) (p:=p) (a0:=some (.scr ns)) (a1:=some (.int k)) (x:=q11) (br:=.tup [.str "bring",.int 0,.int 0,.int 1]) (th:=.tup [.str "throw",.int 0,.int 1,.tup us]) (ow:=shD rs) (o10:=q10) tT tF tE lF lE
  have f1':bh (LU (some (.scr ns)) (some (.int k)) (some (.ref p)) (some (Eu t ls ds)) (some t.d) (some (.tup (ls.map Ld.d))) (some (.tup (ds.map Bf.d))) (some (.tup [.str "bring",.int 0,.int 0,.int 1])) (some (.tup [.str "throw",.int 0,.int 1,.tup us])) (some (.tup [.int 0,.int 1,shD rs])) q10 q11) S3=some (.nx,LU (some (.scr ns)) (some (.int k)) (some (.ref p)) (some (Eu t ls ds)) (some t.d) (some (.tup (ls.map Ld.d))) (some (.tup (ds.map Bf.d))) (some (.tup [.str "bring",.int 0,.int 0,.int 1])) (some (.tup [.str "throw",.int 0,.int 1,.tup us])) (some (.tup [.int 0,.int 1,shD rs])) (some (.lst Y1)) q11,S3):=f1
  obtain⟨Y2,f2,h2,l2⟩:=kr (S:=S3) (p:=p) (a0:=some (.scr ns)) (a1:=some (.int k)) (x:=q11) (br:=.tup [.str "bring",.int 0,.int 0,.int 1]) (th:=.tup [.str "throw",.int 0,.int 1,.tup us]) (ow:=shD rs) (bk:=Eu t ls ds) (fi:=.tup (ls.map Ld.d)) (de:=.tup (ds.map Bf.d)) tT tO h1 (by omega)
  obtain⟨Y3,S4,f3,h3,l3,hp4⟩:=kj (a0:=some (.scr ns)) (a1:=some (.int k)) (x:=q11) (br:=.tup [.str "bring",.int 0,.int 0,.int 1]) (th:=.tup [.str "throw",.int 0,.int 1,.tup us]) (bk:=Eu t ls ds) (fi:=.tup (ls.map Ld.d)) (de:=.tup (ds.map Bf.d)) (ld:=some (.tup [.int 0,.int 1,shD rs])) p3.pen tT tBr h2 (by omega)
  obtain⟨Y4,f4,h4,l4⟩:=kK (S:=S4) (p:=p) (a0:=some (.scr ns)) (a1:=some (.int k)) (x:=q11) (br:=.tup [.str "bring",.int 0,.int 0,.int 1]) (th:=.tup [.str "throw",.int 0,.int 1,.tup us]) (bk:=Eu t ls ds) (fi:=.tup (ls.map Ld.d)) (de:=.tup (ds.map Bf.d)) (ld:=some (.tup [.int 0,.int 1,shD rs])) tT tBr tTh h3 (by omega)
  obtain⟨Y5,S5,f5,h5⟩:=kz (a0:=some (.scr ns)) (a1:=some (.int k)) (x:=q11) (br:=.tup [.str "bring",.int 0,.int 0,.int 1]) (th:=.tup [.str "throw",.int 0,.int 1,.tup us]) (bk:=Eu t ls ds) (fi:=.tup (ls.map Ld.d)) (de:=.tup (ds.map Bf.d)) (ld:=some (.tup [.int 0,.int 1,shD rs])) hp4 tT sB h4 (by omega)
  obtain⟨E',S',ef,u11,rfl,rfl⟩:=YH (gs:=[]) (t:=tNm 11) (b:=SD) (L:=Y5)
    (Iv:=fun i E S'=>∃u11,E=LU (some (.scr ns)) (some (.int k)) (some (.ref p)) (some (Eu t ls ds)) (some t.d) (some (.tup (ls.map Ld.d))) (some (.tup (ds.map Bf.d))) (some (.tup [.str "bring",.int 0,.int 0,.int 1])) (some (.tup [.str "throw",.int 0,.int 1,.tup us])) (some (.tup [.int 0,.int 1,shD rs])) (some (.lst Y5)) u11/\S5=S')
    (fun _ _ _ _=>BU) (E:=LU (some (.scr ns)) (some (.int k)) (some (.ref p)) (some (Eu t ls ds)) (some t.d) (some (.tup (ls.map Ld.d))) (some (.tup (ds.map Bf.d))) (some (.tup [.str "bring",.int 0,.int 0,.int 1])) (some (.tup [.str "throw",.int 0,.int 1,.tup us])) (some (.tup [.int 0,.int 1,shD rs])) (some (.lst Y5)) q11) (S:=S5) ⟨q11,rfl,rfl⟩ (by
      rintro i dd E T hi ⟨u11,rfl,rfl⟩
      exact⟨_,_,S5,by simp[LU],ZD (h5 dd (List.mem_of_getElem? hi)),some dd,rfl,rfl⟩)
  have A:(CF 2 (AJ GP [(AJ CZ [(eV 0),(eV 1)])])) [some (.scr ns),some (.int k),q2,q3,q4,q5,q6,q7,q8,q9,q10,q11] S=some (.nx,[some (.scr ns),some (.int k),some (.ref p),q3,q4,q5,q6,q7,q8,q9,q10,q11],S1):=by simp[e0,e1]
  have B:(CF 3 (AJ EG [(eV 2),(eC (.int 12))])) [some (.scr ns),some (.int k),some (.ref p),q3,q4,q5,q6,q7,q8,q9,q10,q11] S1=some (.nx,[some (.scr ns),some (.int k),some (.ref p),some (Eu t ls ds),q4,q5,q6,q7,q8,q9,q10,q11],S2):=by simp[e2']
  have Cc:(PL (tTp [(tNm 4),(tNm 5),(tNm 6)]) (eV 3)) [some (.scr ns),some (.int k),some (.ref p),some (Eu t ls ds),q4,q5,q6,q7,q8,q9,q10,q11] S2=some (.nx,[some (.scr ns),some (.int k),some (.ref p),some (Eu t ls ds),some t.d,some (.tup (ls.map Ld.d)),some (.tup (ds.map Bf.d)),q7,q8,q9,q10,q11],S2):=by simp[Eu]
  have s4:(4:Nat)≤sizeLine:=AO (by decide)
  have s3:(3:Nat)≤sizeLine:=AO (by decide)
  have s2:(2:Nat)≤sizeLine:=AO (by decide)
  have s1:(1:Nat)≤sizeLine:=AO (by decide)
  have ec:((t.k+1:Nat):Int)=(t.k:Int)+1:=by omega
  rw[ec]at eu
  have tk:wIx (.val t.d) (.val (.int 1))=some (.val (.int t.k)):=by simp[Tr.d]
  have tp:wIx (.val t.d) (.val (.int 0))=some (.val (.int t.p)):=by simp[Tr.d]
  have td:∀T,dr T t.d=.val t.d:=fun _=>rfl
  have Dd:x78 [some (.scr ns),some (.int k),some (.ref p),some (Eu t ls ds),some t.d,some (.tup (ls.map Ld.d)),some (.tup (ds.map Bf.d)),q7,q8,q9,q10,q11] S2=some (.nx,[some (.scr ns),some (.int k),some (.ref p),some (Eu t ls ds),some t.d,some (.tup (ls.map Ld.d)),some (.tup (ds.map Bf.d)),some (.tup [.str "bring",.int 0,.int 0,.int 1]),some (.tup [.str "throw",.int 0,.int 1,.tup us]),q9,q10,q11],S2):=by
    simp[-R9,x78,td,tk,eu,s1,s2,s4]
  have Ee:x9 [some (.scr ns),some (.int k),some (.ref p),some (Eu t ls ds),some t.d,some (.tup (ls.map Ld.d)),some (.tup (ds.map Bf.d)),some (.tup [.str "bring",.int 0,.int 0,.int 1]),some (.tup [.str "throw",.int 0,.int 1,.tup us]),q9,q10,q11] S2=some (.nx,[some (.scr ns),some (.int k),some (.ref p),some (Eu t ls ds),some t.d,some (.tup (ls.map Ld.d)),some (.tup (ds.map Bf.d)),some (.tup [.str "bring",.int 0,.int 0,.int 1]),some (.tup [.str "throw",.int 0,.int 1,.tup us]),some (.tup [.int 0,.int 1,shD rs]),q10,q11],S3):=by
    simp[-R9,x9,td,tp,e3,s3]
  refine⟨some (.ref p),some (Eu t ls ds),some t.d,some (.tup (ls.map Ld.d)),some (.tup (ds.map Bf.d)),some (.tup [.str "bring",.int 0,.int 0,.int 1]),some (.tup [.str "throw",.int 0,.int 1,.tup us]),some (.tup [.int 0,.int 1,shD rs]),some (.lst Y5),u11,S5,?_⟩
  rw[fU,ER,A,CI,Fe,ER,B,CI,Fe,ER,Cc,CI,Fe,ER,Dd,CI,Fe,ER,Ee,CI,Fe,ER]
  rw[show bh [some (.scr ns),some (.int k),some (.ref p),some (Eu t ls ds),some t.d,some (.tup (ls.map Ld.d)),some (.tup (ds.map Bf.d)),some (.tup [.str "bring",.int 0,.int 0,.int 1]),some (.tup [.str "throw",.int 0,.int 1,.tup us]),some (.tup [.int 0,.int 1,shD rs]),q10,q11] S3=_ from f1',CI,Fe,ER]
  rw[f2,CI,Fe,ER,f3,CI,Fe,ER,f4,CI,Fe,ER,f5,CI,Fe]
  have fin:(Pt (Hy (eV 10)) (tNm 11) SD) (LU (some (.scr ns)) (some (.int k)) (some (.ref p)) (some (Eu t ls ds)) (some t.d) (some (.tup (ls.map Ld.d))) (some (.tup (ds.map Bf.d))) (some (.tup [.str "bring",.int 0,.int 0,.int 1])) (some (.tup [.str "throw",.int 0,.int 1,.tup us])) (some (.tup [.int 0,.int 1,shD rs])) (some (.lst Y5)) q11) S5=some (.nx,LU (some (.scr ns)) (some (.int k)) (some (.ref p)) (some (Eu t ls ds)) (some t.d) (some (.tup (ls.map Ld.d))) (some (.tup (ds.map Bf.d))) (some (.tup [.str "bring",.int 0,.int 0,.int 1])) (some (.tup [.str "throw",.int 0,.int 1,.tup us])) (some (.tup [.int 0,.int 1,shD rs])) (some (.lst Y5)) u11,S5):=by
    simp only[LU]at ef⊢
    simp[ef]
  exact fin
theorem cb(ns:List Int)(h:ns.length≤63):∃S',NJ [.scr ns] S=some (.bl true,S'):=by
 obtain⟨n,hn,hn2⟩:∃n:Nat,(if(if(3:Int)<ns.length then(3:Int)else ns.length)>1 then(if(3:Int)<ns.length then(3:Int)else ns.length)else 1)=(n:Int)/\n≤3:=by
  refine⟨(if(if(3:Int)<ns.length then(3:Int)else ns.length)>1 then(if(3:Int)<ns.length then(3:Int)else ns.length)else 1).toNat,?_,?_⟩
  ·split<;>split<;>omega
  ·split<;>split<;>omega
 have rn:Ja (n:Int)=true:=E5 (by omega) (by omega)
 obtain⟨E',S',ef,q1,q2,q3,q4,q5,q6,q7,q8,q9,q10,q11,rfl⟩:=YH (gs:=[]) (t:=tNm 1) (b:=fU) (L:=Kw 0 n)
  (Iv:=fun i E S'=>∃q1 q2 q3 q4 q5 q6 q7 q8 q9 q10 q11,E=[some (.scr ns),q1,q2,q3,q4,q5,q6,q7,q8,q9,q10,q11])
  (fun _ _ _ _=>BU) (E:=[some (.scr ns),none,none,none,none,none,none,none,none,none,none,none]) (S:=S) ⟨_,_,_,_,_,_,_,_,_,_,_,rfl⟩ (by
   rintro i dd E T hi ⟨q1,q2,q3,q4,q5,q6,q7,q8,q9,q10,q11,rfl⟩
   obtain⟨rfl,hi'⟩:=cX hi
   obtain⟨u2,u3,u4,u5,u6,u7,u8,u9,u10,u11,T2,e⟩:=Zz (S:=T) (ns:=ns) (k:=i) (q2:=q2) (q3:=q3) (q4:=q4) (q5:=q5) (q6:=q6) (q7:=q7) (q8:=q8) (q9:=q9) (q10:=q10) (q11:=q11)
   exact⟨_,_,T2,by simp,e,_,_,_,_,_,_,_,_,_,_,_,rfl⟩)
 refine⟨S',?_⟩
 have eb:SO=Ai (Pt (PY [(eOp (o2 eT) [(eC (.int 1)),(eOp (o2 ao) [(eOp (o1 GC) [(eV 0)]),(eC (.int 3))])])]) (tNm 1) fU) (A3 (eC (.bl true))):=rfl
 unfold NJ
 rw[eb]
 simp[hn,rn,ef]
end
open PyProof.Rows (boot_isinstance boot_int boot_bool boot_tuple boot_str boot_list boot_abs boot_all boot_any boot_sum boot_max boot_min boot_range boot_enumerate boot_zip boot_sorted boot_set boot_divmod)
structure All(w:World)(K:PySem.W.Frag)(mg:Str->Option Value):Prop where
 bt:Bts mg
 c_ALL:MY K mg "ALL" R4
 c_MOST_DEEDS:MY K mg "MOST_DEEDS" Ef
 c_MOST_FIRST:MY K mg "MOST_FIRST" EY
 c_MOST_THROWS:MY K mg "MOST_THROWS" Dx
 c_NOTHING:MY K mg "NOTHING" HS
 c_UNLIKE:MY K mg "UNLIKE" Ft
 c_FORMS:ak K w mg "FORMS" Ca
 r_PARTS:eI w K mg "PARTS" [("partner","is_partner"),("kind","is_kind"),("load","is_load_number"),("number","is_trade_number"),("pieces","are_pieces"),("worths","are_worths"),("share","is_sold_share")]
 s_p_is_whole:St.Src K mg "is_whole" s_p_is_whole
 s_p_is_from:St.Src K mg "is_from" s_p_is_from
 s_p_is_within:St.Src K mg "is_within" s_p_is_within
 s_p_greatest_divisor:St.Src K mg "greatest_divisor" s_p_greatest_divisor
 s_p_is_amount:St.Src K mg "is_amount" s_p_is_amount
 s_p_lowest:St.Src K mg "lowest" s_p_lowest
 s_p_plus:St.Src K mg "plus" s_p_plus
 s_p_total:St.Src K mg "total" s_p_total
 s_p_is_tuple_of:St.Src K mg "is_tuple_of" s_p_is_tuple_of
 s_p_is_share:St.Src K mg "is_share" s_p_is_share
 s_p_are_owners:St.Src K mg "are_owners" s_p_are_owners
 s_p_is_train:St.Src K mg "is_train" s_p_is_train
 s_p_is_partner:St.Src K mg "is_partner" s_p_is_partner
 s_p_is_kind:St.Src K mg "is_kind" s_p_is_kind
 s_p_is_load_number:St.Src K mg "is_load_number" s_p_is_load_number
 s_p_is_trade_number:St.Src K mg "is_trade_number" s_p_is_trade_number
 s_p_are_pieces:St.Src K mg "are_pieces" s_p_are_pieces
 s_p_are_values:St.Src K mg "are_values" s_p_are_values
 s_p_are_worths:St.Src K mg "are_worths" s_p_are_worths
 s_p_is_sold_share:St.Src K mg "is_sold_share" s_p_is_sold_share
 s_p_is_part:St.Src K mg "is_part" s_p_is_part
 s_p_is_load:St.Src K mg "is_load" s_p_is_load
 s_p_is_deed:St.Src K mg "is_deed" s_p_is_deed
 s_p_are_first:St.Src K mg "are_first" s_p_are_first
 s_p_are_deeds:St.Src K mg "are_deeds" s_p_are_deeds
 s_p_is_book:St.Src K mg "is_book" s_p_is_book
 s_law_cell_at:St.Src K mg "_law_cell_at" s_law_cell_at
 s_law_pen:St.Src K mg "_law_pen" s_law_pen
 s_law_draw:St.Src K mg "_law_draw" s_law_draw
 s_law_common:St.Src K mg "_law_common" s_law_common
 s_law_made:St.Src K mg "_law_made" s_law_made
 s_law_plus:St.Src K mg "_law_plus" s_law_plus
 s_law_times:St.Src K mg "_law_times" s_law_times
 s_law_less:St.Src K mg "_law_less" s_law_less
 s_law_sum:St.Src K mg "_law_sum" s_law_sum
 s_law_whole:St.Src K mg "_law_whole" s_law_whole
 s_law_pieces:St.Src K mg "_law_pieces" s_law_pieces
 s_law_train:St.Src K mg "_law_train" s_law_train
 s_law_first:St.Src K mg "_law_first" s_law_first
 s_law_share:St.Src K mg "_law_share" s_law_share
 s_law_worths:St.Src K mg "_law_worths" s_law_worths
 s_law_begun:St.Src K mg "_law_begun" s_law_begun
 s_law_pooled:St.Src K mg "_law_pooled" s_law_pooled
 s_law_cost:St.Src K mg "_law_cost" s_law_cost
 s_law_borne:St.Src K mg "_law_borne" s_law_borne
 s_law_sold:St.Src K mg "_law_sold" s_law_sold
 s_law_turn:St.Src K mg "_law_turn" s_law_turn
 s_law_do:St.Src K mg "_law_do" s_law_do
 s_law_deed:St.Src K mg "_law_deed" s_law_deed
 s_law_book:St.Src K mg "_law_book" s_law_book
 s_law_thing:St.Src K mg "_law_thing" s_law_thing
 s_law_spoilt:St.Src K mg "_law_spoilt" s_law_spoilt
 s_law_in:St.Src K mg "_law_in" s_law_in
 s_law_is_amount:St.Src K mg "_law_is_amount" s_law_is_amount
 s_law_is_share:St.Src K mg "_law_is_share" s_law_is_share
 s_law_are_shares:St.Src K mg "_law_are_shares" s_law_are_shares
 s_law_is_train:St.Src K mg "_law_is_train" s_law_is_train
 s_law_is_load:St.Src K mg "_law_is_load" s_law_is_load
 s_law_are_worths:St.Src K mg "_law_are_worths" s_law_are_worths
 s_law_is_sale:St.Src K mg "_law_is_sale" s_law_is_sale
 s_law_is_deed:St.Src K mg "_law_is_deed" s_law_is_deed
 s_law_is_right:St.Src K mg "_law_is_right" s_law_is_right
 s_p_law:St.Src K mg "law" s_p_law
section
variable{P:Program}{w:World}{K:PySem.W.Frag}{mg:Str->Option Value}{base:Heap}
theorem XM{f:Addr}{fd:FuncData}(F:Fun K "law" "law" s_p_law f fd)(B:Bts mg)(FN:Lg P w K mg base)(D6:Ir P w K mg base)(HX:OO P w K mg base)(Bw:GY P w K mg base)(GJ:Mq P w K mg base)(Bj:LB P w K mg base 8)(CU:OP P w K mg base 8)(DU:IG P w K mg base):L4 P w K mg base CX0 20 f fd ["_law_script"] (spD K 1 NJ):=by
 refine dP (k:=19) F CG rfl fun cdv A outer s H E hr=>?_
 have hu:=AU hr
 exact(AF (IA PassesOwn.never rfl (Gu rfl B.range (AA (AQ (UY rfl) rfl B.max boot_max (AA AE (AA (AQ (OL rfl) rfl B.min boot_min (AA (AQ Au rfl B.len boot_len (AA (AB 0) AD)) (AA AE AD))) AD))) AD)) (Ax 1 CG.nd) (AF (BB 2 (AG HX (hr.mono (by decide)) rfl (AA (AG D6 (hr.mono (by decide)) rfl (AA (AB 0) (AA (AB 1) AD))) AD)) CG.nd)
    (AF (BB 3 (AG GJ (hr.mono (by decide)) rfl (AA (AB 2) (AA AE AD))) CG.nd)
    (AF (HQ (AB 3) (Hx rfl (AX (Ax 4 CG.nd) (AX (Ax 5 CG.nd) (AX (Ax 6 CG.nd) DJ)))))
    (AF (HQ (Ar (AA (Ar (AA BK (AA AE (AA AE (AA AE AD))))) (AA (Ar (AA BK (AA AE (AA AE (AA (Aa BZ (Ar (AA AE AD)) (Aa Ag (AN Ah (AB 4) AE) AE)) AD))))) AD))) (Hx rfl (AX (Ax 7 CG.nd) (AX (Ax 8 CG.nd) DJ))))
    (AF (BB 9 (Ar (AA AE (AA AE (AA (AG Bw (hr.mono (by decide)) rfl (AA (AB 2) (AA (AN Ah (AB 4) AE) AD))) AD)))) CG.nd)
    (AF (BB 10 (CN (AA (AB 3) (AA (BH FE rfl B.list boot_list (AA (AB 3) AD)) (AA (NT (AB 3) AE) (AA (Aa Ag (AB 3) (Ar (AA (Ar AD) AD))) (AA (Ar (AA (AB 4) (AA (BH FE rfl B.list boot_list (AA (AB 5) AD)) (AA (AB 6) AD)))) (AA (Ar (AA (AB 4) (AA (AB 5) (AA (BH FE rfl B.list boot_list (AA (AB 6) AD)) AD)))) AD))))))) CG.nd)
    (AF (BB 10 (Aa Ag (Aa Ag (AB 10) (B0 [4,9] 1 ["_law_train_here","_law_load","_law_many"] rfl RI (C0 (Ar (AA AE (AA AE (AA AE AD))))) (fun s H fp=>⟨(Ax 2 RO),CL,(Ar (AA (AB 0) (AA (Aa BZ (Ar (AA (AB 1) AD)) (AB 2)) (AA (Ar AD) AD))))⟩))) (CN (AA (Ar (AA (AB 4) (AA (Ar (AA (Ar (AA AE (AA AE (AA (AN Ah (AB 9) AE) AD)))) AD)) (AA (Ar AD) AD)))) AD))) CG.nd)
    (AF (BB 10 (Aa Ag (Aa Ag (AB 10) (B0 [4,7] 1 ["_law_train_here","_law_bring","_law_many"] rfl RV (C0 (Ar (AA AE (AA AE AD)))) (fun s H fp=>⟨(Ax 2 RQ),CL,(Ar (AA (AB 0) (AA (Ar AD) (AA (Aa BZ (Ar (AA (AB 1) AD)) (AB 2)) AD))))⟩))) (CN (AA (AG Bj (hr.mono (by decide)) rfl (AA (AB 2) (AA AE AD))) AD))) CG.nd)
    (AF (BB 10 (Aa Ag (AB 10) (B0 [4,7,8] 1 ["_law_train_here","_law_bring","_law_throw","_law_many"] rfl Rj (C0 (Ar (AA AE (AA AE AD)))) (fun s H fp=>⟨(Ax 3 RX),CL,(Ar (AA (AB 0) (AA (Ar AD) (AA (Aa Ag (Ar (AA (AB 1) AD)) (Aa BZ (Ar (AA (AB 2) AD)) (AB 3))) AD))))⟩))) CG.nd)
    (AF (BB 10 (Aa Ag (Aa Ag (AB 10) (B0 [2,3] 1 ["_law_pen_here","_law_book_here","_law_turn_here"] rfl RS (Gu rfl B.range (AA AE AD)) (fun s H fp=>⟨(Ax 2 RH),CL,(AG CU (hr.mono (by decide)) rfl (AA (AB 0) (AA (AB 1) AD)))⟩))) (CN (AA (Ar (AA (AB 4) (AA (Ar AD) (AA (Ar (AA (Ar (AA BK (AA AE (AA AE AD)))) AD)) AD)))) AD))) CG.nd)
    (AH (IA PassesOwn.never rfl (C0 (AB 10)) (Ax 11 CG.nd) (AH (BS (Ak (Ek hu) (AG FN (hr.mono (by decide)) rfl (AA (AB 11) AD)) (AG DU (hr.mono (by decide)) rfl (AA (AB 11) AD))) (AH (AR DP)) Ac)))))))))))))))
    (AH (AR DP)))
theorem cT{f:Addr}{fd:FuncData}(F:Fun K "law" "law" s_p_law f fd)(T:All w K mg):L4 P w K mg base CX0 20 f fd ["_law_script"] (spD K 1 NJ):=by
 have B:=T.bt
 have c_ALL:=T.c_ALL
 have c_MOST_DEEDS:=T.c_MOST_DEEDS
 have c_MOST_FIRST:=T.c_MOST_FIRST
 have c_MOST_THROWS:=T.c_MOST_THROWS
 have c_NOTHING:=T.c_NOTHING
 have c_UNLIKE:=T.c_UNLIKE
 have c_FORMS:=T.c_FORMS
 have CQ:=CQ (P:=P) (w:=w) (base:=base) T.s_p_is_whole B
 have A4:=A4 (P:=P) (w:=w) (base:=base) T.s_p_is_from CQ
 have AZ:=AZ (P:=P) (w:=w) (base:=base) T.s_p_is_within A4
 have Ay:=Ay (P:=P) (w:=w) (base:=base) T.s_p_greatest_divisor B
 have D5:=D5 (P:=P) (w:=w) (base:=base) T.s_p_is_amount B CQ A4 Ay
 have GR:=GR (P:=P) (w:=w) (base:=base) T.s_p_lowest Ay
 have JQ:=JQ (P:=P) (w:=w) (base:=base) T.s_p_plus GR
 have HR:=HR (P:=P) (w:=w) (base:=base) T.s_p_total c_NOTHING JQ
 have Ab:=Ab (P:=P) (w:=w) (base:=base) T.s_p_is_tuple_of B
 have CS:=CS (P:=P) (w:=w) (base:=base) T.s_p_is_share D5
 have Bp:=Bp (P:=P) (w:=w) (base:=base) T.s_p_are_owners B c_ALL HR Ab CS
 have Ec:=Ec (P:=P) (w:=w) (base:=base) T.s_p_is_train AZ Ab Bp
 have GA:=GA (P:=P) (w:=w) (base:=base) T.s_p_is_partner AZ
 have EC:=EC (P:=P) (w:=w) (base:=base) T.s_p_is_kind AZ
 have D3:=D3 (P:=P) (w:=w) (base:=base) T.s_p_is_load_number A4
 have Dg:=Dg (P:=P) (w:=w) (base:=base) T.s_p_is_trade_number AZ
 have F9:=F9 (P:=P) (w:=w) (base:=base) T.s_p_are_pieces A4
 have DV:=DV (P:=P) (w:=w) (base:=base) T.s_p_are_values B AZ Ab
 have F8:=F8 (P:=P) (w:=w) (base:=base) T.s_p_are_worths DV
 have EF:=EF (P:=P) (w:=w) (base:=base) T.s_p_is_sold_share CS
 have T_PARTS:gF P w K mg base "PARTS" 5 2 EU:=Z9 T.r_PARTS (.cons ⟨rfl,_,_,(by decide),GA⟩ (.cons ⟨rfl,_,_,(by decide),EC⟩ (.cons ⟨rfl,_,_,(by decide),D3⟩ (.cons ⟨rfl,_,_,(by decide),Dg⟩ (.cons ⟨rfl,_,_,(by decide),F9⟩ (.cons ⟨rfl,_,_,(by decide),F8⟩ (.cons ⟨rfl,_,_,(by decide),EF⟩ Paired.nil)))))))
 have FX:=FX (P:=P) (w:=w) (base:=base) T.s_p_is_part T_PARTS
 have Fi:=Fi (P:=P) (w:=w) (base:=base) T.s_p_is_load A4 Ab Bp EC
 have FZ:=FZ (P:=P) (w:=w) (base:=base) T.s_p_is_deed B c_UNLIKE c_FORMS FX
 have Du:=Du (P:=P) (w:=w) (base:=base) T.s_p_are_first B c_MOST_FIRST Fi
 have D2:=D2 (P:=P) (w:=w) (base:=base) T.s_p_are_deeds B c_MOST_DEEDS c_MOST_THROWS FZ
 have FN:=FN (P:=P) (w:=w) (base:=base) T.s_p_is_book Ab Ec Du D2
 have D6:=D6 (P:=P) (w:=w) (base:=base) T.s_law_cell_at B
 have HX:=HX (P:=P) (w:=w) (base:=base) T.s_law_pen B
 have AL:=AL (P:=P) (w:=w) (base:=base) T.s_law_draw
 have CY:=CY (P:=P) (w:=w) (base:=base) T.s_law_common
 have A1:=A1 (P:=P) (w:=w) (base:=base) T.s_law_made B CY
 have BG:=BG (P:=P) (w:=w) (base:=base) T.s_law_plus A1
 have BM:=BM (P:=P) (w:=w) (base:=base) T.s_law_times A1
 have Dl:=Dl (P:=P) (w:=w) (base:=base) T.s_law_less BG
 have HZ:=HZ (P:=P) (w:=w) (base:=base) T.s_law_sum BG
 have Bw:=Bw (P:=P) (w:=w) (base:=base) T.s_law_whole B AL A1
 have Bq:=Bq (P:=P) (w:=w) (base:=base) T.s_law_pieces AL
 have Fb:=Fb (P:=P) (w:=w) (base:=base) T.s_law_train AL Bw
 have Fj:=Fj (P:=P) (w:=w) (base:=base) T.s_law_first B AL Bw Bq
 have FU:=FU (P:=P) (w:=w) (base:=base) T.s_law_share AL A1
 have Eh:=Eh (P:=P) (w:=w) (base:=base) T.s_law_worths B AL
 have FQ:=FQ (P:=P) (w:=w) (base:=base) T.s_law_begun B
 have El:=El (P:=P) (w:=w) (base:=base) T.s_law_pooled B A1 BG BM
 have GO:=GO (P:=P) (w:=w) (base:=base) T.s_law_cost B A1
 have EB:=EB (P:=P) (w:=w) (base:=base) T.s_law_borne B BG BM Dl
 have FG:=FG (P:=P) (w:=w) (base:=base) T.s_law_sold B BG BM Dl
 have GU:=GU (P:=P) (w:=w) (base:=base) T.s_law_turn GO EB FG
 have JF:=JF (P:=P) (w:=w) (base:=base) T.s_law_do B El GU
 have GV:=GV (P:=P) (w:=w) (base:=base) T.s_law_deed B AL Bq FU Eh
 have GJ:=GJ (P:=P) (w:=w) (base:=base) T.s_law_book B AL Fb Fj FQ JF GV
 have Bj:=Bj (P:=P) (w:=w) (base:=base) T.s_law_thing B AL 8 (by decide)
 have CU:=CU (P:=P) (w:=w) (base:=base) T.s_law_spoilt B AL Bj 8 (by decide)
 have Al:=Al (P:=P) (w:=w) (base:=base) T.s_law_in B
 have Cy:=Cy (P:=P) (w:=w) (base:=base) T.s_law_is_amount B CY Al
 have Bt:=Bt (P:=P) (w:=w) (base:=base) T.s_law_is_share Cy
 have BR:=BR (P:=P) (w:=w) (base:=base) T.s_law_are_shares B HZ Bt
 have DZ:=DZ (P:=P) (w:=w) (base:=base) T.s_law_is_train B Al BR
 have Ds:=Ds (P:=P) (w:=w) (base:=base) T.s_law_is_load B Al BR
 have Co:=Co (P:=P) (w:=w) (base:=base) T.s_law_are_worths B Al
 have D4:=D4 (P:=P) (w:=w) (base:=base) T.s_law_is_sale Al Bt
 have Dv:=Dv (P:=P) (w:=w) (base:=base) T.s_law_is_deed B Al Co D4
 have DU:=DU (P:=P) (w:=w) (base:=base) T.s_law_is_right B DZ Ds Dv
 exact XM (P:=P) (w:=w) (base:=base) F B FN D6 HX Bw GJ Bj CU DU
theorem av{l:PySem.W.OpenLaw}{fa:Addr}(hfa:mg "law"=some (.ref fa))(T:All w K mg):
  ∃fd:FuncData,(∀(s:Shared) (v:Value),BindsTo s fd ⟨[v],[]⟩ [("_law_script",v)])/\∀base:Heap,K.In base->base.Ns mainGlobals mg->L4 l.prog w K mg base CX0 20 fa fd ["_law_script"] (aE K):=by
 obtain⟨f,fd,F,hm⟩:=T.s_p_law.ex
 have e:=hfa.symm.trans hm
 cases e
 refine⟨fd,fun s v=>?_,fun base _ _=>?_⟩
 ·obtain⟨oc,od,kV,doc,pm,an,cdv,ct,osl,hfd,_⟩:=F.ex
  subst hfd
  exact .of_eq rfl
 ·exact bw (cT (P:=l.prog) (w:=w) (base:=base) F T) fun ns hl=>cb ns hl
end
theorem walk{l:PySem.W.OpenLaw}{q:Program}{loose:List Str}{XP:(Str->Option Value)->Heap->Prop}{YP:World->Heap->Prop}{d:DefRec}{K:Params->PySem.W.Frag}(hn:l.most=some 63)(hdf:d.params.defaults=[])
  (hY:∀(w:World) (h:Heap),YP w h->(K w.params).In h) (hd:d.name="law")
  (F:∀(w:World) (mg:Str->Option Value) (h:Heap),(K w.params).In h->h.Ns mainGlobals mg->All w (K w.params) mg):
  PySem.W.WalkO q loose XP YP l.row.toRowW d [] (fun f vs=>PySem.call f vs):=
 L2.Yw (n:=63) (k:=20) (x:="_law_script") (CX:=fun _=>CX0) (sp:=fun w=>aE (K w.params)) hn (by decide) hdf ⟨rfl,by decide,by decide⟩ hY (fun w mg fa h KX G hmg=>av (by rw[←hd];exact hmg) (F w mg h KX G)) (fun _ _ a ns hl _ hS=>⟨a,ns,rfl,hS,hl,fun _=>rfl⟩) fun _ _ _ _ _ z=>z
end Mi
end
noncomputable section
namespace PySem.W.Fast
def tw7418793755476647268:=0
def tw13054324023820723370:=0
def tw9780329953535971119:=0
def tw16674720643876034162:=0
def tw8424049410715186454:=0
def tw11660373859014595420:=0
def tw6619742502818505294:=0
def tw16743222007356160235:=0
def tw14130515068650271349:=0
def tw14776513017768812411:=0
def tw4611409799473178259:=0
def tw3089300677114295665:=0
def tw6036092923087335402:=0
def tw2030657334806723736:=0
def tw14468949115277660115:=0
def tw5201544730312197081:=0
def tw14257480182654576670:=0
def tw12288656956605277504:=0
def tw17633979472710416724:=0
def tw661422400044849151:=0
def tw3590696124586706388:=0
def tw6338466733278266948:=0
def tw10129317251879409286:=0
def tw10104163252554838391:=0
def tw14706480468868288627:=0
def tw16278841899663579575:=0
def tw18173439178403187603:=0
def tw13858788004627672099:=0
def tw17755098777115550330:=0
def tw14202999834764851630:=0
def tw9498126774104515583:=0
def tw14329427002812938551:=0
def tw8278185799761012258:=0
def tw7790873033559332365:=0
def tw4994045151668982376:=0
def tw2237605968944947514:=0
def tw16633184413076207970:=0
def tw14854188863943017833:=0
def tw6513225909989737680:=0
def tw17379746176844743910:=0
def tw6574652372248052146:=0
def tw1264045154065410032:=0
def tw13304456666034823086:=0
def tw17186331678794576313:=0
def tw3495686629834004780:=0
def tw1034590894388630177:=0
def tw7210068529007482864:=0
def tw3378883437619430991:=0
def tw2736626038035417543:=0
def tw1132104917527292110:=0
def tw12824563156956878373:=0
def tw4327505560536629695:=0
def tw3637781820604117055:=0
def tw3942607893895160883:=0
def tw9434011729762572980:=0
def tw10040853039836530518:=0
def tw2974518004913498310:=0
def tw2451483418840730671:=0
def tw9993471529133697562:=0
def tw11861161599385564371:=0
def tw12764892807502419782:=0
def tw6405760238190521106:=0
def tw14238072390035928397:=0
def tw3347440564203968965:=0
def tw18197406146806525278:=0
def tw11933852527400471387:=0
def tw13529324246778754184:=0
def tw17520788812255196188:=0
def tw10938780022226020051:=0
def tw931931789099131095:=0
def tw15813744659951548423:=0
def tw3694376296353207639:=0
def tw1889593321275140482:=0
def tw15195771603470313624:=0
def tw10388514937406012399:=0
def tw11964082623244798329:=0
def tw15016092222922558399:=0
def tw77951051257073972:=0
def tw15864320754641207379:=0
def tw7165023527532253717:=0
def tw552847756171966766:=0
def tw12512997153436618723:=0
def tw15862617416434913055:=0
def tw9034904725911179854:=0
def tw7631105593871223066:=0
def tw14189389497495939870:=0
def tw12819251093509647936:=0
def tw15339485812778955231:=0
def tw6457296302692825254:=0
def tw14904230395623695753:=0
def tw4631184411373468832:=0
def tw16547603775327854107:=0
def tw2531610283953577933:=0
def tw13599577129026791352:=0
def tw188112811615187667:=0
def tw16158490466400267930:=0
def tw14871530336231656086:=0
def tw8330430556689169564:=0
def tw14095955729138624379:=0
def tw8799311761316478873:=0
def tw1969184505054753742:=0
def tw14034135118951035750:=0
def tw12610265515629417484:=0
def tw2402607316829793645:=0
def tw389432279983987705:=0
def tw6466943671666921149:=0
def tw3802870336077360223:=0
def tw12312824768812250902:=0
def tw16410632446761156458:=0
def tw17101048185524829002:=0
def tw9549493520565741415:=0
def tw5775559843736719292:=0
def tw3243250617940892127:=0
def tw3472823069658249638:=0
def tw11321801504284468840:=0
def tw4471303929978208935:=0
def tw8536654685913743402:=0
def tw5822776374249518896:=0
def tw15422081349130851606:=0
def tw15064205415455968399:=0
def tw7077288053231497527:=0
def tw16577275972329685990:=0
def tw5308292479595057786:=0
def tw1608558717662767552:=0
def tw12199769139623786997:=0
def tw12194942931949842574:=0
def tw7852980628162035662:=0
def tw18175244702447695009:=0
def tw10618549581956326964:=0
def tw1102635525435829988:=0
def tw12962531328795802210:=0
def tw7937132881115596951:=0
def tw7763713616823957722:=0
def tw1036097049580996105:=0
def tw2342282161039341455:=0
def tw9662642314426538292:=0
def tw86372669339827263:=0
def tw752743281282092351:=0
def tw12516850840667485025:=0
def tw3164142486470547787:=0
def tw3482716971045517047:=0
def tw11322890242988200019:=0
def tw12403748875877106044:=0
def tw16298852936898051311:=0
def tw12293195442514208787:=0
def tw2230173421307963584:=0
def tw18210624394612305975:=0
def tw9357121530569345072:=0
def tw16533060809431842847:=0
def tw11475428321930859579:=0
def tw1977967718325547082:=0
def tw12970880216582410173:=0
def tw3431760741434845305:=0
def tw2088305203356745204:=0
def tw7304206292991885598:=0
def tw17420529793031621508:=0
def tw9798014387461456617:=0
def tw10524843654362843673:=0
def tw488372482628255227:=0
def tw17882761217573906589:=0
def tw18135683969719666360:=0
def tw6755003333670402405:=0
def tw9372041082779602005:=0
def tw1905864605620098365:=0
def tw7497783651810180759:=0
def tw5866512280981271369:=0
def tw14731422093337667129:=0
def tw1451434988056212585:=0
def tw14633496894851083871:=0
def tw6097232516647091923:=0
def tw12006388812825644537:=0
def tw2406511721980014448:=0
def tw10790871358536743804:=0
def tw10997357076183805:=0
def tw12762282349942201331:=0
def tw2936778972435943664:=0
def tw15881338056518756270:=0
def tw9052663379083364229:=0
def tw14853476613352928969:=0
def tw3308048342118546623:=0
def tw4511664202045417098:=0
def tw1559397852410230934:=0
def tw2816721714433086306:=0
def tw10942999694836636186:=0
def tw10906219436587124047:=0
def tw12520722109520057878:=0
def tw9546906486895992258:=0
def tw1940841724783689346:=0
def tw18400955847329737648:=0
def tw8466088907372628266:=0
def tw12074238566301436884:=0
def tw16568618264688125576:=0
def tw10209813204139808194:=0
def tw197053763544619892:=0
def tw5974674829678083096:=0
def tw18130268632110449866:=0
def tw9537182934222185091:=0
def tw15195239316478151471:=0
def tw17786063175816033132:=0
def tw6955940759746979578:=0
def tw9438087545378057441:=0
def tw14609780374769701656:=0
def tw17461987955747059988:=0
def tw17069641547623046645:=0
def tw14098349261337997643:=0
def tw12166535414384596366:=0
def tw11145503002695227920:=0
def tw14565454410031579758:=0
def tw5667533033276688479:=0
def tw7708895855359035453:=0
def tw11197730760969299902:=0
def tw14629657040282181497:=0
def tw7537086380515711027:=0
def tw16643263732942161828:=0
def tw15418912503205770989:=0
def tw7273466949356564253:=0
def tw2097753791521372313:=0
def tw9732824128713002001:=0
def tw8334966787545026782:=0
def tw2434445619362294854:=0
def tw1356420068782649378:=0
def tw3064051067657666604:=0
def tw3270439794744555173:=0
def tw6846822232330499736:=0
def tw279144208117877307:=0
def tw9267353607070808101:=0
def tw16237349631024771393:=0
def tw5722138310848741906:=0
def tw950135494971790030:=0
def tw2050245016557502151:=0
def tw11093558511960951743:=0
def tw14278187587083462983:=0
def tw3008482057907604212:=0
def tw5352160117925717840:=0
def tw17165306583402152301:=0
def tw18342119655004798742:=0
def tw8088021526175218968:=0
def tw3057532364498216691:=0
def tw10552552790136835497:=0
def tw4439996157847893293:=0
def tw2317326542116373237:=0
def tw3614297220732501479:=0
def tw5666325636858345535:=0
def tw12075183487444842963:=0
def tw16413572350489845446:=0
def tw12241237765343264536:=0
def tw8128509076623599854:=0
def tw6242470973932410076:=0
def tw3679141151327699409:=0
def tw16725286879653812006:=0
def tw16903900093608112004:=0
def tw8425929344291975692:=0
def tw10481982674569716458:=0
def tw4347831975499378993:=0
def tw15152712597203956194:=0
def tw11495790645042884218:=0
def tw1018162731339409035:=0
def tw4267752025429191896:=0
def tw543165195481347664:=0
def tw18188236383913147475:=0
def tw13026032029879138945:=0
def tw17665173097255988746:=0
def tw4981681795172288402:=0
def tw9293957941380922221:=0
def tw5609556177137076375:=0
def tw6994759398484711128:=0
def tw17338161244265316617:=0
def tw1978974675136386610:=0
def tw6478779591824352404:=0
def tw357747229880317448:=0
def tw13622917409397874772:=0
def tw4663782280696637174:=0
def tw13754541653147590797:=0
def tw18109305720089124727:=0
def tw2505392508392346339:=0
def tw15157400058874528903:=0
def tw3646677267908508376:=0
def tw16056614062379918159:=0
def tw273098973403443820:=0
def tw6684773819467176482:=0
def tw8918606495965120170:=0
def tw11116869703178248928:=0
def tw5823503331786090994:=0
def tw13257512882377837822:=0
def tw1707151549342808724:=0
def tw8706471954887309714:=0
def tw131820370475669532:=0
def tw17899180852584335858:=0
def tw764420923449146639:=0
def tw791046902908932481:=0
def tw14229773763622830942:=0
def tw15508913988707639368:=0
def tw14955222002102195791:=0
def tw15742312246710901831:=0
def tw12943361835432091642:=0
def tw6306831246089592291:=0
def tw7172890488403583078:=0
def tw339592597082233480:=0
def tw246005836468428898:=0
def tw10852804906422089292:=0
def tw972251145082635526:=0
def tw4036813137180995351:=0
def tw3269374268208834639:=0
def tw17299419951365770026:=0
def tw7887858118600036560:=0
def tw5084657542250197854:=0
def tw11888383507320693809:=0
def tw8698344434452696932:=0
def tw3102253952120381990:=0
def tw17332694376734107716:=0
def tw13955436682448703752:=0
def tw8041277414350421003:=0
def tw5794717447216055295:=0
def tw2841620852301456468:=0
def tw11518950707297754781:=0
def tw2153160198757024047:=0
def tw16277078870504617654:=0
def tw18067665202913000636:=0
def tw5604074809093246953:=0
def tw13433014490286358731:=0
def tw6830397007069803763:=0
def tw13216819814104904274:=0
def tw3514483719915660549:=0
def tw8404829192345848505:=0
def tw11550135639324345470:=0
def tw16587194423588156652:=0
def tw3538553879746155378:=0
def tw16214629341629256785:=0
def tw15380994779491298492:=0
def tw6350100059807060663:=0
def tw5884156614151296077:=0
def tw12369228741905227824:=0
def tw11312234351933062257:=0
def tw8771168051302810852:=0
def tw18392774485321069341:=0
def tw7329049238733579724:=0
def tw6659639722498910239:=0
def tw979655415277982611:=0
def tw11753842301407904311:=0
def tw5808847890746318744:=0
def tw13401388908559550765:=0
def tw14358053742362799033:=0
def tw3861370398263357426:=0
def tw1944276760077533345:=0
def tw13138571995781391617:=0
def tw14105156899238200085:=0
def tw4555445320208102985:=0
def tw7262977896744533814:=0
def tw10627471757260244282:=0
def tw12861423616737817733:=0
def tw8470687861456865073:=0
def tw13793768542672109049:=0
def tw13814664730358642399:=0
def tw17816047005661020102:=0
def tw13403358106608632705:=0
def tw10413775109117465304:=0
def tw3661765081870152086:=0
def tw2604609536578309144:=0
def tw6979928573227817897:=0
def tw10756311305138046759:=0
def tw8781565608068841283:=0
def tw8260276767022589855:=0
def tw17572283689758633273:=0
def tw6995056853999591127:=0
def tw6550869856739267795:=0
def tw12170918460041921668:=0
def tw13565089199957176694:=0
def tw17731720932932434267:=0
def tw16271371774142154718:=0
def tw2138288895763836690:=0
def tw10468061415574478161:=0
def tw12986230293654159248:=0
def tw3166973691442885287:=0
def tw2638545249436915007:=0
def tw11651963986032233149:=0
def tw11026018537547761220:=0
def tw1352629134040041806:=0
def tw5948384352794504746:=0
def tw10642792138213280481:=0
def tw12199716010109760950:=0
def tw18332810830256985694:=0
def tw11405189192105319806:=0
def tw13996716993551513096:=0
def tw16463105351833909404:=0
def tw16770544232358829103:=0
def tw14723395986462268194:=0
def tw9269693494937395338:=0
def tw13114594030277494957:=0
def tw9845835335967949951:=0
def tw4891844158947835121:=0
def tw16259426131735991476:=0
def tw14041502497016434966:=0
def tw777067655042462380:=0
def tw10852326779385696522:=0
def tw15411543426025922495:=0
def tw2973828403603386888:=0
def tw4758968901975565926:=0
def tw2110244520187479544:=0
def tw13276946740446542184:=0
def tw3545389272807148391:=0
def tw8982029755681130791:=0
def tw12448496982874386485:=0
def tw13790675531271098486:=0
def tw10413387569699240005:=0
end PySem.W.Fast
open PySem PySem.W PyProof.Rows
set_option maxRecDepth 100000 in
set_option maxHeartbeats 0 in
theorem PySem.Challenge.cw_sharetrail_k03_books_looked_at_holds : PySem.Challenge.rw_sharetrail_k03_books_looked_at.Holds := by
  w_on;o_law;k_head;(case hw=>w_witness2)
  k_fill
  refine Mi.walk (l:=PySem.Challenge.rw_sharetrail_k03_books_looked_at) rfl rfl (fun w h Y=>PySem.W.kIn_of Y) rfl ?F
  case F =>
    intro w mg h KX G
    have c_ALL:Mi.MY (L2.KOf KX) mg "ALL" Mi.R4:=by
      dsimp only[L2.KOf]
      refine' Mi.Mb KX G ?e ?r
      (case e=>k_is)
      case r=>
        refine' Mi.F5 ?l ?z ?r
        (case l=>k_is)
        (case z=>decide)
        case r=>
          refine' Paired.cons ?_ ?_
          ·exact Mi.IY
          refine' Paired.cons ?_ ?_
          ·exact Mi.IY
          exact Paired.nil
    have c_MOST_DEEDS:Mi.MY (L2.KOf KX) mg "MOST_DEEDS" Mi.Ef:=by
      dsimp only[L2.KOf]
      refine' Mi.Mb KX G ?e ?r
      (case e=>k_is)
      case r=>
        exact Mi.IY
    have c_MOST_FIRST:Mi.MY (L2.KOf KX) mg "MOST_FIRST" Mi.EY:=by
      dsimp only[L2.KOf]
      refine' Mi.Mb KX G ?e ?r
      (case e=>k_is)
      case r=>
        exact Mi.IY
    have c_MOST_THROWS:Mi.MY (L2.KOf KX) mg "MOST_THROWS" Mi.Dx:=by
      dsimp only[L2.KOf]
      refine' Mi.Mb KX G ?e ?r
      (case e=>k_is)
      case r=>
        exact Mi.IY
    have c_NOTHING:Mi.MY (L2.KOf KX) mg "NOTHING" Mi.HS:=by
      dsimp only[L2.KOf]
      refine' Mi.Mb KX G ?e ?r
      (case e=>k_is)
      case r=>
        refine' Mi.F5 ?l ?z ?r
        (case l=>k_is)
        (case z=>decide)
        case r=>
          refine' Paired.cons ?_ ?_
          ·exact Mi.IY
          refine' Paired.cons ?_ ?_
          ·exact Mi.IY
          exact Paired.nil
    have c_UNLIKE:Mi.MY (L2.KOf KX) mg "UNLIKE" Mi.Ft:=by
      dsimp only[L2.KOf]
      refine' Mi.Mb KX G ?e ?r
      (case e=>k_is)
      case r=>
        refine' Mi.F5 ?l ?z ?r
        (case l=>k_is)
        (case z=>decide)
        case r=>
          refine' Paired.cons ?_ ?_
          ·exact Mi.Bm
          refine' Paired.cons ?_ ?_
          ·exact Mi.Bm
          exact Paired.nil
    have c_FORMS:Mi.ak (L2.KOf KX) w mg "FORMS" Mi.Ca:=by
      dsimp only[L2.KOf]
      refine' Mi.Zj KX G ?e ?l ?hk ?hne ?hp
      (case e=>k_is)
      (case l=>k_is)
      (case hk=>repeat (first|exact True.intro|refine' And.intro ⟨_,_,rfl,rfl⟩ ?_))
      (case hne=>decide)
      case hp=>
        refine' Paired.cons ⟨⟨_,rfl⟩,?_⟩ ?_
        · refine' Mi.F5 ?l ?z ?r
          (case l=>k_is)
          (case z=>decide)
          case r=>
            refine' Paired.cons ?_ ?_
            ·exact Mi.Bm
            refine' Paired.cons ?_ ?_
            ·exact Mi.Bm
            refine' Paired.cons ?_ ?_
            ·exact Mi.Bm
            exact Paired.nil
        refine' Paired.cons ⟨⟨_,rfl⟩,?_⟩ ?_
        · refine' Mi.F5 ?l ?z ?r
          (case l=>k_is)
          (case z=>decide)
          case r=>
            refine' Paired.cons ?_ ?_
            ·exact Mi.Bm
            refine' Paired.cons ?_ ?_
            ·exact Mi.Bm
            exact Paired.nil
        refine' Paired.cons ⟨⟨_,rfl⟩,?_⟩ ?_
        · refine' Mi.F5 ?l ?z ?r
          (case l=>k_is)
          (case z=>decide)
          case r=>
            refine' Paired.cons ?_ ?_
            ·exact Mi.Bm
            refine' Paired.cons ?_ ?_
            ·exact Mi.Bm
            refine' Paired.cons ?_ ?_
            ·exact Mi.Bm
            refine' Paired.cons ?_ ?_
            ·exact Mi.Bm
            exact Paired.nil
        refine' Paired.cons ⟨⟨_,rfl⟩,?_⟩ ?_
        · refine' Mi.F5 ?l ?z ?r
          (case l=>k_is)
          (case z=>decide)
          case r=>
            refine' Paired.cons ?_ ?_
            ·exact Mi.Bm
            refine' Paired.cons ?_ ?_
            ·exact Mi.Bm
            refine' Paired.cons ?_ ?_
            ·exact Mi.Bm
            refine' Paired.cons ?_ ?_
            ·exact Mi.Bm
            refine' Paired.cons ?_ ?_
            ·exact Mi.Bm
            exact Paired.nil
        refine' Paired.cons ⟨⟨_,rfl⟩,?_⟩ ?_
        · refine' Mi.F5 ?l ?z ?r
          (case l=>k_is)
          (case z=>decide)
          case r=>
            refine' Paired.cons ?_ ?_
            ·exact Mi.Bm
            refine' Paired.cons ?_ ?_
            ·exact Mi.Bm
            exact Paired.nil
        refine' Paired.cons ⟨⟨_,rfl⟩,?_⟩ ?_
        · refine' Mi.F5 ?l ?z ?r
          (case l=>k_is)
          (case z=>decide)
          case r=>
            refine' Paired.cons ?_ ?_
            ·exact Mi.Bm
            refine' Paired.cons ?_ ?_
            ·exact Mi.Bm
            refine' Paired.cons ?_ ?_
            ·exact Mi.Bm
            exact Paired.nil
        refine' Paired.cons ⟨⟨_,rfl⟩,?_⟩ ?_
        · refine' Mi.F5 ?l ?z ?r
          (case l=>k_is)
          (case z=>decide)
          case r=>
            refine' Paired.cons ?_ ?_
            ·exact Mi.Bm
            refine' Paired.cons ?_ ?_
            ·exact Mi.Bm
            refine' Paired.cons ?_ ?_
            ·exact Mi.Bm
            exact Paired.nil
        exact Paired.nil
    have r_PARTS:Mi.eI w (L2.KOf KX) mg "PARTS" [("partner","is_partner"),("kind","is_kind"),("load","is_load_number"),("number","is_trade_number"),("pieces","are_pieces"),("worths","are_worths"),("share","is_sold_share")]:=by
      dsimp only[L2.KOf]
      refine' Mi.aF KX G ?e ?l ?hk ?hne ?hp
      (case e=>k_is)
      (case l=>k_is)
      (case hk=>repeat (first|exact True.intro|refine' And.intro ⟨_,_,rfl,rfl⟩ ?_))
      (case hne=>decide)
      case hp=>
        refine' Paired.cons ⟨⟨_,rfl⟩,_,rfl,?_⟩ ?_
        ·k_is
        refine' Paired.cons ⟨⟨_,rfl⟩,_,rfl,?_⟩ ?_
        ·k_is
        refine' Paired.cons ⟨⟨_,rfl⟩,_,rfl,?_⟩ ?_
        ·k_is
        refine' Paired.cons ⟨⟨_,rfl⟩,_,rfl,?_⟩ ?_
        ·k_is
        refine' Paired.cons ⟨⟨_,rfl⟩,_,rfl,?_⟩ ?_
        ·k_is
        refine' Paired.cons ⟨⟨_,rfl⟩,_,rfl,?_⟩ ?_
        ·k_is
        refine' Paired.cons ⟨⟨_,rfl⟩,_,rfl,?_⟩ ?_
        ·k_is
        exact Paired.nil
    have z_abs:mg "abs"=none:=by
      refine' PySem.W.mg_none_of KX G ?z
      (case z=>k_is)
    have z_all:mg "all"=none:=by
      refine' PySem.W.mg_none_of KX G ?z
      (case z=>k_is)
    have z_bool:mg "bool"=none:=by
      refine' PySem.W.mg_none_of KX G ?z
      (case z=>k_is)
    have z_enumerate:mg "enumerate"=none:=by
      refine' PySem.W.mg_none_of KX G ?z
      (case z=>k_is)
    have z_int:mg "int"=none:=by
      refine' PySem.W.mg_none_of KX G ?z
      (case z=>k_is)
    have z_isinstance:mg "isinstance"=none:=by
      refine' PySem.W.mg_none_of KX G ?z
      (case z=>k_is)
    have z_len:mg "len"=none:=by
      refine' PySem.W.mg_none_of KX G ?z
      (case z=>k_is)
    have z_list:mg "list"=none:=by
      refine' PySem.W.mg_none_of KX G ?z
      (case z=>k_is)
    have z_max:mg "max"=none:=by
      refine' PySem.W.mg_none_of KX G ?z
      (case z=>k_is)
    have z_min:mg "min"=none:=by
      refine' PySem.W.mg_none_of KX G ?z
      (case z=>k_is)
    have z_range:mg "range"=none:=by
      refine' PySem.W.mg_none_of KX G ?z
      (case z=>k_is)
    have z_str:mg "str"=none:=by
      refine' PySem.W.mg_none_of KX G ?z
      (case z=>k_is)
    have z_sum:mg "sum"=none:=by
      refine' PySem.W.mg_none_of KX G ?z
      (case z=>k_is)
    have z_tuple:mg "tuple"=none:=by
      refine' PySem.W.mg_none_of KX G ?z
      (case z=>k_is)
    have z_zip:mg "zip"=none:=by
      refine' PySem.W.mg_none_of KX G ?z
      (case z=>k_is)
    refine⟨⟨z_abs,z_all,z_bool,z_enumerate,z_int,z_isinstance,z_len,z_list,z_max,z_min,z_range,z_str,z_sum,z_tuple,z_zip⟩,c_ALL,c_MOST_DEEDS,c_MOST_FIRST,c_MOST_THROWS,c_NOTHING,c_UNLIKE,c_FORMS,r_PARTS,?_,?_,?_,?_,?_,?_,?_,?_,?_,?_,?_,?_,?_,?_,?_,?_,?_,?_,?_,?_,?_,?_,?_,?_,?_,?_,?_,?_,?_,?_,?_,?_,?_,?_,?_,?_,?_,?_,?_,?_,?_,?_,?_,?_,?_,?_,?_,?_,?_,?_,?_,?_,?_,?_,?_,?_,?_,?_,?_,?_,?_,?_,?_⟩
    all_goals (refine' Mi.cU KX G ?a ?l ?c ?k;(case a=>k_is);(case l=>k_is);(case c=>k_is);(case k=>k_is))
end
