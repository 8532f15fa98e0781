import PyProof.Rows.All
import Wide.All
import OpenK.AllK
import Wide.FinOn
import Lean
import PyProof.EqAt
import PyProof.EqKinds
import PyProof.TupleCall
import PyProof.Draws
import PyProof.EnumMake
import PyProof.EnumFor
import PyProof.ZipIter
import PyProof.ListMulRoad
import PyProof.NeData
import PyProof.SumWalkG
import PyProof.Rows.SetFrom
import PyProof.SetRoads
import PyProof.TupleIter
import PyProof.MinMaxWalk
import PyProof.Rows.CallKwBuiltin
import PyProof.Rows.SortShell
import PySem.Challenge.RW_sharetrail_k28_chains_looked_at
set_option Elab.async false
set_option linter.all false
set_option maxRecDepth 100000
set_option exponentiation.threshold 10000
set_option maxHeartbeats 4000000
noncomputable section
namespace L2
open PySem PySem.Spec PyProof.Rows
abbrev Key:=Sum Int Str
noncomputable def PK:Key->Value->Bool
 | .inl k,v=>Value.isInt k v
 | .inr x,v=>Value.isStrOf x v
noncomputable def fR(w:World):Key->Int
 | .inl k=>hashInt k
 | .inr x=>hashStr w x
theorem CC:∀{k:Key} {v:Value},PK k v=true->(∃i t,k=Sum.inl i/\v=Value.int i t)∨(∃x t,k=Sum.inr x/\v=Value.str x t)
  | .inl i,v,h=>by
    obtain⟨t,e⟩:=Value.isInt_shape (k:=i) (v:=v) h
    exact .inl ⟨i,t,rfl,e⟩
  | .inr x,v,h=>by
    obtain⟨t,e⟩:=Value.isStrOf_shape (x:=x) (v:=v) h
    exact .inr ⟨x,t,rfl,e⟩
theorem QT(i:Int)(t:Tok):PK (.inl i) (.int i t)=true:=by simp[PK,Value.isInt]
theorem Pz(x:Str)(t:Tok):PK (.inr x) (.str x t)=true:=by simp[PK,Value.isStrOf]
theorem ZI(a b:Int):decide ((Sum.inl a:Key)=Sum.inl b)=(a==b):=by
 by_cases e:a=b
 ·subst e;simp
 ·have h:¬(Sum.inl a:Key)=Sum.inl b:=fun q=>e (Sum.inl.inj q)
  rw[decide_eq_false h]
  exact(beq_eq_false_iff_ne.mpr e).symm
theorem YF(a b:Str):decide ((Sum.inr a:Key)=Sum.inr b)=decide (a=b):=by
 by_cases e:a=b
 ·subst e;simp
 ·have h:¬(Sum.inr a:Key)=Sum.inr b:=fun q=>e (Sum.inr.inj q)
  rw[decide_eq_false h,decide_eq_false e]
theorem Yg(a:Int)(b:Str):decide ((Sum.inl a:Key)=Sum.inr b)=false:=decide_eq_false (fun q=>nomatch q)
theorem YY(a:Str)(b:Int):decide ((Sum.inr a:Key)=Sum.inl b)=false:=decide_eq_false (fun q=>nomatch q)
noncomputable def Cg(prog:Program)(w:World):PySem.KeyKind prog w Key where
 is:=PK
 hash:=fR w
 inj:=fun v a b ha hb=>by
  rcases CC ha with⟨i,t,rfl,rfl⟩|⟨x,t,rfl,rfl⟩
  ·rcases CC hb with⟨j,u,rfl,e⟩|⟨y,u,rfl,e⟩
   ·injection e with e1 _;rw[e1]
   ·exact nomatch e
  ·rcases CC hb with⟨j,u,rfl,e⟩|⟨y,u,rfl,e⟩
   ·exact nomatch e
   ·injection e with e1 _;rw[e1]
 byValue:=fun k v h=>by
  rcases CC h with⟨i,t,rfl,rfl⟩|⟨x,t,rfl,rfl⟩<;>rfl
 pyHash:=fun hv h=>by
  rcases CC hv with⟨i,t,rfl,rfl⟩|⟨x,t,rfl,rfl⟩
  ·exact wpAny_pyHash_int h
  ·exact wpAny_pyHash_str h
 eqBool:=fun hu hv h=>by
  rcases CC hu with⟨i,t,rfl,rfl⟩|⟨x,t,rfl,rfl⟩
  ·rcases CC hv with⟨j,u,rfl,rfl⟩|⟨y,u,rfl,rfl⟩
   ·rw[ZI]at h;exact wpAny_eqBool_int h
   ·rw[Yg]at h;exact SeqAt.EqAt.int_str i t y u _ _ _ _ h
  ·rcases CC hv with⟨j,u,rfl,rfl⟩|⟨y,u,rfl,rfl⟩
   ·rw[YY]at h;exact SeqAt.EqAt.str_int x t j u _ _ _ _ h
   ·rw[YF]at h;exact wpAny_eqBool_str h
 «strs» :=fun k x t v h=>by
  rcases CC h with⟨i,u,rfl,e⟩|⟨y,u,rfl,e⟩
  ·exact nomatch e
  ·injection e with e1 _
   subst e1
   cases v<;>rfl
theorem N7(prog:Program)(w:World)(i:Int)(t:Tok):(Cg prog w).is (.inl i) (.int i t)=true:=QT i t
theorem Np(prog:Program)(w:World)(x:Str)(t:Tok):(Cg prog w).is (.inr x) (.str x t)=true:=Pz x t
end L2
namespace L2
open PySem PySem.Spec PyProof.Rows
inductive V where
 |non|bl (b:Bool)|int (i:Int)|str (x:Str)|byt (b:Array UInt8)|flt (b:UInt64)|ref (a:Addr)|ty (n:String)
 deriving DecidableEq
def RelV:V->Value->Prop
 | .non,u=>u=Value.none
 | .bl b,u=>u=Value.bool b
 | .int i,u=>∃t,u=Value.int i t
 | .str x,u=>∃t,u=Value.str x t
 | .byt b,u=>∃t,u=Value.bytes b t
 | .flt b,u=>∃t,u=Value.float b t
 | .ref a,u=>u=Value.ref a
 | .ty n,u=>u=Value.type n
abbrev Vals:List V->List Value->Prop:=Paired RelV
theorem Vals.length{xs:List V}{us:List Value}(r:Vals xs us):xs.length=us.length:=Paired.length r
theorem Vals.get:∀{xs:List V} {us:List Value} {i:Nat} {x:V},Vals xs us->xs[i]?=some x->∃u,us[i]?=some u/\RelV x u
  |_,_,_,_,.nil,e=>by simp at e
  |_,_,0,_,.cons r _,e=>by simp at e;subst e;exact⟨_,rfl,r⟩
  | _, _, i + 1, x, .cons _ t, e => by
    obtain⟨u,h1,h2⟩:=Vals.get (i:=i) (x:=x) t (by simpa using e)
    exact⟨u,by simpa using h1,h2⟩
theorem Vals.set{x:V}{u:Value}(r:RelV x u):∀{xs:List V} {us:List Value} (i:Nat),Vals xs us->Vals (xs.set i x) (us.set i u)
 |_,_,_,.nil=>.nil
 |_,_,0,.cons _ t=>.cons r t
 |_,_,i+1,.cons q t=>.cons q (Vals.set r i t)
theorem Vals.append:∀{xs ys:List V} {us ws:List Value},Vals xs us->Vals ys ws->Vals (xs++ys) (us++ws)
 |_,_,_,_,.nil,s=>s
 |_,_,_,_,.cons r t,s=>.cons r (Vals.append t s)
theorem Vals.take:∀{xs:List V} {us:List Value} (n:Nat),Vals xs us->Vals (xs.take n) (us.take n)
 |_,_,0,_=>.nil
 |_,_,_+1,.nil=>.nil
 |_,_,n+1,.cons r t=>.cons r (Vals.take n t)
theorem Vals.drop:∀{xs:List V} {us:List Value} (n:Nat),Vals xs us->Vals (xs.drop n) (us.drop n)
 |_,_,0,r=>r
 |_,_,_+1,.nil=>.nil
 |_,_,n+1,.cons _ t=>Vals.drop n t
theorem Vals.none_of:∀{xs:List V} {us:List Value} {i:Nat},Vals xs us->xs[i]?=none->us[i]?=none:=fun{xs us i} r e=>by
 have h1:=r.length
 have h2:xs.length≤i:=List.getElem?_eq_none_iff.mp e
 exact List.getElem?_eq_none_iff.mpr (by omega)
def Zv:Option V->Option Value->Prop
 |some v,some u=>RelV v u
 |none,none=>True
 |_,_=>False
def KV{κ:Type}:List (κ×V)->List (κ×Value)->Prop:=Paired fun(p:κ×V) (q:κ×Value)=>p.1=q.1/\RelV p.2 q.2
noncomputable def kV:Key->V
 | .inl i=>.int i
 | .inr x=>.str x
inductive HO where
 |lst (xs:List V)
 |tup (xs:List V)
 |dK (kvs:List (Key×V))|dT (kvs:List (List Key×V))
 |set (S:Int->Bool) (n:Nat)
 |ins (C dx:Addr) (fs:List (Str×V))
 |own (x:Addr)
 |xd (fs:List (Str×V))
 |met (f x:Addr)
 |rng (lo hi:Int)
 |frz (o:Obj) (u:HO)
 |tbl (ps:Array Value)
 |ext (φ:Heap->Prop)
abbrev Hp:=Addr->Option HO
noncomputable def upd(H:Hp)(a:Addr)(o:HO):Hp:=fun b=>if b=a then some o else H b
theorem BK{H:Hp}{a:Addr}{o:HO}:upd H a o a=some o:=by unfold upd;rw[if_pos rfl]
theorem Al{H:Hp}{a b:Addr}{o:HO}(h:b≠a):upd H a o b=H b:=by unfold upd;rw[if_neg h]
theorem BR{H:Hp}{a b:Addr}{o:HO}(h:H a=some o)(h':H b=none):a≠b:=by
 intro e;subst e;rw[h]at h';cases h'
section
variable(P:Program)(w:World)
def DN(H:Hp)(h:Heap)(a:Addr):HO->Prop
 | .lst xs=>xs.length≤sizeLine/\∃(its:List Value) (n:Nat),Vals xs its/\h.get? a=some {cls:=.type "list",data:=.seq its.toArray n}
 | .tup xs=>xs.length≤sizeLine/\∃its:List Value,Vals xs its/\IsTup h a its.toArray
 | .dK kvs=>kvs.length≤sizeLine/\(a==sysModules)=false/\∃vs,KV kvs vs/\h.DictOf (Cg P w) a vs
 | .dT kvs=>kvs.length≤sizeLine/\(a==sysModules)=false/\∃xs:List (List Key×Addr×Value),
   Paired (fun(p:List Key×V) (q:List Key×Addr×Value)=>p.1=q.1/\H q.2.1=some (.tup (p.1.map kV))/\RelV p.2 q.2.2) kvs xs/\
   ∃o es ep,h.get? a=some o/\o.ExactDict/\o.data=.dict es ep/\es.toList=xs.map (entryOfKey (tupleKind (Cg P w)))/\(xs.map (·.1)).Nodup
 | .set S n=>h.SetOf (intKind P w) a S n
 | .ins C dx fs=>H dx=some (.own a)/\fs.length≤1000/\dx≠a/\h.get? a=some (PySem.W.instObj C dx)/\
   ∃mA,h.Ns1 dx mA/\(∀f,Zv (fs.lookup f) (mA f))/\PySem.Within mA (fs.map (·.1))
 | .own _=>∃o,h.get? a=some o
 | .xd fs=>∃mA,h.Ns1 a mA/\∀f,Zv (fs.lookup f) (mA f)
 | .rng lo hi=>∃t u v,h.get? a=some {cls:=.type "range",data:=.fields #[.int lo t,.int hi u,.int 1 v]}
 | .frz o u=>h.get? a=some o/\DN H h a u
 | .tbl ps=>h.get? a=some {cls:=.none,data:=.fields ps}
 | .met f x=>h.get? a=some (PySem.W.methodObj (.ref f) (.ref x))
 | .ext φ=>φ h/\(∃o,h.get? a=some o)/\∀h1 h2:Heap,φ h1->(∀o,h1.get? a=some o->h2.get? a=some o)->φ h2
def HOk(H:Hp)(h:Heap):Prop:=∀a o,H a=some o->DN P w H h a o
end
section
variable{P:Program}{w:World}{H H':Hp}{h h':Heap}{a:Addr}{o:HO}
theorem DN.lt(x:DN P w H h a o):a<h.objs.size:=by
 cases o with
 |lst xs=>obtain⟨_,_,_,_,e⟩:=x;exact Heap.lt_size e
 |tup xs=>obtain⟨_,_,_,p⟩:=x;exact p.lt
 |dK kvs=>obtain⟨_,_,_,_,o,_,_,e,_⟩:=x;exact Heap.lt_size e
 |dT kvs=>obtain⟨_,_,_,_,o,_,_,e,_⟩:=x;exact Heap.lt_size e
 |set S n=>obtain⟨o,_,_,_,e,_⟩:=x;exact Heap.lt_size e
 |ins C dx fs=>obtain⟨_,_,_,e,_⟩:=x;exact Heap.lt_size e
 |own y=>obtain⟨_,e⟩:=x;exact Heap.lt_size e
 |xd fs=>obtain⟨_,⟨_,_,_,e,_⟩,_⟩:=x;exact Heap.lt_size e
 |rng lo hi=>obtain⟨_,_,_,e⟩:=x;exact Heap.lt_size e
 |frz ob u=>obtain⟨e,_⟩:=x;exact Heap.lt_size e
 |tbl ps=>exact Heap.lt_size (show h.get? a=some _ from x)
 |met f y=>exact Heap.lt_size (show h.get? a=some _ from x)
 |ext φ=>obtain⟨_,⟨_,e⟩,_⟩:=x;exact Heap.lt_size e
theorem Paired.mapP{α β:Type}{F G:α->β->Prop}:∀{l₁:List α} {l₂:List β},Paired F l₁ l₂->(∀a b,F a b->G a b)->Paired G l₁ l₂
 |_,_,.nil,_=>.nil
 |_,_,.cons r t,f=>.cons (f _ _ r) (Paired.mapP t f)
theorem DN.stay(x:DN P w H h a o)(k:∀b u,(b=a∨H b=some (.own a))->h.get? b=some u->h'.get? b=some u)
    (ho:∀b,H b=some (.own a)->H' b=some (.own a)) (ht:∀b xs,H b=some (.tup xs)->H' b=some (.tup xs)):DN P w H' h' a o:=by
  induction o with
  |lst xs=>obtain⟨z,its,n,r,e⟩:=x;exact⟨z,its,n,r,k _ _ (.inl rfl) e⟩
  |tup xs=>obtain⟨z,its,r,ob,e,c⟩:=x;exact⟨z,its,r,ob,k _ _ (.inl rfl) e,c⟩
  |dK kvs=>obtain⟨z,y,vs,r,ob,es,ep,e,c⟩:=x;exact⟨z,y,vs,r,ob,es,ep,k _ _ (.inl rfl) e,c⟩
  | dT kvs =>
    obtain⟨z,y,xs,r,ob,es,ep,e,c⟩:=x
    exact⟨z,y,xs,Paired.mapP r fun p q z=>⟨z.1,ht _ _ z.2.1,z.2.2⟩,ob,es,ep,k _ _ (.inl rfl) e,c⟩
  |set S n=>obtain⟨ob,es,ep,t,e,c⟩:=x;exact⟨ob,es,ep,t,k _ _ (.inl rfl) e,c⟩
  | ins C dx fs =>
    obtain⟨d,z,ne,e,mA,⟨od,es,ep,e2,c⟩,r⟩:=x
    exact⟨ho _ d,z,ne,k _ _ (.inl rfl) e,mA,⟨od,es,ep,k _ _ (.inr d) e2,c⟩,r⟩
  |own y=>obtain⟨ob,e⟩:=x;exact⟨ob,k _ _ (.inl rfl) e⟩
  |xd fs=>obtain⟨mA,⟨od,es,ep,e,c⟩,r⟩:=x;exact⟨mA,⟨od,es,ep,k _ _ (.inl rfl) e,c⟩,r⟩
  |rng lo hi=>obtain⟨t,u,v,e⟩:=x;exact⟨t,u,v,k _ _ (.inl rfl) e⟩
  |frz ob u ih=>obtain⟨e,q⟩:=x;exact⟨k _ _ (.inl rfl) e,ih q⟩
  | tbl ps =>
    have e:h.get? a=some {cls:=.none,data:=.fields ps}:=x
    show h'.get? a=some {cls:=.none,data:=.fields ps}
    exact k a _ (.inl rfl) e
  | met f y =>
    have e:h.get? a=some (PySem.W.methodObj (.ref f) (.ref y)):=x
    show h'.get? a=some (PySem.W.methodObj (.ref f) (.ref y))
    exact k a _ (.inl rfl) e
  |ext φ=>obtain⟨p,⟨o,e⟩,st⟩:=x;exact⟨st _ _ p fun o q=>k _ _ (.inl rfl) q,⟨o,k _ _ (.inl rfl) e⟩,st⟩
theorem HOk.lt(x:HOk P w H h)(e:H a=some o):a<h.objs.size:=(x a o e).lt
theorem HOk.fresh(x:HOk P w H h)(e:h.objs.size≤a):H a=none:=by
 cases q:H a with
 |none=>rfl
 |some u=>exact absurd (Nat.lt_of_lt_of_le (x.lt q) e) (Nat.lt_irrefl _)
theorem HOk.kept(x:HOk P w H h)(k:∀b u,h.get? b=some u->h'.get? b=some u):HOk P w H h':=fun a o e=>
 (x a o e).stay (fun b u _ q=>k b u q) (fun _ q=>q) fun _ _ q=>q
theorem HOk.laid(x:HOk P w H h)(k:∀b u,h.get? b=some u->h'.get? b=some u)(hp:h.objs.size≤a)(new:DN P w (upd H a o) h' a o):HOk P w (upd H a o) h':=fun b u e=>by
 have hn:=x.fresh hp
 by_cases hb:b=a
 ·subst hb;rw[BK]at e;cases e;exact new
 ·rw[Al hb]at e
  exact(x b u e).stay (fun c v _ q=>k c v q) (fun c q=>by rw[Al (BR q hn)];exact q) fun c xs q=>by rw[Al (BR q hn)];exact q
end
def Rd(H:Hp)(a:Addr)(u:HO):Prop:=H a=some u∨∃o,H a=some (.frz o u)
theorem Rd.ok{P:Program}{w:World}{H:Hp}{h:Heap}{a:Addr}{u:HO}(r:Rd H a u)(x:HOk P w H h):DN P w H h a u:=by
 rcases r with r|⟨o,r⟩
 ·exact x a u r
 ·obtain⟨_,q⟩:=x a _ r
  exact q
def Mut:Option HO->Prop
 |some (.lst _)=>True
 |some (.dK _)=>True
 |some (.dT _)=>True
 |some (.set _ _)=>True
 |some (.ins _ _ _)=>True
 |some (.ext _)=>True
 |_=>False
section
variable{P:Program}{w:World}{H:Hp}{h h':Heap}{x e:Addr}{o':HO}
theorem HOk.write(ok:HOk P w H h)(mu:Mut (H x))(he:e=x∨H e=some (.own x))(k:∀b u,b≠e->h.get? b=some u->h'.get? b=some u)(heo:∃u,h'.get? e=some u)
  (new:DN P w (upd H x o') h' x o'):HOk P w (upd H x o') h':=fun b u q=>by
 have nown:∀c y,H c=some (.own y)->c≠x:=fun c y r z=>by subst z;rw[r]at mu;exact mu
 have ntup:∀c xs,H c=some (.tup xs)->c≠x:=fun c xs r z=>by subst z;rw[r]at mu;exact mu
 by_cases hb:b=x
 ·subst hb;rw[BK]at q;cases q;exact new
 ·rw [Al hb] at q
  by_cases hbe:b=e
  ·have q':H b=some (.own x):=by
    rcases he with z|z
    ·exact absurd (hbe.trans z) hb
    ·rw[hbe];exact z
   rw[q]at q';cases q'
   obtain⟨v,hv⟩:=heo
   exact⟨v,by rw[hbe];exact hv⟩
  ·refine(ok b u q).stay (fun c v hc r=>k c v ?_ r) (fun c r=>by rw[Al (nown c b r)];exact r) fun c xs r=>by rw[Al (ntup c xs r)];exact r
   rcases hc with rfl|hc
   ·exact hbe
   ·rintro rfl
    rcases he with z|z
    ·exact nown c b hc z
    ·rw[hc]at z;cases z;exact hb rfl
end
structure Un(fs ex:List Addr)(H H':Hp)(h h':Heap):Prop where
 keep:∀b o,h.get? b=some o->H b=none->b∉fs->b∉ex->h'.get? b=some o
 slot:∀b o,h.get? b=some o->H b=none->b∈fs->b∉ex->∃sl,h'.get? b=some {o with slots:=sl}
 free:∀b o,h.get? b=some o->H b=none->b∉ex->H' b=none
 there:∀b o,h.get? b=some o->b∉ex->∃o',h'.get? b=some o'
 tups:∀b xs,H b=some (.tup xs)->H' b=some (.tup xs)
 frzs:∀b o u,H b=some (.frz o u)->H' b=some (.frz o u)
 tbls:∀b ps,H b=some (.tbl ps)->∃more,H' b=some (.tbl (ps++more))
section
variable{fs fs' ex ex':List Addr}{H H1 H2:Hp}{h h1 h2 h':Heap}{a x e:Addr}{o:HO}
theorem Un.any(u:Un fs ex H H1 h h1){b:Addr}{ob:Obj}(q:h.get? b=some ob)(n:H b=none)(hx:b∉ex):∃sl,h1.get? b=some {ob with slots:=sl}:=by
 by_cases hb:b∈fs
 ·exact u.slot b ob q n hb hx
 ·exact⟨ob.slots,u.keep b ob q n hb hx⟩
theorem Un.kept(k:∀b u,h.get? b=some u->h'.get? b=some u):Un fs ex H H h h':=
 ⟨fun b ob q _ _ _=>k b ob q,fun b ob q _ _ _=>⟨ob.slots,k b ob q⟩,fun _ _ _ n _=>n,fun b ob q _=>⟨ob,k b ob q⟩,fun _ _ q=>q,fun _ _ _ q=>q,fun _ ps q=>⟨#[],by rw[q];simp⟩⟩
theorem Un.refl:Un fs ex H H h h:=Un.kept fun _ _ q=>q
theorem Un.laid(k:∀b u,h.get? b=some u->h'.get? b=some u)(hp:h.objs.size≤a)(hn:H a=none):Un fs ex H (upd H a o) h h' where
 keep:=fun b u q _ _ _=>k b u q
 slot:=fun b u q _ _ _=>⟨u.slots,k b u q⟩
 free:=fun b u q n _=>by rw[Al (Nat.ne_of_lt (Nat.lt_of_lt_of_le (Heap.lt_size q) hp))];exact n
 there:=fun b u q _=>⟨u,k b u q⟩
 tups:=fun b xs q=>by rw[Al (BR q hn)];exact q
 frzs:=fun b u xs q=>by rw[Al (BR q hn)];exact q
 tbls:=fun b ps q=>⟨#[],by rw[Al (BR q hn),q];simp⟩
theorem Un.write(mu:Mut (H x))(he:e=x∨H e=some (.own x))(k:∀b u,b≠e->h.get? b=some u->h'.get? b=some u)(heo:∃u,h'.get? e=some u):Un fs ex H (upd H x o) h h':=by
 have hx:∀b,H b=none->b≠x:=fun b n z=>by subst z;rw[n]at mu;exact mu
 have hb:∀b,H b=none->b≠e:=fun b n z=>by
  subst z
  rcases he with r|r
  ·exact hx b n r
  ·rw[n]at r;cases r
 have hm:∀b u,H b=some u->¬Mut (some u)->b≠x:=fun b u q nm z=>by subst z;rw[q]at mu;exact nm mu
 refine⟨fun b u q n _ _=>k b u (hb b n) q,fun b u q n _ _=>⟨u.slots,k b u (hb b n) q⟩,fun b u q n _=>by rw[Al (hx b n)];exact n,fun b u q _=>?_,
  fun b xs q=>by rw[Al (hm b _ q fun z=>z)];exact q,fun b u xs q=>by rw[Al (hm b _ q fun z=>z)];exact q,fun b ps q=>⟨#[],by rw[Al (hm b _ q fun z=>z),q];simp⟩⟩
 by_cases hbe:b=e
 ·subst hbe;exact heo
 ·exact⟨u,k b u hbe q⟩
end
noncomputable def trk(h:Heap)(H:Hp):List Addr:=(List.range h.objs.size).filter fun a=>(H a).isSome
noncomputable def To(h:Heap)(H:Hp):Heap:=PySem.W.hideAll h (trk h H)
theorem Q0(h:Heap)(H:Hp):(To h H).objs.size=h.objs.size:=PySem.W.hideAll_size _ _
theorem SR{h:Heap}{H:Hp}{b:Addr}{o:Obj}(e:h.get? b=some o)(n:H b=none):(To h H).get? b=some o:=
 PySem.W.hideAll_get _ e fun hm=>by
  have q:(H b).isSome=true:=(List.mem_filter.mp hm).2
  rw[n]at q;simp at q
theorem Vl{h:Heap}{H:Hp}{b:Addr}{o:Obj}(e:(To h H).get? b=some o):h.get? b=some o/\H b=none:=by
  have e':h.get? b=some o:=PySem.W.of_hideAll (trk h H) e
  refine⟨e',?_⟩
  cases q:H b with
  |none=>rfl
  | some x =>
    have hm:b∈trk h H:=List.mem_filter.mpr ⟨List.mem_range.mpr (Heap.lt_size e'),by simp[q]⟩
    have z:(To h H).get? b=none:=PySem.W.hideAll_none (trk h H) hm
    rw[z]at e;cases e
noncomputable def WI(g h:Heap)(L:Addr):List (Addr×Obj):=(List.range h.objs.size).filterMap fun a=>if a=L∨(g.get? a).isSome=true then none else(h.get? a).map fun o=>(a,o)
noncomputable def rest(g h:Heap)(L d:Addr):List (Addr×Obj):=(WI g h L).filter fun p=>decide (p.1≠d)
end L2
namespace L2
open PySem PySem.Spec PyProof.Rows
structure Mod(K:PySem.W.Frag)(mg:Str->Option Value)(base:Heap):Prop where
 kin:K.In base
 glob:base.Ns mainGlobals mg
 blt:∃mb,base.Ns builtinsNs mb/\∀x:Str,x≠ "__name__"->mb x=bootBuiltins x
 nolimit:base.NoLimit
structure Cx where
 prog:Program
 w:World
 K:PySem.W.Frag
 mg:Str->Option Value
 base:Heap
 A:Around
 N:List Str
 s₀:Shared
 H₀:Hp
 env:Env
 outer:List Env
 stack:List Env
 ex:List Addr
 fn:Str->Bool
 calm:Bool
 pn:List (Addr×Obj)
 xe:Value->Shared->Prop
noncomputable def frs(l:List Env):List Addr:=l.filterMap (·.frame)
abbrev Cx.fs(X:Cx):List Addr:=frs X.outer
def Vis(sc:Scope)(x:Str):Prop:=sc.names.lookup x=some .local∨sc.names.lookup x=some .cell∨sc.names.lookup x=some .free
def Loc(sc:Scope)(x:Str):Prop:=sc.names.lookup x=some .local∨sc.names.lookup x=some .cell
def Look(env:Env)(h:Heap)(m:Str->Option Value)(x:Str)(u:Value):Prop:=
 (env.kindOf x=some .local/\m x=some u)∨((env.kindOf x=some .cell∨env.kindOf x=some .free)/\∃c,env.cells.lookup x=some c/\h.IsCell c (some u))
structure Cx.Ok(X:Cx):Prop where
 mod:Mod X.K X.mg X.base
 kind:X.env.scope.kind=.function
 glob:X.env.globals=mainGlobals
 blt:X.env.builtins=builtinsNs
 above:X.s₀.heap.objs.size≤X.env.locals
 inj:∀x y c,X.env.cells.lookup x=some c->X.env.cells.lookup y=some c->x=y
 has:∀x,(X.env.kindOf x=some .cell∨X.env.kindOf x=some .free)->∃c,X.env.cells.lookup x=some c
 cab:∀x c,X.fn x=true->X.env.cells.lookup x=some c->X.s₀.heap.objs.size≤c
 hd:X.calm=true->X.A.handled=none
 frames:X.A.frames=some X.stack
 stk:X.stack=X.outer∨(X.stack=X.env::X.outer/\X.env.frame=some X.env.locals)
 exf:∀b∈X.ex,b≠X.env.locals/\∀x c,X.env.cells.lookup x=some c->c≠b
 bs:∀b o,X.base.get? b=some o->X.s₀.heap.get? b=some o/\X.H₀ b=none
 bsz:X.base.objs.size≤X.s₀.heap.objs.size
 noex:∀b o,X.base.get? b=some o->b∉X.ex
 exfs:∀b∈X.ex,b∉X.fs
 funs:X.s₀.heap.FunFrames X.base X.outer
 frf:∀b∈X.fs,X.H₀ b=none
structure Inv(X:Cx)(pins:List (Addr×Obj))(σ:List (Option V))(H:Hp)(s:Shared):Prop where
 ok:X.Ok
 os:s.os=X.s₀.os
 bare:AllBare s.gens
 base:Un X.fs X.ex X.H₀ H X.s₀.heap s.heap
 loc:∃m,s.heap.Ns X.env.locals m/\∀(i:Nat) (x:Str) (v:V),X.N[i]?=some x->σ[i]?=some (some v)->Vis X.env.scope x->∃u,RelV v u/\Look X.env s.heap m x u
 cell:∀x c,X.env.cells.lookup x=some c->∃v,s.heap.IsCell c v
 free:H X.env.locals=none
 freeC:∀x c,X.env.cells.lookup x=some c->H c=none
 pin:∀p∈X.pn++pins,s.heap.get? p.1=some p.2/\H p.1=none/\p.1≠X.env.locals/\p.1∉X.fs/\∀v,p.2.data≠.cell v
 hok:HOk X.prog X.w H s.heap
 len:σ.length=X.N.length
section
variable{X:Cx}{pins:List (Addr×Obj)}{σ:List (Option V)}{H H':Hp}{s:Shared}{h':Heap}
theorem Cx.Ok.nofr(ok:X.Ok){b:Addr}{o:Obj}(e:X.base.get? b=some o):b∉X.fs:=fun hb=>by
 have:=(ok.funs.mem hb).1
 rw[e]at this;cases this
theorem Inv.bs(I:Inv X pins σ H s):∀b o,X.base.get? b=some o->s.heap.get? b=some o/\H b=none:=fun b o e=>
 ⟨I.base.keep b o (I.ok.bs b o e).1 (I.ok.bs b o e).2 (I.ok.nofr e) (I.ok.noex b o e),I.base.free b o (I.ok.bs b o e).1 (I.ok.bs b o e).2 (I.ok.noex b o e)⟩
theorem Inv.bk(I:Inv X pins σ H s):∀b o,X.base.get? b=some o->s.heap.get? b=some o:=fun b o e=>(I.bs b o e).1
theorem Inv.mod(I:Inv X pins σ H s):Mod X.K X.mg X.base:=I.ok.mod
theorem Inv.kIn(I:Inv X pins σ H s):X.K.In s.heap:=I.ok.mod.kin.keeps I.bk
theorem Inv.lt(I:Inv X pins σ H s):X.env.locals<s.heap.objs.size:=let⟨_,hn,_⟩:=I.loc;hn.lt
theorem Inv.sz(I:Inv X pins σ H s):X.s₀.heap.objs.size≤s.heap.objs.size:=Nat.le_trans I.ok.above (Nat.le_of_lt I.lt)
theorem Inv.nofs(I:Inv X pins σ H s){a:Addr}(h:s.heap.objs.size≤a):a∉X.fs:=fun hb=>by
 obtain⟨_,o,ho,_⟩:=I.ok.funs.mem hb
 exact absurd (Nat.lt_of_lt_of_le (Heap.lt_size ho) (Nat.le_trans I.sz h)) (Nat.lt_irrefl _)
theorem Inv.cne(I:Inv X pins σ H s):∀x c,X.env.cells.lookup x=some c->c≠X.env.locals:=fun x c e z=>by
 obtain⟨v,o,ho,hd⟩:=I.cell x c e
 obtain⟨m,⟨o',es,ep,ho',hd',_⟩,_⟩:=I.loc
 rw[z,ho']at ho;cases ho;rw[hd']at hd;cases hd
theorem Inv.funs(I:Inv X pins σ H s):s.heap.FunFrames X.base X.outer:=by
  have all:∀(l:List Env),(∀b∈frs l,b∈X.fs)->X.s₀.heap.FunFrames X.base l->s.heap.FunFrames X.base l:=by
    intro l
    induction l with
    |nil=>intro _ _;trivial
    | cons env r ih =>
      intro hs hl
      obtain⟨hk,⟨L,o,hf,hn,ho,hd⟩,hr⟩:=hl
      have hL:L∈X.fs:=hs L (by unfold frs;rw[List.filterMap_cons,hf];exact List.mem_cons_self)
      obtain⟨sl,e⟩:=I.base.slot L o ho (I.ok.frf L hL) hL fun z=>I.ok.exfs L z hL
      exact⟨hk,⟨L,_,hf,hn,e,hd⟩,ih (fun b hb=>hs b (by unfold frs;rw[List.filterMap_cons,hf];exact List.mem_cons_of_mem _ hb)) hr⟩
  exact all X.outer (fun _ hb=>hb) I.ok.funs
theorem Inv.stack(I:Inv X pins σ H s):s.heap.FunFrames X.base X.stack:=by
 rcases I.ok.stk with e|⟨e,hf⟩
 ·rw[e];exact I.funs
 ·rw[e]
  obtain⟨m,hn,_⟩:=I.loc
  refine .cons (by rw[I.ok.kind];decide) hf hn ?_ I.funs
  exact Heap.get?_none_of_le (Nat.le_trans I.ok.bsz I.ok.above)
theorem Inv.stkSub(I:Inv X pins σ H s):∀b∈frs X.stack,b∈X.env.locals::X.fs:=fun b hb=>by
 rcases I.ok.stk with e|⟨e,hf⟩
 ·rw[e]at hb;exact List.mem_cons_of_mem _ hb
 ·rw[e]at hb
  unfold frs at hb
  rw[List.filterMap_cons,hf]at hb
  exact hb
theorem Inv.stkFree(I:Inv X pins σ H s):∀b∈frs X.stack,H b=none:=fun b hb=>by
 rcases List.mem_cons.mp (I.stkSub b hb)with e|hb
 ·rw[e];exact I.free
 ·obtain⟨_,o,ho,_⟩:=I.ok.funs.mem hb
  exact I.base.free b o ho (I.ok.frf b hb) fun z=>I.ok.exfs b z hb
theorem Inv.step{g':Array GenState}{t':Nat}{d':Drawn}{ch:List Addr}(I:Inv X pins σ H s)
  (hch:∀b∈ch,(b∈X.ex∨X.s₀.heap.objs.size≤b)/\b≠X.env.locals/\(∀x c,X.env.cells.lookup x=some c->c≠b)/\∀p∈X.pn++pins,p.1≠b)
  (keep:∀b o,b≠X.env.locals->b∉X.fs->b∉ch->s.heap.get? b=some o->H b=none->h'.get? b=some o)
  (slot:∀b o,b≠X.env.locals->b∈X.fs->b∉ch->s.heap.get? b=some o->H b=none->∃sl,h'.get? b=some {o with slots:=sl}) (free:∀b o,b∉ch->s.heap.get? b=some o->H b=none->H' b=none)
  (there:∀b o,b∉ch->s.heap.get? b=some o->∃o',h'.get? b=some o')
  (tups:∀b xs,H b=some (.tup xs)->H' b=some (.tup xs)) (frzs:∀b o u,H b=some (.frz o u)->H' b=some (.frz o u)) (tbls:∀b ps,H b=some (.tbl ps)->∃more,H' b=some (.tbl (ps++more)))
  (ns:∀m,s.heap.Ns X.env.locals m->h'.Ns X.env.locals m) (hok:HOk X.prog X.w H' h') (hg:AllBare g'):
  Inv X pins σ H' {s with heap:=h',gens:=g',drawn:=d',toks:=t'}:=by
 have neL:∀b o,X.s₀.heap.get? b=some o->b≠X.env.locals:=fun b o e=>Nat.ne_of_lt (Nat.lt_of_lt_of_le (Heap.lt_size e) I.ok.above)
 have neC:∀b o,X.s₀.heap.get? b=some o->b∉X.ex->b∉ch:=fun b o e hx hb=>by
  rcases(hch b hb).1 with z|z
  ·exact hx z
  ·exact absurd (Nat.lt_of_lt_of_le (Heap.lt_size e) z) (Nat.lt_irrefl _)
 have cellK:∀x c,X.env.cells.lookup x=some c->∀v,s.heap.IsCell c v->h'.IsCell c v:=fun x c e v ⟨o,ho,hd⟩=>by
  have nch:c∉ch:=fun z=>(hch c z).2.2.1 x c e rfl
  by_cases hc:c∈X.fs
  ·obtain⟨sl,q⟩:=slot c o (I.cne x c e) hc nch ho (I.freeC x c e)
   exact⟨_,q,hd⟩
  ·exact⟨o,keep c o (I.cne x c e) hc nch ho (I.freeC x c e),hd⟩
 refine⟨I.ok,I.os,hg,⟨fun b o e n hb hx=>?_,fun b o e n hb hx=>?_,fun b o e n hx=>?_,fun b o e hx=>?_,fun b xs e=>tups b xs (I.base.tups b xs e),fun b o xs e=>frzs b o xs (I.base.frzs b o xs e),fun b ps e=>?_⟩,?_,fun x c e=>?_,?_,fun x c e=>?_,fun p hp=>?_,hok,I.len⟩
 ·exact keep b o (neL b o e) hb (neC b o e hx) (I.base.keep b o e n hb hx) (I.base.free b o e n hx)
 ·obtain⟨sl,e1⟩:=I.base.slot b o e n hb hx
  obtain⟨sl',e2⟩:=slot b _ (neL b o e) hb (neC b o e hx) e1 (I.base.free b o e n hx)
  exact⟨sl',e2⟩
 ·obtain⟨o',e1⟩:=I.base.there b o e hx
  exact free b o' (neC b o e hx) e1 (I.base.free b o e n hx)
 ·obtain⟨o',e1⟩:=I.base.there b o e hx
  exact there b o' (neC b o e hx) e1
 ·obtain⟨m1,e1⟩:=I.base.tbls b ps e
  obtain⟨m2,e2⟩:=tbls b _ e1
  exact⟨m1++m2,by rw[e2,Array.append_assoc]⟩
 ·obtain⟨m,hn,hl⟩:=I.loc
  refine⟨m,ns m hn,fun i x v e1 e2 e3=>?_⟩
  obtain⟨u,r,l⟩:=hl i x v e1 e2 e3
  refine⟨u,r,?_⟩
  rcases l with l|⟨k,c,e,z⟩
  ·exact .inl l
  ·exact .inr ⟨k,c,e,cellK x c e _ z⟩
 ·obtain⟨v,z⟩:=I.cell x c e
  exact⟨v,cellK x c e v z⟩
 ·obtain⟨m,⟨o,_,_,ho,_⟩,_⟩:=I.loc
  exact free _ o (fun z=>(hch _ z).2.1 rfl) ho I.free
 ·obtain⟨v,o,ho,hd⟩:=I.cell x c e
  exact free c o (fun z=>(hch c z).2.2.1 x c e rfl) ho (I.freeC x c e)
 ·obtain⟨e,n,ne,nf,d⟩:=I.pin p hp
  have nch:p.1∉ch:=fun z=>(hch p.1 z).2.2.2 p hp rfl
  exact⟨keep p.1 p.2 ne nf nch e n,free p.1 p.2 nch e n,ne,nf,d⟩
theorem Inv.un{t':Nat}(I:Inv X pins σ H s)(u:Un X.fs [] H H' s.heap h')(hok:HOk X.prog X.w H' h'):Inv X pins σ H' {s with heap:=h',toks:=t'}:=by
 obtain⟨m,⟨o,es,ep,ho,r⟩,_⟩:=id I.loc
 obtain⟨sl,hL⟩:=u.any ho I.free (by simp)
 exact I.step (g':=s.gens) (d':=s.drawn) (ch:=[]) (fun _ z=>nomatch z) (fun b o _ hb _ e n=>u.keep b o e n hb (by simp)) (fun b o _ hb _ e n=>u.slot b o e n hb (by simp)) (fun b o _ e n=>u.free b o e n (by simp)) (fun b o _ e=>u.there b o e (by simp)) u.tups u.frzs u.tbls (fun m' hm=>by
  obtain⟨o',es',ep',ho',r'⟩:=hm
  rw[ho]at ho';cases ho'
  exact⟨_,es',ep',hL,r'⟩) hok I.bare
theorem Inv.call{g':Array GenState}{t':Nat}{d':Drawn}{ch:List Addr}(I:Inv X pins σ H s)(u:Un (frs X.stack) ch H H' s.heap h')(hok:HOk X.prog X.w H' h')(hg:AllBare g')
  (hch:∀b∈ch,(b∈X.ex∨X.s₀.heap.objs.size≤b)/\b≠X.env.locals/\(∀x c,X.env.cells.lookup x=some c->c≠b)/\∀p∈X.pn++pins,p.1≠b):
  Inv X pins σ H' {s with heap:=h',gens:=g',drawn:=d',toks:=t'}:=by
 obtain⟨m,⟨o,es,ep,ho,r⟩,_⟩:=id I.loc
 obtain⟨sl,hL⟩:=u.any ho I.free fun z=>(hch _ z).2.1 rfl
 exact I.step (ch:=ch) hch (fun b o hL hb hc e n=>u.keep b o e n (fun z=>(List.mem_cons.mp (I.stkSub b z)).elim hL hb) hc) (fun b o _ _ hc e n=>u.any e n hc) (fun b o hc e n=>u.free b o e n hc) (fun b o hc e=>u.there b o e hc) u.tups u.frzs u.tbls (fun m' hm=>by
  obtain⟨o',es',ep',ho',r'⟩:=hm
  rw[ho]at ho';cases ho'
  exact⟨_,es',ep',hL,r'⟩) hok hg
theorem Inv.turned{t':Nat}{it:Addr}(I:Inv X pins σ H s)(k:∀b o,b≠it->s.heap.get? b=some o->h'.get? b=some o)(hn:H it=none)(hL:it≠X.env.locals)
  (h1:it∈X.ex∨X.s₀.heap.objs.size≤it) (h2:∀x c,X.env.cells.lookup x=some c->c≠it) (h3:∀p∈X.pn++pins,p.1≠it):Inv X pins σ H {s with heap:=h',toks:=t'}:=by
 have nit:∀b u,H b=some u->b≠it:=fun b u e z=>by rw[z,hn]at e;cases e
 refine I.step (g':=s.gens) (d':=s.drawn) (ch:=[it]) (fun b hb=>?_) (fun b o _ _ hc e _=>k b o (fun z=>hc (by simp[z])) e) (fun b o _ _ hc e _=>⟨o.slots,k b o (fun z=>hc (by simp[z])) e⟩) (fun _ _ _ _ n=>n)
  (fun b o hc e=>⟨o,k b o (fun z=>hc (by simp[z])) e⟩) (fun _ _ e=>e) (fun _ _ _ e=>e) (fun b ps e=>⟨#[],by rw[e];simp⟩) (fun m hm=>?_) (fun b u e=>?_) I.bare
 ·have e:b=it:=by simpa using hb
  subst e
  exact⟨h1,hL,h2,h3⟩
 ·obtain⟨o,es,ep,ho,r⟩:=hm
  exact⟨o,es,ep,k _ o (Ne.symm hL) ho,r⟩
 ·refine(I.hok b u e).stay (fun c v hc q=>k c v ?_ q) (fun _ q=>q) fun _ _ q=>q
  rcases hc with z|z
  ·rw[z];exact nit b u e
  ·exact nit c _ z
theorem Inv.tok(I:Inv X pins σ H s)(t:Nat):Inv X pins σ H {s with toks:=t}:=I.un (h':=s.heap) (t':=t) Un.refl I.hok
theorem Inv.kept{t':Nat}(I:Inv X pins σ H s)(k:∀b u,s.heap.get? b=some u->h'.get? b=some u):Inv X pins σ H {s with heap:=h',toks:=t'}:=I.un (Un.kept k) (I.hok.kept k)
theorem Inv.laid{a:Addr}{o:HO}{t':Nat}(I:Inv X pins σ H s)(k:∀b u,s.heap.get? b=some u->h'.get? b=some u)(hp:s.heap.objs.size≤a)(new:DN X.prog X.w (upd H a o) h' a o):
  Inv X pins σ (upd H a o) {s with heap:=h',toks:=t'}:=I.un (Un.laid k hp (I.hok.fresh hp)) (I.hok.laid k hp new)
theorem Inv.write{x e:Addr}{o:HO}{t':Nat}(I:Inv X pins σ H s)(mu:Mut (H x))(he:e=x∨H e=some (.own x))(k:∀b u,b≠e->s.heap.get? b=some u->h'.get? b=some u)(heo:∃u,h'.get? e=some u)
  (new:DN X.prog X.w (upd H x o) h' x o):Inv X pins σ (upd H x o) {s with heap:=h',toks:=t'}:=I.un (Un.write mu he k heo) (I.hok.write mu he k heo new)
theorem Inv.pins_of{pins':List (Addr×Obj)}(I:Inv X pins σ H s)(h:∀p∈pins',s.heap.get? p.1=some p.2/\H p.1=none/\p.1≠X.env.locals/\p.1∉X.fs/\∀v,p.2.data≠.cell v):Inv X pins' σ H s:=
 ⟨I.ok,I.os,I.bare,I.base,I.loc,I.cell,I.free,I.freeC,fun p hp=>(List.mem_append.mp hp).elim (fun z=>I.pin p (List.mem_append_left _ z)) (h p),I.hok,I.len⟩
theorem OE{N:List Str}(hN:N.Nodup){i j:Nat}{x:Str}(a:N[i]?=some x)(b:N[j]?=some x):i=j:=by
 obtain⟨h1,e1⟩:=List.getElem?_eq_some_iff.mp a
 obtain⟨h2,e2⟩:=List.getElem?_eq_some_iff.mp b
 exact(List.getElem_inj hN).mp (e1.trans e2.symm)
theorem Mj{M:Model}{A:Around}{E:Value->Shared->Prop}{i:Nat}{x:Str}{v:V}{u:Value}{Q:Unit->Shared->Prop}(I:Inv X pins σ H s)(hN:X.N.Nodup)(hi:X.N[i]?=some x)(hx:Loc X.env.scope x)(r:RelV v u)
  (h:∀s',Inv X pins (σ.set i (some v)) H s'->(∃a,Heap.SameBut a s.heap s'.heap/\(a=X.env.locals∨X.env.cells.lookup x=some a))->Q () s') (hf:X.fn x=true∨X.env.scope.names.lookup x=some .local:=by first|exact .inl rfl|exact .inr rfl|assumption):wpAny M A (storeName X.env x u) Q E s:=by
 obtain⟨m,hn,hl⟩:=id I.loc
 have hcls:(X.env.scope.kind== .class||(X.env.scope.kind== .module && X.env.locals !=X.env.globals))=false:=by rw[I.ok.kind];rfl
 have hiσ:i<σ.length:=by rw[I.len];exact(List.getElem?_eq_some_iff.mp hi).1
 have cne:=I.cne
 have tracked:∀{a:Addr} {h':Heap},(∃o,s.heap.get? a=some o/\H a=none)->Heap.SameBut a s.heap h'->HOk X.prog X.w H h':=fun{a h'} ha hs b ob e=>by
  obtain⟨_,_,hfree⟩:=ha
  refine(I.hok b ob e).stay (fun c w' hc q=>(hs.2 c ?_).trans q) (fun _ q=>q) fun _ _ q=>q
  rintro rfl
  rcases hc with rfl|hc
  ·rw[hfree]at e;cases e
  ·rw[hfree]at hc;cases hc
 rcases hx with hk|hk
 ·refine wpAny_storeName_local hk hn (fun h' hn' hs=>?_) hcls
  obtain⟨oL,_,_,hoL,_⟩:=id hn
  refine h _ ⟨I.ok,I.os,I.bare,⟨fun b o e n hb hx=>?_,fun b o e n hb hx=>?_,I.base.free,fun b o e hx=>?_,I.base.tups,I.base.frzs,I.base.tbls⟩,⟨_,hn',fun j y v' e1 e2 e3=>?_⟩,fun y c e=>?_,I.free,I.freeC,fun p hp=>?_,tracked ⟨oL,hoL,I.free⟩ hs,by simpa using I.len⟩ ⟨_,hs,.inl rfl⟩
  ·exact(hs.2 b (Nat.ne_of_lt (Nat.lt_of_lt_of_le (Heap.lt_size e) I.ok.above))).trans (I.base.keep b o e n hb hx)
  ·obtain⟨sl,e1⟩:=I.base.slot b o e n hb hx
   exact⟨sl,(hs.2 b (Nat.ne_of_lt (Nat.lt_of_lt_of_le (Heap.lt_size e) I.ok.above))).trans e1⟩
  ·obtain⟨o',e1⟩:=I.base.there b o e hx
   exact⟨o',(hs.2 b (Nat.ne_of_lt (Nat.lt_of_lt_of_le (Heap.lt_size e) I.ok.above))).trans e1⟩
  ·by_cases hj:j=i
   ·subst hj
    rw[hi]at e1;cases e1
    rw[List.getElem?_set_self hiσ]at e2
    cases e2
    exact⟨u,r,.inl ⟨hk,by simp⟩⟩
   ·rw[List.getElem?_set_ne (Ne.symm hj)]at e2
    obtain⟨u',r',q⟩:=hl j y v' e1 e2 e3
    refine⟨u',r',?_⟩
    rcases q with⟨k,e⟩|⟨k,c,e,z⟩
    ·refine .inl ⟨k,?_⟩
     have:y≠x:=fun e=>hj (OE hN e1 (e▸hi))
     simp[this,e]
    ·exact .inr ⟨k,c,e,z.sameBut hs (cne y c e)⟩
  ·obtain⟨w',z⟩:=I.cell y c e
   exact⟨w',z.sameBut hs (cne y c e)⟩
  ·obtain⟨e,n,ne,nf,d⟩:=I.pin p hp
   exact⟨(hs.2 p.1 ne).trans e,n,ne,nf,d⟩
 ·have hfn:X.fn x=true:=by
   rcases hf with z|z
   ·exact z
   ·rw[z]at hk;cases hk
  obtain⟨c,hc⟩:=I.ok.has x (.inl hk)
  obtain⟨w',z⟩:=I.cell x c hc
  refine wpAny_storeName_cell I.ok.kind hk hc z (fun h' hc' hs=>?_)
  obtain⟨oc,hoc,hocd⟩:=id z
  refine h {s with heap:=h'} ⟨I.ok,I.os,I.bare,⟨fun b o e n hb hx=>?_,fun b o e n hb hx=>?_,I.base.free,fun b o e hx=>?_,I.base.tups,I.base.frzs,I.base.tbls⟩,⟨m,hn.sameBut hs (Ne.symm (cne x c hc)),fun j y v' e1 e2 e3=>?_⟩,fun y c' e=>?_,I.free,I.freeC,fun p hp=>?_,tracked ⟨oc,hoc,I.freeC x c hc⟩ hs,by simpa using I.len⟩ ⟨c,hs,.inr hc⟩
  ·exact(hs.2 b (Nat.ne_of_lt (Nat.lt_of_lt_of_le (Heap.lt_size e) (I.ok.cab x c hfn hc)))).trans (I.base.keep b o e n hb hx)
  ·obtain⟨sl,e1⟩:=I.base.slot b o e n hb hx
   exact⟨sl,(hs.2 b (Nat.ne_of_lt (Nat.lt_of_lt_of_le (Heap.lt_size e) (I.ok.cab x c hfn hc)))).trans e1⟩
  ·obtain⟨o',e1⟩:=I.base.there b o e hx
   exact⟨o',(hs.2 b (Nat.ne_of_lt (Nat.lt_of_lt_of_le (Heap.lt_size e) (I.ok.cab x c hfn hc)))).trans e1⟩
  ·by_cases hj:j=i
   ·subst hj
    rw[hi]at e1;cases e1
    rw[List.getElem?_set_self hiσ]at e2
    cases e2
    exact⟨u,r,.inr ⟨.inl hk,c,hc,hc'⟩⟩
   ·rw[List.getElem?_set_ne (Ne.symm hj)]at e2
    obtain⟨u',r',q⟩:=hl j y v' e1 e2 e3
    refine⟨u',r',?_⟩
    rcases q with q|⟨k,c',e,z'⟩
    ·exact .inl q
    ·refine .inr ⟨k,c',e,z'.sameBut hs ?_⟩
     rintro rfl
     exact hj (OE hN e1 (I.ok.inj _ _ _ e hc▸hi))
  ·by_cases hcc:c'=c
   ·subst hcc;exact⟨_,hc'⟩
   ·obtain⟨w2,z2⟩:=I.cell y c' e
    exact⟨w2,z2.sameBut hs hcc⟩
  ·obtain⟨e,n,ne,nf,d⟩:=I.pin p hp
   refine⟨(hs.2 p.1 ?_).trans e,n,ne,nf,d⟩
   intro q
   rw[q,hoc]at e
   have q':oc=p.2:=Option.some.inj e
   exact d w' (by rw[←q'];exact hocd)
theorem JA{M:Model}{A:Around}{E:Value->Shared->Prop}{i:Nat}{x:Str}{v:V}{u:Value}{Q:Unit->Shared->Prop}(I:Inv X pins σ H s)(hN:X.N.Nodup)(hi:X.N[i]?=some x)(hx:Loc X.env.scope x)(r:RelV v u)
  (h:∀s',Inv X pins (σ.set i (some v)) H s'->Q () s') (hf:X.fn x=true∨X.env.scope.names.lookup x=some .local:=by first|exact .inl rfl|exact .inr rfl|assumption):wpAny M A (storeName X.env x u) Q E s:=
 Mj I hN hi hx r (fun s' I' _=>h s' I') hf
theorem Inv.call'{s':Shared}{ch:List Addr}(I:Inv X pins σ H s)(ho:s'.os=s.os)(u:Un (frs X.stack) ch H H' s.heap s'.heap)(hok:HOk X.prog X.w H' s'.heap)(hg:AllBare s'.gens)
  (hch:∀b∈ch,(b∈X.ex∨X.s₀.heap.objs.size≤b)/\b≠X.env.locals/\(∀x c,X.env.cells.lookup x=some c->c≠b)/\∀p∈X.pn++pins,p.1≠b):Inv X pins σ H' s':=by
 obtain⟨h',g',d',t',o'⟩:=s'
 have e:o'=s.os:=ho
 subst e
 exact I.call (g':=g') (t':=t') (d':=d') u hok hg hch
end
abbrev XK:=Value->Option Addr->Hp->Prop
abbrev St:=List (Option V)
abbrev VK:=V->Hp->Prop
abbrev TE:=St->Hp->VK->Prop
abbrev TT:=St->Hp->(Bool->Hp->Prop)->Prop
abbrev TA:=St->Hp->(List V->Hp->Prop)->Prop
structure Ends where
 nx:St->Hp->Prop
 rt:VK
 bk:St->Hp->Prop:=fun _ _=>False
 ct:St->Hp->Prop:=fun _ _=>False
abbrev TS:=Ends->St->Hp->Prop
def EP(X:Cx)(pins:List (Addr×Obj))(σ:St)(Q:VK)(u:Value)(s':Shared):Prop:=∃v H',Inv X pins σ H' s'/\RelV v u/\Q v H'
def TP(X:Cx)(pins:List (Addr×Obj))(σ:St)(Q:Bool->Hp->Prop)(b:Bool)(s':Shared):Prop:=∃H',Inv X pins σ H' s'/\Q b H'
def AP(X:Cx)(pins:List (Addr×Obj))(σ:St)(Q:List V->Hp->Prop)(us:List Value)(s':Shared):Prop:=∃vs H',Inv X pins σ H' s'/\Vals vs us/\Q vs H'
def SP(X:Cx)(pins:List (Addr×Obj))(D:Ends)(f:Flow)(s':Shared):Prop:=
 match f with
 | .next=>∃σ' H',Inv X pins σ' H' s'/\D.nx σ' H'
 | .brk=>∃σ' H',Inv X pins σ' H' s'/\D.bk σ' H'
 | .cont=>∃σ' H',Inv X pins σ' H' s'/\D.ct σ' H'
 | .ret u=>∃v σ' H',Inv X pins σ' H' s'/\RelV v u/\D.rt v H'
def PE(X:Cx)(e:Expr)(t:TE):Prop:=
 ∀(pins:List (Addr×Obj)) (s:Shared) (σ:St) (H:Hp) (Q:VK),Inv X pins σ H s->t σ H Q->wpAny (model X.prog X.w) X.A (eval e X.env) (EP X pins σ Q) X.xe s
def PT(X:Cx)(e:Expr)(t:TT):Prop:=
 ∀(pins:List (Addr×Obj)) (s:Shared) (σ:St) (H:Hp) (Q:Bool->Hp->Prop),Inv X pins σ H s->t σ H Q->wpAny (model X.prog X.w) X.A (isTrue e X.env (eval e X.env)) (TP X pins σ Q) X.xe s
def PW(X:Cx)(e:Expr)(t:TT):Prop:=
 ∀(whole:Sem Value) (pins:List (Addr×Obj)) (s:Shared) (σ:St) (H:Hp) (Q:Bool->Hp->Prop),Inv X pins σ H s->t σ H Q->wpAny (model X.prog X.w) X.A (isTrue e X.env whole) (TP X pins σ Q) X.xe s
theorem PW.pt{X:Cx}{e:Expr}{t:TT}(h:PW X e t):PT X e t:=h _
def PA(X:Cx)(es:List Expr)(t:TA):Prop:=
 ∀(pos:Pos) (pins:List (Addr×Obj)) (s:Shared) (σ:St) (H:Hp) (Q:List V->Hp->Prop),Inv X pins σ H s->t σ H Q->wpAny (model X.prog X.w) X.A (spliced (backTo pos (starEach es X.env))) (AP X pins σ Q) X.xe s
def PS(X:Cx)(st:Stmt)(t:TS):Prop:=
 ∀(pins:List (Addr×Obj)) (s:Shared) (σ:St) (H:Hp) (D:Ends),Inv X pins σ H s->t D σ H->wpAny (model X.prog X.w) X.A (exec st X.env) (SP X pins D) X.xe s
def PSs(X:Cx)(st:List Stmt)(t:TS):Prop:=
 ∀(pins:List (Addr×Obj)) (s:Shared) (σ:St) (H:Hp) (D:Ends),Inv X pins σ H s->t D σ H->wpAny (model X.prog X.w) X.A (execs st X.env) (SP X pins D) X.xe s
theorem thn{α:Type}{t:Sem α}{Q Q':α->Shared->Prop}{M:Model}{A:Around}{E:Value->Shared->Prop}{s:Shared}(h:wpAny M A t Q E s)(hQ:∀a s,Q a s->Q' a s):wpAny M A t Q' E s:=wpAny_mono h hQ fun _ _ x=>x
end L2
namespace L2
open PySem PySem.Spec PyProof.Rows
section
variable{X:Cx}
noncomputable def d8(i:Nat):TE:=fun σ H Q=>∃v,σ[i]?=some (some v)/\Q v H
noncomputable def tC(v:V):TE:=fun _ H Q=>Q v H
theorem VJ{i:Nat}{x:Str}{pos:Pos}(hN:X.N[i]?=some x)(hv:Vis X.env.scope x)(hd:(x==("__debug__":Str))=false:=by decide)(hcd:(x==("__classdict__":Str))=false:=by decide):PE X (.Name x pos) (d8 i):=by
 intro pins s σ H Q I h
 obtain⟨v,e,h⟩:=h
 obtain⟨m,hn,hl⟩:=I.loc
 obtain⟨u,r,l⟩:=hl i x v hN e hv
 have fin:EP X pins σ Q u s:=⟨v,H,I,r,h⟩
 rcases l with⟨hk,hm⟩|⟨hk,c,hc,hcell⟩
 ·exact wpAny_Name (wpAny_loadName_local I.ok.kind hk hn hm fin) hd
 ·rcases hk with hk|hk
  ·exact wpAny_Name (wpAny_loadName_cell I.ok.kind hk hc hcell fin) hd
  ·exact wpAny_Name (wpAny_loadName_free I.ok.kind hk hc hcell fin hcd) hd
theorem VG{i j pos}:PE X (.Constant (.int i) j pos) (tC (.int i)):=fun _ _ _ H _ I h=>wpAny_Constant_int ⟨.int i,H,I.tok _,⟨_,rfl⟩,h⟩
theorem aY{b j pos}:PE X (.Constant (.bool b) j pos) (tC (.bl b)):=fun _ _ _ H _ I h=>Constant_bool ⟨.bl b,H,I,rfl,h⟩
theorem Xj{j pos}:PE X (.Constant .none j pos) (tC .non):=fun _ _ _ H _ I h=>Constant_none ⟨.non,H,I,rfl,h⟩
theorem YL{x j pos}:PE X (.Constant (.str x) j pos) (tC (.str x)):=fun _ _ _ H _ I h=>Calls.Constant_str ⟨.str x,H,I.tok _,⟨_,rfl⟩,h⟩
def Gl(X:Cx)(x:Str):Prop:=X.env.kindOf x=some .globalImplicit
theorem Qs{E:Value->Shared->Prop}{pins:List (Addr×Obj)}{s:Shared}{σ:St}{H:Hp}{x:Str}{u:Value}{pos:Pos}{Q:Value->Shared->Prop}(I:Inv X pins σ H s)(hg:Gl X x)(hm:X.mg x=some u)(h:Q u s)
  (hd:(x==("__debug__":Str))=false:=by decide):wpAny (model X.prog X.w) X.A (eval (.Name x pos) X.env) Q E s:=
 Calls.Name_function_global I.ok.kind hg (Calls.loadGlobal_global (by rw[I.ok.glob];exact I.mod.glob.keeps I.bk) hm h) hd
theorem JP{E:Value->Shared->Prop}{pins:List (Addr×Obj)}{s:Shared}{σ:St}{H:Hp}{x:Str}{u:Value}{pos:Pos}{Q:Value->Shared->Prop}(I:Inv X pins σ H s)(hg:Gl X x)(hm:X.mg x=none)(hv:bootBuiltins x=some u)(h:Q u s)
  (hn:x≠ "__name__":=by decide) (hd:(x==("__debug__":Str))=false:=by decide):wpAny (model X.prog X.w) X.A (eval (.Name x pos) X.env) Q E s:=by
 obtain⟨mb,h1,h2⟩:=I.mod.blt
 exact Calls.Name_function_global I.ok.kind hg (Calls.loadGlobal_builtin (by rw[I.ok.glob];exact I.mod.glob.keeps I.bk) hm (by rw[I.ok.blt];exact h1.keeps I.bk) ((h2 x hn).trans hv) h) hd
theorem Wi{x:Str}{v:V}{u:Value}{pos:Pos}(hg:Gl X x)(hm:X.mg x=some u)(r:RelV v u)(hd:(x==("__debug__":Str))=false:=by decide):PE X (.Name x pos) (tC v):=
 fun _ _ _ H _ I h=>Qs I hg hm ⟨v,H,I,r,h⟩ hd
theorem Vh{x:Str}{v:V}{u:Value}{pos:Pos}(hg:Gl X x)(hm:X.mg x=none)(hv:bootBuiltins x=some u)(r:RelV v u)(hn:x≠ "__name__":=by decide)(hd:(x==("__debug__":Str))=false:=by decide):PE X (.Name x pos) (tC v):=
 fun _ _ _ H _ I h=>JP I hg hm hv ⟨v,H,I,r,h⟩ hn hd
variable{a b:Expr}{ta tb:TE}{pos:Pos}
noncomputable def tB(t:TE):TT:=fun σ H Q=>t σ H fun x H1=>∃c,x=.bl c/\Q c H1
theorem YJ{e:Expr}{t:TE}(h:PE X e t)(he:∀whole,isTrue e X.env whole=(do let v←whole;standAt e.pos;holding [v] (truthy v)):=by intro _;rfl):PT X e (tB t):=by
 intro pins s σ H Q I hw
 refine isTrue_plain (thn (h pins s σ H _ I hw) fun v s1 ⟨x,H1,I1,r1,q1⟩=>?_) (he _)
 obtain⟨d,rfl,q⟩:=q1
 cases r1
 exact wpAny_truthy_bool ⟨H1,I1,q⟩
variable{tA tB':TT}{rest:List Expr}
noncomputable def eP(t u:TT):TT:=fun σ H Q=>t σ H fun c H1=>if c=true then u σ H1 Q else Q false H1
noncomputable def tOr(t u:TT):TT:=fun σ H Q=>t σ H fun c H1=>if c=true then Q true H1 else u σ H1 Q
noncomputable def fS(t:TT):TT:=fun σ H Q=>t σ H fun c H1=>Q (!c) H1
theorem W2(ha:PT X a tA):PW X (.BoolOp .And [a] pos) tA:=by
 intro wh pins s σ H Q I h
 refine isTrue_and (thn (ha pins s σ H Q I h) fun c s1 e=>?_)
 cases c with
 |true=>exact isTrue_and_nil e
 |false=>exact e
theorem YT(ha:PT X a tA):PW X (.BoolOp .Or [a] pos) tA:=by
 intro wh pins s σ H Q I h
 refine isTrue_or (thn (ha pins s σ H Q I h) fun c s1 e=>?_)
 cases c with
 |false=>exact isTrue_or_nil e
 |true=>exact e
theorem Xd(ha:PT X a tA)(hb:PW X (.BoolOp .And (b::rest) pos) tB'):PW X (.BoolOp .And (a::b::rest) pos) (eP tA tB'):=by
 intro wh pins s σ H Q I h
 refine isTrue_and (thn (ha pins s σ H _ I h) fun c s1 ⟨H1,I1,q1⟩=>?_)
 cases c with
 |true=>exact hb wh pins s1 σ H1 Q I1 q1
 |false=>exact⟨H1,I1,q1⟩
theorem bu(ha:PT X a tA)(hb:PW X (.BoolOp .Or (b::rest) pos) tB'):PW X (.BoolOp .Or (a::b::rest) pos) (tOr tA tB'):=by
 intro wh pins s σ H Q I h
 refine isTrue_or (thn (ha pins s σ H _ I h) fun c s1 ⟨H1,I1,q1⟩=>?_)
 cases c with
 |true=>exact⟨H1,I1,q1⟩
 |false=>exact hb wh pins s1 σ H1 Q I1 q1
theorem X9(ha:PT X a tA):PT X (.UnaryOp .Not a pos) (fS tA):=by
 intro pins s σ H Q I h
 exact isTrue_not (ha pins s σ H (fun c H1=>Q (!c) H1) I h)
noncomputable def bL(ta tb:TE):TE:=fun σ H Q=>ta σ H fun x H1=>∃c,x=.bl c/\if c=true then tb σ H1 Q else Q (.bl false) H1
noncomputable def bV(ta:TE):TE:=fun σ H Q=>ta σ H fun x H1=>∃c,x=.bl c/\Q (.bl (!c)) H1
theorem Yx{op}{t:TE}(h:PE X a t):PE X (.BoolOp op [a] pos) t:=fun pins s σ H Q I hw=>BoolOp_one (h pins s σ H Q I hw)
theorem ZN(ha:PE X a ta)(hb:PE X (.BoolOp .And (b::rest) pos) tb):PE X (.BoolOp .And (a::b::rest) pos) (bL ta tb):=by
 intro pins s σ H Q I h
 refine BoolOp_and (thn (ha pins s σ H _ I h) fun v s1 ⟨x,H1,I1,r1,q1⟩=>?_)
 obtain⟨c,rfl,q1⟩:=q1
 cases r1
 refine wpAny_truthy_bool ?_
 cases c with
 |true=>exact hb pins s1 σ H1 Q I1 q1
 |false=>exact⟨.bl false,H1,I1,rfl,q1⟩
theorem Ya(ha:PE X a ta):PE X (.UnaryOp .Not a pos) (bV ta):=by
 intro pins s σ H Q I h
 refine UnaryOp_ (thn (ha pins s σ H _ I h) fun v s1 ⟨x,H1,I1,r1,q1⟩=>?_)
 obtain⟨c,rfl,q1⟩:=q1
 cases r1
 exact not_of (wpAny_truthy_bool ⟨.bl (!c),H1,I1,rfl,q1⟩)
end
end L2
namespace L2
open PySem PySem.Spec PyProof.Rows
def SqL(K:PySem.W.Frag)(H:Hp)(a:Addr)(xs:List V):Prop:=
 Rd H a (.lst xs)∨
  ∃(o:Obj) (its:Array Value) (n:Nat),K.lookup a=some o/\o.cls=.type "list" /\o.dict=none/\o.data=.seq its n/\its.size≤sizeLine/\Vals xs its.toList
def SqT(K:PySem.W.Frag)(H:Hp)(a:Addr)(xs:List V):Prop:=
 Rd H a (.tup xs)∨
  ∃(o:Obj) (its:Array Value) (n:Nat),K.lookup a=some o/\o.cls=.type "tuple" /\o.data=.seq its n/\its.size≤sizeLine/\Vals xs its.toList
noncomputable def eY:Value->Option V
 | .none=>some .non
 | .bool b=>some (.bl b)
 | .int i _=>some (.int i)
 | .str x _=>some (.str x)
 | .bytes b _=>some (.byt b)
 | .float b _=>some (.flt b)
 | .ref a=>some (.ref a)
 | .type n=>some (.ty n)
 |_=>none
theorem RelV.abs{x:V}{u:Value}(r:RelV x u):eY u=some x:=by
 cases x with
 |non=>cases r;rfl
 |bl _=>cases r;rfl
 |int _=>obtain⟨t,rfl⟩:=r;rfl
 |str _=>obtain⟨t,rfl⟩:=r;rfl
 |byt _=>obtain⟨t,rfl⟩:=r;rfl
 |flt _=>obtain⟨t,rfl⟩:=r;rfl
 |ref _=>cases r;rfl
 |ty _=>cases r;rfl
theorem RelV.inj{x y:V}{u:Value}(r:RelV x u)(q:RelV y u):x=y:=Option.some.inj (r.abs.symm.trans q.abs)
theorem Vals.inj:∀{xs ys:List V} {us:List Value},Vals xs us->Vals ys us->xs=ys
 |_,_,_,.nil,.nil=>rfl
 |_,_,_,.cons r t,.cons r' t'=>by rw[r.inj r',Vals.inj t t']
section
variable{X:Cx}{pins:List (Addr×Obj)}{σ:St}{H:Hp}{s:Shared}{a:Addr}{xs ys:List V}
theorem SqL.of{K:PySem.W.Frag}(h:H a=some (.lst xs)):SqL K H a xs:=.inl (.inl h)
theorem SqT.of{K:PySem.W.Frag}(h:H a=some (.tup xs)):SqT K H a xs:=.inl (.inl h)
theorem Inv.list(I:Inv X pins σ H s)(h:SqL X.K H a xs):∃its:List Value,Vals xs its/\PlainL s.heap a its.toArray/\xs.length≤sizeLine:=by
 rcases h with h|⟨o,its,n,hk,hc,hd,hs,hz,r⟩
 ·obtain⟨z,its,n,r,e⟩:=h.ok I.hok
  exact⟨its,r,⟨_,n,e,rfl,rfl,rfl⟩,z⟩
 ·refine⟨its.toList,r,⟨o,n,I.kIn a o hk,hc,hd,by simpa using hs⟩,?_⟩
  have e:=r.length
  simp only[Array.length_toList]at e
  omega
theorem Inv.tuple(I:Inv X pins σ H s)(h:SqT X.K H a xs):∃its:List Value,Vals xs its/\IsTup s.heap a its.toArray/\xs.length≤sizeLine:=by
 rcases h with h|⟨o,its,n,hk,hc,hs,hz,r⟩
 ·obtain⟨z,its,r,p⟩:=h.ok I.hok
  exact⟨its,r,p,z⟩
 ·refine⟨its.toList,r,⟨o,I.kIn a o hk,hc,n,by simpa using hs⟩,?_⟩
  have e:=r.length
  simp only[Array.length_toList]at e
  omega
theorem Inv.list_inj(I:Inv X pins σ H s)(h:SqL X.K H a xs)(h':SqL X.K H a ys):xs=ys:=by
 obtain⟨its,r,⟨o,n,e,_,_,d⟩,_⟩:=I.list h
 obtain⟨its',r',⟨o',n',e',_,_,d'⟩,_⟩:=I.list h'
 rw[e]at e';cases e'
 rw[d]at d'
 injection d' with d1 _
 have:its=its':=by simpa using congrArg Array.toList d1
 subst this
 exact r.inj r'
theorem Inv.tuple_inj(I:Inv X pins σ H s)(h:SqT X.K H a xs)(h':SqT X.K H a ys):xs=ys:=by
 obtain⟨its,r,⟨o,e,_,n,d⟩,_⟩:=I.tuple h
 obtain⟨its',r',⟨o',e',_,n',d'⟩,_⟩:=I.tuple h'
 rw[e]at e';cases e'
 rw[d]at d'
 injection d' with d1 _
 have:its=its':=by simpa using congrArg Array.toList d1
 subst this
 exact r.inj r'
end
abbrev Cx.wish(X:Cx)(E:Value->Shared->Prop):Cx:={X with xe:=E}
abbrev Cx.nox(X:Cx):Cx:=X.wish fun _ _=>False
theorem Cx.Ok.wish{X:Cx}(ok:X.Ok)(E:Value->Shared->Prop):(X.wish E).Ok:=
 ⟨ok.mod,ok.kind,ok.glob,ok.blt,ok.above,ok.inj,ok.has,ok.cab,ok.hd,ok.frames,ok.stk,ok.exf,ok.bs,ok.bsz,ok.noex,ok.exfs,ok.funs,ok.frf⟩
theorem Cx.Ok.unwish{X:Cx}{E:Value->Shared->Prop}(ok:(X.wish E).Ok):X.Ok:=
 ⟨ok.mod,ok.kind,ok.glob,ok.blt,ok.above,ok.inj,ok.has,ok.cab,ok.hd,ok.frames,ok.stk,ok.exf,ok.bs,ok.bsz,ok.noex,ok.exfs,ok.funs,ok.frf⟩
section
variable{X:Cx}{pins:List (Addr×Obj)}{σ:St}{H:Hp}{s:Shared}{E:Value->Shared->Prop}
theorem Inv.wish(I:Inv X pins σ H s)(E:Value->Shared->Prop):Inv (X.wish E) pins σ H s:=⟨I.ok.wish E,I.os,I.bare,I.base,I.loc,I.cell,I.free,I.freeC,I.pin,I.hok,I.len⟩
theorem Inv.unwish(I:Inv (X.wish E) pins σ H s):Inv X pins σ H s:=⟨I.ok.unwish,I.os,I.bare,I.base,I.loc,I.cell,I.free,I.freeC,I.pin,I.hok,I.len⟩
theorem SP.unwish{D:Ends}{f:Flow}{s':Shared}(h:SP (X.wish E) pins D f s'):SP X pins D f s':=by
 cases f with
 |next=>obtain⟨σ',H',I,q⟩:=h;exact⟨σ',H',I.unwish,q⟩
 |brk=>obtain⟨σ',H',I,q⟩:=h;exact⟨σ',H',I.unwish,q⟩
 |cont=>obtain⟨σ',H',I,q⟩:=h;exact⟨σ',H',I.unwish,q⟩
 |ret u=>obtain⟨v,σ',H',I,r,q⟩:=h;exact⟨v,σ',H',I.unwish,r,q⟩
theorem PSs.nox{st:List Stmt}{t:TS}(h:PSs X.nox st t):PSs X st t:=fun pins s σ H D I hw=>
 wpAny_mono (h pins s σ H D (I.wish _) hw) (fun _ _ q=>q.unwish) fun _ _ z=>False.elim z
end
section
variable{X:Cx}{st:Stmt}{rest:List Stmt}{t u:TS}{e:Expr}{te:TE}{pos:Pos}
noncomputable def cx:TS:=fun D σ H=>D.nx σ H
noncomputable def fA(t u:TS):TS:=fun D σ H=>t {D with nx:=u D} σ H
theorem V8:PSs X [] cx:=fun _ _ σ H _ I h=>wpAny_execs_nil ⟨σ,H,I,h⟩
theorem Sy(h1:PS X st t)(h2:PSs X rest u):PSs X (st::rest) (fA t u):=by
  intro pins s σ H D I h
  refine wpAny_execs_cons (thn (h1 pins s σ H {D with nx:=u D} I h) fun f s1 q=>?_)
  cases f with
  | next =>
    obtain⟨σ',H',I',q⟩:=q
    exact h2 pins s1 σ' H' D I' q
  |ret v=>exact q
  |brk=>exact q
  |cont=>exact q
theorem W0(h1:PS X st t):PSs X [st] t:=by
 intro pins s σ H D I h
 refine wpAny_execs_cons (thn (h1 pins s σ H D I h) fun f s1 q=>?_)
 cases f with
 |next=>exact wpAny_execs_nil q
 |ret v=>exact q
 |brk=>exact q
 |cont=>exact q
theorem Inv.quiet{pins:List (Addr×Obj)}{σ:St}{H:Hp}{s:Shared}(I:Inv X pins σ H s):interactive X.env=false:=by simp[interactive,I.ok.kind]
noncomputable def cA(te:TE):TS:=fun D σ H=>te σ H fun _ H1=>D.nx σ H1
theorem XH(he:PE X e te)(hs:swapsWith e none pos.line X.env=pure false:=by rfl):PS X (.Expr e pos) (cA te):=by
 intro pins s σ H D I h
 exact wpAny_Expr_any (thn (he pins s σ H _ I h) fun v s1 ⟨x,H1,I1,r1,q1⟩=>⟨σ,H1,I1,q1⟩) I.quiet hs
noncomputable def fW(te:TE):TS:=fun D σ H=>te σ H D.rt
theorem Xx(he:PE X e te):PS X (.Return (some e) pos) (fW te):=by
 intro pins s σ H D I h
 exact wpAny_Return_some (thn (he pins s σ H _ I h) fun v s1 ⟨x,H1,I1,r1,q1⟩=>⟨x,σ,H1,I1,r1,q1⟩)
noncomputable def fI(c:TT)(t u:TS):TS:=fun D σ H=>c σ H fun b H1=>if b=true then t D σ H1 else u D σ H1
theorem cy{c:Expr}{a b:List Stmt}{tc:TT}(hc:PT X c tc)(ha:PSs X a t)(hb:PSs X b u):PS X (.If c a b pos) (fI tc t u):=by
 intro pins s σ H D I h
 refine wpAny_If (thn (hc pins s σ H _ I h) fun d s1 ⟨H1,I1,q1⟩=>?_)
 cases d with
 |true=>exact ha pins s1 σ H1 D I1 q1
 |false=>exact hb pins s1 σ H1 D I1 q1
end
abbrev TG:=V->St->Hp->(St->Hp->Prop)->Prop
abbrev TGs:=List V->St->Hp->(St->Hp->Prop)->Prop
def PG(X:Cx)(target:Expr)(t:TG):Prop:=
 ∀ (pins : List (Addr × Obj)) (s : Shared) (σ : St) (H : Hp) (v : V) (u : Value) (Q : St -> Hp -> Prop), Inv X pins σ H s -> RelV v u -> t v σ H Q ->
  wpAny (model X.prog X.w) X.A (assign target X.env u) (fun _ s'=>∃σ' H',Inv X pins σ' H' s'/\Q σ' H') X.xe s
def PGs(X:Cx)(ts:List Expr)(t:TGs):Prop:=
 ∀ (pins : List (Addr × Obj)) (s : Shared) (σ : St) (H : Hp) (vs : List V) (us : List Value) (Q : St -> Hp -> Prop), Inv X pins σ H s -> Vals vs us -> t vs σ H Q ->
  wpAny (model X.prog X.w) X.A (assignInOrder ((assignEach ts X.env).map (·.2)) us) (fun _ s'=>∃σ' H',Inv X pins σ' H' s'/\Q σ' H') X.xe s
abbrev cM:=V->V->V->Hp->(Hp->Prop)->Prop
def dj(X:Cx)(t:cM):Prop:=
 ∀ (pins : List (Addr × Obj)) (s : Shared) (σ : St) (H : Hp) (o i v : V) (ov iv u : Value) (Q : Hp -> Prop), Inv X pins σ H s -> RelV o ov -> RelV i iv -> RelV v u -> t o i v H Q ->
  wpAny (model X.prog X.w) X.A (setItem ov iv u) (fun _ s'=>∃H',Inv X pins σ H' s'/\Q H') X.xe s
section
variable{X:Cx}{pos:Pos}
noncomputable def Vo(i:Nat):TG:=fun v σ H Q=>Q (σ.set i (some v)) H
theorem Wm{i:Nat}{x:Str}(hN:X.N.Nodup)(hi:X.N[i]?=some x)(hx:Loc X.env.scope x)(hf:X.fn x=true∨X.env.scope.names.lookup x=some .local:=by first|exact .inl rfl|exact .inr rfl|assumption):PG X (.Name x pos) (Vo i):=by
 intro pins s σ H v u Q I r h
 exact wpAny_assign_Name (JA I hN hi hx r (fun s' I'=>⟨_,H,I',h⟩) hf)
noncomputable def dC:TGs:=fun vs σ H Q=>vs=[]/\Q σ H
noncomputable def Y1(t:TG)(u:TGs):TGs:=fun vs σ H Q=>∃v r,vs=v::r/\t v σ H fun σ' H'=>u r σ' H' Q
theorem W5:PGs X [] dC:=by
 intro pins s σ H vs us Q I r h
 obtain⟨e,h⟩:=h
 subst e
 cases r
 exact assignInOrder_nil ⟨σ,H,I,h⟩
theorem TL{e:Expr}{es:List Expr}{t:TG}{u:TGs}(h1:PG X e t)(h2:PGs X es u)
    (hs:(assignEach (e::es) X.env).map (·.2)=assign e X.env::(assignEach es X.env).map (·.2):=by rfl):PGs X (e::es) (Y1 t u):=by
  intro pins s σ H vs us Q I r h
  obtain⟨v,vr,e1,h⟩:=h
  subst e1
  cases r with
  | cons r rr =>
    rw[hs]
    refine assignInOrder_cons (thn (h1 pins s σ H _ _ _ I r h) fun _ s1 ⟨σ1,H1,I1,q1⟩=>?_)
    exact h2 pins s1 σ1 H1 _ _ Q I1 rr q1
noncomputable def fM(K:PySem.W.Frag)(n:Nat)(t:TGs):TG:=fun v σ H Q=>∃a xs,v=.ref a/\SqT K H a xs/\xs.length=n/\t xs σ H Q
theorem Yo{es:List Expr}{k:Nat}{t:TGs}{n:Nat}(hc:X.calm=true)(h:PGs X es t)
  (hn:(assignEach es X.env).length=n:=by rfl) (hst:(assignEach es X.env).findIdx? (·.1)=none:=by rfl):PG X (.Tuple es k pos) (fM X.K n t):=by
 intro pins s σ H v u Q I r hw
 obtain⟨a,xs,e1,hq,hl,hw⟩:=hw
 subst e1
 cases r
 obtain⟨its,rv,ht,hz⟩:=I.tuple hq
 refine assign_Tuple_tuple (I.ok.hd hc) ht (by simp[hn,←hl,rv.length]) hst fun h' hx=>?_
 have I1:Inv X pins σ H {s with heap:=h'}:=I.kept (t':=s.toks) fun b o e=>hx b o (Nat.ne_of_lt (Heap.lt_size e)) e
 exact h pins _ σ H xs _ Q I1 (by simpa using rv) hw
noncomputable def eK(to ti:TE)(t:cM):TG:=fun v σ H Q=>to σ H fun o H1=>ti σ H1 fun i H2=>t o i v H2 fun H3=>Q σ H3
theorem ZD{o i:Expr}{to ti:TE}{t:cM}(ho:PE X o to)(hi:PE X i ti)(hs:dj X t)
  (ha:∀v,assign (.Subscript o i pos) X.env v=(do
   let ov←holding [v] (eval o X.env)
   let iv←holding [v,ov] (eval i X.env)
   standAt pos
   holding [v,ov,iv] (setItem ov iv v)
   release [v,ov,iv] []):=by intro _;rfl):PG X (.Subscript o i pos) (eK to ti t):=by
 intro pins s σ H v u Q I r h
 rw[ha]
 refine wpAny_bind (wpAny_holding (thn (ho pins s σ H _ I h) fun ov s1 ⟨x,H1,I1,r1,q1⟩=>?_))
 refine wpAny_bind (wpAny_holding (thn (hi pins s1 σ H1 _ I1 q1) fun iv s2 ⟨y,H2,I2,r2,q2⟩=>?_))
 refine wpAny_bind (wpAny_standAt (wpAny_bind (wpAny_holding (thn (hs pins s2 σ H2 x y v ov iv u _ I2 r1 r2 r q2) fun _ s3 ⟨H3,I3,q3⟩=>?_))))
 exact wpAny_release ⟨σ,H3,I3,q3⟩
noncomputable def cX(te:TE)(g:TG):TS:=fun D σ H=>te σ H fun x H1=>g x σ H1 D.nx
theorem VZ{tg e:Expr}{te:TE}{g:TG}(he:PE X e te)(hg:PG X tg g)(hs:swapsWithSole [tg] e pos.line X.env=pure false:=by rfl)(hw:swappedStores [tg] e X.env=pure none:=by rfl)
  (h1:(assignEach [tg] X.env).map (·.2)=[assign tg X.env]:=by rfl):PS X (.Assign [tg] e pos) (cX te g):=by
 intro pins s σ H D I h
 refine wpAny_Assign_stores (thn (he pins s σ H _ I h) fun v s1 ⟨x,H1,I1,r1,q1⟩=>?_) hs hw
 rw[h1]
 exact thn (hg pins s1 σ H1 x v _ I1 r1 q1) fun _ s2 q=>q
theorem ZQ{i:Nat}{x:Str}{e:Expr}{te:TE}{pos':Pos}(hN:X.N.Nodup)(hi:X.N[i]?=some x)(hx:Loc X.env.scope x)(he:PE X e te)(hs:swapsWith e (some (.Name x pos')) pos.line X.env=pure false:=by rfl)(hf:X.fn x=true∨X.env.scope.names.lookup x=some .local:=by first|exact .inl rfl|exact .inr rfl|assumption):
  PS X (.Assign [.Name x pos'] e pos) (cX te (Vo i)):=by
 intro pins s σ H D I h
 refine wpAny_Assign_Name (thn (he pins s σ H _ I h) fun v s1 ⟨y,H1,I1,r1,q1⟩=>?_) hs
 exact JA I1 hN hi hx r1 (fun s2 I2=>⟨_,H1,I2,q1⟩) hf
noncomputable def fe(i j:Nat)(ta:TA):TS:=fun D σ H=>ta σ H fun vs H1=>∃v w,vs=[v,w]/\D.nx ((σ.set i (some v)).set j (some w)) H1
theorem X6{i j:Nat}{x y:Str}{a b:Expr}{ta:TA}{px py pt:Pos}{kt k2 pt2}(hc:X.calm=true)(hN:X.N.Nodup)(hi:X.N[i]?=some x)(hj:X.N[j]?=some y)(hij:i≠j)
    (hx:X.env.scope.names.lookup x=some .local) (hy:X.env.scope.names.lookup y=some .local) (ha:PA X [a,b] ta)
    (hw:swappedStores [.Tuple [.Name x px,.Name y py] kt pt] (.Tuple [a,b] k2 pt2) X.env=pure (some [x,y]))
    (hs:swapsWithSole [.Tuple [.Name x px,.Name y py] kt pt] (.Tuple [a,b] k2 pt2) pos.line X.env=pure false:=by rfl):
    PS X (.Assign [.Tuple [.Name x px,.Name y py] kt pt] (.Tuple [a,b] k2 pt2) pos) (fe i j ta):=by
  intro pins s σ H D I h
  rw[exec_Assign_arm]
  refine wpAny_bind (wpAny_standAt ?_)
  rw[hs]
  refine wpAny_bind (wpAny_pure ?_)
  rw[if_neg (by decide)]
  refine wpAny_bind (Tuple_ (thn (ha _ pins s σ H _ I h) fun us s1 ⟨vs,H1,I1,r1,q1⟩=>?_))
  obtain⟨v,w,e1,q1⟩:=q1
  subst e1
  obtain ⟨u1, u2, rfl, rv, rw'⟩ : ∃ u1 u2, us = [u1, u2] /\ RelV v u1 /\ RelV w u2 := by
    cases r1 with
    | cons p q =>
      cases q with
      | cons p' q' =>
        cases q'
        exact⟨_,_,rfl,p,p'⟩
  refine wpAny_newObj_type ?_ (by show 2≤sizeLine;decide)
  have I2:Inv X pins σ H1 {s1 with heap:=s1.heap.push {cls:=.type "tuple",data:=.seq [u1,u2].toArray}}:=I1.kept (t':=s1.toks) fun b o e=>Heap.get?_push_of_some _ e
  rw[hw]
  refine wpAny_bind (wpAny_pure ?_)
  show wpAny (model X.prog X.w) X.A (do rule "assign.swapped-stores"; let items←unpackItems (.ref s1.heap.objs.size) 2 none;assignInOrder [fun v=>bindName X.env y v,fun v=>bindName X.env x v] items.reverse;pure Flow.next) _ _ _
  refine wpAny_bind (wpAny_rule (wpAny_bind (unpackItems_tuple (items:= #[u1,u2]) (I.ok.hd hc) (IsTup.new s1.heap _) fun h' hx'=>?_)))
  have I3:=I2.kept (h':=h') (t':=s1.toks) fun b o e=>hx' b o (Nat.ne_of_lt (Heap.lt_size e)) e
  show wpAny _ _ (assignInOrder [fun v=>bindName X.env y v,fun v=>bindName X.env x v] [u2,u1] >>= fun _=>pure Flow.next) _ _ _
  refine wpAny_bind (assignInOrder_cons (wpAny_bindName (JA I3 hN hj (.inl hy) rw' (fun s2 I4=>?_) (.inr hy))))
  refine assignInOrder_cons (wpAny_bindName (JA I4 hN hi (.inl hx) rv (fun s3 I5=>assignInOrder_nil (wpAny_pure ?_)) (.inr hx)))
  rw[List.set_comm _ _ (Ne.symm hij)]at I5
  exact⟨_,H1,I5,q1⟩
end
section
variable{X:Cx}{pos:Pos}
noncomputable def YK(c:TT)(tb:TS):TS:=fun D σ H=>∃W:Nat->St->Hp->Prop,(∃m,W m σ H)/\∀m σ H,W m σ H->
 c σ H fun b H1=>if b=true then∃N:St->Hp->Prop,(∀σ' H',N σ' H'->∃m',m'<m/\W m' σ' H')/\tb {D with nx:=N,ct:=N,bk:=D.nx} σ H1 else D.nx σ H1
theorem Ud{c:Expr}{body:List Stmt}{tc:TT}{tb:TS}(hp:PassesOwn (model X.prog X.w) X.A X.env X.xe)(hc:PT X c tc)(hb:PSs X body tb):PS X (.While c body [] pos) (YK tc tb):=by
  intro pins s σ H D I h
  obtain⟨W,⟨m0,w0⟩,turn⟩:=h
  refine wpAny_While (codeAny_whileLoop (fun n s'=>∃σ' H',Inv X pins σ' H' s'/\W n σ' H') ?_ m0 ⟨σ,H,I,w0⟩)
  rintro n s1 ⟨σ1,H1,I1,w1⟩
  refine wpAny_passesOwn hp (thn (hc pins s1 σ1 H1 _ I1 (turn n σ1 H1 w1)) fun b s2 ⟨H2,I2,q2⟩=>?_)
  cases b with
  | true =>
    obtain⟨N,hN,q2⟩:=q2
    rw[if_pos rfl]
    refine wpAny_passesOwn hp (thn (hb pins s2 σ1 H2 _ I2 q2) fun f s3 q3=>?_)
    cases f with
    | next =>
      obtain⟨σ3,H3,I3,n3⟩:=q3
      obtain⟨m',hm,w3⟩:=hN σ3 H3 n3
      exact⟨m',hm,σ3,H3,I3,w3⟩
    | cont =>
      obtain⟨σ3,H3,I3,n3⟩:=q3
      obtain⟨m',hm,w3⟩:=hN σ3 H3 n3
      exact⟨m',hm,σ3,H3,I3,w3⟩
    |brk=>exact q3
    |ret v=>exact q3
  | false =>
    rw[if_neg Bool.false_ne_true]
    exact wpAny_execs_nil ⟨σ1,H2,I2,q2⟩
end
structure It where
 go:Nat->Hp->Prop
 yld:Nat->Hp->V->Hp->Prop
 stop:Nat->Hp->Prop
def N8(X:Cx)(pins:List (Addr×Obj))(H:Hp)(b:Addr):Prop:=
 H b=none/\b≠X.env.locals/\b∉X.fs/\(b∈X.ex∨X.s₀.heap.objs.size≤b)/\(∀x c,X.env.cells.lookup x=some c->c≠b)/\∀p∈X.pn++pins,p.1≠b
theorem Inv.fpOk{X:Cx}{pins:List (Addr×Obj)}{σ:St}{H H':Hp}{s:Shared}{b:Addr}(I:Inv X pins σ H s)(hb:s.heap.objs.size≤b)(hn:H' b=none):N8 X pins H' b:=by
 refine⟨hn,Nat.ne_of_gt (Nat.lt_of_lt_of_le I.lt hb),I.nofs hb,.inr (Nat.le_trans I.sz hb),fun x c e z=>?_,fun p hp z=>?_⟩
 ·obtain⟨v,q⟩:=I.cell x c e
  exact absurd (Nat.lt_of_lt_of_le q.lt (by rw[z];exact hb)) (Nat.lt_irrefl _)
 ·exact absurd (Nat.lt_of_lt_of_le (Heap.lt_size (I.pin p hp).1) (by rw[z];exact hb)) (Nat.lt_irrefl _)
structure Turn(P:Program)(w:World)(K:PySem.W.Frag)(tg:Expr)(J:It)(fp:List Addr)(it:Addr)(tn:Nat->Heap->Prop):Prop where
 mem:it∈fp
 obj:∀i h,tn i h->∀b∈fp,∃o,h.get? b=some o/\∀v,o.data≠.cell v
 keep:∀i h h',tn i h->(∀b∈fp,∀o,h.get? b=some o->h'.get? b=some o)->tn i h'
 item:∀(X:Cx),X.prog=P->X.w=w->X.K=K->X.calm=true->∀(i:Nat) (pins:List (Addr×Obj)) (s:Shared) (σ:St) (H:Hp) (E:Value->Shared->Prop),Inv X pins σ H s->(∀b∈fp,N8 X pins H b)->tn i s.heap->J.go i H->
  wpAny (model P w) X.A (pyNext (.ref it)) (fun r s1=>∃u,r=some u/\
   wpAny (model P w) X.A (letOwnedTupleGo tg (.ref it) u) (fun _ s2=>∃x H',Inv X pins σ H' s2/\RelV x u/\J.yld i H x H'/\tn (i+1) s2.heap/\∀b∈fp,H' b=none) E s1) E s
 done:∀(X:Cx),X.prog=P->X.w=w->X.K=K->X.calm=true->∀(i:Nat) (pins:List (Addr×Obj)) (s:Shared) (σ:St) (H:Hp) (E:Value->Shared->Prop),Inv X pins σ H s->(∀b∈fp,N8 X pins H b)->tn i s.heap->J.stop i H->
  wpAny (model P w) X.A (pyNext (.ref it)) (fun r s1=>r=none/\Inv X pins σ H s1) E s
 self:∀(A:Around) (i:Nat) (s:Shared) (Q:Value->Shared->Prop) (E:Value->Shared->Prop),tn i s.heap->Q (.ref it) s->wpAny (model P w) A (pyIter (.ref it)) Q E s
abbrev TI:=St->Hp->(It->Hp->Prop)->Prop
def PIE(X:Cx)(pins:List (Addr×Obj))(σ:St)(tg:Expr)(R:It->Hp->Prop)(itv:Value)(s2:Shared):Prop:=
 ∃(it:Addr) (fp:List Addr) (tn:Nat->Heap->Prop) (J:It) (H':Hp),itv=.ref it/\Inv X pins σ H' s2/\Turn X.prog X.w X.K tg J fp it tn/\tn 0 s2.heap/\(∀b∈fp,N8 X pins H' b)/\R J H'
def PI(X:Cx)(tg iter:Expr)(wi:TI):Prop:=
 ∀ (pins : List (Addr × Obj)) (s : Shared) (σ : St) (H : Hp) (R : It -> Hp -> Prop), Inv X pins σ H s -> wi σ H R ->
  wpAny (model X.prog X.w) X.A (eval iter X.env) (fun v s1=>wpAny (model X.prog X.w) X.A (pyIter v) (PIE X pins σ tg R) X.xe s1) X.xe s
theorem Wr {M : Model} {A : Around} {E : Value -> Shared -> Prop} {s : Shared} {tg : Expr} {it : Addr} {u : Value} {o : Obj} {n : String} {vs : Array Value} {Q : Unit -> Shared -> Prop} (ho : s.heap.get? it = some o) (hc : o.cls = .type n) (hd : o.data = .fields vs)
    (hn:["enumerate","zip","dict_itemiterator","dict_reverseitemiterator","odict_iterator","itertools.zip_longest","itertools.pairwise"].contains n=false) (hQ:Q () s):wpAny M A (letOwnedTupleGo tg (.ref it) u) Q E s:=by
  unfold letOwnedTupleGo
  cases tg <;> first
    |exact wpAny_pure hQ
    |(cases u<;>first
        |exact wpAny_pure hQ
        | (refine wpAny_bind (wpAny_load ho ?_)
           rw[hc,hd]
           show wpAny M A (if(["enumerate","zip","dict_itemiterator","dict_reverseitemiterator","odict_iterator","itertools.zip_longest","itertools.pairwise"].contains n && vs[0]?==some (rawInt _))=true then _ else _) Q E s
           rw[if_neg (by intro h;rw[hn,Bool.false_and]at h;cases h)]
           exact wpAny_pure hQ))
noncomputable def Itl(K:PySem.W.Frag)(a:Addr):It:=
 ⟨fun i H=>∃xs x,SqL K H a xs/\xs[i]?=some x,fun i H x H'=>H'=H/\∀xs,SqL K H a xs->xs[i]?=some x,fun i H=>∃xs,SqL K H a xs/\xs.length≤i⟩
noncomputable def Itt(K:PySem.W.Frag)(a:Addr):It:=
 ⟨fun i H=>∃xs x,SqT K H a xs/\xs[i]?=some x,fun i H x H'=>H'=H/\∀xs,SqT K H a xs->xs[i]?=some x,fun i H=>∃xs,SqT K H a xs/\xs.length≤i⟩
noncomputable def Itr(lo:Int)(n:Nat):It:=⟨fun i _=>i<n,fun i H x H'=>H'=H/\x=.int (lo+i),fun i _=>n≤i⟩
theorem Qv{P:Program}{w:World}{K:PySem.W.Frag}{tg:Expr}(a it:Addr):Turn P w K tg (Itl K a) [it] it (fun i h=>h.IsListIter it a i) where
 mem:=by simp
 obj:=fun i h st b hb=>by
  have e:b=it:=by simpa using hb
  subst e
  obtain⟨o,e,c,d⟩:=st
  exact⟨o,e,fun v z=>by rw[d]at z;cases z⟩
 keep:=fun i h h' st k=>st.at fun o e=>k it (by simp) o e
 item:=by
  intro X hP hw hK hc i pins s σ H E I hf st hg
  subst hP hw hK
  obtain⟨xs,x,hq,hx⟩:=hg
  obtain⟨its,rv,p,hz⟩:=I.list hq
  obtain⟨u,hu,ru⟩:=rv.get hx
  obtain⟨f0,f1,f2,f3,f4,f5⟩:=hf it (by simp)
  refine wpAny_pyNext_list_item st p.isList (x:=u) (by simpa using hu) fun h' st' sb=>?_
  have I1:Inv X pins σ H {s with heap:=h'}:=I.turned (t':=s.toks) (fun b o hb e=>(sb.2 b hb).trans e) f0 f1 f3 f4 f5
  obtain⟨o,e,c,d⟩:=id st'
  exact⟨u,rfl,Wr (s:={s with heap:=h'}) e c d (by decide) ⟨x,H,I1,ru,⟨rfl,fun ys hy=>by rw[I.list_inj hy hq];exact hx⟩,st',fun b hb=>(hf b hb).1⟩⟩
 done:=by
  intro X hP hw hK hc i pins s σ H E I hf st hg
  subst hP hw hK
  obtain⟨xs,hq,hx⟩:=hg
  obtain⟨its,rv,p,hz⟩:=I.list hq
  obtain⟨f0,f1,f2,f3,f4,f5⟩:=hf it (by simp)
  have hl:=rv.length
  exact wpAny_pyNext_list_end (I.ok.hd hc) st p.isList (by simp;omega) fun h' eb=>⟨rfl,I.turned (t':=s.toks) (fun b o hb e=>eb b o hb e) f0 f1 f3 f4 f5⟩
 self:=fun _ _ _ _ _ st h=>wpAny_pyIter_listiter st h
theorem Pe{P:Program}{w:World}{K:PySem.W.Frag}{tg:Expr}(a it:Addr):Turn P w K tg (Itt K a) [it] it (fun i h=>h.IsTupleIter it a i) where
 mem:=by simp
 obj:=fun i h st b hb=>by
  have e:b=it:=by simpa using hb
  subst e
  obtain⟨o,e,c,d⟩:=st
  exact⟨o,e,fun v z=>by rw[d]at z;cases z⟩
 keep:=fun i h h' st k=>st.at fun o e=>k it (by simp) o e
 item:=by
  intro X hP hw hK hc i pins s σ H E I hf st hg
  subst hP hw hK
  obtain⟨xs,x,hq,hx⟩:=hg
  obtain⟨its,rv,p,hz⟩:=I.tuple hq
  obtain⟨u,hu,ru⟩:=rv.get hx
  obtain⟨f0,f1,f2,f3,f4,f5⟩:=hf it (by simp)
  refine wpAny_pyNext_tuple_item st (show s.heap.IsTuple a its.toArray from p) (x:=u) (by simpa using hu) fun h' st' sb=>?_
  have I1:Inv X pins σ H {s with heap:=h'}:=I.turned (t':=s.toks) (fun b o hb e=>(sb.2 b hb).trans e) f0 f1 f3 f4 f5
  obtain⟨o,e,c,d⟩:=id st'
  exact⟨u,rfl,Wr (s:={s with heap:=h'}) e c d (by decide) ⟨x,H,I1,ru,⟨rfl,fun ys hy=>by rw[I.tuple_inj hy hq];exact hx⟩,st',fun b hb=>(hf b hb).1⟩⟩
 done:=by
  intro X hP hw hK hc i pins s σ H E I hf st hg
  subst hP hw hK
  obtain⟨xs,hq,hx⟩:=hg
  obtain⟨its,rv,p,hz⟩:=I.tuple hq
  obtain⟨f0,f1,f2,f3,f4,f5⟩:=hf it (by simp)
  have hl:=rv.length
  exact wpAny_pyNext_tuple_end (I.ok.hd hc) st (show s.heap.IsTuple a its.toArray from p) (by simp;omega) fun h' eb=>⟨rfl,I.turned (t':=s.toks) (fun b o hb e=>eb b o hb e) f0 f1 f3 f4 f5⟩
 self:=fun _ _ _ _ _ st h=>wpAny_pyIter_tupleiter st h
theorem PB{P:Program}{w:World}{K:PySem.W.Frag}{tg:Expr}(it:Addr)(lo:Int)(n:Nat):Turn P w K tg (Itr lo n) [it] it (fun i h=>IsRangeIter h it (lo+(i:Nat)*1) ((n:Int)-(i:Nat)) 1) where
 mem:=by simp
 obj:=fun i h st b hb=>by
  have e:b=it:=by simpa using hb
  subst e
  exact⟨_,st,fun v z=>by
   have z':Data.fields _=Data.cell v:=z
   cases z'⟩
 keep:=fun i h h' st k=>k it (by simp) _ st
 item:=by
  intro X hP hw hK hc i pins s σ H E I hf st hg
  subst hP hw hK
  obtain⟨f0,f1,f2,f3,f4,f5⟩:=hf it (by simp)
  have W:=Walks.range (prog:=X.prog) (w:=X.w) (I.ok.hd hc) it lo 1 n
  refine W.item i s _ _ hg st fun v h' tk hv st' kk=>?_
  obtain⟨t,rfl⟩:=hv
  have I1:Inv X pins σ H {s with heap:=h',toks:=tk}:=I.turned (fun b o hb e=>kk b o (by simpa using hb) e) f0 f1 f3 f4 f5
  refine⟨_,rfl,Wr (s:={s with heap:=h',toks:=tk}) (n:="range_iterator") st' rfl rfl (by decide) ⟨.int (lo+i),H,I1,⟨t,?_⟩,⟨rfl,rfl⟩,st',fun b hb=>(hf b hb).1⟩⟩
  rw[Int.mul_one]
 done:=by
  intro X hP hw hK hc i pins s σ H E I hf st hg
  subst hP hw hK
  obtain⟨f0,f1,f2,f3,f4,f5⟩:=hf it (by simp)
  exact wpAny_pyNext_range_end (I.ok.hd hc) st (by have:n≤i:=hg;omega) fun h' eb=>⟨rfl,I.turned (t':=s.toks) (fun b o hb e=>eb b o hb e) f0 f1 f3 f4 f5⟩
 self:=fun _ _ _ _ _ st h=>wpAny_pyIter_rangeiter st h
end L2
namespace L2
open PySem PySem.Spec PyProof.Rows
section
variable{X:Cx}{tg:Expr}
theorem Tx{pins:List (Addr×Obj)}{σ:St}{H:Hp}{s:Shared}{R:It->Hp->Prop}{E:Value->Shared->Prop}{lo hi:Int}{t u v:Tok}{tk:Nat}(I:Inv X pins σ H s)(h1: -(2^62)≤lo)(h2:lo<2^62)(h3: -(2^62)≤hi)(h4:hi<2^62)
  (q:R (Itr lo (hi-lo).toNat) H):wpAny (model X.prog X.w) X.A (pyIter (.ref s.heap.objs.size)) (PIE X pins σ tg R) E {s with heap:=s.heap.push {cls:=.type "range",data:=.fields #[.int lo t,.int hi u,.int 1 v]},toks:=tk}:=by
 refine wpAny_pyIter_range (IsRange.new ..) (small_one h1 h2 h3 h4) ?_
 have I1:Inv X pins σ H {s with heap:=s.heap.push {cls:=.type "range",data:=.fields #[.int lo t,.int hi u,.int 1 v]},toks:=tk}:=I.kept fun b o e=>Heap.get?_push_of_some _ e
 refine⟨(s.heap.push {cls:=.type "range",data:=.fields #[.int lo t,.int hi u,.int 1 v]}).objs.size,[(s.heap.push {cls:=.type "range",data:=.fields #[.int lo t,.int hi u,.int 1 v]}).objs.size],_,_,H,rfl,
  I1.kept (t':=tk) fun b o e=>Heap.get?_push_of_some _ e,PB _ lo (hi-lo).toNat,?_,fun b hb=>?_,q⟩
 ·have e1:lo+((0:Nat):Int)*1=lo:=by simp
  have e2:(((hi-lo).toNat:Nat):Int)-((0:Nat):Int)=Builtin.Range.rangeSize lo hi 1:=by rw[rangeSize_one];split<;>omega
  show IsRangeIter _ _ (lo+((0:Nat):Int)*1) ((((hi-lo).toNat:Nat):Int)-((0:Nat):Int)) 1
  rw[e1,e2]
  exact Heap.get?_push_size _ rfl
 ·have e:b=(s.heap.push {cls:=.type "range",data:=.fields #[.int lo t,.int hi u,.int 1 v]}).objs.size:=by simpa using hb
  subst e
  exact I1.fpOk (Nat.le_refl _) (I1.hok.fresh (Nat.le_refl _))
noncomputable def cu(ta:TA):TI:=fun σ H R=>ta σ H fun vs H1=>∃j:Int,vs=[.int j]/\ -(2^62)≤j/\j<2^62/\R (Itr 0 j.toNat) H1
theorem QJ{a:Expr}{ta:TA}{p pos:Pos}(hg:Gl X "range")(hm:X.mg "range"=none)(ha:PA X [a] ta)(hs:starEach [a] X.env=[(false,eval a X.env)]:=by rfl):PI X tg (.Call (.Name "range" p) [a] [] pos) (cu ta):=by
  intro pins s σ H R I h
  refine Call_ (JP I hg hm boot_range (PyProof.Rows.callWith_type1 (thn (ha pos pins s σ H _ I h) fun us s1 ⟨vs,H1,I1,r1,q1⟩=>?_) hs rfl))
  obtain⟨j,e,q1,q2,q⟩:=q1
  subst e
  cases r1 with
  | cons r rr =>
    cases rr
    obtain⟨t,rfl⟩:=r
    exact call_range_1 (Tx I1 (by omega) (by omega) q1 q2 (by simpa using q))
noncomputable def eW(wi:TI)(g:TG)(tb:TS):TS:=fun D σ H=>wi σ H fun J H1=>∃W:Nat->Nat->St->Hp->Prop,(∃m,W 0 m σ H1)/\∀i m σ H,W i m σ H->
 (J.stop i H/\D.nx σ H)∨(J.go i H/\∃N:St->Hp->Prop,(∀σ' H',N σ' H'->∃m',m'<m/\W (i+1) m' σ' H')/\∀x H',J.yld i H x H'->g x σ H' fun σ2 H2=>tb {D with nx:=N,ct:=N,bk:=D.nx} σ2 H2)
noncomputable def ND(fp:List Addr)(h:Heap):List (Addr×Obj):=fp.filterMap fun b=>(h.get? b).map fun o=>(b,o)
theorem GQ{fp:List Addr}{h:Heap}{b:Addr}{o:Obj}(hb:b∈fp)(e:h.get? b=some o):(b,o)∈ND fp h:=List.mem_filterMap.mpr ⟨b,hb,by rw[e];rfl⟩
theorem QY{fp:List Addr}{h:Heap}{p:Addr×Obj}(hp:p∈ND fp h):p.1∈fp/\h.get? p.1=some p.2:=by
  obtain⟨b,hb,e⟩:=List.mem_filterMap.mp hp
  cases q:h.get? b with
  |none=>rw[q]at e;cases e
  | some o =>
    rw[q]at e
    have e':(b,o)=p:=Option.some.inj e
    subst e'
    exact⟨hb,q⟩
theorem Inv.pinned{pins:List (Addr×Obj)}{σ:St}{H:Hp}{s:Shared}{fp:List Addr}(I:Inv X pins σ H s)(hf:∀b∈fp,N8 X pins H b)(ho:∀b∈fp,∃o,s.heap.get? b=some o/\∀v,o.data≠.cell v):Inv X (pins++ND fp s.heap) σ H s:=
 I.pins_of fun p hp=>(List.mem_append.mp hp).elim (fun z=>I.pin p (List.mem_append_right _ z)) fun z=>by
  obtain⟨hb,e⟩:=QY z
  obtain⟨f0,f1,f2,_⟩:=hf p.1 hb
  obtain⟨o,e',d⟩:=ho p.1 hb
  rw[e]at e';cases e'
  exact⟨e,f0,f1,f2,d⟩
theorem Inv.unpinned{pins pl:List (Addr×Obj)}{σ:St}{H:Hp}{s:Shared}(I:Inv X (pins++pl) σ H s):Inv X pins σ H s:=I.pins_of fun p hp=>I.pin p (List.mem_append_right _ (List.mem_append_left _ hp))
theorem ZS{iter:Expr}{body:List Stmt}{wi:TI}{g:TG}{tb:TS}{pos:Pos}(hp:PassesOwn (model X.prog X.w) X.A X.env X.xe)(hc:X.calm=true)(hi:PI X tg iter wi)(hg:PG X tg g)(hb:PSs X body tb)
  (hs:∀x,foldedSetIterable iter X.env x=pure x:=by intro _;rfl):PS X (.For tg iter body [] pos) (eW wi g tb):=by
 intro pins s σ H D I h
 refine wpAny_For (thn (hi pins s σ H _ I h) fun v s1 h1=>thn h1 fun itv s2 h2=>?_) hs
 obtain⟨it,fp,tn,J,H2,e,I2,T,st2,f2,W,⟨m0,w0⟩,turn⟩:=h2
 subst e
 have stat:∀{H':Hp},(∀b∈fp,H' b=none)->∀b∈fp,N8 X pins H' b:=fun hn b hb=>⟨hn b hb,(f2 b hb).2⟩
 refine codeAny_forLoop_any (fun n s'=>∃i σ' H',Inv X pins σ' H' s'/\tn i s'.heap/\(∀b∈fp,H' b=none)/\W i n σ' H') ?_ m0 ⟨0,σ,H2,I2,st2,fun b hb=>(f2 b hb).1,w0⟩
 rintro n s3 ⟨i,σ3,H3,I3,st3,fr3,w3⟩
 rcases turn i n σ3 H3 w3 with⟨stop,qn⟩|⟨go,N,hN,step⟩
 ·refine wpAny_passesOwn hp (thn (T.done X rfl rfl rfl hc i pins s3 σ3 H3 X.xe I3 (stat fr3) st3 stop) fun r s4 ⟨hr,I4⟩=>?_)
  subst hr
  exact wpAny_execs_nil ⟨σ3,H3,I4,qn⟩
 ·refine wpAny_passesOwn hp (thn (T.item X rfl rfl rfl hc i pins s3 σ3 H3 X.xe I3 (stat fr3) st3 go) fun r s4 ⟨u,hr,h4⟩=>?_)
  subst hr
  refine wpAny_passesOwn hp (thn h4 fun _ s5 ⟨x,H5,I5,r5,y5,st5,fr5⟩=>?_)
  have I5':=I5.pinned (stat fr5) (T.obj _ _ st5)
  refine wpAny_passesOwn hp (thn (hg _ s5 σ3 H5 x u _ I5' r5 (step x H5 y5)) fun _ s6 ⟨σ6,H6,I6,q6⟩=>?_)
  refine wpAny_passesOwn hp (thn (hb _ s6 σ6 H6 _ I6 q6) fun f s7 q7=>?_)
  have again:∀{σ7:St} {H7:Hp},Inv X (pins++ND fp s5.heap) σ7 H7 s7->N σ7 H7->∃m,m<n/\∃i σ' H',Inv X pins σ' H' s7/\tn i s7.heap/\(∀b∈fp,H' b=none)/\W i m σ' H':=fun{σ7 H7} I7 n7=>by
   obtain⟨m',hm,w7⟩:=hN σ7 H7 n7
   refine⟨m',hm,i+1,σ7,H7,I7.unpinned,T.keep _ _ _ st5 fun b hb o e=>(I7.pin (b,o) (List.mem_append_right _ (List.mem_append_right _ (GQ hb e)))).1,fun b hb=>?_,w7⟩
   obtain⟨o,e,d⟩:=T.obj _ _ st5 b hb
   exact(I7.pin (b,o) (List.mem_append_right _ (List.mem_append_right _ (GQ hb e)))).2.1
  cases f with
  |next=>obtain⟨σ7,H7,I7,n7⟩:=q7;exact again I7 n7
  |cont=>obtain⟨σ7,H7,I7,n7⟩:=q7;exact again I7 n7
  |brk=>obtain⟨σ7,H7,I7,q7⟩:=q7;exact⟨σ7,H7,I7.unpinned,q7⟩
  |ret v=>obtain⟨x7,σ7,H7,I7,r7,q7⟩:=q7;exact⟨x7,σ7,H7,I7.unpinned,r7,q7⟩
end
end L2
namespace L2
open PySem PySem.Spec PyProof.Rows
abbrev R2:=V->V->Hp->VK->Prop
def OpR(X:Cx)(f:Value->Value->Sem Value)(r:R2):Prop:=
 ∀ (pins : List (Addr × Obj)) (s : Shared) (σ : St) (H : Hp) (x y : V) (v u : Value) (Q : VK), Inv X pins σ H s -> RelV x v -> RelV y u -> r x y H Q ->
  wpAny (model X.prog X.w) X.A (f v u) (EP X pins σ Q) X.xe s
def UnR(X:Cx)(f:Value->Sem Value)(r:V->Hp->VK->Prop):Prop:=
 ∀ (pins : List (Addr × Obj)) (s : Shared) (σ : St) (H : Hp) (x : V) (v : Value) (Q : VK), Inv X pins σ H s -> RelV x v -> r x H Q ->
  wpAny (model X.prog X.w) X.A (f v) (EP X pins σ Q) X.xe s
def Cy(X:Cx)(f:Value)(r:List V->Hp->VK->Prop):Prop:=
 ∀ (pins : List (Addr × Obj)) (s : Shared) (σ : St) (H : Hp) (xs : List V) (us : List Value) (Q : VK), Inv X pins σ H s -> Vals xs us -> r xs H Q ->
  wpAny (model X.prog X.w) X.A (call f us) (EP X pins σ Q) X.xe s
noncomputable def tOp(r:R2)(ta tb:TE):TE:=fun σ H Q=>ta σ H fun x H1=>tb σ H1 fun y H2=>r x y H2 Q
noncomputable def tUn(r:V->Hp->VK->Prop)(ta:TE):TE:=fun σ H Q=>ta σ H fun x H1=>r x H1 Q
noncomputable def rI(C:Int->Int->Prop)(g:Int->Int->V):R2:=fun x y H Q=>∃i j,x=.int i/\y=.int j/\C i j/\Q (g i j) H
noncomputable def rI0(g:Int->Int->V):R2:=fun x y H Q=>∃i j,x=.int i/\y=.int j/\Q (g i j) H
def rU(g:Int->V):V->Hp->VK->Prop:=fun x H Q=>∃i,x=.int i/\Q (g i) H
section
variable{X:Cx}{a b c:Expr}{ta tb tc:TE}{pos:Pos}
theorem cn(ha:PE X a ta)(hb:PE X b tb){pins:List (Addr×Obj)}{s:Shared}{σ:St}{H:Hp}{R:V->V->Hp->Prop}(I:Inv X pins σ H s)
  (h:ta σ H fun x H1=>tb σ H1 fun y H2=>R x y H2) {Q:Value->Shared->Prop} {f:Value->Value->Sem Value}
  (hf:∀v u s2 x y H2,Inv X pins σ H2 s2->RelV x v->RelV y u->R x y H2->wpAny (model X.prog X.w) X.A (f v u) Q X.xe s2):
  wpAny (model X.prog X.w) X.A (eval a X.env) (fun v s₁=>wpAny (model X.prog X.w) X.A (eval b X.env) (fun u s₂=>wpAny (model X.prog X.w) X.A (f v u) Q X.xe s₂) X.xe s₁) X.xe s:=by
 refine thn (ha pins s σ H _ I h) fun v s1 ⟨x,H1,I1,r1,q1⟩=>?_
 refine thn (hb pins s1 σ H1 _ I1 q1) fun u s2 ⟨y,H2,I2,r2,q2⟩=>?_
 exact hf v u s2 x y H2 I2 r1 r2 q2
theorem ab{op:Operator}{r:R2}(ho:OpR X (binaryOp op) r)(ha:PE X a ta)(hb:PE X b tb):PE X (.BinOp a op b pos) (tOp r ta tb):=by
 intro pins s σ H Q I h
 exact wpAny_BinOp (cn ha hb I h fun v u s2 x y H2 I2 rx ry q=>ho pins s2 σ H2 x y v u Q I2 rx ry q)
theorem Yh{op:UnaryOp}{r:V->Hp->VK->Prop}(ho:UnR X (unaryOp op) r)(ha:PE X a ta):PE X (.UnaryOp op a pos) (tUn r ta):=by
 intro pins s σ H Q I h
 exact UnaryOp_ (thn (ha pins s σ H _ I h) fun v s1 ⟨x,H1,I1,r1,q1⟩=>ho pins s1 σ H1 x v Q I1 r1 q1)
theorem opI{f:Value->Value->Sem Value}{C:Int->Int->Prop}{g:Int->Int->Int}
  (rule:∀(i j:Int) (t u:Tok) (s:Shared) (Q:Value->Shared->Prop) (E:Value->Shared->Prop),C i j->Q (.int (g i j) s.toks) {s with toks:=s.toks+1}->wpAny (model X.prog X.w) X.A (f (.int i t) (.int j u)) Q E s):
  OpR X f (rI C fun i j=>.int (g i j)):=by
 intro pins s σ H x y v u Q I rx ry h
 obtain⟨i,j,rfl,rfl,hc,q⟩:=h
 obtain⟨t,rfl⟩:=rx
 obtain⟨t',rfl⟩:=ry
 exact rule i j t t' s _ _ hc ⟨.int (g i j),H,I.tok _,⟨_,rfl⟩,q⟩
theorem dS{f:Value->Value->Sem Value}{g:Int->Int->Int}
  (rule:∀(i j:Int) (t u:Tok) (s:Shared) (Q:Value->Shared->Prop) (E:Value->Shared->Prop),Q (.int (g i j) s.toks) {s with toks:=s.toks+1}->wpAny (model X.prog X.w) X.A (f (.int i t) (.int j u)) Q E s):
  OpR X f (rI0 fun i j=>.int (g i j)):=by
 intro pins s σ H x y v u Q I rx ry h
 obtain⟨i,j,rfl,rfl,q⟩:=h
 obtain⟨t,rfl⟩:=rx
 obtain⟨t',rfl⟩:=ry
 exact rule i j t t' s _ _ ⟨.int (g i j),H,I.tok _,⟨_,rfl⟩,q⟩
theorem Zj{f:Value->Value->Sem Value}{g:Int->Int->Bool}
  (rule:∀(i j:Int) (t u:Tok) (s:Shared) (Q:Value->Shared->Prop) (E:Value->Shared->Prop),Q (.bool (g i j)) s->wpAny (model X.prog X.w) X.A (f (.int i t) (.int j u)) Q E s):
  OpR X f (rI0 fun i j=>.bl (g i j)):=by
 intro pins s σ H x y v u Q I rx ry h
 obtain⟨i,j,rfl,rfl,q⟩:=h
 obtain⟨t,rfl⟩:=rx
 obtain⟨t',rfl⟩:=ry
 exact rule i j t t' s _ _ ⟨.bl (g i j),H,I,rfl,q⟩
def fV(i j:Int):Prop:=0≤j/\j≤1000000/\i.natAbs<2^64
def aw(i j:Int):Prop:=(-(2^64)<i/\i<2^64)∨(-(2^64)<j/\j<2^64)
theorem aw.ok{i j:Int}(h:aw i j):IntMulOk i j:=by
 rcases h with⟨h1,h2⟩|⟨h1,h2⟩
 ·exact .of_left (intBits_le_64 h1 h2)
 ·exact .of_right (intBits_le_64 h1 h2)
theorem Xa:OpR X (binaryOp .Add) (rI0 fun i j=>.int (i+j)):=dS fun _ _ _ _ _ _ _ q=>add_int q
theorem Xn:OpR X (binaryOp .Sub) (rI0 fun i j=>.int (i-j)):=dS fun _ _ _ _ _ _ _ q=>sub_int q
theorem VE:OpR X (binaryOp .Mult) (rI aw fun i j=>.int (i*j)):=opI fun _ _ _ _ _ _ _ hc q=>mul_int q hc.ok
theorem X3:OpR X (binaryOp .Mod) (rI (fun _ j=>0<j) fun i j=>.int (i % j)):=opI fun i j _ _ _ _ _ hc q=>by
 have h1:(0:Int)<j:=hc
 exact mod_int' (by omega) (by rw[Int.fmod_eq_emod_of_nonneg i (by omega)];exact q)
theorem YQ:OpR X (binaryOp .Pow) (rI fV fun i j=>.int (i^j.toNat)):=opI fun _ _ _ _ _ _ _ hc q=>pow_int_small hc.1 hc.2.1 hc.2.2 q
theorem unI{f:Value->Sem Value}{g:Int->Int}
  (rule:∀(i:Int) (t:Tok) (s:Shared) (Q:Value->Shared->Prop) (E:Value->Shared->Prop),Q (.int (g i) s.toks) {s with toks:=s.toks+1}->wpAny (model X.prog X.w) X.A (f (.int i t)) Q E s):
  UnR X f (rU fun i=>.int (g i)):=by
 intro pins s σ H x v Q I rx h
 obtain⟨i,rfl,q⟩:=h
 obtain⟨t,rfl⟩:=rx
 exact rule i t s _ _ ⟨.int (g i),H,I.tok _,⟨_,rfl⟩,q⟩
theorem U7:UnR X (unaryOp .USub) (rU fun i=>.int (-i)):=unI fun _ _ _ _ _ q=>neg_int q
end
section
variable{X:Cx}{a b c:Expr}{ta tb tc:TE}{pos:Pos}
theorem ZH{pins:List (Addr×Obj)}{σ:St}{H:Hp}{s:Shared}{Q:VK}{k k':Bool}(I:Inv X pins σ H s)(q:Q (.bl k) H)(e:k=k'):EP X pins σ Q (.bool k') s:=by
 subst e
 exact⟨.bl k,H,I,rfl,q⟩
theorem XZ:OpR X (compareOp .Lt) (rI0 fun i j=>.bl (decide (i<j))):=Zj fun _ _ _ _ _ _ _ q=>lt_int q
theorem ZO:OpR X (compareOp .LtE) (rI0 fun i j=>.bl (decide (i≤j))):=Zj fun _ _ _ _ _ _ _ q=>le_int q
theorem c7:OpR X (compareOp .Gt) (rI0 fun i j=>.bl (decide (j<i))):=Zj fun _ _ _ _ _ _ _ q=>gt_int q
theorem cg:OpR X (compareOp .GtE) (rI0 fun i j=>.bl (decide (j≤i))):=Zj fun _ _ _ _ _ _ _ q=>ge_int q
theorem WA:OpR X (compareOp .IsNot) (fun x y H Q=>y=.non/\Q (.bl (!decide (x=.non))) H):=by
 intro pins s σ H x y v u Q I rx ry h
 obtain⟨rfl,q⟩:=h
 cases ry
 refine isnot_none_gen (ZH I q ?_)
 cases x<;>first
  |(cases rx;rfl)
  |(obtain⟨t,rfl⟩:=rx;rfl)
theorem Wx{op:CmpOp}{r:R2}(ho:OpR X (compareOp op) r)(ha:PE X a ta)(hb:PE X b tb)(hm:behindInMarks op b=false):PE X (.Compare a [op] [b] pos) (tOp r ta tb):=by
 intro pins s σ H Q I h
 exact wpAny_Compare1 (cn ha hb I h fun v u s2 x y H2 I2 rx ry q=>ho pins s2 σ H2 x y v u Q I2 rx ry q) hm
noncomputable def Vi(t:TE):TT:=fun σ H Q=>t σ H fun x H'=>∃k,x=.bl k/\Q k H'
theorem Vr{op:CmpOp}{r:R2}(ho:OpR X (compareOp op) r)(ha:PE X a ta)(hb:PE X b tb)(hm:behindInMarks op b=false):PT X (.Compare a [op] [b] pos) (Vi (tOp r ta tb)):=by
 intro pins s σ H Q I h
 refine wpAny_isTrue_Compare1 (thn (ha pins s σ H _ I h) fun v s1 ⟨x,H1,I1,r1,q1⟩=>thn (hb pins s1 σ H1 _ I1 q1) fun u s2 ⟨y,H2,I2,r2,q2⟩=>
  thn (ho pins s2 σ H2 x y v u _ I2 r1 r2 q2) fun c s3 ⟨z,H3,I3,r3,k,e,q3⟩=>?_) hm
 subst e
 cases r3
 exact wpAny_truthy_bool ⟨H3,I3,q3⟩
noncomputable def VF(r r':R2)(ta tb tc:TE):TE:=fun σ H Q=>ta σ H fun x H1=>tb σ H1 fun y H2=>r x y H2 fun z H3=>∃k,z=.bl k/\
 (if k=true then tc σ H3 fun w' H4=>r' y w' H4 Q else Q (.bl false) H3)
theorem Sw{op op':CmpOp}{r r':R2}(ho:OpR X (compareOp op) r)(ho':OpR X (compareOp op') r')(ha:PE X a ta)(hb:PE X b tb)(hc:PE X c tc)
    (hm:lastMarks [op,op'] [b,c]=false:=by with_unfolding_all rfl):PT X (.Compare a [op,op'] [b,c] pos) (Vi (VF r r' ta tb tc)):=by
  intro pins s σ H Q I h
  refine isTrue_chain (thn (ha pins s σ H _ I h) fun v s1 ⟨x,H1,I1,r1,q1⟩=>test_link (thn (hb pins s1 σ H1 _ I1 q1) fun u s2 ⟨y,H2,I2,r2,q2⟩=>
    thn (ho pins s2 σ H2 x y v u _ I2 r1 r2 q2) fun d s3 ⟨z,H3,I3,r3,k,e,q3⟩=>?_)) hm
  subst e
  cases r3
  refine wpAny_truthy_bool ?_
  cases k with
  | false =>
    obtain⟨k',e',q'⟩:=q3
    cases e'
    exact ite_ff ⟨H3,I3,q'⟩
  | true =>
    refine ite_tt (test_last (thn (hc pins s3 σ H3 _ I3 q3) fun w' s4 ⟨z',H4,I4,r4,q4⟩=>thn (ho' pins s4 σ H4 y z' u w' _ I4 r2 r4 q4) fun d' s5 ⟨z2,H5,I5,r5,k2,e2,q5⟩=>?_))
    subst e2
    cases r5
    exact wpAny_truthy_bool ⟨H5,I5,q5⟩
theorem My:(sizeLine:Nat)<2^63:=by rw[sizeLine_eq];decide
theorem PN:OpR X (binaryOp .Add) (fun x y H Q=>∃i j,x=.str i/\y=.str j/\i.length+j.length≤sizeLine/\Q (.str (i++j)) H):=by
 intro pins s σ H x y v u Q I rx ry h
 obtain⟨i,j,rfl,rfl,hz,q⟩:=h
 obtain⟨t,rfl⟩:=rx
 obtain⟨t',rfl⟩:=ry
 exact add_str (fun t' tk=>⟨.str (i++j),H,I.tok _,⟨_,rfl⟩,q⟩) hz
theorem vals1{x:V}{us:List Value}(r:Vals [x] us):∃u,us=[u]/\RelV x u:=by
 cases r with
 |cons r1 r2=>cases r2;exact⟨_,rfl,r1⟩
theorem vals2{x y:V}{us:List Value}(r:Vals [x,y] us):∃u w',us=[u,w']/\RelV x u/\RelV y w':=by
  cases r with
  | cons r1 r2 =>
    cases r2 with
    |cons r3 r4=>cases r4;exact⟨_,_,rfl,r1,r3⟩
theorem Sl:Cy X (.builtin "abs") (fun xs H Q=>∃i,xs=[.int i]/\Q (.int (if i<0 then-i else i)) H):=by
 intro pins s σ H xs us Q I r h
 obtain⟨i,rfl,q⟩:=h
 obtain⟨u,rfl,t,rfl⟩:=vals1 r
 exact call_abs_int fun u tk=>⟨.int (if i<0 then-i else i),H,I.tok _,⟨_,rfl⟩,q⟩
theorem RN(hc:X.calm=true):Cy X (.builtin "max") (fun xs H Q=>∃i j,xs=[.int i,.int j]/\Q (.int (if j>i then j else i)) H):=by
 intro pins s σ H xs us Q I r h
 obtain⟨i,j,rfl,q⟩:=h
 obtain⟨u,w',rfl,⟨t,rfl⟩,⟨t',rfl⟩⟩:=vals2 r
 refine max_two_ints (I.ok.hd hc) fun h' tk k=>⟨_,H,I.kept k,?_,q⟩
 by_cases hj:j>i
 ·rw[if_pos hj,if_pos hj];exact⟨_,rfl⟩
 ·rw[if_neg hj,if_neg hj];exact⟨_,rfl⟩
theorem RB(hc:X.calm=true):Cy X (.builtin "min") (fun xs H Q=>∃i j,xs=[.int i,.int j]/\Q (.int (if j<i then j else i)) H):=by
 intro pins s σ H xs us Q I r h
 obtain⟨i,j,rfl,q⟩:=h
 obtain⟨u,w',rfl,⟨t,rfl⟩,⟨t',rfl⟩⟩:=vals2 r
 refine min_two_ints (I.ok.hd hc) fun h' tk k=>⟨_,H,I.kept k,?_,q⟩
 by_cases hj:j<i
 ·rw[if_pos hj,if_pos hj];exact⟨_,rfl⟩
 ·rw[if_neg hj,if_neg hj];exact⟨_,rfl⟩
theorem MS:Cy X (.type "int") (fun xs H Q=>(∃i,xs=[.int i]/\Q (.int i) H)∨∃k,xs=[.bl k]/\Q (.int (if k then 1 else 0)) H):=by
 intro pins s σ H xs us Q I r h
 rcases h with⟨i,rfl,q⟩|⟨k,rfl,q⟩
 ·obtain⟨u,rfl,t,rfl⟩:=vals1 r
  exact call_int_int ⟨.int i,H,I,⟨_,rfl⟩,q⟩
 ·obtain⟨u,rfl,r1⟩:=vals1 r
  cases r1
  exact call_int_bool ⟨.int (if k then 1 else 0),H,I.tok _,⟨_,rfl⟩,q⟩
theorem Mq:Cy X (.type "str") (fun xs H Q=>∃i,xs=[.int i]/\i.natAbs.log2<1920/\Q (.str (toString i)) H):=by
 intro pins s σ H xs us Q I r h
 obtain⟨i,rfl,hz,q⟩:=h
 obtain⟨u,rfl,t,rfl⟩:=vals1 r
 exact PySem.P.str_of_int hz ⟨.str _,H,I.tok _,⟨_,rfl⟩,q⟩
end
end L2
namespace L2
open PySem PySem.Spec PyProof.Rows
structure cR(h:Heap)(x dx C:Addr)(mA:Str->Option Value):Prop where
 obj:h.get? x=some (PySem.W.instObj C dx)
 ns:h.Ns1 dx mA
 ne:dx≠x
theorem QR{h:Heap}{dx:Addr}{mA:Str->Option Value}(n:h.Ns1 dx mA):∃od,h.get? dx=some od/\∀name,PySem.W.lookIn name od=some (mA name):=by
 obtain⟨o,es,ep,ho,hd,hk,_,hm⟩:=n
 refine⟨o,ho,fun name=>?_⟩
 have e:=hm name
 unfold nsFind findBy at e
 rw[←Array.find?_toList]at e
 unfold PySem.W.lookIn
 rw[hd]
 dsimp only
 split
 ·rename_i y q
  rw[q]at e
  exact congrArg some e
 ·rename_i q
  rw[q]at e
  have a:es.toList.any (·.refKey)=false:=by
   rw[List.any_eq_false]
   intro y hy
   obtain⟨z,t,hkey⟩:=hk y (Array.mem_toList_iff.mp hy)
   simp[DictEntry.refKey,hkey]
  have a':¬es.toList.any (·.refKey)=true:=by rw[a];exact Bool.false_ne_true
  rw[if_neg a']
  exact congrArg some e
theorem cR.look{h:Heap}{x dx C:Addr}{mA:Str->Option Value}(I:cR h x dx C mA):∃od,PySem.W.InstAt h x (PySem.W.instObj C dx) C (some od)/\∀name,PySem.W.lookIn name od=some (mA name):=
 let⟨od,ho,hl⟩:=QR I.ns
 ⟨od,⟨I.obj,rfl,rfl,ho⟩,hl⟩
section
variable{prog:Program}{w:World}{A:Around}{E:Value->Shared->Prop}{s:Shared}{K:PySem.W.Frag}{x dx C f:Addr}{mA:Str->Option Value}{name:Str}{v:Value}
end
section
variable{P:Program}{w:World}{H H':Hp}{h h':Heap}{a C dx:Addr}{fs fs':List (Str×V)}
theorem XI(hok:HOk P w H h)(e:H a=some (.ins C dx fs)):∃mA,cR h a dx C mA/\(∀f,Zv (fs.lookup f) (mA f))/\PySem.Within mA (fs.map (·.1))/\fs.length≤1000/\H dx=some (.own a):=by
 obtain⟨d,z,ne,ob,mA,n,r,q⟩:=(show DN P w H h a (.ins C dx fs)from hok a _ e)
 exact⟨mA,⟨ob,n,ne⟩,r,q,z,d⟩
end
structure Cls(K:PySem.W.Frag)(C:Addr):Prop where
 pg:PySem.W.plainGet K C Str.empty=true
 hd:PySem.W.hasDictIn K C=true
 po:PySem.W.plainOver K C=true
 sa:PySem.W.findIn K (.ref C) "__setattr__"=some (some (.builtin "object.__setattr__"))
theorem Cls.get{K:PySem.W.Frag}{C:Addr}(c:Cls K C)(f:Str):PySem.W.plainGet K C f=true:=c.pg
structure Con(K:PySem.W.Frag)(C:Addr)(f:Str)(v:V)(u:Value):Prop where
 at_:PySem.W.findIn K (.ref C) f=some (some u)
 rel:RelV v u
 get:PySem.W.specialIn K u "__get__"=some none
 cp:PySem.W.copiedNames.contains f=false
structure Meth(K:PySem.W.Frag)(C:Addr)(m:Str)(f:Addr):Prop where
 at_:PySem.W.findIn K (.ref C) m=some (some (.ref f))
 fn:PySem.W.isFn K (.ref f)=true
 kp:PySem.W.keepIn K (.ref f)=true
section
variable{X:Cx}{pins:List (Addr×Obj)}{σ:St}{H:Hp}{s:Shared}{a C dx:Addr}{fs:List (Str×V)}{f:Str}{v:V}{A:Around}{E:Value->Shared->Prop}
end
section
variable{X:Cx}{o e value:Expr}{f:Str}{pos pos' tpos:Pos}{ta tv:TE}
end
section
variable{X:Cx}{pins:List (Addr×Obj)}{σ:St}{H:Hp}{s:Shared}{A:Around}{E:Value->Shared->Prop}{Q:Value->Shared->Prop}{c:Value}{b:Bool}
inductive Ph(K:PySem.W.Frag)(H:Hp):V->Value->Prop where
 |non:Ph K H .non (.type "NoneType")
 |bl (x:Bool):Ph K H (.bl x) (.type "bool")
 |int (i:Int):Ph K H (.int i) (.type "int")
 |str (x:Str):Ph K H (.str x) (.type "str")
 |flt (x:UInt64):Ph K H (.flt x) (.type "float")
 |lst {a:Addr} {xs:List V} (e:H a=some (.lst xs)):Ph K H (.ref a) (.type "list")
 |frz {a:Addr} {o:Obj} {xs:List V} (e:H a=some (.frz o (.lst xs))):Ph K H (.ref a) (.type "list")
 |tup {a:Addr} {xs:List V} (e:H a=some (.tup xs)):Ph K H (.ref a) (.type "tuple")
 |dK {a:Addr} {kvs:List (Key×V)} (e:H a=some (.dK kvs)):Ph K H (.ref a) (.type "dict")
 |dT {a:Addr} {kvs:List (List Key×V)} (e:H a=some (.dT kvs)):Ph K H (.ref a) (.type "dict")
 | ins {a C dx : Addr} {fs : List (Str × V)} (e : H a = some (.ins C dx fs)) (cl : Cls K C) (ha : PySem.W.findIn K (.ref C) "__class__" = some (some (.builtin "object.__class__")))
   (hn:PySem.W.specialIn K (.builtin "object.__class__") "__get__"=some (some (.builtin "getset_descriptor.__get__"))) (htk:PySem.W.takesIn K (.builtin "object.__class__")=some true)
   (hm:PySem.W.mroIn K C (.type "object")=some true):Ph K H (.ref a) (.ref C)
theorem EL{x:V}{u t:Value}(I:Inv X pins σ H s)(rx:RelV x u)(ty:Ph X.K H x t)(e:PySem.W.kitOne X.K t c=some b)(h:∀tk,Q (.bool b) {s with toks:=tk}):
    wpAny (model X.prog X.w) A (call (.builtin "isinstance") [u,c]) Q E s:=by
  cases ty with
  |non=>cases (show u=Value.none from rx);exact PySem.W.kia_one PySem.W.kitx_none I.kIn True.intro e (fun z=>nomatch z) h
  |bl y=>cases (show u=Value.bool y from rx);exact PySem.W.kia_one PySem.W.kitx_bool I.kIn True.intro e (fun z=>nomatch z) h
  |int i=>obtain⟨t,q⟩:=(show∃t,u=Value.int i t from rx);cases q;exact PySem.W.kia_one PySem.W.kitx_int I.kIn True.intro e (fun z=>nomatch z) h
  |str y=>obtain⟨t,q⟩:=(show∃t,u=Value.str y t from rx);cases q;exact PySem.W.kia_one PySem.W.kitx_str I.kIn True.intro e (fun z=>nomatch z) h
  |flt y=>obtain⟨t,q⟩:=(show∃t,u=Value.float y t from rx);cases q;exact PySem.W.kia_one PySem.W.kitx_float I.kIn True.intro e (fun z=>nomatch z) h
  | @lst a xs ea=>
    cases (show u=Value.ref a from rx)
    obtain⟨_,_,n,_,h1⟩:=(show DN X.prog X.w H s.heap a (.lst xs)from I.hok a _ ea)
    exact PySem.W.kia_one PySem.W.kitx_list I.kIn ⟨_,h1,rfl⟩ e (fun z=>nomatch z) h
  | @frz a ob xs ea=>
    cases (show u=Value.ref a from rx)
    obtain⟨_,_,_,n,_,h1⟩:=(show DN X.prog X.w H s.heap a (.frz ob (.lst xs))from I.hok a _ ea)
    exact PySem.W.kia_one PySem.W.kitx_list I.kIn ⟨_,h1,rfl⟩ e (fun z=>nomatch z) h
  | @tup a xs ea=>
    cases (show u=Value.ref a from rx)
    obtain⟨_,_,_,p⟩:=(show DN X.prog X.w H s.heap a (.tup xs)from I.hok a _ ea)
    obtain⟨o,h1,h2,_⟩:=p
    exact PySem.W.kia_one PySem.W.kitx_tuple I.kIn ⟨o,h1,h2⟩ e (fun z=>nomatch z) h
  | @dK a kvs ea=>
    cases (show u=Value.ref a from rx)
    obtain⟨_,_,vs,_,p⟩:=(show DN X.prog X.w H s.heap a (.dK kvs)from I.hok a _ ea)
    obtain⟨o,es,ep,h1,h2,_⟩:=p
    exact PySem.W.kia_one PySem.W.kitx_dict I.kIn ⟨o,h1,h2.1⟩ e (fun z=>nomatch z) h
  | @dT a kvs ea=>
    cases (show u=Value.ref a from rx)
    obtain⟨_,_,xs,_,o,es,ep,h1,h2,_⟩:=(show DN X.prog X.w H s.heap a (.dT kvs)from I.hok a _ ea)
    exact PySem.W.kia_one PySem.W.kitx_dict I.kIn ⟨o,h1,h2.1⟩ e (fun z=>nomatch z) h
  | @ins a C dx fs ea cl ha hn htk hm=>
    cases (show u=Value.ref a from rx)
    obtain⟨mA,O,_⟩:=XI I.hok ea
    obtain⟨od,J,_⟩:=O.look
    exact PySem.W.kia_one (PySem.W.kitx_own (cl.get _) cl.hd ha hn htk hm) I.kIn J e (fun z=>nomatch z) h
end
end L2
namespace L2
open PySem PySem.Spec PyProof.Rows
structure LH(k:Nat)(A:Around):Prop where
 hd:A.handled=none
 dp:A.depth+3*k+5<recursionLimit
 un:A.units+16*k+200<cLine
theorem LH.mono{j k:Nat}{A:Around}(r:LH k A)(h:j≤k):LH j A:=⟨r.hd,by have:=r.dp;omega,by have:=r.un;omega⟩
theorem LH.deeper{k:Nat}{A:Around}(r:LH (k+1) A)(env:Env):LH k (A.deeper env):=
 ⟨r.hd,by have:=r.dp;show A.depth+1+3*k+5<_;omega,by have:=r.un;show A.units+3+16*k+200<_;omega⟩
theorem LH.depth{k:Nat}{A:Around}(r:LH k A):A.depth<recursionLimit:=by have:=r.dp;omega
noncomputable def d9:TA:=fun _ H Q=>Q [] H
noncomputable def Xm(ta:TE)(tr:TA):TA:=fun σ H Q=>ta σ H fun x H1=>tr σ H1 fun xs H2=>Q (x::xs) H2
section
variable{X:Cx}{e:Expr}{es:List Expr}{te:TE}{t:TA}{pos:Pos}
theorem Qm:PA X [] d9:=fun _ _ _ _ H Q I h=>Calls.spliced_nil ⟨[],H,I,.nil,h⟩
theorem LO(ha:PE X e te)(hr:PA X es t)(hs:starEach (e::es) X.env=(false,eval e X.env)::starEach es X.env:=by rfl):PA X (e::es) (Xm te t):=by
 intro pos pins s σ H Q I h
 rw[hs]
 show wpAny _ _ (spliced ((false,eval e X.env)::backTo pos (starEach es X.env))) _ _ s
 refine Calls.spliced_cons (thn (ha pins s σ H _ I h) fun u s1 ⟨x,H1,I1,r1,q1⟩=>?_)
 exact thn (hr pos pins s1 σ H1 _ I1 q1) fun us s2 ⟨xs,H2,I2,r2,q2⟩=>⟨x::xs,H2,I2,.cons r1 r2,q2⟩
noncomputable def fF(t:TA):TE:=fun σ H Q=>t σ H fun xs H1=>xs.length≤sizeLine/\∀p,H1 p=none->Q (.ref p) (upd H1 p (.tup xs))
noncomputable def fE(t:TA):TE:=fun σ H Q=>t σ H fun xs H1=>xs.length≤sizeLine/\∀p,H1 p=none->Q (.ref p) (upd H1 p (.lst xs))
theorem Xw{x1}(h:PA X es t):PE X (.Tuple es x1 pos) (fF t):=by
 intro pins s σ H Q I hq
 refine wpAny_Tuple_spliced (thn (h pos pins s σ H _ I hq) fun us s1 ⟨xs,H1,I1,r,z,q⟩=>⟨by rw[←r.length];exact z,?_⟩)
 have hf:H1 s1.heap.objs.size=none:=I1.hok.fresh (Nat.le_refl _)
 refine⟨.ref s1.heap.objs.size,upd H1 s1.heap.objs.size (.tup xs),I1.laid (t':=s1.toks) (fun b u e=>Heap.get?_push_of_some _ e) (Nat.le_refl _) ?_,rfl,q _ hf⟩
 exact⟨z,us,r,⟨_,Heap.get?_push_size _ rfl,rfl,_,rfl⟩⟩
theorem ZG(h:PA X es t):PE X (.List es pos) (fE t):=by
 intro pins s σ H Q I hq
 refine wpAny_List_spliced (thn (h pos pins s σ H _ I hq) fun us s1 ⟨xs,H1,I1,r,z,q⟩=>⟨by rw[←r.length];exact z,?_⟩)
 have hf:H1 s1.heap.objs.size=none:=I1.hok.fresh (Nat.le_refl _)
 refine⟨.ref s1.heap.objs.size,upd H1 s1.heap.objs.size (.lst xs),I1.laid (t':=s1.toks) (fun b u e=>Heap.get?_push_of_some _ e) (Nat.le_refl _) ?_,rfl,q _ hf⟩
 exact⟨z,us,0,r,Heap.get?_push_size _ rfl⟩
end
abbrev Sp:=List V->Hp->VK->XK->Prop
abbrev CXT:=List Env->Hp->Shared->XK->Value->Shared->Prop
structure Zp(P:Program)(w:World)(K:PySem.W.Frag)(mg:Str->Option Value)(base:Heap)(A:Around)(outer:List Env)(s:Shared)(H:Hp):Prop where
 frames:A.frames=some outer
 mod:Mod K mg base
 bs:∀b o,base.get? b=some o->s.heap.get? b=some o/\H b=none
 bsz:base.objs.size≤s.heap.objs.size
 funs:s.heap.FunFrames base outer
 frf:∀b∈frs outer,H b=none
 hok:HOk P w H s.heap
 bare:AllBare s.gens
def CE(outer:List Env)(P:Program)(w:World)(H:Hp)(s:Shared)(Q:VK)(u:Value)(s':Shared):Prop:=
 ∃v H',s'.os=s.os/\AllBare s'.gens/\Un (frs outer) [] H H' s.heap s'.heap/\HOk P w H' s'.heap/\RelV v u/\Q v H'
def CR(CX:CXT)(outer:List Env)(P:Program)(w:World)(H:Hp)(s:Shared)(Q:VK)(E:XK)(r:Result)(s':Shared):Prop:=
 match r with
 | .ok (.ret u)=>CE outer P w H s Q u s'
 | .ok _=>False
 | .error e=>CX outer H s E e s'
structure MM(P:Program)(w:World)(K:PySem.W.Frag)(mg:Str->Option Value)(base:Heap)(CX:CXT)(k:Nat)(f:Addr)(fd:FuncData)(ps:List Str)(sp:Sp):Prop where
 len:∀vs H Q E,sp vs H Q E->vs.length=ps.length
 run:∀(A:Around) (outer:List Env) (s:Shared) (H:Hp) (args:Args) (us:List Value) (vs:List V) (Q:VK) (E:XK),LH k A->Zp P w K mg base A outer s H->BindsTo s fd args (ps.zip us)->Vals vs us->sp vs H Q E->
  codeAny (model P w) A (.call (.ref f) args) (CR CX outer P w H s Q E) s
theorem MM.imp{P:Program}{w:World}{K:PySem.W.Frag}{mg:Str->Option Value}{base:Heap}{CX:CXT}{k:Nat}{f:Addr}{fd:FuncData}{ps:List Str}{sp sp':Sp}(F:MM P w K mg base CX k f fd ps sp)
  (h:∀vs H Q E,sp' vs H Q E->sp vs H Q E):MM P w K mg base CX k f fd ps sp':=
 ⟨fun vs H Q E q=>F.len vs H Q E (h _ _ _ _ q),fun A outer s H args us vs Q E hr he hb hv hs=>F.run A outer s H args us vs Q E hr he hb hv (h _ _ _ _ hs)⟩
section
variable{X:Cx}{pins:List (Addr×Obj)}{σ:St}{H:Hp}{s s':Shared}
theorem Inv.env0(I:Inv X pins σ H s):Zp X.prog X.w X.K X.mg X.base X.A X.stack s H:=
 ⟨I.ok.frames,I.ok.mod,I.bs,Nat.le_trans I.ok.bsz I.sz,I.stack,I.stkFree,I.hok,I.bare⟩
theorem Inv.after{Q:VK}{u:Value}(I:Inv X pins σ H s)(h:CE X.stack X.prog X.w H s Q u s'):EP X pins σ Q u s':=by
 obtain⟨v,H',os,bare,un,hok,r,q⟩:=h
 obtain⟨hh,g,d,t,os'⟩:=s'
 obtain rfl:os'=s.os:=os
 exact⟨v,H',I.call (h':=hh) (g':=g) (d':=d) (t':=t) (ch:=[]) un hok bare (fun b z=>absurd z (by simp)),r,q⟩
end
noncomputable def WH(sp:Sp)(dvs:List V)(E:XK)(t:TA):TE:=fun σ H Q=>t σ H fun vs H1=>sp (vs++dvs) H1 Q E
def Binds(K:PySem.W.Frag)(fd:FuncData)(ps:List Str)(ds:List Value):Prop:=
 ∀(s:Shared) (us:List Value),K.In s.heap->(us++ds).length=ps.length->BindsTo s fd ⟨us,[]⟩ (ps.zip (us++ds))
theorem Binds.all{K:PySem.W.Frag}{fd:FuncData}{ps:List Str}(h:∀us:List Value,us.length=ps.length->bindArgs fd ⟨us,[]⟩=pure (ps.zip us)):Binds K fd ps []:=fun s us _ hl=>by
 rw[List.append_nil]at hl⊢
 exact .of_eq (h us hl)
def Passes(CX:CXT)(X:Cx)(E:XK):Prop:=∀(pins:List (Addr×Obj)) (σ:St) (H:Hp) (s:Shared) (e:Value) (s':Shared),Inv X pins σ H s->CX X.stack H s E e s'->X.xe e s'
section
variable{X:Cx}{CX:CXT}{k:Nat}{f C:Addr}{fd:FuncData}{ps:List Str}{sp:Sp}{dvs:List V}{ds:List Value}{E:XK}{x m:Str}{p pos apos:Pos}{e o:Expr}{es:List Expr}{ta:TE}{t:TA}
theorem Yd{pins:List (Addr×Obj)}{σ:St}{H:Hp}{s:Shared}{Q:VK}{us:List Value}{vs:List V}(F:MM X.prog X.w X.K X.mg X.base CX k f fd ps sp)(hr:LH k X.A)(hb:Binds X.K fd ps ds)(hd:Vals dvs ds)(hx:Passes CX X E)
    (I:Inv X pins σ H s) (r:Vals vs us) (h:sp (vs++dvs) H Q E):wpAny (model X.prog X.w) X.A (call (.ref f) us) (EP X pins σ Q) X.xe s:=by
  have r2:Vals (vs++dvs) (us++ds):=r.append hd
  have hl:(us++ds).length=ps.length:=by rw[←r2.length];exact F.len _ _ _ _ h
  refine wpAny_call (codeAny_mono (F.run X.A X.stack s H ⟨us,[]⟩ (us++ds) (vs++dvs) Q E hr I.env0 (hb s us I.kIn hl) r2 h) fun r s' hq=>?_)
  cases r with
  |error e=>exact hx pins σ H s e s' I hq
  | ok fl =>
    cases fl with
    |ret u=>exact I.after hq
    |next=>exact False.elim hq
    |brk=>exact False.elim hq
    |cont=>exact False.elim hq
theorem Wh(F:MM X.prog X.w X.K X.mg X.base CX k f fd ps sp)(hr:LH k X.A)(hg:Gl X x)(hm:X.mg x=some (.ref f))(hk:PySem.W.keepIn X.K (.ref f)=true)(hb:Binds X.K fd ps ds)(hd:Vals dvs ds)(hx:Passes CX X E)
  (ha:PA X (e::es) t) (hdb:(x==("__debug__":Str))=false:=by decide) (he:starEach (e::es) X.env=(false,eval e X.env)::starEach es X.env:=by rfl) (hpl:(backTo pos (starEach es X.env)).any (·.1)=false:=by rfl):
  PE X (.Call (.Name x p) (e::es) [] pos) (WH sp dvs E t):=by
 intro pins s σ H Q I h
 refine wpAny_Call_Name_kw (Qs I hg hm ?_ hdb)
 refine PySem.W.callWith_K (h₀:=X.base) I.ok.mod.kin hk (thn (ha pos pins s σ H _ I h) fun us s1 ⟨vs,H1,I1,r,q⟩=>⟨I1.kIn,?_⟩) he hpl
 exact Yd F hr hb hd hx I1 r q
structure Mk(K:PySem.W.Frag)(C f:Addr):Prop where
 makes:PySem.W.makesIn K C=true
 init:PySem.W.findIn K (.ref C) "__init__"=some (some (.ref f))
 fn:PySem.W.isFn K (.ref f)=true
 kp:PySem.W.keepIn K (.ref C)=true
end
section
variable{X:Cx}{CX:CXT}{k:Nat}{f C:Addr}{fd:FuncData}{ps ks:List Str}{sp:Sp}{E:XK}{x m:Str}{p pos apos kpos:Pos}{e o:Expr}{es:List Expr}{kws:List Keyword}{te ta:TE}{t tk:TA}{nm:Option Str}
structure dX(K:PySem.W.Frag)(fd:FuncData)(ps ks:List Str)(g:List Value->List Value->List Value)(gV:List V->List V->List V):Prop where
 to:∀(s:Shared) (us ws:List Value),K.In s.heap->(g us ws).length=ps.length->BindsTo s fd ⟨us,ks.zip ws⟩ (ps.zip (g us ws))
 rel:∀{vs:List V} {us:List Value} {zs:List V} {ws:List Value},Vals vs us->Vals zs ws->Vals (gV vs zs) (g us ws)
variable{g:List Value->List Value->List Value}{gV:List V->List V->List V}
end
structure AW(N P:List Str)(sc:Scope):Prop where
 kind:sc.kind=.function
 co:sc.isCoroutine=false
 gen:sc.isGenerator=false
 nd:N.Nodup
 pre:N.take P.length=P
 par:∀x∈P,sc.names.lookup x=some .local∨sc.names.lookup x=some .cell
 nofree:∀y∈sc.names,y.2≠.free
theorem Md{kindOf:Str->Option NameKind}{x:Str}:∀{binds:List (Str×Value)} {m:Str->Option Value},(∀v,(x,v)∉binds)->bindL kindOf binds m x=m x
  | [],_,_=>rfl
  | (n, v) :: r, m, h => by
    unfold bindL
    rw[Md fun w hw=>h w (List.mem_cons_of_mem _ hw)]
    split
    · have : x ≠ n := by rintro rfl; exact h v List.mem_cons_self
      simp[this]
    ·rfl
theorem MZ{kindOf:Str->Option NameKind}{x:Str}:∀{binds:List (Str×Value)} {m:Str->Option Value},(∀v,(x,v)∉binds)->bindC kindOf binds m x=m x
  | [],_,_=>rfl
  | (n, v) :: r, m, h => by
    unfold bindC
    rw[MZ fun w hw=>h w (List.mem_cons_of_mem _ hw)]
    split
    ·rfl
    · have : x ≠ n := by rintro rfl; exact h v List.mem_cons_self
      simp[this]
theorem MN{kindOf:Str->Option NameKind}{x:Str}{v:Value}:∀{P:List Str} {vs:List Value} {i:Nat} {m:Str->Option Value},P.Nodup->P[i]?=some x->vs[i]?=some v->kindOf x=some .local->
    bindL kindOf (P.zip vs) m x=some v
  | [],_,_,_,_,h,_,_=>by simp at h
  |_::_,[],_,_,_,_,h,_=>by simp at h
  | p :: P, w :: vs, 0, m, nd, h1, h2, hk => by
    simp at h1 h2;subst h1;subst h2
    show bindL kindOf ((p,w)::P.zip vs) m p=_
    unfold bindL
    rw[Md fun v hv=>(List.nodup_cons.mp nd).1 (List.of_mem_zip hv).1,if_pos hk]
    simp
  | p :: P, w :: vs, i + 1, m, nd, h1, h2, hk => by
    show bindL kindOf ((p,w)::P.zip vs) m x=_
    unfold bindL
    exact MN (i:=i) (List.nodup_cons.mp nd).2 (by simpa using h1) (by simpa using h2) hk
theorem NW{kindOf:Str->Option NameKind}{x:Str}{v:Value}:∀{P:List Str} {vs:List Value} {i:Nat} {m:Str->Option Value},P.Nodup->P[i]?=some x->vs[i]?=some v->kindOf x≠some .local->
    bindC kindOf (P.zip vs) m x=some v
  | [],_,_,_,_,h,_,_=>by simp at h
  |_::_,[],_,_,_,_,h,_=>by simp at h
  | p :: P, w :: vs, 0, m, nd, h1, h2, hk => by
    simp at h1 h2;subst h1;subst h2
    show bindC kindOf ((p,w)::P.zip vs) m p=_
    unfold bindC
    rw[MZ fun v hv=>(List.nodup_cons.mp nd).1 (List.of_mem_zip hv).1,if_neg hk]
    simp
  | p :: P, w :: vs, i + 1, m, nd, h1, h2, hk => by
    show bindC kindOf ((p,w)::P.zip vs) m x=_
    unfold bindC
    exact NW (i:=i) (List.nodup_cons.mp nd).2 (by simpa using h1) (by simpa using h2) hk
noncomputable def start(N:List Str)(vs:List V):St:=vs.map some++List.replicate (N.length-vs.length) none
noncomputable def U2(CX:CXT)(P:Program)(w:World)(K:PySem.W.Frag)(mg:Str->Option Value)(base:Heap)(N:List Str)(qual:Str)(scope:Scope)(f:Addr)(cd:Value)(A:Around)(outer:List Env)(s:Shared)(H:Hp)(E:XK):Cx where
 prog:=P
 w:=w
 K:=K
 mg:=mg
 base:=base
 A:=A.deeper (envOfC qual scope s.heap.objs.size f cd)
 N:=N
 s₀:=s
 H₀:=H
 env:=envOfC qual scope s.heap.objs.size f cd
 outer:=outer
 stack:=envOfC qual scope s.heap.objs.size f cd::outer
 ex:=[]
 calm:=true
 fn:=fun _=>true
 pn:=[]
 xe:=fun e s'=>wpAny (model P w) (A.deeper (envOfC qual scope s.heap.objs.size f cd)) (leaving (envOfC qual scope s.heap.objs.size f cd) e) (fun _ s''=>CX outer H s E e s'') (fun e' s''=>CX outer H s E e' s'') s'
theorem JI{sc:Scope}{n:Nat}{x:Str}(h:sc.names.lookup x=some .cell):∃c,(cellsFrom n sc.names []).lookup x=some c:=by
 have q:=PySem.W.cellsFrom_some sc.names n [] (.inl h)
 exact Option.isSome_iff_exists.mp q
theorem QS{CX:CXT}{P:Program}{w:World}{K:PySem.W.Frag}{mg:Str->Option Value}{base:Heap}{N ps:List Str}{qual:Str}{scope:Scope}{f:Addr}{cd:Value}{A:Around}{outer:List Env}{s s1:Shared}{H:Hp}{E:XK}{us:List Value}{vs:List V}
  (S:AW N ps scope) (hd:A.handled=none) (e0:Zp P w K mg base A outer s H) (hl:vs.length=ps.length) (r:Vals vs us)
  (x:InCallC s s.heap.objs.size (bindL (envOfC qual scope s.heap.objs.size f cd).kindOf (ps.zip us) fun _=>none) (cellsFrom (s.heap.objs.size+1) scope.names []) (bindC (envOfC qual scope s.heap.objs.size f cd).kindOf (ps.zip us) fun _=>none) s1):
  Inv (U2 CX P w K mg base N qual scope f cd A outer s H E) [] (start N vs) H s1:=by
 have hpl:ps.length≤N.length:=by have:=congrArg List.length S.pre;rw[List.length_take]at this;omega
 obtain⟨h1,tk,rfl,hk⟩:=x.done
 have noA:∀b:Addr,b∉(U2 CX P w K mg base N qual scope f cd A outer s H E).ex:=fun b z=>absurd (show b∈([]:List Addr)from z) (by simp)
 refine⟨⟨e0.mod,S.kind,rfl,rfl,Nat.le_refl _,fun y z c h1 h2=>?_,fun y hy=>?_,fun y c _ h=>?_,fun _=>hd,Around.frames_deeper e0.frames,.inr ⟨rfl,rfl⟩,fun b z=>absurd z (noA b),e0.bs,e0.bsz,fun b _ _=>noA b,fun b z=>absurd z (noA b),e0.funs,e0.frf⟩,
  rfl,e0.bare,Un.kept hk,⟨_,x.toInCall.ns,fun i y v h1 h2 h3=>?_⟩,fun y c h=>⟨_,x.cell y c h⟩,e0.hok.fresh (Nat.le_refl _),fun y c h=>?_,fun p hp=>absurd (show p∈([]:List (Addr×Obj))from hp) (by simp),e0.hok.kept hk,?_⟩
 ·exact name_of_addr x.apart (PySem.mem_of_lookup h1) (PySem.mem_of_lookup h2)
 ·have hy:scope.names.lookup y=some .cell∨scope.names.lookup y=some .free:=hy
  rcases hy with hy|hy
  ·exact JI hy
  ·exact absurd rfl (S.nofree _ (PySem.mem_of_lookup hy))
 ·exact Nat.le_of_lt (x.above y c (PySem.mem_of_lookup h))
 ·have hi:i<vs.length:=by
   unfold start at h2
   by_cases hi:i<vs.length
   ·exact hi
   ·rw[List.getElem?_append_right (by simpa using hi)]at h2
    rw[List.getElem?_replicate]at h2
    split at h2<;>cases h2
  have ha:vs[i]?=some v:=by
   unfold start at h2
   rw[List.getElem?_append_left (by simpa using hi),List.getElem?_map]at h2
   cases e:vs[i]? with
   |none=>rw[e]at h2;cases h2
   |some a=>rw[e]at h2;cases h2;rfl
  obtain⟨u,hu,rv⟩:=r.get ha
  have hp:ps[i]?=some y:=by
   rw[←S.pre,List.getElem?_take_of_lt (by omega)];exact h1
  have ndP:ps.Nodup:=by rw[←S.pre];exact S.nd.sublist (List.take_sublist _ _)
  refine⟨u,rv,?_⟩
  rcases S.par y (List.mem_of_getElem? hp)with k|k
  ·exact .inl ⟨k,MN ndP hp hu k⟩
  ·obtain⟨c,e⟩:=JI (n:=s.heap.objs.size+1) k
   refine .inr ⟨.inl k,c,e,?_⟩
   have q:=x.cell y c e
   rw[NW ndP hp hu (by show scope.names.lookup y≠_;rw[k];decide)]at q
   exact q
 ·exact e0.hok.fresh (Nat.le_of_lt (x.above y c (PySem.mem_of_lookup h)))
 ·unfold start
  show _=N.length
  rw[List.length_append,List.length_map,List.length_replicate]
  omega
theorem ao{CX:CXT}{P:Program}{w:World}{K:PySem.W.Frag}{mg:Str->Option Value}{base:Heap}{k:Nat}{f:Addr}{name qual:Str}{params:Arguments}{body:List Stmt}{scope:Scope}{dV kV doc pm cdv ct oc:Value}{an od:Option Addr}
    {osl:Array (Option Value)} {N ps:List Str} {sp:Sp} (lk:K.lookup f=some ⟨oc,od,.func (PySem.W.fnOf name qual params body scope dV kV doc pm an cdv ct),osl⟩) (hcd:PySem.W.codeIn K cdv qual=true) (S:AW N ps scope)
    (len:∀vs H Q E,sp vs H Q E->vs.length=ps.length)
    (hbody:∀(A:Around) (outer:List Env) (s:Shared) (H:Hp) (vs:List V) (Q:VK) (E:XK),LH k (A.deeper (envOfC qual scope s.heap.objs.size f cdv))->sp vs H Q E->
      ∃t,PSs (U2 CX P w K mg base N qual scope f cdv A outer s H E) body t/\t {nx:=fun _ H'=>Q .non H',rt:=Q} (start N vs) H):
    MM P w K mg base CX (k+1) f (PySem.W.fnOf name qual params body scope dV kV doc pm an cdv ct) ps sp:=by
  refine⟨len,fun A outer s H args us vs Q E hr e0 hb r hsp=>?_⟩
  have hl:=len _ _ _ _ hsp
  have KX:K.In s.heap:=e0.mod.kin.keeps fun b o e=>(e0.bs b o e).1
  have lim:s.heap.NoLimit:=e0.mod.nolimit.keeps fun b o e=>(e0.bs b o e).1
  have hkind:∀y∈ps.zip us,scope.names.lookup y.1=some .local∨(scope.names.lookup y.1=some .cell/\((cellsFrom (s.heap.objs.size+1) scope.names []).lookup y.1).isSome=true):=fun⟨n,v⟩ hy=>by
    rcases S.par n (List.of_mem_zip hy).1 with q|q
    ·exact .inl q
    ·exact .inr ⟨q,PySem.W.cellsFrom_some _ _ _ (.inl q)⟩
  refine codeAny_call_function hr.depth (KX _ _ lk) rfl S.co S.gen rfl (PySem.W.codeRec_of KX hcd) (hb _ _ _ _ ?_)
  refine wpAny_newFunctionEnv_cells S.kind hkind fun env he s1 x=>?_
  subst he
  refine⟨lim.keeps x.toInCall.keep,codeAny_func ?_⟩
  obtain⟨t,ht,hq⟩:=hbody A outer s H vs Q E (hr.deeper _) hsp
  have I:Inv (U2 CX P w K mg base N qual scope f cdv A outer s H E) [] (start N vs) H s1:=QS S hr.hd e0 hl r x
  refine wpAny_mono (ht [] s1 (start N vs) H _ I hq) (fun fl s' hs=>?_) fun e s' hs=>hs
  have fin:∀{σ':St} {H':Hp} {v:V} {u:Value},Inv (U2 CX P w K mg base N qual scope f cdv A outer s H E) [] σ' H' s'->RelV v u->Q v H'->CE outer P w H s Q u s':=
    fun{σ' H' v u} J rv q=>⟨v,H',J.os,J.bare,J.base,J.hok,rv,q⟩
  cases fl with
  | ret u =>
    obtain⟨v,σ',H',J,rv,q⟩:=hs
    exact fin J rv q
  | next =>
    obtain⟨σ',H',J,q⟩:=hs
    exact fin (v:=V.non) (u:=Value.none) J rfl q
  | brk =>
    obtain⟨_,_,_,q⟩:=hs
    exact False.elim q
  | cont =>
    obtain⟨_,_,_,q⟩:=hs
    exact False.elim q
end L2
namespace L2
open PySem PySem.Spec PyProof.Rows
section
variable{X:Cx}{x:Str}{p pos:Pos}{e:Expr}{es:List Expr}{t:TA}{id T:String}{r:List V->Hp->VK->Prop}
noncomputable def tCB(r:List V->Hp->VK->Prop)(t:TA):TE:=fun σ H Q=>t σ H fun vs H1=>r vs H1 Q
theorem UE(hc:Cy X (.builtin id) r)(hg:Gl X x)(hm:X.mg x=none)(hv:bootBuiltins x=some (.builtin id))(ha:PA X (e::es) t)(hn:x≠ "__name__":=by decide)(hdb:(x==("__debug__":Str))=false:=by decide)
  (he:starEach (e::es) X.env=(false,eval e X.env)::starEach es X.env:=by rfl) (hpl:(backTo pos (starEach es X.env)).any (·.1)=false:=by rfl):PE X (.Call (.Name x p) (e::es) [] pos) (tCB r t):=by
 intro pins s σ H Q I h
 refine wpAny_Call_Name_kw (JP I hg hm hv ?_ hn hdb)
 exact PyProof.Rows.callWith_builtin1 (thn (ha pos pins s σ H _ I h) fun us s1 ⟨vs,H1,I1,r1,q1⟩=>hc pins s1 σ H1 vs us Q I1 r1 q1) he hpl
theorem RK(hc:Cy X (.type T) r)(hg:Gl X x)(hm:X.mg x=none)(hv:bootBuiltins x=some (.type T))(ha:PA X (e::es) t)(hn:x≠ "__name__":=by decide)(hdb:(x==("__debug__":Str))=false:=by decide)
  (he:starEach (e::es) X.env=(false,eval e X.env)::starEach es X.env:=by rfl) (hpl:(backTo pos (starEach es X.env)).any (·.1)=false:=by rfl):PE X (.Call (.Name x p) (e::es) [] pos) (tCB r t):=by
 intro pins s σ H Q I h
 refine wpAny_Call_Name_kw (JP I hg hm hv ?_ hn hdb)
 exact PyProof.Rows.callWith_type1 (thn (ha pos pins s σ H _ I h) fun us s1 ⟨vs,H1,I1,r1,q1⟩=>hc pins s1 σ H1 vs us Q I1 r1 q1) he hpl
end
end L2
namespace HT
open PySem PyProof.Rows
noncomputable def lexLt:List Int->List Int->Bool
 | [],[]=>false
 | [],_::_=>true
 |_::_,[]=>false
 |x::xs,y::ys=>if x=y then lexLt xs ys else decide (x<y)
theorem Pb(x y:Int)(xs ys:List Int):lexLt (x::xs) (y::ys)=if x=y then lexLt xs ys else decide (x<y):=rfl
theorem Lv:lexLt [] []=false:=rfl
theorem Ki(y:Int)(ys:List Int):lexLt [] (y::ys)=true:=rfl
theorem KP(x:Int)(xs:List Int):lexLt (x::xs) []=false:=rfl
theorem T8(A:Around)(s:Shared)(a:Int)(t:Tok)(c:Int)(u:Tok):∃e,SeqAt.EqAt A s (.int a t) (.int c u) e/\(e=true↔a=c):=
 ⟨(a==c),SeqAt.EqAt.int_int a t c u,by simp⟩
theorem S9(A:Around)(s:Shared)(a:Int)(t:Tok)(c:Int)(u:Tok)(prog:Program)(w:World)(E:Value->Shared->Prop)(Q:Value->Shared->Prop)(h:Q (.bool (decide (a<c))) s):
  wpAny (model prog w) A (richCompare .Lt (.int a t) (.int c u)) Q E s:=
 (PyProof.Rows.lt_int h:wpAny (model prog w) A (compareOp .Lt (.int a t) (.int c u)) Q E s)
section
open PySem.SeqAt
open PySem.AutoSeq1 (wpAny_loadPart')
open PySem.MeetsSeq PySem.MeetsSeq2 PySem.MeetsSeq3
theorem LR (l b : Addr) (items items2 : Array Value) (n n2 : Nat) (dd dd2 : Option Addr) (sl sl2 : Array (Option Value)) (ns ms : List Int) (hi : IntsAre items.toList ns) (hj : IntsAre items2.toList ms) :
    Meets (Builtin.«tuple.__lt__» ⟨[.ref l,.ref b],[]⟩)
      (fun _ R s=>s.heap.get? l=some {cls:=.type "tuple",dict:=dd,data:=.seq items n,slots:=sl}/\s.heap.get? b=some {cls:=.type "tuple",dict:=dd2,data:=.seq items2 n2,slots:=sl2}/\
        R (.ok (.ret (.bool (lexLt ns ms)))) s):=
  .of_wp fun prog w A R s h=>by
    obtain⟨hp,g,d,tk,os⟩:=s;obtain⟨hl,hb,h⟩:=h
    have f2:=AutoSeq1.sub_tuple_tuple
    have z1:items.size=ns.length:=by rw[←hi.length];simp
    have z2:items2.size=ms.length:=by rw[←hj.length];simp
    wp_walk using wpAny_loadPart' hl,wpAny_loadPart' hb,wpAny_forIn_list _ (fun rest b s'=>b.1=none/\s'=⟨hp,g,d,tk,os⟩/\∃(vs ws:List Value) (ns' ms':List Int),rest=vs.zip ws/\
      IntsAre vs ns'/\IntsAre ws ms'/\ns'.length+items2.size=ms'.length+items.size/\R (.ok (.ret (.bool (lexLt ns' ms')))) ⟨hp,g,d,tk,os⟩) _
    case turn=>
      rintro ⟨y,x⟩ rest b s' ⟨hb',rfl,vs,ws,ns',ms',hz,hvi,hwi,hlen,hR⟩
      cases hvi with
      |nil=>rw[List.zip_nil_left]at hz;cases hz
      | cons a t hvi' =>
        cases hwi with
        |nil=>rw[List.zip_nil_right]at hz;cases hz
        | cons c u hwi' =>
          rw[List.zip_cons_cons]at hz
          injection hz with hyx hrest
          injection hyx with hy hx
          subst hy hx
          rw[Pb]at hR
          simp only[List.length_cons]at hlen
          obtain⟨e,he,hiff⟩:=T8 A.in1 ⟨hp,g,d,tk,os⟩ a t c u
          refine wpAny_bind (he prog w _ _ ?_)
          cases e with
          | true =>
            rw[if_pos (hiff.mp rfl)]at hR
            wp_walk
            exact⟨rfl,rfl,_,_,_,_,hrest,hvi',hwi',by omega,hR⟩
          | false =>
            rw[if_neg (fun q=>absurd (hiff.mpr q) Bool.false_ne_true)]at hR
            have hri:=S9 A.in1 ⟨hp,g,d,tk,os⟩ a t c u prog w
            wp_walk using hri
            exact⟨_,rfl,by simpa using hR⟩
    case fin =>
      rintro ⟨b1,b2⟩ s' ⟨hb',rfl,vs,ws,ns',ms',hz,hvi,hwi,hlen,hR⟩
      simp only at hb'
      subst hb'
      have hv:lexLt ns' ms'=decide (items.size<items2.size):=by
        cases hvi with
        | nil =>
          cases hwi with
          | nil =>
            simp only[List.length_nil]at hlen
            rw[Lv]
            exact(decide_eq_false (by omega)).symm
          | cons c u hw =>
            simp only[List.length_nil,List.length_cons]at hlen
            rw[Ki]
            exact(decide_eq_true (by omega)).symm
        | cons a t hv =>
          cases hwi with
          | nil =>
            simp only[List.length_nil,List.length_cons]at hlen
            rw[KP]
            exact(decide_eq_false (by omega)).symm
          | cons c u hw =>
            rw[List.zip_cons_cons]at hz
            cases hz
      rw[hv]at hR
      wp_walk
      exact⟨_,rfl,by simpa[Builtin.Tuple.tupleCompareSizes]using hR⟩
    case h=>
      exact⟨rfl,rfl,items.toList,items2.toList,ns,ms,rfl,hi,hj,by omega,h⟩
end
section
variable{prog:Program}{w:World}{A:Around}{E:Value->Shared->Prop}{s:Shared}
theorem PH{l b:Addr}{items items2:Array Value}{ns ms:List Int}{Q:Value->Shared->Prop}(hl:IsTup s.heap l items)(hb:IsTup s.heap b items2)(hi:IntsAre items.toList ns)(hj:IntsAre items2.toList ms)
  (hu:A.units<cLine) (h:Q (.bool (lexLt ns ms)) s):wpAny (model prog w) A (compareOp .Lt (.ref l) (.ref b)) Q E s:=by
 obtain⟨⟨cls,dd,data,sl⟩,ho,hc,n,hd⟩:=id hl
 obtain⟨⟨cls2,dd2,data2,sl2⟩,ho2,hc2,n2,hd2⟩:=id hb
 simp only at hc hd hc2 hd2
 subst hc hd hc2 hd2
 exact richCompare_meets_room (op:=.Lt) ⟨_,ho,rfl⟩ ⟨_,ho2,rfl⟩ PySem.F.slot_tuple_lt PySem.F.entry_tuple_lt (PySem.F.args_tuple_lt_2 _ _) (LR l b items items2 n n2 dd dd2 sl sl2 ns ms hi hj)
  ⟨ho,ho2,show Value.bool (lexLt ns ms)≠Value.notImplemented/\Q (.bool (lexLt ns ms)) s from⟨(fun x=>nomatch x),h⟩⟩ hu
theorem V3{t b:Addr}{vs ws:List Value}{Q:Value->Shared->Prop}(ht:IsTup s.heap t vs.toArray)(hb:IsTup s.heap b ws.toArray)(hv:vs≠[])
  (h1:ws=[]->Q (.ref t) s) (h2:ws≠[]->Q (.ref s.heap.objs.size) {s with heap:=s.heap.push {cls:=.type "tuple",data:=.seq (vs++ws).toArray}})
  (hsz:vs.length+ws.length≤sizeLine):wpAny (model prog w) A (binaryOp .Add (.ref t) (.ref b)) Q E s:=by
 obtain⟨⟨cls,dd,data,sl⟩,ho,hc,n,hd⟩:=id ht
 obtain⟨⟨cls2,dd2,data2,sl2⟩,ho2,hc2,n2,hd2⟩:=id hb
 simp only at hc hd hc2 hd2
 subst hc hd hc2 hd2
 have e:vs.toArray++ws.toArray=(vs++ws).toArray:=by simp
 by_cases hw:ws=[]
 ·exact concat_meets ⟨_,ho,rfl⟩ ⟨_,ho2,rfl⟩ noFill_tuple_add seq_tuple_add PySem.F.slot_tuple_add PySem.F.entry_tuple_add (PySem.F.args_tuple_add_2 _ _)
   (tuple_addW1 t b vs.toArray ws.toArray n n2 dd dd2 sl sl2 (by simpa using hv) (by simp[hw])) ⟨ho,ho2,h1 hw⟩
 ·refine concat_meets ⟨_,ho,rfl⟩ ⟨_,ho2,rfl⟩ noFill_tuple_add seq_tuple_add PySem.F.slot_tuple_add PySem.F.entry_tuple_add (PySem.F.args_tuple_add_2 _ _)
   (tuple_addW2 t b vs.toArray ws.toArray n n2 dd dd2 sl sl2 (by simpa using hv) (by simpa using hw) (by rw[List.size_toArray,List.size_toArray];exact hsz)) ⟨ho,ho2,?_⟩
  rw[e]
  exact h2 hw
noncomputable def sIx(n d:Nat):Option Int->Nat
 |none=>d
 |some v=>if v<0 then(v+(n:Int)).toNat else min v.toNat n
theorem Ng(n d k:Nat):sIx n d (some (k:Int))=min k n:=by
 show(if(k:Int)<0 then((k:Int)+(n:Int)).toNat else min (k:Int).toNat n)=min k n
 rw[if_neg (by omega),Int.toNat_natCast]
theorem YS(n d:Nat)(hd:d≤n)(o:Option Int):sIx n d o≤n:=by
  cases o with
  |none=>exact hd
  | some v =>
    show(if v<0 then(v+(n:Int)).toNat else min v.toNat n)≤n
    by_cases hv:v<0
    ·rw[if_pos hv];omega
    ·rw[if_neg hv];exact Nat.min_le_right _ _
theorem Py(v:Int)(n d:Nat):(if v<0 then max (v+(n:Int)) 0 else min v (n:Int))=((sIx n d (some v):Nat):Int):=by
 show(if v<0 then max (v+(n:Int)) 0 else min v (n:Int))=(((if v<0 then(v+(n:Int)).toNat else min v.toNat n):Nat):Int)
 by_cases hv:v<0
 ·simp only[if_pos hv];omega
 ·simp only[if_neg hv];omega
theorem Pd(lo hi:Option Int)(n:Nat):Builtin.Slice.sliceAdjust lo hi 1 (n:Int)=(((sIx n 0 lo:Nat):Int),((sIx n n hi:Nat):Int)):=by
 have h1:¬((1:Int)<0):=by omega
 unfold Builtin.Slice.sliceAdjust
 simp only[h1,if_false]
 refine Prod.ext ?_ ?_
 ·cases lo with
  |none=>rfl
  |some v=>exact Py v n 0
 ·cases hi with
  |none=>rfl
  |some v=>exact Py v n n
theorem O5(i j:Nat):Builtin.Slice.slicePlaces (i:Int) (j:Int) 1=j-i:=by
 unfold Builtin.Slice.slicePlaces
 have h1:(1:Int)>0:=by omega
 simp only[h1,if_true,Int.ediv_one]
 split<;>omega
theorem Kq{v:Value}{o:Option Int}{Q:Option Int->Shared->Prop}(p:IsPart v o)(h:Q o s):wpAny (model prog w) A (Builtin.Slice.slicePartIndex v) Q E s:=by
 cases p with
 |none=>exact slicePart_none h
 |int i t=>exact slicePart_int h
theorem Fm{sl:Addr}{vl vu:Value}{lo hi:Option Int}{n:Nat}{Q:Int×Int×Nat->Shared->Prop}(hs:s.heap.IsSliceOf sl vl vu .none)(pl:IsPart vl lo)(pu:IsPart vu hi)
  (h:Q (((sIx n 0 lo:Nat):Int),1,sIx n n hi-sIx n 0 lo) s):wpAny (model prog w) A (Builtin.Slice.sliceApplied (.ref sl) (pure (n:Int))) Q E s:=by
 obtain⟨os,hos,hcs,hds⟩:=id hs
 unfold Builtin.Slice.sliceApplied Builtin.Slice.sliceFields
 refine wpAny_bind (wpAny_bind (wpAny_field hos hds (x:=vl) rfl (wpAny_bind (wpAny_field hos hds (x:=vu) rfl (wpAny_bind (wpAny_field hos hds (x:=.none) rfl (wpAny_pure ?_)))))))
 refine wpAny_bind (slicePart_none ?_)
 show wpAny _ _ (if((1:Int)==0)=true then _ else _) _ _ s
 rw[if_neg (by decide)]
 refine wpAny_bind (Kq pl (wpAny_bind (Kq pu (wpAny_bind (wpAny_pure ?_)))))
 show wpAny _ _ (match Builtin.Slice.sliceAdjust lo hi 1 (n:Int)with|(lo,hi)=>pure (lo,(1:Int),Builtin.Slice.slicePlaces lo hi 1)) _ _ s
 rw[Pd lo hi n]
 show wpAny _ _ (pure (((sIx n 0 lo:Nat):Int),(1:Int),Builtin.Slice.slicePlaces ((sIx n 0 lo:Nat):Int) ((sIx n n hi:Nat):Int) 1)) _ _ s
 rw[O5]
 exact wpAny_pure h
theorem UI(xs:Array Value)(i k:Nat):((List.range k).filterMap fun(m:Nat)=>xs[((i:Int)+(m:Int)*1).toNat]?).toArray=((xs.toList.drop i).take k).toArray:=by
 have e:(fun(m:Nat)=>xs[((i:Int)+(m:Int)*1).toNat]?)=fun m=>xs[i+m]?:=by
  funext m
  have:((i:Int)+(m:Int)*1).toNat=i+m:=by omega
  rw[this]
 rw[e]
 have:=pick_run xs i k
 rw[List.filterMap_map]at this
 have e2:((fun x=>xs[x]?)∘fun x=>i+x)=fun m=>xs[i+m]?:=rfl
 rw[e2]at this
 rw[this]
theorem H0{t sl:Addr}{items:Array Value}{vl vu:Value}{lo hi:Option Int}{Q:Value->Shared->Prop}(ht:IsTup s.heap t items)(hs:s.heap.IsSliceOf sl vl vu .none)(pl:IsPart vl lo)(pu:IsPart vu hi)
  (hw:¬(sIx items.size 0 lo=0/\sIx items.size items.size hi=items.size))
  (h:Q (.ref s.heap.objs.size) {s with heap:=s.heap.push {cls:=.type "tuple",data:=.seq ((items.toList.drop (sIx items.size 0 lo)).take (sIx items.size items.size hi-sIx items.size 0 lo)).toArray}})
  (hsz:items.size≤sizeLine):wpAny (model prog w) A (getItem (.ref t) (.ref sl)) Q E s:=by
 have htake:sizeOk (.seq ((items.toList.drop (sIx items.size 0 lo)).take (sIx items.size items.size hi-sIx items.size 0 lo)).toArray):=by
  show((items.toList.drop (sIx items.size 0 lo)).take (sIx items.size items.size hi-sIx items.size 0 lo)).toArray.size≤sizeLine
  rw[List.size_toArray,List.length_take,List.length_drop,Array.length_toList]
  omega
 have hj:sIx items.size items.size hi≤items.size:=YS _ _ (Nat.le_refl _) hi
 obtain⟨os,hos,hcs,hds⟩:=id hs
 have hTs:s.TypeIs (.ref sl) "slice":=⟨os,hos,hcs⟩
 unfold getItem
 try with_reducible refine wpAny_holding ?_
 first|refine wpAny_bind (wpAny_pure ?_)|skip
 refine wpAny_bind (wpAny_sequenceKey ht.typeIs (by decide) ?_)
 refine wpAny_bind (wpAny_callSpecial?_slot (name:=Str.ofString "__getitem__") ht.typeIs PyProof.Rows.slot_tuple_getitem
  (wpAny_call_entry PyProof.Rows.slot_tuple_getitem ht.typeIs entry_tuple_getitem ?_ (args_tuple_getitem _ _)))
 show wpAny _ _ (Builtin.Tuple.tupleItemsOf (.ref t) >>= _) _ _ s
 refine wpAny_bind (tupleItemsOf_ ht ?_)
 refine wpAny_bind (wpAny_typeOf hTs ?_)
 rw[if_pos (by decide)]
 refine wpAny_bind (Fm hs pl pu ?_)
 have hno:¬((((sIx items.size 0 lo:Nat):Int)==0 && (1:Int)==1 && (sIx items.size items.size hi-sIx items.size 0 lo)==items.size)=true):=by
  intro q
  rw[Bool.and_eq_true,Bool.and_eq_true]at q
  have q1:((sIx items.size 0 lo:Nat):Int)=0:=eq_of_beq q.1.1
  have q2:sIx items.size items.size hi-sIx items.size 0 lo=items.size:=eq_of_beq q.2
  exact hw ⟨by omega,by omega⟩
 show wpAny _ _ (if(((sIx items.size 0 lo:Nat):Int)==0 && (1:Int)==1 && (sIx items.size items.size hi-sIx items.size 0 lo)==items.size)=true then _ else _) _ _ s
 rw[if_neg hno,UI]
 first
  |exact wpAny_bind (m:=Builtin.Tuple.tupleExact _) (wpAny_newObj_type (wpAny_pure ⟨_,rfl,wpAny_pure h⟩) htake)
  |exact wpAny_bind (m:=Builtin.Tuple.tupleExact _) (wpAny_newObj_type (wpAny_bind (wpAny_pure (wpAny_pure ⟨_,rfl,wpAny_pure h⟩))) htake)
  |exact wpAny_bind (wpAny_bind (m:=Builtin.Tuple.tupleExact _) (wpAny_newObj_type (wpAny_pure (wpAny_pure ⟨_,rfl,wpAny_pure h⟩)) htake))
  |exact wpAny_bind (wpAny_bind (m:=Builtin.Tuple.tupleExact _) (wpAny_newObj_type (wpAny_pure ⟨_,rfl,wpAny_pure h⟩) htake))
end
end HT
namespace L2
open PySem PySem.Spec PyProof.Rows
abbrev TO:=St->Hp->(Option Int->Hp->Prop)->Prop
def PO(X:Cx)(e:Option Expr)(t:TO):Prop:=
 ∀ (pins : List (Addr × Obj)) (s : Shared) (σ : St) (H : Hp) (Q : Option Int -> Hp -> Prop), Inv X pins σ H s -> t σ H Q ->
  wpAny (model X.prog X.w) X.A (evalPart e X.env) (fun u s'=>∃o H',Inv X pins σ H' s'/\IsPart u o/\Q o H') X.xe s
noncomputable def Wl:TO:=fun _ H Q=>Q none H
noncomputable def bc(t:TE):TO:=fun σ H Q=>t σ H fun x H1=>∃i,x=.int i/\Q (some i) H1
theorem intsAre_of{ns:List Int}:∀{us:List Value},Vals (ns.map V.int) us->IntsAre us ns:=by
  induction ns with
  |nil=>intro us r;rw[List.map_nil]at r;cases r;exact .nil
  | cons n ns ih =>
    intro us r
    rw[List.map_cons]at r
    cases r with
    | cons r1 r2 =>
      obtain⟨t,e⟩:=r1
      subst e
      exact .cons n t (ih r2)
section
variable{X:Cx}{e:Expr}{te:TE}{lo hi:Option Expr}{tl th:TO}{pos p2:Pos}
theorem Qy:PO X none Wl:=by
 intro pins s σ H Q I h
 rw[evalPart_none]
 exact wpAny_pure ⟨none,H,I,.none,h⟩
theorem Lf(h:PE X e te):PO X (some e) (bc te):=by
 intro pins s σ H Q I hw
 rw[evalPart_some]
 refine thn (h pins s σ H _ I hw) fun u s1 ⟨x,H1,I1,r1,q1⟩=>?_
 obtain⟨i,rfl,q⟩:=q1
 obtain⟨t,rfl⟩:=r1
 exact⟨some i,H1,I1,.int i t,q⟩
def SlR(X:Cx)(r:V->Option Int->Option Int->Hp->VK->Prop):Prop:=
 ∀ (pins : List (Addr × Obj)) (s : Shared) (σ : St) (H : Hp) (x : V) (v vl vu : Value) (lo hi : Option Int) (sl : Addr) (Q : VK), Inv X pins σ H s -> RelV x v -> s.heap.IsSliceOf sl vl vu .none -> IsPart vl lo -> IsPart vu hi -> r x lo hi H Q ->
  ∃T id,typeLookup (.type T) "__getitem__"=pure (some (.builtin id))/\s.TypeIs v T/\wpAny (model X.prog X.w) X.A (getItem v (.ref sl)) (EP X pins σ Q) X.xe s
noncomputable def tSl(r:V->Option Int->Option Int->Hp->VK->Prop)(te:TE)(tl th:TO):TE:=fun σ H Q=>te σ H fun x H1=>tl σ H1 fun l H2=>th σ H2 fun u H3=>r x l u H3 Q
theorem MK{r:V->Option Int->Option Int->Hp->VK->Prop}(hr:SlR X r)(he:PE X e te)(hl:PO X lo tl)(hu:PO X hi th):PE X (.Subscript e (.Slice lo hi none p2) pos) (tSl r te tl th):=by
 intro pins s σ H Q I h
 refine Subscript_ (thn (he pins s σ H _ I h) fun v s1 ⟨x,H1,I1,r1,q1⟩=>?_)
 refine wpAny_Slice (thn (hl pins s1 σ H1 _ I1 q1) fun vl s2 ⟨l,H2,I2,pl,q2⟩=>thn (hu pins s2 σ H2 _ I2 q2) fun vu s3 ⟨u,H3,I3,pu,q3⟩=>?_)
 rw[evalPart_none]
 refine wpAny_pure ?_
 have I4:Inv X pins σ H3 {s3 with heap:=s3.heap.push {cls:=.type "slice",data:=.fields #[vl,vu,.none]}}:=I3.kept (t':=s3.toks) fun b ob q=>Heap.get?_push_of_some _ q
 obtain⟨T,id,hT,ht,hg⟩:=hr pins {s3 with heap:=s3.heap.push {cls:=.type "slice",data:=.fields #[vl,vu,.none]}} σ H3 x v vl vu l u s3.heap.objs.size Q I4 r1 (Heap.IsSliceOf.new ..) pl pu q3
 show wpAny (model X.prog X.w) X.A (subscriptTail e (.Slice lo hi none p2) v (.ref s3.heap.objs.size)) (EP X pins σ Q) X.xe {s3 with heap:=s3.heap.push {cls:=.type "slice",data:=.fields #[vl,vu,.none]}}
 exact tail_any (ops:=[.ref s3.heap.objs.size,v]) ht hT hg (by with_unfolding_all rfl)
noncomputable def VI(xs:List V)(lo hi:Option Int):List V:=(xs.drop (HT.sIx xs.length 0 lo)).take (HT.sIx xs.length xs.length hi-HT.sIx xs.length 0 lo)
theorem JK(xs:List V)(lo hi:Option Int):(VI xs lo hi).length≤xs.length:=by
 unfold VI
 rw[List.length_take,List.length_drop]
 omega
def eZ(K:PySem.W.Frag):V->Option Int->Option Int->Hp->VK->Prop:=fun x lo hi H Q=>∃a xs,x=.ref a/\SqT K H a xs/\
 ¬(HT.sIx xs.length 0 lo=0/\HT.sIx xs.length xs.length hi=xs.length)/\∀p,H p=none->Q (.ref p) (upd H p (.tup (VI xs lo hi)))
theorem Yv:SlR X (eZ X.K):=by
 intro pins s σ H x v vl vu lo hi sl Q I rx hs pl pu h
 obtain⟨a,xs,rfl,hx,hw,q⟩:=h
 cases rx
 obtain⟨its,r,ht,hz⟩:=I.tuple hx
 have hlen:its.toArray.size=xs.length:=by rw[List.size_toArray];exact r.length.symm
 refine⟨"tuple",_,PyProof.Rows.slot_tuple_getitem.lookup,ht.typeIs,?_⟩
 refine HT.H0 ht hs pl pu (by rw[hlen];exact hw) ?_ (by rw[hlen];exact hz)
 rw[hlen]
 refine⟨.ref s.heap.objs.size,_,I.laid (t':=s.toks) (o:=.tup (VI xs lo hi)) (fun b ob q=>Heap.get?_push_of_some _ q) (Nat.le_refl _) ?_,rfl,q _ (I.hok.fresh (Nat.le_refl _))⟩
 exact⟨Nat.le_trans (JK xs lo hi) hz,_,(r.drop (HT.sIx xs.length 0 lo)).take (HT.sIx xs.length xs.length hi-HT.sIx xs.length 0 lo),IsTup.new _ _⟩
noncomputable def cv(K:PySem.W.Frag):R2:=fun x y H Q=>∃a b xs ys,x=.ref a/\y=.ref b/\SqT K H a xs/\SqT K H b ys/\xs≠[]/\xs.length+ys.length≤sizeLine/\
 (ys=[]->Q (.ref a) H)/\(ys≠[]->∀p,H p=none->Q (.ref p) (upd H p (.tup (xs++ys))))
theorem Vals.nil_iff{xs:List V}{us:List Value}(r:Vals xs us):us=[]↔xs=[]:=by
 cases r with
 |nil=>simp
 |cons _ _=>simp
theorem Vm:OpR X (binaryOp .Add) (cv X.K):=by
 intro pins s σ H x y v u Q I rx ry h
 obtain⟨a,b,xs,ys,rfl,rfl,ha,hb,hx,hz,q1,q2⟩:=h
 cases rx
 cases ry
 obtain⟨its,r1,p1,_⟩:=I.tuple ha
 obtain⟨its2,r2,p2,_⟩:=I.tuple hb
 refine HT.V3 p1 p2 (fun z=>hx (r1.nil_iff.mp z)) (fun z=>⟨.ref a,H,I,rfl,q1 (r2.nil_iff.mp z)⟩) (fun z=>?_) (by rw[←r1.length,←r2.length];exact hz)
 refine⟨.ref s.heap.objs.size,_,I.laid (t':=s.toks) (o:=.tup (xs++ys)) (fun b ob q=>Heap.get?_push_of_some _ q) (Nat.le_refl _) ?_,rfl,q2 (fun w=>z (r2.nil_iff.mpr w)) _ (I.hok.fresh (Nat.le_refl _))⟩
 exact⟨by rw[List.length_append];exact hz,_,r1.append r2,IsTup.new _ _⟩
end
end L2
namespace L2
open PySem PySem.Spec PyProof.Rows
noncomputable def ixN(n:Nat)(i:Int):Option Nat:=if 0≤i then(if i<n then some i.toNat else none)else if-(n:Int)≤i then some (i+n).toNat else none
noncomputable def atI{α:Type}(xs:List α)(i:Int):Option α:=(ixN xs.length i).bind fun j=>xs[j]?
theorem Px{n:Nat}{i:Int}{j:Nat}(h:ixN n i=some j):seqIndex? i n=some j/\j<n/\ -(n:Int)≤i/\i<n:=by
 unfold ixN at h
 by_cases h0:0≤i
 ·rw[if_pos h0]at h
  by_cases h1:i<n
  ·rw[if_pos h1]at h
   have e:i.toNat=j:=Option.some.inj h
   exact⟨by rw[seqIndex_of h0 h1,e],by omega,by omega,h1⟩
  ·rw[if_neg h1]at h;cases h
 ·rw[if_neg h0]at h
  by_cases h1: -(n:Int)≤i
  ·rw[if_pos h1]at h
   have e:(i+n).toNat=j:=Option.some.inj h
   exact⟨by rw[seqIndex_neg (by omega) h1,e],by omega,h1,by omega⟩
  ·rw[if_neg h1]at h;cases h
theorem RE{α:Type}{xs:List α}{i:Int}{v:α}(h:atI xs i=some v):∃j,seqIndex? i xs.length=some j/\xs[j]?=some v/\j<xs.length/\ -(xs.length:Int)≤i/\i<xs.length:=by
  unfold atI at h
  cases e:ixN xs.length i with
  |none=>rw[e]at h;cases h
  | some j =>
    rw[e]at h
    obtain⟨h1,h2,h3,h4⟩:=Px e
    exact⟨j,h1,h,h2,h3,h4⟩
theorem WB{α:Type}{xs:List α}{j:Nat}{v:α}(h:xs[j]?=some v):atI xs (j:Int)=some v:=by
 have hj:j<xs.length:=(List.getElem?_eq_some_iff.mp h).1
 have e:ixN xs.length (j:Int)=some j:=by
  unfold ixN
  rw[if_pos (by omega),if_pos (by omega)];simp
 unfold atI;rw[e];exact h
theorem Oq{α:Type}(xs:List α)(v:α):atI (xs++[v]) (-1)=some v:=by
 have hl:(xs++[v]).length=xs.length+1:=by simp
 have e:ixN (xs++[v]).length (-1)=some xs.length:=by
  unfold ixN
  rw[hl,if_neg (by decide),if_pos (by omega)]
  congr 1
  omega
 unfold atI
 rw[e]
 show(xs++[v])[xs.length]?=some v
 simp
def Qt(b:Expr):Prop:=∀o i,subscripted b false o i=operate [o,i] (getItem o i)
def IxR(X:Cx)(r:R2):Prop:=
 ∀ (value slice : Expr) (pins : List (Addr × Obj)) (s : Shared) (σ : St) (H : Hp) (x y : V) (v u : Value) (Q : VK), Inv X pins σ H s -> RelV x v -> RelV y u -> r x y H Q ->
  subscripted slice false v u=operate [v,u] (getItem v u)->wpAny (model X.prog X.w) X.A (subscriptTail value slice v u) (EP X pins σ Q) X.xe s
def MtR(X:Cx)(id:String)(r:V->List V->Hp->VK->Prop):Prop:=
 ∀ (pins : List (Addr × Obj)) (s : Shared) (σ : St) (H : Hp) (x : V) (xs : List V) (v : Value) (us : List Value) (Q : VK), Inv X pins σ H s -> RelV x v -> Vals xs us -> r x xs H Q ->
  wpAny (model X.prog X.w) X.A (call (.builtin id) (v::us)) (EP X pins σ Q) X.xe s
section
variable{X:Cx}{a b:Expr}{ta tb:TE}{pos:Pos}
theorem bB{r:R2}(hr:IxR X r)(ha:PE X a ta)(hb:PE X b tb)(hs:Qt b):PE X (.Subscript a b pos) (tOp r ta tb):=by
 intro pins s σ H Q I h
 exact Subscript_ (cn ha hb I h fun v u s2 x y H2 I2 rx ry q=>hr a b pins s2 σ H2 x y v u Q I2 rx ry q (hs _ _))
noncomputable def eF(K:PySem.W.Frag):R2:=fun x y H Q=>∃p xs i v,x=.ref p/\y=.int i/\SqL K H p xs/\atI xs i=some v/\Q v H
noncomputable def ez(K:PySem.W.Frag):R2:=fun x y H Q=>∃p xs i v,x=.ref p/\y=.int i/\SqT K H p xs/\atI xs i=some v/\Q v H
theorem Wf:IxR X (eF X.K):=by
 intro value slice pins s σ H x y v u Q I rx ry h hs
 obtain⟨p,xs,i,z,rfl,rfl,hq,he,q⟩:=h
 cases rx
 obtain⟨t,rfl⟩:=ry
 obtain⟨its,r,pl,hz⟩:=I.list hq
 obtain⟨j,h1,h2,h3,h4,h5⟩:=RE he
 obtain⟨w,ew,rw'⟩:=r.get h2
 have hl:=r.length
 have hn:=My
 have fin:EP X pins σ Q w s:=⟨z,H,I,rw',q⟩
 by_cases h0:0≤i
 ·have hj:i.toNat=j:=by
   rw[seqIndex_of h0 h5]at h1
   exact Option.some.inj h1
  exact item_listR pl.isList h0 (by omega) (by rw[hj];simpa using ew) fin hs
 ·have hj:(i+(its.toArray.size:Int)).toNat=j:=by
   rw[seqIndex_neg (by omega) h4]at h1
   rw[List.size_toArray,←hl]
   exact Option.some.inj h1
  exact subscriptTail_builtinR (x:=w) pl.isList.typeIs slot_list_getitem.lookup
   (wpAny_getItem_list_neg (Q:=fun r s'=>r=w/\EP X pins σ Q r s') pl.isList (by omega) (by rw[List.size_toArray]<;>omega) (by omega) (by rw[hj];simpa using ew) ⟨rfl,fin⟩) hs
theorem Y6:IxR X (ez X.K):=by
 intro value slice pins s σ H x y v u Q I rx ry h hs
 obtain⟨p,xs,i,z,rfl,rfl,hq,he,q⟩:=h
 cases rx
 obtain⟨t,rfl⟩:=ry
 obtain⟨its,r,pl,hz⟩:=I.tuple hq
 obtain⟨j,h1,h2,h3,h4,h5⟩:=RE he
 obtain⟨w,ew,rw'⟩:=r.get h2
 have hl:=r.length
 have hn:=My
 have fin:EP X pins σ Q w s:=⟨z,H,I,rw',q⟩
 exact subscriptTail_builtinR (x:=w) pl.typeIs slot_tuple_getitem.lookup
  (getItem_tuple (j:=j) (Q:=fun r s'=>r=w/\EP X pins σ Q r s') pl (by omega) (by omega) (by rw[List.size_toArray,←hl];exact h1) (by simpa using ew) ⟨rfl,fin⟩) hs
theorem PL(its:List Value)(n j:Nat)(u:Value):Obj.mapSeq (·.setIfInBounds j u) {cls:=.type "list",data:=.seq its.toArray n}={cls:=.type "list",data:=.seq (its.set j u).toArray n}:=by
 simp[Obj.mapSeq]
theorem Inv.lst{pins:List (Addr×Obj)}{σ:St}{H:Hp}{s:Shared}{p:Addr}{xs:List V}(I:Inv X pins σ H s)(h:H p=some (.lst xs)):
  ∃(its:List Value) (n:Nat),Vals xs its/\s.heap.get? p=some {cls:=.type "list",data:=.seq its.toArray n}/\xs.length≤sizeLine:=by
 obtain⟨z,its,n,r,e⟩:=I.hok p _ h
 exact⟨its,n,r,e,z⟩
theorem Inv.lstUpd{pins:List (Addr×Obj)}{σ:St}{H:Hp}{s:Shared}{p:Addr}{xs ys:List V}{its its':List Value}{n n':Nat}{f:Obj->Obj}(I:Inv X pins σ H s)(h:H p=some (.lst xs))
  (ho:s.heap.get? p=some {cls:=.type "list",data:=.seq its.toArray n}) (hf:f {cls:=.type "list",data:=.seq its.toArray n}={cls:=.type "list",data:=.seq its'.toArray n'}) (r:Vals ys its') (hz:ys.length≤sizeLine) (t:Nat):
  Inv X pins σ (upd H p (.lst ys)) {s with heap:=s.heap.update p f,toks:=t}:=by
 have e:(s.heap.update p f).get? p=some {cls:=.type "list",data:=.seq its'.toArray n'}:=by
  rw[Heap.get?_update_self f ho (by rw[hf]<;>rfl),hf]
 refine I.write (x:=p) (e:=p) (by rw[h];trivial) (.inl rfl) (fun b u hb q=>(Heap.get?_update_other _ _ (Ne.symm hb)).trans q) ⟨_,e⟩ ?_
 exact⟨hz,its',n',r,e⟩
def bS:V->V->V->Hp->(Hp->Prop)->Prop:=fun o i v H Q=>∃p xs k j,o=.ref p/\i=.int k/\H p=some (.lst xs)/\ixN xs.length k=some j/\Q (upd H p (.lst (xs.set j v)))
theorem set_list:dj X bS:=by
 intro pins s σ H o i v ov iv u Q I ro ri rv h
 obtain⟨p,xs,k,j,rfl,rfl,hp,hj,q⟩:=h
 cases ro
 obtain⟨t,rfl⟩:=ri
 obtain⟨its,n,r,ho,hz⟩:=I.lst hp
 obtain⟨h1,h2,h3,h4⟩:=Px hj
 have hl:=r.length
 have hn:=My
 have I':Inv X pins σ (upd H p (.lst (xs.set j v))) {s with heap:=s.heap.update p (Obj.mapSeq (·.setIfInBounds j u))}:=
  I.lstUpd hp ho (PL its n j u) (r.set rv j) (by rw[List.length_set];exact hz) s.toks
 by_cases h0:0≤k
 ·have hk:k.toNat=j:=by
   rw[seqIndex_of h0 h4]at h1
   exact Option.some.inj h1
  exact PySem.W.ki_setAt ho h0 (by omega) (by rw[List.size_toArray,←hl];exact h4) (by rw[hk];exact⟨_,I',q⟩)
 ·have hk:(k+(its.toArray.size:Int)).toNat=j:=by
   rw[seqIndex_neg (by omega) h3]at h1
   rw[List.size_toArray,←hl]
   exact Option.some.inj h1
  exact PySem.W.ki_setBack ho (by omega) (by rw[List.size_toArray,←hl];exact h3) (by omega) (by rw[hk];exact⟨_,I',q⟩)
theorem Mx(lo hi:Option Int)(n:Nat):(sliceBounds lo hi none n).1=((HT.sIx n 0 lo:Nat):Int)/\(sliceBounds lo hi none n).2.1=((HT.sIx n n hi:Nat):Int)/\(sliceBounds lo hi none n).2.2=1:=by
  refine⟨?_,?_,rfl⟩
  · cases lo with
    |none=>simp[sliceBounds,HT.sIx]
    | some i =>
      simp only[sliceBounds,HT.sIx,Option.getD_none,show(1:Int)>0 by decide,if_true]
      by_cases h:i<0
      ·simp only[h,if_true]<;>omega
      ·simp only[h,if_false]<;>omega
  · cases hi with
    |none=>simp[sliceBounds,HT.sIx]
    | some i =>
      simp only[sliceBounds,HT.sIx,Option.getD_none,show(1:Int)>0 by decide,if_true]
      by_cases h:i<0
      ·simp only[h,if_true]<;>omega
      ·simp only[h,if_false]<;>omega
theorem L6(its:List Value)(lo hi:Option Int):slicePick its.toArray lo hi none=((its.drop (HT.sIx its.length 0 lo)).take (HT.sIx its.length its.length hi-HT.sIx its.length 0 lo)).toArray:=by
 obtain⟨h1,h2,h3⟩:=Mx lo hi its.toArray.size
 unfold slicePick
 rw[h1,h2,h3]
 simp only[sliceRange_one,pick_run,List.size_toArray]<;>rfl
def eH(K:PySem.W.Frag):V->Option Int->Option Int->Hp->VK->Prop:=fun x lo hi H Q=>∃a xs,x=.ref a/\SqL K H a xs/\∀p,H p=none->Q (.ref p) (upd H p (.lst (VI xs lo hi)))
theorem We:SlR X (eH X.K):=by
 intro pins s σ H x v vl vu lo hi sl Q I rx hs pl pu h
 obtain⟨a,xs,rfl,hx,q⟩:=h
 cases rx
 obtain⟨its,r,ht,hz⟩:=I.list hx
 have hlen:=r.length
 refine⟨"list",_,slot_list_getitem.lookup,ht.isList.typeIs,?_⟩
 refine wpAny_getItem_list_slice ht.isList hs pl pu .none (by simp) ?_ (by rw[List.size_toArray]<;>omega)
 rw[L6,←hlen]
 refine⟨.ref s.heap.objs.size,_,I.laid (t':=s.toks) (o:=.lst (VI xs lo hi)) (fun b ob q=>Heap.get?_push_of_some _ q) (Nat.le_refl _) ?_,rfl,q _ (I.hok.fresh (Nat.le_refl _))⟩
 exact⟨Nat.le_trans (JK xs lo hi) hz,_,0,(r.drop (HT.sIx xs.length 0 lo)).take (HT.sIx xs.length xs.length hi-HT.sIx xs.length 0 lo),Heap.get?_push_size _ rfl⟩
noncomputable def KU:V->Bool
 | .non=>true
 | .bl _=>true
 | .int _=>true
 | .str _=>true
 |_=>false
noncomputable def eqV:V->V->Bool
 | .non,.non=>true
 | .bl a,.bl b=>a==b
 | .bl a,.int b=>(if a then 1 else 0)==b
 | .int a,.bl b=>a==(if b then 1 else 0)
 | .int a,.int b=>a==b
 | .str a,.str b=>a==b
 |_,_=>false
theorem YG{A:Around}{s:Shared}{y x:V}{u v:Value}(ry:RelV y u)(rx:RelV x v)(fy:KU y=true)(fx:KU x=true):SeqAt.EqAt A s u v (eqV y x):=by
  cases y with
  | non =>
    cases ry
    cases x with
    |non=>cases rx;exact SeqAt.EqAt.same _
    |bl b=>cases rx;exact SeqAt.EqAt.none_bool b
    |int b=>obtain⟨t,rfl⟩:=rx;exact SeqAt.EqAt.none_int b t
    |str b=>obtain⟨t,rfl⟩:=rx;exact SeqAt.EqAt.none_str b t
    |_=>exact absurd (show false=true from fx) Bool.false_ne_true
  | bl a =>
    cases ry
    cases x with
    |non=>cases rx;exact SeqAt.EqAt.bool_none a
    |bl b=>cases rx;exact SeqAt.EqAt.bool_bool a b
    |int b=>obtain⟨t,rfl⟩:=rx;exact SeqAt.EqAt.bool_int a b t
    |str b=>obtain⟨t,rfl⟩:=rx;exact SeqAt.EqAt.bool_str a b t
    |_=>exact absurd (show false=true from fx) Bool.false_ne_true
  | int a =>
    obtain⟨t',rfl⟩:=ry
    cases x with
    |non=>cases rx;exact SeqAt.EqAt.int_none a t'
    |bl b=>cases rx;exact SeqAt.EqAt.int_bool a t' b
    |int b=>obtain⟨t,rfl⟩:=rx;exact SeqAt.EqAt.int_int a t' b t
    |str b=>obtain⟨t,rfl⟩:=rx;exact SeqAt.EqAt.int_str a t' b t
    |_=>exact absurd (show false=true from fx) Bool.false_ne_true
  | str a =>
    obtain⟨t',rfl⟩:=ry
    cases x with
    |non=>cases rx;exact SeqAt.EqAt.str_none a t'
    |bl b=>cases rx;exact SeqAt.EqAt.str_bool a t' b
    |int b=>obtain⟨t,rfl⟩:=rx;exact SeqAt.EqAt.str_int a t' b t
    |str b=>obtain⟨t,rfl⟩:=rx;exact SeqAt.EqAt.str_str a t' b t
    |_=>exact absurd (show false=true from fx) Bool.false_ne_true
  |_=>exact absurd (show false=true from fy) Bool.false_ne_true
noncomputable def eqU(x:V)(u:Value):Bool:=match u with
 | .none=>eqV .non x
 | .bool b=>eqV (.bl b) x
 | .int i _=>eqV (.int i) x
 | .str z _=>eqV (.str z) x
 |_=>false
theorem VN{x y:V}{u:Value}(r:RelV y u)(f:KU y=true):eqU x u=eqV y x:=by
 cases y with
 |non=>cases r;rfl
 |bl b=>cases r;rfl
 |int i=>obtain⟨t,rfl⟩:=r;rfl
 |str z=>obtain⟨t,rfl⟩:=r;rfl
 |_=>exact absurd (show false=true from f) Bool.false_ne_true
theorem Jz{x:V}:∀{xs:List V} {us:List Value},Vals xs us->xs.all KU=true->us.any (eqU x)=xs.any fun y=>eqV y x
  |_,_,.nil,_=>rfl
  | y :: xs, u :: us, .cons r t, f => by
    rw[List.all_cons,Bool.and_eq_true]at f
    rw[List.any_cons,List.any_cons,VN r f.1,Jz t f.2]
theorem HZ{A:Around}{s:Shared}{x:V}{v:Value}(rx:RelV x v)(fx:KU x=true):∀{xs:List V} {us:List Value},Vals xs us->xs.all KU=true->∀u∈us,SeqAt.EqAt A s u v (eqU x u)
  |_,_,.nil,_=>fun u hu=>by cases hu
  | y :: xs, u :: us, .cons r t, f => fun u' hu => by
    rw[List.all_cons,Bool.and_eq_true]at f
    rcases List.mem_cons.mp hu with rfl|hu
    ·rw[VN r f.1];exact YG r rx f.1 fx
    ·exact HZ rx fx t f.2 u' hu
noncomputable def inV(x:V)(xs:List V):Bool:=xs.any fun y=>eqV y x
noncomputable def rIn(K:PySem.W.Frag)(neg:Bool):R2:=fun x y H Q=>∃p xs,y=.ref p/\(SqL K H p xs∨SqT K H p xs)/\KU x=true/\xs.all KU=true/\Q (.bl (if neg then !inV x xs else inV x xs)) H
theorem Qp:OpR X (compareOp .In) (rIn X.K false):=by
 intro pins s σ H x y v u Q I rx ry h
 obtain⟨p,xs,rfl,hq,fx,fs,q⟩:=h
 cases ry
 rcases hq with hq|hq
 ·obtain⟨its,r,pl,hz⟩:=I.list hq
  refine SeqAt.in_listAt (eqU x) pl.isList (fun w hw=>HZ rx fx r fs w (by simpa using hw)) ⟨.bl _,H,I,rfl,?_⟩
  rw[show its.toArray.any (eqU x)=its.any (eqU x) by simp,Jz r fs]
  exact q
 ·obtain⟨its,r,pl,hz⟩:=I.tuple hq
  refine SeqAt.in_tupleAt (eqU x) pl (fun w hw=>HZ rx fx r fs w (by simpa using hw)) ⟨.bl _,H,I,rfl,?_⟩
  rw[show its.toArray.any (eqU x)=its.any (eqU x) by simp,Jz r fs]
  exact q
theorem Mv:OpR X (compareOp .NotIn) (rIn X.K true):=by
 intro pins s σ H x y v u Q I rx ry h
 obtain⟨p,xs,rfl,hq,fx,fs,q⟩:=h
 cases ry
 rcases hq with hq|hq
 ·obtain⟨its,r,pl,hz⟩:=I.list hq
  refine SeqAt.notIn_listAt (eqU x) pl.isList (fun w hw=>HZ rx fx r fs w (by simpa using hw)) ⟨.bl _,H,I,rfl,?_⟩
  rw[show its.toArray.any (eqU x)=its.any (eqU x) by simp,Jz r fs]
  exact q
 ·obtain⟨its,r,pl,hz⟩:=I.tuple hq
  refine SeqAt.notIn_tupleAt (eqU x) pl (fun w hw=>HZ rx fx r fs w (by simpa using hw)) ⟨.bl _,H,I,rfl,?_⟩
  rw[show its.toArray.any (eqU x)=its.any (eqU x) by simp,Jz r fs]
  exact q
theorem NK:Cy X (.builtin "len") (fun xs H Q=>∃p ys,xs=[.ref p]/\(SqL X.K H p ys∨SqT X.K H p ys)/\Q (.int ys.length) H):=by
 intro pins s σ H xs us Q I r h
 obtain⟨p,ys,rfl,hq,q⟩:=h
 obtain⟨u,rfl,rx⟩:=vals1 r
 cases rx
 have hn:=My
 rcases hq with hq|hq
 ·obtain⟨its,r',pl,hz⟩:=I.list hq
  have hlen:=r'.length
  exact Calls.call_len_list pl.isList (by simp only[List.size_toArray]<;>omega) ⟨.int ys.length,H,I.tok _,⟨s.toks+1,by rw[List.size_toArray,hlen]⟩,q⟩
 ·obtain⟨its,r',pl,hz⟩:=I.tuple hq
  have hlen:=r'.length
  exact len_tuple pl (by simp only[List.size_toArray]<;>omega) ⟨.int ys.length,H,I.tok _,⟨s.toks+1,by rw[List.size_toArray,hlen]⟩,q⟩
theorem Mb:Cy X (.builtin "len") (fun xs H Q=>∃z,xs=[.str z]/\z.length≤sizeLine/\Q (.int z.length) H):=by
 intro pins s σ H xs us Q I r h
 obtain⟨z,rfl,hz,q⟩:=h
 obtain⟨u,rfl,t,rfl⟩:=vals1 r
 have hn:=My
 exact len_str (by omega) ⟨.int z.length,H,I.tok _,⟨_,rfl⟩,q⟩
theorem MX:Cy X (.type "list") (fun xs H Q=>∃p ys,xs=[.ref p]/\(SqL X.K H p ys∨SqT X.K H p ys)/\∀l,H l=none->Q (.ref l) (upd H l (.lst ys))):=by
 intro pins s σ H xs us Q I r h
 obtain⟨p,ys,rfl,hq,q⟩:=h
 obtain⟨u,rfl,rx⟩:=vals1 r
 cases rx
 have fin:∀(its:List Value),Vals ys its->ys.length≤sizeLine->∀(h':Heap) (c':Nat),(∀b o',s.heap.get? b=some o'->h'.get? b=some o')->
   h'.get? s.heap.objs.size=some {cls:=.type "list",dict:=none,data:=.seq its.toArray c',slots:= #[]}->EP X pins σ Q (.ref s.heap.objs.size) {s with heap:=h'}:=fun its r' hz h' c' kp e=>
  ⟨.ref s.heap.objs.size,_,I.laid (t':=s.toks) kp (Nat.le_refl _) (show DN X.prog X.w _ h' _ (.lst ys)from⟨hz,its,c',r',e⟩),rfl,q _ (I.hok.fresh (Nat.le_refl _))⟩
 rcases hq with hq|hq
 ·obtain⟨its,r',pl,hz⟩:=I.list hq
  have hlen:=r'.length
  obtain⟨o,ho,hc,n,hd⟩:=pl.isList
  exact call_list_seq p (.inl rfl) ho hc hd (fun h' c' kp e=>fin its r' hz h' c' kp e) (by simp only[List.size_toArray]<;>omega)
 ·obtain⟨its,r',pl,hz⟩:=I.tuple hq
  have hlen:=r'.length
  obtain⟨o,ho,hc,n,hd⟩:=pl
  exact call_list_seq p (.inr rfl) ho hc hd (fun h' c' kp e=>fin its r' hz h' c' kp e) (by simp only[List.size_toArray]<;>omega)
theorem Lk:Cy X (.type "tuple") (fun xs H Q=>∃p ys,xs=[.ref p]/\((SqL X.K H p ys/\∀l,H l=none->Q (.ref l) (upd H l (.tup ys)))∨(SqT X.K H p ys/\Q (.ref p) H))):=by
 intro pins s σ H xs us Q I r h
 obtain⟨p,ys,rfl,h⟩:=h
 obtain⟨u,rfl,rx⟩:=vals1 r
 cases rx
 rcases h with⟨hq,q⟩|⟨hq,q⟩
 ·obtain⟨its,r',pl,hz⟩:=I.list hq
  have hlen:=r'.length
  refine call_tuple_list pl.isList (fun h' kp=>?_) (by simp only[List.size_toArray]<;>omega)
  have I1:Inv X pins σ H {s with heap:=h'}:=I.kept (t':=s.toks) kp
  have I2:Inv X pins σ (upd H h'.objs.size (.tup ys)) {s with heap:=h'.push {cls:=.type "tuple",data:=.seq its.toArray}}:=
   I1.laid (t':=s.toks) (fun b o e=>Heap.get?_push_of_some _ e) (Nat.le_refl _) (show DN X.prog X.w _ _ _ (.tup ys)from⟨hz,its,r',IsTup.new _ _⟩)
  exact⟨.ref h'.objs.size,_,I2,rfl,q _ (I1.hok.fresh (Nat.le_refl _))⟩
 ·obtain⟨its,r',pl,hz⟩:=I.tuple hq
  exact call_tuple_same pl ⟨.ref p,H,I,rfl,q⟩
def tyV(K:PySem.W.Frag)(T:String)(x:V)(H:Hp):Prop:=match x with
 | .str _=>T="str"
 | .int _=>T="int"
 | .ref p=>(T="list" /\∃xs,SqL K H p xs)∨(T="tuple" /\∃o,K.lookup p=some o/\o.cls=.type "tuple" /\o.dict=none)∨
   (T="dict" /\((∃kvs,H p=some (.dK kvs))∨∃kvs,H p=some (.dT kvs)))∨(T="set" /\∃S n,H p=some (.set S n))
 |_=>False
theorem VY {pins : List (Addr × Obj)} {σ : St} {H : Hp} {s : Shared} {T : String} {x : V} {v : Value} (I : Inv X pins σ H s) (r : RelV x v) (ty : tyV X.K T x H) :
    s.TypeIs v T/\∀a,v=.ref a->∃ob,s.heap.get? a=some ob/\ob.dict=none:=by
  cases x with
  | str z =>
    obtain⟨t,rfl⟩:=r
    cases (show T="str" from ty)
    exact⟨typeIs_str s z t,fun _ e=>nomatch e⟩
  | int i =>
    obtain⟨t,rfl⟩:=r
    cases (show T="int" from ty)
    exact⟨typeIs_int s i t,fun _ e=>nomatch e⟩
  | ref p =>
    cases r
    rcases ty with⟨rfl,xs,hq⟩|⟨rfl,o,hk,hc,hd⟩|⟨rfl,hk⟩|⟨rfl,S,n,hk⟩
    · obtain ⟨its, _, pl, _⟩ := I.list hq
      refine⟨pl.isList.typeIs,fun a e=>?_⟩
      cases e
      obtain⟨o,n,e,c,hd,_⟩:=pl
      exact⟨o,e,hd⟩
    · refine ⟨⟨o, I.kIn p o hk, hc⟩, fun a e => ?_⟩
      cases e
      exact⟨o,I.kIn _ o hk,hd⟩
    · have z : ∃ o, s.heap.get? p = some o /\ o.ExactDict := by
        rcases hk with⟨kvs,hk⟩|⟨kvs,hk⟩
        · obtain ⟨_, _, _, _, o, _, _, e, ex, _⟩ := I.hok p _ hk
          exact⟨o,e,ex⟩
        · obtain ⟨_, _, _, _, o, _, _, e, ex, _⟩ := I.hok p _ hk
          exact⟨o,e,ex⟩
      obtain⟨o,e,ex⟩:=z
      refine⟨⟨o,e,ex.1⟩,fun a e2=>?_⟩
      cases e2
      exact⟨o,e,ex.2.1⟩
    · obtain ⟨o, _, _, _, e, ex, _⟩ := I.hok p _ hk
      refine⟨⟨o,e,ex.1⟩,fun a e2=>?_⟩
      cases e2
      exact⟨o,e,ex.2.1⟩
  |_=>exact False.elim ty
noncomputable def fZ(K:PySem.W.Frag)(T:String)(r:V->List V->Hp->VK->Prop)(to:TE):TE:=fun σ H Q=>to σ H fun x H1=>tyV K T x H1/\r x [] H1 Q
noncomputable def tBM(K:PySem.W.Frag)(T:String)(r:V->List V->Hp->VK->Prop)(to:TE)(t:TA):TE:=fun σ H Q=>to σ H fun x H1=>tyV K T x H1/\t σ H1 fun xs H2=>r x xs H2 Q
variable{o e:Expr}{es:List Expr}{to:TE}{t:TA}{name:Str}{apos cpos:Pos}{T id:String}{r:V->List V->Hp->VK->Prop}
theorem ZK(pa:PlainAttrs T)(slot:Slot T name id)(hty:typeOf (.builtin id)=pure (.type "method_descriptor"))(hm:MtR X id r)(ho:PE X o to)
  (hbase:attributeBase o name X.env (eval o X.env)=eval o X.env:=by rfl) (hline:(apos.endLine==cpos.line)=true:=by rfl):PE X (.Call (.Attribute o name apos) [] [] cpos) (fZ X.K T r to):=by
 intro pins s σ H Q I h
 refine wpAny_Call_method0_late hbase hline (thn (ho pins s σ H _ I h) fun v s1 ⟨x,H1,I1,r1,ty,q1⟩=>?_)
 obtain⟨h1,h2⟩:=VY I1 r1 ty
 exact⟨T,id,pa,slot,hty,h1,h2,Calls.callWith_builtin rfl (PySem.evalArgs_none (hm pins s1 σ H1 x [] v [] Q I1 r1 .nil q1))⟩
theorem av(pa:PlainAttrs T)(slot:Slot T name id)(hty:typeOf (.builtin id)=pure (.type "method_descriptor"))(hm:MtR X id r)(ho:PE X o to)(ha:PA X (e::es) t)
  (hbase:attributeBase o name X.env (eval o X.env)=eval o X.env:=by rfl)
  (hfew:((backTo cpos (starEach (e::es) X.env)).all (fun x=> !x.1) && (backToKw cpos (keywordEach [] X.env)).all (fun x=>x.1.isSome)
   && decide ((e::es).length+([]:List Keyword).length+(if([]:List Keyword).isEmpty then 0 else 1)<30))=true:=by rfl)
  (hline:(apos.endLine==cpos.line)=true:=by rfl) (hs:starEach (e::es) X.env=(false,eval e X.env)::starEach es X.env:=by rfl) (hplain:(backTo cpos (starEach es X.env)).any (·.1)=false:=by rfl):
  PE X (.Call (.Attribute o name apos) (e::es) [] cpos) (tBM X.K T r to t):=by
 intro pins s σ H Q I h
 refine wpAny_Call_method_late hbase hfew hline rfl (thn (ho pins s σ H _ I h) fun v s1 ⟨x,H1,I1,r1,ty,q1⟩=>?_)
 obtain⟨h1,h2⟩:=VY I1 r1 ty
 refine⟨T,id,pa,slot,hty,h1,h2,?_⟩
 have hA:=ha cpos pins s1 σ H1 _ I1 q1
 rw[hs]at hA⊢
 refine Calls.callWith_builtin (by show(false||(backTo cpos (starEach es X.env)).any (·.1))=false;rw[hplain]<;>rfl) (Calls.evalArgs_plain ?_)
 exact thn hA fun us s2 ⟨vs,H2,I2,r2,q2⟩=>hm pins s2 σ H2 x vs v us Q I2 r1 r2 q2
end
end L2
namespace L2
open PySem PySem.Spec PyProof.Rows
def MtM(X:Cx)(id:String)(r:V->List V->Hp->VK->Prop):Prop:=
 ∀ (pins : List (Addr × Obj)) (s : Shared) (σ : St) (H : Hp) (x : V) (xs : List V) (v : Value) (us : List Value) (Q : VK), Inv X pins σ H s -> RelV x v -> Vals xs us -> r x xs H Q ->
  wpAny (model X.prog X.w) X.A (call (.builtin id) (v::us)) (EP X pins σ Q) X.xe s
theorem Vals.one:∀{x:V} {us:List Value},Vals [x] us->∃u,us=[u]/\RelV x u
 |_,_,.cons r .nil=>⟨_,rfl,r⟩
theorem Vals.two:∀{x y:V} {us:List Value},Vals [x,y] us->∃u v,us=[u,v]/\RelV x u/\RelV y v
 |_,_,_,.cons r (.cons q .nil)=>⟨_,_,rfl,r,q⟩
theorem Vals.rep{xs:List V}{us:List Value}(h:Vals xs us):∀k:Nat,Vals (List.replicate k xs).flatten (List.replicate k us).flatten
  |0=>.nil
  | k + 1 => by
    rw[List.replicate_succ,List.replicate_succ,List.flatten_cons,List.flatten_cons]
    exact Vals.append h (Vals.rep h k)
theorem foldl_rep(its:List Value):∀(k:Nat) (acc:List Value),
    List.foldl (fun x1 x2=>x1++x2) acc.toArray (List.replicate k its.toArray)=(acc++(List.replicate k its).flatten).toArray
  |0,acc=>by simp
  | k + 1, acc => by
    have e:acc.toArray++its.toArray=(acc++its).toArray:=by simp
    have e2:(acc++its)++(List.replicate k its).flatten=acc++(List.replicate (k+1) its).flatten:=by
      rw[List.replicate_succ,List.flatten_cons,List.append_assoc]
    rw[←e2,←foldl_rep its k (acc++its),←e,List.replicate_succ,List.foldl_cons]
section
variable{X:Cx}{pins:List (Addr×Obj)}{σ:St}{H:Hp}{s:Shared}{l b:Addr}{xs ys zs:List V}
theorem Inv.lset{its its':List Value}{n:Nat}{f:Array Value->Array Value}{t':Nat}(I:Inv X pins σ H s)(hH:H l=some (.lst xs))
  (e:s.heap.get? l=some {cls:=.type "list",data:=.seq its.toArray n}) (hf:f its.toArray=its'.toArray) (hv:Vals ys its') (hz:ys.length≤sizeLine):
  Inv X pins σ (upd H l (.lst ys)) {s with heap:=s.heap.update l (Obj.mapSeq f),toks:=t'}:=by
 have q:=PySem.IsL.update e f
 rw[hf]at q
 refine I.write (x:=l) (e:=l) (by rw[hH];exact trivial) (.inl rfl) (fun b' u hb hu=>(Heap.get?_update_other s.heap (Obj.mapSeq f) (Ne.symm hb)).trans hu) ⟨_,q⟩ ?_
 exact⟨hz,its',_,hv,q⟩
theorem Inv.lnew{its:List Value}{t':Nat}(I:Inv X pins σ H s)(hv:Vals ys its)(hz:ys.length≤sizeLine):
  Inv X pins σ (upd H s.heap.objs.size (.lst ys)) {s with heap:=s.heap.push {cls:=.type "list",data:=.seq its.toArray},toks:=t'}:=
 I.laid (fun _ _ q=>Heap.get?_push_of_some _ q) (Nat.le_refl _) ⟨hz,its,0,hv,Heap.get?_push_size _ rfl⟩
theorem Inv.fresh(I:Inv X pins σ H s):H s.heap.objs.size=none:=I.hok.fresh (Nat.le_refl _)
theorem Inv.lstM(I:Inv X pins σ H s)(hH:H l=some (.lst xs)):xs.length≤sizeLine/\∃(its:List Value) (n:Nat),Vals xs its/\xs.length=its.length/\s.heap.get? l=some {cls:=.type "list",data:=.seq its.toArray n}:=by
 obtain⟨z,its,n,r,e⟩:=I.hok l _ hH
 exact⟨z,its,n,r,r.length,e⟩
theorem Ls{n:Nat}(h:n≤sizeLine):Builtin.List.listTooLong n=false:=by
 unfold Builtin.List.listTooLong
 exact decide_eq_false (by omega)
end
section
variable{X:Cx}
def Vw:V->List V->Hp->VK->Prop:=fun x vs H Q=>∃l xs y,x=.ref l/\vs=[y]/\H l=some (.lst xs)/\xs.length<sizeLine/\Q .non (upd H l (.lst (xs++[y])))
theorem Mm:MtM X "list.append" Vw:=by
 intro pins s σ H x vs v us Q I rx rv h
 obtain⟨l,xs,y,rfl,rfl,hH,hz,q⟩:=h
 cases rx
 obtain⟨u,rfl,ru⟩:=rv.one
 obtain⟨z,its,n,r,hl,e⟩:=I.lstM hH
 refine call_meets F.slot_list_append ⟨_,e,rfl⟩ F.entry_list_append (F.args_list_append_2 _ _) (PySem.list_append l its.toArray n u (by rw[List.size_toArray];omega)) ⟨e,?_⟩
 refine⟨.non,_,I.lset (its':=its++[u]) hH e (by simp) (r.append (.cons ru .nil)) ?_,rfl,q⟩
 rw[List.length_append,List.length_singleton]
 omega
def XC:V->List V->Hp->VK->Prop:=fun x vs H Q=>∃l b xs zs,x=.ref l/\vs=[.ref b]/\H l=some (.lst xs)/\H b=some (.lst zs)/\xs.length+zs.length≤sizeLine/\Q .non (upd H l (.lst (xs++zs)))
theorem Pt:MtM X "list.extend" XC:=by
 intro pins s σ H x vs v us Q I rx rv h
 obtain⟨l,b,xs,zs,rfl,rfl,hH,hB,hz,q⟩:=h
 cases rx
 obtain⟨u,rfl,ru⟩:=rv.one
 cases ru
 obtain⟨z,its,n,r,hl,e⟩:=I.lstM hH
 obtain⟨z2,its2,n2,r2,hl2,e2⟩:=I.lstM hB
 have hsz:its.toArray.size+its2.toArray.size≤sizeLine:=by rw[List.size_toArray,List.size_toArray];omega
 have hlong:¬(!its.toArray.isEmpty && Builtin.List.listTooLong (its.toArray.size+its2.toArray.size))=true:=by
  rw[Ls hsz,Bool.and_false]
  exact Bool.false_ne_true
 refine call_meets F.slot_list_extend ⟨_,e,rfl⟩ F.entry_list_extend (F.args_list_extend_2 _ _)
  (AutoSeq1.list_extend_list_list_0 l its.toArray n b its2.toArray n2 hlong (by rw[List.size_toArray];omega) (by omega)) ⟨e,e2,?_⟩
 refine⟨.non,_,I.lset (its':=its++its2) hH e (by simp) (r.append r2) ?_,rfl,q⟩
 rw[List.length_append]
 omega
noncomputable def eR:R2:=fun x y H Q=>∃l b xs zs,x=.ref l/\y=.ref b/\H l=some (.lst xs)/\H b=some (.lst zs)/\xs.length+zs.length≤sizeLine/\∀p,H p=none->Q (.ref p) (upd H p (.lst (xs++zs)))
theorem Xq:OpR X (binaryOp .Add) eR:=by
 intro pins s σ H x y v u Q I rx ry h
 obtain⟨l,b,xs,zs,rfl,rfl,hH,hB,hz,q⟩:=h
 cases rx
 cases ry
 obtain⟨z,its,n,r,hl,e⟩:=I.lstM hH
 obtain⟨z2,its2,n2,r2,hl2,e2⟩:=I.lstM hB
 refine PySem.P.add_list e e2 ?_ (by rw[List.size_toArray,List.size_toArray];omega)
 have ea:its.toArray++its2.toArray=(its++its2).toArray:=by simp
 rw[ea]
 exact⟨.ref _,_,I.lnew (t':=s.toks) (r.append r2) (by rw[List.length_append];omega),rfl,q _ I.fresh⟩
noncomputable def fC:R2:=fun x y H Q=>∃l k xs,x=.ref l/\y=.int k/\H l=some (.lst xs)/\ -(2^63)≤k/\k<2^63/\xs.length*k.toNat≤sizeLine/\
 ∀p,H p=none->Q (.ref p) (upd H p (.lst (List.replicate k.toNat xs).flatten))
theorem len_rep{α:Type}(xs:List α)(k:Nat):(List.replicate k xs).flatten.length=k*xs.length:=by
 induction k with
 |zero=>simp
 |succ k ih=>rw[List.replicate_succ,List.flatten_cons,List.length_append,ih,Nat.succ_mul,Nat.add_comm]
theorem Xe:OpR X (binaryOp .Mult) fC:=by
  intro pins s σ H x y v u Q I rx ry h
  obtain⟨l,k,xs,rfl,rfl,hH,h1,h2,hz,q⟩:=h
  cases rx
  obtain⟨t,rfl⟩:=ry
  obtain⟨z,its,n,r,hl,e⟩:=I.lstM hH
  have hlen:its.toArray.size*k.toNat≤sizeLine:=by rw[List.size_toArray,←hl];exact hz
  have hcap:¬its.toArray.size*k.toNat>(2^63-1) / 8:=by
    have:(sizeLine:Nat)≤(2^63-1) / 8:=by decide
    omega
  have hfit:¬(!Builtin.List.listFitsIndex k)=true:=by
    rw[fitsIndex_both h1 h2]
    exact Bool.false_ne_true
  have hlong:¬Builtin.List.listTooLong (its.toArray.size*k.toNat)=true:=by
    rw[Ls hlen]
    exact Bool.false_ne_true
  have hnew:List.foldl (fun x1 x2=>x1++x2) #[] (List.replicate (if its.toArray.isEmpty=true then 0 else k.toNat) its.toArray)=(List.replicate k.toNat its).flatten.toArray:=by
    have f0:∀m:Nat,List.foldl (fun x1 x2=>x1++x2) #[] (List.replicate m its.toArray)=(List.replicate m its).flatten.toArray:=fun m=>by
      have:=foldl_rep its m []
      rw[List.nil_append]at this
      exact this
    rw[f0]
    cases its with
    |nil=>simp
    |cons a r'=>rw[if_neg (by simp)]
  refine wpAny_binaryOp_repeat_ref (T:="list") (U:="int") (by decide) ⟨_,e,rfl⟩ (fun s'=>typeIs_int s' k t) noFill_list_mul F.fills_int_mul F.slot_int_rmul repeat_list F.slot_int_index.lookup
    (call_meets F.slot_int_rmul (typeIs_int s k t) F.entry_int_rmul (F.args_int_rmul_2 _ _) (int___rmul___int_list k t l its.toArray n)
      ⟨e,rfl,⟨_,e,rfl⟩,call_meets F.slot_list_mul ⟨_,e,rfl⟩ F.entry_list_mul (F.args_list_mul_2 _ _) (AutoListH.list___mul___list_int_3 l its.toArray n k t hfit hcap hlong) ⟨e,?_⟩⟩)
  rw[hnew]
  exact⟨.ref _,_,I.lnew (t':=s.toks) (r.rep k.toNat) (by rw[len_rep,Nat.mul_comm];exact hz),rfl,q _ I.fresh⟩
end
section
variable{prog:Program}{w:World}{A:Around}{E:Value->Shared->Prop}{s:Shared}
end
section
variable{X:Cx}
end
end L2
namespace Att
open PySem PySem.W PySem.Calls PyProof.Rows
theorem ints_of_wellAll{P:Params}{h:Heap}:∀(ns:List Int) (vs:List Value),WellAll P h vs (ns.map WData.int)->IntsAre vs ns:=by
  intro ns
  induction ns with
  | nil =>
    intro vs w
    rw[List.map_nil]at w
    cases w
    exact .nil
  | cons n ns ih =>
    intro vs w
    rw[List.map_cons]at w
    cases w with
    | cons a b =>
      cases a
      exact .cons _ _ (ih _ b)
theorem script_of{l:OpenLaw}{n:Nat}(hn:l.most=some n){P:Params}{h:Heap}{args:List WData}{vals:List Value}
    (hpre:l.row.toRowW.claim.pre args=true) (hwl:WellAll P h vals args):
    ∃a vs ns,vals=[Value.ref a]/\args=[WData.list (ns.map WData.int)]/\h.get? a=some {cls:=.type "list",data:=.seq vs.toArray}/\IntsAre vs ns/\ns.length≤n:=by
  have hsh:WShape.hasAll [] args [.list .int]=true:=(pre_splitW hpre).1
  have hc:l.pre.holds [] {args:=args}=true:=(pre_splitW hpre).2
  obtain⟨d,r,rfl,h1,h2⟩:=hasAllW_cons hsh
  obtain rfl:=hasAllW_nil h2
  obtain⟨xs,rfl,h3⟩:=hasW_list h1
  obtain⟨ns,rfl⟩:=items_int h3
  have hlen:ns.length≤n:=by
    unfold OpenLaw.pre at hc
    have h4:(WTm.not (.lt (.lit (.int (n:Int))) (.len (.arg 0)))).holds [] {args:=[.list (ns.map .int)]}=true:=by
      have h4:=(holds_andW hc).1
      rw[hn]at h4
      exact h4
    have h5:=condW_of h4 (w_not (w_lt w_lit (w_len_list (w_arg rfl))))
    rw[List.length_map]at h5
    refine Nat.le_of_not_lt fun q=>?_
    have q':(n:Int)<((ns.length:Nat):Int):=by omega
    first
      |(rw[decide_eq_true q']at h5;exact absurd h5 (by decide))
      |(simp at h5;omega)
  cases hwl with
  | cons w1 w2 =>
    cases w2
    cases w1 with
    |list ho hall=>exact⟨_,_,ns,rfl,rfl,ho,ints_of_wellAll ns _ hall,hlen⟩
theorem post_true(l:OpenLaw)(args:List WData):l.row.toRowW.claim.post args (.bool true) args=true:=
 postW_of (r:=l.row.toRowW) (X:=(true==true))
  (show WShape.has [] (.bool true) .bool=true by first|rfl|decide|simp[WShape.has,WShape.arms,WShape.armsAll])
  (show(WTm.eq .res (.lit (.bool true))).value [] {args:=args,res:=some (.bool true),after:=args}=some (.bool (true==true))from w_eq_bool (w_res rfl) w_lit) rfl
theorem attach_call{l:OpenLaw}{n:Nat}{q:Program}{loose:List Str}{XP:(Str->Option Value)->Heap->Prop}{YP:World->Heap->Prop}{d:DefRec}
  (hn:l.most=some n) (hdf:d.params.defaults=[])
  (call:∀(w:World) (s₀ s₁:Shared) (mg mb:Str->Option Value) (fa:Addr) (o:Obj) (pm cd doc:Value) (a:Addr) (vs:List Value) (ns:List Int),
   Ground q loose [] XP w s₀ mg mb s₁.heap->YP w s₁.heap->
   s₁.heap.get? fa=some o->o.data=.func (docDef d.name d.params d.body d.scope pm cd doc)->s₁.heap.CodeRec cd d.name->mg d.name=some (.ref fa)->
   s₁.heap.get? a=some {cls:=.type "list",data:=.seq vs.toArray}->IntsAre vs ns->ns.length≤n->s₁.gens= #[]->
   codeAny (model l.prog w) callerA (.call (.ref fa) ⟨[.ref a],[]⟩) (fun r s'=>r=.ok (.ret (.bool true))/\OldK s₁.heap s'.heap/\s'.os=s₁.os/\AllBare s'.gens) s₁):
  WalkO q loose XP YP l.row.toRowW d [] (fun f vs=>PySem.call f vs):=by
 intro w s₀ s₁ mg mb G Y fa o pm cd doc dV kV ho hd hcd hD hmg hg args vals as hpre hlay hrd hwl hlo
 obtain rfl:dV=.none:=Dflts.none hD hdf
 obtain rfl:kV=.none:=Dflts.noKw hD
 obtain⟨a,vs,ns,rfl,rfl,hobj,hints,hlen⟩:=script_of hn hpre hwl
 refine enter_call (codeAny_mono (call w s₀ s₁ mg mb fa o pm cd doc a vs ns G Y ho (fd_plain hd) hcd hmg hobj hints hlen hg) fun r s' hq=>?_)
 obtain⟨rfl,h2,h3,h4⟩:=hq
 exact⟨.inl ⟨.bool true,.bool true,[],rfl,fun _=>rfl,.bool true,post_true l _,fun _=>⟨List.Pairwise.nil,fun _ hm=>(nomatch hm)⟩⟩,h2,h3,h4⟩
section
variable{prog:Program}{w:World}{A:Around}{E:Value->Shared->Prop}{s:Shared}{K:Frag}
end
end Att
namespace L2
open PySem PySem.Spec PyProof.Rows
theorem NN:∀{vs:List Value} {ns:List Int},IntsAre vs ns->Vals (ns.map V.int) vs
 |_,_,.nil=>.nil
 |_,_,.cons n t h=>.cons ⟨t,rfl⟩ (NN h)
def bX(H:Hp):Prop:=∀b,H b=none∨∃o xs,H b=some (.frz o (.lst xs))
theorem Ss {P : Program} {w : World} {K : PySem.W.Frag} {mg mb : Str -> Option Value} {CX : CXT} {k : Nat} {fa a : Addr} {fd : FuncData} {x : Str} {sp : Sp} {s₁ : Shared} {vs : List Value} {ns : List Int}
    (KX:K.In s₁.heap) (hns:s₁.heap.Ns mainGlobals mg) (hb:s₁.heap.Ns builtinsNs mb) (hbb:∀x:Str,x≠ "__name__"->mb x=bootBuiltins x) (hlim:s₁.heap.NoLimit) (hg:s₁.gens= #[])
    (ha:s₁.heap.get? a=some {cls:=.type "list",data:=.seq vs.toArray}) (hi:IntsAre vs ns) (hl:ns.length≤sizeLine) (hr:LH k callerA)
    (F:∀base:Heap,K.In base->base.Ns mainGlobals mg->MM P w K mg base CX k fa fd [x] sp) (hbind:∀(s:Shared) (u:Value),BindsTo s fd ⟨[u],[]⟩ [(x,u)])
    (hsp:∀H:Hp,bX H->SqL K H a (ns.map V.int)->sp [.ref a] H (fun v _=>v=.bl true) fun _ _ _=>False)
    (hCX:∀H e s',CX [] H s₁ (fun _ _ _=>False) e s'->False):
    codeAny (model P w) callerA (.call (.ref fa) ⟨[.ref a],[]⟩) (fun r s'=>r=.ok (.ret (.bool true))/\OldK s₁.heap s'.heap/\s'.os=s₁.os/\AllBare s'.gens) s₁:=by
  have rv:=NN hi
  have lenV:=hi.length
  have core : ∀ H : Hp, bX H -> SqL K H a (ns.map V.int) -> HOk P w H s₁.heap -> (∀ b, H b ≠ none -> b = a) -> (H a ≠ none -> K.lookup a = none) ->
      codeAny (model P w) callerA (.call (.ref fa) ⟨[.ref a],[]⟩) (fun r s'=>r=.ok (.ret (.bool true))/\OldK s₁.heap s'.heap/\s'.os=s₁.os/\AllBare s'.gens) s₁:=by
    intro H hO hS hok hA hK
    have base_of:∀{b:Addr} {o:Obj},s₁.heap.get? b=some o->H b=none->(To s₁.heap H).get? b=some o:=fun e n=>SR e n
    have noA:∀{b:Addr} {o:Obj} {es:Array DictEntry} {ep:Nat},s₁.heap.get? b=some o->o.data=.dict es ep->H b=none:=fun{b o es ep} e d=>by
      cases q:H b with
      |none=>rfl
      | some u =>
        have e':b=a:=hA b (by rw[q];simp)
        subst e'
        rw[ha]at e;cases e
        have d':Data.seq vs.toArray _=Data.dict es ep:=d
        cases d'
    have nsK:∀{b:Addr} {m:Str->Option Value},s₁.heap.Ns b m->(To s₁.heap H).Ns b m:=fun{b m} ⟨o,es,ep,e,d,r⟩=>⟨o,es,ep,base_of e (noA e d),d,r⟩
    have hKb:K.In (To s₁.heap H):=fun b o e=>base_of (KX b o e) (by
      cases q:H b with
      |none=>rfl
      | some u =>
        have e':b=a:=hA b (by rw[q];simp)
        subst e'
        rw[hK (by rw[q];simp)]at e;cases e)
    have hM:Mod K mg (To s₁.heap H):=⟨hKb,nsK hns,⟨mb,nsK hb,hbb⟩,let⟨mc,h1,h2⟩:=hlim;⟨mc,nsK h1,h2⟩⟩
    have e0:Zp P w K mg (To s₁.heap H) callerA [] s₁ H:=⟨rfl,hM,fun b o e=>Vl e,Nat.le_of_eq (Q0 _ _),trivial,fun b hb=>absurd (show b∈([]:List Addr)from hb) (by simp),hok,.of_eq hg⟩
    refine codeAny_mono ((F _ hKb (nsK hns)).run callerA [] s₁ H ⟨[.ref a],[]⟩ [.ref a] [.ref a] _ _ hr e0 (hbind s₁ (.ref a)) (.cons rfl .nil) (hsp H hO hS)) fun r s' h=>?_
    cases r with
    |error e=>exact(hCX H e s' h).elim
    | ok fl =>
      cases fl with
      |next=>exact False.elim h
      |brk=>exact False.elim h
      |cont=>exact False.elim h
      | ret u =>
        obtain⟨v,H',os,bare,un,hok',r',q⟩:=h
        have q':v=.bl true:=q
        subst q'
        obtain rfl:u=Value.bool true:=r'
        refine⟨rfl,OldK.of_keep fun b o e=>?_,os,bare⟩
        cases q:H b with
        |none=>exact un.keep b o e q (by intro z;exact absurd (show b∈([]:List Addr)from z) (by simp)) (by simp)
        | some u =>
          rcases hO b with z|⟨ob,xs,z⟩
          ·rw[q]at z;cases z
          · have z2 := un.frzs b ob _ z
            obtain⟨e1,_⟩:=hok b _ z
            obtain⟨e2,_⟩:=hok' b _ z2
            rw[e]at e1;cases e1
            exact e2
  cases hk:K.lookup a with
  | some o =>
    have e:=KX a o hk
    rw[ha]at e
    cases e
    refine core (fun _=>none) (fun _=>.inl rfl) (.inr ⟨_,vs.toArray,_,hk,rfl,rfl,rfl,by rw[List.size_toArray,lenV];exact hl,by simpa using rv⟩) (fun b u z=>by have z':(none:Option HO)=some u:=z;cases z') (fun b z=>absurd rfl z) fun z=>absurd rfl z
  | none =>
    refine core (fun b=>if b=a then some (.frz {cls:=.type "list",data:=.seq vs.toArray} (.lst (ns.map V.int)))else none) (fun b=>?_) (.inl (.inr ⟨{cls:=.type "list",data:=.seq vs.toArray},if_pos rfl⟩)) (fun b u z=>?_) (fun b z=>?_) fun _=>hk
    · by_cases hb : b = a
      ·exact .inr ⟨_,_,if_pos hb⟩
      ·exact .inl (if_neg hb)
    · by_cases hb : b = a
      · have z' := (if_pos hb).symm.trans z
        cases z'
        subst hb
        exact⟨ha,by rw[List.length_map];exact hl,vs,_,rv,ha⟩
      · have z' := (if_neg hb).symm.trans z
        cases z'
    · by_cases hb : b = a
      ·exact hb
      ·exact absurd (if_neg hb) z
end L2
namespace L2
open PySem PySem.Spec PyProof.Rows
abbrev KOf{K:PySem.W.Frag}{h:Heap}(_:K.In h):PySem.W.Frag:=K
theorem Ww{l:PySem.W.OpenLaw}{n k:Nat}{q:Program}{loose:List Str}{XP:(Str->Option Value)->Heap->Prop}{YP:World->Heap->Prop}{d:DefRec}{K:Params->PySem.W.Frag}{CX:World->CXT}{sp:World->Sp}{x:Str}
  (hn:l.most=some n) (hn2:n≤sizeLine) (hdf:d.params.defaults=[]) (hr:LH k callerA)
  (hY:∀(w:World) (h:Heap),YP w h->(K w.params).In h)
  (F : ∀ (w : World) (mg : Str -> Option Value) (fa : Addr) (h : Heap), (K w.params).In h -> h.Ns mainGlobals mg -> mg d.name = some (.ref fa) ->
   ∃ fd : FuncData, (∀ (s : Shared) (u : Value), BindsTo s fd ⟨[u], []⟩ [(x, u)]) /\
    ∀base:Heap,(K w.params).In base->base.Ns mainGlobals mg->MM l.prog w (K w.params) mg base (CX w) k fa fd [x] (sp w))
  (hsp:∀(w:World) (H:Hp) (a:Addr) (ns:List Int),ns.length≤n->bX H->SqL (K w.params) H a (ns.map V.int)->sp w [.ref a] H (fun v _=>v=.bl true) fun _ _ _=>False)
  (hCX:∀(w:World) (H:Hp) (s:Shared) (e:Value) (s':Shared),CX w [] H s (fun _ _ _=>False) e s'->False):
  PySem.W.WalkO q loose XP YP l.row.toRowW d [] (fun f vs=>PySem.call f vs):=by
 refine Att.attach_call hn hdf fun w s₀ s₁ mg mb fa o pm cd doc a vs ns G Y ho hd hcd hmg hobj hints hlen hg=>?_
 have KX:=hY w _ Y
 obtain⟨fd,hb,hF⟩:=F w mg fa _ KX G.T.g hmg
 exact Ss KX G.T.g G.T.b G.T.builtins G.T.nolimit hg hobj hints (Nat.le_trans hlen hn2) hr hF hb (fun H hO hS=>hsp w H a ns hlen hO hS) fun H e s'=>hCX w H s₁ e s'
end L2
namespace L2
open PySem PySem.Spec PyProof.Rows
noncomputable def JS(s:Stmt):Arguments:=match s with
 | .FunctionDef _ a _ _ _ _ _ _ _ _=>a
 |_=>{posonlyargs:=[],args:=[],vararg:=none,kwonlyargs:=[],kw_defaults:=[],kwarg:=none,defaults:=[]}
noncomputable def FL(s:Stmt):List Stmt:=match s with
 | .FunctionDef _ _ b _ _ _ _ _ _ _=>b
 |_=>[]
noncomputable def AM(s:Stmt):Scope:=match s with
 | .FunctionDef _ _ _ _ _ _ sc _ _ _=>sc
 |_=>{kind:=.function,names:=[],isGenerator:=false,isCoroutine:=false}
abbrev CX0:CXT:=fun _ _ _ _ _ _=>False
abbrev E0:XK:=fun _ _ _=>False
theorem cJ{X:Cx}:Passes CX0 X E0:=fun _ _ _ _ _ _ _ h=>h.elim
structure Fun(K:PySem.W.Frag)(x qual:Str)(st:Stmt)(f:Addr)(fd:FuncData):Prop where
 ex:∃(oc:Value) (od:Option Addr) (kV doc pm:Value) (an:Option Addr) (cdv ct:Value) (osl:Array (Option Value)),
  fd=PySem.W.fnOf x qual (JS st) (FL st) (AM st) .none kV doc pm an cdv ct/\K.lookup f=some ⟨oc,od,.func fd,osl⟩/\PySem.W.codeIn K cdv qual=true
 kp:PySem.W.keepIn K (.ref f)=true
section
variable{P:Program}{w:World}{K:PySem.W.Frag}{mg:Str->Option Value}{base:Heap}
theorem Fun.ok{x qual:Str}{st:Stmt}{f:Addr}{fd:FuncData}{N ps:List Str}{k:Nat}{sp:Sp}(F:Fun K x qual st f fd)(S:AW N ps (AM st))(len:∀vs H Q E,sp vs H Q E->vs.length=ps.length)
  (hbody:∀(cdv:Value) (A:Around) (outer:List Env) (s:Shared) (H:Hp) (vs:List V) (Q:VK) (E:XK),LH k (A.deeper (envOfC qual (AM st) s.heap.objs.size f cdv))->sp vs H Q E->
   ∃t,PSs (U2 CX0 P w K mg base N qual (AM st) f cdv A outer s H E).nox (FL st) t/\t {nx:=fun _ H'=>Q .non H',rt:=Q} (start N vs) H):MM P w K mg base CX0 (k+1) f fd ps sp:=by
 obtain⟨oc,od,kV,doc,pm,an,cdv,ct,osl,rfl,lk,hcd⟩:=F.ex
 refine ao lk hcd S len fun A outer s H vs Q E hr hsp=>?_
 obtain⟨t,h,q⟩:=hbody cdv A outer s H vs Q E hr hsp
 exact⟨t,h.nox,q⟩
theorem Fun.binds{x qual:Str}{st:Stmt}{f:Addr}{fd:FuncData}{ps:List Str}(F:Fun K x qual st f fd)
  (h:∀(kV doc pm:Value) (an:Option Addr) (cdv ct:Value) (us:List Value),us.length=ps.length->bindArgs (PySem.W.fnOf x qual (JS st) (FL st) (AM st) .none kV doc pm an cdv ct) ⟨us,[]⟩=pure (ps.zip us)):Binds K fd ps []:=by
 obtain⟨oc,od,kV,doc,pm,an,cdv,ct,osl,rfl,lk,hcd⟩:=F.ex
 exact .all (h kV doc pm an cdv ct)
theorem Yl{x qual:Str}{st:Stmt}{f:Addr}{oc:Value}{od an:Option Addr}{osl:Array (Option Value)}{kV doc pm cdv ct:Value}(l:K.lookup f=some ⟨oc,od,.func (PySem.W.fnOf x qual (JS st) (FL st) (AM st) .none kV doc pm an cdv ct),osl⟩)
  (c:PySem.W.codeIn K cdv qual=true) (k:PySem.W.keepIn K (.ref f)=true):Fun K x qual st f (PySem.W.fnOf x qual (JS st) (FL st) (AM st) .none kV doc pm an cdv ct):=⟨⟨oc,od,kV,doc,pm,an,cdv,ct,osl,rfl,l,c⟩,k⟩
end
section
variable{X:Cx}
theorem pv(i:Nat){x:Str}{pos:Pos}(hN:X.N[i]?=some x:=by rfl)(hv:Vis X.env.scope x:=by first|exact Or.inl rfl|exact Or.inr (Or.inl rfl)|exact Or.inr (Or.inr rfl))(hd:(x==("__debug__":Str))=false:=by decide)
  (hcd:(x==("__classdict__":Str))=false:=by decide):PE X (.Name x pos) (d8 i):=VJ hN hv hd hcd
end
theorem XT{A B:Prop}(h:B):if false=true then A else B:=by
 rw[if_neg Bool.false_ne_true]
 exact h
theorem XW{A B:Prop}(h:A):if true=true then A else B:=by
 rw[if_pos rfl]
 exact h
def C0(H H':Hp):Prop:=∀b o,H b=some o->H' b=some o
end L2
end
noncomputable section
namespace L2
open PySem PySem.Spec PyProof.Rows
noncomputable def FE(cells:List (Str×Addr)):List (Str×NameKind)->List (Str×Addr)->List (Str×Addr)
 | [],cs=>cs
 |(n,k)::r,cs=>if(k==NameKind.free)=true then FE cells r ((n,(cells.lookup n).getD 0)::cs)else FE cells r cs
theorem MU{env:Env}:∀(names:List (Str×NameKind)) (cs:List (Str×Addr)),(∀y∈names,y.2=.free->∃a,env.cells.lookup y.1=some a)->
    (forIn names cs fun(x:Str×NameKind) r=>match x with|(name,kind)=>if(kind==NameKind.free)=true then(do let a←cellOf env name;pure (ForInStep.yield ((name,a)::r)))else pure (ForInStep.yield r):Sem (List (Str×Addr)))=pure (FE env.cells names cs)
  | [],cs,_=>by simp[FE]
  | (n, k) :: r, cs, h => by
    rw[List.forIn_cons]
    have ih:=fun cs=>MU r cs fun y hy=>h y (List.mem_cons_of_mem _ hy)
    by_cases hk:(k==NameKind.free)=true
    · obtain ⟨a, ha⟩ := h (n, k) List.mem_cons_self (by simpa using hk)
      have ha':env.cells.lookup n=some a:=ha
      have e:cellOf env n=pure a:=by unfold cellOf;rw[ha']
      simp only[hk,if_true,e,pure_bind,FE,ha',Option.getD_some]
      exact ih _
    · simp only [hk, if_false, pure_bind, FE]
      exact ih _
theorem OD{scope:Scope}{env:Env}(h:∀y∈scope.names,y.2=.free->∃a,env.cells.lookup y.1=some a):closureFor scope env=pure (FE env.cells scope.names []):=by
 unfold closureFor
 have:=MU (env:=env) scope.names [] h
 simp only[bind_pure]at this⊢
 exact this
theorem Jp {cells : List (Str × Addr)} {x : Str} {c : Addr} : ∀ {names : List (Str × NameKind)} {cs : List (Str × Addr)}, (∀ y ∈ names, y.2 = .free -> ∃ a, cells.lookup y.1 = some a) ->
    (FE cells names cs).lookup x=some c->cs.lookup x=some c∨cells.lookup x=some c
  | [],cs,_,h=>.inl h
  | (n, k) :: r, cs, hh, h => by
    have hr:∀y∈r,y.2=.free->∃a,cells.lookup y.1=some a:=fun y hy=>hh y (List.mem_cons_of_mem _ hy)
    unfold FE at h
    by_cases hk:(k==NameKind.free)=true
    · rw [if_pos hk] at h
      rcases Jp hr h with q|q
      · obtain ⟨a, ha⟩ := hh (n, k) List.mem_cons_self (by simpa using hk)
        have ha':cells.lookup n=some a:=ha
        rw[List.lookup_cons]at q
        cases hx:x==n with
        | true =>
          rw[hx,ha']at q
          have e:x=n:=by simpa using hx
          subst e
          cases q
          exact .inr ha'
        | false =>
          rw[hx]at q
          exact .inl q
      ·exact .inr q
    · rw [if_neg hk] at h
      exact Jp hr h
theorem HF {cells : List (Str × Addr)} {x : Str} : ∀ {names : List (Str × NameKind)} {cs : List (Str × Addr)}, ((x, NameKind.free) ∈ names ∨ ∃ c, cs.lookup x = some c) -> ∃ c, (FE cells names cs).lookup x = some c
  | [],cs,h=>h.elim (fun z=>nomatch z) id
  | (n, k) :: r, cs, h => by
    unfold FE
    by_cases hk:(k==NameKind.free)=true
    · rw [if_pos hk]
      refine HF ?_
      by_cases hx:x=n
      · subst hx
        exact .inr ⟨_,by rw[List.lookup_cons,beq_self_eq_true]⟩
      · rcases h with h | ⟨c, h⟩
        · rcases List.mem_cons.mp h with e | e
          ·cases e;exact absurd rfl hx
          ·exact .inl e
        · refine .inr ⟨c, ?_⟩
          rw[List.lookup_cons,show(x==n)=false by simpa using hx]
          exact h
    · rw [if_neg hk]
      refine HF ?_
      rcases h with h|h
      · rcases List.mem_cons.mp h with e | e
        ·cases e;exact absurd rfl hk
        ·exact .inl e
      ·exact .inr h
theorem IS{env:Env}{x:Str}:∀{names:List (Str×NameKind)},names.lookup x=some .free->
    (names.map fun(n,k)=>if(k==NameKind.free && env.scope.kind== .function && env.kindOf n==some .cell)then(n,NameKind.cell)else(n,k)).lookup x=some .cell∨
    (names.map fun(n,k)=>if(k==NameKind.free && env.scope.kind== .function && env.kindOf n==some .cell)then(n,NameKind.cell)else(n,k)).lookup x=some .free
  | [],h=>by simp at h
  | (n, k) :: r, h => by
    have ih:= @IS env x r
    show List.lookup x ((if(k==NameKind.free && env.scope.kind== .function && env.kindOf n==some .cell)=true then(n,NameKind.cell)else(n,k))::_)=_∨List.lookup x ((if(k==NameKind.free && env.scope.kind== .function && env.kindOf n==some .cell)=true then(n,NameKind.cell)else(n,k))::_)=_
    cases hx:x==n with
    | true =>
      simp only[List.lookup_cons,hx]at h
      cases h
      by_cases hc:(NameKind.free==NameKind.free && env.scope.kind== .function && env.kindOf n==some .cell)=true
      ·rw[if_pos hc];simp only[List.lookup_cons,hx];exact .inl trivial
      ·rw[if_neg hc];simp only[List.lookup_cons,hx];exact .inr trivial
    | false =>
      simp only[List.lookup_cons,hx]at h
      by_cases hc:(k==NameKind.free && env.scope.kind== .function && env.kindOf n==some .cell)=true
      ·rw[if_pos hc];simp only[List.lookup_cons,hx];exact ih h
      ·rw[if_neg hc];simp only[List.lookup_cons,hx];exact ih h
theorem JX{env:Env}{scope:Scope}{x:Str}{k':NameKind}(hk:k'=.cell∨k'=.free)(h:(relabel scope env).names.lookup x=some k'):(x,NameKind.free)∈scope.names∨(x,NameKind.cell)∈scope.names:=by
 have hm:=PySem.mem_of_lookup h
 obtain⟨⟨n,k⟩,hy,e⟩:=List.mem_map.mp (show(x,k')∈scope.names.map _ from hm)
 by_cases hc:(k==NameKind.free && env.scope.kind== .function && env.kindOf n==some .cell)=true
 ·simp only[hc,if_true]at e
  cases e
  have:k=.free:=by
   have:=((Bool.and_eq_true _ _).mp hc).1
   exact beq_iff_eq.mp ((Bool.and_eq_true _ _).mp this).1
  subst this
  exact .inl hy
 ·simp only[hc,if_false]at e
  cases e
  rcases hk with rfl|rfl
  ·exact .inr hy
  ·exact .inl hy
theorem Bs:∀(names:List (Str×NameKind)) (n:Nat) (cs:List (Str×Addr)),cellsFrom n names cs=cellsFrom n names []++cs
  | [],_,_=>rfl
  | (x, k) :: r, n, cs => by
    unfold cellsFrom
    split
    ·rw[Bs r _ ((x,n)::cs),Bs r _ [(x,n)]];simp
    ·exact Bs r n cs
theorem FH{x:Str}{c:Addr}:∀{names:List (Str×NameKind)} {n:Nat},(x,c)∈cellsFrom n names []->(x,NameKind.cell)∈names
  | [],_,h=>nomatch h
  | (y, k) :: r, n, h => by
    unfold cellsFrom at h
    split at h
    · rename_i hk
      rw[Bs]at h
      rcases List.mem_append.mp h with z|z
      ·exact List.mem_cons_of_mem _ (FH z)
      · have e := List.mem_singleton.mp z
        cases e
        rw[beq_iff_eq.mp hk]
        exact List.mem_cons_self
    ·exact List.mem_cons_of_mem _ (FH h)
theorem Hn{M:Model}{A:Around}{E:Value->Shared->Prop}{s:Shared}{scope:Scope}{globals:Addr}{cl:List (Str×Addr)}{qual:Str}{env:Env}{Q:Env->Shared->Prop}
  (hQ:∀h':Heap,h'.Ns s.heap.objs.size (fun _=>none)->(∀b o,s.heap.get? b=some o->h'.get? b=some o)->CellsOk h' (s.heap.objs.size+1) (cellsFrom (s.heap.objs.size+1) scope.names [])->
   Q (newEnv scope s.heap.objs.size globals (cellsFrom (s.heap.objs.size+1) scope.names cl) qual none .none (some env) builtinsNs) {s with heap:=h'}):
  wpAny M A (newFunctionEnv scope globals cl [] qual none .none (some env)) Q E s:=by
 simp only[newFunctionEnv,Option.isSome_some,if_true]
 refine wpAny_bind (wpAny_alloc ?_)
 refine wpAny_bind (wpAny_layCells _ (fun name kind cells=>by cases hkc:kind==NameKind.cell<;>simp[hkc]) _ _ _ _ ?_)
 have ok:=cellsFrom_ok scope.names (s.heap.push {cls:=.type "dict",data:=.dict #[]}) (s.heap.objs.size+1) [] ⟨fun _ _ hm=>(nomatch hm),List.Pairwise.nil⟩ (by rw[Heap.size_push];exact Nat.le_refl _)
 rw[Heap.size_push]at ok
 rw[show({s with heap:=s.heap.push {cls:=.type "dict",data:=.dict #[]}}:Shared).heap.objs.size=s.heap.objs.size+1 from Heap.size_push ..]
 rw[List.forIn_nil]
 refine wpAny_bind (wpAny_pure (wpAny_pure ?_))
 exact hQ _ ((Heap.Ns.new s.heap (.type "dict")).keeps (pushCells_keeps _ _)) (fun b o e=>pushCells_keeps _ _ b o (Heap.get?_push_of_some _ e)) ok
end L2
end
noncomputable section
namespace L2
open PySem PySem.Spec PyProof.Rows
noncomputable def PD(N:List Str)(osc scope:Scope):List Str->List (Option Nat)->Bool
 | [],[]=>true
 |_::r,none::q=>PD N osc scope r q
 |x::r,some i::q=>decide (N[i]?=some x) && (decide (osc.names.lookup x=some .cell)||decide (osc.names.lookup x=some .free)) && decide (scope.names.lookup x=some .free) && PD N osc scope r q
 |_,_=>false
theorem Q3{N:List Str}{osc scope:Scope}:∀{N':List Str} {ix:List (Option Nat)},PD N osc scope N' ix=true->ix.length=N'.length
  | [],[],_=>rfl
  | _ :: r, none :: q, h => by
    unfold PD at h
    simp[Q3 h]
  | x :: r, some i :: q, h => by
    unfold PD at h
    have:=((Bool.and_eq_true _ _).mp h).2
    simp[Q3 this]
  | [],_::_,h=>by simp[PD]at h
  |_::_,[],h=>by simp[PD]at h
theorem W7{N:List Str}{osc scope:Scope}:∀{N':List Str} {ix:List (Option Nat)},PD N osc scope N' ix=true->∀{j i:Nat} {x:Str},N'[j]?=some x->ix[j]?=some (some i)->
    N[i]?=some x/\(osc.names.lookup x=some .cell∨osc.names.lookup x=some .free)/\scope.names.lookup x=some .free
  | [],[],_,j,_,_,h,_=>by simp at h
  | _ :: r, none :: q, h, j, i, x, h1, h2 => by
    unfold PD at h
    cases j with
    |zero=>simp at h2
    |succ j=>exact W7 h (by simpa using h1) (by simpa using h2)
  | y :: r, some k :: q, h, j, i, x, h1, h2 => by
    unfold PD at h
    obtain⟨ha,hr⟩:=(Bool.and_eq_true _ _).mp h
    obtain⟨ha,h3⟩:=(Bool.and_eq_true _ _).mp ha
    obtain⟨h4,h5⟩:=(Bool.and_eq_true _ _).mp ha
    cases j with
    | zero =>
      simp at h1 h2
      subst h1 h2
      refine⟨of_decide_eq_true h4,?_,of_decide_eq_true h3⟩
      rcases(Bool.or_eq_true _ _).mp h5 with z|z
      ·exact .inl (of_decide_eq_true z)
      ·exact .inr (of_decide_eq_true z)
    |succ j=>exact W7 hr (by simpa using h1) (by simpa using h2)
  | [],_::_,h,_,_,_,_,_=>by simp[PD]at h
  |_::_,[],h,_,_,_,_,_=>by simp[PD]at h
structure Ah(N:List Str)(osc:Scope)(N':List Str)(ix:List (Option Nat))(scope:Scope):Prop where
 kind:scope.kind=.function
 cells:∀y∈scope.names,y.2=.cell->scope.names.lookup y.1=some .cell
 names:∀y∈scope.names,y.2=.local->scope.names.lookup y.1=some .local
 free:∀y∈scope.names,y.2=.free->(osc.names.lookup y.1=some .cell∨osc.names.lookup y.1=some .free)
 ok:PD N osc scope N' ix=true
noncomputable def sig(ix:List (Option Nat))(σ:St):St:=ix.map fun o=>o.bind fun i=>(σ[i]?).join
noncomputable def F7(X:Cx)(N':List Str)(scope:Scope)(s:Shared)(H:Hp)(fp:List Addr):Cx where
 prog:=X.prog
 w:=X.w
 K:=X.K
 mg:=X.mg
 base:=X.base
 A:=X.A
 N:=N'
 s₀:=s
 H₀:=H
 env:=compEnvC scope (cellsFrom (s.heap.objs.size+1) scope.names (FE X.env.cells scope.names [])) s.heap.objs.size X.env
 outer:=X.stack
 stack:=X.stack
 ex:=fp
 fn:=fun x=>decide (scope.names.lookup x=some .cell)
 calm:=true
 pn:=[]
 xe:=fun _ _=>False
section
variable{X:Cx}{pins:List (Addr×Obj)}{σ:St}{H:Hp}{s:Shared}{N':List Str}{ix:List (Option Nat)}{scope:Scope}{fp:List Addr}
theorem Inv.cellsOf(I:Inv X pins σ H s)(S:Ah X.N X.env.scope N' ix scope):∀y∈scope.names,y.2=.free->∃a,X.env.cells.lookup y.1=some a:=fun y hy hk=>I.ok.has y.1 (S.free y hy hk)
theorem Ts (S : Ah X.N X.env.scope N' ix scope) (hc : X.calm = true) (I : Inv X pins σ H s) (hf : ∀ b ∈ fp, N8 X pins H b) (hlt : ∀ b ∈ fp, b < s.heap.objs.size) {h1 : Heap} {m1 : Str -> Option Value} {tk : Nat}
    (hn:h1.Ns s.heap.objs.size m1) (hk:∀b o,s.heap.get? b=some o->h1.get? b=some o) (hC:CellsOk h1 (s.heap.objs.size+1) (cellsFrom (s.heap.objs.size+1) scope.names [])):
    Inv (F7 X N' scope s H fp) [] (sig ix σ) H {s with heap:=h1,toks:=tk}:=by
  have hcl:=I.cellsOf S
  have sub:∀{x:Str} {c:Addr},(FE X.env.cells scope.names []).lookup x=some c->X.env.cells.lookup x=some c:=fun{x c} h=>by
    rcases Jp hcl h with z|z
    ·simp at z
    ·exact z
  have old:∀{x:Str} {c:Addr},X.env.cells.lookup x=some c->c<s.heap.objs.size:=fun{x c} h=>by
    obtain⟨v,oc,ho,_⟩:=I.cell x c h
    exact Heap.lt_size ho
  have look:∀{x:Str} {c:Addr},(cellsFrom (s.heap.objs.size+1) scope.names (FE X.env.cells scope.names [])).lookup x=some c->(x,c)∈cellsFrom (s.heap.objs.size+1) scope.names []∨X.env.cells.lookup x=some c:=fun{x c} h=>by
    rw[Bs,List.lookup_append]at h
    cases e:(cellsFrom (s.heap.objs.size+1) scope.names []).lookup x with
    |some a=>rw[e]at h;cases h;exact .inl (PySem.mem_of_lookup e)
    |none=>rw[e]at h;exact .inr (sub h)
  refine⟨⟨I.ok.mod,S.kind,I.ok.glob,I.ok.blt,Nat.le_refl _,fun x y c h1 h2=>?_,fun x hx=>?_,fun x c hx h=>?_,fun _=>I.ok.hd hc,I.ok.frames,.inl rfl,fun b hb=>?_,I.bs,Nat.le_trans I.ok.bsz I.sz,fun b o e hb=>?_,fun b hb hs=>?_,I.stack,I.stkFree⟩,
    rfl,I.bare,Un.kept hk,⟨m1,hn,fun j x v h1 h2 h3=>?_⟩,fun x c h=>?_,I.hok.fresh (Nat.le_refl _),fun x c h=>?_,fun p hp=>absurd (show p∈([]:List (Addr×Obj))from hp) (by simp),I.hok.kept hk,?_⟩
  · -- inj
    rcases look h1 with a|a<;>rcases look h2 with b|b
    ·exact name_of_addr hC.apart a b
    ·exact absurd (Nat.lt_of_lt_of_le (old b) (Nat.le_of_succ_le (hC.empty _ _ a).2)) (Nat.lt_irrefl _)
    ·exact absurd (Nat.lt_of_lt_of_le (old a) (Nat.le_of_succ_le (hC.empty _ _ b).2)) (Nat.lt_irrefl _)
    ·exact I.ok.inj x y c a b
  · -- has
    have hx':(relabel scope X.env).names.lookup x=some .cell∨(relabel scope X.env).names.lookup x=some .free:=hx
    show∃c,(cellsFrom (s.heap.objs.size+1) scope.names (FE X.env.cells scope.names [])).lookup x=some c
    rw[Bs,List.lookup_append]
    cases e:(cellsFrom (s.heap.objs.size+1) scope.names []).lookup x with
    |some a=>exact⟨a,rfl⟩
    | none =>
      rcases(hx'.elim (JX (.inl rfl)) (JX (.inr rfl)))with z|z
      ·exact HF (.inl z)
      · obtain ⟨c, hc⟩ := JI (n := s.heap.objs.size + 1) (S.cells _ z rfl)
        rw[e]at hc;cases hc
  · -- cab
    obtain⟨c',hc'⟩:=JI (n:=s.heap.objs.size+1) (of_decide_eq_true hx)
    have h:(cellsFrom (s.heap.objs.size+1) scope.names (FE X.env.cells scope.names [])).lookup x=some c:=h
    rw[Bs,List.lookup_append,hc']at h
    cases h
    exact Nat.le_of_succ_le (hC.empty _ _ (PySem.mem_of_lookup hc')).2
  · -- exf
    refine⟨Nat.ne_of_lt (hlt b hb),fun x c h=>?_⟩
    rcases look h with a|a
    ·exact fun e=>absurd (Nat.lt_of_lt_of_le (e▸hlt b hb) (Nat.le_of_succ_le (hC.empty _ _ a).2)) (Nat.lt_irrefl _)
    ·exact(hf b hb).2.2.2.2.1 x c a
  · -- noex
    rcases(hf b hb).2.2.2.1 with z|z
    ·exact I.ok.noex b o e z
    ·exact absurd (Nat.lt_of_lt_of_le (Heap.lt_size (I.ok.bs b o e).1) z) (Nat.lt_irrefl _)
  · -- exfs
    rcases List.mem_cons.mp (I.stkSub b hs)with z|z
    ·exact(hf b hb).2.1 z
    ·exact(hf b hb).2.2.1 z
  · -- loc
    unfold sig at h2
    rw[List.getElem?_map]at h2
    cases e:ix[j]? with
    |none=>rw[e]at h2;cases h2
    | some o =>
      rw[e]at h2
      cases o with
      |none=>cases h2
      | some i =>
        have h2':(σ[i]?).join=some v:=by simpa using h2
        have h4:σ[i]?=some (some v):=by
          cases e4:σ[i]? with
          |none=>rw[e4]at h2';cases h2'
          |some q=>rw[e4]at h2';exact congrArg some h2'
        obtain⟨q1,q2,q3⟩:=W7 S.ok h1 e
        obtain⟨m,_,hl⟩:=I.loc
        obtain⟨u,r,l⟩:=hl i x v q1 h4 (q2.elim (fun z=>.inr (.inl z)) fun z=>.inr (.inr z))
        refine⟨u,r,?_⟩
        rcases l with⟨l,_⟩|⟨_,c,lc,z⟩
        · have l' : X.env.scope.names.lookup x = some .local := l
          rcases q2 with z|z<;>(rw[z]at l';cases l')
        · refine .inr ⟨IS q3, ?_⟩
          obtain⟨c',hc'⟩:=HF (cells:=X.env.cells) (cs:=[]) (.inl (PySem.mem_of_lookup q3))
          have ec:=sub hc'
          rw[lc]at ec
          cases ec
          have no:(cellsFrom (s.heap.objs.size+1) scope.names []).lookup x=none:=by
            cases e:(cellsFrom (s.heap.objs.size+1) scope.names []).lookup x with
            |none=>rfl
            | some a =>
              have q:=S.cells _ (FH (PySem.mem_of_lookup e)) rfl
              rw[q3]at q;cases q
          refine⟨c,(by show(cellsFrom (s.heap.objs.size+1) scope.names (FE X.env.cells scope.names [])).lookup x=some c;rw[Bs,List.lookup_append,no];exact hc'),?_⟩
          obtain⟨oc,ho,hd⟩:=z
          exact⟨oc,hk _ _ ho,hd⟩
  · rcases look h with a | a
    ·exact⟨_,(hC.empty _ _ a).1⟩
    · obtain ⟨v, oc, ho, hd⟩ := I.cell x c a
      exact⟨v,oc,hk _ _ ho,hd⟩
  · rcases look h with a | a
    ·exact I.hok.fresh (Nat.le_of_succ_le (hC.empty _ _ a).2)
    ·exact I.freeC x c a
  · show (sig ix σ).length = N'.length
    unfold sig
    rw[List.length_map]
    exact Q3 S.ok
end
end L2
end
noncomputable section
namespace L2
open PySem PySem.Spec PyProof.Rows
def PTs(X:Cx)(ifs:List Expr)(t:TT):Prop:=
 ∀ (pins : List (Addr × Obj)) (s : Shared) (σ : St) (H : Hp) (Q : Bool -> Hp -> Prop), Inv X pins σ H s -> t σ H Q ->
  wpAny (model X.prog X.w) X.A (forIn ifs true fun c r=>if r=true then do let ok←isTrue c X.env (eval c X.env);pure (ForInStep.yield ok)else pure (ForInStep.yield r)) (TP X pins σ Q) X.xe s
noncomputable def bU:TT:=fun _ H Q=>Q true H
theorem WY{X:Cx}:PTs X [] bU:=fun _ _ _ H _ I h=>wpAny_tests_nil ⟨H,I,h⟩
theorem Wb{X:Cx}{c:Expr}{t:TT}(h:PT X c t):PTs X [c] t:=fun pins s σ H Q I q=>wpAny_tests_one (h pins s σ H Q I q)
theorem UN{α:Type}{M:Model}{A:Around}{t:Sem α}{Q:α->Shared->Prop}{E:Value->Shared->Prop}{s:Shared}(h:wpAny M A t Q (fun _ _=>False) s):wpAny M A t Q E s:=wpAny_mono h (fun _ _ q=>q) fun _ _ f=>f.elim
def Yb(ix:List (Option Nat))(g:TG)(tc:TT)(te:TE)(J:It)(σ:St)(H:Hp)(Q:VK):Prop:=
 ∀ D, H D = none -> ∃ W : Nat -> Nat -> St -> Hp -> List V -> Prop, (∃ m, W 0 m (sig ix σ) (upd H D (.lst [])) []) /\ ∀ i m σ H ys, W i m σ H ys -> H D = some (.lst ys) /\
  ((J.stop i H/\Q (.ref D) H)∨(J.go i H/\ys.length<sizeLine/\∀x H',J.yld i H x H'->g x σ H' fun σ2 H2=>tc σ2 H2 fun b H3=>
   if b=true then te σ2 H3 fun y H4=>H4 D=some (.lst ys)/\∃m',m'<m/\W (i+1) m' σ2 (upd H4 D (.lst (ys++[y]))) (ys++[y])else∃m',m'<m/\W (i+1) m' σ2 H3 ys))
noncomputable def Vf(ix:List (Option Nat))(wi:TI)(g:TG)(tc:TT)(te:TE):TE:=fun σ H Q=>wi σ H fun J H1=>Yb ix g tc te J σ H1 Q
section
variable{X:Cx}{pins:List (Addr×Obj)}{σ:St}{s₂:Shared}{N':List Str}{ix:List (Option Nat)}{scope:Scope}{elt tg iter:Expr}{ifs:List Expr}{pos:Pos}{g:TG}{tc:TT}{te:TE}
def Block(X:Cx)(N':List Str)(scope:Scope)(tg:Expr)(ifs:List Expr)(elt:Expr)(g:TG)(tc:TT)(te:TE):Prop:=
 ∀(s:Shared) (H:Hp) (fp:List Addr),PG (F7 X N' scope s H fp) tg g/\PTs (F7 X N' scope s H fp) ifs tc/\PE (F7 X N' scope s H fp) elt te
theorem Po{X':Cx}{it:Addr}{fp:List Addr}{tn:Nat->Heap->Prop}{J:It}{D:Addr}{Q:VK}{R:Result->Shared->Prop}{W:Nat->Nat->St->Hp->List V->Prop}{s:Shared}{e:Env}{n:Nat}
    (he:X'.env=e) (hx:X'.xe=fun _ _=>False) (hcm:X'.calm=true) (T:Turn X'.prog X'.w X'.K tg J fp it tn) (hfp:∀H:Hp,(∀b∈fp,H b=none)->∀b∈fp,N8 X' [] H b)
    (hg:PG X' tg g) (ht:PTs X' ifs tc) (hb:PE X' elt te)
    (turn:∀i m σ H ys,W i m σ H ys->H D=some (.lst ys)/\
      ((J.stop i H/\Q (.ref D) H)∨(J.go i H/\ys.length<sizeLine/\∀x H',J.yld i H x H'->g x σ H' fun σ2 H2=>tc σ2 H2 fun b H3=>
        if b=true then te σ2 H3 fun y H4=>H4 D=some (.lst ys)/\∃m',m'<m/\W (i+1) m' σ2 (upd H4 D (.lst (ys++[y]))) (ys++[y])else∃m',m'<m/\W (i+1) m' σ2 H3 ys)))
    (hR:∀s' σ' H',Inv X' [] σ' H' s'->Q (.ref D) H'->R (.ok .next) s')
    (h0:∃i σ' H' ys,Inv X' [] σ' H' s/\tn i s.heap/\(∀b∈fp,H' b=none)/\W i n σ' H' ys):
    codeAny (model X'.prog X'.w) X'.A (.compLoop (.ListComp elt [⟨tg,iter,ifs,0⟩] scope pos) 0 (.ref it) (.ref D) e) R s:=by
  subst he
  refine codeAny_loop rfl (fun n s=>∃i σ' H' ys,Inv X' [] σ' H' s/\tn i s.heap/\(∀b∈fp,H' b=none)/\W i n σ' H' ys) (fun n s3 hI=>?_) n h0
  show wpAny _ X'.A ((compTurn (.ListComp elt [⟨tg,iter,ifs,0⟩] scope pos) 0 (.ref it) (.ref D) X'.env).onRaise (fun x=>do noteFrame x X'.env;theTreesLotGoes x)) _ _ s3
  refine wpAny_noted (UN ?_)
  rw[compTurn_list]
  obtain⟨i,σ3,H3,ys,I3,st3,fr3,w3⟩:=hI
  obtain⟨hD,alt⟩:=turn i n σ3 H3 ys w3
  rcases alt with⟨stop,q⟩|⟨go,hlen,step⟩
  · refine wpAny_bind (wpAny_standAt (wpAny_bind (thn (T.done X' rfl rfl rfl hcm i [] s3 σ3 H3 _ I3 (hfp H3 fr3) st3 stop) fun r s4 ⟨hr, I4⟩ => ?_)))
    subst hr
    exact wpAny_pure (hR s4 σ3 H3 I4 q)
  · refine wpAny_bind (wpAny_standAt (wpAny_bind (thn (T.item X' rfl rfl rfl hcm i [] s3 σ3 H3 _ I3 (hfp H3 fr3) st3 go) fun r s4 ⟨u, hr, h4⟩ => ?_)))
    subst hr
    refine wpAny_bind (thn h4 fun _ s5 ⟨x,H5,I5,r5,y5,st5,fr5⟩=>?_)
    have I5':=I5.pinned (hfp H5 fr5) (T.obj _ _ st5)
    have hg':=hg _ s5 σ3 H5 x u _ I5' r5 (step x H5 y5)
    rw[hx]at hg'
    refine wpAny_bind (thn hg' fun _ s6 ⟨σ6,H6,I6,q6⟩=>?_)
    have ht':=ht _ s6 σ6 H6 _ I6 q6
    rw[hx]at ht'
    refine wpAny_bind (thn ht' fun ok s7 ⟨H7,I7,q7⟩=>?_)
    have again:∀{s8:Shared} {H8:Hp} {zs:List V} {m':Nat},Inv X' ([]++ND fp s5.heap) σ6 H8 s8->m'<n->W (i+1) m' σ6 H8 zs->∃m,m<n/\∃i σ' H' ys,Inv X' [] σ' H' s8/\tn i s8.heap/\(∀b∈fp,H' b=none)/\W i m σ' H' ys:=fun{s8 H8 zs m'} I8 hm w8=>by
      refine⟨m',hm,i+1,σ6,H8,zs,I8.unpinned,T.keep _ _ _ st5 fun b hb o e=>(I8.pin (b,o) (List.mem_append_right _ (List.mem_append_right _ (GQ hb e)))).1,fun b hb=>?_,w8⟩
      obtain⟨o,e,d⟩:=T.obj _ _ st5 b hb
      exact(I8.pin (b,o) (List.mem_append_right _ (List.mem_append_right _ (GQ hb e)))).2.1
    cases ok with
    | false =>
      rw[if_neg (by decide)]at q7
      obtain⟨m',hm,w7⟩:=q7
      exact wpAny_pure ⟨rfl,again I7 hm w7⟩
    | true =>
      rw[if_pos rfl]at q7
      have hb':=hb _ s7 σ6 H7 _ I7 q7
      rw[hx]at hb'
      refine wpAny_bind (wpAny_bind (thn hb' fun v s8 ⟨y,H8,I8,r8,hD8,m',hm,w8⟩=>?_))
      have ha:=Mm (X:=X') _ s8 σ6 H8 (.ref D) [y] (.ref D) [v] (fun _ H9=>H9=upd H8 D (.lst (ys++[y]))) I8 rfl (.cons r8 .nil) ⟨D,ys,y,rfl,rfl,hD8,hlen,rfl⟩
      rw[hx]at ha
      refine wpAny_bind (thn ha fun _ s9 ⟨_,H9,I9,_,e9⟩=>?_)
      subst e9
      exact wpAny_pure (wpAny_pure ⟨rfl,again I9 hm w8⟩)
theorem Oh(hc:X.calm=true)(S:Ah X.N X.env.scope N' ix scope)(hb:Block X N' scope tg ifs elt g tc te){it:Addr}{fp:List Addr}{tn:Nat->Heap->Prop}{J:It}{H₂:Hp}{Q:VK}{E:Value->Shared->Prop}
  {RR:Value->Addr->Result->Shared->Prop} (I2:Inv X pins σ H₂ s₂) (T:Turn X.prog X.w X.K tg J fp it tn) (st2:tn 0 s₂.heap) (f2:∀b∈fp,N8 X pins H₂ b) (hW:Yb ix g tc te J σ H₂ Q)
  (hRR:∀D C H' s',Inv X pins σ H' s'->(∃m,s'.heap.Ns C m)->N8 X pins H' C->Q (.ref D) H'->RR (.ref D) C (.ok .next) s'):
  wpAny (model X.prog X.w) X.A (newList []) (fun acc s₃=>wpAny (model X.prog X.w) X.A (newFunctionEnv scope X.env.globals (FE X.env.cells scope.names []) [] X.env.qual none .none (some X.env)) (fun cenv s₄=>
   codeAny (model X.prog X.w) X.A (.compStart (.ListComp elt [⟨tg,iter,ifs,0⟩] scope pos) 0 (.ref it) acc {cenv with scope:=relabel scope X.env}) (RR acc cenv.locals) s₄) E s₃) E s₂:=by
 have hD0:H₂ s₂.heap.objs.size=none:=I2.hok.fresh (Nat.le_refl _)
 have hlt2:∀b∈fp,b<s₂.heap.objs.size:=fun b hb=>by
  obtain⟨o,e,_⟩:=T.obj _ _ st2 b hb
  exact Heap.lt_size e
 refine wpAny_newObj_type (Hn (fun h₁ hns₁ hsb₁ hcl₁=>?_))
 have I3:Inv X pins σ (upd H₂ s₂.heap.objs.size (.lst [])) {s₂ with heap:=s₂.heap.push {cls:=.type "list",dict:=none,data:=.seq ([]:List Value).toArray}}:=
  I2.laid (t':=s₂.toks) (fun b u e=>Heap.get?_push_of_some _ e) (Nat.le_refl _) ⟨Nat.zero_le _,[],0,.nil,Heap.get?_push_size _ rfl⟩
 have f3:∀b∈fp,N8 X pins (upd H₂ s₂.heap.objs.size (.lst [])) b:=fun b hb=>⟨by rw[Al (Nat.ne_of_lt (hlt2 b hb))];exact(f2 b hb).1,(f2 b hb).2⟩
 have k3:∀b o,s₂.heap.get? b=some o->(s₂.heap.push {cls:=.type "list",dict:=none,data:=.seq ([]:List Value).toArray}).get? b=some o:=fun b o e=>Heap.get?_push_of_some _ e
 dsimp only at hns₁ hsb₁ hcl₁⊢
 generalize hs3:({s₂ with heap:=s₂.heap.push {cls:=.type "list",dict:=none,data:=.seq ([]:List Value).toArray}}:Shared)=s₃ at I3
 have eh:s₂.heap.push {cls:=.type "list",dict:=none,data:=.seq ([]:List Value).toArray}=s₃.heap:=by rw[←hs3]
 have et:s₂.toks=s₃.toks:=by rw[←hs3]
 have es:∀(h:Heap) (t:Nat),({s₂ with heap:=h,toks:=t}:Shared)={s₃ with heap:=h,toks:=t}:=fun h t=>by rw[←hs3]
 rw[eh]at hns₁ hsb₁ hcl₁ k3⊢
 have hlt3:∀b∈fp,b<s₃.heap.objs.size:=fun b hb=>by
  obtain⟨o,e,_⟩:=T.obj _ _ st2 b hb
  exact Heap.lt_size (k3 b o e)
 have k4:∀b o,s₃.heap.get? b=some o->h₁.get? b=some o:=hsb₁
 obtain⟨W,⟨m0,w0⟩,turn⟩:=hW _ hD0
 have I4:∀tk,Inv (F7 X N' scope s₃ (upd H₂ s₂.heap.objs.size (.lst [])) fp) [] (sig ix σ) (upd H₂ s₂.heap.objs.size (.lst [])) {s₃ with heap:=h₁,toks:=tk}:=fun tk=>Ts S hc I3 f3 hlt3 hns₁ k4 hcl₁
 have st4:tn 0 h₁:=T.keep _ _ _ st2 fun b hb o e=>k4 b o (k3 b o e)
 obtain⟨bg,bt,be⟩:=hb s₃ (upd H₂ s₂.heap.objs.size (.lst [])) fp
 have noX:∀(H:Hp),(∀b∈fp,H b=none)->∀b∈fp,N8 (F7 X N' scope s₃ (upd H₂ s₂.heap.objs.size (.lst [])) fp) [] H b:=fun H hn b hb=>by
  obtain⟨_,h2,h3⟩:=f3 b hb
  refine⟨hn b hb,Nat.ne_of_lt (hlt3 b hb),fun hs=>(I4 0).ok.exfs b hb hs,.inl hb,fun x c h=>?_,fun p hp=>absurd (show p∈([]:List (Addr×Obj))from hp) (by simp)⟩
  exact((I4 0).ok.exf b hb).2 x c h
 have fin:∀(s':Shared) (σ':St) (H':Hp),Inv (F7 X N' scope s₃ (upd H₂ s₂.heap.objs.size (.lst [])) fp) [] σ' H' s'->Q (.ref s₂.heap.objs.size) H'->RR (.ref s₂.heap.objs.size) s₃.heap.objs.size (.ok .next) s':=fun s' σ' H' I' q=>by
  refine hRR _ _ H' s' ?_ (let⟨m,hn,_⟩:=I'.loc;⟨m,hn⟩) (I3.fpOk (Nat.le_refl _) I'.free) q
  exact I3.call' I'.os I'.base I'.hok I'.bare fun b hb=>⟨(f3 b hb).2.2.2.1,(f3 b hb).2.1,(f3 b hb).2.2.2.2.1,(f3 b hb).2.2.2.2.2⟩
 have loop:∀tk,codeAny (model X.prog X.w) X.A (.compLoop (.ListComp elt [⟨tg,iter,ifs,0⟩] scope pos) 0 (.ref it) (.ref s₂.heap.objs.size) (compEnvC scope (cellsFrom (s₃.heap.objs.size+1) scope.names (FE X.env.cells scope.names [])) s₃.heap.objs.size X.env)) (RR (.ref s₂.heap.objs.size) s₃.heap.objs.size) {s₃ with heap:=h₁,toks:=tk}:=fun tk=>
  Po (X':=F7 X N' scope s₃ (upd H₂ s₂.heap.objs.size (.lst [])) fp) (D:=s₂.heap.objs.size) (Q:=Q) (W:=W) rfl rfl rfl T noX bg bt be turn fin ⟨0,_,_,_,I4 tk,st4,fun b hb=>(f3 b hb).1,w0⟩
 rw[es]
 exact codeAny_compStart_list (loop _) (T.self _ 0 _ _ _ st4 (loop _))
theorem Wy{wi:TI}(hc:X.calm=true)(S:Ah X.N X.env.scope N' ix scope)(hi:PI X tg iter wi)(hb:Block X N' scope tg ifs elt g tc te)(hs:∀x,foldedSetIterable iter X.env x=pure x:=by intro _;rfl):
  PE X (.ListComp elt [⟨tg,iter,ifs,0⟩] scope pos) (Vf ix wi g tc te):=by
 intro pins s σ H Q I h
 rw[eval_ListComp]
 refine wpAny_comprehension_free (use:=none) rfl hs (OD (I.cellsOf S)) S.kind S.names (thn (hi pins s σ H _ I h) fun v s1 h1=>thn h1 fun itv s2 h2=>?_)
 obtain⟨it,fp,tn,J,H2,e,I2,T,st2,f2,hW⟩:=h2
 subst e
 refine Oh (RR:=fun acc C=>compPost (model X.prog X.w) X.A X.xe none (EP X pins σ Q) acc C) hc S hb I2 T st2 f2 hW ?_
 intro D C H' s' I' hm hC q
 obtain⟨m,hm⟩:=hm
 refine⟨m,hm,fun h' hs'=>⟨.ref D,H',I'.turned (it:=C) (t':=s'.toks) (fun b o hb e=>hs'.extBut b o hb e) hC.1 hC.2.1 hC.2.2.2.1 hC.2.2.2.2.1 hC.2.2.2.2.2,rfl,q⟩⟩
end
end L2
end
noncomputable section
namespace L2
open PySem PySem.Spec PyProof.Rows
section
variable{X:Cx}{N':List Str}{ix:List (Option Nat)}{scope:Scope}{elt tg iter:Expr}{ifs:List Expr}{pos spos py:Pos}{g:TG}{tc:TT}{te:TE}{wi:TI}{i:Nat}{y:Str}
theorem Pa(hc:X.calm=true)(hN:X.N.Nodup)(hi':X.N[i]?=some y)(hx:X.env.scope.names.lookup y=some .local)(S:Ah X.N X.env.scope N' ix scope)(hi:PI X tg iter wi)(hb:Block X N' scope tg ifs elt g tc te)
  (hsw:swapsWith (.ListComp elt [⟨tg,iter,ifs,0⟩] scope pos) (some (.Name y py)) spos.line X.env=pure true:=by rfl) (hs:∀x,foldedSetIterable iter X.env x=pure x:=by intro _;rfl):
  PS X (.Assign [.Name y py] (.ListComp elt [⟨tg,iter,ifs,0⟩] scope pos) spos) (cX (Vf ix wi g tc te) (Vo i)):=by
 intro pins s σ H D I h
 rw[exec_Assign_Name_used _ _ _ _ hsw]
 refine wpAny_bind (wpAny_standAt (wpAny_bind ?_))
 show wpAny _ X.A (do let _←comprehension (.ListComp elt [⟨tg,iter,ifs,0⟩] scope pos) scope X.env _ (newList []) false (eval iter X.env) (some (assign (.Name y py) X.env))) _ _ s
 refine wpAny_bind (wpAny_mono (wpAny_comprehension_free (use:=some (assign (.Name y py) X.env)) (Q:=fun _ s'=>SP X pins D .next s') rfl hs (OD (I.cellsOf S)) S.kind S.names
  (thn (hi pins s σ H _ I h) fun v s1 h1=>thn h1 fun itv s2 h2=>?_)) (fun _ s' hq=>wpAny_pure (wpAny_pure hq)) fun _ _ e=>e)
 obtain⟨it,fp,tn,J,H2,e,I2,T,st2,f2,hW⟩:=h2
 subst e
 refine Oh (RR:=fun acc C=>compPost (model X.prog X.w) X.A X.xe (some (assign (.Name y py) X.env)) (fun _ s'=>SP X pins D .next s') acc C) hc S hb I2 T st2 f2 hW ?_
 intro L C H' s' I' hm hC q
 obtain⟨m,hm⟩:=hm
 show wpAny _ X.A (assign (.Name y py) X.env (.ref L)) _ _ _
 refine wpAny_assign_Name (Mj I' hN hi' (.inl hx) (v:=.ref L) rfl (fun s'' I'' ⟨a,sb,ha⟩=>?_) (.inr hx))
 have hCa:C≠a:=by
  rcases ha with rfl|ha
  ·exact hC.2.1
  ·exact Ne.symm (hC.2.2.2.2.1 y a ha)
 refine⟨m,hm.sameBut sb hCa,fun h' hs'=>?_⟩
 exact⟨_,H',I''.turned (it:=C) (t':=s''.toks) (fun b o hb e=>hs'.extBut b o hb e) hC.1 hC.2.1 hC.2.2.2.1 hC.2.2.2.2.1 hC.2.2.2.2.2,q⟩
end
end L2
end
noncomputable section
namespace L2
open PySem PySem.Spec PyProof.Rows
section
variable{κ:Type} [DecidableEq κ]
noncomputable def putK(kvs:List (κ×V))(k:κ)(v:V):List (κ×V):=
 if(kvs.any fun kv=>decide (kv.1=k))=true then kvs.map (fun kv=>if kv.1=k then(kv.1,v)else kv)else kvs++[(k,v)]
theorem Nu(kvs:List (κ×V))(k:κ)(v:V):(putK kvs k v).length≤kvs.length+1:=by
 unfold putK
 split
 ·rw[List.length_map];omega
 ·rw[List.length_append,List.length_cons,List.length_nil];omega
theorem KV.any{kvs:List (κ×V)}{vs:List (κ×Value)}(r:KV kvs vs)(k:κ):(kvs.any fun kv=>decide (kv.1=k))=vs.any fun kv=>decide (kv.1=k):=by
 unfold KV at r
 induction r with
 |nil=>rfl
 |cons h t ih=>rw[List.any_cons,List.any_cons,ih,h.1]
theorem KV.repl{kvs:List (κ×V)}{vs:List (κ×Value)}(r:KV kvs vs)(k:κ){y:V}{u:Value}(ry:RelV y u):
    KV (kvs.map fun kv=>if kv.1=k then(kv.1,y)else kv) (vs.map fun kv=>if kv.1=k then(kv.1,u)else kv):=by
  unfold KV at r⊢
  induction r with
  |nil=>exact .nil
  | @cons p q ps qs h t ih=>
    rw[List.map_cons,List.map_cons]
    refine .cons ?_ ih
    obtain⟨h1,h2⟩:=h
    by_cases e:p.1=k
    ·rw[if_pos e,if_pos (h1.symm.trans e)];exact⟨h1,ry⟩
    ·rw[if_neg e,if_neg (fun z=>e (h1.trans z))];exact⟨h1,h2⟩
theorem KV.put{kvs:List (κ×V)}{vs:List (κ×Value)}(r:KV kvs vs)(k:κ){y:V}{u:Value}(ry:RelV y u):KV (putK kvs k y) (stored vs k u):=by
 unfold putK stored
 rw[r.any k]
 by_cases e:(vs.any fun kv=>decide (kv.1=k))=true
 ·rw[if_pos e,if_pos e];exact r.repl k ry
 ·rw[if_neg e,if_neg e];exact Paired.snoc r ⟨rfl,ry⟩
end
theorem ZE{P:Program}{w:World}{k:Key}{u:Value}(r:RelV (kV k) u):(Cg P w).is k u=true:=by
 cases k with
 |inl i=>obtain⟨t,e⟩:=(show∃t,u=Value.int i t from r);subst e;exact N7 P w i t
 |inr x=>obtain⟨t,e⟩:=(show∃t,u=Value.str x t from r);subst e;exact Np P w x t
theorem M9{P:Program}{w:World}:∀{ks:List Key} {us:List Value},Vals (ks.map kV) us->ItemsAre (Cg P w) ks us
  | [],_,r=>by rw[List.map_nil]at r;cases r;exact .nil
  | k :: ks, _, r => by
    rw[List.map_cons]at r
    cases r with
    |cons h t=>exact .cons (ZE h) (M9 t)
abbrev KT(H:Hp):List (List Key×V)->List (List Key×Addr×Value)->Prop:=Paired fun p q=>p.1=q.1/\H q.2.1=some (.tup (p.1.map kV))/\RelV p.2 q.2.2
section
variable{P:Program}{w:World}{H:Hp}{h:Heap}{a:Addr}
theorem Xh{u:HO}(ok:HOk P w H h)(e:Rd H a u):DN P w H h a u:=e.ok ok
theorem bC{kvs:List (Key×V)}(ok:HOk P w H h)(e:Rd H a (.dK kvs)):kvs.length≤sizeLine/\(a==sysModules)=false/\∃vs,KV kvs vs/\h.DictOf (Cg P w) a vs:=
 show DN P w H h a (.dK kvs)from Xh ok e
theorem cW{kvs:List (Key×V)}(ok:HOk P w H h)(e:H a=some (.dK kvs)):kvs.length≤sizeLine/\(a==sysModules)=false/\∃vs,KV kvs vs/\h.DictOf (Cg P w) a vs:=bC ok (.inl e)
theorem YU{ks:List Key}(ok:HOk P w H h)(e:H a=some (.tup (ks.map kV))):(tupleKind (Cg P w)).is h ks a:=by
 obtain⟨_,its,r,o,h1,h2,n,h3⟩:=(show DN P w H h a (.tup (ks.map kV))from ok a _ e)
 exact⟨o,its.toArray,n,h1,h2,h3,by simpa using M9 r⟩
theorem bH{kvs:List (List Key×V)}(ok:HOk P w H h)(e:Rd H a (.dT kvs)):kvs.length≤sizeLine/\(a==sysModules)=false/\
    ∃xs,KT H kvs xs/\h.DictOfH (tupleKind (Cg P w)) a xs:=by
  obtain⟨z,y,xs,r,o,es,ep,h1,h2,h3,h4,h5⟩:=(show DN P w H h a (.dT kvs)from Xh ok e)
  refine⟨z,y,xs,r,o,es,ep,h1,h2,h3,h4,fun x hx=>?_,h5⟩
  have all:∀{l:List (List Key×V)} {m:List (List Key×Addr×Value)},KT H l m->∀x∈m,(tupleKind (Cg P w)).is h x.1 x.2.1:=by
    intro l m q
    induction q with
    |nil=>intro x hx;exact nomatch hx
    | @cons p q ps qs hq t ih=>
      intro x hx
      rcases List.mem_cons.mp hx with e|hx
      · subst e
        exact YU ok (by rw[←hq.1];exact hq.2.1)
      ·exact ih x hx
  exact all r x hx
theorem TX{kvs:List (List Key×V)}(ok:HOk P w H h)(e:H a=some (.dT kvs)):kvs.length≤sizeLine/\(a==sysModules)=false/\
  ∃xs,KT H kvs xs/\h.DictOfH (tupleKind (Cg P w)) a xs:=bH ok (.inl e)
end
section
variable{X:Cx}{pins:List (Addr×Obj)}{σ:St}{H:Hp}{s:Shared}{a:Addr}{y v:V}{u r:Value}{o:Option V}{A:Around}{E:Value->Shared->Prop}
theorem Inv.big(I:Inv X pins σ H s):sysModules<s.heap.objs.size:=by
 have h:mainGlobals<s.heap.objs.size:=(I.mod.glob.keeps I.bk).lt
 exact Nat.lt_trans (by decide) h
theorem Wg{h':Heap}{t':Nat}{ob:HO}(I:Inv X pins σ H s)(mu:Mut (H a))(hs:Heap.SameBut a s.heap h')(he:∃q,h'.get? a=some q)(new:DN X.prog X.w (upd H a ob) h' a ob):
  Inv X pins σ (upd H a ob) {s with heap:=h',toks:=t'}:=
 I.write (x:=a) (e:=a) mu (.inl rfl) (fun b q hb z=>(hs.2 b hb).trans z) he new
theorem ZR{P:Program}{w:World}{H':Hp}{h':Heap}{kvs:List (Key×V)}{vs:List (Key×Value)}(z:kvs.length≤sizeLine)(hd:(a==sysModules)=false)(rel:KV kvs vs)(dd:h'.DictOf (Cg P w) a vs):
  DN P w H' h' a (.dK kvs):=⟨z,hd,vs,rel,dd⟩
end
section
variable{X:Cx}{pins:List (Addr×Obj)}{σ:St}{H:Hp}{s:Shared}{a:Addr}{kvs:List (Key×V)}{k:Key}{u:Value}{A:Around}{E:Value->Shared->Prop}
end
section
variable{X:Cx}{o i e value:Expr}{pos pos' tpos:Pos}{td ty tv:TE}
end
theorem UK{P:Program}{w:World}{H:Hp}(h:Heap)(hb:sysModules<h.objs.size):DN P w H (h.push {cls:=.type "dict",data:=.dict #[]}) h.objs.size (.dK []):=
 ⟨Nat.zero_le _,beq_eq_false_iff_ne.mpr (Ne.symm (Nat.ne_of_lt hb)),[],.nil,Heap.DictOf.new h⟩
section
variable{X:Cx}{pos:Pos}
end
def OC:List (TE×TE)->St->Hp->(List (V×V)->Hp->Prop)->Prop
 | [],_,H,Q=>Q [] H
 |(tk,tv)::r,σ,H,Q=>tk σ H fun x H1=>tv σ H1 fun y H2=>OC r σ H2 fun ps H3=>Q ((x,y)::ps) H3
abbrev VV:List (V×V)->List (Value×Value)->Prop:=Paired fun p q=>RelV p.1 q.1/\RelV p.2 q.2
def PPs(X:Cx)(pos:Pos)(keys:List (Option Expr))(values:List Expr)(trs:List (TE×TE)):Prop:=
 ∀ (pins : List (Addr × Obj)) (s : Shared) (σ : St) (H : Hp) (Q : List (V × V) -> Hp -> Prop), Inv X pins σ H s -> OC trs σ H Q ->
  wpAny (model X.prog X.w) X.A (evalPairs (pairTrees keys values X.env pos)) (fun vs s'=>∃ps H',Inv X pins σ H' s'/\VV ps vs/\Q ps H') X.xe s
theorem WQ{X:Cx}{pos:Pos}:PPs X pos [] [] []:=fun pins s σ H Q I h=>pairTrees_nil_walk ⟨[],H,I,.nil,h⟩
theorem Up{X:Cx}{pos:Pos}{k v:Expr}{ks:List (Option Expr)}{vs:List Expr}{tk tv:TE}{trs:List (TE×TE)}(hk:PE X k tk)(hv:PE X v tv)(hr:PPs X pos ks vs trs):
  PPs X pos (some k::ks) (v::vs) ((tk,tv)::trs):=fun pins s σ H Q I h=>
 pairTrees_cons_walk (thn (hk pins s σ H _ I h) fun u s1 ⟨x,H1,I1,rx,q1⟩=>thn (hv pins s1 σ H1 _ I1 q1) fun w2 s2 ⟨y,H2,I2,ry,q2⟩=>
  thn (hr pins s2 σ H2 _ I2 q2) fun ws s3 ⟨ps,H3,I3,rel,q3⟩=>⟨(x,y)::ps,H3,I3,.cons ⟨rx,ry⟩ rel,q3⟩)
noncomputable def JL(kvs more:List (Key×V)):List (Key×V):=more.foldl (fun acc kv=>putK acc kv.1 kv.2) kvs
theorem KV.merge:∀{more:List (Key×V)} {rs:List (Key×Value)} {kvs:List (Key×V)} {vs:List (Key×Value)},KV more rs->KV kvs vs->KV (JL kvs more) (merged vs rs):=by
  intro more rs kvs vs r
  unfold KV at r
  induction r generalizing kvs vs with
  |nil=>intro q;exact q
  | @cons p q ps qs h t ih=>
    intro r0
    have e:KV (putK kvs p.1 p.2) (stored vs q.1 q.2):=by
      have:=r0.put p.1 h.2
      rw[←h.1];exact this
    exact ih e
theorem HJ:∀(more kvs:List (Key×V)),(JL kvs more).length≤kvs.length+more.length
  | [],kvs=>by show kvs.length≤kvs.length+0;omega
  | p :: r, kvs => by
    have h1:=HJ r (putK kvs p.1 p.2)
    have h2:=Nu kvs p.1 p.2
    show(JL (putK kvs p.1 p.2) r).length≤_
    rw[List.length_cons];omega
theorem LC{P:Program}{w:World}:∀{kvs:List (Key×V)} {ws:List (Value×Value)},VV (kvs.map fun kv=>(kV kv.1,kv.2)) ws->∃rs,Carries (Cg P w) ws rs/\KV kvs rs
  | [],_,r=>by rw[List.map_nil]at r;cases r;exact⟨[],True.intro,.nil⟩
  | p :: kvs, _, r => by
    rw[List.map_cons]at r
    cases r with
    | @cons a b as bs h t=>
      obtain⟨rs,c,q⟩:=LC (P:=P) (w:=w) t
      obtain⟨b1,b2⟩:=b
      exact⟨(p.1,b2)::rs,⟨ZE h.1,rfl,c⟩,.cons ⟨rfl,h.2⟩ q⟩
noncomputable def cw(trs:List (TE×TE)):TE:=fun σ H Q=>∀p,H p=none->OC trs σ (upd H p (.dK [])) fun ps H2=>H2 p=some (.dK [])/\∃kvs:List (Key×V),ps=kvs.map (fun kv=>(kV kv.1,kv.2))/\kvs.length≤15/\Q (.ref p) (upd H2 p (.dK (JL [] kvs)))
theorem V2{X:Cx}{pos:Pos}{keys:List (Option Expr)}{values:List Expr}{trs:List (TE×TE)}(h:PPs X pos keys values trs)(hall:keys.all (·.isSome)=true)(hl:keys.length=values.length)(h0:keys≠[])
  (h15:keys.length≤15):PE X (.Dict keys values pos) (cw trs):=by
 intro pins s σ H Q I q
 have hn:=I.hok.fresh (Nat.le_refl s.heap.objs.size)
 have I1:=I.laid (a:=s.heap.objs.size) (o:=.dK []) (h':=s.heap.push {cls:=.type "dict",data:=.dict #[]}) (t':=s.toks) (fun _ _ q=>Heap.get?_push_of_some _ q) (Nat.le_refl _) (UK s.heap I.big)
 refine wpAny_Dict_walk (knd:=Cg X.prog X.w) hall hl h0 h15 (thn (h pins _ σ _ _ I1 (q _ hn)) fun ws s2 ⟨ps,H2,I2,rel,e,kvs,ep,lk,q2⟩=>?_)
 subst ep
 obtain⟨rs,c,rk⟩:=LC (P:=X.prog) (w:=X.w) rel
 obtain⟨z,hd,vs0,r0,dd⟩:=cW I2.hok e
 cases r0
 refine⟨rs,c,dd,fun h' dd' hs=>⟨.ref s.heap.objs.size,_,?_,rfl,q2⟩⟩
 have hz:(JL [] kvs).length≤sizeLine:=by
  have h1:=HJ kvs []
  rw[List.length_nil]at h1
  rw[sizeLine_eq];omega
 have he:∃q,h'.get? s.heap.objs.size=some q:=let⟨q,_,_,hq,_⟩:=dd';⟨q,hq⟩
 exact Wg I2 (by rw[e];exact True.intro) hs he (ZR hz hd (rk.merge .nil) dd')
structure M1(X:Cx)(o:Expr)(m:Str)(apos:Pos)(e:Expr)(cpos:Pos):Prop where
 base:attributeBase o m X.env (eval o X.env)=eval o X.env
 few:((backTo cpos (starEach [e] X.env)).all (fun x=> !x.1) && (backToKw cpos (keywordEach [] X.env)).all (fun x=>x.1.isSome)
  && decide (([e]:List Expr).length+([]:List Keyword).length+(if([]:List Keyword).isEmpty then 0 else 1)<30))=true
 line:(apos.endLine==cpos.line)=true
 trees:backTo cpos (starEach [e] X.env)=[(false,eval e X.env)]
structure M2(X:Cx)(o:Expr)(m:Str)(apos:Pos)(e f:Expr)(cpos:Pos):Prop where
 base:attributeBase o m X.env (eval o X.env)=eval o X.env
 few:((backTo cpos (starEach [e,f] X.env)).all (fun x=> !x.1) && (backToKw cpos (keywordEach [] X.env)).all (fun x=>x.1.isSome)
  && decide (([e,f]:List Expr).length+([]:List Keyword).length+(if([]:List Keyword).isEmpty then 0 else 1)<30))=true
 line:(apos.endLine==cpos.line)=true
 trees:backTo cpos (starEach [e,f] X.env)=[(false,eval e X.env),(false,eval f X.env)]
def IsD(H:Hp)(a:Addr):Prop:=(∃kvs,Rd H a (.dK kvs))∨∃kvs,Rd H a (.dT kvs)
section
variable{X:Cx}{pins:List (Addr×Obj)}{σ:St}{H:Hp}{s:Shared}{a:Addr}{y d:V}{u r:Value}{o:Option V}{A:Around}{E:Value->Shared->Prop}
end
section
variable{X:Cx}{o e f:Expr}{apos cpos:Pos}{td ty tx:TE}
end
section
variable{X:Cx}{pins:List (Addr×Obj)}{σ:St}{H:Hp}{s:Shared}{a:Addr}{kvs:List (Key×V)}{A:Around}{E:Value->Shared->Prop}
end
section
variable{X:Cx}{pins:List (Addr×Obj)}{σ:St}{H:Hp}{s:Shared}{a:Addr}{y:V}{u:Value}{A:Around}{E:Value->Shared->Prop}
end
end L2
end
noncomputable section
namespace L2
open PySem PySem.Spec PyProof.Rows
section
variable{prog:Program}{w:World}{A:Around}{E:Value->Shared->Prop}{s:Shared}
theorem PJ{h:Heap}{it t:Addr}{i:Nat}{o:Obj}(ho:h.get? it=some o)(hc:o.cls=.type "tuple_iterator")(hd:o.data=.fields #[.ref t,.int i 0]){h':Heap}
  (e:h'=h.update it (fun o=>o.mapFields fun a=>a.setIfInBounds 1 (rawInt ((i:Int)+1)))):h'.IsTupleIter it t (i+1):=by
 subst e
 have d:=Obj.data_mapFields hd fun a=>a.setIfInBounds 1 (rawInt ((i:Int)+1))
 refine⟨_,Heap.get?_update_self _ ho (Obj.isFreed_of_fields d),?_,?_⟩
 ·rw[Obj.cls_mapFields];exact hc
 ·rw[d];simp[rawInt]
theorem TF{it t:Addr}{i:Nat}{items:Array Value}{x:Value}{Q:Value->Shared->Prop}(hit:s.heap.IsTupleIter it t i)(ht:s.heap.IsTuple t items)(hx:items[i]?=some x)
  (hQ:∀h',h'.IsTupleIter it t (i+1)->Heap.SameBut it s.heap h'->Q x {s with heap:=h'}):wpAny (model prog w) A (Builtin.SmallTypes.nextOf (.ref it)) Q E s:=by
 obtain⟨⟨c,dd,dt,sl⟩,ho,hc,hd⟩:=id hit
 obtain⟨⟨c2,dd2,dt2,sl2⟩,ho2,hc2,n2,hd2⟩:=id ht
 simp only at hc hd hc2 hd2
 subst hc hd hc2 hd2
 unfold Builtin.SmallTypes.nextOf
 refine wpAny_bind (wpAny_callSpecial?_slot (name:=Str.ofString "__next__") hit.typeIs F.slot_tuple_iterator_next (wpAny_call_entry F.slot_tuple_iterator_next hit.typeIs F.entry_tuple_iterator_next ?_ (F.args_tuple_iterator_next_1 _)))
 unfold Builtin.«tuple_iterator.__next__»
 wp_walk using AutoSeq1.wpAny_loadPart' ho,AutoSeq1.wpAny_loadPart' ho2
 have e:items[(i:Int).toNat]?=some x:=by rw[Int.toNat_natCast];exact hx
 rw[e]
 refine wpAny_bind (wpAny_setField ho rfl (by simp) ?_)
 exact wpAny_pure ⟨x,rfl,wpAny_pure (hQ _ (PJ ho rfl rfl rfl) (Heap.SameBut.update ..))⟩
theorem UO{it t:Addr}{i:Nat}{items:Array Value}{Q:Value->Shared->Prop}(hh:A.handled=none)(hit:s.heap.IsTupleIter it t i)(ht:s.heap.IsTuple t items)(hx:items[i]?=none)
  (hE:∀h' e,Heap.ExtBut it s.heap h'->(∃o,h'.get? e=some o/\o.cls=.type "StopIteration")->E (.ref e) {s with heap:=h'}):wpAny (model prog w) A (Builtin.SmallTypes.nextOf (.ref it)) Q E s:=by
 obtain⟨⟨c,dd,dt,sl⟩,ho,hc,hd⟩:=id hit
 obtain⟨⟨c2,dd2,dt2,sl2⟩,ho2,hc2,n2,hd2⟩:=id ht
 simp only at hc hd hc2 hd2
 subst hc hd hc2 hd2
 unfold Builtin.SmallTypes.nextOf
 refine wpAny_bind (wpAny_callSpecial?_slot (name:=Str.ofString "__next__") hit.typeIs F.slot_tuple_iterator_next (wpAny_call_entry F.slot_tuple_iterator_next hit.typeIs F.entry_tuple_iterator_next ?_ (F.args_tuple_iterator_next_1 _)))
 unfold Builtin.«tuple_iterator.__next__»
 wp_walk using AutoSeq1.wpAny_loadPart' ho,AutoSeq1.wpAny_loadPart' ho2
 have e:items[(i:Int).toNat]?=none:=by rw[Int.toNat_natCast];exact hx
 rw[e]
 refine wpAny_bind (wpAny_rule (wpAny_bind (wpAny_setField ho rfl (by simp) ?_)))
 have hh1:A.in1.handled=none:=hh
 unfold Builtin.SmallTypes.stopIteration
 simp only[newExc,newTuple,raiseNew]
 wp_walk
 refine hE _ _ ?_ ⟨_,Heap.get?_push_size _ rfl,rfl⟩
 have a:=(Heap.SameBut.update (a:=it) (h:=s.heap) (f:=Obj.mapFields fun x=>x.setIfInBounds 0 Value.none)).extBut
 exact(a.push _).push _
theorem QI(l:Addr)(items:Array Value)(n:Nat)(dct:Option Addr)(sl:Array (Option Value)):
  Meets (Builtin.«enumerate.__new__» ⟨[.type "enumerate",.ref l],[]⟩) (fun _ R s=>s.heap.get? l=some {cls:=.type "tuple",dict:=dct,data:=.seq items n,slots:=sl}/\
   R (.ok (.ret (.ref (s.heap.objs.size+1)))) {s with heap:=(s.heap.push {cls:=.type "tuple_iterator",data:=.fields #[.ref l,.int 0 0]}).push {cls:=.type "enumerate",data:=.fields #[.none,.bool false,.ref s.heap.objs.size,rawInt 0,.none,.none]}}):=
 .of_wp fun prog w A R s h=>by
  obtain⟨hp,g,d,tk,os⟩:=s
  obtain⟨hl,h⟩:=h
  have hsub:=sub_enumerate
  have hT:Heap.IsTuple (Shared.heap ⟨hp,g,d,tk,os⟩) l items:=⟨_,hl,rfl,n,rfl⟩
  wp_walk using AutoSeq1.wpAny_loadPart' hl
  refine wpAny_stack_any fun st=>wpAny_pure ?_
  split
  ·rename_i c _ _ _ _ _
   cases (c==Value.type "enumerate")<;>(wp_walk using AutoSeq1.wpAny_loadPart' hl,wpAny_pyIter_tuple hT)<;>(refine⟨_,rfl,?_⟩;rw[Heap.size_push];exact h)
  ·wp_walk using AutoSeq1.wpAny_loadPart' hl,wpAny_pyIter_tuple hT
   refine⟨_,rfl,?_⟩
   rw[Heap.size_push]
   exact h
theorem O8{l:Addr}{items:Array Value}{Q:Value->Shared->Prop}(hT:s.heap.IsTuple l items)
  (h:∀h',IsEnum h' (s.heap.objs.size+1) s.heap.objs.size 0 .none->h'.IsTupleIter s.heap.objs.size l 0->(∀b o,s.heap.get? b=some o->h'.get? b=some o)->Q (.ref (s.heap.objs.size+1)) {s with heap:=h'}):
  wpAny (model prog w) A (call (.type "enumerate") [.ref l]) Q E s:=by
 obtain⟨⟨c,dct,dt,sl⟩,hl,hc,n,hd⟩:=hT
 simp only at hc hd
 subst hc hd
 refine callType_new F.called_enumerate (by decide) (F.typeCall_enumerate_1 _) (F.newCall_enumerate_1 _) (fun obj=>F.args_object_init_2 obj _) F.entry_enumerate_new (QI l items n dct sl) ⟨hl,?_⟩
 have z:=Heap.get?_push_size (s.heap.push {cls:=.type "tuple_iterator",data:=.fields #[.ref l,.int 0 0]}) (o:={cls:=.type "enumerate",data:=.fields #[.none,.bool false,.ref s.heap.objs.size,rawInt 0,.none,.none]}) rfl
 rw[Heap.size_push]at z
 exact⟨⟨_,z,rfl⟩,h _ z ⟨_,Heap.get?_push_of_some _ (Heap.get?_push_size _ rfl),rfl,rfl⟩ fun b o x=>Heap.get?_push_of_some _ (Heap.get?_push_of_some _ x)⟩
end
section
variable{X:Cx}
end
end L2
end
noncomputable section
namespace L2
open PySem PySem.Spec PyProof.Rows
structure TopD(K:PySem.W.Frag)(w:World)(a:Addr)(kvs:List (Str×V)):Prop where
 ex:∃(es:Array DictEntry) (n:Nat),K.lookup a=some ⟨.type "dict",none,.dict es n, #[]⟩/\PySem.W.KeysLit w.params es.toList/\(a==sysModules)=false/\∀x,Zv (kvs.lookup x) (findBy Value.isStrOf es x)
section
variable{X:Cx}
end
end L2
end
noncomputable section
namespace L2
open PySem PySem.Spec PyProof.Rows
def SIt(h:Heap)(j l:Addr)(i:Nat)(its:Array Value):Prop:=(h.IsListIter j l i/\h.IsList l its)∨(h.IsTupleIter j l i/\h.IsTuple l its)
section
variable{prog:Program}{w:World}{A:Around}{E:Value->Shared->Prop}{s:Shared}{h h':Heap}{j l:Addr}{i:Nat}{its:Array Value}
theorem SIt.at(q:SIt h j l i its)(k1:∀o,h.get? j=some o->h'.get? j=some o)(k2:∀o,h.get? l=some o->h'.get? l=some o):SIt h' j l i its:=by
 rcases q with⟨a,b⟩|⟨a,b⟩
 ·exact .inl ⟨a.at k1,b.at k2⟩
 ·exact .inr ⟨a.at k1,let⟨o,e,r⟩:=b;⟨o,k2 o e,r⟩⟩
theorem SIt.but{c:Addr}(q:SIt h j l i its)(sb:Heap.ExtBut c h h')(n1:j≠c)(n2:l≠c):SIt h' j l i its:=q.at (fun o e=>sb _ o n1 e) fun o e=>sb _ o n2 e
theorem SIt.live(q:SIt h j l i its):∃o,h.get? j=some o/\∀v,o.data≠.cell v:=by
 rcases q with⟨⟨o,a,b,c⟩,_⟩|⟨⟨o,a,b,c⟩,_⟩
 ·exact⟨o,a,fun v z=>by rw[c]at z;cases z⟩
 ·exact⟨o,a,fun v z=>by rw[c]at z;cases z⟩
theorem SIt.ne(q:SIt h j l i its):l≠j:=by
 rcases q with⟨⟨o,a,b,_⟩,⟨o2,a2,b2,_⟩⟩|⟨⟨o,a,b,_⟩,⟨o2,a2,b2,_⟩⟩
 ·intro z;subst z;rw[a]at a2;cases a2;rw[b]at b2;injection b2 with q;exact absurd q (by decide)
 ·intro z;subst z;rw[a]at a2;cases a2;rw[b]at b2;injection b2 with q;exact absurd q (by decide)
theorem JG{x:Value}{Q:Value->Shared->Prop}(q:SIt s.heap j l i its)(hx:its[i]?=some x)(k:∀h',SIt h' j l (i+1) its->Heap.SameBut j s.heap h'->Q x {s with heap:=h'}):
  wpAny (model prog w) A (Builtin.SmallTypes.nextOf (.ref j)) Q E s:=by
 have n:=q.ne
 rcases q with⟨a,b⟩|⟨a,b⟩
 ·exact wpAny_nextOf_list_item a b hx fun h' a' sb=>k h' (.inl ⟨a',b.extBut sb.extBut n⟩) sb
 ·exact TF a b hx fun h' a' sb=>k h' (.inr ⟨a',let⟨o,e,r⟩:=b;⟨o,sb.extBut _ o n e,r⟩⟩) sb
theorem JD{Q:Value->Shared->Prop}(hh:A.handled=none)(q:SIt s.heap j l i its)(hx:its[i]?=none)(k:∀h' e,Heap.ExtBut j s.heap h'->(∃o,h'.get? e=some o/\o.cls=.type "StopIteration")->E (.ref e) {s with heap:=h'}):
  wpAny (model prog w) A (Builtin.SmallTypes.nextOf (.ref j)) Q E s:=by
 rcases q with⟨a,b⟩|⟨a,b⟩
 ·exact wpAny_nextOf_list_end hh a b hx k
 ·exact UO hh a b hx k
theorem QO{z ti tt j1 j2 l1 l2:Addr}{m:Nat}{xs ys:Array Value}{x y u1 u2:Value}{Q:Value->Shared->Prop}(D:ZipApart z ti tt j1 j2 l1 l2)
  (oz:IsZip s.heap z ti tt .none) (oi:IsPair s.heap ti (.ref j1) (.ref j2)) (ot:IsPair s.heap tt u1 u2) (q1:SIt s.heap j1 l1 m xs) (q2:SIt s.heap j2 l2 m ys) (ex:xs[m]?=some x) (ey:ys[m]?=some y)
  (k:∀h',IsZip h' z ti tt (rawInt s.heap.objs.size)->IsPair h' tt x y->SIt h' j1 l1 (m+1) xs->SIt h' j2 l2 (m+1) ys->IsPair h' s.heap.objs.size x y->
   (∀c o,c≠z->c≠tt->c≠j1->c≠j2->s.heap.get? c=some o->h'.get? c=some o)->Q (.ref s.heap.objs.size) {s with heap:=h'}):
  wpAny (model prog w) A (Builtin.«zip.__next__» ⟨[.ref z],[]⟩) (fun fin s'=>∃v,fin=.done (.ret v)/\Q v s') E s:=by
 show wpAny _ _ (field (.ref z) 2 >>= _) _ _ _
 refine wpAny_bind (wpAny_field oz rfl (x:=.bool false) rfl ?_)
 show wpAny _ _ (field (.ref z) 3 >>= _) _ _ _
 refine wpAny_bind (wpAny_field oz rfl (x:=.ref ti) rfl (wpAny_bind (wpAny_seqItems oi rfl ?_)))
 show wpAny _ _ (Builtin.SmallTypes.ownedTupleIsFree (.ref z) >>= _) _ _ _
 refine wpAny_bind ?_
 unfold Builtin.SmallTypes.ownedTupleIsFree
 refine wpAny_bind (wpAny_field oz rfl (x:=.none) rfl (wpAny_pure ?_))
 simp only[if_true]
 refine wpAny_bind (wpAny_rule (wpAny_bind (wpAny_field oz rfl (x:=.ref tt) rfl (wpAny_bind (wpAny_setField_rec oz (by simp) fun g1 oz1 b1=>?_)))))
 have oz1:IsZip g1 z ti tt .ellipsis:=oz1
 refine wpAny_bind ?_
 simp only[List.zipIdx_cons,List.zipIdx_nil,List.forIn_cons,List.forIn_nil]
 refine wpAny_bind (wpAny_bind (wpAny_onRaise ?_))
 show wpAny _ _ (Builtin.SmallTypes.nextOf (.ref j1) >>= _) _ _ _
 refine wpAny_bind (JG (q1.but b1.extBut D.i1z D.l1z) ex fun g2 q12 b2=>wpAny_pure ?_)
 have ot2:IsPair g2 tt u1 u2:=b2.extBut _ _ D.TOi1 (b1.extBut _ _ D.TOz ot)
 refine wpAny_bind (wpAny_seqItems ot2 rfl (wpAny_bind (wpAny_updateSeq_pair ot2 fun g3 ot3 b3=>?_)))
 have ot3:IsPair g3 tt x u2:=ot3
 refine wpAny_bind (wpAny_letGo (wpAny_pure (wpAny_bind (wpAny_bind (wpAny_onRaise ?_)))))
 show wpAny _ _ (Builtin.SmallTypes.nextOf (.ref j2) >>= _) _ _ _
 refine wpAny_bind (JG (((q2.but b1.extBut D.i2z D.l2z).but b2.extBut D.i12.symm D.l2i1).but b3.extBut D.TOi2.symm D.l2TO) ey fun g4 q24 b4=>wpAny_pure ?_)
 have ot4:IsPair g4 tt x u2:=b4.extBut _ _ D.TOi2 ot3
 refine wpAny_bind (wpAny_seqItems ot4 rfl (wpAny_bind (wpAny_updateSeq_pair ot4 fun g5 ot5 b5=>?_)))
 have ot5:IsPair g5 tt x y:=ot5
 refine wpAny_bind (wpAny_letGo (wpAny_pure (wpAny_pure (wpAny_bind (wpAny_seqItems ot5 rfl (wpAny_bind (wpAny_newTuple ?_)))))))
 have sz:g5.objs.size=s.heap.objs.size:=by rw[b5.1,b4.1,b3.1,b2.1,b1.1]
 have oz5:IsZip g5 z ti tt .ellipsis:=b5.extBut _ _ D.TOz.symm (b4.extBut _ _ D.i2z.symm (b3.extBut _ _ D.TOz.symm (b2.extBut _ _ D.i1z.symm oz1)))
 have k5:∀c o,c≠z->c≠tt->c≠j1->c≠j2->s.heap.get? c=some o->g5.get? c=some o:=fun c o c1 c2 c3 c4 e=>b5.extBut _ _ c2 (b4.extBut _ _ c4 (b3.extBut _ _ c2 (b2.extBut _ _ c3 (b1.extBut _ _ c1 e))))
 have q15:SIt g5 j1 l1 (m+1) xs:=((q12.but b3.extBut D.TOi1.symm D.l1TO).but b4.extBut D.i12 D.l1i2).but b5.extBut D.TOi1.symm D.l1TO
 have q25:SIt g5 j2 l2 (m+1) ys:=q24.but b5.extBut D.TOi2.symm D.l2TO
 have zlt:z<g5.objs.size:=Heap.lt_size oz5
 show wpAny _ _ (Builtin.SmallTypes.ownedTupleHandOut (.ref z) (.ref g5.objs.size) >>= _) _ _ _
 refine wpAny_bind ?_
 unfold Builtin.SmallTypes.ownedTupleHandOut
 have oz6:IsZip (g5.push {cls:=.type "tuple",data:=.seq #[x,y]}) z ti tt .ellipsis:=Heap.get?_push_of_some _ oz5
 refine wpAny_bind (wpAny_setField_rec oz6 (by simp) fun g7 oz7 b7=>?_)
 have oz7:IsZip g7 z ti tt (rawInt g5.objs.size):=oz7
 refine wpAny_setField_rec oz7 (by simp) fun g8 oz8 b8=>?_
 have oz8:IsZip g8 z ti tt (rawInt g5.objs.size):=oz8
 have up:∀c o,c≠z->g5.get? c=some o->g8.get? c=some o:=fun c o c1 e=>b8.extBut _ _ c1 (b7.extBut _ _ c1 (Heap.get?_push_of_some _ e))
 have op8:IsPair g8 g5.objs.size x y:=b8.extBut _ _ (Nat.ne_of_gt zlt) (b7.extBut _ _ (Nat.ne_of_gt zlt) (Heap.get?_push_size _ rfl))
 rw[sz]at oz8 op8
 refine wpAny_pure ⟨_,rfl,?_⟩
 show Q (.ref g5.objs.size) _
 rw[sz]
 exact k g8 oz8 (up _ _ D.TOz ot5) (q15.at (fun o e=>up _ o D.i1z e) fun o e=>up _ o D.l1z e) (q25.at (fun o e=>up _ o D.i2z e) fun o e=>up _ o D.l2z e) op8 fun c o c1 c2 c3 c4 e=>up c o c1 (k5 c o c1 c2 c3 c4 e)
theorem Uh{z ti tt j1 j2 l1 l2:Addr}{m:Nat}{xs ys:Array Value}{u1 u2:Value}{Q:Fin->Shared->Prop}(hh:A.handled=none)(D:ZipApart z ti tt j1 j2 l1 l2)
    (oz:IsZip s.heap z ti tt .none) (oi:IsPair s.heap ti (.ref j1) (.ref j2)) (ot:IsPair s.heap tt u1 u2) (q1:SIt s.heap j1 l1 m xs) (q2:SIt s.heap j2 l2 m ys) (en:xs[m]?=none∨ys[m]?=none)
    (k:∀h' e,(∀c o,c≠z->c≠tt->c≠j1->c≠j2->s.heap.get? c=some o->h'.get? c=some o)->(∃o,h'.get? e=some o/\o.cls=.type "StopIteration")->E (.ref e) {s with heap:=h'}):
    wpAny (model prog w) A (Builtin.«zip.__next__» ⟨[.ref z],[]⟩) Q E s:=by
  show wpAny _ _ (field (.ref z) 2 >>= _) _ _ _
  refine wpAny_bind (wpAny_field oz rfl (x:=.bool false) rfl ?_)
  show wpAny _ _ (field (.ref z) 3 >>= _) _ _ _
  refine wpAny_bind (wpAny_field oz rfl (x:=.ref ti) rfl (wpAny_bind (wpAny_seqItems oi rfl ?_)))
  show wpAny _ _ (Builtin.SmallTypes.ownedTupleIsFree (.ref z) >>= _) _ _ _
  refine wpAny_bind ?_
  unfold Builtin.SmallTypes.ownedTupleIsFree
  refine wpAny_bind (wpAny_field oz rfl (x:=.none) rfl (wpAny_pure ?_))
  simp only[if_true]
  refine wpAny_bind (wpAny_rule (wpAny_bind (wpAny_field oz rfl (x:=.ref tt) rfl (wpAny_bind (wpAny_setField_rec oz (by simp) fun g1 oz1 b1=>?_)))))
  have oz1:IsZip g1 z ti tt .ellipsis:=oz1
  refine wpAny_bind ?_
  simp only[List.zipIdx_cons,List.zipIdx_nil,List.forIn_cons,List.forIn_nil]
  refine wpAny_bind (wpAny_bind (wpAny_onRaise ?_))
  show wpAny _ _ (Builtin.SmallTypes.nextOf (.ref j1) >>= _) _ _ _
  cases ex:xs[m]? with
  | none =>
    refine wpAny_bind (JD hh (q1.but b1.extBut D.i1z D.l1z) ex fun g2 e b2 he=>?_)
    obtain⟨oe,e1,e2⟩:=he
    have oz2:IsZip g2 z ti tt .ellipsis:=b2 _ _ D.i1z.symm oz1
    have nez:e≠z:=fun x=>by subst x;rw[oz2]at e1;cases e1;simp at e2
    exact wpAny_setField_rec oz2 (by simp) fun g3 _ b3=>k g3 e (fun c o c1 _ c3 _ x=>b3.extBut _ _ c1 (b2 _ _ c3 (b1.extBut _ _ c1 x))) ⟨oe,b3.extBut _ _ nez e1,e2⟩
  | some x =>
    have ey:ys[m]?=none:=by
      rcases en with z|z
      ·rw[ex]at z;cases z
      ·exact z
    refine wpAny_bind (JG (q1.but b1.extBut D.i1z D.l1z) ex fun g2 q12 b2=>wpAny_pure ?_)
    have ot2:IsPair g2 tt u1 u2:=b2.extBut _ _ D.TOi1 (b1.extBut _ _ D.TOz ot)
    refine wpAny_bind (wpAny_seqItems ot2 rfl (wpAny_bind (wpAny_updateSeq_pair ot2 fun g3 ot3 b3=>?_)))
    refine wpAny_bind (wpAny_letGo (wpAny_pure (wpAny_bind (wpAny_bind (wpAny_onRaise ?_)))))
    show wpAny _ _ (Builtin.SmallTypes.nextOf (.ref j2) >>= _) _ _ _
    refine wpAny_bind (JD hh (((q2.but b1.extBut D.i2z D.l2z).but b2.extBut D.i12.symm D.l2i1).but b3.extBut D.TOi2.symm D.l2TO) ey fun g4 e b4 he=>?_)
    obtain⟨oe,e1,e2⟩:=he
    have oz4:IsZip g4 z ti tt .ellipsis:=b4 _ _ D.i2z.symm (b3.extBut _ _ D.TOz.symm (b2.extBut _ _ D.i1z.symm oz1))
    have nez:e≠z:=fun x=>by subst x;rw[oz4]at e1;cases e1;simp at e2
    exact wpAny_setField_rec oz4 (by simp) fun g5 _ b5=>k g5 e (fun c o c1 c2 c3 c4 x=>b5.extBut _ _ c1 (b4 _ _ c4 (b3.extBut _ _ c2 (b2.extBut _ _ c3 (b1.extBut _ _ c1 x))))) ⟨oe,b5.extBut _ _ nez e1,e2⟩
theorem Pc{z ti tt j1 j2 l1 l2:Addr}{m:Nat}{xs ys:Array Value}{x y u1 u2:Value}{Q:Option Value->Shared->Prop}(D:ZipApart z ti tt j1 j2 l1 l2)
  (oz:IsZip s.heap z ti tt .none) (oi:IsPair s.heap ti (.ref j1) (.ref j2)) (ot:IsPair s.heap tt u1 u2) (q1:SIt s.heap j1 l1 m xs) (q2:SIt s.heap j2 l2 m ys) (ex:xs[m]?=some x) (ey:ys[m]?=some y)
  (k:∀h',IsZip h' z ti tt (rawInt s.heap.objs.size)->IsPair h' tt x y->SIt h' j1 l1 (m+1) xs->SIt h' j2 l2 (m+1) ys->IsPair h' s.heap.objs.size x y->
   (∀c o,c≠z->c≠tt->c≠j1->c≠j2->s.heap.get? c=some o->h'.get? c=some o)->Q (some (.ref s.heap.objs.size)) {s with heap:=h'}):
  wpAny (model prog w) A (pyNext (.ref z)) Q E s:=by
 have ht:s.TypeIs (.ref z) "zip":=⟨_,oz,rfl⟩
 unfold pyNext
 exact wpAny_bind (wpAny_attempt (wpAny_callSpecial?_slot (name:=Str.ofString "__next__") ht F.slot_zip_next (wpAny_call_entry F.slot_zip_next ht F.entry_zip_next
  (QO D oz oi ot q1 q2 ex ey fun h' a1 a2 a3 a4 a5 a6=>wpAny_pure (k h' a1 a2 a3 a4 a5 a6)) (F.args_zip_next_1 _))))
theorem Q5{z ti tt j1 j2 l1 l2:Addr}{m:Nat}{xs ys:Array Value}{u1 u2:Value}{Q:Option Value->Shared->Prop}(hh:A.handled=none)(D:ZipApart z ti tt j1 j2 l1 l2)
  (oz:IsZip s.heap z ti tt .none) (oi:IsPair s.heap ti (.ref j1) (.ref j2)) (ot:IsPair s.heap tt u1 u2) (q1:SIt s.heap j1 l1 m xs) (q2:SIt s.heap j2 l2 m ys) (en:xs[m]?=none∨ys[m]?=none)
  (k:∀h',(∀c o,c≠z->c≠tt->c≠j1->c≠j2->s.heap.get? c=some o->h'.get? c=some o)->Q none {s with heap:=h'}):wpAny (model prog w) A (pyNext (.ref z)) Q E s:=by
 have ht:s.TypeIs (.ref z) "zip":=⟨_,oz,rfl⟩
 unfold pyNext
 refine wpAny_bind (wpAny_attempt (wpAny_callSpecial?_slot (name:=Str.ofString "__next__") ht F.slot_zip_next (wpAny_call_entry F.slot_zip_next ht F.entry_zip_next
  (Uh hh D oz oi ot q1 q2 en fun h' e kp he=>?_) (F.args_zip_next_1 _))))
 obtain⟨o,e1,e2⟩:=he
 exact wpAny_bind (wpAny_isInstance (T:="StopIteration") (b:=true) ⟨o,e1,e2⟩ isSubtype_stop (wpAny_pure (k _ kp)))
end
end L2
end
noncomputable section
namespace L2
open PySem PySem.Spec PyProof.Rows
def KW(h:Heap)(b:Bool)(l:Addr)(its:Array Value):Prop:=match b with|true=>h.IsTuple l its|false=>h.IsList l its
noncomputable def Y8:Bool->String|true=>"tuple_iterator" |false=>"list_iterator"
noncomputable def zh1(h:Heap)(b:Bool)(l:Addr):Heap:=h.push {cls:=.type (Y8 b),data:=.fields #[.ref l,.int 0 0]}
noncomputable def zh2(h:Heap)(b c:Bool)(l m:Addr):Heap:=zh1 (zh1 h b l) c m
noncomputable def zh3(h:Heap)(b c:Bool)(l m:Addr):Heap:=(zh2 h b c l m).push {cls:=.type "tuple",data:=.seq #[.ref h.objs.size,.ref (zh1 h b l).objs.size]}
noncomputable def zh4(h:Heap)(b c:Bool)(l m:Addr):Heap:=(zh3 h b c l m).push {cls:=.type "tuple",data:=.seq #[.none,.none]}
noncomputable def zh5(h:Heap)(b c:Bool)(l m:Addr):Heap:=(zh4 h b c l m).push {cls:=.type "zip",data:=.fields #[.none,.bool false,.bool false,.ref (zh2 h b c l m).objs.size,.ref (zh3 h b c l m).objs.size]}
theorem KW.push{h:Heap}{b:Bool}{l:Addr}{its:Array Value}(q:KW h b l its)(o:Obj):KW (h.push o) b l its:=by
 cases b
 ·exact Heap.IsList.push q _
 ·obtain⟨u,e,r⟩:=(show h.IsTuple l its from q)
  exact⟨u,Heap.get?_push_of_some _ e,r⟩
theorem Ul(b c:Bool)(l m:Addr)(xs ys:Array Value):
  Meets (Builtin.«zip.__new__» ⟨[.type "zip",.ref l,.ref m],[]⟩) (fun _ R s=>KW s.heap b l xs/\KW s.heap c m ys/\R (.ok (.ret (.ref (zh4 s.heap b c l m).objs.size))) {s with heap:=zh5 s.heap b c l m}):=
 .of_wp fun prog w A R s hyp=>by
  obtain⟨hp,gs,dr,tk,os⟩:=s
  obtain⟨i1,i2,hyp⟩:=hyp
  have hsub:=sub_zip
  have i3:KW (Shared.heap ⟨zh1 hp b l,gs,dr,tk,os⟩) c m ys:=KW.push i2 _
  cases b<;>cases c
  ·have a1:Heap.IsList (Shared.heap ⟨hp,gs,dr,tk,os⟩) l xs:=i1
   have a2:Heap.IsList (Shared.heap ⟨hp.push {cls:=.type "list_iterator",data:=.fields #[.ref l,.int 0 0]},gs,dr,tk,os⟩) m ys:=i3
   wp_walk using wpAny_pyIter_list a1,wpAny_pyIter_list a2
   exact⟨_,rfl,hyp⟩
  ·have a1:Heap.IsList (Shared.heap ⟨hp,gs,dr,tk,os⟩) l xs:=i1
   have a2:Heap.IsTuple (Shared.heap ⟨hp.push {cls:=.type "list_iterator",data:=.fields #[.ref l,.int 0 0]},gs,dr,tk,os⟩) m ys:=i3
   wp_walk using wpAny_pyIter_list a1,wpAny_pyIter_tuple a2
   exact⟨_,rfl,hyp⟩
  ·have a1:Heap.IsTuple (Shared.heap ⟨hp,gs,dr,tk,os⟩) l xs:=i1
   have a2:Heap.IsList (Shared.heap ⟨hp.push {cls:=.type "tuple_iterator",data:=.fields #[.ref l,.int 0 0]},gs,dr,tk,os⟩) m ys:=i3
   wp_walk using wpAny_pyIter_tuple a1,wpAny_pyIter_list a2
   exact⟨_,rfl,hyp⟩
  ·have a1:Heap.IsTuple (Shared.heap ⟨hp,gs,dr,tk,os⟩) l xs:=i1
   have a2:Heap.IsTuple (Shared.heap ⟨hp.push {cls:=.type "tuple_iterator",data:=.fields #[.ref l,.int 0 0]},gs,dr,tk,os⟩) m ys:=i3
   wp_walk using wpAny_pyIter_tuple a1,wpAny_pyIter_tuple a2
   exact⟨_,rfl,hyp⟩
section
variable{prog:Program}{w:World}{A:Around}{E:Value->Shared->Prop}{s:Shared}
theorem VX{h h':Heap}{b:Bool}{l j:Addr}{its:Array Value}(q:KW h b l its)(k:∀c o,h.get? c=some o->h'.get? c=some o)(e:h'.get? j=some {cls:=.type (Y8 b),data:=.fields #[.ref l,.int 0 0]}):SIt h' j l 0 its:=by
 cases b
 ·exact .inl ⟨⟨_,e,rfl,rfl⟩,(show h.IsList l its from q).at fun o z=>k _ o z⟩
 ·exact .inr ⟨⟨_,e,rfl,rfl⟩,let⟨o,z,r⟩:=(show h.IsTuple l its from q);⟨o,k _ o z,r⟩⟩
theorem P5{b c:Bool}{l m:Addr}{xs ys:Array Value}{Q:Value->Shared->Prop}(i1:KW s.heap b l xs)(i2:KW s.heap c m ys)
  (k:∀h',IsZip h' (s.heap.objs.size+4) (s.heap.objs.size+2) (s.heap.objs.size+3) .none->IsPair h' (s.heap.objs.size+2) (.ref s.heap.objs.size) (.ref (s.heap.objs.size+1))->
   IsPair h' (s.heap.objs.size+3) .none .none->SIt h' s.heap.objs.size l 0 xs->SIt h' (s.heap.objs.size+1) m 0 ys->(∀c o,s.heap.get? c=some o->h'.get? c=some o)->Q (.ref (s.heap.objs.size+4)) {s with heap:=h'}):
  wpAny (model prog w) A (call (.type "zip") [.ref l,.ref m]) Q E s:=by
 refine callType_new F.called_zip (by decide) (F.typeCall_zip_2 _ _) (F.newCall_zip_2 _ _) (fun obj=>F.args_object_init_3 obj _ _) F.entry_zip_new (Ul b c l m xs ys) ⟨i1,i2,?_⟩
 have z1:(zh1 s.heap b l).objs.size=s.heap.objs.size+1:=Heap.size_push ..
 have z2:(zh2 s.heap b c l m).objs.size=s.heap.objs.size+2:=by unfold zh2 zh1;rw[Heap.size_push];exact congrArg (· +1) z1
 have z3:(zh3 s.heap b c l m).objs.size=s.heap.objs.size+3:=by unfold zh3;rw[Heap.size_push,z2]
 have z4:(zh4 s.heap b c l m).objs.size=s.heap.objs.size+4:=by unfold zh4;rw[Heap.size_push,z3]
 have kp:∀d o,s.heap.get? d=some o->(zh5 s.heap b c l m).get? d=some o:=fun d o e=>by
  unfold zh5 zh4 zh3 zh2 zh1
  exact Heap.get?_push_of_some _ (Heap.get?_push_of_some _ (Heap.get?_push_of_some _ (Heap.get?_push_of_some _ (Heap.get?_push_of_some _ e))))
 have g5:(zh5 s.heap b c l m).get? (zh4 s.heap b c l m).objs.size=some _:=Heap.get?_push_size _ rfl
 have g4:(zh5 s.heap b c l m).get? (zh3 s.heap b c l m).objs.size=some _:=Heap.get?_push_of_some _ (Heap.get?_push_size _ rfl)
 have g3:(zh5 s.heap b c l m).get? (zh2 s.heap b c l m).objs.size=some _:=Heap.get?_push_of_some _ (Heap.get?_push_of_some _ (Heap.get?_push_size _ rfl))
 have g2:(zh5 s.heap b c l m).get? (zh1 s.heap b l).objs.size=some _:=Heap.get?_push_of_some _ (Heap.get?_push_of_some _ (Heap.get?_push_of_some _ (Heap.get?_push_size _ rfl)))
 have g1:(zh5 s.heap b c l m).get? s.heap.objs.size=some _:=Heap.get?_push_of_some _ (Heap.get?_push_of_some _ (Heap.get?_push_of_some _ (Heap.get?_push_of_some _ (Heap.get?_push_size _ rfl))))
 show _/\_
 rw[z2,z3,z4]at g5
 rw[z1,z2]at g3
 rw[z3]at g4
 rw[z1]at g2
 rw[z4]
 exact⟨⟨_,g5,rfl⟩,k _ g5 g3 g4 (VX i1 kp g1) (VX i2 kp g2) kp⟩
end
end L2
end
noncomputable section
namespace L2
open PySem PySem.Spec PyProof.Rows
def SqB(K:PySem.W.Frag)(H:Hp)(k:Bool)(a:Addr)(xs:List V):Prop:=match k with|true=>SqT K H a xs|false=>SqL K H a xs
def JIt(h:Heap)(k:Bool)(j l:Addr)(i:Nat):Prop:=match k with|true=>h.IsTupleIter j l i|false=>h.IsListIter j l i
theorem JIt.at{h h':Heap}{k:Bool}{j l:Addr}{i:Nat}(q:JIt h k j l i)(e:∀o,h.get? j=some o->h'.get? j=some o):JIt h' k j l i:=by
 cases k
 ·exact Heap.IsListIter.at q e
 ·exact Heap.IsTupleIter.at q e
theorem JIt.sit{h:Heap}{k:Bool}{j l:Addr}{i:Nat}{its:Array Value}(q:JIt h k j l i)(p:KW h k l its):SIt h j l i its:=by
 cases k
 ·exact .inl ⟨q,p⟩
 ·exact .inr ⟨q,p⟩
theorem SIt.jit{h:Heap}{k:Bool}{j l:Addr}{i:Nat}{its:Array Value}(q:SIt h j l i its)(p:KW h k l its):JIt h k j l i:=by
 rcases q with⟨q,r⟩|⟨q,r⟩
 ·cases k
  ·exact q
  ·obtain⟨o,e,c,_⟩:=r;obtain⟨o',e',c',_⟩:=(show h.IsTuple l its from p)
   rw[e]at e';cases e';rw[c]at c';injection c' with z;exact absurd z (by decide)
 ·cases k
  ·obtain⟨o,e,c,_⟩:=r;obtain⟨o',e',c',_⟩:=(show h.IsList l its from p)
   rw[e]at e';cases e';rw[c]at c';injection c' with z;exact absurd z (by decide)
  ·exact q
theorem Inv.sqB{X:Cx}{pins:List (Addr×Obj)}{σ:St}{H:Hp}{s:Shared}{k:Bool}{a:Addr}{xs:List V}(I:Inv X pins σ H s)(h:SqB X.K H k a xs):∃its:List Value,Vals xs its/\KW s.heap k a its.toArray:=by
 cases k
 ·obtain⟨its,h1,⟨o,n,q1,q2,_,q3⟩,h3⟩:=I.list h
  exact⟨its,h1,o,q1,q2,n,q3⟩
 ·obtain⟨its,h1,h2,h3⟩:=I.tuple h
  exact⟨its,h1,h2⟩
theorem Inv.sqB_inj{X:Cx}{pins:List (Addr×Obj)}{σ:St}{H:Hp}{s:Shared}{k:Bool}{a:Addr}{xs ys:List V}(I:Inv X pins σ H s)(h:SqB X.K H k a xs)(g:SqB X.K H k a ys):xs=ys:=by
 cases k
 ·exact I.list_inj h g
 ·exact I.tuple_inj h g
noncomputable def Itz(K:PySem.W.Frag)(k:Bool)(a:Addr)(m:Bool)(b:Addr):It:=
  ⟨fun i H=>∃(xs ys:List V) (x y:V),SqB K H k a xs/\SqB K H m b ys/\xs[i]?=some x/\ys[i]?=some y,
   fun i H v H'=>∃(p:Addr) (x y:V),H p=none/\v=.ref p/\(∀xs,SqB K H k a xs->xs[i]?=some x)/\(∀ys,SqB K H m b ys->ys[i]?=some y)/\H'=upd H p (.tup [x,y]),
   fun i H=>∃(xs ys:List V),SqB K H k a xs/\SqB K H m b ys/\(xs.length≤i∨ys.length≤i)⟩
structure ZSt(h:Heap)(z ti tt j1 j2:Addr)(k:Bool)(a:Addr)(m:Bool)(b:Addr)(i:Nat):Prop where
 oz:IsZip h z ti tt .none
 oi:IsPair h ti (.ref j1) (.ref j2)
 ot:∃u v,IsPair h tt u v
 q1:JIt h k j1 a i
 q2:JIt h m j2 b i
structure ZNe(z ti tt j1 j2:Addr):Prop where
 n1:ti≠z
 n2:tt≠z
 n3:j1≠z
 n4:j2≠z
 n5:ti≠tt
 n6:ti≠j1
 n7:ti≠j2
 n8:tt≠j1
 n9:tt≠j2
 n10:j1≠j2
theorem ZNe.apart{z ti tt j1 j2 a b:Addr}(N:ZNe z ti tt j1 j2)(ha:a∉ [z,tt,j1,j2])(hb:b∉ [z,tt,j1,j2]):ZipApart z ti tt j1 j2 a b:=by
 simp only[List.mem_cons,List.not_mem_nil,or_false,not_or]at ha hb
 exact⟨N.n1,N.n2,N.n3,N.n4,N.n5,N.n6,N.n7,N.n8,N.n9,N.n10,ha.1,ha.2.1,ha.2.2.1,ha.2.2.2,hb.1,hb.2.1,hb.2.2.1,hb.2.2.2⟩
theorem Bb{X:Cx}{pins:List (Addr×Obj)}{σ:St}{H:Hp}{s:Shared}{k:Bool}{a c:Addr}{xs:List V}(I:Inv X pins σ H s)(q:SqB X.K H k a xs)(f:N8 X pins H c):a≠c:=by
 intro e
 subst e
 have rd:∀o,Rd H a o->False:=fun o r=>by
  rcases r with r|⟨_,r⟩<;>(rw[f.1]at r;cases r)
 have kk:∀o,X.K.lookup a=some o->False:=fun o hk=>by
  have b:=I.ok.mod.kin a o hk
  rcases f.2.2.2.1 with z|z
  ·exact I.ok.noex a o b z
  ·exact absurd (Nat.lt_of_lt_of_le (Heap.lt_size (I.ok.bs a o b).1) z) (Nat.lt_irrefl _)
 cases k
 ·rcases(show SqL X.K H a xs from q)with q|⟨o,_,_,hk,_⟩
  ·exact rd _ q
  ·exact kk o hk
 ·rcases(show SqT X.K H a xs from q)with q|⟨o,_,_,hk,_⟩
  ·exact rd _ q
  ·exact kk o hk
theorem UM{P:Program}{w:World}{K:PySem.W.Frag}{elts:List Expr}{n:Nat}{pos:Pos}(k:Bool)(a:Addr)(m:Bool)(b:Addr)(z ti tt j1 j2:Addr)(N:ZNe z ti tt j1 j2):
  Turn P w K (.Tuple elts n pos) (Itz K k a m b) [z,ti,tt,j1,j2] z (fun i h=>ZSt h z ti tt j1 j2 k a m b i) where
 mem:=by simp
 obj := fun i h st c hc => by
  have jl:∀{q:Bool} {j l:Addr},JIt h q j l i->∃o,h.get? j=some o/\∀v,o.data≠.cell v:=fun{q j l} x=>by
   cases q
   ·obtain⟨o,e,_,d⟩:=(show h.IsListIter j l i from x)
    exact⟨o,e,fun v z=>by rw[d]at z;cases z⟩
   ·obtain⟨o,e,_,d⟩:=(show h.IsTupleIter j l i from x)
    exact⟨o,e,fun v z=>by rw[d]at z;cases z⟩
  simp only[List.mem_cons,List.not_mem_nil,or_false]at hc
  rcases hc with rfl|rfl|rfl|rfl|rfl
  ·exact⟨_,st.oz,fun v z=>nomatch z⟩
  ·exact⟨_,st.oi,fun v z=>nomatch z⟩
  ·obtain⟨u,v,e⟩:=st.ot
   exact⟨_,e,fun v z=>nomatch z⟩
  ·exact jl st.q1
  ·exact jl st.q2
 keep:=fun i h h' st kp=>⟨kp z (by simp) _ st.oz,kp ti (by simp) _ st.oi,let⟨u,v,e⟩:=st.ot;⟨u,v,kp tt (by simp) _ e⟩,st.q1.at fun o e=>kp j1 (by simp) o e,st.q2.at fun o e=>kp j2 (by simp) o e⟩
 item := by
  intro X hP hw hK hc i pins s σ H E I hf st hg
  subst hP hw hK
  obtain⟨xs,ys,x,y,s1,s2,e1,e2⟩:=hg
  obtain⟨i1,r1,p1⟩:=I.sqB s1
  obtain⟨i2,r2,p2⟩:=I.sqB s2
  obtain⟨u1,h1,ru1⟩:=r1.get e1
  obtain⟨u2,h2,ru2⟩:=r2.get e2
  have fz:=hf z (by simp);have fi:=hf ti (by simp);have ft:=hf tt (by simp);have f1:=hf j1 (by simp);have f2:=hf j2 (by simp)
  have ap:=N.apart (a:=a) (b:=b) (by simp[Bb I s1 fz,Bb I s1 ft,Bb I s1 f1,Bb I s1 f2]) (by simp[Bb I s2 fz,Bb I s2 ft,Bb I s2 f1,Bb I s2 f2])
  obtain⟨v1,v2,ot⟩:=st.ot
  refine Pc ap st.oz st.oi ot (st.q1.sit p1) (st.q2.sit p2) (x:=u1) (y:=u2) (by simpa using h1) (by simpa using h2) fun h' oz ot' q1 q2 op kp=>⟨_,rfl,wpAny_letOwnedTupleGo_zip oz fun g oz' sb=>?_⟩
  have lt:∀c o,s.heap.get? c=some o->c≠s.heap.objs.size:=fun c o q=>Nat.ne_of_lt (Heap.lt_size q)
  have nz:z≠s.heap.objs.size:=lt _ _ st.oz
  have nt:tt≠s.heap.objs.size:=lt _ _ ot
  have n1:j1≠s.heap.objs.size:=by obtain⟨o,e,_⟩:=(st.q1.sit p1).live;exact lt _ _ e
  have n2:j2≠s.heap.objs.size:=by obtain⟨o,e,_⟩:=(st.q2.sit p2).live;exact lt _ _ e
  have kp2:∀c o,c≠z->c≠tt->c≠j1->c≠j2->s.heap.get? c=some o->g.get? c=some o:=fun c o c1 c2 c3 c4 q=>(sb.2 c c1).trans (kp c o c1 c2 c3 c4 q)
  have fr:H s.heap.objs.size=none:=I.hok.fresh (Nat.le_refl _)
  have op2:g.get? s.heap.objs.size=some {cls:=.type "tuple",data:=.seq #[u1,u2]}:=(sb.2 _ (Ne.symm nz)).trans op
  have ne:∀c u,c∈ [z,ti,tt,j1,j2]->∀d,H d=some u->d≠c:=fun c u hc d q e=>by rw[e,(hf c hc).1]at q;cases q
  have kpH:∀c u,H c=some u->∀o,s.heap.get? c=some o->g.get? c=some o:=fun c u q o e=>kp2 c o (ne z u (by simp) c q) (ne tt u (by simp) c q) (ne j1 u (by simp) c q) (ne j2 u (by simp) c q) e
  have ka:∀o,s.heap.get? a=some o->g.get? a=some o:=fun o e=>kp2 a o (Bb I s1 fz) (Bb I s1 ft) (Bb I s1 f1) (Bb I s1 f2) e
  have kb:∀o,s.heap.get? b=some o->g.get? b=some o:=fun o e=>kp2 b o (Bb I s2 fz) (Bb I s2 ft) (Bb I s2 f1) (Bb I s2 f2) e
  have sq:∀{q:Bool} {d:Addr} {is:Array Value},KW s.heap q d is->(∀o,s.heap.get? d=some o->h'.get? d=some o)->KW h' q d is:=fun{q d is} x kd=>by
   cases q
   ·exact(show s.heap.IsList d is from x).at kd
   ·obtain⟨o,e,r⟩:=(show s.heap.IsTuple d is from x)
    exact⟨o,kd o e,r⟩
  have ka1:∀o,s.heap.get? a=some o->h'.get? a=some o:=fun o e=>kp a o (Bb I s1 fz) (Bb I s1 ft) (Bb I s1 f1) (Bb I s1 f2) e
  have kb1:∀o,s.heap.get? b=some o->h'.get? b=some o:=fun o e=>kp b o (Bb I s2 fz) (Bb I s2 ft) (Bb I s2 f1) (Bb I s2 f2) e
  refine⟨.ref s.heap.objs.size,upd H s.heap.objs.size (.tup [x,y]),?_,rfl,⟨_,x,y,fr,rfl,fun zs hz=>by rw[I.sqB_inj hz s1];exact e1,fun zs hz=>by rw[I.sqB_inj hz s2];exact e2,rfl⟩,⟨oz',(sb.2 _ N.n1).trans (kp ti _ N.n1 N.n5 N.n6 N.n7 st.oi),⟨_,_,(sb.2 _ N.n2).trans ot'⟩,(q1.jit (sq p1 ka1)).at fun o e=>(sb.2 _ N.n3).trans e,(q2.jit (sq p2 kb1)).at fun o e=>(sb.2 _ N.n4).trans e⟩,?_⟩
  ·show Inv X pins σ _ {s with heap:=g,gens:=s.gens,drawn:=s.drawn,toks:=s.toks}
   refine I.step (g':=s.gens) (d':=s.drawn) (ch:=[z,tt,j1,j2]) ?_ ?_ ?_ ?_ ?_ ?_ ?_ ?_ ?_ ?_ I.bare
   ·intro c hc
    have q:N8 X pins H c:=hf c (by simp only[List.mem_cons,List.not_mem_nil,or_false]at hc ⊢; rcases hc with z|z|z|z<;>simp[z])
    exact⟨q.2.2.2.1,q.2.1,q.2.2.2.2.1,q.2.2.2.2.2⟩
   ·exact fun c o _ _ hc q _=>by
     simp only[List.mem_cons,List.not_mem_nil,or_false,not_or]at hc
     exact kp2 c o hc.1 hc.2.1 hc.2.2.1 hc.2.2.2 q
   ·exact fun c o _ _ hc q _=>by
     simp only[List.mem_cons,List.not_mem_nil,or_false,not_or]at hc
     exact⟨o.slots,kp2 c o hc.1 hc.2.1 hc.2.2.1 hc.2.2.2 q⟩
   ·exact fun c o _ q n=>by rw[Al (lt c o q)];exact n
   ·exact fun c o hc q=>by
     simp only[List.mem_cons,List.not_mem_nil,or_false,not_or]at hc
     exact⟨o,kp2 c o hc.1 hc.2.1 hc.2.2.1 hc.2.2.2 q⟩
   ·exact fun c ys q=>by rw[Al (BR q fr)];exact q
   ·exact fun c o u q=>by rw[Al (BR q fr)];exact q
   ·exact fun c ps q=>⟨#[],by rw[Al (BR q fr),q];simp⟩
   ·rintro mm ⟨o,es,ep,ho,r⟩
    exact⟨o,es,ep,kp2 _ o (Ne.symm fz.2.1) (Ne.symm ft.2.1) (Ne.symm f1.2.1) (Ne.symm f2.2.1) ho,r⟩
   ·intro c v q
    by_cases hb:c=s.heap.objs.size
    ·subst hb
     rw[BK]at q
     cases q
     exact⟨by show 2≤sizeLine;decide,[u1,u2],.cons ru1 (.cons ru2 .nil),⟨_,op2,rfl,0,rfl⟩⟩
    ·rw[Al hb]at q
     refine(I.hok c v q).stay (fun d o hd r=>?_) (fun d r=>by rw[Al (BR r fr)];exact r) (fun d ys r=>by rw[Al (BR r fr)];exact r)
     rcases hd with e|e
     ·rw[e]at r ⊢; exact kpH c v q o r
     ·exact kpH d _ e o r
  ·intro c hc
   have q:=hf c hc
   have:c≠s.heap.objs.size:=by
    simp only[List.mem_cons,List.not_mem_nil,or_false]at hc
    rcases hc with e|e|e|e|e
    ·rw[e];exact nz
    ·rw[e];exact lt _ _ st.oi
    ·rw[e];exact nt
    ·rw[e];exact n1
    ·rw[e];exact n2
   rw[Al this];exact q.1
 done:=by
  intro X hP hw hK hc i pins s σ H E I hf st hg
  subst hP hw hK
  obtain⟨xs,ys,s1,s2,e⟩:=hg
  obtain⟨i1,r1,p1⟩:=I.sqB s1
  obtain⟨i2,r2,p2⟩:=I.sqB s2
  have l1:=r1.length
  have l2:=r2.length
  have hh:X.A.in1.handled=none:=I.ok.hd hc
  have hh0:X.A.handled=none:=I.ok.hd hc
  have fz:=hf z (by simp);have fi:=hf ti (by simp);have ft:=hf tt (by simp);have f1:=hf j1 (by simp);have f2:=hf j2 (by simp)
  have ap:=N.apart (a:=a) (b:=b) (by simp[Bb I s1 fz,Bb I s1 ft,Bb I s1 f1,Bb I s1 f2]) (by simp[Bb I s2 fz,Bb I s2 ft,Bb I s2 f1,Bb I s2 f2])
  obtain⟨v1,v2,ot⟩:=st.ot
  refine Q5 hh0 ap st.oz st.oi ot (st.q1.sit p1) (st.q2.sit p2) (by rcases e with e|e;exact .inl (by simp;omega);exact .inr (by simp;omega)) fun h' kp=>⟨rfl,?_⟩
  have ne:∀c u,c∈ [z,ti,tt,j1,j2]->∀d,H d=some u->d≠c:=fun c u hc d q e=>by rw[e,(hf c hc).1]at q;cases q
  show Inv X pins σ _ {s with heap:=h',gens:=s.gens,drawn:=s.drawn,toks:=s.toks}
  refine I.step (g':=s.gens) (d':=s.drawn) (ch:=[z,tt,j1,j2]) ?_ ?_ ?_ ?_ ?_ ?_ ?_ ?_ ?_ ?_ I.bare
  ·intro c hc
   have q:N8 X pins H c:=hf c (by simp only[List.mem_cons,List.not_mem_nil,or_false]at hc ⊢; rcases hc with z|z|z|z<;>simp[z])
   exact⟨q.2.2.2.1,q.2.1,q.2.2.2.2.1,q.2.2.2.2.2⟩
  ·exact fun c o _ _ hc q _=>by
    simp only[List.mem_cons,List.not_mem_nil,or_false,not_or]at hc
    exact kp c o hc.1 hc.2.1 hc.2.2.1 hc.2.2.2 q
  ·exact fun c o _ _ hc q _=>by
    simp only[List.mem_cons,List.not_mem_nil,or_false,not_or]at hc
    exact⟨o.slots,kp c o hc.1 hc.2.1 hc.2.2.1 hc.2.2.2 q⟩
  ·exact fun c o _ q n=>n
  ·exact fun c o hc q=>by
    simp only[List.mem_cons,List.not_mem_nil,or_false,not_or]at hc
    exact⟨o,kp c o hc.1 hc.2.1 hc.2.2.1 hc.2.2.2 q⟩
  ·exact fun c ys q=>q
  ·exact fun c o u q=>q
  ·exact fun c ps q=>⟨#[],by rw[q];simp⟩
  ·rintro mm ⟨o,es,ep,ho,r⟩
   exact⟨o,es,ep,kp _ o (Ne.symm fz.2.1) (Ne.symm ft.2.1) (Ne.symm f1.2.1) (Ne.symm f2.2.1) ho,r⟩
  ·intro c v q
   refine(I.hok c v q).stay (fun d o hd r=>?_) (fun d r=>r) (fun d ys r=>r)
   rcases hd with e|e
   ·rw[e]at r ⊢; exact kp c o (ne z v (by simp) c q) (ne tt v (by simp) c q) (ne j1 v (by simp) c q) (ne j2 v (by simp) c q) r
   ·exact kp d o (ne z _ (by simp) d e) (ne tt _ (by simp) d e) (ne j1 _ (by simp) d e) (ne j2 _ (by simp) d e) r
 self:=fun _ _ _ _ _ st h=>wpAny_pyIter_zip st.oz h
end L2
end
noncomputable section
namespace L2
open PySem PySem.Spec PyProof.Rows
theorem zne(n:Nat):ZNe (n+4) (n+2) (n+3) n (n+1):=⟨fun e=>by have:n+2=n+4:=e;omega,fun e=>by have:n+3=n+4:=e;omega,fun e=>by have:n=n+4:=e;omega,fun e=>by have:n+1=n+4:=e;omega,fun e=>by have:n+2=n+3:=e;omega,fun e=>by have:n+2=n:=e;omega,fun e=>by have:n+2=n+1:=e;omega,fun e=>by have:n+3=n:=e;omega,fun e=>by have:n+3=n+1:=e;omega,fun e=>by have:n=n+1:=e;omega⟩
section
variable{X:Cx}
noncomputable def ff(K:PySem.W.Frag)(ta:TA):TI:=fun σ H R=>ta σ H fun vs H1=>∃k a m b,vs=[.ref a,.ref b]/\(∃xs,SqB K H1 k a xs)/\(∃ys,SqB K H1 m b ys)/\R (Itz K k a m b) H1
theorem YO{a b:Expr}{ta:TA}{p pos tp:Pos}{elts:List Expr}{n:Nat}(hg:Gl X "zip")(hm:X.mg "zip"=none)(ha:PA X [a,b] ta)(hs:starEach [a,b] X.env=[(false,eval a X.env),(false,eval b X.env)]:=by rfl)(hs2:starEach [b] X.env=[(false,eval b X.env)]:=by rfl):
  PI X (.Tuple elts n tp) (.Call (.Name "zip" p) [a,b] [] pos) (ff X.K ta):=by
 intro pins s σ H R I h
 refine Call_ (JP I hg hm boot_zip (PyProof.Rows.callWith_type1 (thn (ha pos pins s σ H _ I h) fun us s1 ⟨vs,H1,I1,r1,q1⟩=>?_) (by rw[hs,hs2]) (by rw[hs2];rfl)))
 obtain⟨k,a',m,b',e,⟨xs,hq⟩,⟨ys,hr⟩,q⟩:=q1
 subst e
 obtain⟨u,v,rfl,ru,rv⟩:=r1.two
 cases (show u=Value.ref a' from ru)
 cases (show v=Value.ref b' from rv)
 obtain⟨i1,v1,p1⟩:=I1.sqB hq
 obtain⟨i2,v2,p2⟩:=I1.sqB hr
 refine P5 p1 p2 fun h' oz oi ot q1 q2 kp=>wpAny_pyIter_zip (s:={s1 with heap:=h'}) oz ?_
 have sq:∀{q:Bool} {d:Addr} {is:Array Value},KW s1.heap q d is->KW h' q d is:=fun{q d is} x=>by
  cases q
  ·exact(show s1.heap.IsList d is from x).at fun o e=>kp _ o e
  ·obtain⟨o,e,r⟩:=(show s1.heap.IsTuple d is from x)
   exact⟨o,kp _ o e,r⟩
 refine⟨s1.heap.objs.size+4,[s1.heap.objs.size+4,s1.heap.objs.size+2,s1.heap.objs.size+3,s1.heap.objs.size,s1.heap.objs.size+1],_,_,H1,rfl,I1.kept (t':=s1.toks) kp,
  UM k a' m b' _ _ _ _ _ (zne s1.heap.objs.size),⟨oz,oi,⟨_,_,ot⟩,q1.jit (sq p1),q2.jit (sq p2)⟩,fun c hc=>?_,q⟩
 simp only[List.mem_cons,List.not_mem_nil,or_false]at hc
 have:s1.heap.objs.size≤c:=by rcases hc with rfl|rfl|rfl|rfl|rfl<;>first|exact Nat.le_refl _|exact Nat.le_add_right _ _
 exact I1.fpOk this (I1.hok.fresh this)
end
end L2
end
noncomputable section
namespace L2
open PySem PySem.Spec PyProof.Rows
section
variable{prog:Program}{w:World}{A:Around}{E:Value->Shared->Prop}{s:Shared}
theorem IsList.at_ext{h h':Heap}{a:Addr}{items:Array Value}(p:h.IsList a items)(k:∀o,h.get? a=some o->h'.get? a=some o):h'.IsList a items:=by
 obtain⟨o,ho,r⟩:=p
 exact⟨o,k o ho,r⟩
theorem NC{it t:Addr}{items:Array Value}(hne:t≠it):∀(n i:Nat) (s:Shared) (Q:List Value->Shared->Prop),s.heap.IsListIter it t i->s.heap.IsList t items->i+n≤items.size->
    (∀h',h'.IsListIter it t (i+n)->Heap.SameBut it s.heap h'->Q ((items.toList.drop i).take n) {s with heap:=h'})->wpAny (model prog w) A (draw (.ref it) n) Q E s
  | 0, i, s, Q, hit, _, _, hQ => by
    show wpAny _ _ (pure []) Q E s
    exact wpAny_pure (by simpa using hQ s.heap hit (Heap.SameBut.refl ..))
  | n + 1, i, s, Q, hit, ht, hle, hQ => by
    have hlt:i<items.size:=by omega
    show wpAny _ _ (pyNext (.ref it) >>= _) Q E s
    refine wpAny_bind (wpAny_pyNext_list_item hit ht (x:=items[i]) (by simp[hlt]) fun h1 hit1 hs1=>?_)
    refine wpAny_bind (wpAny_holding (NC hne n (i+1) _ _ hit1 (IsList.at_ext ht fun o e=>hs1.extBut t o hne e) (by omega) fun h2 hit2 hs2=>wpAny_pure ?_))
    have hd:items.toList.drop i=items[i]::items.toList.drop (i+1):=by simp[List.drop_eq_getElem_cons,hlt]
    have:=hQ h2 (by rw[show i+(n+1)=i+1+n by omega];exact hit2) (hs1.trans hs2)
    rw[hd,List.take_succ_cons]at this
    exact this
theorem Ig{t:Addr}{items:Array Value}{Q:List Value->Shared->Prop}(hh:A.handled=none)(ht:s.heap.IsList t items)(hty:s.TypeIs (.ref t) "list")
  (hQ:∀h',Heap.ExtBut s.heap.objs.size s.heap h'->Q items.toList {s with heap:=h'}):wpAny (model prog w) A (unpackItems (.ref t) items.size none) Q E s:=by
 have hlt:t≠s.heap.objs.size:=by obtain⟨o,ho,_⟩:=ht;exact Nat.ne_of_lt (Heap.lt_size ho)
 unfold unpackItems
 refine wpAny_bind ?_
 ·unfold notIterableAtAll
  refine wpAny_bind (wpAny_specialOf hty F.slot_list_iter.lookup ?_)
  refine wpAny_pure ?_
  simp only[Bool.false_eq_true,if_false]
  refine wpAny_bind (wpAny_holding (wpAny_pyIter_list ht ?_))
  refine wpAny_bind (wpAny_holding (NC hlt items.size 0 _ _ ⟨_,Heap.get?_push_size _ rfl,rfl,rfl⟩ (IsList.at_ext ht fun o e=>Heap.get?_push_of_some _ e) (by omega) fun h1 hit1 hs1=>?_))
  have hall:List.take items.size (List.drop 0 items.toList)=items.toList:=by
   rw[List.drop_zero];exact List.take_of_length_le (by simp)
  rw[hall]
  rw[if_neg (by simp)]
  have ht1:h1.IsList t items:=IsList.at_ext (IsList.at_ext ht fun o e=>Heap.get?_push_of_some _ e) fun o e=>hs1.extBut t o hlt e
  refine wpAny_bind (wpAny_holding (wpAny_pyNext_list_end hh hit1 ht1 (by simp) fun h2 he2=>?_))
  simp only[Option.isSome_none,Bool.false_eq_true,if_false]
  refine wpAny_pure (hQ h2 fun b o hb e=>he2 b o hb (hs1.extBut b o hb (Heap.get?_push_of_some _ e)))
theorem Hl{env:Env}{elts:List Expr}{x1}{pos:Pos}{t:Addr}{items:Array Value}{Q:Unit->Shared->Prop}(hh:A.handled=none)(ht:s.heap.IsList t items)(hty:s.TypeIs (.ref t) "list")
  (hn:(assignEach elts env).length=items.size) (hstar:(assignEach elts env).findIdx? (·.1)=none)
  (h:∀h',Heap.ExtBut s.heap.objs.size s.heap h'->wpAny (model prog w) A (assignInOrder ((assignEach elts env).map (·.2)) items.toList) Q E {s with heap:=h'}):
  wpAny (model prog w) A (assign (.Tuple elts x1 pos) env (.ref t)) Q E s:=by
 rw[PyProof.Rows.assign_Tuple]
 refine wpAny_bind (wpAny_standAt ?_)
 unfold unpack
 rw[hn,hstar]
 exact wpAny_bind (wpAny_holding (Ig hh ht hty h))
end
section
variable{X:Cx}{pos:Pos}
noncomputable def fY(K:PySem.W.Frag)(n:Nat)(t:TGs):TG:=fun v σ H Q=>∃a xs,v=.ref a/\(SqT K H a xs∨H a=some (.lst xs))/\xs.length=n/\t xs σ H Q
theorem YE{es:List Expr}{k:Nat}{t:TGs}{n:Nat}(hc:X.calm=true)(h:PGs X es t)
  (hn:(assignEach es X.env).length=n:=by rfl) (hst:(assignEach es X.env).findIdx? (·.1)=none:=by rfl):PG X (.Tuple es k pos) (fY X.K n t):=by
 intro pins s σ H v u Q I r hw
 obtain⟨a,xs,e1,hq,hl,hw⟩:=hw
 rcases hq with hq|hq
 ·exact Yo hc h hn hst pins s σ H v u Q I r ⟨a,xs,e1,hq,hl,hw⟩
 ·subst e1
  cases r
  obtain⟨its,rv,p,hz⟩:=I.list (SqL.of hq)
  obtain⟨z,its2,m,rv2,_,e⟩:=I.lstM hq
  refine Hl (I.ok.hd hc) p.isList ⟨_,e,rfl⟩ (by simp[hn,←hl,rv.length]) hst fun h' hx=>?_
  have I1:Inv X pins σ H {s with heap:=h'}:=I.kept (t':=s.toks) fun b o e=>hx b o (Nat.ne_of_lt (Heap.lt_size e)) e
  exact h pins _ σ H xs _ Q I1 (by simpa using rv) hw
end
end L2
end
noncomputable section
namespace L2
open PySem PySem.Spec PyProof.Rows
theorem JIt.live{h:Heap}{k:Bool}{j l:Addr}{i:Nat}(q:JIt h k j l i):∃o,h.get? j=some o/\∀v,o.data≠.cell v:=by
 cases k with
 |true=>obtain⟨o,e,c,d⟩:=q;exact⟨o,e,fun v z=>by rw[d]at z;cases z⟩
 |false=>obtain⟨o,e,c,d⟩:=q;exact⟨o,e,fun v z=>by rw[d]at z;cases z⟩
theorem KW.mono{h h':Heap}{k:Bool}{l:Addr}{its:Array Value}(q:KW h k l its)(e:∀o,h.get? l=some o->h'.get? l=some o):KW h' k l its:=by
 cases k with
 |true=>obtain⟨o,ho,r⟩:=q;exact⟨o,e o ho,r⟩
 |false=>obtain⟨o,ho,r⟩:=q;exact⟨o,e o ho,r⟩
theorem QN{prog:Program}{w:World}{A:Around}(hh:A.handled=none)(it t:Addr)(hne:t≠it)(items:Array Value):
  Draws prog w A it [it,t] items.size (fun i v=>items[i]?=some v) (fun i h=>SIt h it t i items) where
 live:=fun _ _ st=>let⟨o,ho,_⟩:=st.live;⟨o,ho⟩
 frame:=fun _ _ _ st hk=>st.at (fun o e=>hk it (by simp) o e) fun o e=>hk t (by simp) o e
 item:=fun i s Q E hi st hQ=>JG st (x:=items[i]) (by simp[hi]) fun h' a b=>hQ _ h' s.toks (by simp[hi]) a b
 done:=fun s Q E st hE=>JD hh st (by simp) hE
noncomputable def ItE(K:PySem.W.Frag)(kk:Bool)(a:Addr):It:=
 ⟨fun i H=>∃xs x,SqB K H kk a xs/\xs[i]?=some x,fun i H x H'=>∃p y,H p=none/\x=.ref p/\(∀xs,SqB K H kk a xs->xs[i]?=some y)/\H'=upd H p (.tup [.int i,y]),fun i H=>∃xs,SqB K H kk a xs/\xs.length≤i⟩
theorem O7 {P : Program} {w : World} {K : PySem.W.Frag} {elts : List Expr} {k : Nat} {pos : Pos} (kk : Bool) (a e it : Addr) (hei : e ≠ it) : Turn P w K (.Tuple elts k pos) (ItE K kk a) [e, it] e (fun i h => (∃ old, IsEnum h e it i old) /\ JIt h kk it a i) where
  mem:=by simp
  obj:=fun i h st b hb=>by
    obtain⟨⟨old,h1⟩,st2⟩:=st
    obtain⟨o,h2,h4⟩:=st2.live
    simp only[List.mem_cons,List.not_mem_nil,or_false]at hb
    rcases hb with rfl|rfl
    ·exact⟨_,h1,fun v z=>nomatch z⟩
    ·exact⟨o,h2,h4⟩
  keep:=fun i h h' st k=>by
    obtain⟨⟨old,h1⟩,h2⟩:=st
    exact⟨⟨old,k e (by simp) _ h1⟩,h2.at fun o q=>k it (by simp) o q⟩
  item := by
    intro X hP hw hK hc i pins s σ H E I hf st hg
    subst hP hw hK
    obtain⟨xs,x,hq,hx⟩:=hg
    obtain⟨its,rv,p⟩:=I.sqB hq
    obtain⟨u,hu,ru⟩:=rv.get hx
    obtain⟨⟨old,h1⟩,h2⟩:=st
    obtain⟨oi,hi1,hi2⟩:=h2.live
    have hea:a≠e:=Bb I hq (hf e (by simp))
    have hia:a≠it:=Bb I hq (hf it (by simp))
    have hil:i<its.toArray.size:=by
      have:=(List.getElem?_eq_some_iff.mp hu).1
      simpa using this
    have hh:X.A.in1.handled=none:=I.ok.hd hc
    have D:=QN (prog:=X.prog) (w:=X.w) hh it a hia its.toArray
    refine wpAny_pyNext_enum_itemD D h1 (h2.sit p) hil hei (by simp[hei,Ne.symm hea]) ?_
    intro y h' tk hy out st' tup size kept
    have ey:y=u:=by
      have:its[i]?=some y:=by simpa using hy
      rw[hu]at this
      exact(Option.some.inj this).symm
    subst ey
    refine⟨_,rfl,wpAny_letOwnedTupleGo_enum out fun h'' en sb=>?_⟩
    have hfe:=hf e (by simp)
    have hfi:=hf it (by simp)
    have lt:∀b o,s.heap.get? b=some o->b≠s.heap.objs.size:=fun b o q=>Nat.ne_of_lt (Heap.lt_size q)
    have kept2:∀b o,b≠e->b≠it->s.heap.get? b=some o->h''.get? b=some o:=fun b o b1 b2 q=>(sb.2 b b1).trans (kept b o b1 b2 q)
    have fr:H s.heap.objs.size=none:=I.hok.fresh (Nat.le_refl _)
    have tup2:h''.get? s.heap.objs.size=some {cls:=.type "tuple",data:=.seq #[.int i tk,y]}:=(sb.2 _ (Ne.symm (lt e _ h1))).trans tup
    have ne1:∀b u,H b=some u->b≠e:=fun b u q z=>by rw[z,hfe.1]at q;cases q
    have ne2:∀b u,H b=some u->b≠it:=fun b u q z=>by rw[z,hfi.1]at q;cases q
    refine⟨.ref s.heap.objs.size,upd H s.heap.objs.size (.tup [.int i,x]),?_,rfl,⟨_,x,fr,rfl,fun ys hys=>by rw[I.sqB_inj hys hq];exact hx,rfl⟩,⟨⟨y,en⟩,?_⟩,?_⟩
    · show Inv X pins σ _ { s with heap := h'', gens := s.gens, drawn := s.drawn, toks := tk + 1 }
      refine I.step (g':=s.gens) (d':=s.drawn) (ch:=[e,it]) ?_ ?_ ?_ ?_ ?_ ?_ ?_ ?_ ?_ ?_ I.bare
      · intro b hb
        simp only[List.mem_cons,List.not_mem_nil,or_false]at hb
        rcases hb with rfl|rfl
        ·exact⟨hfe.2.2.2.1,hfe.2.1,hfe.2.2.2.2.1,hfe.2.2.2.2.2⟩
        ·exact⟨hfi.2.2.2.1,hfi.2.1,hfi.2.2.2.2.1,hfi.2.2.2.2.2⟩
      ·exact fun b o _ _ hc q _=>kept2 b o (fun z=>hc (by simp[z])) (fun z=>hc (by simp[z])) q
      ·exact fun b o _ _ hc q _=>⟨o.slots,kept2 b o (fun z=>hc (by simp[z])) (fun z=>hc (by simp[z])) q⟩
      ·exact fun b o _ q n=>by rw[Al (lt b o q)];exact n
      ·exact fun b o hc q=>⟨o,kept2 b o (fun z=>hc (by simp[z])) (fun z=>hc (by simp[z])) q⟩
      ·exact fun b ys q=>by rw[Al (BR q fr)];exact q
      ·exact fun b o u q=>by rw[Al (BR q fr)];exact q
      ·exact fun b ps q=>⟨#[],by rw[Al (BR q fr),q];simp⟩
      · rintro m ⟨o, es, ep, ho, r⟩
        exact⟨o,es,ep,kept2 _ o (Ne.symm hfe.2.1) (Ne.symm hfi.2.1) ho,r⟩
      · intro b v q
        by_cases hb:b=s.heap.objs.size
        · subst hb
          rw[BK]at q
          cases q
          exact⟨by show 2≤sizeLine;decide,[.int i tk,y],.cons ⟨tk,rfl⟩ (.cons ru .nil),⟨_,tup2,rfl,0,rfl⟩⟩
        · rw [Al hb] at q
          refine(I.hok b v q).stay (fun c z hc r=>kept2 c z ?_ ?_ r) (fun c r=>by rw[Al (BR r fr)];exact r) (fun c ys r=>by rw[Al (BR r fr)];exact r)
          · rcases hc with z | z
            ·rw[z];exact ne1 b v q
            ·exact ne1 c _ z
          · rcases hc with z | z
            ·rw[z];exact ne2 b v q
            ·exact ne2 c _ z
    · have pa : KW h'' kk a its.toArray := p.mono fun o q => kept2 a o hea hia q
      exact(st'.at (fun o q=>(sb.2 it (Ne.symm hei)).trans q) fun o q=>(sb.2 a hea).trans q).jit pa
    · intro b hb
      simp only[List.mem_cons,List.not_mem_nil,or_false]at hb
      rcases hb with rfl|rfl
      ·rw[Al (lt b _ h1)];exact hfe.1
      ·rw[Al (lt b _ hi1)];exact hfi.1
  done := by
    intro X hP hw hK hc i pins s σ H E I hf st hg
    subst hP hw hK
    obtain⟨xs,hq,hx⟩:=hg
    obtain⟨its,rv,p⟩:=I.sqB hq
    obtain⟨⟨old,h1⟩,h2⟩:=st
    have hl:=rv.length
    have hh:X.A.in1.handled=none:=I.ok.hd hc
    obtain⟨f0,f1,f2,f3,f4,f5⟩:=hf it (by simp)
    have D:Draws X.prog X.w X.A.in1 it [it,a] i (fun _ _=>True) (fun j h=>j=i/\SIt h it a i its.toArray):=
      { live := fun _ _ st => let ⟨o, ho, _⟩ := st.2.live; ⟨o, ho⟩
        frame:=fun _ _ _ st hk=>⟨st.1,st.2.at (fun o e=>hk it (by simp) o e) fun o e=>hk a (by simp) o e⟩
        item:=fun j s Q E hj st _=>absurd st.1 (Nat.ne_of_lt hj)
        done:=fun s Q E st hE=>JD hh st.2 (by simp;omega) hE}
    exact wpAny_pyNext_enum_endD D h1 ⟨rfl,h2.sit p⟩ fun h' eb=>⟨rfl,I.turned (t':=s.toks) (fun b o hb q=>eb b o hb q) f0 f1 f3 f4 f5⟩
  self:=fun _ _ _ _ _ st h=>by
    obtain⟨⟨old,h1⟩,_⟩:=st
    exact wpAny_pyIter_enum h1 h
section
variable{X:Cx}
noncomputable def Yr(K:PySem.W.Frag)(ta:TA):TI:=fun σ H R=>ta σ H fun vs H1=>∃kk a,vs=[.ref a]/\(∃xs,SqB K H1 kk a xs)/\R (ItE K kk a) H1
theorem T6{a:Expr}{ta:TA}{p pos tp:Pos}{elts:List Expr}{k:Nat}(hg:Gl X "enumerate")(hm:X.mg "enumerate"=none)(ha:PA X [a] ta)(hs:starEach [a] X.env=[(false,eval a X.env)]:=by rfl):
  PI X (.Tuple elts k tp) (.Call (.Name "enumerate" p) [a] [] pos) (Yr X.K ta):=by
 intro pins s σ H R I h
 refine Call_ (JP I hg hm boot_enumerate (callWith_type1 (thn (ha pos pins s σ H _ I h) fun us s1 ⟨vs,H1,I1,r1,q1⟩=>?_) hs rfl))
 obtain⟨kk,b,e,⟨xs,hq⟩,q⟩:=q1
 subst e
 obtain⟨u,rfl,ru⟩:=r1.one
 cases (show u=Value.ref b from ru)
 obtain⟨its,rv,pt⟩:=I1.sqB hq
 have fin:∀h':Heap,IsEnum h' (s1.heap.objs.size+1) s1.heap.objs.size 0 .none->JIt h' kk s1.heap.objs.size b 0->(∀b o,s1.heap.get? b=some o->h'.get? b=some o)->wpAny (model X.prog X.w) X.A (pyIter (.ref (s1.heap.objs.size+1))) (PIE X pins σ (.Tuple elts k tp) R) X.xe {s1 with heap:=h'}:=fun h' en it kp=>by
  refine wpAny_pyIter_enum (s:={s1 with heap:=h'}) en ?_
  refine⟨s1.heap.objs.size+1,[s1.heap.objs.size+1,s1.heap.objs.size],_,_,H1,rfl,I1.kept (t':=s1.toks) kp,O7 kk b (s1.heap.objs.size+1) s1.heap.objs.size (Nat.succ_ne_self _),⟨⟨_,en⟩,it⟩,fun c hc=>?_,q⟩
  simp only[List.mem_cons,List.not_mem_nil,or_false]at hc
  rcases hc with rfl|rfl
  ·exact I1.fpOk (by omega) (I1.hok.fresh (by omega))
  ·exact I1.fpOk (Nat.le_refl _) (I1.hok.fresh (Nat.le_refl _))
 cases kk with
 |true=>exact O8 (show s1.heap.IsTuple b its.toArray from pt) fun h' en it kp=>fin h' en it kp
 |false=>exact call_enumerate_list (show s1.heap.IsList b its.toArray from pt) fun h' en it _ kp=>fin h' en it kp
end
end L2
end
noncomputable section
namespace St
open PySem PySem.Spec L2 PyProof.Rows
inductive Kd where
 |non|bl|int|str|tup|lst|dct
 deriving DecidableEq
noncomputable def Kd.ty:Kd->String
 | .non=>"NoneType" | .bl=>"bool" | .int=>"int" | .str=>"str" | .tup=>"tuple" | .lst=>"list" | .dct=>"dict"
noncomputable def Kd.isA:Kd->String->Bool
 | .bl,"bool"=>true| .bl,"int"=>true| .int,"int"=>true| .str,"str"=>true| .tup,"tuple"=>true| .lst,"list"=>true| .dct,"dict"=>true
 |_,_=>false
section
variable{K:PySem.W.Frag}
theorem XD(k:Kd):PySem.W.kitOne K (.type k.ty) (.type "int")=some (k.isA "int"):=by
 cases k<;>first|rfl|(unfold PySem.W.kitOne;rfl)
theorem T9(k:Kd):PySem.W.kitOne K (.type k.ty) (.type "bool")=some (k.isA "bool"):=by
 cases k<;>rfl
theorem kit_tuple(k:Kd):PySem.W.kitOne K (.type k.ty) (.type "tuple")=some (k.isA "tuple"):=by
 cases k<;>rfl
theorem XM(k:Kd):PySem.W.kitOne K (.type k.ty) (.type "str")=some (k.isA "str"):=by
 cases k<;>rfl
end
structure Dfn(P:Program)(w:World)(K:PySem.W.Frag)(mg:Str->Option Value)(base:Heap)(x:Str)(k:Nat)(ps:List Str)(sp:Sp):Prop where
 ex:∃f fd,mg x=some (.ref f)/\PySem.W.keepIn K (.ref f)=true/\Binds K fd ps []/\MM P w K mg base CX0 k f fd ps sp
structure Src(K:PySem.W.Frag)(mg:Str->Option Value)(x:Str)(st:Stmt):Prop where
 ex:∃f fd,Fun K x x st f fd/\mg x=some (.ref f)
theorem dA{X:Cx}{k:Nat}{x:Str}{ps:List Str}{sp:Sp}{e:Expr}{es:List Expr}{t:TA}{p pos:Pos}(d:Dfn X.prog X.w X.K X.mg X.base x k ps sp)(hr:LH k X.A)(hg:Gl X x)(ha:PA X (e::es) t)
  (hdb:(x==("__debug__":Str))=false:=by decide) (he:starEach (e::es) X.env=(false,eval e X.env)::starEach es X.env:=by rfl) (hpl:(backTo pos (starEach es X.env)).any (·.1)=false:=by rfl):
  PE X (.Call (.Name x p) (e::es) [] pos) (WH sp [] E0 t):=by
 obtain⟨f,fd,a,b,c,F⟩:=d.ex
 exact Wh F hr hg a b c .nil cJ ha hdb he hpl
section
variable{X:Cx}
theorem Vs{n:Nat}(h:n<2^8000):n.log2<9000:=by
 by_cases h0:n=0
 ·subst h0;decide
 ·exact Nat.lt_trans ((Nat.log2_lt h0).mpr h) (by decide)
theorem Tt:OpR X (binaryOp .FloorDiv) (rI (fun _ j=>0<j/\j.natAbs<2^8000) fun i j=>.int (i / j)):=opI fun i j _ _ _ _ _ hc q=>by
 have h1:(0:Int)<j:=hc.1
 exact floordiv_int (by omega) (by rw[Int.fdiv_eq_ediv_of_nonneg i (by omega)];exact q) (.inl (PyProof.noPylong_of_log2 (Vs hc.2)))
theorem K1{prog:Program}{w:World}{A:Around}(hh:A.handled=none){a it:Addr}(hne:a≠it){vs:List Value}:Walks prog w A it [it,a] [it] vs.length (fun i v=>vs[i]?=some v) (fun i h=>h.IsListIter it a i/\h.IsList a vs.toArray) where
 sub:=fun b hb=>by simp at hb;simp[hb]
 frame:=fun i h h' st k=>⟨st.1.at fun o e=>k it (by simp) o e,by
  obtain⟨o,ho,r⟩:=st.2
  exact⟨o,k a (by simp) o ho,r⟩⟩
 item:=fun i s Q E hi st hQ=>by
  refine wpAny_pyNext_list_item st.1 st.2 (x:=vs[i]) (by simp[hi]) fun h' st' sb=>?_
  refine hQ _ h' s.toks (by simp[hi]) ⟨st',?_⟩ fun b o hb e=>(sb.2 b (by simpa using hb)).trans e
  obtain⟨o,ho,r⟩:=st.2
  exact⟨o,(sb.2 a hne).trans ho,r⟩
 done:=fun s Q E st hQ=>wpAny_pyNext_list_end hh st.1 st.2 (by simp) fun h' eb=>hQ h' s.toks fun b o hb e=>eb b o (by simpa using hb) e
 self:=fun i s Q E st hQ=>wpAny_pyIter_listiter st.1 hQ
theorem Qu (hc : X.calm = true) : Cy X (.builtin "all") (fun xs H Q => ∃ (p : Addr) (bs : List Bool), xs = [.ref p] /\ SqL X.K H p (bs.map V.bl) /\ Q (.bl (bs.all id)) H) := by
  intro pins s σ H xs us Q I r h
  obtain⟨p,bs,rfl,hp,q⟩:=h
  obtain⟨u,rfl,ru⟩:=r.one
  cases (show u=Value.ref p from ru)
  obtain⟨its,rv,pl,hz⟩:=I.list hp
  have hd:X.A.in1.handled=none:=I.ok.hd hc
  refine call_all_walk (wpAny_pyIter_list pl.isList ?_)
  have hlen:bs.length=its.length:=by have:=rv.length;simpa using this
  have hpl:=pl.isList
  have hne:p≠s.heap.objs.size:=by
    obtain⟨o,ho,_⟩:=hpl
    exact Nat.ne_of_lt (Heap.lt_size ho)
  refine⟨s.heap.objs.size,_,_,its.length,_,_,fun i=>bs.getD i true,rfl,K1 (vs:=its) hd hne,⟨⟨_,Heap.get?_push_size _ rfl,rfl,rfl⟩,?_⟩,?_,?_⟩
  · obtain ⟨o, ho, r⟩ := hpl
    exact⟨o,Heap.get?_push_of_some _ ho,r⟩
  · intro i v s' Q' E' hv hq
    have hi:i<its.length:=(List.getElem?_eq_some_iff.mp hv).1
    have hb:(bs.map V.bl)[i]?=some (.bl (bs.getD i true)):=by
      rw[List.getElem?_map,List.getElem?_eq_getElem (by omega)]
      simp[List.getD_eq_getElem?_getD,List.getElem?_eq_getElem (show i<bs.length by omega)]
    obtain⟨u,hu,ru⟩:=rv.get hb
    rw[hv]at hu
    cases hu
    cases (show v=Value.bool _ from ru)
    exact wpAny_truthy_bool hq
  · intro h' tk hk
    have e : (List.range its.length).all (fun i => bs.getD i true) = bs.all id := by
      rw[←hlen]
      clear q hp rv hlen
      have : ∀ (l : List Bool), (List.range l.length).all (fun i => l.getD i true) = l.all id := by
        intro l
        induction l with
        |nil=>rfl
        | cons b l ih =>
          rw[List.length_cons,List.range_succ_eq_map,List.all_cons,List.all_map,List.all_cons,←ih]
          rfl
      exact this bs
    rw[e]
    exact⟨.bl _,H,I.kept (t':=tk) fun b o eb=>hk b o (by simp;exact Nat.ne_of_lt (Heap.lt_size eb)) (Heap.get?_push_of_some _ eb),rfl,q⟩
theorem SN{ns:List Int}{j:Nat}(h:j<ns.length):(ns.take (j+1)).sum=(ns.take j).sum+ns.getD j 0:=by
 have e:ns.getD j 0=ns[j]:=by simp[List.getD_eq_getElem?_getD,List.getElem?_eq_getElem h]
 rw[List.take_succ,List.getElem?_eq_getElem h,List.sum_append,e]
 show _+(ns[j]+0)=_
 omega
theorem JW{ns:List Int}:∀{j:Nat},j≤ns.length->preSum (fun i=>ns.getD i 0) j=(ns.take j).sum
  |0,_=>by simp[preSum]
  | j + 1, h => by
    rw[preSum,JW (by omega),SN (by omega)]
theorem RJ{ns:List Int}(h:∀n∈ns,0≤n/\n≤1000000):0≤ns.sum/\ns.sum≤1000000*ns.length:=by
  induction ns with
  |nil=>simp
  | cons a l ih =>
    have h1:=h a (by simp)
    have h2:=ih fun n hn=>h n (by simp[hn])
    rw[List.sum_cons,List.length_cons]
    have:((l.length+1:Nat):Int)=(l.length:Int)+1:=by omega
    omega
end
section
variable{prog:Program}{w:World}{A:Around}{E:Value->Shared->Prop}{s:Shared}
theorem Hk{t sl:Addr}{items:Array Value}{vl vu:Value}{lo hi:Option Int}{Q:Value->Shared->Prop}(ht:IsTup s.heap t items)(hs:s.heap.IsSliceOf sl vl vu .none)(pl:IsPart vl lo)(pu:IsPart vu hi)
  (hw:HT.sIx items.size 0 lo=0/\HT.sIx items.size items.size hi=items.size)
  (h:Q (.ref t) s):wpAny (model prog w) A (getItem (.ref t) (.ref sl)) Q E s:=by
 obtain⟨os,hos,hcs,hds⟩:=id hs
 have hTs:s.TypeIs (.ref sl) "slice":=⟨os,hos,hcs⟩
 unfold getItem
 try with_reducible refine wpAny_holding ?_
 first|refine wpAny_bind (wpAny_pure ?_)|skip
 refine wpAny_bind (wpAny_sequenceKey ht.typeIs (by decide) ?_)
 refine wpAny_bind (wpAny_callSpecial?_slot (name:=Str.ofString "__getitem__") ht.typeIs PyProof.Rows.slot_tuple_getitem
  (wpAny_call_entry PyProof.Rows.slot_tuple_getitem ht.typeIs entry_tuple_getitem ?_ (args_tuple_getitem _ _)))
 show wpAny _ _ (Builtin.Tuple.tupleItemsOf (.ref t) >>= _) _ _ s
 refine wpAny_bind (tupleItemsOf_ ht ?_)
 refine wpAny_bind (wpAny_typeOf hTs ?_)
 rw[if_pos (by decide)]
 refine wpAny_bind (HT.Fm hs pl pu ?_)
 show wpAny _ _ (if(((HT.sIx items.size 0 lo:Nat):Int)==0 && (1:Int)==1 && (HT.sIx items.size items.size hi-HT.sIx items.size 0 lo)==items.size)=true then _ else _) _ _ s
 rw[if_pos (by rw[hw.1,hw.2];simp)]
 unfold Builtin.Tuple.tupleIsExact
 refine wpAny_bind (wpAny_bind (wpAny_typeOf ht.typeIs (wpAny_pure ?_)))
 rw[if_pos (by decide)]
 exact wpAny_bind (wpAny_rule (wpAny_pure ⟨_,rfl,wpAny_pure h⟩))
theorem Ii{sl:Addr}{u:Tok}{n:Nat}{Q:Int×Int×Nat->Shared->Prop}(hs:s.heap.IsSliceOf sl .none .none (.int (-1) u))
  (h:Q ((n:Int)-1,-1,n) s):wpAny (model prog w) A (Builtin.Slice.sliceApplied (.ref sl) (pure (n:Int))) Q E s:=by
 obtain⟨os,hos,hcs,hds⟩:=id hs
 unfold Builtin.Slice.sliceApplied Builtin.Slice.sliceFields
 refine wpAny_bind (wpAny_bind (wpAny_field hos hds (x:=.none) rfl (wpAny_bind (wpAny_field hos hds (x:=.none) rfl (wpAny_bind (wpAny_field hos hds (x:=.int (-1) u) rfl (wpAny_pure ?_)))))))
 refine wpAny_bind (slicePart_int ?_)
 show wpAny _ _ (if((-1:Int)==0)=true then _ else _) _ _ s
 rw[if_neg (by decide)]
 refine wpAny_bind (slicePart_none (wpAny_bind (slicePart_none (wpAny_bind (wpAny_pure ?_)))))
 show wpAny _ _ (match Builtin.Slice.sliceAdjust none none (-1) (n:Int)with|(lo,hi)=>pure (lo,(-1:Int),Builtin.Slice.slicePlaces lo hi (-1))) _ _ s
 have e:Builtin.Slice.sliceAdjust none none (-1) (n:Int)=((n:Int)-1,-1):=by
  unfold Builtin.Slice.sliceAdjust
  have h1:((-1:Int)<0):=by decide
  simp only[h1,if_true]
 rw[e]
 have e2:Builtin.Slice.slicePlaces ((n:Int)-1) (-1) (-1)=n:=by
  unfold Builtin.Slice.slicePlaces
  have h1:¬((-1:Int)>0):=by decide
  simp only[h1,if_false]
  by_cases h0:n=0
  ·subst h0;rfl
  ·rw[if_pos (by omega)]
   have:(-(-1):Int)=1:=rfl
   rw[this,Int.ediv_one]
   omega
 show wpAny _ _ (pure ((n:Int)-1,(-1:Int),Builtin.Slice.slicePlaces ((n:Int)-1) (-1) (-1))) _ _ s
 rw[e2]
 exact wpAny_pure h
noncomputable def MG(n:Nat)(k:Nat):Nat:=((n:Int)-1+(k:Int)*(-1)).toNat
theorem Hu{t sl:Addr}{items:Array Value}{u:Tok}{Q:Value->Shared->Prop}(ht:IsTup s.heap t items)(hs:s.heap.IsSliceOf sl .none .none (.int (-1) u))(hz:items.size≤sizeLine)
  (h:Q (.ref s.heap.objs.size) {s with heap:=s.heap.push {cls:=.type "tuple",data:=.seq ((List.range items.size).filterMap fun k=>items[MG items.size k]?).toArray}}):wpAny (model prog w) A (getItem (.ref t) (.ref sl)) Q E s:=by
 obtain⟨os,hos,hcs,hds⟩:=id hs
 have hTs:s.TypeIs (.ref sl) "slice":=⟨os,hos,hcs⟩
 have htake:sizeOk (.seq ((List.range items.size).filterMap fun k=>items[MG items.size k]?).toArray):=by
  show((List.range items.size).filterMap fun k=>items[MG items.size k]?).toArray.size≤sizeLine
  rw[List.size_toArray]
  refine Nat.le_trans (List.length_filterMap_le _ _) ?_
  rw[List.length_range]
  exact hz
 unfold getItem
 try with_reducible refine wpAny_holding ?_
 first|refine wpAny_bind (wpAny_pure ?_)|skip
 refine wpAny_bind (wpAny_sequenceKey ht.typeIs (by decide) ?_)
 refine wpAny_bind (wpAny_callSpecial?_slot (name:=Str.ofString "__getitem__") ht.typeIs PyProof.Rows.slot_tuple_getitem
  (wpAny_call_entry PyProof.Rows.slot_tuple_getitem ht.typeIs entry_tuple_getitem ?_ (args_tuple_getitem _ _)))
 show wpAny _ _ (Builtin.Tuple.tupleItemsOf (.ref t) >>= _) _ _ s
 refine wpAny_bind (tupleItemsOf_ ht ?_)
 refine wpAny_bind (wpAny_typeOf hTs ?_)
 rw[if_pos (by decide)]
 refine wpAny_bind (Ii hs ?_)
 show wpAny _ _ (if(((items.size:Int)-1)==0 && (-1:Int)==1 && items.size==items.size)=true then _ else _) _ _ s
 rw[if_neg (by rw[show((-1:Int)==1)=false from rfl,Bool.and_false,Bool.false_and];decide)]
 first
  |exact wpAny_bind (m:=Builtin.Tuple.tupleExact _) (wpAny_newObj_type (wpAny_pure ⟨_,rfl,wpAny_pure h⟩) htake)
  |exact wpAny_bind (m:=Builtin.Tuple.tupleExact _) (wpAny_newObj_type (wpAny_bind (wpAny_pure (wpAny_pure ⟨_,rfl,wpAny_pure h⟩))) htake)
  |exact wpAny_bind (wpAny_bind (m:=Builtin.Tuple.tupleExact _) (wpAny_newObj_type (wpAny_pure (wpAny_pure ⟨_,rfl,wpAny_pure h⟩)) htake))
  |exact wpAny_bind (wpAny_bind (m:=Builtin.Tuple.tupleExact _) (wpAny_newObj_type (wpAny_pure ⟨_,rfl,wpAny_pure h⟩) htake))
end
section
variable{X:Cx}
def fQ(K:PySem.W.Frag):V->Option Int->Option Int->Hp->VK->Prop:=fun x lo hi H Q=>∃a xs,x=.ref a/\SqT K H a xs/\HT.sIx xs.length 0 lo=0/\HT.sIx xs.length xs.length hi=xs.length/\Q x H
theorem YZ:SlR X (fQ X.K):=by
 intro pins s σ H x v vl vu lo hi sl Q I rx hs pl pu h
 obtain⟨a,xs,rfl,hx,h1,h2,q⟩:=h
 cases rx
 obtain⟨its,r,ht,hz⟩:=I.tuple hx
 have hlen:its.toArray.size=xs.length:=by rw[List.size_toArray];exact r.length.symm
 refine⟨"tuple",_,PyProof.Rows.slot_tuple_getitem.lookup,ht.typeIs,?_⟩
 exact Hk ht hs pl pu (by rw[hlen];exact⟨h1,h2⟩) ⟨.ref a,H,I,rfl,q⟩
noncomputable def a9(K:PySem.W.Frag):R2:=fun x y H Q=>∃a b ys,x=.ref a/\y=.ref b/\SqT K H a []/\SqT K H b ys/\Q (.ref b) H
theorem WT:OpR X (binaryOp .Add) (a9 X.K):=by
 intro pins s σ H x y v u Q I rx ry h
 obtain⟨a,b,ys,rfl,rfl,ha,hb,q⟩:=h
 cases rx
 cases ry
 obtain⟨its,r1,p1,_⟩:=I.tuple ha
 obtain⟨its2,r2,p2,_⟩:=I.tuple hb
 have e0:its=[]:=r1.nil_iff.mpr rfl
 subst e0
 obtain⟨⟨cls,dd,data,sl⟩,ho,hc,n,hd⟩:=id p1
 obtain⟨⟨cls2,dd2,data2,sl2⟩,ho2,hc2,n2,hd2⟩:=id p2
 simp only at hc hd hc2 hd2
 subst hc hd hc2 hd2
 exact concat_meets ⟨_,ho,rfl⟩ ⟨_,ho2,rfl⟩ noFill_tuple_add seq_tuple_add PySem.F.slot_tuple_add PySem.F.entry_tuple_add (PySem.F.args_tuple_add_2 _ _)
   (tuple_addW0 a b #[] its2.toArray n n2 dd dd2 sl sl2 rfl) ⟨ho,ho2,⟨.ref b,H,I,rfl,q⟩⟩
theorem Vals.pick{xs:List V}{us:List Value}(r:Vals xs us)(f:Nat->Nat):∀ks:List Nat,Vals (ks.filterMap fun k=>xs[f k]?) (ks.filterMap fun k=>us[f k]?)
  | []=>.nil
  | k :: ks => by
    have ih:=Vals.pick r f ks
    rw[List.filterMap_cons,List.filterMap_cons]
    cases e:xs[f k]? with
    |none=>rw[r.none_of e];exact ih
    | some x =>
      obtain⟨u,hu,ru⟩:=r.get e
      rw[hu]
      exact .cons ru ih
end
end St
end
noncomputable section
namespace Mi
open PySem PySem.Spec L2
inductive D where
 |non|bl (b:Bool)|int (i:Int)|str (x:Str)|ty (n:String)|tup (ds:List D)|lst (ds:List D)|dct (kvs:List (Key×D))|scr (ns:List Int)|ref (n:Nat)
inductive Wv where
 |val (d:D)|own (ds:List D)
inductive Cl where
 |lst (ds:List D)|dct (kvs:List (Key×D))
abbrev Sto:=List Cl
structure Ms where
 cel:List Addr
 tmp:List Addr
def Ms.mem(M:Ms)(a:Addr):Prop:=a∈M.cel∨a∈M.tmp
noncomputable def Ms.no:Ms:=⟨[],[]⟩
theorem Ms.no_mem{a:Addr}:¬Ms.no.mem a:=fun z=>z.elim (fun z=>by cases z) fun z=>by cases z
def KL(K:PySem.W.Frag)(a:Addr)(xs:List V):Prop:=∃(o:Obj) (its:Array Value) (n:Nat),K.lookup a=some o/\o.cls=.type "list" /\o.dict=none/\o.data=.seq its n/\its.size≤sizeLine/\Vals xs its.toList
mutual
inductive Cw(K:PySem.W.Frag)(M:Ms)(H:Hp):V->D->Prop
 |non:Cw K M H .non .non
 |bl (b:Bool):Cw K M H (.bl b) (.bl b)
 |int (i:Int):Cw K M H (.int i) (.int i)
 |str (x:Str):Cw K M H (.str x) (.str x)
 |ty (n:String):Cw K M H (.ty n) (.ty n)
 |tup {a:Addr} {xs:List V} {ds:List D} (h:SqT K H a xs) (r:Ai K M H xs ds):Cw K M H (.ref a) (.tup ds)
 |lst {a:Addr} {xs:List V} {ds:List D} (h:H a=some (.lst xs)) (n:¬M.mem a) (r:Ai K M H xs ds):Cw K M H (.ref a) (.lst ds)
 |scr {a:Addr} {ns:List Int} (h:(Rd H a (.lst (ns.map V.int))/\¬M.mem a)∨KL K a (ns.map V.int)):Cw K M H (.ref a) (.scr ns)
 |dct {a:Addr} {kvs:List (Key×V)} {es:List (Key×D)} (h:H a=some (.dK kvs)) (n:¬M.mem a) (r:CN K M H kvs es):Cw K M H (.ref a) (.dct es)
 |ref {a:Addr} {n:Nat} (h:M.cel[n]?=some a):Cw K M H (.ref a) (.ref n)
inductive Ai(K:PySem.W.Frag)(M:Ms)(H:Hp):List V->List D->Prop
 |nil:Ai K M H [] []
 |cons {v:V} {d:D} {vs:List V} {ds:List D} (h:Cw K M H v d) (t:Ai K M H vs ds):Ai K M H (v::vs) (d::ds)
inductive CN(K:PySem.W.Frag)(M:Ms)(H:Hp):List (Key×V)->List (Key×D)->Prop
 |nil:CN K M H [] []
 |cons {k:Key} {v:V} {d:D} {vs:List (Key×V)} {ds:List (Key×D)} (h:Cw K M H v d) (t:CN K M H vs ds):CN K M H ((k,v)::vs) ((k,d)::ds)
end
def MOk(M:Ms)(H:Hp):Prop:=∀a,M.mem a->(∃xs,H a=some (.lst xs))∨∃kvs,H a=some (.dK kvs)
structure Sp1(M:Ms)(H:Hp)(M':Ms)(H':Hp):Prop where
 mo:MOk M H
 pre:M.cel <+: M'.cel
 fresh:∀a,M'.mem a->M.mem a∨H a=none
 keep:∀a o,H a=some o->¬M.mem a->H' a=some o
structure Gr(M:Ms)(H:Hp)(M':Ms)(H':Hp):Prop where
 mo:MOk M H
 pre:M.cel <+: M'.cel
 tmp:M'.tmp=M.tmp
 fresh:∀a,a∈M'.cel->a∈M.cel∨H a=none
 keep:∀a o,H a=some o->a∉M.cel->H' a=some o
 some:∀a,H a≠none->H' a≠none
section
variable{K:PySem.W.Frag}{M M' M2:Ms}{H H' H2:Hp}
theorem MOk.some(mo:MOk M H){a:Addr}(h:M.mem a):H a≠none:=fun z=>by
 rcases mo a h with⟨xs,e⟩|⟨xs,e⟩<;>(rw[e]at z;cases z)
theorem Gr.st(g:Gr M H M' H'):Sp1 M H M' H':=⟨g.mo,g.pre,fun a z=>z.elim (fun z=>(g.fresh a z).imp .inl id) fun z=>.inl (.inr (by rw[←g.tmp];exact z)),fun a o e n=>g.keep a o e fun z=>n (.inl z)⟩
theorem Gr.refl(mo:MOk M H):Gr M H M H:=⟨mo,List.prefix_rfl,rfl,fun _ z=>.inl z,fun _ _ e _=>e,fun _ e=>e⟩
theorem Gr.none(g:Gr M H M' H'){a:Addr}(h:H' a=none):H a=none:=by
 cases e:H a with
 |none=>rfl
 |some o=>exact absurd h (g.some a (by rw[e];intro z;cases z))
theorem Gr.trans(h:Gr M H M' H')(g:Gr M' H' M2 H2):Gr M H M2 H2:=
 ⟨h.mo,h.pre.trans g.pre,g.tmp.trans h.tmp,fun a z=>(g.fresh a z).elim (h.fresh a) fun z=>.inr (h.none z),fun a o e n=>g.keep a o (h.keep a o e n) (fun z=>by
  rcases h.fresh a z with z|z
  ·exact n z
  ·rw[e]at z;cases z),fun a e=>g.some a (h.some a e)⟩
theorem Gr.grow(mo:MOk M H)(k:∀a o,H a=Option.some o->H' a=Option.some o):Gr M H M H':=
 ⟨mo,List.prefix_rfl,rfl,fun _ z=>.inl z,fun b u eb _=>k b u eb,fun b eb z=>by
  cases h:H b with
  |none=>exact eb h
  |some o=>rw[k b o h]at z;cases z⟩
theorem Lz{α:Type}{xs ys:List α}(h:xs <+: ys){n:Nat}{a:α}(e:xs[n]?=Option.some a):ys[n]?=Option.some a:=by
 obtain⟨zs,rfl⟩:=h
 rw[List.getElem?_append_left (List.getElem?_eq_some_iff.mp e).1]
 exact e
theorem US{a:Addr}{xs:List V}(h:SqT K H a xs)(k:∀b o,H b=Option.some o->(∀ys,o≠.lst ys)->(∀ys,o≠.dK ys)->H' b=Option.some o):SqT K H' a xs:=by
 rcases h with h|h
 ·rcases h with h|⟨o,h⟩
  ·exact .inl (.inl (k _ _ h (fun ys z=>by cases z) fun ys z=>by cases z))
  ·exact .inl (.inr ⟨o,k _ _ h (fun ys z=>by cases z) fun ys z=>by cases z⟩)
 ·exact .inr h
theorem Sp1.sqT(g:Sp1 M H M' H'){a:Addr}{xs:List V}(h:SqT K H a xs):SqT K H' a xs:=US h fun b o e n1 n2=>g.keep b o e fun z=>by
 rcases g.mo b z with⟨ys,q⟩|⟨ys,q⟩
 ·exact n1 ys (Option.some.inj (e.symm.trans q))
 ·exact n2 ys (Option.some.inj (e.symm.trans q))
theorem Sp1.nm(g:Sp1 M H M' H'){a:Addr}{o:HO}(e:H a=Option.some o)(n:¬M.mem a):¬M'.mem a:=fun z=>by
 rcases g.fresh _ z with z|z
 ·exact n z
 ·rw[z]at e;cases e
mutual
theorem Cw.step(g:Sp1 M H M' H'):∀{v:V} {d:D},Cw K M H v d->Cw K M' H' v d
  |_,_,.non=>.non
  |_,_,.bl b=>.bl b
  |_,_,.int b=>.int b
  |_,_,.str b=>.str b
  |_,_,.ty b=>.ty b
  |_,_,.tup h r=>.tup (g.sqT h) (Ai.step g r)
  |_,_,.lst (a:=a) (xs:=xs) h n r=>.lst (g.keep _ _ h n) (g.nm h n) (Ai.step g r)
  | _, _, .scr (a := a) (ns := ns) h => by
    rcases h with⟨h,n⟩|h
    · rcases h with h | ⟨o, h⟩
      ·exact .scr (.inl ⟨.inl (g.keep _ _ h n),g.nm h n⟩)
      ·exact .scr (.inl ⟨.inr ⟨o,g.keep _ _ h n⟩,g.nm h n⟩)
    ·exact .scr (.inr h)
  |_,_,.dct (a:=a) h n r=>.dct (g.keep _ _ h n) (g.nm h n) (CN.step g r)
  |_,_,.ref h=>.ref (Lz g.pre h)
theorem Ai.step(g:Sp1 M H M' H'):∀{v:List V} {d:List D},Ai K M H v d->Ai K M' H' v d
 |_,_,.nil=>.nil
 |_,_,.cons h t=>.cons (Cw.step g h) (Ai.step g t)
theorem CN.step(g:Sp1 M H M' H'):∀{v:List (Key×V)} {d:List (Key×D)},CN K M H v d->CN K M' H' v d
 |_,_,.nil=>.nil
 |_,_,.cons h t=>.cons (Cw.step g h) (CN.step g t)
end
theorem Ai.length:∀{v:List V} {d:List D},Ai K M H v d->v.length=d.length
 |_,_,.nil=>rfl
 |_,_,.cons _ t=>by simp[Ai.length t]
theorem Ai.get:∀{v:List V} {d:List D} {i:Nat} {y:D},Ai K M H v d->d[i]?=Option.some y->∃x,v[i]?=Option.some x/\Cw K M H x y
  |_,_,i,y,.nil,e=>by simp at e
  |_,_,0,y,.cons h t,e=>by simp at e;subst e;exact⟨_,rfl,h⟩
  | _, _, i + 1, y, .cons h t, e => by
    obtain⟨x,h1,h2⟩:=Ai.get (i:=i) t (by simpa using e)
    exact⟨x,by simpa using h1,h2⟩
theorem Ai.append:∀{v v':List V} {d d':List D},Ai K M H v d->Ai K M H v' d'->Ai K M H (v++v') (d++d')
 |_,_,_,_,.nil,s=>s
 |_,_,_,_,.cons h t,s=>.cons h (Ai.append t s)
theorem Ai.take:∀{v:List V} {d:List D} (n:Nat),Ai K M H v d->Ai K M H (v.take n) (d.take n)
 |_,_,0,_=>.nil
 |_,_,_+1,.nil=>.nil
 |_,_,n+1,.cons h t=>.cons h (Ai.take n t)
theorem Ai.drop:∀{v:List V} {d:List D} (n:Nat),Ai K M H v d->Ai K M H (v.drop n) (d.drop n)
 |_,_,0,r=>r
 |_,_,_+1,.nil=>.nil
 |_,_,n+1,.cons _ t=>Ai.drop n t
theorem Ai.set{x:V}{y:D}(r:Cw K M H x y):∀{v:List V} {d:List D} (i:Nat),Ai K M H v d->Ai K M H (v.set i x) (d.set i y)
 |_,_,_,.nil=>.nil
 |_,_,0,.cons _ t=>.cons r t
 |_,_,i+1,.cons q t=>.cons q (Ai.set r i t)
end
abbrev En:=List (Option D)
abbrev Sg:=List (Option V)
structure EnR(K:PySem.W.Frag)(M:Ms)(E:En)(σ:Sg)(H:Hp):Prop where
 len:E.length=σ.length
 val:∀(i:Nat) (d:D),E[i]?=some (some d)->∃v,σ[i]?=some (some v)/\Cw K M H v d
def Yc(K:PySem.W.Frag)(M:Ms)(H:Hp)(a:Addr):Cl->Prop
 | .lst ds=>∃xs,H a=some (.lst xs)/\Ai K M H xs ds
 | .dct es=>∃kvs,H a=some (.dK kvs)/\CN K M H kvs es
structure StR(K:PySem.W.Frag)(M:Ms)(S:Sto)(H:Hp):Prop where
 mo:MOk M H
 nd:M.cel.Nodup
 nt:∀a∈M.tmp,a∉M.cel
 len:M.cel.length=S.length
 cell:∀(n:Nat) (a:Addr) (c:Cl),M.cel[n]?=some a->S[n]?=some c->Yc K M H a c
section
variable{K:PySem.W.Frag}{M M' M2:Ms}{H H' H2:Hp}{E:En}{σ:Sg}{S:Sto}
theorem EnR.step(r:EnR K M E σ H)(g:Sp1 M H M' H'):EnR K M' E σ H':=⟨r.len,fun i d e=>by
 obtain⟨v,h1,h2⟩:=r.val i d e
 exact⟨v,h1,h2.step g⟩⟩
theorem StR.grow(r:StR K M S H)(k:∀a o,H a=some o->H' a=some o):StR K M S H':=by
 have g:Sp1 M H M H':=⟨r.mo,List.prefix_rfl,fun _ z=>.inl z,fun a o e _=>k a o e⟩
 refine⟨fun a z=>(r.mo a z).imp (fun⟨xs,e⟩=>⟨xs,k _ _ e⟩) fun⟨xs,e⟩=>⟨xs,k _ _ e⟩,r.nd,r.nt,r.len,fun n a c h1 h2=>?_⟩
 have q:=r.cell n a c h1 h2
 cases c with
 |lst ds=>obtain⟨xs,e,rr⟩:=q;exact⟨xs,k _ _ e,rr.step g⟩
 |dct ds=>obtain⟨xs,e,rr⟩:=q;exact⟨xs,k _ _ e,rr.step g⟩
theorem StR.chg(r:StR K M S H){n:Nat}{a:Addr}{ds es:List D}{ys:List V}(h1:M.cel[n]?=some a)(h2:S[n]?=some (.lst ds))(hy:Ai K M H ys es):StR K M (S.set n (.lst es)) (upd H a (.lst ys))/\Gr M H M (upd H a (.lst ys)):=by
 have ha:a∈M.cel:=List.mem_of_getElem? h1
 have hl:n<S.length:=(List.getElem?_eq_some_iff.mp h2).1
 have g:Gr M H M (upd H a (.lst ys)):=⟨r.mo,List.prefix_rfl,rfl,fun _ z=>.inl z,fun b o eb nb=>by rw[Al (fun z=>nb (by rw[z];exact ha))];exact eb,fun b eb=>by
  by_cases h:b=a
  ·subst h;rw[BK];intro z;cases z
  ·rw[Al h];exact eb⟩
 refine⟨⟨fun b z=>?_,r.nd,r.nt,by rw[List.length_set];exact r.len,fun m b c e1 e2=>?_⟩,g⟩
 ·by_cases h:b=a
  ·subst h;exact .inl ⟨ys,BK⟩
  ·rw[Al h];exact r.mo b z
 ·by_cases h:n=m
  ·subst h
   rw[h1]at e1;cases e1
   rw[List.getElem?_set_self hl]at e2;cases e2
   exact⟨ys,BK,hy.step g.st⟩
  ·rw[List.getElem?_set_ne h]at e2
   have hb:b≠a:=fun z=>by
    subst z
    exact h ((List.getElem?_inj (List.getElem?_eq_some_iff.mp h1).1 r.nd).mp (h1.trans e1.symm))
   have q:=r.cell m b c e1 e2
   cases c with
   |lst fs=>obtain⟨xs,e,rr⟩:=q;exact⟨xs,by rw[Al hb];exact e,rr.step g.st⟩
   |dct fs=>obtain⟨xs,e,rr⟩:=q;exact⟨xs,by rw[Al hb];exact e,rr.step g.st⟩
theorem StR.cel_new(r:StR K M S H){a:Addr}{xs:List V}{ds:List D}(e:H a=none)(k:∀b o,H b=some o->H' b=some o)(ea:H' a=some (.lst xs))(rr:Ai K M H xs ds):StR K ⟨M.cel++[a],M.tmp⟩ (S++[.lst ds]) H'/\Gr M H ⟨M.cel++[a],M.tmp⟩ H':=by
  have g:Gr M H ⟨M.cel++[a],M.tmp⟩ H':=⟨r.mo,List.prefix_append _ _,rfl,fun b z=>by
    rcases List.mem_append.mp z with z|z
    ·exact .inl z
    ·simp at z;subst z;exact .inr e,fun b o eb _=>k b o eb,fun b eb z=>by
    cases h:H b with
    |none=>exact eb h
    |some o=>rw[k b o h]at z;cases z⟩
  have na:¬M.mem a:=fun z=>r.mo.some z e
  refine⟨⟨fun b z=>?_,?_,fun b hb z=>?_,by simp[r.len],fun m b c e1 e2=>?_⟩,g⟩
  · have z' : M.mem b ∨ b = a := by
      rcases z with z|z
      · rcases List.mem_append.mp z with z | z
        ·exact .inl (.inl z)
        ·simp at z;exact .inr z
      ·exact .inl (.inr z)
    rcases z' with z|z
    ·exact(r.mo b z).imp (fun⟨xs,e⟩=>⟨xs,k _ _ e⟩) fun⟨xs,e⟩=>⟨xs,k _ _ e⟩
    ·subst z;exact .inl ⟨xs,ea⟩
  · rw [List.nodup_append]
    refine⟨r.nd,by simp,fun x hx y hy=>?_⟩
    simp at hy;subst hy
    exact fun z=>na (.inl (by rw[←z];exact hx))
  · rcases List.mem_append.mp z with z | z
    ·exact r.nt b hb z
    ·simp at z;subst z;exact na (.inr hb)
  · by_cases h : m < S.length
    · rw [List.getElem?_append_left (by rw [r.len]; exact h)] at e1
      rw[List.getElem?_append_left h]at e2
      have q:=r.cell m b c e1 e2
      cases c with
      |lst fs=>obtain⟨xs,e,rr⟩:=q;exact⟨xs,k _ _ e,rr.step g.st⟩
      |dct fs=>obtain⟨xs,e,rr⟩:=q;exact⟨xs,k _ _ e,rr.step g.st⟩
    · have hm : m = S.length := by
        have:=(List.getElem?_eq_some_iff.mp e2).1
        simp at this;omega
      subst hm
      rw[List.getElem?_append_right (by rw[r.len];exact Nat.le_refl _)]at e1
      rw[List.getElem?_append_right (Nat.le_refl _)]at e2
      rw[r.len]at e1
      simp at e1 e2
      subst e1 e2
      exact⟨xs,ea,rr.step g.st⟩
end
abbrev Ev:=En->Sto->Option (D×Sto)
noncomputable def tD(K:PySem.W.Frag)(f:Ev):TE:=fun σ H Q=>∃M E S d S',f E S=some (d,S')/\EnR K M E σ H/\StR K M S H/\∀v H' M',Gr M H M' H'->StR K M' S' H'->Cw K M' H' v d->Q v H'
structure DE(X:Cx)(e:Expr)(f:Ev):Prop where
 pe:PE X e (tD X.K f)
theorem Bm{X:Cx}{e:Expr}{t t':TE}(h:PE X e t)(m:∀σ H Q,t' σ H Q->t σ H Q):PE X e t':=fun pins s σ H Q I q=>h pins s σ H Q I (m _ _ _ q)
theorem Qj{X:Cx}{e:Expr}{t t':TT}(h:PT X e t)(m:∀σ H Q,t' σ H Q->t σ H Q):PT X e t':=fun pins s σ H Q I q=>h pins s σ H Q I (m _ _ _ q)
theorem EG{K:PySem.W.Frag}{f:Ev}{σ:Sg}{H:Hp}{Q Q':VK}(h:tD K f σ H Q)(m:∀v H',Q v H'->Q' v H'):tD K f σ H Q':=by
 obtain⟨M,E,S,d,S',e,r,st,q⟩:=h
 exact⟨M,E,S,d,S',e,r,st,fun v H' M' g s r=>m _ _ (q v H' M' g s r)⟩
theorem A8{α β:Type}{o:Option α}{k:α->Option β}{y:β}(e:o.bind k=some y):∃x,o=some x/\k x=some y:=by
 cases o with
 |none=>cases e
 |some x=>exact⟨x,rfl,e⟩
theorem Il{α β:Type}{o:Option α}{k:α->β}{y:β}(e:o.map k=some y):∃x,o=some x/\k x=y:=by
 cases o with
 |none=>cases e
 |some x=>cases e;exact⟨x,rfl,rfl⟩
noncomputable def fz:Wv->D
 | .val d=>d
 | .own ds=>.lst ds
noncomputable def at?(E:En)(i:Nat):Option D:=(E[i]?).join
theorem at?_some{E:En}{i:Nat}{w:D}(h:at? E i=some w):E[i]?=some (some w):=by
 unfold at? at h
 cases e:E[i]? with
 |none=>rw[e]at h;cases h
 |some q=>rw[e]at h;exact congrArg some h
noncomputable def evs:List Ev->En->Sto->Option (List D×Sto)
 | [],_,S=>some ([],S)
 |f::fs,E,S=>(f E S).bind fun r=>(evs fs E r.2).map fun q=>(r.1::q.1,q.2)
noncomputable def tDs(K:PySem.W.Frag):List Ev->TA
 | []=>d9
 |f::fs=>Xm (tD K f) (tDs K fs)
structure DEs(X:Cx)(es:List Expr)(fs:List Ev):Prop where
 pe:PA X es (tDs X.K fs)
theorem AD{X:Cx}:DEs X [] []:=⟨Qm⟩
theorem AA{X:Cx}{e:Expr}{es:List Expr}{f:Ev}{fs:List Ev}(h:DE X e f)(t:DEs X es fs)(hs:starEach (e::es) X.env=(false,eval e X.env)::starEach es X.env:=by rfl):DEs X (e::es) (f::fs):=⟨LO h.pe t.pe hs⟩
section
variable{K:PySem.W.Frag}{M M':Ms}{E:En}{S:Sto}{σ:Sg}{H H':Hp}
theorem GB:∀{fs:List Ev} {M:Ms} {S:Sto} {ds:List D} {S':Sto} {H:Hp} {Q:List V->Hp->Prop},evs fs E S=some (ds,S')->EnR K M E σ H->StR K M S H->(∀vs H' M',Gr M H M' H'->StR K M' S' H'->Ai K M' H' vs ds->Q vs H')->tDs K fs σ H Q
  | [],M,S,ds,S',H,Q,e,r,st,q=>by
    cases e
    exact q [] H M (.refl st.mo) st .nil
  | f :: fs, M, S, ds, S', H, Q, e, r, st, q => by
    obtain⟨⟨d,S1⟩,e1,e⟩:=A8 e
    obtain⟨⟨es,S2⟩,e2,e⟩:=Il e
    cases e
    refine⟨M,E,S,d,S1,e1,r,st,fun v H1 M1 g1 st1 d1=>?_⟩
    exact GB e2 (r.step g1.st) st1 fun vs H2 M2 g2 st2 d2=>q _ _ M2 (g1.trans g2) st2 (.cons (d1.step g2.st) d2)
theorem Nh:∀{fs:List Ev} {S:Sto} {ds:List D} {S':Sto},evs fs E S=some (ds,S')->ds.length=fs.length
  | [],_,_,_,e=>by cases e;rfl
  | f :: fs, S, ds, S', e => by
    obtain⟨⟨d,S1⟩,e1,e⟩:=A8 e
    obtain⟨⟨es,S2⟩,e2,e⟩:=Il e
    cases e
    simp[Nh e2]
def Sh(K:PySem.W.Frag)(M:Ms)(H:Hp)(v:V):Wv->Prop
 | .val d=>Cw K M H v d
 | .own ds=>∃a xs,v=.ref a/\H a=some (.lst xs)/\Ai K M H xs ds
inductive Shs(K:PySem.W.Frag)(M:Ms)(H:Hp):List V->List Wv->Prop
 |nil:Shs K M H [] []
 |cons {v:V} {w:Wv} {vs:List V} {ws:List Wv} (h:Sh K M H v w) (t:Shs K M H vs ws):Shs K M H (v::vs) (w::ws)
noncomputable def dr(S:Sto):D->Wv
  | .ref n=>match S[n]? with
    |some (.lst ds)=>.own ds
    |_=>.val (.ref n)
  |d=>.val d
theorem V9(st:StR K M S H){v:V}{d:D}(h:Cw K M H v d):Sh K M H v (dr S d):=by
  cases h with
  | ref h =>
    rename_i a n
    show Sh K M H (.ref a) (match S[n]? with|some (.lst ds)=>.own ds|_=>.val (.ref n))
    split
    · rename_i ds e
      obtain⟨xs,h1,h2⟩:=st.cell n a _ h e
      exact⟨a,xs,rfl,h1,h2⟩
    ·exact .ref h
  |non=>exact .non
  |bl b=>exact .bl b
  |int b=>exact .int b
  |str b=>exact .str b
  |ty b=>exact .ty b
  |tup h r=>exact .tup h r
  |lst h n r=>exact .lst h n r
  |scr h=>exact .scr h
  |dct h n r=>exact .dct h n r
theorem VT(st:StR K M S H):∀{vs:List V} {ds:List D},Ai K M H vs ds->Shs K M H vs (ds.map (dr S))
 |_,_,.nil=>.nil
 |_,_,.cons h t=>.cons (V9 st h) (VT st t)
def NwR(K:PySem.W.Frag)(M:Ms)(H H':Hp)(v:V):Wv->Prop
 | .val d=>Cw K M H' v d
 | .own ds=>∃a xs,v=.ref a/\H a=none/\H' a=some (.lst xs)/\Ai K M H xs ds
structure Nw(K:PySem.W.Frag)(M:Ms)(H H':Hp)(v:V)(w:Wv):Prop where
 grow:∀a o,H a=some o->H' a=some o
 rel:NwR K M H H' v w
theorem Nw.same{v:V}{d:D}(mo:MOk M H)(h:Cw K M H v d):Nw K M H H v (.val d):=⟨fun _ _ e=>e,h⟩
theorem FU{a:Addr}{o:HO}(e:H a=none):∀b u,H b=some u->upd H a o b=some u:=fun b u eb=>by rw[Al (fun z=>by subst z;rw[e]at eb;cases eb)];exact eb
theorem Nw.lst{a:Addr}{xs:List V}{ds:List D}(mo:MOk M H)(e:H a=none)(h:Ai K M H xs ds):Nw K M H (upd H a (.lst xs)) (.ref a) (.own ds):=⟨FU e,a,xs,rfl,e,BK,h⟩
theorem Nw.tup{a:Addr}{xs:List V}{ds:List D}(mo:MOk M H)(e:H a=none)(h:Ai K M H xs ds):Nw K M H (upd H a (.tup xs)) (.ref a) (.val (.tup ds)):=⟨FU e,.tup (.of BK) (h.step (Gr.grow mo (FU e)).st)⟩
noncomputable def fin:Bool->Wv->Sto->Option (D×Sto)
 |_,.val d,S=>some (d,S)
 |false,.own ds,S=>some (.lst ds,S)
 |true,.own ds,S=>some (.ref S.length,S++[.lst ds])
theorem Nw.fin{c:Bool}{v:V}{w:Wv}{d:D}{S':Sto}(n:Nw K M H H' v w)(st:StR K M S H)(e:fin c w S=some (d,S')):∃M',Gr M H M' H'/\StR K M' S' H'/\Cw K M' H' v d:=by
  cases w with
  | val d' =>
    cases e
    exact⟨M,.grow st.mo n.grow,st.grow n.grow,n.rel⟩
  | own ds =>
    obtain⟨a,xs,rfl,h1,h2,h3⟩:=n.rel
    cases c with
    | false =>
      cases e
      exact⟨M,.grow st.mo n.grow,st.grow n.grow,.lst h2 (fun z=>st.mo.some z h1) (h3.step (Gr.grow st.mo n.grow).st)⟩
    | true =>
      cases e
      obtain⟨s1,g1⟩:=st.cel_new h1 n.grow h2 h3
      refine⟨_,g1,s1,.ref ?_⟩
      rw[←st.len]
      exact List.getElem?_concat_length
abbrev Op1:=Wv->Option Wv
abbrev Op2:=Wv->Wv->Option Wv
abbrev OpN:=List Wv->Option Wv
noncomputable def rOp(K:PySem.W.Frag)(op:Op2):R2:=fun x y H Q=>∃M w1 w2 r,op w1 w2=some r/\MOk M H/\Sh K M H x w1/\Sh K M H y w2/\∀v H',Nw K M H H' v r->Q v H'
def rUn(K:PySem.W.Frag)(op:Op1):V->Hp->VK->Prop:=fun x H Q=>∃M w r,op w=some r/\MOk M H/\Sh K M H x w/\∀v H',Nw K M H H' v r->Q v H'
def rN(K:PySem.W.Frag)(op:OpN):List V->Hp->VK->Prop:=fun xs H Q=>∃M ws r,op ws=some r/\MOk M H/\Shs K M H xs ws/\∀v H',Nw K M H H' v r->Q v H'
noncomputable def Nm(c:Bool)(op:OpN)(fs:List Ev):Ev:=fun E S=>(evs fs E S).bind fun r=>(op (r.1.map (dr r.2))).bind fun w=>fin c w r.2
abbrev eOp:=Nm false
abbrev Z5:=Nm true
noncomputable def o1(op:Op1):OpN| [a]=>op a|_=>none
noncomputable def o2(op:Op2):OpN| [a,b]=>op a b|_=>none
theorem LA{c:Bool}{op:OpN}{fs:List Ev}{Q:VK}{d:D}{S':Sto}(e:Nm c op fs E S=some (d,S'))(r:EnR K M E σ H)(st:StR K M S H)(h:∀v H' M',Gr M H M' H'->StR K M' S' H'->Cw K M' H' v d->Q v H'):tDs K fs σ H fun vs H1=>rN K op vs H1 Q:=by
 obtain⟨⟨ds,S1⟩,e1,e⟩:=A8 e
 obtain⟨w,e2,e⟩:=A8 e
 refine GB e1 r st fun vs H1 M1 g1 st1 d1=>⟨M1,_,w,e2,st1.mo,VT st1 d1,fun v H2 n=>?_⟩
 obtain⟨M2,g2,st2,d2⟩:=n.fin st1 e
 exact h v H2 M2 (g1.trans g2) st2 d2
end
theorem YC{K:PySem.W.Frag}{f:Op2}{x y:V}{H:Hp}{Q:VK}(h:rN K (o2 f) [x,y] H Q):rOp K f x y H Q:=by
  obtain⟨M,ws,r,e,mo,s,q⟩:=h
  cases s with
  | cons h1 s =>
    cases s with
    | cons h2 s =>
      cases s
      exact⟨M,_,_,r,e,mo,h1,h2,q⟩
theorem Yn{K:PySem.W.Frag}{f:Op1}{x:V}{H:Hp}{Q:VK}(h:rN K (o1 f) [x] H Q):rUn K f x H Q:=by
  obtain⟨M,ws,r,e,mo,s,q⟩:=h
  cases s with
  | cons h1 s =>
    cases s
    exact⟨M,_,r,e,mo,h1,q⟩
theorem OS{K:PySem.W.Frag}{c:Bool}{f:Op2}{fa fb:Ev}{σ:Sg}{H:Hp}{Q:VK}(h:tD K (Nm c (o2 f) [fa,fb]) σ H Q):tOp (rOp K f) (tD K fa) (tD K fb) σ H Q:=by
 obtain⟨M,E,S,d,S',e,r,st,q⟩:=h
 have z:tD K fa σ H fun x H1=>tD K fb σ H1 fun y H2=>rN K (o2 f) [x,y] H2 Q:=LA (Q:=Q) e r st q
 exact EG z fun x H1 z1=>EG z1 fun y H2 z2=>YC z2
theorem QX{K:PySem.W.Frag}{c:Bool}{f:Op1}{fa:Ev}{σ:Sg}{H:Hp}{Q:VK}(h:tD K (Nm c (o1 f) [fa]) σ H Q):tUn (rUn K f) (tD K fa) σ H Q:=by
 obtain⟨M,E,S,d,S',e,r,st,q⟩:=h
 have z:tD K fa σ H fun x H1=>rN K (o1 f) [x] H1 Q:=LA (Q:=Q) e r st q
 exact EG z fun x H1 z1=>Yn z1
section
variable{X:Cx}{a b e:Expr}{es:List Expr}{fa fb:Ev}{fs:List Ev}{pos p:Pos}{c:Bool}
theorem Af{op:Operator}{f:Op2}(ho:OpR X (binaryOp op) (rOp X.K f))(ha:DE X a fa)(hb:DE X b fb):DE X (.BinOp a op b pos) (Nm c (o2 f) [fa,fb]):=⟨Bm (ab ho ha.pe hb.pe) fun _ _ _ h=>OS h⟩
theorem Ey{op:CmpOp}{f:Op2}(ho:OpR X (compareOp op) (rOp X.K f))(ha:DE X a fa)(hb:DE X b fb)(hm:behindInMarks op b=false:=by rfl):DE X (.Compare a [op] [b] pos) (Nm c (o2 f) [fa,fb]):=⟨Bm (Wx ho ha.pe hb.pe hm) fun _ _ _ h=>OS h⟩
theorem Hi{op:UnaryOp}{f:Op1}(ho:UnR X (unaryOp op) (rUn X.K f))(ha:DE X a fa):DE X (.UnaryOp op a pos) (Nm c (o1 f) [fa]):=⟨Bm (Yh ho ha.pe) fun _ _ _ h=>QX h⟩
theorem AN{f:Op2}(hr:IxR X (rOp X.K f))(ha:DE X a fa)(hb:DE X b fb)(hs:Qt b:=by exact fun _ _=>rfl):DE X (.Subscript a b pos) (Nm c (o2 f) [fa,fb]):=⟨Bm (bB hr ha.pe hb.pe hs) fun _ _ _ h=>OS h⟩
theorem AY{id:String}{x:Str}{f:OpN}(hc:Cy X (.builtin id) (rN X.K f))(hg:Gl X x)(hm:X.mg x=none)(hv:bootBuiltins x=some (.builtin id))(ha:DEs X (e::es) fs)(hn:x≠ "__name__":=by decide)(hdb:(x==("__debug__":Str))=false:=by decide)
  (he:starEach (e::es) X.env=(false,eval e X.env)::starEach es X.env:=by rfl) (hpl:(backTo pos (starEach es X.env)).any (·.1)=false:=by rfl):DE X (.Call (.Name x p) (e::es) [] pos) (Nm c f fs):=⟨
 Bm (UE hc hg hm hv ha.pe hn hdb he hpl) fun _ _ _ h=>by
  obtain⟨M,E,S,d,S',e,r,st,q⟩:=h
  exact LA e r st q⟩
theorem BD{T:String}{x:Str}{f:OpN}(hc:Cy X (.type T) (rN X.K f))(hg:Gl X x)(hm:X.mg x=none)(hv:bootBuiltins x=some (.type T))(ha:DEs X (e::es) fs)(hn:x≠ "__name__":=by decide)(hdb:(x==("__debug__":Str))=false:=by decide)
  (he:starEach (e::es) X.env=(false,eval e X.env)::starEach es X.env:=by rfl) (hpl:(backTo pos (starEach es X.env)).any (·.1)=false:=by rfl):DE X (.Call (.Name x p) (e::es) [] pos) (Nm c f fs):=⟨
 Bm (RK hc hg hm hv ha.pe hn hdb he hpl) fun _ _ _ h=>by
  obtain⟨M,E,S,d,S',e,r,st,q⟩:=h
  exact LA e r st q⟩
noncomputable def eC(d:D):Ev:=fun _ S=>some (d,S)
theorem NR{v:V}{d:D}(h:PE X e (tC v))(r:∀K M H,Cw K M H v d):DE X e (eC d):=⟨Bm h fun σ H Q z=>by
 obtain⟨M,E,S,w,S',e,rr,st,q⟩:=z
 cases e
 exact q _ _ M (.refl st.mo) st (r _ _ _)⟩
theorem AE{i:Int}{j:Nat}:DE X (.Constant (.int i) j pos) (eC (.int i)):=NR VG fun _ _ _=>.int _
theorem Ik{i:Bool}{j:Nat}:DE X (.Constant (.bool i) j pos) (eC (.bl i)):=NR aY fun _ _ _=>.bl _
theorem A5{i:Str}{j:Nat}:DE X (.Constant (.str i) j pos) (eC (.str i)):=NR YL fun _ _ _=>.str _
theorem Qw{j:Nat}:DE X (.Constant .none j pos) (eC .non):=NR Xj fun _ _ _=>.non
noncomputable def eV(i:Nat):Ev:=fun E S=>(at? E i).map fun d=>(d,S)
theorem AB(i:Nat){x:Str}(hN:X.N[i]?=some x:=by rfl)(hv:Vis X.env.scope x:=by first|exact Or.inl rfl|exact Or.inr (Or.inl rfl)|exact Or.inr (Or.inr rfl))(hd:(x==("__debug__":Str))=false:=by decide)
  (hcd:(x==("__classdict__":Str))=false:=by decide):DE X (.Name x pos) (eV i):=⟨Bm (VJ hN hv hd hcd) fun σ H Q z=>by
 obtain⟨M,E,S,d,S',e,r,st,q⟩:=z
 obtain⟨d',e1,e⟩:=Il e
 cases e
 obtain⟨v,hv,rd⟩:=r.val i d (at?_some e1)
 exact⟨v,hv,q v H M (.refl st.mo) st rd⟩⟩
end
theorem Fh:fillsNumberSlot (.type "tuple") "mul"=pure false:=
 fillsNumberSlot_seq (id:="tuple.__mul__") (r:=some (.builtin "tuple.__rmul__")) F.slot_tuple_mul.lookup (by decide+kernel) F.slot_tuple_rmul.lookup (by decide+kernel)
theorem ID:seqRepeat? (.type "tuple")=pure (some (.builtin "tuple.__mul__")):=by
 unfold seqRepeat?
 rw[seqSlot_of (T:="tuple") (name:="__mul__") (id:="tuple.__mul__") F.slot_tuple_mul.lookup (by decide+kernel),seqSlot_of (T:="tuple") (name:="__rmul__") (id:="tuple.__rmul__") F.slot_tuple_rmul.lookup (by decide+kernel)]
 rfl
theorem Gj(a:Int)(t:Tok)(l:Addr)(items:Array Value)(n:Nat)(dd:Option Addr)(sl:Array (Option Value)):
  Meets (Builtin.«int.__rmul__» ⟨[.int a t,.ref l],[]⟩) (fun _ R s=>s.heap.get? l=some {cls:=.type "tuple",dict:=dd,data:=.seq items n,slots:=sl}/\R (.ok (.ret Value.notImplemented)) s):=
 .of_wp fun prog w A R s h=>by obtain⟨hp,g,d,tk,os⟩:=s;obtain⟨hl,h⟩:=h;wp_walk;exact⟨_,rfl,h⟩
theorem RA(its:List Value)(m:Nat):List.foldl (fun x1 x2=>x1++x2) #[] (List.replicate m its.toArray)=(List.replicate m its).flatten.toArray:=by
 have:=foldl_rep its m []
 rw[List.nil_append]at this
 exact this
theorem Vn{X:Cx}:OpR X (binaryOp .Mult) (fun x y H Q=>∃a xs k,x=.ref a/\y=.int k/\SqT X.K H a xs/\xs≠[]/\1≤k/\xs.length*k.toNat≤sizeLine/\(k=1->Q (.ref a) H)/\(k≠1->∀p,H p=none->Q (.ref p) (upd H p (.tup (List.replicate k.toNat xs).flatten)))):=by
  intro pins s σ H x y v u Q I rx ry h
  obtain⟨a,xs,k,rfl,rfl,hx,hne,hk,hz,q1,q2⟩:=h
  cases rx
  obtain⟨t,rfl⟩:=ry
  obtain⟨its,r,⟨⟨c,dd,data,sl⟩,ho,hc,n,hd⟩,hzz⟩:=I.tuple hx
  simp only at hc hd
  subst hc hd
  have hl:=r.length
  have hsz:its.toArray.size=xs.length:=by rw[List.size_toArray];exact hl.symm
  have hpos:0<xs.length:=List.length_pos_iff.mpr hne
  have hkl:k.toNat≤sizeLine:=Nat.le_trans (Nat.le_mul_of_pos_left _ hpos) hz
  have hk63:k<2^63:=by
    have:(sizeLine:Nat)<2^63:=by decide
    omega
  refine wpAny_binaryOp_repeat_ref (T:="tuple") (U:="int") (by decide) ⟨_,ho,rfl⟩ (fun s'=>typeIs_int s' k t) Fh F.fills_int_mul F.slot_int_rmul ID F.slot_int_index.lookup
    (call_meets F.slot_int_rmul (typeIs_int s k t) F.entry_int_rmul (F.args_int_rmul_2 _ _) (Gj k t a its.toArray n dd sl) ⟨ho,rfl,⟨_,ho,rfl⟩,?_⟩)
  refine wpAny_call_entry F.slot_tuple_mul ⟨_,ho,rfl⟩ F.entry_tuple_mul ?_ (F.args_tuple_mul_2 _ _)
  unfold Builtin.«tuple.__mul__»
  wp_walk using AutoSeq1.wpAny_loadPart' ho
  rw [if_neg (show ¬ (decide (k < -2 ^ 63) || decide (k ≥ 2 ^ 63)) = true by
    rw[Bool.or_eq_true]
    rintro (z|z)
    ·have:=of_decide_eq_true z;omega
    ·have:=of_decide_eq_true z;omega)]
  wp_walk using AutoSeq1.wpAny_loadPart' ho
  by_cases h1:k=1
  · subst h1
    rw[if_pos (show(its.toArray.isEmpty||(1:Int)==1)=true by simp)]
    wp_walk using AutoSeq1.wpAny_loadPart' ho
    exact⟨_,rfl,.ref a,H,I,rfl,q1 rfl⟩
  · have hemp : its.toArray.isEmpty = false := by
      cases its with
      |nil=>rw[List.length_nil]at hl;omega
      |cons b bs=>rfl
    rw[if_neg (show¬(its.toArray.isEmpty||k==1)=true by rw[hemp];simpa using h1)]
    wp_walk using AutoSeq1.wpAny_loadPart' ho
    have hmul:((its.toArray.size:Int)*k)=((xs.length*k.toNat:Nat):Int):=by
      rw[hsz,Int.natCast_mul]
      congr 1
      omega
    rw [if_neg (show ¬ (decide (k ≤ 0) || its.toArray.isEmpty) = true by
      rw[hemp,Bool.or_false]
      intro z
      have:=of_decide_eq_true z
      omega)]
    wp_walk
    rw [if_neg (show ¬ ((its.toArray.size : Int) * k > (2 ^ 63 - 1) / 8) by
      rw[hmul]
      have:(sizeLine:Nat)≤(2^63-1) / 8:=by decide
      omega)]
    wp_walk
    rw [if_neg (show ¬ Builtin.Tuple.tupleTooMany ((its.toArray.size : Int) * k) = true by
      unfold Builtin.Tuple.tupleTooMany
      rw[hmul]
      intro z
      have:=of_decide_eq_true z
      omega)]
    rw[RA]
    wp_walk
    have hlen:(List.replicate k.toNat its).flatten.length≤sizeLine:=by rw[len_rep,Nat.mul_comm,←hl];exact hz
    rw[if_neg (show¬((List.replicate k.toNat its).flatten.toArray.size>sizeLine) by rw[List.size_toArray];omega)]
    wp_walk
    refine⟨_,rfl,.ref _,_,I.laid (o:=.tup (List.replicate k.toNat xs).flatten) (t':=s.toks) (fun b ob q=>Heap.get?_push_of_some _ q) (Nat.le_refl _) ?_,rfl,q2 h1 _ (I.hok.fresh (Nat.le_refl _))⟩
    exact⟨by rw[len_rep,Nat.mul_comm];exact hz,_,r.rep k.toNat,PyProof.Rows.IsTup.new _ _⟩
mutual
noncomputable def D.py:D->PyData
 | .non=>.none| .bl b=>.bool b| .int i=>.int i| .str x=>.str x| .ty _=>.none
 | .tup ds=>.tuple (D.pys ds)| .lst ds=>.list (D.pys ds)| .dct _=>.none| .scr _=>.none| .ref _=>.none
noncomputable def D.pys:List D->List PyData
 | []=>[]
 |d::ds=>D.py d::D.pys ds
end
mutual
noncomputable def D.lay:D->Bool
 | .non=>true| .bl _=>true| .int _=>true| .str x=>PySem.PyData.strOk x| .ty _=>false| .dct _=>false| .scr _=>false| .ref _=>false
 | .tup ds=>D.lays ds| .lst ds=>D.lays ds
noncomputable def D.lays:List D->Bool
 | []=>true
 |d::ds=>D.lay d && D.lays ds
end
mutual
theorem J7:∀{d:D},d.lay=true->d.py.canLay0=true
 | .non,_=>rfl
 | .bl _,_=>rfl
 | .int _,_=>rfl
 | .str x,h=>h
 | .ty _,h=>Bool.noConfusion h
 | .dct _,h=>Bool.noConfusion h
 | .scr _,h=>Bool.noConfusion h
 | .ref _,h=>Bool.noConfusion h
 | .tup ds,h=>by show PyData.canLayAll0 (D.pys ds)=true;exact Ly h
 | .lst ds,h=>by show PyData.canLayAll0 (D.pys ds)=true;exact Ly h
theorem Ly:∀{ds:List D},D.lays ds=true->PyData.canLayAll0 (D.pys ds)=true
  | [],_=>rfl
  | d :: ds, h => by
    have h':(D.lay d && D.lays ds)=true:=h
    rw[Bool.and_eq_true]at h'
    show(PyData.canLay0 d.py && PyData.canLayAll0 (D.pys ds))=true
    rw[J7 h'.1,Ly h'.2];rfl
end
section
variable{X:Cx}{pins:List (Addr×Obj)}{σ:Sg}{H:Hp}{s:Shared}{M:Ms}
theorem Gx(I:Inv X pins σ H s){a:Addr}{xs:List V}(h:Rd H a (.lst xs)):∃its:List Value,Vals xs its/\∃o n,s.heap.get? a=some o/\o.cls=.type "list" /\o.data=.seq its.toArray n:=by
 obtain⟨z,its,n,r,e⟩:=h.ok I.hok
 exact⟨its,r,_,n,e,rfl,rfl⟩
mutual
theorem Cw.reads(I:Inv X pins σ H s):∀{v:V} {d:D} {u:Value},Cw X.K M H v d->RelV v u->d.lay=true->∃as,Reads s.heap u d.py as
  |_,_,_,.non,r,_=>by cases r;exact⟨_,.none⟩
  |_,_,_,.bl b,r,_=>by cases r;exact⟨_,.bool b⟩
  |_,_,_,.int b,r,_=>by obtain⟨t,rfl⟩:=r;exact⟨_,.int b t⟩
  |_,_,_,.str b,r,_=>by obtain⟨t,rfl⟩:=r;exact⟨_,.str b t⟩
  |_,_,_,.ty _,_,h=>Bool.noConfusion h
  |_,_,_,.dct _ _ _,_,h=>Bool.noConfusion h
  |_,_,_,.ref _,_,h=>Bool.noConfusion h
  |_,_,_,.scr _,_,h=>Bool.noConfusion h
  | _, _, _, .tup h rs, r, hl => by
    cases r
    obtain⟨its,rv,⟨o,e,hc,n,hd⟩,_⟩:=I.tuple h
    obtain⟨as,ra⟩:=Ai.reads I rs rv hl
    exact⟨as,.tuple e hc hd ra⟩
  | _, _, _, .lst h _ rs, r, hl => by
    cases r
    obtain⟨its,rv,o,n,e,hc,hd⟩:=Gx I (.inl h)
    obtain⟨as,ra⟩:=Ai.reads I rs rv hl
    exact⟨_,.list e hc hd ra⟩
theorem Ai.reads(I:Inv X pins σ H s):∀{vs:List V} {ds:List D} {us:List Value},Ai X.K M H vs ds->Vals vs us->D.lays ds=true->∃as,ReadsAll s.heap us (D.pys ds) as
  |_,_,_,.nil,r,_=>by cases r;exact⟨_,.nil⟩
  | _, _, _, .cons (d := d) (ds := ds) h t, r, hl => by
    cases r with
    | cons r1 r2 =>
      have hl':(D.lay d && D.lays ds)=true:=hl
      rw[Bool.and_eq_true]at hl'
      obtain⟨as,ra⟩:=Cw.reads I h r1 hl'.1
      obtain⟨bs,rb⟩:=Ai.reads I t r2 hl'.2
      exact⟨_,.cons ra rb⟩
end
end
noncomputable def deq(a b:D):Bool:=PyData.eqv a.py b.py
noncomputable def DR(a b:D):Bool:=a.lay && b.lay && decide (min a.py.depth b.py.depth≤60)
noncomputable def wEq:Op2:=fun a b=>if DR (fz a) (fz b)=true then some (.val (.bl (deq (fz a) (fz b))))else none
noncomputable def wNe:Op2:=fun a b=>if DR (fz a) (fz b)=true then some (.val (.bl (!deq (fz a) (fz b))))else none
section
variable{X:Cx}
theorem Sh.reads{pins:List (Addr×Obj)}{σ:Sg}{H:Hp}{s:Shared}{M:Ms}{v:V}{u:Value}{w:Wv}(h:Sh X.K M H v w)(I:Inv X pins σ H s)(r:RelV v u)(hl:(fz w).lay=true):∃as,Reads s.heap u (fz w).py as:=by
  cases w with
  |val d=>exact Cw.reads I h r hl
  | own ds =>
    obtain⟨a,xs,rfl,h1,h2⟩:=h
    cases r
    obtain⟨its,rv,o,n,e,hc,hd⟩:=Gx I (.inl h1)
    obtain⟨as,ra⟩:=Ai.reads I h2 rv hl
    exact⟨_,.list e hc hd ra⟩
theorem Bn(hu:X.A.units+100<cLine):OpR X (compareOp .Eq) (rOp X.K wEq):=by
 intro pins s σ H x y v u Q I rx ry h
 obtain⟨M,w1,w2,r,e,mo,s1,s2,q⟩:=h
 unfold wEq at e
 split at e
 ·rename_i hk
  unfold DR at hk
  rw[Bool.and_eq_true,Bool.and_eq_true]at hk
  cases e
  obtain⟨as,ra⟩:=s1.reads I rx hk.1.1
  obtain⟨bs,rb⟩:=s2.reads I ry hk.1.2
  have hd:=of_decide_eq_true hk.2
  exact SeqAt.compareEq_reads ra rb (J7 hk.1.1) (J7 hk.1.2) (by omega) ⟨.bl _,H,I,rfl,q _ _ (.same mo (.bl _))⟩
 ·cases e
theorem E8(hu:X.A.units+100<cLine):OpR X (compareOp .NotEq) (rOp X.K wNe):=by
 intro pins s σ H x y v u Q I rx ry h
 obtain⟨M,w1,w2,r,e,mo,s1,s2,q⟩:=h
 unfold wNe at e
 split at e
 ·rename_i hk
  unfold DR at hk
  rw[Bool.and_eq_true,Bool.and_eq_true]at hk
  cases e
  obtain⟨as,ra⟩:=s1.reads I rx hk.1.1
  obtain⟨bs,rb⟩:=s2.reads I ry hk.1.2
  have hd:=of_decide_eq_true hk.2
  exact SeqAt.compareNe_reads ra rb (J7 hk.1.1) (J7 hk.1.2) (by omega) ⟨.bl _,H,I,rfl,q _ _ (.same mo (.bl _))⟩
 ·cases e
noncomputable def wI2(f:Int->Int->Option D):Op2
 | .val (.int i),.val (.int j)=>(f i j).map .val
 |_,_=>none
theorem OZ{g:Value->Value->Sem Value}{C:Int->Int->Prop}{h:Int->Int->V}{f:Int->Int->Option D}(o:OpR X g (rI C h))(hf:∀i j d,f i j=some d->C i j/\∀K M H,Cw K M H (h i j) d):OpR X g (rOp X.K (wI2 f)):=by
  intro pins s σ H x y v u Q I rx ry hh
  obtain⟨M,w1,w2,r,e,mo,s1,s2,q⟩:=hh
  unfold wI2 at e
  split at e
  · cases s1
    cases s2
    rename_i i j
    cases e1:f i j with
    |none=>rw[e1]at e;cases e
    | some d =>
      rw[e1]at e
      cases e
      obtain⟨c,rd⟩:=hf i j d e1
      exact o pins s σ H _ _ v u Q I rx ry ⟨i,j,rfl,rfl,c,q _ _ (.same mo (rd _ _ _))⟩
  ·cases e
theorem J4{g:Value->Value->Sem Value}{h:Int->Int->V}{f:Int->Int->Option D}(o:OpR X g (rI0 h))(hf:∀i j d,f i j=some d->∀K M H,Cw K M H (h i j) d):OpR X g (rOp X.K (wI2 f)):=by
  intro pins s σ H x y v u Q I rx ry hh
  obtain⟨M,w1,w2,r,e,mo,s1,s2,q⟩:=hh
  unfold wI2 at e
  split at e
  · cases s1
    cases s2
    rename_i i j
    cases e1:f i j with
    |none=>rw[e1]at e;cases e
    | some d =>
      rw[e1]at e
      cases e
      exact o pins s σ H _ _ v u Q I rx ry ⟨i,j,rfl,rfl,q _ _ (.same mo (hf i j d e1 _ _ _))⟩
  ·cases e
noncomputable def Ic:Op2:=wI2 fun i j=>some (.int (i-j))
noncomputable def VR:Nat:=2^60000
noncomputable def Fq:Nat:=2^8000
noncomputable def Dz(i j:Int):Bool:=decide (i.natAbs<2^64)||(decide (j.natAbs<2^64)||(decide (i.natAbs<VR) && decide (j.natAbs<VR)))
theorem Wu:OpR X (binaryOp .Mult) (rI (fun i j=>Dz i j=true) fun i j=>.int (i*j)):=by
 intro pins s σ H x y v u Q I rx ry h
 obtain⟨i,j,rfl,rfl,hk,q⟩:=h
 unfold Dz at hk
 rw[Bool.or_eq_true,Bool.or_eq_true,Bool.and_eq_true]at hk
 rcases hk with hk|hk|hk
 ·have:=of_decide_eq_true hk
  exact VE pins s σ H _ _ v u Q I rx ry ⟨i,j,rfl,rfl,.inl ⟨by omega,by omega⟩,q⟩
 ·have:=of_decide_eq_true hk
  exact VE pins s σ H _ _ v u Q I rx ry ⟨i,j,rfl,rfl,.inr ⟨by omega,by omega⟩,q⟩
 ·have h1:i.natAbs<2^60000:=of_decide_eq_true hk.1
  have h2:j.natAbs<2^60000:=of_decide_eq_true hk.2
  obtain⟨t1,rfl⟩:=rx
  obtain⟨t2,rfl⟩:=ry
  exact PyProof.Rows.mul_int ⟨.int _,H,I.tok _,⟨_,rfl⟩,q⟩ (PyProof.Rows.mulOk_of_bits (m:=60000) (n:=60000) (PySem.intBits_le_iff.mpr h1) (PySem.intBits_le_iff.mpr h2) (by decide))
noncomputable def Yy:Op2:=wI2 fun i j=>if Dz i j=true then some (.int (i*j))else none
noncomputable def N3:Op2:=wI2 fun i j=>if(decide (0<j) && decide (j.natAbs<Fq))=true then some (.int (i / j))else none
noncomputable def Ot:Op2:=wI2 fun i j=>if 0<j then some (.int (i % j))else none
noncomputable def Vy:Op2:=wI2 fun i j=>if(decide (0≤j) && decide (j≤1000) && decide (i.natAbs<2^64))=true then some (.int (i^j.toNat))else none
noncomputable def wLt:Op2:=wI2 fun i j=>some (.bl (decide (i<j)))
noncomputable def wLe:Op2:=wI2 fun i j=>some (.bl (decide (i≤j)))
noncomputable def wGt:Op2:=wI2 fun i j=>some (.bl (decide (j<i)))
noncomputable def wGe:Op2:=wI2 fun i j=>some (.bl (decide (j≤i)))
theorem DY:OpR X (binaryOp .Sub) (rOp X.K Ic):=J4 Xn fun i j d e K M H=>by cases e;exact .int _
theorem WK:OpR X (binaryOp .Mult) (rOp X.K Yy):=OZ Wu fun i j d e=>by
 split at e
 ·rename_i hk
  cases e
  exact⟨hk,fun _ _ _=>.int _⟩
 ·cases e
theorem HS:OpR X (binaryOp .FloorDiv) (rOp X.K N3):=OZ St.Tt fun i j d e=>by
 split at e
 ·rename_i hk
  rw[Bool.and_eq_true]at hk
  cases e
  exact⟨⟨of_decide_eq_true hk.1,of_decide_eq_true hk.2⟩,fun _ _ _=>.int _⟩
 ·cases e
theorem FV:OpR X (binaryOp .Mod) (rOp X.K Ot):=OZ X3 fun i j d e=>by
 split at e
 ·rename_i hk
  cases e
  exact⟨hk,fun _ _ _=>.int _⟩
 ·cases e
theorem Nn:OpR X (binaryOp .Pow) (rOp X.K Vy):=OZ YQ fun i j d e=>by
 split at e
 ·rename_i hk
  rw[Bool.and_eq_true,Bool.and_eq_true]at hk
  cases e
  have:=of_decide_eq_true hk.1.2
  exact⟨⟨of_decide_eq_true hk.1.1,by omega,of_decide_eq_true hk.2⟩,fun _ _ _=>.int _⟩
 ·cases e
theorem Gg:OpR X (compareOp .Lt) (rOp X.K wLt):=J4 XZ fun i j d e K M H=>by cases e;exact .bl _
theorem YW:OpR X (compareOp .LtE) (rOp X.K wLe):=J4 ZO fun i j d e K M H=>by cases e;exact .bl _
theorem HM:OpR X (compareOp .Gt) (rOp X.K wGt):=J4 c7 fun i j d e K M H=>by cases e;exact .bl _
theorem RM:OpR X (compareOp .GtE) (rOp X.K wGe):=J4 cg fun i j d e K M H=>by cases e;exact .bl _
noncomputable def asL:Wv->Option (List D)
 | .own ds=>some ds
 | .val (.lst ds)=>some ds
 |_=>none
noncomputable def asT:Wv->Option (List D)
 | .val (.tup ds)=>some ds
 |_=>none
noncomputable def asC:Wv->Option (List D)
 | .val (.scr ns)=>some (ns.map .int)
 |_=>none
noncomputable def asS(w:Wv):Option (List D):=(asL w).or ((asT w).or (asC w))
section
variable{K:PySem.W.Frag}{M:Ms}{H:Hp}{v:V}{w:Wv}{ds:List D}
theorem Sh.l(h:Sh K M H v w)(e:asL w=some ds):∃a xs,v=.ref a/\H a=some (.lst xs)/\Ai K M H xs ds:=by
  cases w with
  |own es=>cases e;obtain⟨a,xs,rfl,h1,h2⟩:=h;exact⟨a,xs,rfl,h1,h2⟩
  | val d =>
    cases d<;>first|(cases e;done)|skip
    cases e
    cases h with
    |lst h n r=>exact⟨_,_,rfl,h,r⟩
theorem Sh.t(h:Sh K M H v w)(e:asT w=some ds):∃a xs,v=.ref a/\SqT K H a xs/\Ai K M H xs ds:=by
  cases w with
  |own es=>cases e
  | val d =>
    cases d<;>first|(cases e;done)|skip
    cases e
    cases h with
    |tup h r=>exact⟨_,_,rfl,h,r⟩
theorem He:∀{ns:List Int},Ai K M H (ns.map V.int) (ns.map D.int)
 | []=>.nil
 |n::ns=>.cons (.int n) He
theorem Sh.c(h:Sh K M H v w)(e:asC w=some ds):∃a xs,v=.ref a/\SqL K H a xs/\Ai K M H xs ds:=by
  cases w with
  |own es=>cases e
  | val d =>
    cases d<;>first|(cases e;done)|skip
    cases e
    cases h with
    | scr h =>
      refine⟨_,_,rfl,?_,He⟩
      rcases h with h|h
      ·exact .inl h.1
      ·exact .inr h
theorem Sh.s(h:Sh K M H v w)(e:asS w=some ds):∃a xs,v=.ref a/\(SqL K H a xs∨SqT K H a xs)/\Ai K M H xs ds:=by
  unfold asS at e
  cases e1:asL w with
  | some es =>
    rw[e1]at e
    cases e
    obtain⟨a,xs,h1,h2,h3⟩:=h.l e1
    exact⟨a,xs,h1,.inl (.of h2),h3⟩
  | none =>
    rw[e1]at e
    cases e2:asT w with
    | some es =>
      rw[e2]at e
      cases e
      obtain⟨a,xs,h1,h2,h3⟩:=h.t e2
      exact⟨a,xs,h1,.inr h2,h3⟩
    | none =>
      rw[e2]at e
      obtain⟨a,xs,h1,h2,h3⟩:=h.c e
      exact⟨a,xs,h1,.inl h2,h3⟩
end
noncomputable def DK:Op1:=fun w=>match w with
 | .val (.str z)=>if z.length≤sizeLine then some (.val (.int z.length))else none
 |_=>(asS w).map fun ds=>.val (.int ds.length)
theorem BA : Cy X (.builtin "len") (rN X.K (o1 DK)) := by
  intro pins s σ H xs us Q I r h
  obtain⟨M,ws,w,e,mo,sh,q⟩:=h
  cases sh with
  |nil=>cases e
  | cons h1 t =>
    cases t with
    |cons h2 t=>cases e
    | nil =>
      rename_i v w1
      have e':DK w1=some w:=e
      unfold DK at e'
      split at e'
      · split at e'
        · rename_i z hz
          cases e'
          cases h1
          exact Mb pins s σ H _ us Q I r ⟨z,rfl,hz,q _ _ (.same mo (.int _))⟩
        ·cases e'
      · cases e1 : asS w1 with
        |none=>rw[e1]at e';cases e'
        | some ds =>
          rw[e1]at e'
          cases e'
          obtain⟨a,ys,rfl,h3,h4⟩:=h1.s e1
          refine NK pins s σ H _ us Q I r ⟨a,ys,rfl,h3,q _ _ ?_⟩
          rw[h4.length]
          exact .same mo (.int _)
noncomputable def wIx:Op2:=fun a b=>match a,b with
 |a,.val (.int i)=>(asS a).bind fun ds=>(atI ds i).map .val
 |_,_=>none
theorem W9{K:PySem.W.Frag}{M:Ms}{H:Hp}{xs:List V}{ds:List D}{i:Int}{d:D}(h:Ai K M H xs ds)(e:atI ds i=some d):∃x,atI xs i=some x/\Cw K M H x d:=by
  unfold atI at e⊢
  rw[h.length]
  cases e1:ixN ds.length i with
  |none=>rw[e1]at e;cases e
  | some j =>
    rw[e1]at e
    exact h.get e
theorem AX:IxR X (rOp X.K wIx):=by
  intro value slice pins s σ H x y v u Q I rx ry h hs
  obtain⟨M,w1,w2,r,e,mo,s1,s2,q⟩:=h
  unfold wIx at e
  split at e
  · rename_i i
    cases e1:asS w1 with
    |none=>rw[e1]at e;cases e
    | some ds =>
      rw[e1]at e
      simp only[Option.bind_some]at e
      cases e2:atI ds i with
      |none=>rw[e2]at e;cases e
      | some d =>
        rw[e2]at e
        cases e
        cases s2
        obtain⟨a,ys,rfl,h3,h4⟩:=s1.s e1
        obtain⟨z,h5,h6⟩:=W9 h4 e2
        rcases h3 with h3|h3
        ·exact Wf value slice pins s σ H _ _ v u Q I rx ry ⟨a,ys,i,z,rfl,rfl,h3,h5,q _ _ (.same mo h6)⟩ hs
        ·exact Y6 value slice pins s σ H _ _ v u Q I rx ry ⟨a,ys,i,z,rfl,rfl,h3,h5,q _ _ (.same mo h6)⟩ hs
  ·cases e
end
section
variable{X:Cx}
noncomputable def Bi:Op2:=fun a b=>match a,b with
 | .val (.int i),.val (.int j)=>some (.val (.int (i+j)))
 | .val (.str x),.val (.str y)=>if x.length+y.length≤sizeLine then some (.val (.str (x++y)))else none
 | .val (.tup xs),.val (.tup ys)=>if xs.length+ys.length≤sizeLine then some (.val (.tup (xs++ys)))else none
 |a,b=>(asL a).bind fun xs=>(asL b).bind fun ys=>if xs.length+ys.length≤sizeLine then some (.own (xs++ys))else none
theorem AV : OpR X (binaryOp .Add) (rOp X.K Bi) := by
  intro pins s σ H x y v u Q I rx ry h
  obtain⟨M,w1,w2,r,e,mo,s1,s2,q⟩:=h
  unfold Bi at e
  split at e
  · cases e
    cases s1;cases s2
    exact Xa pins s σ H _ _ v u Q I rx ry ⟨_,_,rfl,rfl,q _ _ (.same mo (.int _))⟩
  · split at e
    · cases e
      cases s1;cases s2
      exact PN pins s σ H _ _ v u Q I rx ry ⟨_,_,rfl,rfl,by assumption,q _ _ (.same mo (.str _))⟩
    ·cases e
  · split at e
    · rename_i xs ys hz
      cases e
      cases s1 with
      | tup h1 r1 =>
        cases s2 with
        | tup h2 r2 =>
          rename_i a xs' b ys'
          have l1:=r1.length
          have l2:=r2.length
          by_cases hx:xs'=[]
          · subst hx
            cases r1
            refine St.WT pins s σ H _ _ v u Q I rx ry ⟨_,_,_,rfl,rfl,h1,h2,q _ _ (.same mo ?_)⟩
            exact .tup h2 r2
          · refine Vm pins s σ H _ _ v u Q I rx ry ⟨_, _, _, _, rfl, rfl, h1, h2, hx, by omega, fun z => ?_, fun _ p hp => q _ _ (.tup mo hp (r1.append r2))⟩
            subst z
            cases r2
            rw[List.append_nil]at q
            exact q _ _ (.same mo (.tup h1 r1))
    ·cases e
  · cases e1 : asL w1 with
    |none=>rw[e1]at e;cases e
    | some xs =>
      rw[e1]at e
      cases e2:asL w2 with
      |none=>rw[e2]at e;cases e
      | some ys =>
        rw[e2]at e
        simp only[Option.bind_some]at e
        split at e
        · rename_i hz
          cases e
          obtain⟨a,xs',rfl,h1,r1⟩:=s1.l e1
          obtain⟨b,ys',rfl,h2,r2⟩:=s2.l e2
          have l1:=r1.length
          have l2:=r2.length
          exact Xq pins s σ H _ _ v u Q I rx ry ⟨a,b,xs',ys',rfl,rfl,h1,h2,by omega,fun p hp=>q _ _ (.lst mo hp (r1.append r2))⟩
        ·cases e
noncomputable def Z3:Op2:=fun a b=>match a,b with
 | .val (.int i),.val (.int j)=>if Dz i j=true then some (.val (.int (i*j)))else none
 | .val (.tup xs),.val (.int k)=>if(!xs.isEmpty && decide (1≤k) && decide (xs.length*k.toNat≤sizeLine))=true then some (.val (.tup (List.replicate k.toNat xs).flatten))else none
 |a,.val (.int k)=>(asL a).bind fun xs=>if(decide (k<2^63) && decide (-(2^63)≤k) && decide (xs.length*k.toNat≤sizeLine))=true then some (.own (List.replicate k.toNat xs).flatten)else none
 |_,_=>none
theorem Ai.rep{K:PySem.W.Frag}{M:Ms}{H:Hp}{xs:List V}{ds:List D}(h:Ai K M H xs ds):∀n:Nat,Ai K M H (List.replicate n xs).flatten (List.replicate n ds).flatten
  |0=>.nil
  | n + 1 => by
    rw[List.replicate_succ,List.replicate_succ,List.flatten_cons,List.flatten_cons]
    exact h.append (Ai.rep h n)
theorem QP : OpR X (binaryOp .Mult) (rOp X.K Z3) := by
  intro pins s σ H x y v u Q I rx ry h
  obtain⟨M,w1,w2,r,e,mo,s1,s2,q⟩:=h
  unfold Z3 at e
  split at e
  · rename_i i j
    refine WK pins s σ H x y v u Q I rx ry ⟨M,_,_,r,?_,mo,s1,s2,q⟩
    unfold Yy wI2
    show Option.map Wv.val (if Dz i j=true then some (D.int (i*j))else none)=some r
    split at e
    · rename_i hk
      rw[if_pos hk]
      exact e
    ·cases e
  · rename_i xs k
    split at e
    · rename_i hk
      rw[Bool.and_eq_true,Bool.and_eq_true]at hk
      cases e
      cases s2
      cases s1 with
      | @tup a ys _ h1 r1=>
        have l1:=r1.length
        have z:=of_decide_eq_true hk.2
        have hk1:=of_decide_eq_true hk.1.2
        have hne:ys≠[]:=fun zz=>by
          subst zz
          cases r1
          exact absurd hk.1.1 (by decide)
        refine Vn pins s σ H _ _ v u Q I rx ry ⟨a,ys,k,rfl,rfl,h1,hne,hk1,by rw[l1];exact z,fun e1=>?_,fun _ p hp=>q _ _ (.tup mo hp (r1.rep _))⟩
        subst e1
        have:(List.replicate (1:Int).toNat xs).flatten=xs:=by simp
        rw[this]at q
        exact q _ _ (.same mo (.tup h1 r1))
    ·cases e
  · rename_i k hn hn2
    cases e1:asL w1 with
    |none=>rw[e1]at e;cases e
    | some xs =>
      rw[e1]at e
      simp only[Option.bind_some]at e
      split at e
      · rename_i hk
        rw[Bool.and_eq_true,Bool.and_eq_true]at hk
        cases e
        cases s2
        obtain⟨a,xs',rfl,h1,r1⟩:=s1.l e1
        have l1:=r1.length
        have z:=of_decide_eq_true hk.2
        exact Xe pins s σ H _ _ v u Q I rx ry ⟨a,k,xs',rfl,rfl,h1,of_decide_eq_true hk.1.2,of_decide_eq_true hk.1.1,by rw[l1];exact z,fun p hp=>q _ _ (.lst mo hp (r1.rep _))⟩
      ·cases e
  ·cases e
noncomputable def GZ:Op1
 | .val (.int i)=>some (.val (.int (-i)))
 |_=>none
theorem C8:UnR X (unaryOp .USub) (rUn X.K GZ):=by
 intro pins s σ H x v Q I rx h
 obtain⟨M,w,r,e,mo,s1,q⟩:=h
 unfold GZ at e
 split at e
 ·cases e
  cases s1
  exact U7 pins s σ H _ v Q I rx ⟨_,rfl,q _ _ (.same mo (.int _))⟩
 ·cases e
noncomputable def Fo:D->Bool
 | .non=>true| .bl _=>true| .int _=>true| .str _=>true
 |_=>false
theorem Sh.flat{K:PySem.W.Frag}{M:Ms}{H:Hp}{v:V}{w:Wv}(h:Sh K M H v w)(f:Fo (fz w)=true):Cw K M H v (fz w):=by
 cases w with
 |val d=>exact h
 |own ds=>cases f
noncomputable def inD(x:D)(xs:List D):Bool:=xs.any fun y=>deq y x
theorem OX{K:PySem.W.Frag}{M:Ms}{H:Hp}{v:V}{d:D}(h:Cw K M H v d)(f:Fo d=true):KU v=true:=by
 cases h<;>first|rfl|cases f
theorem V4{K:PySem.W.Frag}{M:Ms}{H:Hp}{v u:V}{d e:D}(h:Cw K M H v d)(g:Cw K M H u e)(f:Fo d=true)(f':Fo e=true):eqV v u=deq d e:=by
 cases h<;>first|(cases f;done)|skip
 all_goals (cases g<;>first|(cases f';done)|rfl)
theorem M8{K:PySem.W.Frag}{M:Ms}{H:Hp}:∀{vs:List V} {ds:List D},Ai K M H vs ds->ds.all Fo=true->vs.all KU=true
  |_,_,.nil,_=>rfl
  | _, _, .cons h t, f => by
    rw[List.all_cons,Bool.and_eq_true]at f⊢
    exact⟨OX h f.1,M8 t f.2⟩
theorem QA{K:PySem.W.Frag}{M:Ms}{H:Hp}{u:V}{e:D}(g:Cw K M H u e)(f':Fo e=true):∀{vs:List V} {ds:List D},Ai K M H vs ds->ds.all Fo=true->inV u vs=inD e ds
  |_,_,.nil,_=>rfl
  | _, _, .cons h t, f => by
    rw[List.all_cons,Bool.and_eq_true]at f
    have ih:=QA g f' t f.2
    unfold inV inD at ih⊢
    rw[List.any_cons,List.any_cons,ih,V4 h g f.1 f']
noncomputable def wIn(neg:Bool):Op2:=fun a b=>(asS b).bind fun ds=>if(Fo (fz a) && ds.all Fo)=true then some (.val (.bl (if neg then !inD (fz a) ds else inD (fz a) ds)))else none
theorem Va{M:Ms}{H:Hp}{x y:V}{w1 w2 r:Wv}{neg:Bool}{Q:VK}(e:wIn neg w1 w2=some r)(mo:MOk M H)(s1:Sh X.K M H x w1)(s2:Sh X.K M H y w2)(q:∀v H',Nw X.K M H H' v r->Q v H'):rIn X.K neg x y H Q:=by
  unfold wIn at e
  cases e1:asS w2 with
  |none=>rw[e1]at e;cases e
  | some ds =>
    rw[e1]at e
    simp only[Option.bind_some]at e
    split at e
    · rename_i hk
      rw[Bool.and_eq_true]at hk
      cases e
      obtain⟨a,xs,rfl,h3,h4⟩:=s2.s e1
      have g1:=s1.flat hk.1
      refine⟨a,xs,rfl,h3,OX g1 hk.1,M8 h4 hk.2,?_⟩
      rw[QA g1 hk.1 h4 hk.2]
      exact q _ _ (.same mo (.bl _))
    ·cases e
theorem G8:OpR X (compareOp .In) (rOp X.K (wIn false)):=by
 intro pins s σ H x y v u Q I rx ry h
 obtain⟨M,w1,w2,r,e,mo,s1,s2,q⟩:=h
 exact Qp pins s σ H _ _ v u Q I rx ry (Va e mo s1 s2 q)
theorem JO:OpR X (compareOp .NotIn) (rOp X.K (wIn true)):=by
 intro pins s σ H x y v u Q I rx ry h
 obtain⟨M,w1,w2,r,e,mo,s1,s2,q⟩:=h
 exact Mv pins s σ H _ _ v u Q I rx ry (Va e mo s1 s2 q)
noncomputable def isN:Wv->Bool
 | .val .non=>true
 |_=>false
noncomputable def ZZ(neg:Bool):Op2:=fun a b=>match b with
 | .val .non=>some (.val (.bl (if neg then !isN a else isN a)))
 |_=>none
theorem WU{K:PySem.W.Frag}{M:Ms}{H:Hp}{x:V}{w:Wv}(s:Sh K M H x w):decide (x=.non)=isN w:=by
 cases w with
 |own ds=>obtain⟨a,xs,rfl,_⟩:=s;rfl
 |val d=>cases s<;>rfl
theorem SE:OpR X (compareOp .IsNot) (rOp X.K (ZZ true)):=by
 intro pins s σ H x y v u Q I rx ry h
 obtain⟨M,w1,w2,r,e,mo,s1,s2,q⟩:=h
 unfold ZZ at e
 split at e
 ·cases e
  cases s2
  refine WA pins s σ H _ _ v u Q I rx ry ⟨rfl,?_⟩
  rw[WU s1]
  exact q _ _ (.same mo (.bl _))
 ·cases e
theorem FZ{K:PySem.W.Frag}{M:Ms}{H:Hp}{xs:List V}{ws:List Wv}{f:Op1}{r:Wv}(h:Shs K M H xs ws)(e:o1 f ws=some r):∃v w,xs=[v]/\ws=[w]/\Sh K M H v w/\f w=some r:=by
  cases h with
  |nil=>cases e
  | cons h1 t =>
    cases t with
    |cons h2 t=>cases e
    |nil=>exact⟨_,_,rfl,rfl,h1,e⟩
theorem Nc{K:PySem.W.Frag}{M:Ms}{H:Hp}{xs:List V}{ws:List Wv}{f:Op2}{r:Wv}(h:Shs K M H xs ws)(e:o2 f ws=some r):∃v w v' w',xs=[v,v']/\ws=[w,w']/\Sh K M H v w/\Sh K M H v' w'/\f w w'=some r:=by
  cases h with
  |nil=>cases e
  | cons h1 t =>
    cases t with
    |nil=>cases e
    | cons h2 t =>
      cases t with
      |cons h3 t=>cases e
      |nil=>exact⟨_,_,_,_,rfl,rfl,h1,h2,e⟩
noncomputable def ZV:Op1
 | .val (.int i)=>some (.val (.int (if i<0 then-i else i)))
 |_=>none
theorem QQ:Cy X (.builtin "abs") (rN X.K (o1 ZV)):=by
 intro pins s σ H xs us Q I r h
 obtain⟨M,ws,w,e,mo,sh,q⟩:=h
 obtain⟨v,w1,rfl,rfl,s1,e1⟩:=FZ sh e
 unfold ZV at e1
 split at e1
 ·cases e1
  cases s1
  exact Sl pins s σ H _ us Q I r ⟨_,rfl,q _ _ (.same mo (.int _))⟩
 ·cases e1
noncomputable def aW:Op2:=wI2 fun i j=>some (.int (if j>i then j else i))
noncomputable def XQ:Op2:=wI2 fun i j=>some (.int (if j<i then j else i))
theorem Od{f:Int->Int->Option D}{a b r:Wv}(e:wI2 f a b=some r):∃i j d,a=.val (.int i)/\b=.val (.int j)/\f i j=some d/\r=.val d:=by
 unfold wI2 at e
 split at e
 ·rename_i i j
  cases e1:f i j with
  |none=>rw[e1]at e;cases e
  |some d=>rw[e1]at e;cases e;exact⟨i,j,d,rfl,rfl,e1,rfl⟩
 ·cases e
theorem Pp(hc:X.calm=true):Cy X (.builtin "max") (rN X.K (o2 aW)):=by
 intro pins s σ H xs us Q I r h
 obtain⟨M,ws,w,e,mo,sh,q⟩:=h
 obtain⟨v,w1,v',w2,rfl,rfl,s1,s2,e1⟩:=Nc sh e
 obtain⟨i,j,d,rfl,rfl,e2,rfl⟩:=Od e1
 cases e2;cases s1;cases s2
 exact RN hc pins s σ H _ us Q I r ⟨_,_,rfl,q _ _ (.same mo (.int _))⟩
theorem Mu(hc:X.calm=true):Cy X (.builtin "min") (rN X.K (o2 XQ)):=by
 intro pins s σ H xs us Q I r h
 obtain⟨M,ws,w,e,mo,sh,q⟩:=h
 obtain⟨v,w1,v',w2,rfl,rfl,s1,s2,e1⟩:=Nc sh e
 obtain⟨i,j,d,rfl,rfl,e2,rfl⟩:=Od e1
 cases e2;cases s1;cases s2
 exact RB hc pins s σ H _ us Q I r ⟨_,_,rfl,q _ _ (.same mo (.int _))⟩
noncomputable def Du:Op1:=fun w=>(asS w).map fun ds=>.val (.tup ds)
theorem Bo:Cy X (.type "tuple") (rN X.K (o1 Du)):=by
  intro pins s σ H xs us Q I r h
  obtain⟨M,ws,w,e,mo,sh,q⟩:=h
  obtain⟨v,w1,rfl,rfl,s1,e1⟩:=FZ sh e
  unfold Du at e1
  cases e2:asS w1 with
  |none=>rw[e2]at e1;cases e1
  | some ds =>
    rw[e2]at e1
    cases e1
    obtain⟨a,ys,rfl,h3,h4⟩:=s1.s e2
    refine Lk pins s σ H _ us Q I r ⟨a,ys,rfl,?_⟩
    rcases h3 with h3|h3
    ·exact .inl ⟨h3,fun l hl=>q _ _ (.tup mo hl h4)⟩
    ·exact .inr ⟨h3,q _ _ (.same mo (.tup h3 h4))⟩
noncomputable def Ie:Op1:=fun w=>(asS w).map fun ds=>.own ds
theorem GN:Cy X (.type "list") (rN X.K (o1 Ie)):=by
  intro pins s σ H xs us Q I r h
  obtain⟨M,ws,w,e,mo,sh,q⟩:=h
  obtain⟨v,w1,rfl,rfl,s1,e1⟩:=FZ sh e
  unfold Ie at e1
  cases e2:asS w1 with
  |none=>rw[e2]at e1;cases e1
  | some ds =>
    rw[e2]at e1
    cases e1
    obtain⟨a,ys,rfl,h3,h4⟩:=s1.s e2
    exact MX pins s σ H _ us Q I r ⟨a,ys,rfl,h3,fun l hl=>q _ _ (.lst mo hl h4)⟩
noncomputable def V1:Op1
 | .val (.int i)=>some (.val (.int i))
 | .val (.bl b)=>some (.val (.int (if b then 1 else 0)))
 |_=>none
theorem JQ:Cy X (.type "int") (rN X.K (o1 V1)):=by
 intro pins s σ H xs us Q I r h
 obtain⟨M,ws,w,e,mo,sh,q⟩:=h
 obtain⟨v,w1,rfl,rfl,s1,e1⟩:=FZ sh e
 unfold V1 at e1
 split at e1
 ·cases e1;cases s1
  exact MS pins s σ H _ us Q I r (.inl ⟨_,rfl,q _ _ (.same mo (.int _))⟩)
 ·cases e1;cases s1
  exact MS pins s σ H _ us Q I r (.inr ⟨_,rfl,q _ _ (.same mo (.int _))⟩)
 ·cases e1
noncomputable def X4:Op1
 | .val (.int i)=>if i.natAbs.log2<1920 then some (.val (.str (toString i)))else none
 |_=>none
theorem QF:Cy X (.type "str") (rN X.K (o1 X4)):=by
 intro pins s σ H xs us Q I r h
 obtain⟨M,ws,w,e,mo,sh,q⟩:=h
 obtain⟨v,w1,rfl,rfl,s1,e1⟩:=FZ sh e
 unfold X4 at e1
 split at e1
 ·split at e1
  ·cases e1;cases s1
   exact Mq pins s σ H _ us Q I r ⟨_,rfl,by assumption,q _ _ (.same mo (.str _))⟩
  ·cases e1
 ·cases e1
noncomputable def blD:D->Option Bool
 | .bl b=>some b
 |_=>none
noncomputable def bls(ds:List D):Option (List Bool):=ds.mapM blD
theorem Pr {K : PySem.W.Frag} {M : Ms} {H : Hp} : ∀ {vs : List V} {ds : List D} {bs : List Bool}, Ai K M H vs ds -> bls ds = some bs -> vs = bs.map V.bl
  |_,_,bs,.nil,e=>by cases e;rfl
  | _, _, bs, .cons (d := d) (ds := ds) h t, e => by
    unfold bls at e
    rw[List.mapM_cons]at e
    cases e1:blD d with
    |none=>rw[e1]at e;cases e
    | some b =>
      rw[e1]at e
      cases e2:ds.mapM blD with
      |none=>rw[e2]at e;cases e
      | some cs =>
        rw[e2]at e
        cases e
        have hd:d=.bl b:=by
          cases d<;>first|(cases e1;done)|skip
          cases e1;rfl
        subst hd
        cases h
        rw[List.map_cons,←Pr t e2]
noncomputable def Ym:Op1:=fun w=>(asL w).bind fun ds=>(bls ds).map fun bs=>.val (.bl (bs.all id))
theorem MO(hc:X.calm=true):Cy X (.builtin "all") (rN X.K (o1 Ym)):=by
  intro pins s σ H xs us Q I r h
  obtain⟨M,ws,w,e,mo,sh,q⟩:=h
  obtain⟨v,w1,rfl,rfl,s1,e1⟩:=FZ sh e
  unfold Ym at e1
  cases e2:asL w1 with
  |none=>rw[e2]at e1;cases e1
  | some ds =>
    rw[e2]at e1
    simp only[Option.bind_some]at e1
    cases e3:bls ds with
    |none=>rw[e3]at e1;cases e1
    | some bs =>
      rw[e3]at e1
      cases e1
      obtain⟨a,ys,rfl,h3,h4⟩:=s1.l e2
      exact St.Qu hc pins s σ H _ us Q I r ⟨a,bs,rfl,by rw[←Pr h4 e3];exact .of h3,q _ _ (.same mo (.bl _))⟩
noncomputable def kdW:Wv->Option St.Kd
 | .own _=>some .lst
 | .val .non=>some .non| .val (.bl _)=>some .bl| .val (.int _)=>some .int| .val (.str _)=>some .str| .val (.lst _)=>some .lst| .val (.dct _)=>some .dct| .val (.tup _)=>some .tup
 | .val (.ty _)=>none| .val (.scr _)=>none| .val (.ref _)=>none
end
section
variable{X:Cx}
theorem SV{K:PySem.W.Frag}(k:St.Kd):PySem.W.kitOne K (.type k.ty) (.type "list")=some (k.isA "list"):=by
 cases k<;>rfl
noncomputable def Mn(T:String):Bool:=T== "int" ||T== "bool" ||T== "tuple" ||T== "str" ||T== "list"
theorem YN{K:PySem.W.Frag}{T:String}(h:Mn T=true)(k:St.Kd):PySem.W.kitOne K (.type k.ty) (.type T)=some (k.isA T):=by
 unfold Mn at h
 simp only[Bool.or_eq_true,beq_iff_eq]at h
 rcases h with(((rfl|rfl)|rfl)|rfl)|rfl
 ·exact St.XD k
 ·exact St.T9 k
 ·exact St.kit_tuple k
 ·exact St.XM k
 ·exact SV k
noncomputable def KG:Op2:=fun a t=>match t with
 | .val (.ty T)=>if Mn T=true then(kdW a).map fun k=>.val (.bl (k.isA T))else none
 |_=>none
theorem CP : Cy X (.builtin "isinstance") (rN X.K (o2 KG)) := by
  intro pins s σ H xs us Q I r h
  obtain⟨M,ws,w,e,mo,sh,q⟩:=h
  obtain⟨v,w1,v',w2,rfl,rfl,s1,s2,e1⟩:=Nc sh e
  unfold KG at e1
  split at e1
  · rename_i T
    split at e1
    · rename_i hT
      cases e2:kdW w1 with
      |none=>rw[e2]at e1;cases e1
      | some k =>
        rw[e2]at e1
        cases e1
        cases s2
        obtain⟨u1,u2,rfl,r1,r2⟩:=r.two
        cases (show u2=Value.type T from r2)
        have fin:∀tk,EP X pins σ Q (.bool (k.isA T)) {s with toks:=tk}:=fun tk=>⟨.bl _,H,I.tok tk,rfl,q _ _ (.same mo (.bl _))⟩
        have kk:=YN (K:=X.K) hT k
        cases w1 with
        | own ds =>
          cases e2
          obtain⟨a,ys,rfl,h1,_⟩:=s1
          exact EL I r1 (.lst h1) kk fin
        | val d =>
          have s1':Cw X.K M H v d:=s1
          cases s1' with
          |non=>cases e2;exact EL I r1 .non kk fin
          |bl b=>cases e2;exact EL I r1 (.bl b) kk fin
          |int b=>cases e2;exact EL I r1 (.int b) kk fin
          |str b=>cases e2;exact EL I r1 (.str b) kk fin
          |ty b=>cases e2
          |scr h=>cases e2
          |lst h n rr=>cases e2;exact EL I r1 (.lst h) kk fin
          |dct h n rr=>cases e2;exact EL I r1 (.dK h) kk fin
          |ref h=>cases e2
          | tup h rr =>
            cases e2
            rename_i a ys ds
            cases (show u1=Value.ref a from r1)
            obtain⟨its,_,⟨o,h1,h2,_⟩,_⟩:=I.tuple h
            exact PySem.W.kia_one PySem.W.kitx_tuple I.kIn ⟨o,h1,h2⟩ kk (fun z=>nomatch z) fin
    ·cases e1
  ·cases e1
noncomputable def BN(fs:List Ev):Ev:=fun E S=>(evs fs E S).bind fun r=>if r.1.length≤sizeLine then some (.tup r.1,r.2)else none
noncomputable def R5(c:Bool)(fs:List Ev):Ev:=fun E S=>(evs fs E S).bind fun r=>if r.1.length≤sizeLine then fin c (.own r.1) r.2 else none
abbrev C1:=R5 false
abbrev Cz:=R5 true
theorem Am{es:List Expr}{fs:List Ev}{k:Nat}{pos:Pos}(h:DEs X es fs):DE X (.Tuple es k pos) (BN fs):=⟨Bm (Xw h.pe) fun σ H Q z=>by
 obtain⟨M,E,S,d,S',e,r,st,q⟩:=z
 obtain⟨⟨ds,S1⟩,e1,e⟩:=A8 e
 dsimp only at e
 split at e
 ·cases e
  refine GB e1 r st fun vs H1 M1 g1 st1 d1=>⟨by rw[d1.length];assumption,fun p hp=>?_⟩
  have n:=Nw.tup st1.mo hp d1
  exact q _ _ M1 (g1.trans (.grow st1.mo n.grow)) (st1.grow n.grow) n.rel
 ·cases e⟩
theorem As{c:Bool}{es:List Expr}{fs:List Ev}{pos:Pos}(h:DEs X es fs):DE X (.List es pos) (R5 c fs):=⟨Bm (ZG h.pe) fun σ H Q z=>by
 obtain⟨M,E,S,d,S',e,r,st,q⟩:=z
 obtain⟨⟨ds,S1⟩,e1,e⟩:=A8 e
 dsimp only at e
 split at e
 ·refine GB e1 r st fun vs H1 M1 g1 st1 d1=>⟨by rw[d1.length];assumption,fun p hp=>?_⟩
  obtain⟨M2,g2,st2,d2⟩:=(Nw.lst st1.mo hp d1).fin st1 e
  exact q _ _ M2 (g1.trans g2) st2 d2
 ·cases e⟩
noncomputable def Fc(f g:Ev):Ev:=fun E S=>(f E S).bind fun r=>match r.1 with
 | .bl true=>g E r.2
 | .bl false=>some (.bl false,r.2)
 |_=>none
noncomputable def eOr(f g:Ev):Ev:=fun E S=>(f E S).bind fun r=>match r.1 with
 | .bl false=>g E r.2
 | .bl true=>some (.bl true,r.2)
 |_=>none
noncomputable def Kw(f:Ev):Ev:=fun E S=>(f E S).bind fun r=>match r.1 with
 | .bl b=>some (.bl (!b),r.2)
 |_=>none
theorem Of{K:PySem.W.Frag}{M:Ms}{H:Hp}{v:V}{b:Bool}(h:Cw K M H v (.bl b)):v=.bl b:=by cases h;rfl
variable{a b c:Expr}{rest:List Expr}{f g h:Ev}{pos:Pos}
theorem Jo{op:BoolOp}(h:DE X a f):DE X (.BoolOp op [a] pos) f:=⟨Yx h.pe⟩
theorem IK(ha:DE X a f)(hb:DE X (.BoolOp .And (b::rest) pos) g):DE X (.BoolOp .And (a::b::rest) pos) (Fc f g):=⟨Bm (ZN ha.pe hb.pe) fun σ H Q z=>by
 obtain⟨M,E,S,d,S',e,r,st,q⟩:=z
 obtain⟨⟨d1,S1⟩,e1,e⟩:=A8 e
 dsimp only at e
 refine⟨M,E,S,d1,S1,e1,r,st,fun v H1 M1 g1 st1 r1=>?_⟩
 split at e
 ·cases Of r1
  refine⟨_,rfl,?_⟩
  refine XW ?_
  exact⟨M1,E,S1,d,S',e,r.step g1.st,st1,fun v H2 M2 g2 st2 r2=>q _ _ M2 (g1.trans g2) st2 r2⟩
 ·cases e
  cases Of r1
  refine⟨_,rfl,?_⟩
  refine XT ?_
  exact q _ _ M1 g1 st1 r1
 ·cases e⟩
theorem YX(ha:DE X a f):DE X (.UnaryOp .Not a pos) (Kw f):=⟨Bm (Ya ha.pe) fun σ H Q z=>by
 obtain⟨M,E,S,d,S',e,r,st,q⟩:=z
 obtain⟨⟨d1,S1⟩,e1,e⟩:=A8 e
 dsimp only at e
 split at e
 ·cases e
  refine⟨M,E,S,_,_,e1,r,st,fun v H1 M1 g1 st1 r1=>?_⟩
  cases Of r1
  exact⟨_,rfl,q _ _ M1 g1 st1 (.bl _)⟩
 ·cases e⟩
noncomputable def tDT(K:PySem.W.Frag)(f:Ev):TT:=fun σ H Q=>∃M E S b S',f E S=some (.bl b,S')/\EnR K M E σ H/\StR K M S H/\∀H' M',Gr M H M' H'->StR K M' S' H'->Q b H'
structure DT(X:Cx)(e:Expr)(f:Ev):Prop where
 pe:PT X e (tDT X.K f)
structure DW(X:Cx)(e:Expr)(f:Ev):Prop where
 pe:PW X e (tDT X.K f)
theorem DW.dt(h:DW X a f):DT X a f:=⟨PW.pt h.pe⟩
theorem TX{t:TE}(h:PT X a (Vi t))(m:∀σ H Q,tD X.K f σ H Q->t σ H Q):DT X a f:=⟨Qj h fun σ H Q z=>by
 obtain⟨M,E,S,b,S',e,r,st,q⟩:=z
 refine m _ _ _ ⟨M,E,S,_,S',e,r,st,fun v H1 M1 g1 st1 r1=>?_⟩
 cases Of r1
 exact⟨_,rfl,q _ M1 g1 st1⟩⟩
theorem E5(h:DE X a f)(he:∀whole,isTrue a X.env whole=(do let v←whole;standAt a.pos;holding [v] (truthy v)):=by intro _;rfl):DT X a f:=TX (t:=tD X.K f) (YJ h.pe he) fun _ _ _ z=>z
theorem Ac{fa fb:Ev}{op:CmpOp}{f:Op2}(ho:OpR X (compareOp op) (rOp X.K f))(ha:DE X a fa)(hb:DE X b fb)(hm:behindInMarks op b=false:=by rfl):DT X (.Compare a [op] [b] pos) (eOp (o2 f) [fa,fb]):=
 TX (Vr ho ha.pe hb.pe hm) fun _ _ _ h=>OS h
theorem Hg(ha:DT X a f):DT X (.UnaryOp .Not a pos) (Kw f):=⟨Qj (X9 ha.pe) fun σ H Q z=>by
 obtain⟨M,E,S,b,S',e,r,st,q⟩:=z
 obtain⟨⟨w1,S1⟩,e1,e⟩:=A8 e
 dsimp only at e
 split at e
 ·cases e
  exact⟨M,E,S,_,_,e1,r,st,q⟩
 ·cases e⟩
theorem EI(ha:DT X a f):DW X (.BoolOp .And [a] pos) f:=⟨W2 ha.pe⟩
theorem HG(ha:DT X a f):DW X (.BoolOp .Or [a] pos) f:=⟨YT ha.pe⟩
theorem Pm{e:Expr}{t t':TT}(h:PW X e t)(m:∀σ H Q,t' σ H Q->t σ H Q):PW X e t':=fun wh pins s σ H Q I q=>h wh pins s σ H Q I (m _ _ _ q)
theorem Fi(ha:DT X a f)(hb:DW X (.BoolOp .And (b::rest) pos) g):DW X (.BoolOp .And (a::b::rest) pos) (Fc f g):=⟨Pm (Xd ha.pe hb.pe) fun σ H Q z=>by
 obtain⟨M,E,S,k,S',e,r,st,q⟩:=z
 obtain⟨⟨w1,S1⟩,e1,e⟩:=A8 e
 dsimp only at e
 split at e
 ·refine⟨M,E,S,_,S1,e1,r,st,fun H1 M1 g1 st1=>?_⟩
  refine XW ?_
  exact⟨M1,E,S1,k,S',e,r.step g1.st,st1,fun H2 M2 g2 st2=>q _ M2 (g1.trans g2) st2⟩
 ·cases e
  refine⟨M,E,S,_,_,e1,r,st,fun H1 M1 g1 st1=>?_⟩
  refine XT ?_
  exact q _ M1 g1 st1
 ·cases e⟩
theorem Kl(ha:DT X a f)(hb:DW X (.BoolOp .Or (b::rest) pos) g):DW X (.BoolOp .Or (a::b::rest) pos) (eOr f g):=⟨Pm (bu ha.pe hb.pe) fun σ H Q z=>by
 obtain⟨M,E,S,k,S',e,r,st,q⟩:=z
 obtain⟨⟨w1,S1⟩,e1,e⟩:=A8 e
 dsimp only at e
 split at e
 ·refine⟨M,E,S,_,S1,e1,r,st,fun H1 M1 g1 st1=>?_⟩
  refine XT ?_
  exact⟨M1,E,S1,k,S',e,r.step g1.st,st1,fun H2 M2 g2 st2=>q _ M2 (g1.trans g2) st2⟩
 ·cases e
  refine⟨M,E,S,_,_,e1,r,st,fun H1 M1 g1 st1=>?_⟩
  refine XW ?_
  exact q _ M1 g1 st1
 ·cases e⟩
end
inductive Fl where
 |nx
 |ret (d:D)
abbrev Ex:=En->Sto->Option (Fl×En×Sto)
def End(K:PySem.W.Frag)(M:Ms)(H:Hp)(Dn:Ends)(E':En)(S':Sto):Fl->Prop
 | .nx=>∀σ' H' M',Gr M H M' H'->EnR K M' E' σ' H'->StR K M' S' H'->Dn.nx σ' H'
 | .ret d=>∀v H' M',Gr M H M' H'->StR K M' S' H'->Cw K M' H' v d->Dn.rt v H'
noncomputable def tX(K:PySem.W.Frag)(f:Ex):TS:=fun Dn σ H=>∃M E S fl E' S',f E S=some (fl,E',S')/\EnR K M E σ H/\StR K M S H/\End K M H Dn E' S' fl
structure DS(X:Cx)(st:Stmt)(f:Ex):Prop where
 pe:PS X st (tX X.K f)
structure DSs(X:Cx)(st:List Stmt)(f:Ex):Prop where
 pe:PSs X st (tX X.K f)
theorem Ee{X:Cx}{e:Stmt}{t t':TS}(h:PS X e t)(m:∀Dn σ H,t' Dn σ H->t Dn σ H):PS X e t':=fun pins s σ H Dn I q=>h pins s σ H Dn I (m _ _ _ q)
theorem Oi{X:Cx}{e:List Stmt}{t t':TS}(h:PSs X e t)(m:∀Dn σ H,t' Dn σ H->t Dn σ H):PSs X e t':=fun pins s σ H Dn I q=>h pins s σ H Dn I (m _ _ _ q)
theorem End.later{K:PySem.W.Frag}{M M1:Ms}{H H1:Hp}{Dn:Ends}{E':En}{S':Sto}{fl:Fl}(q:End K M H Dn E' S' fl)(g:Gr M H M1 H1):End K M1 H1 Dn E' S' fl:=by
 cases fl with
 |nx=>exact fun σ' H' M' g' r st=>q σ' H' M' (g.trans g') r st
 |ret d=>exact fun v H' M' g' st r=>q v H' M' (g.trans g') st r
noncomputable def Aa(f g:Ex):Ex:=fun E S=>(f E S).bind fun r=>match r.1 with
 | .nx=>g r.2.1 r.2.2
 | .ret w=>some (.ret w,r.2)
noncomputable def CZ:Ex:=fun E S=>some (.nx,E,S)
section
variable{X:Cx}{st:Stmt}{rest a b:List Stmt}{f g h:Ex}{c e:Expr}{k:Ev}{pos:Pos}
theorem An:DSs X [] CZ:=⟨Oi V8 fun Dn σ H z=>by
 obtain⟨M,E,S,fl,E',S',e,r,st,q⟩:=z
 cases e
 exact q _ _ M (.refl st.mo) r st⟩
theorem AF(h1:DS X st f)(h2:DSs X rest g):DSs X (st::rest) (Aa f g):=⟨Oi (Sy h1.pe h2.pe) fun Dn σ H z=>by
 obtain⟨M,E,S,fl,E',S',e,r,st,q⟩:=z
 obtain⟨⟨f1,E1,S1⟩,e1,e⟩:=A8 e
 dsimp only at e
 split at e
 ·exact⟨M,E,S,.nx,E1,S1,e1,r,st,fun σ1 H1 M1 g1 r1 st1=>⟨M1,E1,S1,fl,E',S',e,r1,st1,q.later g1⟩⟩
 ·cases e
  exact⟨M,E,S,.ret _,_,_,e1,r,st,q⟩⟩
theorem AK(h1:DS X st f):DSs X [st] f:=⟨W0 h1.pe⟩
noncomputable def xIf(c:Ev)(f g:Ex):Ex:=fun E S=>(c E S).bind fun r=>match r.1 with
 | .bl true=>f E r.2
 | .bl false=>g E r.2
 |_=>none
theorem Bk(hc:DT X c k)(ha:DSs X a f)(hb:DSs X b g):DS X (.If c a b pos) (xIf k f g):=⟨Ee (cy hc.pe ha.pe hb.pe) fun Dn σ H z=>by
 obtain⟨M,E,S,fl,E',S',e,r,st,q⟩:=z
 obtain⟨⟨w1,S1⟩,e1,e⟩:=A8 e
 dsimp only at e
 split at e
 ·refine⟨M,E,S,_,S1,e1,r,st,fun H1 M1 g1 st1=>?_⟩
  refine XW ?_
  exact⟨M1,E,S1,fl,E',S',e,r.step g1.st,st1,q.later g1⟩
 ·refine⟨M,E,S,_,S1,e1,r,st,fun H1 M1 g1 st1=>?_⟩
  refine XT ?_
  exact⟨M1,E,S1,fl,E',S',e,r.step g1.st,st1,q.later g1⟩
 ·cases e⟩
noncomputable def BS(k:Ev):Ex:=fun E S=>(k E S).map fun r=>(.ret r.1,E,r.2)
theorem AU(h:DE X e k):DS X (.Return (some e) pos) (BS k):=⟨Ee (Xx h.pe) fun Dn σ H z=>by
 obtain⟨M,E,S,fl,E',S',e,r,st,q⟩:=z
 obtain⟨⟨d,S1⟩,e1,e⟩:=Il e
 cases e
 exact⟨M,E,S,d,S1,e1,r,st,fun v H1 M1 g1 st1 r1=>q _ _ M1 g1 st1 r1⟩⟩
end
section
variable{K:PySem.W.Frag}{M:Ms}{E:En}{σ:Sg}{H:Hp}{i:Nat}{d:D}{v:V}
theorem EnR.put(r:EnR K M E σ H)(rd:Cw K M H v d):EnR K M (E.set i (some d)) (σ.set i (some v)) H:=by
 refine⟨by rw[List.length_set,List.length_set];exact r.len,fun j e ej=>?_⟩
 by_cases h:i=j
 ·subst h
  by_cases hi:i<E.length
  ·rw[List.getElem?_set_self hi]at ej
   cases ej
   exact⟨v,List.getElem?_set_self (by rw[←r.len];exact hi),rd⟩
  ·rw[List.getElem?_eq_none_iff.mpr (by rw[List.length_set];omega)]at ej;cases ej
 ·rw[List.getElem?_set_ne h]at ej
  obtain⟨v',h1,h2⟩:=r.val j e ej
  exact⟨v',by rw[List.getElem?_set_ne h];exact h1,h2⟩
end
noncomputable def BP(i:Nat)(k:Ev):Ex:=fun E S=>(k E S).map fun r=>(.nx,E.set i (some r.1),r.2)
theorem Aq{X:Cx}{e:Expr}{k:Ev}{pos pos':Pos}(i:Nat){x:Str}(h:DE X e k)(hN:X.N.Nodup)(hi:X.N[i]?=some x:=by rfl)(hx:Loc X.env.scope x:=by first|exact Or.inl rfl|exact Or.inr rfl)
  (hs:swapsWith e (some (.Name x pos')) pos.line X.env=pure false:=by rfl) (hf:X.fn x=true∨X.env.scope.names.lookup x=some .local:=by first|exact .inl rfl|exact .inr rfl):DS X (.Assign [.Name x pos'] e pos) (BP i k):=⟨
 Ee (ZQ hN hi hx h.pe hs hf) fun Dn σ H z=>by
  obtain⟨M,E,S,fl,E',S',e,r,st,q⟩:=z
  obtain⟨⟨d,S1⟩,e1,e⟩:=Il e
  cases e
  exact⟨M,E,S,d,S1,e1,r,st,fun v H1 M1 g1 st1 r1=>q _ _ M1 g1 ((r.step g1.st).put r1) st1⟩⟩
noncomputable def Bx(k:Ev):Ex:=fun E S=>(k E S).map fun r=>(.nx,E,r.2)
theorem Bq{X:Cx}{e:Expr}{k:Ev}{pos:Pos}(h:DE X e k)(hs:swapsWith e none pos.line X.env=pure false:=by rfl):DS X (.Expr e pos) (Bx k):=⟨Ee (XH h.pe hs) fun Dn σ H z=>by
 obtain⟨M,E,S,fl,E',S',e,r,st,q⟩:=z
 obtain⟨⟨d,S1⟩,e1,e⟩:=Il e
 cases e
 exact⟨M,E,S,d,S1,e1,r,st,fun v H1 M1 g1 st1 r1=>q _ _ M1 g1 (r.step g1.st) st1⟩⟩
noncomputable def DJ(S:Sto)(n:Nat):Option (List D):=match S[n]? with
 |some (.lst ds)=>some ds
 |_=>none
theorem D0{S:Sto}{n:Nat}{ds:List D}(h:DJ S n=some ds):S[n]?=some (.lst ds):=by
 unfold DJ at h
 split at h
 ·rename_i e
  cases h
  exact e
 ·cases h
abbrev Mo:=Sto->List D->List D->Option (D×List D)
noncomputable def Fp(op:Mo)(f:Ev)(fs:List Ev):Ev:=fun E S=>(f E S).bind fun r=>match r.1 with
 | .ref n=>(DJ r.2 n).bind fun _=>(evs fs E r.2).bind fun p=>(DJ p.2 n).bind fun ds=>(op p.2 ds p.1).map fun q=>(q.1,p.2.set n (.lst q.2))
 |_=>none
def Zt(K:PySem.W.Frag)(op:Mo):V->List V->Hp->VK->Prop:=fun x vs H Q=>∃M S n a ds args d ds',x=.ref a/\M.cel[n]?=some a/\S[n]?=some (.lst ds)/\op S ds args=some (d,ds')/\StR K M S H/\Ai K M H vs args/\∀v H',StR K M (S.set n (.lst ds')) H'->Gr M H M H'->Cw K M H' v d->Q v H'
section
variable{X:Cx}
theorem Ye{op:Mo}{f:Ev}{fs:List Ev}{σ:Sg}{H:Hp}{Q:VK}(h:tD X.K (Fp op f fs) σ H Q):tBM X.K "list" (Zt X.K op) (tD X.K f) (tDs X.K fs) σ H Q:=by
  obtain⟨M,E,S,d,S',e,r,st,q⟩:=h
  obtain⟨⟨d1,S1⟩,e1,e⟩:=A8 e
  dsimp only at e
  split at e
  · rename_i n
    obtain⟨ds0,e2,e⟩:=A8 e
    obtain⟨⟨args,S2⟩,e3,e⟩:=A8 e
    obtain⟨ds,e4,e⟩:=A8 e
    obtain⟨⟨dd,ds'⟩,e5,e⟩:=Il e
    cases e
    refine⟨M,E,S,_,S1,e1,r,st,fun v H1 M1 g1 st1 r1=>?_⟩
    cases r1 with
    | ref hc =>
      rename_i a
      obtain⟨xs,h1,h2⟩:=st1.cell n a _ hc (D0 e2)
      refine⟨.inl ⟨rfl,xs,.of h1⟩,?_⟩
      refine GB e3 (r.step g1.st) st1 fun vs H2 M2 g2 st2 r2=>?_
      exact⟨M2,S2,n,a,ds,args,dd,ds',rfl,Lz g2.pre hc,D0 e4,e5,st2,r2,fun v H3 st3 g3 r3=>q _ _ M2 ((g1.trans g2).trans g3) st3 r3⟩
  ·cases e
theorem Ds{id:String}{name:Str}{o e:Expr}{es:List Expr}{op:Mo}{f:Ev}{fs:List Ev}{apos cpos:Pos}(slot:Slot "list" name id)(hty:typeOf (.builtin id)=pure (.type "method_descriptor"))(hm:MtR X id (Zt X.K op))(ho:DE X o f)(ha:DEs X (e::es) fs)
  (hbase:attributeBase o name X.env (eval o X.env)=eval o X.env:=by rfl)
  (hfew:((backTo cpos (starEach (e::es) X.env)).all (fun x=> !x.1) && (backToKw cpos (keywordEach [] X.env)).all (fun x=>x.1.isSome)
   && decide ((e::es).length+([]:List Keyword).length+(if([]:List Keyword).isEmpty then 0 else 1)<30))=true:=by rfl)
  (hline:(apos.endLine==cpos.line)=true:=by rfl) (hs:starEach (e::es) X.env=(false,eval e X.env)::starEach es X.env:=by rfl) (hplain:(backTo cpos (starEach es X.env)).any (·.1)=false:=by rfl):
  DE X (.Call (.Attribute o name apos) (e::es) [] cpos) (Fp op f fs):=⟨Bm (av PySem.F.plainAttrs_list slot hty hm ho.pe ha.pe hbase hfew hline hs hplain) fun σ H Q z=>Ye z⟩
noncomputable def F1:Mo
 |_,ds,[x]=>if ds.length<sizeLine then some (.non,ds++[x])else none
 |_,_,_=>none
theorem OA{K:PySem.W.Frag}{M:Ms}{H:Hp}{vs:List V}{d:D}(h:Ai K M H vs [d]):∃v,vs=[v]/\Cw K M H v d:=by
 cases h with
 |cons h t=>cases t;exact⟨_,rfl,h⟩
theorem Cm:MtR X "list.append" (Zt X.K F1):=by
 intro pins s σ H x vs v us Q I rx rv h
 obtain⟨M,S,n,a,ds,args,d,ds',rfl,hc,hn,e,st,ra,q⟩:=h
 unfold F1 at e
 split at e
 ·split at e
  ·rename_i hz
   cases e
   obtain⟨xs,h1,h2⟩:=st.cell n a _ hc hn
   obtain⟨y,rfl,ry⟩:=OA ra
   obtain⟨st2,g2⟩:=st.chg hc hn (h2.append (.cons ry .nil))
   exact Mm pins s σ H _ _ v us Q I rx rv ⟨a,xs,y,rfl,rfl,h1,by rw[h2.length];exact hz,q _ _ st2 g2 .non⟩
  ·cases e
 ·cases e
end
noncomputable def Hz(k f o:Ev):Ex:=fun E S=>(k E S).bind fun r=>(f E r.2).bind fun b=>(o E b.2).bind fun i=>match b.1,i.1 with
 | .ref n,.int j=>(DJ i.2 n).bind fun ds=>(ixN ds.length j).map fun m=>(.nx,E,i.2.set n (.lst (ds.set m r.1)))
 |_,_=>none
theorem Bu{X:Cx}{e t bs:Expr}{k f o:Ev}{ps pos:Pos}(h:DE X e k)(hb:DE X bs f)(ht:DE X t o)
    (ha:∀v,assign (.Subscript bs t ps) X.env v=(do
      let ov←holding [v] (eval bs X.env)
      let iv←holding [v,ov] (eval t X.env)
      standAt ps
      holding [v,ov,iv] (setItem ov iv v)
      release [v,ov,iv] []):=by intro _;rfl)
    (hs:swapsWithSole [.Subscript bs t ps] e pos.line X.env=pure false:=by rfl) (hw:swappedStores [.Subscript bs t ps] e X.env=pure none:=by rfl)
    (h1:(assignEach [.Subscript bs t ps] X.env).map (·.2)=[assign (.Subscript bs t ps) X.env]:=by rfl):
    DS X (.Assign [.Subscript bs t ps] e pos) (Hz k f o):=⟨
  Ee (VZ h.pe (ZD hb.pe ht.pe set_list ha) hs hw h1) fun Dn σ H z=>by
    obtain⟨M,E,S,fl,E',S',e,r,st,q⟩:=z
    obtain⟨⟨d,S1⟩,e1,e⟩:=A8 e
    obtain⟨⟨b,S2⟩,e2,e⟩:=A8 e
    obtain⟨⟨i,S3⟩,e3,e⟩:=A8 e
    dsimp only at e e1 e2 e3
    split at e
    · rename_i n j _
      obtain⟨ds,e4,e⟩:=A8 e
      obtain⟨m,e5,e⟩:=Il e
      cases e
      refine⟨M,E,S,d,S1,e1,r,st,fun v H1 M1 g1 st1 r1=>?_⟩
      refine⟨M1,E,S1,_,S2,e2,r.step g1.st,st1,fun bv H2 M2 g2 st2 r2=>?_⟩
      refine⟨M2,E,S2,_,S3,e3,(r.step g1.st).step g2.st,st2,fun iv H3 M3 g3 st3 r3=>?_⟩
      cases r3
      cases r2 with
      | ref hc =>
        rename_i a
        have hc3:=Lz g3.pre hc
        obtain⟨xs,h1,h2⟩:=st3.cell n a _ hc3 (D0 e4)
        obtain⟨st4,g4⟩:=st3.chg hc3 (D0 e4) (h2.set ((r1.step g2.st).step g3.st) m)
        have g:=((g1.trans g2).trans g3).trans g4
        exact⟨a,xs,j,m,rfl,rfl,h1,by rw[h2.length];exact e5,q _ _ M3 g (r.step g.st) st4⟩
    ·cases e⟩
abbrev Fn:=List D->Sto->Option (D×Sto)
noncomputable def flD:Fl->D
 | .nx=>.non
 | .ret d=>d
noncomputable def BQ(N:Nat)(body:Ex):Fn:=fun ds S=>(body (ds.map some++List.replicate (N-ds.length) none) S).map fun r=>(flD r.1,r.2.2)
def BM{α:Type}(a:α):α:=Classical.choose (⟨a,rfl⟩:∃x,x=a)
theorem QB{α:Type}(a:α):BM a=a:=Classical.choose_spec (⟨a,rfl⟩:∃x,x=a)
noncomputable def spD(K:PySem.W.Frag)(np:Nat)(f:Fn):Sp:=fun vs H Q _=>∃M ds S d S',ds.length=np/\f ds S=some (d,S')/\Ai K M H vs ds/\StR K M S H/\∀v H' M',Gr M H M' H'->StR K M' S' H'->Cw K M' H' v d->Q v H'
theorem Mg{α:Type}{xs:List α}{i:Nat}{x:α}(h:(xs.map some)[i]?=some (some x)):xs[i]?=some x:=by
 rw[List.getElem?_map]at h
 cases e:xs[i]? with
 |none=>rw[e]at h;cases h
 |some y=>rw[e]at h;cases h;rfl
theorem Qr{α:Type}{xs:List (Option α)}{k i:Nat}{x:α}(h:(xs++List.replicate k none)[i]?=some (some x)):xs[i]?=some (some x):=by
 by_cases hi:i<xs.length
 ·rw[List.getElem?_append_left hi]at h;exact h
 ·rw[List.getElem?_append_right (by omega),List.getElem?_replicate]at h
  split at h<;>cases h
theorem WM{α:Type}{xs:List (Option α)}{k i:Nat}{x:Option α}(h:xs[i]?=some x):(xs++List.replicate k none)[i]?=some x:=by
 rw[List.getElem?_append_left (List.getElem?_eq_some_iff.mp h).1];exact h
theorem EnR.args{K:PySem.W.Frag}{M:Ms}{H:Hp}{vs:List V}{ds:List D}(r:Ai K M H vs ds)(k:Nat):EnR K M (ds.map some++List.replicate k none) (vs.map some++List.replicate k none) H:=by
 refine⟨by simp[r.length],fun i d e=>?_⟩
 obtain⟨v,h1,h2⟩:=r.get (Mg (Qr e))
 exact⟨v,WM (by rw[List.getElem?_map,h1];rfl),h2⟩
section
variable{P:Program}{w:World}{K:PySem.W.Frag}{mg:Str->Option Value}{base:Heap}
theorem X8{x:Str}{st:Stmt}{f:Addr}{fd:FuncData}{N ps:List Str}{k np:Nat}{b:Ex}(Fu:Fun K x x st f fd)(S:AW N ps (AM st))(hp:ps.length=np)
  (hb:∀(cdv:Value) (A:Around) (outer:List PySem.Env) (s:Shared) (H:Hp) (E:XK),LH k (A.deeper (PyProof.Rows.envOfC x (AM st) s.heap.objs.size f cdv))->DSs (U2 CX0 P w K mg base N x (AM st) f cdv A outer s H E).nox (FL st) b):
  MM P w K mg base CX0 (k+1) f fd ps (spD K np (BM (BQ N.length b))):=by
 rw[QB]
 refine Fu.ok S (fun vs H Q E h=>?_) (fun cdv A outer s H vs Q E hr h=>?_)
 ·obtain⟨M,ds,S0,d,S',hl,_,r,_⟩:=h
  have:=r.length
  omega
 ·obtain⟨M,ds,S0,d,S',hl,e,r,st,q⟩:=h
  have hlen:=r.length
  refine⟨_,(hb cdv A outer s H E hr).pe,?_⟩
  obtain⟨⟨fl,E',S1⟩,e1,e⟩:=Il e
  cases e
  refine⟨M,_,S0,fl,E',S1,e1,?_,st,?_⟩
  ·rw[show L2.start N vs=vs.map some++List.replicate (N.length-ds.length) none from by unfold L2.start;rw[hlen]]
   exact .args r _
  ·cases fl with
   |nx=>exact fun σ' H' M' g _ st'=>q _ _ M' g st' .non
   |ret d=>exact fun v H' M' g st' r'=>q _ _ M' g st' r'
theorem Av{x:Str}{st:Stmt}{N ps:List Str}{k np:Nat}{b:Ex}(S:St.Src K mg x st)(sc:AW N ps (AM st))(hp:ps.length=np)
  (hbi:∀f fd,Fun K x x st f fd->Binds K fd ps [])
  (hb:∀(f:Addr) (cdv:Value) (A:Around) (outer:List PySem.Env) (s:Shared) (H:Hp) (E:XK),LH k (A.deeper (PyProof.Rows.envOfC x (AM st) s.heap.objs.size f cdv))->DSs (U2 CX0 P w K mg base N x (AM st) f cdv A outer s H E).nox (FL st) b):
  St.Dfn P w K mg base x (k+1) ps (spD K np (BM (BQ N.length b))):=by
 obtain⟨f,fd,Fu,hm⟩:=S.ex
 exact⟨f,fd,hm,Fu.kp,hbi f fd Fu,X8 Fu sc hp fun cdv A outer s H E hr=>hb f cdv A outer s H E hr⟩
end
noncomputable def AL(f:Fn)(fs:List Ev):Ev:=fun E S=>(evs fs E S).bind fun r=>f r.1 r.2
theorem Wn{K:PySem.W.Frag}{np:Nat}{f:Fn}{fs:List Ev}{σ:Sg}{H:Hp}{Q:VK}(hn:fs.length=np)(h:tD K (AL f fs) σ H Q):WH (spD K np f) [] E0 (tDs K fs) σ H Q:=by
 obtain⟨M,E,S,d,S',e,r,st,q⟩:=h
 obtain⟨⟨ds,S1⟩,e1,e⟩:=A8 e
 refine GB e1 r st fun vs H1 M1 g1 st1 r1=>?_
 rw[List.append_nil]
 exact⟨M1,ds,S1,d,S',by rw[Nh e1];exact hn,e,r1,st1,fun v H2 M2 g2 st2 r2=>q _ _ M2 (g1.trans g2) st2 r2⟩
theorem AJ{X:Cx}{k np:Nat}{x:Str}{ps:List Str}{f:Fn}{e:Expr}{es:List Expr}{fs:List Ev}{p pos:Pos}(d:St.Dfn X.prog X.w X.K X.mg X.base x k ps (spD X.K np f))(hr:LH k X.A)(hg:Gl X x)(ha:DEs X (e::es) fs)
  (hn:fs.length=np:=by rfl) (hdb:(x==("__debug__":Str))=false:=by decide) (he:starEach (e::es) X.env=(false,eval e X.env)::starEach es X.env:=by rfl) (hpl:(backTo pos (starEach es X.env)).any (·.1)=false:=by rfl):
  DE X (.Call (.Name x p) (e::es) [] pos) (AL f fs):=⟨Bm (St.dA d hr hg ha.pe hdb he hpl) fun σ H Q z=>Wn hn z⟩
abbrev Tf:=D->En->Sto->Option En
noncomputable def tG(K:PySem.W.Frag)(t:Tf):TG:=fun v σ H Q=>∃M d E E' S,t d E S=some E'/\EnR K M E σ H/\StR K M S H/\Cw K M H v d/\∀σ',EnR K M E' σ' H->Q σ' H
structure DG(X:Cx)(tg:Expr)(t:Tf):Prop where
 pe:PG X tg (tG X.K t)
noncomputable def tNm(i:Nat):Tf:=fun d E _=>some (E.set i (some d))
theorem QU{X:Cx}{e:Expr}{t t':TG}(h:PG X e t)(m:∀v σ H Q,t' v σ H Q->t v σ H Q):PG X e t':=fun pins s σ H v u Q I r q=>h pins s σ H v u Q I r (m _ _ _ _ q)
theorem Ax{X:Cx}{pos:Pos}(i:Nat){x:Str}(hN:X.N.Nodup)(hi:X.N[i]?=some x:=by rfl)(hx:Loc X.env.scope x:=by first|exact Or.inl rfl|exact Or.inr rfl)
  (hf:X.fn x=true∨X.env.scope.names.lookup x=some .local:=by first|exact .inl rfl|exact .inr rfl):DG X (.Name x pos) (tNm i):=⟨QU (Wm hN hi hx hf) fun v σ H Q z=>by
 obtain⟨M,d,E,E',S,e,r,st,rd,q⟩:=z
 cases e
 exact q _ (r.put rd)⟩
noncomputable def tMs:List Tf->List D->En->Sto->Option En
 | [],[],E,_=>some E
 |t::ts,d::ds,E,S=>(t d E S).bind fun E1=>tMs ts ds E1 S
 |_,_,_,_=>none
noncomputable def tTp(ts:List Tf):Tf:=fun d E S=>match d with
 | .tup ds=>tMs ts ds E S
 | .lst ds=>tMs ts ds E S
 | .ref n=>(DJ S n).bind fun ds=>tMs ts ds E S
 |_=>none
noncomputable def tGs(K:PySem.W.Frag):List Tf->TGs
 | []=>dC
 |t::ts=>Y1 (tG K t) (tGs K ts)
theorem OL{K:PySem.W.Frag}{M:Ms}{H:Hp}{S:Sto}(st:StR K M S H):∀{ts:List Tf} {ds:List D} {vs:List V} {E E':En} {σ:Sg} {Q:Sg->Hp->Prop},tMs ts ds E S=some E'->EnR K M E σ H->Ai K M H vs ds->(∀σ',EnR K M E' σ' H->Q σ' H)->tGs K ts vs σ H Q
  | [],[],_,E,E',σ,Q,e,r,rd,q=>by
    cases e
    cases rd
    exact⟨rfl,q _ r⟩
  | t :: ts, d :: ds, _, E, E', σ, Q, e, r, rd, q => by
    obtain⟨E1,e1,e⟩:=A8 e
    cases rd with
    |cons h1 h2=>exact⟨_,_,rfl,M,d,E,E1,S,e1,r,st,h1,fun σ1 r1=>OL st e r1 h2 q⟩
  | [],_::_,_,E,E',σ,Q,e,r,rd,q=>by cases e
  |_::_,[],_,E,E',σ,Q,e,r,rd,q=>by cases e
theorem MB:∀{ts:List Tf} {ds:List D} {E E':En} {S:Sto},tMs ts ds E S=some E'->ds.length=ts.length
  | [],[],_,_,_,_=>rfl
  | t :: ts, d :: ds, E, E', S, e => by
    obtain⟨E1,e1,e⟩:=A8 e
    simp[MB e]
  | [],_::_,_,_,_,e=>by cases e
  |_::_,[],_,_,_,e=>by cases e
structure DGs(X:Cx)(es:List Expr)(ts:List Tf):Prop where
 pe:PGs X es (tGs X.K ts)
theorem CG{X:Cx}:DGs X [] []:=⟨W5⟩
theorem AZ{X:Cx}{e:Expr}{es:List Expr}{t:Tf}{ts:List Tf}(h:DG X e t)(g:DGs X es ts)(hs:(assignEach (e::es) X.env).map (·.2)=assign e X.env::(assignEach es X.env).map (·.2):=by rfl):DGs X (e::es) (t::ts):=⟨TL h.pe g.pe hs⟩
theorem Ft{X:Cx}{k:Nat}{es:List Expr}{ts:List Tf}{pos:Pos}(hc:X.calm=true)(h:DGs X es ts)(hn:(assignEach es X.env).length=ts.length:=by rfl)(hst:(assignEach es X.env).findIdx? (·.1)=none:=by rfl):DG X (.Tuple es k pos) (tTp ts):=⟨
  QU (YE hc h.pe hn hst) fun v σ H Q z=>by
    obtain⟨M,d,E,E',S,e,r,st,rd,q⟩:=z
    unfold tTp at e
    split at e
    · cases rd with
      |tup h1 h2=>exact⟨_,_,rfl,.inl h1,by rw[h2.length];exact MB e,OL st e r h2 q⟩
    · cases rd with
      |lst h1 n h2=>exact⟨_,_,rfl,.inr h1,by rw[h2.length];exact MB e,OL st e r h2 q⟩
    · obtain ⟨ds, e1, e⟩ := A8 e
      cases rd with
      | ref hc =>
        obtain⟨xs,h1,h2⟩:=st.cell _ _ _ hc (D0 e1)
        exact⟨_,_,rfl,.inr h1,by rw[h2.length];exact MB e,OL st e r h2 q⟩
    ·cases e⟩
noncomputable def PR(t:Tf)(k:Ev):Ex:=fun E S=>(k E S).bind fun r=>(t r.1 E r.2).map fun E'=>(.nx,E',r.2)
theorem IJ{X:Cx}{tg e:Expr}{t:Tf}{k:Ev}{pos:Pos}(h:DE X e k)(hg:DG X tg t)(hs:swapsWithSole [tg] e pos.line X.env=pure false:=by rfl)(hw:swappedStores [tg] e X.env=pure none:=by rfl)
  (h1:(assignEach [tg] X.env).map (·.2)=[assign tg X.env]:=by rfl):DS X (.Assign [tg] e pos) (PR t k):=⟨Ee (VZ h.pe hg.pe hs hw h1) fun Dn σ H z=>by
 obtain⟨M,E,S,fl,E',S',e,r,st,q⟩:=z
 obtain⟨⟨d,S1⟩,e1,e⟩:=A8 e
 obtain⟨E2,e2,e⟩:=Il e
 cases e
 exact⟨M,E,S,d,S1,e1,r,st,fun v H1 M1 g1 st1 r1=>⟨M1,d,E,_,S1,e2,r.step g1.st,st1,r1,fun σ' r2=>q _ _ M1 g1 r2 st1⟩⟩⟩
noncomputable def Rg(i j:Nat)(f g:Ev):Ex:=fun E S=>(evs [f,g] E S).bind fun r=>match r.1 with
 | [d,d']=>some (.nx,(E.set i (some d)).set j (some d'),r.2)
 |_=>none
theorem LD{X:Cx}{i j:Nat}{x y:Str}{a b:Expr}{f g:Ev}{px py pt:Pos}{kt k2:Nat}{pt2 pos:Pos}(hc:X.calm=true)(hN:X.N.Nodup)(hi:X.N[i]?=some x)(hj:X.N[j]?=some y)(hij:i≠j)
    (hx:X.env.scope.names.lookup x=some .local) (hy:X.env.scope.names.lookup y=some .local) (ha:DE X a f) (hb:DE X b g)
    (hw:swappedStores [.Tuple [.Name x px,.Name y py] kt pt] (.Tuple [a,b] k2 pt2) X.env=pure (some [x,y]):=by rfl)
    (hsa:starEach [a,b] X.env=(false,eval a X.env)::starEach [b] X.env:=by rfl) (hsb:starEach [b] X.env=(false,eval b X.env)::starEach [] X.env:=by rfl)
    (hs:swapsWithSole [.Tuple [.Name x px,.Name y py] kt pt] (.Tuple [a,b] k2 pt2) pos.line X.env=pure false:=by rfl):DS X (.Assign [.Tuple [.Name x px,.Name y py] kt pt] (.Tuple [a,b] k2 pt2) pos) (Rg i j f g):=⟨by
  refine Ee (X6 hc hN hi hj hij hx hy (LO ha.pe (LO hb.pe Qm hsb) hsa) hw hs) fun Dn σ H z=>?_
  obtain⟨M,E,S,fl,E',S',e,r,st,q⟩:=z
  obtain⟨⟨ds,S1⟩,e1,e⟩:=A8 e
  refine GB (K:=X.K) (fs:=[f,g]) e1 r st fun vs H1 M1 g1 st1 r1=>?_
  dsimp only at e
  split at e
  · rename_i d d'
    cases e
    cases r1 with
    | cons h1 t =>
      cases t with
      | cons h2 t =>
        cases t
        exact⟨_,_,rfl,q _ _ M1 g1 (((r.step g1.st).put h1).put h2) st1⟩
  ·cases e⟩
noncomputable def Q8:Ex:=fun _ _=>none
theorem Oa{X:Cx}{st:Stmt}:DS X st Q8:=⟨fun _ _ _ _ _ _ z=>by
 obtain⟨M,E,S,fl,E',S',e,_⟩:=z
 cases e⟩
abbrev Gd:=List (Nat×List D)
def gOk(gs:Gd)(S:Sto):Prop:=∀g∈gs,DJ S g.1=some g.2
abbrev Sr:=En->Sto->Option ((List D×Gd)×Sto)
structure Xt(K:PySem.W.Frag)(M:Ms)(H:Hp)(gs:Gd)(ds:List D)(J:It):Prop where
 go:∀(i:Nat) (H2:Hp) (M2:Ms) (S2:Sto),Sp1 M H M2 H2->StR K M2 S2 H2->gOk gs S2->i<ds.length->J.go i H2
 stop:∀(i:Nat) (H2:Hp) (M2:Ms) (S2:Sto),Sp1 M H M2 H2->StR K M2 S2 H2->gOk gs S2->ds.length≤i->J.stop i H2
 yld:∀(i:Nat) (H2:Hp) (M2:Ms) (S2:Sto) (x:V) (H3:Hp) (d:D),Sp1 M H M2 H2->StR K M2 S2 H2->gOk gs S2->ds[i]?=some d->J.yld i H2 x H3->(∀a o,H2 a=some o->H3 a=some o)/\Cw K M2 H3 x d
noncomputable def tI(K:PySem.W.Frag)(s:Sr):TI:=fun σ H R=>∃M E S ds gs S',s E S=some ((ds,gs),S')/\EnR K M E σ H/\StR K M S H/\∀J H' M',Gr M H M' H'->StR K M' S' H'->Xt K M' H' gs ds J->R J H'
structure DI(X:Cx)(tg iter:Expr)(s:Sr):Prop where
 pe:PI X tg iter (tI X.K s)
theorem L8{X:Cx}{tg e:Expr}{t t':TI}(h:PI X tg e t)(m:∀σ H R,t' σ H R->t σ H R):PI X tg e t':=fun pins s σ H R I q=>h pins s σ H R I (m _ _ _ q)
noncomputable def eS(K:PySem.W.Frag)(tl:TE):TI:=fun σ H R=>tl σ H fun x H1=>∃a,x=.ref a/\(((∃xs,SqL K H1 a xs)/\R (Itl K a) H1)∨((∃xs,SqT K H1 a xs)/\R (Itt K a) H1))
theorem Yf{X:Cx}{tg l:Expr}{tl:TE}(hl:PE X l tl):PI X tg l (eS X.K tl):=by
 intro pins s σ H R I h
 refine thn (hl pins s σ H _ I h) fun v s1 ⟨x,H1,I1,r1,q1⟩=>?_
 obtain⟨a,e,q1⟩:=q1
 subst e
 cases r1
 rcases q1 with⟨⟨xs,hq⟩,q⟩|⟨⟨xs,hq⟩,q⟩
 ·obtain⟨its,rv,p,hz⟩:=I1.list hq
  refine wpAny_pyIter_list p.isList ?_
  refine⟨s1.heap.objs.size,[s1.heap.objs.size],_,_,H1,rfl,I1.kept (t':=s1.toks) fun b o e=>Heap.get?_push_of_some _ e,Qv a _,⟨_,Heap.get?_push_size _ rfl,rfl,rfl⟩,fun b hb=>?_,q⟩
  have e:b=s1.heap.objs.size:=by simpa using hb
  subst e
  exact I1.fpOk (Nat.le_refl _) (I1.hok.fresh (Nat.le_refl _))
 ·obtain⟨its,rv,p,hz⟩:=I1.tuple hq
  refine wpAny_pyIter_tuple (show s1.heap.IsTuple a its.toArray from p) ?_
  refine⟨s1.heap.objs.size,[s1.heap.objs.size],_,_,H1,rfl,I1.kept (t':=s1.toks) fun b o e=>Heap.get?_push_of_some _ e,Pe a _,⟨_,Heap.get?_push_size _ rfl,rfl,rfl⟩,fun b hb=>?_,q⟩
  have e:b=s1.heap.objs.size:=by simpa using hb
  subst e
  exact I1.fpOk (Nat.le_refl _) (I1.hok.fresh (Nat.le_refl _))
theorem Ai.get'{K:PySem.W.Frag}{M:Ms}{H:Hp}{vs:List V}{ds:List D}{i:Nat}(h:Ai K M H vs ds)(hi:i<ds.length):∃x,vs[i]?=some x:=by
 have:=h.length
 exact⟨vs[i],List.getElem?_eq_getElem (by omega)⟩
structure SqF(K:PySem.W.Frag)(M:Ms)(H:Hp)(gs:Gd)(k:Bool)(a:Addr)(ds:List D):Prop where
 keep:∀(H2:Hp) (M2:Ms) (S2:Sto),Sp1 M H M2 H2->StR K M2 S2 H2->gOk gs S2->∃xs,(if k=true then SqT K H2 a xs else SqL K H2 a xs)/\Ai K M2 H2 xs ds
noncomputable def sqD(S:Sto):D->Option (List D×Gd)
 | .tup ds=>some (ds,[])
 | .lst ds=>some (ds,[])
 | .ref n=>(DJ S n).map fun ds=>(ds,[(n,ds)])
 | .scr ns=>some (ns.map .int,[])
 |_=>none
theorem Oo{K:PySem.W.Frag}{M:Ms}{H:Hp}{S:Sto}{v:V}{d:D}{ds:List D}{gs:Gd}(st:StR K M S H)(h:Cw K M H v d)(e:sqD S d=some (ds,gs)):∃k a,v=.ref a/\SqF K M H gs k a ds:=by
  cases h with
  |tup h r=>cases e;exact⟨true,_,rfl,⟨fun H2 M2 S2 g _ _=>⟨_,g.sqT h,r.step g⟩⟩⟩
  |lst h n r=>cases e;exact⟨false,_,rfl,⟨fun H2 M2 S2 g _ _=>⟨_,SqL.of (g.keep _ _ h n),r.step g⟩⟩⟩
  | scr h =>
    cases e
    refine⟨false,_,rfl,⟨fun H2 M2 S2 g _ _=>⟨_,?_,He⟩⟩⟩
    rcases h with⟨h,n⟩|h
    · rcases h with h | ⟨o, h⟩
      ·exact .inl (.inl (g.keep _ _ h n))
      ·exact .inl (.inr ⟨o,g.keep _ _ h n⟩)
    ·exact .inr h
  | ref h =>
    obtain⟨es,e1,e⟩:=Il e
    cases e
    refine⟨false,_,rfl,⟨fun H2 M2 S2 g st2 ok=>?_⟩⟩
    obtain⟨xs,h1,h2⟩:=st2.cell _ _ _ (Lz g.pre h) (D0 (ok _ (List.mem_singleton.mpr rfl)))
    exact⟨xs,SqL.of h1,h2⟩
  |non=>cases e
  |bl b=>cases e
  |int b=>cases e
  |str b=>cases e
  |ty b=>cases e
  |dct h n r=>cases e
theorem bO{K:PySem.W.Frag}{M:Ms}{H:Hp}{gs:Gd}{k:Bool}{a:Addr}{ds:List D}(h:SqF K M H gs k a ds):Xt K M H gs ds (if k=true then Itt K a else Itl K a):=by
  cases k with
  | true =>
    exact{
      go:=fun i H2 M2 S2 g st ok hi=>let⟨xs,h1,h2⟩:=h.keep H2 M2 S2 g st ok;let⟨x,hx⟩:=h2.get' hi;⟨xs,x,h1,hx⟩
      stop:=fun i H2 M2 S2 g st ok hi=>let⟨xs,h1,h2⟩:=h.keep H2 M2 S2 g st ok;⟨xs,h1,by have:=h2.length;omega⟩
      yld:=fun i H2 M2 S2 x H3 d g st ok hd hy=>by
        obtain⟨xs,h1,h2⟩:=h.keep H2 M2 S2 g st ok
        obtain⟨rfl,hy⟩:=hy
        refine⟨fun _ _ e=>e,?_⟩
        have hx:=hy xs h1
        obtain⟨x',h3,h4⟩:=h2.get hd
        rw[hx]at h3;cases h3
        exact h4}
  | false =>
    exact{
      go:=fun i H2 M2 S2 g st ok hi=>let⟨xs,h1,h2⟩:=h.keep H2 M2 S2 g st ok;let⟨x,hx⟩:=h2.get' hi;⟨xs,x,h1,hx⟩
      stop:=fun i H2 M2 S2 g st ok hi=>let⟨xs,h1,h2⟩:=h.keep H2 M2 S2 g st ok;⟨xs,h1,by have:=h2.length;omega⟩
      yld:=fun i H2 M2 S2 x H3 d g st ok hd hy=>by
        obtain⟨xs,h1,h2⟩:=h.keep H2 M2 S2 g st ok
        obtain⟨rfl,hy⟩:=hy
        refine⟨fun _ _ e=>e,?_⟩
        have hx:=hy xs h1
        obtain⟨x',h3,h4⟩:=h2.get hd
        rw[hx]at h3;cases h3
        exact h4}
noncomputable def GY(f:Ev):Sr:=fun E S=>(f E S).bind fun r=>(sqD r.2 r.1).map fun p=>(p,r.2)
theorem Ln{S:Sto}{d:D}{ds:List D}{gs:Gd}(e:sqD S d=some (ds,gs)):gOk gs S:=by
  cases d<;>first|(cases e;done)|skip
  all_goals first
    |(cases e;intro g hg;cases hg;done)
    | (obtain ⟨es, e1, e⟩ := Il e
       cases e
       intro g hg
       rw[List.mem_singleton.mp hg]
       exact e1)
theorem Cu{X:Cx}{tg e:Expr}{f:Ev}(h:DE X e f):DI X tg e (GY f):=⟨L8 (Yf h.pe) fun σ H R z=>by
 obtain⟨M,E,S,ds,gs,S',e,r,st,q⟩:=z
 obtain⟨⟨d,S1⟩,e1,e⟩:=A8 e
 obtain⟨⟨ds',gs'⟩,e2,e⟩:=Il e
 cases e
 refine⟨M,E,S,d,S1,e1,r,st,fun v H1 M1 g1 st1 r1=>?_⟩
 obtain⟨k,a,rfl,sq⟩:=Oo st1 r1 e2
 obtain⟨xs,hs,_⟩:=sq.keep H1 M1 S1 (Gr.refl st1.mo).st st1 (Ln e2)
 have it:=bO sq
 refine⟨a,rfl,?_⟩
 cases k with
 |true=>exact .inr ⟨⟨xs,hs⟩,q _ _ M1 g1 st1 it⟩
 |false=>exact .inl ⟨⟨xs,hs⟩,q _ _ M1 g1 st1 it⟩⟩
noncomputable def KH(lo:Int)(n:Nat):List D:=(List.range n).map fun(i:Nat)=>.int (lo+(i:Int))
theorem Xv{K:PySem.W.Frag}{M:Ms}{H:Hp}{lo:Int}{n:Nat}:Xt K M H [] (KH lo n) (Itr lo n) where
  go := fun i H2 M2 S2 g st ok hi => by
    have:i<n:=by unfold KH at hi;simpa using hi
    exact this
  stop:=fun i H2 M2 S2 g st ok hi=>by
    have:n≤i:=by unfold KH at hi;simpa using hi
    exact this
  yld := fun i H2 M2 S2 x H3 d g st ok hd hy => by
    obtain⟨rfl,rfl⟩:=hy
    refine⟨fun _ _ e=>e,?_⟩
    unfold KH at hd
    rw[List.getElem?_map]at hd
    cases e:(List.range n)[i]? with
    |none=>rw[e]at hd;cases hd
    | some j =>
      rw[e]at hd
      cases hd
      have:j=i:=by
        obtain⟨h1,h2⟩:=List.getElem?_eq_some_iff.mp e
        simpa using h2.symm
      subst this
      exact .int _
noncomputable def ML(fs:List Ev):Sr:=fun E S=>(evs fs E S).bind fun r=>match r.1 with
 | [.int j]=>if(decide (-(2^62)≤j) && decide (j<2^62))=true then some ((KH 0 j.toNat,[]),r.2)else none
 | [.int i,.int j]=>if(decide (-(2^62)≤i) && decide (i<2^62) && decide (-(2^62)≤j) && decide (j<2^62))=true then some ((KH i (j-i).toNat,[]),r.2)else none
 |_=>none
theorem OQ{K:PySem.W.Frag}{M:Ms}{H:Hp}{vs:List V}{j:Int}(h:Ai K M H vs [.int j]):vs=[.int j]:=by
 cases h with
 |cons h t=>cases t;cases h;rfl
theorem Qe{K:PySem.W.Frag}{M:Ms}{H:Hp}{vs:List V}{i j:Int}(h:Ai K M H vs [.int i,.int j]):vs=[.int i,.int j]:=by
 cases h with
 |cons h t=>cases h;cases OQ t;rfl
theorem Ef{X:Cx}{tg a:Expr}{o:Ev}{p pos:Pos}(hg:Gl X "range")(hm:X.mg "range"=none)(ha:DEs X [a] [o])(hs:starEach [a] X.env=[(false,eval a X.env)]:=by rfl):DI X tg (.Call (.Name "range" p) [a] [] pos) (ML [o]):=⟨
 L8 (QJ hg hm ha.pe hs) fun σ H R z=>by
  obtain⟨M,E,S,ds,gs,S',e,r,st,q⟩:=z
  obtain⟨⟨ws,S1⟩,e1,e⟩:=A8 e
  have hl:=Nh e1
  refine GB e1 r st fun vs H1 M1 g1 st1 r1=>?_
  dsimp only at e
  split at e
  ·split at e
   ·rename_i j hk
    rw[Bool.and_eq_true]at hk
    cases e
    exact⟨j,OQ r1,of_decide_eq_true hk.1,of_decide_eq_true hk.2,q _ _ M1 g1 st1 Xv⟩
   ·cases e
  ·simp at hl
  ·cases e⟩
open Classical in
def KI(gs:Gd)(t:Tf)(body:Ex):List D->En->Sto->Option (Fl×En×Sto)
  | [],E,S=>if gOk gs S then some (.nx,E,S)else none
  | d :: ds, E, S => if gOk gs S then (t d E S).bind fun E1 => (body E1 S).bind fun r => match r.1 with
    | .nx=>KI gs t body ds r.2.1 r.2.2
    | .ret w=>some (.ret w,r.2)
    else none
def IM(s:Sr)(t:Tf)(body:Ex):Ex:=fun E S=>(s E S).bind fun r=>KI r.1.2 t body r.1.1 E r.2
theorem Mf{α:Type}{xs:List α}{i:Nat}{x:α}{r:List α}(h:xs.drop i=x::r):xs[i]?=some x/\xs.drop (i+1)=r/\i<xs.length:=by
 have hi:i<xs.length:=by
  by_cases hi:i<xs.length
  ·exact hi
  ·rw[List.drop_eq_nil_of_le (by omega)]at h;cases h
 rw[List.drop_eq_getElem_cons hi]at h
 cases h
 exact⟨List.getElem?_eq_getElem hi,rfl,hi⟩
theorem D7{X:Cx}{tg iter:Expr}{body:List Stmt}{s:Sr}{t:Tf}{b:Ex}{pos:Pos}(hp:PassesOwn (model X.prog X.w) X.A X.env X.xe)(hc:X.calm=true)(hi:DI X tg iter s)(hg:DG X tg t)(hb:DSs X body b)
    (hs:∀x,foldedSetIterable iter X.env x=pure x:=by intro _;rfl):DS X (.For tg iter body [] pos) (IM s t b):=⟨Ee (ZS hp hc hi.pe hg.pe hb.pe hs) fun Dn σ H z=>by
  obtain⟨M,E,S,fl,E',S',e,r,st,q⟩:=z
  obtain⟨⟨⟨ds,gs⟩,S1⟩,e1,e⟩:=A8 e
  dsimp only at e
  refine⟨M,E,S,ds,gs,S1,e1,r,st,fun J H1 M1 g1 st1 it=>?_⟩
  refine⟨fun i m σ' H'=>m=ds.length-i/\∃E2 S2 M2,KI gs t b (ds.drop i) E2 S2=some (fl,E',S')/\Gr M1 H1 M2 H'/\EnR X.K M2 E2 σ' H'/\StR X.K M2 S2 H',⟨_,rfl,E,S1,M1,e,.refl st1.mo,r.step g1.st,st1⟩,fun i m σ2 H2 hW=>?_⟩
  obtain⟨rfl,E2,S2,M2,e2,g2,r2,st2⟩:=hW
  cases ed:ds.drop i with
  | nil =>
    rw[ed]at e2
    unfold KI at e2
    split at e2
    · rename_i ok
      cases e2
      left
      exact⟨it.stop i H2 M2 _ g2.st st2 ok (List.drop_eq_nil_iff.mp ed),q _ _ M2 (g1.trans g2) r2 st2⟩
    ·cases e2
  | cons d rest =>
    obtain⟨d1,d2,d3⟩:=Mf ed
    rw[ed]at e2
    unfold KI at e2
    split at e2
    · rename_i ok
      obtain⟨E3,e3,e2⟩:=A8 e2
      obtain⟨⟨f4,E4,S4⟩,e4,e2⟩:=A8 e2
      dsimp only at e2
      right
      refine⟨it.go i H2 M2 S2 g2.st st2 ok d3,fun σ' H'=>∃m',m'<ds.length-i/\(m'=ds.length-(i+1)/\∃E2 S2 M2,KI gs t b (ds.drop (i+1)) E2 S2=some (fl,E',S')/\Gr M1 H1 M2 H'/\EnR X.K M2 E2 σ' H'/\StR X.K M2 S2 H'),fun σ' H' z=>z,fun x H3 hy=>?_⟩
      obtain⟨k3,rx⟩:=it.yld i H2 M2 S2 x H3 d g2.st st2 ok d1 hy
      have g3:Gr M2 H2 M2 H3:=.grow st2.mo k3
      refine⟨M2,d,E2,E3,S2,e3,r2.step g3.st,st2.grow k3,rx,fun σ4 r4=>?_⟩
      refine⟨M2,E3,S2,f4,E4,S4,e4,r4,st2.grow k3,?_⟩
      split at e2
      ·exact fun σ6 H6 M6 g6 r6 st6=>⟨_,by omega,rfl,E4,S4,M6,by rw[d2];exact e2,(g2.trans g3).trans g6,r6,st6⟩
      · cases e2
        exact fun v H6 M6 g6 st6 r6=>q _ _ M6 (((g1.trans g2).trans g3).trans g6) st6 r6
    ·cases e2⟩
noncomputable def Eo(c:Ev)(b:Ex):Nat->En->Sto->Option (Fl×En×Sto)
  |0,_,_=>none
  | k + 1, E, S => (c E S).bind fun r => match r.1 with
    | .bl true=>(b E r.2).bind fun p=>match p.1 with
      | .nx=>Eo c b k p.2.1 p.2.2
      | .ret w=>some (.ret w,p.2)
    | .bl false=>some (.nx,E,r.2)
    |_=>none
noncomputable def K4(fuel:En->Nat)(c:Ev)(b:Ex):Ex:=fun E S=>Eo c b (fuel E) E S
theorem OW {X : Cx} {c : Expr} {body : List Stmt} {k : Ev} {b : Ex} {pos : Pos} (fuel : En -> Nat) (hp : PassesOwn (model X.prog X.w) X.A X.env X.xe) (hc : DT X c k) (hb : DSs X body b) : DS X (.While c body [] pos) (K4 fuel k b) := ⟨
  Ee (Ud hp hc.pe hb.pe) fun Dn σ H z=>by
    obtain⟨M,E,S,fl,E',S',e,r,st,q⟩:=z
    refine⟨fun m σ' H'=>∃E2 S2 M2,Eo k b m E2 S2=some (fl,E',S')/\Gr M H M2 H'/\EnR X.K M2 E2 σ' H'/\StR X.K M2 S2 H',⟨fuel E,E,S,M,e,.refl st.mo,r,st⟩,fun m σ2 H2 hW=>?_⟩
    obtain⟨E2,S2,M2,e2,g2,r2,st2⟩:=hW
    cases m with
    |zero=>cases e2
    | succ m =>
      obtain⟨⟨w3,S3⟩,e3,e2⟩:=A8 e2
      dsimp only at e2
      split at e2
      · obtain ⟨⟨f4, E4, S4⟩, e4, e2⟩ := A8 e2
        refine⟨M2,E2,S2,true,S3,e3,r2,st2,fun H3 M3 g3 st3=>?_⟩
        refine XW ⟨fun σ' H'=>∃m',m'<m+1/\∃E2 S2 M2,Eo k b m' E2 S2=some (fl,E',S')/\Gr M H M2 H'/\EnR X.K M2 E2 σ' H'/\StR X.K M2 S2 H',fun σ' H' z=>z,?_⟩
        refine⟨M3,E2,S3,f4,E4,S4,e4,r2.step g3.st,st3,?_⟩
        dsimp only at e2
        split at e2
        ·exact fun σ5 H5 M5 g5 r5 st5=>⟨m,by omega,E4,S4,M5,e2,(g2.trans g3).trans g5,r5,st5⟩
        · cases e2
          exact fun v H5 M5 g5 st5 r5=>q _ _ M5 ((g2.trans g3).trans g5) st5 r5
      · cases e2
        refine⟨M2,_,S2,false,_,e3,r2,st2,fun H3 M3 g3 st3=>?_⟩
        refine XT ?_
        exact q _ _ M3 (g2.trans g3) (r2.step g3.st) st3
      ·cases e2⟩
noncomputable def XJ(i:Nat):En->Nat:=fun E=>match at? E i with
 |some (.int j)=>j.natAbs+2
 |_=>0
section
variable{K:PySem.W.Frag}{M M' M2:Ms}{H H' H2:Hp}{S:Sto}
structure GrX(M:Ms)(H:Hp)(M':Ms)(H':Hp):Prop where
 pre:M.cel <+: M'.cel
 fresh:∀a,a∈M'.cel->a∈M.cel∨H a=none
 keep:∀a o,H a=some o->a∉M.cel->H' a=some o
 some:∀a,H a≠none->H' a≠none
theorem GrX.none(g:GrX M H M' H'){a:Addr}(h:H' a=none):H a=none:=by
 cases e:H a with
 |none=>rfl
 |some o=>exact absurd h (g.some a (by rw[e];intro z;cases z))
theorem Gr.x(g:Gr M H M' H'):GrX M H M' H':=⟨g.pre,g.fresh,g.keep,g.some⟩
theorem GrX.trans(h:GrX M H M' H')(g:GrX M' H' M2 H2):GrX M H M2 H2:=
 ⟨h.pre.trans g.pre,fun a z=>(g.fresh a z).elim (h.fresh a) fun z=>.inr (h.none z),fun a o e n=>g.keep a o (h.keep a o e n) (fun z=>by
  rcases h.fresh a z with z|z
  ·exact n z
  ·rw[e]at z;cases z),fun a e=>g.some a (h.some a e)⟩
theorem StR.tmp_on(r:StR K M S H){a:Addr}(e:H a=none):StR K ⟨M.cel,a::M.tmp⟩ S (upd H a (.lst []))/\GrX M H ⟨M.cel,a::M.tmp⟩ (upd H a (.lst []))/\Sp1 M H ⟨M.cel,a::M.tmp⟩ (upd H a (.lst [])):=by
 have k:∀b o,H b=some o->upd H a (.lst []) b=some o:=FU e
 have na:¬M.mem a:=fun z=>r.mo.some z e
 have s1:Sp1 M H ⟨M.cel,a::M.tmp⟩ (upd H a (.lst [])):=⟨r.mo,List.prefix_rfl,fun b z=>by
  rcases z with z|z
  ·exact .inl (.inl z)
  ·rcases List.mem_cons.mp z with z|z
   ·subst z;exact .inr e
   ·exact .inl (.inr z),fun b o eb _=>k b o eb⟩
 refine⟨⟨fun b z=>?_,r.nd,fun b hb z=>?_,r.len,fun n b c h1 h2=>?_⟩,⟨List.prefix_rfl,fun b z=>.inl z,fun b o eb _=>k b o eb,fun b eb z=>?_⟩,s1⟩
 ·by_cases h:b=a
  ·subst h;exact .inl ⟨[],BK⟩
  ·rw[Al h]
   refine r.mo b ?_
   rcases z with z|z
   ·exact .inl z
   ·rcases List.mem_cons.mp z with z|z
    ·exact absurd z h
    ·exact .inr z
 ·rcases List.mem_cons.mp hb with hb|hb
  ·subst hb;exact na (.inl z)
  ·exact r.nt b hb z
 ·have q:=r.cell n b c h1 h2
  cases c with
  |lst ds=>obtain⟨xs,e,rr⟩:=q;exact⟨xs,k _ _ e,rr.step s1⟩
  |dct ds=>obtain⟨xs,e,rr⟩:=q;exact⟨xs,k _ _ e,rr.step s1⟩
 ·cases h:H b with
  |none=>exact eb h
  |some o=>rw[k b o h]at z;cases z
theorem StR.tmp_app(r:StR K M S H){a:Addr}{ys:List V}(ha:a∈M.tmp):StR K M S (upd H a (.lst ys))/\Sp1 M H M (upd H a (.lst ys)):=by
 have s1:Sp1 M H M (upd H a (.lst ys)):=⟨r.mo,List.prefix_rfl,fun b z=>.inl z,fun b o eb nb=>by rw[Al (fun z=>nb (by rw[z];exact .inr ha))];exact eb⟩
 refine⟨⟨fun b z=>?_,r.nd,r.nt,r.len,fun n b c h1 h2=>?_⟩,s1⟩
 ·by_cases h:b=a
  ·subst h;exact .inl ⟨ys,BK⟩
  ·rw[Al h];exact r.mo b z
 ·have hb:b≠a:=fun z=>r.nt a ha (by rw[←z];exact List.mem_of_getElem? h1)
  have q:=r.cell n b c h1 h2
  cases c with
  |lst ds=>obtain⟨xs,e,rr⟩:=q;exact⟨xs,by rw[Al hb];exact e,rr.step s1⟩
  |dct ds=>obtain⟨xs,e,rr⟩:=q;exact⟨xs,by rw[Al hb];exact e,rr.step s1⟩
theorem StR.tmp_off{c:List Addr}{t:List Addr}{a:Addr}{xs:List V}{ds:List D}{cf:Bool}{d:D}{S':Sto}(r:StR K ⟨c,a::t⟩ S H)(nt:a∉t)(e:H a=some (.lst xs))(rr:Ai K ⟨c,a::t⟩ H xs ds)(ef:fin cf (.own ds) S=some (d,S')):
    ∃c',StR K ⟨c',t⟩ S' H/\Cw K ⟨c',t⟩ H (.ref a) d/\c <+: c'/\(∀b∈c',b∈c∨b=a):=by
  have nc:a∉c:=r.nt a List.mem_cons_self
  cases cf with
  | false =>
    cases ef
    have s1:Sp1 ⟨c,a::t⟩ H ⟨c,t⟩ H:=⟨r.mo,List.prefix_rfl,fun b z=>.inl (z.imp id (List.mem_cons_of_mem _)),fun _ _ e _=>e⟩
    refine⟨c,⟨fun b z=>r.mo b (z.imp id (List.mem_cons_of_mem _)),r.nd,fun b hb=>r.nt b (List.mem_cons_of_mem _ hb),r.len,fun n b cl h1 h2=>?_⟩,.lst e (fun z=>z.elim nc nt) (rr.step s1),List.prefix_rfl,fun b z=>.inl z⟩
    have q:=r.cell n b cl h1 h2
    cases cl with
    |lst ds=>obtain⟨xs,e,rr⟩:=q;exact⟨xs,e,rr.step s1⟩
    |dct ds=>obtain⟨xs,e,rr⟩:=q;exact⟨xs,e,rr.step s1⟩
  | true =>
    cases ef
    have s1:Sp1 ⟨c,a::t⟩ H ⟨c++[a],t⟩ H:=⟨r.mo,List.prefix_append _ _,fun b z=>by
      rcases z with z|z
      · rcases List.mem_append.mp z with z | z
        ·exact .inl (.inl z)
        ·exact .inl (.inr (by rw[List.mem_singleton.mp z];exact List.mem_cons_self))
      ·exact .inl (.inr (List.mem_cons_of_mem _ z)),fun _ _ e _=>e⟩
    have hl:c.length=S.length:=r.len
    refine⟨c++[a],⟨fun b z=>?_,?_,fun b hb z=>?_,by simp[hl],fun n b cl h1 h2=>?_⟩,.ref ?_,List.prefix_append _ _,fun b z=>?_⟩
    · refine r.mo b ?_
      rcases z with z|z
      · rcases List.mem_append.mp z with z | z
        ·exact .inl z
        ·exact .inr (by rw[List.mem_singleton.mp z];exact List.mem_cons_self)
      ·exact .inr (List.mem_cons_of_mem _ z)
    · rw [List.nodup_append]
      refine⟨r.nd,by simp,fun x hx y hy z=>?_⟩
      simp at hy;subst hy
      exact nc (by rw[←z];exact hx)
    · rcases List.mem_append.mp z with z | z
      ·exact r.nt b (List.mem_cons_of_mem _ hb) z
      ·rw[List.mem_singleton.mp z]at hb;exact nt hb
    · by_cases h : n < S.length
      · rw [List.getElem?_append_left (by rw [hl]; exact h)] at h1
        rw[List.getElem?_append_left h]at h2
        have q:=r.cell n b cl h1 h2
        cases cl with
        |lst ds=>obtain⟨xs,e,rr⟩:=q;exact⟨xs,e,rr.step s1⟩
        |dct ds=>obtain⟨xs,e,rr⟩:=q;exact⟨xs,e,rr.step s1⟩
      · have hm : n = S.length := by
          have:=(List.getElem?_eq_some_iff.mp h2).1
          simp at this;omega
        subst hm
        rw[List.getElem?_append_right (by rw[hl];exact Nat.le_refl _)]at h1
        rw[List.getElem?_append_right (Nat.le_refl _)]at h2
        rw[hl]at h1
        simp at h1 h2
        subst h1 h2
        exact⟨xs,e,rr.step s1⟩
    ·rw[←hl];exact List.getElem?_concat_length
    · rcases List.mem_append.mp z with z | z
      ·exact .inl z
      ·exact .inr (List.mem_singleton.mp z)
end
open Classical in
def B9 (gs : Gd) (t : Tf) (c : Ev) (f : Ev) : List D -> List D -> En -> Sto -> Option (List D × Sto)
  | [],acc,_,S=>if gOk gs S then some (acc,S)else none
  | d :: ds, acc, E, S => if gOk gs S then (if acc.length < sizeLine then (t d E S).bind fun E1 => (c E1 S).bind fun r => match r.1 with
      | .bl true=>(f E1 r.2).bind fun p=>B9 gs t c f ds (acc++[p.1]) E1 p.2
      | .bl false=>B9 gs t c f ds acc E1 r.2
      |_=>none
    else none)else none
noncomputable def DA:Ev:=fun _ S=>some (.bl true,S)
noncomputable def Na(cap:List Nat)(m:Nat)(E:En):En:=cap.map (at? E)++List.replicate m none
def Kr(cf:Bool)(cap:List Nat)(m:Nat)(s:Sr)(t:Tf)(c:Ev)(f:Ev):Ev:=fun E S=>(s E S).bind fun r=>(B9 r.1.2 t c f r.1.1 [] (Na cap m E) r.2).bind fun q=>fin cf (.own q.1) q.2
noncomputable abbrev Ci:=Kr false
noncomputable abbrev OV:=Kr true
noncomputable def ixC(cap:List Nat)(m:Nat):List (Option Nat):=cap.map some++List.replicate m none
theorem EnR.cap{K:PySem.W.Frag}{M:Ms}{E:En}{σ:Sg}{H:Hp}(r:EnR K M E σ H)(cap:List Nat)(m:Nat):EnR K M (Na cap m E) (sig (ixC cap m) σ) H:=by
  unfold Na sig ixC
  refine⟨by simp,fun i d e=>?_⟩
  have h1:=Qr e
  rw[List.getElem?_map]at h1
  cases e1:cap[i]? with
  |none=>rw[e1]at h1;cases h1
  | some j =>
    rw[e1]at h1
    have h2:at? E j=some d:=by simpa using h1
    obtain⟨v,hv,rd⟩:=r.val j d (at?_some h2)
    refine⟨v,?_,rd⟩
    have hi:i<cap.length:=(List.getElem?_eq_some_iff.mp e1).1
    rw[List.map_append,List.getElem?_append_left (by simpa using hi),List.getElem?_map,List.getElem?_map,e1]
    show some ((σ[j]?).join)=some (some v)
    rw[hv]
    rfl
theorem Q2 {K : PySem.W.Frag} {cf : Bool} {cap : List Nat} {m : Nat} {s : Sr} {t : Tf} {c f : Ev} {σ : Sg} {H : Hp} {Q : VK} (h : tD K (Kr cf cap m s t c f) σ H Q) : Vf (ixC cap m) (tI K s) (tG K t) (tDT K c) (tD K f) σ H Q := by
  obtain⟨M,E,S,d,S',e,r,st,q⟩:=h
  obtain⟨⟨⟨ds,gs⟩,S1⟩,e1,e⟩:=A8 e
  obtain⟨⟨accf,Sf⟩,e3,e⟩:=A8 e
  dsimp only at e e3
  refine⟨M,E,S,ds,gs,S1,e1,r,st,fun J H1 M1 g1 st1 it A0 hD=>?_⟩
  obtain⟨st0,gx0,s0⟩:=st1.tmp_on hD
  have nt:A0∉M1.tmp:=fun z=>st1.mo.some (.inr z) hD
  refine⟨fun i mm σ' H' ys=>mm=ds.length-i/\∃Ei Si Mi acc,B9 gs t c f (ds.drop i) acc Ei Si=some (accf,Sf)/\GrX M1 H1 Mi H'/\Mi.tmp=A0::M1.tmp/\EnR K Mi Ei σ' H'/\StR K Mi Si H'/\H' A0=some (.lst ys)/\Ai K Mi H' ys acc,
    ⟨_,rfl,_,S1,_,[],e3,gx0,rfl,((r.step g1.st).step s0).cap cap m,st0,BK,.nil⟩,fun i mm σ2 H2 ys hW=>?_⟩
  obtain⟨rfl,Ei,Si,Mi,acc,ec,gx,ht,r2,st2,hy,ry⟩:=hW
  have sp:Sp1 M1 H1 Mi H2:=⟨st1.mo,gx.pre,fun a z=>by
    rcases z with z|z
    ·exact(gx.fresh a z).imp .inl id
    · rw [ht] at z
      rcases List.mem_cons.mp z with z|z
      ·subst z;exact .inr hD
      ·exact .inl (.inr z),fun a o eo no=>gx.keep a o eo fun z=>no (.inl z)⟩
  refine⟨hy,?_⟩
  cases ed:ds.drop i with
  | nil =>
    rw[ed]at ec
    unfold B9 at ec
    split at ec
    · rename_i ok
      cases ec
      left
      obtain⟨ci,ti⟩:=Mi
      have ht':ti=A0::M1.tmp:=ht
      subst ht'
      obtain⟨c',st',rd',pr',sub'⟩:=st2.tmp_off nt hy ry e
      refine⟨it.stop i H2 _ _ sp st2 ok (List.drop_eq_nil_iff.mp ed),q _ _ ⟨c',M1.tmp⟩ (g1.trans ⟨st1.mo,gx.pre.trans pr',rfl,fun a z=>?_,gx.keep,gx.some⟩) st' rd'⟩
      rcases sub' a z with z|z
      ·exact gx.fresh a z
      ·subst z;exact .inr hD
    ·cases ec
  | cons d rest =>
    obtain⟨d1,d2,d3⟩:=Mf ed
    rw[ed]at ec
    unfold B9 at ec
    split at ec
    · rename_i ok
      split at ec
      · rename_i hz
        obtain⟨E3,e4,ec⟩:=A8 ec
        obtain⟨⟨w5,S5⟩,e5,ec⟩:=A8 ec
        right
        refine⟨it.go i H2 Mi Si sp st2 ok d3,by rw[ry.length];exact hz,fun x H3 hyl=>?_⟩
        obtain⟨k3,rx⟩:=it.yld i H2 Mi Si x H3 d sp st2 ok d1 hyl
        have g3:Gr Mi H2 Mi H3:=.grow st2.mo k3
        have st3:=st2.grow k3
        refine⟨Mi,d,Ei,E3,Si,e4,r2.step g3.st,st3,rx,fun σ4 r4=>?_⟩
        have hA:A0∈Mi.tmp:=by rw[ht];exact List.mem_cons_self
        have hy3:H3 A0=some (.lst ys):=k3 _ _ hy
        have ry3:Ai K Mi H3 ys acc:=ry.step g3.st
        have fin:∀{E6:En} {S6:Sto} {M6:Ms} {H6:Hp} {zs:List V} {acc6:List D},B9 gs t c f rest acc6 E6 S6=some (accf,Sf)->GrX M1 H1 M6 H6->M6.tmp=A0::M1.tmp->EnR K M6 E6 σ4 H6->StR K M6 S6 H6->H6 A0=some (.lst zs)->Ai K M6 H6 zs acc6->
            ∃m',m'<ds.length-i/\(m'=ds.length-(i+1)/\∃Ei Si Mi acc,B9 gs t c f (ds.drop (i+1)) acc Ei Si=some (accf,Sf)/\GrX M1 H1 Mi H6/\Mi.tmp=A0::M1.tmp/\EnR K Mi Ei σ4 H6/\StR K Mi Si H6/\H6 A0=some (.lst zs)/\Ai K Mi H6 zs acc):=
          fun{E6 S6 M6 H6 zs acc6} ec g6 t6 r6 st6 h6 y6=>⟨_,by omega,rfl,E6,S6,M6,acc6,by rw[d2];exact ec,g6,t6,r6,st6,h6,y6⟩
        dsimp only at ec
        split at ec
        · obtain ⟨⟨w7, S7⟩, e7, ec⟩ := A8 ec
          refine⟨Mi,E3,Si,true,S5,e5,r4,st3,fun H5 M5 g5 st5=>?_⟩
          refine XW ?_
          refine⟨M5,E3,S5,w7,S7,e7,r4.step g5.st,st5,fun y H7 M7 g7 st7 d7=>?_⟩
          have nA:∀{M6:Ms} {H6:Hp} {S6:Sto},StR K M6 S6 H6->A0∈M6.tmp->A0∉M6.cel:=fun r6 h6=>r6.nt A0 h6
          have hA5:A0∈M5.tmp:=by rw[g5.tmp];exact hA
          have hA7:A0∈M7.tmp:=by rw[g7.tmp];exact hA5
          have hy5:H5 A0=some (.lst ys):=g5.keep _ _ hy3 (nA st3 hA)
          have hy7:H7 A0=some (.lst ys):=g7.keep _ _ hy5 (nA st5 hA5)
          have ry7:Ai K M7 H7 ys acc:=(ry3.step g5.st).step g7.st
          refine⟨hy7,?_⟩
          obtain⟨st8,s8⟩:=st7.tmp_app (ys:=ys++[y]) hA7
          have gx7:GrX M1 H1 M7 H7:=((gx.trans g3.x).trans g5.x).trans g7.x
          have gx8:GrX M1 H1 M7 (upd H7 A0 (.lst (ys++[y]))):=⟨gx7.pre,gx7.fresh,fun a o eo no=>by
            rw[Al (fun z=>by subst z;rw[hD]at eo;cases eo)]
            exact gx7.keep a o eo no,fun a ea=>by
            by_cases h:a=A0
            ·subst h;rw[BK];intro z;cases z
            ·rw[Al h];exact gx7.some a ea⟩
          exact fin ec gx8 (by rw[g7.tmp,g5.tmp];exact ht) (((r4.step g5.st).step g7.st).step s8) st8 BK ((ry7.append (.cons d7 .nil)).step s8)
        · refine ⟨Mi, E3, Si, false, S5, e5, r4, st3, fun H5 M5 g5 st5 => ?_⟩
          refine XT ?_
          exact fin ec ((gx.trans g3.x).trans g5.x) (by rw[g5.tmp];exact ht) (r4.step g5.st) st5 (g5.keep _ _ hy3 (st3.nt A0 hA)) (ry3.step g5.st)
        ·cases ec
      ·cases ec
    ·cases ec
structure DTs(X:Cx)(ifs:List Expr)(c:Ev):Prop where
 pe:PTs X ifs (tDT X.K c)
theorem T7{X:Cx}{e:List Expr}{t t':TT}(h:PTs X e t)(m:∀σ H Q,t' σ H Q->t σ H Q):PTs X e t':=fun pins s σ H Q I q=>h pins s σ H Q I (m _ _ _ q)
theorem DQ{X:Cx}:DTs X [] DA:=⟨T7 WY fun σ H Q z=>by
 obtain⟨M,E,S,b,S',e,r,st,q⟩:=z
 cases e
 exact q _ M (.refl st.mo) st⟩
theorem Ed{X:Cx}{c:Expr}{f:Ev}(h:DT X c f):DTs X [c] f:=⟨Wb h.pe⟩
section
variable{X:Cx}{N':List Str}{cf:Bool}{cap:List Nat}{m:Nat}{scope:Scope}{elt tg iter:Expr}{ifs:List Expr}{pos:Pos}{s:Sr}{t:Tf}{c f:Ev}
def Blk(X:Cx)(N':List Str)(scope:Scope)(tg:Expr)(ifs:List Expr)(elt:Expr)(t:Tf)(c f:Ev):Prop:=
 ∀(s:Shared) (H:Hp) (fp:List Addr),DG (F7 X N' scope s H fp) tg t/\DTs (F7 X N' scope s H fp) ifs c/\DE (F7 X N' scope s H fp) elt f
theorem DH(cap:List Nat)(m:Nat)(N':List Str)(hc:X.calm=true)(S:Ah X.N X.env.scope N' (ixC cap m) scope)(hi:DI X tg iter s)(hb:Blk X N' scope tg ifs elt t c f)(hs:∀x,foldedSetIterable iter X.env x=pure x:=by intro _;rfl):
  DE X (.ListComp elt [⟨tg,iter,ifs,0⟩] scope pos) (Kr cf cap m s t c f):=⟨
 Bm (Wy (g:=tG X.K t) (tc:=tDT X.K c) (te:=tD X.K f) hc S hi.pe (fun s H fp=>⟨(hb s H fp).1.pe,(hb s H fp).2.1.pe,(hb s H fp).2.2.pe⟩) hs) fun _ _ _ h=>Q2 h⟩
theorem CU{i:Nat}{y:Str}{py spos:Pos}(cap:List Nat)(m:Nat)(N':List Str)(hc:X.calm=true)(hN:X.N.Nodup)(hi':X.N[i]?=some y)(hx:X.env.scope.names.lookup y=some .local)(S:Ah X.N X.env.scope N' (ixC cap m) scope)(hi:DI X tg iter s)(hb:Blk X N' scope tg ifs elt t c f)
  (hsw:swapsWith (.ListComp elt [⟨tg,iter,ifs,0⟩] scope pos) (some (.Name y py)) spos.line X.env=pure true:=by rfl) (hs:∀x,foldedSetIterable iter X.env x=pure x:=by intro _;rfl):
  DS X (.Assign [.Name y py] (.ListComp elt [⟨tg,iter,ifs,0⟩] scope pos) spos) (BP i (Kr cf cap m s t c f)):=⟨
 Ee (Pa (g:=tG X.K t) (tc:=tDT X.K c) (te:=tD X.K f) hc hN hi' hx S hi.pe (fun s H fp=>⟨(hb s H fp).1.pe,(hb s H fp).2.1.pe,(hb s H fp).2.2.pe⟩) hsw hs) fun Dn σ H z=>by
  obtain⟨M,E,S,fl,E',S',e,r,st,q⟩:=z
  obtain⟨⟨d,S1⟩,e1,e⟩:=Il e
  cases e
  exact Q2 ⟨M,E,S,d,S1,e1,r,st,fun v H1 M1 g1 st1 r1=>q _ _ M1 g1 ((r.step g1.st).put r1) st1⟩⟩
end
noncomputable def C7{α:Type}(xs:List α)(lo hi:Option Int):List α:=(xs.drop (HT.sIx xs.length 0 lo)).take (HT.sIx xs.length xs.length hi-HT.sIx xs.length 0 lo)
theorem RF{K:PySem.W.Frag}{M:Ms}{H:Hp}{xs:List V}{ds:List D}(h:Ai K M H xs ds)(lo hi:Option Int):Ai K M H (VI xs lo hi) (C7 ds lo hi):=by
 unfold VI C7
 rw[h.length]
 exact(h.drop _).take _
theorem QG{α:Type}{xs:List α}{lo hi:Option Int}(h1:HT.sIx xs.length 0 lo=0)(h2:HT.sIx xs.length xs.length hi=xs.length):C7 xs lo hi=xs:=by
 unfold C7
 rw[h1,h2]
 simp
noncomputable def wSl(lo hi:Option Int):Op1:=fun w=>match w with
 | .val (.tup ds)=>some (.val (.tup (C7 ds lo hi)))
 | .val (.str z)=>if z.length≤sizeLine then some (.val (.str (Txt.slice z lo hi)))else none
 |w=>(asL w).map fun ds=>.own (C7 ds lo hi)
def fN(K:PySem.W.Frag):V->Option Int->Option Int->Hp->VK->Prop:=fun x lo hi H Q=>∃M w r,wSl lo hi w=some r/\MOk M H/\Sh K M H x w/\∀v H',Nw K M H H' v r->Q v H'
theorem Xi{X:Cx}:SlR X (fun x lo hi H Q=>∃z,x=.str z/\z.length≤sizeLine/\Q (.str (Txt.slice z lo hi)) H):=by
  intro pins s σ H x v vl vu lo hi sl Q I rx hs pl pu h
  obtain⟨z,rfl,hz,q⟩:=h
  obtain⟨t,rfl⟩:=rx
  have fin:∀t' k,EP X pins σ Q (.str (Txt.slice z lo hi) t') {s with toks:=k}:=fun t' k=>⟨.str _,H,I.tok k,⟨t',rfl⟩,q⟩
  cases pl with
  | none =>
    cases pu with
    |none=>exact⟨"str",_,PySem.F.slot_str_getitem.lookup,typeIs_str _ _ _,wpAny_getItem_str_slice (l:=none) (u:=none) (st:=none) hs rfl (post_val_or_str ⟨Nat.le_trans (Txt.slice_le z _ _) hz,fin⟩)⟩
    |int j u=>exact⟨"str",_,PySem.F.slot_str_getitem.lookup,typeIs_str _ _ _,wpAny_getItem_str_slice (l:=none) (u:=some (j,u)) (st:=none) hs rfl (post_val_or_str ⟨Nat.le_trans (Txt.slice_le z _ _) hz,fin⟩)⟩
  | int i u' =>
    cases pu with
    |none=>exact⟨"str",_,PySem.F.slot_str_getitem.lookup,typeIs_str _ _ _,wpAny_getItem_str_slice (l:=some (i,u')) (u:=none) (st:=none) hs rfl (post_val_or_str ⟨Nat.le_trans (Txt.slice_le z _ _) hz,fin⟩)⟩
    |int j u=>exact⟨"str",_,PySem.F.slot_str_getitem.lookup,typeIs_str _ _ _,wpAny_getItem_str_slice (l:=some (i,u')) (u:=some (j,u)) (st:=none) hs rfl (post_val_or_str ⟨Nat.le_trans (Txt.slice_le z _ _) hz,fin⟩)⟩
theorem bx{X:Cx}:SlR X (fN X.K):=by
  intro pins s σ H x v vl vu lo hi sl Q I rx hs pl pu h
  obtain⟨M,w,r,e,mo,sh,q⟩:=h
  unfold wSl at e
  split at e
  · rename_i ds
    cases e
    cases sh with
    | tup hx rr =>
      rename_i a xs
      have hl:=rr.length
      by_cases hw:HT.sIx xs.length 0 lo=0/\HT.sIx xs.length xs.length hi=xs.length
      · refine St.YZ pins s σ H _ v vl vu lo hi sl Q I rx hs pl pu ⟨a, xs, rfl, hx, hw.1, hw.2, ?_⟩
        have ew:C7 ds lo hi=ds:=QG (by rw[←hl];exact hw.1) (by rw[←hl];exact hw.2)
        rw[ew]at q
        exact q _ _ (.same mo (.tup hx rr))
      ·exact Yv pins s σ H _ v vl vu lo hi sl Q I rx hs pl pu ⟨a,xs,rfl,hx,hw,fun p hp=>q _ _ (.tup mo hp (RF rr lo hi))⟩
  · split at e
    · cases e
      cases sh
      exact Xi pins s σ H _ v vl vu lo hi sl Q I rx hs pl pu ⟨_,rfl,by assumption,q _ _ (.same mo (.str _))⟩
    ·cases e
  · cases e1 : asL w with
    |none=>rw[e1]at e;cases e
    | some ds =>
      rw[e1]at e
      cases e
      obtain⟨a,xs,rfl,h1,rr⟩:=sh.l e1
      exact We pins s σ H _ v vl vu lo hi sl Q I rx hs pl pu ⟨a,xs,rfl,.of h1,fun p hp=>q _ _ (.lst mo hp (RF rr lo hi))⟩
noncomputable def XN:Wv->Option Int
 | .val (.int i)=>some i
 |_=>none
noncomputable def EN(l h:Bool):OpN:=fun ws=>match l,h,ws with
 |false,false,[a]=>wSl none none a
 |true,false,[a,b]=>(XN b).bind fun i=>wSl (some i) none a
 |false,true,[a,b]=>(XN b).bind fun i=>wSl none (some i) a
 |true,true,[a,b,c]=>(XN b).bind fun i=>(XN c).bind fun j=>wSl (some i) (some j) a
 |_,_,_=>none
theorem Qd{K:PySem.W.Frag}{M:Ms}{H:Hp}{v:V}{w:Wv}{i:Int}(s:Sh K M H v w)(e:XN w=some i):v=.int i:=by
  cases w with
  |own ds=>cases e
  | val d =>
    cases d<;>first|(cases e;done)|skip
    cases e;cases s;rfl
section
variable{X:Cx}{e lo hi:Expr}{oe ol oh:Ev}{c:Bool}{pos p2:Pos}
theorem FD(h:DE X e oe)(hl:DE X lo ol):DE X (.Subscript e (.Slice (some lo) none none p2) pos) (Nm c (EN true false) [oe,ol]):=⟨Bm (MK bx h.pe (Lf hl.pe) Qy) fun σ H Q z=>by
  obtain⟨M0,E,S0,w,S1,e,r,st,q⟩:=z
  have z:tD X.K oe σ H fun x H1=>tD X.K ol σ H1 fun y H2=>rN X.K (EN true false) [x,y] H2 Q:=LA (Q:=Q) e r st q
  refine EG z fun x H1 z1=>EG z1 fun y H2 z2=>?_
  obtain⟨M,ws,w',e1,mo,sh,q1⟩:=z2
  cases sh with
  | cons h1 t =>
    cases t with
    | cons h2 t =>
      cases t
      obtain⟨i,ei,e1⟩:=A8 e1
      exact⟨i,Qd h2 ei,M,_,w',e1,mo,h1,q1⟩⟩
theorem FY(h:DE X e oe)(hh:DE X hi oh):DE X (.Subscript e (.Slice none (some hi) none p2) pos) (Nm c (EN false true) [oe,oh]):=⟨Bm (MK bx h.pe Qy (Lf hh.pe)) fun σ H Q z=>by
  obtain⟨M0,E,S0,w,S1,e,r,st,q⟩:=z
  have z:tD X.K oe σ H fun x H1=>tD X.K oh σ H1 fun y H2=>rN X.K (EN false true) [x,y] H2 Q:=LA (Q:=Q) e r st q
  refine EG z fun x H1 z1=>EG z1 fun y H2 z2=>?_
  obtain⟨M,ws,w',e1,mo,sh,q1⟩:=z2
  cases sh with
  | cons h1 t =>
    cases t with
    | cons h2 t =>
      cases t
      obtain⟨i,ei,e1⟩:=A8 e1
      exact⟨i,Qd h2 ei,M,_,w',e1,mo,h1,q1⟩⟩
theorem RC{K:PySem.W.Frag}{M:Ms}{H:Hp}{S:Sto}{v:V}{d:D}{i:Int}(r:Cw K M H v d)(e:XN (dr S d)=some i):v=.int i:=by
 cases r<;>first|(cases e;done)|skip
 ·cases e;rfl
 ·rename_i n h
  unfold dr at e
  dsimp only at e
  split at e<;>cases e
theorem P9(h:DE X e oe)(hl:DE X lo ol)(hh:DE X hi oh):DE X (.Subscript e (.Slice (some lo) (some hi) none p2) pos) (Nm c (EN true true) [oe,ol,oh]):=⟨Bm (MK bx h.pe (Lf hl.pe) (Lf hh.pe)) fun σ H Q z=>by
 obtain⟨M0,E,S0,w,S1,e,r,st,q⟩:=z
 obtain⟨⟨ds,S2⟩,e1,e⟩:=A8 e
 obtain⟨w2,e2,e⟩:=A8 e
 obtain⟨⟨d1,Sa⟩,ea,e1⟩:=A8 e1
 obtain⟨⟨ds1,Sb⟩,eb,e1⟩:=Il e1
 cases e1
 obtain⟨⟨d2,Sc⟩,ec,eb⟩:=A8 eb
 obtain⟨⟨ds2,Sd⟩,ed,eb⟩:=Il eb
 cases eb
 obtain⟨⟨d3,Se⟩,ee,ed⟩:=A8 ed
 obtain⟨⟨ds3,Sf⟩,ef,ed⟩:=Il ed
 cases ed
 cases ef
 obtain⟨i,ei,e2⟩:=A8 e2
 obtain⟨j,ej,e2⟩:=A8 e2
 refine⟨M0,E,S0,d1,Sa,ea,r,st,fun x H1 M1 g1 st1 r1=>?_⟩
 refine⟨M1,E,Sa,d2,Sc,ec,r.step g1.st,st1,fun y H2 M2 g2 st2 r2=>⟨i,?_,?_⟩⟩
 ·exact RC r2 ei
 refine⟨M2,E,Sc,d3,Se,ee,(r.step g1.st).step g2.st,st2,fun u H3 M3 g3 st3 r3=>⟨j,?_,?_⟩⟩
 ·exact RC r3 ej
 refine⟨M3,_,w2,e2,st3.mo,V9 st3 ((r1.step g2.st).step g3.st),fun v H4 n=>?_⟩
 obtain⟨M4,g4,st4,d4⟩:=n.fin st3 e
 exact q v H4 M4 (((g1.trans g2).trans g3).trans g4) st4 d4⟩
noncomputable def LP{α:Type}(xs:List α):List α:=(List.range xs.length).filterMap fun k=>xs[St.MG xs.length k]?
theorem WJ{K:PySem.W.Frag}{M:Ms}{H:Hp}{xs:List V}{ds:List D}(h:Ai K M H xs ds):Ai K M H (LP xs) (LP ds):=by
  unfold LP
  rw[h.length]
  generalize List.range ds.length=ks
  induction ks with
  |nil=>exact .nil
  | cons k ks ih =>
    rw[List.filterMap_cons,List.filterMap_cons]
    cases e:ds[St.MG ds.length k]? with
    | none =>
      have:xs[St.MG ds.length k]?=none:=by rw[List.getElem?_eq_none_iff]at e ⊢; rw[h.length];exact e
      rw[this]
      exact ih
    | some d =>
      obtain⟨x,h1,h2⟩:=h.get e
      rw[h1]
      exact .cons h2 ih
noncomputable def Uq:Op1
 | .val (.tup ds)=>some (.val (.tup (LP ds)))
 |_=>none
noncomputable def bR(K:PySem.W.Frag)(te:TE):TE:=fun σ H Q=>te σ H fun x H1=>∃a xs,x=.ref a/\SqT K H1 a xs/\∀p,H1 p=none->Q (.ref p) (upd H1 p (.tup (LP xs)))
theorem Vk{e:Expr}{te:TE}{p1 p2 p3 pos:Pos}{k:Nat}(he:PE X e te):PE X (.Subscript e (.Slice none none (some (.UnaryOp .USub (.Constant (.int 1) k p1) p2)) p3) pos) (bR X.K te):=by
 intro pins s σ H Q I h
 refine PyProof.Rows.Subscript_ (thn (he pins s σ H _ I h) fun v s1 ⟨x,H1,I1,r1,q1⟩=>?_)
 obtain⟨a,xs,rfl,hx,q⟩:=q1
 cases r1
 refine wpAny_Slice ?_
 rw[evalPart_none]
 refine wpAny_pure (wpAny_pure ?_)
 rw[evalPart_some]
 refine thn ((Yh (X:=X) U7 (VG (i:=1) (j:=k) (pos:=p1)) (pos:=p2)) pins s1 σ H1 (fun v H2=>v=.int (-1)/\H2=H1) I1 ⟨_,rfl,rfl,rfl⟩) fun u s2 ⟨y,H2,I2,r2,ey,eh⟩=>?_
 subst ey eh
 obtain⟨tk,rfl⟩:=r2
 have I4:Inv X pins σ H2 {s2 with heap:=s2.heap.push {cls:=.type "slice",data:=.fields #[.none,.none,.int (-1) tk]}}:=I2.kept (t':=s2.toks) fun b ob q=>Heap.get?_push_of_some _ q
 obtain⟨its,r,ht,hz⟩:=I4.tuple hx
 have hlen:its.toArray.size=xs.length:=by rw[List.size_toArray];exact r.length.symm
 refine PyProof.Rows.tail_any (ops:=[.ref a,.ref s2.heap.objs.size]) ht.typeIs PyProof.Rows.slot_tuple_getitem.lookup ?_ (by with_unfolding_all rfl)
 refine St.Hu ht (Heap.IsSliceOf.new ..) (by rw[hlen];exact hz) ?_
 have fr:=I4.hok.fresh (Nat.le_refl _)
 refine⟨.ref _,_,I4.laid (o:=.tup (LP xs)) (fun b ob q=>Heap.get?_push_of_some _ q) (Nat.le_refl _) ?_,rfl,q _ fr⟩
 have:=St.Vals.pick r (St.MG xs.length) (List.range xs.length)
 refine⟨?_,_,this,?_⟩
 ·unfold LP
  refine Nat.le_trans (List.length_filterMap_le _ _) ?_
  rw[List.length_range]
  exact hz
 ·have e:((List.range its.toArray.size).filterMap fun k=>its.toArray[St.MG its.toArray.size k]?)=((List.range xs.length).filterMap fun k=>its[St.MG xs.length k]?):=by
   rw[hlen]
   congr 1
   funext k
   rw[List.getElem?_toArray]
  rw[e]
  exact PyProof.Rows.IsTup.new _ _
theorem VQ{p1 p3:Pos}{k:Nat}(h:DE X e oe):DE X (.Subscript e (.Slice none none (some (.UnaryOp .USub (.Constant (.int 1) k p1) p2)) p3) pos) (eOp (o1 Uq) [oe]):=⟨Bm (Vk h.pe) fun σ H Q z=>by
 refine EG (QX z) fun x H1 z1=>?_
 obtain⟨M,w,r,e,mo,sh,q⟩:=z1
 unfold Uq at e
 split at e
 ·cases e
  cases sh with
  |tup hx rr=>exact⟨_,_,rfl,hx,fun p hp=>q _ _ (.tup mo hp (WJ rr))⟩
 ·cases e⟩
noncomputable def wUp:Op1
 | .val (.str z)=>if(Txt.upper z).length≤sizeLine then some (.val (.str (Txt.upper z)))else none
 |_=>none
theorem SW:MtR X "str.upper" (fun x xs H Q=>xs=[]/\∃z,x=.str z/\(Txt.upper z).length≤sizeLine/\Q (.str (Txt.upper z)) H):=by
 intro pins s σ H x xs v us Q I rx rv h
 obtain⟨rfl,z,rfl,hz,q⟩:=h
 cases rv
 obtain⟨t,rfl⟩:=rx
 have hfit:Builtin.Str.tooLong (Txt.upper z).length=false:=by
  unfold Builtin.Str.tooLong
  exact decide_eq_false (by omega)
 exact call_gives PySem.F.slot_str_upper (typeIs_str _ _ _) PySem.F.entry_str_upper (PySem.F.args_str_upper_1 _) (gives_str_upper z t hfit) ⟨hz,⟨.str _,H,I.tok _,⟨_,rfl⟩,q⟩⟩
theorem TM{o:Expr}{oo:Ev}{apos cpos:Pos}(h:DE X o oo)(hbase:attributeBase o "upper" X.env (eval o X.env)=eval o X.env:=by rfl)(hline:(apos.endLine==cpos.line)=true:=by rfl):DE X (.Call (.Attribute o "upper" apos) [] [] cpos) (eOp (o1 wUp) [oo]):=⟨
 Bm (ZK PySem.F.plainAttrs_str PySem.F.slot_str_upper PySem.F.type_str_upper SW h.pe hbase hline) fun σ H Q z=>by
  refine EG (QX z) fun x H1 z1=>?_
  obtain⟨M,w,r,e,mo,sh,q⟩:=z1
  unfold wUp at e
  split at e
  ·split at e
   ·cases e
    cases sh
    exact⟨rfl,rfl,_,rfl,by assumption,q _ _ (.same mo (.str _))⟩
   ·cases e
  ·cases e⟩
structure XR(K:PySem.W.Frag)(mg:Str->Option Value)(x:Str)(d:D):Prop where
 ex:∃v u,mg x=some u/\RelV v u/\∀M H,Cw K M H v d
theorem Qg{x:Str}{d:D}(c:XR X.K X.mg x d)(hg:Gl X x)(hd:(x==("__debug__":Str))=false:=by decide):DE X (.Name x pos) (eC d):=⟨by
 obtain⟨v,u,h1,h2,h3⟩:=c.ex
 exact Bm (Wi hg h1 h2 hd) fun σ H Q z=>by
  obtain⟨M0,E,S0,w,S1,e,rr,st,q⟩:=z
  cases e
  exact q _ _ M0 (.refl st.mo) st (h3 _ _)⟩
theorem Jr{x:Str}{T:String}(hg:Gl X x)(hm:X.mg x=none)(hv:bootBuiltins x=some (.type T))(hn:x≠ "__name__":=by decide)(hd:(x==("__debug__":Str))=false:=by decide):DE X (.Name x pos) (eC (.ty T)):=
 NR (Vh (v:=.ty T) hg hm hv rfl hn hd) fun _ _ _=>.ty T
structure fq(K:PySem.W.Frag)(w:World)(mg:Str->Option Value)(x:Str)(tbl:List (Str×D)):Prop where
 ex:∃a kvs,mg x=some (.ref a)/\TopD K w a kvs/\∀k,(tbl.lookup k=none->kvs.lookup k=none)/\∀d,tbl.lookup k=some d->∃v,kvs.lookup k=some v/\∀M H,Cw K M H v d
end
noncomputable def KD:Nat->List D->List D
 |_,[]=>[]
 |k,d::ds=>.tup [.int k,d]::KD (k+1) ds
theorem JH:∀{ds:List D} {k i:Nat},(KD k ds)[i]?=(ds[i]?).map fun d=>.tup [.int ((k+i:Nat):Int),d]
  | [],k,i=>by simp[KD]
  |d::ds,k,0=>by simp[KD]
  | d :: ds, k, i + 1 => by
    simp only[KD,List.getElem?_cons_succ]
    rw[JH,show k+1+i=k+(i+1) by omega]
theorem Lo:∀{ds:List D} {k:Nat},(KD k ds).length=ds.length
 | [],k=>rfl
 |d::ds,k=>by simp[KD,Lo (ds:=ds)]
theorem SqF.sqB{K:PySem.W.Frag}{M:Ms}{H:Hp}{gs:Gd}{k:Bool}{a:Addr}{ds:List D}(h:SqF K M H gs k a ds){H2:Hp}{M2:Ms}{S2:Sto}(g:Sp1 M H M2 H2)(st:StR K M2 S2 H2)(ok:gOk gs S2):∃xs,SqB K H2 k a xs/\Ai K M2 H2 xs ds:=by
 obtain⟨xs,h1,h2⟩:=h.keep H2 M2 S2 g st ok
 refine⟨xs,?_,h2⟩
 cases k with
 |true=>exact h1
 |false=>exact h1
theorem Yu{K:PySem.W.Frag}{M:Ms}{H:Hp}{gs:Gd}{k:Bool}{a:Addr}{ds:List D}(h:SqF K M H gs k a ds):Xt K M H gs (KD 0 ds) (ItE K k a) where
 go:=fun i H2 M2 S2 g st ok hi=>by
  rw[Lo]at hi
  obtain⟨xs,h1,h2⟩:=h.sqB g st ok
  obtain⟨x,hx⟩:=h2.get' hi
  exact⟨xs,x,h1,hx⟩
 stop:=fun i H2 M2 S2 g st ok hi=>by
  rw[Lo]at hi
  obtain⟨xs,h1,h2⟩:=h.sqB g st ok
  exact⟨xs,h1,by have:=h2.length;omega⟩
 yld:=fun i H2 M2 S2 x H3 d g st ok hd hy=>by
  obtain⟨xs,h1,h2⟩:=h.sqB g st ok
  obtain⟨p,y,hp,rfl,hy,rfl⟩:=hy
  have hx:=hy xs h1
  rw[JH]at hd
  obtain⟨d0,e,hd⟩:=Il hd
  subst hd
  obtain⟨x',h3,h4⟩:=h2.get e
  rw[hx]at h3;cases h3
  have k3:=FU (o:=.tup [.int i,y]) hp
  refine⟨k3,.tup (.of BK) (.cons ?_ (.cons (h4.step (Gr.grow st.mo k3).st) .nil))⟩
  rw[Nat.zero_add]
  exact .int _
noncomputable def Rf(f:Ev):Sr:=fun E S=>(f E S).bind fun r=>(sqD r.2 r.1).map fun p=>((KD 0 p.1,p.2),r.2)
theorem OP{X:Cx}{a:Expr}{f:Ev}{p pos tp:Pos}{elts:List Expr}{k:Nat}(hg:Gl X "enumerate")(hm:X.mg "enumerate"=none)(ha:DE X a f)(hs:starEach [a] X.env=[(false,eval a X.env)]:=by rfl):DI X (.Tuple elts k tp) (.Call (.Name "enumerate" p) [a] [] pos) (Rf f):=⟨
 L8 (T6 hg hm (LO ha.pe Qm (by rw[hs];rfl)) hs) fun σ H R z=>by
  obtain⟨M,E,S,ds,gs,S',e,r,st,q⟩:=z
  obtain⟨⟨d,S1⟩,e1,e⟩:=A8 e
  obtain⟨⟨ds',gs'⟩,e2,e⟩:=Il e
  cases e
  refine⟨M,E,S,d,S1,e1,r,st,fun v H1 M1 g1 st1 r1=>?_⟩
  obtain⟨k,a,rfl,sq⟩:=Oo st1 r1 e2
  obtain⟨xs,hs,_⟩:=sq.sqB (Gr.refl st1.mo).st st1 (Ln e2)
  exact⟨k,a,rfl,⟨xs,hs⟩,q _ _ M1 g1 st1 (Yu sq)⟩⟩
noncomputable def K6(ds es:List D):List D:=(ds.zip es).map fun p=>.tup [p.1,p.2]
theorem Uk{ds es:List D}{i:Nat}{d:D}(h:(K6 ds es)[i]?=some d):∃x y,ds[i]?=some x/\es[i]?=some y/\d=.tup [x,y]:=by
 unfold K6 at h
 simp only[List.getElem?_map,Option.map_eq_some_iff]at h
 obtain⟨⟨x,y⟩,h1,h2⟩:=h
 rw[List.getElem?_zip_eq_some]at h1
 exact⟨x,y,h1.1,h1.2,h2.symm⟩
theorem Iv{ds es:List D}:(K6 ds es).length=min ds.length es.length:=by simp[K6]
theorem SqF.more{K:PySem.W.Frag}{M:Ms}{H:Hp}{gs gs':Gd}{k:Bool}{a:Addr}{ds:List D}(h:SqF K M H gs k a ds)(s:∀g∈gs,g∈gs'):SqF K M H gs' k a ds:=⟨fun H2 M2 S2 g st ok=>h.keep H2 M2 S2 g st fun x hx=>ok x (s x hx)⟩
theorem Y7{K:PySem.W.Frag}{M:Ms}{H:Hp}{gs:Gd}{k m:Bool}{a b:Addr}{ds es:List D}(h:SqF K M H gs k a ds)(h':SqF K M H gs m b es):Xt K M H gs (K6 ds es) (Itz K k a m b) where
 go:=fun i H2 M2 S2 g st ok hi=>by
  rw[Iv]at hi
  obtain⟨xs,h1,r⟩:=h.sqB g st ok
  obtain⟨ys,h2,r'⟩:=h'.sqB g st ok
  obtain⟨x,hx⟩:=r.get' (show i<ds.length by omega)
  obtain⟨y,hy⟩:=r'.get' (show i<es.length by omega)
  exact⟨xs,ys,x,y,h1,h2,hx,hy⟩
 stop:=fun i H2 M2 S2 g st ok hi=>by
  rw[Iv]at hi
  obtain⟨xs,h1,r⟩:=h.sqB g st ok
  obtain⟨ys,h2,r'⟩:=h'.sqB g st ok
  have:=r.length
  have:=r'.length
  exact⟨xs,ys,h1,h2,by omega⟩
 yld:=fun i H2 M2 S2 x H3 d g st ok hd hy=>by
  obtain⟨xs,h1,r⟩:=h.sqB g st ok
  obtain⟨ys,h2,r'⟩:=h'.sqB g st ok
  obtain⟨p,x1,y1,hp,rfl,q1,q2,rfl⟩:=hy
  obtain⟨d1,d2,e1,e2,rfl⟩:=Uk hd
  have hx:=q1 xs h1
  have hy:=q2 ys h2
  obtain⟨x',h3,h4⟩:=r.get e1
  obtain⟨y',h5,h6⟩:=r'.get e2
  rw[hx]at h3;cases h3
  rw[hy]at h5;cases h5
  have k3:=FU (o:=.tup [x1,y1]) hp
  exact⟨k3,.tup (.of BK) (.cons (h4.step (Gr.grow st.mo k3).st) (.cons (h6.step (Gr.grow st.mo k3).st) .nil))⟩
noncomputable def Uv(f g:Ev):Sr:=fun E S=>(evs [f,g] E S).bind fun r=>match r.1 with
 | [d,e]=>(sqD r.2 d).bind fun p=>(sqD r.2 e).map fun q=>((K6 p.1 q.1,p.2++q.2),r.2)
 |_=>none
theorem OY {X : Cx} {a b : Expr} {f g : Ev} {p pos tp : Pos} {elts : List Expr} {k : Nat} (hg : Gl X "zip") (hm : X.mg "zip" = none) (ha : DE X a f) (hb : DE X b g) (hs : starEach [a, b] X.env = [(false, eval a X.env), (false, eval b X.env)] := by rfl) (hs2 : starEach [b] X.env = [(false, eval b X.env)] := by rfl) : DI X (.Tuple elts k tp) (.Call (.Name "zip" p) [a, b] [] pos) (Uv f g) := ⟨
  L8 (YO hg hm (AA ha (AA hb AD hs2) (by rw[hs,hs2])).pe hs hs2) fun σ H R z=>by
    obtain⟨M,E,S,ds,gs,S',e,r,st,q⟩:=z
    obtain⟨⟨ws,S1⟩,e1,e⟩:=A8 e
    refine GB (fs:=[f,g]) e1 r st fun vs H1 M1 g1 st1 r1=>?_
    dsimp only at e
    split at e
    · obtain ⟨⟨ds1, gs1⟩, eu, e⟩ := A8 e
      obtain⟨⟨ds2,gs2⟩,ee,e⟩:=Il e
      cases e
      cases r1 with
      | cons h1 t =>
        cases t with
        | cons h2 t =>
          cases t
          obtain⟨k1,a1,rfl,s1⟩:=Oo st1 h1 eu
          obtain⟨k2,a2,rfl,s2⟩:=Oo st1 h2 ee
          obtain⟨xs,hxs,_⟩:=s1.sqB (Gr.refl st1.mo).st st1 (Ln eu)
          obtain⟨ys,hys,_⟩:=s2.sqB (Gr.refl st1.mo).st st1 (Ln ee)
          exact⟨_,_,_,_,rfl,⟨_,hxs⟩,⟨_,hys⟩,q _ _ M1 g1 st1 (Y7 (s1.more fun x hx=>List.mem_append_left _ hx) (s2.more fun x hx=>List.mem_append_right _ hx))⟩
    ·cases e⟩
noncomputable def intD:D->Option Int
 | .int i=>some i
 |_=>none
noncomputable def Hc(ds:List D):Option (List Int):=ds.mapM intD
theorem Fy {K : PySem.W.Frag} {M : Ms} {H : Hp} : ∀ {vs : List V} {ds : List D} {ns : List Int}, Ai K M H vs ds -> Hc ds = some ns -> vs = ns.map V.int
  |_,_,ns,.nil,e=>by cases e;rfl
  | _, _, ns, .cons (d := d) (ds := ds) h t, e => by
    unfold Hc at e
    rw[List.mapM_cons]at e
    cases e1:intD d with
    |none=>rw[e1]at e;cases e
    | some b =>
      rw[e1]at e
      cases e2:ds.mapM intD with
      |none=>rw[e2]at e;cases e
      | some cs =>
        rw[e2]at e
        cases e
        have hd:d=.int b:=by
          cases d<;>first|(cases e1;done)|skip
          cases e1;rfl
        subst hd
        cases h
        rw[List.map_cons,←Fy t e2]
theorem Qi{X:Cx}(hc:X.calm=true):Cy X (.builtin "sum") (fun xs H Q=>∃(p:Addr) (ns:List Int),xs=[.ref p]/\SqL X.K H p (ns.map V.int)/\Q (.int ns.sum) H):=by
 intro pins s σ H xs us Q I r h
 obtain⟨p,ns,rfl,hp,q⟩:=h
 obtain⟨u,rfl,ru⟩:=r.one
 cases (show u=Value.ref p from ru)
 obtain⟨its,rv,pl,hz⟩:=I.list hp
 have hd:X.A.in1.handled=none:=I.ok.hd hc
 refine call_sum_walkG (wpAny_pyIter_list pl.isList ?_)
 have hlen:ns.length=its.length:=by have:=rv.length;simpa using this
 have hpl:=pl.isList
 have hlt:p<s.heap.objs.size:=by
  obtain⟨o,ho,_⟩:=hpl
  exact Heap.lt_size ho
 refine⟨s.heap.objs.size,_,_,its.length,_,_,fun i=>ns.getD i 0,rfl,St.K1 (vs:=its) hd (Nat.ne_of_lt hlt),⟨⟨_,Heap.get?_push_size _ rfl,rfl,rfl⟩,?_⟩,?_,?_,?_⟩
 ·obtain⟨o,ho,r⟩:=hpl
  exact⟨o,Heap.get?_push_of_some _ ho,r⟩
 ·intro b hb
  rw[Heap.size_push]
  simp at hb
  rcases hb with h|h
  ·rw[h];exact Nat.lt_succ_self _
  ·rw[h];exact Nat.lt_succ_of_lt hlt
 ·intro i v hv
  have hi:i<its.length:=(List.getElem?_eq_some_iff.mp hv).1
  have hb:(ns.map V.int)[i]?=some (.int (ns.getD i 0)):=by
   rw[List.getElem?_map,List.getElem?_eq_getElem (by omega)]
   simp[List.getD_eq_getElem?_getD,List.getElem?_eq_getElem (show i<ns.length by omega)]
  obtain⟨u,hu,ru⟩:=rv.get hb
  rw[hv]at hu
  cases hu
  exact ru
 ·intro h' tk t' hk
  have e:preSum (fun i=>ns.getD i 0) its.length=ns.sum:=by
   rw[←hlen,St.JW (Nat.le_refl _),List.take_of_length_le (Nat.le_refl _)]
  rw[e]
  exact⟨.int _,H,I.kept (t':=tk) fun b o eb=>hk b o (by simp;exact Nat.ne_of_lt (Heap.lt_size eb)) (Heap.get?_push_of_some _ eb),⟨_,rfl⟩,q⟩
noncomputable def Vc:Op1:=fun w=>(asL w).bind fun ds=>(Hc ds).map fun ns=>.val (.int ns.sum)
theorem Jg{X:Cx}(hc:X.calm=true):Cy X (.builtin "sum") (rN X.K (o1 Vc)):=by
 intro pins s σ H xs us Q I r h
 obtain⟨M,ws,w,e,mo,sh,q⟩:=h
 obtain⟨v,w1,rfl,rfl,s1,e1⟩:=FZ sh e
 obtain⟨ds,e2,e1⟩:=A8 e1
 obtain⟨ns,e3,e1⟩:=Il e1
 cases e1
 obtain⟨a,ys,rfl,h3,h4⟩:=s1.l e2
 exact Qi hc pins s σ H _ us Q I r ⟨a,ns,rfl,by rw[←Fy h4 e3];exact .of h3,q _ _ (.same mo (.int _))⟩
noncomputable def Ht(ns:List Int):List Int:=ns.mergeSort (fun a b=>decide (a≤b))
theorem Hv(ns:List Int):(Ht ns).Perm ns:=List.mergeSort_perm _ _
theorem O2(ns:List Int):(Ht ns).Pairwise (· ≤ ·):=by
 have:=List.pairwise_mergeSort (le:=fun(a b:Int)=>decide (a≤b)) (fun a b c h1 h2=>by simp at *; omega) (fun a b=>by simp;omega) ns
 unfold Ht
 exact this.imp fun h=>of_decide_eq_true h
theorem Kz{ns ms:List Int}(p:ms.Perm ns)(s:ms.Pairwise (· ≤ ·)):ms=Ht ns:=PySem.W.ksm_same (p.trans (Hv ns).symm) s (O2 ns)
theorem intsAre_of:∀{ns:List Int} {its:List Value},Vals (ns.map V.int) its->PyProof.Rows.IntsAre its ns
  | [],_,.nil=>.nil
  | n :: ns, _, .cons h t => by
    obtain⟨tk,rfl⟩:=h
    exact .cons n tk (intsAre_of t)
theorem Fz:∀{ns:List Int} {its:List Value},PyProof.Rows.IntsAre its ns->Vals (ns.map V.int) its
 |_,_,.nil=>.nil
 |_,_,.cons n tk t=>.cons ⟨tk,rfl⟩ (Fz t)
theorem Mz{X:Cx}:Cy X (.builtin "sorted") (fun xs H Q=>∃(p:Addr) (ns:List Int),xs=[.ref p]/\SqL X.K H p (ns.map V.int)/\ns.length<64/\∀q,H q=none->Q (.ref q) (upd H q (.lst ((Ht ns).map V.int)))):=by
 intro pins s σ H xs us Q I r h
 obtain⟨p,ns,rfl,hp,h64,q⟩:=h
 obtain⟨u,rfl,ru⟩:=r.one
 cases (show u=Value.ref p from ru)
 obtain⟨its,rv,pl,hz⟩:=I.list hp
 have hlen:ns.length=its.length:=by have:=rv.length;simpa using this
 refine PyProof.Rows.sorted_ints pl.isList (intsAre_of rv) (by omega) fun out ns' a1 a2 a3=>?_
 obtain⟨e,he⟩:=PyProof.Rows.sortedAll_at s.heap its out
 have hn:H (s.heap.objs.size+1)=none:=I.hok.fresh (Nat.le_succ _)
 have hs:=Kz a2 a3
 subst hs
 refine⟨.ref _,_,I.laid (a:=s.heap.objs.size+1) (o:=.lst ((Ht ns).map V.int)) (t':=s.toks) (fun _ _=>PyProof.Rows.sortedAll_old) (Nat.le_succ _) ?_,rfl,q _ hn⟩
 refine⟨?_,out.toList,e,Fz a1,?_⟩
 ·rw[List.length_map,(Hv ns).length_eq]
  have:(64:Nat)≤sizeLine:=by decide
  omega
 ·rw[Array.toArray_toList];exact he
noncomputable def L0:Op1:=fun w=>(asL w).bind fun ds=>(Hc ds).bind fun ns=>if ns.length<64 then some (.own ((Ht ns).map D.int))else none
theorem Ml{X:Cx}:Cy X (.builtin "sorted") (rN X.K (o1 L0)):=by
 intro pins s σ H xs us Q I r h
 obtain⟨M,ws,w,e,mo,sh,q⟩:=h
 obtain⟨v,w1,rfl,rfl,s1,e1⟩:=FZ sh e
 obtain⟨ds,e2,e1⟩:=A8 e1
 obtain⟨ns,e3,e1⟩:=A8 e1
 split at e1
 ·cases e1
  obtain⟨a,ys,rfl,h3,h4⟩:=s1.l e2
  exact Mz pins s σ H _ us Q I r ⟨a,ns,rfl,by rw[←Fy h4 e3];exact .of h3,by assumption,fun p hp=>q _ _ (.lst mo hp He)⟩
 ·cases e1
theorem Le(l:Addr)(items:Array Value)(n:Nat)(b:Addr)(items2:Array Value)(n2:Nat)(dd:Option Addr)(sl:Array (Option Value))(hs0:¬(!items.isEmpty && Builtin.List.listTooLong (items.size+items2.size))=true)(hs1:items.size≤sizeLine)(hs2:items.size+items2.size≤sizeLine+1):
  Meets (Builtin.«list.extend» ⟨[.ref l,.ref b],[]⟩) (fun _ R s=>s.heap.get? l=some {cls:=.type "list",dict:=none,data:=.seq items n,slots:= #[]}/\s.heap.get? b=some {cls:=.type "tuple",dict:=dd,data:=.seq items2 n2,slots:=sl}/\R (.ok (.ret Value.none)) {s with heap:=s.heap.update l (Obj.mapSeq fun x=>x++items2),toks:=s.toks}):=
 .of_wp fun prog w A R s h=>by
  obtain⟨hp,g,d,tk,os⟩:=s;obtain⟨hl,hb,h⟩:=h;have f1:=AutoSeq1.idx_int;have f2:=AutoSeq1.sub_tuple_tuple;have f3:=AutoSeq1.sub_list_list;have f4:=AutoSeq1.sub_tuple_list;have f5:=AutoSeq1.sub_list_tuple
  have hz':(items++items2).size≤sizeLine+1:=by rw[Array.size_append];exact hs2
  wp_walk using(wpAny_updateSeq hl rfl (hz:=hs1) (_hz':=hz')),AutoSeq1.wpAny_loadPart' hl,AutoSeq1.wpAny_loadPart' hb;exact⟨_,rfl,h⟩
def UZ(K:PySem.W.Frag):V->List V->Hp->VK->Prop:=fun x vs H Q=>∃l b xs zs,x=.ref l/\vs=[.ref b]/\H l=some (.lst xs)/\SqT K H b zs/\xs.length+zs.length≤sizeLine/\Q .non (upd H l (.lst (xs++zs)))
theorem PQ{X:Cx}:MtM X "list.extend" (UZ X.K):=by
 intro pins s σ H x vs v us Q I rx rv h
 obtain⟨l,b,xs,zs,rfl,rfl,hH,hB,hz,q⟩:=h
 cases rx
 obtain⟨u,rfl,ru⟩:=rv.one
 cases ru
 obtain⟨z,its,n,r,hl,e⟩:=I.lstM hH
 obtain⟨its2,r2,⟨⟨c,dd,dt,sl⟩,e2,hc,n2,hd⟩,z2⟩:=I.tuple hB
 simp only at hc hd
 subst hc hd
 have hl2:=r2.length
 have hsz:its.toArray.size+its2.toArray.size≤sizeLine:=by rw[List.size_toArray,List.size_toArray];omega
 have hlong:¬(!its.toArray.isEmpty && Builtin.List.listTooLong (its.toArray.size+its2.toArray.size))=true:=by
  rw[Ls hsz,Bool.and_false]
  exact Bool.false_ne_true
 refine call_meets F.slot_list_extend ⟨_,e,rfl⟩ F.entry_list_extend (F.args_list_extend_2 _ _)
  (Le l its.toArray n b its2.toArray n2 dd sl hlong (by rw[List.size_toArray];omega) (by omega)) ⟨e,e2,?_⟩
 refine⟨.non,_,I.lset (its':=its++its2) hH e (by simp) (r.append r2) ?_,rfl,q⟩
 rw[List.length_append]
 omega
noncomputable def Z1:Mo
  | S, ds, [x] => match dr S x with
    | .val (.tup zs)=>if ds.length+zs.length≤sizeLine then some (.non,ds++zs)else none
    |w=>(asL w).bind fun zs=>if ds.length+zs.length≤sizeLine then some (.non,ds++zs)else none
  |_,_,_=>none
theorem Ws {X : Cx} : MtR X "list.extend" (Zt X.K Z1) := by
  intro pins s σ H x vs v us Q I rx rv h
  obtain⟨M,S,n,a,ds,args,d,ds',rfl,hc,hn,e,st,ra,q⟩:=h
  unfold Z1 at e
  split at e
  · obtain ⟨xs, h1, h2⟩ := st.cell n a _ hc hn
    obtain⟨y,rfl,ry⟩:=OA ra
    have sy:=V9 st ry
    split at e
    · rename_i ed
      rw[ed]at sy
      split at e
      · rename_i hz
        cases e
        cases sy with
        | tup hx rr =>
          obtain⟨st2,g2⟩:=st.chg hc hn (h2.append rr)
          exact PQ pins s σ H _ _ v us Q I rx rv ⟨a,_,xs,_,rfl,rfl,h1,hx,by rw[h2.length,rr.length];exact hz,q _ _ st2 g2 .non⟩
      ·cases e
    · obtain ⟨zs, e1, e⟩ := A8 e
      split at e
      · rename_i hz
        cases e
        obtain⟨b,ys,rfl,h3,h4⟩:=sy.l e1
        obtain⟨st2,g2⟩:=st.chg hc hn (h2.append h4)
        exact Pt pins s σ H _ _ v us Q I rx rv ⟨a,b,xs,ys,rfl,rfl,h1,h3,by rw[h2.length,h4.length];exact hz,q _ _ st2 g2 .non⟩
      ·cases e
  ·cases e
theorem SU{X:Cx}:OpR X (binaryOp .Mult) (fun x y H Q=>∃a xs k,x=.ref a/\y=.int k/\SqT X.K H a xs/\xs≠[]/\k≤0/\ -(2^63)≤k/\∀p,H p=none->Q (.ref p) (upd H p (.tup []))):=by
  intro pins s σ H x y v u Q I rx ry h
  obtain⟨a,xs,k,rfl,rfl,hx,hne,hk,hk2,q2⟩:=h
  cases rx
  obtain⟨t,rfl⟩:=ry
  obtain⟨its,r,⟨⟨c,dd,data,sl⟩,ho,hc,n,hd⟩,hzz⟩:=I.tuple hx
  simp only at hc hd
  subst hc hd
  have hl:=r.length
  have hpos:0<xs.length:=List.length_pos_iff.mpr hne
  refine wpAny_binaryOp_repeat_ref (T:="tuple") (U:="int") (by decide) ⟨_,ho,rfl⟩ (fun s'=>typeIs_int s' k t) Fh F.fills_int_mul F.slot_int_rmul ID F.slot_int_index.lookup
    (call_meets F.slot_int_rmul (typeIs_int s k t) F.entry_int_rmul (F.args_int_rmul_2 _ _) (Gj k t a its.toArray n dd sl) ⟨ho,rfl,⟨_,ho,rfl⟩,?_⟩)
  refine wpAny_call_entry F.slot_tuple_mul ⟨_,ho,rfl⟩ F.entry_tuple_mul ?_ (F.args_tuple_mul_2 _ _)
  unfold Builtin.«tuple.__mul__»
  wp_walk using AutoSeq1.wpAny_loadPart' ho
  rw [if_neg (show ¬ (decide (k < -2 ^ 63) || decide (k ≥ 2 ^ 63)) = true by
    rw[Bool.or_eq_true]
    rintro (z|z)
    ·have:=of_decide_eq_true z;omega
    ·have:=of_decide_eq_true z;omega)]
  wp_walk using AutoSeq1.wpAny_loadPart' ho
  have hemp:its.toArray.isEmpty=false:=by
    cases its with
    |nil=>rw[List.length_nil]at hl;omega
    |cons b bs=>rfl
  rw [if_neg (show ¬ (its.toArray.isEmpty || k == 1) = true by
    rw[hemp,Bool.false_or]
    intro z
    have:=eq_of_beq z
    omega)]
  wp_walk using AutoSeq1.wpAny_loadPart' ho
  all_goals first
    |exact⟨_,rfl,.ref _,_,I.laid (o:=.tup []) (t':=s.toks) (fun b ob q=>Heap.get?_push_of_some _ q) (Nat.le_refl _) ⟨Nat.zero_le _,[],.nil,PyProof.Rows.IsTup.new _ _⟩,rfl,q2 _ (I.hok.fresh (Nat.le_refl _))⟩
    | (exfalso
       rename_i hh
       exact hh (by rw[Bool.or_eq_true];exact .inl (decide_eq_true hk)))
noncomputable def FK:Op2:=fun a b=>match a,b with
 | .val (.tup xs),.val (.int k)=>if(!xs.isEmpty && decide (k≤0) && decide (-(2^63)≤k))=true then some (.val (.tup []))else Z3 (.val (.tup xs)) (.val (.int k))
 |a,b=>Z3 a b
theorem CF {X : Cx} : OpR X (binaryOp .Mult) (rOp X.K FK) := by
  intro pins s σ H x y v u Q I rx ry h
  obtain⟨M,w1,w2,r,e,mo,s1,s2,q⟩:=h
  unfold FK at e
  split at e
  · split at e
    · rename_i xs k hk
      rw[Bool.and_eq_true,Bool.and_eq_true]at hk
      cases e
      cases s2
      cases s1 with
      | @tup a ys _ h1 r1=>
        have hne:ys≠[]:=fun zz=>by
          subst zz
          cases r1
          exact absurd hk.1.1 (by decide)
        exact SU pins s σ H _ _ v u Q I rx ry ⟨a,ys,k,rfl,rfl,h1,hne,of_decide_eq_true hk.1.2,of_decide_eq_true hk.2,fun p hp=>q _ _ (.tup mo hp .nil)⟩
    ·exact QP pins s σ H x y v u Q I rx ry ⟨M,_,_,r,e,mo,s1,s2,q⟩
  ·exact QP pins s σ H x y v u Q I rx ry ⟨M,_,_,r,e,mo,s1,s2,q⟩
theorem Ag{A:Around}{k:Nat}(hr:LH k A):A.units+100<cLine:=by have:=hr.un;omega
section
variable{P:Program}{w:World}{K:PySem.W.Frag}{mg:Str->Option Value}{base:Heap}
theorem Oy{x:Str}{st:Stmt}{k np:Nat}{ps:List Str}(S:St.Src K mg x st)(hbi:∀f fd,Fun K x x st f fd->Binds K fd ps []):St.Dfn P w K mg base x k ps (spD K np fun _ _=>none):=by
 obtain⟨f,fd,Fu,hm⟩:=S.ex
 refine⟨f,fd,hm,Fu.kp,hbi f fd Fu,⟨fun vs H Q E h=>?_,fun A outer s H args us vs Q E hr h0 hb hv h=>?_⟩⟩
 ·obtain⟨_,_,_,_,_,_,e,_⟩:=h;cases e
 ·obtain⟨_,_,_,_,_,_,e,_⟩:=h;cases e
end
noncomputable def scE:Nat->PySem.Expr->List Scope
 |0,_=>[]
 |n+1,.ListComp e gs s _=>s::(gs.flatMap fun g=>scE n g.iter)++scE n e++(gs.flatMap fun g=>g.ifs.flatMap (scE n))
 |n+1,.BoolOp _ vs _=>vs.flatMap (scE n)
 |n+1,.Call f as _ _=>scE n f++as.flatMap (scE n)
 |n+1,.BinOp a _ b _=>scE n a++scE n b
 |n+1,.UnaryOp _ a _=>scE n a
 |n+1,.Compare a _ cs _=>scE n a++cs.flatMap (scE n)
 |n+1,.Subscript a b _=>scE n a++scE n b
 |n+1,.Tuple es _ _=>es.flatMap (scE n)
 |n+1,.List es _=>es.flatMap (scE n)
 |n+1,.IfExp c a b _=>scE n c++scE n a++scE n b
 |n+1,.Dict _ vs _=>vs.flatMap (scE n)
 |n+1,.Slice a b c _=>(a.toList++b.toList++c.toList).flatMap (scE n)
 |n+1,.Attribute v _ _=>scE n v
 |_,_=>[]
noncomputable def scS:Nat->Stmt->List Scope
 |0,_=>[]
 |n+1,.Return (some e) _=>scE 30 e
 |n+1,.Assign ts e _=>ts.flatMap (scE 30)++scE 30 e
 |n+1,.AugAssign t _ e _=>scE 30 t++scE 30 e
 |n+1,.Expr e _=>scE 30 e
 |n+1,.If t a b _=>scE 30 t++a.flatMap (scS n)++b.flatMap (scS n)
 |n+1,.For _ it a b _=>scE 30 it++a.flatMap (scS n)++b.flatMap (scS n)
 |n+1,.While t a b _=>scE 30 t++a.flatMap (scS n)++b.flatMap (scS n)
 |_,_=>[]
noncomputable def JM(st:Stmt)(k:Nat):Scope:=((FL st).flatMap (scS 20)).getD k (AM st)
structure fw(P:Program)(w:World)(K:PySem.W.Frag)(mg:Str->Option Value)(base:Heap)(x:Str)(k np:Nat)(tbl:List (Str×Fn)):Prop where
 ex:∃a kvs,mg x=some (.ref a)/\TopD K w a kvs/\∀p G,tbl.lookup p=some G->∃f fd ps,kvs.lookup p=some (.ref f)/\MM P w K mg base CX0 k f fd ps (spD K np G)/\PySem.W.keepIn K (.ref f)=true/\Binds K fd ps []
section
variable{P:Program}{w:World}{K:PySem.W.Frag}{mg:Str->Option Value}{base h:Heap}
theorem ZP{x:Str}{st:Stmt}{f:Addr}{oc:Value}{od an:Option Addr}{osl:Array (Option Value)}{kV doc pm cdv ct:Value}(X:K.In h)(G:h.Ns mainGlobals mg)(a:PySem.W.nsIn K mainGlobals x=some (some (.ref f)))
  (l:K.lookup f=some ⟨oc,od,.func (PySem.W.fnOf x x (JS st) (FL st) (AM st) .none kV doc pm an cdv ct),osl⟩) (c:PySem.W.codeIn K cdv x=true) (k:PySem.W.keepIn K (.ref f)=true):St.Src K mg x st:=
 ⟨f,_,Yl l c k,PySem.W.mg_of X G a⟩
def IsD(K:PySem.W.Frag)(u:Value)(d:D):Prop:=∃v,RelV v u/\∀M H,Cw K M H v d
theorem LX{x:Str}{t:Tok}:IsD K (.str x t) (.str x):=⟨.str x,⟨t,rfl⟩,fun _ _=>.str x⟩
theorem Ow:∀{us:List Value} {ds:List D},Paired (fun d u=>IsD K u d) ds us->∃xs,Vals xs us/\∀M H,Ai K M H xs ds
  |_,_,.nil=>⟨[],.nil,fun _ _=>.nil⟩
  | _, _, .cons h t => by
    obtain⟨v,h1,h2⟩:=h
    obtain⟨xs,h3,h4⟩:=Ow t
    exact⟨v::xs,.cons h1 h3,fun M H=>.cons (h2 M H) (h4 M H)⟩
theorem WW{a:Addr}{od:Option Addr}{osl:Array (Option Value)}{its:List Value}{n:Nat}{ds:List D}(l:K.lookup a=some ⟨.type "tuple",od,.seq its.toArray n,osl⟩)(hz:its.length≤sizeLine)(r:Paired (fun d u=>IsD K u d) ds its):IsD K (.ref a) (.tup ds):=by
 obtain⟨xs,h1,h2⟩:=Ow r
 exact⟨.ref a,rfl,fun M H=>.tup (.inr ⟨_,its.toArray,n,l,rfl,rfl,by simpa using hz,by simpa using h1⟩) (h2 M H)⟩
theorem Yq{x:Str}{u:Value}{d:D}(X:K.In h)(G:h.Ns mainGlobals mg)(e:PySem.W.nsIn K mainGlobals x=some (some u))(r:IsD K u d):XR K mg x d:=by
 obtain⟨v,h1,h2⟩:=r
 exact⟨v,u,PySem.W.mg_of X G e,h1,h2⟩
structure f9(w:World)(K:PySem.W.Frag)(mg:Str->Option Value)(x:Str)(ns:List (Str×Str)):Prop where
 ex:∃a kvs,mg x=some (.ref a)/\TopD K w a kvs/\Paired (fun(n:Str×Str) (q:Str×V)=>n.1=q.1/\∃f,q.2=.ref f/\mg n.2=some (.ref f)) ns kvs
noncomputable def XG(K:PySem.W.Frag):Sp:=fun vs H Q _=>∃(a:Addr) (ns:List Int),vs=[.ref a]/\SqL K H a (ns.map V.int)/\ns.length≤63/\∀H',Q (.bl true) H'
theorem Xf{k:Nat}{f:Addr}{fd:FuncData}{x:Str}{F:Fn}(Fk:MM P w K mg base CX0 k f fd [x] (spD K 1 F))(h:∀ns:List Int,ns.length≤63->∃S,F [.scr ns] []=some (.bl true,S)):MM P w K mg base CX0 k f fd [x] (XG K):=by
 refine Fk.imp fun vs H Q E z=>?_
 obtain⟨a,ns,rfl,hs,hl,q⟩:=z
 obtain⟨S,e⟩:=h ns hl
 refine⟨Ms.no,[.scr ns],[],_,S,rfl,e,.cons (.scr ?_) .nil,⟨fun a z=>absurd z Ms.no_mem,List.nodup_nil,fun a z=>(nomatch z),rfl,fun n a c z=>by simp[Ms.no]at z⟩,fun v H' M' g st r=>?_⟩
 ·rcases hs with hs|hs
  ·exact .inl ⟨hs,Ms.no_mem⟩
  ·exact .inr hs
 ·cases r
  exact q H'
end
noncomputable def putD(kvs:List (Key×D))(k:Key)(v:D):List (Key×D):=
 if(kvs.any fun kv=>decide (kv.1=k))=true then kvs.map (fun kv=>if kv.1=k then(kv.1,v)else kv)else kvs++[(k,v)]
noncomputable def Ku(kvs more:List (Key×D)):List (Key×D):=more.foldl (fun acc kv=>putD acc kv.1 kv.2) kvs
noncomputable def Z8:D->Option Key
 | .int i=>some (.inl i)
 | .str x=>some (.inr x)
 |_=>none
noncomputable def Tu:Bool->List (Key×D)->Sto->D×Sto
 |false,es,S=>(.dct es,S)
 |true,es,S=>(.ref S.length,S++[.dct es])
section
variable{K:PySem.W.Frag}{M M':Ms}{H:Hp}{S:Sto}{E:En}{σ:Sg}
theorem CN.any(k:Key):∀{kvs:List (Key×V)} {es:List (Key×D)},CN K M H kvs es->(kvs.any fun kv=>decide (kv.1=k))=es.any fun kv=>decide (kv.1=k)
 |_,_,.nil=>rfl
 |_,_,.cons h t=>by rw[List.any_cons,List.any_cons,CN.any k t]
theorem CN.app:∀{kvs kvs':List (Key×V)} {es es':List (Key×D)},CN K M H kvs es->CN K M H kvs' es'->CN K M H (kvs++kvs') (es++es')
 |_,_,_,_,.nil,s=>s
 |_,_,_,_,.cons h t,s=>.cons h (CN.app t s)
theorem CN.repl{k:Key}{v:V}{d:D}(r:Cw K M H v d):∀{kvs:List (Key×V)} {es:List (Key×D)},CN K M H kvs es->CN K M H (kvs.map fun kv=>if kv.1=k then(kv.1,v)else kv) (es.map fun kv=>if kv.1=k then(kv.1,d)else kv)
  |_,_,.nil=>.nil
  | _, _, .cons (k := k') h t => by
    rw[List.map_cons,List.map_cons]
    by_cases e:k'=k
    ·rw[if_pos e,if_pos e];exact .cons r (CN.repl r t)
    ·rw[if_neg e,if_neg e];exact .cons h (CN.repl r t)
theorem CN.put{k:Key}{v:V}{d:D}{kvs:List (Key×V)}{es:List (Key×D)}(r:Cw K M H v d)(h:CN K M H kvs es):CN K M H (putK kvs k v) (putD es k d):=by
 unfold putK putD
 rw[h.any k]
 split
 ·exact h.repl r
 ·exact h.app (.cons r .nil)
theorem CN.merge:∀{more:List (Key×V)} {more':List (Key×D)} {kvs:List (Key×V)} {es:List (Key×D)},CN K M H more more'->CN K M H kvs es->CN K M H (JL kvs more) (Ku es more')
 |_,_,_,_,.nil,h=>h
 |_,_,kvs,es,.cons (k:=k) (v:=v) (d:=d) (vs:=vs) (ds:=ds) r t,h=>show CN K M H (JL (putK kvs k v) vs) (Ku (putD es k d) ds)from CN.merge t (h.put r)
theorem Y9{v:V}{d:D}{k:Key}(r:Cw K M H v d)(e:Z8 d=some k):v=kV k:=by
 cases r<;>cases e<;>rfl
theorem StR.dn(r:StR K M S H){a:Addr}(e:H a=none):StR K ⟨M.cel,a::M.tmp⟩ S (upd H a (.dK []))/\Sp1 M H ⟨M.cel,a::M.tmp⟩ (upd H a (.dK [])):=by
 have k:∀b o,H b=some o->upd H a (.dK []) b=some o:=FU e
 have na:¬M.mem a:=fun z=>r.mo.some z e
 have s1:Sp1 M H ⟨M.cel,a::M.tmp⟩ (upd H a (.dK [])):=⟨r.mo,List.prefix_rfl,fun b z=>by
  rcases z with z|z
  ·exact .inl (.inl z)
  ·rcases List.mem_cons.mp z with z|z
   ·subst z;exact .inr e
   ·exact .inl (.inr z),fun b o eb _=>k b o eb⟩
 refine⟨⟨fun b z=>?_,r.nd,fun b hb z=>?_,r.len,fun n b c h1 h2=>?_⟩,s1⟩
 ·by_cases h:b=a
  ·subst h;exact .inr ⟨[],BK⟩
  ·rw[Al h]
   refine r.mo b ?_
   rcases z with z|z
   ·exact .inl z
   ·rcases List.mem_cons.mp z with z|z
    ·exact absurd z h
    ·exact .inr z
 ·rcases List.mem_cons.mp hb with hb|hb
  ·subst hb;exact na (.inl z)
  ·exact r.nt b hb z
 ·have q:=r.cell n b c h1 h2
  cases c with
  |lst ds=>obtain⟨xs,e,rr⟩:=q;exact⟨xs,k _ _ e,rr.step s1⟩
  |dct ds=>obtain⟨xs,e,rr⟩:=q;exact⟨xs,k _ _ e,rr.step s1⟩
theorem StR.doff{c t:List Addr}{a:Addr}{kvs:List (Key×V)}{es:List (Key×D)}(cf:Bool)(r:StR K ⟨c,a::t⟩ S H)(nt:a∉t)(rr:CN K ⟨c,a::t⟩ H kvs es):
    ∃c',StR K ⟨c',t⟩ (Tu cf es S).2 (upd H a (.dK kvs))/\Cw K ⟨c',t⟩ (upd H a (.dK kvs)) (.ref a) (Tu cf es S).1/\c <+: c'/\(∀b∈c',b∈c∨b=a):=by
  have nc:a∉c:=r.nt a List.mem_cons_self
  have hl:c.length=S.length:=r.len
  have ne:∀b∈c,b≠a:=fun b hb z=>nc (by rw[←z];exact hb)
  have kp:∀b o,H b=some o->¬Ms.mem ⟨c,a::t⟩ b->upd H a (.dK kvs) b=some o:=fun b o eb nb=>by rw[Al (fun z=>nb (.inr (by rw[z];exact List.mem_cons_self)))];exact eb
  have old:∀{c':List Addr},Sp1 ⟨c,a::t⟩ H ⟨c',t⟩ (upd H a (.dK kvs))->∀(n:Nat) (b:Addr) (cl:Cl),c[n]?=some b->S[n]?=some cl->Yc K ⟨c',t⟩ (upd H a (.dK kvs)) b cl:=fun s1 n b cl h1 h2=>by
    have hb:=ne b (List.mem_of_getElem? h1)
    have q:=r.cell n b cl h1 h2
    cases cl with
    |lst ds=>obtain⟨xs,e,rr⟩:=q;exact⟨xs,by rw[Al hb];exact e,rr.step s1⟩
    |dct ds=>obtain⟨xs,e,rr⟩:=q;exact⟨xs,by rw[Al hb];exact e,rr.step s1⟩
  have mo:∀b,Ms.mem ⟨c,t⟩ b∨b=a->(∃xs,upd H a (.dK kvs) b=some (.lst xs))∨∃ks,upd H a (.dK kvs) b=some (.dK ks):=fun b z=>by
    by_cases h:b=a
    ·subst h;exact .inr ⟨kvs,BK⟩
    · rw [Al h]
      rcases z with z|z
      ·exact r.mo b (z.imp id (List.mem_cons_of_mem _))
      ·exact absurd z h
  cases cf with
  | false =>
    have s1:Sp1 ⟨c,a::t⟩ H ⟨c,t⟩ (upd H a (.dK kvs)):=⟨r.mo,List.prefix_rfl,fun b z=>.inl (z.imp id (List.mem_cons_of_mem _)),kp⟩
    exact⟨c,⟨fun b z=>mo b (.inl z),r.nd,fun b hb=>r.nt b (List.mem_cons_of_mem _ hb),r.len,old s1⟩,.dct BK (fun z=>z.elim nc nt) (rr.step s1),List.prefix_rfl,fun b z=>.inl z⟩
  | true =>
    have s1:Sp1 ⟨c,a::t⟩ H ⟨c++[a],t⟩ (upd H a (.dK kvs)):=⟨r.mo,List.prefix_append _ _,fun b z=>by
      rcases z with z|z
      · rcases List.mem_append.mp z with z | z
        ·exact .inl (.inl z)
        ·exact .inl (.inr (by rw[List.mem_singleton.mp z];exact List.mem_cons_self))
      ·exact .inl (.inr (List.mem_cons_of_mem _ z)),kp⟩
    refine⟨c++[a],⟨fun b z=>mo b ?_,?_,fun b hb z=>?_,by simp[Tu,hl],fun n b cl h1 h2=>?_⟩,.ref (by rw[←hl];exact List.getElem?_concat_length),List.prefix_append _ _,fun b z=>?_⟩
    · rcases z with z | z
      · rcases List.mem_append.mp z with z | z
        ·exact .inl (.inl z)
        ·exact .inr (List.mem_singleton.mp z)
      ·exact .inl (.inr z)
    · rw [List.nodup_append]
      refine⟨r.nd,by simp,fun x hx y hy z=>?_⟩
      simp at hy;subst hy
      exact nc (by rw[←z];exact hx)
    · rcases List.mem_append.mp z with z | z
      ·exact r.nt b (List.mem_cons_of_mem _ hb) z
      ·rw[List.mem_singleton.mp z]at hb;exact nt hb
    · have h2 : (S ++ [Cl.dct es])[n]? = some cl := h2
      by_cases h:n<S.length
      · rw [List.getElem?_append_left (by rw [hl]; exact h)] at h1
        rw[List.getElem?_append_left h]at h2
        exact old s1 n b cl h1 h2
      · have hm : n = S.length := by
          have:=(List.getElem?_eq_some_iff.mp h2).1
          simp at this;omega
        subst hm
        rw[List.getElem?_append_right (by rw[hl];exact Nat.le_refl _)]at h1
        rw[List.getElem?_append_right (Nat.le_refl _)]at h2
        rw[hl]at h1
        simp at h1 h2
        subst h1 h2
        exact⟨kvs,BK,rr.step s1⟩
    · rcases List.mem_append.mp z with z | z
      ·exact .inl z
      ·exact .inr (List.mem_singleton.mp z)
noncomputable def evP:List (Ev×Ev)->En->Sto->Option (List (Key×D)×Sto)
 | [],_,S=>some ([],S)
 |(k,v)::r,E,S=>(k E S).bind fun a=>(Z8 a.1).bind fun kk=>(v E a.2).bind fun b=>(evP r E b.2).map fun q=>((kk,b.1)::q.1,q.2)
theorem VA:∀{fs:List (Ev×Ev)} {M:Ms} {S:Sto} {es:List (Key×D)} {S':Sto} {H:Hp} {Q:List (V×V)->Hp->Prop},evP fs E S=some (es,S')->EnR K M E σ H->StR K M S H->
    (∀kvs H' M',Gr M H M' H'->StR K M' S' H'->CN K M' H' kvs es->kvs.length=fs.length->Q (kvs.map fun kv=>(kV kv.1,kv.2)) H')->OC (fs.map fun x=>(tD K x.1,tD K x.2)) σ H Q
  | [],M,S,es,S',H,Q,e,r,st,q=>by
    cases e
    exact q [] H M (.refl st.mo) st .nil rfl
  | (fk, fv) :: fs, M, S, es, S', H, Q, e, r, st, q => by
    obtain⟨⟨dk,S1⟩,e1,e⟩:=A8 e
    obtain⟨kk,ek,e⟩:=A8 e
    obtain⟨⟨dv,S2⟩,e2,e⟩:=A8 e
    obtain⟨⟨es',S3⟩,e3,e⟩:=Il e
    cases e
    refine⟨M,E,S,dk,S1,e1,r,st,fun v H1 M1 g1 st1 d1=>?_⟩
    refine⟨M1,E,S1,dv,S2,e2,r.step g1.st,st1,fun v2 H2 M2 g2 st2 d2=>?_⟩
    refine VA e3 ((r.step g1.st).step g2.st) st2 fun kvs H3 M3 g3 st3 rk hl=>?_
    rw[Y9 d1 ek]
    exact q ((kk,v2)::kvs) H3 M3 ((g1.trans g2).trans g3) st3 (.cons (d2.step g3.st) rk) (by simp[hl])
end
noncomputable def Q9(cf:Bool)(fs:List (Ev×Ev)):Ev:=fun E S=>(evP fs E S).map fun r=>Tu cf (Ku [] r.1) r.2
abbrev XY:=Q9 false
section
variable{X:Cx}{pos:Pos}
structure DPs(X:Cx)(pos:Pos)(ks:List (Option Expr))(vs:List Expr)(fs:List (Ev×Ev)):Prop where
 pe:PPs X pos ks vs (fs.map fun x=>(tD X.K x.1,tD X.K x.2))
 all:ks.all (·.isSome)=true
 len:ks.length=vs.length
 num:fs.length=vs.length
theorem WX:DPs X pos [] [] []:=⟨WQ,rfl,rfl,rfl⟩
theorem Td{k v:Expr}{ks:List (Option Expr)}{vs:List Expr}{fk fv:Ev}{fs:List (Ev×Ev)}(hk:DE X k fk)(hv:DE X v fv)(h:DPs X pos ks vs fs):DPs X pos (some k::ks) (v::vs) ((fk,fv)::fs):=
 ⟨Up hk.pe hv.pe h.pe,by rw[List.all_cons,h.all];rfl,by rw[List.length_cons,List.length_cons,h.len],by rw[List.length_cons,List.length_cons,h.num]⟩
theorem Wz{K:PySem.W.Frag}{M:Ms}{H:Hp}{S S':Sto}{Q:VK}{cf:Bool}{p:Addr}{M2:Ms}{H2:Hp}{S2:Sto}{kvs:List (Key×V)}{es:List (Key×D)}(st:StR K M S H)(hp:H p=none)(g:Gr ⟨M.cel,p::M.tmp⟩ (upd H p (.dK [])) M2 H2)(st2:StR K M2 S2 H2)(rk:CN K M2 H2 kvs es)
  (q:∀v H' M',Gr M H M' H'->StR K M' (Tu cf es S2).2 H'->Cw K M' H' v (Tu cf es S2).1->Q v H'):Q (.ref p) (upd H2 p (.dK kvs)):=by
 obtain⟨c2,t2⟩:=M2
 have ht:t2=p::M.tmp:=g.tmp
 subst ht
 have np:p∉M.tmp:=fun z=>st.mo.some (.inr z) hp
 obtain⟨c',st',rd,pr,sub⟩:=st2.doff cf np rk
 refine q _ _ ⟨c',M.tmp⟩ ⟨st.mo,(show M.cel <+: c2 from g.pre).trans pr,rfl,fun b z=>?_,fun b o eb nb=>?_,fun b eb=>?_⟩ st' rd
 ·rcases sub b z with z|z
  ·rcases g.fresh b z with z|z
   ·exact .inl z
   ·right
    by_cases h:b=p
    ·rw[h];exact hp
    ·rw[Al h]at z;exact z
  ·right;rw[z];exact hp
 ·have h:b≠p:=fun z=>by rw[z,hp]at eb;cases eb
  rw[Al h]
  exact g.keep b o (by rw[Al h];exact eb) nb
 ·by_cases h:b=p
  ·subst h;rw[BK];intro z;cases z
  ·rw[Al h]
   exact g.some b (by rw[Al h];exact eb)
theorem X7{cf:Bool}{ks:List (Option Expr)}{vs:List Expr}{fs:List (Ev×Ev)}(h:DPs X pos ks vs fs)(h0:ks≠[])(h15:ks.length≤15):DE X (.Dict ks vs pos) (Q9 cf fs):=⟨
 Bm (V2 h.pe h.all h.len h0 h15) fun σ H Q z=>by
  obtain⟨M,E,S,d,S',e,r,st,q⟩:=z
  obtain⟨⟨es,S2⟩,e1,e⟩:=Il e
  intro p hp
  obtain⟨st0,s0⟩:=st.dn hp
  refine VA e1 (r.step s0) st0 fun kvs H2 M2 g st2 rk hl=>⟨g.keep p _ BK (st0.nt p List.mem_cons_self),kvs,rfl,by rw[hl,h.num,←h.len];exact h15,?_⟩
  refine Wz (cf:=cf) (S':=S') st hp g st2 (rk.merge .nil) ?_
  have e':Tu cf (Ku [] es) S2=(d,S'):=e
  rw[e']
  exact q⟩
end
section
variable{X:Cx}{pos:Pos}
noncomputable def Kj(oa ob oc:Ev):Ev:=fun E S=>(evs [oa,ob] E S).bind fun r=>match r.1 with
  | [.int i,.int j]=>if i≤j then(oc E r.2).bind fun p=>match p.1 with
      | .int k=>some (.bl (decide (j<k)),p.2)
      |_=>none
    else some (.bl false,r.2)
  |_=>none
theorem cU{K:PySem.W.Frag}{oa ob oc:Ev}{σ:Sg}{H:Hp}{Q:VK}(h:tD K (Kj oa ob oc) σ H Q):VF (rI0 fun i j=>.bl (decide (i≤j))) (rI0 fun i j=>.bl (decide (i<j))) (tD K oa) (tD K ob) (tD K oc) σ H Q:=by
 obtain⟨M,E,S,d,S',e,r,st,q⟩:=h
 obtain⟨⟨ws,S1⟩,e1,e⟩:=A8 e
 have zz:=GB (K:=K) (σ:=σ) (fs:=[oa,ob]) (Q:=fun vs H2=>∃i j:Int,vs=[V.int i,V.int j]/\rI0 (fun i j=>.bl (decide (i≤j))) (.int i) (.int j) H2 fun z H3=>∃k,z=.bl k/\(if k=true then tD K oc σ H3 fun w' H4=>rI0 (fun i j=>.bl (decide (i<j))) (.int j) w' H4 Q else Q (.bl false) H3)) e1 r st (fun vs H1 M1 g1 st1 r1=>by
  dsimp only at e
  split at e
  ·rename_i i j
   have hv:=Qe r1
   refine⟨i,j,hv,i,j,rfl,rfl,_,rfl,?_⟩
   by_cases hij:i≤j
   ·rw[if_pos hij]at e
    rw[if_pos (by simpa using hij)]
    obtain⟨⟨w2,S2⟩,e2,e⟩:=A8 e
    dsimp only at e
    split at e
    ·rename_i k
     cases e
     refine⟨M1,E,S1,_,_,e2,r.step g1.st,st1,fun v H2 M2 g2 st2 r2=>?_⟩
     cases r2
     exact⟨j,k,rfl,rfl,q _ _ M2 (g1.trans g2) st2 (.bl _)⟩
    ·cases e
   ·rw[if_neg hij]at e
    cases e
    rw[if_neg (by simpa using hij)]
    exact q _ _ M1 g1 st1 (.bl _)
  ·cases e)
 refine EG (show tD K oa σ H _ from zz) fun x H1 z1=>EG z1 fun y H2 z2=>?_
 obtain⟨i,j,ev,z2⟩:=z2
 cases ev
 exact z2
theorem Vz{a b c:Expr}{oa ob oc:Ev}(ha:DE X a oa)(hb:DE X b ob)(hc:DE X c oc)(hm:lastMarks [.LtE,.Lt] [b,c]=false:=by with_unfolding_all rfl):DT X (.Compare a [.LtE,.Lt] [b,c] pos) (Kj oa ob oc):=
 TX (Sw ZO XZ ha.pe hb.pe hc.pe hm) fun _ _ _ h=>cU h
end
theorem all_cons{p:Str->Prop}{x:Str}{xs:List Str}(h:p x)(t:∀x∈xs,p x):∀y∈x::xs,p y:=fun y m=>by
 rcases List.mem_cons.mp m with rfl|m
 ·exact h
 ·exact t y m
noncomputable def Vb{α β:Type}(f:α->Option β):List α->Option (List β)
 | []=>some []
 |a::as=>(f a).bind fun b=>(Vb f as).map fun bs=>b::bs
section
variable{X:Cx}{pins:List (Addr×Obj)}{σ:Sg}{H:Hp}{s:Shared}{M:Ms}{S:Sto}
end
section
variable{X:Cx}{a b:Expr}{fa fb:Ev}{pos:Pos}
end
theorem OG:∀{ns:List Int} {us:List Value},Vals (ns.map V.int) us->PyProof.Rows.IntsAre us ns
  | [],_,h=>by cases h;exact .nil
  | n :: ns, _, h => by
    cases h with
    | cons h t =>
      obtain⟨k,rfl⟩:=h
      exact .cons n k (OG t)
noncomputable def UW(n:Nat):En->Nat:=fun _=>n
section
variable{prog:Program}{w:World}{A:Around}{R:Result->Shared->Prop}{I:Addr}{fp wr:List Addr}{n:Nat}{P:Nat->Value->Prop}{St:Nat->Heap->Prop}{bt:Nat->Nat->Bool}{d:Value}{S:Addr}{T:Heap->Prop}
def dh(prog:Program)(w:World)(A:Around)(T:Heap->Prop)(P:Nat->Value->Prop)(bt:Nat->Nat->Bool):Prop:=
 ∀i j u v (s:Shared) (Q:Value->Shared->Prop) (E:Value->Shared->Prop),T s.heap->P i u->P j v->Q (.bool (bt i j)) s->wpAny (model prog w) A (richCompare .Lt u v) Q E s
def Keeps(T:Heap->Prop)(wr:List Addr)(S:Addr):Prop:=∀h h':Heap,(∀b o,b∉wr->b≠S->h.get? b=some o->h'.get? b=some o)->T h->T h'
abbrev Xo(I S:Addr)(d:Value):Code:=.builtin "min.loop" ⟨[.ref I,.none,.ref S],[("default",d)]⟩
abbrev bst(xs:Array Value)(c:Nat):Obj:={cls:=.type "list",dict:=none,data:=.seq xs c,slots:= #[]}
theorem nmL:(toString "min" ++toString ".loop":String)="min.loop":=by decide
theorem P1(W:Walks prog w A.in1 I fp wr n P St)(hc:dh prog w A.in1 T P bt)(kT:Keeps T wr S)(hS:S∉fp):∀(k j:Nat) (s:Shared) (v:Value) (c:Nat),n-(j+1)=k->j+1≤n->St (j+1) s.heap->P (argBest bt j) v->s.heap.get? S=some (bst #[v,v] c)->T s.heap->
    (∀u h' tk,P (argBest bt (n-1)) u->(∀b o,b∉wr->b≠S->s.heap.get? b=some o->h'.get? b=some o)->R (.ok (.ret u)) {s with heap:=h',toks:=tk})->codeAny (model prog w) A (Xo I S d) R s
  | 0, j, s, v, c, e, le, st, pv, g, tt, hR => by
    have hw:S∉wr:=fun z=>hS (W.sub _ z)
    have en:j+1=n:=by omega
    refine codeAny_builtin F.entry_min_loop ?_
    rw[Around.under_plainId F.plain_min_loop _]
    refine wpAny_bind (wpAny_seqItems g rfl (show wpAny _ A.in1 (tryCatch (pyNext (.ref I)) _ >>= _) _ _ s from wpAny_bind (wpAny_tryCatch (W.done s _ _ (en▸st) fun h' tk kp=>?_))))
    refine(show wpAny _ A.in1 (updateSeq S (fun _=> #[]) >>= _) _ _ _ from wpAny_bind (wpAny_updateSeq (kp S _ hw g) rfl (wpAny_bind (wpAny_letGo (wpAny_pure ?_)))))
    exact hR v _ tk (by rw[←en];exact pv) fun b o b1 b2 z=>(Heap.get?_update_other _ _ (Ne.symm b2)).trans (kp b o b1 z)
  | k + 1, j, s, v, c, e, le, st, pv, g, tt, hR => by
    have hw:S∉wr:=fun z=>hS (W.sub _ z)
    have lt:j+1<n:=by omega
    refine codeAny_builtin F.entry_min_loop ?_
    rw[Around.under_plainId F.plain_min_loop _]
    refine wpAny_bind (wpAny_seqItems g rfl (show wpAny _ A.in1 (tryCatch (pyNext (.ref I)) _ >>= _) _ _ s from wpAny_bind (wpAny_tryCatch (W.item (j+1) s _ _ lt st fun u h' tk pu st' kp=>?_))))
    have g':=kp S _ hw g
    refine(show wpAny _ A.in1 (tryCatch (holding [u,u] (richCompare .Lt u v >>= _)) _ >>= _) _ _ _ from wpAny_bind (wpAny_tryCatch (wpAny_holding (wpAny_bind (hc (j+1) (argBest bt j) u v _ _ _ (kT _ _ (fun b o b1 _ z=>kp b o b1 z) tt) pu pv (wpAny_bind (wpAny_holding (wpAny_truthy_bool (wpAny_bind (wpAny_letGo (wpAny_pure ?_)))))))))))
    by_cases hb:bt (j+1) (argBest bt j)=true
    · simp only [hb, if_true]
      refine wpAny_bind (wpAny_updateSeq g' rfl (wpAny_bind (wpAny_letGo ?_)))
      rw[nmL]
      refine wpAny_pure ⟨plainId_quiet F.plain_min_loop _,P1 W hc kT hS k (j+1) _ u _ (by omega) lt (W.frame _ _ _ st' fun b bf o z=>(Heap.get?_update_other _ _ (fun q:S=b=>hS (by rw[q];exact bf))).trans z) (by simp only[argBest,hb,if_true];exact pu) (Heap.get?_update_self _ g' rfl) (kT _ _ (fun b o b1 b2 z=>(Heap.get?_update_other _ _ (Ne.symm b2)).trans (kp b o b1 z)) tt) fun u' h2 tk2 pu' kp2=>?_⟩
      exact hR u' h2 tk2 pu' fun b o b1 b2 z=>kp2 b o b1 b2 ((Heap.get?_update_other _ _ (Ne.symm b2)).trans (kp b o b1 z))
    · simp only [hb, if_false, Bool.false_eq_true]
      refine wpAny_bind (wpAny_letGo ?_)
      rw[nmL]
      refine wpAny_pure ⟨plainId_quiet F.plain_min_loop _,P1 W hc kT hS k (j+1) _ v c (by omega) lt st' (by simp only[argBest,hb,if_false,Bool.false_eq_true];exact pv) g' (kT _ _ (fun b o b1 _ z=>kp b o b1 z) tt) fun u' h2 tk2 pu' kp2=>?_⟩
      exact hR u' h2 tk2 pu' fun b o b1 b2 z=>kp2 b o b1 b2 (kp b o b1 z)
theorem XA(W:Walks prog w A.in1 I fp wr n P St)(hc:dh prog w A.in1 T P bt)(kT:Keeps T wr S)(hS:S∉fp){s:Shared}{c:Nat}(st:St 0 s.heap)(tt:T s.heap)(g:s.heap.get? S=some (bst #[] c))
  (hR:∀u h' tk,(if n=0 then u=d else P (argBest bt (n-1)) u)->(∀b o,b∉wr->b≠S->s.heap.get? b=some o->h'.get? b=some o)->R (.ok (.ret u)) {s with heap:=h',toks:=tk}):codeAny (model prog w) A (Xo I S d) R s:=by
 have hw:S∉wr:=fun z=>hS (W.sub _ z)
 refine codeAny_builtin F.entry_min_loop ?_
 rw[Around.under_plainId F.plain_min_loop _]
 by_cases n0:n=0
 ·subst n0
  refine wpAny_bind (wpAny_seqItems g rfl (show wpAny _ A.in1 (tryCatch (pyNext (.ref I)) _ >>= _) _ _ s from wpAny_bind (wpAny_tryCatch (W.done s _ _ st fun h' tk kp=>?_))))
  refine wpAny_bind (wpAny_rule (wpAny_pure ?_))
  exact hR d _ tk (by simp) fun b o b1 b2 z=>kp b o b1 z
 ·refine wpAny_bind (wpAny_seqItems g rfl (show wpAny _ A.in1 (tryCatch (pyNext (.ref I)) _ >>= _) _ _ s from wpAny_bind (wpAny_tryCatch (W.item 0 s _ _ (by omega) st fun u h' tk pu st' kp=>?_))))
  have g':=kp S _ hw g
  show wpAny _ A.in1 (updateSeq S (fun _=> #[u,u]) >>= _) _ _ _
  refine wpAny_bind ?_
  refine wpAny_updateSeq g' rfl ?_ (hz:=Nat.zero_le _)
  rw[nmL]
  refine wpAny_pure ⟨plainId_quiet F.plain_min_loop _,P1 W hc kT hS (n-1) 0 _ u _ (by omega) (by omega) (W.frame _ _ _ st' fun b bf o z=>(Heap.get?_update_other _ _ (fun q:S=b=>hS (by rw[q];exact bf))).trans z) pu (Heap.get?_update_self _ g' rfl) (kT _ _ (fun b o b1 b2 z=>(Heap.get?_update_other _ _ (Ne.symm b2)).trans (kp b o b1 z)) tt) fun u' h2 tk2 pu' kp2=>?_⟩
  exact hR u' h2 tk2 (by rw[if_neg n0];exact pu') fun b o b1 b2 z=>kp2 b o b1 b2 ((Heap.get?_update_other _ _ (Ne.symm b2)).trans (kp b o b1 z))
end
section
variable{prog:Program}{w:World}{A:Around}{E:Value->Shared->Prop}{s:Shared}
theorem V6{id:String}{b:Builtin}{args:List Value}{kw:List (Str×Value)}{Q:Value->Shared->Prop}(hk:builtinKind id=none)(hp:plainId id=true)(hb:entryFor table id=some b)(ha:argsOk id ⟨args,kw⟩)
    (hc:wpAny (model prog w) A.in1 (b ⟨args,kw⟩) (fun fin s'=>match fin with
      | .done f=>(match(Except.ok f:Result)with| .ok (.ret v)=>Q v s'| .ok _=>False| .error e=>E e s')
      | .again c=>c.quiet=true/\codeAny (model prog w) A c (fun r s'=>match r with| .ok (.ret v)=>Q v s'| .ok _=>False| .error e=>E e s') s') E s):wpAny (model prog w) A (call (.builtin id) args kw) Q E s:=by
  refine wpAny_call (codeAny_call_builtin hp hb ?_)
  simp only[checkBuiltinCall,hk]
  cases e:Manifest.signature? id with
  |none=>exact wpAny_pure hc
  | some sig =>
    simp only[argsOk,e]at ha
    have z:Bind.checkArgs id sig ⟨args,kw⟩=pure ():=ha
    simp only[z]
    exact wpAny_pure hc
abbrev Pg(nss:List (List Int))(i j:Nat):Bool:=HT.lexLt (nss.getD i []) (nss.getD j [])
def Ur(N:Nat)(vs:List Value)(nss:List (List Int))(h:Heap):Prop:=∀(i:Nat) (u:Value),vs[i]?=some u->∃(a:Addr) (its:Array Value),u=.ref a/\a<N/\PyProof.Rows.IsTup h a its/\PyProof.Rows.IntsAre its.toList (nss.getD i [])
theorem UY{l:Addr}{vs:List Value}{nss:List (List Int)}{d:Value}{Q:Value->Shared->Prop}(hh:A.handled=none)(hu:A.in1.units<cLine)(hl:s.heap.IsList l vs.toArray)(ht:Ur s.heap.objs.size vs nss s.heap)
  (h:∀u h' tk,(if vs.length=0 then u=d else vs[argBest (Pg nss) (vs.length-1)]?=some u)->(∀b o,s.heap.get? b=some o->h'.get? b=some o)->Q u {s with heap:=h',toks:=tk}):
  wpAny (model prog w) A (call (.builtin "min") [.ref l] [("default",d)]) Q E s:=by
 refine V6 F.kind_min F.plain_min F.entry_min (by unfold argsOk;kernel_rfl) ?_
 show wpAny _ A.in1 (Builtin.Builtins.bindParams "min" ["key","default"] 0 ⟨[],[("default",d)]⟩ >>= _) _ _ s
 refine wpAny_bind (wpAny_of_eq (show Builtin.Builtins.bindParams "min" ["key","default"] 0 ⟨[],[("default",d)]⟩=pure [none,some d]from rfl) (wpAny_bind (wpAny_pure (wpAny_bind (wpAny_pyIter_list hl ?_)))))
 refine wpAny_bind (wpAny_newObj_type ?_)
 obtain⟨o,ho,hc,n,hd⟩:=id hl
 have lt:=Heap.lt_size ho
 have sz:(s.heap.push {cls:=.type "list_iterator",data:=.fields #[.ref l,.int 0 0]}).objs.size=s.heap.objs.size+1:=Heap.size_push ..
 rw[nmL]
 refine wpAny_pure ⟨plainId_quiet F.plain_min_loop _,?_⟩
 refine XA (T:=Ur s.heap.objs.size vs nss) (bt:=Pg nss) (Walks.list (A:=A.in1) (by simpa using hh) s.heap.objs.size l (Nat.ne_of_lt lt) vs.toArray) ?_ ?_ ?_ ⟨⟨_,Heap.get?_push_of_some _ (Heap.get?_push_size _ rfl),rfl,rfl⟩,(hl.push _).push _⟩ ?_ (Heap.get?_push_size _ rfl) fun u h' tk hu' hk=>?_
 ·intro i j u v s1 Q1 E1 tt pu pv q
  obtain⟨a,ia,rfl,_,ta,na⟩:=tt i u (by simpa using pu)
  obtain⟨b,ib,rfl,_,tb,nb⟩:=tt j v (by simpa using pv)
  exact HT.PH ta tb na nb hu q
 ·intro h1 h2 kp tt i u e
  obtain⟨a,ia,rfl,la,⟨o1,e1,r1⟩,na⟩:=tt i u e
  refine⟨a,ia,rfl,la,⟨o1,kp a o1 (by rw[List.mem_singleton];exact Nat.ne_of_lt la) (by rw[sz];exact Nat.ne_of_lt (Nat.lt_succ_of_lt la)) e1,r1⟩,na⟩
 ·rw[sz,List.mem_cons,List.mem_singleton,not_or]
  exact⟨Nat.ne_of_gt (Nat.lt_succ_self _),Nat.ne_of_gt (Nat.lt_succ_of_lt lt)⟩
 ·intro i u e
  obtain⟨a,ia,rfl,la,⟨o1,e1,r1⟩,na⟩:=ht i u e
  exact⟨a,ia,rfl,la,⟨o1,Heap.get?_push_of_some _ (Heap.get?_push_of_some _ e1),r1⟩,na⟩
 ·refine h u h' tk ?_ fun b o e=>?_
  ·rw[List.size_toArray]at hu'
   by_cases z:vs.length=0
   ·rw[if_pos z]at hu' ⊢; exact hu'
   ·rw[if_neg z]at hu' ⊢; simpa using hu'
  ·have lb:=Heap.lt_size e
   exact hk b o (by rw[List.mem_singleton];exact Nat.ne_of_lt lb) (by rw[sz];exact Nat.ne_of_lt (Nat.lt_succ_of_lt lb)) (Heap.get?_push_of_some _ (Heap.get?_push_of_some _ e))
end
noncomputable def tMn(K:PySem.W.Frag)(ta:TA)(tb:TE):TE:=fun σ H Q=>ta σ H fun vs H1=>tb σ H1 fun y H2=>∃(l:Addr) (xs:List V) (nss:List (List Int)),vs=[.ref l]/\H2 l=some (.lst xs)/\(∀(i:Nat) (v:V),xs[i]?=some v->∃a,v=.ref a/\SqT K H2 a ((nss.getD i []).map V.int))/\
 Q (match xs with| []=>y|_=>xs.getD (argBest (Pg nss) (xs.length-1)) .non) H2
theorem bT{X:Cx}{a b:Expr}{ta:TA}{tb:TE}{p pos kp:Pos}(hc:X.calm=true)(hu:X.A.units+100<cLine)(hg:Gl X "min")(hm:X.mg "min"=none)(ha:PA X [a] ta)(hb:PE X b tb)(hs:backTo pos (starEach [a] X.env)=(false,eval a X.env)::backTo pos (starEach [] X.env):=by rfl)
    (hp:(backTo pos (starEach [a] X.env)).any (·.1)=false:=by rfl):PE X (.Call (.Name "min" p) [a] [⟨some "default",b,kp⟩] pos) (tMn X.K ta tb):=by
  intro pins s σ H Q I h
  refine wpAny_Call_Name_kw (JP I hg hm PyProof.Rows.boot_min ?_ (by decide) (by decide))
  refine PyProof.Rows.callWith_kw (thn (ha pos pins s σ H _ I h) fun us s1 ⟨vs,H1,I1,r1,q1⟩=>PyProof.Rows.kws_cons (thn (hb pins s1 σ H1 _ I1 q1) fun u s2 ⟨y,H2,I2,r2,q2⟩=>PyProof.Rows.kws_nil ?_)) hs hp
  obtain⟨l,xs,nss,e,hl,ht,q⟩:=q2
  subst e
  cases r1 with
  | cons r rr =>
    cases rr
    cases r
    obtain⟨its,rv,o,n,eo,ho,hd⟩:=Gx I2 (.inl hl)
    have hlen:=rv.length
    refine UY (vs:=its) (nss:=nss) (I2.ok.hd hc) (show X.A.units+1<cLine by omega) ⟨o,eo,ho,n,hd⟩ ?_ fun v h' tk hv hk=>?_
    · intro i w ew
      have hi:i<xs.length:=by rw[hlen];exact(List.getElem?_eq_some_iff.mp ew).1
      obtain⟨w',ew',rw'⟩:=rv.get (List.getElem?_eq_getElem hi)
      rw[ew]at ew';cases ew'
      obtain⟨c,ec,hT⟩:=ht i _ (List.getElem?_eq_getElem hi)
      rw[ec]at rw'
      cases rw'
      obtain⟨its2,rv2,tp,_⟩:=I2.tuple hT
      exact⟨c,its2.toArray,rfl,tp.lt,tp,by simpa using OG rv2⟩
    · have I3 := I2.kept (t' := tk) hk
      cases xs with
      | nil =>
        have:its.length=0:=by simpa using hlen.symm
        rw[if_pos this]at hv
        subst hv
        exact⟨y,H2,I3,r2,q⟩
      | cons x xs =>
        have hn:¬its.length=0:=by rw[←hlen];simp
        rw[if_neg hn,←hlen]at hv
        have hi:argBest (Pg nss) ((x::xs).length-1)<(x::xs).length:=Nat.lt_of_lt_of_eq (List.getElem?_eq_some_iff.mp hv).1 hlen.symm
        obtain⟨w',ew',rw'⟩:=rv.get (List.getElem?_eq_getElem hi)
        rw[hv]at ew';cases ew'
        refine⟨_,H2,I3,rw',?_⟩
        have eg:(x::xs).getD (argBest (Pg nss) ((x::xs).length-1)) .non=(x::xs)[argBest (Pg nss) ((x::xs).length-1)]:=by rw[List.getD_eq_getElem?_getD,List.getElem?_eq_getElem hi];rfl
        rw[←eg]
        exact q
noncomputable def tupI:D->Option (List Int)
 | .tup es=>Hc es
 |_=>none
noncomputable def V7(u:D)(nss:List (List Int)):List D->D
 | []=>u
 |d::ds=>(d::ds).getD (argBest (Pg nss) ((d::ds).length-1)) .non
noncomputable def mnK(p q:D×Sto):Option (D×Sto):=match p.1 with
 | .lst ds=>(Vb tupI ds).map fun nss=>(V7 q.1 nss ds,q.2)
 |_=>none
noncomputable def eMn(fa fb:Ev):Ev:=fun E S=>(fa E S).bind fun p=>(fb E p.2).bind fun q=>mnK p q
section
variable{K:PySem.W.Frag}{M:Ms}{H:Hp}
theorem NH:∀{xs:List V} {ds:List D} {nss:List (List Int)},Ai K M H xs ds->Vb tupI ds=some nss->∀(i:Nat) (v:V),xs[i]?=some v->∃a,v=.ref a/\SqT K H a ((nss.getD i []).map V.int)
  |_,_,_,.nil,_,i,v,e=>by simp at e
  | _, _, _, .cons h t, em, i, v, e => by
    obtain⟨ns,e1,em⟩:=A8 em
    obtain⟨nss,e2,em⟩:=Il em
    cases em
    cases i with
    | zero =>
      simp at e
      subst e
      cases h with
      | tup hq rs =>
        have:=Fy rs e1
        subst this
        exact⟨_,rfl,by simpa using hq⟩
      |_=>cases e1
    | succ i =>
      simp at e
      simpa using NH t e2 i v e
theorem MY:∀{xs:List V} {ds:List D},Ai K M H xs ds->∀k:Nat,Cw K M H (xs.getD k .non) (ds.getD k .non)
 |_,_,.nil,k=>by simp;exact .non
 |_,_,.cons h t,0=>by simpa using h
 |_,_,.cons h t,k+1=>by simpa using MY t k
end
theorem bM {X : Cx} {a b : Expr} {oa ob : Ev} {p pos kp : Pos} (hc : X.calm = true) (hu : X.A.units + 100 < cLine) (hg : Gl X "min") (hm : X.mg "min" = none) (ha : DEs X [a] [oa]) (hb : DE X b ob) (hs : backTo pos (starEach [a] X.env) = (false, eval a X.env) :: backTo pos (starEach [] X.env) := by rfl)
    (hp:(backTo pos (starEach [a] X.env)).any (·.1)=false:=by rfl):DE X (.Call (.Name "min" p) [a] [⟨some "default",b,kp⟩] pos) (eMn oa ob):=⟨
  Bm (bT hc hu hg hm ha.pe hb.pe hs hp) fun σ H Q z=>by
    obtain⟨M,E,S,d,S',e,r,st,q⟩:=z
    obtain⟨⟨w,S1⟩,e1,e⟩:=A8 e
    obtain⟨⟨u,S2⟩,e2,e3⟩:=A8 e
    have e1':evs [oa] E S=some ([w],S1):=by
      show(oa E S).bind (fun r=>(evs [] E r.2).map fun q=>(r.1::q.1,q.2))=_
      rw[e1];rfl
    refine GB e1' r st fun vs H1 M1 g1 st1 r1=>?_
    refine⟨M1,E,S1,u,S2,e2,r.step g1.st,st1,fun y H2 M2 g2 st2 r2=>?_⟩
    cases w with
    | lst ds =>
      obtain⟨nss,en,e4⟩:=Il (show(Vb tupI ds).map (fun nss=>(V7 u nss ds,S2))=some (d,S')from e3)
      cases r1 with
      | cons r1 rn =>
        cases rn
        have r1':=r1.step g2.st
        cases r1' with
        | lst h n rs =>
          rename_i a' xs
          refine⟨_,xs,nss,rfl,h,NH rs en,?_⟩
          cases rs with
          | nil =>
            cases e4
            exact q _ _ M2 (g1.trans g2) st2 r2
          | cons h1 t1 =>
            have hl:=(Ai.cons h1 t1).length
            cases e4
            show Q (List.getD _ (argBest (Pg nss) _) _) H2
            rw[hl]
            exact q _ _ M2 (g1.trans g2) st2 (MY (Ai.cons h1 t1) _)
    |_=>cases e3⟩
noncomputable def Yj:Op2:=fun a b=>match a,b with
 | .val (.tup xs),.val (.tup [])=>some (.val (.bl xs.isEmpty))
 |_,_=>none
theorem Xb {X : Cx} (hu : X.A.units + 100 < cLine) : OpR X (compareOp .Eq) (rOp X.K Yj) := by
  intro pins s σ H x y v u Q I rx ry h
  obtain⟨M,w1,w2,r,e,mo,s1,s2,q⟩:=h
  unfold Yj at e
  split at e
  · rename_i ds
    cases e
    cases s1 with
    | tup ha ra =>
      cases s2 with
      | tup hb rb =>
        cases rb
        cases rx
        cases ry
        obtain⟨its,r1,p1,_⟩:=I.tuple ha
        obtain⟨its2,r2,p2,_⟩:=I.tuple hb
        have e0:its2=[]:=by cases r2;rfl
        subst e0
        have l1:its.length=ds.length:=by rw[←r1.length,ra.length]
        refine(SeqAt.RcAt.tuples (e:=fun _=>true) p1 p2 (by omega) (fun j h1 h2=>absurd h2 (Nat.not_lt_zero j))) X.prog X.w X.xe _ ?_
        have e:((List.range (min its.toArray.size ([]:List Value).toArray.size)).all (fun _=>true) && its.toArray.size==([]:List Value).toArray.size)=ds.isEmpty:=by
          rw[List.size_toArray,l1]
          cases ds<;>simp
        rw[e]
        exact⟨.bl _,H,I,rfl,q _ _ (.same mo (.bl _))⟩
  ·cases e
end Mi
end
noncomputable section
namespace Mi
open PySem PySem.Spec L2 PyProof.Rows
section
variable{prog:Program}{w:World}{A:Around}{E:Value->Shared->Prop}{s:Shared}{l:Addr}{vs:List Value}
abbrev hpC(h:Heap)(vs:List Value):Heap:=(h.push (seqObj "list" #[] 0)).update h.objs.size (Obj.mapSeq (· ++vs.toArray))
theorem N1{Q:List Value->Shared->Prop}(hl:s.heap.IsTuple l vs.toArray)(hz:vs.length≤sizeLine)(h:Q vs {s with heap:=hpC s.heap vs}):wpAny (model prog w) A (collect (.ref l)) Q E s:=by
 obtain⟨o,ho,hc,n,hd⟩:=id hl
 have ho1:=Heap.get?_push_of_some (seqObj "list" #[] 0) ho
 have me:(s.heap.push (seqObj "list" #[] 0)).get? s.heap.objs.size=some (seqObj "list" #[] 0):=Heap.get?_push_size _ rfl
 unfold collect
 refine wpAny_bind (wpAny_runValue (codeAny_builtin entry_proto_collect' ?_))
 refine(show wpAny _ _ (do again (.builtin "list.__iadd__" ⟨[←newList [],.ref l],[]⟩)) _ _ s from wpAny_bind (wpAny_newList (wpAny_pure ⟨Code.quiet_builtin _ (by decide+kernel),codeAny_builtin entry_list_iadd' ?_⟩)))
 show wpAny _ _ (Builtin.List.listExtendWith (.ref s.heap.objs.size) (.ref l) (.ref s.heap.objs.size)) _ _ {s with heap:=s.heap.push (seqObj "list" #[] 0)}
 unfold Builtin.List.listExtendWith
 refine wpAny_bind (wpAny_typeOf (T:="tuple") ⟨o,ho1,hc⟩ ?_)
 have tt:(Value.type "tuple" ==Value.type "tuple")=true:=rfl
 rw[if_pos (by rw[tt];simp)]
 refine wpAny_bind (listItems_at ho1 hd (wpAny_bind (listItems_at me rfl ?_)))
 rw[if_neg (by simp)]
 refine wpAny_bind (listUpdate_at me rfl (wpAny_pure ?_) (Nat.zero_le _) (by show(#[]++vs.toArray).size≤sizeLine+1;simp only[Array.size_append,List.size_toArray,List.length_nil];omega))
 show wpAny (model prog w) A (do
   let o←load s.heap.objs.size
   match o.data with
   | .seq xs _=>pure xs.toList
   |_=>unsupported "internal:collect") Q E {s with heap:=hpC s.heap vs}
 refine wpAny_bind (wpAny_load (get?_update_seq me _) ?_)
 refine(show wpAny _ _ (pure ((#[]:Array Value)++vs.toArray).toList) Q E _ from ?_)
 rw[show((#[]:Array Value)++vs.toArray).toList=vs by simp]
 exact wpAny_pure h
theorem PM{ns:List Int}{Q:Value->Shared->Prop}(hl:s.heap.IsTuple l vs.toArray)(hI:IntsAre vs ns)(h64:vs.length<64)
  (h:∀(out:Array Value) (ms:List Int),IntsAre out.toList ms->ms.Perm ns->ms.Pairwise (· ≤ ·)->Q (.ref (s.heap.objs.size+1)) {s with heap:=sortedAll s.heap vs out}):
  wpAny (model prog w) A (call (.builtin "sorted") [.ref l]) Q E s:=by
 refine Calls.call_function_entry kind_sorted plain_sorted entry_sorted (args_sorted1 _) ?_
 unfold Builtin.«sorted»
 refine wpAny_bind (m:=checkCount "sorted" 1 1 _) (wpAny_pure (wpAny_bind (N1 hl (Nat.le_trans (Nat.le_of_lt h64) (by decide)) (wpAny_bind (wpAny_newList ?_)))))
 have sz:(hpC s.heap vs).objs.size=s.heap.objs.size+1:=by rw[Heap.size_update,size_push']
 have at1:((hpC s.heap vs).push (seqObj "list" vs.toArray 0)).get? (s.heap.objs.size+1)=some (seqObj "list" vs.toArray 0):=by
  rw[←sz];exact Heap.get?_push_size _ rfl
 show wpAny _ _ _ _ _ {s with heap:=(hpC s.heap vs).push (seqObj "list" vs.toArray 0)}
 rw[sz]
 refine wpAny_bind (wpAny_holding (wpAny_call_entry slot_list_sort ⟨_,at1,rfl⟩ entry_list_sort (list_sort_tree at1 hI h64 fun out ms a1 a2 a3=>⟨_,rfl,wpAny_pure ⟨_,rfl,h out ms a1 a2 a3⟩⟩) (args_list_sort _)))
end
end Mi
end
noncomputable section
namespace Mi
open PySem PySem.Spec L2
theorem NM{X:Cx}:Cy X (.builtin "sorted") (fun xs H Q=>∃(p:Addr) (ns:List Int),xs=[.ref p]/\SqT X.K H p (ns.map V.int)/\ns.length<64/\∀q,H q=none->Q (.ref q) (upd H q (.lst ((Ht ns).map V.int)))):=by
 intro pins s σ H xs us Q I r h
 obtain⟨p,ns,rfl,hp,h64,q⟩:=h
 obtain⟨u,rfl,ru⟩:=r.one
 cases (show u=Value.ref p from ru)
 obtain⟨its,rv,pl,hz⟩:=I.tuple hp
 have hlen:ns.length=its.length:=by have:=rv.length;simpa using this
 refine PM pl (intsAre_of rv) (by omega) fun out ns' a1 a2 a3=>?_
 obtain⟨e,he⟩:=PyProof.Rows.sortedAll_at s.heap its out
 have hn:H (s.heap.objs.size+1)=none:=I.hok.fresh (Nat.le_succ _)
 have hs:=Kz a2 a3
 subst hs
 refine⟨.ref _,_,I.laid (a:=s.heap.objs.size+1) (o:=.lst ((Ht ns).map V.int)) (t':=s.toks) (fun _ _=>PyProof.Rows.sortedAll_old) (Nat.le_succ _) ?_,rfl,q _ hn⟩
 refine⟨?_,out.toList,e,Fz a1,?_⟩
 ·rw[List.length_map,(Hv ns).length_eq]
  have:(64:Nat)≤sizeLine:=by decide
  omega
 ·rw[Array.toArray_toList];exact he
noncomputable def HH:Op1:=fun w=>match w with
 | .val (.tup ds)=>(Hc ds).bind fun ns=>if ns.length<64 then some (.own ((Ht ns).map D.int))else none
 |_=>none
theorem L9{X:Cx}:Cy X (.builtin "sorted") (rN X.K (o1 HH)):=by
  intro pins s σ H xs us Q I r h
  obtain⟨M,ws,w,e,mo,sh,q⟩:=h
  obtain⟨v,w1,rfl,rfl,s1,e1⟩:=FZ sh e
  unfold HH at e1
  split at e1
  · obtain ⟨ns, e3, e1⟩ := A8 e1
    split at e1
    · cases e1
      cases s1 with
      | tup h3 h4 =>
        exact NM pins s σ H _ us Q I r ⟨_,ns,rfl,by rw[←Fy h4 e3];exact h3,by assumption,fun p hp=>q _ _ (.lst mo hp He)⟩
    ·cases e1
  ·cases e1
section
open PyProof.Rows (boot_isinstance boot_int boot_bool boot_tuple boot_str boot_list boot_abs boot_all boot_any boot_sum boot_max boot_min boot_range boot_enumerate boot_zip boot_sorted boot_set boot_divmod)
noncomputable def Bw:D:=.tup [.str "bring",.str "pool",.str "swap",.str "trade"]
def ER:Ex:=(BS (Fc (eOp (o2 KG) [(eV 0),(eC (.ty "int"))]) (Kw (eOp (o2 KG) [(eV 0),(eC (.ty "bool"))]))))
def Cp:Fn:=BM (BQ 1 ER)
def FW:Ex:=(BS (Fc (AL Cp [(eV 0)]) (eOp (o2 wGe) [(eV 0),(eV 1)])))
def DX:Fn:=BM (BQ 2 FW)
def Dy:Ex:=(BS (Fc (AL DX [(eV 0),(eV 1)]) (eOp (o2 wLe) [(eV 0),(eV 2)])))
def Bg:Fn:=BM (BQ 3 Dy)
def Gf:Ex:=(BS (Fc (eOp (o2 wLt) [(eV 1),(eOp (o1 DK) [(eV 0)])]) (eOp (o2 wGe) [(eOp (o2 wIx) [(eOp (o2 wIx) [(eV 0),(eV 1)]),(eC (.int 1))]),(eV 2)])))
def By:Fn:=BM (BQ 3 Gf)
def IC:Ex:=(BS (Fc (AL By [(eV 0),(eV 1),(eC (.int 1))]) (Fc (AL By [(eV 0),(eV 2),(eC (.int 1))]) (eOp (o2 wEq) [(eOp (o2 wIx) [(eOp (o2 wIx) [(eV 0),(eV 1)]),(eC (.int 0))]),(eOp (o2 wIx) [(eOp (o2 wIx) [(eV 0),(eV 2)]),(eC (.int 0))])]))))
def EZ:Fn:=BM (BQ 3 IC)
def IZ:Ex:=(BS (Fc (AL By [(eV 0),(eV 1),(eV 2)]) (eOp (o2 wNe) [(eOp (o2 wIx) [(eOp (o2 wIx) [(eV 0),(eV 1)]),(eC (.int 0))]),(eV 3)])))
def De:Fn:=BM (BQ 4 IZ)
def Co:Ex:=(Aa (BP 3 (eOp (o2 wIx) [(eV 2),(eC (.int 0))]))
  (Aa (xIf (eOp (o2 wEq) [(eV 3),(eC (.str "pool"))]) (BS (AL EZ [(eV 0),(eOp (o2 wIx) [(eV 2),(eC (.int 1))]),(eOp (o2 wIx) [(eV 2),(eC (.int 2))])])) CZ)
  (Aa (xIf (eOp (o2 wEq) [(eV 3),(eC (.str "swap"))]) (BS (AL De [(eV 0),(eOp (o2 wIx) [(eV 2),(eC (.int 1))]),(eOp (o2 wIx) [(eV 2),(eC (.int 2))]),(eOp (o2 wIx) [(eV 2),(eC (.int 3))])])) CZ)
  (Aa (xIf (eOp (o2 wEq) [(eV 3),(eC (.str "trade"))]) (Aa (BP 4 (Ci [] 1 (GY (eV 1)) (tNm 0) (eOp (o2 wEq) [(eOp (o2 wIx) [(eV 0),(eC (.int 0))]),(eC (.str "trade"))]) (eOp (o2 wIx) [(eV 0),(eC (.int 1))])))
  (BS (Fc (eOp (o2 (wIn true)) [(eOp (o2 wIx) [(eV 2),(eC (.int 1))]),(eV 4)]) (AL De [(eV 0),(eOp (o2 wIx) [(eV 2),(eC (.int 2))]),(eOp (o2 wIx) [(eV 2),(eC (.int 3))]),(eOp (o2 wIx) [(eV 2),(eC (.int 4))])])))) CZ)
  (Aa (xIf (eOp (o2 (wIn false)) [(eV 3),(BN [(eC (.str "spoil")),(eC (.str "throw"))])]) (BS (AL By [(eV 0),(eOp (o2 wIx) [(eV 2),(eC (.int 1))]),(eOp (o2 wIx) [(eV 2),(eC (.int 2))])])) CZ)
  (BS (eC (.bl true))))))))
def Bz:Fn:=BM (BQ 5 Co)
def Fg:Ex:=(Aa (PR (tTp [(tNm 3),(tNm 4)]) (eOp (o2 wIx) [(eV 0),(eV 1)]))
  (BS (eOp (o2 Bi) [(eOp (o2 Bi) [(eOp (EN false true) [(eV 0),(eV 1)]),(C1 [(BN [(eV 3),(eOp (o2 Ic) [(eV 4),(eV 2)])])])]),(eOp (EN true false) [(eV 0),(eOp (o2 Bi) [(eV 1),(eC (.int 1))])])])))
def Bd:Fn:=BM (BQ 5 Fg)
def BW:Ex:=(Aa (BP 2 (eOp (o2 wIx) [(eV 1),(eC (.int 0))]))
  (Aa (xIf (eOp (o2 wEq) [(eV 2),(eC (.str "bring"))]) (BS (eOp (o2 Bi) [(eV 0),(C1 [(BN [(eOp (o2 wIx) [(eV 1),(eC (.int 2))]),(eOp (o2 wIx) [(eV 1),(eC (.int 3))])])])])) CZ)
  (Aa (xIf (eOp (o2 wEq) [(eV 2),(eC (.str "pool"))]) (Aa (PR (tTp [(tNm 3),(tNm 4)]) (eOp (o2 wIx) [(eV 0),(eOp (o2 wIx) [(eV 1),(eC (.int 1))])]))
  (Aa (BP 5 (eOp (o2 wIx) [(eOp (o2 wIx) [(eV 0),(eOp (o2 wIx) [(eV 1),(eC (.int 2))])]),(eC (.int 1))]))
  (BS (eOp (o2 Bi) [(AL Bd [(AL Bd [(eV 0),(eOp (o2 wIx) [(eV 1),(eC (.int 1))]),(eV 4)]),(eOp (o2 wIx) [(eV 1),(eC (.int 2))]),(eV 5)]),(C1 [(BN [(eV 3),(eOp (o2 Bi) [(eV 4),(eV 5)])])])])))) CZ)
  (Aa (xIf (eOp (o2 (wIn false)) [(eV 2),(BN [(eC (.str "swap")),(eC (.str "trade"))])]) (Aa (PR (tTp [(tNm 6),(tNm 7),(tNm 3),(tNm 8)]) (eOp (EN true false) [(eV 1),(eOp (o1 GZ) [(eC (.int 4))])]))
  (BS (eOp (o2 Bi) [(AL Bd [(eV 0),(eV 6),(eV 7)]),(C1 [(BN [(eV 3),(eV 8)])])]))) CZ)
  (Aa (xIf (eOp (o2 (wIn false)) [(eV 2),(BN [(eC (.str "spoil")),(eC (.str "throw"))])]) (BS (AL Bd [(eV 0),(eOp (o2 wIx) [(eV 1),(eC (.int 1))]),(eOp (o2 wIx) [(eV 1),(eC (.int 2))])])) CZ)
  (BS (eV 0)))))))
def Az:Fn:=BM (BQ 9 BW)
def Es:Ex:=(BS (Ci [] 1 (GY (eOp (o2 wIx) [(eV 0),(eC (.int 1))])) (tNm 0) DA (BN [(eOp (o2 wIx) [(eV 0),(eC (.int 0))]),(eOp (o2 wIx) [(eV 0),(eC (.int 1))])])))
def CT:Fn:=BM (BQ 1 Es)
def C2:Ex:=(Aa (BP 1 (eOp (o2 wIx) [(eV 0),(eC (.int 0))]))
  (Aa (xIf (eOp (o2 wEq) [(eV 1),(eC (.str "pool"))]) (BS (eOp (o1 L0) [(C1 [(eOp (o2 wIx) [(eV 0),(eC (.int 1))]),(eOp (o2 wIx) [(eV 0),(eC (.int 2))])])])) CZ)
  (Aa (xIf (eOp (o2 (wIn false)) [(eV 1),(BN [(eC (.str "swap")),(eC (.str "trade"))])]) (BS (C1 [(eOp (o2 wIx) [(eV 0),(eOp (o1 GZ) [(eC (.int 4))])])])) CZ)
  (BS (C1 [])))))
def Bv:Fn:=BM (BQ 2 C2)
def GC:Ex:=(Aa (BP 1 (AL CT [(eV 0)]))
  (Aa (BP 2 (eOp (o2 wIx) [(eV 0),(eC (.int 2))]))
  (Aa (IM (Rf (eV 2)) (tTp [(tNm 3),(tNm 4)]) (Aa (xIf (Kw (AL Bz [(eV 1),(eOp (EN false true) [(eV 2),(eV 3)]),(eV 4)])) (BS (eV 3)) CZ)
  (BP 1 (AL Az [(eV 1),(eV 4)]))))
  (BS (eC .non)))))
def DF:Fn:=BM (BQ 5 GC)
def Ep:Ex:=(Aa (BP 1 (AL DF [(eV 0)]))
  (xIf (eOp (o2 (ZZ true)) [(eV 1),(eC .non)]) Q8 CZ))
def Bl:Fn:=BM (BQ 2 Ep)
def FP:Ex:=(Aa (xIf (eOp (o2 wLt) [(eV 1),(eOp (o1 DK) [(eV 0)])]) (BS (eOp (o2 wIx) [(eV 0),(eV 1)])) CZ)
  (BS (eC (.int 0))))
def CS:Fn:=BM (BQ 2 FP)
def NA:Ex:=(BS (Cz [(eV 0),(eOp (o1 V1) [(eOp (o2 wGe) [(eV 0),(eOp (o2 Vy) [(eC (.int 10)),(eC (.int 18))])])]),(eC (.int 0)),(eOp (o2 Ot) [(eV 0),(eC (.int 1000000007))])]))
def F5:Fn:=BM (BQ 1 NA)
def GL:Ex:=(Aa (xIf (Fc (eOp (o2 wEq) [(eOp (o2 wIx) [(eV 0),(eC (.int 1))]),(eC (.int 1))]) (eOp (o2 wGt) [(eOp (o2 wIx) [(eV 0),(eC (.int 0))]),(eC (.int 0))])) (Aa (BP 2 (eOp (o2 Ot) [(eOp (o2 wIx) [(eV 0),(eC (.int 0))]),(eV 1)]))
  (Aa (Hz (eOp (o2 N3) [(eOp (o2 wIx) [(eV 0),(eC (.int 0))]),(eV 1)]) (eV 0) (eC (.int 0)))
  (BS (eV 2)))) CZ)
  (Aa (Hz (eOp (o2 Bi) [(eOp (o2 wIx) [(eV 0),(eC (.int 2))]),(eC (.int 1))]) (eV 0) (eC (.int 2)))
  (Aa (BP 3 (eOp (o2 Ot) [(eOp (o2 FK) [(eOp (o2 Bi) [(eOp (o2 wIx) [(eV 0),(eC (.int 3))]),(eC (.int 17))]),(eOp (o2 Bi) [(eC (.int 69621)),(eOp (o2 FK) [(eC (.int 2)),(eOp (o2 wIx) [(eV 0),(eC (.int 2))])])])]),(eC (.int 2147483647))]))
  (Aa (BP 3 (eOp (o2 Ot) [(eOp (o2 Bi) [(eOp (o2 Bi) [(eOp (o2 FK) [(eV 3),(eV 3)]),(eOp (o2 FK) [(eC (.int 40503)),(eOp (o2 wIx) [(eV 0),(eC (.int 2))])])]),(eC (.int 5))]),(eC (.int 2147483629))]))
  (BS (eOp (o2 Ot) [(eOp (o2 N3) [(eOp (o2 Ot) [(eOp (o2 FK) [(eV 3),(eC (.int 48271))]),(eC (.int 2147483647))]),(eC (.int 32))]),(eV 1)]))))))
def AG:Fn:=BM (BQ 4 GL)
def IQ:Ex:=(Aa (K4 (XJ 1) (eOp (o2 wGt) [(eV 1),(eC (.int 0))]) (Rg 0 1 (eV 1) (eOp (o2 Ot) [(eV 0),(eV 1)])))
  (BS (eV 0)))
def Ea:Fn:=BM (BQ 2 IQ)
def LJ:Ex:=(Aa (BP 2 (AL Ea [(eOp (o1 ZV) [(eV 0)]),(eV 1)]))
  (BS (BN [(eOp (o2 N3) [(eV 0),(eV 2)]),(eOp (o2 N3) [(eV 1),(eV 2)])])))
def Bj:Fn:=BM (BQ 3 LJ)
def LI:Ex:=(BS (AL Bj [(eOp (o2 Bi) [(eOp (o2 FK) [(eOp (o2 wIx) [(eV 0),(eC (.int 0))]),(eOp (o2 wIx) [(eV 1),(eC (.int 1))])]),(eOp (o2 FK) [(eOp (o2 wIx) [(eV 1),(eC (.int 0))]),(eOp (o2 wIx) [(eV 0),(eC (.int 1))])])]),(eOp (o2 FK) [(eOp (o2 wIx) [(eV 0),(eC (.int 1))]),(eOp (o2 wIx) [(eV 1),(eC (.int 1))])])]))
def B3:Fn:=BM (BQ 2 LI)
def Jf:Ex:=(BS (AL Bj [(eOp (o2 FK) [(eOp (o2 wIx) [(eV 0),(eC (.int 0))]),(eOp (o2 wIx) [(eV 1),(eC (.int 0))])]),(eOp (o2 FK) [(eOp (o2 wIx) [(eV 0),(eC (.int 1))]),(eOp (o2 wIx) [(eV 1),(eC (.int 1))])])]))
def Ay:Fn:=BM (BQ 2 Jf)
def K2:Ex:=(BS (AL B3 [(eV 0),(BN [(eOp (o2 Ic) [(eC (.int 0)),(eOp (o2 wIx) [(eV 1),(eC (.int 0))])]),(eOp (o2 wIx) [(eV 1),(eC (.int 1))])])]))
def Cr:Fn:=BM (BQ 2 K2)
def Gp:Ex:=(Aa (BP 2 (OV [0] 1 (ML [(eV 1)]) (tNm 1) DA (eOp (o2 wIx) [(C1 [(eC (.int 0)),(eC (.int 1)),(AL AG [(eV 0),(eC (.int 4))]),(AL AG [(eV 0),(eC (.int 9))])]),(AL AG [(eV 0),(eC (.int 4))])])))
  (Aa (xIf (eOp (o2 wEq) [(eOp (o1 Vc) [(eV 2)]),(eC (.int 0))]) (Hz (eC (.int 1)) (eV 2) (AL AG [(eV 0),(eV 1)])) CZ)
  (BS (eOp (o1 Du) [(Ci [2] 1 (GY (eV 2)) (tNm 1) DA (AL Bj [(eV 1),(eOp (o1 Vc) [(eV 0)])]))]))))
def Ck:Fn:=BM (BQ 3 Gp)
def F8:Ex:=(Aa (BP 1 (eOp (o2 Bi) [(eOp (o2 Vy) [(eC (.int 10)),(eC (.int 30))]),(AL AG [(eV 0),(eC (.int 99))])]))
  (BS (eOp (o2 wIx) [(C1 [(eOp (o2 Bi) [(eC (.int 1)),(AL AG [(eV 0),(eC (.int 4))])]),(eOp (o2 Bi) [(eC (.int 1)),(AL AG [(eV 0),(eC (.int 40))])]),(eOp (o2 Bi) [(eC (.int 1)),(AL AG [(eV 0),(eC (.int 999))])]),(eV 1)]),(eOp (o2 N3) [(AL AG [(eV 0),(eC (.int 7))]),(eC (.int 2))])])))
def BG:Fn:=BM (BQ 2 F8)
def J8:Ex:=(Aa (Rg 1 2 (eOp (o2 Bi) [(eC (.int 1)),(AL AG [(eV 0),(eC (.int 4))])]) (eOp (o2 Bi) [(eC (.int 1)),(AL AG [(eV 0),(eC (.int 5))])]))
  (Aa (BP 3 (eOp (o2 wIx) [(C1 [(eOp (o2 Bi) [(eC (.int 1)),(AL AG [(eV 0),(eC (.int 3))])]),(eOp (o2 Bi) [(eC (.int 1)),(AL AG [(eV 0),(eC (.int 20))])])]),(AL AG [(eV 0),(eC (.int 2))])]))
  (BS (BN [(eV 1),(eV 2),(eV 3),(AL Ck [(eV 0),(eV 1)]),(AL AG [(eV 0),(eC (.int 10))]),(AL AG [(eV 0),(eC (.int 10))])]))))
def FT:Fn:=BM (BQ 4 J8)
def Jw:Ex:=(Aa (BP 2 (Cz []))
  (Aa (IM (ML [(eOp (o2 wIx) [(C1 [(eC (.int 0)),(eC (.int 1)),(AL AG [(eV 0),(eC (.int 5))])]),(AL AG [(eV 0),(eC (.int 3))])])]) (tNm 3) (Bx (Fp F1 (eV 2) [(BN [(AL AG [(eV 0),(eOp (o2 wIx) [(eV 1),(eC (.int 1))])]),(AL BG [(eV 0)]),(AL Ck [(eV 0),(eOp (o2 wIx) [(eV 1),(eC (.int 0))])])])])))
  (BS (eOp (o1 Du) [(eV 2)]))))
def FF:Fn:=BM (BQ 4 Jw)
def Jq:Ex:=(Aa (BP 1 (eOp (o2 Bi) [(eC (.int 1)),(AL AG [(eV 0),(eC (.int 12))])]))
  (BS (AL Bj [(eOp (o2 Bi) [(eC (.int 1)),(AL AG [(eV 0),(eV 1)])]),(eV 1)])))
def EC:Fn:=BM (BQ 2 Jq)
def IE:Ex:=(BS (eOp (o1 Du) [(Ci [0] 1 (ML [(eV 1)]) (tNm 1) DA (eOp (o2 Bi) [(eC (.int 1)),(eOp (o2 wIx) [(C1 [(AL AG [(eV 0),(eC (.int 3))]),(AL AG [(eV 0),(eC (.int 99))])]),(AL AG [(eV 0),(eC (.int 2))])])]))]))
def Ct:Fn:=BM (BQ 2 IE)
def J1:Ex:=(BS (Cz [(OV [] 1 (GY (eOp (o2 wIx) [(eV 0),(eC (.int 1))])) (tNm 0) DA (Z5 (o1 Ie) [(eV 0)])),(eOp (o1 Du) [(eOp (o2 wIx) [(eOp (o2 wIx) [(eV 0),(eC (.int 0))]),(eC (.int 3))])]),(Cz [])]))
def FN:Fn:=BM (BQ 1 J1)
def II:Ex:=(Aa (BP 2 (Cz []))
  (Aa (IM (Uv (eOp (o2 wIx) [(eV 0),(eC (.int 2))]) (eOp (o2 wIx) [(eV 1),(eC (.int 2))])) (tTp [(tNm 3),(tNm 4)]) (Aa (BP 5 (AL B3 [(AL Ay [(BN [(eOp (o2 wIx) [(eV 0),(eC (.int 1))]),(eC (.int 1))]),(eV 3)]),(AL Ay [(BN [(eOp (o2 wIx) [(eV 1),(eC (.int 1))]),(eC (.int 1))]),(eV 4)])]))
  (Bx (Fp F1 (eV 2) [(AL Ay [(eV 5),(AL Bj [(eC (.int 1)),(eOp (o2 Bi) [(eOp (o2 wIx) [(eV 0),(eC (.int 1))]),(eOp (o2 wIx) [(eV 1),(eC (.int 1))])])])])]))))
  (BS (eOp (o1 Du) [(eV 2)]))))
def EV:Fn:=BM (BQ 6 II)
def K0:Ex:=(Aa (BP 3 (eOp (o2 wIx) [(eV 2),(eC (.int 3))]))
  (Aa (BP 4 (eOp (o2 Bi) [(eOp (o1 Vc) [(Ci [3] 3 (GY (eV 1)) (tTp [(tNm 1),(tNm 2),(tNm 3)]) DA (eOp (o2 FK) [(eV 2),(eOp (o2 wIx) [(eV 0),(eV 1)])]))]),(eOp (o2 FK) [(eOp (o2 wIx) [(eV 0),(eC (.int 2))]),(eOp (o2 wIx) [(eV 3),(eOp (o1 GZ) [(eC (.int 1))])])])]))
  (BS (AL Bj [(eOp (o2 FK) [(eOp (o2 wIx) [(eV 2),(eC (.int 2))]),(eOp (o2 wIx) [(eV 3),(eOp (o2 wIx) [(eOp (o2 wIx) [(eV 1),(eOp (o2 wIx) [(eV 2),(eC (.int 1))])]),(eC (.int 0))])])]),(eV 4)]))))
def GS:Fn:=BM (BQ 5 K0)
def Js:Ex:=(Aa (BP 3 (Cz []))
  (Aa (IM (Uv (eV 0) (eV 2)) (tTp [(tNm 4),(tNm 5)]) (Bx (Fp F1 (eV 3) [(AL B3 [(AL Ay [(eV 4),(AL Cr [(BN [(eC (.int 1)),(eC (.int 1))]),(eV 1)])]),(AL Ay [(eV 5),(eV 1)])])])))
  (BS (eOp (o1 Du) [(eV 3)]))))
def DL:Fn:=BM (BQ 6 Js)
def LM:Ex:=(Aa (BP 2 (Z5 (o1 Ie) [(eV 0)]))
  (Aa (BP 3 (AL Ay [(eOp (o2 wIx) [(eV 2),(eOp (o2 wIx) [(eV 1),(eC (.int 1))])]),(eOp (o2 wIx) [(eV 1),(eC (.int 3))])]))
  (Aa (Hz (AL Cr [(eOp (o2 wIx) [(eV 2),(eOp (o2 wIx) [(eV 1),(eC (.int 1))])]),(eV 3)]) (eV 2) (eOp (o2 wIx) [(eV 1),(eC (.int 1))]))
  (Aa (Hz (AL B3 [(eOp (o2 wIx) [(eV 2),(eOp (o2 wIx) [(eV 1),(eC (.int 2))])]),(eV 3)]) (eV 2) (eOp (o2 wIx) [(eV 1),(eC (.int 2))]))
  (BS (eOp (o1 Du) [(eV 2)]))))))
def D5:Fn:=BM (BQ 4 LM)
def Hm:Ex:=(Aa (PR (tTp [(tNm 3),(tNm 4),(tNm 5)]) (eV 1))
  (xIf (eOp (o2 wEq) [(eOp (o2 wIx) [(eV 2),(eC (.int 0))]),(eC (.str "throw"))]) (Aa (Rg 6 7 (AL GS [(eV 0),(eV 3),(eV 2)]) (eOp (o2 wIx) [(eOp (o2 wIx) [(eV 3),(eOp (o2 wIx) [(eV 2),(eC (.int 1))])]),(eC (.int 2))]))
  (Aa (Hz (eOp (o2 Ic) [(eOp (o2 wIx) [(eOp (o2 wIx) [(eV 3),(eOp (o2 wIx) [(eV 2),(eC (.int 1))])]),(eC (.int 1))]),(eOp (o2 wIx) [(eV 2),(eC (.int 2))])]) (eOp (o2 wIx) [(eV 3),(eOp (o2 wIx) [(eV 2),(eC (.int 1))])]) (eC (.int 1)))
  (Aa (IM (GY (eV 3)) (tNm 8) (Hz (AL DL [(eOp (o2 wIx) [(eV 8),(eC (.int 2))]),(eV 6),(eV 7)]) (eV 8) (eC (.int 2))))
  (Hz (AL DL [(eV 4),(eV 6),(eV 7)]) (eV 1) (eC (.int 1)))))) (Aa (IM (GY (eV 3)) (tNm 8) (Hz (AL D5 [(eOp (o2 wIx) [(eV 8),(eC (.int 2))]),(eV 2)]) (eV 8) (eC (.int 2))))
  (Hz (AL D5 [(eV 4),(eV 2)]) (eV 1) (eC (.int 1))))))
def D6:Fn:=BM (BQ 9 Hm)
def EU:Ex:=(Aa (PR (tTp [(tNm 3),(tNm 4),(tNm 5)]) (eV 1))
  (Aa (BP 6 (eOp (o2 wIx) [(eV 2),(eC (.int 0))]))
  (xIf (eOp (o2 wEq) [(eV 6),(eC (.str "bring"))]) (Bx (Fp F1 (eV 3) [(Cz [(eOp (o2 wIx) [(eV 2),(eC (.int 2))]),(eOp (o2 wIx) [(eV 2),(eC (.int 3))]),(eOp (o1 Du) [(Ci [2] 1 (ML [(eOp (o2 wIx) [(eV 0),(eC (.int 0))])]) (tNm 1) DA (BN [(eOp (o1 V1) [(eOp (o2 wEq) [(eV 1),(eOp (o2 wIx) [(eV 0),(eC (.int 1))])])]),(eC (.int 1))]))])])])) (xIf (eOp (o2 wEq) [(eV 6),(eC (.str "pool"))]) (Aa (Rg 7 8 (eOp (o2 wIx) [(eV 3),(eOp (o2 wIx) [(eV 2),(eC (.int 1))])]) (eOp (o2 wIx) [(eV 3),(eOp (o2 wIx) [(eV 2),(eC (.int 2))])]))
  (Aa (Bx (Fp F1 (eV 3) [(Cz [(eOp (o2 wIx) [(eV 7),(eC (.int 0))]),(eOp (o2 Bi) [(eOp (o2 wIx) [(eV 7),(eC (.int 1))]),(eOp (o2 wIx) [(eV 8),(eC (.int 1))])]),(AL EV [(eV 7),(eV 8)])])]))
  (Aa (Hz (eC (.int 0)) (eV 7) (eC (.int 1)))
  (Hz (eC (.int 0)) (eV 8) (eC (.int 1)))))) (xIf (eOp (o2 (wIn false)) [(eV 6),(BN [(eC (.str "swap")),(eC (.str "trade"))])]) (Aa (PR (tTp [(tNm 9),(tNm 10),(tNm 11),(tNm 12)]) (eOp (EN true false) [(eV 2),(eOp (o1 GZ) [(eC (.int 4))])]))
  (Aa (Hz (eOp (o2 Ic) [(eOp (o2 wIx) [(eOp (o2 wIx) [(eV 3),(eV 9)]),(eC (.int 1))]),(eV 10)]) (eOp (o2 wIx) [(eV 3),(eV 9)]) (eC (.int 1)))
  (Aa (Bx (Fp F1 (eV 3) [(Cz [(eV 11),(eV 12),(eOp (o2 wIx) [(eOp (o2 wIx) [(eV 3),(eV 9)]),(eC (.int 2))])])]))
  (Bx (Fp Z1 (eV 5) [(eOp (o2 FK) [(eOp (EN true true) [(eV 2),(eC (.int 1)),(eC (.int 2))]),(eOp (o1 V1) [(eOp (o2 wEq) [(eV 6),(eC (.str "trade"))])])])]))))) (xIf (eOp (o2 wEq) [(eV 6),(eC (.str "spoil"))]) (Hz (eOp (o2 Ic) [(eOp (o2 wIx) [(eOp (o2 wIx) [(eV 3),(eOp (o2 wIx) [(eV 2),(eC (.int 1))])]),(eC (.int 1))]),(eOp (o2 wIx) [(eV 2),(eC (.int 2))])]) (eOp (o2 wIx) [(eV 3),(eOp (o2 wIx) [(eV 2),(eC (.int 1))])]) (eC (.int 1))) (Bx (AL D6 [(eV 0),(eV 1),(eV 2)]))))))))
def Bp:Fn:=BM (BQ 13 EU)
def K8:Ex:=(Aa (PR (tTp [(tNm 3),(tNm 4),(tNm 5)]) (eV 2))
  (Aa (BP 6 (Ci [] 2 (Rf (eV 3)) (tTp [(tNm 0),(tNm 1)]) (eOp (o2 wGt) [(eOp (o2 wIx) [(eV 1),(eC (.int 1))]),(eC (.int 0))]) (eV 0)))
  (Aa (BP 7 (AL AG [(eV 0),(eC (.int 12))]))
  (Aa (xIf (eOr (eOp (o2 wLt) [(eV 7),(eC (.int 2))]) (eOp (o2 wEq) [(eV 6),(C1 [])])) (BS (BN [(eC (.str "bring")),(AL AG [(eV 0),(eOp (o2 wIx) [(eV 1),(eC (.int 0))])]),(AL AG [(eV 0),(eOp (o2 wIx) [(eV 1),(eC (.int 1))])]),(AL BG [(eV 0)])])) CZ)
  (Aa (BP 8 (eOp (o2 wIx) [(eV 6),(AL AG [(eV 0),(eOp (o1 DK) [(eV 6)])])]))
  (Aa (BP 9 (eOp (o2 Bi) [(eC (.int 1)),(AL AG [(eV 0),(eOp (o2 XQ) [(eOp (o2 wIx) [(eOp (o2 wIx) [(eV 3),(eV 8)]),(eC (.int 1))]),(eC (.int 2000))])])]))
  (Aa (xIf (eOp (o2 wLt) [(eV 7),(eC (.int 5))]) (Aa (BP 10 (Ci [3,8] 1 (GY (eV 6)) (tNm 2) (Fc (eOp (o2 wNe) [(eV 2),(eV 1)]) (eOp (o2 wEq) [(eOp (o2 wIx) [(eOp (o2 wIx) [(eV 0),(eV 2)]),(eC (.int 0))]),(eOp (o2 wIx) [(eOp (o2 wIx) [(eV 0),(eV 1)]),(eC (.int 0))])])) (eV 2)))
  (xIf (eOp (o2 wNe) [(eV 10),(C1 [])]) (BS (BN [(eC (.str "pool")),(eV 8),(eOp (o2 wIx) [(eV 10),(AL AG [(eV 0),(eOp (o1 DK) [(eV 10)])])])])) CZ)) CZ)
  (Aa (xIf (Fc (eOp (o2 wLt) [(eV 7),(eC (.int 8))]) (eOp (o2 wGt) [(eOp (o2 wIx) [(eV 1),(eC (.int 1))]),(eC (.int 1))])) (Aa (BP 11 (eOp (o2 Ot) [(eOp (o2 Bi) [(eOp (o2 Bi) [(eOp (o2 wIx) [(eOp (o2 wIx) [(eV 3),(eV 8)]),(eC (.int 0))]),(eC (.int 1))]),(AL AG [(eV 0),(eOp (o2 Ic) [(eOp (o2 wIx) [(eV 1),(eC (.int 1))]),(eC (.int 1))])])]),(eOp (o2 wIx) [(eV 1),(eC (.int 1))])]))
  (Aa (BP 12 (Ci [5] 1 (ML [(eC (.int 10))]) (tNm 1) (eOp (o2 (wIn true)) [(eV 1),(eV 0)]) (eV 1)))
  (Aa (xIf (Fc (eOp (o2 wEq) [(eV 7),(eC (.int 7))]) (eOp (o2 wNe) [(eV 12),(C1 [])])) (BS (BN [(eC (.str "trade")),(eOp (o2 wIx) [(eV 12),(AL AG [(eV 0),(eOp (o1 DK) [(eV 12)])])]),(eV 8),(eV 9),(eV 11),(AL BG [(eV 0)])])) CZ)
  (BS (BN [(eC (.str "swap")),(eV 8),(eV 9),(eV 11),(AL BG [(eV 0)])]))))) CZ)
  (Aa (xIf (eOp (o2 wEq) [(eV 7),(eC (.int 8))]) (BS (BN [(eC (.str "spoil")),(eV 8),(eV 9)])) CZ)
  (Aa (xIf (Fc (eOp (o2 wEq) [(eV 7),(eC (.int 9))]) (eOp (o2 wGt) [(eOp (o2 wIx) [(eV 1),(eC (.int 0))]),(eC (.int 1))])) (Aa (BP 13 (AL AG [(eV 0),(eOp (o2 wIx) [(eV 1),(eC (.int 0))])]))
  (BS (BN [(eC (.str "sell")),(eV 13),(eOp (o2 Ot) [(eOp (o2 Bi) [(eOp (o2 Bi) [(eV 13),(eC (.int 1))]),(AL AG [(eV 0),(eOp (o2 Ic) [(eOp (o2 wIx) [(eV 1),(eC (.int 0))]),(eC (.int 1))])])]),(eOp (o2 wIx) [(eV 1),(eC (.int 0))])]),(AL EC [(eV 0)])]))) CZ)
  (BS (BN [(eC (.str "throw")),(eV 8),(eV 9),(AL Ct [(eV 0),(eOp (o2 Bi) [(eOp (o2 wIx) [(eV 1),(eC (.int 1))]),(eC (.int 1))])])]))))))))))))
def Cs:Fn:=BM (BQ 14 K8)
def Ko:Ex:=(Aa (BP 2 (AL FT [(eV 0)]))
  (Aa (BP 3 (AL FF [(eV 0),(eV 2)]))
  (Aa (Rg 4 5 (AL FN [(BN [(eV 2),(eV 3),(BN [])])]) (Cz []))
  (Aa (IM (ML [(AL AG [(eV 0),(eOp (o2 Bi) [(eV 1),(eC (.int 1))])])]) (tNm 6) (Aa (BP 7 (AL Cs [(eV 0),(eV 2),(eV 4)]))
  (xIf (eOr (eOp (o2 wNe) [(eOp (o2 wIx) [(eV 7),(eC (.int 0))]),(eC (.str "throw"))]) (eOp (o2 wLt) [(eOp (o1 DK) [(Ci [] 1 (GY (eV 5)) (tNm 0) (eOp (o2 wEq) [(eOp (o2 wIx) [(eV 0),(eC (.int 0))]),(eC (.str "throw"))]) (eV 0))]),(eC (.int 3))])) (Aa (Bx (AL Bp [(eV 2),(eV 4),(eV 7)]))
  (Bx (Fp F1 (eV 5) [(eV 7)]))) CZ)))
  (BS (BN [(eV 2),(eV 3),(eOp (o1 Du) [(eV 5)])]))))))
def D3:Fn:=BM (BQ 8 Ko)
def F6:Ex:=(Aa (BP 3 (BN [(eV 2)]))
  (Aa (K4 (UW 70) (eOp (o2 wNe) [(eOp (o2 wIx) [(eV 1),(eOp (o2 wIx) [(eV 3),(eC (.int 0))])]),(C1 [])]) (Aa (BP 4 (eOp (o2 wIx) [(eV 1),(eOp (o2 wIx) [(eV 3),(eC (.int 0))])]))
  (BP 3 (eOp (o2 Bi) [(BN [(eOp (o2 wIx) [(eV 4),(AL AG [(eV 0),(eOp (o1 DK) [(eV 4)])])])]),(eV 3)]))))
  (BS (eV 3))))
def BE:Fn:=BM (BQ 5 F6)
def IW:Ex:=(Aa (xIf (eOr (Kw (eOp (o2 KG) [(eV 2),(eC (.ty "tuple"))])) (eOp (o2 Yj) [(eV 2),(BN [])])) (BS (eC (.bl false))) CZ)
  (Aa (IM (GY (eV 2)) (tNm 3) (xIf (eOr (Kw (eOp (o2 KG) [(eV 3),(eC (.ty "int"))])) (eOr (eOp (o2 KG) [(eV 3),(eC (.ty "bool"))]) (Kw (Kj (eC (.int 0)) (eV 3) (eOp (o1 DK) [(eV 0)]))))) (BS (eC (.bl false))) CZ))
  (Aa (xIf (eOr (eOp (o2 wNe) [(eOp (o2 wIx) [(eV 0),(eOp (o2 wIx) [(eV 2),(eC (.int 0))])]),(C1 [])]) (eOp (o2 wNe) [(eOp (o2 wIx) [(eV 2),(eOp (o1 GZ) [(eC (.int 1))])]),(eV 1)])) (BS (eC (.bl false))) CZ)
  (BS (eOp (o2 wEq) [(Ci [0] 2 (Uv (eV 2) (eOp (EN true false) [(eV 2),(eC (.int 1))])) (tTp [(tNm 1),(tNm 2)]) (eOp (o2 (wIn true)) [(eV 1),(eOp (o2 wIx) [(eV 0),(eV 2)])]) (eC (.int 1))),(C1 [])])))))
def BH:Fn:=BM (BQ 4 IW)
def HX:Ex:=(Aa (BP 1 (OV [] 1 (GY (eOp (o2 wIx) [(eV 0),(eC (.int 1))])) (tNm 0) DA (C1 [])))
  (Aa (IM (GY (eOp (o2 wIx) [(eV 0),(eC (.int 2))])) (tNm 2) (xIf (eOp (o2 wEq) [(eOp (o2 wIx) [(eV 2),(eC (.int 0))]),(eC (.str "bring"))]) (Bx (Fp F1 (eV 1) [(C1 [])])) (xIf (eOp (o2 wEq) [(eOp (o2 wIx) [(eV 2),(eC (.int 0))]),(eC (.str "pool"))]) (Bx (Fp F1 (eV 1) [(eOp (o1 HH) [(eOp (EN true true) [(eV 2),(eC (.int 1)),(eC (.int 3))])])])) (xIf (eOp (o2 (wIn false)) [(eOp (o2 wIx) [(eV 2),(eC (.int 0))]),(BN [(eC (.str "swap")),(eC (.str "trade"))])]) (Bx (Fp F1 (eV 1) [(C1 [(eOp (o2 wIx) [(eV 2),(eOp (o1 GZ) [(eC (.int 4))])])])])) CZ))))
  (BS (eV 1))))
def C4:Fn:=BM (BQ 3 HX)
def Gy:Ex:=(Aa (BP 1 (BN [(eC (.int 2)),(eC (.int 2)),(eC (.int 1)),(BN [(BN [(eC (.int 1)),(eC (.int 2))]),(BN [(eC (.int 1)),(eC (.int 2))])]),(eC (.int 0)),(eC (.int 0))]))
  (Aa (PR (tTp [(tNm 2),(tNm 3)]) (BN [(Cz [(BN [(eC (.str "bring")),(eC (.int 0)),(eC (.int 0)),(eC (.int 9))]),(BN [(eC (.str "bring")),(eC (.int 1)),(eC (.int 0)),(eC (.int 9))])]),(Cz [(Cz [(eC (.int 0)),(eC (.int 9))]),(Cz [(eC (.int 0)),(eC (.int 9))])])]))
  (Aa (IM (ML [(AL AG [(eV 0),(eC (.int 17))])]) (tNm 4) (Aa (BP 5 (Ci [] 2 (Rf (eV 3)) (tTp [(tNm 0),(tNm 1)]) (eOp (o2 wGt) [(eOp (o2 wIx) [(eV 1),(eC (.int 1))]),(eC (.int 0))]) (eV 0)))
  (Aa (BP 6 (eOp (o2 wIx) [(eV 5),(AL AG [(eV 0),(eOp (o1 DK) [(eV 5)])])]))
  (Aa (BP 7 (Ci [3,6] 1 (GY (eV 5)) (tNm 2) (Fc (eOp (o2 wNe) [(eV 2),(eV 1)]) (eOp (o2 wEq) [(eOp (o2 wIx) [(eOp (o2 wIx) [(eV 0),(eV 2)]),(eC (.int 0))]),(eOp (o2 wIx) [(eOp (o2 wIx) [(eV 0),(eV 1)]),(eC (.int 0))])])) (eV 2)))
  (xIf (Fc (eOp (o2 wNe) [(eV 7),(C1 [])]) (eOp (o2 wEq) [(AL AG [(eV 0),(eC (.int 2))]),(eC (.int 0))])) (Aa (BP 8 (eOp (o2 wIx) [(eV 7),(AL AG [(eV 0),(eOp (o1 DK) [(eV 7)])])]))
  (Aa (Bx (Fp F1 (eV 2) [(BN [(eC (.str "pool")),(eV 6),(eV 8)])]))
  (Aa (Bx (Fp F1 (eV 3) [(Cz [(eOp (o2 wIx) [(eOp (o2 wIx) [(eV 3),(eV 6)]),(eC (.int 0))]),(eOp (o2 Bi) [(eOp (o2 wIx) [(eOp (o2 wIx) [(eV 3),(eV 6)]),(eC (.int 1))]),(eOp (o2 wIx) [(eOp (o2 wIx) [(eV 3),(eV 8)]),(eC (.int 1))])])])]))
  (Aa (Hz (eC (.int 0)) (eOp (o2 wIx) [(eV 3),(eV 6)]) (eC (.int 1)))
  (Hz (eC (.int 0)) (eOp (o2 wIx) [(eV 3),(eV 8)]) (eC (.int 1))))))) (Aa (BP 9 (eOp (o2 Ic) [(eC (.int 1)),(eOp (o2 wIx) [(eOp (o2 wIx) [(eV 3),(eV 6)]),(eC (.int 0))])]))
  (Aa (BP 10 (eOp (o2 Bi) [(eC (.int 1)),(AL AG [(eV 0),(eOp (o2 wIx) [(eOp (o2 wIx) [(eV 3),(eV 6)]),(eC (.int 1))])])]))
  (Aa (Bx (Fp F1 (eV 2) [(BN [(eC (.str "swap")),(eV 6),(eV 10),(eV 9),(eOp (o2 Bi) [(eC (.int 2)),(AL AG [(eV 0),(eC (.int 5))])])])]))
  (Aa (Hz (eOp (o2 Ic) [(eOp (o2 wIx) [(eOp (o2 wIx) [(eV 3),(eV 6)]),(eC (.int 1))]),(eV 10)]) (eOp (o2 wIx) [(eV 3),(eV 6)]) (eC (.int 1)))
  (Bx (Fp F1 (eV 3) [(Cz [(eV 9),(eOp (o2 wIx) [(eOp (o2 wIx) [(eV 2),(eOp (o1 GZ) [(eC (.int 1))])]),(eC (.int 4))])])])))))))))))
  (BS (BN [(eV 1),(BN []),(eOp (o1 Du) [(eV 2)])])))))
def EE:Fn:=BM (BQ 11 Gy)
def Gq(rec:Fn):Ex:=(Aa (BP 2 (AL AG [(eV 0),(eC (.int 12))]))
  (Aa (xIf (eOr (eOp (o2 wLt) [(eV 2),(eC (.int 8))]) (eOp (o2 wEq) [(eV 1),(eC (.int 0))])) (BS (eOp (o2 wIx) [(C1 [(eC .non),(eC (.bl true)),(eC (.bl false)),(eC (.int 0)),(eC (.int 1)),(eOp (o1 GZ) [(eC (.int 1))]),(eC (.int 9)),(eOp (o2 Vy) [(eC (.int 10)),(eC (.int 39))]),(eC (.str "")),(eC (.str "a")),(BN []),(C1 [])]),(AL AG [(eV 0),(eC (.int 12))])])) CZ)
  (Aa (BP 3 (Ci [0,1] 1 (ML [(AL AG [(eV 0),(eC (.int 4))])]) (tNm 2) DA (AL rec [(eV 0),(eOp (o2 Ic) [(eV 1),(eC (.int 1))])])))
  (Aa (xIf (eOp (o2 wEq) [(eV 2),(eC (.int 8))]) (BS (eV 3)) CZ)
  (Aa (xIf (eOp (o2 wEq) [(eV 2),(eC (.int 9))]) (BS (XY [((eC (.str "a")),(eV 3))])) CZ)
  (BS (eOp (o1 Du) [(eV 3)])))))))
def Aw:Nat->Fn
 |0=>fun _ _=>none
 |n+1=>BM (BQ 4 (Gq (Aw n)))
def Di(rec:Fn):Ex:=(Aa (xIf (Fc (eOp (o2 KG) [(eV 1),(eC (.ty "tuple"))]) (Fc (eOp (o2 wNe) [(eV 1),(BN [])]) (eOp (o2 wGt) [(AL AG [(eV 0),(eC (.int 6))]),(eC (.int 0))]))) (Aa (BP 2 (AL AG [(eV 0),(eOp (o1 DK) [(eV 1)])]))
  (BS (eOp (o2 Bi) [(eOp (o2 Bi) [(eOp (EN false true) [(eV 1),(eV 2)]),(BN [(AL rec [(eV 0),(eOp (o2 wIx) [(eV 1),(eV 2)])])])]),(eOp (EN true false) [(eV 1),(eOp (o2 Bi) [(eV 2),(eC (.int 1))])])]))) CZ)
  (Aa (BP 3 (AL AG [(eV 0),(eC (.int 8))]))
  (Aa (xIf (Fc (eOp (o2 KG) [(eV 1),(eC (.ty "tuple"))]) (eOp (o2 wLt) [(eV 3),(eC (.int 4))])) (BS (eOp (o2 wIx) [(C1 [(eOp (o2 Bi) [(eV 1),(eOp (EN true false) [(eV 1),(eOp (o1 GZ) [(eC (.int 1))])])]),(eOp (EN false true) [(eV 1),(eOp (o1 GZ) [(eC (.int 1))])]),(eOp (o1 Ie) [(eV 1)]),(eOp (o1 Uq) [(eV 1)])]),(eV 3)])) CZ)
  (Aa (xIf (Fc (eOp (o2 KG) [(eV 1),(eC (.ty "int"))]) (eOp (o2 wLt) [(eV 3),(eC (.int 4))])) (BS (eOp (o2 wIx) [(C1 [(eOp (o2 Bi) [(eV 1),(eC (.int 1))]),(eOp (o2 Ic) [(eV 1),(eC (.int 1))]),(eOp (o2 wGt) [(eV 1),(eC (.int 0))]),(eOp (o1 X4) [(eV 1)])]),(eV 3)])) CZ)
  (Aa (xIf (Fc (eOp (o2 KG) [(eV 1),(eC (.ty "str"))]) (eOp (o2 wLt) [(eV 3),(eC (.int 4))])) (BS (eOp (o2 wIx) [(C1 [(eOp (o2 Bi) [(eV 1),(eC (.str "a"))]),(eOp (o1 wUp) [(eV 1)]),(eOp (EN false true) [(eV 1),(eOp (o1 GZ) [(eC (.int 1))])]),(eOp (o2 Bi) [(eC (.str "1")),(eV 1)])]),(eV 3)])) CZ)
  (BS (AL (Aw 8) [(eV 0),(eC (.int 2))])))))))
def BV:Nat->Fn
 |0=>fun _ _=>none
 |n+1=>BM (BQ 4 (Di (BV n)))
def Fx:Ex:=(Aa (Rg 1 2 (eOp (o2 wIx) [(eV 0),(eC (.int 1))]) (eOp (o2 wIx) [(eV 0),(eC (.int 2))]))
  (BS (eOp (o2 Bi) [(Ci [] 1 (GY (eV 1)) (tNm 0) DA (C1 [])),(Ci [] 1 (GY (eV 2)) (tNm 0) (eOp (o2 (wIn false)) [(eOp (o2 wIx) [(eV 0),(eC (.int 0))]),(eC Bw)]) (AL Bv [(eV 0)]))])))
def B1:Fn:=BM (BQ 3 Fx)
def Gi:Ex:=(BS (eOp (o2 Bi) [(eOp (o1 DK) [(eOp (o2 wIx) [(eV 0),(eC (.int 1))])]),(eOp (o1 DK) [(Ci [] 1 (GY (eOp (EN false true) [(eOp (o2 wIx) [(eV 0),(eC (.int 2))]),(eV 1)])) (tNm 0) (eOp (o2 (wIn false)) [(eOp (o2 wIx) [(eV 0),(eC (.int 0))]),(eC Bw)]) (eV 0))])]))
def Dd:Fn:=BM (BQ 2 Gi)
def ES:Ex:=(xIf (Kw (AL Bg [(eV 1),(eC (.int 0)),(eOp (o2 Ic) [(AL Dd [(eV 0),(eOp (o1 DK) [(eOp (o2 wIx) [(eV 0),(eC (.int 2))])])]),(eC (.int 1))])])) Q8 CZ)
def Ba:Fn:=BM (BQ 2 ES)
def Fs:Ex:=(Aa (Bx (AL Bl [(eV 0)]))
  (Aa (Bx (AL Ba [(eV 0),(eV 1)]))
  (Aa (BP 2 (Cz []))
  (Aa (IM (Rf (AL B1 [(eV 0)])) (tTp [(tNm 3),(tNm 4)]) (Aa (BP 5 (Ci [2,3] 1 (GY (eV 4)) (tNm 2) DA (eOp (o2 Bi) [(eOp (o2 wIx) [(eV 0),(eV 2)]),(BN [(eV 1)])])))
  (Bx (Fp F1 (eV 2) [(eMn (eV 5) (BN [(eV 3)]))]))))
  (BS (eOp (o2 wIx) [(eV 2),(eV 1)]))))))
def B0:Fn:=BM (BQ 6 Fs)
def CL:Ex:=(Aa (Bx (AL Bl [(eV 0)]))
  (Aa (Bx (AL Ba [(eV 0),(eV 1)]))
  (Aa (xIf (eOr (Kw (eOp (o2 KG) [(eV 2),(eC (.ty "tuple"))])) (eOp (o2 wEq) [(eOp (o1 DK) [(eV 2)]),(eC (.int 0))])) (BS (eC (.bl false))) CZ)
  (Aa (BP 3 (AL B1 [(eV 0)]))
  (Aa (xIf (Kw (eOp (o1 Ym) [(Ci [3] 1 (GY (eV 2)) (tNm 1) DA (AL Bg [(eV 1),(eC (.int 0)),(eOp (o2 Ic) [(eOp (o1 DK) [(eV 0)]),(eC (.int 1))])]))])) (BS (eC (.bl false))) CZ)
  (Aa (xIf (eOr (eOp (o2 wNe) [(eOp (o2 wIx) [(eV 2),(eOp (o1 GZ) [(eC (.int 1))])]),(eV 1)]) (eOp (o2 wGt) [(eOp (o1 DK) [(eOp (o2 wIx) [(eV 3),(eOp (o2 wIx) [(eV 2),(eC (.int 0))])])]),(eC (.int 0))])) (BS (eC (.bl false))) CZ)
  (BS (eOp (o1 Ym) [(Ci [3] 2 (Uv (eV 2) (eOp (EN true false) [(eV 2),(eC (.int 1))])) (tTp [(tNm 1),(tNm 2)]) DA (eOp (o2 (wIn false)) [(eV 1),(eOp (o2 wIx) [(eV 0),(eV 2)])]))]))))))))
def Ap:Fn:=BM (BQ 4 CL)
def Qx:Ex:=(Aa (IM (ML [(eOp (o2 aW) [(eC (.int 1)),(eOp (o2 XQ) [(eOp (o1 DK) [(eV 0)]),(eC (.int 2))])])]) (tNm 1) (Aa (BP 2 (AL F5 [(AL CS [(eV 0),(eV 1)])]))
  (IM (GY (BN [(AL D3 [(eV 2),(eC (.int 14))]),(AL EE [(eV 2)])])) (tNm 3) (Aa (BP 4 (AL C4 [(eV 3)]))
  (IM (ML [(eOp (o1 DK) [(eV 4)])]) (tNm 5) (Aa (BP 6 (AL BE [(eV 2),(eV 4),(eV 5)]))
  (Aa (BP 7 (C1 [(eV 6),(eOp (EN true false) [(eV 6),(eC (.int 1))]),(eOp (EN false true) [(eV 6),(eOp (o1 GZ) [(eC (.int 1))])]),(eOp (o1 Uq) [(eV 6)]),(eOp (o1 Ie) [(eV 6)]),(eOp (o2 Bi) [(eV 6),(BN [(eV 5)])]),(BN [(eV 5)]),(BN [])]))
  (Aa (BP 7 (eOp (o2 Bi) [(eV 7),(C1 [(AL (BV 8) [(eV 2),(eV 6)]),(eOp (o2 Bi) [(eOp (EN false true) [(eV 6),(eC (.int 1))]),(eOp (EN true false) [(eV 6),(eC (.int 2))])]),(eOp (o2 Bi) [(BN [(eC (.int 0))]),(eV 6)]),(AL (Aw 8) [(eV 2),(eC (.int 2))])])]))
  (Aa (BP 8 (AL BE [(eV 2),(eV 4),(AL AG [(eV 2),(eOp (o1 DK) [(eV 4)])])]))
  (Aa (IM (GY (eOp (o2 Bi) [(eV 7),(C1 [(eV 8),(eOp (o2 Bi) [(eOp (EN false true) [(eV 8),(eOp (o1 GZ) [(eC (.int 1))])]),(BN [(eV 5)])])])])) (tNm 9) (Aa (BP 10 (AL Ap [(eV 3),(eV 5),(eV 9)]))
  (xIf (eOr (Kw (eOp (o2 KG) [(eV 10),(eC (.ty "bool"))])) (eOp (o2 wNe) [(eV 10),(AL BH [(eV 4),(eV 5),(eV 9)])])) (BS (eC (.bl false))) CZ)))
  (xIf (Kw (AL Ap [(eV 3),(eV 5),(AL B0 [(eV 3),(eV 5)])])) (BS (eC (.bl false))) CZ)))))))))))
  (BS (eC (.bl true))))
def L4:Fn:=BM (BQ 11 Qx)
end
section
open PyProof.Rows (boot_isinstance boot_int boot_bool boot_tuple boot_str boot_list boot_abs boot_all boot_any boot_sum boot_max boot_min boot_range boot_enumerate boot_zip boot_sorted boot_set boot_divmod)
noncomputable def top(i:Nat):Stmt:=PySem.Challenge.pw_sharetrail_k28_chains_looked_at.main.body.getD i (.Pass ⟨0,0,0,0⟩)
abbrev s_p_is_whole:Stmt:=top 1
abbrev s_p_is_from:Stmt:=top 2
abbrev s_p_is_within:Stmt:=top 3
abbrev s_p_has_pieces:Stmt:=top 10
abbrev s_p_can_pool:Stmt:=top 11
abbrev s_p_can_swap:Stmt:=top 12
abbrev s_p_can_do:Stmt:=top 13
abbrev s_p_held_without:Stmt:=top 14
abbrev s_p_held_behind:Stmt:=top 15
abbrev s_p_held_at_first:Stmt:=top 16
abbrev s_p_made_from:Stmt:=top 17
abbrev s_p_first_wrong:Stmt:=top 18
abbrev s_p_refuse_undone:Stmt:=top 19
abbrev s_p_many_loads:Stmt:=top 20
abbrev s_p_refuse_no_load:Stmt:=top 21
abbrev s_p_all_sources:Stmt:=top 23
abbrev s_p_is_chain:Stmt:=top 24
abbrev s_p_first_chain:Stmt:=top 25
abbrev s_law_cell_at:Stmt:=top 27
abbrev s_law_pen:Stmt:=top 28
abbrev s_law_draw:Stmt:=top 29
abbrev s_law_common:Stmt:=top 30
abbrev s_law_made:Stmt:=top 31
abbrev s_law_plus:Stmt:=top 32
abbrev s_law_times:Stmt:=top 33
abbrev s_law_less:Stmt:=top 34
abbrev s_law_whole:Stmt:=top 36
abbrev s_law_pieces:Stmt:=top 37
abbrev s_law_train:Stmt:=top 38
abbrev s_law_first:Stmt:=top 39
abbrev s_law_share:Stmt:=top 40
abbrev s_law_worths:Stmt:=top 41
abbrev s_law_begun:Stmt:=top 42
abbrev s_law_pooled:Stmt:=top 45
abbrev s_law_cost:Stmt:=top 46
abbrev s_law_borne:Stmt:=top 47
abbrev s_law_sold:Stmt:=top 48
abbrev s_law_turn:Stmt:=top 49
abbrev s_law_do:Stmt:=top 50
abbrev s_law_deed:Stmt:=top 51
abbrev s_law_book:Stmt:=top 52
abbrev s_law_parents:Stmt:=top 54
abbrev s_law_pooly:Stmt:=top 56
abbrev s_law_thing:Stmt:=top 57
abbrev s_law_spoilt:Stmt:=top 58
abbrev s_law_is_one:Stmt:=top 59
abbrev s_law_any_chain:Stmt:=top 60
abbrev s_p_law:Stmt:=top 61
section
variable(P:Program)(w:World)(K:PySem.W.Frag)(mg:Str->Option Value)(base:Heap)
abbrev IY:Prop:=St.Dfn P w K mg base "is_whole" 1 ["thing"] (spD K 1 Cp)
abbrev JT:Prop:=St.Dfn P w K mg base "is_from" 2 ["thing","low"] (spD K 2 DX)
abbrev Fb:Prop:=St.Dfn P w K mg base "is_within" 3 ["thing","low","high"] (spD K 3 Bg)
abbrev DZ:Prop:=St.Dfn P w K mg base "has_pieces" 1 ["held","load","pieces"] (spD K 3 By)
abbrev IT:Prop:=St.Dfn P w K mg base "can_pool" 2 ["held","load","other"] (spD K 3 EZ)
abbrev Ib:Prop:=St.Dfn P w K mg base "can_swap" 2 ["held","load","given","kind"] (spD K 4 De)
abbrev K7:Prop:=St.Dfn P w K mg base "can_do" 3 ["held","done","deed"] (spD K 3 Bz)
abbrev Fe:Prop:=St.Dfn P w K mg base "held_without" 1 ["held","load","pieces"] (spD K 3 Bd)
abbrev GJ:Prop:=St.Dfn P w K mg base "held_behind" 2 ["held","deed"] (spD K 2 Az)
abbrev E9:Prop:=St.Dfn P w K mg base "held_at_first" 1 ["book"] (spD K 1 CT)
abbrev HC:Prop:=St.Dfn P w K mg base "made_from" 1 ["deed"] (spD K 1 Bv)
abbrev GG:Prop:=St.Dfn P w K mg base "first_wrong" 4 ["book"] (spD K 1 DF)
abbrev DP:Prop:=St.Dfn P w K mg base "refuse_undone" 5 ["book"] (spD K 1 Bl)
abbrev Ga:Prop:=St.Dfn P w K mg base "many_loads" 1 ["book","many"] (spD K 2 Dd)
abbrev DB:Prop:=St.Dfn P w K mg base "refuse_no_load" 4 ["book","load"] (spD K 2 Ba)
abbrev EH:Prop:=St.Dfn P w K mg base "all_sources" 2 ["book"] (spD K 1 B1)
abbrev IB:Prop:=St.Dfn P w K mg base "is_chain" 6 ["book","load","thing"] (spD K 3 Ap)
abbrev GI:Prop:=St.Dfn P w K mg base "first_chain" 6 ["book","load"] (spD K 2 B0)
abbrev Ha:Prop:=St.Dfn P w K mg base "_law_cell_at" 1 ["_law_script","_law_k"] (spD K 2 CS)
abbrev Me:Prop:=St.Dfn P w K mg base "_law_pen" 1 ["_law_cell"] (spD K 1 F5)
abbrev BY:Prop:=St.Dfn P w K mg base "_law_draw" 1 ["_law_pen_here","_law_bound"] (spD K 2 AG)
abbrev IU:Prop:=St.Dfn P w K mg base "_law_common" 1 ["_law_one","_law_other"] (spD K 2 Ea)
abbrev DV:Prop:=St.Dfn P w K mg base "_law_made" 2 ["_law_top","_law_bottom"] (spD K 2 Bj)
abbrev Ez:Prop:=St.Dfn P w K mg base "_law_plus" 3 ["_law_one","_law_other"] (spD K 2 B3)
abbrev FI:Prop:=St.Dfn P w K mg base "_law_times" 3 ["_law_one","_law_other"] (spD K 2 Ay)
abbrev Hy:Prop:=St.Dfn P w K mg base "_law_less" 4 ["_law_one","_law_other"] (spD K 2 Cr)
abbrev Gu:Prop:=St.Dfn P w K mg base "_law_whole" 3 ["_law_pen_here","_law_many"] (spD K 2 Ck)
abbrev F3:Prop:=St.Dfn P w K mg base "_law_pieces" 2 ["_law_pen_here"] (spD K 1 BG)
abbrev Jc:Prop:=St.Dfn P w K mg base "_law_train" 4 ["_law_pen_here"] (spD K 1 FT)
abbrev Ji:Prop:=St.Dfn P w K mg base "_law_first" 4 ["_law_pen_here","_law_train_here"] (spD K 2 FF)
abbrev JR:Prop:=St.Dfn P w K mg base "_law_share" 3 ["_law_pen_here"] (spD K 1 EC)
abbrev IL:Prop:=St.Dfn P w K mg base "_law_worths" 2 ["_law_pen_here","_law_many"] (spD K 2 Ct)
abbrev KA:Prop:=St.Dfn P w K mg base "_law_begun" 1 ["_law_book_here"] (spD K 1 FN)
abbrev IF:Prop:=St.Dfn P w K mg base "_law_pooled" 4 ["_law_one","_law_other"] (spD K 2 EV)
abbrev Kv:Prop:=St.Dfn P w K mg base "_law_cost" 3 ["_law_train_here","_law_loads","_law_deed_here"] (spD K 3 GS)
abbrev Jl:Prop:=St.Dfn P w K mg base "_law_borne" 5 ["_law_shares","_law_part","_law_owners"] (spD K 3 DL)
abbrev Kx:Prop:=St.Dfn P w K mg base "_law_sold" 5 ["_law_shares","_law_deed_here"] (spD K 2 D5)
abbrev LF:Prop:=St.Dfn P w K mg base "_law_turn" 6 ["_law_train_here","_law_state","_law_deed_here"] (spD K 3 D6)
abbrev O0:Prop:=St.Dfn P w K mg base "_law_do" 7 ["_law_train_here","_law_state","_law_deed_here"] (spD K 3 Bp)
abbrev K9:Prop:=St.Dfn P w K mg base "_law_deed" 4 ["_law_pen_here","_law_train_here","_law_state"] (spD K 3 Cs)
abbrev Kp:Prop:=St.Dfn P w K mg base "_law_book" 8 ["_law_pen_here","_law_most"] (spD K 2 D3)
abbrev Hb:Prop:=St.Dfn P w K mg base "_law_parents" 1 ["_law_book_here"] (spD K 1 C4)
abbrev J0:Prop:=St.Dfn P w K mg base "_law_pooly" 2 ["_law_pen_here"] (spD K 1 EE)
abbrev J9(n:Nat):Prop:=St.Dfn P w K mg base "_law_thing" (2+n) ["_law_pen_here","_law_deep"] (spD K 2 (Aw n))
abbrev Ma(n:Nat):Prop:=St.Dfn P w K mg base "_law_spoilt" (11+n) ["_law_pen_here","_law_thing_here"] (spD K 2 (BV n))
abbrev IX:Prop:=St.Dfn P w K mg base "_law_is_one" 1 ["_law_rows","_law_load","_law_thing_here"] (spD K 3 BH)
abbrev Fv:Prop:=St.Dfn P w K mg base "_law_any_chain" 2 ["_law_pen_here","_law_rows","_law_load"] (spD K 3 BE)
end
structure Bts(mg:Str->Option Value):Prop where
 abs:mg "abs"=none
 all:mg "all"=none
 bool:mg "bool"=none
 enumerate:mg "enumerate"=none
 int:mg "int"=none
 isi:mg "isinstance"=none
 len:mg "len"=none
 list:mg "list"=none
 max:mg "max"=none
 min:mg "min"=none
 range:mg "range"=none
 sorted:mg "sorted"=none
 str:mg "str"=none
 sum:mg "sum"=none
 tuple:mg "tuple"=none
 zip:mg "zip"=none
end
section
open PyProof.Rows (boot_isinstance boot_int boot_bool boot_tuple boot_str boot_list boot_abs boot_all boot_any boot_sum boot_max boot_min boot_range boot_enumerate boot_zip boot_sorted boot_set boot_divmod)
variable{P:Program}{w:World}{K:PySem.W.Frag}{mg:Str->Option Value}{base:Heap}
theorem L5:AW ["thing"] ["thing"] (AM s_p_is_whole):=⟨rfl,rfl,rfl,by decide+kernel,rfl,by decide+kernel,by decide+kernel⟩
theorem Df  (S:St.Src K mg "is_whole" s_p_is_whole)(B:Bts mg):IY P w K mg base:=by
 refine Av (k:=0) S L5 rfl (fun f fd F=>F.binds fun _ _ _ _ _ _ us hl=>match us,hl with| [_],_=>rfl) fun f cdv A outer s H E hr=>?_
 have hu:=Ag hr
 exact(AK (AU (IK (AY CP rfl B.isi boot_isinstance (AA (AB 0) (AA (Jr rfl B.int boot_int) AD))) (Jo (YX (AY CP rfl B.isi boot_isinstance (AA (AB 0) (AA (Jr rfl B.bool boot_bool) AD))))))))
theorem MP:AW ["thing","low"] ["thing","low"] (AM s_p_is_from):=⟨rfl,rfl,rfl,by decide+kernel,rfl,by decide+kernel,by decide+kernel⟩
theorem EA  (S:St.Src K mg "is_from" s_p_is_from)(Df:IY P w K mg base):JT P w K mg base:=by
 refine Av (k:=1) S MP rfl (fun f fd F=>F.binds fun _ _ _ _ _ _ us hl=>match us,hl with| [_,_],_=>rfl) fun f cdv A outer s H E hr=>?_
 have hu:=Ag hr
 exact(AK (AU (IK (AJ Df (hr.mono (by decide)) rfl (AA (AB 0) AD)) (Jo (Ey RM (AB 0) (AB 1))))))
theorem KQ:AW ["thing","low","high"] ["thing","low","high"] (AM s_p_is_within):=⟨rfl,rfl,rfl,by decide+kernel,rfl,by decide+kernel,by decide+kernel⟩
theorem Bt  (S:St.Src K mg "is_within" s_p_is_within)(EA:JT P w K mg base):Fb P w K mg base:=by
 refine Av (k:=2) S KQ rfl (fun f fd F=>F.binds fun _ _ _ _ _ _ us hl=>match us,hl with| [_,_,_],_=>rfl) fun f cdv A outer s H E hr=>?_
 have hu:=Ag hr
 exact(AK (AU (IK (AJ EA (hr.mono (by decide)) rfl (AA (AB 0) (AA (AB 1) AD))) (Jo (Ey YW (AB 0) (AB 2))))))
theorem Jy:AW ["held","load","pieces"] ["held","load","pieces"] (AM s_p_has_pieces):=⟨rfl,rfl,rfl,by decide+kernel,rfl,by decide+kernel,by decide+kernel⟩
theorem A1  (S:St.Src K mg "has_pieces" s_p_has_pieces)(B:Bts mg):DZ P w K mg base:=by
 refine Av (k:=0) S Jy rfl (fun f fd F=>F.binds fun _ _ _ _ _ _ us hl=>match us,hl with| [_,_,_],_=>rfl) fun f cdv A outer s H E hr=>?_
 have hu:=Ag hr
 exact(AK (AU (IK (Ey Gg (AB 1) (AY BA rfl B.len boot_len (AA (AB 0) AD))) (Jo (Ey RM (AN AX (AN AX (AB 0) (AB 1)) AE) (AB 2))))))
theorem MJ:AW ["held","load","other"] ["held","load","other"] (AM s_p_can_pool):=⟨rfl,rfl,rfl,by decide+kernel,rfl,by decide+kernel,by decide+kernel⟩
theorem Dl  (S:St.Src K mg "can_pool" s_p_can_pool)(A1:DZ P w K mg base):IT P w K mg base:=by
 refine Av (k:=1) S MJ rfl (fun f fd F=>F.binds fun _ _ _ _ _ _ us hl=>match us,hl with| [_,_,_],_=>rfl) fun f cdv A outer s H E hr=>?_
 have hu:=Ag hr
 exact(AK (AU (IK (AJ A1 (hr.mono (by decide)) rfl (AA (AB 0) (AA (AB 1) (AA AE AD)))) (IK (AJ A1 (hr.mono (by decide)) rfl (AA (AB 0) (AA (AB 2) (AA AE AD)))) (Jo (Ey (Bn hu) (AN AX (AN AX (AB 0) (AB 1)) AE) (AN AX (AN AX (AB 0) (AB 2)) AE)))))))
theorem LS:AW ["held","load","given","kind"] ["held","load","given","kind"] (AM s_p_can_swap):=⟨rfl,rfl,rfl,by decide+kernel,rfl,by decide+kernel,by decide+kernel⟩
theorem Cv  (S:St.Src K mg "can_swap" s_p_can_swap)(A1:DZ P w K mg base):Ib P w K mg base:=by
 refine Av (k:=1) S LS rfl (fun f fd F=>F.binds fun _ _ _ _ _ _ us hl=>match us,hl with| [_,_,_,_],_=>rfl) fun f cdv A outer s H E hr=>?_
 have hu:=Ag hr
 exact(AK (AU (IK (AJ A1 (hr.mono (by decide)) rfl (AA (AB 0) (AA (AB 1) (AA (AB 2) AD)))) (Jo (Ey (E8 hu) (AN AX (AN AX (AB 0) (AB 1)) AE) (AB 3))))))
end
section
open PyProof.Rows (boot_isinstance boot_int boot_bool boot_tuple boot_str boot_list boot_abs boot_all boot_any boot_sum boot_max boot_min boot_range boot_enumerate boot_zip boot_sorted boot_set boot_divmod)
variable{P:Program}{w:World}{K:PySem.W.Frag}{mg:Str->Option Value}{base:Heap}
theorem Gw:AW ["held","done","deed","word","numbers"] ["held","done","deed"] (AM s_p_can_do):=⟨rfl,rfl,rfl,by decide+kernel,rfl,by decide+kernel,by decide+kernel⟩
theorem L7:Ah ["held","done","deed","word","numbers"] (AM s_p_can_do) ["other"] (ixC [] 1) (JM s_p_can_do 0):=⟨rfl,by decide+kernel,by decide+kernel,by decide+kernel,by decide+kernel⟩
theorem Li:(["other"]:List Str).Nodup:=by decide+kernel
theorem Em  (S:St.Src K mg "can_do" s_p_can_do)(A1:DZ P w K mg base)(Dl:IT P w K mg base)(Cv:Ib P w K mg base):K7 P w K mg base:=by
 refine Av (k:=2) S Gw rfl (fun f fd F=>F.binds fun _ _ _ _ _ _ us hl=>match us,hl with| [_,_,_],_=>rfl) fun f cdv A outer s H E hr=>?_
 have hu:=Ag hr
 exact(AF (Aq 3 (AN AX (AB 2) AE) Gw.nd)
    (AF (Bk (Ac (Bn hu) (AB 3) A5) (AK (AU (AJ Dl (hr.mono (by decide)) rfl (AA (AB 0) (AA (AN AX (AB 2) AE) (AA (AN AX (AB 2) AE) AD)))))) An)
    (AF (Bk (Ac (Bn hu) (AB 3) A5) (AK (AU (AJ Cv (hr.mono (by decide)) rfl (AA (AB 0) (AA (AN AX (AB 2) AE) (AA (AN AX (AB 2) AE) (AA (AN AX (AB 2) AE) AD))))))) An)
    (AF (Bk (Ac (Bn hu) (AB 3) A5) (AF (CU [] 1 ["other"] rfl Gw.nd rfl rfl L7 (Cu (AB 1)) (fun s H fp=>⟨(Ax 0 Li),(Ed (Ac (Bn hu) (AN AX (AB 0) AE) A5)),(AN AX (AB 0) AE)⟩))
    (AK (AU (IK (Ey JO (AN AX (AB 2) AE) (AB 4)) (Jo (AJ Cv (hr.mono (by decide)) rfl (AA (AB 0) (AA (AN AX (AB 2) AE) (AA (AN AX (AB 2) AE) (AA (AN AX (AB 2) AE) AD)))))))))) An)
    (AF (Bk (Ac G8 (AB 3) (Am (AA A5 (AA A5 AD)))) (AK (AU (AJ A1 (hr.mono (by decide)) rfl (AA (AB 0) (AA (AN AX (AB 2) AE) (AA (AN AX (AB 2) AE) AD)))))) An)
    (AK (AU Ik)))))))
theorem DO:AW ["held","load","pieces","kind","there"] ["held","load","pieces"] (AM s_p_held_without):=⟨rfl,rfl,rfl,by decide+kernel,rfl,by decide+kernel,by decide+kernel⟩
theorem BI  (S:St.Src K mg "held_without" s_p_held_without):Fe P w K mg base:=by
 refine Av (k:=0) S DO rfl (fun f fd F=>F.binds fun _ _ _ _ _ _ us hl=>match us,hl with| [_,_,_],_=>rfl) fun f cdv A outer s H E hr=>?_
 have hu:=Ag hr
 exact(AF (IJ (AN AX (AB 0) (AB 1)) (Ft rfl (AZ (Ax 3 DO.nd) (AZ (Ax 4 DO.nd) CG))))
    (AK (AU (Af AV (Af AV (FY (AB 0) (AB 1)) (As (AA (Am (AA (AB 3) (AA (Af DY (AB 4) (AB 2)) AD))) AD))) (FD (AB 0) (Af AV (AB 1) AE))))))
theorem A9:AW ["held","deed","word","kind","pieces","more","load","given","got"] ["held","deed"] (AM s_p_held_behind):=⟨rfl,rfl,rfl,by decide+kernel,rfl,by decide+kernel,by decide+kernel⟩
theorem CI  (S:St.Src K mg "held_behind" s_p_held_behind)(BI:Fe P w K mg base):GJ P w K mg base:=by
 refine Av (k:=1) S A9 rfl (fun f fd F=>F.binds fun _ _ _ _ _ _ us hl=>match us,hl with| [_,_],_=>rfl) fun f cdv A outer s H E hr=>?_
 have hu:=Ag hr
 exact(AF (Aq 2 (AN AX (AB 1) AE) A9.nd)
    (AF (Bk (Ac (Bn hu) (AB 2) A5) (AK (AU (Af AV (AB 0) (As (AA (Am (AA (AN AX (AB 1) AE) (AA (AN AX (AB 1) AE) AD))) AD))))) An)
    (AF (Bk (Ac (Bn hu) (AB 2) A5) (AF (IJ (AN AX (AB 0) (AN AX (AB 1) AE)) (Ft rfl (AZ (Ax 3 A9.nd) (AZ (Ax 4 A9.nd) CG))))
    (AF (Aq 5 (AN AX (AN AX (AB 0) (AN AX (AB 1) AE)) AE) A9.nd)
    (AK (AU (Af AV (AJ BI (hr.mono (by decide)) rfl (AA (AJ BI (hr.mono (by decide)) rfl (AA (AB 0) (AA (AN AX (AB 1) AE) (AA (AB 4) AD)))) (AA (AN AX (AB 1) AE) (AA (AB 5) AD)))) (As (AA (Am (AA (AB 3) (AA (Af AV (AB 4) (AB 5)) AD))) AD))))))) An)
    (AF (Bk (Ac G8 (AB 2) (Am (AA A5 (AA A5 AD)))) (AF (IJ (FD (AB 1) (Hi C8 AE)) (Ft rfl (AZ (Ax 6 A9.nd) (AZ (Ax 7 A9.nd) (AZ (Ax 3 A9.nd) (AZ (Ax 8 A9.nd) CG))))))
    (AK (AU (Af AV (AJ BI (hr.mono (by decide)) rfl (AA (AB 0) (AA (AB 6) (AA (AB 7) AD)))) (As (AA (Am (AA (AB 3) (AA (AB 8) AD))) AD)))))) An)
    (AF (Bk (Ac G8 (AB 2) (Am (AA A5 (AA A5 AD)))) (AK (AU (AJ BI (hr.mono (by decide)) rfl (AA (AB 0) (AA (AN AX (AB 1) AE) (AA (AN AX (AB 1) AE) AD)))))) An)
    (AK (AU (AB 0))))))))
theorem HU:AW ["book"] ["book"] (AM s_p_held_at_first):=⟨rfl,rfl,rfl,by decide+kernel,rfl,by decide+kernel,by decide+kernel⟩
theorem GW:Ah ["book"] (AM s_p_held_at_first) ["load"] (ixC [] 1) (JM s_p_held_at_first 0):=⟨rfl,by decide+kernel,by decide+kernel,by decide+kernel,by decide+kernel⟩
theorem GV:(["load"]:List Str).Nodup:=by decide+kernel
theorem B6  (S:St.Src K mg "held_at_first" s_p_held_at_first):E9 P w K mg base:=by
 refine Av (k:=0) S HU rfl (fun f fd F=>F.binds fun _ _ _ _ _ _ us hl=>match us,hl with| [_],_=>rfl) fun f cdv A outer s H E hr=>?_
 have hu:=Ag hr
 exact(AK (AU (DH [] 1 ["load"] rfl GW (Cu (AN AX (AB 0) AE)) (fun s H fp=>⟨(Ax 0 GV),DQ,(Am (AA (AN AX (AB 0) AE) (AA (AN AX (AB 0) AE) AD)))⟩))))
theorem Gh:AW ["deed","word"] ["deed"] (AM s_p_made_from):=⟨rfl,rfl,rfl,by decide+kernel,rfl,by decide+kernel,by decide+kernel⟩
theorem C5  (S:St.Src K mg "made_from" s_p_made_from)(B:Bts mg):HC P w K mg base:=by
 refine Av (k:=0) S Gh rfl (fun f fd F=>F.binds fun _ _ _ _ _ _ us hl=>match us,hl with| [_],_=>rfl) fun f cdv A outer s H E hr=>?_
 have hu:=Ag hr
 exact(AF (Aq 1 (AN AX (AB 0) AE) Gh.nd)
    (AF (Bk (Ac (Bn hu) (AB 1) A5) (AK (AU (AY Ml rfl B.sorted boot_sorted (AA (As (AA (AN AX (AB 0) AE) (AA (AN AX (AB 0) AE) AD))) AD)))) An)
    (AF (Bk (Ac G8 (AB 1) (Am (AA A5 (AA A5 AD)))) (AK (AU (As (AA (AN AX (AB 0) (Hi C8 AE)) AD)))) An)
    (AK (AU (As AD))))))
theorem Br:AW ["book","held","deeds","at","deed"] ["book"] (AM s_p_first_wrong):=⟨rfl,rfl,rfl,by decide+kernel,rfl,by decide+kernel,by decide+kernel⟩
theorem CO  (S:St.Src K mg "first_wrong" s_p_first_wrong)(B:Bts mg)(Em:K7 P w K mg base)(CI:GJ P w K mg base)(B6:E9 P w K mg base):GG P w K mg base:=by
 refine Av (k:=3) S Br rfl (fun f fd F=>F.binds fun _ _ _ _ _ _ us hl=>match us,hl with| [_],_=>rfl) fun f cdv A outer s H E hr=>?_
 have hu:=Ag hr
 exact(AF (Aq 1 (AJ B6 (hr.mono (by decide)) rfl (AA (AB 0) AD)) Br.nd)
    (AF (Aq 2 (AN AX (AB 0) AE) Br.nd)
    (AF (D7 PassesOwn.never rfl (OP rfl B.enumerate (AB 2)) (Ft rfl (AZ (Ax 3 Br.nd) (AZ (Ax 4 Br.nd) CG))) (AF (Bk (Hg (E5 (AJ Em (hr.mono (by decide)) rfl (AA (AB 1) (AA (FY (AB 2) (AB 3)) (AA (AB 4) AD)))))) (AK (AU (AB 3))) An)
    (AK (Aq 1 (AJ CI (hr.mono (by decide)) rfl (AA (AB 1) (AA (AB 4) AD))) Br.nd))))
    (AK (AU Qw)))))
end
section
open PyProof.Rows (boot_isinstance boot_int boot_bool boot_tuple boot_str boot_list boot_abs boot_all boot_any boot_sum boot_max boot_min boot_range boot_enumerate boot_zip boot_sorted boot_set boot_divmod)
variable{P:Program}{w:World}{K:PySem.W.Frag}{mg:Str->Option Value}{base:Heap}
theorem ET:AW ["book","wrong"] ["book"] (AM s_p_refuse_undone):=⟨rfl,rfl,rfl,by decide+kernel,rfl,by decide+kernel,by decide+kernel⟩
theorem BB  (S:St.Src K mg "refuse_undone" s_p_refuse_undone)(CO:GG P w K mg base):DP P w K mg base:=by
 refine Av (k:=4) S ET rfl (fun f fd F=>F.binds fun _ _ _ _ _ _ us hl=>match us,hl with| [_],_=>rfl) fun f cdv A outer s H E hr=>?_
 have hu:=Ag hr
 exact(AF (Aq 1 (AJ CO (hr.mono (by decide)) rfl (AA (AB 0) AD)) ET.nd)
    (AK (Bk (Ac SE (AB 1) Qw) (AK Oa) An)))
theorem Jk:AW ["book","many"] ["book","many"] (AM s_p_many_loads):=⟨rfl,rfl,rfl,by decide+kernel,rfl,by decide+kernel,by decide+kernel⟩
theorem IA:Ah ["book","many"] (AM s_p_many_loads) ["deed"] (ixC [] 1) (JM s_p_many_loads 0):=⟨rfl,by decide+kernel,by decide+kernel,by decide+kernel,by decide+kernel⟩
theorem Hx:(["deed"]:List Str).Nodup:=by decide+kernel
theorem CY  (S:St.Src K mg "many_loads" s_p_many_loads)(B:Bts mg)(c_MAKERS:XR K mg "MAKERS" Bw):Ga P w K mg base:=by
 refine Av (k:=0) S Jk rfl (fun f fd F=>F.binds fun _ _ _ _ _ _ us hl=>match us,hl with| [_,_],_=>rfl) fun f cdv A outer s H E hr=>?_
 have hu:=Ag hr
 exact(AK (AU (Af AV (AY BA rfl B.len boot_len (AA (AN AX (AB 0) AE) AD)) (AY BA rfl B.len boot_len (AA (DH [] 1 ["deed"] rfl IA (Cu (FY (AN AX (AB 0) AE) (AB 1))) (fun s H fp=>⟨(Ax 0 Hx),(Ed (Ac G8 (AN AX (AB 0) AE) (Qg c_MAKERS rfl))),(AB 0)⟩)) AD)))))
theorem Gv:AW ["book","load"] ["book","load"] (AM s_p_refuse_no_load):=⟨rfl,rfl,rfl,by decide+kernel,rfl,by decide+kernel,by decide+kernel⟩
theorem A6  (S:St.Src K mg "refuse_no_load" s_p_refuse_no_load)(B:Bts mg)(Bt:Fb P w K mg base)(CY:Ga P w K mg base):DB P w K mg base:=by
 refine Av (k:=3) S Gv rfl (fun f fd F=>F.binds fun _ _ _ _ _ _ us hl=>match us,hl with| [_,_],_=>rfl) fun f cdv A outer s H E hr=>?_
 have hu:=Ag hr
 exact(AK (Bk (Hg (E5 (AJ Bt (hr.mono (by decide)) rfl (AA (AB 1) (AA AE (AA (Af DY (AJ CY (hr.mono (by decide)) rfl (AA (AB 0) (AA (AY BA rfl B.len boot_len (AA (AN AX (AB 0) AE) AD)) AD))) AE) AD)))))) (AK Oa) An))
theorem Ff:AW ["book","first","deeds"] ["book"] (AM s_p_all_sources):=⟨rfl,rfl,rfl,by decide+kernel,rfl,by decide+kernel,by decide+kernel⟩
theorem HV:Ah ["book","first","deeds"] (AM s_p_all_sources) ["load"] (ixC [] 1) (JM s_p_all_sources 0):=⟨rfl,by decide+kernel,by decide+kernel,by decide+kernel,by decide+kernel⟩
theorem Hf:(["load"]:List Str).Nodup:=by decide+kernel
theorem HQ:Ah ["book","first","deeds"] (AM s_p_all_sources) ["deed"] (ixC [] 1) (JM s_p_all_sources 1):=⟨rfl,by decide+kernel,by decide+kernel,by decide+kernel,by decide+kernel⟩
theorem HB:(["deed"]:List Str).Nodup:=by decide+kernel
theorem BU  (S:St.Src K mg "all_sources" s_p_all_sources)(c_MAKERS:XR K mg "MAKERS" Bw)(C5:HC P w K mg base):EH P w K mg base:=by
 refine Av (k:=1) S Ff rfl (fun f fd F=>F.binds fun _ _ _ _ _ _ us hl=>match us,hl with| [_],_=>rfl) fun f cdv A outer s H E hr=>?_
 have hu:=Ag hr
 exact(AF (LD (i:=1) (j:=2) rfl Ff.nd rfl rfl (by decide) rfl rfl (AN AX (AB 0) AE) (AN AX (AB 0) AE))
    (AK (AU (Af AV (DH [] 1 ["load"] rfl HV (Cu (AB 1)) (fun s H fp=>⟨(Ax 0 Hf),DQ,(As AD)⟩)) (DH [] 1 ["deed"] rfl HQ (Cu (AB 2)) (fun s H fp=>⟨(Ax 0 HB),(Ed (Ac G8 (AN AX (AB 0) AE) (Qg c_MAKERS rfl))),(AJ C5 (hr.mono (by decide)) rfl (AA (AB 0) AD))⟩))))))
theorem HA:AW ["book","load","thing","sources"] ["book","load","thing"] (AM s_p_is_chain):=⟨rfl,rfl,rfl,by decide+kernel,rfl,by decide+kernel,by decide+kernel⟩
theorem JN:Ah ["book","load","thing","sources"] (AM s_p_is_chain) ["sources","number"] (ixC [3] 1) (JM s_p_is_chain 0):=⟨rfl,by decide+kernel,by decide+kernel,by decide+kernel,by decide+kernel⟩
theorem J2:(["sources","number"]:List Str).Nodup:=by decide+kernel
theorem Jm:Ah ["book","load","thing","sources"] (AM s_p_is_chain) ["sources","number","behind"] (ixC [3] 2) (JM s_p_is_chain 1):=⟨rfl,by decide+kernel,by decide+kernel,by decide+kernel,by decide+kernel⟩
theorem GK:(["sources","number","behind"]:List Str).Nodup:=by decide+kernel
theorem Cn  (S:St.Src K mg "is_chain" s_p_is_chain)(B:Bts mg)(Bt:Fb P w K mg base)(BB:DP P w K mg base)(A6:DB P w K mg base)(BU:EH P w K mg base):IB P w K mg base:=by
 refine Av (k:=5) S HA rfl (fun f fd F=>F.binds fun _ _ _ _ _ _ us hl=>match us,hl with| [_,_,_],_=>rfl) fun f cdv A outer s H E hr=>?_
 have hu:=Ag hr
 exact(AF (Bq (AJ BB (hr.mono (by decide)) rfl (AA (AB 0) AD)))
    (AF (Bq (AJ A6 (hr.mono (by decide)) rfl (AA (AB 0) (AA (AB 1) AD))))
    (AF (Bk (DW.dt (Kl (Hg (E5 (AY CP rfl B.isi boot_isinstance (AA (AB 2) (AA (Jr rfl B.tuple boot_tuple) AD))))) (HG (Ac (Bn hu) (AY BA rfl B.len boot_len (AA (AB 2) AD)) AE)))) (AK (AU Ik)) An)
    (AF (Aq 3 (AJ BU (hr.mono (by decide)) rfl (AA (AB 0) AD)) HA.nd)
    (AF (Bk (Hg (E5 (AY (MO rfl) rfl B.all boot_all (AA (DH [3] 1 ["sources","number"] rfl JN (Cu (AB 2)) (fun s H fp=>⟨(Ax 1 J2),DQ,(AJ Bt (hr.mono (by decide)) rfl (AA (AB 1) (AA AE (AA (Af DY (AY BA rfl B.len boot_len (AA (AB 0) AD)) AE) AD))))⟩)) AD)))) (AK (AU Ik)) An)
    (AF (Bk (DW.dt (Kl (Ac (E8 hu) (AN AX (AB 2) (Hi C8 AE)) (AB 1)) (HG (Ac HM (AY BA rfl B.len boot_len (AA (AN AX (AB 3) (AN AX (AB 2) AE)) AD)) AE)))) (AK (AU Ik)) An)
    (AK (AU (AY (MO rfl) rfl B.all boot_all (AA (DH [3] 2 ["sources","number","behind"] rfl Jm (OY rfl B.zip (AB 2) (FD (AB 2) AE)) (fun s H fp=>⟨(Ft rfl (AZ (Ax 1 GK) (AZ (Ax 2 GK) CG))),DQ,(Ey G8 (AB 1) (AN AX (AB 0) (AB 2)))⟩)) AD))))))))))
theorem CD:AW ["book","load","chains","number","sources","longer"] ["book","load"] (AM s_p_first_chain):=⟨rfl,rfl,rfl,by decide+kernel,rfl,by decide+kernel,by decide+kernel⟩
theorem HI:Ah ["book","load","chains","number","sources","longer"] (AM s_p_first_chain) ["chains","number","source"] (ixC [2,3] 1) (JM s_p_first_chain 0):=⟨rfl,by decide+kernel,by decide+kernel,by decide+kernel,by decide+kernel⟩
theorem G7:(["chains","number","source"]:List Str).Nodup:=by decide+kernel
theorem CH  (S:St.Src K mg "first_chain" s_p_first_chain)(B:Bts mg)(BB:DP P w K mg base)(A6:DB P w K mg base)(BU:EH P w K mg base):GI P w K mg base:=by
 refine Av (k:=5) S CD rfl (fun f fd F=>F.binds fun _ _ _ _ _ _ us hl=>match us,hl with| [_,_],_=>rfl) fun f cdv A outer s H E hr=>?_
 have hu:=Ag hr
 exact(AF (Bq (AJ BB (hr.mono (by decide)) rfl (AA (AB 0) AD)))
    (AF (Bq (AJ A6 (hr.mono (by decide)) rfl (AA (AB 0) (AA (AB 1) AD))))
    (AF (Aq 2 (As AD) CD.nd)
    (AF (D7 PassesOwn.never rfl (OP rfl B.enumerate (AJ BU (hr.mono (by decide)) rfl (AA (AB 0) AD))) (Ft rfl (AZ (Ax 3 CD.nd) (AZ (Ax 4 CD.nd) CG))) (AF (CU [2,3] 1 ["chains","number","source"] rfl CD.nd rfl rfl HI (Cu (AB 4)) (fun s H fp=>⟨(Ax 2 G7),DQ,(Af AV (AN AX (AB 0) (AB 2)) (Am (AA (AB 1) AD)))⟩))
    (AK (Bq (Ds PySem.F.slot_list_append PySem.F.type_list_append Cm (AB 2) (AA (bM rfl hu rfl B.min (AA (AB 5) AD) (Am (AA (AB 3) AD))) AD))))))
    (AK (AU (AN AX (AB 2) (AB 1))))))))
end
section
open PyProof.Rows (boot_isinstance boot_int boot_bool boot_tuple boot_str boot_list boot_abs boot_all boot_any boot_sum boot_max boot_min boot_range boot_enumerate boot_zip boot_sorted boot_set boot_divmod)
variable{P:Program}{w:World}{K:PySem.W.Frag}{mg:Str->Option Value}{base:Heap}
theorem Kh:AW ["_law_script","_law_k"] ["_law_script","_law_k"] (AM s_law_cell_at):=⟨rfl,rfl,rfl,by decide+kernel,rfl,by decide+kernel,by decide+kernel⟩
theorem C9  (S:St.Src K mg "_law_cell_at" s_law_cell_at)(B:Bts mg):Ha P w K mg base:=by
 refine Av (k:=0) S Kh rfl (fun f fd F=>F.binds fun _ _ _ _ _ _ us hl=>match us,hl with| [_,_],_=>rfl) fun f cdv A outer s H E hr=>?_
 have hu:=Ag hr
 exact(AF (Bk (Ac Gg (AB 1) (AY BA rfl B.len boot_len (AA (AB 0) AD))) (AK (AU (AN AX (AB 0) (AB 1)))) An)
    (AK (AU AE)))
theorem PY:AW ["_law_cell"] ["_law_cell"] (AM s_law_pen):=⟨rfl,rfl,rfl,by decide+kernel,rfl,by decide+kernel,by decide+kernel⟩
theorem F4  (S:St.Src K mg "_law_pen" s_law_pen)(B:Bts mg):Me P w K mg base:=by
 refine Av (k:=0) S PY rfl (fun f fd F=>F.binds fun _ _ _ _ _ _ us hl=>match us,hl with| [_],_=>rfl) fun f cdv A outer s H E hr=>?_
 have hu:=Ag hr
 exact(AK (AU (As (AA (AB 0) (AA (BD JQ rfl B.int boot_int (AA (Ey RM (AB 0) (Af Nn AE AE)) AD)) (AA AE (AA (Af FV (AB 0) AE) AD)))))))
theorem FR:AW ["_law_pen_here","_law_bound","_law_found","_law_stir"] ["_law_pen_here","_law_bound"] (AM s_law_draw):=⟨rfl,rfl,rfl,by decide+kernel,rfl,by decide+kernel,by decide+kernel⟩
theorem AI  (S:St.Src K mg "_law_draw" s_law_draw):BY P w K mg base:=by
 refine Av (k:=0) S FR rfl (fun f fd F=>F.binds fun _ _ _ _ _ _ us hl=>match us,hl with| [_,_],_=>rfl) fun f cdv A outer s H E hr=>?_
 have hu:=Ag hr
 exact(AF (Bk (DW.dt (Fi (Ac (Bn hu) (AN AX (AB 0) AE) AE) (EI (Ac HM (AN AX (AB 0) AE) AE)))) (AF (Aq 2 (Af FV (AN AX (AB 0) AE) (AB 1)) FR.nd)
    (AF (Bu (Af HS (AN AX (AB 0) AE) (AB 1)) (AB 0) AE)
    (AK (AU (AB 2))))) An)
    (AF (Bu (Af AV (AN AX (AB 0) AE) AE) (AB 0) AE)
    (AF (Aq 3 (Af FV (Af CF (Af AV (AN AX (AB 0) AE) AE) (Af AV AE (Af CF AE (AN AX (AB 0) AE)))) AE) FR.nd)
    (AF (Aq 3 (Af FV (Af AV (Af AV (Af CF (AB 3) (AB 3)) (Af CF AE (AN AX (AB 0) AE))) AE) AE) FR.nd)
    (AK (AU (Af FV (Af HS (Af FV (Af CF (AB 3) AE) AE) AE) (AB 1))))))))
theorem G6:AW ["_law_one","_law_other"] ["_law_one","_law_other"] (AM s_law_common):=⟨rfl,rfl,rfl,by decide+kernel,rfl,by decide+kernel,by decide+kernel⟩
theorem Dj  (S:St.Src K mg "_law_common" s_law_common):IU P w K mg base:=by
 refine Av (k:=0) S G6 rfl (fun f fd F=>F.binds fun _ _ _ _ _ _ us hl=>match us,hl with| [_,_],_=>rfl) fun f cdv A outer s H E hr=>?_
 have hu:=Ag hr
 exact(AF (OW (XJ 1) PassesOwn.never (Ac HM (AB 1) AE) (AK (LD (i:=0) (j:=1) rfl G6.nd rfl rfl (by decide) rfl rfl (AB 1) (Af FV (AB 0) (AB 1)))))
    (AK (AU (AB 0))))
theorem Ja:AW ["_law_top","_law_bottom","_law_by"] ["_law_top","_law_bottom"] (AM s_law_made):=⟨rfl,rfl,rfl,by decide+kernel,rfl,by decide+kernel,by decide+kernel⟩
theorem Au  (S:St.Src K mg "_law_made" s_law_made)(B:Bts mg)(Dj:IU P w K mg base):DV P w K mg base:=by
 refine Av (k:=1) S Ja rfl (fun f fd F=>F.binds fun _ _ _ _ _ _ us hl=>match us,hl with| [_,_],_=>rfl) fun f cdv A outer s H E hr=>?_
 have hu:=Ag hr
 exact(AF (Aq 2 (AJ Dj (hr.mono (by decide)) rfl (AA (AY QQ rfl B.abs boot_abs (AA (AB 0) AD)) (AA (AB 1) AD))) Ja.nd)
    (AK (AU (Am (AA (Af HS (AB 0) (AB 2)) (AA (Af HS (AB 1) (AB 2)) AD))))))
theorem Nd:AW ["_law_one","_law_other"] ["_law_one","_law_other"] (AM s_law_plus):=⟨rfl,rfl,rfl,by decide+kernel,rfl,by decide+kernel,by decide+kernel⟩
theorem Bc  (S:St.Src K mg "_law_plus" s_law_plus)(Au:DV P w K mg base):Ez P w K mg base:=by
 refine Av (k:=2) S Nd rfl (fun f fd F=>F.binds fun _ _ _ _ _ _ us hl=>match us,hl with| [_,_],_=>rfl) fun f cdv A outer s H E hr=>?_
 have hu:=Ag hr
 exact(AK (AU (AJ Au (hr.mono (by decide)) rfl (AA (Af AV (Af CF (AN AX (AB 0) AE) (AN AX (AB 1) AE)) (Af CF (AN AX (AB 1) AE) (AN AX (AB 0) AE))) (AA (Af CF (AN AX (AB 0) AE) (AN AX (AB 1) AE)) AD)))))
end
section
open PyProof.Rows (boot_isinstance boot_int boot_bool boot_tuple boot_str boot_list boot_abs boot_all boot_any boot_sum boot_max boot_min boot_range boot_enumerate boot_zip boot_sorted boot_set boot_divmod)
variable{P:Program}{w:World}{K:PySem.W.Frag}{mg:Str->Option Value}{base:Heap}
theorem MV:AW ["_law_one","_law_other"] ["_law_one","_law_other"] (AM s_law_times):=⟨rfl,rfl,rfl,by decide+kernel,rfl,by decide+kernel,by decide+kernel⟩
theorem BF  (S:St.Src K mg "_law_times" s_law_times)(Au:DV P w K mg base):FI P w K mg base:=by
 refine Av (k:=2) S MV rfl (fun f fd F=>F.binds fun _ _ _ _ _ _ us hl=>match us,hl with| [_,_],_=>rfl) fun f cdv A outer s H E hr=>?_
 have hu:=Ag hr
 exact(AK (AU (AJ Au (hr.mono (by decide)) rfl (AA (Af CF (AN AX (AB 0) AE) (AN AX (AB 1) AE)) (AA (Af CF (AN AX (AB 0) AE) (AN AX (AB 1) AE)) AD)))))
theorem N9:AW ["_law_one","_law_other"] ["_law_one","_law_other"] (AM s_law_less):=⟨rfl,rfl,rfl,by decide+kernel,rfl,by decide+kernel,by decide+kernel⟩
theorem Cq  (S:St.Src K mg "_law_less" s_law_less)(Bc:Ez P w K mg base):Hy P w K mg base:=by
 refine Av (k:=3) S N9 rfl (fun f fd F=>F.binds fun _ _ _ _ _ _ us hl=>match us,hl with| [_,_],_=>rfl) fun f cdv A outer s H E hr=>?_
 have hu:=Ag hr
 exact(AK (AU (AJ Bc (hr.mono (by decide)) rfl (AA (AB 0) (AA (Am (AA (Af DY AE (AN AX (AB 1) AE)) (AA (AN AX (AB 1) AE) AD))) AD)))))
theorem IH:AW ["_law_pen_here","_law_many","_law_weights"] ["_law_pen_here","_law_many"] (AM s_law_whole):=⟨rfl,rfl,rfl,by decide+kernel,rfl,by decide+kernel,by decide+kernel⟩
theorem Kb:Ah ["_law_pen_here","_law_many","_law_weights"] (AM s_law_whole) ["_law_pen_here","_law_one"] (ixC [0] 1) (JM s_law_whole 0):=⟨rfl,by decide+kernel,by decide+kernel,by decide+kernel,by decide+kernel⟩
theorem Ka:(["_law_pen_here","_law_one"]:List Str).Nodup:=by decide+kernel
theorem KZ:Ah ["_law_pen_here","_law_many","_law_weights"] (AM s_law_whole) ["_law_weights","_law_weight"] (ixC [2] 1) (JM s_law_whole 1):=⟨rfl,by decide+kernel,by decide+kernel,by decide+kernel,by decide+kernel⟩
theorem Kk:(["_law_weights","_law_weight"]:List Str).Nodup:=by decide+kernel
theorem CK  (S:St.Src K mg "_law_whole" s_law_whole)(B:Bts mg)(AI:BY P w K mg base)(Au:DV P w K mg base):Gu P w K mg base:=by
 refine Av (k:=2) S IH rfl (fun f fd F=>F.binds fun _ _ _ _ _ _ us hl=>match us,hl with| [_,_],_=>rfl) fun f cdv A outer s H E hr=>?_
 have hu:=Ag hr
 exact(AF (Aq 2 (DH [0] 1 ["_law_pen_here","_law_one"] rfl Kb (Ef rfl B.range (AA (AB 1) AD)) (fun s H fp=>⟨(Ax 1 Ka),DQ,(AN AX (As (AA AE (AA AE (AA (AJ AI (hr.mono (by decide)) rfl (AA (AB 0) (AA AE AD))) (AA (AJ AI (hr.mono (by decide)) rfl (AA (AB 0) (AA AE AD))) AD))))) (AJ AI (hr.mono (by decide)) rfl (AA (AB 0) (AA AE AD))))⟩)) IH.nd)
    (AF (Bk (Ac (Bn hu) (AY (Jg rfl) rfl B.sum boot_sum (AA (AB 2) AD)) AE) (AK (Bu AE (AB 2) (AJ AI (hr.mono (by decide)) rfl (AA (AB 0) (AA (AB 1) AD))))) An)
    (AK (AU (BD Bo rfl B.tuple boot_tuple (AA (DH [2] 1 ["_law_weights","_law_weight"] rfl KZ (Cu (AB 2)) (fun s H fp=>⟨(Ax 1 Kk),DQ,(AJ Au (hr.mono (by decide)) rfl (AA (AB 1) (AA (AY (Jg rfl) rfl B.sum boot_sum (AA (AB 0) AD)) AD)))⟩)) AD))))))
theorem Hd:AW ["_law_pen_here","_law_great"] ["_law_pen_here"] (AM s_law_pieces):=⟨rfl,rfl,rfl,by decide+kernel,rfl,by decide+kernel,by decide+kernel⟩
theorem Bh  (S:St.Src K mg "_law_pieces" s_law_pieces)(AI:BY P w K mg base):F3 P w K mg base:=by
 refine Av (k:=1) S Hd rfl (fun f fd F=>F.binds fun _ _ _ _ _ _ us hl=>match us,hl with| [_],_=>rfl) fun f cdv A outer s H E hr=>?_
 have hu:=Ag hr
 exact(AF (Aq 1 (Af AV (Af Nn AE AE) (AJ AI (hr.mono (by decide)) rfl (AA (AB 0) (AA AE AD)))) Hd.nd)
    (AK (AU (AN AX (As (AA (Af AV AE (AJ AI (hr.mono (by decide)) rfl (AA (AB 0) (AA AE AD)))) (AA (Af AV AE (AJ AI (hr.mono (by decide)) rfl (AA (AB 0) (AA AE AD)))) (AA (Af AV AE (AJ AI (hr.mono (by decide)) rfl (AA (AB 0) (AA AE AD)))) (AA (AB 1) AD))))) (Af HS (AJ AI (hr.mono (by decide)) rfl (AA (AB 0) (AA AE AD))) AE)))))
theorem GA:AW ["_law_pen_here","_law_partners","_law_kinds","_law_beasts"] ["_law_pen_here"] (AM s_law_train):=⟨rfl,rfl,rfl,by decide+kernel,rfl,by decide+kernel,by decide+kernel⟩
theorem ED  (S:St.Src K mg "_law_train" s_law_train)(AI:BY P w K mg base)(CK:Gu P w K mg base):Jc P w K mg base:=by
 refine Av (k:=3) S GA rfl (fun f fd F=>F.binds fun _ _ _ _ _ _ us hl=>match us,hl with| [_],_=>rfl) fun f cdv A outer s H E hr=>?_
 have hu:=Ag hr
 exact(AF (LD (i:=1) (j:=2) rfl GA.nd rfl rfl (by decide) rfl rfl (Af AV AE (AJ AI (hr.mono (by decide)) rfl (AA (AB 0) (AA AE AD)))) (Af AV AE (AJ AI (hr.mono (by decide)) rfl (AA (AB 0) (AA AE AD)))))
    (AF (Aq 3 (AN AX (As (AA (Af AV AE (AJ AI (hr.mono (by decide)) rfl (AA (AB 0) (AA AE AD)))) (AA (Af AV AE (AJ AI (hr.mono (by decide)) rfl (AA (AB 0) (AA AE AD)))) AD))) (AJ AI (hr.mono (by decide)) rfl (AA (AB 0) (AA AE AD)))) GA.nd)
    (AK (AU (Am (AA (AB 1) (AA (AB 2) (AA (AB 3) (AA (AJ CK (hr.mono (by decide)) rfl (AA (AB 0) (AA (AB 1) AD))) (AA (AJ AI (hr.mono (by decide)) rfl (AA (AB 0) (AA AE AD))) (AA (AJ AI (hr.mono (by decide)) rfl (AA (AB 0) (AA AE AD))) AD)))))))))))
theorem GD:AW ["_law_pen_here","_law_train_here","_law_found","_law_k"] ["_law_pen_here","_law_train_here"] (AM s_law_first):=⟨rfl,rfl,rfl,by decide+kernel,rfl,by decide+kernel,by decide+kernel⟩
theorem EF  (S:St.Src K mg "_law_first" s_law_first)(B:Bts mg)(AI:BY P w K mg base)(CK:Gu P w K mg base)(Bh:F3 P w K mg base):Ji P w K mg base:=by
 refine Av (k:=3) S GD rfl (fun f fd F=>F.binds fun _ _ _ _ _ _ us hl=>match us,hl with| [_,_],_=>rfl) fun f cdv A outer s H E hr=>?_
 have hu:=Ag hr
 exact(AF (Aq 2 (As AD) GD.nd)
    (AF (D7 PassesOwn.never rfl (Ef rfl B.range (AA (AN AX (As (AA AE (AA AE (AA (AJ AI (hr.mono (by decide)) rfl (AA (AB 0) (AA AE AD))) AD)))) (AJ AI (hr.mono (by decide)) rfl (AA (AB 0) (AA AE AD)))) AD)) (Ax 3 GD.nd) (AK (Bq (Ds PySem.F.slot_list_append PySem.F.type_list_append Cm (AB 2) (AA (Am (AA (AJ AI (hr.mono (by decide)) rfl (AA (AB 0) (AA (AN AX (AB 1) AE) AD))) (AA (AJ Bh (hr.mono (by decide)) rfl (AA (AB 0) AD)) (AA (AJ CK (hr.mono (by decide)) rfl (AA (AB 0) (AA (AN AX (AB 1) AE) AD))) AD)))) AD)))))
    (AK (AU (BD Bo rfl B.tuple boot_tuple (AA (AB 2) AD))))))
end
section
open PyProof.Rows (boot_isinstance boot_int boot_bool boot_tuple boot_str boot_list boot_abs boot_all boot_any boot_sum boot_max boot_min boot_range boot_enumerate boot_zip boot_sorted boot_set boot_divmod)
variable{P:Program}{w:World}{K:PySem.W.Frag}{mg:Str->Option Value}{base:Heap}
theorem Ia:AW ["_law_pen_here","_law_bottom"] ["_law_pen_here"] (AM s_law_share):=⟨rfl,rfl,rfl,by decide+kernel,rfl,by decide+kernel,by decide+kernel⟩
theorem D9  (S:St.Src K mg "_law_share" s_law_share)(AI:BY P w K mg base)(Au:DV P w K mg base):JR P w K mg base:=by
 refine Av (k:=2) S Ia rfl (fun f fd F=>F.binds fun _ _ _ _ _ _ us hl=>match us,hl with| [_],_=>rfl) fun f cdv A outer s H E hr=>?_
 have hu:=Ag hr
 exact(AF (Aq 1 (Af AV AE (AJ AI (hr.mono (by decide)) rfl (AA (AB 0) (AA AE AD)))) Ia.nd)
    (AK (AU (AJ Au (hr.mono (by decide)) rfl (AA (Af AV AE (AJ AI (hr.mono (by decide)) rfl (AA (AB 0) (AA (AB 1) AD)))) (AA (AB 1) AD))))))
theorem MA:AW ["_law_pen_here","_law_many"] ["_law_pen_here","_law_many"] (AM s_law_worths):=⟨rfl,rfl,rfl,by decide+kernel,rfl,by decide+kernel,by decide+kernel⟩
theorem JZ:Ah ["_law_pen_here","_law_many"] (AM s_law_worths) ["_law_pen_here","_law_one"] (ixC [0] 1) (JM s_law_worths 0):=⟨rfl,by decide+kernel,by decide+kernel,by decide+kernel,by decide+kernel⟩
theorem Jn:(["_law_pen_here","_law_one"]:List Str).Nodup:=by decide+kernel
theorem Dh  (S:St.Src K mg "_law_worths" s_law_worths)(B:Bts mg)(AI:BY P w K mg base):IL P w K mg base:=by
 refine Av (k:=1) S MA rfl (fun f fd F=>F.binds fun _ _ _ _ _ _ us hl=>match us,hl with| [_,_],_=>rfl) fun f cdv A outer s H E hr=>?_
 have hu:=Ag hr
 exact(AK (AU (BD Bo rfl B.tuple boot_tuple (AA (DH [0] 1 ["_law_pen_here","_law_one"] rfl JZ (Ef rfl B.range (AA (AB 1) AD)) (fun s H fp=>⟨(Ax 1 Jn),DQ,(Af AV AE (AN AX (As (AA (AJ AI (hr.mono (by decide)) rfl (AA (AB 0) (AA AE AD))) (AA (AJ AI (hr.mono (by decide)) rfl (AA (AB 0) (AA AE AD))) AD))) (AJ AI (hr.mono (by decide)) rfl (AA (AB 0) (AA AE AD)))))⟩)) AD))))
theorem NB:AW ["_law_book_here"] ["_law_book_here"] (AM s_law_begun):=⟨rfl,rfl,rfl,by decide+kernel,rfl,by decide+kernel,by decide+kernel⟩
theorem KS:Ah ["_law_book_here"] (AM s_law_begun) ["_law_load"] (ixC [] 1) (JM s_law_begun 0):=⟨rfl,by decide+kernel,by decide+kernel,by decide+kernel,by decide+kernel⟩
theorem KR:(["_law_load"]:List Str).Nodup:=by decide+kernel
theorem D8  (S:St.Src K mg "_law_begun" s_law_begun)(B:Bts mg):KA P w K mg base:=by
 refine Av (k:=0) S NB rfl (fun f fd F=>F.binds fun _ _ _ _ _ _ us hl=>match us,hl with| [_],_=>rfl) fun f cdv A outer s H E hr=>?_
 have hu:=Ag hr
 exact(AK (AU (As (AA (DH [] 1 ["_law_load"] rfl KS (Cu (AN AX (AB 0) AE)) (fun s H fp=>⟨(Ax 0 KR),DQ,(BD GN rfl B.list boot_list (AA (AB 0) AD))⟩)) (AA (BD Bo rfl B.tuple boot_tuple (AA (AN AX (AN AX (AB 0) AE) AE) AD)) (AA (As AD) AD))))))
theorem C6:AW ["_law_one","_law_other","_law_found","_law_mine","_law_its","_law_both"] ["_law_one","_law_other"] (AM s_law_pooled):=⟨rfl,rfl,rfl,by decide+kernel,rfl,by decide+kernel,by decide+kernel⟩
theorem Dg  (S:St.Src K mg "_law_pooled" s_law_pooled)(B:Bts mg)(Au:DV P w K mg base)(Bc:Ez P w K mg base)(BF:FI P w K mg base):IF P w K mg base:=by
 refine Av (k:=3) S C6 rfl (fun f fd F=>F.binds fun _ _ _ _ _ _ us hl=>match us,hl with| [_,_],_=>rfl) fun f cdv A outer s H E hr=>?_
 have hu:=Ag hr
 exact(AF (Aq 2 (As AD) C6.nd)
    (AF (D7 PassesOwn.never rfl (OY rfl B.zip (AN AX (AB 0) AE) (AN AX (AB 1) AE)) (Ft rfl (AZ (Ax 3 C6.nd) (AZ (Ax 4 C6.nd) CG))) (AF (Aq 5 (AJ Bc (hr.mono (by decide)) rfl (AA (AJ BF (hr.mono (by decide)) rfl (AA (Am (AA (AN AX (AB 0) AE) (AA AE AD))) (AA (AB 3) AD))) (AA (AJ BF (hr.mono (by decide)) rfl (AA (Am (AA (AN AX (AB 1) AE) (AA AE AD))) (AA (AB 4) AD))) AD))) C6.nd)
    (AK (Bq (Ds PySem.F.slot_list_append PySem.F.type_list_append Cm (AB 2) (AA (AJ BF (hr.mono (by decide)) rfl (AA (AB 5) (AA (AJ Au (hr.mono (by decide)) rfl (AA AE (AA (Af AV (AN AX (AB 0) AE) (AN AX (AB 1) AE)) AD))) AD))) AD))))))
    (AK (AU (BD Bo rfl B.tuple boot_tuple (AA (AB 2) AD))))))
theorem Gn:AW ["_law_train_here","_law_loads","_law_deed_here","_law_worths_here","_law_whole_here"] ["_law_train_here","_law_loads","_law_deed_here"] (AM s_law_cost):=⟨rfl,rfl,rfl,by decide+kernel,rfl,by decide+kernel,by decide+kernel⟩
theorem Lj:Ah ["_law_train_here","_law_loads","_law_deed_here","_law_worths_here","_law_whole_here"] (AM s_law_cost) ["_law_worths_here","_law_kind","_law_pieces_here","_law_owners"] (ixC [3] 3) (JM s_law_cost 0):=⟨rfl,by decide+kernel,by decide+kernel,by decide+kernel,by decide+kernel⟩
theorem FX:(["_law_worths_here","_law_kind","_law_pieces_here","_law_owners"]:List Str).Nodup:=by decide+kernel
theorem E7  (S:St.Src K mg "_law_cost" s_law_cost)(B:Bts mg)(Au:DV P w K mg base):Kv P w K mg base:=by
 refine Av (k:=2) S Gn rfl (fun f fd F=>F.binds fun _ _ _ _ _ _ us hl=>match us,hl with| [_,_,_],_=>rfl) fun f cdv A outer s H E hr=>?_
 have hu:=Ag hr
 exact(AF (Aq 3 (AN AX (AB 2) AE) Gn.nd)
    (AF (Aq 4 (Af AV (AY (Jg rfl) rfl B.sum boot_sum (AA (DH [3] 3 ["_law_worths_here","_law_kind","_law_pieces_here","_law_owners"] rfl Lj (Cu (AB 1)) (fun s H fp=>⟨(Ft rfl (AZ (Ax 1 FX) (AZ (Ax 2 FX) (AZ (Ax 3 FX) CG)))),DQ,(Af CF (AB 2) (AN AX (AB 0) (AB 1)))⟩)) AD)) (Af CF (AN AX (AB 0) AE) (AN AX (AB 3) (Hi C8 AE)))) Gn.nd)
    (AK (AU (AJ Au (hr.mono (by decide)) rfl (AA (Af CF (AN AX (AB 2) AE) (AN AX (AB 3) (AN AX (AN AX (AB 1) (AN AX (AB 2) AE)) AE))) (AA (AB 4) AD)))))))
theorem EX:AW ["_law_shares","_law_part","_law_owners","_law_found","_law_mine","_law_its"] ["_law_shares","_law_part","_law_owners"] (AM s_law_borne):=⟨rfl,rfl,rfl,by decide+kernel,rfl,by decide+kernel,by decide+kernel⟩
theorem DU  (S:St.Src K mg "_law_borne" s_law_borne)(B:Bts mg)(Bc:Ez P w K mg base)(BF:FI P w K mg base)(Cq:Hy P w K mg base):Jl P w K mg base:=by
 refine Av (k:=4) S EX rfl (fun f fd F=>F.binds fun _ _ _ _ _ _ us hl=>match us,hl with| [_,_,_],_=>rfl) fun f cdv A outer s H E hr=>?_
 have hu:=Ag hr
 exact(AF (Aq 3 (As AD) EX.nd)
    (AF (D7 PassesOwn.never rfl (OY rfl B.zip (AB 0) (AB 2)) (Ft rfl (AZ (Ax 4 EX.nd) (AZ (Ax 5 EX.nd) CG))) (AK (Bq (Ds PySem.F.slot_list_append PySem.F.type_list_append Cm (AB 3) (AA (AJ Bc (hr.mono (by decide)) rfl (AA (AJ BF (hr.mono (by decide)) rfl (AA (AB 4) (AA (AJ Cq (hr.mono (by decide)) rfl (AA (Am (AA AE (AA AE AD))) (AA (AB 1) AD))) AD))) (AA (AJ BF (hr.mono (by decide)) rfl (AA (AB 5) (AA (AB 1) AD))) AD))) AD)))))
    (AK (AU (BD Bo rfl B.tuple boot_tuple (AA (AB 3) AD))))))
end
section
open PyProof.Rows (boot_isinstance boot_int boot_bool boot_tuple boot_str boot_list boot_abs boot_all boot_any boot_sum boot_max boot_min boot_range boot_enumerate boot_zip boot_sorted boot_set boot_divmod)
variable{P:Program}{w:World}{K:PySem.W.Frag}{mg:Str->Option Value}{base:Heap}
theorem Gs:AW ["_law_shares","_law_deed_here","_law_found","_law_passes"] ["_law_shares","_law_deed_here"] (AM s_law_sold):=⟨rfl,rfl,rfl,by decide+kernel,rfl,by decide+kernel,by decide+kernel⟩
theorem D2  (S:St.Src K mg "_law_sold" s_law_sold)(B:Bts mg)(Bc:Ez P w K mg base)(BF:FI P w K mg base)(Cq:Hy P w K mg base):Kx P w K mg base:=by
 refine Av (k:=4) S Gs rfl (fun f fd F=>F.binds fun _ _ _ _ _ _ us hl=>match us,hl with| [_,_],_=>rfl) fun f cdv A outer s H E hr=>?_
 have hu:=Ag hr
 exact(AF (Aq 2 (BD GN rfl B.list boot_list (AA (AB 0) AD)) Gs.nd)
    (AF (Aq 3 (AJ BF (hr.mono (by decide)) rfl (AA (AN AX (AB 2) (AN AX (AB 1) AE)) (AA (AN AX (AB 1) AE) AD))) Gs.nd)
    (AF (Bu (AJ Cq (hr.mono (by decide)) rfl (AA (AN AX (AB 2) (AN AX (AB 1) AE)) (AA (AB 3) AD))) (AB 2) (AN AX (AB 1) AE))
    (AF (Bu (AJ Bc (hr.mono (by decide)) rfl (AA (AN AX (AB 2) (AN AX (AB 1) AE)) (AA (AB 3) AD))) (AB 2) (AN AX (AB 1) AE))
    (AK (AU (BD Bo rfl B.tuple boot_tuple (AA (AB 2) AD))))))))
theorem Cj:AW ["_law_train_here","_law_state","_law_deed_here","_law_loads","_law_holders","_law_numbers","_law_part","_law_owners","_law_load"] ["_law_train_here","_law_state","_law_deed_here"] (AM s_law_turn):=⟨rfl,rfl,rfl,by decide+kernel,rfl,by decide+kernel,by decide+kernel⟩
theorem Er  (S:St.Src K mg "_law_turn" s_law_turn)(E7:Kv P w K mg base)(DU:Jl P w K mg base)(D2:Kx P w K mg base):LF P w K mg base:=by
 refine Av (k:=5) S Cj rfl (fun f fd F=>F.binds fun _ _ _ _ _ _ us hl=>match us,hl with| [_,_,_],_=>rfl) fun f cdv A outer s H E hr=>?_
 have hu:=Ag hr
 exact(AF (IJ (AB 1) (Ft rfl (AZ (Ax 3 Cj.nd) (AZ (Ax 4 Cj.nd) (AZ (Ax 5 Cj.nd) CG)))))
    (AK (Bk (Ac (Bn hu) (AN AX (AB 2) AE) A5) (AF (LD (i:=6) (j:=7) rfl Cj.nd rfl rfl (by decide) rfl rfl (AJ E7 (hr.mono (by decide)) rfl (AA (AB 0) (AA (AB 3) (AA (AB 2) AD)))) (AN AX (AN AX (AB 3) (AN AX (AB 2) AE)) AE))
    (AF (Bu (Af DY (AN AX (AN AX (AB 3) (AN AX (AB 2) AE)) AE) (AN AX (AB 2) AE)) (AN AX (AB 3) (AN AX (AB 2) AE)) AE)
    (AF (D7 PassesOwn.never rfl (Cu (AB 3)) (Ax 8 Cj.nd) (AK (Bu (AJ DU (hr.mono (by decide)) rfl (AA (AN AX (AB 8) AE) (AA (AB 6) (AA (AB 7) AD)))) (AB 8) AE)))
    (AK (Bu (AJ DU (hr.mono (by decide)) rfl (AA (AB 4) (AA (AB 6) (AA (AB 7) AD)))) (AB 1) AE))))) (AF (D7 PassesOwn.never rfl (Cu (AB 3)) (Ax 8 Cj.nd) (AK (Bu (AJ D2 (hr.mono (by decide)) rfl (AA (AN AX (AB 8) AE) (AA (AB 2) AD))) (AB 8) AE)))
    (AK (Bu (AJ D2 (hr.mono (by decide)) rfl (AA (AB 4) (AA (AB 2) AD))) (AB 1) AE))))))
theorem Ca:AW ["_law_train_here","_law_state","_law_deed_here","_law_loads","_law_holders","_law_numbers","_law_word","_law_one","_law_other","_law_load","_law_given","_law_kind","_law_got"] ["_law_train_here","_law_state","_law_deed_here"] (AM s_law_do):=⟨rfl,rfl,rfl,by decide+kernel,rfl,by decide+kernel,by decide+kernel⟩
theorem Nt:Ah ["_law_train_here","_law_state","_law_deed_here","_law_loads","_law_holders","_law_numbers","_law_word","_law_one","_law_other","_law_load","_law_given","_law_kind","_law_got"] (AM s_law_do) ["_law_deed_here","_law_one"] (ixC [2] 1) (JM s_law_do 0):=⟨rfl,by decide+kernel,by decide+kernel,by decide+kernel,by decide+kernel⟩
theorem Ni:(["_law_deed_here","_law_one"]:List Str).Nodup:=by decide+kernel
theorem Hh  (S:St.Src K mg "_law_do" s_law_do)(B:Bts mg)(Dg:IF P w K mg base)(Er:LF P w K mg base):O0 P w K mg base:=by
 refine Av (k:=6) S Ca rfl (fun f fd F=>F.binds fun _ _ _ _ _ _ us hl=>match us,hl with| [_,_,_],_=>rfl) fun f cdv A outer s H E hr=>?_
 have hu:=Ag hr
 exact(AF (IJ (AB 1) (Ft rfl (AZ (Ax 3 Ca.nd) (AZ (Ax 4 Ca.nd) (AZ (Ax 5 Ca.nd) CG)))))
    (AF (Aq 6 (AN AX (AB 2) AE) Ca.nd)
    (AK (Bk (Ac (Bn hu) (AB 6) A5) (AK (Bq (Ds PySem.F.slot_list_append PySem.F.type_list_append Cm (AB 3) (AA (As (AA (AN AX (AB 2) AE) (AA (AN AX (AB 2) AE) (AA (BD Bo rfl B.tuple boot_tuple (AA (DH [2] 1 ["_law_deed_here","_law_one"] rfl Nt (Ef rfl B.range (AA (AN AX (AB 0) AE) AD)) (fun s H fp=>⟨(Ax 1 Ni),DQ,(Am (AA (BD JQ rfl B.int boot_int (AA (Ey (Bn hu) (AB 1) (AN AX (AB 0) AE)) AD)) (AA AE AD)))⟩)) AD)) AD)))) AD)))) (AK (Bk (Ac (Bn hu) (AB 6) A5) (AF (LD (i:=7) (j:=8) rfl Ca.nd rfl rfl (by decide) rfl rfl (AN AX (AB 3) (AN AX (AB 2) AE)) (AN AX (AB 3) (AN AX (AB 2) AE)))
    (AF (Bq (Ds PySem.F.slot_list_append PySem.F.type_list_append Cm (AB 3) (AA (As (AA (AN AX (AB 7) AE) (AA (Af AV (AN AX (AB 7) AE) (AN AX (AB 8) AE)) (AA (AJ Dg (hr.mono (by decide)) rfl (AA (AB 7) (AA (AB 8) AD))) AD)))) AD)))
    (AF (Bu AE (AB 7) AE)
    (AK (Bu AE (AB 8) AE))))) (AK (Bk (Ac G8 (AB 6) (Am (AA A5 (AA A5 AD)))) (AF (IJ (FD (AB 2) (Hi C8 AE)) (Ft rfl (AZ (Ax 9 Ca.nd) (AZ (Ax 10 Ca.nd) (AZ (Ax 11 Ca.nd) (AZ (Ax 12 Ca.nd) CG))))))
    (AF (Bu (Af DY (AN AX (AN AX (AB 3) (AB 9)) AE) (AB 10)) (AN AX (AB 3) (AB 9)) AE)
    (AF (Bq (Ds PySem.F.slot_list_append PySem.F.type_list_append Cm (AB 3) (AA (As (AA (AB 11) (AA (AB 12) (AA (AN AX (AN AX (AB 3) (AB 9)) AE) AD)))) AD)))
    (AK (Bq (Ds PySem.F.slot_list_extend PySem.F.type_list_extend Ws (AB 5) (AA (Af CF (P9 (AB 2) AE AE) (BD JQ rfl B.int boot_int (AA (Ey (Bn hu) (AB 6) A5) AD))) AD))))))) (AK (Bk (Ac (Bn hu) (AB 6) A5) (AK (Bu (Af DY (AN AX (AN AX (AB 3) (AN AX (AB 2) AE)) AE) (AN AX (AB 2) AE)) (AN AX (AB 3) (AN AX (AB 2) AE)) AE)) (AK (Bq (AJ Er (hr.mono (by decide)) rfl (AA (AB 0) (AA (AB 1) (AA (AB 2) AD))))))))))))))))
theorem Be:AW ["_law_pen_here","_law_train_here","_law_state","_law_loads","_law_holders","_law_numbers","_law_full","_law_way","_law_load","_law_some","_law_same","_law_kind","_law_left","_law_partner"] ["_law_pen_here","_law_train_here","_law_state"] (AM s_law_deed):=⟨rfl,rfl,rfl,by decide+kernel,rfl,by decide+kernel,by decide+kernel⟩
theorem MI:Ah ["_law_pen_here","_law_train_here","_law_state","_law_loads","_law_holders","_law_numbers","_law_full","_law_way","_law_load","_law_some","_law_same","_law_kind","_law_left","_law_partner"] (AM s_law_deed) ["_law_at","_law_load"] (ixC [] 2) (JM s_law_deed 0):=⟨rfl,by decide+kernel,by decide+kernel,by decide+kernel,by decide+kernel⟩
theorem G4:(["_law_at","_law_load"]:List Str).Nodup:=by decide+kernel
theorem LY:Ah ["_law_pen_here","_law_train_here","_law_state","_law_loads","_law_holders","_law_numbers","_law_full","_law_way","_law_load","_law_some","_law_same","_law_kind","_law_left","_law_partner"] (AM s_law_deed) ["_law_loads","_law_load","_law_at"] (ixC [3,8] 1) (JM s_law_deed 1):=⟨rfl,by decide+kernel,by decide+kernel,by decide+kernel,by decide+kernel⟩
theorem LW:(["_law_loads","_law_load","_law_at"]:List Str).Nodup:=by decide+kernel
theorem Lp:Ah ["_law_pen_here","_law_train_here","_law_state","_law_loads","_law_holders","_law_numbers","_law_full","_law_way","_law_load","_law_some","_law_same","_law_kind","_law_left","_law_partner"] (AM s_law_deed) ["_law_numbers","_law_number"] (ixC [5] 1) (JM s_law_deed 2):=⟨rfl,by decide+kernel,by decide+kernel,by decide+kernel,by decide+kernel⟩
theorem LQ:(["_law_numbers","_law_number"]:List Str).Nodup:=by decide+kernel
theorem FA  (S:St.Src K mg "_law_deed" s_law_deed)(B:Bts mg)(AI:BY P w K mg base)(Bh:F3 P w K mg base)(D9:JR P w K mg base)(Dh:IL P w K mg base):K9 P w K mg base:=by
 refine Av (k:=3) S Be rfl (fun f fd F=>F.binds fun _ _ _ _ _ _ us hl=>match us,hl with| [_,_,_],_=>rfl) fun f cdv A outer s H E hr=>?_
 have hu:=Ag hr
 exact(AF (IJ (AB 2) (Ft rfl (AZ (Ax 3 Be.nd) (AZ (Ax 4 Be.nd) (AZ (Ax 5 Be.nd) CG)))))
    (AF (CU [] 2 ["_law_at","_law_load"] rfl Be.nd rfl rfl MI (OP rfl B.enumerate (AB 3)) (fun s H fp=>⟨(Ft rfl (AZ (Ax 0 G4) (AZ (Ax 1 G4) CG))),(Ed (Ac HM (AN AX (AB 1) AE) AE)),(AB 0)⟩))
    (AF (Aq 7 (AJ AI (hr.mono (by decide)) rfl (AA (AB 0) (AA AE AD))) Be.nd)
    (AF (Bk (DW.dt (Kl (Ac Gg (AB 7) AE) (HG (Ac (Bn hu) (AB 6) (As AD))))) (AK (AU (Am (AA A5 (AA (AJ AI (hr.mono (by decide)) rfl (AA (AB 0) (AA (AN AX (AB 1) AE) AD))) (AA (AJ AI (hr.mono (by decide)) rfl (AA (AB 0) (AA (AN AX (AB 1) AE) AD))) (AA (AJ Bh (hr.mono (by decide)) rfl (AA (AB 0) AD)) AD))))))) An)
    (AF (Aq 8 (AN AX (AB 6) (AJ AI (hr.mono (by decide)) rfl (AA (AB 0) (AA (AY BA rfl B.len boot_len (AA (AB 6) AD)) AD)))) Be.nd)
    (AF (Aq 9 (Af AV AE (AJ AI (hr.mono (by decide)) rfl (AA (AB 0) (AA (AY (Mu rfl) rfl B.min boot_min (AA (AN AX (AN AX (AB 3) (AB 8)) AE) (AA AE AD))) AD)))) Be.nd)
    (AF (Bk (Ac Gg (AB 7) AE) (AF (CU [3,8] 1 ["_law_loads","_law_load","_law_at"] rfl Be.nd rfl rfl LY (Cu (AB 6)) (fun s H fp=>⟨(Ax 2 LW),(Ed (DW.dt (Fi (Ac (E8 hu) (AB 2) (AB 1)) (EI (Ac (Bn hu) (AN AX (AN AX (AB 0) (AB 2)) AE) (AN AX (AN AX (AB 0) (AB 1)) AE)))))),(AB 2)⟩))
    (AK (Bk (Ac (E8 hu) (AB 10) (As AD)) (AK (AU (Am (AA A5 (AA (AB 8) (AA (AN AX (AB 10) (AJ AI (hr.mono (by decide)) rfl (AA (AB 0) (AA (AY BA rfl B.len boot_len (AA (AB 10) AD)) AD)))) AD)))))) An))) An)
    (AF (Bk (DW.dt (Fi (Ac Gg (AB 7) AE) (EI (Ac HM (AN AX (AB 1) AE) AE)))) (AF (Aq 11 (Af FV (Af AV (Af AV (AN AX (AN AX (AB 3) (AB 8)) AE) AE) (AJ AI (hr.mono (by decide)) rfl (AA (AB 0) (AA (Af DY (AN AX (AB 1) AE) AE) AD)))) (AN AX (AB 1) AE)) Be.nd)
    (AF (CU [5] 1 ["_law_numbers","_law_number"] rfl Be.nd rfl rfl Lp (Ef rfl B.range (AA AE AD)) (fun s H fp=>⟨(Ax 1 LQ),(Ed (Ac JO (AB 1) (AB 0))),(AB 1)⟩))
    (AF (Bk (DW.dt (Fi (Ac (Bn hu) (AB 7) AE) (EI (Ac (E8 hu) (AB 12) (As AD))))) (AK (AU (Am (AA A5 (AA (AN AX (AB 12) (AJ AI (hr.mono (by decide)) rfl (AA (AB 0) (AA (AY BA rfl B.len boot_len (AA (AB 12) AD)) AD)))) (AA (AB 8) (AA (AB 9) (AA (AB 11) (AA (AJ Bh (hr.mono (by decide)) rfl (AA (AB 0) AD)) AD))))))))) An)
    (AK (AU (Am (AA A5 (AA (AB 8) (AA (AB 9) (AA (AB 11) (AA (AJ Bh (hr.mono (by decide)) rfl (AA (AB 0) AD)) AD))))))))))) An)
    (AF (Bk (Ac (Bn hu) (AB 7) AE) (AK (AU (Am (AA A5 (AA (AB 8) (AA (AB 9) AD)))))) An)
    (AF (Bk (DW.dt (Fi (Ac (Bn hu) (AB 7) AE) (EI (Ac HM (AN AX (AB 1) AE) AE)))) (AF (Aq 13 (AJ AI (hr.mono (by decide)) rfl (AA (AB 0) (AA (AN AX (AB 1) AE) AD))) Be.nd)
    (AK (AU (Am (AA A5 (AA (AB 13) (AA (Af FV (Af AV (Af AV (AB 13) AE) (AJ AI (hr.mono (by decide)) rfl (AA (AB 0) (AA (Af DY (AN AX (AB 1) AE) AE) AD)))) (AN AX (AB 1) AE)) (AA (AJ D9 (hr.mono (by decide)) rfl (AA (AB 0) AD)) AD)))))))) An)
    (AK (AU (Am (AA A5 (AA (AB 8) (AA (AB 9) (AA (AJ Dh (hr.mono (by decide)) rfl (AA (AB 0) (AA (Af AV (AN AX (AB 1) AE) AE) AD))) AD)))))))))))))))))
theorem DM:AW ["_law_pen_here","_law_most","_law_train_here","_law_first_here","_law_state","_law_deeds","_law_k","_law_deed_here"] ["_law_pen_here","_law_most"] (AM s_law_book):=⟨rfl,rfl,rfl,by decide+kernel,rfl,by decide+kernel,by decide+kernel⟩
theorem ME:Ah ["_law_pen_here","_law_most","_law_train_here","_law_first_here","_law_state","_law_deeds","_law_k","_law_deed_here"] (AM s_law_book) ["_law_one"] (ixC [] 1) (JM s_law_book 0):=⟨rfl,by decide+kernel,by decide+kernel,by decide+kernel,by decide+kernel⟩
theorem Ll:(["_law_one"]:List Str).Nodup:=by decide+kernel
theorem El  (S:St.Src K mg "_law_book" s_law_book)(B:Bts mg)(AI:BY P w K mg base)(ED:Jc P w K mg base)(EF:Ji P w K mg base)(D8:KA P w K mg base)(Hh:O0 P w K mg base)(FA:K9 P w K mg base):Kp P w K mg base:=by
 refine Av (k:=7) S DM rfl (fun f fd F=>F.binds fun _ _ _ _ _ _ us hl=>match us,hl with| [_,_],_=>rfl) fun f cdv A outer s H E hr=>?_
 have hu:=Ag hr
 exact(AF (Aq 2 (AJ ED (hr.mono (by decide)) rfl (AA (AB 0) AD)) DM.nd)
    (AF (Aq 3 (AJ EF (hr.mono (by decide)) rfl (AA (AB 0) (AA (AB 2) AD))) DM.nd)
    (AF (LD (i:=4) (j:=5) rfl DM.nd rfl rfl (by decide) rfl rfl (AJ D8 (hr.mono (by decide)) rfl (AA (Am (AA (AB 2) (AA (AB 3) (AA (Am AD) AD)))) AD)) (As AD))
    (AF (D7 PassesOwn.never rfl (Ef rfl B.range (AA (AJ AI (hr.mono (by decide)) rfl (AA (AB 0) (AA (Af AV (AB 1) AE) AD))) AD)) (Ax 6 DM.nd) (AF (Aq 7 (AJ FA (hr.mono (by decide)) rfl (AA (AB 0) (AA (AB 2) (AA (AB 4) AD)))) DM.nd)
    (AK (Bk (DW.dt (Kl (Ac (E8 hu) (AN AX (AB 7) AE) A5) (HG (Ac Gg (AY BA rfl B.len boot_len (AA (DH [] 1 ["_law_one"] rfl ME (Cu (AB 5)) (fun s H fp=>⟨(Ax 0 Ll),(Ed (Ac (Bn hu) (AN AX (AB 0) AE) A5)),(AB 0)⟩)) AD)) AE)))) (AF (Bq (AJ Hh (hr.mono (by decide)) rfl (AA (AB 2) (AA (AB 4) (AA (AB 7) AD)))))
    (AK (Bq (Ds PySem.F.slot_list_append PySem.F.type_list_append Cm (AB 5) (AA (AB 7) AD))))) An))))
    (AK (AU (Am (AA (AB 2) (AA (AB 3) (AA (BD Bo rfl B.tuple boot_tuple (AA (AB 5) AD)) AD))))))))))
theorem Ec:AW ["_law_book_here","_law_found","_law_deed_here"] ["_law_book_here"] (AM s_law_parents):=⟨rfl,rfl,rfl,by decide+kernel,rfl,by decide+kernel,by decide+kernel⟩
theorem Io:Ah ["_law_book_here","_law_found","_law_deed_here"] (AM s_law_parents) ["_law_load"] (ixC [] 1) (JM s_law_parents 0):=⟨rfl,by decide+kernel,by decide+kernel,by decide+kernel,by decide+kernel⟩
theorem Ih:(["_law_load"]:List Str).Nodup:=by decide+kernel
theorem C3  (S:St.Src K mg "_law_parents" s_law_parents)(B:Bts mg):Hb P w K mg base:=by
 refine Av (k:=0) S Ec rfl (fun f fd F=>F.binds fun _ _ _ _ _ _ us hl=>match us,hl with| [_],_=>rfl) fun f cdv A outer s H E hr=>?_
 have hu:=Ag hr
 exact(AF (CU [] 1 ["_law_load"] rfl Ec.nd rfl rfl Io (Cu (AN AX (AB 0) AE)) (fun s H fp=>⟨(Ax 0 Ih),DQ,(As AD)⟩))
    (AF (D7 PassesOwn.never rfl (Cu (AN AX (AB 0) AE)) (Ax 2 Ec.nd) (AK (Bk (Ac (Bn hu) (AN AX (AB 2) AE) A5) (AK (Bq (Ds PySem.F.slot_list_append PySem.F.type_list_append Cm (AB 1) (AA (As AD) AD)))) (AK (Bk (Ac (Bn hu) (AN AX (AB 2) AE) A5) (AK (Bq (Ds PySem.F.slot_list_append PySem.F.type_list_append Cm (AB 1) (AA (AY L9 rfl B.sorted boot_sorted (AA (P9 (AB 2) AE AE) AD)) AD)))) (AK (Bk (Ac G8 (AN AX (AB 2) AE) (Am (AA A5 (AA A5 AD)))) (AK (Bq (Ds PySem.F.slot_list_append PySem.F.type_list_append Cm (AB 1) (AA (As (AA (AN AX (AB 2) (Hi C8 AE)) AD)) AD)))) An)))))))
    (AK (AU (AB 1)))))
end
section
open PyProof.Rows (boot_isinstance boot_int boot_bool boot_tuple boot_str boot_list boot_abs boot_all boot_any boot_sum boot_max boot_min boot_range boot_enumerate boot_zip boot_sorted boot_set boot_divmod)
variable{P:Program}{w:World}{K:PySem.W.Frag}{mg:Str->Option Value}{base:Heap}
theorem BX:AW ["_law_pen_here","_law_train_here","_law_deeds","_law_sizes","_law_turn_here","_law_full","_law_load","_law_same","_law_other","_law_kind","_law_some"] ["_law_pen_here"] (AM s_law_pooly):=⟨rfl,rfl,rfl,by decide+kernel,rfl,by decide+kernel,by decide+kernel⟩
theorem Ke:Ah ["_law_pen_here","_law_train_here","_law_deeds","_law_sizes","_law_turn_here","_law_full","_law_load","_law_same","_law_other","_law_kind","_law_some"] (AM s_law_pooly) ["_law_at","_law_row"] (ixC [] 2) (JM s_law_pooly 0):=⟨rfl,by decide+kernel,by decide+kernel,by decide+kernel,by decide+kernel⟩
theorem Gb:(["_law_at","_law_row"]:List Str).Nodup:=by decide+kernel
theorem KN:Ah ["_law_pen_here","_law_train_here","_law_deeds","_law_sizes","_law_turn_here","_law_full","_law_load","_law_same","_law_other","_law_kind","_law_some"] (AM s_law_pooly) ["_law_sizes","_law_load","_law_at"] (ixC [3,6] 1) (JM s_law_pooly 1):=⟨rfl,by decide+kernel,by decide+kernel,by decide+kernel,by decide+kernel⟩
theorem KY:(["_law_sizes","_law_load","_law_at"]:List Str).Nodup:=by decide+kernel
theorem EB  (S:St.Src K mg "_law_pooly" s_law_pooly)(B:Bts mg)(AI:BY P w K mg base):J0 P w K mg base:=by
 refine Av (k:=1) S BX rfl (fun f fd F=>F.binds fun _ _ _ _ _ _ us hl=>match us,hl with| [_],_=>rfl) fun f cdv A outer s H E hr=>?_
 have hu:=Ag hr
 exact(AF (Aq 1 (Am (AA AE (AA AE (AA AE (AA (Am (AA (Am (AA AE (AA AE AD))) (AA (Am (AA AE (AA AE AD))) AD))) (AA AE (AA AE AD))))))) BX.nd)
    (AF (IJ (Am (AA (As (AA (Am (AA A5 (AA AE (AA AE (AA AE AD))))) (AA (Am (AA A5 (AA AE (AA AE (AA AE AD))))) AD))) (AA (As (AA (As (AA AE (AA AE AD))) (AA (As (AA AE (AA AE AD))) AD))) AD))) (Ft rfl (AZ (Ax 2 BX.nd) (AZ (Ax 3 BX.nd) CG))))
    (AF (D7 PassesOwn.never rfl (Ef rfl B.range (AA (AJ AI (hr.mono (by decide)) rfl (AA (AB 0) (AA AE AD))) AD)) (Ax 4 BX.nd) (AF (CU [] 2 ["_law_at","_law_row"] rfl BX.nd rfl rfl Ke (OP rfl B.enumerate (AB 3)) (fun s H fp=>⟨(Ft rfl (AZ (Ax 0 Gb) (AZ (Ax 1 Gb) CG))),(Ed (Ac HM (AN AX (AB 1) AE) AE)),(AB 0)⟩))
    (AF (Aq 6 (AN AX (AB 5) (AJ AI (hr.mono (by decide)) rfl (AA (AB 0) (AA (AY BA rfl B.len boot_len (AA (AB 5) AD)) AD)))) BX.nd)
    (AF (CU [3,6] 1 ["_law_sizes","_law_load","_law_at"] rfl BX.nd rfl rfl KN (Cu (AB 5)) (fun s H fp=>⟨(Ax 2 KY),(Ed (DW.dt (Fi (Ac (E8 hu) (AB 2) (AB 1)) (EI (Ac (Bn hu) (AN AX (AN AX (AB 0) (AB 2)) AE) (AN AX (AN AX (AB 0) (AB 1)) AE)))))),(AB 2)⟩))
    (AK (Bk (DW.dt (Fi (Ac (E8 hu) (AB 7) (As AD)) (EI (Ac (Bn hu) (AJ AI (hr.mono (by decide)) rfl (AA (AB 0) (AA AE AD))) AE)))) (AF (Aq 8 (AN AX (AB 7) (AJ AI (hr.mono (by decide)) rfl (AA (AB 0) (AA (AY BA rfl B.len boot_len (AA (AB 7) AD)) AD)))) BX.nd)
    (AF (Bq (Ds PySem.F.slot_list_append PySem.F.type_list_append Cm (AB 2) (AA (Am (AA A5 (AA (AB 6) (AA (AB 8) AD)))) AD)))
    (AF (Bq (Ds PySem.F.slot_list_append PySem.F.type_list_append Cm (AB 3) (AA (As (AA (AN AX (AN AX (AB 3) (AB 6)) AE) (AA (Af AV (AN AX (AN AX (AB 3) (AB 6)) AE) (AN AX (AN AX (AB 3) (AB 8)) AE)) AD))) AD)))
    (AF (Bu AE (AN AX (AB 3) (AB 6)) AE)
    (AK (Bu AE (AN AX (AB 3) (AB 8)) AE)))))) (AF (Aq 9 (Af DY AE (AN AX (AN AX (AB 3) (AB 6)) AE)) BX.nd)
    (AF (Aq 10 (Af AV AE (AJ AI (hr.mono (by decide)) rfl (AA (AB 0) (AA (AN AX (AN AX (AB 3) (AB 6)) AE) AD)))) BX.nd)
    (AF (Bq (Ds PySem.F.slot_list_append PySem.F.type_list_append Cm (AB 2) (AA (Am (AA A5 (AA (AB 6) (AA (AB 10) (AA (AB 9) (AA (Af AV AE (AJ AI (hr.mono (by decide)) rfl (AA (AB 0) (AA AE AD)))) AD)))))) AD)))
    (AF (Bu (Af DY (AN AX (AN AX (AB 3) (AB 6)) AE) (AB 10)) (AN AX (AB 3) (AB 6)) AE)
    (AK (Bq (Ds PySem.F.slot_list_append PySem.F.type_list_append Cm (AB 3) (AA (As (AA (AB 9) (AA (AN AX (AN AX (AB 2) (Hi C8 AE)) AE) AD))) AD))))))))))))))
    (AK (AU (Am (AA (AB 1) (AA (Am AD) (AA (BD Bo rfl B.tuple boot_tuple (AA (AB 2) AD)) AD)))))))))
theorem F9:AW ["_law_pen_here","_law_deep","_law_way","_law_parts"] ["_law_pen_here","_law_deep"] (AM s_law_thing):=⟨rfl,rfl,rfl,by decide+kernel,rfl,by decide+kernel,by decide+kernel⟩
theorem Kc:Ah ["_law_pen_here","_law_deep","_law_way","_law_parts"] (AM s_law_thing) ["_law_pen_here","_law_deep","_law_k"] (ixC [0,1] 1) (JM s_law_thing 0):=⟨rfl,by decide+kernel,by decide+kernel,by decide+kernel,by decide+kernel⟩
theorem KO:(["_law_pen_here","_law_deep","_law_k"]:List Str).Nodup:=by decide+kernel
theorem Bf  (S:St.Src K mg "_law_thing" s_law_thing)(B:Bts mg)(AI:BY P w K mg base):∀n:Nat,n≤8->St.Dfn P w K mg base "_law_thing" (2+n) ["_law_pen_here","_law_deep"] (spD K 2 (Aw n))
  |0,_=>Oy S (fun f fd F=>F.binds fun _ _ _ _ _ _ us hl=>match us,hl with| [_,_],_=>rfl)
  | n + 1, hn => by
    have Bf:=Bf S B AI n (by omega)
    refine Av (k:=2+n) S F9 rfl (fun f fd F=>F.binds fun _ _ _ _ _ _ us hl=>match us,hl with| [_,_],_=>rfl) fun f cdv A outer s H E hr=>?_
    have hu:=Ag hr
    exact(AF (Aq 2 (AJ AI (hr.mono (by omega)) rfl (AA (AB 0) (AA AE AD))) F9.nd)
        (AF (Bk (DW.dt (Kl (Ac Gg (AB 2) AE) (HG (Ac (Bn hu) (AB 1) AE)))) (AK (AU (AN AX (As (AA Qw (AA Ik (AA Ik (AA AE (AA AE (AA (Hi C8 AE) (AA AE (AA (Af Nn AE AE) (AA A5 (AA A5 (AA (Am AD) (AA (As AD) AD))))))))))))) (AJ AI (hr.mono (by omega)) rfl (AA (AB 0) (AA AE AD)))))) An)
        (AF (CU [0,1] 1 ["_law_pen_here","_law_deep","_law_k"] rfl F9.nd rfl rfl Kc (Ef rfl B.range (AA (AJ AI (hr.mono (by omega)) rfl (AA (AB 0) (AA AE AD))) AD)) (fun s H fp=>⟨(Ax 2 KO),DQ,(AJ Bf (hr.mono (by omega)) rfl (AA (AB 0) (AA (Af DY (AB 1) AE) AD)))⟩))
        (AF (Bk (Ac (Bn hu) (AB 2) AE) (AK (AU (AB 3))) An)
        (AF (Bk (Ac (Bn hu) (AB 2) AE) (AK (AU (X7 (Td A5 (AB 3) WX) (List.cons_ne_nil _ _) (by decide)))) An)
        (AK (AU (BD Bo rfl B.tuple boot_tuple (AA (AB 3) AD)))))))))
theorem Fd:AW ["_law_pen_here","_law_thing_here","_law_at","_law_way"] ["_law_pen_here","_law_thing_here"] (AM s_law_spoilt):=⟨rfl,rfl,rfl,by decide+kernel,rfl,by decide+kernel,by decide+kernel⟩
theorem CA  (S:St.Src K mg "_law_spoilt" s_law_spoilt)(B:Bts mg)(AI:BY P w K mg base)(Bf:J9 P w K mg base 8):∀n:Nat,n≤8->St.Dfn P w K mg base "_law_spoilt" (11+n) ["_law_pen_here","_law_thing_here"] (spD K 2 (BV n))
  |0,_=>Oy S (fun f fd F=>F.binds fun _ _ _ _ _ _ us hl=>match us,hl with| [_,_],_=>rfl)
  | n + 1, hn => by
    have CA:=CA S B AI Bf n (by omega)
    refine Av (k:=11+n) S Fd rfl (fun f fd F=>F.binds fun _ _ _ _ _ _ us hl=>match us,hl with| [_,_],_=>rfl) fun f cdv A outer s H E hr=>?_
    have hu:=Ag hr
    exact(AF (Bk (DW.dt (Fi (E5 (AY CP rfl B.isi boot_isinstance (AA (AB 1) (AA (Jr rfl B.tuple boot_tuple) AD)))) (Fi (Ac (E8 hu) (AB 1) (Am AD)) (EI (Ac HM (AJ AI (hr.mono (by omega)) rfl (AA (AB 0) (AA AE AD))) AE))))) (AF (Aq 2 (AJ AI (hr.mono (by omega)) rfl (AA (AB 0) (AA (AY BA rfl B.len boot_len (AA (AB 1) AD)) AD))) Fd.nd)
        (AK (AU (Af AV (Af AV (FY (AB 1) (AB 2)) (Am (AA (AJ CA (hr.mono (by omega)) rfl (AA (AB 0) (AA (AN AX (AB 1) (AB 2)) AD))) AD))) (FD (AB 1) (Af AV (AB 2) AE)))))) An)
        (AF (Aq 3 (AJ AI (hr.mono (by omega)) rfl (AA (AB 0) (AA AE AD))) Fd.nd)
        (AF (Bk (DW.dt (Fi (E5 (AY CP rfl B.isi boot_isinstance (AA (AB 1) (AA (Jr rfl B.tuple boot_tuple) AD)))) (EI (Ac Gg (AB 3) AE)))) (AK (AU (AN AX (As (AA (Af AV (AB 1) (FD (AB 1) (Hi C8 AE))) (AA (FY (AB 1) (Hi C8 AE)) (AA (BD GN rfl B.list boot_list (AA (AB 1) AD)) (AA (VQ (AB 1)) AD))))) (AB 3)))) An)
        (AF (Bk (DW.dt (Fi (E5 (AY CP rfl B.isi boot_isinstance (AA (AB 1) (AA (Jr rfl B.int boot_int) AD)))) (EI (Ac Gg (AB 3) AE)))) (AK (AU (AN AX (As (AA (Af AV (AB 1) AE) (AA (Af DY (AB 1) AE) (AA (Ey HM (AB 1) AE) (AA (BD QF rfl B.str boot_str (AA (AB 1) AD)) AD))))) (AB 3)))) An)
        (AF (Bk (DW.dt (Fi (E5 (AY CP rfl B.isi boot_isinstance (AA (AB 1) (AA (Jr rfl B.str boot_str) AD)))) (EI (Ac Gg (AB 3) AE)))) (AK (AU (AN AX (As (AA (Af AV (AB 1) A5) (AA (TM (AB 1)) (AA (FY (AB 1) (Hi C8 AE)) (AA (Af AV A5 (AB 1)) AD))))) (AB 3)))) An)
        (AK (AU (AJ Bf (hr.mono (by omega)) rfl (AA (AB 0) (AA AE AD))))))))))
theorem HR:AW ["_law_rows","_law_load","_law_thing_here","_law_one"] ["_law_rows","_law_load","_law_thing_here"] (AM s_law_is_one):=⟨rfl,rfl,rfl,by decide+kernel,rfl,by decide+kernel,by decide+kernel⟩
theorem JJ:Ah ["_law_rows","_law_load","_law_thing_here","_law_one"] (AM s_law_is_one) ["_law_rows","_law_one","_law_other"] (ixC [0] 2) (JM s_law_is_one 0):=⟨rfl,by decide+kernel,by decide+kernel,by decide+kernel,by decide+kernel⟩
theorem F2:(["_law_rows","_law_one","_law_other"]:List Str).Nodup:=by decide+kernel
theorem Dk  (S:St.Src K mg "_law_is_one" s_law_is_one)(B:Bts mg):IX P w K mg base:=by
 refine Av (k:=0) S HR rfl (fun f fd F=>F.binds fun _ _ _ _ _ _ us hl=>match us,hl with| [_,_,_],_=>rfl) fun f cdv A outer s H E hr=>?_
 have hu:=Ag hr
 exact(AF (Bk (DW.dt (Kl (Hg (E5 (AY CP rfl B.isi boot_isinstance (AA (AB 2) (AA (Jr rfl B.tuple boot_tuple) AD))))) (HG (Ac (Xb hu) (AB 2) (Am AD))))) (AK (AU Ik)) An)
    (AF (D7 PassesOwn.never rfl (Cu (AB 2)) (Ax 3 HR.nd) (AK (Bk (DW.dt (Kl (Hg (E5 (AY CP rfl B.isi boot_isinstance (AA (AB 3) (AA (Jr rfl B.int boot_int) AD))))) (Kl (E5 (AY CP rfl B.isi boot_isinstance (AA (AB 3) (AA (Jr rfl B.bool boot_bool) AD)))) (HG (Hg (Vz AE (AB 3) (AY BA rfl B.len boot_len (AA (AB 0) AD)))))))) (AK (AU Ik)) An)))
    (AF (Bk (DW.dt (Kl (Ac (E8 hu) (AN AX (AB 0) (AN AX (AB 2) AE)) (As AD)) (HG (Ac (E8 hu) (AN AX (AB 2) (Hi C8 AE)) (AB 1))))) (AK (AU Ik)) An)
    (AK (AU (Ey (Bn hu) (DH [0] 2 ["_law_rows","_law_one","_law_other"] rfl JJ (OY rfl B.zip (AB 2) (FD (AB 2) AE)) (fun s H fp=>⟨(Ft rfl (AZ (Ax 1 F2) (AZ (Ax 2 F2) CG))),(Ed (Ac JO (AB 1) (AN AX (AB 0) (AB 2)))),AE⟩)) (As AD)))))))
theorem Cb:AW ["_law_pen_here","_law_rows","_law_load","_law_chain","_law_row"] ["_law_pen_here","_law_rows","_law_load"] (AM s_law_any_chain):=⟨rfl,rfl,rfl,by decide+kernel,rfl,by decide+kernel,by decide+kernel⟩
theorem B4  (S:St.Src K mg "_law_any_chain" s_law_any_chain)(B:Bts mg)(AI:BY P w K mg base):Fv P w K mg base:=by
 refine Av (k:=1) S Cb rfl (fun f fd F=>F.binds fun _ _ _ _ _ _ us hl=>match us,hl with| [_,_,_],_=>rfl) fun f cdv A outer s H E hr=>?_
 have hu:=Ag hr
 exact(AF (Aq 3 (Am (AA (AB 2) AD)) Cb.nd)
    (AF (OW (UW 70) PassesOwn.never (Ac (E8 hu) (AN AX (AB 1) (AN AX (AB 3) AE)) (As AD)) (AF (Aq 4 (AN AX (AB 1) (AN AX (AB 3) AE)) Cb.nd)
    (AK (Aq 3 (Af AV (Am (AA (AN AX (AB 4) (AJ AI (hr.mono (by decide)) rfl (AA (AB 0) (AA (AY BA rfl B.len boot_len (AA (AB 4) AD)) AD)))) AD)) (AB 3)) Cb.nd))))
    (AK (AU (AB 3)))))
theorem Cf:AW ["_law_script","_law_k","_law_pen_here","_law_book_here","_law_rows","_law_load","_law_chain","_law_things","_law_other","_law_thing_here","_law_found"] ["_law_script"] (AM s_p_law):=⟨rfl,rfl,rfl,by decide+kernel,rfl,by decide+kernel,by decide+kernel⟩
end
theorem nr{α:Sort _}{a b:α}(h:a=b):a=b:=h
@[simp high] theorem A4{α β:Type}(a:α)(f:α->Option β):(some a).bind f=f a:=Eq.mp (congrArg (fun z=>z=f a) rfl) (Eq.refl (f a))
@[simp high] theorem bY{α β:Type}(a:α)(f:α->β):(some a).map f=some (f a):=Eq.mp (congrArg (fun z=>z=some (f a)) rfl) (Eq.refl (some (f a)))
section
variable{E:En}{S:Sto}{op:OpN}{f g c:Ev}{d:D}{i:Nat}{w:Wv}{a b e h r':D}{r:List D}{fs:List Ev}
@[simp] theorem fm{o:Option D}{E:En}:at? (o::E) 0=o:=nr rfl
@[simp] theorem fg{o:Option D}{E:En}{i:Nat}:at? (o::E) (i+1)=at? E i:=nr rfl
@[simp] theorem dc:eC d E S=some (d,S):=nr rfl
@[simp] theorem dE:eV i E S=(at? E i).map fun d=>(d,S):=nr rfl
@[simp] theorem WC:evs [] E S=some ([],S):=nr rfl
@[simp] theorem G3:evs (f::fs) E S=(f E S).bind fun r=>(evs fs E r.2).map fun q=>(r.1::q.1,q.2):=nr rfl
@[simp] theorem bN{cf:Bool}:Nm cf op fs E S=(evs fs E S).bind fun r=>(op (r.1.map (dr r.2))).bind fun w=>fin cf w r.2:=nr rfl
@[simp] theorem eU{cf:Bool}:fin cf (.val d) S=some (d,S):=by cases cf<;>rfl
@[simp] theorem fG:fin false (.own r) S=some (.lst r,S):=nr rfl
@[simp] theorem eJ:fin true (.own r) S=some (.ref S.length,S++[.lst r]):=nr rfl
@[simp] theorem dH:dr S .non=.val .non:=nr rfl
@[simp] theorem fH{b:Bool}:dr S (.bl b)=.val (.bl b):=nr rfl
@[simp] theorem dM{i:Int}:dr S (.int i)=.val (.int i):=nr rfl
@[simp] theorem dw{x:Str}:dr S (.str x)=.val (.str x):=nr rfl
@[simp] theorem eX{x:String}:dr S (.ty x)=.val (.ty x):=nr rfl
@[simp] theorem dI:dr S (.tup r)=.val (.tup r):=nr rfl
@[simp] theorem eD:dr S (.lst r)=.val (.lst r):=nr rfl
@[simp] theorem du{ns:List Int}:dr S (.scr ns)=.val (.scr ns):=nr rfl
theorem Aj{n:Nat}(h:S[n]?=some (.lst r)):dr S (.ref n)=.own r:=by
 show(match S[n]? with|some (.lst ds)=>Wv.own ds|_=>.val (.ref n))=_
 rw[h]
theorem AS{n:Nat}(h:S[n]?=some (.lst r)):DJ S n=some r:=by
 unfold DJ
 rw[h]
@[simp] theorem dN{f:Op1}:o1 f [w]=f w:=nr rfl
@[simp] theorem dQ{f:Op2}{w':Wv}:o2 f [w,w']=f w w':=nr rfl
@[simp] theorem dP:fz (.val d)=d:=nr rfl
noncomputable def bD(g:Ev)(E:En)(r:D×Sto):Option (D×Sto):=match r.1 with| .bl true=>g E r.2| .bl false=>some (.bl false,r.2)|_=>none
noncomputable def orK(g:Ev)(E:En)(r:D×Sto):Option (D×Sto):=match r.1 with| .bl false=>g E r.2| .bl true=>some (.bl true,r.2)|_=>none
noncomputable def di(r:D×Sto):Option (D×Sto):=match r.1 with| .bl b=>some (.bl (!b),r.2)|_=>none
@[simp] theorem dY:bD g E (.bl true,S)=g E S:=nr rfl
@[simp] theorem eE:bD g E (.bl false,S)=some (.bl false,S):=nr rfl
@[simp] theorem fL:orK g E (.bl false,S)=g E S:=nr rfl
@[simp] theorem eT:orK g E (.bl true,S)=some (.bl true,S):=nr rfl
@[simp] theorem eB{b:Bool}:di (.bl b,S)=some (.bl (!b),S):=nr rfl
@[simp] theorem Zq:Fc f g E S=(f E S).bind (bD g E):=nr rfl
@[simp] theorem Nl:eOr f g E S=(f E S).bind (orK g E):=nr rfl
@[simp] theorem Zo:Kw f E S=(f E S).bind di:=nr rfl
@[simp] theorem Zf:BN fs E S=(evs fs E S).bind fun r=>if r.1.length≤sizeLine then some (.tup r.1,r.2)else none:=nr rfl
@[simp] theorem Zc{cf:Bool}:R5 cf fs E S=(evs fs E S).bind fun r=>if r.1.length≤sizeLine then fin cf (.own r.1) r.2 else none:=nr rfl
@[simp] theorem Xg{F:Fn}:AL F fs E S=(evs fs E S).bind fun r=>F r.1 r.2:=nr rfl
noncomputable def dz(op:Mo)(fs:List Ev)(E:En)(r:D×Sto):Option (D×Sto):=match r.1 with
 | .ref n=>(DJ r.2 n).bind fun _=>(evs fs E r.2).bind fun p=>(DJ p.2 n).bind fun ds=>(op p.2 ds p.1).map fun q=>(q.1,p.2.set n (.lst q.2))
 |_=>none
@[simp] theorem Zh{op:Mo}{n:Nat}:dz op fs E (.ref n,S)=(DJ S n).bind fun _=>(evs fs E S).bind fun p=>(DJ p.2 n).bind fun ds=>(op p.2 ds p.1).map fun q=>(q.1,p.2.set n (.lst q.2)):=nr rfl
@[simp] theorem aF{op:Mo}:Fp op f fs E S=(f E S).bind (dz op fs E):=nr rfl
@[simp] theorem aR:F1 S r [d]=if r.length<sizeLine then some (.non,r++[d])else none:=nr rfl
variable{x y:Ex}
noncomputable def Yt(y:Ex)(r:Fl×En×Sto):Option (Fl×En×Sto):=match r.1 with| .nx=>y r.2.1 r.2.2| .ret w=>some (.ret w,r.2)
noncomputable def cP(x y:Ex)(E:En)(r:D×Sto):Option (Fl×En×Sto):=match r.1 with| .bl true=>x E r.2| .bl false=>y E r.2|_=>none
@[simp] theorem BO:Yt y (.nx,E,S)=y E S:=nr rfl
@[simp] theorem Za{w:D}:Yt y (.ret w,E,S)=some (.ret w,E,S):=nr rfl
@[simp] theorem dJ:cP x y E (.bl true,S)=x E S:=nr rfl
@[simp] theorem dm:cP x y E (.bl false,S)=y E S:=nr rfl
@[simp] theorem BC:Aa x y E S=(x E S).bind (Yt y):=nr rfl
@[simp] theorem Zm:CZ E S=some (.nx,E,S):=nr rfl
@[simp] theorem N6:xIf c x y E S=(c E S).bind (cP x y E):=nr rfl
@[simp] theorem aV:BS f E S=(f E S).map fun r=>(.ret r.1,E,r.2):=nr rfl
@[simp] theorem aG:BP i f E S=(f E S).map fun r=>(.nx,E.set i (some r.1),r.2):=nr rfl
@[simp] theorem ZM:Bx f E S=(f E S).map fun r=>(.nx,E,r.2):=nr rfl
noncomputable def da(d b:D)(E:En)(i:D×Sto):Option (Fl×En×Sto):=match b,i.1 with
 | .ref n,.int j=>(DJ i.2 n).bind fun ds=>(ixN ds.length j).map fun m=>(.nx,E,i.2.set n (.lst (ds.set m d)))
 |_,_=>none
@[simp] theorem Zd{n:Nat}{j:Int}:da d (.ref n) E (.int j,S)=(DJ S n).bind fun ds=>(ixN ds.length j).map fun m=>(.nx,E,S.set n (.lst (ds.set m d))):=nr rfl
@[simp] theorem aL{k o:Ev}:Hz k f o E S=(k E S).bind fun r=>(f E r.2).bind fun b=>(o E b.2).bind (da r.1 b.1 E):=nr rfl
@[simp] theorem Zu{t:Tf}:PR t f E S=(f E S).bind fun r=>(t r.1 E r.2).map fun E'=>(.nx,E',r.2):=nr rfl
@[simp] theorem Zl{i j:Nat}:Rg i j f g E S=(f E S).bind fun r=>(g E r.2).map fun q=>(.nx,(E.set i (some r.1)).set j (some q.1),q.2):=by
  unfold Rg
  rw[G3]
  cases f E S with
  |none=>rfl
  | some r =>
    rw[A4,A4,G3]
    cases g E r.2 with
    |none=>rfl
    |some q=>rfl
@[simp] theorem Vg:tNm i d E S=some (E.set i (some d)):=nr rfl
@[simp] theorem cE{ts:List Tf}{ds:List D}:tTp ts (.tup ds) E S=tMs ts ds E S:=nr rfl
@[simp] theorem cj{ts:List Tf}{n:Nat}:tTp ts (.ref n) E S=(DJ S n).bind fun ds=>tMs ts ds E S:=nr rfl
@[simp] theorem ag:tMs [] [] E S=some E:=nr rfl
@[simp] theorem Zn{t:Tf}{ts:List Tf}{ds:List D}:tMs (t::ts) (d::ds) E S=(t d E S).bind fun E1=>tMs ts ds E1 S:=nr rfl
@[simp] theorem X0{N:Nat}{ds:List D}:BM (BQ N x) ds S=(x (ds.map some++List.replicate (N-ds.length) none) S).map fun r=>(flD r.1,r.2.2):=by rw[QB];rfl
@[simp] theorem dy:flD .nx=.non:=nr rfl
@[simp] theorem bh:flD (.ret d)=d:=nr rfl
@[simp] theorem cS{i j:Int}:Bi (.val (.int i)) (.val (.int j))=some (.val (.int (i+j))):=nr rfl
@[simp] theorem cQ{i j:Str}:Bi (.val (.str i)) (.val (.str j))=if i.length+j.length≤sizeLine then some (.val (.str (i++j)))else none:=nr rfl
@[simp] theorem c9{xs ys:List D}:Bi (.val (.tup xs)) (.val (.tup ys))=if xs.length+ys.length≤sizeLine then some (.val (.tup (xs++ys)))else none:=nr rfl
@[simp] theorem bQ{xs ys:List D}:Bi (.val (.lst xs)) (.val (.lst ys))=if xs.length+ys.length≤sizeLine then some (.own (xs++ys))else none:=nr rfl
@[simp] theorem aC{i j:Int}:FK (.val (.int i)) (.val (.int j))=if Dz i j=true then some (.val (.int (i*j)))else none:=nr rfl
@[simp] theorem Zr{k:Int}:FK (.val (.tup r)) (.val (.int k))=if(!r.isEmpty && decide (k≤0) && decide (-(2^63)≤k))=true then some (.val (.tup []))else if(!r.isEmpty && decide (1≤k) && decide (r.length*k.toNat≤sizeLine))=true then some (.val (.tup (List.replicate k.toNat r).flatten))else none:=nr rfl
@[simp] theorem bZ:asS (.own r)=some r:=nr rfl
@[simp] theorem bA:asS (.val (.lst r))=some r:=nr rfl
@[simp] theorem cG:asS (.val (.tup r))=some r:=nr rfl
@[simp] theorem aj{ns:List Int}:asS (.val (.scr ns))=some (ns.map .int):=nr rfl
@[simp] theorem c8{j:Int}:wIx w (.val (.int j))=(asS w).bind fun ds=>(atI ds j).map .val:=nr rfl
theorem CB{α:Type}{xs:List α}{n:Nat}{x:α}(h:xs[n]?=some x):atI xs (n:Int)=some x:=WB h
theorem Uw{α:Type}{xs:List α}{i:Int}(h0:0≤i)(h1:i<xs.length):atI xs i=some (xs[i.toNat]'(by omega)):=by
 have:atI xs ((i.toNat:Nat):Int)=some (xs[i.toNat]'(by omega)):=CB (List.getElem?_eq_getElem (by omega))
 rwa [Int.toNat_of_nonneg h0]at this
@[simp] theorem fO:atI (a::r) 0=some a:=CB (n:=0) rfl
@[simp] theorem eG:atI (a::b::r) 1=some b:=CB (n:=1) rfl
@[simp] theorem fD:atI (a::b::e::r) 2=some e:=CB (n:=2) rfl
@[simp] theorem eO:atI (a::b::e::h::r) 3=some h:=CB (n:=3) rfl
@[simp] theorem eQ{k:D}:atI (a::b::e::h::k::r) 4=some k:=CB (n:=4) rfl
theorem Nz{n k:Nat}(h:k<n):ixN n (k:Int)=some k:=by
 unfold ixN
 simp
 omega
theorem Oj{n:Nat}{i:Int}(h0:0≤i)(h1:i<n):ixN n i=some i.toNat:=by
 have:=Nz (n:=n) (k:=i.toNat) (by omega)
 rwa [Int.toNat_of_nonneg h0]at this
@[simp] theorem fT{n:Nat}:ixN (n+1) 0=some 0:=Oj (by decide) (by omega)
@[simp] theorem eN{n:Nat}:ixN (n+2) 1=some 1:=Oj (by decide) (by omega)
@[simp] theorem fB{n:Nat}:ixN (n+3) 2=some 2:=Oj (by decide) (by omega)
@[simp] theorem de{i j:Int}:deq (.int i) (.int j)=(i==j):=nr rfl
@[simp] theorem cN{i j:Int}:DR (.int i) (.int j)=true:=nr rfl
@[simp] theorem W3{w':Wv}:wEq w w'=if DR (fz w) (fz w')=true then some (.val (.bl (deq (fz w) (fz w'))))else none:=nr rfl
@[simp] theorem Eb{w':Wv}:wNe w w'=if DR (fz w) (fz w')=true then some (.val (.bl (!deq (fz w) (fz w'))))else none:=nr rfl
@[simp] theorem cF{i j:Int}:wLt (.val (.int i)) (.val (.int j))=some (.val (.bl (decide (i<j)))):=nr rfl
@[simp] theorem bJ{i j:Int}:wLe (.val (.int i)) (.val (.int j))=some (.val (.bl (decide (i≤j)))):=nr rfl
@[simp] theorem cT{i j:Int}:wGt (.val (.int i)) (.val (.int j))=some (.val (.bl (decide (j<i)))):=nr rfl
@[simp] theorem cY{i j:Int}:wGe (.val (.int i)) (.val (.int j))=some (.val (.bl (decide (j≤i)))):=nr rfl
@[simp] theorem aB{i j:Int}:Ic (.val (.int i)) (.val (.int j))=some (.val (.int (i-j))):=nr rfl
@[simp] theorem Zw{i:Int}:GZ (.val (.int i))=some (.val (.int (-i))):=nr rfl
@[simp] theorem aK{i j:Int}:Ot (.val (.int i)) (.val (.int j))=(if 0<j then some (.val (.int (i % j)))else none):=by
 show Option.map Wv.val (if 0<j then some (D.int (i % j))else none)=_
 split<;>rfl
@[simp] theorem Xr{i j:Int}:N3 (.val (.int i)) (.val (.int j))=(if(decide (0<j) && decide (j.natAbs<Fq))=true then some (.val (.int (i / j)))else none):=by
 show Option.map Wv.val (if(decide (0<j) && decide (j.natAbs<Fq))=true then some (D.int (i / j))else none)=_
 split<;>rfl
@[simp] theorem aQ{i j:Int}:Vy (.val (.int i)) (.val (.int j))=if(decide (0≤j) && decide (j≤1000) && decide (i.natAbs<2^64))=true then some (.val (.int (i^j.toNat)))else none:=by
 show Option.map Wv.val (if(decide (0≤j) && decide (j≤1000) && decide (i.natAbs<2^64))=true then some (D.int (i^j.toNat))else none)=_
 split<;>rfl
@[simp] theorem aP{i:Int}:ZV (.val (.int i))=some (.val (.int (i.natAbs:Int))):=by
 show some (Wv.val (D.int (if i<0 then-i else i)))=_
 congr 3
 split<;>omega
@[simp] theorem Om:DK (.own r)=some (.val (.int r.length)):=nr rfl
@[simp] theorem FQ:DK (.val (.lst r))=some (.val (.int r.length)):=nr rfl
@[simp] theorem Lh:DK (.val (.tup r))=some (.val (.int r.length)):=nr rfl
@[simp] theorem Zy{ns:List Int}:DK (.val (.scr ns))=some (.val (.int ns.length)):=by
 show some (Wv.val (D.int ((ns.map D.int).length:Nat)))=_
 rw[List.length_map]
@[simp] theorem XO:Du w=(asS w).map fun ds=>.val (.tup ds):=nr rfl
@[simp] theorem Y4:Ie w=(asS w).map fun ds=>.own ds:=nr rfl
@[simp] theorem dF{b:Bool}:V1 (.val (.bl b))=some (.val (.int (if b then 1 else 0))):=nr rfl
@[simp] theorem Zk{i j:Int}:aW (.val (.int i)) (.val (.int j))=some (.val (.int (if j>i then j else i))):=nr rfl
@[simp] theorem aN{i j:Int}:XQ (.val (.int i)) (.val (.int j))=some (.val (.int (if j<i then j else i))):=nr rfl
@[simp] theorem aA{T:String}:KG w (.val (.ty T))=if Mn T=true then(kdW w).map fun k=>.val (.bl (k.isA T))else none:=nr rfl
@[simp] theorem cm:Mn "int"=true:=by decide
@[simp] theorem Zx:Mn "bool"=true:=by decide
@[simp] theorem Y5:Mn "tuple"=true:=by decide
@[simp] theorem bF:Mn "str"=true:=by decide
@[simp] theorem Zz:Ym (.val (.lst r))=(bls r).map fun bs=>.val (.bl (bs.all id)):=nr rfl
theorem AO{n:Nat}(h:n≤1000):n≤sizeLine:=Nat.le_trans h (by decide)
@[simp] theorem sz1:(1:Nat)≤sizeLine:=AO (by decide)
@[simp] theorem sz2:(2:Nat)≤sizeLine:=AO (by decide)
@[simp] theorem sz3:(3:Nat)≤sizeLine:=AO (by decide)
@[simp] theorem sz4:(4:Nat)≤sizeLine:=AO (by decide)
@[simp] theorem sz5:(5:Nat)≤sizeLine:=AO (by decide)
@[simp] theorem sz6:(6:Nat)≤sizeLine:=AO (by decide)
@[simp] theorem HP:DA E S=some (.bl true,S):=nr rfl
@[simp] theorem aX{s:Sr}{t:Tf}{b:Ex}:IM s t b E S=(s E S).bind fun r=>KI r.1.2 t b r.1.1 E r.2:=nr rfl
@[simp] theorem Ao:gOk [] S:=fun _ h=>(nomatch h)
theorem HL{gs:Gd}{t:Tf}{b:Ex}(h:gOk gs S):KI gs t b [] E S=some (.nx,E,S):=by
 unfold KI
 rw[if_pos h]
theorem Q6{gs:Gd}{t:Tf}{b:Ex}{ds:List D}(h:gOk gs S):KI gs t b (d::ds) E S=(t d E S).bind fun E1=>(b E1 S).bind fun r=>match r.1 with
  | .nx=>KI gs t b ds r.2.1 r.2.2
  | .ret w=>some (.ret w,r.2):=by
 rw[KI,if_pos h]
 all_goals rfl
theorem D1{gs:Gd}{t:Tf}{b:Ex}{ds:List D}(h:gOk gs S):KI gs t b (d::ds) E S=(t d E S).bind fun E1=>(b E1 S).bind (Yt (KI gs t b ds)):=by
 rw[Q6 h]
 rfl
@[simp] theorem Z9:GY f E S=(f E S).bind fun r=>(sqD r.2 r.1).map fun p=>(p,r.2):=nr rfl
@[simp] theorem bE:sqD S (.tup r)=some (r,[]):=nr rfl
@[simp] theorem ck:sqD S (.lst r)=some (r,[]):=nr rfl
theorem FO{n:Nat}(h:S[n]?=some (.lst r)):sqD S (.ref n)=some (r,[(n,r)]):=by
 show(DJ S n).map (fun ds=>(ds,[(n,ds)]))=_
 rw[AS h]
 rfl
@[simp] theorem ZU:Rf f E S=(f E S).bind fun r=>(sqD r.2 r.1).map fun p=>((KD 0 p.1,p.2),r.2):=nr rfl
@[simp] theorem Z4:Uv f g E S=(f E S).bind fun r=>(g E r.2).bind fun q=>(sqD q.2 r.1).bind fun a=>(sqD q.2 q.1).map fun b=>((K6 a.1 b.1,a.2++b.2),q.2):=by
  unfold Uv
  rw[G3]
  cases f E S with
  |none=>rfl
  | some r =>
    rw[A4,A4,G3]
    cases g E r.2 with
    |none=>rfl
    |some q=>rfl
noncomputable def G5(j:Int):Bool:=decide (-(2^62)≤j) && decide (j<2^62)
theorem Dc{j:Int}(h: -1000000≤j)(g:j≤1000000):G5 j=true:=by
 unfold G5
 rw[Bool.and_eq_true]
 exact⟨decide_eq_true (by omega),decide_eq_true (by omega)⟩
noncomputable def dD(S:Sto):D->Option ((List D×Gd)×Sto)
 | .int j=>if G5 j=true then some ((KH 0 j.toNat,[]),S)else none
 |_=>none
@[simp] theorem Zi{j:Int}:dD S (.int j)=if G5 j=true then some ((KH 0 j.toNat,[]),S)else none:=nr rfl
@[simp] theorem ZX:ML [f] E S=(f E S).bind fun r=>dD r.2 r.1:=by
  unfold ML
  rw[G3]
  cases f E S with
  |none=>rfl
  | some r =>
    obtain⟨d,S1⟩:=r
    rw[A4,WC,bY,A4,A4]
    cases d<;>rfl
@[simp] theorem Xy{cf:Bool}{cap:List Nat}{m:Nat}{s:Sr}{t:Tf}:Kr cf cap m s t c f E S=(s E S).bind fun r=>(B9 r.1.2 t c f r.1.1 [] (Na cap m E) r.2).bind fun q=>fin cf (.own q.1) q.2:=nr rfl
@[simp] theorem aU{cap:List Nat}{m:Nat}:Na cap m E=cap.map (at? E)++List.replicate m none:=nr rfl
theorem LU{α:Type}(p:α->Bool):∀xs:List α,bls (xs.map fun x=>.bl (p x))=some (xs.map p)
  | []=>rfl
  | x :: xs => by
    have ih:=LU p xs
    unfold bls at ih⊢
    rw[List.map_cons,List.mapM_cons,ih]
    rfl
@[simp] theorem PC{i:Int}:Hc (.int i::r)=(Hc r).map fun ns=>i::ns:=by
 unfold Hc
 rw[List.mapM_cons]
 show(do let r1←some i;let rs←List.mapM intD r;pure (r1::rs))=_
 cases List.mapM intD r<;>rfl
theorem FC:∀(ns:List Int),Hc (ns.map D.int)=some ns
 | []=>rfl
 |n::ns=>by rw[List.map_cons,PC,FC ns];rfl
@[simp] theorem Ze:Vc (.own r)=(Hc r).map fun ns=>.val (.int ns.sum):=nr rfl
@[simp] theorem Zb:Vc (.val (.lst r))=(Hc r).map fun ns=>.val (.int ns.sum):=nr rfl
@[simp] theorem dW:ZZ true w (.val .non)=some (.val (.bl (!isN w))):=nr rfl
@[simp] theorem fJ{i:Int}{w:Wv}:EN true false [w,.val (.int i)]=wSl (some i) none w:=nr rfl
@[simp] theorem fX{i:Int}{w:Wv}:EN false true [w,.val (.int i)]=wSl none (some i) w:=nr rfl
@[simp] theorem fP{i j:Int}{w:Wv}:EN true true [w,.val (.int i),.val (.int j)]=wSl (some i) (some j) w:=nr rfl
@[simp] theorem ay{lo hi:Option Int}:wSl lo hi (.val (.tup r))=some (.val (.tup (C7 r lo hi))):=nr rfl
end
structure C0(A:List Nat)(S S':Sto):Prop where
 len:S.length≤S'.length
 keep:∀n,n<S.length->n∉A->S'[n]?=S[n]?
theorem C0.refl{A:List Nat}{S:Sto}:C0 A S S:=⟨Nat.le_refl _,fun _ _ _=>rfl⟩
theorem C0.trans{A:List Nat}{S S' S2:Sto}(h:C0 A S S')(g:C0 A S' S2):C0 A S S2:=⟨Nat.le_trans h.len g.len,fun n hn ha=>(g.keep n (Nat.lt_of_lt_of_le hn h.len) ha).trans (h.keep n hn ha)⟩
theorem C0.mono{A B:List Nat}{S S':Sto}(h:C0 A S S')(s:∀n∈A,n∈B):C0 B S S':=⟨h.len,fun n hn hb=>h.keep n hn fun z=>hb (s n z)⟩
theorem C0.get{A:List Nat}{S S':Sto}(h:C0 A S S'){n:Nat}{c:Cl}(e:S[n]?=some c)(ha:n∉A):S'[n]?=some c:=by
 rw[h.keep n (List.getElem?_eq_some_iff.mp e).1 ha];exact e
theorem C0.app{A:List Nat}{S T:Sto}:C0 A S (S++T):=⟨by simp,fun n hn _=>List.getElem?_append_left hn⟩
theorem C0.set{A:List Nat}{S:Sto}{n:Nat}{c:Cl}(h:n∈A):C0 A S (S.set n c):=⟨by simp,fun m hm ha=>List.getElem?_set_ne (fun z=>ha (by rw[←z];exact h))⟩
theorem C0.new{A:List Nat}{S S' S2:Sto}(h:C0 A S S')(g:C0 (A++B) S' S2)(hb:∀n∈B,S.length≤n):C0 A S S2:=⟨Nat.le_trans h.len g.len,fun n hn ha=>(g.keep n (Nat.lt_of_lt_of_le hn h.len) (fun z=>by
 rcases List.mem_append.mp z with z|z
 ·exact ha z
 ·have:=hb n z;omega)).trans (h.keep n hn ha)⟩
theorem Ad{S:Sto}{n:Nat}{c:Cl}(h:S[n]?=some c):n<S.length:=(List.getElem?_eq_some_iff.mp h).1
section
theorem mulL{i j:Int}(h: -18446744073709551616<i)(g:i<18446744073709551616):Dz i j=true:=by
 unfold Dz
 rw[Bool.or_eq_true]
 exact .inl (decide_eq_true (by omega))
theorem mulR{i j:Int}(h: -18446744073709551616<j)(g:j<18446744073709551616):Dz i j=true:=by
 unfold Dz
 rw[Bool.or_eq_true,Bool.or_eq_true]
 exact .inr (.inl (decide_eq_true (by omega)))
theorem GH{n k:Nat}(h:n<2^k)(hk:k≤8000):n<Fq:=Nat.lt_of_lt_of_le h (Nat.pow_le_pow_right (by decide) hk)
theorem Dp{n:Int}(h0:0<n)(h1:n<1152921504606846976):n.natAbs<Fq:=GH (k:=60) (show n.natAbs<2^60 by omega) (by decide)
variable{S:Sto}
noncomputable def O9(a b:Int):Int:=((Nat.gcd a.natAbs b.natAbs:Nat):Int)
theorem J6{c:Ev}{b:Ex}{k:Nat}{E:En}:Eo c b (k+1) E S=(c E S).bind fun r=>match r.1 with
    | .bl true=>(b E r.2).bind fun p=>match p.1 with
      | .nx=>Eo c b k p.2.1 p.2.2
      | .ret w=>some (.ret w,p.2)
    | .bl false=>some (.nx,E,r.2)
    |_=>none:=rfl
theorem OH{c:Ev}{b:Ex}{k:Nat}{E E2:En}{S1 S2:Sto}(e1:c E S=some (.bl true,S1))(e2:b E S1=some (.nx,E2,S2)):Eo c b (k+1) E S=Eo c b k E2 S2:=by
 rw[J6,e1]
 show(b E S1).bind _=_
 rw[e2]
 rfl
theorem Ol{c:Ev}{b:Ex}{k:Nat}{E:En}{S1:Sto}(e1:c E S=some (.bl false,S1)):Eo c b (k+1) E S=some (.nx,E,S1):=by
 rw[J6,e1]
 rfl
theorem KC:∀(k:Nat) (x y:Nat),y<k->Eo (eOp (o2 wGt) [(eV 1),(eC (.int 0))]) (Rg 0 1 (eV 1) (eOp (o2 Ot) [(eV 0),(eV 1)])) k [some (.int x),some (.int y)] S=some (.nx,[some (.int (Nat.gcd x y:Nat)),some (.int 0)],S)
  |0,x,y,h=>absurd h (Nat.not_lt_zero _)
  | k + 1, x, y, h => by
    by_cases hy:y=0
    · subst hy
      rw[Ol (S1:=S) (by simp)]
      simp
    · have ih := KC k y (x % y) (by have := Nat.mod_lt x (Nat.pos_of_ne_zero hy); omega)
      rw[show((x % y:Nat):Int)=(x:Int) % (y:Int) by omega]at ih
      have hy4:0<y:=Nat.pos_of_ne_zero hy
      rw[OH (S1:=S) (S2:=S) (E2:=[some (.int y),some (.int ((x:Int) % (y:Int)))]) (by simp[hy4]) (by simp[hy4]),ih]
      rw[Nat.gcd_comm x y,Nat.gcd_rec y x,Nat.gcd_comm]
theorem RH(a b:Int)(ha:0≤a)(hb:0≤b):Ea [.int a,.int b] S=some (.int (O9 a b),S):=by
 have:=KC (S:=S) (b.natAbs+2) a.natAbs b.natAbs (by omega)
 have e1:((a.natAbs:Nat):Int)=a:=by omega
 have e2:((b.natAbs:Nat):Int)=b:=by omega
 rw[e1,e2]at this
 simp[Ea,IQ,K4,XJ,this,O9]
noncomputable def lowP(t b:Int):Int×Int:=(t / O9 t b,b / O9 t b)
theorem TV{t b:Int}(h:0<b):0<O9 t b:=by
 unfold O9
 have:0<Nat.gcd t.natAbs b.natAbs:=Nat.gcd_pos_of_pos_right _ (by omega)
 omega
theorem Wq{t b:Int}(h:0<b):(O9 t b).natAbs≤b.natAbs:=by
 unfold O9
 have:Nat.gcd t.natAbs b.natAbs≤b.natAbs:=Nat.gcd_le_right _ (by omega)
 omega
noncomputable def amD(p:Int×Int):D:=.tup [.int p.1,.int p.2]
theorem Uj{t b:Int}:O9 (t.natAbs:Int) b=O9 t b:=by
 unfold O9
 rw[Int.natAbs_natCast]
theorem Nb{t b:Int}(h:0<b)(hb:b.natAbs<Fq):Bj [.int t,.int b] S=some (amD (lowP t b),S):=by
 have h1:=TV (t:=t) h
 have h2:(O9 t b).natAbs<Fq:=Nat.lt_of_le_of_lt (Wq h) hb
 have h3:=RH (S:=S) (t.natAbs:Int) b (by omega) (by omega)
 rw[Uj]at h3
 simp[Bj,LJ,h3,h1,h2,amD,lowP]
noncomputable def aD(q:Rat):D:=.tup [.int q.num,.int q.den]
def Sz(k:Nat)(q:Rat):Prop:=q.num.natAbs<2^k/\q.den<2^k
theorem EW(q:Rat):(q.num:Rat) / (q.den:Rat)=q:=by
 rw[←Rat.mkRat_eq_div,Rat.mkRat_self]
theorem Jd(q:Rat):(q.den:Rat)≠0:=by
 have:=q.den_nz
 exact_mod_cast this
theorem JU(t:Int)(n:Nat)(h:0<n):((t:Rat) / (n:Rat)).num=t / (Nat.gcd t.natAbs n:Nat)/\((t:Rat) / (n:Rat)).den=n / Nat.gcd t.natAbs n:=by
 have e:(t:Rat) / (n:Rat)=mkRat t n:=by rw[Rat.mkRat_eq_div]
 rw[e,Rat.mkRat_def,dif_neg (by omega),Rat.normalize_eq]
 exact⟨rfl,rfl⟩
theorem Nv{t b:Int}(h:0<b):amD (lowP t b)=aD ((t:Rat) / (b:Rat)):=by
 obtain⟨n,rfl⟩:∃n:Nat,b=n:=⟨b.natAbs,by omega⟩
 obtain⟨h1,h2⟩:=JU t n (by omega)
 unfold amD aD lowP O9
 rw[show(((n:Nat):Int):Rat)=((n:Nat):Rat)from rfl,h1,h2]
 simp
theorem K3{t b:Int}{k:Nat}(h:0<b)(ht:t.natAbs<2^k)(hb:b.natAbs<2^k):Sz k ((t:Rat) / (b:Rat)):=by
 obtain⟨n,rfl⟩:∃n:Nat,b=n:=⟨b.natAbs,by omega⟩
 obtain⟨h1,h2⟩:=JU t n (by omega)
 unfold Sz
 rw[show(((n:Nat):Int):Rat)=((n:Nat):Rat)from rfl,h1,h2]
 exact⟨Nat.lt_of_le_of_lt (Int.natAbs_ediv_le_natAbs _ _) ht,Nat.lt_of_le_of_lt (Nat.div_le_self _ _) (by simpa using hb)⟩
theorem Eu{a b j k:Nat}(ha:a<2^j)(hb:b<2^k):a*b<2^(j+k):=by
 rw[Nat.pow_add]
 exact Nat.mul_lt_mul'' ha hb
theorem JB{i j:Int}{k m:Nat}(hi:i.natAbs<2^k)(hj:j.natAbs<2^m)(h:k≤60000)(g:m≤60000):Dz i j=true:=by
 unfold Dz
 rw[Bool.or_eq_true,Bool.or_eq_true,Bool.and_eq_true]
 exact .inr (.inr ⟨decide_eq_true (Nat.lt_of_lt_of_le hi (Nat.pow_le_pow_right (by decide) h)),decide_eq_true (Nat.lt_of_lt_of_le hj (Nat.pow_le_pow_right (by decide) g))⟩)
theorem den_pos(q:Rat):0<(q.den:Int):=by have:=q.den_pos;omega
theorem Yw{x:Int}{n m:Nat}(h:x.natAbs<2^n)(g:n≤m):x.natAbs<2^m:=Nat.lt_of_lt_of_le h (Nat.pow_le_pow_right (by decide) g)
section
variable{p q:Rat}{j k:Nat}
theorem Et(hp:Sz j p)(hq:Sz k q):(p.num*q.den+q.num*p.den).natAbs<2^(j+k+1)/\((p.den:Int)*q.den).natAbs<2^(j+k)/\(p.num*q.den-q.num*p.den).natAbs<2^(j+k+1):=by
 have a1:=Eu hp.1 hq.2
 have a2:=Eu hq.1 hp.2
 have a3:=Eu hp.2 hq.2
 rw[Nat.add_comm k j]at a2
 have e:2^(j+k+1)=2^(j+k)+2^(j+k):=by rw[Nat.pow_succ];omega
 refine⟨?_,?_,?_⟩
 ·refine Nat.lt_of_le_of_lt (Int.natAbs_add_le _ _) ?_
  rw[Int.natAbs_mul,Int.natAbs_mul,Int.natAbs_natCast,Int.natAbs_natCast,e]
  omega
 ·rw[Int.natAbs_mul,Int.natAbs_natCast,Int.natAbs_natCast];exact a3
 ·refine Nat.lt_of_le_of_lt (Int.natAbs_sub_le _ _) ?_
  rw[Int.natAbs_mul,Int.natAbs_mul,Int.natAbs_natCast,Int.natAbs_natCast,e]
  omega
theorem OR:(((p.num*q.den+q.num*p.den:Int):Rat) / (((p.den:Int)*q.den:Int):Rat))=p+q:=by
 have h1:=EW p;have h2:=EW q
 have d1:=Jd p;have d2:=Jd q
 push_cast
 grind
theorem TY:(((p.num*q.den-q.num*p.den:Int):Rat) / (((p.den:Int)*q.den:Int):Rat))=p-q:=by
 have h1:=EW p;have h2:=EW q
 have d1:=Jd p;have d2:=Jd q
 push_cast
 grind
theorem MT:(((p.num*q.num:Int):Rat) / (((p.den:Int)*q.den:Int):Rat))=p*q:=by
 have h1:=EW p;have h2:=EW q
 have d1:=Jd p;have d2:=Jd q
 push_cast
 grind
theorem Xz(hp:Sz j p)(hq:Sz k q):Sz (j+k+1) (p+q):=by
 rw[←OR]
 have:=Et hp hq
 exact K3 (Int.mul_pos (den_pos _) (den_pos _)) this.1 (Yw this.2.1 (by omega))
theorem YA(hp:Sz j p)(hq:Sz k q):Sz (j+k+1) (p-q):=by
 rw[←TY]
 have:=Et hp hq
 exact K3 (Int.mul_pos (den_pos _) (den_pos _)) this.2.2 (Yw this.2.1 (by omega))
theorem MQ(hp:Sz j p)(hq:Sz k q):Sz (j+k) (p*q):=by
 rw[←MT]
 have:=Et hp hq
 exact K3 (Int.mul_pos (den_pos _) (den_pos _)) (by rw[Int.natAbs_mul];exact Eu hp.1 hq.1) this.2.1
end
section
variable{p q:Rat}{j k:Nat}
theorem U3(hp:Sz j p)(hq:Sz k q)(hj:j+k≤7990):Dz p.num q.den=true/\Dz q.num p.den=true/\Dz p.den q.den=true/\Dz p.num q.num=true:=by
 refine⟨JB hp.1 (by simpa using hq.2) (by omega) (by omega),JB hq.1 (by simpa using hp.2) (by omega) (by omega),JB (by simpa using hp.2) (by simpa using hq.2) (by omega) (by omega),JB hp.1 hq.1 (by omega) (by omega)⟩
theorem OT(hp:Sz j p)(hq:Sz k q)(hj:j+k≤7990):B3 [(aD p),(aD q)] S=some ((aD (p+q)),S):=by
 obtain⟨m1,m2,m3,m4⟩:=U3 hp hq (by omega)
 have b:=Et hp hq
 have l:=Nb (S:=S) (t:=p.num*q.den+q.num*p.den) (b:=p.den*q.den) (Int.mul_pos (den_pos _) (den_pos _)) (GH b.2.1 (by omega))
 rw[Nv (Int.mul_pos (den_pos _) (den_pos _)),OR]at l
 simp only[aD]at l⊢
 simp[B3,LI,m1,m2,m3,l]
theorem Hs(hp:Sz j p)(hq:Sz k q)(hj:j+k≤7990):Ay [(aD p),(aD q)] S=some ((aD (p*q)),S):=by
 obtain⟨m1,m2,m3,m4⟩:=U3 hp hq (by omega)
 have b:=Et hp hq
 have l:=Nb (S:=S) (t:=p.num*q.num) (b:=p.den*q.den) (Int.mul_pos (den_pos _) (den_pos _)) (GH b.2.1 (by omega))
 rw[Nv (Int.mul_pos (den_pos _) (den_pos _)),MT]at l
 simp only[aD]at l⊢
 simp[Ay,Jf,m3,m4,l]
theorem YD:aD (-q)=.tup [.int (0-q.num),.int q.den]:=by
 unfold aD
 rw[show(-q).num=0-q.num by simp,show(-q).den=q.den by simp]
theorem X5(hq:Sz k q):Sz k (-q):=by
 unfold Sz
 rw[show(-q).num= -q.num by simp,show(-q).den=q.den by simp,Int.natAbs_neg]
 exact hq
theorem U5(hp:Sz j p)(hq:Sz k q)(hj:j+k≤7990):Cr [(aD p),(aD q)] S=some ((aD (p-q)),S):=by
 have l:=OT (S:=S) hp (X5 hq) hj
 rw[YD]at l
 rw[Rat.sub_eq_add_neg]
 simp only[aD]at l⊢
 simp at l
 simp[Cr,K2,l]
end
theorem SM{t b:Int}(h:0<b)(hb:b.natAbs<Fq):Bj [(.int t),(.int b)] S=some ((aD (t / b)),S):=by
 rw[Nb h hb,Nv h]
theorem PU{a b:Int}{k:Nat}(ha:a.natAbs<2^k)(hb:b.natAbs<2^k):(a+b).natAbs<2^(k+1):=by
 have e:2^(k+1)=2^k+2^k:=by rw[Nat.pow_succ];omega
 have:=Int.natAbs_add_le a b
 omega
section
variable{p q:Rat}{w m:Int}{j k n:Nat}
end
end
section
variable{S:Sto}{p:Nat}
theorem Ve{r:List D}(h:p<S.length):dr (S.set p (.lst r)) (.ref p)=.own r:=Aj (List.getElem?_set_self h)
def Pen(ds:List D):Prop:=∃a b c d:Int,ds=[.int a,.int b,.int c,.int d]/\0≤d/\d<1000000007
def B2(p:Nat)(S:Sto):Prop:=∃ds,S[p]?=some (.lst ds)/\Pen ds
structure Pn(p:Nat)(S S':Sto):Prop where
 same:C0 [p] S S'
 pen:B2 p S'
theorem Pn.trans{S S' S2:Sto}(h:Pn p S S')(g:Pn p S' S2):Pn p S S2:=⟨h.same.trans g.same,g.pen⟩
theorem Pn.get{S S':Sto}(h:Pn p S S'){n:Nat}{c:Cl}(e:S[n]?=some c)(ha:n≠p):S'[n]?=some c:=h.same.get e (by simpa using ha)
theorem Pn.refl(h:B2 p S):Pn p S S:=⟨.refl,h⟩
theorem B2.lt(h:B2 p S):p<S.length:=by obtain⟨ds,e,_⟩:=h;exact Ad e
theorem B2.app(h:B2 p S)(T:Sto):B2 p (S++T):=by obtain⟨ds,e,hp⟩:=h;exact⟨ds,by rw[List.getElem?_append_left (Ad e)];exact e,hp⟩
theorem Ab(h:B2 p S){n:Int}(h0:0<n)(h1:n<1152921504606846976):∃r S',AG [.ref p,.int n] S=some (.int r,S')/\0≤r/\r<n/\Pn p S S':=by
 obtain⟨ds,hp,a,b,c,d,rfl,hd0,hd1⟩:=h
 have hl:=Ad hp
 have hs:=Dp h0 h1
 have hr:=Aj hp
 have hc:=AS hp
 by_cases hb:b=1/\0<a
 ·obtain⟨rfl,ha⟩:=hb
  refine⟨a % n,S.set p (.lst [.int (a / n),.int 1,.int c,.int d]),?_,Int.emod_nonneg _ (by omega),Int.emod_lt_of_pos _ h0,.set (by simp),_,List.getElem?_set_self hl,_,_,_,_,rfl,hd0,hd1⟩
  simp[AG,GL,ha,h0,hs,hr,hc]
 ·have m1:Dz (d+17) (69621+2*(c+1))=true:=mulL (by omega) (by omega)
  have m2:Dz 2 (c+1)=true:=mulL (by decide) (by decide)
  generalize ht:(d+17)*(69621+2*(c+1)) % 2147483647=t at*
  have t0:0≤t:=by rw[←ht];exact Int.emod_nonneg _ (by decide)
  have t1:t<2147483647:=by rw[←ht];exact Int.emod_lt_of_pos _ (by decide)
  have m3:Dz t t=true:=mulL (by omega) (by omega)
  have m4:Dz 40503 (c+1)=true:=mulL (by decide) (by decide)
  generalize hu:(t*t+40503*(c+1)+5) % 2147483629=u at*
  have u0:0≤u:=by rw[←hu];exact Int.emod_nonneg _ (by decide)
  have u1:u<2147483629:=by rw[←hu];exact Int.emod_lt_of_pos _ (by decide)
  have m5:Dz u 48271=true:=mulL (by omega) (by omega)
  have d32:(32:Int).natAbs<Fq:=Dp (by decide) (by decide)
  have d32':(32:Nat)<Fq:=d32
  refine⟨u*48271 % 2147483647 / 32 % n,S.set p (.lst [.int a,.int b,.int (c+1),.int d]),?_,Int.emod_nonneg _ (by omega),Int.emod_lt_of_pos _ h0,.set (by simp),_,List.getElem?_set_self hl,_,_,_,_,rfl,hd0,hd1⟩
  by_cases hb1:b=1
  ·subst hb1
   have ha:¬0<a:=fun z=>hb ⟨rfl,z⟩
   simp[AG,GL,ha,h0,hs,hr,hc,Ve,hl,m1,m2,m3,m4,m5,ht,hu,d32']
  ·have hb2:(b==1)=false:=by simpa using hb1
   simp[AG,GL,hb2,h0,hs,hr,hc,Ve,hl,m1,m2,m3,m4,m5,ht,hu,d32']
theorem Yk(c:Int):∃p S',F5 [.int c] S=some (.ref p,S')/\B2 p S'/\C0 [] S S'/\S.length≤p:=by
 refine⟨S.length,S++[.lst [.int c,.int (if(10:Int)^18≤c then 1 else 0),.int 0,.int (c % 1000000007)]],?_,⟨_,List.getElem?_concat_length,_,_,_,_,rfl,Int.emod_nonneg _ (by decide),Int.emod_lt_of_pos _ (by decide)⟩,.app,Nat.le_refl _⟩
 simp[F5,NA]
theorem Ew{gs:Gd}{t:Tf}{c f:Ev}{acc:List D}{E:En}(h:gOk gs S):B9 gs t c f [] acc E S=some (acc,S):=by
 unfold B9
 rw[if_pos h]
theorem Kt{gs:Gd}{t:Tf}{c f:Ev}{d:D}{ds acc:List D}{E:En}(h:gOk gs S)(hz:acc.length<sizeLine):B9 gs t c f (d::ds) acc E S=(t d E S).bind fun E1=>(c E1 S).bind fun r=>match r.1 with
   | .bl true=>(f E1 r.2).bind fun p=>B9 gs t c f ds (acc++[p.1]) E1 p.2
   | .bl false=>B9 gs t c f ds acc E1 r.2
   |_=>none:=by
 rw[B9,if_pos h,if_pos hz]
 all_goals rfl
theorem Hq{gs:Gd}{t:Tf}{c f:Ev}{d:D}{ds acc:List D}{E E1:En}{S1:Sto}(h:gOk gs S)(hz:acc.length<sizeLine)(e1:t d E S=some E1)(e2:c E1 S=some (.bl true,S1)):B9 gs t c f (d::ds) acc E S=(f E1 S1).bind fun p=>B9 gs t c f ds (acc++[p.1]) E1 p.2:=by
 rw[Kt h hz,e1]
 show(c E1 S).bind _=_
 rw[e2]
 rfl
theorem Gm{gs:Gd}{t:Tf}{c f:Ev}{d:D}{ds acc:List D}{E E1:En}{S1:Sto}(h:gOk gs S)(hz:acc.length<sizeLine)(e1:t d E S=some E1)(e2:c E1 S=some (.bl false,S1)):B9 gs t c f (d::ds) acc E S=B9 gs t c f ds acc E1 S1:=by
 rw[Kt h hz,e1]
 show(c E1 S).bind _=_
 rw[e2]
 rfl
theorem Iu{gs:Gd}{t:Tf}{f:Ev}{C:En}{m:Nat}{I:Sto->Prop}{R:D->D->Prop}(hg:∀S,I S->gOk gs S):∀{ds acc:List D} {os:En} {S:Sto},os.length=m->I S->acc.length+ds.length≤sizeLine->
    (∀d∈ds,∀os S,os.length=m->I S->∃us y S',us.length=m/\t d (C++os) S=some (C++us)/\f (C++us) S=some (y,S')/\I S'/\R d y)->
    ∃ys S',B9 gs t DA f ds acc (C++os) S=some (acc++ys,S')/\I S'/\ys.length=ds.length/\Paired R ds ys
  | [],acc,os,S,ho,hI,hz,h=>⟨[],S,by rw[Ew (hg S hI)];simp,hI,rfl,.nil⟩
  | d :: ds, acc, os, S, ho, hI, hz, h => by
    obtain⟨us,y,S1,hu,e1,e2,I1,r1⟩:=h d List.mem_cons_self os S ho hI
    obtain⟨ys,S2,e3,I2,l2,r2⟩:=Iu hg (ds:=ds) (acc:=acc++[y]) (os:=us) (S:=S1) hu I1 (by simp at hz ⊢; omega) fun d' hd=>h d' (List.mem_cons_of_mem _ hd)
    refine⟨y::ys,S2,?_,I2,by simp[l2],.cons r1 r2⟩
    rw[Hq (hg S hI) (by simp at hz;omega) e1 HP,e2,A4,e3]
    simp
theorem comp_map{gs:Gd}{t:Tf}{f:Ev}{C:En}{m:Nat}{g:D->D}{S:Sto}(hg:gOk gs S):∀{ds acc:List D} {os:En},os.length=m->acc.length+ds.length≤sizeLine->
    (∀d∈ds,∀os,os.length=m->∃us,us.length=m/\t d (C++os) S=some (C++us)/\f (C++us) S=some (g d,S))->
    B9 gs t DA f ds acc (C++os) S=some (acc++ds.map g,S)
  | [],acc,os,ho,hz,h=>by rw[Ew hg];simp
  | d :: ds, acc, os, ho, hz, h => by
    obtain⟨us,hu,e1,e2⟩:=h d List.mem_cons_self os ho
    rw[Hq hg (by simp at hz;omega) e1 HP,e2,A4]
    rw[comp_map hg hu (by simp at hz ⊢; omega) fun d' hd=>h d' (List.mem_cons_of_mem _ hd)]
    simp
theorem Eh{gs:Gd}{t:Tf}{b:Ex}{I:List D->En->Sto->Prop}(hg:∀ds E S,I ds E S->gOk gs S):∀{ds:List D} {E:En} {S:Sto},I ds E S->
    (∀d ds E S,I (d::ds) E S->∃E1 E2 S2,t d E S=some E1/\b E1 S=some (.nx,E2,S2)/\I ds E2 S2)->
    ∃E' S',KI gs t b ds E S=some (.nx,E',S')/\I [] E' S'
  | [],E,S,hI,h=>⟨E,S,HL (hg _ _ _ hI),hI⟩
  | d :: ds, E, S, hI, h => by
    obtain⟨E1,E2,S2,e1,e2,I2⟩:=h d ds E S hI
    obtain⟨E',S',e3,I3⟩:=Eh hg I2 h
    exact⟨E',S',by rw[D1 (hg _ _ _ hI),e1];simp[e2,e3],I3⟩
theorem pick{xs:List D}{r:Int}(h0:0≤r)(h1:r<xs.length):∃x,atI xs r=some x/\x∈xs:=⟨_,Uw h0 h1,List.getElem_mem _⟩
theorem GU{α β:Type}{P:β->Prop}:∀{xs:List α} {ys:List β},Paired (fun _ y=>P y) xs ys->∀y∈ys,P y
  |_,_,.nil,y,h=>by cases h
  | _, _, .cons r t, y, h => by
    rcases List.mem_cons.mp h with h|h
    ·rw[h];exact r
    ·exact GU t y h
theorem Dx{lo:Int}{n:Nat}:(KH lo n).length=n:=by simp[KH]
end
def Ok(G B:Nat)(r:Rat):Prop:=∃z:Nat,r*(G:Rat)=(z:Rat)/\z≤B
theorem K5{n:Nat}(h:0<n):(n:Rat)≠0:=by
 have:n≠0:=by omega
 exact_mod_cast this
theorem Ok.sz{G B k:Nat}{r:Rat}(h:Ok G B r)(hG:0<G)(g:G<2^k)(b:B<2^k):Sz k r:=by
 obtain⟨z,e,hz⟩:=h
 have e2:r=((z:Int):Rat) / ((G:Int):Rat):=by
  have:=K5 hG
  rw[show(((z:Nat):Int):Rat)=(z:Rat)from rfl,show(((G:Nat):Int):Rat)=(G:Rat)from rfl,←e]
  grind
 rw[e2]
 exact K3 (by omega) (by simpa using Nat.lt_of_le_of_lt hz b) (by simpa using g)
theorem Ok.up{G B t B':Nat}{r:Rat}(h:Ok G B r)(hB:B*t≤B'):Ok (G*t) B' r:=by
 obtain⟨z,e,hz⟩:=h
 refine⟨z*t,?_,Nat.le_trans (Nat.mul_le_mul_right t hz) hB⟩
 push_cast
 rw[←e]
 grind
theorem Ok.zero{G B:Nat}:Ok G B 0:=⟨0,by simp,Nat.zero_le _⟩
theorem Ok.one{G B:Nat}(h:G≤B):Ok G B 1:=⟨G,by simp,h⟩
theorem Ok.mix{G B a b t:Nat}{r o:Rat}(hr:Ok G B r)(ho:Ok G B o)(ht:a+b=t)(h0:0<t):Ok (G*t) (B*t) ((r*(a:Rat)+o*(b:Rat)) / (t:Rat)):=by
 obtain⟨z,e1,h1⟩:=hr
 obtain⟨y,e2,h2⟩:=ho
 refine⟨z*a+y*b,?_,?_⟩
 ·have:=K5 h0
  push_cast
  rw[←e1,←e2]
  grind
 ·rw[←ht,Nat.mul_add]
  exact Nat.add_le_add (Nat.mul_le_mul_right a h1) (Nat.mul_le_mul_right b h2)
structure Tr where
 p:Nat
 k:Nat
 b:Nat
 ho:List Rat
 h:Int
 l:Int
structure Ld where
 k:Nat
 n:Int
 ow:List Rat
structure Stt where
 loads:List Ld
 hold:List Rat
 nums:List Int
inductive Ae where
 |bring (p k:Nat) (n:Int)
 |pool (a b:Nat)
 |swap (l:Nat) (g:Int) (k:Nat) (n:Int)
 |trade (t:Int) (l:Nat) (g:Int) (k:Nat) (n:Int)
 |spoil (l:Nat) (n:Int)
 |thr (l:Nat) (n:Int) (ws:List Int)
 |sell (p q:Nat) (s:Rat)
noncomputable def shD(rs:List Rat):D:=.tup (rs.map aD)
noncomputable def Tr.d(t:Tr):D:=.tup [.int t.p,.int t.k,.int t.b,shD t.ho,.int t.h,.int t.l]
noncomputable def Ld.d(l:Ld):D:=.tup [.int l.k,.int l.n,shD l.ow]
noncomputable def Ae.d:Ae->D
 | .bring p k n=>.tup [.str "bring",.int p,.int k,.int n]
 | .pool a b=>.tup [.str "pool",.int a,.int b]
 | .swap l g k n=>.tup [.str "swap",.int l,.int g,.int k,.int n]
 | .trade t l g k n=>.tup [.str "trade",.int t,.int l,.int g,.int k,.int n]
 | .spoil l n=>.tup [.str "spoil",.int l,.int n]
 | .thr l n ws=>.tup [.str "throw",.int l,.int n,.tup (ws.map .int)]
 | .sell p q s=>.tup [.str "sell",.int p,.int q,aD s]
noncomputable def Im(x:Rat)(os ss:List Rat):List Rat:=List.zipWith (fun s o=>s*(1-x)+o*x) ss os
noncomputable def HK(p q:Nat)(s:Rat)(ss:List Rat):List Rat:=(ss.set p (ss.getD p 0-ss.getD p 0*s)).set q (ss.getD q 0+ss.getD p 0*s)
noncomputable def Dr(n m:Int)(ss os:List Rat):List Rat:=List.zipWith (fun s o=>(s*n+o*m) / (n+m:Int)) ss os
noncomputable def EJ(t:Tr)(ls:List Ld)(ws:List Int):Int:=(ls.map fun l=>l.n*ws.getD l.k 0).sum+t.b*ws.getD t.k 0
noncomputable def Kg(t:Tr)(ls:List Ld)(l:Nat)(n:Int)(ws:List Int):Rat:=((n*ws.getD ((ls[l]?.map (·.k)).getD 0) 0:Int):Rat) / (EJ t ls ws:Rat)
noncomputable def AQ(ls:List Ld)(l:Nat):Ld:=ls.getD l ⟨0,0,[]⟩
noncomputable def less(ls:List Ld)(l:Nat)(n:Int):List Ld:=ls.set l {AQ ls l with n:=(AQ ls l).n-n}
noncomputable def Pj(p i:Nat):List Rat:=(List.range p).map fun j=>if j=i then 1 else 0
noncomputable def step(t:Tr)(s:Stt):Ae->Stt
 | .bring p k n=>{s with loads:=s.loads++[⟨k,n,Pj t.p p⟩]}
 | .pool a b=>{s with loads:=less (less s.loads a (AQ s.loads a).n) b (AQ s.loads b).n++[⟨(AQ s.loads a).k,(AQ s.loads a).n+(AQ s.loads b).n,Dr (AQ s.loads a).n (AQ s.loads b).n (AQ s.loads a).ow (AQ s.loads b).ow⟩]}
 | .swap l g k n=>{s with loads:=less s.loads l g++[⟨k,n,(AQ s.loads l).ow⟩]}
 | .trade u l g k n=>{s with loads:=less s.loads l g++[⟨k,n,(AQ s.loads l).ow⟩],nums:=s.nums++[u]}
 | .spoil l n=>{s with loads:=less s.loads l n}
 | .thr l n ws=>{s with loads:=(less s.loads l n).map fun x=>{x with ow:=Im (Kg t s.loads l n ws) (AQ s.loads l).ow x.ow},hold:=Im (Kg t s.loads l n ws) (AQ s.loads l).ow s.hold}
 | .sell p q x=>{s with loads:=s.loads.map fun y=>{y with ow:=HK p q x y.ow},hold:=HK p q x s.hold}
def J5(t:Tr):Prop:=1≤t.p/\t.p≤4/\1≤t.k/\t.k≤5/\1≤t.b/\t.b≤20
def Can(t:Tr)(s:Stt):Ae->Prop
 | .bring p k n=>p<t.p/\k<t.k/\1≤n/\n<2^131
 | .pool a b=>a≠b/\a<s.loads.length/\b<s.loads.length/\0<(AQ s.loads a).n/\0<(AQ s.loads b).n/\(AQ s.loads a).k=(AQ s.loads b).k
 | .swap l g k n=>l<s.loads.length/\1≤g/\g≤(AQ s.loads l).n/\k<t.k/\k≠(AQ s.loads l).k/\1≤n/\n<2^131
 | .trade u l g k n=>l<s.loads.length/\1≤g/\g≤(AQ s.loads l).n/\k<t.k/\k≠(AQ s.loads l).k/\1≤n/\n<2^131/\u∉s.nums/\0≤u/\u≤9
 | .spoil l n=>l<s.loads.length/\1≤n/\n≤(AQ s.loads l).n
 | .thr l n ws=>l<s.loads.length/\1≤n/\n≤(AQ s.loads l).n/\ws.length=t.k+1/\∀w∈ws,1≤w/\w≤99
 | .sell p q x=>p≠q/\p<t.p/\q<t.p/\0<x.num/\x.num≤x.den/\x.den≤12
structure Ek(t:Tr)(k:Nat)(s:Stt):Prop where
 len:s.loads.length≤4+k
 kind:∀l∈s.loads,l.k<t.k
 pcs:∀l∈s.loads,0≤l.n/\l.n<2^(131+k)
 own:∀l∈s.loads,l.ow.length=t.p
 hold:s.hold.length=t.p
 nm:s.nums.length≤k
 gb:∃G B:Nat,0<G/\G≤B/\B<2^(30+170*k)/\(∀l∈s.loads,∀r∈l.ow,Ok G B r)/\∀r∈s.hold,Ok G B r
theorem Ek.sz{t:Tr}{k:Nat}{s:Stt}(h:Ek t k s):(∀l∈s.loads,∀r∈l.ow,Sz (30+170*k) r)/\∀r∈s.hold,Sz (30+170*k) r:=by
 obtain⟨G,B,g0,gb,b,h1,h2⟩:=h.gb
 exact⟨fun l hl r hr=>(h1 l hl r hr).sz g0 (Nat.lt_of_le_of_lt gb b) b,fun r hr=>(h2 r hr).sz g0 (Nat.lt_of_le_of_lt gb b) b⟩
theorem BZ{ls:List Ld}{l:Nat}(h:l<ls.length):AQ ls l∈ls:=by
 unfold AQ
 rw[List.getD_eq_getElem?_getD,List.getElem?_eq_getElem h]
 exact List.getElem_mem h
theorem GR{ls:List Ld}{l:Nat}(h:l<ls.length):ls[l]?=some (AQ ls l):=by
 unfold AQ
 rw[List.getD_eq_getElem?_getD,List.getElem?_eq_getElem h]
 rfl
theorem La{ls:List Ld}{l:Nat}{n:Int}{x:Ld}(h:x∈less ls l n)(hl:l<ls.length):x∈ls∨x={AQ ls l with n:=(AQ ls l).n-n}:=by
 unfold less at h
 rcases List.mem_or_eq_of_mem_set h with h|h
 ·exact .inl h
 ·exact .inr h
theorem BJ{ls:List Ld}{l:Nat}{n:Int}:(less ls l n).length=ls.length:=by simp[less]
section
variable{S:Sto}{p:Nat}
theorem N5{P:Int->Prop}:∀{ys:List D},(∀y∈ys,∃i:Int,y=.int i/\P i)->∃ns:List Int,ys=ns.map D.int/\∀n∈ns,P n
  | [],_=>⟨[],rfl,fun n h=>by cases h⟩
  | y :: ys, h => by
    obtain⟨i,rfl,hi⟩:=h y List.mem_cons_self
    obtain⟨ns,rfl,hn⟩:=N5 (P:=P) (ys:=ys) fun z hz=>h z (List.mem_cons_of_mem _ hz)
    exact⟨i::ns,rfl,fun n hn'=>by
      rcases List.mem_cons.mp hn' with e|e
      ·rw[e];exact hi
      ·exact hn n e⟩
theorem NZ{ns:List Int}(h:∀n∈ns,0≤n/\n≤8):0≤ns.sum/\ns.sum≤8*ns.length/\∀n∈ns,n≤ns.sum:=by
  induction ns with
  |nil=>simp
  | cons a l ih =>
    have h1:=h a List.mem_cons_self
    obtain⟨i1,i2,i3⟩:=ih fun n hn=>h n (List.mem_cons_of_mem _ hn)
    rw[List.sum_cons,List.length_cons]
    refine⟨by omega,by push_cast;omega,fun n hn=>?_⟩
    rcases List.mem_cons.mp hn with e|e
    ·omega
    ·have:=i3 n e;omega
theorem Pf(h:B2 p S){n:Nat}(hn:n≤20):∃(ns:List Int) (S':Sto),B9 [] (tNm 1) DA (eOp (o2 wIx) [(C1 [(eC (.int 0)),(eC (.int 1)),(AL AG [(eV 0),(eC (.int 4))]),(AL AG [(eV 0),(eC (.int 9))])]),(AL AG [(eV 0),(eC (.int 4))])]) (KH 0 n) [] [some (.ref p),none] S=some (ns.map D.int,S')/\Pn p S S'/\ns.length=n/\∀i∈ns,0≤i/\i≤8:=by
 obtain⟨ys,S',e,hI,l,r⟩:=Iu (gs:=[]) (t:=tNm 1) (f:=eOp (o2 wIx) [(C1 [(eC (.int 0)),(eC (.int 1)),(AL AG [(eV 0),(eC (.int 4))]),(AL AG [(eV 0),(eC (.int 9))])]),(AL AG [(eV 0),(eC (.int 4))])]) (C:=[some (.ref p)]) (m:=1) (I:=Pn p S) (R:=fun _ y=>∃i:Int,y=.int i/\0≤i/\i≤8)
  (fun _ _=>Ao) (ds:=KH 0 n) (acc:=[]) (os:=[none]) rfl (Pn.refl h) (by rw[Dx];simp;exact AO (by omega)) fun d _ os S0 ho I0=>by
   obtain⟨o,rfl⟩:∃o,os=[o]:=by
    match os,ho with
    | [o],_=>exact⟨o,rfl⟩
   obtain⟨r1,S1,e1,a1,b1,p1⟩:=Ab I0.pen (n:=4) (by decide) (by decide)
   obtain⟨r2,S2,e2,a2,b2,p2⟩:=Ab p1.pen (n:=9) (by decide) (by decide)
   obtain⟨r3,S3,e3,a3,b3,p3⟩:=Ab p2.pen (n:=4) (by decide) (by decide)
   obtain⟨x,ex,hx⟩:=pick (xs:=[.int 0,.int 1,.int r1,.int r2]) (r:=r3) a3 (by simpa using b3)
   refine⟨[some d],x,S3,rfl,by simp,by simp[e1,e2,e3,ex],((I0.trans p1).trans p2).trans p3,?_⟩
   simp only[List.mem_cons,List.not_mem_nil,or_false]at hx
   rcases hx with rfl|rfl|rfl|rfl
   ·exact⟨0,rfl,by decide,by decide⟩
   ·exact⟨1,rfl,by decide,by decide⟩
   ·exact⟨r1,rfl,by omega,by omega⟩
   ·exact⟨r2,rfl,by omega,by omega⟩
 obtain⟨ns,rfl,hns⟩:=N5 (GU r)
 exact⟨ns,S',by simpa using e,hI,by simpa[Dx]using l,hns⟩
noncomputable def Ge(ns:List Int):List Rat:=ns.map fun(n:Int)=>(n:Rat) / (ns.sum:Rat)
theorem Jv{ns:List Int}(h:∀n∈ns,0≤n/\n≤8)(hs:0<ns.sum):∀r∈Ge ns,Ok ns.sum.toNat ns.sum.toNat r:=by
 intro r hr
 obtain⟨n,hn,rfl⟩:=List.mem_map.mp hr
 have h1:=h n hn
 have h2:=(NZ h).2.2 n hn
 refine⟨n.toNat,?_,by omega⟩
 have e1:((ns.sum.toNat:Nat):Rat)=(ns.sum:Rat):=by
  have:((ns.sum.toNat:Nat):Int)=ns.sum:=by omega
  exact congrArg (fun z:Int=>(z:Rat)) this
 have e2:((n.toNat:Nat):Rat)=(n:Rat):=by
  have:((n.toNat:Nat):Int)=n:=by omega
  exact congrArg (fun z:Int=>(z:Rat)) this
 rw[e1,e2]
 have:(ns.sum:Rat)≠0:=by
  intro z
  have:=Rat.intCast_eq_zero_iff.mp z
  omega
 grind
theorem QM{s:Rat}:∀{ns:List Int},(ns.map fun(n:Int)=>(n:Rat) / s).sum=(ns.sum:Rat) / s
  | []=>by simp;grind
  | n :: ns => by
    rw[List.map_cons,List.sum_cons,List.sum_cons,QM (ns:=ns)]
    push_cast
    grind
theorem NT{ns:List Int}(hs:0<ns.sum):(Ge ns).sum=1:=by
 unfold Ge
 rw[QM]
 have:(ns.sum:Rat)≠0:=by
  intro z
  have:=Rat.intCast_eq_zero_iff.mp z
  omega
 grind
theorem Oc{ns:List Int}{q:Nat}(hq:S[q]?=some (.lst (ns.map D.int)))(hl:ns.length≤20)(hn:∀n∈ns,0≤n/\n≤8)(hs:0<ns.sum):
  B9 [(q,ns.map D.int)] (tNm 1) DA (AL Bj [(eV 1),(eOp (o1 Vc) [(eV 0)])]) (ns.map D.int) [] [some (.ref q),none] S=some ((Ge ns).map aD,S):=by
 obtain⟨s1,s2,s3⟩:=NZ hn
 have:=comp_map (gs:=[(q,ns.map D.int)]) (t:=tNm 1) (f:=AL Bj [(eV 1),(eOp (o1 Vc) [(eV 0)])]) (C:=[some (.ref q)]) (m:=1) (g:=fun d=>match d with| .int n=>aD ((n:Rat) / (ns.sum:Rat))|d=>d) (S:=S) (fun g hg=>by rw[List.mem_singleton.mp hg];exact AS hq) (ds:=ns.map D.int) (acc:=[]) (os:=[none]) rfl (by simp;exact AO (by omega)) fun d hd os ho=>by
   obtain⟨o,rfl⟩:∃o,os=[o]:=by
    match os,ho with
    | [o],_=>exact⟨o,rfl⟩
   obtain⟨i,hi,rfl⟩:=List.mem_map.mp hd
   have m:=SM (S:=S) (t:=i) hs (Dp (by omega) (by omega))
   exact⟨[some (.int i)],rfl,by simp,by simp[Aj hq,FC,m]⟩
 have e2:(ns.map D.int).map (fun d=>match d with| .int n=>aD ((n:Rat) / (ns.sum:Rat))|d=>d)=(Ge ns).map aD:=by
  unfold Ge
  rw[List.map_map,List.map_map]
  rfl
 rw[e2]at this
 simpa using this
theorem OI(h:B2 p S){n:Nat}(h1:1≤n)(h2:n≤4):∃rs S',Ck [.ref p,.int n] S=some (shD rs,S')/\Pn p S S'/\(rs.length=n/\rs.sum=1)/\∃G:Nat,0<G/\G≤32/\∀r∈rs,Ok G G r:=by
 obtain⟨ns,S1,e1,p1,l1,i1⟩:=Pf (n:=n) h (by omega)
 obtain⟨s1,s2,s3⟩:=NZ i1
 have hq:(S1++[Cl.lst (ns.map D.int)])[S1.length]?=some (.lst (ns.map D.int)):=List.getElem?_concat_length
 have pp:B2 p (S1++[Cl.lst (ns.map D.int)]):=p1.pen.app _
 have hlt:=p1.pen.lt
 have r1:G5 (n:Int)=true:=Dc (by omega) (by omega)
 by_cases hz:ns.sum=0
 ·obtain⟨r,S2,e2,a2,b2,p2⟩:=Ab pp (n:=n) (by omega) (by omega)
  have hq2:S2[S1.length]?=some (.lst (ns.map D.int)):=p2.get hq (by omega)
  have hn':∀x∈ns.set r.toNat 1,0≤x/\x≤8:=fun x hx=>by
   rcases List.mem_or_eq_of_mem_set hx with hx|rfl
   ·exact i1 x hx
   ·exact⟨by decide,by decide⟩
  have hs':0<(ns.set r.toNat 1).sum:=by
   have:=(NZ hn').2.2 1 (List.mem_set (by omega) 1)
   omega
  have hq3:(S2.set S1.length (.lst ((ns.set r.toNat 1).map D.int)))[S1.length]?=some (.lst ((ns.set r.toNat 1).map D.int)):=List.getElem?_set_self (Ad hq2)
  have e3:=Oc hq3 (by simp;omega) hn' hs'
  have ix:ixN ns.length r=some r.toNat:=Oj a2 (by omega)
  refine⟨Ge (ns.set r.toNat 1),S2.set S1.length (.lst ((ns.set r.toNat 1).map D.int)),?_,⟨?_,?_⟩,⟨by simp[Ge,l1],NT hs'⟩,_,(show 0<(ns.set r.toNat 1).sum.toNat by omega),?_,Jv hn' hs'⟩
  ·have sq3:=FO hq3
   rw[List.map_set]at e3 sq3 hq3
   simp[Ck,Gp,r1,e1,Aj hq,FC,hz,e2,AS hq2,ix,sq3,e3,shD]
  ·have g:C0 [p] S (S1++[Cl.lst (ns.map D.int)]):=p1.same.trans .app
   refine⟨Nat.le_trans (g.trans p2.same).len (by simp),fun m hm hmp=>?_⟩
   rw[List.getElem?_set_ne (by have:=p1.same.len;omega)]
   exact(g.trans p2.same).keep m hm hmp
  ·obtain⟨ds,ed,hd⟩:=p2.pen
   exact⟨ds,by rw[List.getElem?_set_ne (by omega)];exact ed,hd⟩
  ·have:=(NZ hn').2.1
   rw[List.length_set]at this
   omega
 ·have hz':(ns.sum==0)=false:=by simpa using hz
  have e3:=Oc hq (by omega) i1 (by omega)
  refine⟨Ge ns,S1++[Cl.lst (ns.map D.int)],?_,⟨p1.same.trans .app,pp⟩,⟨by simp[Ge,l1],NT (by omega)⟩,_,(show 0<ns.sum.toNat by omega),by omega,Jv i1 (by omega)⟩
  have sq3:=FO hq
  simp[Ck,Gp,r1,e1,Aj hq,FC,hz',sq3,e3,shD]
end
section
variable{S:Sto}{p:Nat}
theorem Vt:(2:Nat)<Fq:=Dp (n:=2) (by decide) (by decide)
theorem HW(h:B2 p S):∃n S',BG [.ref p] S=some (.int n,S')/\Pn p S S'/\1≤n/\n<2^131:=by
  obtain⟨r1,S1,e1,a1,b1,p1⟩:=Ab h (n:=99) (by decide) (by decide)
  obtain⟨r2,S2,e2,a2,b2,p2⟩:=Ab p1.pen (n:=4) (by decide) (by decide)
  obtain⟨r3,S3,e3,a3,b3,p3⟩:=Ab p2.pen (n:=40) (by decide) (by decide)
  obtain⟨r4,S4,e4,a4,b4,p4⟩:=Ab p3.pen (n:=999) (by decide) (by decide)
  obtain⟨r5,S5,e5,a5,b5,p5⟩:=Ab p4.pen (n:=7) (by decide) (by decide)
  have pp:=(((p1.trans p2).trans p3).trans p4).trans p5
  have d2:=Vt
  have go:∀g:Int,1≤g->g<2^131->∃n:Int,atI [D.int (1+r2),.int (1+r3),.int (1+r4),.int g] (r5 / 2)=some (.int n)/\1≤n/\n<2^131:=fun g g1 g2=>by
    obtain⟨x,ex,hx⟩:=pick (xs:=[D.int (1+r2),.int (1+r3),.int (1+r4),.int g]) (r:=r5 / 2) (by omega) (by simp;omega)
    simp only[List.mem_cons,List.not_mem_nil,or_false]at hx
    rcases hx with rfl|rfl|rfl|rfl
    ·exact⟨_,ex,by omega,by omega⟩
    ·exact⟨_,ex,by omega,by omega⟩
    ·exact⟨_,ex,by omega,by omega⟩
    ·exact⟨_,ex,g1,g2⟩
  first
    | (obtain ⟨n, en, n1, n2⟩ := go (10 ^ 39 + r1) (by omega) (by omega)
       exact⟨n,S5,by simp[BG,F8,e1,e2,e3,e4,e5,d2]at en ⊢; simp[en],pp,n1,n2⟩)
    | (obtain ⟨n, en, n1, n2⟩ := go (10 ^ 30 + r1) (by omega) (by omega)
       exact⟨n,S5,by simp[BG,F8,e1,e2,e3,e4,e5,d2]at en ⊢; simp[en],pp,n1,n2⟩)
theorem Dm{r:Int}(h:0≤r):∃m:Nat,r=m:=⟨r.toNat,by omega⟩
theorem SK(h:B2 p S):∃t S',FT [.ref p] S=some (Tr.d t,S')/\Pn p S S'/\J5 t/\(t.ho.length=t.p/\t.ho.sum=1)/\∃G:Nat,0<G/\G≤32/\∀r∈t.ho,Ok G G r:=by
 obtain⟨r1,S1,e1,a1,b1,p1⟩:=Ab h (n:=4) (by decide) (by decide)
 obtain⟨r2,S2,e2,a2,b2,p2⟩:=Ab p1.pen (n:=5) (by decide) (by decide)
 obtain⟨r3,S3,e3,a3,b3,p3⟩:=Ab p2.pen (n:=3) (by decide) (by decide)
 obtain⟨r4,S4,e4,a4,b4,p4⟩:=Ab p3.pen (n:=20) (by decide) (by decide)
 obtain⟨r5,S5,e5,a5,b5,p5⟩:=Ab p4.pen (n:=2) (by decide) (by decide)
 obtain⟨m1,rfl⟩:=Dm a1
 obtain⟨m2,rfl⟩:=Dm a2
 obtain⟨b,eb,hb1,hb2⟩:∃b:Nat,atI [D.int (1+r3),.int (1+r4)] r5=some (.int b)/\1≤b/\b≤20:=by
  obtain⟨x,ex,hx⟩:=pick (xs:=[D.int (1+r3),.int (1+r4)]) (r:=r5) a5 (by simpa using b5)
  obtain⟨m3,rfl⟩:=Dm a3
  obtain⟨m4,rfl⟩:=Dm a4
  simp only[List.mem_cons,List.not_mem_nil,or_false]at hx
  rcases hx with rfl|rfl
  ·exact⟨1+m3,by rw[ex];simp,by omega,by omega⟩
  ·exact⟨1+m4,by rw[ex];simp,by omega,by omega⟩
 obtain⟨rs,S6,e6,p6,l6,G,g0,g1,g2⟩:=OI p5.pen (n:=1+m1) (by omega) (by omega)
 obtain⟨r7,S7,e7,a7,b7,p7⟩:=Ab p6.pen (n:=10) (by decide) (by decide)
 obtain⟨r8,S8,e8,a8,b8,p8⟩:=Ab p7.pen (n:=10) (by decide) (by decide)
 rw[show((1+m1:Nat):Int)=1+(m1:Int) by omega]at e6
 refine⟨⟨1+m1,1+m2,b,rs,r7,r8⟩,S8,?_,((((((p1.trans p2).trans p3).trans p4).trans p5).trans p6).trans p7).trans p8,⟨by simp,by simp;omega,by simp,by simp;omega,hb1,hb2⟩,l6,G,g0,g1,g2⟩
 simp[FT,J8,e1,e2,e3,e4,e5,eb,e6,e7,e8,Tr.d]
theorem Sv(h:B2 p S):∃x S',EC [.ref p] S=some (aD x,S')/\Pn p S S'/\0<x.num/\x.num≤x.den/\x.den≤12:=by
 obtain⟨r1,S1,e1,a1,b1,p1⟩:=Ab h (n:=12) (by decide) (by decide)
 obtain⟨r2,S2,e2,a2,b2,p2⟩:=Ab p1.pen (n:=1+r1) (by omega) (by omega)
 have m:=SM (S:=S2) (t:=1+r2) (b:=1+r1) (by omega) (Dp (by omega) (by omega))
 obtain⟨m1,rfl⟩:=Dm a1
 obtain⟨m2,rfl⟩:=Dm a2
 have rp:=JU (1+(m2:Int)) (1+m1) (by omega)
 have eb:(((1+(m1:Int):Int)):Rat)=(((1+m1:Nat)):Rat):=by
  have:(1+(m1:Int))=((1+m1:Nat):Int):=by omega
  rw[this];rfl
 have en:(1+(m2:Int)).natAbs=1+m2:=by omega
 have gp:0<Nat.gcd (1+m2) (1+m1):=Nat.gcd_pos_of_pos_left _ (by omega)
 obtain⟨q,hq⟩:=Nat.gcd_dvd_left (1+m2) (1+m1)
 obtain⟨q',hq'⟩:=Nat.gcd_dvd_right (1+m2) (1+m1)
 refine⟨((1+(m2:Int):Int):Rat) / ((1+(m1:Int):Int):Rat),S2,?_,p1.trans p2,?_,?_,?_⟩
 ·simp[EC,Jq,e1,e2,m]
 ·rw[eb,rp.1,en]
  generalize Nat.gcd (1+m2) (1+m1)=g at*
  have:(1+(m2:Int))=((g*q:Nat):Int):=by omega
  rw[this,Int.natCast_mul,Int.mul_ediv_cancel_left _ (by omega)]
  have:q≠0:=fun z=>by subst z;omega
  omega
 ·rw[eb,rp.1,rp.2,en]
  generalize Nat.gcd (1+m2) (1+m1)=g at*
  have t1:(1+(m2:Int))=((g*q:Nat):Int):=by omega
  rw[t1,Int.natCast_mul,Int.mul_ediv_cancel_left _ (by omega),hq',Nat.mul_div_cancel_left _ gp]
  have:q≤q':=by
   have:g*q≤g*q':=by omega
   exact Nat.le_of_mul_le_mul_left this gp
  omega
 ·rw[eb,rp.2]
  exact Nat.le_trans (Nat.div_le_self _ _) (by omega)
theorem P4(h:B2 p S){n:Nat}(hn:n≤6):∃(ws:List Int) (S':Sto),Ct [.ref p,.int n] S=some (.tup (ws.map .int),S')/\Pn p S S'/\ws.length=n/\∀w∈ws,1≤w/\w≤99:=by
 obtain⟨ys,S',e,hI,l,r⟩:=Iu (gs:=[]) (t:=tNm 1) (f:=(eOp (o2 Bi) [(eC (.int 1)),(eOp (o2 wIx) [(C1 [(AL AG [(eV 0),(eC (.int 3))]),(AL AG [(eV 0),(eC (.int 99))])]),(AL AG [(eV 0),(eC (.int 2))])])])) (C:=[some (.ref p)]) (m:=1) (I:=Pn p S) (R:=fun _ y=>∃i:Int,y=.int i/\1≤i/\i≤99)
  (fun _ _=>Ao) (ds:=KH 0 n) (acc:=[]) (os:=[none]) rfl (Pn.refl h) (by rw[Dx];simp;exact AO (by omega)) fun d _ os S0 ho I0=>by
   obtain⟨o,rfl⟩:∃o,os=[o]:=by
    match os,ho with
    | [o],_=>exact⟨o,rfl⟩
   obtain⟨r1,S1,e1,a1,b1,p1⟩:=Ab I0.pen (n:=3) (by decide) (by decide)
   obtain⟨r2,S2,e2,a2,b2,p2⟩:=Ab p1.pen (n:=99) (by decide) (by decide)
   obtain⟨r3,S3,e3,a3,b3,p3⟩:=Ab p2.pen (n:=2) (by decide) (by decide)
   obtain⟨x,ex,hx⟩:=pick (xs:=[.int r1,.int r2]) (r:=r3) a3 (by simpa using b3)
   simp only[List.mem_cons,List.not_mem_nil,or_false]at hx
   rcases hx with rfl|rfl
   ·exact⟨[some d],.int (1+r1),S3,rfl,by simp,by simp[e1,e2,e3,ex],((I0.trans p1).trans p2).trans p3,_,rfl,by omega,by omega⟩
   ·exact⟨[some d],.int (1+r2),S3,rfl,by simp,by simp[e1,e2,e3,ex],((I0.trans p1).trans p2).trans p3,_,rfl,by omega,by omega⟩
 obtain⟨ns,rfl,hns⟩:=N5 (GU r)
 have r1:G5 (n:Int)=true:=Dc (by omega) (by omega)
 have e':B9 [] (tNm 1) DA (eOp (o2 Bi) [(eC (.int 1)),(eOp (o2 wIx) [(C1 [(AL AG [(eV 0),(eC (.int 3))]),(AL AG [(eV 0),(eC (.int 99))])]),(AL AG [(eV 0),(eC (.int 2))])])]) (KH 0 n) [] [some (.ref p),none] S=some (ns.map D.int,S'):=by simpa using e
 exact⟨ns,S',by simp[Ct,IE,r1,e'],hI,by simpa[Dx]using l,hns⟩
def FJ(t:Tr)(ls:List Ld):Prop:=(∀l∈ls,l.k<t.k/\1≤l.n/\l.n<2^131/\l.ow.length=t.p/\l.ow.sum=1)/\∃G:Nat,0<G/\G≤32^ls.length/\∀l∈ls,∀r∈l.ow,Ok G G r
theorem FJ.snoc{t:Tr}{ls:List Ld}{l:Ld}(h:FJ t ls)(h1:l.k<t.k/\1≤l.n/\l.n<2^131/\l.ow.length=t.p/\l.ow.sum=1){g:Nat}(g0:0<g)(g1:g≤32)(g2:∀r∈l.ow,Ok g g r):FJ t (ls++[l]):=by
 obtain⟨ha,G,G0,G1,G2⟩:=h
 refine⟨fun x hx=>?_,G*g,Nat.mul_pos G0 g0,?_,fun x hx r hr=>?_⟩
 ·rcases List.mem_append.mp hx with hx|hx
  ·exact ha x hx
  ·rw[List.mem_singleton.mp hx];exact h1
 ·rw[List.length_append,List.length_singleton,Nat.pow_succ]
  exact Nat.mul_le_mul G1 g1
 ·rcases List.mem_append.mp hx with hx|hx
  ·exact(G2 x hx r hr).up (Nat.le_refl _)
  ·rw[List.mem_singleton.mp hx]at hr
   have:=(g2 r hr).up (t:=G) (B':=G*g) (by rw[Nat.mul_comm];exact Nat.le_refl _)
   rwa [Nat.mul_comm g G]at this
end
section
variable{S:Sto}{p:Nat}
theorem FJ.nil{t:Tr}:FJ t []:=⟨fun l hl=>(nomatch hl),1,by decide,by simp,fun l hl=>(nomatch hl)⟩
theorem UA(h:B2 p S){t:Tr}(ht:J5 t):∃(ls:List Ld) (S':Sto),FF [.ref p,t.d] S=some (.tup (ls.map Ld.d),S')/\Pn p S S'/\FJ t ls/\ls.length≤4:=by
 obtain⟨t1,t2,t3,t4,t5,t6⟩:=ht
 have hlt:=h.lt
 have hq:(S++[Cl.lst []])[S.length]?=some (.lst []):=List.getElem?_concat_length
 obtain⟨r1,S1,e1,a1,b1,p1⟩:=Ab (h.app [Cl.lst []]) (n:=5) (by decide) (by decide)
 obtain⟨r2,S2,e2,a2,b2,p2⟩:=Ab p1.pen (n:=3) (by decide) (by decide)
 obtain⟨n,en,hn⟩:∃n:Nat,atI [D.int 0,.int 1,.int r1] r2=some (.int n)/\n≤4:=by
  obtain⟨x,ex,hx⟩:=pick (xs:=[D.int 0,.int 1,.int r1]) (r:=r2) a2 (by simpa using b2)
  simp only[List.mem_cons,List.not_mem_nil,or_false]at hx
  rcases hx with rfl|rfl|rfl
  ·exact⟨0,ex,by decide⟩
  ·exact⟨1,ex,by decide⟩
  ·exact⟨r1.toNat,by rw[ex,Int.toNat_of_nonneg a1],by omega⟩
 have q2:S2[S.length]?=some (.lst []):=(p1.trans p2).get hq (by omega)
 have rn:G5 (n:Int)=true:=Dc (by omega) (by omega)
 obtain⟨E',S',ef,ls,o,rfl,f1,f2,f3,f4,f5⟩:=Eh (gs:=[]) (t:=tNm 3) (b:=Bx (Fp F1 (eV 2) [(BN [(AL AG [(eV 0),(eOp (o2 wIx) [(eV 1),(eC (.int 1))])]),(AL BG [(eV 0)]),(AL Ck [(eV 0),(eOp (o2 wIx) [(eV 1),(eC (.int 0))])])])]))
  (I:=fun ds E S'=>∃(ls:List Ld) (o:Option D),E=[some (.ref p),some t.d,some (.ref S.length),o]/\S'[S.length]?=some (.lst (ls.map Ld.d))/\B2 p S'/\C0 [p] S S'/\FJ t ls/\ls.length+ds.length≤4)
  (fun _ _ _ _=>Ao) (ds:=KH 0 n) (E:=[some (.ref p),some t.d,some (.ref S.length),none]) (S:=S2)
  ⟨[],none,rfl,q2,p2.pen,(C0.app.trans (p1.trans p2).same),FJ.nil,by simp[Dx];exact hn⟩ (by
   rintro d ds E S0 ⟨ls,o,rfl,i1,i2,i3,i4,i5⟩
   obtain⟨x1,T1,g1,c1,d1,k1⟩:=Ab i2 (n:=t.k) (by omega) (by omega)
   obtain⟨x2,T2,g2,k2,c2,d2⟩:=HW k1.pen
   obtain⟨rs,T3,g3,k3,l3,G,G0,G1,G2⟩:=OI k2.pen (n:=t.p) t1 t2
   obtain⟨m1,rfl⟩:=Dm c1
   have kk:=(k1.trans k2).trans k3
   have j1:T3[S.length]?=some (.lst (ls.map Ld.d)):=kk.get i1 (by omega)
   have hz:ls.length<sizeLine:=Nat.lt_of_lt_of_le (show ls.length<5 by omega) (AO (by decide))
   refine⟨[some (.ref p),some t.d,some (.ref S.length),some d],[some (.ref p),some t.d,some (.ref S.length),some d],T3.set S.length (.lst ((ls++[Ld.mk m1 x2 rs]).map Ld.d)),by simp,?_,ls++[Ld.mk m1 x2 rs],some d,rfl,List.getElem?_set_self (Ad j1),?_,?_,i4.snoc (l:=Ld.mk m1 x2 rs) ⟨show m1<t.k by omega,c2,d2,l3⟩ G0 G1 G2,by simp at i5 ⊢; omega⟩
   ·have e3:atI [D.int t.p,.int t.k,.int t.b,shD t.ho,.int t.h,.int t.l] 1=some (.int t.k):=by simp
    simp[Tr.d,g1,g2,g3,AS i1,AS j1,hz,Ld.d]
   ·obtain⟨ds',ed,hd⟩:=kk.pen
    exact⟨ds',by rw[List.getElem?_set_ne (by omega)];exact ed,hd⟩
   ·refine⟨Nat.le_trans (i3.trans kk.same).len (by simp),fun m hm hmp=>?_⟩
    rw[List.getElem?_set_ne (by omega)]
    exact(i3.trans kk.same).keep m hm hmp)
 refine⟨ls,S',?_,⟨f3,f2⟩,f4,by simpa using f5⟩
 simp[FF,Jw,e1,e2,en,rn,ef,Aj f1]
noncomputable def B5(x:Ld):Cl:=.lst [.int x.k,.int x.n,shD x.ow]
structure SAt(S:Sto)(s l m:Nat)(as:List Nat)(st:Stt):Prop where
 root:S[s]?=some (.lst [.ref l,shD st.hold,.ref m])
 lo:S[l]?=some (.lst (as.map .ref))
 nu:S[m]?=some (.lst (st.nums.map .int))
 ld:∀(i a:Nat) (x:Ld),as[i]?=some a->st.loads[i]?=some x->S[a]?=some (B5 x)
 len:as.length=st.loads.length
 nd:(s::l::m::as).Nodup
theorem VS:∀{ls:List Ld} {acc:List D} {o:Option D} {S:Sto},acc.length+ls.length≤100->B9 [] (tNm 0) DA (Z5 (o1 Ie) [(eV 0)]) (ls.map Ld.d) acc [o] S=some (acc++(List.range' S.length ls.length).map D.ref,S++ls.map B5)
  | [],acc,o,S,h=>by rw[List.map_nil,Ew Ao];simp
  | x :: ls, acc, o, S, h => by
    rw[List.map_cons,Hq (E1:=[some x.d]) Ao (Nat.lt_of_lt_of_le (show acc.length<101 by simp at h;omega) (AO (by decide))) (by simp) HP]
    have:Z5 (o1 Ie) [(eV 0)] [some x.d] S=some (.ref S.length,S++[B5 x]):=by simp[Ld.d,B5]
    rw[this,A4,VS (by simp at h ⊢; omega)]
    simp[List.range'_succ]
theorem getElem?_at{α:Type}{xs:List α}{x:α}{n:Nat}(h:n=xs.length):(xs++[x])[n]?=some x:=by subst h;exact List.getElem?_concat_length
theorem So{t:Tr}{ls:List Ld}{x:D}(hl:ls.length≤20):∃s l m as S',FN [.tup [t.d,.tup (ls.map Ld.d),x]] S=some (.ref s,S')/\SAt S' s l m as ⟨ls,t.ho,[]⟩/\C0 [] S S'/\(∀n∈s::l::m::as,S.length≤n):=by
 have e:=VS (ls:=ls) (acc:=[]) (o:=none) (S:=S) (by simp;omega)
 refine⟨S.length+ls.length+2,S.length+ls.length,S.length+ls.length+1,List.range' S.length ls.length,S++ls.map B5++[.lst ((List.range' S.length ls.length).map D.ref)]++[.lst []]++[.lst [.ref (S.length+ls.length),shD t.ho,.ref (S.length+ls.length+1)]],?_,⟨?_,?_,?_,?_,?_,?_⟩,?_,?_⟩
 ·simp[FN,J1,Tr.d,e,shD]
  omega
 ·exact getElem?_at (by simp;omega)
 ·rw[List.getElem?_append_left (by simp),List.getElem?_append_left (by simp)]
  exact getElem?_at (by simp)
 ·rw[List.getElem?_append_left (by simp;omega)]
  exact getElem?_at (by simp;omega)
 ·intro i a y ha hy
  have hi:i<ls.length:=(List.getElem?_eq_some_iff.mp hy).1
  have:a=S.length+i:=by
   rw[List.getElem?_range' hi]at ha
   simp at ha;omega
  subst this
  rw[List.getElem?_append_left (by simp;omega),List.getElem?_append_left (by simp;omega),List.getElem?_append_left (by simp;omega),List.getElem?_append_right (by omega)]
  have hy':ls[i]?=some y:=hy
  simp[hy']
 ·simp
 ·rw[List.nodup_cons,List.nodup_cons,List.nodup_cons]
  refine⟨?_,?_,?_,List.nodup_range'⟩
  ·simp only[List.mem_cons,List.mem_range'_1];omega
  ·simp only[List.mem_cons,List.mem_range'_1];omega
  ·simp only[List.mem_range'_1];omega
 ·rw[List.append_assoc,List.append_assoc,List.append_assoc]
  exact .app
 ·intro n hn
  simp only[List.mem_cons,List.mem_range'_1]at hn
  omega
end
section
variable{S:Sto}{p:Nat}
@[simp] theorem fU{rs:List Rat}{S:Sto}:sqD S (shD rs)=some (rs.map aD,[]):=nr rfl
@[simp] theorem bz{S:Sto}{r:List D}:dr (S++[.lst r]) (.ref S.length)=.own r:=Aj List.getElem?_concat_length
@[simp] theorem XX{S:Sto}{r:List D}:DJ (S++[.lst r]) S.length=some r:=AS List.getElem?_concat_length
theorem set_same{S:Sto}{q:Nat}{c:Cl}(h:S[q]?=some c):S.set q c=S:=by
 apply List.ext_getElem?
 intro i
 by_cases e:q=i
 ·subst e;rw[List.getElem?_set_self (Ad h),h]
 ·rw[List.getElem?_set_ne e]
theorem Nf{gs:Gd}{t:Tf}{b:Ex}{C:En}{m q:Nat}{h:D->D}{I:Sto->Prop}(hg:∀S,I S->gOk gs S)(hI:∀S c,I S->I (S.set q c)):∀{ds acc:List D} {os:En} {S:Sto},os.length=m->I S->S[q]?=some (.lst acc)->acc.length+ds.length≤1000->
    (∀d∈ds,∀os S acc,os.length=m->I S->S[q]?=some (.lst acc)->acc.length<sizeLine->∃us us',t d (C++os) S=some (C++us)/\b (C++us) S=some (.nx,C++us',S.set q (.lst (acc++[h d])))/\us'.length=m)->
    ∃os',os'.length=m/\KI gs t b ds (C++os) S=some (.nx,C++os',S.set q (.lst (acc++ds.map h)))
  | [], acc, os, S, ho, hS, hq, hz, H => ⟨os, ho, by
      rw[HL (hg S hS)]
      have:S.set q (.lst (acc++List.map h []))=S:=by
        rw[List.map_nil,List.append_nil]
        exact set_same hq
      rw[this]⟩
  | d :: ds, acc, os, S, ho, hS, hq, hz, H => by
    have hl:=Ad hq
    obtain⟨us,us',e1,e2,hu⟩:=H d List.mem_cons_self os S acc ho hS hq (Nat.lt_of_lt_of_le (show acc.length<1001 by simp at hz;omega) (Nat.le_trans (by decide) (show 1001≤sizeLine by decide)))
    obtain⟨os',ho',e3⟩:=Nf hg hI (ds:=ds) (acc:=acc++[h d]) (os:=us') (S:=S.set q (.lst (acc++[h d]))) hu (hI S _ hS) (List.getElem?_set_self hl) (by simp at hz ⊢; omega) fun d' hd=>H d' (List.mem_cons_of_mem _ hd)
    refine⟨os',ho',?_⟩
    rw[D1 (hg S hS),e1,A4,e2,A4,BO,e3,List.set_set]
    simp
noncomputable def un:D->Rat
 | .tup [.int n,.int d]=>(n:Rat) / (d:Rat)
 |_=>0
theorem WV(r:Rat):un (aD r)=r:=EW r
noncomputable def Nj(f:Rat->Rat->Rat):D->D
 | .tup [a,b]=>aD (f (un a) (un b))
 |d=>d
theorem L3{f:Rat->Rat->Rat}:∀{ss os:List Rat},(K6 (ss.map aD) (os.map aD)).map (Nj f)=(List.zipWith f ss os).map aD
  | [],os=>by simp[K6]
  |s::ss,[]=>by simp[K6]
  | s :: ss, o :: os => by
    have ih:=L3 (f:=f) (ss:=ss) (os:=os)
    unfold K6 at ih⊢
    simp only[List.map_cons,List.zip_cons_cons,List.zipWith_cons_cons]at ih⊢
    rw[ih]
    simp[Nj,WV]
theorem Qq{ss os:List Rat}{d:D}(h:d∈K6 (ss.map aD) (os.map aD)):∃s∈ss,∃o∈os,d=.tup [aD s,aD o]:=by
 unfold K6 at h
 obtain⟨⟨a,b⟩,h1,rfl⟩:=List.mem_map.mp h
 have h2:=List.of_mem_zip h1
 obtain⟨s,hs,rfl⟩:=List.mem_map.mp h2.1
 obtain⟨o,ho,rfl⟩:=List.mem_map.mp h2.2
 exact⟨s,hs,o,ho,rfl⟩
theorem Xl:aD 1=.tup [.int 1,.int 1]:=rfl
theorem ZJ(n:Int):aD (n:Rat)=.tup [.int n,.int 1]:=by
 unfold aD
 simp
theorem VH{n:Int}{k:Nat}(h:n.natAbs<2^k)(hk:1≤k):Sz k (n:Rat):=by
 unfold Sz
 have:1<2^k:=Nat.one_lt_two_pow (by omega)
 simp[h,this]
theorem Ut{k:Nat}(hk:1≤k):Sz k (1:Rat):=by
 have:1<2^k:=Nat.one_lt_two_pow (by omega)
 exact⟨by simpa using this,by simpa using this⟩
theorem Ob{x:Rat}{ss os:List Rat}{j i:Nat}(hs:∀r∈ss,Sz j r)(ho:∀r∈os,Sz j r)(hx:Sz i x)(hj:2*j+2*i≤7900)(hl:ss.length≤10):∃S',DL [shD ss,aD x,shD os] S=some (shD (Im x os ss),S')/\C0 [] S S':=by
 have hq:(S++[Cl.lst []])[S.length]?=some (.lst []):=List.getElem?_concat_length
 obtain⟨os',ho',e⟩:=Nf (gs:=[]) (t:=tTp [(tNm 4),(tNm 5)]) (b:=Bx (Fp F1 (eV 3) [(AL B3 [(AL Ay [(eV 4),(AL Cr [(BN [(eC (.int 1)),(eC (.int 1))]),(eV 1)])]),(AL Ay [(eV 5),(eV 1)])])])) (C:=[some (shD ss),some (aD x),some (shD os),some (.ref S.length)]) (m:=2) (q:=S.length) (h:=Nj fun s o=>s*(1-x)+o*x) (I:=fun _=>True) (fun _ _=>Ao) (fun _ _ _=>trivial)
  (ds:=K6 (ss.map aD) (os.map aD)) (acc:=[]) (os:=[none,none]) (S:=S++[Cl.lst []]) rfl trivial hq (by simp[Iv];omega) (by
   intro d hd os0 S0 acc h0 _ hq0 hz
   obtain⟨o1,o2,rfl⟩:∃o1 o2,os0=[o1,o2]:=by
    match os0,h0 with
    | [a,b],_=>exact⟨a,b,rfl⟩
   obtain⟨s,hs',o,ho',rfl⟩:=Qq hd
   have l1:=U5 (S:=S0) (Ut (k:=1) (by decide)) hx (by omega)
   have s1:=(YA (Ut (k:=1) (by decide)) hx)
   have l2:=Hs (S:=S0) (hs s hs') s1 (by omega)
   have l3:=Hs (S:=S0) (ho o ho') hx (by omega)
   have l4:=OT (S:=S0) (MQ (hs s hs') s1) (MQ (ho o ho') hx) (by omega)
   rw[Xl]at l1
   refine⟨[some (aD s),some (aD o)],[some (aD s),some (aD o)],by simp,?_,rfl⟩
   simp[l1,l2,l3,l4,AS hq0,hz,Nj,WV])
 rw[L3]at e
 refine⟨(S++[Cl.lst []]).set S.length (.lst ((Im x os ss).map aD)),?_,?_⟩
 ·have e':KI [] (tTp [(tNm 4),(tNm 5)]) (Bx (Fp F1 (eV 3) [(AL B3 [(AL Ay [(eV 4),(AL Cr [(BN [(eC (.int 1)),(eC (.int 1))]),(eV 1)])]),(AL Ay [(eV 5),(eV 1)])])])) (K6 (ss.map aD) (os.map aD)) [some (shD ss),some (aD x),some (shD os),some (.ref S.length),none,none] (S++[Cl.lst []])=some (.nx,[some (shD ss),some (aD x),some (shD os),some (.ref S.length)]++os',(S++[Cl.lst []]).set S.length (.lst ((Im x os ss).map aD))):=by simpa[Im]using e
  simp[DL,Js,e']
  rfl
 ·refine⟨by simp,fun n hn _=>?_⟩
  rw[List.getElem?_set_ne (by omega),List.getElem?_append_left hn]
end
section
variable{S:Sto}{p:Nat}
theorem getD_get{α:Type}{xs:List α}{n:Nat}{d:α}(h:n<xs.length):xs[n]?=some (xs.getD n d):=by
 rw[List.getD_eq_getElem?_getD,List.getElem?_eq_getElem h]
 rfl
theorem getD_mem{α:Type}{xs:List α}{n:Nat}{d:α}(h:n<xs.length):xs.getD n d∈xs:=List.mem_of_getElem? (getD_get h)
theorem YH{ss:List Rat}{n:Nat}(h:n<ss.length):atI (ss.map aD) (n:Int)=some (aD (ss.getD n 0)):=CB (by rw[List.getElem?_map,getD_get h];rfl)
theorem Xu{ss:List Rat}{n:Nat}(h:n<ss.length):ixN (ss.map aD).length (n:Int)=some n:=Nz (by simpa using h)
theorem QK{p q:Nat}{x:Rat}{ss:List Rat}{j i:Nat}(hs:∀r∈ss,Sz j r)(hx:Sz i x)(hj:2*j+i≤7900)(hp:p<ss.length)(hq:q<ss.length)(hpq:p≠q):∃S',D5 [shD ss,(Ae.sell p q x).d] S=some (shD (HK p q x ss),S')/\C0 [] S S':=by
 have sp:=hs _ (getD_mem (d:=0) hp)
 have sq:=hs _ (getD_mem (d:=0) hq)
 have l1:∀S,Ay [aD (ss.getD p 0),aD x] S=some (aD (ss.getD p 0*x),S):=fun S=>Hs sp hx (by omega)
 have s1:=MQ sp hx
 have l2:∀S,Cr [aD (ss.getD p 0),aD (ss.getD p 0*x)] S=some (aD (ss.getD p 0-ss.getD p 0*x),S):=fun S=>U5 sp s1 (by omega)
 have l3:∀S,B3 [aD (ss.getD q 0),aD (ss.getD p 0*x)] S=some (aD (ss.getD q 0+ss.getD p 0*x),S):=fun S=>OT sq s1 (by omega)
 have a1:=YH hp
 have i1:=Xu hp
 have i2:ixN (((ss.map aD).set p (aD (ss.getD p 0-ss.getD p 0*x))).length) (q:Int)=some q:=Nz (by simpa using hq)
 have a2:atI ((ss.map aD).set p (aD (ss.getD p 0-ss.getD p 0*x))) (q:Int)=some (aD (ss.getD q 0)):=CB (by
  rw[List.getElem?_set_ne hpq,List.getElem?_map,getD_get hq];rfl)
 refine⟨S++[.lst ((HK p q x ss).map aD)],?_,.app⟩
 simp only[List.length_set,List.length_map]at i1 i2
 have em:(HK p q x ss).map aD=((ss.map aD).set p (aD (ss.getD p 0-ss.getD p 0*x))).set q (aD (ss.getD q 0+ss.getD p 0*x)):=by rw[HK,List.map_set,List.map_set]
 unfold shD
 rw[em]
 generalize aD (ss.getD p 0-ss.getD p 0*x)=d1 at*
 generalize aD (ss.getD q 0+ss.getD p 0*x)=d2 at*
 generalize aD (ss.getD p 0*x)=d3 at*
 generalize aD (ss.getD p 0)=d4 at*
 generalize aD (ss.getD q 0)=d5 at*
 simp[D5,LM,Ae.d,a1,l1,l2,l3,i1,i2,a2]
theorem Q7{x y:Ld}{a b:Nat}{j i:Nat}(ha:S[a]?=some (B5 x))(hb:S[b]?=some (B5 y))(hs:∀r∈x.ow,Sz j r)(ho:∀r∈y.ow,Sz j r)(hx:x.n.natAbs<2^i)(hy:y.n.natAbs<2^i)(h0:0<x.n+y.n)(h1:1≤i)(hj:2*j+4*i≤7900)(hl:x.ow.length≤10):∃S',EV [.ref a,.ref b] S=some (shD (Dr x.n y.n x.ow y.ow),S')/\C0 [] S S':=by
 have la:=Ad ha
 have lb:=Ad hb
 have hq:(S++[Cl.lst []])[S.length]?=some (.lst []):=List.getElem?_concat_length
 have ha':(S++[Cl.lst []])[a]?=some (B5 x):=by rw[List.getElem?_append_left la];exact ha
 have hb':(S++[Cl.lst []])[b]?=some (B5 y):=by rw[List.getElem?_append_left lb];exact hb
 obtain⟨os',ho',e⟩:=Nf (gs:=[]) (t:=tTp [(tNm 3),(tNm 4)]) (b:=Aa (BP 5 (AL B3 [(AL Ay [(BN [(eOp (o2 wIx) [(eV 0),(eC (.int 1))]),(eC (.int 1))]),(eV 3)]),(AL Ay [(BN [(eOp (o2 wIx) [(eV 1),(eC (.int 1))]),(eC (.int 1))]),(eV 4)])]))
  (Bx (Fp F1 (eV 2) [(AL Ay [(eV 5),(AL Bj [(eC (.int 1)),(eOp (o2 Bi) [(eOp (o2 wIx) [(eV 0),(eC (.int 1))]),(eOp (o2 wIx) [(eV 1),(eC (.int 1))])])])])]))) (C:=[some (.ref a),some (.ref b),some (.ref S.length)]) (m:=3) (q:=S.length) (h:=Nj fun s o=>(s*x.n+o*y.n) / (x.n+y.n:Int)) (I:=fun S'=>S'[a]?=some (B5 x)/\S'[b]?=some (B5 y)) (fun _ _=>Ao) (fun S' c h=>⟨by rw[List.getElem?_set_ne (by omega)];exact h.1,by rw[List.getElem?_set_ne (by omega)];exact h.2⟩)
  (ds:=K6 (x.ow.map aD) (y.ow.map aD)) (acc:=[]) (os:=[none,none,none]) (S:=S++[Cl.lst []]) rfl ⟨ha',hb'⟩ hq (by simp[Iv];omega) (by
   intro d hd os0 S0 acc h0' hI hq0 hz
   obtain⟨o1,o2,o3,rfl⟩:∃o1 o2 o3,os0=[o1,o2,o3]:=by
    match os0,h0' with
    | [a,b,c],_=>exact⟨a,b,c,rfl⟩
   obtain⟨s,hs',o,ho',rfl⟩:=Qq hd
   have d1:=Aj hI.1
   have d2:=Aj hI.2
   have z1:=VH hx h1
   have z2:=VH hy h1
   have l1:=Hs (S:=S0) z1 (hs s hs') (by omega)
   have l2:=Hs (S:=S0) z2 (ho o ho') (by omega)
   have s1:=MQ z1 (hs s hs')
   have s2:=MQ z2 (ho o ho')
   have l3:=OT (S:=S0) s1 s2 (by omega)
   have b1:=PU hx hy
   have l4:=SM (S:=S0) (t:=1) h0 (GH b1 (by omega))
   have s4:Sz (i+1) (((1:Int):Rat) / ((x.n+y.n:Int):Rat)):=K3 h0 (show(1:Int).natAbs<2^(i+1)from Nat.one_lt_two_pow (by omega)) b1
   have l5:=Hs (S:=S0) (Xz s1 s2) s4 (by omega)
   rw[ZJ]at l1 l2
   refine⟨[some (aD s),some (aD o),o3],[some (aD s),some (aD o),some (aD (x.n*s+y.n*o))],by simp,?_,rfl⟩
   have ev:(((x.n:Rat)*s+(y.n:Rat)*o)*(((1:Int):Rat) / ((x.n+y.n:Int):Rat)))=(s*x.n+o*y.n) / (x.n+y.n:Int):=by
    push_cast
    grind
   rw[ev]at l5
   have lf:(Nj fun s o=>(s*x.n+o*y.n) / (x.n+y.n:Int)) (.tup [aD s,aD o])=aD ((s*x.n+o*y.n) / (x.n+y.n:Int)):=by simp only[Nj,WV]
   rw[lf]
   generalize aD ((s*x.n+o*y.n) / (x.n+y.n:Int))=e5 at*
   generalize aD (((1:Int):Rat) / ((x.n+y.n:Int):Rat))=e4 at*
   generalize aD (x.n*s+y.n*o)=e3 at*
   simp[d1,d2,B5,l1,l2,l3,l4,l5,AS hq0,hz])
 rw[L3]at e
 refine⟨(S++[Cl.lst []]).set S.length (.lst ((Dr x.n y.n x.ow y.ow).map aD)),?_,?_⟩
 ·have e':=e
  simp only[List.cons_append,List.nil_append]at e'
  have d1:=Aj ha'
  have d2:=Aj hb'
  change KI _ _ _ _ _ _=some (_,_,List.set _ _ (Cl.lst (List.map aD (Dr x.n y.n x.ow y.ow))))at e'
  generalize Dr x.n y.n x.ow y.ow=rs at*
  simp[EV,II,d1,d2,e',shD]
 ·refine⟨by simp,fun n hn _=>?_⟩
  rw[List.getElem?_set_ne (by omega),List.getElem?_append_left hn]
end
section
variable{S:Sto}{p:Nat}
theorem Dw{α:Type}{gs:Gd}{t:Tf}{f:Ev}{C:En}{m:Nat}{e g:α->D}{S:Sto}(hg:gOk gs S):∀{xs:List α} {acc:List D} {os:En},os.length=m->acc.length+xs.length≤sizeLine->
    (∀x∈xs,∀os,os.length=m->∃us,us.length=m/\t (e x) (C++os) S=some (C++us)/\f (C++us) S=some (g x,S))->
    B9 gs t DA f (xs.map e) acc (C++os) S=some (acc++xs.map g,S)
  | [],acc,os,ho,hz,h=>by rw[List.map_nil,Ew hg];simp
  | x :: xs, acc, os, ho, hz, h => by
    obtain⟨us,hu,e1,e2⟩:=h x List.mem_cons_self os ho
    rw[List.map_cons,Hq hg (by simp at hz;omega) e1 HP,e2,A4]
    rw[Dw hg hu (by simp at hz ⊢; omega) fun x' hx=>h x' (List.mem_cons_of_mem _ hx)]
    simp
theorem CJ{α:Type}{gs:Gd}{t:Tf}{c f:Ev}{C:En}{m:Nat}{e g:α->D}{b:α->Bool}{S:Sto}(hg:gOk gs S):∀{xs:List α} {acc:List D} {os:En},os.length=m->acc.length+xs.length≤sizeLine->
    (∀x∈xs,∀os,os.length=m->∃us,us.length=m/\t (e x) (C++os) S=some (C++us)/\c (C++us) S=some (.bl (b x),S)/\f (C++us) S=some (g x,S))->
    B9 gs t c f (xs.map e) acc (C++os) S=some (acc++(xs.filter b).map g,S)
  | [],acc,os,ho,hz,h=>by rw[List.map_nil,Ew hg];simp
  | x :: xs, acc, os, ho, hz, h => by
    obtain⟨us,hu,e1,e2,e3⟩:=h x List.mem_cons_self os ho
    cases hb:b x with
    | true =>
      rw[hb]at e2
      rw[List.map_cons,Hq hg (by simp at hz;omega) e1 e2,e3,A4,CJ hg hu (by simp at hz ⊢; omega) fun d' hd=>h d' (List.mem_cons_of_mem _ hd)]
      simp[hb]
    | false =>
      rw[hb]at e2
      rw[List.map_cons,Gm hg (by simp at hz;omega) e1 e2,CJ hg hu (by simp at hz ⊢; omega) fun d' hd=>h d' (List.mem_cons_of_mem _ hd)]
      simp[hb]
theorem Ug{as:List Nat}{ls:List Ld}(h:as.length=ls.length):as.map D.ref=(as.zip ls).map fun z=>D.ref z.1:=by
 have:as=(as.zip ls).map Prod.fst:=(List.map_fst_zip (by omega)).symm
 conv=>lhs;rw[this]
 rw[List.map_map];rfl
theorem Wa{β:Type}{as:List Nat}{ls:List Ld}(h:as.length=ls.length)(g:Ld->β):ls.map g=(as.zip ls).map fun z=>g z.2:=by
 have:ls=(as.zip ls).map Prod.snd:=(List.map_snd_zip (by omega)).symm
 conv=>lhs;rw[this]
 rw[List.map_map];rfl
section
variable{s l m:Nat}{as:List Nat}{st:Stt}
theorem SAt.zmem(h:SAt S s l m as st){z:Nat×Ld}(hz:z∈as.zip st.loads):S[z.1]?=some (B5 z.2):=by
 obtain⟨i,hi⟩:=List.mem_iff_getElem?.mp hz
 have:=List.getElem?_zip_eq_some.mp hi
 exact h.ld i z.1 z.2 this.1 this.2
theorem SAt.at(h:SAt S s l m as st){i:Nat}(hi:i<st.loads.length):∃a,as[i]?=some a/\S[a]?=some (B5 (AQ st.loads i))/\atI (as.map D.ref) (i:Int)=some (.ref a):=by
 have h1:i<as.length:=by rw[h.len];exact hi
 refine⟨as[i],List.getElem?_eq_getElem h1,h.ld i _ _ (List.getElem?_eq_getElem h1) (GR hi),CB (by rw[List.getElem?_map,List.getElem?_eq_getElem h1];rfl)⟩
theorem SAt.guard(h:SAt S s l m as st):gOk [(l,as.map D.ref)] S:=by
 intro g hg
 simp only[List.mem_cons,List.not_mem_nil,or_false]at hg
 subst hg
 exact AS h.lo
end
theorem RJ{M:Int}(hM:0≤M):∀{xs:List Int},(∀x∈xs,0≤x/\x≤M)->0≤xs.sum/\xs.sum≤xs.length*M
  | [],_=>by simp
  | x :: xs, h => by
    have h1:=h x List.mem_cons_self
    have h2:=RJ hM fun y hy=>h y (List.mem_cons_of_mem _ hy)
    simp only[List.sum_cons,List.length_cons]
    refine⟨by omega,?_⟩
    have:((xs.length+1:Nat):Int)*M=xs.length*M+M:=by push_cast;grind
    omega
theorem Ky:∀{xs:List Int} {y:Int},(∀x∈xs,0≤x)->y∈xs->y≤xs.sum
  | x :: xs, y, h, hy => by
    have h1:=h x List.mem_cons_self
    have h2:0≤xs.sum:=by
      clear hy
      induction xs with
      |nil=>simp
      | cons z zs ih =>
        have:=h z (by simp)
        have:=ih fun w hw=>h w (by simp at hw ⊢; rcases hw with hw|hw<;>simp[hw])
        simp only[List.sum_cons];omega
    simp only[List.sum_cons]
    rcases List.mem_cons.mp hy with e|e
    ·omega
    · have := Ky (fun z hz => h z (List.mem_cons_of_mem _ hz)) e
      omega
section
variable{t:Tr}{k:Nat}{st:Stt}{ws:List Int}{n:Int}{l:Nat}
theorem NG{i:Nat}(hw:∀w∈ws,1≤w/\w≤99)(hi:i<ws.length):1≤ws.getD i 0/\ws.getD i 0≤99:=hw _ (getD_mem hi)
theorem U1{i:Nat}(hi:i<ws.length):atI (ws.map D.int) (i:Int)=some (.int (ws.getD i 0)):=CB (by rw[List.getElem?_map,getD_get hi];rfl)
theorem Oq(hi:ws.length=k+1):atI (ws.map D.int) (-1:Int)=some (.int (ws.getD k 0)):=by
 have ix:ixN (ws.map D.int).length (-1)=some k:=by
  rw[List.length_map,hi]
  unfold ixN
  simp
  omega
 unfold atI
 rw[ix]
 show(ws.map D.int)[k]?=_
 rw[List.getElem?_map,getD_get (d:=(0:Int)) (by omega)]
 rfl
theorem Ir(ht:J5 t)(h:Ek t k st)(hk:k≤20)(hl:ws.length=t.k+1)(hw:∀w∈ws,1≤w/\w≤99):0<EJ t st.loads ws/\EJ t st.loads ws<2^(145+k):=by
 obtain⟨t1,t2,t3,t4,t5,t6⟩:=ht
 have hP:(0:Int)≤2^(131+k):=Int.le_of_lt (Int.pow_pos (by decide))
 have hs:=RJ (M:=2^(131+k)*99) (by omega) (xs:=st.loads.map fun l=>l.n*ws.getD l.k 0) (by
  intro x hx
  obtain⟨y,hy,rfl⟩:=List.mem_map.mp hx
  have h1:=h.pcs y hy
  have h2:=NG hw (i:=y.k) (by have:=h.kind y hy;omega)
  refine⟨Int.mul_nonneg h1.1 (by omega),Int.mul_le_mul (by omega) h2.2 (by omega) hP⟩)
 have hb:=NG hw (i:=t.k) (by omega)
 have hlen:=h.len
 rw[List.length_map]at hs
 have h3:(st.loads.length:Int)*(2^(131+k)*99)≤24*(2^(131+k)*99):=Int.mul_le_mul_of_nonneg_right (by omega) (by omega)
 have h4:(1:Int)≤t.b*ws.getD t.k 0:=by
  have:0<(t.b:Int)*ws.getD t.k 0:=Int.mul_pos (by omega) (by omega)
  omega
 have h5:t.b*ws.getD t.k 0≤20*99:=Int.mul_le_mul (by omega) hb.2 (by omega) (by decide)
 have h6:(2:Int)^(145+k)=2^(131+k)*16384:=by rw[show 145+k=(131+k)+14 by omega,Int.pow_add];rfl
 have h7:(1:Int)≤2^(131+k):=by have:(0:Int)<2^(131+k):=Int.pow_pos (by decide);omega
 have h7':(2:Int)^11≤2^(131+k):=by
  have:(2^11:Nat)≤2^(131+k):=Nat.pow_le_pow_right (by decide) (by omega)
  exact_mod_cast this
 unfold EJ
 rw[h6]
 generalize (2:Int)^(131+k)=P at*
 omega
theorem Qh(ht:J5 t)(h:Ek t k st)(hl:ws.length=t.k+1)(hw:∀w∈ws,1≤w/\w≤99)(hi:l<st.loads.length)(h1:1≤n)(h2:n≤(AQ st.loads l).n):0<n*ws.getD (AQ st.loads l).k 0/\n*ws.getD (AQ st.loads l).k 0<EJ t st.loads ws:=by
 obtain⟨t1,t2,t3,t4,t5,t6⟩:=ht
 have hw1:=NG hw (i:=(AQ st.loads l).k) (by have:=h.kind _ (BZ hi);omega)
 have hb:=NG hw (i:=t.k) (by omega)
 have h4:(1:Int)≤t.b*ws.getD t.k 0:=by
  have:0<(t.b:Int)*ws.getD t.k 0:=Int.mul_pos (by omega) (by omega)
  omega
 have h5:=Ky (xs:=st.loads.map fun l=>l.n*ws.getD l.k 0) (y:=(AQ st.loads l).n*ws.getD (AQ st.loads l).k 0) (by
  intro x hx
  obtain⟨y,hy,rfl⟩:=List.mem_map.mp hx
  have h1:=h.pcs y hy
  have h2:=NG hw (i:=y.k) (by have:=h.kind y hy;omega)
  exact Int.mul_nonneg h1.1 (by omega)) (List.mem_map.mpr ⟨_,BZ hi,rfl⟩)
 have h6:n*ws.getD (AQ st.loads l).k 0≤(AQ st.loads l).n*ws.getD (AQ st.loads l).k 0:=Int.mul_le_mul_of_nonneg_right h2 (by omega)
 refine⟨Int.mul_pos (by omega) (by omega),?_⟩
 unfold EJ
 omega
theorem Lm(hi:l<st.loads.length):Kg t st.loads l n ws=((n*ws.getD (AQ st.loads l).k 0:Int):Rat) / (EJ t st.loads ws:Rat):=by
 unfold Kg
 rw[GR hi]
 rfl
theorem Jt{x:Int}{j:Nat}(h0:0≤x)(h1:x<2^j):x.natAbs<2^j:=by
 have:((x.natAbs:Nat):Int)<((2^j:Nat):Int):=by
  rw[Int.natAbs_of_nonneg h0];push_cast;exact h1
 exact_mod_cast this
theorem Wt(ht:J5 t)(h:Ek t k st)(hk:k≤20)(hl:ws.length=t.k+1)(hw:∀w∈ws,1≤w/\w≤99)(hi:l<st.loads.length)(h1:1≤n)(h2:n≤(AQ st.loads l).n):Sz (145+k) (Kg t st.loads l n ws):=by
 have a:=Ir ht h hk hl hw
 have b:=Qh ht h hl hw hi h1 h2
 rw[Lm hi]
 exact K3 a.1 (Jt (by omega) (by omega)) (Jt (by omega) a.2)
theorem Vj{s r m:Nat}{as:List Nat}(hS:SAt S s r m as st)(ht:J5 t)(h:Ek t k st)(hk:k≤20)(hl:ws.length=t.k+1)(hw:∀w∈ws,1≤w/\w≤99)(hi:l<st.loads.length)(h1:1≤n)(h2:n≤(AQ st.loads l).n):GS [t.d,.ref r,(Ae.thr l n ws).d] S=some (aD (Kg t st.loads l n ws),S):=by
 have a:=Ir ht h hk hl hw
 obtain⟨x,x1,x2,x3⟩:=hS.at hi
 have hlen:=h.len
 have e:=Dw (gs:=[(r,as.map D.ref)]) (t:=tTp [(tNm 1),(tNm 2),(tNm 3)]) (f:=eOp (o2 FK) [(eV 2),(eOp (o2 wIx) [(eV 0),(eV 1)])]) (C:=[some (.tup (ws.map D.int))]) (m:=3) (e:=fun z:Nat×Ld=>D.ref z.1) (g:=fun z=>D.int (z.2.n*ws.getD z.2.k 0)) hS.guard (xs:=as.zip st.loads) (acc:=[]) (os:=[none,none,none]) rfl (Nat.le_trans (show _≤24 by simp;omega) (AO (by decide))) (by
  intro z hz os ho
  obtain⟨q1,q2,q3,rfl⟩:∃q1 q2 q3,os=[q1,q2,q3]:=by
   match os,ho with
   | [a,b,c],_=>exact⟨a,b,c,rfl⟩
  have c1:=hS.zmem hz
  have hm:z.2∈st.loads:=(List.of_mem_zip (a:=z.1) (b:=z.2) hz).2
  have hk:=h.kind _ hm
  have w1:=U1 (ws:=ws) (i:=z.2.k) (by omega)
  have w2:=NG hw (i:=z.2.k) (by omega)
  have m1:Dz z.2.n (ws.getD z.2.k 0)=true:=mulR (by omega) (by omega)
  generalize ws.getD z.2.k 0=wz at*
  refine⟨[some (.int z.2.k),some (.int z.2.n),some (shD z.2.ow)],rfl,?_,?_⟩
  ·simp[AS c1,B5]
  ·simp[w1,m1])
 rw[←Ug hS.len,←Wa hS.len (fun x=>D.int (x.n*ws.getD x.k 0))]at e
 have e':=e
 simp only[List.cons_append,List.nil_append]at e'
 rw[Lm hi]
 have es:Hc (st.loads.map fun x=>D.int (x.n*ws.getD x.k 0))=some (st.loads.map fun x=>x.n*ws.getD x.k 0):=by
  have:=FC (st.loads.map fun x=>x.n*ws.getD x.k 0)
  rwa [List.map_map]at this
 have w1:=U1 (ws:=ws) (i:=(AQ st.loads l).k) (by have:=h.kind _ (BZ hi);omega)
 have w3:=NG hw (i:=(AQ st.loads l).k) (by have:=h.kind _ (BZ hi);omega)
 have w2:=Oq hl
 have w4:=NG hw (i:=t.k) (by omega)
 have m1:Dz n (ws.getD (AQ st.loads l).k 0)=true:=mulR (by omega) (by omega)
 have m2:Dz (t.b:Int) (ws.getD t.k 0)=true:=mulR (by omega) (by omega)
 have l1:=SM (S:=S) (t:=n*ws.getD (AQ st.loads l).k 0) a.1 (GH (Jt (by omega) a.2) (by omega))
 have e2:EJ t st.loads ws=(st.loads.map fun x=>x.n*ws.getD x.k 0).sum+t.b*ws.getD t.k 0:=rfl
 rw[e2]at l1⊢
 generalize aD (((n*ws.getD (AQ st.loads l).k 0:Int):Rat) / (((st.loads.map fun x=>x.n*ws.getD x.k 0).sum+t.b*ws.getD t.k 0:Int):Rat))=R at*
 generalize (st.loads.map fun x=>x.n*ws.getD x.k 0)=es' at*
 generalize (st.loads.map fun x=>D.int (x.n*ws.getD x.k 0))=es2 at*
 generalize ws.getD (AQ st.loads l).k 0=wa at*
 generalize ws.getD t.k 0=wb at*
 have dx:=Aj x2
 have dl:=Aj hS.lo
 simp[GS,K0,Ae.d,Tr.d,FO hS.lo,e',es,w2,m2,dl,x3,dx,B5,w1,m1,l1]
theorem QW{G B:Nat}(ht:J5 t)(h:Ek t k st)(hk:k≤20)(hl:ws.length=t.k+1)(hw:∀w∈ws,1≤w/\w≤99)(hi:l<st.loads.length)(h1:1≤n)(h2:n≤(AQ st.loads l).n){os ss:List Rat}(ho:∀r∈os,Ok G B r)(hs:∀r∈ss,Ok G B r):∀r∈Im (Kg t st.loads l n ws) os ss,Ok (G*(EJ t st.loads ws).toNat) (B*(EJ t st.loads ws).toNat) r:=by
 have a:=Ir ht h hk hl hw
 have b:=Qh ht h hl hw hi h1 h2
 intro r hr
 unfold Im at hr
 rw[List.mem_iff_getElem?]at hr
 obtain⟨i,hi'⟩:=hr
 rw[List.getElem?_zipWith_eq_some]at hi'
 obtain⟨x,y,hx,hy,rfl⟩:=hi'
 rw[Lm hi]
 generalize n*ws.getD (AQ st.loads l).k 0=c at*
 generalize EJ t st.loads ws=W at*
 have:=Ok.mix (a:=(W-c).toNat) (b:=c.toNat) (t:=W.toNat) (hs x (List.mem_of_getElem? hx)) (ho y (List.mem_of_getElem? hy)) (by omega) (by omega)
 have e1:(((W-c).toNat:Nat):Rat)=(W:Rat)-(c:Rat):=by
  have:(((W-c).toNat:Nat):Int)=W-c:=Int.toNat_of_nonneg (by omega)
  have:((((W-c).toNat:Nat):Int):Rat)=((W-c:Int):Rat):=by rw[this]
  push_cast at this
  exact this
 have e2:((c.toNat:Nat):Rat)=(c:Rat):=by
  have:((c.toNat:Nat):Int)=c:=Int.toNat_of_nonneg (by omega)
  have:(((c.toNat:Nat):Int):Rat)=(c:Rat):=by rw[this]
  exact this
 have e3:((W.toNat:Nat):Rat)=(W:Rat):=by
  have:((W.toNat:Nat):Int)=W:=Int.toNat_of_nonneg (by omega)
  have:(((W.toNat:Nat):Int):Rat)=(W:Rat):=by rw[this]
  exact this
 rw[e1,e2,e3]at this
 have ne:(W:Rat)≠0:=by
  intro z
  have:=Rat.intCast_eq_zero_iff.mp z
  omega
 have ev:(x*((W:Rat)-(c:Rat))+y*(c:Rat)) / (W:Rat)=x*(1-(c:Rat) / (W:Rat))+y*((c:Rat) / (W:Rat)):=by grind
 rw[ev]at this
 exact this
end
end
section
variable{S:Sto}
theorem Ar{x y:Str}(h:PyData.strOk x=true)(g:PyData.strOk y=true):DR (.str x) (.str y)=true:=by
 unfold DR
 show(PyData.strOk x && PyData.strOk y && _)=true
 rw[h,g]
 rfl
theorem Cd:PyData.strOk (Str.ofString "bring")=true:=by decide+kernel
theorem EK:PyData.strOk (Str.ofString "pool")=true:=by decide+kernel
theorem EM:PyData.strOk (Str.ofString "swap")=true:=by decide+kernel
theorem Ce:PyData.strOk (Str.ofString "trade")=true:=by decide+kernel
theorem Dv:PyData.strOk (Str.ofString "spoil")=true:=by decide+kernel
theorem CV:PyData.strOk (Str.ofString "throw")=true:=by decide+kernel
theorem Hw:PyData.strOk (Str.ofString "sell")=true:=by decide+kernel
@[simp] theorem Rq:DR (.str (Str.ofString "bring")) (.str (Str.ofString "bring"))=true:=Ar Cd Cd
@[simp] theorem RU:deq (.str (Str.ofString "bring")) (.str (Str.ofString "bring"))=true:=nr rfl
@[simp] theorem TU:DR (.str (Str.ofString "bring")) (.str (Str.ofString "pool"))=true:=Ar Cd EK
@[simp] theorem Sn:deq (.str (Str.ofString "bring")) (.str (Str.ofString "pool"))=false:=nr rfl
@[simp] theorem UR:DR (.str (Str.ofString "bring")) (.str (Str.ofString "swap"))=true:=Ar Cd EM
@[simp] theorem Ti:deq (.str (Str.ofString "bring")) (.str (Str.ofString "swap"))=false:=nr rfl
@[simp] theorem Ro:DR (.str (Str.ofString "bring")) (.str (Str.ofString "trade"))=true:=Ar Cd Ce
@[simp] theorem Rt:deq (.str (Str.ofString "bring")) (.str (Str.ofString "trade"))=false:=nr rfl
@[simp] theorem Ry:DR (.str (Str.ofString "bring")) (.str (Str.ofString "throw"))=true:=Ar Cd CV
@[simp] theorem R0:deq (.str (Str.ofString "bring")) (.str (Str.ofString "throw"))=false:=nr rfl
@[simp] theorem VP:wIn false (.val (.str "bring")) (.val (.tup [.str "swap",.str "trade"]))=some (.val (.bl false)):=nr rfl
@[simp] theorem SF:wIn false (.val (.str "bring")) (.val (.tup [.str "spoil",.str "throw"]))=some (.val (.bl false)):=nr rfl
@[simp] theorem bp:wIn false (.val (.str "bring")) (.val Bw)=some (.val (.bl true)):=nr rfl
@[simp] theorem Uc:DR (.str (Str.ofString "pool")) (.str (Str.ofString "bring"))=true:=Ar EK Cd
@[simp] theorem SG:deq (.str (Str.ofString "pool")) (.str (Str.ofString "bring"))=false:=nr rfl
@[simp] theorem U6:DR (.str (Str.ofString "pool")) (.str (Str.ofString "pool"))=true:=Ar EK EK
@[simp] theorem U0:deq (.str (Str.ofString "pool")) (.str (Str.ofString "pool"))=true:=nr rfl
@[simp] theorem SA:DR (.str (Str.ofString "pool")) (.str (Str.ofString "trade"))=true:=Ar EK Ce
@[simp] theorem R8:deq (.str (Str.ofString "pool")) (.str (Str.ofString "trade"))=false:=nr rfl
@[simp] theorem Th:DR (.str (Str.ofString "pool")) (.str (Str.ofString "throw"))=true:=Ar EK CV
@[simp] theorem SD:deq (.str (Str.ofString "pool")) (.str (Str.ofString "throw"))=false:=nr rfl
@[simp] theorem dG:wIn false (.val (.str "pool")) (.val Bw)=some (.val (.bl true)):=nr rfl
@[simp] theorem Tq:DR (.str (Str.ofString "swap")) (.str (Str.ofString "bring"))=true:=Ar EM Cd
@[simp] theorem TQ:deq (.str (Str.ofString "swap")) (.str (Str.ofString "bring"))=false:=nr rfl
@[simp] theorem Uy:DR (.str (Str.ofString "swap")) (.str (Str.ofString "pool"))=true:=Ar EM EK
@[simp] theorem U9:deq (.str (Str.ofString "swap")) (.str (Str.ofString "pool"))=false:=nr rfl
@[simp] theorem VW:DR (.str (Str.ofString "swap")) (.str (Str.ofString "swap"))=true:=Ar EM EM
@[simp] theorem Ux:deq (.str (Str.ofString "swap")) (.str (Str.ofString "swap"))=true:=nr rfl
@[simp] theorem Tb:DR (.str (Str.ofString "swap")) (.str (Str.ofString "trade"))=true:=Ar EM Ce
@[simp] theorem Su:deq (.str (Str.ofString "swap")) (.str (Str.ofString "trade"))=false:=nr rfl
@[simp] theorem Uo:DR (.str (Str.ofString "swap")) (.str (Str.ofString "throw"))=true:=Ar EM CV
@[simp] theorem UT:deq (.str (Str.ofString "swap")) (.str (Str.ofString "throw"))=false:=nr rfl
@[simp] theorem Vq:wIn false (.val (.str "swap")) (.val (.tup [.str "swap",.str "trade"]))=some (.val (.bl true)):=nr rfl
@[simp] theorem dU:wIn false (.val (.str "swap")) (.val Bw)=some (.val (.bl true)):=nr rfl
@[simp] theorem Rp:DR (.str (Str.ofString "trade")) (.str (Str.ofString "bring"))=true:=Ar Ce Cd
@[simp] theorem Ra:deq (.str (Str.ofString "trade")) (.str (Str.ofString "bring"))=false:=nr rfl
@[simp] theorem UQ:DR (.str (Str.ofString "trade")) (.str (Str.ofString "pool"))=true:=Ar Ce EK
@[simp] theorem SI:deq (.str (Str.ofString "trade")) (.str (Str.ofString "pool"))=false:=nr rfl
@[simp] theorem Tz:DR (.str (Str.ofString "trade")) (.str (Str.ofString "swap"))=true:=Ar Ce EM
@[simp] theorem Sq:deq (.str (Str.ofString "trade")) (.str (Str.ofString "swap"))=false:=nr rfl
@[simp] theorem RT:DR (.str (Str.ofString "trade")) (.str (Str.ofString "trade"))=true:=Ar Ce Ce
@[simp] theorem Rc:deq (.str (Str.ofString "trade")) (.str (Str.ofString "trade"))=true:=nr rfl
@[simp] theorem RY:DR (.str (Str.ofString "trade")) (.str (Str.ofString "throw"))=true:=Ar Ce CV
@[simp] theorem Rw:deq (.str (Str.ofString "trade")) (.str (Str.ofString "throw"))=false:=nr rfl
@[simp] theorem VB:wIn false (.val (.str "trade")) (.val (.tup [.str "swap",.str "trade"]))=some (.val (.bl true)):=nr rfl
@[simp] theorem cL:wIn false (.val (.str "trade")) (.val Bw)=some (.val (.bl true)):=nr rfl
@[simp] theorem RZ:DR (.str (Str.ofString "spoil")) (.str (Str.ofString "bring"))=true:=Ar Dv Cd
@[simp] theorem Rx:deq (.str (Str.ofString "spoil")) (.str (Str.ofString "bring"))=false:=nr rfl
@[simp] theorem TC:DR (.str (Str.ofString "spoil")) (.str (Str.ofString "pool"))=true:=Ar Dv EK
@[simp] theorem Um:deq (.str (Str.ofString "spoil")) (.str (Str.ofString "pool"))=false:=nr rfl
@[simp] theorem SO:DR (.str (Str.ofString "spoil")) (.str (Str.ofString "swap"))=true:=Ar Dv EM
@[simp] theorem SY:deq (.str (Str.ofString "spoil")) (.str (Str.ofString "swap"))=false:=nr rfl
@[simp] theorem Rz:DR (.str (Str.ofString "spoil")) (.str (Str.ofString "trade"))=true:=Ar Dv Ce
@[simp] theorem Ru:deq (.str (Str.ofString "spoil")) (.str (Str.ofString "trade"))=false:=nr rfl
@[simp] theorem RV:DR (.str (Str.ofString "spoil")) (.str (Str.ofString "spoil"))=true:=Ar Dv Dv
@[simp] theorem Rn:deq (.str (Str.ofString "spoil")) (.str (Str.ofString "spoil"))=true:=nr rfl
@[simp] theorem Rk:DR (.str (Str.ofString "spoil")) (.str (Str.ofString "throw"))=true:=Ar Dv CV
@[simp] theorem Rb:deq (.str (Str.ofString "spoil")) (.str (Str.ofString "throw"))=false:=nr rfl
@[simp] theorem VD:wIn false (.val (.str "spoil")) (.val (.tup [.str "swap",.str "trade"]))=some (.val (.bl false)):=nr rfl
@[simp] theorem SH:wIn false (.val (.str "spoil")) (.val (.tup [.str "spoil",.str "throw"]))=some (.val (.bl true)):=nr rfl
@[simp] theorem cK:wIn false (.val (.str "spoil")) (.val Bw)=some (.val (.bl false)):=nr rfl
@[simp] theorem Rj:DR (.str (Str.ofString "throw")) (.str (Str.ofString "bring"))=true:=Ar CV Cd
@[simp] theorem Rr:deq (.str (Str.ofString "throw")) (.str (Str.ofString "bring"))=false:=nr rfl
@[simp] theorem Tg:DR (.str (Str.ofString "throw")) (.str (Str.ofString "pool"))=true:=Ar CV EK
@[simp] theorem Te:deq (.str (Str.ofString "throw")) (.str (Str.ofString "pool"))=false:=nr rfl
@[simp] theorem Tv:DR (.str (Str.ofString "throw")) (.str (Str.ofString "swap"))=true:=Ar CV EM
@[simp] theorem SJ:deq (.str (Str.ofString "throw")) (.str (Str.ofString "swap"))=false:=nr rfl
@[simp] theorem Rl:DR (.str (Str.ofString "throw")) (.str (Str.ofString "trade"))=true:=Ar CV Ce
@[simp] theorem Ri:deq (.str (Str.ofString "throw")) (.str (Str.ofString "trade"))=false:=nr rfl
@[simp] theorem RW:DR (.str (Str.ofString "throw")) (.str (Str.ofString "spoil"))=true:=Ar CV Dv
@[simp] theorem Rm:deq (.str (Str.ofString "throw")) (.str (Str.ofString "spoil"))=false:=nr rfl
@[simp] theorem Rv:DR (.str (Str.ofString "throw")) (.str (Str.ofString "throw"))=true:=Ar CV CV
@[simp] theorem R1:deq (.str (Str.ofString "throw")) (.str (Str.ofString "throw"))=true:=nr rfl
@[simp] theorem U8:wIn false (.val (.str "throw")) (.val (.tup [.str "swap",.str "trade"]))=some (.val (.bl false)):=nr rfl
@[simp] theorem Tn:wIn false (.val (.str "throw")) (.val (.tup [.str "spoil",.str "throw"]))=some (.val (.bl true)):=nr rfl
@[simp] theorem cc:wIn false (.val (.str "throw")) (.val Bw)=some (.val (.bl false)):=nr rfl
@[simp] theorem UP:DR (.str (Str.ofString "sell")) (.str (Str.ofString "bring"))=true:=Ar Hw Cd
@[simp] theorem Ua:deq (.str (Str.ofString "sell")) (.str (Str.ofString "bring"))=false:=nr rfl
@[simp] theorem VL:DR (.str (Str.ofString "sell")) (.str (Str.ofString "pool"))=true:=Ar Hw EK
@[simp] theorem VU:deq (.str (Str.ofString "sell")) (.str (Str.ofString "pool"))=false:=nr rfl
@[simp] theorem Us:DR (.str (Str.ofString "sell")) (.str (Str.ofString "swap"))=true:=Ar Hw EM
@[simp] theorem VM:deq (.str (Str.ofString "sell")) (.str (Str.ofString "swap"))=false:=nr rfl
@[simp] theorem Tj:DR (.str (Str.ofString "sell")) (.str (Str.ofString "trade"))=true:=Ar Hw Ce
@[simp] theorem UH:deq (.str (Str.ofString "sell")) (.str (Str.ofString "trade"))=false:=nr rfl
@[simp] theorem TJ:DR (.str (Str.ofString "sell")) (.str (Str.ofString "spoil"))=true:=Ar Hw Dv
@[simp] theorem TR:deq (.str (Str.ofString "sell")) (.str (Str.ofString "spoil"))=false:=nr rfl
@[simp] theorem R6:DR (.str (Str.ofString "sell")) (.str (Str.ofString "throw"))=true:=Ar Hw CV
@[simp] theorem Sk:deq (.str (Str.ofString "sell")) (.str (Str.ofString "throw"))=false:=nr rfl
@[simp] theorem Wc:wIn false (.val (.str "sell")) (.val (.tup [.str "swap",.str "trade"]))=some (.val (.bl false)):=nr rfl
@[simp] theorem VO:wIn false (.val (.str "sell")) (.val (.tup [.str "spoil",.str "throw"]))=some (.val (.bl false)):=nr rfl
@[simp] theorem eA:wIn false (.val (.str "sell")) (.val Bw)=some (.val (.bl false)):=nr rfl
@[simp] theorem Yi:dr S Bw=.val Bw:=nr rfl
section
variable{a b c d e f:D}{r:List D}
@[simp] theorem Z7:C7 [a,b,c,d,e] (some (-4)) none=[b,c,d,e]:=nr rfl
@[simp] theorem Z0:C7 [a,b,c,d,e,f] (some (-4)) none=[c,d,e,f]:=nr rfl
@[simp] theorem Zg:C7 [a,b,c,d,e] (some 1) (some 2)=[b]:=nr rfl
@[simp] theorem Z6:C7 [a,b,c,d,e,f] (some 1) (some 2)=[b]:=nr rfl
@[simp] theorem aJ{ds zs:List D}:Z1 S ds [.tup zs]=if ds.length+zs.length≤sizeLine then some (.non,ds++zs)else none:=nr rfl
end
end
section
variable{S S':Sto}{s l m:Nat}{as:List Nat}{st:Stt}
theorem SAt.same(h:SAt S s l m as st)(g:C0 A S S')(hA:∀n∈A,n∉s::l::m::as):SAt S' s l m as st where
 root:=g.get h.root fun z=>hA _ z (by simp)
 lo:=g.get h.lo fun z=>hA _ z (by simp)
 nu:=g.get h.nu fun z=>hA _ z (by simp)
 ld:=fun i a x ha hx=>g.get (h.ld i a x ha hx) fun z=>hA _ z (by simp[List.mem_of_getElem? ha])
 len:=h.len
 nd:=h.nd
theorem SAt.same0(h:SAt S s l m as st)(g:C0 [] S S'):SAt S' s l m as st:=h.same g fun _ z=>(nomatch z)
theorem SAt.ne(h:SAt S s l m as st):s≠l/\s≠m/\l≠m/\s∉as/\l∉as/\m∉as/\as.Nodup:=by
 have:=h.nd
 simp only[List.nodup_cons,List.mem_cons,not_or]at this
 obtain⟨⟨a,b,c⟩,⟨d,e⟩,f,g⟩:=this
 exact⟨a,b,d,c,e,f,g⟩
theorem SAt.setld(h:SAt S s l m as st){i a:Nat}{y:Ld}(ha:as[i]?=some a):SAt (S.set a (B5 y)) s l m as {st with loads:=st.loads.set i y}:=by
 obtain⟨n1,n2,n3,n4,n5,n6,n7⟩:=h.ne
 have ma:=List.mem_of_getElem? ha
 have q1:a≠s:=fun e=>n4 (e▸ma)
 have q2:a≠l:=fun e=>n5 (e▸ma)
 have q3:a≠m:=fun e=>n6 (e▸ma)
 have hi:i<as.length:=(List.getElem?_eq_some_iff.mp ha).1
 have hi':i<st.loads.length:=by rw[←h.len];exact hi
 refine⟨by rw[List.getElem?_set_ne q1];exact h.root,by rw[List.getElem?_set_ne q2];exact h.lo,by rw[List.getElem?_set_ne q3];exact h.nu,?_,by simp[h.len],h.nd⟩
 intro j b x hb hx
 by_cases e:i=j
 ·subst e
  rw[ha]at hb
  cases hb
  have hx':(st.loads.set i y)[i]?=some x:=hx
  rw[List.getElem?_set_self hi']at hx'
  cases hx'
  have hl:a<S.length:=Ad (h.ld i a _ ha (List.getElem?_eq_getElem hi'))
  exact List.getElem?_set_self hl
 ·have hx':(st.loads.set i y)[j]?=some x:=hx
  rw[List.getElem?_set_ne e]at hx'
  have:a≠b:=by
   intro z
   subst z
   exact e ((List.getElem?_inj hi n7).mp (ha.trans hb.symm))
  rw[List.getElem?_set_ne this]
  exact h.ld j b x hb hx'
theorem SAt.lts(h:SAt S s l m as st):∀n∈s::l::m::as,n<S.length:=by
 intro n hn
 simp only[List.mem_cons]at hn
 rcases hn with rfl|rfl|rfl|hn
 ·exact Ad h.root
 ·exact Ad h.lo
 ·exact Ad h.nu
 ·obtain⟨i,hi⟩:=List.mem_iff_getElem?.mp hn
  have:i<st.loads.length:=by rw[←h.len];exact(List.getElem?_eq_some_iff.mp hi).1
  exact Ad (h.ld i n _ hi (List.getElem?_eq_getElem this))
theorem SAt.app(h:SAt S s l m as st)(y:Ld):SAt ((S++[B5 y]).set l (.lst (as.map D.ref++[.ref S.length]))) s l m (as++[S.length]) {st with loads:=st.loads++[y]}:=by
 obtain⟨n1,n2,n3,n4,n5,n6,n7⟩:=h.ne
 have lt:=h.lts
 have ls:=lt s (by simp);have ll:=lt l (by simp);have lm:=lt m (by simp)
 have la:∀a∈as,a<S.length:=fun a ha=>lt a (by simp[ha])
 refine⟨?_,?_,?_,?_,by simp[h.len],?_⟩
 ·rw[List.getElem?_set_ne (Ne.symm n1),List.getElem?_append_left ls];exact h.root
 ·rw[List.getElem?_set_self (by simp;omega)];simp
 ·rw[List.getElem?_set_ne n3,List.getElem?_append_left lm];exact h.nu
 ·intro i a x ha hx
  by_cases e:i<as.length
  ·rw[List.getElem?_append_left e]at ha
   have hx':(st.loads++[y])[i]?=some x:=hx
   rw[List.getElem?_append_left (by rw[←h.len];exact e)]at hx'
   have ma:=List.mem_of_getElem? ha
   rw[List.getElem?_set_ne (show l≠a by rintro rfl;exact n5 ma),List.getElem?_append_left (la a ma)]
   exact h.ld i a x ha hx'
  ·have hx':(st.loads++[y])[i]?=some x:=hx
   have:i=as.length:=by
    have:=(List.getElem?_eq_some_iff.mp ha).1
    simp at this;omega
   subst this
   rw[List.getElem?_concat_length]at ha
   cases ha
   rw[h.len,List.getElem?_concat_length]at hx'
   cases hx'
   rw[List.getElem?_set_ne (by omega),List.getElem?_concat_length]
 ·have:(s::l::m::(as++[S.length]))=(s::l::m::as)++[S.length]:=by simp
  rw[this,List.nodup_append]
  refine⟨h.nd,by simp,?_⟩
  intro a ha b hb e
  simp only[List.mem_cons,List.not_mem_nil,or_false]at hb
  have:=lt a ha
  omega
theorem SAt.hold(h:SAt S s l m as st)(rs:List Rat):SAt (S.set s (.lst [.ref l,shD rs,.ref m])) s l m as {st with hold:=rs}:=by
 obtain⟨n1,n2,n3,n4,n5,n6,n7⟩:=h.ne
 refine⟨List.getElem?_set_self (h.lts s (by simp)),by rw[List.getElem?_set_ne n1];exact h.lo,by rw[List.getElem?_set_ne n2];exact h.nu,?_,h.len,h.nd⟩
 intro i a x ha hx
 rw[List.getElem?_set_ne (show s≠a by rintro rfl;exact n4 (List.mem_of_getElem? ha))]
 exact h.ld i a x ha hx
theorem SAt.nums(h:SAt S s l m as st)(us:List Int):SAt (S.set m (.lst (us.map D.int))) s l m as {st with nums:=us}:=by
 obtain⟨n1,n2,n3,n4,n5,n6,n7⟩:=h.ne
 refine⟨by rw[List.getElem?_set_ne (Ne.symm n2)];exact h.root,by rw[List.getElem?_set_ne (Ne.symm n3)];exact h.lo,List.getElem?_set_self (h.lts m (by simp)),?_,h.len,h.nd⟩
 intro i a x ha hx
 rw[List.getElem?_set_ne (show m≠a by rintro rfl;exact n6 (List.mem_of_getElem? ha))]
 exact h.ld i a x ha hx
theorem NQ{f:Ld->Ld}{body:Ex}{C:En}{i8:Nat}{o0:Option D}(h:SAt S s l m as st)(hi:C.length=i8)
  (hb:∀(S':Sto) (a:Nat) (x:Ld),x∈st.loads->S'[a]?=some (B5 x)->∃S2,body (C++[some (.ref a)]) S'=some (.nx,C++[some (.ref a)],S2.set a (B5 (f x)))/\C0 [] S' S2):
  ∃o S',KI [(l,as.map D.ref)] (tNm i8) body (as.map D.ref) (C++[o0]) S=some (.nx,C++[o],S')/\SAt S' s l m as {st with loads:=st.loads.map f}/\C0 as S S':=by
 obtain⟨E',S',e,i,o,i1,i2,rfl,i3,i4⟩:=Eh (gs:=[(l,as.map D.ref)]) (t:=tNm i8) (b:=body)
  (I:=fun ds E S'=>∃(i:Nat) (o:Option D),ds=(as.drop i).map D.ref/\i≤as.length/\E=C++[o]/\SAt S' s l m as {st with loads:=(st.loads.take i).map f++st.loads.drop i}/\C0 as S S')
  (fun ds E S' hI=>by obtain⟨i,o,_,_,_,h1,_⟩:=hI;exact h1.guard) (ds:=as.map D.ref) (E:=C++[o0]) (S:=S)
  ⟨0, o0, by simp, Nat.zero_le _, rfl, by simpa using h, .refl⟩ (by
   rintro d ds E S1 ⟨i,o,i1,i2,rfl,i3,i4⟩
   have hlt:i<as.length:=by
    rcases Nat.lt_or_ge i as.length with w|w
    ·exact w
    ·rw[List.drop_eq_nil_of_le w]at i1;cases i1
   rw[List.drop_eq_getElem_cons hlt,List.map_cons]at i1
   injection i1 with e1 e2
   subst e1 e2
   have hl2:i<st.loads.length:=by rw[←h.len];exact hlt
   have ha:=List.getElem?_eq_getElem hlt
   have hx:((st.loads.take i).map f++st.loads.drop i)[i]?=some st.loads[i]:=by
    rw[List.getElem?_append_right (by simp;omega)]
    simp[Nat.min_eq_left (Nat.le_of_lt hl2)]
   obtain⟨S2,e3,g3⟩:=hb S1 as[i] st.loads[i] (List.getElem_mem hl2) (i3.ld i _ _ ha hx)
   have k:=(i3.same0 g3).setld (y:=f st.loads[i]) ha
   refine⟨C++[some (.ref as[i])],C++[some (.ref as[i])],S2.set as[i] (B5 (f st.loads[i])),?_,e3,i+1,some (.ref as[i]),rfl,hlt,rfl,?_,?_⟩
   ·rw[Vg]
    congr 1
    subst hi
    rw[List.set_append_right _ _ (Nat.le_refl _)]
    simp
   ·have:((st.loads.take i).map f++st.loads.drop i).set i (f st.loads[i])=(st.loads.take (i+1)).map f++st.loads.drop (i+1):=by
     rw[List.set_append_right _ _ (by simp;omega)]
     have e0:i-((st.loads.take i).map f).length=0:=by simp;omega
     rw[e0,List.drop_eq_getElem_cons hl2,List.set_cons_zero,List.take_succ_eq_append_getElem hl2,List.map_append]
     simp
    rw[←this]
    exact k
   ·exact(i4.trans (g3.mono fun _ z=>(nomatch z))).trans (.set (List.getElem_mem hlt)))
 refine⟨o,S',e,?_,i4⟩
 have hz:i=as.length:=by
  have:=congrArg List.length i1
  simp at this
  omega
 have:(st.loads.take i).map f++st.loads.drop i=st.loads.map f:=by
  rw[hz,h.len];simp
 rw[this]at i3
 exact i3
end
section
variable{S S':Sto}{s l m:Nat}{as:List Nat}{st:Stt}{t:Tr}{k:Nat}
theorem WZ{i:Nat}{n:Int}{j:Nat}(hi:i<st.loads.length)(h:∀x∈st.loads,∀r∈x.ow,Sz j r):∀x∈less st.loads i n,∀r∈x.ow,Sz j r:=by
 intro x hx
 rcases La hx hi with h1|h1
 ·exact h x h1
 ·rw[h1];exact h (AQ st.loads i) (BZ hi)
theorem P8{i:Nat}{n:Int}{j:Nat}(hi:i<st.loads.length)(h:∀x∈st.loads,x.ow.length=j):∀x∈less st.loads i n,x.ow.length=j:=by
 intro x hx
 rcases La hx hi with h1|h1
 ·exact h x h1
 ·rw[h1];exact h (AQ st.loads i) (BZ hi)
theorem Tw(hS:SAt S s l m as st)(ht:J5 t)(h:Ek t k st)(hk:k≤16){i:Nat}{n:Int}{ws:List Int}(hc:Can t st (.thr i n ws)):∃S',D6 [t.d,.ref s,(Ae.thr i n ws).d] S=some (.non,S')/\SAt S' s l m as (step t st (.thr i n ws))/\C0 (s::l::m::as) S S':=by
 obtain⟨hi,h1,h2,hl,hw⟩:=hc
 have cO:=Vj hS ht h (by omega) hl hw hi h1 h2
 have cz:=Wt ht h (by omega) hl hw hi h1 h2
 have sz:=h.sz
 obtain⟨a,a1,a2,a3⟩:=hS.at hi
 have hS1:=hS.setld (y:=⟨(AQ st.loads i).k,(AQ st.loads i).n-n,(AQ st.loads i).ow⟩) a1
 have o1:=sz.1 _ (BZ hi)
 have tp:=ht.2.1
 have hdef:step t st (.thr i n ws)={st with loads:=(less st.loads i n).map fun x=>{x with ow:=Im (Kg t st.loads i n ws) (AQ st.loads i).ow x.ow},hold:=Im (Kg t st.loads i n ws) (AQ st.loads i).ow st.hold}:=rfl
 rw[hdef]
 generalize hX:Kg t st.loads i n ws=X at*
 obtain⟨o,S2,f1,f2,f3⟩:=NQ (f:=fun x=>{x with ow:=Im X (AQ st.loads i).ow x.ow}) (body:=Hz (AL DL [(eOp (o2 wIx) [(eV 8),(eC (.int 2))]),(eV 6),(eV 7)]) (eV 8) (eC (.int 2))) (C:=[some t.d,some (.ref s),some (Ae.thr i n ws).d,some (.ref l),some (shD st.hold),some (.ref m),some (aD X),some (shD (AQ st.loads i).ow)]) (i8:=8) (o0:=none) hS1 rfl (by
  intro S' b x hx hb
  obtain⟨S2,e2,g2⟩:=Ob (S:=S') (x:=X) (ss:=x.ow) (os:=(AQ st.loads i).ow) (j:=30+170*k) (i:=145+k) (WZ (n:=n) hi sz.1 x hx) o1 cz (by omega) (by rw[P8 (n:=n) hi h.own x hx];omega)
  have hb2:=g2.get hb (by simp)
  refine⟨S2,?_,g2⟩
  simp[Aj hb,B5,e2,AS hb2])
 obtain⟨S3,e3,g3⟩:=Ob (S:=S2) (x:=X) (ss:=st.hold) (os:=(AQ st.loads i).ow) (j:=30+170*k) (i:=145+k) sz.2 o1 cz (by omega) (by rw[h.hold];omega)
 have f4:=(f2.same0 g3)
 have rt:=f4.root
 refine⟨S3.set s (.lst [.ref l,shD (Im X (AQ st.loads i).ow st.hold),.ref m]),?_,f4.hold _,?_⟩
 ·have f1':=f1
  simp only[List.cons_append,List.nil_append]at f1'
  have rt':DJ S3 s=some [.ref l,shD st.hold,.ref m]:=AS rt
  have r0:=AS hS.root
  have lo:=Aj hS.lo
  have xx:=Aj a2
  have c2:=AS a2
  have sq1:=FO hS1.lo
  simp only[B5]at f1' sq1 c2 xx
  simp only[Ae.d]at f1' cO⊢
  simp[D6,Hm,r0,cO,lo,a3,xx,c2,sq1,f1',e3,rt']
 ·have q1:C0 (s::l::m::as) S (S.set a (B5 ⟨(AQ st.loads i).k,(AQ st.loads i).n-n,(AQ st.loads i).ow⟩)):=.set (by simp[List.mem_of_getElem? a1])
  exact((q1.trans (f3.mono fun n hn=>by simp[hn])).trans (g3.mono fun _ z=>(nomatch z))).trans (.set (by simp))
theorem Pw(hS:SAt S s l m as st)(ht:J5 t)(h:Ek t k st)(hk:k≤16){p q:Nat}{x:Rat}(hc:Can t st (.sell p q x)):∃S',D6 [t.d,.ref s,(Ae.sell p q x).d] S=some (.non,S')/\SAt S' s l m as (step t st (.sell p q x))/\C0 (s::l::m::as) S S':=by
 obtain⟨hpq,hp,hq,x1,x2,x3⟩:=hc
 have sz:=h.sz
 have hx:Sz 4 x:=by
  refine⟨?_,by omega⟩
  show x.num.natAbs<16
  omega
 have hdef:step t st (.sell p q x)={st with loads:=st.loads.map fun y=>{y with ow:=HK p q x y.ow},hold:=HK p q x st.hold}:=rfl
 rw[hdef]
 obtain⟨o,S2,f1,f2,f3⟩:=NQ (f:=fun y=>{y with ow:=HK p q x y.ow}) (body:=Hz (AL D5 [(eOp (o2 wIx) [(eV 8),(eC (.int 2))]),(eV 2)]) (eV 8) (eC (.int 2))) (C:=[some t.d,some (.ref s),some (Ae.sell p q x).d,some (.ref l),some (shD st.hold),some (.ref m),none,none]) (i8:=8) (o0:=none) hS rfl (by
  intro S' b y hy hb
  obtain⟨S2,e2,g2⟩:=QK (S:=S') (p:=p) (q:=q) (x:=x) (ss:=y.ow) (j:=30+170*k) (i:=4) (sz.1 y hy) hx (by omega) (by rw[h.own y hy];exact hp) (by rw[h.own y hy];exact hq) hpq
  have hb2:=g2.get hb (by simp)
  refine⟨S2,?_,g2⟩
  simp[Aj hb,B5,e2,AS hb2])
 obtain⟨S3,e3,g3⟩:=QK (S:=S2) (p:=p) (q:=q) (x:=x) (ss:=st.hold) (j:=30+170*k) (i:=4) sz.2 hx (by omega) (by rw[h.hold];exact hp) (by rw[h.hold];exact hq) hpq
 have f4:=(f2.same0 g3)
 have rt:=f4.root
 refine⟨S3.set s (.lst [.ref l,shD (HK p q x st.hold),.ref m]),?_,f4.hold _,?_⟩
 ·have f1':=f1
  simp only[List.cons_append,List.nil_append]at f1'
  have rt':DJ S3 s=some [.ref l,shD st.hold,.ref m]:=AS rt
  have r0:=AS hS.root
  have sq1:=FO hS.lo
  simp only[Ae.d]at f1' e3⊢
  simp[D6,Hm,r0,sq1,f1',e3,rt']
 ·exact((f3.mono fun n hn=>by simp[hn]).trans (g3.mono fun _ z=>(nomatch z))).trans (.set (by simp))
end
section
variable{S S':Sto}{s l m:Nat}{as:List Nat}{st:Stt}{t:Tr}{k:Nat}
theorem QZ{ls:List Ld}{l:Nat}{n:Int}:less ls l n=ls.set l ⟨(AQ ls l).k,(AQ ls l).n-n,(AQ ls l).ow⟩:=rfl
theorem Sj{P p:Nat}{cond:Int}{C:En}{dd:D}{f:Ev}(hP:P≤10)(hf:∀(i:Nat),f [some dd,some (.int i)] S=some (aD (if i=p then 1 else 0),S)):B9 [] (tNm 1) DA f (KH 0 P) [] [some dd,none] S=some ((Pj P p).map aD,S):=by
 have:=Dw (gs:=[]) (t:=tNm 1) (f:=f) (C:=[some dd]) (m:=1) (e:=fun i:Nat=>D.int (0+(i:Int))) (g:=fun i=>aD (if i=p then 1 else 0)) (S:=S) Ao (xs:=List.range P) (acc:=[]) (os:=[none]) rfl (Nat.le_trans (show _≤10 by simp;omega) (AO (by decide))) (by
  intro i _ os ho
  obtain⟨o,rfl⟩:∃o,os=[o]:=by
   match os,ho with
   | [a],_=>exact⟨a,rfl⟩
  refine⟨[some (.int i)],rfl,by simp,hf i⟩)
 simp only[List.cons_append,List.nil_append]at this
 rw[Pj,List.map_map]
 exact this
theorem UC(hS:SAt S s l m as st)(ht:J5 t)(h:Ek t k st)(hk:k≤16){p kd:Nat}{n:Int}(hc:Can t st (.bring p kd n)):∃S' as',Bp [t.d,.ref s,(Ae.bring p kd n).d] S=some (.non,S')/\SAt S' s l m as' (step t st (.bring p kd n))/\C0 (s::l::m::as) S S'/\∀n∈as',n∈as∨S.length≤n:=by
 have tp:=ht.2.1
 have e:=Sj (S:=S) (P:=t.p) (p:=p) (cond:=0) (C:=[]) (dd:=(Ae.bring p kd n).d) (f:=BN [(eOp (o1 V1) [(eOp (o2 wEq) [(eV 1),(eOp (o2 wIx) [(eV 0),(eC (.int 1))])])]),(eC (.int 1))]) (by omega) (by
  intro i
  by_cases hi:i=p
  ·subst hi;simp[Ae.d];rfl
  ·have:((i:Int)==(p:Int))=false:=by simp;omega
   simp[Ae.d,this,hi];rfl)
 have rn:G5 (t.p:Int)=true:=Dc (by omega) (by omega)
 have hz:as.length<sizeLine:=Nat.lt_of_lt_of_le (show as.length<50 by rw[hS.len];have:=h.len;omega) (AO (by decide))
 refine⟨_,_,?_,hS.app ⟨kd,n,Pj t.p p⟩,?_,?_⟩
 ·have r0:=AS hS.root
  have c0:=AS hS.lo
  have c1:DJ (S++[B5 ⟨kd,n,Pj t.p p⟩]) l=some (as.map D.ref):=AS (by rw[List.getElem?_append_left (Ad hS.lo)];exact hS.lo)
  simp only[B5]at c1⊢
  simp only[Ae.d]at e⊢
  simp[Bp,EU,r0,Tr.d,rn,e,c0,shD]at c1⊢
  simp[c1,hz]
 ·exact C0.app.trans (.set (by simp))
 ·intro n hn
  rcases List.mem_append.mp hn with w|w
  ·exact .inl w
  ·simp at w;exact .inr (by omega)
theorem UG(hS:SAt S s l m as st)(ht:J5 t)(h:Ek t k st)(hk:k≤16){i:Nat}{n:Int}(hc:Can t st (.spoil i n)):∃S' as',Bp [t.d,.ref s,(Ae.spoil i n).d] S=some (.non,S')/\SAt S' s l m as' (step t st (.spoil i n))/\C0 (s::l::m::as) S S'/\∀n∈as',n∈as∨S.length≤n:=by
 obtain⟨hi,h1,h2⟩:=hc
 obtain⟨a,a1,a2,a3⟩:=hS.at hi
 refine⟨_,as,?_,hS.setld (y:=⟨(AQ st.loads i).k,(AQ st.loads i).n-n,(AQ st.loads i).ow⟩) a1,.set (by simp[List.mem_of_getElem? a1]),fun n hn=>.inl hn⟩
 have r0:=AS hS.root
 have lo:=Aj hS.lo
 have xx:=Aj a2
 have c2:=AS a2
 simp only[B5]at c2 xx⊢
 simp[Bp,EU,Ae.d,r0,lo,a3,xx,c2]
theorem YR(hS:SAt S s l m as st)(ht:J5 t)(h:Ek t k st)(hk:k≤16){i:Nat}{n:Int}{ws:List Int}(hc:Can t st (.thr i n ws)):∃S' as',Bp [t.d,.ref s,(Ae.thr i n ws).d] S=some (.non,S')/\SAt S' s l m as' (step t st (.thr i n ws))/\C0 (s::l::m::as) S S'/\∀n∈as',n∈as∨S.length≤n:=by
 obtain⟨S',e,g1,g2⟩:=Tw hS ht h hk hc
 refine⟨S',as,?_,g1,g2,fun n hn=>.inl hn⟩
 have r0:=AS hS.root
 simp only[Ae.d]at e⊢
 simp[Bp,EU,r0,e]
theorem Wd(hS:SAt S s l m as st)(ht:J5 t)(h:Ek t k st)(hk:k≤16){p q:Nat}{x:Rat}(hc:Can t st (.sell p q x)):∃S' as',Bp [t.d,.ref s,(Ae.sell p q x).d] S=some (.non,S')/\SAt S' s l m as' (step t st (.sell p q x))/\C0 (s::l::m::as) S S'/\∀n∈as',n∈as∨S.length≤n:=by
 obtain⟨S',e,g1,g2⟩:=Pw hS ht h hk hc
 refine⟨S',as,?_,g1,g2,fun n hn=>.inl hn⟩
 have r0:=AS hS.root
 simp only[Ae.d]at e⊢
 simp[Bp,EU,r0,e]
theorem XE(hS:SAt S s l m as st)(ht:J5 t)(h:Ek t k st)(hk:k≤16){i kd:Nat}{g n:Int}(hc:Can t st (.swap i g kd n)):∃S' as',Bp [t.d,.ref s,(Ae.swap i g kd n).d] S=some (.non,S')/\SAt S' s l m as' (step t st (.swap i g kd n))/\C0 (s::l::m::as) S S'/\∀n∈as',n∈as∨S.length≤n:=by
 obtain⟨hi,h1,h2,h3,h4,h5,h6⟩:=hc
 obtain⟨a,a1,a2,a3⟩:=hS.at hi
 have hS1:=hS.setld (y:=⟨(AQ st.loads i).k,(AQ st.loads i).n-g,(AQ st.loads i).ow⟩) a1
 have hS2:=hS1.app ⟨kd,n,(AQ st.loads i).ow⟩
 have hz:as.length<sizeLine:=Nat.lt_of_lt_of_le (show as.length<50 by rw[hS.len];have:=h.len;omega) (AO (by decide))
 have hz2:st.nums.length≤sizeLine:=Nat.le_trans (show _≤20 by have:=h.nm;omega) (AO (by decide))
 refine⟨_,_,?_,hS2,?_,?_⟩
 ·have r0:=AS hS.root
  have lo:=Aj hS.lo
  have xx:=Aj a2
  have c2:=AS a2
  have lo1:=Aj hS1.lo
  have co1:=AS hS1.lo
  have x1:=Aj (List.getElem?_set_self (a:=B5 ⟨(AQ st.loads i).k,(AQ st.loads i).n-g,(AQ st.loads i).ow⟩) (Ad a2))
  have c4:DJ ((S.set a (B5 ⟨(AQ st.loads i).k,(AQ st.loads i).n-g,(AQ st.loads i).ow⟩))++[B5 ⟨kd,n,(AQ st.loads i).ow⟩]) l=some (as.map D.ref):=AS (by rw[List.getElem?_append_left (Ad hS1.lo)];exact hS1.lo)
  have nu:=hS2.nu
  have c5:=AS nu
  have st5:∀{T:Sto},T[m]?=some (.lst (st.nums.map D.int))->T.set m (.lst (st.nums.map D.int))=T:=fun h=>set_same h
  have st6:=st5 nu
  simp only[B5]at c2 xx lo1 co1 x1 c4 c5 st6⊢
  have hz':(as.map D.ref).length<sizeLine:=by simpa using hz
  generalize (as.map D.ref)=refs at*
  simp[Bp,EU,Ae.d,r0,lo,a3,xx,c2,lo1,x1,co1]at c4 c5 st6⊢
  simp[c4,hz',c5,hz2,st6]
 ·exact((C0.set (by simp[List.mem_of_getElem? a1])).trans .app).trans (.set (by simp))
 ·intro n hn
  rcases List.mem_append.mp hn with w|w
  ·exact .inl w
  ·simp at w;exact .inr (by omega)
theorem Ui(hS:SAt S s l m as st)(ht:J5 t)(h:Ek t k st)(hk:k≤16){i kd:Nat}{u g n:Int}(hc:Can t st (.trade u i g kd n)):∃S' as',Bp [t.d,.ref s,(Ae.trade u i g kd n).d] S=some (.non,S')/\SAt S' s l m as' (step t st (.trade u i g kd n))/\C0 (s::l::m::as) S S'/\∀n∈as',n∈as∨S.length≤n:=by
 obtain⟨hi,h1,h2,h3,h4,h5,h6,h7,h8⟩:=hc
 obtain⟨a,a1,a2,a3⟩:=hS.at hi
 have hS1:=hS.setld (y:=⟨(AQ st.loads i).k,(AQ st.loads i).n-g,(AQ st.loads i).ow⟩) a1
 have hS2:=hS1.app ⟨kd,n,(AQ st.loads i).ow⟩
 have hz:as.length<sizeLine:=Nat.lt_of_lt_of_le (show as.length<50 by rw[hS.len];have:=h.len;omega) (AO (by decide))
 have hz2:st.nums.length+1≤sizeLine:=Nat.le_trans (show _≤20 by have:=h.nm;omega) (AO (by decide))
 refine⟨_,_,?_,hS2.nums (st.nums++[u]),?_,?_⟩
 ·have r0:=AS hS.root
  have lo:=Aj hS.lo
  have xx:=Aj a2
  have c2:=AS a2
  have lo1:=Aj hS1.lo
  have co1:=AS hS1.lo
  have x1:=Aj (List.getElem?_set_self (a:=B5 ⟨(AQ st.loads i).k,(AQ st.loads i).n-g,(AQ st.loads i).ow⟩) (Ad a2))
  have c4:DJ ((S.set a (B5 ⟨(AQ st.loads i).k,(AQ st.loads i).n-g,(AQ st.loads i).ow⟩))++[B5 ⟨kd,n,(AQ st.loads i).ow⟩]) l=some (as.map D.ref):=AS (by rw[List.getElem?_append_left (Ad hS1.lo)];exact hS1.lo)
  have nu:=hS2.nu
  have c5:=AS nu
  simp only[B5]at c2 xx lo1 co1 x1 c4 c5⊢
  have hz':(as.map D.ref).length<sizeLine:=by simpa using hz
  generalize (as.map D.ref)=refs at*
  simp[Bp,EU,Ae.d,r0,lo,a3,xx,c2,lo1,x1,co1]at c4 c5⊢
  simp[c4,hz',c5,hz2]
 ·exact(((C0.set (by simp[List.mem_of_getElem? a1])).trans .app).trans (.set (by simp))).trans (.set (by simp))
 ·intro n hn
  rcases List.mem_append.mp hn with w|w
  ·exact .inl w
  ·simp at w;exact .inr (by omega)
theorem W4(hS:SAt S s l m as st)(ht:J5 t)(h:Ek t k st)(hk:k≤16){i j:Nat}(hc:Can t st (.pool i j)):∃S' as',Bp [t.d,.ref s,(Ae.pool i j).d] S=some (.non,S')/\SAt S' s l m as' (step t st (.pool i j))/\C0 (s::l::m::as) S S'/\∀n∈as',n∈as∨S.length≤n:=by
 obtain⟨hij,hi,hj,h1,h2,h3⟩:=hc
 obtain⟨a,a1,a2,a3⟩:=hS.at hi
 obtain⟨b,b1,b2,b3⟩:=hS.at hj
 have sz:=h.sz
 have pi:=h.pcs _ (BZ hi)
 have pj:=h.pcs _ (BZ hj)
 obtain⟨S1,e1,g1⟩:=Q7 (S:=S) (x:=AQ st.loads i) (y:=AQ st.loads j) (j:=30+170*k) (i:=131+k) a2 b2 (sz.1 _ (BZ hi)) (sz.1 _ (BZ hj)) (Jt pi.1 pi.2) (Jt pj.1 pj.2) (by omega) (by omega) (by omega) (by rw[h.own _ (BZ hi)];have:=ht.2.1;omega)
 have hS1:=hS.same0 g1
 have hab:a≠b:=by
  rintro rfl
  exact hij ((List.getElem?_inj (List.getElem?_eq_some_iff.mp a1).1 hS.ne.2.2.2.2.2.2).mp (a1.trans b1.symm))
 have hS2:=hS1.app ⟨(AQ st.loads i).k,(AQ st.loads i).n+(AQ st.loads j).n,Dr (AQ st.loads i).n (AQ st.loads j).n (AQ st.loads i).ow (AQ st.loads j).ow⟩
 have ai:i<as.length:=(List.getElem?_eq_some_iff.mp a1).1
 have bj:j<as.length:=(List.getElem?_eq_some_iff.mp b1).1
 have a1':(as++[S1.length])[i]?=some a:=by rw[List.getElem?_append_left ai];exact a1
 have b1':(as++[S1.length])[j]?=some b:=by rw[List.getElem?_append_left bj];exact b1
 have hS3:=hS2.setld (y:=⟨(AQ st.loads i).k,0,(AQ st.loads i).ow⟩) a1'
 have hS4:=hS3.setld (y:=⟨(AQ st.loads j).k,0,(AQ st.loads j).ow⟩) b1'
 have hz:as.length<sizeLine:=Nat.lt_of_lt_of_le (show as.length<50 by rw[hS.len];have:=h.len;omega) (AO (by decide))
 have est:step t st (.pool i j)={st with loads:=((st.loads++[Ld.mk (AQ st.loads i).k ((AQ st.loads i).n+(AQ st.loads j).n) (Dr (AQ st.loads i).n (AQ st.loads j).n (AQ st.loads i).ow (AQ st.loads j).ow)]).set i ⟨(AQ st.loads i).k,0,(AQ st.loads i).ow⟩).set j ⟨(AQ st.loads j).k,0,(AQ st.loads j).ow⟩}:=by
  have e0:AQ (less st.loads i (AQ st.loads i).n) j=AQ st.loads j:=by
   unfold AQ less
   rw[List.getD_eq_getElem?_getD,List.getElem?_set_ne hij,←List.getD_eq_getElem?_getD]
  have e1:less st.loads i (AQ st.loads i).n=st.loads.set i ⟨(AQ st.loads i).k,0,(AQ st.loads i).ow⟩:=by
   unfold less
   rw[Int.sub_self]
  have e2:less (less st.loads i (AQ st.loads i).n) j (AQ st.loads j).n=(st.loads.set i ⟨(AQ st.loads i).k,0,(AQ st.loads i).ow⟩).set j ⟨(AQ st.loads j).k,0,(AQ st.loads j).ow⟩:=by
   rw[QZ (ls:=less st.loads i (AQ st.loads i).n),e0,Int.sub_self,e1]
  show{st with loads:=less (less st.loads i (AQ st.loads i).n) j (AQ st.loads j).n++_}=_
  rw[e2,List.set_append_left _ _ hi,List.set_append_left _ _ (by simpa using hj)]
 refine⟨_,_,?_,est▸hS4,?_,?_⟩
 ·have r0:=AS hS.root
  have lo:=Aj hS.lo
  have c0:=AS hS.lo
  have xa:=Aj a2
  have xb:=Aj b2
  have c1:=AS hS1.lo
  have c4:DJ (S1++[B5 ⟨(AQ st.loads i).k,(AQ st.loads i).n+(AQ st.loads j).n,Dr (AQ st.loads i).n (AQ st.loads j).n (AQ st.loads i).ow (AQ st.loads j).ow⟩]) l=some (as.map D.ref):=AS (by rw[List.getElem?_append_left (Ad hS1.lo)];exact hS1.lo)
  have c5:=AS (hS2.ld i a (AQ st.loads i) a1' (by show(st.loads++_)[i]?=_;rw[List.getElem?_append_left hi];exact GR hi))
  have c6:=AS (hS3.ld j b (AQ st.loads j) b1' (by show((st.loads++_).set i _)[j]?=_;rw[List.getElem?_set_ne hij,List.getElem?_append_left hj];exact GR hj))
  simp only[B5]at xa xb c4 c5 c6⊢
  have hz':(as.map D.ref).length<sizeLine:=by simpa using hz
  generalize (as.map D.ref)=refs at*
  generalize Dr (AQ st.loads i).n (AQ st.loads j).n (AQ st.loads i).ow (AQ st.loads j).ow=pr at*
  simp[Bp,EU,Ae.d,r0,lo,a3,b3,xa,xb,c0,e1]at c4 c5 c6⊢
  simp[c4,hz',c5,c6]
 ·exact(((g1.mono fun _ z=>(nomatch z)).trans .app).trans (.set (by simp))).trans ((C0.set (by simp[List.mem_of_getElem? a1])).trans (.set (by simp[List.mem_of_getElem? b1])))
 ·intro n hn
  rcases List.mem_append.mp hn with w|w
  ·exact .inl w
  ·simp at w;subst w;exact .inr g1.len
theorem bq(hS:SAt S s l m as st)(ht:J5 t)(h:Ek t k st)(hk:k≤16){d:Ae}(hc:Can t st d):∃S' as',Bp [t.d,.ref s,d.d] S=some (.non,S')/\SAt S' s l m as' (step t st d)/\C0 (s::l::m::as) S S'/\∀n∈as',n∈as∨S.length≤n:=by
 cases d with
 |bring=>exact UC hS ht h hk hc
 |pool=>exact W4 hS ht h hk hc
 |swap=>exact XE hS ht h hk hc
 |trade=>exact Ui hS ht h hk hc
 |spoil=>exact UG hS ht h hk hc
 |thr=>exact YR hS ht h hk hc
 |sell=>exact Wd hS ht h hk hc
end
section
variable{st:Stt}{t:Tr}{k:Nat}
theorem Jj{a b:Nat}(h:a≤b):2^a≤2^b:=Nat.pow_le_pow_right (by decide) h
theorem F0{a b:Nat}(h:a≤b):(2:Int)^a≤2^b:=by
 have:=Jj h
 exact_mod_cast this
theorem G9{c:Int}(h:0≤c):((c.toNat:Nat):Rat)=(c:Rat):=by
 have:((c.toNat:Nat):Int)=c:=Int.toNat_of_nonneg h
 have:(((c.toNat:Nat):Int):Rat)=(c:Rat):=by rw[this]
 exact this
theorem Qf{B T k j:Nat}(hB:B<2^(30+170*k))(hT:T<2^j)(hj:j≤170):B*T<2^(30+170*(k+1)):=by
 have:=Eu hB hT
 exact Nat.lt_of_lt_of_le this (Jj (by omega))
theorem Y2{G B P p:Nat}(h:G≤B):∀r∈Pj P p,Ok G B r:=by
 intro r hr
 obtain⟨i,_,rfl⟩:=List.mem_map.mp hr
 split
 ·exact Ok.one h
 ·exact Ok.zero
theorem Qn{G B:Nat}{n m:Int}{ss os:List Rat}(hn:0<n)(hm:0<m)(hs:∀r∈ss,Ok G B r)(ho:∀r∈os,Ok G B r):∀r∈Dr n m ss os,Ok (G*(n+m).toNat) (B*(n+m).toNat) r:=by
 intro r hr
 unfold Dr at hr
 rw[List.mem_iff_getElem?]at hr
 obtain⟨i,hi'⟩:=hr
 rw[List.getElem?_zipWith_eq_some]at hi'
 obtain⟨x,y,hx,hy,rfl⟩:=hi'
 have:=Ok.mix (a:=n.toNat) (b:=m.toNat) (t:=(n+m).toNat) (hs x (List.mem_of_getElem? hx)) (ho y (List.mem_of_getElem? hy)) (by omega) (by omega)
 rwa [G9 (by omega),G9 (by omega),G9 (by omega)]at this
theorem Ql{G B p q:Nat}{x:Rat}{ss:List Rat}(hp:p<ss.length)(hq:q<ss.length)(x1:0<x.num)(x2:x.num≤x.den)(hs:∀r∈ss,Ok G B r):∀r∈HK p q x ss,Ok (G*x.den) (2*B*x.den) r:=by
 have dp:=x.den_pos
 have hsp:=hs _ (getD_mem (d:=0) hp)
 have hsq:=hs _ (getD_mem (d:=0) hq)
 have xs:=EW x
 have ex:(x.num:Rat)=((x.num.toNat:Nat):Rat):=(G9 (by omega)).symm
 have nz:=Jd x
 intro r hr
 unfold HK at hr
 rcases List.mem_or_eq_of_mem_set hr with hr|hr
 ·rcases List.mem_or_eq_of_mem_set hr with hr|hr
  ·exact(hs r hr).up (by rw[Nat.mul_assoc];omega)
  ·rw [hr]
   obtain⟨z,e,hz⟩:=Ok.mix (a:=x.den-x.num.toNat) (b:=x.num.toNat) (t:=x.den) hsp (Ok.zero (G:=G) (B:=B)) (by omega) dp
   refine⟨z,?_,Nat.le_trans hz (by rw[Nat.mul_assoc];omega)⟩
   rw[←e]
   have e2:((x.den-x.num.toNat:Nat):Rat)=(x.den:Rat)-(x.num:Rat):=by
    have:(((x.den-x.num.toNat:Nat):Int):Rat)=((x.den-x.num:Int):Rat):=by
     congr 1;omega
    push_cast at this
    exact this
   rw[e2]
   generalize ss.getD p 0=sp at*
   congr 1
   grind
 ·rw[hr]
  obtain⟨z,e1,hz⟩:=hsp
  obtain⟨y,e2,hy⟩:=hsq
  refine⟨y*x.den+z*x.num.toNat,?_,?_⟩
  ·generalize ss.getD p 0=sp at*
   generalize ss.getD q 0=sq at*
   push_cast
   rw[←ex,←e1,←e2]
   grind
  ·have h1:y*x.den≤B*x.den:=Nat.mul_le_mul_right _ hy
   have h2:z*x.num.toNat≤B*x.den:=Nat.mul_le_mul hz (by omega)
   rw[Nat.mul_assoc];omega
theorem Gz{f:Rat->Rat->Rat}{a b:List Rat}{n:Nat}(h:a.length=n)(g:b.length=n):(List.zipWith f a b).length=n:=by rw[List.length_zipWith,h,g];omega
theorem GP{P:Ld->Prop}{i:Nat}{n:Int}(hi:i<st.loads.length)(h:∀x∈st.loads,P x)(g:P ⟨(AQ st.loads i).k,(AQ st.loads i).n-n,(AQ st.loads i).ow⟩):∀x∈less st.loads i n,P x:=by
 intro x hx
 rcases La hx hi with h1|h1
 ·exact h x h1
 ·rw[h1];exact g
theorem MF{P:Ld->Prop}{ls:List Ld}{y:Ld}(h:∀x∈ls,P x)(g:P y):∀x∈ls++[y],P x:=by
 intro x hx
 rcases List.mem_append.mp hx with w|w
 ·exact h x w
 ·simp at w;rw[w];exact g
structure LOk(t:Tr)(k G B:Nat)(x:Ld):Prop where
 kd:x.k<t.k
 n0:0≤x.n
 n1:x.n<2^(131+k)
 own:x.ow.length=t.p
 ok:∀r∈x.ow,Ok G B r
theorem LOk.up{G B T B':Nat}{x:Ld}(h:LOk t k G B x)(hT:B*T≤B'):LOk t (k+1) (G*T) B' x:=⟨h.kd,h.n0,Int.lt_of_lt_of_le h.n1 (F0 (by omega)),h.own,fun r hr=>(h.ok r hr).up hT⟩
theorem LOk.up1{G B:Nat}{x:Ld}(h:LOk t k G B x):LOk t (k+1) G B x:=⟨h.kd,h.n0,Int.lt_of_lt_of_le h.n1 (F0 (by omega)),h.own,h.ok⟩
theorem LOk.less{G B:Nat}{x:Ld}{n:Int}(h:LOk t k G B x)(h0:0≤n)(h1:n≤x.n):LOk t k G B ⟨x.k,x.n-n,x.ow⟩:=⟨h.kd,show 0≤x.n-n by omega,show x.n-n<_ by have:=h.n1;omega,h.own,h.ok⟩
theorem Ek.of{G B:Nat}(h1:st.loads.length≤4+k)(h2:∀x∈st.loads,LOk t k G B x)(h3:st.hold.length=t.p)(h4:st.nums.length≤k)(g0:0<G)(g1:G≤B)(g2:B<2^(30+170*k))(h5:∀r∈st.hold,Ok G B r):Ek t k st:=⟨h1,fun x hx=>(h2 x hx).kd,fun x hx=>⟨(h2 x hx).n0,(h2 x hx).n1⟩,fun x hx=>(h2 x hx).own,h3,h4,G,B,g0,g1,g2,fun x hx=>(h2 x hx).ok,h5⟩
theorem aM{n:Int}(h:n<2^131):n<2^(131+k):=Int.lt_of_lt_of_le h (F0 (by omega))
theorem Iz(ht:J5 t)(h:Ek t k st)(hk:k≤16){d:Ae}(hc:Can t st d):Ek t (k+1) (step t st d):=by
  obtain⟨G,B,g0,g1,g2,hl,hh⟩:=h.gb
  have L:∀x∈st.loads,LOk t k G B x:=fun x hx=>⟨h.kind x hx,(h.pcs x hx).1,(h.pcs x hx).2,h.own x hx,hl x hx⟩
  have g2':B<2^(30+170*(k+1)):=Nat.lt_of_lt_of_le g2 (Jj (by omega))
  have hlen:=h.len
  have hnm:=h.nm
  cases d with
  | bring p kd n =>
    obtain⟨h1,h2,h3,h4⟩:=hc
    refine Ek.of (G:=G) (B:=B) (by simp[step];omega) (MF (fun x hx=>(L x hx).up1) ⟨h2,by show 0≤n;omega,aM h4,by simp[Pj],Y2 g1⟩) h.hold (Nat.le_succ_of_le hnm) g0 g1 g2' hh
  | pool i j =>
    obtain⟨hij,hi,hj,h1,h2,h3⟩:=hc
    have li:=L _ (BZ hi)
    have lj:=L _ (BZ hj)
    have tl:((AQ st.loads i).n+(AQ st.loads j).n).toNat<2^(132+k):=by
      have a:=li.n1;have b:=lj.n1
      have e:(2:Int)^(132+k)=2^(131+k)*2:=by rw[show 132+k=(131+k)+1 by omega,Int.pow_succ]
      have:(((AQ st.loads i).n+(AQ st.loads j).n).toNat:Int)<((2^(132+k):Nat):Int):=by
        rw[Int.toNat_of_nonneg (by omega)]
        push_cast
        rw[e];omega
      exact_mod_cast this
    have t0:0<((AQ st.loads i).n+(AQ st.loads j).n).toNat:=by omega
    refine Ek.of (G:=G*((AQ st.loads i).n+(AQ st.loads j).n).toNat) (B:=B*((AQ st.loads i).n+(AQ st.loads j).n).toNat) (by simp[step,BJ];omega) (MF ?_ ⟨li.kd,by show 0≤(AQ st.loads i).n+(AQ st.loads j).n;omega,?_,?_,Qn h1 h2 li.ok lj.ok⟩) h.hold (Nat.le_succ_of_le hnm) (Nat.mul_pos g0 t0) (Nat.mul_le_mul_right _ g1) (Qf g2 tl (by omega)) (fun r hr=>(hh r hr).up (Nat.le_refl _))
    · have e0 : AQ (less st.loads i (AQ st.loads i).n) j = AQ st.loads j := by
        unfold AQ less
        rw[List.getD_eq_getElem?_getD,List.getElem?_set_ne hij,←List.getD_eq_getElem?_getD]
      have A:=GP (P:=LOk t (k+1) (G*((AQ st.loads i).n+(AQ st.loads j).n).toNat) (B*((AQ st.loads i).n+(AQ st.loads j).n).toNat)) (n:=(AQ st.loads i).n) hi (fun x hx=>(L x hx).up (Nat.le_refl _)) ((li.up (Nat.le_refl _)).less (by omega) (Int.le_refl _))
      have A2:=GP (st:={st with loads:=less st.loads i (AQ st.loads i).n}) (i:=j) (n:=(AQ st.loads j).n) (by simpa[BJ]using hj) A (by
        show LOk _ _ _ _ ⟨(AQ (less st.loads i (AQ st.loads i).n) j).k,(AQ (less st.loads i (AQ st.loads i).n) j).n-_,(AQ (less st.loads i (AQ st.loads i).n) j).ow⟩
        rw[e0]
        exact(lj.up (Nat.le_refl _)).less (by omega) (Int.le_refl _))
      exact A2
    · show (AQ st.loads i).n + (AQ st.loads j).n < 2 ^ (131 + (k + 1))
      have a:=li.n1;have b:=lj.n1
      rw[show 131+(k+1)=(131+k)+1 by omega,Int.pow_succ];omega
    ·exact Gz li.own lj.own
  | swap i g kd n =>
    obtain⟨hi,h1,h2,h3,h4,h5,h6⟩:=hc
    have li:=L _ (BZ hi)
    refine Ek.of (G:=G) (B:=B) (by simp[step,BJ];omega) (MF (GP hi (fun x hx=>(L x hx).up1) (li.up1.less (by omega) h2)) ⟨h3,by show 0≤n;omega,aM h6,li.own,li.ok⟩) h.hold (Nat.le_succ_of_le hnm) g0 g1 g2' hh
  | trade u i g kd n =>
    obtain⟨hi,h1,h2,h3,h4,h5,h6,h7⟩:=hc
    have li:=L _ (BZ hi)
    refine Ek.of (G:=G) (B:=B) (by simp[step,BJ];omega) (MF (GP hi (fun x hx=>(L x hx).up1) (li.up1.less (by omega) h2)) ⟨h3,by show 0≤n;omega,aM h6,li.own,li.ok⟩) h.hold (by simp[step];omega) g0 g1 g2' hh
  | spoil i n =>
    obtain⟨hi,h1,h2⟩:=hc
    have li:=L _ (BZ hi)
    refine Ek.of (G:=G) (B:=B) (by simp[step,BJ];omega) (GP hi (fun x hx=>(L x hx).up1) (li.up1.less (by omega) h2)) h.hold (Nat.le_succ_of_le hnm) g0 g1 g2' hh
  | thr i n ws =>
    obtain⟨hi,h1,h2,h3,h4⟩:=hc
    have li:=L _ (BZ hi)
    have W:=Ir ht h (by omega) h3 h4
    have wl:(EJ t st.loads ws).toNat<2^(145+k):=by
      have:((EJ t st.loads ws).toNat:Int)<((2^(145+k):Nat):Int):=by
        rw[Int.toNat_of_nonneg (by omega)];push_cast;exact W.2
      exact_mod_cast this
    have bo:=fun{ss:List Rat} (hs:∀r∈ss,Ok G B r)=>QW ht h (by omega) h3 h4 hi h1 h2 li.ok hs
    refine Ek.of (G:=G*(EJ t st.loads ws).toNat) (B:=B*(EJ t st.loads ws).toNat) (by simp[step,BJ];omega) ?_ (Gz h.hold li.own) (Nat.le_succ_of_le hnm) (Nat.mul_pos g0 (by omega)) (Nat.mul_le_mul_right _ g1) (Qf g2 wl (by omega)) (bo hh)
    intro x hx
    obtain⟨y,hy,rfl⟩:=List.mem_map.mp hx
    have ly:=GP (P:=LOk t k G B) hi L (li.less (n:=n) (by omega) h2) y hy
    exact⟨ly.kd,ly.n0,ly.up1.n1,Gz ly.own li.own,bo ly.ok⟩
  | sell p q x =>
    obtain⟨h1,h2,h3,h4,h5,h6⟩:=hc
    have dp:=x.den_pos
    refine Ek.of (G:=G*x.den) (B:=2*B*x.den) (by simp[step];omega) ?_ (by simp[step,HK,h.hold]) (Nat.le_succ_of_le hnm) (Nat.mul_pos g0 dp) (Nat.mul_le_mul_right _ (by omega)) ?_ (Ql (by rw[h.hold];exact h2) (by rw[h.hold];exact h3) h4 h5 hh)
    · intro y hy
      obtain⟨z,hz,rfl⟩:=List.mem_map.mp hy
      have lz:=L z hz
      exact⟨lz.kd,lz.n0,lz.up1.n1,by simp[HK,lz.own],Ql (by rw[lz.own];exact h2) (by rw[lz.own];exact h3) h4 h5 lz.ok⟩
    · have := Qf (B := B) (T := 2 * x.den) (j := 5) g2 (by omega) (by omega)
      rw[show 2*B*x.den=B*(2*x.den) by rw[←Nat.mul_assoc,Nat.mul_comm 2 B]]
      exact this
end
theorem JC{α:Type}{f:α->D}:∀{xs:List α},(∀x∈xs,(f x).lay=true)->D.lays (xs.map f)=true
  | [],_=>rfl
  | x :: xs, h => by
    show((f x).lay && D.lays (xs.map f))=true
    rw[h x List.mem_cons_self,JC fun y hy=>h y (List.mem_cons_of_mem _ hy)]
    rfl
theorem OO{ds:List D}(h:D.lays ds=true):DR (.lst ds) (.lst [])=true:=by
 unfold DR
 show(D.lays ds && true && _)=true
 rw[h]
 simp only[Bool.true_and,decide_eq_true_eq]
 exact Nat.le_trans (Nat.min_le_right _ _) (by decide)
noncomputable def AH(is:List Nat):List D:=is.map fun(i:Nat)=>D.int i
theorem HY{is:List Nat}:DR (.lst (AH is)) (.lst [])=true:=OO (JC fun _ _=>rfl)
theorem Ta{d:D}{ds:List D}:deq (.lst (d::ds)) (.lst [])=false:=rfl
theorem Vp:deq (.lst []) (.lst [])=true:=rfl
theorem Lg{is:List Nat}:deq (.lst (AH is)) (.lst [])=is.isEmpty:=by
 cases is with
 |nil=>exact Vp
 |cons i is=>exact Ta
theorem Hj{ds:List D}:KD 0 ds=(List.range ds.length).map fun(i:Nat)=>D.tup [.int i,ds.getD i .non]:=by
 apply List.ext_getElem?
 intro i
 rw[JH,List.getElem?_map]
 by_cases h:i<ds.length
 ·rw[List.getElem?_eq_getElem h,List.getElem?_range h]
  simp[List.getElem?_eq_getElem h]
 ·rw[List.getElem?_eq_none (by omega),List.getElem?_eq_none (by simp;omega)]
  rfl
theorem HE{is:List Nat}:(AH is).length=is.length:=by simp[AH]
theorem Jx{is:List Nat}{r:Int}(h0:0≤r)(h1:r<is.length):∃i∈is,atI (AH is) r=some (.int (i:Nat)):=by
 have h2:r.toNat<is.length:=by omega
 refine⟨is[r.toNat],List.getElem_mem h2,?_⟩
 have:=Uw (xs:=AH is) h0 (by rw[HE];exact h1)
 rw[this]
 simp[AH]
theorem Pl{x K:Int}(h0:0≤x)(h1:x<2*K):x % K=if x<K then x else x-K:=by
 split
 ·exact Int.emod_eq_of_lt h0 (by assumption)
 ·have:x % K=(x-K) % K:=by rw[Int.sub_emod_right]
  rw[this]
  exact Int.emod_eq_of_lt (by omega) (by omega)
section
variable{S:Sto}{p s l m:Nat}{as:List Nat}{st:Stt}{t:Tr}{k:Nat}
noncomputable def B8(st:Stt):List Nat:=(List.range st.loads.length).filter fun i=>decide (0<(AQ st.loads i).n)
theorem W8(hS:SAt S s l m as st)(hl:st.loads.length≤50):B9 [(l,as.map D.ref)] (tTp [(tNm 0),(tNm 1)]) (eOp (o2 wGt) [(eOp (o2 wIx) [(eV 1),(eC (.int 1))]),(eC (.int 0))]) (eV 0) (KD 0 (as.map D.ref)) [] [none,none] S=some (AH (B8 st),S):=by
 have:=CJ (gs:=[(l,as.map D.ref)]) (t:=tTp [(tNm 0),(tNm 1)]) (c:=eOp (o2 wGt) [(eOp (o2 wIx) [(eV 1),(eC (.int 1))]),(eC (.int 0))]) (f:=eV 0) (C:=[]) (m:=2) (e:=fun i:Nat=>D.tup [.int i,(as.map D.ref).getD i .non]) (g:=fun i:Nat=>D.int i) (b:=fun i=>decide (0<(AQ st.loads i).n)) (S:=S) hS.guard (xs:=List.range st.loads.length) (acc:=[]) (os:=[none,none]) rfl (Nat.le_trans (show _≤50 by simp;omega) (AO (by decide))) (by
  intro i hi os ho
  obtain⟨o1,o2,rfl⟩:∃o1 o2,os=[o1,o2]:=by
   match os,ho with
   | [a,b],_=>exact⟨a,b,rfl⟩
  obtain⟨a,a1,a2,a3⟩:=hS.at (List.mem_range.mp hi)
  have e:(as.map D.ref).getD i .non=.ref a:=by simp[a1]
  rw[e]
  refine⟨[some (.int i),some (.ref a)],rfl,by simp,?_,by simp⟩
  simp[Aj a2,B5])
 rw[Hj,List.length_map,hS.len]
 exact this
theorem Iw{i:Nat}(h:i∈B8 st):i<st.loads.length/\0<(AQ st.loads i).n:=by
 unfold B8 at h
 rw[List.mem_filter]at h
 exact⟨List.mem_range.mp h.1,by simpa using h.2⟩
noncomputable def Dt(st:Stt)(j:Nat):List Nat:=(B8 st).filter fun i=> !(i==j) && ((AQ st.loads i).k==(AQ st.loads j).k)
theorem L1:(B8 st).length≤st.loads.length:=by
 unfold B8
 exact Nat.le_trans (List.length_filter_le _ _) (by simp)
theorem T5{a b:Nat}:((a:Int)==(b:Int))=(a==b):=by
 by_cases h:a=b
 ·subst h;simp
 ·have:((a:Int)==(b:Int))=false:=by simp;omega
  rw[this];simp[h]
theorem XF(hS:SAt S s l m as st)(hl:st.loads.length≤50){j:Nat}(hj:j∈B8 st):B9 [] (tNm 2) (Fc (eOp (o2 wNe) [(eV 2),(eV 1)]) (eOp (o2 wEq) [(eOp (o2 wIx) [(eOp (o2 wIx) [(eV 0),(eV 2)]),(eC (.int 0))]),(eOp (o2 wIx) [(eOp (o2 wIx) [(eV 0),(eV 1)]),(eC (.int 0))])])) (eV 2) (AH (B8 st)) [] [some (.ref l),some (.int j),none] S=some (AH (Dt st j),S):=by
 have fl:=L1 (st:=st)
 exact CJ (gs:=[]) (t:=tNm 2) (f:=eV 2) (C:=[some (.ref l),some (.int j)]) (m:=1) (e:=fun i:Nat=>D.int i) (g:=fun i:Nat=>D.int i) (b:=fun i=> !(i==j) && ((AQ st.loads i).k==(AQ st.loads j).k)) (S:=S) Ao (xs:=B8 st) (acc:=[]) (os:=[none]) rfl (Nat.le_trans (show _≤50 by simp;omega) (AO (by decide))) (by
  intro i hi os ho
  obtain⟨o1,rfl⟩:∃o1,os=[o1]:=by
   match os,ho with
   | [a],_=>exact⟨a,rfl⟩
  obtain⟨a,a1,a2,a3⟩:=hS.at (Iw hi).1
  obtain⟨b,b1,b2,b3⟩:=hS.at (Iw hj).1
  refine⟨[some (.int i)],rfl,by simp,?_,by simp⟩
  by_cases e:i=j
  ·subst e
   simp
  ·have e':((i:Int)==(j:Int))=false:=by simp;omega
   have e2:(i==j)=false:=by simp[e]
   simp[e',e2,Aj hS.lo,a3,b3,Aj a2,Aj b2,B5,T5])
theorem Tc{i j:Nat}(h:i∈Dt st j):i∈B8 st/\i≠j/\(AQ st.loads i).k=(AQ st.loads j).k:=by
 unfold Dt at h
 rw[List.mem_filter]at h
 simp at h
 exact⟨h.1,h.2.1,h.2.2⟩
noncomputable def EY(st:Stt):List Nat:=(List.range 10).filter fun i=> !(st.nums.any fun u=>u==(i:Int))
theorem Lx{us:List Int}{i:Int}:inD (.int i) (us.map D.int)=us.any fun u=>u==i:=by
 unfold inD
 rw[List.any_map]
 rfl
@[simp] theorem bP{b:Bool}{w:Wv}{r:List D}:wIn b w (.own r)=if(Fo (fz w) && r.all Fo)=true then some (.val (.bl (if b then !inD (fz w) r else inD (fz w) r)))else none:=nr rfl
@[simp] theorem ae{b:Bool}{w:Wv}{r:List D}:wIn b w (.val (.lst r))=if(Fo (fz w) && r.all Fo)=true then some (.val (.bl (if b then !inD (fz w) r else inD (fz w) r)))else none:=nr rfl
theorem NV{us:List Int}:(us.map D.int).all Fo=true:=by
 rw[List.all_map,List.all_eq_true]
 intro x _;rfl
@[simp] theorem dZ{i:Int}:Fo (.int i)=true:=nr rfl
theorem Wo(hS:SAt S s l m as st):B9 [] (tNm 1) (eOp (o2 (wIn true)) [(eV 1),(eV 0)]) (eV 1) (KH 0 10) [] [some (.ref m),none] S=some (AH (EY st),S):=by
 exact CJ (gs:=[]) (t:=tNm 1) (f:=eV 1) (C:=[some (.ref m)]) (m:=1) (e:=fun i:Nat=>D.int (0+(i:Int))) (g:=fun i:Nat=>D.int i) (b:=fun i=> !(st.nums.any fun u=>u==(i:Int))) (S:=S) Ao (xs:=List.range 10) (acc:=[]) (os:=[none]) rfl (Nat.le_trans (show _≤50 by simp) (AO (by decide))) (by
  intro i hi os ho
  obtain⟨o1,rfl⟩:∃o1,os=[o1]:=by
   match os,ho with
   | [a],_=>exact⟨a,rfl⟩
  refine⟨[some (.int i)],rfl,by simp,?_,by simp⟩
  have nu:=Aj hS.nu
  have fi:=NV (us:=st.nums)
  have ii:=Lx (us:=st.nums) (i:=(i:Int))
  generalize st.nums.map D.int=ud at*
  generalize (st.nums.any fun u=>u==(i:Int))=bb at*
  simp[nu,fi,ii])
theorem UX{i:Nat}(h:i∈EY st):(i:Int)∉st.nums/\i≤9:=by
 unfold EY at h
 rw[List.mem_filter]at h
 have h1:=List.mem_range.mp h.1
 refine⟨?_,by omega⟩
 intro z
 have h2:=h.2
 have:(st.nums.any fun u=>u==(i:Int))=true:=List.any_eq_true.mpr ⟨_,z,by simp⟩
 rw[this]at h2
 cases h2
theorem R3:(EY st).length≤10:=by
 unfold EY
 exact Nat.le_trans (List.length_filter_le _ _) (by simp)
theorem TB{j:Nat}:(Dt st j).length≤st.loads.length:=by
 unfold Dt
 exact Nat.le_trans (List.length_filter_le _ _) L1
end
section
variable{S:Sto}{p s l m:Nat}{as:List Nat}{st:Stt}{t:Tr}{k:Nat}
def MH:Ex:=(Aa (xIf (Fc (eOp (o2 wLt) [(eV 7),(eC (.int 8))]) (eOp (o2 wGt) [(eOp (o2 wIx) [(eV 1),(eC (.int 1))]),(eC (.int 1))])) (Aa (BP 11 (eOp (o2 Ot) [(eOp (o2 Bi) [(eOp (o2 Bi) [(eOp (o2 wIx) [(eOp (o2 wIx) [(eV 3),(eV 8)]),(eC (.int 0))]),(eC (.int 1))]),(AL AG [(eV 0),(eOp (o2 Ic) [(eOp (o2 wIx) [(eV 1),(eC (.int 1))]),(eC (.int 1))])])]),(eOp (o2 wIx) [(eV 1),(eC (.int 1))])]))
  (Aa (BP 12 (Ci [5] 1 (ML [(eC (.int 10))]) (tNm 1) (eOp (o2 (wIn true)) [(eV 1),(eV 0)]) (eV 1)))
  (Aa (xIf (Fc (eOp (o2 wEq) [(eV 7),(eC (.int 7))]) (eOp (o2 wNe) [(eV 12),(C1 [])])) (BS (BN [(eC (.str "trade")),(eOp (o2 wIx) [(eV 12),(AL AG [(eV 0),(eOp (o1 DK) [(eV 12)])])]),(eV 8),(eV 9),(eV 11),(AL BG [(eV 0)])])) CZ)
  (BS (BN [(eC (.str "swap")),(eV 8),(eV 9),(eV 11),(AL BG [(eV 0)])]))))) CZ)
  (Aa (xIf (eOp (o2 wEq) [(eV 7),(eC (.int 8))]) (BS (BN [(eC (.str "spoil")),(eV 8),(eV 9)])) CZ)
  (Aa (xIf (Fc (eOp (o2 wEq) [(eV 7),(eC (.int 9))]) (eOp (o2 wGt) [(eOp (o2 wIx) [(eV 1),(eC (.int 0))]),(eC (.int 1))])) (Aa (BP 13 (AL AG [(eV 0),(eOp (o2 wIx) [(eV 1),(eC (.int 0))])]))
  (BS (BN [(eC (.str "sell")),(eV 13),(eOp (o2 Ot) [(eOp (o2 Bi) [(eOp (o2 Bi) [(eV 13),(eC (.int 1))]),(AL AG [(eV 0),(eOp (o2 Ic) [(eOp (o2 wIx) [(eV 1),(eC (.int 0))]),(eC (.int 1))])])]),(eOp (o2 wIx) [(eV 1),(eC (.int 0))])]),(AL EC [(eV 0)])]))) CZ)
  (BS (BN [(eC (.str "throw")),(eV 8),(eV 9),(AL Ct [(eV 0),(eOp (o2 Bi) [(eOp (o2 wIx) [(eV 1),(eC (.int 1))]),(eC (.int 1))])])])))))
def Pq:Ex:=(xIf (eOp (o2 wLt) [(eV 7),(eC (.int 5))]) (Aa (BP 10 (Ci [3,8] 1 (GY (eV 6)) (tNm 2) (Fc (eOp (o2 wNe) [(eV 2),(eV 1)]) (eOp (o2 wEq) [(eOp (o2 wIx) [(eOp (o2 wIx) [(eV 0),(eV 2)]),(eC (.int 0))]),(eOp (o2 wIx) [(eOp (o2 wIx) [(eV 0),(eV 1)]),(eC (.int 0))])])) (eV 2)))
  (xIf (eOp (o2 wNe) [(eV 10),(C1 [])]) (BS (BN [(eC (.str "pool")),(eV 8),(eOp (o2 wIx) [(eV 10),(AL AG [(eV 0),(eOp (o1 DK) [(eV 10)])])])])) CZ)) CZ)
theorem Lw:K8=(Aa (PR (tTp [(tNm 3),(tNm 4),(tNm 5)]) (eV 2))
  (Aa (BP 6 (Ci [] 2 (Rf (eV 3)) (tTp [(tNm 0),(tNm 1)]) (eOp (o2 wGt) [(eOp (o2 wIx) [(eV 1),(eC (.int 1))]),(eC (.int 0))]) (eV 0)))
  (Aa (BP 7 (AL AG [(eV 0),(eC (.int 12))]))
  (Aa (xIf (eOr (eOp (o2 wLt) [(eV 7),(eC (.int 2))]) (eOp (o2 wEq) [(eV 6),(C1 [])])) (BS (BN [(eC (.str "bring")),(AL AG [(eV 0),(eOp (o2 wIx) [(eV 1),(eC (.int 0))])]),(AL AG [(eV 0),(eOp (o2 wIx) [(eV 1),(eC (.int 1))])]),(AL BG [(eV 0)])])) CZ)
  (Aa (BP 8 (eOp (o2 wIx) [(eV 6),(AL AG [(eV 0),(eOp (o1 DK) [(eV 6)])])]))
  (Aa (BP 9 (eOp (o2 Bi) [(eC (.int 1)),(AL AG [(eV 0),(eOp (o2 XQ) [(eOp (o2 wIx) [(eOp (o2 wIx) [(eV 3),(eV 8)]),(eC (.int 1))]),(eC (.int 2000))])])]))
  (Aa Pq MH))))))):=rfl
theorem WG (hp : B2 p S) (hS : SAt S s l m as st) (hps : p ∉ s :: l :: m :: as) (ht : J5 t) (h : Ek t k st) (hk : k ≤ 16) : ∃ d S', Cs [.ref p, t.d, .ref s] S = some (Ae.d d, S') /\ Pn p S S' /\ Can t st d := by
  obtain⟨t1,t2,t3,t4,t5,t6⟩:=ht
  have hlen:=h.len
  have st':∀{S':Sto},Pn p S S'->SAt S' s l m as st:=fun g=>hS.same g.same (by simpa using hps)
  have r0:=AS hS.root
  have cf:=W8 hS (by omega)
  have fl:=L1 (st:=st)
  have sq:=FO hS.lo
  obtain⟨way,S1,e1,a1,b1,p1⟩:=Ab hp (n:=12) (by decide) (by decide)
  have okF:=HY (is:=B8 st)
  have dqF:=Lg (is:=B8 st)
  by_cases hb:way<2∨(B8 st).isEmpty=true
  · obtain ⟨x2, S2, e2, a2, b2, p2⟩ := Ab p1.pen (n := t.p) (by omega) (by omega)
    obtain⟨x3,S3,e3,a3,b3,p3⟩:=Ab p2.pen (n:=t.k) (by omega) (by omega)
    obtain⟨x4,S4,e4,p4,a4,b4⟩:=HW p3.pen
    obtain⟨x2,rfl⟩:=Dm a2
    obtain⟨x3,rfl⟩:=Dm a3
    refine⟨.bring x2 x3 x4,S4,?_,((p1.trans p2).trans p3).trans p4,by omega,by omega,a4,b4⟩
    by_cases hw:way<2
    ·simp[Cs,Lw,r0,sq,cf,e1,Tr.d,hw,e2,e3,e4,Ae.d]
    · have hf := hb.resolve_left hw
      simp[Cs,Lw,r0,sq,cf,e1,Tr.d,hw,okF,dqF,hf,e2,e3,e4,Ae.d]
  · have hw2 : ¬ way < 2 := fun z => hb (.inl z)
    have hf:(B8 st).isEmpty=false:=by
      cases z:(B8 st).isEmpty with
      |true=>exact absurd (.inr z) hb
      |false=>rfl
    have hfl:0<(B8 st).length:=by
      cases z:B8 st with
      |nil=>rw[z]at hf;cases hf
      |cons a b=>simp
    obtain⟨rl,S2,e2,a2,b2,p2⟩:=Ab p1.pen (n:=(B8 st).length) (by omega) (by omega)
    obtain⟨i,mi,ei⟩:=Jx a2 b2
    have fi:=Iw mi
    have hS1:=st' p1
    have hS2:=st' (p1.trans p2)
    obtain⟨a,x1,x2,x3⟩:=hS2.at fi.1
    have n1:=fi.2
    obtain⟨rs,S3,e3,a3,b3,p3⟩:=Ab p2.pen (n:=if 2000<(AQ st.loads i).n then 2000 else(AQ st.loads i).n) (by split<;>omega) (by split<;>omega)
    have hsome:1≤1+rs/\1+rs≤(AQ st.loads i).n:=by split at b3<;>omega
    have p23:=(p1.trans p2).trans p3
    have hS3:=st' p23
    have lo2:=Aj hS2.lo
    have lo3:=Aj hS3.lo
    have x2':=Aj x2
    have x4:S3[a]?=some (B5 (AQ st.loads i)):=hS3.ld i a _ x1 (GR fi.1)
    have x4':=Aj x4
    have kd:=h.kind _ (BZ fi.1)
    have nl:=HE (is:=B8 st)
    have cs:=XF hS3 (by omega) mi
    have okS:=HY (is:=Dt st i)
    have dqS:=Lg (is:=Dt st i)
    have sl:=TB (st:=st) (j:=i)
    have nls:=HE (is:=Dt st i)
    have pre:Cs [.ref p,t.d,.ref s] S=((Pq [some (.ref p),some t.d,some (.ref s),some (.ref l),some (shD st.hold),some (.ref m),some (.lst (AH (B8 st))),some (.int way),some (.int i),some (.int (1+rs)),none,none,none,none] S3).bind (Yt MH)).map fun r=>(flD r.1,r.2.2):=by
      simp[Cs,Lw,r0,sq,cf,e1,hw2,okF,dqF,hf,nl,e2,ei,lo2,x3,x2',e3]
    have tail : ∀ o10, (way < 5 -> (Dt st i).isEmpty = true) -> ∃ d S', (MH [some (.ref p), some t.d, some (.ref s), some (.ref l), some (shD st.hold), some (.ref m), some (.lst (AH (B8 st))), some (.int way), some (.int i), some (.int (1 + rs)), o10, none, none, none] S3).map (fun r => (flD r.1, r.2.2)) = some (Ae.d d, S') /\ Pn p S S' /\ Can t st d := by
      intro o10 _
      clear pre cs okS dqS
      by_cases hsw:way<8/\1<t.k
      · obtain ⟨hw8, hk1⟩ := hsw
        have hk1':(1:Int)<t.k:=by omega
        obtain⟨rk,S4,e4,a4,b4,p4⟩:=Ab p3.pen (n:=(t.k:Int)-1) (by omega) (by omega)
        have hS4:=st' (p23.trans p4)
        have hmod:=Pl (x:=((AQ st.loads i).k:Int)+1+rk) (K:=t.k) (by omega) (by omega)
        obtain⟨kd2,ekd⟩:∃q:Nat,((AQ st.loads i).k+1+rk) % (t.k:Int)=(q:Int):=⟨_,(Int.toNat_of_nonneg (Int.emod_nonneg _ (by omega))).symm⟩
        have hkd:kd2<t.k/\kd2≠(AQ st.loads i).k:=by
          rw[ekd]at hmod
          split at hmod<;>omega
        have kp:0<t.k:=by omega
        have cl:=Wo hS4
        have okL:=HY (is:=EY st)
        have dqL:=Lg (is:=EY st)
        have ll:=R3 (st:=st)
        have nll:=HE (is:=EY st)
        have rt:G5 10=true:=Dc (by decide) (by decide)
        by_cases htr:way=7/\(EY st).isEmpty=false
        · obtain ⟨hw7, hle⟩ := htr
          have hll:0<(EY st).length:=by
            cases z:EY st with
            |nil=>rw[z]at hle;cases hle
            |cons a b=>simp
          obtain⟨ru,S5,e5,a5,b5,p5⟩:=Ab p4.pen (n:=(EY st).length) (by omega) (by omega)
          obtain⟨u,mu,eu⟩:=Jx a5 b5
          obtain⟨x6,S6,e6,p6,a6,b6⟩:=HW p5.pen
          have fu:=UX mu
          refine⟨.trade u i (1+rs) kd2 x6,S6,?_,((p23.trans p4).trans p5).trans p6,fi.1,hsome.1,hsome.2,hkd.1,hkd.2,a6,b6,fu.1,by omega,by omega⟩
          subst hw7
          simp[MH,Tr.d,x3,hk1',lo3,x4',e4,kp,ekd,rt,cl,okL,dqL,hle,nll,e5,eu,e6,Ae.d]
        · obtain ⟨x6, S6, e6, p6, a6, b6⟩ := HW p4.pen
          refine⟨.swap i (1+rs) kd2 x6,S6,?_,(p23.trans p4).trans p6,fi.1,hsome.1,hsome.2,hkd.1,hkd.2,a6,b6⟩
          by_cases h7:way=7
          · subst h7
            have hle:(EY st).isEmpty=true:=by
              cases z:(EY st).isEmpty with
              |true=>rfl
              |false=>exact absurd ⟨rfl,z⟩ htr
            simp[MH,Tr.d,x3,hk1',lo3,x4',e4,kp,ekd,rt,cl,okL,dqL,hle,nll,e6,Ae.d]
          · have h7' : (way == 7) = false := by simpa using h7
            simp[MH,Tr.d,x3,hw8,hk1',lo3,x4',e4,kp,ekd,rt,cl,h7',e6,Ae.d]
      · have sw : ∀ (x y : Ex) (T : Sto), xIf (Fc (eOp (o2 wLt) [(eV 7), (eC (.int 8))]) (eOp (o2 wGt) [(eOp (o2 wIx) [(eV 1), (eC (.int 1))]), (eC (.int 1))])) x y [some (.ref p), some t.d, some (.ref s), some (.ref l), some (shD st.hold), some (.ref m), some (.lst (AH (B8 st))), some (.int way), some (.int i), some (.int (1 + rs)), o10, none, none, none] T = y [some (.ref p), some t.d, some (.ref s), some (.ref l), some (shD st.hold), some (.ref m), some (.lst (AH (B8 st))), some (.int way), some (.int i), some (.int (1 + rs)), o10, none, none, none] T := by
          intro x y T
          by_cases w8:way<8
          · have hk1 : ¬ (1 : Int) < t.k := by omega
            simp[Tr.d,w8,hk1]
          ·simp[w8]
        by_cases h8:way=8
        · subst h8
          refine⟨.spoil i (1+rs),S3,?_,p23,fi.1,hsome.1,hsome.2⟩
          simp[MH,-N6,sw]
          simp[Ae.d]
        · have h8' : (way == 8) = false := by simpa using h8
          by_cases h9:way=9/\1<t.p
          · obtain ⟨h9, hP⟩ := h9
            subst h9
            have hP':(1:Int)<t.p:=by omega
            obtain⟨rp,S4,e4,a4,b4,p4⟩:=Ab p3.pen (n:=t.p) (by omega) (by omega)
            obtain⟨rq,S5,e5,a5,b5,p5⟩:=Ab p4.pen (n:=(t.p:Int)-1) (by omega) (by omega)
            obtain⟨sh,S6,e6,p6,a6,b6,c6⟩:=Sv p5.pen
            have hmod:=Pl (x:=rp+1+rq) (K:=t.p) (by omega) (by omega)
            obtain⟨q,eq⟩:∃q:Nat,(rp+1+rq) % (t.p:Int)=(q:Int):=⟨_,(Int.toNat_of_nonneg (Int.emod_nonneg _ (by omega))).symm⟩
            obtain⟨rp,rfl⟩:=Dm a4
            have hq:q<t.p/\q≠rp:=by
              rw[eq]at hmod
              split at hmod<;>omega
            have pp:0<t.p:=by omega
            refine⟨.sell rp q sh,S6,?_,((p23.trans p4).trans p5).trans p6,fun z=>hq.2 z.symm,by omega,hq.1,a6,b6,c6⟩
            simp[MH,-N6,sw]
            simp[Tr.d,hP',e4,e5,pp,eq,e6,Ae.d]
          · have s9 : ∀ (x y : Ex) (T : Sto), xIf (Fc (eOp (o2 wEq) [(eV 7), (eC (.int 9))]) (eOp (o2 wGt) [(eOp (o2 wIx) [(eV 1), (eC (.int 0))]), (eC (.int 1))])) x y [some (.ref p), some t.d, some (.ref s), some (.ref l), some (shD st.hold), some (.ref m), some (.lst (AH (B8 st))), some (.int way), some (.int i), some (.int (1 + rs)), o10, none, none, none] T = y [some (.ref p), some t.d, some (.ref s), some (.ref l), some (shD st.hold), some (.ref m), some (.lst (AH (B8 st))), some (.int way), some (.int i), some (.int (1 + rs)), o10, none, none, none] T := by
              intro x y T
              by_cases z:way=9
              · have hP : ¬ (1 : Int) < t.p := by have : ¬ 1 < t.p := fun w => h9 ⟨z, w⟩; omega
                subst z
                simp[Tr.d,hP]
              · have z' : (way == 9) = false := by simpa using z
                simp[z']
            obtain⟨ws,S4,e4,p4,a4,b4⟩:=P4 p3.pen (n:=t.k+1) (by omega)
            have e4':Ct [.ref p,.int ((t.k:Int)+1)] S3=some (.tup (ws.map .int),S4):=e4
            refine⟨.thr i (1+rs) ws,S4,?_,p23.trans p4,fi.1,hsome.1,hsome.2,a4,b4⟩
            have s8:∀(x y:Ex) (T:Sto),xIf (eOp (o2 wEq) [(eV 7),(eC (.int 8))]) x y [some (.ref p),some t.d,some (.ref s),some (.ref l),some (shD st.hold),some (.ref m),some (.lst (AH (B8 st))),some (.int way),some (.int i),some (.int (1+rs)),o10,none,none,none] T=y [some (.ref p),some t.d,some (.ref s),some (.ref l),some (shD st.hold),some (.ref m),some (.lst (AH (B8 st))),some (.int way),some (.int i),some (.int (1+rs)),o10,none,none,none] T:=by
              intro x y T
              simp[h8']
            simp[MH,-N6,sw,s8,s9]
            simp[Tr.d,e4',Ae.d]
    by_cases hpool:way<5/\(Dt st i).isEmpty=false
    · obtain ⟨hw5, hse⟩ := hpool
      have hsl:0<(Dt st i).length:=by
        cases z:Dt st i with
        |nil=>rw[z]at hse;cases hse
        |cons a b=>simp
      obtain⟨rj,S4,e4,a4,b4,p4⟩:=Ab p3.pen (n:=(Dt st i).length) (by omega) (by omega)
      obtain⟨j,mj,ej⟩:=Jx a4 b4
      have fj:=Tc mj
      have fj':=Iw fj.1
      refine⟨.pool i j,S4,?_,p23.trans p4,fun z=>fj.2.1 z.symm,fi.1,fj'.1,n1,fj'.2,fj.2.2.symm⟩
      rw[pre]
      simp[Pq,hw5,cs,okS,dqS,hse,nls,e4,ej,Ae.d]
    · by_cases w5 : way < 5
      · have hse : (Dt st i).isEmpty = true := by
          cases z:(Dt st i).isEmpty with
          |true=>rfl
          |false=>exact absurd ⟨w5,z⟩ hpool
        obtain⟨d,S',e,pn,hc⟩:=tail (some (.lst (AH (Dt st i)))) (fun _=>hse)
        refine⟨d,S',?_,pn,hc⟩
        rw[pre,←e]
        simp[Pq,w5,cs,okS,dqS,hse]
      · obtain ⟨d, S', e, pn, hc⟩ := tail none (fun z => absurd z w5)
        refine⟨d,S',?_,pn,hc⟩
        rw[pre,←e]
        simp[Pq,w5]
end
noncomputable def runs(t:Tr)(st:Stt)(ds:List Ae):Stt:=ds.foldl (step t) st
def Ij(t:Tr):Stt->List Ae->Prop
 |_,[]=>True
 |st,d::ds=>Can t st d/\Ij t (step t st d) ds
theorem GO{t:Tr}{d:Ae}:∀{ds:List Ae} {st:Stt},Ij t st ds->Can t (runs t st ds) d->Ij t st (ds++[d])
 | [],st,_,h=>⟨h,trivial⟩
 |x::ds,st,h,g=>⟨h.1,GO h.2 g⟩
theorem Oe{t:Tr}:∀{ds:List Ae} {st:Stt} {i:Nat} {d:Ae},Ij t st ds->ds[i]?=some d->Can t (runs t st (ds.take i)) d
  | x :: ds, st, 0, d, h, g => by
    simp at g;subst g
    exact h.1
  | x :: ds, st, i + 1, d, h, g => by
    simp at g
    show Can t (runs t (step t st x) (ds.take i)) d
    exact Oe h.2 g
theorem HN{t:Tr}{st:Stt}{ds:List Ae}{d:Ae}:runs t st (ds++[d])=step t (runs t st ds) d:=by simp[runs]
theorem Qz{t:Tr}{st:Stt}{ds:List Ae}{i:Nat}{d:Ae}(h:ds[i]?=some d):runs t st (ds.take (i+1))=step t (runs t st (ds.take i)) d:=by
 rw[List.take_succ,h]
 exact HN
theorem Ip{t:Tr}(ht:J5 t):∀{ds:List Ae} {st:Stt} {k:Nat},Ek t k st->Ij t st ds->k+ds.length≤17->Ek t (k+ds.length) (runs t st ds)
  | [],st,k,h,_,_=>h
  | d :: ds, st, k, h, g, hl => by
    have:=Ip ht (ds:=ds) (Iz ht h (by simp at hl;omega) g.1) g.2 (by simp at hl;omega)
    rw[show k+(d::ds).length=k+1+ds.length by simp;omega]
    exact this
theorem Hr{t:Tr}:∀{ds:List Ae} {st:Stt} {i:Nat},Ij t st ds->Ij t st (ds.take i)
 | [],st,i,h=>by simp;exact trivial
 |d::ds,st,0,h=>trivial
 |d::ds,st,i+1,h=>⟨h.1,Hr h.2⟩
noncomputable def st0(t:Tr)(ls:List Ld):Stt:=⟨ls,t.ho,[]⟩
structure Mp(t:Tr)(ls:List Ld)(ds:List Ae):Prop where
 tr:J5 t
 inv:Ek t 0 (st0 t ls)
 good:Ij t (st0 t ls) ds
 len:ds.length≤16
theorem Mp.at{t:Tr}{ls:List Ld}{ds:List Ae}(h:Mp t ls ds)(i:Nat):Ek t (ds.take i).length (runs t (st0 t ls) (ds.take i)):=by
 have:=Ip h.tr (ds:=ds.take i) h.inv (Hr h.good) (by have:=h.len;simp;omega)
 rwa [Nat.zero_add]at this
noncomputable def A3(t:Tr)(ls:List Ld)(ds:List Ae):D:=.tup [t.d,.tup (ls.map Ld.d),.tup (ds.map Ae.d)]
theorem Qa{t:Tr}{ls:List Ld}(h:FJ t ls)(hl:ls.length≤4)(h1:t.ho.length=t.p){g:Nat}(g0:0<g)(g1:g≤32)(g2:∀r∈t.ho,Ok g g r):Ek t 0 (st0 t ls):=by
 obtain⟨ha,G,G0,G1,G2⟩:=h
 have hG:G≤32^4:=Nat.le_trans G1 (Nat.pow_le_pow_right (by decide) hl)
 have hB:G*g<2^30:=by
  have:=Nat.mul_le_mul hG g1
  omega
 refine Ek.of (G:=G*g) (B:=G*g) (by simpa[st0]using hl) ?_ h1 (Nat.le_refl _) (Nat.mul_pos G0 g0) (Nat.le_refl _) hB ?_
 ·intro x hx
  have:=ha x hx
  exact⟨this.1,by omega,aM this.2.2.1,this.2.2.2.1,fun r hr=>(G2 x hx r hr).up (Nat.le_refl _)⟩
 ·intro r hr
  have:=(g2 r hr).up (t:=G) (B':=G*g) (by rw[Nat.mul_comm];exact Nat.le_refl _)
  rwa [Nat.mul_comm g G]at this
noncomputable def GX:Ae->Bool
 | .thr .. =>true
 |_=>false
section
variable{S:Sto}{p:Nat}
theorem Tp(d:Ae)(E:En)(h:E=[some d.d]):eOp (o2 wEq) [(eOp (o2 wIx) [(eV 0),(eC (.int 0))]),(eC (.str "throw"))] E S=some (.bl (GX d),S):=by
 subst h
 cases d<;>simp[Ae.d,GX]
theorem fK{q:Nat}{ds:List Ae}(hq:S[q]?=some (.lst (ds.map Ae.d)))(hl:ds.length≤50):B9 [(q,ds.map Ae.d)] (tNm 0) (eOp (o2 wEq) [(eOp (o2 wIx) [(eV 0),(eC (.int 0))]),(eC (.str "throw"))]) (eV 0) (ds.map Ae.d) [] [none] S=some ((ds.filter GX).map Ae.d,S):=
 CJ (gs:=[(q,ds.map Ae.d)]) (t:=tNm 0) (f:=eV 0) (C:=[]) (m:=1) (e:=Ae.d) (g:=Ae.d) (b:=GX) (S:=S) (fun g hg=>by rw[List.mem_singleton.mp hg];exact AS hq) (xs:=ds) (acc:=[]) (os:=[none]) rfl (Nat.le_trans (show _≤50 by simp;omega) (AO (by decide))) (by
  intro d _ os ho
  obtain⟨o1,rfl⟩:∃o1,os=[o1]:=by
   match os,ho with
   | [a],_=>exact⟨a,rfl⟩
  exact⟨[some d.d],rfl,by simp,Tp d _ rfl,by simp⟩)
theorem WN {M : Nat} (hM : M ≤ 16) (h : B2 p S) : ∃ t ls ds S', D3 [.ref p, .int M] S = some (A3 t ls ds, S') /\ (Mp t ls ds /\ ds.length ≤ M) /\ ((∀ l ∈ ls, l.ow.sum = 1) /\ t.ho.sum = 1) /\ B2 p S' := by
  obtain⟨t,S1,e1,p1,ht,hh,g,g0,g1,g2⟩:=SK h
  obtain⟨ls,S2,e2,p2,hf,hl⟩:=UA p1.pen ht
  have hi:=Qa hf hl hh.1 g0 g1 g2
  obtain⟨s,l,m,as,S3,e3,hS,sm,hn⟩:=So (S:=S2) (t:=t) (ls:=ls) (x:=.tup []) (by omega)
  have lp:=p2.pen.lt
  have pen3:B2 p S3:=by
    obtain⟨ds,e,hp⟩:=p2.pen
    exact⟨ds,sm.get e (by simp),hp⟩
  have hq:(S3++[Cl.lst []])[S3.length]?=some (.lst []):=List.getElem?_concat_length
  obtain⟨rn,S4,e4,a4,b4,p4⟩:=Ab (pen3.app [Cl.lst []]) (n:=(M:Int)+1) (by omega) (by omega)
  have lt3:=hS.lts
  have pn:p∉s::l::m::as:=fun z=>by have:=hn p z;omega
  have qn:S3.length∉s::l::m::as:=fun z=>by have:=lt3 _ z;omega
  have hpq:S3.length≠p:=by have:=pen3.lt;omega
  have hS4:SAt S4 s l m as (st0 t ls):=(hS.same0 (.app)).same p4.same (by simpa using pn)
  have hq4:S4[S3.length]?=some (.lst []):=p4.get hq hpq
  obtain⟨rn,rfl⟩:=Dm a4
  have rk:G5 (rn:Int)=true:=Dc (by omega) (by omega)
  generalize hQ:S3.length=q at*
  obtain ⟨E', S', ef, ds, as', o6, o7, rfl, f1, f2, f3, f4, f5, f6, f7⟩ := Eh (gs := []) (t := tNm 6) (b := Aa (BP 7 (AL Cs [(eV 0), (eV 2), (eV 4)]))
    (xIf (eOr (eOp (o2 wNe) [(eOp (o2 wIx) [(eV 7),(eC (.int 0))]),(eC (.str "throw"))]) (eOp (o2 wLt) [(eOp (o1 DK) [(Ci [] 1 (GY (eV 5)) (tNm 0) (eOp (o2 wEq) [(eOp (o2 wIx) [(eV 0),(eC (.int 0))]),(eC (.str "throw"))]) (eV 0))]),(eC (.int 3))])) (Aa (Bx (AL Bp [(eV 2),(eV 4),(eV 7)]))
    (Bx (Fp F1 (eV 5) [(eV 7)]))) CZ))
    (I:=fun rs E S'=>∃(ds:List Ae) (as':List Nat) (o6 o7:Option D),E=[some (.ref p),some (.int M),some t.d,some (.tup (ls.map Ld.d)),some (.ref s),some (.ref q),o6,o7]/\S'[q]?=some (.lst (ds.map Ae.d))/\B2 p S'/\SAt S' s l m as' (runs t (st0 t ls) ds)/\Ij t (st0 t ls) ds/\ds.length+rs.length≤M/\p∉s::l::m::as'/\q∉s::l::m::as')
    (fun _ _ _ _=>Ao) (ds:=KH 0 rn) (E:=[some (.ref p),some (.int M),some t.d,some (.tup (ls.map Ld.d)),some (.ref s),some (.ref q),none,none]) (S:=S4)
    ⟨[], as, none, none, rfl, hq4, p4.pen, hS4, trivial, by rw [Dx]; simp; omega, pn, qn⟩ (by
      rintro dd rs E T ⟨ds,as',o6,o7,rfl,i1,i2,i3,i4,i5,i6,i7⟩
      simp only[List.length_cons]at i5
      have inv:=Ip ht hi i4 (by omega)
      rw[Nat.zero_add]at inv
      obtain⟨d,T1,d1,d2,d3⟩:=WG i2 i3 i6 ht inv (by omega)
      have j3:=i3.same d2.same (by simpa using i6)
      have j1:T1[q]?=some (.lst (ds.map Ae.d)):=d2.get i1 hpq
      have tc:=fK j1 (by omega)
      by_cases hb:GX d=false∨(ds.filter GX).length<3
      · obtain ⟨T2, as2, k1, k2, k3, k4⟩ := bq j3 ht inv (by omega) d3
        have lt:=j3.lts
        have q2:T2[q]?=some (.lst (ds.map Ae.d)):=k3.get j1 i7
        have hz:ds.length<sizeLine:=Nat.lt_of_lt_of_le (show ds.length<50 by omega) (AO (by decide))
        refine⟨_,[some (.ref p),some (.int M),some t.d,some (.tup (ls.map Ld.d)),some (.ref s),some (.ref q),some dd,some d.d],T2.set q (.lst ((ds++[d]).map Ae.d)),by simp;rfl,?_,ds++[d],as2,some dd,some d.d,rfl,List.getElem?_set_self (Ad q2),?_,?_,GO i4 d3,by simp;omega,?_,?_⟩
        · have kk := AS q2
          have w1:∀(c:Ev),eOr (eOp (o2 wNe) [(eOp (o2 wIx) [(eV 7),(eC (.int 0))]),(eC (.str "throw"))]) c [some (.ref p),some (.int M),some t.d,some (.tup (ls.map Ld.d)),some (.ref s),some (.ref q),some dd,some d.d] T1=if GX d=true then c [some (.ref p),some (.int M),some t.d,some (.tup (ls.map Ld.d)),some (.ref s),some (.ref q),some dd,some d.d] T1 else some (.bl true,T1):=by
            intro c
            cases d<;>simp[Ae.d,GX]
          have sq:=FO j1
          have hz':(ds.map Ae.d).length<sizeLine:=by simpa using hz
          have hfin:(ds++[d]).map Ae.d=ds.map Ae.d++[d.d]:=by simp
          rw[hfin]
          generalize hDD:ds.map Ae.d=DD at*
          cases ht':GX d with
          | false =>
            simp[d1,-Nl,w1,ht',k1,kk,hz']
          | true =>
            have h3:((ds.filter GX).length:Int)<3:=by
              have:=hb.resolve_left (by rw[ht'];simp)
              omega
            simp[d1,-Nl,w1,ht',sq,tc,h3,k1,kk,hz']
        · obtain ⟨pd, pe, ph⟩ := d2.pen
          exact⟨pd,by rw[List.getElem?_set_ne hpq];exact k3.get pe i6,ph⟩
        · rw [HN]
          exact k2.same (A:=[q]) (.set (by simp)) (by
            intro n hn z
            simp at hn;subst hn
            simp only[List.mem_cons]at z i7
            rcases z with z|z|z|z
            ·exact i7 (.inl z)
            ·exact i7 (.inr (.inl z))
            ·exact i7 (.inr (.inr (.inl z)))
            · rcases k4 _ z with w | w
              ·exact i7 (.inr (.inr (.inr w)))
              ·have:=Ad j1;omega)
        · intro z
          simp only[List.mem_cons]at z i6
          rcases z with z|z|z|z
          ·exact i6 (.inl z)
          ·exact i6 (.inr (.inl z))
          ·exact i6 (.inr (.inr (.inl z)))
          · rcases k4 _ z with w | w
            ·exact i6 (.inr (.inr (.inr w)))
            ·have:=d2.pen.lt;omega
        · intro z
          simp only[List.mem_cons]at z i7
          rcases z with z|z|z|z
          ·exact i7 (.inl z)
          ·exact i7 (.inr (.inl z))
          ·exact i7 (.inr (.inr (.inl z)))
          · rcases k4 _ z with w | w
            ·exact i7 (.inr (.inr (.inr w)))
            ·have:=Ad j1;omega
      · have ht' : GX d = true := by
          cases z:GX d with
          |true=>rfl
          |false=>exact absurd (.inl z) hb
        have h3:¬((ds.filter GX).length:Int)<3:=by
          have:¬(ds.filter GX).length<3:=fun z=>hb (.inr z)
          omega
        refine⟨_,[some (.ref p),some (.int M),some t.d,some (.tup (ls.map Ld.d)),some (.ref s),some (.ref q),some dd,some d.d],T1,by simp;rfl,?_,ds,as',some dd,some d.d,rfl,j1,d2.pen,j3,i4,by omega,i6,i7⟩
        have w1:∀(c:Ev),eOr (eOp (o2 wNe) [(eOp (o2 wIx) [(eV 7),(eC (.int 0))]),(eC (.str "throw"))]) c [some (.ref p),some (.int M),some t.d,some (.tup (ls.map Ld.d)),some (.ref s),some (.ref q),some dd,some d.d] T1=if GX d=true then c [some (.ref p),some (.int M),some t.d,some (.tup (ls.map Ld.d)),some (.ref s),some (.ref q),some dd,some d.d] T1 else some (.bl true,T1):=by
            intro c
            cases d<;>simp[Ae.d,GX]
        have sq:=FO j1
        generalize hDD:ds.map Ae.d=DD at*
        simp[d1,-Nl,w1,ht',sq,tc,h3])
  refine⟨t,ls,ds,S',?_,⟨⟨ht,hi,f4,by simp at f5;omega⟩,by simpa using f5⟩,⟨fun x hx=>(hf.1 x hx).2.2.2.2,hh.2⟩,f2⟩
  have df:=Aj f1
  simp[D3,Ko,e1,e2,e3,hQ,e4,rk,ef,df,A3]
end
section
variable{S:Sto}{s l m:Nat}{as:List Nat}{st:Stt}
end
theorem Ng{n m d:Nat}(h:n≤m):HT.sIx m d (some (n:Int))=n:=by
 unfold HT.sIx
 have:¬((n:Int)<0):=by omega
 simp[this]
 omega
theorem Lc{α:Type}{ds:List α}{n:Nat}(h:n≤ds.length):C7 ds none (some (n:Int))=ds.take n:=by
 unfold C7
 rw[Ng h]
 simp[HT.sIx]
theorem Ou{α:Type}{ds:List α}{n:Nat}(h:n≤ds.length):C7 ds (some (n:Int)) none=ds.drop n:=by
 unfold C7
 rw[Ng h]
 simp[HT.sIx]
 exact List.take_of_length_le (by simp)
noncomputable def hD(x:Ld):D:=.tup [.int x.k,.int x.n]
noncomputable def CW(ls:List Ld):D:=.lst (ls.map hD)
section
variable{S:Sto}{ls:List Ld}{i j:Nat}{n:Int}
@[simp] theorem bI:dr S (CW ls)=.val (CW ls):=nr rfl
@[simp] theorem aO:asS (.val (CW ls))=some (ls.map hD):=nr rfl
@[simp] theorem aT:DK (.val (CW ls))=some (.val (.int ls.length)):=by
 show DK (.val (.lst (ls.map hD)))=_
 rw[FQ,List.length_map]
theorem Gk(hi:i<ls.length):atI (ls.map hD) (i:Int)=some (hD (AQ ls i)):=CB (by rw[List.getElem?_map,GR hi];rfl)
@[simp] theorem eL{x:Ld}:dr S (hD x)=.val (.tup [.int x.k,.int x.n]):=nr rfl
@[simp] theorem d6{ts:List Tf}{x:Ld}{E:En}:tTp ts (hD x) E S=tMs ts [.int x.k,.int x.n] E S:=nr rfl
theorem MR(hi:i<ls.length)(hn:n≤(AQ ls i).n):By [CW ls,.int i,.int n] S=some (.bl true,S):=by
 have hi':(i:Int)<ls.length:=by omega
 simp[By,Gf,hi',hi,Gk hi,hn]
theorem Nk(hi:i<ls.length)(hj:j<ls.length)(h1:0<(AQ ls i).n)(h2:0<(AQ ls j).n)(hk:(AQ ls i).k=(AQ ls j).k):EZ [CW ls,.int i,.int j] S=some (.bl true,S):=by
 have e1:=MR (S:=S) (n:=1) hi (by omega)
 have e2:=MR (S:=S) (n:=1) hj (by omega)
 simp[EZ,IC,e1,e2,Gk hi,Gk hj,hk]
theorem Ju{k:Nat}(hi:i<ls.length)(hn:n≤(AQ ls i).n)(hk:k≠(AQ ls i).k):De [CW ls,.int i,.int n,.int k] S=some (.bl true,S):=by
 have e1:=MR (S:=S) hi hn
 have e2:(((AQ ls i).k:Int)==(k:Int))=false:=by simp;omega
 simp[De,IZ,e1,Gk hi,e2]
theorem Ub{lo hi:Option Int}:wSl lo hi (.val (CW ls))=some (.own (C7 (ls.map hD) lo hi)):=nr rfl
theorem D4(hi:i<ls.length)(hl:ls.length≤60):Bd [CW ls,.int i,.int n] S=some (CW (less ls i n),S):=by
 have c1:=Lc (ds:=ls.map hD) (n:=i) (by simp;omega)
 have c2:C7 (ls.map hD) (some ((i:Int)+1)) none=(ls.map hD).drop (i+1):=by
  have:=Ou (ds:=ls.map hD) (n:=i+1) (by simp;omega)
  simpa using this
 have ef:CW (less ls i n)=.lst ((ls.map hD).take i++[.tup [.int (AQ ls i).k,.int ((AQ ls i).n-n)]]++(ls.map hD).drop (i+1)):=by
  rw[QZ,CW,List.map_set,List.set_eq_take_append_cons_drop,if_pos (by simpa using hi)]
  simp[hD]
 have z1:(List.take i (ls.map hD)).length+1≤sizeLine:=Nat.le_trans (show _≤100 by simp;omega) (AO (by decide))
 have z2:(List.take i (ls.map hD)++[D.tup [.int (AQ ls i).k,.int ((AQ ls i).n-n)]]).length+(List.drop (i+1) (ls.map hD)).length≤sizeLine:=Nat.le_trans (show _≤100 by simp;omega) (AO (by decide))
 rw[ef]
 have ah:=Gk hi
 have ws:=fun{lo hi:Option Int}=>Ub (ls:=ls) (lo:=lo) (hi:=hi)
 generalize List.take i (ls.map hD)=A at*
 generalize List.drop (i+1) (ls.map hD)=B at*
 simp only[List.length_append,List.length_cons,List.length_nil]at z2
 simp[Bd,Fg,ah,ws,c1,c2,z1,z2]
end
section
variable{S:Sto}{st:Stt}{t:Tr}{k:Nat}
@[simp] theorem Dq{ls:List Ld}{r:List D}:Bi (.val (CW ls)) (.val (.lst r))=if(ls.map hD).length+r.length≤sizeLine then some (.own (ls.map hD++r))else none:=nr rfl
theorem Iq{ls:List Ld}{y:Ld}:D.lst (ls.map hD++[.tup [.int y.k,.int y.n]])=CW (ls++[y]):=by simp[CW,hD]
theorem RD(h:Ek t k st)(hk:k≤17){d:Ae}(hc:Can t st d):Az [CW st.loads,d.d] S=some (CW (step t st d).loads,S):=by
  have hlen:=h.len
  have hz:(st.loads.map hD).length+1≤sizeLine:=Nat.le_trans (show _≤100 by simp;omega) (AO (by decide))
  have hz2:∀{i:Nat} {n:Int},((less st.loads i n).map hD).length+1≤sizeLine:=fun{i n}=>Nat.le_trans (show _≤100 by simp[BJ];omega) (AO (by decide))
  cases d with
  | bring p kd n =>
    have e:=Iq (ls:=st.loads) (y:=⟨kd,n,Pj t.p p⟩)
    show _=some (CW (st.loads++[⟨kd,n,Pj t.p p⟩]),S)
    rw[←e]
    have wA:=Dq (ls:=st.loads) (r:=[.tup [.int kd,.int n]])
    rw[if_pos (by simpa using hz)]at wA
    simp[Az,BW,Ae.d,-Dq,wA]
  | pool i j =>
    obtain⟨hij,hi,hj,h1,h2,h3⟩:=hc
    have e0:AQ (less st.loads i (AQ st.loads i).n) j=AQ st.loads j:=by
      unfold AQ less
      rw[List.getD_eq_getElem?_getD,List.getElem?_set_ne hij,←List.getD_eq_getElem?_getD]
    have w1:=D4 (S:=S) (n:=(AQ st.loads i).n) hi (by omega)
    have w2:=D4 (S:=S) (ls:=less st.loads i (AQ st.loads i).n) (i:=j) (n:=(AQ st.loads j).n) (by rw[BJ];exact hj) (by rw[BJ];omega)
    have z3:((less (less st.loads i (AQ st.loads i).n) j (AQ st.loads j).n).map hD).length+1≤sizeLine:=Nat.le_trans (show _≤100 by simp[BJ];omega) (AO (by decide))
    have e:=Iq (ls:=less (less st.loads i (AQ st.loads i).n) j (AQ st.loads j).n) (y:=⟨(AQ st.loads i).k,(AQ st.loads i).n+(AQ st.loads j).n,Dr (AQ st.loads i).n (AQ st.loads j).n (AQ st.loads i).ow (AQ st.loads j).ow⟩)
    show _=some (CW (less (less st.loads i (AQ st.loads i).n) j (AQ st.loads j).n++[_]),S)
    rw[←e]
    have a1:=Gk hi
    have a2:=Gk hj
    have wA:=Dq (ls:=less (less st.loads i (AQ st.loads i).n) j (AQ st.loads j).n) (r:=[.tup [.int (AQ st.loads i).k,.int ((AQ st.loads i).n+(AQ st.loads j).n)]])
    rw[if_pos (by simpa using z3)]at wA
    generalize (less (less st.loads i (AQ st.loads i).n) j (AQ st.loads j).n).map hD=A at*
    simp[Az,BW,Ae.d,a1,a2,w1,w2,-Dq,wA]
  | swap i g kd n =>
    obtain⟨hi,h1,h2,h3,h4,h5,h6⟩:=hc
    have w1:=D4 (S:=S) (n:=g) hi (by omega)
    have e:=Iq (ls:=less st.loads i g) (y:=⟨kd,n,(AQ st.loads i).ow⟩)
    show _=some (CW (less st.loads i g++[⟨kd,n,(AQ st.loads i).ow⟩]),S)
    rw[←e]
    have wA:=Dq (ls:=less st.loads i g) (r:=[.tup [.int kd,.int n]])
    rw[if_pos (by simpa using hz2)]at wA
    simp[Az,BW,Ae.d,w1,-Dq,wA]
  | trade u i g kd n =>
    obtain⟨hi,h1,h2,h3,h4,h5,h6,h7⟩:=hc
    have w1:=D4 (S:=S) (n:=g) hi (by omega)
    have e:=Iq (ls:=less st.loads i g) (y:=⟨kd,n,(AQ st.loads i).ow⟩)
    show _=some (CW (less st.loads i g++[⟨kd,n,(AQ st.loads i).ow⟩]),S)
    rw[←e]
    have wA:=Dq (ls:=less st.loads i g) (r:=[.tup [.int kd,.int n]])
    rw[if_pos (by simpa using hz2)]at wA
    simp[Az,BW,Ae.d,w1,-Dq,wA]
  | spoil i n =>
    obtain⟨hi,h1,h2⟩:=hc
    have w1:=D4 (S:=S) (n:=n) hi (by omega)
    show _=some (CW (less st.loads i n),S)
    simp[Az,BW,Ae.d,w1]
  | thr i n ws =>
    obtain⟨hi,h1,h2,h3,h4⟩:=hc
    have w1:=D4 (S:=S) (n:=n) hi (by omega)
    have e:CW (step t st (.thr i n ws)).loads=CW (less st.loads i n):=by
      show D.lst (((less st.loads i n).map _).map hD)=_
      rw[List.map_map];rfl
    rw[e]
    simp[Az,BW,Ae.d,w1]
  | sell p q x =>
    have e:CW (step t st (.sell p q x)).loads=CW st.loads:=by
      show D.lst ((st.loads.map _).map hD)=_
      rw[List.map_map];rfl
    rw[e]
    simp[Az,BW,Ae.d]
noncomputable def Fj:Ae->Option Int
 | .trade u .. =>some u
 |_=>none
theorem Qc{ls:List Ld}:∀{ds:List Ae},(runs t (st0 t ls) ds).nums=ds.filterMap Fj:=by
  intro ds
  have : ∀ (ds : List Ae) (st : Stt), (runs t st ds).nums = st.nums ++ ds.filterMap Fj := by
    intro ds
    induction ds with
    |nil=>intro st;simp[runs]
    | cons d ds ih =>
      intro st
      show(runs t (step t st d) ds).nums=_
      rw[ih]
      cases d<;>simp[step,Fj,List.filterMap_cons]
  rw[this];rfl
theorem IP:∀{ds:List Ae} {acc:List D} {o:Option D},acc.length+ds.length≤100->B9 [] (tNm 0) (eOp (o2 wEq) [(eOp (o2 wIx) [(eV 0),(eC (.int 0))]),(eC (.str "trade"))]) (eOp (o2 wIx) [(eV 0),(eC (.int 1))]) (ds.map Ae.d) acc [o] S=some (acc++(ds.filterMap Fj).map D.int,S)
  | [],acc,o,h=>by rw[List.map_nil,Ew Ao];simp
  | d :: ds, acc, o, h => by
    have hz:acc.length<sizeLine:=Nat.lt_of_lt_of_le (show acc.length<101 by simp at h;omega) (AO (by decide))
    have ht:tNm 0 d.d [o] S=some [some d.d]:=by simp
    rw[List.map_cons]
    cases d with
    | trade u i g kd n =>
      rw[Hq Ao hz ht (S1:=S) (by simp[Ae.d])]
      have:eOp (o2 wIx) [(eV 0),(eC (.int 1))] [some (Ae.trade u i g kd n).d] S=some (.int u,S):=by simp[Ae.d]
      rw[this,A4,IP (by simp at h ⊢; omega)]
      simp[Fj,List.filterMap_cons]
    |bring=>rw[Gm Ao hz ht (S1:=S) (by simp[Ae.d]),IP (by simp at h ⊢; omega)];simp[Fj,List.filterMap_cons]
    |pool=>rw[Gm Ao hz ht (S1:=S) (by simp[Ae.d]),IP (by simp at h ⊢; omega)];simp[Fj,List.filterMap_cons]
    |swap=>rw[Gm Ao hz ht (S1:=S) (by simp[Ae.d]),IP (by simp at h ⊢; omega)];simp[Fj,List.filterMap_cons]
    |spoil=>rw[Gm Ao hz ht (S1:=S) (by simp[Ae.d]),IP (by simp at h ⊢; omega)];simp[Fj,List.filterMap_cons]
    |thr=>rw[Gm Ao hz ht (S1:=S) (by simp[Ae.d]),IP (by simp at h ⊢; omega)];simp[Fj,List.filterMap_cons]
    |sell=>rw[Gm Ao hz ht (S1:=S) (by simp[Ae.d]),IP (by simp at h ⊢; omega)];simp[Fj,List.filterMap_cons]
theorem Qo{ds:List Ae}{d:Ae}(hd:ds.length≤50)(hn:st.nums=ds.filterMap Fj)(hc:Can t st d):Bz [CW st.loads,.tup (ds.map Ae.d),d.d] S=some (.bl true,S):=by
  cases d with
  |bring p kd n=>simp[Bz,Co,Ae.d]
  | pool i j =>
    obtain⟨hij,hi,hj,h1,h2,h3⟩:=hc
    have e:=Nk (S:=S) hi hj h1 h2 h3
    simp[Bz,Co,Ae.d,e]
  | swap i g kd n =>
    obtain⟨hi,h1,h2,h3,h4,h5,h6⟩:=hc
    have e:=Ju (S:=S) (k:=kd) hi h2 h4
    simp[Bz,Co,Ae.d,e]
  | trade u i g kd n =>
    obtain⟨hi,h1,h2,h3,h4,h5,h6,h7,h8⟩:=hc
    have e:=Ju (S:=S) (k:=kd) hi h2 h4
    have tc:=IP (S:=S) (ds:=ds) (acc:=[]) (o:=none) (by simp;omega)
    rw[←hn]at tc
    have fi:=NV (us:=st.nums)
    have ii:=Lx (us:=st.nums) (i:=u)
    have iu:(st.nums.any fun x=>x==u)=false:=by
      rw[List.any_eq_false]
      intro x hx z
      have:x=u:=by simpa using z
      exact h7 (this▸hx)
    rw[iu]at ii
    generalize st.nums.map D.int=ud at*
    simp[Bz,Co,Ae.d,tc,fi,ii,e]
  | spoil i n =>
    obtain⟨hi,h1,h2⟩:=hc
    have e:=MR (S:=S) hi h2
    simp[Bz,Co,Ae.d,e]
  | thr i n ws =>
    obtain⟨hi,h1,h2,h3,h4⟩:=hc
    have e:=MR (S:=S) hi h2
    simp[Bz,Co,Ae.d,e]
  |sell p q x=>simp[Bz,Co,Ae.d]
end
section
variable{S:Sto}{st:Stt}{t:Tr}{k:Nat}
@[simp] theorem QE{a b:Int}:Ht [a,b]=if a≤b then [a,b]else [b,a]:=by
 unfold Ht
 simp[List.mergeSort,List.MergeSort.Internal.splitInTwo,List.merge]
@[simp] theorem N0{a b:Int}:L0 (.val (.lst [.int a,.int b]))=some (.own ((if a≤b then [a,b]else [b,a]).map D.int)):=by
 have:L0 (.val (.lst [.int a,.int b]))=some (.own ((Ht [a,b]).map D.int)):=rfl
 rw[this,QE]
@[simp] theorem aI{a b c d e:D}:atI [a,b,c,d,e] (-4)=some b:=nr rfl
@[simp] theorem aH{a b c d e f:D}:atI [a,b,c,d,e,f] (-4)=some c:=nr rfl
end
section
variable{S:Sto}{st:Stt}{t:Tr}{k:Nat}
theorem O6{ls:List Ld}{x y:D}(hl:ls.length≤50):CT [.tup [x,.tup (ls.map Ld.d),y]] S=some (CW ls,S):=by
 have e:=Dw (gs:=[]) (t:=tNm 0) (f:=BN [(eOp (o2 wIx) [(eV 0),(eC (.int 0))]),(eOp (o2 wIx) [(eV 0),(eC (.int 1))])]) (C:=[]) (m:=1) (e:=Ld.d) (g:=hD) (S:=S) Ao (xs:=ls) (acc:=[]) (os:=[none]) rfl (Nat.le_trans (show _≤50 by simp;omega) (AO (by decide))) (by
  intro x hx os ho
  obtain⟨q1,rfl⟩:∃q1,os=[q1]:=by
   match os,ho with
   | [a],_=>exact⟨a,rfl⟩
  refine⟨[some x.d],rfl,by simp,?_⟩
  simp[Ld.d,hD])
 simp only[List.nil_append]at e
 simp[CT,Es,e,CW]
end
section
variable{S:Sto}
theorem Vx{ns:List Int}{k:Nat}:∃c,CS [.scr ns,.int k] S=some (.int c,S):=by
 by_cases h:k<ns.length
 ·have h':(k:Int)<ns.length:=by omega
  refine⟨ns[k],?_⟩
  have e:atI (ns.map D.int) (k:Int)=some (.int ns[k]):=CB (by rw[List.getElem?_map,List.getElem?_eq_getElem h];rfl)
  simp[CS,FP,h,h',e]
 ·have h':¬(k:Int)<ns.length:=by omega
  exact⟨0,by simp[CS,FP,h,h']⟩
end
section
variable{E:En}{S:Sto}{f g k o:Ev}{d:D}{es:List (Key×D)}
@[simp] theorem az:evP [] E S=some ([],S):=nr rfl
@[simp] theorem aE{r:List (Ev×Ev)}:evP ((k,f)::r) E S=(k E S).bind fun a=>(Z8 a.1).bind fun kk=>(f E a.2).bind fun b=>(evP r E b.2).map fun q=>((kk,b.1)::q.1,q.2):=nr rfl
@[simp] theorem aS{x:Str}:Z8 (.str x)=some (.inr x):=nr rfl
@[simp] theorem YV{cf:Bool}{fs:List (Ev×Ev)}:Q9 cf fs E S=(evP fs E S).map fun r=>Tu cf (Ku [] r.1) r.2:=nr rfl
@[simp] theorem dB:Tu false es S=(.dct es,S):=nr rfl
end
section
variable{S:Sto}
inductive Tbb:D->Prop
 |non:Tbb .non
 |bl (b:Bool):Tbb (.bl b)
 |int {i:Int} (h:i.natAbs<2^160):Tbb (.int i)
 |str (x:Str):Tbb (.str x)
 |tup {ds:List D} (h:∀d∈ds,Tbb d) (l:ds.length≤1000):Tbb (.tup ds)
 |lst {ds:List D} (h:∀d∈ds,Tbb d) (l:ds.length≤1000):Tbb (.lst ds)
 |dct (kvs:List (Key×D)):Tbb (.dct kvs)
noncomputable def YI:D->Bool
 | .int _=>true
 |_=>false
noncomputable def Mr(lo:Int):D->Bool
 | .int i=>decide (lo≤i)
 |_=>false
noncomputable def A7(lo hi:Int):D->Bool
 | .int i=>decide (lo≤i) && decide (i≤hi)
 |_=>false
section
variable{d:D}
@[simp] theorem aZ:kdW (.val .non)=some .non:=nr rfl
@[simp] theorem dR{b:Bool}:kdW (.val (.bl b))=some .bl:=nr rfl
@[simp] theorem cI{i:Int}:kdW (.val (.int i))=some .int:=nr rfl
@[simp] theorem aq{x:Str}:kdW (.val (.str x))=some .str:=nr rfl
@[simp] theorem au{ds:List D}:kdW (.val (.tup ds))=some .tup:=nr rfl
@[simp] theorem cB{ds:List D}:kdW (.val (.lst ds))=some .lst:=nr rfl
@[simp] theorem cV{ds:List (Key×D)}:kdW (.val (.dct ds))=some .dct:=nr rfl
theorem Tbb.kd(h:Tbb d):(∃ds,(∀x∈ds,Tbb x)/\ds.length≤1000/\d=.tup ds)∨((∃kk,kdW (.val d)=some kk/\St.Kd.isA kk "tuple"=false)/\dr S d=.val d/\∀ds,d≠.tup ds):=by
 cases h with
 | @tup ds h l=>exact .inl ⟨ds,h,l,rfl⟩
 |_=>exact .inr ⟨⟨_,rfl,rfl⟩,rfl,fun _ z=>nomatch z⟩
theorem IV:St.Kd.isA .tup "tuple"=true:=rfl
theorem Tbb.ki(h:Tbb d):(∃i:Int,i.natAbs<2^160/\d=.int i)∨(∃kk,kdW (.val d)=some kk/\(St.Kd.isA kk "int" && !St.Kd.isA kk "bool")=false/\dr S d=.val d/\∀i,d≠.int i):=by
 cases h with
 | @int i h=>exact .inl ⟨i,h,rfl⟩
 |_=>exact .inr ⟨_,rfl,rfl,rfl,fun _ z=>nomatch z⟩
theorem Vd:St.Kd.isA .int "int"=true:=rfl
theorem QC:St.Kd.isA .int "bool"=false:=rfl
theorem Pu(h:Tbb d):Cp [d] S=some ((.bl (YI d)),S):=by
 rcases h.ki (S:=S)with⟨i,hi,rfl⟩|⟨kk,q1,q2,q3,q4⟩
 ·simp[Cp,ER,Vd,QC,YI]
 ·have z:YI d=false:=by cases d<;>first|rfl|exact absurd rfl (q4 _)
  cases b1:St.Kd.isA kk "int" <;>simp[b1]at q2<;>simp[Cp,ER,q1,q3,b1,q2,z]
theorem UB(h:Tbb d)(lo:Int):DX [d,(.int lo)] S=some ((.bl (Mr lo d)),S):=by
 have w:=Pu (S:=S) h
 rcases h.ki (S:=S)with⟨i,hi,rfl⟩|⟨kk,q1,q2,q3,q4⟩
 ·simp[DX,FW,w,YI,Mr]
 ·have z:YI d=false:=by cases d<;>first|rfl|exact absurd rfl (q4 _)
  have z2:Mr lo d=false:=by cases d<;>first|rfl|exact absurd rfl (q4 _)
  simp[DX,FW,w,z,z2]
theorem O3(h:Tbb d)(lo hi:Int):Bg [d,(.int lo),(.int hi)] S=some ((.bl (A7 lo hi d)),S):=by
 have w:=UB (S:=S) h lo
 rcases h.ki (S:=S)with⟨i,hi,rfl⟩|⟨kk,q1,q2,q3,q4⟩
 ·by_cases c:lo≤i<;>simp[Bg,Dy,w,Mr,A7,c]
 ·have z:A7 lo hi d=false:=by cases d<;>first|rfl|exact absurd rfl (q4 _)
  have z2:Mr lo d=false:=by cases d<;>first|rfl|exact absurd rfl (q4 _)
  simp[Bg,Dy,w,z,z2]
end
section
variable{S:Sto}{p:Nat}
theorem Nx{n:Nat}:Aw (n+1)=BM (BQ 4 (Gq (Aw n))):=rfl
noncomputable def Ho:List D:=[.non,.bl true,.bl false,.int 0,.int 1,.int (-1),.int 9,.int (10^39),.str "",.str "a",.tup [],.lst []]
theorem PF:∀x∈Ho,Tbb x:=by
 intro x hx
 simp only[Ho,List.mem_cons,List.not_mem_nil,or_false]at hx
 rcases hx with rfl|rfl|rfl|rfl|rfl|rfl|rfl|rfl|rfl|rfl|rfl|rfl
 ·exact .non
 ·exact .bl _
 ·exact .bl _
 ·exact .int (by decide)
 ·exact .int (by decide)
 ·exact .int (by decide)
 ·exact .int (by decide)
 ·exact .int (by decide)
 ·exact .str _
 ·exact .str _
 ·exact .tup (fun d hd=>by cases hd) (by decide)
 ·exact .lst (fun d hd=>by cases hd) (by decide)
def N2:Ev:=(C1 [(eC .non),(eC (.bl true)),(eC (.bl false)),(eC (.int 0)),(eC (.int 1)),(eOp (o1 GZ) [(eC (.int 1))]),(eC (.int 9)),(eOp (o2 Vy) [(eC (.int 10)),(eC (.int 39))]),(eC (.str "")),(eC (.str "a")),(BN []),(C1 [])])
theorem O4{E:En}:N2 E S=some (.lst Ho,S):=by
 have n1:GZ (.val (.int 1))=some (.val (.int (-1))):=rfl
 have p1:Vy (.val (.int 10)) (.val (.int 39))=some (.val (.int (10^39))):=by with_unfolding_all rfl
 have sz:(12:Nat)≤sizeLine:=AO (by decide)
 simp[N2,n1,p1,Ho,sz]
theorem GF : ∀ {n d : Nat}, d < n -> ∀ {S : Sto}, B2 p S -> ∃ X S', Aw n [.ref p, .int d] S = some (X, S') /\ Tbb X /\ Pn p S S'
  |0,d,h,_,_=>absurd h (by omega)
  | n + 1, d, h, S, hp => by
    obtain⟨way,S1,e1,w0,w1,p1⟩:=Ab hp (n:=12) (by decide) (by decide)
    rw[Nx]
    have eb:Gq (Aw n)=(Aa (BP 2 (AL AG [(eV 0),(eC (.int 12))]))
    (Aa (xIf (eOr (eOp (o2 wLt) [(eV 2),(eC (.int 8))]) (eOp (o2 wEq) [(eV 1),(eC (.int 0))])) (BS (eOp (o2 wIx) [N2,(AL AG [(eV 0),(eC (.int 12))])])) CZ)
    (Aa (BP 3 (Ci [0,1] 1 (ML [(AL AG [(eV 0),(eC (.int 4))])]) (tNm 2) DA (AL (Aw n) [(eV 0),(eOp (o2 Ic) [(eV 1),(eC (.int 1))])])))
    (Aa (xIf (eOp (o2 wEq) [(eV 2),(eC (.int 8))]) (BS (eV 3)) CZ)
    (Aa (xIf (eOp (o2 wEq) [(eV 2),(eC (.int 9))]) (BS (XY [((eC (.str "a")),(eV 3))])) CZ)
    (BS (eOp (o1 Du) [(eV 3)]))))))):=rfl
    rw[eb]
    by_cases c:way<8∨d=0
    · obtain ⟨r, S2, e2, r0, r1, p2⟩ := Ab p1.pen (n := 12) (by decide) (by decide)
      obtain⟨x,ax,hx⟩:=pick (xs:=Ho) r0 (by simpa[Ho]using r1)
      refine⟨x,S2,?_,PF x hx,p1.trans p2⟩
      have k:=fun E=>O4 (S:=S1) (E:=E)
      rcases Decidable.em (way<8)with c1|c1
      ·simp[e1,c1,k,e2,ax]
      · have c2 : d = 0 := c.resolve_left c1
        subst c2
        simp[e1,c1,k,e2,ax]
    · have c1 : ¬ way < 8 := fun z => c (.inl z)
      have c2:¬d=0:=fun z=>c (.inr z)
      obtain⟨r,S2,e2,r0,r1,p2⟩:=Ab p1.pen (n:=4) (by decide) (by decide)
      obtain⟨k,rfl⟩:=Dm r0
      have rk:G5 (k:Int)=true:=Dc (by omega) (by omega)
      obtain⟨ys,S3,e3,i3,l3,r3⟩:=Iu (gs:=[]) (t:=tNm 2) (f:=AL (Aw n) [(eV 0),(eOp (o2 Ic) [(eV 1),(eC (.int 1))])]) (C:=[some (.ref p),some (.int d)]) (m:=1) (I:=fun T=>Pn p S2 T) (R:=fun _ y=>Tbb y) (fun _ _=>Ao) (ds:=KH 0 k) (acc:=[]) (os:=[none]) (S:=S2) rfl (.refl p2.pen) (AO (by simp[Dx];omega)) (by
        intro dd hd os T ho hI
        match os,ho with
        | [a],_=>
        obtain⟨X,T',ex,hX,hP⟩:=GF (n:=n) (d:=d-1) (by omega) hI.pen
        refine⟨[some dd],X,T',rfl,by simp,?_,hI.trans hP,hX⟩
        have ec:(d:Int)-1=((d-1:Nat):Int):=by omega
        simp[ec,ex])
      have th:=GU r3
      have ly:ys.length≤1000:=by rw[l3,Dx];omega
      have pn:=(p1.trans p2).trans i3
      simp only[List.nil_append,List.cons_append]at e3
      have c2':((d:Int)==0)=false:=by simpa using c2
      have tn:(k:Int).toNat=k:=by omega
      by_cases w8:way=8
      · subst w8
        refine⟨.lst ys,S3,?_,.lst th ly,pn⟩
        simp[e1,c2',e2,rk,Na,e3,tn]
      · have w8' : (way == 8) = false := by simpa using w8
        by_cases w9:way=9
        · subst w9
          refine⟨.dct (Ku [] [(.inr "a",.lst ys)]),S3,?_,.dct _,pn⟩
          simp[e1,c2',e2,rk,Na,e3,tn]
        · have w9' : (way == 9) = false := by simpa using w9
          refine⟨.tup ys,S3,?_,.tup th ly,pn⟩
          simp[e1,c1,c2',e2,rk,Na,e3,tn,w8',w9']
inductive Sd:Nat->D->Prop
 |int {n:Nat} {i:Int} (h:i.natAbs<2^155):Sd n (.int i)
 |str {n:Nat} {x:Str} (h:x.length≤1000) (u:(Txt.upper x).length≤1000) (o:PyData.strOk x=true):Sd n (.str x)
 |tup {n:Nat} {ds:List D} (h:∀d∈ds,Sd n d) (l:ds.length≤100):Sd (n+1) (.tup ds)
theorem Sd.tb:∀{n:Nat} {d:D},Sd n d->Tbb d
 |_,_,.int h=>.int (Nat.lt_of_lt_of_le h (Nat.pow_le_pow_right (by decide) (by decide)))
 |_,_,.str _ _ _=>.str _
 |_,_,.tup h l=>.tup (fun d hd=>Sd.tb (h d hd)) (by omega)
theorem Sd.lay:∀{n:Nat} {d:D},Sd n d->d.lay=true
  |_,_,.int h=>rfl
  |_,_,.str _ _ o=>o
  | _, _, .tup (ds := ds) h l => by
    show D.lays ds=true
    have:=JC (f:=id) (xs:=ds) fun d hd=>Sd.lay (h d hd)
    simpa using this
theorem EO{α:Type}{xs:List α}{lo hi:Option Int}{x:α}(h:x∈C7 xs lo hi):x∈xs:=by
 unfold C7 at h
 exact List.mem_of_mem_drop (List.mem_of_mem_take h)
theorem Cc{α:Type}{xs:List α}{lo hi:Option Int}:(C7 xs lo hi).length≤xs.length:=by
 unfold C7
 rw[List.length_take,List.length_drop]
 omega
theorem OU{xs:List D}{x:D}(h:x∈LP xs):x∈xs:=by
 unfold LP at h
 obtain⟨k,_,hk⟩:=List.mem_filterMap.mp h
 exact List.mem_of_getElem? hk
theorem OF{xs:List D}:(LP xs).length≤xs.length:=by
 unfold LP
 refine Nat.le_trans (List.length_filterMap_le _ _) ?_
 rw[List.length_range]
 exact Nat.le_refl _
@[simp] theorem ZA{xs:List D}:Uq (.val (.tup xs))=some (.val (.tup (LP xs))):=nr rfl
@[simp] theorem ZW{z:Str}:wUp (.val (.str z))=if(Txt.upper z).length≤sizeLine then some (.val (.str (Txt.upper z)))else none:=nr rfl
@[simp] theorem Z2{z:Str}{lo hi:Option Int}:wSl lo hi (.val (.str z))=if z.length≤sizeLine then some (.val (.str (Txt.slice z lo hi)))else none:=nr rfl
@[simp] theorem Xc{i:Int}:X4 (.val (.int i))=if i.natAbs.log2<1920 then some (.val (.str (toString i)))else none:=nr rfl
@[simp] theorem dO:(Str.ofString "a").length=1:=nr rfl
@[simp] theorem dg:(Str.ofString "1").length=1:=nr rfl
theorem QV{ds:List D}(h:D.lays ds=true):DR (.tup ds) (.tup [])=true:=by
 unfold DR
 show(D.lays ds && true && decide (min (D.tup ds).py.depth (D.tup []).py.depth≤60))=true
 rw[h]
 have:(D.tup []).py.depth≤60:=by decide
 rw[decide_eq_true (by omega)]
 rfl
theorem TN{ds:List D}:deq (.tup ds) (.tup [])=ds.isEmpty:=by
 cases ds<;>rfl
theorem O1{i:Int}(h:i.natAbs<2^155):i.natAbs.log2<1920:=by
 by_cases h0:i.natAbs=0
 ·rw[h0];decide
 ·exact Nat.lt_trans ((Nat.log2_lt h0).mpr h) (by decide)
theorem bW{r:Int}(h0:0≤r)(h1:r<4):r=0∨r=1∨r=2∨r=3:=by omega
theorem Je{xs ys:List D}(hx:∀d∈xs,Tbb d)(hy:∀d∈ys,Tbb d)(l:xs.length+ys.length≤1000):Tbb (.tup (xs++ys)):=.tup (fun d hd=>(List.mem_append.mp hd).elim (hx d) (hy d)) (by simpa using l)
theorem Ue{n:Nat}:BV (n+1)=BM (BQ 4 (Di (BV n))):=rfl
def spT:Ex:=(Aa (BP 3 (AL AG [(eV 0),(eC (.int 8))]))
  (Aa (xIf (Fc (eOp (o2 KG) [(eV 1),(eC (.ty "tuple"))]) (eOp (o2 wLt) [(eV 3),(eC (.int 4))])) (BS (eOp (o2 wIx) [(C1 [(eOp (o2 Bi) [(eV 1),(eOp (EN true false) [(eV 1),(eOp (o1 GZ) [(eC (.int 1))])])]),(eOp (EN false true) [(eV 1),(eOp (o1 GZ) [(eC (.int 1))])]),(eOp (o1 Ie) [(eV 1)]),(eOp (o1 Uq) [(eV 1)])]),(eV 3)])) CZ)
  (Aa (xIf (Fc (eOp (o2 KG) [(eV 1),(eC (.ty "int"))]) (eOp (o2 wLt) [(eV 3),(eC (.int 4))])) (BS (eOp (o2 wIx) [(C1 [(eOp (o2 Bi) [(eV 1),(eC (.int 1))]),(eOp (o2 Ic) [(eV 1),(eC (.int 1))]),(eOp (o2 wGt) [(eV 1),(eC (.int 0))]),(eOp (o1 X4) [(eV 1)])]),(eV 3)])) CZ)
  (Aa (xIf (Fc (eOp (o2 KG) [(eV 1),(eC (.ty "str"))]) (eOp (o2 wLt) [(eV 3),(eC (.int 4))])) (BS (eOp (o2 wIx) [(C1 [(eOp (o2 Bi) [(eV 1),(eC (.str "a"))]),(eOp (o1 wUp) [(eV 1)]),(eOp (EN false true) [(eV 1),(eOp (o1 GZ) [(eC (.int 1))])]),(eOp (o2 Bi) [(eC (.str "1")),(eV 1)])]),(eV 3)])) CZ)
  (BS (AL (Aw 8) [(eV 0),(eC (.int 2))]))))))
theorem J3{rec:Fn}:Di rec=(Aa (xIf (Fc (eOp (o2 KG) [(eV 1),(eC (.ty "tuple"))]) (Fc (eOp (o2 wNe) [(eV 1),(BN [])]) (eOp (o2 wGt) [(AL AG [(eV 0),(eC (.int 6))]),(eC (.int 0))]))) (Aa (BP 2 (AL AG [(eV 0),(eOp (o1 DK) [(eV 1)])]))
  (BS (eOp (o2 Bi) [(eOp (o2 Bi) [(eOp (EN false true) [(eV 1),(eV 2)]),(BN [(AL rec [(eV 0),(eOp (o2 wIx) [(eV 1),(eV 2)])])])]),(eOp (EN true false) [(eV 1),(eOp (o2 Bi) [(eV 2),(eC (.int 1))])])]))) CZ)
  spT):=rfl
theorem IG : ∀ (N k : Nat) {d : D} {S : Sto}, k < N -> Sd k d -> B2 p S -> ∃ X S', BV N [.ref p, d] S = some (X, S') /\ Tbb X /\ Pn p S S'
  |0,k,d,S,h,_,_=>absurd h (Nat.not_lt_zero _)
  | N + 1, k, d, S, hk, sd, h => by
    have rest:∀{T:Sto},B2 p T->∃X T',Aw 8 [.ref p,.int 2] T=some (X,T')/\Tbb X/\Pn p T T':=fun hq=>GF (n:=8) (d:=2) (by decide) hq
    have hl:=sd.lay
    have s4:(4:Nat)≤sizeLine:=AO (by decide)
    have n1:GZ (.val (.int 1))=some (.val (.int (-1))):=rfl
    rw[Ue]
    cases sd with
    | @int _ i hi=>
      obtain⟨r1,S1,e1,a1,b1,p1⟩:=Ab h (n:=8) (by decide) (by decide)
      by_cases c:r1<4
      · have lg := O1 hi
        have q:(atI [D.int (i+1),.int (i-1),.bl (decide (0<i)),.str (toString i)] r1).map (fun x=>(x,S1))=BM (BQ 4 (Di (BV N))) [.ref p,.int i] S:=by
          simp[J3,spT,St.Kd.isA,e1,c,lg,s4]
          generalize atI _ r1=o
          cases o<;>rfl
        rcases bW a1 c with rfl|rfl|rfl|rfl
        ·exact⟨.int (i+1),S1,q.symm,.int (Nat.lt_of_lt_of_le (show(i+1).natAbs<2^156 by omega) (Nat.pow_le_pow_right (by decide) (by decide))),p1⟩
        ·exact⟨.int (i-1),S1,q.symm,.int (Nat.lt_of_lt_of_le (show(i-1).natAbs<2^156 by omega) (Nat.pow_le_pow_right (by decide) (by decide))),p1⟩
        ·exact⟨.bl (decide (0<i)),S1,q.symm,.bl _,p1⟩
        ·exact⟨.str (toString i),S1,q.symm,.str _,p1⟩
      · obtain ⟨w, q', ew, tw, pw⟩ := rest p1.pen
        exact⟨w,q',by simp[J3,spT,St.Kd.isA,e1,c,ew],tw,p1.trans pw⟩
    | @str _ x hx ux _=>
      obtain⟨r1,S1,e1,a1,b1,p1⟩:=Ab h (n:=8) (by decide) (by decide)
      by_cases c:r1<4
      · have s1 : x.length + 1 ≤ sizeLine := Nat.le_trans (show x.length + 1 ≤ 1001 by omega) (by decide)
        have s2:(Txt.upper x).length≤sizeLine:=AO ux
        have s3:x.length≤sizeLine:=AO hx
        have s5:1+x.length≤sizeLine:=by omega
        have q:(atI [D.str (x++(Str.ofString "a")),.str (Txt.upper x),.str (Txt.slice x none (some (-1))),.str ((Str.ofString "1")++x)] r1).map (fun x=>(x,S1))=BM (BQ 4 (Di (BV N))) [.ref p,.str x] S:=by
          simp[J3,spT,St.Kd.isA,e1,c,s1,s2,s3,s4,s5,n1]
          generalize atI _ r1=o
          cases o<;>rfl
        rcases bW a1 c with rfl|rfl|rfl|rfl
        ·exact⟨.str (x++(Str.ofString "a")),S1,q.symm,.str _,p1⟩
        ·exact⟨.str (Txt.upper x),S1,q.symm,.str _,p1⟩
        ·exact⟨.str (Txt.slice x none (some (-1))),S1,q.symm,.str _,p1⟩
        ·exact⟨.str ((Str.ofString "1")++x),S1,q.symm,.str _,p1⟩
      · obtain ⟨w, q', ew, tw, pw⟩ := rest p1.pen
        exact⟨w,q',by simp[J3,spT,St.Kd.isA,e1,c,ew],tw,p1.trans pw⟩
    | @tup k' xs hx lx=>
      have tx:∀d∈xs,Tbb d:=fun d hd=>(hx d hd).tb
      have ways:∀{T:Sto},B2 p T->∃X T' r,AG [.ref p,.int 8] T=some (.int r,T')/\Pn p T T'/\Tbb X/\((r<4/\atI [D.tup (xs++C7 xs (some (-1)) none),.tup (C7 xs none (some (-1))),.lst xs,.tup (LP xs)] r=some X)∨(¬r<4/\∃T'',Aw 8 [.ref p,.int 2] T'=some (X,T'')/\Pn p T' T'')):=by
        intro T hq
        obtain⟨r1,d1,e1,a1,b1,p1⟩:=Ab hq (n:=8) (by decide) (by decide)
        by_cases c:r1<4
        · rcases bW a1 c with rfl | rfl | rfl | rfl
          ·exact⟨_,d1,0,e1,p1,Je tx (fun d hd=>tx d (EO hd)) (by have:=Cc (xs:=xs) (lo:=some (-1)) (hi:=none);omega),.inl ⟨by decide,rfl⟩⟩
          ·exact⟨_,d1,1,e1,p1,.tup (fun d hd=>tx d (EO hd)) (by have:=Cc (xs:=xs) (lo:=none) (hi:=some (-1));omega),.inl ⟨by decide,rfl⟩⟩
          ·exact⟨_,d1,2,e1,p1,.lst tx (by omega),.inl ⟨by decide,rfl⟩⟩
          ·exact⟨_,d1,3,e1,p1,.tup (fun d hd=>tx d (OU hd)) (by have:=OF (xs:=xs);omega),.inl ⟨by decide,rfl⟩⟩
        · obtain ⟨w, q', ew, tw, pw⟩ := rest p1.pen
          exact⟨w,d1,r1,e1,p1,tw,.inr ⟨c,q',ew,pw⟩⟩
      have z1:xs.length+(C7 xs (some (-1)) none).length≤sizeLine:=AO (by have:=Cc (xs:=xs) (lo:=some (-1)) (hi:=none);omega)
      have hlay:D.lays xs=true:=hl
      have eo:=QV hlay
      have en:=TN (ds:=xs)
      have tl:∀{T:Sto},B2 p T->∃X T',(spT [some (.ref p),some (.tup xs),none,none] T).map (fun r=>(flD r.1,r.2.2))=some (X,T')/\Tbb X/\Pn p T T':=by
        intro T hq
        obtain⟨X,T',r,e1,p1,tw,alt⟩:=ways hq
        rcases alt with⟨c,ed⟩|⟨c,q'',ew,pw⟩
        ·exact⟨X,T',by simp[spT,St.Kd.isA,e1,c,z1,ed,s4,n1],tw,p1⟩
        ·exact⟨X,q'',by simp[spT,St.Kd.isA,e1,c,ew],tw,p1.trans pw⟩
      by_cases hemp:xs.isEmpty=true
      · obtain ⟨X, T', e1, tw, p1⟩ := tl h
        exact⟨X,T',by simp[J3,St.Kd.isA,eo,en,hemp,e1],tw,p1⟩
      · have hemp : xs.isEmpty = false := by simpa using hemp
        have hpos:0<xs.length:=by
          cases xs with
          |nil=>cases hemp
          |cons a b=>simp
        obtain⟨r0,S0,e0,a0,b0,p0⟩:=Ab h (n:=6) (by decide) (by decide)
        by_cases c0:0<r0
        · obtain ⟨r1, S1, e1, a1, b1, p1⟩ := Ab p0.pen (n := (xs.length : Int)) (by omega) (by omega)
          obtain⟨y,ey,hy⟩:=pick (xs:=xs) (r:=r1) a1 b1
          obtain⟨X,S2,ew,tw,pw⟩:=IG N k' (by omega) (hx y hy) p1.pen
          have z2:(C7 xs none (some r1)).length+1≤sizeLine:=AO (by have:=Cc (xs:=xs) (lo:=none) (hi:=some r1);omega)
          have z3:(C7 xs none (some r1)).length+1+(C7 xs (some (r1+1)) none).length≤sizeLine:=AO (by have:=Cc (xs:=xs) (lo:=none) (hi:=some r1);have:=Cc (xs:=xs) (lo:=some (r1+1)) (hi:=none);omega)
          have s1:(1:Nat)≤sizeLine:=AO (by decide)
          refine⟨.tup (C7 xs none (some r1)++X::C7 xs (some (r1+1)) none),S2,by simp[J3,St.Kd.isA,eo,en,hemp,e0,c0,e1,ey,ew,z2,z3,s1],?_,(p0.trans p1).trans pw⟩
          refine .tup (fun d hd=>?_) (by
            have:=Cc (xs:=xs) (lo:=none) (hi:=some r1)
            have:=Cc (xs:=xs) (lo:=some (r1+1)) (hi:=none)
            rw[List.length_append,List.length_cons]
            omega)
          rcases List.mem_append.mp hd with hd|hd
          ·exact tx d (EO hd)
          · rcases List.mem_cons.mp hd with rfl | hd
            ·exact tw
            ·exact tx d (EO hd)
        · obtain ⟨X, T', e1, tw, p1⟩ := tl p0.pen
          exact⟨X,T',by simp[J3,St.Kd.isA,eo,en,hemp,e0,c0,e1],tw,p0.trans p1⟩
end
end
structure Ej(t:Tr)(ls:List Ld)(ds:List Ae):Prop where
 few:ls.length≤4
 inv:∀i,i≤ds.length->∃k,k≤16/\Ek t k (runs t (st0 t ls) (ds.take i))
 good:Ij t (st0 t ls) ds
 len:ds.length≤20
theorem Mp.g{t:Tr}{ls:List Ld}{ds:List Ae}(h:Mp t ls ds):Ej t ls ds:=
 ⟨h.inv.len,fun i _=>⟨_,by have:=h.len;simp;omega,h.at i⟩,h.good,by have:=h.len;omega⟩
noncomputable def Iy:Ae->Bool
 | .bring .. =>true
 | .pool .. =>true
 | .swap .. =>true
 | .trade .. =>true
 |_=>false
noncomputable def Lu:Ae->List Nat
 | .pool a b=>if a≤b then [a,b]else [b,a]
 | .swap l _ _ _=>[l]
 | .trade _ l _ _ _=>[l]
 |_=>[]
noncomputable def Ak(n:Nat)(ds:List Ae):List (List Nat):=List.replicate n []++(ds.filter Iy).map Lu
noncomputable def nD(is:List Nat):D:=.lst (AH is)
section
variable{S:Sto}{t:Tr}{ls:List Ld}{ds:List Ae}
theorem JV:(Ak ls.length ds).length=ls.length+(ds.filter Iy).length:=by simp[Ak]
theorem NU(h:Ej t ls ds):DF [A3 t ls ds] S=some (.non,S):=by
 have hl0:=h.few
 have hd:=h.len
 obtain⟨E',S',ef,i,o1,o2,f1,f2,rfl,rfl⟩:=Eh (gs:=[]) (t:=tTp [(tNm 3),(tNm 4)]) (b:=Aa (xIf (Kw (AL Bz [(eV 1),(eOp (EN false true) [(eV 2),(eV 3)]),(eV 4)])) (BS (eV 3)) CZ)
  (BP 1 (AL Az [(eV 1),(eV 4)])))
  (I:=fun rs E S'=>∃(i:Nat) (o1 o2:Option D),rs=(KD 0 (ds.map Ae.d)).drop i/\i≤ds.length/\E=[some (A3 t ls ds),some (CW (runs t (st0 t ls) (ds.take i)).loads),some (.tup (ds.map Ae.d)),o1,o2]/\S'=S)
  (fun _ _ _ _=>Ao) (ds:=KD 0 (ds.map Ae.d)) (E:=[some (A3 t ls ds),some (CW ls),some (.tup (ds.map Ae.d)),none,none]) (S:=S)
  ⟨0,none,none,by simp,Nat.zero_le _,by simp[runs,st0],rfl⟩ (by
   rintro dd rs E T ⟨i,o1,o2,i1,i2,rfl,rfl⟩
   have el:(KD 0 (ds.map Ae.d)).length=ds.length:=by rw[Hj];simp
   have hlt:i<ds.length:=by
    rcases Nat.lt_or_ge i ds.length with w|w
    ·exact w
    ·rw[List.drop_eq_nil_of_le (by omega)]at i1;cases i1
   rw[List.drop_eq_getElem_cons (by omega)]at i1
   injection i1 with z1 z2
   have hd1:dd=.tup [.int i,ds[i].d]:=by
    have:=JH (ds:=ds.map Ae.d) (k:=0) (i:=i)
    rw[List.getElem?_eq_getElem (by omega),←z1,List.getElem?_map,List.getElem?_eq_getElem hlt]at this
    simpa using this
   subst z2
   subst hd1
   obtain⟨k,hk,inv⟩:=h.inv i (by omega)
   have il:(ds.take i).length≤20:=by simp;omega
   have can:=Oe h.good (List.getElem?_eq_getElem hlt)
   have cd:=Qo (S:=T) (ds:=ds.take i) (by omega) Qc can
   have e3:=RD (S:=T) inv (by omega) can
   have rt:=Qz (t:=t) (st:=st0 t ls) (List.getElem?_eq_getElem hlt)
   have ct:=Lc (ds:=ds.map Ae.d) (n:=i) (by simp;omega)
   rw[List.map_take]at cd
   refine⟨_,[some (A3 t ls ds),some (CW (runs t (st0 t ls) (ds.take (i+1))).loads),some (.tup (ds.map Ae.d)),some (.int i),some ds[i].d],T,by simp;rfl,?_,i+1,some (.int i),some ds[i].d,rfl,hlt,rfl,rfl⟩
   rw[rt]
   simp[ct,cd,e3])
 have fh:=O6 (S:=S') (ls:=ls) (x:=t.d) (y:=.tup (ds.map Ae.d)) (by omega)
 simp only[A3]at ef⊢
 simp[DF,GC,fh,ef]
theorem Jh(h:Ej t ls ds):Bl [A3 t ls ds] S=some (.non,S):=by
 have e:=NU (S:=S) h
 simp[Bl,Ep,e,isN]
theorem mkC(hl:ds.length≤50):B9 [] (tNm 0) (eOp (o2 (wIn false)) [(eOp (o2 wIx) [(eV 0),(eC (.int 0))]),(eC Bw)]) (eV 0) (ds.map Ae.d) [] [none] S=some ((ds.filter Iy).map Ae.d,S):=
 CJ (gs:=[]) (t:=tNm 0) (f:=eV 0) (C:=[]) (m:=1) (e:=Ae.d) (g:=Ae.d) (b:=Iy) (S:=S) Ao (xs:=ds) (acc:=[]) (os:=[none]) rfl (Nat.le_trans (show _≤50 by simp;omega) (AO (by decide))) (by
  intro d _ os ho
  obtain⟨o1,rfl⟩:∃o1,os=[o1]:=by
   match os,ho with
   | [a],_=>exact⟨a,rfl⟩
  refine⟨[some d.d],rfl,by simp,?_,by simp⟩
  cases d<;>simp[Ae.d,Iy])
theorem Wj(h:Ej t ls ds):Dd [A3 t ls ds,.int ds.length] S=some (.int (Ak ls.length ds).length,S):=by
 have hd:=h.len
 have ct:C7 (ds.map Ae.d) none (some (ds.length:Int))=ds.map Ae.d:=by rw[Lc (by simp),List.take_of_length_le (by simp)]
 have mc:=mkC (S:=S) (ds:=ds) (by omega)
 have e:((Ak ls.length ds).length:Int)=(ls.length:Int)+((ds.filter Iy).length:Int):=by rw[JV];omega
 rw[e]
 simp[Dd,Gi,A3,ct,mc]
theorem JY{i:Nat}(h:Ej t ls ds)(hi:i<(Ak ls.length ds).length):Ba [A3 t ls ds,.int i] S=some (.non,S):=by
 have k1:St.Kd.int.isA "int"=true:=by decide
 have k2:St.Kd.int.isA "bool"=false:=by decide
 have m:=Wj (S:=S) h
 have h1:(i:Int)≤((Ak ls.length ds).length:Int)-1:=by omega
 generalize ((Ak ls.length ds).length:Int)=L at*
 simp only[A3]at m⊢
 simp[Ba,ES,m,k1,k2,Bg,Dy,DX,FW,Cp,ER,kdW,h1]
theorem RI{a b:Nat}:(if(a:Int)≤(b:Int)then [(a:Int),(b:Int)]else [(b:Int),(a:Int)]).map D.int=AH (if a≤b then [a,b]else [b,a]):=by
 by_cases h:a≤b
 ·have:(a:Int)≤(b:Int):=by omega
  rw[if_pos h,if_pos this];rfl
 ·have:¬(a:Int)≤(b:Int):=by omega
  rw[if_neg h,if_neg this];rfl
@[simp] theorem cH{a b c d e:D}:atI [a,b,c,d,e] (-4)=some b:=nr rfl
@[simp] theorem bG{a b c d e f:D}:atI [a,b,c,d,e,f] (-4)=some c:=nr rfl
theorem TZ{d:Ae}:Bv [d.d] S=some (nD (Lu d),S):=by
  have sz:(1:Nat)≤sizeLine:=AO (by decide)
  have sz2:(2:Nat)≤sizeLine:=AO (by decide)
  cases d with
  | pool a b =>
    have e:=RI (a:=a) (b:=b)
    show _=some (D.lst (AH (if a≤b then [a,b]else [b,a])),S)
    rw[←e]
    simp[Bv,C2,Ae.d,sz2]
  |swap l g k n=>simp[Bv,C2,Ae.d,Lu,nD,AH,sz]
  |trade u l g k n=>simp[Bv,C2,Ae.d,Lu,nD,AH,sz]
  |_=>simp[Bv,C2,Ae.d,Lu,nD,AH]
theorem Mw:(Ak ls.length ds).map nD=(ls.map fun _=>D.lst [])++(ds.filter Iy).map fun d=>nD (Lu d):=by
 unfold Ak
 rw[List.map_append,List.map_map]
 congr 1
 rw[List.map_replicate]
 induction ls with
 |nil=>rfl
 |cons x ls ih=>rw[List.length_cons,List.replicate_succ,List.map_cons,ih];rfl
theorem Eg(h:Ej t ls ds):B1 [A3 t ls ds] S=some (.lst ((Ak ls.length ds).map nD),S):=by
 have hd:=h.len
 have hl:=h.few
 have c1:=Dw (gs:=[]) (t:=tNm 0) (f:=C1 []) (C:=[]) (m:=1) (e:=Ld.d) (g:=fun _=>D.lst []) (S:=S) Ao (xs:=ls) (acc:=[]) (os:=[none]) rfl (Nat.le_trans (show _≤50 by simp;omega) (AO (by decide))) (by
  intro x hx os ho
  obtain⟨x1,rfl⟩:∃x1,os=[x1]:=by
   match os,ho with
   | [a],_=>exact⟨a,rfl⟩
  exact⟨[some x.d],rfl,by simp,by simp⟩)
 have c2:=CJ (gs:=[]) (t:=tNm 0) (c:=eOp (o2 (wIn false)) [(eOp (o2 wIx) [(eV 0),(eC (.int 0))]),(eC Bw)]) (f:=AL Bv [(eV 0)]) (C:=[]) (m:=1) (e:=Ae.d) (g:=fun d=>nD (Lu d)) (b:=Iy) (S:=S) Ao (xs:=ds) (acc:=[]) (os:=[none]) rfl (Nat.le_trans (show _≤50 by simp;omega) (AO (by decide))) (by
  intro d hd os ho
  obtain⟨x1,rfl⟩:∃x1,os=[x1]:=by
   match os,ho with
   | [a],_=>exact⟨a,rfl⟩
  refine⟨[some d.d],rfl,by simp,?_,?_⟩
  ·cases d<;>simp[Ae.d,Iy]
  ·have e:=TZ (S:=S) (d:=d)
   simp[e])
 have sz:(ls.map fun _=>D.lst []).length+((ds.filter Iy).map fun d=>nD (Lu d)).length≤sizeLine:=Nat.le_trans (show _≤50 by
  have:=List.length_filter_le Iy ds
  rw[List.length_map,List.length_map];omega) (AO (by decide))
 rw[Mw]
 simp only[List.nil_append]at c1 c2
 generalize (ls.map fun _=>D.lst [])=A at*
 generalize ((ds.filter Iy).map fun d=>nD (Lu d))=B at*
 simp[B1,Fx,A3,c1,c2,sz]
end
theorem Qb{α:Type}{gs:Gd}{t:Tf}{b:Ex}{C:En}{m q:Nat}{S0:Sto}{e:α->D}{h:α->List D}(hg:∀T,C0 [q] S0 T->gOk gs T):∀{xs:List α} {acc:List D} {os:En} {S:Sto},os.length=m->S[q]?=some (.lst acc)->C0 [q] S0 S->acc.length+xs.length≤1000->(∀x∈xs,(h x).length≤1)->
    (∀x∈xs,∀os S acc,os.length=m->S[q]?=some (.lst acc)->acc.length<sizeLine->C0 [q] S0 S->∃us us' S',t (e x) (C++os) S=some (C++us)/\b (C++us) S=some (.nx,C++us',S'.set q (.lst (acc++h x)))/\us'.length=m/\C0 [] S S')->
    ∃os' S',os'.length=m/\KI gs t b (xs.map e) (C++os) S=some (.nx,C++os',S')/\S'[q]?=some (.lst (acc++xs.flatMap h))/\C0 [q] S S'
  | [],acc,os,S,ho,hq,hs,hz,h1,H=>⟨os,S,ho,by rw[List.map_nil,HL (hg S hs)],by simpa using hq,.refl⟩
  | x :: xs, acc, os, S, ho, hq, hs, hz, h1, H => by
    obtain⟨us,us',S1,e1,e2,hu,sm⟩:=H x List.mem_cons_self os S acc ho hq (Nat.lt_of_lt_of_le (show acc.length<1001 by simp at hz;omega) (by decide)) hs
    have q1:=sm.get hq (by simp)
    have s1:C0 [q] S (S1.set q (.lst (acc++h x))):=(sm.mono fun _ z=>(nomatch z)).trans (.set (by simp))
    have hx:=h1 x List.mem_cons_self
    obtain⟨os',S2,ho',e3,q2,s2⟩:=Qb hg (t:=t) (b:=b) (C:=C) (e:=e) (h:=h) (xs:=xs) (acc:=acc++h x) (os:=us') (S:=S1.set q (.lst (acc++h x))) hu (List.getElem?_set_self (Ad q1)) (hs.trans s1) (by simp at hz ⊢; omega) (fun x' hx=>h1 x' (List.mem_cons_of_mem _ hx)) fun x' hx=>H x' (List.mem_cons_of_mem _ hx)
    refine⟨os',S2,ho',?_,by simpa using q2,s1.trans s2⟩
    rw[List.map_cons,D1 (hg S hs),e1,A4,e2,A4,BO,e3]
section
variable{S:Sto}{t:Tr}{ls:List Ld}{ds:List Ae}
noncomputable def Rh(d:Ae):List D:=if Iy d=true then [nD (Lu d)]else []
theorem P7:(ls.map fun _=>D.lst [])++ds.flatMap Rh=(Ak ls.length ds).map nD:=by
  rw[Mw]
  congr 1
  induction ds with
  |nil=>rfl
  | cons d ds ih =>
    rw[List.flatMap_cons,List.filter_cons,ih]
    unfold Rh
    cases Iy d<;>simp
def Uz:Ex:=(xIf (eOp (o2 wEq) [(eOp (o2 wIx) [(eV 2),(eC (.int 0))]),(eC (.str "bring"))]) (Bx (Fp F1 (eV 1) [(C1 [])])) (xIf (eOp (o2 wEq) [(eOp (o2 wIx) [(eV 2),(eC (.int 0))]),(eC (.str "pool"))]) (Bx (Fp F1 (eV 1) [(eOp (o1 HH) [(eOp (EN true true) [(eV 2),(eC (.int 1)),(eC (.int 3))])])])) (xIf (eOp (o2 (wIn false)) [(eOp (o2 wIx) [(eV 2),(eC (.int 0))]),(BN [(eC (.str "swap")),(eC (.str "trade"))])]) (Bx (Fp F1 (eV 1) [(C1 [(eOp (o2 wIx) [(eV 2),(eOp (o1 GZ) [(eC (.int 4))])])])])) CZ)))
@[simp] theorem Zs{a b c:D}:C7 [a,b,c] (some 1) (some 3)=[b,c]:=nr rfl
@[simp] theorem Nr{a b:Int}:HH (.val (.tup [.int a,.int b]))=some (.own ((if a≤b then [a,b]else [b,a]).map D.int)):=by
 rw[←N0];rfl
theorem WE{d:Ae}{q:Nat}{acc:List D}{a0:Option D}(hq:S[q]?=some (.lst acc))(hz:acc.length<sizeLine):Uz [a0,some (.ref q),some d.d] S=some (.nx,[a0,some (.ref q),some d.d],S.set q (.lst (acc++Rh d))):=by
  have sz:(1:Nat)≤sizeLine:=AO (by decide)
  have sz2:(2:Nat)≤sizeLine:=AO (by decide)
  have cq:=AS hq
  have sm:=set_same hq
  cases d with
  |bring p k n=>simp[Uz,Ae.d,Rh,Iy,Lu,nD,AH,cq,hz]
  | pool a b =>
    have e:=RI (a:=a) (b:=b)
    have er:Rh (.pool a b)=[.lst ((if(a:Int)≤(b:Int)then [(a:Int),(b:Int)]else [(b:Int),(a:Int)]).map D.int)]:=by
      rw[e];rfl
    rw[er]
    simp[Uz,Ae.d,cq,hz,Nr]
  |swap l g k n=>simp[Uz,Ae.d,Rh,Iy,Lu,nD,AH,cq,hz,sz]
  |trade u l g k n=>simp[Uz,Ae.d,Rh,Iy,Lu,nD,AH,cq,hz,sz]
  |_=>simp[Uz,Ae.d,Rh,Iy,sm]
theorem PV(h:Ej t ls ds):∃q S',C4 [A3 t ls ds] S=some (.ref q,S')/\S'[q]?=some (.lst ((Ak ls.length ds).map nD))/\C0 [] S S'/\S.length≤q:=by
  have hd:=h.len
  have hl:=h.few
  have c1:=Dw (gs:=[]) (t:=tNm 0) (f:=C1 []) (C:=[]) (m:=1) (e:=Ld.d) (g:=fun _=>D.lst []) (S:=S) Ao (xs:=ls) (acc:=[]) (os:=[none]) rfl (Nat.le_trans (show _≤50 by simp;omega) (AO (by decide))) (by
    intro x hx os ho
    obtain⟨x1,rfl⟩:∃x1,os=[x1]:=by
      match os,ho with
      | [a],_=>exact⟨a,rfl⟩
    exact⟨[some x.d],rfl,by simp,by simp⟩)
  have hq:(S++[Cl.lst (ls.map fun _=>D.lst [])])[S.length]?=some (.lst (ls.map fun _=>D.lst [])):=List.getElem?_concat_length
  obtain ⟨os', S2, ho', e2, q2, s2⟩ := Qb (gs := []) (S0 := S ++ [Cl.lst (ls.map fun _ => D.lst [])]) (t := tNm 2) (b := Uz) (C := [some (A3 t ls ds), some (.ref S.length)]) (m := 1) (q := S.length) (e := Ae.d) (h := Rh) (fun _ _ => Ao) (xs := ds) (acc := ls.map fun _ => D.lst []) (os := [none]) (S := S ++ [Cl.lst (ls.map fun _ => D.lst [])]) rfl hq .refl (by simp; omega) (fun d _ => by unfold Rh; split <;> simp) (by
      intro d _ os T acc ho hq0 hz hT
      obtain⟨x1,rfl⟩:∃x1,os=[x1]:=by
        match os,ho with
        | [a],_=>exact⟨a,rfl⟩
      exact⟨[some d.d],[some d.d],T,by simp,WE (d:=d) hq0 hz,rfl,.refl⟩)
  rw[P7]at q2
  refine⟨S.length,S2,?_,q2,C0.new (A:=[]) (B:=[S.length]) .app s2 (by simp),Nat.le_refl _⟩
  have eb:HX=(Aa (BP 1 (OV [] 1 (GY (eOp (o2 wIx) [(eV 0),(eC (.int 1))])) (tNm 0) DA (C1 [])))
    (Aa (IM (GY (eOp (o2 wIx) [(eV 0),(eC (.int 2))])) (tNm 2) Uz)
    (BS (eV 1)))):=rfl
  unfold C4
  rw[eb]
  simp only[List.nil_append,List.cons_append]at c1 e2
  simp only[A3]at e2⊢
  generalize (ls.map fun _=>D.lst [])=A at*
  simp[c1,e2]
end
noncomputable def rowAt(rows:List (List Nat))(k:Nat):List Nat:=rows.getD k []
noncomputable def DC(rows:List (List Nat))(is:List Nat):Bool:=(is.zip is.tail).all fun z=>(rowAt rows z.2).contains z.1
noncomputable def chN(rows:List (List Nat))(load:Nat)(is:List Nat):Bool:=(is.getLast?==some load) && (rowAt rows (is.headD 0)).isEmpty && DC rows is
@[simp] theorem ZY{b:Bool}{w:Wv}{r:List D}:wIn b w (.val (.tup r))=if(Fo (fz w) && r.all Fo)=true then some (.val (.bl (if b then !inD (fz w) r else inD (fz w) r)))else none:=nr rfl
theorem Oz{is:List Nat}{i:Nat}:inD (.int i) (AH is)=is.contains i:=by
 have e:AH is=(is.map fun j:Nat=>(j:Int)).map D.int:=by unfold AH;rw[List.map_map];rfl
 rw[e,Lx,List.any_map,List.contains_eq_any_beq,Bool.eq_iff_iff,List.any_eq_true,List.any_eq_true]
 constructor
 ·rintro ⟨x,hx,z⟩
  exact⟨x,hx,by simp at z ⊢; omega⟩
 ·rintro ⟨x,hx,z⟩
  exact⟨x,hx,by simp at z ⊢; omega⟩
theorem Mc{is:List Nat}:(AH is).all Fo=true:=by
 unfold AH
 rw[List.all_map,List.all_eq_true]
 intro x _;rfl
theorem P2{n:Nat}:∀{xs:List D},xs.all (A7 0 ((n:Int)-1))=true->∃is:List Nat,xs=AH is/\∀i∈is,i<n
  | [],_=>⟨[],rfl,fun i hi=>by cases hi⟩
  | x :: xs, h => by
    rw[List.all_cons,Bool.and_eq_true]at h
    obtain⟨is,rfl,hi⟩:=P2 h.2
    cases x with
    | int i =>
      have:=h.1
      unfold A7 at this
      rw[Bool.and_eq_true]at this
      have h1:=of_decide_eq_true this.1
      have h2:=of_decide_eq_true this.2
      refine⟨i.toNat::is,?_,fun j hj=>?_⟩
      · have : ((i.toNat : Nat) : Int) = i := by omega
        show _=D.int (i.toNat:Int)::AH is
        rw[this]
      · rcases List.mem_cons.mp hj with rfl | hj
        ·omega
        ·exact hi j hj
    |_=>cases h.1
theorem Og{n:Nat}{is:List Nat}(h:∀i∈is,i<n):(AH is).all (A7 0 ((n:Int)-1))=true:=by
 unfold AH
 rw[List.all_map,List.all_eq_true]
 intro i hi
 have:=h i hi
 show(decide ((0:Int)≤(i:Int)) && decide ((i:Int)≤(n:Int)-1))=true
 rw[decide_eq_true (by omega),decide_eq_true (by omega)];rfl
theorem QL{α:Type}{xs:List α}{x:α}{k:Nat}(hl:xs.length=k+1)(h:xs[k]?=some x):atI xs (-1:Int)=some x:=by
 have ix:ixN xs.length (-1)=some k:=by
  rw[hl]
  unfold ixN
  simp
  omega
 unfold atI
 rw[ix]
 exact h
theorem Mh{is:List Nat}{a:Nat}(h:is.getLast?=some a):atI (AH is) (-1)=some (.int a):=by
  cases is with
  |nil=>cases h
  | cons x xs =>
    refine QL (k:=xs.length) (by simp[AH]) ?_
    rw[List.getLast?_eq_getElem?]at h
    unfold AH
    rw[List.getElem?_map]
    have:(x::xs)[xs.length]?=some a:=by simpa using h
    rw[this];rfl
theorem Jb{x:Nat}{xs:List Nat}:atI (AH (x::xs)) 0=some (.int x):=by
 have:=CB (xs:=AH (x::xs)) (n:=0) (x:=.int x) rfl
 simpa using this
theorem NO{rows:List (List Nat)}{k:Nat}(h:k<rows.length):atI (rows.map nD) (k:Int)=some (.lst (AH (rowAt rows k))):=CB (by
 rw[List.getElem?_map,List.getElem?_eq_getElem h]
 show some (nD rows[k])=some (nD (rowAt rows k))
 unfold rowAt
 rw[List.getD_eq_getElem?_getD,List.getElem?_eq_getElem h]
 rfl)
theorem Nq{r:List Nat}:wNe (.val (.lst (AH r))) (.val (.lst []))=some (.val (.bl (!r.isEmpty))):=by
 rw[Eb]
 show(if DR (.lst (AH r)) (.lst [])=true then some (Wv.val (.bl (!deq (.lst (AH r)) (.lst []))))else none)=_
 rw[if_pos HY]
 cases r<;>rfl
theorem W6{α:Type}{r:List α}:wEq (.val (.lst (r.map fun _=>D.int 1))) (.val (.lst []))=some (.val (.bl r.isEmpty)):=by
 have ok:DR (.lst (r.map fun _=>D.int 1)) (.lst [])=true:=OO (JC fun _ _=>rfl)
 show(if DR (.lst (r.map fun _=>D.int 1)) (.lst [])=true then some (Wv.val (.bl (deq (.lst (r.map fun _=>D.int 1)) (.lst []))))else none)=_
 rw[if_pos ok]
 cases r<;>rfl
theorem SQ{xs:List D}(h:xs≠[]):C7 xs (some 1) none=xs.tail:=by
 have:=Ou (ds:=xs) (n:=1) (by cases xs with|nil=>exact absurd rfl h|cons=>simp)
 rw[show((1:Nat):Int)=1 by rfl]at this
 rw[this,List.drop_one]
theorem OJ{is:List Nat}:K6 (AH is) (AH is).tail=(is.zip is.tail).map fun z=>D.tup [.int z.1,.int z.2]:=by
 have e:(AH is).tail=AH is.tail:=by cases is<;>rfl
 rw[e]
 unfold K6 AH
 rw[List.zip_map,List.map_map]
 rfl
theorem U4{n:Nat}{is:List Nat}(h:∀i∈is,i<n):∀z∈is.zip is.tail,z.1<n/\z.2<n:=fun z hz=>by
 have:=List.of_mem_zip (show(z.1,z.2)∈is.zip is.tail from hz)
 exact⟨h _ this.1,h _ (List.mem_of_mem_tail this.2)⟩
section
variable{S:Sto}{t:Tr}{ls:List Ld}{ds:List Ae}{load:Nat}{rows:List (List Nat)}
theorem cC{is:List Nat}(h:∀i∈is,i<rows.length)(hl:is.length≤1000):B9 [] (tTp [(tNm 1),(tNm 2)]) DA (eOp (o2 (wIn false)) [(eV 1),(eOp (o2 wIx) [(eV 0),(eV 2)])]) (K6 (AH is) (AH is).tail) [] [some (.lst (rows.map nD)),none,none] S=some ((is.zip is.tail).map fun z=>D.bl ((rowAt rows z.2).contains z.1),S):=by
 have c:=Dw (gs:=[]) (t:=tTp [(tNm 1),(tNm 2)]) (f:=eOp (o2 (wIn false)) [(eV 1),(eOp (o2 wIx) [(eV 0),(eV 2)])]) (C:=[some (.lst (rows.map nD))]) (m:=2) (e:=fun z:Nat×Nat=>D.tup [.int z.1,.int z.2]) (g:=fun z=>D.bl ((rowAt rows z.2).contains z.1)) (S:=S) Ao (xs:=is.zip is.tail) (acc:=[]) (os:=[none,none]) rfl (Nat.le_trans (show _≤1000 by
   have:= @List.length_zip _ _ is is.tail
   simp only[List.length_nil,Nat.zero_add];omega) (AO (by decide))) (by
  intro z hz os ho
  obtain⟨x1,x2,rfl⟩:∃x1 x2,os=[x1,x2]:=by
   match os,ho with
   | [a,b],_=>exact⟨a,b,rfl⟩
  have hz':=U4 h z hz
  have ra:=NO (rows:=rows) hz'.2
  have fo:=Mc (is:=rowAt rows z.2)
  have io:=Oz (is:=rowAt rows z.2) (i:=z.1)
  refine⟨[some (.int z.1),some (.int z.2)],rfl,by simp,?_⟩
  generalize (rowAt rows z.2).contains z.1=bb at*
  generalize AH (rowAt rows z.2)=RR at*
  generalize rows.map nD=RO at*
  simp[ra,fo,io])
 rw[OJ]
 exact c
theorem b9{is:List Nat}(h:∀i∈is,i<rows.length)(hl:is.length≤1000){q:Nat}(hq:S[q]?=some (.lst (rows.map nD))):B9 [] (tTp [(tNm 1),(tNm 2)]) (eOp (o2 (wIn true)) [(eV 1),(eOp (o2 wIx) [(eV 0),(eV 2)])]) (eC (.int 1)) (K6 (AH is) (AH is).tail) [] [some (.ref q),none,none] S=some (((is.zip is.tail).filter fun z=> !(rowAt rows z.2).contains z.1).map fun _=>D.int 1,S):=by
 have c:=CJ (gs:=[]) (t:=tTp [(tNm 1),(tNm 2)]) (c:=eOp (o2 (wIn true)) [(eV 1),(eOp (o2 wIx) [(eV 0),(eV 2)])]) (f:=eC (.int 1)) (C:=[some (.ref q)]) (m:=2) (e:=fun z:Nat×Nat=>D.tup [.int z.1,.int z.2]) (g:=fun _=>D.int 1) (b:=fun z=> !(rowAt rows z.2).contains z.1) (S:=S) Ao (xs:=is.zip is.tail) (acc:=[]) (os:=[none,none]) rfl (Nat.le_trans (show _≤1000 by
   have:= @List.length_zip _ _ is is.tail
   simp only[List.length_nil,Nat.zero_add];omega) (AO (by decide))) (by
  intro z hz os ho
  obtain⟨x1,x2,rfl⟩:∃x1 x2,os=[x1,x2]:=by
   match os,ho with
   | [a,b],_=>exact⟨a,b,rfl⟩
  have hz':=U4 h z hz
  have ra:=NO (rows:=rows) hz'.2
  have fo:=Mc (is:=rowAt rows z.2)
  have io:=Oz (is:=rowAt rows z.2) (i:=z.1)
  have dq:=Aj hq
  refine⟨[some (.int z.1),some (.int z.2)],rfl,by simp,?_,by simp⟩
  generalize (rowAt rows z.2).contains z.1=bb at*
  generalize AH (rowAt rows z.2)=RR at*
  generalize rows.map nD=RO at*
  simp[dq,ra,fo,io])
 rw[OJ]
 exact c
theorem Mt{is:List Nat}(h:is≠[]):C7 (AH is) (some 1) none=(AH is).tail:=SQ (by cases is with|nil=>exact absurd rfl h|cons=>simp[AH])
theorem NP{X:D}(h:Ej t ls ds)(hi:load<(Ak ls.length ds).length)(hX:Tbb X)(hn:∀xs,X≠.tup xs):Ap [A3 t ls ds,.int load,X] S=some (.bl false,S):=by
 have r1:=Jh (S:=S) h
 have r2:=JY (S:=S) h hi
 rcases hX.kd (S:=S)with⟨xs,_,_,rfl⟩|⟨⟨kk,k1,k2⟩,k3,_⟩
 ·exact absurd rfl (hn xs)
 ·generalize A3 t ls ds=bk at*
  simp[Ap,CL,r1,r2,k1,k2,k3]
theorem RP{xs:List D}(hx:∀x∈xs,Tbb x)(hl:xs.length≤1000){n:Nat}{RO:List D}(hn:RO.length=n):B9 [] (tNm 1) DA (AL Bg [(eV 1),(eC (.int 0)),(eOp (o2 Ic) [(eOp (o1 DK) [(eV 0)]),(eC (.int 1))])]) xs [] [some (.lst RO),none] S=some (xs.map fun x=>D.bl (A7 0 ((n:Int)-1) x),S):=by
 have c:=Dw (gs:=[]) (t:=tNm 1) (f:=AL Bg [(eV 1),(eC (.int 0)),(eOp (o2 Ic) [(eOp (o1 DK) [(eV 0)]),(eC (.int 1))])]) (C:=[some (.lst RO)]) (m:=1) (e:=fun x:D=>x) (g:=fun x=>D.bl (A7 0 ((n:Int)-1) x)) (S:=S) Ao (xs:=xs) (acc:=[]) (os:=[none]) rfl (AO (by simpa using hl)) (by
  intro x hx' os ho
  obtain⟨x1,rfl⟩:∃x1,os=[x1]:=by
   match os,ho with
   | [a],_=>exact⟨a,rfl⟩
  have w:=O3 (S:=S) (hx x hx') 0 ((n:Int)-1)
  refine⟨[some x],rfl,by simp,?_⟩
  simp[hn,w])
 rw[List.map_id']at c
 exact c
theorem NY(h:Ej t ls ds)(hi:load<(Ak ls.length ds).length):Ap [A3 t ls ds,.int load,.tup []] S=some (.bl false,S):=by
 have r1:=Jh (S:=S) h
 have r2:=JY (S:=S) h hi
 generalize A3 t ls ds=bk at*
 simp[Ap,CL,r1,r2,IV]
theorem MW{xs:List D}(h:Ej t ls ds)(hi:load<(Ak ls.length ds).length)(hx:∀x∈xs,Tbb x)(hl:xs.length≤1000)(hn:xs≠[])(hb:xs.all (A7 0 (((Ak ls.length ds).length:Int)-1))=false):Ap [A3 t ls ds,.int load,.tup xs] S=some (.bl false,S):=by
 have r1:=Jh (S:=S) h
 have r2:=JY (S:=S) h hi
 have sr:=Eg (S:=S) h
 have w:=RP (S:=S) hx hl (n:=(Ak ls.length ds).length) (RO:=(Ak ls.length ds).map nD) (by simp)
 have al:=LU (fun x=>A7 0 (((Ak ls.length ds).length:Int)-1) x) xs
 have aa:(xs.map fun x=>A7 0 (((Ak ls.length ds).length:Int)-1) x).all id=false:=by
  rw[List.all_map];exact hb
 have ne:((xs.length:Int)==0)=false:=by
  cases xs with
  |nil=>exact absurd rfl hn
  |cons=>simp;omega
 have sq:sqD S (.tup xs)=some (xs,[]):=nr rfl
 generalize (xs.map fun x=>D.bl (A7 0 (((Ak ls.length ds).length:Int)-1) x))=WL at*
 generalize (xs.map fun x=>A7 0 (((Ak ls.length ds).length:Int)-1) x)=BL at*
 generalize A3 t ls ds=bk at*
 generalize (Ak ls.length ds).map nD=RO at*
 simp[Ap,CL,r1,r2,IV,ne,sr,sq,Na,w,al,aa]
theorem HD{is:List Nat}(h:Ej t ls ds)(hi:load<(Ak ls.length ds).length)(hl:is.length≤1000)(hn:is≠[])(hb:∀i∈is,i<(Ak ls.length ds).length):Ap [A3 t ls ds,.int load,.tup (AH is)] S=some (.bl (chN (Ak ls.length ds) load is),S):=by
  have r1:=Jh (S:=S) h
  have r2:=JY (S:=S) h hi
  have sr:=Eg (S:=S) h
  have hx:∀x∈AH is,Tbb x:=fun x hx=>by
    obtain⟨i,hi',rfl⟩:=List.mem_map.mp hx
    have:=hb i hi'
    have hd:=h.len
    have hf:=h.few
    have hr:=JV (ls:=ls) (ds:=ds)
    have hm:=List.length_filter_le Iy ds
    exact .int (Nat.lt_of_lt_of_le (show((i:Int)).natAbs<2^10 by rw[Int.natAbs_natCast];omega) (Nat.pow_le_pow_right (by decide) (by decide)))
  have w:=RP (S:=S) hx (by simp[AH];omega) (n:=(Ak ls.length ds).length) (RO:=(Ak ls.length ds).map nD) (by simp)
  have al:=LU (fun x=>A7 0 (((Ak ls.length ds).length:Int)-1) x) (AH is)
  have aa:((AH is).map fun x=>A7 0 (((Ak ls.length ds).length:Int)-1) x).all id=true:=by
    rw[List.all_map];exact Og hb
  obtain⟨x,xs,rfl⟩:∃x xs,is=x::xs:=by
    cases is with
    |nil=>exact absurd rfl hn
    |cons x xs=>exact⟨x,xs,rfl⟩
  obtain⟨a,ha⟩:∃a,(x::xs).getLast?=some a:=⟨_,List.getLast?_eq_some_getLast (by simp)⟩
  have la:=Mh ha
  have hd0:=Jb (x:=x) (xs:=xs)
  have rx:=NO (hb x List.mem_cons_self)
  have lk:=cC (S:=S) (rows:=Ak ls.length ds) (is:=x::xs) hb hl
  have ct:=Mt (is:=x::xs) (by simp)
  have bl:=LU (fun z:Nat×Nat=>(rowAt (Ak ls.length ds) z.2).contains z.1) ((x::xs).zip (x::xs).tail)
  have ba:(((x::xs).zip (x::xs).tail).map fun z=>(rowAt (Ak ls.length ds) z.2).contains z.1).all id=DC (Ak ls.length ds) (x::xs):=by
    rw[List.all_map];rfl
  have sq:sqD S (.tup (AH (x::xs)))=some (AH (x::xs),[]):=nr rfl
  have sq2:sqD S (.tup (AH (x::xs)).tail)=some ((AH (x::xs)).tail,[]):=nr rfl
  have ln:((AH (x::xs)).length:Int)=(xs.length:Int)+1:=by simp[AH]
  have ne:(((xs.length:Int)+1)==0)=false:=by simp;omega
  have ec:chN (Ak ls.length ds) load (x::xs)=((a==load) && (rowAt (Ak ls.length ds) x).isEmpty && DC (Ak ls.length ds) (x::xs)):=by
    unfold chN
    rw[ha];rfl
  have wl:DK (.val (.tup (AH (x::xs))))=some (.val (.int ((xs.length:Int)+1))):=by
    show some (Wv.val (.int ((AH (x::xs)).length:Int)))=_
    rw[ln]
  have rl:DK (.val (.lst (AH (rowAt (Ak ls.length ds) x))))=some (.val (.int (rowAt (Ak ls.length ds) x).length)):=by
    show some (Wv.val (.int ((AH (rowAt (Ak ls.length ds) x)).length:Int)))=_
    simp[AH]
  rw[ec]
  have hal:((a:Int)==(load:Int))=(a==load):=by rw[Bool.eq_iff_iff,beq_iff_eq,beq_iff_eq];omega
  have hgt:decide ((0:Int)<((rowAt (Ak ls.length ds) x).length:Int))= !(rowAt (Ak ls.length ds) x).isEmpty:=by
    cases rowAt (Ak ls.length ds) x<;>simp
  generalize ((x::xs).zip (x::xs).tail).map (fun z=>D.bl ((rowAt (Ak ls.length ds) z.2).contains z.1))=LK at*
  generalize ((x::xs).zip (x::xs).tail).map (fun z=>(rowAt (Ak ls.length ds) z.2).contains z.1)=LB at*
  generalize DC (Ak ls.length ds) (x::xs)=lb at*
  generalize (rowAt (Ak ls.length ds) x).isEmpty=em at*
  generalize ((AH (x::xs)).map fun x=>D.bl (A7 0 (((Ak ls.length ds).length:Int)-1) x))=WL at*
  generalize ((AH (x::xs)).map fun x=>A7 0 (((Ak ls.length ds).length:Int)-1) x)=BL at*
  generalize A3 t ls ds=bk at*
  generalize AH (rowAt (Ak ls.length ds) x)=RX at*
  generalize ((rowAt (Ak ls.length ds) x).length:Int)=RXL at*
  generalize (Ak ls.length ds).map nD=RO at*
  generalize AH (x::xs)=NX at*
  generalize ((xs.length:Int)+1)=XL at*
  by_cases h1:a=load
  · have h1' : (a == load) = true := by simpa using h1
    rw[h1']at hal⊢
    cases em with
    | true =>
      have hgt:decide ((0:Int)<RXL)=false:=hgt
      simp[Ap,CL,r1,r2,IV,ne,sr,sq,sq2,Na,w,al,aa,-Lh,-FQ,wl,rl,la,hal,hd0,rx,hgt,ct,lk,bl,ba]
    | false =>
      have hgt:decide ((0:Int)<RXL)=true:=hgt
      simp[Ap,CL,r1,r2,IV,ne,sr,sq,sq2,Na,w,al,aa,-Lh,-FQ,wl,rl,la,hal,hd0,rx,hgt]
  · have h1' : (a == load) = false := by simpa using h1
    rw[h1']at hal⊢
    simp[Ap,CL,r1,r2,IV,ne,sr,sq,Na,w,al,aa,-Lh,-FQ,wl,la,hal]
end
section
variable{S:Sto}{load q:Nat}{rows:List (List Nat)}
theorem Y3{oa ob oc:Ev}{E:En}{i j:Int}{S1:Sto}(e1:evs [oa,ob] E S=some ([.int i,.int j],S1))(h:¬i≤j):Kj oa ob oc E S=some (.bl false,S1):=by
 unfold Kj
 rw[e1]
 show(if i≤j then _ else _)=_
 rw[if_neg h]
theorem ZL{oa ob oc:Ev}{E:En}{i j k:Int}{S1 S2:Sto}(e1:evs [oa,ob] E S=some ([.int i,.int j],S1))(h:i≤j)(e2:oc E S1=some (.int k,S2)):Kj oa ob oc E S=some (.bl (decide (j<k)),S2):=by
 unfold Kj
 rw[e1]
 show(if i≤j then _ else _)=_
 rw[if_pos h,e2]
 rfl
def inB:Ex:=(xIf (eOr (Kw (eOp (o2 KG) [(eV 3),(eC (.ty "int"))])) (eOr (eOp (o2 KG) [(eV 3),(eC (.ty "bool"))]) (Kw (Kj (eC (.int 0)) (eV 3) (eOp (o1 DK) [(eV 0)]))))) (BS (eC (.bl false))) CZ)
theorem Yp{x:D}{a1 a2:Option D}(hq:S[q]?=some (.lst (rows.map nD)))(hx:Tbb x):inB [some (.ref q),a1,a2,some x] S=some (if A7 0 ((rows.length:Int)-1) x=true then .nx else .ret (.bl false),[some (.ref q),a1,a2,some x],S):=by
 have dq:=Aj hq
 have ln:((rows.map nD).length:Int)=rows.length:=by simp
 rcases hx.ki (S:=S)with⟨i,hi,rfl⟩|⟨kk,k1,k2,k3,k4⟩
 ·have le:∀b,(Kj (eC (.int 0)) (eV 3) (eOp (o1 DK) [(eV 0)])) [some (.ref q),a1,a2,some (.int i)] S=some (.bl b,S)->inB [some (.ref q),a1,a2,some (.int i)] S=some (if b=true then .nx else .ret (.bl false),[some (.ref q),a1,a2,some (.int i)],S):=fun b e=>by
   generalize hG:Kj (eC (.int 0)) (eV 3) (eOp (o1 DK) [(eV 0)])=G at*
   cases b<;>simp[inB,hG,Vd,QC,e]
  by_cases h0:0≤i
  ·have e:=ZL (S:=S) (oa:=eC (.int 0)) (ob:=eV 3) (oc:=eOp (o1 DK) [(eV 0)]) (E:=[some (.ref q),a1,a2,some (.int i)]) (i:=0) (j:=i) (k:=rows.length) (S1:=S) (S2:=S) (by simp) h0 (by generalize rows.map nD=RO at *; simp[dq,ln])
   rw[le _ e]
   have:A7 0 ((rows.length:Int)-1) (.int i)=decide (i<(rows.length:Int)):=by
    show(decide (0≤i) && decide (i≤(rows.length:Int)-1))=_
    rw[decide_eq_true h0,Bool.true_and]
    exact decide_eq_decide.mpr (by omega)
   rw[this]
  ·have e:=Y3 (S:=S) (oa:=eC (.int 0)) (ob:=eV 3) (oc:=eOp (o1 DK) [(eV 0)]) (E:=[some (.ref q),a1,a2,some (.int i)]) (i:=0) (j:=i) (S1:=S) (by simp) h0
   rw[le _ e]
   have:A7 0 ((rows.length:Int)-1) (.int i)=false:=by
    show(decide (0≤i) && decide (i≤(rows.length:Int)-1))=_
    rw[decide_eq_false h0,Bool.false_and]
   rw[this]
 ·have z:A7 0 ((rows.length:Int)-1) x=false:=by cases x<;>first|rfl|exact absurd rfl (k4 _)
  rw[z]
  cases b1:St.Kd.isA kk "int" <;>simp[b1]at k2<;>simp[inB,k1,k3,b1,k2]
theorem N4{a1 a2:Option D}(hq:S[q]?=some (.lst (rows.map nD))):∀{xs:List D} {o:Option D},(∀x∈xs,Tbb x)->∃o',KI [] (tNm 3) inB xs [some (.ref q),a1,a2,o] S=some (if xs.all (A7 0 ((rows.length:Int)-1))=true then .nx else .ret (.bl false),[some (.ref q),a1,a2,o'],S)
  | [],o,h=>⟨o,by rw[HL Ao];rfl⟩
  | x :: xs, o, h => by
    have b:=Yp (S:=S) (a1:=a1) (a2:=a2) hq (h x List.mem_cons_self)
    obtain⟨o',e⟩:=N4 hq (a1:=a1) (a2:=a2) (xs:=xs) (o:=some x) fun y hy=>h y (List.mem_cons_of_mem _ hy)
    have tt:tNm 3 x [some (.ref q),a1,a2,o] S=some [some (.ref q),a1,a2,some x]:=by simp
    cases z:A7 0 ((rows.length:Int)-1) x with
    | true =>
      rw[z,if_pos rfl]at b
      exact⟨o',by rw[D1 Ao,tt,A4,b,A4,BO,e,List.all_cons,z,Bool.true_and]⟩
    | false =>
      rw[z,if_neg (by decide)]at b
      exact⟨some x,by rw[D1 Ao,tt,A4,b,A4,List.all_cons,z,Bool.false_and,if_neg (by decide)];rfl⟩
def Y0:Ex:=(Aa (xIf (eOr (eOp (o2 wNe) [(eOp (o2 wIx) [(eV 0),(eOp (o2 wIx) [(eV 2),(eC (.int 0))])]),(C1 [])]) (eOp (o2 wNe) [(eOp (o2 wIx) [(eV 2),(eOp (o1 GZ) [(eC (.int 1))])]),(eV 1)])) (BS (eC (.bl false))) CZ)
  (BS (eOp (o2 wEq) [(Ci [0] 2 (Uv (eV 2) (eOp (EN true false) [(eV 2),(eC (.int 1))])) (tTp [(tNm 1),(tNm 2)]) (eOp (o2 (wIn true)) [(eV 1),(eOp (o2 wIx) [(eV 0),(eV 2)])]) (eC (.int 1))),(C1 [])])))
theorem Lb:IW=(Aa (xIf (eOr (Kw (eOp (o2 KG) [(eV 2),(eC (.ty "tuple"))])) (eOp (o2 Yj) [(eV 2),(BN [])])) (BS (eC (.bl false))) CZ)
  (Aa (IM (GY (eV 2)) (tNm 3) inB) Y0)):=rfl
theorem Wk{X:D}(hX:Tbb X)(hn:∀xs,X≠.tup xs):BH [.ref q,.int load,X] S=some (.bl false,S):=by
 unfold BH
 rw[Lb]
 rcases hX.kd (S:=S)with⟨xs,_,_,rfl⟩|⟨⟨kk,k1,k2⟩,k3,_⟩
 ·exact absurd rfl (hn xs)
 ·simp[k1,k2,k3]
@[simp] theorem ZT{xs:List D}:Yj (.val (.tup xs)) (.val (.tup []))=some (.val (.bl xs.isEmpty)):=nr rfl
theorem V0:BH [.ref q,.int load,.tup []] S=some (.bl false,S):=by
 unfold BH
 rw[Lb]
 simp[IV]
theorem WO{xs:List D}(hq:S[q]?=some (.lst (rows.map nD)))(hx:∀x∈xs,Tbb x)(hb:xs.all (A7 0 ((rows.length:Int)-1))=false):BH [.ref q,.int load,.tup xs] S=some (.bl false,S):=by
 obtain⟨o',e⟩:=N4 (S:=S) (a1:=some (.int load)) (a2:=some (.tup xs)) (o:=none) hq hx
 rw[hb,if_neg (by decide)]at e
 have hn:xs.isEmpty=false:=by cases xs with|nil=>cases hb|cons=>rfl
 unfold BH
 rw[Lb]
 simp[IV,hn,e]
theorem UJ{is:List Nat}(hq:S[q]?=some (.lst (rows.map nD)))(hl:is.length≤1000)(hr:rows.length≤100)(hn:is≠[])(hb:∀i∈is,i<rows.length):BH [.ref q,.int load,.tup (AH is)] S=some (.bl (chN rows load is),S):=by
  have hx:∀x∈AH is,Tbb x:=fun x hx=>by
    obtain⟨i,hi',rfl⟩:=List.mem_map.mp hx
    have:=hb i hi'
    exact .int (Nat.lt_of_lt_of_le (show((i:Int)).natAbs<2^10 by rw[Int.natAbs_natCast];omega) (Nat.pow_le_pow_right (by decide) (by decide)))
  obtain⟨o',e⟩:=N4 (S:=S) (a1:=some (.int load)) (a2:=some (.tup (AH is))) (o:=none) hq hx
  rw[Og hb,if_pos rfl]at e
  obtain⟨x,xs,rfl⟩:∃x xs,is=x::xs:=by
    cases is with
    |nil=>exact absurd rfl hn
    |cons x xs=>exact⟨x,xs,rfl⟩
  obtain⟨a,ha⟩:∃a,(x::xs).getLast?=some a:=⟨_,List.getLast?_eq_some_getLast (by simp)⟩
  have la:=Mh ha
  have hd0:=Jb (x:=x) (xs:=xs)
  have rx:=NO (hb x List.mem_cons_self)
  have lk:=b9 (S:=S) (rows:=rows) (is:=x::xs) hb hl hq
  have ct:=Mt (is:=x::xs) (by simp)
  have dq:=Aj hq
  have sq:sqD S (.tup (AH (x::xs)))=some (AH (x::xs),[]):=nr rfl
  have sq2:sqD S (.tup (AH (x::xs)).tail)=some ((AH (x::xs)).tail,[]):=nr rfl
  have ec:chN rows load (x::xs)=((a==load) && (rowAt rows x).isEmpty && DC rows (x::xs)):=by
    unfold chN
    rw[ha];rfl
  have hal:((a:Int)==(load:Int))=(a==load):=by rw[Bool.eq_iff_iff,beq_iff_eq,beq_iff_eq];omega
  have n1:=Nq (r:=rowAt rows x)
  have q1:=W6 (r:=((x::xs).zip (x::xs).tail).filter fun z=> !(rowAt rows z.2).contains z.1)
  have ef:(((x::xs).zip (x::xs).tail).filter fun z=> !(rowAt rows z.2).contains z.1).isEmpty=DC rows (x::xs):=by
    unfold DC
    generalize (x::xs).zip (x::xs).tail=Z
    induction Z with
    |nil=>rfl
    | cons z Z ih =>
      rw[List.filter_cons,List.all_cons,←ih]
      cases (rowAt rows z.2).contains z.1<;>simp
  rw[ef]at q1
  have emp:(AH (x::xs)).isEmpty=false:=rfl
  unfold BH
  rw[Lb,ec]
  generalize (((x::xs).zip (x::xs).tail).filter fun z=> !(rowAt rows z.2).contains z.1).map (fun _=>D.int 1)=ON at*
  generalize DC rows (x::xs)=lb at*
  generalize (rowAt rows x).isEmpty=em at*
  generalize AH (rowAt rows x)=RX at*
  generalize rows.map nD=RO at*
  generalize AH (x::xs)=NX at*
  have e2:Y0 [some (.ref q),some (.int load),some (.tup NX),o'] S=some (.ret (.bl ((a==load) && em && lb)),[some (.ref q),some (.int load),some (.tup NX),o'],S):=by
    cases em with
    |false=>simp[Y0,dq,hd0,rx,-Eb,n1]
    | true =>
      have nl:wNe (.val (.int a)) (.val (.int load))=some (.val (.bl (!(a==load)))):=by
        rw[Eb]
        show some (Wv.val (.bl (!((a:Int)==(load:Int)))))=_
        rw[hal]
      by_cases h1:a=load
      · have h1' : (a == load) = true := by simpa using h1
        rw[h1']at nl⊢
        simp[Y0,dq,hd0,rx,-Eb,-W3,n1,la,nl,sq,sq2,ct,Na,lk,q1]
      · have h1' : (a == load) = false := by simpa using h1
        rw[h1']at nl⊢
        simp[Y0,dq,hd0,rx,-Eb,n1,la,nl]
  simp[IV,emp,sq,e,e2]
end
section
variable{S:Sto}{t:Tr}{ls:List Ld}{ds:List Ae}{load q p:Nat}{rows:List (List Nat)}
theorem JF(h:Ej t ls ds):(Ak ls.length ds).length≤24:=by
 have:=List.length_filter_le Iy ds
 have:=h.len
 have:=h.few
 rw[JV];omega
theorem WR{X:D}(h:Ej t ls ds)(hi:load<(Ak ls.length ds).length)(hq:S[q]?=some (.lst ((Ak ls.length ds).map nD)))(hX:Tbb X):∃b,Ap [A3 t ls ds,.int load,X] S=some (.bl b,S)/\BH [.ref q,.int load,X] S=some (.bl b,S):=by
  by_cases ht:∃xs,X=.tup xs
  · obtain ⟨xs, rfl⟩ := ht
    obtain⟨hx,hl⟩:(∀x∈xs,Tbb x)/\xs.length≤1000:=by
      cases hX with
      |tup h l=>exact⟨h,l⟩
    by_cases hn:xs=[]
    · subst hn
      exact⟨false,NY h hi,V0⟩
    · cases hb : xs.all (A7 0 (((Ak ls.length ds).length : Int) - 1)) with
      |false=>exact⟨false,MW h hi hx hl hn hb,WO hq hx hb⟩
      | true =>
        obtain⟨is,rfl,his⟩:=P2 hb
        have hl':is.length≤1000:=by simpa[AH]using hl
        have hn':is≠[]:=fun z=>hn (by rw[z];rfl)
        have:=JF h
        exact⟨_,HD h hi hl' hn' his,UJ hq hl' (by omega) hn' his⟩
  · have hn : ∀ xs, X ≠ .tup xs := fun xs z => ht ⟨xs, z⟩
    exact⟨false,NP h hi hX hn,Wk hX hn⟩
def Kf(rows:List (List Nat)):Prop:=∀k,∀j∈rowAt rows k,j<k
theorem PZ{rows:List (List Nat)}{r:List Nat}(h:Kf rows)(hr:∀j∈r,j<rows.length):Kf (rows++[r]):=by
 intro k j hj
 unfold rowAt at hj
 rw[List.getD_eq_getElem?_getD]at hj
 by_cases hk:k<rows.length
 ·rw[List.getElem?_append_left hk]at hj
  exact h k j (by unfold rowAt;rw[List.getD_eq_getElem?_getD];exact hj)
 ·by_cases e:k=rows.length
  ·subst e
   rw[List.getElem?_concat_length]at hj
   exact hr j hj
  ·rw[List.getElem?_eq_none (by simp;omega)]at hj
   cases hj
theorem P6{n:Nat}:Kf (List.replicate n []):=by
 intro k j hj
 unfold rowAt at hj
 rw[List.getD_eq_getElem?_getD,List.getElem?_replicate]at hj
 by_cases hk:k<n
 ·rw[if_pos hk]at hj;cases hj
 ·rw[if_neg hk]at hj;cases hj
theorem Xp{st:Stt}{d:Ae}(hc:Can t st d):∀j∈Lu d,j<st.loads.length:=by
  intro j hj
  cases d with
  | pool a b =>
    obtain⟨_,h1,h2,_⟩:=hc
    have hj:j∈(if a≤b then [a,b]else [b,a]):=hj
    split at hj
    ·simp at hj;rcases hj with rfl|rfl<;>assumption
    ·simp at hj;rcases hj with rfl|rfl<;>assumption
  |swap l g k n=>simp[Lu]at hj;subst hj;exact hc.1
  |trade u l g k n=>simp[Lu]at hj;subst hj;exact hc.1
  |_=>cases hj
theorem LZ:∀{ds:List Ae} {st:Stt} {rows:List (List Nat)},Ij t st ds->rows.length=st.loads.length->Kf rows->Kf (rows++(ds.filter Iy).map Lu)
  | [],st,rows,_,_,h=>by simpa using h
  | d :: ds, st, rows, g, hl, h => by
    have hlen:(step t st d).loads.length=st.loads.length+(if Iy d=true then 1 else 0):=by cases d<;>simp[step,Iy,BJ]
    rw[List.filter_cons]
    cases hm:Iy d with
    | true =>
      rw[hm,if_pos rfl]at hlen
      have:=LZ (ds:=ds) (st:=step t st d) (rows:=rows++[Lu d]) g.2 (by simp;omega) (PZ h (by rw[hl];exact Xp g.1))
      simpa using this
    | false =>
      rw[hm,if_neg (by decide)]at hlen
      simpa using LZ (ds:=ds) (st:=step t st d) (rows:=rows) g.2 (by omega) h
theorem Kn(h:Ej t ls ds):Kf (Ak ls.length ds):=LZ (st:=st0 t ls) h.good (by simp[st0]) P6
def anyB:Ex:=(Aa (BP 4 (eOp (o2 wIx) [(eV 1),(eOp (o2 wIx) [(eV 3),(eC (.int 0))])]))
  (BP 3 (eOp (o2 Bi) [(BN [(eOp (o2 wIx) [(eV 4),(AL AG [(eV 0),(eOp (o1 DK) [(eV 4)])])])]),(eV 3)])))
theorem Ov:∀k,(rowAt (Ak ls.length ds) k).length≤2:=by
  intro k
  have all:∀r∈Ak ls.length ds,r.length≤2:=by
    intro r hr
    unfold Ak at hr
    rcases List.mem_append.mp hr with h|h
    ·rw[List.eq_of_mem_replicate h];simp
    · obtain ⟨d, _, rfl⟩ := List.mem_map.mp h
      cases d with
      | pool a b =>
        show(if a≤b then [a,b]else [b,a]).length≤2
        split<;>simp
      |_=>simp[Lu]
  unfold rowAt
  rw[List.getD_eq_getElem?_getD]
  cases e:(Ak ls.length ds)[k]? with
  |none=>simp
  |some r=>exact all r (List.mem_of_getElem? e)
theorem OM(ha:Kf rows)(hw:∀k,(rowAt rows k).length≤2)(hr:rows.length≤50)(hpq:q≠p){a2:Option D}:∀{f c:Nat} {rest:List Nat} {o:Option D} {S:Sto},c<f->c<rows.length->B2 p S->S[q]?=some (.lst (rows.map nD))->(∀i∈rest,i<rows.length)->rest.length+c≤60->
    ∃is o' S',Eo (eOp (o2 wNe) [(eOp (o2 wIx) [(eV 1),(eOp (o2 wIx) [(eV 3),(eC (.int 0))])]),(C1 [])]) anyB f [some (.ref p),some (.ref q),a2,some (.tup (AH (c::rest))),o] S=some (.nx,[some (.ref p),some (.ref q),a2,some (.tup (AH is)),o'],S')/\is≠[]/\(∀i∈is,i<rows.length)/\is.length≤61/\Pn p S S'
  |0,c,rest,o,S,hf,_,_,_,_,_=>absurd hf (Nat.not_lt_zero _)
  | f + 1, c, rest, o, S, hf, hc, hp, hq, hrest, hsz => by
    have dq:=Aj hq
    have hd0:=Jb (x:=c) (xs:=rest)
    have rx:=NO (rows:=rows) hc
    have n1:=Nq (r:=rowAt rows c)
    by_cases hem:rowAt rows c=[]
    · refine ⟨c :: rest, o, S, ?_, by simp, fun i hi => ?_, by simp; omega, .refl hp⟩
      · rw [hem] at n1 rx
        rw[Ol (S1:=S)]
        generalize rows.map nD=RO at*
        generalize AH (c::rest)=NX at*
        have n1':wNe (.val (.lst (AH []))) (.val (.lst []))=some (.val (.bl false)):=n1
        simp[dq,hd0,rx,-Eb,n1']
      · rcases List.mem_cons.mp hi with rfl | hi
        ·exact hc
        ·exact hrest i hi
    · have hlen : 0 < (rowAt rows c).length := List.length_pos_iff.mpr hem
      have hbig:=hw c
      obtain⟨r,S1,e1,r0,r1,p1⟩:=Ab hp (n:=((rowAt rows c).length:Int)) (by omega) (by omega)
      obtain⟨k,rfl⟩:=Dm r0
      have hk:k<(rowAt rows c).length:=by omega
      have ak:atI (AH (rowAt rows c)) (k:Int)=some (.int ((rowAt rows c)[k]:Nat)):=CB (by unfold AH;rw[List.getElem?_map,List.getElem?_eq_getElem hk];rfl)
      have hm:(rowAt rows c)[k]∈rowAt rows c:=List.getElem_mem hk
      have hlt:=ha c _ hm
      generalize (rowAt rows c)[k]=c' at*
      obtain⟨is,o',S2,e2,h1,h2,h3,p2⟩:=OM ha hw hr hpq (a2:=a2) (f:=f) (c:=c') (rest:=c::rest) (o:=some (.lst (AH (rowAt rows c)))) (S:=S1) (by omega) (by omega) p1.pen (p1.get hq hpq) (fun i hi=>by
        rcases List.mem_cons.mp hi with rfl|hi
        ·exact hc
        ·exact hrest i hi) (by simp;omega)
      refine⟨is,o',S2,?_,h1,h2,h3,p1.trans p2⟩
      have ne:(!(rowAt rows c).isEmpty)=true:=by
        cases hz:rowAt rows c with
        |nil=>exact absurd hz hem
        |cons=>rfl
      rw[ne]at n1
      have ln:DK (.val (.lst (AH (rowAt rows c))))=some (.val (.int (rowAt rows c).length)):=by
        show some (Wv.val (.int ((AH (rowAt rows c)).length:Int)))=_
        simp[AH]
      have ea:AH (c'::c::rest)=[.int c']++AH (c::rest):=rfl
      have sz:1+(AH (c::rest)).length≤sizeLine:=Nat.le_trans (show _≤100 by simp[AH];omega) (AO (by decide))
      have cb:anyB [some (.ref p),some (.ref q),a2,some (.tup (AH (c::rest))),o] S=some (.nx,[some (.ref p),some (.ref q),a2,some (.tup (AH (c'::c::rest))),some (.lst (AH (rowAt rows c)))],S1):=by
        rw[ea]
        generalize ((rowAt rows c).length:Int)=LL at*
        generalize rows.map nD=RO at*
        generalize AH (rowAt rows c)=RX at*
        generalize AH (c::rest)=NX at*
        simp[anyB,dq,hd0,rx,-FQ,ln,e1,ak,sz]
      rw[OH (S1:=S) (E2:=[some (.ref p),some (.ref q),a2,some (.tup (AH (c'::c::rest))),some (.lst (AH (rowAt rows c)))]) (S2:=S1) ?_ cb,e2]
      generalize rows.map nD=RO at*
      generalize AH (rowAt rows c)=RX at*
      generalize AH (c::rest)=NX at*
      simp[dq,hd0,rx,-Eb,n1]
theorem VC(ha:Kf rows)(hw:∀k,(rowAt rows k).length≤2)(hr:rows.length≤50)(hpq:q≠p)(hl:load<rows.length)(hp:B2 p S)(hq:S[q]?=some (.lst (rows.map nD))):∃is S',BE [.ref p,.ref q,.int load] S=some (.tup (AH is),S')/\is≠[]/\(∀i∈is,i<rows.length)/\is.length≤61/\Pn p S S':=by
 obtain⟨is,o',S',e,h1,h2,h3,h4⟩:=OM ha hw hr hpq (a2:=some (.int load)) (f:=70) (c:=load) (rest:=[]) (o:=none) (S:=S) (by omega) hl hp hq (fun i hi=>by cases hi) (by simp;omega)
 refine⟨is,S',?_,h1,h2,h3,h4⟩
 have eb:F6=(Aa (BP 3 (BN [(eV 2)]))
  (Aa (K4 (UW 70) (eOp (o2 wNe) [(eOp (o2 wIx) [(eV 1),(eOp (o2 wIx) [(eV 3),(eC (.int 0))])]),(C1 [])]) anyB)
  (BS (eV 3)))):=rfl
 have xw:∀(f:En->Nat) (c:Ev) (b:Ex) (E:En) (T:Sto),K4 f c b E T=Eo c b (f E) E T:=fun _ _ _ _ _=>rfl
 have fn:∀E,UW 70 E=70:=fun _=>rfl
 have e0:AH [load]=[.int load]:=rfl
 rw[e0]at e
 unfold BE
 rw[eb]
 generalize hWD:Eo (eOp (o2 wNe) [(eOp (o2 wIx) [(eV 1),(eOp (o2 wIx) [(eV 3),(eC (.int 0))])]),(C1 [])]) anyB=WD at*
 generalize AH is=NX at*
 simp[xw,fn,hWD,e]
end
inductive Chn(rows:List (List Nat)):Nat->List Nat->Prop
 |root {n:Nat} (h:rowAt rows n=[]) (hn:n<rows.length):Chn rows n [n]
 |step {n s:Nat} {is:List Nat} (c:Chn rows s is) (m:s∈rowAt rows n) (hn:n<rows.length):Chn rows n (is++[n])
section
variable{rows:List (List Nat)}
theorem Km:∀{xs:List Nat} {x n a:Nat},(x::xs).getLast?=some a->DC rows ((x::xs)++[n])=(DC rows (x::xs) && (rowAt rows n).contains a)
  | [],x,n,a,h=>by
    simp at h
    subst h
    simp[DC]
  | y :: xs, x, n, a, h => by
    have ih:=Km (xs:=xs) (x:=y) (n:=n) (a:=a) (by simpa using h)
    have e1:DC rows (x::y::xs++[n])=((rowAt rows y).contains x && DC rows (y::xs++[n])):=by simp[DC]
    have e2:DC rows (x::y::xs)=((rowAt rows y).contains x && DC rows (y::xs)):=by simp[DC]
    rw[e1,e2,ih,Bool.and_assoc]
theorem Chn.facts:∀{n:Nat} {is:List Nat},Chn rows n is->is≠[]/\is.getLast?=some n/\(∀i∈is,i<rows.length)/\rowAt rows (is.headD 0)=[]/\DC rows is=true
  |_,_,.root (n:=n) h hn=>⟨by simp,by simp,fun i hi=>by simp at hi;subst hi;exact hn,by simpa using h,by simp[DC]⟩
  | _, _, .step (n := n) (s := s) (is := is) c m hn => by
    obtain⟨h1,h2,h3,h4,h5⟩:=c.facts
    obtain⟨x,xs,rfl⟩:∃x xs,is=x::xs:=by
      cases is with
      |nil=>exact absurd rfl h1
      |cons x xs=>exact⟨x,xs,rfl⟩
    refine⟨by simp,List.getLast?_concat,fun i hi=>?_,by simpa using h4,?_⟩
    · rcases List.mem_append.mp hi with hi | hi
      ·exact h3 i hi
      ·simp at hi;subst hi;exact hn
    · rw [Km h2, h5, Bool.true_and]
      simpa using m
theorem Chn.len(ha:Kf rows):∀{n:Nat} {is:List Nat},Chn rows n is->is.length≤n+1
  |_,_,.root h hn=>by simp
  | _, _, .step c m hn => by
    have:=c.len ha
    have:=ha _ _ m
    simp
    omega
theorem Chn.ok{n:Nat}{is:List Nat}(c:Chn rows n is):chN rows n is=true:=by
 obtain⟨h1,h2,h3,h4,h5⟩:=c.facts
 unfold chN
 rw[h2,h4,h5]
 simp
theorem P0{bt:Nat->Nat->Bool}:∀m,argBest bt m≤m
  |0=>Nat.le_refl _
  | m + 1 => by
    show(if bt (m+1) (argBest bt m)then m+1 else argBest bt m)≤m+1
    split
    ·exact Nat.le_refl _
    ·exact Nat.le_succ_of_le (P0 m)
theorem QH{α β γ:Type}{f:β->Option γ}{e:α->β}{g:α->γ}:∀{xs:List α},(∀x∈xs,f (e x)=some (g x))->Vb f (xs.map e)=some (xs.map g)
  | [],_=>rfl
  | x :: xs, h => by
    show(f (e x)).bind (fun b=>(Vb f (xs.map e)).map fun bs=>b::bs)=_
    rw[h x List.mem_cons_self,QH fun y hy=>h y (List.mem_cons_of_mem _ hy)]
    rfl
theorem br(is:List Nat):Hc (AH is)=some (is.map fun i:Nat=>(i:Int)):=by
 have:=FC (is.map fun i:Nat=>(i:Int))
 rw[List.map_map]at this
 exact this
theorem bK{S:Sto}{k:Nat}{row:List Nat}{f:Nat->List Nat}:∃is,mnK (.lst (row.map fun s=>.tup (AH (f s++[k]))),S) (.tup [.int k],S)=some (.tup (AH is),S)/\((row=[]/\is=[k])∨∃s∈row,is=f s++[k]):=by
  have m:Vb tupI (row.map fun s=>D.tup (AH (f s++[k])))=some (row.map fun s=>(f s++[k]).map fun i:Nat=>(i:Int)):=QH fun s _=>br _
  cases row with
  |nil=>exact⟨[k],rfl,.inl ⟨rfl,rfl⟩⟩
  | cons s row =>
    generalize hn:((s::row).map fun s=>(f s++[k]).map fun i:Nat=>(i:Int))=nss at*
    have hlt:argBest (Pg nss) (((s::row).map fun s=>D.tup (AH (f s++[k]))).length-1)<(s::row).length:=by
      have:=P0 (bt:=Pg nss) (((s::row).map fun s=>D.tup (AH (f s++[k]))).length-1)
      rw[List.length_map]at this⊢
      simp at this⊢
      omega
    refine⟨f ((s::row)[argBest (Pg nss) (((s::row).map fun s=>D.tup (AH (f s++[k]))).length-1)])++[k],?_,.inr ⟨_,List.getElem_mem hlt,rfl⟩⟩
    show(Vb tupI ((s::row).map fun s=>D.tup (AH (f s++[k])))).map (fun nss=>(V7 (.tup [.int k]) nss ((s::row).map fun s=>D.tup (AH (f s++[k]))),S))=_
    rw[m]
    show some (List.getD ((s::row).map fun s=>D.tup (AH (f s++[k]))) (argBest (Pg nss) (((s::row).map fun s=>D.tup (AH (f s++[k]))).length-1)) .non,S)=_
    rw[List.getD_eq_getElem?_getD,List.getElem?_map,List.getElem?_eq_getElem hlt]
    rfl
end
section
variable{S:Sto}{t:Tr}{ls:List Ld}{ds:List Ae}{load:Nat}
def fcB:Ex:=(Aa (BP 5 (Ci [2,3] 1 (GY (eV 4)) (tNm 2) DA (eOp (o2 Bi) [(eOp (o2 wIx) [(eV 0),(eV 2)]),(BN [(eV 1)])])))
  (Bx (Fp F1 (eV 2) [(eMn (eV 5) (BN [(eV 3)]))])))
noncomputable def chD(is:List Nat):D:=.tup (AH is)
theorem MD{rows:List (List Nat)}:KD 0 (rows.map nD)=(List.range rows.length).map fun(i:Nat)=>D.tup [.int i,.lst (AH (rowAt rows i))]:=by
 rw[Hj,List.length_map]
 apply List.map_congr_left
 intro i hi
 have h:i<rows.length:=List.mem_range.mp hi
 unfold rowAt
 rw[List.getD_eq_getElem?_getD,List.getElem?_map,List.getD_eq_getElem?_getD,List.getElem?_eq_getElem h]
 rfl
theorem ZC{rows:List (List Nat)}(ha:Kf rows)(hr:rows.length≤50)(hw:∀k,(rowAt rows k).length≤2){css:List (List Nat)}{q:Nat}{a0 a1 o5:Option D}(hk:css.length<rows.length)(hc:∀i,i<css.length->Chn rows i (css.getD i []))(hq:S[q]?=some (.lst (css.map chD))):∃is o,fcB [a0,a1,some (.ref q),some (.int css.length),some (.lst (AH (rowAt rows css.length))),o5] S=some (.nx,[a0,a1,some (.ref q),some (.int css.length),some (.lst (AH (rowAt rows css.length))),o],S.set q (.lst ((css++[is]).map chD)))/\Chn rows css.length is:=by
 obtain⟨is,e1,e2⟩:=bK (S:=S) (k:=css.length) (row:=rowAt rows css.length) (f:=fun s=>css.getD s [])
 have hs2:=hw css.length
 have cz:=Dw (gs:=[]) (t:=tNm 2) (f:=eOp (o2 Bi) [(eOp (o2 wIx) [(eV 0),(eV 2)]),(BN [(eV 1)])]) (C:=[some (.ref q),some (.int css.length)]) (m:=1) (e:=fun i:Nat=>D.int i) (g:=fun s=>D.tup (AH (css.getD s []++[css.length]))) (S:=S) Ao (xs:=rowAt rows css.length) (acc:=[]) (os:=[none]) rfl (Nat.le_trans (show _≤50 by simp;omega) (AO (by decide))) (by
  intro s hs os ho
  obtain⟨x1,rfl⟩:∃x1,os=[x1]:=by
   match os,ho with
   | [a],_=>exact⟨a,rfl⟩
  have hlt:=ha _ _ hs
  have at1:atI (css.map chD) (s:Int)=some (.tup (AH (css.getD s []))):=CB (by rw[List.getElem?_map,List.getD_eq_getElem?_getD,List.getElem?_eq_getElem hlt];rfl)
  have dq:=Aj hq
  have hlen:=(hc s hlt).len ha
  have sz:(AH (css.getD s [])).length+1≤sizeLine:=Nat.le_trans (show _≤100 by unfold AH;rw[List.length_map];omega) (AO (by decide))
  have en:AH (css.getD s []++[css.length])=AH (css.getD s [])++[.int css.length]:=by unfold AH;rw[List.map_append];rfl
  refine⟨[some (.int s)],rfl,by simp,?_⟩
  rw[en]
  generalize AH (css.getD s [])=NX at*
  generalize css.map chD=CM at*
  simp[dq,at1,sz])
 have hz:(css.map chD).length<sizeLine:=Nat.lt_of_lt_of_le (show _<51 by rw[List.length_map];omega) (AO (by decide))
 refine⟨is,some (.lst ((rowAt rows css.length).map fun s=>D.tup (AH (css.getD s []++[css.length])))),?_,?_⟩
 ·have eM:∀(fa fb:Ev) (E:En) (T:Sto),eMn fa fb E T=(fa E T).bind fun p=>(fb E p.2).bind fun q=>mnK p q:=fun _ _ _ _=>rfl
  have ea:(css++[is]).map chD=css.map chD++[.tup (AH is)]:=by rw[List.map_append];rfl
  rw[ea]
  simp only[List.nil_append,List.cons_append]at cz
  change B9 [] (tNm 2) DA _ (AH (rowAt rows css.length)) _ _ _=_ at cz
  have sq:sqD S (.lst (AH (rowAt rows css.length)))=some (AH (rowAt rows css.length),[]):=nr rfl
  generalize ((rowAt rows css.length).map fun s=>D.tup (AH (css.getD s []++[css.length])))=LG at*
  generalize AH (rowAt rows css.length)=RX at*
  generalize css.map chD=CM at*
  simp[fcB,sq,Na,cz,eM,e1,AS hq,hz]
 ·rcases e2 with⟨h1,rfl⟩|⟨s,hs,rfl⟩
  ·exact .root h1 hk
  ·exact .step (hc s (ha _ _ hs)) hs hk
theorem KJ(h:Ej t ls ds)(hi:load<(Ak ls.length ds).length):∃is S',B0 [A3 t ls ds,.int load] S=some (.tup (AH is),S')/\Chn (Ak ls.length ds) load is/\C0 [] S S':=by
 have r1:=Jh (S:=S) h
 have r2:=JY (S:=S) h hi
 have sr:=Eg (S:=S++[Cl.lst []]) h
 have ha:=Kn h
 have hr:=JF h
 have hw:=Ov (ls:=ls) (ds:=ds)
 generalize Ak ls.length ds=rows at*
 have hq:(S++[Cl.lst []])[S.length]?=some (.lst []):=List.getElem?_concat_length
 obtain⟨E',S',ef,css,u3,u4,u5,f1,rfl,f3,f4,f5⟩:=Eh (gs:=[]) (t:=tTp [(tNm 3),(tNm 4)]) (b:=fcB)
  (I:=fun rs E S'=>∃(css:List (List Nat)) (u3 u4 u5:Option D),(rs=(KD 0 (rows.map nD)).drop css.length/\css.length≤rows.length)/\E=[some (A3 t ls ds),some (.int load),some (.ref S.length),u3,u4,u5]/\S'[S.length]?=some (.lst (css.map chD))/\(∀i,i<css.length->Chn rows i (css.getD i []))/\C0 [S.length] (S++[Cl.lst []]) S')
  (fun _ _ _ _=>Ao) (ds:=KD 0 (rows.map nD)) (E:=[some (A3 t ls ds),some (.int load),some (.ref S.length),none,none,none]) (S:=S++[Cl.lst []])
  ⟨[],none,none,none,⟨by simp,Nat.zero_le _⟩,rfl,hq,fun i hi=>by simp at hi,.refl⟩ (by
   rintro dd rs E T ⟨css,u3,u4,u5,⟨i1,i2⟩,rfl,i3,i4,i5⟩
   have el:(KD 0 (rows.map nD)).length=rows.length:=by rw[MD];simp
   have hlt:css.length<rows.length:=by
    rcases Nat.lt_or_ge css.length rows.length with w|w
    ·exact w
    ·rw[List.drop_eq_nil_of_le (by omega)]at i1;cases i1
   rw[List.drop_eq_getElem_cons (by omega)]at i1
   injection i1 with z1 z2
   have hd1:dd=.tup [.int css.length,.lst (AH (rowAt rows css.length))]:=by
    have:(KD 0 (rows.map nD))[css.length]?=some (.tup [.int css.length,.lst (AH (rowAt rows css.length))]):=by
     rw[MD,List.getElem?_map,List.getElem?_range hlt];rfl
    rw[List.getElem?_eq_getElem (by omega),←z1]at this
    exact Option.some.inj this
   subst z2 hd1
   obtain⟨is,o,e,c⟩:=ZC (S:=T) (a0:=some (A3 t ls ds)) (a1:=some (.int load)) (o5:=u5) ha (by omega) hw hlt i4 i3
   refine⟨_,_,_,by simp,e,css++[is],_,_,_,⟨by simp,by simp;omega⟩,rfl,List.getElem?_set_self (Ad i3),fun i hi=>?_,i5.trans (.set (by simp))⟩
   by_cases hz:i<css.length
   ·have:(css++[is]).getD i []=css.getD i []:=by rw[List.getD_eq_getElem?_getD,List.getElem?_append_left hz,←List.getD_eq_getElem?_getD]
    rw[this];exact i4 i hz
   ·have:i=css.length:=by simp at hi;omega
    subst this
    rw[List.getD_eq_getElem?_getD,List.getElem?_concat_length]
    exact c)
 have el:(KD 0 (rows.map nD)).length=rows.length:=by rw[MD];simp
 have hn:css.length=rows.length:=by
  have:=congrArg List.length f1.1
  rw[List.length_drop,el]at this
  simp at this
  omega
 have at1:atI (css.map chD) (load:Int)=some (.tup (AH (css.getD load []))):=CB (by rw[List.getElem?_map,List.getD_eq_getElem?_getD,List.getElem?_eq_getElem (by omega)];rfl)
 refine⟨css.getD load [],S',?_,f4 load (by omega),C0.new (A:=[]) (B:=[S.length]) .app f5 (by simp)⟩
 have eb:Fs=(Aa (Bx (AL Bl [(eV 0)]))
  (Aa (Bx (AL Ba [(eV 0),(eV 1)]))
  (Aa (BP 2 (Cz []))
  (Aa (IM (Rf (AL B1 [(eV 0)])) (tTp [(tNm 3),(tNm 4)]) fcB)
  (BS (eOp (o2 wIx) [(eV 2),(eV 1)])))))):=rfl
 have dq:=Aj f3
 unfold B0
 rw[eb]
 generalize A3 t ls ds=bk at*
 generalize rows.map nD=RO at*
 generalize css.map chD=CM at*
 simp[r1,r2,sr,ef,dq,at1]
end
theorem FG{ls:List Ld}{l i:Nat}{x:Ld}(h:l<ls.length):AQ (ls.set l x) i=if i=l then x else AQ ls i:=by
 unfold AQ
 rw[List.getD_eq_getElem?_getD,List.getElem?_set,List.getD_eq_getElem?_getD]
 by_cases e:i=l
 ·subst e;simp[h]
 ·have e':¬l=i:=fun z=>e z.symm
  simp[e,e']
theorem LN{ls:List Ld}{x:Ld}{i:Nat}(h:i<ls.length):AQ (ls++[x]) i=AQ ls i:=by
 unfold AQ
 rw[List.getD_eq_getElem?_getD,List.getElem?_append_left h,List.getD_eq_getElem?_getD]
theorem MC{ls:List Ld}{x:Ld}:AQ (ls++[x]) ls.length=x:=by
 unfold AQ
 rw[List.getD_eq_getElem?_getD,List.getElem?_concat_length]
 rfl
noncomputable def kA(st:Stt)(i:Nat):Nat:=(AQ st.loads i).k
noncomputable def nA(st:Stt)(i:Nat):Int:=(AQ st.loads i).n
section
variable{t:Tr}{st:Stt}{a b l:Nat}
theorem Lr:(step t st (.pool a b)).loads.length=st.loads.length+1:=by simp[step,BJ]
theorem Qk{i:Nat}(hab:a≠b)(ha:a<st.loads.length)(hb:b<st.loads.length)(hi:i<st.loads.length):kA (step t st (.pool a b)) i=kA st i/\nA (step t st (.pool a b)) i=if i=b then 0 else if i=a then 0 else nA st i:=by
 unfold kA nA
 have e:AQ (step t st (.pool a b)).loads i=AQ (less (less st.loads a (AQ st.loads a).n) b (AQ st.loads b).n) i:=LN (by simpa[BJ]using hi)
 rw[e]
 have e2:AQ (less st.loads a (AQ st.loads a).n) b=AQ st.loads b:=by
  unfold less
  rw[FG ha,if_neg (Ne.symm hab)]
 have e3:AQ (less (less st.loads a (AQ st.loads a).n) b (AQ st.loads b).n) i=if i=b then{AQ st.loads b with n:=(AQ st.loads b).n-(AQ st.loads b).n}else if i=a then{AQ st.loads a with n:=(AQ st.loads a).n-(AQ st.loads a).n}else AQ st.loads i:=by
  conv=>lhs;unfold less
  rw[FG (by rw[List.length_set];exact hb)]
  have e2':AQ (st.loads.set a {AQ st.loads a with n:=(AQ st.loads a).n-(AQ st.loads a).n}) b=AQ st.loads b:=e2
  rw[e2',FG ha]
 rw[e3]
 by_cases h1:i=b
 ·subst h1;simp
 ·by_cases h2:i=a
  ·subst h2;simp[h1]
  ·simp[h1,h2]
theorem JE:kA (step t st (.pool a b)) st.loads.length=kA st a/\nA (step t st (.pool a b)) st.loads.length=nA st a+nA st b:=by
 unfold kA nA
 have e:AQ (step t st (.pool a b)).loads (less (less st.loads a (AQ st.loads a).n) b (AQ st.loads b).n).length=_:=MC
 rw[BJ,BJ]at e
 rw[e]
 exact⟨rfl,rfl⟩
variable{g n:Int}{k:Nat}
theorem Lq:(step t st (.swap l g k n)).loads.length=st.loads.length+1:=by simp[step,BJ]
theorem Q4{i:Nat}(hl:l<st.loads.length)(hi:i<st.loads.length):kA (step t st (.swap l g k n)) i=kA st i/\nA (step t st (.swap l g k n)) i=if i=l then nA st l-g else nA st i:=by
 unfold kA nA
 have e:AQ (step t st (.swap l g k n)).loads i=AQ (less st.loads l g) i:=LN (by simpa[BJ]using hi)
 rw[e]
 unfold less
 rw[FG hl]
 by_cases h1:i=l
 ·subst h1;simp
 ·simp[h1]
theorem LV:kA (step t st (.swap l g k n)) st.loads.length=k/\nA (step t st (.swap l g k n)) st.loads.length=n:=by
 unfold kA nA
 have e:AQ (step t st (.swap l g k n)).loads (less st.loads l g).length=_:=MC
 rw[BJ]at e
 rw[e]
 exact⟨rfl,rfl⟩
end
noncomputable def tP:Tr:=⟨2,2,1,[1 / 2,1 / 2],0,0⟩
noncomputable def szC(st:Stt)(i:Nat):Cl:=.lst [.int (kA st i),.int (nA st i)]
theorem Ks{as:List Nat}{a x:Nat}(ma:a∈as)(hx:x∉as):a≠x:=fun z=>hx (z▸ma)
structure PAt(S:Sto)(p qd qs:Nat)(as:List Nat)(st:Stt)(ds:List Ae):Prop where
 pen:B2 p S
 dd:S[qd]?=some (.lst (ds.map Ae.d))
 ss:S[qs]?=some (.lst (as.map D.ref))
 len:as.length=st.loads.length
 cel:∀i a,as[i]?=some a->S[a]?=some (szC st i)
 nd:as.Nodup
 ap:p∉as/\qd∉as/\qs∉as
 ne:p≠qd/\p≠qs/\qd≠qs
section
variable{S S':Sto}{p qd qs:Nat}{as:List Nat}{st st':Stt}{ds:List Ae}
theorem PAt.draw(h:PAt S p qd qs as st ds)(g:Pn p S S'):PAt S' p qd qs as st ds:=
 ⟨g.pen,g.get h.dd (Ne.symm h.ne.1),g.get h.ss (Ne.symm h.ne.2.1),h.len,fun i a e=>g.get (h.cel i a e) (Ks (List.mem_of_getElem? e) h.ap.1),h.nd,h.ap,h.ne⟩
theorem PAt.deed(h:PAt S p qd qs as st ds)(d:Ae):PAt (S.set qd (.lst (ds.map Ae.d++[d.d]))) p qd qs as st (ds++[d]):=by
 obtain⟨pd,pe,ph⟩:=h.pen
 refine⟨⟨pd,by rw[List.getElem?_set_ne (Ne.symm h.ne.1)];exact pe,ph⟩,?_,by rw[List.getElem?_set_ne h.ne.2.2];exact h.ss,h.len,fun i a e=>?_,h.nd,h.ap,h.ne⟩
 ·rw[List.getElem?_set_self (Ad h.dd)];simp
 ·rw[List.getElem?_set_ne (Ne.symm (Ks (List.mem_of_getElem? e) h.ap.2.1))];exact h.cel i a e
theorem PAt.put{i a:Nat}{n:Int}(h:PAt S p qd qs as st ds)(e:as[i]?=some a)(hl:st'.loads.length=st.loads.length)(hk:∀j,j<st.loads.length->kA st' j=kA st j/\nA st' j=if j=i then n else nA st j):PAt (S.set a (.lst [.int (kA st i),.int n])) p qd qs as st' ds:=by
 have ma:=List.mem_of_getElem? e
 have hi:=(List.getElem?_eq_some_iff.mp e).1
 obtain⟨pd,pe,ph⟩:=h.pen
 refine⟨⟨pd,by rw[List.getElem?_set_ne (Ks ma h.ap.1)];exact pe,ph⟩,by rw[List.getElem?_set_ne (Ks ma h.ap.2.1)];exact h.dd,by rw[List.getElem?_set_ne (Ks ma h.ap.2.2)];exact h.ss,by rw[hl];exact h.len,fun j b eb=>?_,h.nd,h.ap,h.ne⟩
 have hj:=(List.getElem?_eq_some_iff.mp eb).1
 have hkj:=hk j (by rw[←h.len];exact hj)
 by_cases hji:j=i
 ·subst hji
  rw[e]at eb;cases eb
  rw[List.getElem?_set_self (Ad (h.cel j a e))]
  unfold szC
  rw[hkj.1,hkj.2,if_pos rfl]
 ·have hab:a≠b:=fun z=>by
   subst z
   have e1:=(List.getElem?_eq_some_iff.mp e).2
   have e2:=(List.getElem?_eq_some_iff.mp eb).2
   rcases Nat.lt_or_gt_of_ne hji with w|w
   ·exact List.pairwise_iff_getElem.mp h.nd j i hj hi w (by rw[e1,e2])
   ·exact List.pairwise_iff_getElem.mp h.nd i j hi hj w (by rw[e1,e2])
  rw[List.getElem?_set_ne hab,h.cel j b eb]
  unfold szC
  rw[hkj.1,hkj.2,if_neg hji]
theorem PAt.new{k:Nat}{n:Int}(h:PAt S p qd qs as st ds)(hl:st'.loads.length=st.loads.length+1)(hk:∀j,j<st.loads.length->kA st' j=kA st j/\nA st' j=nA st j)(hn:kA st' st.loads.length=k/\nA st' st.loads.length=n):PAt ((S++[Cl.lst [.int k,.int n]]).set qs (.lst (as.map D.ref++[.ref S.length]))) p qd qs (as++[S.length]) st' ds:=by
 have lp:=h.pen.lt
 have ld:=Ad h.dd
 have lsz:=Ad h.ss
 have keep:∀{x:Nat} {c:Cl},x≠qs->S[x]?=some c->((S++[Cl.lst [.int k,.int n]]).set qs (.lst (as.map D.ref++[.ref S.length])))[x]?=some c:=fun{x c} hx e=>by
  rw[List.getElem?_set_ne (Ne.symm hx),List.getElem?_append_left (Ad e)];exact e
 obtain⟨pd,pe,ph⟩:=h.pen
 refine⟨⟨pd,keep h.ne.2.1 pe,ph⟩,keep h.ne.2.2 h.dd,?_,by rw[List.length_append,hl,h.len];rfl,fun j b eb=>?_,?_,?_,h.ne⟩
 ·rw[List.getElem?_set_self (by simp;omega)];simp
 ·by_cases hj:j<as.length
  ·rw[List.getElem?_append_left hj]at eb
   have hkj:=hk j (by rw[←h.len];exact hj)
   rw[keep (Ks (List.mem_of_getElem? eb) h.ap.2.2) (h.cel j b eb)]
   unfold szC
   rw[hkj.1,hkj.2]
  ·have ej:j=as.length:=by
    have:=(List.getElem?_eq_some_iff.mp eb).1
    simp at this;omega
   subst ej
   rw[List.getElem?_concat_length]at eb
   cases eb
   rw[List.getElem?_set_ne (by omega),List.getElem?_concat_length]
   unfold szC
   rw[h.len,hn.1,hn.2]
 ·rw[List.nodup_append]
  refine⟨h.nd,by simp,fun x hx y hy z=>?_⟩
  simp at hy
  subst hy
  subst z
  obtain⟨i,hi,ei⟩:=List.mem_iff_getElem.mp hx
  have:=Ad (h.cel i _ (by rw[List.getElem?_eq_getElem hi,ei]))
  omega
 ·refine⟨fun z=>?_,fun z=>?_,fun z=>?_⟩
  ·rcases List.mem_append.mp z with z|z
   ·exact h.ap.1 z
   ·simp at z;omega
  ·rcases List.mem_append.mp z with z|z
   ·exact h.ap.2.1 z
   ·simp at z;omega
  ·rcases List.mem_append.mp z with z|z
   ·exact h.ap.2.2 z
   ·simp at z;omega
noncomputable def CQ(st:Stt):List Nat:=(List.range st.loads.length).filter fun i=>decide (0<nA st i)
theorem PAt.get{i:Nat}(h:PAt S p qd qs as st ds)(hi:i<st.loads.length):∃a,as[i]?=some a/\atI (as.map D.ref) (i:Int)=some (.ref a)/\dr S (.ref a)=.own [.int (kA st i),.int (nA st i)]/\DJ S a=some [.int (kA st i),.int (nA st i)]:=by
 have hi':i<as.length:=by rw[h.len];exact hi
 refine⟨as[i],List.getElem?_eq_getElem hi',CB (by rw[List.getElem?_map,List.getElem?_eq_getElem hi'];rfl),Aj (h.cel i _ (List.getElem?_eq_getElem hi')),AS (h.cel i _ (List.getElem?_eq_getElem hi'))⟩
theorem Sx(h:PAt S p qd qs as st ds)(hl:st.loads.length≤50):B9 [(qs,as.map D.ref)] (tTp [(tNm 0),(tNm 1)]) (eOp (o2 wGt) [(eOp (o2 wIx) [(eV 1),(eC (.int 1))]),(eC (.int 0))]) (eV 0) (KD 0 (as.map D.ref)) [] [none,none] S=some (AH (CQ st),S):=by
 have:=CJ (gs:=[(qs,as.map D.ref)]) (t:=tTp [(tNm 0),(tNm 1)]) (c:=eOp (o2 wGt) [(eOp (o2 wIx) [(eV 1),(eC (.int 1))]),(eC (.int 0))]) (f:=eV 0) (C:=[]) (m:=2) (e:=fun i:Nat=>D.tup [.int i,(as.map D.ref).getD i .non]) (g:=fun i:Nat=>D.int i) (b:=fun i=>decide (0<nA st i)) (S:=S) (fun g hg=>by rw[List.mem_singleton.mp hg];exact AS h.ss) (xs:=List.range st.loads.length) (acc:=[]) (os:=[none,none]) rfl (Nat.le_trans (show _≤50 by simp;omega) (AO (by decide))) (by
  intro i hi os ho
  obtain⟨x1,x2,rfl⟩:∃x1 x2,os=[x1,x2]:=by
   match os,ho with
   | [a,b],_=>exact⟨a,b,rfl⟩
  obtain⟨a,e1,_,e3,_⟩:=h.get (List.mem_range.mp hi)
  have eg:(as.map D.ref).getD i .non=.ref a:=by rw[List.getD_eq_getElem?_getD,List.getElem?_map,e1];rfl
  refine⟨[some (.int i),some (.ref a)],rfl,by show tTp _ (D.tup [.int i,(as.map D.ref).getD i .non]) _ _=_;rw[eg];simp,?_,by simp⟩
  simp[e3])
 rw[Hj,List.length_map,h.len]
 exact this
noncomputable def B7(st:Stt)(l:Nat):List Nat:=(CQ st).filter fun i=> !(i==l) && (kA st i==kA st l)
theorem R4{l:Nat}(h:PAt S p qd qs as st ds)(hl:st.loads.length≤50)(hll:l<st.loads.length):B9 [] (tNm 2) (Fc (eOp (o2 wNe) [(eV 2),(eV 1)]) (eOp (o2 wEq) [(eOp (o2 wIx) [(eOp (o2 wIx) [(eV 0),(eV 2)]),(eC (.int 0))]),(eOp (o2 wIx) [(eOp (o2 wIx) [(eV 0),(eV 1)]),(eC (.int 0))])])) (eV 2) (AH (CQ st)) [] [some (.ref qs),some (.int l),none] S=some (AH (B7 st l),S):=by
  have hf:(CQ st).length≤50:=Nat.le_trans (List.length_filter_le _ _) (by simpa using hl)
  exact CJ (gs:=[]) (t:=tNm 2) (f:=eV 2) (C:=[some (.ref qs),some (.int l)]) (m:=1) (e:=fun i:Nat=>D.int i) (g:=fun i:Nat=>D.int i) (b:=fun i=> !(i==l) && (kA st i==kA st l)) (S:=S) Ao (xs:=CQ st) (acc:=[]) (os:=[none]) rfl (Nat.le_trans (show _≤50 by simp;omega) (AO (by decide))) (by
    intro i hi os ho
    obtain⟨x1,rfl⟩:∃x1,os=[x1]:=by
      match os,ho with
      | [a],_=>exact⟨a,rfl⟩
    have hi':i<st.loads.length:=List.mem_range.mp (List.mem_filter.mp hi).1
    obtain⟨a,_,e2,e3,_⟩:=h.get hi'
    obtain⟨b,_,e5,e6,_⟩:=h.get hll
    have dq:=Aj h.ss
    refine⟨[some (.int i)],rfl,by simp,?_,by simp⟩
    have c1:((i:Int)==(l:Int))=(i==l):=by rw[Bool.eq_iff_iff,beq_iff_eq,beq_iff_eq];omega
    have c2:((kA st i:Int)==(kA st l:Int))=(kA st i==kA st l):=by rw[Bool.eq_iff_iff,beq_iff_eq,beq_iff_eq];omega
    generalize as.map D.ref=AR at*
    cases h1:(i==l)with
    | true =>
      rw[h1]at c1
      simp[c1]
    | false =>
      rw[h1]at c1
      simp[c1,dq,e2,e3,e5,e6,c2])
end
def R7:Ex:=(Aa (BP 8 (eOp (o2 wIx) [(eV 7),(AL AG [(eV 0),(eOp (o1 DK) [(eV 7)])])]))
  (Aa (Bx (Fp F1 (eV 2) [(BN [(eC (.str "pool")),(eV 6),(eV 8)])]))
  (Aa (Bx (Fp F1 (eV 3) [(Cz [(eOp (o2 wIx) [(eOp (o2 wIx) [(eV 3),(eV 6)]),(eC (.int 0))]),(eOp (o2 Bi) [(eOp (o2 wIx) [(eOp (o2 wIx) [(eV 3),(eV 6)]),(eC (.int 1))]),(eOp (o2 wIx) [(eOp (o2 wIx) [(eV 3),(eV 8)]),(eC (.int 1))])])])]))
  (Aa (Hz (eC (.int 0)) (eOp (o2 wIx) [(eV 3),(eV 6)]) (eC (.int 1)))
  (Hz (eC (.int 0)) (eOp (o2 wIx) [(eV 3),(eV 8)]) (eC (.int 1)))))))
def RQ:Ex:=(Aa (BP 9 (eOp (o2 Ic) [(eC (.int 1)),(eOp (o2 wIx) [(eOp (o2 wIx) [(eV 3),(eV 6)]),(eC (.int 0))])]))
  (Aa (BP 10 (eOp (o2 Bi) [(eC (.int 1)),(AL AG [(eV 0),(eOp (o2 wIx) [(eOp (o2 wIx) [(eV 3),(eV 6)]),(eC (.int 1))])])]))
  (Aa (Bx (Fp F1 (eV 2) [(BN [(eC (.str "swap")),(eV 6),(eV 10),(eV 9),(eOp (o2 Bi) [(eC (.int 2)),(AL AG [(eV 0),(eC (.int 5))])])])]))
  (Aa (Hz (eOp (o2 Ic) [(eOp (o2 wIx) [(eOp (o2 wIx) [(eV 3),(eV 6)]),(eC (.int 1))]),(eV 10)]) (eOp (o2 wIx) [(eV 3),(eV 6)]) (eC (.int 1)))
  (Bx (Fp F1 (eV 3) [(Cz [(eV 9),(eOp (o2 wIx) [(eOp (o2 wIx) [(eV 2),(eOp (o1 GZ) [(eC (.int 1))])]),(eC (.int 4))])])]))))))
def XS:Ex:=(Aa (BP 5 (Ci [] 2 (Rf (eV 3)) (tTp [(tNm 0),(tNm 1)]) (eOp (o2 wGt) [(eOp (o2 wIx) [(eV 1),(eC (.int 1))]),(eC (.int 0))]) (eV 0)))
  (Aa (BP 6 (eOp (o2 wIx) [(eV 5),(AL AG [(eV 0),(eOp (o1 DK) [(eV 5)])])]))
  (Aa (BP 7 (Ci [3,6] 1 (GY (eV 5)) (tNm 2) (Fc (eOp (o2 wNe) [(eV 2),(eV 1)]) (eOp (o2 wEq) [(eOp (o2 wIx) [(eOp (o2 wIx) [(eV 0),(eV 2)]),(eC (.int 0))]),(eOp (o2 wIx) [(eOp (o2 wIx) [(eV 0),(eV 1)]),(eC (.int 0))])])) (eV 2)))
  (xIf (Fc (eOp (o2 wNe) [(eV 7),(C1 [])]) (eOp (o2 wEq) [(AL AG [(eV 0),(eC (.int 2))]),(eC (.int 0))])) R7 RQ))))
noncomputable def b1P:Ae:=.bring 0 0 9
noncomputable def b2P:Ae:=.bring 1 0 9
noncomputable def Uu:Stt:=runs tP (st0 tP []) [b1P,b2P]
structure Ny(k:Nat)(st:Stt)(rest:List Ae):Prop where
 run:st=runs tP Uu rest
 good:Ij tP Uu rest
 inv:Ek tP k st
 len:rest.length=k
 full:∃i,i<st.loads.length/\0<nA st i
 most:∀i,i<st.loads.length->nA st i≤9*2^k
theorem trP:J5 tP:=by
 unfold J5 tP
 simp
section
variable{S:Sto}{p qd qs k l o:Nat}{as:List Nat}{st:Stt}{rest:List Ae}{a1 a4 a5 a7 o8 o9 o10:Option D}
theorem cD{k:Nat}(h:k≤16):(9:Int)*2^k≤589824:=by
 have:(2:Int)^k≤2^16:=F0 h
 have e:(2:Int)^16=65536:=by decide
 omega
theorem Ny.pool(h:Ny k st rest)(hk:k<16)(hc:Can tP st (.pool l o)):Ny (k+1) (step tP st (.pool l o)) (rest++[.pool l o]):=by
 obtain⟨h1,h2,h3,h4,h5,h6⟩:=id hc
 refine⟨by rw[h.run,HN],GO h.good (by rw[←h.run];exact hc),Iz trP h.inv (by omega) hc,by simp[h.len],⟨st.loads.length,by rw[Lr];omega,?_⟩,fun i hi=>?_⟩
 ·rw[JE.2]
  have h4:0<nA st l:=h4
  have h5:0<nA st o:=h5
  omega
 ·rw [Lr] at hi
  have e2:(9:Int)*2^(k+1)=9*2^k+9*2^k:=by rw[Int.pow_succ];omega
  by_cases hn:i<st.loads.length
  ·rw[(Qk h1 h2 h3 hn).2]
   have:=h.most i hn
   have:=h.most l h2
   have h4:0<nA st l:=h4
   split
   ·omega
   ·split
    ·omega
    ·omega
  ·have:i=st.loads.length:=by omega
   subst this
   rw[JE.2]
   have:=h.most l h2
   have:=h.most o h3
   omega
theorem Ny.swap{g n:Int}{kd:Nat}(h:Ny k st rest)(hk:k<16)(hc:Can tP st (.swap l g kd n))(hn:n≤6):Ny (k+1) (step tP st (.swap l g kd n)) (rest++[.swap l g kd n]):=by
 obtain⟨h1,h2,h3,h4,h5,h6,h7⟩:=id hc
 have h3:g≤nA st l:=h3
 refine⟨by rw[h.run,HN],GO h.good (by rw[←h.run];exact hc),Iz trP h.inv (by omega) hc,by simp[h.len],⟨st.loads.length,by rw[Lq];omega,by rw[LV.2];omega⟩,fun i hi=>?_⟩
 rw[Lq]at hi
 have e2:(9:Int)*2^(k+1)=9*2^k+9*2^k:=by rw[Int.pow_succ];omega
 have p0:(1:Int)≤2^k:=by
  have:(2:Int)^0≤2^k:=F0 (Nat.zero_le _)
  simpa using this
 by_cases hi':i<st.loads.length
 ·rw[(Q4 h1 hi').2]
  have:=h.most i hi'
  have:=h.most l h1
  split<;>omega
 ·have:i=st.loads.length:=by omega
  subst this
  rw[LV.2]
  omega
theorem OK(h:PAt S p qd qs as st (b1P::b2P::rest))(hi:Ny k st rest)(hk:k<16)(hl:l<st.loads.length)(hp:0<nA st l):∃d as' u9 u10 S',RQ [some (.ref p),a1,some (.ref qd),some (.ref qs),a4,a5,some (.int l),a7,o8,o9,o10] S=some (.nx,[some (.ref p),a1,some (.ref qd),some (.ref qs),a4,a5,some (.int l),a7,o8,u9,u10],S')/\PAt S' p qd qs as' (step tP st d) (b1P::b2P::(rest++[d]))/\Ny (k+1) (step tP st d) (rest++[d]):=by
 obtain⟨a,x1,x2,x3,x4⟩:=h.get hl
 have hm:=hi.most l hl
 have hpw:=cD (k:=k) (by omega)
 have kl:kA st l<2:=hi.inv.kind _ (BZ hl)
 obtain⟨r,S1,e1,r0,r1,p1⟩:=Ab h.pen (n:=nA st l) hp (by omega)
 have h1:=h.draw p1
 obtain⟨r5,S2,e2,r50,r51,p2⟩:=Ab h1.pen (n:=5) (by decide) (by decide)
 have h2:=h1.draw p2
 have ek:(1:Int)-(kA st l:Int)=((1-kA st l:Nat):Int):=by omega
 have can:Can tP st (.swap l (1+r) (1-kA st l) (2+r5)):=⟨hl,by omega,show 1+r≤nA st l by omega,show 1-kA st l<2 by omega,show 1-kA st l≠kA st l by omega,by omega,Int.lt_of_le_of_lt (show 2+r5≤6 by omega) (by decide)⟩
 have hi':=hi.swap hk can (by omega)
 have h3:=h2.deed (.swap l (1+r) (1-kA st l) (2+r5))
 have h4:=h3.put (st':=⟨less st.loads l (1+r),st.hold,st.nums⟩) (i:=l) (a:=a) (n:=nA st l-(1+r)) x1 (by simp[BJ]) (fun j hj=>by
  unfold kA nA
  show(AQ (less st.loads l (1+r)) j).k=_/\(AQ (less st.loads l (1+r)) j).n=_
  unfold less
  rw[FG hl]
  by_cases z:j=l
  ·subst z;simp
  ·simp[z])
 have h5:=h4.new (st':=step tP st (.swap l (1+r) (1-kA st l) (2+r5))) (k:=1-kA st l) (n:=2+r5) (by rw[Lq];simp[BJ]) (fun j hj=>by
  have hj':j<st.loads.length:=by simpa[BJ]using hj
  have w:=Q4 (t:=tP) (g:=1+r) (k:=1-kA st l) (n:=2+r5) hl hj'
  rw[w.1,w.2]
  unfold kA nA
  show _=(AQ (less st.loads l (1+r)) j).k/\_=(AQ (less st.loads l (1+r)) j).n
  unfold less
  rw[FG hl]
  by_cases z:j=l
  ·subst z;simp
  ·simp[z]) (by
  show kA _ (less st.loads l (1+r)).length=_/\nA _ (less st.loads l (1+r)).length=_
  rw[BJ]
  exact LV)
 obtain⟨a',y1,y2,y3,y4⟩:=h3.get hl
 have ea:a'=a:=by rw[x1]at y1;cases y1;rfl
 subst ea
 obtain⟨a'',w1,w2,w3,w4⟩:=h1.get hl
 have ea:a''=a':=by rw[x1]at w1;cases w1;rfl
 subst ea
 refine⟨_,_,some (.int ((1-kA st l:Nat):Int)),some (.int (1+r)),_,?_,h5,hi'⟩
 have hz:((b1P::b2P::rest).map Ae.d).length<sizeLine:=Nat.lt_of_lt_of_le (show _<50 by simp[hi.len];omega) (AO (by decide))
 have hz2:(as.map D.ref).length<sizeLine:=Nat.lt_of_lt_of_le (show _<50 by
  have:=hi.inv.len
  rw[List.length_map,h.len];omega) (AO (by decide))
 have sz:(2:Nat)≤sizeLine:=AO (by decide)
 have dsw:(Ae.swap l (1+r) (1-kA st l) (2+r5)).d=.tup [.str "swap",.int l,.int (1+r),.int ((1-kA st l:Nat):Int),.int (2+r5)]:=rfl
 have lst:atI ((b1P::b2P::rest++[Ae.swap l (1+r) (1-kA st l) (2+r5)]).map Ae.d) (-1)=some (Ae.swap l (1+r) (1-kA st l) (2+r5)).d:=QL (k:=rest.length+2) (by simp) (by
  rw[List.getElem?_map]
  have:(b1P::b2P::rest++[Ae.swap l (1+r) (1-kA st l) (2+r5)])[rest.length+2]?=some (Ae.swap l (1+r) (1-kA st l) (2+r5)):=by simp
  rw[this];rfl)
 have s1:BP 9 (eOp (o2 Ic) [(eC (.int 1)),(eOp (o2 wIx) [(eOp (o2 wIx) [(eV 3),(eV 6)]),(eC (.int 0))])]) [some (.ref p),a1,some (.ref qd),some (.ref qs),a4,a5,some (.int l),a7,o8,o9,o10] S=some (.nx,[some (.ref p),a1,some (.ref qd),some (.ref qs),a4,a5,some (.int l),a7,o8,some (.int ((1-kA st l:Nat):Int)),o10],S):=by
  have dq:=Aj h.ss
  rw[←ek]
  generalize as.map D.ref=AR at*
  simp[dq,x2,x3]
 have s2:BP 10 (eOp (o2 Bi) [(eC (.int 1)),(AL AG [(eV 0),(eOp (o2 wIx) [(eOp (o2 wIx) [(eV 3),(eV 6)]),(eC (.int 1))])])]) [some (.ref p),a1,some (.ref qd),some (.ref qs),a4,a5,some (.int l),a7,o8,some (.int ((1-kA st l:Nat):Int)),o10] S=some (.nx,[some (.ref p),a1,some (.ref qd),some (.ref qs),a4,a5,some (.int l),a7,o8,some (.int ((1-kA st l:Nat):Int)),some (.int (1+r))],S1):=by
  have dq:=Aj h.ss
  generalize as.map D.ref=AR at*
  generalize ((1-kA st l:Nat):Int)=KK at*
  generalize nA st l=NL at*
  simp[dq,x2,x3,e1]
 have s3:Bx (Fp F1 (eV 2) [(BN [(eC (.str "swap")),(eV 6),(eV 10),(eV 9),(eOp (o2 Bi) [(eC (.int 2)),(AL AG [(eV 0),(eC (.int 5))])])])]) [some (.ref p),a1,some (.ref qd),some (.ref qs),a4,a5,some (.int l),a7,o8,some (.int ((1-kA st l:Nat):Int)),some (.int (1+r))] S1=some (.nx,[some (.ref p),a1,some (.ref qd),some (.ref qs),a4,a5,some (.int l),a7,o8,some (.int ((1-kA st l:Nat):Int)),some (.int (1+r))],S2.set qd (.lst ((b1P::b2P::rest).map Ae.d++[(Ae.swap l (1+r) (1-kA st l) (2+r5)).d]))):=by
  have c0:=AS h1.dd
  have c2:=AS h2.dd
  rw[dsw]
  generalize (b1P::b2P::rest).map Ae.d=DD at*
  generalize ((1-kA st l:Nat):Int)=KK at*
  simp[c0,e2,c2,hz]
 generalize hT3:S2.set qd (.lst ((b1P::b2P::rest).map Ae.d++[(Ae.swap l (1+r) (1-kA st l) (2+r5)).d]))=T3 at*
 have s4:Hz (eOp (o2 Ic) [(eOp (o2 wIx) [(eOp (o2 wIx) [(eV 3),(eV 6)]),(eC (.int 1))]),(eV 10)]) (eOp (o2 wIx) [(eV 3),(eV 6)]) (eC (.int 1)) [some (.ref p),a1,some (.ref qd),some (.ref qs),a4,a5,some (.int l),a7,o8,some (.int ((1-kA st l:Nat):Int)),some (.int (1+r))] T3=some (.nx,[some (.ref p),a1,some (.ref qd),some (.ref qs),a4,a5,some (.int l),a7,o8,some (.int ((1-kA st l:Nat):Int)),some (.int (1+r))],T3.set a'' (.lst [.int (kA st l),.int (nA st l-(1+r))])):=by
  have dq:=Aj h3.ss
  generalize as.map D.ref=AR at*
  generalize ((1-kA st l:Nat):Int)=KK at*
  generalize nA st l=NL at*
  simp[dq,y2,y3,y4]
 generalize hT4:T3.set a'' (.lst [.int (kA st l),.int (nA st l-(1+r))])=T4 at*
 have s5:Bx (Fp F1 (eV 3) [(Cz [(eV 9),(eOp (o2 wIx) [(eOp (o2 wIx) [(eV 2),(eOp (o1 GZ) [(eC (.int 1))])]),(eC (.int 4))])])]) [some (.ref p),a1,some (.ref qd),some (.ref qs),a4,a5,some (.int l),a7,o8,some (.int ((1-kA st l:Nat):Int)),some (.int (1+r))] T4=some (.nx,[some (.ref p),a1,some (.ref qd),some (.ref qs),a4,a5,some (.int l),a7,o8,some (.int ((1-kA st l:Nat):Int)),some (.int (1+r))],(T4++[Cl.lst [.int ((1-kA st l:Nat):Int),.int (2+r5)]]).set qs (.lst (as.map D.ref++[.ref T4.length]))):=by
  have d4:=Aj h4.dd
  have c4:=AS h4.ss
  have c5:DJ (T4++[Cl.lst [.int ((1-kA st l:Nat):Int),.int (2+r5)]]) qs=some (as.map D.ref):=AS (by rw[List.getElem?_append_left (Ad h4.ss)];exact h4.ss)
  have n1:GZ (.val (.int 1))=some (.val (.int (-1))):=rfl
  rw[dsw]at lst
  change dr T4 (.ref qd)=.own ((b1P::b2P::rest++[Ae.swap l (1+r) (1-kA st l) (2+r5)]).map Ae.d)at d4
  generalize (b1P::b2P::rest++[Ae.swap l (1+r) (1-kA st l) (2+r5)]).map Ae.d=DD at*
  generalize as.map D.ref=AR at*
  generalize ((1-kA st l:Nat):Int)=KK at*
  simp[c4,d4,n1,lst,sz,c5,hz2]
 unfold RQ
 rw[BC,s1,A4,BO,BC,s2,A4,BO,BC,s3,A4,BO,BC,s4,A4,BO,s5]
end
section
variable{S:Sto}{p qd qs k l:Nat}{as:List Nat}{st:Stt}{rest:List Ae}{a1 a4 a5 a7 o8 o9 o10:Option D}
theorem RG{is:List Nat}{k:Nat}(h:k<is.length):atI (AH is) (k:Int)=some (.int (is[k]:Nat)):=CB (by unfold AH;rw[List.getElem?_map,List.getElem?_eq_getElem h];rfl)
theorem Sm(h:PAt S p qd qs as st (b1P::b2P::rest))(hi:Ny k st rest)(hk:k<16)(hl:l<st.loads.length)(hp:0<nA st l)(hs:B7 st l≠[]):∃d as' u8 S',R7 [some (.ref p),a1,some (.ref qd),some (.ref qs),a4,a5,some (.int l),some (.lst (AH (B7 st l))),o8,o9,o10] S=some (.nx,[some (.ref p),a1,some (.ref qd),some (.ref qs),a4,a5,some (.int l),some (.lst (AH (B7 st l))),u8,o9,o10],S')/\PAt S' p qd qs as' (step tP st d) (b1P::b2P::(rest++[d]))/\Ny (k+1) (step tP st d) (rest++[d]):=by
 have hlen:=hi.inv.len
 have sl:(B7 st l).length≤50:=Nat.le_trans (List.length_filter_le _ _) (Nat.le_trans (List.length_filter_le _ _) (by simp;omega))
 have sp:0<(B7 st l).length:=List.length_pos_iff.mpr hs
 obtain⟨r,S1,e1,r0,r1,p1⟩:=Ab h.pen (n:=((B7 st l).length:Int)) (by omega) (by omega)
 obtain⟨r,rfl⟩:=Dm r0
 have hr:r<(B7 st l).length:=by omega
 have ar:=RG hr
 have hm:(B7 st l)[r]∈B7 st l:=List.getElem_mem hr
 generalize (B7 st l)[r]=o at*
 have hm1:=List.mem_filter.mp hm
 have hm2:=List.mem_filter.mp hm1.1
 have ho:o<st.loads.length:=List.mem_range.mp hm2.1
 have hpo:0<nA st o:=by simpa using hm2.2
 have hne:l≠o:=by
  have:=hm1.2
  rw[Bool.and_eq_true]at this
  intro z
  subst z
  simp at this
 have hkk:kA st l=kA st o:=by
  have:=hm1.2
  rw[Bool.and_eq_true]at this
  have:=this.2
  simp at this
  exact this.symm
 have can:Can tP st (.pool l o):=⟨hne,hl,ho,hp,hpo,hkk⟩
 have hi':=hi.pool hk can
 have h1:=h.draw p1
 have h2:=h1.deed (.pool l o)
 obtain⟨a,x1,x2,x3,x4⟩:=h2.get hl
 obtain⟨b,y1,y2,y3,y4⟩:=h2.get ho
 have h3:=h2.new (st':=⟨st.loads++[⟨kA st l,nA st l+nA st o,[]⟩],st.hold,st.nums⟩) (k:=kA st l) (n:=nA st l+nA st o) (by simp) (fun j hj=>by
  unfold kA nA
  show(AQ (st.loads++[_]) j).k=_/\(AQ (st.loads++[_]) j).n=_
  rw[LN hj]
  exact⟨rfl,rfl⟩) (by
  show(AQ (st.loads++[_]) st.loads.length).k=_/\(AQ (st.loads++[_]) st.loads.length).n=_
  rw[MC]
  exact⟨rfl,rfl⟩)
 have la:l<as.length:=by rw[h.len];exact hl
 have lo:o<as.length:=by rw[h.len];exact ho
 generalize hS2:S1.set qd (.lst ((b1P::b2P::rest).map Ae.d++[(Ae.pool l o).d]))=S2 at*
 have x1':(as++[S2.length])[l]?=some a:=by rw[List.getElem?_append_left la];exact x1
 have y1':(as++[S2.length])[o]?=some b:=by rw[List.getElem?_append_left lo];exact y1
 have k3:∀j,j<st.loads.length->kA ⟨st.loads++[⟨kA st l,nA st l+nA st o,[]⟩],st.hold,st.nums⟩ j=kA st j/\nA ⟨st.loads++[⟨kA st l,nA st l+nA st o,[]⟩],st.hold,st.nums⟩ j=nA st j:=fun j hj=>by
  show(AQ (st.loads++[_]) j).k=_/\(AQ (st.loads++[_]) j).n=_
  rw[LN hj]
  exact⟨rfl,rfl⟩
 have k3n:kA ⟨st.loads++[⟨kA st l,nA st l+nA st o,[]⟩],st.hold,st.nums⟩ st.loads.length=kA st l/\nA ⟨st.loads++[⟨kA st l,nA st l+nA st o,[]⟩],st.hold,st.nums⟩ st.loads.length=nA st l+nA st o:=by
  show(AQ (st.loads++[_]) st.loads.length).k=_/\(AQ (st.loads++[_]) st.loads.length).n=_
  rw[MC]
  exact⟨rfl,rfl⟩
 generalize hst3:(⟨st.loads++[⟨kA st l,nA st l+nA st o,[]⟩],st.hold,st.nums⟩:Stt)=st3 at*
 have l3:st3.loads.length=st.loads.length+1:=by rw[←hst3];simp
 have kl4:∀j,j<st3.loads.length->AQ (st3.loads.set l ⟨kA st l,0,[]⟩) j=if j=l then⟨kA st l,0,[]⟩else AQ st3.loads j:=fun j hj=>FG (by omega)
 have h4:=h3.put (st':=⟨st3.loads.set l ⟨kA st l,0,[]⟩,st.hold,st.nums⟩) (i:=l) (a:=a) (n:=0) x1' (by simp) (fun j hj=>by
  unfold kA nA
  show(AQ (st3.loads.set l ⟨kA st l,0,[]⟩) j).k=(AQ st3.loads j).k/\(AQ (st3.loads.set l ⟨kA st l,0,[]⟩) j).n=_
  rw[kl4 j hj]
  by_cases z:j=l
  ·subst z
   rw[if_pos rfl,if_pos rfl]
   exact⟨((k3 j hl).1).symm,rfl⟩
  ·rw[if_neg z,if_neg z]
   exact⟨rfl,rfl⟩)
 have k4:∀j,j<st3.loads.length->kA ⟨st3.loads.set l ⟨kA st l,0,[]⟩,st.hold,st.nums⟩ j=kA st3 j/\nA ⟨st3.loads.set l ⟨kA st l,0,[]⟩,st.hold,st.nums⟩ j=if j=l then 0 else nA st3 j:=fun j hj=>by
  show(AQ (st3.loads.set l ⟨kA st l,0,[]⟩) j).k=(AQ st3.loads j).k/\(AQ (st3.loads.set l ⟨kA st l,0,[]⟩) j).n=_
  rw[kl4 j hj]
  by_cases z:j=l
  ·subst z
   rw[if_pos rfl,if_pos rfl]
   exact⟨((k3 j hl).1).symm,rfl⟩
  ·rw[if_neg z,if_neg z]
   exact⟨rfl,rfl⟩
 have l4:(⟨st3.loads.set l ⟨kA st l,0,[]⟩,st.hold,st.nums⟩:Stt).loads.length=st.loads.length+1:=by simp[l3]
 generalize hst4:(⟨st3.loads.set l ⟨kA st l,0,[]⟩,st.hold,st.nums⟩:Stt)=st4 at*
 have h5:=h4.put (st':=step tP st (.pool l o)) (i:=o) (a:=b) (n:=0) y1' (by rw[Lr];omega) (fun j hj=>by
  rw[l4]at hj
  by_cases hj':j<st.loads.length
  ·have w:=Qk (t:=tP) hne hl ho hj'
   rw[w.1,w.2,(k4 j (by omega)).1,(k4 j (by omega)).2,(k3 j hj').1,(k3 j hj').2]
   exact⟨rfl,rfl⟩
  ·have:j=st.loads.length:=by omega
   subst this
   rw[JE.1,JE.2,(k4 _ (by omega)).1,(k4 _ (by omega)).2,k3n.1,k3n.2,if_neg (by omega),if_neg (by omega)]
   exact⟨rfl,rfl⟩)
 have ko:kA st3 l=kA st l:=(k3 l hl).1
 have ko4:kA st4 o=kA st o:=by rw[(k4 o (by omega)).1,(k3 o ho).1]
 rw[ko]at h4 h5
 rw[ko4]at h5
 refine⟨_,_,some (.int o),_,?_,h5,hi'⟩
 have hz:((b1P::b2P::rest).map Ae.d).length<sizeLine:=Nat.lt_of_lt_of_le (show _<50 by simp[hi.len];omega) (AO (by decide))
 have hz2:(as.map D.ref).length<sizeLine:=Nat.lt_of_lt_of_le (show _<50 by rw[List.length_map,h.len];omega) (AO (by decide))
 have sz:(2:Nat)≤sizeLine:=AO (by decide)
 have dpo:(Ae.pool l o).d=.tup [.str "pool",.int l,.int o]:=rfl
 have s1:BP 8 (eOp (o2 wIx) [(eV 7),(AL AG [(eV 0),(eOp (o1 DK) [(eV 7)])])]) [some (.ref p),a1,some (.ref qd),some (.ref qs),a4,a5,some (.int l),some (.lst (AH (B7 st l))),o8,o9,o10] S=some (.nx,[some (.ref p),a1,some (.ref qd),some (.ref qs),a4,a5,some (.int l),some (.lst (AH (B7 st l))),some (.int o),o9,o10],S1):=by
  have wl:DK (.val (.lst (AH (B7 st l))))=some (.val (.int (B7 st l).length)):=by
   show some (Wv.val (.int ((AH (B7 st l)).length:Int)))=_
   simp[AH]
  generalize AH (B7 st l)=NS at*
  generalize ((B7 st l).length:Int)=NL at*
  simp[-FQ,wl,e1,ar]
 have s2:Bx (Fp F1 (eV 2) [(BN [(eC (.str "pool")),(eV 6),(eV 8)])]) [some (.ref p),a1,some (.ref qd),some (.ref qs),a4,a5,some (.int l),some (.lst (AH (B7 st l))),some (.int o),o9,o10] S1=some (.nx,[some (.ref p),a1,some (.ref qd),some (.ref qs),a4,a5,some (.int l),some (.lst (AH (B7 st l))),some (.int o),o9,o10],S2):=by
  have c0:=AS h1.dd
  rw[←hS2,dpo]
  generalize (b1P::b2P::rest).map Ae.d=DD at*
  simp[c0,hz]
 have s3:Bx (Fp F1 (eV 3) [(Cz [(eOp (o2 wIx) [(eOp (o2 wIx) [(eV 3),(eV 6)]),(eC (.int 0))]),(eOp (o2 Bi) [(eOp (o2 wIx) [(eOp (o2 wIx) [(eV 3),(eV 6)]),(eC (.int 1))]),(eOp (o2 wIx) [(eOp (o2 wIx) [(eV 3),(eV 8)]),(eC (.int 1))])])])]) [some (.ref p),a1,some (.ref qd),some (.ref qs),a4,a5,some (.int l),some (.lst (AH (B7 st l))),some (.int o),o9,o10] S2=some (.nx,[some (.ref p),a1,some (.ref qd),some (.ref qs),a4,a5,some (.int l),some (.lst (AH (B7 st l))),some (.int o),o9,o10],(S2++[Cl.lst [.int (kA st l),.int (nA st l+nA st o)]]).set qs (.lst (as.map D.ref++[.ref S2.length]))):=by
  have dq:=Aj h2.ss
  have c4:=AS h2.ss
  have c5:DJ (S2++[Cl.lst [.int (kA st l),.int (nA st l+nA st o)]]) qs=some (as.map D.ref):=AS (by rw[List.getElem?_append_left (Ad h2.ss)];exact h2.ss)
  generalize as.map D.ref=AR at*
  simp[c4,dq,x2,x3,y2,y3,sz,c5,hz2]
 obtain⟨a',xx1,xx2,_,xx4⟩:=h3.get (i:=l) (by omega)
 have ea:a'=a:=by rw[x1']at xx1;cases xx1;rfl
 subst ea
 rw[(k3 l hl).1,(k3 l hl).2]at xx4
 generalize hS3:(S2++[Cl.lst [.int (kA st l),.int (nA st l+nA st o)]]).set qs (.lst (as.map D.ref++[.ref S2.length]))=S3 at*
 have s4:Hz (eC (.int 0)) (eOp (o2 wIx) [(eV 3),(eV 6)]) (eC (.int 1)) [some (.ref p),a1,some (.ref qd),some (.ref qs),a4,a5,some (.int l),some (.lst (AH (B7 st l))),some (.int o),o9,o10] S3=some (.nx,[some (.ref p),a1,some (.ref qd),some (.ref qs),a4,a5,some (.int l),some (.lst (AH (B7 st l))),some (.int o),o9,o10],S3.set a' (.lst [.int (kA st l),.int 0])):=by
  have dq:=Aj h3.ss
  generalize (as++[S2.length]).map D.ref=AR at*
  simp[dq,xx2,xx4]
 obtain⟨b',yy1,yy2,_,yy4⟩:=h4.get (i:=o) (by omega)
 have eb:b'=b:=by rw[y1']at yy1;cases yy1;rfl
 subst eb
 rw[(k4 o (by omega)).1,(k4 o (by omega)).2,if_neg (Ne.symm hne),(k3 o ho).1,(k3 o ho).2]at yy4
 generalize hS4:S3.set a' (.lst [.int (kA st l),.int 0])=S4 at*
 have s5:Hz (eC (.int 0)) (eOp (o2 wIx) [(eV 3),(eV 8)]) (eC (.int 1)) [some (.ref p),a1,some (.ref qd),some (.ref qs),a4,a5,some (.int l),some (.lst (AH (B7 st l))),some (.int o),o9,o10] S4=some (.nx,[some (.ref p),a1,some (.ref qd),some (.ref qs),a4,a5,some (.int l),some (.lst (AH (B7 st l))),some (.int o),o9,o10],S4.set b' (.lst [.int (kA st o),.int 0])):=by
  have dq:=Aj h4.ss
  generalize (as++[S2.length]).map D.ref=AR at*
  simp[dq,yy2,yy4]
 unfold R7
 rw[BC,s1,A4,BO,BC,s2,A4,BO,BC,s3,A4,BO,BC,s4,A4,BO,s5]
theorem V5{b5 b6 b7:Option D}(h:PAt S p qd qs as st (b1P::b2P::rest))(hi:Ny k st rest)(hk:k<16):∃d as' u5 u6 u7 u8 u9 u10 S',XS [some (.ref p),a1,some (.ref qd),some (.ref qs),a4,b5,b6,b7,o8,o9,o10] S=some (.nx,[some (.ref p),a1,some (.ref qd),some (.ref qs),a4,u5,u6,u7,u8,u9,u10],S')/\PAt S' p qd qs as' (step tP st d) (b1P::b2P::(rest++[d]))/\Ny (k+1) (step tP st d) (rest++[d]):=by
 have hlen:=hi.inv.len
 have f1:=Sx h (by omega)
 have fl:(CQ st).length≤50:=Nat.le_trans (List.length_filter_le _ _) (by simp;omega)
 have fp:0<(CQ st).length:=by
  obtain⟨i,h1,h2⟩:=hi.full
  exact List.length_pos_of_mem (List.mem_filter.mpr ⟨List.mem_range.mpr h1,by simpa using h2⟩)
 obtain⟨r,S1,e1,r0,r1,p1⟩:=Ab h.pen (n:=((CQ st).length:Int)) (by omega) (by omega)
 obtain⟨r,rfl⟩:=Dm r0
 have hr:r<(CQ st).length:=by omega
 have ar:=RG hr
 have hm:(CQ st)[r]∈CQ st:=List.getElem_mem hr
 generalize (CQ st)[r]=l at*
 have hm2:=List.mem_filter.mp hm
 have hl:l<st.loads.length:=List.mem_range.mp hm2.1
 have hp:0<nA st l:=by simpa using hm2.2
 have h1:=h.draw p1
 have f2:=R4 h1 (by omega) hl
 have s1:BP 5 (Ci [] 2 (Rf (eV 3)) (tTp [(tNm 0),(tNm 1)]) (eOp (o2 wGt) [(eOp (o2 wIx) [(eV 1),(eC (.int 1))]),(eC (.int 0))]) (eV 0)) [some (.ref p),a1,some (.ref qd),some (.ref qs),a4,b5,b6,b7,o8,o9,o10] S=some (.nx,[some (.ref p),a1,some (.ref qd),some (.ref qs),a4,some (.lst (AH (CQ st))),b6,b7,o8,o9,o10],S):=by
  have sq:=FO h.ss
  generalize as.map D.ref=AR at*
  simp[sq,Na,f1]
 have s2:BP 6 (eOp (o2 wIx) [(eV 5),(AL AG [(eV 0),(eOp (o1 DK) [(eV 5)])])]) [some (.ref p),a1,some (.ref qd),some (.ref qs),a4,some (.lst (AH (CQ st))),b6,b7,o8,o9,o10] S=some (.nx,[some (.ref p),a1,some (.ref qd),some (.ref qs),a4,some (.lst (AH (CQ st))),some (.int l),b7,o8,o9,o10],S1):=by
  have wl:DK (.val (.lst (AH (CQ st))))=some (.val (.int (CQ st).length)):=by
   show some (Wv.val (.int ((AH (CQ st)).length:Int)))=_
   simp[AH]
  generalize AH (CQ st)=NS at*
  generalize ((CQ st).length:Int)=NL at*
  simp[-FQ,wl,e1,ar]
 have s3:BP 7 (Ci [3,6] 1 (GY (eV 5)) (tNm 2) (Fc (eOp (o2 wNe) [(eV 2),(eV 1)]) (eOp (o2 wEq) [(eOp (o2 wIx) [(eOp (o2 wIx) [(eV 0),(eV 2)]),(eC (.int 0))]),(eOp (o2 wIx) [(eOp (o2 wIx) [(eV 0),(eV 1)]),(eC (.int 0))])])) (eV 2)) [some (.ref p),a1,some (.ref qd),some (.ref qs),a4,some (.lst (AH (CQ st))),some (.int l),b7,o8,o9,o10] S1=some (.nx,[some (.ref p),a1,some (.ref qd),some (.ref qs),a4,some (.lst (AH (CQ st))),some (.int l),some (.lst (AH (B7 st l))),o8,o9,o10],S1):=by
  have sq:sqD S1 (.lst (AH (CQ st)))=some (AH (CQ st),[]):=nr rfl
  generalize AH (CQ st)=NF at*
  generalize AH (B7 st l)=NS at*
  simp[sq,Na,f2]
 have n1:=Nq (r:=B7 st l)
 by_cases hs:B7 st l=[]
 ·obtain⟨d,as',u9,u10,S',e,g1,g2⟩:=OK (a1:=a1) (a4:=a4) (a5:=some (.lst (AH (CQ st)))) (a7:=some (.lst (AH (B7 st l)))) (o8:=o8) (o9:=o9) (o10:=o10) h1 hi hk hl hp
  refine⟨d,as',some (.lst (AH (CQ st))),some (.int l),some (.lst (AH (B7 st l))),o8,u9,u10,S',?_,g1,g2⟩
  have ne:(!(B7 st l).isEmpty)=false:=by rw[hs];rfl
  rw[ne]at n1
  unfold XS
  rw[BC,s1,A4,BO,BC,s2,A4,BO,BC,s3,A4,BO,←e]
  generalize AH (CQ st)=NF at*
  generalize AH (B7 st l)=NS at*
  generalize RQ=SX at*
  simp[-Eb,n1]
 ·have ne:(!(B7 st l).isEmpty)=true:=by
   cases hz:B7 st l with
   |nil=>exact absurd hz hs
   |cons=>rfl
  rw[ne]at n1
  obtain⟨r2,S2,e2,r20,r21,p2⟩:=Ab h1.pen (n:=2) (by decide) (by decide)
  have h2:=h1.draw p2
  by_cases hz:r2=0
  ·subst hz
   obtain⟨d,as',u8,S',e,g1,g2⟩:=Sm (a1:=a1) (a4:=a4) (a5:=some (.lst (AH (CQ st)))) (o8:=o8) (o9:=o9) (o10:=o10) h2 hi hk hl hp hs
   refine⟨d,as',some (.lst (AH (CQ st))),some (.int l),some (.lst (AH (B7 st l))),u8,o9,o10,S',?_,g1,g2⟩
   unfold XS
   rw[BC,s1,A4,BO,BC,s2,A4,BO,BC,s3,A4,BO,←e]
   generalize AH (CQ st)=NF at*
   generalize AH (B7 st l)=NS at*
   generalize R7=PX at*
   simp[-Eb,n1,e2]
  ·obtain⟨d,as',u9,u10,S',e,g1,g2⟩:=OK (a1:=a1) (a4:=a4) (a5:=some (.lst (AH (CQ st)))) (a7:=some (.lst (AH (B7 st l)))) (o8:=o8) (o9:=o9) (o10:=o10) h2 hi hk hl hp
   refine⟨d,as',some (.lst (AH (CQ st))),some (.int l),some (.lst (AH (B7 st l))),o8,u9,u10,S',?_,g1,g2⟩
   have hz':(r2==0)=false:=by simpa using hz
   unfold XS
   rw[BC,s1,A4,BO,BC,s2,A4,BO,BC,s3,A4,BO,←e]
   generalize AH (CQ st)=NF at*
   generalize AH (B7 st l)=NS at*
   generalize RQ=SX at*
   simp[-Eb,n1,e2,hz']
end
theorem half:aD (1 / 2)=.tup [.int 1,.int 2]:=by
 have h1:((1 / 2:Rat)).num=1:=by decide+kernel
 have h2:((1 / 2:Rat)).den=2:=by decide+kernel
 unfold aD
 rw[h1,h2]
 rfl
theorem eI:tP.d=.tup [.int 2,.int 2,.int 1,.tup [.tup [.int 1,.int 2],.tup [.int 1,.int 2]],.int 0,.int 0]:=by
 unfold tP Tr.d shD
 rw[List.map_cons,List.map_cons,half]
 rfl
theorem Vu:Ok 2 2 (1 / 2):=⟨1,by decide+kernel,by decide⟩
theorem Xk:∀r∈tP.ho,Ok 2 2 r:=fun r hr=>by
 have:r=1 / 2:=by
  unfold tP at hr
  simp at hr
  rw[hr]
 rw[this];exact Vu
theorem YB:Ek tP 0 (st0 tP []):=Ek.of (G:=2) (B:=2) (by simp[st0]) (fun x hx=>by cases hx) rfl (by simp[st0]) (by decide) (by decide) (by decide) Xk
theorem Fw:Uu.loads=[⟨0,9,Pj 2 0⟩,⟨0,9,Pj 2 1⟩]:=rfl
theorem Pk{i:Nat}:∀r∈Pj 2 i,Ok 2 2 r:=fun r hr=>by
 obtain⟨j,_,rfl⟩:=List.mem_map.mp hr
 split
 ·exact Ok.one (by decide)
 ·exact Ok.zero
theorem ZF:Ek tP 0 Uu:=Ek.of (G:=2) (B:=2) (by rw[Fw];decide) (fun x hx=>by
 rw[Fw]at hx
 simp only[List.mem_cons,List.not_mem_nil,or_false]at hx
 rcases hx with rfl|rfl
 ·exact⟨by decide,by decide,by decide,rfl,Pk⟩
 ·exact⟨by decide,by decide,by decide,rfl,Pk⟩) rfl (by show([]:List Int).length≤0;decide) (by decide) (by decide) (by decide) Xk
theorem cZ{st:Stt}{q:Nat}(h:q<2):Can tP st (.bring q 0 9):=⟨h,by decide,by decide,by decide⟩
theorem af{k:Nat}{st:Stt}{rest:List Ae}(h:Ny k st rest)(hk:k≤16):Ej tP [] (b1P::b2P::rest):=by
  refine⟨by simp,fun i hi=>?_,⟨cZ (by decide),cZ (by decide),h.good⟩,by simp[h.len];omega⟩
  match i with
  |0=>exact⟨0,by decide,YB⟩
  |1=>exact⟨1,by decide,Iz trP YB (by decide) (cZ (q:=0) (by decide))⟩
  | i + 2 =>
    have hl:=h.len
    refine⟨(rest.take i).length,by simp;omega,?_⟩
    have e:runs tP (st0 tP []) ((b1P::b2P::rest).take (i+2))=runs tP Uu (rest.take i):=rfl
    rw[e]
    have:=Ip trP (ds:=rest.take i) ZF (Hr h.good) (by simp;omega)
    rwa [Nat.zero_add]at this
theorem bw:Ny 0 Uu []:=⟨rfl,trivial,ZF,rfl,⟨0,by rw[Fw];decide,by show(0:Int)<9;decide⟩,fun i hi=>by
 rw[Fw]at hi
 match i,hi with
 |0,_=>show(9:Int)≤_;decide
 |1,_=>show(9:Int)≤_;decide⟩
section
variable{S:Sto}{p:Nat}
theorem R9(hp:B2 p S):∃ds S',EE [.ref p] S=some (A3 tP [] ds,S')/\Ej tP [] ds/\B2 p S':=by
  have lp:=hp.lt
  have sz2:(2:Nat)≤sizeLine:=AO (by decide)
  have st1:PR (tTp [(tNm 2),(tNm 3)]) (BN [(Cz [(BN [(eC (.str "bring")),(eC (.int 0)),(eC (.int 0)),(eC (.int 9))]),(BN [(eC (.str "bring")),(eC (.int 1)),(eC (.int 0)),(eC (.int 9))])]),(Cz [(Cz [(eC (.int 0)),(eC (.int 9))]),(Cz [(eC (.int 0)),(eC (.int 9))])])]) [some (.ref p),some tP.d,none,none,none,none,none,none,none,none,none] S=some (.nx,[some (.ref p),some tP.d,some (.ref S.length),some (.ref (S.length+3)),none,none,none,none,none,none,none],S++[.lst ([b1P,b2P].map Ae.d),.lst [.int 0,.int 9],.lst [.int 0,.int 9],.lst ([S.length+1,S.length+2].map D.ref)]):=by
    generalize tP.d=TD at*
    simp[b1P,b2P,Ae.d,sz2]
  have h0:PAt (S++[.lst ([b1P,b2P].map Ae.d),.lst [.int 0,.int 9],.lst [.int 0,.int 9],.lst ([S.length+1,S.length+2].map D.ref)]) p S.length (S.length+3) [S.length+1,S.length+2] Uu (b1P::b2P:: []):=by
    refine⟨hp.app _,?_,?_,by rw[Fw];rfl,fun i a e=>?_,by simp,by simp;omega,by omega⟩
    ·rw[List.getElem?_append_right (Nat.le_refl _),Nat.sub_self];rfl
    ·rw[List.getElem?_append_right (by omega),show S.length+3-S.length=3 by omega];rfl
    · match i, e with
      | 0, e =>
        simp at e;subst e
        rw[List.getElem?_append_right (by omega),show S.length+1-S.length=1 by omega];rfl
      | 1, e =>
        simp at e;subst e
        rw[List.getElem?_append_right (by omega),show S.length+2-S.length=2 by omega];rfl
      |i+2,e=>simp at e
  generalize S++[.lst ([b1P,b2P].map Ae.d),.lst [.int 0,.int 9],.lst [.int 0,.int 9],.lst ([S.length+1,S.length+2].map D.ref)]=S0 at*
  obtain⟨r,S1,e1,r0,r1,p1⟩:=Ab h0.pen (n:=17) (by decide) (by decide)
  obtain⟨n,rfl⟩:=Dm r0
  have rk:G5 (n:Int)=true:=Dc (by omega) (by omega)
  generalize S.length=qd at*
  generalize hqs:qd+3=qs at*
  obtain⟨E',S',ef,k,st,rest,as,o4,o5,o6,o7,o8,o9,o10,f1,f2,f3,rfl⟩:=Eh (gs:=[]) (t:=tNm 4) (b:=XS)
    (I:=fun rs E S'=>∃(k:Nat) (st:Stt) (rest:List Ae) (as:List Nat) (o4 o5 o6 o7 o8 o9 o10:Option D),PAt S' p qd qs as st (b1P::b2P::rest)/\Ny k st rest/\k+rs.length≤16/\E=[some (.ref p),some tP.d,some (.ref qd),some (.ref qs),o4,o5,o6,o7,o8,o9,o10])
    (fun _ _ _ _=>Ao) (ds:=KH 0 n) (E:=[some (.ref p),some tP.d,some (.ref qd),some (.ref qs),none,none,none,none,none,none,none]) (S:=S1)
    ⟨0,Uu,[],_,none,none,none,none,none,none,none,h0.draw p1,bw,by rw[Dx];omega,rfl⟩ (by
      rintro dd rs E T ⟨k,st,rest,as,o4,o5,o6,o7,o8,o9,o10,i1,i2,i3,rfl⟩
      simp only[List.length_cons]at i3
      obtain⟨d,as',u5,u6,u7,u8,u9,u10,T',e,g1,g2⟩:=V5 (a1:=some tP.d) (a4:=some dd) (b5:=o5) (b6:=o6) (b7:=o7) (o8:=o8) (o9:=o9) (o10:=o10) i1 i2 (by omega)
      exact⟨_,_,T',by simp,e,k+1,_,_,as',some dd,u5,u6,u7,u8,u9,u10,g1,g2,by omega,rfl⟩)
  refine⟨b1P::b2P::rest,S',?_,af f2 (by simp at f3;omega),f1.pen⟩
  have eb:Gy=(Aa (BP 1 (BN [(eC (.int 2)),(eC (.int 2)),(eC (.int 1)),(BN [(BN [(eC (.int 1)),(eC (.int 2))]),(BN [(eC (.int 1)),(eC (.int 2))])]),(eC (.int 0)),(eC (.int 0))]))
    (Aa (PR (tTp [(tNm 2),(tNm 3)]) (BN [(Cz [(BN [(eC (.str "bring")),(eC (.int 0)),(eC (.int 0)),(eC (.int 9))]),(BN [(eC (.str "bring")),(eC (.int 1)),(eC (.int 0)),(eC (.int 9))])]),(Cz [(Cz [(eC (.int 0)),(eC (.int 9))]),(Cz [(eC (.int 0)),(eC (.int 9))])])]))
    (Aa (IM (ML [(AL AG [(eV 0),(eC (.int 17))])]) (tNm 4) XS)
    (BS (BN [(eV 1),(BN []),(eOp (o1 Du) [(eV 2)])]))))):=rfl
  have s0:BP 1 (BN [(eC (.int 2)),(eC (.int 2)),(eC (.int 1)),(BN [(BN [(eC (.int 1)),(eC (.int 2))]),(BN [(eC (.int 1)),(eC (.int 2))])]),(eC (.int 0)),(eC (.int 0))]) [some (.ref p),none,none,none,none,none,none,none,none,none,none] S=some (.nx,[some (.ref p),some tP.d,none,none,none,none,none,none,none,none,none],S):=by
    rw[eI]
    simp
  have d1:=Aj f1.dd
  have hbk:A3 tP [] (b1P::b2P::rest)=.tup [tP.d,.tup [],.tup ((b1P::b2P::rest).map Ae.d)]:=rfl
  rw[hbk]
  have body:Gy [some (.ref p),none,none,none,none,none,none,none,none,none,none] S=some (.ret (.tup [tP.d,.tup [],.tup ((b1P::b2P::rest).map Ae.d)]),[some (.ref p),some tP.d,some (.ref qd),some (.ref qs),o4,o5,o6,o7,o8,o9,o10],S'):=by
    rw[eb,BC,s0,A4,BO,BC,st1,A4,BO]
    generalize tP.d=TD at*
    generalize (b1P::b2P::rest).map Ae.d=DD at*
    simp[e1,rk,ef,d1]
  unfold EE
  simp[body]
end
theorem B2.same{p:Nat}{S S':Sto}(h:B2 p S)(g:C0 [] S S'):B2 p S':=by
 obtain⟨ds,e,hd⟩:=h
 exact⟨ds,g.get e (by simp),hd⟩
theorem RS{i:Nat}(h:i<1000):Tbb (.int i):=.int (Nat.lt_of_lt_of_le (show((i:Int)).natAbs<2^10 by rw[Int.natAbs_natCast];omega) (Nat.pow_le_pow_right (by decide) (by decide)))
theorem QD{is:List Nat}(h:∀i∈is,i<1000):∀d∈AH is,Tbb d:=fun d hd=>by
 obtain⟨i,hi,rfl⟩:=List.mem_map.mp hd
 exact RS (h i hi)
theorem Vv{is:List Nat}(h:∀i∈is,i<1000)(hl:is.length≤100):Sd 1 (.tup (AH is)):=.tup (fun d hd=>by
 obtain⟨i,hi,rfl⟩:=List.mem_map.mp hd
 have:=h i hi
 exact .int (Nat.lt_of_lt_of_le (show((i:Int)).natAbs<2^10 by rw[Int.natAbs_natCast];omega) (Nat.pow_le_pow_right (by decide) (by decide)))) (by simpa[AH]using hl)
section
variable{S:Sto}{t:Tr}{ls:List Ld}{ds:List Ae}{load q p:Nat}{a0 a1:Option D}
def XU:Ex:=(Aa (BP 10 (AL Ap [(eV 3),(eV 5),(eV 9)]))
  (xIf (eOr (Kw (eOp (o2 KG) [(eV 10),(eC (.ty "bool"))])) (eOp (o2 wNe) [(eV 10),(AL BH [(eV 4),(eV 5),(eV 9)])])) (BS (eC (.bl false))) CZ))
theorem WS{X:D}{a2 a6 a7 a8 o10:Option D}(h:Ej t ls ds)(hi:load<(Ak ls.length ds).length)(hq:S[q]?=some (.lst ((Ak ls.length ds).map nD)))(hX:Tbb X):∃u,XU [a0,a1,a2,some (A3 t ls ds),some (.ref q),some (.int load),a6,a7,a8,some X,o10] S=some (.nx,[a0,a1,a2,some (A3 t ls ds),some (.ref q),some (.int load),a6,a7,a8,some X,u],S):=by
 obtain⟨b,e1,e2⟩:=WR (S:=S) (q:=q) h hi hq hX
 have kb:St.Kd.bl.isA "bool"=true:=by decide
 refine⟨some (.bl b),?_⟩
 generalize A3 t ls ds=bk at*
 have o1:DR (.bl b) (.bl b)=true:=nr rfl
 have o2':deq (.bl b) (.bl b)=true:=by cases b<;>rfl
 simp[XU,e1,kb,e2,o1,o2']
theorem UU{Xs:List D}{a2 a6 a7 a8 o9 o10:Option D}(h:Ej t ls ds)(hi:load<(Ak ls.length ds).length)(hq:S[q]?=some (.lst ((Ak ls.length ds).map nD)))(hX:∀X∈Xs,Tbb X):∃u9 u10,KI [] (tNm 9) XU Xs [a0,a1,a2,some (A3 t ls ds),some (.ref q),some (.int load),a6,a7,a8,o9,o10] S=some (.nx,[a0,a1,a2,some (A3 t ls ds),some (.ref q),some (.int load),a6,a7,a8,u9,u10],S):=by
 obtain⟨E',S',ef,u9,u10,_,rfl,rfl⟩:=Eh (gs:=[]) (t:=tNm 9) (b:=XU)
  (I:=fun rs E S'=>∃(u9 u10:Option D),(∀X∈rs,Tbb X)/\E=[a0,a1,a2,some (A3 t ls ds),some (.ref q),some (.int load),a6,a7,a8,u9,u10]/\S'=S)
  (fun _ _ _ _=>Ao) (ds:=Xs) (E:=[a0,a1,a2,some (A3 t ls ds),some (.ref q),some (.int load),a6,a7,a8,o9,o10]) (S:=S)
  ⟨o9,o10,hX,rfl,rfl⟩ (by
   rintro dd rs E T ⟨u9,u10,i1,rfl,rfl⟩
   obtain⟨u,e⟩:=WS (S:=T) (a0:=a0) (a1:=a1) (a2:=a2) (a6:=a6) (a7:=a7) (a8:=a8) (o10:=u10) h hi hq (i1 dd List.mem_cons_self)
   exact⟨_,_,T,by simp,e,some dd,u,fun X hX=>i1 X (List.mem_cons_of_mem _ hX),rfl,rfl⟩)
 exact⟨u9,u10,ef⟩
def TK:Ex:=(Aa (BP 6 (AL BE [(eV 2),(eV 4),(eV 5)]))
  (Aa (BP 7 (C1 [(eV 6),(eOp (EN true false) [(eV 6),(eC (.int 1))]),(eOp (EN false true) [(eV 6),(eOp (o1 GZ) [(eC (.int 1))])]),(eOp (o1 Uq) [(eV 6)]),(eOp (o1 Ie) [(eV 6)]),(eOp (o2 Bi) [(eV 6),(BN [(eV 5)])]),(BN [(eV 5)]),(BN [])]))
  (Aa (BP 7 (eOp (o2 Bi) [(eV 7),(C1 [(AL (BV 8) [(eV 2),(eV 6)]),(eOp (o2 Bi) [(eOp (EN false true) [(eV 6),(eC (.int 1))]),(eOp (EN true false) [(eV 6),(eC (.int 2))])]),(eOp (o2 Bi) [(BN [(eC (.int 0))]),(eV 6)]),(AL (Aw 8) [(eV 2),(eC (.int 2))])])]))
  (Aa (BP 8 (AL BE [(eV 2),(eV 4),(AL AG [(eV 2),(eOp (o1 DK) [(eV 4)])])]))
  (Aa (IM (GY (eOp (o2 Bi) [(eV 7),(C1 [(eV 8),(eOp (o2 Bi) [(eOp (EN false true) [(eV 8),(eOp (o1 GZ) [(eC (.int 1))])]),(BN [(eV 5)])])])])) (tNm 9) XU)
  (xIf (Kw (AL Ap [(eV 3),(eV 5),(AL B0 [(eV 3),(eV 5)])])) (BS (eC (.bl false))) CZ))))))
theorem SS{o6 o7 o8 o9 o10:Option D}(h:Ej t ls ds)(hi:load<(Ak ls.length ds).length)(hp:B2 p S)(hpq:q≠p)(hq:S[q]?=some (.lst ((Ak ls.length ds).map nD))):∃u6 u7 u8 u9 u10 S',TK [a0,a1,some (.ref p),some (A3 t ls ds),some (.ref q),some (.int load),o6,o7,o8,o9,o10] S=some (.nx,[a0,a1,some (.ref p),some (A3 t ls ds),some (.ref q),some (.int load),u6,u7,u8,u9,u10],S')/\B2 p S'/\S'[q]?=some (.lst ((Ak ls.length ds).map nD)):=by
 have ha:=Kn h
 have hr:=JF h
 have hw:=Ov (ls:=ls) (ds:=ds)
 obtain⟨is,S1,e1,n1,b1,l1,p1⟩:=VC ha hw (by omega) hpq hi hp hq
 have q1:=p1.get hq hpq
 have bi:∀i∈is,i<1000:=fun i hi'=>by have:=b1 i hi';omega
 obtain⟨X1,S2,e2,t1,p2⟩:=IG 8 1 (by decide) (Vv bi (by omega)) p1.pen
 obtain⟨X2,S3,e3,t2,p3⟩:=GF (n:=8) (d:=2) (by decide) p2.pen
 have e3':Aw 8 [.ref p,.int 2] S2=some (X2,S3):=e3
 have q3:=p3.get (p2.get q1 hpq) hpq
 obtain⟨r,S4,e4,r0,r1,p4⟩:=Ab p3.pen (n:=((Ak ls.length ds).length:Int)) (by omega) (by omega)
 obtain⟨r,rfl⟩:=Dm r0
 have q4:=p4.get q3 hpq
 obtain⟨js,S5,e5,n5,b5,l5,p5⟩:=VC (load:=r) ha hw (by omega) hpq (by omega) p4.pen q4
 have q5:=p5.get q4 hpq
 have bj:∀i∈js,i<1000:=fun i hi'=>by have:=b5 i hi';omega
 obtain⟨fc,S6,e6,c6,s6⟩:=KJ (S:=S5) h hi
 obtain⟨c1,c2,c3,_,_⟩:=c6.facts
 have cl:=c6.len ha
 have ic:=HD (S:=S6) h hi (by omega) c1 c3
 rw[c6.ok]at ic
 have ln:∀{xs:List Nat},(AH xs).length=xs.length:=fun{xs}=>by simp[AH]
 have tis:=QD bi
 have tjs:=QD bj
 have tl:Tbb (.int load):=RS (by omega)
 have cutT:∀{lo hi:Option Int},Tbb (.tup (C7 (AH is) lo hi)):=fun{lo hi}=>.tup (fun d hd=>tis d (EO hd)) (by have:=Cc (xs:=AH is) (lo:=lo) (hi:=hi);rw[ln]at this;omega)
 have lc1:=Cc (xs:=AH is) (lo:=none) (hi:=some 1)
 have lc2:=Cc (xs:=AH is) (lo:=some 2) (hi:=none)
 have lc3:=Cc (xs:=AH js) (lo:=none) (hi:=some (-1))
 rw[ln]at lc1 lc2 lc3
 have T0:∀X∈ [D.tup (AH is),.tup (C7 (AH is) (some 1) none),.tup (C7 (AH is) none (some (-1))),.tup (LP (AH is)),.lst (AH is),.tup (AH is++[.int load]),.tup [.int load],.tup []]++[X1,.tup (C7 (AH is) none (some 1)++C7 (AH is) (some 2) none),.tup ([.int 0]++AH is),X2]++[.tup (AH js),.tup (C7 (AH js) none (some (-1))++[.int load])],Tbb X:=by
  intro X hX
  simp only[List.mem_append,List.mem_cons,List.not_mem_nil,or_false]at hX
  rcases hX with((rfl|rfl|rfl|rfl|rfl|rfl|rfl|rfl)|(rfl|rfl|rfl|rfl))|(rfl|rfl)
  ·exact .tup tis (by rw[ln];omega)
  ·exact cutT
  ·exact cutT
  ·exact .tup (fun d hd=>tis d (OU hd)) (by have:=OF (xs:=AH is);rw[ln]at this;omega)
  ·exact .lst tis (by rw[ln];omega)
  ·exact Je tis (fun d hd=>by simp at hd;subst hd;exact tl) (by rw[ln];simp;omega)
  ·exact .tup (fun d hd=>by simp at hd;subst hd;exact tl) (by simp)
  ·exact .tup (fun d hd=>by cases hd) (by simp)
  ·exact t1
  ·exact Je (fun d hd=>tis d (EO hd)) (fun d hd=>tis d (EO hd)) (by omega)
  ·exact Je (fun d hd=>by simp at hd;subst hd;exact RS (i:=0) (by decide)) tis (by rw[ln];simp;omega)
  ·exact t2
  ·exact .tup tjs (by rw[ln];omega)
  ·exact Je (fun d hd=>tjs d (EO hd)) (fun d hd=>by simp at hd;subst hd;exact tl) (by simp;omega)
 have k8:(8:Nat)≤sizeLine:=AO (by decide)
 have k4:(4:Nat)≤sizeLine:=AO (by decide)
 have k2:(2:Nat)≤sizeLine:=AO (by decide)
 have k12:(12:Nat)≤sizeLine:=AO (by decide)
 have k14:(14:Nat)≤sizeLine:=AO (by decide)
 have z1:(AH is).length+1≤sizeLine:=Nat.le_trans (show _≤100 by rw[ln];omega) (AO (by decide))
 have z1':1+(AH is).length≤sizeLine:=Nat.le_trans (show _≤100 by rw[ln];omega) (AO (by decide))
 have z2:(C7 (AH is) none (some 1)).length+(C7 (AH is) (some 2) none).length≤sizeLine:=Nat.le_trans (show _≤200 by omega) (AO (by decide))
 have z3:(C7 (AH js) none (some (-1))).length+1≤sizeLine:=Nat.le_trans (show _≤100 by omega) (AO (by decide))
 have ng:GZ (.val (.int 1))=some (.val (.int (-1))):=rfl
 have wl:DK (.own ((Ak ls.length ds).map nD))=some (.val (.int (Ak ls.length ds).length)):=by
  show some (Wv.val (.int (((Ak ls.length ds).map nD).length:Int)))=_
  rw[List.length_map]
 obtain⟨u9,u10,ec⟩:=UU (S:=S5) (q:=q) (a0:=a0) (a1:=a1) (a2:=some (.ref p)) (a6:=some (.tup (AH is))) (a7:=some (.lst ([D.tup (AH is),.tup (C7 (AH is) (some 1) none),.tup (C7 (AH is) none (some (-1))),.tup (LP (AH is)),.lst (AH is),.tup (AH is++[.int load]),.tup [.int load],.tup []]++[X1,.tup (C7 (AH is) none (some 1)++C7 (AH is) (some 2) none),.tup ([.int 0]++AH is),X2]))) (a8:=some (.tup (AH js))) (o9:=o9) (o10:=o10) h hi q5 T0
 have s1:BP 6 (AL BE [(eV 2),(eV 4),(eV 5)]) [a0,a1,some (.ref p),some (A3 t ls ds),some (.ref q),some (.int load),o6,o7,o8,o9,o10] S=some (.nx,[a0,a1,some (.ref p),some (A3 t ls ds),some (.ref q),some (.int load),some (.tup (AH is)),o7,o8,o9,o10],S1):=by
  generalize A3 t ls ds=bk at*
  simp[e1]
 have s2:BP 7 (C1 [(eV 6),(eOp (EN true false) [(eV 6),(eC (.int 1))]),(eOp (EN false true) [(eV 6),(eOp (o1 GZ) [(eC (.int 1))])]),(eOp (o1 Uq) [(eV 6)]),(eOp (o1 Ie) [(eV 6)]),(eOp (o2 Bi) [(eV 6),(BN [(eV 5)])]),(BN [(eV 5)]),(BN [])]) [a0,a1,some (.ref p),some (A3 t ls ds),some (.ref q),some (.int load),some (.tup (AH is)),o7,o8,o9,o10] S1=some (.nx,[a0,a1,some (.ref p),some (A3 t ls ds),some (.ref q),some (.int load),some (.tup (AH is)),some (.lst [D.tup (AH is),.tup (C7 (AH is) (some 1) none),.tup (C7 (AH is) none (some (-1))),.tup (LP (AH is)),.lst (AH is),.tup (AH is++[.int load]),.tup [.int load],.tup []]),o8,o9,o10],S1):=by
  generalize A3 t ls ds=bk at*
  generalize AH is=NI at*
  simp[ng,z1,k8]
 have s3:BP 7 (eOp (o2 Bi) [(eV 7),(C1 [(AL (BV 8) [(eV 2),(eV 6)]),(eOp (o2 Bi) [(eOp (EN false true) [(eV 6),(eC (.int 1))]),(eOp (EN true false) [(eV 6),(eC (.int 2))])]),(eOp (o2 Bi) [(BN [(eC (.int 0))]),(eV 6)]),(AL (Aw 8) [(eV 2),(eC (.int 2))])])]) [a0,a1,some (.ref p),some (A3 t ls ds),some (.ref q),some (.int load),some (.tup (AH is)),some (.lst [D.tup (AH is),.tup (C7 (AH is) (some 1) none),.tup (C7 (AH is) none (some (-1))),.tup (LP (AH is)),.lst (AH is),.tup (AH is++[.int load]),.tup [.int load],.tup []]),o8,o9,o10] S1=some (.nx,[a0,a1,some (.ref p),some (A3 t ls ds),some (.ref q),some (.int load),some (.tup (AH is)),some (.lst ([D.tup (AH is),.tup (C7 (AH is) (some 1) none),.tup (C7 (AH is) none (some (-1))),.tup (LP (AH is)),.lst (AH is),.tup (AH is++[.int load]),.tup [.int load],.tup []]++[X1,.tup (C7 (AH is) none (some 1)++C7 (AH is) (some 2) none),.tup ([.int 0]++AH is),X2])),o8,o9,o10],S3):=by
  generalize A3 t ls ds=bk at*
  generalize AH is=NI at*
  simp[e2,e3',z1',z2,k4,k12]
 generalize hTH:([D.tup (AH is),.tup (C7 (AH is) (some 1) none),.tup (C7 (AH is) none (some (-1))),.tup (LP (AH is)),.lst (AH is),.tup (AH is++[.int load]),.tup [.int load],.tup []]++[X1,.tup (C7 (AH is) none (some 1)++C7 (AH is) (some 2) none),.tup ([.int 0]++AH is),X2])=TH at*
 have lTH:TH.length=12:=by rw[←hTH];rfl
 have s4:BP 8 (AL BE [(eV 2),(eV 4),(AL AG [(eV 2),(eOp (o1 DK) [(eV 4)])])]) [a0,a1,some (.ref p),some (A3 t ls ds),some (.ref q),some (.int load),some (.tup (AH is)),some (.lst TH),o8,o9,o10] S3=some (.nx,[a0,a1,some (.ref p),some (A3 t ls ds),some (.ref q),some (.int load),some (.tup (AH is)),some (.lst TH),some (.tup (AH js)),o9,o10],S5):=by
  have dq:=Aj q3
  generalize A3 t ls ds=bk at*
  generalize (Ak ls.length ds).map nD=RO at*
  generalize ((Ak ls.length ds).length:Int)=RL at*
  simp[dq,-Om,wl,e4,e5]
 have s5:IM (GY (eOp (o2 Bi) [(eV 7),(C1 [(eV 8),(eOp (o2 Bi) [(eOp (EN false true) [(eV 8),(eOp (o1 GZ) [(eC (.int 1))])]),(BN [(eV 5)])])])])) (tNm 9) XU [a0,a1,some (.ref p),some (A3 t ls ds),some (.ref q),some (.int load),some (.tup (AH is)),some (.lst TH),some (.tup (AH js)),o9,o10] S5=some (.nx,[a0,a1,some (.ref p),some (A3 t ls ds),some (.ref q),some (.int load),some (.tup (AH is)),some (.lst TH),some (.tup (AH js)),u9,u10],S5):=by
  generalize A3 t ls ds=bk at*
  generalize AH js=NJ at*
  generalize AH is=NI at*
  simp[ng,z3,k2,lTH,k14,ec]
 have s6':xIf (Kw (AL Ap [(eV 3),(eV 5),(AL B0 [(eV 3),(eV 5)])])) (BS (eC (.bl false))) CZ [a0,a1,some (.ref p),some (A3 t ls ds),some (.ref q),some (.int load),some (.tup (AH is)),some (.lst TH),some (.tup (AH js)),u9,u10] S5=some (.nx,[a0,a1,some (.ref p),some (A3 t ls ds),some (.ref q),some (.int load),some (.tup (AH is)),some (.lst TH),some (.tup (AH js)),u9,u10],S6):=by
  generalize A3 t ls ds=bk at*
  simp[e6,ic]
 refine⟨some (.tup (AH is)),some (.lst TH),some (.tup (AH js)),u9,u10,S6,?_,p5.pen.same s6,s6.get q5 (by simp)⟩
 unfold TK
 rw[BC,s1,A4,BO,BC,s2,A4,BO,BC,s3,A4,BO,BC,s4,A4,BO,BC,s5,A4,BO,s6']
def XB:Ex:=(Aa (BP 4 (AL C4 [(eV 3)]))
  (IM (ML [(eOp (o1 DK) [(eV 4)])]) (tNm 5) TK))
theorem OB{us:List (Option D)}(hu:us.length=7)(h:Ej t ls ds)(hp:B2 p S):∃us' S',XB (a0::a1::some (.ref p)::some (A3 t ls ds)::us) S=some (.nx,a0::a1::some (.ref p)::some (A3 t ls ds)::us',S')/\us'.length=7/\B2 p S':=by
  obtain⟨x4,x5,x6,x7,x8,x9,x10,rfl⟩:∃x4 x5 x6 x7 x8 x9 x10,us=[x4,x5,x6,x7,x8,x9,x10]:=by
    match us,hu with
    | [a,b,c,d,e,f,g],_=>exact⟨a,b,c,d,e,f,g,rfl⟩
  obtain⟨q,S1,e1,c1,s1,l1⟩:=PV (S:=S) h
  have hpq:q≠p:=by have:=hp.lt;omega
  have hr:=JF h
  obtain⟨E',S',ef,u5,u6,u7,u8,u9,u10,_,rfl,f2,f3⟩:=Eh (gs:=[]) (t:=tNm 5) (b:=TK)
    (I:=fun rs E S'=>∃(u5 u6 u7 u8 u9 u10:Option D),(∀d∈rs,∃i:Nat,d=.int i/\i<(Ak ls.length ds).length)/\E=[a0,a1,some (.ref p),some (A3 t ls ds),some (.ref q),u5,u6,u7,u8,u9,u10]/\B2 p S'/\S'[q]?=some (.lst ((Ak ls.length ds).map nD)))
    (fun _ _ _ _=>Ao) (ds:=KH 0 (Ak ls.length ds).length) (E:=[a0,a1,some (.ref p),some (A3 t ls ds),some (.ref q),x5,x6,x7,x8,x9,x10]) (S:=S1)
    ⟨x5,x6,x7,x8,x9,x10,by
      intro d hd
      obtain⟨j,hj,rfl⟩:=List.mem_map.mp hd
      exact⟨j,by simp,List.mem_range.mp hj⟩,rfl,hp.same s1,c1⟩ (by
      rintro dd rs E T ⟨u5,u6,u7,u8,u9,u10,i0,rfl,i1,i2⟩
      obtain⟨i,rfl,hi⟩:=i0 dd List.mem_cons_self
      obtain⟨v6,v7,v8,v9,v10,T2,e,g1,g2⟩:=SS (S:=T) (a0:=a0) (a1:=a1) (o6:=u6) (o7:=u7) (o8:=u8) (o9:=u9) (o10:=u10) h hi i1 hpq i2
      exact⟨_,_,T2,by simp,e,some (.int i),v6,v7,v8,v9,v10,fun d hd=>i0 d (List.mem_cons_of_mem _ hd),rfl,g1,g2⟩)
  refine⟨[some (.ref q),u5,u6,u7,u8,u9,u10],S',?_,rfl,f2⟩
  have rk:G5 ((Ak ls.length ds).length:Int)=true:=Dc (by omega) (by omega)
  have wl:DK (.own ((Ak ls.length ds).map nD))=some (.val (.int (Ak ls.length ds).length)):=by
    show some (Wv.val (.int (((Ak ls.length ds).map nD).length:Int)))=_
    rw[List.length_map]
  have dq:=Aj c1
  generalize A3 t ls ds=bk at*
  generalize (Ak ls.length ds).map nD=RO at*
  generalize (Ak ls.length ds).length=RL at*
  simp[XB,e1,dq,-Om,wl,rk,ef]
def Ox:Ex:=(Aa (BP 2 (AL F5 [(AL CS [(eV 0),(eV 1)])]))
  (IM (GY (BN [(AL D3 [(eV 2),(eC (.int 14))]),(AL EE [(eV 2)])])) (tNm 3) XB))
theorem UL{ns:List Int}{k:Nat}{o2 o3:Option D}{us:List (Option D)}(hu:us.length=7):∃u2 u3 us' S',Ox (some (.scr ns)::some (.int k)::o2::o3::us) S=some (.nx,some (.scr ns)::some (.int k)::u2::u3::us',S')/\us'.length=7:=by
 obtain⟨c,e0⟩:=Vx (S:=S) (ns:=ns) (k:=k)
 obtain⟨p,S1,e1,hp,_,_⟩:=Yk (S:=S) c
 obtain⟨t,ls,ds,S2,e2,⟨hb,_⟩,_,hp2⟩:=WN (M:=14) (by decide) hp
 obtain⟨ds',S3,e3,hb',hp3⟩:=R9 hp2
 obtain⟨u1,S4,e4,l4,hp4⟩:=OB (S:=S3) (a0:=some (.scr ns)) (a1:=some (.int k)) hu hb.g hp3
 obtain⟨u2,S5,e5,l5,hp5⟩:=OB (S:=S4) (a0:=some (.scr ns)) (a1:=some (.int k)) l4 hb' hp4
 refine⟨some (.ref p),some (A3 tP [] ds'),u2,S5,?_,l5⟩
 have e2':D3 [.ref p,.int 14] S1=some (A3 t ls ds,S2):=e2
 generalize A3 t ls ds=b1 at*
 generalize A3 tP [] ds'=b2 at*
 simp[Ox,e0,e1,e2',e3,D1,HL,e4,e5]
theorem Yz(ns:List Int)(h:ns.length≤63):∃S',L4 [.scr ns] S=some (.bl true,S'):=by
 obtain⟨n,hn,hn2⟩:∃n:Nat,(if(if(2:Int)<ns.length then(2:Int)else ns.length)>1 then(if(2:Int)<ns.length then(2:Int)else ns.length)else 1)=(n:Int)/\n≤3:=by
  refine⟨(if(if(2:Int)<ns.length then(2:Int)else ns.length)>1 then(if(2:Int)<ns.length then(2:Int)else ns.length)else 1).toNat,?_,?_⟩
  ·split<;>split<;>omega
  ·split<;>split<;>omega
 have rn:G5 (n:Int)=true:=Dc (by omega) (by omega)
 obtain⟨E',S',ef,q1,q2,q3,us,_,_,rfl⟩:=Eh (gs:=[]) (t:=tNm 1) (b:=Ox)
  (I:=fun rs E S'=>∃(o1 o2 o3:Option D) (us:List (Option D)),us.length=7/\(∀d∈rs,∃k:Nat,d=.int k)/\E=some (.scr ns)::o1::o2::o3::us)
  (fun _ _ _ _=>Ao) (ds:=KH 0 n) (E:=[some (.scr ns),none,none,none,none,none,none,none,none,none,none]) (S:=S)
  ⟨none,none,none,_,rfl,by
   intro d hd
   obtain⟨k,_,rfl⟩:=List.mem_map.mp hd
   exact⟨k,by simp⟩,rfl⟩ (by
   rintro dd rs E T ⟨o1,o2,o3,us,i0,i1,rfl⟩
   obtain⟨k,rfl⟩:=i1 dd List.mem_cons_self
   obtain⟨u2,u3,us',T2,e,l⟩:=UL (S:=T) (ns:=ns) (k:=k) (o2:=o2) (o3:=o3) i0
   exact⟨_,_,T2,by simp,e,some (.int k),u2,u3,us',l,fun d hd=>i1 d (List.mem_cons_of_mem _ hd),rfl⟩)
 refine⟨S',?_⟩
 have eb:Qx=Aa (IM (ML [(eOp (o2 aW) [(eC (.int 1)),(eOp (o2 XQ) [(eOp (o1 DK) [(eV 0)]),(eC (.int 2))])])]) (tNm 1) Ox) (BS (eC (.bl true))):=rfl
 unfold L4
 rw[eb]
 simp[hn,rn,ef]
end
open PyProof.Rows (boot_isinstance boot_int boot_bool boot_tuple boot_str boot_list boot_abs boot_all boot_any boot_sum boot_max boot_min boot_range boot_enumerate boot_zip boot_sorted boot_set boot_divmod)
structure All(w:World)(K:PySem.W.Frag)(mg:Str->Option Value):Prop where
 bt:Bts mg
 c_MAKERS:XR K mg "MAKERS" Bw
 s_p_is_whole:St.Src K mg "is_whole" s_p_is_whole
 s_p_is_from:St.Src K mg "is_from" s_p_is_from
 s_p_is_within:St.Src K mg "is_within" s_p_is_within
 s_p_has_pieces:St.Src K mg "has_pieces" s_p_has_pieces
 s_p_can_pool:St.Src K mg "can_pool" s_p_can_pool
 s_p_can_swap:St.Src K mg "can_swap" s_p_can_swap
 s_p_can_do:St.Src K mg "can_do" s_p_can_do
 s_p_held_without:St.Src K mg "held_without" s_p_held_without
 s_p_held_behind:St.Src K mg "held_behind" s_p_held_behind
 s_p_held_at_first:St.Src K mg "held_at_first" s_p_held_at_first
 s_p_made_from:St.Src K mg "made_from" s_p_made_from
 s_p_first_wrong:St.Src K mg "first_wrong" s_p_first_wrong
 s_p_refuse_undone:St.Src K mg "refuse_undone" s_p_refuse_undone
 s_p_many_loads:St.Src K mg "many_loads" s_p_many_loads
 s_p_refuse_no_load:St.Src K mg "refuse_no_load" s_p_refuse_no_load
 s_p_all_sources:St.Src K mg "all_sources" s_p_all_sources
 s_p_is_chain:St.Src K mg "is_chain" s_p_is_chain
 s_p_first_chain:St.Src K mg "first_chain" s_p_first_chain
 s_law_cell_at:St.Src K mg "_law_cell_at" s_law_cell_at
 s_law_pen:St.Src K mg "_law_pen" s_law_pen
 s_law_draw:St.Src K mg "_law_draw" s_law_draw
 s_law_common:St.Src K mg "_law_common" s_law_common
 s_law_made:St.Src K mg "_law_made" s_law_made
 s_law_plus:St.Src K mg "_law_plus" s_law_plus
 s_law_times:St.Src K mg "_law_times" s_law_times
 s_law_less:St.Src K mg "_law_less" s_law_less
 s_law_whole:St.Src K mg "_law_whole" s_law_whole
 s_law_pieces:St.Src K mg "_law_pieces" s_law_pieces
 s_law_train:St.Src K mg "_law_train" s_law_train
 s_law_first:St.Src K mg "_law_first" s_law_first
 s_law_share:St.Src K mg "_law_share" s_law_share
 s_law_worths:St.Src K mg "_law_worths" s_law_worths
 s_law_begun:St.Src K mg "_law_begun" s_law_begun
 s_law_pooled:St.Src K mg "_law_pooled" s_law_pooled
 s_law_cost:St.Src K mg "_law_cost" s_law_cost
 s_law_borne:St.Src K mg "_law_borne" s_law_borne
 s_law_sold:St.Src K mg "_law_sold" s_law_sold
 s_law_turn:St.Src K mg "_law_turn" s_law_turn
 s_law_do:St.Src K mg "_law_do" s_law_do
 s_law_deed:St.Src K mg "_law_deed" s_law_deed
 s_law_book:St.Src K mg "_law_book" s_law_book
 s_law_parents:St.Src K mg "_law_parents" s_law_parents
 s_law_pooly:St.Src K mg "_law_pooly" s_law_pooly
 s_law_thing:St.Src K mg "_law_thing" s_law_thing
 s_law_spoilt:St.Src K mg "_law_spoilt" s_law_spoilt
 s_law_is_one:St.Src K mg "_law_is_one" s_law_is_one
 s_law_any_chain:St.Src K mg "_law_any_chain" s_law_any_chain
 s_p_law:St.Src K mg "law" s_p_law
section
variable{P:Program}{w:World}{K:PySem.W.Frag}{mg:Str->Option Value}{base:Heap}
theorem UD{f:Addr}{fd:FuncData}(F:Fun K "law" "law" s_p_law f fd)(B:Bts mg)(Cn:IB P w K mg base)(CH:GI P w K mg base)(C9:Ha P w K mg base)(F4:Me P w K mg base)(AI:BY P w K mg base)(El:Kp P w K mg base)(C3:Hb P w K mg base)(EB:J0 P w K mg base)(Bf:J9 P w K mg base 8)(CA:Ma P w K mg base 8)(Dk:IX P w K mg base)(B4:Fv P w K mg base):MM P w K mg base CX0 20 f fd ["_law_script"] (spD K 1 L4):=by
 refine X8 (k:=19) F Cf rfl fun cdv A outer s H E hr=>?_
 have hu:=Ag hr
 exact(AF (D7 PassesOwn.never rfl (Ef rfl B.range (AA (AY (Pp rfl) rfl B.max boot_max (AA AE (AA (AY (Mu rfl) rfl B.min boot_min (AA (AY BA rfl B.len boot_len (AA (AB 0) AD)) (AA AE AD))) AD))) AD)) (Ax 1 Cf.nd) (AF (Aq 2 (AJ F4 (hr.mono (by decide)) rfl (AA (AJ C9 (hr.mono (by decide)) rfl (AA (AB 0) (AA (AB 1) AD))) AD)) Cf.nd)
    (AK (D7 PassesOwn.never rfl (Cu (Am (AA (AJ El (hr.mono (by decide)) rfl (AA (AB 2) (AA AE AD))) (AA (AJ EB (hr.mono (by decide)) rfl (AA (AB 2) AD)) AD)))) (Ax 3 Cf.nd) (AF (Aq 4 (AJ C3 (hr.mono (by decide)) rfl (AA (AB 3) AD)) Cf.nd)
    (AK (D7 PassesOwn.never rfl (Ef rfl B.range (AA (AY BA rfl B.len boot_len (AA (AB 4) AD)) AD)) (Ax 5 Cf.nd) (AF (Aq 6 (AJ B4 (hr.mono (by decide)) rfl (AA (AB 2) (AA (AB 4) (AA (AB 5) AD)))) Cf.nd)
    (AF (Aq 7 (As (AA (AB 6) (AA (FD (AB 6) AE) (AA (FY (AB 6) (Hi C8 AE)) (AA (VQ (AB 6)) (AA (BD GN rfl B.list boot_list (AA (AB 6) AD)) (AA (Af AV (AB 6) (Am (AA (AB 5) AD))) (AA (Am (AA (AB 5) AD)) (AA (Am AD) AD))))))))) Cf.nd)
    (AF (Aq 7 (Af AV (AB 7) (As (AA (AJ CA (hr.mono (by decide)) rfl (AA (AB 2) (AA (AB 6) AD))) (AA (Af AV (FY (AB 6) AE) (FD (AB 6) AE)) (AA (Af AV (Am (AA AE AD)) (AB 6)) (AA (AJ Bf (hr.mono (by decide)) rfl (AA (AB 2) (AA AE AD))) AD)))))) Cf.nd)
    (AF (Aq 8 (AJ B4 (hr.mono (by decide)) rfl (AA (AB 2) (AA (AB 4) (AA (AJ AI (hr.mono (by decide)) rfl (AA (AB 2) (AA (AY BA rfl B.len boot_len (AA (AB 4) AD)) AD))) AD)))) Cf.nd)
    (AF (D7 PassesOwn.never rfl (Cu (Af AV (AB 7) (As (AA (AB 8) (AA (Af AV (FY (AB 8) (Hi C8 AE)) (Am (AA (AB 5) AD))) AD))))) (Ax 9 Cf.nd) (AF (Aq 10 (AJ Cn (hr.mono (by decide)) rfl (AA (AB 3) (AA (AB 5) (AA (AB 9) AD)))) Cf.nd)
    (AK (Bk (DW.dt (Kl (Hg (E5 (AY CP rfl B.isi boot_isinstance (AA (AB 10) (AA (Jr rfl B.bool boot_bool) AD))))) (HG (Ac (E8 hu) (AB 10) (AJ Dk (hr.mono (by decide)) rfl (AA (AB 4) (AA (AB 5) (AA (AB 9) AD)))))))) (AK (AU Ik)) An))))
    (AK (Bk (Hg (E5 (AJ Cn (hr.mono (by decide)) rfl (AA (AB 3) (AA (AB 5) (AA (AJ CH (hr.mono (by decide)) rfl (AA (AB 3) (AA (AB 5) AD))) AD)))))) (AK (AU Ik)) An))))))))))))))
    (AK (AU Ik)))
theorem Ys{f:Addr}{fd:FuncData}(F:Fun K "law" "law" s_p_law f fd)(T:All w K mg):MM P w K mg base CX0 20 f fd ["_law_script"] (spD K 1 L4):=by
 have B:=T.bt
 have c_MAKERS:=T.c_MAKERS
 have Df:=Df (P:=P) (w:=w) (base:=base) T.s_p_is_whole B
 have EA:=EA (P:=P) (w:=w) (base:=base) T.s_p_is_from Df
 have Bt:=Bt (P:=P) (w:=w) (base:=base) T.s_p_is_within EA
 have A1:=A1 (P:=P) (w:=w) (base:=base) T.s_p_has_pieces B
 have Dl:=Dl (P:=P) (w:=w) (base:=base) T.s_p_can_pool A1
 have Cv:=Cv (P:=P) (w:=w) (base:=base) T.s_p_can_swap A1
 have Em:=Em (P:=P) (w:=w) (base:=base) T.s_p_can_do A1 Dl Cv
 have BI:=BI (P:=P) (w:=w) (base:=base) T.s_p_held_without
 have CI:=CI (P:=P) (w:=w) (base:=base) T.s_p_held_behind BI
 have B6:=B6 (P:=P) (w:=w) (base:=base) T.s_p_held_at_first
 have C5:=C5 (P:=P) (w:=w) (base:=base) T.s_p_made_from B
 have CO:=CO (P:=P) (w:=w) (base:=base) T.s_p_first_wrong B Em CI B6
 have BB:=BB (P:=P) (w:=w) (base:=base) T.s_p_refuse_undone CO
 have CY:=CY (P:=P) (w:=w) (base:=base) T.s_p_many_loads B c_MAKERS
 have A6:=A6 (P:=P) (w:=w) (base:=base) T.s_p_refuse_no_load B Bt CY
 have BU:=BU (P:=P) (w:=w) (base:=base) T.s_p_all_sources c_MAKERS C5
 have Cn:=Cn (P:=P) (w:=w) (base:=base) T.s_p_is_chain B Bt BB A6 BU
 have CH:=CH (P:=P) (w:=w) (base:=base) T.s_p_first_chain B BB A6 BU
 have C9:=C9 (P:=P) (w:=w) (base:=base) T.s_law_cell_at B
 have F4:=F4 (P:=P) (w:=w) (base:=base) T.s_law_pen B
 have AI:=AI (P:=P) (w:=w) (base:=base) T.s_law_draw
 have Dj:=Dj (P:=P) (w:=w) (base:=base) T.s_law_common
 have Au:=Au (P:=P) (w:=w) (base:=base) T.s_law_made B Dj
 have Bc:=Bc (P:=P) (w:=w) (base:=base) T.s_law_plus Au
 have BF:=BF (P:=P) (w:=w) (base:=base) T.s_law_times Au
 have Cq:=Cq (P:=P) (w:=w) (base:=base) T.s_law_less Bc
 have CK:=CK (P:=P) (w:=w) (base:=base) T.s_law_whole B AI Au
 have Bh:=Bh (P:=P) (w:=w) (base:=base) T.s_law_pieces AI
 have ED:=ED (P:=P) (w:=w) (base:=base) T.s_law_train AI CK
 have EF:=EF (P:=P) (w:=w) (base:=base) T.s_law_first B AI CK Bh
 have D9:=D9 (P:=P) (w:=w) (base:=base) T.s_law_share AI Au
 have Dh:=Dh (P:=P) (w:=w) (base:=base) T.s_law_worths B AI
 have D8:=D8 (P:=P) (w:=w) (base:=base) T.s_law_begun B
 have Dg:=Dg (P:=P) (w:=w) (base:=base) T.s_law_pooled B Au Bc BF
 have E7:=E7 (P:=P) (w:=w) (base:=base) T.s_law_cost B Au
 have DU:=DU (P:=P) (w:=w) (base:=base) T.s_law_borne B Bc BF Cq
 have D2:=D2 (P:=P) (w:=w) (base:=base) T.s_law_sold B Bc BF Cq
 have Er:=Er (P:=P) (w:=w) (base:=base) T.s_law_turn E7 DU D2
 have Hh:=Hh (P:=P) (w:=w) (base:=base) T.s_law_do B Dg Er
 have FA:=FA (P:=P) (w:=w) (base:=base) T.s_law_deed B AI Bh D9 Dh
 have El:=El (P:=P) (w:=w) (base:=base) T.s_law_book B AI ED EF D8 Hh FA
 have C3:=C3 (P:=P) (w:=w) (base:=base) T.s_law_parents B
 have EB:=EB (P:=P) (w:=w) (base:=base) T.s_law_pooly B AI
 have Bf:=Bf (P:=P) (w:=w) (base:=base) T.s_law_thing B AI 8 (by decide)
 have CA:=CA (P:=P) (w:=w) (base:=base) T.s_law_spoilt B AI Bf 8 (by decide)
 have Dk:=Dk (P:=P) (w:=w) (base:=base) T.s_law_is_one B
 have B4:=B4 (P:=P) (w:=w) (base:=base) T.s_law_any_chain B AI
 exact UD (P:=P) (w:=w) (base:=base) F B Cn CH C9 F4 AI El C3 EB Bf CA Dk B4
theorem YM{l:PySem.W.OpenLaw}{fa:Addr}(hfa:mg "law"=some (.ref fa))(T:All w K mg):
  ∃fd:FuncData,(∀(s:Shared) (v:Value),BindsTo s fd ⟨[v],[]⟩ [("_law_script",v)])/\∀base:Heap,K.In base->base.Ns mainGlobals mg->MM l.prog w K mg base CX0 20 fa fd ["_law_script"] (XG K):=by
 obtain⟨f,fd,F,hm⟩:=T.s_p_law.ex
 have e:=hfa.symm.trans hm
 cases e
 refine⟨fd,fun s v=>?_,fun base _ _=>?_⟩
 ·obtain⟨oc,od,kV,doc,pm,an,cdv,ct,osl,hfd,_⟩:=F.ex
  subst hfd
  exact .of_eq rfl
 ·exact Xf (Ys (P:=l.prog) (w:=w) (base:=base) F T) fun ns hl=>Yz ns hl
end
theorem walk{l:PySem.W.OpenLaw}{q:Program}{loose:List Str}{XP:(Str->Option Value)->Heap->Prop}{YP:World->Heap->Prop}{d:DefRec}{K:Params->PySem.W.Frag}(hn:l.most=some 63)(hdf:d.params.defaults=[])
  (hY:∀(w:World) (h:Heap),YP w h->(K w.params).In h) (hd:d.name="law")
  (F:∀(w:World) (mg:Str->Option Value) (h:Heap),(K w.params).In h->h.Ns mainGlobals mg->All w (K w.params) mg):
  PySem.W.WalkO q loose XP YP l.row.toRowW d [] (fun f vs=>PySem.call f vs):=
 L2.Ww (n:=63) (k:=20) (x:="_law_script") (CX:=fun _=>CX0) (sp:=fun w=>XG (K w.params)) hn (by decide) hdf ⟨rfl,by decide,by decide⟩ hY (fun w mg fa h KX G hmg=>YM (by rw[←hd];exact hmg) (F w mg h KX G)) (fun _ _ a ns hl _ hS=>⟨a,ns,rfl,hS,hl,fun _=>rfl⟩) fun _ _ _ _ _ z=>z
end Mi
end
noncomputable section
namespace PySem.W.Fast
def tw16854997821660001168:=0
def tw15034252885524545893:=0
def tw6917512659035028512:=0
def tw14057106428071459351:=0
def tw13129917381808656687:=0
def tw7195323981988900969:=0
def tw5573925506532923737:=0
def tw8096649847966256476:=0
def tw10921232958831005274:=0
def tw6248791241947382486:=0
def tw11526287547382644953:=0
def tw2165519875018103588:=0
def tw7578212358838575269:=0
def tw7486235372102096185:=0
def tw13915907038930391197:=0
def tw18313047116792878566:=0
def tw5665639029022536954:=0
def tw4251987299725619716:=0
def tw7498393296621885893:=0
def tw16193512694446076072:=0
def tw1554651228013182380:=0
def tw9574766729869797009:=0
def tw391177903667471459:=0
def tw7821001576374307561:=0
def tw13140919057801181362:=0
def tw8299380872470925052:=0
def tw6193129195003405200:=0
def tw10721059558718880099:=0
def tw3769996958147070108:=0
def tw5659952904680535165:=0
def tw603117992100576024:=0
def tw118639567756095312:=0
def tw12514732703411436284:=0
def tw16033924040115402929:=0
def tw1535178618317931404:=0
def tw15481309723200286808:=0
def tw10816340837409956581:=0
def tw9503221355046000366:=0
def tw8104682837049156881:=0
def tw16400754771480344889:=0
def tw16517362636523123885:=0
def tw14004771564076664017:=0
def tw257817351372106029:=0
def tw4396166695553754673:=0
def tw3751109709184425974:=0
def tw5749141367222472091:=0
def tw1216734004600969104:=0
def tw11508320560562529383:=0
def tw15142702354338619172:=0
def tw4053838647150051786:=0
def tw16691371329338275218:=0
def tw14203366220004156968:=0
def tw9360002044526605593:=0
def tw15151091954332240350:=0
def tw7861292617255824841:=0
def tw8131910366138271934:=0
def tw17594438500136773545:=0
def tw3061911462125162732:=0
def tw5368074202043156841:=0
def tw4079733280276088452:=0
def tw1515496376058102014:=0
def tw9835977253459566776:=0
def tw2650337836596415984:=0
def tw14741759820442593060:=0
def tw14302251986543862375:=0
def tw1750638295695088189:=0
def tw11205830957943067456:=0
def tw6344883000016723338:=0
def tw15925777794900489588:=0
def tw9846304633230702595:=0
def tw11973450980320798363:=0
def tw8482397351107905415:=0
def tw9562923010916844542:=0
def tw10724501579225520857:=0
def tw12385073201572102281:=0
def tw16356139913279453643:=0
def tw11516545521951944131:=0
def tw9014931978904838868:=0
def tw13688692679661296771:=0
def tw17418279591866511050:=0
def tw4046304987008422224:=0
def tw5507591244345708932:=0
def tw5264375833203038071:=0
def tw6043627926761510121:=0
def tw585148458233428278:=0
def tw15136093458070999316:=0
def tw5557571713636006020:=0
def tw14305096370504783820:=0
def tw8790102426496020871:=0
def tw9060448530632666544:=0
def tw8619255596970696370:=0
def tw9339037229398599434:=0
def tw16964558071444282029:=0
def tw17604669340122244784:=0
def tw15805576168106513770:=0
def tw1352762084510352922:=0
def tw13849327742235286883:=0
def tw11190765418968606076:=0
def tw9548851164111365859:=0
def tw5631210860191795184:=0
def tw13214467467468057572:=0
def tw10295416535068954377:=0
def tw14088593038402726438:=0
def tw15179825717843250595:=0
def tw1382121429186727082:=0
def tw2758616104756363000:=0
def tw4754319136859555387:=0
def tw11815988983777499839:=0
def tw3482816348683638992:=0
def tw11858832190182966010:=0
def tw12621069436638698984:=0
def tw5202149422273507084:=0
def tw11682733934625049042:=0
def tw17600923839411404161:=0
def tw4236981859251672857:=0
def tw14188096381063326758:=0
def tw12437317615858594978:=0
def tw1411209786679708999:=0
def tw9811787867910102935:=0
def tw6196672062767302940:=0
def tw13159887982136844984:=0
def tw780806010175755489:=0
def tw4270325896063868862:=0
def tw3715804211737200579:=0
def tw15796158125969130038:=0
def tw844376284274852987:=0
def tw1973477609471886593:=0
def tw10169575302783756747:=0
def tw10700645348430860365:=0
def tw17841258195823352006:=0
def tw5228713441922900417:=0
def tw11799418489996275928:=0
def tw14860981166628393086:=0
def tw2012351906912934957:=0
def tw1817476126261639447:=0
def tw11027992182087759697:=0
def tw2673015003002408481:=0
def tw444126648016207880:=0
def tw12585701618823340621:=0
def tw17931742555167940577:=0
def tw11743084234510756693:=0
def tw4073262040757023820:=0
def tw10160646635440089632:=0
def tw11765656947142849790:=0
def tw10157288397716593793:=0
def tw8932525987655072328:=0
def tw4778386810787848216:=0
def tw12466115555430028732:=0
def tw4614142402581744232:=0
def tw2754738562940320637:=0
def tw18260549643247361077:=0
def tw6915349885213090360:=0
def tw11737317103170373447:=0
def tw9397924397882477081:=0
def tw13831845879206702307:=0
def tw16081578212259570603:=0
def tw4274382150543624644:=0
def tw92239349151362856:=0
def tw8531445833615905665:=0
def tw12840199260555328878:=0
def tw10913735881100886823:=0
def tw14942701390128447920:=0
def tw11556692187422745427:=0
def tw16922651182523108446:=0
def tw13620913408521045988:=0
def tw15247587998302069371:=0
def tw7159660257597699452:=0
def tw7799266915281028401:=0
def tw10196165431059138162:=0
def tw6997053399485075342:=0
def tw5185595341888079304:=0
def tw6996229445037866280:=0
def tw6432787517924609358:=0
def tw10915419817655499457:=0
def tw2381848820601148001:=0
def tw84433397860864119:=0
def tw15795931886693996082:=0
def tw9033084441322015135:=0
def tw4903035632279462348:=0
def tw5866252885937488191:=0
def tw7167695224670215075:=0
def tw910657288697851215:=0
def tw7595116423890994865:=0
def tw7523385169807394736:=0
def tw12266984557907328018:=0
def tw17897972573539220479:=0
def tw14334989828142325785:=0
def tw10660609824101779785:=0
def tw3816559166148265361:=0
def tw18037269573446282571:=0
def tw11674173942482352675:=0
def tw10951657261626091573:=0
def tw14059697289796062477:=0
def tw13232279366273702423:=0
def tw15029943172964645248:=0
def tw17650895391193705094:=0
def tw7346211659276669090:=0
def tw5302667408699693829:=0
def tw14230488794130491797:=0
def tw17549782090644322192:=0
def tw3910438065774126424:=0
def tw17998018333510442574:=0
def tw3220475470113915039:=0
def tw16280174843664183688:=0
def tw6311104894364213173:=0
def tw17846238720694798783:=0
def tw12328450200507861453:=0
def tw18313211948744343467:=0
def tw10986789943196577797:=0
def tw10026869178778713695:=0
def tw13855389845786287090:=0
def tw3228766662146635485:=0
def tw17309911763699742999:=0
def tw16628300987423533299:=0
def tw14543595148702358130:=0
def tw10416267086638369264:=0
def tw14377721448297484697:=0
def tw408969813094761045:=0
def tw13392089457991055322:=0
def tw3674482076128574939:=0
def tw18205537319330263517:=0
def tw17036864327575173657:=0
def tw13090215124650499861:=0
def tw1442553888393009642:=0
def tw1960786027758311421:=0
def tw7879876617241070541:=0
def tw7842892828948200627:=0
def tw5441892098393949330:=0
def tw13092842745778659268:=0
def tw12427365657059357061:=0
def tw8721998371460178466:=0
def tw17959651279504955007:=0
def tw10403588928257700069:=0
def tw8033089622584306002:=0
def tw14520388122751632120:=0
def tw3856558770497773966:=0
def tw8053619130612802639:=0
def tw8784350636190276334:=0
def tw6277436049150298278:=0
def tw11782640380054781878:=0
def tw12394623859065835659:=0
def tw796954548092622802:=0
def tw1155263433705807717:=0
def tw13429612283320122863:=0
def tw9153443892314784618:=0
def tw8923283870209728569:=0
def tw231533511656182251:=0
def tw6114244791961770283:=0
def tw2857637853959742855:=0
def tw13404260864744350583:=0
def tw8572931743568537982:=0
def tw11078939348891983093:=0
def tw2913072793187628144:=0
def tw15670123019817043405:=0
def tw7847052948943145730:=0
end PySem.W.Fast
open PySem PySem.W PyProof.Rows
set_option maxRecDepth 100000 in
set_option maxHeartbeats 0 in
theorem PySem.Challenge.cw_sharetrail_k28_chains_looked_at_holds : PySem.Challenge.rw_sharetrail_k28_chains_looked_at.Holds := by
  w_on;o_law;k_head;(case hw=>w_witness2)
  k_fill
  refine Mi.walk (l:=PySem.Challenge.rw_sharetrail_k28_chains_looked_at) rfl rfl (fun w h Y=>PySem.W.kIn_of Y) rfl ?F
  case F =>
    intro w mg h KX G
    have c_MAKERS:Mi.XR (L2.KOf KX) mg "MAKERS" Mi.Bw:=by
      dsimp only[L2.KOf]
      refine' Mi.Yq KX G ?e ?r
      (case e=>k_is)
      case r=>
        refine' Mi.WW ?l ?z ?r
        (case l=>k_is)
        (case z=>decide)
        case r=>
          refine' Paired.cons ?_ ?_
          ·exact Mi.LX
          refine' Paired.cons ?_ ?_
          ·exact Mi.LX
          refine' Paired.cons ?_ ?_
          ·exact Mi.LX
          refine' Paired.cons ?_ ?_
          ·exact Mi.LX
          exact Paired.nil
    have z_abs:mg "abs"=none:=by
      refine' PySem.W.mg_none_of KX G ?z
      (case z=>k_is)
    have z_all:mg "all"=none:=by
      refine' PySem.W.mg_none_of KX G ?z
      (case z=>k_is)
    have z_bool:mg "bool"=none:=by
      refine' PySem.W.mg_none_of KX G ?z
      (case z=>k_is)
    have z_enumerate:mg "enumerate"=none:=by
      refine' PySem.W.mg_none_of KX G ?z
      (case z=>k_is)
    have z_int:mg "int"=none:=by
      refine' PySem.W.mg_none_of KX G ?z
      (case z=>k_is)
    have z_isinstance:mg "isinstance"=none:=by
      refine' PySem.W.mg_none_of KX G ?z
      (case z=>k_is)
    have z_len:mg "len"=none:=by
      refine' PySem.W.mg_none_of KX G ?z
      (case z=>k_is)
    have z_list:mg "list"=none:=by
      refine' PySem.W.mg_none_of KX G ?z
      (case z=>k_is)
    have z_max:mg "max"=none:=by
      refine' PySem.W.mg_none_of KX G ?z
      (case z=>k_is)
    have z_min:mg "min"=none:=by
      refine' PySem.W.mg_none_of KX G ?z
      (case z=>k_is)
    have z_range:mg "range"=none:=by
      refine' PySem.W.mg_none_of KX G ?z
      (case z=>k_is)
    have z_sorted:mg "sorted"=none:=by
      refine' PySem.W.mg_none_of KX G ?z
      (case z=>k_is)
    have z_str:mg "str"=none:=by
      refine' PySem.W.mg_none_of KX G ?z
      (case z=>k_is)
    have z_sum:mg "sum"=none:=by
      refine' PySem.W.mg_none_of KX G ?z
      (case z=>k_is)
    have z_tuple:mg "tuple"=none:=by
      refine' PySem.W.mg_none_of KX G ?z
      (case z=>k_is)
    have z_zip:mg "zip"=none:=by
      refine' PySem.W.mg_none_of KX G ?z
      (case z=>k_is)
    refine⟨⟨z_abs,z_all,z_bool,z_enumerate,z_int,z_isinstance,z_len,z_list,z_max,z_min,z_range,z_sorted,z_str,z_sum,z_tuple,z_zip⟩,c_MAKERS,?_,?_,?_,?_,?_,?_,?_,?_,?_,?_,?_,?_,?_,?_,?_,?_,?_,?_,?_,?_,?_,?_,?_,?_,?_,?_,?_,?_,?_,?_,?_,?_,?_,?_,?_,?_,?_,?_,?_,?_,?_,?_,?_,?_,?_,?_,?_,?_⟩
    all_goals (refine' Mi.ZP KX G ?a ?l ?c ?k;(case a=>k_is);(case l=>k_is);(case c=>k_is);(case k=>k_is))
end
