import PyProof.Rows.All
import Wide.All
import OpenK.AllK
import Wide.FinOn
import Lean
import PyProof.EqAt
import PyProof.EqKinds
import PyProof.TupleCall
import PyProof.Draws
import PyProof.EnumMake
import PyProof.EnumFor
import PyProof.ZipIter
import PyProof.FactsAll.dict_1
import PyProof.ListMulRoad
import PyProof.NeData
import PyProof.SumWalkG
import PySem.Challenge.RW_sharetrail_k22_sheets_looked_at
set_option Elab.async false
set_option linter.all false
set_option maxRecDepth 100000
set_option maxHeartbeats 4000000
set_option exponentiation.threshold 10000
noncomputable section
namespace L2
open PySem PySem.Spec PyProof.Rows
abbrev Key:=Sum Int Str
noncomputable def OT:Key->Value->Bool
 | .inl k,v=>Value.isInt k v
 | .inr x,v=>Value.isStrOf x v
noncomputable def cH(w:World):Key->Int
 | .inl k=>hashInt k
 | .inr x=>hashStr w x
theorem B7:∀{k:Key} {v:Value},OT k v=true->(∃i t,k=Sum.inl i/\v=Value.int i t)∨(∃x t,k=Sum.inr x/\v=Value.str x t)
  | .inl i,v,h=>by
    obtain⟨t,e⟩:=Value.isInt_shape (k:=i) (v:=v) h
    exact .inl ⟨i,t,rfl,e⟩
  | .inr x,v,h=>by
    obtain⟨t,e⟩:=Value.isStrOf_shape (x:=x) (v:=v) h
    exact .inr ⟨x,t,rfl,e⟩
theorem QQ(i:Int)(t:Tok):OT (.inl i) (.int i t)=true:=by simp[OT,Value.isInt]
theorem QR(x:Str)(t:Tok):OT (.inr x) (.str x t)=true:=by simp[OT,Value.isStrOf]
theorem WV(a b:Int):decide ((Sum.inl a:Key)=Sum.inl b)=(a==b):=by
 by_cases e:a=b
 ·subst e;simp
 ·have h:¬(Sum.inl a:Key)=Sum.inl b:=fun q=>e (Sum.inl.inj q)
  rw[decide_eq_false h]
  exact(beq_eq_false_iff_ne.mpr e).symm
theorem Wr(a b:Str):decide ((Sum.inr a:Key)=Sum.inr b)=decide (a=b):=by
 by_cases e:a=b
 ·subst e;simp
 ·have h:¬(Sum.inr a:Key)=Sum.inr b:=fun q=>e (Sum.inr.inj q)
  rw[decide_eq_false h,decide_eq_false e]
theorem Wq(a:Int)(b:Str):decide ((Sum.inl a:Key)=Sum.inr b)=false:=decide_eq_false (fun q=>nomatch q)
theorem WO(a:Str)(b:Int):decide ((Sum.inr a:Key)=Sum.inl b)=false:=decide_eq_false (fun q=>nomatch q)
noncomputable def Cg(prog:Program)(w:World):PySem.KeyKind prog w Key where
 is:=OT
 hash:=cH w
 inj:=fun v a b ha hb=>by
  rcases B7 ha with⟨i,t,rfl,rfl⟩|⟨x,t,rfl,rfl⟩
  ·rcases B7 hb with⟨j,u,rfl,e⟩|⟨y,u,rfl,e⟩
   ·injection e with e1 _;rw[e1]
   ·exact nomatch e
  ·rcases B7 hb with⟨j,u,rfl,e⟩|⟨y,u,rfl,e⟩
   ·exact nomatch e
   ·injection e with e1 _;rw[e1]
 byValue:=fun k v h=>by
  rcases B7 h with⟨i,t,rfl,rfl⟩|⟨x,t,rfl,rfl⟩<;>rfl
 pyHash:=fun hv h=>by
  rcases B7 hv with⟨i,t,rfl,rfl⟩|⟨x,t,rfl,rfl⟩
  ·exact wpAny_pyHash_int h
  ·exact wpAny_pyHash_str h
 eqBool:=fun hu hv h=>by
  rcases B7 hu with⟨i,t,rfl,rfl⟩|⟨x,t,rfl,rfl⟩
  ·rcases B7 hv with⟨j,u,rfl,rfl⟩|⟨y,u,rfl,rfl⟩
   ·rw[WV]at h;exact wpAny_eqBool_int h
   ·rw[Wq]at h;exact SeqAt.EqAt.int_str i t y u _ _ _ _ h
  ·rcases B7 hv with⟨j,u,rfl,rfl⟩|⟨y,u,rfl,rfl⟩
   ·rw[WO]at h;exact SeqAt.EqAt.str_int x t j u _ _ _ _ h
   ·rw[Wr]at h;exact wpAny_eqBool_str h
 «strs» :=fun k x t v h=>by
  rcases B7 h with⟨i,u,rfl,e⟩|⟨y,u,rfl,e⟩
  ·exact nomatch e
  ·injection e with e1 _
   subst e1
   cases v<;>rfl
theorem NR(prog:Program)(w:World)(i:Int)(t:Tok):(Cg prog w).is (.inl i) (.int i t)=true:=QQ i t
theorem NN(prog:Program)(w:World)(x:Str)(t:Tok):(Cg prog w).is (.inr x) (.str x t)=true:=QR x t
end L2
namespace L2
open PySem PySem.Spec PyProof.Rows
inductive V where
 |non|bl (b:Bool)|int (i:Int)|str (x:Str)|byt (b:Array UInt8)|flt (b:UInt64)|ref (a:Addr)|ty (n:String)
 deriving DecidableEq
def RelV:V->Value->Prop
 | .non,u=>u=Value.none
 | .bl b,u=>u=Value.bool b
 | .int i,u=>∃t,u=Value.int i t
 | .str x,u=>∃t,u=Value.str x t
 | .byt b,u=>∃t,u=Value.bytes b t
 | .flt b,u=>∃t,u=Value.float b t
 | .ref a,u=>u=Value.ref a
 | .ty n,u=>u=Value.type n
abbrev Vals:List V->List Value->Prop:=Paired RelV
theorem Vals.length{xs:List V}{us:List Value}(r:Vals xs us):xs.length=us.length:=Paired.length r
theorem Vals.get:∀{xs:List V} {us:List Value} {i:Nat} {x:V},Vals xs us->xs[i]?=some x->∃u,us[i]?=some u/\RelV x u
  |_,_,_,_,.nil,e=>by simp at e
  |_,_,0,_,.cons r _,e=>by simp at e;subst e;exact⟨_,rfl,r⟩
  | _, _, i + 1, x, .cons _ t, e => by
    obtain⟨u,h1,h2⟩:=Vals.get (i:=i) (x:=x) t (by simpa using e)
    exact⟨u,by simpa using h1,h2⟩
theorem Vals.set{x:V}{u:Value}(r:RelV x u):∀{xs:List V} {us:List Value} (i:Nat),Vals xs us->Vals (xs.set i x) (us.set i u)
 |_,_,_,.nil=>.nil
 |_,_,0,.cons _ t=>.cons r t
 |_,_,i+1,.cons q t=>.cons q (Vals.set r i t)
theorem Vals.append:∀{xs ys:List V} {us ws:List Value},Vals xs us->Vals ys ws->Vals (xs++ys) (us++ws)
 |_,_,_,_,.nil,s=>s
 |_,_,_,_,.cons r t,s=>.cons r (Vals.append t s)
theorem Vals.take:∀{xs:List V} {us:List Value} (n:Nat),Vals xs us->Vals (xs.take n) (us.take n)
 |_,_,0,_=>.nil
 |_,_,_+1,.nil=>.nil
 |_,_,n+1,.cons r t=>.cons r (Vals.take n t)
theorem Vals.drop:∀{xs:List V} {us:List Value} (n:Nat),Vals xs us->Vals (xs.drop n) (us.drop n)
 |_,_,0,r=>r
 |_,_,_+1,.nil=>.nil
 |_,_,n+1,.cons _ t=>Vals.drop n t
def Yc:Option V->Option Value->Prop
 |some v,some u=>RelV v u
 |none,none=>True
 |_,_=>False
def KV{κ:Type}:List (κ×V)->List (κ×Value)->Prop:=Paired fun(p:κ×V) (q:κ×Value)=>p.1=q.1/\RelV p.2 q.2
noncomputable def kV:Key->V
 | .inl i=>.int i
 | .inr x=>.str x
inductive HO where
 |lst (xs:List V)
 |tup (xs:List V)
 |dK (kvs:List (Key×V))|dT (kvs:List (List Key×V))
 |set (S:Int->Bool) (n:Nat)
 |ins (C dx:Addr) (fs:List (Str×V))
 |own (x:Addr)
 |xd (fs:List (Str×V))
 |met (f x:Addr)
 |rng (lo hi:Int)
 |frz (o:Obj) (u:HO)
 |tbl (ps:Array Value)
 |ext (φ:Heap->Prop)
abbrev Hp:=Addr->Option HO
noncomputable def upd(H:Hp)(a:Addr)(o:HO):Hp:=fun b=>if b=a then some o else H b
theorem BG{H:Hp}{a:Addr}{o:HO}:upd H a o a=some o:=by unfold upd;rw[if_pos rfl]
theorem Al{H:Hp}{a b:Addr}{o:HO}(h:b≠a):upd H a o b=H b:=by unfold upd;rw[if_neg h]
theorem BJ{H:Hp}{a b:Addr}{o:HO}(h:H a=some o)(h':H b=none):a≠b:=by
 intro e;subst e;rw[h]at h';cases h'
section
variable(P:Program)(w:World)
def Cn(H:Hp)(h:Heap)(a:Addr):HO->Prop
 | .lst xs=>xs.length≤sizeLine/\∃(its:List Value) (n:Nat),Vals xs its/\h.get? a=some {cls:=.type "list",data:=.seq its.toArray n}
 | .tup xs=>xs.length≤sizeLine/\∃its:List Value,Vals xs its/\IsTup h a its.toArray
 | .dK kvs=>kvs.length≤sizeLine/\(a==sysModules)=false/\∃vs,KV kvs vs/\h.DictOf (Cg P w) a vs
 | .dT kvs=>kvs.length≤sizeLine/\(a==sysModules)=false/\∃xs:List (List Key×Addr×Value),
   Paired (fun(p:List Key×V) (q:List Key×Addr×Value)=>p.1=q.1/\H q.2.1=some (.tup (p.1.map kV))/\RelV p.2 q.2.2) kvs xs/\
   ∃o es ep,h.get? a=some o/\o.ExactDict/\o.data=.dict es ep/\es.toList=xs.map (entryOfKey (tupleKind (Cg P w)))/\(xs.map (·.1)).Nodup
 | .set S n=>h.SetOf (intKind P w) a S n
 | .ins C dx fs=>H dx=some (.own a)/\fs.length≤1000/\dx≠a/\h.get? a=some (PySem.W.instObj C dx)/\
   ∃mA,h.Ns1 dx mA/\(∀f,Yc (fs.lookup f) (mA f))/\PySem.Within mA (fs.map (·.1))
 | .own _=>∃o,h.get? a=some o
 | .xd fs=>∃mA,h.Ns1 a mA/\∀f,Yc (fs.lookup f) (mA f)
 | .rng lo hi=>∃t u v,h.get? a=some {cls:=.type "range",data:=.fields #[.int lo t,.int hi u,.int 1 v]}
 | .frz o u=>h.get? a=some o/\Cn H h a u
 | .tbl ps=>h.get? a=some {cls:=.none,data:=.fields ps}
 | .met f x=>h.get? a=some (PySem.W.methodObj (.ref f) (.ref x))
 | .ext φ=>φ h/\(∃o,h.get? a=some o)/\∀h1 h2:Heap,φ h1->(∀o,h1.get? a=some o->h2.get? a=some o)->φ h2
def HOk(H:Hp)(h:Heap):Prop:=∀a o,H a=some o->Cn P w H h a o
end
section
variable{P:Program}{w:World}{H H':Hp}{h h':Heap}{a:Addr}{o:HO}
theorem Cn.lt(x:Cn P w H h a o):a<h.objs.size:=by
 cases o with
 |lst xs=>obtain⟨_,_,_,_,e⟩:=x;exact Heap.lt_size e
 |tup xs=>obtain⟨_,_,_,p⟩:=x;exact p.lt
 |dK kvs=>obtain⟨_,_,_,_,o,_,_,e,_⟩:=x;exact Heap.lt_size e
 |dT kvs=>obtain⟨_,_,_,_,o,_,_,e,_⟩:=x;exact Heap.lt_size e
 |set S n=>obtain⟨o,_,_,_,e,_⟩:=x;exact Heap.lt_size e
 |ins C dx fs=>obtain⟨_,_,_,e,_⟩:=x;exact Heap.lt_size e
 |own y=>obtain⟨_,e⟩:=x;exact Heap.lt_size e
 |xd fs=>obtain⟨_,⟨_,_,_,e,_⟩,_⟩:=x;exact Heap.lt_size e
 |rng lo hi=>obtain⟨_,_,_,e⟩:=x;exact Heap.lt_size e
 |frz ob u=>obtain⟨e,_⟩:=x;exact Heap.lt_size e
 |tbl ps=>exact Heap.lt_size (show h.get? a=some _ from x)
 |met f y=>exact Heap.lt_size (show h.get? a=some _ from x)
 |ext φ=>obtain⟨_,⟨_,e⟩,_⟩:=x;exact Heap.lt_size e
theorem Paired.mapP{α β:Type}{F G:α->β->Prop}:∀{l₁:List α} {l₂:List β},Paired F l₁ l₂->(∀a b,F a b->G a b)->Paired G l₁ l₂
 |_,_,.nil,_=>.nil
 |_,_,.cons r t,f=>.cons (f _ _ r) (Paired.mapP t f)
theorem Cn.stay(x:Cn P w H h a o)(k:∀b u,(b=a∨H b=some (.own a))->h.get? b=some u->h'.get? b=some u)
    (ho:∀b,H b=some (.own a)->H' b=some (.own a)) (ht:∀b xs,H b=some (.tup xs)->H' b=some (.tup xs)):Cn P w H' h' a o:=by
  induction o with
  |lst xs=>obtain⟨z,its,n,r,e⟩:=x;exact⟨z,its,n,r,k _ _ (.inl rfl) e⟩
  |tup xs=>obtain⟨z,its,r,ob,e,c⟩:=x;exact⟨z,its,r,ob,k _ _ (.inl rfl) e,c⟩
  |dK kvs=>obtain⟨z,y,vs,r,ob,es,ep,e,c⟩:=x;exact⟨z,y,vs,r,ob,es,ep,k _ _ (.inl rfl) e,c⟩
  | dT kvs =>
    obtain⟨z,y,xs,r,ob,es,ep,e,c⟩:=x
    exact⟨z,y,xs,Paired.mapP r fun p q z=>⟨z.1,ht _ _ z.2.1,z.2.2⟩,ob,es,ep,k _ _ (.inl rfl) e,c⟩
  |set S n=>obtain⟨ob,es,ep,t,e,c⟩:=x;exact⟨ob,es,ep,t,k _ _ (.inl rfl) e,c⟩
  | ins C dx fs =>
    obtain⟨d,z,ne,e,mA,⟨od,es,ep,e2,c⟩,r⟩:=x
    exact⟨ho _ d,z,ne,k _ _ (.inl rfl) e,mA,⟨od,es,ep,k _ _ (.inr d) e2,c⟩,r⟩
  |own y=>obtain⟨ob,e⟩:=x;exact⟨ob,k _ _ (.inl rfl) e⟩
  |xd fs=>obtain⟨mA,⟨od,es,ep,e,c⟩,r⟩:=x;exact⟨mA,⟨od,es,ep,k _ _ (.inl rfl) e,c⟩,r⟩
  |rng lo hi=>obtain⟨t,u,v,e⟩:=x;exact⟨t,u,v,k _ _ (.inl rfl) e⟩
  |frz ob u ih=>obtain⟨e,q⟩:=x;exact⟨k _ _ (.inl rfl) e,ih q⟩
  | tbl ps =>
    have e:h.get? a=some {cls:=.none,data:=.fields ps}:=x
    show h'.get? a=some {cls:=.none,data:=.fields ps}
    exact k a _ (.inl rfl) e
  | met f y =>
    have e:h.get? a=some (PySem.W.methodObj (.ref f) (.ref y)):=x
    show h'.get? a=some (PySem.W.methodObj (.ref f) (.ref y))
    exact k a _ (.inl rfl) e
  |ext φ=>obtain⟨p,⟨o,e⟩,st⟩:=x;exact⟨st _ _ p fun o q=>k _ _ (.inl rfl) q,⟨o,k _ _ (.inl rfl) e⟩,st⟩
theorem HOk.lt(x:HOk P w H h)(e:H a=some o):a<h.objs.size:=(x a o e).lt
theorem HOk.fresh(x:HOk P w H h)(e:h.objs.size≤a):H a=none:=by
 cases q:H a with
 |none=>rfl
 |some u=>exact absurd (Nat.lt_of_lt_of_le (x.lt q) e) (Nat.lt_irrefl _)
theorem HOk.kept(x:HOk P w H h)(k:∀b u,h.get? b=some u->h'.get? b=some u):HOk P w H h':=fun a o e=>
 (x a o e).stay (fun b u _ q=>k b u q) (fun _ q=>q) fun _ _ q=>q
theorem HOk.laid(x:HOk P w H h)(k:∀b u,h.get? b=some u->h'.get? b=some u)(hp:h.objs.size≤a)(new:Cn P w (upd H a o) h' a o):HOk P w (upd H a o) h':=fun b u e=>by
 have hn:=x.fresh hp
 by_cases hb:b=a
 ·subst hb;rw[BG]at e;cases e;exact new
 ·rw[Al hb]at e
  exact(x b u e).stay (fun c v _ q=>k c v q) (fun c q=>by rw[Al (BJ q hn)];exact q) fun c xs q=>by rw[Al (BJ q hn)];exact q
end
def Rd(H:Hp)(a:Addr)(u:HO):Prop:=H a=some u∨∃o,H a=some (.frz o u)
theorem Rd.ok{P:Program}{w:World}{H:Hp}{h:Heap}{a:Addr}{u:HO}(r:Rd H a u)(x:HOk P w H h):Cn P w H h a u:=by
 rcases r with r|⟨o,r⟩
 ·exact x a u r
 ·obtain⟨_,q⟩:=x a _ r
  exact q
def Mut:Option HO->Prop
 |some (.lst _)=>True
 |some (.dK _)=>True
 |some (.dT _)=>True
 |some (.set _ _)=>True
 |some (.ins _ _ _)=>True
 |some (.ext _)=>True
 |_=>False
section
variable{P:Program}{w:World}{H:Hp}{h h':Heap}{x e:Addr}{o':HO}
theorem HOk.write(ok:HOk P w H h)(mu:Mut (H x))(he:e=x∨H e=some (.own x))(k:∀b u,b≠e->h.get? b=some u->h'.get? b=some u)(heo:∃u,h'.get? e=some u)
  (new:Cn P w (upd H x o') h' x o'):HOk P w (upd H x o') h':=fun b u q=>by
 have nown:∀c y,H c=some (.own y)->c≠x:=fun c y r z=>by subst z;rw[r]at mu;exact mu
 have ntup:∀c xs,H c=some (.tup xs)->c≠x:=fun c xs r z=>by subst z;rw[r]at mu;exact mu
 by_cases hb:b=x
 ·subst hb;rw[BG]at q;cases q;exact new
 ·rw [Al hb] at q
  by_cases hbe:b=e
  ·have q':H b=some (.own x):=by
    rcases he with z|z
    ·exact absurd (hbe.trans z) hb
    ·rw[hbe];exact z
   rw[q]at q';cases q'
   obtain⟨v,hv⟩:=heo
   exact⟨v,by rw[hbe];exact hv⟩
  ·refine(ok b u q).stay (fun c v hc r=>k c v ?_ r) (fun c r=>by rw[Al (nown c b r)];exact r) fun c xs r=>by rw[Al (ntup c xs r)];exact r
   rcases hc with rfl|hc
   ·exact hbe
   ·rintro rfl
    rcases he with z|z
    ·exact nown c b hc z
    ·rw[hc]at z;cases z;exact hb rfl
end
structure Un(fs ex:List Addr)(H H':Hp)(h h':Heap):Prop where
 keep:∀b o,h.get? b=some o->H b=none->b∉fs->b∉ex->h'.get? b=some o
 slot:∀b o,h.get? b=some o->H b=none->b∈fs->b∉ex->∃sl,h'.get? b=some {o with slots:=sl}
 free:∀b o,h.get? b=some o->H b=none->b∉ex->H' b=none
 there:∀b o,h.get? b=some o->b∉ex->∃o',h'.get? b=some o'
 tups:∀b xs,H b=some (.tup xs)->H' b=some (.tup xs)
 frzs:∀b o u,H b=some (.frz o u)->H' b=some (.frz o u)
 tbls:∀b ps,H b=some (.tbl ps)->∃more,H' b=some (.tbl (ps++more))
section
variable{fs fs' ex ex':List Addr}{H H1 H2:Hp}{h h1 h2 h':Heap}{a x e:Addr}{o:HO}
theorem Un.any(u:Un fs ex H H1 h h1){b:Addr}{ob:Obj}(q:h.get? b=some ob)(n:H b=none)(hx:b∉ex):∃sl,h1.get? b=some {ob with slots:=sl}:=by
 by_cases hb:b∈fs
 ·exact u.slot b ob q n hb hx
 ·exact⟨ob.slots,u.keep b ob q n hb hx⟩
theorem Un.kept(k:∀b u,h.get? b=some u->h'.get? b=some u):Un fs ex H H h h':=
 ⟨fun b ob q _ _ _=>k b ob q,fun b ob q _ _ _=>⟨ob.slots,k b ob q⟩,fun _ _ _ n _=>n,fun b ob q _=>⟨ob,k b ob q⟩,fun _ _ q=>q,fun _ _ _ q=>q,fun _ ps q=>⟨#[],by rw[q];simp⟩⟩
theorem Un.refl:Un fs ex H H h h:=Un.kept fun _ _ q=>q
theorem Un.laid(k:∀b u,h.get? b=some u->h'.get? b=some u)(hp:h.objs.size≤a)(hn:H a=none):Un fs ex H (upd H a o) h h' where
 keep:=fun b u q _ _ _=>k b u q
 slot:=fun b u q _ _ _=>⟨u.slots,k b u q⟩
 free:=fun b u q n _=>by rw[Al (Nat.ne_of_lt (Nat.lt_of_lt_of_le (Heap.lt_size q) hp))];exact n
 there:=fun b u q _=>⟨u,k b u q⟩
 tups:=fun b xs q=>by rw[Al (BJ q hn)];exact q
 frzs:=fun b u xs q=>by rw[Al (BJ q hn)];exact q
 tbls:=fun b ps q=>⟨#[],by rw[Al (BJ q hn),q];simp⟩
theorem Un.write(mu:Mut (H x))(he:e=x∨H e=some (.own x))(k:∀b u,b≠e->h.get? b=some u->h'.get? b=some u)(heo:∃u,h'.get? e=some u):Un fs ex H (upd H x o) h h':=by
 have hx:∀b,H b=none->b≠x:=fun b n z=>by subst z;rw[n]at mu;exact mu
 have hb:∀b,H b=none->b≠e:=fun b n z=>by
  subst z
  rcases he with r|r
  ·exact hx b n r
  ·rw[n]at r;cases r
 have hm:∀b u,H b=some u->¬Mut (some u)->b≠x:=fun b u q nm z=>by subst z;rw[q]at mu;exact nm mu
 refine⟨fun b u q n _ _=>k b u (hb b n) q,fun b u q n _ _=>⟨u.slots,k b u (hb b n) q⟩,fun b u q n _=>by rw[Al (hx b n)];exact n,fun b u q _=>?_,
  fun b xs q=>by rw[Al (hm b _ q fun z=>z)];exact q,fun b u xs q=>by rw[Al (hm b _ q fun z=>z)];exact q,fun b ps q=>⟨#[],by rw[Al (hm b _ q fun z=>z),q];simp⟩⟩
 by_cases hbe:b=e
 ·subst hbe;exact heo
 ·exact⟨u,k b u hbe q⟩
end
noncomputable def trk(h:Heap)(H:Hp):List Addr:=(List.range h.objs.size).filter fun a=>(H a).isSome
noncomputable def Sx(h:Heap)(H:Hp):Heap:=PySem.W.hideAll h (trk h H)
theorem QH(h:Heap)(H:Hp):(Sx h H).objs.size=h.objs.size:=PySem.W.hideAll_size _ _
theorem Rh{h:Heap}{H:Hp}{b:Addr}{o:Obj}(e:h.get? b=some o)(n:H b=none):(Sx h H).get? b=some o:=
 PySem.W.hideAll_get _ e fun hm=>by
  have q:(H b).isSome=true:=(List.mem_filter.mp hm).2
  rw[n]at q;simp at q
theorem VR{h:Heap}{H:Hp}{b:Addr}{o:Obj}(e:(Sx h H).get? b=some o):h.get? b=some o/\H b=none:=by
  have e':h.get? b=some o:=PySem.W.of_hideAll (trk h H) e
  refine⟨e',?_⟩
  cases q:H b with
  |none=>rfl
  | some x =>
    have hm:b∈trk h H:=List.mem_filter.mpr ⟨List.mem_range.mpr (Heap.lt_size e'),by simp[q]⟩
    have z:(Sx h H).get? b=none:=PySem.W.hideAll_none (trk h H) hm
    rw[z]at e;cases e
noncomputable def VF(g h:Heap)(L:Addr):List (Addr×Obj):=(List.range h.objs.size).filterMap fun a=>if a=L∨(g.get? a).isSome=true then none else(h.get? a).map fun o=>(a,o)
noncomputable def rest(g h:Heap)(L d:Addr):List (Addr×Obj):=(VF g h L).filter fun p=>decide (p.1≠d)
end L2
namespace L2
open PySem PySem.Spec PyProof.Rows
structure Mod(K:PySem.W.Frag)(mg:Str->Option Value)(base:Heap):Prop where
 kin:K.In base
 glob:base.Ns mainGlobals mg
 blt:∃mb,base.Ns builtinsNs mb/\∀x:Str,x≠ "__name__"->mb x=bootBuiltins x
 nolimit:base.NoLimit
structure Cx where
 prog:Program
 w:World
 K:PySem.W.Frag
 mg:Str->Option Value
 base:Heap
 A:Around
 N:List Str
 s₀:Shared
 H₀:Hp
 env:Env
 outer:List Env
 stack:List Env
 ex:List Addr
 fn:Str->Bool
 calm:Bool
 pn:List (Addr×Obj)
 xe:Value->Shared->Prop
noncomputable def frs(l:List Env):List Addr:=l.filterMap (·.frame)
abbrev Cx.fs(X:Cx):List Addr:=frs X.outer
def Vis(sc:Scope)(x:Str):Prop:=sc.names.lookup x=some .local∨sc.names.lookup x=some .cell∨sc.names.lookup x=some .free
def Loc(sc:Scope)(x:Str):Prop:=sc.names.lookup x=some .local∨sc.names.lookup x=some .cell
def Look(env:Env)(h:Heap)(m:Str->Option Value)(x:Str)(u:Value):Prop:=
 (env.kindOf x=some .local/\m x=some u)∨((env.kindOf x=some .cell∨env.kindOf x=some .free)/\∃c,env.cells.lookup x=some c/\h.IsCell c (some u))
structure Cx.Ok(X:Cx):Prop where
 mod:Mod X.K X.mg X.base
 kind:X.env.scope.kind=.function
 glob:X.env.globals=mainGlobals
 blt:X.env.builtins=builtinsNs
 above:X.s₀.heap.objs.size≤X.env.locals
 inj:∀x y c,X.env.cells.lookup x=some c->X.env.cells.lookup y=some c->x=y
 has:∀x,(X.env.kindOf x=some .cell∨X.env.kindOf x=some .free)->∃c,X.env.cells.lookup x=some c
 cab:∀x c,X.fn x=true->X.env.cells.lookup x=some c->X.s₀.heap.objs.size≤c
 hd:X.calm=true->X.A.handled=none
 frames:X.A.frames=some X.stack
 stk:X.stack=X.outer∨(X.stack=X.env::X.outer/\X.env.frame=some X.env.locals)
 exf:∀b∈X.ex,b≠X.env.locals/\∀x c,X.env.cells.lookup x=some c->c≠b
 bs:∀b o,X.base.get? b=some o->X.s₀.heap.get? b=some o/\X.H₀ b=none
 bsz:X.base.objs.size≤X.s₀.heap.objs.size
 noex:∀b o,X.base.get? b=some o->b∉X.ex
 exfs:∀b∈X.ex,b∉X.fs
 funs:X.s₀.heap.FunFrames X.base X.outer
 frf:∀b∈X.fs,X.H₀ b=none
structure Inv(X:Cx)(pins:List (Addr×Obj))(σ:List (Option V))(H:Hp)(s:Shared):Prop where
 ok:X.Ok
 os:s.os=X.s₀.os
 bare:AllBare s.gens
 base:Un X.fs X.ex X.H₀ H X.s₀.heap s.heap
 loc:∃m,s.heap.Ns X.env.locals m/\∀(i:Nat) (x:Str) (v:V),X.N[i]?=some x->σ[i]?=some (some v)->Vis X.env.scope x->∃u,RelV v u/\Look X.env s.heap m x u
 cell:∀x c,X.env.cells.lookup x=some c->∃v,s.heap.IsCell c v
 free:H X.env.locals=none
 freeC:∀x c,X.env.cells.lookup x=some c->H c=none
 pin:∀p∈X.pn++pins,s.heap.get? p.1=some p.2/\H p.1=none/\p.1≠X.env.locals/\p.1∉X.fs/\∀v,p.2.data≠.cell v
 hok:HOk X.prog X.w H s.heap
 len:σ.length=X.N.length
section
variable{X:Cx}{pins:List (Addr×Obj)}{σ:List (Option V)}{H H':Hp}{s:Shared}{h':Heap}
theorem Cx.Ok.nofr(ok:X.Ok){b:Addr}{o:Obj}(e:X.base.get? b=some o):b∉X.fs:=fun hb=>by
 have:=(ok.funs.mem hb).1
 rw[e]at this;cases this
theorem Inv.bs(I:Inv X pins σ H s):∀b o,X.base.get? b=some o->s.heap.get? b=some o/\H b=none:=fun b o e=>
 ⟨I.base.keep b o (I.ok.bs b o e).1 (I.ok.bs b o e).2 (I.ok.nofr e) (I.ok.noex b o e),I.base.free b o (I.ok.bs b o e).1 (I.ok.bs b o e).2 (I.ok.noex b o e)⟩
theorem Inv.bk(I:Inv X pins σ H s):∀b o,X.base.get? b=some o->s.heap.get? b=some o:=fun b o e=>(I.bs b o e).1
theorem Inv.mod(I:Inv X pins σ H s):Mod X.K X.mg X.base:=I.ok.mod
theorem Inv.kIn(I:Inv X pins σ H s):X.K.In s.heap:=I.ok.mod.kin.keeps I.bk
theorem Inv.lt(I:Inv X pins σ H s):X.env.locals<s.heap.objs.size:=let⟨_,hn,_⟩:=I.loc;hn.lt
theorem Inv.sz(I:Inv X pins σ H s):X.s₀.heap.objs.size≤s.heap.objs.size:=Nat.le_trans I.ok.above (Nat.le_of_lt I.lt)
theorem Inv.nofs(I:Inv X pins σ H s){a:Addr}(h:s.heap.objs.size≤a):a∉X.fs:=fun hb=>by
 obtain⟨_,o,ho,_⟩:=I.ok.funs.mem hb
 exact absurd (Nat.lt_of_lt_of_le (Heap.lt_size ho) (Nat.le_trans I.sz h)) (Nat.lt_irrefl _)
theorem Inv.cne(I:Inv X pins σ H s):∀x c,X.env.cells.lookup x=some c->c≠X.env.locals:=fun x c e z=>by
 obtain⟨v,o,ho,hd⟩:=I.cell x c e
 obtain⟨m,⟨o',es,ep,ho',hd',_⟩,_⟩:=I.loc
 rw[z,ho']at ho;cases ho;rw[hd']at hd;cases hd
theorem Inv.funs(I:Inv X pins σ H s):s.heap.FunFrames X.base X.outer:=by
  have all:∀(l:List Env),(∀b∈frs l,b∈X.fs)->X.s₀.heap.FunFrames X.base l->s.heap.FunFrames X.base l:=by
    intro l
    induction l with
    |nil=>intro _ _;trivial
    | cons env r ih =>
      intro hs hl
      obtain⟨hk,⟨L,o,hf,hn,ho,hd⟩,hr⟩:=hl
      have hL:L∈X.fs:=hs L (by unfold frs;rw[List.filterMap_cons,hf];exact List.mem_cons_self)
      obtain⟨sl,e⟩:=I.base.slot L o ho (I.ok.frf L hL) hL fun z=>I.ok.exfs L z hL
      exact⟨hk,⟨L,_,hf,hn,e,hd⟩,ih (fun b hb=>hs b (by unfold frs;rw[List.filterMap_cons,hf];exact List.mem_cons_of_mem _ hb)) hr⟩
  exact all X.outer (fun _ hb=>hb) I.ok.funs
theorem Inv.stack(I:Inv X pins σ H s):s.heap.FunFrames X.base X.stack:=by
 rcases I.ok.stk with e|⟨e,hf⟩
 ·rw[e];exact I.funs
 ·rw[e]
  obtain⟨m,hn,_⟩:=I.loc
  refine .cons (by rw[I.ok.kind];decide) hf hn ?_ I.funs
  exact Heap.get?_none_of_le (Nat.le_trans I.ok.bsz I.ok.above)
theorem Inv.stkSub(I:Inv X pins σ H s):∀b∈frs X.stack,b∈X.env.locals::X.fs:=fun b hb=>by
 rcases I.ok.stk with e|⟨e,hf⟩
 ·rw[e]at hb;exact List.mem_cons_of_mem _ hb
 ·rw[e]at hb
  unfold frs at hb
  rw[List.filterMap_cons,hf]at hb
  exact hb
theorem Inv.stkFree(I:Inv X pins σ H s):∀b∈frs X.stack,H b=none:=fun b hb=>by
 rcases List.mem_cons.mp (I.stkSub b hb)with e|hb
 ·rw[e];exact I.free
 ·obtain⟨_,o,ho,_⟩:=I.ok.funs.mem hb
  exact I.base.free b o ho (I.ok.frf b hb) fun z=>I.ok.exfs b z hb
theorem Inv.step{g':Array GenState}{t':Nat}{d':Drawn}{ch:List Addr}(I:Inv X pins σ H s)
  (hch:∀b∈ch,(b∈X.ex∨X.s₀.heap.objs.size≤b)/\b≠X.env.locals/\(∀x c,X.env.cells.lookup x=some c->c≠b)/\∀p∈X.pn++pins,p.1≠b)
  (keep:∀b o,b≠X.env.locals->b∉X.fs->b∉ch->s.heap.get? b=some o->H b=none->h'.get? b=some o)
  (slot:∀b o,b≠X.env.locals->b∈X.fs->b∉ch->s.heap.get? b=some o->H b=none->∃sl,h'.get? b=some {o with slots:=sl}) (free:∀b o,b∉ch->s.heap.get? b=some o->H b=none->H' b=none)
  (there:∀b o,b∉ch->s.heap.get? b=some o->∃o',h'.get? b=some o')
  (tups:∀b xs,H b=some (.tup xs)->H' b=some (.tup xs)) (frzs:∀b o u,H b=some (.frz o u)->H' b=some (.frz o u)) (tbls:∀b ps,H b=some (.tbl ps)->∃more,H' b=some (.tbl (ps++more)))
  (ns:∀m,s.heap.Ns X.env.locals m->h'.Ns X.env.locals m) (hok:HOk X.prog X.w H' h') (hg:AllBare g'):
  Inv X pins σ H' {s with heap:=h',gens:=g',drawn:=d',toks:=t'}:=by
 have neL:∀b o,X.s₀.heap.get? b=some o->b≠X.env.locals:=fun b o e=>Nat.ne_of_lt (Nat.lt_of_lt_of_le (Heap.lt_size e) I.ok.above)
 have neC:∀b o,X.s₀.heap.get? b=some o->b∉X.ex->b∉ch:=fun b o e hx hb=>by
  rcases(hch b hb).1 with z|z
  ·exact hx z
  ·exact absurd (Nat.lt_of_lt_of_le (Heap.lt_size e) z) (Nat.lt_irrefl _)
 have cellK:∀x c,X.env.cells.lookup x=some c->∀v,s.heap.IsCell c v->h'.IsCell c v:=fun x c e v ⟨o,ho,hd⟩=>by
  have nch:c∉ch:=fun z=>(hch c z).2.2.1 x c e rfl
  by_cases hc:c∈X.fs
  ·obtain⟨sl,q⟩:=slot c o (I.cne x c e) hc nch ho (I.freeC x c e)
   exact⟨_,q,hd⟩
  ·exact⟨o,keep c o (I.cne x c e) hc nch ho (I.freeC x c e),hd⟩
 refine⟨I.ok,I.os,hg,⟨fun b o e n hb hx=>?_,fun b o e n hb hx=>?_,fun b o e n hx=>?_,fun b o e hx=>?_,fun b xs e=>tups b xs (I.base.tups b xs e),fun b o xs e=>frzs b o xs (I.base.frzs b o xs e),fun b ps e=>?_⟩,?_,fun x c e=>?_,?_,fun x c e=>?_,fun p hp=>?_,hok,I.len⟩
 ·exact keep b o (neL b o e) hb (neC b o e hx) (I.base.keep b o e n hb hx) (I.base.free b o e n hx)
 ·obtain⟨sl,e1⟩:=I.base.slot b o e n hb hx
  obtain⟨sl',e2⟩:=slot b _ (neL b o e) hb (neC b o e hx) e1 (I.base.free b o e n hx)
  exact⟨sl',e2⟩
 ·obtain⟨o',e1⟩:=I.base.there b o e hx
  exact free b o' (neC b o e hx) e1 (I.base.free b o e n hx)
 ·obtain⟨o',e1⟩:=I.base.there b o e hx
  exact there b o' (neC b o e hx) e1
 ·obtain⟨m1,e1⟩:=I.base.tbls b ps e
  obtain⟨m2,e2⟩:=tbls b _ e1
  exact⟨m1++m2,by rw[e2,Array.append_assoc]⟩
 ·obtain⟨m,hn,hl⟩:=I.loc
  refine⟨m,ns m hn,fun i x v e1 e2 e3=>?_⟩
  obtain⟨u,r,l⟩:=hl i x v e1 e2 e3
  refine⟨u,r,?_⟩
  rcases l with l|⟨k,c,e,z⟩
  ·exact .inl l
  ·exact .inr ⟨k,c,e,cellK x c e _ z⟩
 ·obtain⟨v,z⟩:=I.cell x c e
  exact⟨v,cellK x c e v z⟩
 ·obtain⟨m,⟨o,_,_,ho,_⟩,_⟩:=I.loc
  exact free _ o (fun z=>(hch _ z).2.1 rfl) ho I.free
 ·obtain⟨v,o,ho,hd⟩:=I.cell x c e
  exact free c o (fun z=>(hch c z).2.2.1 x c e rfl) ho (I.freeC x c e)
 ·obtain⟨e,n,ne,nf,d⟩:=I.pin p hp
  have nch:p.1∉ch:=fun z=>(hch p.1 z).2.2.2 p hp rfl
  exact⟨keep p.1 p.2 ne nf nch e n,free p.1 p.2 nch e n,ne,nf,d⟩
theorem Inv.un{t':Nat}(I:Inv X pins σ H s)(u:Un X.fs [] H H' s.heap h')(hok:HOk X.prog X.w H' h'):Inv X pins σ H' {s with heap:=h',toks:=t'}:=by
 obtain⟨m,⟨o,es,ep,ho,r⟩,_⟩:=id I.loc
 obtain⟨sl,hL⟩:=u.any ho I.free (by simp)
 exact I.step (g':=s.gens) (d':=s.drawn) (ch:=[]) (fun _ z=>nomatch z) (fun b o _ hb _ e n=>u.keep b o e n hb (by simp)) (fun b o _ hb _ e n=>u.slot b o e n hb (by simp)) (fun b o _ e n=>u.free b o e n (by simp)) (fun b o _ e=>u.there b o e (by simp)) u.tups u.frzs u.tbls (fun m' hm=>by
  obtain⟨o',es',ep',ho',r'⟩:=hm
  rw[ho]at ho';cases ho'
  exact⟨_,es',ep',hL,r'⟩) hok I.bare
theorem Inv.call{g':Array GenState}{t':Nat}{d':Drawn}{ch:List Addr}(I:Inv X pins σ H s)(u:Un (frs X.stack) ch H H' s.heap h')(hok:HOk X.prog X.w H' h')(hg:AllBare g')
  (hch:∀b∈ch,(b∈X.ex∨X.s₀.heap.objs.size≤b)/\b≠X.env.locals/\(∀x c,X.env.cells.lookup x=some c->c≠b)/\∀p∈X.pn++pins,p.1≠b):
  Inv X pins σ H' {s with heap:=h',gens:=g',drawn:=d',toks:=t'}:=by
 obtain⟨m,⟨o,es,ep,ho,r⟩,_⟩:=id I.loc
 obtain⟨sl,hL⟩:=u.any ho I.free fun z=>(hch _ z).2.1 rfl
 exact I.step (ch:=ch) hch (fun b o hL hb hc e n=>u.keep b o e n (fun z=>(List.mem_cons.mp (I.stkSub b z)).elim hL hb) hc) (fun b o _ _ hc e n=>u.any e n hc) (fun b o hc e n=>u.free b o e n hc) (fun b o hc e=>u.there b o e hc) u.tups u.frzs u.tbls (fun m' hm=>by
  obtain⟨o',es',ep',ho',r'⟩:=hm
  rw[ho]at ho';cases ho'
  exact⟨_,es',ep',hL,r'⟩) hok hg
theorem Inv.turned{t':Nat}{it:Addr}(I:Inv X pins σ H s)(k:∀b o,b≠it->s.heap.get? b=some o->h'.get? b=some o)(hn:H it=none)(hL:it≠X.env.locals)
  (h1:it∈X.ex∨X.s₀.heap.objs.size≤it) (h2:∀x c,X.env.cells.lookup x=some c->c≠it) (h3:∀p∈X.pn++pins,p.1≠it):Inv X pins σ H {s with heap:=h',toks:=t'}:=by
 have nit:∀b u,H b=some u->b≠it:=fun b u e z=>by rw[z,hn]at e;cases e
 refine I.step (g':=s.gens) (d':=s.drawn) (ch:=[it]) (fun b hb=>?_) (fun b o _ _ hc e _=>k b o (fun z=>hc (by simp[z])) e) (fun b o _ _ hc e _=>⟨o.slots,k b o (fun z=>hc (by simp[z])) e⟩) (fun _ _ _ _ n=>n)
  (fun b o hc e=>⟨o,k b o (fun z=>hc (by simp[z])) e⟩) (fun _ _ e=>e) (fun _ _ _ e=>e) (fun b ps e=>⟨#[],by rw[e];simp⟩) (fun m hm=>?_) (fun b u e=>?_) I.bare
 ·have e:b=it:=by simpa using hb
  subst e
  exact⟨h1,hL,h2,h3⟩
 ·obtain⟨o,es,ep,ho,r⟩:=hm
  exact⟨o,es,ep,k _ o (Ne.symm hL) ho,r⟩
 ·refine(I.hok b u e).stay (fun c v hc q=>k c v ?_ q) (fun _ q=>q) fun _ _ q=>q
  rcases hc with z|z
  ·rw[z];exact nit b u e
  ·exact nit c _ z
theorem Inv.tok(I:Inv X pins σ H s)(t:Nat):Inv X pins σ H {s with toks:=t}:=I.un (h':=s.heap) (t':=t) Un.refl I.hok
theorem Inv.kept{t':Nat}(I:Inv X pins σ H s)(k:∀b u,s.heap.get? b=some u->h'.get? b=some u):Inv X pins σ H {s with heap:=h',toks:=t'}:=I.un (Un.kept k) (I.hok.kept k)
theorem Inv.laid{a:Addr}{o:HO}{t':Nat}(I:Inv X pins σ H s)(k:∀b u,s.heap.get? b=some u->h'.get? b=some u)(hp:s.heap.objs.size≤a)(new:Cn X.prog X.w (upd H a o) h' a o):
  Inv X pins σ (upd H a o) {s with heap:=h',toks:=t'}:=I.un (Un.laid k hp (I.hok.fresh hp)) (I.hok.laid k hp new)
theorem Inv.write{x e:Addr}{o:HO}{t':Nat}(I:Inv X pins σ H s)(mu:Mut (H x))(he:e=x∨H e=some (.own x))(k:∀b u,b≠e->s.heap.get? b=some u->h'.get? b=some u)(heo:∃u,h'.get? e=some u)
  (new:Cn X.prog X.w (upd H x o) h' x o):Inv X pins σ (upd H x o) {s with heap:=h',toks:=t'}:=I.un (Un.write mu he k heo) (I.hok.write mu he k heo new)
theorem Inv.pins_of{pins':List (Addr×Obj)}(I:Inv X pins σ H s)(h:∀p∈pins',s.heap.get? p.1=some p.2/\H p.1=none/\p.1≠X.env.locals/\p.1∉X.fs/\∀v,p.2.data≠.cell v):Inv X pins' σ H s:=
 ⟨I.ok,I.os,I.bare,I.base,I.loc,I.cell,I.free,I.freeC,fun p hp=>(List.mem_append.mp hp).elim (fun z=>I.pin p (List.mem_append_left _ z)) (h p),I.hok,I.len⟩
theorem Ni{N:List Str}(hN:N.Nodup){i j:Nat}{x:Str}(a:N[i]?=some x)(b:N[j]?=some x):i=j:=by
 obtain⟨h1,e1⟩:=List.getElem?_eq_some_iff.mp a
 obtain⟨h2,e2⟩:=List.getElem?_eq_some_iff.mp b
 exact(List.getElem_inj hN).mp (e1.trans e2.symm)
theorem L3{M:Model}{A:Around}{E:Value->Shared->Prop}{i:Nat}{x:Str}{v:V}{u:Value}{Q:Unit->Shared->Prop}(I:Inv X pins σ H s)(hN:X.N.Nodup)(hi:X.N[i]?=some x)(hx:Loc X.env.scope x)(r:RelV v u)
  (h:∀s',Inv X pins (σ.set i (some v)) H s'->(∃a,Heap.SameBut a s.heap s'.heap/\(a=X.env.locals∨X.env.cells.lookup x=some a))->Q () s') (hf:X.fn x=true∨X.env.scope.names.lookup x=some .local:=by first|exact .inl rfl|exact .inr rfl|assumption):wpAny M A (storeName X.env x u) Q E s:=by
 obtain⟨m,hn,hl⟩:=id I.loc
 have hcls:(X.env.scope.kind== .class||(X.env.scope.kind== .module && X.env.locals !=X.env.globals))=false:=by rw[I.ok.kind];rfl
 have hiσ:i<σ.length:=by rw[I.len];exact(List.getElem?_eq_some_iff.mp hi).1
 have cne:=I.cne
 have tracked:∀{a:Addr} {h':Heap},(∃o,s.heap.get? a=some o/\H a=none)->Heap.SameBut a s.heap h'->HOk X.prog X.w H h':=fun{a h'} ha hs b ob e=>by
  obtain⟨_,_,hfree⟩:=ha
  refine(I.hok b ob e).stay (fun c w' hc q=>(hs.2 c ?_).trans q) (fun _ q=>q) fun _ _ q=>q
  rintro rfl
  rcases hc with rfl|hc
  ·rw[hfree]at e;cases e
  ·rw[hfree]at hc;cases hc
 rcases hx with hk|hk
 ·refine wpAny_storeName_local hk hn (fun h' hn' hs=>?_) hcls
  obtain⟨oL,_,_,hoL,_⟩:=id hn
  refine h _ ⟨I.ok,I.os,I.bare,⟨fun b o e n hb hx=>?_,fun b o e n hb hx=>?_,I.base.free,fun b o e hx=>?_,I.base.tups,I.base.frzs,I.base.tbls⟩,⟨_,hn',fun j y v' e1 e2 e3=>?_⟩,fun y c e=>?_,I.free,I.freeC,fun p hp=>?_,tracked ⟨oL,hoL,I.free⟩ hs,by simpa using I.len⟩ ⟨_,hs,.inl rfl⟩
  ·exact(hs.2 b (Nat.ne_of_lt (Nat.lt_of_lt_of_le (Heap.lt_size e) I.ok.above))).trans (I.base.keep b o e n hb hx)
  ·obtain⟨sl,e1⟩:=I.base.slot b o e n hb hx
   exact⟨sl,(hs.2 b (Nat.ne_of_lt (Nat.lt_of_lt_of_le (Heap.lt_size e) I.ok.above))).trans e1⟩
  ·obtain⟨o',e1⟩:=I.base.there b o e hx
   exact⟨o',(hs.2 b (Nat.ne_of_lt (Nat.lt_of_lt_of_le (Heap.lt_size e) I.ok.above))).trans e1⟩
  ·by_cases hj:j=i
   ·subst hj
    rw[hi]at e1;cases e1
    rw[List.getElem?_set_self hiσ]at e2
    cases e2
    exact⟨u,r,.inl ⟨hk,by simp⟩⟩
   ·rw[List.getElem?_set_ne (Ne.symm hj)]at e2
    obtain⟨u',r',q⟩:=hl j y v' e1 e2 e3
    refine⟨u',r',?_⟩
    rcases q with⟨k,e⟩|⟨k,c,e,z⟩
    ·refine .inl ⟨k,?_⟩
     have:y≠x:=fun e=>hj (Ni hN e1 (e▸hi))
     simp[this,e]
    ·exact .inr ⟨k,c,e,z.sameBut hs (cne y c e)⟩
  ·obtain⟨w',z⟩:=I.cell y c e
   exact⟨w',z.sameBut hs (cne y c e)⟩
  ·obtain⟨e,n,ne,nf,d⟩:=I.pin p hp
   exact⟨(hs.2 p.1 ne).trans e,n,ne,nf,d⟩
 ·have hfn:X.fn x=true:=by
   rcases hf with z|z
   ·exact z
   ·rw[z]at hk;cases hk
  obtain⟨c,hc⟩:=I.ok.has x (.inl hk)
  obtain⟨w',z⟩:=I.cell x c hc
  refine wpAny_storeName_cell I.ok.kind hk hc z (fun h' hc' hs=>?_)
  obtain⟨oc,hoc,hocd⟩:=id z
  refine h {s with heap:=h'} ⟨I.ok,I.os,I.bare,⟨fun b o e n hb hx=>?_,fun b o e n hb hx=>?_,I.base.free,fun b o e hx=>?_,I.base.tups,I.base.frzs,I.base.tbls⟩,⟨m,hn.sameBut hs (Ne.symm (cne x c hc)),fun j y v' e1 e2 e3=>?_⟩,fun y c' e=>?_,I.free,I.freeC,fun p hp=>?_,tracked ⟨oc,hoc,I.freeC x c hc⟩ hs,by simpa using I.len⟩ ⟨c,hs,.inr hc⟩
  ·exact(hs.2 b (Nat.ne_of_lt (Nat.lt_of_lt_of_le (Heap.lt_size e) (I.ok.cab x c hfn hc)))).trans (I.base.keep b o e n hb hx)
  ·obtain⟨sl,e1⟩:=I.base.slot b o e n hb hx
   exact⟨sl,(hs.2 b (Nat.ne_of_lt (Nat.lt_of_lt_of_le (Heap.lt_size e) (I.ok.cab x c hfn hc)))).trans e1⟩
  ·obtain⟨o',e1⟩:=I.base.there b o e hx
   exact⟨o',(hs.2 b (Nat.ne_of_lt (Nat.lt_of_lt_of_le (Heap.lt_size e) (I.ok.cab x c hfn hc)))).trans e1⟩
  ·by_cases hj:j=i
   ·subst hj
    rw[hi]at e1;cases e1
    rw[List.getElem?_set_self hiσ]at e2
    cases e2
    exact⟨u,r,.inr ⟨.inl hk,c,hc,hc'⟩⟩
   ·rw[List.getElem?_set_ne (Ne.symm hj)]at e2
    obtain⟨u',r',q⟩:=hl j y v' e1 e2 e3
    refine⟨u',r',?_⟩
    rcases q with q|⟨k,c',e,z'⟩
    ·exact .inl q
    ·refine .inr ⟨k,c',e,z'.sameBut hs ?_⟩
     rintro rfl
     exact hj (Ni hN e1 (I.ok.inj _ _ _ e hc▸hi))
  ·by_cases hcc:c'=c
   ·subst hcc;exact⟨_,hc'⟩
   ·obtain⟨w2,z2⟩:=I.cell y c' e
    exact⟨w2,z2.sameBut hs hcc⟩
  ·obtain⟨e,n,ne,nf,d⟩:=I.pin p hp
   refine⟨(hs.2 p.1 ?_).trans e,n,ne,nf,d⟩
   intro q
   rw[q,hoc]at e
   have q':oc=p.2:=Option.some.inj e
   exact d w' (by rw[←q'];exact hocd)
theorem IG{M:Model}{A:Around}{E:Value->Shared->Prop}{i:Nat}{x:Str}{v:V}{u:Value}{Q:Unit->Shared->Prop}(I:Inv X pins σ H s)(hN:X.N.Nodup)(hi:X.N[i]?=some x)(hx:Loc X.env.scope x)(r:RelV v u)
  (h:∀s',Inv X pins (σ.set i (some v)) H s'->Q () s') (hf:X.fn x=true∨X.env.scope.names.lookup x=some .local:=by first|exact .inl rfl|exact .inr rfl|assumption):wpAny M A (storeName X.env x u) Q E s:=
 L3 I hN hi hx r (fun s' I' _=>h s' I') hf
theorem Inv.call'{s':Shared}{ch:List Addr}(I:Inv X pins σ H s)(ho:s'.os=s.os)(u:Un (frs X.stack) ch H H' s.heap s'.heap)(hok:HOk X.prog X.w H' s'.heap)(hg:AllBare s'.gens)
  (hch:∀b∈ch,(b∈X.ex∨X.s₀.heap.objs.size≤b)/\b≠X.env.locals/\(∀x c,X.env.cells.lookup x=some c->c≠b)/\∀p∈X.pn++pins,p.1≠b):Inv X pins σ H' s':=by
 obtain⟨h',g',d',t',o'⟩:=s'
 have e:o'=s.os:=ho
 subst e
 exact I.call (g':=g') (t':=t') (d':=d') u hok hg hch
end
abbrev XK:=Value->Option Addr->Hp->Prop
abbrev St:=List (Option V)
abbrev VK:=V->Hp->Prop
abbrev TE:=St->Hp->VK->Prop
abbrev TT:=St->Hp->(Bool->Hp->Prop)->Prop
abbrev TA:=St->Hp->(List V->Hp->Prop)->Prop
structure Ends where
 nx:St->Hp->Prop
 rt:VK
 bk:St->Hp->Prop:=fun _ _=>False
 ct:St->Hp->Prop:=fun _ _=>False
abbrev TS:=Ends->St->Hp->Prop
def EP(X:Cx)(pins:List (Addr×Obj))(σ:St)(Q:VK)(u:Value)(s':Shared):Prop:=∃v H',Inv X pins σ H' s'/\RelV v u/\Q v H'
def TP(X:Cx)(pins:List (Addr×Obj))(σ:St)(Q:Bool->Hp->Prop)(b:Bool)(s':Shared):Prop:=∃H',Inv X pins σ H' s'/\Q b H'
def AP(X:Cx)(pins:List (Addr×Obj))(σ:St)(Q:List V->Hp->Prop)(us:List Value)(s':Shared):Prop:=∃vs H',Inv X pins σ H' s'/\Vals vs us/\Q vs H'
def SP(X:Cx)(pins:List (Addr×Obj))(D:Ends)(f:Flow)(s':Shared):Prop:=
 match f with
 | .next=>∃σ' H',Inv X pins σ' H' s'/\D.nx σ' H'
 | .brk=>∃σ' H',Inv X pins σ' H' s'/\D.bk σ' H'
 | .cont=>∃σ' H',Inv X pins σ' H' s'/\D.ct σ' H'
 | .ret u=>∃v σ' H',Inv X pins σ' H' s'/\RelV v u/\D.rt v H'
def PE(X:Cx)(e:Expr)(t:TE):Prop:=
 ∀(pins:List (Addr×Obj)) (s:Shared) (σ:St) (H:Hp) (Q:VK),Inv X pins σ H s->t σ H Q->wpAny (model X.prog X.w) X.A (eval e X.env) (EP X pins σ Q) X.xe s
def PT(X:Cx)(e:Expr)(t:TT):Prop:=
 ∀(pins:List (Addr×Obj)) (s:Shared) (σ:St) (H:Hp) (Q:Bool->Hp->Prop),Inv X pins σ H s->t σ H Q->wpAny (model X.prog X.w) X.A (isTrue e X.env (eval e X.env)) (TP X pins σ Q) X.xe s
def PW(X:Cx)(e:Expr)(t:TT):Prop:=
 ∀(whole:Sem Value) (pins:List (Addr×Obj)) (s:Shared) (σ:St) (H:Hp) (Q:Bool->Hp->Prop),Inv X pins σ H s->t σ H Q->wpAny (model X.prog X.w) X.A (isTrue e X.env whole) (TP X pins σ Q) X.xe s
theorem PW.pt{X:Cx}{e:Expr}{t:TT}(h:PW X e t):PT X e t:=h _
def PA(X:Cx)(es:List Expr)(t:TA):Prop:=
 ∀(pos:Pos) (pins:List (Addr×Obj)) (s:Shared) (σ:St) (H:Hp) (Q:List V->Hp->Prop),Inv X pins σ H s->t σ H Q->wpAny (model X.prog X.w) X.A (spliced (backTo pos (starEach es X.env))) (AP X pins σ Q) X.xe s
def PS(X:Cx)(st:Stmt)(t:TS):Prop:=
 ∀(pins:List (Addr×Obj)) (s:Shared) (σ:St) (H:Hp) (D:Ends),Inv X pins σ H s->t D σ H->wpAny (model X.prog X.w) X.A (exec st X.env) (SP X pins D) X.xe s
def PSs(X:Cx)(st:List Stmt)(t:TS):Prop:=
 ∀(pins:List (Addr×Obj)) (s:Shared) (σ:St) (H:Hp) (D:Ends),Inv X pins σ H s->t D σ H->wpAny (model X.prog X.w) X.A (execs st X.env) (SP X pins D) X.xe s
theorem thn{α:Type}{t:Sem α}{Q Q':α->Shared->Prop}{M:Model}{A:Around}{E:Value->Shared->Prop}{s:Shared}(h:wpAny M A t Q E s)(hQ:∀a s,Q a s->Q' a s):wpAny M A t Q' E s:=wpAny_mono h hQ fun _ _ x=>x
end L2
namespace L2
open PySem PySem.Spec PyProof.Rows
section
variable{X:Cx}
noncomputable def bP(i:Nat):TE:=fun σ H Q=>∃v,σ[i]?=some (some v)/\Q v H
noncomputable def tC(v:V):TE:=fun _ H Q=>Q v H
theorem Xy{i:Nat}{x:Str}{pos:Pos}(hN:X.N[i]?=some x)(hv:Vis X.env.scope x)(hd:(x==("__debug__":Str))=false:=by decide)(hcd:(x==("__classdict__":Str))=false:=by decide):PE X (.Name x pos) (bP i):=by
 intro pins s σ H Q I h
 obtain⟨v,e,h⟩:=h
 obtain⟨m,hn,hl⟩:=I.loc
 obtain⟨u,r,l⟩:=hl i x v hN e hv
 have fin:EP X pins σ Q u s:=⟨v,H,I,r,h⟩
 rcases l with⟨hk,hm⟩|⟨hk,c,hc,hcell⟩
 ·exact wpAny_Name (wpAny_loadName_local I.ok.kind hk hn hm fin) hd
 ·rcases hk with hk|hk
  ·exact wpAny_Name (wpAny_loadName_cell I.ok.kind hk hc hcell fin) hd
  ·exact wpAny_Name (wpAny_loadName_free I.ok.kind hk hc hcell fin hcd) hd
theorem Wc{i j pos}:PE X (.Constant (.int i) j pos) (tC (.int i)):=fun _ _ _ H _ I h=>wpAny_Constant_int ⟨.int i,H,I.tok _,⟨_,rfl⟩,h⟩
theorem Zb{b j pos}:PE X (.Constant (.bool b) j pos) (tC (.bl b)):=fun _ _ _ H _ I h=>Constant_bool ⟨.bl b,H,I,rfl,h⟩
theorem XM{j pos}:PE X (.Constant .none j pos) (tC .non):=fun _ _ _ H _ I h=>Constant_none ⟨.non,H,I,rfl,h⟩
theorem Xj{x j pos}:PE X (.Constant (.str x) j pos) (tC (.str x)):=fun _ _ _ H _ I h=>Calls.Constant_str ⟨.str x,H,I.tok _,⟨_,rfl⟩,h⟩
def Gl(X:Cx)(x:Str):Prop:=X.env.kindOf x=some .globalImplicit
theorem QV{E:Value->Shared->Prop}{pins:List (Addr×Obj)}{s:Shared}{σ:St}{H:Hp}{x:Str}{u:Value}{pos:Pos}{Q:Value->Shared->Prop}(I:Inv X pins σ H s)(hg:Gl X x)(hm:X.mg x=some u)(h:Q u s)
  (hd:(x==("__debug__":Str))=false:=by decide):wpAny (model X.prog X.w) X.A (eval (.Name x pos) X.env) Q E s:=
 Calls.Name_function_global I.ok.kind hg (Calls.loadGlobal_global (by rw[I.ok.glob];exact I.mod.glob.keeps I.bk) hm h) hd
theorem Ka{E:Value->Shared->Prop}{pins:List (Addr×Obj)}{s:Shared}{σ:St}{H:Hp}{x:Str}{u:Value}{pos:Pos}{Q:Value->Shared->Prop}(I:Inv X pins σ H s)(hg:Gl X x)(hm:X.mg x=none)(hv:bootBuiltins x=some u)(h:Q u s)
  (hn:x≠ "__name__":=by decide) (hd:(x==("__debug__":Str))=false:=by decide):wpAny (model X.prog X.w) X.A (eval (.Name x pos) X.env) Q E s:=by
 obtain⟨mb,h1,h2⟩:=I.mod.blt
 exact Calls.Name_function_global I.ok.kind hg (Calls.loadGlobal_builtin (by rw[I.ok.glob];exact I.mod.glob.keeps I.bk) hm (by rw[I.ok.blt];exact h1.keeps I.bk) ((h2 x hn).trans hv) h) hd
theorem U2{x:Str}{v:V}{u:Value}{pos:Pos}(hg:Gl X x)(hm:X.mg x=some u)(r:RelV v u)(hd:(x==("__debug__":Str))=false:=by decide):PE X (.Name x pos) (tC v):=
 fun _ _ _ H _ I h=>QV I hg hm ⟨v,H,I,r,h⟩ hd
theorem Uk{x:Str}{v:V}{u:Value}{pos:Pos}(hg:Gl X x)(hm:X.mg x=none)(hv:bootBuiltins x=some u)(r:RelV v u)(hn:x≠ "__name__":=by decide)(hd:(x==("__debug__":Str))=false:=by decide):PE X (.Name x pos) (tC v):=
 fun _ _ _ H _ I h=>Ka I hg hm hv ⟨v,H,I,r,h⟩ hn hd
variable{a b:Expr}{ta tb:TE}{pos:Pos}
noncomputable def tB(t:TE):TT:=fun σ H Q=>t σ H fun x H1=>∃c,x=.bl c/\Q c H1
theorem XI{e:Expr}{t:TE}(h:PE X e t)(he:∀whole,isTrue e X.env whole=(do let v←whole;standAt e.pos;holding [v] (truthy v)):=by intro _;rfl):PT X e (tB t):=by
 intro pins s σ H Q I hw
 refine isTrue_plain (thn (h pins s σ H _ I hw) fun v s1 ⟨x,H1,I1,r1,q1⟩=>?_) (he _)
 obtain⟨d,rfl,q⟩:=q1
 cases r1
 exact wpAny_truthy_bool ⟨H1,I1,q⟩
variable{tA tB':TT}{rest:List Expr}
noncomputable def cG(t u:TT):TT:=fun σ H Q=>t σ H fun c H1=>if c=true then u σ H1 Q else Q false H1
noncomputable def tOr(t u:TT):TT:=fun σ H Q=>t σ H fun c H1=>if c=true then Q true H1 else u σ H1 Q
noncomputable def bI(t:TT):TT:=fun σ H Q=>t σ H fun c H1=>Q (!c) H1
theorem Um(ha:PT X a tA):PW X (.BoolOp .And [a] pos) tA:=by
 intro wh pins s σ H Q I h
 refine isTrue_and (thn (ha pins s σ H Q I h) fun c s1 e=>?_)
 cases c with
 |true=>exact isTrue_and_nil e
 |false=>exact e
theorem Wt(ha:PT X a tA):PW X (.BoolOp .Or [a] pos) tA:=by
 intro wh pins s σ H Q I h
 refine isTrue_or (thn (ha pins s σ H Q I h) fun c s1 e=>?_)
 cases c with
 |false=>exact isTrue_or_nil e
 |true=>exact e
theorem Xq(ha:PT X a tA)(hb:PW X (.BoolOp .And (b::rest) pos) tB'):PW X (.BoolOp .And (a::b::rest) pos) (cG tA tB'):=by
 intro wh pins s σ H Q I h
 refine isTrue_and (thn (ha pins s σ H _ I h) fun c s1 ⟨H1,I1,q1⟩=>?_)
 cases c with
 |true=>exact hb wh pins s1 σ H1 Q I1 q1
 |false=>exact⟨H1,I1,q1⟩
theorem Z8(ha:PT X a tA)(hb:PW X (.BoolOp .Or (b::rest) pos) tB'):PW X (.BoolOp .Or (a::b::rest) pos) (tOr tA tB'):=by
 intro wh pins s σ H Q I h
 refine isTrue_or (thn (ha pins s σ H _ I h) fun c s1 ⟨H1,I1,q1⟩=>?_)
 cases c with
 |true=>exact⟨H1,I1,q1⟩
 |false=>exact hb wh pins s1 σ H1 Q I1 q1
theorem X7(ha:PT X a tA):PT X (.UnaryOp .Not a pos) (bI tA):=by
 intro pins s σ H Q I h
 exact isTrue_not (ha pins s σ H (fun c H1=>Q (!c) H1) I h)
noncomputable def Z2(ta tb:TE):TE:=fun σ H Q=>ta σ H fun x H1=>∃c,x=.bl c/\if c=true then tb σ H1 Q else Q (.bl false) H1
noncomputable def Zy(ta:TE):TE:=fun σ H Q=>ta σ H fun x H1=>∃c,x=.bl c/\Q (.bl (!c)) H1
theorem Wl{op}{t:TE}(h:PE X a t):PE X (.BoolOp op [a] pos) t:=fun pins s σ H Q I hw=>BoolOp_one (h pins s σ H Q I hw)
theorem Xr(ha:PE X a ta)(hb:PE X (.BoolOp .And (b::rest) pos) tb):PE X (.BoolOp .And (a::b::rest) pos) (Z2 ta tb):=by
 intro pins s σ H Q I h
 refine BoolOp_and (thn (ha pins s σ H _ I h) fun v s1 ⟨x,H1,I1,r1,q1⟩=>?_)
 obtain⟨c,rfl,q1⟩:=q1
 cases r1
 refine wpAny_truthy_bool ?_
 cases c with
 |true=>exact hb pins s1 σ H1 Q I1 q1
 |false=>exact⟨.bl false,H1,I1,rfl,q1⟩
theorem XO(ha:PE X a ta):PE X (.UnaryOp .Not a pos) (Zy ta):=by
 intro pins s σ H Q I h
 refine UnaryOp_ (thn (ha pins s σ H _ I h) fun v s1 ⟨x,H1,I1,r1,q1⟩=>?_)
 obtain⟨c,rfl,q1⟩:=q1
 cases r1
 exact not_of (wpAny_truthy_bool ⟨.bl (!c),H1,I1,rfl,q1⟩)
end
end L2
namespace L2
open PySem PySem.Spec PyProof.Rows
def SqL(K:PySem.W.Frag)(H:Hp)(a:Addr)(xs:List V):Prop:=
 Rd H a (.lst xs)∨
  ∃(o:Obj) (its:Array Value) (n:Nat),K.lookup a=some o/\o.cls=.type "list" /\o.dict=none/\o.data=.seq its n/\its.size≤sizeLine/\Vals xs its.toList
def SqT(K:PySem.W.Frag)(H:Hp)(a:Addr)(xs:List V):Prop:=
 Rd H a (.tup xs)∨
  ∃(o:Obj) (its:Array Value) (n:Nat),K.lookup a=some o/\o.cls=.type "tuple" /\o.data=.seq its n/\its.size≤sizeLine/\Vals xs its.toList
noncomputable def bw:Value->Option V
 | .none=>some .non
 | .bool b=>some (.bl b)
 | .int i _=>some (.int i)
 | .str x _=>some (.str x)
 | .bytes b _=>some (.byt b)
 | .float b _=>some (.flt b)
 | .ref a=>some (.ref a)
 | .type n=>some (.ty n)
 |_=>none
theorem RelV.abs{x:V}{u:Value}(r:RelV x u):bw u=some x:=by
 cases x with
 |non=>cases r;rfl
 |bl _=>cases r;rfl
 |int _=>obtain⟨t,rfl⟩:=r;rfl
 |str _=>obtain⟨t,rfl⟩:=r;rfl
 |byt _=>obtain⟨t,rfl⟩:=r;rfl
 |flt _=>obtain⟨t,rfl⟩:=r;rfl
 |ref _=>cases r;rfl
 |ty _=>cases r;rfl
theorem RelV.inj{x y:V}{u:Value}(r:RelV x u)(q:RelV y u):x=y:=Option.some.inj (r.abs.symm.trans q.abs)
theorem Vals.inj:∀{xs ys:List V} {us:List Value},Vals xs us->Vals ys us->xs=ys
 |_,_,_,.nil,.nil=>rfl
 |_,_,_,.cons r t,.cons r' t'=>by rw[r.inj r',Vals.inj t t']
section
variable{X:Cx}{pins:List (Addr×Obj)}{σ:St}{H:Hp}{s:Shared}{a:Addr}{xs ys:List V}
theorem SqL.of{K:PySem.W.Frag}(h:H a=some (.lst xs)):SqL K H a xs:=.inl (.inl h)
theorem SqT.of{K:PySem.W.Frag}(h:H a=some (.tup xs)):SqT K H a xs:=.inl (.inl h)
theorem Inv.list(I:Inv X pins σ H s)(h:SqL X.K H a xs):∃its:List Value,Vals xs its/\PlainL s.heap a its.toArray/\xs.length≤sizeLine:=by
 rcases h with h|⟨o,its,n,hk,hc,hd,hs,hz,r⟩
 ·obtain⟨z,its,n,r,e⟩:=h.ok I.hok
  exact⟨its,r,⟨_,n,e,rfl,rfl,rfl⟩,z⟩
 ·refine⟨its.toList,r,⟨o,n,I.kIn a o hk,hc,hd,by simpa using hs⟩,?_⟩
  have e:=r.length
  simp only[Array.length_toList]at e
  omega
theorem Inv.tuple(I:Inv X pins σ H s)(h:SqT X.K H a xs):∃its:List Value,Vals xs its/\IsTup s.heap a its.toArray/\xs.length≤sizeLine:=by
 rcases h with h|⟨o,its,n,hk,hc,hs,hz,r⟩
 ·obtain⟨z,its,r,p⟩:=h.ok I.hok
  exact⟨its,r,p,z⟩
 ·refine⟨its.toList,r,⟨o,I.kIn a o hk,hc,n,by simpa using hs⟩,?_⟩
  have e:=r.length
  simp only[Array.length_toList]at e
  omega
theorem Inv.list_inj(I:Inv X pins σ H s)(h:SqL X.K H a xs)(h':SqL X.K H a ys):xs=ys:=by
 obtain⟨its,r,⟨o,n,e,_,_,d⟩,_⟩:=I.list h
 obtain⟨its',r',⟨o',n',e',_,_,d'⟩,_⟩:=I.list h'
 rw[e]at e';cases e'
 rw[d]at d'
 injection d' with d1 _
 have:its=its':=by simpa using congrArg Array.toList d1
 subst this
 exact r.inj r'
theorem Inv.tuple_inj(I:Inv X pins σ H s)(h:SqT X.K H a xs)(h':SqT X.K H a ys):xs=ys:=by
 obtain⟨its,r,⟨o,e,_,n,d⟩,_⟩:=I.tuple h
 obtain⟨its',r',⟨o',e',_,n',d'⟩,_⟩:=I.tuple h'
 rw[e]at e';cases e'
 rw[d]at d'
 injection d' with d1 _
 have:its=its':=by simpa using congrArg Array.toList d1
 subst this
 exact r.inj r'
end
abbrev Cx.wish(X:Cx)(E:Value->Shared->Prop):Cx:={X with xe:=E}
abbrev Cx.nox(X:Cx):Cx:=X.wish fun _ _=>False
theorem Cx.Ok.wish{X:Cx}(ok:X.Ok)(E:Value->Shared->Prop):(X.wish E).Ok:=
 ⟨ok.mod,ok.kind,ok.glob,ok.blt,ok.above,ok.inj,ok.has,ok.cab,ok.hd,ok.frames,ok.stk,ok.exf,ok.bs,ok.bsz,ok.noex,ok.exfs,ok.funs,ok.frf⟩
theorem Cx.Ok.unwish{X:Cx}{E:Value->Shared->Prop}(ok:(X.wish E).Ok):X.Ok:=
 ⟨ok.mod,ok.kind,ok.glob,ok.blt,ok.above,ok.inj,ok.has,ok.cab,ok.hd,ok.frames,ok.stk,ok.exf,ok.bs,ok.bsz,ok.noex,ok.exfs,ok.funs,ok.frf⟩
section
variable{X:Cx}{pins:List (Addr×Obj)}{σ:St}{H:Hp}{s:Shared}{E:Value->Shared->Prop}
theorem Inv.wish(I:Inv X pins σ H s)(E:Value->Shared->Prop):Inv (X.wish E) pins σ H s:=⟨I.ok.wish E,I.os,I.bare,I.base,I.loc,I.cell,I.free,I.freeC,I.pin,I.hok,I.len⟩
theorem Inv.unwish(I:Inv (X.wish E) pins σ H s):Inv X pins σ H s:=⟨I.ok.unwish,I.os,I.bare,I.base,I.loc,I.cell,I.free,I.freeC,I.pin,I.hok,I.len⟩
theorem SP.unwish{D:Ends}{f:Flow}{s':Shared}(h:SP (X.wish E) pins D f s'):SP X pins D f s':=by
 cases f with
 |next=>obtain⟨σ',H',I,q⟩:=h;exact⟨σ',H',I.unwish,q⟩
 |brk=>obtain⟨σ',H',I,q⟩:=h;exact⟨σ',H',I.unwish,q⟩
 |cont=>obtain⟨σ',H',I,q⟩:=h;exact⟨σ',H',I.unwish,q⟩
 |ret u=>obtain⟨v,σ',H',I,r,q⟩:=h;exact⟨v,σ',H',I.unwish,r,q⟩
theorem PSs.nox{st:List Stmt}{t:TS}(h:PSs X.nox st t):PSs X st t:=fun pins s σ H D I hw=>
 wpAny_mono (h pins s σ H D (I.wish _) hw) (fun _ _ q=>q.unwish) fun _ _ z=>False.elim z
end
section
variable{X:Cx}{st:Stmt}{rest:List Stmt}{t u:TS}{e:Expr}{te:TE}{pos:Pos}
noncomputable def ZJ:TS:=fun D σ H=>D.nx σ H
noncomputable def bN(t u:TS):TS:=fun D σ H=>t {D with nx:=u D} σ H
theorem U9:PSs X [] ZJ:=fun _ _ σ H _ I h=>wpAny_execs_nil ⟨σ,H,I,h⟩
theorem SW(h1:PS X st t)(h2:PSs X rest u):PSs X (st::rest) (bN t u):=by
  intro pins s σ H D I h
  refine wpAny_execs_cons (thn (h1 pins s σ H {D with nx:=u D} I h) fun f s1 q=>?_)
  cases f with
  | next =>
    obtain⟨σ',H',I',q⟩:=q
    exact h2 pins s1 σ' H' D I' q
  |ret v=>exact q
  |brk=>exact q
  |cont=>exact q
theorem Vi(h1:PS X st t):PSs X [st] t:=by
 intro pins s σ H D I h
 refine wpAny_execs_cons (thn (h1 pins s σ H D I h) fun f s1 q=>?_)
 cases f with
 |next=>exact wpAny_execs_nil q
 |ret v=>exact q
 |brk=>exact q
 |cont=>exact q
theorem Inv.quiet{pins:List (Addr×Obj)}{σ:St}{H:Hp}{s:Shared}(I:Inv X pins σ H s):interactive X.env=false:=by simp[interactive,I.ok.kind]
noncomputable def Za(te:TE):TS:=fun D σ H=>te σ H fun _ H1=>D.nx σ H1
theorem U7(he:PE X e te)(hs:swapsWith e none pos.line X.env=pure false:=by rfl):PS X (.Expr e pos) (Za te):=by
 intro pins s σ H D I h
 exact wpAny_Expr_any (thn (he pins s σ H _ I h) fun v s1 ⟨x,H1,I1,r1,q1⟩=>⟨σ,H1,I1,q1⟩) I.quiet hs
noncomputable def ba(te:TE):TS:=fun D σ H=>te σ H D.rt
theorem W0(he:PE X e te):PS X (.Return (some e) pos) (ba te):=by
 intro pins s σ H D I h
 exact wpAny_Return_some (thn (he pins s σ H _ I h) fun v s1 ⟨x,H1,I1,r1,q1⟩=>⟨x,σ,H1,I1,r1,q1⟩)
noncomputable def cP(c:TT)(t u:TS):TS:=fun D σ H=>c σ H fun b H1=>if b=true then t D σ H1 else u D σ H1
theorem Zw{c:Expr}{a b:List Stmt}{tc:TT}(hc:PT X c tc)(ha:PSs X a t)(hb:PSs X b u):PS X (.If c a b pos) (cP tc t u):=by
 intro pins s σ H D I h
 refine wpAny_If (thn (hc pins s σ H _ I h) fun d s1 ⟨H1,I1,q1⟩=>?_)
 cases d with
 |true=>exact ha pins s1 σ H1 D I1 q1
 |false=>exact hb pins s1 σ H1 D I1 q1
end
abbrev TG:=V->St->Hp->(St->Hp->Prop)->Prop
abbrev TGs:=List V->St->Hp->(St->Hp->Prop)->Prop
def PG(X:Cx)(target:Expr)(t:TG):Prop:=
 ∀ (pins : List (Addr × Obj)) (s : Shared) (σ : St) (H : Hp) (v : V) (u : Value) (Q : St -> Hp -> Prop), Inv X pins σ H s -> RelV v u -> t v σ H Q ->
  wpAny (model X.prog X.w) X.A (assign target X.env u) (fun _ s'=>∃σ' H',Inv X pins σ' H' s'/\Q σ' H') X.xe s
def PGs(X:Cx)(ts:List Expr)(t:TGs):Prop:=
 ∀ (pins : List (Addr × Obj)) (s : Shared) (σ : St) (H : Hp) (vs : List V) (us : List Value) (Q : St -> Hp -> Prop), Inv X pins σ H s -> Vals vs us -> t vs σ H Q ->
  wpAny (model X.prog X.w) X.A (assignInOrder ((assignEach ts X.env).map (·.2)) us) (fun _ s'=>∃σ' H',Inv X pins σ' H' s'/\Q σ' H') X.xe s
abbrev ZI:=V->V->V->Hp->(Hp->Prop)->Prop
def a9(X:Cx)(t:ZI):Prop:=
 ∀ (pins : List (Addr × Obj)) (s : Shared) (σ : St) (H : Hp) (o i v : V) (ov iv u : Value) (Q : Hp -> Prop), Inv X pins σ H s -> RelV o ov -> RelV i iv -> RelV v u -> t o i v H Q ->
  wpAny (model X.prog X.w) X.A (setItem ov iv u) (fun _ s'=>∃H',Inv X pins σ H' s'/\Q H') X.xe s
section
variable{X:Cx}{pos:Pos}
noncomputable def Ve(i:Nat):TG:=fun v σ H Q=>Q (σ.set i (some v)) H
theorem VA{i:Nat}{x:Str}(hN:X.N.Nodup)(hi:X.N[i]?=some x)(hx:Loc X.env.scope x)(hf:X.fn x=true∨X.env.scope.names.lookup x=some .local:=by first|exact .inl rfl|exact .inr rfl|assumption):PG X (.Name x pos) (Ve i):=by
 intro pins s σ H v u Q I r h
 exact wpAny_assign_Name (IG I hN hi hx r (fun s' I'=>⟨_,H,I',h⟩) hf)
noncomputable def bB:TGs:=fun vs σ H Q=>vs=[]/\Q σ H
noncomputable def Xn(t:TG)(u:TGs):TGs:=fun vs σ H Q=>∃v r,vs=v::r/\t v σ H fun σ' H'=>u r σ' H' Q
theorem Vv:PGs X [] bB:=by
 intro pins s σ H vs us Q I r h
 obtain⟨e,h⟩:=h
 subst e
 cases r
 exact assignInOrder_nil ⟨σ,H,I,h⟩
theorem RA{e:Expr}{es:List Expr}{t:TG}{u:TGs}(h1:PG X e t)(h2:PGs X es u)
    (hs:(assignEach (e::es) X.env).map (·.2)=assign e X.env::(assignEach es X.env).map (·.2):=by rfl):PGs X (e::es) (Xn t u):=by
  intro pins s σ H vs us Q I r h
  obtain⟨v,vr,e1,h⟩:=h
  subst e1
  cases r with
  | cons r rr =>
    rw[hs]
    refine assignInOrder_cons (thn (h1 pins s σ H _ _ _ I r h) fun _ s1 ⟨σ1,H1,I1,q1⟩=>?_)
    exact h2 pins s1 σ1 H1 _ _ Q I1 rr q1
noncomputable def bW(K:PySem.W.Frag)(n:Nat)(t:TGs):TG:=fun v σ H Q=>∃a xs,v=.ref a/\SqT K H a xs/\xs.length=n/\t xs σ H Q
theorem XE{es:List Expr}{k:Nat}{t:TGs}{n:Nat}(hc:X.calm=true)(h:PGs X es t)
  (hn:(assignEach es X.env).length=n:=by rfl) (hst:(assignEach es X.env).findIdx? (·.1)=none:=by rfl):PG X (.Tuple es k pos) (bW X.K n t):=by
 intro pins s σ H v u Q I r hw
 obtain⟨a,xs,e1,hq,hl,hw⟩:=hw
 subst e1
 cases r
 obtain⟨its,rv,ht,hz⟩:=I.tuple hq
 refine assign_Tuple_tuple (I.ok.hd hc) ht (by simp[hn,←hl,rv.length]) hst fun h' hx=>?_
 have I1:Inv X pins σ H {s with heap:=h'}:=I.kept (t':=s.toks) fun b o e=>hx b o (Nat.ne_of_lt (Heap.lt_size e)) e
 exact h pins _ σ H xs _ Q I1 (by simpa using rv) hw
noncomputable def cB(to ti:TE)(t:ZI):TG:=fun v σ H Q=>to σ H fun o H1=>ti σ H1 fun i H2=>t o i v H2 fun H3=>Q σ H3
theorem Xb{o i:Expr}{to ti:TE}{t:ZI}(ho:PE X o to)(hi:PE X i ti)(hs:a9 X t)
  (ha:∀v,assign (.Subscript o i pos) X.env v=(do
   let ov←holding [v] (eval o X.env)
   let iv←holding [v,ov] (eval i X.env)
   standAt pos
   holding [v,ov,iv] (setItem ov iv v)
   release [v,ov,iv] []):=by intro _;rfl):PG X (.Subscript o i pos) (cB to ti t):=by
 intro pins s σ H v u Q I r h
 rw[ha]
 refine wpAny_bind (wpAny_holding (thn (ho pins s σ H _ I h) fun ov s1 ⟨x,H1,I1,r1,q1⟩=>?_))
 refine wpAny_bind (wpAny_holding (thn (hi pins s1 σ H1 _ I1 q1) fun iv s2 ⟨y,H2,I2,r2,q2⟩=>?_))
 refine wpAny_bind (wpAny_standAt (wpAny_bind (wpAny_holding (thn (hs pins s2 σ H2 x y v ov iv u _ I2 r1 r2 r q2) fun _ s3 ⟨H3,I3,q3⟩=>?_))))
 exact wpAny_release ⟨σ,H3,I3,q3⟩
noncomputable def ZF(te:TE)(g:TG):TS:=fun D σ H=>te σ H fun x H1=>g x σ H1 D.nx
theorem Tt{tg e:Expr}{te:TE}{g:TG}(he:PE X e te)(hg:PG X tg g)(hs:swapsWithSole [tg] e pos.line X.env=pure false:=by rfl)(hw:swappedStores [tg] e X.env=pure none:=by rfl)
  (h1:(assignEach [tg] X.env).map (·.2)=[assign tg X.env]:=by rfl):PS X (.Assign [tg] e pos) (ZF te g):=by
 intro pins s σ H D I h
 refine wpAny_Assign_stores (thn (he pins s σ H _ I h) fun v s1 ⟨x,H1,I1,r1,q1⟩=>?_) hs hw
 rw[h1]
 exact thn (hg pins s1 σ H1 x v _ I1 r1 q1) fun _ s2 q=>q
theorem W2{i:Nat}{x:Str}{e:Expr}{te:TE}{pos':Pos}(hN:X.N.Nodup)(hi:X.N[i]?=some x)(hx:Loc X.env.scope x)(he:PE X e te)(hs:swapsWith e (some (.Name x pos')) pos.line X.env=pure false:=by rfl)(hf:X.fn x=true∨X.env.scope.names.lookup x=some .local:=by first|exact .inl rfl|exact .inr rfl|assumption):
  PS X (.Assign [.Name x pos'] e pos) (ZF te (Ve i)):=by
 intro pins s σ H D I h
 refine wpAny_Assign_Name (thn (he pins s σ H _ I h) fun v s1 ⟨y,H1,I1,r1,q1⟩=>?_) hs
 exact IG I1 hN hi hx r1 (fun s2 I2=>⟨_,H1,I2,q1⟩) hf
noncomputable def cK(i j:Nat)(ta:TA):TS:=fun D σ H=>ta σ H fun vs H1=>∃v w,vs=[v,w]/\D.nx ((σ.set i (some v)).set j (some w)) H1
theorem WK{i j:Nat}{x y:Str}{a b:Expr}{ta:TA}{px py pt:Pos}{kt k2 pt2}(hc:X.calm=true)(hN:X.N.Nodup)(hi:X.N[i]?=some x)(hj:X.N[j]?=some y)(hij:i≠j)
    (hx:X.env.scope.names.lookup x=some .local) (hy:X.env.scope.names.lookup y=some .local) (ha:PA X [a,b] ta)
    (hw:swappedStores [.Tuple [.Name x px,.Name y py] kt pt] (.Tuple [a,b] k2 pt2) X.env=pure (some [x,y]))
    (hs:swapsWithSole [.Tuple [.Name x px,.Name y py] kt pt] (.Tuple [a,b] k2 pt2) pos.line X.env=pure false:=by rfl):
    PS X (.Assign [.Tuple [.Name x px,.Name y py] kt pt] (.Tuple [a,b] k2 pt2) pos) (cK i j ta):=by
  intro pins s σ H D I h
  rw[exec_Assign_arm]
  refine wpAny_bind (wpAny_standAt ?_)
  rw[hs]
  refine wpAny_bind (wpAny_pure ?_)
  rw[if_neg (by decide)]
  refine wpAny_bind (Tuple_ (thn (ha _ pins s σ H _ I h) fun us s1 ⟨vs,H1,I1,r1,q1⟩=>?_))
  obtain⟨v,w,e1,q1⟩:=q1
  subst e1
  obtain ⟨u1, u2, rfl, rv, rw'⟩ : ∃ u1 u2, us = [u1, u2] /\ RelV v u1 /\ RelV w u2 := by
    cases r1 with
    | cons p q =>
      cases q with
      | cons p' q' =>
        cases q'
        exact⟨_,_,rfl,p,p'⟩
  refine wpAny_newObj_type ?_ (by show 2≤sizeLine;decide)
  have I2:Inv X pins σ H1 {s1 with heap:=s1.heap.push {cls:=.type "tuple",data:=.seq [u1,u2].toArray}}:=I1.kept (t':=s1.toks) fun b o e=>Heap.get?_push_of_some _ e
  rw[hw]
  refine wpAny_bind (wpAny_pure ?_)
  show wpAny (model X.prog X.w) X.A (do rule "assign.swapped-stores"; let items←unpackItems (.ref s1.heap.objs.size) 2 none;assignInOrder [fun v=>bindName X.env y v,fun v=>bindName X.env x v] items.reverse;pure Flow.next) _ _ _
  refine wpAny_bind (wpAny_rule (wpAny_bind (unpackItems_tuple (items:= #[u1,u2]) (I.ok.hd hc) (IsTup.new s1.heap _) fun h' hx'=>?_)))
  have I3:=I2.kept (h':=h') (t':=s1.toks) fun b o e=>hx' b o (Nat.ne_of_lt (Heap.lt_size e)) e
  show wpAny _ _ (assignInOrder [fun v=>bindName X.env y v,fun v=>bindName X.env x v] [u2,u1] >>= fun _=>pure Flow.next) _ _ _
  refine wpAny_bind (assignInOrder_cons (wpAny_bindName (IG I3 hN hj (.inl hy) rw' (fun s2 I4=>?_) (.inr hy))))
  refine assignInOrder_cons (wpAny_bindName (IG I4 hN hi (.inl hx) rv (fun s3 I5=>assignInOrder_nil (wpAny_pure ?_)) (.inr hx)))
  rw[List.set_comm _ _ (Ne.symm hij)]at I5
  exact⟨_,H1,I5,q1⟩
end
section
variable{X:Cx}{pos:Pos}
noncomputable def WT(c:TT)(tb:TS):TS:=fun D σ H=>∃W:Nat->St->Hp->Prop,(∃m,W m σ H)/\∀m σ H,W m σ H->
 c σ H fun b H1=>if b=true then∃N:St->Hp->Prop,(∀σ' H',N σ' H'->∃m',m'<m/\W m' σ' H')/\tb {D with nx:=N,ct:=N,bk:=D.nx} σ H1 else D.nx σ H1
theorem R6{c:Expr}{body:List Stmt}{tc:TT}{tb:TS}(hp:PassesOwn (model X.prog X.w) X.A X.env X.xe)(hc:PT X c tc)(hb:PSs X body tb):PS X (.While c body [] pos) (WT tc tb):=by
  intro pins s σ H D I h
  obtain⟨W,⟨m0,w0⟩,turn⟩:=h
  refine wpAny_While (codeAny_whileLoop (fun n s'=>∃σ' H',Inv X pins σ' H' s'/\W n σ' H') ?_ m0 ⟨σ,H,I,w0⟩)
  rintro n s1 ⟨σ1,H1,I1,w1⟩
  refine wpAny_passesOwn hp (thn (hc pins s1 σ1 H1 _ I1 (turn n σ1 H1 w1)) fun b s2 ⟨H2,I2,q2⟩=>?_)
  cases b with
  | true =>
    obtain⟨N,hN,q2⟩:=q2
    rw[if_pos rfl]
    refine wpAny_passesOwn hp (thn (hb pins s2 σ1 H2 _ I2 q2) fun f s3 q3=>?_)
    cases f with
    | next =>
      obtain⟨σ3,H3,I3,n3⟩:=q3
      obtain⟨m',hm,w3⟩:=hN σ3 H3 n3
      exact⟨m',hm,σ3,H3,I3,w3⟩
    | cont =>
      obtain⟨σ3,H3,I3,n3⟩:=q3
      obtain⟨m',hm,w3⟩:=hN σ3 H3 n3
      exact⟨m',hm,σ3,H3,I3,w3⟩
    |brk=>exact q3
    |ret v=>exact q3
  | false =>
    rw[if_neg Bool.false_ne_true]
    exact wpAny_execs_nil ⟨σ1,H2,I2,q2⟩
end
structure It where
 go:Nat->Hp->Prop
 yld:Nat->Hp->V->Hp->Prop
 stop:Nat->Hp->Prop
def Nb(X:Cx)(pins:List (Addr×Obj))(H:Hp)(b:Addr):Prop:=
 H b=none/\b≠X.env.locals/\b∉X.fs/\(b∈X.ex∨X.s₀.heap.objs.size≤b)/\(∀x c,X.env.cells.lookup x=some c->c≠b)/\∀p∈X.pn++pins,p.1≠b
theorem Inv.fpOk{X:Cx}{pins:List (Addr×Obj)}{σ:St}{H H':Hp}{s:Shared}{b:Addr}(I:Inv X pins σ H s)(hb:s.heap.objs.size≤b)(hn:H' b=none):Nb X pins H' b:=by
 refine⟨hn,Nat.ne_of_gt (Nat.lt_of_lt_of_le I.lt hb),I.nofs hb,.inr (Nat.le_trans I.sz hb),fun x c e z=>?_,fun p hp z=>?_⟩
 ·obtain⟨v,q⟩:=I.cell x c e
  exact absurd (Nat.lt_of_lt_of_le q.lt (by rw[z];exact hb)) (Nat.lt_irrefl _)
 ·exact absurd (Nat.lt_of_lt_of_le (Heap.lt_size (I.pin p hp).1) (by rw[z];exact hb)) (Nat.lt_irrefl _)
structure Turn(P:Program)(w:World)(K:PySem.W.Frag)(tg:Expr)(J:It)(fp:List Addr)(it:Addr)(tn:Nat->Heap->Prop):Prop where
 mem:it∈fp
 obj:∀i h,tn i h->∀b∈fp,∃o,h.get? b=some o/\∀v,o.data≠.cell v
 keep:∀i h h',tn i h->(∀b∈fp,∀o,h.get? b=some o->h'.get? b=some o)->tn i h'
 item:∀(X:Cx),X.prog=P->X.w=w->X.K=K->X.calm=true->∀(i:Nat) (pins:List (Addr×Obj)) (s:Shared) (σ:St) (H:Hp) (E:Value->Shared->Prop),Inv X pins σ H s->(∀b∈fp,Nb X pins H b)->tn i s.heap->J.go i H->
  wpAny (model P w) X.A (pyNext (.ref it)) (fun r s1=>∃u,r=some u/\
   wpAny (model P w) X.A (letOwnedTupleGo tg (.ref it) u) (fun _ s2=>∃x H',Inv X pins σ H' s2/\RelV x u/\J.yld i H x H'/\tn (i+1) s2.heap/\∀b∈fp,H' b=none) E s1) E s
 done:∀(X:Cx),X.prog=P->X.w=w->X.K=K->X.calm=true->∀(i:Nat) (pins:List (Addr×Obj)) (s:Shared) (σ:St) (H:Hp) (E:Value->Shared->Prop),Inv X pins σ H s->(∀b∈fp,Nb X pins H b)->tn i s.heap->J.stop i H->
  wpAny (model P w) X.A (pyNext (.ref it)) (fun r s1=>r=none/\Inv X pins σ H s1) E s
 self:∀(A:Around) (i:Nat) (s:Shared) (Q:Value->Shared->Prop) (E:Value->Shared->Prop),tn i s.heap->Q (.ref it) s->wpAny (model P w) A (pyIter (.ref it)) Q E s
abbrev TI:=St->Hp->(It->Hp->Prop)->Prop
def PIE(X:Cx)(pins:List (Addr×Obj))(σ:St)(tg:Expr)(R:It->Hp->Prop)(itv:Value)(s2:Shared):Prop:=
 ∃(it:Addr) (fp:List Addr) (tn:Nat->Heap->Prop) (J:It) (H':Hp),itv=.ref it/\Inv X pins σ H' s2/\Turn X.prog X.w X.K tg J fp it tn/\tn 0 s2.heap/\(∀b∈fp,Nb X pins H' b)/\R J H'
def PI(X:Cx)(tg iter:Expr)(wi:TI):Prop:=
 ∀ (pins : List (Addr × Obj)) (s : Shared) (σ : St) (H : Hp) (R : It -> Hp -> Prop), Inv X pins σ H s -> wi σ H R ->
  wpAny (model X.prog X.w) X.A (eval iter X.env) (fun v s1=>wpAny (model X.prog X.w) X.A (pyIter v) (PIE X pins σ tg R) X.xe s1) X.xe s
theorem VM {M : Model} {A : Around} {E : Value -> Shared -> Prop} {s : Shared} {tg : Expr} {it : Addr} {u : Value} {o : Obj} {n : String} {vs : Array Value} {Q : Unit -> Shared -> Prop} (ho : s.heap.get? it = some o) (hc : o.cls = .type n) (hd : o.data = .fields vs)
    (hn:["enumerate","zip","dict_itemiterator","dict_reverseitemiterator","odict_iterator","itertools.zip_longest","itertools.pairwise"].contains n=false) (hQ:Q () s):wpAny M A (letOwnedTupleGo tg (.ref it) u) Q E s:=by
  unfold letOwnedTupleGo
  cases tg <;> first
    |exact wpAny_pure hQ
    |(cases u<;>first
        |exact wpAny_pure hQ
        | (refine wpAny_bind (wpAny_load ho ?_)
           rw[hc,hd]
           show wpAny M A (if(["enumerate","zip","dict_itemiterator","dict_reverseitemiterator","odict_iterator","itertools.zip_longest","itertools.pairwise"].contains n && vs[0]?==some (rawInt _))=true then _ else _) Q E s
           rw[if_neg (by intro h;rw[hn,Bool.false_and]at h;cases h)]
           exact wpAny_pure hQ))
noncomputable def Itl(K:PySem.W.Frag)(a:Addr):It:=
 ⟨fun i H=>∃xs x,SqL K H a xs/\xs[i]?=some x,fun i H x H'=>H'=H/\∀xs,SqL K H a xs->xs[i]?=some x,fun i H=>∃xs,SqL K H a xs/\xs.length≤i⟩
noncomputable def Itt(K:PySem.W.Frag)(a:Addr):It:=
 ⟨fun i H=>∃xs x,SqT K H a xs/\xs[i]?=some x,fun i H x H'=>H'=H/\∀xs,SqT K H a xs->xs[i]?=some x,fun i H=>∃xs,SqT K H a xs/\xs.length≤i⟩
noncomputable def Itr(lo:Int)(n:Nat):It:=⟨fun i _=>i<n,fun i H x H'=>H'=H/\x=.int (lo+i),fun i _=>n≤i⟩
theorem Qe{P:Program}{w:World}{K:PySem.W.Frag}{tg:Expr}(a it:Addr):Turn P w K tg (Itl K a) [it] it (fun i h=>h.IsListIter it a i) where
 mem:=by simp
 obj:=fun i h st b hb=>by
  have e:b=it:=by simpa using hb
  subst e
  obtain⟨o,e,c,d⟩:=st
  exact⟨o,e,fun v z=>by rw[d]at z;cases z⟩
 keep:=fun i h h' st k=>st.at fun o e=>k it (by simp) o e
 item:=by
  intro X hP hw hK hc i pins s σ H E I hf st hg
  subst hP hw hK
  obtain⟨xs,x,hq,hx⟩:=hg
  obtain⟨its,rv,p,hz⟩:=I.list hq
  obtain⟨u,hu,ru⟩:=rv.get hx
  obtain⟨f0,f1,f2,f3,f4,f5⟩:=hf it (by simp)
  refine wpAny_pyNext_list_item st p.isList (x:=u) (by simpa using hu) fun h' st' sb=>?_
  have I1:Inv X pins σ H {s with heap:=h'}:=I.turned (t':=s.toks) (fun b o hb e=>(sb.2 b hb).trans e) f0 f1 f3 f4 f5
  obtain⟨o,e,c,d⟩:=id st'
  exact⟨u,rfl,VM (s:={s with heap:=h'}) e c d (by decide) ⟨x,H,I1,ru,⟨rfl,fun ys hy=>by rw[I.list_inj hy hq];exact hx⟩,st',fun b hb=>(hf b hb).1⟩⟩
 done:=by
  intro X hP hw hK hc i pins s σ H E I hf st hg
  subst hP hw hK
  obtain⟨xs,hq,hx⟩:=hg
  obtain⟨its,rv,p,hz⟩:=I.list hq
  obtain⟨f0,f1,f2,f3,f4,f5⟩:=hf it (by simp)
  have hl:=rv.length
  exact wpAny_pyNext_list_end (I.ok.hd hc) st p.isList (by simp;omega) fun h' eb=>⟨rfl,I.turned (t':=s.toks) (fun b o hb e=>eb b o hb e) f0 f1 f3 f4 f5⟩
 self:=fun _ _ _ _ _ st h=>wpAny_pyIter_listiter st h
theorem OM{P:Program}{w:World}{K:PySem.W.Frag}{tg:Expr}(a it:Addr):Turn P w K tg (Itt K a) [it] it (fun i h=>h.IsTupleIter it a i) where
 mem:=by simp
 obj:=fun i h st b hb=>by
  have e:b=it:=by simpa using hb
  subst e
  obtain⟨o,e,c,d⟩:=st
  exact⟨o,e,fun v z=>by rw[d]at z;cases z⟩
 keep:=fun i h h' st k=>st.at fun o e=>k it (by simp) o e
 item:=by
  intro X hP hw hK hc i pins s σ H E I hf st hg
  subst hP hw hK
  obtain⟨xs,x,hq,hx⟩:=hg
  obtain⟨its,rv,p,hz⟩:=I.tuple hq
  obtain⟨u,hu,ru⟩:=rv.get hx
  obtain⟨f0,f1,f2,f3,f4,f5⟩:=hf it (by simp)
  refine wpAny_pyNext_tuple_item st (show s.heap.IsTuple a its.toArray from p) (x:=u) (by simpa using hu) fun h' st' sb=>?_
  have I1:Inv X pins σ H {s with heap:=h'}:=I.turned (t':=s.toks) (fun b o hb e=>(sb.2 b hb).trans e) f0 f1 f3 f4 f5
  obtain⟨o,e,c,d⟩:=id st'
  exact⟨u,rfl,VM (s:={s with heap:=h'}) e c d (by decide) ⟨x,H,I1,ru,⟨rfl,fun ys hy=>by rw[I.tuple_inj hy hq];exact hx⟩,st',fun b hb=>(hf b hb).1⟩⟩
 done:=by
  intro X hP hw hK hc i pins s σ H E I hf st hg
  subst hP hw hK
  obtain⟨xs,hq,hx⟩:=hg
  obtain⟨its,rv,p,hz⟩:=I.tuple hq
  obtain⟨f0,f1,f2,f3,f4,f5⟩:=hf it (by simp)
  have hl:=rv.length
  exact wpAny_pyNext_tuple_end (I.ok.hd hc) st (show s.heap.IsTuple a its.toArray from p) (by simp;omega) fun h' eb=>⟨rfl,I.turned (t':=s.toks) (fun b o hb e=>eb b o hb e) f0 f1 f3 f4 f5⟩
 self:=fun _ _ _ _ _ st h=>wpAny_pyIter_tupleiter st h
theorem OX{P:Program}{w:World}{K:PySem.W.Frag}{tg:Expr}(it:Addr)(lo:Int)(n:Nat):Turn P w K tg (Itr lo n) [it] it (fun i h=>IsRangeIter h it (lo+(i:Nat)*1) ((n:Int)-(i:Nat)) 1) where
 mem:=by simp
 obj:=fun i h st b hb=>by
  have e:b=it:=by simpa using hb
  subst e
  exact⟨_,st,fun v z=>by
   have z':Data.fields _=Data.cell v:=z
   cases z'⟩
 keep:=fun i h h' st k=>k it (by simp) _ st
 item:=by
  intro X hP hw hK hc i pins s σ H E I hf st hg
  subst hP hw hK
  obtain⟨f0,f1,f2,f3,f4,f5⟩:=hf it (by simp)
  have W:=Walks.range (prog:=X.prog) (w:=X.w) (I.ok.hd hc) it lo 1 n
  refine W.item i s _ _ hg st fun v h' tk hv st' kk=>?_
  obtain⟨t,rfl⟩:=hv
  have I1:Inv X pins σ H {s with heap:=h',toks:=tk}:=I.turned (fun b o hb e=>kk b o (by simpa using hb) e) f0 f1 f3 f4 f5
  refine⟨_,rfl,VM (s:={s with heap:=h',toks:=tk}) (n:="range_iterator") st' rfl rfl (by decide) ⟨.int (lo+i),H,I1,⟨t,?_⟩,⟨rfl,rfl⟩,st',fun b hb=>(hf b hb).1⟩⟩
  rw[Int.mul_one]
 done:=by
  intro X hP hw hK hc i pins s σ H E I hf st hg
  subst hP hw hK
  obtain⟨f0,f1,f2,f3,f4,f5⟩:=hf it (by simp)
  exact wpAny_pyNext_range_end (I.ok.hd hc) st (by have:n≤i:=hg;omega) fun h' eb=>⟨rfl,I.turned (t':=s.toks) (fun b o hb e=>eb b o hb e) f0 f1 f3 f4 f5⟩
 self:=fun _ _ _ _ _ st h=>wpAny_pyIter_rangeiter st h
end L2
namespace L2
open PySem PySem.Spec PyProof.Rows
section
variable{X:Cx}{tg:Expr}
theorem Rj{pins:List (Addr×Obj)}{σ:St}{H:Hp}{s:Shared}{R:It->Hp->Prop}{E:Value->Shared->Prop}{lo hi:Int}{t u v:Tok}{tk:Nat}(I:Inv X pins σ H s)(h1: -(2^62)≤lo)(h2:lo<2^62)(h3: -(2^62)≤hi)(h4:hi<2^62)
  (q:R (Itr lo (hi-lo).toNat) H):wpAny (model X.prog X.w) X.A (pyIter (.ref s.heap.objs.size)) (PIE X pins σ tg R) E {s with heap:=s.heap.push {cls:=.type "range",data:=.fields #[.int lo t,.int hi u,.int 1 v]},toks:=tk}:=by
 refine wpAny_pyIter_range (IsRange.new ..) (small_one h1 h2 h3 h4) ?_
 have I1:Inv X pins σ H {s with heap:=s.heap.push {cls:=.type "range",data:=.fields #[.int lo t,.int hi u,.int 1 v]},toks:=tk}:=I.kept fun b o e=>Heap.get?_push_of_some _ e
 refine⟨(s.heap.push {cls:=.type "range",data:=.fields #[.int lo t,.int hi u,.int 1 v]}).objs.size,[(s.heap.push {cls:=.type "range",data:=.fields #[.int lo t,.int hi u,.int 1 v]}).objs.size],_,_,H,rfl,
  I1.kept (t':=tk) fun b o e=>Heap.get?_push_of_some _ e,OX _ lo (hi-lo).toNat,?_,fun b hb=>?_,q⟩
 ·have e1:lo+((0:Nat):Int)*1=lo:=by simp
  have e2:(((hi-lo).toNat:Nat):Int)-((0:Nat):Int)=Builtin.Range.rangeSize lo hi 1:=by rw[rangeSize_one];split<;>omega
  show IsRangeIter _ _ (lo+((0:Nat):Int)*1) ((((hi-lo).toNat:Nat):Int)-((0:Nat):Int)) 1
  rw[e1,e2]
  exact Heap.get?_push_size _ rfl
 ·have e:b=(s.heap.push {cls:=.type "range",data:=.fields #[.int lo t,.int hi u,.int 1 v]}).objs.size:=by simpa using hb
  subst e
  exact I1.fpOk (Nat.le_refl _) (I1.hok.fresh (Nat.le_refl _))
noncomputable def ZL(ta:TA):TI:=fun σ H R=>ta σ H fun vs H1=>∃j:Int,vs=[.int j]/\ -(2^62)≤j/\j<2^62/\R (Itr 0 j.toNat) H1
theorem QF{a:Expr}{ta:TA}{p pos:Pos}(hg:Gl X "range")(hm:X.mg "range"=none)(ha:PA X [a] ta)(hs:starEach [a] X.env=[(false,eval a X.env)]:=by rfl):PI X tg (.Call (.Name "range" p) [a] [] pos) (ZL ta):=by
  intro pins s σ H R I h
  refine Call_ (Ka I hg hm boot_range (PyProof.Rows.callWith_type1 (thn (ha pos pins s σ H _ I h) fun us s1 ⟨vs,H1,I1,r1,q1⟩=>?_) hs rfl))
  obtain⟨j,e,q1,q2,q⟩:=q1
  subst e
  cases r1 with
  | cons r rr =>
    cases rr
    obtain⟨t,rfl⟩:=r
    exact call_range_1 (Rj I1 (by omega) (by omega) q1 q2 (by simpa using q))
noncomputable def bR(wi:TI)(g:TG)(tb:TS):TS:=fun D σ H=>wi σ H fun J H1=>∃W:Nat->Nat->St->Hp->Prop,(∃m,W 0 m σ H1)/\∀i m σ H,W i m σ H->
 (J.stop i H/\D.nx σ H)∨(J.go i H/\∃N:St->Hp->Prop,(∀σ' H',N σ' H'->∃m',m'<m/\W (i+1) m' σ' H')/\∀x H',J.yld i H x H'->g x σ H' fun σ2 H2=>tb {D with nx:=N,ct:=N,bk:=D.nx} σ2 H2)
noncomputable def MI(fp:List Addr)(h:Heap):List (Addr×Obj):=fp.filterMap fun b=>(h.get? b).map fun o=>(b,o)
theorem F4{fp:List Addr}{h:Heap}{b:Addr}{o:Obj}(hb:b∈fp)(e:h.get? b=some o):(b,o)∈MI fp h:=List.mem_filterMap.mpr ⟨b,hb,by rw[e];rfl⟩
theorem Pz{fp:List Addr}{h:Heap}{p:Addr×Obj}(hp:p∈MI fp h):p.1∈fp/\h.get? p.1=some p.2:=by
  obtain⟨b,hb,e⟩:=List.mem_filterMap.mp hp
  cases q:h.get? b with
  |none=>rw[q]at e;cases e
  | some o =>
    rw[q]at e
    have e':(b,o)=p:=Option.some.inj e
    subst e'
    exact⟨hb,q⟩
theorem Inv.pinned{pins:List (Addr×Obj)}{σ:St}{H:Hp}{s:Shared}{fp:List Addr}(I:Inv X pins σ H s)(hf:∀b∈fp,Nb X pins H b)(ho:∀b∈fp,∃o,s.heap.get? b=some o/\∀v,o.data≠.cell v):Inv X (pins++MI fp s.heap) σ H s:=
 I.pins_of fun p hp=>(List.mem_append.mp hp).elim (fun z=>I.pin p (List.mem_append_right _ z)) fun z=>by
  obtain⟨hb,e⟩:=Pz z
  obtain⟨f0,f1,f2,_⟩:=hf p.1 hb
  obtain⟨o,e',d⟩:=ho p.1 hb
  rw[e]at e';cases e'
  exact⟨e,f0,f1,f2,d⟩
theorem Inv.unpinned{pins pl:List (Addr×Obj)}{σ:St}{H:Hp}{s:Shared}(I:Inv X (pins++pl) σ H s):Inv X pins σ H s:=I.pins_of fun p hp=>I.pin p (List.mem_append_right _ (List.mem_append_left _ hp))
theorem Xl{iter:Expr}{body:List Stmt}{wi:TI}{g:TG}{tb:TS}{pos:Pos}(hp:PassesOwn (model X.prog X.w) X.A X.env X.xe)(hc:X.calm=true)(hi:PI X tg iter wi)(hg:PG X tg g)(hb:PSs X body tb)
  (hs:∀x,foldedSetIterable iter X.env x=pure x:=by intro _;rfl):PS X (.For tg iter body [] pos) (bR wi g tb):=by
 intro pins s σ H D I h
 refine wpAny_For (thn (hi pins s σ H _ I h) fun v s1 h1=>thn h1 fun itv s2 h2=>?_) hs
 obtain⟨it,fp,tn,J,H2,e,I2,T,st2,f2,W,⟨m0,w0⟩,turn⟩:=h2
 subst e
 have stat:∀{H':Hp},(∀b∈fp,H' b=none)->∀b∈fp,Nb X pins H' b:=fun hn b hb=>⟨hn b hb,(f2 b hb).2⟩
 refine codeAny_forLoop_any (fun n s'=>∃i σ' H',Inv X pins σ' H' s'/\tn i s'.heap/\(∀b∈fp,H' b=none)/\W i n σ' H') ?_ m0 ⟨0,σ,H2,I2,st2,fun b hb=>(f2 b hb).1,w0⟩
 rintro n s3 ⟨i,σ3,H3,I3,st3,fr3,w3⟩
 rcases turn i n σ3 H3 w3 with⟨stop,qn⟩|⟨go,N,hN,step⟩
 ·refine wpAny_passesOwn hp (thn (T.done X rfl rfl rfl hc i pins s3 σ3 H3 X.xe I3 (stat fr3) st3 stop) fun r s4 ⟨hr,I4⟩=>?_)
  subst hr
  exact wpAny_execs_nil ⟨σ3,H3,I4,qn⟩
 ·refine wpAny_passesOwn hp (thn (T.item X rfl rfl rfl hc i pins s3 σ3 H3 X.xe I3 (stat fr3) st3 go) fun r s4 ⟨u,hr,h4⟩=>?_)
  subst hr
  refine wpAny_passesOwn hp (thn h4 fun _ s5 ⟨x,H5,I5,r5,y5,st5,fr5⟩=>?_)
  have I5':=I5.pinned (stat fr5) (T.obj _ _ st5)
  refine wpAny_passesOwn hp (thn (hg _ s5 σ3 H5 x u _ I5' r5 (step x H5 y5)) fun _ s6 ⟨σ6,H6,I6,q6⟩=>?_)
  refine wpAny_passesOwn hp (thn (hb _ s6 σ6 H6 _ I6 q6) fun f s7 q7=>?_)
  have again:∀{σ7:St} {H7:Hp},Inv X (pins++MI fp s5.heap) σ7 H7 s7->N σ7 H7->∃m,m<n/\∃i σ' H',Inv X pins σ' H' s7/\tn i s7.heap/\(∀b∈fp,H' b=none)/\W i m σ' H':=fun{σ7 H7} I7 n7=>by
   obtain⟨m',hm,w7⟩:=hN σ7 H7 n7
   refine⟨m',hm,i+1,σ7,H7,I7.unpinned,T.keep _ _ _ st5 fun b hb o e=>(I7.pin (b,o) (List.mem_append_right _ (List.mem_append_right _ (F4 hb e)))).1,fun b hb=>?_,w7⟩
   obtain⟨o,e,d⟩:=T.obj _ _ st5 b hb
   exact(I7.pin (b,o) (List.mem_append_right _ (List.mem_append_right _ (F4 hb e)))).2.1
  cases f with
  |next=>obtain⟨σ7,H7,I7,n7⟩:=q7;exact again I7 n7
  |cont=>obtain⟨σ7,H7,I7,n7⟩:=q7;exact again I7 n7
  |brk=>obtain⟨σ7,H7,I7,q7⟩:=q7;exact⟨σ7,H7,I7.unpinned,q7⟩
  |ret v=>obtain⟨x7,σ7,H7,I7,r7,q7⟩:=q7;exact⟨x7,σ7,H7,I7.unpinned,r7,q7⟩
end
end L2
namespace L2
open PySem PySem.Spec PyProof.Rows
abbrev R2:=V->V->Hp->VK->Prop
def OpR(X:Cx)(f:Value->Value->Sem Value)(r:R2):Prop:=
 ∀ (pins : List (Addr × Obj)) (s : Shared) (σ : St) (H : Hp) (x y : V) (v u : Value) (Q : VK), Inv X pins σ H s -> RelV x v -> RelV y u -> r x y H Q ->
  wpAny (model X.prog X.w) X.A (f v u) (EP X pins σ Q) X.xe s
def UnR(X:Cx)(f:Value->Sem Value)(r:V->Hp->VK->Prop):Prop:=
 ∀ (pins : List (Addr × Obj)) (s : Shared) (σ : St) (H : Hp) (x : V) (v : Value) (Q : VK), Inv X pins σ H s -> RelV x v -> r x H Q ->
  wpAny (model X.prog X.w) X.A (f v) (EP X pins σ Q) X.xe s
def Di(X:Cx)(f:Value)(r:List V->Hp->VK->Prop):Prop:=
 ∀ (pins : List (Addr × Obj)) (s : Shared) (σ : St) (H : Hp) (xs : List V) (us : List Value) (Q : VK), Inv X pins σ H s -> Vals xs us -> r xs H Q ->
  wpAny (model X.prog X.w) X.A (call f us) (EP X pins σ Q) X.xe s
noncomputable def tOp(r:R2)(ta tb:TE):TE:=fun σ H Q=>ta σ H fun x H1=>tb σ H1 fun y H2=>r x y H2 Q
noncomputable def tUn(r:V->Hp->VK->Prop)(ta:TE):TE:=fun σ H Q=>ta σ H fun x H1=>r x H1 Q
noncomputable def rI(C:Int->Int->Prop)(g:Int->Int->V):R2:=fun x y H Q=>∃i j,x=.int i/\y=.int j/\C i j/\Q (g i j) H
noncomputable def rI0(g:Int->Int->V):R2:=fun x y H Q=>∃i j,x=.int i/\y=.int j/\Q (g i j) H
def rU(g:Int->V):V->Hp->VK->Prop:=fun x H Q=>∃i,x=.int i/\Q (g i) H
section
variable{X:Cx}{a b c:Expr}{ta tb tc:TE}{pos:Pos}
theorem ZO(ha:PE X a ta)(hb:PE X b tb){pins:List (Addr×Obj)}{s:Shared}{σ:St}{H:Hp}{R:V->V->Hp->Prop}(I:Inv X pins σ H s)
  (h:ta σ H fun x H1=>tb σ H1 fun y H2=>R x y H2) {Q:Value->Shared->Prop} {f:Value->Value->Sem Value}
  (hf:∀v u s2 x y H2,Inv X pins σ H2 s2->RelV x v->RelV y u->R x y H2->wpAny (model X.prog X.w) X.A (f v u) Q X.xe s2):
  wpAny (model X.prog X.w) X.A (eval a X.env) (fun v s₁=>wpAny (model X.prog X.w) X.A (eval b X.env) (fun u s₂=>wpAny (model X.prog X.w) X.A (f v u) Q X.xe s₂) X.xe s₁) X.xe s:=by
 refine thn (ha pins s σ H _ I h) fun v s1 ⟨x,H1,I1,r1,q1⟩=>?_
 refine thn (hb pins s1 σ H1 _ I1 q1) fun u s2 ⟨y,H2,I2,r2,q2⟩=>?_
 exact hf v u s2 x y H2 I2 r1 r2 q2
theorem aL{op:Operator}{r:R2}(ho:OpR X (binaryOp op) r)(ha:PE X a ta)(hb:PE X b tb):PE X (.BinOp a op b pos) (tOp r ta tb):=by
 intro pins s σ H Q I h
 exact wpAny_BinOp (ZO ha hb I h fun v u s2 x y H2 I2 rx ry q=>ho pins s2 σ H2 x y v u Q I2 rx ry q)
theorem aF{op:UnaryOp}{r:V->Hp->VK->Prop}(ho:UnR X (unaryOp op) r)(ha:PE X a ta):PE X (.UnaryOp op a pos) (tUn r ta):=by
 intro pins s σ H Q I h
 exact UnaryOp_ (thn (ha pins s σ H _ I h) fun v s1 ⟨x,H1,I1,r1,q1⟩=>ho pins s1 σ H1 x v Q I1 r1 q1)
theorem opI{f:Value->Value->Sem Value}{C:Int->Int->Prop}{g:Int->Int->Int}
  (rule:∀(i j:Int) (t u:Tok) (s:Shared) (Q:Value->Shared->Prop) (E:Value->Shared->Prop),C i j->Q (.int (g i j) s.toks) {s with toks:=s.toks+1}->wpAny (model X.prog X.w) X.A (f (.int i t) (.int j u)) Q E s):
  OpR X f (rI C fun i j=>.int (g i j)):=by
 intro pins s σ H x y v u Q I rx ry h
 obtain⟨i,j,rfl,rfl,hc,q⟩:=h
 obtain⟨t,rfl⟩:=rx
 obtain⟨t',rfl⟩:=ry
 exact rule i j t t' s _ _ hc ⟨.int (g i j),H,I.tok _,⟨_,rfl⟩,q⟩
theorem bA{f:Value->Value->Sem Value}{g:Int->Int->Int}
  (rule:∀(i j:Int) (t u:Tok) (s:Shared) (Q:Value->Shared->Prop) (E:Value->Shared->Prop),Q (.int (g i j) s.toks) {s with toks:=s.toks+1}->wpAny (model X.prog X.w) X.A (f (.int i t) (.int j u)) Q E s):
  OpR X f (rI0 fun i j=>.int (g i j)):=by
 intro pins s σ H x y v u Q I rx ry h
 obtain⟨i,j,rfl,rfl,q⟩:=h
 obtain⟨t,rfl⟩:=rx
 obtain⟨t',rfl⟩:=ry
 exact rule i j t t' s _ _ ⟨.int (g i j),H,I.tok _,⟨_,rfl⟩,q⟩
theorem ZC{f:Value->Value->Sem Value}{g:Int->Int->Bool}
  (rule:∀(i j:Int) (t u:Tok) (s:Shared) (Q:Value->Shared->Prop) (E:Value->Shared->Prop),Q (.bool (g i j)) s->wpAny (model X.prog X.w) X.A (f (.int i t) (.int j u)) Q E s):
  OpR X f (rI0 fun i j=>.bl (g i j)):=by
 intro pins s σ H x y v u Q I rx ry h
 obtain⟨i,j,rfl,rfl,q⟩:=h
 obtain⟨t,rfl⟩:=rx
 obtain⟨t',rfl⟩:=ry
 exact rule i j t t' s _ _ ⟨.bl (g i j),H,I,rfl,q⟩
def b9(i j:Int):Prop:=0≤j/\j≤1000000/\i.natAbs<2^64
def Zk(i j:Int):Prop:=(-(2^64)<i/\i<2^64)∨(-(2^64)<j/\j<2^64)
theorem Zk.ok{i j:Int}(h:Zk i j):IntMulOk i j:=by
 rcases h with⟨h1,h2⟩|⟨h1,h2⟩
 ·exact .of_left (intBits_le_64 h1 h2)
 ·exact .of_right (intBits_le_64 h1 h2)
theorem Wn:OpR X (binaryOp .Add) (rI0 fun i j=>.int (i+j)):=bA fun _ _ _ _ _ _ _ q=>add_int q
theorem Xu:OpR X (binaryOp .Sub) (rI0 fun i j=>.int (i-j)):=bA fun _ _ _ _ _ _ _ q=>sub_int q
theorem UT:OpR X (binaryOp .Mult) (rI Zk fun i j=>.int (i*j)):=opI fun _ _ _ _ _ _ _ hc q=>mul_int q hc.ok
theorem WW:OpR X (binaryOp .Mod) (rI (fun _ j=>0<j) fun i j=>.int (i % j)):=opI fun i j _ _ _ _ _ hc q=>by
 have h1:(0:Int)<j:=hc
 exact mod_int' (by omega) (by rw[Int.fmod_eq_emod_of_nonneg i (by omega)];exact q)
theorem WR:OpR X (binaryOp .Pow) (rI b9 fun i j=>.int (i^j.toNat)):=opI fun _ _ _ _ _ _ _ hc q=>pow_int_small hc.1 hc.2.1 hc.2.2 q
theorem unI{f:Value->Sem Value}{g:Int->Int}
  (rule:∀(i:Int) (t:Tok) (s:Shared) (Q:Value->Shared->Prop) (E:Value->Shared->Prop),Q (.int (g i) s.toks) {s with toks:=s.toks+1}->wpAny (model X.prog X.w) X.A (f (.int i t)) Q E s):
  UnR X f (rU fun i=>.int (g i)):=by
 intro pins s σ H x v Q I rx h
 obtain⟨i,rfl,q⟩:=h
 obtain⟨t,rfl⟩:=rx
 exact rule i t s _ _ ⟨.int (g i),H,I.tok _,⟨_,rfl⟩,q⟩
theorem W4:UnR X (unaryOp .USub) (rU fun i=>.int (-i)):=unI fun _ _ _ _ _ q=>neg_int q
end
section
variable{X:Cx}{a b c:Expr}{ta tb tc:TE}{pos:Pos}
theorem UP{pins:List (Addr×Obj)}{σ:St}{H:Hp}{s:Shared}{Q:VK}{k k':Bool}(I:Inv X pins σ H s)(q:Q (.bl k) H)(e:k=k'):EP X pins σ Q (.bool k') s:=by
 subst e
 exact⟨.bl k,H,I,rfl,q⟩
theorem Z6:OpR X (compareOp .Lt) (rI0 fun i j=>.bl (decide (i<j))):=ZC fun _ _ _ _ _ _ _ q=>lt_int q
theorem aJ:OpR X (compareOp .Gt) (rI0 fun i j=>.bl (decide (j<i))):=ZC fun _ _ _ _ _ _ _ q=>gt_int q
theorem Zs:OpR X (compareOp .GtE) (rI0 fun i j=>.bl (decide (j≤i))):=ZC fun _ _ _ _ _ _ _ q=>ge_int q
theorem X1:OpR X (compareOp .Is) (fun x y H Q=>y=.non/\Q (.bl (decide (x=.non))) H):=by
 intro pins s σ H x y v u Q I rx ry h
 obtain⟨rfl,q⟩:=h
 cases ry
 refine is_none_gen (UP I q ?_)
 cases x<;>first
  |(cases rx;rfl)
  |(obtain⟨t,rfl⟩:=rx;rfl)
theorem Vy:OpR X (compareOp .IsNot) (fun x y H Q=>y=.non/\Q (.bl (!decide (x=.non))) H):=by
 intro pins s σ H x y v u Q I rx ry h
 obtain⟨rfl,q⟩:=h
 cases ry
 refine isnot_none_gen (UP I q ?_)
 cases x<;>first
  |(cases rx;rfl)
  |(obtain⟨t,rfl⟩:=rx;rfl)
theorem Uq{op:CmpOp}{r:R2}(ho:OpR X (compareOp op) r)(ha:PE X a ta)(hb:PE X b tb)(hm:behindInMarks op b=false):PE X (.Compare a [op] [b] pos) (tOp r ta tb):=by
 intro pins s σ H Q I h
 exact wpAny_Compare1 (ZO ha hb I h fun v u s2 x y H2 I2 rx ry q=>ho pins s2 σ H2 x y v u Q I2 rx ry q) hm
noncomputable def XZ(t:TE):TT:=fun σ H Q=>t σ H fun x H'=>∃k,x=.bl k/\Q k H'
theorem V3{op:CmpOp}{r:R2}(ho:OpR X (compareOp op) r)(ha:PE X a ta)(hb:PE X b tb)(hm:behindInMarks op b=false):PT X (.Compare a [op] [b] pos) (XZ (tOp r ta tb)):=by
 intro pins s σ H Q I h
 refine wpAny_isTrue_Compare1 (thn (ha pins s σ H _ I h) fun v s1 ⟨x,H1,I1,r1,q1⟩=>thn (hb pins s1 σ H1 _ I1 q1) fun u s2 ⟨y,H2,I2,r2,q2⟩=>
  thn (ho pins s2 σ H2 x y v u _ I2 r1 r2 q2) fun c s3 ⟨z,H3,I3,r3,k,e,q3⟩=>?_) hm
 subst e
 cases r3
 exact wpAny_truthy_bool ⟨H3,I3,q3⟩
theorem MY:(sizeLine:Nat)<2^63:=by rw[sizeLine_eq];decide
theorem OR:OpR X (binaryOp .Add) (fun x y H Q=>∃i j,x=.str i/\y=.str j/\i.length+j.length≤sizeLine/\Q (.str (i++j)) H):=by
 intro pins s σ H x y v u Q I rx ry h
 obtain⟨i,j,rfl,rfl,hz,q⟩:=h
 obtain⟨t,rfl⟩:=rx
 obtain⟨t',rfl⟩:=ry
 exact add_str (fun t' tk=>⟨.str (i++j),H,I.tok _,⟨_,rfl⟩,q⟩) hz
theorem vals1{x:V}{us:List Value}(r:Vals [x] us):∃u,us=[u]/\RelV x u:=by
 cases r with
 |cons r1 r2=>cases r2;exact⟨_,rfl,r1⟩
theorem vals2{x y:V}{us:List Value}(r:Vals [x,y] us):∃u w',us=[u,w']/\RelV x u/\RelV y w':=by
  cases r with
  | cons r1 r2 =>
    cases r2 with
    |cons r3 r4=>cases r4;exact⟨_,_,rfl,r1,r3⟩
theorem Rz:Di X (.builtin "abs") (fun xs H Q=>∃i,xs=[.int i]/\Q (.int (if i<0 then-i else i)) H):=by
 intro pins s σ H xs us Q I r h
 obtain⟨i,rfl,q⟩:=h
 obtain⟨u,rfl,t,rfl⟩:=vals1 r
 exact call_abs_int fun u tk=>⟨.int (if i<0 then-i else i),H,I.tok _,⟨_,rfl⟩,q⟩
theorem Ou(hc:X.calm=true):Di X (.builtin "max") (fun xs H Q=>∃i j,xs=[.int i,.int j]/\Q (.int (if j>i then j else i)) H):=by
 intro pins s σ H xs us Q I r h
 obtain⟨i,j,rfl,q⟩:=h
 obtain⟨u,w',rfl,⟨t,rfl⟩,⟨t',rfl⟩⟩:=vals2 r
 refine max_two_ints (I.ok.hd hc) fun h' tk k=>⟨_,H,I.kept k,?_,q⟩
 by_cases hj:j>i
 ·rw[if_pos hj,if_pos hj];exact⟨_,rfl⟩
 ·rw[if_neg hj,if_neg hj];exact⟨_,rfl⟩
theorem QX(hc:X.calm=true):Di X (.builtin "min") (fun xs H Q=>∃i j,xs=[.int i,.int j]/\Q (.int (if j<i then j else i)) H):=by
 intro pins s σ H xs us Q I r h
 obtain⟨i,j,rfl,q⟩:=h
 obtain⟨u,w',rfl,⟨t,rfl⟩,⟨t',rfl⟩⟩:=vals2 r
 refine min_two_ints (I.ok.hd hc) fun h' tk k=>⟨_,H,I.kept k,?_,q⟩
 by_cases hj:j<i
 ·rw[if_pos hj,if_pos hj];exact⟨_,rfl⟩
 ·rw[if_neg hj,if_neg hj];exact⟨_,rfl⟩
theorem MJ:Di X (.type "int") (fun xs H Q=>(∃i,xs=[.int i]/\Q (.int i) H)∨∃k,xs=[.bl k]/\Q (.int (if k then 1 else 0)) H):=by
 intro pins s σ H xs us Q I r h
 rcases h with⟨i,rfl,q⟩|⟨k,rfl,q⟩
 ·obtain⟨u,rfl,t,rfl⟩:=vals1 r
  exact call_int_int ⟨.int i,H,I,⟨_,rfl⟩,q⟩
 ·obtain⟨u,rfl,r1⟩:=vals1 r
  cases r1
  exact call_int_bool ⟨.int (if k then 1 else 0),H,I.tok _,⟨_,rfl⟩,q⟩
end
end L2
namespace L2
open PySem PySem.Spec PyProof.Rows
structure aK(h:Heap)(x dx C:Addr)(mA:Str->Option Value):Prop where
 obj:h.get? x=some (PySem.W.instObj C dx)
 ns:h.Ns1 dx mA
 ne:dx≠x
theorem QW{h:Heap}{dx:Addr}{mA:Str->Option Value}(n:h.Ns1 dx mA):∃od,h.get? dx=some od/\∀name,PySem.W.lookIn name od=some (mA name):=by
 obtain⟨o,es,ep,ho,hd,hk,_,hm⟩:=n
 refine⟨o,ho,fun name=>?_⟩
 have e:=hm name
 unfold nsFind findBy at e
 rw[←Array.find?_toList]at e
 unfold PySem.W.lookIn
 rw[hd]
 dsimp only
 split
 ·rename_i y q
  rw[q]at e
  exact congrArg some e
 ·rename_i q
  rw[q]at e
  have a:es.toList.any (·.refKey)=false:=by
   rw[List.any_eq_false]
   intro y hy
   obtain⟨z,t,hkey⟩:=hk y (Array.mem_toList_iff.mp hy)
   simp[DictEntry.refKey,hkey]
  have a':¬es.toList.any (·.refKey)=true:=by rw[a];exact Bool.false_ne_true
  rw[if_neg a']
  exact congrArg some e
theorem aK.look{h:Heap}{x dx C:Addr}{mA:Str->Option Value}(I:aK h x dx C mA):∃od,PySem.W.InstAt h x (PySem.W.instObj C dx) C (some od)/\∀name,PySem.W.lookIn name od=some (mA name):=
 let⟨od,ho,hl⟩:=QW I.ns
 ⟨od,⟨I.obj,rfl,rfl,ho⟩,hl⟩
section
variable{prog:Program}{w:World}{A:Around}{E:Value->Shared->Prop}{s:Shared}{K:PySem.W.Frag}{x dx C f:Addr}{mA:Str->Option Value}{name:Str}{v:Value}
end
section
variable{P:Program}{w:World}{H H':Hp}{h h':Heap}{a C dx:Addr}{fs fs':List (Str×V)}
theorem Ur(hok:HOk P w H h)(e:H a=some (.ins C dx fs)):∃mA,aK h a dx C mA/\(∀f,Yc (fs.lookup f) (mA f))/\PySem.Within mA (fs.map (·.1))/\fs.length≤1000/\H dx=some (.own a):=by
 obtain⟨d,z,ne,ob,mA,n,r,q⟩:=(show Cn P w H h a (.ins C dx fs)from hok a _ e)
 exact⟨mA,⟨ob,n,ne⟩,r,q,z,d⟩
end
structure Cls(K:PySem.W.Frag)(C:Addr):Prop where
 pg:PySem.W.plainGet K C Str.empty=true
 hd:PySem.W.hasDictIn K C=true
 po:PySem.W.plainOver K C=true
 sa:PySem.W.findIn K (.ref C) "__setattr__"=some (some (.builtin "object.__setattr__"))
theorem Cls.get{K:PySem.W.Frag}{C:Addr}(c:Cls K C)(f:Str):PySem.W.plainGet K C f=true:=c.pg
structure Con(K:PySem.W.Frag)(C:Addr)(f:Str)(v:V)(u:Value):Prop where
 at_:PySem.W.findIn K (.ref C) f=some (some u)
 rel:RelV v u
 get:PySem.W.specialIn K u "__get__"=some none
 cp:PySem.W.copiedNames.contains f=false
structure Meth(K:PySem.W.Frag)(C:Addr)(m:Str)(f:Addr):Prop where
 at_:PySem.W.findIn K (.ref C) m=some (some (.ref f))
 fn:PySem.W.isFn K (.ref f)=true
 kp:PySem.W.keepIn K (.ref f)=true
section
variable{X:Cx}{pins:List (Addr×Obj)}{σ:St}{H:Hp}{s:Shared}{a C dx:Addr}{fs:List (Str×V)}{f:Str}{v:V}{A:Around}{E:Value->Shared->Prop}
end
section
variable{X:Cx}{o e value:Expr}{f:Str}{pos pos' tpos:Pos}{ta tv:TE}
end
section
variable{X:Cx}{pins:List (Addr×Obj)}{σ:St}{H:Hp}{s:Shared}{A:Around}{E:Value->Shared->Prop}{Q:Value->Shared->Prop}{c:Value}{b:Bool}
inductive Oq(K:PySem.W.Frag)(H:Hp):V->Value->Prop where
 |non:Oq K H .non (.type "NoneType")
 |bl (x:Bool):Oq K H (.bl x) (.type "bool")
 |int (i:Int):Oq K H (.int i) (.type "int")
 |str (x:Str):Oq K H (.str x) (.type "str")
 |flt (x:UInt64):Oq K H (.flt x) (.type "float")
 |lst {a:Addr} {xs:List V} (e:H a=some (.lst xs)):Oq K H (.ref a) (.type "list")
 |frz {a:Addr} {o:Obj} {xs:List V} (e:H a=some (.frz o (.lst xs))):Oq K H (.ref a) (.type "list")
 |tup {a:Addr} {xs:List V} (e:H a=some (.tup xs)):Oq K H (.ref a) (.type "tuple")
 |dK {a:Addr} {kvs:List (Key×V)} (e:H a=some (.dK kvs)):Oq K H (.ref a) (.type "dict")
 |dT {a:Addr} {kvs:List (List Key×V)} (e:H a=some (.dT kvs)):Oq K H (.ref a) (.type "dict")
 | ins {a C dx : Addr} {fs : List (Str × V)} (e : H a = some (.ins C dx fs)) (cl : Cls K C) (ha : PySem.W.findIn K (.ref C) "__class__" = some (some (.builtin "object.__class__")))
   (hn:PySem.W.specialIn K (.builtin "object.__class__") "__get__"=some (some (.builtin "getset_descriptor.__get__"))) (htk:PySem.W.takesIn K (.builtin "object.__class__")=some true)
   (hm:PySem.W.mroIn K C (.type "object")=some true):Oq K H (.ref a) (.ref C)
theorem Dw{x:V}{u t:Value}(I:Inv X pins σ H s)(rx:RelV x u)(ty:Oq X.K H x t)(e:PySem.W.kitOne X.K t c=some b)(h:∀tk,Q (.bool b) {s with toks:=tk}):
    wpAny (model X.prog X.w) A (call (.builtin "isinstance") [u,c]) Q E s:=by
  cases ty with
  |non=>cases (show u=Value.none from rx);exact PySem.W.kia_one PySem.W.kitx_none I.kIn True.intro e (fun z=>nomatch z) h
  |bl y=>cases (show u=Value.bool y from rx);exact PySem.W.kia_one PySem.W.kitx_bool I.kIn True.intro e (fun z=>nomatch z) h
  |int i=>obtain⟨t,q⟩:=(show∃t,u=Value.int i t from rx);cases q;exact PySem.W.kia_one PySem.W.kitx_int I.kIn True.intro e (fun z=>nomatch z) h
  |str y=>obtain⟨t,q⟩:=(show∃t,u=Value.str y t from rx);cases q;exact PySem.W.kia_one PySem.W.kitx_str I.kIn True.intro e (fun z=>nomatch z) h
  |flt y=>obtain⟨t,q⟩:=(show∃t,u=Value.float y t from rx);cases q;exact PySem.W.kia_one PySem.W.kitx_float I.kIn True.intro e (fun z=>nomatch z) h
  | @lst a xs ea=>
    cases (show u=Value.ref a from rx)
    obtain⟨_,_,n,_,h1⟩:=(show Cn X.prog X.w H s.heap a (.lst xs)from I.hok a _ ea)
    exact PySem.W.kia_one PySem.W.kitx_list I.kIn ⟨_,h1,rfl⟩ e (fun z=>nomatch z) h
  | @frz a ob xs ea=>
    cases (show u=Value.ref a from rx)
    obtain⟨_,_,_,n,_,h1⟩:=(show Cn X.prog X.w H s.heap a (.frz ob (.lst xs))from I.hok a _ ea)
    exact PySem.W.kia_one PySem.W.kitx_list I.kIn ⟨_,h1,rfl⟩ e (fun z=>nomatch z) h
  | @tup a xs ea=>
    cases (show u=Value.ref a from rx)
    obtain⟨_,_,_,p⟩:=(show Cn X.prog X.w H s.heap a (.tup xs)from I.hok a _ ea)
    obtain⟨o,h1,h2,_⟩:=p
    exact PySem.W.kia_one PySem.W.kitx_tuple I.kIn ⟨o,h1,h2⟩ e (fun z=>nomatch z) h
  | @dK a kvs ea=>
    cases (show u=Value.ref a from rx)
    obtain⟨_,_,vs,_,p⟩:=(show Cn X.prog X.w H s.heap a (.dK kvs)from I.hok a _ ea)
    obtain⟨o,es,ep,h1,h2,_⟩:=p
    exact PySem.W.kia_one PySem.W.kitx_dict I.kIn ⟨o,h1,h2.1⟩ e (fun z=>nomatch z) h
  | @dT a kvs ea=>
    cases (show u=Value.ref a from rx)
    obtain⟨_,_,xs,_,o,es,ep,h1,h2,_⟩:=(show Cn X.prog X.w H s.heap a (.dT kvs)from I.hok a _ ea)
    exact PySem.W.kia_one PySem.W.kitx_dict I.kIn ⟨o,h1,h2.1⟩ e (fun z=>nomatch z) h
  | @ins a C dx fs ea cl ha hn htk hm=>
    cases (show u=Value.ref a from rx)
    obtain⟨mA,O,_⟩:=Ur I.hok ea
    obtain⟨od,J,_⟩:=O.look
    exact PySem.W.kia_one (PySem.W.kitx_own (cl.get _) cl.hd ha hn htk hm) I.kIn J e (fun z=>nomatch z) h
end
end L2
namespace L2
open PySem PySem.Spec PyProof.Rows
structure KQ(k:Nat)(A:Around):Prop where
 hd:A.handled=none
 dp:A.depth+3*k+5<recursionLimit
 un:A.units+16*k+200<cLine
theorem KQ.mono{j k:Nat}{A:Around}(r:KQ k A)(h:j≤k):KQ j A:=⟨r.hd,by have:=r.dp;omega,by have:=r.un;omega⟩
theorem KQ.deeper{k:Nat}{A:Around}(r:KQ (k+1) A)(env:Env):KQ k (A.deeper env):=
 ⟨r.hd,by have:=r.dp;show A.depth+1+3*k+5<_;omega,by have:=r.un;show A.units+3+16*k+200<_;omega⟩
theorem KQ.depth{k:Nat}{A:Around}(r:KQ k A):A.depth<recursionLimit:=by have:=r.dp;omega
noncomputable def aW:TA:=fun _ H Q=>Q [] H
noncomputable def XQ(ta:TE)(tr:TA):TA:=fun σ H Q=>ta σ H fun x H1=>tr σ H1 fun xs H2=>Q (x::xs) H2
section
variable{X:Cx}{e:Expr}{es:List Expr}{te:TE}{t:TA}{pos:Pos}
theorem Pj:PA X [] aW:=fun _ _ _ _ H Q I h=>Calls.spliced_nil ⟨[],H,I,.nil,h⟩
theorem Ku(ha:PE X e te)(hr:PA X es t)(hs:starEach (e::es) X.env=(false,eval e X.env)::starEach es X.env:=by rfl):PA X (e::es) (XQ te t):=by
 intro pos pins s σ H Q I h
 rw[hs]
 show wpAny _ _ (spliced ((false,eval e X.env)::backTo pos (starEach es X.env))) _ _ s
 refine Calls.spliced_cons (thn (ha pins s σ H _ I h) fun u s1 ⟨x,H1,I1,r1,q1⟩=>?_)
 exact thn (hr pos pins s1 σ H1 _ I1 q1) fun us s2 ⟨xs,H2,I2,r2,q2⟩=>⟨x::xs,H2,I2,.cons r1 r2,q2⟩
noncomputable def cL(t:TA):TE:=fun σ H Q=>t σ H fun xs H1=>xs.length≤sizeLine/\∀p,H1 p=none->Q (.ref p) (upd H1 p (.tup xs))
noncomputable def bM(t:TA):TE:=fun σ H Q=>t σ H fun xs H1=>xs.length≤sizeLine/\∀p,H1 p=none->Q (.ref p) (upd H1 p (.lst xs))
theorem Wo{x1}(h:PA X es t):PE X (.Tuple es x1 pos) (cL t):=by
 intro pins s σ H Q I hq
 refine wpAny_Tuple_spliced (thn (h pos pins s σ H _ I hq) fun us s1 ⟨xs,H1,I1,r,z,q⟩=>⟨by rw[←r.length];exact z,?_⟩)
 have hf:H1 s1.heap.objs.size=none:=I1.hok.fresh (Nat.le_refl _)
 refine⟨.ref s1.heap.objs.size,upd H1 s1.heap.objs.size (.tup xs),I1.laid (t':=s1.toks) (fun b u e=>Heap.get?_push_of_some _ e) (Nat.le_refl _) ?_,rfl,q _ hf⟩
 exact⟨z,us,r,⟨_,Heap.get?_push_size _ rfl,rfl,_,rfl⟩⟩
theorem Wd(h:PA X es t):PE X (.List es pos) (bM t):=by
 intro pins s σ H Q I hq
 refine wpAny_List_spliced (thn (h pos pins s σ H _ I hq) fun us s1 ⟨xs,H1,I1,r,z,q⟩=>⟨by rw[←r.length];exact z,?_⟩)
 have hf:H1 s1.heap.objs.size=none:=I1.hok.fresh (Nat.le_refl _)
 refine⟨.ref s1.heap.objs.size,upd H1 s1.heap.objs.size (.lst xs),I1.laid (t':=s1.toks) (fun b u e=>Heap.get?_push_of_some _ e) (Nat.le_refl _) ?_,rfl,q _ hf⟩
 exact⟨z,us,0,r,Heap.get?_push_size _ rfl⟩
end
abbrev Sp:=List V->Hp->VK->XK->Prop
abbrev CXT:=List Env->Hp->Shared->XK->Value->Shared->Prop
structure YG(P:Program)(w:World)(K:PySem.W.Frag)(mg:Str->Option Value)(base:Heap)(A:Around)(outer:List Env)(s:Shared)(H:Hp):Prop where
 frames:A.frames=some outer
 mod:Mod K mg base
 bs:∀b o,base.get? b=some o->s.heap.get? b=some o/\H b=none
 bsz:base.objs.size≤s.heap.objs.size
 funs:s.heap.FunFrames base outer
 frf:∀b∈frs outer,H b=none
 hok:HOk P w H s.heap
 bare:AllBare s.gens
def CE(outer:List Env)(P:Program)(w:World)(H:Hp)(s:Shared)(Q:VK)(u:Value)(s':Shared):Prop:=
 ∃v H',s'.os=s.os/\AllBare s'.gens/\Un (frs outer) [] H H' s.heap s'.heap/\HOk P w H' s'.heap/\RelV v u/\Q v H'
def CR(CX:CXT)(outer:List Env)(P:Program)(w:World)(H:Hp)(s:Shared)(Q:VK)(E:XK)(r:Result)(s':Shared):Prop:=
 match r with
 | .ok (.ret u)=>CE outer P w H s Q u s'
 | .ok _=>False
 | .error e=>CX outer H s E e s'
structure Ml(P:Program)(w:World)(K:PySem.W.Frag)(mg:Str->Option Value)(base:Heap)(CX:CXT)(k:Nat)(f:Addr)(fd:FuncData)(ps:List Str)(sp:Sp):Prop where
 len:∀vs H Q E,sp vs H Q E->vs.length=ps.length
 run:∀(A:Around) (outer:List Env) (s:Shared) (H:Hp) (args:Args) (us:List Value) (vs:List V) (Q:VK) (E:XK),KQ k A->YG P w K mg base A outer s H->BindsTo s fd args (ps.zip us)->Vals vs us->sp vs H Q E->
  codeAny (model P w) A (.call (.ref f) args) (CR CX outer P w H s Q E) s
theorem Ml.imp{P:Program}{w:World}{K:PySem.W.Frag}{mg:Str->Option Value}{base:Heap}{CX:CXT}{k:Nat}{f:Addr}{fd:FuncData}{ps:List Str}{sp sp':Sp}(F:Ml P w K mg base CX k f fd ps sp)
  (h:∀vs H Q E,sp' vs H Q E->sp vs H Q E):Ml P w K mg base CX k f fd ps sp':=
 ⟨fun vs H Q E q=>F.len vs H Q E (h _ _ _ _ q),fun A outer s H args us vs Q E hr he hb hv hs=>F.run A outer s H args us vs Q E hr he hb hv (h _ _ _ _ hs)⟩
section
variable{X:Cx}{pins:List (Addr×Obj)}{σ:St}{H:Hp}{s s':Shared}
theorem Inv.env0(I:Inv X pins σ H s):YG X.prog X.w X.K X.mg X.base X.A X.stack s H:=
 ⟨I.ok.frames,I.ok.mod,I.bs,Nat.le_trans I.ok.bsz I.sz,I.stack,I.stkFree,I.hok,I.bare⟩
theorem Inv.after{Q:VK}{u:Value}(I:Inv X pins σ H s)(h:CE X.stack X.prog X.w H s Q u s'):EP X pins σ Q u s':=by
 obtain⟨v,H',os,bare,un,hok,r,q⟩:=h
 obtain⟨hh,g,d,t,os'⟩:=s'
 obtain rfl:os'=s.os:=os
 exact⟨v,H',I.call (h':=hh) (g':=g) (d':=d) (t':=t) (ch:=[]) un hok bare (fun b z=>absurd z (by simp)),r,q⟩
end
noncomputable def Us(sp:Sp)(dvs:List V)(E:XK)(t:TA):TE:=fun σ H Q=>t σ H fun vs H1=>sp (vs++dvs) H1 Q E
def Binds(K:PySem.W.Frag)(fd:FuncData)(ps:List Str)(ds:List Value):Prop:=
 ∀(s:Shared) (us:List Value),K.In s.heap->(us++ds).length=ps.length->BindsTo s fd ⟨us,[]⟩ (ps.zip (us++ds))
theorem Binds.all{K:PySem.W.Frag}{fd:FuncData}{ps:List Str}(h:∀us:List Value,us.length=ps.length->bindArgs fd ⟨us,[]⟩=pure (ps.zip us)):Binds K fd ps []:=fun s us _ hl=>by
 rw[List.append_nil]at hl⊢
 exact .of_eq (h us hl)
def Passes(CX:CXT)(X:Cx)(E:XK):Prop:=∀(pins:List (Addr×Obj)) (σ:St) (H:Hp) (s:Shared) (e:Value) (s':Shared),Inv X pins σ H s->CX X.stack H s E e s'->X.xe e s'
section
variable{X:Cx}{CX:CXT}{k:Nat}{f C:Addr}{fd:FuncData}{ps:List Str}{sp:Sp}{dvs:List V}{ds:List Value}{E:XK}{x m:Str}{p pos apos:Pos}{e o:Expr}{es:List Expr}{ta:TE}{t:TA}
theorem W3{pins:List (Addr×Obj)}{σ:St}{H:Hp}{s:Shared}{Q:VK}{us:List Value}{vs:List V}(F:Ml X.prog X.w X.K X.mg X.base CX k f fd ps sp)(hr:KQ k X.A)(hb:Binds X.K fd ps ds)(hd:Vals dvs ds)(hx:Passes CX X E)
    (I:Inv X pins σ H s) (r:Vals vs us) (h:sp (vs++dvs) H Q E):wpAny (model X.prog X.w) X.A (call (.ref f) us) (EP X pins σ Q) X.xe s:=by
  have r2:Vals (vs++dvs) (us++ds):=r.append hd
  have hl:(us++ds).length=ps.length:=by rw[←r2.length];exact F.len _ _ _ _ h
  refine wpAny_call (codeAny_mono (F.run X.A X.stack s H ⟨us,[]⟩ (us++ds) (vs++dvs) Q E hr I.env0 (hb s us I.kIn hl) r2 h) fun r s' hq=>?_)
  cases r with
  |error e=>exact hx pins σ H s e s' I hq
  | ok fl =>
    cases fl with
    |ret u=>exact I.after hq
    |next=>exact False.elim hq
    |brk=>exact False.elim hq
    |cont=>exact False.elim hq
theorem Vx(F:Ml X.prog X.w X.K X.mg X.base CX k f fd ps sp)(hr:KQ k X.A)(hg:Gl X x)(hm:X.mg x=some (.ref f))(hk:PySem.W.keepIn X.K (.ref f)=true)(hb:Binds X.K fd ps ds)(hd:Vals dvs ds)(hx:Passes CX X E)
  (ha:PA X (e::es) t) (hdb:(x==("__debug__":Str))=false:=by decide) (he:starEach (e::es) X.env=(false,eval e X.env)::starEach es X.env:=by rfl) (hpl:(backTo pos (starEach es X.env)).any (·.1)=false:=by rfl):
  PE X (.Call (.Name x p) (e::es) [] pos) (Us sp dvs E t):=by
 intro pins s σ H Q I h
 refine wpAny_Call_Name_kw (QV I hg hm ?_ hdb)
 refine PySem.W.callWith_K (h₀:=X.base) I.ok.mod.kin hk (thn (ha pos pins s σ H _ I h) fun us s1 ⟨vs,H1,I1,r,q⟩=>⟨I1.kIn,?_⟩) he hpl
 exact W3 F hr hb hd hx I1 r q
structure Mk(K:PySem.W.Frag)(C f:Addr):Prop where
 makes:PySem.W.makesIn K C=true
 init:PySem.W.findIn K (.ref C) "__init__"=some (some (.ref f))
 fn:PySem.W.isFn K (.ref f)=true
 kp:PySem.W.keepIn K (.ref C)=true
end
section
variable{X:Cx}{CX:CXT}{k:Nat}{f C:Addr}{fd:FuncData}{ps ks:List Str}{sp:Sp}{E:XK}{x m:Str}{p pos apos kpos:Pos}{e o:Expr}{es:List Expr}{kws:List Keyword}{te ta:TE}{t tk:TA}{nm:Option Str}
structure bD(K:PySem.W.Frag)(fd:FuncData)(ps ks:List Str)(g:List Value->List Value->List Value)(gV:List V->List V->List V):Prop where
 to:∀(s:Shared) (us ws:List Value),K.In s.heap->(g us ws).length=ps.length->BindsTo s fd ⟨us,ks.zip ws⟩ (ps.zip (g us ws))
 rel:∀{vs:List V} {us:List Value} {zs:List V} {ws:List Value},Vals vs us->Vals zs ws->Vals (gV vs zs) (g us ws)
variable{g:List Value->List Value->List Value}{gV:List V->List V->List V}
end
structure Aa(N P:List Str)(sc:Scope):Prop where
 kind:sc.kind=.function
 co:sc.isCoroutine=false
 gen:sc.isGenerator=false
 nd:N.Nodup
 pre:N.take P.length=P
 par:∀x∈P,sc.names.lookup x=some .local∨sc.names.lookup x=some .cell
 nofree:∀y∈sc.names,y.2≠.free
theorem MK{kindOf:Str->Option NameKind}{x:Str}:∀{binds:List (Str×Value)} {m:Str->Option Value},(∀v,(x,v)∉binds)->bindL kindOf binds m x=m x
  | [],_,_=>rfl
  | (n, v) :: r, m, h => by
    unfold bindL
    rw[MK fun w hw=>h w (List.mem_cons_of_mem _ hw)]
    split
    · have : x ≠ n := by rintro rfl; exact h v List.mem_cons_self
      simp[this]
    ·rfl
theorem Mm{kindOf:Str->Option NameKind}{x:Str}:∀{binds:List (Str×Value)} {m:Str->Option Value},(∀v,(x,v)∉binds)->bindC kindOf binds m x=m x
  | [],_,_=>rfl
  | (n, v) :: r, m, h => by
    unfold bindC
    rw[Mm fun w hw=>h w (List.mem_cons_of_mem _ hw)]
    split
    ·rfl
    · have : x ≠ n := by rintro rfl; exact h v List.mem_cons_self
      simp[this]
theorem L9{kindOf:Str->Option NameKind}{x:Str}{v:Value}:∀{P:List Str} {vs:List Value} {i:Nat} {m:Str->Option Value},P.Nodup->P[i]?=some x->vs[i]?=some v->kindOf x=some .local->
    bindL kindOf (P.zip vs) m x=some v
  | [],_,_,_,_,h,_,_=>by simp at h
  |_::_,[],_,_,_,_,h,_=>by simp at h
  | p :: P, w :: vs, 0, m, nd, h1, h2, hk => by
    simp at h1 h2;subst h1;subst h2
    show bindL kindOf ((p,w)::P.zip vs) m p=_
    unfold bindL
    rw[MK fun v hv=>(List.nodup_cons.mp nd).1 (List.of_mem_zip hv).1,if_pos hk]
    simp
  | p :: P, w :: vs, i + 1, m, nd, h1, h2, hk => by
    show bindL kindOf ((p,w)::P.zip vs) m x=_
    unfold bindL
    exact L9 (i:=i) (List.nodup_cons.mp nd).2 (by simpa using h1) (by simpa using h2) hk
theorem Mj{kindOf:Str->Option NameKind}{x:Str}{v:Value}:∀{P:List Str} {vs:List Value} {i:Nat} {m:Str->Option Value},P.Nodup->P[i]?=some x->vs[i]?=some v->kindOf x≠some .local->
    bindC kindOf (P.zip vs) m x=some v
  | [],_,_,_,_,h,_,_=>by simp at h
  |_::_,[],_,_,_,_,h,_=>by simp at h
  | p :: P, w :: vs, 0, m, nd, h1, h2, hk => by
    simp at h1 h2;subst h1;subst h2
    show bindC kindOf ((p,w)::P.zip vs) m p=_
    unfold bindC
    rw[Mm fun v hv=>(List.nodup_cons.mp nd).1 (List.of_mem_zip hv).1,if_neg hk]
    simp
  | p :: P, w :: vs, i + 1, m, nd, h1, h2, hk => by
    show bindC kindOf ((p,w)::P.zip vs) m x=_
    unfold bindC
    exact Mj (i:=i) (List.nodup_cons.mp nd).2 (by simpa using h1) (by simpa using h2) hk
noncomputable def start(N:List Str)(vs:List V):St:=vs.map some++List.replicate (N.length-vs.length) none
noncomputable def Ud(CX:CXT)(P:Program)(w:World)(K:PySem.W.Frag)(mg:Str->Option Value)(base:Heap)(N:List Str)(qual:Str)(scope:Scope)(f:Addr)(cd:Value)(A:Around)(outer:List Env)(s:Shared)(H:Hp)(E:XK):Cx where
 prog:=P
 w:=w
 K:=K
 mg:=mg
 base:=base
 A:=A.deeper (envOfC qual scope s.heap.objs.size f cd)
 N:=N
 s₀:=s
 H₀:=H
 env:=envOfC qual scope s.heap.objs.size f cd
 outer:=outer
 stack:=envOfC qual scope s.heap.objs.size f cd::outer
 ex:=[]
 calm:=true
 fn:=fun _=>true
 pn:=[]
 xe:=fun e s'=>wpAny (model P w) (A.deeper (envOfC qual scope s.heap.objs.size f cd)) (leaving (envOfC qual scope s.heap.objs.size f cd) e) (fun _ s''=>CX outer H s E e s'') (fun e' s''=>CX outer H s E e' s'') s'
theorem IP{sc:Scope}{n:Nat}{x:Str}(h:sc.names.lookup x=some .cell):∃c,(cellsFrom n sc.names []).lookup x=some c:=by
 have q:=PySem.W.cellsFrom_some sc.names n [] (.inl h)
 exact Option.isSome_iff_exists.mp q
theorem QL{CX:CXT}{P:Program}{w:World}{K:PySem.W.Frag}{mg:Str->Option Value}{base:Heap}{N ps:List Str}{qual:Str}{scope:Scope}{f:Addr}{cd:Value}{A:Around}{outer:List Env}{s s1:Shared}{H:Hp}{E:XK}{us:List Value}{vs:List V}
  (S:Aa N ps scope) (hd:A.handled=none) (e0:YG P w K mg base A outer s H) (hl:vs.length=ps.length) (r:Vals vs us)
  (x:InCallC s s.heap.objs.size (bindL (envOfC qual scope s.heap.objs.size f cd).kindOf (ps.zip us) fun _=>none) (cellsFrom (s.heap.objs.size+1) scope.names []) (bindC (envOfC qual scope s.heap.objs.size f cd).kindOf (ps.zip us) fun _=>none) s1):
  Inv (Ud CX P w K mg base N qual scope f cd A outer s H E) [] (start N vs) H s1:=by
 have hpl:ps.length≤N.length:=by have:=congrArg List.length S.pre;rw[List.length_take]at this;omega
 obtain⟨h1,tk,rfl,hk⟩:=x.done
 have noA:∀b:Addr,b∉(Ud CX P w K mg base N qual scope f cd A outer s H E).ex:=fun b z=>absurd (show b∈([]:List Addr)from z) (by simp)
 refine⟨⟨e0.mod,S.kind,rfl,rfl,Nat.le_refl _,fun y z c h1 h2=>?_,fun y hy=>?_,fun y c _ h=>?_,fun _=>hd,Around.frames_deeper e0.frames,.inr ⟨rfl,rfl⟩,fun b z=>absurd z (noA b),e0.bs,e0.bsz,fun b _ _=>noA b,fun b z=>absurd z (noA b),e0.funs,e0.frf⟩,
  rfl,e0.bare,Un.kept hk,⟨_,x.toInCall.ns,fun i y v h1 h2 h3=>?_⟩,fun y c h=>⟨_,x.cell y c h⟩,e0.hok.fresh (Nat.le_refl _),fun y c h=>?_,fun p hp=>absurd (show p∈([]:List (Addr×Obj))from hp) (by simp),e0.hok.kept hk,?_⟩
 ·exact name_of_addr x.apart (PySem.mem_of_lookup h1) (PySem.mem_of_lookup h2)
 ·have hy:scope.names.lookup y=some .cell∨scope.names.lookup y=some .free:=hy
  rcases hy with hy|hy
  ·exact IP hy
  ·exact absurd rfl (S.nofree _ (PySem.mem_of_lookup hy))
 ·exact Nat.le_of_lt (x.above y c (PySem.mem_of_lookup h))
 ·have hi:i<vs.length:=by
   unfold start at h2
   by_cases hi:i<vs.length
   ·exact hi
   ·rw[List.getElem?_append_right (by simpa using hi)]at h2
    rw[List.getElem?_replicate]at h2
    split at h2<;>cases h2
  have ha:vs[i]?=some v:=by
   unfold start at h2
   rw[List.getElem?_append_left (by simpa using hi),List.getElem?_map]at h2
   cases e:vs[i]? with
   |none=>rw[e]at h2;cases h2
   |some a=>rw[e]at h2;cases h2;rfl
  obtain⟨u,hu,rv⟩:=r.get ha
  have hp:ps[i]?=some y:=by
   rw[←S.pre,List.getElem?_take_of_lt (by omega)];exact h1
  have ndP:ps.Nodup:=by rw[←S.pre];exact S.nd.sublist (List.take_sublist _ _)
  refine⟨u,rv,?_⟩
  rcases S.par y (List.mem_of_getElem? hp)with k|k
  ·exact .inl ⟨k,L9 ndP hp hu k⟩
  ·obtain⟨c,e⟩:=IP (n:=s.heap.objs.size+1) k
   refine .inr ⟨.inl k,c,e,?_⟩
   have q:=x.cell y c e
   rw[Mj ndP hp hu (by show scope.names.lookup y≠_;rw[k];decide)]at q
   exact q
 ·exact e0.hok.fresh (Nat.le_of_lt (x.above y c (PySem.mem_of_lookup h)))
 ·unfold start
  show _=N.length
  rw[List.length_append,List.length_map,List.length_replicate]
  omega
theorem Zi{CX:CXT}{P:Program}{w:World}{K:PySem.W.Frag}{mg:Str->Option Value}{base:Heap}{k:Nat}{f:Addr}{name qual:Str}{params:Arguments}{body:List Stmt}{scope:Scope}{dV kV doc pm cdv ct oc:Value}{an od:Option Addr}
    {osl:Array (Option Value)} {N ps:List Str} {sp:Sp} (lk:K.lookup f=some ⟨oc,od,.func (PySem.W.fnOf name qual params body scope dV kV doc pm an cdv ct),osl⟩) (hcd:PySem.W.codeIn K cdv qual=true) (S:Aa N ps scope)
    (len:∀vs H Q E,sp vs H Q E->vs.length=ps.length)
    (hbody:∀(A:Around) (outer:List Env) (s:Shared) (H:Hp) (vs:List V) (Q:VK) (E:XK),KQ k (A.deeper (envOfC qual scope s.heap.objs.size f cdv))->sp vs H Q E->
      ∃t,PSs (Ud CX P w K mg base N qual scope f cdv A outer s H E) body t/\t {nx:=fun _ H'=>Q .non H',rt:=Q} (start N vs) H):
    Ml P w K mg base CX (k+1) f (PySem.W.fnOf name qual params body scope dV kV doc pm an cdv ct) ps sp:=by
  refine⟨len,fun A outer s H args us vs Q E hr e0 hb r hsp=>?_⟩
  have hl:=len _ _ _ _ hsp
  have KX:K.In s.heap:=e0.mod.kin.keeps fun b o e=>(e0.bs b o e).1
  have lim:s.heap.NoLimit:=e0.mod.nolimit.keeps fun b o e=>(e0.bs b o e).1
  have hkind:∀y∈ps.zip us,scope.names.lookup y.1=some .local∨(scope.names.lookup y.1=some .cell/\((cellsFrom (s.heap.objs.size+1) scope.names []).lookup y.1).isSome=true):=fun⟨n,v⟩ hy=>by
    rcases S.par n (List.of_mem_zip hy).1 with q|q
    ·exact .inl q
    ·exact .inr ⟨q,PySem.W.cellsFrom_some _ _ _ (.inl q)⟩
  refine codeAny_call_function hr.depth (KX _ _ lk) rfl S.co S.gen rfl (PySem.W.codeRec_of KX hcd) (hb _ _ _ _ ?_)
  refine wpAny_newFunctionEnv_cells S.kind hkind fun env he s1 x=>?_
  subst he
  refine⟨lim.keeps x.toInCall.keep,codeAny_func ?_⟩
  obtain⟨t,ht,hq⟩:=hbody A outer s H vs Q E (hr.deeper _) hsp
  have I:Inv (Ud CX P w K mg base N qual scope f cdv A outer s H E) [] (start N vs) H s1:=QL S hr.hd e0 hl r x
  refine wpAny_mono (ht [] s1 (start N vs) H _ I hq) (fun fl s' hs=>?_) fun e s' hs=>hs
  have fin:∀{σ':St} {H':Hp} {v:V} {u:Value},Inv (Ud CX P w K mg base N qual scope f cdv A outer s H E) [] σ' H' s'->RelV v u->Q v H'->CE outer P w H s Q u s':=
    fun{σ' H' v u} J rv q=>⟨v,H',J.os,J.bare,J.base,J.hok,rv,q⟩
  cases fl with
  | ret u =>
    obtain⟨v,σ',H',J,rv,q⟩:=hs
    exact fin J rv q
  | next =>
    obtain⟨σ',H',J,q⟩:=hs
    exact fin (v:=V.non) (u:=Value.none) J rfl q
  | brk =>
    obtain⟨_,_,_,q⟩:=hs
    exact False.elim q
  | cont =>
    obtain⟨_,_,_,q⟩:=hs
    exact False.elim q
end L2
namespace L2
open PySem PySem.Spec PyProof.Rows
section
variable{X:Cx}{x:Str}{p pos:Pos}{e:Expr}{es:List Expr}{t:TA}{id T:String}{r:List V->Hp->VK->Prop}
noncomputable def tCB(r:List V->Hp->VK->Prop)(t:TA):TE:=fun σ H Q=>t σ H fun vs H1=>r vs H1 Q
theorem Td(hc:Di X (.builtin id) r)(hg:Gl X x)(hm:X.mg x=none)(hv:bootBuiltins x=some (.builtin id))(ha:PA X (e::es) t)(hn:x≠ "__name__":=by decide)(hdb:(x==("__debug__":Str))=false:=by decide)
  (he:starEach (e::es) X.env=(false,eval e X.env)::starEach es X.env:=by rfl) (hpl:(backTo pos (starEach es X.env)).any (·.1)=false:=by rfl):PE X (.Call (.Name x p) (e::es) [] pos) (tCB r t):=by
 intro pins s σ H Q I h
 refine wpAny_Call_Name_kw (Ka I hg hm hv ?_ hn hdb)
 exact PyProof.Rows.callWith_builtin1 (thn (ha pos pins s σ H _ I h) fun us s1 ⟨vs,H1,I1,r1,q1⟩=>hc pins s1 σ H1 vs us Q I1 r1 q1) he hpl
theorem Pg(hc:Di X (.type T) r)(hg:Gl X x)(hm:X.mg x=none)(hv:bootBuiltins x=some (.type T))(ha:PA X (e::es) t)(hn:x≠ "__name__":=by decide)(hdb:(x==("__debug__":Str))=false:=by decide)
  (he:starEach (e::es) X.env=(false,eval e X.env)::starEach es X.env:=by rfl) (hpl:(backTo pos (starEach es X.env)).any (·.1)=false:=by rfl):PE X (.Call (.Name x p) (e::es) [] pos) (tCB r t):=by
 intro pins s σ H Q I h
 refine wpAny_Call_Name_kw (Ka I hg hm hv ?_ hn hdb)
 exact PyProof.Rows.callWith_type1 (thn (ha pos pins s σ H _ I h) fun us s1 ⟨vs,H1,I1,r1,q1⟩=>hc pins s1 σ H1 vs us Q I1 r1 q1) he hpl
end
end L2
namespace HT
open PySem PyProof.Rows
section
open PySem.SeqAt
open PySem.AutoSeq1 (wpAny_loadPart')
open PySem.MeetsSeq PySem.MeetsSeq2 PySem.MeetsSeq3
end
section
variable{prog:Program}{w:World}{A:Around}{E:Value->Shared->Prop}{s:Shared}
theorem Uo{t b:Addr}{vs ws:List Value}{Q:Value->Shared->Prop}(ht:IsTup s.heap t vs.toArray)(hb:IsTup s.heap b ws.toArray)(hv:vs≠[])
  (h1:ws=[]->Q (.ref t) s) (h2:ws≠[]->Q (.ref s.heap.objs.size) {s with heap:=s.heap.push {cls:=.type "tuple",data:=.seq (vs++ws).toArray}})
  (hsz:vs.length+ws.length≤sizeLine):wpAny (model prog w) A (binaryOp .Add (.ref t) (.ref b)) Q E s:=by
 obtain⟨⟨cls,dd,data,sl⟩,ho,hc,n,hd⟩:=id ht
 obtain⟨⟨cls2,dd2,data2,sl2⟩,ho2,hc2,n2,hd2⟩:=id hb
 simp only at hc hd hc2 hd2
 subst hc hd hc2 hd2
 have e:vs.toArray++ws.toArray=(vs++ws).toArray:=by simp
 by_cases hw:ws=[]
 ·exact concat_meets ⟨_,ho,rfl⟩ ⟨_,ho2,rfl⟩ noFill_tuple_add seq_tuple_add PySem.F.slot_tuple_add PySem.F.entry_tuple_add (PySem.F.args_tuple_add_2 _ _)
   (tuple_addW1 t b vs.toArray ws.toArray n n2 dd dd2 sl sl2 (by simpa using hv) (by simp[hw])) ⟨ho,ho2,h1 hw⟩
 ·refine concat_meets ⟨_,ho,rfl⟩ ⟨_,ho2,rfl⟩ noFill_tuple_add seq_tuple_add PySem.F.slot_tuple_add PySem.F.entry_tuple_add (PySem.F.args_tuple_add_2 _ _)
   (tuple_addW2 t b vs.toArray ws.toArray n n2 dd dd2 sl sl2 (by simpa using hv) (by simpa using hw) (by rw[List.size_toArray,List.size_toArray];exact hsz)) ⟨ho,ho2,?_⟩
  rw[e]
  exact h2 hw
noncomputable def sIx(n d:Nat):Option Int->Nat
 |none=>d
 |some v=>if v<0 then(v+(n:Int)).toNat else min v.toNat n
theorem NK(n d k:Nat):sIx n d (some (k:Int))=min k n:=by
 show(if(k:Int)<0 then((k:Int)+(n:Int)).toNat else min (k:Int).toNat n)=min k n
 rw[if_neg (by omega),Int.toNat_natCast]
theorem WI(n d:Nat)(hd:d≤n)(o:Option Int):sIx n d o≤n:=by
  cases o with
  |none=>exact hd
  | some v =>
    show(if v<0 then(v+(n:Int)).toNat else min v.toNat n)≤n
    by_cases hv:v<0
    ·rw[if_pos hv];omega
    ·rw[if_neg hv];exact Nat.min_le_right _ _
theorem Pb(v:Int)(n d:Nat):(if v<0 then max (v+(n:Int)) 0 else min v (n:Int))=((sIx n d (some v):Nat):Int):=by
 show(if v<0 then max (v+(n:Int)) 0 else min v (n:Int))=(((if v<0 then(v+(n:Int)).toNat else min v.toNat n):Nat):Int)
 by_cases hv:v<0
 ·simp only[if_pos hv];omega
 ·simp only[if_neg hv];omega
theorem Oh(lo hi:Option Int)(n:Nat):Builtin.Slice.sliceAdjust lo hi 1 (n:Int)=(((sIx n 0 lo:Nat):Int),((sIx n n hi:Nat):Int)):=by
 have h1:¬((1:Int)<0):=by omega
 unfold Builtin.Slice.sliceAdjust
 simp only[h1,if_false]
 refine Prod.ext ?_ ?_
 ·cases lo with
  |none=>rfl
  |some v=>exact Pb v n 0
 ·cases hi with
  |none=>rfl
  |some v=>exact Pb v n n
theorem Og(i j:Nat):Builtin.Slice.slicePlaces (i:Int) (j:Int) 1=j-i:=by
 unfold Builtin.Slice.slicePlaces
 have h1:(1:Int)>0:=by omega
 simp only[h1,if_true,Int.ediv_one]
 split<;>omega
theorem Ko{v:Value}{o:Option Int}{Q:Option Int->Shared->Prop}(p:IsPart v o)(h:Q o s):wpAny (model prog w) A (Builtin.Slice.slicePartIndex v) Q E s:=by
 cases p with
 |none=>exact slicePart_none h
 |int i t=>exact slicePart_int h
theorem FO{sl:Addr}{vl vu:Value}{lo hi:Option Int}{n:Nat}{Q:Int×Int×Nat->Shared->Prop}(hs:s.heap.IsSliceOf sl vl vu .none)(pl:IsPart vl lo)(pu:IsPart vu hi)
  (h:Q (((sIx n 0 lo:Nat):Int),1,sIx n n hi-sIx n 0 lo) s):wpAny (model prog w) A (Builtin.Slice.sliceApplied (.ref sl) (pure (n:Int))) Q E s:=by
 obtain⟨os,hos,hcs,hds⟩:=id hs
 unfold Builtin.Slice.sliceApplied Builtin.Slice.sliceFields
 refine wpAny_bind (wpAny_bind (wpAny_field hos hds (x:=vl) rfl (wpAny_bind (wpAny_field hos hds (x:=vu) rfl (wpAny_bind (wpAny_field hos hds (x:=.none) rfl (wpAny_pure ?_)))))))
 refine wpAny_bind (slicePart_none ?_)
 show wpAny _ _ (if((1:Int)==0)=true then _ else _) _ _ s
 rw[if_neg (by decide)]
 refine wpAny_bind (Ko pl (wpAny_bind (Ko pu (wpAny_bind (wpAny_pure ?_)))))
 show wpAny _ _ (match Builtin.Slice.sliceAdjust lo hi 1 (n:Int)with|(lo,hi)=>pure (lo,(1:Int),Builtin.Slice.slicePlaces lo hi 1)) _ _ s
 rw[Oh lo hi n]
 show wpAny _ _ (pure (((sIx n 0 lo:Nat):Int),(1:Int),Builtin.Slice.slicePlaces ((sIx n 0 lo:Nat):Int) ((sIx n n hi:Nat):Int) 1)) _ _ s
 rw[Og]
 exact wpAny_pure h
theorem Rr(xs:Array Value)(i k:Nat):((List.range k).filterMap fun(m:Nat)=>xs[((i:Int)+(m:Int)*1).toNat]?).toArray=((xs.toList.drop i).take k).toArray:=by
 have e:(fun(m:Nat)=>xs[((i:Int)+(m:Int)*1).toNat]?)=fun m=>xs[i+m]?:=by
  funext m
  have:((i:Int)+(m:Int)*1).toNat=i+m:=by omega
  rw[this]
 rw[e]
 have:=pick_run xs i k
 rw[List.filterMap_map]at this
 have e2:((fun x=>xs[x]?)∘fun x=>i+x)=fun m=>xs[i+m]?:=rfl
 rw[e2]at this
 rw[this]
theorem Ha{t sl:Addr}{items:Array Value}{vl vu:Value}{lo hi:Option Int}{Q:Value->Shared->Prop}(ht:IsTup s.heap t items)(hs:s.heap.IsSliceOf sl vl vu .none)(pl:IsPart vl lo)(pu:IsPart vu hi)
  (hw:¬(sIx items.size 0 lo=0/\sIx items.size items.size hi=items.size))
  (h:Q (.ref s.heap.objs.size) {s with heap:=s.heap.push {cls:=.type "tuple",data:=.seq ((items.toList.drop (sIx items.size 0 lo)).take (sIx items.size items.size hi-sIx items.size 0 lo)).toArray}})
  (hsz:items.size≤sizeLine):wpAny (model prog w) A (getItem (.ref t) (.ref sl)) Q E s:=by
 have htake:sizeOk (.seq ((items.toList.drop (sIx items.size 0 lo)).take (sIx items.size items.size hi-sIx items.size 0 lo)).toArray):=by
  show((items.toList.drop (sIx items.size 0 lo)).take (sIx items.size items.size hi-sIx items.size 0 lo)).toArray.size≤sizeLine
  rw[List.size_toArray,List.length_take,List.length_drop,Array.length_toList]
  omega
 have hj:sIx items.size items.size hi≤items.size:=WI _ _ (Nat.le_refl _) hi
 obtain⟨os,hos,hcs,hds⟩:=id hs
 have hTs:s.TypeIs (.ref sl) "slice":=⟨os,hos,hcs⟩
 unfold getItem
 try with_reducible refine wpAny_holding ?_
 first|refine wpAny_bind (wpAny_pure ?_)|skip
 refine wpAny_bind (wpAny_sequenceKey ht.typeIs (by decide) ?_)
 refine wpAny_bind (wpAny_callSpecial?_slot (name:=Str.ofString "__getitem__") ht.typeIs PyProof.Rows.slot_tuple_getitem
  (wpAny_call_entry PyProof.Rows.slot_tuple_getitem ht.typeIs entry_tuple_getitem ?_ (args_tuple_getitem _ _)))
 show wpAny _ _ (Builtin.Tuple.tupleItemsOf (.ref t) >>= _) _ _ s
 refine wpAny_bind (tupleItemsOf_ ht ?_)
 refine wpAny_bind (wpAny_typeOf hTs ?_)
 rw[if_pos (by decide)]
 refine wpAny_bind (FO hs pl pu ?_)
 have hno:¬((((sIx items.size 0 lo:Nat):Int)==0 && (1:Int)==1 && (sIx items.size items.size hi-sIx items.size 0 lo)==items.size)=true):=by
  intro q
  rw[Bool.and_eq_true,Bool.and_eq_true]at q
  have q1:((sIx items.size 0 lo:Nat):Int)=0:=eq_of_beq q.1.1
  have q2:sIx items.size items.size hi-sIx items.size 0 lo=items.size:=eq_of_beq q.2
  exact hw ⟨by omega,by omega⟩
 show wpAny _ _ (if(((sIx items.size 0 lo:Nat):Int)==0 && (1:Int)==1 && (sIx items.size items.size hi-sIx items.size 0 lo)==items.size)=true then _ else _) _ _ s
 rw[if_neg hno,Rr]
 first
  |exact wpAny_bind (m:=Builtin.Tuple.tupleExact _) (wpAny_newObj_type (wpAny_pure ⟨_,rfl,wpAny_pure h⟩) htake)
  |exact wpAny_bind (m:=Builtin.Tuple.tupleExact _) (wpAny_newObj_type (wpAny_bind (wpAny_pure (wpAny_pure ⟨_,rfl,wpAny_pure h⟩))) htake)
  |exact wpAny_bind (wpAny_bind (m:=Builtin.Tuple.tupleExact _) (wpAny_newObj_type (wpAny_pure (wpAny_pure ⟨_,rfl,wpAny_pure h⟩)) htake))
  |exact wpAny_bind (wpAny_bind (m:=Builtin.Tuple.tupleExact _) (wpAny_newObj_type (wpAny_pure ⟨_,rfl,wpAny_pure h⟩) htake))
end
end HT
namespace L2
open PySem PySem.Spec PyProof.Rows
abbrev TO:=St->Hp->(Option Int->Hp->Prop)->Prop
def PO(X:Cx)(e:Option Expr)(t:TO):Prop:=
 ∀ (pins : List (Addr × Obj)) (s : Shared) (σ : St) (H : Hp) (Q : Option Int -> Hp -> Prop), Inv X pins σ H s -> t σ H Q ->
  wpAny (model X.prog X.w) X.A (evalPart e X.env) (fun u s'=>∃o H',Inv X pins σ H' s'/\IsPart u o/\Q o H') X.xe s
noncomputable def Ux:TO:=fun _ H Q=>Q none H
noncomputable def Ze(t:TE):TO:=fun σ H Q=>t σ H fun x H1=>∃i,x=.int i/\Q (some i) H1
section
variable{X:Cx}{e:Expr}{te:TE}{lo hi:Option Expr}{tl th:TO}{pos p2:Pos}
theorem Ot:PO X none Ux:=by
 intro pins s σ H Q I h
 rw[evalPart_none]
 exact wpAny_pure ⟨none,H,I,.none,h⟩
theorem LZ(h:PE X e te):PO X (some e) (Ze te):=by
 intro pins s σ H Q I hw
 rw[evalPart_some]
 refine thn (h pins s σ H _ I hw) fun u s1 ⟨x,H1,I1,r1,q1⟩=>?_
 obtain⟨i,rfl,q⟩:=q1
 obtain⟨t,rfl⟩:=r1
 exact⟨some i,H1,I1,.int i t,q⟩
def SlR(X:Cx)(r:V->Option Int->Option Int->Hp->VK->Prop):Prop:=
 ∀ (pins : List (Addr × Obj)) (s : Shared) (σ : St) (H : Hp) (x : V) (v vl vu : Value) (lo hi : Option Int) (sl : Addr) (Q : VK), Inv X pins σ H s -> RelV x v -> s.heap.IsSliceOf sl vl vu .none -> IsPart vl lo -> IsPart vu hi -> r x lo hi H Q ->
  ∃T id,typeLookup (.type T) "__getitem__"=pure (some (.builtin id))/\s.TypeIs v T/\wpAny (model X.prog X.w) X.A (getItem v (.ref sl)) (EP X pins σ Q) X.xe s
noncomputable def tSl(r:V->Option Int->Option Int->Hp->VK->Prop)(te:TE)(tl th:TO):TE:=fun σ H Q=>te σ H fun x H1=>tl σ H1 fun l H2=>th σ H2 fun u H3=>r x l u H3 Q
theorem LC{r:V->Option Int->Option Int->Hp->VK->Prop}(hr:SlR X r)(he:PE X e te)(hl:PO X lo tl)(hu:PO X hi th):PE X (.Subscript e (.Slice lo hi none p2) pos) (tSl r te tl th):=by
 intro pins s σ H Q I h
 refine Subscript_ (thn (he pins s σ H _ I h) fun v s1 ⟨x,H1,I1,r1,q1⟩=>?_)
 refine wpAny_Slice (thn (hl pins s1 σ H1 _ I1 q1) fun vl s2 ⟨l,H2,I2,pl,q2⟩=>thn (hu pins s2 σ H2 _ I2 q2) fun vu s3 ⟨u,H3,I3,pu,q3⟩=>?_)
 rw[evalPart_none]
 refine wpAny_pure ?_
 have I4:Inv X pins σ H3 {s3 with heap:=s3.heap.push {cls:=.type "slice",data:=.fields #[vl,vu,.none]}}:=I3.kept (t':=s3.toks) fun b ob q=>Heap.get?_push_of_some _ q
 obtain⟨T,id,hT,ht,hg⟩:=hr pins {s3 with heap:=s3.heap.push {cls:=.type "slice",data:=.fields #[vl,vu,.none]}} σ H3 x v vl vu l u s3.heap.objs.size Q I4 r1 (Heap.IsSliceOf.new ..) pl pu q3
 show wpAny (model X.prog X.w) X.A (subscriptTail e (.Slice lo hi none p2) v (.ref s3.heap.objs.size)) (EP X pins σ Q) X.xe {s3 with heap:=s3.heap.push {cls:=.type "slice",data:=.fields #[vl,vu,.none]}}
 exact tail_any (ops:=[.ref s3.heap.objs.size,v]) ht hT hg (by with_unfolding_all rfl)
noncomputable def T6(xs:List V)(lo hi:Option Int):List V:=(xs.drop (HT.sIx xs.length 0 lo)).take (HT.sIx xs.length xs.length hi-HT.sIx xs.length 0 lo)
theorem Je(xs:List V)(lo hi:Option Int):(T6 xs lo hi).length≤xs.length:=by
 unfold T6
 rw[List.length_take,List.length_drop]
 omega
def bz(K:PySem.W.Frag):V->Option Int->Option Int->Hp->VK->Prop:=fun x lo hi H Q=>∃a xs,x=.ref a/\SqT K H a xs/\
 ¬(HT.sIx xs.length 0 lo=0/\HT.sIx xs.length xs.length hi=xs.length)/\∀p,H p=none->Q (.ref p) (upd H p (.tup (T6 xs lo hi)))
theorem Wk:SlR X (bz X.K):=by
 intro pins s σ H x v vl vu lo hi sl Q I rx hs pl pu h
 obtain⟨a,xs,rfl,hx,hw,q⟩:=h
 cases rx
 obtain⟨its,r,ht,hz⟩:=I.tuple hx
 have hlen:its.toArray.size=xs.length:=by rw[List.size_toArray];exact r.length.symm
 refine⟨"tuple",_,PyProof.Rows.slot_tuple_getitem.lookup,ht.typeIs,?_⟩
 refine HT.Ha ht hs pl pu (by rw[hlen];exact hw) ?_ (by rw[hlen];exact hz)
 rw[hlen]
 refine⟨.ref s.heap.objs.size,_,I.laid (t':=s.toks) (o:=.tup (T6 xs lo hi)) (fun b ob q=>Heap.get?_push_of_some _ q) (Nat.le_refl _) ?_,rfl,q _ (I.hok.fresh (Nat.le_refl _))⟩
 exact⟨Nat.le_trans (Je xs lo hi) hz,_,(r.drop (HT.sIx xs.length 0 lo)).take (HT.sIx xs.length xs.length hi-HT.sIx xs.length 0 lo),IsTup.new _ _⟩
noncomputable def aB(K:PySem.W.Frag):R2:=fun x y H Q=>∃a b xs ys,x=.ref a/\y=.ref b/\SqT K H a xs/\SqT K H b ys/\xs≠[]/\xs.length+ys.length≤sizeLine/\
 (ys=[]->Q (.ref a) H)/\(ys≠[]->∀p,H p=none->Q (.ref p) (upd H p (.tup (xs++ys))))
theorem Vals.nil_iff{xs:List V}{us:List Value}(r:Vals xs us):us=[]↔xs=[]:=by
 cases r with
 |nil=>simp
 |cons _ _=>simp
theorem VN:OpR X (binaryOp .Add) (aB X.K):=by
 intro pins s σ H x y v u Q I rx ry h
 obtain⟨a,b,xs,ys,rfl,rfl,ha,hb,hx,hz,q1,q2⟩:=h
 cases rx
 cases ry
 obtain⟨its,r1,p1,_⟩:=I.tuple ha
 obtain⟨its2,r2,p2,_⟩:=I.tuple hb
 refine HT.Uo p1 p2 (fun z=>hx (r1.nil_iff.mp z)) (fun z=>⟨.ref a,H,I,rfl,q1 (r2.nil_iff.mp z)⟩) (fun z=>?_) (by rw[←r1.length,←r2.length];exact hz)
 refine⟨.ref s.heap.objs.size,_,I.laid (t':=s.toks) (o:=.tup (xs++ys)) (fun b ob q=>Heap.get?_push_of_some _ q) (Nat.le_refl _) ?_,rfl,q2 (fun w=>z (r2.nil_iff.mpr w)) _ (I.hok.fresh (Nat.le_refl _))⟩
 exact⟨by rw[List.length_append];exact hz,_,r1.append r2,IsTup.new _ _⟩
end
end L2
namespace L2
open PySem PySem.Spec PyProof.Rows
noncomputable def ixN(n:Nat)(i:Int):Option Nat:=if 0≤i then(if i<n then some i.toNat else none)else if-(n:Int)≤i then some (i+n).toNat else none
noncomputable def atI{α:Type}(xs:List α)(i:Int):Option α:=(ixN xs.length i).bind fun j=>xs[j]?
theorem Pd{n:Nat}{i:Int}{j:Nat}(h:ixN n i=some j):seqIndex? i n=some j/\j<n/\ -(n:Int)≤i/\i<n:=by
 unfold ixN at h
 by_cases h0:0≤i
 ·rw[if_pos h0]at h
  by_cases h1:i<n
  ·rw[if_pos h1]at h
   have e:i.toNat=j:=Option.some.inj h
   exact⟨by rw[seqIndex_of h0 h1,e],by omega,by omega,h1⟩
  ·rw[if_neg h1]at h;cases h
 ·rw[if_neg h0]at h
  by_cases h1: -(n:Int)≤i
  ·rw[if_pos h1]at h
   have e:(i+n).toNat=j:=Option.some.inj h
   exact⟨by rw[seqIndex_neg (by omega) h1,e],by omega,h1,by omega⟩
  ·rw[if_neg h1]at h;cases h
theorem O1{α:Type}{xs:List α}{i:Int}{v:α}(h:atI xs i=some v):∃j,seqIndex? i xs.length=some j/\xs[j]?=some v/\j<xs.length/\ -(xs.length:Int)≤i/\i<xs.length:=by
  unfold atI at h
  cases e:ixN xs.length i with
  |none=>rw[e]at h;cases h
  | some j =>
    rw[e]at h
    obtain⟨h1,h2,h3,h4⟩:=Pd e
    exact⟨j,h1,h,h2,h3,h4⟩
theorem Uv{α:Type}{xs:List α}{j:Nat}{v:α}(h:xs[j]?=some v):atI xs (j:Int)=some v:=by
 have hj:j<xs.length:=(List.getElem?_eq_some_iff.mp h).1
 have e:ixN xs.length (j:Int)=some j:=by
  unfold ixN
  rw[if_pos (by omega),if_pos (by omega)];simp
 unfold atI;rw[e];exact h
theorem Nk{α:Type}(xs:List α)(v:α):atI (xs++[v]) (-1)=some v:=by
 have hl:(xs++[v]).length=xs.length+1:=by simp
 have e:ixN (xs++[v]).length (-1)=some xs.length:=by
  unfold ixN
  rw[hl,if_neg (by decide),if_pos (by omega)]
  congr 1
  omega
 unfold atI
 rw[e]
 show(xs++[v])[xs.length]?=some v
 simp
def Pt(b:Expr):Prop:=∀o i,subscripted b false o i=operate [o,i] (getItem o i)
def IxR(X:Cx)(r:R2):Prop:=
 ∀ (value slice : Expr) (pins : List (Addr × Obj)) (s : Shared) (σ : St) (H : Hp) (x y : V) (v u : Value) (Q : VK), Inv X pins σ H s -> RelV x v -> RelV y u -> r x y H Q ->
  subscripted slice false v u=operate [v,u] (getItem v u)->wpAny (model X.prog X.w) X.A (subscriptTail value slice v u) (EP X pins σ Q) X.xe s
def MtR(X:Cx)(id:String)(r:V->List V->Hp->VK->Prop):Prop:=
 ∀ (pins : List (Addr × Obj)) (s : Shared) (σ : St) (H : Hp) (x : V) (xs : List V) (v : Value) (us : List Value) (Q : VK), Inv X pins σ H s -> RelV x v -> Vals xs us -> r x xs H Q ->
  wpAny (model X.prog X.w) X.A (call (.builtin id) (v::us)) (EP X pins σ Q) X.xe s
section
variable{X:Cx}{a b:Expr}{ta tb:TE}{pos:Pos}
theorem Zh{r:R2}(hr:IxR X r)(ha:PE X a ta)(hb:PE X b tb)(hs:Pt b):PE X (.Subscript a b pos) (tOp r ta tb):=by
 intro pins s σ H Q I h
 exact Subscript_ (ZO ha hb I h fun v u s2 x y H2 I2 rx ry q=>hr a b pins s2 σ H2 x y v u Q I2 rx ry q (hs _ _))
noncomputable def bp(K:PySem.W.Frag):R2:=fun x y H Q=>∃p xs i v,x=.ref p/\y=.int i/\SqL K H p xs/\atI xs i=some v/\Q v H
noncomputable def bh(K:PySem.W.Frag):R2:=fun x y H Q=>∃p xs i v,x=.ref p/\y=.int i/\SqT K H p xs/\atI xs i=some v/\Q v H
theorem U3:IxR X (bp X.K):=by
 intro value slice pins s σ H x y v u Q I rx ry h hs
 obtain⟨p,xs,i,z,rfl,rfl,hq,he,q⟩:=h
 cases rx
 obtain⟨t,rfl⟩:=ry
 obtain⟨its,r,pl,hz⟩:=I.list hq
 obtain⟨j,h1,h2,h3,h4,h5⟩:=O1 he
 obtain⟨w,ew,rw'⟩:=r.get h2
 have hl:=r.length
 have hn:=MY
 have fin:EP X pins σ Q w s:=⟨z,H,I,rw',q⟩
 by_cases h0:0≤i
 ·have hj:i.toNat=j:=by
   rw[seqIndex_of h0 h5]at h1
   exact Option.some.inj h1
  exact item_listR pl.isList h0 (by omega) (by rw[hj];simpa using ew) fin hs
 ·have hj:(i+(its.toArray.size:Int)).toNat=j:=by
   rw[seqIndex_neg (by omega) h4]at h1
   rw[List.size_toArray,←hl]
   exact Option.some.inj h1
  exact subscriptTail_builtinR (x:=w) pl.isList.typeIs slot_list_getitem.lookup
   (wpAny_getItem_list_neg (Q:=fun r s'=>r=w/\EP X pins σ Q r s') pl.isList (by omega) (by rw[List.size_toArray]<;>omega) (by omega) (by rw[hj];simpa using ew) ⟨rfl,fin⟩) hs
theorem Wh:IxR X (bh X.K):=by
 intro value slice pins s σ H x y v u Q I rx ry h hs
 obtain⟨p,xs,i,z,rfl,rfl,hq,he,q⟩:=h
 cases rx
 obtain⟨t,rfl⟩:=ry
 obtain⟨its,r,pl,hz⟩:=I.tuple hq
 obtain⟨j,h1,h2,h3,h4,h5⟩:=O1 he
 obtain⟨w,ew,rw'⟩:=r.get h2
 have hl:=r.length
 have hn:=MY
 have fin:EP X pins σ Q w s:=⟨z,H,I,rw',q⟩
 exact subscriptTail_builtinR (x:=w) pl.typeIs slot_tuple_getitem.lookup
  (getItem_tuple (j:=j) (Q:=fun r s'=>r=w/\EP X pins σ Q r s') pl (by omega) (by omega) (by rw[List.size_toArray,←hl];exact h1) (by simpa using ew) ⟨rfl,fin⟩) hs
theorem Oj(its:List Value)(n j:Nat)(u:Value):Obj.mapSeq (·.setIfInBounds j u) {cls:=.type "list",data:=.seq its.toArray n}={cls:=.type "list",data:=.seq (its.set j u).toArray n}:=by
 simp[Obj.mapSeq]
theorem Inv.lst{pins:List (Addr×Obj)}{σ:St}{H:Hp}{s:Shared}{p:Addr}{xs:List V}(I:Inv X pins σ H s)(h:H p=some (.lst xs)):
  ∃(its:List Value) (n:Nat),Vals xs its/\s.heap.get? p=some {cls:=.type "list",data:=.seq its.toArray n}/\xs.length≤sizeLine:=by
 obtain⟨z,its,n,r,e⟩:=I.hok p _ h
 exact⟨its,n,r,e,z⟩
theorem Inv.lstUpd{pins:List (Addr×Obj)}{σ:St}{H:Hp}{s:Shared}{p:Addr}{xs ys:List V}{its its':List Value}{n n':Nat}{f:Obj->Obj}(I:Inv X pins σ H s)(h:H p=some (.lst xs))
  (ho:s.heap.get? p=some {cls:=.type "list",data:=.seq its.toArray n}) (hf:f {cls:=.type "list",data:=.seq its.toArray n}={cls:=.type "list",data:=.seq its'.toArray n'}) (r:Vals ys its') (hz:ys.length≤sizeLine) (t:Nat):
  Inv X pins σ (upd H p (.lst ys)) {s with heap:=s.heap.update p f,toks:=t}:=by
 have e:(s.heap.update p f).get? p=some {cls:=.type "list",data:=.seq its'.toArray n'}:=by
  rw[Heap.get?_update_self f ho (by rw[hf]<;>rfl),hf]
 refine I.write (x:=p) (e:=p) (by rw[h];trivial) (.inl rfl) (fun b u hb q=>(Heap.get?_update_other _ _ (Ne.symm hb)).trans q) ⟨_,e⟩ ?_
 exact⟨hz,its',n',r,e⟩
def ZD:V->V->V->Hp->(Hp->Prop)->Prop:=fun o i v H Q=>∃p xs k j,o=.ref p/\i=.int k/\H p=some (.lst xs)/\ixN xs.length k=some j/\Q (upd H p (.lst (xs.set j v)))
theorem set_list:a9 X ZD:=by
 intro pins s σ H o i v ov iv u Q I ro ri rv h
 obtain⟨p,xs,k,j,rfl,rfl,hp,hj,q⟩:=h
 cases ro
 obtain⟨t,rfl⟩:=ri
 obtain⟨its,n,r,ho,hz⟩:=I.lst hp
 obtain⟨h1,h2,h3,h4⟩:=Pd hj
 have hl:=r.length
 have hn:=MY
 have I':Inv X pins σ (upd H p (.lst (xs.set j v))) {s with heap:=s.heap.update p (Obj.mapSeq (·.setIfInBounds j u))}:=
  I.lstUpd hp ho (Oj its n j u) (r.set rv j) (by rw[List.length_set];exact hz) s.toks
 by_cases h0:0≤k
 ·have hk:k.toNat=j:=by
   rw[seqIndex_of h0 h4]at h1
   exact Option.some.inj h1
  exact PySem.W.ki_setAt ho h0 (by omega) (by rw[List.size_toArray,←hl];exact h4) (by rw[hk];exact⟨_,I',q⟩)
 ·have hk:(k+(its.toArray.size:Int)).toNat=j:=by
   rw[seqIndex_neg (by omega) h3]at h1
   rw[List.size_toArray,←hl]
   exact Option.some.inj h1
  exact PySem.W.ki_setBack ho (by omega) (by rw[List.size_toArray,←hl];exact h3) (by omega) (by rw[hk];exact⟨_,I',q⟩)
theorem Mr(lo hi:Option Int)(n:Nat):(sliceBounds lo hi none n).1=((HT.sIx n 0 lo:Nat):Int)/\(sliceBounds lo hi none n).2.1=((HT.sIx n n hi:Nat):Int)/\(sliceBounds lo hi none n).2.2=1:=by
  refine⟨?_,?_,rfl⟩
  · cases lo with
    |none=>simp[sliceBounds,HT.sIx]
    | some i =>
      simp only[sliceBounds,HT.sIx,Option.getD_none,show(1:Int)>0 by decide,if_true]
      by_cases h:i<0
      ·simp only[h,if_true]<;>omega
      ·simp only[h,if_false]<;>omega
  · cases hi with
    |none=>simp[sliceBounds,HT.sIx]
    | some i =>
      simp only[sliceBounds,HT.sIx,Option.getD_none,show(1:Int)>0 by decide,if_true]
      by_cases h:i<0
      ·simp only[h,if_true]<;>omega
      ·simp only[h,if_false]<;>omega
theorem LO(its:List Value)(lo hi:Option Int):slicePick its.toArray lo hi none=((its.drop (HT.sIx its.length 0 lo)).take (HT.sIx its.length its.length hi-HT.sIx its.length 0 lo)).toArray:=by
 obtain⟨h1,h2,h3⟩:=Mr lo hi its.toArray.size
 unfold slicePick
 rw[h1,h2,h3]
 simp only[sliceRange_one,pick_run,List.size_toArray]<;>rfl
def bu(K:PySem.W.Frag):V->Option Int->Option Int->Hp->VK->Prop:=fun x lo hi H Q=>∃a xs,x=.ref a/\SqL K H a xs/\∀p,H p=none->Q (.ref p) (upd H p (.lst (T6 xs lo hi)))
theorem VD:SlR X (bu X.K):=by
 intro pins s σ H x v vl vu lo hi sl Q I rx hs pl pu h
 obtain⟨a,xs,rfl,hx,q⟩:=h
 cases rx
 obtain⟨its,r,ht,hz⟩:=I.list hx
 have hlen:=r.length
 refine⟨"list",_,slot_list_getitem.lookup,ht.isList.typeIs,?_⟩
 refine wpAny_getItem_list_slice ht.isList hs pl pu .none (by simp) ?_ (by rw[List.size_toArray]<;>omega)
 rw[LO,←hlen]
 refine⟨.ref s.heap.objs.size,_,I.laid (t':=s.toks) (o:=.lst (T6 xs lo hi)) (fun b ob q=>Heap.get?_push_of_some _ q) (Nat.le_refl _) ?_,rfl,q _ (I.hok.fresh (Nat.le_refl _))⟩
 exact⟨Nat.le_trans (Je xs lo hi) hz,_,0,(r.drop (HT.sIx xs.length 0 lo)).take (HT.sIx xs.length xs.length hi-HT.sIx xs.length 0 lo),Heap.get?_push_size _ rfl⟩
noncomputable def Jy:V->Bool
 | .non=>true
 | .bl _=>true
 | .int _=>true
 | .str _=>true
 |_=>false
noncomputable def eqV:V->V->Bool
 | .non,.non=>true
 | .bl a,.bl b=>a==b
 | .bl a,.int b=>(if a then 1 else 0)==b
 | .int a,.bl b=>a==(if b then 1 else 0)
 | .int a,.int b=>a==b
 | .str a,.str b=>a==b
 |_,_=>false
theorem XF{A:Around}{s:Shared}{y x:V}{u v:Value}(ry:RelV y u)(rx:RelV x v)(fy:Jy y=true)(fx:Jy x=true):SeqAt.EqAt A s u v (eqV y x):=by
  cases y with
  | non =>
    cases ry
    cases x with
    |non=>cases rx;exact SeqAt.EqAt.same _
    |bl b=>cases rx;exact SeqAt.EqAt.none_bool b
    |int b=>obtain⟨t,rfl⟩:=rx;exact SeqAt.EqAt.none_int b t
    |str b=>obtain⟨t,rfl⟩:=rx;exact SeqAt.EqAt.none_str b t
    |_=>exact absurd (show false=true from fx) Bool.false_ne_true
  | bl a =>
    cases ry
    cases x with
    |non=>cases rx;exact SeqAt.EqAt.bool_none a
    |bl b=>cases rx;exact SeqAt.EqAt.bool_bool a b
    |int b=>obtain⟨t,rfl⟩:=rx;exact SeqAt.EqAt.bool_int a b t
    |str b=>obtain⟨t,rfl⟩:=rx;exact SeqAt.EqAt.bool_str a b t
    |_=>exact absurd (show false=true from fx) Bool.false_ne_true
  | int a =>
    obtain⟨t',rfl⟩:=ry
    cases x with
    |non=>cases rx;exact SeqAt.EqAt.int_none a t'
    |bl b=>cases rx;exact SeqAt.EqAt.int_bool a t' b
    |int b=>obtain⟨t,rfl⟩:=rx;exact SeqAt.EqAt.int_int a t' b t
    |str b=>obtain⟨t,rfl⟩:=rx;exact SeqAt.EqAt.int_str a t' b t
    |_=>exact absurd (show false=true from fx) Bool.false_ne_true
  | str a =>
    obtain⟨t',rfl⟩:=ry
    cases x with
    |non=>cases rx;exact SeqAt.EqAt.str_none a t'
    |bl b=>cases rx;exact SeqAt.EqAt.str_bool a t' b
    |int b=>obtain⟨t,rfl⟩:=rx;exact SeqAt.EqAt.str_int a t' b t
    |str b=>obtain⟨t,rfl⟩:=rx;exact SeqAt.EqAt.str_str a t' b t
    |_=>exact absurd (show false=true from fx) Bool.false_ne_true
  |_=>exact absurd (show false=true from fy) Bool.false_ne_true
noncomputable def eqU(x:V)(u:Value):Bool:=match u with
 | .none=>eqV .non x
 | .bool b=>eqV (.bl b) x
 | .int i _=>eqV (.int i) x
 | .str z _=>eqV (.str z) x
 |_=>false
theorem UQ{x y:V}{u:Value}(r:RelV y u)(f:Jy y=true):eqU x u=eqV y x:=by
 cases y with
 |non=>cases r;rfl
 |bl b=>cases r;rfl
 |int i=>obtain⟨t,rfl⟩:=r;rfl
 |str z=>obtain⟨t,rfl⟩:=r;rfl
 |_=>exact absurd (show false=true from f) Bool.false_ne_true
theorem JY{x:V}:∀{xs:List V} {us:List Value},Vals xs us->xs.all Jy=true->us.any (eqU x)=xs.any fun y=>eqV y x
  |_,_,.nil,_=>rfl
  | y :: xs, u :: us, .cons r t, f => by
    rw[List.all_cons,Bool.and_eq_true]at f
    rw[List.any_cons,List.any_cons,UQ r f.1,JY t f.2]
theorem G9{A:Around}{s:Shared}{x:V}{v:Value}(rx:RelV x v)(fx:Jy x=true):∀{xs:List V} {us:List Value},Vals xs us->xs.all Jy=true->∀u∈us,SeqAt.EqAt A s u v (eqU x u)
  |_,_,.nil,_=>fun u hu=>by cases hu
  | y :: xs, u :: us, .cons r t, f => fun u' hu => by
    rw[List.all_cons,Bool.and_eq_true]at f
    rcases List.mem_cons.mp hu with rfl|hu
    ·rw[UQ r f.1];exact XF r rx f.1 fx
    ·exact G9 rx fx t f.2 u' hu
noncomputable def inV(x:V)(xs:List V):Bool:=xs.any fun y=>eqV y x
noncomputable def rIn(K:PySem.W.Frag)(neg:Bool):R2:=fun x y H Q=>∃p xs,y=.ref p/\(SqL K H p xs∨SqT K H p xs)/\Jy x=true/\xs.all Jy=true/\Q (.bl (if neg then !inV x xs else inV x xs)) H
theorem QD:OpR X (compareOp .In) (rIn X.K false):=by
 intro pins s σ H x y v u Q I rx ry h
 obtain⟨p,xs,rfl,hq,fx,fs,q⟩:=h
 cases ry
 rcases hq with hq|hq
 ·obtain⟨its,r,pl,hz⟩:=I.list hq
  refine SeqAt.in_listAt (eqU x) pl.isList (fun w hw=>G9 rx fx r fs w (by simpa using hw)) ⟨.bl _,H,I,rfl,?_⟩
  rw[show its.toArray.any (eqU x)=its.any (eqU x) by simp,JY r fs]
  exact q
 ·obtain⟨its,r,pl,hz⟩:=I.tuple hq
  refine SeqAt.in_tupleAt (eqU x) pl (fun w hw=>G9 rx fx r fs w (by simpa using hw)) ⟨.bl _,H,I,rfl,?_⟩
  rw[show its.toArray.any (eqU x)=its.any (eqU x) by simp,JY r fs]
  exact q
theorem MQ:OpR X (compareOp .NotIn) (rIn X.K true):=by
 intro pins s σ H x y v u Q I rx ry h
 obtain⟨p,xs,rfl,hq,fx,fs,q⟩:=h
 cases ry
 rcases hq with hq|hq
 ·obtain⟨its,r,pl,hz⟩:=I.list hq
  refine SeqAt.notIn_listAt (eqU x) pl.isList (fun w hw=>G9 rx fx r fs w (by simpa using hw)) ⟨.bl _,H,I,rfl,?_⟩
  rw[show its.toArray.any (eqU x)=its.any (eqU x) by simp,JY r fs]
  exact q
 ·obtain⟨its,r,pl,hz⟩:=I.tuple hq
  refine SeqAt.notIn_tupleAt (eqU x) pl (fun w hw=>G9 rx fx r fs w (by simpa using hw)) ⟨.bl _,H,I,rfl,?_⟩
  rw[show its.toArray.any (eqU x)=its.any (eqU x) by simp,JY r fs]
  exact q
theorem MP:Di X (.builtin "len") (fun xs H Q=>∃p ys,xs=[.ref p]/\(SqL X.K H p ys∨SqT X.K H p ys)/\Q (.int ys.length) H):=by
 intro pins s σ H xs us Q I r h
 obtain⟨p,ys,rfl,hq,q⟩:=h
 obtain⟨u,rfl,rx⟩:=vals1 r
 cases rx
 have hn:=MY
 rcases hq with hq|hq
 ·obtain⟨its,r',pl,hz⟩:=I.list hq
  have hlen:=r'.length
  exact Calls.call_len_list pl.isList (by simp only[List.size_toArray]<;>omega) ⟨.int ys.length,H,I.tok _,⟨s.toks+1,by rw[List.size_toArray,hlen]⟩,q⟩
 ·obtain⟨its,r',pl,hz⟩:=I.tuple hq
  have hlen:=r'.length
  exact len_tuple pl (by simp only[List.size_toArray]<;>omega) ⟨.int ys.length,H,I.tok _,⟨s.toks+1,by rw[List.size_toArray,hlen]⟩,q⟩
theorem Mh:Di X (.builtin "len") (fun xs H Q=>∃z,xs=[.str z]/\z.length≤sizeLine/\Q (.int z.length) H):=by
 intro pins s σ H xs us Q I r h
 obtain⟨z,rfl,hz,q⟩:=h
 obtain⟨u,rfl,t,rfl⟩:=vals1 r
 have hn:=MY
 exact len_str (by omega) ⟨.int z.length,H,I.tok _,⟨_,rfl⟩,q⟩
theorem Mq:Di X (.type "list") (fun xs H Q=>∃p ys,xs=[.ref p]/\(SqL X.K H p ys∨SqT X.K H p ys)/\∀l,H l=none->Q (.ref l) (upd H l (.lst ys))):=by
 intro pins s σ H xs us Q I r h
 obtain⟨p,ys,rfl,hq,q⟩:=h
 obtain⟨u,rfl,rx⟩:=vals1 r
 cases rx
 have fin:∀(its:List Value),Vals ys its->ys.length≤sizeLine->∀(h':Heap) (c':Nat),(∀b o',s.heap.get? b=some o'->h'.get? b=some o')->
   h'.get? s.heap.objs.size=some {cls:=.type "list",dict:=none,data:=.seq its.toArray c',slots:= #[]}->EP X pins σ Q (.ref s.heap.objs.size) {s with heap:=h'}:=fun its r' hz h' c' kp e=>
  ⟨.ref s.heap.objs.size,_,I.laid (t':=s.toks) kp (Nat.le_refl _) (show Cn X.prog X.w _ h' _ (.lst ys)from⟨hz,its,c',r',e⟩),rfl,q _ (I.hok.fresh (Nat.le_refl _))⟩
 rcases hq with hq|hq
 ·obtain⟨its,r',pl,hz⟩:=I.list hq
  have hlen:=r'.length
  obtain⟨o,ho,hc,n,hd⟩:=pl.isList
  exact call_list_seq p (.inl rfl) ho hc hd (fun h' c' kp e=>fin its r' hz h' c' kp e) (by simp only[List.size_toArray]<;>omega)
 ·obtain⟨its,r',pl,hz⟩:=I.tuple hq
  have hlen:=r'.length
  obtain⟨o,ho,hc,n,hd⟩:=pl
  exact call_list_seq p (.inr rfl) ho hc hd (fun h' c' kp e=>fin its r' hz h' c' kp e) (by simp only[List.size_toArray]<;>omega)
theorem LA:Di X (.type "tuple") (fun xs H Q=>∃p ys,xs=[.ref p]/\((SqL X.K H p ys/\∀l,H l=none->Q (.ref l) (upd H l (.tup ys)))∨(SqT X.K H p ys/\Q (.ref p) H))):=by
 intro pins s σ H xs us Q I r h
 obtain⟨p,ys,rfl,h⟩:=h
 obtain⟨u,rfl,rx⟩:=vals1 r
 cases rx
 rcases h with⟨hq,q⟩|⟨hq,q⟩
 ·obtain⟨its,r',pl,hz⟩:=I.list hq
  have hlen:=r'.length
  refine call_tuple_list pl.isList (fun h' kp=>?_) (by simp only[List.size_toArray]<;>omega)
  have I1:Inv X pins σ H {s with heap:=h'}:=I.kept (t':=s.toks) kp
  have I2:Inv X pins σ (upd H h'.objs.size (.tup ys)) {s with heap:=h'.push {cls:=.type "tuple",data:=.seq its.toArray}}:=
   I1.laid (t':=s.toks) (fun b o e=>Heap.get?_push_of_some _ e) (Nat.le_refl _) (show Cn X.prog X.w _ _ _ (.tup ys)from⟨hz,its,r',IsTup.new _ _⟩)
  exact⟨.ref h'.objs.size,_,I2,rfl,q _ (I1.hok.fresh (Nat.le_refl _))⟩
 ·obtain⟨its,r',pl,hz⟩:=I.tuple hq
  exact call_tuple_same pl ⟨.ref p,H,I,rfl,q⟩
def tyV(K:PySem.W.Frag)(T:String)(x:V)(H:Hp):Prop:=match x with
 | .str _=>T="str"
 | .int _=>T="int"
 | .ref p=>(T="list" /\∃xs,SqL K H p xs)∨(T="tuple" /\∃o,K.lookup p=some o/\o.cls=.type "tuple" /\o.dict=none)∨
   (T="dict" /\((∃kvs,H p=some (.dK kvs))∨∃kvs,H p=some (.dT kvs)))∨(T="set" /\∃S n,H p=some (.set S n))
 |_=>False
theorem Wg {pins : List (Addr × Obj)} {σ : St} {H : Hp} {s : Shared} {T : String} {x : V} {v : Value} (I : Inv X pins σ H s) (r : RelV x v) (ty : tyV X.K T x H) :
    s.TypeIs v T/\∀a,v=.ref a->∃ob,s.heap.get? a=some ob/\ob.dict=none:=by
  cases x with
  | str z =>
    obtain⟨t,rfl⟩:=r
    cases (show T="str" from ty)
    exact⟨typeIs_str s z t,fun _ e=>nomatch e⟩
  | int i =>
    obtain⟨t,rfl⟩:=r
    cases (show T="int" from ty)
    exact⟨typeIs_int s i t,fun _ e=>nomatch e⟩
  | ref p =>
    cases r
    rcases ty with⟨rfl,xs,hq⟩|⟨rfl,o,hk,hc,hd⟩|⟨rfl,hk⟩|⟨rfl,S,n,hk⟩
    · obtain ⟨its, _, pl, _⟩ := I.list hq
      refine⟨pl.isList.typeIs,fun a e=>?_⟩
      cases e
      obtain⟨o,n,e,c,hd,_⟩:=pl
      exact⟨o,e,hd⟩
    · refine ⟨⟨o, I.kIn p o hk, hc⟩, fun a e => ?_⟩
      cases e
      exact⟨o,I.kIn _ o hk,hd⟩
    · have z : ∃ o, s.heap.get? p = some o /\ o.ExactDict := by
        rcases hk with⟨kvs,hk⟩|⟨kvs,hk⟩
        · obtain ⟨_, _, _, _, o, _, _, e, ex, _⟩ := I.hok p _ hk
          exact⟨o,e,ex⟩
        · obtain ⟨_, _, _, _, o, _, _, e, ex, _⟩ := I.hok p _ hk
          exact⟨o,e,ex⟩
      obtain⟨o,e,ex⟩:=z
      refine⟨⟨o,e,ex.1⟩,fun a e2=>?_⟩
      cases e2
      exact⟨o,e,ex.2.1⟩
    · obtain ⟨o, _, _, _, e, ex, _⟩ := I.hok p _ hk
      refine⟨⟨o,e,ex.1⟩,fun a e2=>?_⟩
      cases e2
      exact⟨o,e,ex.2.1⟩
  |_=>exact False.elim ty
noncomputable def tBM(K:PySem.W.Frag)(T:String)(r:V->List V->Hp->VK->Prop)(to:TE)(t:TA):TE:=fun σ H Q=>to σ H fun x H1=>tyV K T x H1/\t σ H1 fun xs H2=>r x xs H2 Q
variable{o e:Expr}{es:List Expr}{to:TE}{t:TA}{name:Str}{apos cpos:Pos}{T id:String}{r:V->List V->Hp->VK->Prop}
theorem Z3(pa:PlainAttrs T)(slot:Slot T name id)(hty:typeOf (.builtin id)=pure (.type "method_descriptor"))(hm:MtR X id r)(ho:PE X o to)(ha:PA X (e::es) t)
  (hbase:attributeBase o name X.env (eval o X.env)=eval o X.env:=by rfl)
  (hfew:((backTo cpos (starEach (e::es) X.env)).all (fun x=> !x.1) && (backToKw cpos (keywordEach [] X.env)).all (fun x=>x.1.isSome)
   && decide ((e::es).length+([]:List Keyword).length+(if([]:List Keyword).isEmpty then 0 else 1)<30))=true:=by rfl)
  (hline:(apos.endLine==cpos.line)=true:=by rfl) (hs:starEach (e::es) X.env=(false,eval e X.env)::starEach es X.env:=by rfl) (hplain:(backTo cpos (starEach es X.env)).any (·.1)=false:=by rfl):
  PE X (.Call (.Attribute o name apos) (e::es) [] cpos) (tBM X.K T r to t):=by
 intro pins s σ H Q I h
 refine wpAny_Call_method_late hbase hfew hline rfl (thn (ho pins s σ H _ I h) fun v s1 ⟨x,H1,I1,r1,ty,q1⟩=>?_)
 obtain⟨h1,h2⟩:=Wg I1 r1 ty
 refine⟨T,id,pa,slot,hty,h1,h2,?_⟩
 have hA:=ha cpos pins s1 σ H1 _ I1 q1
 rw[hs]at hA⊢
 refine Calls.callWith_builtin (by show(false||(backTo cpos (starEach es X.env)).any (·.1))=false;rw[hplain]<;>rfl) (Calls.evalArgs_plain ?_)
 exact thn hA fun us s2 ⟨vs,H2,I2,r2,q2⟩=>hm pins s2 σ H2 x vs v us Q I2 r1 r2 q2
end
end L2
namespace L2
open PySem PySem.Spec PyProof.Rows
def MtM(X:Cx)(id:String)(r:V->List V->Hp->VK->Prop):Prop:=
 ∀ (pins : List (Addr × Obj)) (s : Shared) (σ : St) (H : Hp) (x : V) (xs : List V) (v : Value) (us : List Value) (Q : VK), Inv X pins σ H s -> RelV x v -> Vals xs us -> r x xs H Q ->
  wpAny (model X.prog X.w) X.A (call (.builtin id) (v::us)) (EP X pins σ Q) X.xe s
theorem Vals.one:∀{x:V} {us:List Value},Vals [x] us->∃u,us=[u]/\RelV x u
 |_,_,.cons r .nil=>⟨_,rfl,r⟩
theorem Vals.two:∀{x y:V} {us:List Value},Vals [x,y] us->∃u v,us=[u,v]/\RelV x u/\RelV y v
 |_,_,_,.cons r (.cons q .nil)=>⟨_,_,rfl,r,q⟩
theorem Vals.rep{xs:List V}{us:List Value}(h:Vals xs us):∀k:Nat,Vals (List.replicate k xs).flatten (List.replicate k us).flatten
  |0=>.nil
  | k + 1 => by
    rw[List.replicate_succ,List.replicate_succ,List.flatten_cons,List.flatten_cons]
    exact Vals.append h (Vals.rep h k)
theorem foldl_rep(its:List Value):∀(k:Nat) (acc:List Value),
    List.foldl (fun x1 x2=>x1++x2) acc.toArray (List.replicate k its.toArray)=(acc++(List.replicate k its).flatten).toArray
  |0,acc=>by simp
  | k + 1, acc => by
    have e:acc.toArray++its.toArray=(acc++its).toArray:=by simp
    have e2:(acc++its)++(List.replicate k its).flatten=acc++(List.replicate (k+1) its).flatten:=by
      rw[List.replicate_succ,List.flatten_cons,List.append_assoc]
    rw[←e2,←foldl_rep its k (acc++its),←e,List.replicate_succ,List.foldl_cons]
section
variable{X:Cx}{pins:List (Addr×Obj)}{σ:St}{H:Hp}{s:Shared}{l b:Addr}{xs ys zs:List V}
theorem Inv.lset{its its':List Value}{n:Nat}{f:Array Value->Array Value}{t':Nat}(I:Inv X pins σ H s)(hH:H l=some (.lst xs))
  (e:s.heap.get? l=some {cls:=.type "list",data:=.seq its.toArray n}) (hf:f its.toArray=its'.toArray) (hv:Vals ys its') (hz:ys.length≤sizeLine):
  Inv X pins σ (upd H l (.lst ys)) {s with heap:=s.heap.update l (Obj.mapSeq f),toks:=t'}:=by
 have q:=PySem.IsL.update e f
 rw[hf]at q
 refine I.write (x:=l) (e:=l) (by rw[hH];exact trivial) (.inl rfl) (fun b' u hb hu=>(Heap.get?_update_other s.heap (Obj.mapSeq f) (Ne.symm hb)).trans hu) ⟨_,q⟩ ?_
 exact⟨hz,its',_,hv,q⟩
theorem Inv.lnew{its:List Value}{t':Nat}(I:Inv X pins σ H s)(hv:Vals ys its)(hz:ys.length≤sizeLine):
  Inv X pins σ (upd H s.heap.objs.size (.lst ys)) {s with heap:=s.heap.push {cls:=.type "list",data:=.seq its.toArray},toks:=t'}:=
 I.laid (fun _ _ q=>Heap.get?_push_of_some _ q) (Nat.le_refl _) ⟨hz,its,0,hv,Heap.get?_push_size _ rfl⟩
theorem Inv.fresh(I:Inv X pins σ H s):H s.heap.objs.size=none:=I.hok.fresh (Nat.le_refl _)
theorem Inv.lstM(I:Inv X pins σ H s)(hH:H l=some (.lst xs)):xs.length≤sizeLine/\∃(its:List Value) (n:Nat),Vals xs its/\xs.length=its.length/\s.heap.get? l=some {cls:=.type "list",data:=.seq its.toArray n}:=by
 obtain⟨z,its,n,r,e⟩:=I.hok l _ hH
 exact⟨z,its,n,r,r.length,e⟩
theorem Li{n:Nat}(h:n≤sizeLine):Builtin.List.listTooLong n=false:=by
 unfold Builtin.List.listTooLong
 exact decide_eq_false (by omega)
end
section
variable{X:Cx}
def Vr:V->List V->Hp->VK->Prop:=fun x vs H Q=>∃l xs y,x=.ref l/\vs=[y]/\H l=some (.lst xs)/\xs.length<sizeLine/\Q .non (upd H l (.lst (xs++[y])))
theorem Lv:MtM X "list.append" Vr:=by
 intro pins s σ H x vs v us Q I rx rv h
 obtain⟨l,xs,y,rfl,rfl,hH,hz,q⟩:=h
 cases rx
 obtain⟨u,rfl,ru⟩:=rv.one
 obtain⟨z,its,n,r,hl,e⟩:=I.lstM hH
 refine call_meets F.slot_list_append ⟨_,e,rfl⟩ F.entry_list_append (F.args_list_append_2 _ _) (PySem.list_append l its.toArray n u (by rw[List.size_toArray];omega)) ⟨e,?_⟩
 refine⟨.non,_,I.lset (its':=its++[u]) hH e (by simp) (r.append (.cons ru .nil)) ?_,rfl,q⟩
 rw[List.length_append,List.length_singleton]
 omega
def Vh:V->List V->Hp->VK->Prop:=fun x vs H Q=>∃l b xs zs,x=.ref l/\vs=[.ref b]/\H l=some (.lst xs)/\H b=some (.lst zs)/\xs.length+zs.length≤sizeLine/\Q .non (upd H l (.lst (xs++zs)))
theorem Qc:MtM X "list.extend" Vh:=by
 intro pins s σ H x vs v us Q I rx rv h
 obtain⟨l,b,xs,zs,rfl,rfl,hH,hB,hz,q⟩:=h
 cases rx
 obtain⟨u,rfl,ru⟩:=rv.one
 cases ru
 obtain⟨z,its,n,r,hl,e⟩:=I.lstM hH
 obtain⟨z2,its2,n2,r2,hl2,e2⟩:=I.lstM hB
 have hsz:its.toArray.size+its2.toArray.size≤sizeLine:=by rw[List.size_toArray,List.size_toArray];omega
 have hlong:¬(!its.toArray.isEmpty && Builtin.List.listTooLong (its.toArray.size+its2.toArray.size))=true:=by
  rw[Li hsz,Bool.and_false]
  exact Bool.false_ne_true
 refine call_meets F.slot_list_extend ⟨_,e,rfl⟩ F.entry_list_extend (F.args_list_extend_2 _ _)
  (AutoSeq1.list_extend_list_list_0 l its.toArray n b its2.toArray n2 hlong (by rw[List.size_toArray];omega) (by omega)) ⟨e,e2,?_⟩
 refine⟨.non,_,I.lset (its':=its++its2) hH e (by simp) (r.append r2) ?_,rfl,q⟩
 rw[List.length_append]
 omega
noncomputable def bH:R2:=fun x y H Q=>∃l b xs zs,x=.ref l/\y=.ref b/\H l=some (.lst xs)/\H b=some (.lst zs)/\xs.length+zs.length≤sizeLine/\∀p,H p=none->Q (.ref p) (upd H p (.lst (xs++zs)))
theorem Ww:OpR X (binaryOp .Add) bH:=by
 intro pins s σ H x y v u Q I rx ry h
 obtain⟨l,b,xs,zs,rfl,rfl,hH,hB,hz,q⟩:=h
 cases rx
 cases ry
 obtain⟨z,its,n,r,hl,e⟩:=I.lstM hH
 obtain⟨z2,its2,n2,r2,hl2,e2⟩:=I.lstM hB
 refine PySem.P.add_list e e2 ?_ (by rw[List.size_toArray,List.size_toArray];omega)
 have ea:its.toArray++its2.toArray=(its++its2).toArray:=by simp
 rw[ea]
 exact⟨.ref _,_,I.lnew (t':=s.toks) (r.append r2) (by rw[List.length_append];omega),rfl,q _ I.fresh⟩
noncomputable def cA:R2:=fun x y H Q=>∃l k xs,x=.ref l/\y=.int k/\H l=some (.lst xs)/\ -(2^63)≤k/\k<2^63/\xs.length*k.toNat≤sizeLine/\
 ∀p,H p=none->Q (.ref p) (upd H p (.lst (List.replicate k.toNat xs).flatten))
theorem len_rep{α:Type}(xs:List α)(k:Nat):(List.replicate k xs).flatten.length=k*xs.length:=by
 induction k with
 |zero=>simp
 |succ k ih=>rw[List.replicate_succ,List.flatten_cons,List.length_append,ih,Nat.succ_mul,Nat.add_comm]
theorem Xp:OpR X (binaryOp .Mult) cA:=by
  intro pins s σ H x y v u Q I rx ry h
  obtain⟨l,k,xs,rfl,rfl,hH,h1,h2,hz,q⟩:=h
  cases rx
  obtain⟨t,rfl⟩:=ry
  obtain⟨z,its,n,r,hl,e⟩:=I.lstM hH
  have hlen:its.toArray.size*k.toNat≤sizeLine:=by rw[List.size_toArray,←hl];exact hz
  have hcap:¬its.toArray.size*k.toNat>(2^63-1) / 8:=by
    have:(sizeLine:Nat)≤(2^63-1) / 8:=by decide
    omega
  have hfit:¬(!Builtin.List.listFitsIndex k)=true:=by
    rw[fitsIndex_both h1 h2]
    exact Bool.false_ne_true
  have hlong:¬Builtin.List.listTooLong (its.toArray.size*k.toNat)=true:=by
    rw[Li hlen]
    exact Bool.false_ne_true
  have hnew:List.foldl (fun x1 x2=>x1++x2) #[] (List.replicate (if its.toArray.isEmpty=true then 0 else k.toNat) its.toArray)=(List.replicate k.toNat its).flatten.toArray:=by
    have f0:∀m:Nat,List.foldl (fun x1 x2=>x1++x2) #[] (List.replicate m its.toArray)=(List.replicate m its).flatten.toArray:=fun m=>by
      have:=foldl_rep its m []
      rw[List.nil_append]at this
      exact this
    rw[f0]
    cases its with
    |nil=>simp
    |cons a r'=>rw[if_neg (by simp)]
  refine wpAny_binaryOp_repeat_ref (T:="list") (U:="int") (by decide) ⟨_,e,rfl⟩ (fun s'=>typeIs_int s' k t) noFill_list_mul F.fills_int_mul F.slot_int_rmul repeat_list F.slot_int_index.lookup
    (call_meets F.slot_int_rmul (typeIs_int s k t) F.entry_int_rmul (F.args_int_rmul_2 _ _) (int___rmul___int_list k t l its.toArray n)
      ⟨e,rfl,⟨_,e,rfl⟩,call_meets F.slot_list_mul ⟨_,e,rfl⟩ F.entry_list_mul (F.args_list_mul_2 _ _) (AutoListH.list___mul___list_int_3 l its.toArray n k t hfit hcap hlong) ⟨e,?_⟩⟩)
  rw[hnew]
  exact⟨.ref _,_,I.lnew (t':=s.toks) (r.rep k.toNat) (by rw[len_rep,Nat.mul_comm];exact hz),rfl,q _ I.fresh⟩
end
section
variable{prog:Program}{w:World}{A:Around}{E:Value->Shared->Prop}{s:Shared}
end
section
variable{X:Cx}
end
end L2
namespace Att
open PySem PySem.W PySem.Calls PyProof.Rows
theorem ints_of_wellAll{P:Params}{h:Heap}:∀(ns:List Int) (vs:List Value),WellAll P h vs (ns.map WData.int)->IntsAre vs ns:=by
  intro ns
  induction ns with
  | nil =>
    intro vs w
    rw[List.map_nil]at w
    cases w
    exact .nil
  | cons n ns ih =>
    intro vs w
    rw[List.map_cons]at w
    cases w with
    | cons a b =>
      cases a
      exact .cons _ _ (ih _ b)
theorem script_of{l:OpenLaw}{n:Nat}(hn:l.most=some n){P:Params}{h:Heap}{args:List WData}{vals:List Value}
    (hpre:l.row.toRowW.claim.pre args=true) (hwl:WellAll P h vals args):
    ∃a vs ns,vals=[Value.ref a]/\args=[WData.list (ns.map WData.int)]/\h.get? a=some {cls:=.type "list",data:=.seq vs.toArray}/\IntsAre vs ns/\ns.length≤n:=by
  have hsh:WShape.hasAll [] args [.list .int]=true:=(pre_splitW hpre).1
  have hc:l.pre.holds [] {args:=args}=true:=(pre_splitW hpre).2
  obtain⟨d,r,rfl,h1,h2⟩:=hasAllW_cons hsh
  obtain rfl:=hasAllW_nil h2
  obtain⟨xs,rfl,h3⟩:=hasW_list h1
  obtain⟨ns,rfl⟩:=items_int h3
  have hlen:ns.length≤n:=by
    unfold OpenLaw.pre at hc
    have h4:(WTm.not (.lt (.lit (.int (n:Int))) (.len (.arg 0)))).holds [] {args:=[.list (ns.map .int)]}=true:=by
      have h4:=(holds_andW hc).1
      rw[hn]at h4
      exact h4
    have h5:=condW_of h4 (w_not (w_lt w_lit (w_len_list (w_arg rfl))))
    rw[List.length_map]at h5
    refine Nat.le_of_not_lt fun q=>?_
    have q':(n:Int)<((ns.length:Nat):Int):=by omega
    first
      |(rw[decide_eq_true q']at h5;exact absurd h5 (by decide))
      |(simp at h5;omega)
  cases hwl with
  | cons w1 w2 =>
    cases w2
    cases w1 with
    |list ho hall=>exact⟨_,_,ns,rfl,rfl,ho,ints_of_wellAll ns _ hall,hlen⟩
theorem post_true(l:OpenLaw)(args:List WData):l.row.toRowW.claim.post args (.bool true) args=true:=
 postW_of (r:=l.row.toRowW) (X:=(true==true))
  (show WShape.has [] (.bool true) .bool=true by first|rfl|decide|simp[WShape.has,WShape.arms,WShape.armsAll])
  (show(WTm.eq .res (.lit (.bool true))).value [] {args:=args,res:=some (.bool true),after:=args}=some (.bool (true==true))from w_eq_bool (w_res rfl) w_lit) rfl
theorem attach_call{l:OpenLaw}{n:Nat}{q:Program}{loose:List Str}{XP:(Str->Option Value)->Heap->Prop}{YP:World->Heap->Prop}{d:DefRec}
  (hn:l.most=some n) (hdf:d.params.defaults=[])
  (call:∀(w:World) (s₀ s₁:Shared) (mg mb:Str->Option Value) (fa:Addr) (o:Obj) (pm cd doc:Value) (a:Addr) (vs:List Value) (ns:List Int),
   Ground q loose [] XP w s₀ mg mb s₁.heap->YP w s₁.heap->
   s₁.heap.get? fa=some o->o.data=.func (docDef d.name d.params d.body d.scope pm cd doc)->s₁.heap.CodeRec cd d.name->mg d.name=some (.ref fa)->
   s₁.heap.get? a=some {cls:=.type "list",data:=.seq vs.toArray}->IntsAre vs ns->ns.length≤n->s₁.gens= #[]->
   codeAny (model l.prog w) callerA (.call (.ref fa) ⟨[.ref a],[]⟩) (fun r s'=>r=.ok (.ret (.bool true))/\OldK s₁.heap s'.heap/\s'.os=s₁.os/\AllBare s'.gens) s₁):
  WalkO q loose XP YP l.row.toRowW d [] (fun f vs=>PySem.call f vs):=by
 intro w s₀ s₁ mg mb G Y fa o pm cd doc dV kV ho hd hcd hD hmg hg args vals as hpre hlay hrd hwl hlo
 obtain rfl:dV=.none:=Dflts.none hD hdf
 obtain rfl:kV=.none:=Dflts.noKw hD
 obtain⟨a,vs,ns,rfl,rfl,hobj,hints,hlen⟩:=script_of hn hpre hwl
 refine enter_call (codeAny_mono (call w s₀ s₁ mg mb fa o pm cd doc a vs ns G Y ho (fd_plain hd) hcd hmg hobj hints hlen hg) fun r s' hq=>?_)
 obtain⟨rfl,h2,h3,h4⟩:=hq
 exact⟨.inl ⟨.bool true,.bool true,[],rfl,fun _=>rfl,.bool true,post_true l _,fun _=>⟨List.Pairwise.nil,fun _ hm=>(nomatch hm)⟩⟩,h2,h3,h4⟩
section
variable{prog:Program}{w:World}{A:Around}{E:Value->Shared->Prop}{s:Shared}{K:Frag}
end
end Att
namespace L2
open PySem PySem.Spec PyProof.Rows
theorem MZ:∀{vs:List Value} {ns:List Int},IntsAre vs ns->Vals (ns.map V.int) vs
 |_,_,.nil=>.nil
 |_,_,.cons n t h=>.cons ⟨t,rfl⟩ (MZ h)
def ZW(H:Hp):Prop:=∀b,H b=none∨∃o xs,H b=some (.frz o (.lst xs))
theorem Sv {P : Program} {w : World} {K : PySem.W.Frag} {mg mb : Str -> Option Value} {CX : CXT} {k : Nat} {fa a : Addr} {fd : FuncData} {x : Str} {sp : Sp} {s₁ : Shared} {vs : List Value} {ns : List Int}
    (KX:K.In s₁.heap) (hns:s₁.heap.Ns mainGlobals mg) (hb:s₁.heap.Ns builtinsNs mb) (hbb:∀x:Str,x≠ "__name__"->mb x=bootBuiltins x) (hlim:s₁.heap.NoLimit) (hg:s₁.gens= #[])
    (ha:s₁.heap.get? a=some {cls:=.type "list",data:=.seq vs.toArray}) (hi:IntsAre vs ns) (hl:ns.length≤sizeLine) (hr:KQ k callerA)
    (F:∀base:Heap,K.In base->base.Ns mainGlobals mg->Ml P w K mg base CX k fa fd [x] sp) (hbind:∀(s:Shared) (u:Value),BindsTo s fd ⟨[u],[]⟩ [(x,u)])
    (hsp:∀H:Hp,ZW H->SqL K H a (ns.map V.int)->sp [.ref a] H (fun v _=>v=.bl true) fun _ _ _=>False)
    (hCX:∀H e s',CX [] H s₁ (fun _ _ _=>False) e s'->False):
    codeAny (model P w) callerA (.call (.ref fa) ⟨[.ref a],[]⟩) (fun r s'=>r=.ok (.ret (.bool true))/\OldK s₁.heap s'.heap/\s'.os=s₁.os/\AllBare s'.gens) s₁:=by
  have rv:=MZ hi
  have lenV:=hi.length
  have core : ∀ H : Hp, ZW H -> SqL K H a (ns.map V.int) -> HOk P w H s₁.heap -> (∀ b, H b ≠ none -> b = a) -> (H a ≠ none -> K.lookup a = none) ->
      codeAny (model P w) callerA (.call (.ref fa) ⟨[.ref a],[]⟩) (fun r s'=>r=.ok (.ret (.bool true))/\OldK s₁.heap s'.heap/\s'.os=s₁.os/\AllBare s'.gens) s₁:=by
    intro H hO hS hok hA hK
    have base_of:∀{b:Addr} {o:Obj},s₁.heap.get? b=some o->H b=none->(Sx s₁.heap H).get? b=some o:=fun e n=>Rh e n
    have noA:∀{b:Addr} {o:Obj} {es:Array DictEntry} {ep:Nat},s₁.heap.get? b=some o->o.data=.dict es ep->H b=none:=fun{b o es ep} e d=>by
      cases q:H b with
      |none=>rfl
      | some u =>
        have e':b=a:=hA b (by rw[q];simp)
        subst e'
        rw[ha]at e;cases e
        have d':Data.seq vs.toArray _=Data.dict es ep:=d
        cases d'
    have nsK:∀{b:Addr} {m:Str->Option Value},s₁.heap.Ns b m->(Sx s₁.heap H).Ns b m:=fun{b m} ⟨o,es,ep,e,d,r⟩=>⟨o,es,ep,base_of e (noA e d),d,r⟩
    have hKb:K.In (Sx s₁.heap H):=fun b o e=>base_of (KX b o e) (by
      cases q:H b with
      |none=>rfl
      | some u =>
        have e':b=a:=hA b (by rw[q];simp)
        subst e'
        rw[hK (by rw[q];simp)]at e;cases e)
    have hM:Mod K mg (Sx s₁.heap H):=⟨hKb,nsK hns,⟨mb,nsK hb,hbb⟩,let⟨mc,h1,h2⟩:=hlim;⟨mc,nsK h1,h2⟩⟩
    have e0:YG P w K mg (Sx s₁.heap H) callerA [] s₁ H:=⟨rfl,hM,fun b o e=>VR e,Nat.le_of_eq (QH _ _),trivial,fun b hb=>absurd (show b∈([]:List Addr)from hb) (by simp),hok,.of_eq hg⟩
    refine codeAny_mono ((F _ hKb (nsK hns)).run callerA [] s₁ H ⟨[.ref a],[]⟩ [.ref a] [.ref a] _ _ hr e0 (hbind s₁ (.ref a)) (.cons rfl .nil) (hsp H hO hS)) fun r s' h=>?_
    cases r with
    |error e=>exact(hCX H e s' h).elim
    | ok fl =>
      cases fl with
      |next=>exact False.elim h
      |brk=>exact False.elim h
      |cont=>exact False.elim h
      | ret u =>
        obtain⟨v,H',os,bare,un,hok',r',q⟩:=h
        have q':v=.bl true:=q
        subst q'
        obtain rfl:u=Value.bool true:=r'
        refine⟨rfl,OldK.of_keep fun b o e=>?_,os,bare⟩
        cases q:H b with
        |none=>exact un.keep b o e q (by intro z;exact absurd (show b∈([]:List Addr)from z) (by simp)) (by simp)
        | some u =>
          rcases hO b with z|⟨ob,xs,z⟩
          ·rw[q]at z;cases z
          · have z2 := un.frzs b ob _ z
            obtain⟨e1,_⟩:=hok b _ z
            obtain⟨e2,_⟩:=hok' b _ z2
            rw[e]at e1;cases e1
            exact e2
  cases hk:K.lookup a with
  | some o =>
    have e:=KX a o hk
    rw[ha]at e
    cases e
    refine core (fun _=>none) (fun _=>.inl rfl) (.inr ⟨_,vs.toArray,_,hk,rfl,rfl,rfl,by rw[List.size_toArray,lenV];exact hl,by simpa using rv⟩) (fun b u z=>by have z':(none:Option HO)=some u:=z;cases z') (fun b z=>absurd rfl z) fun z=>absurd rfl z
  | none =>
    refine core (fun b=>if b=a then some (.frz {cls:=.type "list",data:=.seq vs.toArray} (.lst (ns.map V.int)))else none) (fun b=>?_) (.inl (.inr ⟨{cls:=.type "list",data:=.seq vs.toArray},if_pos rfl⟩)) (fun b u z=>?_) (fun b z=>?_) fun _=>hk
    · by_cases hb : b = a
      ·exact .inr ⟨_,_,if_pos hb⟩
      ·exact .inl (if_neg hb)
    · by_cases hb : b = a
      · have z' := (if_pos hb).symm.trans z
        cases z'
        subst hb
        exact⟨ha,by rw[List.length_map];exact hl,vs,_,rv,ha⟩
      · have z' := (if_neg hb).symm.trans z
        cases z'
    · by_cases hb : b = a
      ·exact hb
      ·exact absurd (if_neg hb) z
end L2
namespace L2
open PySem PySem.Spec PyProof.Rows
abbrev KOf{K:PySem.W.Frag}{h:Heap}(_:K.In h):PySem.W.Frag:=K
theorem Vd{l:PySem.W.OpenLaw}{n k:Nat}{q:Program}{loose:List Str}{XP:(Str->Option Value)->Heap->Prop}{YP:World->Heap->Prop}{d:DefRec}{K:Params->PySem.W.Frag}{CX:World->CXT}{sp:World->Sp}{x:Str}
  (hn:l.most=some n) (hn2:n≤sizeLine) (hdf:d.params.defaults=[]) (hr:KQ k callerA)
  (hY:∀(w:World) (h:Heap),YP w h->(K w.params).In h)
  (F : ∀ (w : World) (mg : Str -> Option Value) (fa : Addr) (h : Heap), (K w.params).In h -> h.Ns mainGlobals mg -> mg d.name = some (.ref fa) ->
   ∃ fd : FuncData, (∀ (s : Shared) (u : Value), BindsTo s fd ⟨[u], []⟩ [(x, u)]) /\
    ∀base:Heap,(K w.params).In base->base.Ns mainGlobals mg->Ml l.prog w (K w.params) mg base (CX w) k fa fd [x] (sp w))
  (hsp:∀(w:World) (H:Hp) (a:Addr) (ns:List Int),ns.length≤n->ZW H->SqL (K w.params) H a (ns.map V.int)->sp w [.ref a] H (fun v _=>v=.bl true) fun _ _ _=>False)
  (hCX:∀(w:World) (H:Hp) (s:Shared) (e:Value) (s':Shared),CX w [] H s (fun _ _ _=>False) e s'->False):
  PySem.W.WalkO q loose XP YP l.row.toRowW d [] (fun f vs=>PySem.call f vs):=by
 refine Att.attach_call hn hdf fun w s₀ s₁ mg mb fa o pm cd doc a vs ns G Y ho hd hcd hmg hobj hints hlen hg=>?_
 have KX:=hY w _ Y
 obtain⟨fd,hb,hF⟩:=F w mg fa _ KX G.T.g hmg
 exact Sv KX G.T.g G.T.b G.T.builtins G.T.nolimit hg hobj hints (Nat.le_trans hlen hn2) hr hF hb (fun H hO hS=>hsp w H a ns hlen hO hS) fun H e s'=>hCX w H s₁ e s'
end L2
namespace L2
open PySem PySem.Spec PyProof.Rows
noncomputable def JV(s:Stmt):Arguments:=match s with
 | .FunctionDef _ a _ _ _ _ _ _ _ _=>a
 |_=>{posonlyargs:=[],args:=[],vararg:=none,kwonlyargs:=[],kw_defaults:=[],kwarg:=none,defaults:=[]}
noncomputable def Es(s:Stmt):List Stmt:=match s with
 | .FunctionDef _ _ b _ _ _ _ _ _ _=>b
 |_=>[]
noncomputable def AJ(s:Stmt):Scope:=match s with
 | .FunctionDef _ _ _ _ _ _ sc _ _ _=>sc
 |_=>{kind:=.function,names:=[],isGenerator:=false,isCoroutine:=false}
abbrev CX0:CXT:=fun _ _ _ _ _ _=>False
abbrev E0:XK:=fun _ _ _=>False
theorem Zd{X:Cx}:Passes CX0 X E0:=fun _ _ _ _ _ _ _ h=>h.elim
structure Fun(K:PySem.W.Frag)(x qual:Str)(st:Stmt)(f:Addr)(fd:FuncData):Prop where
 ex:∃(oc:Value) (od:Option Addr) (kV doc pm:Value) (an:Option Addr) (cdv ct:Value) (osl:Array (Option Value)),
  fd=PySem.W.fnOf x qual (JV st) (Es st) (AJ st) .none kV doc pm an cdv ct/\K.lookup f=some ⟨oc,od,.func fd,osl⟩/\PySem.W.codeIn K cdv qual=true
 kp:PySem.W.keepIn K (.ref f)=true
section
variable{P:Program}{w:World}{K:PySem.W.Frag}{mg:Str->Option Value}{base:Heap}
theorem Fun.ok{x qual:Str}{st:Stmt}{f:Addr}{fd:FuncData}{N ps:List Str}{k:Nat}{sp:Sp}(F:Fun K x qual st f fd)(S:Aa N ps (AJ st))(len:∀vs H Q E,sp vs H Q E->vs.length=ps.length)
  (hbody:∀(cdv:Value) (A:Around) (outer:List Env) (s:Shared) (H:Hp) (vs:List V) (Q:VK) (E:XK),KQ k (A.deeper (envOfC qual (AJ st) s.heap.objs.size f cdv))->sp vs H Q E->
   ∃t,PSs (Ud CX0 P w K mg base N qual (AJ st) f cdv A outer s H E).nox (Es st) t/\t {nx:=fun _ H'=>Q .non H',rt:=Q} (start N vs) H):Ml P w K mg base CX0 (k+1) f fd ps sp:=by
 obtain⟨oc,od,kV,doc,pm,an,cdv,ct,osl,rfl,lk,hcd⟩:=F.ex
 refine Zi lk hcd S len fun A outer s H vs Q E hr hsp=>?_
 obtain⟨t,h,q⟩:=hbody cdv A outer s H vs Q E hr hsp
 exact⟨t,h.nox,q⟩
theorem Fun.binds{x qual:Str}{st:Stmt}{f:Addr}{fd:FuncData}{ps:List Str}(F:Fun K x qual st f fd)
  (h:∀(kV doc pm:Value) (an:Option Addr) (cdv ct:Value) (us:List Value),us.length=ps.length->bindArgs (PySem.W.fnOf x qual (JV st) (Es st) (AJ st) .none kV doc pm an cdv ct) ⟨us,[]⟩=pure (ps.zip us)):Binds K fd ps []:=by
 obtain⟨oc,od,kV,doc,pm,an,cdv,ct,osl,rfl,lk,hcd⟩:=F.ex
 exact .all (h kV doc pm an cdv ct)
theorem XT{x qual:Str}{st:Stmt}{f:Addr}{oc:Value}{od an:Option Addr}{osl:Array (Option Value)}{kV doc pm cdv ct:Value}(l:K.lookup f=some ⟨oc,od,.func (PySem.W.fnOf x qual (JV st) (Es st) (AJ st) .none kV doc pm an cdv ct),osl⟩)
  (c:PySem.W.codeIn K cdv qual=true) (k:PySem.W.keepIn K (.ref f)=true):Fun K x qual st f (PySem.W.fnOf x qual (JV st) (Es st) (AJ st) .none kV doc pm an cdv ct):=⟨⟨oc,od,kV,doc,pm,an,cdv,ct,osl,rfl,l,c⟩,k⟩
end
section
variable{X:Cx}
end
theorem WA{A B:Prop}(h:B):if false=true then A else B:=by
 rw[if_neg Bool.false_ne_true]
 exact h
theorem V8{A B:Prop}(h:A):if true=true then A else B:=by
 rw[if_pos rfl]
 exact h
def Df(H H':Hp):Prop:=∀b o,H b=some o->H' b=some o
end L2
end
noncomputable section
namespace L2
open PySem PySem.Spec PyProof.Rows
noncomputable def FA(cells:List (Str×Addr)):List (Str×NameKind)->List (Str×Addr)->List (Str×Addr)
 | [],cs=>cs
 |(n,k)::r,cs=>if(k==NameKind.free)=true then FA cells r ((n,(cells.lookup n).getD 0)::cs)else FA cells r cs
theorem Mf{env:Env}:∀(names:List (Str×NameKind)) (cs:List (Str×Addr)),(∀y∈names,y.2=.free->∃a,env.cells.lookup y.1=some a)->
    (forIn names cs fun(x:Str×NameKind) r=>match x with|(name,kind)=>if(kind==NameKind.free)=true then(do let a←cellOf env name;pure (ForInStep.yield ((name,a)::r)))else pure (ForInStep.yield r):Sem (List (Str×Addr)))=pure (FA env.cells names cs)
  | [],cs,_=>by simp[FA]
  | (n, k) :: r, cs, h => by
    rw[List.forIn_cons]
    have ih:=fun cs=>Mf r cs fun y hy=>h y (List.mem_cons_of_mem _ hy)
    by_cases hk:(k==NameKind.free)=true
    · obtain ⟨a, ha⟩ := h (n, k) List.mem_cons_self (by simpa using hk)
      have ha':env.cells.lookup n=some a:=ha
      have e:cellOf env n=pure a:=by unfold cellOf;rw[ha']
      simp only[hk,if_true,e,pure_bind,FA,ha',Option.getD_some]
      exact ih _
    · simp only [hk, if_false, pure_bind, FA]
      exact ih _
theorem Ny{scope:Scope}{env:Env}(h:∀y∈scope.names,y.2=.free->∃a,env.cells.lookup y.1=some a):closureFor scope env=pure (FA env.cells scope.names []):=by
 unfold closureFor
 have:=Mf (env:=env) scope.names [] h
 simp only[bind_pure]at this⊢
 exact this
theorem JA {cells : List (Str × Addr)} {x : Str} {c : Addr} : ∀ {names : List (Str × NameKind)} {cs : List (Str × Addr)}, (∀ y ∈ names, y.2 = .free -> ∃ a, cells.lookup y.1 = some a) ->
    (FA cells names cs).lookup x=some c->cs.lookup x=some c∨cells.lookup x=some c
  | [],cs,_,h=>.inl h
  | (n, k) :: r, cs, hh, h => by
    have hr:∀y∈r,y.2=.free->∃a,cells.lookup y.1=some a:=fun y hy=>hh y (List.mem_cons_of_mem _ hy)
    unfold FA at h
    by_cases hk:(k==NameKind.free)=true
    · rw [if_pos hk] at h
      rcases JA hr h with q|q
      · obtain ⟨a, ha⟩ := hh (n, k) List.mem_cons_self (by simpa using hk)
        have ha':cells.lookup n=some a:=ha
        rw[List.lookup_cons]at q
        cases hx:x==n with
        | true =>
          rw[hx,ha']at q
          have e:x=n:=by simpa using hx
          subst e
          cases q
          exact .inr ha'
        | false =>
          rw[hx]at q
          exact .inl q
      ·exact .inr q
    · rw [if_neg hk] at h
      exact JA hr h
theorem HB {cells : List (Str × Addr)} {x : Str} : ∀ {names : List (Str × NameKind)} {cs : List (Str × Addr)}, ((x, NameKind.free) ∈ names ∨ ∃ c, cs.lookup x = some c) -> ∃ c, (FA cells names cs).lookup x = some c
  | [],cs,h=>h.elim (fun z=>nomatch z) id
  | (n, k) :: r, cs, h => by
    unfold FA
    by_cases hk:(k==NameKind.free)=true
    · rw [if_pos hk]
      refine HB ?_
      by_cases hx:x=n
      · subst hx
        exact .inr ⟨_,by rw[List.lookup_cons,beq_self_eq_true]⟩
      · rcases h with h | ⟨c, h⟩
        · rcases List.mem_cons.mp h with e | e
          ·cases e;exact absurd rfl hx
          ·exact .inl e
        · refine .inr ⟨c, ?_⟩
          rw[List.lookup_cons,show(x==n)=false by simpa using hx]
          exact h
    · rw [if_neg hk]
      refine HB ?_
      rcases h with h|h
      · rcases List.mem_cons.mp h with e | e
        ·cases e;exact absurd rfl hk
        ·exact .inl e
      ·exact .inr h
theorem Hw{env:Env}{x:Str}:∀{names:List (Str×NameKind)},names.lookup x=some .free->
    (names.map fun(n,k)=>if(k==NameKind.free && env.scope.kind== .function && env.kindOf n==some .cell)then(n,NameKind.cell)else(n,k)).lookup x=some .cell∨
    (names.map fun(n,k)=>if(k==NameKind.free && env.scope.kind== .function && env.kindOf n==some .cell)then(n,NameKind.cell)else(n,k)).lookup x=some .free
  | [],h=>by simp at h
  | (n, k) :: r, h => by
    have ih:= @Hw env x r
    show List.lookup x ((if(k==NameKind.free && env.scope.kind== .function && env.kindOf n==some .cell)=true then(n,NameKind.cell)else(n,k))::_)=_∨List.lookup x ((if(k==NameKind.free && env.scope.kind== .function && env.kindOf n==some .cell)=true then(n,NameKind.cell)else(n,k))::_)=_
    cases hx:x==n with
    | true =>
      simp only[List.lookup_cons,hx]at h
      cases h
      by_cases hc:(NameKind.free==NameKind.free && env.scope.kind== .function && env.kindOf n==some .cell)=true
      ·rw[if_pos hc];simp only[List.lookup_cons,hx];exact .inl trivial
      ·rw[if_neg hc];simp only[List.lookup_cons,hx];exact .inr trivial
    | false =>
      simp only[List.lookup_cons,hx]at h
      by_cases hc:(k==NameKind.free && env.scope.kind== .function && env.kindOf n==some .cell)=true
      ·rw[if_pos hc];simp only[List.lookup_cons,hx];exact ih h
      ·rw[if_neg hc];simp only[List.lookup_cons,hx];exact ih h
theorem Ij{env:Env}{scope:Scope}{x:Str}{k':NameKind}(hk:k'=.cell∨k'=.free)(h:(relabel scope env).names.lookup x=some k'):(x,NameKind.free)∈scope.names∨(x,NameKind.cell)∈scope.names:=by
 have hm:=PySem.mem_of_lookup h
 obtain⟨⟨n,k⟩,hy,e⟩:=List.mem_map.mp (show(x,k')∈scope.names.map _ from hm)
 by_cases hc:(k==NameKind.free && env.scope.kind== .function && env.kindOf n==some .cell)=true
 ·simp only[hc,if_true]at e
  cases e
  have:k=.free:=by
   have:=((Bool.and_eq_true _ _).mp hc).1
   exact beq_iff_eq.mp ((Bool.and_eq_true _ _).mp this).1
  subst this
  exact .inl hy
 ·simp only[hc,if_false]at e
  cases e
  rcases hk with rfl|rfl
  ·exact .inr hy
  ·exact .inl hy
theorem Bm:∀(names:List (Str×NameKind)) (n:Nat) (cs:List (Str×Addr)),cellsFrom n names cs=cellsFrom n names []++cs
  | [],_,_=>rfl
  | (x, k) :: r, n, cs => by
    unfold cellsFrom
    split
    ·rw[Bm r _ ((x,n)::cs),Bm r _ [(x,n)]];simp
    ·exact Bm r n cs
theorem Ew{x:Str}{c:Addr}:∀{names:List (Str×NameKind)} {n:Nat},(x,c)∈cellsFrom n names []->(x,NameKind.cell)∈names
  | [],_,h=>nomatch h
  | (y, k) :: r, n, h => by
    unfold cellsFrom at h
    split at h
    · rename_i hk
      rw[Bm]at h
      rcases List.mem_append.mp h with z|z
      ·exact List.mem_cons_of_mem _ (Ew z)
      · have e := List.mem_singleton.mp z
        cases e
        rw[beq_iff_eq.mp hk]
        exact List.mem_cons_self
    ·exact List.mem_cons_of_mem _ (Ew h)
theorem HP{M:Model}{A:Around}{E:Value->Shared->Prop}{s:Shared}{scope:Scope}{globals:Addr}{cl:List (Str×Addr)}{qual:Str}{env:Env}{Q:Env->Shared->Prop}
  (hQ:∀h':Heap,h'.Ns s.heap.objs.size (fun _=>none)->(∀b o,s.heap.get? b=some o->h'.get? b=some o)->CellsOk h' (s.heap.objs.size+1) (cellsFrom (s.heap.objs.size+1) scope.names [])->
   Q (newEnv scope s.heap.objs.size globals (cellsFrom (s.heap.objs.size+1) scope.names cl) qual none .none (some env) builtinsNs) {s with heap:=h'}):
  wpAny M A (newFunctionEnv scope globals cl [] qual none .none (some env)) Q E s:=by
 simp only[newFunctionEnv,Option.isSome_some,if_true]
 refine wpAny_bind (wpAny_alloc ?_)
 refine wpAny_bind (wpAny_layCells _ (fun name kind cells=>by cases hkc:kind==NameKind.cell<;>simp[hkc]) _ _ _ _ ?_)
 have ok:=cellsFrom_ok scope.names (s.heap.push {cls:=.type "dict",data:=.dict #[]}) (s.heap.objs.size+1) [] ⟨fun _ _ hm=>(nomatch hm),List.Pairwise.nil⟩ (by rw[Heap.size_push];exact Nat.le_refl _)
 rw[Heap.size_push]at ok
 rw[show({s with heap:=s.heap.push {cls:=.type "dict",data:=.dict #[]}}:Shared).heap.objs.size=s.heap.objs.size+1 from Heap.size_push ..]
 rw[List.forIn_nil]
 refine wpAny_bind (wpAny_pure (wpAny_pure ?_))
 exact hQ _ ((Heap.Ns.new s.heap (.type "dict")).keeps (pushCells_keeps _ _)) (fun b o e=>pushCells_keeps _ _ b o (Heap.get?_push_of_some _ e)) ok
end L2
end
noncomputable section
namespace L2
open PySem PySem.Spec PyProof.Rows
noncomputable def OY(N:List Str)(osc scope:Scope):List Str->List (Option Nat)->Bool
 | [],[]=>true
 |_::r,none::q=>OY N osc scope r q
 |x::r,some i::q=>decide (N[i]?=some x) && (decide (osc.names.lookup x=some .cell)||decide (osc.names.lookup x=some .free)) && decide (scope.names.lookup x=some .free) && OY N osc scope r q
 |_,_=>false
theorem PL{N:List Str}{osc scope:Scope}:∀{N':List Str} {ix:List (Option Nat)},OY N osc scope N' ix=true->ix.length=N'.length
  | [],[],_=>rfl
  | _ :: r, none :: q, h => by
    unfold OY at h
    simp[PL h]
  | x :: r, some i :: q, h => by
    unfold OY at h
    have:=((Bool.and_eq_true _ _).mp h).2
    simp[PL this]
  | [],_::_,h=>by simp[OY]at h
  |_::_,[],h=>by simp[OY]at h
theorem Vc{N:List Str}{osc scope:Scope}:∀{N':List Str} {ix:List (Option Nat)},OY N osc scope N' ix=true->∀{j i:Nat} {x:Str},N'[j]?=some x->ix[j]?=some (some i)->
    N[i]?=some x/\(osc.names.lookup x=some .cell∨osc.names.lookup x=some .free)/\scope.names.lookup x=some .free
  | [],[],_,j,_,_,h,_=>by simp at h
  | _ :: r, none :: q, h, j, i, x, h1, h2 => by
    unfold OY at h
    cases j with
    |zero=>simp at h2
    |succ j=>exact Vc h (by simpa using h1) (by simpa using h2)
  | y :: r, some k :: q, h, j, i, x, h1, h2 => by
    unfold OY at h
    obtain⟨ha,hr⟩:=(Bool.and_eq_true _ _).mp h
    obtain⟨ha,h3⟩:=(Bool.and_eq_true _ _).mp ha
    obtain⟨h4,h5⟩:=(Bool.and_eq_true _ _).mp ha
    cases j with
    | zero =>
      simp at h1 h2
      subst h1 h2
      refine⟨of_decide_eq_true h4,?_,of_decide_eq_true h3⟩
      rcases(Bool.or_eq_true _ _).mp h5 with z|z
      ·exact .inl (of_decide_eq_true z)
      ·exact .inr (of_decide_eq_true z)
    |succ j=>exact Vc hr (by simpa using h1) (by simpa using h2)
  | [],_::_,h,_,_,_,_,_=>by simp[OY]at h
  |_::_,[],h,_,_,_,_,_=>by simp[OY]at h
structure AV(N:List Str)(osc:Scope)(N':List Str)(ix:List (Option Nat))(scope:Scope):Prop where
 kind:scope.kind=.function
 cells:∀y∈scope.names,y.2=.cell->scope.names.lookup y.1=some .cell
 names:∀y∈scope.names,y.2=.local->scope.names.lookup y.1=some .local
 free:∀y∈scope.names,y.2=.free->(osc.names.lookup y.1=some .cell∨osc.names.lookup y.1=some .free)
 ok:OY N osc scope N' ix=true
noncomputable def sig(ix:List (Option Nat))(σ:St):St:=ix.map fun o=>o.bind fun i=>(σ[i]?).join
noncomputable def Fe(X:Cx)(N':List Str)(scope:Scope)(s:Shared)(H:Hp)(fp:List Addr):Cx where
 prog:=X.prog
 w:=X.w
 K:=X.K
 mg:=X.mg
 base:=X.base
 A:=X.A
 N:=N'
 s₀:=s
 H₀:=H
 env:=compEnvC scope (cellsFrom (s.heap.objs.size+1) scope.names (FA X.env.cells scope.names [])) s.heap.objs.size X.env
 outer:=X.stack
 stack:=X.stack
 ex:=fp
 fn:=fun x=>decide (scope.names.lookup x=some .cell)
 calm:=true
 pn:=[]
 xe:=fun _ _=>False
section
variable{X:Cx}{pins:List (Addr×Obj)}{σ:St}{H:Hp}{s:Shared}{N':List Str}{ix:List (Option Nat)}{scope:Scope}{fp:List Addr}
theorem Inv.cellsOf(I:Inv X pins σ H s)(S:AV X.N X.env.scope N' ix scope):∀y∈scope.names,y.2=.free->∃a,X.env.cells.lookup y.1=some a:=fun y hy hk=>I.ok.has y.1 (S.free y hy hk)
theorem RJ (S : AV X.N X.env.scope N' ix scope) (hc : X.calm = true) (I : Inv X pins σ H s) (hf : ∀ b ∈ fp, Nb X pins H b) (hlt : ∀ b ∈ fp, b < s.heap.objs.size) {h1 : Heap} {m1 : Str -> Option Value} {tk : Nat}
    (hn:h1.Ns s.heap.objs.size m1) (hk:∀b o,s.heap.get? b=some o->h1.get? b=some o) (hC:CellsOk h1 (s.heap.objs.size+1) (cellsFrom (s.heap.objs.size+1) scope.names [])):
    Inv (Fe X N' scope s H fp) [] (sig ix σ) H {s with heap:=h1,toks:=tk}:=by
  have hcl:=I.cellsOf S
  have sub:∀{x:Str} {c:Addr},(FA X.env.cells scope.names []).lookup x=some c->X.env.cells.lookup x=some c:=fun{x c} h=>by
    rcases JA hcl h with z|z
    ·simp at z
    ·exact z
  have old:∀{x:Str} {c:Addr},X.env.cells.lookup x=some c->c<s.heap.objs.size:=fun{x c} h=>by
    obtain⟨v,oc,ho,_⟩:=I.cell x c h
    exact Heap.lt_size ho
  have look:∀{x:Str} {c:Addr},(cellsFrom (s.heap.objs.size+1) scope.names (FA X.env.cells scope.names [])).lookup x=some c->(x,c)∈cellsFrom (s.heap.objs.size+1) scope.names []∨X.env.cells.lookup x=some c:=fun{x c} h=>by
    rw[Bm,List.lookup_append]at h
    cases e:(cellsFrom (s.heap.objs.size+1) scope.names []).lookup x with
    |some a=>rw[e]at h;cases h;exact .inl (PySem.mem_of_lookup e)
    |none=>rw[e]at h;exact .inr (sub h)
  refine⟨⟨I.ok.mod,S.kind,I.ok.glob,I.ok.blt,Nat.le_refl _,fun x y c h1 h2=>?_,fun x hx=>?_,fun x c hx h=>?_,fun _=>I.ok.hd hc,I.ok.frames,.inl rfl,fun b hb=>?_,I.bs,Nat.le_trans I.ok.bsz I.sz,fun b o e hb=>?_,fun b hb hs=>?_,I.stack,I.stkFree⟩,
    rfl,I.bare,Un.kept hk,⟨m1,hn,fun j x v h1 h2 h3=>?_⟩,fun x c h=>?_,I.hok.fresh (Nat.le_refl _),fun x c h=>?_,fun p hp=>absurd (show p∈([]:List (Addr×Obj))from hp) (by simp),I.hok.kept hk,?_⟩
  · -- inj
    rcases look h1 with a|a<;>rcases look h2 with b|b
    ·exact name_of_addr hC.apart a b
    ·exact absurd (Nat.lt_of_lt_of_le (old b) (Nat.le_of_succ_le (hC.empty _ _ a).2)) (Nat.lt_irrefl _)
    ·exact absurd (Nat.lt_of_lt_of_le (old a) (Nat.le_of_succ_le (hC.empty _ _ b).2)) (Nat.lt_irrefl _)
    ·exact I.ok.inj x y c a b
  · -- has
    have hx':(relabel scope X.env).names.lookup x=some .cell∨(relabel scope X.env).names.lookup x=some .free:=hx
    show∃c,(cellsFrom (s.heap.objs.size+1) scope.names (FA X.env.cells scope.names [])).lookup x=some c
    rw[Bm,List.lookup_append]
    cases e:(cellsFrom (s.heap.objs.size+1) scope.names []).lookup x with
    |some a=>exact⟨a,rfl⟩
    | none =>
      rcases(hx'.elim (Ij (.inl rfl)) (Ij (.inr rfl)))with z|z
      ·exact HB (.inl z)
      · obtain ⟨c, hc⟩ := IP (n := s.heap.objs.size + 1) (S.cells _ z rfl)
        rw[e]at hc;cases hc
  · -- cab
    obtain⟨c',hc'⟩:=IP (n:=s.heap.objs.size+1) (of_decide_eq_true hx)
    have h:(cellsFrom (s.heap.objs.size+1) scope.names (FA X.env.cells scope.names [])).lookup x=some c:=h
    rw[Bm,List.lookup_append,hc']at h
    cases h
    exact Nat.le_of_succ_le (hC.empty _ _ (PySem.mem_of_lookup hc')).2
  · -- exf
    refine⟨Nat.ne_of_lt (hlt b hb),fun x c h=>?_⟩
    rcases look h with a|a
    ·exact fun e=>absurd (Nat.lt_of_lt_of_le (e▸hlt b hb) (Nat.le_of_succ_le (hC.empty _ _ a).2)) (Nat.lt_irrefl _)
    ·exact(hf b hb).2.2.2.2.1 x c a
  · -- noex
    rcases(hf b hb).2.2.2.1 with z|z
    ·exact I.ok.noex b o e z
    ·exact absurd (Nat.lt_of_lt_of_le (Heap.lt_size (I.ok.bs b o e).1) z) (Nat.lt_irrefl _)
  · -- exfs
    rcases List.mem_cons.mp (I.stkSub b hs)with z|z
    ·exact(hf b hb).2.1 z
    ·exact(hf b hb).2.2.1 z
  · -- loc
    unfold sig at h2
    rw[List.getElem?_map]at h2
    cases e:ix[j]? with
    |none=>rw[e]at h2;cases h2
    | some o =>
      rw[e]at h2
      cases o with
      |none=>cases h2
      | some i =>
        have h2':(σ[i]?).join=some v:=by simpa using h2
        have h4:σ[i]?=some (some v):=by
          cases e4:σ[i]? with
          |none=>rw[e4]at h2';cases h2'
          |some q=>rw[e4]at h2';exact congrArg some h2'
        obtain⟨q1,q2,q3⟩:=Vc S.ok h1 e
        obtain⟨m,_,hl⟩:=I.loc
        obtain⟨u,r,l⟩:=hl i x v q1 h4 (q2.elim (fun z=>.inr (.inl z)) fun z=>.inr (.inr z))
        refine⟨u,r,?_⟩
        rcases l with⟨l,_⟩|⟨_,c,lc,z⟩
        · have l' : X.env.scope.names.lookup x = some .local := l
          rcases q2 with z|z<;>(rw[z]at l';cases l')
        · refine .inr ⟨Hw q3, ?_⟩
          obtain⟨c',hc'⟩:=HB (cells:=X.env.cells) (cs:=[]) (.inl (PySem.mem_of_lookup q3))
          have ec:=sub hc'
          rw[lc]at ec
          cases ec
          have no:(cellsFrom (s.heap.objs.size+1) scope.names []).lookup x=none:=by
            cases e:(cellsFrom (s.heap.objs.size+1) scope.names []).lookup x with
            |none=>rfl
            | some a =>
              have q:=S.cells _ (Ew (PySem.mem_of_lookup e)) rfl
              rw[q3]at q;cases q
          refine⟨c,(by show(cellsFrom (s.heap.objs.size+1) scope.names (FA X.env.cells scope.names [])).lookup x=some c;rw[Bm,List.lookup_append,no];exact hc'),?_⟩
          obtain⟨oc,ho,hd⟩:=z
          exact⟨oc,hk _ _ ho,hd⟩
  · rcases look h with a | a
    ·exact⟨_,(hC.empty _ _ a).1⟩
    · obtain ⟨v, oc, ho, hd⟩ := I.cell x c a
      exact⟨v,oc,hk _ _ ho,hd⟩
  · rcases look h with a | a
    ·exact I.hok.fresh (Nat.le_of_succ_le (hC.empty _ _ a).2)
    ·exact I.freeC x c a
  · show (sig ix σ).length = N'.length
    unfold sig
    rw[List.length_map]
    exact PL S.ok
end
end L2
end
noncomputable section
namespace L2
open PySem PySem.Spec PyProof.Rows
def PTs(X:Cx)(ifs:List Expr)(t:TT):Prop:=
 ∀ (pins : List (Addr × Obj)) (s : Shared) (σ : St) (H : Hp) (Q : Bool -> Hp -> Prop), Inv X pins σ H s -> t σ H Q ->
  wpAny (model X.prog X.w) X.A (forIn ifs true fun c r=>if r=true then do let ok←isTrue c X.env (eval c X.env);pure (ForInStep.yield ok)else pure (ForInStep.yield r)) (TP X pins σ Q) X.xe s
noncomputable def ZE:TT:=fun _ H Q=>Q true H
theorem VY{X:Cx}:PTs X [] ZE:=fun _ _ _ H _ I h=>wpAny_tests_nil ⟨H,I,h⟩
theorem Vk{X:Cx}{c:Expr}{t:TT}(h:PT X c t):PTs X [c] t:=fun pins s σ H Q I q=>wpAny_tests_one (h pins s σ H Q I q)
theorem Tn{α:Type}{M:Model}{A:Around}{t:Sem α}{Q:α->Shared->Prop}{E:Value->Shared->Prop}{s:Shared}(h:wpAny M A t Q (fun _ _=>False) s):wpAny M A t Q E s:=wpAny_mono h (fun _ _ q=>q) fun _ _ f=>f.elim
def Wa(ix:List (Option Nat))(g:TG)(tc:TT)(te:TE)(J:It)(σ:St)(H:Hp)(Q:VK):Prop:=
 ∀ D, H D = none -> ∃ W : Nat -> Nat -> St -> Hp -> List V -> Prop, (∃ m, W 0 m (sig ix σ) (upd H D (.lst [])) []) /\ ∀ i m σ H ys, W i m σ H ys -> H D = some (.lst ys) /\
  ((J.stop i H/\Q (.ref D) H)∨(J.go i H/\ys.length<sizeLine/\∀x H',J.yld i H x H'->g x σ H' fun σ2 H2=>tc σ2 H2 fun b H3=>
   if b=true then te σ2 H3 fun y H4=>H4 D=some (.lst ys)/\∃m',m'<m/\W (i+1) m' σ2 (upd H4 D (.lst (ys++[y]))) (ys++[y])else∃m',m'<m/\W (i+1) m' σ2 H3 ys))
noncomputable def VW(ix:List (Option Nat))(wi:TI)(g:TG)(tc:TT)(te:TE):TE:=fun σ H Q=>wi σ H fun J H1=>Wa ix g tc te J σ H1 Q
section
variable{X:Cx}{pins:List (Addr×Obj)}{σ:St}{s₂:Shared}{N':List Str}{ix:List (Option Nat)}{scope:Scope}{elt tg iter:Expr}{ifs:List Expr}{pos:Pos}{g:TG}{tc:TT}{te:TE}
def Block(X:Cx)(N':List Str)(scope:Scope)(tg:Expr)(ifs:List Expr)(elt:Expr)(g:TG)(tc:TT)(te:TE):Prop:=
 ∀(s:Shared) (H:Hp) (fp:List Addr),PG (Fe X N' scope s H fp) tg g/\PTs (Fe X N' scope s H fp) ifs tc/\PE (Fe X N' scope s H fp) elt te
theorem O8{X':Cx}{it:Addr}{fp:List Addr}{tn:Nat->Heap->Prop}{J:It}{D:Addr}{Q:VK}{R:Result->Shared->Prop}{W:Nat->Nat->St->Hp->List V->Prop}{s:Shared}{e:Env}{n:Nat}
    (he:X'.env=e) (hx:X'.xe=fun _ _=>False) (hcm:X'.calm=true) (T:Turn X'.prog X'.w X'.K tg J fp it tn) (hfp:∀H:Hp,(∀b∈fp,H b=none)->∀b∈fp,Nb X' [] H b)
    (hg:PG X' tg g) (ht:PTs X' ifs tc) (hb:PE X' elt te)
    (turn:∀i m σ H ys,W i m σ H ys->H D=some (.lst ys)/\
      ((J.stop i H/\Q (.ref D) H)∨(J.go i H/\ys.length<sizeLine/\∀x H',J.yld i H x H'->g x σ H' fun σ2 H2=>tc σ2 H2 fun b H3=>
        if b=true then te σ2 H3 fun y H4=>H4 D=some (.lst ys)/\∃m',m'<m/\W (i+1) m' σ2 (upd H4 D (.lst (ys++[y]))) (ys++[y])else∃m',m'<m/\W (i+1) m' σ2 H3 ys)))
    (hR:∀s' σ' H',Inv X' [] σ' H' s'->Q (.ref D) H'->R (.ok .next) s')
    (h0:∃i σ' H' ys,Inv X' [] σ' H' s/\tn i s.heap/\(∀b∈fp,H' b=none)/\W i n σ' H' ys):
    codeAny (model X'.prog X'.w) X'.A (.compLoop (.ListComp elt [⟨tg,iter,ifs,0⟩] scope pos) 0 (.ref it) (.ref D) e) R s:=by
  subst he
  refine codeAny_loop rfl (fun n s=>∃i σ' H' ys,Inv X' [] σ' H' s/\tn i s.heap/\(∀b∈fp,H' b=none)/\W i n σ' H' ys) (fun n s3 hI=>?_) n h0
  show wpAny _ X'.A ((compTurn (.ListComp elt [⟨tg,iter,ifs,0⟩] scope pos) 0 (.ref it) (.ref D) X'.env).onRaise (fun x=>do noteFrame x X'.env;theTreesLotGoes x)) _ _ s3
  refine wpAny_noted (Tn ?_)
  rw[compTurn_list]
  obtain⟨i,σ3,H3,ys,I3,st3,fr3,w3⟩:=hI
  obtain⟨hD,alt⟩:=turn i n σ3 H3 ys w3
  rcases alt with⟨stop,q⟩|⟨go,hlen,step⟩
  · refine wpAny_bind (wpAny_standAt (wpAny_bind (thn (T.done X' rfl rfl rfl hcm i [] s3 σ3 H3 _ I3 (hfp H3 fr3) st3 stop) fun r s4 ⟨hr, I4⟩ => ?_)))
    subst hr
    exact wpAny_pure (hR s4 σ3 H3 I4 q)
  · refine wpAny_bind (wpAny_standAt (wpAny_bind (thn (T.item X' rfl rfl rfl hcm i [] s3 σ3 H3 _ I3 (hfp H3 fr3) st3 go) fun r s4 ⟨u, hr, h4⟩ => ?_)))
    subst hr
    refine wpAny_bind (thn h4 fun _ s5 ⟨x,H5,I5,r5,y5,st5,fr5⟩=>?_)
    have I5':=I5.pinned (hfp H5 fr5) (T.obj _ _ st5)
    have hg':=hg _ s5 σ3 H5 x u _ I5' r5 (step x H5 y5)
    rw[hx]at hg'
    refine wpAny_bind (thn hg' fun _ s6 ⟨σ6,H6,I6,q6⟩=>?_)
    have ht':=ht _ s6 σ6 H6 _ I6 q6
    rw[hx]at ht'
    refine wpAny_bind (thn ht' fun ok s7 ⟨H7,I7,q7⟩=>?_)
    have again:∀{s8:Shared} {H8:Hp} {zs:List V} {m':Nat},Inv X' ([]++MI fp s5.heap) σ6 H8 s8->m'<n->W (i+1) m' σ6 H8 zs->∃m,m<n/\∃i σ' H' ys,Inv X' [] σ' H' s8/\tn i s8.heap/\(∀b∈fp,H' b=none)/\W i m σ' H' ys:=fun{s8 H8 zs m'} I8 hm w8=>by
      refine⟨m',hm,i+1,σ6,H8,zs,I8.unpinned,T.keep _ _ _ st5 fun b hb o e=>(I8.pin (b,o) (List.mem_append_right _ (List.mem_append_right _ (F4 hb e)))).1,fun b hb=>?_,w8⟩
      obtain⟨o,e,d⟩:=T.obj _ _ st5 b hb
      exact(I8.pin (b,o) (List.mem_append_right _ (List.mem_append_right _ (F4 hb e)))).2.1
    cases ok with
    | false =>
      rw[if_neg (by decide)]at q7
      obtain⟨m',hm,w7⟩:=q7
      exact wpAny_pure ⟨rfl,again I7 hm w7⟩
    | true =>
      rw[if_pos rfl]at q7
      have hb':=hb _ s7 σ6 H7 _ I7 q7
      rw[hx]at hb'
      refine wpAny_bind (wpAny_bind (thn hb' fun v s8 ⟨y,H8,I8,r8,hD8,m',hm,w8⟩=>?_))
      have ha:=Lv (X:=X') _ s8 σ6 H8 (.ref D) [y] (.ref D) [v] (fun _ H9=>H9=upd H8 D (.lst (ys++[y]))) I8 rfl (.cons r8 .nil) ⟨D,ys,y,rfl,rfl,hD8,hlen,rfl⟩
      rw[hx]at ha
      refine wpAny_bind (thn ha fun _ s9 ⟨_,H9,I9,_,e9⟩=>?_)
      subst e9
      exact wpAny_pure (wpAny_pure ⟨rfl,again I9 hm w8⟩)
theorem OA(hc:X.calm=true)(S:AV X.N X.env.scope N' ix scope)(hb:Block X N' scope tg ifs elt g tc te){it:Addr}{fp:List Addr}{tn:Nat->Heap->Prop}{J:It}{H₂:Hp}{Q:VK}{E:Value->Shared->Prop}
  {RR:Value->Addr->Result->Shared->Prop} (I2:Inv X pins σ H₂ s₂) (T:Turn X.prog X.w X.K tg J fp it tn) (st2:tn 0 s₂.heap) (f2:∀b∈fp,Nb X pins H₂ b) (hW:Wa ix g tc te J σ H₂ Q)
  (hRR:∀D C H' s',Inv X pins σ H' s'->(∃m,s'.heap.Ns C m)->Nb X pins H' C->Q (.ref D) H'->RR (.ref D) C (.ok .next) s'):
  wpAny (model X.prog X.w) X.A (newList []) (fun acc s₃=>wpAny (model X.prog X.w) X.A (newFunctionEnv scope X.env.globals (FA X.env.cells scope.names []) [] X.env.qual none .none (some X.env)) (fun cenv s₄=>
   codeAny (model X.prog X.w) X.A (.compStart (.ListComp elt [⟨tg,iter,ifs,0⟩] scope pos) 0 (.ref it) acc {cenv with scope:=relabel scope X.env}) (RR acc cenv.locals) s₄) E s₃) E s₂:=by
 have hD0:H₂ s₂.heap.objs.size=none:=I2.hok.fresh (Nat.le_refl _)
 have hlt2:∀b∈fp,b<s₂.heap.objs.size:=fun b hb=>by
  obtain⟨o,e,_⟩:=T.obj _ _ st2 b hb
  exact Heap.lt_size e
 refine wpAny_newObj_type (HP (fun h₁ hns₁ hsb₁ hcl₁=>?_))
 have I3:Inv X pins σ (upd H₂ s₂.heap.objs.size (.lst [])) {s₂ with heap:=s₂.heap.push {cls:=.type "list",dict:=none,data:=.seq ([]:List Value).toArray}}:=
  I2.laid (t':=s₂.toks) (fun b u e=>Heap.get?_push_of_some _ e) (Nat.le_refl _) ⟨Nat.zero_le _,[],0,.nil,Heap.get?_push_size _ rfl⟩
 have f3:∀b∈fp,Nb X pins (upd H₂ s₂.heap.objs.size (.lst [])) b:=fun b hb=>⟨by rw[Al (Nat.ne_of_lt (hlt2 b hb))];exact(f2 b hb).1,(f2 b hb).2⟩
 have k3:∀b o,s₂.heap.get? b=some o->(s₂.heap.push {cls:=.type "list",dict:=none,data:=.seq ([]:List Value).toArray}).get? b=some o:=fun b o e=>Heap.get?_push_of_some _ e
 dsimp only at hns₁ hsb₁ hcl₁⊢
 generalize hs3:({s₂ with heap:=s₂.heap.push {cls:=.type "list",dict:=none,data:=.seq ([]:List Value).toArray}}:Shared)=s₃ at I3
 have eh:s₂.heap.push {cls:=.type "list",dict:=none,data:=.seq ([]:List Value).toArray}=s₃.heap:=by rw[←hs3]
 have et:s₂.toks=s₃.toks:=by rw[←hs3]
 have es:∀(h:Heap) (t:Nat),({s₂ with heap:=h,toks:=t}:Shared)={s₃ with heap:=h,toks:=t}:=fun h t=>by rw[←hs3]
 rw[eh]at hns₁ hsb₁ hcl₁ k3⊢
 have hlt3:∀b∈fp,b<s₃.heap.objs.size:=fun b hb=>by
  obtain⟨o,e,_⟩:=T.obj _ _ st2 b hb
  exact Heap.lt_size (k3 b o e)
 have k4:∀b o,s₃.heap.get? b=some o->h₁.get? b=some o:=hsb₁
 obtain⟨W,⟨m0,w0⟩,turn⟩:=hW _ hD0
 have I4:∀tk,Inv (Fe X N' scope s₃ (upd H₂ s₂.heap.objs.size (.lst [])) fp) [] (sig ix σ) (upd H₂ s₂.heap.objs.size (.lst [])) {s₃ with heap:=h₁,toks:=tk}:=fun tk=>RJ S hc I3 f3 hlt3 hns₁ k4 hcl₁
 have st4:tn 0 h₁:=T.keep _ _ _ st2 fun b hb o e=>k4 b o (k3 b o e)
 obtain⟨bg,bt,be⟩:=hb s₃ (upd H₂ s₂.heap.objs.size (.lst [])) fp
 have noX:∀(H:Hp),(∀b∈fp,H b=none)->∀b∈fp,Nb (Fe X N' scope s₃ (upd H₂ s₂.heap.objs.size (.lst [])) fp) [] H b:=fun H hn b hb=>by
  obtain⟨_,h2,h3⟩:=f3 b hb
  refine⟨hn b hb,Nat.ne_of_lt (hlt3 b hb),fun hs=>(I4 0).ok.exfs b hb hs,.inl hb,fun x c h=>?_,fun p hp=>absurd (show p∈([]:List (Addr×Obj))from hp) (by simp)⟩
  exact((I4 0).ok.exf b hb).2 x c h
 have fin:∀(s':Shared) (σ':St) (H':Hp),Inv (Fe X N' scope s₃ (upd H₂ s₂.heap.objs.size (.lst [])) fp) [] σ' H' s'->Q (.ref s₂.heap.objs.size) H'->RR (.ref s₂.heap.objs.size) s₃.heap.objs.size (.ok .next) s':=fun s' σ' H' I' q=>by
  refine hRR _ _ H' s' ?_ (let⟨m,hn,_⟩:=I'.loc;⟨m,hn⟩) (I3.fpOk (Nat.le_refl _) I'.free) q
  exact I3.call' I'.os I'.base I'.hok I'.bare fun b hb=>⟨(f3 b hb).2.2.2.1,(f3 b hb).2.1,(f3 b hb).2.2.2.2.1,(f3 b hb).2.2.2.2.2⟩
 have loop:∀tk,codeAny (model X.prog X.w) X.A (.compLoop (.ListComp elt [⟨tg,iter,ifs,0⟩] scope pos) 0 (.ref it) (.ref s₂.heap.objs.size) (compEnvC scope (cellsFrom (s₃.heap.objs.size+1) scope.names (FA X.env.cells scope.names [])) s₃.heap.objs.size X.env)) (RR (.ref s₂.heap.objs.size) s₃.heap.objs.size) {s₃ with heap:=h₁,toks:=tk}:=fun tk=>
  O8 (X':=Fe X N' scope s₃ (upd H₂ s₂.heap.objs.size (.lst [])) fp) (D:=s₂.heap.objs.size) (Q:=Q) (W:=W) rfl rfl rfl T noX bg bt be turn fin ⟨0,_,_,_,I4 tk,st4,fun b hb=>(f3 b hb).1,w0⟩
 rw[es]
 exact codeAny_compStart_list (loop _) (T.self _ 0 _ _ _ st4 (loop _))
theorem VB{wi:TI}(hc:X.calm=true)(S:AV X.N X.env.scope N' ix scope)(hi:PI X tg iter wi)(hb:Block X N' scope tg ifs elt g tc te)(hs:∀x,foldedSetIterable iter X.env x=pure x:=by intro _;rfl):
  PE X (.ListComp elt [⟨tg,iter,ifs,0⟩] scope pos) (VW ix wi g tc te):=by
 intro pins s σ H Q I h
 rw[eval_ListComp]
 refine wpAny_comprehension_free (use:=none) rfl hs (Ny (I.cellsOf S)) S.kind S.names (thn (hi pins s σ H _ I h) fun v s1 h1=>thn h1 fun itv s2 h2=>?_)
 obtain⟨it,fp,tn,J,H2,e,I2,T,st2,f2,hW⟩:=h2
 subst e
 refine OA (RR:=fun acc C=>compPost (model X.prog X.w) X.A X.xe none (EP X pins σ Q) acc C) hc S hb I2 T st2 f2 hW ?_
 intro D C H' s' I' hm hC q
 obtain⟨m,hm⟩:=hm
 refine⟨m,hm,fun h' hs'=>⟨.ref D,H',I'.turned (it:=C) (t':=s'.toks) (fun b o hb e=>hs'.extBut b o hb e) hC.1 hC.2.1 hC.2.2.2.1 hC.2.2.2.2.1 hC.2.2.2.2.2,rfl,q⟩⟩
end
end L2
end
noncomputable section
namespace L2
open PySem PySem.Spec PyProof.Rows
section
variable{X:Cx}{N':List Str}{ix:List (Option Nat)}{scope:Scope}{elt tg iter:Expr}{ifs:List Expr}{pos spos py:Pos}{g:TG}{tc:TT}{te:TE}{wi:TI}{i:Nat}{y:Str}
theorem OS(hc:X.calm=true)(hN:X.N.Nodup)(hi':X.N[i]?=some y)(hx:X.env.scope.names.lookup y=some .local)(S:AV X.N X.env.scope N' ix scope)(hi:PI X tg iter wi)(hb:Block X N' scope tg ifs elt g tc te)
  (hsw:swapsWith (.ListComp elt [⟨tg,iter,ifs,0⟩] scope pos) (some (.Name y py)) spos.line X.env=pure true:=by rfl) (hs:∀x,foldedSetIterable iter X.env x=pure x:=by intro _;rfl):
  PS X (.Assign [.Name y py] (.ListComp elt [⟨tg,iter,ifs,0⟩] scope pos) spos) (ZF (VW ix wi g tc te) (Ve i)):=by
 intro pins s σ H D I h
 rw[exec_Assign_Name_used _ _ _ _ hsw]
 refine wpAny_bind (wpAny_standAt (wpAny_bind ?_))
 show wpAny _ X.A (do let _←comprehension (.ListComp elt [⟨tg,iter,ifs,0⟩] scope pos) scope X.env _ (newList []) false (eval iter X.env) (some (assign (.Name y py) X.env))) _ _ s
 refine wpAny_bind (wpAny_mono (wpAny_comprehension_free (use:=some (assign (.Name y py) X.env)) (Q:=fun _ s'=>SP X pins D .next s') rfl hs (Ny (I.cellsOf S)) S.kind S.names
  (thn (hi pins s σ H _ I h) fun v s1 h1=>thn h1 fun itv s2 h2=>?_)) (fun _ s' hq=>wpAny_pure (wpAny_pure hq)) fun _ _ e=>e)
 obtain⟨it,fp,tn,J,H2,e,I2,T,st2,f2,hW⟩:=h2
 subst e
 refine OA (RR:=fun acc C=>compPost (model X.prog X.w) X.A X.xe (some (assign (.Name y py) X.env)) (fun _ s'=>SP X pins D .next s') acc C) hc S hb I2 T st2 f2 hW ?_
 intro L C H' s' I' hm hC q
 obtain⟨m,hm⟩:=hm
 show wpAny _ X.A (assign (.Name y py) X.env (.ref L)) _ _ _
 refine wpAny_assign_Name (L3 I' hN hi' (.inl hx) (v:=.ref L) rfl (fun s'' I'' ⟨a,sb,ha⟩=>?_) (.inr hx))
 have hCa:C≠a:=by
  rcases ha with rfl|ha
  ·exact hC.2.1
  ·exact Ne.symm (hC.2.2.2.2.1 y a ha)
 refine⟨m,hm.sameBut sb hCa,fun h' hs'=>?_⟩
 exact⟨_,H',I''.turned (it:=C) (t':=s''.toks) (fun b o hb e=>hs'.extBut b o hb e) hC.1 hC.2.1 hC.2.2.2.1 hC.2.2.2.2.1 hC.2.2.2.2.2,q⟩
end
end L2
end
noncomputable section
namespace L2
open PySem PySem.Spec PyProof.Rows
section
variable{κ:Type} [DecidableEq κ]
noncomputable def putK(kvs:List (κ×V))(k:κ)(v:V):List (κ×V):=
 if(kvs.any fun kv=>decide (kv.1=k))=true then kvs.map (fun kv=>if kv.1=k then(kv.1,v)else kv)else kvs++[(k,v)]
theorem NH(kvs:List (κ×V))(k:κ)(v:V):(putK kvs k v).length≤kvs.length+1:=by
 unfold putK
 split
 ·rw[List.length_map];omega
 ·rw[List.length_append,List.length_cons,List.length_nil];omega
theorem KV.any{kvs:List (κ×V)}{vs:List (κ×Value)}(r:KV kvs vs)(k:κ):(kvs.any fun kv=>decide (kv.1=k))=vs.any fun kv=>decide (kv.1=k):=by
 unfold KV at r
 induction r with
 |nil=>rfl
 |cons h t ih=>rw[List.any_cons,List.any_cons,ih,h.1]
theorem KV.repl{kvs:List (κ×V)}{vs:List (κ×Value)}(r:KV kvs vs)(k:κ){y:V}{u:Value}(ry:RelV y u):
    KV (kvs.map fun kv=>if kv.1=k then(kv.1,y)else kv) (vs.map fun kv=>if kv.1=k then(kv.1,u)else kv):=by
  unfold KV at r⊢
  induction r with
  |nil=>exact .nil
  | @cons p q ps qs h t ih=>
    rw[List.map_cons,List.map_cons]
    refine .cons ?_ ih
    obtain⟨h1,h2⟩:=h
    by_cases e:p.1=k
    ·rw[if_pos e,if_pos (h1.symm.trans e)];exact⟨h1,ry⟩
    ·rw[if_neg e,if_neg (fun z=>e (h1.trans z))];exact⟨h1,h2⟩
theorem KV.put{kvs:List (κ×V)}{vs:List (κ×Value)}(r:KV kvs vs)(k:κ){y:V}{u:Value}(ry:RelV y u):KV (putK kvs k y) (stored vs k u):=by
 unfold putK stored
 rw[r.any k]
 by_cases e:(vs.any fun kv=>decide (kv.1=k))=true
 ·rw[if_pos e,if_pos e];exact r.repl k ry
 ·rw[if_neg e,if_neg e];exact Paired.snoc r ⟨rfl,ry⟩
end
theorem XR{P:Program}{w:World}{k:Key}{u:Value}(r:RelV (kV k) u):(Cg P w).is k u=true:=by
 cases k with
 |inl i=>obtain⟨t,e⟩:=(show∃t,u=Value.int i t from r);subst e;exact NR P w i t
 |inr x=>obtain⟨t,e⟩:=(show∃t,u=Value.str x t from r);subst e;exact NN P w x t
theorem MX{P:Program}{w:World}:∀{ks:List Key} {us:List Value},Vals (ks.map kV) us->ItemsAre (Cg P w) ks us
  | [],_,r=>by rw[List.map_nil]at r;cases r;exact .nil
  | k :: ks, _, r => by
    rw[List.map_cons]at r
    cases r with
    |cons h t=>exact .cons (XR h) (MX t)
abbrev KT(H:Hp):List (List Key×V)->List (List Key×Addr×Value)->Prop:=Paired fun p q=>p.1=q.1/\H q.2.1=some (.tup (p.1.map kV))/\RelV p.2 q.2.2
section
variable{P:Program}{w:World}{H:Hp}{h:Heap}{a:Addr}
theorem XJ{u:HO}(ok:HOk P w H h)(e:Rd H a u):Cn P w H h a u:=e.ok ok
theorem Zm{kvs:List (Key×V)}(ok:HOk P w H h)(e:Rd H a (.dK kvs)):kvs.length≤sizeLine/\(a==sysModules)=false/\∃vs,KV kvs vs/\h.DictOf (Cg P w) a vs:=
 show Cn P w H h a (.dK kvs)from XJ ok e
theorem aI{kvs:List (Key×V)}(ok:HOk P w H h)(e:H a=some (.dK kvs)):kvs.length≤sizeLine/\(a==sysModules)=false/\∃vs,KV kvs vs/\h.DictOf (Cg P w) a vs:=Zm ok (.inl e)
theorem XC{ks:List Key}(ok:HOk P w H h)(e:H a=some (.tup (ks.map kV))):(tupleKind (Cg P w)).is h ks a:=by
 obtain⟨_,its,r,o,h1,h2,n,h3⟩:=(show Cn P w H h a (.tup (ks.map kV))from ok a _ e)
 exact⟨o,its.toArray,n,h1,h2,h3,by simpa using MX r⟩
theorem ZH{kvs:List (List Key×V)}(ok:HOk P w H h)(e:Rd H a (.dT kvs)):kvs.length≤sizeLine/\(a==sysModules)=false/\
    ∃xs,KT H kvs xs/\h.DictOfH (tupleKind (Cg P w)) a xs:=by
  obtain⟨z,y,xs,r,o,es,ep,h1,h2,h3,h4,h5⟩:=(show Cn P w H h a (.dT kvs)from XJ ok e)
  refine⟨z,y,xs,r,o,es,ep,h1,h2,h3,h4,fun x hx=>?_,h5⟩
  have all:∀{l:List (List Key×V)} {m:List (List Key×Addr×Value)},KT H l m->∀x∈m,(tupleKind (Cg P w)).is h x.1 x.2.1:=by
    intro l m q
    induction q with
    |nil=>intro x hx;exact nomatch hx
    | @cons p q ps qs hq t ih=>
      intro x hx
      rcases List.mem_cons.mp hx with e|hx
      · subst e
        exact XC ok (by rw[←hq.1];exact hq.2.1)
      ·exact ih x hx
  exact all r x hx
theorem Vu{kvs:List (List Key×V)}(ok:HOk P w H h)(e:H a=some (.dT kvs)):kvs.length≤sizeLine/\(a==sysModules)=false/\
  ∃xs,KT H kvs xs/\h.DictOfH (tupleKind (Cg P w)) a xs:=ZH ok (.inl e)
end
section
variable{X:Cx}{pins:List (Addr×Obj)}{σ:St}{H:Hp}{s:Shared}{a:Addr}{y v:V}{u r:Value}{o:Option V}{A:Around}{E:Value->Shared->Prop}
theorem Inv.big(I:Inv X pins σ H s):sysModules<s.heap.objs.size:=by
 have h:mainGlobals<s.heap.objs.size:=(I.mod.glob.keeps I.bk).lt
 exact Nat.lt_trans (by decide) h
theorem Uu{h':Heap}{t':Nat}{ob:HO}(I:Inv X pins σ H s)(mu:Mut (H a))(hs:Heap.SameBut a s.heap h')(he:∃q,h'.get? a=some q)(new:Cn X.prog X.w (upd H a ob) h' a ob):
  Inv X pins σ (upd H a ob) {s with heap:=h',toks:=t'}:=
 I.write (x:=a) (e:=a) mu (.inl rfl) (fun b q hb z=>(hs.2 b hb).trans z) he new
theorem Xd{P:Program}{w:World}{H':Hp}{h':Heap}{kvs:List (Key×V)}{vs:List (Key×Value)}(z:kvs.length≤sizeLine)(hd:(a==sysModules)=false)(rel:KV kvs vs)(dd:h'.DictOf (Cg P w) a vs):
  Cn P w H' h' a (.dK kvs):=⟨z,hd,vs,rel,dd⟩
end
section
variable{X:Cx}{pins:List (Addr×Obj)}{σ:St}{H:Hp}{s:Shared}{a:Addr}{kvs:List (Key×V)}{k:Key}{u:Value}{A:Around}{E:Value->Shared->Prop}
end
section
variable{X:Cx}{o i e value:Expr}{pos pos' tpos:Pos}{td ty tv:TE}
end
theorem Ra{P:Program}{w:World}{H:Hp}(h:Heap)(hb:sysModules<h.objs.size):Cn P w H (h.push {cls:=.type "dict",data:=.dict #[]}) h.objs.size (.dK []):=
 ⟨Nat.zero_le _,beq_eq_false_iff_ne.mpr (Ne.symm (Nat.ne_of_lt hb)),[],.nil,Heap.DictOf.new h⟩
section
variable{X:Cx}{pos:Pos}
end
def Nz:List (TE×TE)->St->Hp->(List (V×V)->Hp->Prop)->Prop
 | [],_,H,Q=>Q [] H
 |(tk,tv)::r,σ,H,Q=>tk σ H fun x H1=>tv σ H1 fun y H2=>Nz r σ H2 fun ps H3=>Q ((x,y)::ps) H3
abbrev VV:List (V×V)->List (Value×Value)->Prop:=Paired fun p q=>RelV p.1 q.1/\RelV p.2 q.2
def PPs(X:Cx)(pos:Pos)(keys:List (Option Expr))(values:List Expr)(trs:List (TE×TE)):Prop:=
 ∀ (pins : List (Addr × Obj)) (s : Shared) (σ : St) (H : Hp) (Q : List (V × V) -> Hp -> Prop), Inv X pins σ H s -> Nz trs σ H Q ->
  wpAny (model X.prog X.w) X.A (evalPairs (pairTrees keys values X.env pos)) (fun vs s'=>∃ps H',Inv X pins σ H' s'/\VV ps vs/\Q ps H') X.xe s
theorem VP{X:Cx}{pos:Pos}:PPs X pos [] [] []:=fun pins s σ H Q I h=>pairTrees_nil_walk ⟨[],H,I,.nil,h⟩
theorem RK{X:Cx}{pos:Pos}{k v:Expr}{ks:List (Option Expr)}{vs:List Expr}{tk tv:TE}{trs:List (TE×TE)}(hk:PE X k tk)(hv:PE X v tv)(hr:PPs X pos ks vs trs):
  PPs X pos (some k::ks) (v::vs) ((tk,tv)::trs):=fun pins s σ H Q I h=>
 pairTrees_cons_walk (thn (hk pins s σ H _ I h) fun u s1 ⟨x,H1,I1,rx,q1⟩=>thn (hv pins s1 σ H1 _ I1 q1) fun w2 s2 ⟨y,H2,I2,ry,q2⟩=>
  thn (hr pins s2 σ H2 _ I2 q2) fun ws s3 ⟨ps,H3,I3,rel,q3⟩=>⟨(x,y)::ps,H3,I3,.cons ⟨rx,ry⟩ rel,q3⟩)
noncomputable def JE(kvs more:List (Key×V)):List (Key×V):=more.foldl (fun acc kv=>putK acc kv.1 kv.2) kvs
theorem KV.merge:∀{more:List (Key×V)} {rs:List (Key×Value)} {kvs:List (Key×V)} {vs:List (Key×Value)},KV more rs->KV kvs vs->KV (JE kvs more) (merged vs rs):=by
  intro more rs kvs vs r
  unfold KV at r
  induction r generalizing kvs vs with
  |nil=>intro q;exact q
  | @cons p q ps qs h t ih=>
    intro r0
    have e:KV (putK kvs p.1 p.2) (stored vs q.1 q.2):=by
      have:=r0.put p.1 h.2
      rw[←h.1];exact this
    exact ih e
theorem Gz:∀(more kvs:List (Key×V)),(JE kvs more).length≤kvs.length+more.length
  | [],kvs=>by show kvs.length≤kvs.length+0;omega
  | p :: r, kvs => by
    have h1:=Gz r (putK kvs p.1 p.2)
    have h2:=NH kvs p.1 p.2
    show(JE (putK kvs p.1 p.2) r).length≤_
    rw[List.length_cons];omega
theorem KO{P:Program}{w:World}:∀{kvs:List (Key×V)} {ws:List (Value×Value)},VV (kvs.map fun kv=>(kV kv.1,kv.2)) ws->∃rs,Carries (Cg P w) ws rs/\KV kvs rs
  | [],_,r=>by rw[List.map_nil]at r;cases r;exact⟨[],True.intro,.nil⟩
  | p :: kvs, _, r => by
    rw[List.map_cons]at r
    cases r with
    | @cons a b as bs h t=>
      obtain⟨rs,c,q⟩:=KO (P:=P) (w:=w) t
      obtain⟨b1,b2⟩:=b
      exact⟨(p.1,b2)::rs,⟨XR h.1,rfl,c⟩,.cons ⟨rfl,h.2⟩ q⟩
noncomputable def Zc(trs:List (TE×TE)):TE:=fun σ H Q=>∀p,H p=none->Nz trs σ (upd H p (.dK [])) fun ps H2=>H2 p=some (.dK [])/\∃kvs:List (Key×V),ps=kvs.map (fun kv=>(kV kv.1,kv.2))/\kvs.length≤15/\Q (.ref p) (upd H2 p (.dK (JE [] kvs)))
theorem Vn{X:Cx}{pos:Pos}{keys:List (Option Expr)}{values:List Expr}{trs:List (TE×TE)}(h:PPs X pos keys values trs)(hall:keys.all (·.isSome)=true)(hl:keys.length=values.length)(h0:keys≠[])
  (h15:keys.length≤15):PE X (.Dict keys values pos) (Zc trs):=by
 intro pins s σ H Q I q
 have hn:=I.hok.fresh (Nat.le_refl s.heap.objs.size)
 have I1:=I.laid (a:=s.heap.objs.size) (o:=.dK []) (h':=s.heap.push {cls:=.type "dict",data:=.dict #[]}) (t':=s.toks) (fun _ _ q=>Heap.get?_push_of_some _ q) (Nat.le_refl _) (Ra s.heap I.big)
 refine wpAny_Dict_walk (knd:=Cg X.prog X.w) hall hl h0 h15 (thn (h pins _ σ _ _ I1 (q _ hn)) fun ws s2 ⟨ps,H2,I2,rel,e,kvs,ep,lk,q2⟩=>?_)
 subst ep
 obtain⟨rs,c,rk⟩:=KO (P:=X.prog) (w:=X.w) rel
 obtain⟨z,hd,vs0,r0,dd⟩:=aI I2.hok e
 cases r0
 refine⟨rs,c,dd,fun h' dd' hs=>⟨.ref s.heap.objs.size,_,?_,rfl,q2⟩⟩
 have hz:(JE [] kvs).length≤sizeLine:=by
  have h1:=Gz kvs []
  rw[List.length_nil]at h1
  rw[sizeLine_eq];omega
 have he:∃q,h'.get? s.heap.objs.size=some q:=let⟨q,_,_,hq,_⟩:=dd';⟨q,hq⟩
 exact Uu I2 (by rw[e];exact True.intro) hs he (Xd hz hd (rk.merge .nil) dd')
structure M1(X:Cx)(o:Expr)(m:Str)(apos:Pos)(e:Expr)(cpos:Pos):Prop where
 base:attributeBase o m X.env (eval o X.env)=eval o X.env
 few:((backTo cpos (starEach [e] X.env)).all (fun x=> !x.1) && (backToKw cpos (keywordEach [] X.env)).all (fun x=>x.1.isSome)
  && decide (([e]:List Expr).length+([]:List Keyword).length+(if([]:List Keyword).isEmpty then 0 else 1)<30))=true
 line:(apos.endLine==cpos.line)=true
 trees:backTo cpos (starEach [e] X.env)=[(false,eval e X.env)]
structure M2(X:Cx)(o:Expr)(m:Str)(apos:Pos)(e f:Expr)(cpos:Pos):Prop where
 base:attributeBase o m X.env (eval o X.env)=eval o X.env
 few:((backTo cpos (starEach [e,f] X.env)).all (fun x=> !x.1) && (backToKw cpos (keywordEach [] X.env)).all (fun x=>x.1.isSome)
  && decide (([e,f]:List Expr).length+([]:List Keyword).length+(if([]:List Keyword).isEmpty then 0 else 1)<30))=true
 line:(apos.endLine==cpos.line)=true
 trees:backTo cpos (starEach [e,f] X.env)=[(false,eval e X.env),(false,eval f X.env)]
def IsD(H:Hp)(a:Addr):Prop:=(∃kvs,Rd H a (.dK kvs))∨∃kvs,Rd H a (.dT kvs)
section
variable{X:Cx}{pins:List (Addr×Obj)}{σ:St}{H:Hp}{s:Shared}{a:Addr}{y d:V}{u r:Value}{o:Option V}{A:Around}{E:Value->Shared->Prop}
end
section
variable{X:Cx}{o e f:Expr}{apos cpos:Pos}{td ty tx:TE}
end
section
variable{X:Cx}{pins:List (Addr×Obj)}{σ:St}{H:Hp}{s:Shared}{a:Addr}{kvs:List (Key×V)}{A:Around}{E:Value->Shared->Prop}
end
section
variable{X:Cx}{pins:List (Addr×Obj)}{σ:St}{H:Hp}{s:Shared}{a:Addr}{y:V}{u:Value}{A:Around}{E:Value->Shared->Prop}
end
end L2
end
noncomputable section
namespace L2
open PySem PySem.Spec PyProof.Rows
section
variable{prog:Program}{w:World}{A:Around}{E:Value->Shared->Prop}{s:Shared}
theorem Oa{h:Heap}{it t:Addr}{i:Nat}{o:Obj}(ho:h.get? it=some o)(hc:o.cls=.type "tuple_iterator")(hd:o.data=.fields #[.ref t,.int i 0]){h':Heap}
  (e:h'=h.update it (fun o=>o.mapFields fun a=>a.setIfInBounds 1 (rawInt ((i:Int)+1)))):h'.IsTupleIter it t (i+1):=by
 subst e
 have d:=Obj.data_mapFields hd fun a=>a.setIfInBounds 1 (rawInt ((i:Int)+1))
 refine⟨_,Heap.get?_update_self _ ho (Obj.isFreed_of_fields d),?_,?_⟩
 ·rw[Obj.cls_mapFields];exact hc
 ·rw[d];simp[rawInt]
theorem RZ{it t:Addr}{i:Nat}{items:Array Value}{x:Value}{Q:Value->Shared->Prop}(hit:s.heap.IsTupleIter it t i)(ht:s.heap.IsTuple t items)(hx:items[i]?=some x)
  (hQ:∀h',h'.IsTupleIter it t (i+1)->Heap.SameBut it s.heap h'->Q x {s with heap:=h'}):wpAny (model prog w) A (Builtin.SmallTypes.nextOf (.ref it)) Q E s:=by
 obtain⟨⟨c,dd,dt,sl⟩,ho,hc,hd⟩:=id hit
 obtain⟨⟨c2,dd2,dt2,sl2⟩,ho2,hc2,n2,hd2⟩:=id ht
 simp only at hc hd hc2 hd2
 subst hc hd hc2 hd2
 unfold Builtin.SmallTypes.nextOf
 refine wpAny_bind (wpAny_callSpecial?_slot (name:=Str.ofString "__next__") hit.typeIs F.slot_tuple_iterator_next (wpAny_call_entry F.slot_tuple_iterator_next hit.typeIs F.entry_tuple_iterator_next ?_ (F.args_tuple_iterator_next_1 _)))
 unfold Builtin.«tuple_iterator.__next__»
 wp_walk using AutoSeq1.wpAny_loadPart' ho,AutoSeq1.wpAny_loadPart' ho2
 have e:items[(i:Int).toNat]?=some x:=by rw[Int.toNat_natCast];exact hx
 rw[e]
 refine wpAny_bind (wpAny_setField ho rfl (by simp) ?_)
 exact wpAny_pure ⟨x,rfl,wpAny_pure (hQ _ (Oa ho rfl rfl rfl) (Heap.SameBut.update ..))⟩
theorem Rk{it t:Addr}{i:Nat}{items:Array Value}{Q:Value->Shared->Prop}(hh:A.handled=none)(hit:s.heap.IsTupleIter it t i)(ht:s.heap.IsTuple t items)(hx:items[i]?=none)
  (hE:∀h' e,Heap.ExtBut it s.heap h'->(∃o,h'.get? e=some o/\o.cls=.type "StopIteration")->E (.ref e) {s with heap:=h'}):wpAny (model prog w) A (Builtin.SmallTypes.nextOf (.ref it)) Q E s:=by
 obtain⟨⟨c,dd,dt,sl⟩,ho,hc,hd⟩:=id hit
 obtain⟨⟨c2,dd2,dt2,sl2⟩,ho2,hc2,n2,hd2⟩:=id ht
 simp only at hc hd hc2 hd2
 subst hc hd hc2 hd2
 unfold Builtin.SmallTypes.nextOf
 refine wpAny_bind (wpAny_callSpecial?_slot (name:=Str.ofString "__next__") hit.typeIs F.slot_tuple_iterator_next (wpAny_call_entry F.slot_tuple_iterator_next hit.typeIs F.entry_tuple_iterator_next ?_ (F.args_tuple_iterator_next_1 _)))
 unfold Builtin.«tuple_iterator.__next__»
 wp_walk using AutoSeq1.wpAny_loadPart' ho,AutoSeq1.wpAny_loadPart' ho2
 have e:items[(i:Int).toNat]?=none:=by rw[Int.toNat_natCast];exact hx
 rw[e]
 refine wpAny_bind (wpAny_rule (wpAny_bind (wpAny_setField ho rfl (by simp) ?_)))
 have hh1:A.in1.handled=none:=hh
 unfold Builtin.SmallTypes.stopIteration
 simp only[newExc,newTuple,raiseNew]
 wp_walk
 refine hE _ _ ?_ ⟨_,Heap.get?_push_size _ rfl,rfl⟩
 have a:=(Heap.SameBut.update (a:=it) (h:=s.heap) (f:=Obj.mapFields fun x=>x.setIfInBounds 0 Value.none)).extBut
 exact(a.push _).push _
theorem O2(l:Addr)(items:Array Value)(n:Nat)(dct:Option Addr)(sl:Array (Option Value)):
  Meets (Builtin.«enumerate.__new__» ⟨[.type "enumerate",.ref l],[]⟩) (fun _ R s=>s.heap.get? l=some {cls:=.type "tuple",dict:=dct,data:=.seq items n,slots:=sl}/\
   R (.ok (.ret (.ref (s.heap.objs.size+1)))) {s with heap:=(s.heap.push {cls:=.type "tuple_iterator",data:=.fields #[.ref l,.int 0 0]}).push {cls:=.type "enumerate",data:=.fields #[.none,.bool false,.ref s.heap.objs.size,rawInt 0,.none,.none]}}):=
 .of_wp fun prog w A R s h=>by
  obtain⟨hp,g,d,tk,os⟩:=s
  obtain⟨hl,h⟩:=h
  have hsub:=sub_enumerate
  have hT:Heap.IsTuple (Shared.heap ⟨hp,g,d,tk,os⟩) l items:=⟨_,hl,rfl,n,rfl⟩
  wp_walk using AutoSeq1.wpAny_loadPart' hl
  refine wpAny_stack_any fun st=>wpAny_pure ?_
  split
  ·rename_i c _ _ _ _ _
   cases (c==Value.type "enumerate")<;>(wp_walk using AutoSeq1.wpAny_loadPart' hl,wpAny_pyIter_tuple hT)<;>(refine⟨_,rfl,?_⟩;rw[Heap.size_push];exact h)
  ·wp_walk using AutoSeq1.wpAny_loadPart' hl,wpAny_pyIter_tuple hT
   refine⟨_,rfl,?_⟩
   rw[Heap.size_push]
   exact h
theorem OK{l:Addr}{items:Array Value}{Q:Value->Shared->Prop}(hT:s.heap.IsTuple l items)
  (h:∀h',IsEnum h' (s.heap.objs.size+1) s.heap.objs.size 0 .none->h'.IsTupleIter s.heap.objs.size l 0->(∀b o,s.heap.get? b=some o->h'.get? b=some o)->Q (.ref (s.heap.objs.size+1)) {s with heap:=h'}):
  wpAny (model prog w) A (call (.type "enumerate") [.ref l]) Q E s:=by
 obtain⟨⟨c,dct,dt,sl⟩,hl,hc,n,hd⟩:=hT
 simp only at hc hd
 subst hc hd
 refine callType_new F.called_enumerate (by decide) (F.typeCall_enumerate_1 _) (F.newCall_enumerate_1 _) (fun obj=>F.args_object_init_2 obj _) F.entry_enumerate_new (O2 l items n dct sl) ⟨hl,?_⟩
 have z:=Heap.get?_push_size (s.heap.push {cls:=.type "tuple_iterator",data:=.fields #[.ref l,.int 0 0]}) (o:={cls:=.type "enumerate",data:=.fields #[.none,.bool false,.ref s.heap.objs.size,rawInt 0,.none,.none]}) rfl
 rw[Heap.size_push]at z
 exact⟨⟨_,z,rfl⟩,h _ z ⟨_,Heap.get?_push_of_some _ (Heap.get?_push_size _ rfl),rfl,rfl⟩ fun b o x=>Heap.get?_push_of_some _ (Heap.get?_push_of_some _ x)⟩
end
section
variable{X:Cx}
end
end L2
end
noncomputable section
namespace L2
open PySem PySem.Spec PyProof.Rows
structure TopD(K:PySem.W.Frag)(w:World)(a:Addr)(kvs:List (Str×V)):Prop where
 ex:∃(es:Array DictEntry) (n:Nat),K.lookup a=some ⟨.type "dict",none,.dict es n, #[]⟩/\PySem.W.KeysLit w.params es.toList/\(a==sysModules)=false/\∀x,Yc (kvs.lookup x) (findBy Value.isStrOf es x)
section
variable{X:Cx}
end
end L2
end
noncomputable section
namespace L2
open PySem PySem.Spec PyProof.Rows
def SIt(h:Heap)(j l:Addr)(i:Nat)(its:Array Value):Prop:=(h.IsListIter j l i/\h.IsList l its)∨(h.IsTupleIter j l i/\h.IsTuple l its)
section
variable{prog:Program}{w:World}{A:Around}{E:Value->Shared->Prop}{s:Shared}{h h':Heap}{j l:Addr}{i:Nat}{its:Array Value}
theorem SIt.at(q:SIt h j l i its)(k1:∀o,h.get? j=some o->h'.get? j=some o)(k2:∀o,h.get? l=some o->h'.get? l=some o):SIt h' j l i its:=by
 rcases q with⟨a,b⟩|⟨a,b⟩
 ·exact .inl ⟨a.at k1,b.at k2⟩
 ·exact .inr ⟨a.at k1,let⟨o,e,r⟩:=b;⟨o,k2 o e,r⟩⟩
theorem SIt.but{c:Addr}(q:SIt h j l i its)(sb:Heap.ExtBut c h h')(n1:j≠c)(n2:l≠c):SIt h' j l i its:=q.at (fun o e=>sb _ o n1 e) fun o e=>sb _ o n2 e
theorem SIt.live(q:SIt h j l i its):∃o,h.get? j=some o/\∀v,o.data≠.cell v:=by
 rcases q with⟨⟨o,a,b,c⟩,_⟩|⟨⟨o,a,b,c⟩,_⟩
 ·exact⟨o,a,fun v z=>by rw[c]at z;cases z⟩
 ·exact⟨o,a,fun v z=>by rw[c]at z;cases z⟩
theorem SIt.ne(q:SIt h j l i its):l≠j:=by
 rcases q with⟨⟨o,a,b,_⟩,⟨o2,a2,b2,_⟩⟩|⟨⟨o,a,b,_⟩,⟨o2,a2,b2,_⟩⟩
 ·intro z;subst z;rw[a]at a2;cases a2;rw[b]at b2;injection b2 with q;exact absurd q (by decide)
 ·intro z;subst z;rw[a]at a2;cases a2;rw[b]at b2;injection b2 with q;exact absurd q (by decide)
theorem IQ{x:Value}{Q:Value->Shared->Prop}(q:SIt s.heap j l i its)(hx:its[i]?=some x)(k:∀h',SIt h' j l (i+1) its->Heap.SameBut j s.heap h'->Q x {s with heap:=h'}):
  wpAny (model prog w) A (Builtin.SmallTypes.nextOf (.ref j)) Q E s:=by
 have n:=q.ne
 rcases q with⟨a,b⟩|⟨a,b⟩
 ·exact wpAny_nextOf_list_item a b hx fun h' a' sb=>k h' (.inl ⟨a',b.extBut sb.extBut n⟩) sb
 ·exact RZ a b hx fun h' a' sb=>k h' (.inr ⟨a',let⟨o,e,r⟩:=b;⟨o,sb.extBut _ o n e,r⟩⟩) sb
theorem IW{Q:Value->Shared->Prop}(hh:A.handled=none)(q:SIt s.heap j l i its)(hx:its[i]?=none)(k:∀h' e,Heap.ExtBut j s.heap h'->(∃o,h'.get? e=some o/\o.cls=.type "StopIteration")->E (.ref e) {s with heap:=h'}):
  wpAny (model prog w) A (Builtin.SmallTypes.nextOf (.ref j)) Q E s:=by
 rcases q with⟨a,b⟩|⟨a,b⟩
 ·exact wpAny_nextOf_list_end hh a b hx k
 ·exact Rk hh a b hx k
theorem QY{z ti tt j1 j2 l1 l2:Addr}{m:Nat}{xs ys:Array Value}{x y u1 u2:Value}{Q:Value->Shared->Prop}(D:ZipApart z ti tt j1 j2 l1 l2)
  (oz:IsZip s.heap z ti tt .none) (oi:IsPair s.heap ti (.ref j1) (.ref j2)) (ot:IsPair s.heap tt u1 u2) (q1:SIt s.heap j1 l1 m xs) (q2:SIt s.heap j2 l2 m ys) (ex:xs[m]?=some x) (ey:ys[m]?=some y)
  (k:∀h',IsZip h' z ti tt (rawInt s.heap.objs.size)->IsPair h' tt x y->SIt h' j1 l1 (m+1) xs->SIt h' j2 l2 (m+1) ys->IsPair h' s.heap.objs.size x y->
   (∀c o,c≠z->c≠tt->c≠j1->c≠j2->s.heap.get? c=some o->h'.get? c=some o)->Q (.ref s.heap.objs.size) {s with heap:=h'}):
  wpAny (model prog w) A (Builtin.«zip.__next__» ⟨[.ref z],[]⟩) (fun fin s'=>∃v,fin=.done (.ret v)/\Q v s') E s:=by
 show wpAny _ _ (field (.ref z) 2 >>= _) _ _ _
 refine wpAny_bind (wpAny_field oz rfl (x:=.bool false) rfl ?_)
 show wpAny _ _ (field (.ref z) 3 >>= _) _ _ _
 refine wpAny_bind (wpAny_field oz rfl (x:=.ref ti) rfl (wpAny_bind (wpAny_seqItems oi rfl ?_)))
 show wpAny _ _ (Builtin.SmallTypes.ownedTupleIsFree (.ref z) >>= _) _ _ _
 refine wpAny_bind ?_
 unfold Builtin.SmallTypes.ownedTupleIsFree
 refine wpAny_bind (wpAny_field oz rfl (x:=.none) rfl (wpAny_pure ?_))
 simp only[if_true]
 refine wpAny_bind (wpAny_rule (wpAny_bind (wpAny_field oz rfl (x:=.ref tt) rfl (wpAny_bind (wpAny_setField_rec oz (by simp) fun g1 oz1 b1=>?_)))))
 have oz1:IsZip g1 z ti tt .ellipsis:=oz1
 refine wpAny_bind ?_
 simp only[List.zipIdx_cons,List.zipIdx_nil,List.forIn_cons,List.forIn_nil]
 refine wpAny_bind (wpAny_bind (wpAny_onRaise ?_))
 show wpAny _ _ (Builtin.SmallTypes.nextOf (.ref j1) >>= _) _ _ _
 refine wpAny_bind (IQ (q1.but b1.extBut D.i1z D.l1z) ex fun g2 q12 b2=>wpAny_pure ?_)
 have ot2:IsPair g2 tt u1 u2:=b2.extBut _ _ D.TOi1 (b1.extBut _ _ D.TOz ot)
 refine wpAny_bind (wpAny_seqItems ot2 rfl (wpAny_bind (wpAny_updateSeq_pair ot2 fun g3 ot3 b3=>?_)))
 have ot3:IsPair g3 tt x u2:=ot3
 refine wpAny_bind (wpAny_letGo (wpAny_pure (wpAny_bind (wpAny_bind (wpAny_onRaise ?_)))))
 show wpAny _ _ (Builtin.SmallTypes.nextOf (.ref j2) >>= _) _ _ _
 refine wpAny_bind (IQ (((q2.but b1.extBut D.i2z D.l2z).but b2.extBut D.i12.symm D.l2i1).but b3.extBut D.TOi2.symm D.l2TO) ey fun g4 q24 b4=>wpAny_pure ?_)
 have ot4:IsPair g4 tt x u2:=b4.extBut _ _ D.TOi2 ot3
 refine wpAny_bind (wpAny_seqItems ot4 rfl (wpAny_bind (wpAny_updateSeq_pair ot4 fun g5 ot5 b5=>?_)))
 have ot5:IsPair g5 tt x y:=ot5
 refine wpAny_bind (wpAny_letGo (wpAny_pure (wpAny_pure (wpAny_bind (wpAny_seqItems ot5 rfl (wpAny_bind (wpAny_newTuple ?_)))))))
 have sz:g5.objs.size=s.heap.objs.size:=by rw[b5.1,b4.1,b3.1,b2.1,b1.1]
 have oz5:IsZip g5 z ti tt .ellipsis:=b5.extBut _ _ D.TOz.symm (b4.extBut _ _ D.i2z.symm (b3.extBut _ _ D.TOz.symm (b2.extBut _ _ D.i1z.symm oz1)))
 have k5:∀c o,c≠z->c≠tt->c≠j1->c≠j2->s.heap.get? c=some o->g5.get? c=some o:=fun c o c1 c2 c3 c4 e=>b5.extBut _ _ c2 (b4.extBut _ _ c4 (b3.extBut _ _ c2 (b2.extBut _ _ c3 (b1.extBut _ _ c1 e))))
 have q15:SIt g5 j1 l1 (m+1) xs:=((q12.but b3.extBut D.TOi1.symm D.l1TO).but b4.extBut D.i12 D.l1i2).but b5.extBut D.TOi1.symm D.l1TO
 have q25:SIt g5 j2 l2 (m+1) ys:=q24.but b5.extBut D.TOi2.symm D.l2TO
 have zlt:z<g5.objs.size:=Heap.lt_size oz5
 show wpAny _ _ (Builtin.SmallTypes.ownedTupleHandOut (.ref z) (.ref g5.objs.size) >>= _) _ _ _
 refine wpAny_bind ?_
 unfold Builtin.SmallTypes.ownedTupleHandOut
 have oz6:IsZip (g5.push {cls:=.type "tuple",data:=.seq #[x,y]}) z ti tt .ellipsis:=Heap.get?_push_of_some _ oz5
 refine wpAny_bind (wpAny_setField_rec oz6 (by simp) fun g7 oz7 b7=>?_)
 have oz7:IsZip g7 z ti tt (rawInt g5.objs.size):=oz7
 refine wpAny_setField_rec oz7 (by simp) fun g8 oz8 b8=>?_
 have oz8:IsZip g8 z ti tt (rawInt g5.objs.size):=oz8
 have up:∀c o,c≠z->g5.get? c=some o->g8.get? c=some o:=fun c o c1 e=>b8.extBut _ _ c1 (b7.extBut _ _ c1 (Heap.get?_push_of_some _ e))
 have op8:IsPair g8 g5.objs.size x y:=b8.extBut _ _ (Nat.ne_of_gt zlt) (b7.extBut _ _ (Nat.ne_of_gt zlt) (Heap.get?_push_size _ rfl))
 rw[sz]at oz8 op8
 refine wpAny_pure ⟨_,rfl,?_⟩
 show Q (.ref g5.objs.size) _
 rw[sz]
 exact k g8 oz8 (up _ _ D.TOz ot5) (q15.at (fun o e=>up _ o D.i1z e) fun o e=>up _ o D.l1z e) (q25.at (fun o e=>up _ o D.i2z e) fun o e=>up _ o D.l2z e) op8 fun c o c1 c2 c3 c4 e=>up c o c1 (k5 c o c1 c2 c3 c4 e)
theorem R9{z ti tt j1 j2 l1 l2:Addr}{m:Nat}{xs ys:Array Value}{u1 u2:Value}{Q:Fin->Shared->Prop}(hh:A.handled=none)(D:ZipApart z ti tt j1 j2 l1 l2)
    (oz:IsZip s.heap z ti tt .none) (oi:IsPair s.heap ti (.ref j1) (.ref j2)) (ot:IsPair s.heap tt u1 u2) (q1:SIt s.heap j1 l1 m xs) (q2:SIt s.heap j2 l2 m ys) (en:xs[m]?=none∨ys[m]?=none)
    (k:∀h' e,(∀c o,c≠z->c≠tt->c≠j1->c≠j2->s.heap.get? c=some o->h'.get? c=some o)->(∃o,h'.get? e=some o/\o.cls=.type "StopIteration")->E (.ref e) {s with heap:=h'}):
    wpAny (model prog w) A (Builtin.«zip.__next__» ⟨[.ref z],[]⟩) Q E s:=by
  show wpAny _ _ (field (.ref z) 2 >>= _) _ _ _
  refine wpAny_bind (wpAny_field oz rfl (x:=.bool false) rfl ?_)
  show wpAny _ _ (field (.ref z) 3 >>= _) _ _ _
  refine wpAny_bind (wpAny_field oz rfl (x:=.ref ti) rfl (wpAny_bind (wpAny_seqItems oi rfl ?_)))
  show wpAny _ _ (Builtin.SmallTypes.ownedTupleIsFree (.ref z) >>= _) _ _ _
  refine wpAny_bind ?_
  unfold Builtin.SmallTypes.ownedTupleIsFree
  refine wpAny_bind (wpAny_field oz rfl (x:=.none) rfl (wpAny_pure ?_))
  simp only[if_true]
  refine wpAny_bind (wpAny_rule (wpAny_bind (wpAny_field oz rfl (x:=.ref tt) rfl (wpAny_bind (wpAny_setField_rec oz (by simp) fun g1 oz1 b1=>?_)))))
  have oz1:IsZip g1 z ti tt .ellipsis:=oz1
  refine wpAny_bind ?_
  simp only[List.zipIdx_cons,List.zipIdx_nil,List.forIn_cons,List.forIn_nil]
  refine wpAny_bind (wpAny_bind (wpAny_onRaise ?_))
  show wpAny _ _ (Builtin.SmallTypes.nextOf (.ref j1) >>= _) _ _ _
  cases ex:xs[m]? with
  | none =>
    refine wpAny_bind (IW hh (q1.but b1.extBut D.i1z D.l1z) ex fun g2 e b2 he=>?_)
    obtain⟨oe,e1,e2⟩:=he
    have oz2:IsZip g2 z ti tt .ellipsis:=b2 _ _ D.i1z.symm oz1
    have nez:e≠z:=fun x=>by subst x;rw[oz2]at e1;cases e1;simp at e2
    exact wpAny_setField_rec oz2 (by simp) fun g3 _ b3=>k g3 e (fun c o c1 _ c3 _ x=>b3.extBut _ _ c1 (b2 _ _ c3 (b1.extBut _ _ c1 x))) ⟨oe,b3.extBut _ _ nez e1,e2⟩
  | some x =>
    have ey:ys[m]?=none:=by
      rcases en with z|z
      ·rw[ex]at z;cases z
      ·exact z
    refine wpAny_bind (IQ (q1.but b1.extBut D.i1z D.l1z) ex fun g2 q12 b2=>wpAny_pure ?_)
    have ot2:IsPair g2 tt u1 u2:=b2.extBut _ _ D.TOi1 (b1.extBut _ _ D.TOz ot)
    refine wpAny_bind (wpAny_seqItems ot2 rfl (wpAny_bind (wpAny_updateSeq_pair ot2 fun g3 ot3 b3=>?_)))
    refine wpAny_bind (wpAny_letGo (wpAny_pure (wpAny_bind (wpAny_bind (wpAny_onRaise ?_)))))
    show wpAny _ _ (Builtin.SmallTypes.nextOf (.ref j2) >>= _) _ _ _
    refine wpAny_bind (IW hh (((q2.but b1.extBut D.i2z D.l2z).but b2.extBut D.i12.symm D.l2i1).but b3.extBut D.TOi2.symm D.l2TO) ey fun g4 e b4 he=>?_)
    obtain⟨oe,e1,e2⟩:=he
    have oz4:IsZip g4 z ti tt .ellipsis:=b4 _ _ D.i2z.symm (b3.extBut _ _ D.TOz.symm (b2.extBut _ _ D.i1z.symm oz1))
    have nez:e≠z:=fun x=>by subst x;rw[oz4]at e1;cases e1;simp at e2
    exact wpAny_setField_rec oz4 (by simp) fun g5 _ b5=>k g5 e (fun c o c1 c2 c3 c4 x=>b5.extBut _ _ c1 (b4 _ _ c4 (b3.extBut _ _ c2 (b2.extBut _ _ c3 (b1.extBut _ _ c1 x))))) ⟨oe,b5.extBut _ _ nez e1,e2⟩
theorem OQ{z ti tt j1 j2 l1 l2:Addr}{m:Nat}{xs ys:Array Value}{x y u1 u2:Value}{Q:Option Value->Shared->Prop}(D:ZipApart z ti tt j1 j2 l1 l2)
  (oz:IsZip s.heap z ti tt .none) (oi:IsPair s.heap ti (.ref j1) (.ref j2)) (ot:IsPair s.heap tt u1 u2) (q1:SIt s.heap j1 l1 m xs) (q2:SIt s.heap j2 l2 m ys) (ex:xs[m]?=some x) (ey:ys[m]?=some y)
  (k:∀h',IsZip h' z ti tt (rawInt s.heap.objs.size)->IsPair h' tt x y->SIt h' j1 l1 (m+1) xs->SIt h' j2 l2 (m+1) ys->IsPair h' s.heap.objs.size x y->
   (∀c o,c≠z->c≠tt->c≠j1->c≠j2->s.heap.get? c=some o->h'.get? c=some o)->Q (some (.ref s.heap.objs.size)) {s with heap:=h'}):
  wpAny (model prog w) A (pyNext (.ref z)) Q E s:=by
 have ht:s.TypeIs (.ref z) "zip":=⟨_,oz,rfl⟩
 unfold pyNext
 exact wpAny_bind (wpAny_attempt (wpAny_callSpecial?_slot (name:=Str.ofString "__next__") ht F.slot_zip_next (wpAny_call_entry F.slot_zip_next ht F.entry_zip_next
  (QY D oz oi ot q1 q2 ex ey fun h' a1 a2 a3 a4 a5 a6=>wpAny_pure (k h' a1 a2 a3 a4 a5 a6)) (F.args_zip_next_1 _))))
theorem Pr{z ti tt j1 j2 l1 l2:Addr}{m:Nat}{xs ys:Array Value}{u1 u2:Value}{Q:Option Value->Shared->Prop}(hh:A.handled=none)(D:ZipApart z ti tt j1 j2 l1 l2)
  (oz:IsZip s.heap z ti tt .none) (oi:IsPair s.heap ti (.ref j1) (.ref j2)) (ot:IsPair s.heap tt u1 u2) (q1:SIt s.heap j1 l1 m xs) (q2:SIt s.heap j2 l2 m ys) (en:xs[m]?=none∨ys[m]?=none)
  (k:∀h',(∀c o,c≠z->c≠tt->c≠j1->c≠j2->s.heap.get? c=some o->h'.get? c=some o)->Q none {s with heap:=h'}):wpAny (model prog w) A (pyNext (.ref z)) Q E s:=by
 have ht:s.TypeIs (.ref z) "zip":=⟨_,oz,rfl⟩
 unfold pyNext
 refine wpAny_bind (wpAny_attempt (wpAny_callSpecial?_slot (name:=Str.ofString "__next__") ht F.slot_zip_next (wpAny_call_entry F.slot_zip_next ht F.entry_zip_next
  (R9 hh D oz oi ot q1 q2 en fun h' e kp he=>?_) (F.args_zip_next_1 _))))
 obtain⟨o,e1,e2⟩:=he
 exact wpAny_bind (wpAny_isInstance (T:="StopIteration") (b:=true) ⟨o,e1,e2⟩ isSubtype_stop (wpAny_pure (k _ kp)))
end
end L2
end
noncomputable section
namespace L2
open PySem PySem.Spec PyProof.Rows
def J8(h:Heap)(b:Bool)(l:Addr)(its:Array Value):Prop:=match b with|true=>h.IsTuple l its|false=>h.IsList l its
noncomputable def Wx:Bool->String|true=>"tuple_iterator" |false=>"list_iterator"
noncomputable def zh1(h:Heap)(b:Bool)(l:Addr):Heap:=h.push {cls:=.type (Wx b),data:=.fields #[.ref l,.int 0 0]}
noncomputable def zh2(h:Heap)(b c:Bool)(l m:Addr):Heap:=zh1 (zh1 h b l) c m
noncomputable def zh3(h:Heap)(b c:Bool)(l m:Addr):Heap:=(zh2 h b c l m).push {cls:=.type "tuple",data:=.seq #[.ref h.objs.size,.ref (zh1 h b l).objs.size]}
noncomputable def zh4(h:Heap)(b c:Bool)(l m:Addr):Heap:=(zh3 h b c l m).push {cls:=.type "tuple",data:=.seq #[.none,.none]}
noncomputable def zh5(h:Heap)(b c:Bool)(l m:Addr):Heap:=(zh4 h b c l m).push {cls:=.type "zip",data:=.fields #[.none,.bool false,.bool false,.ref (zh2 h b c l m).objs.size,.ref (zh3 h b c l m).objs.size]}
theorem J8.push{h:Heap}{b:Bool}{l:Addr}{its:Array Value}(q:J8 h b l its)(o:Obj):J8 (h.push o) b l its:=by
 cases b
 ·exact Heap.IsList.push q _
 ·obtain⟨u,e,r⟩:=(show h.IsTuple l its from q)
  exact⟨u,Heap.get?_push_of_some _ e,r⟩
theorem RY(b c:Bool)(l m:Addr)(xs ys:Array Value):
  Meets (Builtin.«zip.__new__» ⟨[.type "zip",.ref l,.ref m],[]⟩) (fun _ R s=>J8 s.heap b l xs/\J8 s.heap c m ys/\R (.ok (.ret (.ref (zh4 s.heap b c l m).objs.size))) {s with heap:=zh5 s.heap b c l m}):=
 .of_wp fun prog w A R s hyp=>by
  obtain⟨hp,gs,dr,tk,os⟩:=s
  obtain⟨i1,i2,hyp⟩:=hyp
  have hsub:=sub_zip
  have i3:J8 (Shared.heap ⟨zh1 hp b l,gs,dr,tk,os⟩) c m ys:=J8.push i2 _
  cases b<;>cases c
  ·have a1:Heap.IsList (Shared.heap ⟨hp,gs,dr,tk,os⟩) l xs:=i1
   have a2:Heap.IsList (Shared.heap ⟨hp.push {cls:=.type "list_iterator",data:=.fields #[.ref l,.int 0 0]},gs,dr,tk,os⟩) m ys:=i3
   wp_walk using wpAny_pyIter_list a1,wpAny_pyIter_list a2
   exact⟨_,rfl,hyp⟩
  ·have a1:Heap.IsList (Shared.heap ⟨hp,gs,dr,tk,os⟩) l xs:=i1
   have a2:Heap.IsTuple (Shared.heap ⟨hp.push {cls:=.type "list_iterator",data:=.fields #[.ref l,.int 0 0]},gs,dr,tk,os⟩) m ys:=i3
   wp_walk using wpAny_pyIter_list a1,wpAny_pyIter_tuple a2
   exact⟨_,rfl,hyp⟩
  ·have a1:Heap.IsTuple (Shared.heap ⟨hp,gs,dr,tk,os⟩) l xs:=i1
   have a2:Heap.IsList (Shared.heap ⟨hp.push {cls:=.type "tuple_iterator",data:=.fields #[.ref l,.int 0 0]},gs,dr,tk,os⟩) m ys:=i3
   wp_walk using wpAny_pyIter_tuple a1,wpAny_pyIter_list a2
   exact⟨_,rfl,hyp⟩
  ·have a1:Heap.IsTuple (Shared.heap ⟨hp,gs,dr,tk,os⟩) l xs:=i1
   have a2:Heap.IsTuple (Shared.heap ⟨hp.push {cls:=.type "tuple_iterator",data:=.fields #[.ref l,.int 0 0]},gs,dr,tk,os⟩) m ys:=i3
   wp_walk using wpAny_pyIter_tuple a1,wpAny_pyIter_tuple a2
   exact⟨_,rfl,hyp⟩
section
variable{prog:Program}{w:World}{A:Around}{E:Value->Shared->Prop}{s:Shared}
theorem UE{h h':Heap}{b:Bool}{l j:Addr}{its:Array Value}(q:J8 h b l its)(k:∀c o,h.get? c=some o->h'.get? c=some o)(e:h'.get? j=some {cls:=.type (Wx b),data:=.fields #[.ref l,.int 0 0]}):SIt h' j l 0 its:=by
 cases b
 ·exact .inl ⟨⟨_,e,rfl,rfl⟩,(show h.IsList l its from q).at fun o z=>k _ o z⟩
 ·exact .inr ⟨⟨_,e,rfl,rfl⟩,let⟨o,z,r⟩:=(show h.IsTuple l its from q);⟨o,k _ o z,r⟩⟩
theorem PK{b c:Bool}{l m:Addr}{xs ys:Array Value}{Q:Value->Shared->Prop}(i1:J8 s.heap b l xs)(i2:J8 s.heap c m ys)
  (k:∀h',IsZip h' (s.heap.objs.size+4) (s.heap.objs.size+2) (s.heap.objs.size+3) .none->IsPair h' (s.heap.objs.size+2) (.ref s.heap.objs.size) (.ref (s.heap.objs.size+1))->
   IsPair h' (s.heap.objs.size+3) .none .none->SIt h' s.heap.objs.size l 0 xs->SIt h' (s.heap.objs.size+1) m 0 ys->(∀c o,s.heap.get? c=some o->h'.get? c=some o)->Q (.ref (s.heap.objs.size+4)) {s with heap:=h'}):
  wpAny (model prog w) A (call (.type "zip") [.ref l,.ref m]) Q E s:=by
 refine callType_new F.called_zip (by decide) (F.typeCall_zip_2 _ _) (F.newCall_zip_2 _ _) (fun obj=>F.args_object_init_3 obj _ _) F.entry_zip_new (RY b c l m xs ys) ⟨i1,i2,?_⟩
 have z1:(zh1 s.heap b l).objs.size=s.heap.objs.size+1:=Heap.size_push ..
 have z2:(zh2 s.heap b c l m).objs.size=s.heap.objs.size+2:=by unfold zh2 zh1;rw[Heap.size_push];exact congrArg (· +1) z1
 have z3:(zh3 s.heap b c l m).objs.size=s.heap.objs.size+3:=by unfold zh3;rw[Heap.size_push,z2]
 have z4:(zh4 s.heap b c l m).objs.size=s.heap.objs.size+4:=by unfold zh4;rw[Heap.size_push,z3]
 have kp:∀d o,s.heap.get? d=some o->(zh5 s.heap b c l m).get? d=some o:=fun d o e=>by
  unfold zh5 zh4 zh3 zh2 zh1
  exact Heap.get?_push_of_some _ (Heap.get?_push_of_some _ (Heap.get?_push_of_some _ (Heap.get?_push_of_some _ (Heap.get?_push_of_some _ e))))
 have g5:(zh5 s.heap b c l m).get? (zh4 s.heap b c l m).objs.size=some _:=Heap.get?_push_size _ rfl
 have g4:(zh5 s.heap b c l m).get? (zh3 s.heap b c l m).objs.size=some _:=Heap.get?_push_of_some _ (Heap.get?_push_size _ rfl)
 have g3:(zh5 s.heap b c l m).get? (zh2 s.heap b c l m).objs.size=some _:=Heap.get?_push_of_some _ (Heap.get?_push_of_some _ (Heap.get?_push_size _ rfl))
 have g2:(zh5 s.heap b c l m).get? (zh1 s.heap b l).objs.size=some _:=Heap.get?_push_of_some _ (Heap.get?_push_of_some _ (Heap.get?_push_of_some _ (Heap.get?_push_size _ rfl)))
 have g1:(zh5 s.heap b c l m).get? s.heap.objs.size=some _:=Heap.get?_push_of_some _ (Heap.get?_push_of_some _ (Heap.get?_push_of_some _ (Heap.get?_push_of_some _ (Heap.get?_push_size _ rfl))))
 show _/\_
 rw[z2,z3,z4]at g5
 rw[z1,z2]at g3
 rw[z3]at g4
 rw[z1]at g2
 rw[z4]
 exact⟨⟨_,g5,rfl⟩,k _ g5 g3 g4 (UE i1 kp g1) (UE i2 kp g2) kp⟩
end
end L2
end
noncomputable section
namespace L2
open PySem PySem.Spec PyProof.Rows
def SqB(K:PySem.W.Frag)(H:Hp)(k:Bool)(a:Addr)(xs:List V):Prop:=match k with|true=>SqT K H a xs|false=>SqL K H a xs
def JIt(h:Heap)(k:Bool)(j l:Addr)(i:Nat):Prop:=match k with|true=>h.IsTupleIter j l i|false=>h.IsListIter j l i
theorem JIt.at{h h':Heap}{k:Bool}{j l:Addr}{i:Nat}(q:JIt h k j l i)(e:∀o,h.get? j=some o->h'.get? j=some o):JIt h' k j l i:=by
 cases k
 ·exact Heap.IsListIter.at q e
 ·exact Heap.IsTupleIter.at q e
theorem JIt.sit{h:Heap}{k:Bool}{j l:Addr}{i:Nat}{its:Array Value}(q:JIt h k j l i)(p:J8 h k l its):SIt h j l i its:=by
 cases k
 ·exact .inl ⟨q,p⟩
 ·exact .inr ⟨q,p⟩
theorem SIt.jit{h:Heap}{k:Bool}{j l:Addr}{i:Nat}{its:Array Value}(q:SIt h j l i its)(p:J8 h k l its):JIt h k j l i:=by
 rcases q with⟨q,r⟩|⟨q,r⟩
 ·cases k
  ·exact q
  ·obtain⟨o,e,c,_⟩:=r;obtain⟨o',e',c',_⟩:=(show h.IsTuple l its from p)
   rw[e]at e';cases e';rw[c]at c';injection c' with z;exact absurd z (by decide)
 ·cases k
  ·obtain⟨o,e,c,_⟩:=r;obtain⟨o',e',c',_⟩:=(show h.IsList l its from p)
   rw[e]at e';cases e';rw[c]at c';injection c' with z;exact absurd z (by decide)
  ·exact q
theorem Inv.sqB{X:Cx}{pins:List (Addr×Obj)}{σ:St}{H:Hp}{s:Shared}{k:Bool}{a:Addr}{xs:List V}(I:Inv X pins σ H s)(h:SqB X.K H k a xs):∃its:List Value,Vals xs its/\J8 s.heap k a its.toArray:=by
 cases k
 ·obtain⟨its,h1,⟨o,n,q1,q2,_,q3⟩,h3⟩:=I.list h
  exact⟨its,h1,o,q1,q2,n,q3⟩
 ·obtain⟨its,h1,h2,h3⟩:=I.tuple h
  exact⟨its,h1,h2⟩
theorem Inv.sqB_inj{X:Cx}{pins:List (Addr×Obj)}{σ:St}{H:Hp}{s:Shared}{k:Bool}{a:Addr}{xs ys:List V}(I:Inv X pins σ H s)(h:SqB X.K H k a xs)(g:SqB X.K H k a ys):xs=ys:=by
 cases k
 ·exact I.list_inj h g
 ·exact I.tuple_inj h g
noncomputable def Itz(K:PySem.W.Frag)(k:Bool)(a:Addr)(m:Bool)(b:Addr):It:=
  ⟨fun i H=>∃(xs ys:List V) (x y:V),SqB K H k a xs/\SqB K H m b ys/\xs[i]?=some x/\ys[i]?=some y,
   fun i H v H'=>∃(p:Addr) (x y:V),H p=none/\v=.ref p/\(∀xs,SqB K H k a xs->xs[i]?=some x)/\(∀ys,SqB K H m b ys->ys[i]?=some y)/\H'=upd H p (.tup [x,y]),
   fun i H=>∃(xs ys:List V),SqB K H k a xs/\SqB K H m b ys/\(xs.length≤i∨ys.length≤i)⟩
structure ZSt(h:Heap)(z ti tt j1 j2:Addr)(k:Bool)(a:Addr)(m:Bool)(b:Addr)(i:Nat):Prop where
 oz:IsZip h z ti tt .none
 oi:IsPair h ti (.ref j1) (.ref j2)
 ot:∃u v,IsPair h tt u v
 q1:JIt h k j1 a i
 q2:JIt h m j2 b i
structure ZNe(z ti tt j1 j2:Addr):Prop where
 n1:ti≠z
 n2:tt≠z
 n3:j1≠z
 n4:j2≠z
 n5:ti≠tt
 n6:ti≠j1
 n7:ti≠j2
 n8:tt≠j1
 n9:tt≠j2
 n10:j1≠j2
theorem ZNe.apart{z ti tt j1 j2 a b:Addr}(N:ZNe z ti tt j1 j2)(ha:a∉ [z,tt,j1,j2])(hb:b∉ [z,tt,j1,j2]):ZipApart z ti tt j1 j2 a b:=by
 simp only[List.mem_cons,List.not_mem_nil,or_false,not_or]at ha hb
 exact⟨N.n1,N.n2,N.n3,N.n4,N.n5,N.n6,N.n7,N.n8,N.n9,N.n10,ha.1,ha.2.1,ha.2.2.1,ha.2.2.2,hb.1,hb.2.1,hb.2.2.1,hb.2.2.2⟩
theorem BS{X:Cx}{pins:List (Addr×Obj)}{σ:St}{H:Hp}{s:Shared}{k:Bool}{a c:Addr}{xs:List V}(I:Inv X pins σ H s)(q:SqB X.K H k a xs)(f:Nb X pins H c):a≠c:=by
 intro e
 subst e
 have rd:∀o,Rd H a o->False:=fun o r=>by
  rcases r with r|⟨_,r⟩<;>(rw[f.1]at r;cases r)
 have kk:∀o,X.K.lookup a=some o->False:=fun o hk=>by
  have b:=I.ok.mod.kin a o hk
  rcases f.2.2.2.1 with z|z
  ·exact I.ok.noex a o b z
  ·exact absurd (Nat.lt_of_lt_of_le (Heap.lt_size (I.ok.bs a o b).1) z) (Nat.lt_irrefl _)
 cases k
 ·rcases(show SqL X.K H a xs from q)with q|⟨o,_,_,hk,_⟩
  ·exact rd _ q
  ·exact kk o hk
 ·rcases(show SqT X.K H a xs from q)with q|⟨o,_,_,hk,_⟩
  ·exact rd _ q
  ·exact kk o hk
theorem TZ{P:Program}{w:World}{K:PySem.W.Frag}{elts:List Expr}{n:Nat}{pos:Pos}(k:Bool)(a:Addr)(m:Bool)(b:Addr)(z ti tt j1 j2:Addr)(N:ZNe z ti tt j1 j2):
  Turn P w K (.Tuple elts n pos) (Itz K k a m b) [z,ti,tt,j1,j2] z (fun i h=>ZSt h z ti tt j1 j2 k a m b i) where
 mem:=by simp
 obj := fun i h st c hc => by
  have jl:∀{q:Bool} {j l:Addr},JIt h q j l i->∃o,h.get? j=some o/\∀v,o.data≠.cell v:=fun{q j l} x=>by
   cases q
   ·obtain⟨o,e,_,d⟩:=(show h.IsListIter j l i from x)
    exact⟨o,e,fun v z=>by rw[d]at z;cases z⟩
   ·obtain⟨o,e,_,d⟩:=(show h.IsTupleIter j l i from x)
    exact⟨o,e,fun v z=>by rw[d]at z;cases z⟩
  simp only[List.mem_cons,List.not_mem_nil,or_false]at hc
  rcases hc with rfl|rfl|rfl|rfl|rfl
  ·exact⟨_,st.oz,fun v z=>nomatch z⟩
  ·exact⟨_,st.oi,fun v z=>nomatch z⟩
  ·obtain⟨u,v,e⟩:=st.ot
   exact⟨_,e,fun v z=>nomatch z⟩
  ·exact jl st.q1
  ·exact jl st.q2
 keep:=fun i h h' st kp=>⟨kp z (by simp) _ st.oz,kp ti (by simp) _ st.oi,let⟨u,v,e⟩:=st.ot;⟨u,v,kp tt (by simp) _ e⟩,st.q1.at fun o e=>kp j1 (by simp) o e,st.q2.at fun o e=>kp j2 (by simp) o e⟩
 item := by
  intro X hP hw hK hc i pins s σ H E I hf st hg
  subst hP hw hK
  obtain⟨xs,ys,x,y,s1,s2,e1,e2⟩:=hg
  obtain⟨i1,r1,p1⟩:=I.sqB s1
  obtain⟨i2,r2,p2⟩:=I.sqB s2
  obtain⟨u1,h1,ru1⟩:=r1.get e1
  obtain⟨u2,h2,ru2⟩:=r2.get e2
  have fz:=hf z (by simp);have fi:=hf ti (by simp);have ft:=hf tt (by simp);have f1:=hf j1 (by simp);have f2:=hf j2 (by simp)
  have ap:=N.apart (a:=a) (b:=b) (by simp[BS I s1 fz,BS I s1 ft,BS I s1 f1,BS I s1 f2]) (by simp[BS I s2 fz,BS I s2 ft,BS I s2 f1,BS I s2 f2])
  obtain⟨v1,v2,ot⟩:=st.ot
  refine OQ ap st.oz st.oi ot (st.q1.sit p1) (st.q2.sit p2) (x:=u1) (y:=u2) (by simpa using h1) (by simpa using h2) fun h' oz ot' q1 q2 op kp=>⟨_,rfl,wpAny_letOwnedTupleGo_zip oz fun g oz' sb=>?_⟩
  have lt:∀c o,s.heap.get? c=some o->c≠s.heap.objs.size:=fun c o q=>Nat.ne_of_lt (Heap.lt_size q)
  have nz:z≠s.heap.objs.size:=lt _ _ st.oz
  have nt:tt≠s.heap.objs.size:=lt _ _ ot
  have n1:j1≠s.heap.objs.size:=by obtain⟨o,e,_⟩:=(st.q1.sit p1).live;exact lt _ _ e
  have n2:j2≠s.heap.objs.size:=by obtain⟨o,e,_⟩:=(st.q2.sit p2).live;exact lt _ _ e
  have kp2:∀c o,c≠z->c≠tt->c≠j1->c≠j2->s.heap.get? c=some o->g.get? c=some o:=fun c o c1 c2 c3 c4 q=>(sb.2 c c1).trans (kp c o c1 c2 c3 c4 q)
  have fr:H s.heap.objs.size=none:=I.hok.fresh (Nat.le_refl _)
  have op2:g.get? s.heap.objs.size=some {cls:=.type "tuple",data:=.seq #[u1,u2]}:=(sb.2 _ (Ne.symm nz)).trans op
  have ne:∀c u,c∈ [z,ti,tt,j1,j2]->∀d,H d=some u->d≠c:=fun c u hc d q e=>by rw[e,(hf c hc).1]at q;cases q
  have kpH:∀c u,H c=some u->∀o,s.heap.get? c=some o->g.get? c=some o:=fun c u q o e=>kp2 c o (ne z u (by simp) c q) (ne tt u (by simp) c q) (ne j1 u (by simp) c q) (ne j2 u (by simp) c q) e
  have ka:∀o,s.heap.get? a=some o->g.get? a=some o:=fun o e=>kp2 a o (BS I s1 fz) (BS I s1 ft) (BS I s1 f1) (BS I s1 f2) e
  have kb:∀o,s.heap.get? b=some o->g.get? b=some o:=fun o e=>kp2 b o (BS I s2 fz) (BS I s2 ft) (BS I s2 f1) (BS I s2 f2) e
  have sq:∀{q:Bool} {d:Addr} {is:Array Value},J8 s.heap q d is->(∀o,s.heap.get? d=some o->h'.get? d=some o)->J8 h' q d is:=fun{q d is} x kd=>by
   cases q
   ·exact(show s.heap.IsList d is from x).at kd
   ·obtain⟨o,e,r⟩:=(show s.heap.IsTuple d is from x)
    exact⟨o,kd o e,r⟩
  have ka1:∀o,s.heap.get? a=some o->h'.get? a=some o:=fun o e=>kp a o (BS I s1 fz) (BS I s1 ft) (BS I s1 f1) (BS I s1 f2) e
  have kb1:∀o,s.heap.get? b=some o->h'.get? b=some o:=fun o e=>kp b o (BS I s2 fz) (BS I s2 ft) (BS I s2 f1) (BS I s2 f2) e
  refine⟨.ref s.heap.objs.size,upd H s.heap.objs.size (.tup [x,y]),?_,rfl,⟨_,x,y,fr,rfl,fun zs hz=>by rw[I.sqB_inj hz s1];exact e1,fun zs hz=>by rw[I.sqB_inj hz s2];exact e2,rfl⟩,⟨oz',(sb.2 _ N.n1).trans (kp ti _ N.n1 N.n5 N.n6 N.n7 st.oi),⟨_,_,(sb.2 _ N.n2).trans ot'⟩,(q1.jit (sq p1 ka1)).at fun o e=>(sb.2 _ N.n3).trans e,(q2.jit (sq p2 kb1)).at fun o e=>(sb.2 _ N.n4).trans e⟩,?_⟩
  ·show Inv X pins σ _ {s with heap:=g,gens:=s.gens,drawn:=s.drawn,toks:=s.toks}
   refine I.step (g':=s.gens) (d':=s.drawn) (ch:=[z,tt,j1,j2]) ?_ ?_ ?_ ?_ ?_ ?_ ?_ ?_ ?_ ?_ I.bare
   ·intro c hc
    have q:Nb X pins H c:=hf c (by simp only[List.mem_cons,List.not_mem_nil,or_false]at hc ⊢; rcases hc with z|z|z|z<;>simp[z])
    exact⟨q.2.2.2.1,q.2.1,q.2.2.2.2.1,q.2.2.2.2.2⟩
   ·exact fun c o _ _ hc q _=>by
     simp only[List.mem_cons,List.not_mem_nil,or_false,not_or]at hc
     exact kp2 c o hc.1 hc.2.1 hc.2.2.1 hc.2.2.2 q
   ·exact fun c o _ _ hc q _=>by
     simp only[List.mem_cons,List.not_mem_nil,or_false,not_or]at hc
     exact⟨o.slots,kp2 c o hc.1 hc.2.1 hc.2.2.1 hc.2.2.2 q⟩
   ·exact fun c o _ q n=>by rw[Al (lt c o q)];exact n
   ·exact fun c o hc q=>by
     simp only[List.mem_cons,List.not_mem_nil,or_false,not_or]at hc
     exact⟨o,kp2 c o hc.1 hc.2.1 hc.2.2.1 hc.2.2.2 q⟩
   ·exact fun c ys q=>by rw[Al (BJ q fr)];exact q
   ·exact fun c o u q=>by rw[Al (BJ q fr)];exact q
   ·exact fun c ps q=>⟨#[],by rw[Al (BJ q fr),q];simp⟩
   ·rintro mm ⟨o,es,ep,ho,r⟩
    exact⟨o,es,ep,kp2 _ o (Ne.symm fz.2.1) (Ne.symm ft.2.1) (Ne.symm f1.2.1) (Ne.symm f2.2.1) ho,r⟩
   ·intro c v q
    by_cases hb:c=s.heap.objs.size
    ·subst hb
     rw[BG]at q
     cases q
     exact⟨by show 2≤sizeLine;decide,[u1,u2],.cons ru1 (.cons ru2 .nil),⟨_,op2,rfl,0,rfl⟩⟩
    ·rw[Al hb]at q
     refine(I.hok c v q).stay (fun d o hd r=>?_) (fun d r=>by rw[Al (BJ r fr)];exact r) (fun d ys r=>by rw[Al (BJ r fr)];exact r)
     rcases hd with e|e
     ·rw[e]at r ⊢; exact kpH c v q o r
     ·exact kpH d _ e o r
  ·intro c hc
   have q:=hf c hc
   have:c≠s.heap.objs.size:=by
    simp only[List.mem_cons,List.not_mem_nil,or_false]at hc
    rcases hc with e|e|e|e|e
    ·rw[e];exact nz
    ·rw[e];exact lt _ _ st.oi
    ·rw[e];exact nt
    ·rw[e];exact n1
    ·rw[e];exact n2
   rw[Al this];exact q.1
 done:=by
  intro X hP hw hK hc i pins s σ H E I hf st hg
  subst hP hw hK
  obtain⟨xs,ys,s1,s2,e⟩:=hg
  obtain⟨i1,r1,p1⟩:=I.sqB s1
  obtain⟨i2,r2,p2⟩:=I.sqB s2
  have l1:=r1.length
  have l2:=r2.length
  have hh:X.A.in1.handled=none:=I.ok.hd hc
  have hh0:X.A.handled=none:=I.ok.hd hc
  have fz:=hf z (by simp);have fi:=hf ti (by simp);have ft:=hf tt (by simp);have f1:=hf j1 (by simp);have f2:=hf j2 (by simp)
  have ap:=N.apart (a:=a) (b:=b) (by simp[BS I s1 fz,BS I s1 ft,BS I s1 f1,BS I s1 f2]) (by simp[BS I s2 fz,BS I s2 ft,BS I s2 f1,BS I s2 f2])
  obtain⟨v1,v2,ot⟩:=st.ot
  refine Pr hh0 ap st.oz st.oi ot (st.q1.sit p1) (st.q2.sit p2) (by rcases e with e|e;exact .inl (by simp;omega);exact .inr (by simp;omega)) fun h' kp=>⟨rfl,?_⟩
  have ne:∀c u,c∈ [z,ti,tt,j1,j2]->∀d,H d=some u->d≠c:=fun c u hc d q e=>by rw[e,(hf c hc).1]at q;cases q
  show Inv X pins σ _ {s with heap:=h',gens:=s.gens,drawn:=s.drawn,toks:=s.toks}
  refine I.step (g':=s.gens) (d':=s.drawn) (ch:=[z,tt,j1,j2]) ?_ ?_ ?_ ?_ ?_ ?_ ?_ ?_ ?_ ?_ I.bare
  ·intro c hc
   have q:Nb X pins H c:=hf c (by simp only[List.mem_cons,List.not_mem_nil,or_false]at hc ⊢; rcases hc with z|z|z|z<;>simp[z])
   exact⟨q.2.2.2.1,q.2.1,q.2.2.2.2.1,q.2.2.2.2.2⟩
  ·exact fun c o _ _ hc q _=>by
    simp only[List.mem_cons,List.not_mem_nil,or_false,not_or]at hc
    exact kp c o hc.1 hc.2.1 hc.2.2.1 hc.2.2.2 q
  ·exact fun c o _ _ hc q _=>by
    simp only[List.mem_cons,List.not_mem_nil,or_false,not_or]at hc
    exact⟨o.slots,kp c o hc.1 hc.2.1 hc.2.2.1 hc.2.2.2 q⟩
  ·exact fun c o _ q n=>n
  ·exact fun c o hc q=>by
    simp only[List.mem_cons,List.not_mem_nil,or_false,not_or]at hc
    exact⟨o,kp c o hc.1 hc.2.1 hc.2.2.1 hc.2.2.2 q⟩
  ·exact fun c ys q=>q
  ·exact fun c o u q=>q
  ·exact fun c ps q=>⟨#[],by rw[q];simp⟩
  ·rintro mm ⟨o,es,ep,ho,r⟩
   exact⟨o,es,ep,kp _ o (Ne.symm fz.2.1) (Ne.symm ft.2.1) (Ne.symm f1.2.1) (Ne.symm f2.2.1) ho,r⟩
  ·intro c v q
   refine(I.hok c v q).stay (fun d o hd r=>?_) (fun d r=>r) (fun d ys r=>r)
   rcases hd with e|e
   ·rw[e]at r ⊢; exact kp c o (ne z v (by simp) c q) (ne tt v (by simp) c q) (ne j1 v (by simp) c q) (ne j2 v (by simp) c q) r
   ·exact kp d o (ne z _ (by simp) d e) (ne tt _ (by simp) d e) (ne j1 _ (by simp) d e) (ne j2 _ (by simp) d e) r
 self:=fun _ _ _ _ _ st h=>wpAny_pyIter_zip st.oz h
end L2
end
noncomputable section
namespace L2
open PySem PySem.Spec PyProof.Rows
theorem zne(n:Nat):ZNe (n+4) (n+2) (n+3) n (n+1):=⟨fun e=>by have:n+2=n+4:=e;omega,fun e=>by have:n+3=n+4:=e;omega,fun e=>by have:n=n+4:=e;omega,fun e=>by have:n+1=n+4:=e;omega,fun e=>by have:n+2=n+3:=e;omega,fun e=>by have:n+2=n:=e;omega,fun e=>by have:n+2=n+1:=e;omega,fun e=>by have:n+3=n:=e;omega,fun e=>by have:n+3=n+1:=e;omega,fun e=>by have:n=n+1:=e;omega⟩
section
variable{X:Cx}
noncomputable def bq(K:PySem.W.Frag)(ta:TA):TI:=fun σ H R=>ta σ H fun vs H1=>∃k a m b,vs=[.ref a,.ref b]/\(∃xs,SqB K H1 k a xs)/\(∃ys,SqB K H1 m b ys)/\R (Itz K k a m b) H1
theorem Xf{a b:Expr}{ta:TA}{p pos tp:Pos}{elts:List Expr}{n:Nat}(hg:Gl X "zip")(hm:X.mg "zip"=none)(ha:PA X [a,b] ta)(hs:starEach [a,b] X.env=[(false,eval a X.env),(false,eval b X.env)]:=by rfl)(hs2:starEach [b] X.env=[(false,eval b X.env)]:=by rfl):
  PI X (.Tuple elts n tp) (.Call (.Name "zip" p) [a,b] [] pos) (bq X.K ta):=by
 intro pins s σ H R I h
 refine Call_ (Ka I hg hm boot_zip (PyProof.Rows.callWith_type1 (thn (ha pos pins s σ H _ I h) fun us s1 ⟨vs,H1,I1,r1,q1⟩=>?_) (by rw[hs,hs2]) (by rw[hs2];rfl)))
 obtain⟨k,a',m,b',e,⟨xs,hq⟩,⟨ys,hr⟩,q⟩:=q1
 subst e
 obtain⟨u,v,rfl,ru,rv⟩:=r1.two
 cases (show u=Value.ref a' from ru)
 cases (show v=Value.ref b' from rv)
 obtain⟨i1,v1,p1⟩:=I1.sqB hq
 obtain⟨i2,v2,p2⟩:=I1.sqB hr
 refine PK p1 p2 fun h' oz oi ot q1 q2 kp=>wpAny_pyIter_zip (s:={s1 with heap:=h'}) oz ?_
 have sq:∀{q:Bool} {d:Addr} {is:Array Value},J8 s1.heap q d is->J8 h' q d is:=fun{q d is} x=>by
  cases q
  ·exact(show s1.heap.IsList d is from x).at fun o e=>kp _ o e
  ·obtain⟨o,e,r⟩:=(show s1.heap.IsTuple d is from x)
   exact⟨o,kp _ o e,r⟩
 refine⟨s1.heap.objs.size+4,[s1.heap.objs.size+4,s1.heap.objs.size+2,s1.heap.objs.size+3,s1.heap.objs.size,s1.heap.objs.size+1],_,_,H1,rfl,I1.kept (t':=s1.toks) kp,
  TZ k a' m b' _ _ _ _ _ (zne s1.heap.objs.size),⟨oz,oi,⟨_,_,ot⟩,q1.jit (sq p1),q2.jit (sq p2)⟩,fun c hc=>?_,q⟩
 simp only[List.mem_cons,List.not_mem_nil,or_false]at hc
 have:s1.heap.objs.size≤c:=by rcases hc with rfl|rfl|rfl|rfl|rfl<;>first|exact Nat.le_refl _|exact Nat.le_add_right _ _
 exact I1.fpOk this (I1.hok.fresh this)
end
end L2
end
noncomputable section
namespace L2
open PySem PySem.Spec PyProof.Rows
section
variable{prog:Program}{w:World}{A:Around}{E:Value->Shared->Prop}{s:Shared}
theorem IsList.at_ext{h h':Heap}{a:Addr}{items:Array Value}(p:h.IsList a items)(k:∀o,h.get? a=some o->h'.get? a=some o):h'.IsList a items:=by
 obtain⟨o,ho,r⟩:=p
 exact⟨o,k o ho,r⟩
theorem MT{it t:Addr}{items:Array Value}(hne:t≠it):∀(n i:Nat) (s:Shared) (Q:List Value->Shared->Prop),s.heap.IsListIter it t i->s.heap.IsList t items->i+n≤items.size->
    (∀h',h'.IsListIter it t (i+n)->Heap.SameBut it s.heap h'->Q ((items.toList.drop i).take n) {s with heap:=h'})->wpAny (model prog w) A (draw (.ref it) n) Q E s
  | 0, i, s, Q, hit, _, _, hQ => by
    show wpAny _ _ (pure []) Q E s
    exact wpAny_pure (by simpa using hQ s.heap hit (Heap.SameBut.refl ..))
  | n + 1, i, s, Q, hit, ht, hle, hQ => by
    have hlt:i<items.size:=by omega
    show wpAny _ _ (pyNext (.ref it) >>= _) Q E s
    refine wpAny_bind (wpAny_pyNext_list_item hit ht (x:=items[i]) (by simp[hlt]) fun h1 hit1 hs1=>?_)
    refine wpAny_bind (wpAny_holding (MT hne n (i+1) _ _ hit1 (IsList.at_ext ht fun o e=>hs1.extBut t o hne e) (by omega) fun h2 hit2 hs2=>wpAny_pure ?_))
    have hd:items.toList.drop i=items[i]::items.toList.drop (i+1):=by simp[List.drop_eq_getElem_cons,hlt]
    have:=hQ h2 (by rw[show i+(n+1)=i+1+n by omega];exact hit2) (hs1.trans hs2)
    rw[hd,List.take_succ_cons]at this
    exact this
theorem IF{t:Addr}{items:Array Value}{Q:List Value->Shared->Prop}(hh:A.handled=none)(ht:s.heap.IsList t items)(hty:s.TypeIs (.ref t) "list")
  (hQ:∀h',Heap.ExtBut s.heap.objs.size s.heap h'->Q items.toList {s with heap:=h'}):wpAny (model prog w) A (unpackItems (.ref t) items.size none) Q E s:=by
 have hlt:t≠s.heap.objs.size:=by obtain⟨o,ho,_⟩:=ht;exact Nat.ne_of_lt (Heap.lt_size ho)
 unfold unpackItems
 refine wpAny_bind ?_
 ·unfold notIterableAtAll
  refine wpAny_bind (wpAny_specialOf hty F.slot_list_iter.lookup ?_)
  refine wpAny_pure ?_
  simp only[Bool.false_eq_true,if_false]
  refine wpAny_bind (wpAny_holding (wpAny_pyIter_list ht ?_))
  refine wpAny_bind (wpAny_holding (MT hlt items.size 0 _ _ ⟨_,Heap.get?_push_size _ rfl,rfl,rfl⟩ (IsList.at_ext ht fun o e=>Heap.get?_push_of_some _ e) (by omega) fun h1 hit1 hs1=>?_))
  have hall:List.take items.size (List.drop 0 items.toList)=items.toList:=by
   rw[List.drop_zero];exact List.take_of_length_le (by simp)
  rw[hall]
  rw[if_neg (by simp)]
  have ht1:h1.IsList t items:=IsList.at_ext (IsList.at_ext ht fun o e=>Heap.get?_push_of_some _ e) fun o e=>hs1.extBut t o hlt e
  refine wpAny_bind (wpAny_holding (wpAny_pyNext_list_end hh hit1 ht1 (by simp) fun h2 he2=>?_))
  simp only[Option.isSome_none,Bool.false_eq_true,if_false]
  refine wpAny_pure (hQ h2 fun b o hb e=>he2 b o hb (hs1.extBut b o hb (Heap.get?_push_of_some _ e)))
theorem Hc{env:Env}{elts:List Expr}{x1}{pos:Pos}{t:Addr}{items:Array Value}{Q:Unit->Shared->Prop}(hh:A.handled=none)(ht:s.heap.IsList t items)(hty:s.TypeIs (.ref t) "list")
  (hn:(assignEach elts env).length=items.size) (hstar:(assignEach elts env).findIdx? (·.1)=none)
  (h:∀h',Heap.ExtBut s.heap.objs.size s.heap h'->wpAny (model prog w) A (assignInOrder ((assignEach elts env).map (·.2)) items.toList) Q E {s with heap:=h'}):
  wpAny (model prog w) A (assign (.Tuple elts x1 pos) env (.ref t)) Q E s:=by
 rw[PyProof.Rows.assign_Tuple]
 refine wpAny_bind (wpAny_standAt ?_)
 unfold unpack
 rw[hn,hstar]
 exact wpAny_bind (wpAny_holding (IF hh ht hty h))
end
section
variable{X:Cx}{pos:Pos}
noncomputable def bx(K:PySem.W.Frag)(n:Nat)(t:TGs):TG:=fun v σ H Q=>∃a xs,v=.ref a/\(SqT K H a xs∨H a=some (.lst xs))/\xs.length=n/\t xs σ H Q
theorem Wi{es:List Expr}{k:Nat}{t:TGs}{n:Nat}(hc:X.calm=true)(h:PGs X es t)
  (hn:(assignEach es X.env).length=n:=by rfl) (hst:(assignEach es X.env).findIdx? (·.1)=none:=by rfl):PG X (.Tuple es k pos) (bx X.K n t):=by
 intro pins s σ H v u Q I r hw
 obtain⟨a,xs,e1,hq,hl,hw⟩:=hw
 rcases hq with hq|hq
 ·exact XE hc h hn hst pins s σ H v u Q I r ⟨a,xs,e1,hq,hl,hw⟩
 ·subst e1
  cases r
  obtain⟨its,rv,p,hz⟩:=I.list (SqL.of hq)
  obtain⟨z,its2,m,rv2,_,e⟩:=I.lstM hq
  refine Hc (I.ok.hd hc) p.isList ⟨_,e,rfl⟩ (by simp[hn,←hl,rv.length]) hst fun h' hx=>?_
  have I1:Inv X pins σ H {s with heap:=h'}:=I.kept (t':=s.toks) fun b o e=>hx b o (Nat.ne_of_lt (Heap.lt_size e)) e
  exact h pins _ σ H xs _ Q I1 (by simpa using rv) hw
end
end L2
end
noncomputable section
namespace L2
open PySem PySem.Spec PyProof.Rows
theorem JIt.live{h:Heap}{k:Bool}{j l:Addr}{i:Nat}(q:JIt h k j l i):∃o,h.get? j=some o/\∀v,o.data≠.cell v:=by
 cases k with
 |true=>obtain⟨o,e,c,d⟩:=q;exact⟨o,e,fun v z=>by rw[d]at z;cases z⟩
 |false=>obtain⟨o,e,c,d⟩:=q;exact⟨o,e,fun v z=>by rw[d]at z;cases z⟩
theorem J8.mono{h h':Heap}{k:Bool}{l:Addr}{its:Array Value}(q:J8 h k l its)(e:∀o,h.get? l=some o->h'.get? l=some o):J8 h' k l its:=by
 cases k with
 |true=>obtain⟨o,ho,r⟩:=q;exact⟨o,e o ho,r⟩
 |false=>obtain⟨o,ho,r⟩:=q;exact⟨o,e o ho,r⟩
theorem QT{prog:Program}{w:World}{A:Around}(hh:A.handled=none)(it t:Addr)(hne:t≠it)(items:Array Value):
  Draws prog w A it [it,t] items.size (fun i v=>items[i]?=some v) (fun i h=>SIt h it t i items) where
 live:=fun _ _ st=>let⟨o,ho,_⟩:=st.live;⟨o,ho⟩
 frame:=fun _ _ _ st hk=>st.at (fun o e=>hk it (by simp) o e) fun o e=>hk t (by simp) o e
 item:=fun i s Q E hi st hQ=>IQ st (x:=items[i]) (by simp[hi]) fun h' a b=>hQ _ h' s.toks (by simp[hi]) a b
 done:=fun s Q E st hE=>IW hh st (by simp) hE
noncomputable def ItE(K:PySem.W.Frag)(kk:Bool)(a:Addr):It:=
 ⟨fun i H=>∃xs x,SqB K H kk a xs/\xs[i]?=some x,fun i H x H'=>∃p y,H p=none/\x=.ref p/\(∀xs,SqB K H kk a xs->xs[i]?=some y)/\H'=upd H p (.tup [.int i,y]),fun i H=>∃xs,SqB K H kk a xs/\xs.length≤i⟩
theorem Oe {P : Program} {w : World} {K : PySem.W.Frag} {elts : List Expr} {k : Nat} {pos : Pos} (kk : Bool) (a e it : Addr) (hei : e ≠ it) : Turn P w K (.Tuple elts k pos) (ItE K kk a) [e, it] e (fun i h => (∃ old, IsEnum h e it i old) /\ JIt h kk it a i) where
  mem:=by simp
  obj:=fun i h st b hb=>by
    obtain⟨⟨old,h1⟩,st2⟩:=st
    obtain⟨o,h2,h4⟩:=st2.live
    simp only[List.mem_cons,List.not_mem_nil,or_false]at hb
    rcases hb with rfl|rfl
    ·exact⟨_,h1,fun v z=>nomatch z⟩
    ·exact⟨o,h2,h4⟩
  keep:=fun i h h' st k=>by
    obtain⟨⟨old,h1⟩,h2⟩:=st
    exact⟨⟨old,k e (by simp) _ h1⟩,h2.at fun o q=>k it (by simp) o q⟩
  item := by
    intro X hP hw hK hc i pins s σ H E I hf st hg
    subst hP hw hK
    obtain⟨xs,x,hq,hx⟩:=hg
    obtain⟨its,rv,p⟩:=I.sqB hq
    obtain⟨u,hu,ru⟩:=rv.get hx
    obtain⟨⟨old,h1⟩,h2⟩:=st
    obtain⟨oi,hi1,hi2⟩:=h2.live
    have hea:a≠e:=BS I hq (hf e (by simp))
    have hia:a≠it:=BS I hq (hf it (by simp))
    have hil:i<its.toArray.size:=by
      have:=(List.getElem?_eq_some_iff.mp hu).1
      simpa using this
    have hh:X.A.in1.handled=none:=I.ok.hd hc
    have D:=QT (prog:=X.prog) (w:=X.w) hh it a hia its.toArray
    refine wpAny_pyNext_enum_itemD D h1 (h2.sit p) hil hei (by simp[hei,Ne.symm hea]) ?_
    intro y h' tk hy out st' tup size kept
    have ey:y=u:=by
      have:its[i]?=some y:=by simpa using hy
      rw[hu]at this
      exact(Option.some.inj this).symm
    subst ey
    refine⟨_,rfl,wpAny_letOwnedTupleGo_enum out fun h'' en sb=>?_⟩
    have hfe:=hf e (by simp)
    have hfi:=hf it (by simp)
    have lt:∀b o,s.heap.get? b=some o->b≠s.heap.objs.size:=fun b o q=>Nat.ne_of_lt (Heap.lt_size q)
    have kept2:∀b o,b≠e->b≠it->s.heap.get? b=some o->h''.get? b=some o:=fun b o b1 b2 q=>(sb.2 b b1).trans (kept b o b1 b2 q)
    have fr:H s.heap.objs.size=none:=I.hok.fresh (Nat.le_refl _)
    have tup2:h''.get? s.heap.objs.size=some {cls:=.type "tuple",data:=.seq #[.int i tk,y]}:=(sb.2 _ (Ne.symm (lt e _ h1))).trans tup
    have ne1:∀b u,H b=some u->b≠e:=fun b u q z=>by rw[z,hfe.1]at q;cases q
    have ne2:∀b u,H b=some u->b≠it:=fun b u q z=>by rw[z,hfi.1]at q;cases q
    refine⟨.ref s.heap.objs.size,upd H s.heap.objs.size (.tup [.int i,x]),?_,rfl,⟨_,x,fr,rfl,fun ys hys=>by rw[I.sqB_inj hys hq];exact hx,rfl⟩,⟨⟨y,en⟩,?_⟩,?_⟩
    · show Inv X pins σ _ { s with heap := h'', gens := s.gens, drawn := s.drawn, toks := tk + 1 }
      refine I.step (g':=s.gens) (d':=s.drawn) (ch:=[e,it]) ?_ ?_ ?_ ?_ ?_ ?_ ?_ ?_ ?_ ?_ I.bare
      · intro b hb
        simp only[List.mem_cons,List.not_mem_nil,or_false]at hb
        rcases hb with rfl|rfl
        ·exact⟨hfe.2.2.2.1,hfe.2.1,hfe.2.2.2.2.1,hfe.2.2.2.2.2⟩
        ·exact⟨hfi.2.2.2.1,hfi.2.1,hfi.2.2.2.2.1,hfi.2.2.2.2.2⟩
      ·exact fun b o _ _ hc q _=>kept2 b o (fun z=>hc (by simp[z])) (fun z=>hc (by simp[z])) q
      ·exact fun b o _ _ hc q _=>⟨o.slots,kept2 b o (fun z=>hc (by simp[z])) (fun z=>hc (by simp[z])) q⟩
      ·exact fun b o _ q n=>by rw[Al (lt b o q)];exact n
      ·exact fun b o hc q=>⟨o,kept2 b o (fun z=>hc (by simp[z])) (fun z=>hc (by simp[z])) q⟩
      ·exact fun b ys q=>by rw[Al (BJ q fr)];exact q
      ·exact fun b o u q=>by rw[Al (BJ q fr)];exact q
      ·exact fun b ps q=>⟨#[],by rw[Al (BJ q fr),q];simp⟩
      · rintro m ⟨o, es, ep, ho, r⟩
        exact⟨o,es,ep,kept2 _ o (Ne.symm hfe.2.1) (Ne.symm hfi.2.1) ho,r⟩
      · intro b v q
        by_cases hb:b=s.heap.objs.size
        · subst hb
          rw[BG]at q
          cases q
          exact⟨by show 2≤sizeLine;decide,[.int i tk,y],.cons ⟨tk,rfl⟩ (.cons ru .nil),⟨_,tup2,rfl,0,rfl⟩⟩
        · rw [Al hb] at q
          refine(I.hok b v q).stay (fun c z hc r=>kept2 c z ?_ ?_ r) (fun c r=>by rw[Al (BJ r fr)];exact r) (fun c ys r=>by rw[Al (BJ r fr)];exact r)
          · rcases hc with z | z
            ·rw[z];exact ne1 b v q
            ·exact ne1 c _ z
          · rcases hc with z | z
            ·rw[z];exact ne2 b v q
            ·exact ne2 c _ z
    · have pa : J8 h'' kk a its.toArray := p.mono fun o q => kept2 a o hea hia q
      exact(st'.at (fun o q=>(sb.2 it (Ne.symm hei)).trans q) fun o q=>(sb.2 a hea).trans q).jit pa
    · intro b hb
      simp only[List.mem_cons,List.not_mem_nil,or_false]at hb
      rcases hb with rfl|rfl
      ·rw[Al (lt b _ h1)];exact hfe.1
      ·rw[Al (lt b _ hi1)];exact hfi.1
  done := by
    intro X hP hw hK hc i pins s σ H E I hf st hg
    subst hP hw hK
    obtain⟨xs,hq,hx⟩:=hg
    obtain⟨its,rv,p⟩:=I.sqB hq
    obtain⟨⟨old,h1⟩,h2⟩:=st
    have hl:=rv.length
    have hh:X.A.in1.handled=none:=I.ok.hd hc
    obtain⟨f0,f1,f2,f3,f4,f5⟩:=hf it (by simp)
    have D:Draws X.prog X.w X.A.in1 it [it,a] i (fun _ _=>True) (fun j h=>j=i/\SIt h it a i its.toArray):=
      { live := fun _ _ st => let ⟨o, ho, _⟩ := st.2.live; ⟨o, ho⟩
        frame:=fun _ _ _ st hk=>⟨st.1,st.2.at (fun o e=>hk it (by simp) o e) fun o e=>hk a (by simp) o e⟩
        item:=fun j s Q E hj st _=>absurd st.1 (Nat.ne_of_lt hj)
        done:=fun s Q E st hE=>IW hh st.2 (by simp;omega) hE}
    exact wpAny_pyNext_enum_endD D h1 ⟨rfl,h2.sit p⟩ fun h' eb=>⟨rfl,I.turned (t':=s.toks) (fun b o hb q=>eb b o hb q) f0 f1 f3 f4 f5⟩
  self:=fun _ _ _ _ _ st h=>by
    obtain⟨⟨old,h1⟩,_⟩:=st
    exact wpAny_pyIter_enum h1 h
section
variable{X:Cx}
noncomputable def WU(K:PySem.W.Frag)(ta:TA):TI:=fun σ H R=>ta σ H fun vs H1=>∃kk a,vs=[.ref a]/\(∃xs,SqB K H1 kk a xs)/\R (ItE K kk a) H1
theorem SA{a:Expr}{ta:TA}{p pos tp:Pos}{elts:List Expr}{k:Nat}(hg:Gl X "enumerate")(hm:X.mg "enumerate"=none)(ha:PA X [a] ta)(hs:starEach [a] X.env=[(false,eval a X.env)]:=by rfl):
  PI X (.Tuple elts k tp) (.Call (.Name "enumerate" p) [a] [] pos) (WU X.K ta):=by
 intro pins s σ H R I h
 refine Call_ (Ka I hg hm boot_enumerate (callWith_type1 (thn (ha pos pins s σ H _ I h) fun us s1 ⟨vs,H1,I1,r1,q1⟩=>?_) hs rfl))
 obtain⟨kk,b,e,⟨xs,hq⟩,q⟩:=q1
 subst e
 obtain⟨u,rfl,ru⟩:=r1.one
 cases (show u=Value.ref b from ru)
 obtain⟨its,rv,pt⟩:=I1.sqB hq
 have fin:∀h':Heap,IsEnum h' (s1.heap.objs.size+1) s1.heap.objs.size 0 .none->JIt h' kk s1.heap.objs.size b 0->(∀b o,s1.heap.get? b=some o->h'.get? b=some o)->wpAny (model X.prog X.w) X.A (pyIter (.ref (s1.heap.objs.size+1))) (PIE X pins σ (.Tuple elts k tp) R) X.xe {s1 with heap:=h'}:=fun h' en it kp=>by
  refine wpAny_pyIter_enum (s:={s1 with heap:=h'}) en ?_
  refine⟨s1.heap.objs.size+1,[s1.heap.objs.size+1,s1.heap.objs.size],_,_,H1,rfl,I1.kept (t':=s1.toks) kp,Oe kk b (s1.heap.objs.size+1) s1.heap.objs.size (Nat.succ_ne_self _),⟨⟨_,en⟩,it⟩,fun c hc=>?_,q⟩
  simp only[List.mem_cons,List.not_mem_nil,or_false]at hc
  rcases hc with rfl|rfl
  ·exact I1.fpOk (by omega) (I1.hok.fresh (by omega))
  ·exact I1.fpOk (Nat.le_refl _) (I1.hok.fresh (Nat.le_refl _))
 cases kk with
 |true=>exact OK (show s1.heap.IsTuple b its.toArray from pt) fun h' en it kp=>fin h' en it kp
 |false=>exact call_enumerate_list (show s1.heap.IsList b its.toArray from pt) fun h' en it _ kp=>fin h' en it kp
end
end L2
end
noncomputable section
namespace L2
open PySem PySem.Spec PyProof.Rows PySem.SeqAt
open AutoSeq1 (wpAny_loadPart')
open MeetsSeq
abbrev Iq(dt:PySem.Data)(dd:Option Addr)(sl:Array (Option Value)):Obj:={cls:=.type "dict",dict:=dd,data:=dt,slots:=sl}
theorem L6(l:Addr)(dt:PySem.Data)(dd:Option Addr)(sl:Array (Option Value))(b:Int)(u:Tok):
  Meets (Builtin.«dict.__eq__» ⟨[.ref l,.int b u],[]⟩) (fun _ R s=>s.heap.get? l=some (Iq dt dd sl)/\R (.ok (.ret .notImplemented)) s):=
 .of_wp fun prog w A R s h=>by obtain⟨hp,g,d,tk,os⟩:=s;obtain⟨hl,h⟩:=h;have f1:=F.sub_int_dict;wp_walk using wpAny_loadPart' hl;exact⟨_,rfl,h⟩
theorem Ho(T:String)(l b:Addr)(dt:PySem.Data)(dd:Option Addr)(sl:Array (Option Value))(ob:Obj)(hT:ob.cls=.type T)(hs:isSubtype (.type T) (.type "dict")=pure false):
  Meets (Builtin.«dict.__eq__» ⟨[.ref l,.ref b],[]⟩) (fun _ R s=>s.heap.get? l=some (Iq dt dd sl)/\s.heap.get? b=some ob/\R (.ok (.ret .notImplemented)) s):=
 .of_wp fun prog w A R s h=>by
  obtain⟨hp,g,d,tk,os⟩:=s;obtain⟨hl,hb,h⟩:=h
  obtain⟨oc,od,odt,osl⟩:=ob
  simp only at hT
  subst hT
  wp_walk using wpAny_loadPart' hl,wpAny_loadPart' hb
  exact⟨_,rfl,h⟩
theorem MG(b:Int)(u:Tok)(l:Addr)(dt:PySem.Data)(dd:Option Addr)(sl:Array (Option Value)):
  Meets (Builtin.«int.__eq__» ⟨[.int b u,.ref l],[]⟩) (fun _ R s=>s.heap.get? l=some (Iq dt dd sl)/\(∃es ep,dt=.dict es ep)/\R (.ok (.ret .notImplemented)) s):=
 .of_wp fun prog w A R s h=>by
  obtain⟨hp,g,d,tk,os⟩:=s;obtain⟨hl,⟨es,ep,rfl⟩,h⟩:=h
  wp_walk using wpAny_loadPart' hl,wpAny_load hl
  exact⟨_,rfl,h⟩
theorem K7(l b:Addr)(items:Array Value)(n:Nat)(dd:Option Addr)(sl:Array (Option Value))(dt:PySem.Data)(dd2:Option Addr)(sl2:Array (Option Value)):
  Meets (Builtin.«list.__eq__» ⟨[.ref l,.ref b],[]⟩) (fun _ R s=>s.heap.get? l=some {cls:=.type "list",dict:=dd,data:=.seq items n,slots:=sl}/\s.heap.get? b=some (Iq dt dd2 sl2)/\R (.ok (.ret .notImplemented)) s):=
 .of_wp fun prog w A R s h=>by obtain⟨hp,g,d,tk,os⟩:=s;obtain⟨hl,hb,h⟩:=h;have f1:=F.sub_dict_list;wp_walk using wpAny_loadPart' hl,wpAny_loadPart' hb;exact⟨_,rfl,h⟩
theorem Jj(l b:Addr)(items:Array Value)(n:Nat)(dd:Option Addr)(sl:Array (Option Value))(dt:PySem.Data)(dd2:Option Addr)(sl2:Array (Option Value)):
  Meets (Builtin.«tuple.__eq__» ⟨[.ref l,.ref b],[]⟩) (fun _ R s=>s.heap.get? l=some {cls:=.type "tuple",dict:=dd,data:=.seq items n,slots:=sl}/\s.heap.get? b=some (Iq dt dd2 sl2)/\R (.ok (.ret .notImplemented)) s):=
 .of_wp fun prog w A R s h=>by obtain⟨hp,g,d,tk,os⟩:=s;obtain⟨hl,hb,h⟩:=h;have f1:=F.sub_dict_tuple;wp_walk using wpAny_loadPart' hl,wpAny_loadPart' hb;exact⟨_,rfl,h⟩
section
variable{A:Around}{s:Shared}{l:Addr}{es:Array DictEntry}{ep:Nat}{dd:Option Addr}{sl:Array (Option Value)}
theorem NL(b:Int)(u:Tok)(ho:s.heap.get? l=some (Iq (.dict es ep) dd sl))(hu:A.units<cLine):RcAt A s (.ref l) (.int b u) false:=fun prog w E Q h=>
 rc_eq_decline_or (k:=false) ⟨_,ho,rfl⟩ (typeIs_int s b u) (by decide) F.sub_int_dict F.slot_dict_eq F.slot_int_eq_refl
  (fun _ hq=>call_meets F.slot_dict_eq ⟨_,ho,rfl⟩ F.entry_dict_eq (F.args_dict_eq_2 _ _) (L6 l _ dd sl b u) ⟨ho,hq⟩)
  (fun _ hq=>call_meets F.slot_int_eq_refl (typeIs_int s b u) F.entry_int_eq (F.args_int_eq_2 _ _) (MG b u l _ dd sl) ⟨ho,⟨_,_,rfl⟩,hq⟩)
  (fun _ hq=>wpAny_of_eq (rfl:isSame (.ref l) (.int b u)=pure false) hq) (.inr hu) h
theorem Lx{b:Addr}{items:Array Value}(ho:s.heap.get? l=some (Iq (.dict es ep) dd sl))(hb:s.heap.IsList b items)(hu:A.units<cLine):RcAt A s (.ref l) (.ref b) false:=fun prog w E Q h=>by
 obtain⟨⟨cls,dd2,data,sl2⟩,ho2,hc,n,hd⟩:=id hb
 simp only at hc hd
 subst hc hd
 have hne:l≠b:=fun e=>by subst e;rw[ho]at ho2;exact absurd (congrArg Obj.cls (Option.some.inj ho2)) (by simp[Iq])
 exact rc_eq_decline_or (k:=false) ⟨_,ho,rfl⟩ ⟨_,ho2,rfl⟩ (by decide) F.sub_list_dict F.slot_dict_eq F.slot_list_eq_refl
  (fun _ hq=>call_meets F.slot_dict_eq ⟨_,ho,rfl⟩ F.entry_dict_eq (F.args_dict_eq_2 _ _) (Ho "list" l b _ dd sl _ rfl F.sub_list_dict) ⟨ho,ho2,hq⟩)
  (fun _ hq=>call_meets F.slot_list_eq_refl ⟨_,ho2,rfl⟩ F.entry_list_eq (F.args_list_eq_2 _ _) (K7 b l items n dd2 sl2 _ dd sl) ⟨ho2,ho,hq⟩)
  (fun _ hq=>wpAny_isSame_ref_other' hne ho ho2 (by simp) hq) (.inr hu) h
theorem K9{b:Addr}{items:Array Value}(ho:s.heap.get? l=some (Iq (.dict es ep) dd sl))(hb:s.heap.IsTuple b items)(hu:A.units<cLine):RcAt A s (.ref l) (.ref b) false:=fun prog w E Q h=>by
 obtain⟨⟨cls,dd2,data,sl2⟩,ho2,hc,n,hd⟩:=id hb
 simp only at hc hd
 subst hc hd
 have hne:l≠b:=fun e=>by subst e;rw[ho]at ho2;exact absurd (congrArg Obj.cls (Option.some.inj ho2)) (by simp[Iq])
 exact rc_eq_decline_or (k:=false) ⟨_,ho,rfl⟩ ⟨_,ho2,rfl⟩ (by decide) F.sub_tuple_dict F.slot_dict_eq F.slot_tuple_eq_refl
  (fun _ hq=>call_meets F.slot_dict_eq ⟨_,ho,rfl⟩ F.entry_dict_eq (F.args_dict_eq_2 _ _) (Ho "tuple" l b _ dd sl _ rfl F.sub_tuple_dict) ⟨ho,ho2,hq⟩)
  (fun _ hq=>call_meets F.slot_tuple_eq_refl ⟨_,ho2,rfl⟩ F.entry_tuple_eq (F.args_tuple_eq_2 _ _) (Jj b l items n dd2 sl2 _ dd sl) ⟨ho2,ho,hq⟩)
  (fun _ hq=>wpAny_isSame_ref_other hne ho ho2 (by simp) hq) (.inr hu) h
end
end L2
end
noncomputable section
namespace St
open PySem PySem.Spec L2 PyProof.Rows
inductive Kd where
 |non|bl|int|str|tup|lst|dct
 deriving DecidableEq
noncomputable def Kd.ty:Kd->String
 | .non=>"NoneType" | .bl=>"bool" | .int=>"int" | .str=>"str" | .tup=>"tuple" | .lst=>"list" | .dct=>"dict"
noncomputable def Kd.isA:Kd->String->Bool
 | .bl,"bool"=>true| .bl,"int"=>true| .int,"int"=>true| .str,"str"=>true| .tup,"tuple"=>true| .lst,"list"=>true| .dct,"dict"=>true
 |_,_=>false
section
variable{K:PySem.W.Frag}
theorem V2(k:Kd):PySem.W.kitOne K (.type k.ty) (.type "int")=some (k.isA "int"):=by
 cases k<;>first|rfl|(unfold PySem.W.kitOne;rfl)
theorem SQ(k:Kd):PySem.W.kitOne K (.type k.ty) (.type "bool")=some (k.isA "bool"):=by
 cases k<;>rfl
theorem kit_tuple(k:Kd):PySem.W.kitOne K (.type k.ty) (.type "tuple")=some (k.isA "tuple"):=by
 cases k<;>rfl
theorem VU(k:Kd):PySem.W.kitOne K (.type k.ty) (.type "str")=some (k.isA "str"):=by
 cases k<;>rfl
end
structure Dfn(P:Program)(w:World)(K:PySem.W.Frag)(mg:Str->Option Value)(base:Heap)(x:Str)(k:Nat)(ps:List Str)(sp:Sp):Prop where
 ex:∃f fd,mg x=some (.ref f)/\PySem.W.keepIn K (.ref f)=true/\Binds K fd ps []/\Ml P w K mg base CX0 k f fd ps sp
structure Src(K:PySem.W.Frag)(mg:Str->Option Value)(x:Str)(st:Stmt):Prop where
 ex:∃f fd,Fun K x x st f fd/\mg x=some (.ref f)
theorem Zp{X:Cx}{k:Nat}{x:Str}{ps:List Str}{sp:Sp}{e:Expr}{es:List Expr}{t:TA}{p pos:Pos}(d:Dfn X.prog X.w X.K X.mg X.base x k ps sp)(hr:KQ k X.A)(hg:Gl X x)(ha:PA X (e::es) t)
  (hdb:(x==("__debug__":Str))=false:=by decide) (he:starEach (e::es) X.env=(false,eval e X.env)::starEach es X.env:=by rfl) (hpl:(backTo pos (starEach es X.env)).any (·.1)=false:=by rfl):
  PE X (.Call (.Name x p) (e::es) [] pos) (Us sp [] E0 t):=by
 obtain⟨f,fd,a,b,c,F⟩:=d.ex
 exact Vx F hr hg a b c .nil Zd ha hdb he hpl
section
variable{X:Cx}
theorem V4{n:Nat}(h:n<2^8000):n.log2<9000:=by
 by_cases h0:n=0
 ·subst h0;decide
 ·exact Nat.lt_trans ((Nat.log2_lt h0).mpr h) (by decide)
theorem Rv:OpR X (binaryOp .FloorDiv) (rI (fun _ j=>0<j/\j.natAbs<2^8000) fun i j=>.int (i / j)):=opI fun i j _ _ _ _ _ hc q=>by
 have h1:(0:Int)<j:=hc.1
 exact floordiv_int (by omega) (by rw[Int.fdiv_eq_ediv_of_nonneg i (by omega)];exact q) (.inl (PyProof.noPylong_of_log2 (V4 hc.2)))
theorem J9{prog:Program}{w:World}{A:Around}(hh:A.handled=none){a it:Addr}(hne:a≠it){vs:List Value}:Walks prog w A it [it,a] [it] vs.length (fun i v=>vs[i]?=some v) (fun i h=>h.IsListIter it a i/\h.IsList a vs.toArray) where
 sub:=fun b hb=>by simp at hb;simp[hb]
 frame:=fun i h h' st k=>⟨st.1.at fun o e=>k it (by simp) o e,by
  obtain⟨o,ho,r⟩:=st.2
  exact⟨o,k a (by simp) o ho,r⟩⟩
 item:=fun i s Q E hi st hQ=>by
  refine wpAny_pyNext_list_item st.1 st.2 (x:=vs[i]) (by simp[hi]) fun h' st' sb=>?_
  refine hQ _ h' s.toks (by simp[hi]) ⟨st',?_⟩ fun b o hb e=>(sb.2 b (by simpa using hb)).trans e
  obtain⟨o,ho,r⟩:=st.2
  exact⟨o,(sb.2 a hne).trans ho,r⟩
 done:=fun s Q E st hQ=>wpAny_pyNext_list_end hh st.1 st.2 (by simp) fun h' eb=>hQ h' s.toks fun b o hb e=>eb b o (by simpa using hb) e
 self:=fun i s Q E st hQ=>wpAny_pyIter_listiter st.1 hQ
theorem Pf (hc : X.calm = true) : Di X (.builtin "all") (fun xs H Q => ∃ (p : Addr) (bs : List Bool), xs = [.ref p] /\ SqL X.K H p (bs.map V.bl) /\ Q (.bl (bs.all id)) H) := by
  intro pins s σ H xs us Q I r h
  obtain⟨p,bs,rfl,hp,q⟩:=h
  obtain⟨u,rfl,ru⟩:=r.one
  cases (show u=Value.ref p from ru)
  obtain⟨its,rv,pl,hz⟩:=I.list hp
  have hd:X.A.in1.handled=none:=I.ok.hd hc
  refine call_all_walk (wpAny_pyIter_list pl.isList ?_)
  have hlen:bs.length=its.length:=by have:=rv.length;simpa using this
  have hpl:=pl.isList
  have hne:p≠s.heap.objs.size:=by
    obtain⟨o,ho,_⟩:=hpl
    exact Nat.ne_of_lt (Heap.lt_size ho)
  refine⟨s.heap.objs.size,_,_,its.length,_,_,fun i=>bs.getD i true,rfl,J9 (vs:=its) hd hne,⟨⟨_,Heap.get?_push_size _ rfl,rfl,rfl⟩,?_⟩,?_,?_⟩
  · obtain ⟨o, ho, r⟩ := hpl
    exact⟨o,Heap.get?_push_of_some _ ho,r⟩
  · intro i v s' Q' E' hv hq
    have hi:i<its.length:=(List.getElem?_eq_some_iff.mp hv).1
    have hb:(bs.map V.bl)[i]?=some (.bl (bs.getD i true)):=by
      rw[List.getElem?_map,List.getElem?_eq_getElem (by omega)]
      simp[List.getD_eq_getElem?_getD,List.getElem?_eq_getElem (show i<bs.length by omega)]
    obtain⟨u,hu,ru⟩:=rv.get hb
    rw[hv]at hu
    cases hu
    cases (show v=Value.bool _ from ru)
    exact wpAny_truthy_bool hq
  · intro h' tk hk
    have e : (List.range its.length).all (fun i => bs.getD i true) = bs.all id := by
      rw[←hlen]
      clear q hp rv hlen
      have : ∀ (l : List Bool), (List.range l.length).all (fun i => l.getD i true) = l.all id := by
        intro l
        induction l with
        |nil=>rfl
        | cons b l ih =>
          rw[List.length_cons,List.range_succ_eq_map,List.all_cons,List.all_map,List.all_cons,←ih]
          rfl
      exact this bs
    rw[e]
    exact⟨.bl _,H,I.kept (t':=tk) fun b o eb=>hk b o (by simp;exact Nat.ne_of_lt (Heap.lt_size eb)) (Heap.get?_push_of_some _ eb),rfl,q⟩
theorem TC{ns:List Int}{j:Nat}(h:j<ns.length):(ns.take (j+1)).sum=(ns.take j).sum+ns.getD j 0:=by
 have e:ns.getD j 0=ns[j]:=by simp[List.getD_eq_getElem?_getD,List.getElem?_eq_getElem h]
 rw[List.take_succ,List.getElem?_eq_getElem h,List.sum_append,e]
 show _+(ns[j]+0)=_
 omega
theorem JF{ns:List Int}:∀{j:Nat},j≤ns.length->preSum (fun i=>ns.getD i 0) j=(ns.take j).sum
  |0,_=>by simp[preSum]
  | j + 1, h => by
    rw[preSum,JF (by omega),TC (by omega)]
theorem Pu{ns:List Int}(h:∀n∈ns,0≤n/\n≤1000000):0≤ns.sum/\ns.sum≤1000000*ns.length:=by
  induction ns with
  |nil=>simp
  | cons a l ih =>
    have h1:=h a (by simp)
    have h2:=ih fun n hn=>h n (by simp[hn])
    rw[List.sum_cons,List.length_cons]
    have:((l.length+1:Nat):Int)=(l.length:Int)+1:=by omega
    omega
end
section
variable{prog:Program}{w:World}{A:Around}{E:Value->Shared->Prop}{s:Shared}
theorem HS{t sl:Addr}{items:Array Value}{vl vu:Value}{lo hi:Option Int}{Q:Value->Shared->Prop}(ht:IsTup s.heap t items)(hs:s.heap.IsSliceOf sl vl vu .none)(pl:IsPart vl lo)(pu:IsPart vu hi)
  (hw:HT.sIx items.size 0 lo=0/\HT.sIx items.size items.size hi=items.size)
  (h:Q (.ref t) s):wpAny (model prog w) A (getItem (.ref t) (.ref sl)) Q E s:=by
 obtain⟨os,hos,hcs,hds⟩:=id hs
 have hTs:s.TypeIs (.ref sl) "slice":=⟨os,hos,hcs⟩
 unfold getItem
 try with_reducible refine wpAny_holding ?_
 first|refine wpAny_bind (wpAny_pure ?_)|skip
 refine wpAny_bind (wpAny_sequenceKey ht.typeIs (by decide) ?_)
 refine wpAny_bind (wpAny_callSpecial?_slot (name:=Str.ofString "__getitem__") ht.typeIs PyProof.Rows.slot_tuple_getitem
  (wpAny_call_entry PyProof.Rows.slot_tuple_getitem ht.typeIs entry_tuple_getitem ?_ (args_tuple_getitem _ _)))
 show wpAny _ _ (Builtin.Tuple.tupleItemsOf (.ref t) >>= _) _ _ s
 refine wpAny_bind (tupleItemsOf_ ht ?_)
 refine wpAny_bind (wpAny_typeOf hTs ?_)
 rw[if_pos (by decide)]
 refine wpAny_bind (HT.FO hs pl pu ?_)
 show wpAny _ _ (if(((HT.sIx items.size 0 lo:Nat):Int)==0 && (1:Int)==1 && (HT.sIx items.size items.size hi-HT.sIx items.size 0 lo)==items.size)=true then _ else _) _ _ s
 rw[if_pos (by rw[hw.1,hw.2];simp)]
 unfold Builtin.Tuple.tupleIsExact
 refine wpAny_bind (wpAny_bind (wpAny_typeOf ht.typeIs (wpAny_pure ?_)))
 rw[if_pos (by decide)]
 exact wpAny_bind (wpAny_rule (wpAny_pure ⟨_,rfl,wpAny_pure h⟩))
end
section
variable{X:Cx}
def cM(K:PySem.W.Frag):V->Option Int->Option Int->Hp->VK->Prop:=fun x lo hi H Q=>∃a xs,x=.ref a/\SqT K H a xs/\HT.sIx xs.length 0 lo=0/\HT.sIx xs.length xs.length hi=xs.length/\Q x H
theorem WN:SlR X (cM X.K):=by
 intro pins s σ H x v vl vu lo hi sl Q I rx hs pl pu h
 obtain⟨a,xs,rfl,hx,h1,h2,q⟩:=h
 cases rx
 obtain⟨its,r,ht,hz⟩:=I.tuple hx
 have hlen:its.toArray.size=xs.length:=by rw[List.size_toArray];exact r.length.symm
 refine⟨"tuple",_,PyProof.Rows.slot_tuple_getitem.lookup,ht.typeIs,?_⟩
 exact HS ht hs pl pu (by rw[hlen];exact⟨h1,h2⟩) ⟨.ref a,H,I,rfl,q⟩
noncomputable def ZP(K:PySem.W.Frag):R2:=fun x y H Q=>∃a b ys,x=.ref a/\y=.ref b/\SqT K H a []/\SqT K H b ys/\Q (.ref b) H
theorem Vt:OpR X (binaryOp .Add) (ZP X.K):=by
 intro pins s σ H x y v u Q I rx ry h
 obtain⟨a,b,ys,rfl,rfl,ha,hb,q⟩:=h
 cases rx
 cases ry
 obtain⟨its,r1,p1,_⟩:=I.tuple ha
 obtain⟨its2,r2,p2,_⟩:=I.tuple hb
 have e0:its=[]:=r1.nil_iff.mpr rfl
 subst e0
 obtain⟨⟨cls,dd,data,sl⟩,ho,hc,n,hd⟩:=id p1
 obtain⟨⟨cls2,dd2,data2,sl2⟩,ho2,hc2,n2,hd2⟩:=id p2
 simp only at hc hd hc2 hd2
 subst hc hd hc2 hd2
 exact concat_meets ⟨_,ho,rfl⟩ ⟨_,ho2,rfl⟩ noFill_tuple_add seq_tuple_add PySem.F.slot_tuple_add PySem.F.entry_tuple_add (PySem.F.args_tuple_add_2 _ _)
   (tuple_addW0 a b #[] its2.toArray n n2 dd dd2 sl sl2 rfl) ⟨ho,ho2,⟨.ref b,H,I,rfl,q⟩⟩
end
end St
end
noncomputable section
namespace Mi
open PySem PySem.Spec L2
inductive D where
 |non|bl (b:Bool)|int (i:Int)|str (x:Str)|ty (n:String)|tup (ds:List D)|lst (ds:List D)|dct (kvs:List (Key×D))|scr (ns:List Int)|ref (n:Nat)
inductive Wv where
 |val (d:D)|own (ds:List D)
inductive Cl where
 |lst (ds:List D)|dct (kvs:List (Key×D))
abbrev Sto:=List Cl
structure Ms where
 cel:List Addr
 tmp:List Addr
def Ms.mem(M:Ms)(a:Addr):Prop:=a∈M.cel∨a∈M.tmp
noncomputable def Ms.no:Ms:=⟨[],[]⟩
theorem Ms.no_mem{a:Addr}:¬Ms.no.mem a:=fun z=>z.elim (fun z=>by cases z) fun z=>by cases z
def KL(K:PySem.W.Frag)(a:Addr)(xs:List V):Prop:=∃(o:Obj) (its:Array Value) (n:Nat),K.lookup a=some o/\o.cls=.type "list" /\o.dict=none/\o.data=.seq its n/\its.size≤sizeLine/\Vals xs its.toList
mutual
inductive CW(K:PySem.W.Frag)(M:Ms)(H:Hp):V->D->Prop
 |non:CW K M H .non .non
 |bl (b:Bool):CW K M H (.bl b) (.bl b)
 |int (i:Int):CW K M H (.int i) (.int i)
 |str (x:Str):CW K M H (.str x) (.str x)
 |ty (n:String):CW K M H (.ty n) (.ty n)
 |tup {a:Addr} {xs:List V} {ds:List D} (h:SqT K H a xs) (r:An K M H xs ds):CW K M H (.ref a) (.tup ds)
 |lst {a:Addr} {xs:List V} {ds:List D} (h:H a=some (.lst xs)) (n:¬M.mem a) (r:An K M H xs ds):CW K M H (.ref a) (.lst ds)
 |scr {a:Addr} {ns:List Int} (h:(Rd H a (.lst (ns.map V.int))/\¬M.mem a)∨KL K a (ns.map V.int)):CW K M H (.ref a) (.scr ns)
 |dct {a:Addr} {kvs:List (Key×V)} {es:List (Key×D)} (h:H a=some (.dK kvs)) (n:¬M.mem a) (r:CH K M H kvs es):CW K M H (.ref a) (.dct es)
 |ref {a:Addr} {n:Nat} (h:M.cel[n]?=some a):CW K M H (.ref a) (.ref n)
inductive An(K:PySem.W.Frag)(M:Ms)(H:Hp):List V->List D->Prop
 |nil:An K M H [] []
 |cons {v:V} {d:D} {vs:List V} {ds:List D} (h:CW K M H v d) (t:An K M H vs ds):An K M H (v::vs) (d::ds)
inductive CH(K:PySem.W.Frag)(M:Ms)(H:Hp):List (Key×V)->List (Key×D)->Prop
 |nil:CH K M H [] []
 |cons {k:Key} {v:V} {d:D} {vs:List (Key×V)} {ds:List (Key×D)} (h:CW K M H v d) (t:CH K M H vs ds):CH K M H ((k,v)::vs) ((k,d)::ds)
end
def MOk(M:Ms)(H:Hp):Prop:=∀a,M.mem a->(∃xs,H a=some (.lst xs))∨∃kvs,H a=some (.dK kvs)
structure Sp1(M:Ms)(H:Hp)(M':Ms)(H':Hp):Prop where
 mo:MOk M H
 pre:M.cel <+: M'.cel
 fresh:∀a,M'.mem a->M.mem a∨H a=none
 keep:∀a o,H a=some o->¬M.mem a->H' a=some o
structure Gr(M:Ms)(H:Hp)(M':Ms)(H':Hp):Prop where
 mo:MOk M H
 pre:M.cel <+: M'.cel
 tmp:M'.tmp=M.tmp
 fresh:∀a,a∈M'.cel->a∈M.cel∨H a=none
 keep:∀a o,H a=some o->a∉M.cel->H' a=some o
 some:∀a,H a≠none->H' a≠none
section
variable{K:PySem.W.Frag}{M M' M2:Ms}{H H' H2:Hp}
theorem MOk.some(mo:MOk M H){a:Addr}(h:M.mem a):H a≠none:=fun z=>by
 rcases mo a h with⟨xs,e⟩|⟨xs,e⟩<;>(rw[e]at z;cases z)
theorem Gr.st(g:Gr M H M' H'):Sp1 M H M' H':=⟨g.mo,g.pre,fun a z=>z.elim (fun z=>(g.fresh a z).imp .inl id) fun z=>.inl (.inr (by rw[←g.tmp];exact z)),fun a o e n=>g.keep a o e fun z=>n (.inl z)⟩
theorem Gr.refl(mo:MOk M H):Gr M H M H:=⟨mo,List.prefix_rfl,rfl,fun _ z=>.inl z,fun _ _ e _=>e,fun _ e=>e⟩
theorem Gr.none(g:Gr M H M' H'){a:Addr}(h:H' a=none):H a=none:=by
 cases e:H a with
 |none=>rfl
 |some o=>exact absurd h (g.some a (by rw[e];intro z;cases z))
theorem Gr.trans(h:Gr M H M' H')(g:Gr M' H' M2 H2):Gr M H M2 H2:=
 ⟨h.mo,h.pre.trans g.pre,g.tmp.trans h.tmp,fun a z=>(g.fresh a z).elim (h.fresh a) fun z=>.inr (h.none z),fun a o e n=>g.keep a o (h.keep a o e n) (fun z=>by
  rcases h.fresh a z with z|z
  ·exact n z
  ·rw[e]at z;cases z),fun a e=>g.some a (h.some a e)⟩
theorem Gr.grow(mo:MOk M H)(k:∀a o,H a=Option.some o->H' a=Option.some o):Gr M H M H':=
 ⟨mo,List.prefix_rfl,rfl,fun _ z=>.inl z,fun b u eb _=>k b u eb,fun b eb z=>by
  cases h:H b with
  |none=>exact eb h
  |some o=>rw[k b o h]at z;cases z⟩
theorem Lh{α:Type}{xs ys:List α}(h:xs <+: ys){n:Nat}{a:α}(e:xs[n]?=Option.some a):ys[n]?=Option.some a:=by
 obtain⟨zs,rfl⟩:=h
 rw[List.getElem?_append_left (List.getElem?_eq_some_iff.mp e).1]
 exact e
theorem TM{a:Addr}{xs:List V}(h:SqT K H a xs)(k:∀b o,H b=Option.some o->(∀ys,o≠.lst ys)->(∀ys,o≠.dK ys)->H' b=Option.some o):SqT K H' a xs:=by
 rcases h with h|h
 ·rcases h with h|⟨o,h⟩
  ·exact .inl (.inl (k _ _ h (fun ys z=>by cases z) fun ys z=>by cases z))
  ·exact .inl (.inr ⟨o,k _ _ h (fun ys z=>by cases z) fun ys z=>by cases z⟩)
 ·exact .inr h
theorem Sp1.sqT(g:Sp1 M H M' H'){a:Addr}{xs:List V}(h:SqT K H a xs):SqT K H' a xs:=TM h fun b o e n1 n2=>g.keep b o e fun z=>by
 rcases g.mo b z with⟨ys,q⟩|⟨ys,q⟩
 ·exact n1 ys (Option.some.inj (e.symm.trans q))
 ·exact n2 ys (Option.some.inj (e.symm.trans q))
theorem Sp1.nm(g:Sp1 M H M' H'){a:Addr}{o:HO}(e:H a=Option.some o)(n:¬M.mem a):¬M'.mem a:=fun z=>by
 rcases g.fresh _ z with z|z
 ·exact n z
 ·rw[z]at e;cases e
mutual
theorem CW.step(g:Sp1 M H M' H'):∀{v:V} {d:D},CW K M H v d->CW K M' H' v d
  |_,_,.non=>.non
  |_,_,.bl b=>.bl b
  |_,_,.int b=>.int b
  |_,_,.str b=>.str b
  |_,_,.ty b=>.ty b
  |_,_,.tup h r=>.tup (g.sqT h) (An.step g r)
  |_,_,.lst (a:=a) (xs:=xs) h n r=>.lst (g.keep _ _ h n) (g.nm h n) (An.step g r)
  | _, _, .scr (a := a) (ns := ns) h => by
    rcases h with⟨h,n⟩|h
    · rcases h with h | ⟨o, h⟩
      ·exact .scr (.inl ⟨.inl (g.keep _ _ h n),g.nm h n⟩)
      ·exact .scr (.inl ⟨.inr ⟨o,g.keep _ _ h n⟩,g.nm h n⟩)
    ·exact .scr (.inr h)
  |_,_,.dct (a:=a) h n r=>.dct (g.keep _ _ h n) (g.nm h n) (CH.step g r)
  |_,_,.ref h=>.ref (Lh g.pre h)
theorem An.step(g:Sp1 M H M' H'):∀{v:List V} {d:List D},An K M H v d->An K M' H' v d
 |_,_,.nil=>.nil
 |_,_,.cons h t=>.cons (CW.step g h) (An.step g t)
theorem CH.step(g:Sp1 M H M' H'):∀{v:List (Key×V)} {d:List (Key×D)},CH K M H v d->CH K M' H' v d
 |_,_,.nil=>.nil
 |_,_,.cons h t=>.cons (CW.step g h) (CH.step g t)
end
theorem An.length:∀{v:List V} {d:List D},An K M H v d->v.length=d.length
 |_,_,.nil=>rfl
 |_,_,.cons _ t=>by simp[An.length t]
theorem An.get:∀{v:List V} {d:List D} {i:Nat} {y:D},An K M H v d->d[i]?=Option.some y->∃x,v[i]?=Option.some x/\CW K M H x y
  |_,_,i,y,.nil,e=>by simp at e
  |_,_,0,y,.cons h t,e=>by simp at e;subst e;exact⟨_,rfl,h⟩
  | _, _, i + 1, y, .cons h t, e => by
    obtain⟨x,h1,h2⟩:=An.get (i:=i) t (by simpa using e)
    exact⟨x,by simpa using h1,h2⟩
theorem An.append:∀{v v':List V} {d d':List D},An K M H v d->An K M H v' d'->An K M H (v++v') (d++d')
 |_,_,_,_,.nil,s=>s
 |_,_,_,_,.cons h t,s=>.cons h (An.append t s)
theorem An.take:∀{v:List V} {d:List D} (n:Nat),An K M H v d->An K M H (v.take n) (d.take n)
 |_,_,0,_=>.nil
 |_,_,_+1,.nil=>.nil
 |_,_,n+1,.cons h t=>.cons h (An.take n t)
theorem An.drop:∀{v:List V} {d:List D} (n:Nat),An K M H v d->An K M H (v.drop n) (d.drop n)
 |_,_,0,r=>r
 |_,_,_+1,.nil=>.nil
 |_,_,n+1,.cons _ t=>An.drop n t
theorem An.set{x:V}{y:D}(r:CW K M H x y):∀{v:List V} {d:List D} (i:Nat),An K M H v d->An K M H (v.set i x) (d.set i y)
 |_,_,_,.nil=>.nil
 |_,_,0,.cons _ t=>.cons r t
 |_,_,i+1,.cons q t=>.cons q (An.set r i t)
end
abbrev En:=List (Option D)
abbrev Sg:=List (Option V)
structure EnR(K:PySem.W.Frag)(M:Ms)(E:En)(σ:Sg)(H:Hp):Prop where
 len:E.length=σ.length
 val:∀(i:Nat) (d:D),E[i]?=some (some d)->∃v,σ[i]?=some (some v)/\CW K M H v d
def Xv(K:PySem.W.Frag)(M:Ms)(H:Hp)(a:Addr):Cl->Prop
 | .lst ds=>∃xs,H a=some (.lst xs)/\An K M H xs ds
 | .dct es=>∃kvs,H a=some (.dK kvs)/\CH K M H kvs es
structure StR(K:PySem.W.Frag)(M:Ms)(S:Sto)(H:Hp):Prop where
 mo:MOk M H
 nd:M.cel.Nodup
 nt:∀a∈M.tmp,a∉M.cel
 len:M.cel.length=S.length
 cell:∀(n:Nat) (a:Addr) (c:Cl),M.cel[n]?=some a->S[n]?=some c->Xv K M H a c
section
variable{K:PySem.W.Frag}{M M' M2:Ms}{H H' H2:Hp}{E:En}{σ:Sg}{S:Sto}
theorem EnR.step(r:EnR K M E σ H)(g:Sp1 M H M' H'):EnR K M' E σ H':=⟨r.len,fun i d e=>by
 obtain⟨v,h1,h2⟩:=r.val i d e
 exact⟨v,h1,h2.step g⟩⟩
theorem StR.grow(r:StR K M S H)(k:∀a o,H a=some o->H' a=some o):StR K M S H':=by
 have g:Sp1 M H M H':=⟨r.mo,List.prefix_rfl,fun _ z=>.inl z,fun a o e _=>k a o e⟩
 refine⟨fun a z=>(r.mo a z).imp (fun⟨xs,e⟩=>⟨xs,k _ _ e⟩) fun⟨xs,e⟩=>⟨xs,k _ _ e⟩,r.nd,r.nt,r.len,fun n a c h1 h2=>?_⟩
 have q:=r.cell n a c h1 h2
 cases c with
 |lst ds=>obtain⟨xs,e,rr⟩:=q;exact⟨xs,k _ _ e,rr.step g⟩
 |dct ds=>obtain⟨xs,e,rr⟩:=q;exact⟨xs,k _ _ e,rr.step g⟩
theorem StR.chg(r:StR K M S H){n:Nat}{a:Addr}{ds es:List D}{ys:List V}(h1:M.cel[n]?=some a)(h2:S[n]?=some (.lst ds))(hy:An K M H ys es):StR K M (S.set n (.lst es)) (upd H a (.lst ys))/\Gr M H M (upd H a (.lst ys)):=by
 have ha:a∈M.cel:=List.mem_of_getElem? h1
 have hl:n<S.length:=(List.getElem?_eq_some_iff.mp h2).1
 have g:Gr M H M (upd H a (.lst ys)):=⟨r.mo,List.prefix_rfl,rfl,fun _ z=>.inl z,fun b o eb nb=>by rw[Al (fun z=>nb (by rw[z];exact ha))];exact eb,fun b eb=>by
  by_cases h:b=a
  ·subst h;rw[BG];intro z;cases z
  ·rw[Al h];exact eb⟩
 refine⟨⟨fun b z=>?_,r.nd,r.nt,by rw[List.length_set];exact r.len,fun m b c e1 e2=>?_⟩,g⟩
 ·by_cases h:b=a
  ·subst h;exact .inl ⟨ys,BG⟩
  ·rw[Al h];exact r.mo b z
 ·by_cases h:n=m
  ·subst h
   rw[h1]at e1;cases e1
   rw[List.getElem?_set_self hl]at e2;cases e2
   exact⟨ys,BG,hy.step g.st⟩
  ·rw[List.getElem?_set_ne h]at e2
   have hb:b≠a:=fun z=>by
    subst z
    exact h ((List.getElem?_inj (List.getElem?_eq_some_iff.mp h1).1 r.nd).mp (h1.trans e1.symm))
   have q:=r.cell m b c e1 e2
   cases c with
   |lst fs=>obtain⟨xs,e,rr⟩:=q;exact⟨xs,by rw[Al hb];exact e,rr.step g.st⟩
   |dct fs=>obtain⟨xs,e,rr⟩:=q;exact⟨xs,by rw[Al hb];exact e,rr.step g.st⟩
theorem StR.cel_new(r:StR K M S H){a:Addr}{xs:List V}{ds:List D}(e:H a=none)(k:∀b o,H b=some o->H' b=some o)(ea:H' a=some (.lst xs))(rr:An K M H xs ds):StR K ⟨M.cel++[a],M.tmp⟩ (S++[.lst ds]) H'/\Gr M H ⟨M.cel++[a],M.tmp⟩ H':=by
  have g:Gr M H ⟨M.cel++[a],M.tmp⟩ H':=⟨r.mo,List.prefix_append _ _,rfl,fun b z=>by
    rcases List.mem_append.mp z with z|z
    ·exact .inl z
    ·simp at z;subst z;exact .inr e,fun b o eb _=>k b o eb,fun b eb z=>by
    cases h:H b with
    |none=>exact eb h
    |some o=>rw[k b o h]at z;cases z⟩
  have na:¬M.mem a:=fun z=>r.mo.some z e
  refine⟨⟨fun b z=>?_,?_,fun b hb z=>?_,by simp[r.len],fun m b c e1 e2=>?_⟩,g⟩
  · have z' : M.mem b ∨ b = a := by
      rcases z with z|z
      · rcases List.mem_append.mp z with z | z
        ·exact .inl (.inl z)
        ·simp at z;exact .inr z
      ·exact .inl (.inr z)
    rcases z' with z|z
    ·exact(r.mo b z).imp (fun⟨xs,e⟩=>⟨xs,k _ _ e⟩) fun⟨xs,e⟩=>⟨xs,k _ _ e⟩
    ·subst z;exact .inl ⟨xs,ea⟩
  · rw [List.nodup_append]
    refine⟨r.nd,by simp,fun x hx y hy=>?_⟩
    simp at hy;subst hy
    exact fun z=>na (.inl (by rw[←z];exact hx))
  · rcases List.mem_append.mp z with z | z
    ·exact r.nt b hb z
    ·simp at z;subst z;exact na (.inr hb)
  · by_cases h : m < S.length
    · rw [List.getElem?_append_left (by rw [r.len]; exact h)] at e1
      rw[List.getElem?_append_left h]at e2
      have q:=r.cell m b c e1 e2
      cases c with
      |lst fs=>obtain⟨xs,e,rr⟩:=q;exact⟨xs,k _ _ e,rr.step g.st⟩
      |dct fs=>obtain⟨xs,e,rr⟩:=q;exact⟨xs,k _ _ e,rr.step g.st⟩
    · have hm : m = S.length := by
        have:=(List.getElem?_eq_some_iff.mp e2).1
        simp at this;omega
      subst hm
      rw[List.getElem?_append_right (by rw[r.len];exact Nat.le_refl _)]at e1
      rw[List.getElem?_append_right (Nat.le_refl _)]at e2
      rw[r.len]at e1
      simp at e1 e2
      subst e1 e2
      exact⟨xs,ea,rr.step g.st⟩
end
abbrev Ev:=En->Sto->Option (D×Sto)
noncomputable def tD(K:PySem.W.Frag)(f:Ev):TE:=fun σ H Q=>∃M E S d S',f E S=some (d,S')/\EnR K M E σ H/\StR K M S H/\∀v H' M',Gr M H M' H'->StR K M' S' H'->CW K M' H' v d->Q v H'
structure DE(X:Cx)(e:Expr)(f:Ev):Prop where
 pe:PE X e (tD X.K f)
theorem Bz{X:Cx}{e:Expr}{t t':TE}(h:PE X e t)(m:∀σ H Q,t' σ H Q->t σ H Q):PE X e t':=fun pins s σ H Q I q=>h pins s σ H Q I (m _ _ _ q)
theorem QP{X:Cx}{e:Expr}{t t':TT}(h:PT X e t)(m:∀σ H Q,t' σ H Q->t σ H Q):PT X e t':=fun pins s σ H Q I q=>h pins s σ H Q I (m _ _ _ q)
theorem GU{K:PySem.W.Frag}{f:Ev}{σ:Sg}{H:Hp}{Q Q':VK}(h:tD K f σ H Q)(m:∀v H',Q v H'->Q' v H'):tD K f σ H Q':=by
 obtain⟨M,E,S,d,S',e,r,st,q⟩:=h
 exact⟨M,E,S,d,S',e,r,st,fun v H' M' g s r=>m _ _ (q v H' M' g s r)⟩
theorem BA{α β:Type}{o:Option α}{k:α->Option β}{y:β}(e:o.bind k=some y):∃x,o=some x/\k x=some y:=by
 cases o with
 |none=>cases e
 |some x=>exact⟨x,rfl,e⟩
theorem JM{α β:Type}{o:Option α}{k:α->β}{y:β}(e:o.map k=some y):∃x,o=some x/\k x=y:=by
 cases o with
 |none=>cases e
 |some x=>cases e;exact⟨x,rfl,rfl⟩
noncomputable def fz:Wv->D
 | .val d=>d
 | .own ds=>.lst ds
noncomputable def at?(E:En)(i:Nat):Option D:=(E[i]?).join
theorem at?_some{E:En}{i:Nat}{w:D}(h:at? E i=some w):E[i]?=some (some w):=by
 unfold at? at h
 cases e:E[i]? with
 |none=>rw[e]at h;cases h
 |some q=>rw[e]at h;exact congrArg some h
noncomputable def evs:List Ev->En->Sto->Option (List D×Sto)
 | [],_,S=>some ([],S)
 |f::fs,E,S=>(f E S).bind fun r=>(evs fs E r.2).map fun q=>(r.1::q.1,q.2)
noncomputable def tDs(K:PySem.W.Frag):List Ev->TA
 | []=>aW
 |f::fs=>XQ (tD K f) (tDs K fs)
structure DEs(X:Cx)(es:List Expr)(fs:List Ev):Prop where
 pe:PA X es (tDs X.K fs)
theorem AD{X:Cx}:DEs X [] []:=⟨Pj⟩
theorem AA{X:Cx}{e:Expr}{es:List Expr}{f:Ev}{fs:List Ev}(h:DE X e f)(t:DEs X es fs)(hs:starEach (e::es) X.env=(false,eval e X.env)::starEach es X.env:=by rfl):DEs X (e::es) (f::fs):=⟨Ku h.pe t.pe hs⟩
section
variable{K:PySem.W.Frag}{M M':Ms}{E:En}{S:Sto}{σ:Sg}{H H':Hp}
theorem Gp:∀{fs:List Ev} {M:Ms} {S:Sto} {ds:List D} {S':Sto} {H:Hp} {Q:List V->Hp->Prop},evs fs E S=some (ds,S')->EnR K M E σ H->StR K M S H->(∀vs H' M',Gr M H M' H'->StR K M' S' H'->An K M' H' vs ds->Q vs H')->tDs K fs σ H Q
  | [],M,S,ds,S',H,Q,e,r,st,q=>by
    cases e
    exact q [] H M (.refl st.mo) st .nil
  | f :: fs, M, S, ds, S', H, Q, e, r, st, q => by
    obtain⟨⟨d,S1⟩,e1,e⟩:=BA e
    obtain⟨⟨es,S2⟩,e2,e⟩:=JM e
    cases e
    refine⟨M,E,S,d,S1,e1,r,st,fun v H1 M1 g1 st1 d1=>?_⟩
    exact Gp e2 (r.step g1.st) st1 fun vs H2 M2 g2 st2 d2=>q _ _ M2 (g1.trans g2) st2 (.cons (d1.step g2.st) d2)
theorem NA:∀{fs:List Ev} {S:Sto} {ds:List D} {S':Sto},evs fs E S=some (ds,S')->ds.length=fs.length
  | [],_,_,_,e=>by cases e;rfl
  | f :: fs, S, ds, S', e => by
    obtain⟨⟨d,S1⟩,e1,e⟩:=BA e
    obtain⟨⟨es,S2⟩,e2,e⟩:=JM e
    cases e
    simp[NA e2]
def Sh(K:PySem.W.Frag)(M:Ms)(H:Hp)(v:V):Wv->Prop
 | .val d=>CW K M H v d
 | .own ds=>∃a xs,v=.ref a/\H a=some (.lst xs)/\An K M H xs ds
inductive Shs(K:PySem.W.Frag)(M:Ms)(H:Hp):List V->List Wv->Prop
 |nil:Shs K M H [] []
 |cons {v:V} {w:Wv} {vs:List V} {ws:List Wv} (h:Sh K M H v w) (t:Shs K M H vs ws):Shs K M H (v::vs) (w::ws)
noncomputable def dr(S:Sto):D->Wv
  | .ref n=>match S[n]? with
    |some (.lst ds)=>.own ds
    |_=>.val (.ref n)
  |d=>.val d
theorem Uj(st:StR K M S H){v:V}{d:D}(h:CW K M H v d):Sh K M H v (dr S d):=by
  cases h with
  | ref h =>
    rename_i a n
    show Sh K M H (.ref a) (match S[n]? with|some (.lst ds)=>.own ds|_=>.val (.ref n))
    split
    · rename_i ds e
      obtain⟨xs,h1,h2⟩:=st.cell n a _ h e
      exact⟨a,xs,rfl,h1,h2⟩
    ·exact .ref h
  |non=>exact .non
  |bl b=>exact .bl b
  |int b=>exact .int b
  |str b=>exact .str b
  |ty b=>exact .ty b
  |tup h r=>exact .tup h r
  |lst h n r=>exact .lst h n r
  |scr h=>exact .scr h
  |dct h n r=>exact .dct h n r
theorem Tq(st:StR K M S H):∀{vs:List V} {ds:List D},An K M H vs ds->Shs K M H vs (ds.map (dr S))
 |_,_,.nil=>.nil
 |_,_,.cons h t=>.cons (Uj st h) (Tq st t)
def NwR(K:PySem.W.Frag)(M:Ms)(H H':Hp)(v:V):Wv->Prop
 | .val d=>CW K M H' v d
 | .own ds=>∃a xs,v=.ref a/\H a=none/\H' a=some (.lst xs)/\An K M H xs ds
structure Nw(K:PySem.W.Frag)(M:Ms)(H H':Hp)(v:V)(w:Wv):Prop where
 grow:∀a o,H a=some o->H' a=some o
 rel:NwR K M H H' v w
theorem Nw.same{v:V}{d:D}(mo:MOk M H)(h:CW K M H v d):Nw K M H H v (.val d):=⟨fun _ _ e=>e,h⟩
theorem Ey{a:Addr}{o:HO}(e:H a=none):∀b u,H b=some u->upd H a o b=some u:=fun b u eb=>by rw[Al (fun z=>by subst z;rw[e]at eb;cases eb)];exact eb
theorem Nw.lst{a:Addr}{xs:List V}{ds:List D}(mo:MOk M H)(e:H a=none)(h:An K M H xs ds):Nw K M H (upd H a (.lst xs)) (.ref a) (.own ds):=⟨Ey e,a,xs,rfl,e,BG,h⟩
theorem Nw.tup{a:Addr}{xs:List V}{ds:List D}(mo:MOk M H)(e:H a=none)(h:An K M H xs ds):Nw K M H (upd H a (.tup xs)) (.ref a) (.val (.tup ds)):=⟨Ey e,.tup (.of BG) (h.step (Gr.grow mo (Ey e)).st)⟩
noncomputable def fin:Bool->Wv->Sto->Option (D×Sto)
 |_,.val d,S=>some (d,S)
 |false,.own ds,S=>some (.lst ds,S)
 |true,.own ds,S=>some (.ref S.length,S++[.lst ds])
theorem Nw.fin{c:Bool}{v:V}{w:Wv}{d:D}{S':Sto}(n:Nw K M H H' v w)(st:StR K M S H)(e:fin c w S=some (d,S')):∃M',Gr M H M' H'/\StR K M' S' H'/\CW K M' H' v d:=by
  cases w with
  | val d' =>
    cases e
    exact⟨M,.grow st.mo n.grow,st.grow n.grow,n.rel⟩
  | own ds =>
    obtain⟨a,xs,rfl,h1,h2,h3⟩:=n.rel
    cases c with
    | false =>
      cases e
      exact⟨M,.grow st.mo n.grow,st.grow n.grow,.lst h2 (fun z=>st.mo.some z h1) (h3.step (Gr.grow st.mo n.grow).st)⟩
    | true =>
      cases e
      obtain⟨s1,g1⟩:=st.cel_new h1 n.grow h2 h3
      refine⟨_,g1,s1,.ref ?_⟩
      rw[←st.len]
      exact List.getElem?_concat_length
abbrev Op1:=Wv->Option Wv
abbrev Op2:=Wv->Wv->Option Wv
abbrev OpN:=List Wv->Option Wv
noncomputable def rOp(K:PySem.W.Frag)(op:Op2):R2:=fun x y H Q=>∃M w1 w2 r,op w1 w2=some r/\MOk M H/\Sh K M H x w1/\Sh K M H y w2/\∀v H',Nw K M H H' v r->Q v H'
def rUn(K:PySem.W.Frag)(op:Op1):V->Hp->VK->Prop:=fun x H Q=>∃M w r,op w=some r/\MOk M H/\Sh K M H x w/\∀v H',Nw K M H H' v r->Q v H'
def rN(K:PySem.W.Frag)(op:OpN):List V->Hp->VK->Prop:=fun xs H Q=>∃M ws r,op ws=some r/\MOk M H/\Shs K M H xs ws/\∀v H',Nw K M H H' v r->Q v H'
noncomputable def Nc(c:Bool)(op:OpN)(fs:List Ev):Ev:=fun E S=>(evs fs E S).bind fun r=>(op (r.1.map (dr r.2))).bind fun w=>fin c w r.2
abbrev eOp:=Nc false
abbrev PN:=Nc true
noncomputable def o1(op:Op1):OpN| [a]=>op a|_=>none
noncomputable def o2(op:Op2):OpN| [a,b]=>op a b|_=>none
theorem KS{c:Bool}{op:OpN}{fs:List Ev}{Q:VK}{d:D}{S':Sto}(e:Nc c op fs E S=some (d,S'))(r:EnR K M E σ H)(st:StR K M S H)(h:∀v H' M',Gr M H M' H'->StR K M' S' H'->CW K M' H' v d->Q v H'):tDs K fs σ H fun vs H1=>rN K op vs H1 Q:=by
 obtain⟨⟨ds,S1⟩,e1,e⟩:=BA e
 obtain⟨w,e2,e⟩:=BA e
 refine Gp e1 r st fun vs H1 M1 g1 st1 d1=>⟨M1,_,w,e2,st1.mo,Tq st1 d1,fun v H2 n=>?_⟩
 obtain⟨M2,g2,st2,d2⟩:=n.fin st1 e
 exact h v H2 M2 (g1.trans g2) st2 d2
end
theorem Xg{K:PySem.W.Frag}{f:Op2}{x y:V}{H:Hp}{Q:VK}(h:rN K (o2 f) [x,y] H Q):rOp K f x y H Q:=by
  obtain⟨M,ws,r,e,mo,s,q⟩:=h
  cases s with
  | cons h1 s =>
    cases s with
    | cons h2 s =>
      cases s
      exact⟨M,_,_,r,e,mo,h1,h2,q⟩
theorem Xw{K:PySem.W.Frag}{f:Op1}{x:V}{H:Hp}{Q:VK}(h:rN K (o1 f) [x] H Q):rUn K f x H Q:=by
  obtain⟨M,ws,r,e,mo,s,q⟩:=h
  cases s with
  | cons h1 s =>
    cases s
    exact⟨M,_,r,e,mo,h1,q⟩
theorem Nt{K:PySem.W.Frag}{c:Bool}{f:Op2}{fa fb:Ev}{σ:Sg}{H:Hp}{Q:VK}(h:tD K (Nc c (o2 f) [fa,fb]) σ H Q):tOp (rOp K f) (tD K fa) (tD K fb) σ H Q:=by
 obtain⟨M,E,S,d,S',e,r,st,q⟩:=h
 have z:tD K fa σ H fun x H1=>tD K fb σ H1 fun y H2=>rN K (o2 f) [x,y] H2 Q:=KS (Q:=Q) e r st q
 exact GU z fun x H1 z1=>GU z1 fun y H2 z2=>Xg z2
theorem W7{K:PySem.W.Frag}{c:Bool}{f:Op1}{fa:Ev}{σ:Sg}{H:Hp}{Q:VK}(h:tD K (Nc c (o1 f) [fa]) σ H Q):tUn (rUn K f) (tD K fa) σ H Q:=by
 obtain⟨M,E,S,d,S',e,r,st,q⟩:=h
 have z:tD K fa σ H fun x H1=>rN K (o1 f) [x] H1 Q:=KS (Q:=Q) e r st q
 exact GU z fun x H1 z1=>Xw z1
section
variable{X:Cx}{a b e:Expr}{es:List Expr}{fa fb:Ev}{fs:List Ev}{pos p:Pos}{c:Bool}
theorem AZ{op:Operator}{f:Op2}(ho:OpR X (binaryOp op) (rOp X.K f))(ha:DE X a fa)(hb:DE X b fb):DE X (.BinOp a op b pos) (Nc c (o2 f) [fa,fb]):=⟨Bz (aL ho ha.pe hb.pe) fun _ _ _ h=>Nt h⟩
theorem D3{op:CmpOp}{f:Op2}(ho:OpR X (compareOp op) (rOp X.K f))(ha:DE X a fa)(hb:DE X b fb)(hm:behindInMarks op b=false:=by rfl):DE X (.Compare a [op] [b] pos) (Nc c (o2 f) [fa,fb]):=⟨Bz (Uq ho ha.pe hb.pe hm) fun _ _ _ h=>Nt h⟩
theorem Na{op:UnaryOp}{f:Op1}(ho:UnR X (unaryOp op) (rUn X.K f))(ha:DE X a fa):DE X (.UnaryOp op a pos) (Nc c (o1 f) [fa]):=⟨Bz (aF ho ha.pe) fun _ _ _ h=>W7 h⟩
theorem AK{f:Op2}(hr:IxR X (rOp X.K f))(ha:DE X a fa)(hb:DE X b fb)(hs:Pt b:=by exact fun _ _=>rfl):DE X (.Subscript a b pos) (Nc c (o2 f) [fa,fb]):=⟨Bz (Zh hr ha.pe hb.pe hs) fun _ _ _ h=>Nt h⟩
theorem Ab{id:String}{x:Str}{f:OpN}(hc:Di X (.builtin id) (rN X.K f))(hg:Gl X x)(hm:X.mg x=none)(hv:bootBuiltins x=some (.builtin id))(ha:DEs X (e::es) fs)(hn:x≠ "__name__":=by decide)(hdb:(x==("__debug__":Str))=false:=by decide)
  (he:starEach (e::es) X.env=(false,eval e X.env)::starEach es X.env:=by rfl) (hpl:(backTo pos (starEach es X.env)).any (·.1)=false:=by rfl):DE X (.Call (.Name x p) (e::es) [] pos) (Nc c f fs):=⟨
 Bz (Td hc hg hm hv ha.pe hn hdb he hpl) fun _ _ _ h=>by
  obtain⟨M,E,S,d,S',e,r,st,q⟩:=h
  exact KS e r st q⟩
theorem Ai{T:String}{x:Str}{f:OpN}(hc:Di X (.type T) (rN X.K f))(hg:Gl X x)(hm:X.mg x=none)(hv:bootBuiltins x=some (.type T))(ha:DEs X (e::es) fs)(hn:x≠ "__name__":=by decide)(hdb:(x==("__debug__":Str))=false:=by decide)
  (he:starEach (e::es) X.env=(false,eval e X.env)::starEach es X.env:=by rfl) (hpl:(backTo pos (starEach es X.env)).any (·.1)=false:=by rfl):DE X (.Call (.Name x p) (e::es) [] pos) (Nc c f fs):=⟨
 Bz (Pg hc hg hm hv ha.pe hn hdb he hpl) fun _ _ _ h=>by
  obtain⟨M,E,S,d,S',e,r,st,q⟩:=h
  exact KS e r st q⟩
noncomputable def eC(d:D):Ev:=fun _ S=>some (d,S)
theorem Lr{v:V}{d:D}(h:PE X e (tC v))(r:∀K M H,CW K M H v d):DE X e (eC d):=⟨Bz h fun σ H Q z=>by
 obtain⟨M,E,S,w,S',e,rr,st,q⟩:=z
 cases e
 exact q _ _ M (.refl st.mo) st (r _ _ _)⟩
theorem AE{i:Int}{j:Nat}:DE X (.Constant (.int i) j pos) (eC (.int i)):=Lr Wc fun _ _ _=>.int _
theorem My{i:Bool}{j:Nat}:DE X (.Constant (.bool i) j pos) (eC (.bl i)):=Lr Zb fun _ _ _=>.bl _
theorem Au{i:Str}{j:Nat}:DE X (.Constant (.str i) j pos) (eC (.str i)):=Lr Xj fun _ _ _=>.str _
theorem KJ{j:Nat}:DE X (.Constant .none j pos) (eC .non):=Lr XM fun _ _ _=>.non
noncomputable def eV(i:Nat):Ev:=fun E S=>(at? E i).map fun d=>(d,S)
theorem AB(i:Nat){x:Str}(hN:X.N[i]?=some x:=by rfl)(hv:Vis X.env.scope x:=by first|exact Or.inl rfl|exact Or.inr (Or.inl rfl)|exact Or.inr (Or.inr rfl))(hd:(x==("__debug__":Str))=false:=by decide)
  (hcd:(x==("__classdict__":Str))=false:=by decide):DE X (.Name x pos) (eV i):=⟨Bz (Xy hN hv hd hcd) fun σ H Q z=>by
 obtain⟨M,E,S,d,S',e,r,st,q⟩:=z
 obtain⟨d',e1,e⟩:=JM e
 cases e
 obtain⟨v,hv,rd⟩:=r.val i d (at?_some e1)
 exact⟨v,hv,q v H M (.refl st.mo) st rd⟩⟩
end
theorem FK:fillsNumberSlot (.type "tuple") "mul"=pure false:=
 fillsNumberSlot_seq (id:="tuple.__mul__") (r:=some (.builtin "tuple.__rmul__")) F.slot_tuple_mul.lookup (by decide+kernel) F.slot_tuple_rmul.lookup (by decide+kernel)
theorem IA:seqRepeat? (.type "tuple")=pure (some (.builtin "tuple.__mul__")):=by
 unfold seqRepeat?
 rw[seqSlot_of (T:="tuple") (name:="__mul__") (id:="tuple.__mul__") F.slot_tuple_mul.lookup (by decide+kernel),seqSlot_of (T:="tuple") (name:="__rmul__") (id:="tuple.__rmul__") F.slot_tuple_rmul.lookup (by decide+kernel)]
 rfl
theorem GI(a:Int)(t:Tok)(l:Addr)(items:Array Value)(n:Nat)(dd:Option Addr)(sl:Array (Option Value)):
  Meets (Builtin.«int.__rmul__» ⟨[.int a t,.ref l],[]⟩) (fun _ R s=>s.heap.get? l=some {cls:=.type "tuple",dict:=dd,data:=.seq items n,slots:=sl}/\R (.ok (.ret Value.notImplemented)) s):=
 .of_wp fun prog w A R s h=>by obtain⟨hp,g,d,tk,os⟩:=s;obtain⟨hl,h⟩:=h;wp_walk;exact⟨_,rfl,h⟩
theorem QU(its:List Value)(m:Nat):List.foldl (fun x1 x2=>x1++x2) #[] (List.replicate m its.toArray)=(List.replicate m its).flatten.toArray:=by
 have:=foldl_rep its m []
 rw[List.nil_append]at this
 exact this
theorem Vg{X:Cx}:OpR X (binaryOp .Mult) (fun x y H Q=>∃a xs k,x=.ref a/\y=.int k/\SqT X.K H a xs/\xs≠[]/\1≤k/\xs.length*k.toNat≤sizeLine/\(k=1->Q (.ref a) H)/\(k≠1->∀p,H p=none->Q (.ref p) (upd H p (.tup (List.replicate k.toNat xs).flatten)))):=by
  intro pins s σ H x y v u Q I rx ry h
  obtain⟨a,xs,k,rfl,rfl,hx,hne,hk,hz,q1,q2⟩:=h
  cases rx
  obtain⟨t,rfl⟩:=ry
  obtain⟨its,r,⟨⟨c,dd,data,sl⟩,ho,hc,n,hd⟩,hzz⟩:=I.tuple hx
  simp only at hc hd
  subst hc hd
  have hl:=r.length
  have hsz:its.toArray.size=xs.length:=by rw[List.size_toArray];exact hl.symm
  have hpos:0<xs.length:=List.length_pos_iff.mpr hne
  have hkl:k.toNat≤sizeLine:=Nat.le_trans (Nat.le_mul_of_pos_left _ hpos) hz
  have hk63:k<2^63:=by
    have:(sizeLine:Nat)<2^63:=by decide
    omega
  refine wpAny_binaryOp_repeat_ref (T:="tuple") (U:="int") (by decide) ⟨_,ho,rfl⟩ (fun s'=>typeIs_int s' k t) FK F.fills_int_mul F.slot_int_rmul IA F.slot_int_index.lookup
    (call_meets F.slot_int_rmul (typeIs_int s k t) F.entry_int_rmul (F.args_int_rmul_2 _ _) (GI k t a its.toArray n dd sl) ⟨ho,rfl,⟨_,ho,rfl⟩,?_⟩)
  refine wpAny_call_entry F.slot_tuple_mul ⟨_,ho,rfl⟩ F.entry_tuple_mul ?_ (F.args_tuple_mul_2 _ _)
  unfold Builtin.«tuple.__mul__»
  wp_walk using AutoSeq1.wpAny_loadPart' ho
  rw [if_neg (show ¬ (decide (k < -2 ^ 63) || decide (k ≥ 2 ^ 63)) = true by
    rw[Bool.or_eq_true]
    rintro (z|z)
    ·have:=of_decide_eq_true z;omega
    ·have:=of_decide_eq_true z;omega)]
  wp_walk using AutoSeq1.wpAny_loadPart' ho
  by_cases h1:k=1
  · subst h1
    rw[if_pos (show(its.toArray.isEmpty||(1:Int)==1)=true by simp)]
    wp_walk using AutoSeq1.wpAny_loadPart' ho
    exact⟨_,rfl,.ref a,H,I,rfl,q1 rfl⟩
  · have hemp : its.toArray.isEmpty = false := by
      cases its with
      |nil=>rw[List.length_nil]at hl;omega
      |cons b bs=>rfl
    rw[if_neg (show¬(its.toArray.isEmpty||k==1)=true by rw[hemp];simpa using h1)]
    wp_walk using AutoSeq1.wpAny_loadPart' ho
    have hmul:((its.toArray.size:Int)*k)=((xs.length*k.toNat:Nat):Int):=by
      rw[hsz,Int.natCast_mul]
      congr 1
      omega
    rw [if_neg (show ¬ (decide (k ≤ 0) || its.toArray.isEmpty) = true by
      rw[hemp,Bool.or_false]
      intro z
      have:=of_decide_eq_true z
      omega)]
    wp_walk
    rw [if_neg (show ¬ ((its.toArray.size : Int) * k > (2 ^ 63 - 1) / 8) by
      rw[hmul]
      have:(sizeLine:Nat)≤(2^63-1) / 8:=by decide
      omega)]
    wp_walk
    rw [if_neg (show ¬ Builtin.Tuple.tupleTooMany ((its.toArray.size : Int) * k) = true by
      unfold Builtin.Tuple.tupleTooMany
      rw[hmul]
      intro z
      have:=of_decide_eq_true z
      omega)]
    rw[QU]
    wp_walk
    have hlen:(List.replicate k.toNat its).flatten.length≤sizeLine:=by rw[len_rep,Nat.mul_comm,←hl];exact hz
    rw[if_neg (show¬((List.replicate k.toNat its).flatten.toArray.size>sizeLine) by rw[List.size_toArray];omega)]
    wp_walk
    refine⟨_,rfl,.ref _,_,I.laid (o:=.tup (List.replicate k.toNat xs).flatten) (t':=s.toks) (fun b ob q=>Heap.get?_push_of_some _ q) (Nat.le_refl _) ?_,rfl,q2 h1 _ (I.hok.fresh (Nat.le_refl _))⟩
    exact⟨by rw[len_rep,Nat.mul_comm];exact hz,_,r.rep k.toNat,PyProof.Rows.IsTup.new _ _⟩
mutual
noncomputable def D.py:D->PyData
 | .non=>.none| .bl b=>.bool b| .int i=>.int i| .str x=>.str x| .ty _=>.none
 | .tup ds=>.tuple (D.pys ds)| .lst ds=>.list (D.pys ds)| .dct _=>.none| .scr _=>.none| .ref _=>.none
noncomputable def D.pys:List D->List PyData
 | []=>[]
 |d::ds=>D.py d::D.pys ds
end
mutual
noncomputable def D.lay:D->Bool
 | .non=>true| .bl _=>true| .int _=>true| .str x=>PySem.PyData.strOk x| .ty _=>false| .dct _=>false| .scr _=>false| .ref _=>false
 | .tup ds=>D.lays ds| .lst ds=>D.lays ds
noncomputable def D.lays:List D->Bool
 | []=>true
 |d::ds=>D.lay d && D.lays ds
end
mutual
theorem IX:∀{d:D},d.lay=true->d.py.canLay0=true
 | .non,_=>rfl
 | .bl _,_=>rfl
 | .int _,_=>rfl
 | .str x,h=>h
 | .ty _,h=>Bool.noConfusion h
 | .dct _,h=>Bool.noConfusion h
 | .scr _,h=>Bool.noConfusion h
 | .ref _,h=>Bool.noConfusion h
 | .tup ds,h=>by show PyData.canLayAll0 (D.pys ds)=true;exact LR h
 | .lst ds,h=>by show PyData.canLayAll0 (D.pys ds)=true;exact LR h
theorem LR:∀{ds:List D},D.lays ds=true->PyData.canLayAll0 (D.pys ds)=true
  | [],_=>rfl
  | d :: ds, h => by
    have h':(D.lay d && D.lays ds)=true:=h
    rw[Bool.and_eq_true]at h'
    show(PyData.canLay0 d.py && PyData.canLayAll0 (D.pys ds))=true
    rw[IX h'.1,LR h'.2];rfl
end
section
variable{X:Cx}{pins:List (Addr×Obj)}{σ:Sg}{H:Hp}{s:Shared}{M:Ms}
theorem Eo(I:Inv X pins σ H s){a:Addr}{xs:List V}(h:Rd H a (.lst xs)):∃its:List Value,Vals xs its/\∃o n,s.heap.get? a=some o/\o.cls=.type "list" /\o.data=.seq its.toArray n:=by
 obtain⟨z,its,n,r,e⟩:=h.ok I.hok
 exact⟨its,r,_,n,e,rfl,rfl⟩
mutual
theorem CW.reads(I:Inv X pins σ H s):∀{v:V} {d:D} {u:Value},CW X.K M H v d->RelV v u->d.lay=true->∃as,Reads s.heap u d.py as
  |_,_,_,.non,r,_=>by cases r;exact⟨_,.none⟩
  |_,_,_,.bl b,r,_=>by cases r;exact⟨_,.bool b⟩
  |_,_,_,.int b,r,_=>by obtain⟨t,rfl⟩:=r;exact⟨_,.int b t⟩
  |_,_,_,.str b,r,_=>by obtain⟨t,rfl⟩:=r;exact⟨_,.str b t⟩
  |_,_,_,.ty _,_,h=>Bool.noConfusion h
  |_,_,_,.dct _ _ _,_,h=>Bool.noConfusion h
  |_,_,_,.ref _,_,h=>Bool.noConfusion h
  |_,_,_,.scr _,_,h=>Bool.noConfusion h
  | _, _, _, .tup h rs, r, hl => by
    cases r
    obtain⟨its,rv,⟨o,e,hc,n,hd⟩,_⟩:=I.tuple h
    obtain⟨as,ra⟩:=An.reads I rs rv hl
    exact⟨as,.tuple e hc hd ra⟩
  | _, _, _, .lst h _ rs, r, hl => by
    cases r
    obtain⟨its,rv,o,n,e,hc,hd⟩:=Eo I (.inl h)
    obtain⟨as,ra⟩:=An.reads I rs rv hl
    exact⟨_,.list e hc hd ra⟩
theorem An.reads(I:Inv X pins σ H s):∀{vs:List V} {ds:List D} {us:List Value},An X.K M H vs ds->Vals vs us->D.lays ds=true->∃as,ReadsAll s.heap us (D.pys ds) as
  |_,_,_,.nil,r,_=>by cases r;exact⟨_,.nil⟩
  | _, _, _, .cons (d := d) (ds := ds) h t, r, hl => by
    cases r with
    | cons r1 r2 =>
      have hl':(D.lay d && D.lays ds)=true:=hl
      rw[Bool.and_eq_true]at hl'
      obtain⟨as,ra⟩:=CW.reads I h r1 hl'.1
      obtain⟨bs,rb⟩:=An.reads I t r2 hl'.2
      exact⟨_,.cons ra rb⟩
end
end
noncomputable def deq(a b:D):Bool:=PyData.eqv a.py b.py
noncomputable def Cy(a b:D):Bool:=a.lay && b.lay && decide (min a.py.depth b.py.depth≤60)
noncomputable def wEq:Op2:=fun a b=>if Cy (fz a) (fz b)=true then some (.val (.bl (deq (fz a) (fz b))))else none
noncomputable def wNe:Op2:=fun a b=>if Cy (fz a) (fz b)=true then some (.val (.bl (!deq (fz a) (fz b))))else none
section
variable{X:Cx}
theorem Sh.reads{pins:List (Addr×Obj)}{σ:Sg}{H:Hp}{s:Shared}{M:Ms}{v:V}{u:Value}{w:Wv}(h:Sh X.K M H v w)(I:Inv X pins σ H s)(r:RelV v u)(hl:(fz w).lay=true):∃as,Reads s.heap u (fz w).py as:=by
  cases w with
  |val d=>exact CW.reads I h r hl
  | own ds =>
    obtain⟨a,xs,rfl,h1,h2⟩:=h
    cases r
    obtain⟨its,rv,o,n,e,hc,hd⟩:=Eo I (.inl h1)
    obtain⟨as,ra⟩:=An.reads I h2 rv hl
    exact⟨_,.list e hc hd ra⟩
theorem A3(hu:X.A.units+100<cLine):OpR X (compareOp .Eq) (rOp X.K wEq):=by
 intro pins s σ H x y v u Q I rx ry h
 obtain⟨M,w1,w2,r,e,mo,s1,s2,q⟩:=h
 unfold wEq at e
 split at e
 ·rename_i hk
  unfold Cy at hk
  rw[Bool.and_eq_true,Bool.and_eq_true]at hk
  cases e
  obtain⟨as,ra⟩:=s1.reads I rx hk.1.1
  obtain⟨bs,rb⟩:=s2.reads I ry hk.1.2
  have hd:=of_decide_eq_true hk.2
  exact SeqAt.compareEq_reads ra rb (IX hk.1.1) (IX hk.1.2) (by omega) ⟨.bl _,H,I,rfl,q _ _ (.same mo (.bl _))⟩
 ·cases e
theorem Hr(hu:X.A.units+100<cLine):OpR X (compareOp .NotEq) (rOp X.K wNe):=by
 intro pins s σ H x y v u Q I rx ry h
 obtain⟨M,w1,w2,r,e,mo,s1,s2,q⟩:=h
 unfold wNe at e
 split at e
 ·rename_i hk
  unfold Cy at hk
  rw[Bool.and_eq_true,Bool.and_eq_true]at hk
  cases e
  obtain⟨as,ra⟩:=s1.reads I rx hk.1.1
  obtain⟨bs,rb⟩:=s2.reads I ry hk.1.2
  have hd:=of_decide_eq_true hk.2
  exact SeqAt.compareNe_reads ra rb (IX hk.1.1) (IX hk.1.2) (by omega) ⟨.bl _,H,I,rfl,q _ _ (.same mo (.bl _))⟩
 ·cases e
noncomputable def wI2(f:Int->Int->Option D):Op2
 | .val (.int i),.val (.int j)=>(f i j).map .val
 |_,_=>none
theorem Nq{g:Value->Value->Sem Value}{C:Int->Int->Prop}{h:Int->Int->V}{f:Int->Int->Option D}(o:OpR X g (rI C h))(hf:∀i j d,f i j=some d->C i j/\∀K M H,CW K M H (h i j) d):OpR X g (rOp X.K (wI2 f)):=by
  intro pins s σ H x y v u Q I rx ry hh
  obtain⟨M,w1,w2,r,e,mo,s1,s2,q⟩:=hh
  unfold wI2 at e
  split at e
  · cases s1
    cases s2
    rename_i i j
    cases e1:f i j with
    |none=>rw[e1]at e;cases e
    | some d =>
      rw[e1]at e
      cases e
      obtain⟨c,rd⟩:=hf i j d e1
      exact o pins s σ H _ _ v u Q I rx ry ⟨i,j,rfl,rfl,c,q _ _ (.same mo (rd _ _ _))⟩
  ·cases e
theorem LX{g:Value->Value->Sem Value}{h:Int->Int->V}{f:Int->Int->Option D}(o:OpR X g (rI0 h))(hf:∀i j d,f i j=some d->∀K M H,CW K M H (h i j) d):OpR X g (rOp X.K (wI2 f)):=by
  intro pins s σ H x y v u Q I rx ry hh
  obtain⟨M,w1,w2,r,e,mo,s1,s2,q⟩:=hh
  unfold wI2 at e
  split at e
  · cases s1
    cases s2
    rename_i i j
    cases e1:f i j with
    |none=>rw[e1]at e;cases e
    | some d =>
      rw[e1]at e
      cases e
      exact o pins s σ H _ _ v u Q I rx ry ⟨i,j,rfl,rfl,q _ _ (.same mo (hf i j d e1 _ _ _))⟩
  ·cases e
noncomputable def N5:Op2:=wI2 fun i j=>some (.int (i-j))
noncomputable def Ts:Nat:=2^60000
noncomputable def FT:Nat:=2^8000
noncomputable def Dm(i j:Int):Bool:=decide (i.natAbs<2^64)||(decide (j.natAbs<2^64)||(decide (i.natAbs<Ts) && decide (j.natAbs<Ts)))
theorem V6:OpR X (binaryOp .Mult) (rI (fun i j=>Dm i j=true) fun i j=>.int (i*j)):=by
 intro pins s σ H x y v u Q I rx ry h
 obtain⟨i,j,rfl,rfl,hk,q⟩:=h
 unfold Dm at hk
 rw[Bool.or_eq_true,Bool.or_eq_true,Bool.and_eq_true]at hk
 rcases hk with hk|hk|hk
 ·have:=of_decide_eq_true hk
  exact UT pins s σ H _ _ v u Q I rx ry ⟨i,j,rfl,rfl,.inl ⟨by omega,by omega⟩,q⟩
 ·have:=of_decide_eq_true hk
  exact UT pins s σ H _ _ v u Q I rx ry ⟨i,j,rfl,rfl,.inr ⟨by omega,by omega⟩,q⟩
 ·have h1:i.natAbs<2^60000:=of_decide_eq_true hk.1
  have h2:j.natAbs<2^60000:=of_decide_eq_true hk.2
  obtain⟨t1,rfl⟩:=rx
  obtain⟨t2,rfl⟩:=ry
  exact PyProof.Rows.mul_int ⟨.int _,H,I.tok _,⟨_,rfl⟩,q⟩ (PyProof.Rows.mulOk_of_bits (m:=60000) (n:=60000) (PySem.intBits_le_iff.mpr h1) (PySem.intBits_le_iff.mpr h2) (by decide))
noncomputable def Wf:Op2:=wI2 fun i j=>if Dm i j=true then some (.int (i*j))else none
noncomputable def NM:Op2:=wI2 fun i j=>if(decide (0<j) && decide (j.natAbs<FT))=true then some (.int (i / j))else none
noncomputable def N9:Op2:=wI2 fun i j=>if 0<j then some (.int (i % j))else none
noncomputable def Vf:Op2:=wI2 fun i j=>if(decide (0≤j) && decide (j≤1000) && decide (i.natAbs<2^64))=true then some (.int (i^j.toNat))else none
noncomputable def wLt:Op2:=wI2 fun i j=>some (.bl (decide (i<j)))
noncomputable def wGt:Op2:=wI2 fun i j=>some (.bl (decide (j<i)))
noncomputable def wGe:Op2:=wI2 fun i j=>some (.bl (decide (j≤i)))
theorem Fm:OpR X (binaryOp .Sub) (rOp X.K N5):=LX Xu fun i j d e K M H=>by cases e;exact .int _
theorem Uw:OpR X (binaryOp .Mult) (rOp X.K Wf):=Nq V6 fun i j d e=>by
 split at e
 ·rename_i hk
  cases e
  exact⟨hk,fun _ _ _=>.int _⟩
 ·cases e
theorem HD:OpR X (binaryOp .FloorDiv) (rOp X.K NM):=Nq St.Rv fun i j d e=>by
 split at e
 ·rename_i hk
  rw[Bool.and_eq_true]at hk
  cases e
  exact⟨⟨of_decide_eq_true hk.1,of_decide_eq_true hk.2⟩,fun _ _ _=>.int _⟩
 ·cases e
theorem FE:OpR X (binaryOp .Mod) (rOp X.K N9):=Nq WW fun i j d e=>by
 split at e
 ·rename_i hk
  cases e
  exact⟨hk,fun _ _ _=>.int _⟩
 ·cases e
theorem Mz:OpR X (binaryOp .Pow) (rOp X.K Vf):=Nq WR fun i j d e=>by
 split at e
 ·rename_i hk
  rw[Bool.and_eq_true,Bool.and_eq_true]at hk
  cases e
  have:=of_decide_eq_true hk.1.2
  exact⟨⟨of_decide_eq_true hk.1.1,by omega,of_decide_eq_true hk.2⟩,fun _ _ _=>.int _⟩
 ·cases e
theorem Ia:OpR X (compareOp .Lt) (rOp X.K wLt):=LX Z6 fun i j d e K M H=>by cases e;exact .bl _
theorem Lu:OpR X (compareOp .Gt) (rOp X.K wGt):=LX aJ fun i j d e K M H=>by cases e;exact .bl _
theorem Tx:OpR X (compareOp .GtE) (rOp X.K wGe):=LX Zs fun i j d e K M H=>by cases e;exact .bl _
noncomputable def asL:Wv->Option (List D)
 | .own ds=>some ds
 | .val (.lst ds)=>some ds
 |_=>none
noncomputable def asT:Wv->Option (List D)
 | .val (.tup ds)=>some ds
 |_=>none
noncomputable def asC:Wv->Option (List D)
 | .val (.scr ns)=>some (ns.map .int)
 |_=>none
noncomputable def asS(w:Wv):Option (List D):=(asL w).or ((asT w).or (asC w))
section
variable{K:PySem.W.Frag}{M:Ms}{H:Hp}{v:V}{w:Wv}{ds:List D}
theorem Sh.l(h:Sh K M H v w)(e:asL w=some ds):∃a xs,v=.ref a/\H a=some (.lst xs)/\An K M H xs ds:=by
  cases w with
  |own es=>cases e;obtain⟨a,xs,rfl,h1,h2⟩:=h;exact⟨a,xs,rfl,h1,h2⟩
  | val d =>
    cases d<;>first|(cases e;done)|skip
    cases e
    cases h with
    |lst h n r=>exact⟨_,_,rfl,h,r⟩
theorem Sh.t(h:Sh K M H v w)(e:asT w=some ds):∃a xs,v=.ref a/\SqT K H a xs/\An K M H xs ds:=by
  cases w with
  |own es=>cases e
  | val d =>
    cases d<;>first|(cases e;done)|skip
    cases e
    cases h with
    |tup h r=>exact⟨_,_,rfl,h,r⟩
theorem Kx:∀{ns:List Int},An K M H (ns.map V.int) (ns.map D.int)
 | []=>.nil
 |n::ns=>.cons (.int n) Kx
theorem Sh.c(h:Sh K M H v w)(e:asC w=some ds):∃a xs,v=.ref a/\SqL K H a xs/\An K M H xs ds:=by
  cases w with
  |own es=>cases e
  | val d =>
    cases d<;>first|(cases e;done)|skip
    cases e
    cases h with
    | scr h =>
      refine⟨_,_,rfl,?_,Kx⟩
      rcases h with h|h
      ·exact .inl h.1
      ·exact .inr h
theorem Sh.s(h:Sh K M H v w)(e:asS w=some ds):∃a xs,v=.ref a/\(SqL K H a xs∨SqT K H a xs)/\An K M H xs ds:=by
  unfold asS at e
  cases e1:asL w with
  | some es =>
    rw[e1]at e
    cases e
    obtain⟨a,xs,h1,h2,h3⟩:=h.l e1
    exact⟨a,xs,h1,.inl (.of h2),h3⟩
  | none =>
    rw[e1]at e
    cases e2:asT w with
    | some es =>
      rw[e2]at e
      cases e
      obtain⟨a,xs,h1,h2,h3⟩:=h.t e2
      exact⟨a,xs,h1,.inr h2,h3⟩
    | none =>
      rw[e2]at e
      obtain⟨a,xs,h1,h2,h3⟩:=h.c e
      exact⟨a,xs,h1,.inl h2,h3⟩
end
noncomputable def F6:Op1:=fun w=>match w with
 | .val (.str z)=>if z.length≤sizeLine then some (.val (.int z.length))else none
 |_=>(asS w).map fun ds=>.val (.int ds.length)
theorem Bn : Di X (.builtin "len") (rN X.K (o1 F6)) := by
  intro pins s σ H xs us Q I r h
  obtain⟨M,ws,w,e,mo,sh,q⟩:=h
  cases sh with
  |nil=>cases e
  | cons h1 t =>
    cases t with
    |cons h2 t=>cases e
    | nil =>
      rename_i v w1
      have e':F6 w1=some w:=e
      unfold F6 at e'
      split at e'
      · split at e'
        · rename_i z hz
          cases e'
          cases h1
          exact Mh pins s σ H _ us Q I r ⟨z,rfl,hz,q _ _ (.same mo (.int _))⟩
        ·cases e'
      · cases e1 : asS w1 with
        |none=>rw[e1]at e';cases e'
        | some ds =>
          rw[e1]at e'
          cases e'
          obtain⟨a,ys,rfl,h3,h4⟩:=h1.s e1
          refine MP pins s σ H _ us Q I r ⟨a,ys,rfl,h3,q _ _ ?_⟩
          rw[h4.length]
          exact .same mo (.int _)
noncomputable def wIx:Op2:=fun a b=>match a,b with
 |a,.val (.int i)=>(asS a).bind fun ds=>(atI ds i).map .val
 |_,_=>none
theorem VE{K:PySem.W.Frag}{M:Ms}{H:Hp}{xs:List V}{ds:List D}{i:Int}{d:D}(h:An K M H xs ds)(e:atI ds i=some d):∃x,atI xs i=some x/\CW K M H x d:=by
  unfold atI at e⊢
  rw[h.length]
  cases e1:ixN ds.length i with
  |none=>rw[e1]at e;cases e
  | some j =>
    rw[e1]at e
    exact h.get e
theorem AW:IxR X (rOp X.K wIx):=by
  intro value slice pins s σ H x y v u Q I rx ry h hs
  obtain⟨M,w1,w2,r,e,mo,s1,s2,q⟩:=h
  unfold wIx at e
  split at e
  · rename_i i
    cases e1:asS w1 with
    |none=>rw[e1]at e;cases e
    | some ds =>
      rw[e1]at e
      simp only[Option.bind_some]at e
      cases e2:atI ds i with
      |none=>rw[e2]at e;cases e
      | some d =>
        rw[e2]at e
        cases e
        cases s2
        obtain⟨a,ys,rfl,h3,h4⟩:=s1.s e1
        obtain⟨z,h5,h6⟩:=VE h4 e2
        rcases h3 with h3|h3
        ·exact U3 value slice pins s σ H _ _ v u Q I rx ry ⟨a,ys,i,z,rfl,rfl,h3,h5,q _ _ (.same mo h6)⟩ hs
        ·exact Wh value slice pins s σ H _ _ v u Q I rx ry ⟨a,ys,i,z,rfl,rfl,h3,h5,q _ _ (.same mo h6)⟩ hs
  ·cases e
end
section
variable{X:Cx}
noncomputable def A4:Op2:=fun a b=>match a,b with
 | .val (.int i),.val (.int j)=>some (.val (.int (i+j)))
 | .val (.str x),.val (.str y)=>if x.length+y.length≤sizeLine then some (.val (.str (x++y)))else none
 | .val (.tup xs),.val (.tup ys)=>if xs.length+ys.length≤sizeLine then some (.val (.tup (xs++ys)))else none
 |a,b=>(asL a).bind fun xs=>(asL b).bind fun ys=>if xs.length+ys.length≤sizeLine then some (.own (xs++ys))else none
theorem AS : OpR X (binaryOp .Add) (rOp X.K A4) := by
  intro pins s σ H x y v u Q I rx ry h
  obtain⟨M,w1,w2,r,e,mo,s1,s2,q⟩:=h
  unfold A4 at e
  split at e
  · cases e
    cases s1;cases s2
    exact Wn pins s σ H _ _ v u Q I rx ry ⟨_,_,rfl,rfl,q _ _ (.same mo (.int _))⟩
  · split at e
    · cases e
      cases s1;cases s2
      exact OR pins s σ H _ _ v u Q I rx ry ⟨_,_,rfl,rfl,by assumption,q _ _ (.same mo (.str _))⟩
    ·cases e
  · split at e
    · rename_i xs ys hz
      cases e
      cases s1 with
      | tup h1 r1 =>
        cases s2 with
        | tup h2 r2 =>
          rename_i a xs' b ys'
          have l1:=r1.length
          have l2:=r2.length
          by_cases hx:xs'=[]
          · subst hx
            cases r1
            refine St.Vt pins s σ H _ _ v u Q I rx ry ⟨_,_,_,rfl,rfl,h1,h2,q _ _ (.same mo ?_)⟩
            exact .tup h2 r2
          · refine VN pins s σ H _ _ v u Q I rx ry ⟨_, _, _, _, rfl, rfl, h1, h2, hx, by omega, fun z => ?_, fun _ p hp => q _ _ (.tup mo hp (r1.append r2))⟩
            subst z
            cases r2
            rw[List.append_nil]at q
            exact q _ _ (.same mo (.tup h1 r1))
    ·cases e
  · cases e1 : asL w1 with
    |none=>rw[e1]at e;cases e
    | some xs =>
      rw[e1]at e
      cases e2:asL w2 with
      |none=>rw[e2]at e;cases e
      | some ys =>
        rw[e2]at e
        simp only[Option.bind_some]at e
        split at e
        · rename_i hz
          cases e
          obtain⟨a,xs',rfl,h1,r1⟩:=s1.l e1
          obtain⟨b,ys',rfl,h2,r2⟩:=s2.l e2
          have l1:=r1.length
          have l2:=r2.length
          exact Ww pins s σ H _ _ v u Q I rx ry ⟨a,b,xs',ys',rfl,rfl,h1,h2,by omega,fun p hp=>q _ _ (.lst mo hp (r1.append r2))⟩
        ·cases e
noncomputable def Yb:Op2:=fun a b=>match a,b with
 | .val (.int i),.val (.int j)=>if Dm i j=true then some (.val (.int (i*j)))else none
 | .val (.tup xs),.val (.int k)=>if(!xs.isEmpty && decide (1≤k) && decide (xs.length*k.toNat≤sizeLine))=true then some (.val (.tup (List.replicate k.toNat xs).flatten))else none
 |a,.val (.int k)=>(asL a).bind fun xs=>if(decide (k<2^63) && decide (-(2^63)≤k) && decide (xs.length*k.toNat≤sizeLine))=true then some (.own (List.replicate k.toNat xs).flatten)else none
 |_,_=>none
theorem An.rep{K:PySem.W.Frag}{M:Ms}{H:Hp}{xs:List V}{ds:List D}(h:An K M H xs ds):∀n:Nat,An K M H (List.replicate n xs).flatten (List.replicate n ds).flatten
  |0=>.nil
  | n + 1 => by
    rw[List.replicate_succ,List.replicate_succ,List.flatten_cons,List.flatten_cons]
    exact h.append (An.rep h n)
theorem Qd : OpR X (binaryOp .Mult) (rOp X.K Yb) := by
  intro pins s σ H x y v u Q I rx ry h
  obtain⟨M,w1,w2,r,e,mo,s1,s2,q⟩:=h
  unfold Yb at e
  split at e
  · rename_i i j
    refine Uw pins s σ H x y v u Q I rx ry ⟨M,_,_,r,?_,mo,s1,s2,q⟩
    unfold Wf wI2
    show Option.map Wv.val (if Dm i j=true then some (D.int (i*j))else none)=some r
    split at e
    · rename_i hk
      rw[if_pos hk]
      exact e
    ·cases e
  · rename_i xs k
    split at e
    · rename_i hk
      rw[Bool.and_eq_true,Bool.and_eq_true]at hk
      cases e
      cases s2
      cases s1 with
      | @tup a ys _ h1 r1=>
        have l1:=r1.length
        have z:=of_decide_eq_true hk.2
        have hk1:=of_decide_eq_true hk.1.2
        have hne:ys≠[]:=fun zz=>by
          subst zz
          cases r1
          exact absurd hk.1.1 (by decide)
        refine Vg pins s σ H _ _ v u Q I rx ry ⟨a,ys,k,rfl,rfl,h1,hne,hk1,by rw[l1];exact z,fun e1=>?_,fun _ p hp=>q _ _ (.tup mo hp (r1.rep _))⟩
        subst e1
        have:(List.replicate (1:Int).toNat xs).flatten=xs:=by simp
        rw[this]at q
        exact q _ _ (.same mo (.tup h1 r1))
    ·cases e
  · rename_i k hn hn2
    cases e1:asL w1 with
    |none=>rw[e1]at e;cases e
    | some xs =>
      rw[e1]at e
      simp only[Option.bind_some]at e
      split at e
      · rename_i hk
        rw[Bool.and_eq_true,Bool.and_eq_true]at hk
        cases e
        cases s2
        obtain⟨a,xs',rfl,h1,r1⟩:=s1.l e1
        have l1:=r1.length
        have z:=of_decide_eq_true hk.2
        exact Xp pins s σ H _ _ v u Q I rx ry ⟨a,k,xs',rfl,rfl,h1,of_decide_eq_true hk.1.2,of_decide_eq_true hk.1.1,by rw[l1];exact z,fun p hp=>q _ _ (.lst mo hp (r1.rep _))⟩
      ·cases e
  ·cases e
noncomputable def M8:Op1
 | .val (.int i)=>some (.val (.int (-i)))
 |_=>none
theorem Ga:UnR X (unaryOp .USub) (rUn X.K M8):=by
 intro pins s σ H x v Q I rx h
 obtain⟨M,w,r,e,mo,s1,q⟩:=h
 unfold M8 at e
 split at e
 ·cases e
  cases s1
  exact W4 pins s σ H _ v Q I rx ⟨_,rfl,q _ _ (.same mo (.int _))⟩
 ·cases e
noncomputable def GR:D->Bool
 | .non=>true| .bl _=>true| .int _=>true| .str _=>true
 |_=>false
theorem Sh.flat{K:PySem.W.Frag}{M:Ms}{H:Hp}{v:V}{w:Wv}(h:Sh K M H v w)(f:GR (fz w)=true):CW K M H v (fz w):=by
 cases w with
 |val d=>exact h
 |own ds=>cases f
noncomputable def inD(x:D)(xs:List D):Bool:=xs.any fun y=>deq y x
theorem OG{K:PySem.W.Frag}{M:Ms}{H:Hp}{v:V}{d:D}(h:CW K M H v d)(f:GR d=true):Jy v=true:=by
 cases h<;>first|rfl|cases f
theorem Va{K:PySem.W.Frag}{M:Ms}{H:Hp}{v u:V}{d e:D}(h:CW K M H v d)(g:CW K M H u e)(f:GR d=true)(f':GR e=true):eqV v u=deq d e:=by
 cases h<;>first|(cases f;done)|skip
 all_goals (cases g<;>first|(cases f';done)|rfl)
theorem Ly{K:PySem.W.Frag}{M:Ms}{H:Hp}:∀{vs:List V} {ds:List D},An K M H vs ds->ds.all GR=true->vs.all Jy=true
  |_,_,.nil,_=>rfl
  | _, _, .cons h t, f => by
    rw[List.all_cons,Bool.and_eq_true]at f⊢
    exact⟨OG h f.1,Ly t f.2⟩
theorem Ph{K:PySem.W.Frag}{M:Ms}{H:Hp}{u:V}{e:D}(g:CW K M H u e)(f':GR e=true):∀{vs:List V} {ds:List D},An K M H vs ds->ds.all GR=true->inV u vs=inD e ds
  |_,_,.nil,_=>rfl
  | _, _, .cons h t, f => by
    rw[List.all_cons,Bool.and_eq_true]at f
    have ih:=Ph g f' t f.2
    unfold inV inD at ih⊢
    rw[List.any_cons,List.any_cons,ih,Va h g f.1 f']
noncomputable def wIn(neg:Bool):Op2:=fun a b=>(asS b).bind fun ds=>if(GR (fz a) && ds.all GR)=true then some (.val (.bl (if neg then !inD (fz a) ds else inD (fz a) ds)))else none
theorem Tv{M:Ms}{H:Hp}{x y:V}{w1 w2 r:Wv}{neg:Bool}{Q:VK}(e:wIn neg w1 w2=some r)(mo:MOk M H)(s1:Sh X.K M H x w1)(s2:Sh X.K M H y w2)(q:∀v H',Nw X.K M H H' v r->Q v H'):rIn X.K neg x y H Q:=by
  unfold wIn at e
  cases e1:asS w2 with
  |none=>rw[e1]at e;cases e
  | some ds =>
    rw[e1]at e
    simp only[Option.bind_some]at e
    split at e
    · rename_i hk
      rw[Bool.and_eq_true]at hk
      cases e
      obtain⟨a,xs,rfl,h3,h4⟩:=s2.s e1
      have g1:=s1.flat hk.1
      refine⟨a,xs,rfl,h3,OG g1 hk.1,Ly h4 hk.2,?_⟩
      rw[Ph g1 hk.1 h4 hk.2]
      exact q _ _ (.same mo (.bl _))
    ·cases e
theorem Jc:OpR X (compareOp .In) (rOp X.K (wIn false)):=by
 intro pins s σ H x y v u Q I rx ry h
 obtain⟨M,w1,w2,r,e,mo,s1,s2,q⟩:=h
 exact QD pins s σ H _ _ v u Q I rx ry (Tv e mo s1 s2 q)
theorem MO:OpR X (compareOp .NotIn) (rOp X.K (wIn true)):=by
 intro pins s σ H x y v u Q I rx ry h
 obtain⟨M,w1,w2,r,e,mo,s1,s2,q⟩:=h
 exact MQ pins s σ H _ _ v u Q I rx ry (Tv e mo s1 s2 q)
noncomputable def isN:Wv->Bool
 | .val .non=>true
 |_=>false
noncomputable def So(neg:Bool):Op2:=fun a b=>match b with
 | .val .non=>some (.val (.bl (if neg then !isN a else isN a)))
 |_=>none
theorem Qb{K:PySem.W.Frag}{M:Ms}{H:Hp}{x:V}{w:Wv}(s:Sh K M H x w):decide (x=.non)=isN w:=by
 cases w with
 |own ds=>obtain⟨a,xs,rfl,_⟩:=s;rfl
 |val d=>cases s<;>rfl
theorem PJ:OpR X (compareOp .Is) (rOp X.K (So false)):=by
 intro pins s σ H x y v u Q I rx ry h
 obtain⟨M,w1,w2,r,e,mo,s1,s2,q⟩:=h
 unfold So at e
 split at e
 ·cases e
  cases s2
  refine X1 pins s σ H _ _ v u Q I rx ry ⟨rfl,?_⟩
  rw[Qb s1]
  exact q _ _ (.same mo (.bl _))
 ·cases e
theorem RP:OpR X (compareOp .IsNot) (rOp X.K (So true)):=by
 intro pins s σ H x y v u Q I rx ry h
 obtain⟨M,w1,w2,r,e,mo,s1,s2,q⟩:=h
 unfold So at e
 split at e
 ·cases e
  cases s2
  refine Vy pins s σ H _ _ v u Q I rx ry ⟨rfl,?_⟩
  rw[Qb s1]
  exact q _ _ (.same mo (.bl _))
 ·cases e
theorem HW{K:PySem.W.Frag}{M:Ms}{H:Hp}{xs:List V}{ws:List Wv}{f:Op1}{r:Wv}(h:Shs K M H xs ws)(e:o1 f ws=some r):∃v w,xs=[v]/\ws=[w]/\Sh K M H v w/\f w=some r:=by
  cases h with
  |nil=>cases e
  | cons h1 t =>
    cases t with
    |cons h2 t=>cases e
    |nil=>exact⟨_,_,rfl,rfl,h1,e⟩
theorem LM{K:PySem.W.Frag}{M:Ms}{H:Hp}{xs:List V}{ws:List Wv}{f:Op2}{r:Wv}(h:Shs K M H xs ws)(e:o2 f ws=some r):∃v w v' w',xs=[v,v']/\ws=[w,w']/\Sh K M H v w/\Sh K M H v' w'/\f w w'=some r:=by
  cases h with
  |nil=>cases e
  | cons h1 t =>
    cases t with
    |nil=>cases e
    | cons h2 t =>
      cases t with
      |cons h3 t=>cases e
      |nil=>exact⟨_,_,_,_,rfl,rfl,h1,h2,e⟩
noncomputable def Yy:Op1
 | .val (.int i)=>some (.val (.int (if i<0 then-i else i)))
 |_=>none
theorem QG:Di X (.builtin "abs") (rN X.K (o1 Yy)):=by
 intro pins s σ H xs us Q I r h
 obtain⟨M,ws,w,e,mo,sh,q⟩:=h
 obtain⟨v,w1,rfl,rfl,s1,e1⟩:=HW sh e
 unfold Yy at e1
 split at e1
 ·cases e1
  cases s1
  exact Rz pins s σ H _ us Q I r ⟨_,rfl,q _ _ (.same mo (.int _))⟩
 ·cases e1
noncomputable def Y1:Op2:=wI2 fun i j=>some (.int (if j>i then j else i))
noncomputable def V9:Op2:=wI2 fun i j=>some (.int (if j<i then j else i))
theorem Np{f:Int->Int->Option D}{a b r:Wv}(e:wI2 f a b=some r):∃i j d,a=.val (.int i)/\b=.val (.int j)/\f i j=some d/\r=.val d:=by
 unfold wI2 at e
 split at e
 ·rename_i i j
  cases e1:f i j with
  |none=>rw[e1]at e;cases e
  |some d=>rw[e1]at e;cases e;exact⟨i,j,d,rfl,rfl,e1,rfl⟩
 ·cases e
theorem Pe(hc:X.calm=true):Di X (.builtin "max") (rN X.K (o2 Y1)):=by
 intro pins s σ H xs us Q I r h
 obtain⟨M,ws,w,e,mo,sh,q⟩:=h
 obtain⟨v,w1,v',w2,rfl,rfl,s1,s2,e1⟩:=LM sh e
 obtain⟨i,j,d,rfl,rfl,e2,rfl⟩:=Np e1
 cases e2;cases s1;cases s2
 exact Ou hc pins s σ H _ us Q I r ⟨_,_,rfl,q _ _ (.same mo (.int _))⟩
theorem MR(hc:X.calm=true):Di X (.builtin "min") (rN X.K (o2 V9)):=by
 intro pins s σ H xs us Q I r h
 obtain⟨M,ws,w,e,mo,sh,q⟩:=h
 obtain⟨v,w1,v',w2,rfl,rfl,s1,s2,e1⟩:=LM sh e
 obtain⟨i,j,d,rfl,rfl,e2,rfl⟩:=Np e1
 cases e2;cases s1;cases s2
 exact QX hc pins s σ H _ us Q I r ⟨_,_,rfl,q _ _ (.same mo (.int _))⟩
noncomputable def BK:Op1:=fun w=>(asS w).map fun ds=>.val (.tup ds)
theorem Ar:Di X (.type "tuple") (rN X.K (o1 BK)):=by
  intro pins s σ H xs us Q I r h
  obtain⟨M,ws,w,e,mo,sh,q⟩:=h
  obtain⟨v,w1,rfl,rfl,s1,e1⟩:=HW sh e
  unfold BK at e1
  cases e2:asS w1 with
  |none=>rw[e2]at e1;cases e1
  | some ds =>
    rw[e2]at e1
    cases e1
    obtain⟨a,ys,rfl,h3,h4⟩:=s1.s e2
    refine LA pins s σ H _ us Q I r ⟨a,ys,rfl,?_⟩
    rcases h3 with h3|h3
    ·exact .inl ⟨h3,fun l hl=>q _ _ (.tup mo hl h4)⟩
    ·exact .inr ⟨h3,q _ _ (.same mo (.tup h3 h4))⟩
noncomputable def E7:Op1:=fun w=>(asS w).map fun ds=>.own ds
theorem Ek:Di X (.type "list") (rN X.K (o1 E7)):=by
  intro pins s σ H xs us Q I r h
  obtain⟨M,ws,w,e,mo,sh,q⟩:=h
  obtain⟨v,w1,rfl,rfl,s1,e1⟩:=HW sh e
  unfold E7 at e1
  cases e2:asS w1 with
  |none=>rw[e2]at e1;cases e1
  | some ds =>
    rw[e2]at e1
    cases e1
    obtain⟨a,ys,rfl,h3,h4⟩:=s1.s e2
    exact Mq pins s σ H _ us Q I r ⟨a,ys,rfl,h3,fun l hl=>q _ _ (.lst mo hl h4)⟩
noncomputable def Oo:Op1
 | .val (.int i)=>some (.val (.int i))
 | .val (.bl b)=>some (.val (.int (if b then 1 else 0)))
 |_=>none
theorem Fo:Di X (.type "int") (rN X.K (o1 Oo)):=by
 intro pins s σ H xs us Q I r h
 obtain⟨M,ws,w,e,mo,sh,q⟩:=h
 obtain⟨v,w1,rfl,rfl,s1,e1⟩:=HW sh e
 unfold Oo at e1
 split at e1
 ·cases e1;cases s1
  exact MJ pins s σ H _ us Q I r (.inl ⟨_,rfl,q _ _ (.same mo (.int _))⟩)
 ·cases e1;cases s1
  exact MJ pins s σ H _ us Q I r (.inr ⟨_,rfl,q _ _ (.same mo (.int _))⟩)
 ·cases e1
noncomputable def blD:D->Option Bool
 | .bl b=>some b
 |_=>none
noncomputable def bls(ds:List D):Option (List Bool):=ds.mapM blD
theorem PQ {K : PySem.W.Frag} {M : Ms} {H : Hp} : ∀ {vs : List V} {ds : List D} {bs : List Bool}, An K M H vs ds -> bls ds = some bs -> vs = bs.map V.bl
  |_,_,bs,.nil,e=>by cases e;rfl
  | _, _, bs, .cons (d := d) (ds := ds) h t, e => by
    unfold bls at e
    rw[List.mapM_cons]at e
    cases e1:blD d with
    |none=>rw[e1]at e;cases e
    | some b =>
      rw[e1]at e
      cases e2:ds.mapM blD with
      |none=>rw[e2]at e;cases e
      | some cs =>
        rw[e2]at e
        cases e
        have hd:d=.bl b:=by
          cases d<;>first|(cases e1;done)|skip
          cases e1;rfl
        subst hd
        cases h
        rw[List.map_cons,←PQ t e2]
noncomputable def Xz:Op1:=fun w=>(asL w).bind fun ds=>(bls ds).map fun bs=>.val (.bl (bs.all id))
theorem MM(hc:X.calm=true):Di X (.builtin "all") (rN X.K (o1 Xz)):=by
  intro pins s σ H xs us Q I r h
  obtain⟨M,ws,w,e,mo,sh,q⟩:=h
  obtain⟨v,w1,rfl,rfl,s1,e1⟩:=HW sh e
  unfold Xz at e1
  cases e2:asL w1 with
  |none=>rw[e2]at e1;cases e1
  | some ds =>
    rw[e2]at e1
    simp only[Option.bind_some]at e1
    cases e3:bls ds with
    |none=>rw[e3]at e1;cases e1
    | some bs =>
      rw[e3]at e1
      cases e1
      obtain⟨a,ys,rfl,h3,h4⟩:=s1.l e2
      exact St.Pf hc pins s σ H _ us Q I r ⟨a,bs,rfl,by rw[←PQ h4 e3];exact .of h3,q _ _ (.same mo (.bl _))⟩
noncomputable def kdW:Wv->Option St.Kd
 | .own _=>some .lst
 | .val .non=>some .non| .val (.bl _)=>some .bl| .val (.int _)=>some .int| .val (.str _)=>some .str| .val (.lst _)=>some .lst| .val (.dct _)=>some .dct| .val (.tup _)=>some .tup
 | .val (.ty _)=>none| .val (.scr _)=>none| .val (.ref _)=>none
end
section
variable{X:Cx}
theorem RC{K:PySem.W.Frag}(k:St.Kd):PySem.W.kitOne K (.type k.ty) (.type "list")=some (k.isA "list"):=by
 cases k<;>rfl
noncomputable def Jk(T:String):Bool:=T== "int" ||T== "bool" ||T== "tuple" ||T== "str" ||T== "list"
theorem Pk{K:PySem.W.Frag}{T:String}(h:Jk T=true)(k:St.Kd):PySem.W.kitOne K (.type k.ty) (.type T)=some (k.isA T):=by
 unfold Jk at h
 simp only[Bool.or_eq_true,beq_iff_eq]at h
 rcases h with(((rfl|rfl)|rfl)|rfl)|rfl
 ·exact St.V2 k
 ·exact St.SQ k
 ·exact St.kit_tuple k
 ·exact St.VU k
 ·exact RC k
noncomputable def LV:Op2:=fun a t=>match t with
 | .val (.ty T)=>if Jk T=true then(kdW a).map fun k=>.val (.bl (k.isA T))else none
 |_=>none
theorem CI : Di X (.builtin "isinstance") (rN X.K (o2 LV)) := by
  intro pins s σ H xs us Q I r h
  obtain⟨M,ws,w,e,mo,sh,q⟩:=h
  obtain⟨v,w1,v',w2,rfl,rfl,s1,s2,e1⟩:=LM sh e
  unfold LV at e1
  split at e1
  · rename_i T
    split at e1
    · rename_i hT
      cases e2:kdW w1 with
      |none=>rw[e2]at e1;cases e1
      | some k =>
        rw[e2]at e1
        cases e1
        cases s2
        obtain⟨u1,u2,rfl,r1,r2⟩:=r.two
        cases (show u2=Value.type T from r2)
        have fin:∀tk,EP X pins σ Q (.bool (k.isA T)) {s with toks:=tk}:=fun tk=>⟨.bl _,H,I.tok tk,rfl,q _ _ (.same mo (.bl _))⟩
        have kk:=Pk (K:=X.K) hT k
        cases w1 with
        | own ds =>
          cases e2
          obtain⟨a,ys,rfl,h1,_⟩:=s1
          exact Dw I r1 (.lst h1) kk fin
        | val d =>
          have s1':CW X.K M H v d:=s1
          cases s1' with
          |non=>cases e2;exact Dw I r1 .non kk fin
          |bl b=>cases e2;exact Dw I r1 (.bl b) kk fin
          |int b=>cases e2;exact Dw I r1 (.int b) kk fin
          |str b=>cases e2;exact Dw I r1 (.str b) kk fin
          |ty b=>cases e2
          |scr h=>cases e2
          |lst h n rr=>cases e2;exact Dw I r1 (.lst h) kk fin
          |dct h n rr=>cases e2;exact Dw I r1 (.dK h) kk fin
          |ref h=>cases e2
          | tup h rr =>
            cases e2
            rename_i a ys ds
            cases (show u1=Value.ref a from r1)
            obtain⟨its,_,⟨o,h1,h2,_⟩,_⟩:=I.tuple h
            exact PySem.W.kia_one PySem.W.kitx_tuple I.kIn ⟨o,h1,h2⟩ kk (fun z=>nomatch z) fin
    ·cases e1
  ·cases e1
noncomputable def B4(fs:List Ev):Ev:=fun E S=>(evs fs E S).bind fun r=>if r.1.length≤sizeLine then some (.tup r.1,r.2)else none
noncomputable def SM(c:Bool)(fs:List Ev):Ev:=fun E S=>(evs fs E S).bind fun r=>if r.1.length≤sizeLine then fin c (.own r.1) r.2 else none
abbrev D9:=SM false
abbrev Gw:=SM true
theorem Az{es:List Expr}{fs:List Ev}{k:Nat}{pos:Pos}(h:DEs X es fs):DE X (.Tuple es k pos) (B4 fs):=⟨Bz (Wo h.pe) fun σ H Q z=>by
 obtain⟨M,E,S,d,S',e,r,st,q⟩:=z
 obtain⟨⟨ds,S1⟩,e1,e⟩:=BA e
 dsimp only at e
 split at e
 ·cases e
  refine Gp e1 r st fun vs H1 M1 g1 st1 d1=>⟨by rw[d1.length];assumption,fun p hp=>?_⟩
  have n:=Nw.tup st1.mo hp d1
  exact q _ _ M1 (g1.trans (.grow st1.mo n.grow)) (st1.grow n.grow) n.rel
 ·cases e⟩
theorem BI{c:Bool}{es:List Expr}{fs:List Ev}{pos:Pos}(h:DEs X es fs):DE X (.List es pos) (SM c fs):=⟨Bz (Wd h.pe) fun σ H Q z=>by
 obtain⟨M,E,S,d,S',e,r,st,q⟩:=z
 obtain⟨⟨ds,S1⟩,e1,e⟩:=BA e
 dsimp only at e
 split at e
 ·refine Gp e1 r st fun vs H1 M1 g1 st1 d1=>⟨by rw[d1.length];assumption,fun p hp=>?_⟩
  obtain⟨M2,g2,st2,d2⟩:=(Nw.lst st1.mo hp d1).fin st1 e
  exact q _ _ M2 (g1.trans g2) st2 d2
 ·cases e⟩
noncomputable def Gk(f g:Ev):Ev:=fun E S=>(f E S).bind fun r=>match r.1 with
 | .bl true=>g E r.2
 | .bl false=>some (.bl false,r.2)
 |_=>none
noncomputable def eOr(f g:Ev):Ev:=fun E S=>(f E S).bind fun r=>match r.1 with
 | .bl false=>g E r.2
 | .bl true=>some (.bl true,r.2)
 |_=>none
noncomputable def Tp(f:Ev):Ev:=fun E S=>(f E S).bind fun r=>match r.1 with
 | .bl b=>some (.bl (!b),r.2)
 |_=>none
theorem Nu{K:PySem.W.Frag}{M:Ms}{H:Hp}{v:V}{b:Bool}(h:CW K M H v (.bl b)):v=.bl b:=by cases h;rfl
variable{a b c:Expr}{rest:List Expr}{f g h:Ev}{pos:Pos}
theorem GJ{op:BoolOp}(h:DE X a f):DE X (.BoolOp op [a] pos) f:=⟨Wl h.pe⟩
theorem Fi(ha:DE X a f)(hb:DE X (.BoolOp .And (b::rest) pos) g):DE X (.BoolOp .And (a::b::rest) pos) (Gk f g):=⟨Bz (Xr ha.pe hb.pe) fun σ H Q z=>by
 obtain⟨M,E,S,d,S',e,r,st,q⟩:=z
 obtain⟨⟨d1,S1⟩,e1,e⟩:=BA e
 dsimp only at e
 refine⟨M,E,S,d1,S1,e1,r,st,fun v H1 M1 g1 st1 r1=>?_⟩
 split at e
 ·cases Nu r1
  refine⟨_,rfl,?_⟩
  refine V8 ?_
  exact⟨M1,E,S1,d,S',e,r.step g1.st,st1,fun v H2 M2 g2 st2 r2=>q _ _ M2 (g1.trans g2) st2 r2⟩
 ·cases e
  cases Nu r1
  refine⟨_,rfl,?_⟩
  refine WA ?_
  exact q _ _ M1 g1 st1 r1
 ·cases e⟩
theorem X6(ha:DE X a f):DE X (.UnaryOp .Not a pos) (Tp f):=⟨Bz (XO ha.pe) fun σ H Q z=>by
 obtain⟨M,E,S,d,S',e,r,st,q⟩:=z
 obtain⟨⟨d1,S1⟩,e1,e⟩:=BA e
 dsimp only at e
 split at e
 ·cases e
  refine⟨M,E,S,_,_,e1,r,st,fun v H1 M1 g1 st1 r1=>?_⟩
  cases Nu r1
  exact⟨_,rfl,q _ _ M1 g1 st1 (.bl _)⟩
 ·cases e⟩
noncomputable def tDT(K:PySem.W.Frag)(f:Ev):TT:=fun σ H Q=>∃M E S b S',f E S=some (.bl b,S')/\EnR K M E σ H/\StR K M S H/\∀H' M',Gr M H M' H'->StR K M' S' H'->Q b H'
structure DT(X:Cx)(e:Expr)(f:Ev):Prop where
 pe:PT X e (tDT X.K f)
structure DW(X:Cx)(e:Expr)(f:Ev):Prop where
 pe:PW X e (tDT X.K f)
theorem DW.dt(h:DW X a f):DT X a f:=⟨PW.pt h.pe⟩
theorem Vu{t:TE}(h:PT X a (XZ t))(m:∀σ H Q,tD X.K f σ H Q->t σ H Q):DT X a f:=⟨QP h fun σ H Q z=>by
 obtain⟨M,E,S,b,S',e,r,st,q⟩:=z
 refine m _ _ _ ⟨M,E,S,_,S',e,r,st,fun v H1 M1 g1 st1 r1=>?_⟩
 cases Nu r1
 exact⟨_,rfl,q _ M1 g1 st1⟩⟩
theorem KA(h:DE X a f)(he:∀whole,isTrue a X.env whole=(do let v←whole;standAt a.pos;holding [v] (truthy v)):=by intro _;rfl):DT X a f:=Vu (t:=tD X.K f) (XI h.pe he) fun _ _ _ z=>z
theorem Ad{fa fb:Ev}{op:CmpOp}{f:Op2}(ho:OpR X (compareOp op) (rOp X.K f))(ha:DE X a fa)(hb:DE X b fb)(hm:behindInMarks op b=false:=by rfl):DT X (.Compare a [op] [b] pos) (eOp (o2 f) [fa,fb]):=
 Vu (V3 ho ha.pe hb.pe hm) fun _ _ _ h=>Nt h
theorem T7(ha:DT X a f):DT X (.UnaryOp .Not a pos) (Tp f):=⟨QP (X7 ha.pe) fun σ H Q z=>by
 obtain⟨M,E,S,b,S',e,r,st,q⟩:=z
 obtain⟨⟨w1,S1⟩,e1,e⟩:=BA e
 dsimp only at e
 split at e
 ·cases e
  exact⟨M,E,S,_,_,e1,r,st,q⟩
 ·cases e⟩
theorem GX(ha:DT X a f):DW X (.BoolOp .And [a] pos) f:=⟨Um ha.pe⟩
theorem Me(ha:DT X a f):DW X (.BoolOp .Or [a] pos) f:=⟨Wt ha.pe⟩
theorem Ow{e:Expr}{t t':TT}(h:PW X e t)(m:∀σ H Q,t' σ H Q->t σ H Q):PW X e t':=fun wh pins s σ H Q I q=>h wh pins s σ H Q I (m _ _ _ q)
theorem JN(ha:DT X a f)(hb:DW X (.BoolOp .And (b::rest) pos) g):DW X (.BoolOp .And (a::b::rest) pos) (Gk f g):=⟨Ow (Xq ha.pe hb.pe) fun σ H Q z=>by
 obtain⟨M,E,S,k,S',e,r,st,q⟩:=z
 obtain⟨⟨w1,S1⟩,e1,e⟩:=BA e
 dsimp only at e
 split at e
 ·refine⟨M,E,S,_,S1,e1,r,st,fun H1 M1 g1 st1=>?_⟩
  refine V8 ?_
  exact⟨M1,E,S1,k,S',e,r.step g1.st,st1,fun H2 M2 g2 st2=>q _ M2 (g1.trans g2) st2⟩
 ·cases e
  refine⟨M,E,S,_,_,e1,r,st,fun H1 M1 g1 st1=>?_⟩
  refine WA ?_
  exact q _ M1 g1 st1
 ·cases e⟩
theorem PC(ha:DT X a f)(hb:DW X (.BoolOp .Or (b::rest) pos) g):DW X (.BoolOp .Or (a::b::rest) pos) (eOr f g):=⟨Ow (Z8 ha.pe hb.pe) fun σ H Q z=>by
 obtain⟨M,E,S,k,S',e,r,st,q⟩:=z
 obtain⟨⟨w1,S1⟩,e1,e⟩:=BA e
 dsimp only at e
 split at e
 ·refine⟨M,E,S,_,S1,e1,r,st,fun H1 M1 g1 st1=>?_⟩
  refine WA ?_
  exact⟨M1,E,S1,k,S',e,r.step g1.st,st1,fun H2 M2 g2 st2=>q _ M2 (g1.trans g2) st2⟩
 ·cases e
  refine⟨M,E,S,_,_,e1,r,st,fun H1 M1 g1 st1=>?_⟩
  refine V8 ?_
  exact q _ M1 g1 st1
 ·cases e⟩
end
inductive Fl where
 |nx
 |ret (d:D)
abbrev Ex:=En->Sto->Option (Fl×En×Sto)
def End(K:PySem.W.Frag)(M:Ms)(H:Hp)(Dn:Ends)(E':En)(S':Sto):Fl->Prop
 | .nx=>∀σ' H' M',Gr M H M' H'->EnR K M' E' σ' H'->StR K M' S' H'->Dn.nx σ' H'
 | .ret d=>∀v H' M',Gr M H M' H'->StR K M' S' H'->CW K M' H' v d->Dn.rt v H'
noncomputable def tX(K:PySem.W.Frag)(f:Ex):TS:=fun Dn σ H=>∃M E S fl E' S',f E S=some (fl,E',S')/\EnR K M E σ H/\StR K M S H/\End K M H Dn E' S' fl
structure DS(X:Cx)(st:Stmt)(f:Ex):Prop where
 pe:PS X st (tX X.K f)
structure DSs(X:Cx)(st:List Stmt)(f:Ex):Prop where
 pe:PSs X st (tX X.K f)
theorem ES{X:Cx}{e:Stmt}{t t':TS}(h:PS X e t)(m:∀Dn σ H,t' Dn σ H->t Dn σ H):PS X e t':=fun pins s σ H Dn I q=>h pins s σ H Dn I (m _ _ _ q)
theorem N2{X:Cx}{e:List Stmt}{t t':TS}(h:PSs X e t)(m:∀Dn σ H,t' Dn σ H->t Dn σ H):PSs X e t':=fun pins s σ H Dn I q=>h pins s σ H Dn I (m _ _ _ q)
theorem End.later{K:PySem.W.Frag}{M M1:Ms}{H H1:Hp}{Dn:Ends}{E':En}{S':Sto}{fl:Fl}(q:End K M H Dn E' S' fl)(g:Gr M H M1 H1):End K M1 H1 Dn E' S' fl:=by
 cases fl with
 |nx=>exact fun σ' H' M' g' r st=>q σ' H' M' (g.trans g') r st
 |ret d=>exact fun v H' M' g' st r=>q v H' M' (g.trans g') st r
noncomputable def AY(f g:Ex):Ex:=fun E S=>(f E S).bind fun r=>match r.1 with
 | .nx=>g r.2.1 r.2.2
 | .ret w=>some (.ret w,r.2)
noncomputable def CD:Ex:=fun E S=>some (.nx,E,S)
section
variable{X:Cx}{st:Stmt}{rest a b:List Stmt}{f g h:Ex}{c e:Expr}{k:Ev}{pos:Pos}
theorem Am:DSs X [] CD:=⟨N2 U9 fun Dn σ H z=>by
 obtain⟨M,E,S,fl,E',S',e,r,st,q⟩:=z
 cases e
 exact q _ _ M (.refl st.mo) r st⟩
theorem AF(h1:DS X st f)(h2:DSs X rest g):DSs X (st::rest) (AY f g):=⟨N2 (SW h1.pe h2.pe) fun Dn σ H z=>by
 obtain⟨M,E,S,fl,E',S',e,r,st,q⟩:=z
 obtain⟨⟨f1,E1,S1⟩,e1,e⟩:=BA e
 dsimp only at e
 split at e
 ·exact⟨M,E,S,.nx,E1,S1,e1,r,st,fun σ1 H1 M1 g1 r1 st1=>⟨M1,E1,S1,fl,E',S',e,r1,st1,q.later g1⟩⟩
 ·cases e
  exact⟨M,E,S,.ret _,_,_,e1,r,st,q⟩⟩
theorem AL(h1:DS X st f):DSs X [st] f:=⟨Vi h1.pe⟩
noncomputable def xIf(c:Ev)(f g:Ex):Ex:=fun E S=>(c E S).bind fun r=>match r.1 with
 | .bl true=>f E r.2
 | .bl false=>g E r.2
 |_=>none
theorem Bf(hc:DT X c k)(ha:DSs X a f)(hb:DSs X b g):DS X (.If c a b pos) (xIf k f g):=⟨ES (Zw hc.pe ha.pe hb.pe) fun Dn σ H z=>by
 obtain⟨M,E,S,fl,E',S',e,r,st,q⟩:=z
 obtain⟨⟨w1,S1⟩,e1,e⟩:=BA e
 dsimp only at e
 split at e
 ·refine⟨M,E,S,_,S1,e1,r,st,fun H1 M1 g1 st1=>?_⟩
  refine V8 ?_
  exact⟨M1,E,S1,fl,E',S',e,r.step g1.st,st1,q.later g1⟩
 ·refine⟨M,E,S,_,S1,e1,r,st,fun H1 M1 g1 st1=>?_⟩
  refine WA ?_
  exact⟨M1,E,S1,fl,E',S',e,r.step g1.st,st1,q.later g1⟩
 ·cases e⟩
noncomputable def BQ(k:Ev):Ex:=fun E S=>(k E S).map fun r=>(.ret r.1,E,r.2)
theorem AU(h:DE X e k):DS X (.Return (some e) pos) (BQ k):=⟨ES (W0 h.pe) fun Dn σ H z=>by
 obtain⟨M,E,S,fl,E',S',e,r,st,q⟩:=z
 obtain⟨⟨d,S1⟩,e1,e⟩:=JM e
 cases e
 exact⟨M,E,S,d,S1,e1,r,st,fun v H1 M1 g1 st1 r1=>q _ _ M1 g1 st1 r1⟩⟩
end
section
variable{K:PySem.W.Frag}{M:Ms}{E:En}{σ:Sg}{H:Hp}{i:Nat}{d:D}{v:V}
theorem EnR.put(r:EnR K M E σ H)(rd:CW K M H v d):EnR K M (E.set i (some d)) (σ.set i (some v)) H:=by
 refine⟨by rw[List.length_set,List.length_set];exact r.len,fun j e ej=>?_⟩
 by_cases h:i=j
 ·subst h
  by_cases hi:i<E.length
  ·rw[List.getElem?_set_self hi]at ej
   cases ej
   exact⟨v,List.getElem?_set_self (by rw[←r.len];exact hi),rd⟩
  ·rw[List.getElem?_eq_none_iff.mpr (by rw[List.length_set];omega)]at ej;cases ej
 ·rw[List.getElem?_set_ne h]at ej
  obtain⟨v',h1,h2⟩:=r.val j e ej
  exact⟨v',by rw[List.getElem?_set_ne h];exact h1,h2⟩
end
noncomputable def Bc(i:Nat)(k:Ev):Ex:=fun E S=>(k E S).map fun r=>(.nx,E.set i (some r.1),r.2)
theorem Av{X:Cx}{e:Expr}{k:Ev}{pos pos':Pos}(i:Nat){x:Str}(h:DE X e k)(hN:X.N.Nodup)(hi:X.N[i]?=some x:=by rfl)(hx:Loc X.env.scope x:=by first|exact Or.inl rfl|exact Or.inr rfl)
  (hs:swapsWith e (some (.Name x pos')) pos.line X.env=pure false:=by rfl) (hf:X.fn x=true∨X.env.scope.names.lookup x=some .local:=by first|exact .inl rfl|exact .inr rfl):DS X (.Assign [.Name x pos'] e pos) (Bc i k):=⟨
 ES (W2 hN hi hx h.pe hs hf) fun Dn σ H z=>by
  obtain⟨M,E,S,fl,E',S',e,r,st,q⟩:=z
  obtain⟨⟨d,S1⟩,e1,e⟩:=JM e
  cases e
  exact⟨M,E,S,d,S1,e1,r,st,fun v H1 M1 g1 st1 r1=>q _ _ M1 g1 ((r.step g1.st).put r1) st1⟩⟩
noncomputable def Dx(k:Ev):Ex:=fun E S=>(k E S).map fun r=>(.nx,E,r.2)
theorem DF{X:Cx}{e:Expr}{k:Ev}{pos:Pos}(h:DE X e k)(hs:swapsWith e none pos.line X.env=pure false:=by rfl):DS X (.Expr e pos) (Dx k):=⟨ES (U7 h.pe hs) fun Dn σ H z=>by
 obtain⟨M,E,S,fl,E',S',e,r,st,q⟩:=z
 obtain⟨⟨d,S1⟩,e1,e⟩:=JM e
 cases e
 exact⟨M,E,S,d,S1,e1,r,st,fun v H1 M1 g1 st1 r1=>q _ _ M1 g1 (r.step g1.st) st1⟩⟩
noncomputable def Dg(S:Sto)(n:Nat):Option (List D):=match S[n]? with
 |some (.lst ds)=>some ds
 |_=>none
theorem Dt{S:Sto}{n:Nat}{ds:List D}(h:Dg S n=some ds):S[n]?=some (.lst ds):=by
 unfold Dg at h
 split at h
 ·rename_i e
  cases h
  exact e
 ·cases h
abbrev Mo:=Sto->List D->List D->Option (D×List D)
noncomputable def Lo(op:Mo)(f:Ev)(fs:List Ev):Ev:=fun E S=>(f E S).bind fun r=>match r.1 with
 | .ref n=>(Dg r.2 n).bind fun _=>(evs fs E r.2).bind fun p=>(Dg p.2 n).bind fun ds=>(op p.2 ds p.1).map fun q=>(q.1,p.2.set n (.lst q.2))
 |_=>none
def Ym(K:PySem.W.Frag)(op:Mo):V->List V->Hp->VK->Prop:=fun x vs H Q=>∃M S n a ds args d ds',x=.ref a/\M.cel[n]?=some a/\S[n]?=some (.lst ds)/\op S ds args=some (d,ds')/\StR K M S H/\An K M H vs args/\∀v H',StR K M (S.set n (.lst ds')) H'->Gr M H M H'->CW K M H' v d->Q v H'
section
variable{X:Cx}
theorem Xh{op:Mo}{f:Ev}{fs:List Ev}{σ:Sg}{H:Hp}{Q:VK}(h:tD X.K (Lo op f fs) σ H Q):tBM X.K "list" (Ym X.K op) (tD X.K f) (tDs X.K fs) σ H Q:=by
  obtain⟨M,E,S,d,S',e,r,st,q⟩:=h
  obtain⟨⟨d1,S1⟩,e1,e⟩:=BA e
  dsimp only at e
  split at e
  · rename_i n
    obtain⟨ds0,e2,e⟩:=BA e
    obtain⟨⟨args,S2⟩,e3,e⟩:=BA e
    obtain⟨ds,e4,e⟩:=BA e
    obtain⟨⟨dd,ds'⟩,e5,e⟩:=JM e
    cases e
    refine⟨M,E,S,_,S1,e1,r,st,fun v H1 M1 g1 st1 r1=>?_⟩
    cases r1 with
    | ref hc =>
      rename_i a
      obtain⟨xs,h1,h2⟩:=st1.cell n a _ hc (Dt e2)
      refine⟨.inl ⟨rfl,xs,.of h1⟩,?_⟩
      refine Gp e3 (r.step g1.st) st1 fun vs H2 M2 g2 st2 r2=>?_
      exact⟨M2,S2,n,a,ds,args,dd,ds',rfl,Lh g2.pre hc,Dt e4,e5,st2,r2,fun v H3 st3 g3 r3=>q _ _ M2 ((g1.trans g2).trans g3) st3 r3⟩
  ·cases e
theorem Gy{id:String}{name:Str}{o e:Expr}{es:List Expr}{op:Mo}{f:Ev}{fs:List Ev}{apos cpos:Pos}(slot:Slot "list" name id)(hty:typeOf (.builtin id)=pure (.type "method_descriptor"))(hm:MtR X id (Ym X.K op))(ho:DE X o f)(ha:DEs X (e::es) fs)
  (hbase:attributeBase o name X.env (eval o X.env)=eval o X.env:=by rfl)
  (hfew:((backTo cpos (starEach (e::es) X.env)).all (fun x=> !x.1) && (backToKw cpos (keywordEach [] X.env)).all (fun x=>x.1.isSome)
   && decide ((e::es).length+([]:List Keyword).length+(if([]:List Keyword).isEmpty then 0 else 1)<30))=true:=by rfl)
  (hline:(apos.endLine==cpos.line)=true:=by rfl) (hs:starEach (e::es) X.env=(false,eval e X.env)::starEach es X.env:=by rfl) (hplain:(backTo cpos (starEach es X.env)).any (·.1)=false:=by rfl):
  DE X (.Call (.Attribute o name apos) (e::es) [] cpos) (Lo op f fs):=⟨Bz (Z3 PySem.F.plainAttrs_list slot hty hm ho.pe ha.pe hbase hfew hline hs hplain) fun σ H Q z=>Xh z⟩
noncomputable def MC:Mo
 |_,ds,[x]=>if ds.length<sizeLine then some (.non,ds++[x])else none
 |_,_,_=>none
theorem OF{K:PySem.W.Frag}{M:Ms}{H:Hp}{vs:List V}{d:D}(h:An K M H vs [d]):∃v,vs=[v]/\CW K M H v d:=by
 cases h with
 |cons h t=>cases t;exact⟨_,rfl,h⟩
theorem Fb:MtR X "list.append" (Ym X.K MC):=by
 intro pins s σ H x vs v us Q I rx rv h
 obtain⟨M,S,n,a,ds,args,d,ds',rfl,hc,hn,e,st,ra,q⟩:=h
 unfold MC at e
 split at e
 ·split at e
  ·rename_i hz
   cases e
   obtain⟨xs,h1,h2⟩:=st.cell n a _ hc hn
   obtain⟨y,rfl,ry⟩:=OF ra
   obtain⟨st2,g2⟩:=st.chg hc hn (h2.append (.cons ry .nil))
   exact Lv pins s σ H _ _ v us Q I rx rv ⟨a,xs,y,rfl,rfl,h1,by rw[h2.length];exact hz,q _ _ st2 g2 .non⟩
  ·cases e
 ·cases e
end
noncomputable def FD(k f o:Ev):Ex:=fun E S=>(k E S).bind fun r=>(f E r.2).bind fun b=>(o E b.2).bind fun i=>match b.1,i.1 with
 | .ref n,.int j=>(Dg i.2 n).bind fun ds=>(ixN ds.length j).map fun m=>(.nx,E,i.2.set n (.lst (ds.set m r.1)))
 |_,_=>none
theorem BL{X:Cx}{e t bs:Expr}{k f o:Ev}{ps pos:Pos}(h:DE X e k)(hb:DE X bs f)(ht:DE X t o)
    (ha:∀v,assign (.Subscript bs t ps) X.env v=(do
      let ov←holding [v] (eval bs X.env)
      let iv←holding [v,ov] (eval t X.env)
      standAt ps
      holding [v,ov,iv] (setItem ov iv v)
      release [v,ov,iv] []):=by intro _;rfl)
    (hs:swapsWithSole [.Subscript bs t ps] e pos.line X.env=pure false:=by rfl) (hw:swappedStores [.Subscript bs t ps] e X.env=pure none:=by rfl)
    (h1:(assignEach [.Subscript bs t ps] X.env).map (·.2)=[assign (.Subscript bs t ps) X.env]:=by rfl):
    DS X (.Assign [.Subscript bs t ps] e pos) (FD k f o):=⟨
  ES (Tt h.pe (Xb hb.pe ht.pe set_list ha) hs hw h1) fun Dn σ H z=>by
    obtain⟨M,E,S,fl,E',S',e,r,st,q⟩:=z
    obtain⟨⟨d,S1⟩,e1,e⟩:=BA e
    obtain⟨⟨b,S2⟩,e2,e⟩:=BA e
    obtain⟨⟨i,S3⟩,e3,e⟩:=BA e
    dsimp only at e e1 e2 e3
    split at e
    · rename_i n j _
      obtain⟨ds,e4,e⟩:=BA e
      obtain⟨m,e5,e⟩:=JM e
      cases e
      refine⟨M,E,S,d,S1,e1,r,st,fun v H1 M1 g1 st1 r1=>?_⟩
      refine⟨M1,E,S1,_,S2,e2,r.step g1.st,st1,fun bv H2 M2 g2 st2 r2=>?_⟩
      refine⟨M2,E,S2,_,S3,e3,(r.step g1.st).step g2.st,st2,fun iv H3 M3 g3 st3 r3=>?_⟩
      cases r3
      cases r2 with
      | ref hc =>
        rename_i a
        have hc3:=Lh g3.pre hc
        obtain⟨xs,h1,h2⟩:=st3.cell n a _ hc3 (Dt e4)
        obtain⟨st4,g4⟩:=st3.chg hc3 (Dt e4) (h2.set ((r1.step g2.st).step g3.st) m)
        have g:=((g1.trans g2).trans g3).trans g4
        exact⟨a,xs,j,m,rfl,rfl,h1,by rw[h2.length];exact e5,q _ _ M3 g (r.step g.st) st4⟩
    ·cases e⟩
abbrev Fn:=List D->Sto->Option (D×Sto)
noncomputable def flD:Fl->D
 | .nx=>.non
 | .ret d=>d
noncomputable def BR(N:Nat)(body:Ex):Fn:=fun ds S=>(body (ds.map some++List.replicate (N-ds.length) none) S).map fun r=>(flD r.1,r.2.2)
def BM{α:Type}(a:α):α:=Classical.choose (⟨a,rfl⟩:∃x,x=a)
theorem Qa{α:Type}(a:α):BM a=a:=Classical.choose_spec (⟨a,rfl⟩:∃x,x=a)
noncomputable def spD(K:PySem.W.Frag)(np:Nat)(f:Fn):Sp:=fun vs H Q _=>∃M ds S d S',ds.length=np/\f ds S=some (d,S')/\An K M H vs ds/\StR K M S H/\∀v H' M',Gr M H M' H'->StR K M' S' H'->CW K M' H' v d->Q v H'
theorem Mb{α:Type}{xs:List α}{i:Nat}{x:α}(h:(xs.map some)[i]?=some (some x)):xs[i]?=some x:=by
 rw[List.getElem?_map]at h
 cases e:xs[i]? with
 |none=>rw[e]at h;cases h
 |some y=>rw[e]at h;cases h;rfl
theorem PR{α:Type}{xs:List (Option α)}{k i:Nat}{x:α}(h:(xs++List.replicate k none)[i]?=some (some x)):xs[i]?=some (some x):=by
 by_cases hi:i<xs.length
 ·rw[List.getElem?_append_left hi]at h;exact h
 ·rw[List.getElem?_append_right (by omega),List.getElem?_replicate]at h
  split at h<;>cases h
theorem Uh{α:Type}{xs:List (Option α)}{k i:Nat}{x:Option α}(h:xs[i]?=some x):(xs++List.replicate k none)[i]?=some x:=by
 rw[List.getElem?_append_left (List.getElem?_eq_some_iff.mp h).1];exact h
theorem EnR.args{K:PySem.W.Frag}{M:Ms}{H:Hp}{vs:List V}{ds:List D}(r:An K M H vs ds)(k:Nat):EnR K M (ds.map some++List.replicate k none) (vs.map some++List.replicate k none) H:=by
 refine⟨by simp[r.length],fun i d e=>?_⟩
 obtain⟨v,h1,h2⟩:=r.get (Mb (PR e))
 exact⟨v,Uh (by rw[List.getElem?_map,h1];rfl),h2⟩
section
variable{P:Program}{w:World}{K:PySem.W.Frag}{mg:Str->Option Value}{base:Heap}
theorem XY{x:Str}{st:Stmt}{f:Addr}{fd:FuncData}{N ps:List Str}{k np:Nat}{b:Ex}(Fu:Fun K x x st f fd)(S:Aa N ps (AJ st))(hp:ps.length=np)
  (hb:∀(cdv:Value) (A:Around) (outer:List PySem.Env) (s:Shared) (H:Hp) (E:XK),KQ k (A.deeper (PyProof.Rows.envOfC x (AJ st) s.heap.objs.size f cdv))->DSs (Ud CX0 P w K mg base N x (AJ st) f cdv A outer s H E).nox (Es st) b):
  Ml P w K mg base CX0 (k+1) f fd ps (spD K np (BM (BR N.length b))):=by
 rw[Qa]
 refine Fu.ok S (fun vs H Q E h=>?_) (fun cdv A outer s H vs Q E hr h=>?_)
 ·obtain⟨M,ds,S0,d,S',hl,_,r,_⟩:=h
  have:=r.length
  omega
 ·obtain⟨M,ds,S0,d,S',hl,e,r,st,q⟩:=h
  have hlen:=r.length
  refine⟨_,(hb cdv A outer s H E hr).pe,?_⟩
  obtain⟨⟨fl,E',S1⟩,e1,e⟩:=JM e
  cases e
  refine⟨M,_,S0,fl,E',S1,e1,?_,st,?_⟩
  ·rw[show L2.start N vs=vs.map some++List.replicate (N.length-ds.length) none from by unfold L2.start;rw[hlen]]
   exact .args r _
  ·cases fl with
   |nx=>exact fun σ' H' M' g _ st'=>q _ _ M' g st' .non
   |ret d=>exact fun v H' M' g st' r'=>q _ _ M' g st' r'
theorem A1{x:Str}{st:Stmt}{N ps:List Str}{k np:Nat}{b:Ex}(S:St.Src K mg x st)(sc:Aa N ps (AJ st))(hp:ps.length=np)
  (hbi:∀f fd,Fun K x x st f fd->Binds K fd ps [])
  (hb:∀(f:Addr) (cdv:Value) (A:Around) (outer:List PySem.Env) (s:Shared) (H:Hp) (E:XK),KQ k (A.deeper (PyProof.Rows.envOfC x (AJ st) s.heap.objs.size f cdv))->DSs (Ud CX0 P w K mg base N x (AJ st) f cdv A outer s H E).nox (Es st) b):
  St.Dfn P w K mg base x (k+1) ps (spD K np (BM (BR N.length b))):=by
 obtain⟨f,fd,Fu,hm⟩:=S.ex
 exact⟨f,fd,hm,Fu.kp,hbi f fd Fu,XY Fu sc hp fun cdv A outer s H E hr=>hb f cdv A outer s H E hr⟩
end
noncomputable def AM(f:Fn)(fs:List Ev):Ev:=fun E S=>(evs fs E S).bind fun r=>f r.1 r.2
theorem Ut{K:PySem.W.Frag}{np:Nat}{f:Fn}{fs:List Ev}{σ:Sg}{H:Hp}{Q:VK}(hn:fs.length=np)(h:tD K (AM f fs) σ H Q):Us (spD K np f) [] E0 (tDs K fs) σ H Q:=by
 obtain⟨M,E,S,d,S',e,r,st,q⟩:=h
 obtain⟨⟨ds,S1⟩,e1,e⟩:=BA e
 refine Gp e1 r st fun vs H1 M1 g1 st1 r1=>?_
 rw[List.append_nil]
 exact⟨M1,ds,S1,d,S',by rw[NA e1];exact hn,e,r1,st1,fun v H2 M2 g2 st2 r2=>q _ _ M2 (g1.trans g2) st2 r2⟩
theorem AH{X:Cx}{k np:Nat}{x:Str}{ps:List Str}{f:Fn}{e:Expr}{es:List Expr}{fs:List Ev}{p pos:Pos}(d:St.Dfn X.prog X.w X.K X.mg X.base x k ps (spD X.K np f))(hr:KQ k X.A)(hg:Gl X x)(ha:DEs X (e::es) fs)
  (hn:fs.length=np:=by rfl) (hdb:(x==("__debug__":Str))=false:=by decide) (he:starEach (e::es) X.env=(false,eval e X.env)::starEach es X.env:=by rfl) (hpl:(backTo pos (starEach es X.env)).any (·.1)=false:=by rfl):
  DE X (.Call (.Name x p) (e::es) [] pos) (AM f fs):=⟨Bz (St.Zp d hr hg ha.pe hdb he hpl) fun σ H Q z=>Ut hn z⟩
abbrev Tf:=D->En->Sto->Option En
noncomputable def tG(K:PySem.W.Frag)(t:Tf):TG:=fun v σ H Q=>∃M d E E' S,t d E S=some E'/\EnR K M E σ H/\StR K M S H/\CW K M H v d/\∀σ',EnR K M E' σ' H->Q σ' H
structure DG(X:Cx)(tg:Expr)(t:Tf):Prop where
 pe:PG X tg (tG X.K t)
noncomputable def tNm(i:Nat):Tf:=fun d E _=>some (E.set i (some d))
theorem PD{X:Cx}{e:Expr}{t t':TG}(h:PG X e t)(m:∀v σ H Q,t' v σ H Q->t v σ H Q):PG X e t':=fun pins s σ H v u Q I r q=>h pins s σ H v u Q I r (m _ _ _ _ q)
theorem Aj{X:Cx}{pos:Pos}(i:Nat){x:Str}(hN:X.N.Nodup)(hi:X.N[i]?=some x:=by rfl)(hx:Loc X.env.scope x:=by first|exact Or.inl rfl|exact Or.inr rfl)
  (hf:X.fn x=true∨X.env.scope.names.lookup x=some .local:=by first|exact .inl rfl|exact .inr rfl):DG X (.Name x pos) (tNm i):=⟨PD (VA hN hi hx hf) fun v σ H Q z=>by
 obtain⟨M,d,E,E',S,e,r,st,rd,q⟩:=z
 cases e
 exact q _ (r.put rd)⟩
noncomputable def tMs:List Tf->List D->En->Sto->Option En
 | [],[],E,_=>some E
 |t::ts,d::ds,E,S=>(t d E S).bind fun E1=>tMs ts ds E1 S
 |_,_,_,_=>none
noncomputable def tTp(ts:List Tf):Tf:=fun d E S=>match d with
 | .tup ds=>tMs ts ds E S
 | .lst ds=>tMs ts ds E S
 | .ref n=>(Dg S n).bind fun ds=>tMs ts ds E S
 |_=>none
noncomputable def tGs(K:PySem.W.Frag):List Tf->TGs
 | []=>bB
 |t::ts=>Xn (tG K t) (tGs K ts)
theorem Nr{K:PySem.W.Frag}{M:Ms}{H:Hp}{S:Sto}(st:StR K M S H):∀{ts:List Tf} {ds:List D} {vs:List V} {E E':En} {σ:Sg} {Q:Sg->Hp->Prop},tMs ts ds E S=some E'->EnR K M E σ H->An K M H vs ds->(∀σ',EnR K M E' σ' H->Q σ' H)->tGs K ts vs σ H Q
  | [],[],_,E,E',σ,Q,e,r,rd,q=>by
    cases e
    cases rd
    exact⟨rfl,q _ r⟩
  | t :: ts, d :: ds, _, E, E', σ, Q, e, r, rd, q => by
    obtain⟨E1,e1,e⟩:=BA e
    cases rd with
    |cons h1 h2=>exact⟨_,_,rfl,M,d,E,E1,S,e1,r,st,h1,fun σ1 r1=>Nr st e r1 h2 q⟩
  | [],_::_,_,E,E',σ,Q,e,r,rd,q=>by cases e
  |_::_,[],_,E,E',σ,Q,e,r,rd,q=>by cases e
theorem K5:∀{ts:List Tf} {ds:List D} {E E':En} {S:Sto},tMs ts ds E S=some E'->ds.length=ts.length
  | [],[],_,_,_,_=>rfl
  | t :: ts, d :: ds, E, E', S, e => by
    obtain⟨E1,e1,e⟩:=BA e
    simp[K5 e]
  | [],_::_,_,_,_,e=>by cases e
  |_::_,[],_,_,_,e=>by cases e
structure DGs(X:Cx)(es:List Expr)(ts:List Tf):Prop where
 pe:PGs X es (tGs X.K ts)
theorem Bp{X:Cx}:DGs X [] []:=⟨Vv⟩
theorem AQ{X:Cx}{e:Expr}{es:List Expr}{t:Tf}{ts:List Tf}(h:DG X e t)(g:DGs X es ts)(hs:(assignEach (e::es) X.env).map (·.2)=assign e X.env::(assignEach es X.env).map (·.2):=by rfl):DGs X (e::es) (t::ts):=⟨RA h.pe g.pe hs⟩
theorem EU{X:Cx}{k:Nat}{es:List Expr}{ts:List Tf}{pos:Pos}(hc:X.calm=true)(h:DGs X es ts)(hn:(assignEach es X.env).length=ts.length:=by rfl)(hst:(assignEach es X.env).findIdx? (·.1)=none:=by rfl):DG X (.Tuple es k pos) (tTp ts):=⟨
  PD (Wi hc h.pe hn hst) fun v σ H Q z=>by
    obtain⟨M,d,E,E',S,e,r,st,rd,q⟩:=z
    unfold tTp at e
    split at e
    · cases rd with
      |tup h1 h2=>exact⟨_,_,rfl,.inl h1,by rw[h2.length];exact K5 e,Nr st e r h2 q⟩
    · cases rd with
      |lst h1 n h2=>exact⟨_,_,rfl,.inr h1,by rw[h2.length];exact K5 e,Nr st e r h2 q⟩
    · obtain ⟨ds, e1, e⟩ := BA e
      cases rd with
      | ref hc =>
        obtain⟨xs,h1,h2⟩:=st.cell _ _ _ hc (Dt e1)
        exact⟨_,_,rfl,.inr h1,by rw[h2.length];exact K5 e,Nr st e r h2 q⟩
    ·cases e⟩
noncomputable def NU(t:Tf)(k:Ev):Ex:=fun E S=>(k E S).bind fun r=>(t r.1 E r.2).map fun E'=>(.nx,E',r.2)
theorem GH{X:Cx}{tg e:Expr}{t:Tf}{k:Ev}{pos:Pos}(h:DE X e k)(hg:DG X tg t)(hs:swapsWithSole [tg] e pos.line X.env=pure false:=by rfl)(hw:swappedStores [tg] e X.env=pure none:=by rfl)
  (h1:(assignEach [tg] X.env).map (·.2)=[assign tg X.env]:=by rfl):DS X (.Assign [tg] e pos) (NU t k):=⟨ES (Tt h.pe hg.pe hs hw h1) fun Dn σ H z=>by
 obtain⟨M,E,S,fl,E',S',e,r,st,q⟩:=z
 obtain⟨⟨d,S1⟩,e1,e⟩:=BA e
 obtain⟨E2,e2,e⟩:=JM e
 cases e
 exact⟨M,E,S,d,S1,e1,r,st,fun v H1 M1 g1 st1 r1=>⟨M1,d,E,_,S1,e2,r.step g1.st,st1,r1,fun σ' r2=>q _ _ M1 g1 r2 st1⟩⟩⟩
noncomputable def NS(i j:Nat)(f g:Ev):Ex:=fun E S=>(evs [f,g] E S).bind fun r=>match r.1 with
 | [d,d']=>some (.nx,(E.set i (some d)).set j (some d'),r.2)
 |_=>none
theorem Iw{X:Cx}{i j:Nat}{x y:Str}{a b:Expr}{f g:Ev}{px py pt:Pos}{kt k2:Nat}{pt2 pos:Pos}(hc:X.calm=true)(hN:X.N.Nodup)(hi:X.N[i]?=some x)(hj:X.N[j]?=some y)(hij:i≠j)
    (hx:X.env.scope.names.lookup x=some .local) (hy:X.env.scope.names.lookup y=some .local) (ha:DE X a f) (hb:DE X b g)
    (hw:swappedStores [.Tuple [.Name x px,.Name y py] kt pt] (.Tuple [a,b] k2 pt2) X.env=pure (some [x,y]):=by rfl)
    (hsa:starEach [a,b] X.env=(false,eval a X.env)::starEach [b] X.env:=by rfl) (hsb:starEach [b] X.env=(false,eval b X.env)::starEach [] X.env:=by rfl)
    (hs:swapsWithSole [.Tuple [.Name x px,.Name y py] kt pt] (.Tuple [a,b] k2 pt2) pos.line X.env=pure false:=by rfl):DS X (.Assign [.Tuple [.Name x px,.Name y py] kt pt] (.Tuple [a,b] k2 pt2) pos) (NS i j f g):=⟨by
  refine ES (WK hc hN hi hj hij hx hy (Ku ha.pe (Ku hb.pe Pj hsb) hsa) hw hs) fun Dn σ H z=>?_
  obtain⟨M,E,S,fl,E',S',e,r,st,q⟩:=z
  obtain⟨⟨ds,S1⟩,e1,e⟩:=BA e
  refine Gp (K:=X.K) (fs:=[f,g]) e1 r st fun vs H1 M1 g1 st1 r1=>?_
  dsimp only at e
  split at e
  · rename_i d d'
    cases e
    cases r1 with
    | cons h1 t =>
      cases t with
      | cons h2 t =>
        cases t
        exact⟨_,_,rfl,q _ _ M1 g1 (((r.step g1.st).put h1).put h2) st1⟩
  ·cases e⟩
noncomputable def T4:Ex:=fun _ _=>none
theorem Ri{X:Cx}{st:Stmt}:DS X st T4:=⟨fun _ _ _ _ _ _ z=>by
 obtain⟨M,E,S,fl,E',S',e,_⟩:=z
 cases e⟩
abbrev Gd:=List (Nat×List D)
def gOk(gs:Gd)(S:Sto):Prop:=∀g∈gs,Dg S g.1=some g.2
abbrev Sr:=En->Sto->Option ((List D×Gd)×Sto)
structure WG(K:PySem.W.Frag)(M:Ms)(H:Hp)(gs:Gd)(ds:List D)(J:It):Prop where
 go:∀(i:Nat) (H2:Hp) (M2:Ms) (S2:Sto),Sp1 M H M2 H2->StR K M2 S2 H2->gOk gs S2->i<ds.length->J.go i H2
 stop:∀(i:Nat) (H2:Hp) (M2:Ms) (S2:Sto),Sp1 M H M2 H2->StR K M2 S2 H2->gOk gs S2->ds.length≤i->J.stop i H2
 yld:∀(i:Nat) (H2:Hp) (M2:Ms) (S2:Sto) (x:V) (H3:Hp) (d:D),Sp1 M H M2 H2->StR K M2 S2 H2->gOk gs S2->ds[i]?=some d->J.yld i H2 x H3->(∀a o,H2 a=some o->H3 a=some o)/\CW K M2 H3 x d
noncomputable def tI(K:PySem.W.Frag)(s:Sr):TI:=fun σ H R=>∃M E S ds gs S',s E S=some ((ds,gs),S')/\EnR K M E σ H/\StR K M S H/\∀J H' M',Gr M H M' H'->StR K M' S' H'->WG K M' H' gs ds J->R J H'
structure DI(X:Cx)(tg iter:Expr)(s:Sr):Prop where
 pe:PI X tg iter (tI X.K s)
theorem Kv{X:Cx}{tg e:Expr}{t t':TI}(h:PI X tg e t)(m:∀σ H R,t' σ H R->t σ H R):PI X tg e t':=fun pins s σ H R I q=>h pins s σ H R I (m _ _ _ q)
noncomputable def bJ(K:PySem.W.Frag)(tl:TE):TI:=fun σ H R=>tl σ H fun x H1=>∃a,x=.ref a/\(((∃xs,SqL K H1 a xs)/\R (Itl K a) H1)∨((∃xs,SqT K H1 a xs)/\R (Itt K a) H1))
theorem XB{X:Cx}{tg l:Expr}{tl:TE}(hl:PE X l tl):PI X tg l (bJ X.K tl):=by
 intro pins s σ H R I h
 refine thn (hl pins s σ H _ I h) fun v s1 ⟨x,H1,I1,r1,q1⟩=>?_
 obtain⟨a,e,q1⟩:=q1
 subst e
 cases r1
 rcases q1 with⟨⟨xs,hq⟩,q⟩|⟨⟨xs,hq⟩,q⟩
 ·obtain⟨its,rv,p,hz⟩:=I1.list hq
  refine wpAny_pyIter_list p.isList ?_
  refine⟨s1.heap.objs.size,[s1.heap.objs.size],_,_,H1,rfl,I1.kept (t':=s1.toks) fun b o e=>Heap.get?_push_of_some _ e,Qe a _,⟨_,Heap.get?_push_size _ rfl,rfl,rfl⟩,fun b hb=>?_,q⟩
  have e:b=s1.heap.objs.size:=by simpa using hb
  subst e
  exact I1.fpOk (Nat.le_refl _) (I1.hok.fresh (Nat.le_refl _))
 ·obtain⟨its,rv,p,hz⟩:=I1.tuple hq
  refine wpAny_pyIter_tuple (show s1.heap.IsTuple a its.toArray from p) ?_
  refine⟨s1.heap.objs.size,[s1.heap.objs.size],_,_,H1,rfl,I1.kept (t':=s1.toks) fun b o e=>Heap.get?_push_of_some _ e,OM a _,⟨_,Heap.get?_push_size _ rfl,rfl,rfl⟩,fun b hb=>?_,q⟩
  have e:b=s1.heap.objs.size:=by simpa using hb
  subst e
  exact I1.fpOk (Nat.le_refl _) (I1.hok.fresh (Nat.le_refl _))
theorem An.get'{K:PySem.W.Frag}{M:Ms}{H:Hp}{vs:List V}{ds:List D}{i:Nat}(h:An K M H vs ds)(hi:i<ds.length):∃x,vs[i]?=some x:=by
 have:=h.length
 exact⟨vs[i],List.getElem?_eq_getElem (by omega)⟩
structure SqF(K:PySem.W.Frag)(M:Ms)(H:Hp)(gs:Gd)(k:Bool)(a:Addr)(ds:List D):Prop where
 keep:∀(H2:Hp) (M2:Ms) (S2:Sto),Sp1 M H M2 H2->StR K M2 S2 H2->gOk gs S2->∃xs,(if k=true then SqT K H2 a xs else SqL K H2 a xs)/\An K M2 H2 xs ds
noncomputable def sqD(S:Sto):D->Option (List D×Gd)
 | .tup ds=>some (ds,[])
 | .lst ds=>some (ds,[])
 | .ref n=>(Dg S n).map fun ds=>(ds,[(n,ds)])
 | .scr ns=>some (ns.map .int,[])
 |_=>none
theorem Nn{K:PySem.W.Frag}{M:Ms}{H:Hp}{S:Sto}{v:V}{d:D}{ds:List D}{gs:Gd}(st:StR K M S H)(h:CW K M H v d)(e:sqD S d=some (ds,gs)):∃k a,v=.ref a/\SqF K M H gs k a ds:=by
  cases h with
  |tup h r=>cases e;exact⟨true,_,rfl,⟨fun H2 M2 S2 g _ _=>⟨_,g.sqT h,r.step g⟩⟩⟩
  |lst h n r=>cases e;exact⟨false,_,rfl,⟨fun H2 M2 S2 g _ _=>⟨_,SqL.of (g.keep _ _ h n),r.step g⟩⟩⟩
  | scr h =>
    cases e
    refine⟨false,_,rfl,⟨fun H2 M2 S2 g _ _=>⟨_,?_,Kx⟩⟩⟩
    rcases h with⟨h,n⟩|h
    · rcases h with h | ⟨o, h⟩
      ·exact .inl (.inl (g.keep _ _ h n))
      ·exact .inl (.inr ⟨o,g.keep _ _ h n⟩)
    ·exact .inr h
  | ref h =>
    obtain⟨es,e1,e⟩:=JM e
    cases e
    refine⟨false,_,rfl,⟨fun H2 M2 S2 g st2 ok=>?_⟩⟩
    obtain⟨xs,h1,h2⟩:=st2.cell _ _ _ (Lh g.pre h) (Dt (ok _ (List.mem_singleton.mpr rfl)))
    exact⟨xs,SqL.of h1,h2⟩
  |non=>cases e
  |bl b=>cases e
  |int b=>cases e
  |str b=>cases e
  |ty b=>cases e
  |dct h n r=>cases e
theorem ZN{K:PySem.W.Frag}{M:Ms}{H:Hp}{gs:Gd}{k:Bool}{a:Addr}{ds:List D}(h:SqF K M H gs k a ds):WG K M H gs ds (if k=true then Itt K a else Itl K a):=by
  cases k with
  | true =>
    exact{
      go:=fun i H2 M2 S2 g st ok hi=>let⟨xs,h1,h2⟩:=h.keep H2 M2 S2 g st ok;let⟨x,hx⟩:=h2.get' hi;⟨xs,x,h1,hx⟩
      stop:=fun i H2 M2 S2 g st ok hi=>let⟨xs,h1,h2⟩:=h.keep H2 M2 S2 g st ok;⟨xs,h1,by have:=h2.length;omega⟩
      yld:=fun i H2 M2 S2 x H3 d g st ok hd hy=>by
        obtain⟨xs,h1,h2⟩:=h.keep H2 M2 S2 g st ok
        obtain⟨rfl,hy⟩:=hy
        refine⟨fun _ _ e=>e,?_⟩
        have hx:=hy xs h1
        obtain⟨x',h3,h4⟩:=h2.get hd
        rw[hx]at h3;cases h3
        exact h4}
  | false =>
    exact{
      go:=fun i H2 M2 S2 g st ok hi=>let⟨xs,h1,h2⟩:=h.keep H2 M2 S2 g st ok;let⟨x,hx⟩:=h2.get' hi;⟨xs,x,h1,hx⟩
      stop:=fun i H2 M2 S2 g st ok hi=>let⟨xs,h1,h2⟩:=h.keep H2 M2 S2 g st ok;⟨xs,h1,by have:=h2.length;omega⟩
      yld:=fun i H2 M2 S2 x H3 d g st ok hd hy=>by
        obtain⟨xs,h1,h2⟩:=h.keep H2 M2 S2 g st ok
        obtain⟨rfl,hy⟩:=hy
        refine⟨fun _ _ e=>e,?_⟩
        have hx:=hy xs h1
        obtain⟨x',h3,h4⟩:=h2.get hd
        rw[hx]at h3;cases h3
        exact h4}
noncomputable def FR(f:Ev):Sr:=fun E S=>(f E S).bind fun r=>(sqD r.2 r.1).map fun p=>(p,r.2)
theorem Kz{S:Sto}{d:D}{ds:List D}{gs:Gd}(e:sqD S d=some (ds,gs)):gOk gs S:=by
  cases d<;>first|(cases e;done)|skip
  all_goals first
    |(cases e;intro g hg;cases hg;done)
    | (obtain ⟨es, e1, e⟩ := JM e
       cases e
       intro g hg
       rw[List.mem_singleton.mp hg]
       exact e1)
theorem Cb{X:Cx}{tg e:Expr}{f:Ev}(h:DE X e f):DI X tg e (FR f):=⟨Kv (XB h.pe) fun σ H R z=>by
 obtain⟨M,E,S,ds,gs,S',e,r,st,q⟩:=z
 obtain⟨⟨d,S1⟩,e1,e⟩:=BA e
 obtain⟨⟨ds',gs'⟩,e2,e⟩:=JM e
 cases e
 refine⟨M,E,S,d,S1,e1,r,st,fun v H1 M1 g1 st1 r1=>?_⟩
 obtain⟨k,a,rfl,sq⟩:=Nn st1 r1 e2
 obtain⟨xs,hs,_⟩:=sq.keep H1 M1 S1 (Gr.refl st1.mo).st st1 (Kz e2)
 have it:=ZN sq
 refine⟨a,rfl,?_⟩
 cases k with
 |true=>exact .inr ⟨⟨xs,hs⟩,q _ _ M1 g1 st1 it⟩
 |false=>exact .inl ⟨⟨xs,hs⟩,q _ _ M1 g1 st1 it⟩⟩
noncomputable def Hi(lo:Int)(n:Nat):List D:=(List.range n).map fun(i:Nat)=>.int (lo+(i:Int))
theorem XW{K:PySem.W.Frag}{M:Ms}{H:Hp}{lo:Int}{n:Nat}:WG K M H [] (Hi lo n) (Itr lo n) where
  go := fun i H2 M2 S2 g st ok hi => by
    have:i<n:=by unfold Hi at hi;simpa using hi
    exact this
  stop:=fun i H2 M2 S2 g st ok hi=>by
    have:n≤i:=by unfold Hi at hi;simpa using hi
    exact this
  yld := fun i H2 M2 S2 x H3 d g st ok hd hy => by
    obtain⟨rfl,rfl⟩:=hy
    refine⟨fun _ _ e=>e,?_⟩
    unfold Hi at hd
    rw[List.getElem?_map]at hd
    cases e:(List.range n)[i]? with
    |none=>rw[e]at hd;cases hd
    | some j =>
      rw[e]at hd
      cases hd
      have:j=i:=by
        obtain⟨h1,h2⟩:=List.getElem?_eq_some_iff.mp e
        simpa using h2.symm
      subst this
      exact .int _
noncomputable def Jg(fs:List Ev):Sr:=fun E S=>(evs fs E S).bind fun r=>match r.1 with
 | [.int j]=>if(decide (-(2^62)≤j) && decide (j<2^62))=true then some ((Hi 0 j.toNat,[]),r.2)else none
 | [.int i,.int j]=>if(decide (-(2^62)≤i) && decide (i<2^62) && decide (-(2^62)≤j) && decide (j<2^62))=true then some ((Hi i (j-i).toNat,[]),r.2)else none
 |_=>none
theorem SJ{K:PySem.W.Frag}{M:Ms}{H:Hp}{vs:List V}{j:Int}(h:An K M H vs [.int j]):vs=[.int j]:=by
 cases h with
 |cons h t=>cases t;cases h;rfl
theorem C8{X:Cx}{tg a:Expr}{o:Ev}{p pos:Pos}(hg:Gl X "range")(hm:X.mg "range"=none)(ha:DEs X [a] [o])(hs:starEach [a] X.env=[(false,eval a X.env)]:=by rfl):DI X tg (.Call (.Name "range" p) [a] [] pos) (Jg [o]):=⟨
 Kv (QF hg hm ha.pe hs) fun σ H R z=>by
  obtain⟨M,E,S,ds,gs,S',e,r,st,q⟩:=z
  obtain⟨⟨ws,S1⟩,e1,e⟩:=BA e
  have hl:=NA e1
  refine Gp e1 r st fun vs H1 M1 g1 st1 r1=>?_
  dsimp only at e
  split at e
  ·split at e
   ·rename_i j hk
    rw[Bool.and_eq_true]at hk
    cases e
    exact⟨j,SJ r1,of_decide_eq_true hk.1,of_decide_eq_true hk.2,q _ _ M1 g1 st1 XW⟩
   ·cases e
  ·simp at hl
  ·cases e⟩
open Classical in
def Kj(gs:Gd)(t:Tf)(body:Ex):List D->En->Sto->Option (Fl×En×Sto)
  | [],E,S=>if gOk gs S then some (.nx,E,S)else none
  | d :: ds, E, S => if gOk gs S then (t d E S).bind fun E1 => (body E1 S).bind fun r => match r.1 with
    | .nx=>Kj gs t body ds r.2.1 r.2.2
    | .ret w=>some (.ret w,r.2)
    else none
def Mt(s:Sr)(t:Tf)(body:Ex):Ex:=fun E S=>(s E S).bind fun r=>Kj r.1.2 t body r.1.1 E r.2
theorem Lw{α:Type}{xs:List α}{i:Nat}{x:α}{r:List α}(h:xs.drop i=x::r):xs[i]?=some x/\xs.drop (i+1)=r/\i<xs.length:=by
 have hi:i<xs.length:=by
  by_cases hi:i<xs.length
  ·exact hi
  ·rw[List.drop_eq_nil_of_le (by omega)]at h;cases h
 rw[List.drop_eq_getElem_cons hi]at h
 cases h
 exact⟨List.getElem?_eq_getElem hi,rfl,hi⟩
theorem Fy{X:Cx}{tg iter:Expr}{body:List Stmt}{s:Sr}{t:Tf}{b:Ex}{pos:Pos}(hp:PassesOwn (model X.prog X.w) X.A X.env X.xe)(hc:X.calm=true)(hi:DI X tg iter s)(hg:DG X tg t)(hb:DSs X body b)
    (hs:∀x,foldedSetIterable iter X.env x=pure x:=by intro _;rfl):DS X (.For tg iter body [] pos) (Mt s t b):=⟨ES (Xl hp hc hi.pe hg.pe hb.pe hs) fun Dn σ H z=>by
  obtain⟨M,E,S,fl,E',S',e,r,st,q⟩:=z
  obtain⟨⟨⟨ds,gs⟩,S1⟩,e1,e⟩:=BA e
  dsimp only at e
  refine⟨M,E,S,ds,gs,S1,e1,r,st,fun J H1 M1 g1 st1 it=>?_⟩
  refine⟨fun i m σ' H'=>m=ds.length-i/\∃E2 S2 M2,Kj gs t b (ds.drop i) E2 S2=some (fl,E',S')/\Gr M1 H1 M2 H'/\EnR X.K M2 E2 σ' H'/\StR X.K M2 S2 H',⟨_,rfl,E,S1,M1,e,.refl st1.mo,r.step g1.st,st1⟩,fun i m σ2 H2 hW=>?_⟩
  obtain⟨rfl,E2,S2,M2,e2,g2,r2,st2⟩:=hW
  cases ed:ds.drop i with
  | nil =>
    rw[ed]at e2
    unfold Kj at e2
    split at e2
    · rename_i ok
      cases e2
      left
      exact⟨it.stop i H2 M2 _ g2.st st2 ok (List.drop_eq_nil_iff.mp ed),q _ _ M2 (g1.trans g2) r2 st2⟩
    ·cases e2
  | cons d rest =>
    obtain⟨d1,d2,d3⟩:=Lw ed
    rw[ed]at e2
    unfold Kj at e2
    split at e2
    · rename_i ok
      obtain⟨E3,e3,e2⟩:=BA e2
      obtain⟨⟨f4,E4,S4⟩,e4,e2⟩:=BA e2
      dsimp only at e2
      right
      refine⟨it.go i H2 M2 S2 g2.st st2 ok d3,fun σ' H'=>∃m',m'<ds.length-i/\(m'=ds.length-(i+1)/\∃E2 S2 M2,Kj gs t b (ds.drop (i+1)) E2 S2=some (fl,E',S')/\Gr M1 H1 M2 H'/\EnR X.K M2 E2 σ' H'/\StR X.K M2 S2 H'),fun σ' H' z=>z,fun x H3 hy=>?_⟩
      obtain⟨k3,rx⟩:=it.yld i H2 M2 S2 x H3 d g2.st st2 ok d1 hy
      have g3:Gr M2 H2 M2 H3:=.grow st2.mo k3
      refine⟨M2,d,E2,E3,S2,e3,r2.step g3.st,st2.grow k3,rx,fun σ4 r4=>?_⟩
      refine⟨M2,E3,S2,f4,E4,S4,e4,r4,st2.grow k3,?_⟩
      split at e2
      ·exact fun σ6 H6 M6 g6 r6 st6=>⟨_,by omega,rfl,E4,S4,M6,by rw[d2];exact e2,(g2.trans g3).trans g6,r6,st6⟩
      · cases e2
        exact fun v H6 M6 g6 st6 r6=>q _ _ M6 (((g1.trans g2).trans g3).trans g6) st6 r6
    ·cases e2⟩
noncomputable def GL(c:Ev)(b:Ex):Nat->En->Sto->Option (Fl×En×Sto)
  |0,_,_=>none
  | k + 1, E, S => (c E S).bind fun r => match r.1 with
    | .bl true=>(b E r.2).bind fun p=>match p.1 with
      | .nx=>GL c b k p.2.1 p.2.2
      | .ret w=>some (.ret w,p.2)
    | .bl false=>some (.nx,E,r.2)
    |_=>none
noncomputable def QB(fuel:En->Nat)(c:Ev)(b:Ex):Ex:=fun E S=>GL c b (fuel E) E S
theorem TN {X : Cx} {c : Expr} {body : List Stmt} {k : Ev} {b : Ex} {pos : Pos} (fuel : En -> Nat) (hp : PassesOwn (model X.prog X.w) X.A X.env X.xe) (hc : DT X c k) (hb : DSs X body b) : DS X (.While c body [] pos) (QB fuel k b) := ⟨
  ES (R6 hp hc.pe hb.pe) fun Dn σ H z=>by
    obtain⟨M,E,S,fl,E',S',e,r,st,q⟩:=z
    refine⟨fun m σ' H'=>∃E2 S2 M2,GL k b m E2 S2=some (fl,E',S')/\Gr M H M2 H'/\EnR X.K M2 E2 σ' H'/\StR X.K M2 S2 H',⟨fuel E,E,S,M,e,.refl st.mo,r,st⟩,fun m σ2 H2 hW=>?_⟩
    obtain⟨E2,S2,M2,e2,g2,r2,st2⟩:=hW
    cases m with
    |zero=>cases e2
    | succ m =>
      obtain⟨⟨w3,S3⟩,e3,e2⟩:=BA e2
      dsimp only at e2
      split at e2
      · obtain ⟨⟨f4, E4, S4⟩, e4, e2⟩ := BA e2
        refine⟨M2,E2,S2,true,S3,e3,r2,st2,fun H3 M3 g3 st3=>?_⟩
        refine V8 ⟨fun σ' H'=>∃m',m'<m+1/\∃E2 S2 M2,GL k b m' E2 S2=some (fl,E',S')/\Gr M H M2 H'/\EnR X.K M2 E2 σ' H'/\StR X.K M2 S2 H',fun σ' H' z=>z,?_⟩
        refine⟨M3,E2,S3,f4,E4,S4,e4,r2.step g3.st,st3,?_⟩
        dsimp only at e2
        split at e2
        ·exact fun σ5 H5 M5 g5 r5 st5=>⟨m,by omega,E4,S4,M5,e2,(g2.trans g3).trans g5,r5,st5⟩
        · cases e2
          exact fun v H5 M5 g5 st5 r5=>q _ _ M5 ((g2.trans g3).trans g5) st5 r5
      · cases e2
        refine⟨M2,_,S2,false,_,e3,r2,st2,fun H3 M3 g3 st3=>?_⟩
        refine WA ?_
        exact q _ _ M3 (g2.trans g3) (r2.step g3.st) st3
      ·cases e2⟩
noncomputable def U0(i:Nat):En->Nat:=fun E=>match at? E i with
 |some (.int j)=>j.natAbs+2
 |_=>0
section
variable{K:PySem.W.Frag}{M M' M2:Ms}{H H' H2:Hp}{S:Sto}
structure GrX(M:Ms)(H:Hp)(M':Ms)(H':Hp):Prop where
 pre:M.cel <+: M'.cel
 fresh:∀a,a∈M'.cel->a∈M.cel∨H a=none
 keep:∀a o,H a=some o->a∉M.cel->H' a=some o
 some:∀a,H a≠none->H' a≠none
theorem GrX.none(g:GrX M H M' H'){a:Addr}(h:H' a=none):H a=none:=by
 cases e:H a with
 |none=>rfl
 |some o=>exact absurd h (g.some a (by rw[e];intro z;cases z))
theorem Gr.x(g:Gr M H M' H'):GrX M H M' H':=⟨g.pre,g.fresh,g.keep,g.some⟩
theorem GrX.trans(h:GrX M H M' H')(g:GrX M' H' M2 H2):GrX M H M2 H2:=
 ⟨h.pre.trans g.pre,fun a z=>(g.fresh a z).elim (h.fresh a) fun z=>.inr (h.none z),fun a o e n=>g.keep a o (h.keep a o e n) (fun z=>by
  rcases h.fresh a z with z|z
  ·exact n z
  ·rw[e]at z;cases z),fun a e=>g.some a (h.some a e)⟩
theorem StR.tmp_on(r:StR K M S H){a:Addr}(e:H a=none):StR K ⟨M.cel,a::M.tmp⟩ S (upd H a (.lst []))/\GrX M H ⟨M.cel,a::M.tmp⟩ (upd H a (.lst []))/\Sp1 M H ⟨M.cel,a::M.tmp⟩ (upd H a (.lst [])):=by
 have k:∀b o,H b=some o->upd H a (.lst []) b=some o:=Ey e
 have na:¬M.mem a:=fun z=>r.mo.some z e
 have s1:Sp1 M H ⟨M.cel,a::M.tmp⟩ (upd H a (.lst [])):=⟨r.mo,List.prefix_rfl,fun b z=>by
  rcases z with z|z
  ·exact .inl (.inl z)
  ·rcases List.mem_cons.mp z with z|z
   ·subst z;exact .inr e
   ·exact .inl (.inr z),fun b o eb _=>k b o eb⟩
 refine⟨⟨fun b z=>?_,r.nd,fun b hb z=>?_,r.len,fun n b c h1 h2=>?_⟩,⟨List.prefix_rfl,fun b z=>.inl z,fun b o eb _=>k b o eb,fun b eb z=>?_⟩,s1⟩
 ·by_cases h:b=a
  ·subst h;exact .inl ⟨[],BG⟩
  ·rw[Al h]
   refine r.mo b ?_
   rcases z with z|z
   ·exact .inl z
   ·rcases List.mem_cons.mp z with z|z
    ·exact absurd z h
    ·exact .inr z
 ·rcases List.mem_cons.mp hb with hb|hb
  ·subst hb;exact na (.inl z)
  ·exact r.nt b hb z
 ·have q:=r.cell n b c h1 h2
  cases c with
  |lst ds=>obtain⟨xs,e,rr⟩:=q;exact⟨xs,k _ _ e,rr.step s1⟩
  |dct ds=>obtain⟨xs,e,rr⟩:=q;exact⟨xs,k _ _ e,rr.step s1⟩
 ·cases h:H b with
  |none=>exact eb h
  |some o=>rw[k b o h]at z;cases z
theorem StR.tmp_app(r:StR K M S H){a:Addr}{ys:List V}(ha:a∈M.tmp):StR K M S (upd H a (.lst ys))/\Sp1 M H M (upd H a (.lst ys)):=by
 have s1:Sp1 M H M (upd H a (.lst ys)):=⟨r.mo,List.prefix_rfl,fun b z=>.inl z,fun b o eb nb=>by rw[Al (fun z=>nb (by rw[z];exact .inr ha))];exact eb⟩
 refine⟨⟨fun b z=>?_,r.nd,r.nt,r.len,fun n b c h1 h2=>?_⟩,s1⟩
 ·by_cases h:b=a
  ·subst h;exact .inl ⟨ys,BG⟩
  ·rw[Al h];exact r.mo b z
 ·have hb:b≠a:=fun z=>r.nt a ha (by rw[←z];exact List.mem_of_getElem? h1)
  have q:=r.cell n b c h1 h2
  cases c with
  |lst ds=>obtain⟨xs,e,rr⟩:=q;exact⟨xs,by rw[Al hb];exact e,rr.step s1⟩
  |dct ds=>obtain⟨xs,e,rr⟩:=q;exact⟨xs,by rw[Al hb];exact e,rr.step s1⟩
theorem StR.tmp_off{c:List Addr}{t:List Addr}{a:Addr}{xs:List V}{ds:List D}{cf:Bool}{d:D}{S':Sto}(r:StR K ⟨c,a::t⟩ S H)(nt:a∉t)(e:H a=some (.lst xs))(rr:An K ⟨c,a::t⟩ H xs ds)(ef:fin cf (.own ds) S=some (d,S')):
    ∃c',StR K ⟨c',t⟩ S' H/\CW K ⟨c',t⟩ H (.ref a) d/\c <+: c'/\(∀b∈c',b∈c∨b=a):=by
  have nc:a∉c:=r.nt a List.mem_cons_self
  cases cf with
  | false =>
    cases ef
    have s1:Sp1 ⟨c,a::t⟩ H ⟨c,t⟩ H:=⟨r.mo,List.prefix_rfl,fun b z=>.inl (z.imp id (List.mem_cons_of_mem _)),fun _ _ e _=>e⟩
    refine⟨c,⟨fun b z=>r.mo b (z.imp id (List.mem_cons_of_mem _)),r.nd,fun b hb=>r.nt b (List.mem_cons_of_mem _ hb),r.len,fun n b cl h1 h2=>?_⟩,.lst e (fun z=>z.elim nc nt) (rr.step s1),List.prefix_rfl,fun b z=>.inl z⟩
    have q:=r.cell n b cl h1 h2
    cases cl with
    |lst ds=>obtain⟨xs,e,rr⟩:=q;exact⟨xs,e,rr.step s1⟩
    |dct ds=>obtain⟨xs,e,rr⟩:=q;exact⟨xs,e,rr.step s1⟩
  | true =>
    cases ef
    have s1:Sp1 ⟨c,a::t⟩ H ⟨c++[a],t⟩ H:=⟨r.mo,List.prefix_append _ _,fun b z=>by
      rcases z with z|z
      · rcases List.mem_append.mp z with z | z
        ·exact .inl (.inl z)
        ·exact .inl (.inr (by rw[List.mem_singleton.mp z];exact List.mem_cons_self))
      ·exact .inl (.inr (List.mem_cons_of_mem _ z)),fun _ _ e _=>e⟩
    have hl:c.length=S.length:=r.len
    refine⟨c++[a],⟨fun b z=>?_,?_,fun b hb z=>?_,by simp[hl],fun n b cl h1 h2=>?_⟩,.ref ?_,List.prefix_append _ _,fun b z=>?_⟩
    · refine r.mo b ?_
      rcases z with z|z
      · rcases List.mem_append.mp z with z | z
        ·exact .inl z
        ·exact .inr (by rw[List.mem_singleton.mp z];exact List.mem_cons_self)
      ·exact .inr (List.mem_cons_of_mem _ z)
    · rw [List.nodup_append]
      refine⟨r.nd,by simp,fun x hx y hy z=>?_⟩
      simp at hy;subst hy
      exact nc (by rw[←z];exact hx)
    · rcases List.mem_append.mp z with z | z
      ·exact r.nt b (List.mem_cons_of_mem _ hb) z
      ·rw[List.mem_singleton.mp z]at hb;exact nt hb
    · by_cases h : n < S.length
      · rw [List.getElem?_append_left (by rw [hl]; exact h)] at h1
        rw[List.getElem?_append_left h]at h2
        have q:=r.cell n b cl h1 h2
        cases cl with
        |lst ds=>obtain⟨xs,e,rr⟩:=q;exact⟨xs,e,rr.step s1⟩
        |dct ds=>obtain⟨xs,e,rr⟩:=q;exact⟨xs,e,rr.step s1⟩
      · have hm : n = S.length := by
          have:=(List.getElem?_eq_some_iff.mp h2).1
          simp at this;omega
        subst hm
        rw[List.getElem?_append_right (by rw[hl];exact Nat.le_refl _)]at h1
        rw[List.getElem?_append_right (Nat.le_refl _)]at h2
        rw[hl]at h1
        simp at h1 h2
        subst h1 h2
        exact⟨xs,e,rr.step s1⟩
    ·rw[←hl];exact List.getElem?_concat_length
    · rcases List.mem_append.mp z with z | z
      ·exact .inl z
      ·exact .inr (List.mem_singleton.mp z)
end
open Classical in
def Bj (gs : Gd) (t : Tf) (c : Ev) (f : Ev) : List D -> List D -> En -> Sto -> Option (List D × Sto)
  | [],acc,_,S=>if gOk gs S then some (acc,S)else none
  | d :: ds, acc, E, S => if gOk gs S then (if acc.length < sizeLine then (t d E S).bind fun E1 => (c E1 S).bind fun r => match r.1 with
      | .bl true=>(f E1 r.2).bind fun p=>Bj gs t c f ds (acc++[p.1]) E1 p.2
      | .bl false=>Bj gs t c f ds acc E1 r.2
      |_=>none
    else none)else none
noncomputable def BH:Ev:=fun _ S=>some (.bl true,S)
noncomputable def Ke(cap:List Nat)(m:Nat)(E:En):En:=cap.map (at? E)++List.replicate m none
def Kr(cf:Bool)(cap:List Nat)(m:Nat)(s:Sr)(t:Tf)(c:Ev)(f:Ev):Ev:=fun E S=>(s E S).bind fun r=>(Bj r.1.2 t c f r.1.1 [] (Ke cap m E) r.2).bind fun q=>fin cf (.own q.1) q.2
noncomputable abbrev Bt:=Kr false
noncomputable abbrev Kg:=Kr true
noncomputable def ixC(cap:List Nat)(m:Nat):List (Option Nat):=cap.map some++List.replicate m none
theorem EnR.cap{K:PySem.W.Frag}{M:Ms}{E:En}{σ:Sg}{H:Hp}(r:EnR K M E σ H)(cap:List Nat)(m:Nat):EnR K M (Ke cap m E) (sig (ixC cap m) σ) H:=by
  unfold Ke sig ixC
  refine⟨by simp,fun i d e=>?_⟩
  have h1:=PR e
  rw[List.getElem?_map]at h1
  cases e1:cap[i]? with
  |none=>rw[e1]at h1;cases h1
  | some j =>
    rw[e1]at h1
    have h2:at? E j=some d:=by simpa using h1
    obtain⟨v,hv,rd⟩:=r.val j d (at?_some h2)
    refine⟨v,?_,rd⟩
    have hi:i<cap.length:=(List.getElem?_eq_some_iff.mp e1).1
    rw[List.map_append,List.getElem?_append_left (by simpa using hi),List.getElem?_map,List.getElem?_map,e1]
    show some ((σ[j]?).join)=some (some v)
    rw[hv]
    rfl
theorem Po {K : PySem.W.Frag} {cf : Bool} {cap : List Nat} {m : Nat} {s : Sr} {t : Tf} {c f : Ev} {σ : Sg} {H : Hp} {Q : VK} (h : tD K (Kr cf cap m s t c f) σ H Q) : VW (ixC cap m) (tI K s) (tG K t) (tDT K c) (tD K f) σ H Q := by
  obtain⟨M,E,S,d,S',e,r,st,q⟩:=h
  obtain⟨⟨⟨ds,gs⟩,S1⟩,e1,e⟩:=BA e
  obtain⟨⟨accf,Sf⟩,e3,e⟩:=BA e
  dsimp only at e e3
  refine⟨M,E,S,ds,gs,S1,e1,r,st,fun J H1 M1 g1 st1 it A0 hD=>?_⟩
  obtain⟨st0,gx0,s0⟩:=st1.tmp_on hD
  have nt:A0∉M1.tmp:=fun z=>st1.mo.some (.inr z) hD
  refine⟨fun i mm σ' H' ys=>mm=ds.length-i/\∃Ei Si Mi acc,Bj gs t c f (ds.drop i) acc Ei Si=some (accf,Sf)/\GrX M1 H1 Mi H'/\Mi.tmp=A0::M1.tmp/\EnR K Mi Ei σ' H'/\StR K Mi Si H'/\H' A0=some (.lst ys)/\An K Mi H' ys acc,
    ⟨_,rfl,_,S1,_,[],e3,gx0,rfl,((r.step g1.st).step s0).cap cap m,st0,BG,.nil⟩,fun i mm σ2 H2 ys hW=>?_⟩
  obtain⟨rfl,Ei,Si,Mi,acc,ec,gx,ht,r2,st2,hy,ry⟩:=hW
  have sp:Sp1 M1 H1 Mi H2:=⟨st1.mo,gx.pre,fun a z=>by
    rcases z with z|z
    ·exact(gx.fresh a z).imp .inl id
    · rw [ht] at z
      rcases List.mem_cons.mp z with z|z
      ·subst z;exact .inr hD
      ·exact .inl (.inr z),fun a o eo no=>gx.keep a o eo fun z=>no (.inl z)⟩
  refine⟨hy,?_⟩
  cases ed:ds.drop i with
  | nil =>
    rw[ed]at ec
    unfold Bj at ec
    split at ec
    · rename_i ok
      cases ec
      left
      obtain⟨ci,ti⟩:=Mi
      have ht':ti=A0::M1.tmp:=ht
      subst ht'
      obtain⟨c',st',rd',pr',sub'⟩:=st2.tmp_off nt hy ry e
      refine⟨it.stop i H2 _ _ sp st2 ok (List.drop_eq_nil_iff.mp ed),q _ _ ⟨c',M1.tmp⟩ (g1.trans ⟨st1.mo,gx.pre.trans pr',rfl,fun a z=>?_,gx.keep,gx.some⟩) st' rd'⟩
      rcases sub' a z with z|z
      ·exact gx.fresh a z
      ·subst z;exact .inr hD
    ·cases ec
  | cons d rest =>
    obtain⟨d1,d2,d3⟩:=Lw ed
    rw[ed]at ec
    unfold Bj at ec
    split at ec
    · rename_i ok
      split at ec
      · rename_i hz
        obtain⟨E3,e4,ec⟩:=BA ec
        obtain⟨⟨w5,S5⟩,e5,ec⟩:=BA ec
        right
        refine⟨it.go i H2 Mi Si sp st2 ok d3,by rw[ry.length];exact hz,fun x H3 hyl=>?_⟩
        obtain⟨k3,rx⟩:=it.yld i H2 Mi Si x H3 d sp st2 ok d1 hyl
        have g3:Gr Mi H2 Mi H3:=.grow st2.mo k3
        have st3:=st2.grow k3
        refine⟨Mi,d,Ei,E3,Si,e4,r2.step g3.st,st3,rx,fun σ4 r4=>?_⟩
        have hA:A0∈Mi.tmp:=by rw[ht];exact List.mem_cons_self
        have hy3:H3 A0=some (.lst ys):=k3 _ _ hy
        have ry3:An K Mi H3 ys acc:=ry.step g3.st
        have fin:∀{E6:En} {S6:Sto} {M6:Ms} {H6:Hp} {zs:List V} {acc6:List D},Bj gs t c f rest acc6 E6 S6=some (accf,Sf)->GrX M1 H1 M6 H6->M6.tmp=A0::M1.tmp->EnR K M6 E6 σ4 H6->StR K M6 S6 H6->H6 A0=some (.lst zs)->An K M6 H6 zs acc6->
            ∃m',m'<ds.length-i/\(m'=ds.length-(i+1)/\∃Ei Si Mi acc,Bj gs t c f (ds.drop (i+1)) acc Ei Si=some (accf,Sf)/\GrX M1 H1 Mi H6/\Mi.tmp=A0::M1.tmp/\EnR K Mi Ei σ4 H6/\StR K Mi Si H6/\H6 A0=some (.lst zs)/\An K Mi H6 zs acc):=
          fun{E6 S6 M6 H6 zs acc6} ec g6 t6 r6 st6 h6 y6=>⟨_,by omega,rfl,E6,S6,M6,acc6,by rw[d2];exact ec,g6,t6,r6,st6,h6,y6⟩
        dsimp only at ec
        split at ec
        · obtain ⟨⟨w7, S7⟩, e7, ec⟩ := BA ec
          refine⟨Mi,E3,Si,true,S5,e5,r4,st3,fun H5 M5 g5 st5=>?_⟩
          refine V8 ?_
          refine⟨M5,E3,S5,w7,S7,e7,r4.step g5.st,st5,fun y H7 M7 g7 st7 d7=>?_⟩
          have nA:∀{M6:Ms} {H6:Hp} {S6:Sto},StR K M6 S6 H6->A0∈M6.tmp->A0∉M6.cel:=fun r6 h6=>r6.nt A0 h6
          have hA5:A0∈M5.tmp:=by rw[g5.tmp];exact hA
          have hA7:A0∈M7.tmp:=by rw[g7.tmp];exact hA5
          have hy5:H5 A0=some (.lst ys):=g5.keep _ _ hy3 (nA st3 hA)
          have hy7:H7 A0=some (.lst ys):=g7.keep _ _ hy5 (nA st5 hA5)
          have ry7:An K M7 H7 ys acc:=(ry3.step g5.st).step g7.st
          refine⟨hy7,?_⟩
          obtain⟨st8,s8⟩:=st7.tmp_app (ys:=ys++[y]) hA7
          have gx7:GrX M1 H1 M7 H7:=((gx.trans g3.x).trans g5.x).trans g7.x
          have gx8:GrX M1 H1 M7 (upd H7 A0 (.lst (ys++[y]))):=⟨gx7.pre,gx7.fresh,fun a o eo no=>by
            rw[Al (fun z=>by subst z;rw[hD]at eo;cases eo)]
            exact gx7.keep a o eo no,fun a ea=>by
            by_cases h:a=A0
            ·subst h;rw[BG];intro z;cases z
            ·rw[Al h];exact gx7.some a ea⟩
          exact fin ec gx8 (by rw[g7.tmp,g5.tmp];exact ht) (((r4.step g5.st).step g7.st).step s8) st8 BG ((ry7.append (.cons d7 .nil)).step s8)
        · refine ⟨Mi, E3, Si, false, S5, e5, r4, st3, fun H5 M5 g5 st5 => ?_⟩
          refine WA ?_
          exact fin ec ((gx.trans g3.x).trans g5.x) (by rw[g5.tmp];exact ht) (r4.step g5.st) st5 (g5.keep _ _ hy3 (st3.nt A0 hA)) (ry3.step g5.st)
        ·cases ec
      ·cases ec
    ·cases ec
structure DTs(X:Cx)(ifs:List Expr)(c:Ev):Prop where
 pe:PTs X ifs (tDT X.K c)
theorem RO{X:Cx}{e:List Expr}{t t':TT}(h:PTs X e t)(m:∀σ H Q,t' σ H Q->t σ H Q):PTs X e t':=fun pins s σ H Q I q=>h pins s σ H Q I (m _ _ _ q)
theorem Bk{X:Cx}:DTs X [] BH:=⟨RO VY fun σ H Q z=>by
 obtain⟨M,E,S,b,S',e,r,st,q⟩:=z
 cases e
 exact q _ M (.refl st.mo) st⟩
theorem Fd{X:Cx}{c:Expr}{f:Ev}(h:DT X c f):DTs X [c] f:=⟨Vk h.pe⟩
section
variable{X:Cx}{N':List Str}{cf:Bool}{cap:List Nat}{m:Nat}{scope:Scope}{elt tg iter:Expr}{ifs:List Expr}{pos:Pos}{s:Sr}{t:Tf}{c f:Ev}
def Blk(X:Cx)(N':List Str)(scope:Scope)(tg:Expr)(ifs:List Expr)(elt:Expr)(t:Tf)(c f:Ev):Prop:=
 ∀(s:Shared) (H:Hp) (fp:List Addr),DG (Fe X N' scope s H fp) tg t/\DTs (Fe X N' scope s H fp) ifs c/\DE (Fe X N' scope s H fp) elt f
theorem Bq(cap:List Nat)(m:Nat)(N':List Str)(hc:X.calm=true)(S:AV X.N X.env.scope N' (ixC cap m) scope)(hi:DI X tg iter s)(hb:Blk X N' scope tg ifs elt t c f)(hs:∀x,foldedSetIterable iter X.env x=pure x:=by intro _;rfl):
  DE X (.ListComp elt [⟨tg,iter,ifs,0⟩] scope pos) (Kr cf cap m s t c f):=⟨
 Bz (VB (g:=tG X.K t) (tc:=tDT X.K c) (te:=tD X.K f) hc S hi.pe (fun s H fp=>⟨(hb s H fp).1.pe,(hb s H fp).2.1.pe,(hb s H fp).2.2.pe⟩) hs) fun _ _ _ h=>Po h⟩
theorem CU{i:Nat}{y:Str}{py spos:Pos}(cap:List Nat)(m:Nat)(N':List Str)(hc:X.calm=true)(hN:X.N.Nodup)(hi':X.N[i]?=some y)(hx:X.env.scope.names.lookup y=some .local)(S:AV X.N X.env.scope N' (ixC cap m) scope)(hi:DI X tg iter s)(hb:Blk X N' scope tg ifs elt t c f)
  (hsw:swapsWith (.ListComp elt [⟨tg,iter,ifs,0⟩] scope pos) (some (.Name y py)) spos.line X.env=pure true:=by rfl) (hs:∀x,foldedSetIterable iter X.env x=pure x:=by intro _;rfl):
  DS X (.Assign [.Name y py] (.ListComp elt [⟨tg,iter,ifs,0⟩] scope pos) spos) (Bc i (Kr cf cap m s t c f)):=⟨
 ES (OS (g:=tG X.K t) (tc:=tDT X.K c) (te:=tD X.K f) hc hN hi' hx S hi.pe (fun s H fp=>⟨(hb s H fp).1.pe,(hb s H fp).2.1.pe,(hb s H fp).2.2.pe⟩) hsw hs) fun Dn σ H z=>by
  obtain⟨M,E,S,fl,E',S',e,r,st,q⟩:=z
  obtain⟨⟨d,S1⟩,e1,e⟩:=JM e
  cases e
  exact Po ⟨M,E,S,d,S1,e1,r,st,fun v H1 M1 g1 st1 r1=>q _ _ M1 g1 ((r.step g1.st).put r1) st1⟩⟩
end
noncomputable def C5{α:Type}(xs:List α)(lo hi:Option Int):List α:=(xs.drop (HT.sIx xs.length 0 lo)).take (HT.sIx xs.length xs.length hi-HT.sIx xs.length 0 lo)
theorem PU{K:PySem.W.Frag}{M:Ms}{H:Hp}{xs:List V}{ds:List D}(h:An K M H xs ds)(lo hi:Option Int):An K M H (T6 xs lo hi) (C5 ds lo hi):=by
 unfold T6 C5
 rw[h.length]
 exact(h.drop _).take _
theorem PV{α:Type}{xs:List α}{lo hi:Option Int}(h1:HT.sIx xs.length 0 lo=0)(h2:HT.sIx xs.length xs.length hi=xs.length):C5 xs lo hi=xs:=by
 unfold C5
 rw[h1,h2]
 simp
noncomputable def wSl(lo hi:Option Int):Op1:=fun w=>match w with
 | .val (.tup ds)=>some (.val (.tup (C5 ds lo hi)))
 | .val (.str z)=>if z.length≤sizeLine then some (.val (.str (Txt.slice z lo hi)))else none
 |w=>(asL w).map fun ds=>.own (C5 ds lo hi)
def cC(K:PySem.W.Frag):V->Option Int->Option Int->Hp->VK->Prop:=fun x lo hi H Q=>∃M w r,wSl lo hi w=some r/\MOk M H/\Sh K M H x w/\∀v H',Nw K M H H' v r->Q v H'
theorem Wz{X:Cx}:SlR X (fun x lo hi H Q=>∃z,x=.str z/\z.length≤sizeLine/\Q (.str (Txt.slice z lo hi)) H):=by
  intro pins s σ H x v vl vu lo hi sl Q I rx hs pl pu h
  obtain⟨z,rfl,hz,q⟩:=h
  obtain⟨t,rfl⟩:=rx
  have fin:∀t' k,EP X pins σ Q (.str (Txt.slice z lo hi) t') {s with toks:=k}:=fun t' k=>⟨.str _,H,I.tok k,⟨t',rfl⟩,q⟩
  cases pl with
  | none =>
    cases pu with
    |none=>exact⟨"str",_,PySem.F.slot_str_getitem.lookup,typeIs_str _ _ _,wpAny_getItem_str_slice (l:=none) (u:=none) (st:=none) hs rfl (post_val_or_str ⟨Nat.le_trans (Txt.slice_le z _ _) hz,fin⟩)⟩
    |int j u=>exact⟨"str",_,PySem.F.slot_str_getitem.lookup,typeIs_str _ _ _,wpAny_getItem_str_slice (l:=none) (u:=some (j,u)) (st:=none) hs rfl (post_val_or_str ⟨Nat.le_trans (Txt.slice_le z _ _) hz,fin⟩)⟩
  | int i u' =>
    cases pu with
    |none=>exact⟨"str",_,PySem.F.slot_str_getitem.lookup,typeIs_str _ _ _,wpAny_getItem_str_slice (l:=some (i,u')) (u:=none) (st:=none) hs rfl (post_val_or_str ⟨Nat.le_trans (Txt.slice_le z _ _) hz,fin⟩)⟩
    |int j u=>exact⟨"str",_,PySem.F.slot_str_getitem.lookup,typeIs_str _ _ _,wpAny_getItem_str_slice (l:=some (i,u')) (u:=some (j,u)) (st:=none) hs rfl (post_val_or_str ⟨Nat.le_trans (Txt.slice_le z _ _) hz,fin⟩)⟩
theorem aH{X:Cx}:SlR X (cC X.K):=by
  intro pins s σ H x v vl vu lo hi sl Q I rx hs pl pu h
  obtain⟨M,w,r,e,mo,sh,q⟩:=h
  unfold wSl at e
  split at e
  · rename_i ds
    cases e
    cases sh with
    | tup hx rr =>
      rename_i a xs
      have hl:=rr.length
      by_cases hw:HT.sIx xs.length 0 lo=0/\HT.sIx xs.length xs.length hi=xs.length
      · refine St.WN pins s σ H _ v vl vu lo hi sl Q I rx hs pl pu ⟨a, xs, rfl, hx, hw.1, hw.2, ?_⟩
        have ew:C5 ds lo hi=ds:=PV (by rw[←hl];exact hw.1) (by rw[←hl];exact hw.2)
        rw[ew]at q
        exact q _ _ (.same mo (.tup hx rr))
      ·exact Wk pins s σ H _ v vl vu lo hi sl Q I rx hs pl pu ⟨a,xs,rfl,hx,hw,fun p hp=>q _ _ (.tup mo hp (PU rr lo hi))⟩
  · split at e
    · cases e
      cases sh
      exact Wz pins s σ H _ v vl vu lo hi sl Q I rx hs pl pu ⟨_,rfl,by assumption,q _ _ (.same mo (.str _))⟩
    ·cases e
  · cases e1 : asL w with
    |none=>rw[e1]at e;cases e
    | some ds =>
      rw[e1]at e
      cases e
      obtain⟨a,xs,rfl,h1,rr⟩:=sh.l e1
      exact VD pins s σ H _ v vl vu lo hi sl Q I rx hs pl pu ⟨a,xs,rfl,.of h1,fun p hp=>q _ _ (.lst mo hp (PU rr lo hi))⟩
noncomputable def WC:Wv->Option Int
 | .val (.int i)=>some i
 |_=>none
noncomputable def De(l h:Bool):OpN:=fun ws=>match l,h,ws with
 |false,false,[a]=>wSl none none a
 |true,false,[a,b]=>(WC b).bind fun i=>wSl (some i) none a
 |false,true,[a,b]=>(WC b).bind fun i=>wSl none (some i) a
 |true,true,[a,b,c]=>(WC b).bind fun i=>(WC c).bind fun j=>wSl (some i) (some j) a
 |_,_,_=>none
theorem PF{K:PySem.W.Frag}{M:Ms}{H:Hp}{v:V}{w:Wv}{i:Int}(s:Sh K M H v w)(e:WC w=some i):v=.int i:=by
  cases w with
  |own ds=>cases e
  | val d =>
    cases d<;>first|(cases e;done)|skip
    cases e;cases s;rfl
section
variable{X:Cx}{e lo hi:Expr}{oe ol oh:Ev}{c:Bool}{pos p2:Pos}
theorem ET(h:DE X e oe)(hl:DE X lo ol):DE X (.Subscript e (.Slice (some lo) none none p2) pos) (Nc c (De true false) [oe,ol]):=⟨Bz (LC aH h.pe (LZ hl.pe) Ot) fun σ H Q z=>by
  obtain⟨M0,E,S0,w,S1,e,r,st,q⟩:=z
  have z:tD X.K oe σ H fun x H1=>tD X.K ol σ H1 fun y H2=>rN X.K (De true false) [x,y] H2 Q:=KS (Q:=Q) e r st q
  refine GU z fun x H1 z1=>GU z1 fun y H2 z2=>?_
  obtain⟨M,ws,w',e1,mo,sh,q1⟩:=z2
  cases sh with
  | cons h1 t =>
    cases t with
    | cons h2 t =>
      cases t
      obtain⟨i,ei,e1⟩:=BA e1
      exact⟨i,PF h2 ei,M,_,w',e1,mo,h1,q1⟩⟩
theorem Fh(h:DE X e oe)(hh:DE X hi oh):DE X (.Subscript e (.Slice none (some hi) none p2) pos) (Nc c (De false true) [oe,oh]):=⟨Bz (LC aH h.pe Ot (LZ hh.pe)) fun σ H Q z=>by
  obtain⟨M0,E,S0,w,S1,e,r,st,q⟩:=z
  have z:tD X.K oe σ H fun x H1=>tD X.K oh σ H1 fun y H2=>rN X.K (De false true) [x,y] H2 Q:=KS (Q:=Q) e r st q
  refine GU z fun x H1 z1=>GU z1 fun y H2 z2=>?_
  obtain⟨M,ws,w',e1,mo,sh,q1⟩:=z2
  cases sh with
  | cons h1 t =>
    cases t with
    | cons h2 t =>
      cases t
      obtain⟨i,ei,e1⟩:=BA e1
      exact⟨i,PF h2 ei,M,_,w',e1,mo,h1,q1⟩⟩
theorem Ox{K:PySem.W.Frag}{M:Ms}{H:Hp}{S:Sto}{v:V}{d:D}{i:Int}(r:CW K M H v d)(e:WC (dr S d)=some i):v=.int i:=by
 cases r<;>first|(cases e;done)|skip
 ·cases e;rfl
 ·rename_i n h
  unfold dr at e
  dsimp only at e
  split at e<;>cases e
theorem QS(h:DE X e oe)(hl:DE X lo ol)(hh:DE X hi oh):DE X (.Subscript e (.Slice (some lo) (some hi) none p2) pos) (Nc c (De true true) [oe,ol,oh]):=⟨Bz (LC aH h.pe (LZ hl.pe) (LZ hh.pe)) fun σ H Q z=>by
 obtain⟨M0,E,S0,w,S1,e,r,st,q⟩:=z
 obtain⟨⟨ds,S2⟩,e1,e⟩:=BA e
 obtain⟨w2,e2,e⟩:=BA e
 obtain⟨⟨d1,Sa⟩,ea,e1⟩:=BA e1
 obtain⟨⟨ds1,Sb⟩,eb,e1⟩:=JM e1
 cases e1
 obtain⟨⟨d2,Sc⟩,ec,eb⟩:=BA eb
 obtain⟨⟨ds2,Sd⟩,ed,eb⟩:=JM eb
 cases eb
 obtain⟨⟨d3,Se⟩,ee,ed⟩:=BA ed
 obtain⟨⟨ds3,Sf⟩,ef,ed⟩:=JM ed
 cases ed
 cases ef
 obtain⟨i,ei,e2⟩:=BA e2
 obtain⟨j,ej,e2⟩:=BA e2
 refine⟨M0,E,S0,d1,Sa,ea,r,st,fun x H1 M1 g1 st1 r1=>?_⟩
 refine⟨M1,E,Sa,d2,Sc,ec,r.step g1.st,st1,fun y H2 M2 g2 st2 r2=>⟨i,?_,?_⟩⟩
 ·exact Ox r2 ei
 refine⟨M2,E,Sc,d3,Se,ee,(r.step g1.st).step g2.st,st2,fun u H3 M3 g3 st3 r3=>⟨j,?_,?_⟩⟩
 ·exact Ox r3 ej
 refine⟨M3,_,w2,e2,st3.mo,Uj st3 ((r1.step g2.st).step g3.st),fun v H4 n=>?_⟩
 obtain⟨M4,g4,st4,d4⟩:=n.fin st3 e
 exact q v H4 M4 (((g1.trans g2).trans g3).trans g4) st4 d4⟩
structure WY(K:PySem.W.Frag)(mg:Str->Option Value)(x:Str)(d:D):Prop where
 ex:∃v u,mg x=some u/\RelV v u/\∀M H,CW K M H v d
theorem U6{x:Str}{d:D}(c:WY X.K X.mg x d)(hg:Gl X x)(hd:(x==("__debug__":Str))=false:=by decide):DE X (.Name x pos) (eC d):=⟨by
 obtain⟨v,u,h1,h2,h3⟩:=c.ex
 exact Bz (U2 hg h1 h2 hd) fun σ H Q z=>by
  obtain⟨M0,E,S0,w,S1,e,rr,st,q⟩:=z
  cases e
  exact q _ _ M0 (.refl st.mo) st (h3 _ _)⟩
theorem Ge{x:Str}{T:String}(hg:Gl X x)(hm:X.mg x=none)(hv:bootBuiltins x=some (.type T))(hn:x≠ "__name__":=by decide)(hd:(x==("__debug__":Str))=false:=by decide):DE X (.Name x pos) (eC (.ty T)):=
 Lr (Uk (v:=.ty T) hg hm hv rfl hn hd) fun _ _ _=>.ty T
structure cU(K:PySem.W.Frag)(w:World)(mg:Str->Option Value)(x:Str)(tbl:List (Str×D)):Prop where
 ex:∃a kvs,mg x=some (.ref a)/\TopD K w a kvs/\∀k,(tbl.lookup k=none->kvs.lookup k=none)/\∀d,tbl.lookup k=some d->∃v,kvs.lookup k=some v/\∀M H,CW K M H v d
end
noncomputable def NO:Nat->List D->List D
 |_,[]=>[]
 |k,d::ds=>.tup [.int k,d]::NO (k+1) ds
theorem IL:∀{ds:List D} {k i:Nat},(NO k ds)[i]?=(ds[i]?).map fun d=>.tup [.int ((k+i:Nat):Int),d]
  | [],k,i=>by simp[NO]
  |d::ds,k,0=>by simp[NO]
  | d :: ds, k, i + 1 => by
    simp only[NO,List.getElem?_cons_succ]
    rw[IL,show k+1+i=k+(i+1) by omega]
theorem LN:∀{ds:List D} {k:Nat},(NO k ds).length=ds.length
 | [],k=>rfl
 |d::ds,k=>by simp[NO,LN (ds:=ds)]
theorem SqF.sqB{K:PySem.W.Frag}{M:Ms}{H:Hp}{gs:Gd}{k:Bool}{a:Addr}{ds:List D}(h:SqF K M H gs k a ds){H2:Hp}{M2:Ms}{S2:Sto}(g:Sp1 M H M2 H2)(st:StR K M2 S2 H2)(ok:gOk gs S2):∃xs,SqB K H2 k a xs/\An K M2 H2 xs ds:=by
 obtain⟨xs,h1,h2⟩:=h.keep H2 M2 S2 g st ok
 refine⟨xs,?_,h2⟩
 cases k with
 |true=>exact h1
 |false=>exact h1
theorem XX{K:PySem.W.Frag}{M:Ms}{H:Hp}{gs:Gd}{k:Bool}{a:Addr}{ds:List D}(h:SqF K M H gs k a ds):WG K M H gs (NO 0 ds) (ItE K k a) where
 go:=fun i H2 M2 S2 g st ok hi=>by
  rw[LN]at hi
  obtain⟨xs,h1,h2⟩:=h.sqB g st ok
  obtain⟨x,hx⟩:=h2.get' hi
  exact⟨xs,x,h1,hx⟩
 stop:=fun i H2 M2 S2 g st ok hi=>by
  rw[LN]at hi
  obtain⟨xs,h1,h2⟩:=h.sqB g st ok
  exact⟨xs,h1,by have:=h2.length;omega⟩
 yld:=fun i H2 M2 S2 x H3 d g st ok hd hy=>by
  obtain⟨xs,h1,h2⟩:=h.sqB g st ok
  obtain⟨p,y,hp,rfl,hy,rfl⟩:=hy
  have hx:=hy xs h1
  rw[IL]at hd
  obtain⟨d0,e,hd⟩:=JM hd
  subst hd
  obtain⟨x',h3,h4⟩:=h2.get e
  rw[hx]at h3;cases h3
  have k3:=Ey (o:=.tup [.int i,y]) hp
  refine⟨k3,.tup (.of BG) (.cons ?_ (.cons (h4.step (Gr.grow st.mo k3).st) .nil))⟩
  rw[Nat.zero_add]
  exact .int _
noncomputable def WB(f:Ev):Sr:=fun E S=>(f E S).bind fun r=>(sqD r.2 r.1).map fun p=>((NO 0 p.1,p.2),r.2)
theorem QN{X:Cx}{a:Expr}{f:Ev}{p pos tp:Pos}{elts:List Expr}{k:Nat}(hg:Gl X "enumerate")(hm:X.mg "enumerate"=none)(ha:DE X a f)(hs:starEach [a] X.env=[(false,eval a X.env)]:=by rfl):DI X (.Tuple elts k tp) (.Call (.Name "enumerate" p) [a] [] pos) (WB f):=⟨
 Kv (SA hg hm (Ku ha.pe Pj (by rw[hs];rfl)) hs) fun σ H R z=>by
  obtain⟨M,E,S,ds,gs,S',e,r,st,q⟩:=z
  obtain⟨⟨d,S1⟩,e1,e⟩:=BA e
  obtain⟨⟨ds',gs'⟩,e2,e⟩:=JM e
  cases e
  refine⟨M,E,S,d,S1,e1,r,st,fun v H1 M1 g1 st1 r1=>?_⟩
  obtain⟨k,a,rfl,sq⟩:=Nn st1 r1 e2
  obtain⟨xs,hs,_⟩:=sq.sqB (Gr.refl st1.mo).st st1 (Kz e2)
  exact⟨k,a,rfl,⟨xs,hs⟩,q _ _ M1 g1 st1 (XX sq)⟩⟩
noncomputable def Kh(ds es:List D):List D:=(ds.zip es).map fun p=>.tup [p.1,p.2]
theorem Te{ds es:List D}{i:Nat}{d:D}(h:(Kh ds es)[i]?=some d):∃x y,ds[i]?=some x/\es[i]?=some y/\d=.tup [x,y]:=by
 unfold Kh at h
 simp only[List.getElem?_map,Option.map_eq_some_iff]at h
 obtain⟨⟨x,y⟩,h1,h2⟩:=h
 rw[List.getElem?_zip_eq_some]at h1
 exact⟨x,y,h1.1,h1.2,h2.symm⟩
theorem IV{ds es:List D}:(Kh ds es).length=min ds.length es.length:=by simp[Kh]
theorem SqF.more{K:PySem.W.Frag}{M:Ms}{H:Hp}{gs gs':Gd}{k:Bool}{a:Addr}{ds:List D}(h:SqF K M H gs k a ds)(s:∀g∈gs,g∈gs'):SqF K M H gs' k a ds:=⟨fun H2 M2 S2 g st ok=>h.keep H2 M2 S2 g st fun x hx=>ok x (s x hx)⟩
theorem WQ{K:PySem.W.Frag}{M:Ms}{H:Hp}{gs:Gd}{k m:Bool}{a b:Addr}{ds es:List D}(h:SqF K M H gs k a ds)(h':SqF K M H gs m b es):WG K M H gs (Kh ds es) (Itz K k a m b) where
 go:=fun i H2 M2 S2 g st ok hi=>by
  rw[IV]at hi
  obtain⟨xs,h1,r⟩:=h.sqB g st ok
  obtain⟨ys,h2,r'⟩:=h'.sqB g st ok
  obtain⟨x,hx⟩:=r.get' (show i<ds.length by omega)
  obtain⟨y,hy⟩:=r'.get' (show i<es.length by omega)
  exact⟨xs,ys,x,y,h1,h2,hx,hy⟩
 stop:=fun i H2 M2 S2 g st ok hi=>by
  rw[IV]at hi
  obtain⟨xs,h1,r⟩:=h.sqB g st ok
  obtain⟨ys,h2,r'⟩:=h'.sqB g st ok
  have:=r.length
  have:=r'.length
  exact⟨xs,ys,h1,h2,by omega⟩
 yld:=fun i H2 M2 S2 x H3 d g st ok hd hy=>by
  obtain⟨xs,h1,r⟩:=h.sqB g st ok
  obtain⟨ys,h2,r'⟩:=h'.sqB g st ok
  obtain⟨p,x1,y1,hp,rfl,q1,q2,rfl⟩:=hy
  obtain⟨d1,d2,e1,e2,rfl⟩:=Te hd
  have hx:=q1 xs h1
  have hy:=q2 ys h2
  obtain⟨x',h3,h4⟩:=r.get e1
  obtain⟨y',h5,h6⟩:=r'.get e2
  rw[hx]at h3;cases h3
  rw[hy]at h5;cases h5
  have k3:=Ey (o:=.tup [x1,y1]) hp
  exact⟨k3,.tup (.of BG) (.cons (h4.step (Gr.grow st.mo k3).st) (.cons (h6.step (Gr.grow st.mo k3).st) .nil))⟩
noncomputable def T9(f g:Ev):Sr:=fun E S=>(evs [f,g] E S).bind fun r=>match r.1 with
 | [d,e]=>(sqD r.2 d).bind fun p=>(sqD r.2 e).map fun q=>((Kh p.1 q.1,p.2++q.2),r.2)
 |_=>none
theorem OB {X : Cx} {a b : Expr} {f g : Ev} {p pos tp : Pos} {elts : List Expr} {k : Nat} (hg : Gl X "zip") (hm : X.mg "zip" = none) (ha : DE X a f) (hb : DE X b g) (hs : starEach [a, b] X.env = [(false, eval a X.env), (false, eval b X.env)] := by rfl) (hs2 : starEach [b] X.env = [(false, eval b X.env)] := by rfl) : DI X (.Tuple elts k tp) (.Call (.Name "zip" p) [a, b] [] pos) (T9 f g) := ⟨
  Kv (Xf hg hm (AA ha (AA hb AD hs2) (by rw[hs,hs2])).pe hs hs2) fun σ H R z=>by
    obtain⟨M,E,S,ds,gs,S',e,r,st,q⟩:=z
    obtain⟨⟨ws,S1⟩,e1,e⟩:=BA e
    refine Gp (fs:=[f,g]) e1 r st fun vs H1 M1 g1 st1 r1=>?_
    dsimp only at e
    split at e
    · obtain ⟨⟨ds1, gs1⟩, eu, e⟩ := BA e
      obtain⟨⟨ds2,gs2⟩,ee,e⟩:=JM e
      cases e
      cases r1 with
      | cons h1 t =>
        cases t with
        | cons h2 t =>
          cases t
          obtain⟨k1,a1,rfl,s1⟩:=Nn st1 h1 eu
          obtain⟨k2,a2,rfl,s2⟩:=Nn st1 h2 ee
          obtain⟨xs,hxs,_⟩:=s1.sqB (Gr.refl st1.mo).st st1 (Kz eu)
          obtain⟨ys,hys,_⟩:=s2.sqB (Gr.refl st1.mo).st st1 (Kz ee)
          exact⟨_,_,_,_,rfl,⟨_,hxs⟩,⟨_,hys⟩,q _ _ M1 g1 st1 (WQ (s1.more fun x hx=>List.mem_append_left _ hx) (s2.more fun x hx=>List.mem_append_right _ hx))⟩
    ·cases e⟩
noncomputable def intD:D->Option Int
 | .int i=>some i
 |_=>none
noncomputable def JL(ds:List D):Option (List Int):=ds.mapM intD
theorem MS {K : PySem.W.Frag} {M : Ms} {H : Hp} : ∀ {vs : List V} {ds : List D} {ns : List Int}, An K M H vs ds -> JL ds = some ns -> vs = ns.map V.int
  |_,_,ns,.nil,e=>by cases e;rfl
  | _, _, ns, .cons (d := d) (ds := ds) h t, e => by
    unfold JL at e
    rw[List.mapM_cons]at e
    cases e1:intD d with
    |none=>rw[e1]at e;cases e
    | some b =>
      rw[e1]at e
      cases e2:ds.mapM intD with
      |none=>rw[e2]at e;cases e
      | some cs =>
        rw[e2]at e
        cases e
        have hd:d=.int b:=by
          cases d<;>first|(cases e1;done)|skip
          cases e1;rfl
        subst hd
        cases h
        rw[List.map_cons,←MS t e2]
theorem Pw{X:Cx}(hc:X.calm=true):Di X (.builtin "sum") (fun xs H Q=>∃(p:Addr) (ns:List Int),xs=[.ref p]/\SqL X.K H p (ns.map V.int)/\Q (.int ns.sum) H):=by
 intro pins s σ H xs us Q I r h
 obtain⟨p,ns,rfl,hp,q⟩:=h
 obtain⟨u,rfl,ru⟩:=r.one
 cases (show u=Value.ref p from ru)
 obtain⟨its,rv,pl,hz⟩:=I.list hp
 have hd:X.A.in1.handled=none:=I.ok.hd hc
 refine call_sum_walkG (wpAny_pyIter_list pl.isList ?_)
 have hlen:ns.length=its.length:=by have:=rv.length;simpa using this
 have hpl:=pl.isList
 have hlt:p<s.heap.objs.size:=by
  obtain⟨o,ho,_⟩:=hpl
  exact Heap.lt_size ho
 refine⟨s.heap.objs.size,_,_,its.length,_,_,fun i=>ns.getD i 0,rfl,St.J9 (vs:=its) hd (Nat.ne_of_lt hlt),⟨⟨_,Heap.get?_push_size _ rfl,rfl,rfl⟩,?_⟩,?_,?_,?_⟩
 ·obtain⟨o,ho,r⟩:=hpl
  exact⟨o,Heap.get?_push_of_some _ ho,r⟩
 ·intro b hb
  rw[Heap.size_push]
  simp at hb
  rcases hb with h|h
  ·rw[h];exact Nat.lt_succ_self _
  ·rw[h];exact Nat.lt_succ_of_lt hlt
 ·intro i v hv
  have hi:i<its.length:=(List.getElem?_eq_some_iff.mp hv).1
  have hb:(ns.map V.int)[i]?=some (.int (ns.getD i 0)):=by
   rw[List.getElem?_map,List.getElem?_eq_getElem (by omega)]
   simp[List.getD_eq_getElem?_getD,List.getElem?_eq_getElem (show i<ns.length by omega)]
  obtain⟨u,hu,ru⟩:=rv.get hb
  rw[hv]at hu
  cases hu
  exact ru
 ·intro h' tk t' hk
  have e:preSum (fun i=>ns.getD i 0) its.length=ns.sum:=by
   rw[←hlen,St.JF (Nat.le_refl _),List.take_of_length_le (Nat.le_refl _)]
  rw[e]
  exact⟨.int _,H,I.kept (t':=tk) fun b o eb=>hk b o (by simp;exact Nat.ne_of_lt (Heap.lt_size eb)) (Heap.get?_push_of_some _ eb),⟨_,rfl⟩,q⟩
noncomputable def OO:Op1:=fun w=>(asL w).bind fun ds=>(JL ds).map fun ns=>.val (.int ns.sum)
theorem Ej{X:Cx}(hc:X.calm=true):Di X (.builtin "sum") (rN X.K (o1 OO)):=by
 intro pins s σ H xs us Q I r h
 obtain⟨M,ws,w,e,mo,sh,q⟩:=h
 obtain⟨v,w1,rfl,rfl,s1,e1⟩:=HW sh e
 obtain⟨ds,e2,e1⟩:=BA e1
 obtain⟨ns,e3,e1⟩:=JM e1
 cases e1
 obtain⟨a,ys,rfl,h3,h4⟩:=s1.l e2
 exact Pw hc pins s σ H _ us Q I r ⟨a,ns,rfl,by rw[←MS h4 e3];exact .of h3,q _ _ (.same mo (.int _))⟩
theorem LG(l:Addr)(items:Array Value)(n:Nat)(b:Addr)(items2:Array Value)(n2:Nat)(dd:Option Addr)(sl:Array (Option Value))(hs0:¬(!items.isEmpty && Builtin.List.listTooLong (items.size+items2.size))=true)(hs1:items.size≤sizeLine)(hs2:items.size+items2.size≤sizeLine+1):
  Meets (Builtin.«list.extend» ⟨[.ref l,.ref b],[]⟩) (fun _ R s=>s.heap.get? l=some {cls:=.type "list",dict:=none,data:=.seq items n,slots:= #[]}/\s.heap.get? b=some {cls:=.type "tuple",dict:=dd,data:=.seq items2 n2,slots:=sl}/\R (.ok (.ret Value.none)) {s with heap:=s.heap.update l (Obj.mapSeq fun x=>x++items2),toks:=s.toks}):=
 .of_wp fun prog w A R s h=>by
  obtain⟨hp,g,d,tk,os⟩:=s;obtain⟨hl,hb,h⟩:=h;have f1:=AutoSeq1.idx_int;have f2:=AutoSeq1.sub_tuple_tuple;have f3:=AutoSeq1.sub_list_list;have f4:=AutoSeq1.sub_tuple_list;have f5:=AutoSeq1.sub_list_tuple
  have hz':(items++items2).size≤sizeLine+1:=by rw[Array.size_append];exact hs2
  wp_walk using(wpAny_updateSeq hl rfl (hz:=hs1) (_hz':=hz')),AutoSeq1.wpAny_loadPart' hl,AutoSeq1.wpAny_loadPart' hb;exact⟨_,rfl,h⟩
def Sw(K:PySem.W.Frag):V->List V->Hp->VK->Prop:=fun x vs H Q=>∃l b xs zs,x=.ref l/\vs=[.ref b]/\H l=some (.lst xs)/\SqT K H b zs/\xs.length+zs.length≤sizeLine/\Q .non (upd H l (.lst (xs++zs)))
theorem Of{X:Cx}:MtM X "list.extend" (Sw X.K):=by
 intro pins s σ H x vs v us Q I rx rv h
 obtain⟨l,b,xs,zs,rfl,rfl,hH,hB,hz,q⟩:=h
 cases rx
 obtain⟨u,rfl,ru⟩:=rv.one
 cases ru
 obtain⟨z,its,n,r,hl,e⟩:=I.lstM hH
 obtain⟨its2,r2,⟨⟨c,dd,dt,sl⟩,e2,hc,n2,hd⟩,z2⟩:=I.tuple hB
 simp only at hc hd
 subst hc hd
 have hl2:=r2.length
 have hsz:its.toArray.size+its2.toArray.size≤sizeLine:=by rw[List.size_toArray,List.size_toArray];omega
 have hlong:¬(!its.toArray.isEmpty && Builtin.List.listTooLong (its.toArray.size+its2.toArray.size))=true:=by
  rw[Li hsz,Bool.and_false]
  exact Bool.false_ne_true
 refine call_meets F.slot_list_extend ⟨_,e,rfl⟩ F.entry_list_extend (F.args_list_extend_2 _ _)
  (LG l its.toArray n b its2.toArray n2 dd sl hlong (by rw[List.size_toArray];omega) (by omega)) ⟨e,e2,?_⟩
 refine⟨.non,_,I.lset (its':=its++its2) hH e (by simp) (r.append r2) ?_,rfl,q⟩
 rw[List.length_append]
 omega
noncomputable def Y8:Mo
  | S, ds, [x] => match dr S x with
    | .val (.tup zs)=>if ds.length+zs.length≤sizeLine then some (.non,ds++zs)else none
    |w=>(asL w).bind fun zs=>if ds.length+zs.length≤sizeLine then some (.non,ds++zs)else none
  |_,_,_=>none
theorem Uz {X : Cx} : MtR X "list.extend" (Ym X.K Y8) := by
  intro pins s σ H x vs v us Q I rx rv h
  obtain⟨M,S,n,a,ds,args,d,ds',rfl,hc,hn,e,st,ra,q⟩:=h
  unfold Y8 at e
  split at e
  · obtain ⟨xs, h1, h2⟩ := st.cell n a _ hc hn
    obtain⟨y,rfl,ry⟩:=OF ra
    have sy:=Uj st ry
    split at e
    · rename_i ed
      rw[ed]at sy
      split at e
      · rename_i hz
        cases e
        cases sy with
        | tup hx rr =>
          obtain⟨st2,g2⟩:=st.chg hc hn (h2.append rr)
          exact Of pins s σ H _ _ v us Q I rx rv ⟨a,_,xs,_,rfl,rfl,h1,hx,by rw[h2.length,rr.length];exact hz,q _ _ st2 g2 .non⟩
      ·cases e
    · obtain ⟨zs, e1, e⟩ := BA e
      split at e
      · rename_i hz
        cases e
        obtain⟨b,ys,rfl,h3,h4⟩:=sy.l e1
        obtain⟨st2,g2⟩:=st.chg hc hn (h2.append h4)
        exact Qc pins s σ H _ _ v us Q I rx rv ⟨a,b,xs,ys,rfl,rfl,h1,h3,by rw[h2.length,h4.length];exact hz,q _ _ st2 g2 .non⟩
      ·cases e
  ·cases e
theorem SF{X:Cx}:OpR X (binaryOp .Mult) (fun x y H Q=>∃a xs k,x=.ref a/\y=.int k/\SqT X.K H a xs/\xs≠[]/\k≤0/\ -(2^63)≤k/\∀p,H p=none->Q (.ref p) (upd H p (.tup []))):=by
  intro pins s σ H x y v u Q I rx ry h
  obtain⟨a,xs,k,rfl,rfl,hx,hne,hk,hk2,q2⟩:=h
  cases rx
  obtain⟨t,rfl⟩:=ry
  obtain⟨its,r,⟨⟨c,dd,data,sl⟩,ho,hc,n,hd⟩,hzz⟩:=I.tuple hx
  simp only at hc hd
  subst hc hd
  have hl:=r.length
  have hpos:0<xs.length:=List.length_pos_iff.mpr hne
  refine wpAny_binaryOp_repeat_ref (T:="tuple") (U:="int") (by decide) ⟨_,ho,rfl⟩ (fun s'=>typeIs_int s' k t) FK F.fills_int_mul F.slot_int_rmul IA F.slot_int_index.lookup
    (call_meets F.slot_int_rmul (typeIs_int s k t) F.entry_int_rmul (F.args_int_rmul_2 _ _) (GI k t a its.toArray n dd sl) ⟨ho,rfl,⟨_,ho,rfl⟩,?_⟩)
  refine wpAny_call_entry F.slot_tuple_mul ⟨_,ho,rfl⟩ F.entry_tuple_mul ?_ (F.args_tuple_mul_2 _ _)
  unfold Builtin.«tuple.__mul__»
  wp_walk using AutoSeq1.wpAny_loadPart' ho
  rw [if_neg (show ¬ (decide (k < -2 ^ 63) || decide (k ≥ 2 ^ 63)) = true by
    rw[Bool.or_eq_true]
    rintro (z|z)
    ·have:=of_decide_eq_true z;omega
    ·have:=of_decide_eq_true z;omega)]
  wp_walk using AutoSeq1.wpAny_loadPart' ho
  have hemp:its.toArray.isEmpty=false:=by
    cases its with
    |nil=>rw[List.length_nil]at hl;omega
    |cons b bs=>rfl
  rw [if_neg (show ¬ (its.toArray.isEmpty || k == 1) = true by
    rw[hemp,Bool.false_or]
    intro z
    have:=eq_of_beq z
    omega)]
  wp_walk using AutoSeq1.wpAny_loadPart' ho
  all_goals first
    |exact⟨_,rfl,.ref _,_,I.laid (o:=.tup []) (t':=s.toks) (fun b ob q=>Heap.get?_push_of_some _ q) (Nat.le_refl _) ⟨Nat.zero_le _,[],.nil,PyProof.Rows.IsTup.new _ _⟩,rfl,q2 _ (I.hok.fresh (Nat.le_refl _))⟩
    | (exfalso
       rename_i hh
       exact hh (by rw[Bool.or_eq_true];exact .inl (decide_eq_true hk)))
noncomputable def E8:Op2:=fun a b=>match a,b with
 | .val (.tup xs),.val (.int k)=>if(!xs.isEmpty && decide (k≤0) && decide (-(2^63)≤k))=true then some (.val (.tup []))else Yb (.val (.tup xs)) (.val (.int k))
 |a,b=>Yb a b
theorem CC {X : Cx} : OpR X (binaryOp .Mult) (rOp X.K E8) := by
  intro pins s σ H x y v u Q I rx ry h
  obtain⟨M,w1,w2,r,e,mo,s1,s2,q⟩:=h
  unfold E8 at e
  split at e
  · split at e
    · rename_i xs k hk
      rw[Bool.and_eq_true,Bool.and_eq_true]at hk
      cases e
      cases s2
      cases s1 with
      | @tup a ys _ h1 r1=>
        have hne:ys≠[]:=fun zz=>by
          subst zz
          cases r1
          exact absurd hk.1.1 (by decide)
        exact SF pins s σ H _ _ v u Q I rx ry ⟨a,ys,k,rfl,rfl,h1,hne,of_decide_eq_true hk.1.2,of_decide_eq_true hk.2,fun p hp=>q _ _ (.tup mo hp .nil)⟩
    ·exact Qd pins s σ H x y v u Q I rx ry ⟨M,_,_,r,e,mo,s1,s2,q⟩
  ·exact Qd pins s σ H x y v u Q I rx ry ⟨M,_,_,r,e,mo,s1,s2,q⟩
theorem Ae{A:Around}{k:Nat}(hr:KQ k A):A.units+100<cLine:=by have:=hr.un;omega
section
variable{P:Program}{w:World}{K:PySem.W.Frag}{mg:Str->Option Value}{base:Heap}
theorem IS{x:Str}{st:Stmt}{k np:Nat}{ps:List Str}(S:St.Src K mg x st)(hbi:∀f fd,Fun K x x st f fd->Binds K fd ps []):St.Dfn P w K mg base x k ps (spD K np fun _ _=>none):=by
 obtain⟨f,fd,Fu,hm⟩:=S.ex
 refine⟨f,fd,hm,Fu.kp,hbi f fd Fu,⟨fun vs H Q E h=>?_,fun A outer s H args us vs Q E hr h0 hb hv h=>?_⟩⟩
 ·obtain⟨_,_,_,_,_,_,e,_⟩:=h;cases e
 ·obtain⟨_,_,_,_,_,_,e,_⟩:=h;cases e
end
noncomputable def scE:Nat->PySem.Expr->List Scope
 |0,_=>[]
 |n+1,.ListComp e gs s _=>s::(gs.flatMap fun g=>scE n g.iter)++scE n e++(gs.flatMap fun g=>g.ifs.flatMap (scE n))
 |n+1,.BoolOp _ vs _=>vs.flatMap (scE n)
 |n+1,.Call f as _ _=>scE n f++as.flatMap (scE n)
 |n+1,.BinOp a _ b _=>scE n a++scE n b
 |n+1,.UnaryOp _ a _=>scE n a
 |n+1,.Compare a _ cs _=>scE n a++cs.flatMap (scE n)
 |n+1,.Subscript a b _=>scE n a++scE n b
 |n+1,.Tuple es _ _=>es.flatMap (scE n)
 |n+1,.List es _=>es.flatMap (scE n)
 |n+1,.IfExp c a b _=>scE n c++scE n a++scE n b
 |n+1,.Dict _ vs _=>vs.flatMap (scE n)
 |n+1,.Slice a b c _=>(a.toList++b.toList++c.toList).flatMap (scE n)
 |n+1,.Attribute v _ _=>scE n v
 |_,_=>[]
noncomputable def scS:Nat->Stmt->List Scope
 |0,_=>[]
 |n+1,.Return (some e) _=>scE 30 e
 |n+1,.Assign ts e _=>ts.flatMap (scE 30)++scE 30 e
 |n+1,.AugAssign t _ e _=>scE 30 t++scE 30 e
 |n+1,.Expr e _=>scE 30 e
 |n+1,.If t a b _=>scE 30 t++a.flatMap (scS n)++b.flatMap (scS n)
 |n+1,.For _ it a b _=>scE 30 it++a.flatMap (scS n)++b.flatMap (scS n)
 |n+1,.While t a b _=>scE 30 t++a.flatMap (scS n)++b.flatMap (scS n)
 |_,_=>[]
noncomputable def GA(st:Stmt)(k:Nat):Scope:=((Es st).flatMap (scS 20)).getD k (AJ st)
structure cR(P:Program)(w:World)(K:PySem.W.Frag)(mg:Str->Option Value)(base:Heap)(x:Str)(k np:Nat)(tbl:List (Str×Fn)):Prop where
 ex:∃a kvs,mg x=some (.ref a)/\TopD K w a kvs/\∀p G,tbl.lookup p=some G->∃f fd ps,kvs.lookup p=some (.ref f)/\Ml P w K mg base CX0 k f fd ps (spD K np G)/\PySem.W.keepIn K (.ref f)=true/\Binds K fd ps []
section
variable{P:Program}{w:World}{K:PySem.W.Frag}{mg:Str->Option Value}{base h:Heap}
theorem X2{x:Str}{st:Stmt}{f:Addr}{oc:Value}{od an:Option Addr}{osl:Array (Option Value)}{kV doc pm cdv ct:Value}(X:K.In h)(G:h.Ns mainGlobals mg)(a:PySem.W.nsIn K mainGlobals x=some (some (.ref f)))
  (l:K.lookup f=some ⟨oc,od,.func (PySem.W.fnOf x x (JV st) (Es st) (AJ st) .none kV doc pm an cdv ct),osl⟩) (c:PySem.W.codeIn K cdv x=true) (k:PySem.W.keepIn K (.ref f)=true):St.Src K mg x st:=
 ⟨f,_,XT l c k,PySem.W.mg_of X G a⟩
def IsD(K:PySem.W.Frag)(u:Value)(d:D):Prop:=∃v,RelV v u/\∀M H,CW K M H v d
theorem HN{x:Str}{t:Tok}:IsD K (.str x t) (.str x):=⟨.str x,⟨t,rfl⟩,fun _ _=>.str x⟩
theorem Ng:∀{us:List Value} {ds:List D},Paired (fun d u=>IsD K u d) ds us->∃xs,Vals xs us/\∀M H,An K M H xs ds
  |_,_,.nil=>⟨[],.nil,fun _ _=>.nil⟩
  | _, _, .cons h t => by
    obtain⟨v,h1,h2⟩:=h
    obtain⟨xs,h3,h4⟩:=Ng t
    exact⟨v::xs,.cons h1 h3,fun M H=>.cons (h2 M H) (h4 M H)⟩
theorem Ug{a:Addr}{od:Option Addr}{osl:Array (Option Value)}{its:List Value}{n:Nat}{ds:List D}(l:K.lookup a=some ⟨.type "tuple",od,.seq its.toArray n,osl⟩)(hz:its.length≤sizeLine)(r:Paired (fun d u=>IsD K u d) ds its):IsD K (.ref a) (.tup ds):=by
 obtain⟨xs,h1,h2⟩:=Ng r
 exact⟨.ref a,rfl,fun M H=>.tup (.inr ⟨_,its.toArray,n,l,rfl,rfl,by simpa using hz,by simpa using h1⟩) (h2 M H)⟩
theorem Wb{x:Str}{u:Value}{d:D}(X:K.In h)(G:h.Ns mainGlobals mg)(e:PySem.W.nsIn K mainGlobals x=some (some u))(r:IsD K u d):WY K mg x d:=by
 obtain⟨v,h1,h2⟩:=r
 exact⟨v,u,PySem.W.mg_of X G e,h1,h2⟩
structure cV(w:World)(K:PySem.W.Frag)(mg:Str->Option Value)(x:Str)(ns:List (Str×Str)):Prop where
 ex:∃a kvs,mg x=some (.ref a)/\TopD K w a kvs/\Paired (fun(n:Str×Str) (q:Str×V)=>n.1=q.1/\∃f,q.2=.ref f/\mg n.2=some (.ref f)) ns kvs
noncomputable def Ul(K:PySem.W.Frag):Sp:=fun vs H Q _=>∃(a:Addr) (ns:List Int),vs=[.ref a]/\SqL K H a (ns.map V.int)/\ns.length≤63/\∀H',Q (.bl true) H'
theorem Wj{k:Nat}{f:Addr}{fd:FuncData}{x:Str}{F:Fn}(Fk:Ml P w K mg base CX0 k f fd [x] (spD K 1 F))(h:∀ns:List Int,ns.length≤63->∃S,F [.scr ns] []=some (.bl true,S)):Ml P w K mg base CX0 k f fd [x] (Ul K):=by
 refine Fk.imp fun vs H Q E z=>?_
 obtain⟨a,ns,rfl,hs,hl,q⟩:=z
 obtain⟨S,e⟩:=h ns hl
 refine⟨Ms.no,[.scr ns],[],_,S,rfl,e,.cons (.scr ?_) .nil,⟨fun a z=>absurd z Ms.no_mem,List.nodup_nil,fun a z=>(nomatch z),rfl,fun n a c z=>by simp[Ms.no]at z⟩,fun v H' M' g st r=>?_⟩
 ·rcases hs with hs|hs
  ·exact .inl ⟨hs,Ms.no_mem⟩
  ·exact .inr hs
 ·cases r
  exact q H'
end
noncomputable def putD(kvs:List (Key×D))(k:Key)(v:D):List (Key×D):=
 if(kvs.any fun kv=>decide (kv.1=k))=true then kvs.map (fun kv=>if kv.1=k then(kv.1,v)else kv)else kvs++[(k,v)]
noncomputable def KZ(kvs more:List (Key×D)):List (Key×D):=more.foldl (fun acc kv=>putD acc kv.1 kv.2) kvs
noncomputable def Ye:D->Option Key
 | .int i=>some (.inl i)
 | .str x=>some (.inr x)
 |_=>none
noncomputable def SK:Bool->List (Key×D)->Sto->D×Sto
 |false,es,S=>(.dct es,S)
 |true,es,S=>(.ref S.length,S++[.dct es])
section
variable{K:PySem.W.Frag}{M M':Ms}{H:Hp}{S:Sto}{E:En}{σ:Sg}
theorem CH.any(k:Key):∀{kvs:List (Key×V)} {es:List (Key×D)},CH K M H kvs es->(kvs.any fun kv=>decide (kv.1=k))=es.any fun kv=>decide (kv.1=k)
 |_,_,.nil=>rfl
 |_,_,.cons h t=>by rw[List.any_cons,List.any_cons,CH.any k t]
theorem CH.app:∀{kvs kvs':List (Key×V)} {es es':List (Key×D)},CH K M H kvs es->CH K M H kvs' es'->CH K M H (kvs++kvs') (es++es')
 |_,_,_,_,.nil,s=>s
 |_,_,_,_,.cons h t,s=>.cons h (CH.app t s)
theorem CH.repl{k:Key}{v:V}{d:D}(r:CW K M H v d):∀{kvs:List (Key×V)} {es:List (Key×D)},CH K M H kvs es->CH K M H (kvs.map fun kv=>if kv.1=k then(kv.1,v)else kv) (es.map fun kv=>if kv.1=k then(kv.1,d)else kv)
  |_,_,.nil=>.nil
  | _, _, .cons (k := k') h t => by
    rw[List.map_cons,List.map_cons]
    by_cases e:k'=k
    ·rw[if_pos e,if_pos e];exact .cons r (CH.repl r t)
    ·rw[if_neg e,if_neg e];exact .cons h (CH.repl r t)
theorem CH.put{k:Key}{v:V}{d:D}{kvs:List (Key×V)}{es:List (Key×D)}(r:CW K M H v d)(h:CH K M H kvs es):CH K M H (putK kvs k v) (putD es k d):=by
 unfold putK putD
 rw[h.any k]
 split
 ·exact h.repl r
 ·exact h.app (.cons r .nil)
theorem CH.merge:∀{more:List (Key×V)} {more':List (Key×D)} {kvs:List (Key×V)} {es:List (Key×D)},CH K M H more more'->CH K M H kvs es->CH K M H (JE kvs more) (KZ es more')
 |_,_,_,_,.nil,h=>h
 |_,_,kvs,es,.cons (k:=k) (v:=v) (d:=d) (vs:=vs) (ds:=ds) r t,h=>show CH K M H (JE (putK kvs k v) vs) (KZ (putD es k d) ds)from CH.merge t (h.put r)
theorem Wu{v:V}{d:D}{k:Key}(r:CW K M H v d)(e:Ye d=some k):v=kV k:=by
 cases r<;>cases e<;>rfl
theorem StR.dn(r:StR K M S H){a:Addr}(e:H a=none):StR K ⟨M.cel,a::M.tmp⟩ S (upd H a (.dK []))/\Sp1 M H ⟨M.cel,a::M.tmp⟩ (upd H a (.dK [])):=by
 have k:∀b o,H b=some o->upd H a (.dK []) b=some o:=Ey e
 have na:¬M.mem a:=fun z=>r.mo.some z e
 have s1:Sp1 M H ⟨M.cel,a::M.tmp⟩ (upd H a (.dK [])):=⟨r.mo,List.prefix_rfl,fun b z=>by
  rcases z with z|z
  ·exact .inl (.inl z)
  ·rcases List.mem_cons.mp z with z|z
   ·subst z;exact .inr e
   ·exact .inl (.inr z),fun b o eb _=>k b o eb⟩
 refine⟨⟨fun b z=>?_,r.nd,fun b hb z=>?_,r.len,fun n b c h1 h2=>?_⟩,s1⟩
 ·by_cases h:b=a
  ·subst h;exact .inr ⟨[],BG⟩
  ·rw[Al h]
   refine r.mo b ?_
   rcases z with z|z
   ·exact .inl z
   ·rcases List.mem_cons.mp z with z|z
    ·exact absurd z h
    ·exact .inr z
 ·rcases List.mem_cons.mp hb with hb|hb
  ·subst hb;exact na (.inl z)
  ·exact r.nt b hb z
 ·have q:=r.cell n b c h1 h2
  cases c with
  |lst ds=>obtain⟨xs,e,rr⟩:=q;exact⟨xs,k _ _ e,rr.step s1⟩
  |dct ds=>obtain⟨xs,e,rr⟩:=q;exact⟨xs,k _ _ e,rr.step s1⟩
theorem StR.doff{c t:List Addr}{a:Addr}{kvs:List (Key×V)}{es:List (Key×D)}(cf:Bool)(r:StR K ⟨c,a::t⟩ S H)(nt:a∉t)(rr:CH K ⟨c,a::t⟩ H kvs es):
    ∃c',StR K ⟨c',t⟩ (SK cf es S).2 (upd H a (.dK kvs))/\CW K ⟨c',t⟩ (upd H a (.dK kvs)) (.ref a) (SK cf es S).1/\c <+: c'/\(∀b∈c',b∈c∨b=a):=by
  have nc:a∉c:=r.nt a List.mem_cons_self
  have hl:c.length=S.length:=r.len
  have ne:∀b∈c,b≠a:=fun b hb z=>nc (by rw[←z];exact hb)
  have kp:∀b o,H b=some o->¬Ms.mem ⟨c,a::t⟩ b->upd H a (.dK kvs) b=some o:=fun b o eb nb=>by rw[Al (fun z=>nb (.inr (by rw[z];exact List.mem_cons_self)))];exact eb
  have old:∀{c':List Addr},Sp1 ⟨c,a::t⟩ H ⟨c',t⟩ (upd H a (.dK kvs))->∀(n:Nat) (b:Addr) (cl:Cl),c[n]?=some b->S[n]?=some cl->Xv K ⟨c',t⟩ (upd H a (.dK kvs)) b cl:=fun s1 n b cl h1 h2=>by
    have hb:=ne b (List.mem_of_getElem? h1)
    have q:=r.cell n b cl h1 h2
    cases cl with
    |lst ds=>obtain⟨xs,e,rr⟩:=q;exact⟨xs,by rw[Al hb];exact e,rr.step s1⟩
    |dct ds=>obtain⟨xs,e,rr⟩:=q;exact⟨xs,by rw[Al hb];exact e,rr.step s1⟩
  have mo:∀b,Ms.mem ⟨c,t⟩ b∨b=a->(∃xs,upd H a (.dK kvs) b=some (.lst xs))∨∃ks,upd H a (.dK kvs) b=some (.dK ks):=fun b z=>by
    by_cases h:b=a
    ·subst h;exact .inr ⟨kvs,BG⟩
    · rw [Al h]
      rcases z with z|z
      ·exact r.mo b (z.imp id (List.mem_cons_of_mem _))
      ·exact absurd z h
  cases cf with
  | false =>
    have s1:Sp1 ⟨c,a::t⟩ H ⟨c,t⟩ (upd H a (.dK kvs)):=⟨r.mo,List.prefix_rfl,fun b z=>.inl (z.imp id (List.mem_cons_of_mem _)),kp⟩
    exact⟨c,⟨fun b z=>mo b (.inl z),r.nd,fun b hb=>r.nt b (List.mem_cons_of_mem _ hb),r.len,old s1⟩,.dct BG (fun z=>z.elim nc nt) (rr.step s1),List.prefix_rfl,fun b z=>.inl z⟩
  | true =>
    have s1:Sp1 ⟨c,a::t⟩ H ⟨c++[a],t⟩ (upd H a (.dK kvs)):=⟨r.mo,List.prefix_append _ _,fun b z=>by
      rcases z with z|z
      · rcases List.mem_append.mp z with z | z
        ·exact .inl (.inl z)
        ·exact .inl (.inr (by rw[List.mem_singleton.mp z];exact List.mem_cons_self))
      ·exact .inl (.inr (List.mem_cons_of_mem _ z)),kp⟩
    refine⟨c++[a],⟨fun b z=>mo b ?_,?_,fun b hb z=>?_,by simp[SK,hl],fun n b cl h1 h2=>?_⟩,.ref (by rw[←hl];exact List.getElem?_concat_length),List.prefix_append _ _,fun b z=>?_⟩
    · rcases z with z | z
      · rcases List.mem_append.mp z with z | z
        ·exact .inl (.inl z)
        ·exact .inr (List.mem_singleton.mp z)
      ·exact .inl (.inr z)
    · rw [List.nodup_append]
      refine⟨r.nd,by simp,fun x hx y hy z=>?_⟩
      simp at hy;subst hy
      exact nc (by rw[←z];exact hx)
    · rcases List.mem_append.mp z with z | z
      ·exact r.nt b (List.mem_cons_of_mem _ hb) z
      ·rw[List.mem_singleton.mp z]at hb;exact nt hb
    · have h2 : (S ++ [Cl.dct es])[n]? = some cl := h2
      by_cases h:n<S.length
      · rw [List.getElem?_append_left (by rw [hl]; exact h)] at h1
        rw[List.getElem?_append_left h]at h2
        exact old s1 n b cl h1 h2
      · have hm : n = S.length := by
          have:=(List.getElem?_eq_some_iff.mp h2).1
          simp at this;omega
        subst hm
        rw[List.getElem?_append_right (by rw[hl];exact Nat.le_refl _)]at h1
        rw[List.getElem?_append_right (Nat.le_refl _)]at h2
        rw[hl]at h1
        simp at h1 h2
        subst h1 h2
        exact⟨kvs,BG,rr.step s1⟩
    · rcases List.mem_append.mp z with z | z
      ·exact .inl z
      ·exact .inr (List.mem_singleton.mp z)
noncomputable def evP:List (Ev×Ev)->En->Sto->Option (List (Key×D)×Sto)
 | [],_,S=>some ([],S)
 |(k,v)::r,E,S=>(k E S).bind fun a=>(Ye a.1).bind fun kk=>(v E a.2).bind fun b=>(evP r E b.2).map fun q=>((kk,b.1)::q.1,q.2)
theorem Ua:∀{fs:List (Ev×Ev)} {M:Ms} {S:Sto} {es:List (Key×D)} {S':Sto} {H:Hp} {Q:List (V×V)->Hp->Prop},evP fs E S=some (es,S')->EnR K M E σ H->StR K M S H->
    (∀kvs H' M',Gr M H M' H'->StR K M' S' H'->CH K M' H' kvs es->kvs.length=fs.length->Q (kvs.map fun kv=>(kV kv.1,kv.2)) H')->Nz (fs.map fun x=>(tD K x.1,tD K x.2)) σ H Q
  | [],M,S,es,S',H,Q,e,r,st,q=>by
    cases e
    exact q [] H M (.refl st.mo) st .nil rfl
  | (fk, fv) :: fs, M, S, es, S', H, Q, e, r, st, q => by
    obtain⟨⟨dk,S1⟩,e1,e⟩:=BA e
    obtain⟨kk,ek,e⟩:=BA e
    obtain⟨⟨dv,S2⟩,e2,e⟩:=BA e
    obtain⟨⟨es',S3⟩,e3,e⟩:=JM e
    cases e
    refine⟨M,E,S,dk,S1,e1,r,st,fun v H1 M1 g1 st1 d1=>?_⟩
    refine⟨M1,E,S1,dv,S2,e2,r.step g1.st,st1,fun v2 H2 M2 g2 st2 d2=>?_⟩
    refine Ua e3 ((r.step g1.st).step g2.st) st2 fun kvs H3 M3 g3 st3 rk hl=>?_
    rw[Wu d1 ek]
    exact q ((kk,v2)::kvs) H3 M3 ((g1.trans g2).trans g3) st3 (.cons (d2.step g3.st) rk) (by simp[hl])
end
noncomputable def PB(cf:Bool)(fs:List (Ev×Ev)):Ev:=fun E S=>(evP fs E S).map fun r=>SK cf (KZ [] r.1) r.2
abbrev XN:=PB false
section
variable{X:Cx}{pos:Pos}
structure DPs(X:Cx)(pos:Pos)(ks:List (Option Expr))(vs:List Expr)(fs:List (Ev×Ev)):Prop where
 pe:PPs X pos ks vs (fs.map fun x=>(tD X.K x.1,tD X.K x.2))
 all:ks.all (·.isSome)=true
 len:ks.length=vs.length
 num:fs.length=vs.length
theorem Vp:DPs X pos [] [] []:=⟨VP,rfl,rfl,rfl⟩
theorem RE{k v:Expr}{ks:List (Option Expr)}{vs:List Expr}{fk fv:Ev}{fs:List (Ev×Ev)}(hk:DE X k fk)(hv:DE X v fv)(h:DPs X pos ks vs fs):DPs X pos (some k::ks) (v::vs) ((fk,fv)::fs):=
 ⟨RK hk.pe hv.pe h.pe,by rw[List.all_cons,h.all];rfl,by rw[List.length_cons,List.length_cons,h.len],by rw[List.length_cons,List.length_cons,h.num]⟩
theorem U8{K:PySem.W.Frag}{M:Ms}{H:Hp}{S S':Sto}{Q:VK}{cf:Bool}{p:Addr}{M2:Ms}{H2:Hp}{S2:Sto}{kvs:List (Key×V)}{es:List (Key×D)}(st:StR K M S H)(hp:H p=none)(g:Gr ⟨M.cel,p::M.tmp⟩ (upd H p (.dK [])) M2 H2)(st2:StR K M2 S2 H2)(rk:CH K M2 H2 kvs es)
  (q:∀v H' M',Gr M H M' H'->StR K M' (SK cf es S2).2 H'->CW K M' H' v (SK cf es S2).1->Q v H'):Q (.ref p) (upd H2 p (.dK kvs)):=by
 obtain⟨c2,t2⟩:=M2
 have ht:t2=p::M.tmp:=g.tmp
 subst ht
 have np:p∉M.tmp:=fun z=>st.mo.some (.inr z) hp
 obtain⟨c',st',rd,pr,sub⟩:=st2.doff cf np rk
 refine q _ _ ⟨c',M.tmp⟩ ⟨st.mo,(show M.cel <+: c2 from g.pre).trans pr,rfl,fun b z=>?_,fun b o eb nb=>?_,fun b eb=>?_⟩ st' rd
 ·rcases sub b z with z|z
  ·rcases g.fresh b z with z|z
   ·exact .inl z
   ·right
    by_cases h:b=p
    ·rw[h];exact hp
    ·rw[Al h]at z;exact z
  ·right;rw[z];exact hp
 ·have h:b≠p:=fun z=>by rw[z,hp]at eb;cases eb
  rw[Al h]
  exact g.keep b o (by rw[Al h];exact eb) nb
 ·by_cases h:b=p
  ·subst h;rw[BG];intro z;cases z
  ·rw[Al h]
   exact g.some b (by rw[Al h];exact eb)
theorem Xo{cf:Bool}{ks:List (Option Expr)}{vs:List Expr}{fs:List (Ev×Ev)}(h:DPs X pos ks vs fs)(h0:ks≠[])(h15:ks.length≤15):DE X (.Dict ks vs pos) (PB cf fs):=⟨
 Bz (Vn h.pe h.all h.len h0 h15) fun σ H Q z=>by
  obtain⟨M,E,S,d,S',e,r,st,q⟩:=z
  obtain⟨⟨es,S2⟩,e1,e⟩:=JM e
  intro p hp
  obtain⟨st0,s0⟩:=st.dn hp
  refine Ua e1 (r.step s0) st0 fun kvs H2 M2 g st2 rk hl=>⟨g.keep p _ BG (st0.nt p List.mem_cons_self),kvs,rfl,by rw[hl,h.num,←h.len];exact h15,?_⟩
  refine U8 (cf:=cf) (S':=S') st hp g st2 (rk.merge .nil) ?_
  have e':SK cf (KZ [] es) S2=(d,S'):=e
  rw[e']
  exact q⟩
end
section
variable{X:Cx}{pins:List (Addr×Obj)}{σ:Sg}{H:Hp}{s:Shared}{M:Ms}
theorem Vw{v:V}{w:Wv}{u:Value}{k:St.Kd}(I:Inv X pins σ H s)(s1:Sh X.K M H v w)(r1:RelV v u)(e2:kdW w=some k):∃P:Heap->Prop,PySem.W.KitX X.K u (.type k.ty) P/\P s.heap/\u≠.builtin "__main__.__loader__#opaque":=by
  cases w with
  | own ds =>
    cases e2
    obtain⟨a,ys,rfl,h1,_⟩:=s1
    cases (show u=Value.ref a from r1)
    obtain⟨_,_,n,_,h2⟩:=(show Cn X.prog X.w H s.heap a (.lst ys)from I.hok a _ h1)
    exact⟨_,PySem.W.kitx_list,⟨_,h2,rfl⟩,fun z=>nomatch z⟩
  | val d =>
    have s1':CW X.K M H v d:=s1
    cases s1' with
    |non=>cases e2;cases (show u=Value.none from r1);exact⟨_,PySem.W.kitx_none,True.intro,fun z=>nomatch z⟩
    |bl b=>cases e2;cases (show u=Value.bool b from r1);exact⟨_,PySem.W.kitx_bool,True.intro,fun z=>nomatch z⟩
    |int i=>cases e2;obtain⟨t,q⟩:=(show∃t,u=Value.int i t from r1);cases q;exact⟨_,PySem.W.kitx_int,True.intro,fun z=>nomatch z⟩
    |str x=>cases e2;obtain⟨t,q⟩:=(show∃t,u=Value.str x t from r1);cases q;exact⟨_,PySem.W.kitx_str,True.intro,fun z=>nomatch z⟩
    |ty b=>cases e2
    |scr h=>cases e2
    |ref h=>cases e2
    | lst h n rr =>
      rename_i a ys ds
      cases e2
      cases (show u=Value.ref a from r1)
      obtain⟨_,_,n,_,h2⟩:=(show Cn X.prog X.w H s.heap a (.lst ys)from I.hok a _ h)
      exact⟨_,PySem.W.kitx_list,⟨_,h2,rfl⟩,fun z=>nomatch z⟩
    | dct h n rr =>
      rename_i a kvs es
      cases e2
      cases (show u=Value.ref a from r1)
      obtain⟨_,_,vs,_,p⟩:=(show Cn X.prog X.w H s.heap a (.dK kvs)from I.hok a _ h)
      obtain⟨o,es,ep,h1,h2,_⟩:=p
      exact⟨_,PySem.W.kitx_dict,⟨o,h1,h2.1⟩,fun z=>nomatch z⟩
    | tup h rr =>
      rename_i a ys ds
      cases e2
      cases (show u=Value.ref a from r1)
      obtain⟨its,_,⟨o,h1,h2,_⟩,_⟩:=I.tuple h
      exact⟨_,PySem.W.kitx_tuple,⟨o,h1,h2⟩,fun z=>nomatch z⟩
end
section
variable{X:Cx}
noncomputable def ME:Op2:=fun a t=>match t with
 | .val (.tup [.ty T,.ty U])=>if(Jk T && Jk U)=true then(kdW a).map fun k=>.val (.bl (k.isA T||k.isA U))else none
 |_=>none
theorem KH : Di X (.builtin "isinstance") (rN X.K (o2 ME)) := by
  intro pins s σ H xs us Q I r h
  obtain⟨M,ws,w,e,mo,sh,q⟩:=h
  obtain⟨v,w1,v',w2,rfl,rfl,s1,s2,e1⟩:=LM sh e
  unfold ME at e1
  split at e1
  · rename_i T U
    split at e1
    · rename_i hT
      rw[Bool.and_eq_true]at hT
      cases e2:kdW w1 with
      |none=>rw[e2]at e1;cases e1
      | some k =>
        rw[e2]at e1
        cases e1
        obtain⟨u1,u2,rfl,r1,r2⟩:=r.two
        obtain⟨P,kx,px,ne⟩:=Vw I s1 r1 e2
        have s2':CW X.K M H v' (.tup [.ty T,.ty U]):=s2
        cases s2' with
        | tup h2 rr =>
          rename_i a ys
          cases (show u2=Value.ref a from r2)
          obtain⟨its,rv,⟨⟨oc,od,odt,osl⟩,h3,h4,n,h5⟩,_⟩:=I.tuple h2
          simp only at h4 h5
          subst h4 h5
          cases rr with
          | cons q1 rr =>
            cases rr with
            | cons q2 rr =>
              cases rr
              cases q1
              cases q2
              obtain⟨x1,x2,e3,r3,r4⟩:=rv.two
              cases (show x1=Value.type T from r3)
              cases (show x2=Value.type U from r4)
              subst e3
              have kT:=Pk (K:=X.K) hT.1 k
              have kU:=Pk (K:=X.K) hT.2 k
              have ka:PySem.W.kitAny X.K (.type k.ty) [.type T,.type U]=some (k.isA T||k.isA U):=by
                unfold PySem.W.kitAny
                rw[kT]
                cases k.isA T with
                |true=>rfl
                | false =>
                  show PySem.W.kitAny X.K (.type k.ty) [.type U]=_
                  unfold PySem.W.kitAny
                  rw[kU]
                  cases k.isA U<;>rfl
              exact PySem.W.kia_tup (its:=[.type T,.type U]) kx I.kIn px h3 ka ne fun tk=>⟨.bl _,H,I.tok tk,rfl,q _ _ (.same mo (.bl _))⟩
    ·cases e1
  ·cases e1
noncomputable def unlike:St.Kd->St.Kd->Bool
 | .lst,.int=>true| .tup,.int=>true| .dct,.int=>true| .dct,.lst=>true| .dct,.tup=>true
 |_,_=>false
noncomputable def Pp:Op2:=fun a b=>if Cy (fz a) (fz b)=true then some (.val (.bl (deq (fz a) (fz b))))else(kdW a).bind fun k=>(kdW b).bind fun j=>if unlike k j=true then some (.val (.bl false))else none
theorem Ue (hu : X.A.units + 100 < cLine) : OpR X (compareOp .Eq) (rOp X.K Pp) := by
  intro pins s σ H x y v u Q I rx ry h
  obtain⟨M,w1,w2,r,e,mo,s1,s2,q⟩:=h
  unfold Pp at e
  split at e
  · rename_i hk
    exact A3 hu pins s σ H x y v u Q I rx ry ⟨M,w1,w2,r,by unfold wEq;rw[if_pos hk];exact e,mo,s1,s2,q⟩
  · obtain ⟨k, e1, e⟩ := BA e
    obtain⟨j,e2,e⟩:=BA e
    split at e
    · rename_i hk
      cases e
      have fin:EP X pins σ Q (.bool false) s:=⟨.bl false,H,I,rfl,q _ _ (.same mo (.bl _))⟩
      have L : ∀ {w : Wv} {x : V} {v : Value}, Sh X.K M H x w -> RelV x v -> kdW w = some .lst -> ∃ a items, v = .ref a /\ s.heap.IsList a items := fun {w} {x} {v} s1 rx e1 => by
        cases w with
        | own ds =>
          obtain⟨a,ys,rfl,h1,_⟩:=s1
          cases (show v=Value.ref a from rx)
          obtain⟨its,_,o,n,h2,h3,h4⟩:=Eo I (.inl h1)
          exact⟨a,_,rfl,o,h2,h3,n,h4⟩
        | val d =>
          have s1':CW X.K M H x d:=s1
          cases s1' with
          | lst h n rr =>
            rename_i a ys ds
            cases (show v=Value.ref a from rx)
            obtain⟨its,_,o,n,h2,h3,h4⟩:=Eo I (.inl h)
            exact⟨a,_,rfl,o,h2,h3,n,h4⟩
          |_=>cases e1
      have T : ∀ {w : Wv} {x : V} {v : Value}, Sh X.K M H x w -> RelV x v -> kdW w = some .tup -> ∃ a items, v = .ref a /\ s.heap.IsTuple a items := fun {w} {x} {v} s1 rx e1 => by
        cases w with
        |own ds=>cases e1
        | val d =>
          have s1':CW X.K M H x d:=s1
          cases s1' with
          | tup h rr =>
            rename_i a ys ds
            cases (show v=Value.ref a from rx)
            obtain⟨its,_,h1,_⟩:=I.tuple h
            exact⟨a,_,rfl,h1⟩
          |_=>cases e1
      have J:∀{w:Wv} {x:V} {v:Value},Sh X.K M H x w->RelV x v->kdW w=some .int->∃i t,v=.int i t:=fun{w} {x} {v} s1 rx e1=>by
        cases w with
        |own ds=>cases e1
        | val d =>
          have s1':CW X.K M H x d:=s1
          cases s1' with
          |int i=>obtain⟨t,q⟩:=(show∃t,v=Value.int i t from rx);exact⟨i,t,q⟩
          |_=>cases e1
      have D : ∀ {w : Wv} {x : V} {v : Value}, Sh X.K M H x w -> RelV x v -> kdW w = some .dct -> ∃ a es ep dd sl, v = .ref a /\ s.heap.get? a = some (Iq (.dict es ep) dd sl) := fun {w} {x} {v} s1 rx e1 => by
        cases w with
        |own ds=>cases e1
        | val d =>
          have s1':CW X.K M H x d:=s1
          cases s1' with
          | dct h n rr =>
            rename_i a kvs es
            cases (show v=Value.ref a from rx)
            obtain⟨_,_,vs,_,p⟩:=(show Cn X.prog X.w H s.heap a (.dK kvs)from I.hok a _ h)
            obtain⟨⟨oc,od,odt,osl⟩,es,ep,h1,⟨h2,_⟩,h3,_⟩:=p
            simp only at h2 h3
            subst h2 h3
            exact⟨a,es,ep,od,osl,rfl,h1⟩
          |_=>cases e1
      have hu':X.A.units<cLine:=by omega
      unfold unlike at hk
      split at hk
      · obtain ⟨a, it, rfl, ha⟩ := L s1 rx e1
        obtain⟨i,t,rfl⟩:=J s2 ry e2
        exact SeqAt.RcAt.list_int i t ha hu' X.prog X.w _ _ fin
      · obtain ⟨a, it, rfl, ha⟩ := T s1 rx e1
        obtain⟨i,t,rfl⟩:=J s2 ry e2
        exact SeqAt.RcAt.tuple_int i t ha hu' X.prog X.w _ _ fin
      · obtain ⟨a, es, ep, dd, sl, rfl, ha⟩ := D s1 rx e1
        obtain⟨i,t,rfl⟩:=J s2 ry e2
        exact NL i t ha hu' X.prog X.w _ _ fin
      · obtain ⟨a, es, ep, dd, sl, rfl, ha⟩ := D s1 rx e1
        obtain⟨b,it,rfl,hb⟩:=L s2 ry e2
        exact Lx ha hb hu' X.prog X.w _ _ fin
      · obtain ⟨a, es, ep, dd, sl, rfl, ha⟩ := D s1 rx e1
        obtain⟨b,it,rfl,hb⟩:=T s2 ry e2
        exact K9 ha hb hu' X.prog X.w _ _ fin
      ·cases hk
    ·cases e
end
section
open PyProof.Rows (boot_isinstance boot_int boot_bool boot_tuple boot_str boot_list boot_abs boot_all boot_any boot_sum boot_max boot_min boot_range boot_enumerate boot_zip boot_sorted boot_set boot_divmod)
def Hg:Ex:=(BQ (Gk (eOp (o2 LV) [(eV 0),(eC (.ty "int"))]) (Tp (eOp (o2 LV) [(eV 0),(eC (.ty "bool"))]))))
def EN:Fn:=BM (BR 1 Hg)
def GO:Ex:=(BQ (Gk (eOp (o2 wLt) [(eV 1),(eOp (o1 F6) [(eV 0)])]) (eOp (o2 wGe) [(eOp (o2 wIx) [(eOp (o2 wIx) [(eV 0),(eV 1)]),(eC (.int 1))]),(eV 2)])))
def Br:Fn:=BM (BR 3 GO)
def H0:Ex:=(BQ (Gk (AM Br [(eV 0),(eV 1),(eC (.int 1))]) (Gk (AM Br [(eV 0),(eV 2),(eC (.int 1))]) (eOp (o2 wEq) [(eOp (o2 wIx) [(eOp (o2 wIx) [(eV 0),(eV 1)]),(eC (.int 0))]),(eOp (o2 wIx) [(eOp (o2 wIx) [(eV 0),(eV 2)]),(eC (.int 0))])]))))
def EE:Fn:=BM (BR 3 H0)
def Hx:Ex:=(BQ (Gk (AM Br [(eV 0),(eV 1),(eV 2)]) (eOp (o2 wNe) [(eOp (o2 wIx) [(eOp (o2 wIx) [(eV 0),(eV 1)]),(eC (.int 0))]),(eV 3)])))
def DP:Fn:=BM (BR 4 Hx)
def Cq:Ex:=(AY (Bc 3 (eOp (o2 wIx) [(eV 2),(eC (.int 0))]))
  (AY (xIf (eOp (o2 wEq) [(eV 3),(eC (.str "pool"))]) (BQ (AM EE [(eV 0),(eOp (o2 wIx) [(eV 2),(eC (.int 1))]),(eOp (o2 wIx) [(eV 2),(eC (.int 2))])])) CD)
  (AY (xIf (eOp (o2 wEq) [(eV 3),(eC (.str "swap"))]) (BQ (AM DP [(eV 0),(eOp (o2 wIx) [(eV 2),(eC (.int 1))]),(eOp (o2 wIx) [(eV 2),(eC (.int 2))]),(eOp (o2 wIx) [(eV 2),(eC (.int 3))])])) CD)
  (AY (xIf (eOp (o2 wEq) [(eV 3),(eC (.str "trade"))]) (AY (Bc 4 (Bt [] 1 (FR (eV 1)) (tNm 0) (eOp (o2 wEq) [(eOp (o2 wIx) [(eV 0),(eC (.int 0))]),(eC (.str "trade"))]) (eOp (o2 wIx) [(eV 0),(eC (.int 1))])))
  (BQ (Gk (eOp (o2 (wIn true)) [(eOp (o2 wIx) [(eV 2),(eC (.int 1))]),(eV 4)]) (AM DP [(eV 0),(eOp (o2 wIx) [(eV 2),(eC (.int 2))]),(eOp (o2 wIx) [(eV 2),(eC (.int 3))]),(eOp (o2 wIx) [(eV 2),(eC (.int 4))])])))) CD)
  (AY (xIf (eOp (o2 (wIn false)) [(eV 3),(B4 [(eC (.str "spoil")),(eC (.str "throw"))])]) (BQ (AM Br [(eV 0),(eOp (o2 wIx) [(eV 2),(eC (.int 1))]),(eOp (o2 wIx) [(eV 2),(eC (.int 2))])])) CD)
  (BQ (eC (.bl true))))))))
def B3:Fn:=BM (BR 5 Cq)
def FH:Ex:=(AY (NU (tTp [(tNm 3),(tNm 4)]) (eOp (o2 wIx) [(eV 0),(eV 1)]))
  (BQ (eOp (o2 A4) [(eOp (o2 A4) [(eOp (De false true) [(eV 0),(eV 1)]),(D9 [(B4 [(eV 3),(eOp (o2 N5) [(eV 4),(eV 2)])])])]),(eOp (De true false) [(eV 0),(eOp (o2 A4) [(eV 1),(eC (.int 1))])])])))
def Bb:Fn:=BM (BR 5 FH)
def BP:Ex:=(AY (Bc 2 (eOp (o2 wIx) [(eV 1),(eC (.int 0))]))
  (AY (xIf (eOp (o2 wEq) [(eV 2),(eC (.str "bring"))]) (BQ (eOp (o2 A4) [(eV 0),(D9 [(B4 [(eOp (o2 wIx) [(eV 1),(eC (.int 2))]),(eOp (o2 wIx) [(eV 1),(eC (.int 3))])])])])) CD)
  (AY (xIf (eOp (o2 wEq) [(eV 2),(eC (.str "pool"))]) (AY (NU (tTp [(tNm 3),(tNm 4)]) (eOp (o2 wIx) [(eV 0),(eOp (o2 wIx) [(eV 1),(eC (.int 1))])]))
  (AY (Bc 5 (eOp (o2 wIx) [(eOp (o2 wIx) [(eV 0),(eOp (o2 wIx) [(eV 1),(eC (.int 2))])]),(eC (.int 1))]))
  (BQ (eOp (o2 A4) [(AM Bb [(AM Bb [(eV 0),(eOp (o2 wIx) [(eV 1),(eC (.int 1))]),(eV 4)]),(eOp (o2 wIx) [(eV 1),(eC (.int 2))]),(eV 5)]),(D9 [(B4 [(eV 3),(eOp (o2 A4) [(eV 4),(eV 5)])])])])))) CD)
  (AY (xIf (eOp (o2 (wIn false)) [(eV 2),(B4 [(eC (.str "swap")),(eC (.str "trade"))])]) (AY (NU (tTp [(tNm 6),(tNm 7),(tNm 3),(tNm 8)]) (eOp (De true false) [(eV 1),(eOp (o1 M8) [(eC (.int 4))])]))
  (BQ (eOp (o2 A4) [(AM Bb [(eV 0),(eV 6),(eV 7)]),(D9 [(B4 [(eV 3),(eV 8)])])]))) CD)
  (AY (xIf (eOp (o2 (wIn false)) [(eV 2),(B4 [(eC (.str "spoil")),(eC (.str "throw"))])]) (BQ (AM Bb [(eV 0),(eOp (o2 wIx) [(eV 1),(eC (.int 1))]),(eOp (o2 wIx) [(eV 1),(eC (.int 2))])])) CD)
  (BQ (eV 0)))))))
def Ak:Fn:=BM (BR 9 BP)
def EV:Ex:=(BQ (Bt [] 1 (FR (eOp (o2 wIx) [(eV 0),(eC (.int 1))])) (tNm 0) BH (B4 [(eOp (o2 wIx) [(eV 0),(eC (.int 0))]),(eOp (o2 wIx) [(eV 0),(eC (.int 1))])])))
def Bu:Fn:=BM (BR 1 EV)
def Fw:Ex:=(AY (Bc 1 (AM Bu [(eV 0)]))
  (AY (Bc 2 (eOp (o2 wIx) [(eV 0),(eC (.int 2))]))
  (AY (Mt (WB (eV 2)) (tTp [(tNm 3),(tNm 4)]) (AY (xIf (Tp (AM B3 [(eV 1),(eOp (De false true) [(eV 2),(eV 3)]),(eV 4)])) (BQ (eV 3)) CD)
  (Bc 1 (AM Ak [(eV 1),(eV 4)]))))
  (BQ (eC .non)))))
def C1:Fn:=BM (BR 5 Fw)
def Eb:Ex:=(AY (Bc 1 (AM C1 [(eV 0)]))
  (xIf (eOp (o2 (So true)) [(eV 1),(eC .non)]) T4 CD))
def CV:Fn:=BM (BR 2 Eb)
def Et:Ex:=(AY (xIf (eOp (o2 wLt) [(eV 1),(eOp (o1 F6) [(eV 0)])]) (BQ (eOp (o2 wIx) [(eV 0),(eV 1)])) CD)
  (BQ (eC (.int 0))))
def CQ:Fn:=BM (BR 2 Et)
def Lq:Ex:=(BQ (Gw [(eV 0),(eOp (o1 Oo) [(eOp (o2 wGe) [(eV 0),(eOp (o2 Vf) [(eC (.int 10)),(eC (.int 18))])])]),(eC (.int 0)),(eOp (o2 N9) [(eV 0),(eC (.int 1000000007))])]))
def F1:Fn:=BM (BR 1 Lq)
def F8:Ex:=(AY (xIf (Gk (eOp (o2 wEq) [(eOp (o2 wIx) [(eV 0),(eC (.int 1))]),(eC (.int 1))]) (eOp (o2 wGt) [(eOp (o2 wIx) [(eV 0),(eC (.int 0))]),(eC (.int 0))])) (AY (Bc 2 (eOp (o2 N9) [(eOp (o2 wIx) [(eV 0),(eC (.int 0))]),(eV 1)]))
  (AY (FD (eOp (o2 NM) [(eOp (o2 wIx) [(eV 0),(eC (.int 0))]),(eV 1)]) (eV 0) (eC (.int 0)))
  (BQ (eV 2)))) CD)
  (AY (FD (eOp (o2 A4) [(eOp (o2 wIx) [(eV 0),(eC (.int 2))]),(eC (.int 1))]) (eV 0) (eC (.int 2)))
  (AY (Bc 3 (eOp (o2 N9) [(eOp (o2 E8) [(eOp (o2 A4) [(eOp (o2 wIx) [(eV 0),(eC (.int 3))]),(eC (.int 17))]),(eOp (o2 A4) [(eC (.int 69621)),(eOp (o2 E8) [(eC (.int 2)),(eOp (o2 wIx) [(eV 0),(eC (.int 2))])])])]),(eC (.int 2147483647))]))
  (AY (Bc 3 (eOp (o2 N9) [(eOp (o2 A4) [(eOp (o2 A4) [(eOp (o2 E8) [(eV 3),(eV 3)]),(eOp (o2 E8) [(eC (.int 40503)),(eOp (o2 wIx) [(eV 0),(eC (.int 2))])])]),(eC (.int 5))]),(eC (.int 2147483629))]))
  (BQ (eOp (o2 N9) [(eOp (o2 NM) [(eOp (o2 N9) [(eOp (o2 E8) [(eV 3),(eC (.int 48271))]),(eC (.int 2147483647))]),(eC (.int 32))]),(eV 1)]))))))
def AG:Fn:=BM (BR 4 F8)
def Hf:Ex:=(AY (QB (U0 1) (eOp (o2 wGt) [(eV 1),(eC (.int 0))]) (NS 0 1 (eV 1) (eOp (o2 N9) [(eV 0),(eV 1)])))
  (BQ (eV 0)))
def EC:Fn:=BM (BR 2 Hf)
def Km:Ex:=(AY (Bc 2 (AM EC [(eOp (o1 Yy) [(eV 0)]),(eV 1)]))
  (BQ (B4 [(eOp (o2 NM) [(eV 0),(eV 2)]),(eOp (o2 NM) [(eV 1),(eV 2)])])))
def Bh:Fn:=BM (BR 3 Km)
def Kp:Ex:=(BQ (AM Bh [(eOp (o2 A4) [(eOp (o2 E8) [(eOp (o2 wIx) [(eV 0),(eC (.int 0))]),(eOp (o2 wIx) [(eV 1),(eC (.int 1))])]),(eOp (o2 E8) [(eOp (o2 wIx) [(eV 1),(eC (.int 0))]),(eOp (o2 wIx) [(eV 0),(eC (.int 1))])])]),(eOp (o2 E8) [(eOp (o2 wIx) [(eV 0),(eC (.int 1))]),(eOp (o2 wIx) [(eV 1),(eC (.int 1))])])]))
def Bx:Fn:=BM (BR 2 Kp)
def Ir:Ex:=(BQ (AM Bh [(eOp (o2 E8) [(eOp (o2 wIx) [(eV 0),(eC (.int 0))]),(eOp (o2 wIx) [(eV 1),(eC (.int 0))])]),(eOp (o2 E8) [(eOp (o2 wIx) [(eV 0),(eC (.int 1))]),(eOp (o2 wIx) [(eV 1),(eC (.int 1))])])]))
def Ax:Fn:=BM (BR 2 Ir)
def KY:Ex:=(BQ (AM Bx [(eV 0),(B4 [(eOp (o2 N5) [(eC (.int 0)),(eOp (o2 wIx) [(eV 1),(eC (.int 0))])]),(eOp (o2 wIx) [(eV 1),(eC (.int 1))])])]))
def Cv:Fn:=BM (BR 2 KY)
def Gb:Ex:=(AY (Bc 2 (Kg [0] 1 (Jg [(eV 1)]) (tNm 1) BH (eOp (o2 wIx) [(D9 [(eC (.int 0)),(eC (.int 1)),(AM AG [(eV 0),(eC (.int 4))]),(AM AG [(eV 0),(eC (.int 9))])]),(AM AG [(eV 0),(eC (.int 4))])])))
  (AY (xIf (eOp (o2 wEq) [(eOp (o1 OO) [(eV 2)]),(eC (.int 0))]) (FD (eC (.int 1)) (eV 2) (AM AG [(eV 0),(eV 1)])) CD)
  (BQ (eOp (o1 BK) [(Bt [2] 1 (FR (eV 2)) (tNm 1) BH (AM Bh [(eV 1),(eOp (o1 OO) [(eV 0)])]))]))))
def Cj:Fn:=BM (BR 3 Gb)
def FX:Ex:=(AY (Bc 1 (eOp (o2 A4) [(eOp (o2 Vf) [(eC (.int 10)),(eC (.int 30))]),(AM AG [(eV 0),(eC (.int 99))])]))
  (BQ (eOp (o2 wIx) [(D9 [(eOp (o2 A4) [(eC (.int 1)),(AM AG [(eV 0),(eC (.int 4))])]),(eOp (o2 A4) [(eC (.int 1)),(AM AG [(eV 0),(eC (.int 40))])]),(eOp (o2 A4) [(eC (.int 1)),(AM AG [(eV 0),(eC (.int 999))])]),(eV 1)]),(eOp (o2 NM) [(AM AG [(eV 0),(eC (.int 7))]),(eC (.int 2))])])))
def BE:Fn:=BM (BR 2 FX)
def JK:Ex:=(AY (NS 1 2 (eOp (o2 A4) [(eC (.int 1)),(AM AG [(eV 0),(eC (.int 4))])]) (eOp (o2 A4) [(eC (.int 1)),(AM AG [(eV 0),(eC (.int 5))])]))
  (AY (Bc 3 (eOp (o2 wIx) [(D9 [(eOp (o2 A4) [(eC (.int 1)),(AM AG [(eV 0),(eC (.int 3))])]),(eOp (o2 A4) [(eC (.int 1)),(AM AG [(eV 0),(eC (.int 20))])])]),(AM AG [(eV 0),(eC (.int 2))])]))
  (BQ (B4 [(eV 1),(eV 2),(eV 3),(AM Cj [(eV 0),(eV 1)]),(AM AG [(eV 0),(eC (.int 10))]),(AM AG [(eV 0),(eC (.int 10))])]))))
def Er:Fn:=BM (BR 4 JK)
def JS:Ex:=(AY (Bc 2 (Gw []))
  (AY (Mt (Jg [(eOp (o2 wIx) [(D9 [(eC (.int 0)),(eC (.int 1)),(AM AG [(eV 0),(eC (.int 5))])]),(AM AG [(eV 0),(eC (.int 3))])])]) (tNm 3) (Dx (Lo MC (eV 2) [(B4 [(AM AG [(eV 0),(eOp (o2 wIx) [(eV 1),(eC (.int 1))])]),(AM BE [(eV 0)]),(AM Cj [(eV 0),(eOp (o2 wIx) [(eV 1),(eC (.int 0))])])])])))
  (BQ (eOp (o1 BK) [(eV 2)]))))
def E9:Fn:=BM (BR 4 JS)
def Ja:Ex:=(AY (Bc 1 (eOp (o2 A4) [(eC (.int 1)),(AM AG [(eV 0),(eC (.int 12))])]))
  (BQ (AM Bh [(eOp (o2 A4) [(eC (.int 1)),(AM AG [(eV 0),(eV 1)])]),(eV 1)])))
def D4:Fn:=BM (BR 2 Ja)
def Hv:Ex:=(BQ (eOp (o1 BK) [(Bt [0] 1 (Jg [(eV 1)]) (tNm 1) BH (eOp (o2 A4) [(eC (.int 1)),(eOp (o2 wIx) [(D9 [(AM AG [(eV 0),(eC (.int 3))]),(AM AG [(eV 0),(eC (.int 99))])]),(AM AG [(eV 0),(eC (.int 2))])])]))]))
def Ct:Fn:=BM (BR 2 Hv)
def JC:Ex:=(BQ (Gw [(Kg [] 1 (FR (eOp (o2 wIx) [(eV 0),(eC (.int 1))])) (tNm 0) BH (PN (o1 E7) [(eV 0)])),(eOp (o1 BK) [(eOp (o2 wIx) [(eOp (o2 wIx) [(eV 0),(eC (.int 0))]),(eC (.int 3))])]),(Gw [])]))
def C6:Fn:=BM (BR 1 JC)
def Ht:Ex:=(AY (Bc 2 (Gw []))
  (AY (Mt (T9 (eOp (o2 wIx) [(eV 0),(eC (.int 2))]) (eOp (o2 wIx) [(eV 1),(eC (.int 2))])) (tTp [(tNm 3),(tNm 4)]) (AY (Bc 5 (AM Bx [(AM Ax [(B4 [(eOp (o2 wIx) [(eV 0),(eC (.int 1))]),(eC (.int 1))]),(eV 3)]),(AM Ax [(B4 [(eOp (o2 wIx) [(eV 1),(eC (.int 1))]),(eC (.int 1))]),(eV 4)])]))
  (Dx (Lo MC (eV 2) [(AM Ax [(eV 5),(AM Bh [(eC (.int 1)),(eOp (o2 A4) [(eOp (o2 wIx) [(eV 0),(eC (.int 1))]),(eOp (o2 wIx) [(eV 1),(eC (.int 1))])])])])]))))
  (BQ (eOp (o1 BK) [(eV 2)]))))
def EH:Fn:=BM (BR 6 Ht)
def Kc:Ex:=(AY (Bc 3 (eOp (o2 wIx) [(eV 2),(eC (.int 3))]))
  (AY (Bc 4 (eOp (o2 A4) [(eOp (o1 OO) [(Bt [3] 3 (FR (eV 1)) (tTp [(tNm 1),(tNm 2),(tNm 3)]) BH (eOp (o2 E8) [(eV 2),(eOp (o2 wIx) [(eV 0),(eV 1)])]))]),(eOp (o2 E8) [(eOp (o2 wIx) [(eV 0),(eC (.int 2))]),(eOp (o2 wIx) [(eV 3),(eOp (o1 M8) [(eC (.int 1))])])])]))
  (BQ (AM Bh [(eOp (o2 E8) [(eOp (o2 wIx) [(eV 2),(eC (.int 2))]),(eOp (o2 wIx) [(eV 3),(eOp (o2 wIx) [(eOp (o2 wIx) [(eV 1),(eOp (o2 wIx) [(eV 2),(eC (.int 1))])]),(eC (.int 0))])])]),(eV 4)]))))
def F2:Fn:=BM (BR 5 Kc)
def JB:Ex:=(AY (Bc 3 (Gw []))
  (AY (Mt (T9 (eV 0) (eV 2)) (tTp [(tNm 4),(tNm 5)]) (Dx (Lo MC (eV 3) [(AM Bx [(AM Ax [(eV 4),(AM Cv [(B4 [(eC (.int 1)),(eC (.int 1))]),(eV 1)])]),(AM Ax [(eV 5),(eV 1)])])])))
  (BQ (eOp (o1 BK) [(eV 3)]))))
def C9:Fn:=BM (BR 6 JB)
def KC:Ex:=(AY (Bc 2 (PN (o1 E7) [(eV 0)]))
  (AY (Bc 3 (AM Ax [(eOp (o2 wIx) [(eV 2),(eOp (o2 wIx) [(eV 1),(eC (.int 1))])]),(eOp (o2 wIx) [(eV 1),(eC (.int 3))])]))
  (AY (FD (AM Cv [(eOp (o2 wIx) [(eV 2),(eOp (o2 wIx) [(eV 1),(eC (.int 1))])]),(eV 3)]) (eV 2) (eOp (o2 wIx) [(eV 1),(eC (.int 1))]))
  (AY (FD (AM Bx [(eOp (o2 wIx) [(eV 2),(eOp (o2 wIx) [(eV 1),(eC (.int 2))])]),(eV 3)]) (eV 2) (eOp (o2 wIx) [(eV 1),(eC (.int 2))]))
  (BQ (eOp (o1 BK) [(eV 2)]))))))
def Dr:Fn:=BM (BR 4 KC)
def HZ:Ex:=(AY (NU (tTp [(tNm 3),(tNm 4),(tNm 5)]) (eV 1))
  (xIf (eOp (o2 wEq) [(eOp (o2 wIx) [(eV 2),(eC (.int 0))]),(eC (.str "throw"))]) (AY (NS 6 7 (AM F2 [(eV 0),(eV 3),(eV 2)]) (eOp (o2 wIx) [(eOp (o2 wIx) [(eV 3),(eOp (o2 wIx) [(eV 2),(eC (.int 1))])]),(eC (.int 2))]))
  (AY (FD (eOp (o2 N5) [(eOp (o2 wIx) [(eOp (o2 wIx) [(eV 3),(eOp (o2 wIx) [(eV 2),(eC (.int 1))])]),(eC (.int 1))]),(eOp (o2 wIx) [(eV 2),(eC (.int 2))])]) (eOp (o2 wIx) [(eV 3),(eOp (o2 wIx) [(eV 2),(eC (.int 1))])]) (eC (.int 1)))
  (AY (Mt (FR (eV 3)) (tNm 8) (FD (AM C9 [(eOp (o2 wIx) [(eV 8),(eC (.int 2))]),(eV 6),(eV 7)]) (eV 8) (eC (.int 2))))
  (FD (AM C9 [(eV 4),(eV 6),(eV 7)]) (eV 1) (eC (.int 1)))))) (AY (Mt (FR (eV 3)) (tNm 8) (FD (AM Dr [(eOp (o2 wIx) [(eV 8),(eC (.int 2))]),(eV 2)]) (eV 8) (eC (.int 2))))
  (FD (AM Dr [(eV 4),(eV 2)]) (eV 1) (eC (.int 1))))))
def Dp:Fn:=BM (BR 9 HZ)
def EB:Ex:=(AY (NU (tTp [(tNm 3),(tNm 4),(tNm 5)]) (eV 1))
  (AY (Bc 6 (eOp (o2 wIx) [(eV 2),(eC (.int 0))]))
  (xIf (eOp (o2 wEq) [(eV 6),(eC (.str "bring"))]) (Dx (Lo MC (eV 3) [(Gw [(eOp (o2 wIx) [(eV 2),(eC (.int 2))]),(eOp (o2 wIx) [(eV 2),(eC (.int 3))]),(eOp (o1 BK) [(Bt [2] 1 (Jg [(eOp (o2 wIx) [(eV 0),(eC (.int 0))])]) (tNm 1) BH (B4 [(eOp (o1 Oo) [(eOp (o2 wEq) [(eV 1),(eOp (o2 wIx) [(eV 0),(eC (.int 1))])])]),(eC (.int 1))]))])])])) (xIf (eOp (o2 wEq) [(eV 6),(eC (.str "pool"))]) (AY (NS 7 8 (eOp (o2 wIx) [(eV 3),(eOp (o2 wIx) [(eV 2),(eC (.int 1))])]) (eOp (o2 wIx) [(eV 3),(eOp (o2 wIx) [(eV 2),(eC (.int 2))])]))
  (AY (Dx (Lo MC (eV 3) [(Gw [(eOp (o2 wIx) [(eV 7),(eC (.int 0))]),(eOp (o2 A4) [(eOp (o2 wIx) [(eV 7),(eC (.int 1))]),(eOp (o2 wIx) [(eV 8),(eC (.int 1))])]),(AM EH [(eV 7),(eV 8)])])]))
  (AY (FD (eC (.int 0)) (eV 7) (eC (.int 1)))
  (FD (eC (.int 0)) (eV 8) (eC (.int 1)))))) (xIf (eOp (o2 (wIn false)) [(eV 6),(B4 [(eC (.str "swap")),(eC (.str "trade"))])]) (AY (NU (tTp [(tNm 9),(tNm 10),(tNm 11),(tNm 12)]) (eOp (De true false) [(eV 2),(eOp (o1 M8) [(eC (.int 4))])]))
  (AY (FD (eOp (o2 N5) [(eOp (o2 wIx) [(eOp (o2 wIx) [(eV 3),(eV 9)]),(eC (.int 1))]),(eV 10)]) (eOp (o2 wIx) [(eV 3),(eV 9)]) (eC (.int 1)))
  (AY (Dx (Lo MC (eV 3) [(Gw [(eV 11),(eV 12),(eOp (o2 wIx) [(eOp (o2 wIx) [(eV 3),(eV 9)]),(eC (.int 2))])])]))
  (Dx (Lo Y8 (eV 5) [(eOp (o2 E8) [(eOp (De true true) [(eV 2),(eC (.int 1)),(eC (.int 2))]),(eOp (o1 Oo) [(eOp (o2 wEq) [(eV 6),(eC (.str "trade"))])])])]))))) (xIf (eOp (o2 wEq) [(eV 6),(eC (.str "spoil"))]) (FD (eOp (o2 N5) [(eOp (o2 wIx) [(eOp (o2 wIx) [(eV 3),(eOp (o2 wIx) [(eV 2),(eC (.int 1))])]),(eC (.int 1))]),(eOp (o2 wIx) [(eV 2),(eC (.int 2))])]) (eOp (o2 wIx) [(eV 3),(eOp (o2 wIx) [(eV 2),(eC (.int 1))])]) (eC (.int 1))) (Dx (AM Dp [(eV 0),(eV 1),(eV 2)]))))))))
def BX:Fn:=BM (BR 13 EB)
def KW:Ex:=(AY (NU (tTp [(tNm 3),(tNm 4),(tNm 5)]) (eV 2))
  (AY (Bc 6 (Bt [] 2 (WB (eV 3)) (tTp [(tNm 0),(tNm 1)]) (eOp (o2 wGt) [(eOp (o2 wIx) [(eV 1),(eC (.int 1))]),(eC (.int 0))]) (eV 0)))
  (AY (Bc 7 (AM AG [(eV 0),(eC (.int 12))]))
  (AY (xIf (eOr (eOp (o2 wLt) [(eV 7),(eC (.int 2))]) (eOp (o2 wEq) [(eV 6),(D9 [])])) (BQ (B4 [(eC (.str "bring")),(AM AG [(eV 0),(eOp (o2 wIx) [(eV 1),(eC (.int 0))])]),(AM AG [(eV 0),(eOp (o2 wIx) [(eV 1),(eC (.int 1))])]),(AM BE [(eV 0)])])) CD)
  (AY (Bc 8 (eOp (o2 wIx) [(eV 6),(AM AG [(eV 0),(eOp (o1 F6) [(eV 6)])])]))
  (AY (Bc 9 (eOp (o2 A4) [(eC (.int 1)),(AM AG [(eV 0),(eOp (o2 V9) [(eOp (o2 wIx) [(eOp (o2 wIx) [(eV 3),(eV 8)]),(eC (.int 1))]),(eC (.int 2000))])])]))
  (AY (xIf (eOp (o2 wLt) [(eV 7),(eC (.int 5))]) (AY (Bc 10 (Bt [3,8] 1 (FR (eV 6)) (tNm 2) (Gk (eOp (o2 wNe) [(eV 2),(eV 1)]) (eOp (o2 wEq) [(eOp (o2 wIx) [(eOp (o2 wIx) [(eV 0),(eV 2)]),(eC (.int 0))]),(eOp (o2 wIx) [(eOp (o2 wIx) [(eV 0),(eV 1)]),(eC (.int 0))])])) (eV 2)))
  (xIf (eOp (o2 wNe) [(eV 10),(D9 [])]) (BQ (B4 [(eC (.str "pool")),(eV 8),(eOp (o2 wIx) [(eV 10),(AM AG [(eV 0),(eOp (o1 F6) [(eV 10)])])])])) CD)) CD)
  (AY (xIf (Gk (eOp (o2 wLt) [(eV 7),(eC (.int 8))]) (eOp (o2 wGt) [(eOp (o2 wIx) [(eV 1),(eC (.int 1))]),(eC (.int 1))])) (AY (Bc 11 (eOp (o2 N9) [(eOp (o2 A4) [(eOp (o2 A4) [(eOp (o2 wIx) [(eOp (o2 wIx) [(eV 3),(eV 8)]),(eC (.int 0))]),(eC (.int 1))]),(AM AG [(eV 0),(eOp (o2 N5) [(eOp (o2 wIx) [(eV 1),(eC (.int 1))]),(eC (.int 1))])])]),(eOp (o2 wIx) [(eV 1),(eC (.int 1))])]))
  (AY (Bc 12 (Bt [5] 1 (Jg [(eC (.int 10))]) (tNm 1) (eOp (o2 (wIn true)) [(eV 1),(eV 0)]) (eV 1)))
  (AY (xIf (Gk (eOp (o2 wEq) [(eV 7),(eC (.int 7))]) (eOp (o2 wNe) [(eV 12),(D9 [])])) (BQ (B4 [(eC (.str "trade")),(eOp (o2 wIx) [(eV 12),(AM AG [(eV 0),(eOp (o1 F6) [(eV 12)])])]),(eV 8),(eV 9),(eV 11),(AM BE [(eV 0)])])) CD)
  (BQ (B4 [(eC (.str "swap")),(eV 8),(eV 9),(eV 11),(AM BE [(eV 0)])]))))) CD)
  (AY (xIf (eOp (o2 wEq) [(eV 7),(eC (.int 8))]) (BQ (B4 [(eC (.str "spoil")),(eV 8),(eV 9)])) CD)
  (AY (xIf (Gk (eOp (o2 wEq) [(eV 7),(eC (.int 9))]) (eOp (o2 wGt) [(eOp (o2 wIx) [(eV 1),(eC (.int 0))]),(eC (.int 1))])) (AY (Bc 13 (AM AG [(eV 0),(eOp (o2 wIx) [(eV 1),(eC (.int 0))])]))
  (BQ (B4 [(eC (.str "sell")),(eV 13),(eOp (o2 N9) [(eOp (o2 A4) [(eOp (o2 A4) [(eV 13),(eC (.int 1))]),(AM AG [(eV 0),(eOp (o2 N5) [(eOp (o2 wIx) [(eV 1),(eC (.int 0))]),(eC (.int 1))])])]),(eOp (o2 wIx) [(eV 1),(eC (.int 0))])]),(AM D4 [(eV 0)])]))) CD)
  (BQ (B4 [(eC (.str "throw")),(eV 8),(eV 9),(AM Ct [(eV 0),(eOp (o2 A4) [(eOp (o2 wIx) [(eV 1),(eC (.int 1))]),(eC (.int 1))])])]))))))))))))
def Cu:Fn:=BM (BR 14 KW)
def KN:Ex:=(AY (Bc 2 (AM Er [(eV 0)]))
  (AY (Bc 3 (AM E9 [(eV 0),(eV 2)]))
  (AY (NS 4 5 (AM C6 [(B4 [(eV 2),(eV 3),(B4 [])])]) (Gw []))
  (AY (Mt (Jg [(AM AG [(eV 0),(eOp (o2 A4) [(eV 1),(eC (.int 1))])])]) (tNm 6) (AY (Bc 7 (AM Cu [(eV 0),(eV 2),(eV 4)]))
  (xIf (eOr (eOp (o2 wNe) [(eOp (o2 wIx) [(eV 7),(eC (.int 0))]),(eC (.str "throw"))]) (eOp (o2 wLt) [(eOp (o1 F6) [(Bt [] 1 (FR (eV 5)) (tNm 0) (eOp (o2 wEq) [(eOp (o2 wIx) [(eV 0),(eC (.int 0))]),(eC (.str "throw"))]) (eV 0))]),(eC (.int 3))])) (AY (Dx (AM BX [(eV 2),(eV 4),(eV 7)]))
  (Dx (Lo MC (eV 5) [(eV 7)]))) CD)))
  (BQ (B4 [(eV 2),(eV 3),(eOp (o1 BK) [(eV 5)])]))))))
def Du:Fn:=BM (BR 8 KN)
def Fj:Ex:=(AY (Bc 2 (PN (o1 E7) [(eV 1)]))
  (AY (Bc 3 (AM AG [(eV 0),(eOp (o1 F6) [(eV 2)])]))
  (AY (Bc 4 (AM AG [(eV 0),(eC (.int 8))]))
  (AY (xIf (eOp (o2 wEq) [(eV 4),(eC (.int 0))]) (BQ (eOp (o2 A4) [(eOp (De false true) [(eV 2),(eV 3)]),(eOp (De true false) [(eV 2),(eOp (o2 A4) [(eV 3),(eC (.int 1))])])])) CD)
  (AY (xIf (eOp (o2 wEq) [(eV 4),(eC (.int 1))]) (BQ (eOp (o2 A4) [(eOp (o2 A4) [(eOp (De false true) [(eV 2),(eV 3)]),(D9 [(eOp (o2 wIx) [(eV 2),(eV 3)])])]),(eOp (De true false) [(eV 2),(eV 3)])])) CD)
  (AY (xIf (eOp (o2 wEq) [(eV 4),(eC (.int 2))]) (BQ (eOp (o2 A4) [(eOp (o2 A4) [(eOp (o2 A4) [(eOp (De false true) [(eV 2),(eV 3)]),(eOp (De true true) [(eV 2),(eOp (o2 A4) [(eV 3),(eC (.int 1))]),(eOp (o2 A4) [(eV 3),(eC (.int 2))])])]),(D9 [(eOp (o2 wIx) [(eV 2),(eV 3)])])]),(eOp (De true false) [(eV 2),(eOp (o2 A4) [(eV 3),(eC (.int 2))])])])) CD)
  (AY (xIf (eOp (o2 wEq) [(eV 4),(eC (.int 3))]) (BQ (eOp (o1 BK) [(eV 2)])) CD)
  (AY (Bc 5 (AM AG [(eV 0),(eOp (o1 F6) [(eOp (o2 wIx) [(eV 2),(eV 3)])])]))
  (AY (Bc 6 (PN (o1 E7) [(eOp (o2 wIx) [(eOp (o2 wIx) [(eV 2),(eV 3)]),(eV 5)])]))
  (AY (NS 7 8 (AM AG [(eV 0),(eC (.int 2))]) (eOp (o2 A4) [(eC (.int 2)),(AM AG [(eV 0),(eC (.int 4))])]))
  (AY (FD (eOp (o2 A4) [(eOp (o2 wIx) [(eV 6),(eV 7)]),(eC (.int 1))]) (eV 6) (eV 7))
  (AY (FD (eOp (o2 A4) [(eOp (o2 wIx) [(eV 6),(eV 8)]),(eOp (o2 wIx) [(D9 [(eC (.int 1)),(eC (.int 0)),(eC (.int 1))]),(AM AG [(eV 0),(eC (.int 3))])])]) (eV 6) (eV 8))
  (AY (xIf (eOp (o2 wEq) [(eV 4),(eC (.int 4))]) (Bc 6 (Kg [] 1 (FR (eOp (o2 wIx) [(eOp (o2 wIx) [(eV 2),(eV 3)]),(eV 5)])) (tNm 0) BH (eOp (o2 wIx) [(D9 [(eV 0),(eC (.bl false))]),(eOp (o1 Oo) [(eOp (o2 wEq) [(eV 0),(eC (.int 0))])])]))) CD)
  (AY (FD (eOp (o2 A4) [(eOp (o2 A4) [(eOp (De false true) [(eOp (o2 wIx) [(eV 2),(eV 3)]),(eV 5)]),(B4 [(eOp (o1 BK) [(eV 6)])])]),(eOp (De true false) [(eOp (o2 wIx) [(eV 2),(eV 3)]),(eOp (o2 A4) [(eV 5),(eC (.int 1))])])]) (eV 2) (eV 3))
  (AY (xIf (eOp (o2 wEq) [(eV 4),(eC (.int 5))]) (BQ (Bt [] 1 (FR (eV 2)) (tNm 0) BH (eOp (o1 E7) [(eV 0)]))) CD)
  (BQ (eV 2)))))))))))))))))
def Bi:Fn:=BM (BR 9 Fj)
def Bv(rec:Fn):Ex:=(AY (xIf (Gk (eOp (o2 ME) [(eV 0),(B4 [(eC (.ty "list")),(eC (.ty "tuple"))])]) (eOp (o2 ME) [(eV 1),(B4 [(eC (.ty "list")),(eC (.ty "tuple"))])])) (AY (xIf (eOr (eOp (o2 wNe) [(eOp (o2 LV) [(eV 0),(eC (.ty "list"))]),(eOp (o2 LV) [(eV 1),(eC (.ty "list"))])]) (eOp (o2 wNe) [(eOp (o1 F6) [(eV 0)]),(eOp (o1 F6) [(eV 1)])])) (BQ (eC (.bl false))) CD)
  (BQ (eOp (o1 Xz) [(Bt [] 2 (T9 (eV 0) (eV 1)) (tTp [(tNm 0),(tNm 1)]) BH (AM rec [(eV 0),(eV 1)]))]))) CD)
  (BQ (Gk (eOp (o2 Pp) [(eOp (o2 LV) [(eV 0),(eC (.ty "bool"))]),(eOp (o2 LV) [(eV 1),(eC (.ty "bool"))])]) (eOp (o2 Pp) [(eV 0),(eV 1)]))))
def Bg:Nat->Fn
 |0=>fun _ _=>none
 |n+1=>BM (BR 2 (Bv (Bg n)))
def JU:Ex:=(AY (NU (tTp [(tNm 1),(tNm 2)]) (B4 [(AM C6 [(eV 0)]),(eOp (o2 wIx) [(eOp (o2 wIx) [(eV 0),(eC (.int 0))]),(eC (.int 1))])]))
  (AY (Bc 3 (Bt [0] 1 (Jg [(eV 2)]) (tNm 1) BH (Gw [(eOp (o1 OO) [(Bt [1] 1 (FR (eOp (o2 wIx) [(eV 0),(eC (.int 1))])) (tNm 1) (eOp (o2 wEq) [(eOp (o2 wIx) [(eV 1),(eC (.int 0))]),(eV 0)]) (eOp (o2 wIx) [(eV 1),(eC (.int 1))]))]),(eC (.int 0)),(eC (.int 0)),(eC (.int 0)),(eC (.int 0))])))
  (AY (Bc 4 (Gw [(eOp (o1 BK) [(Bt [] 1 (FR (eV 3)) (tNm 0) BH (eOp (o2 A4) [(eOp (o1 BK) [(eV 0)]),(B4 [(eOp (o2 wIx) [(eV 0),(eC (.int 0))])])]))])]))
  (AY (Mt (FR (eOp (o2 wIx) [(eV 0),(eC (.int 2))])) (tNm 5) (AY (xIf (eOp (o2 wEq) [(eOp (o2 wIx) [(eV 5),(eC (.int 0))]),(eC (.str "bring"))]) (FD (eOp (o2 A4) [(eOp (o2 wIx) [(eOp (o2 wIx) [(eV 3),(eOp (o2 wIx) [(eV 5),(eC (.int 2))])]),(eC (.int 0))]),(eOp (o2 wIx) [(eV 5),(eC (.int 3))])]) (eOp (o2 wIx) [(eV 3),(eOp (o2 wIx) [(eV 5),(eC (.int 2))])]) (eC (.int 0))) (xIf (eOp (o2 (wIn false)) [(eOp (o2 wIx) [(eV 5),(eC (.int 0))]),(B4 [(eC (.str "swap")),(eC (.str "trade"))])]) (AY (NU (tTp [(tNm 6),(tNm 7),(tNm 8),(tNm 9)]) (eOp (De true false) [(eV 5),(eOp (o1 M8) [(eC (.int 4))])]))
  (AY (FD (eOp (o2 A4) [(eOp (o2 wIx) [(eOp (o2 wIx) [(eV 3),(eV 8)]),(eC (.int 1))]),(eV 9)]) (eOp (o2 wIx) [(eV 3),(eV 8)]) (eC (.int 1)))
  (FD (eOp (o2 A4) [(eOp (o2 wIx) [(eOp (o2 wIx) [(eV 3),(eOp (o2 wIx) [(eOp (o2 wIx) [(eOp (o2 wIx) [(eV 1),(eC (.int 0))]),(eV 6)]),(eC (.int 0))])]),(eC (.int 2))]),(eV 7)]) (eOp (o2 wIx) [(eV 3),(eOp (o2 wIx) [(eOp (o2 wIx) [(eOp (o2 wIx) [(eV 1),(eC (.int 0))]),(eV 6)]),(eC (.int 0))])]) (eC (.int 2))))) (xIf (eOp (o2 (wIn false)) [(eOp (o2 wIx) [(eV 5),(eC (.int 0))]),(B4 [(eC (.str "spoil")),(eC (.str "throw"))])]) (AY (NS 10 8 (eOp (o2 A4) [(eC (.int 3)),(eOp (o1 Oo) [(eOp (o2 wEq) [(eOp (o2 wIx) [(eV 5),(eC (.int 0))]),(eC (.str "throw"))])])]) (eOp (o2 wIx) [(eOp (o2 wIx) [(eOp (o2 wIx) [(eV 1),(eC (.int 0))]),(eOp (o2 wIx) [(eV 5),(eC (.int 1))])]),(eC (.int 0))]))
  (FD (eOp (o2 A4) [(eOp (o2 wIx) [(eOp (o2 wIx) [(eV 3),(eV 8)]),(eV 10)]),(eOp (o2 wIx) [(eV 5),(eC (.int 2))])]) (eOp (o2 wIx) [(eV 3),(eV 8)]) (eV 10))) CD)))
  (AY (Dx (AM BX [(eOp (o2 wIx) [(eV 0),(eC (.int 0))]),(eV 1),(eV 5)]))
  (AY (Bc 11 (Bt [1] 1 (Jg [(eV 2)]) (tNm 1) BH (eOp (o1 OO) [(Bt [1] 1 (FR (eOp (o2 wIx) [(eV 0),(eC (.int 0))])) (tNm 1) (eOp (o2 wEq) [(eOp (o2 wIx) [(eV 1),(eC (.int 0))]),(eV 0)]) (eOp (o2 wIx) [(eV 1),(eC (.int 1))]))])))
  (Dx (Lo MC (eV 4) [(eOp (o1 BK) [(Bt [] 2 (T9 (eV 3) (eV 11)) (tTp [(tNm 0),(tNm 1)]) BH (eOp (o2 A4) [(eOp (o1 BK) [(eV 0)]),(B4 [(eV 1)])]))])]))))))
  (BQ (eV 4))))))
def D2:Fn:=BM (BR 12 JU)
def GW(rec:Fn):Ex:=(AY (Bc 2 (AM AG [(eV 0),(eC (.int 12))]))
  (AY (xIf (eOr (eOp (o2 wLt) [(eV 2),(eC (.int 8))]) (eOp (o2 wEq) [(eV 1),(eC (.int 0))])) (BQ (eOp (o2 wIx) [(D9 [(eC .non),(eC (.bl true)),(eC (.bl false)),(eC (.int 0)),(eC (.int 1)),(eOp (o1 M8) [(eC (.int 1))]),(eC (.int 9)),(eOp (o2 Vf) [(eC (.int 10)),(eC (.int 39))]),(eC (.str "")),(eC (.str "a")),(B4 []),(D9 [])]),(AM AG [(eV 0),(eC (.int 12))])])) CD)
  (AY (Bc 3 (Bt [0,1] 1 (Jg [(AM AG [(eV 0),(eC (.int 4))])]) (tNm 2) BH (AM rec [(eV 0),(eOp (o2 N5) [(eV 1),(eC (.int 1))])])))
  (AY (xIf (eOp (o2 wEq) [(eV 2),(eC (.int 8))]) (BQ (eV 3)) CD)
  (AY (xIf (eOp (o2 wEq) [(eV 2),(eC (.int 9))]) (BQ (XN [((eC (.str "a")),(eV 3))])) CD)
  (BQ (eOp (o1 BK) [(eV 3)])))))))
def BZ:Nat->Fn
 |0=>fun _ _=>none
 |n+1=>BM (BR 4 (GW (BZ n)))
def B5:Ex:=(AY (Bc 2 (eOp (o2 wIx) [(eV 1),(eC (.int 0))]))
  (AY (xIf (eOp (o2 wEq) [(eV 2),(eC (.str "bring"))]) (BQ (D9 [(B4 [(eOp (o2 wIx) [(eV 1),(eC (.int 2))]),(eC (.str "out")),(eOp (o2 wIx) [(eV 1),(eC (.int 3))])])])) CD)
  (AY (xIf (eOp (o2 (wIn false)) [(eV 2),(B4 [(eC (.str "swap")),(eC (.str "trade"))])]) (AY (NU (tTp [(tNm 3),(tNm 4),(tNm 5),(tNm 6)]) (eOp (De true false) [(eV 1),(eOp (o1 M8) [(eC (.int 4))])]))
  (BQ (D9 [(B4 [(eOp (o2 wIx) [(eOp (o2 wIx) [(eV 0),(eV 3)]),(eC (.int 0))]),(eC (.str "given")),(eV 4)]),(B4 [(eV 5),(eC (.str "got")),(eV 6)])]))) CD)
  (AY (xIf (eOp (o2 wEq) [(eV 2),(eC (.str "spoil"))]) (BQ (D9 [(B4 [(eOp (o2 wIx) [(eOp (o2 wIx) [(eV 0),(eOp (o2 wIx) [(eV 1),(eC (.int 1))])]),(eC (.int 0))]),(eC (.str "spoilt")),(eOp (o2 wIx) [(eV 1),(eC (.int 2))])])])) CD)
  (AY (xIf (eOp (o2 wEq) [(eV 2),(eC (.str "throw"))]) (BQ (D9 [(B4 [(eOp (o2 wIx) [(eOp (o2 wIx) [(eV 0),(eOp (o2 wIx) [(eV 1),(eC (.int 1))])]),(eC (.int 0))]),(eC (.str "thrown")),(eOp (o2 wIx) [(eV 1),(eC (.int 2))])])])) CD)
  (BQ (D9 [])))))))
def BN:Fn:=BM (BR 7 B5)
def Hz:Ex:=(AY (Bc 2 (AM Bu [(eV 0)]))
  (AY (Bc 3 (Bt [] 2 (FR (eV 2)) (tTp [(tNm 0),(tNm 1)]) BH (B4 [(eV 0),(eC (.str "out")),(eV 1)])))
  (AY (Mt (FR (eOp (De false true) [(eOp (o2 wIx) [(eV 0),(eC (.int 2))]),(eV 1)])) (tNm 4) (AY (Bc 3 (eOp (o2 A4) [(eV 3),(AM BN [(eV 2),(eV 4)])]))
  (Bc 2 (AM Ak [(eV 2),(eV 4)]))))
  (BQ (eOp (o2 A4) [(eV 3),(Bt [] 2 (FR (eV 2)) (tTp [(tNm 0),(tNm 1)]) BH (B4 [(eV 0),(eC (.str "left")),(eV 1)]))])))))
def EL:Fn:=BM (BR 5 Hz)
def FI:Ex:=(BQ (eOp (o1 OO) [(Bt [1,2] 3 (FR (eV 0)) (tTp [(tNm 2),(tNm 3),(tNm 4)]) (Gk (eOp (o2 wEq) [(eV 2),(eV 0)]) (eOp (o2 wEq) [(eV 3),(eV 1)])) (eV 4))]))
def Ba:Fn:=BM (BR 3 FI)
noncomputable def HL:D:=.tup [.str "out",.str "got",.str "given",.str "spoilt",.str "thrown",.str "left"]
def GG:Ex:=(AY (Bc 2 (AM EL [(eV 0),(eV 1)]))
  (BQ (eOp (o1 BK) [(Bt [2] 1 (Jg [(eOp (o2 wIx) [(eOp (o2 wIx) [(eV 0),(eC (.int 0))]),(eC (.int 1))])]) (tNm 1) BH (eOp (o1 BK) [(Bt [0,1] 1 (FR (eC HL)) (tNm 2) BH (AM Ba [(eV 0),(eV 1),(eV 2)]))]))])))
def CY:Fn:=BM (BR 3 GG)
def ED(rec_p_is_same:Fn):Ex:=(BQ (Gk (eOp (o2 wEq) [(eOp (o1 F6) [(eV 0)]),(eOp (o1 F6) [(eV 1)])]) (eOp (o1 Xz) [(Bt [1] 2 (WB (eV 0)) (tTp [(tNm 1),(tNm 2)]) BH (AM rec_p_is_same [(eV 2),(eOp (o2 wIx) [(eV 0),(eV 1)])]))])))
def CK(rec_p_are_same:Fn):Ex:=(AY (xIf (eOp (o2 LV) [(eV 1),(eC (.ty "tuple"))]) (BQ (Gk (eOp (o2 LV) [(eV 0),(eC (.ty "tuple"))]) (AM rec_p_are_same [(eV 0),(eV 1)]))) CD)
  (AY (xIf (eOp (o2 LV) [(eV 1),(eC (.ty "list"))]) (BQ (Gk (eOp (o2 LV) [(eV 0),(eC (.ty "list"))]) (AM rec_p_are_same [(eV 0),(eV 1)]))) CD)
  (AY (xIf (eOp (o2 (So false)) [(eV 1),(eC .non)]) (BQ (eOp (o2 (So false)) [(eV 0),(eC .non)])) CD)
  (BQ (Gk (AM EN [(eV 0)]) (eOp (o2 wEq) [(eV 0),(eV 1)]))))))
def RX:Nat->Fn×Fn
 |0=>(fun _ _=>none,fun _ _=>none)
 |n+1=>(BM (BR 2 (ED (RX n).2)),BM (BR 2 (CK (RX n).1)))
def Ck(n:Nat):Fn:=(RX n).2
def Fg:Ex:=(AY (Dx (AM CV [(eV 0)]))
  (BQ (AM (Ck 8) [(eV 1),(Bt [0] 1 (Jg [(eOp (o2 A4) [(eOp (o1 F6) [(eOp (o2 wIx) [(eV 0),(eC (.int 2))])]),(eC (.int 1))])]) (tNm 1) BH (AM CY [(eV 0),(eV 1)]))])))
def CN:Fn:=BM (BR 2 Fg)
def O9:Ex:=(AY (Mt (Jg [(eOp (o2 Y1) [(eC (.int 1)),(eOp (o2 V9) [(eOp (o1 F6) [(eV 0)]),(eC (.int 2))])])]) (tNm 1) (AY (Bc 2 (AM F1 [(AM CQ [(eV 0),(eV 1)])]))
  (AY (Bc 3 (AM Du [(eV 2),(eC (.int 8))]))
  (AY (Bc 4 (AM D2 [(eV 3)]))
  (AY (Bc 5 (D9 [(eV 4),(eOp (De false true) [(eV 4),(eC (.int 1))]),(D9 []),(B4 []),(eC .non),(eOp (o2 A4) [(eV 4),(eOp (De true false) [(eV 4),(eOp (o1 M8) [(eC (.int 1))])])]),(AM (BZ 8) [(eV 2),(eC (.int 3))])]))
  (Mt (FR (eOp (o2 A4) [(eV 5),(Bt [2,4] 1 (Jg [(eC (.int 14))]) (tNm 2) BH (AM Bi [(eV 0),(eV 1)]))])) (tNm 6) (AY (Bc 7 (AM CN [(eV 3),(eV 6)]))
  (xIf (eOr (Tp (eOp (o2 LV) [(eV 7),(eC (.ty "bool"))])) (eOp (o2 wNe) [(eV 7),(AM (Bg 8) [(eV 6),(eV 4)])])) (BQ (eC (.bl false))) CD))))))))
  (BQ (eC (.bl true))))
def LI:Fn:=BM (BR 8 O9)
def EJ(n:Nat):Fn:=(RX n).1
end
section
open PyProof.Rows (boot_isinstance boot_int boot_bool boot_tuple boot_str boot_list boot_abs boot_all boot_any boot_sum boot_max boot_min boot_range boot_enumerate boot_zip boot_sorted boot_set boot_divmod)
noncomputable def top(i:Nat):Stmt:=PySem.Challenge.pw_sharetrail_k22_sheets_looked_at.main.body.getD i (.Pass ⟨0,0,0,0⟩)
noncomputable def VX(sc osc:Scope):Scope:={sc with names:=sc.names.map fun(n,k)=>if(k== .free && osc.kind== .function && osc.names.lookup n==some .cell)then(n,.cell)else(n,k)}
abbrev s_p_is_whole:Stmt:=top 1
abbrev s_p_are_same:Stmt:=top 2
abbrev s_p_is_same:Stmt:=top 3
abbrev s_p_has_pieces:Stmt:=top 8
abbrev s_p_can_pool:Stmt:=top 9
abbrev s_p_can_swap:Stmt:=top 10
abbrev s_p_can_do:Stmt:=top 11
abbrev s_p_held_without:Stmt:=top 12
abbrev s_p_held_behind:Stmt:=top 13
abbrev s_p_held_at_first:Stmt:=top 14
abbrev s_p_first_wrong:Stmt:=top 15
abbrev s_p_refuse_undone:Stmt:=top 16
abbrev s_p_moves_of:Stmt:=top 19
abbrev s_p_moves_by:Stmt:=top 20
abbrev s_p_pieces_moved:Stmt:=top 21
abbrev s_p_flows_told:Stmt:=top 22
abbrev s_p_sheet_holds:Stmt:=top 23
abbrev s_law_cell_at:Stmt:=top 25
abbrev s_law_pen:Stmt:=top 26
abbrev s_law_draw:Stmt:=top 27
abbrev s_law_common:Stmt:=top 28
abbrev s_law_made:Stmt:=top 29
abbrev s_law_plus:Stmt:=top 30
abbrev s_law_times:Stmt:=top 31
abbrev s_law_less:Stmt:=top 32
abbrev s_law_whole:Stmt:=top 34
abbrev s_law_pieces:Stmt:=top 35
abbrev s_law_train:Stmt:=top 36
abbrev s_law_first:Stmt:=top 37
abbrev s_law_share:Stmt:=top 38
abbrev s_law_worths:Stmt:=top 39
abbrev s_law_begun:Stmt:=top 40
abbrev s_law_pooled:Stmt:=top 43
abbrev s_law_cost:Stmt:=top 44
abbrev s_law_borne:Stmt:=top 45
abbrev s_law_sold:Stmt:=top 46
abbrev s_law_turn:Stmt:=top 47
abbrev s_law_do:Stmt:=top 48
abbrev s_law_deed:Stmt:=top 49
abbrev s_law_book:Stmt:=top 50
abbrev s_law_sheet:Stmt:=top 52
abbrev s_law_thing:Stmt:=top 53
abbrev s_law_same:Stmt:=top 55
abbrev s_law_otherwise:Stmt:=top 56
abbrev s_p_law:Stmt:=top 57
section
variable(P:Program)(w:World)(K:PySem.W.Frag)(mg:Str->Option Value)(base:Heap)
abbrev Hs:Prop:=St.Dfn P w K mg base "is_whole" 1 ["thing"] (spD K 1 EN)
abbrev MB(n:Nat):Prop:=St.Dfn P w K mg base "are_same" (1+n) ["things","told"] (spD K 2 (EJ n))
abbrev Io(n:Nat):Prop:=St.Dfn P w K mg base "is_same" (1+n) ["thing","told"] (spD K 2 (Ck n))
abbrev DL:Prop:=St.Dfn P w K mg base "has_pieces" 1 ["held","load","pieces"] (spD K 3 Br)
abbrev IB:Prop:=St.Dfn P w K mg base "can_pool" 2 ["held","load","other"] (spD K 3 EE)
abbrev Hj:Prop:=St.Dfn P w K mg base "can_swap" 2 ["held","load","given","kind"] (spD K 4 DP)
abbrev Kq:Prop:=St.Dfn P w K mg base "can_do" 3 ["held","done","deed"] (spD K 3 B3)
abbrev FG:Prop:=St.Dfn P w K mg base "held_without" 1 ["held","load","pieces"] (spD K 3 Bb)
abbrev D1:Prop:=St.Dfn P w K mg base "held_behind" 2 ["held","deed"] (spD K 2 Ak)
abbrev DB:Prop:=St.Dfn P w K mg base "held_at_first" 1 ["book"] (spD K 1 Bu)
abbrev Fq:Prop:=St.Dfn P w K mg base "first_wrong" 4 ["book"] (spD K 1 C1)
abbrev EW:Prop:=St.Dfn P w K mg base "refuse_undone" 5 ["book"] (spD K 1 CV)
abbrev Hq:Prop:=St.Dfn P w K mg base "moves_of" 1 ["held","deed"] (spD K 2 BN)
abbrev Hu:Prop:=St.Dfn P w K mg base "moves_by" 3 ["book","many"] (spD K 2 EL)
abbrev FJ:Prop:=St.Dfn P w K mg base "pieces_moved" 1 ["moves","kind","flow"] (spD K 3 Ba)
abbrev GK:Prop:=St.Dfn P w K mg base "flows_told" 4 ["book","many"] (spD K 2 CY)
abbrev Ff:Prop:=St.Dfn P w K mg base "sheet_holds" 10 ["book","thing"] (spD K 2 CN)
abbrev HJ:Prop:=St.Dfn P w K mg base "_law_cell_at" 1 ["_law_script","_law_k"] (spD K 2 CQ)
abbrev L0:Prop:=St.Dfn P w K mg base "_law_pen" 1 ["_law_cell"] (spD K 1 F1)
abbrev By:Prop:=St.Dfn P w K mg base "_law_draw" 1 ["_law_pen_here","_law_bound"] (spD K 2 AG)
abbrev Hh:Prop:=St.Dfn P w K mg base "_law_common" 1 ["_law_one","_law_other"] (spD K 2 EC)
abbrev DA:Prop:=St.Dfn P w K mg base "_law_made" 2 ["_law_top","_law_bottom"] (spD K 2 Bh)
abbrev Ec:Prop:=St.Dfn P w K mg base "_law_plus" 3 ["_law_one","_law_other"] (spD K 2 Bx)
abbrev Ep:Prop:=St.Dfn P w K mg base "_law_times" 3 ["_law_one","_law_other"] (spD K 2 Ax)
abbrev HU:Prop:=St.Dfn P w K mg base "_law_less" 4 ["_law_one","_law_other"] (spD K 2 Cv)
abbrev Gj:Prop:=St.Dfn P w K mg base "_law_whole" 3 ["_law_pen_here","_law_many"] (spD K 2 Cj)
abbrev FW:Prop:=St.Dfn P w K mg base "_law_pieces" 2 ["_law_pen_here"] (spD K 1 BE)
abbrev Il:Prop:=St.Dfn P w K mg base "_law_train" 4 ["_law_pen_here"] (spD K 1 Er)
abbrev Ig:Prop:=St.Dfn P w K mg base "_law_first" 4 ["_law_pen_here","_law_train_here"] (spD K 2 E9)
abbrev IZ:Prop:=St.Dfn P w K mg base "_law_share" 3 ["_law_pen_here"] (spD K 1 D4)
abbrev He:Prop:=St.Dfn P w K mg base "_law_worths" 2 ["_law_pen_here","_law_many"] (spD K 2 Ct)
abbrev GS:Prop:=St.Dfn P w K mg base "_law_begun" 1 ["_law_book_here"] (spD K 1 C6)
abbrev Hl:Prop:=St.Dfn P w K mg base "_law_pooled" 4 ["_law_one","_law_other"] (spD K 2 EH)
abbrev Ks:Prop:=St.Dfn P w K mg base "_law_cost" 3 ["_law_train_here","_law_loads","_law_deed_here"] (spD K 3 F2)
abbrev Iy:Prop:=St.Dfn P w K mg base "_law_borne" 5 ["_law_shares","_law_part","_law_owners"] (spD K 3 C9)
abbrev Ki:Prop:=St.Dfn P w K mg base "_law_sold" 5 ["_law_shares","_law_deed_here"] (spD K 2 Dr)
abbrev KI:Prop:=St.Dfn P w K mg base "_law_turn" 6 ["_law_train_here","_law_state","_law_deed_here"] (spD K 3 Dp)
abbrev Lb:Prop:=St.Dfn P w K mg base "_law_do" 7 ["_law_train_here","_law_state","_law_deed_here"] (spD K 3 BX)
abbrev Kf:Prop:=St.Dfn P w K mg base "_law_deed" 4 ["_law_pen_here","_law_train_here","_law_state"] (spD K 3 Cu)
abbrev KU:Prop:=St.Dfn P w K mg base "_law_book" 8 ["_law_pen_here","_law_most"] (spD K 2 Du)
abbrev Ie:Prop:=St.Dfn P w K mg base "_law_sheet" 8 ["_law_book_here"] (spD K 1 D2)
abbrev M9(n:Nat):Prop:=St.Dfn P w K mg base "_law_thing" (2+n) ["_law_pen_here","_law_deep"] (spD K 2 (BZ n))
abbrev OZ(n:Nat):Prop:=St.Dfn P w K mg base "_law_same" (1+n) ["_law_one","_law_other"] (spD K 2 (Bg n))
abbrev Fv:Prop:=St.Dfn P w K mg base "_law_otherwise" 2 ["_law_pen_here","_law_right"] (spD K 2 Bi)
end
structure Bts(mg:Str->Option Value):Prop where
 abs:mg "abs"=none
 all:mg "all"=none
 bool:mg "bool"=none
 enumerate:mg "enumerate"=none
 int:mg "int"=none
 isi:mg "isinstance"=none
 len:mg "len"=none
 list:mg "list"=none
 max:mg "max"=none
 min:mg "min"=none
 range:mg "range"=none
 sum:mg "sum"=none
 tuple:mg "tuple"=none
 zip:mg "zip"=none
end
section
open PyProof.Rows (boot_isinstance boot_int boot_bool boot_tuple boot_str boot_list boot_abs boot_all boot_any boot_sum boot_max boot_min boot_range boot_enumerate boot_zip boot_sorted boot_set boot_divmod)
variable{P:Program}{w:World}{K:PySem.W.Frag}{mg:Str->Option Value}{base:Heap}
theorem Ky:Aa ["thing"] ["thing"] (AJ s_p_is_whole):=⟨rfl,rfl,rfl,by decide+kernel,rfl,by decide+kernel,by decide+kernel⟩
theorem Cp  (S:St.Src K mg "is_whole" s_p_is_whole)(B:Bts mg):Hs P w K mg base:=by
 refine A1 (k:=0) S Ky rfl (fun f fd F=>F.binds fun _ _ _ _ _ _ us hl=>match us,hl with| [_],_=>rfl) fun f cdv A outer s H E hr=>?_
 have hu:=Ae hr
 exact(AL (AU (Fi (Ab CI rfl B.isi boot_isinstance (AA (AB 0) (AA (Ge rfl B.int boot_int) AD))) (GJ (X6 (Ab CI rfl B.isi boot_isinstance (AA (AB 0) (AA (Ge rfl B.bool boot_bool) AD))))))))
theorem Ln:Aa ["things","told"] ["things","told"] (AJ s_p_are_same):=⟨rfl,rfl,rfl,by decide+kernel,rfl,by decide+kernel,by decide+kernel⟩
theorem Ii:AV ["things","told"] (AJ s_p_are_same) ["told","at","thing"] (ixC [1] 2) (GA s_p_are_same 0):=⟨rfl,by decide+kernel,by decide+kernel,by decide+kernel,by decide+kernel⟩
theorem Ft:(["told","at","thing"]:List Str).Nodup:=by decide+kernel
theorem Ma:Aa ["thing","told"] ["thing","told"] (AJ s_p_is_same):=⟨rfl,rfl,rfl,by decide+kernel,rfl,by decide+kernel,by decide+kernel⟩
theorem WL(S_p_are_same:St.Src K mg "are_same" s_p_are_same)(S_p_is_same:St.Src K mg "is_same" s_p_is_same)(B:Bts mg)(Cp:Hs P w K mg base):∀n:Nat,n≤8->MB P w K mg base n/\Io P w K mg base n
  |0,_=>⟨IS S_p_are_same (fun f fd F=>F.binds fun _ _ _ _ _ _ us hl=>match us,hl with| [_,_],_=>rfl),IS S_p_is_same (fun f fd F=>F.binds fun _ _ _ _ _ _ us hl=>match us,hl with| [_,_],_=>rfl)⟩
  | n + 1, hn => by
    obtain⟨d_p_are_same,d_p_is_same⟩:=WL S_p_are_same S_p_is_same B Cp n (by omega)
    refine⟨?_,?_⟩
    · refine A1 (k := 1 + n) S_p_are_same Ln rfl (fun f fd F => F.binds fun _ _ _ _ _ _ us hl => match us, hl with | [_, _], _ => rfl) fun f cdv A outer s H E hr => ?_
      have hu:=Ae hr
      exact(AL (AU (Fi (D3 (A3 hu) (Ab Bn rfl B.len boot_len (AA (AB 0) AD)) (Ab Bn rfl B.len boot_len (AA (AB 1) AD))) (GJ (Ab (MM rfl) rfl B.all boot_all (AA (Bq [1] 2 ["told","at","thing"] rfl Ii (QN rfl B.enumerate (AB 0)) (fun s H fp=>⟨(EU rfl (AQ (Aj 1 Ft) (AQ (Aj 2 Ft) Bp))),Bk,(AH d_p_is_same (hr.mono (by omega)) rfl (AA (AB 2) (AA (AK AW (AB 0) (AB 1)) AD)))⟩)) AD))))))
    · refine A1 (k := 1 + n) S_p_is_same Ma rfl (fun f fd F => F.binds fun _ _ _ _ _ _ us hl => match us, hl with | [_, _], _ => rfl) fun f cdv A outer s H E hr => ?_
      have hu:=Ae hr
      exact(AF (Bf (KA (Ab CI rfl B.isi boot_isinstance (AA (AB 1) (AA (Ge rfl B.tuple boot_tuple) AD)))) (AL (AU (Fi (Ab CI rfl B.isi boot_isinstance (AA (AB 0) (AA (Ge rfl B.tuple boot_tuple) AD))) (GJ (AH d_p_are_same (hr.mono (by omega)) rfl (AA (AB 0) (AA (AB 1) AD))))))) Am)
        (AF (Bf (KA (Ab CI rfl B.isi boot_isinstance (AA (AB 1) (AA (Ge rfl B.list boot_list) AD)))) (AL (AU (Fi (Ab CI rfl B.isi boot_isinstance (AA (AB 0) (AA (Ge rfl B.list boot_list) AD))) (GJ (AH d_p_are_same (hr.mono (by omega)) rfl (AA (AB 0) (AA (AB 1) AD))))))) Am)
        (AF (Bf (Ad PJ (AB 1) KJ) (AL (AU (D3 PJ (AB 0) KJ))) Am)
        (AL (AU (Fi (AH Cp (hr.mono (by omega)) rfl (AA (AB 0) AD)) (GJ (D3 (A3 hu) (AB 0) (AB 1)))))))))
theorem JT:Aa ["held","load","pieces"] ["held","load","pieces"] (AJ s_p_has_pieces):=⟨rfl,rfl,rfl,by decide+kernel,rfl,by decide+kernel,by decide+kernel⟩
theorem Ay  (S:St.Src K mg "has_pieces" s_p_has_pieces)(B:Bts mg):DL P w K mg base:=by
 refine A1 (k:=0) S JT rfl (fun f fd F=>F.binds fun _ _ _ _ _ _ us hl=>match us,hl with| [_,_,_],_=>rfl) fun f cdv A outer s H E hr=>?_
 have hu:=Ae hr
 exact(AL (AU (Fi (D3 Ia (AB 1) (Ab Bn rfl B.len boot_len (AA (AB 0) AD))) (GJ (D3 Tx (AK AW (AK AW (AB 0) (AB 1)) AE) (AB 2))))))
theorem La:Aa ["held","load","other"] ["held","load","other"] (AJ s_p_can_pool):=⟨rfl,rfl,rfl,by decide+kernel,rfl,by decide+kernel,by decide+kernel⟩
theorem DU  (S:St.Src K mg "can_pool" s_p_can_pool)(Ay:DL P w K mg base):IB P w K mg base:=by
 refine A1 (k:=1) S La rfl (fun f fd F=>F.binds fun _ _ _ _ _ _ us hl=>match us,hl with| [_,_,_],_=>rfl) fun f cdv A outer s H E hr=>?_
 have hu:=Ae hr
 exact(AL (AU (Fi (AH Ay (hr.mono (by decide)) rfl (AA (AB 0) (AA (AB 1) (AA AE AD)))) (Fi (AH Ay (hr.mono (by decide)) rfl (AA (AB 0) (AA (AB 2) (AA AE AD)))) (GJ (D3 (A3 hu) (AK AW (AK AW (AB 0) (AB 1)) AE) (AK AW (AK AW (AB 0) (AB 2)) AE)))))))
theorem Lf:Aa ["held","load","given","kind"] ["held","load","given","kind"] (AJ s_p_can_swap):=⟨rfl,rfl,rfl,by decide+kernel,rfl,by decide+kernel,by decide+kernel⟩
theorem Cs  (S:St.Src K mg "can_swap" s_p_can_swap)(Ay:DL P w K mg base):Hj P w K mg base:=by
 refine A1 (k:=1) S Lf rfl (fun f fd F=>F.binds fun _ _ _ _ _ _ us hl=>match us,hl with| [_,_,_,_],_=>rfl) fun f cdv A outer s H E hr=>?_
 have hu:=Ae hr
 exact(AL (AU (Fi (AH Ay (hr.mono (by decide)) rfl (AA (AB 0) (AA (AB 1) (AA (AB 2) AD)))) (GJ (D3 (Hr hu) (AK AW (AK AW (AB 0) (AB 1)) AE) (AB 3))))))
end
section
open PyProof.Rows (boot_isinstance boot_int boot_bool boot_tuple boot_str boot_list boot_abs boot_all boot_any boot_sum boot_max boot_min boot_range boot_enumerate boot_zip boot_sorted boot_set boot_divmod)
variable{P:Program}{w:World}{K:PySem.W.Frag}{mg:Str->Option Value}{base:Heap}
theorem Gh:Aa ["held","done","deed","word","numbers"] ["held","done","deed"] (AJ s_p_can_do):=⟨rfl,rfl,rfl,by decide+kernel,rfl,by decide+kernel,by decide+kernel⟩
theorem Kw:AV ["held","done","deed","word","numbers"] (AJ s_p_can_do) ["other"] (ixC [] 1) (GA s_p_can_do 0):=⟨rfl,by decide+kernel,by decide+kernel,by decide+kernel,by decide+kernel⟩
theorem LS:(["other"]:List Str).Nodup:=by decide+kernel
theorem EY  (S:St.Src K mg "can_do" s_p_can_do)(Ay:DL P w K mg base)(DU:IB P w K mg base)(Cs:Hj P w K mg base):Kq P w K mg base:=by
 refine A1 (k:=2) S Gh rfl (fun f fd F=>F.binds fun _ _ _ _ _ _ us hl=>match us,hl with| [_,_,_],_=>rfl) fun f cdv A outer s H E hr=>?_
 have hu:=Ae hr
 exact(AF (Av 3 (AK AW (AB 2) AE) Gh.nd)
    (AF (Bf (Ad (A3 hu) (AB 3) Au) (AL (AU (AH DU (hr.mono (by decide)) rfl (AA (AB 0) (AA (AK AW (AB 2) AE) (AA (AK AW (AB 2) AE) AD)))))) Am)
    (AF (Bf (Ad (A3 hu) (AB 3) Au) (AL (AU (AH Cs (hr.mono (by decide)) rfl (AA (AB 0) (AA (AK AW (AB 2) AE) (AA (AK AW (AB 2) AE) (AA (AK AW (AB 2) AE) AD))))))) Am)
    (AF (Bf (Ad (A3 hu) (AB 3) Au) (AF (CU [] 1 ["other"] rfl Gh.nd rfl rfl Kw (Cb (AB 1)) (fun s H fp=>⟨(Aj 0 LS),(Fd (Ad (A3 hu) (AK AW (AB 0) AE) Au)),(AK AW (AB 0) AE)⟩))
    (AL (AU (Fi (D3 MO (AK AW (AB 2) AE) (AB 4)) (GJ (AH Cs (hr.mono (by decide)) rfl (AA (AB 0) (AA (AK AW (AB 2) AE) (AA (AK AW (AB 2) AE) (AA (AK AW (AB 2) AE) AD)))))))))) Am)
    (AF (Bf (Ad Jc (AB 3) (Az (AA Au (AA Au AD)))) (AL (AU (AH Ay (hr.mono (by decide)) rfl (AA (AB 0) (AA (AK AW (AB 2) AE) (AA (AK AW (AB 2) AE) AD)))))) Am)
    (AL (AU My)))))))
theorem DC:Aa ["held","load","pieces","kind","there"] ["held","load","pieces"] (AJ s_p_held_without):=⟨rfl,rfl,rfl,by decide+kernel,rfl,by decide+kernel,by decide+kernel⟩
theorem BC  (S:St.Src K mg "held_without" s_p_held_without):FG P w K mg base:=by
 refine A1 (k:=0) S DC rfl (fun f fd F=>F.binds fun _ _ _ _ _ _ us hl=>match us,hl with| [_,_,_],_=>rfl) fun f cdv A outer s H E hr=>?_
 have hu:=Ae hr
 exact(AF (GH (AK AW (AB 0) (AB 1)) (EU rfl (AQ (Aj 3 DC.nd) (AQ (Aj 4 DC.nd) Bp))))
    (AL (AU (AZ AS (AZ AS (Fh (AB 0) (AB 1)) (BI (AA (Az (AA (AB 3) (AA (AZ Fm (AB 4) (AB 2)) AD))) AD))) (ET (AB 0) (AZ AS (AB 1) AE))))))
theorem A5:Aa ["held","deed","word","kind","pieces","more","load","given","got"] ["held","deed"] (AJ s_p_held_behind):=⟨rfl,rfl,rfl,by decide+kernel,rfl,by decide+kernel,by decide+kernel⟩
theorem BO  (S:St.Src K mg "held_behind" s_p_held_behind)(BC:FG P w K mg base):D1 P w K mg base:=by
 refine A1 (k:=1) S A5 rfl (fun f fd F=>F.binds fun _ _ _ _ _ _ us hl=>match us,hl with| [_,_],_=>rfl) fun f cdv A outer s H E hr=>?_
 have hu:=Ae hr
 exact(AF (Av 2 (AK AW (AB 1) AE) A5.nd)
    (AF (Bf (Ad (A3 hu) (AB 2) Au) (AL (AU (AZ AS (AB 0) (BI (AA (Az (AA (AK AW (AB 1) AE) (AA (AK AW (AB 1) AE) AD))) AD))))) Am)
    (AF (Bf (Ad (A3 hu) (AB 2) Au) (AF (GH (AK AW (AB 0) (AK AW (AB 1) AE)) (EU rfl (AQ (Aj 3 A5.nd) (AQ (Aj 4 A5.nd) Bp))))
    (AF (Av 5 (AK AW (AK AW (AB 0) (AK AW (AB 1) AE)) AE) A5.nd)
    (AL (AU (AZ AS (AH BC (hr.mono (by decide)) rfl (AA (AH BC (hr.mono (by decide)) rfl (AA (AB 0) (AA (AK AW (AB 1) AE) (AA (AB 4) AD)))) (AA (AK AW (AB 1) AE) (AA (AB 5) AD)))) (BI (AA (Az (AA (AB 3) (AA (AZ AS (AB 4) (AB 5)) AD))) AD))))))) Am)
    (AF (Bf (Ad Jc (AB 2) (Az (AA Au (AA Au AD)))) (AF (GH (ET (AB 1) (Na Ga AE)) (EU rfl (AQ (Aj 6 A5.nd) (AQ (Aj 7 A5.nd) (AQ (Aj 3 A5.nd) (AQ (Aj 8 A5.nd) Bp))))))
    (AL (AU (AZ AS (AH BC (hr.mono (by decide)) rfl (AA (AB 0) (AA (AB 6) (AA (AB 7) AD)))) (BI (AA (Az (AA (AB 3) (AA (AB 8) AD))) AD)))))) Am)
    (AF (Bf (Ad Jc (AB 2) (Az (AA Au (AA Au AD)))) (AL (AU (AH BC (hr.mono (by decide)) rfl (AA (AB 0) (AA (AK AW (AB 1) AE) (AA (AK AW (AB 1) AE) AD)))))) Am)
    (AL (AU (AB 0))))))))
theorem HF:Aa ["book"] ["book"] (AJ s_p_held_at_first):=⟨rfl,rfl,rfl,by decide+kernel,rfl,by decide+kernel,by decide+kernel⟩
theorem F9:AV ["book"] (AJ s_p_held_at_first) ["load"] (ixC [] 1) (GA s_p_held_at_first 0):=⟨rfl,by decide+kernel,by decide+kernel,by decide+kernel,by decide+kernel⟩
theorem GB:(["load"]:List Str).Nodup:=by decide+kernel
theorem A7  (S:St.Src K mg "held_at_first" s_p_held_at_first):DB P w K mg base:=by
 refine A1 (k:=0) S HF rfl (fun f fd F=>F.binds fun _ _ _ _ _ _ us hl=>match us,hl with| [_],_=>rfl) fun f cdv A outer s H E hr=>?_
 have hu:=Ae hr
 exact(AL (AU (Bq [] 1 ["load"] rfl F9 (Cb (AK AW (AB 0) AE)) (fun s H fp=>⟨(Aj 0 GB),Bk,(Az (AA (AK AW (AB 0) AE) (AA (AK AW (AB 0) AE) AD)))⟩))))
theorem Bl:Aa ["book","held","deeds","at","deed"] ["book"] (AJ s_p_first_wrong):=⟨rfl,rfl,rfl,by decide+kernel,rfl,by decide+kernel,by decide+kernel⟩
theorem CJ  (S:St.Src K mg "first_wrong" s_p_first_wrong)(B:Bts mg)(EY:Kq P w K mg base)(BO:D1 P w K mg base)(A7:DB P w K mg base):Fq P w K mg base:=by
 refine A1 (k:=3) S Bl rfl (fun f fd F=>F.binds fun _ _ _ _ _ _ us hl=>match us,hl with| [_],_=>rfl) fun f cdv A outer s H E hr=>?_
 have hu:=Ae hr
 exact(AF (Av 1 (AH A7 (hr.mono (by decide)) rfl (AA (AB 0) AD)) Bl.nd)
    (AF (Av 2 (AK AW (AB 0) AE) Bl.nd)
    (AF (Fy PassesOwn.never rfl (QN rfl B.enumerate (AB 2)) (EU rfl (AQ (Aj 3 Bl.nd) (AQ (Aj 4 Bl.nd) Bp))) (AF (Bf (T7 (KA (AH EY (hr.mono (by decide)) rfl (AA (AB 1) (AA (Fh (AB 2) (AB 3)) (AA (AB 4) AD)))))) (AL (AU (AB 3))) Am)
    (AL (Av 1 (AH BO (hr.mono (by decide)) rfl (AA (AB 1) (AA (AB 4) AD))) Bl.nd))))
    (AL (AU KJ)))))
theorem EM:Aa ["book","wrong"] ["book"] (AJ s_p_refuse_undone):=⟨rfl,rfl,rfl,by decide+kernel,rfl,by decide+kernel,by decide+kernel⟩
theorem B2  (S:St.Src K mg "refuse_undone" s_p_refuse_undone)(CJ:Fq P w K mg base):EW P w K mg base:=by
 refine A1 (k:=4) S EM rfl (fun f fd F=>F.binds fun _ _ _ _ _ _ us hl=>match us,hl with| [_],_=>rfl) fun f cdv A outer s H E hr=>?_
 have hu:=Ae hr
 exact(AF (Av 1 (AH CJ (hr.mono (by decide)) rfl (AA (AB 0) AD)) EM.nd)
    (AL (Bf (Ad RP (AB 1) KJ) (AL Ri) Am)))
end
section
open PyProof.Rows (boot_isinstance boot_int boot_bool boot_tuple boot_str boot_list boot_abs boot_all boot_any boot_sum boot_max boot_min boot_range boot_enumerate boot_zip boot_sorted boot_set boot_divmod)
variable{P:Program}{w:World}{K:PySem.W.Frag}{mg:Str->Option Value}{base:Heap}
theorem CP:Aa ["held","deed","word","load","given","kind","got"] ["held","deed"] (AJ s_p_moves_of):=⟨rfl,rfl,rfl,by decide+kernel,rfl,by decide+kernel,by decide+kernel⟩
theorem DX  (S:St.Src K mg "moves_of" s_p_moves_of):Hq P w K mg base:=by
 refine A1 (k:=0) S CP rfl (fun f fd F=>F.binds fun _ _ _ _ _ _ us hl=>match us,hl with| [_,_],_=>rfl) fun f cdv A outer s H E hr=>?_
 have hu:=Ae hr
 exact(AF (Av 2 (AK AW (AB 1) AE) CP.nd)
    (AF (Bf (Ad (A3 hu) (AB 2) Au) (AL (AU (BI (AA (Az (AA (AK AW (AB 1) AE) (AA Au (AA (AK AW (AB 1) AE) AD)))) AD)))) Am)
    (AF (Bf (Ad Jc (AB 2) (Az (AA Au (AA Au AD)))) (AF (GH (ET (AB 1) (Na Ga AE)) (EU rfl (AQ (Aj 3 CP.nd) (AQ (Aj 4 CP.nd) (AQ (Aj 5 CP.nd) (AQ (Aj 6 CP.nd) Bp))))))
    (AL (AU (BI (AA (Az (AA (AK AW (AK AW (AB 0) (AB 3)) AE) (AA Au (AA (AB 4) AD)))) (AA (Az (AA (AB 5) (AA Au (AA (AB 6) AD)))) AD)))))) Am)
    (AF (Bf (Ad (A3 hu) (AB 2) Au) (AL (AU (BI (AA (Az (AA (AK AW (AK AW (AB 0) (AK AW (AB 1) AE)) AE) (AA Au (AA (AK AW (AB 1) AE) AD)))) AD)))) Am)
    (AF (Bf (Ad (A3 hu) (AB 2) Au) (AL (AU (BI (AA (Az (AA (AK AW (AK AW (AB 0) (AK AW (AB 1) AE)) AE) (AA Au (AA (AK AW (AB 1) AE) AD)))) AD)))) Am)
    (AL (AU (BI AD))))))))
theorem CS:Aa ["book","many","held","moves","deed"] ["book","many"] (AJ s_p_moves_by):=⟨rfl,rfl,rfl,by decide+kernel,rfl,by decide+kernel,by decide+kernel⟩
theorem JZ:AV ["book","many","held","moves","deed"] (AJ s_p_moves_by) ["kind","pieces"] (ixC [] 2) (GA s_p_moves_by 0):=⟨rfl,by decide+kernel,by decide+kernel,by decide+kernel,by decide+kernel⟩
theorem Fx:(["kind","pieces"]:List Str).Nodup:=by decide+kernel
theorem JQ:AV ["book","many","held","moves","deed"] (AJ s_p_moves_by) ["kind","pieces"] (ixC [] 2) (GA s_p_moves_by 1):=⟨rfl,by decide+kernel,by decide+kernel,by decide+kernel,by decide+kernel⟩
theorem Fp:(["kind","pieces"]:List Str).Nodup:=by decide+kernel
theorem DM  (S:St.Src K mg "moves_by" s_p_moves_by)(BO:D1 P w K mg base)(A7:DB P w K mg base)(DX:Hq P w K mg base):Hu P w K mg base:=by
 refine A1 (k:=2) S CS rfl (fun f fd F=>F.binds fun _ _ _ _ _ _ us hl=>match us,hl with| [_,_],_=>rfl) fun f cdv A outer s H E hr=>?_
 have hu:=Ae hr
 exact(AF (Av 2 (AH A7 (hr.mono (by decide)) rfl (AA (AB 0) AD)) CS.nd)
    (AF (CU [] 2 ["kind","pieces"] rfl CS.nd rfl rfl JZ (Cb (AB 2)) (fun s H fp=>⟨(EU rfl (AQ (Aj 0 Fx) (AQ (Aj 1 Fx) Bp))),Bk,(Az (AA (AB 0) (AA Au (AA (AB 1) AD))))⟩))
    (AF (Fy PassesOwn.never rfl (Cb (Fh (AK AW (AB 0) AE) (AB 1))) (Aj 4 CS.nd) (AF (Av 3 (AZ AS (AB 3) (AH DX (hr.mono (by decide)) rfl (AA (AB 2) (AA (AB 4) AD)))) CS.nd)
    (AL (Av 2 (AH BO (hr.mono (by decide)) rfl (AA (AB 2) (AA (AB 4) AD))) CS.nd))))
    (AL (AU (AZ AS (AB 3) (Bq [] 2 ["kind","pieces"] rfl JQ (Cb (AB 2)) (fun s H fp=>⟨(EU rfl (AQ (Aj 0 Fp) (AQ (Aj 1 Fp) Bp))),Bk,(Az (AA (AB 0) (AA Au (AA (AB 1) AD))))⟩))))))))
theorem Hd:Aa ["moves","kind","flow"] ["moves","kind","flow"] (AJ s_p_pieces_moved):=⟨rfl,rfl,rfl,by decide+kernel,rfl,by decide+kernel,by decide+kernel⟩
theorem Gi:AV ["moves","kind","flow"] (AJ s_p_pieces_moved) ["kind","flow","other","way","pieces"] (ixC [1,2] 3) (GA s_p_pieces_moved 0):=⟨rfl,by decide+kernel,by decide+kernel,by decide+kernel,by decide+kernel⟩
theorem Ci:(["kind","flow","other","way","pieces"]:List Str).Nodup:=by decide+kernel
theorem B8  (S:St.Src K mg "pieces_moved" s_p_pieces_moved)(B:Bts mg):FJ P w K mg base:=by
 refine A1 (k:=0) S Hd rfl (fun f fd F=>F.binds fun _ _ _ _ _ _ us hl=>match us,hl with| [_,_,_],_=>rfl) fun f cdv A outer s H E hr=>?_
 have hu:=Ae hr
 exact(AL (AU (Ab (Ej rfl) rfl B.sum boot_sum (AA (Bq [1,2] 3 ["kind","flow","other","way","pieces"] rfl Gi (Cb (AB 0)) (fun s H fp=>⟨(EU rfl (AQ (Aj 2 Ci) (AQ (Aj 3 Ci) (AQ (Aj 4 Ci) Bp)))),(Fd (DW.dt (JN (Ad (A3 hu) (AB 2) (AB 0)) (GX (Ad (A3 hu) (AB 3) (AB 1)))))),(AB 4)⟩)) AD))))
theorem Fs:Aa ["book","many","moves"] ["book","many"] (AJ s_p_flows_told):=⟨rfl,rfl,rfl,by decide+kernel,rfl,by decide+kernel,by decide+kernel⟩
theorem HR:AV ["book","many","moves"] (AJ s_p_flows_told) ["moves","kind"] (ixC [2] 1) (GA s_p_flows_told 0):=⟨rfl,by decide+kernel,by decide+kernel,by decide+kernel,by decide+kernel⟩
theorem HX:(["moves","kind"]:List Str).Nodup:=by decide+kernel
theorem HY:AV ["moves","kind"] (VX (GA s_p_flows_told 0) (AJ s_p_flows_told)) ["moves","kind","flow"] (ixC [0,1] 1) (GA s_p_flows_told 1):=⟨rfl,by decide+kernel,by decide+kernel,by decide+kernel,by decide+kernel⟩
theorem HK:(["moves","kind","flow"]:List Str).Nodup:=by decide+kernel
theorem Ca  (S:St.Src K mg "flows_told" s_p_flows_told)(B:Bts mg)(c_FLOWS:WY K mg "FLOWS" HL)(DM:Hu P w K mg base)(B8:FJ P w K mg base):GK P w K mg base:=by
 refine A1 (k:=3) S Fs rfl (fun f fd F=>F.binds fun _ _ _ _ _ _ us hl=>match us,hl with| [_,_],_=>rfl) fun f cdv A outer s H E hr=>?_
 have hu:=Ae hr
 exact(AF (Av 2 (AH DM (hr.mono (by decide)) rfl (AA (AB 0) (AA (AB 1) AD))) Fs.nd)
    (AL (AU (Ai Ar rfl B.tuple boot_tuple (AA (Bq [2] 1 ["moves","kind"] rfl HR (C8 rfl B.range (AA (AK AW (AK AW (AB 0) AE) AE) AD)) (fun s H fp=>⟨(Aj 1 HX),Bk,(Ai Ar rfl B.tuple boot_tuple (AA (Bq [0,1] 1 ["moves","kind","flow"] rfl HY (Cb (U6 c_FLOWS rfl)) (fun s H fp=>⟨(Aj 2 HK),Bk,(AH B8 (hr.mono (by decide)) rfl (AA (AB 0) (AA (AB 1) (AA (AB 2) AD))))⟩)) AD))⟩)) AD)))))
theorem ID:Aa ["book","thing"] ["book","thing"] (AJ s_p_sheet_holds):=⟨rfl,rfl,rfl,by decide+kernel,rfl,by decide+kernel,by decide+kernel⟩
theorem Gv:AV ["book","thing"] (AJ s_p_sheet_holds) ["book","many"] (ixC [0] 1) (GA s_p_sheet_holds 0):=⟨rfl,by decide+kernel,by decide+kernel,by decide+kernel,by decide+kernel⟩
theorem HC:(["book","many"]:List Str).Nodup:=by decide+kernel
theorem CL  (S:St.Src K mg "sheet_holds" s_p_sheet_holds)(B:Bts mg)(d_p_is_same:Io P w K mg base 8)(B2:EW P w K mg base)(Ca:GK P w K mg base):Ff P w K mg base:=by
 refine A1 (k:=9) S ID rfl (fun f fd F=>F.binds fun _ _ _ _ _ _ us hl=>match us,hl with| [_,_],_=>rfl) fun f cdv A outer s H E hr=>?_
 have hu:=Ae hr
 exact(AF (DF (AH B2 (hr.mono (by decide)) rfl (AA (AB 0) AD)))
    (AL (AU (AH d_p_is_same (hr.mono (by decide)) rfl (AA (AB 1) (AA (Bq [0] 1 ["book","many"] rfl Gv (C8 rfl B.range (AA (AZ AS (Ab Bn rfl B.len boot_len (AA (AK AW (AB 0) AE) AD)) AE) AD)) (fun s H fp=>⟨(Aj 1 HC),Bk,(AH Ca (hr.mono (by decide)) rfl (AA (AB 0) (AA (AB 1) AD)))⟩)) AD))))))
theorem Jo:Aa ["_law_script","_law_k"] ["_law_script","_law_k"] (AJ s_law_cell_at):=⟨rfl,rfl,rfl,by decide+kernel,rfl,by decide+kernel,by decide+kernel⟩
theorem C0  (S:St.Src K mg "_law_cell_at" s_law_cell_at)(B:Bts mg):HJ P w K mg base:=by
 refine A1 (k:=0) S Jo rfl (fun f fd F=>F.binds fun _ _ _ _ _ _ us hl=>match us,hl with| [_,_],_=>rfl) fun f cdv A outer s H E hr=>?_
 have hu:=Ae hr
 exact(AF (Bf (Ad Ia (AB 1) (Ab Bn rfl B.len boot_len (AA (AB 0) AD))) (AL (AU (AK AW (AB 0) (AB 1)))) Am)
    (AL (AU AE)))
end
section
open PyProof.Rows (boot_isinstance boot_int boot_bool boot_tuple boot_str boot_list boot_abs boot_all boot_any boot_sum boot_max boot_min boot_range boot_enumerate boot_zip boot_sorted boot_set boot_divmod)
variable{P:Program}{w:World}{K:PySem.W.Frag}{mg:Str->Option Value}{base:Heap}
theorem OU:Aa ["_law_cell"] ["_law_cell"] (AJ s_law_pen):=⟨rfl,rfl,rfl,by decide+kernel,rfl,by decide+kernel,by decide+kernel⟩
theorem F0  (S:St.Src K mg "_law_pen" s_law_pen)(B:Bts mg):L0 P w K mg base:=by
 refine A1 (k:=0) S OU rfl (fun f fd F=>F.binds fun _ _ _ _ _ _ us hl=>match us,hl with| [_],_=>rfl) fun f cdv A outer s H E hr=>?_
 have hu:=Ae hr
 exact(AL (AU (BI (AA (AB 0) (AA (Ai Fo rfl B.int boot_int (AA (D3 Tx (AB 0) (AZ Mz AE AE)) AD)) (AA AE (AA (AZ FE (AB 0) AE) AD)))))))
theorem Ez:Aa ["_law_pen_here","_law_bound","_law_found","_law_stir"] ["_law_pen_here","_law_bound"] (AJ s_law_draw):=⟨rfl,rfl,rfl,by decide+kernel,rfl,by decide+kernel,by decide+kernel⟩
theorem AI  (S:St.Src K mg "_law_draw" s_law_draw):By P w K mg base:=by
 refine A1 (k:=0) S Ez rfl (fun f fd F=>F.binds fun _ _ _ _ _ _ us hl=>match us,hl with| [_,_],_=>rfl) fun f cdv A outer s H E hr=>?_
 have hu:=Ae hr
 exact(AF (Bf (DW.dt (JN (Ad (A3 hu) (AK AW (AB 0) AE) AE) (GX (Ad Lu (AK AW (AB 0) AE) AE)))) (AF (Av 2 (AZ FE (AK AW (AB 0) AE) (AB 1)) Ez.nd)
    (AF (BL (AZ HD (AK AW (AB 0) AE) (AB 1)) (AB 0) AE)
    (AL (AU (AB 2))))) Am)
    (AF (BL (AZ AS (AK AW (AB 0) AE) AE) (AB 0) AE)
    (AF (Av 3 (AZ FE (AZ CC (AZ AS (AK AW (AB 0) AE) AE) (AZ AS AE (AZ CC AE (AK AW (AB 0) AE)))) AE) Ez.nd)
    (AF (Av 3 (AZ FE (AZ AS (AZ AS (AZ CC (AB 3) (AB 3)) (AZ CC AE (AK AW (AB 0) AE))) AE) AE) Ez.nd)
    (AL (AU (AZ FE (AZ HD (AZ FE (AZ CC (AB 3) AE) AE) AE) (AB 1))))))))
theorem G6:Aa ["_law_one","_law_other"] ["_law_one","_law_other"] (AJ s_law_common):=⟨rfl,rfl,rfl,by decide+kernel,rfl,by decide+kernel,by decide+kernel⟩
theorem DO  (S:St.Src K mg "_law_common" s_law_common):Hh P w K mg base:=by
 refine A1 (k:=0) S G6 rfl (fun f fd F=>F.binds fun _ _ _ _ _ _ us hl=>match us,hl with| [_,_],_=>rfl) fun f cdv A outer s H E hr=>?_
 have hu:=Ae hr
 exact(AF (TN (U0 1) PassesOwn.never (Ad Lu (AB 1) AE) (AL (Iw (i:=0) (j:=1) rfl G6.nd rfl rfl (by decide) rfl rfl (AB 1) (AZ FE (AB 0) (AB 1)))))
    (AL (AU (AB 0))))
theorem JO:Aa ["_law_top","_law_bottom","_law_by"] ["_law_top","_law_bottom"] (AJ s_law_made):=⟨rfl,rfl,rfl,by decide+kernel,rfl,by decide+kernel,by decide+kernel⟩
theorem Aw  (S:St.Src K mg "_law_made" s_law_made)(B:Bts mg)(DO:Hh P w K mg base):DA P w K mg base:=by
 refine A1 (k:=1) S JO rfl (fun f fd F=>F.binds fun _ _ _ _ _ _ us hl=>match us,hl with| [_,_],_=>rfl) fun f cdv A outer s H E hr=>?_
 have hu:=Ae hr
 exact(AF (Av 2 (AH DO (hr.mono (by decide)) rfl (AA (Ab QG rfl B.abs boot_abs (AA (AB 0) AD)) (AA (AB 1) AD))) JO.nd)
    (AL (AU (Az (AA (AZ HD (AB 0) (AB 2)) (AA (AZ HD (AB 1) (AB 2)) AD))))))
theorem NQ:Aa ["_law_one","_law_other"] ["_law_one","_law_other"] (AJ s_law_plus):=⟨rfl,rfl,rfl,by decide+kernel,rfl,by decide+kernel,by decide+kernel⟩
theorem BW  (S:St.Src K mg "_law_plus" s_law_plus)(Aw:DA P w K mg base):Ec P w K mg base:=by
 refine A1 (k:=2) S NQ rfl (fun f fd F=>F.binds fun _ _ _ _ _ _ us hl=>match us,hl with| [_,_],_=>rfl) fun f cdv A outer s H E hr=>?_
 have hu:=Ae hr
 exact(AL (AU (AH Aw (hr.mono (by decide)) rfl (AA (AZ AS (AZ CC (AK AW (AB 0) AE) (AK AW (AB 1) AE)) (AZ CC (AK AW (AB 1) AE) (AK AW (AB 0) AE))) (AA (AZ CC (AK AW (AB 0) AE) (AK AW (AB 1) AE)) AD)))))
theorem Mn:Aa ["_law_one","_law_other"] ["_law_one","_law_other"] (AJ s_law_times):=⟨rfl,rfl,rfl,by decide+kernel,rfl,by decide+kernel,by decide+kernel⟩
theorem A8  (S:St.Src K mg "_law_times" s_law_times)(Aw:DA P w K mg base):Ep P w K mg base:=by
 refine A1 (k:=2) S Mn rfl (fun f fd F=>F.binds fun _ _ _ _ _ _ us hl=>match us,hl with| [_,_],_=>rfl) fun f cdv A outer s H E hr=>?_
 have hu:=Ae hr
 exact(AL (AU (AH Aw (hr.mono (by decide)) rfl (AA (AZ CC (AK AW (AB 0) AE) (AK AW (AB 1) AE)) (AA (AZ CC (AK AW (AB 0) AE) (AK AW (AB 1) AE)) AD)))))
end
section
open PyProof.Rows (boot_isinstance boot_int boot_bool boot_tuple boot_str boot_list boot_abs boot_all boot_any boot_sum boot_max boot_min boot_range boot_enumerate boot_zip boot_sorted boot_set boot_divmod)
variable{P:Program}{w:World}{K:PySem.W.Frag}{mg:Str->Option Value}{base:Heap}
theorem NI:Aa ["_law_one","_law_other"] ["_law_one","_law_other"] (AJ s_law_less):=⟨rfl,rfl,rfl,by decide+kernel,rfl,by decide+kernel,by decide+kernel⟩
theorem Co  (S:St.Src K mg "_law_less" s_law_less)(BW:Ec P w K mg base):HU P w K mg base:=by
 refine A1 (k:=3) S NI rfl (fun f fd F=>F.binds fun _ _ _ _ _ _ us hl=>match us,hl with| [_,_],_=>rfl) fun f cdv A outer s H E hr=>?_
 have hu:=Ae hr
 exact(AL (AU (AH BW (hr.mono (by decide)) rfl (AA (AB 0) (AA (Az (AA (AZ Fm AE (AK AW (AB 1) AE)) (AA (AK AW (AB 1) AE) AD))) AD)))))
theorem Hk:Aa ["_law_pen_here","_law_many","_law_weights"] ["_law_pen_here","_law_many"] (AJ s_law_whole):=⟨rfl,rfl,rfl,by decide+kernel,rfl,by decide+kernel,by decide+kernel⟩
theorem Jz:AV ["_law_pen_here","_law_many","_law_weights"] (AJ s_law_whole) ["_law_pen_here","_law_one"] (ixC [0] 1) (GA s_law_whole 0):=⟨rfl,by decide+kernel,by decide+kernel,by decide+kernel,by decide+kernel⟩
theorem Jn:(["_law_pen_here","_law_one"]:List Str).Nodup:=by decide+kernel
theorem Jx:AV ["_law_pen_here","_law_many","_law_weights"] (AJ s_law_whole) ["_law_weights","_law_weight"] (ixC [2] 1) (GA s_law_whole 1):=⟨rfl,by decide+kernel,by decide+kernel,by decide+kernel,by decide+kernel⟩
theorem Jl:(["_law_weights","_law_weight"]:List Str).Nodup:=by decide+kernel
theorem CG  (S:St.Src K mg "_law_whole" s_law_whole)(B:Bts mg)(AI:By P w K mg base)(Aw:DA P w K mg base):Gj P w K mg base:=by
 refine A1 (k:=2) S Hk rfl (fun f fd F=>F.binds fun _ _ _ _ _ _ us hl=>match us,hl with| [_,_],_=>rfl) fun f cdv A outer s H E hr=>?_
 have hu:=Ae hr
 exact(AF (Av 2 (Bq [0] 1 ["_law_pen_here","_law_one"] rfl Jz (C8 rfl B.range (AA (AB 1) AD)) (fun s H fp=>⟨(Aj 1 Jn),Bk,(AK AW (BI (AA AE (AA AE (AA (AH AI (hr.mono (by decide)) rfl (AA (AB 0) (AA AE AD))) (AA (AH AI (hr.mono (by decide)) rfl (AA (AB 0) (AA AE AD))) AD))))) (AH AI (hr.mono (by decide)) rfl (AA (AB 0) (AA AE AD))))⟩)) Hk.nd)
    (AF (Bf (Ad (A3 hu) (Ab (Ej rfl) rfl B.sum boot_sum (AA (AB 2) AD)) AE) (AL (BL AE (AB 2) (AH AI (hr.mono (by decide)) rfl (AA (AB 0) (AA (AB 1) AD))))) Am)
    (AL (AU (Ai Ar rfl B.tuple boot_tuple (AA (Bq [2] 1 ["_law_weights","_law_weight"] rfl Jx (Cb (AB 2)) (fun s H fp=>⟨(Aj 1 Jl),Bk,(AH Aw (hr.mono (by decide)) rfl (AA (AB 1) (AA (Ab (Ej rfl) rfl B.sum boot_sum (AA (AB 0) AD)) AD)))⟩)) AD))))))
theorem G8:Aa ["_law_pen_here","_law_great"] ["_law_pen_here"] (AJ s_law_pieces):=⟨rfl,rfl,rfl,by decide+kernel,rfl,by decide+kernel,by decide+kernel⟩
theorem Be  (S:St.Src K mg "_law_pieces" s_law_pieces)(AI:By P w K mg base):FW P w K mg base:=by
 refine A1 (k:=1) S G8 rfl (fun f fd F=>F.binds fun _ _ _ _ _ _ us hl=>match us,hl with| [_],_=>rfl) fun f cdv A outer s H E hr=>?_
 have hu:=Ae hr
 exact(AF (Av 1 (AZ AS (AZ Mz AE AE) (AH AI (hr.mono (by decide)) rfl (AA (AB 0) (AA AE AD)))) G8.nd)
    (AL (AU (AK AW (BI (AA (AZ AS AE (AH AI (hr.mono (by decide)) rfl (AA (AB 0) (AA AE AD)))) (AA (AZ AS AE (AH AI (hr.mono (by decide)) rfl (AA (AB 0) (AA AE AD)))) (AA (AZ AS AE (AH AI (hr.mono (by decide)) rfl (AA (AB 0) (AA AE AD)))) (AA (AB 1) AD))))) (AZ HD (AH AI (hr.mono (by decide)) rfl (AA (AB 0) (AA AE AD))) AE)))))
theorem FY:Aa ["_law_pen_here","_law_partners","_law_kinds","_law_beasts"] ["_law_pen_here"] (AJ s_law_train):=⟨rfl,rfl,rfl,by decide+kernel,rfl,by decide+kernel,by decide+kernel⟩
theorem D6  (S:St.Src K mg "_law_train" s_law_train)(AI:By P w K mg base)(CG:Gj P w K mg base):Il P w K mg base:=by
 refine A1 (k:=3) S FY rfl (fun f fd F=>F.binds fun _ _ _ _ _ _ us hl=>match us,hl with| [_],_=>rfl) fun f cdv A outer s H E hr=>?_
 have hu:=Ae hr
 exact(AF (Iw (i:=1) (j:=2) rfl FY.nd rfl rfl (by decide) rfl rfl (AZ AS AE (AH AI (hr.mono (by decide)) rfl (AA (AB 0) (AA AE AD)))) (AZ AS AE (AH AI (hr.mono (by decide)) rfl (AA (AB 0) (AA AE AD)))))
    (AF (Av 3 (AK AW (BI (AA (AZ AS AE (AH AI (hr.mono (by decide)) rfl (AA (AB 0) (AA AE AD)))) (AA (AZ AS AE (AH AI (hr.mono (by decide)) rfl (AA (AB 0) (AA AE AD)))) AD))) (AH AI (hr.mono (by decide)) rfl (AA (AB 0) (AA AE AD)))) FY.nd)
    (AL (AU (Az (AA (AB 1) (AA (AB 2) (AA (AB 3) (AA (AH CG (hr.mono (by decide)) rfl (AA (AB 0) (AA (AB 1) AD))) (AA (AH AI (hr.mono (by decide)) rfl (AA (AB 0) (AA AE AD))) (AA (AH AI (hr.mono (by decide)) rfl (AA (AB 0) (AA AE AD))) AD)))))))))))
theorem FV:Aa ["_law_pen_here","_law_train_here","_law_found","_law_k"] ["_law_pen_here","_law_train_here"] (AJ s_law_first):=⟨rfl,rfl,rfl,by decide+kernel,rfl,by decide+kernel,by decide+kernel⟩
theorem Dv  (S:St.Src K mg "_law_first" s_law_first)(B:Bts mg)(AI:By P w K mg base)(CG:Gj P w K mg base)(Be:FW P w K mg base):Ig P w K mg base:=by
 refine A1 (k:=3) S FV rfl (fun f fd F=>F.binds fun _ _ _ _ _ _ us hl=>match us,hl with| [_,_],_=>rfl) fun f cdv A outer s H E hr=>?_
 have hu:=Ae hr
 exact(AF (Av 2 (BI AD) FV.nd)
    (AF (Fy PassesOwn.never rfl (C8 rfl B.range (AA (AK AW (BI (AA AE (AA AE (AA (AH AI (hr.mono (by decide)) rfl (AA (AB 0) (AA AE AD))) AD)))) (AH AI (hr.mono (by decide)) rfl (AA (AB 0) (AA AE AD)))) AD)) (Aj 3 FV.nd) (AL (DF (Gy PySem.F.slot_list_append PySem.F.type_list_append Fb (AB 2) (AA (Az (AA (AH AI (hr.mono (by decide)) rfl (AA (AB 0) (AA (AK AW (AB 1) AE) AD))) (AA (AH Be (hr.mono (by decide)) rfl (AA (AB 0) AD)) (AA (AH CG (hr.mono (by decide)) rfl (AA (AB 0) (AA (AK AW (AB 1) AE) AD))) AD)))) AD)))))
    (AL (AU (Ai Ar rfl B.tuple boot_tuple (AA (AB 2) AD))))))
theorem Hy:Aa ["_law_pen_here","_law_bottom"] ["_law_pen_here"] (AJ s_law_share):=⟨rfl,rfl,rfl,by decide+kernel,rfl,by decide+kernel,by decide+kernel⟩
theorem D5  (S:St.Src K mg "_law_share" s_law_share)(AI:By P w K mg base)(Aw:DA P w K mg base):IZ P w K mg base:=by
 refine A1 (k:=2) S Hy rfl (fun f fd F=>F.binds fun _ _ _ _ _ _ us hl=>match us,hl with| [_],_=>rfl) fun f cdv A outer s H E hr=>?_
 have hu:=Ae hr
 exact(AF (Av 1 (AZ AS AE (AH AI (hr.mono (by decide)) rfl (AA (AB 0) (AA AE AD)))) Hy.nd)
    (AL (AU (AH Aw (hr.mono (by decide)) rfl (AA (AZ AS AE (AH AI (hr.mono (by decide)) rfl (AA (AB 0) (AA (AB 1) AD)))) (AA (AB 1) AD))))))
end
section
open PyProof.Rows (boot_isinstance boot_int boot_bool boot_tuple boot_str boot_list boot_abs boot_all boot_any boot_sum boot_max boot_min boot_range boot_enumerate boot_zip boot_sorted boot_set boot_divmod)
variable{P:Program}{w:World}{K:PySem.W.Frag}{mg:Str->Option Value}{base:Heap}
theorem LB:Aa ["_law_pen_here","_law_many"] ["_law_pen_here","_law_many"] (AJ s_law_worths):=⟨rfl,rfl,rfl,by decide+kernel,rfl,by decide+kernel,by decide+kernel⟩
theorem JJ:AV ["_law_pen_here","_law_many"] (AJ s_law_worths) ["_law_pen_here","_law_one"] (ixC [0] 1) (GA s_law_worths 0):=⟨rfl,by decide+kernel,by decide+kernel,by decide+kernel,by decide+kernel⟩
theorem JR:(["_law_pen_here","_law_one"]:List Str).Nodup:=by decide+kernel
theorem DQ  (S:St.Src K mg "_law_worths" s_law_worths)(B:Bts mg)(AI:By P w K mg base):He P w K mg base:=by
 refine A1 (k:=1) S LB rfl (fun f fd F=>F.binds fun _ _ _ _ _ _ us hl=>match us,hl with| [_,_],_=>rfl) fun f cdv A outer s H E hr=>?_
 have hu:=Ae hr
 exact(AL (AU (Ai Ar rfl B.tuple boot_tuple (AA (Bq [0] 1 ["_law_pen_here","_law_one"] rfl JJ (C8 rfl B.range (AA (AB 1) AD)) (fun s H fp=>⟨(Aj 1 JR),Bk,(AZ AS AE (AK AW (BI (AA (AH AI (hr.mono (by decide)) rfl (AA (AB 0) (AA AE AD))) (AA (AH AI (hr.mono (by decide)) rfl (AA (AB 0) (AA AE AD))) AD))) (AH AI (hr.mono (by decide)) rfl (AA (AB 0) (AA AE AD)))))⟩)) AD))))
theorem L1:Aa ["_law_book_here"] ["_law_book_here"] (AJ s_law_begun):=⟨rfl,rfl,rfl,by decide+kernel,rfl,by decide+kernel,by decide+kernel⟩
theorem J1:AV ["_law_book_here"] (AJ s_law_begun) ["_law_load"] (ixC [] 1) (GA s_law_begun 0):=⟨rfl,by decide+kernel,by decide+kernel,by decide+kernel,by decide+kernel⟩
theorem J5:(["_law_load"]:List Str).Nodup:=by decide+kernel
theorem CO  (S:St.Src K mg "_law_begun" s_law_begun)(B:Bts mg):GS P w K mg base:=by
 refine A1 (k:=0) S L1 rfl (fun f fd F=>F.binds fun _ _ _ _ _ _ us hl=>match us,hl with| [_],_=>rfl) fun f cdv A outer s H E hr=>?_
 have hu:=Ae hr
 exact(AL (AU (BI (AA (Bq [] 1 ["_law_load"] rfl J1 (Cb (AK AW (AB 0) AE)) (fun s H fp=>⟨(Aj 0 J5),Bk,(Ai Ek rfl B.list boot_list (AA (AB 0) AD))⟩)) (AA (Ai Ar rfl B.tuple boot_tuple (AA (AK AW (AK AW (AB 0) AE) AE) AD)) (AA (BI AD) AD))))))
theorem C3:Aa ["_law_one","_law_other","_law_found","_law_mine","_law_its","_law_both"] ["_law_one","_law_other"] (AJ s_law_pooled):=⟨rfl,rfl,rfl,by decide+kernel,rfl,by decide+kernel,by decide+kernel⟩
theorem DN  (S:St.Src K mg "_law_pooled" s_law_pooled)(B:Bts mg)(Aw:DA P w K mg base)(BW:Ec P w K mg base)(A8:Ep P w K mg base):Hl P w K mg base:=by
 refine A1 (k:=3) S C3 rfl (fun f fd F=>F.binds fun _ _ _ _ _ _ us hl=>match us,hl with| [_,_],_=>rfl) fun f cdv A outer s H E hr=>?_
 have hu:=Ae hr
 exact(AF (Av 2 (BI AD) C3.nd)
    (AF (Fy PassesOwn.never rfl (OB rfl B.zip (AK AW (AB 0) AE) (AK AW (AB 1) AE)) (EU rfl (AQ (Aj 3 C3.nd) (AQ (Aj 4 C3.nd) Bp))) (AF (Av 5 (AH BW (hr.mono (by decide)) rfl (AA (AH A8 (hr.mono (by decide)) rfl (AA (Az (AA (AK AW (AB 0) AE) (AA AE AD))) (AA (AB 3) AD))) (AA (AH A8 (hr.mono (by decide)) rfl (AA (Az (AA (AK AW (AB 1) AE) (AA AE AD))) (AA (AB 4) AD))) AD))) C3.nd)
    (AL (DF (Gy PySem.F.slot_list_append PySem.F.type_list_append Fb (AB 2) (AA (AH A8 (hr.mono (by decide)) rfl (AA (AB 5) (AA (AH Aw (hr.mono (by decide)) rfl (AA AE (AA (AZ AS (AK AW (AB 0) AE) (AK AW (AB 1) AE)) AD))) AD))) AD))))))
    (AL (AU (Ai Ar rfl B.tuple boot_tuple (AA (AB 2) AD))))))
theorem GZ:Aa ["_law_train_here","_law_loads","_law_deed_here","_law_worths_here","_law_whole_here"] ["_law_train_here","_law_loads","_law_deed_here"] (AJ s_law_cost):=⟨rfl,rfl,rfl,by decide+kernel,rfl,by decide+kernel,by decide+kernel⟩
theorem Lm:AV ["_law_train_here","_law_loads","_law_deed_here","_law_worths_here","_law_whole_here"] (AJ s_law_cost) ["_law_worths_here","_law_kind","_law_pieces_here","_law_owners"] (ixC [3] 3) (GA s_law_cost 0):=⟨rfl,by decide+kernel,by decide+kernel,by decide+kernel,by decide+kernel⟩
theorem E5:(["_law_worths_here","_law_kind","_law_pieces_here","_law_owners"]:List Str).Nodup:=by decide+kernel
theorem EZ  (S:St.Src K mg "_law_cost" s_law_cost)(B:Bts mg)(Aw:DA P w K mg base):Ks P w K mg base:=by
 refine A1 (k:=2) S GZ rfl (fun f fd F=>F.binds fun _ _ _ _ _ _ us hl=>match us,hl with| [_,_,_],_=>rfl) fun f cdv A outer s H E hr=>?_
 have hu:=Ae hr
 exact(AF (Av 3 (AK AW (AB 2) AE) GZ.nd)
    (AF (Av 4 (AZ AS (Ab (Ej rfl) rfl B.sum boot_sum (AA (Bq [3] 3 ["_law_worths_here","_law_kind","_law_pieces_here","_law_owners"] rfl Lm (Cb (AB 1)) (fun s H fp=>⟨(EU rfl (AQ (Aj 1 E5) (AQ (Aj 2 E5) (AQ (Aj 3 E5) Bp)))),Bk,(AZ CC (AB 2) (AK AW (AB 0) (AB 1)))⟩)) AD)) (AZ CC (AK AW (AB 0) AE) (AK AW (AB 3) (Na Ga AE)))) GZ.nd)
    (AL (AU (AH Aw (hr.mono (by decide)) rfl (AA (AZ CC (AK AW (AB 2) AE) (AK AW (AB 3) (AK AW (AK AW (AB 1) (AK AW (AB 2) AE)) AE))) (AA (AB 4) AD)))))))
theorem EG:Aa ["_law_shares","_law_part","_law_owners","_law_found","_law_mine","_law_its"] ["_law_shares","_law_part","_law_owners"] (AJ s_law_borne):=⟨rfl,rfl,rfl,by decide+kernel,rfl,by decide+kernel,by decide+kernel⟩
theorem C7  (S:St.Src K mg "_law_borne" s_law_borne)(B:Bts mg)(BW:Ec P w K mg base)(A8:Ep P w K mg base)(Co:HU P w K mg base):Iy P w K mg base:=by
 refine A1 (k:=4) S EG rfl (fun f fd F=>F.binds fun _ _ _ _ _ _ us hl=>match us,hl with| [_,_,_],_=>rfl) fun f cdv A outer s H E hr=>?_
 have hu:=Ae hr
 exact(AF (Av 3 (BI AD) EG.nd)
    (AF (Fy PassesOwn.never rfl (OB rfl B.zip (AB 0) (AB 2)) (EU rfl (AQ (Aj 4 EG.nd) (AQ (Aj 5 EG.nd) Bp))) (AL (DF (Gy PySem.F.slot_list_append PySem.F.type_list_append Fb (AB 3) (AA (AH BW (hr.mono (by decide)) rfl (AA (AH A8 (hr.mono (by decide)) rfl (AA (AB 4) (AA (AH Co (hr.mono (by decide)) rfl (AA (Az (AA AE (AA AE AD))) (AA (AB 1) AD))) AD))) (AA (AH A8 (hr.mono (by decide)) rfl (AA (AB 5) (AA (AB 1) AD))) AD))) AD)))))
    (AL (AU (Ai Ar rfl B.tuple boot_tuple (AA (AB 3) AD))))))
theorem Gf:Aa ["_law_shares","_law_deed_here","_law_found","_law_passes"] ["_law_shares","_law_deed_here"] (AJ s_law_sold):=⟨rfl,rfl,rfl,by decide+kernel,rfl,by decide+kernel,by decide+kernel⟩
theorem Ds  (S:St.Src K mg "_law_sold" s_law_sold)(B:Bts mg)(BW:Ec P w K mg base)(A8:Ep P w K mg base)(Co:HU P w K mg base):Ki P w K mg base:=by
 refine A1 (k:=4) S Gf rfl (fun f fd F=>F.binds fun _ _ _ _ _ _ us hl=>match us,hl with| [_,_],_=>rfl) fun f cdv A outer s H E hr=>?_
 have hu:=Ae hr
 exact(AF (Av 2 (Ai Ek rfl B.list boot_list (AA (AB 0) AD)) Gf.nd)
    (AF (Av 3 (AH A8 (hr.mono (by decide)) rfl (AA (AK AW (AB 2) (AK AW (AB 1) AE)) (AA (AK AW (AB 1) AE) AD))) Gf.nd)
    (AF (BL (AH Co (hr.mono (by decide)) rfl (AA (AK AW (AB 2) (AK AW (AB 1) AE)) (AA (AB 3) AD))) (AB 2) (AK AW (AB 1) AE))
    (AF (BL (AH BW (hr.mono (by decide)) rfl (AA (AK AW (AB 2) (AK AW (AB 1) AE)) (AA (AB 3) AD))) (AB 2) (AK AW (AB 1) AE))
    (AL (AU (Ai Ar rfl B.tuple boot_tuple (AA (AB 2) AD))))))))
end
section
open PyProof.Rows (boot_isinstance boot_int boot_bool boot_tuple boot_str boot_list boot_abs boot_all boot_any boot_sum boot_max boot_min boot_range boot_enumerate boot_zip boot_sorted boot_set boot_divmod)
variable{P:Program}{w:World}{K:PySem.W.Frag}{mg:Str->Option Value}{base:Heap}
theorem Cm:Aa ["_law_train_here","_law_state","_law_deed_here","_law_loads","_law_holders","_law_numbers","_law_part","_law_owners","_law_load"] ["_law_train_here","_law_state","_law_deed_here"] (AJ s_law_turn):=⟨rfl,rfl,rfl,by decide+kernel,rfl,by decide+kernel,by decide+kernel⟩
theorem EX  (S:St.Src K mg "_law_turn" s_law_turn)(EZ:Ks P w K mg base)(C7:Iy P w K mg base)(Ds:Ki P w K mg base):KI P w K mg base:=by
 refine A1 (k:=5) S Cm rfl (fun f fd F=>F.binds fun _ _ _ _ _ _ us hl=>match us,hl with| [_,_,_],_=>rfl) fun f cdv A outer s H E hr=>?_
 have hu:=Ae hr
 exact(AF (GH (AB 1) (EU rfl (AQ (Aj 3 Cm.nd) (AQ (Aj 4 Cm.nd) (AQ (Aj 5 Cm.nd) Bp)))))
    (AL (Bf (Ad (A3 hu) (AK AW (AB 2) AE) Au) (AF (Iw (i:=6) (j:=7) rfl Cm.nd rfl rfl (by decide) rfl rfl (AH EZ (hr.mono (by decide)) rfl (AA (AB 0) (AA (AB 3) (AA (AB 2) AD)))) (AK AW (AK AW (AB 3) (AK AW (AB 2) AE)) AE))
    (AF (BL (AZ Fm (AK AW (AK AW (AB 3) (AK AW (AB 2) AE)) AE) (AK AW (AB 2) AE)) (AK AW (AB 3) (AK AW (AB 2) AE)) AE)
    (AF (Fy PassesOwn.never rfl (Cb (AB 3)) (Aj 8 Cm.nd) (AL (BL (AH C7 (hr.mono (by decide)) rfl (AA (AK AW (AB 8) AE) (AA (AB 6) (AA (AB 7) AD)))) (AB 8) AE)))
    (AL (BL (AH C7 (hr.mono (by decide)) rfl (AA (AB 4) (AA (AB 6) (AA (AB 7) AD)))) (AB 1) AE))))) (AF (Fy PassesOwn.never rfl (Cb (AB 3)) (Aj 8 Cm.nd) (AL (BL (AH Ds (hr.mono (by decide)) rfl (AA (AK AW (AB 8) AE) (AA (AB 2) AD))) (AB 8) AE)))
    (AL (BL (AH Ds (hr.mono (by decide)) rfl (AA (AB 4) (AA (AB 2) AD))) (AB 1) AE))))))
theorem CZ:Aa ["_law_train_here","_law_state","_law_deed_here","_law_loads","_law_holders","_law_numbers","_law_word","_law_one","_law_other","_law_load","_law_given","_law_kind","_law_got"] ["_law_train_here","_law_state","_law_deed_here"] (AJ s_law_do):=⟨rfl,rfl,rfl,by decide+kernel,rfl,by decide+kernel,by decide+kernel⟩
theorem ND:AV ["_law_train_here","_law_state","_law_deed_here","_law_loads","_law_holders","_law_numbers","_law_word","_law_one","_law_other","_law_load","_law_given","_law_kind","_law_got"] (AJ s_law_do) ["_law_deed_here","_law_one"] (ixC [2] 1) (GA s_law_do 0):=⟨rfl,by decide+kernel,by decide+kernel,by decide+kernel,by decide+kernel⟩
theorem NY:(["_law_deed_here","_law_one"]:List Str).Nodup:=by decide+kernel
theorem ER  (S:St.Src K mg "_law_do" s_law_do)(B:Bts mg)(DN:Hl P w K mg base)(EX:KI P w K mg base):Lb P w K mg base:=by
 refine A1 (k:=6) S CZ rfl (fun f fd F=>F.binds fun _ _ _ _ _ _ us hl=>match us,hl with| [_,_,_],_=>rfl) fun f cdv A outer s H E hr=>?_
 have hu:=Ae hr
 exact(AF (GH (AB 1) (EU rfl (AQ (Aj 3 CZ.nd) (AQ (Aj 4 CZ.nd) (AQ (Aj 5 CZ.nd) Bp)))))
    (AF (Av 6 (AK AW (AB 2) AE) CZ.nd)
    (AL (Bf (Ad (A3 hu) (AB 6) Au) (AL (DF (Gy PySem.F.slot_list_append PySem.F.type_list_append Fb (AB 3) (AA (BI (AA (AK AW (AB 2) AE) (AA (AK AW (AB 2) AE) (AA (Ai Ar rfl B.tuple boot_tuple (AA (Bq [2] 1 ["_law_deed_here","_law_one"] rfl ND (C8 rfl B.range (AA (AK AW (AB 0) AE) AD)) (fun s H fp=>⟨(Aj 1 NY),Bk,(Az (AA (Ai Fo rfl B.int boot_int (AA (D3 (A3 hu) (AB 1) (AK AW (AB 0) AE)) AD)) (AA AE AD)))⟩)) AD)) AD)))) AD)))) (AL (Bf (Ad (A3 hu) (AB 6) Au) (AF (Iw (i:=7) (j:=8) rfl CZ.nd rfl rfl (by decide) rfl rfl (AK AW (AB 3) (AK AW (AB 2) AE)) (AK AW (AB 3) (AK AW (AB 2) AE)))
    (AF (DF (Gy PySem.F.slot_list_append PySem.F.type_list_append Fb (AB 3) (AA (BI (AA (AK AW (AB 7) AE) (AA (AZ AS (AK AW (AB 7) AE) (AK AW (AB 8) AE)) (AA (AH DN (hr.mono (by decide)) rfl (AA (AB 7) (AA (AB 8) AD))) AD)))) AD)))
    (AF (BL AE (AB 7) AE)
    (AL (BL AE (AB 8) AE))))) (AL (Bf (Ad Jc (AB 6) (Az (AA Au (AA Au AD)))) (AF (GH (ET (AB 2) (Na Ga AE)) (EU rfl (AQ (Aj 9 CZ.nd) (AQ (Aj 10 CZ.nd) (AQ (Aj 11 CZ.nd) (AQ (Aj 12 CZ.nd) Bp))))))
    (AF (BL (AZ Fm (AK AW (AK AW (AB 3) (AB 9)) AE) (AB 10)) (AK AW (AB 3) (AB 9)) AE)
    (AF (DF (Gy PySem.F.slot_list_append PySem.F.type_list_append Fb (AB 3) (AA (BI (AA (AB 11) (AA (AB 12) (AA (AK AW (AK AW (AB 3) (AB 9)) AE) AD)))) AD)))
    (AL (DF (Gy PySem.F.slot_list_extend PySem.F.type_list_extend Uz (AB 5) (AA (AZ CC (QS (AB 2) AE AE) (Ai Fo rfl B.int boot_int (AA (D3 (A3 hu) (AB 6) Au) AD))) AD))))))) (AL (Bf (Ad (A3 hu) (AB 6) Au) (AL (BL (AZ Fm (AK AW (AK AW (AB 3) (AK AW (AB 2) AE)) AE) (AK AW (AB 2) AE)) (AK AW (AB 3) (AK AW (AB 2) AE)) AE)) (AL (DF (AH EX (hr.mono (by decide)) rfl (AA (AB 0) (AA (AB 1) (AA (AB 2) AD))))))))))))))))
theorem BY:Aa ["_law_pen_here","_law_train_here","_law_state","_law_loads","_law_holders","_law_numbers","_law_full","_law_way","_law_load","_law_some","_law_same_here","_law_kind","_law_left","_law_partner"] ["_law_pen_here","_law_train_here","_law_state"] (AJ s_law_deed):=⟨rfl,rfl,rfl,by decide+kernel,rfl,by decide+kernel,by decide+kernel⟩
theorem LK:AV ["_law_pen_here","_law_train_here","_law_state","_law_loads","_law_holders","_law_numbers","_law_full","_law_way","_law_load","_law_some","_law_same_here","_law_kind","_law_left","_law_partner"] (AJ s_law_deed) ["_law_at","_law_load"] (ixC [] 2) (GA s_law_deed 0):=⟨rfl,by decide+kernel,by decide+kernel,by decide+kernel,by decide+kernel⟩
theorem Gs:(["_law_at","_law_load"]:List Str).Nodup:=by decide+kernel
theorem K6:AV ["_law_pen_here","_law_train_here","_law_state","_law_loads","_law_holders","_law_numbers","_law_full","_law_way","_law_load","_law_some","_law_same_here","_law_kind","_law_left","_law_partner"] (AJ s_law_deed) ["_law_loads","_law_load","_law_at"] (ixC [3,8] 1) (GA s_law_deed 1):=⟨rfl,by decide+kernel,by decide+kernel,by decide+kernel,by decide+kernel⟩
theorem K0:(["_law_loads","_law_load","_law_at"]:List Str).Nodup:=by decide+kernel
theorem K3:AV ["_law_pen_here","_law_train_here","_law_state","_law_loads","_law_holders","_law_numbers","_law_full","_law_way","_law_load","_law_some","_law_same_here","_law_kind","_law_left","_law_partner"] (AJ s_law_deed) ["_law_numbers","_law_number"] (ixC [5] 1) (GA s_law_deed 2):=⟨rfl,by decide+kernel,by decide+kernel,by decide+kernel,by decide+kernel⟩
theorem LF:(["_law_numbers","_law_number"]:List Str).Nodup:=by decide+kernel
theorem Ef  (S:St.Src K mg "_law_deed" s_law_deed)(B:Bts mg)(AI:By P w K mg base)(Be:FW P w K mg base)(D5:IZ P w K mg base)(DQ:He P w K mg base):Kf P w K mg base:=by
 refine A1 (k:=3) S BY rfl (fun f fd F=>F.binds fun _ _ _ _ _ _ us hl=>match us,hl with| [_,_,_],_=>rfl) fun f cdv A outer s H E hr=>?_
 have hu:=Ae hr
 exact(AF (GH (AB 2) (EU rfl (AQ (Aj 3 BY.nd) (AQ (Aj 4 BY.nd) (AQ (Aj 5 BY.nd) Bp)))))
    (AF (CU [] 2 ["_law_at","_law_load"] rfl BY.nd rfl rfl LK (QN rfl B.enumerate (AB 3)) (fun s H fp=>⟨(EU rfl (AQ (Aj 0 Gs) (AQ (Aj 1 Gs) Bp))),(Fd (Ad Lu (AK AW (AB 1) AE) AE)),(AB 0)⟩))
    (AF (Av 7 (AH AI (hr.mono (by decide)) rfl (AA (AB 0) (AA AE AD))) BY.nd)
    (AF (Bf (DW.dt (PC (Ad Ia (AB 7) AE) (Me (Ad (A3 hu) (AB 6) (BI AD))))) (AL (AU (Az (AA Au (AA (AH AI (hr.mono (by decide)) rfl (AA (AB 0) (AA (AK AW (AB 1) AE) AD))) (AA (AH AI (hr.mono (by decide)) rfl (AA (AB 0) (AA (AK AW (AB 1) AE) AD))) (AA (AH Be (hr.mono (by decide)) rfl (AA (AB 0) AD)) AD))))))) Am)
    (AF (Av 8 (AK AW (AB 6) (AH AI (hr.mono (by decide)) rfl (AA (AB 0) (AA (Ab Bn rfl B.len boot_len (AA (AB 6) AD)) AD)))) BY.nd)
    (AF (Av 9 (AZ AS AE (AH AI (hr.mono (by decide)) rfl (AA (AB 0) (AA (Ab (MR rfl) rfl B.min boot_min (AA (AK AW (AK AW (AB 3) (AB 8)) AE) (AA AE AD))) AD)))) BY.nd)
    (AF (Bf (Ad Ia (AB 7) AE) (AF (CU [3,8] 1 ["_law_loads","_law_load","_law_at"] rfl BY.nd rfl rfl K6 (Cb (AB 6)) (fun s H fp=>⟨(Aj 2 K0),(Fd (DW.dt (JN (Ad (Hr hu) (AB 2) (AB 1)) (GX (Ad (A3 hu) (AK AW (AK AW (AB 0) (AB 2)) AE) (AK AW (AK AW (AB 0) (AB 1)) AE)))))),(AB 2)⟩))
    (AL (Bf (Ad (Hr hu) (AB 10) (BI AD)) (AL (AU (Az (AA Au (AA (AB 8) (AA (AK AW (AB 10) (AH AI (hr.mono (by decide)) rfl (AA (AB 0) (AA (Ab Bn rfl B.len boot_len (AA (AB 10) AD)) AD)))) AD)))))) Am))) Am)
    (AF (Bf (DW.dt (JN (Ad Ia (AB 7) AE) (GX (Ad Lu (AK AW (AB 1) AE) AE)))) (AF (Av 11 (AZ FE (AZ AS (AZ AS (AK AW (AK AW (AB 3) (AB 8)) AE) AE) (AH AI (hr.mono (by decide)) rfl (AA (AB 0) (AA (AZ Fm (AK AW (AB 1) AE) AE) AD)))) (AK AW (AB 1) AE)) BY.nd)
    (AF (CU [5] 1 ["_law_numbers","_law_number"] rfl BY.nd rfl rfl K3 (C8 rfl B.range (AA AE AD)) (fun s H fp=>⟨(Aj 1 LF),(Fd (Ad MO (AB 1) (AB 0))),(AB 1)⟩))
    (AF (Bf (DW.dt (JN (Ad (A3 hu) (AB 7) AE) (GX (Ad (Hr hu) (AB 12) (BI AD))))) (AL (AU (Az (AA Au (AA (AK AW (AB 12) (AH AI (hr.mono (by decide)) rfl (AA (AB 0) (AA (Ab Bn rfl B.len boot_len (AA (AB 12) AD)) AD)))) (AA (AB 8) (AA (AB 9) (AA (AB 11) (AA (AH Be (hr.mono (by decide)) rfl (AA (AB 0) AD)) AD))))))))) Am)
    (AL (AU (Az (AA Au (AA (AB 8) (AA (AB 9) (AA (AB 11) (AA (AH Be (hr.mono (by decide)) rfl (AA (AB 0) AD)) AD))))))))))) Am)
    (AF (Bf (Ad (A3 hu) (AB 7) AE) (AL (AU (Az (AA Au (AA (AB 8) (AA (AB 9) AD)))))) Am)
    (AF (Bf (DW.dt (JN (Ad (A3 hu) (AB 7) AE) (GX (Ad Lu (AK AW (AB 1) AE) AE)))) (AF (Av 13 (AH AI (hr.mono (by decide)) rfl (AA (AB 0) (AA (AK AW (AB 1) AE) AD))) BY.nd)
    (AL (AU (Az (AA Au (AA (AB 13) (AA (AZ FE (AZ AS (AZ AS (AB 13) AE) (AH AI (hr.mono (by decide)) rfl (AA (AB 0) (AA (AZ Fm (AK AW (AB 1) AE) AE) AD)))) (AK AW (AB 1) AE)) (AA (AH D5 (hr.mono (by decide)) rfl (AA (AB 0) AD)) AD)))))))) Am)
    (AL (AU (Az (AA Au (AA (AB 8) (AA (AB 9) (AA (AH DQ (hr.mono (by decide)) rfl (AA (AB 0) (AA (AZ AS (AK AW (AB 1) AE) AE) AD))) AD)))))))))))))))))
theorem DH:Aa ["_law_pen_here","_law_most","_law_train_here","_law_first_here","_law_state","_law_deeds","_law_k","_law_deed_here"] ["_law_pen_here","_law_most"] (AJ s_law_book):=⟨rfl,rfl,rfl,by decide+kernel,rfl,by decide+kernel,by decide+kernel⟩
theorem Lk:AV ["_law_pen_here","_law_most","_law_train_here","_law_first_here","_law_state","_law_deeds","_law_k","_law_deed_here"] (AJ s_law_book) ["_law_one"] (ixC [] 1) (GA s_law_book 0):=⟨rfl,by decide+kernel,by decide+kernel,by decide+kernel,by decide+kernel⟩
theorem LY:(["_law_one"]:List Str).Nodup:=by decide+kernel
theorem Eh  (S:St.Src K mg "_law_book" s_law_book)(B:Bts mg)(AI:By P w K mg base)(D6:Il P w K mg base)(Dv:Ig P w K mg base)(CO:GS P w K mg base)(ER:Lb P w K mg base)(Ef:Kf P w K mg base):KU P w K mg base:=by
 refine A1 (k:=7) S DH rfl (fun f fd F=>F.binds fun _ _ _ _ _ _ us hl=>match us,hl with| [_,_],_=>rfl) fun f cdv A outer s H E hr=>?_
 have hu:=Ae hr
 exact(AF (Av 2 (AH D6 (hr.mono (by decide)) rfl (AA (AB 0) AD)) DH.nd)
    (AF (Av 3 (AH Dv (hr.mono (by decide)) rfl (AA (AB 0) (AA (AB 2) AD))) DH.nd)
    (AF (Iw (i:=4) (j:=5) rfl DH.nd rfl rfl (by decide) rfl rfl (AH CO (hr.mono (by decide)) rfl (AA (Az (AA (AB 2) (AA (AB 3) (AA (Az AD) AD)))) AD)) (BI AD))
    (AF (Fy PassesOwn.never rfl (C8 rfl B.range (AA (AH AI (hr.mono (by decide)) rfl (AA (AB 0) (AA (AZ AS (AB 1) AE) AD))) AD)) (Aj 6 DH.nd) (AF (Av 7 (AH Ef (hr.mono (by decide)) rfl (AA (AB 0) (AA (AB 2) (AA (AB 4) AD)))) DH.nd)
    (AL (Bf (DW.dt (PC (Ad (Hr hu) (AK AW (AB 7) AE) Au) (Me (Ad Ia (Ab Bn rfl B.len boot_len (AA (Bq [] 1 ["_law_one"] rfl Lk (Cb (AB 5)) (fun s H fp=>⟨(Aj 0 LY),(Fd (Ad (A3 hu) (AK AW (AB 0) AE) Au)),(AB 0)⟩)) AD)) AE)))) (AF (DF (AH ER (hr.mono (by decide)) rfl (AA (AB 2) (AA (AB 4) (AA (AB 7) AD)))))
    (AL (DF (Gy PySem.F.slot_list_append PySem.F.type_list_append Fb (AB 5) (AA (AB 7) AD))))) Am))))
    (AL (AU (Az (AA (AB 2) (AA (AB 3) (AA (Ai Ar rfl B.tuple boot_tuple (AA (AB 5) AD)) AD))))))))))
theorem BF:Aa ["_law_book_here","_law_state","_law_kinds","_law_rows","_law_found","_law_deed_here","_law_load","_law_given","_law_kind","_law_got","_law_at","_law_left"] ["_law_book_here"] (AJ s_law_sheet):=⟨rfl,rfl,rfl,by decide+kernel,rfl,by decide+kernel,by decide+kernel⟩
theorem Jt:AV ["_law_book_here","_law_state","_law_kinds","_law_rows","_law_found","_law_deed_here","_law_load","_law_given","_law_kind","_law_got","_law_at","_law_left"] (AJ s_law_sheet) ["_law_book_here","_law_kind"] (ixC [0] 1) (GA s_law_sheet 0):=⟨rfl,by decide+kernel,by decide+kernel,by decide+kernel,by decide+kernel⟩
theorem J4:(["_law_book_here","_law_kind"]:List Str).Nodup:=by decide+kernel
theorem Jh:AV ["_law_book_here","_law_kind"] (VX (GA s_law_sheet 0) (AJ s_law_sheet)) ["_law_kind","_law_load"] (ixC [1] 1) (GA s_law_sheet 1):=⟨rfl,by decide+kernel,by decide+kernel,by decide+kernel,by decide+kernel⟩
theorem Ju:(["_law_kind","_law_load"]:List Str).Nodup:=by decide+kernel
theorem Jm:AV ["_law_book_here","_law_state","_law_kinds","_law_rows","_law_found","_law_deed_here","_law_load","_law_given","_law_kind","_law_got","_law_at","_law_left"] (AJ s_law_sheet) ["_law_row"] (ixC [] 1) (GA s_law_sheet 2):=⟨rfl,by decide+kernel,by decide+kernel,by decide+kernel,by decide+kernel⟩
theorem Jp:(["_law_row"]:List Str).Nodup:=by decide+kernel
theorem Js:AV ["_law_book_here","_law_state","_law_kinds","_law_rows","_law_found","_law_deed_here","_law_load","_law_given","_law_kind","_law_got","_law_at","_law_left"] (AJ s_law_sheet) ["_law_state","_law_kind"] (ixC [1] 1) (GA s_law_sheet 3):=⟨rfl,by decide+kernel,by decide+kernel,by decide+kernel,by decide+kernel⟩
theorem J2:(["_law_state","_law_kind"]:List Str).Nodup:=by decide+kernel
theorem Jr:AV ["_law_state","_law_kind"] (VX (GA s_law_sheet 3) (AJ s_law_sheet)) ["_law_kind","_law_load"] (ixC [1] 1) (GA s_law_sheet 4):=⟨rfl,by decide+kernel,by decide+kernel,by decide+kernel,by decide+kernel⟩
theorem Jw:(["_law_kind","_law_load"]:List Str).Nodup:=by decide+kernel
theorem Jq:AV ["_law_book_here","_law_state","_law_kinds","_law_rows","_law_found","_law_deed_here","_law_load","_law_given","_law_kind","_law_got","_law_at","_law_left"] (AJ s_law_sheet) ["_law_row","_law_many"] (ixC [] 2) (GA s_law_sheet 5):=⟨rfl,by decide+kernel,by decide+kernel,by decide+kernel,by decide+kernel⟩
theorem GN:(["_law_row","_law_many"]:List Str).Nodup:=by decide+kernel
theorem D7  (S:St.Src K mg "_law_sheet" s_law_sheet)(B:Bts mg)(CO:GS P w K mg base)(ER:Lb P w K mg base):Ie P w K mg base:=by
 refine A1 (k:=7) S BF rfl (fun f fd F=>F.binds fun _ _ _ _ _ _ us hl=>match us,hl with| [_],_=>rfl) fun f cdv A outer s H E hr=>?_
 have hu:=Ae hr
 exact(AF (GH (Az (AA (AH CO (hr.mono (by decide)) rfl (AA (AB 0) AD)) (AA (AK AW (AK AW (AB 0) AE) AE) AD))) (EU rfl (AQ (Aj 1 BF.nd) (AQ (Aj 2 BF.nd) Bp))))
    (AF (CU [0] 1 ["_law_book_here","_law_kind"] rfl BF.nd rfl rfl Jt (C8 rfl B.range (AA (AB 2) AD)) (fun s H fp=>⟨(Aj 1 J4),Bk,(BI (AA (Ab (Ej rfl) rfl B.sum boot_sum (AA (Bq [1] 1 ["_law_kind","_law_load"] rfl Jh (Cb (AK AW (AB 0) AE)) (fun s H fp=>⟨(Aj 1 Ju),(Fd (Ad (A3 hu) (AK AW (AB 1) AE) (AB 0))),(AK AW (AB 1) AE)⟩)) AD)) (AA AE (AA AE (AA AE (AA AE AD))))))⟩))
    (AF (Av 4 (BI (AA (Ai Ar rfl B.tuple boot_tuple (AA (Bq [] 1 ["_law_row"] rfl Jm (Cb (AB 3)) (fun s H fp=>⟨(Aj 0 Jp),Bk,(AZ AS (Ai Ar rfl B.tuple boot_tuple (AA (AB 0) AD)) (Az (AA (AK AW (AB 0) AE) AD)))⟩)) AD)) AD)) BF.nd)
    (AF (Fy PassesOwn.never rfl (Cb (AK AW (AB 0) AE)) (Aj 5 BF.nd) (AF (Bf (Ad (A3 hu) (AK AW (AB 5) AE) Au) (AL (BL (AZ AS (AK AW (AK AW (AB 3) (AK AW (AB 5) AE)) AE) (AK AW (AB 5) AE)) (AK AW (AB 3) (AK AW (AB 5) AE)) AE)) (AL (Bf (Ad Jc (AK AW (AB 5) AE) (Az (AA Au (AA Au AD)))) (AF (GH (ET (AB 5) (Na Ga AE)) (EU rfl (AQ (Aj 6 BF.nd) (AQ (Aj 7 BF.nd) (AQ (Aj 8 BF.nd) (AQ (Aj 9 BF.nd) Bp))))))
    (AF (BL (AZ AS (AK AW (AK AW (AB 3) (AB 8)) AE) (AB 9)) (AK AW (AB 3) (AB 8)) AE)
    (AL (BL (AZ AS (AK AW (AK AW (AB 3) (AK AW (AK AW (AK AW (AB 1) AE) (AB 6)) AE)) AE) (AB 7)) (AK AW (AB 3) (AK AW (AK AW (AK AW (AB 1) AE) (AB 6)) AE)) AE)))) (AL (Bf (Ad Jc (AK AW (AB 5) AE) (Az (AA Au (AA Au AD)))) (AF (Iw (i:=10) (j:=8) rfl BF.nd rfl rfl (by decide) rfl rfl (AZ AS AE (Ai Fo rfl B.int boot_int (AA (D3 (A3 hu) (AK AW (AB 5) AE) Au) AD))) (AK AW (AK AW (AK AW (AB 1) AE) (AK AW (AB 5) AE)) AE))
    (AL (BL (AZ AS (AK AW (AK AW (AB 3) (AB 8)) (AB 10)) (AK AW (AB 5) AE)) (AK AW (AB 3) (AB 8)) (AB 10)))) Am)))))
    (AF (DF (AH ER (hr.mono (by decide)) rfl (AA (AK AW (AB 0) AE) (AA (AB 1) (AA (AB 5) AD)))))
    (AF (CU [1] 1 ["_law_state","_law_kind"] rfl BF.nd rfl rfl Js (C8 rfl B.range (AA (AB 2) AD)) (fun s H fp=>⟨(Aj 1 J2),Bk,(Ab (Ej rfl) rfl B.sum boot_sum (AA (Bq [1] 1 ["_law_kind","_law_load"] rfl Jr (Cb (AK AW (AB 0) AE)) (fun s H fp=>⟨(Aj 1 Jw),(Fd (Ad (A3 hu) (AK AW (AB 1) AE) (AB 0))),(AK AW (AB 1) AE)⟩)) AD))⟩))
    (AL (DF (Gy PySem.F.slot_list_append PySem.F.type_list_append Fb (AB 4) (AA (Ai Ar rfl B.tuple boot_tuple (AA (Bq [] 2 ["_law_row","_law_many"] rfl Jq (OB rfl B.zip (AB 3) (AB 11)) (fun s H fp=>⟨(EU rfl (AQ (Aj 0 GN) (AQ (Aj 1 GN) Bp))),Bk,(AZ AS (Ai Ar rfl B.tuple boot_tuple (AA (AB 0) AD)) (Az (AA (AB 1) AD)))⟩)) AD)) AD))))))))
    (AL (AU (AB 4)))))))
theorem FZ:Aa ["_law_pen_here","_law_deep","_law_way","_law_parts"] ["_law_pen_here","_law_deep"] (AJ s_law_thing):=⟨rfl,rfl,rfl,by decide+kernel,rfl,by decide+kernel,by decide+kernel⟩
theorem J3:AV ["_law_pen_here","_law_deep","_law_way","_law_parts"] (AJ s_law_thing) ["_law_pen_here","_law_deep","_law_k"] (ixC [0,1] 1) (GA s_law_thing 0):=⟨rfl,by decide+kernel,by decide+kernel,by decide+kernel,by decide+kernel⟩
theorem J7:(["_law_pen_here","_law_deep","_law_k"]:List Str).Nodup:=by decide+kernel
theorem CF  (S:St.Src K mg "_law_thing" s_law_thing)(B:Bts mg)(AI:By P w K mg base):∀n:Nat,n≤8->St.Dfn P w K mg base "_law_thing" (2+n) ["_law_pen_here","_law_deep"] (spD K 2 (BZ n))
  |0,_=>IS S (fun f fd F=>F.binds fun _ _ _ _ _ _ us hl=>match us,hl with| [_,_],_=>rfl)
  | n + 1, hn => by
    have CF:=CF S B AI n (by omega)
    refine A1 (k:=2+n) S FZ rfl (fun f fd F=>F.binds fun _ _ _ _ _ _ us hl=>match us,hl with| [_,_],_=>rfl) fun f cdv A outer s H E hr=>?_
    have hu:=Ae hr
    exact(AF (Av 2 (AH AI (hr.mono (by omega)) rfl (AA (AB 0) (AA AE AD))) FZ.nd)
        (AF (Bf (DW.dt (PC (Ad Ia (AB 2) AE) (Me (Ad (A3 hu) (AB 1) AE)))) (AL (AU (AK AW (BI (AA KJ (AA My (AA My (AA AE (AA AE (AA (Na Ga AE) (AA AE (AA (AZ Mz AE AE) (AA Au (AA Au (AA (Az AD) (AA (BI AD) AD))))))))))))) (AH AI (hr.mono (by omega)) rfl (AA (AB 0) (AA AE AD)))))) Am)
        (AF (CU [0,1] 1 ["_law_pen_here","_law_deep","_law_k"] rfl FZ.nd rfl rfl J3 (C8 rfl B.range (AA (AH AI (hr.mono (by omega)) rfl (AA (AB 0) (AA AE AD))) AD)) (fun s H fp=>⟨(Aj 2 J7),Bk,(AH CF (hr.mono (by omega)) rfl (AA (AB 0) (AA (AZ Fm (AB 1) AE) AD)))⟩))
        (AF (Bf (Ad (A3 hu) (AB 2) AE) (AL (AU (AB 3))) Am)
        (AF (Bf (Ad (A3 hu) (AB 2) AE) (AL (AU (Xo (RE Au (AB 3) Vp) (List.cons_ne_nil _ _) (by decide)))) Am)
        (AL (AU (Ai Ar rfl B.tuple boot_tuple (AA (AB 3) AD)))))))))
end
section
open PyProof.Rows (boot_isinstance boot_int boot_bool boot_tuple boot_str boot_list boot_abs boot_all boot_any boot_sum boot_max boot_min boot_range boot_enumerate boot_zip boot_sorted boot_set boot_divmod)
variable{P:Program}{w:World}{K:PySem.W.Frag}{mg:Str->Option Value}{base:Heap}
theorem NG:Aa ["_law_one","_law_other"] ["_law_one","_law_other"] (AJ s_law_same):=⟨rfl,rfl,rfl,by decide+kernel,rfl,by decide+kernel,by decide+kernel⟩
theorem K1:AV ["_law_one","_law_other"] (AJ s_law_same) ["_law_a","_law_b"] (ixC [] 2) (GA s_law_same 0):=⟨rfl,by decide+kernel,by decide+kernel,by decide+kernel,by decide+kernel⟩
theorem Gu:(["_law_a","_law_b"]:List Str).Nodup:=by decide+kernel
theorem Cr  (S:St.Src K mg "_law_same" s_law_same)(B:Bts mg):∀n:Nat,n≤8->St.Dfn P w K mg base "_law_same" (1+n) ["_law_one","_law_other"] (spD K 2 (Bg n))
  |0,_=>IS S (fun f fd F=>F.binds fun _ _ _ _ _ _ us hl=>match us,hl with| [_,_],_=>rfl)
  | n + 1, hn => by
    have Cr:=Cr S B n (by omega)
    refine A1 (k:=1+n) S NG rfl (fun f fd F=>F.binds fun _ _ _ _ _ _ us hl=>match us,hl with| [_,_],_=>rfl) fun f cdv A outer s H E hr=>?_
    have hu:=Ae hr
    exact(AF (Bf (DW.dt (JN (KA (Ab KH rfl B.isi boot_isinstance (AA (AB 0) (AA (Az (AA (Ge rfl B.list boot_list) (AA (Ge rfl B.tuple boot_tuple) AD))) AD)))) (GX (KA (Ab KH rfl B.isi boot_isinstance (AA (AB 1) (AA (Az (AA (Ge rfl B.list boot_list) (AA (Ge rfl B.tuple boot_tuple) AD))) AD))))))) (AF (Bf (DW.dt (PC (Ad (Hr hu) (Ab CI rfl B.isi boot_isinstance (AA (AB 0) (AA (Ge rfl B.list boot_list) AD))) (Ab CI rfl B.isi boot_isinstance (AA (AB 1) (AA (Ge rfl B.list boot_list) AD)))) (Me (Ad (Hr hu) (Ab Bn rfl B.len boot_len (AA (AB 0) AD)) (Ab Bn rfl B.len boot_len (AA (AB 1) AD)))))) (AL (AU My)) Am)
        (AL (AU (Ab (MM rfl) rfl B.all boot_all (AA (Bq [] 2 ["_law_a","_law_b"] rfl K1 (OB rfl B.zip (AB 0) (AB 1)) (fun s H fp=>⟨(EU rfl (AQ (Aj 0 Gu) (AQ (Aj 1 Gu) Bp))),Bk,(AH Cr (hr.mono (by omega)) rfl (AA (AB 0) (AA (AB 1) AD)))⟩)) AD))))) Am)
        (AL (AU (Fi (D3 (Ue hu) (Ab CI rfl B.isi boot_isinstance (AA (AB 0) (AA (Ge rfl B.bool boot_bool) AD))) (Ab CI rfl B.isi boot_isinstance (AA (AB 1) (AA (Ge rfl B.bool boot_bool) AD)))) (GJ (D3 (Ue hu) (AB 0) (AB 1)))))))
theorem BD:Aa ["_law_pen_here","_law_right","_law_rows","_law_at","_law_way","_law_kind","_law_one","_law_spot","_law_other"] ["_law_pen_here","_law_right"] (AJ s_law_otherwise):=⟨rfl,rfl,rfl,by decide+kernel,rfl,by decide+kernel,by decide+kernel⟩
theorem G3:AV ["_law_pen_here","_law_right","_law_rows","_law_at","_law_way","_law_kind","_law_one","_law_spot","_law_other"] (AJ s_law_otherwise) ["_law_part"] (ixC [] 1) (GA s_law_otherwise 0):=⟨rfl,by decide+kernel,by decide+kernel,by decide+kernel,by decide+kernel⟩
theorem G7:(["_law_part"]:List Str).Nodup:=by decide+kernel
theorem G4:AV ["_law_pen_here","_law_right","_law_rows","_law_at","_law_way","_law_kind","_law_one","_law_spot","_law_other"] (AJ s_law_otherwise) ["_law_row"] (ixC [] 1) (GA s_law_otherwise 1):=⟨rfl,by decide+kernel,by decide+kernel,by decide+kernel,by decide+kernel⟩
theorem HA:(["_law_row"]:List Str).Nodup:=by decide+kernel
theorem CM  (S:St.Src K mg "_law_otherwise" s_law_otherwise)(B:Bts mg)(AI:By P w K mg base):Fv P w K mg base:=by
 refine A1 (k:=1) S BD rfl (fun f fd F=>F.binds fun _ _ _ _ _ _ us hl=>match us,hl with| [_,_],_=>rfl) fun f cdv A outer s H E hr=>?_
 have hu:=Ae hr
 exact(AF (Av 2 (Ai Ek rfl B.list boot_list (AA (AB 1) AD)) BD.nd)
    (AF (Av 3 (AH AI (hr.mono (by decide)) rfl (AA (AB 0) (AA (Ab Bn rfl B.len boot_len (AA (AB 2) AD)) AD))) BD.nd)
    (AF (Av 4 (AH AI (hr.mono (by decide)) rfl (AA (AB 0) (AA AE AD))) BD.nd)
    (AF (Bf (Ad (A3 hu) (AB 4) AE) (AL (AU (AZ AS (Fh (AB 2) (AB 3)) (ET (AB 2) (AZ AS (AB 3) AE))))) Am)
    (AF (Bf (Ad (A3 hu) (AB 4) AE) (AL (AU (AZ AS (AZ AS (Fh (AB 2) (AB 3)) (BI (AA (AK AW (AB 2) (AB 3)) AD))) (ET (AB 2) (AB 3))))) Am)
    (AF (Bf (Ad (A3 hu) (AB 4) AE) (AL (AU (AZ AS (AZ AS (AZ AS (Fh (AB 2) (AB 3)) (QS (AB 2) (AZ AS (AB 3) AE) (AZ AS (AB 3) AE))) (BI (AA (AK AW (AB 2) (AB 3)) AD))) (ET (AB 2) (AZ AS (AB 3) AE))))) Am)
    (AF (Bf (Ad (A3 hu) (AB 4) AE) (AL (AU (Ai Ar rfl B.tuple boot_tuple (AA (AB 2) AD)))) Am)
    (AF (Av 5 (AH AI (hr.mono (by decide)) rfl (AA (AB 0) (AA (Ab Bn rfl B.len boot_len (AA (AK AW (AB 2) (AB 3)) AD)) AD))) BD.nd)
    (AF (Av 6 (Ai Ek rfl B.list boot_list (AA (AK AW (AK AW (AB 2) (AB 3)) (AB 5)) AD)) BD.nd)
    (AF (Iw (i:=7) (j:=8) rfl BD.nd rfl rfl (by decide) rfl rfl (AH AI (hr.mono (by decide)) rfl (AA (AB 0) (AA AE AD))) (AZ AS AE (AH AI (hr.mono (by decide)) rfl (AA (AB 0) (AA AE AD)))))
    (AF (BL (AZ AS (AK AW (AB 6) (AB 7)) AE) (AB 6) (AB 7))
    (AF (BL (AZ AS (AK AW (AB 6) (AB 8)) (AK AW (BI (AA AE (AA AE (AA AE AD)))) (AH AI (hr.mono (by decide)) rfl (AA (AB 0) (AA AE AD))))) (AB 6) (AB 8))
    (AF (Bf (Ad (A3 hu) (AB 4) AE) (AL (CU [] 1 ["_law_part"] rfl BD.nd rfl rfl G3 (Cb (AK AW (AK AW (AB 2) (AB 3)) (AB 5))) (fun s H fp=>⟨(Aj 0 G7),Bk,(AK AW (BI (AA (AB 0) (AA My AD))) (Ai Fo rfl B.int boot_int (AA (D3 (A3 hu) (AB 0) AE) AD)))⟩))) Am)
    (AF (BL (AZ AS (AZ AS (Fh (AK AW (AB 2) (AB 3)) (AB 5)) (Az (AA (Ai Ar rfl B.tuple boot_tuple (AA (AB 6) AD)) AD))) (ET (AK AW (AB 2) (AB 3)) (AZ AS (AB 5) AE))) (AB 2) (AB 3))
    (AF (Bf (Ad (A3 hu) (AB 4) AE) (AL (AU (Bq [] 1 ["_law_row"] rfl G4 (Cb (AB 2)) (fun s H fp=>⟨(Aj 0 HA),Bk,(Ai Ek rfl B.list boot_list (AA (AB 0) AD))⟩)))) Am)
    (AL (AU (AB 2))))))))))))))))))
theorem EO:Aa ["_law_script","_law_k","_law_pen_here","_law_book_here","_law_right","_law_things","_law_thing_here","_law_found"] ["_law_script"] (AJ s_p_law):=⟨rfl,rfl,rfl,by decide+kernel,rfl,by decide+kernel,by decide+kernel⟩
theorem OP:AV ["_law_script","_law_k","_law_pen_here","_law_book_here","_law_right","_law_things","_law_thing_here","_law_found"] (AJ s_p_law) ["_law_pen_here","_law_right","_law_turn_here"] (ixC [2,4] 1) (GA s_p_law 0):=⟨rfl,by decide+kernel,by decide+kernel,by decide+kernel,by decide+kernel⟩
theorem Ob:(["_law_pen_here","_law_right","_law_turn_here"]:List Str).Nodup:=by decide+kernel
end
theorem nr{α:Sort _}{a b:α}(h:a=b):a=b:=h
@[simp high] theorem A9{α β:Type}(a:α)(f:α->Option β):(some a).bind f=f a:=Eq.mp (congrArg (fun z=>z=f a) rfl) (Eq.refl (f a))
@[simp high] theorem Y9{α β:Type}(a:α)(f:α->β):(some a).map f=some (f a):=Eq.mp (congrArg (fun z=>z=some (f a)) rfl) (Eq.refl (some (f a)))
section
variable{E:En}{S:Sto}{op:OpN}{f g c:Ev}{d:D}{i:Nat}{w:Wv}{a b e h r':D}{r:List D}{fs:List Ev}
@[simp] theorem cQ{o:Option D}{E:En}:at? (o::E) 0=o:=nr rfl
@[simp] theorem cS{o:Option D}{E:En}{i:Nat}:at? (o::E) (i+1)=at? E i:=nr rfl
@[simp] theorem aw:eC d E S=some (d,S):=nr rfl
@[simp] theorem aZ:eV i E S=(at? E i).map fun d=>(d,S):=nr rfl
@[simp] theorem Ui:evs [] E S=some ([],S):=nr rfl
@[simp] theorem Gq:evs (f::fs) E S=(f E S).bind fun r=>(evs fs E r.2).map fun q=>(r.1::q.1,q.2):=nr rfl
@[simp] theorem Zl{cf:Bool}:Nc cf op fs E S=(evs fs E S).bind fun r=>(op (r.1.map (dr r.2))).bind fun w=>fin cf w r.2:=nr rfl
@[simp] theorem cF{cf:Bool}:fin cf (.val d) S=some (d,S):=by cases cf<;>rfl
@[simp] theorem bU:fin false (.own r) S=some (.lst r,S):=nr rfl
@[simp] theorem br:fin true (.own r) S=some (.ref S.length,S++[.lst r]):=nr rfl
@[simp] theorem aS:dr S .non=.val .non:=nr rfl
@[simp] theorem bf{b:Bool}:dr S (.bl b)=.val (.bl b):=nr rfl
@[simp] theorem aO{i:Int}:dr S (.int i)=.val (.int i):=nr rfl
@[simp] theorem aV{x:Str}:dr S (.str x)=.val (.str x):=nr rfl
@[simp] theorem cJ{x:String}:dr S (.ty x)=.val (.ty x):=nr rfl
@[simp] theorem bC:dr S (.tup r)=.val (.tup r):=nr rfl
@[simp] theorem ay:dr S (.lst r)=.val (.lst r):=nr rfl
@[simp] theorem aP{ns:List Int}:dr S (.scr ns)=.val (.scr ns):=nr rfl
theorem AX{n:Nat}(h:S[n]?=some (.lst r)):dr S (.ref n)=.own r:=by
 show(match S[n]? with|some (.lst ds)=>Wv.own ds|_=>.val (.ref n))=_
 rw[h]
theorem AR{n:Nat}(h:S[n]?=some (.lst r)):Dg S n=some r:=by
 unfold Dg
 rw[h]
@[simp] theorem ak{f:Op1}:o1 f [w]=f w:=nr rfl
@[simp] theorem aj{f:Op2}{w':Wv}:o2 f [w,w']=f w w':=nr rfl
@[simp] theorem ao:fz (.val d)=d:=nr rfl
noncomputable def ZT(g:Ev)(E:En)(r:D×Sto):Option (D×Sto):=match r.1 with| .bl true=>g E r.2| .bl false=>some (.bl false,r.2)|_=>none
noncomputable def orK(g:Ev)(E:En)(r:D×Sto):Option (D×Sto):=match r.1 with| .bl false=>g E r.2| .bl true=>some (.bl true,r.2)|_=>none
noncomputable def ae(r:D×Sto):Option (D×Sto):=match r.1 with| .bl b=>some (.bl (!b),r.2)|_=>none
@[simp] theorem az:ZT g E (.bl true,S)=g E S:=nr rfl
@[simp] theorem aX:ZT g E (.bl false,S)=some (.bl false,S):=nr rfl
@[simp] theorem bK:orK g E (.bl false,S)=g E S:=nr rfl
@[simp] theorem b0:orK g E (.bl true,S)=some (.bl true,S):=nr rfl
@[simp] theorem aR{b:Bool}:ae (.bl b,S)=some (.bl (!b),S):=nr rfl
@[simp] theorem YI:Gk f g E S=(f E S).bind (ZT g E):=nr rfl
@[simp] theorem NZ:eOr f g E S=(f E S).bind (orK g E):=nr rfl
@[simp] theorem Yt:Tp f E S=(f E S).bind ae:=nr rfl
@[simp] theorem Yi:B4 fs E S=(evs fs E S).bind fun r=>if r.1.length≤sizeLine then some (.tup r.1,r.2)else none:=nr rfl
@[simp] theorem YD{cf:Bool}:SM cf fs E S=(evs fs E S).bind fun r=>if r.1.length≤sizeLine then fin cf (.own r.1) r.2 else none:=nr rfl
@[simp] theorem Xe{F:Fn}:AM F fs E S=(evs fs E S).bind fun r=>F r.1 r.2:=nr rfl
noncomputable def ag(op:Mo)(fs:List Ev)(E:En)(r:D×Sto):Option (D×Sto):=match r.1 with
 | .ref n=>(Dg r.2 n).bind fun _=>(evs fs E r.2).bind fun p=>(Dg p.2 n).bind fun ds=>(op p.2 ds p.1).map fun q=>(q.1,p.2.set n (.lst q.2))
 |_=>none
@[simp] theorem YT{op:Mo}{n:Nat}:ag op fs E (.ref n,S)=(Dg S n).bind fun _=>(evs fs E S).bind fun p=>(Dg p.2 n).bind fun ds=>(op p.2 ds p.1).map fun q=>(q.1,p.2.set n (.lst q.2)):=nr rfl
@[simp] theorem Ys{op:Mo}:Lo op f fs E S=(f E S).bind (ag op fs E):=nr rfl
@[simp] theorem Yf:MC S r [d]=if r.length<sizeLine then some (.non,r++[d])else none:=nr rfl
variable{x y:Ex}
noncomputable def XD(y:Ex)(r:Fl×En×Sto):Option (Fl×En×Sto):=match r.1 with| .nx=>y r.2.1 r.2.2| .ret w=>some (.ret w,r.2)
noncomputable def ZS(x y:Ex)(E:En)(r:D×Sto):Option (Fl×En×Sto):=match r.1 with| .bl true=>x E r.2| .bl false=>y E r.2|_=>none
@[simp] theorem Bw:XD y (.nx,E,S)=y E S:=nr rfl
@[simp] theorem Yh{w:D}:XD y (.ret w,E,S)=some (.ret w,E,S):=nr rfl
@[simp] theorem au:ZS x y E (.bl true,S)=x E S:=nr rfl
@[simp] theorem aq:ZS x y E (.bl false,S)=y E S:=nr rfl
@[simp] theorem BV:AY x y E S=(x E S).bind (XD y):=nr rfl
@[simp] theorem YV:CD E S=some (.nx,E,S):=nr rfl
@[simp] theorem NV:xIf c x y E S=(c E S).bind (ZS x y E):=nr rfl
@[simp] theorem Y6:BQ f E S=(f E S).map fun r=>(.ret r.1,E,r.2):=nr rfl
@[simp] theorem Yn:Bc i f E S=(f E S).map fun r=>(.nx,E.set i (some r.1),r.2):=nr rfl
@[simp] theorem Xm:Dx f E S=(f E S).map fun r=>(.nx,E,r.2):=nr rfl
noncomputable def bE(d b:D)(E:En)(i:D×Sto):Option (Fl×En×Sto):=match b,i.1 with
 | .ref n,.int j=>(Dg i.2 n).bind fun ds=>(ixN ds.length j).map fun m=>(.nx,E,i.2.set n (.lst (ds.set m d)))
 |_,_=>none
@[simp] theorem YU{n:Nat}{j:Int}:bE d (.ref n) E (.int j,S)=(Dg S n).bind fun ds=>(ixN ds.length j).map fun m=>(.nx,E,S.set n (.lst (ds.set m d))):=nr rfl
@[simp] theorem G5{k o:Ev}:FD k f o E S=(k E S).bind fun r=>(f E r.2).bind fun b=>(o E b.2).bind (bE r.1 b.1 E):=nr rfl
@[simp] theorem YB{t:Tf}:NU t f E S=(f E S).bind fun r=>(t r.1 E r.2).map fun E'=>(.nx,E',r.2):=nr rfl
@[simp] theorem YC{i j:Nat}:NS i j f g E S=(f E S).bind fun r=>(g E r.2).map fun q=>(.nx,(E.set i (some r.1)).set j (some q.1),q.2):=by
  unfold NS
  rw[Gq]
  cases f E S with
  |none=>rfl
  | some r =>
    rw[A9,A9,Gq]
    cases g E r.2 with
    |none=>rfl
    |some q=>rfl
@[simp] theorem VS:tNm i d E S=some (E.set i (some d)):=nr rfl
@[simp] theorem Z5{ts:List Tf}{ds:List D}:tTp ts (.tup ds) E S=tMs ts ds E S:=nr rfl
@[simp] theorem Zt{ts:List Tf}{n:Nat}:tTp ts (.ref n) E S=(Dg S n).bind fun ds=>tMs ts ds E S:=nr rfl
@[simp] theorem Zx:tMs [] [] E S=some E:=nr rfl
@[simp] theorem YE{t:Tf}{ts:List Tf}{ds:List D}:tMs (t::ts) (d::ds) E S=(t d E S).bind fun E1=>tMs ts ds E1 S:=nr rfl
@[simp] theorem Jb{N:Nat}{ds:List D}:BM (BR N x) ds S=(x (ds.map some++List.replicate (N-ds.length) none) S).map fun r=>(flD r.1,r.2.2):=by rw[Qa];rfl
@[simp] theorem aa:flD .nx=.non:=nr rfl
@[simp] theorem Zn:flD (.ret d)=d:=nr rfl
@[simp] theorem ZK{i j:Int}:A4 (.val (.int i)) (.val (.int j))=some (.val (.int (i+j))):=nr rfl
@[simp] theorem aE{xs ys:List D}:A4 (.val (.tup xs)) (.val (.tup ys))=if xs.length+ys.length≤sizeLine then some (.val (.tup (xs++ys)))else none:=nr rfl
@[simp] theorem ZZ{xs ys:List D}:A4 (.val (.lst xs)) (.val (.lst ys))=if xs.length+ys.length≤sizeLine then some (.own (xs++ys))else none:=nr rfl
@[simp] theorem ZX{xs ys:List D}:A4 (.own xs) (.val (.lst ys))=if xs.length+ys.length≤sizeLine then some (.own (xs++ys))else none:=nr rfl
@[simp] theorem Ya{i j:Int}:E8 (.val (.int i)) (.val (.int j))=if Dm i j=true then some (.val (.int (i*j)))else none:=nr rfl
@[simp] theorem Y4{k:Int}:E8 (.val (.tup r)) (.val (.int k))=if(!r.isEmpty && decide (k≤0) && decide (-(2^63)≤k))=true then some (.val (.tup []))else if(!r.isEmpty && decide (1≤k) && decide (r.length*k.toNat≤sizeLine))=true then some (.val (.tup (List.replicate k.toNat r).flatten))else none:=nr rfl
@[simp] theorem ZU:asS (.own r)=some r:=nr rfl
@[simp] theorem Z4:asS (.val (.lst r))=some r:=nr rfl
@[simp] theorem ZM:asS (.val (.tup r))=some r:=nr rfl
@[simp] theorem Zj{ns:List Int}:asS (.val (.scr ns))=some (ns.map .int):=nr rfl
@[simp] theorem ZA{j:Int}:wIx w (.val (.int j))=(asS w).bind fun ds=>(atI ds j).map .val:=nr rfl
theorem CA{α:Type}{xs:List α}{n:Nat}{x:α}(h:xs[n]?=some x):atI xs (n:Int)=some x:=Uv h
theorem UH{α:Type}{xs:List α}{i:Int}(h0:0≤i)(h1:i<xs.length):atI xs i=some (xs[i.toNat]'(by omega)):=by
 have:atI xs ((i.toNat:Nat):Int)=some (xs[i.toNat]'(by omega)):=CA (List.getElem?_eq_getElem (by omega))
 rwa [Int.toNat_of_nonneg h0]at this
@[simp] theorem bV:atI (a::r) 0=some a:=CA (n:=0) rfl
@[simp] theorem bX:atI (a::b::r) 1=some b:=CA (n:=1) rfl
@[simp] theorem cE:atI (a::b::e::r) 2=some e:=CA (n:=2) rfl
@[simp] theorem bT:atI (a::b::e::h::r) 3=some h:=CA (n:=3) rfl
@[simp] theorem bO{k:D}:atI (a::b::e::h::k::r) 4=some k:=CA (n:=4) rfl
theorem Hb{n k:Nat}(h:k<n):ixN n (k:Int)=some k:=by
 unfold ixN
 simp
 omega
theorem N7{n:Nat}{i:Int}(h0:0≤i)(h1:i<n):ixN n i=some i.toNat:=by
 have:=Hb (n:=n) (k:=i.toNat) (by omega)
 rwa [Int.toNat_of_nonneg h0]at this
@[simp] theorem cI{n:Nat}:ixN (n+1) 0=some 0:=N7 (by decide) (by omega)
@[simp] theorem bG{n:Nat}:ixN (n+2) 1=some 1:=N7 (by decide) (by omega)
@[simp] theorem bY{n:Nat}:ixN (n+3) 2=some 2:=N7 (by decide) (by omega)
@[simp] theorem Wm{i j:Int}:deq (.int i) (.int j)=(i==j):=nr rfl
@[simp] theorem Vl{i j:Int}:Cy (.int i) (.int j)=true:=nr rfl
@[simp] theorem Z9{w':Wv}:wEq w w'=if Cy (fz w) (fz w')=true then some (.val (.bl (deq (fz w) (fz w'))))else none:=nr rfl
@[simp] theorem ZV{w':Wv}:wNe w w'=if Cy (fz w) (fz w')=true then some (.val (.bl (!deq (fz w) (fz w'))))else none:=nr rfl
@[simp] theorem Zq{i j:Int}:wLt (.val (.int i)) (.val (.int j))=some (.val (.bl (decide (i<j)))):=nr rfl
@[simp] theorem Z7{i j:Int}:wGt (.val (.int i)) (.val (.int j))=some (.val (.bl (decide (j<i)))):=nr rfl
@[simp] theorem Zr{i j:Int}:wGe (.val (.int i)) (.val (.int j))=some (.val (.bl (decide (j≤i)))):=nr rfl
@[simp] theorem YR{i j:Int}:N5 (.val (.int i)) (.val (.int j))=some (.val (.int (i-j))):=nr rfl
@[simp] theorem Y7{i:Int}:M8 (.val (.int i))=some (.val (.int (-i))):=nr rfl
@[simp] theorem Yg{i j:Int}:N9 (.val (.int i)) (.val (.int j))=(if 0<j then some (.val (.int (i % j)))else none):=by
 show Option.map Wv.val (if 0<j then some (D.int (i % j))else none)=_
 split<;>rfl
@[simp] theorem Xs{i j:Int}:NM (.val (.int i)) (.val (.int j))=(if(decide (0<j) && decide (j.natAbs<FT))=true then some (.val (.int (i / j)))else none):=by
 show Option.map Wv.val (if(decide (0<j) && decide (j.natAbs<FT))=true then some (D.int (i / j))else none)=_
 split<;>rfl
@[simp] theorem YY{i j:Int}:Vf (.val (.int i)) (.val (.int j))=if(decide (0≤j) && decide (j≤1000) && decide (i.natAbs<2^64))=true then some (.val (.int (i^j.toNat)))else none:=by
 show Option.map Wv.val (if(decide (0≤j) && decide (j≤1000) && decide (i.natAbs<2^64))=true then some (D.int (i^j.toNat))else none)=_
 split<;>rfl
@[simp] theorem Yl{i:Int}:Yy (.val (.int i))=some (.val (.int (i.natAbs:Int))):=by
 show some (Wv.val (D.int (if i<0 then-i else i)))=_
 congr 3
 split<;>omega
@[simp] theorem YJ:F6 (.own r)=some (.val (.int r.length)):=nr rfl
@[simp] theorem SN:F6 (.val (.lst r))=some (.val (.int r.length)):=nr rfl
@[simp] theorem Yu:F6 (.val (.tup r))=some (.val (.int r.length)):=nr rfl
@[simp] theorem YF{ns:List Int}:F6 (.val (.scr ns))=some (.val (.int ns.length)):=by
 show some (Wv.val (D.int ((ns.map D.int).length:Nat)))=_
 rw[List.length_map]
@[simp] theorem WD:BK w=(asS w).map fun ds=>.val (.tup ds):=nr rfl
@[simp] theorem X0:E7 w=(asS w).map fun ds=>.own ds:=nr rfl
@[simp] theorem bF{b:Bool}:Oo (.val (.bl b))=some (.val (.int (if b then 1 else 0))):=nr rfl
@[simp] theorem Y0{i j:Int}:Y1 (.val (.int i)) (.val (.int j))=some (.val (.int (if j>i then j else i))):=nr rfl
@[simp] theorem Yd{i j:Int}:V9 (.val (.int i)) (.val (.int j))=some (.val (.int (if j<i then j else i))):=nr rfl
@[simp] theorem Gm{T:String}:LV w (.val (.ty T))=if Jk T=true then(kdW w).map fun k=>.val (.bl (k.isA T))else none:=nr rfl
@[simp] theorem aG:Jk "int"=true:=by decide
@[simp] theorem Yq:Jk "bool"=true:=by decide
@[simp] theorem WH:Jk "tuple"=true:=by decide
@[simp] theorem Yj:Jk "list"=true:=by decide
@[simp] theorem YX:Xz (.val (.lst r))=(bls r).map fun bs=>.val (.bl (bs.all id)):=nr rfl
theorem AN{n:Nat}(h:n≤1000):n≤sizeLine:=Nat.le_trans h (by decide)
@[simp] theorem sz1:(1:Nat)≤sizeLine:=AN (by decide)
@[simp] theorem sz2:(2:Nat)≤sizeLine:=AN (by decide)
@[simp] theorem sz3:(3:Nat)≤sizeLine:=AN (by decide)
@[simp] theorem sz4:(4:Nat)≤sizeLine:=AN (by decide)
@[simp] theorem sz5:(5:Nat)≤sizeLine:=AN (by decide)
@[simp] theorem sz6:(6:Nat)≤sizeLine:=AN (by decide)
@[simp] theorem Eg:BH E S=some (.bl true,S):=nr rfl
@[simp] theorem YO{s:Sr}{t:Tf}{b:Ex}:Mt s t b E S=(s E S).bind fun r=>Kj r.1.2 t b r.1.1 E r.2:=nr rfl
@[simp] theorem Ao:gOk [] S:=fun _ h=>(nomatch h)
theorem OI{gs:Gd}{t:Tf}{b:Ex}(h:gOk gs S):Kj gs t b [] E S=some (.nx,E,S):=by
 unfold Kj
 rw[if_pos h]
theorem O3{gs:Gd}{t:Tf}{b:Ex}{ds:List D}(h:gOk gs S):Kj gs t b (d::ds) E S=(t d E S).bind fun E1=>(b E1 S).bind fun r=>match r.1 with
  | .nx=>Kj gs t b ds r.2.1 r.2.2
  | .ret w=>some (.ret w,r.2):=by
 rw[Kj,if_pos h]
 all_goals rfl
theorem Kk{gs:Gd}{t:Tf}{b:Ex}{ds:List D}(h:gOk gs S):Kj gs t b (d::ds) E S=(t d E S).bind fun E1=>(b E1 S).bind (XD (Kj gs t b ds)):=by
 rw[O3 h]
 rfl
@[simp] theorem Yv:FR f E S=(f E S).bind fun r=>(sqD r.2 r.1).map fun p=>(p,r.2):=nr rfl
@[simp] theorem ZQ:sqD S (.tup r)=some (r,[]):=nr rfl
@[simp] theorem Zg:sqD S (.lst r)=some (r,[]):=nr rfl
theorem D8{n:Nat}(h:S[n]?=some (.lst r)):sqD S (.ref n)=some (r,[(n,r)]):=by
 show(Dg S n).map (fun ds=>(ds,[(n,ds)]))=_
 rw[AR h]
 rfl
@[simp] theorem Yk:WB f E S=(f E S).bind fun r=>(sqD r.2 r.1).map fun p=>((NO 0 p.1,p.2),r.2):=nr rfl
@[simp] theorem YQ:T9 f g E S=(f E S).bind fun r=>(g E r.2).bind fun q=>(sqD q.2 r.1).bind fun a=>(sqD q.2 q.1).map fun b=>((Kh a.1 b.1,a.2++b.2),q.2):=by
  unfold T9
  rw[Gq]
  cases f E S with
  |none=>rfl
  | some r =>
    rw[A9,A9,Gq]
    cases g E r.2 with
    |none=>rfl
    |some q=>rfl
noncomputable def GD(j:Int):Bool:=decide (-(2^62)≤j) && decide (j<2^62)
theorem Ce{j:Int}(h: -1000000≤j)(g:j≤1000000):GD j=true:=by
 unfold GD
 rw[Bool.and_eq_true]
 exact⟨decide_eq_true (by omega),decide_eq_true (by omega)⟩
noncomputable def aY(S:Sto):D->Option ((List D×Gd)×Sto)
 | .int j=>if GD j=true then some ((Hi 0 j.toNat,[]),S)else none
 |_=>none
@[simp] theorem Yr{j:Int}:aY S (.int j)=if GD j=true then some ((Hi 0 j.toNat,[]),S)else none:=nr rfl
@[simp] theorem Yw:Jg [f] E S=(f E S).bind fun r=>aY r.2 r.1:=by
  unfold Jg
  rw[Gq]
  cases f E S with
  |none=>rfl
  | some r =>
    obtain⟨d,S1⟩:=r
    rw[A9,Ui,Y9,A9,A9]
    cases d<;>rfl
@[simp] theorem XH{cf:Bool}{cap:List Nat}{m:Nat}{s:Sr}{t:Tf}:Kr cf cap m s t c f E S=(s E S).bind fun r=>(Bj r.1.2 t c f r.1.1 [] (Ke cap m E) r.2).bind fun q=>fin cf (.own q.1) q.2:=nr rfl
@[simp] theorem YZ{cap:List Nat}{m:Nat}:Ke cap m E=cap.map (at? E)++List.replicate m none:=nr rfl
theorem QE{α:Type}(p:α->Bool):∀xs:List α,bls (xs.map fun x=>.bl (p x))=some (xs.map p)
  | []=>rfl
  | x :: xs => by
    have ih:=QE p xs
    unfold bls at ih⊢
    rw[List.map_cons,List.mapM_cons,ih]
    rfl
@[simp] theorem OV{i:Int}:JL (.int i::r)=(JL r).map fun ns=>i::ns:=by
 unfold JL
 rw[List.mapM_cons]
 show(do let r1←some i;let rs←List.mapM intD r;pure (r1::rs))=_
 cases List.mapM intD r<;>rfl
theorem DV:∀(ns:List Int),JL (ns.map D.int)=some ns
 | []=>rfl
 |n::ns=>by rw[List.map_cons,OV,DV ns];rfl
@[simp] theorem YH:OO (.own r)=(JL r).map fun ns=>.val (.int ns.sum):=nr rfl
@[simp] theorem YW:OO (.val (.lst r))=(JL r).map fun ns=>.val (.int ns.sum):=nr rfl
@[simp] theorem av:So false w (.val .non)=some (.val (.bl (isN w))):=nr rfl
@[simp] theorem aU:So true w (.val .non)=some (.val (.bl (!isN w))):=nr rfl
@[simp] theorem bQ{i:Int}{w:Wv}:De true false [w,.val (.int i)]=wSl (some i) none w:=nr rfl
@[simp] theorem bZ{i:Int}{w:Wv}:De false true [w,.val (.int i)]=wSl none (some i) w:=nr rfl
@[simp] theorem cN{i j:Int}{w:Wv}:De true true [w,.val (.int i),.val (.int j)]=wSl (some i) (some j) w:=nr rfl
@[simp] theorem Z0{lo hi:Option Int}:wSl lo hi (.val (.tup r))=some (.val (.tup (C5 r lo hi))):=nr rfl
@[simp] theorem Zv{lo hi:Option Int}:wSl lo hi (.own r)=some (.own (C5 r lo hi)):=nr rfl
end
structure Df(A:List Nat)(S S':Sto):Prop where
 len:S.length≤S'.length
 keep:∀n,n<S.length->n∉A->S'[n]?=S[n]?
theorem Df.refl{A:List Nat}{S:Sto}:Df A S S:=⟨Nat.le_refl _,fun _ _ _=>rfl⟩
theorem Df.trans{A:List Nat}{S S' S2:Sto}(h:Df A S S')(g:Df A S' S2):Df A S S2:=⟨Nat.le_trans h.len g.len,fun n hn ha=>(g.keep n (Nat.lt_of_lt_of_le hn h.len) ha).trans (h.keep n hn ha)⟩
theorem Df.mono{A B:List Nat}{S S':Sto}(h:Df A S S')(s:∀n∈A,n∈B):Df B S S':=⟨h.len,fun n hn hb=>h.keep n hn fun z=>hb (s n z)⟩
theorem Df.get{A:List Nat}{S S':Sto}(h:Df A S S'){n:Nat}{c:Cl}(e:S[n]?=some c)(ha:n∉A):S'[n]?=some c:=by
 rw[h.keep n (List.getElem?_eq_some_iff.mp e).1 ha];exact e
theorem Df.app{A:List Nat}{S T:Sto}:Df A S (S++T):=⟨by simp,fun n hn _=>List.getElem?_append_left hn⟩
theorem Df.set{A:List Nat}{S:Sto}{n:Nat}{c:Cl}(h:n∈A):Df A S (S.set n c):=⟨by simp,fun m hm ha=>List.getElem?_set_ne (fun z=>ha (by rw[←z];exact h))⟩
theorem Ac{S:Sto}{n:Nat}{c:Cl}(h:S[n]?=some c):n<S.length:=(List.getElem?_eq_some_iff.mp h).1
section
theorem mulL{i j:Int}(h: -18446744073709551616<i)(g:i<18446744073709551616):Dm i j=true:=by
 unfold Dm
 rw[Bool.or_eq_true]
 exact .inl (decide_eq_true (by omega))
theorem mulR{i j:Int}(h: -18446744073709551616<j)(g:j<18446744073709551616):Dm i j=true:=by
 unfold Dm
 rw[Bool.or_eq_true,Bool.or_eq_true]
 exact .inr (.inl (decide_eq_true (by omega)))
theorem FU{n k:Nat}(h:n<2^k)(hk:k≤8000):n<FT:=Nat.lt_of_lt_of_le h (Nat.pow_le_pow_right (by decide) hk)
theorem DY{n:Int}(h0:0<n)(h1:n<1152921504606846976):n.natAbs<FT:=FU (k:=60) (show n.natAbs<2^60 by omega) (by decide)
variable{S:Sto}
noncomputable def OW(a b:Int):Int:=((Nat.gcd a.natAbs b.natAbs:Nat):Int)
theorem Ih{c:Ev}{b:Ex}{k:Nat}{E:En}:GL c b (k+1) E S=(c E S).bind fun r=>match r.1 with
    | .bl true=>(b E r.2).bind fun p=>match p.1 with
      | .nx=>GL c b k p.2.1 p.2.2
      | .ret w=>some (.ret w,p.2)
    | .bl false=>some (.nx,E,r.2)
    |_=>none:=rfl
theorem R3{c:Ev}{b:Ex}{k:Nat}{E E2:En}{S1 S2:Sto}(e1:c E S=some (.bl true,S1))(e2:b E S1=some (.nx,E2,S2)):GL c b (k+1) E S=GL c b k E2 S2:=by
 rw[Ih,e1]
 show(b E S1).bind _=_
 rw[e2]
 rfl
theorem SG{c:Ev}{b:Ex}{k:Nat}{E:En}{S1:Sto}(e1:c E S=some (.bl false,S1)):GL c b (k+1) E S=some (.nx,E,S1):=by
 rw[Ih,e1]
 rfl
theorem JH:∀(k:Nat) (x y:Nat),y<k->GL (eOp (o2 wGt) [(eV 1),(eC (.int 0))]) (NS 0 1 (eV 1) (eOp (o2 N9) [(eV 0),(eV 1)])) k [some (.int x),some (.int y)] S=some (.nx,[some (.int (Nat.gcd x y:Nat)),some (.int 0)],S)
  |0,x,y,h=>absurd h (Nat.not_lt_zero _)
  | k + 1, x, y, h => by
    by_cases hy:y=0
    · subst hy
      rw[SG (S1:=S) (by simp)]
      simp
    · have ih := JH k y (x % y) (by have := Nat.mod_lt x (Nat.pos_of_ne_zero hy); omega)
      rw[show((x % y:Nat):Int)=(x:Int) % (y:Int) by omega]at ih
      have hy4:0<y:=Nat.pos_of_ne_zero hy
      rw[R3 (S1:=S) (S2:=S) (E2:=[some (.int y),some (.int ((x:Int) % (y:Int)))]) (by simp[hy4]) (by simp[hy4]),ih]
      rw[Nat.gcd_comm x y,Nat.gcd_rec y x,Nat.gcd_comm]
theorem PH(a b:Int)(ha:0≤a)(hb:0≤b):EC [.int a,.int b] S=some (.int (OW a b),S):=by
 have:=JH (S:=S) (b.natAbs+2) a.natAbs b.natAbs (by omega)
 have e1:((a.natAbs:Nat):Int)=a:=by omega
 have e2:((b.natAbs:Nat):Int)=b:=by omega
 rw[e1,e2]at this
 simp[EC,Hf,QB,U0,this,OW]
noncomputable def lowP(t b:Int):Int×Int:=(t / OW t b,b / OW t b)
theorem RF{t b:Int}(h:0<b):0<OW t b:=by
 unfold OW
 have:0<Nat.gcd t.natAbs b.natAbs:=Nat.gcd_pos_of_pos_right _ (by omega)
 omega
theorem U1{t b:Int}(h:0<b):(OW t b).natAbs≤b.natAbs:=by
 unfold OW
 have:Nat.gcd t.natAbs b.natAbs≤b.natAbs:=Nat.gcd_le_right _ (by omega)
 omega
noncomputable def amD(p:Int×Int):D:=.tup [.int p.1,.int p.2]
theorem Tg{t b:Int}:OW (t.natAbs:Int) b=OW t b:=by
 unfold OW
 rw[Int.natAbs_natCast]
theorem NP{t b:Int}(h:0<b)(hb:b.natAbs<FT):Bh [.int t,.int b] S=some (amD (lowP t b),S):=by
 have h1:=RF (t:=t) h
 have h2:(OW t b).natAbs<FT:=Nat.lt_of_le_of_lt (U1 h) hb
 have h3:=PH (S:=S) (t.natAbs:Int) b (by omega) (by omega)
 rw[Tg]at h3
 simp[Bh,Km,h3,h1,h2,amD,lowP]
noncomputable def aD(q:Rat):D:=.tup [.int q.num,.int q.den]
def Sz(k:Nat)(q:Rat):Prop:=q.num.natAbs<2^k/\q.den<2^k
theorem EA(q:Rat):(q.num:Rat) / (q.den:Rat)=q:=by
 rw[←Rat.mkRat_eq_div,Rat.mkRat_self]
theorem Im(q:Rat):(q.den:Rat)≠0:=by
 have:=q.den_nz
 exact_mod_cast this
theorem JX(t:Int)(n:Nat)(h:0<n):((t:Rat) / (n:Rat)).num=t / (Nat.gcd t.natAbs n:Nat)/\((t:Rat) / (n:Rat)).den=n / Nat.gcd t.natAbs n:=by
 have e:(t:Rat) / (n:Rat)=mkRat t n:=by rw[Rat.mkRat_eq_div]
 rw[e,Rat.mkRat_def,dif_neg (by omega),Rat.normalize_eq]
 exact⟨rfl,rfl⟩
theorem NW{t b:Int}(h:0<b):amD (lowP t b)=aD ((t:Rat) / (b:Rat)):=by
 obtain⟨n,rfl⟩:∃n:Nat,b=n:=⟨b.natAbs,by omega⟩
 obtain⟨h1,h2⟩:=JX t n (by omega)
 unfold amD aD lowP OW
 rw[show(((n:Nat):Int):Rat)=((n:Nat):Rat)from rfl,h1,h2]
 simp
theorem Kn{t b:Int}{k:Nat}(h:0<b)(ht:t.natAbs<2^k)(hb:b.natAbs<2^k):Sz k ((t:Rat) / (b:Rat)):=by
 obtain⟨n,rfl⟩:∃n:Nat,b=n:=⟨b.natAbs,by omega⟩
 obtain⟨h1,h2⟩:=JX t n (by omega)
 unfold Sz
 rw[show(((n:Nat):Int):Rat)=((n:Nat):Rat)from rfl,h1,h2]
 exact⟨Nat.lt_of_le_of_lt (Int.natAbs_ediv_le_natAbs _ _) ht,Nat.lt_of_le_of_lt (Nat.div_le_self _ _) (by simpa using hb)⟩
theorem El{a b j k:Nat}(ha:a<2^j)(hb:b<2^k):a*b<2^(j+k):=by
 rw[Nat.pow_add]
 exact Nat.mul_lt_mul'' ha hb
theorem IK{i j:Int}{k m:Nat}(hi:i.natAbs<2^k)(hj:j.natAbs<2^m)(h:k≤60000)(g:m≤60000):Dm i j=true:=by
 unfold Dm
 rw[Bool.or_eq_true,Bool.or_eq_true,Bool.and_eq_true]
 exact .inr (.inr ⟨decide_eq_true (Nat.lt_of_lt_of_le hi (Nat.pow_le_pow_right (by decide) h)),decide_eq_true (Nat.lt_of_lt_of_le hj (Nat.pow_le_pow_right (by decide) g))⟩)
theorem den_pos(q:Rat):0<(q.den:Int):=by have:=q.den_pos;omega
theorem WX{x:Int}{n m:Nat}(h:x.natAbs<2^n)(g:n≤m):x.natAbs<2^m:=Nat.lt_of_lt_of_le h (Nat.pow_le_pow_right (by decide) g)
section
variable{p q:Rat}{j k:Nat}
theorem Ea(hp:Sz j p)(hq:Sz k q):(p.num*q.den+q.num*p.den).natAbs<2^(j+k+1)/\((p.den:Int)*q.den).natAbs<2^(j+k)/\(p.num*q.den-q.num*p.den).natAbs<2^(j+k+1):=by
 have a1:=El hp.1 hq.2
 have a2:=El hq.1 hp.2
 have a3:=El hp.2 hq.2
 rw[Nat.add_comm k j]at a2
 have e:2^(j+k+1)=2^(j+k)+2^(j+k):=by rw[Nat.pow_succ];omega
 refine⟨?_,?_,?_⟩
 ·refine Nat.lt_of_le_of_lt (Int.natAbs_add_le _ _) ?_
  rw[Int.natAbs_mul,Int.natAbs_mul,Int.natAbs_natCast,Int.natAbs_natCast,e]
  omega
 ·rw[Int.natAbs_mul,Int.natAbs_natCast,Int.natAbs_natCast];exact a3
 ·refine Nat.lt_of_le_of_lt (Int.natAbs_sub_le _ _) ?_
  rw[Int.natAbs_mul,Int.natAbs_mul,Int.natAbs_natCast,Int.natAbs_natCast,e]
  omega
theorem Nf:(((p.num*q.den+q.num*p.den:Int):Rat) / (((p.den:Int)*q.den:Int):Rat))=p+q:=by
 have h1:=EA p;have h2:=EA q
 have d1:=Im p;have d2:=Im q
 push_cast
 grind
theorem SX:(((p.num*q.den-q.num*p.den:Int):Rat) / (((p.den:Int)*q.den:Int):Rat))=p-q:=by
 have h1:=EA p;have h2:=EA q
 have d1:=Im p;have d2:=Im q
 push_cast
 grind
theorem MW:(((p.num*q.num:Int):Rat) / (((p.den:Int)*q.den:Int):Rat))=p*q:=by
 have h1:=EA p;have h2:=EA q
 have d1:=Im p;have d2:=Im q
 push_cast
 grind
theorem WJ(hp:Sz j p)(hq:Sz k q):Sz (j+k+1) (p+q):=by
 rw[←Nf]
 have:=Ea hp hq
 exact Kn (Int.mul_pos (den_pos _) (den_pos _)) this.1 (WX this.2.1 (by omega))
theorem X3(hp:Sz j p)(hq:Sz k q):Sz (j+k+1) (p-q):=by
 rw[←SX]
 have:=Ea hp hq
 exact Kn (Int.mul_pos (den_pos _) (den_pos _)) this.2.2 (WX this.2.1 (by omega))
theorem Mc(hp:Sz j p)(hq:Sz k q):Sz (j+k) (p*q):=by
 rw[←MW]
 have:=Ea hp hq
 exact Kn (Int.mul_pos (den_pos _) (den_pos _)) (by rw[Int.natAbs_mul];exact El hp.1 hq.1) this.2.1
end
section
variable{p q:Rat}{j k:Nat}
theorem T8(hp:Sz j p)(hq:Sz k q)(hj:j+k≤7990):Dm p.num q.den=true/\Dm q.num p.den=true/\Dm p.den q.den=true/\Dm p.num q.num=true:=by
 refine⟨IK hp.1 (by simpa using hq.2) (by omega) (by omega),IK hq.1 (by simpa using hp.2) (by omega) (by omega),IK (by simpa using hp.2) (by simpa using hq.2) (by omega) (by omega),IK hp.1 hq.1 (by omega) (by omega)⟩
theorem N1(hp:Sz j p)(hq:Sz k q)(hj:j+k≤7990):Bx [(aD p),(aD q)] S=some ((aD (p+q)),S):=by
 obtain⟨m1,m2,m3,m4⟩:=T8 hp hq (by omega)
 have b:=Ea hp hq
 have l:=NP (S:=S) (t:=p.num*q.den+q.num*p.den) (b:=p.den*q.den) (Int.mul_pos (den_pos _) (den_pos _)) (FU b.2.1 (by omega))
 rw[NW (Int.mul_pos (den_pos _) (den_pos _)),Nf]at l
 simp only[aD]at l⊢
 simp[Bx,Kp,m1,m2,m3,l]
theorem HM(hp:Sz j p)(hq:Sz k q)(hj:j+k≤7990):Ax [(aD p),(aD q)] S=some ((aD (p*q)),S):=by
 obtain⟨m1,m2,m3,m4⟩:=T8 hp hq (by omega)
 have b:=Ea hp hq
 have l:=NP (S:=S) (t:=p.num*q.num) (b:=p.den*q.den) (Int.mul_pos (den_pos _) (den_pos _)) (FU b.2.1 (by omega))
 rw[NW (Int.mul_pos (den_pos _) (den_pos _)),MW]at l
 simp only[aD]at l⊢
 simp[Ax,Ir,m3,m4,l]
theorem X8:aD (-q)=.tup [.int (0-q.num),.int q.den]:=by
 unfold aD
 rw[show(-q).num=0-q.num by simp,show(-q).den=q.den by simp]
theorem WZ(hq:Sz k q):Sz k (-q):=by
 unfold Sz
 rw[show(-q).num= -q.num by simp,show(-q).den=q.den by simp,Int.natAbs_neg]
 exact hq
theorem Tz(hp:Sz j p)(hq:Sz k q)(hj:j+k≤7990):Cv [(aD p),(aD q)] S=some ((aD (p-q)),S):=by
 have l:=N1 (S:=S) hp (WZ hq) hj
 rw[X8]at l
 rw[Rat.sub_eq_add_neg]
 simp only[aD]at l⊢
 simp at l
 simp[Cv,KY,l]
end
theorem To{t b:Int}(h:0<b)(hb:b.natAbs<FT):Bh [(.int t),(.int b)] S=some ((aD (t / b)),S):=by
 rw[NP h hb,NW h]
theorem OL{a b:Int}{k:Nat}(ha:a.natAbs<2^k)(hb:b.natAbs<2^k):(a+b).natAbs<2^(k+1):=by
 have e:2^(k+1)=2^k+2^k:=by rw[Nat.pow_succ];omega
 have:=Int.natAbs_add_le a b
 omega
section
variable{p q:Rat}{w m:Int}{j k n:Nat}
end
end
section
variable{S:Sto}{p:Nat}
theorem UR{r:List D}(h:p<S.length):dr (S.set p (.lst r)) (.ref p)=.own r:=AX (List.getElem?_set_self h)
def Pen(ds:List D):Prop:=∃a b c d:Int,ds=[.int a,.int b,.int c,.int d]/\0≤d/\d<1000000007
def Dc(p:Nat)(S:Sto):Prop:=∃ds,S[p]?=some (.lst ds)/\Pen ds
structure Pn(p:Nat)(S S':Sto):Prop where
 same:Df [p] S S'
 pen:Dc p S'
theorem Pn.trans{S S' S2:Sto}(h:Pn p S S')(g:Pn p S' S2):Pn p S S2:=⟨h.same.trans g.same,g.pen⟩
theorem Pn.get{S S':Sto}(h:Pn p S S'){n:Nat}{c:Cl}(e:S[n]?=some c)(ha:n≠p):S'[n]?=some c:=h.same.get e (by simpa using ha)
theorem Pn.refl(h:Dc p S):Pn p S S:=⟨.refl,h⟩
theorem Dc.lt(h:Dc p S):p<S.length:=by obtain⟨ds,e,_⟩:=h;exact Ac e
theorem Dc.app(h:Dc p S)(T:Sto):Dc p (S++T):=by obtain⟨ds,e,hp⟩:=h;exact⟨ds,by rw[List.getElem?_append_left (Ac e)];exact e,hp⟩
theorem Ag(h:Dc p S){n:Int}(h0:0<n)(h1:n<1152921504606846976):∃r S',AG [.ref p,.int n] S=some (.int r,S')/\0≤r/\r<n/\Pn p S S':=by
 obtain⟨ds,hp,a,b,c,d,rfl,hd0,hd1⟩:=h
 have hl:=Ac hp
 have hs:=DY h0 h1
 have hr:=AX hp
 have hc:=AR hp
 by_cases hb:b=1/\0<a
 ·obtain⟨rfl,ha⟩:=hb
  refine⟨a % n,S.set p (.lst [.int (a / n),.int 1,.int c,.int d]),?_,Int.emod_nonneg _ (by omega),Int.emod_lt_of_pos _ h0,.set (by simp),_,List.getElem?_set_self hl,_,_,_,_,rfl,hd0,hd1⟩
  simp[AG,F8,ha,h0,hs,hr,hc]
 ·have m1:Dm (d+17) (69621+2*(c+1))=true:=mulL (by omega) (by omega)
  have m2:Dm 2 (c+1)=true:=mulL (by decide) (by decide)
  generalize ht:(d+17)*(69621+2*(c+1)) % 2147483647=t at*
  have t0:0≤t:=by rw[←ht];exact Int.emod_nonneg _ (by decide)
  have t1:t<2147483647:=by rw[←ht];exact Int.emod_lt_of_pos _ (by decide)
  have m3:Dm t t=true:=mulL (by omega) (by omega)
  have m4:Dm 40503 (c+1)=true:=mulL (by decide) (by decide)
  generalize hu:(t*t+40503*(c+1)+5) % 2147483629=u at*
  have u0:0≤u:=by rw[←hu];exact Int.emod_nonneg _ (by decide)
  have u1:u<2147483629:=by rw[←hu];exact Int.emod_lt_of_pos _ (by decide)
  have m5:Dm u 48271=true:=mulL (by omega) (by omega)
  have d32:(32:Int).natAbs<FT:=DY (by decide) (by decide)
  have d32':(32:Nat)<FT:=d32
  refine⟨u*48271 % 2147483647 / 32 % n,S.set p (.lst [.int a,.int b,.int (c+1),.int d]),?_,Int.emod_nonneg _ (by omega),Int.emod_lt_of_pos _ h0,.set (by simp),_,List.getElem?_set_self hl,_,_,_,_,rfl,hd0,hd1⟩
  by_cases hb1:b=1
  ·subst hb1
   have ha:¬0<a:=fun z=>hb ⟨rfl,z⟩
   simp[AG,F8,ha,h0,hs,hr,hc,UR,hl,m1,m2,m3,m4,m5,ht,hu,d32']
  ·have hb2:(b==1)=false:=by simpa using hb1
   simp[AG,F8,hb2,h0,hs,hr,hc,UR,hl,m1,m2,m3,m4,m5,ht,hu,d32']
theorem X9(c:Int):∃p S',F1 [.int c] S=some (.ref p,S')/\Dc p S'/\Df [] S S'/\S.length≤p:=by
 refine⟨S.length,S++[.lst [.int c,.int (if(10:Int)^18≤c then 1 else 0),.int 0,.int (c % 1000000007)]],?_,⟨_,List.getElem?_concat_length,_,_,_,_,rfl,Int.emod_nonneg _ (by decide),Int.emod_lt_of_pos _ (by decide)⟩,.app,Nat.le_refl _⟩
 simp[F1,Lq]
theorem DZ{gs:Gd}{t:Tf}{c f:Ev}{acc:List D}{E:En}(h:gOk gs S):Bj gs t c f [] acc E S=some (acc,S):=by
 unfold Bj
 rw[if_pos h]
theorem KD{gs:Gd}{t:Tf}{c f:Ev}{d:D}{ds acc:List D}{E:En}(h:gOk gs S)(hz:acc.length<sizeLine):Bj gs t c f (d::ds) acc E S=(t d E S).bind fun E1=>(c E1 S).bind fun r=>match r.1 with
   | .bl true=>(f E1 r.2).bind fun p=>Bj gs t c f ds (acc++[p.1]) E1 p.2
   | .bl false=>Bj gs t c f ds acc E1 r.2
   |_=>none:=by
 rw[Bj,if_pos h,if_pos hz]
 all_goals rfl
theorem Fc{gs:Gd}{t:Tf}{c f:Ev}{d:D}{ds acc:List D}{E E1:En}{S1:Sto}(h:gOk gs S)(hz:acc.length<sizeLine)(e1:t d E S=some E1)(e2:c E1 S=some (.bl true,S1)):Bj gs t c f (d::ds) acc E S=(f E1 S1).bind fun p=>Bj gs t c f ds (acc++[p.1]) E1 p.2:=by
 rw[KD h hz,e1]
 show(c E1 S).bind _=_
 rw[e2]
 rfl
theorem GQ{gs:Gd}{t:Tf}{c f:Ev}{d:D}{ds acc:List D}{E E1:En}{S1:Sto}(h:gOk gs S)(hz:acc.length<sizeLine)(e1:t d E S=some E1)(e2:c E1 S=some (.bl false,S1)):Bj gs t c f (d::ds) acc E S=Bj gs t c f ds acc E1 S1:=by
 rw[KD h hz,e1]
 show(c E1 S).bind _=_
 rw[e2]
 rfl
theorem IH{gs:Gd}{t:Tf}{f:Ev}{C:En}{m:Nat}{I:Sto->Prop}{R:D->D->Prop}(hg:∀S,I S->gOk gs S):∀{ds acc:List D} {os:En} {S:Sto},os.length=m->I S->acc.length+ds.length≤sizeLine->
    (∀d∈ds,∀os S,os.length=m->I S->∃us y S',us.length=m/\t d (C++os) S=some (C++us)/\f (C++us) S=some (y,S')/\I S'/\R d y)->
    ∃ys S',Bj gs t BH f ds acc (C++os) S=some (acc++ys,S')/\I S'/\ys.length=ds.length/\Paired R ds ys
  | [],acc,os,S,ho,hI,hz,h=>⟨[],S,by rw[DZ (hg S hI)];simp,hI,rfl,.nil⟩
  | d :: ds, acc, os, S, ho, hI, hz, h => by
    obtain⟨us,y,S1,hu,e1,e2,I1,r1⟩:=h d List.mem_cons_self os S ho hI
    obtain⟨ys,S2,e3,I2,l2,r2⟩:=IH hg (ds:=ds) (acc:=acc++[y]) (os:=us) (S:=S1) hu I1 (by simp at hz ⊢; omega) fun d' hd=>h d' (List.mem_cons_of_mem _ hd)
    refine⟨y::ys,S2,?_,I2,by simp[l2],.cons r1 r2⟩
    rw[Fc (hg S hI) (by simp at hz;omega) e1 Eg,e2,A9,e3]
    simp
theorem comp_map{gs:Gd}{t:Tf}{f:Ev}{C:En}{m:Nat}{g:D->D}{S:Sto}(hg:gOk gs S):∀{ds acc:List D} {os:En},os.length=m->acc.length+ds.length≤sizeLine->
    (∀d∈ds,∀os,os.length=m->∃us,us.length=m/\t d (C++os) S=some (C++us)/\f (C++us) S=some (g d,S))->
    Bj gs t BH f ds acc (C++os) S=some (acc++ds.map g,S)
  | [],acc,os,ho,hz,h=>by rw[DZ hg];simp
  | d :: ds, acc, os, ho, hz, h => by
    obtain⟨us,hu,e1,e2⟩:=h d List.mem_cons_self os ho
    rw[Fc hg (by simp at hz;omega) e1 Eg,e2,A9]
    rw[comp_map hg hu (by simp at hz ⊢; omega) fun d' hd=>h d' (List.mem_cons_of_mem _ hd)]
    simp
theorem Fz{gs:Gd}{t:Tf}{b:Ex}{I:List D->En->Sto->Prop}(hg:∀ds E S,I ds E S->gOk gs S):∀{ds:List D} {E:En} {S:Sto},I ds E S->
    (∀d ds E S,I (d::ds) E S->∃E1 E2 S2,t d E S=some E1/\b E1 S=some (.nx,E2,S2)/\I ds E2 S2)->
    ∃E' S',Kj gs t b ds E S=some (.nx,E',S')/\I [] E' S'
  | [],E,S,hI,h=>⟨E,S,OI (hg _ _ _ hI),hI⟩
  | d :: ds, E, S, hI, h => by
    obtain⟨E1,E2,S2,e1,e2,I2⟩:=h d ds E S hI
    obtain⟨E',S',e3,I3⟩:=Fz hg I2 h
    exact⟨E',S',by rw[Kk (hg _ _ _ hI),e1];simp[e2,e3],I3⟩
theorem pick{xs:List D}{r:Int}(h0:0≤r)(h1:r<xs.length):∃x,atI xs r=some x/\x∈xs:=⟨_,UH h0 h1,List.getElem_mem _⟩
theorem F7{α β:Type}{P:β->Prop}:∀{xs:List α} {ys:List β},Paired (fun _ y=>P y) xs ys->∀y∈ys,P y
  |_,_,.nil,y,h=>by cases h
  | _, _, .cons r t, y, h => by
    rcases List.mem_cons.mp h with h|h
    ·rw[h];exact r
    ·exact F7 t y h
theorem DJ{lo:Int}{n:Nat}:(Hi lo n).length=n:=by simp[Hi]
end
def Ok(G B:Nat)(r:Rat):Prop:=∃z:Nat,r*(G:Rat)=(z:Rat)/\z≤B
theorem Kl{n:Nat}(h:0<n):(n:Rat)≠0:=by
 have:n≠0:=by omega
 exact_mod_cast this
theorem Ok.sz{G B k:Nat}{r:Rat}(h:Ok G B r)(hG:0<G)(g:G<2^k)(b:B<2^k):Sz k r:=by
 obtain⟨z,e,hz⟩:=h
 have e2:r=((z:Int):Rat) / ((G:Int):Rat):=by
  have:=Kl hG
  rw[show(((z:Nat):Int):Rat)=(z:Rat)from rfl,show(((G:Nat):Int):Rat)=(G:Rat)from rfl,←e]
  grind
 rw[e2]
 exact Kn (by omega) (by simpa using Nat.lt_of_le_of_lt hz b) (by simpa using g)
theorem Ok.up{G B t B':Nat}{r:Rat}(h:Ok G B r)(hB:B*t≤B'):Ok (G*t) B' r:=by
 obtain⟨z,e,hz⟩:=h
 refine⟨z*t,?_,Nat.le_trans (Nat.mul_le_mul_right t hz) hB⟩
 push_cast
 rw[←e]
 grind
theorem Ok.zero{G B:Nat}:Ok G B 0:=⟨0,by simp,Nat.zero_le _⟩
theorem Ok.one{G B:Nat}(h:G≤B):Ok G B 1:=⟨G,by simp,h⟩
theorem Ok.mix{G B a b t:Nat}{r o:Rat}(hr:Ok G B r)(ho:Ok G B o)(ht:a+b=t)(h0:0<t):Ok (G*t) (B*t) ((r*(a:Rat)+o*(b:Rat)) / (t:Rat)):=by
 obtain⟨z,e1,h1⟩:=hr
 obtain⟨y,e2,h2⟩:=ho
 refine⟨z*a+y*b,?_,?_⟩
 ·have:=Kl h0
  push_cast
  rw[←e1,←e2]
  grind
 ·rw[←ht,Nat.mul_add]
  exact Nat.add_le_add (Nat.mul_le_mul_right a h1) (Nat.mul_le_mul_right b h2)
structure Tr where
 p:Nat
 k:Nat
 b:Nat
 ho:List Rat
 h:Int
 l:Int
structure Ld where
 k:Nat
 n:Int
 ow:List Rat
structure Stt where
 loads:List Ld
 hold:List Rat
 nums:List Int
inductive Ah where
 |bring (p k:Nat) (n:Int)
 |pool (a b:Nat)
 |swap (l:Nat) (g:Int) (k:Nat) (n:Int)
 |trade (t:Int) (l:Nat) (g:Int) (k:Nat) (n:Int)
 |spoil (l:Nat) (n:Int)
 |thr (l:Nat) (n:Int) (ws:List Int)
 |sell (p q:Nat) (s:Rat)
noncomputable def shD(rs:List Rat):D:=.tup (rs.map aD)
noncomputable def Tr.d(t:Tr):D:=.tup [.int t.p,.int t.k,.int t.b,shD t.ho,.int t.h,.int t.l]
noncomputable def Ld.d(l:Ld):D:=.tup [.int l.k,.int l.n,shD l.ow]
noncomputable def Ah.d:Ah->D
 | .bring p k n=>.tup [.str "bring",.int p,.int k,.int n]
 | .pool a b=>.tup [.str "pool",.int a,.int b]
 | .swap l g k n=>.tup [.str "swap",.int l,.int g,.int k,.int n]
 | .trade t l g k n=>.tup [.str "trade",.int t,.int l,.int g,.int k,.int n]
 | .spoil l n=>.tup [.str "spoil",.int l,.int n]
 | .thr l n ws=>.tup [.str "throw",.int l,.int n,.tup (ws.map .int)]
 | .sell p q s=>.tup [.str "sell",.int p,.int q,aD s]
noncomputable def IE(x:Rat)(os ss:List Rat):List Rat:=List.zipWith (fun s o=>s*(1-x)+o*x) ss os
noncomputable def HE(p q:Nat)(s:Rat)(ss:List Rat):List Rat:=(ss.set p (ss.getD p 0-ss.getD p 0*s)).set q (ss.getD q 0+ss.getD p 0*s)
noncomputable def Dh(n m:Int)(ss os:List Rat):List Rat:=List.zipWith (fun s o=>(s*n+o*m) / (n+m:Int)) ss os
noncomputable def Dy(t:Tr)(ls:List Ld)(ws:List Int):Int:=(ls.map fun l=>l.n*ws.getD l.k 0).sum+t.b*ws.getD t.k 0
noncomputable def Ji(t:Tr)(ls:List Ld)(l:Nat)(n:Int)(ws:List Int):Rat:=((n*ws.getD ((ls[l]?.map (·.k)).getD 0) 0:Int):Rat) / (Dy t ls ws:Rat)
noncomputable def AO(ls:List Ld)(l:Nat):Ld:=ls.getD l ⟨0,0,[]⟩
noncomputable def less(ls:List Ld)(l:Nat)(n:Int):List Ld:=ls.set l {AO ls l with n:=(AO ls l).n-n}
noncomputable def TH(p i:Nat):List Rat:=(List.range p).map fun j=>if j=i then 1 else 0
noncomputable def step(t:Tr)(s:Stt):Ah->Stt
 | .bring p k n=>{s with loads:=s.loads++[⟨k,n,TH t.p p⟩]}
 | .pool a b=>{s with loads:=less (less s.loads a (AO s.loads a).n) b (AO s.loads b).n++[⟨(AO s.loads a).k,(AO s.loads a).n+(AO s.loads b).n,Dh (AO s.loads a).n (AO s.loads b).n (AO s.loads a).ow (AO s.loads b).ow⟩]}
 | .swap l g k n=>{s with loads:=less s.loads l g++[⟨k,n,(AO s.loads l).ow⟩]}
 | .trade u l g k n=>{s with loads:=less s.loads l g++[⟨k,n,(AO s.loads l).ow⟩],nums:=s.nums++[u]}
 | .spoil l n=>{s with loads:=less s.loads l n}
 | .thr l n ws=>{s with loads:=(less s.loads l n).map fun x=>{x with ow:=IE (Ji t s.loads l n ws) (AO s.loads l).ow x.ow},hold:=IE (Ji t s.loads l n ws) (AO s.loads l).ow s.hold}
 | .sell p q x=>{s with loads:=s.loads.map fun y=>{y with ow:=HE p q x y.ow},hold:=HE p q x s.hold}
def J6(t:Tr):Prop:=1≤t.p/\t.p≤4/\1≤t.k/\t.k≤5/\1≤t.b/\t.b≤20
def Can(t:Tr)(s:Stt):Ah->Prop
 | .bring p k n=>p<t.p/\k<t.k/\1≤n/\n<2^131
 | .pool a b=>a≠b/\a<s.loads.length/\b<s.loads.length/\0<(AO s.loads a).n/\0<(AO s.loads b).n/\(AO s.loads a).k=(AO s.loads b).k
 | .swap l g k n=>l<s.loads.length/\1≤g/\g≤(AO s.loads l).n/\k<t.k/\k≠(AO s.loads l).k/\1≤n/\n<2^131
 | .trade u l g k n=>l<s.loads.length/\1≤g/\g≤(AO s.loads l).n/\k<t.k/\k≠(AO s.loads l).k/\1≤n/\n<2^131/\u∉s.nums/\0≤u/\u≤9
 | .spoil l n=>l<s.loads.length/\1≤n/\n≤(AO s.loads l).n
 | .thr l n ws=>l<s.loads.length/\1≤n/\n≤(AO s.loads l).n/\ws.length=t.k+1/\∀w∈ws,1≤w/\w≤99
 | .sell p q x=>p≠q/\p<t.p/\q<t.p/\0<x.num/\x.num≤x.den/\x.den≤12
structure FP(t:Tr)(k:Nat)(s:Stt):Prop where
 len:s.loads.length≤4+k
 kind:∀l∈s.loads,l.k<t.k
 pcs:∀l∈s.loads,0≤l.n/\l.n<2^(131+k)
 own:∀l∈s.loads,l.ow.length=t.p
 hold:s.hold.length=t.p
 nm:s.nums.length≤k
 gb:∃G B:Nat,0<G/\G≤B/\B<2^(30+170*k)/\(∀l∈s.loads,∀r∈l.ow,Ok G B r)/\∀r∈s.hold,Ok G B r
theorem FP.sz{t:Tr}{k:Nat}{s:Stt}(h:FP t k s):(∀l∈s.loads,∀r∈l.ow,Sz (30+170*k) r)/\∀r∈s.hold,Sz (30+170*k) r:=by
 obtain⟨G,B,g0,gb,b,h1,h2⟩:=h.gb
 exact⟨fun l hl r hr=>(h1 l hl r hr).sz g0 (Nat.lt_of_le_of_lt gb b) b,fun r hr=>(h2 r hr).sz g0 (Nat.lt_of_le_of_lt gb b) b⟩
theorem BU{ls:List Ld}{l:Nat}(h:l<ls.length):AO ls l∈ls:=by
 unfold AO
 rw[List.getD_eq_getElem?_getD,List.getElem?_eq_getElem h]
 exact List.getElem_mem h
theorem F5{ls:List Ld}{l:Nat}(h:l<ls.length):ls[l]?=some (AO ls l):=by
 unfold AO
 rw[List.getD_eq_getElem?_getD,List.getElem?_eq_getElem h]
 rfl
theorem Lj{ls:List Ld}{l:Nat}{n:Int}{x:Ld}(h:x∈less ls l n)(hl:l<ls.length):x∈ls∨x={AO ls l with n:=(AO ls l).n-n}:=by
 unfold less at h
 rcases List.mem_or_eq_of_mem_set h with h|h
 ·exact .inl h
 ·exact .inr h
theorem C2{ls:List Ld}{l:Nat}{n:Int}:(less ls l n).length=ls.length:=by simp[less]
section
variable{S:Sto}{p:Nat}
theorem Nd{P:Int->Prop}:∀{ys:List D},(∀y∈ys,∃i:Int,y=.int i/\P i)->∃ns:List Int,ys=ns.map D.int/\∀n∈ns,P n
  | [],_=>⟨[],rfl,fun n h=>by cases h⟩
  | y :: ys, h => by
    obtain⟨i,rfl,hi⟩:=h y List.mem_cons_self
    obtain⟨ns,rfl,hn⟩:=Nd (P:=P) (ys:=ys) fun z hz=>h z (List.mem_cons_of_mem _ hz)
    exact⟨i::ns,rfl,fun n hn'=>by
      rcases List.mem_cons.mp hn' with e|e
      ·rw[e];exact hi
      ·exact hn n e⟩
theorem Ls{ns:List Int}(h:∀n∈ns,0≤n/\n≤8):0≤ns.sum/\ns.sum≤8*ns.length/\∀n∈ns,n≤ns.sum:=by
  induction ns with
  |nil=>simp
  | cons a l ih =>
    have h1:=h a List.mem_cons_self
    obtain⟨i1,i2,i3⟩:=ih fun n hn=>h n (List.mem_cons_of_mem _ hn)
    rw[List.sum_cons,List.length_cons]
    refine⟨by omega,by push_cast;omega,fun n hn=>?_⟩
    rcases List.mem_cons.mp hn with e|e
    ·omega
    ·have:=i3 n e;omega
theorem ON(h:Dc p S){n:Nat}(hn:n≤20):∃(ns:List Int) (S':Sto),Bj [] (tNm 1) BH (eOp (o2 wIx) [(D9 [(eC (.int 0)),(eC (.int 1)),(AM AG [(eV 0),(eC (.int 4))]),(AM AG [(eV 0),(eC (.int 9))])]),(AM AG [(eV 0),(eC (.int 4))])]) (Hi 0 n) [] [some (.ref p),none] S=some (ns.map D.int,S')/\Pn p S S'/\ns.length=n/\∀i∈ns,0≤i/\i≤8:=by
 obtain⟨ys,S',e,hI,l,r⟩:=IH (gs:=[]) (t:=tNm 1) (f:=eOp (o2 wIx) [(D9 [(eC (.int 0)),(eC (.int 1)),(AM AG [(eV 0),(eC (.int 4))]),(AM AG [(eV 0),(eC (.int 9))])]),(AM AG [(eV 0),(eC (.int 4))])]) (C:=[some (.ref p)]) (m:=1) (I:=Pn p S) (R:=fun _ y=>∃i:Int,y=.int i/\0≤i/\i≤8)
  (fun _ _=>Ao) (ds:=Hi 0 n) (acc:=[]) (os:=[none]) rfl (Pn.refl h) (by rw[DJ];simp;exact AN (by omega)) fun d _ os S0 ho I0=>by
   obtain⟨o,rfl⟩:∃o,os=[o]:=by
    match os,ho with
    | [o],_=>exact⟨o,rfl⟩
   obtain⟨r1,S1,e1,a1,b1,p1⟩:=Ag I0.pen (n:=4) (by decide) (by decide)
   obtain⟨r2,S2,e2,a2,b2,p2⟩:=Ag p1.pen (n:=9) (by decide) (by decide)
   obtain⟨r3,S3,e3,a3,b3,p3⟩:=Ag p2.pen (n:=4) (by decide) (by decide)
   obtain⟨x,ex,hx⟩:=pick (xs:=[.int 0,.int 1,.int r1,.int r2]) (r:=r3) a3 (by simpa using b3)
   refine⟨[some d],x,S3,rfl,by simp,by simp[e1,e2,e3,ex],((I0.trans p1).trans p2).trans p3,?_⟩
   simp only[List.mem_cons,List.not_mem_nil,or_false]at hx
   rcases hx with rfl|rfl|rfl|rfl
   ·exact⟨0,rfl,by decide,by decide⟩
   ·exact⟨1,rfl,by decide,by decide⟩
   ·exact⟨r1,rfl,by omega,by omega⟩
   ·exact⟨r2,rfl,by omega,by omega⟩
 obtain⟨ns,rfl,hns⟩:=Nd (F7 r)
 exact⟨ns,S',by simpa using e,hI,by simpa[DJ]using l,hns⟩
noncomputable def GP(ns:List Int):List Rat:=ns.map fun(n:Int)=>(n:Rat) / (ns.sum:Rat)
theorem Ik{ns:List Int}(h:∀n∈ns,0≤n/\n≤8)(hs:0<ns.sum):∀r∈GP ns,Ok ns.sum.toNat ns.sum.toNat r:=by
 intro r hr
 obtain⟨n,hn,rfl⟩:=List.mem_map.mp hr
 have h1:=h n hn
 have h2:=(Ls h).2.2 n hn
 refine⟨n.toNat,?_,by omega⟩
 have e1:((ns.sum.toNat:Nat):Rat)=(ns.sum:Rat):=by
  have:((ns.sum.toNat:Nat):Int)=ns.sum:=by omega
  exact congrArg (fun z:Int=>(z:Rat)) this
 have e2:((n.toNat:Nat):Rat)=(n:Rat):=by
  have:((n.toNat:Nat):Int)=n:=by omega
  exact congrArg (fun z:Int=>(z:Rat)) this
 rw[e1,e2]
 have:(ns.sum:Rat)≠0:=by
  intro z
  have:=Rat.intCast_eq_zero_iff.mp z
  omega
 grind
theorem QA{s:Rat}:∀{ns:List Int},(ns.map fun(n:Int)=>(n:Rat) / s).sum=(ns.sum:Rat) / s
  | []=>by simp;grind
  | n :: ns => by
    rw[List.map_cons,List.sum_cons,List.sum_cons,QA (ns:=ns)]
    push_cast
    grind
theorem Mg{ns:List Int}(hs:0<ns.sum):(GP ns).sum=1:=by
 unfold GP
 rw[QA]
 have:(ns.sum:Rat)≠0:=by
  intro z
  have:=Rat.intCast_eq_zero_iff.mp z
  omega
 grind
theorem Nl{ns:List Int}{q:Nat}(hq:S[q]?=some (.lst (ns.map D.int)))(hl:ns.length≤20)(hn:∀n∈ns,0≤n/\n≤8)(hs:0<ns.sum):
  Bj [(q,ns.map D.int)] (tNm 1) BH (AM Bh [(eV 1),(eOp (o1 OO) [(eV 0)])]) (ns.map D.int) [] [some (.ref q),none] S=some ((GP ns).map aD,S):=by
 obtain⟨s1,s2,s3⟩:=Ls hn
 have:=comp_map (gs:=[(q,ns.map D.int)]) (t:=tNm 1) (f:=AM Bh [(eV 1),(eOp (o1 OO) [(eV 0)])]) (C:=[some (.ref q)]) (m:=1) (g:=fun d=>match d with| .int n=>aD ((n:Rat) / (ns.sum:Rat))|d=>d) (S:=S) (fun g hg=>by rw[List.mem_singleton.mp hg];exact AR hq) (ds:=ns.map D.int) (acc:=[]) (os:=[none]) rfl (by simp;exact AN (by omega)) fun d hd os ho=>by
   obtain⟨o,rfl⟩:∃o,os=[o]:=by
    match os,ho with
    | [o],_=>exact⟨o,rfl⟩
   obtain⟨i,hi,rfl⟩:=List.mem_map.mp hd
   have m:=To (S:=S) (t:=i) hs (DY (by omega) (by omega))
   exact⟨[some (.int i)],rfl,by simp,by simp[AX hq,DV,m]⟩
 have e2:(ns.map D.int).map (fun d=>match d with| .int n=>aD ((n:Rat) / (ns.sum:Rat))|d=>d)=(GP ns).map aD:=by
  unfold GP
  rw[List.map_map,List.map_map]
  rfl
 rw[e2]at this
 simpa using this
theorem OC(h:Dc p S){n:Nat}(h1:1≤n)(h2:n≤4):∃rs S',Cj [.ref p,.int n] S=some (shD rs,S')/\Pn p S S'/\(rs.length=n/\rs.sum=1)/\∃G:Nat,0<G/\G≤32/\∀r∈rs,Ok G G r:=by
 obtain⟨ns,S1,e1,p1,l1,i1⟩:=ON (n:=n) h (by omega)
 obtain⟨s1,s2,s3⟩:=Ls i1
 have hq:(S1++[Cl.lst (ns.map D.int)])[S1.length]?=some (.lst (ns.map D.int)):=List.getElem?_concat_length
 have pp:Dc p (S1++[Cl.lst (ns.map D.int)]):=p1.pen.app _
 have hlt:=p1.pen.lt
 have r1:GD (n:Int)=true:=Ce (by omega) (by omega)
 by_cases hz:ns.sum=0
 ·obtain⟨r,S2,e2,a2,b2,p2⟩:=Ag pp (n:=n) (by omega) (by omega)
  have hq2:S2[S1.length]?=some (.lst (ns.map D.int)):=p2.get hq (by omega)
  have hn':∀x∈ns.set r.toNat 1,0≤x/\x≤8:=fun x hx=>by
   rcases List.mem_or_eq_of_mem_set hx with hx|rfl
   ·exact i1 x hx
   ·exact⟨by decide,by decide⟩
  have hs':0<(ns.set r.toNat 1).sum:=by
   have:=(Ls hn').2.2 1 (List.mem_set (by omega) 1)
   omega
  have hq3:(S2.set S1.length (.lst ((ns.set r.toNat 1).map D.int)))[S1.length]?=some (.lst ((ns.set r.toNat 1).map D.int)):=List.getElem?_set_self (Ac hq2)
  have e3:=Nl hq3 (by simp;omega) hn' hs'
  have ix:ixN ns.length r=some r.toNat:=N7 a2 (by omega)
  refine⟨GP (ns.set r.toNat 1),S2.set S1.length (.lst ((ns.set r.toNat 1).map D.int)),?_,⟨?_,?_⟩,⟨by simp[GP,l1],Mg hs'⟩,_,(show 0<(ns.set r.toNat 1).sum.toNat by omega),?_,Ik hn' hs'⟩
  ·have sq3:=D8 hq3
   rw[List.map_set]at e3 sq3 hq3
   simp[Cj,Gb,r1,e1,AX hq,DV,hz,e2,AR hq2,ix,sq3,e3,shD]
  ·have g:Df [p] S (S1++[Cl.lst (ns.map D.int)]):=p1.same.trans .app
   refine⟨Nat.le_trans (g.trans p2.same).len (by simp),fun m hm hmp=>?_⟩
   rw[List.getElem?_set_ne (by have:=p1.same.len;omega)]
   exact(g.trans p2.same).keep m hm hmp
  ·obtain⟨ds,ed,hd⟩:=p2.pen
   exact⟨ds,by rw[List.getElem?_set_ne (by omega)];exact ed,hd⟩
  ·have:=(Ls hn').2.1
   rw[List.length_set]at this
   omega
 ·have hz':(ns.sum==0)=false:=by simpa using hz
  have e3:=Nl hq (by omega) i1 (by omega)
  refine⟨GP ns,S1++[Cl.lst (ns.map D.int)],?_,⟨p1.same.trans .app,pp⟩,⟨by simp[GP,l1],Mg (by omega)⟩,_,(show 0<ns.sum.toNat by omega),by omega,Ik i1 (by omega)⟩
  have sq3:=D8 hq
  simp[Cj,Gb,r1,e1,AX hq,DV,hz',sq3,e3,shD]
end
section
variable{S:Sto}{p:Nat}
theorem VQ:(2:Nat)<FT:=DY (n:=2) (by decide) (by decide)
theorem HI(h:Dc p S):∃n S',BE [.ref p] S=some (.int n,S')/\Pn p S S'/\1≤n/\n<2^131:=by
  obtain⟨r1,S1,e1,a1,b1,p1⟩:=Ag h (n:=99) (by decide) (by decide)
  obtain⟨r2,S2,e2,a2,b2,p2⟩:=Ag p1.pen (n:=4) (by decide) (by decide)
  obtain⟨r3,S3,e3,a3,b3,p3⟩:=Ag p2.pen (n:=40) (by decide) (by decide)
  obtain⟨r4,S4,e4,a4,b4,p4⟩:=Ag p3.pen (n:=999) (by decide) (by decide)
  obtain⟨r5,S5,e5,a5,b5,p5⟩:=Ag p4.pen (n:=7) (by decide) (by decide)
  have pp:=(((p1.trans p2).trans p3).trans p4).trans p5
  have d2:=VQ
  have go:∀g:Int,1≤g->g<2^131->∃n:Int,atI [D.int (1+r2),.int (1+r3),.int (1+r4),.int g] (r5 / 2)=some (.int n)/\1≤n/\n<2^131:=fun g g1 g2=>by
    obtain⟨x,ex,hx⟩:=pick (xs:=[D.int (1+r2),.int (1+r3),.int (1+r4),.int g]) (r:=r5 / 2) (by omega) (by simp;omega)
    simp only[List.mem_cons,List.not_mem_nil,or_false]at hx
    rcases hx with rfl|rfl|rfl|rfl
    ·exact⟨_,ex,by omega,by omega⟩
    ·exact⟨_,ex,by omega,by omega⟩
    ·exact⟨_,ex,by omega,by omega⟩
    ·exact⟨_,ex,g1,g2⟩
  first
    | (obtain ⟨n, en, n1, n2⟩ := go (10 ^ 39 + r1) (by omega) (by omega)
       exact⟨n,S5,by simp[BE,FX,e1,e2,e3,e4,e5,d2]at en ⊢; simp[en],pp,n1,n2⟩)
    | (obtain ⟨n, en, n1, n2⟩ := go (10 ^ 30 + r1) (by omega) (by omega)
       exact⟨n,S5,by simp[BE,FX,e1,e2,e3,e4,e5,d2]at en ⊢; simp[en],pp,n1,n2⟩)
theorem Dk{r:Int}(h:0≤r):∃m:Nat,r=m:=⟨r.toNat,by omega⟩
theorem R8(h:Dc p S):∃t S',Er [.ref p] S=some (Tr.d t,S')/\Pn p S S'/\J6 t/\(t.ho.length=t.p/\t.ho.sum=1)/\∃G:Nat,0<G/\G≤32/\∀r∈t.ho,Ok G G r:=by
 obtain⟨r1,S1,e1,a1,b1,p1⟩:=Ag h (n:=4) (by decide) (by decide)
 obtain⟨r2,S2,e2,a2,b2,p2⟩:=Ag p1.pen (n:=5) (by decide) (by decide)
 obtain⟨r3,S3,e3,a3,b3,p3⟩:=Ag p2.pen (n:=3) (by decide) (by decide)
 obtain⟨r4,S4,e4,a4,b4,p4⟩:=Ag p3.pen (n:=20) (by decide) (by decide)
 obtain⟨r5,S5,e5,a5,b5,p5⟩:=Ag p4.pen (n:=2) (by decide) (by decide)
 obtain⟨m1,rfl⟩:=Dk a1
 obtain⟨m2,rfl⟩:=Dk a2
 obtain⟨b,eb,hb1,hb2⟩:∃b:Nat,atI [D.int (1+r3),.int (1+r4)] r5=some (.int b)/\1≤b/\b≤20:=by
  obtain⟨x,ex,hx⟩:=pick (xs:=[D.int (1+r3),.int (1+r4)]) (r:=r5) a5 (by simpa using b5)
  obtain⟨m3,rfl⟩:=Dk a3
  obtain⟨m4,rfl⟩:=Dk a4
  simp only[List.mem_cons,List.not_mem_nil,or_false]at hx
  rcases hx with rfl|rfl
  ·exact⟨1+m3,by rw[ex];simp,by omega,by omega⟩
  ·exact⟨1+m4,by rw[ex];simp,by omega,by omega⟩
 obtain⟨rs,S6,e6,p6,l6,G,g0,g1,g2⟩:=OC p5.pen (n:=1+m1) (by omega) (by omega)
 obtain⟨r7,S7,e7,a7,b7,p7⟩:=Ag p6.pen (n:=10) (by decide) (by decide)
 obtain⟨r8,S8,e8,a8,b8,p8⟩:=Ag p7.pen (n:=10) (by decide) (by decide)
 rw[show((1+m1:Nat):Int)=1+(m1:Int) by omega]at e6
 refine⟨⟨1+m1,1+m2,b,rs,r7,r8⟩,S8,?_,((((((p1.trans p2).trans p3).trans p4).trans p5).trans p6).trans p7).trans p8,⟨by simp,by simp;omega,by simp,by simp;omega,hb1,hb2⟩,l6,G,g0,g1,g2⟩
 simp[Er,JK,e1,e2,e3,e4,e5,eb,e6,e7,e8,Tr.d]
theorem Rn(h:Dc p S):∃x S',D4 [.ref p] S=some (aD x,S')/\Pn p S S'/\0<x.num/\x.num≤x.den/\x.den≤12:=by
 obtain⟨r1,S1,e1,a1,b1,p1⟩:=Ag h (n:=12) (by decide) (by decide)
 obtain⟨r2,S2,e2,a2,b2,p2⟩:=Ag p1.pen (n:=1+r1) (by omega) (by omega)
 have m:=To (S:=S2) (t:=1+r2) (b:=1+r1) (by omega) (DY (by omega) (by omega))
 obtain⟨m1,rfl⟩:=Dk a1
 obtain⟨m2,rfl⟩:=Dk a2
 have rp:=JX (1+(m2:Int)) (1+m1) (by omega)
 have eb:(((1+(m1:Int):Int)):Rat)=(((1+m1:Nat)):Rat):=by
  have:(1+(m1:Int))=((1+m1:Nat):Int):=by omega
  rw[this];rfl
 have en:(1+(m2:Int)).natAbs=1+m2:=by omega
 have gp:0<Nat.gcd (1+m2) (1+m1):=Nat.gcd_pos_of_pos_left _ (by omega)
 obtain⟨q,hq⟩:=Nat.gcd_dvd_left (1+m2) (1+m1)
 obtain⟨q',hq'⟩:=Nat.gcd_dvd_right (1+m2) (1+m1)
 refine⟨((1+(m2:Int):Int):Rat) / ((1+(m1:Int):Int):Rat),S2,?_,p1.trans p2,?_,?_,?_⟩
 ·simp[D4,Ja,e1,e2,m]
 ·rw[eb,rp.1,en]
  generalize Nat.gcd (1+m2) (1+m1)=g at*
  have:(1+(m2:Int))=((g*q:Nat):Int):=by omega
  rw[this,Int.natCast_mul,Int.mul_ediv_cancel_left _ (by omega)]
  have:q≠0:=fun z=>by subst z;omega
  omega
 ·rw[eb,rp.1,rp.2,en]
  generalize Nat.gcd (1+m2) (1+m1)=g at*
  have t1:(1+(m2:Int))=((g*q:Nat):Int):=by omega
  rw[t1,Int.natCast_mul,Int.mul_ediv_cancel_left _ (by omega),hq',Nat.mul_div_cancel_left _ gp]
  have:q≤q':=by
   have:g*q≤g*q':=by omega
   exact Nat.le_of_mul_le_mul_left this gp
  omega
 ·rw[eb,rp.2]
  exact Nat.le_trans (Nat.div_le_self _ _) (by omega)
theorem Ov(h:Dc p S){n:Nat}(hn:n≤6):∃(ws:List Int) (S':Sto),Ct [.ref p,.int n] S=some (.tup (ws.map .int),S')/\Pn p S S'/\ws.length=n/\∀w∈ws,1≤w/\w≤99:=by
 obtain⟨ys,S',e,hI,l,r⟩:=IH (gs:=[]) (t:=tNm 1) (f:=(eOp (o2 A4) [(eC (.int 1)),(eOp (o2 wIx) [(D9 [(AM AG [(eV 0),(eC (.int 3))]),(AM AG [(eV 0),(eC (.int 99))])]),(AM AG [(eV 0),(eC (.int 2))])])])) (C:=[some (.ref p)]) (m:=1) (I:=Pn p S) (R:=fun _ y=>∃i:Int,y=.int i/\1≤i/\i≤99)
  (fun _ _=>Ao) (ds:=Hi 0 n) (acc:=[]) (os:=[none]) rfl (Pn.refl h) (by rw[DJ];simp;exact AN (by omega)) fun d _ os S0 ho I0=>by
   obtain⟨o,rfl⟩:∃o,os=[o]:=by
    match os,ho with
    | [o],_=>exact⟨o,rfl⟩
   obtain⟨r1,S1,e1,a1,b1,p1⟩:=Ag I0.pen (n:=3) (by decide) (by decide)
   obtain⟨r2,S2,e2,a2,b2,p2⟩:=Ag p1.pen (n:=99) (by decide) (by decide)
   obtain⟨r3,S3,e3,a3,b3,p3⟩:=Ag p2.pen (n:=2) (by decide) (by decide)
   obtain⟨x,ex,hx⟩:=pick (xs:=[.int r1,.int r2]) (r:=r3) a3 (by simpa using b3)
   simp only[List.mem_cons,List.not_mem_nil,or_false]at hx
   rcases hx with rfl|rfl
   ·exact⟨[some d],.int (1+r1),S3,rfl,by simp,by simp[e1,e2,e3,ex],((I0.trans p1).trans p2).trans p3,_,rfl,by omega,by omega⟩
   ·exact⟨[some d],.int (1+r2),S3,rfl,by simp,by simp[e1,e2,e3,ex],((I0.trans p1).trans p2).trans p3,_,rfl,by omega,by omega⟩
 obtain⟨ns,rfl,hns⟩:=Nd (F7 r)
 have r1:GD (n:Int)=true:=Ce (by omega) (by omega)
 have e':Bj [] (tNm 1) BH (eOp (o2 A4) [(eC (.int 1)),(eOp (o2 wIx) [(D9 [(AM AG [(eV 0),(eC (.int 3))]),(AM AG [(eV 0),(eC (.int 99))])]),(AM AG [(eV 0),(eC (.int 2))])])]) (Hi 0 n) [] [some (.ref p),none] S=some (ns.map D.int,S'):=by simpa using e
 exact⟨ns,S',by simp[Ct,Hv,r1,e'],hI,by simpa[DJ]using l,hns⟩
def Eu(t:Tr)(ls:List Ld):Prop:=(∀l∈ls,l.k<t.k/\1≤l.n/\l.n<2^131/\l.ow.length=t.p/\l.ow.sum=1)/\∃G:Nat,0<G/\G≤32^ls.length/\∀l∈ls,∀r∈l.ow,Ok G G r
theorem Eu.snoc{t:Tr}{ls:List Ld}{l:Ld}(h:Eu t ls)(h1:l.k<t.k/\1≤l.n/\l.n<2^131/\l.ow.length=t.p/\l.ow.sum=1){g:Nat}(g0:0<g)(g1:g≤32)(g2:∀r∈l.ow,Ok g g r):Eu t (ls++[l]):=by
 obtain⟨ha,G,G0,G1,G2⟩:=h
 refine⟨fun x hx=>?_,G*g,Nat.mul_pos G0 g0,?_,fun x hx r hr=>?_⟩
 ·rcases List.mem_append.mp hx with hx|hx
  ·exact ha x hx
  ·rw[List.mem_singleton.mp hx];exact h1
 ·rw[List.length_append,List.length_singleton,Nat.pow_succ]
  exact Nat.mul_le_mul G1 g1
 ·rcases List.mem_append.mp hx with hx|hx
  ·exact(G2 x hx r hr).up (Nat.le_refl _)
  ·rw[List.mem_singleton.mp hx]at hr
   have:=(g2 r hr).up (t:=G) (B':=G*g) (by rw[Nat.mul_comm];exact Nat.le_refl _)
   rwa [Nat.mul_comm g G]at this
end
section
variable{S:Sto}{p:Nat}
theorem Eu.nil{t:Tr}:Eu t []:=⟨fun l hl=>(nomatch hl),1,by decide,by simp,fun l hl=>(nomatch hl)⟩
theorem RW(h:Dc p S){t:Tr}(ht:J6 t):∃(ls:List Ld) (S':Sto),E9 [.ref p,t.d] S=some (.tup (ls.map Ld.d),S')/\Pn p S S'/\Eu t ls/\ls.length≤4:=by
 obtain⟨t1,t2,t3,t4,t5,t6⟩:=ht
 have hlt:=h.lt
 have hq:(S++[Cl.lst []])[S.length]?=some (.lst []):=List.getElem?_concat_length
 obtain⟨r1,S1,e1,a1,b1,p1⟩:=Ag (h.app [Cl.lst []]) (n:=5) (by decide) (by decide)
 obtain⟨r2,S2,e2,a2,b2,p2⟩:=Ag p1.pen (n:=3) (by decide) (by decide)
 obtain⟨n,en,hn⟩:∃n:Nat,atI [D.int 0,.int 1,.int r1] r2=some (.int n)/\n≤4:=by
  obtain⟨x,ex,hx⟩:=pick (xs:=[D.int 0,.int 1,.int r1]) (r:=r2) a2 (by simpa using b2)
  simp only[List.mem_cons,List.not_mem_nil,or_false]at hx
  rcases hx with rfl|rfl|rfl
  ·exact⟨0,ex,by decide⟩
  ·exact⟨1,ex,by decide⟩
  ·exact⟨r1.toNat,by rw[ex,Int.toNat_of_nonneg a1],by omega⟩
 have q2:S2[S.length]?=some (.lst []):=(p1.trans p2).get hq (by omega)
 have rn:GD (n:Int)=true:=Ce (by omega) (by omega)
 obtain⟨E',S',ef,ls,o,rfl,f1,f2,f3,f4,f5⟩:=Fz (gs:=[]) (t:=tNm 3) (b:=Dx (Lo MC (eV 2) [(B4 [(AM AG [(eV 0),(eOp (o2 wIx) [(eV 1),(eC (.int 1))])]),(AM BE [(eV 0)]),(AM Cj [(eV 0),(eOp (o2 wIx) [(eV 1),(eC (.int 0))])])])]))
  (I:=fun ds E S'=>∃(ls:List Ld) (o:Option D),E=[some (.ref p),some t.d,some (.ref S.length),o]/\S'[S.length]?=some (.lst (ls.map Ld.d))/\Dc p S'/\Df [p] S S'/\Eu t ls/\ls.length+ds.length≤4)
  (fun _ _ _ _=>Ao) (ds:=Hi 0 n) (E:=[some (.ref p),some t.d,some (.ref S.length),none]) (S:=S2)
  ⟨[],none,rfl,q2,p2.pen,(Df.app.trans (p1.trans p2).same),Eu.nil,by simp[DJ];exact hn⟩ (by
   rintro d ds E S0 ⟨ls,o,rfl,i1,i2,i3,i4,i5⟩
   obtain⟨x1,T1,g1,c1,d1,k1⟩:=Ag i2 (n:=t.k) (by omega) (by omega)
   obtain⟨x2,T2,g2,k2,c2,d2⟩:=HI k1.pen
   obtain⟨rs,T3,g3,k3,l3,G,G0,G1,G2⟩:=OC k2.pen (n:=t.p) t1 t2
   obtain⟨m1,rfl⟩:=Dk c1
   have kk:=(k1.trans k2).trans k3
   have j1:T3[S.length]?=some (.lst (ls.map Ld.d)):=kk.get i1 (by omega)
   have hz:ls.length<sizeLine:=Nat.lt_of_lt_of_le (show ls.length<5 by omega) (AN (by decide))
   refine⟨[some (.ref p),some t.d,some (.ref S.length),some d],[some (.ref p),some t.d,some (.ref S.length),some d],T3.set S.length (.lst ((ls++[Ld.mk m1 x2 rs]).map Ld.d)),by simp,?_,ls++[Ld.mk m1 x2 rs],some d,rfl,List.getElem?_set_self (Ac j1),?_,?_,i4.snoc (l:=Ld.mk m1 x2 rs) ⟨show m1<t.k by omega,c2,d2,l3⟩ G0 G1 G2,by simp at i5 ⊢; omega⟩
   ·have e3:atI [D.int t.p,.int t.k,.int t.b,shD t.ho,.int t.h,.int t.l] 1=some (.int t.k):=by simp
    simp[Tr.d,g1,g2,g3,AR i1,AR j1,hz,Ld.d]
   ·obtain⟨ds',ed,hd⟩:=kk.pen
    exact⟨ds',by rw[List.getElem?_set_ne (by omega)];exact ed,hd⟩
   ·refine⟨Nat.le_trans (i3.trans kk.same).len (by simp),fun m hm hmp=>?_⟩
    rw[List.getElem?_set_ne (by omega)]
    exact(i3.trans kk.same).keep m hm hmp)
 refine⟨ls,S',?_,⟨f3,f2⟩,f4,by simpa using f5⟩
 simp[E9,JS,e1,e2,en,rn,ef,AX f1]
noncomputable def B1(x:Ld):Cl:=.lst [.int x.k,.int x.n,shD x.ow]
structure SAt(S:Sto)(s l m:Nat)(as:List Nat)(st:Stt):Prop where
 root:S[s]?=some (.lst [.ref l,shD st.hold,.ref m])
 lo:S[l]?=some (.lst (as.map .ref))
 nu:S[m]?=some (.lst (st.nums.map .int))
 ld:∀(i a:Nat) (x:Ld),as[i]?=some a->st.loads[i]?=some x->S[a]?=some (B1 x)
 len:as.length=st.loads.length
 nd:(s::l::m::as).Nodup
theorem UD:∀{ls:List Ld} {acc:List D} {o:Option D} {S:Sto},acc.length+ls.length≤100->Bj [] (tNm 0) BH (PN (o1 E7) [(eV 0)]) (ls.map Ld.d) acc [o] S=some (acc++(List.range' S.length ls.length).map D.ref,S++ls.map B1)
  | [],acc,o,S,h=>by rw[List.map_nil,DZ Ao];simp
  | x :: ls, acc, o, S, h => by
    rw[List.map_cons,Fc (E1:=[some x.d]) Ao (Nat.lt_of_lt_of_le (show acc.length<101 by simp at h;omega) (AN (by decide))) (by simp) Eg]
    have:PN (o1 E7) [(eV 0)] [some x.d] S=some (.ref S.length,S++[B1 x]):=by simp[Ld.d,B1]
    rw[this,A9,UD (by simp at h ⊢; omega)]
    simp[List.range'_succ]
theorem getElem?_at{α:Type}{xs:List α}{x:α}{n:Nat}(h:n=xs.length):(xs++[x])[n]?=some x:=by subst h;exact List.getElem?_concat_length
theorem N0{t:Tr}{ls:List Ld}{x:D}(hl:ls.length≤20):∃s l m as S',C6 [.tup [t.d,.tup (ls.map Ld.d),x]] S=some (.ref s,S')/\SAt S' s l m as ⟨ls,t.ho,[]⟩/\Df [] S S'/\(∀n∈s::l::m::as,S.length≤n):=by
 have e:=UD (ls:=ls) (acc:=[]) (o:=none) (S:=S) (by simp;omega)
 refine⟨S.length+ls.length+2,S.length+ls.length,S.length+ls.length+1,List.range' S.length ls.length,S++ls.map B1++[.lst ((List.range' S.length ls.length).map D.ref)]++[.lst []]++[.lst [.ref (S.length+ls.length),shD t.ho,.ref (S.length+ls.length+1)]],?_,⟨?_,?_,?_,?_,?_,?_⟩,?_,?_⟩
 ·simp[C6,JC,Tr.d,e,shD]
  omega
 ·exact getElem?_at (by simp;omega)
 ·rw[List.getElem?_append_left (by simp),List.getElem?_append_left (by simp)]
  exact getElem?_at (by simp)
 ·rw[List.getElem?_append_left (by simp;omega)]
  exact getElem?_at (by simp;omega)
 ·intro i a y ha hy
  have hi:i<ls.length:=(List.getElem?_eq_some_iff.mp hy).1
  have:a=S.length+i:=by
   rw[List.getElem?_range' hi]at ha
   simp at ha;omega
  subst this
  rw[List.getElem?_append_left (by simp;omega),List.getElem?_append_left (by simp;omega),List.getElem?_append_left (by simp;omega),List.getElem?_append_right (by omega)]
  have hy':ls[i]?=some y:=hy
  simp[hy']
 ·simp
 ·rw[List.nodup_cons,List.nodup_cons,List.nodup_cons]
  refine⟨?_,?_,?_,List.nodup_range'⟩
  ·simp only[List.mem_cons,List.mem_range'_1];omega
  ·simp only[List.mem_cons,List.mem_range'_1];omega
  ·simp only[List.mem_range'_1];omega
 ·rw[List.append_assoc,List.append_assoc,List.append_assoc]
  exact .app
 ·intro n hn
  simp only[List.mem_cons,List.mem_range'_1]at hn
  omega
end
section
variable{S:Sto}{p:Nat}
@[simp] theorem bL{rs:List Rat}{S:Sto}:sqD S (shD rs)=some (rs.map aD,[]):=nr rfl
@[simp] theorem ZR{S:Sto}{r:List D}:dr (S++[.lst r]) (.ref S.length)=.own r:=AX List.getElem?_concat_length
@[simp] theorem V7{S:Sto}{r:List D}:Dg (S++[.lst r]) S.length=some r:=AR List.getElem?_concat_length
theorem set_same{S:Sto}{q:Nat}{c:Cl}(h:S[q]?=some c):S.set q c=S:=by
 apply List.ext_getElem?
 intro i
 by_cases e:q=i
 ·subst e;rw[List.getElem?_set_self (Ac h),h]
 ·rw[List.getElem?_set_ne e]
theorem Mu{gs:Gd}{t:Tf}{b:Ex}{C:En}{m q:Nat}{h:D->D}{I:Sto->Prop}(hg:∀S,I S->gOk gs S)(hI:∀S c,I S->I (S.set q c)):∀{ds acc:List D} {os:En} {S:Sto},os.length=m->I S->S[q]?=some (.lst acc)->acc.length+ds.length≤1000->
    (∀d∈ds,∀os S acc,os.length=m->I S->S[q]?=some (.lst acc)->acc.length<sizeLine->∃us us',t d (C++os) S=some (C++us)/\b (C++us) S=some (.nx,C++us',S.set q (.lst (acc++[h d])))/\us'.length=m)->
    ∃os',os'.length=m/\Kj gs t b ds (C++os) S=some (.nx,C++os',S.set q (.lst (acc++ds.map h)))
  | [], acc, os, S, ho, hS, hq, hz, H => ⟨os, ho, by
      rw[OI (hg S hS)]
      have:S.set q (.lst (acc++List.map h []))=S:=by
        rw[List.map_nil,List.append_nil]
        exact set_same hq
      rw[this]⟩
  | d :: ds, acc, os, S, ho, hS, hq, hz, H => by
    have hl:=Ac hq
    obtain⟨us,us',e1,e2,hu⟩:=H d List.mem_cons_self os S acc ho hS hq (Nat.lt_of_lt_of_le (show acc.length<1001 by simp at hz;omega) (Nat.le_trans (by decide) (show 1001≤sizeLine by decide)))
    obtain⟨os',ho',e3⟩:=Mu hg hI (ds:=ds) (acc:=acc++[h d]) (os:=us') (S:=S.set q (.lst (acc++[h d]))) hu (hI S _ hS) (List.getElem?_set_self hl) (by simp at hz ⊢; omega) fun d' hd=>H d' (List.mem_cons_of_mem _ hd)
    refine⟨os',ho',?_⟩
    rw[Kk (hg S hS),e1,A9,e2,A9,Bw,e3,List.set_set]
    simp
noncomputable def un:D->Rat
 | .tup [.int n,.int d]=>(n:Rat) / (d:Rat)
 |_=>0
theorem V5(r:Rat):un (aD r)=r:=EA r
noncomputable def NC(f:Rat->Rat->Rat):D->D
 | .tup [a,b]=>aD (f (un a) (un b))
 |d=>d
theorem LH{f:Rat->Rat->Rat}:∀{ss os:List Rat},(Kh (ss.map aD) (os.map aD)).map (NC f)=(List.zipWith f ss os).map aD
  | [],os=>by simp[Kh]
  |s::ss,[]=>by simp[Kh]
  | s :: ss, o :: os => by
    have ih:=LH (f:=f) (ss:=ss) (os:=os)
    unfold Kh at ih⊢
    simp only[List.map_cons,List.zip_cons_cons,List.zipWith_cons_cons]at ih⊢
    rw[ih]
    simp[NC,V5]
theorem QJ{ss os:List Rat}{d:D}(h:d∈Kh (ss.map aD) (os.map aD)):∃s∈ss,∃o∈os,d=.tup [aD s,aD o]:=by
 unfold Kh at h
 obtain⟨⟨a,b⟩,h1,rfl⟩:=List.mem_map.mp h
 have h2:=List.of_mem_zip h1
 obtain⟨s,hs,rfl⟩:=List.mem_map.mp h2.1
 obtain⟨o,ho,rfl⟩:=List.mem_map.mp h2.2
 exact⟨s,hs,o,ho,rfl⟩
theorem W5:aD 1=.tup [.int 1,.int 1]:=rfl
theorem Wy(n:Int):aD (n:Rat)=.tup [.int n,.int 1]:=by
 unfold aD
 simp
theorem UW{n:Int}{k:Nat}(h:n.natAbs<2^k)(hk:1≤k):Sz k (n:Rat):=by
 unfold Sz
 have:1<2^k:=Nat.one_lt_two_pow (by omega)
 simp[h,this]
theorem UC{k:Nat}(hk:1≤k):Sz k (1:Rat):=by
 have:1<2^k:=Nat.one_lt_two_pow (by omega)
 exact⟨by simpa using this,by simpa using this⟩
theorem OD{x:Rat}{ss os:List Rat}{j i:Nat}(hs:∀r∈ss,Sz j r)(ho:∀r∈os,Sz j r)(hx:Sz i x)(hj:2*j+2*i≤7900)(hl:ss.length≤10):∃S',C9 [shD ss,aD x,shD os] S=some (shD (IE x os ss),S')/\Df [] S S':=by
 have hq:(S++[Cl.lst []])[S.length]?=some (.lst []):=List.getElem?_concat_length
 obtain⟨os',ho',e⟩:=Mu (gs:=[]) (t:=tTp [(tNm 4),(tNm 5)]) (b:=Dx (Lo MC (eV 3) [(AM Bx [(AM Ax [(eV 4),(AM Cv [(B4 [(eC (.int 1)),(eC (.int 1))]),(eV 1)])]),(AM Ax [(eV 5),(eV 1)])])])) (C:=[some (shD ss),some (aD x),some (shD os),some (.ref S.length)]) (m:=2) (q:=S.length) (h:=NC fun s o=>s*(1-x)+o*x) (I:=fun _=>True) (fun _ _=>Ao) (fun _ _ _=>trivial)
  (ds:=Kh (ss.map aD) (os.map aD)) (acc:=[]) (os:=[none,none]) (S:=S++[Cl.lst []]) rfl trivial hq (by simp[IV];omega) (by
   intro d hd os0 S0 acc h0 _ hq0 hz
   obtain⟨o1,o2,rfl⟩:∃o1 o2,os0=[o1,o2]:=by
    match os0,h0 with
    | [a,b],_=>exact⟨a,b,rfl⟩
   obtain⟨s,hs',o,ho',rfl⟩:=QJ hd
   have l1:=Tz (S:=S0) (UC (k:=1) (by decide)) hx (by omega)
   have s1:=(X3 (UC (k:=1) (by decide)) hx)
   have l2:=HM (S:=S0) (hs s hs') s1 (by omega)
   have l3:=HM (S:=S0) (ho o ho') hx (by omega)
   have l4:=N1 (S:=S0) (Mc (hs s hs') s1) (Mc (ho o ho') hx) (by omega)
   rw[W5]at l1
   refine⟨[some (aD s),some (aD o)],[some (aD s),some (aD o)],by simp,?_,rfl⟩
   simp[l1,l2,l3,l4,AR hq0,hz,NC,V5])
 rw[LH]at e
 refine⟨(S++[Cl.lst []]).set S.length (.lst ((IE x os ss).map aD)),?_,?_⟩
 ·have e':Kj [] (tTp [(tNm 4),(tNm 5)]) (Dx (Lo MC (eV 3) [(AM Bx [(AM Ax [(eV 4),(AM Cv [(B4 [(eC (.int 1)),(eC (.int 1))]),(eV 1)])]),(AM Ax [(eV 5),(eV 1)])])])) (Kh (ss.map aD) (os.map aD)) [some (shD ss),some (aD x),some (shD os),some (.ref S.length),none,none] (S++[Cl.lst []])=some (.nx,[some (shD ss),some (aD x),some (shD os),some (.ref S.length)]++os',(S++[Cl.lst []]).set S.length (.lst ((IE x os ss).map aD))):=by simpa[IE]using e
  simp[C9,JB,e']
  rfl
 ·refine⟨by simp,fun n hn _=>?_⟩
  rw[List.getElem?_set_ne (by omega),List.getElem?_append_left hn]
end
section
variable{S:Sto}{p:Nat}
theorem getD_get{α:Type}{xs:List α}{n:Nat}{d:α}(h:n<xs.length):xs[n]?=some (xs.getD n d):=by
 rw[List.getD_eq_getElem?_getD,List.getElem?_eq_getElem h]
 rfl
theorem getD_mem{α:Type}{xs:List α}{n:Nat}{d:α}(h:n<xs.length):xs.getD n d∈xs:=List.mem_of_getElem? (getD_get h)
theorem Xa{ss:List Rat}{n:Nat}(h:n<ss.length):atI (ss.map aD) (n:Int)=some (aD (ss.getD n 0)):=CA (by rw[List.getElem?_map,getD_get h];rfl)
theorem XU{ss:List Rat}{n:Nat}(h:n<ss.length):ixN (ss.map aD).length (n:Int)=some n:=Hb (by simpa using h)
theorem Py{p q:Nat}{x:Rat}{ss:List Rat}{j i:Nat}(hs:∀r∈ss,Sz j r)(hx:Sz i x)(hj:2*j+i≤7900)(hp:p<ss.length)(hq:q<ss.length)(hpq:p≠q):∃S',Dr [shD ss,(Ah.sell p q x).d] S=some (shD (HE p q x ss),S')/\Df [] S S':=by
 have sp:=hs _ (getD_mem (d:=0) hp)
 have sq:=hs _ (getD_mem (d:=0) hq)
 have l1:∀S,Ax [aD (ss.getD p 0),aD x] S=some (aD (ss.getD p 0*x),S):=fun S=>HM sp hx (by omega)
 have s1:=Mc sp hx
 have l2:∀S,Cv [aD (ss.getD p 0),aD (ss.getD p 0*x)] S=some (aD (ss.getD p 0-ss.getD p 0*x),S):=fun S=>Tz sp s1 (by omega)
 have l3:∀S,Bx [aD (ss.getD q 0),aD (ss.getD p 0*x)] S=some (aD (ss.getD q 0+ss.getD p 0*x),S):=fun S=>N1 sq s1 (by omega)
 have a1:=Xa hp
 have i1:=XU hp
 have i2:ixN (((ss.map aD).set p (aD (ss.getD p 0-ss.getD p 0*x))).length) (q:Int)=some q:=Hb (by simpa using hq)
 have a2:atI ((ss.map aD).set p (aD (ss.getD p 0-ss.getD p 0*x))) (q:Int)=some (aD (ss.getD q 0)):=CA (by
  rw[List.getElem?_set_ne hpq,List.getElem?_map,getD_get hq];rfl)
 refine⟨S++[.lst ((HE p q x ss).map aD)],?_,.app⟩
 simp only[List.length_set,List.length_map]at i1 i2
 have em:(HE p q x ss).map aD=((ss.map aD).set p (aD (ss.getD p 0-ss.getD p 0*x))).set q (aD (ss.getD q 0+ss.getD p 0*x)):=by rw[HE,List.map_set,List.map_set]
 unfold shD
 rw[em]
 generalize aD (ss.getD p 0-ss.getD p 0*x)=d1 at*
 generalize aD (ss.getD q 0+ss.getD p 0*x)=d2 at*
 generalize aD (ss.getD p 0*x)=d3 at*
 generalize aD (ss.getD p 0)=d4 at*
 generalize aD (ss.getD q 0)=d5 at*
 simp[Dr,KC,Ah.d,a1,l1,l2,l3,i1,i2,a2]
theorem O5{x y:Ld}{a b:Nat}{j i:Nat}(ha:S[a]?=some (B1 x))(hb:S[b]?=some (B1 y))(hs:∀r∈x.ow,Sz j r)(ho:∀r∈y.ow,Sz j r)(hx:x.n.natAbs<2^i)(hy:y.n.natAbs<2^i)(h0:0<x.n+y.n)(h1:1≤i)(hj:2*j+4*i≤7900)(hl:x.ow.length≤10):∃S',EH [.ref a,.ref b] S=some (shD (Dh x.n y.n x.ow y.ow),S')/\Df [] S S':=by
 have la:=Ac ha
 have lb:=Ac hb
 have hq:(S++[Cl.lst []])[S.length]?=some (.lst []):=List.getElem?_concat_length
 have ha':(S++[Cl.lst []])[a]?=some (B1 x):=by rw[List.getElem?_append_left la];exact ha
 have hb':(S++[Cl.lst []])[b]?=some (B1 y):=by rw[List.getElem?_append_left lb];exact hb
 obtain⟨os',ho',e⟩:=Mu (gs:=[]) (t:=tTp [(tNm 3),(tNm 4)]) (b:=AY (Bc 5 (AM Bx [(AM Ax [(B4 [(eOp (o2 wIx) [(eV 0),(eC (.int 1))]),(eC (.int 1))]),(eV 3)]),(AM Ax [(B4 [(eOp (o2 wIx) [(eV 1),(eC (.int 1))]),(eC (.int 1))]),(eV 4)])]))
  (Dx (Lo MC (eV 2) [(AM Ax [(eV 5),(AM Bh [(eC (.int 1)),(eOp (o2 A4) [(eOp (o2 wIx) [(eV 0),(eC (.int 1))]),(eOp (o2 wIx) [(eV 1),(eC (.int 1))])])])])]))) (C:=[some (.ref a),some (.ref b),some (.ref S.length)]) (m:=3) (q:=S.length) (h:=NC fun s o=>(s*x.n+o*y.n) / (x.n+y.n:Int)) (I:=fun S'=>S'[a]?=some (B1 x)/\S'[b]?=some (B1 y)) (fun _ _=>Ao) (fun S' c h=>⟨by rw[List.getElem?_set_ne (by omega)];exact h.1,by rw[List.getElem?_set_ne (by omega)];exact h.2⟩)
  (ds:=Kh (x.ow.map aD) (y.ow.map aD)) (acc:=[]) (os:=[none,none,none]) (S:=S++[Cl.lst []]) rfl ⟨ha',hb'⟩ hq (by simp[IV];omega) (by
   intro d hd os0 S0 acc h0' hI hq0 hz
   obtain⟨o1,o2,o3,rfl⟩:∃o1 o2 o3,os0=[o1,o2,o3]:=by
    match os0,h0' with
    | [a,b,c],_=>exact⟨a,b,c,rfl⟩
   obtain⟨s,hs',o,ho',rfl⟩:=QJ hd
   have d1:=AX hI.1
   have d2:=AX hI.2
   have z1:=UW hx h1
   have z2:=UW hy h1
   have l1:=HM (S:=S0) z1 (hs s hs') (by omega)
   have l2:=HM (S:=S0) z2 (ho o ho') (by omega)
   have s1:=Mc z1 (hs s hs')
   have s2:=Mc z2 (ho o ho')
   have l3:=N1 (S:=S0) s1 s2 (by omega)
   have b1:=OL hx hy
   have l4:=To (S:=S0) (t:=1) h0 (FU b1 (by omega))
   have s4:Sz (i+1) (((1:Int):Rat) / ((x.n+y.n:Int):Rat)):=Kn h0 (show(1:Int).natAbs<2^(i+1)from Nat.one_lt_two_pow (by omega)) b1
   have l5:=HM (S:=S0) (WJ s1 s2) s4 (by omega)
   rw[Wy]at l1 l2
   refine⟨[some (aD s),some (aD o),o3],[some (aD s),some (aD o),some (aD (x.n*s+y.n*o))],by simp,?_,rfl⟩
   have ev:(((x.n:Rat)*s+(y.n:Rat)*o)*(((1:Int):Rat) / ((x.n+y.n:Int):Rat)))=(s*x.n+o*y.n) / (x.n+y.n:Int):=by
    push_cast
    grind
   rw[ev]at l5
   have lf:(NC fun s o=>(s*x.n+o*y.n) / (x.n+y.n:Int)) (.tup [aD s,aD o])=aD ((s*x.n+o*y.n) / (x.n+y.n:Int)):=by simp only[NC,V5]
   rw[lf]
   generalize aD ((s*x.n+o*y.n) / (x.n+y.n:Int))=e5 at*
   generalize aD (((1:Int):Rat) / ((x.n+y.n:Int):Rat))=e4 at*
   generalize aD (x.n*s+y.n*o)=e3 at*
   simp[d1,d2,B1,l1,l2,l3,l4,l5,AR hq0,hz])
 rw[LH]at e
 refine⟨(S++[Cl.lst []]).set S.length (.lst ((Dh x.n y.n x.ow y.ow).map aD)),?_,?_⟩
 ·have e':=e
  simp only[List.cons_append,List.nil_append]at e'
  have d1:=AX ha'
  have d2:=AX hb'
  change Kj _ _ _ _ _ _=some (_,_,List.set _ _ (Cl.lst (List.map aD (Dh x.n y.n x.ow y.ow))))at e'
  generalize Dh x.n y.n x.ow y.ow=rs at*
  simp[EH,Ht,d1,d2,e',shD]
 ·refine⟨by simp,fun n hn _=>?_⟩
  rw[List.getElem?_set_ne (by omega),List.getElem?_append_left hn]
end
section
variable{S:Sto}{p:Nat}
theorem CB{α:Type}{gs:Gd}{t:Tf}{f:Ev}{C:En}{m:Nat}{e g:α->D}{S:Sto}(hg:gOk gs S):∀{xs:List α} {acc:List D} {os:En},os.length=m->acc.length+xs.length≤sizeLine->
    (∀x∈xs,∀os,os.length=m->∃us,us.length=m/\t (e x) (C++os) S=some (C++us)/\f (C++us) S=some (g x,S))->
    Bj gs t BH f (xs.map e) acc (C++os) S=some (acc++xs.map g,S)
  | [],acc,os,ho,hz,h=>by rw[List.map_nil,DZ hg];simp
  | x :: xs, acc, os, ho, hz, h => by
    obtain⟨us,hu,e1,e2⟩:=h x List.mem_cons_self os ho
    rw[List.map_cons,Fc hg (by simp at hz;omega) e1 Eg,e2,A9]
    rw[CB hg hu (by simp at hz ⊢; omega) fun x' hx=>h x' (List.mem_cons_of_mem _ hx)]
    simp
theorem C4{α:Type}{gs:Gd}{t:Tf}{c f:Ev}{C:En}{m:Nat}{e g:α->D}{b:α->Bool}{S:Sto}(hg:gOk gs S):∀{xs:List α} {acc:List D} {os:En},os.length=m->acc.length+xs.length≤sizeLine->
    (∀x∈xs,∀os,os.length=m->∃us,us.length=m/\t (e x) (C++os) S=some (C++us)/\c (C++us) S=some (.bl (b x),S)/\f (C++us) S=some (g x,S))->
    Bj gs t c f (xs.map e) acc (C++os) S=some (acc++(xs.filter b).map g,S)
  | [],acc,os,ho,hz,h=>by rw[List.map_nil,DZ hg];simp
  | x :: xs, acc, os, ho, hz, h => by
    obtain⟨us,hu,e1,e2,e3⟩:=h x List.mem_cons_self os ho
    cases hb:b x with
    | true =>
      rw[hb]at e2
      rw[List.map_cons,Fc hg (by simp at hz;omega) e1 e2,e3,A9,C4 hg hu (by simp at hz ⊢; omega) fun d' hd=>h d' (List.mem_cons_of_mem _ hd)]
      simp[hb]
    | false =>
      rw[hb]at e2
      rw[List.map_cons,GQ hg (by simp at hz;omega) e1 e2,C4 hg hu (by simp at hz ⊢; omega) fun d' hd=>h d' (List.mem_cons_of_mem _ hd)]
      simp[hb]
theorem Nh{as:List Nat}{ls:List Ld}(h:as.length=ls.length):as.map D.ref=(as.zip ls).map fun z=>D.ref z.1:=by
 have:as=(as.zip ls).map Prod.fst:=(List.map_fst_zip (by omega)).symm
 conv=>lhs;rw[this]
 rw[List.map_map];rfl
theorem Vs{β:Type}{as:List Nat}{ls:List Ld}(h:as.length=ls.length)(g:Ld->β):ls.map g=(as.zip ls).map fun z=>g z.2:=by
 have:ls=(as.zip ls).map Prod.snd:=(List.map_snd_zip (by omega)).symm
 conv=>lhs;rw[this]
 rw[List.map_map];rfl
section
variable{s l m:Nat}{as:List Nat}{st:Stt}
theorem SAt.zmem(h:SAt S s l m as st){z:Nat×Ld}(hz:z∈as.zip st.loads):S[z.1]?=some (B1 z.2):=by
 obtain⟨i,hi⟩:=List.mem_iff_getElem?.mp hz
 have:=List.getElem?_zip_eq_some.mp hi
 exact h.ld i z.1 z.2 this.1 this.2
theorem SAt.at(h:SAt S s l m as st){i:Nat}(hi:i<st.loads.length):∃a,as[i]?=some a/\S[a]?=some (B1 (AO st.loads i))/\atI (as.map D.ref) (i:Int)=some (.ref a):=by
 have h1:i<as.length:=by rw[h.len];exact hi
 refine⟨as[i],List.getElem?_eq_getElem h1,h.ld i _ _ (List.getElem?_eq_getElem h1) (F5 hi),CA (by rw[List.getElem?_map,List.getElem?_eq_getElem h1];rfl)⟩
theorem SAt.guard(h:SAt S s l m as st):gOk [(l,as.map D.ref)] S:=by
 intro g hg
 simp only[List.mem_cons,List.not_mem_nil,or_false]at hg
 subst hg
 exact AR h.lo
end
theorem Pu{M:Int}(hM:0≤M):∀{xs:List Int},(∀x∈xs,0≤x/\x≤M)->0≤xs.sum/\xs.sum≤xs.length*M
  | [],_=>by simp
  | x :: xs, h => by
    have h1:=h x List.mem_cons_self
    have h2:=Pu hM fun y hy=>h y (List.mem_cons_of_mem _ hy)
    simp only[List.sum_cons,List.length_cons]
    refine⟨by omega,?_⟩
    have:((xs.length+1:Nat):Int)*M=xs.length*M+M:=by push_cast;grind
    omega
theorem Kb:∀{xs:List Int} {y:Int},(∀x∈xs,0≤x)->y∈xs->y≤xs.sum
  | x :: xs, y, h, hy => by
    have h1:=h x List.mem_cons_self
    have h2:0≤xs.sum:=by
      clear hy
      induction xs with
      |nil=>simp
      | cons z zs ih =>
        have:=h z (by simp)
        have:=ih fun w hw=>h w (by simp at hw ⊢; rcases hw with hw|hw<;>simp[hw])
        simp only[List.sum_cons];omega
    simp only[List.sum_cons]
    rcases List.mem_cons.mp hy with e|e
    ·omega
    · have := Kb (fun z hz => h z (List.mem_cons_of_mem _ hz)) e
      omega
section
variable{t:Tr}{k:Nat}{st:Stt}{ws:List Int}{n:Int}{l:Nat}
theorem Lz{i:Nat}(hw:∀w∈ws,1≤w/\w≤99)(hi:i<ws.length):1≤ws.getD i 0/\ws.getD i 0≤99:=hw _ (getD_mem hi)
theorem Ub{i:Nat}(hi:i<ws.length):atI (ws.map D.int) (i:Int)=some (.int (ws.getD i 0)):=CA (by rw[List.getElem?_map,getD_get hi];rfl)
theorem Nk(hi:ws.length=k+1):atI (ws.map D.int) (-1:Int)=some (.int (ws.getD k 0)):=by
 have ix:ixN (ws.map D.int).length (-1)=some k:=by
  rw[List.length_map,hi]
  unfold ixN
  simp
  omega
 unfold atI
 rw[ix]
 show(ws.map D.int)[k]?=_
 rw[List.getElem?_map,getD_get (d:=(0:Int)) (by omega)]
 rfl
theorem IJ(ht:J6 t)(h:FP t k st)(hk:k≤20)(hl:ws.length=t.k+1)(hw:∀w∈ws,1≤w/\w≤99):0<Dy t st.loads ws/\Dy t st.loads ws<2^(145+k):=by
 obtain⟨t1,t2,t3,t4,t5,t6⟩:=ht
 have hP:(0:Int)≤2^(131+k):=Int.le_of_lt (Int.pow_pos (by decide))
 have hs:=Pu (M:=2^(131+k)*99) (by omega) (xs:=st.loads.map fun l=>l.n*ws.getD l.k 0) (by
  intro x hx
  obtain⟨y,hy,rfl⟩:=List.mem_map.mp hx
  have h1:=h.pcs y hy
  have h2:=Lz hw (i:=y.k) (by have:=h.kind y hy;omega)
  refine⟨Int.mul_nonneg h1.1 (by omega),Int.mul_le_mul (by omega) h2.2 (by omega) hP⟩)
 have hb:=Lz hw (i:=t.k) (by omega)
 have hlen:=h.len
 rw[List.length_map]at hs
 have h3:(st.loads.length:Int)*(2^(131+k)*99)≤24*(2^(131+k)*99):=Int.mul_le_mul_of_nonneg_right (by omega) (by omega)
 have h4:(1:Int)≤t.b*ws.getD t.k 0:=by
  have:0<(t.b:Int)*ws.getD t.k 0:=Int.mul_pos (by omega) (by omega)
  omega
 have h5:t.b*ws.getD t.k 0≤20*99:=Int.mul_le_mul (by omega) hb.2 (by omega) (by decide)
 have h6:(2:Int)^(145+k)=2^(131+k)*16384:=by rw[show 145+k=(131+k)+14 by omega,Int.pow_add];rfl
 have h7:(1:Int)≤2^(131+k):=by have:(0:Int)<2^(131+k):=Int.pow_pos (by decide);omega
 have h7':(2:Int)^11≤2^(131+k):=by
  have:(2^11:Nat)≤2^(131+k):=Nat.pow_le_pow_right (by decide) (by omega)
  exact_mod_cast this
 unfold Dy
 rw[h6]
 generalize (2:Int)^(131+k)=P at*
 omega
theorem QZ(ht:J6 t)(h:FP t k st)(hl:ws.length=t.k+1)(hw:∀w∈ws,1≤w/\w≤99)(hi:l<st.loads.length)(h1:1≤n)(h2:n≤(AO st.loads l).n):0<n*ws.getD (AO st.loads l).k 0/\n*ws.getD (AO st.loads l).k 0<Dy t st.loads ws:=by
 obtain⟨t1,t2,t3,t4,t5,t6⟩:=ht
 have hw1:=Lz hw (i:=(AO st.loads l).k) (by have:=h.kind _ (BU hi);omega)
 have hb:=Lz hw (i:=t.k) (by omega)
 have h4:(1:Int)≤t.b*ws.getD t.k 0:=by
  have:0<(t.b:Int)*ws.getD t.k 0:=Int.mul_pos (by omega) (by omega)
  omega
 have h5:=Kb (xs:=st.loads.map fun l=>l.n*ws.getD l.k 0) (y:=(AO st.loads l).n*ws.getD (AO st.loads l).k 0) (by
  intro x hx
  obtain⟨y,hy,rfl⟩:=List.mem_map.mp hx
  have h1:=h.pcs y hy
  have h2:=Lz hw (i:=y.k) (by have:=h.kind y hy;omega)
  exact Int.mul_nonneg h1.1 (by omega)) (List.mem_map.mpr ⟨_,BU hi,rfl⟩)
 have h6:n*ws.getD (AO st.loads l).k 0≤(AO st.loads l).n*ws.getD (AO st.loads l).k 0:=Int.mul_le_mul_of_nonneg_right h2 (by omega)
 refine⟨Int.mul_pos (by omega) (by omega),?_⟩
 unfold Dy
 omega
theorem Lg(hi:l<st.loads.length):Ji t st.loads l n ws=((n*ws.getD (AO st.loads l).k 0:Int):Rat) / (Dy t st.loads ws:Rat):=by
 unfold Ji
 rw[F5 hi]
 rfl
theorem Ic{x:Int}{j:Nat}(h0:0≤x)(h1:x<2^j):x.natAbs<2^j:=by
 have:((x.natAbs:Nat):Int)<((2^j:Nat):Int):=by
  rw[Int.natAbs_of_nonneg h0];push_cast;exact h1
 exact_mod_cast this
theorem Vm(ht:J6 t)(h:FP t k st)(hk:k≤20)(hl:ws.length=t.k+1)(hw:∀w∈ws,1≤w/\w≤99)(hi:l<st.loads.length)(h1:1≤n)(h2:n≤(AO st.loads l).n):Sz (145+k) (Ji t st.loads l n ws):=by
 have a:=IJ ht h hk hl hw
 have b:=QZ ht h hl hw hi h1 h2
 rw[Lg hi]
 exact Kn a.1 (Ic (by omega) (by omega)) (Ic (by omega) a.2)
theorem VZ{s r m:Nat}{as:List Nat}(hS:SAt S s r m as st)(ht:J6 t)(h:FP t k st)(hk:k≤20)(hl:ws.length=t.k+1)(hw:∀w∈ws,1≤w/\w≤99)(hi:l<st.loads.length)(h1:1≤n)(h2:n≤(AO st.loads l).n):F2 [t.d,.ref r,(Ah.thr l n ws).d] S=some (aD (Ji t st.loads l n ws),S):=by
 have a:=IJ ht h hk hl hw
 obtain⟨x,x1,x2,x3⟩:=hS.at hi
 have hlen:=h.len
 have e:=CB (gs:=[(r,as.map D.ref)]) (t:=tTp [(tNm 1),(tNm 2),(tNm 3)]) (f:=eOp (o2 E8) [(eV 2),(eOp (o2 wIx) [(eV 0),(eV 1)])]) (C:=[some (.tup (ws.map D.int))]) (m:=3) (e:=fun z:Nat×Ld=>D.ref z.1) (g:=fun z=>D.int (z.2.n*ws.getD z.2.k 0)) hS.guard (xs:=as.zip st.loads) (acc:=[]) (os:=[none,none,none]) rfl (Nat.le_trans (show _≤24 by simp;omega) (AN (by decide))) (by
  intro z hz os ho
  obtain⟨q1,q2,q3,rfl⟩:∃q1 q2 q3,os=[q1,q2,q3]:=by
   match os,ho with
   | [a,b,c],_=>exact⟨a,b,c,rfl⟩
  have c1:=hS.zmem hz
  have hm:z.2∈st.loads:=(List.of_mem_zip (a:=z.1) (b:=z.2) hz).2
  have hk:=h.kind _ hm
  have w1:=Ub (ws:=ws) (i:=z.2.k) (by omega)
  have w2:=Lz hw (i:=z.2.k) (by omega)
  have m1:Dm z.2.n (ws.getD z.2.k 0)=true:=mulR (by omega) (by omega)
  generalize ws.getD z.2.k 0=wz at*
  refine⟨[some (.int z.2.k),some (.int z.2.n),some (shD z.2.ow)],rfl,?_,?_⟩
  ·simp[AR c1,B1]
  ·simp[w1,m1])
 rw[←Nh hS.len,←Vs hS.len (fun x=>D.int (x.n*ws.getD x.k 0))]at e
 have e':=e
 simp only[List.cons_append,List.nil_append]at e'
 rw[Lg hi]
 have es:JL (st.loads.map fun x=>D.int (x.n*ws.getD x.k 0))=some (st.loads.map fun x=>x.n*ws.getD x.k 0):=by
  have:=DV (st.loads.map fun x=>x.n*ws.getD x.k 0)
  rwa [List.map_map]at this
 have w1:=Ub (ws:=ws) (i:=(AO st.loads l).k) (by have:=h.kind _ (BU hi);omega)
 have w3:=Lz hw (i:=(AO st.loads l).k) (by have:=h.kind _ (BU hi);omega)
 have w2:=Nk hl
 have w4:=Lz hw (i:=t.k) (by omega)
 have m1:Dm n (ws.getD (AO st.loads l).k 0)=true:=mulR (by omega) (by omega)
 have m2:Dm (t.b:Int) (ws.getD t.k 0)=true:=mulR (by omega) (by omega)
 have l1:=To (S:=S) (t:=n*ws.getD (AO st.loads l).k 0) a.1 (FU (Ic (by omega) a.2) (by omega))
 have e2:Dy t st.loads ws=(st.loads.map fun x=>x.n*ws.getD x.k 0).sum+t.b*ws.getD t.k 0:=rfl
 rw[e2]at l1⊢
 generalize aD (((n*ws.getD (AO st.loads l).k 0:Int):Rat) / (((st.loads.map fun x=>x.n*ws.getD x.k 0).sum+t.b*ws.getD t.k 0:Int):Rat))=R at*
 generalize (st.loads.map fun x=>x.n*ws.getD x.k 0)=es' at*
 generalize (st.loads.map fun x=>D.int (x.n*ws.getD x.k 0))=es2 at*
 generalize ws.getD (AO st.loads l).k 0=wa at*
 generalize ws.getD t.k 0=wb at*
 have dx:=AX x2
 have dl:=AX hS.lo
 simp[F2,Kc,Ah.d,Tr.d,D8 hS.lo,e',es,w2,m2,dl,x3,dx,B1,w1,m1,l1]
theorem Oy{G B:Nat}(ht:J6 t)(h:FP t k st)(hk:k≤20)(hl:ws.length=t.k+1)(hw:∀w∈ws,1≤w/\w≤99)(hi:l<st.loads.length)(h1:1≤n)(h2:n≤(AO st.loads l).n){os ss:List Rat}(ho:∀r∈os,Ok G B r)(hs:∀r∈ss,Ok G B r):∀r∈IE (Ji t st.loads l n ws) os ss,Ok (G*(Dy t st.loads ws).toNat) (B*(Dy t st.loads ws).toNat) r:=by
 have a:=IJ ht h hk hl hw
 have b:=QZ ht h hl hw hi h1 h2
 intro r hr
 unfold IE at hr
 rw[List.mem_iff_getElem?]at hr
 obtain⟨i,hi'⟩:=hr
 rw[List.getElem?_zipWith_eq_some]at hi'
 obtain⟨x,y,hx,hy,rfl⟩:=hi'
 rw[Lg hi]
 generalize n*ws.getD (AO st.loads l).k 0=c at*
 generalize Dy t st.loads ws=W at*
 have:=Ok.mix (a:=(W-c).toNat) (b:=c.toNat) (t:=W.toNat) (hs x (List.mem_of_getElem? hx)) (ho y (List.mem_of_getElem? hy)) (by omega) (by omega)
 have e1:(((W-c).toNat:Nat):Rat)=(W:Rat)-(c:Rat):=by
  have:(((W-c).toNat:Nat):Int)=W-c:=Int.toNat_of_nonneg (by omega)
  have:((((W-c).toNat:Nat):Int):Rat)=((W-c:Int):Rat):=by rw[this]
  push_cast at this
  exact this
 have e2:((c.toNat:Nat):Rat)=(c:Rat):=by
  have:((c.toNat:Nat):Int)=c:=Int.toNat_of_nonneg (by omega)
  have:(((c.toNat:Nat):Int):Rat)=(c:Rat):=by rw[this]
  exact this
 have e3:((W.toNat:Nat):Rat)=(W:Rat):=by
  have:((W.toNat:Nat):Int)=W:=Int.toNat_of_nonneg (by omega)
  have:(((W.toNat:Nat):Int):Rat)=(W:Rat):=by rw[this]
  exact this
 rw[e1,e2,e3]at this
 have ne:(W:Rat)≠0:=by
  intro z
  have:=Rat.intCast_eq_zero_iff.mp z
  omega
 have ev:(x*((W:Rat)-(c:Rat))+y*(c:Rat)) / (W:Rat)=x*(1-(c:Rat) / (W:Rat))+y*((c:Rat) / (W:Rat)):=by grind
 rw[ev]at this
 exact this
end
end
section
variable{S:Sto}
theorem Aq{x y:Str}(h:PyData.strOk x=true)(g:PyData.strOk y=true):Cy (.str x) (.str y)=true:=by
 unfold Cy
 show(PyData.strOk x && PyData.strOk y && _)=true
 rw[h,g]
 rfl
theorem Cd:PyData.strOk (Str.ofString "bring")=true:=by decide+kernel
theorem Dj:PyData.strOk (Str.ofString "pool")=true:=by decide+kernel
theorem D0:PyData.strOk (Str.ofString "swap")=true:=by decide+kernel
theorem Cf:PyData.strOk (Str.ofString "trade")=true:=by decide+kernel
theorem DK:PyData.strOk (Str.ofString "spoil")=true:=by decide+kernel
theorem CT:PyData.strOk (Str.ofString "throw")=true:=by decide+kernel
theorem HV:PyData.strOk (Str.ofString "sell")=true:=by decide+kernel
@[simp] theorem Qs:Cy (.str (Str.ofString "bring")) (.str (Str.ofString "bring"))=true:=Aq Cd Cd
@[simp] theorem Q5:deq (.str (Str.ofString "bring")) (.str (Str.ofString "bring"))=true:=nr rfl
@[simp] theorem RQ:Cy (.str (Str.ofString "bring")) (.str (Str.ofString "pool"))=true:=Aq Cd Dj
@[simp] theorem SH:deq (.str (Str.ofString "bring")) (.str (Str.ofString "pool"))=false:=nr rfl
@[simp] theorem Tc:Cy (.str (Str.ofString "bring")) (.str (Str.ofString "swap"))=true:=Aq Cd D0
@[simp] theorem Rt:deq (.str (Str.ofString "bring")) (.str (Str.ofString "swap"))=false:=nr rfl
@[simp] theorem Qk:Cy (.str (Str.ofString "bring")) (.str (Str.ofString "trade"))=true:=Aq Cd Cf
@[simp] theorem Q4:deq (.str (Str.ofString "bring")) (.str (Str.ofString "trade"))=false:=nr rfl
@[simp] theorem Qm:Cy (.str (Str.ofString "bring")) (.str (Str.ofString "throw"))=true:=Aq Cd CT
@[simp] theorem Qo:deq (.str (Str.ofString "bring")) (.str (Str.ofString "throw"))=false:=nr rfl
@[simp] theorem Ti:wIn false (.val (.str "bring")) (.val (.tup [.str "spoil",.str "throw"]))=some (.val (.bl false)):=nr rfl
@[simp] theorem R1:Cy (.str (Str.ofString "pool")) (.str (Str.ofString "bring"))=true:=Aq Dj Cd
@[simp] theorem TJ:deq (.str (Str.ofString "pool")) (.str (Str.ofString "bring"))=false:=nr rfl
@[simp] theorem UL:Cy (.str (Str.ofString "pool")) (.str (Str.ofString "pool"))=true:=Aq Dj Dj
@[simp] theorem UZ:deq (.str (Str.ofString "pool")) (.str (Str.ofString "pool"))=true:=nr rfl
@[simp] theorem Su:Cy (.str (Str.ofString "pool")) (.str (Str.ofString "trade"))=true:=Aq Dj Cf
@[simp] theorem TR:deq (.str (Str.ofString "pool")) (.str (Str.ofString "trade"))=false:=nr rfl
@[simp] theorem TB:Cy (.str (Str.ofString "pool")) (.str (Str.ofString "spoil"))=true:=Aq Dj DK
@[simp] theorem RI:deq (.str (Str.ofString "pool")) (.str (Str.ofString "spoil"))=false:=nr rfl
@[simp] theorem Rf:Cy (.str (Str.ofString "pool")) (.str (Str.ofString "throw"))=true:=Aq Dj CT
@[simp] theorem Q9:deq (.str (Str.ofString "pool")) (.str (Str.ofString "throw"))=false:=nr rfl
@[simp] theorem V0:wIn false (.val (.str "pool")) (.val (.tup [.str "swap",.str "trade"]))=some (.val (.bl false)):=nr rfl
@[simp] theorem UK:wIn false (.val (.str "pool")) (.val (.tup [.str "spoil",.str "throw"]))=some (.val (.bl false)):=nr rfl
@[simp] theorem Rx:Cy (.str (Str.ofString "swap")) (.str (Str.ofString "bring"))=true:=Aq D0 Cd
@[simp] theorem SR:deq (.str (Str.ofString "swap")) (.str (Str.ofString "bring"))=false:=nr rfl
@[simp] theorem UI:Cy (.str (Str.ofString "swap")) (.str (Str.ofString "pool"))=true:=Aq D0 Dj
@[simp] theorem UA:deq (.str (Str.ofString "swap")) (.str (Str.ofString "pool"))=false:=nr rfl
@[simp] theorem UY:Cy (.str (Str.ofString "swap")) (.str (Str.ofString "swap"))=true:=Aq D0 D0
@[simp] theorem UX:deq (.str (Str.ofString "swap")) (.str (Str.ofString "swap"))=true:=nr rfl
@[simp] theorem RU:Cy (.str (Str.ofString "swap")) (.str (Str.ofString "trade"))=true:=Aq D0 Cf
@[simp] theorem Rg:deq (.str (Str.ofString "swap")) (.str (Str.ofString "trade"))=false:=nr rfl
@[simp] theorem TU:Cy (.str (Str.ofString "swap")) (.str (Str.ofString "throw"))=true:=Aq D0 CT
@[simp] theorem Ss:deq (.str (Str.ofString "swap")) (.str (Str.ofString "throw"))=false:=nr rfl
@[simp] theorem Up:wIn false (.val (.str "swap")) (.val (.tup [.str "swap",.str "trade"]))=some (.val (.bl true)):=nr rfl
@[simp] theorem Qg:Cy (.str (Str.ofString "trade")) (.str (Str.ofString "bring"))=true:=Aq Cf Cd
@[simp] theorem Qz:deq (.str (Str.ofString "trade")) (.str (Str.ofString "bring"))=false:=nr rfl
@[simp] theorem Ta:Cy (.str (Str.ofString "trade")) (.str (Str.ofString "pool"))=true:=Aq Cf Dj
@[simp] theorem Tj:deq (.str (Str.ofString "trade")) (.str (Str.ofString "pool"))=false:=nr rfl
@[simp] theorem SE:Cy (.str (Str.ofString "trade")) (.str (Str.ofString "swap"))=true:=Aq Cf D0
@[simp] theorem RB:deq (.str (Str.ofString "trade")) (.str (Str.ofString "swap"))=false:=nr rfl
@[simp] theorem Qj:Cy (.str (Str.ofString "trade")) (.str (Str.ofString "trade"))=true:=Aq Cf Cf
@[simp] theorem Qr:deq (.str (Str.ofString "trade")) (.str (Str.ofString "trade"))=true:=nr rfl
@[simp] theorem Qv:Cy (.str (Str.ofString "trade")) (.str (Str.ofString "throw"))=true:=Aq Cf CT
@[simp] theorem Qp:deq (.str (Str.ofString "trade")) (.str (Str.ofString "throw"))=false:=nr rfl
@[simp] theorem UU:wIn false (.val (.str "trade")) (.val (.tup [.str "swap",.str "trade"]))=some (.val (.bl true)):=nr rfl
@[simp] theorem Q7:Cy (.str (Str.ofString "spoil")) (.str (Str.ofString "bring"))=true:=Aq DK Cd
@[simp] theorem Ql:deq (.str (Str.ofString "spoil")) (.str (Str.ofString "bring"))=false:=nr rfl
@[simp] theorem SO:Cy (.str (Str.ofString "spoil")) (.str (Str.ofString "pool"))=true:=Aq DK Dj
@[simp] theorem Ru:deq (.str (Str.ofString "spoil")) (.str (Str.ofString "pool"))=false:=nr rfl
@[simp] theorem RV:Cy (.str (Str.ofString "spoil")) (.str (Str.ofString "swap"))=true:=Aq DK D0
@[simp] theorem R7:deq (.str (Str.ofString "spoil")) (.str (Str.ofString "swap"))=false:=nr rfl
@[simp] theorem Q1:Cy (.str (Str.ofString "spoil")) (.str (Str.ofString "trade"))=true:=Aq DK Cf
@[simp] theorem Qi:deq (.str (Str.ofString "spoil")) (.str (Str.ofString "trade"))=false:=nr rfl
@[simp] theorem Qq:Cy (.str (Str.ofString "spoil")) (.str (Str.ofString "spoil"))=true:=Aq DK DK
@[simp] theorem Q2:deq (.str (Str.ofString "spoil")) (.str (Str.ofString "spoil"))=true:=nr rfl
@[simp] theorem Qw:Cy (.str (Str.ofString "spoil")) (.str (Str.ofString "throw"))=true:=Aq DK CT
@[simp] theorem Q6:deq (.str (Str.ofString "spoil")) (.str (Str.ofString "throw"))=false:=nr rfl
@[simp] theorem US:wIn false (.val (.str "spoil")) (.val (.tup [.str "swap",.str "trade"]))=some (.val (.bl false)):=nr rfl
@[simp] theorem Sk:wIn false (.val (.str "spoil")) (.val (.tup [.str "spoil",.str "throw"]))=some (.val (.bl true)):=nr rfl
@[simp] theorem Qy:Cy (.str (Str.ofString "throw")) (.str (Str.ofString "bring"))=true:=Aq CT Cd
@[simp] theorem Qn:deq (.str (Str.ofString "throw")) (.str (Str.ofString "bring"))=false:=nr rfl
@[simp] theorem SD:Cy (.str (Str.ofString "throw")) (.str (Str.ofString "pool"))=true:=Aq CT Dj
@[simp] theorem Sn:deq (.str (Str.ofString "throw")) (.str (Str.ofString "pool"))=false:=nr rfl
@[simp] theorem Tb:Cy (.str (Str.ofString "throw")) (.str (Str.ofString "swap"))=true:=Aq CT D0
@[simp] theorem RT:deq (.str (Str.ofString "throw")) (.str (Str.ofString "swap"))=false:=nr rfl
@[simp] theorem Q0:Cy (.str (Str.ofString "throw")) (.str (Str.ofString "trade"))=true:=Aq CT Cf
@[simp] theorem Qx:deq (.str (Str.ofString "throw")) (.str (Str.ofString "trade"))=false:=nr rfl
@[simp] theorem Q3:Cy (.str (Str.ofString "throw")) (.str (Str.ofString "spoil"))=true:=Aq CT DK
@[simp] theorem Q8:deq (.str (Str.ofString "throw")) (.str (Str.ofString "spoil"))=false:=nr rfl
@[simp] theorem Qu:Cy (.str (Str.ofString "throw")) (.str (Str.ofString "throw"))=true:=Aq CT CT
@[simp] theorem Qt:deq (.str (Str.ofString "throw")) (.str (Str.ofString "throw"))=true:=nr rfl
@[simp] theorem UG:wIn false (.val (.str "throw")) (.val (.tup [.str "swap",.str "trade"]))=some (.val (.bl false)):=nr rfl
@[simp] theorem RG:wIn false (.val (.str "throw")) (.val (.tup [.str "spoil",.str "throw"]))=some (.val (.bl true)):=nr rfl
@[simp] theorem Rc:Cy (.str (Str.ofString "sell")) (.str (Str.ofString "bring"))=true:=Aq HV Cd
@[simp] theorem Rb:deq (.str (Str.ofString "sell")) (.str (Str.ofString "bring"))=false:=nr rfl
@[simp] theorem UM:Cy (.str (Str.ofString "sell")) (.str (Str.ofString "pool"))=true:=Aq HV Dj
@[simp] theorem UO:deq (.str (Str.ofString "sell")) (.str (Str.ofString "pool"))=false:=nr rfl
@[simp] theorem Tw:Cy (.str (Str.ofString "sell")) (.str (Str.ofString "swap"))=true:=Aq HV D0
@[simp] theorem UN:deq (.str (Str.ofString "sell")) (.str (Str.ofString "swap"))=false:=nr rfl
@[simp] theorem RN:Cy (.str (Str.ofString "sell")) (.str (Str.ofString "trade"))=true:=Aq HV Cf
@[simp] theorem TV:deq (.str (Str.ofString "sell")) (.str (Str.ofString "trade"))=false:=nr rfl
@[simp] theorem TF:Cy (.str (Str.ofString "sell")) (.str (Str.ofString "spoil"))=true:=Aq HV DK
@[simp] theorem Sq:deq (.str (Str.ofString "sell")) (.str (Str.ofString "spoil"))=false:=nr rfl
@[simp] theorem RH:Cy (.str (Str.ofString "sell")) (.str (Str.ofString "throw"))=true:=Aq HV CT
@[simp] theorem Ro:deq (.str (Str.ofString "sell")) (.str (Str.ofString "throw"))=false:=nr rfl
@[simp] theorem Vq:wIn false (.val (.str "sell")) (.val (.tup [.str "swap",.str "trade"]))=some (.val (.bl false)):=nr rfl
@[simp] theorem UJ:wIn false (.val (.str "sell")) (.val (.tup [.str "spoil",.str "throw"]))=some (.val (.bl false)):=nr rfl
section
variable{a b c d e f:D}{r:List D}
@[simp] theorem YK:C5 [a,b,c,d,e] (some (-4)) none=[b,c,d,e]:=nr rfl
@[simp] theorem Yx:C5 [a,b,c,d,e,f] (some (-4)) none=[c,d,e,f]:=nr rfl
@[simp] theorem YM:C5 [a,b,c,d,e] (some 1) (some 2)=[b]:=nr rfl
@[simp] theorem YS:C5 [a,b,c,d,e,f] (some 1) (some 2)=[b]:=nr rfl
@[simp] theorem YN{ds zs:List D}:Y8 S ds [.tup zs]=if ds.length+zs.length≤sizeLine then some (.non,ds++zs)else none:=nr rfl
end
end
section
variable{S S':Sto}{s l m:Nat}{as:List Nat}{st:Stt}
theorem SAt.same(h:SAt S s l m as st)(g:Df A S S')(hA:∀n∈A,n∉s::l::m::as):SAt S' s l m as st where
 root:=g.get h.root fun z=>hA _ z (by simp)
 lo:=g.get h.lo fun z=>hA _ z (by simp)
 nu:=g.get h.nu fun z=>hA _ z (by simp)
 ld:=fun i a x ha hx=>g.get (h.ld i a x ha hx) fun z=>hA _ z (by simp[List.mem_of_getElem? ha])
 len:=h.len
 nd:=h.nd
theorem SAt.same0(h:SAt S s l m as st)(g:Df [] S S'):SAt S' s l m as st:=h.same g fun _ z=>(nomatch z)
theorem SAt.ne(h:SAt S s l m as st):s≠l/\s≠m/\l≠m/\s∉as/\l∉as/\m∉as/\as.Nodup:=by
 have:=h.nd
 simp only[List.nodup_cons,List.mem_cons,not_or]at this
 obtain⟨⟨a,b,c⟩,⟨d,e⟩,f,g⟩:=this
 exact⟨a,b,d,c,e,f,g⟩
theorem SAt.setld(h:SAt S s l m as st){i a:Nat}{y:Ld}(ha:as[i]?=some a):SAt (S.set a (B1 y)) s l m as {st with loads:=st.loads.set i y}:=by
 obtain⟨n1,n2,n3,n4,n5,n6,n7⟩:=h.ne
 have ma:=List.mem_of_getElem? ha
 have q1:a≠s:=fun e=>n4 (e▸ma)
 have q2:a≠l:=fun e=>n5 (e▸ma)
 have q3:a≠m:=fun e=>n6 (e▸ma)
 have hi:i<as.length:=(List.getElem?_eq_some_iff.mp ha).1
 have hi':i<st.loads.length:=by rw[←h.len];exact hi
 refine⟨by rw[List.getElem?_set_ne q1];exact h.root,by rw[List.getElem?_set_ne q2];exact h.lo,by rw[List.getElem?_set_ne q3];exact h.nu,?_,by simp[h.len],h.nd⟩
 intro j b x hb hx
 by_cases e:i=j
 ·subst e
  rw[ha]at hb
  cases hb
  have hx':(st.loads.set i y)[i]?=some x:=hx
  rw[List.getElem?_set_self hi']at hx'
  cases hx'
  have hl:a<S.length:=Ac (h.ld i a _ ha (List.getElem?_eq_getElem hi'))
  exact List.getElem?_set_self hl
 ·have hx':(st.loads.set i y)[j]?=some x:=hx
  rw[List.getElem?_set_ne e]at hx'
  have:a≠b:=by
   intro z
   subst z
   exact e ((List.getElem?_inj hi n7).mp (ha.trans hb.symm))
  rw[List.getElem?_set_ne this]
  exact h.ld j b x hb hx'
theorem SAt.lts(h:SAt S s l m as st):∀n∈s::l::m::as,n<S.length:=by
 intro n hn
 simp only[List.mem_cons]at hn
 rcases hn with rfl|rfl|rfl|hn
 ·exact Ac h.root
 ·exact Ac h.lo
 ·exact Ac h.nu
 ·obtain⟨i,hi⟩:=List.mem_iff_getElem?.mp hn
  have:i<st.loads.length:=by rw[←h.len];exact(List.getElem?_eq_some_iff.mp hi).1
  exact Ac (h.ld i n _ hi (List.getElem?_eq_getElem this))
theorem SAt.app(h:SAt S s l m as st)(y:Ld):SAt ((S++[B1 y]).set l (.lst (as.map D.ref++[.ref S.length]))) s l m (as++[S.length]) {st with loads:=st.loads++[y]}:=by
 obtain⟨n1,n2,n3,n4,n5,n6,n7⟩:=h.ne
 have lt:=h.lts
 have ls:=lt s (by simp);have ll:=lt l (by simp);have lm:=lt m (by simp)
 have la:∀a∈as,a<S.length:=fun a ha=>lt a (by simp[ha])
 refine⟨?_,?_,?_,?_,by simp[h.len],?_⟩
 ·rw[List.getElem?_set_ne (Ne.symm n1),List.getElem?_append_left ls];exact h.root
 ·rw[List.getElem?_set_self (by simp;omega)];simp
 ·rw[List.getElem?_set_ne n3,List.getElem?_append_left lm];exact h.nu
 ·intro i a x ha hx
  by_cases e:i<as.length
  ·rw[List.getElem?_append_left e]at ha
   have hx':(st.loads++[y])[i]?=some x:=hx
   rw[List.getElem?_append_left (by rw[←h.len];exact e)]at hx'
   have ma:=List.mem_of_getElem? ha
   rw[List.getElem?_set_ne (show l≠a by rintro rfl;exact n5 ma),List.getElem?_append_left (la a ma)]
   exact h.ld i a x ha hx'
  ·have hx':(st.loads++[y])[i]?=some x:=hx
   have:i=as.length:=by
    have:=(List.getElem?_eq_some_iff.mp ha).1
    simp at this;omega
   subst this
   rw[List.getElem?_concat_length]at ha
   cases ha
   rw[h.len,List.getElem?_concat_length]at hx'
   cases hx'
   rw[List.getElem?_set_ne (by omega),List.getElem?_concat_length]
 ·have:(s::l::m::(as++[S.length]))=(s::l::m::as)++[S.length]:=by simp
  rw[this,List.nodup_append]
  refine⟨h.nd,by simp,?_⟩
  intro a ha b hb e
  simp only[List.mem_cons,List.not_mem_nil,or_false]at hb
  have:=lt a ha
  omega
theorem SAt.hold(h:SAt S s l m as st)(rs:List Rat):SAt (S.set s (.lst [.ref l,shD rs,.ref m])) s l m as {st with hold:=rs}:=by
 obtain⟨n1,n2,n3,n4,n5,n6,n7⟩:=h.ne
 refine⟨List.getElem?_set_self (h.lts s (by simp)),by rw[List.getElem?_set_ne n1];exact h.lo,by rw[List.getElem?_set_ne n2];exact h.nu,?_,h.len,h.nd⟩
 intro i a x ha hx
 rw[List.getElem?_set_ne (show s≠a by rintro rfl;exact n4 (List.mem_of_getElem? ha))]
 exact h.ld i a x ha hx
theorem SAt.nums(h:SAt S s l m as st)(us:List Int):SAt (S.set m (.lst (us.map D.int))) s l m as {st with nums:=us}:=by
 obtain⟨n1,n2,n3,n4,n5,n6,n7⟩:=h.ne
 refine⟨by rw[List.getElem?_set_ne (Ne.symm n2)];exact h.root,by rw[List.getElem?_set_ne (Ne.symm n3)];exact h.lo,List.getElem?_set_self (h.lts m (by simp)),?_,h.len,h.nd⟩
 intro i a x ha hx
 rw[List.getElem?_set_ne (show m≠a by rintro rfl;exact n6 (List.mem_of_getElem? ha))]
 exact h.ld i a x ha hx
theorem L7{f:Ld->Ld}{body:Ex}{C:En}{i8:Nat}{o0:Option D}(h:SAt S s l m as st)(hi:C.length=i8)
  (hb:∀(S':Sto) (a:Nat) (x:Ld),x∈st.loads->S'[a]?=some (B1 x)->∃S2,body (C++[some (.ref a)]) S'=some (.nx,C++[some (.ref a)],S2.set a (B1 (f x)))/\Df [] S' S2):
  ∃o S',Kj [(l,as.map D.ref)] (tNm i8) body (as.map D.ref) (C++[o0]) S=some (.nx,C++[o],S')/\SAt S' s l m as {st with loads:=st.loads.map f}/\Df as S S':=by
 obtain⟨E',S',e,i,o,i1,i2,rfl,i3,i4⟩:=Fz (gs:=[(l,as.map D.ref)]) (t:=tNm i8) (b:=body)
  (I:=fun ds E S'=>∃(i:Nat) (o:Option D),ds=(as.drop i).map D.ref/\i≤as.length/\E=C++[o]/\SAt S' s l m as {st with loads:=(st.loads.take i).map f++st.loads.drop i}/\Df as S S')
  (fun ds E S' hI=>by obtain⟨i,o,_,_,_,h1,_⟩:=hI;exact h1.guard) (ds:=as.map D.ref) (E:=C++[o0]) (S:=S)
  ⟨0, o0, by simp, Nat.zero_le _, rfl, by simpa using h, .refl⟩ (by
   rintro d ds E S1 ⟨i,o,i1,i2,rfl,i3,i4⟩
   have hlt:i<as.length:=by
    rcases Nat.lt_or_ge i as.length with w|w
    ·exact w
    ·rw[List.drop_eq_nil_of_le w]at i1;cases i1
   rw[List.drop_eq_getElem_cons hlt,List.map_cons]at i1
   injection i1 with e1 e2
   subst e1 e2
   have hl2:i<st.loads.length:=by rw[←h.len];exact hlt
   have ha:=List.getElem?_eq_getElem hlt
   have hx:((st.loads.take i).map f++st.loads.drop i)[i]?=some st.loads[i]:=by
    rw[List.getElem?_append_right (by simp;omega)]
    simp[Nat.min_eq_left (Nat.le_of_lt hl2)]
   obtain⟨S2,e3,g3⟩:=hb S1 as[i] st.loads[i] (List.getElem_mem hl2) (i3.ld i _ _ ha hx)
   have k:=(i3.same0 g3).setld (y:=f st.loads[i]) ha
   refine⟨C++[some (.ref as[i])],C++[some (.ref as[i])],S2.set as[i] (B1 (f st.loads[i])),?_,e3,i+1,some (.ref as[i]),rfl,hlt,rfl,?_,?_⟩
   ·rw[VS]
    congr 1
    subst hi
    rw[List.set_append_right _ _ (Nat.le_refl _)]
    simp
   ·have:((st.loads.take i).map f++st.loads.drop i).set i (f st.loads[i])=(st.loads.take (i+1)).map f++st.loads.drop (i+1):=by
     rw[List.set_append_right _ _ (by simp;omega)]
     have e0:i-((st.loads.take i).map f).length=0:=by simp;omega
     rw[e0,List.drop_eq_getElem_cons hl2,List.set_cons_zero,List.take_succ_eq_append_getElem hl2,List.map_append]
     simp
    rw[←this]
    exact k
   ·exact(i4.trans (g3.mono fun _ z=>(nomatch z))).trans (.set (List.getElem_mem hlt)))
 refine⟨o,S',e,?_,i4⟩
 have hz:i=as.length:=by
  have:=congrArg List.length i1
  simp at this
  omega
 have:(st.loads.take i).map f++st.loads.drop i=st.loads.map f:=by
  rw[hz,h.len];simp
 rw[this]at i3
 exact i3
end
section
variable{S S':Sto}{s l m:Nat}{as:List Nat}{st:Stt}{t:Tr}{k:Nat}
theorem Vj{i:Nat}{n:Int}{j:Nat}(hi:i<st.loads.length)(h:∀x∈st.loads,∀r∈x.ow,Sz j r):∀x∈less st.loads i n,∀r∈x.ow,Sz j r:=by
 intro x hx
 rcases Lj hx hi with h1|h1
 ·exact h x h1
 ·rw[h1];exact h (AO st.loads i) (BU hi)
theorem QC{i:Nat}{n:Int}{j:Nat}(hi:i<st.loads.length)(h:∀x∈st.loads,x.ow.length=j):∀x∈less st.loads i n,x.ow.length=j:=by
 intro x hx
 rcases Lj hx hi with h1|h1
 ·exact h x h1
 ·rw[h1];exact h (AO st.loads i) (BU hi)
theorem RS(hS:SAt S s l m as st)(ht:J6 t)(h:FP t k st)(hk:k≤16){i:Nat}{n:Int}{ws:List Int}(hc:Can t st (.thr i n ws)):∃S',Dp [t.d,.ref s,(Ah.thr i n ws).d] S=some (.non,S')/\SAt S' s l m as (step t st (.thr i n ws))/\Df (s::l::m::as) S S':=by
 obtain⟨hi,h1,h2,hl,hw⟩:=hc
 have cO:=VZ hS ht h (by omega) hl hw hi h1 h2
 have cz:=Vm ht h (by omega) hl hw hi h1 h2
 have sz:=h.sz
 obtain⟨a,a1,a2,a3⟩:=hS.at hi
 have hS1:=hS.setld (y:=⟨(AO st.loads i).k,(AO st.loads i).n-n,(AO st.loads i).ow⟩) a1
 have o1:=sz.1 _ (BU hi)
 have tp:=ht.2.1
 have hdef:step t st (.thr i n ws)={st with loads:=(less st.loads i n).map fun x=>{x with ow:=IE (Ji t st.loads i n ws) (AO st.loads i).ow x.ow},hold:=IE (Ji t st.loads i n ws) (AO st.loads i).ow st.hold}:=rfl
 rw[hdef]
 generalize hX:Ji t st.loads i n ws=X at*
 obtain⟨o,S2,f1,f2,f3⟩:=L7 (f:=fun x=>{x with ow:=IE X (AO st.loads i).ow x.ow}) (body:=FD (AM C9 [(eOp (o2 wIx) [(eV 8),(eC (.int 2))]),(eV 6),(eV 7)]) (eV 8) (eC (.int 2))) (C:=[some t.d,some (.ref s),some (Ah.thr i n ws).d,some (.ref l),some (shD st.hold),some (.ref m),some (aD X),some (shD (AO st.loads i).ow)]) (i8:=8) (o0:=none) hS1 rfl (by
  intro S' b x hx hb
  obtain⟨S2,e2,g2⟩:=OD (S:=S') (x:=X) (ss:=x.ow) (os:=(AO st.loads i).ow) (j:=30+170*k) (i:=145+k) (Vj (n:=n) hi sz.1 x hx) o1 cz (by omega) (by rw[QC (n:=n) hi h.own x hx];omega)
  have hb2:=g2.get hb (by simp)
  refine⟨S2,?_,g2⟩
  simp[AX hb,B1,e2,AR hb2])
 obtain⟨S3,e3,g3⟩:=OD (S:=S2) (x:=X) (ss:=st.hold) (os:=(AO st.loads i).ow) (j:=30+170*k) (i:=145+k) sz.2 o1 cz (by omega) (by rw[h.hold];omega)
 have f4:=(f2.same0 g3)
 have rt:=f4.root
 refine⟨S3.set s (.lst [.ref l,shD (IE X (AO st.loads i).ow st.hold),.ref m]),?_,f4.hold _,?_⟩
 ·have f1':=f1
  simp only[List.cons_append,List.nil_append]at f1'
  have rt':Dg S3 s=some [.ref l,shD st.hold,.ref m]:=AR rt
  have r0:=AR hS.root
  have lo:=AX hS.lo
  have xx:=AX a2
  have c2:=AR a2
  have sq1:=D8 hS1.lo
  simp only[B1]at f1' sq1 c2 xx
  simp only[Ah.d]at f1' cO⊢
  simp[Dp,HZ,r0,cO,lo,a3,xx,c2,sq1,f1',e3,rt']
 ·have q1:Df (s::l::m::as) S (S.set a (B1 ⟨(AO st.loads i).k,(AO st.loads i).n-n,(AO st.loads i).ow⟩)):=.set (by simp[List.mem_of_getElem? a1])
  exact((q1.trans (f3.mono fun n hn=>by simp[hn])).trans (g3.mono fun _ z=>(nomatch z))).trans (.set (by simp))
theorem Qf(hS:SAt S s l m as st)(ht:J6 t)(h:FP t k st)(hk:k≤16){p q:Nat}{x:Rat}(hc:Can t st (.sell p q x)):∃S',Dp [t.d,.ref s,(Ah.sell p q x).d] S=some (.non,S')/\SAt S' s l m as (step t st (.sell p q x))/\Df (s::l::m::as) S S':=by
 obtain⟨hpq,hp,hq,x1,x2,x3⟩:=hc
 have sz:=h.sz
 have hx:Sz 4 x:=by
  refine⟨?_,by omega⟩
  show x.num.natAbs<16
  omega
 have hdef:step t st (.sell p q x)={st with loads:=st.loads.map fun y=>{y with ow:=HE p q x y.ow},hold:=HE p q x st.hold}:=rfl
 rw[hdef]
 obtain⟨o,S2,f1,f2,f3⟩:=L7 (f:=fun y=>{y with ow:=HE p q x y.ow}) (body:=FD (AM Dr [(eOp (o2 wIx) [(eV 8),(eC (.int 2))]),(eV 2)]) (eV 8) (eC (.int 2))) (C:=[some t.d,some (.ref s),some (Ah.sell p q x).d,some (.ref l),some (shD st.hold),some (.ref m),none,none]) (i8:=8) (o0:=none) hS rfl (by
  intro S' b y hy hb
  obtain⟨S2,e2,g2⟩:=Py (S:=S') (p:=p) (q:=q) (x:=x) (ss:=y.ow) (j:=30+170*k) (i:=4) (sz.1 y hy) hx (by omega) (by rw[h.own y hy];exact hp) (by rw[h.own y hy];exact hq) hpq
  have hb2:=g2.get hb (by simp)
  refine⟨S2,?_,g2⟩
  simp[AX hb,B1,e2,AR hb2])
 obtain⟨S3,e3,g3⟩:=Py (S:=S2) (p:=p) (q:=q) (x:=x) (ss:=st.hold) (j:=30+170*k) (i:=4) sz.2 hx (by omega) (by rw[h.hold];exact hp) (by rw[h.hold];exact hq) hpq
 have f4:=(f2.same0 g3)
 have rt:=f4.root
 refine⟨S3.set s (.lst [.ref l,shD (HE p q x st.hold),.ref m]),?_,f4.hold _,?_⟩
 ·have f1':=f1
  simp only[List.cons_append,List.nil_append]at f1'
  have rt':Dg S3 s=some [.ref l,shD st.hold,.ref m]:=AR rt
  have r0:=AR hS.root
  have sq1:=D8 hS.lo
  simp only[Ah.d]at f1' e3⊢
  simp[Dp,HZ,r0,sq1,f1',e3,rt']
 ·exact((f3.mono fun n hn=>by simp[hn]).trans (g3.mono fun _ z=>(nomatch z))).trans (.set (by simp))
end
section
variable{S S':Sto}{s l m:Nat}{as:List Nat}{st:Stt}{t:Tr}{k:Nat}
theorem O6{ls:List Ld}{l:Nat}{n:Int}:less ls l n=ls.set l ⟨(AO ls l).k,(AO ls l).n-n,(AO ls l).ow⟩:=rfl
theorem TY{P p:Nat}{cond:Int}{C:En}{dd:D}{f:Ev}(hP:P≤10)(hf:∀(i:Nat),f [some dd,some (.int i)] S=some (aD (if i=p then 1 else 0),S)):Bj [] (tNm 1) BH f (Hi 0 P) [] [some dd,none] S=some ((TH P p).map aD,S):=by
 have:=CB (gs:=[]) (t:=tNm 1) (f:=f) (C:=[some dd]) (m:=1) (e:=fun i:Nat=>D.int (0+(i:Int))) (g:=fun i=>aD (if i=p then 1 else 0)) (S:=S) Ao (xs:=List.range P) (acc:=[]) (os:=[none]) rfl (Nat.le_trans (show _≤10 by simp;omega) (AN (by decide))) (by
  intro i _ os ho
  obtain⟨o,rfl⟩:∃o,os=[o]:=by
   match os,ho with
   | [a],_=>exact⟨a,rfl⟩
  refine⟨[some (.int i)],rfl,by simp,hf i⟩)
 simp only[List.cons_append,List.nil_append]at this
 rw[TH,List.map_map]
 exact this
theorem SI(hS:SAt S s l m as st)(ht:J6 t)(h:FP t k st)(hk:k≤16){p kd:Nat}{n:Int}(hc:Can t st (.bring p kd n)):∃S' as',BX [t.d,.ref s,(Ah.bring p kd n).d] S=some (.non,S')/\SAt S' s l m as' (step t st (.bring p kd n))/\Df (s::l::m::as) S S'/\∀n∈as',n∈as∨S.length≤n:=by
 have tp:=ht.2.1
 have e:=TY (S:=S) (P:=t.p) (p:=p) (cond:=0) (C:=[]) (dd:=(Ah.bring p kd n).d) (f:=B4 [(eOp (o1 Oo) [(eOp (o2 wEq) [(eV 1),(eOp (o2 wIx) [(eV 0),(eC (.int 1))])])]),(eC (.int 1))]) (by omega) (by
  intro i
  by_cases hi:i=p
  ·subst hi;simp[Ah.d];rfl
  ·have:((i:Int)==(p:Int))=false:=by simp;omega
   simp[Ah.d,this,hi];rfl)
 have rn:GD (t.p:Int)=true:=Ce (by omega) (by omega)
 have hz:as.length<sizeLine:=Nat.lt_of_lt_of_le (show as.length<50 by rw[hS.len];have:=h.len;omega) (AN (by decide))
 refine⟨_,_,?_,hS.app ⟨kd,n,TH t.p p⟩,?_,?_⟩
 ·have r0:=AR hS.root
  have c0:=AR hS.lo
  have c1:Dg (S++[B1 ⟨kd,n,TH t.p p⟩]) l=some (as.map D.ref):=AR (by rw[List.getElem?_append_left (Ac hS.lo)];exact hS.lo)
  simp only[B1]at c1⊢
  simp only[Ah.d]at e⊢
  simp[BX,EB,r0,Tr.d,rn,e,c0,shD]at c1⊢
  simp[c1,hz]
 ·exact Df.app.trans (.set (by simp))
 ·intro n hn
  rcases List.mem_append.mp hn with w|w
  ·exact .inl w
  ·simp at w;exact .inr (by omega)
theorem TK(hS:SAt S s l m as st)(ht:J6 t)(h:FP t k st)(hk:k≤16){i:Nat}{n:Int}(hc:Can t st (.spoil i n)):∃S' as',BX [t.d,.ref s,(Ah.spoil i n).d] S=some (.non,S')/\SAt S' s l m as' (step t st (.spoil i n))/\Df (s::l::m::as) S S'/\∀n∈as',n∈as∨S.length≤n:=by
 obtain⟨hi,h1,h2⟩:=hc
 obtain⟨a,a1,a2,a3⟩:=hS.at hi
 refine⟨_,as,?_,hS.setld (y:=⟨(AO st.loads i).k,(AO st.loads i).n-n,(AO st.loads i).ow⟩) a1,.set (by simp[List.mem_of_getElem? a1]),fun n hn=>.inl hn⟩
 have r0:=AR hS.root
 have lo:=AX hS.lo
 have xx:=AX a2
 have c2:=AR a2
 simp only[B1]at c2 xx⊢
 simp[BX,EB,Ah.d,r0,lo,a3,xx,c2]
theorem WM(hS:SAt S s l m as st)(ht:J6 t)(h:FP t k st)(hk:k≤16){i:Nat}{n:Int}{ws:List Int}(hc:Can t st (.thr i n ws)):∃S' as',BX [t.d,.ref s,(Ah.thr i n ws).d] S=some (.non,S')/\SAt S' s l m as' (step t st (.thr i n ws))/\Df (s::l::m::as) S S'/\∀n∈as',n∈as∨S.length≤n:=by
 obtain⟨S',e,g1,g2⟩:=RS hS ht h hk hc
 refine⟨S',as,?_,g1,g2,fun n hn=>.inl hn⟩
 have r0:=AR hS.root
 simp only[Ah.d]at e⊢
 simp[BX,EB,r0,e]
theorem VI(hS:SAt S s l m as st)(ht:J6 t)(h:FP t k st)(hk:k≤16){p q:Nat}{x:Rat}(hc:Can t st (.sell p q x)):∃S' as',BX [t.d,.ref s,(Ah.sell p q x).d] S=some (.non,S')/\SAt S' s l m as' (step t st (.sell p q x))/\Df (s::l::m::as) S S'/\∀n∈as',n∈as∨S.length≤n:=by
 obtain⟨S',e,g1,g2⟩:=Qf hS ht h hk hc
 refine⟨S',as,?_,g1,g2,fun n hn=>.inl hn⟩
 have r0:=AR hS.root
 simp only[Ah.d]at e⊢
 simp[BX,EB,r0,e]
theorem VG(hS:SAt S s l m as st)(ht:J6 t)(h:FP t k st)(hk:k≤16){i kd:Nat}{g n:Int}(hc:Can t st (.swap i g kd n)):∃S' as',BX [t.d,.ref s,(Ah.swap i g kd n).d] S=some (.non,S')/\SAt S' s l m as' (step t st (.swap i g kd n))/\Df (s::l::m::as) S S'/\∀n∈as',n∈as∨S.length≤n:=by
 obtain⟨hi,h1,h2,h3,h4,h5,h6⟩:=hc
 obtain⟨a,a1,a2,a3⟩:=hS.at hi
 have hS1:=hS.setld (y:=⟨(AO st.loads i).k,(AO st.loads i).n-g,(AO st.loads i).ow⟩) a1
 have hS2:=hS1.app ⟨kd,n,(AO st.loads i).ow⟩
 have hz:as.length<sizeLine:=Nat.lt_of_lt_of_le (show as.length<50 by rw[hS.len];have:=h.len;omega) (AN (by decide))
 have hz2:st.nums.length≤sizeLine:=Nat.le_trans (show _≤20 by have:=h.nm;omega) (AN (by decide))
 refine⟨_,_,?_,hS2,?_,?_⟩
 ·have r0:=AR hS.root
  have lo:=AX hS.lo
  have xx:=AX a2
  have c2:=AR a2
  have lo1:=AX hS1.lo
  have co1:=AR hS1.lo
  have x1:=AX (List.getElem?_set_self (a:=B1 ⟨(AO st.loads i).k,(AO st.loads i).n-g,(AO st.loads i).ow⟩) (Ac a2))
  have c4:Dg ((S.set a (B1 ⟨(AO st.loads i).k,(AO st.loads i).n-g,(AO st.loads i).ow⟩))++[B1 ⟨kd,n,(AO st.loads i).ow⟩]) l=some (as.map D.ref):=AR (by rw[List.getElem?_append_left (Ac hS1.lo)];exact hS1.lo)
  have nu:=hS2.nu
  have c5:=AR nu
  have st5:∀{T:Sto},T[m]?=some (.lst (st.nums.map D.int))->T.set m (.lst (st.nums.map D.int))=T:=fun h=>set_same h
  have st6:=st5 nu
  simp only[B1]at c2 xx lo1 co1 x1 c4 c5 st6⊢
  have hz':(as.map D.ref).length<sizeLine:=by simpa using hz
  generalize (as.map D.ref)=refs at*
  simp[BX,EB,Ah.d,r0,lo,a3,xx,c2,lo1,x1,co1]at c4 c5 st6⊢
  simp[c4,hz',c5,hz2,st6]
 ·exact((Df.set (by simp[List.mem_of_getElem? a1])).trans .app).trans (.set (by simp))
 ·intro n hn
  rcases List.mem_append.mp hn with w|w
  ·exact .inl w
  ·simp at w;exact .inr (by omega)
theorem Rq(hS:SAt S s l m as st)(ht:J6 t)(h:FP t k st)(hk:k≤16){i kd:Nat}{u g n:Int}(hc:Can t st (.trade u i g kd n)):∃S' as',BX [t.d,.ref s,(Ah.trade u i g kd n).d] S=some (.non,S')/\SAt S' s l m as' (step t st (.trade u i g kd n))/\Df (s::l::m::as) S S'/\∀n∈as',n∈as∨S.length≤n:=by
 obtain⟨hi,h1,h2,h3,h4,h5,h6,h7,h8⟩:=hc
 obtain⟨a,a1,a2,a3⟩:=hS.at hi
 have hS1:=hS.setld (y:=⟨(AO st.loads i).k,(AO st.loads i).n-g,(AO st.loads i).ow⟩) a1
 have hS2:=hS1.app ⟨kd,n,(AO st.loads i).ow⟩
 have hz:as.length<sizeLine:=Nat.lt_of_lt_of_le (show as.length<50 by rw[hS.len];have:=h.len;omega) (AN (by decide))
 have hz2:st.nums.length+1≤sizeLine:=Nat.le_trans (show _≤20 by have:=h.nm;omega) (AN (by decide))
 refine⟨_,_,?_,hS2.nums (st.nums++[u]),?_,?_⟩
 ·have r0:=AR hS.root
  have lo:=AX hS.lo
  have xx:=AX a2
  have c2:=AR a2
  have lo1:=AX hS1.lo
  have co1:=AR hS1.lo
  have x1:=AX (List.getElem?_set_self (a:=B1 ⟨(AO st.loads i).k,(AO st.loads i).n-g,(AO st.loads i).ow⟩) (Ac a2))
  have c4:Dg ((S.set a (B1 ⟨(AO st.loads i).k,(AO st.loads i).n-g,(AO st.loads i).ow⟩))++[B1 ⟨kd,n,(AO st.loads i).ow⟩]) l=some (as.map D.ref):=AR (by rw[List.getElem?_append_left (Ac hS1.lo)];exact hS1.lo)
  have nu:=hS2.nu
  have c5:=AR nu
  simp only[B1]at c2 xx lo1 co1 x1 c4 c5⊢
  have hz':(as.map D.ref).length<sizeLine:=by simpa using hz
  generalize (as.map D.ref)=refs at*
  simp[BX,EB,Ah.d,r0,lo,a3,xx,c2,lo1,x1,co1]at c4 c5⊢
  simp[c4,hz',c5,hz2]
 ·exact(((Df.set (by simp[List.mem_of_getElem? a1])).trans .app).trans (.set (by simp))).trans (.set (by simp))
 ·intro n hn
  rcases List.mem_append.mp hn with w|w
  ·exact .inl w
  ·simp at w;exact .inr (by omega)
theorem VL(hS:SAt S s l m as st)(ht:J6 t)(h:FP t k st)(hk:k≤16){i j:Nat}(hc:Can t st (.pool i j)):∃S' as',BX [t.d,.ref s,(Ah.pool i j).d] S=some (.non,S')/\SAt S' s l m as' (step t st (.pool i j))/\Df (s::l::m::as) S S'/\∀n∈as',n∈as∨S.length≤n:=by
 obtain⟨hij,hi,hj,h1,h2,h3⟩:=hc
 obtain⟨a,a1,a2,a3⟩:=hS.at hi
 obtain⟨b,b1,b2,b3⟩:=hS.at hj
 have sz:=h.sz
 have pi:=h.pcs _ (BU hi)
 have pj:=h.pcs _ (BU hj)
 obtain⟨S1,e1,g1⟩:=O5 (S:=S) (x:=AO st.loads i) (y:=AO st.loads j) (j:=30+170*k) (i:=131+k) a2 b2 (sz.1 _ (BU hi)) (sz.1 _ (BU hj)) (Ic pi.1 pi.2) (Ic pj.1 pj.2) (by omega) (by omega) (by omega) (by rw[h.own _ (BU hi)];have:=ht.2.1;omega)
 have hS1:=hS.same0 g1
 have hab:a≠b:=by
  rintro rfl
  exact hij ((List.getElem?_inj (List.getElem?_eq_some_iff.mp a1).1 hS.ne.2.2.2.2.2.2).mp (a1.trans b1.symm))
 have hS2:=hS1.app ⟨(AO st.loads i).k,(AO st.loads i).n+(AO st.loads j).n,Dh (AO st.loads i).n (AO st.loads j).n (AO st.loads i).ow (AO st.loads j).ow⟩
 have ai:i<as.length:=(List.getElem?_eq_some_iff.mp a1).1
 have bj:j<as.length:=(List.getElem?_eq_some_iff.mp b1).1
 have a1':(as++[S1.length])[i]?=some a:=by rw[List.getElem?_append_left ai];exact a1
 have b1':(as++[S1.length])[j]?=some b:=by rw[List.getElem?_append_left bj];exact b1
 have hS3:=hS2.setld (y:=⟨(AO st.loads i).k,0,(AO st.loads i).ow⟩) a1'
 have hS4:=hS3.setld (y:=⟨(AO st.loads j).k,0,(AO st.loads j).ow⟩) b1'
 have hz:as.length<sizeLine:=Nat.lt_of_lt_of_le (show as.length<50 by rw[hS.len];have:=h.len;omega) (AN (by decide))
 have est:step t st (.pool i j)={st with loads:=((st.loads++[Ld.mk (AO st.loads i).k ((AO st.loads i).n+(AO st.loads j).n) (Dh (AO st.loads i).n (AO st.loads j).n (AO st.loads i).ow (AO st.loads j).ow)]).set i ⟨(AO st.loads i).k,0,(AO st.loads i).ow⟩).set j ⟨(AO st.loads j).k,0,(AO st.loads j).ow⟩}:=by
  have e0:AO (less st.loads i (AO st.loads i).n) j=AO st.loads j:=by
   unfold AO less
   rw[List.getD_eq_getElem?_getD,List.getElem?_set_ne hij,←List.getD_eq_getElem?_getD]
  have e1:less st.loads i (AO st.loads i).n=st.loads.set i ⟨(AO st.loads i).k,0,(AO st.loads i).ow⟩:=by
   unfold less
   rw[Int.sub_self]
  have e2:less (less st.loads i (AO st.loads i).n) j (AO st.loads j).n=(st.loads.set i ⟨(AO st.loads i).k,0,(AO st.loads i).ow⟩).set j ⟨(AO st.loads j).k,0,(AO st.loads j).ow⟩:=by
   rw[O6 (ls:=less st.loads i (AO st.loads i).n),e0,Int.sub_self,e1]
  show{st with loads:=less (less st.loads i (AO st.loads i).n) j (AO st.loads j).n++_}=_
  rw[e2,List.set_append_left _ _ hi,List.set_append_left _ _ (by simpa using hj)]
 refine⟨_,_,?_,est▸hS4,?_,?_⟩
 ·have r0:=AR hS.root
  have lo:=AX hS.lo
  have c0:=AR hS.lo
  have xa:=AX a2
  have xb:=AX b2
  have c1:=AR hS1.lo
  have c4:Dg (S1++[B1 ⟨(AO st.loads i).k,(AO st.loads i).n+(AO st.loads j).n,Dh (AO st.loads i).n (AO st.loads j).n (AO st.loads i).ow (AO st.loads j).ow⟩]) l=some (as.map D.ref):=AR (by rw[List.getElem?_append_left (Ac hS1.lo)];exact hS1.lo)
  have c5:=AR (hS2.ld i a (AO st.loads i) a1' (by show(st.loads++_)[i]?=_;rw[List.getElem?_append_left hi];exact F5 hi))
  have c6:=AR (hS3.ld j b (AO st.loads j) b1' (by show((st.loads++_).set i _)[j]?=_;rw[List.getElem?_set_ne hij,List.getElem?_append_left hj];exact F5 hj))
  simp only[B1]at xa xb c4 c5 c6⊢
  have hz':(as.map D.ref).length<sizeLine:=by simpa using hz
  generalize (as.map D.ref)=refs at*
  generalize Dh (AO st.loads i).n (AO st.loads j).n (AO st.loads i).ow (AO st.loads j).ow=pr at*
  simp[BX,EB,Ah.d,r0,lo,a3,b3,xa,xb,c0,e1]at c4 c5 c6⊢
  simp[c4,hz',c5,c6]
 ·exact(((g1.mono fun _ z=>(nomatch z)).trans .app).trans (.set (by simp))).trans ((Df.set (by simp[List.mem_of_getElem? a1])).trans (.set (by simp[List.mem_of_getElem? b1])))
 ·intro n hn
  rcases List.mem_append.mp hn with w|w
  ·exact .inl w
  ·simp at w;subst w;exact .inr g1.len
theorem W9(hS:SAt S s l m as st)(ht:J6 t)(h:FP t k st)(hk:k≤16){d:Ah}(hc:Can t st d):∃S' as',BX [t.d,.ref s,d.d] S=some (.non,S')/\SAt S' s l m as' (step t st d)/\Df (s::l::m::as) S S'/\∀n∈as',n∈as∨S.length≤n:=by
 cases d with
 |bring=>exact SI hS ht h hk hc
 |pool=>exact VL hS ht h hk hc
 |swap=>exact VG hS ht h hk hc
 |trade=>exact Rq hS ht h hk hc
 |spoil=>exact TK hS ht h hk hc
 |thr=>exact WM hS ht h hk hc
 |sell=>exact VI hS ht h hk hc
end
section
variable{st:Stt}{t:Tr}{k:Nat}
theorem JW{a b:Nat}(h:a≤b):2^a≤2^b:=Nat.pow_le_pow_right (by decide) h
theorem JI{a b:Nat}(h:a≤b):(2:Int)^a≤2^b:=by
 have:=JW h
 exact_mod_cast this
theorem HH{c:Int}(h:0≤c):((c.toNat:Nat):Rat)=(c:Rat):=by
 have:((c.toNat:Nat):Int)=c:=Int.toNat_of_nonneg h
 have:(((c.toNat:Nat):Int):Rat)=(c:Rat):=by rw[this]
 exact this
theorem P0{B T k j:Nat}(hB:B<2^(30+170*k))(hT:T<2^j)(hj:j≤170):B*T<2^(30+170*(k+1)):=by
 have:=El hB hT
 exact Nat.lt_of_lt_of_le this (JW (by omega))
theorem We{G B P p:Nat}(h:G≤B):∀r∈TH P p,Ok G B r:=by
 intro r hr
 obtain⟨i,_,rfl⟩:=List.mem_map.mp hr
 split
 ·exact Ok.one h
 ·exact Ok.zero
theorem QI{G B:Nat}{n m:Int}{ss os:List Rat}(hn:0<n)(hm:0<m)(hs:∀r∈ss,Ok G B r)(ho:∀r∈os,Ok G B r):∀r∈Dh n m ss os,Ok (G*(n+m).toNat) (B*(n+m).toNat) r:=by
 intro r hr
 unfold Dh at hr
 rw[List.mem_iff_getElem?]at hr
 obtain⟨i,hi'⟩:=hr
 rw[List.getElem?_zipWith_eq_some]at hi'
 obtain⟨x,y,hx,hy,rfl⟩:=hi'
 have:=Ok.mix (a:=n.toNat) (b:=m.toNat) (t:=(n+m).toNat) (hs x (List.mem_of_getElem? hx)) (ho y (List.mem_of_getElem? hy)) (by omega) (by omega)
 rwa [HH (by omega),HH (by omega),HH (by omega)]at this
theorem Px{G B p q:Nat}{x:Rat}{ss:List Rat}(hp:p<ss.length)(hq:q<ss.length)(x1:0<x.num)(x2:x.num≤x.den)(hs:∀r∈ss,Ok G B r):∀r∈HE p q x ss,Ok (G*x.den) (2*B*x.den) r:=by
 have dp:=x.den_pos
 have hsp:=hs _ (getD_mem (d:=0) hp)
 have hsq:=hs _ (getD_mem (d:=0) hq)
 have xs:=EA x
 have ex:(x.num:Rat)=((x.num.toNat:Nat):Rat):=(HH (by omega)).symm
 have nz:=Im x
 intro r hr
 unfold HE at hr
 rcases List.mem_or_eq_of_mem_set hr with hr|hr
 ·rcases List.mem_or_eq_of_mem_set hr with hr|hr
  ·exact(hs r hr).up (by rw[Nat.mul_assoc];omega)
  ·rw [hr]
   obtain⟨z,e,hz⟩:=Ok.mix (a:=x.den-x.num.toNat) (b:=x.num.toNat) (t:=x.den) hsp (Ok.zero (G:=G) (B:=B)) (by omega) dp
   refine⟨z,?_,Nat.le_trans hz (by rw[Nat.mul_assoc];omega)⟩
   rw[←e]
   have e2:((x.den-x.num.toNat:Nat):Rat)=(x.den:Rat)-(x.num:Rat):=by
    have:(((x.den-x.num.toNat:Nat):Int):Rat)=((x.den-x.num:Int):Rat):=by
     congr 1;omega
    push_cast at this
    exact this
   rw[e2]
   generalize ss.getD p 0=sp at*
   congr 1
   grind
 ·rw[hr]
  obtain⟨z,e1,hz⟩:=hsp
  obtain⟨y,e2,hy⟩:=hsq
  refine⟨y*x.den+z*x.num.toNat,?_,?_⟩
  ·generalize ss.getD p 0=sp at*
   generalize ss.getD q 0=sq at*
   push_cast
   rw[←ex,←e1,←e2]
   grind
  ·have h1:y*x.den≤B*x.den:=Nat.mul_le_mul_right _ hy
   have h2:z*x.num.toNat≤B*x.den:=Nat.mul_le_mul hz (by omega)
   rw[Nat.mul_assoc];omega
theorem GY{f:Rat->Rat->Rat}{a b:List Rat}{n:Nat}(h:a.length=n)(g:b.length=n):(List.zipWith f a b).length=n:=by rw[List.length_zipWith,h,g];omega
theorem F3{P:Ld->Prop}{i:Nat}{n:Int}(hi:i<st.loads.length)(h:∀x∈st.loads,P x)(g:P ⟨(AO st.loads i).k,(AO st.loads i).n-n,(AO st.loads i).ow⟩):∀x∈less st.loads i n,P x:=by
 intro x hx
 rcases Lj hx hi with h1|h1
 ·exact h x h1
 ·rw[h1];exact g
theorem LW{P:Ld->Prop}{ls:List Ld}{y:Ld}(h:∀x∈ls,P x)(g:P y):∀x∈ls++[y],P x:=by
 intro x hx
 rcases List.mem_append.mp hx with w|w
 ·exact h x w
 ·simp at w;rw[w];exact g
structure LOk(t:Tr)(k G B:Nat)(x:Ld):Prop where
 kd:x.k<t.k
 n0:0≤x.n
 n1:x.n<2^(131+k)
 own:x.ow.length=t.p
 ok:∀r∈x.ow,Ok G B r
theorem LOk.up{G B T B':Nat}{x:Ld}(h:LOk t k G B x)(hT:B*T≤B'):LOk t (k+1) (G*T) B' x:=⟨h.kd,h.n0,Int.lt_of_lt_of_le h.n1 (JI (by omega)),h.own,fun r hr=>(h.ok r hr).up hT⟩
theorem LOk.up1{G B:Nat}{x:Ld}(h:LOk t k G B x):LOk t (k+1) G B x:=⟨h.kd,h.n0,Int.lt_of_lt_of_le h.n1 (JI (by omega)),h.own,h.ok⟩
theorem LOk.less{G B:Nat}{x:Ld}{n:Int}(h:LOk t k G B x)(h0:0≤n)(h1:n≤x.n):LOk t k G B ⟨x.k,x.n-n,x.ow⟩:=⟨h.kd,show 0≤x.n-n by omega,show x.n-n<_ by have:=h.n1;omega,h.own,h.ok⟩
theorem FP.of{G B:Nat}(h1:st.loads.length≤4+k)(h2:∀x∈st.loads,LOk t k G B x)(h3:st.hold.length=t.p)(h4:st.nums.length≤k)(g0:0<G)(g1:G≤B)(g2:B<2^(30+170*k))(h5:∀r∈st.hold,Ok G B r):FP t k st:=⟨h1,fun x hx=>(h2 x hx).kd,fun x hx=>⟨(h2 x hx).n0,(h2 x hx).n1⟩,fun x hx=>(h2 x hx).own,h3,h4,G,B,g0,g1,g2,fun x hx=>(h2 x hx).ok,h5⟩
theorem Y3{n:Int}(h:n<2^131):n<2^(131+k):=Int.lt_of_lt_of_le h (JI (by omega))
theorem Sl(ht:J6 t)(h:FP t k st)(hk:k≤16){d:Ah}(hc:Can t st d):FP t (k+1) (step t st d):=by
  obtain⟨G,B,g0,g1,g2,hl,hh⟩:=h.gb
  have L:∀x∈st.loads,LOk t k G B x:=fun x hx=>⟨h.kind x hx,(h.pcs x hx).1,(h.pcs x hx).2,h.own x hx,hl x hx⟩
  have g2':B<2^(30+170*(k+1)):=Nat.lt_of_lt_of_le g2 (JW (by omega))
  have hlen:=h.len
  have hnm:=h.nm
  cases d with
  | bring p kd n =>
    obtain⟨h1,h2,h3,h4⟩:=hc
    refine FP.of (G:=G) (B:=B) (by simp[step];omega) (LW (fun x hx=>(L x hx).up1) ⟨h2,by show 0≤n;omega,Y3 h4,by simp[TH],We g1⟩) h.hold (Nat.le_succ_of_le hnm) g0 g1 g2' hh
  | pool i j =>
    obtain⟨hij,hi,hj,h1,h2,h3⟩:=hc
    have li:=L _ (BU hi)
    have lj:=L _ (BU hj)
    have tl:((AO st.loads i).n+(AO st.loads j).n).toNat<2^(132+k):=by
      have a:=li.n1;have b:=lj.n1
      have e:(2:Int)^(132+k)=2^(131+k)*2:=by rw[show 132+k=(131+k)+1 by omega,Int.pow_succ]
      have:(((AO st.loads i).n+(AO st.loads j).n).toNat:Int)<((2^(132+k):Nat):Int):=by
        rw[Int.toNat_of_nonneg (by omega)]
        push_cast
        rw[e];omega
      exact_mod_cast this
    have t0:0<((AO st.loads i).n+(AO st.loads j).n).toNat:=by omega
    refine FP.of (G:=G*((AO st.loads i).n+(AO st.loads j).n).toNat) (B:=B*((AO st.loads i).n+(AO st.loads j).n).toNat) (by simp[step,C2];omega) (LW ?_ ⟨li.kd,by show 0≤(AO st.loads i).n+(AO st.loads j).n;omega,?_,?_,QI h1 h2 li.ok lj.ok⟩) h.hold (Nat.le_succ_of_le hnm) (Nat.mul_pos g0 t0) (Nat.mul_le_mul_right _ g1) (P0 g2 tl (by omega)) (fun r hr=>(hh r hr).up (Nat.le_refl _))
    · have e0 : AO (less st.loads i (AO st.loads i).n) j = AO st.loads j := by
        unfold AO less
        rw[List.getD_eq_getElem?_getD,List.getElem?_set_ne hij,←List.getD_eq_getElem?_getD]
      have A:=F3 (P:=LOk t (k+1) (G*((AO st.loads i).n+(AO st.loads j).n).toNat) (B*((AO st.loads i).n+(AO st.loads j).n).toNat)) (n:=(AO st.loads i).n) hi (fun x hx=>(L x hx).up (Nat.le_refl _)) ((li.up (Nat.le_refl _)).less (by omega) (Int.le_refl _))
      have A2:=F3 (st:={st with loads:=less st.loads i (AO st.loads i).n}) (i:=j) (n:=(AO st.loads j).n) (by simpa[C2]using hj) A (by
        show LOk _ _ _ _ ⟨(AO (less st.loads i (AO st.loads i).n) j).k,(AO (less st.loads i (AO st.loads i).n) j).n-_,(AO (less st.loads i (AO st.loads i).n) j).ow⟩
        rw[e0]
        exact(lj.up (Nat.le_refl _)).less (by omega) (Int.le_refl _))
      exact A2
    · show (AO st.loads i).n + (AO st.loads j).n < 2 ^ (131 + (k + 1))
      have a:=li.n1;have b:=lj.n1
      rw[show 131+(k+1)=(131+k)+1 by omega,Int.pow_succ];omega
    ·exact GY li.own lj.own
  | swap i g kd n =>
    obtain⟨hi,h1,h2,h3,h4,h5,h6⟩:=hc
    have li:=L _ (BU hi)
    refine FP.of (G:=G) (B:=B) (by simp[step,C2];omega) (LW (F3 hi (fun x hx=>(L x hx).up1) (li.up1.less (by omega) h2)) ⟨h3,by show 0≤n;omega,Y3 h6,li.own,li.ok⟩) h.hold (Nat.le_succ_of_le hnm) g0 g1 g2' hh
  | trade u i g kd n =>
    obtain⟨hi,h1,h2,h3,h4,h5,h6,h7⟩:=hc
    have li:=L _ (BU hi)
    refine FP.of (G:=G) (B:=B) (by simp[step,C2];omega) (LW (F3 hi (fun x hx=>(L x hx).up1) (li.up1.less (by omega) h2)) ⟨h3,by show 0≤n;omega,Y3 h6,li.own,li.ok⟩) h.hold (by simp[step];omega) g0 g1 g2' hh
  | spoil i n =>
    obtain⟨hi,h1,h2⟩:=hc
    have li:=L _ (BU hi)
    refine FP.of (G:=G) (B:=B) (by simp[step,C2];omega) (F3 hi (fun x hx=>(L x hx).up1) (li.up1.less (by omega) h2)) h.hold (Nat.le_succ_of_le hnm) g0 g1 g2' hh
  | thr i n ws =>
    obtain⟨hi,h1,h2,h3,h4⟩:=hc
    have li:=L _ (BU hi)
    have W:=IJ ht h (by omega) h3 h4
    have wl:(Dy t st.loads ws).toNat<2^(145+k):=by
      have:((Dy t st.loads ws).toNat:Int)<((2^(145+k):Nat):Int):=by
        rw[Int.toNat_of_nonneg (by omega)];push_cast;exact W.2
      exact_mod_cast this
    have bo:=fun{ss:List Rat} (hs:∀r∈ss,Ok G B r)=>Oy ht h (by omega) h3 h4 hi h1 h2 li.ok hs
    refine FP.of (G:=G*(Dy t st.loads ws).toNat) (B:=B*(Dy t st.loads ws).toNat) (by simp[step,C2];omega) ?_ (GY h.hold li.own) (Nat.le_succ_of_le hnm) (Nat.mul_pos g0 (by omega)) (Nat.mul_le_mul_right _ g1) (P0 g2 wl (by omega)) (bo hh)
    intro x hx
    obtain⟨y,hy,rfl⟩:=List.mem_map.mp hx
    have ly:=F3 (P:=LOk t k G B) hi L (li.less (n:=n) (by omega) h2) y hy
    exact⟨ly.kd,ly.n0,ly.up1.n1,GY ly.own li.own,bo ly.ok⟩
  | sell p q x =>
    obtain⟨h1,h2,h3,h4,h5,h6⟩:=hc
    have dp:=x.den_pos
    refine FP.of (G:=G*x.den) (B:=2*B*x.den) (by simp[step];omega) ?_ (by simp[step,HE,h.hold]) (Nat.le_succ_of_le hnm) (Nat.mul_pos g0 dp) (Nat.mul_le_mul_right _ (by omega)) ?_ (Px (by rw[h.hold];exact h2) (by rw[h.hold];exact h3) h4 h5 hh)
    · intro y hy
      obtain⟨z,hz,rfl⟩:=List.mem_map.mp hy
      have lz:=L z hz
      exact⟨lz.kd,lz.n0,lz.up1.n1,by simp[HE,lz.own],Px (by rw[lz.own];exact h2) (by rw[lz.own];exact h3) h4 h5 lz.ok⟩
    · have := P0 (B := B) (T := 2 * x.den) (j := 5) g2 (by omega) (by omega)
      rw[show 2*B*x.den=B*(2*x.den) by rw[←Nat.mul_assoc,Nat.mul_comm 2 B]]
      exact this
end
theorem IM{α:Type}{f:α->D}:∀{xs:List α},(∀x∈xs,(f x).lay=true)->D.lays (xs.map f)=true
  | [],_=>rfl
  | x :: xs, h => by
    show((f x).lay && D.lays (xs.map f))=true
    rw[h x List.mem_cons_self,IM fun y hy=>h y (List.mem_cons_of_mem _ hy)]
    rfl
theorem SU{ds:List D}(h:D.lays ds=true):Cy (.lst ds) (.lst [])=true:=by
 unfold Cy
 show(D.lays ds && true && _)=true
 rw[h]
 simp only[Bool.true_and,decide_eq_true_eq]
 exact Nat.le_trans (Nat.min_le_right _ _) (by decide)
noncomputable def Ed(is:List Nat):List D:=is.map fun(i:Nat)=>D.int i
theorem IY{is:List Nat}:Cy (.lst (Ed is)) (.lst [])=true:=SU (IM fun _ _=>rfl)
theorem Ry{d:D}{ds:List D}:deq (.lst (d::ds)) (.lst [])=false:=rfl
theorem VT:deq (.lst []) (.lst [])=true:=rfl
theorem Lc{is:List Nat}:deq (.lst (Ed is)) (.lst [])=is.isEmpty:=by
 cases is with
 |nil=>exact VT
 |cons i is=>exact Ry
theorem JP{ds:List D}:NO 0 ds=(List.range ds.length).map fun(i:Nat)=>D.tup [.int i,ds.getD i .non]:=by
 apply List.ext_getElem?
 intro i
 rw[IL,List.getElem?_map]
 by_cases h:i<ds.length
 ·rw[List.getElem?_eq_getElem h,List.getElem?_range h]
  simp[List.getElem?_eq_getElem h]
 ·rw[List.getElem?_eq_none (by omega),List.getElem?_eq_none (by simp;omega)]
  rfl
theorem HG{is:List Nat}:(Ed is).length=is.length:=by simp[Ed]
theorem JD{is:List Nat}{r:Int}(h0:0≤r)(h1:r<is.length):∃i∈is,atI (Ed is) r=some (.int (i:Nat)):=by
 have h2:r.toNat<is.length:=by omega
 refine⟨is[r.toNat],List.getElem_mem h2,?_⟩
 have:=UH (xs:=Ed is) h0 (by rw[HG];exact h1)
 rw[this]
 simp[Ed]
theorem PM{x K:Int}(h0:0≤x)(h1:x<2*K):x % K=if x<K then x else x-K:=by
 split
 ·exact Int.emod_eq_of_lt h0 (by assumption)
 ·have:x % K=(x-K) % K:=by rw[Int.sub_emod_right]
  rw[this]
  exact Int.emod_eq_of_lt (by omega) (by omega)
section
variable{S:Sto}{p s l m:Nat}{as:List Nat}{st:Stt}{t:Tr}{k:Nat}
noncomputable def B0(st:Stt):List Nat:=(List.range st.loads.length).filter fun i=>decide (0<(AO st.loads i).n)
theorem V1(hS:SAt S s l m as st)(hl:st.loads.length≤50):Bj [(l,as.map D.ref)] (tTp [(tNm 0),(tNm 1)]) (eOp (o2 wGt) [(eOp (o2 wIx) [(eV 1),(eC (.int 1))]),(eC (.int 0))]) (eV 0) (NO 0 (as.map D.ref)) [] [none,none] S=some (Ed (B0 st),S):=by
 have:=C4 (gs:=[(l,as.map D.ref)]) (t:=tTp [(tNm 0),(tNm 1)]) (c:=eOp (o2 wGt) [(eOp (o2 wIx) [(eV 1),(eC (.int 1))]),(eC (.int 0))]) (f:=eV 0) (C:=[]) (m:=2) (e:=fun i:Nat=>D.tup [.int i,(as.map D.ref).getD i .non]) (g:=fun i:Nat=>D.int i) (b:=fun i=>decide (0<(AO st.loads i).n)) (S:=S) hS.guard (xs:=List.range st.loads.length) (acc:=[]) (os:=[none,none]) rfl (Nat.le_trans (show _≤50 by simp;omega) (AN (by decide))) (by
  intro i hi os ho
  obtain⟨o1,o2,rfl⟩:∃o1 o2,os=[o1,o2]:=by
   match os,ho with
   | [a,b],_=>exact⟨a,b,rfl⟩
  obtain⟨a,a1,a2,a3⟩:=hS.at (List.mem_range.mp hi)
  have e:(as.map D.ref).getD i .non=.ref a:=by simp[a1]
  rw[e]
  refine⟨[some (.int i),some (.ref a)],rfl,by simp,?_,by simp⟩
  simp[AX a2,B1])
 rw[JP,List.length_map,hS.len]
 exact this
theorem II{i:Nat}(h:i∈B0 st):i<st.loads.length/\0<(AO st.loads i).n:=by
 unfold B0 at h
 rw[List.mem_filter]at h
 exact⟨List.mem_range.mp h.1,by simpa using h.2⟩
noncomputable def Dl(st:Stt)(j:Nat):List Nat:=(B0 st).filter fun i=> !(i==j) && ((AO st.loads i).k==(AO st.loads j).k)
theorem LP:(B0 st).length≤st.loads.length:=by
 unfold B0
 exact Nat.le_trans (List.length_filter_le _ _) (by simp)
theorem Sj{a b:Nat}:((a:Int)==(b:Int))=(a==b):=by
 by_cases h:a=b
 ·subst h;simp
 ·have:((a:Int)==(b:Int))=false:=by simp;omega
  rw[this];simp[h]
theorem Uy(hS:SAt S s l m as st)(hl:st.loads.length≤50){j:Nat}(hj:j∈B0 st):Bj [] (tNm 2) (Gk (eOp (o2 wNe) [(eV 2),(eV 1)]) (eOp (o2 wEq) [(eOp (o2 wIx) [(eOp (o2 wIx) [(eV 0),(eV 2)]),(eC (.int 0))]),(eOp (o2 wIx) [(eOp (o2 wIx) [(eV 0),(eV 1)]),(eC (.int 0))])])) (eV 2) (Ed (B0 st)) [] [some (.ref l),some (.int j),none] S=some (Ed (Dl st j),S):=by
 have fl:=LP (st:=st)
 exact C4 (gs:=[]) (t:=tNm 2) (f:=eV 2) (C:=[some (.ref l),some (.int j)]) (m:=1) (e:=fun i:Nat=>D.int i) (g:=fun i:Nat=>D.int i) (b:=fun i=> !(i==j) && ((AO st.loads i).k==(AO st.loads j).k)) (S:=S) Ao (xs:=B0 st) (acc:=[]) (os:=[none]) rfl (Nat.le_trans (show _≤50 by simp;omega) (AN (by decide))) (by
  intro i hi os ho
  obtain⟨o1,rfl⟩:∃o1,os=[o1]:=by
   match os,ho with
   | [a],_=>exact⟨a,rfl⟩
  obtain⟨a,a1,a2,a3⟩:=hS.at (II hi).1
  obtain⟨b,b1,b2,b3⟩:=hS.at (II hj).1
  refine⟨[some (.int i)],rfl,by simp,?_,by simp⟩
  by_cases e:i=j
  ·subst e
   simp
  ·have e':((i:Int)==(j:Int))=false:=by simp;omega
   have e2:(i==j)=false:=by simp[e]
   simp[e',e2,AX hS.lo,a3,b3,AX a2,AX b2,B1,Sj])
theorem SY{i j:Nat}(h:i∈Dl st j):i∈B0 st/\i≠j/\(AO st.loads i).k=(AO st.loads j).k:=by
 unfold Dl at h
 rw[List.mem_filter]at h
 simp at h
 exact⟨h.1,h.2.1,h.2.2⟩
noncomputable def EK(st:Stt):List Nat:=(List.range 10).filter fun i=> !(st.nums.any fun u=>u==(i:Int))
theorem N3{us:List Int}{i:Int}:inD (.int i) (us.map D.int)=us.any fun u=>u==i:=by
 unfold inD
 rw[List.any_map]
 rfl
@[simp] theorem Zu{b:Bool}{w:Wv}{r:List D}:wIn b w (.own r)=if(GR (fz w) && r.all GR)=true then some (.val (.bl (if b then !inD (fz w) r else inD (fz w) r)))else none:=nr rfl
@[simp] theorem Zf{b:Bool}{w:Wv}{r:List D}:wIn b w (.val (.lst r))=if(GR (fz w) && r.all GR)=true then some (.val (.bl (if b then !inD (fz w) r else inD (fz w) r)))else none:=nr rfl
theorem MH{us:List Int}:(us.map D.int).all GR=true:=by
 rw[List.all_map,List.all_eq_true]
 intro x _;rfl
@[simp] theorem ab{i:Int}:GR (.int i)=true:=nr rfl
theorem Vz(hS:SAt S s l m as st):Bj [] (tNm 1) (eOp (o2 (wIn true)) [(eV 1),(eV 0)]) (eV 1) (Hi 0 10) [] [some (.ref m),none] S=some (Ed (EK st),S):=by
 exact C4 (gs:=[]) (t:=tNm 1) (f:=eV 1) (C:=[some (.ref m)]) (m:=1) (e:=fun i:Nat=>D.int (0+(i:Int))) (g:=fun i:Nat=>D.int i) (b:=fun i=> !(st.nums.any fun u=>u==(i:Int))) (S:=S) Ao (xs:=List.range 10) (acc:=[]) (os:=[none]) rfl (Nat.le_trans (show _≤50 by simp) (AN (by decide))) (by
  intro i hi os ho
  obtain⟨o1,rfl⟩:∃o1,os=[o1]:=by
   match os,ho with
   | [a],_=>exact⟨a,rfl⟩
  refine⟨[some (.int i)],rfl,by simp,?_,by simp⟩
  have nu:=AX hS.nu
  have fi:=MH (us:=st.nums)
  have ii:=N3 (us:=st.nums) (i:=(i:Int))
  generalize st.nums.map D.int=ud at*
  generalize (st.nums.any fun u=>u==(i:Int))=bb at*
  simp[nu,fi,ii])
theorem TQ{i:Nat}(h:i∈EK st):(i:Int)∉st.nums/\i≤9:=by
 unfold EK at h
 rw[List.mem_filter]at h
 have h1:=List.mem_range.mp h.1
 refine⟨?_,by omega⟩
 intro z
 have h2:=h.2
 have:(st.nums.any fun u=>u==(i:Int))=true:=List.any_eq_true.mpr ⟨_,z,by simp⟩
 rw[this]at h2
 cases h2
theorem TX:(EK st).length≤10:=by
 unfold EK
 exact Nat.le_trans (List.length_filter_le _ _) (by simp)
theorem SV{j:Nat}:(Dl st j).length≤st.loads.length:=by
 unfold Dl
 exact Nat.le_trans (List.length_filter_le _ _) LP
end
section
variable{S:Sto}{p s l m:Nat}{as:List Nat}{st:Stt}{t:Tr}{k:Nat}
def LD:Ex:=(AY (xIf (Gk (eOp (o2 wLt) [(eV 7),(eC (.int 8))]) (eOp (o2 wGt) [(eOp (o2 wIx) [(eV 1),(eC (.int 1))]),(eC (.int 1))])) (AY (Bc 11 (eOp (o2 N9) [(eOp (o2 A4) [(eOp (o2 A4) [(eOp (o2 wIx) [(eOp (o2 wIx) [(eV 3),(eV 8)]),(eC (.int 0))]),(eC (.int 1))]),(AM AG [(eV 0),(eOp (o2 N5) [(eOp (o2 wIx) [(eV 1),(eC (.int 1))]),(eC (.int 1))])])]),(eOp (o2 wIx) [(eV 1),(eC (.int 1))])]))
  (AY (Bc 12 (Bt [5] 1 (Jg [(eC (.int 10))]) (tNm 1) (eOp (o2 (wIn true)) [(eV 1),(eV 0)]) (eV 1)))
  (AY (xIf (Gk (eOp (o2 wEq) [(eV 7),(eC (.int 7))]) (eOp (o2 wNe) [(eV 12),(D9 [])])) (BQ (B4 [(eC (.str "trade")),(eOp (o2 wIx) [(eV 12),(AM AG [(eV 0),(eOp (o1 F6) [(eV 12)])])]),(eV 8),(eV 9),(eV 11),(AM BE [(eV 0)])])) CD)
  (BQ (B4 [(eC (.str "swap")),(eV 8),(eV 9),(eV 11),(AM BE [(eV 0)])]))))) CD)
  (AY (xIf (eOp (o2 wEq) [(eV 7),(eC (.int 8))]) (BQ (B4 [(eC (.str "spoil")),(eV 8),(eV 9)])) CD)
  (AY (xIf (Gk (eOp (o2 wEq) [(eV 7),(eC (.int 9))]) (eOp (o2 wGt) [(eOp (o2 wIx) [(eV 1),(eC (.int 0))]),(eC (.int 1))])) (AY (Bc 13 (AM AG [(eV 0),(eOp (o2 wIx) [(eV 1),(eC (.int 0))])]))
  (BQ (B4 [(eC (.str "sell")),(eV 13),(eOp (o2 N9) [(eOp (o2 A4) [(eOp (o2 A4) [(eV 13),(eC (.int 1))]),(AM AG [(eV 0),(eOp (o2 N5) [(eOp (o2 wIx) [(eV 1),(eC (.int 0))]),(eC (.int 1))])])]),(eOp (o2 wIx) [(eV 1),(eC (.int 0))])]),(AM D4 [(eV 0)])]))) CD)
  (BQ (B4 [(eC (.str "throw")),(eV 8),(eV 9),(AM Ct [(eV 0),(eOp (o2 A4) [(eOp (o2 wIx) [(eV 1),(eC (.int 1))]),(eC (.int 1))])])])))))
def PY:Ex:=(xIf (eOp (o2 wLt) [(eV 7),(eC (.int 5))]) (AY (Bc 10 (Bt [3,8] 1 (FR (eV 6)) (tNm 2) (Gk (eOp (o2 wNe) [(eV 2),(eV 1)]) (eOp (o2 wEq) [(eOp (o2 wIx) [(eOp (o2 wIx) [(eV 0),(eV 2)]),(eC (.int 0))]),(eOp (o2 wIx) [(eOp (o2 wIx) [(eV 0),(eV 1)]),(eC (.int 0))])])) (eV 2)))
  (xIf (eOp (o2 wNe) [(eV 10),(D9 [])]) (BQ (B4 [(eC (.str "pool")),(eV 8),(eOp (o2 wIx) [(eV 10),(AM AG [(eV 0),(eOp (o1 F6) [(eV 10)])])])])) CD)) CD)
theorem K2:KW=(AY (NU (tTp [(tNm 3),(tNm 4),(tNm 5)]) (eV 2))
  (AY (Bc 6 (Bt [] 2 (WB (eV 3)) (tTp [(tNm 0),(tNm 1)]) (eOp (o2 wGt) [(eOp (o2 wIx) [(eV 1),(eC (.int 1))]),(eC (.int 0))]) (eV 0)))
  (AY (Bc 7 (AM AG [(eV 0),(eC (.int 12))]))
  (AY (xIf (eOr (eOp (o2 wLt) [(eV 7),(eC (.int 2))]) (eOp (o2 wEq) [(eV 6),(D9 [])])) (BQ (B4 [(eC (.str "bring")),(AM AG [(eV 0),(eOp (o2 wIx) [(eV 1),(eC (.int 0))])]),(AM AG [(eV 0),(eOp (o2 wIx) [(eV 1),(eC (.int 1))])]),(AM BE [(eV 0)])])) CD)
  (AY (Bc 8 (eOp (o2 wIx) [(eV 6),(AM AG [(eV 0),(eOp (o1 F6) [(eV 6)])])]))
  (AY (Bc 9 (eOp (o2 A4) [(eC (.int 1)),(AM AG [(eV 0),(eOp (o2 V9) [(eOp (o2 wIx) [(eOp (o2 wIx) [(eV 3),(eV 8)]),(eC (.int 1))]),(eC (.int 2000))])])]))
  (AY PY LD))))))):=rfl
theorem U4 (hp : Dc p S) (hS : SAt S s l m as st) (hps : p ∉ s :: l :: m :: as) (ht : J6 t) (h : FP t k st) (hk : k ≤ 16) : ∃ d S', Cu [.ref p, t.d, .ref s] S = some (Ah.d d, S') /\ Pn p S S' /\ Can t st d := by
  obtain⟨t1,t2,t3,t4,t5,t6⟩:=ht
  have hlen:=h.len
  have st':∀{S':Sto},Pn p S S'->SAt S' s l m as st:=fun g=>hS.same g.same (by simpa using hps)
  have r0:=AR hS.root
  have cf:=V1 hS (by omega)
  have fl:=LP (st:=st)
  have sq:=D8 hS.lo
  obtain⟨way,S1,e1,a1,b1,p1⟩:=Ag hp (n:=12) (by decide) (by decide)
  have okF:=IY (is:=B0 st)
  have dqF:=Lc (is:=B0 st)
  by_cases hb:way<2∨(B0 st).isEmpty=true
  · obtain ⟨x2, S2, e2, a2, b2, p2⟩ := Ag p1.pen (n := t.p) (by omega) (by omega)
    obtain⟨x3,S3,e3,a3,b3,p3⟩:=Ag p2.pen (n:=t.k) (by omega) (by omega)
    obtain⟨x4,S4,e4,p4,a4,b4⟩:=HI p3.pen
    obtain⟨x2,rfl⟩:=Dk a2
    obtain⟨x3,rfl⟩:=Dk a3
    refine⟨.bring x2 x3 x4,S4,?_,((p1.trans p2).trans p3).trans p4,by omega,by omega,a4,b4⟩
    by_cases hw:way<2
    ·simp[Cu,K2,r0,sq,cf,e1,Tr.d,hw,e2,e3,e4,Ah.d]
    · have hf := hb.resolve_left hw
      simp[Cu,K2,r0,sq,cf,e1,Tr.d,hw,okF,dqF,hf,e2,e3,e4,Ah.d]
  · have hw2 : ¬ way < 2 := fun z => hb (.inl z)
    have hf:(B0 st).isEmpty=false:=by
      cases z:(B0 st).isEmpty with
      |true=>exact absurd (.inr z) hb
      |false=>rfl
    have hfl:0<(B0 st).length:=by
      cases z:B0 st with
      |nil=>rw[z]at hf;cases hf
      |cons a b=>simp
    obtain⟨rl,S2,e2,a2,b2,p2⟩:=Ag p1.pen (n:=(B0 st).length) (by omega) (by omega)
    obtain⟨i,mi,ei⟩:=JD a2 b2
    have fi:=II mi
    have hS1:=st' p1
    have hS2:=st' (p1.trans p2)
    obtain⟨a,x1,x2,x3⟩:=hS2.at fi.1
    have n1:=fi.2
    obtain⟨rs,S3,e3,a3,b3,p3⟩:=Ag p2.pen (n:=if 2000<(AO st.loads i).n then 2000 else(AO st.loads i).n) (by split<;>omega) (by split<;>omega)
    have hsome:1≤1+rs/\1+rs≤(AO st.loads i).n:=by split at b3<;>omega
    have p23:=(p1.trans p2).trans p3
    have hS3:=st' p23
    have lo2:=AX hS2.lo
    have lo3:=AX hS3.lo
    have x2':=AX x2
    have x4:S3[a]?=some (B1 (AO st.loads i)):=hS3.ld i a _ x1 (F5 fi.1)
    have x4':=AX x4
    have kd:=h.kind _ (BU fi.1)
    have nl:=HG (is:=B0 st)
    have cs:=Uy hS3 (by omega) mi
    have okS:=IY (is:=Dl st i)
    have dqS:=Lc (is:=Dl st i)
    have sl:=SV (st:=st) (j:=i)
    have nls:=HG (is:=Dl st i)
    have pre:Cu [.ref p,t.d,.ref s] S=((PY [some (.ref p),some t.d,some (.ref s),some (.ref l),some (shD st.hold),some (.ref m),some (.lst (Ed (B0 st))),some (.int way),some (.int i),some (.int (1+rs)),none,none,none,none] S3).bind (XD LD)).map fun r=>(flD r.1,r.2.2):=by
      simp[Cu,K2,r0,sq,cf,e1,hw2,okF,dqF,hf,nl,e2,ei,lo2,x3,x2',e3]
    have tail : ∀ o10, (way < 5 -> (Dl st i).isEmpty = true) -> ∃ d S', (LD [some (.ref p), some t.d, some (.ref s), some (.ref l), some (shD st.hold), some (.ref m), some (.lst (Ed (B0 st))), some (.int way), some (.int i), some (.int (1 + rs)), o10, none, none, none] S3).map (fun r => (flD r.1, r.2.2)) = some (Ah.d d, S') /\ Pn p S S' /\ Can t st d := by
      intro o10 _
      clear pre cs okS dqS
      by_cases hsw:way<8/\1<t.k
      · obtain ⟨hw8, hk1⟩ := hsw
        have hk1':(1:Int)<t.k:=by omega
        obtain⟨rk,S4,e4,a4,b4,p4⟩:=Ag p3.pen (n:=(t.k:Int)-1) (by omega) (by omega)
        have hS4:=st' (p23.trans p4)
        have hmod:=PM (x:=((AO st.loads i).k:Int)+1+rk) (K:=t.k) (by omega) (by omega)
        obtain⟨kd2,ekd⟩:∃q:Nat,((AO st.loads i).k+1+rk) % (t.k:Int)=(q:Int):=⟨_,(Int.toNat_of_nonneg (Int.emod_nonneg _ (by omega))).symm⟩
        have hkd:kd2<t.k/\kd2≠(AO st.loads i).k:=by
          rw[ekd]at hmod
          split at hmod<;>omega
        have kp:0<t.k:=by omega
        have cl:=Vz hS4
        have okL:=IY (is:=EK st)
        have dqL:=Lc (is:=EK st)
        have ll:=TX (st:=st)
        have nll:=HG (is:=EK st)
        have rt:GD 10=true:=Ce (by decide) (by decide)
        by_cases htr:way=7/\(EK st).isEmpty=false
        · obtain ⟨hw7, hle⟩ := htr
          have hll:0<(EK st).length:=by
            cases z:EK st with
            |nil=>rw[z]at hle;cases hle
            |cons a b=>simp
          obtain⟨ru,S5,e5,a5,b5,p5⟩:=Ag p4.pen (n:=(EK st).length) (by omega) (by omega)
          obtain⟨u,mu,eu⟩:=JD a5 b5
          obtain⟨x6,S6,e6,p6,a6,b6⟩:=HI p5.pen
          have fu:=TQ mu
          refine⟨.trade u i (1+rs) kd2 x6,S6,?_,((p23.trans p4).trans p5).trans p6,fi.1,hsome.1,hsome.2,hkd.1,hkd.2,a6,b6,fu.1,by omega,by omega⟩
          subst hw7
          simp[LD,Tr.d,x3,hk1',lo3,x4',e4,kp,ekd,rt,cl,okL,dqL,hle,nll,e5,eu,e6,Ah.d]
        · obtain ⟨x6, S6, e6, p6, a6, b6⟩ := HI p4.pen
          refine⟨.swap i (1+rs) kd2 x6,S6,?_,(p23.trans p4).trans p6,fi.1,hsome.1,hsome.2,hkd.1,hkd.2,a6,b6⟩
          by_cases h7:way=7
          · subst h7
            have hle:(EK st).isEmpty=true:=by
              cases z:(EK st).isEmpty with
              |true=>rfl
              |false=>exact absurd ⟨rfl,z⟩ htr
            simp[LD,Tr.d,x3,hk1',lo3,x4',e4,kp,ekd,rt,cl,okL,dqL,hle,nll,e6,Ah.d]
          · have h7' : (way == 7) = false := by simpa using h7
            simp[LD,Tr.d,x3,hw8,hk1',lo3,x4',e4,kp,ekd,rt,cl,h7',e6,Ah.d]
      · have sw : ∀ (x y : Ex) (T : Sto), xIf (Gk (eOp (o2 wLt) [(eV 7), (eC (.int 8))]) (eOp (o2 wGt) [(eOp (o2 wIx) [(eV 1), (eC (.int 1))]), (eC (.int 1))])) x y [some (.ref p), some t.d, some (.ref s), some (.ref l), some (shD st.hold), some (.ref m), some (.lst (Ed (B0 st))), some (.int way), some (.int i), some (.int (1 + rs)), o10, none, none, none] T = y [some (.ref p), some t.d, some (.ref s), some (.ref l), some (shD st.hold), some (.ref m), some (.lst (Ed (B0 st))), some (.int way), some (.int i), some (.int (1 + rs)), o10, none, none, none] T := by
          intro x y T
          by_cases w8:way<8
          · have hk1 : ¬ (1 : Int) < t.k := by omega
            simp[Tr.d,w8,hk1]
          ·simp[w8]
        by_cases h8:way=8
        · subst h8
          refine⟨.spoil i (1+rs),S3,?_,p23,fi.1,hsome.1,hsome.2⟩
          simp[LD,-NV,sw]
          simp[Ah.d]
        · have h8' : (way == 8) = false := by simpa using h8
          by_cases h9:way=9/\1<t.p
          · obtain ⟨h9, hP⟩ := h9
            subst h9
            have hP':(1:Int)<t.p:=by omega
            obtain⟨rp,S4,e4,a4,b4,p4⟩:=Ag p3.pen (n:=t.p) (by omega) (by omega)
            obtain⟨rq,S5,e5,a5,b5,p5⟩:=Ag p4.pen (n:=(t.p:Int)-1) (by omega) (by omega)
            obtain⟨sh,S6,e6,p6,a6,b6,c6⟩:=Rn p5.pen
            have hmod:=PM (x:=rp+1+rq) (K:=t.p) (by omega) (by omega)
            obtain⟨q,eq⟩:∃q:Nat,(rp+1+rq) % (t.p:Int)=(q:Int):=⟨_,(Int.toNat_of_nonneg (Int.emod_nonneg _ (by omega))).symm⟩
            obtain⟨rp,rfl⟩:=Dk a4
            have hq:q<t.p/\q≠rp:=by
              rw[eq]at hmod
              split at hmod<;>omega
            have pp:0<t.p:=by omega
            refine⟨.sell rp q sh,S6,?_,((p23.trans p4).trans p5).trans p6,fun z=>hq.2 z.symm,by omega,hq.1,a6,b6,c6⟩
            simp[LD,-NV,sw]
            simp[Tr.d,hP',e4,e5,pp,eq,e6,Ah.d]
          · have s9 : ∀ (x y : Ex) (T : Sto), xIf (Gk (eOp (o2 wEq) [(eV 7), (eC (.int 9))]) (eOp (o2 wGt) [(eOp (o2 wIx) [(eV 1), (eC (.int 0))]), (eC (.int 1))])) x y [some (.ref p), some t.d, some (.ref s), some (.ref l), some (shD st.hold), some (.ref m), some (.lst (Ed (B0 st))), some (.int way), some (.int i), some (.int (1 + rs)), o10, none, none, none] T = y [some (.ref p), some t.d, some (.ref s), some (.ref l), some (shD st.hold), some (.ref m), some (.lst (Ed (B0 st))), some (.int way), some (.int i), some (.int (1 + rs)), o10, none, none, none] T := by
              intro x y T
              by_cases z:way=9
              · have hP : ¬ (1 : Int) < t.p := by have : ¬ 1 < t.p := fun w => h9 ⟨z, w⟩; omega
                subst z
                simp[Tr.d,hP]
              · have z' : (way == 9) = false := by simpa using z
                simp[z']
            obtain⟨ws,S4,e4,p4,a4,b4⟩:=Ov p3.pen (n:=t.k+1) (by omega)
            have e4':Ct [.ref p,.int ((t.k:Int)+1)] S3=some (.tup (ws.map .int),S4):=e4
            refine⟨.thr i (1+rs) ws,S4,?_,p23.trans p4,fi.1,hsome.1,hsome.2,a4,b4⟩
            have s8:∀(x y:Ex) (T:Sto),xIf (eOp (o2 wEq) [(eV 7),(eC (.int 8))]) x y [some (.ref p),some t.d,some (.ref s),some (.ref l),some (shD st.hold),some (.ref m),some (.lst (Ed (B0 st))),some (.int way),some (.int i),some (.int (1+rs)),o10,none,none,none] T=y [some (.ref p),some t.d,some (.ref s),some (.ref l),some (shD st.hold),some (.ref m),some (.lst (Ed (B0 st))),some (.int way),some (.int i),some (.int (1+rs)),o10,none,none,none] T:=by
              intro x y T
              simp[h8']
            simp[LD,-NV,sw,s8,s9]
            simp[Tr.d,e4',Ah.d]
    by_cases hpool:way<5/\(Dl st i).isEmpty=false
    · obtain ⟨hw5, hse⟩ := hpool
      have hsl:0<(Dl st i).length:=by
        cases z:Dl st i with
        |nil=>rw[z]at hse;cases hse
        |cons a b=>simp
      obtain⟨rj,S4,e4,a4,b4,p4⟩:=Ag p3.pen (n:=(Dl st i).length) (by omega) (by omega)
      obtain⟨j,mj,ej⟩:=JD a4 b4
      have fj:=SY mj
      have fj':=II fj.1
      refine⟨.pool i j,S4,?_,p23.trans p4,fun z=>fj.2.1 z.symm,fi.1,fj'.1,n1,fj'.2,fj.2.2.symm⟩
      rw[pre]
      simp[PY,hw5,cs,okS,dqS,hse,nls,e4,ej,Ah.d]
    · by_cases w5 : way < 5
      · have hse : (Dl st i).isEmpty = true := by
          cases z:(Dl st i).isEmpty with
          |true=>rfl
          |false=>exact absurd ⟨w5,z⟩ hpool
        obtain⟨d,S',e,pn,hc⟩:=tail (some (.lst (Ed (Dl st i)))) (fun _=>hse)
        refine⟨d,S',?_,pn,hc⟩
        rw[pre,←e]
        simp[PY,w5,cs,okS,dqS,hse]
      · obtain ⟨d, S', e, pn, hc⟩ := tail none (fun z => absurd z w5)
        refine⟨d,S',?_,pn,hc⟩
        rw[pre,←e]
        simp[PY,w5]
end
noncomputable def runs(t:Tr)(st:Stt)(ds:List Ah):Stt:=ds.foldl (step t) st
def Le(t:Tr):Stt->List Ah->Prop
 |_,[]=>True
 |st,d::ds=>Can t st d/\Le t (step t st d) ds
theorem KR{t:Tr}{d:Ah}:∀{ds:List Ah} {st:Stt},Le t st ds->Can t (runs t st ds) d->Le t st (ds++[d])
 | [],st,_,h=>⟨h,trivial⟩
 |x::ds,st,h,g=>⟨h.1,KR h.2 g⟩
theorem Gn{t:Tr}:∀{ds:List Ah} {st:Stt} {i:Nat} {d:Ah},Le t st ds->ds[i]?=some d->Can t (runs t st (ds.take i)) d
  | x :: ds, st, 0, d, h, g => by
    simp at g;subst g
    exact h.1
  | x :: ds, st, i + 1, d, h, g => by
    simp at g
    show Can t (runs t (step t st x) (ds.take i)) d
    exact Gn h.2 g
theorem L4{t:Tr}{st:Stt}{ds:List Ah}{d:Ah}:runs t st (ds++[d])=step t (runs t st ds) d:=by simp[runs]
theorem Gx{t:Tr}{st:Stt}{ds:List Ah}{i:Nat}{d:Ah}(h:ds[i]?=some d):runs t st (ds.take (i+1))=step t (runs t st (ds.take i)) d:=by
 rw[List.take_succ,h]
 exact L4
theorem Ll{t:Tr}(ht:J6 t):∀{ds:List Ah} {st:Stt} {k:Nat},FP t k st->Le t st ds->k+ds.length≤17->FP t (k+ds.length) (runs t st ds)
  | [],st,k,h,_,_=>h
  | d :: ds, st, k, h, g, hl => by
    have:=Ll ht (ds:=ds) (Sl ht h (by simp at hl;omega) g.1) g.2 (by simp at hl;omega)
    rw[show k+(d::ds).length=k+1+ds.length by simp;omega]
    exact this
theorem KG{t:Tr}:∀{ds:List Ah} {st:Stt} {i:Nat},Le t st ds->Le t st (ds.take i)
 | [],st,i,h=>by simp;exact trivial
 |d::ds,st,0,h=>trivial
 |d::ds,st,i+1,h=>⟨h.1,KG h.2⟩
noncomputable def st0(t:Tr)(ls:List Ld):Stt:=⟨ls,t.ho,[]⟩
structure FL(t:Tr)(ls:List Ld)(ds:List Ah):Prop where
 tr:J6 t
 inv:FP t 0 (st0 t ls)
 good:Le t (st0 t ls) ds
 len:ds.length≤16
theorem FL.at{t:Tr}{ls:List Ld}{ds:List Ah}(h:FL t ls ds)(i:Nat):FP t (ds.take i).length (runs t (st0 t ls) (ds.take i)):=by
 have:=Ll h.tr (ds:=ds.take i) h.inv (KG h.good) (by have:=h.len;simp;omega)
 rwa [Nat.zero_add]at this
noncomputable def Bs(t:Tr)(ls:List Ld)(ds:List Ah):D:=.tup [t.d,.tup (ls.map Ld.d),.tup (ds.map Ah.d)]
theorem Oz{t:Tr}{ls:List Ld}(h:Eu t ls)(hl:ls.length≤4)(h1:t.ho.length=t.p){g:Nat}(g0:0<g)(g1:g≤32)(g2:∀r∈t.ho,Ok g g r):FP t 0 (st0 t ls):=by
 obtain⟨ha,G,G0,G1,G2⟩:=h
 have hG:G≤32^4:=Nat.le_trans G1 (Nat.pow_le_pow_right (by decide) hl)
 have hB:G*g<2^30:=by
  have:=Nat.mul_le_mul hG g1
  omega
 refine FP.of (G:=G*g) (B:=G*g) (by simpa[st0]using hl) ?_ h1 (Nat.le_refl _) (Nat.mul_pos G0 g0) (Nat.le_refl _) hB ?_
 ·intro x hx
  have:=ha x hx
  exact⟨this.1,by omega,Y3 this.2.2.1,this.2.2.2.1,fun r hr=>(G2 x hx r hr).up (Nat.le_refl _)⟩
 ·intro r hr
  have:=(g2 r hr).up (t:=G) (B':=G*g) (by rw[Nat.mul_comm];exact Nat.le_refl _)
  rwa [Nat.mul_comm g G]at this
noncomputable def GF:Ah->Bool
 | .thr .. =>true
 |_=>false
section
variable{S:Sto}{p:Nat}
theorem Rp(d:Ah)(E:En)(h:E=[some d.d]):eOp (o2 wEq) [(eOp (o2 wIx) [(eV 0),(eC (.int 0))]),(eC (.str "throw"))] E S=some (.bl (GF d),S):=by
 subst h
 cases d<;>simp[Ah.d,GF]
theorem bc{q:Nat}{ds:List Ah}(hq:S[q]?=some (.lst (ds.map Ah.d)))(hl:ds.length≤50):Bj [(q,ds.map Ah.d)] (tNm 0) (eOp (o2 wEq) [(eOp (o2 wIx) [(eV 0),(eC (.int 0))]),(eC (.str "throw"))]) (eV 0) (ds.map Ah.d) [] [none] S=some ((ds.filter GF).map Ah.d,S):=
 C4 (gs:=[(q,ds.map Ah.d)]) (t:=tNm 0) (f:=eV 0) (C:=[]) (m:=1) (e:=Ah.d) (g:=Ah.d) (b:=GF) (S:=S) (fun g hg=>by rw[List.mem_singleton.mp hg];exact AR hq) (xs:=ds) (acc:=[]) (os:=[none]) rfl (Nat.le_trans (show _≤50 by simp;omega) (AN (by decide))) (by
  intro d _ os ho
  obtain⟨o1,rfl⟩:∃o1,os=[o1]:=by
   match os,ho with
   | [a],_=>exact⟨a,rfl⟩
  exact⟨[some d.d],rfl,by simp,Rp d _ rfl,by simp⟩)
theorem Vo {M : Nat} (hM : M ≤ 16) (h : Dc p S) : ∃ t ls ds S', Du [.ref p, .int M] S = some (Bs t ls ds, S') /\ (FL t ls ds /\ ds.length ≤ M) /\ ((∀ l ∈ ls, l.ow.sum = 1) /\ t.ho.sum = 1) /\ Dc p S' := by
  obtain⟨t,S1,e1,p1,ht,hh,g,g0,g1,g2⟩:=R8 h
  obtain⟨ls,S2,e2,p2,hf,hl⟩:=RW p1.pen ht
  have hi:=Oz hf hl hh.1 g0 g1 g2
  obtain⟨s,l,m,as,S3,e3,hS,sm,hn⟩:=N0 (S:=S2) (t:=t) (ls:=ls) (x:=.tup []) (by omega)
  have lp:=p2.pen.lt
  have pen3:Dc p S3:=by
    obtain⟨ds,e,hp⟩:=p2.pen
    exact⟨ds,sm.get e (by simp),hp⟩
  have hq:(S3++[Cl.lst []])[S3.length]?=some (.lst []):=List.getElem?_concat_length
  obtain⟨rn,S4,e4,a4,b4,p4⟩:=Ag (pen3.app [Cl.lst []]) (n:=(M:Int)+1) (by omega) (by omega)
  have lt3:=hS.lts
  have pn:p∉s::l::m::as:=fun z=>by have:=hn p z;omega
  have qn:S3.length∉s::l::m::as:=fun z=>by have:=lt3 _ z;omega
  have hpq:S3.length≠p:=by have:=pen3.lt;omega
  have hS4:SAt S4 s l m as (st0 t ls):=(hS.same0 (.app)).same p4.same (by simpa using pn)
  have hq4:S4[S3.length]?=some (.lst []):=p4.get hq hpq
  obtain⟨rn,rfl⟩:=Dk a4
  have rk:GD (rn:Int)=true:=Ce (by omega) (by omega)
  generalize hQ:S3.length=q at*
  obtain ⟨E', S', ef, ds, as', o6, o7, rfl, f1, f2, f3, f4, f5, f6, f7⟩ := Fz (gs := []) (t := tNm 6) (b := AY (Bc 7 (AM Cu [(eV 0), (eV 2), (eV 4)]))
    (xIf (eOr (eOp (o2 wNe) [(eOp (o2 wIx) [(eV 7),(eC (.int 0))]),(eC (.str "throw"))]) (eOp (o2 wLt) [(eOp (o1 F6) [(Bt [] 1 (FR (eV 5)) (tNm 0) (eOp (o2 wEq) [(eOp (o2 wIx) [(eV 0),(eC (.int 0))]),(eC (.str "throw"))]) (eV 0))]),(eC (.int 3))])) (AY (Dx (AM BX [(eV 2),(eV 4),(eV 7)]))
    (Dx (Lo MC (eV 5) [(eV 7)]))) CD))
    (I:=fun rs E S'=>∃(ds:List Ah) (as':List Nat) (o6 o7:Option D),E=[some (.ref p),some (.int M),some t.d,some (.tup (ls.map Ld.d)),some (.ref s),some (.ref q),o6,o7]/\S'[q]?=some (.lst (ds.map Ah.d))/\Dc p S'/\SAt S' s l m as' (runs t (st0 t ls) ds)/\Le t (st0 t ls) ds/\ds.length+rs.length≤M/\p∉s::l::m::as'/\q∉s::l::m::as')
    (fun _ _ _ _=>Ao) (ds:=Hi 0 rn) (E:=[some (.ref p),some (.int M),some t.d,some (.tup (ls.map Ld.d)),some (.ref s),some (.ref q),none,none]) (S:=S4)
    ⟨[], as, none, none, rfl, hq4, p4.pen, hS4, trivial, by rw [DJ]; simp; omega, pn, qn⟩ (by
      rintro dd rs E T ⟨ds,as',o6,o7,rfl,i1,i2,i3,i4,i5,i6,i7⟩
      simp only[List.length_cons]at i5
      have inv:=Ll ht hi i4 (by omega)
      rw[Nat.zero_add]at inv
      obtain⟨d,T1,d1,d2,d3⟩:=U4 i2 i3 i6 ht inv (by omega)
      have j3:=i3.same d2.same (by simpa using i6)
      have j1:T1[q]?=some (.lst (ds.map Ah.d)):=d2.get i1 hpq
      have tc:=bc j1 (by omega)
      by_cases hb:GF d=false∨(ds.filter GF).length<3
      · obtain ⟨T2, as2, k1, k2, k3, k4⟩ := W9 j3 ht inv (by omega) d3
        have lt:=j3.lts
        have q2:T2[q]?=some (.lst (ds.map Ah.d)):=k3.get j1 i7
        have hz:ds.length<sizeLine:=Nat.lt_of_lt_of_le (show ds.length<50 by omega) (AN (by decide))
        refine⟨_,[some (.ref p),some (.int M),some t.d,some (.tup (ls.map Ld.d)),some (.ref s),some (.ref q),some dd,some d.d],T2.set q (.lst ((ds++[d]).map Ah.d)),by simp;rfl,?_,ds++[d],as2,some dd,some d.d,rfl,List.getElem?_set_self (Ac q2),?_,?_,KR i4 d3,by simp;omega,?_,?_⟩
        · have kk := AR q2
          have w1:∀(c:Ev),eOr (eOp (o2 wNe) [(eOp (o2 wIx) [(eV 7),(eC (.int 0))]),(eC (.str "throw"))]) c [some (.ref p),some (.int M),some t.d,some (.tup (ls.map Ld.d)),some (.ref s),some (.ref q),some dd,some d.d] T1=if GF d=true then c [some (.ref p),some (.int M),some t.d,some (.tup (ls.map Ld.d)),some (.ref s),some (.ref q),some dd,some d.d] T1 else some (.bl true,T1):=by
            intro c
            cases d<;>simp[Ah.d,GF]
          have sq:=D8 j1
          have hz':(ds.map Ah.d).length<sizeLine:=by simpa using hz
          have hfin:(ds++[d]).map Ah.d=ds.map Ah.d++[d.d]:=by simp
          rw[hfin]
          generalize hDD:ds.map Ah.d=DD at*
          cases ht':GF d with
          | false =>
            simp[d1,-NZ,w1,ht',k1,kk,hz']
          | true =>
            have h3:((ds.filter GF).length:Int)<3:=by
              have:=hb.resolve_left (by rw[ht'];simp)
              omega
            simp[d1,-NZ,w1,ht',sq,tc,h3,k1,kk,hz']
        · obtain ⟨pd, pe, ph⟩ := d2.pen
          exact⟨pd,by rw[List.getElem?_set_ne hpq];exact k3.get pe i6,ph⟩
        · rw [L4]
          exact k2.same (A:=[q]) (.set (by simp)) (by
            intro n hn z
            simp at hn;subst hn
            simp only[List.mem_cons]at z i7
            rcases z with z|z|z|z
            ·exact i7 (.inl z)
            ·exact i7 (.inr (.inl z))
            ·exact i7 (.inr (.inr (.inl z)))
            · rcases k4 _ z with w | w
              ·exact i7 (.inr (.inr (.inr w)))
              ·have:=Ac j1;omega)
        · intro z
          simp only[List.mem_cons]at z i6
          rcases z with z|z|z|z
          ·exact i6 (.inl z)
          ·exact i6 (.inr (.inl z))
          ·exact i6 (.inr (.inr (.inl z)))
          · rcases k4 _ z with w | w
            ·exact i6 (.inr (.inr (.inr w)))
            ·have:=d2.pen.lt;omega
        · intro z
          simp only[List.mem_cons]at z i7
          rcases z with z|z|z|z
          ·exact i7 (.inl z)
          ·exact i7 (.inr (.inl z))
          ·exact i7 (.inr (.inr (.inl z)))
          · rcases k4 _ z with w | w
            ·exact i7 (.inr (.inr (.inr w)))
            ·have:=Ac j1;omega
      · have ht' : GF d = true := by
          cases z:GF d with
          |true=>rfl
          |false=>exact absurd (.inl z) hb
        have h3:¬((ds.filter GF).length:Int)<3:=by
          have:¬(ds.filter GF).length<3:=fun z=>hb (.inr z)
          omega
        refine⟨_,[some (.ref p),some (.int M),some t.d,some (.tup (ls.map Ld.d)),some (.ref s),some (.ref q),some dd,some d.d],T1,by simp;rfl,?_,ds,as',some dd,some d.d,rfl,j1,d2.pen,j3,i4,by omega,i6,i7⟩
        have w1:∀(c:Ev),eOr (eOp (o2 wNe) [(eOp (o2 wIx) [(eV 7),(eC (.int 0))]),(eC (.str "throw"))]) c [some (.ref p),some (.int M),some t.d,some (.tup (ls.map Ld.d)),some (.ref s),some (.ref q),some dd,some d.d] T1=if GF d=true then c [some (.ref p),some (.int M),some t.d,some (.tup (ls.map Ld.d)),some (.ref s),some (.ref q),some dd,some d.d] T1 else some (.bl true,T1):=by
            intro c
            cases d<;>simp[Ah.d,GF]
        have sq:=D8 j1
        generalize hDD:ds.map Ah.d=DD at*
        simp[d1,-NZ,w1,ht',sq,tc,h3])
  refine⟨t,ls,ds,S',?_,⟨⟨ht,hi,f4,by simp at f5;omega⟩,by simpa using f5⟩,⟨fun x hx=>(hf.1 x hx).2.2.2.2,hh.2⟩,f2⟩
  have df:=AX f1
  simp[Du,KN,e1,e2,e3,hQ,e4,rk,ef,df,Bs]
end
section
variable{S:Sto}{s l m:Nat}{as:List Nat}{st:Stt}
end
theorem NK{n m d:Nat}(h:n≤m):HT.sIx m d (some (n:Int))=n:=by
 unfold HT.sIx
 have:¬((n:Int)<0):=by omega
 simp[this]
 omega
theorem Kt{α:Type}{ds:List α}{n:Nat}(h:n≤ds.length):C5 ds none (some (n:Int))=ds.take n:=by
 unfold C5
 rw[NK h]
 simp[HT.sIx]
theorem Sy{α:Type}{ds:List α}{n:Nat}(h:n≤ds.length):C5 ds (some (n:Int)) none=ds.drop n:=by
 unfold C5
 rw[NK h]
 simp[HT.sIx]
 exact List.take_of_length_le (by simp)
noncomputable def hD(x:Ld):D:=.tup [.int x.k,.int x.n]
noncomputable def B9(ls:List Ld):D:=.lst (ls.map hD)
section
variable{S:Sto}{ls:List Ld}{i j:Nat}{n:Int}
@[simp] theorem aA:dr S (B9 ls)=.val (B9 ls):=nr rfl
@[simp] theorem Y2:asS (.val (B9 ls))=some (ls.map hD):=nr rfl
@[simp] theorem YA:F6 (.val (B9 ls))=some (.val (.int ls.length)):=by
 show F6 (.val (.lst (ls.map hD)))=_
 rw[SN,List.length_map]
theorem Dz(hi:i<ls.length):atI (ls.map hD) (i:Int)=some (hD (AO ls i)):=CA (by rw[List.getElem?_map,F5 hi];rfl)
@[simp] theorem cD{x:Ld}:dr S (hD x)=.val (.tup [.int x.k,.int x.n]):=nr rfl
@[simp] theorem aQ{ts:List Tf}{x:Ld}{E:En}:tTp ts (hD x) E S=tMs ts [.int x.k,.int x.n] E S:=nr rfl
theorem L8(hi:i<ls.length)(hn:n≤(AO ls i).n):Br [B9 ls,.int i,.int n] S=some (.bl true,S):=by
 have hi':(i:Int)<ls.length:=by omega
 simp[Br,GO,hi',hi,Dz hi,hn]
theorem Mw(hi:i<ls.length)(hj:j<ls.length)(h1:0<(AO ls i).n)(h2:0<(AO ls j).n)(hk:(AO ls i).k=(AO ls j).k):EE [B9 ls,.int i,.int j] S=some (.bl true,S):=by
 have e1:=L8 (S:=S) (n:=1) hi (by omega)
 have e2:=L8 (S:=S) (n:=1) hj (by omega)
 simp[EE,H0,e1,e2,Dz hi,Dz hj,hk]
theorem Iu{k:Nat}(hi:i<ls.length)(hn:n≤(AO ls i).n)(hk:k≠(AO ls i).k):DP [B9 ls,.int i,.int n,.int k] S=some (.bl true,S):=by
 have e1:=L8 (S:=S) hi hn
 have e2:(((AO ls i).k:Int)==(k:Int))=false:=by simp;omega
 simp[DP,Hx,e1,Dz hi,e2]
theorem TL{lo hi:Option Int}:wSl lo hi (.val (B9 ls))=some (.own (C5 (ls.map hD) lo hi)):=nr rfl
theorem Dq(hi:i<ls.length)(hl:ls.length≤60):Bb [B9 ls,.int i,.int n] S=some (B9 (less ls i n),S):=by
 have c1:=Kt (ds:=ls.map hD) (n:=i) (by simp;omega)
 have c2:C5 (ls.map hD) (some ((i:Int)+1)) none=(ls.map hD).drop (i+1):=by
  have:=Sy (ds:=ls.map hD) (n:=i+1) (by simp;omega)
  simpa using this
 have ef:B9 (less ls i n)=.lst ((ls.map hD).take i++[.tup [.int (AO ls i).k,.int ((AO ls i).n-n)]]++(ls.map hD).drop (i+1)):=by
  rw[O6,B9,List.map_set,List.set_eq_take_append_cons_drop,if_pos (by simpa using hi)]
  simp[hD]
 have z1:(List.take i (ls.map hD)).length+1≤sizeLine:=Nat.le_trans (show _≤100 by simp;omega) (AN (by decide))
 have z2:(List.take i (ls.map hD)++[D.tup [.int (AO ls i).k,.int ((AO ls i).n-n)]]).length+(List.drop (i+1) (ls.map hD)).length≤sizeLine:=Nat.le_trans (show _≤100 by simp;omega) (AN (by decide))
 rw[ef]
 have ah:=Dz hi
 have ws:=fun{lo hi:Option Int}=>TL (ls:=ls) (lo:=lo) (hi:=hi)
 generalize List.take i (ls.map hD)=A at*
 generalize List.drop (i+1) (ls.map hD)=B at*
 simp only[List.length_append,List.length_cons,List.length_nil]at z2
 simp[Bb,FH,ah,ws,c1,c2,z1,z2]
end
section
variable{S:Sto}{st:Stt}{t:Tr}{k:Nat}
@[simp] theorem DR{ls:List Ld}{r:List D}:A4 (.val (B9 ls)) (.val (.lst r))=if(ls.map hD).length+r.length≤sizeLine then some (.own (ls.map hD++r))else none:=nr rfl
theorem IU{ls:List Ld}{y:Ld}:D.lst (ls.map hD++[.tup [.int y.k,.int y.n]])=B9 (ls++[y]):=by simp[B9,hD]
theorem MA(h:FP t k st)(hk:k≤17){d:Ah}(hc:Can t st d):Ak [B9 st.loads,d.d] S=some (B9 (step t st d).loads,S):=by
  have hlen:=h.len
  have hz:(st.loads.map hD).length+1≤sizeLine:=Nat.le_trans (show _≤100 by simp;omega) (AN (by decide))
  have hz2:∀{i:Nat} {n:Int},((less st.loads i n).map hD).length+1≤sizeLine:=fun{i n}=>Nat.le_trans (show _≤100 by simp[C2];omega) (AN (by decide))
  cases d with
  | bring p kd n =>
    have e:=IU (ls:=st.loads) (y:=⟨kd,n,TH t.p p⟩)
    show _=some (B9 (st.loads++[⟨kd,n,TH t.p p⟩]),S)
    rw[←e]
    have wA:=DR (ls:=st.loads) (r:=[.tup [.int kd,.int n]])
    rw[if_pos (by simpa using hz)]at wA
    simp[Ak,BP,Ah.d,-DR,wA]
  | pool i j =>
    obtain⟨hij,hi,hj,h1,h2,h3⟩:=hc
    have e0:AO (less st.loads i (AO st.loads i).n) j=AO st.loads j:=by
      unfold AO less
      rw[List.getD_eq_getElem?_getD,List.getElem?_set_ne hij,←List.getD_eq_getElem?_getD]
    have w1:=Dq (S:=S) (n:=(AO st.loads i).n) hi (by omega)
    have w2:=Dq (S:=S) (ls:=less st.loads i (AO st.loads i).n) (i:=j) (n:=(AO st.loads j).n) (by rw[C2];exact hj) (by rw[C2];omega)
    have z3:((less (less st.loads i (AO st.loads i).n) j (AO st.loads j).n).map hD).length+1≤sizeLine:=Nat.le_trans (show _≤100 by simp[C2];omega) (AN (by decide))
    have e:=IU (ls:=less (less st.loads i (AO st.loads i).n) j (AO st.loads j).n) (y:=⟨(AO st.loads i).k,(AO st.loads i).n+(AO st.loads j).n,Dh (AO st.loads i).n (AO st.loads j).n (AO st.loads i).ow (AO st.loads j).ow⟩)
    show _=some (B9 (less (less st.loads i (AO st.loads i).n) j (AO st.loads j).n++[_]),S)
    rw[←e]
    have a1:=Dz hi
    have a2:=Dz hj
    have wA:=DR (ls:=less (less st.loads i (AO st.loads i).n) j (AO st.loads j).n) (r:=[.tup [.int (AO st.loads i).k,.int ((AO st.loads i).n+(AO st.loads j).n)]])
    rw[if_pos (by simpa using z3)]at wA
    generalize (less (less st.loads i (AO st.loads i).n) j (AO st.loads j).n).map hD=A at*
    simp[Ak,BP,Ah.d,a1,a2,w1,w2,-DR,wA]
  | swap i g kd n =>
    obtain⟨hi,h1,h2,h3,h4,h5,h6⟩:=hc
    have w1:=Dq (S:=S) (n:=g) hi (by omega)
    have e:=IU (ls:=less st.loads i g) (y:=⟨kd,n,(AO st.loads i).ow⟩)
    show _=some (B9 (less st.loads i g++[⟨kd,n,(AO st.loads i).ow⟩]),S)
    rw[←e]
    have wA:=DR (ls:=less st.loads i g) (r:=[.tup [.int kd,.int n]])
    rw[if_pos (by simpa using hz2)]at wA
    simp[Ak,BP,Ah.d,w1,-DR,wA]
  | trade u i g kd n =>
    obtain⟨hi,h1,h2,h3,h4,h5,h6,h7⟩:=hc
    have w1:=Dq (S:=S) (n:=g) hi (by omega)
    have e:=IU (ls:=less st.loads i g) (y:=⟨kd,n,(AO st.loads i).ow⟩)
    show _=some (B9 (less st.loads i g++[⟨kd,n,(AO st.loads i).ow⟩]),S)
    rw[←e]
    have wA:=DR (ls:=less st.loads i g) (r:=[.tup [.int kd,.int n]])
    rw[if_pos (by simpa using hz2)]at wA
    simp[Ak,BP,Ah.d,w1,-DR,wA]
  | spoil i n =>
    obtain⟨hi,h1,h2⟩:=hc
    have w1:=Dq (S:=S) (n:=n) hi (by omega)
    show _=some (B9 (less st.loads i n),S)
    simp[Ak,BP,Ah.d,w1]
  | thr i n ws =>
    obtain⟨hi,h1,h2,h3,h4⟩:=hc
    have w1:=Dq (S:=S) (n:=n) hi (by omega)
    have e:B9 (step t st (.thr i n ws)).loads=B9 (less st.loads i n):=by
      show D.lst (((less st.loads i n).map _).map hD)=_
      rw[List.map_map];rfl
    rw[e]
    simp[Ak,BP,Ah.d,w1]
  | sell p q x =>
    have e:B9 (step t st (.sell p q x)).loads=B9 st.loads:=by
      show D.lst ((st.loads.map _).map hD)=_
      rw[List.map_map];rfl
    rw[e]
    simp[Ak,BP,Ah.d]
noncomputable def FN:Ah->Option Int
 | .trade u .. =>some u
 |_=>none
theorem QK{ls:List Ld}:∀{ds:List Ah},(runs t (st0 t ls) ds).nums=ds.filterMap FN:=by
  intro ds
  have : ∀ (ds : List Ah) (st : Stt), (runs t st ds).nums = st.nums ++ ds.filterMap FN := by
    intro ds
    induction ds with
    |nil=>intro st;simp[runs]
    | cons d ds ih =>
      intro st
      show(runs t (step t st d) ds).nums=_
      rw[ih]
      cases d<;>simp[step,FN,List.filterMap_cons]
  rw[this];rfl
theorem Hm:∀{ds:List Ah} {acc:List D} {o:Option D},acc.length+ds.length≤100->Bj [] (tNm 0) (eOp (o2 wEq) [(eOp (o2 wIx) [(eV 0),(eC (.int 0))]),(eC (.str "trade"))]) (eOp (o2 wIx) [(eV 0),(eC (.int 1))]) (ds.map Ah.d) acc [o] S=some (acc++(ds.filterMap FN).map D.int,S)
  | [],acc,o,h=>by rw[List.map_nil,DZ Ao];simp
  | d :: ds, acc, o, h => by
    have hz:acc.length<sizeLine:=Nat.lt_of_lt_of_le (show acc.length<101 by simp at h;omega) (AN (by decide))
    have ht:tNm 0 d.d [o] S=some [some d.d]:=by simp
    rw[List.map_cons]
    cases d with
    | trade u i g kd n =>
      rw[Fc Ao hz ht (S1:=S) (by simp[Ah.d])]
      have:eOp (o2 wIx) [(eV 0),(eC (.int 1))] [some (Ah.trade u i g kd n).d] S=some (.int u,S):=by simp[Ah.d]
      rw[this,A9,Hm (by simp at h ⊢; omega)]
      simp[FN,List.filterMap_cons]
    |bring=>rw[GQ Ao hz ht (S1:=S) (by simp[Ah.d]),Hm (by simp at h ⊢; omega)];simp[FN,List.filterMap_cons]
    |pool=>rw[GQ Ao hz ht (S1:=S) (by simp[Ah.d]),Hm (by simp at h ⊢; omega)];simp[FN,List.filterMap_cons]
    |swap=>rw[GQ Ao hz ht (S1:=S) (by simp[Ah.d]),Hm (by simp at h ⊢; omega)];simp[FN,List.filterMap_cons]
    |spoil=>rw[GQ Ao hz ht (S1:=S) (by simp[Ah.d]),Hm (by simp at h ⊢; omega)];simp[FN,List.filterMap_cons]
    |thr=>rw[GQ Ao hz ht (S1:=S) (by simp[Ah.d]),Hm (by simp at h ⊢; omega)];simp[FN,List.filterMap_cons]
    |sell=>rw[GQ Ao hz ht (S1:=S) (by simp[Ah.d]),Hm (by simp at h ⊢; omega)];simp[FN,List.filterMap_cons]
theorem Pc{ds:List Ah}{d:Ah}(hd:ds.length≤50)(hn:st.nums=ds.filterMap FN)(hc:Can t st d):B3 [B9 st.loads,.tup (ds.map Ah.d),d.d] S=some (.bl true,S):=by
  cases d with
  |bring p kd n=>simp[B3,Cq,Ah.d]
  | pool i j =>
    obtain⟨hij,hi,hj,h1,h2,h3⟩:=hc
    have e:=Mw (S:=S) hi hj h1 h2 h3
    simp[B3,Cq,Ah.d,e]
  | swap i g kd n =>
    obtain⟨hi,h1,h2,h3,h4,h5,h6⟩:=hc
    have e:=Iu (S:=S) (k:=kd) hi h2 h4
    simp[B3,Cq,Ah.d,e]
  | trade u i g kd n =>
    obtain⟨hi,h1,h2,h3,h4,h5,h6,h7,h8⟩:=hc
    have e:=Iu (S:=S) (k:=kd) hi h2 h4
    have tc:=Hm (S:=S) (ds:=ds) (acc:=[]) (o:=none) (by simp;omega)
    rw[←hn]at tc
    have fi:=MH (us:=st.nums)
    have ii:=N3 (us:=st.nums) (i:=u)
    have iu:(st.nums.any fun x=>x==u)=false:=by
      rw[List.any_eq_false]
      intro x hx z
      have:x=u:=by simpa using z
      exact h7 (this▸hx)
    rw[iu]at ii
    generalize st.nums.map D.int=ud at*
    simp[B3,Cq,Ah.d,tc,fi,ii,e]
  | spoil i n =>
    obtain⟨hi,h1,h2⟩:=hc
    have e:=L8 (S:=S) hi h2
    simp[B3,Cq,Ah.d,e]
  | thr i n ws =>
    obtain⟨hi,h1,h2,h3,h4⟩:=hc
    have e:=L8 (S:=S) hi h2
    simp[B3,Cq,Ah.d,e]
  |sell p q x=>simp[B3,Cq,Ah.d]
end
section
variable{S:Sto}{st:Stt}{t:Tr}{k:Nat}
theorem KP{ls:List Ld}{x y:D}(hl:ls.length≤50):Bu [.tup [x,.tup (ls.map Ld.d),y]] S=some (B9 ls,S):=by
 have e:=CB (gs:=[]) (t:=tNm 0) (f:=B4 [(eOp (o2 wIx) [(eV 0),(eC (.int 0))]),(eOp (o2 wIx) [(eV 0),(eC (.int 1))])]) (C:=[]) (m:=1) (e:=Ld.d) (g:=hD) (S:=S) Ao (xs:=ls) (acc:=[]) (os:=[none]) rfl (Nat.le_trans (show _≤50 by simp;omega) (AN (by decide))) (by
  intro x hx os ho
  obtain⟨q1,rfl⟩:∃q1,os=[q1]:=by
   match os,ho with
   | [a],_=>exact⟨a,rfl⟩
  refine⟨[some x.d],rfl,by simp,?_⟩
  simp[Ld.d,hD])
 simp only[List.nil_append]at e
 simp[Bu,EV,e,B9]
theorem J0{ls:List Ld}{ds:List Ah}(h:FL t ls ds):C1 [Bs t ls ds] S=some (.non,S):=by
 have hl0:ls.length≤4:=h.inv.len
 have hd:=h.len
 obtain⟨E',S',ef,i,o1,o2,f1,f2,rfl,rfl⟩:=Fz (gs:=[]) (t:=tTp [(tNm 3),(tNm 4)]) (b:=AY (xIf (Tp (AM B3 [(eV 1),(eOp (De false true) [(eV 2),(eV 3)]),(eV 4)])) (BQ (eV 3)) CD)
  (Bc 1 (AM Ak [(eV 1),(eV 4)])))
  (I:=fun rs E S'=>∃(i:Nat) (o1 o2:Option D),rs=(NO 0 (ds.map Ah.d)).drop i/\i≤ds.length/\E=[some (Bs t ls ds),some (B9 (runs t (st0 t ls) (ds.take i)).loads),some (.tup (ds.map Ah.d)),o1,o2]/\S'=S)
  (fun _ _ _ _=>Ao) (ds:=NO 0 (ds.map Ah.d)) (E:=[some (Bs t ls ds),some (B9 ls),some (.tup (ds.map Ah.d)),none,none]) (S:=S)
  ⟨0,none,none,by simp,Nat.zero_le _,by simp[runs,st0],rfl⟩ (by
   rintro dd rs E T ⟨i,o1,o2,i1,i2,rfl,rfl⟩
   have el:(NO 0 (ds.map Ah.d)).length=ds.length:=by rw[JP];simp
   have hlt:i<ds.length:=by
    rcases Nat.lt_or_ge i ds.length with w|w
    ·exact w
    ·rw[List.drop_eq_nil_of_le (by omega)]at i1;cases i1
   rw[List.drop_eq_getElem_cons (by omega)]at i1
   injection i1 with z1 z2
   have hd1:dd=.tup [.int i,ds[i].d]:=by
    have:=IL (ds:=ds.map Ah.d) (k:=0) (i:=i)
    rw[List.getElem?_eq_getElem (by omega),←z1,List.getElem?_map,List.getElem?_eq_getElem hlt]at this
    simpa using this
   subst z2
   subst hd1
   have inv:=h.at i
   have il:(ds.take i).length≤16:=by simp;omega
   have can:=Gn h.good (List.getElem?_eq_getElem hlt)
   have cd:=Pc (S:=T) (ds:=ds.take i) (by omega) QK can
   have e3:=MA (S:=T) inv (by omega) can
   have rt:=Gx (t:=t) (st:=st0 t ls) (List.getElem?_eq_getElem hlt)
   have ct:=Kt (ds:=ds.map Ah.d) (n:=i) (by simp;omega)
   rw[List.map_take]at cd
   refine⟨_,[some (Bs t ls ds),some (B9 (runs t (st0 t ls) (ds.take (i+1))).loads),some (.tup (ds.map Ah.d)),some (.int i),some ds[i].d],T,by simp;rfl,?_,i+1,some (.int i),some ds[i].d,rfl,hlt,rfl,rfl⟩
   rw[rt]
   simp[ct,cd,e3])
 have fh:=KP (S:=S') (ls:=ls) (x:=t.d) (y:=.tup (ds.map Ah.d)) (by omega)
 simp only[Bs]at ef⊢
 simp[C1,Fw,fh,ef]
theorem PX{ls:List Ld}{ds:List Ah}(h:FL t ls ds):CV [Bs t ls ds] S=some (.non,S):=by
 have e:=J0 (S:=S) h
 simp[CV,Eb,e,isN]
end
section
variable{S:Sto}
theorem VH{ns:List Int}{k:Nat}:∃c,CQ [.scr ns,.int k] S=some (.int c,S):=by
 by_cases h:k<ns.length
 ·have h':(k:Int)<ns.length:=by omega
  refine⟨ns[k],?_⟩
  have e:atI (ns.map D.int) (k:Int)=some (.int ns[k]):=CA (by rw[List.getElem?_map,List.getElem?_eq_getElem h];rfl)
  simp[CQ,Et,h,h',e]
 ·have h':¬(k:Int)<ns.length:=by omega
  exact⟨0,by simp[CQ,Et,h,h']⟩
end
structure Bd(ls:List Ld)(G B N K:Nat):Prop where
 g0:0<G
 gK:G<2^K
 hK:2*K≤7000
 own:∀l∈ls,∀r∈l.ow,Ok G B r
 pcs:∀l∈ls,0≤l.n/\l.n≤N
 hB:B<2^K
 hN:N<2^K
 hb:200*(B*N)<2^K
 len:ls.length≤30
section
variable{S:Sto}{ls:List Ld}{G B N K:Nat}
theorem LQ{n:Nat}:Hi 0 (n:Int).toNat=(List.range n).map fun(i:Nat)=>D.int i:=by simp[Hi]
end
section
variable{t:Tr}{k:Nat}{st:Stt}{d:Ah}
end
noncomputable def Uc(ls:List Ld)(kd:Nat):Int:=((ls.filter fun x=>x.k==kd).map fun x=>x.n).sum
structure Mv where
 k:Nat
 w:Nat
 n:Int
noncomputable def Lp:Nat->Str
 |0=>"out"
 |1=>"got"
 |2=>"given"
 |3=>"spoilt"
 |4=>"thrown"
 |_=>"left"
noncomputable def mvD(m:Mv):D:=.tup [.int m.k,.str (Lp m.w),.int m.n]
noncomputable def Af(s:Stt):Ah->List Mv
 | .bring _ k n=>[⟨k,0,n⟩]
 | .swap l g k n=>[⟨(AO s.loads l).k,2,g⟩,⟨k,1,n⟩]
 | .trade _ l g k n=>[⟨(AO s.loads l).k,2,g⟩,⟨k,1,n⟩]
 | .spoil l n=>[⟨(AO s.loads l).k,3,n⟩]
 | .thr l n _=>[⟨(AO s.loads l).k,4,n⟩]
 |_=>[]
noncomputable def A6(ls:List Ld):List Mv:=ls.map fun x=>⟨x.k,0,x.n⟩
noncomputable def EI(ls:List Ld):List Mv:=ls.map fun x=>⟨x.k,5,x.n⟩
noncomputable def mvs(t:Tr)(ls:List Ld)(ds:List Ah):Nat->List Mv
 |0=>A6 ls
 |i+1=>mvs t ls ds i++(match ds[i]? with|some d=>Af (runs t (st0 t ls) (ds.take i)) d|none=>[])
noncomputable def Ap(ms:List Mv)(kd w:Nat):Int:=(ms.map fun m=>if m.k=kd/\m.w=w then m.n else 0).sum
theorem IT{ms ns:List Mv}{kd w:Nat}:Ap (ms++ns) kd w=Ap ms kd w+Ap ns kd w:=by
 unfold Ap
 rw[List.map_append,List.sum_append]
theorem B6{kd w:Nat}:Ap [] kd w=0:=rfl
theorem Bo{m:Mv}{ms:List Mv}{kd w:Nat}:Ap (m::ms) kd w=(if m.k=kd/\m.w=w then m.n else 0)+Ap ms kd w:=by
 unfold Ap
 rw[List.map_cons,List.sum_cons]
noncomputable def stk(L:List Ld)(kd:Nat):Int:=(L.map fun x=>if x.k=kd then x.n else 0).sum
theorem K4{L M:List Ld}{kd:Nat}:stk (L++M) kd=stk L kd+stk M kd:=by
 unfold stk
 rw[List.map_append,List.sum_append]
theorem Cz{x:Ld}{L:List Ld}{kd:Nat}:stk (x::L) kd=(if x.k=kd then x.n else 0)+stk L kd:=by
 unfold stk
 rw[List.map_cons,List.sum_cons]
theorem Jf{kd:Nat}:∀{L:List Ld},Uc L kd=stk L kd
  | []=>rfl
  | x :: L => by
    have ih:=Jf (kd:=kd) (L:=L)
    rw[Cz,←ih]
    unfold Uc
    rw[List.filter_cons]
    by_cases h:x.k=kd
    ·simp[h]
    ·simp[h]
theorem FF{kd:Nat}:∀{L:List Ld} {l:Nat} {g:Int},l<L.length->stk (less L l g) kd=stk L kd-if(AO L l).k=kd then g else 0
  | x :: L, 0, g, _ => by
    show stk ({x with n:=x.n-g}::L) kd=_
    rw[Cz,Cz]
    show(if x.k=kd then x.n-g else 0)+stk L kd=_-if x.k=kd then g else 0
    split<;>omega
  | x :: L, l + 1, g, h => by
    have ih:=FF (kd:=kd) (L:=L) (l:=l) (g:=g) (by simpa using h)
    have e:less (x::L) (l+1) g=x::less L l g:=by simp[less,AO]
    have e2:AO (x::L) (l+1)=AO L l:=by simp[AO]
    rw[e,e2,Cz,Cz,ih]
    omega
theorem P2{L:List Ld}{f:Ld->Ld}{kd:Nat}(h:∀x,(f x).k=x.k/\(f x).n=x.n):stk (L.map f) kd=stk L kd:=by
 unfold stk
 rw[List.map_map]
 congr 1
 refine List.map_congr_left fun x _=>?_
 show(if(f x).k=kd then(f x).n else 0)=_
 rw[(h x).1,(h x).2]
theorem Rw{t:Tr}{s:Stt}{d:Ah}{kd:Nat}(hc:Can t s d):stk (step t s d).loads kd=stk s.loads kd+(Ap (Af s d) kd 0+Ap (Af s d) kd 1)-(Ap (Af s d) kd 2+Ap (Af s d) kd 3+Ap (Af s d) kd 4):=by
  cases d with
  | bring p k n =>
    show stk (s.loads++[⟨k,n,_⟩]) kd=_
    rw[K4,Cz]
    simp only[Af,Bo,B6]
    show stk s.loads kd+((if k=kd then n else 0)+0)=_
    by_cases h:k=kd<;>simp[h]<;>omega
  | pool a b =>
    obtain⟨hab,ha,hb,n1,n2,hk⟩:=hc
    show stk (less (less s.loads a _) b _++[⟨(AO s.loads a).k,_,_⟩]) kd=_
    have e:AO (less s.loads a (AO s.loads a).n) b=AO s.loads b:=by
      unfold AO less
      rw[List.getD_eq_getElem?_getD,List.getElem?_set_ne hab,←List.getD_eq_getElem?_getD]
    rw[K4,Cz,FF (by rw[C2];exact hb),FF ha,e,←hk]
    simp only[Af,B6]
    show _+((if(AO s.loads a).k=kd then(AO s.loads a).n+(AO s.loads b).n else 0)+0)=_
    by_cases h:(AO s.loads a).k=kd<;>simp[h]<;>omega
  | swap l g k n =>
    show stk (less s.loads l g++[⟨k,n,_⟩]) kd=_
    rw[K4,Cz,FF hc.1]
    simp only[Af,Bo,B6]
    show _+((if k=kd then n else 0)+0)=_
    by_cases h:k=kd<;>by_cases h2:(AO s.loads l).k=kd<;>simp[h,h2]<;>omega
  | trade u l g k n =>
    show stk (less s.loads l g++[⟨k,n,_⟩]) kd=_
    rw[K4,Cz,FF hc.1]
    simp only[Af,Bo,B6]
    show _+((if k=kd then n else 0)+0)=_
    by_cases h:k=kd<;>by_cases h2:(AO s.loads l).k=kd<;>simp[h,h2]<;>omega
  | spoil l n =>
    show stk (less s.loads l n) kd=_
    rw[FF hc.1]
    simp only[Af,Bo,B6]
    by_cases h2:(AO s.loads l).k=kd<;>simp[h2]<;>omega
  | thr l n ws =>
    have e:stk (step t s (.thr l n ws)).loads kd=stk (less s.loads l n) kd:=P2 fun _=>⟨rfl,rfl⟩
    rw[e,FF hc.1]
    simp only[Af,Bo,B6]
    by_cases h2:(AO s.loads l).k=kd<;>simp[h2]<;>omega
  | sell p q x =>
    have e:stk (step t s (.sell p q x)).loads kd=stk s.loads kd:=P2 fun _=>⟨rfl,rfl⟩
    rw[e]
    simp only[Af,B6]
    omega
theorem HQ{ls:List Ld}{kd w:Nat}:Ap (A6 ls) kd w=if w=0 then stk ls kd else 0:=by
  induction ls with
  |nil=>simp[A6,Ap,stk]
  | cons x ls ih =>
    show Ap (⟨x.k,0,x.n⟩::A6 ls) kd w=_
    rw[Bo,ih,Cz]
    by_cases h:w=0<;>by_cases h2:x.k=kd<;>simp[h,h2]<;>omega
theorem MU{ls:List Ld}{kd w:Nat}:Ap (EI ls) kd w=if w=5 then stk ls kd else 0:=by
  induction ls with
  |nil=>simp[EI,Ap,stk]
  | cons x ls ih =>
    show Ap (⟨x.k,5,x.n⟩::EI ls) kd w=_
    rw[Bo,ih,Cz]
    by_cases h:w=5
    · subst h
      by_cases h2:x.k=kd<;>simp[h2]
    · have h3 : ¬ 5 = w := by omega
      simp[h,h3]
theorem balance{t:Tr}{ls:List Ld}{ds:List Ah}(h:FL t ls ds){kd:Nat}:∀i,i≤ds.length->Ap (mvs t ls ds i) kd 0+Ap (mvs t ls ds i) kd 1=Ap (mvs t ls ds i) kd 2+Ap (mvs t ls ds i) kd 3+Ap (mvs t ls ds i) kd 4+stk (runs t (st0 t ls) (ds.take i)).loads kd/\Ap (mvs t ls ds i) kd 5=0
  | 0, _ => by
    show Ap (A6 ls) kd 0+Ap (A6 ls) kd 1=Ap (A6 ls) kd 2+Ap (A6 ls) kd 3+Ap (A6 ls) kd 4+stk ls kd/\Ap (A6 ls) kd 5=0
    simp[HQ]
  | i + 1, hi => by
    obtain⟨b,f⟩:=balance h (kd:=kd) i (by omega)
    have hd:ds[i]?=some ds[i]:=List.getElem?_eq_getElem (by omega)
    have can:=Gn h.good hd
    rw[Gx hd,Rw can]
    have e:mvs t ls ds (i+1)=mvs t ls ds i++Af (runs t (st0 t ls) (ds.take i)) ds[i]:=by
      show mvs t ls ds i++(match ds[i]? with|some d=>Af (runs t (st0 t ls) (ds.take i)) d|none=>[])=_
      rw[hd]
    rw[e]
    simp only[IT]
    refine⟨by omega,?_⟩
    rw[f]
    cases ds[i]<;>simp[Af,Bo,B6]
theorem T5{a:Nat}:PyData.strOk (Lp a)=true:=by
  match a with
  |0=>decide+kernel
  |1=>decide+kernel
  |2=>decide+kernel
  |3=>decide+kernel
  |4=>decide+kernel
  | _ + 5 =>
    show PyData.strOk (Str.ofString "left")=true
    decide+kernel
theorem Vb{a b:Nat}(ha:a<6)(hb:b<6):deq (.str (Lp a)) (.str (Lp b))=(a==b):=by
 have:∀a:Fin 6,∀b:Fin 6,deq (.str (Lp a.val)) (.str (Lp b.val))=(a.val==b.val):=by decide+kernel
 exact this ⟨a,ha⟩ ⟨b,hb⟩
section
variable{S:Sto}{t:Tr}{ls:List Ld}{ds:List Ah}{s:Stt}{d:Ah}{k i kd w:Nat}
theorem NJ(hc:Can t s d):BN [B9 s.loads,d.d] S=some (.lst ((Af s d).map mvD),S):=by
  cases d with
  |bring p k n=>simp[BN,B5,Ah.d,Af,mvD,Lp]
  |pool a b=>simp[BN,B5,Ah.d,Af]
  | swap l g k n =>
    have a:=Dz hc.1
    have ct:C5 [D.str "swap",.int l,.int g,.int k,.int n] (some (-4)) none=[.int l,.int g,.int k,.int n]:=nr rfl
    simp[BN,B5,Ah.d,Af,mvD,Lp,ct,a]
  | trade u l g k n =>
    have a:=Dz hc.1
    have ct:C5 [D.str "trade",.int u,.int l,.int g,.int k,.int n] (some (-4)) none=[.int l,.int g,.int k,.int n]:=nr rfl
    simp[BN,B5,Ah.d,Af,mvD,Lp,ct,a]
  | spoil l n =>
    have a:=Dz hc.1
    simp[BN,B5,Ah.d,Af,mvD,Lp,a]
  | thr l n ws =>
    have a:=Dz hc.1
    simp[BN,B5,Ah.d,Af,mvD,Lp,a]
  |sell p q x=>simp[BN,B5,Ah.d,Af]
theorem WE{L:List Ld}{wd:Str}{f:Ld->Mv}(hl:L.length≤30)(hf:∀x,mvD (f x)=.tup [.int x.k,.str wd,.int x.n]):Bj [] (tTp [(tNm 0),(tNm 1)]) BH (B4 [(eV 0),(eC (.str wd)),(eV 1)]) (L.map hD) [] [none,none] S=some ((L.map f).map mvD,S):=by
 have e:=CB (gs:=[]) (t:=tTp [(tNm 0),(tNm 1)]) (f:=B4 [(eV 0),(eC (.str wd)),(eV 1)]) (C:=[]) (m:=2) (e:=hD) (g:=fun x=>mvD (f x)) (S:=S) Ao (xs:=L) (acc:=[]) (os:=[none,none]) rfl (Nat.le_trans (show _≤50 by simp;omega) (AN (by decide))) (by
  intro x hx os ho
  obtain⟨o1,o2,rfl⟩:∃o1 o2,os=[o1,o2]:=by
   match os,ho with
   | [a,b],_=>exact⟨a,b,rfl⟩
  refine⟨[some (.int x.k),some (.int x.n)],rfl,by simp,?_⟩
  rw[hf]
  simp)
 rw[List.map_map]
 exact e
theorem N4{d:Ah}(hd:ds[i]?=some d):mvs t ls ds (i+1)=mvs t ls ds i++Af (runs t (st0 t ls) (ds.take i)) d:=by
 show mvs t ls ds i++(match ds[i]? with|some d=>Af (runs t (st0 t ls) (ds.take i)) d|none=>[])=_
 rw[hd]
theorem L5:(Af s d).length≤2:=by cases d<;>simp[Af]
theorem NF:(mvs t ls ds i).length≤ls.length+2*i:=by
  induction i with
  |zero=>simp[mvs,A6]
  | succ i ih =>
    show(mvs t ls ds i++_).length≤_
    rw[List.length_append]
    cases h:ds[i]? with
    |none=>simp;omega
    |some d=>have:=L5 (s:=runs t (st0 t ls) (ds.take i)) (d:=d);simp only;omega
theorem WS:∀{i:Nat},∀m∈mvs t ls ds i,m.w<6
  | 0, m, hm => by
    obtain⟨x,_,rfl⟩:=List.mem_map.mp hm
    exact Nat.zero_lt_succ _
  | i + 1, m, hm => by
    rcases List.mem_append.mp hm with hm|hm
    ·exact WS m hm
    · cases h : ds[i]? with
      |none=>rw[h]at hm;cases hm
      | some d =>
        rw[h]at hm
        cases d<;>simp[Af]at hm<;>(try rcases hm with rfl|rfl)<;>(try subst hm)<;>simp
theorem NX(h:FL t ls ds)(hn:i≤ds.length):EL [Bs t ls ds,.int i] S=some (.lst ((mvs t ls ds i++EI (runs t (st0 t ls) (ds.take i)).loads).map mvD),S):=by
 have hl0:ls.length≤4:=h.inv.len
 have hd:=h.len
 have ct:=Kt (ds:=ds.map Ah.d) (n:=i) (by simp;omega)
 have c0:=WE (S:=S) (L:=ls) (wd:="out") (f:=fun x=>⟨x.k,0,x.n⟩) (by omega) (fun _=>rfl)
 obtain⟨E',S',ef,j,o,f1,f2,rfl,rfl⟩:=Fz (gs:=[]) (t:=tNm 4) (b:=AY (Bc 3 (eOp (o2 A4) [(eV 3),(AM BN [(eV 2),(eV 4)])]))
  (Bc 2 (AM Ak [(eV 2),(eV 4)])))
  (I:=fun rs E S'=>∃(j:Nat) (o:Option D),rs=((ds.take i).drop j).map Ah.d/\j≤i/\E=[some (Bs t ls ds),some (.int i),some (B9 (runs t (st0 t ls) (ds.take j)).loads),some (.lst ((mvs t ls ds j).map mvD)),o]/\S'=S)
  (fun _ _ _ _=>Ao) (ds:=(ds.take i).map Ah.d) (E:=[some (Bs t ls ds),some (.int i),some (B9 ls),some (.lst ((A6 ls).map mvD)),none]) (S:=S)
  ⟨0,none,by simp,Nat.zero_le _,by simp[runs,st0,mvs],rfl⟩ (by
   rintro dd rs E T ⟨j,o,i1,i2,rfl,rfl⟩
   have hlt:j<(ds.take i).length:=by
    rcases Nat.lt_or_ge j (ds.take i).length with w|w
    ·exact w
    ·rw[List.drop_eq_nil_of_le w]at i1;cases i1
   rw[List.drop_eq_getElem_cons hlt,List.map_cons]at i1
   injection i1 with z1 z2
   subst z1 z2
   have hlt':j<ds.length:=by simp at hlt;omega
   have hin:j<i:=by simp at hlt;omega
   have hg:(ds.take i)[j]=ds[j]:=List.getElem_take
   rw[hg]
   have hdj:ds[j]?=some ds[j]:=List.getElem?_eq_getElem hlt'
   have can:=Gn h.good hdj
   have il:(ds.take j).length≤16:=by simp;omega
   have e3:=MA (S:=T) (h.at j) (by omega) can
   have mo:=NJ (S:=T) can
   have rt:=Gx (t:=t) (st:=st0 t ls) hdj
   have ml:=NF (t:=t) (ls:=ls) (ds:=ds) (i:=j)
   have m2:=L5 (s:=runs t (st0 t ls) (ds.take j)) (d:=ds[j])
   have hz:((mvs t ls ds j).map mvD).length+((Af (runs t (st0 t ls) (ds.take j)) ds[j]).map mvD).length≤sizeLine:=Nat.le_trans (show _≤100 by simp;omega) (AN (by decide))
   refine⟨_,[some (Bs t ls ds),some (.int i),some (B9 (runs t (st0 t ls) (ds.take (j+1))).loads),some (.lst ((mvs t ls ds (j+1)).map mvD)),some ds[j].d],T,by simp;rfl,?_,j+1,some ds[j].d,rfl,hin,rfl,rfl⟩
   rw[rt,N4 hdj,List.map_append]
   generalize (mvs t ls ds j).map mvD=MV at*
   generalize (Af (runs t (st0 t ls) (ds.take j)) ds[j]).map mvD=M2 at*
   simp[mo,hz,e3])
 have hz:j=i:=by
  have:=congrArg List.length f1
  simp at this
  omega
 subst hz
 have il:(ds.take j).length≤16:=by simp;omega
 have inv:=(h.at j).len
 have cl:=WE (S:=S') (L:=(runs t (st0 t ls) (ds.take j)).loads) (wd:="left") (f:=fun x=>⟨x.k,5,x.n⟩) (by omega) (fun _=>rfl)
 have fh:=KP (S:=S') (ls:=ls) (x:=t.d) (y:=.tup (ds.map Ah.d)) (by omega)
 have ml:=NF (t:=t) (ls:=ls) (ds:=ds) (i:=j)
 have hz:((mvs t ls ds j).map mvD).length+((EI (runs t (st0 t ls) (ds.take j)).loads).map mvD).length≤sizeLine:=Nat.le_trans (show _≤100 by simp[EI];omega) (AN (by decide))
 have dh:∀T L,sqD T (B9 L)=some (L.map hD,[]):=fun _ _=>nr rfl
 simp only[Bs]at ef⊢
 rw[List.map_take]at ef
 rw[List.map_append]
 have cl':Bj [] (tTp [(tNm 0),(tNm 1)]) BH (B4 [(eV 0),(eC (.str "left")),(eV 1)]) ((runs t (st0 t ls) (ds.take j)).loads.map hD) [] [none,none] S'=some ((EI (runs t (st0 t ls) (ds.take j)).loads).map mvD,S'):=cl
 have c0':Bj [] (tTp [(tNm 0),(tNm 1)]) BH (B4 [(eV 0),(eC (.str "out")),(eV 1)]) (ls.map hD) [] [none,none] S'=some ((A6 ls).map mvD,S'):=c0
 generalize (mvs t ls ds j).map mvD=MV at*
 generalize (EI (runs t (st0 t ls) (ds.take j)).loads).map mvD=ML at*
 generalize (A6 ls).map mvD=MF at*
 simp[EL,Hz,fh,dh,Ke,c0',ct,ef,cl',hz]
theorem Iz{ms:List Mv}(hm:∀m∈ms,m.w<6)(hl:ms.length≤100)(hw:w<6):Ba [.lst (ms.map mvD),.int kd,.str (Lp w)] S=some (.int (Ap ms kd w),S):=by
  have e:=C4 (gs:=[]) (t:=tTp [(tNm 2),(tNm 3),(tNm 4)]) (c:=Gk (eOp (o2 wEq) [(eV 2),(eV 0)]) (eOp (o2 wEq) [(eV 3),(eV 1)])) (f:=eV 4) (C:=[some (.int kd),some (.str (Lp w))]) (m:=3) (e:=mvD) (g:=fun m=>D.int m.n) (b:=fun m=>(m.k==kd) && (m.w==w)) (S:=S) Ao (xs:=ms) (acc:=[]) (os:=[none,none,none]) rfl (Nat.le_trans (show _≤200 by simp;omega) (AN (by decide))) (by
    intro x hx os ho
    obtain⟨o1,o2,o3,rfl⟩:∃o1 o2 o3,os=[o1,o2,o3]:=by
      match os,ho with
      | [a,b,c],_=>exact⟨a,b,c,rfl⟩
    have o:=Aq (x:=Lp x.w) (y:=Lp w) T5 T5
    have q:=Vb (hm x hx) hw
    have b:((x.k:Int)==(kd:Int))=(x.k==kd):=by
      rw[Bool.eq_iff_iff,beq_iff_eq,beq_iff_eq]
      omega
    refine⟨[some (.int x.k),some (.str (Lp x.w)),some (.int x.n)],rfl,by simp[mvD],?_,by simp⟩
    cases hk:x.k==kd with
    |true=>rw[hk]at b;simp[b,o,q]
    |false=>rw[hk]at b;simp[b])
  simp only[List.nil_append]at e
  have es:JL ((ms.filter fun m=>(m.k==kd) && (m.w==w)).map fun m=>D.int m.n)=some ((ms.filter fun m=>(m.k==kd) && (m.w==w)).map fun m=>m.n):=by
    have:=DV ((ms.filter fun m=>(m.k==kd) && (m.w==w)).map fun m=>m.n)
    rwa [List.map_map]at this
  have ev:((ms.filter fun m=>(m.k==kd) && (m.w==w)).map fun m=>m.n).sum=Ap ms kd w:=by
    clear e es hl
    induction ms with
    |nil=>rfl
    | cons m ms ih =>
      rw[Bo,List.filter_cons,←ih fun x hx=>hm x (List.mem_cons_of_mem _ hx)]
      by_cases h1:m.k=kd<;>by_cases h2:m.w=w<;>simp[h1,h2]
  simp only[List.cons_append,List.nil_append]at e
  generalize (ms.filter fun m=>(m.k==kd) && (m.w==w)).map (fun m=>D.int m.n)=V at*
  simp[Ba,FI,Ke,e,es,ev]
noncomputable def Om(t:Tr)(ls:List Ld)(ds:List Ah)(i kd:Nat):List Int:=[Ap (mvs t ls ds i) kd 0,Ap (mvs t ls ds i) kd 1,Ap (mvs t ls ds i) kd 2,Ap (mvs t ls ds i) kd 3,Ap (mvs t ls ds i) kd 4,stk (runs t (st0 t ls) (ds.take i)).loads kd]
noncomputable def IC(t:Tr)(ls:List Ld)(ds:List Ah)(i:Nat):D:=.tup ((List.range t.k).map fun kd=>.tup ((Om t ls ds i kd).map D.int))
theorem LU(h:FL t ls ds)(hn:i≤ds.length):CY [Bs t ls ds,.int i] S=some (IC t ls ds i,S):=by
 obtain⟨t1,t2,t3,t4,t5,t6⟩:=h.tr
 have mb:=NX (S:=S) h hn
 have hd:=h.len
 have hl0:ls.length≤4:=h.inv.len
 have il:(ds.take i).length≤16:=by simp;omega
 have inv:=(h.at i).len
 have ml:=NF (t:=t) (ls:=ls) (ds:=ds) (i:=i)
 have hw:∀m∈mvs t ls ds i++EI (runs t (st0 t ls) (ds.take i)).loads,m.w<6:=fun m hm=>by
  rcases List.mem_append.mp hm with hm|hm
  ·exact WS m hm
  ·obtain⟨x,_,rfl⟩:=List.mem_map.mp hm
   exact Nat.lt_succ_self 5
 have hl:(mvs t ls ds i++EI (runs t (st0 t ls) (ds.take i)).loads).length≤100:=by simp[EI];omega
 have pm:=fun(kd w:Nat) (hw6:w<6)=>Iz (S:=S) (kd:=kd) (w:=w) hw hl hw6
 have fl:∀kd w,w<5->Ap (mvs t ls ds i++EI (runs t (st0 t ls) (ds.take i)).loads) kd w=Ap (mvs t ls ds i) kd w:=fun kd w h5=>by
  rw[IT,MU,if_neg (by omega)];omega
 have fl5:∀kd,Ap (mvs t ls ds i++EI (runs t (st0 t ls) (ds.take i)).loads) kd 5=stk (runs t (st0 t ls) (ds.take i)).loads kd:=fun kd=>by
  rw[IT,MU,if_pos rfl,(balance h i hn).2];omega
 generalize mvs t ls ds i++EI (runs t (st0 t ls) (ds.take i)).loads=ms at*
 have inner:∀kd:Nat,Bj [] (tNm 2) BH (AM Ba [(eV 0),(eV 1),(eV 2)]) [.str "out",.str "got",.str "given",.str "spoilt",.str "thrown",.str "left"] [] [some (.lst (ms.map mvD)),some (.int kd),none] S=some ((Om t ls ds i kd).map D.int,S):=fun kd=>by
  have e:=CB (gs:=[]) (t:=tNm 2) (f:=AM Ba [(eV 0),(eV 1),(eV 2)]) (C:=[some (.lst (ms.map mvD)),some (.int kd)]) (m:=1) (e:=fun w=>D.str (Lp w)) (g:=fun w=>D.int (Ap ms kd w)) (S:=S) Ao (xs:=[0,1,2,3,4,5]) (acc:=[]) (os:=[none]) rfl (AN (by decide)) (by
   intro w hx os ho
   obtain⟨o1,rfl⟩:∃o1,os=[o1]:=by
    match os,ho with
    | [a],_=>exact⟨a,rfl⟩
   have hw6:w<6:=by simp at hx;omega
   exact⟨[some (.str (Lp w))],rfl,by simp,by simp[pm kd w hw6]⟩)
  have er:([0,1,2,3,4,5]:List Nat).map (fun w=>D.int (Ap ms kd w))=(Om t ls ds i kd).map D.int:=by
   simp only[List.map_cons,List.map_nil,Om,fl kd 0 (by decide),fl kd 1 (by decide),fl kd 2 (by decide),fl kd 3 (by decide),fl kd 4 (by decide),fl5 kd]
  rw[er]at e
  exact e
 have e:=CB (gs:=[]) (t:=tNm 1) (f:=eOp (o1 BK) [(Bt [0,1] 1 (FR (eC HL)) (tNm 2) BH (AM Ba [(eV 0),(eV 1),(eV 2)]))]) (C:=[some (.lst (ms.map mvD))]) (m:=1) (e:=fun kd:Nat=>D.int kd) (g:=fun kd=>D.tup ((Om t ls ds i kd).map D.int)) (S:=S) Ao (xs:=List.range t.k) (acc:=[]) (os:=[none]) rfl (Nat.le_trans (show _≤50 by simp;omega) (AN (by decide))) (by
  intro kd hx os ho
  obtain⟨o1,rfl⟩:∃o1,os=[o1]:=by
   match os,ho with
   | [a],_=>exact⟨a,rfl⟩
  have ik:=inner kd
  refine⟨[some (.int kd)],rfl,by simp,?_⟩
  generalize ms.map mvD=MD at*
  generalize (Om t ls ds i kd).map D.int=RD at*
  simp[HL,Ke,ik])
 have rk:GD (t.k:Int)=true:=Ce (by omega) (by omega)
 have as1:asS (.val t.d)=some [.int t.p,.int t.k,.int t.b,shD t.ho,.int t.h,.int t.l]:=rfl
 have dt:∀T,dr T t.d=.val t.d:=fun _=>rfl
 rw[←LQ]at e
 simp only[List.cons_append,List.nil_append,Int.toNat_natCast]at e
 simp only[Bs,IC]at mb⊢
 generalize (List.range t.k).map (fun kd=>D.tup ((Om t ls ds i kd).map D.int))=RR at*
 generalize ms.map mvD=MD at*
 simp[CY,GG,mb,as1,dt,rk,Ke,e]
end
noncomputable def Hn(f:Nat->Nat->Int)(kd:Nat):Cl:=.lst [.int (f kd 0),.int (f kd 1),.int (f kd 2),.int (f kd 3),.int (f kd 4)]
noncomputable def bump(f:Nat->Nat->Int)(k w:Nat)(n:Int):Nat->Nat->Int:=fun kd w'=>f kd w'+if k=kd/\w=w' then n else 0
def EF(S:Sto)(b K:Nat)(f:Nat->Nat->Int):Prop:=∀kd,kd<K->S[b+kd]?=some (Hn f kd)
noncomputable def Em(b K:Nat):List D:=(List.range K).map fun kd=>D.ref (b+kd)
section
variable{S T:Sto}{b K k w q s l m:Nat}{f:Nat->Nat->Int}{n:Int}{as:List Nat}{st:Stt}{t:Tr}{E:En}
theorem EF.same{A:List Nat}(h:EF S b K f)(g:Df A S T)(hA:∀n∈A,n<b∨b+K≤n):EF T b K f:=fun kd hk=>g.get (h kd hk) fun z=>by have:=hA _ z;omega
theorem EF.bump(h:EF S b K f)(hk:k<K):EF (S.set (b+k) (Hn (bump f k w n) k)) b K (Mi.bump f k w n):=fun kd hd=>by
 by_cases e:kd=k
 ·subst e
  exact List.getElem?_set_self (Ac (h kd hk))
 ·rw[List.getElem?_set_ne (by omega),h kd hd]
  have:∀w',Mi.bump f k w n kd w'=f kd w':=fun w'=>by
   unfold Mi.bump
   rw[if_neg (fun z=>e z.1.symm)]
   omega
  simp[Hn,this]
theorem GV(hk:k<K):atI (Em b K) (k:Int)=some (.ref (b+k)):=CA (by simp[Em,hk])
theorem Ib{eb en ei:Ev}(h:EF T b K f)(hk:k<K)(hw:w<5)(hb:eb E T=some (.ref (b+k),T))(hn:en E T=some (.int n,T))(hi:ei E T=some (.int w,T)):FD (eOp (o2 A4) [(eOp (o2 wIx) [eb,ei]),en]) eb ei E T=some (.nx,E,T.set (b+k) (Hn (bump f k w n) k)):=by
  have d:=AX (h k hk)
  have c:=AR (h k hk)
  match w,hw with
  |0,_=>simp[hb,hn,hi,d,c,Hn,bump]
  |1,_=>simp[hb,hn,hi,d,c,Hn,bump]
  |2,_=>simp[hb,hn,hi,d,c,Hn,bump]
  | 3, _ =>
    have z:ixN 5 3=some 3:=by decide
    simp[hb,hn,hi,d,c,Hn,bump,z]
  | 4, _ =>
    have z:ixN 5 4=some 4:=by decide
    simp[hb,hn,hi,d,c,Hn,bump,z]
theorem ZY{L:List Ld}{kd:Nat}(hl:L.length≤30):Bj [] (tNm 1) (eOp (o2 wEq) [(eOp (o2 wIx) [(eV 1),(eC (.int 0))]),(eV 0)]) (eOp (o2 wIx) [(eV 1),(eC (.int 1))]) (L.map Ld.d) [] [some (.int kd),none] T=some ((((L.filter fun x=>x.k==kd).map fun x=>x.n).map D.int),T):=by
 have e:=C4 (gs:=[]) (t:=tNm 1) (c:=eOp (o2 wEq) [(eOp (o2 wIx) [(eV 1),(eC (.int 0))]),(eV 0)]) (f:=eOp (o2 wIx) [(eV 1),(eC (.int 1))]) (C:=[some (.int kd)]) (m:=1) (e:=Ld.d) (g:=fun x=>D.int x.n) (b:=fun x=>x.k==kd) (S:=T) Ao (xs:=L) (acc:=[]) (os:=[none]) rfl (Nat.le_trans (show _≤50 by simp;omega) (AN (by decide))) (by
  intro x hx os ho
  obtain⟨o1,rfl⟩:∃o1,os=[o1]:=by
   match os,ho with
   | [a],_=>exact⟨a,rfl⟩
  have:((x.k:Int)==(kd:Int))=(x.k==kd):=by
   rw[Bool.eq_iff_iff,beq_iff_eq,beq_iff_eq]
   omega
  exact⟨[some x.d],rfl,by simp,by simp[Ld.d,this],by simp[Ld.d]⟩)
 rw[List.map_map]
 exact e
theorem Zo{kd:Nat}(hS:SAt T s l m as st)(hl:st.loads.length≤30):Bj [(l,as.map D.ref)] (tNm 1) (eOp (o2 wEq) [(eOp (o2 wIx) [(eV 1),(eC (.int 0))]),(eV 0)]) (eOp (o2 wIx) [(eV 1),(eC (.int 1))]) (as.map D.ref) [] [some (.int kd),none] T=some ((((st.loads.filter fun x=>x.k==kd).map fun x=>x.n).map D.int),T):=by
 have e:=C4 (gs:=[(l,as.map D.ref)]) (t:=tNm 1) (c:=eOp (o2 wEq) [(eOp (o2 wIx) [(eV 1),(eC (.int 0))]),(eV 0)]) (f:=eOp (o2 wIx) [(eV 1),(eC (.int 1))]) (C:=[some (.int kd)]) (m:=1) (e:=fun z:Nat×Ld=>D.ref z.1) (g:=fun z=>D.int z.2.n) (b:=fun z=>z.2.k==kd) (S:=T) hS.guard (xs:=as.zip st.loads) (acc:=[]) (os:=[none]) rfl (Nat.le_trans (show _≤50 by simp;omega) (AN (by decide))) (by
  intro z hz os ho
  obtain⟨o1,rfl⟩:∃o1,os=[o1]:=by
   match os,ho with
   | [a],_=>exact⟨a,rfl⟩
  have:((z.2.k:Int)==(kd:Int))=(z.2.k==kd):=by
   rw[Bool.eq_iff_iff,beq_iff_eq,beq_iff_eq]
   omega
  have d:=AX (hS.zmem hz)
  exact⟨[some (.ref z.1)],rfl,by simp,by simp[d,this],by simp[d]⟩)
 rw[←Nh hS.len]at e
 have e2:((st.loads.filter fun x=>x.k==kd).map fun x=>x.n).map D.int=((as.zip st.loads).filter fun z=>z.2.k==kd).map fun z=>D.int z.2.n:=by
  have:st.loads=(as.zip st.loads).map Prod.snd:=(List.map_snd_zip (by have:=hS.len;omega)).symm
  conv=>lhs;rw[this]
  rw[List.filter_map,List.map_map,List.map_map]
  rfl
 rw[e2]
 exact e
def X4:Ev:=Gw [(eOp (o1 OO) [(Bt [1] 1 (FR (eOp (o2 wIx) [(eV 0),(eC (.int 1))])) (tNm 1) (eOp (o2 wEq) [(eOp (o2 wIx) [(eV 1),(eC (.int 0))]),(eV 0)]) (eOp (o2 wIx) [(eV 1),(eC (.int 1))]))]),(eC (.int 0)),(eC (.int 0)),(eC (.int 0)),(eC (.int 0))]
theorem VC{ls:List Ld}{ds:List Ah}{kd:Nat}(hl:ls.length≤30):X4 [some (Bs t ls ds),some (.int kd)] S=some (.ref S.length,S++[Hn (Ap (A6 ls)) kd]):=by
 have c:=ZY (T:=S) (L:=ls) (kd:=kd) hl
 have is:=DV ((ls.filter fun x=>x.k==kd).map fun x=>x.n)
 have sk:((ls.filter fun x=>x.k==kd).map fun x=>x.n).sum=stk ls kd:=Jf
 generalize ((ls.filter fun x=>x.k==kd).map fun x=>x.n).map D.int=Z at*
 simp[X4,Bs,Ke,c,is,sk,Hn,HQ]
theorem Xk{ls:List Ld}{ds:List Ah}(hl:ls.length≤30):∀{n i:Nat} {acc:List D} {o:Option D} {S:Sto},acc.length+n≤100->Bj [] (tNm 1) BH X4 ((List.range' i n).map fun(k:Nat)=>D.int k) acc [some (Bs t ls ds),o] S=some (acc++(List.range' S.length n).map D.ref,S++(List.range' i n).map (Hn (Ap (A6 ls))))
  | 0, i, acc, o, S, h => by
    show Bj [] (tNm 1) BH X4 [] acc [some (Bs t ls ds),o] S=_
    rw[DZ Ao];simp
  | n + 1, i, acc, o, S, h => by
    rw[List.range'_succ,List.map_cons,Fc (E1:=[some (Bs t ls ds),some (.int i)]) Ao (Nat.lt_of_lt_of_le (show acc.length<101 by omega) (AN (by decide))) (by simp) Eg]
    rw[VC hl,A9,Xk hl (by simp at h ⊢; omega)]
    simp[List.range'_succ]
theorem W8(h:EF T b K f)(hK:K≤30):Bj [] (tNm 0) BH (eOp (o2 A4) [(eOp (o1 BK) [(eV 0)]),(B4 [(eOp (o2 wIx) [(eV 0),(eC (.int 0))])])]) (Em b K) [] [none] T=some ((List.range K).map fun kd=>D.tup [.int (f kd 0),.int (f kd 1),.int (f kd 2),.int (f kd 3),.int (f kd 4),.int (f kd 0)],T):=
 CB (gs:=[]) (t:=tNm 0) (f:=eOp (o2 A4) [(eOp (o1 BK) [(eV 0)]),(B4 [(eOp (o2 wIx) [(eV 0),(eC (.int 0))])])]) (C:=[]) (m:=1) (e:=fun kd=>D.ref (b+kd)) (g:=fun kd=>D.tup [.int (f kd 0),.int (f kd 1),.int (f kd 2),.int (f kd 3),.int (f kd 4),.int (f kd 0)]) (S:=T) Ao (xs:=List.range K) (acc:=[]) (os:=[none]) rfl (Nat.le_trans (show _≤50 by simp;omega) (AN (by decide))) (by
  intro kd hx os ho
  obtain⟨o1,rfl⟩:∃o1,os=[o1]:=by
   match os,ho with
   | [a],_=>exact⟨a,rfl⟩
  have d:=AX (h kd (by simpa using hx))
  have z:(6:Nat)≤sizeLine:=AN (by decide)
  exact⟨[some (.ref (b+kd))],rfl,by simp,by simp[d,z]⟩)
theorem N8{α:Type}{u v:α->D}:∀{xs:List α},Kh (xs.map u) (xs.map v)=xs.map fun x=>D.tup [u x,v x]
  | []=>rfl
  | x :: xs => by
    have:=N8 (u:=u) (v:=v) (xs:=xs)
    simp only[Kh,List.map_cons,List.zip_cons_cons]at this⊢
    rw[this]
theorem aM{g:Nat->Int}(h:EF T b K f)(hK:K≤30):Bj [] (tTp [(tNm 0),(tNm 1)]) BH (eOp (o2 A4) [(eOp (o1 BK) [(eV 0)]),(B4 [(eV 1)])]) (Kh (Em b K) ((List.range K).map fun kd=>D.int (g kd))) [] [none,none] T=some ((List.range K).map fun kd=>D.tup [.int (f kd 0),.int (f kd 1),.int (f kd 2),.int (f kd 3),.int (f kd 4),.int (g kd)],T):=by
 have e:=CB (gs:=[]) (t:=tTp [(tNm 0),(tNm 1)]) (f:=eOp (o2 A4) [(eOp (o1 BK) [(eV 0)]),(B4 [(eV 1)])]) (C:=[]) (m:=2) (e:=fun kd=>D.tup [D.ref (b+kd),.int (g kd)]) (g:=fun kd=>D.tup [.int (f kd 0),.int (f kd 1),.int (f kd 2),.int (f kd 3),.int (f kd 4),.int (g kd)]) (S:=T) Ao (xs:=List.range K) (acc:=[]) (os:=[none,none]) rfl (Nat.le_trans (show _≤50 by simp;omega) (AN (by decide))) (by
  intro kd hx os ho
  obtain⟨o1,o2,rfl⟩:∃o1 o2,os=[o1,o2]:=by
   match os,ho with
   | [a,b],_=>exact⟨a,b,rfl⟩
  have d:=AX (h kd (by simpa using hx))
  have z:(6:Nat)≤sizeLine:=AN (by decide)
  exact⟨[some (.ref (b+kd)),some (.int (g kd))],rfl,by simp,by simp[d,z]⟩)
 rw[←N8]at e
 exact e
def Rm:Ev:=eOp (o1 OO) [(Bt [1] 1 (FR (eOp (o2 wIx) [(eV 0),(eC (.int 0))])) (tNm 1) (eOp (o2 wEq) [(eOp (o2 wIx) [(eV 1),(eC (.int 0))]),(eV 0)]) (eOp (o2 wIx) [(eV 1),(eC (.int 1))]))]
theorem aC(hS:SAt T s l m as st)(hl:st.loads.length≤30)(hK:K≤30):Bj [] (tNm 1) BH Rm (Hi 0 K) [] [some (.ref s),none] T=some ((List.range K).map (fun kd=>D.int (stk st.loads kd)),T):=by
 have e:=CB (gs:=[]) (t:=tNm 1) (f:=Rm) (C:=[some (.ref s)]) (m:=1) (e:=fun kd:Nat=>D.int kd) (g:=fun kd=>D.int (stk st.loads kd)) (S:=T) Ao (xs:=List.range K) (acc:=[]) (os:=[none]) rfl (Nat.le_trans (show _≤50 by simp;omega) (AN (by decide))) (by
  intro kd hx os ho
  obtain⟨o1,rfl⟩:∃o1,os=[o1]:=by
   match os,ho with
   | [a],_=>exact⟨a,rfl⟩
  have c:=Zo (kd:=kd) hS hl
  have r:=AX hS.root
  have sq:=D8 hS.lo
  have is:=DV ((st.loads.filter fun x=>x.k==kd).map fun x=>x.n)
  have sk:((st.loads.filter fun x=>x.k==kd).map fun x=>x.n).sum=stk st.loads kd:=Jf
  refine⟨[some (.int kd)],rfl,by simp,?_⟩
  generalize ((st.loads.filter fun x=>x.k==kd).map fun x=>x.n).map D.int=Z at*
  simp[Rm,r,sq,Ke,c,is,sk])
 rw[←LQ,Int.toNat_natCast]at e
 exact e
end
section
variable{S T:Sto}{b K k w q s l m:Nat}{f:Nat->Nat->Int}{n:Int}{as:List Nat}{st:Stt}{t:Tr}{E:En}
def Jv:Ex:=(xIf (eOp (o2 wEq) [(eOp (o2 wIx) [(eV 5),(eC (.int 0))]),(eC (.str "bring"))]) (FD (eOp (o2 A4) [(eOp (o2 wIx) [(eOp (o2 wIx) [(eV 3),(eOp (o2 wIx) [(eV 5),(eC (.int 2))])]),(eC (.int 0))]),(eOp (o2 wIx) [(eV 5),(eC (.int 3))])]) (eOp (o2 wIx) [(eV 3),(eOp (o2 wIx) [(eV 5),(eC (.int 2))])]) (eC (.int 0))) (xIf (eOp (o2 (wIn false)) [(eOp (o2 wIx) [(eV 5),(eC (.int 0))]),(B4 [(eC (.str "swap")),(eC (.str "trade"))])]) (AY (NU (tTp [(tNm 6),(tNm 7),(tNm 8),(tNm 9)]) (eOp (De true false) [(eV 5),(eOp (o1 M8) [(eC (.int 4))])]))
  (AY (FD (eOp (o2 A4) [(eOp (o2 wIx) [(eOp (o2 wIx) [(eV 3),(eV 8)]),(eC (.int 1))]),(eV 9)]) (eOp (o2 wIx) [(eV 3),(eV 8)]) (eC (.int 1)))
  (FD (eOp (o2 A4) [(eOp (o2 wIx) [(eOp (o2 wIx) [(eV 3),(eOp (o2 wIx) [(eOp (o2 wIx) [(eOp (o2 wIx) [(eV 1),(eC (.int 0))]),(eV 6)]),(eC (.int 0))])]),(eC (.int 2))]),(eV 7)]) (eOp (o2 wIx) [(eV 3),(eOp (o2 wIx) [(eOp (o2 wIx) [(eOp (o2 wIx) [(eV 1),(eC (.int 0))]),(eV 6)]),(eC (.int 0))])]) (eC (.int 2))))) (xIf (eOp (o2 (wIn false)) [(eOp (o2 wIx) [(eV 5),(eC (.int 0))]),(B4 [(eC (.str "spoil")),(eC (.str "throw"))])]) (AY (NS 10 8 (eOp (o2 A4) [(eC (.int 3)),(eOp (o1 Oo) [(eOp (o2 wEq) [(eOp (o2 wIx) [(eV 5),(eC (.int 0))]),(eC (.str "throw"))])])]) (eOp (o2 wIx) [(eOp (o2 wIx) [(eOp (o2 wIx) [(eV 1),(eC (.int 0))]),(eOp (o2 wIx) [(eV 5),(eC (.int 1))])]),(eC (.int 0))]))
  (FD (eOp (o2 A4) [(eOp (o2 wIx) [(eOp (o2 wIx) [(eV 3),(eV 8)]),(eV 10)]),(eOp (o2 wIx) [(eV 5),(eC (.int 2))])]) (eOp (o2 wIx) [(eV 3),(eV 8)]) (eV 10))) CD)))
theorem FC(hd:∀n∈s::l::m::as,n<b∨b+K<n)(hk:k<K):∀n∈ [b+k],n∉s::l::m::as:=fun n hn z=>by
 have:=hd n z
 have:n=b+k:=by simpa using hn
 omega
theorem R5{B:D}{d:Ah}{o6 o7 o8 o9 o10 o11:Option D}(hS:SAt T s l m as st)(hR:EF T b t.k f)(hc:Can t st d)(inv:FP t k st)(hd:∀n∈s::l::m::as,n<b∨b+t.k<n):
    ∃p6 p7 p8 p9 p10 T',Jv [some B,some (.ref s),some (.int t.k),some (.lst (Em b t.k)),some (.ref (b+t.k)),some d.d,o6,o7,o8,o9,o10,o11] T=some (.nx,[some B,some (.ref s),some (.int t.k),some (.lst (Em b t.k)),some (.ref (b+t.k)),some d.d,p6,p7,p8,p9,p10,o11],T')/\EF T' b t.k (fun kd w=>f kd w+Ap (Af st d) kd w)/\SAt T' s l m as st/\(∀n,n<b∨b+t.k≤n->T'[n]?=T[n]?)/\T'.length=T.length:=by
  have kl:∀{i:Nat},i<st.loads.length->(AO st.loads i).k<t.k:=fun hi=>inv.kind _ (BU hi)
  cases d with
  | bring p kd n =>
    obtain⟨_,hk,_⟩:=hc
    have ra:=GV (b:=b) hk
    have se:=Ib (E:=[some B,some (.ref s),some (.int t.k),some (.lst (Em b t.k)),some (.ref (b+t.k)),some (Ah.bring p kd n).d,o6,o7,o8,o9,o10,o11]) (w:=0) (n:=n) (eb:=eOp (o2 wIx) [(eV 3),(eOp (o2 wIx) [(eV 5),(eC (.int 2))])]) (ei:=eC (.int 0)) (en:=eOp (o2 wIx) [(eV 5),(eC (.int 3))]) hR hk (by decide) (by simp[Ah.d,ra]) (by simp[Ah.d]) (by simp)
    refine⟨o6,o7,o8,o9,o10,T.set (b+kd) (Hn (bump f kd 0 n) kd),?_,?_,hS.same (A:=[b+kd]) (.set (by simp)) (FC hd hk),fun n hn=>List.getElem?_set_ne (by omega),by simp⟩
    · simp only [Ah.d] at se ⊢
      simp[Jv,-G5]
      exact se
    · have := hR.bump (w := 0) (n := n) hk
      have e:Mi.bump f kd 0 n=fun kd' w=>f kd' w+Ap (Af st (.bring p kd n)) kd' w:=by
        funext k' w'
        simp only[Mi.bump,Af,Bo,B6]
        omega
      rw[e]at this⊢
      exact this
  | pool i j =>
    refine⟨o6,o7,o8,o9,o10,T,?_,?_,hS,fun _ _=>rfl,rfl⟩
    ·simp[Jv,Ah.d]
    · simp only [Af, B6, Int.add_zero]
      exact hR
  | sell i j x =>
    refine⟨o6,o7,o8,o9,o10,T,?_,?_,hS,fun _ _=>rfl,rfl⟩
    ·simp[Jv,Ah.d]
    · simp only [Af, B6, Int.add_zero]
      exact hR
  | spoil i n =>
    have hi:=hc.1
    have hk:=kl hi
    obtain⟨a,a1,a2,a3⟩:=hS.at hi
    have r0:=AX hS.root
    have lo:=AX hS.lo
    have xx:=AX a2
    have ra:=GV (b:=b) hk
    have se:=Ib (E:=[some B,some (.ref s),some (.int t.k),some (.lst (Em b t.k)),some (.ref (b+t.k)),some (Ah.spoil i n).d,o6,o7,some (.int (AO st.loads i).k),o9,some (.int 3),o11]) (w:=3) (n:=n) (eb:=eOp (o2 wIx) [(eV 3),(eV 8)]) (ei:=eV 10) (en:=eOp (o2 wIx) [(eV 5),(eC (.int 2))]) hR hk (by decide) (by simp[ra]) (by simp[Ah.d]) (by simp)
    refine⟨o6,o7,some (.int (AO st.loads i).k),o9,some (.int 3),T.set (b+(AO st.loads i).k) (Hn (bump f (AO st.loads i).k 3 n) (AO st.loads i).k),?_,?_,hS.same (A:=[b+(AO st.loads i).k]) (.set (by simp)) (FC hd hk),fun n hn=>List.getElem?_set_ne (by omega),by simp⟩
    · simp only [Ah.d] at se ⊢
      simp[Jv,-G5,r0,lo,a3,xx]
      exact se
    · have := hR.bump (w := 3) (n := n) hk
      have e:Mi.bump f (AO st.loads i).k 3 n=fun kd' w=>f kd' w+Ap (Af st (.spoil i n)) kd' w:=by
        funext k' w'
        simp only[Mi.bump,Af,Bo,B6]
        omega
      rw[e]at this⊢
      exact this
  | thr i n ws =>
    have hi:=hc.1
    have hk:=kl hi
    obtain⟨a,a1,a2,a3⟩:=hS.at hi
    have r0:=AX hS.root
    have lo:=AX hS.lo
    have xx:=AX a2
    have ra:=GV (b:=b) hk
    have se:=Ib (E:=[some B,some (.ref s),some (.int t.k),some (.lst (Em b t.k)),some (.ref (b+t.k)),some (Ah.thr i n ws).d,o6,o7,some (.int (AO st.loads i).k),o9,some (.int 4),o11]) (w:=4) (n:=n) (eb:=eOp (o2 wIx) [(eV 3),(eV 8)]) (ei:=eV 10) (en:=eOp (o2 wIx) [(eV 5),(eC (.int 2))]) hR hk (by decide) (by simp[ra]) (by simp[Ah.d]) (by simp)
    refine⟨o6,o7,some (.int (AO st.loads i).k),o9,some (.int 4),T.set (b+(AO st.loads i).k) (Hn (bump f (AO st.loads i).k 4 n) (AO st.loads i).k),?_,?_,hS.same (A:=[b+(AO st.loads i).k]) (.set (by simp)) (FC hd hk),fun n hn=>List.getElem?_set_ne (by omega),by simp⟩
    · simp only [Ah.d] at se ⊢
      simp[Jv,-G5,r0,lo,a3,xx]
      exact se
    · have := hR.bump (w := 4) (n := n) hk
      have e:Mi.bump f (AO st.loads i).k 4 n=fun kd' w=>f kd' w+Ap (Af st (.thr i n ws)) kd' w:=by
        funext k' w'
        simp only[Mi.bump,Af,Bo,B6]
        omega
      rw[e]at this⊢
      exact this
  | swap i g kd n =>
    obtain⟨hi,_,_,hk,_⟩:=hc
    have hk2:=kl hi
    have ra:=GV (b:=b) hk
    have ra2:=GV (b:=b) hk2
    have ct:C5 [D.str "swap",.int i,.int g,.int kd,.int n] (some (-4)) none=[.int i,.int g,.int kd,.int n]:=nr rfl
    have se:=Ib (E:=[some B,some (.ref s),some (.int t.k),some (.lst (Em b t.k)),some (.ref (b+t.k)),some (Ah.swap i g kd n).d,some (.int i),some (.int g),some (.int kd),some (.int n),o10,o11]) (w:=1) (n:=n) (eb:=eOp (o2 wIx) [(eV 3),(eV 8)]) (ei:=eC (.int 1)) (en:=eV 9) hR hk (by decide) (by simp[ra]) (by simp) (by simp)
    have hS1:=hS.same (A:=[b+kd]) (.set (n:=b+kd) (c:=Hn (bump f kd 1 n) kd) (by simp)) (FC hd hk)
    have hR1:=hR.bump (w:=1) (n:=n) hk
    generalize hT:T.set (b+kd) (Hn (bump f kd 1 n) kd)=T1 at*
    obtain⟨a,a1,a2,a3⟩:=hS1.at hi
    have r0:=AX hS1.root
    have lo:=AX hS1.lo
    have xx:=AX a2
    have se2:=Ib (E:=[some B,some (.ref s),some (.int t.k),some (.lst (Em b t.k)),some (.ref (b+t.k)),some (Ah.swap i g kd n).d,some (.int i),some (.int g),some (.int kd),some (.int n),o10,o11]) (w:=2) (n:=g) (eb:=eOp (o2 wIx) [(eV 3),(eOp (o2 wIx) [(eOp (o2 wIx) [(eOp (o2 wIx) [(eV 1),(eC (.int 0))]),(eV 6)]),(eC (.int 0))])]) (ei:=eC (.int 2)) (en:=eV 7) hR1 hk2 (by decide) (by simp[r0,lo,a3,xx,ra2]) (by simp) (by simp)
    refine⟨some (.int i),some (.int g),some (.int kd),some (.int n),o10,T1.set (b+(AO st.loads i).k) (Hn (bump (bump f kd 1 n) (AO st.loads i).k 2 g) (AO st.loads i).k),?_,?_,hS1.same (A:=[b+(AO st.loads i).k]) (.set (by simp)) (FC hd hk2),?_,by rw[←hT];simp⟩
    · simp only [Ah.d] at se se2 ⊢
      simp[Jv,-G5,ct,se]
      exact se2
    · have := hR1.bump (w := 2) (n := g) hk2
      have e:Mi.bump (Mi.bump f kd 1 n) (AO st.loads i).k 2 g=fun kd' w=>f kd' w+Ap (Af st (.swap i g kd n)) kd' w:=by
        funext k' w'
        simp only[Mi.bump,Af,Bo,B6]
        omega
      rw[e]at this⊢
      exact this
    ·intro n hn;rw[List.getElem?_set_ne (by omega),←hT,List.getElem?_set_ne (by omega)]
  | trade u i g kd n =>
    obtain⟨hi,_,_,hk,_⟩:=hc
    have hk2:=kl hi
    have ra:=GV (b:=b) hk
    have ra2:=GV (b:=b) hk2
    have ct:C5 [D.str "trade",.int u,.int i,.int g,.int kd,.int n] (some (-4)) none=[.int i,.int g,.int kd,.int n]:=nr rfl
    have se:=Ib (E:=[some B,some (.ref s),some (.int t.k),some (.lst (Em b t.k)),some (.ref (b+t.k)),some (Ah.trade u i g kd n).d,some (.int i),some (.int g),some (.int kd),some (.int n),o10,o11]) (w:=1) (n:=n) (eb:=eOp (o2 wIx) [(eV 3),(eV 8)]) (ei:=eC (.int 1)) (en:=eV 9) hR hk (by decide) (by simp[ra]) (by simp) (by simp)
    have hS1:=hS.same (A:=[b+kd]) (.set (n:=b+kd) (c:=Hn (bump f kd 1 n) kd) (by simp)) (FC hd hk)
    have hR1:=hR.bump (w:=1) (n:=n) hk
    generalize hT:T.set (b+kd) (Hn (bump f kd 1 n) kd)=T1 at*
    obtain⟨a,a1,a2,a3⟩:=hS1.at hi
    have r0:=AX hS1.root
    have lo:=AX hS1.lo
    have xx:=AX a2
    have se2:=Ib (E:=[some B,some (.ref s),some (.int t.k),some (.lst (Em b t.k)),some (.ref (b+t.k)),some (Ah.trade u i g kd n).d,some (.int i),some (.int g),some (.int kd),some (.int n),o10,o11]) (w:=2) (n:=g) (eb:=eOp (o2 wIx) [(eV 3),(eOp (o2 wIx) [(eOp (o2 wIx) [(eOp (o2 wIx) [(eV 1),(eC (.int 0))]),(eV 6)]),(eC (.int 0))])]) (ei:=eC (.int 2)) (en:=eV 7) hR1 hk2 (by decide) (by simp[r0,lo,a3,xx,ra2]) (by simp) (by simp)
    refine⟨some (.int i),some (.int g),some (.int kd),some (.int n),o10,T1.set (b+(AO st.loads i).k) (Hn (bump (bump f kd 1 n) (AO st.loads i).k 2 g) (AO st.loads i).k),?_,?_,hS1.same (A:=[b+(AO st.loads i).k]) (.set (by simp)) (FC hd hk2),?_,by rw[←hT];simp⟩
    · simp only [Ah.d] at se se2 ⊢
      simp[Jv,-G5,ct,se]
      exact se2
    · have := hR1.bump (w := 2) (n := g) hk2
      have e:Mi.bump (Mi.bump f kd 1 n) (AO st.loads i).k 2 g=fun kd' w=>f kd' w+Ap (Af st (.trade u i g kd n)) kd' w:=by
        funext k' w'
        simp only[Mi.bump,Af,Bo,B6]
        omega
      rw[e]at this⊢
      exact this
    ·intro n hn;rw[List.getElem?_set_ne (by omega),←hT,List.getElem?_set_ne (by omega)]
end
section
variable{S T:Sto}{t:Tr}{ls:List Ld}{ds:List Ah}
def YL:Ex:=(AY (Dx (AM BX [(eOp (o2 wIx) [(eV 0),(eC (.int 0))]),(eV 1),(eV 5)]))
  (AY (Bc 11 (Bt [1] 1 (Jg [(eV 2)]) (tNm 1) BH Rm))
  (Dx (Lo MC (eV 4) [(eOp (o1 BK) [(Bt [] 2 (T9 (eV 3) (eV 11)) (tTp [(tNm 0),(tNm 1)]) BH (eOp (o2 A4) [(eOp (o1 BK) [(eV 0)]),(B4 [(eV 1)])]))])]))))
theorem Sm(h:FL t ls ds):∃q S',D2 [Bs t ls ds] S=some (.ref q,S')/\S'[q]?=some (.lst ((List.range (ds.length+1)).map fun j=>IC t ls ds j))/\Df [] S S'/\S.length≤q:=by
 have hl1:ls.length≤4:=h.inv.len
 have hK:t.k≤30:=by obtain⟨t1,t2,t3,t4,t5,t6⟩:=h.tr;omega
 have rk:GD (t.k:Int)=true:=Ce (by omega) (by omega)
 obtain⟨s,l,m,as,S1,e1,hS,sm,hn⟩:=N0 (S:=S) (t:=t) (ls:=ls) (x:=.tup (ds.map Ah.d)) (by omega)
 have hS:SAt S1 s l m as (st0 t ls):=hS
 have sm2:Df [] S (S1++(List.range t.k).map (Hn (Ap (A6 ls)))):=sm.trans .app
 have bS:S.length≤S1.length:=sm.len
 have lt:=hS.lts
 have rc:=Xk (t:=t) (ds:=ds) (show ls.length≤30 by omega) (n:=t.k) (i:=0) (acc:=[]) (o:=none) (S:=S1) (by simp;omega)
 have er:(List.range' S1.length t.k).map D.ref=Em S1.length t.k:=by
  rw[List.range'_eq_map_range,List.map_map];rfl
 rw[er,List.nil_append,←List.range_eq_range',←LQ,Int.toNat_natCast]at rc
 have hR:EF (S1++(List.range t.k).map (Hn (Ap (A6 ls)))) S1.length t.k (Ap (A6 ls)):=fun kd hk=>by
  rw[List.getElem?_append_right (by omega),Nat.add_sub_cancel_left,List.getElem?_map,List.getElem?_range hk]
  rfl
 have hS2:=hS.same0 (S':=S1++(List.range t.k).map (Hn (Ap (A6 ls)))) .app
 have ln:(S1++(List.range t.k).map (Hn (Ap (A6 ls)))).length=S1.length+t.k:=by simp
 have hd0:∀n∈s::l::m::as,n<S1.length∨S1.length+t.k<n:=fun n hn=>.inl (lt n hn)
 generalize hb:S1.length=b at*
 generalize S1++(List.range t.k).map (Hn (Ap (A6 ls)))=S2 at*
 have fc:=W8 hR hK
 have ef0:((List.range t.k).map fun kd=>D.tup [.int (Ap (A6 ls) kd 0),.int (Ap (A6 ls) kd 1),.int (Ap (A6 ls) kd 2),.int (Ap (A6 ls) kd 3),.int (Ap (A6 ls) kd 4),.int (Ap (A6 ls) kd 0)])=(List.range t.k).map fun kd=>D.tup ((Om t ls ds 0 kd).map D.int):=List.map_congr_left fun kd _=>by
  have:Ap (A6 ls) kd 0=stk ls kd:=by rw[HQ,if_pos rfl]
  simp only[Om,List.map_cons,List.map_nil]
  rw[this]
  show _=D.tup [.int (Ap (A6 ls) kd 0),_,_,_,_,_]
  rw[this]
  rfl
 rw[ef0]at fc
 have hS3:SAt (S2++[Cl.lst [IC t ls ds 0]]) s l m as (st0 t ls):=hS2.same0 .app
 have hR3:EF (S2++[Cl.lst [IC t ls ds 0]]) b t.k (Ap (A6 ls)):=hR.same (A:=[]) .app fun _ z=>(nomatch z)
 have hq:(S2++[Cl.lst [IC t ls ds 0]])[b+t.k]?=some (.lst [IC t ls ds 0]):=by rw[←ln];exact List.getElem?_concat_length
 obtain⟨E',S',ef,i,as',o5,o6,o7,o8,o9,o10,o11,f1,f2,rfl,f3,f4,f5,f6,f7,f8⟩:=Fz (gs:=[]) (t:=tNm 5) (b:=AY Jv YL)
  (I:=fun rs E S'=>∃(i:Nat) (as':List Nat) (o5 o6 o7 o8 o9 o10 o11:Option D),rs=(ds.drop i).map Ah.d/\i≤ds.length/\E=[some (Bs t ls ds),some (.ref s),some (.int t.k),some (.lst (Em b t.k)),some (.ref (b+t.k)),o5,o6,o7,o8,o9,o10,o11]/\S'[b+t.k]?=some (.lst ((List.range (i+1)).map fun j=>IC t ls ds j))/\EF S' b t.k (Ap (mvs t ls ds i))/\SAt S' s l m as' (runs t (st0 t ls) (ds.take i))/\(∀n∈s::l::m::as',n<b∨b+t.k<n)/\Df [] S S'/\∀n∈s::l::m::as',S.length≤n)
  (fun _ _ _ _=>Ao) (ds:=ds.map Ah.d) (E:=[some (Bs t ls ds),some (.ref s),some (.int t.k),some (.lst (Em b t.k)),some (.ref (b+t.k)),none,none,none,none,none,none,none]) (S:=S2++[Cl.lst [IC t ls ds 0]])
  ⟨0, as, none, none, none, none, none, none, none, by simp, Nat.zero_le _, rfl, by rw [hq]; rfl, hR3, hS3, hd0, sm2.trans .app, hn⟩ (by
   rintro dd rs E T ⟨i,as',o5,o6,o7,o8,o9,o10,o11,i1,i2,rfl,i3,i4,i5,i6,i7,i8⟩
   have hlt:i<ds.length:=by
    rcases Nat.lt_or_ge i ds.length with w|w
    ·exact w
    ·rw[List.drop_eq_nil_of_le w]at i1;cases i1
   rw[List.drop_eq_getElem_cons hlt,List.map_cons]at i1
   injection i1 with z1 z2
   subst z1 z2
   have hdi:ds[i]?=some ds[i]:=List.getElem?_eq_getElem hlt
   have inv:=h.at i
   have il:(ds.take i).length≤16:=by have:=h.len;simp;omega
   have can:=Gn h.good hdi
   obtain⟨p6,p7,p8,p9,p10,T1,b1,b2,b3,b4,b5⟩:=R5 (B:=Bs t ls ds) (o6:=o6) (o7:=o7) (o8:=o8) (o9:=o9) (o10:=o10) (o11:=o11) i5 i4 can inv i6
   obtain⟨T2,as2,k1,k2,k3,k4⟩:=W9 b3 h.tr inv il can
   have q1:=i3
   rw[←b4 _ (.inr (Nat.le_refl _))]at q1
   have hql:=Ac q1
   have q2:=k3.get q1 fun z=>by have:=i6 _ z;omega
   rw[←Gx hdi]at k2
   have R2:=b2.same k3 fun n hn=>by have:=i6 n hn;omega
   have em:(fun kd w=>Ap (mvs t ls ds i) kd w+Ap (Af (runs t (st0 t ls) (ds.take i)) ds[i]) kd w)=Ap (mvs t ls ds (i+1)):=by
    funext kd w
    rw[N4 hdi,IT]
   rw[em]at R2
   have inv2:=(h.at (i+1)).len
   have il2:(ds.take (i+1)).length≤16:=by have:=h.len;simp;omega
   have lc:=aC (K:=t.k) k2 (by omega) hK
   have nc:=aM (g:=fun kd=>stk (runs t (st0 t ls) (ds.take (i+1))).loads kd) R2 hK
   have kk:=AR q2
   have q6:∀n∈s::l::m::as2,n<b∨b+t.k<n:=by
    intro n hz
    simp only[List.mem_cons]at hz i6
    rcases hz with z|z|z|z
    ·exact i6 n (.inl z)
    ·exact i6 n (.inr (.inl z))
    ·exact i6 n (.inr (.inr (.inl z)))
    ·rcases k4 _ z with w|w
     ·exact i6 n (.inr (.inr (.inr w)))
     ·exact .inr (Nat.lt_of_lt_of_le hql w)
   have q8:∀n∈s::l::m::as2,S.length≤n:=by
    intro n hz
    simp only[List.mem_cons]at hz i8
    rcases hz with z|z|z|z
    ·exact i8 n (.inl z)
    ·exact i8 n (.inr (.inl z))
    ·exact i8 n (.inr (.inr (.inl z)))
    ·rcases k4 _ z with w|w
     ·exact i8 n (.inr (.inr (.inr w)))
     ·have:=i7.len;omega
   have q7:Df [] S (T2.set (b+t.k) (.lst ((List.range (i+1+1)).map fun j=>IC t ls ds j))):=⟨by have:=i7.len;have:=k3.len;simp;omega,fun n hn _=>by
    rw[List.getElem?_set_ne (by omega),k3.keep n (by have:=i7.len;omega) (fun z=>by have:=i8 n z;omega),b4 n (.inl (by omega)),i7.keep n hn (by simp)]⟩
   refine⟨_,[some (Bs t ls ds),some (.ref s),some (.int t.k),some (.lst (Em b t.k)),some (.ref (b+t.k)),some ds[i].d,p6,p7,p8,p9,p10,some (.lst ((List.range t.k).map fun kd=>D.int (stk (runs t (st0 t ls) (ds.take (i+1))).loads kd)))],T2.set (b+t.k) (.lst ((List.range (i+1+1)).map fun j=>IC t ls ds j)),by simp;rfl,?_,i+1,as2,some ds[i].d,p6,p7,p8,p9,p10,_,rfl,hlt,rfl,List.getElem?_set_self (Ac q2),R2.same (A:=[b+t.k]) (.set (by simp)) (by intro n hn;simp at hn;omega),k2.same (A:=[b+t.k]) (.set (by simp)) (by intro n hn z;have:=q6 n z;simp at hn;omega),q6,q7,q8⟩
   have hz:((List.range (i+1)).map fun j=>IC t ls ds j).length<sizeLine:=Nat.lt_of_lt_of_le (show _<50 by have:=h.len;simp;omega) (AN (by decide))
   have hfin:((List.range (i+1+1)).map fun j=>IC t ls ds j)=((List.range (i+1)).map fun j=>IC t ls ds j)++[IC t ls ds (i+1)]:=by
    rw[List.range_succ,List.map_append];rfl
   have hrow:IC t ls ds (i+1)=.tup ((List.range t.k).map fun kd=>D.tup [.int (Ap (mvs t ls ds (i+1)) kd 0),.int (Ap (mvs t ls ds (i+1)) kd 1),.int (Ap (mvs t ls ds (i+1)) kd 2),.int (Ap (mvs t ls ds (i+1)) kd 3),.int (Ap (mvs t ls ds (i+1)) kd 4),.int (stk (runs t (st0 t ls) (ds.take (i+1))).loads kd)]):=rfl
   have ad:YL [some (Bs t ls ds),some (.ref s),some (.int t.k),some (.lst (Em b t.k)),some (.ref (b+t.k)),some ds[i].d,p6,p7,p8,p9,p10,o11] T1=some (.nx,[some (Bs t ls ds),some (.ref s),some (.int t.k),some (.lst (Em b t.k)),some (.ref (b+t.k)),some ds[i].d,p6,p7,p8,p9,p10,some (.lst ((List.range t.k).map fun kd=>D.int (stk (runs t (st0 t ls) (ds.take (i+1))).loads kd)))],T2.set (b+t.k) (.lst ((List.range (i+1+1)).map fun j=>IC t ls ds j))):=by
    rw[hfin,hrow]
    simp only[Bs]at kk hz⊢
    generalize ((List.range (i+1)).map fun j=>IC t ls ds j)=DD at*
    generalize ((List.range t.k).map fun kd=>D.tup [.int (Ap (mvs t ls ds (i+1)) kd 0),.int (Ap (mvs t ls ds (i+1)) kd 1),.int (Ap (mvs t ls ds (i+1)) kd 2),.int (Ap (mvs t ls ds (i+1)) kd 3),.int (Ap (mvs t ls ds (i+1)) kd 4),.int (stk (runs t (st0 t ls) (ds.take (i+1))).loads kd)])=RR at*
    generalize ((List.range t.k).map fun kd=>D.int (stk (runs t (st0 t ls) (ds.take (i+1))).loads kd))=LL at*
    simp[YL,k1,rk,Ke,lc,nc,kk,hz]
   rw[BV]
   generalize (Bs t ls ds)=BB at*
   simp only[List.set_cons_succ,List.set_cons_zero,b1,A9]
   exact ad)
 have hz:i=ds.length:=by
  have:=congrArg List.length f1
  simp at this
  omega
 subst hz
 refine⟨b+t.k,S',?_,f3,f7,by omega⟩
 have eb:JU=(AY (NU (tTp [(tNm 1),(tNm 2)]) (B4 [(AM C6 [(eV 0)]),(eOp (o2 wIx) [(eOp (o2 wIx) [(eV 0),(eC (.int 0))]),(eC (.int 1))])]))
  (AY (Bc 3 (Bt [0] 1 (Jg [(eV 2)]) (tNm 1) BH X4))
  (AY (Bc 4 (Gw [(eOp (o1 BK) [(Bt [] 1 (FR (eV 3)) (tNm 0) BH (eOp (o2 A4) [(eOp (o1 BK) [(eV 0)]),(B4 [(eOp (o2 wIx) [(eV 0),(eC (.int 0))])])]))])]))
  (AY (Mt (FR (eOp (o2 wIx) [(eV 0),(eC (.int 2))])) (tNm 5) (AY Jv YL))
  (BQ (eV 4)))))):=rfl
 have td:wIx (.val t.d) (.val (.int 1))=some (.val (.int t.k)):=by simp[Tr.d]
 have dt:∀T,dr T t.d=.val t.d:=fun _=>rfl
 have tb:wIx (.val (.tup [t.d,.tup (ls.map Ld.d),.tup (ds.map Ah.d)])) (.val (.int 0))=some (.val t.d):=by simp
 have as1:asS (.val t.d)=some [.int t.p,.int t.k,.int t.b,shD t.ho,.int t.h,.int t.l]:=rfl
 unfold D2
 rw[eb]
 simp only[IC]at ef
 simp only[Bs]at rc ef⊢
 generalize ((List.range t.k).map fun kd=>D.tup ((Om t ls ds 0 kd).map D.int))=R0 at*
 generalize Em b t.k=RL at*
 simp[e1,as1,dt,rk,Ke,rc,fc,ln,ef]
end
def Pl:Nat->D->Prop
 |0,_=>False
 |_+1,.int _=>True
 |m+1,.tup ds=>ds.length≤1000/\∀d∈ds,Pl m d
 |m+1,.lst ds=>ds.length≤1000/\∀d∈ds,Pl m d
 |_+1,_=>False
theorem SS{n:Nat}:EJ (n+1)=BM (BR 2 (ED (Ck n))):=rfl
theorem NB{n:Nat}:Ck (n+1)=BM (BR 2 (CK (EJ n))):=rfl
section
variable{S:Sto}
end
theorem UB{gs:Gd}{t:Tf}{b:Ex}{Iv:Nat->En->Sto->Prop}{L:List D}(hg:∀i E S,Iv i E S->gOk gs S){E:En}{S:Sto}(h0:Iv 0 E S)
  (hs:∀i d E S,L[i]?=some d->Iv i E S->∃E1 E2 S2,t d E S=some E1/\b E1 S=some (.nx,E2,S2)/\Iv (i+1) E2 S2):∃E' S',Kj gs t b L E S=some (.nx,E',S')/\Iv L.length E' S':=by
 obtain⟨E',S',e,i,f1,f2,f3⟩:=Fz (gs:=gs) (t:=t) (b:=b) (I:=fun rs E S=>∃i,rs=L.drop i/\i≤L.length/\Iv i E S) (fun ds E S ⟨i,_,_,h⟩=>hg i E S h) (ds:=L) (E:=E) (S:=S) ⟨0,rfl,Nat.zero_le _,h0⟩ (by
  rintro d ds E S ⟨i,e,hi,h⟩
  have hlt:i<L.length:=by
   rcases Nat.lt_or_ge i L.length with w|w
   ·exact w
   ·rw[List.drop_eq_nil_of_le w]at e;cases e
  rw[List.drop_eq_getElem_cons hlt]at e
  injection e with z1 z2
  obtain⟨E1,E2,S2,a,b,c⟩:=hs i d E S (by rw[z1];exact List.getElem?_eq_getElem hlt) h
  exact⟨E1,E2,S2,a,b,i+1,z2,hlt,c⟩)
 have:i=L.length:=by
  have:=congrArg List.length f1
  simp at this
  omega
 subst this
 exact⟨E',S',e,f3⟩
theorem Xc{n i:Nat}{d:D}(h:(Hi 0 n)[i]?=some d):d=.int i/\i<n:=by
 unfold Hi at h
 have hi:=(List.getElem?_eq_some_iff.mp h).1
 simp at hi
 rw[List.getElem?_map,List.getElem?_range hi]at h
 simp at h
 exact⟨h.symm,hi⟩
section
variable{E:En}{S:Sto}{f g k o:Ev}{d:D}{es:List (Key×D)}
@[simp] theorem Zz:evP [] E S=some ([],S):=nr rfl
@[simp] theorem Y5{r:List (Ev×Ev)}:evP ((k,f)::r) E S=(k E S).bind fun a=>(Ye a.1).bind fun kk=>(f E a.2).bind fun b=>(evP r E b.2).map fun q=>((kk,b.1)::q.1,q.2):=nr rfl
@[simp] theorem Yo{x:Str}:Ye (.str x)=some (.inr x):=nr rfl
@[simp] theorem Ws{cf:Bool}{fs:List (Ev×Ev)}:PB cf fs E S=(evP fs E S).map fun r=>SK cf (KZ [] r.1) r.2:=nr rfl
@[simp] theorem af:SK false es S=(.dct es,S):=nr rfl
end
@[simp]theorem kq0:kdW (.val .non)=some .non:=rfl
@[simp]theorem kq1{b:Bool}:kdW (.val (.bl b))=some .bl:=rfl
@[simp]theorem kq2{i:Int}:kdW (.val (.int i))=some .int:=rfl
@[simp]theorem kq3{x:Str}:kdW (.val (.str x))=some .str:=rfl
@[simp]theorem kq4{ds:List D}:kdW (.val (.tup ds))=some .tup:=rfl
@[simp]theorem kq5{ds:List D}:kdW (.val (.lst ds))=some .lst:=rfl
@[simp]theorem kq6{ds:List (Key × D)}:kdW (.val (.dct ds))=some .dct:=rfl
inductive Th:D->Prop
 |non:Th .non
 |bl (b:Bool):Th (.bl b)
 |int (i:Int):Th (.int i)
 |str (x:Str) (h:PySem.PyData.strOk x=true):Th (.str x)
 |tup {ds:List D} (h:∀d∈ds,Th d) (l:ds.length≤1000):Th (.tup ds)
 |lst {ds:List D} (h:∀d∈ds,Th d) (l:ds.length≤1000):Th (.lst ds)
 |dct (kvs:List (Key×D)):Th (.dct kvs)
mutual
noncomputable def Cw(x:D):D->Bool
  | .int j=>match x with
    | .int i=>i==j
    |_=>false
  | .tup ts=>match x with
    | .tup xs=>FQ xs ts
    |_=>false
  | .lst ts=>match x with
    | .lst xs=>FQ xs ts
    |_=>false
  |_=>false
noncomputable def FQ:List D->List D->Bool
 | [],[]=>true
 |x::xs,t::ts=>Cw x t && FQ xs ts
 |_,_=>false
end
theorem MN:∀{xs ts:List D},FQ xs ts=true->xs.length=ts.length
  | [],[],_=>rfl
  | x :: xs, t :: ts, h => by
    have h:(Cw x t && FQ xs ts)=true:=by simpa[FQ]using h
    rw[Bool.and_eq_true]at h
    simp[MN h.2]
  | [],_::_,h=>by simp[FQ]at h
  |_::_,[],h=>by simp[FQ]at h
theorem Md:∀{xs ts:List D},xs.length=ts.length->FQ xs ts=(xs.zip ts).all fun z=>Cw z.1 z.2
  | [],[],_=>by simp[FQ]
  | x :: xs, t :: ts, h => by
    rw[List.zip_cons_cons,List.all_cons,←Md (by simpa using h)]
    simp[FQ]
  | [],_::_,h=>by simp at h
  |_::_,[],h=>by simp at h
def As(w:Wv)(d:D):Prop:=w=.val d∨∃ds,d=.lst ds/\w=.own ds
theorem As.fz{w:Wv}{d:D}(h:As w d):fz w=d:=by
 rcases h with rfl|⟨ds,rfl,rfl⟩<;>rfl
theorem As.kd{w:Wv}{d:D}(h:As w d):kdW w=kdW (.val d):=by
 rcases h with rfl|⟨ds,rfl,rfl⟩<;>rfl
theorem As.len{w:Wv}{d:D}{xs:List D}(h:As w d)(e:d=.tup xs∨d=.lst xs):F6 w=some (.val (.int xs.length))/\asS w=some xs:=by
 rcases h with rfl|⟨ds,rfl,rfl⟩
 ·rcases e with rfl|rfl<;>exact⟨rfl,rfl⟩
 ·rcases e with e|e
  ·cases e
  ·cases e;exact⟨rfl,rfl⟩
structure Thg(S:Sto)(X x:D):Prop where
 th:Th x
 as:As (dr S X) x
 sq:∀xs,(x=.tup xs∨x=.lst xs)->∃gs,sqD S X=some (xs,gs)/\gOk gs S
section
variable{S:Sto}
theorem Th.dr{x:D}(h:Th x):dr S x=.val x:=by cases h<;>rfl
theorem Thg.plain{x:D}(h:Th x):Thg S x x:=⟨h,.inl h.dr,fun xs e=>by
 rcases e with rfl|rfl<;>exact⟨[],rfl,Ao⟩⟩
theorem Thg.ref{q:Nat}{L:List D}(hq:S[q]?=some (.lst L))(h:∀d∈L,Th d)(l:L.length≤1000):Thg S (.ref q) (.lst L):=⟨.lst h l,.inr ⟨L,rfl,AX hq⟩,fun xs e=>by
 rcases e with e|e
 ·cases e
 ·cases e
  exact⟨_,D8 hq,fun g hg=>by rw[List.mem_singleton.mp hg];exact AR hq⟩⟩
theorem NT:∀{m:Nat} {d:D},Pl m d->Th d
 |0,d,h=>by cases d<;>exact h.elim
 |m+1,.int i,h=>.int i
 |m+1,.tup ds,h=>.tup (fun d hd=>NT (h.2 d hd)) h.1
 |m+1,.lst ds,h=>.lst (fun d hd=>NT (h.2 d hd)) h.1
theorem QO:∀{m:Nat} {d:D},Pl m d->d.lay=true
  |0,d,h=>by cases d<;>exact h.elim
  |m+1,.int i,h=>rfl
  | m + 1, .tup ds, h => by
    show D.lays ds=true
    have:=IM (f:=id) (xs:=ds) fun d hd=>QO (h.2 d hd)
    simpa using this
  | m + 1, .lst ds, h => by
    show D.lays ds=true
    have:=IM (f:=id) (xs:=ds) fun d hd=>QO (h.2 d hd)
    simpa using this
theorem Xx{m:Nat}{x T:D}{wx wT:Wv}(hx:Th x)(hT:Pl (m+1) T)(ax:As wx x)(aT:As wT T)(hb:∀b,x≠.bl b)(hs:∀xs ts,¬((x=.tup xs∨x=.lst xs)/\(T=.tup ts∨T=.lst ts))):Pp wx wT=some (.val (.bl (Cw x T))):=by
  have lT:=QO hT
  have dead:(Cy x T=true->deq x T=false)->Cw x T=false->(Cy x T=false->∃k j,kdW (.val x)=some k/\kdW (.val T)=some j/\unlike k j=true)->Pp wx wT=some (.val (.bl (Cw x T))):=fun h1 h2 h3=>by
    unfold Pp
    rw[ax.fz,aT.fz]
    cases ho:Cy x T with
    |true=>rw[if_pos rfl,h1 ho,h2]
    | false =>
      obtain⟨k,j,e1,e2,e3⟩:=h3 ho
      rw[if_neg (by simp),ax.kd,aT.kd,e1,e2,A9,A9,if_pos e3,h2]
  have flat:x.lay=true->x.py.depth≤1->Cy x T=true:=fun l d=>by
    unfold Cy
    rw[l,lT]
    simp only[Bool.true_and,decide_eq_true_eq]
    omega
  cases T with
  | int j =>
    cases hx with
    |non=>exact dead (fun _=>rfl) rfl fun h=>by rw[flat rfl (by simp[D.py,PyData.depth])]at h;cases h
    |bl b=>exact absurd rfl (hb b)
    | int i =>
      unfold Pp
      rw[ax.fz,aT.fz,if_pos Vl,Wm]
      simp[Cw]
    |str y h=>exact dead (fun _=>rfl) rfl fun h'=>by rw[flat h (by simp[D.py,PyData.depth])]at h';cases h'
    |tup h l=>exact dead (fun _=>rfl) rfl fun _=>⟨_,_,rfl,rfl,rfl⟩
    |lst h l=>exact dead (fun _=>rfl) rfl fun _=>⟨_,_,rfl,rfl,rfl⟩
    |dct k=>exact dead (fun h=>by simp[Cy,D.lay]at h) rfl fun _=>⟨_,_,rfl,rfl,rfl⟩
  | tup ts =>
    cases hx with
    |non=>exact dead (fun _=>rfl) rfl fun h=>by rw[flat rfl (by simp[D.py,PyData.depth])]at h;cases h
    |bl b=>exact absurd rfl (hb b)
    |int i=>exact dead (fun _=>rfl) rfl fun h=>by rw[flat rfl (by simp[D.py,PyData.depth])]at h;cases h
    |str y h=>exact dead (fun _=>rfl) rfl fun h'=>by rw[flat h (by simp[D.py,PyData.depth])]at h';cases h'
    |tup h l=>exact absurd ⟨.inl rfl,.inl rfl⟩ (hs _ _)
    |lst h l=>exact absurd ⟨.inr rfl,.inl rfl⟩ (hs _ _)
    |dct k=>exact dead (fun h=>by simp[Cy,D.lay]at h) rfl fun _=>⟨_,_,rfl,rfl,rfl⟩
  | lst ts =>
    cases hx with
    |non=>exact dead (fun _=>rfl) rfl fun h=>by rw[flat rfl (by simp[D.py,PyData.depth])]at h;cases h
    |bl b=>exact absurd rfl (hb b)
    |int i=>exact dead (fun _=>rfl) rfl fun h=>by rw[flat rfl (by simp[D.py,PyData.depth])]at h;cases h
    |str y h=>exact dead (fun _=>rfl) rfl fun h'=>by rw[flat h (by simp[D.py,PyData.depth])]at h';cases h'
    |tup h l=>exact absurd ⟨.inl rfl,.inr rfl⟩ (hs _ _)
    |lst h l=>exact absurd ⟨.inr rfl,.inr rfl⟩ (hs _ _)
    |dct k=>exact dead (fun h=>by simp[Cy,D.lay]at h) rfl fun _=>⟨_,_,rfl,rfl,rfl⟩
  |_=>exact hT.elim
end
section
variable{S:Sto}
theorem PZ{α:Type}{p:α->Bool}{xs:List α}:((bls (xs.map fun x=>D.bl (p x))).map fun bs=>Wv.val (.bl (bs.all id)))=some (.val (.bl (xs.all p))):=by
 rw[QE p]
 simp[List.all_map]
theorem Jd:∀{xs ts:List D},xs.length=ts.length->FQ xs ts=(List.range xs.length).all fun i=>Cw (xs.getD i .non) (ts.getD i .non)
  | [],[],_=>by simp[FQ]
  | x :: xs, t :: ts, h => by
    have ih:=Jd (xs:=xs) (ts:=ts) (by simpa using h)
    rw[List.length_cons,List.range_succ_eq_map,List.all_cons,List.all_map]
    simp only[FQ,ih]
    rfl
  | [],_::_,h=>by simp at h
  |_::_,[],h=>by simp at h
theorem Nv{xs ts:List D}(h:¬xs.length=ts.length):FQ xs ts=false:=by
 cases e:FQ xs ts with
 |false=>rfl
 |true=>exact absurd (MN e) h
theorem O0{n:Nat}{ts xs:List D}{X TT x T:D}(gx:Thg S X x)(gT:Thg S TT T)(ex:x=.tup xs∨x=.lst xs)(eT:T=.tup ts∨T=.lst ts)(lx:xs.length≤1000)
  (ih:∀(i:Nat) (h1:i<xs.length) (h2:i<ts.length),Ck n [xs[i],ts[i]] S=some (.bl (Cw xs[i] ts[i]),S)):EJ (n+1) [X,TT] S=some (.bl (FQ xs ts),S):=by
 obtain⟨gs,e1,e2⟩:=gx.sq xs ex
 obtain⟨e3,e4⟩:=gx.as.len ex
 obtain⟨e5,e6⟩:=gT.as.len eT
 rw[SS]
 by_cases hlen:xs.length=ts.length
 ·have c:=CB (gs:=gs) (t:=tTp [(tNm 1),(tNm 2)]) (f:=AM (Ck n) [(eV 2),(eOp (o2 wIx) [(eV 0),(eV 1)])]) (C:=[some TT]) (m:=2) (e:=fun(i:Nat)=>D.tup [.int i,xs.getD i .non]) (g:=fun i=>D.bl (Cw (xs.getD i .non) (ts.getD i .non))) (S:=S) e2 (xs:=List.range xs.length) (acc:=[]) (os:=[none,none]) rfl (AN (by simpa using lx)) (by
   intro i hi os ho
   match os,ho with
   | [a,b],_=>
   have hi':i<xs.length:=by simpa using hi
   have hi2:i<ts.length:=by omega
   have eg:xs.getD i .non=xs[i]:=by rw[List.getD_eq_getElem?_getD,List.getElem?_eq_getElem hi'];rfl
   have eg2:ts.getD i .non=ts[i]:=by rw[List.getD_eq_getElem?_getD,List.getElem?_eq_getElem hi2];rfl
   have a:=CA (List.getElem?_eq_getElem hi2)
   have hs:=ih i hi' hi2
   refine⟨[some (.int i),some xs[i]],rfl,by rw[eg];simp,?_⟩
   rw[eg,eg2]
   simp[e6,a,hs])
  rw[←JP]at c
  simp only[List.nil_append,List.cons_append]at c
  have al:=Jd hlen
  have bb:=PZ (p:=fun i=>Cw (xs.getD i .non) (ts.getD i .non)) (xs:=List.range xs.length)
  rw[←al]at bb
  generalize (List.range xs.length).map (fun i=>D.bl (Cw (xs.getD i .non) (ts.getD i .non)))=BB at*
  simp[ED,e3,e5,hlen,e1,c,bb]
 ·have hl:¬(xs.length:Int)=ts.length:=by omega
  have hb:((xs.length:Int)==ts.length)=false:=by simpa using hl
  rw[Nv hlen]
  simp[ED,e3,e5,hb]
theorem O7{X x:D}(g:Thg S X x):EN [X] S=some (.bl (match x with| .int _=>true|_=>false),S):=by
 have kx:=g.as.kd
 have th:=g.th
 cases th with
 |_=>simp[EN,Hg,kx,St.Kd.isA]
theorem Ip:∀{m:Nat} {T:D},Pl m T->∀{n:Nat} {X x:D},2*m≤n->Thg S X x->Ck n [X,T] S=some (.bl (Cw x T),S)
  |0,T,h,_,_,_,_,_=>by cases T<;>exact h.elim
  | m + 1, .int j, h, n, X, x, hn, g => by
    obtain⟨n',rfl⟩:∃n',n=n'+1:=⟨n-1,by omega⟩
    have fx:=g.as.fz
    have th:=g.th
    have w:=O7 g
    rw[NB]
    cases th with
    |int i=>simp[CK,St.Kd.isA,isN,w,fx,Cw]
    |_=>simp[CK,St.Kd.isA,isN,w,Cw]
  | m + 1, .tup ts, h, n, X, x, hn, g => by
    obtain⟨n',rfl⟩:∃n',n=n'+1+1:=⟨n-2,by omega⟩
    have kx:=g.as.kd
    have th:=g.th
    have gT:Thg S (.tup ts) (.tup ts):=.plain (NT h)
    rw[NB]
    cases th with
    | tup hx lx =>
      rename_i xs
      have ar:=O0 (n:=n') g gT (.inl rfl) (.inl rfl) lx fun i h1 h2=>Ip (h.2 ts[i] (List.getElem_mem h2)) (n:=n') (by omega) (Thg.plain (hx xs[i] (List.getElem_mem h1)))
      simp[CK,kx,St.Kd.isA,ar,Cw]
    |_=>simp[CK,kx,St.Kd.isA,Cw]
  | m + 1, .lst ts, h, n, X, x, hn, g => by
    obtain⟨n',rfl⟩:∃n',n=n'+1+1:=⟨n-2,by omega⟩
    have kx:=g.as.kd
    have th:=g.th
    have gT:Thg S (.lst ts) (.lst ts):=.plain (NT h)
    rw[NB]
    cases th with
    | lst hx lx =>
      rename_i xs
      have ar:=O0 (n:=n') g gT (.inr rfl) (.inr rfl) lx fun i h1 h2=>Ip (h.2 ts[i] (List.getElem_mem h2)) (n:=n') (by omega) (Thg.plain (hx xs[i] (List.getElem_mem h1)))
      simp[CK,kx,St.Kd.isA,ar,Cw]
    |_=>simp[CK,kx,St.Kd.isA,Cw]
theorem O4{n:Nat}:Bg (n+1)=BM (BR 2 (Bv (Bg n))):=rfl
noncomputable def Ol:D->Bool
 | .tup _=>true
 | .lst _=>true
 |_=>false
theorem N6{w:Wv}{x:D}(h:Th x)(a:As w x):ME w (.val (.tup [.ty "list",.ty "tuple"]))=some (.val (.bl (Ol x))):=by
 have k:=a.kd
 have:ME w (.val (.tup [.ty "list",.ty "tuple"]))=(kdW w).map fun k=>.val (.bl (k.isA "list" ||k.isA "tuple")):=rfl
 rw[this,k]
 cases h with
 |_=>simp[St.Kd.isA,Ol]
noncomputable def Qh:D->Bool
 | .lst _=>true
 |_=>false
noncomputable def XA:D->Bool
 | .bl _=>true
 |_=>false
theorem Nx{w:Wv}{x:D}(h:Th x)(a:As w x):LV w (.val (.ty "list"))=some (.val (.bl (Qh x))):=by
 have k:=a.kd
 have:LV w (.val (.ty "list"))=(kdW w).map fun k=>.val (.bl (k.isA "list")):=rfl
 rw[this,k]
 cases h with
 |_=>simp[St.Kd.isA,Qh]
theorem OE{w:Wv}{x:D}(h:Th x)(a:As w x):LV w (.val (.ty "bool"))=some (.val (.bl (XA x))):=by
 have k:=a.kd
 have:LV w (.val (.ty "bool"))=(kdW w).map fun k=>.val (.bl (k.isA "bool")):=rfl
 rw[this,k]
 cases h with
 |_=>simp[St.Kd.isA,XA]
theorem Tu{a b:Bool}:Pp (.val (.bl a)) (.val (.bl b))=some (.val (.bl (a==b))):=by
 cases a<;>cases b<;>rfl
theorem K8{a b:Bool}:Cy (.bl a) (.bl b)=true:=rfl
theorem Nm{a b:Bool}:deq (.bl a) (.bl b)=(a==b):=by cases a<;>cases b<;>rfl
theorem Mp : ∀ {m : Nat} {T : D}, Pl m T -> ∀ {n : Nat} {X x Y : D}, m ≤ n -> Thg S X x -> Thg S Y T -> Bg n [X, Y] S = some (.bl (Cw x T), S)
  |0,T,h,_,_,_,_,_,_,_=>by cases T<;>exact h.elim
  | m + 1, T, h, n, X, x, Y, hn, g, gT => by
    obtain⟨n',rfl⟩:∃n',n=n'+1:=⟨n-1,by omega⟩
    have i1:=N6 g.th g.as
    have i2:=N6 gT.th gT.as
    have l1:=Nx g.th g.as
    have l2:=Nx gT.th gT.as
    have b1:=OE g.th g.as
    have b2:=OE gT.th gT.as
    have nb:XA T=false:=by
      cases T with
      |bl b=>exact h.elim
      |_=>rfl
    have sz2:1+1≤sizeLine:=AN (by decide)
    rw[O4]
    by_cases hq:Ol x=true/\Ol T=true
    · obtain ⟨xs, ex⟩ : ∃ xs, x = .tup xs ∨ x = .lst xs := by
        cases x with
        |tup xs=>exact⟨xs,.inl rfl⟩
        |lst xs=>exact⟨xs,.inr rfl⟩
        |_=>exact absurd hq.1 (by simp[Ol])
      obtain⟨ts,eT⟩:∃ts,T=.tup ts∨T=.lst ts:=by
        cases T with
        |tup xs=>exact⟨xs,.inl rfl⟩
        |lst xs=>exact⟨xs,.inr rfl⟩
        |_=>exact absurd hq.2 (by simp[Ol])
      obtain⟨gs,e1,e2⟩:=g.sq xs ex
      obtain⟨e3,e4⟩:=g.as.len ex
      obtain⟨gs',e1',e2'⟩:=gT.sq ts eT
      obtain⟨e5,e6⟩:=gT.as.len eT
      have hx:∀d∈xs,Th d:=by
        have:=g.th
        rcases ex with rfl|rfl
        ·cases this;assumption
        ·cases this;assumption
      have lx:xs.length≤1000:=by
        have:=g.th
        rcases ex with rfl|rfl
        ·cases this;assumption
        ·cases this;assumption
      have ht:∀d∈ts,Pl m d:=by
        rcases eT with rfl|rfl
        ·exact h.2
        ·exact h.2
      by_cases hk:Qh x=Qh T
      · have sd : Cw x T = FQ xs ts := by
          rcases ex with rfl|rfl<;>rcases eT with rfl|rfl
          ·rfl
          ·simp[Qh]at hk
          ·simp[Qh]at hk
          ·rfl
        by_cases hlen:xs.length=ts.length
        · have c := CB (gs := gs ++ gs') (t := tTp [(tNm 0), (tNm 1)]) (f := AM (Bg n') [(eV 0), (eV 1)]) (C := []) (m := 2) (e := fun z : D × D => D.tup [z.1, z.2]) (g := fun z => D.bl (Cw z.1 z.2)) (S := S) (fun g hg => by
            rcases List.mem_append.mp hg with hg|hg
            ·exact e2 g hg
            ·exact e2' g hg) (xs:=xs.zip ts) (acc:=[]) (os:=[none,none]) rfl (AN (by simp;omega)) (by
            rintro ⟨a,b⟩ hz os ho
            match os,ho with
            | [o1,o2],_=>
            have ha:=(List.of_mem_zip hz).1
            have hb:=(List.of_mem_zip hz).2
            have hs:=Mp (ht b hb) (n:=n') (by omega) (Thg.plain (hx a ha)) (Thg.plain (NT (ht b hb)))
            refine⟨[some a,some b],rfl,by simp,?_⟩
            simp[hs])
          simp only[List.nil_append]at c
          have bb:=PZ (p:=fun z:D×D=>Cw z.1 z.2) (xs:=xs.zip ts)
          rw[←Md hlen]at bb
          have zd:Kh xs ts=(xs.zip ts).map fun z=>D.tup [z.1,z.2]:=rfl
          rw[sd]
          generalize (xs.zip ts).map (fun z=>D.bl (Cw z.1 z.2))=BB at*
          simp[-Gm,Bv,sz2,i1,i2,hq.1,hq.2,l1,l2,hk,K8,Nm,e3,e5,hlen,e1,e1',zd,c,bb]
        · have hl : ¬ (xs.length : Int) = ts.length := by omega
          have hb:((xs.length:Int)==ts.length)=false:=by simpa using hl
          rw[sd,Nv hlen]
          simp[-Gm,Bv,sz2,i1,i2,hq.1,hq.2,l1,l2,hk,K8,Nm,e3,e5,hb]
      · have sd : Cw x T = false := by
          rcases ex with rfl|rfl<;>rcases eT with rfl|rfl
          ·simp[Qh]at hk
          ·rfl
          ·rfl
          ·simp[Qh]at hk
        have hk':(Qh x==Qh T)=false:=by simpa using hk
        rw[sd]
        simp[-Gm,Bv,sz2,i1,i2,hq.1,hq.2,l1,l2,K8,Nm,hk']
    · have hq' : (Ol x && Ol T) = false := by
        cases h1:Ol x<;>cases h2:Ol T<;>simp_all
      have nsq:∀xs ts,¬((x=.tup xs∨x=.lst xs)/\(T=.tup ts∨T=.lst ts)):=by
        rintro xs ts ⟨e1,e2⟩
        refine hq ⟨?_,?_⟩
        ·rcases e1 with rfl|rfl<;>rfl
        ·rcases e2 with rfl|rfl<;>rfl
      have test:∀{y:Ex},xIf (Gk (eOp (o2 ME) [(eV 0),(B4 [(eC (.ty "list")),(eC (.ty "tuple"))])]) (eOp (o2 ME) [(eV 1),(B4 [(eC (.ty "list")),(eC (.ty "tuple"))])])) y CD [some X,some Y] S=some (.nx,[some X,some Y],S):=fun{y}=>by
        cases h1:Ol x with
        |false=>rw[h1]at i1;simp[sz2,i1]
        | true =>
          have h2:Ol T=false:=by rw[h1]at hq';simpa using hq'
          rw[h1]at i1
          rw[h2]at i2
          simp[sz2,i1,i2]
      cases hb:XA x with
      | true =>
        have sd:Cw x T=false:=by
          cases x with
          |bl b=>cases T<;>rfl
          |_=>simp[XA]at hb
        rw[hb]at b1
        rw[nb]at b2
        have ee:Pp (.val (.bl true)) (.val (.bl false))=some (.val (.bl false)):=Tu
        have key:Bv (Bg n') [some X,some Y] S=some (.ret (.bl false),[some X,some Y],S):=by
          unfold Bv
          rw[BV,test,A9,Bw]
          simp[-Gm,b1,b2,ee]
        rw[sd,Jb]
        show(Bv (Bg n') [some X,some Y] S).map _=_
        rw[key]
        rfl
      | false =>
        rw[hb]at b1
        rw[nb]at b2
        have ee:Pp (.val (.bl false)) (.val (.bl false))=some (.val (.bl true)):=Tu
        have eq:=Xx g.th h g.as gT.as (fun b e=>by rw[e]at hb;cases hb) nsq
        have key:Bv (Bg n') [some X,some Y] S=some (.ret (.bl (Cw x T)),[some X,some Y],S):=by
          unfold Bv
          rw[BV,test,A9,Bw]
          simp[-Gm,b1,b2,ee,eq]
        rw[Jb]
        show(Bv (Bg n') [some X,some Y] S).map _=_
        rw[key]
        rfl
end
section
variable{S:Sto}{p:Nat}
theorem Oc{n:Nat}:BZ (n+1)=BM (BR 4 (GW (BZ n))):=rfl
noncomputable def consts:List D:=[.non,.bl true,.bl false,.int 0,.int 1,.int (-1),.int 9,.int (10^39),.str "",.str "a",.tup [],.lst []]
theorem QM:∀x∈consts,Th x:=by
 intro x hx
 simp only[consts,List.mem_cons,List.not_mem_nil,or_false]at hx
 rcases hx with rfl|rfl|rfl|rfl|rfl|rfl|rfl|rfl|rfl|rfl|rfl|rfl
 ·exact .non
 ·exact .bl _
 ·exact .bl _
 ·exact .int _
 ·exact .int _
 ·exact .int _
 ·exact .int _
 ·exact .int _
 ·exact .str _ (by decide+kernel)
 ·exact .str _ (by decide+kernel)
 ·exact .tup (fun d hd=>by cases hd) (by decide)
 ·exact .lst (fun d hd=>by cases hd) (by decide)
def Pq:Ev:=(D9 [(eC .non),(eC (.bl true)),(eC (.bl false)),(eC (.int 0)),(eC (.int 1)),(eOp (o1 M8) [(eC (.int 1))]),(eC (.int 9)),(eOp (o2 Vf) [(eC (.int 10)),(eC (.int 39))]),(eC (.str "")),(eC (.str "a")),(B4 []),(D9 [])])
theorem P6{E:En}:Pq E S=some (.lst consts,S):=by
 have n1:M8 (.val (.int 1))=some (.val (.int (-1))):=rfl
 have p1:Vf (.val (.int 10)) (.val (.int 39))=some (.val (.int (10^39))):=by with_unfolding_all rfl
 have sz:(12:Nat)≤sizeLine:=AN (by decide)
 simp[Pq,n1,p1,consts,sz]
theorem OH : ∀ {n d : Nat}, d < n -> ∀ {S : Sto}, Dc p S -> ∃ X S', BZ n [.ref p, .int d] S = some (X, S') /\ Th X /\ Pn p S S'
  |0,d,h,_,_=>absurd h (by omega)
  | n + 1, d, h, S, hp => by
    obtain⟨way,S1,e1,w0,w1,p1⟩:=Ag hp (n:=12) (by decide) (by decide)
    rw[Oc]
    have eb:GW (BZ n)=(AY (Bc 2 (AM AG [(eV 0),(eC (.int 12))]))
    (AY (xIf (eOr (eOp (o2 wLt) [(eV 2),(eC (.int 8))]) (eOp (o2 wEq) [(eV 1),(eC (.int 0))])) (BQ (eOp (o2 wIx) [Pq,(AM AG [(eV 0),(eC (.int 12))])])) CD)
    (AY (Bc 3 (Bt [0,1] 1 (Jg [(AM AG [(eV 0),(eC (.int 4))])]) (tNm 2) BH (AM (BZ n) [(eV 0),(eOp (o2 N5) [(eV 1),(eC (.int 1))])])))
    (AY (xIf (eOp (o2 wEq) [(eV 2),(eC (.int 8))]) (BQ (eV 3)) CD)
    (AY (xIf (eOp (o2 wEq) [(eV 2),(eC (.int 9))]) (BQ (XN [((eC (.str "a")),(eV 3))])) CD)
    (BQ (eOp (o1 BK) [(eV 3)]))))))):=rfl
    rw[eb]
    by_cases c:way<8∨d=0
    · obtain ⟨r, S2, e2, r0, r1, p2⟩ := Ag p1.pen (n := 12) (by decide) (by decide)
      obtain⟨x,ax,hx⟩:=pick (xs:=consts) r0 (by simpa[consts]using r1)
      refine⟨x,S2,?_,QM x hx,p1.trans p2⟩
      have k:=fun E=>P6 (S:=S1) (E:=E)
      rcases Decidable.em (way<8)with c1|c1
      ·simp[e1,c1,k,e2,ax]
      · have c2 : d = 0 := c.resolve_left c1
        subst c2
        simp[e1,c1,k,e2,ax]
    · have c1 : ¬ way < 8 := fun z => c (.inl z)
      have c2:¬d=0:=fun z=>c (.inr z)
      obtain⟨r,S2,e2,r0,r1,p2⟩:=Ag p1.pen (n:=4) (by decide) (by decide)
      obtain⟨k,rfl⟩:=Dk r0
      have rk:GD (k:Int)=true:=Ce (by omega) (by omega)
      obtain⟨ys,S3,e3,i3,l3,r3⟩:=IH (gs:=[]) (t:=tNm 2) (f:=AM (BZ n) [(eV 0),(eOp (o2 N5) [(eV 1),(eC (.int 1))])]) (C:=[some (.ref p),some (.int d)]) (m:=1) (I:=fun T=>Pn p S2 T) (R:=fun _ y=>Th y) (fun _ _=>Ao) (ds:=Hi 0 k) (acc:=[]) (os:=[none]) (S:=S2) rfl (.refl p2.pen) (AN (by simp[DJ];omega)) (by
        intro dd hd os T ho hI
        match os,ho with
        | [a],_=>
        obtain⟨X,T',ex,hX,hP⟩:=OH (n:=n) (d:=d-1) (by omega) hI.pen
        refine⟨[some dd],X,T',rfl,by simp,?_,hI.trans hP,hX⟩
        have ec:(d:Int)-1=((d-1:Nat):Int):=by omega
        simp[ec,ex])
      have th:=F7 r3
      have ly:ys.length≤1000:=by rw[l3,DJ];omega
      have pn:=(p1.trans p2).trans i3
      simp only[List.nil_append,List.cons_append]at e3
      have c2':((d:Int)==0)=false:=by simpa using c2
      have tn:(k:Int).toNat=k:=by omega
      by_cases w8:way=8
      · subst w8
        refine⟨.lst ys,S3,?_,.lst th ly,pn⟩
        simp[e1,c2',e2,rk,Ke,e3,tn]
      · have w8' : (way == 8) = false := by simpa using w8
        by_cases w9:way=9
        · subst w9
          refine⟨.dct (KZ [] [(.inr "a",.lst ys)]),S3,?_,.dct _,pn⟩
          simp[e1,c2',e2,rk,Ke,e3,tn]
        · have w9' : (way == 9) = false := by simpa using w9
          refine⟨.tup ys,S3,?_,.tup th ly,pn⟩
          simp[e1,c1,c2',e2,rk,Ke,e3,tn,w8',w9']
end
def ThR(p:Nat)(S:Sto)(X:D):Prop:=Th X∨∃r L,X=.ref r/\r≠p/\S[r]?=some (.lst L)/\(∀d∈L,Th d)/\L.length≤1000
section
variable{S S':Sto}{p:Nat}
theorem ThR.keep{X:D}(h:ThR p S X)(g:Df [p] S S'):ThR p S' X:=by
 rcases h with h|⟨r,L,rfl,hr,e,h1,h2⟩
 ·exact .inl h
 ·exact .inr ⟨r,L,rfl,hr,g.get e (by simpa using hr),h1,h2⟩
theorem ThR.thg{X:D}(h:ThR p S X):∃x,Thg S X x:=by
 rcases h with h|⟨r,L,rfl,hr,e,h1,h2⟩
 ·exact⟨X,.plain h⟩
 ·exact⟨.lst L,.ref e h1 h2⟩
theorem JG{L:List D}{lo hi:Option Int}{x:D}(h:x∈C5 L lo hi):x∈L:=List.mem_of_mem_drop (List.mem_of_mem_take h)
theorem LJ{L:List D}{lo hi:Option Int}:(C5 L lo hi).length≤L.length:=by
 unfold C5
 rw[List.length_take,List.length_drop]
 omega
structure Od(K:Nat)(d:D):Prop where
 ex:∃rs:List (List Int),d=.tup (rs.map fun r=>.tup (r.map D.int))/\rs.length=K/\∀r∈rs,r.length=6
theorem Od.th{K:Nat}{d:D}(h:Od K d)(hK:K≤30):Th d:=by
 obtain⟨rs,rfl,h1,h2⟩:=h.ex
 refine .tup (fun x hx=>?_) (by simp;omega)
 obtain⟨r,hr,rfl⟩:=List.mem_map.mp hx
 refine .tup (fun y hy=>?_) (by simp[h2 r hr])
 obtain⟨i,_,rfl⟩:=List.mem_map.mp hy
 exact .int i
def R4:Ex:=(AY (Bc 5 (AM AG [(eV 0),(eOp (o1 F6) [(eOp (o2 wIx) [(eV 2),(eV 3)])])]))
  (AY (Bc 6 (PN (o1 E7) [(eOp (o2 wIx) [(eOp (o2 wIx) [(eV 2),(eV 3)]),(eV 5)])]))
  (AY (NS 7 8 (AM AG [(eV 0),(eC (.int 2))]) (eOp (o2 A4) [(eC (.int 2)),(AM AG [(eV 0),(eC (.int 4))])]))
  (AY (FD (eOp (o2 A4) [(eOp (o2 wIx) [(eV 6),(eV 7)]),(eC (.int 1))]) (eV 6) (eV 7))
  (AY (FD (eOp (o2 A4) [(eOp (o2 wIx) [(eV 6),(eV 8)]),(eOp (o2 wIx) [(D9 [(eC (.int 1)),(eC (.int 0)),(eC (.int 1))]),(AM AG [(eV 0),(eC (.int 3))])])]) (eV 6) (eV 8))
  (AY (xIf (eOp (o2 wEq) [(eV 4),(eC (.int 4))]) (Bc 6 (Kg [] 1 (FR (eOp (o2 wIx) [(eOp (o2 wIx) [(eV 2),(eV 3)]),(eV 5)])) (tNm 0) BH (eOp (o2 wIx) [(D9 [(eV 0),(eC (.bl false))]),(eOp (o1 Oo) [(eOp (o2 wEq) [(eV 0),(eC (.int 0))])])]))) CD)
  (AY (FD (eOp (o2 A4) [(eOp (o2 A4) [(eOp (De false true) [(eOp (o2 wIx) [(eV 2),(eV 3)]),(eV 5)]),(B4 [(eOp (o1 BK) [(eV 6)])])]),(eOp (De true false) [(eOp (o2 wIx) [(eV 2),(eV 3)]),(eOp (o2 A4) [(eV 5),(eC (.int 1))])])]) (eV 2) (eV 3))
  (AY (xIf (eOp (o2 wEq) [(eV 4),(eC (.int 5))]) (BQ (Bt [] 1 (FR (eV 2)) (tNm 0) BH (eOp (o1 E7) [(eV 0)]))) CD)
  (BQ (eV 2))))))))))
def Oi:Ev:=(eOp (o2 wIx) [(D9 [(eV 0),(eC (.bl false))]),(eOp (o1 Oo) [(eOp (o2 wEq) [(eV 0),(eC (.int 0))])])])
theorem aN{is:List Int}(hl:is.length≤100):∃ys,Bj [] (tNm 0) BH Oi (is.map D.int) [] [none] S=some (ys,S)/\(∀y∈ys,Th y)/\ys.length=is.length:=by
  have c:=CB (gs:=[]) (t:=tNm 0) (f:=Oi) (C:=[]) (m:=1) (e:=D.int) (g:=fun i=>if i=0 then .bl false else .int i) (S:=S) Ao (xs:=is) (acc:=[]) (os:=[none]) rfl (AN (by simp;omega)) (by
    intro i hi os ho
    match os,ho with
    | [a],_=>
    refine⟨[some (.int i)],rfl,by simp,?_⟩
    have sz2:1+1≤sizeLine:=AN (by decide)
    by_cases h:i=0
    ·subst h;simp[Oi,sz2]
    · have h' : (i == 0) = false := by simpa using h
      simp[Oi,sz2,h',h])
  refine⟨_,c,fun y hy=>?_,by simp⟩
  rw[List.nil_append]at hy
  obtain⟨i,_,rfl⟩:=List.mem_map.mp hy
  split
  ·exact .bl _
  ·exact .int _
theorem ZG{L:List D}{r:Nat}(hr:S[r]?=some (.lst L))(hl:L.length≤100)(h:∀d∈L,∃ds,d=.tup ds/\(∀x∈ds,Th x)/\ds.length≤1000):∃ys,Bj [(r,L)] (tNm 0) BH (eOp (o1 E7) [(eV 0)]) L [] [none] S=some (ys,S)/\(∀y∈ys,Th y)/\ys.length=L.length:=by
 have c:=comp_map (gs:=[(r,L)]) (t:=tNm 0) (f:=eOp (o1 E7) [(eV 0)]) (C:=[]) (m:=1) (g:=fun d=>match d with| .tup ds=>.lst ds|d=>d) (S:=S) (fun g hg=>by rw[List.mem_singleton.mp hg];exact AR hr) (ds:=L) (acc:=[]) (os:=[none]) rfl (AN (by simp;omega)) (by
  intro d hd os ho
  match os,ho with
  | [a],_=>
  obtain⟨ds,rfl,_⟩:=h d hd
  exact⟨[some (.tup ds)],rfl,by simp,by simp⟩)
 refine⟨_,c,fun y hy=>?_,by simp⟩
 rw[List.nil_append]at hy
 obtain⟨d,hd,rfl⟩:=List.mem_map.mp hy
 obtain⟨ds,rfl,h1,h2⟩:=h d hd
 exact .lst h1 h2
end
section
variable{S T:Sto}{p r:Nat}{c:Cl}
theorem Pn.setN(h:Pn p S T)(hp:p<S.length)(hr:S.length≤r):Pn p S (T.set r c):=by
 refine⟨⟨by simpa using h.same.len,fun n hn ha=>?_⟩,?_⟩
 ·rw[List.getElem?_set_ne (by omega)];exact h.same.keep n hn ha
 ·obtain⟨ds,e,hd⟩:=h.pen
  exact⟨ds,by rw[List.getElem?_set_ne (by omega)];exact e,hd⟩
theorem Pn.appN{U:Sto}(h:Pn p S T):Pn p S (T++U):=⟨h.same.trans .app,h.pen.app U⟩
theorem Pa{is:List Int}{i:Nat}(h:i<is.length):atI (is.map D.int) (i:Int)=some (.int is[i]):=CA (by rw[List.getElem?_map,List.getElem?_eq_getElem h];rfl)
theorem Nj{is:List Int}{i:Nat}{v:Int}:(is.map D.int).set i (.int v)=(is.set i v).map D.int:=by rw[List.map_set]
theorem VO{q r2 a K:Nat}{way:Int}{L:List D}{o5 o6 o7 o8:Option D}{S0:Sto}(h0:Pn p S0 S)(hp0:p<S0.length)(hr0:S0.length≤r2)(hL:∀d∈L,Od K d)(hK1:1≤K)(hK:K≤30)(hl:L.length≤50)(ha:a<L.length)(h2:S[r2]?=some (.lst L)):
  ∃X S' E',R4 [some (.ref p),some (.ref q),some (.ref r2),some (.int a),some (.int way),o5,o6,o7,o8] S=some (.ret X,E',S')/\ThR p S' X/\Pn p S0 S':=by
 have hRow:=hL L[a] (List.getElem_mem ha)
 obtain⟨rs,eR,lR,six⟩:=hRow.ex
 have hne:r2≠p:=by omega
 have atL:=CA (List.getElem?_eq_getElem ha)
 rw[eR]at atL
 obtain⟨kd,S4,e4,k0,k1,p4⟩:=Ag h0.pen (n:=(rs.length:Int)) (by omega) (by omega)
 obtain⟨kd,rfl⟩:=Dk k0
 have hkd:kd<rs.length:=by omega
 have isL:=six rs[kd] (List.getElem_mem hkd)
 have atR:atI (rs.map fun r=>D.tup (r.map D.int)) (kd:Int)=some (.tup (rs[kd].map D.int)):=CA (by rw[List.getElem?_map,List.getElem?_eq_getElem hkd];rfl)
 have c4:S4[r2]?=some (.lst L):=p4.get h2 hne
 have P4:=h0.trans p4
 generalize rs[kd]=is at*
 have l4:=P4.same.len
 generalize hS5:S4++[Cl.lst (is.map D.int)]=S5
 have P5:Pn p S0 S5:=by rw[←hS5];exact P4.appN
 have c5:S5[r2]?=some (.lst L):=by rw[←hS5,List.getElem?_append_left (Ac c4)];exact c4
 have c6:S5[S4.length]?=some (.lst (is.map D.int)):=by rw[←hS5];exact List.getElem?_concat_length
 generalize hr6:S4.length=r6 at*
 obtain⟨sp,S6,e6,s0,s1,p6⟩:=Ag P5.pen (n:=2) (by decide) (by decide)
 obtain⟨sp,rfl⟩:=Dk s0
 obtain⟨ot,S7,e7,t0,t1,p7⟩:=Ag p6.pen (n:=4) (by decide) (by decide)
 obtain⟨ot,rfl⟩:=Dk t0
 have n6:r6≠p:=by omega
 have P7:=(P5.trans p6).trans p7
 have c7:S7[r2]?=some (.lst L):=p7.get (p6.get c5 hne) hne
 have d7:S7[r6]?=some (.lst (is.map D.int)):=p7.get (p6.get c6 n6) n6
 have ne26:r2≠r6:=by have:=Ac c4;omega
 have a1:=Pa (is:=is) (i:=sp) (by omega)
 generalize hi1:is.set sp (is[sp]'(by omega)+1)=is1
 have l1:is1.length=6:=by rw[←hi1];simp[isL]
 generalize hS8:S7.set r6 (.lst (is1.map D.int))=S8
 have P8:Pn p S0 S8:=by rw[←hS8];exact P7.setN hp0 (by omega)
 have c8:S8[r2]?=some (.lst L):=by rw[←hS8,List.getElem?_set_ne (by omega)];exact c7
 have d8:S8[r6]?=some (.lst (is1.map D.int)):=by rw[←hS8];exact List.getElem?_set_self (Ac d7)
 have a2:=Pa (is:=is1) (i:=2+ot) (by omega)
 obtain⟨u,S9,e9,u0,u1,p9⟩:=Ag P8.pen (n:=3) (by decide) (by decide)
 obtain⟨x9,ax9,hx9⟩:=pick (xs:=[D.int 1,.int 0,.int 1]) u0 (by simpa using u1)
 obtain⟨v9,rfl⟩:∃v,x9=.int v:=by
  simp only[List.mem_cons,List.not_mem_nil,or_false]at hx9
  rcases hx9 with rfl|rfl|rfl<;>exact⟨_,rfl⟩
 generalize hi2:is1.set (2+ot) (is1[2+ot]'(by omega)+v9)=is2
 have l2:is2.length=6:=by rw[←hi2];simp[l1]
 have P9:=P8.trans p9
 have c9:S9[r2]?=some (.lst L):=p9.get c8 hne
 have d9:S9[r6]?=some (.lst (is1.map D.int)):=p9.get d8 n6
 generalize hS10:S9.set r6 (.lst (is2.map D.int))=S10
 have P10:Pn p S0 S10:=by rw[←hS10];exact P9.setN hp0 (by omega)
 have c10:S10[r2]?=some (.lst L):=by rw[←hS10,List.getElem?_set_ne (by omega)];exact c9
 have d10:S10[r6]?=some (.lst (is2.map D.int)):=by rw[←hS10];exact List.getElem?_set_self (Ac d9)
 obtain⟨ys,ey,hy,ly⟩:=aN (S:=S10) (is:=is) (by omega)
 obtain⟨w6,zs,S11,e11,P11,c11,d11,hz,lz⟩:∃w6 zs S11,(xIf (eOp (o2 wEq) [(eV 4),(eC (.int 4))]) (Bc 6 (Kg [] 1 (FR (eOp (o2 wIx) [(eOp (o2 wIx) [(eV 2),(eV 3)]),(eV 5)])) (tNm 0) BH Oi)) CD) [some (.ref p),some (.ref q),some (.ref r2),some (.int a),some (.int way),some (.int kd),some (.ref r6),some (.int sp),some (.int (2+ot))] S10=some (.nx,[some (.ref p),some (.ref q),some (.ref r2),some (.int a),some (.int way),some (.int kd),some (.ref w6),some (.int sp),some (.int (2+ot))],S11)/\Pn p S0 S11/\S11[r2]?=some (.lst L)/\S11[w6]?=some (.lst zs)/\(∀z∈zs,Th z)/\zs.length=6:=by
  by_cases hw:way=4
  ·refine⟨S10.length,ys,S10++[.lst ys],?_,P10.appN,by rw[List.getElem?_append_left (Ac c10)];exact c10,List.getElem?_concat_length,hy,by omega⟩
   have dq:=AX c10
   subst hw
   simp[dq,atL,atR,Ke,ey]
  ·refine⟨r6,is2.map D.int,S10,?_,P10,c10,d10,fun z hz=>?_,by simpa using l2⟩
   ·have hw':(way==4)=false:=by simpa using hw
    simp[hw']
   ·obtain⟨i,_,rfl⟩:=List.mem_map.mp hz
    exact .int i
 generalize hrow:C5 (rs.map fun r=>D.tup (r.map D.int)) none (some (kd:Int))++[D.tup zs]++C5 (rs.map fun r=>D.tup (r.map D.int)) (some ((kd:Int)+1)) none=row
 have thR:∀x∈rs.map (fun r=>D.tup (r.map D.int)),Th x:=fun x hx=>by
  obtain⟨r,hr,rfl⟩:=List.mem_map.mp hx
  refine .tup (fun y hy=>?_) (by simp[six r hr])
  obtain⟨i,_,rfl⟩:=List.mem_map.mp hy
  exact .int i
 have cl1:=LJ (L:=rs.map fun r=>D.tup (r.map D.int)) (lo:=none) (hi:=some (kd:Int))
 have cl2:=LJ (L:=rs.map fun r=>D.tup (r.map D.int)) (lo:=some ((kd:Int)+1)) (hi:=none)
 rw[List.length_map]at cl1 cl2
 have thRow:∀x∈row,Th x:=fun x hx=>by
  rw[←hrow]at hx
  rcases List.mem_append.mp hx with hx|hx
  ·rcases List.mem_append.mp hx with hx|hx
   ·exact thR x (JG hx)
   ·rw[List.mem_singleton.mp hx];exact .tup hz (by omega)
  ·exact thR x (JG hx)
 have lRow:row.length≤100:=by rw[←hrow];simp;omega
 generalize hL2:L.set a (.tup row)=L2
 have lL2:L2.length=L.length:=by rw[←hL2];simp
 generalize hS12:S11.set r2 (.lst L2)=S12
 have P12:Pn p S0 S12:=by rw[←hS12];exact P11.setN hp0 hr0
 have c12:S12[r2]?=some (.lst L2):=by rw[←hS12];exact List.getElem?_set_self (Ac c11)
 have tupL2:∀d∈L2,∃ds,d=.tup ds/\(∀x∈ds,Th x)/\ds.length≤1000:=fun d hd=>by
  rw[←hL2]at hd
  rcases List.mem_or_eq_of_mem_set hd with hd|rfl
  ·have:=(hL d hd).th hK
   obtain⟨rs',rfl,_,_⟩:=(hL d hd).ex
   cases this with
   |tup h l=>exact⟨_,rfl,h,l⟩
  ·exact⟨row,rfl,thRow,by omega⟩
 have thL2:∀d∈L2,Th d:=fun d hd=>by
  obtain⟨ds,rfl,h1,h2⟩:=tupL2 d hd
  exact .tup h1 h2
 obtain⟨us,eu,hu,lu⟩:=ZG c12 (by omega) tupL2
 have q2:=AX h2
 have q4:=AX c4
 have q7:=AX d7
 have q8:=AX d8
 have q11:=AX c11
 have q6:=AX d11
 have x2:=AR c11
 have x7:=AR d7
 have x9:=AR d9
 have i1:ixN (is.map D.int).length (sp:Int)=some sp:=Hb (by simp;omega)
 have i2:ixN (is1.map D.int).length ((2+ot:Nat):Int)=some (2+ot):=Hb (by simp;omega)
 have i3:ixN L.length (a:Int)=some a:=Hb ha
 rw[List.length_map,isL]at i1
 rw[List.length_map,l1]at i2
 have ec:((2+ot:Nat):Int)=2+(ot:Int):=by omega
 rw[ec]at a2 i2
 have st1:(is.map D.int).set sp (.int (is[sp]'(by omega)+1))=is1.map D.int:=by rw[Nj,hi1]
 have st2:(is1.map D.int).set (2+ot) (.int (is1[2+ot]'(by omega)+v9))=is2.map D.int:=by rw[Nj,hi2]
 have lim:∀{k:Nat},k≤1000->k≤sizeLine:=fun h=>AN h
 have z1:(C5 (rs.map fun r=>D.tup (r.map D.int)) none (some (kd:Int))).length+1≤sizeLine:=lim (by omega)
 have z2:(C5 (rs.map fun r=>D.tup (r.map D.int)) none (some (kd:Int))).length+1+(C5 (rs.map fun r=>D.tup (r.map D.int)) (some ((kd:Int)+1)) none).length≤sizeLine:=lim (by omega)
 have hrow':C5 (rs.map fun r=>D.tup (r.map D.int)) none (some (kd:Int))++(D.tup zs::C5 (rs.map fun r=>D.tup (r.map D.int)) (some ((kd:Int)+1)) none)=row:=by rw[←hrow];simp
 have hsz3:(3:Nat)≤sizeLine:=lim (by decide)
 have hsz1:(1:Nat)≤sizeLine:=lim (by decide)
 have A:(Bc 5 (AM AG [(eV 0),(eOp (o1 F6) [(eOp (o2 wIx) [(eV 2),(eV 3)])])])) [some (.ref p),some (.ref q),some (.ref r2),some (.int a),some (.int way),o5,o6,o7,o8] S=some (.nx,[some (.ref p),some (.ref q),some (.ref r2),some (.int a),some (.int way),some (.int kd),o6,o7,o8],S4):=by
  simp[q2,atL,e4]
 have B:(Bc 6 (PN (o1 E7) [(eOp (o2 wIx) [(eOp (o2 wIx) [(eV 2),(eV 3)]),(eV 5)])])) [some (.ref p),some (.ref q),some (.ref r2),some (.int a),some (.int way),some (.int kd),o6,o7,o8] S4=some (.nx,[some (.ref p),some (.ref q),some (.ref r2),some (.int a),some (.int way),some (.int kd),some (.ref r6),o7,o8],S5):=by
  simp[q4,atL,atR,hr6,hS5]
 have Cc:(NS 7 8 (AM AG [(eV 0),(eC (.int 2))]) (eOp (o2 A4) [(eC (.int 2)),(AM AG [(eV 0),(eC (.int 4))])])) [some (.ref p),some (.ref q),some (.ref r2),some (.int a),some (.int way),some (.int kd),some (.ref r6),o7,o8] S5=some (.nx,[some (.ref p),some (.ref q),some (.ref r2),some (.int a),some (.int way),some (.int kd),some (.ref r6),some (.int sp),some (.int (2+ot))],S7):=by
  simp[e6,e7]
 have Dd:(FD (eOp (o2 A4) [(eOp (o2 wIx) [(eV 6),(eV 7)]),(eC (.int 1))]) (eV 6) (eV 7)) [some (.ref p),some (.ref q),some (.ref r2),some (.int a),some (.int way),some (.int kd),some (.ref r6),some (.int sp),some (.int (2+ot))] S7=some (.nx,[some (.ref p),some (.ref q),some (.ref r2),some (.int a),some (.int way),some (.int kd),some (.ref r6),some (.int sp),some (.int (2+ot))],S8):=by
  simp[q7,a1,x7,isL,i1,st1,hS8]
 have Ee:(FD (eOp (o2 A4) [(eOp (o2 wIx) [(eV 6),(eV 8)]),(eOp (o2 wIx) [(D9 [(eC (.int 1)),(eC (.int 0)),(eC (.int 1))]),(AM AG [(eV 0),(eC (.int 3))])])]) (eV 6) (eV 8)) [some (.ref p),some (.ref q),some (.ref r2),some (.int a),some (.int way),some (.int kd),some (.ref r6),some (.int sp),some (.int (2+ot))] S8=some (.nx,[some (.ref p),some (.ref q),some (.ref r2),some (.int a),some (.int way),some (.int kd),some (.ref r6),some (.int sp),some (.int (2+ot))],S10):=by
  simp[q8,a2,hsz3,e9,ax9,x9,l1,i2,st2,hS10]
 have Gg:(FD (eOp (o2 A4) [(eOp (o2 A4) [(eOp (De false true) [(eOp (o2 wIx) [(eV 2),(eV 3)]),(eV 5)]),(B4 [(eOp (o1 BK) [(eV 6)])])]),(eOp (De true false) [(eOp (o2 wIx) [(eV 2),(eV 3)]),(eOp (o2 A4) [(eV 5),(eC (.int 1))])])]) (eV 2) (eV 3)) [some (.ref p),some (.ref q),some (.ref r2),some (.int a),some (.int way),some (.int kd),some (.ref w6),some (.int sp),some (.int (2+ot))] S11=some (.nx,[some (.ref p),some (.ref q),some (.ref r2),some (.int a),some (.int way),some (.int kd),some (.ref w6),some (.int sp),some (.int (2+ot))],S12):=by
  simp[q11,atL,q6,hsz1,z1,z2,hrow',x2,i3,hL2,hS12]
 have eb:R4=(AY (Bc 5 (AM AG [(eV 0),(eOp (o1 F6) [(eOp (o2 wIx) [(eV 2),(eV 3)])])]))
  (AY (Bc 6 (PN (o1 E7) [(eOp (o2 wIx) [(eOp (o2 wIx) [(eV 2),(eV 3)]),(eV 5)])]))
  (AY (NS 7 8 (AM AG [(eV 0),(eC (.int 2))]) (eOp (o2 A4) [(eC (.int 2)),(AM AG [(eV 0),(eC (.int 4))])]))
  (AY (FD (eOp (o2 A4) [(eOp (o2 wIx) [(eV 6),(eV 7)]),(eC (.int 1))]) (eV 6) (eV 7))
  (AY (FD (eOp (o2 A4) [(eOp (o2 wIx) [(eV 6),(eV 8)]),(eOp (o2 wIx) [(D9 [(eC (.int 1)),(eC (.int 0)),(eC (.int 1))]),(AM AG [(eV 0),(eC (.int 3))])])]) (eV 6) (eV 8))
  (AY (xIf (eOp (o2 wEq) [(eV 4),(eC (.int 4))]) (Bc 6 (Kg [] 1 (FR (eOp (o2 wIx) [(eOp (o2 wIx) [(eV 2),(eV 3)]),(eV 5)])) (tNm 0) BH Oi)) CD)
  (AY (FD (eOp (o2 A4) [(eOp (o2 A4) [(eOp (De false true) [(eOp (o2 wIx) [(eV 2),(eV 3)]),(eV 5)]),(B4 [(eOp (o1 BK) [(eV 6)])])]),(eOp (De true false) [(eOp (o2 wIx) [(eV 2),(eV 3)]),(eOp (o2 A4) [(eV 5),(eC (.int 1))])])]) (eV 2) (eV 3))
  (AY (xIf (eOp (o2 wEq) [(eV 4),(eC (.int 5))]) (BQ (Bt [] 1 (FR (eV 2)) (tNm 0) BH (eOp (o1 E7) [(eV 0)]))) CD)
  (BQ (eV 2)))))))))):=rfl
 have sq:=D8 c12
 by_cases hw:way=5
 ·subst hw
  refine⟨.lst us,S12,[some (.ref p),some (.ref q),some (.ref r2),some (.int a),some (.int 5),some (.int kd),some (.ref w6),some (.int sp),some (.int (2+ot))],?_,.inl (.lst hu (by omega)),P12⟩
  rw[eb,BV,A,A9,Bw,BV,B,A9,Bw,BV,Cc,A9,Bw,BV,Dd,A9,Bw,BV,Ee,A9,Bw,BV,e11,A9,Bw,BV,Gg,A9,Bw]
  simp[sq,Ke,eu]
 ·have hw':(way==5)=false:=by simpa using hw
  refine⟨.ref r2,S12,[some (.ref p),some (.ref q),some (.ref r2),some (.int a),some (.int way),some (.int kd),some (.ref w6),some (.int sp),some (.int (2+ot))],?_,.inr ⟨r2,L2,rfl,hne,c12,thL2,by omega⟩,P12⟩
  rw[eb,BV,A,A9,Bw,BV,B,A9,Bw,BV,Cc,A9,Bw,BV,Dd,A9,Bw,BV,Ee,A9,Bw,BV,e11,A9,Bw,BV,Gg,A9,Bw]
  simp[hw']
end
section
variable{S T:Sto}{p r:Nat}
theorem Rl{q K:Nat}{L:List D}(hp:Dc p S)(hq:S[q]?=some (.lst L))(hL:∀d∈L,Od K d)(hK1:1≤K)(hK:K≤30)(hl0:0<L.length)(hl:L.length≤50):
  ∃X S',Bi [.ref p,.ref q] S=some (X,S')/\ThR p S' X/\Pn p S S':=by
 have hpl:=hp.lt
 have P1:Pn p S (S++[Cl.lst L]):=(Pn.refl hp).appN
 have c1:(S++[Cl.lst L])[S.length]?=some (.lst L):=List.getElem?_concat_length
 have hne:S.length≠p:=by omega
 obtain⟨a,S2,e2,a0,a1,p2⟩:=Ag P1.pen (n:=(L.length:Int)) (by omega) (by omega)
 obtain⟨a,rfl⟩:=Dk a0
 obtain⟨way,S3,e3,w0,w1,p3⟩:=Ag p2.pen (n:=8) (by decide) (by decide)
 have P3:=(P1.trans p2).trans p3
 have c3:S3[S.length]?=some (.lst L):=p3.get (p2.get c1 hne) hne
 have dq:=AX hq
 have d1:=AX c1
 have d3:=AX c3
 have thL:∀d∈L,Th d:=fun d hd=>(hL d hd).th hK
 have ha:a<L.length:=by omega
 have atL:=CA (List.getElem?_eq_getElem ha)
 have lim:∀{k:Nat},k≤1000->k≤sizeLine:=fun h=>AN h
 have cl:=fun lo hi=>LJ (L:=L) (lo:=lo) (hi:=hi)
 have mem:=fun{lo hi} {x:D} (h:x∈C5 L lo hi)=>thL x (JG h)
 have eb:Fj=(AY (Bc 2 (PN (o1 E7) [(eV 1)]))
  (AY (Bc 3 (AM AG [(eV 0),(eOp (o1 F6) [(eV 2)])]))
  (AY (Bc 4 (AM AG [(eV 0),(eC (.int 8))]))
  (AY (xIf (eOp (o2 wEq) [(eV 4),(eC (.int 0))]) (BQ (eOp (o2 A4) [(eOp (De false true) [(eV 2),(eV 3)]),(eOp (De true false) [(eV 2),(eOp (o2 A4) [(eV 3),(eC (.int 1))])])])) CD)
  (AY (xIf (eOp (o2 wEq) [(eV 4),(eC (.int 1))]) (BQ (eOp (o2 A4) [(eOp (o2 A4) [(eOp (De false true) [(eV 2),(eV 3)]),(D9 [(eOp (o2 wIx) [(eV 2),(eV 3)])])]),(eOp (De true false) [(eV 2),(eV 3)])])) CD)
  (AY (xIf (eOp (o2 wEq) [(eV 4),(eC (.int 2))]) (BQ (eOp (o2 A4) [(eOp (o2 A4) [(eOp (o2 A4) [(eOp (De false true) [(eV 2),(eV 3)]),(eOp (De true true) [(eV 2),(eOp (o2 A4) [(eV 3),(eC (.int 1))]),(eOp (o2 A4) [(eV 3),(eC (.int 2))])])]),(D9 [(eOp (o2 wIx) [(eV 2),(eV 3)])])]),(eOp (De true false) [(eV 2),(eOp (o2 A4) [(eV 3),(eC (.int 2))])])])) CD)
  (AY (xIf (eOp (o2 wEq) [(eV 4),(eC (.int 3))]) (BQ (eOp (o1 BK) [(eV 2)])) CD) R4))))))):=rfl
 have go:∀{X:D} {S':Sto} {E':En},(AY (xIf (eOp (o2 wEq) [(eV 4),(eC (.int 0))]) (BQ (eOp (o2 A4) [(eOp (De false true) [(eV 2),(eV 3)]),(eOp (De true false) [(eV 2),(eOp (o2 A4) [(eV 3),(eC (.int 1))])])])) CD)
  (AY (xIf (eOp (o2 wEq) [(eV 4),(eC (.int 1))]) (BQ (eOp (o2 A4) [(eOp (o2 A4) [(eOp (De false true) [(eV 2),(eV 3)]),(D9 [(eOp (o2 wIx) [(eV 2),(eV 3)])])]),(eOp (De true false) [(eV 2),(eV 3)])])) CD)
  (AY (xIf (eOp (o2 wEq) [(eV 4),(eC (.int 2))]) (BQ (eOp (o2 A4) [(eOp (o2 A4) [(eOp (o2 A4) [(eOp (De false true) [(eV 2),(eV 3)]),(eOp (De true true) [(eV 2),(eOp (o2 A4) [(eV 3),(eC (.int 1))]),(eOp (o2 A4) [(eV 3),(eC (.int 2))])])]),(D9 [(eOp (o2 wIx) [(eV 2),(eV 3)])])]),(eOp (De true false) [(eV 2),(eOp (o2 A4) [(eV 3),(eC (.int 2))])])])) CD)
  (AY (xIf (eOp (o2 wEq) [(eV 4),(eC (.int 3))]) (BQ (eOp (o1 BK) [(eV 2)])) CD) R4)))) [some (.ref p),some (.ref q),some (.ref S.length),some (.int a),some (.int way),none,none,none,none] S3=some (.ret X,E',S')->Bi [.ref p,.ref q] S=some (X,S'):=fun{X S' E'} h=>by
  unfold Bi
  rw[eb,Jb]
  have A:(Bc 2 (PN (o1 E7) [(eV 1)])) [some (.ref p),some (.ref q),none,none,none,none,none,none,none] S=some (.nx,[some (.ref p),some (.ref q),some (.ref S.length),none,none,none,none,none,none],S++[.lst L]):=by simp[dq]
  have B:(Bc 3 (AM AG [(eV 0),(eOp (o1 F6) [(eV 2)])])) [some (.ref p),some (.ref q),some (.ref S.length),none,none,none,none,none,none] (S++[.lst L])=some (.nx,[some (.ref p),some (.ref q),some (.ref S.length),some (.int a),none,none,none,none,none],S2):=by simp[d1,e2]
  have Cc:(Bc 4 (AM AG [(eV 0),(eC (.int 8))])) [some (.ref p),some (.ref q),some (.ref S.length),some (.int a),none,none,none,none,none] S2=some (.nx,[some (.ref p),some (.ref q),some (.ref S.length),some (.int a),some (.int way),none,none,none,none],S3):=by simp[e3]
  show(AY _ _ [some (.ref p),some (.ref q),none,none,none,none,none,none,none] S).map _=_
  rw[BV,A,A9,Bw,BV,B,A9,Bw,BV,Cc,A9,Bw,h]
  rfl
 have s1:(1:Nat)≤sizeLine:=lim (by decide)
 by_cases v0:way=0
 ·subst v0
  have z:(C5 L none (some (a:Int))).length+(C5 L (some ((a:Int)+1)) none).length≤sizeLine:=lim (by have:=cl none (some (a:Int));have:=cl (some ((a:Int)+1)) none;omega)
  refine⟨.lst (C5 L none (some (a:Int))++C5 L (some ((a:Int)+1)) none),S3,go (E':=[some (.ref p),some (.ref q),some (.ref S.length),some (.int a),some (.int 0),none,none,none,none]) (by simp[d3,z]),.inl (.lst (fun x hx=>?_) ?_),P3⟩
  ·rcases List.mem_append.mp hx with hx|hx<;>exact mem hx
  ·have:=cl none (some (a:Int));have:=cl (some ((a:Int)+1)) none;simp;omega
 have v0':(way==0)=false:=by simpa using v0
 by_cases v1:way=1
 ·subst v1
  have y1:=cl none (some (a:Int));have y2:=cl (some (a:Int)) none
  have z1:(C5 L none (some (a:Int))).length+1≤sizeLine:=lim (by omega)
  have z2:(C5 L none (some (a:Int))).length+1+(C5 L (some (a:Int)) none).length≤sizeLine:=lim (by omega)
  refine⟨.lst (C5 L none (some (a:Int))++(L[a]::C5 L (some (a:Int)) none)),S3,go (E':=[some (.ref p),some (.ref q),some (.ref S.length),some (.int a),some (.int 1),none,none,none,none]) (by simp[d3,atL,s1,z1,z2]),.inl (.lst (fun x hx=>?_) ?_),P3⟩
  ·rcases List.mem_append.mp hx with hx|hx
   ·exact mem hx
   ·rcases List.mem_cons.mp hx with rfl|hx
    ·exact thL _ (List.getElem_mem ha)
    ·exact mem hx
  ·simp;omega
 have v1':(way==1)=false:=by simpa using v1
 by_cases v2:way=2
 ·subst v2
  have y1:=cl none (some (a:Int));have y2:=cl (some ((a:Int)+1)) (some ((a:Int)+2));have y3:=cl (some ((a:Int)+2)) none
  have z1:(C5 L none (some (a:Int))).length+(C5 L (some ((a:Int)+1)) (some ((a:Int)+2))).length≤sizeLine:=lim (by omega)
  have z2:(C5 L none (some (a:Int))).length+(C5 L (some ((a:Int)+1)) (some ((a:Int)+2))).length+1≤sizeLine:=lim (by omega)
  have z3:(C5 L none (some (a:Int))).length+((C5 L (some ((a:Int)+1)) (some ((a:Int)+2))).length+1)+(C5 L (some ((a:Int)+2)) none).length≤sizeLine:=lim (by omega)
  refine⟨.lst (C5 L none (some (a:Int))++(C5 L (some ((a:Int)+1)) (some ((a:Int)+2))++(L[a]::C5 L (some ((a:Int)+2)) none))),S3,go (E':=[some (.ref p),some (.ref q),some (.ref S.length),some (.int a),some (.int 2),none,none,none,none]) (by simp[d3,atL,s1,z1,z2,z3]),.inl (.lst (fun x hx=>?_) ?_),P3⟩
  ·rcases List.mem_append.mp hx with hx|hx
   ·exact mem hx
   ·rcases List.mem_append.mp hx with hx|hx
    ·exact mem hx
    ·rcases List.mem_cons.mp hx with rfl|hx
     ·exact thL _ (List.getElem_mem ha)
     ·exact mem hx
  ·simp;omega
 have v2':(way==2)=false:=by simpa using v2
 by_cases v3:way=3
 ·subst v3
  exact⟨.tup L,S3,go (E':=[some (.ref p),some (.ref q),some (.ref S.length),some (.int a),some (.int 3),none,none,none,none]) (by simp[d3]),.inl (.tup thL (by omega)),P3⟩
 have v3':(way==3)=false:=by simpa using v3
 obtain⟨X,S',E',e,hX,hP⟩:=VO (q:=q) (way:=way) (o5:=none) (o6:=none) (o7:=none) (o8:=none) P3 hpl (Nat.le_refl _) hL hK1 hK hl ha c3
 exact⟨X,S',go (E':=E') (by simp[v0',v1',v2',v3',e]),hX,hP⟩
end
theorem OJ{gs:Gd}{t:Tf}{f:Ev}{C:En}{m:Nat}{I:List D->Sto->Prop}(hg:∀acc S,I acc S->gOk gs S):∀{ds acc:List D} {os:En} {S:Sto},os.length=m->I acc S->acc.length+ds.length≤sizeLine->
    (∀d∈ds,∀acc os S,os.length=m->I acc S->∃us y S',us.length=m/\t d (C++os) S=some (C++us)/\f (C++us) S=some (y,S')/\I (acc++[y]) S')->
    ∃ys S',Bj gs t BH f ds acc (C++os) S=some (ys,S')/\I ys S'/\ys.length=acc.length+ds.length
  | [],acc,os,S,ho,hI,hz,h=>⟨acc,S,by rw[DZ (hg _ S hI)],hI,rfl⟩
  | d :: ds, acc, os, S, ho, hI, hz, h => by
    obtain⟨us,y,S1,hu,e1,e2,I1⟩:=h d List.mem_cons_self acc os S ho hI
    obtain⟨ys,S2,e3,I2,l2⟩:=OJ hg (ds:=ds) (acc:=acc++[y]) (os:=us) (S:=S1) hu I1 (by simp at hz ⊢; omega) fun d' hd=>h d' (List.mem_cons_of_mem _ hd)
    refine⟨ys,S2,?_,I2,by simp at l2 ⊢; omega⟩
    rw[Fc (hg _ S hI) (by simp at hz;omega) e1 Eg,e2,A9,e3]
section
variable{S:Sto}{t:Tr}{ls:List Ld}{ds:List Ah}{p q:Nat}
theorem W6{j:Nat}:Od t.k (IC t ls ds j):=⟨(List.range t.k).map (Om t ls ds j),by unfold IC;rw[List.map_map];rfl,by simp,fun r hr=>by
 obtain⟨k,_,rfl⟩:=List.mem_map.mp hr
 rfl⟩
theorem U5(hk:t.k≤30){i:Nat}:Pl 3 (IC t ls ds i):=by
 refine⟨by simp;omega,fun d hd=>?_⟩
 obtain⟨kd,_,rfl⟩:=List.mem_map.mp hd
 refine⟨by simp[Om],fun d hd=>?_⟩
 obtain⟨x,_,rfl⟩:=List.mem_map.mp hd
 exact trivial
def GC(t:Tr)(ls:List Ld)(ds:List Ah):List D:=(List.range (ds.length+1)).map fun j=>IC t ls ds j
theorem Mx(h:FL t ls ds):Pl 4 (.lst (GC t ls ds)):=by
 have hK:t.k≤30:=by obtain⟨t1,t2,t3,t4,t5,t6⟩:=h.tr;omega
 have:=h.len
 refine⟨by simp[GC];omega,fun d hd=>?_⟩
 obtain⟨j,_,rfl⟩:=List.mem_map.mp hd
 exact U5 hK
theorem Pm{X x:D}(h:FL t ls ds)(g:Thg S X x):CN [Bs t ls ds,X] S=some (.bl (Cw x (.lst (GC t ls ds))),S):=by
 have hd:=h.len
 have r1:=PX (S:=S) h
 have sm:=Ip (S:=S) (Mx h) (n:=8) (by decide) g
 have e:=CB (gs:=[]) (t:=tNm 1) (f:=AM CY [(eV 0),(eV 1)]) (C:=[some (Bs t ls ds)]) (m:=1) (e:=fun j:Nat=>D.int j) (g:=fun j=>IC t ls ds j) (S:=S) Ao (xs:=List.range (ds.length+1)) (acc:=[]) (os:=[none]) rfl (Nat.le_trans (show _≤50 by simp;omega) (AN (by decide))) (by
  intro j hj os ho
  match os,ho with
  | [a],_=>
  have ft:=LU (S:=S) (i:=j) h (by simp at hj;omega)
  exact⟨[some (.int j)],rfl,by simp,by simp[ft]⟩)
 rw[←LQ,Int.toNat_natCast]at e
 have rk:GD ((ds.length:Int)+1)=true:=Ce (by omega) (by omega)
 have tn:((ds.length:Int)+1).toNat=ds.length+1:=by omega
 simp only[List.nil_append,List.cons_append]at e
 have et:(List.range (ds.length+1)).map (fun j=>IC t ls ds j)=GC t ls ds:=rfl
 rw[et]at e
 simp only[Bs]at r1 e⊢
 generalize GC t ls ds=L at*
 simp[CN,Fg,r1,rk,tn,Ke,e,sm]
def Yz:Ex:=(AY (Bc 7 (AM CN [(eV 3),(eV 6)]))
  (xIf (eOr (Tp (eOp (o2 LV) [(eV 7),(eC (.ty "bool"))])) (eOp (o2 wNe) [(eV 7),(AM (Bg 8) [(eV 6),(eV 4)])])) (BQ (eC (.bl false))) CD))
theorem X5{X:D}{a0 a1 a2 a5 o7:Option D}(h:FL t ls ds)(hX:ThR p S X)(hq:S[q]?=some (.lst (GC t ls ds))):∃u7,Yz [a0,a1,a2,some (Bs t ls ds),some (.ref q),a5,some X,o7] S=some (.nx,[a0,a1,a2,some (Bs t ls ds),some (.ref q),a5,some X,u7],S):=by
 obtain⟨x,g⟩:=hX.thg
 have e1:=Pm h g
 have pl:=Mx h
 have gq:Thg S (.ref q) (.lst (GC t ls ds)):=.ref hq (fun d hd=>NT (pl.2 d hd)) pl.1
 have e2:=Mp pl (n:=8) (by decide) g gq
 have k1:St.Kd.bl.isA "bool"=true:=by decide
 refine⟨some (.bl (Cw x (.lst (GC t ls ds)))),?_⟩
 generalize Cw x (.lst (GC t ls ds))=b at*
 generalize Bs t ls ds=bk at*
 simp[Yz,e1,k1,e2,K8,Nm]
def VJ:Ev:=(D9 [(eV 4),(eOp (De false true) [(eV 4),(eC (.int 1))]),(D9 []),(B4 []),(eC .non),(eOp (o2 A4) [(eV 4),(eOp (De true false) [(eV 4),(eOp (o1 M8) [(eC (.int 1))])])]),(AM (BZ 8) [(eV 2),(eC (.int 3))])])
def Yp:Ex:=(AY (Bc 2 (AM F1 [(AM CQ [(eV 0),(eV 1)])]))
  (AY (Bc 3 (AM Du [(eV 2),(eC (.int 8))]))
  (AY (Bc 4 (AM D2 [(eV 3)]))
  (AY (Bc 5 VJ)
  (Mt (FR (eOp (o2 A4) [(eV 5),(Bt [2,4] 1 (Jg [(eC (.int 14))]) (tNm 2) BH (AM Bi [(eV 0),(eV 1)]))])) (tNm 6) Yz)))))
theorem XS {ns : List Int} {k : Nat} {q2 q3 q4 q5 q6 q7 : Option D} : ∃ u2 u3 u4 u5 u6 u7 S', Yp [some (.scr ns), some (.int k), q2, q3, q4, q5, q6, q7] S = some (.nx, [some (.scr ns), some (.int k), u2, u3, u4, u5, u6, u7], S') := by
  obtain⟨c,e0⟩:=VH (S:=S) (ns:=ns) (k:=k)
  obtain⟨p,S1,e1,hp,_,_⟩:=X9 (S:=S) c
  obtain⟨t,ls,ds,S2,e2,⟨hb,_⟩,_,hp2⟩:=Vo (M:=8) (by decide) hp
  obtain⟨q,S3,e3,hq,sm3,lq⟩:=Sm (S:=S2) hb
  have hq:S3[q]?=some (.lst (GC t ls ds)):=hq
  have hlen:=hb.len
  have hK:1≤t.k/\t.k≤30:=by obtain⟨t1,t2,t3,t4,t5,t6⟩:=hb.tr;omega
  have hp3:Dc p S3:=by obtain⟨d,e,h⟩:=hp2;exact⟨d,sm3.get e (by simp),h⟩
  have qp:q≠p:=by have:=hp2.lt;omega
  have pl:=Mx hb
  have thL:∀d∈GC t ls ds,Th d:=fun d hd=>NT (pl.2 d hd)
  have lL:(GC t ls ds).length=ds.length+1:=by simp[GC]
  have rows:∀d∈GC t ls ds,Od t.k d:=fun d hd=>by
    obtain⟨j,_,rfl⟩:=List.mem_map.mp hd
    exact W6
  obtain⟨X,S4,e4,hX,p4⟩:=OH (n:=8) (d:=3) (by decide) hp3
  have c4:S4[q]?=some (.lst (GC t ls ds)):=p4.get hq qp
  generalize hTL:GC t ls ds=L at*
  have cl:=fun lo hi=>LJ (L:=L) (lo:=lo) (hi:=hi)
  obtain ⟨Y, eY, hY, lY⟩ : ∃ Y, VJ [some (.scr ns), some (.int k), some (.ref p), some (Bs t ls ds), some (.ref q), q5, q6, q7] S3 = some (.lst Y, S4) /\ (∀ y ∈ Y, ThR p S4 y) /\ Y.length = 7 := by
    refine⟨[.ref q,.lst (C5 L none (some 1)),.lst [],.tup [],.non,.lst (L++C5 L (some (-1)) none),X],?_,?_,rfl⟩
    · have dq := AX hq
      have n1:M8 (.val (.int 1))=some (.val (.int (-1))):=rfl
      have z1:L.length+(C5 L (some (-1)) none).length≤sizeLine:=AN (by have:=cl (some (-1)) none;omega)
      have z7:(7:Nat)≤sizeLine:=AN (by decide)
      have e4':BZ 8 [.ref p,.int 3] S3=some (X,S4):=e4
      simp[VJ,dq,n1,z1,z7,e4']
    · intro y hy
      simp only[List.mem_cons,List.not_mem_nil,or_false]at hy
      rcases hy with rfl|rfl|rfl|rfl|rfl|rfl|rfl
      ·exact .inr ⟨q,L,rfl,qp,c4,thL,by omega⟩
      ·exact .inl (.lst (fun d hd=>thL d (JG hd)) (by have:=cl none (some 1);omega))
      ·exact .inl (.lst (fun d hd=>by cases hd) (by decide))
      ·exact .inl (.tup (fun d hd=>by cases hd) (by decide))
      ·exact .inl .non
      · refine .inl (.lst (fun d hd => ?_) ?_)
        · rcases List.mem_append.mp hd with hd | hd
          ·exact thL d hd
          ·exact thL d (JG hd)
        ·have:=cl (some (-1)) none;simp;omega
      ·exact .inl hX
  obtain⟨ys,S5,e5,⟨P5,hys⟩,lys⟩:=OJ (gs:=[]) (t:=tNm 2) (f:=AM Bi [(eV 0),(eV 1)]) (C:=[some (.ref p),some (.ref q)]) (m:=1) (I:=fun acc T=>Pn p S4 T/\∀y∈acc,ThR p T y) (fun _ _ _=>Ao) (ds:=Hi 0 14) (acc:=[]) (os:=[none]) (S:=S4) rfl ⟨.refl p4.pen,fun y hy=>by cases hy⟩ (AN (by simp[DJ])) (by
    rintro dd hd acc os T ho ⟨hP,hA⟩
    match os,ho with
    | [a],_=>
    have cT:T[q]?=some (.lst L):=hP.get c4 qp
    obtain⟨Z,T',ez,hZ,hP'⟩:=Rl hP.pen cT rows hK.1 hK.2 (by omega) (by omega)
    refine⟨[some dd],Z,T',rfl,by simp,by simp[ez],hP.trans hP',fun y hy=>?_⟩
    rcases List.mem_append.mp hy with hy|hy
    ·exact(hA y hy).keep hP'.same
    ·rw[List.mem_singleton.mp hy];exact hZ)
  simp only[List.nil_append,List.cons_append]at e5
  have hall:∀y∈Y++ys,ThR p S5 y:=fun y hy=>by
    rcases List.mem_append.mp hy with hy|hy
    ·exact(hY y hy).keep P5.same
    ·exact hys y hy
  have c5:S5[q]?=some (.lst L):=P5.get c4 qp
  obtain⟨E',S',ef,u6,u7,rfl,rfl⟩:=UB (gs:=[]) (t:=tNm 6) (b:=Yz) (L:=Y++ys)
    (Iv:=fun i E S'=>∃u6 u7,E=[some (.scr ns),some (.int k),some (.ref p),some (Bs t ls ds),some (.ref q),some (.lst Y),u6,u7]/\S5=S')
    (fun _ _ _ _=>Ao) (E:=[some (.scr ns),some (.int k),some (.ref p),some (Bs t ls ds),some (.ref q),some (.lst Y),q6,q7]) (S:=S5) ⟨q6,q7,rfl,rfl⟩ (by
      rintro i dd E T hi ⟨u6,u7,rfl,rfl⟩
      obtain⟨v7,e⟩:=X5 (S:=S5) (p:=p) (q:=q) (a0:=some (.scr ns)) (a1:=some (.int k)) (a2:=some (.ref p)) (a5:=some (.lst Y)) (o7:=u7) hb (hall dd (List.mem_of_getElem? hi)) (by rw[hTL];exact c5)
      exact⟨_,_,S5,by simp,e,_,_,rfl,rfl⟩)
  refine⟨some (.ref p),some (Bs t ls ds),some (.ref q),some (.lst Y),u6,u7,S5,?_⟩
  have e2':Du [.ref p,.int 8] S1=some (Bs t ls ds,S2):=e2
  have r14:GD (14:Int)=true:=Ce (by decide) (by decide)
  have z:Y.length+ys.length≤sizeLine:=AN (by rw[lY,lys];simp[DJ])
  have t14:(14:Int).toNat=14:=rfl
  generalize Bs t ls ds=bk at*
  simp[Yp,e0,e1,e2',e3,eY,r14,t14,Ke,e5,z,ef]
theorem XG(ns:List Int)(h:ns.length≤63):∃S',LI [.scr ns] S=some (.bl true,S'):=by
 obtain⟨n,hn,hn2⟩:∃n:Nat,(if(if(2:Int)<ns.length then(2:Int)else ns.length)>1 then(if(2:Int)<ns.length then(2:Int)else ns.length)else 1)=(n:Int)/\n≤2:=by
  refine⟨(if(if(2:Int)<ns.length then(2:Int)else ns.length)>1 then(if(2:Int)<ns.length then(2:Int)else ns.length)else 1).toNat,?_,?_⟩
  ·split<;>split<;>omega
  ·split<;>split<;>omega
 have rn:GD (n:Int)=true:=Ce (by omega) (by omega)
 obtain⟨E',S',ef,q1,q2,q3,q4,q5,q6,q7,rfl⟩:=UB (gs:=[]) (t:=tNm 1) (b:=Yp) (L:=Hi 0 n)
  (Iv:=fun i E S'=>∃q1 q2 q3 q4 q5 q6 q7,E=[some (.scr ns),q1,q2,q3,q4,q5,q6,q7])
  (fun _ _ _ _=>Ao) (E:=[some (.scr ns),none,none,none,none,none,none,none]) (S:=S) ⟨_,_,_,_,_,_,_,rfl⟩ (by
   rintro i dd E T hi ⟨q1,q2,q3,q4,q5,q6,q7,rfl⟩
   obtain⟨rfl,hi'⟩:=Xc hi
   obtain⟨u2,u3,u4,u5,u6,u7,T2,e⟩:=XS (S:=T) (ns:=ns) (k:=i) (q2:=q2) (q3:=q3) (q4:=q4) (q5:=q5) (q6:=q6) (q7:=q7)
   exact⟨_,_,T2,by simp,e,_,_,_,_,_,_,_,rfl⟩)
 refine⟨S',?_⟩
 have eb:O9=AY (Mt (Jg [(eOp (o2 Y1) [(eC (.int 1)),(eOp (o2 V9) [(eOp (o1 F6) [(eV 0)]),(eC (.int 2))])])]) (tNm 1) Yp) (BQ (eC (.bl true))):=rfl
 unfold LI
 rw[eb]
 simp[hn,rn,ef]
end
open PyProof.Rows (boot_isinstance boot_int boot_bool boot_tuple boot_str boot_list boot_abs boot_all boot_any boot_sum boot_max boot_min boot_range boot_enumerate boot_zip boot_sorted boot_set boot_divmod)
structure All(w:World)(K:PySem.W.Frag)(mg:Str->Option Value):Prop where
 bt:Bts mg
 c_FLOWS:WY K mg "FLOWS" HL
 s_p_is_whole:St.Src K mg "is_whole" s_p_is_whole
 s_p_are_same:St.Src K mg "are_same" s_p_are_same
 s_p_is_same:St.Src K mg "is_same" s_p_is_same
 s_p_has_pieces:St.Src K mg "has_pieces" s_p_has_pieces
 s_p_can_pool:St.Src K mg "can_pool" s_p_can_pool
 s_p_can_swap:St.Src K mg "can_swap" s_p_can_swap
 s_p_can_do:St.Src K mg "can_do" s_p_can_do
 s_p_held_without:St.Src K mg "held_without" s_p_held_without
 s_p_held_behind:St.Src K mg "held_behind" s_p_held_behind
 s_p_held_at_first:St.Src K mg "held_at_first" s_p_held_at_first
 s_p_first_wrong:St.Src K mg "first_wrong" s_p_first_wrong
 s_p_refuse_undone:St.Src K mg "refuse_undone" s_p_refuse_undone
 s_p_moves_of:St.Src K mg "moves_of" s_p_moves_of
 s_p_moves_by:St.Src K mg "moves_by" s_p_moves_by
 s_p_pieces_moved:St.Src K mg "pieces_moved" s_p_pieces_moved
 s_p_flows_told:St.Src K mg "flows_told" s_p_flows_told
 s_p_sheet_holds:St.Src K mg "sheet_holds" s_p_sheet_holds
 s_law_cell_at:St.Src K mg "_law_cell_at" s_law_cell_at
 s_law_pen:St.Src K mg "_law_pen" s_law_pen
 s_law_draw:St.Src K mg "_law_draw" s_law_draw
 s_law_common:St.Src K mg "_law_common" s_law_common
 s_law_made:St.Src K mg "_law_made" s_law_made
 s_law_plus:St.Src K mg "_law_plus" s_law_plus
 s_law_times:St.Src K mg "_law_times" s_law_times
 s_law_less:St.Src K mg "_law_less" s_law_less
 s_law_whole:St.Src K mg "_law_whole" s_law_whole
 s_law_pieces:St.Src K mg "_law_pieces" s_law_pieces
 s_law_train:St.Src K mg "_law_train" s_law_train
 s_law_first:St.Src K mg "_law_first" s_law_first
 s_law_share:St.Src K mg "_law_share" s_law_share
 s_law_worths:St.Src K mg "_law_worths" s_law_worths
 s_law_begun:St.Src K mg "_law_begun" s_law_begun
 s_law_pooled:St.Src K mg "_law_pooled" s_law_pooled
 s_law_cost:St.Src K mg "_law_cost" s_law_cost
 s_law_borne:St.Src K mg "_law_borne" s_law_borne
 s_law_sold:St.Src K mg "_law_sold" s_law_sold
 s_law_turn:St.Src K mg "_law_turn" s_law_turn
 s_law_do:St.Src K mg "_law_do" s_law_do
 s_law_deed:St.Src K mg "_law_deed" s_law_deed
 s_law_book:St.Src K mg "_law_book" s_law_book
 s_law_sheet:St.Src K mg "_law_sheet" s_law_sheet
 s_law_thing:St.Src K mg "_law_thing" s_law_thing
 s_law_same:St.Src K mg "_law_same" s_law_same
 s_law_otherwise:St.Src K mg "_law_otherwise" s_law_otherwise
 s_p_law:St.Src K mg "law" s_p_law
section
variable{P:Program}{w:World}{K:PySem.W.Frag}{mg:Str->Option Value}{base:Heap}
theorem RM{f:Addr}{fd:FuncData}(F:Fun K "law" "law" s_p_law f fd)(B:Bts mg)(CL:Ff P w K mg base)(C0:HJ P w K mg base)(F0:L0 P w K mg base)(Eh:KU P w K mg base)(D7:Ie P w K mg base)(CF:M9 P w K mg base 8)(Cr:OZ P w K mg base 8)(CM:Fv P w K mg base):Ml P w K mg base CX0 11 f fd ["_law_script"] (spD K 1 LI):=by
 refine XY (k:=10) F EO rfl fun cdv A outer s H E hr=>?_
 have hu:=Ae hr
 exact(AF (Fy PassesOwn.never rfl (C8 rfl B.range (AA (Ab (Pe rfl) rfl B.max boot_max (AA AE (AA (Ab (MR rfl) rfl B.min boot_min (AA (Ab Bn rfl B.len boot_len (AA (AB 0) AD)) (AA AE AD))) AD))) AD)) (Aj 1 EO.nd) (AF (Av 2 (AH F0 (hr.mono (by decide)) rfl (AA (AH C0 (hr.mono (by decide)) rfl (AA (AB 0) (AA (AB 1) AD))) AD)) EO.nd)
    (AF (Av 3 (AH Eh (hr.mono (by decide)) rfl (AA (AB 2) (AA AE AD))) EO.nd)
    (AF (Av 4 (AH D7 (hr.mono (by decide)) rfl (AA (AB 3) AD)) EO.nd)
    (AF (Av 5 (BI (AA (AB 4) (AA (Fh (AB 4) AE) (AA (BI AD) (AA (Az AD) (AA KJ (AA (AZ AS (AB 4) (ET (AB 4) (Na Ga AE))) (AA (AH CF (hr.mono (by decide)) rfl (AA (AB 2) (AA AE AD))) AD)))))))) EO.nd)
    (AL (Fy PassesOwn.never rfl (Cb (AZ AS (AB 5) (Bq [2,4] 1 ["_law_pen_here","_law_right","_law_turn_here"] rfl OP (C8 rfl B.range (AA AE AD)) (fun s H fp=>⟨(Aj 2 Ob),Bk,(AH CM (hr.mono (by decide)) rfl (AA (AB 0) (AA (AB 1) AD)))⟩)))) (Aj 6 EO.nd) (AF (Av 7 (AH CL (hr.mono (by decide)) rfl (AA (AB 3) (AA (AB 6) AD))) EO.nd)
    (AL (Bf (DW.dt (PC (T7 (KA (Ab CI rfl B.isi boot_isinstance (AA (AB 7) (AA (Ge rfl B.bool boot_bool) AD))))) (Me (Ad (Hr hu) (AB 7) (AH Cr (hr.mono (by decide)) rfl (AA (AB 6) (AA (AB 4) AD))))))) (AL (AU My)) Am))))))))))
    (AL (AU My)))
theorem Xt{f:Addr}{fd:FuncData}(F:Fun K "law" "law" s_p_law f fd)(T:All w K mg):Ml P w K mg base CX0 11 f fd ["_law_script"] (spD K 1 LI):=by
 have B:=T.bt
 have c_FLOWS:=T.c_FLOWS
 have Cp:=Cp (P:=P) (w:=w) (base:=base) T.s_p_is_whole B
 obtain⟨d_p_are_same,d_p_is_same⟩:=WL (P:=P) (w:=w) (base:=base) T.s_p_are_same T.s_p_is_same B Cp 8 (by decide)
 have Ay:=Ay (P:=P) (w:=w) (base:=base) T.s_p_has_pieces B
 have DU:=DU (P:=P) (w:=w) (base:=base) T.s_p_can_pool Ay
 have Cs:=Cs (P:=P) (w:=w) (base:=base) T.s_p_can_swap Ay
 have EY:=EY (P:=P) (w:=w) (base:=base) T.s_p_can_do Ay DU Cs
 have BC:=BC (P:=P) (w:=w) (base:=base) T.s_p_held_without
 have BO:=BO (P:=P) (w:=w) (base:=base) T.s_p_held_behind BC
 have A7:=A7 (P:=P) (w:=w) (base:=base) T.s_p_held_at_first
 have CJ:=CJ (P:=P) (w:=w) (base:=base) T.s_p_first_wrong B EY BO A7
 have B2:=B2 (P:=P) (w:=w) (base:=base) T.s_p_refuse_undone CJ
 have DX:=DX (P:=P) (w:=w) (base:=base) T.s_p_moves_of
 have DM:=DM (P:=P) (w:=w) (base:=base) T.s_p_moves_by BO A7 DX
 have B8:=B8 (P:=P) (w:=w) (base:=base) T.s_p_pieces_moved B
 have Ca:=Ca (P:=P) (w:=w) (base:=base) T.s_p_flows_told B c_FLOWS DM B8
 have CL:=CL (P:=P) (w:=w) (base:=base) T.s_p_sheet_holds B d_p_is_same B2 Ca
 have C0:=C0 (P:=P) (w:=w) (base:=base) T.s_law_cell_at B
 have F0:=F0 (P:=P) (w:=w) (base:=base) T.s_law_pen B
 have AI:=AI (P:=P) (w:=w) (base:=base) T.s_law_draw
 have DO:=DO (P:=P) (w:=w) (base:=base) T.s_law_common
 have Aw:=Aw (P:=P) (w:=w) (base:=base) T.s_law_made B DO
 have BW:=BW (P:=P) (w:=w) (base:=base) T.s_law_plus Aw
 have A8:=A8 (P:=P) (w:=w) (base:=base) T.s_law_times Aw
 have Co:=Co (P:=P) (w:=w) (base:=base) T.s_law_less BW
 have CG:=CG (P:=P) (w:=w) (base:=base) T.s_law_whole B AI Aw
 have Be:=Be (P:=P) (w:=w) (base:=base) T.s_law_pieces AI
 have D6:=D6 (P:=P) (w:=w) (base:=base) T.s_law_train AI CG
 have Dv:=Dv (P:=P) (w:=w) (base:=base) T.s_law_first B AI CG Be
 have D5:=D5 (P:=P) (w:=w) (base:=base) T.s_law_share AI Aw
 have DQ:=DQ (P:=P) (w:=w) (base:=base) T.s_law_worths B AI
 have CO:=CO (P:=P) (w:=w) (base:=base) T.s_law_begun B
 have DN:=DN (P:=P) (w:=w) (base:=base) T.s_law_pooled B Aw BW A8
 have EZ:=EZ (P:=P) (w:=w) (base:=base) T.s_law_cost B Aw
 have C7:=C7 (P:=P) (w:=w) (base:=base) T.s_law_borne B BW A8 Co
 have Ds:=Ds (P:=P) (w:=w) (base:=base) T.s_law_sold B BW A8 Co
 have EX:=EX (P:=P) (w:=w) (base:=base) T.s_law_turn EZ C7 Ds
 have ER:=ER (P:=P) (w:=w) (base:=base) T.s_law_do B DN EX
 have Ef:=Ef (P:=P) (w:=w) (base:=base) T.s_law_deed B AI Be D5 DQ
 have Eh:=Eh (P:=P) (w:=w) (base:=base) T.s_law_book B AI D6 Dv CO ER Ef
 have D7:=D7 (P:=P) (w:=w) (base:=base) T.s_law_sheet B CO ER
 have CF:=CF (P:=P) (w:=w) (base:=base) T.s_law_thing B AI 8 (by decide)
 have Cr:=Cr (P:=P) (w:=w) (base:=base) T.s_law_same B 8 (by decide)
 have CM:=CM (P:=P) (w:=w) (base:=base) T.s_law_otherwise B AI
 exact RM (P:=P) (w:=w) (base:=base) F B CL C0 F0 Eh D7 CF Cr CM
theorem Xi{l:PySem.W.OpenLaw}{fa:Addr}(hfa:mg "law"=some (.ref fa))(T:All w K mg):
  ∃fd:FuncData,(∀(s:Shared) (v:Value),BindsTo s fd ⟨[v],[]⟩ [("_law_script",v)])/\∀base:Heap,K.In base->base.Ns mainGlobals mg->Ml l.prog w K mg base CX0 11 fa fd ["_law_script"] (Ul K):=by
 obtain⟨f,fd,F,hm⟩:=T.s_p_law.ex
 have e:=hfa.symm.trans hm
 cases e
 refine⟨fd,fun s v=>?_,fun base _ _=>?_⟩
 ·obtain⟨oc,od,kV,doc,pm,an,cdv,ct,osl,hfd,_⟩:=F.ex
  subst hfd
  exact .of_eq rfl
 ·exact Wj (Xt (P:=l.prog) (w:=w) (base:=base) F T) fun ns hl=>XG ns hl
end
theorem walk{l:PySem.W.OpenLaw}{q:Program}{loose:List Str}{XP:(Str->Option Value)->Heap->Prop}{YP:World->Heap->Prop}{d:DefRec}{K:Params->PySem.W.Frag}(hn:l.most=some 63)(hdf:d.params.defaults=[])
  (hY:∀(w:World) (h:Heap),YP w h->(K w.params).In h) (hd:d.name="law")
  (F:∀(w:World) (mg:Str->Option Value) (h:Heap),(K w.params).In h->h.Ns mainGlobals mg->All w (K w.params) mg):
  PySem.W.WalkO q loose XP YP l.row.toRowW d [] (fun f vs=>PySem.call f vs):=
 L2.Vd (n:=63) (k:=11) (x:="_law_script") (CX:=fun _=>CX0) (sp:=fun w=>Ul (K w.params)) hn (by decide) hdf ⟨rfl,by decide,by decide⟩ hY (fun w mg fa h KX G hmg=>Xi (by rw[←hd];exact hmg) (F w mg h KX G)) (fun _ _ a ns hl _ hS=>⟨a,ns,rfl,hS,hl,fun _=>rfl⟩) fun _ _ _ _ _ z=>z
end Mi
end
noncomputable section
namespace PySem.W.Fast
def tw965417623159395703:=0
def tw9790141479806173483:=0
def tw14253305111325692466:=0
def tw10483139508559414071:=0
def tw7619366219799494038:=0
def tw13829747478519263628:=0
def tw14394675317853028888:=0
def tw16854282711620440181:=0
def tw13577635410749130665:=0
def tw3685461221306827047:=0
def tw1742453361844098490:=0
def tw3080000238548442505:=0
def tw73577711002618326:=0
def tw13738080005424103291:=0
def tw10175803796886826498:=0
def tw145332013111426357:=0
def tw10626122698935004413:=0
def tw15977177375102708634:=0
def tw3968026438912758330:=0
def tw9694300340351152008:=0
def tw5817606062834218983:=0
def tw2051049391366633028:=0
def tw18263794237970013382:=0
def tw2430995945319850843:=0
def tw7762632077759431868:=0
def tw11786217959586253674:=0
def tw8770973027905843141:=0
def tw8999486762886279817:=0
def tw14146645838430693803:=0
def tw4229990977995717921:=0
def tw3814222795425124662:=0
def tw6609120680201687664:=0
def tw14438851490035164510:=0
def tw5629441442696635831:=0
def tw8948584331513884527:=0
def tw16847830624608034878:=0
def tw9227926153087659552:=0
def tw18397247604336550594:=0
def tw14356950736064227835:=0
def tw8803813279541901829:=0
def tw8740802604333153963:=0
def tw5038544684076412180:=0
def tw9216707730304035712:=0
def tw4092701300384479150:=0
def tw12868436692097960076:=0
def tw2007161400600797140:=0
def tw11716941494500723508:=0
def tw6913801486783741293:=0
def tw15052029567937932073:=0
def tw11109218616058789726:=0
def tw6539580641570279740:=0
def tw16073905005776465204:=0
def tw15621880062875016358:=0
def tw18240598236402588674:=0
def tw15723526712321681397:=0
def tw667982232924081788:=0
def tw140083127143210625:=0
def tw26198886907915203:=0
def tw11419294055259921648:=0
def tw7696763473982041147:=0
def tw13040384356592917901:=0
def tw8361005030083531937:=0
def tw12636269984077398833:=0
def tw4974317304616335222:=0
def tw11657438901689226001:=0
def tw1383253524722205445:=0
def tw17021683680598598824:=0
def tw12513080394816554882:=0
def tw9826698254361423652:=0
def tw12460602648400692329:=0
def tw4253751658851222993:=0
def tw8251385473664906630:=0
def tw14366043844294100684:=0
def tw11173685776809424243:=0
def tw13791129643136105613:=0
def tw10038993514874360417:=0
def tw3793501135834287156:=0
def tw14239251525169101227:=0
def tw7939757077812694595:=0
def tw9566948926634918026:=0
def tw13209663092630993337:=0
def tw8794888719649579842:=0
def tw17250614389213544044:=0
def tw12314118887751098107:=0
def tw12988117337674810117:=0
def tw2018018929852157174:=0
def tw4092887095015653867:=0
def tw18172132284484598919:=0
def tw4550268625740022431:=0
def tw1769487558399564871:=0
def tw7361429008394941583:=0
def tw10301239366127960264:=0
def tw5184362585974171489:=0
def tw4907881460233467362:=0
def tw15923322579630250110:=0
def tw2782860542207757030:=0
def tw6444658969481987754:=0
def tw1157898427265624546:=0
def tw2112038011335805:=0
def tw13925609334164102849:=0
def tw7307708438689108332:=0
def tw10427925297500531360:=0
def tw12113565848560235648:=0
def tw5057405056318663659:=0
def tw12034339604739157546:=0
def tw5928601107794769309:=0
def tw6052350287522879026:=0
def tw17582760304771662323:=0
def tw15066016104248653846:=0
def tw15233646108177456215:=0
def tw7161590619376120570:=0
def tw6287012768707001085:=0
def tw9472997335822951240:=0
def tw8489522787664735380:=0
def tw8328926893935607744:=0
def tw7788176229965746844:=0
def tw2928686978200222657:=0
def tw3358713022762588863:=0
def tw1759103480333846673:=0
def tw8233609508630781696:=0
def tw10553422170249369231:=0
def tw7108298194462830907:=0
def tw233044364383542237:=0
def tw17098429475096968468:=0
def tw1978236790449715106:=0
def tw12099957192117275087:=0
def tw11152579245479837213:=0
def tw5728240042770436343:=0
def tw1018587494446031088:=0
def tw17728349321399352505:=0
def tw16567060808393519873:=0
def tw5275508407877967632:=0
def tw3675390168914233920:=0
def tw1365599285555310827:=0
def tw2860367860722082534:=0
def tw1240135886864406339:=0
def tw12191385876916960892:=0
def tw17780696470821244274:=0
def tw16927008151911474731:=0
def tw8066407471205673415:=0
def tw2004891763270439427:=0
def tw3466628798600574711:=0
def tw8582001914725217726:=0
def tw2990134753601802659:=0
def tw7952590695361645925:=0
def tw9698887484400975666:=0
def tw302280712469356494:=0
def tw3669208623155857550:=0
def tw11345514596044909681:=0
def tw16085767733689400974:=0
def tw5498685149577977927:=0
def tw17024735501784259227:=0
def tw16696905057344940022:=0
def tw12810270853051239234:=0
def tw12012204177059265273:=0
def tw4693638053656966844:=0
def tw8694269990733765344:=0
def tw17231707240288320885:=0
def tw8323208070106418336:=0
def tw17268704950666035724:=0
def tw16408238505066025235:=0
def tw211217333804786458:=0
def tw2430219101741412464:=0
def tw5491898156014521488:=0
def tw16188883033603345199:=0
def tw16525723799664177464:=0
def tw3820789674804635721:=0
def tw8501097701725999841:=0
def tw1403341629039999701:=0
def tw17349432501132138722:=0
def tw12694733116073703737:=0
def tw3395079802754998503:=0
def tw3358591072347081450:=0
def tw1191660880005744135:=0
def tw12606361602865386998:=0
def tw5206202719472830113:=0
def tw7862965395437186451:=0
def tw489123023365437717:=0
def tw17516896467993353924:=0
def tw524767626443409272:=0
def tw16522375631147636182:=0
def tw2701831428822871371:=0
def tw4381742301219820809:=0
def tw10108314701879241403:=0
def tw8630166904232337071:=0
def tw338925726347826553:=0
def tw12457619195208584650:=0
def tw5361091888377897543:=0
def tw16697815033903285213:=0
def tw15170848271689724377:=0
def tw11126931286562679991:=0
def tw12609487479544581737:=0
def tw16137453184406301322:=0
def tw8838218611218918160:=0
def tw9186989834465087713:=0
def tw12156446520920650882:=0
def tw6769795255701931900:=0
def tw15609443057184026336:=0
def tw16448990882742173027:=0
def tw15333916627954485600:=0
def tw11840261298700121343:=0
def tw13725386747289756015:=0
def tw1892378426253025782:=0
def tw10377986955461706739:=0
def tw13595643924508421915:=0
def tw3432592161815316790:=0
def tw4102718046038553663:=0
def tw5912303641291983289:=0
def tw1263460456884726700:=0
def tw5901191739170354997:=0
def tw10221201695305367208:=0
def tw10055387093085229557:=0
def tw16861558360203984268:=0
def tw10812499480950732262:=0
def tw14825654808133962881:=0
def tw7195900821150924926:=0
def tw14500173497351036515:=0
def tw8986582079543017571:=0
def tw10324716561454422101:=0
def tw13204620186016978364:=0
def tw8195965989841428343:=0
def tw5137042612661813549:=0
def tw2898251426239452440:=0
def tw272898580088460875:=0
def tw12758299869761499670:=0
def tw11840233762860363673:=0
def tw16706572037719442146:=0
def tw11070723798206707466:=0
end PySem.W.Fast
open PySem PySem.W PyProof.Rows
set_option maxRecDepth 100000 in
set_option maxHeartbeats 0 in
theorem PySem.Challenge.cw_sharetrail_k22_sheets_looked_at_holds : PySem.Challenge.rw_sharetrail_k22_sheets_looked_at.Holds := by
  w_on;o_law;k_head;(case hw=>w_witness2)
  k_fill
  refine Mi.walk (l:=PySem.Challenge.rw_sharetrail_k22_sheets_looked_at) rfl rfl (fun w h Y=>PySem.W.kIn_of Y) rfl ?F
  case F =>
    intro w mg h KX G
    have c_FLOWS:Mi.WY (L2.KOf KX) mg "FLOWS" Mi.HL:=by
      dsimp only[L2.KOf]
      refine' Mi.Wb KX G ?e ?r
      (case e=>k_is)
      case r=>
        refine' Mi.Ug ?l ?z ?r
        (case l=>k_is)
        (case z=>decide)
        case r=>
          refine' Paired.cons ?_ ?_
          ·exact Mi.HN
          refine' Paired.cons ?_ ?_
          ·exact Mi.HN
          refine' Paired.cons ?_ ?_
          ·exact Mi.HN
          refine' Paired.cons ?_ ?_
          ·exact Mi.HN
          refine' Paired.cons ?_ ?_
          ·exact Mi.HN
          refine' Paired.cons ?_ ?_
          ·exact Mi.HN
          exact Paired.nil
    have z_abs:mg "abs"=none:=by
      refine' PySem.W.mg_none_of KX G ?z
      (case z=>k_is)
    have z_all:mg "all"=none:=by
      refine' PySem.W.mg_none_of KX G ?z
      (case z=>k_is)
    have z_bool:mg "bool"=none:=by
      refine' PySem.W.mg_none_of KX G ?z
      (case z=>k_is)
    have z_enumerate:mg "enumerate"=none:=by
      refine' PySem.W.mg_none_of KX G ?z
      (case z=>k_is)
    have z_int:mg "int"=none:=by
      refine' PySem.W.mg_none_of KX G ?z
      (case z=>k_is)
    have z_isinstance:mg "isinstance"=none:=by
      refine' PySem.W.mg_none_of KX G ?z
      (case z=>k_is)
    have z_len:mg "len"=none:=by
      refine' PySem.W.mg_none_of KX G ?z
      (case z=>k_is)
    have z_list:mg "list"=none:=by
      refine' PySem.W.mg_none_of KX G ?z
      (case z=>k_is)
    have z_max:mg "max"=none:=by
      refine' PySem.W.mg_none_of KX G ?z
      (case z=>k_is)
    have z_min:mg "min"=none:=by
      refine' PySem.W.mg_none_of KX G ?z
      (case z=>k_is)
    have z_range:mg "range"=none:=by
      refine' PySem.W.mg_none_of KX G ?z
      (case z=>k_is)
    have z_sum:mg "sum"=none:=by
      refine' PySem.W.mg_none_of KX G ?z
      (case z=>k_is)
    have z_tuple:mg "tuple"=none:=by
      refine' PySem.W.mg_none_of KX G ?z
      (case z=>k_is)
    have z_zip:mg "zip"=none:=by
      refine' PySem.W.mg_none_of KX G ?z
      (case z=>k_is)
    refine⟨⟨z_abs,z_all,z_bool,z_enumerate,z_int,z_isinstance,z_len,z_list,z_max,z_min,z_range,z_sum,z_tuple,z_zip⟩,c_FLOWS,?_,?_,?_,?_,?_,?_,?_,?_,?_,?_,?_,?_,?_,?_,?_,?_,?_,?_,?_,?_,?_,?_,?_,?_,?_,?_,?_,?_,?_,?_,?_,?_,?_,?_,?_,?_,?_,?_,?_,?_,?_,?_,?_,?_,?_⟩
    all_goals (refine' Mi.X2 KX G ?a ?l ?c ?k;(case a=>k_is);(case l=>k_is);(case c=>k_is);(case k=>k_is))
end
