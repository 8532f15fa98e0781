import PyProof.Rows.All
import Wide.All
import OpenK.AllK
import Wide.FinOn
import Lean
import PyProof.EqAt
import PyProof.EqKinds
import PyProof.TupleCall
import PyProof.Draws
import PyProof.EnumMake
import PyProof.EnumFor
import PyProof.ZipIter
import PyProof.ListMulRoad
import PyProof.NeData
import PyProof.SumWalkG
import KE.KSortedM
import PySem.Challenge.RW_sharetrail_k74_leaders_apart
set_option Elab.async false
set_option linter.all false
set_option maxRecDepth 100000
set_option maxHeartbeats 4000000
set_option exponentiation.threshold 10000
set_option compiler.extract_closed false
open _root_ renaming List->Wp,Option->qz,of_decide_eq_true->rO,if_pos->sD,if_neg->sH,or_false->sU,Bool->su,beq_eq_false_iff_ne->tZ,decide_eq_true_eq->uG,False->uO,decide_eq_true->uT,beq_iff_eq->uv,String->vJ,decide_eq_false->vM,not_or->vg,Array->xI,if_true->xl,True->xy,if_false->yf,beq_self_eq_true->yi,autoParam->x0
open Array renaming getElem?_eq_some_iff->vE,length_toList->xg,getElem?_toList->zJ
open Bool renaming and_eq_true->rH,false_ne_true->sZ,or_eq_true->tK,noConfusion->uc,eq_iff_iff->wW,not_eq_true'->yS,false_eq_true->AAI
open False renaming elim->si
open ForInStep renaming yield->xW
open Int renaming toNat_of_nonneg->sf,mul_pos->tN,natAbs_natCast->uN,emod_nonneg->uw,emod_lt_of_pos->vF,lt_of_lt_of_le->vH,natAbs_mul->va,le_of_lt->vf,lt_of_le_of_lt->vj,mul_le_mul_of_nonneg_right->xQ,add_le_of_le_sub_right->yE,natAbs_ediv_le_natAbs->yJ,toNat_natCast->yP,mul_ediv_cancel_left->yZ,sub_self->yp,min_eq_left->y7,ofNat_toNat->y9,natCast_mul->zC,mul_nonneg->zk,natAbs_of_nonneg->zl,natCast_nonneg->AAF
open Lean renaming TSyntax->yv,MacroM->zh
open Lean.Syntax renaming mkApp->xD
open List renaming getElem?_append_left->qv,mem_cons->qy,getElem?_set_ne->rA,getElem?_eq_some_iff->rB,mem_cons_of_mem->rC,getElem?_eq_getElem->rE,getElem?_set_self->rF,not_mem_nil->rJ,size_toArray->rK,mem_cons_self->rM,replicate->rQ,map_cons->rT,mem_of_getElem?->rV,getD_eq_getElem?_getD->rX,getElem?_map->rY,getElem?_concat_length->rZ,mem_append->rf,nodup_cons->rm,nil_append->r9,mem_map->sE,mem_singleton->sF,length_map->sG,sum_cons->sJ,cons_append->sQ,getElem?_append_right->sR,length_cons->sS,lookup_cons->sX,mem_append_right->sY,filterMap_cons->se,append_nil->sj,length_append->sk,drop_eq_getElem_cons->tE,map_map->tJ,map_nil->tP,range->tm,nodup_append->uA,prefix_rfl->uC,replicate_succ->uD,length_set->uK,lookup->uP,of_mem_zip->uV,mem_iff_getElem?->uY,drop_eq_nil_of_le->uz,mem_flatMap->u5,mem_or_eq_of_mem_set->vL,flatten_cons->vO,take_length->vc,getElem?_zipWith_eq_some->ve,map_append->vm,getElem?_inj->vq,flatMap_cons->vt,mem_append_left->vv,getElem_mem->wC,map_set->wD,getElem?_zip_eq_some->wH,all_cons->wO,map_take->wQ,mem_filter->wR,length_nil->wV,lookup_append->wZ,prefix_append->wc,getElem?_replicate->we,append_assoc->wy,take_of_length_le->w9,zipWith->xE,mem_range'_1->xF,eraseIdxIfInBounds_toArray->xH,length_filter_le->xM,any_cons->xR,flatMap_append->xi,mem_range->x5,mapM_cons->yH,length->yO,ext_getElem?->yU,length_take->yd,zipWith_cons_cons->yy,forIn_cons->zB,length_singleton->zI,set_append_right->zK,getElem?_eq_none->zL,eq_nil_or_concat->zM,concat_eq_append->zN,forIn_nil->zV,drop_eq_nil_iff->zZ,set_append_left->zm,length_pos_iff->z5,mem_filterMap->AAB,foldl->AAG,zip_cons_cons->AAL,set_cons_zero->AAM
open List.MergeSort.Internal renaming splitInTwo->AAN
open Nat renaming lt_of_lt_of_le->qw,le_trans->q8,le_refl->q9,lt_of_le_of_lt->sC,ne_of_lt->sM,mul_le_mul_right->sO,pow_le_pow_right->sT,pow_lt_pow_right->tO,lt_irrefl->tW,zero_le->uQ,mul_comm->ui,le_of_lt->uy,mul_le_mul->vG,mul_one->vQ,le_succ_of_le->vR,mul_assoc->vW,le_mul_of_pos_right->vb,lt_trans->vh,pos_of_ne_zero->vi,le_of_succ_le->vp,mul_pos->v7,mul_le_mul_left->wK,min_le_right->xN,pow_add->xV,ne_of_gt->xj,gcd->xq,one_lt_two_pow->yI,lt_succ_self->yb,add_comm->yt,gcd_comm->yw,pow_succ->yx,lt_or_ge->y0,min_eq_left->y8,le_succ->zP,sub_succ_lt_self->zb
open Ne renaming symm->tu
open Option renaming some->Gc,map_eq_some_iff->u4,bind_some->yj,map->AAK
open Option.some renaming inj->uJ
open PyProof.Rows renaming envOfC->rg,slot_tuple_getitem->sv,callWith_type1->vo,IntsAre->wN,AllBare->wd,assignInOrder_cons->x8,subscriptTail_builtinR->yo,entry_tuple_getitem->zw,args_tuple_getitem->AAE
open PyProof.Rows.IsTup renaming new->wI
open PySem renaming wpAny_bind->qu,Value->rD,starEach->rG,Addr->rL,Shared->rP,wpAny_pure->rS,Stmt->sP,mem_of_lookup->sW,Program->sx,Expr->tF,Heap->tS,wpAny_mono->tq,wpAny_Call_Name_kw->uB,wpAny_field->uF,World->uL,wpAny_callSpecial?_slot->uR,wpAny_pyIter_list->uU,wpAny_call_entry->uZ,wpAny_pyIter_tuple->ua,Scope->uf,wpAny_holding->ug,wpAny_truthy_bool->uo,wpAny_newObj_type->uq,Around->ux,wpAny_setField_rec->vD,wpAny_passesOwn->vN,IsPair->vU,wpAny_execs_cons->vX,wpAny_getItem_str_slice->vY,boot_len->vZ,call_meets->vy,wpAny_setField->vz,wpAny_seqItems->v3,codeAny_mono->v9,wpAny_binaryOp_repeat_ref->wG,wpAny_standAt->wL,wpAny_execs_nil->wU,wpAny_call->wY,DictEntry->wj,wpAny_pyNext_list_item->wq,wpAny_pyNext_list_end->xJ,typeIs_int->xO,FuncData->xT,wpAny_updateSeq_pair->xU,post_val_or_str->xf,Builtin->xo,wpAny_newFunctionEnv_cells->yA,IsZip->yF,wpAny_Return_some->yL,Keyword->yN,wpAny_comprehension_free->yV,wpAny_onRaise->yW,ExceptHandler->yY,NameKind->yc,noFill_tuple_add->ye,wpAny_rule->ym,IsPart->yn,typeIs_str->yq,wpAny_pyIter_listiter->zG,codeAny_call_function->zH,intBits_le_iff->zY,wpAny_newFunctionEnv->ze,seq_tuple_add->z8
open PySem.Around renaming frames_deeper->zS
open PySem.AutoSeq1 renaming wpAny_loadPart'->rh
open PySem.Builtin.List renaming listTooLong->uH
open PySem.Builtin.Slice renaming slicePlaces->vK,sliceAdjust->wF,sliceApplied->yB
open PySem.Builtin.SmallTypes renaming nextOf->sV,ownedTupleIsFree->uI,ownedTupleHandOut->wJ
open PySem.Builtin.Tuple renaming tupleExact->vT,tupleItemsOf->yC,tupleTooMany->yG
open PySem.Calls renaming Name_function_global->vw,spliced_cons->xS,loadGlobal_global->ya,callWith_builtin->yr,spliced_nil->zO,evalArgs_plain->zT
open PySem.Challenge renaming pw_sharetrail_k74_leaders_apart->yT
open PySem.EntryCells renaming newEntry->z6
open PySem.F renaming slot_list_append->uS,type_list_append->um,slot_tuple_iterator_next->vC,slot_str_getitem->vV,slot_list_pop->vd,slot_int_rmul->vk,args_tuple_add_2->wM,entry_tuple_add->wg,slot_tuple_add->wx,type_list_pop->xK,slot_tuple_mul->xP,args_tuple_iterator_next_1->xX,slot_zip_next->xZ,entry_tuple_iterator_next->xn,args_int_rmul_2->yQ,slot_int_index->yg,entry_int_rmul->yh,plainAttrs_list->yk,fills_int_mul->zA,args_list_extend_2->zU,excBase_ValueError->zc,entry_list_extend->zx,slot_list_extend->AAH,args_tuple_mul_2->AAJ
open PySem.Heap renaming get?_push_of_some->qt,lt_size->rR,get?_push_size->rW,get?_update_other->tQ,size_push->tT,get?_update_self->uW,SameBut->wm,IsTuple->xp,ExtBut->yR,IsList->zX
open PySem.Heap.SameBut renaming update->zy
open PySem.NameKind renaming free->tM,cell->vn
open PySem.Obj renaming mapFields->tY,isFreed_of_fields->uX,data_mapFields->vB,mapSeq->yD
open PySem.PassesOwn renaming never->zF
open PySem.PyData renaming strOk->tV,canLayAll0->xA,depth->y2,depthAll->zE
open PySem.SeqAt.EqAt renaming int_str->z9,str_int->AAA
open PySem.Shared renaming heap->vP
open PySem.Str renaming ofString->sI,ofString_eq_toList->yz
open PySem.Txt renaming slice_le->yu
open PySem.Value renaming ref->sA,none->sL,isStrOf->vS,int->xr,str->xt,bool->xu,type->xv
open PySem.W renaming Frag->W1,nsIn->sN,findIn->tH,keepIn->tL,kia_one->tU,emptyDict->uE,callWith_K->uM,fnOf->uh,mg_of->uj,envX->uk,instObj->uu,kitOne->vA,methodCall_KW->vI,codeIn->vx,exmOne->v5,plainGet->v8,hasDictIn->wt,cellsFrom_some->wu,tabObj->xB,kla_fn->xC,KeysLit->xY,plainGet_of->xh,isFn->xk,lookIn->x9,methodObj->yK,plainOver->yM,excIn->yX,OpenLaw->yl,takerIn->y3,makesIn->y4,kla_obj->zD,kla_callFunE->zd,kla_codeExpr->zg,callWith_K0->zv,callWith_F0->z7,kitx_tuple->AAC,codeRec_of->AAD
open PySem.codeAmong renaming eq_def->wB
open Rat renaming mul_le_mul_of_nonneg_right->ue,intCast_eq_zero_iff->ur,le_of_lt->xG,le_refl->zo,num_nonneg->zq
open Sum renaming inl->zt,inr->zu
open True renaming intro->wX
theorem xzT(h:True:=by first|exact .inl rfl|exact .inr rfl|assumption):True:=h
def xz:=xzT._auto_1
theorem xLT(h:True:=by decide):True:=h
def xL:=xLT._auto_1
theorem wwT(h:True:=by intro _;rfl):True:=h
def ww:=wwT._auto_1
theorem wvT(h:True:=by rfl):True:=h
def wv:=wvT._auto_1
theorem wrT(h:True:=by intro _; rfl):True:=h
def wr:=wrT._auto_1
theorem wpT(h:True:=by with_unfolding_all rfl):True:=h
def wp:=wpT._auto_1
theorem wfT(h:True:=by exact λ_ _=>rfl):True:=h
def wf:=wfT._auto_1
theorem wTT(h:True:=by first|exact Or.inl rfl|exact Or.inr rfl):True:=h
def wT:=wTT._auto_1
theorem wST(h:True:=by first|exact .inl rfl|exact .inr rfl):True:=h
def wS:=wST._auto_1
theorem wPT(h:True:=by first|exact Or.inl rfl|exact Or.inr (Or.inl rfl)|exact Or.inr (Or.inr rfl)):True:=h
def wP:=wPT._auto_1
theorem wET(h:True:=by decide+kernel):True:=h
def wE:=wET._auto_1
theorem v6T(h:True:=by exact λ_ _ _ _ _ _ _=>rfl):True:=h
def v6:=v6T._auto_1
theorem v4T(h:True:=by first|decide|lia):True:=h
def v4:=v4T._auto_1
theorem v0T(h:True:=by exact rfl):True:=h
def v0:=v0T._auto_1
theorem utT(h:True:=by first|exact Or.inl rfl|exact Or.inr (Or.inl rfl)):True:=h
def ut:=utT._auto_1
theorem ulT(h:True:=by intro _ _ _ _;rfl):True:=h
def ul:=ulT._auto_1
open PyProof.Rows (boot_isinstance boot_int boot_bool boot_tuple boot_str boot_list boot_abs boot_all boot_any boot_sum boot_max boot_min boot_range boot_enumerate boot_zip boot_sorted boot_set boot_divmod)
noncomputable section
namespace L2
open PySem PySem.Spec PyProof.Rows
abbrev Key:=Sum Int Str
noncomputable def Rq:Key->rD->su
 | .inl k,v=>Value.isInt k v
 | .inr x,v=>vS x v
noncomputable def qW(w:uL):Key->Int
 | .inl k=>hashInt k
 | .inr x=>hashStr w x
theorem CJ:∀{k:Key} {v:rD},Rq k v=true->(∃i t,k=zt i/\v=xr i t)\/(∃x t,k=zu x/\v=xt x t)
 | .inl i,v,h=>by
   obtain⟨t,e⟩:=Value.isInt_shape (k:=i) (v:=v) h
   exact .inl ⟨i,t,rfl,e⟩
 | .inr x,v,h=>by
   obtain⟨t,e⟩:=Value.isStrOf_shape (x:=x) (v:=v) h
   exact .inr ⟨x,t,rfl,e⟩
def Ub(i:Int)(t:Tok):Rq (.inl i) (.int i t)=true:=by simp[Rq,Value.isInt]
def UG(x:Str)(t:Tok):Rq (.inr x) (.str x t)=true:=by simp[Rq,vS]
def f6(a b:Int):decide ((zt a:Key)=zt b)=(a==b):=by
 by_cases e:a=b
 .subst e;simp
 .have h:¬(zt a:Key)=zt b:=λq=>e (Sum.inl.inj q)
  rw[vM h]
  exact(tZ.mpr e).symm
def fC(a b:Str):decide ((zu a:Key)=zu b)=decide (a=b):=by
 by_cases e:a=b
 .subst e;simp
 .have h:¬(zu a:Key)=zu b:=λq=>e (Sum.inr.inj q)
  rw[vM h,vM e]
def fe(a:Int)(b:Str):decide ((zt a:Key)=zu b)=false:=vM (λq=>nomatch q)
def eJ(a:Str)(b:Int):decide ((zu a:Key)=zt b)=false:=vM (λq=>nomatch q)
noncomputable def Fz(prog:sx)(w:uL):PySem.KeyKind prog w Key where
 is:=Rq
 hash:=qW w
 inj:=λv a b ha hb=>by
  rcases CJ ha with⟨i,t,rfl,rfl⟩|⟨x,t,rfl,rfl⟩
  .rcases CJ hb with⟨j,u,rfl,e⟩|⟨y,u,rfl,e⟩
   .injection e with e1 _;rw[e1]
   .exact nomatch e
  .rcases CJ hb with⟨j,u,rfl,e⟩|⟨y,u,rfl,e⟩
   .exact nomatch e
   .injection e with e1 _;rw[e1]
 byValue:=λk v h=>by
  rcases CJ h with⟨i,t,rfl,rfl⟩|⟨x,t,rfl,rfl⟩<;>rfl
 pyHash:=λhv h=>by
  rcases CJ hv with⟨i,t,rfl,rfl⟩|⟨x,t,rfl,rfl⟩
  .exact wpAny_pyHash_int h
  .exact wpAny_pyHash_str h
 eqBool:=λhu hv h=>by
  rcases CJ hu with⟨i,t,rfl,rfl⟩|⟨x,t,rfl,rfl⟩
  .rcases CJ hv with⟨j,u,rfl,rfl⟩|⟨y,u,rfl,rfl⟩
   .rw[f6]at h;exact wpAny_eqBool_int h
   .rw[fe]at h;exact z9 i t y u _ _ _ _ h
  .rcases CJ hv with⟨j,u,rfl,rfl⟩|⟨y,u,rfl,rfl⟩
   .rw[eJ]at h;exact AAA x t j u _ _ _ _ h
   .rw[fC]at h;exact wpAny_eqBool_str h
 «strs» :=λk x t v h=>by
  rcases CJ h with⟨i,u,rfl,e⟩|⟨y,u,rfl,e⟩
  .exact nomatch e
  .injection e with e1 _
   subst e1
   cases v<;>rfl
def P6 prog w(i:Int)(t:Tok):(Fz prog w).is (.inl i) (.int i t)=true:=Ub i t
def QB prog w(x:Str)(t:Tok):(Fz prog w).is (.inr x) (.str x t)=true:=UG x t
end L2
namespace L2
open PySem PySem.Spec PyProof.Rows
inductive V where
 |non|bl (b:su)|int (i:Int)|str (x:Str)|byt (b:xI UInt8)|flt (b:UInt64)|ref (a:rL)|ty (n:vJ)
 deriving DecidableEq
def RelV:V->rD->Prop
 | .non,u=>u=sL
 | .bl b,u=>u=xu b
 | .int i,u=>∃t,u=xr i t
 | .str x,u=>∃t,u=xt x t
 | .byt b,u=>∃t,u=Value.bytes b t
 | .flt b,u=>∃t,u=Value.float b t
 | .ref a,u=>u=sA a
 | .ty n,u=>u=xv n
abbrev Vals:Wp V->Wp rD->Prop:=Paired RelV
def Vals.length{xs:Wp V}{us:Wp rD}(r:Vals xs us):xs.length=us.length:=Paired.length r
theorem Vals.get:∀{xs} {us} {i:Nat} {x:V},Vals xs us->xs[i]?=Gc x->∃u,us[i]?=Gc u/\RelV x u
 |_,_,_,_,.nil,e=>by simp at e
 |_,_,0,_,.cons r _,e=>by simp at e;subst e;exact⟨_,rfl,r⟩
 |_,_,i+1,x,.cons _ t,e=>by
  obtain⟨u,h1,h2⟩:=Vals.get (i:=i) (x:=x) t (by simpa using e)
  exact⟨u,by simpa using h1,h2⟩
theorem Vals.set(r:RelV x u):∀{xs} {us} i,Vals xs us->Vals (xs.set i x) (us.set i u)
 |_,_,_,.nil=>.nil
 |_,_,0,.cons _ t=>.cons r t
 |_,_,i+1,.cons q t=>.cons q (Vals.set r i t)
theorem Vals.append:∀{xs ys:Wp V} {us ws:Wp rD},Vals xs us->Vals ys ws->Vals (xs++ys) (us++ws)
 |_,_,_,_,.nil,s=>s
 |_,_,_,_,.cons r t,s=>.cons r (Vals.append t s)
theorem Vals.take:∀{xs} {us} (n:Nat),Vals xs us->Vals (xs.take n) (us.take n)
 |_,_,0,_=>.nil
 |_,_,_+1,.nil=>.nil
 |_,_,n+1,.cons r t=>.cons r (Vals.take n t)
theorem Vals.drop:∀{xs} {us} (n:Nat),Vals xs us->Vals (xs.drop n) (us.drop n)
 |_,_,0,r=>r
 |_,_,_+1,.nil=>.nil
 |_,_,n+1,.cons _ t=>Vals.drop n t
def Px:qz V->qz rD->Prop
 |some v,Gc u=>RelV v u
 |none,none=>xy
 |_,_=>uO
def KV{κ:Type}:Wp (κ×V)->Wp (κ×rD)->Prop:=Paired λ(p:κ×V) (q:κ×rD)=>p.1=q.1/\RelV p.2 q.2
noncomputable def kV:Key->V
 | .inl i=>.int i
 | .inr x=>.str x
inductive HO where
 |lst (xs:Wp V)
 |tup (xs:Wp V)
 |dK (kvs:Wp (Key×V))|dT (kvs:Wp (Wp Key×V))
 |set (S:Int->su) (n:Nat)
 |ins (C dx:rL) (fs:Wp (Str×V))
 |own (x:rL)
 |xd (fs:Wp (Str×V))
 |met (f x:rL)
 |rng (lo hi:Int)
 |frz (o:Obj) (u:HO)
 |tbl (ps:xI rD)
 |ext (φ:tS->Prop)
abbrev Hp:=rL->qz HO
noncomputable def upd(H:Hp)(a:rL)(o:HO):Hp:=λb=>if b=a then Gc o else H b
def Ax{o:HO}:upd H a o a=Gc o:=by unfold upd;rw[sD rfl]
def Ae{o:HO}(h:b≠a):upd H a o b=H b:=by unfold upd;rw[sH h]
def BL{H:Hp}{o:HO}(h:H a=Gc o)(h':H b=none):a≠b:=by
 intro e;subst e;rw[h]at h';cases h'
section
variable(P:sx)(w:uL)
def D1(H:Hp)(h:tS)(a:rL):HO->Prop
 | .lst xs=>xs.length<=sizeLine/\∃(its:Wp rD) (n:Nat),Vals xs its/\h.get? a=Gc {cls:=.type "list",data:=.seq its.toArray n}
 | .tup xs=>xs.length<=sizeLine/\∃its:Wp rD,Vals xs its/\IsTup h a its.toArray
 | .dK kvs=>kvs.length<=sizeLine/\(a==sysModules)=false/\∃vs,KV kvs vs/\h.DictOf (Fz P w) a vs
 | .dT kvs=>kvs.length<=sizeLine/\(a==sysModules)=false/\∃xs:Wp (Wp Key×rL×rD),
    Paired (λ(p:Wp Key×V) (q:Wp Key×rL×rD)=>p.1=q.1/\H q.2.1=Gc (.tup (p.1.map kV))/\RelV p.2 q.2.2) kvs xs/\
    ∃o es ep,h.get? a=Gc o/\o.ExactDict/\o.data=.dict es ep/\es.toList=xs.map (entryOfKey (tupleKind (Fz P w)))/\(xs.map (·.1)).Nodup
 | .set S n=>h.SetOf (intKind P w) a S n
 | .ins C dx fs=>H dx=Gc (.own a)/\fs.length<=1000/\dx≠a/\h.get? a=Gc (uu C dx)/\
    ∃mA,h.Ns1 dx mA/\(∀f,Px (fs.lookup f) (mA f))/\PySem.Within mA (fs.map (·.1))
 | .own _=>∃o,h.get? a=Gc o
 | .xd fs=>∃mA,h.Ns1 a mA/\∀f,Px (fs.lookup f) (mA f)
 | .rng lo hi=>∃t u v,h.get? a=Gc {cls:=.type "range",data:=.fields #[.int lo t,.int hi u,.int 1 v]}
 | .frz o u=>h.get? a=Gc o/\D1 H h a u
 | .tbl ps=>h.get? a=Gc {cls:=.none,data:=.fields ps}
 | .met f x=>h.get? a=Gc (yK (.ref f) (.ref x))
 | .ext φ=>φ h/\(∃o,h.get? a=Gc o)/\∀h1 h2:tS,φ h1->(∀o,h1.get? a=Gc o->h2.get? a=Gc o)->φ h2
def HOk(H:Hp)(h:tS):Prop:=∀a o,H a=Gc o->D1 P w H h a o
end
section
variable{P:sx}{w:uL}{H H':Hp}{h h':tS}{a:rL}{o:HO}
def D1.lt(x:D1 P w H h a o):a<h.objs.size:=by
 cases o with
 |lst xs=>obtain⟨_,_,_,_,e⟩:=x;exact rR e
 |tup xs=>obtain⟨_,_,_,p⟩:=x;exact p.lt
 |dK kvs=>obtain⟨_,_,_,_,o,_,_,e,_⟩:=x;exact rR e
 |dT kvs=>obtain⟨_,_,_,_,o,_,_,e,_⟩:=x;exact rR e
 |set S n=>obtain⟨o,_,_,_,e,_⟩:=x;exact rR e
 |ins C dx fs=>obtain⟨_,_,_,e,_⟩:=x;exact rR e
 |own y=>obtain⟨_,e⟩:=x;exact rR e
 |xd fs=>obtain⟨_,⟨_,_,_,e,_⟩,_⟩:=x;exact rR e
 |rng lo hi=>obtain⟨_,_,_,e⟩:=x;exact rR e
 |frz ob u=>obtain⟨e,_⟩:=x;exact rR e
 |tbl ps=>exact rR (show h.get? a=Gc _ from x)
 |met f y=>exact rR (show h.get? a=Gc _ from x)
 |ext φ=>obtain⟨_,⟨_,e⟩,_⟩:=x;exact rR e
theorem Paired.nC{α β:Type}{F G:α->β->Prop}:∀{l₁} {l₂:Wp β},Paired F l₁ l₂->(∀a b,F a b->G a b)->Paired G l₁ l₂
 |_,_,.nil,_=>.nil
 |_,_,.cons r t,f=>.cons (f _ _ r) (Paired.nC t f)
def D1.WH(x:D1 P w H h a o)(k:∀b u,(b=a\/H b=Gc (.own a))->h.get? b=Gc u->h'.get? b=Gc u)(ho:∀b,H b=Gc (.own a)->H' b=Gc (.own a))(ht:∀b xs,H b=Gc (.tup xs)->H' b=Gc (.tup xs)):D1 P w H' h' a o:=by
 induction o with
 |lst xs=>obtain⟨z,its,n,r,e⟩:=x;exact⟨z,its,n,r,k _ _ (.inl rfl) e⟩
 |tup xs=>obtain⟨z,its,r,ob,e,c⟩:=x;exact⟨z,its,r,ob,k _ _ (.inl rfl) e,c⟩
 |dK kvs=>obtain⟨z,y,vs,r,ob,es,ep,e,c⟩:=x;exact⟨z,y,vs,r,ob,es,ep,k _ _ (.inl rfl) e,c⟩
 |dT kvs=>
  obtain⟨z,y,xs,r,ob,es,ep,e,c⟩:=x
  exact⟨z,y,xs,Paired.nC r λp q z=>⟨z.1,ht _ _ z.2.1,z.2.2⟩,ob,es,ep,k _ _ (.inl rfl) e,c⟩
 |set S n=>obtain⟨ob,es,ep,t,e,c⟩:=x;exact⟨ob,es,ep,t,k _ _ (.inl rfl) e,c⟩
 |ins C dx fs=>
  obtain⟨d,z,ne,e,mA,⟨od,es,ep,e2,c⟩,r⟩:=x
  exact⟨ho _ d,z,ne,k _ _ (.inl rfl) e,mA,⟨od,es,ep,k _ _ (.inr d) e2,c⟩,r⟩
 |own y=>obtain⟨ob,e⟩:=x;exact⟨ob,k _ _ (.inl rfl) e⟩
 |xd fs=>obtain⟨mA,⟨od,es,ep,e,c⟩,r⟩:=x;exact⟨mA,⟨od,es,ep,k _ _ (.inl rfl) e,c⟩,r⟩
 |rng lo hi=>obtain⟨t,u,v,e⟩:=x;exact⟨t,u,v,k _ _ (.inl rfl) e⟩
 |frz ob u ih=>obtain⟨e,q⟩:=x;exact⟨k _ _ (.inl rfl) e,ih q⟩
 |tbl ps=>
  have e:h.get? a=Gc {cls:=.none,data:=.fields ps}:=x
  show h'.get? a=Gc {cls:=.none,data:=.fields ps}
  exact k a _ (.inl rfl) e
 |met f y=>
  have e:h.get? a=Gc (yK (.ref f) (.ref y)):=x
  show h'.get? a=Gc (yK (.ref f) (.ref y))
  exact k a _ (.inl rfl) e
 |ext φ=>obtain⟨p,⟨o,e⟩,st⟩:=x;exact⟨st _ _ p λo q=>k _ _ (.inl rfl) q,⟨o,k _ _ (.inl rfl) e⟩,st⟩
def HOk.lt(x:HOk P w H h)(e:H a=Gc o):a<h.objs.size:=(x a o e).lt
def HOk.fresh(x:HOk P w H h)(e:h.objs.size<=a):H a=none:=by
 cases q:H a with
 |none=>rfl
 |some u=>exact absurd (qw (x.lt q) e) (tW _)
def HOk.kept(x:HOk P w H h)(k:∀b u,h.get? b=Gc u->h'.get? b=Gc u):HOk P w H h':=λa o e=>
 (x a o e).WH (λb u _ q=>k b u q) (λ_ q=>q) λ_ _ q=>q
def HOk.laid(x:HOk P w H h)(k:∀b u,h.get? b=Gc u->h'.get? b=Gc u)(hp:h.objs.size<=a)(new:D1 P w (upd H a o) h' a o):HOk P w (upd H a o) h':=λb u e=>by
 have hn:=x.fresh hp
 by_cases hb:b=a
 .subst hb;rw[Ax]at e;cases e;exact new
 .rw[Ae hb]at e
  exact(x b u e).WH (λc v _ q=>k c v q) (λc q=>by rw[Ae (BL q hn)];exact q) λc xs q=>by rw[Ae (BL q hn)];exact q
end
def Rd(H:Hp)(a:rL)(u:HO):Prop:=H a=Gc u\/∃o,H a=Gc (.frz o u)
def Rd.ok(r:Rd H a u)(x:HOk P w H h):D1 P w H h a u:=by
 rcases r with r|⟨o,r⟩
 .exact x a u r
 .obtain⟨_,q⟩:=x a _ r
  exact q
def Mut:qz HO->Prop
 |some (.lst _)=>xy
 |some (.dK _)=>xy
 |some (.dT _)=>xy
 |some (.set _ _)=>xy
 |some (.ins _ _ _)=>xy
 |some (.ext _)=>xy
 |_=>uO
section
variable{P:sx}{w:uL}{H:Hp}{h h':tS}{x e:rL}{o':HO}
def HOk.write(ok:HOk P w H h)(mu:Mut (H x))(he:e=x\/H e=Gc (.own x))(k:∀b u,b≠e->h.get? b=Gc u->h'.get? b=Gc u)(heo:∃u,h'.get? e=Gc u)(new:D1 P w (upd H x o') h' x o'):HOk P w (upd H x o') h':=λb u q=>by
 have nown:∀c y,H c=Gc (.own y)->c≠x:=λc y r z=>by subst z;rw[r]at mu;exact mu
 have ntup:∀c xs,H c=Gc (.tup xs)->c≠x:=λc xs r z=>by subst z;rw[r]at mu;exact mu
 by_cases hb:b=x
 .subst hb;rw[Ax]at q;cases q;exact new
 .rw[Ae hb]at q
  by_cases hbe:b=e
  .have q':H b=Gc (.own x):=by
    rcases he with z|z
    .exact absurd (hbe.trans z) hb
    .rw[hbe];exact z
   rw[q]at q';cases q'
   obtain⟨v,hv⟩:=heo
   exact⟨v,by rw[hbe];exact hv⟩
  .refine(ok b u q).WH (λc v hc r=>k c v ?_ r) (λc r=>by rw[Ae (nown c b r)];exact r) λc xs r=>by rw[Ae (ntup c xs r)];exact r
   rcases hc with rfl|hc
   .exact hbe
   .rintro rfl
    rcases he with z|z
    .exact nown c b hc z
    .rw[hc]at z;cases z;exact hb rfl
end
structure Un(fs ex:Wp rL)(H H':Hp)(h h':tS):Prop where
 keep:∀b o,h.get? b=Gc o->H b=none->b∉fs->b∉ex->h'.get? b=Gc o
 slot:∀b o,h.get? b=Gc o->H b=none->b∈fs->b∉ex->∃sl,h'.get? b=Gc {o with slots:=sl}
 free:∀b o,h.get? b=Gc o->H b=none->b∉ex->H' b=none
 there:∀b o,h.get? b=Gc o->b∉ex->∃o',h'.get? b=Gc o'
 X3:∀b xs,H b=Gc (.tup xs)->H' b=Gc (.tup xs)
 TQ:∀b o u,H b=Gc (.frz o u)->H' b=Gc (.frz o u)
 WJ:∀b ps,H b=Gc (.tbl ps)->∃more,H' b=Gc (.tbl (ps++more))
section
variable{fs fs' ex ex':Wp rL}{H H1 H2:Hp}{h h1 h2 h':tS}{a x e:rL}{o:HO}
def Un.any(u:Un fs ex H H1 h h1){b:rL}{ob:Obj}(q:h.get? b=Gc ob)(n:H b=none)(hx:b∉ex):∃sl,h1.get? b=Gc {ob with slots:=sl}:=by
 by_cases hb:b∈fs
 .exact u.slot b ob q n hb hx
 .exact⟨ob.slots,u.keep b ob q n hb hx⟩
def Un.kept(k:∀b u,h.get? b=Gc u->h'.get? b=Gc u):Un fs ex H H h h':=
 ⟨λb ob q _ _ _=>k b ob q,λb ob q _ _ _=>⟨ob.slots,k b ob q⟩,λ_ _ _ n _=>n,λb ob q _=>⟨ob,k b ob q⟩,λ_ _ q=>q,λ_ _ _ q=>q,λ_ ps q=>⟨#[],by rw[q];simp⟩⟩
def Un.refl:Un fs ex H H h h:=Un.kept λ_ _ q=>q
theorem Un.laid(k:∀b u,h.get? b=Gc u->h'.get? b=Gc u)(hp:h.objs.size<=a)(hn:H a=none):Un fs ex H (upd H a o) h h' where
 keep:=λb u q _ _ _=>k b u q
 slot:=λb u q _ _ _=>⟨u.slots,k b u q⟩
 free:=λb u q n _=>by rw[Ae (sM (qw (rR q) hp))];exact n
 there:=λb u q _=>⟨u,k b u q⟩
 X3:=λb xs q=>by rw[Ae (BL q hn)];exact q
 TQ:=λb u xs q=>by rw[Ae (BL q hn)];exact q
 WJ:=λb ps q=>⟨#[],by rw[Ae (BL q hn),q];simp⟩
def Un.write(mu:Mut (H x))(he:e=x\/H e=Gc (.own x))(k:∀b u,b≠e->h.get? b=Gc u->h'.get? b=Gc u)(heo:∃u,h'.get? e=Gc u):Un fs ex H (upd H x o) h h':=by
 have hx:∀b,H b=none->b≠x:=λb n z=>by subst z;rw[n]at mu;exact mu
 have hb:∀b,H b=none->b≠e:=λb n z=>by
  subst z
  rcases he with r|r
  .exact hx b n r
  .rw[n]at r;cases r
 have hm:∀b u,H b=Gc u->¬Mut (Gc u)->b≠x:=λb u q nm z=>by subst z;rw[q]at mu;exact nm mu
 refine⟨λb u q n _ _=>k b u (hb b n) q,λb u q n _ _=>⟨u.slots,k b u (hb b n) q⟩,λb u q n _=>by rw[Ae (hx b n)];exact n,λb u q _=>?_,
  λb xs q=>by rw[Ae (hm b _ q λz=>z)];exact q,λb u xs q=>by rw[Ae (hm b _ q λz=>z)];exact q,λb ps q=>⟨#[],by rw[Ae (hm b _ q λz=>z),q];simp⟩⟩
 by_cases hbe:b=e
 .subst hbe;exact heo
 .exact⟨u,k b u hbe q⟩
end
noncomputable def trk(h:tS)(H:Hp):Wp rL:=(tm h.objs.size).filter λa=>(H a).isSome
noncomputable def V9(h:tS)(H:Hp):tS:=PySem.W.hideAll h (trk h H)
def Uu(h:tS)(H:Hp):(V9 h H).objs.size=h.objs.size:=PySem.W.hideAll_size _ _
def Xo{o:Obj}(e:h.get? b=Gc o)(n:H b=none):(V9 h H).get? b=Gc o:=
 PySem.W.hideAll_get _ e λhm=>by
  have q:(H b).isSome=true:=(wR.mp hm).2
  rw[n]at q;simp at q
def Z6{o:Obj}(e:(V9 h H).get? b=Gc o):h.get? b=Gc o/\H b=none:=by
 have e':h.get? b=Gc o:=PySem.W.of_hideAll (trk h H) e
 refine⟨e',?_⟩
 cases q:H b with
 |none=>rfl
 |some x=>
  have hm:b∈trk h H:=wR.mpr ⟨x5.mpr (rR e'),by simp[q]⟩
  have z:(V9 h H).get? b=none:=PySem.W.hideAll_none (trk h H) hm
  rw[z]at e;cases e
noncomputable def cQ(g h:tS)(L:rL):Wp (rL×Obj):=(tm h.objs.size).filterMap λa=>if a=L\/(g.get? a).isSome=true then none else(h.get? a).map λo=>(a,o)
noncomputable def rest(g h:tS)(L d:rL):Wp (rL×Obj):=(cQ g h L).filter λp=>decide (p.1≠d)
end L2
namespace L2
open PySem PySem.Spec PyProof.Rows
structure Mod(K:W1)(mg:Str->qz rD)(base:tS):Prop where
 kin:K.In base
 glob:base.Ns mainGlobals mg
 blt:∃mb,base.Ns builtinsNs mb/\∀x:Str,x≠ "__name__"->mb x=bootBuiltins x
 nolimit:base.NoLimit
structure Cx where
 prog:sx
 w:uL
 K:W1
 mg:Str->qz rD
 base:tS
 A:ux
 N:Wp Str
 s₀:rP
 H₀:Hp
 env:Env
 outer:Wp Env
 stack:Wp Env
 ex:Wp rL
 fn:Str->su
 calm:su
 pn:Wp (rL×Obj)
 xe:rD->rP->Prop
noncomputable def frs(l:Wp Env):Wp rL:=l.filterMap (·.frame)
abbrev Cx.fs(X:Cx):Wp rL:=frs X.outer
def Vis(sc:uf)(x:Str):Prop:=sc.names.lookup x=Gc .local\/sc.names.lookup x=Gc .cell\/sc.names.lookup x=Gc .free
def Loc(sc:uf)(x:Str):Prop:=sc.names.lookup x=Gc .local\/sc.names.lookup x=Gc .cell
def Look(env:Env)(h:tS)(m:Str->qz rD)(x:Str)(u:rD):Prop:=
 (env.kindOf x=Gc .local/\m x=Gc u)\/((env.kindOf x=Gc .cell\/env.kindOf x=Gc .free)/\∃c,env.cells.lookup x=Gc c/\h.IsCell c (Gc u))
structure Cx.Ok(X:Cx):Prop where
 mod:Mod X.K X.mg X.base
 kind:X.env.scope.kind=.function
 glob:X.env.globals=mainGlobals
 blt:X.env.builtins=builtinsNs
 above:X.s₀.heap.objs.size<=X.env.locals
 inj:∀x y c,X.env.cells.lookup x=Gc c->X.env.cells.lookup y=Gc c->x=y
 has:∀x,(X.env.kindOf x=Gc .cell\/X.env.kindOf x=Gc .free)->∃c,X.env.cells.lookup x=Gc c
 cab:∀x c,X.fn x=true->X.env.cells.lookup x=Gc c->X.s₀.heap.objs.size<=c
 hd:X.calm=true->X.A.handled=none
 frames:X.A.frames=Gc X.stack
 stk:X.stack=X.outer\/(X.stack=X.env::X.outer/\X.env.frame=Gc X.env.locals)
 exf:∀b∈X.ex,b≠X.env.locals/\∀x c,X.env.cells.lookup x=Gc c->c≠b
 bs:∀b o,X.base.get? b=Gc o->X.s₀.heap.get? b=Gc o/\X.H₀ b=none
 bsz:X.base.objs.size<=X.s₀.heap.objs.size
 ZG:∀b o,X.base.get? b=Gc o->b∉X.ex
 aU:∀b∈X.ex,b∉X.fs
 QM:X.s₀.heap.FunFrames X.base X.outer
 frf:∀b∈X.fs,X.H₀ b=none
structure Inv(X:Cx)(pins:Wp (rL×Obj))(σ:Wp (qz V))(H:Hp)(s:rP):Prop where
 ok:X.Ok
 os:s.os=X.s₀.os
 bare:wd s.gens
 base:Un X.fs X.ex X.H₀ H X.s₀.heap s.heap
 loc:∃m,s.heap.Ns X.env.locals m/\∀(i:Nat) (x:Str) (v:V),X.N[i]?=Gc x->σ[i]?=Gc (Gc v)->Vis X.env.scope x->∃u,RelV v u/\Look X.env s.heap m x u
 cell:∀x c,X.env.cells.lookup x=Gc c->∃v,s.heap.IsCell c v
 free:H X.env.locals=none
 Ji:∀x c,X.env.cells.lookup x=Gc c->H c=none
 pin:∀p∈X.pn++pins,s.heap.get? p.1=Gc p.2/\H p.1=none/\p.1≠X.env.locals/\p.1∉X.fs/\∀v,p.2.data≠.cell v
 hok:HOk X.prog X.w H s.heap
 len:σ.length=X.N.length
section
variable{X:Cx}{pins:Wp (rL×Obj)}{σ:Wp (qz V)}{H H':Hp}{s:rP}{h':tS}
def Cx.Ok.pU(ok:X.Ok){b:rL}{o:Obj}(e:X.base.get? b=Gc o):b∉X.fs:=λhb=>by
 have:=(ok.QM.mem hb).1
 rw[e]at this;cases this
def Inv.bs(I:Inv X pins σ H s):∀b o,X.base.get? b=Gc o->s.heap.get? b=Gc o/\H b=none:=λb o e=>
 ⟨I.base.keep b o (I.ok.bs b o e).1 (I.ok.bs b o e).2 (I.ok.pU e) (I.ok.ZG b o e),I.base.free b o (I.ok.bs b o e).1 (I.ok.bs b o e).2 (I.ok.ZG b o e)⟩
def Inv.bk(I:Inv X pins σ H s):∀b o,X.base.get? b=Gc o->s.heap.get? b=Gc o:=λb o e=>(I.bs b o e).1
def Inv.mod(I:Inv X pins σ H s):Mod X.K X.mg X.base:=I.ok.mod
def Inv.kIn(I:Inv X pins σ H s):X.K.In s.heap:=I.ok.mod.kin.keeps I.bk
def Inv.nolimit(I:Inv X pins σ H s):s.heap.NoLimit:=I.ok.mod.nolimit.keeps I.bk
def Inv.lt(I:Inv X pins σ H s):X.env.locals<s.heap.objs.size:=let⟨_,hn,_⟩:=I.loc;hn.lt
def Inv.sz(I:Inv X pins σ H s):X.s₀.heap.objs.size<=s.heap.objs.size:=q8 I.ok.above (uy I.lt)
def Inv.qU(I:Inv X pins σ H s){a:rL}(h:s.heap.objs.size<=a):a∉X.fs:=λhb=>by
 obtain⟨_,o,ho,_⟩:=I.ok.QM.mem hb
 exact absurd (qw (rR ho) (q8 I.sz h)) (tW _)
def Inv.cne(I:Inv X pins σ H s):∀x c,X.env.cells.lookup x=Gc c->c≠X.env.locals:=λx c e z=>by
 obtain⟨v,o,ho,hd⟩:=I.cell x c e
 obtain⟨m,⟨o',es,ep,ho',hd',_⟩,_⟩:=I.loc
 rw[z,ho']at ho;cases ho;rw[hd']at hd;cases hd
def Inv.QM(I:Inv X pins σ H s):s.heap.FunFrames X.base X.outer:=by
 have all:∀(l:Wp Env),(∀b∈frs l,b∈X.fs)->X.s₀.heap.FunFrames X.base l->s.heap.FunFrames X.base l:=by
  intro l
  induction l with
  |nil=>intro _ _;trivial
  |cons env r ih=>
   intro hs hl
   obtain⟨hk,⟨L,o,hf,hn,ho,hd⟩,hr⟩:=hl
   have hL:L∈X.fs:=hs L (by unfold frs;rw[se,hf];exact rM)
   obtain⟨sl,e⟩:=I.base.slot L o ho (I.ok.frf L hL) hL λz=>I.ok.aU L z hL
   exact⟨hk,⟨L,_,hf,hn,e,hd⟩,ih (λb hb=>hs b (by unfold frs;rw[se,hf];exact rC _ hb)) hr⟩
 exact all X.outer (λ_ hb=>hb) I.ok.QM
def Inv.stack(I:Inv X pins σ H s):s.heap.FunFrames X.base X.stack:=by
 rcases I.ok.stk with e|⟨e,hf⟩
 .rw[e];exact I.QM
 .rw[e]
  obtain⟨m,hn,_⟩:=I.loc
  refine .cons (by rw[I.ok.kind];decide) hf hn ?_ I.QM
  exact Heap.get?_none_of_le (q8 I.ok.bsz I.ok.above)
def Inv.Ui(I:Inv X pins σ H s):∀b∈frs X.stack,b∈X.env.locals::X.fs:=λb hb=>by
 rcases I.ok.stk with e|⟨e,hf⟩
 .rw[e]at hb;exact rC _ hb
 .rw[e]at hb
  unfold frs at hb
  rw[se,hf]at hb
  exact hb
def Inv.QQ(I:Inv X pins σ H s):∀b∈frs X.stack,H b=none:=λb hb=>by
 rcases qy.mp (I.Ui b hb)with e|hb
 .rw[e];exact I.free
 .obtain⟨_,o,ho,_⟩:=I.ok.QM.mem hb
  exact I.base.free b o ho (I.ok.frf b hb) λz=>I.ok.aU b z hb
def Inv.step{ch:Wp rL}(I:Inv X pins σ H s)(hch:∀b∈ch,(b∈X.ex\/X.s₀.heap.objs.size<=b)/\b≠X.env.locals/\(∀x c,X.env.cells.lookup x=Gc c->c≠b)/\∀p∈X.pn++pins,p.1≠b)(keep:∀b o,b≠X.env.locals->b∉X.fs->b∉ch->s.heap.get? b=Gc o->H b=none->h'.get? b=Gc o)(slot:∀b o,b≠X.env.locals->b∈X.fs->b∉ch->s.heap.get? b=Gc o->H b=none->∃sl,h'.get? b=Gc {o with slots:=sl})(free:∀b o,b∉ch->s.heap.get? b=Gc o->H b=none->H' b=none)(there:∀b o,b∉ch->s.heap.get? b=Gc o->∃o',h'.get? b=Gc o')(X3:∀b xs,H b=Gc (.tup xs)->H' b=Gc (.tup xs))(TQ:∀b o u,H b=Gc (.frz o u)->H' b=Gc (.frz o u))(WJ:∀b ps,H b=Gc (.tbl ps)->∃more,H' b=Gc (.tbl (ps++more)))(ns:∀m,s.heap.Ns X.env.locals m->h'.Ns X.env.locals m)(hok:HOk X.prog X.w H' h')(hg:wd g'):Inv X pins σ H' {s with heap:=h',gens:=g',drawn:=d',toks:=t'}:=by
 have neL:∀b o,X.s₀.heap.get? b=Gc o->b≠X.env.locals:=λb o e=>sM (qw (rR e) I.ok.above)
 have neC:∀b o,X.s₀.heap.get? b=Gc o->b∉X.ex->b∉ch:=λb o e hx hb=>by
  rcases(hch b hb).1 with z|z
  .exact hx z
  .exact absurd (qw (rR e) z) (tW _)
 have cellK:∀x c,X.env.cells.lookup x=Gc c->∀v,s.heap.IsCell c v->h'.IsCell c v:=λx c e v ⟨o,ho,hd⟩=>by
  have nch:c∉ch:=λz=>(hch c z).2.2.1 x c e rfl
  by_cases hc:c∈X.fs
  .obtain⟨sl,q⟩:=slot c o (I.cne x c e) hc nch ho (I.Ji x c e)
   exact⟨_,q,hd⟩
  .exact⟨o,keep c o (I.cne x c e) hc nch ho (I.Ji x c e),hd⟩
 refine⟨I.ok,I.os,hg,⟨λb o e n hb hx=>?_,λb o e n hb hx=>?_,λb o e n hx=>?_,λb o e hx=>?_,λb xs e=>X3 b xs (I.base.X3 b xs e),λb o xs e=>TQ b o xs (I.base.TQ b o xs e),λb ps e=>?_⟩,?_,λx c e=>?_,?_,λx c e=>?_,λp hp=>?_,hok,I.len⟩
 .exact keep b o (neL b o e) hb (neC b o e hx) (I.base.keep b o e n hb hx) (I.base.free b o e n hx)
 .obtain⟨sl,e1⟩:=I.base.slot b o e n hb hx
  obtain⟨sl',e2⟩:=slot b _ (neL b o e) hb (neC b o e hx) e1 (I.base.free b o e n hx)
  exact⟨sl',e2⟩
 .obtain⟨o',e1⟩:=I.base.there b o e hx
  exact free b o' (neC b o e hx) e1 (I.base.free b o e n hx)
 .obtain⟨o',e1⟩:=I.base.there b o e hx
  exact there b o' (neC b o e hx) e1
 .obtain⟨m1,e1⟩:=I.base.WJ b ps e
  obtain⟨m2,e2⟩:=WJ b _ e1
  exact⟨m1++m2,by rw[e2,Array.append_assoc]⟩
 .obtain⟨m,hn,hl⟩:=I.loc
  refine⟨m,ns m hn,λi x v e1 e2 e3=>?_⟩
  obtain⟨u,r,l⟩:=hl i x v e1 e2 e3
  refine⟨u,r,?_⟩
  rcases l with l|⟨k,c,e,z⟩
  .exact .inl l
  .exact .inr ⟨k,c,e,cellK x c e _ z⟩
 .obtain⟨v,z⟩:=I.cell x c e
  exact⟨v,cellK x c e v z⟩
 .obtain⟨m,⟨o,_,_,ho,_⟩,_⟩:=I.loc
  exact free _ o (λz=>(hch _ z).2.1 rfl) ho I.free
 .obtain⟨v,o,ho,hd⟩:=I.cell x c e
  exact free c o (λz=>(hch c z).2.2.1 x c e rfl) ho (I.Ji x c e)
 .obtain⟨e,n,ne,nf,d⟩:=I.pin p hp
  have nch:p.1∉ch:=λz=>(hch p.1 z).2.2.2 p hp rfl
  exact⟨keep p.1 p.2 ne nf nch e n,free p.1 p.2 nch e n,ne,nf,d⟩
def Inv.un{t':Nat}(I:Inv X pins σ H s)(u:Un X.fs [] H H' s.heap h')(hok:HOk X.prog X.w H' h'):Inv X pins σ H' {s with heap:=h',toks:=t'}:=by
 obtain⟨m,⟨o,es,ep,ho,r⟩,_⟩:=id I.loc
 obtain⟨sl,hL⟩:=u.any ho I.free (by simp)
 exact I.step (g':=s.gens) (d':=s.drawn) (ch:=[]) (λ_ z=>nomatch z) (λb o _ hb _ e n=>u.keep b o e n hb (by simp)) (λb o _ hb _ e n=>u.slot b o e n hb (by simp)) (λb o _ e n=>u.free b o e n (by simp)) (λb o _ e=>u.there b o e (by simp)) u.X3 u.TQ u.WJ (λm' hm=>by
  obtain⟨o',es',ep',ho',r'⟩:=hm
  rw[ho]at ho';cases ho'
  exact⟨_,es',ep',hL,r'⟩) hok I.bare
def Inv.call{ch:Wp rL}(I:Inv X pins σ H s)(u:Un (frs X.stack) ch H H' s.heap h')(hok:HOk X.prog X.w H' h')(hg:wd g')(hch:∀b∈ch,(b∈X.ex\/X.s₀.heap.objs.size<=b)/\b≠X.env.locals/\(∀x c,X.env.cells.lookup x=Gc c->c≠b)/\∀p∈X.pn++pins,p.1≠b):Inv X pins σ H' {s with heap:=h',gens:=g',drawn:=d',toks:=t'}:=by
 obtain⟨m,⟨o,es,ep,ho,r⟩,_⟩:=id I.loc
 obtain⟨sl,hL⟩:=u.any ho I.free λz=>(hch _ z).2.1 rfl
 exact I.step (ch:=ch) hch (λb o hL hb hc e n=>u.keep b o e n (λz=>(qy.mp (I.Ui b z)).elim hL hb) hc) (λb o _ _ hc e n=>u.any e n hc) (λb o hc e n=>u.free b o e n hc) (λb o hc e=>u.there b o e hc) u.X3 u.TQ u.WJ (λm' hm=>by
  obtain⟨o',es',ep',ho',r'⟩:=hm
  rw[ho]at ho';cases ho'
  exact⟨_,es',ep',hL,r'⟩) hok hg
def Inv.turned{t':Nat}{it:rL}(I:Inv X pins σ H s)(k:∀b o,b≠it->s.heap.get? b=Gc o->h'.get? b=Gc o)(hn:H it=none)(hL:it≠X.env.locals)(h1:it∈X.ex\/X.s₀.heap.objs.size<=it)(h2:∀x c,X.env.cells.lookup x=Gc c->c≠it)(h3:∀p∈X.pn++pins,p.1≠it):Inv X pins σ H {s with heap:=h',toks:=t'}:=by
 have nit:∀b u,H b=Gc u->b≠it:=λb u e z=>by rw[z,hn]at e;cases e
 refine I.step (g':=s.gens) (d':=s.drawn) (ch:=[it]) (λb hb=>?_) (λb o _ _ hc e _=>k b o (λz=>hc (by simp[z])) e) (λb o _ _ hc e _=>⟨o.slots,k b o (λz=>hc (by simp[z])) e⟩) (λ_ _ _ _ n=>n)
  (λb o hc e=>⟨o,k b o (λz=>hc (by simp[z])) e⟩) (λ_ _ e=>e) (λ_ _ _ e=>e) (λb ps e=>⟨#[],by rw[e];simp⟩) (λm hm=>?_) (λb u e=>?_) I.bare
 .have e:b=it:=by simpa using hb
  subst e
  exact⟨h1,hL,h2,h3⟩
 .obtain⟨o,es,ep,ho,r⟩:=hm
  exact⟨o,es,ep,k _ o (tu hL) ho,r⟩
 .refine(I.hok b u e).WH (λc v hc q=>k c v ?_ q) (λ_ q=>q) λ_ _ q=>q
  rcases hc with z|z
  .rw[z];exact nit b u e
  .exact nit c _ z
def Inv.tok(I:Inv X pins σ H s)(t:Nat):Inv X pins σ H {s with toks:=t}:=I.un (h':=s.heap) (t':=t) Un.refl I.hok
def Inv.kept{t':Nat}(I:Inv X pins σ H s)(k:∀b u,s.heap.get? b=Gc u->h'.get? b=Gc u):Inv X pins σ H {s with heap:=h',toks:=t'}:=I.un (Un.kept k) (I.hok.kept k)
def Inv.laid{a:rL}{t':Nat}(I:Inv X pins σ H s)(k:∀b u,s.heap.get? b=Gc u->h'.get? b=Gc u)(hp:s.heap.objs.size<=a)(new:D1 X.prog X.w (upd H a o) h' a o):Inv X pins σ (upd H a o) {s with heap:=h',toks:=t'}:=I.un (Un.laid k hp (I.hok.fresh hp)) (I.hok.laid k hp new)
def Inv.write{t':Nat}(I:Inv X pins σ H s)(mu:Mut (H x))(he:e=x\/H e=Gc (.own x))(k:∀b u,b≠e->s.heap.get? b=Gc u->h'.get? b=Gc u)(heo:∃u,h'.get? e=Gc u)(new:D1 X.prog X.w (upd H x o) h' x o):Inv X pins σ (upd H x o) {s with heap:=h',toks:=t'}:=I.un (Un.write mu he k heo) (I.hok.write mu he k heo new)
def Inv.V5{pins':Wp (rL×Obj)}(I:Inv X pins σ H s)(h:∀p∈pins',s.heap.get? p.1=Gc p.2/\H p.1=none/\p.1≠X.env.locals/\p.1∉X.fs/\∀v,p.2.data≠.cell v):Inv X pins' σ H s:=
 ⟨I.ok,I.os,I.bare,I.base,I.loc,I.cell,I.free,I.Ji,λp hp=>(rf.mp hp).elim (λz=>I.pin p (vv _ z)) (h p),I.hok,I.len⟩
def Qx{N:Wp Str}(hN:N.Nodup){i j:Nat}{x:Str}(a:N[i]?=Gc x)(b:N[j]?=Gc x):i=j:=by
 obtain⟨h1,e1⟩:=rB.mp a
 obtain⟨h2,e2⟩:=rB.mp b
 exact(List.getElem_inj hN).mp (e1.trans e2.symm)
def PZ(I:Inv X pins σ H s)(hN:X.N.Nodup)(hi:X.N[i]?=Gc x)(hx:Loc X.env.scope x)(r:RelV v u)(h:∀s',Inv X pins (σ.set i (Gc v)) H s'->(∃a,wm a s.heap s'.heap/\(a=X.env.locals\/X.env.cells.lookup x=Gc a))->Q () s')(hf:x0 (X.fn x=true\/X.env.scope.names.lookup x=Gc .local) xz):wpAny M A (storeName X.env x u) Q E s:=by
 obtain⟨m,hn,hl⟩:=id I.loc
 have hcls:(X.env.scope.kind== .class||(X.env.scope.kind== .module && X.env.locals !=X.env.globals))=false:=by rw[I.ok.kind];rfl
 have hiσ:i<σ.length:=by rw[I.len];exact(rB.mp hi).1
 have cne:=I.cne
 have tracked:∀{a:rL} {h':tS},(∃o,s.heap.get? a=Gc o/\H a=none)->wm a s.heap h'->HOk X.prog X.w H h':=λ{a h'} ha hs b ob e=>by
  obtain⟨_,_,hfree⟩:=ha
  refine(I.hok b ob e).WH (λc w' hc q=>(hs.2 c ?_).trans q) (λ_ q=>q) λ_ _ q=>q
  rintro rfl
  rcases hc with rfl|hc
  .rw[hfree]at e;cases e
  .rw[hfree]at hc;cases hc
 rcases hx with hk|hk
 .refine wpAny_storeName_local hk hn (λh' hn' hs=>?_) hcls
  obtain⟨oL,_,_,hoL,_⟩:=id hn
  refine h _ ⟨I.ok,I.os,I.bare,⟨λb o e n hb hx=>?_,λb o e n hb hx=>?_,I.base.free,λb o e hx=>?_,I.base.X3,I.base.TQ,I.base.WJ⟩,⟨_,hn',λj y v' e1 e2 e3=>?_⟩,λy c e=>?_,I.free,I.Ji,λp hp=>?_,tracked ⟨oL,hoL,I.free⟩ hs,by simpa using I.len⟩ ⟨_,hs,.inl rfl⟩
  .exact(hs.2 b (sM (qw (rR e) I.ok.above))).trans (I.base.keep b o e n hb hx)
  .obtain⟨sl,e1⟩:=I.base.slot b o e n hb hx
   exact⟨sl,(hs.2 b (sM (qw (rR e) I.ok.above))).trans e1⟩
  .obtain⟨o',e1⟩:=I.base.there b o e hx
   exact⟨o',(hs.2 b (sM (qw (rR e) I.ok.above))).trans e1⟩
  .by_cases hj:j=i
   .subst hj
    rw[hi]at e1;cases e1
    rw[rF hiσ]at e2
    cases e2
    exact⟨u,r,.inl ⟨hk,by simp⟩⟩
   .rw[rA (tu hj)]at e2
    obtain⟨u',r',q⟩:=hl j y v' e1 e2 e3
    refine⟨u',r',?_⟩
    rcases q with⟨k,e⟩|⟨k,c,e,z⟩
    .refine .inl ⟨k,?_⟩
     have:y≠x:=λe=>hj (Qx hN e1 (e▸hi))
     simp[this,e]
    .exact .inr ⟨k,c,e,z.sameBut hs (cne y c e)⟩
  .obtain⟨w',z⟩:=I.cell y c e
   exact⟨w',z.sameBut hs (cne y c e)⟩
  .obtain⟨e,n,ne,nf,d⟩:=I.pin p hp
   exact⟨(hs.2 p.1 ne).trans e,n,ne,nf,d⟩
 .have hfn:X.fn x=true:=by
   rcases hf with z|z
   .exact z
   .rw[z]at hk;cases hk
  obtain⟨c,hc⟩:=I.ok.has x (.inl hk)
  obtain⟨w',z⟩:=I.cell x c hc
  refine wpAny_storeName_cell I.ok.kind hk hc z (λh' hc' hs=>?_)
  obtain⟨oc,hoc,hocd⟩:=id z
  refine h {s with heap:=h'} ⟨I.ok,I.os,I.bare,⟨λb o e n hb hx=>?_,λb o e n hb hx=>?_,I.base.free,λb o e hx=>?_,I.base.X3,I.base.TQ,I.base.WJ⟩,⟨m,hn.sameBut hs (tu (cne x c hc)),λj y v' e1 e2 e3=>?_⟩,λy c' e=>?_,I.free,I.Ji,λp hp=>?_,tracked ⟨oc,hoc,I.Ji x c hc⟩ hs,by simpa using I.len⟩ ⟨c,hs,.inr hc⟩
  .exact(hs.2 b (sM (qw (rR e) (I.ok.cab x c hfn hc)))).trans (I.base.keep b o e n hb hx)
  .obtain⟨sl,e1⟩:=I.base.slot b o e n hb hx
   exact⟨sl,(hs.2 b (sM (qw (rR e) (I.ok.cab x c hfn hc)))).trans e1⟩
  .obtain⟨o',e1⟩:=I.base.there b o e hx
   exact⟨o',(hs.2 b (sM (qw (rR e) (I.ok.cab x c hfn hc)))).trans e1⟩
  .by_cases hj:j=i
   .subst hj
    rw[hi]at e1;cases e1
    rw[rF hiσ]at e2
    cases e2
    exact⟨u,r,.inr ⟨.inl hk,c,hc,hc'⟩⟩
   .rw[rA (tu hj)]at e2
    obtain⟨u',r',q⟩:=hl j y v' e1 e2 e3
    refine⟨u',r',?_⟩
    rcases q with q|⟨k,c',e,z'⟩
    .exact .inl q
    .refine .inr ⟨k,c',e,z'.sameBut hs ?_⟩
     rintro rfl
     exact hj (Qx hN e1 (I.ok.inj _ _ _ e hc▸hi))
  .by_cases hcc:c'=c
   .subst hcc;exact⟨_,hc'⟩
   .obtain⟨w2,z2⟩:=I.cell y c' e
    exact⟨w2,z2.sameBut hs hcc⟩
  .obtain⟨e,n,ne,nf,d⟩:=I.pin p hp
   refine⟨(hs.2 p.1 ?_).trans e,n,ne,nf,d⟩
   intro q
   rw[q,hoc]at e
   have q':oc=p.2:=uJ e
   exact d w' (by rw[<-q'];exact hocd)
def K3(I:Inv X pins σ H s)(hN:X.N.Nodup)(hi:X.N[i]?=Gc x)(hx:Loc X.env.scope x)(r:RelV v u)(h:∀s',Inv X pins (σ.set i (Gc v)) H s'->Q () s')(hf:x0 (X.fn x=true\/X.env.scope.names.lookup x=Gc .local) xz):wpAny M A (storeName X.env x u) Q E s:=
 PZ I hN hi hx r (λs' I' _=>h s' I') hf
def Inv.UL{s':rP}{ch:Wp rL}(I:Inv X pins σ H s)(ho:s'.os=s.os)(u:Un (frs X.stack) ch H H' s.heap s'.heap)(hok:HOk X.prog X.w H' s'.heap)(hg:wd s'.gens)(hch:∀b∈ch,(b∈X.ex\/X.s₀.heap.objs.size<=b)/\b≠X.env.locals/\(∀x c,X.env.cells.lookup x=Gc c->c≠b)/\∀p∈X.pn++pins,p.1≠b):Inv X pins σ H' s':=by
 obtain⟨h',g',d',t',o'⟩:=s'
 have e:o'=s.os:=ho
 subst e
 exact I.call (g':=g') (t':=t') (d':=d') u hok hg hch
end
abbrev XK:=rD->qz rL->Hp->Prop
abbrev St:=Wp (qz V)
abbrev VK:=V->Hp->Prop
abbrev TE:=St->Hp->VK->Prop
abbrev TT:=St->Hp->(su->Hp->Prop)->Prop
abbrev TA:=St->Hp->(Wp V->Hp->Prop)->Prop
structure Ends where
 nx:St->Hp->Prop
 rt:VK
 bk:St->Hp->Prop:=λ_ _=>uO
 ct:St->Hp->Prop:=λ_ _=>uO
abbrev TS:=Ends->St->Hp->Prop
def EP(X:Cx)(pins:Wp (rL×Obj))(σ:St)(Q:VK)(u:rD)(s':rP):Prop:=∃v H',Inv X pins σ H' s'/\RelV v u/\Q v H'
def TP(X:Cx)(pins:Wp (rL×Obj))(σ:St)(Q:su->Hp->Prop)(b:su)(s':rP):Prop:=∃H',Inv X pins σ H' s'/\Q b H'
def AP(X:Cx)(pins:Wp (rL×Obj))(σ:St)(Q:Wp V->Hp->Prop)(us:Wp rD)(s':rP):Prop:=∃vs H',Inv X pins σ H' s'/\Vals vs us/\Q vs H'
def SP(X:Cx)(pins:Wp (rL×Obj))(D:Ends)(f:Flow)(s':rP):Prop:=
 match f with
 | .next=>∃σ' H',Inv X pins σ' H' s'/\D.nx σ' H'
 | .brk=>∃σ' H',Inv X pins σ' H' s'/\D.bk σ' H'
 | .cont=>∃σ' H',Inv X pins σ' H' s'/\D.ct σ' H'
 | .ret u=>∃v σ' H',Inv X pins σ' H' s'/\RelV v u/\D.rt v H'
def PE(X:Cx)(e:tF)(t:TE):Prop:=
 ∀(pins:Wp (rL×Obj)) (s:rP) (σ:St) (H:Hp) (Q:VK),Inv X pins σ H s->t σ H Q->wpAny (model X.prog X.w) X.A (eval e X.env) (EP X pins σ Q) X.xe s
def PT(X:Cx)(e:tF)(t:TT):Prop:=
 ∀(pins:Wp (rL×Obj)) (s:rP) (σ:St) (H:Hp) (Q:su->Hp->Prop),Inv X pins σ H s->t σ H Q->wpAny (model X.prog X.w) X.A (isTrue e X.env (eval e X.env)) (TP X pins σ Q) X.xe s
def PW(X:Cx)(e:tF)(t:TT):Prop:=
 ∀(whole:Sem rD) (pins:Wp (rL×Obj)) (s:rP) (σ:St) (H:Hp) (Q:su->Hp->Prop),Inv X pins σ H s->t σ H Q->wpAny (model X.prog X.w) X.A (isTrue e X.env whole) (TP X pins σ Q) X.xe s
def PW.pt{t:TT}(h:PW X e t):PT X e t:=h _
def PA(X:Cx)(es:Wp tF)(t:TA):Prop:=
 ∀(pos:Pos) (pins:Wp (rL×Obj)) (s:rP) (σ:St) (H:Hp) (Q:Wp V->Hp->Prop),Inv X pins σ H s->t σ H Q->wpAny (model X.prog X.w) X.A (spliced (backTo pos (rG es X.env))) (AP X pins σ Q) X.xe s
def PS(X:Cx)(st:sP)(t:TS):Prop:=
 ∀(pins:Wp (rL×Obj)) (s:rP) (σ:St) (H:Hp) (D:Ends),Inv X pins σ H s->t D σ H->wpAny (model X.prog X.w) X.A (exec st X.env) (SP X pins D) X.xe s
def PSs(X:Cx)(st:Wp sP)(t:TS):Prop:=
 ∀(pins:Wp (rL×Obj)) (s:rP) (σ:St) (H:Hp) (D:Ends),Inv X pins σ H s->t D σ H->wpAny (model X.prog X.w) X.A (execs st X.env) (SP X pins D) X.xe s
def thn{t:Sem α}{Q Q':α->rP->Prop}(h:wpAny M A t Q E s)(hQ:∀a s,Q a s->Q' a s):wpAny M A t Q' E s:=tq h hQ λ_ _ x=>x
end L2
namespace L2
open PySem PySem.Spec PyProof.Rows
section
variable{X:Cx}
noncomputable def qQ(i:Nat):TE:=λσ H Q=>∃v,σ[i]?=Gc (Gc v)/\Q v H
noncomputable def tC(v:V):TE:=λ_ H Q=>Q v H
def Oy{pos:Pos}(hN:X.N[i]?=Gc x)(hv:Vis X.env.scope x)(hd:x0 ((x==("__debug__":Str))=false) xL)(hcd:x0 ((x==("__classdict__":Str))=false) xL):PE X (.Name x pos) (qQ i):=by
 intro pins s σ H Q I h
 obtain⟨v,e,h⟩:=h
 obtain⟨m,hn,hl⟩:=I.loc
 obtain⟨u,r,l⟩:=hl i x v hN e hv
 have fin:EP X pins σ Q u s:=⟨v,H,I,r,h⟩
 rcases l with⟨hk,hm⟩|⟨hk,c,hc,hcell⟩
 .exact wpAny_Name (wpAny_loadName_local I.ok.kind hk hn hm fin) hd
 .rcases hk with hk|hk
  .exact wpAny_Name (wpAny_loadName_cell I.ok.kind hk hc hcell fin) hd
  .exact wpAny_Name (wpAny_loadName_free I.ok.kind hk hc hcell fin hcd) hd
def gM{i j pos}:PE X (.Constant (.int i) j pos) (tC (.int i)):=λ_ _ _ H _ I h=>wpAny_Constant_int ⟨.int i,H,I.tok _,⟨_,rfl⟩,h⟩
def lS{b j pos}:PE X (.Constant (.bool b) j pos) (tC (.bl b)):=λ_ _ _ H _ I h=>Constant_bool ⟨.bl b,H,I,rfl,h⟩
def fH{j pos}:PE X (.Constant .none j pos) (tC .non):=λ_ _ _ H _ I h=>Constant_none ⟨.non,H,I,rfl,h⟩
def eR{x j pos}:PE X (.Constant (.str x) j pos) (tC (.str x)):=λ_ _ _ H _ I h=>Calls.Constant_str ⟨.str x,H,I.tok _,⟨_,rfl⟩,h⟩
def Gl(X:Cx)(x:Str):Prop:=X.env.kindOf x=Gc .globalImplicit
def J3{s:rP}{σ:St}(I:Inv X pins σ H s)(hg:Gl X x)(hm:X.mg x=Gc u)(h:Q u s)(hd:x0 ((x==("__debug__":Str))=false) xL):wpAny (model X.prog X.w) X.A (eval (.Name x pos) X.env) Q E s:=
 vw I.ok.kind hg (ya (by rw[I.ok.glob];exact I.mod.glob.keeps I.bk) hm h) hd
def Mr{E:rD->rP->Prop}{σ:St}{u:rD}{pos:Pos}(I:Inv X pins σ H s)(hg:Gl X x)(hm:X.mg x=none)(hv:bootBuiltins x=Gc u)(h:Q u s)(hn:x0 (x≠ "__name__") xL)(hd:x0 ((x==("__debug__":Str))=false) xL):wpAny (model X.prog X.w) X.A (eval (.Name x pos) X.env) Q E s:=by
 obtain⟨mb,h1,h2⟩:=I.mod.blt
 exact vw I.ok.kind hg (Calls.loadGlobal_builtin (by rw[I.ok.glob];exact I.mod.glob.keeps I.bk) hm (by rw[I.ok.blt];exact h1.keeps I.bk) ((h2 x hn).trans hv) h) hd
def OE{pos:Pos}(hg:Gl X x)(hm:X.mg x=Gc u)(r:RelV v u)(hd:x0 ((x==("__debug__":Str))=false) xL):PE X (.Name x pos) (tC v):=
 λ_ _ _ H _ I h=>J3 I hg hm ⟨v,H,I,r,h⟩ hd
def Zr{pos:Pos}(hg:Gl X x)(hm:X.mg x=none)(hv:bootBuiltins x=Gc u)(r:RelV v u)(hn:x0 (x≠ "__name__") xL)(hd:x0 ((x==("__debug__":Str))=false) xL):PE X (.Name x pos) (tC v):=
 λ_ _ _ H _ I h=>Mr I hg hm hv ⟨v,H,I,r,h⟩ hn hd
variable{a b:tF}{ta tb:TE}{pos:Pos}
noncomputable def tB(t:TE):TT:=λσ H Q=>t σ H λx H1=>∃c,x=.bl c/\Q c H1
def fI{e:tF}{t:TE}(h:PE X e t)(he:x0 (∀whole,isTrue e X.env whole=(do let v<-whole;standAt e.pos;holding [v] (truthy v))) ww):PT X e (tB t):=by
 intro pins s σ H Q I hw
 refine isTrue_plain (thn (h pins s σ H _ I hw) λv s1 z=>?_) (he _)
 obtain⟨x,H1,I1,r1,q1⟩:=z
 obtain⟨d,rfl,q⟩:=q1
 cases r1
 exact uo ⟨H1,I1,q⟩
variable{tA tB':TT}{rest:Wp tF}
noncomputable def qE(t u:TT):TT:=λσ H Q=>t σ H λc H1=>if c=true then u σ H1 Q else Q false H1
noncomputable def tOr(t u:TT):TT:=λσ H Q=>t σ H λc H1=>if c=true then Q true H1 else u σ H1 Q
noncomputable def qY(t:TT):TT:=λσ H Q=>t σ H λc H1=>Q (!c) H1
def bu(ha:PT X a tA):PW X (.BoolOp .And [a] pos) tA:=by
 intro wh pins s σ H Q I h
 refine isTrue_and (thn (ha pins s σ H Q I h) λc s1 e=>?_)
 cases c with
 |true=>exact isTrue_and_nil e
 |false=>exact e
def gN(ha:PT X a tA):PW X (.BoolOp .Or [a] pos) tA:=by
 intro wh pins s σ H Q I h
 refine isTrue_or (thn (ha pins s σ H Q I h) λc s1 e=>?_)
 cases c with
 |false=>exact isTrue_or_nil e
 |true=>exact e
def iG(ha:PT X a tA)(hb:PW X (.BoolOp .And (b::rest) pos) tB'):PW X (.BoolOp .And (a::b::rest) pos) (qE tA tB'):=by
 intro wh pins s σ H Q I h
 refine isTrue_and (thn (ha pins s σ H _ I h) λc s1 ⟨H1,I1,q1⟩=>?_)
 cases c with
 |true=>exact hb wh pins s1 σ H1 Q I1 q1
 |false=>exact⟨H1,I1,q1⟩
def lF(ha:PT X a tA)(hb:PW X (.BoolOp .Or (b::rest) pos) tB'):PW X (.BoolOp .Or (a::b::rest) pos) (tOr tA tB'):=by
 intro wh pins s σ H Q I h
 refine isTrue_or (thn (ha pins s σ H _ I h) λc s1 ⟨H1,I1,q1⟩=>?_)
 cases c with
 |true=>exact⟨H1,I1,q1⟩
 |false=>exact hb wh pins s1 σ H1 Q I1 q1
def eB(ha:PT X a tA):PT X (.UnaryOp .Not a pos) (qY tA):=by
 intro pins s σ H Q I h
 exact isTrue_not (ha pins s σ H (λc H1=>Q (!c) H1) I h)
noncomputable def kM(ta tb:TE):TE:=λσ H Q=>ta σ H λx H1=>∃c,x=.bl c/\if c=true then tb σ H1 Q else Q (.bl false) H1
noncomputable def oJ(ta tb:TE):TE:=λσ H Q=>ta σ H λx H1=>∃c,x=.bl c/\if c=true then Q (.bl true) H1 else tb σ H1 Q
noncomputable def kA(ta:TE):TE:=λσ H Q=>ta σ H λx H1=>∃c,x=.bl c/\Q (.bl (!c)) H1
def dJ{op}{t:TE}(h:PE X a t):PE X (.BoolOp op [a] pos) t:=λpins s σ H Q I hw=>BoolOp_one (h pins s σ H Q I hw)
def d9(ha:PE X a ta)(hb:PE X (.BoolOp .And (b::rest) pos) tb):PE X (.BoolOp .And (a::b::rest) pos) (kM ta tb):=by
 intro pins s σ H Q I h
 refine BoolOp_and (thn (ha pins s σ H _ I h) λv s1 z=>?_)
 obtain⟨x,H1,I1,r1,q1⟩:=z
 obtain⟨c,rfl,q1⟩:=q1
 cases r1
 refine uo ?_
 cases c with
 |true=>exact hb pins s1 σ H1 Q I1 q1
 |false=>exact⟨.bl false,H1,I1,rfl,q1⟩
def jz(ha:PE X a ta)(hb:PE X (.BoolOp .Or (b::rest) pos) tb):PE X (.BoolOp .Or (a::b::rest) pos) (oJ ta tb):=by
 intro pins s σ H Q I h
 refine BoolOp_or (thn (ha pins s σ H _ I h) λv s1 z=>?_)
 obtain⟨x,H1,I1,r1,q1⟩:=z
 obtain⟨c,rfl,q1⟩:=q1
 cases r1
 refine uo ?_
 cases c with
 |false=>exact hb pins s1 σ H1 Q I1 q1
 |true=>exact⟨.bl true,H1,I1,rfl,q1⟩
def iJ(ha:PE X a ta):PE X (.UnaryOp .Not a pos) (kA ta):=by
 intro pins s σ H Q I h
 refine UnaryOp_ (thn (ha pins s σ H _ I h) λv s1 z=>?_)
 obtain⟨x,H1,I1,r1,q1⟩:=z
 obtain⟨c,rfl,q1⟩:=q1
 cases r1
 exact not_of (uo ⟨.bl (!c),H1,I1,rfl,q1⟩)
noncomputable def tIf(t:TT)(ta tb:TE):TE:=λσ H Q=>t σ H λc H1=>if c=true then ta σ H1 Q else tb σ H1 Q
def XX{c:tF}(hc:PT X c tA)(ha:PE X a ta)(hb:PE X b tb):PE X (.IfExp c a b pos) (tIf tA ta tb):=by
 intro pins s σ H Q I h
 refine wpAny_IfExp (thn (hc pins s σ H _ I h) λd s1 ⟨H1,I1,q1⟩=>?_)
 cases d with
 |true=>exact ha pins s1 σ H1 Q I1 q1
 |false=>exact hb pins s1 σ H1 Q I1 q1
end
end L2
namespace L2
open PySem PySem.Spec PyProof.Rows
def SqL(K:W1)(H:Hp)(a:rL)(xs:Wp V):Prop:=
 Rd H a (.lst xs)∨
  ∃(o:Obj) (its:xI rD) (n:Nat),K.lookup a=Gc o/\o.cls=.type "list" /\o.dict=none/\o.data=.seq its n/\its.size<=sizeLine/\Vals xs its.toList
def SqT(K:W1)(H:Hp)(a:rL)(xs:Wp V):Prop:=
 Rd H a (.tup xs)∨
  ∃(o:Obj) (its:xI rD) (n:Nat),K.lookup a=Gc o/\o.cls=.type "tuple" /\o.data=.seq its n/\its.size<=sizeLine/\Vals xs its.toList
noncomputable def pO:rD->qz V
 | .none=>Gc .non
 | .bool b=>Gc (.bl b)
 | .int i _=>Gc (.int i)
 | .str x _=>Gc (.str x)
 | .bytes b _=>Gc (.byt b)
 | .float b _=>Gc (.flt b)
 | .ref a=>Gc (.ref a)
 | .type n=>Gc (.ty n)
 |_=>none
def RelV.abs{x:V}{u:rD}(r:RelV x u):pO u=Gc x:=by
 cases x with
 |non=>cases r;rfl
 |bl _=>cases r;rfl
 |int _=>obtain⟨t,rfl⟩:=r;rfl
 |str _=>obtain⟨t,rfl⟩:=r;rfl
 |byt _=>obtain⟨t,rfl⟩:=r;rfl
 |flt _=>obtain⟨t,rfl⟩:=r;rfl
 |ref _=>cases r;rfl
 |ty _=>cases r;rfl
def RelV.inj{x y:V}{u:rD}(r:RelV x u)(q:RelV y u):x=y:=uJ (r.abs.symm.trans q.abs)
theorem Vals.inj:∀{xs ys:Wp V} {us:Wp rD},Vals xs us->Vals ys us->xs=ys
 |_,_,_,.nil,.nil=>rfl
 |_,_,_,.cons r t,.cons r' t'=>by rw[r.inj r',Vals.inj t t']
section
variable{X:Cx}{pins:Wp (rL×Obj)}{σ:St}{H:Hp}{s:rP}{a:rL}{xs ys:Wp V}
def SqL.of{K:W1}(h:H a=Gc (.lst xs)):SqL K H a xs:=.inl (.inl h)
def SqT.of{K:W1}(h:H a=Gc (.tup xs)):SqT K H a xs:=.inl (.inl h)
def Inv.list(I:Inv X pins σ H s)(h:SqL X.K H a xs):∃its:Wp rD,Vals xs its/\PlainL s.heap a its.toArray/\xs.length<=sizeLine:=by
 rcases h with h|⟨o,its,n,hk,hc,hd,hs,hz,r⟩
 .obtain⟨z,its,n,r,e⟩:=h.ok I.hok
  exact⟨its,r,⟨_,n,e,rfl,rfl,rfl⟩,z⟩
 .refine⟨its.toList,r,⟨o,n,I.kIn a o hk,hc,hd,by simpa using hs⟩,?_⟩
  have e:=r.length
  simp only[xg]at e
  lia
def Inv.tuple(I:Inv X pins σ H s)(h:SqT X.K H a xs):∃its:Wp rD,Vals xs its/\IsTup s.heap a its.toArray/\xs.length<=sizeLine:=by
 rcases h with h|⟨o,its,n,hk,hc,hs,hz,r⟩
 .obtain⟨z,its,r,p⟩:=h.ok I.hok
  exact⟨its,r,p,z⟩
 .refine⟨its.toList,r,⟨o,I.kIn a o hk,hc,n,by simpa using hs⟩,?_⟩
  have e:=r.length
  simp only[xg]at e
  lia
def Inv.RL(I:Inv X pins σ H s)(h:SqL X.K H a xs)(h':SqL X.K H a ys):xs=ys:=by
 obtain⟨its,r,⟨o,n,e,_,_,d⟩,_⟩:=I.list h
 obtain⟨its',r',⟨o',n',e',_,_,d'⟩,_⟩:=I.list h'
 rw[e]at e';cases e'
 rw[d]at d'
 injection d' with d1 _
 have:its=its':=by simpa using congrArg Array.toList d1
 subst this
 exact r.inj r'
def Inv.O1(I:Inv X pins σ H s)(h:SqT X.K H a xs)(h':SqT X.K H a ys):xs=ys:=by
 obtain⟨its,r,⟨o,e,_,n,d⟩,_⟩:=I.tuple h
 obtain⟨its',r',⟨o',e',_,n',d'⟩,_⟩:=I.tuple h'
 rw[e]at e';cases e'
 rw[d]at d'
 injection d' with d1 _
 have:its=its':=by simpa using congrArg Array.toList d1
 subst this
 exact r.inj r'
end
abbrev Cx.Rb(X:Cx)(E:rD->rP->Prop):Cx:={X with xe:=E}
abbrev Cx.nox(X:Cx):Cx:=X.Rb λ_ _=>uO
def Cx.Ok.Rb{X:Cx}(ok:X.Ok)(E:rD->rP->Prop):(X.Rb E).Ok:=
 ⟨ok.mod,ok.kind,ok.glob,ok.blt,ok.above,ok.inj,ok.has,ok.cab,ok.hd,ok.frames,ok.stk,ok.exf,ok.bs,ok.bsz,ok.ZG,ok.aU,ok.QM,ok.frf⟩
def Cx.Ok.Kk{X:Cx}{E:rD->rP->Prop}(ok:(X.Rb E).Ok):X.Ok:=
 ⟨ok.mod,ok.kind,ok.glob,ok.blt,ok.above,ok.inj,ok.has,ok.cab,ok.hd,ok.frames,ok.stk,ok.exf,ok.bs,ok.bsz,ok.ZG,ok.aU,ok.QM,ok.frf⟩
section
variable{X:Cx}{pins:Wp (rL×Obj)}{σ:St}{H:Hp}{s:rP}{E:rD->rP->Prop}
def Inv.Rb(I:Inv X pins σ H s)(E:rD->rP->Prop):Inv (X.Rb E) pins σ H s:=⟨I.ok.Rb E,I.os,I.bare,I.base,I.loc,I.cell,I.free,I.Ji,I.pin,I.hok,I.len⟩
def Inv.Kk(I:Inv (X.Rb E) pins σ H s):Inv X pins σ H s:=⟨I.ok.Kk,I.os,I.bare,I.base,I.loc,I.cell,I.free,I.Ji,I.pin,I.hok,I.len⟩
def SP.Kk{s':rP}(h:SP (X.Rb E) pins D f s'):SP X pins D f s':=by
 cases f with
 |next=>obtain⟨σ',H',I,q⟩:=h;exact⟨σ',H',I.Kk,q⟩
 |brk=>obtain⟨σ',H',I,q⟩:=h;exact⟨σ',H',I.Kk,q⟩
 |cont=>obtain⟨σ',H',I,q⟩:=h;exact⟨σ',H',I.Kk,q⟩
 |ret u=>obtain⟨v,σ',H',I,r,q⟩:=h;exact⟨v,σ',H',I.Kk,r,q⟩
def PSs.nox{st:Wp sP}{t:TS}(h:PSs X.nox st t):PSs X st t:=λpins s σ H D I hw=>
 tq (h pins s σ H D (I.Rb _) hw) (λ_ _ q=>q.Kk) λ_ _ z=>si z
end
section
variable{X:Cx}{st:sP}{rest:Wp sP}{t u:TS}{e:tF}{te:TE}{pos:Pos}
noncomputable def mH:TS:=λD σ H=>D.nx σ H
noncomputable def qD(t u:TS):TS:=λD σ H=>t {D with nx:=u D} σ H
def bH:PSs X [] mH:=λ_ _ σ H _ I h=>wU ⟨σ,H,I,h⟩
def RK(h1:PS X st t)(h2:PSs X rest u):PSs X (st::rest) (qD t u):=by
 intro pins s σ H D I h
 refine vX (thn (h1 pins s σ H {D with nx:=u D} I h) λf s1 q=>?_)
 cases f with
 |next=>
  obtain⟨σ',H',I',q⟩:=q
  exact h2 pins s1 σ' H' D I' q
 |ret v=>exact q
 |brk=>exact q
 |cont=>exact q
def N6(h1:PS X st t):PSs X [st] t:=by
 intro pins s σ H D I h
 refine vX (thn (h1 pins s σ H D I h) λf s1 q=>?_)
 cases f with
 |next=>exact wU q
 |ret v=>exact q
 |brk=>exact q
 |cont=>exact q
def Inv.quiet{pins:Wp (rL×Obj)}{σ:St}{s:rP}(I:Inv X pins σ H s):interactive X.env=false:=by simp[interactive,I.ok.kind]
noncomputable def j6(te:TE):TS:=λD σ H=>te σ H λ_ H1=>D.nx σ H1
def Zk(he:PE X e te)(hs:x0 (swapsWith e none pos.line X.env=pure false) wv):PS X (.Expr e pos) (j6 te):=by
 intro pins s σ H D I h
 exact wpAny_Expr_any (thn (he pins s σ H _ I h) λv s1 ⟨x,H1,I1,r1,q1⟩=>⟨σ,H1,I1,q1⟩) I.quiet hs
noncomputable def qL(te:TE):TS:=λD σ H=>te σ H D.rt
def TZ(he:PE X e te):PS X (.Return (Gc e) pos) (qL te):=by
 intro pins s σ H D I h
 exact yL (thn (he pins s σ H _ I h) λv s1 ⟨x,H1,I1,r1,q1⟩=>⟨x,σ,H1,I1,r1,q1⟩)
noncomputable def oM(c:TT)(t u:TS):TS:=λD σ H=>c σ H λb H1=>if b=true then t D σ H1 else u D σ H1
def kP{tc:TT}(hc:PT X c tc)(ha:PSs X a t)(hb:PSs X b u):PS X (.If c a b pos) (oM tc t u):=by
 intro pins s σ H D I h
 refine wpAny_If (thn (hc pins s σ H _ I h) λd s1 ⟨H1,I1,q1⟩=>?_)
 cases d with
 |true=>exact ha pins s1 σ H1 D I1 q1
 |false=>exact hb pins s1 σ H1 D I1 q1
end
abbrev TG:=V->St->Hp->(St->Hp->Prop)->Prop
abbrev TGs:=Wp V->St->Hp->(St->Hp->Prop)->Prop
def PG(X:Cx)(target:tF)(t:TG):Prop:=
 ∀(pins:Wp (rL×Obj)) (s:rP) (σ:St) (H:Hp) (v:V) (u:rD) (Q:St->Hp->Prop),Inv X pins σ H s->RelV v u->t v σ H Q->
  wpAny (model X.prog X.w) X.A (assign target X.env u) (λ_ s'=>∃σ' H',Inv X pins σ' H' s'/\Q σ' H') X.xe s
def PGs(X:Cx)(ts:Wp tF)(t:TGs):Prop:=
 ∀(pins:Wp (rL×Obj)) (s:rP) (σ:St) (H:Hp) (vs:Wp V) (us:Wp rD) (Q:St->Hp->Prop),Inv X pins σ H s->Vals vs us->t vs σ H Q->
  wpAny (model X.prog X.w) X.A (assignInOrder ((assignEach ts X.env).map (·.2)) us) (λ_ s'=>∃σ' H',Inv X pins σ' H' s'/\Q σ' H') X.xe s
abbrev j3:=V->V->V->Hp->(Hp->Prop)->Prop
def nN(X:Cx)(t:j3):Prop:=
 ∀(pins:Wp (rL×Obj)) (s:rP) (σ:St) (H:Hp) (o i v:V) (ov iv u:rD) (Q:Hp->Prop),Inv X pins σ H s->RelV o ov->RelV i iv->RelV v u->t o i v H Q->
  wpAny (model X.prog X.w) X.A (setItem ov iv u) (λ_ s'=>∃H',Inv X pins σ H' s'/\Q H') X.xe s
section
variable{X:Cx}{pos:Pos}
noncomputable def aG(i:Nat):TG:=λv σ H Q=>Q (σ.set i (Gc v)) H
def bX{i:Nat}{x:Str}(hN:X.N.Nodup)(hi:X.N[i]?=Gc x)(hx:Loc X.env.scope x)(hf:x0 (X.fn x=true\/X.env.scope.names.lookup x=Gc .local) xz):PG X (.Name x pos) (aG i):=by
 intro pins s σ H v u Q I r h
 exact wpAny_assign_Name (K3 I hN hi hx r (λs' I'=>⟨_,H,I',h⟩) hf)
noncomputable def nK:TGs:=λvs σ H Q=>vs=[]/\Q σ H
noncomputable def gh(t:TG)(u:TGs):TGs:=λvs σ H Q=>∃v r,vs=v::r/\t v σ H λσ' H'=>u r σ' H' Q
def aq:PGs X [] nK:=by
 intro pins s σ H vs us Q I r h
 obtain⟨e,h⟩:=h
 subst e
 cases r
 exact assignInOrder_nil ⟨σ,H,I,h⟩
def Wm{u:TGs}(h1:PG X e t)(h2:PGs X es u)(hs:x0 ((assignEach (e::es) X.env).map (·.2)=assign e X.env::(assignEach es X.env).map (·.2)) wv):PGs X (e::es) (gh t u):=by
 intro pins s σ H vs us Q I r h
 obtain⟨v,vr,e1,h⟩:=h
 subst e1
 cases r with
 |cons r rr=>
  rw[hs]
  refine x8 (thn (h1 pins s σ H _ _ _ I r h) λ_ s1 z=>?_)
  obtain⟨σ1,H1,I1,q1⟩:=z
  exact h2 pins s1 σ1 H1 _ _ Q I1 rr q1
noncomputable def oY(K:W1)(n:Nat)(t:TGs):TG:=λv σ H Q=>∃a xs,v=.ref a/\SqT K H a xs/\xs.length=n/\t xs σ H Q
def gZ{es:Wp tF}{k:Nat}{n:Nat}(hc:X.calm=true)(h:PGs X es t)(hn:x0 ((assignEach es X.env).length=n) wv)(hst:x0 ((assignEach es X.env).findIdx? (·.1)=none) wv):PG X (.Tuple es k pos) (oY X.K n t):=by
 intro pins s σ H v u Q I r hw
 obtain⟨a,xs,e1,hq,hl,hw⟩:=hw
 subst e1
 cases r
 obtain⟨its,rv,ht,hz⟩:=I.tuple hq
 refine assign_Tuple_tuple (I.ok.hd hc) ht (by simp[hn,<-hl,rv.length]) hst λh' hx=>?_
 have I1:Inv X pins σ H {s with heap:=h'}:=I.kept (t':=s.toks) λb o e=>hx b o (sM (rR e)) e
 exact h pins _ σ H xs _ Q I1 (by simpa using rv) hw
noncomputable def pN(to ti:TE)(t:j3):TG:=λv σ H Q=>to σ H λo H1=>ti σ H1 λi H2=>t o i v H2 λH3=>Q σ H3
def c9 {t:j3}(ho:PE X o to)(hi:PE X i ti)(hs:nN X t)(ha:x0 (∀v,assign (.Subscript o i pos) X.env v=(do
      let ov ← holding [v] (eval o X.env)
      let iv ← holding [v, ov] (eval i X.env)
      standAt pos
      holding [v, ov, iv] (setItem ov iv v)
      release [v, ov, iv] [])) wr) : PG X (.Subscript o i pos) (pN to ti t) := by
  intro pins s σ H v u Q I r h
  rw [ha]
  refine qu (ug (thn (ho pins s σ H _ I h) fun ov s1 ⟨x, H1, I1, r1, q1⟩ => ?_))
  refine qu (ug (thn (hi pins s1 σ H1 _ I1 q1) fun iv s2 ⟨y, H2, I2, r2, q2⟩ => ?_))
  refine qu (wL (qu (ug (thn (hs pins s2 σ H2 x y v ov iv u _ I2 r1 r2 r q2) fun _ s3 ⟨H3, I3, q3⟩ => ?_))))
  exact wpAny_release ⟨σ, H3, I3, q3⟩
noncomputable def kD(te:TE)(g:TG):TS:=λD σ H=>te σ H λx H1=>g x σ H1 D.nx
def Yx{g:TG}(he:PE X e te)(hg:PG X tg g)(hs:x0 (swapsWithSole [tg] e pos.line X.env=pure false) wv)(hw:x0 (swappedStores [tg] e X.env=pure none) wv)(h1:x0 ((assignEach [tg] X.env).map (·.2)=[assign tg X.env]) wv):PS X (.Assign [tg] e pos) (kD te g):=by
 intro pins s σ H D I h
 refine wpAny_Assign_stores (thn (he pins s σ H _ I h) λv s1 z=>?_) hs hw
 obtain⟨x,H1,I1,r1,q1⟩:=z
 rw[h1]
 exact thn (hg pins s1 σ H1 x v _ I1 r1 q1) λ_ s2 q=>q
def YW(hN:X.N.Nodup)(hi:X.N[i]?=Gc x)(hx:Loc X.env.scope x)(he:PE X e te)(hs:x0 (swapsWith e (Gc (.Name x pos')) pos.line X.env=pure false) wv)(hf:x0 (X.fn x=true\/X.env.scope.names.lookup x=Gc .local) xz):PS X (.Assign [.Name x pos'] e pos) (kD te (aG i)):=by
 intro pins s σ H D I h
 refine wpAny_Assign_Name (thn (he pins s σ H _ I h) λv s1 z=>?_) hs
 obtain⟨y,H1,I1,r1,q1⟩:=z
 exact K3 I1 hN hi hx r1 (λs2 I2=>⟨_,H1,I2,q1⟩) hf
noncomputable def pV(i j:Nat)(ta:TA):TS:=λD σ H=>ta σ H λvs H1=>∃v w,vs=[v,w]/\D.nx ((σ.set i (Gc v)).set j (Gc w)) H1
def dP{kt k2 pt2}(hc:X.calm=true)(hN:X.N.Nodup)(hi:X.N[i]?=Gc x)(hj:X.N[j]?=Gc y)(hij:i≠j)(hx:X.env.scope.names.lookup x=Gc .local)(hy:X.env.scope.names.lookup y=Gc .local)(ha:PA X [a,b] ta)(hw:swappedStores [.Tuple [.Name x px,.Name y py] kt pt] (.Tuple [a,b] k2 pt2) X.env=pure (Gc [x,y]))(hs:x0 (swapsWithSole [.Tuple [.Name x px,.Name y py] kt pt] (.Tuple [a,b] k2 pt2) pos.line X.env=pure false) wv):PS X (.Assign [.Tuple [.Name x px,.Name y py] kt pt] (.Tuple [a,b] k2 pt2) pos) (pV i j ta):=by
 intro pins s σ H D I h
 rw[exec_Assign_arm]
 refine qu (wL ?_)
 rw[hs]
 refine qu (rS ?_)
 rw[sH (by decide)]
 refine qu (Tuple_ (thn (ha _ pins s σ H _ I h) λus s1 z=>?_))
 obtain⟨vs,H1,I1,r1,q1⟩:=z
 obtain⟨v,w,e1,q1⟩:=q1
 subst e1
 obtain⟨u1,u2,rfl,rv,rw'⟩:∃u1 u2,us=[u1,u2]/\RelV v u1/\RelV w u2:=by
  cases r1 with
  |cons p q=>
   cases q with
   |cons p' q'=>
    cases q'
    exact⟨_,_,rfl,p,p'⟩
 refine uq ?_ (by show 2<=sizeLine;decide)
 have I2:Inv X pins σ H1 {s1 with heap:=s1.heap.push {cls:=.type "tuple",data:=.seq [u1,u2].toArray}}:=I1.kept (t':=s1.toks) λb o e=>qt _ e
 rw[hw]
 refine qu (rS ?_)
 show wpAny (model X.prog X.w) X.A (do rule "assign.swapped-stores"; let items<-unpackItems (.ref s1.heap.objs.size) 2 none;assignInOrder [λv=>bindName X.env y v,λv=>bindName X.env x v] items.reverse;pure Flow.next) _ _ _
 refine qu (ym (qu (unpackItems_tuple (items:= #[u1,u2]) (I.ok.hd hc) (wI s1.heap _) λh' hx'=>?_)))
 have I3:=I2.kept (h':=h') (t':=s1.toks) λb o e=>hx' b o (sM (rR e)) e
 show wpAny _ _ (assignInOrder [λv=>bindName X.env y v,λv=>bindName X.env x v] [u2,u1] >>= λ_=>pure Flow.next) _ _ _
 refine qu (x8 (wpAny_bindName (K3 I3 hN hj (.inl hy) rw' (λs2 I4=>?_) (.inr hy))))
 refine x8 (wpAny_bindName (K3 I4 hN hi (.inl hx) rv (λs3 I5=>assignInOrder_nil (rS ?_)) (.inr hx)))
 rw[List.set_comm _ _ (tu hij)]at I5
 exact⟨_,H1,I5,q1⟩
end
section
variable{X:Cx}{pos:Pos}
noncomputable def fN(c:TT)(tb:TS):TS:=λD σ H=>∃W:Nat->St->Hp->Prop,(∃m,W m σ H)/\∀m σ H,W m σ H->
 c σ H λb H1=>if b=true then∃N:St->Hp->Prop,(∀σ' H',N σ' H'->∃m',m'<m/\W m' σ' H')/\tb {D with nx:=N,ct:=N,bk:=D.nx} σ H1 else D.nx σ H1
def Xy{tb:TS}(hp:PassesOwn (model X.prog X.w) X.A X.env X.xe)(hc:PT X c tc)(hb:PSs X body tb):PS X (.While c body [] pos) (fN tc tb):=by
 intro pins s σ H D I h
 obtain⟨W,⟨m0,w0⟩,turn⟩:=h
 refine wpAny_While (codeAny_whileLoop (λn s'=>∃σ' H',Inv X pins σ' H' s'/\W n σ' H') ?_ m0 ⟨σ,H,I,w0⟩)
 rintro n s1 ⟨σ1,H1,I1,w1⟩
 refine vN hp (thn (hc pins s1 σ1 H1 _ I1 (turn n σ1 H1 w1)) λb s2 ⟨H2,I2,q2⟩=>?_)
 cases b with
 |true=>
  obtain⟨N,hN,q2⟩:=q2
  rw[sD rfl]
  refine vN hp (thn (hb pins s2 σ1 H2 _ I2 q2) λf s3 q3=>?_)
  cases f with
  |next=>
   obtain⟨σ3,H3,I3,n3⟩:=q3
   obtain⟨m',hm,w3⟩:=hN σ3 H3 n3
   exact⟨m',hm,σ3,H3,I3,w3⟩
  |cont=>
   obtain⟨σ3,H3,I3,n3⟩:=q3
   obtain⟨m',hm,w3⟩:=hN σ3 H3 n3
   exact⟨m',hm,σ3,H3,I3,w3⟩
  |brk=>exact q3
  |ret v=>exact q3
 |false=>
  rw[sH sZ]
  exact wU ⟨σ1,H2,I2,q2⟩
end
structure It where
 go:Nat->Hp->Prop
 yld:Nat->Hp->V->Hp->Prop
 stop:Nat->Hp->Prop
def Pq(X:Cx)(pins:Wp (rL×Obj))(H:Hp)(b:rL):Prop:=
 H b=none/\b≠X.env.locals/\b∉X.fs/\(b∈X.ex\/X.s₀.heap.objs.size<=b)/\(∀x c,X.env.cells.lookup x=Gc c->c≠b)/\∀p∈X.pn++pins,p.1≠b
def Inv.ax{pins:Wp (rL×Obj)}{σ:St}{b:rL}(I:Inv X pins σ H s)(hb:s.heap.objs.size<=b)(hn:H' b=none):Pq X pins H' b:=by
 refine⟨hn,xj (qw I.lt hb),I.qU hb,.inr (q8 I.sz hb),λx c e z=>?_,λp hp z=>?_⟩
 .obtain⟨v,q⟩:=I.cell x c e
  exact absurd (qw q.lt (by rw[z];exact hb)) (tW _)
 .exact absurd (qw (rR (I.pin p hp).1) (by rw[z];exact hb)) (tW _)
structure Turn(P:sx)(w:uL)(K:W1)(tg:tF)(J:It)(fp:Wp rL)(it:rL)(tn:Nat->tS->Prop):Prop where
 mem:it∈fp
 obj:∀i h,tn i h->∀b∈fp,∃o,h.get? b=Gc o/\∀v,o.data≠.cell v
 keep:∀i h h',tn i h->(∀b∈fp,∀o,h.get? b=Gc o->h'.get? b=Gc o)->tn i h'
 item:∀(X:Cx),X.prog=P->X.w=w->X.K=K->X.calm=true->∀(i:Nat) (pins:Wp (rL×Obj)) (s:rP) (σ:St) (H:Hp) (E:rD->rP->Prop),Inv X pins σ H s->(∀b∈fp,Pq X pins H b)->tn i s.heap->J.go i H->
  wpAny (model P w) X.A (pyNext (.ref it)) (λr s1=>∃u,r=Gc u/\
   wpAny (model P w) X.A (letOwnedTupleGo tg (.ref it) u) (λ_ s2=>∃x H',Inv X pins σ H' s2/\RelV x u/\J.yld i H x H'/\tn (i+1) s2.heap/\∀b∈fp,H' b=none) E s1) E s
 done:∀(X:Cx),X.prog=P->X.w=w->X.K=K->X.calm=true->∀(i:Nat) (pins:Wp (rL×Obj)) (s:rP) (σ:St) (H:Hp) (E:rD->rP->Prop),Inv X pins σ H s->(∀b∈fp,Pq X pins H b)->tn i s.heap->J.stop i H->
  wpAny (model P w) X.A (pyNext (.ref it)) (λr s1=>r=none/\Inv X pins σ H s1) E s
 self:∀(A:ux) (i:Nat) (s:rP) (Q:rD->rP->Prop) (E:rD->rP->Prop),tn i s.heap->Q (.ref it) s->wpAny (model P w) A (pyIter (.ref it)) Q E s
abbrev TI:=St->Hp->(It->Hp->Prop)->Prop
def PIE(X:Cx)(pins:Wp (rL×Obj))(σ:St)(tg:tF)(R:It->Hp->Prop)(itv:rD)(s2:rP):Prop:=
 ∃(it:rL) (fp:Wp rL) (tn:Nat->tS->Prop) (J:It) (H':Hp),itv=.ref it/\Inv X pins σ H' s2/\Turn X.prog X.w X.K tg J fp it tn/\tn 0 s2.heap/\(∀b∈fp,Pq X pins H' b)/\R J H'
def PI(X:Cx)(tg iter:tF)(wi:TI):Prop:=
 ∀(pins:Wp (rL×Obj)) (s:rP) (σ:St) (H:Hp) (R:It->Hp->Prop),Inv X pins σ H s->wi σ H R->
  wpAny (model X.prog X.w) X.A (eval iter X.env) (λv s1=>wpAny (model X.prog X.w) X.A (pyIter v) (PIE X pins σ tg R) X.xe s1) X.xe s
def Zh(ho:s.heap.get? it=Gc o)(hc:o.cls=.type n)(hd:o.data=.fields vs)(hn:["enumerate","zip","dict_itemiterator","dict_reverseitemiterator","odict_iterator","itertools.zip_longest","itertools.pairwise"].contains n=false)(hQ:Q () s):wpAny M A (letOwnedTupleGo tg (.ref it) u) Q E s:=by
 unfold letOwnedTupleGo
 cases tg<;>first
  |exact rS hQ
  |(cases u<;>first
     |exact rS hQ
     |(refine qu (wpAny_load ho ?_)
       rw[hc,hd]
       show wpAny M A (if(["enumerate","zip","dict_itemiterator","dict_reverseitemiterator","odict_iterator","itertools.zip_longest","itertools.pairwise"].contains n && vs[0]?==Gc (rawInt _))=true then _ else _) Q E s
       rw[sH (by intro h;rw[hn,Bool.false_and]at h;cases h)]
       exact rS hQ))
noncomputable def Itl(K:W1)(a:rL):It:=
 ⟨λi H=>∃xs x,SqL K H a xs/\xs[i]?=Gc x,λi H x H'=>H'=H/\∀xs,SqL K H a xs->xs[i]?=Gc x,λi H=>∃xs,SqL K H a xs/\xs.length<=i⟩
noncomputable def Itt(K:W1)(a:rL):It:=
 ⟨λi H=>∃xs x,SqT K H a xs/\xs[i]?=Gc x,λi H x H'=>H'=H/\∀xs,SqT K H a xs->xs[i]?=Gc x,λi H=>∃xs,SqT K H a xs/\xs.length<=i⟩
noncomputable def Itr(lo:Int)(n:Nat):It:=⟨λi _=>i<n,λi H x H'=>H'=H/\x=.int (lo+i),λi _=>n<=i⟩
theorem UO{K:W1}(a it:rL):Turn P w K tg (Itl K a) [it] it (λi h=>h.IsListIter it a i) where
 mem:=by simp
 obj:=λi h st b hb=>by
  have e:b=it:=by simpa using hb
  subst e
  obtain⟨o,e,c,d⟩:=st
  exact⟨o,e,λv z=>by rw[d]at z;cases z⟩
 keep:=λi h h' st k=>st.at λo e=>k it (by simp) o e
 item:=by
  intro X hP hw hK hc i pins s σ H E I hf st hg
  subst hP hw hK
  obtain⟨xs,x,hq,hx⟩:=hg
  obtain⟨its,rv,p,hz⟩:=I.list hq
  obtain⟨u,hu,ru⟩:=rv.get hx
  obtain⟨f0,f1,f2,f3,f4,f5⟩:=hf it (by simp)
  refine wq st p.isList (x:=u) (by simpa using hu) λh' st' sb=>?_
  have I1:Inv X pins σ H {s with heap:=h'}:=I.turned (t':=s.toks) (λb o hb e=>(sb.2 b hb).trans e) f0 f1 f3 f4 f5
  obtain⟨o,e,c,d⟩:=id st'
  exact⟨u,rfl,Zh (s:={s with heap:=h'}) e c d (by decide) ⟨x,H,I1,ru,⟨rfl,λys hy=>by rw[I.RL hy hq];exact hx⟩,st',λb hb=>(hf b hb).1⟩⟩
 done:=by
  intro X hP hw hK hc i pins s σ H E I hf st hg
  subst hP hw hK
  obtain⟨xs,hq,hx⟩:=hg
  obtain⟨its,rv,p,hz⟩:=I.list hq
  obtain⟨f0,f1,f2,f3,f4,f5⟩:=hf it (by simp)
  have hl:=rv.length
  exact xJ (I.ok.hd hc) st p.isList (by simp;lia) λh' eb=>⟨rfl,I.turned (t':=s.toks) (λb o hb e=>eb b o hb e) f0 f1 f3 f4 f5⟩
 self:=λ_ _ _ _ _ st h=>zG st h
theorem SF{K:W1}(a it:rL):Turn P w K tg (Itt K a) [it] it (λi h=>h.IsTupleIter it a i) where
 mem:=by simp
 obj:=λi h st b hb=>by
  have e:b=it:=by simpa using hb
  subst e
  obtain⟨o,e,c,d⟩:=st
  exact⟨o,e,λv z=>by rw[d]at z;cases z⟩
 keep:=λi h h' st k=>st.at λo e=>k it (by simp) o e
 item:=by
  intro X hP hw hK hc i pins s σ H E I hf st hg
  subst hP hw hK
  obtain⟨xs,x,hq,hx⟩:=hg
  obtain⟨its,rv,p,hz⟩:=I.tuple hq
  obtain⟨u,hu,ru⟩:=rv.get hx
  obtain⟨f0,f1,f2,f3,f4,f5⟩:=hf it (by simp)
  refine wpAny_pyNext_tuple_item st (show s.heap.IsTuple a its.toArray from p) (x:=u) (by simpa using hu) λh' st' sb=>?_
  have I1:Inv X pins σ H {s with heap:=h'}:=I.turned (t':=s.toks) (λb o hb e=>(sb.2 b hb).trans e) f0 f1 f3 f4 f5
  obtain⟨o,e,c,d⟩:=id st'
  exact⟨u,rfl,Zh (s:={s with heap:=h'}) e c d (by decide) ⟨x,H,I1,ru,⟨rfl,λys hy=>by rw[I.O1 hy hq];exact hx⟩,st',λb hb=>(hf b hb).1⟩⟩
 done:=by
  intro X hP hw hK hc i pins s σ H E I hf st hg
  subst hP hw hK
  obtain⟨xs,hq,hx⟩:=hg
  obtain⟨its,rv,p,hz⟩:=I.tuple hq
  obtain⟨f0,f1,f2,f3,f4,f5⟩:=hf it (by simp)
  have hl:=rv.length
  exact wpAny_pyNext_tuple_end (I.ok.hd hc) st (show s.heap.IsTuple a its.toArray from p) (by simp;lia) λh' eb=>⟨rfl,I.turned (t':=s.toks) (λb o hb e=>eb b o hb e) f0 f1 f3 f4 f5⟩
 self:=λ_ _ _ _ _ st h=>wpAny_pyIter_tupleiter st h
theorem SA{K:W1} it lo n:Turn P w K tg (Itr lo n) [it] it (λi h=>IsRangeIter h it (lo+(i:Nat)*1) ((n:Int)-(i:Nat)) 1) where
 mem:=by simp
 obj:=λi h st b hb=>by
  have e:b=it:=by simpa using hb
  subst e
  exact⟨_,st,λv z=>by
   have z':Data.fields _=Data.cell v:=z
   cases z'⟩
 keep:=λi h h' st k=>k it (by simp) _ st
 item:=by
  intro X hP hw hK hc i pins s σ H E I hf st hg
  subst hP hw hK
  obtain⟨f0,f1,f2,f3,f4,f5⟩:=hf it (by simp)
  have W:=Walks.range (prog:=X.prog) (w:=X.w) (I.ok.hd hc) it lo 1 n
  refine W.item i s _ _ hg st λv h' tk hv st' kk=>?_
  obtain⟨t,rfl⟩:=hv
  have I1:Inv X pins σ H {s with heap:=h',toks:=tk}:=I.turned (λb o hb e=>kk b o (by simpa using hb) e) f0 f1 f3 f4 f5
  refine⟨_,rfl,Zh (s:={s with heap:=h',toks:=tk}) (n:="range_iterator") st' rfl rfl (by decide) ⟨.int (lo+i),H,I1,⟨t,?_⟩,⟨rfl,rfl⟩,st',λb hb=>(hf b hb).1⟩⟩
  rw[Int.mul_one]
 done:=by
  intro X hP hw hK hc i pins s σ H E I hf st hg
  subst hP hw hK
  obtain⟨f0,f1,f2,f3,f4,f5⟩:=hf it (by simp)
  exact wpAny_pyNext_range_end (I.ok.hd hc) st (by have:n<=i:=hg;lia) λh' eb=>⟨rfl,I.turned (t':=s.toks) (λb o hb e=>eb b o hb e) f0 f1 f3 f4 f5⟩
 self:=λ_ _ _ _ _ st h=>wpAny_pyIter_rangeiter st h
end L2
namespace L2
open PySem PySem.Spec PyProof.Rows
section
variable{X:Cx}{tg:tF}
def WS{σ:St}{lo hi:Int}(I:Inv X pins σ H s)(h1: -(2^62)<=lo)(h2:lo<2^62)(h3: -(2^62)<=hi)(h4:hi<2^62)(q:R (Itr lo (hi-lo).toNat) H):wpAny (model X.prog X.w) X.A (pyIter (.ref s.heap.objs.size)) (PIE X pins σ tg R) E {s with heap:=s.heap.push {cls:=.type "range",data:=.fields #[.int lo t,.int hi u,.int 1 v]},toks:=tk}:=by
 refine wpAny_pyIter_range (IsRange.new ..) (small_one h1 h2 h3 h4) ?_
 have I1:Inv X pins σ H {s with heap:=s.heap.push {cls:=.type "range",data:=.fields #[.int lo t,.int hi u,.int 1 v]},toks:=tk}:=I.kept λb o e=>qt _ e
 refine⟨(s.heap.push {cls:=.type "range",data:=.fields #[.int lo t,.int hi u,.int 1 v]}).objs.size,[(s.heap.push {cls:=.type "range",data:=.fields #[.int lo t,.int hi u,.int 1 v]}).objs.size],_,_,H,rfl,
  I1.kept (t':=tk) λb o e=>qt _ e,SA _ lo (hi-lo).toNat,?_,λb hb=>?_,q⟩
 .have e1:lo+((0:Nat):Int)*1=lo:=by simp
  have e2:(((hi-lo).toNat:Nat):Int)-((0:Nat):Int)=Builtin.Range.rangeSize lo hi 1:=by rw[rangeSize_one];split<;>lia
  show IsRangeIter _ _ (lo+((0:Nat):Int)*1) ((((hi-lo).toNat:Nat):Int)-((0:Nat):Int)) 1
  rw[e1,e2]
  exact rW _ rfl
 .have e:b=(s.heap.push {cls:=.type "range",data:=.fields #[.int lo t,.int hi u,.int 1 v]}).objs.size:=by simpa using hb
  subst e
  exact I1.ax (q9 _) (I1.hok.fresh (q9 _))
noncomputable def kx(ta:TA):TI:=λσ H R=>ta σ H λvs H1=>∃j:Int,vs=[.int j]/\ -(2^62)<=j/\j<2^62/\R (Itr 0 j.toNat) H1
def Vm{p pos:Pos}(hg:Gl X "range")(hm:X.mg "range"=none)(ha:PA X [a] ta)(hs:x0 (rG [a] X.env=[(false,eval a X.env)]) wv):PI X tg (.Call (.Name "range" p) [a] [] pos) (kx ta):=by
 intro pins s σ H R I h
 refine Call_ (Mr I hg hm boot_range (vo (thn (ha pos pins s σ H _ I h) λus s1 z=>?_) hs rfl))
 obtain⟨vs,H1,I1,r1,q1⟩:=z
 obtain⟨j,e,q1,q2,q⟩:=q1
 subst e
 cases r1 with
 |cons r rr=>
  cases rr
  obtain⟨t,rfl⟩:=r
  exact call_range_1 (WS I1 (by lia) (by lia) q1 q2 (by simpa using q))
noncomputable def qS(wi:TI)(g:TG)(tb:TS):TS:=λD σ H=>wi σ H λJ H1=>∃W:Nat->Nat->St->Hp->Prop,(∃m,W 0 m σ H1)/\∀i m σ H,W i m σ H->
 (J.stop i H/\D.nx σ H)\/(J.go i H/\∃N:St->Hp->Prop,(∀σ' H',N σ' H'->∃m',m'<m/\W (i+1) m' σ' H')/\∀x H',J.yld i H x H'->g x σ H' λσ2 H2=>tb {D with nx:=N,ct:=N,bk:=D.nx} σ2 H2)
noncomputable def Oe(fp:Wp rL)(h:tS):Wp (rL×Obj):=fp.filterMap λb=>(h.get? b).map λo=>(b,o)
def Hu{o:Obj}(hb:b∈fp)(e:h.get? b=Gc o):(b,o)∈Oe fp h:=AAB.mpr ⟨b,hb,by rw[e];rfl⟩
def VX{p:rL×Obj}(hp:p∈Oe fp h):p.1∈fp/\h.get? p.1=Gc p.2:=by
 obtain⟨b,hb,e⟩:=AAB.mp hp
 cases q:h.get? b with
 |none=>rw[q]at e;cases e
 |some o=>
  rw[q]at e
  have e':(b,o)=p:=uJ e
  subst e'
  exact⟨hb,q⟩
def Inv.pinned{σ:St}(I:Inv X pins σ H s)(hf:∀b∈fp,Pq X pins H b)(ho:∀b∈fp,∃o,s.heap.get? b=Gc o/\∀v,o.data≠.cell v):Inv X (pins++Oe fp s.heap) σ H s:=
 I.V5 λp hp=>(rf.mp hp).elim (λz=>I.pin p (sY _ z)) λz=>by
  obtain⟨hb,e⟩:=VX z
  obtain⟨f0,f1,f2,_⟩:=hf p.1 hb
  obtain⟨o,e',d⟩:=ho p.1 hb
  rw[e]at e';cases e'
  exact⟨e,f0,f1,f2,d⟩
def Inv.LA{pins pl:Wp (rL×Obj)}{σ:St}{s:rP}(I:Inv X (pins++pl) σ H s):Inv X pins σ H s:=I.V5 λp hp=>I.pin p (sY _ (vv _ hp))
def gD(hp:PassesOwn (model X.prog X.w) X.A X.env X.xe)(hc:X.calm=true)(hi:PI X tg iter wi)(hg:PG X tg g)(hb:PSs X body tb)(hs:x0 (∀x,foldedSetIterable iter X.env x=pure x) ww):PS X (.For tg iter body [] pos) (qS wi g tb):=by
 intro pins s σ H D I h
 refine wpAny_For (thn (hi pins s σ H _ I h) λv s1 h1=>thn h1 λitv s2 h2=>?_) hs
 obtain⟨it,fp,tn,J,H2,e,I2,T,st2,f2,W,⟨m0,w0⟩,turn⟩:=h2
 subst e
 have stat:∀{H':Hp},(∀b∈fp,H' b=none)->∀b∈fp,Pq X pins H' b:=λhn b hb=>⟨hn b hb,(f2 b hb).2⟩
 refine codeAny_forLoop_any (λn s'=>∃i σ' H',Inv X pins σ' H' s'/\tn i s'.heap/\(∀b∈fp,H' b=none)/\W i n σ' H') ?_ m0 ⟨0,σ,H2,I2,st2,λb hb=>(f2 b hb).1,w0⟩
 rintro n s3 ⟨i,σ3,H3,I3,st3,fr3,w3⟩
 rcases turn i n σ3 H3 w3 with⟨stop,qn⟩|⟨go,N,hN,step⟩
 .refine vN hp (thn (T.done X rfl rfl rfl hc i pins s3 σ3 H3 X.xe I3 (stat fr3) st3 stop) λr s4 ⟨hr,I4⟩=>?_)
  subst hr
  exact wU ⟨σ3,H3,I4,qn⟩
 .refine vN hp (thn (T.item X rfl rfl rfl hc i pins s3 σ3 H3 X.xe I3 (stat fr3) st3 go) λr s4 ⟨u,hr,h4⟩=>?_)
  subst hr
  refine vN hp (thn h4 λ_ s5 z=>?_)
  obtain⟨x,H5,I5,r5,y5,st5,fr5⟩:=z
  have I5':=I5.pinned (stat fr5) (T.obj _ _ st5)
  refine vN hp (thn (hg _ s5 σ3 H5 x u _ I5' r5 (step x H5 y5)) λ_ s6 z=>?_)
  obtain⟨σ6,H6,I6,q6⟩:=z
  refine vN hp (thn (hb _ s6 σ6 H6 _ I6 q6) λf s7 q7=>?_)
  have again:∀{σ7:St} {H7:Hp},Inv X (pins++Oe fp s5.heap) σ7 H7 s7->N σ7 H7->∃m,m<n/\∃i σ' H',Inv X pins σ' H' s7/\tn i s7.heap/\(∀b∈fp,H' b=none)/\W i m σ' H':=λ{σ7 H7} I7 n7=>by
   obtain⟨m',hm,w7⟩:=hN σ7 H7 n7
   refine⟨m',hm,i+1,σ7,H7,I7.LA,T.keep _ _ _ st5 λb hb o e=>(I7.pin (b,o) (sY _ (sY _ (Hu hb e)))).1,λb hb=>?_,w7⟩
   obtain⟨o,e,d⟩:=T.obj _ _ st5 b hb
   exact(I7.pin (b,o) (sY _ (sY _ (Hu hb e)))).2.1
  cases f with
  |next=>obtain⟨σ7,H7,I7,n7⟩:=q7;exact again I7 n7
  |cont=>obtain⟨σ7,H7,I7,n7⟩:=q7;exact again I7 n7
  |brk=>obtain⟨σ7,H7,I7,q7⟩:=q7;exact⟨σ7,H7,I7.LA,q7⟩
  |ret v=>obtain⟨x7,σ7,H7,I7,r7,q7⟩:=q7;exact⟨x7,σ7,H7,I7.LA,r7,q7⟩
end
end L2
namespace L2
open PySem PySem.Spec PyProof.Rows
abbrev R2:=V->V->Hp->VK->Prop
def OpR(X:Cx)(f:rD->rD->Sem rD)(r:R2):Prop:=
 ∀(pins:Wp (rL×Obj)) (s:rP) (σ:St) (H:Hp) (x y:V) (v u:rD) (Q:VK),Inv X pins σ H s->RelV x v->RelV y u->r x y H Q->
  wpAny (model X.prog X.w) X.A (f v u) (EP X pins σ Q) X.xe s
def UnR(X:Cx)(f:rD->Sem rD)(r:V->Hp->VK->Prop):Prop:=
 ∀(pins:Wp (rL×Obj)) (s:rP) (σ:St) (H:Hp) (x:V) (v:rD) (Q:VK),Inv X pins σ H s->RelV x v->r x H Q->
  wpAny (model X.prog X.w) X.A (f v) (EP X pins σ Q) X.xe s
def EG(X:Cx)(f:rD)(r:Wp V->Hp->VK->Prop):Prop:=
 ∀(pins:Wp (rL×Obj)) (s:rP) (σ:St) (H:Hp) (xs:Wp V) (us:Wp rD) (Q:VK),Inv X pins σ H s->Vals xs us->r xs H Q->
  wpAny (model X.prog X.w) X.A (call f us) (EP X pins σ Q) X.xe s
noncomputable def tOp(r:R2)(ta tb:TE):TE:=λσ H Q=>ta σ H λx H1=>tb σ H1 λy H2=>r x y H2 Q
noncomputable def tUn(r:V->Hp->VK->Prop)(ta:TE):TE:=λσ H Q=>ta σ H λx H1=>r x H1 Q
noncomputable def rI(C:Int->Int->Prop)(g:Int->Int->V):R2:=λx y H Q=>∃i j,x=.int i/\y=.int j/\C i j/\Q (g i j) H
noncomputable def rI0(g:Int->Int->V):R2:=λx y H Q=>∃i j,x=.int i/\y=.int j/\Q (g i j) H
def rU(g:Int->V):V->Hp->VK->Prop:=λx H Q=>∃i,x=.int i/\Q (g i) H
section
variable{X:Cx}{a b c:tF}{ta tb tc:TE}{pos:Pos}
def mF(ha:PE X a ta)(hb:PE X b tb){σ:St}{R:V->V->Hp->Prop}(I:Inv X pins σ H s)(h:ta σ H λx H1=>tb σ H1 λy H2=>R x y H2){f:rD->rD->Sem rD}(hf:∀v u s2 x y H2,Inv X pins σ H2 s2->RelV x v->RelV y u->R x y H2->wpAny (model X.prog X.w) X.A (f v u) Q X.xe s2):wpAny (model X.prog X.w) X.A (eval a X.env) (λv s₁=>wpAny (model X.prog X.w) X.A (eval b X.env) (λu s₂=>wpAny (model X.prog X.w) X.A (f v u) Q X.xe s₂) X.xe s₁) X.xe s:=by
 refine thn (ha pins s σ H _ I h) λv s1 z=>?_
 obtain⟨x,H1,I1,r1,q1⟩:=z
 refine thn (hb pins s1 σ H1 _ I1 q1) λu s2 z=>?_
 obtain⟨y,H2,I2,r2,q2⟩:=z
 exact hf v u s2 x y H2 I2 r1 r2 q2
def kS{op:Operator}{r:R2}(ho:OpR X (binaryOp op) r)(ha:PE X a ta)(hb:PE X b tb):PE X (.BinOp a op b pos) (tOp r ta tb):=by
 intro pins s σ H Q I h
 exact wpAny_BinOp (mF ha hb I h λv u s2 x y H2 I2 rx ry q=>ho pins s2 σ H2 x y v u Q I2 rx ry q)
def mL{op:UnaryOp}{r:V->Hp->VK->Prop}(ho:UnR X (unaryOp op) r)(ha:PE X a ta):PE X (.UnaryOp op a pos) (tUn r ta):=by
 intro pins s σ H Q I h
 exact UnaryOp_ (thn (ha pins s σ H _ I h) λv s1 ⟨x,H1,I1,r1,q1⟩=>ho pins s1 σ H1 x v Q I1 r1 q1)
def opI{C:Int->Int->Prop}{g:Int->Int->Int}(rule:∀i j (t u:Tok) s Q E,C i j->Q (.int (g i j) s.toks) {s with toks:=s.toks+1}->wpAny (model X.prog X.w) X.A (f (.int i t) (.int j u)) Q E s):OpR X f (rI C λi j=>.int (g i j)):=by
 intro pins s σ H x y v u Q I rx ry h
 obtain⟨i,j,rfl,rfl,hc,q⟩:=h
 obtain⟨t,rfl⟩:=rx
 obtain⟨t',rfl⟩:=ry
 exact rule i j t t' s _ _ hc ⟨.int (g i j),H,I.tok _,⟨_,rfl⟩,q⟩
def nZ{g:Int->Int->Int}(rule:∀i j (t u:Tok) s Q E,Q (.int (g i j) s.toks) {s with toks:=s.toks+1}->wpAny (model X.prog X.w) X.A (f (.int i t) (.int j u)) Q E s):OpR X f (rI0 λi j=>.int (g i j)):=by
 intro pins s σ H x y v u Q I rx ry h
 obtain⟨i,j,rfl,rfl,q⟩:=h
 obtain⟨t,rfl⟩:=rx
 obtain⟨t',rfl⟩:=ry
 exact rule i j t t' s _ _ ⟨.int (g i j),H,I.tok _,⟨_,rfl⟩,q⟩
def iq{g:Int->Int->su}(rule:∀i j (t u:Tok) s Q E,Q (.bool (g i j)) s->wpAny (model X.prog X.w) X.A (f (.int i t) (.int j u)) Q E s):OpR X f (rI0 λi j=>.bl (g i j)):=by
 intro pins s σ H x y v u Q I rx ry h
 obtain⟨i,j,rfl,rfl,q⟩:=h
 obtain⟨t,rfl⟩:=rx
 obtain⟨t',rfl⟩:=ry
 exact rule i j t t' s _ _ ⟨.bl (g i j),H,I,rfl,q⟩
def pf(i j:Int):Prop:=0<=j/\j<=1000000/\i.natAbs<2^64
def kg(i j:Int):Prop:=(-(2^64)<i/\i<2^64)\/(-(2^64)<j/\j<2^64)
def kg.ok{i j:Int}(h:kg i j):IntMulOk i j:=by
 rcases h with⟨h1,h2⟩|⟨h1,h2⟩
 .exact .of_left (intBits_le_64 h1 h2)
 .exact .of_right (intBits_le_64 h1 h2)
def d6:OpR X (binaryOp .Add) (rI0 λi j=>.int (i+j)):=nZ λ_ _ _ _ _ _ _ q=>add_int q
def eY:OpR X (binaryOp .Sub) (rI0 λi j=>.int (i-j)):=nZ λ_ _ _ _ _ _ _ q=>sub_int q
def Yy:OpR X (binaryOp .Mult) (rI kg λi j=>.int (i*j)):=opI λ_ _ _ _ _ _ _ hc q=>mul_int q hc.ok
def gy:OpR X (binaryOp .Mod) (rI (λ_ j=>0<j) λi j=>.int (i % j)):=opI λi j _ _ _ _ _ hc q=>by
 have h1:(0:Int)<j:=hc
 exact mod_int' (by lia) (by rw[Int.fmod_eq_emod_of_nonneg i (by lia)];exact q)
def gk:OpR X (binaryOp .Pow) (rI pf λi j=>.int (i^j.toNat)):=opI λ_ _ _ _ _ _ _ hc q=>pow_int_small hc.1 hc.2.1 hc.2.2 q
def unI{g:Int->Int}(rule:∀i (t:Tok) s Q E,Q (.int (g i) s.toks) {s with toks:=s.toks+1}->wpAny (model X.prog X.w) X.A (f (.int i t)) Q E s):UnR X f (rU λi=>.int (g i)):=by
 intro pins s σ H x v Q I rx h
 obtain⟨i,rfl,q⟩:=h
 obtain⟨t,rfl⟩:=rx
 exact rule i t s _ _ ⟨.int (g i),H,I.tok _,⟨_,rfl⟩,q⟩
def dU:UnR X (unaryOp .USub) (rU λi=>.int (-i)):=unI λ_ _ _ _ _ q=>neg_int q
end
section
variable{X:Cx}{a b c:tF}{ta tb tc:TE}{pos:Pos}
def Yb{σ:St}(I:Inv X pins σ H s)(q:Q (.bl k) H)(e:k=k'):EP X pins σ Q (.bool k') s:=by
 subst e
 exact⟨.bl k,H,I,rfl,q⟩
def kB:OpR X (compareOp .Lt) (rI0 λi j=>.bl (decide (i<j))):=iq λ_ _ _ _ _ _ _ q=>lt_int q
def bF:OpR X (compareOp .LtE) (rI0 λi j=>.bl (decide (i<=j))):=iq λ_ _ _ _ _ _ _ q=>le_int q
def kH:OpR X (compareOp .Gt) (rI0 λi j=>.bl (decide (j<i))):=iq λ_ _ _ _ _ _ _ q=>gt_int q
def mB:OpR X (compareOp .GtE) (rI0 λi j=>.bl (decide (j<=i))):=iq λ_ _ _ _ _ _ _ q=>ge_int q
def dO:OpR X (compareOp .Is) (λx y H Q=>y=.non/\Q (.bl (decide (x=.non))) H):=by
 intro pins s σ H x y v u Q I rx ry h
 obtain⟨rfl,q⟩:=h
 cases ry
 refine is_none_gen (Yb I q ?_)
 cases x<;>first
  |(cases rx;rfl)
  |(obtain⟨t,rfl⟩:=rx;rfl)
def ZY:OpR X (compareOp .IsNot) (λx y H Q=>y=.non/\Q (.bl (!decide (x=.non))) H):=by
 intro pins s σ H x y v u Q I rx ry h
 obtain⟨rfl,q⟩:=h
 cases ry
 refine isnot_none_gen (Yb I q ?_)
 cases x<;>first
  |(cases rx;rfl)
  |(obtain⟨t,rfl⟩:=rx;rfl)
def ao{op:CmpOp}{r:R2}(ho:OpR X (compareOp op) r)(ha:PE X a ta)(hb:PE X b tb)(hm:behindInMarks op b=false):PE X (.Compare a [op] [b] pos) (tOp r ta tb):=by
 intro pins s σ H Q I h
 exact wpAny_Compare1 (mF ha hb I h λv u s2 x y H2 I2 rx ry q=>ho pins s2 σ H2 x y v u Q I2 rx ry q) hm
noncomputable def fO(t:TE):TT:=λσ H Q=>t σ H λx H'=>∃k,x=.bl k/\Q k H'
def VE{op:CmpOp}{r:R2}(ho:OpR X (compareOp op) r)(ha:PE X a ta)(hb:PE X b tb)(hm:behindInMarks op b=false):PT X (.Compare a [op] [b] pos) (fO (tOp r ta tb)):=by
 intro pins s σ H Q I h
 refine wpAny_isTrue_Compare1 (thn (ha pins s σ H _ I h) λv s1 ⟨x,H1,I1,r1,q1⟩=>thn (hb pins s1 σ H1 _ I1 q1) λu s2 ⟨y,H2,I2,r2,q2⟩=>
  thn (ho pins s2 σ H2 x y v u _ I2 r1 r2 q2) λc s3 ⟨z,H3,I3,r3,k,e,q3⟩=>?_) hm
 subst e
 cases r3
 exact uo ⟨H3,I3,q3⟩
noncomputable def ZK(r r':R2)(ta tb tc:TE):TE:=λσ H Q=>ta σ H λx H1=>tb σ H1 λy H2=>r x y H2 λz H3=>∃k,z=.bl k/\
 (if k=true then tc σ H3 λw' H4=>r' y w' H4 Q else Q (.bl false) H3)
def WV{op op':CmpOp}{r r':R2}(ho:OpR X (compareOp op) r)(ho':OpR X (compareOp op') r')(ha:PE X a ta)(hb:PE X b tb)(hc:PE X c tc)(hm:x0 (lastMarks [op,op'] [b,c]=false) wp):PE X (.Compare a [op,op'] [b,c] pos) (ZK r r' ta tb tc):=by
 intro pins s σ H Q I h
 refine Compare_chain (thn (ha pins s σ H _ I h) λv s1 ⟨x,H1,I1,r1,q1⟩=>chain_link (thn (hb pins s1 σ H1 _ I1 q1) λu s2 ⟨y,H2,I2,r2,q2⟩=>
  thn (ho pins s2 σ H2 x y v u _ I2 r1 r2 q2) λd s3 ⟨z,H3,I3,r3,k,e,q3⟩=>?_)) hm
 subst e
 cases r3
 refine uo ?_
 cases k with
 |false=>exact ite_ff ⟨.bl false,H3,I3,rfl,q3⟩
 |true=>exact ite_tt (chain_last (thn (hc pins s3 σ H3 _ I3 q3) λw' s4 ⟨z',H4,I4,r4,q4⟩=>ho' pins s4 σ H4 y z' u w' Q I4 r2 r4 q4))
def PB:(sizeLine:Nat)<2^63:=by rw[sizeLine_eq];decide
def Rc:OpR X (binaryOp .Add) (λx y H Q=>∃i j,x=.str i/\y=.str j/\i.length+j.length<=sizeLine/\Q (.str (i++j)) H):=by
 intro pins s σ H x y v u Q I rx ry h
 obtain⟨i,j,rfl,rfl,hz,q⟩:=h
 obtain⟨t,rfl⟩:=rx
 obtain⟨t',rfl⟩:=ry
 exact add_str (λt' tk=>⟨.str (i++j),H,I.tok _,⟨_,rfl⟩,q⟩) hz
def vals1{x:V}{us:Wp rD}(r:Vals [x] us):∃u,us=[u]/\RelV x u:=by
 cases r with
 |cons r1 r2=>cases r2;exact⟨_,rfl,r1⟩
def vals2{x y:V}{us:Wp rD}(r:Vals [x,y] us):∃u w',us=[u,w']/\RelV x u/\RelV y w':=by
 cases r with
 |cons r1 r2=>
  cases r2 with
  |cons r3 r4=>cases r4;exact⟨_,_,rfl,r1,r3⟩
def WO:EG X (.builtin "abs") (λxs H Q=>∃i,xs=[.int i]/\Q (.int (if i<0 then-i else i)) H):=by
 intro pins s σ H xs us Q I r h
 obtain⟨i,rfl,q⟩:=h
 obtain⟨u,rfl,t,rfl⟩:=vals1 r
 exact call_abs_int λu tk=>⟨.int (if i<0 then-i else i),H,I.tok _,⟨_,rfl⟩,q⟩
def TL(hc:X.calm=true):EG X (.builtin "min") (λxs H Q=>∃i j,xs=[.int i,.int j]/\Q (.int (if j<i then j else i)) H):=by
 intro pins s σ H xs us Q I r h
 obtain⟨i,j,rfl,q⟩:=h
 obtain⟨u,w',rfl,⟨t,rfl⟩,⟨t',rfl⟩⟩:=vals2 r
 refine min_two_ints (I.ok.hd hc) λh' tk k=>⟨_,H,I.kept k,?_,q⟩
 by_cases hj:j<i
 .rw[sD hj,sD hj];exact⟨_,rfl⟩
 .rw[sH hj,sH hj];exact⟨_,rfl⟩
def Ox:EG X (.type "int") (λxs H Q=>(∃i,xs=[.int i]/\Q (.int i) H)\/∃k,xs=[.bl k]/\Q (.int (if k then 1 else 0)) H):=by
 intro pins s σ H xs us Q I r h
 rcases h with⟨i,rfl,q⟩|⟨k,rfl,q⟩
 .obtain⟨u,rfl,t,rfl⟩:=vals1 r
  exact call_int_int ⟨.int i,H,I,⟨_,rfl⟩,q⟩
 .obtain⟨u,rfl,r1⟩:=vals1 r
  cases r1
  exact call_int_bool ⟨.int (if k then 1 else 0),H,I.tok _,⟨_,rfl⟩,q⟩
end
end L2
namespace L2
open PySem PySem.Spec PyProof.Rows
structure ar(h:tS)(x dx C:rL)(mA:Str->qz rD):Prop where
 obj:h.get? x=Gc (uu C dx)
 ns:h.Ns1 dx mA
 ne:dx≠x
def TB{h:tS}{mA:Str->qz rD}(n:h.Ns1 dx mA):∃od,h.get? dx=Gc od/\∀name,x9 name od=Gc (mA name):=by
 obtain⟨o,es,ep,ho,hd,hk,_,hm⟩:=n
 refine⟨o,ho,λname=>?_⟩
 have e:=hm name
 unfold nsFind findBy at e
 rw[<-Array.find?_toList]at e
 unfold x9
 rw[hd]
 dsimp only
 split
 .rename_i y q
  rw[q]at e
  exact congrArg Gc e
 .rename_i q
  rw[q]at e
  have a:es.toList.any (·.refKey)=false:=by
   rw[List.any_eq_false]
   intro y hy
   obtain⟨z,t,hkey⟩:=hk y (Array.mem_toList_iff.mp hy)
   simp[DictEntry.refKey,hkey]
  have a':¬es.toList.any (·.refKey)=true:=by rw[a];exact sZ
  rw[sH a']
  exact congrArg Gc e
def ar.look{mA:Str->qz rD}(I:ar h x dx C mA):∃od,PySem.W.InstAt h x (uu C dx) C (Gc od)/\∀name,x9 name od=Gc (mA name):=
 let⟨od,ho,hl⟩:=TB I.ns
 ⟨od,⟨I.obj,rfl,rfl,ho⟩,hl⟩
section
variable{prog:sx}{w:uL}{A:ux}{E:rD->rP->Prop}{s:rP}{K:W1}{x dx C f:rL}{mA:Str->qz rD}{name:Str}{v:rD}
def get_map{expr:su}{Q:rD->rP->Prop}(X:K.In s.heap)(I:ar s.heap x dx C mA)(hg:v8 K C name=true)(hh:wt K C=true)(ha:tH K (.ref C) name=Gc none)(hv:mA name=Gc v)(hv':PySem.W.handedIn v=true)(h:Q v {s with toks:=s.toks+1}):wpAny (model prog w) A (getAttr (.ref x) name expr) Q E s:=by
 obtain⟨od,J,hl⟩:=I.look
 exact PySem.W.get_value X J (xh hg).1 (PySem.W.findObj_own hh ha rfl (by rw[hl,hv])) hv' h
def YC{pl:Sem su}{Q:rD×Wp rD->rP->Prop}(X:K.In s.heap)(I:ar s.heap x dx C mA)(hg:v8 K C name=true)(hf:tH K (.ref C) name=Gc (Gc (.ref f)))(ht:xk K (.ref f)=true)(hv:mA name=none)(h:Q (.ref f,[.ref x]) s):wpAny (model prog w) A (getMethod (.ref x) name pl) Q E s:=by
 obtain⟨od,J,hl⟩:=I.look
 exact PySem.W.method_fn X J (xh hg).1 (xh hg).2 hf (uv.mp ht) (by show(x9 name od).map (·.isSome)=Gc false;rw[hl,hv];rfl) h
def Z4{ns:Wp Str}{Q:Unit->rP->Prop}(X:K.In s.heap)(I:ar s.heap x dx C mA)(hs:tH K (.ref C) "__setattr__"=Gc (Gc (.builtin "object.__setattr__")))(hp:yM K C=true)(ht:y3 K C name=Gc none)(hh:wt K C=true)(hw:PySem.Within mA ns)(hsz:ns.length<=sizeLine)(h:∀h',ar h' x dx C (λy=>if y=name then Gc v else mA y)->wm dx s.heap h'->Q () {s with heap:=h',toks:=s.toks+2}):wpAny (model prog w) A (setAttr (.ref x) name v) Q E s:=by
 obtain⟨od,J,hl⟩:=I.look
 refine PySem.W.set_plain X J hs (PySem.W.osa_open (s:={s with toks:=s.toks+1}) (r:=none) X J hp ht λb=>?_)
 obtain⟨cd,hc,hd'⟩:=PySem.W.any_some hh
 have hx:s.heap.get? x=Gc ⟨.ref C,Gc dx,.plain, #[]⟩:=I.obj
 refine qu (rS (qu (qu (wpAny_loadPart hx (qu (PySem.W.Looks.here (s:={s with toks:=s.toks+1}) (PySem.W.looks_clsIn X hc) ?_))))))
 rw[hd']
 refine rS (a:=Gc dx) (qu (rS (qu ?_)))
 refine wpAny_nsSet1 (s:={s with toks:=s.toks+1}) I.ns λh' hn2 hs2=>?_
 obtain⟨oD,esD,epD,hoD,hdD,hcD⟩:=hn2.count (PySem.Within.cons name v hw)
 refine qu (wpAny_lookBehind hoD (by rw[hdD];exact pastItsLine_dict (q8 hcD (by rw[sS];lia))) ?_)
 exact rS (h _ ⟨(hs2.2 _ (tu I.ne)).trans I.obj,hn2,I.ne⟩ hs2)
def YB{kw:Wp (Str×rD)}(X:K.In s.heap)(hm:y4 K C=true)(hi:tH K (.ref C) "__init__"=Gc (Gc (.ref f)))(hf:PySem.W.typeIn K (.ref f)=Gc (.type "function"))(h:codeAny (model prog w) (A.under (.builtin "type.__call__" ⟨.ref C::vs,kw⟩)) (.call (.ref f) ⟨.ref (s.heap.objs.size+1)::vs,kw⟩) (PySem.W.InitBack (s.heap.objs.size+1) R) {s with heap:=(s.heap.push uE).push (uu C s.heap.objs.size)}):codeAny (model prog w) A (.call (.ref C) ⟨vs,kw⟩) R s:=by
 obtain⟨hh,g,d,t,os⟩:=s
 exact PySem.W.make_core (PySem.W.makes_of X hm) (PySem.W.looks_findIn X hi) (λself=>PySem.W.bind_fn X self hf) (.inl rfl) h
end
noncomputable def Mz(f:Str)(v:V):Wp (Str×V)->Wp (Str×V)
 | []=>[(f,v)]
 |(g,x)::r=>if g=f then(g,v)::r else(g,x)::Mz f v r
theorem L0 f g(v:V):∀fs,(Mz f v fs).lookup g=if g=f then Gc v else fs.lookup g
 | []=>by
   show uP g [(f,v)]=_
   by_cases h:g=f
   .have hb:(g==f)=true:=uv.mpr h
    simp only[uP,hb,sD h]
   .have hb:(g==f)=false:=tZ.mpr h
    simp only[uP,hb,sH h]
 |(k,x)::r=>by
  have ih:=L0 f g v r
  rw[show Mz f v ((k,x)::r)=(if k=f then(k,v)::r else(k,x)::Mz f v r)from rfl]
  by_cases hk:k=f
  .rw[sD hk]
   by_cases h:g=k
   .have hb:(g==k)=true:=uv.mpr h
    simp only[uP,hb,sD (h.trans hk)]
   .have hb:(g==k)=false:=tZ.mpr h
    simp only[uP,hb,sH (λe:g=f=>h (e.trans hk.symm))]
  .rw[sH hk]
   by_cases h:g=k
   .have hb:(g==k)=true:=uv.mpr h
    simp only[uP,hb,sH (λe:g=f=>hk (h.symm.trans e))]
   .have hb:(g==k)=false:=tZ.mpr h
    simp only[uP,hb]
    exact ih
theorem Lr f(v:V):∀fs,f∈(Mz f v fs).map (·.1)/\∀g,g∈fs.map (·.1)->g∈(Mz f v fs).map (·.1)
 | []=>⟨by simp[Mz],λg h=>by simp at h⟩
 |(k,x)::r=>by
  obtain⟨i1,i2⟩:=Lr f v r
  rw[show Mz f v ((k,x)::r)=(if k=f then(k,v)::r else(k,x)::Mz f v r)from rfl]
  by_cases hk:k=f
  .rw[sD hk]
   subst hk
   exact⟨by simp,λg h=>by simpa using h⟩
  .rw[sH hk]
   refine⟨?_,λg h=>?_⟩
   .rw[rT]
    exact rC _ i1
   .rw[rT]at h⊢
    rcases qy.mp h with e|e
    .exact qy.mpr (.inl e)
    .exact rC _ (i2 g e)
theorem Lj f(v:V):∀fs,(Mz f v fs).length<=fs.length+1
 | []=>by simp[Mz]
 |(k,x)::r=>by
  have ih:=Lj f v r
  rw[show Mz f v ((k,x)::r)=(if k=f then(k,v)::r else(k,x)::Mz f v r)from rfl]
  by_cases hk:k=f
  .rw[sD hk,sS,sS];lia
  .rw[sH hk,sS,sS];lia
def Px.some_of{v:V}{o:qz rD}(r:Px (Gc v) o):∃u,o=Gc u/\RelV v u:=by
 cases o with
 |none=>exact(show uO from r).elim
 |some u=>exact⟨u,rfl,r⟩
def Px.none_of{o:qz rD}(r:Px none o):o=none:=by
 cases o with
 |none=>rfl
 |some u=>exact(show uO from r).elim
def Vs{v:V}{u:rD}(r:RelV v u):PySem.W.handedIn u=true:=by
 cases v with
 |non=>cases (show u=sL from r);rfl
 |bl b=>cases (show u=xu b from r);rfl
 |int i=>obtain⟨t,e⟩:=(show∃t,u=xr i t from r);cases e;rfl
 |str x=>obtain⟨t,e⟩:=(show∃t,u=xt x t from r);cases e;rfl
 |byt b=>obtain⟨t,e⟩:=(show∃t,u=Value.bytes b t from r);cases e;rfl
 |flt b=>obtain⟨t,e⟩:=(show∃t,u=Value.float b t from r);cases e;rfl
 |ref a=>cases (show u=sA a from r);rfl
 |ty n=>cases (show u=xv n from r);rfl
section
variable{P:sx}{w:uL}{H H':Hp}{h h':tS}{a C dx:rL}{fs fs':Wp (Str×V)}
def OJ(hok:HOk P w H h)(e:H a=Gc (.ins C dx fs)):∃mA,ar h a dx C mA/\(∀f,Px (fs.lookup f) (mA f))/\PySem.Within mA (fs.map (·.1))/\fs.length<=1000/\H dx=Gc (.own a):=by
 obtain⟨d,z,ne,ob,mA,n,r,q⟩:=(show D1 P w H h a (.ins C dx fs)from hok a _ e)
 exact⟨mA,⟨ob,n,ne⟩,r,q,z,d⟩
end
structure Cls(K:W1)(C:rL):Prop where
 pg:v8 K C Str.empty=true
 hd:wt K C=true
 po:yM K C=true
 sa:tH K (.ref C) "__setattr__"=Gc (Gc (.builtin "object.__setattr__"))
def Cls.get{K:W1}(c:Cls K C)(f:Str):v8 K C f=true:=c.pg
def HZ(K:W1)(C:rL)(f:Str):Prop:=tH K (.ref C) f=Gc none
def HZ.kW{K:W1}{f:Str}(n:HZ K C f):y3 K C f=Gc none:=by
 unfold y3
 rw[show tH K (.ref C) f=Gc none from n]
 rfl
structure Con(K:W1)(C:rL)(f:Str)(v:V)(u:rD):Prop where
 at_:tH K (.ref C) f=Gc (Gc u)
 rel:RelV v u
 get:PySem.W.specialIn K u "__get__"=Gc none
 cp:PySem.W.copiedNames.contains f=false
structure Meth(K:W1)(C:rL)(m:Str)(f:rL):Prop where
 at_:tH K (.ref C) m=Gc (Gc (.ref f))
 fn:xk K (.ref f)=true
 kp:tL K (.ref f)=true
section
variable{X:Cx}{pins:Wp (rL×Obj)}{σ:St}{H:Hp}{s:rP}{a C dx:rL}{fs:Wp (Str×V)}{f:Str}{v:V}{A:ux}{E:rD->rP->Prop}
def R6{b:su}{Q:rD->rP->Prop}(I:Inv X pins σ H s)(e:H a=Gc (.ins C dx fs))(c:Cls X.K C)(n:HZ X.K C f)(l:fs.lookup f=Gc v)(h:∀u s',Inv X pins σ H s'->RelV v u->Q u s'):wpAny (model X.prog X.w) A (getAttr (.ref a) f b) Q E s:=by
 obtain⟨mA,O,r,_,_,_⟩:=OJ I.hok e
 obtain⟨u,hu,ru⟩:=Px.some_of (v:=v) (o:=mA f) (by rw[<-l];exact r f)
 exact get_map I.kIn O (c.get f) c.hd n hu (Vs ru) (h u _ (I.tok _) ru)
def GJ{Q:rD×Wp rD->rP->Prop}(I:Inv X pins σ H s)(e:H a=Gc (.ins C dx fs))(c:Cls X.K C)(k:Meth X.K C m g)(l:fs.lookup m=none)(h:Q (.ref g,[.ref a]) s):wpAny (model X.prog X.w) A (getMethod (.ref a) m pl) Q E s:=by
 obtain⟨mA,O,r,_,_,_⟩:=OJ I.hok e
 have hn:mA m=none:=Px.none_of (by rw[<-l];exact r m)
 exact YC I.kIn O (c.get m) k.at_ k.fn hn h
def Ri{Q:Unit->rP->Prop}(I:Inv X pins σ H s)(e:H a=Gc (.ins C dx fs))(c:Cls X.K C)(n:HZ X.K C f)(hl:fs.length<1000)(ry:RelV y u)(h:∀s',Inv X pins σ (upd H a (.ins C dx (Mz f y fs))) s'->Q () s'):wpAny (model X.prog X.w) A (setAttr (.ref a) f u) Q E s:=by
 obtain⟨mA,O,r,wi,_,ho⟩:=OJ I.hok e
 have hz:(fs.map (·.1)).length<=sizeLine:=by rw[sG,sizeLine_eq];lia
 refine Z4 I.kIn O c.sa c.po n.kW c.hd wi hz λh' O' sb=>h _ ?_
 have hd:∃o,h'.get? dx=Gc o:=let⟨o,_,_,e',_⟩:=O'.ns;⟨o,e'⟩
 refine I.write (x:=a) (e:=dx) (by rw[e];exact wX) (.inr ho) (λb q hb z=>(sb.2 b hb).trans z) hd ?_
 refine⟨by rw[Ae O.ne];exact ho,?_,O.ne,O'.obj,_,O'.ns,λg=>?_,λg hg=>?_⟩
 .have:=Lj f y fs;lia
 .show Px ((Mz f y fs).lookup g) (if g=f then Gc u else mA g)
  rw[L0]
  by_cases q:g=f
  .rw[sD q,sD q];exact ry
  .rw[sH q,sH q];exact r g
 .by_cases q:g=f
  .rw[q];exact(Lr f y fs).1
  .refine(Lr f y fs).2 g (wi g λz=>hg ?_)
   show(if g=f then Gc u else mA g)=none
   rw[sH q];exact z
def Inv.made(I:Inv X pins σ H s):Inv X pins σ (upd (upd H s.heap.objs.size (.own (s.heap.objs.size+1))) (s.heap.objs.size+1) (.ins C s.heap.objs.size [])) {s with heap:=(s.heap.push uE).push (uu C s.heap.objs.size)}:=by
 have e1:(s.heap.push uE).get? s.heap.objs.size=Gc uE:=rW s.heap rfl
 have e2:((s.heap.push uE).push (uu C s.heap.objs.size)).get? (s.heap.objs.size+1)=Gc (uu C s.heap.objs.size):=by
  have:=rW (s.heap.push uE) (o:=uu C s.heap.objs.size) rfl
  rwa [tT]at this
 have e3:(s.heap.push uE).Ns s.heap.objs.size (λ_=>none):=⟨uE, #[],_,e1,rfl,(λe he=>absurd he (by simp)),λ_=>rfl⟩
 have I1:=I.laid (a:=s.heap.objs.size) (o:=.own (s.heap.objs.size+1)) (h':=s.heap.push uE) (t':=s.toks) (λb u q=>qt _ q) (q9 _) ⟨_,e1⟩
 refine I1.laid (a:=s.heap.objs.size+1) (o:=.ins C s.heap.objs.size []) (t':=s.toks) (λb u q=>qt _ q) (Nat.le_of_eq (tT _ _)) ?_
 have ne:s.heap.objs.size≠s.heap.objs.size+1:=sM (yb _)
 refine⟨by rw[Ae ne,Ax],uQ _,ne,e2,λ_=>none,(Heap.Ns1.of_empty e3).at λo q=>qt _ q,λ_=>wX,λy hy=>absurd rfl hy⟩
def ZQ(hb:attributeBase e f env (eval e env)=eval e env)(h:wpAny (model prog w) A (eval e env) (λo s₁=>wpAny (model prog w) A (getAttr o f true) Q E s₁) E s):wpAny (model prog w) A (eval (.Attribute e f pos) env) Q E s:=
 Attribute_any_ h (by rw[arm_eval_Attribute,hb])
end
noncomputable def p9(K:W1)(ta:TE)(f:Str):TE:=λσ H Q=>ta σ H λx H1=>∃a C dx fs v,x=.ref a/\H1 a=Gc (.ins C dx fs)/\Cls K C/\HZ K C f/\fs.lookup f=Gc v/\Q v H1
noncomputable def pY(K:W1)(ta tv:TE)(f:Str):TS:=λD σ H=>tv σ H λy H1=>ta σ H1 λx H2=>∃a C dx fs,x=.ref a/\H2 a=Gc (.ins C dx fs)/\Cls K C/\HZ K C f/\fs.length<1000/\
 D.nx σ (upd H2 a (.ins C dx (Mz f y fs)))
section
variable{X:Cx}{o e value:tF}{f:Str}{pos pos' tpos:Pos}{ta tv:TE}
def eL(he:PE X e ta)(hb:attributeBase e f X.env (eval e X.env)=eval e X.env):PE X (.Attribute e f pos) (p9 X.K ta f):=by
 intro pins s σ H Q I h
 refine ZQ hb (thn (he pins s σ H _ I h) λu s1 z=>?_)
 obtain⟨x,H1,I1,rx,a,C,dx,fs,v,ex,ea,c,n,l,q⟩:=z
 subst ex
 obtain rfl:u=sA a:=rx
 exact R6 I1 ea c n l λu' s2 I2 ru=>⟨v,H1,I2,ru,q⟩
def fW(ha:PE X o ta)(hv:PE X value tv)(hs:swapsWith value (Gc (.Attribute o f pos')) pos.line X.env=pure false):PS X (.Assign [.Attribute o f pos'] value pos) (pY X.K ta tv f):=by
 intro pins s σ H D I h
 refine plainObj_wpAny_Assign_Attribute (thn (hv pins s σ H _ I h) λu s1 ⟨y,H1,I1,ry,q⟩=>thn (ha pins s1 σ H1 _ I1 q) λov s2 z=>?_) hs
 obtain⟨x,H2,I2,rx,a,C,dx,fs,ex,ea,c,n,l,q2⟩:=z
 subst ex
 obtain rfl:ov=sA a:=rx
 exact Ri I2 ea c n l ry λs3 I3=>⟨σ,_,I3,q2⟩
end
section
variable{X:Cx}{pins:Wp (rL×Obj)}{σ:St}{H:Hp}{s:rP}{A:ux}{E:rD->rP->Prop}{Q:rD->rP->Prop}{c:rD}{b:su}
inductive SW(K:W1)(H:Hp):V->rD->Prop where
 |non:SW K H .non (.type "NoneType")
 |bl (x:su):SW K H (.bl x) (.type "bool")
 |int (i:Int):SW K H (.int i) (.type "int")
 |str (x:Str):SW K H (.str x) (.type "str")
 |flt (x:UInt64):SW K H (.flt x) (.type "float")
 |lst {a:rL} {xs:Wp V} (e:H a=Gc (.lst xs)):SW K H (.ref a) (.type "list")
 |frz {a:rL} {o:Obj} {xs:Wp V} (e:H a=Gc (.frz o (.lst xs))):SW K H (.ref a) (.type "list")
 |tup {a:rL} {xs:Wp V} (e:H a=Gc (.tup xs)):SW K H (.ref a) (.type "tuple")
 |dK {a:rL} {kvs:Wp (Key×V)} (e:H a=Gc (.dK kvs)):SW K H (.ref a) (.type "dict")
 |dT {a:rL} {kvs:Wp (Wp Key×V)} (e:H a=Gc (.dT kvs)):SW K H (.ref a) (.type "dict")
 |ins {a C dx:rL} {fs:Wp (Str×V)} (e:H a=Gc (.ins C dx fs)) (cl:Cls K C) (ha:tH K (.ref C) "__class__"=Gc (Gc (.builtin "object.__class__")))
   (hn:PySem.W.specialIn K (.builtin "object.__class__") "__get__"=Gc (Gc (.builtin "getset_descriptor.__get__"))) (htk:PySem.W.takesIn K (.builtin "object.__class__")=Gc true)
   (hm:PySem.W.mroIn K C (.type "object")=Gc true):SW K H (.ref a) (.ref C)
def FU{x:V}{u t:rD}(I:Inv X pins σ H s)(rx:RelV x u)(ty:SW X.K H x t)(e:vA X.K t c=Gc b)(h:∀tk,Q (.bool b) {s with toks:=tk}):wpAny (model X.prog X.w) A (call (.builtin "isinstance") [u,c]) Q E s:=by
 cases ty with
 |non=>cases (show u=sL from rx);exact tU PySem.W.kitx_none I.kIn wX e (λz=>nomatch z) h
 |bl y=>cases (show u=xu y from rx);exact tU PySem.W.kitx_bool I.kIn wX e (λz=>nomatch z) h
 |int i=>obtain⟨t,q⟩:=(show∃t,u=xr i t from rx);cases q;exact tU PySem.W.kitx_int I.kIn wX e (λz=>nomatch z) h
 |str y=>obtain⟨t,q⟩:=(show∃t,u=xt y t from rx);cases q;exact tU PySem.W.kitx_str I.kIn wX e (λz=>nomatch z) h
 |flt y=>obtain⟨t,q⟩:=(show∃t,u=Value.float y t from rx);cases q;exact tU PySem.W.kitx_float I.kIn wX e (λz=>nomatch z) h
 | @lst a xs ea=>
   cases (show u=sA a from rx)
   obtain⟨_,_,n,_,h1⟩:=(show D1 X.prog X.w H s.heap a (.lst xs)from I.hok a _ ea)
   exact tU PySem.W.kitx_list I.kIn ⟨_,h1,rfl⟩ e (λz=>nomatch z) h
 | @frz a ob xs ea=>
   cases (show u=sA a from rx)
   obtain⟨_,_,_,n,_,h1⟩:=(show D1 X.prog X.w H s.heap a (.frz ob (.lst xs))from I.hok a _ ea)
   exact tU PySem.W.kitx_list I.kIn ⟨_,h1,rfl⟩ e (λz=>nomatch z) h
 | @tup a xs ea=>
   cases (show u=sA a from rx)
   obtain⟨_,_,_,p⟩:=(show D1 X.prog X.w H s.heap a (.tup xs)from I.hok a _ ea)
   obtain⟨o,h1,h2,_⟩:=p
   exact tU AAC I.kIn ⟨o,h1,h2⟩ e (λz=>nomatch z) h
 | @dK a kvs ea=>
   cases (show u=sA a from rx)
   obtain⟨_,_,vs,_,p⟩:=(show D1 X.prog X.w H s.heap a (.dK kvs)from I.hok a _ ea)
   obtain⟨o,es,ep,h1,h2,_⟩:=p
   exact tU PySem.W.kitx_dict I.kIn ⟨o,h1,h2.1⟩ e (λz=>nomatch z) h
 | @dT a kvs ea=>
   cases (show u=sA a from rx)
   obtain⟨_,_,xs,_,o,es,ep,h1,h2,_⟩:=(show D1 X.prog X.w H s.heap a (.dT kvs)from I.hok a _ ea)
   exact tU PySem.W.kitx_dict I.kIn ⟨o,h1,h2.1⟩ e (λz=>nomatch z) h
 | @ins a C dx fs ea cl ha hn htk hm=>
   cases (show u=sA a from rx)
   obtain⟨mA,O,_⟩:=OJ I.hok ea
   obtain⟨od,J,_⟩:=O.look
   exact tU (PySem.W.kitx_own (cl.get _) cl.hd ha hn htk hm) I.kIn J e (λz=>nomatch z) h
end
end L2
namespace L2
open PySem PySem.Spec PyProof.Rows
structure Ct(k:Nat)(A:ux):Prop where
 hd:A.handled=none
 dp:A.depth+3*k+5<recursionLimit
 un:A.units+16*k+200<cLine
def Ct.mono{j k:Nat}{A:ux}(r:Ct k A)(h:j<=k):Ct j A:=⟨r.hd,by have:=r.dp;lia,by have:=r.un;lia⟩
def Ct.deeper(r:Ct (k+1) A)(env:Env):Ct k (A.deeper env):=
 ⟨r.hd,by have:=r.dp;show A.depth+1+3*k+5<_;lia,by have:=r.un;show A.units+3+16*k+200<_;lia⟩
def Rn{A:ux}{kw:Wp (Str×rD)}:(A.under (.builtin "type.__call__" ⟨.ref C::us,kw⟩)).depth=A.depth+1:=by
 first|rfl|simp[Around.under,Code.weight,Code.isCreation,Code.isGuard,Code.isCaller,Code.frames,Code.isFrame,guardIds]
def RU{A:ux}{kw:Wp (Str×rD)}:(A.under (.builtin "type.__call__" ⟨.ref C::us,kw⟩)).units=A.units+1:=by
 first|rfl|simp[Around.under,Code.cUnits,Code.frames,Code.isFrame]
def Ct.make(r:Ct (k+1) A) C us kw:Ct k (A.under (.builtin "type.__call__" ⟨.ref C::us,kw⟩)):=
 ⟨r.hd,by have:=r.dp;rw[Rn];lia,by have:=r.un;rw[RU];lia⟩
def Ct.depth{k:Nat}{A:ux}(r:Ct k A):A.depth<recursionLimit:=by have:=r.dp;lia
noncomputable def mM:TA:=λ_ H Q=>Q [] H
noncomputable def dQ(ta:TE)(tr:TA):TA:=λσ H Q=>ta σ H λx H1=>tr σ H1 λxs H2=>Q (x::xs) H2
section
variable{X:Cx}{e:tF}{es:Wp tF}{te:TE}{t:TA}{pos:Pos}
def Vd:PA X [] mM:=λ_ _ _ _ H Q I h=>zO ⟨[],H,I,.nil,h⟩
def NY(ha:PE X e te)(hr:PA X es t)(hs:x0 (rG (e::es) X.env=(false,eval e X.env)::rG es X.env) wv):PA X (e::es) (dQ te t):=by
 intro pos pins s σ H Q I h
 rw[hs]
 show wpAny _ _ (spliced ((false,eval e X.env)::backTo pos (rG es X.env))) _ _ s
 refine xS (thn (ha pins s σ H _ I h) λu s1 z=>?_)
 obtain⟨x,H1,I1,r1,q1⟩:=z
 exact thn (hr pos pins s1 σ H1 _ I1 q1) λus s2 ⟨xs,H2,I2,r2,q2⟩=>⟨x::xs,H2,I2,.cons r1 r2,q2⟩
noncomputable def pR(t:TA):TE:=λσ H Q=>t σ H λxs H1=>xs.length<=sizeLine/\∀p,H1 p=none->Q (.ref p) (upd H1 p (.tup xs))
noncomputable def pW(t:TA):TE:=λσ H Q=>t σ H λxs H1=>xs.length<=sizeLine/\∀p,H1 p=none->Q (.ref p) (upd H1 p (.lst xs))
def eQ{x1}(h:PA X es t):PE X (.Tuple es x1 pos) (pR t):=by
 intro pins s σ H Q I hq
 refine wpAny_Tuple_spliced (thn (h pos pins s σ H _ I hq) λus s1 ⟨xs,H1,I1,r,z,q⟩=>⟨by rw[<-r.length];exact z,?_⟩)
 have hf:H1 s1.heap.objs.size=none:=I1.hok.fresh (q9 _)
 refine⟨.ref s1.heap.objs.size,upd H1 s1.heap.objs.size (.tup xs),I1.laid (t':=s1.toks) (λb u e=>qt _ e) (q9 _) ?_,rfl,q _ hf⟩
 exact⟨z,us,r,⟨_,rW _ rfl,rfl,_,rfl⟩⟩
def eH(h:PA X es t):PE X (.List es pos) (pW t):=by
 intro pins s σ H Q I hq
 refine wpAny_List_spliced (thn (h pos pins s σ H _ I hq) λus s1 ⟨xs,H1,I1,r,z,q⟩=>⟨by rw[<-r.length];exact z,?_⟩)
 have hf:H1 s1.heap.objs.size=none:=I1.hok.fresh (q9 _)
 refine⟨.ref s1.heap.objs.size,upd H1 s1.heap.objs.size (.lst xs),I1.laid (t':=s1.toks) (λb u e=>qt _ e) (q9 _) ?_,rfl,q _ hf⟩
 exact⟨z,us,0,r,rW _ rfl⟩
end
abbrev Sp:=Wp V->Hp->VK->XK->Prop
abbrev CXT:=Wp Env->Hp->rP->XK->rD->rP->Prop
structure Y9(P:sx)(w:uL)(K:W1)(mg:Str->qz rD)(base:tS)(A:ux)(outer:Wp Env)(s:rP)(H:Hp):Prop where
 frames:A.frames=Gc outer
 mod:Mod K mg base
 bs:∀b o,base.get? b=Gc o->s.heap.get? b=Gc o/\H b=none
 bsz:base.objs.size<=s.heap.objs.size
 QM:s.heap.FunFrames base outer
 frf:∀b∈frs outer,H b=none
 hok:HOk P w H s.heap
 bare:wd s.gens
def CE(outer:Wp Env)(P:sx)(w:uL)(H:Hp)(s:rP)(Q:VK)(u:rD)(s':rP):Prop:=
 ∃v H',s'.os=s.os/\wd s'.gens/\Un (frs outer) [] H H' s.heap s'.heap/\HOk P w H' s'.heap/\RelV v u/\Q v H'
def CR(CX:CXT)(outer:Wp Env)(P:sx)(w:uL)(H:Hp)(s:rP)(Q:VK)(E:XK)(r:Result)(s':rP):Prop:=
 match r with
 | .ok (.ret u)=>CE outer P w H s Q u s'
 | .ok _=>uO
 | .error e=>CX outer H s E e s'
structure Kg(P:sx)(w:uL)(K:W1)(mg:Str->qz rD)(base:tS)(CX:CXT)(k:Nat)(f:rL)(fd:xT)(ps:Wp Str)(sp:Sp):Prop where
 len:∀vs H Q E,sp vs H Q E->vs.length=ps.length
 run:∀(A:ux) (outer:Wp Env) (s:rP) (H:Hp) (args:Args) (us:Wp rD) (vs:Wp V) (Q:VK) (E:XK),Ct k A->Y9 P w K mg base A outer s H->BindsTo s fd args (ps.zip us)->Vals vs us->sp vs H Q E->
  codeAny (model P w) A (.call (.ref f) args) (CR CX outer P w H s Q E) s
def Kg.mono{K:W1}(F:Kg P w K mg base CX j f fd ps sp)(h:j<=k):Kg P w K mg base CX k f fd ps sp:=⟨F.len,λA outer s H args us vs Q E hr=>F.run A outer s H args us vs Q E (hr.mono h)⟩
def Y9.make{K:W1}(e:Y9 P w K mg base A outer s H)(C:rL) us kw:Y9 P w K mg base (A.under (.builtin "type.__call__" ⟨.ref C::us,kw⟩)) outer s H:=⟨by first|exact e.frames|(simpa[Around.under,Code.envs,Code.isFrame,pushEnvs]using e.frames),e.mod,e.bs,e.bsz,e.QM,e.frf,e.hok,e.bare⟩
section
variable{X:Cx}{pins:Wp (rL×Obj)}{σ:St}{H:Hp}{s s':rP}
def Inv.Yp(I:Inv X pins σ H s):Y9 X.prog X.w X.K X.mg X.base X.A X.stack s H:=
 ⟨I.ok.frames,I.ok.mod,I.bs,q8 I.ok.bsz I.sz,I.stack,I.QQ,I.hok,I.bare⟩
def Inv.after{Q:VK}{u:rD}(I:Inv X pins σ H s)(h:CE X.stack X.prog X.w H s Q u s'):EP X pins σ Q u s':=by
 obtain⟨v,H',os,bare,un,hok,r,q⟩:=h
 obtain⟨hh,g,d,t,os'⟩:=s'
 obtain rfl:os'=s.os:=os
 exact⟨v,H',I.call (h':=hh) (g':=g) (d':=d) (t':=t) (ch:=[]) un hok bare (λb z=>absurd z (by simp)),r,q⟩
end
noncomputable def aH(sp:Sp)(dvs:Wp V)(E:XK)(t:TA):TE:=λσ H Q=>t σ H λvs H1=>sp (vs++dvs) H1 Q E
noncomputable def fA(C:rL)(m:Str)(sp:Sp)(dvs:Wp V)(E:XK)(ta:TE)(t:TA):TE:=λσ H Q=>ta σ H λx H1=>∃a dx fs,x=.ref a/\H1 a=Gc (.ins C dx fs)/\fs.lookup m=none/\
 t σ H1 λvs H2=>sp (x::(vs++dvs)) H2 Q E
noncomputable def lu(C:rL)(sp:Sp)(dvs:Wp V)(E:XK)(t:TA):TE:=λσ H Q=>t σ H λvs H1=>∀x dx,H1 x=none->H1 dx=none->dx≠x->
 sp (.ref x::(vs++dvs)) (upd (upd H1 dx (.own x)) x (.ins C dx [])) (λv H2=>v=.non/\Q (.ref x) H2) E
def Binds(K:W1)(fd:xT)(ps:Wp Str)(ds:Wp rD):Prop:=
 ∀(s:rP) (us:Wp rD),K.In s.heap->(us++ds).length=ps.length->BindsTo s fd ⟨us,[]⟩ (ps.zip (us++ds))
def Binds.all{K:W1}(h:∀us:Wp rD,us.length=ps.length->bindArgs fd ⟨us,[]⟩=pure (ps.zip us)):Binds K fd ps []:=λs us _ hl=>by
 rw[sj]at hl⊢
 exact .of_eq (h us hl)
def Passes(CX:CXT)(X:Cx)(E:XK):Prop:=∀(pins:Wp (rL×Obj)) (σ:St) (H:Hp) (s:rP) (e:rD) (s':rP),Inv X pins σ H s->CX X.stack H s E e s'->X.xe e s'
section
variable{X:Cx}{CX:CXT}{k:Nat}{f C:rL}{fd:xT}{ps:Wp Str}{sp:Sp}{dvs:Wp V}{ds:Wp rD}{E:XK}{x m:Str}{p pos apos:Pos}{e o:tF}{es:Wp tF}{ta:TE}{t:TA}
def RD{σ:St}(F:Kg X.prog X.w X.K X.mg X.base CX k f fd ps sp)(hr:Ct k X.A)(hb:Binds X.K fd ps ds)(hd:Vals dvs ds)(hx:Passes CX X E)(I:Inv X pins σ H s)(r:Vals vs us)(h:sp (vs++dvs) H Q E):wpAny (model X.prog X.w) X.A (call (.ref f) us) (EP X pins σ Q) X.xe s:=by
 have r2:Vals (vs++dvs) (us++ds):=r.append hd
 have hl:(us++ds).length=ps.length:=by rw[<-r2.length];exact F.len _ _ _ _ h
 refine wY (v9 (F.run X.A X.stack s H ⟨us,[]⟩ (us++ds) (vs++dvs) Q E hr I.Yp (hb s us I.kIn hl) r2 h) λr s' hq=>?_)
 cases r with
 |error e=>exact hx pins σ H s e s' I hq
 |ok fl=>
  cases fl with
  |ret u=>exact I.after hq
  |next=>exact si hq
  |brk=>exact si hq
  |cont=>exact si hq
def Zb(F:Kg X.prog X.w X.K X.mg X.base CX k f fd ps sp)(hr:Ct k X.A)(hg:Gl X x)(hm:X.mg x=Gc (.ref f))(hk:tL X.K (.ref f)=true)(hb:Binds X.K fd ps ds)(hd:Vals dvs ds)(hx:Passes CX X E)(ha:PA X (e::es) t)(hdb:x0 ((x==("__debug__":Str))=false) xL)(he:x0 (rG (e::es) X.env=(false,eval e X.env)::rG es X.env) wv)(hpl:x0 ((backTo pos (rG es X.env)).any (·.1)=false) wv):PE X (.Call (.Name x p) (e::es) [] pos) (aH sp dvs E t):=by
 intro pins s σ H Q I h
 refine uB (J3 I hg hm ?_ hdb)
 refine uM (h₀:=X.base) I.ok.mod.kin hk (thn (ha pos pins s σ H _ I h) λus s1 ⟨vs,H1,I1,r,q⟩=>⟨I1.kIn,?_⟩) he hpl
 exact RD F hr hb hd hx I1 r q
def Z5 {pl:Sem su}(he:PE X o ta)(c:Cls X.K C)(hm:Meth X.K C m f)(F:Kg X.prog X.w X.K X.mg X.base CX k f fd ps sp)(hr:Ct k X.A)(hb:Binds X.K fd ps ds)(hd:Vals dvs ds)(hx:Passes CX X E)(ha:PA X (e::es) t)(hst:x0 (rG (e::es) X.env=(false,eval e X.env)::rG es X.env) wv)(hpl:x0 ((backTo pos (rG es X.env)).any (·.1)=false) wv)(ht:x0 (eval (.Call (.Attribute o m apos) (e::es) [] pos) X.env=(do
      let ov ← eval o X.env
      standAt apos.atName
      let (f, first) ← holding [ov] (getMethod ov m pl)
      callWith pos f first (backTo pos (rG (e :: es) X.env)) (backToKw pos (keywordEach [] X.env)))) wv) :
    PE X (.Call (.Attribute o m apos) (e::es) [] pos) (fA C m sp dvs E ta t):=by
  intro pins s σ H Q I h
  refine vI (pl:=pl) (thn (he pins s σ H _ I h) λu s1 z=>?_) ht
  obtain⟨x,H1,I1,rx,a,dx,fs,ex,ea,l,q⟩:=z
  subst ex
  obtain rfl:u=sA a:=rx
  refine GJ I1 ea c hm l ?_
  refine uM (first:=[.ref a]) (h₀:=X.base) I.ok.mod.kin hm.kp (thn (ha pos pins s1 σ H1 _ I1 q) λus s2 ⟨vs,H2,I2,r,q2⟩=>⟨I2.kIn,?_⟩) hst hpl
  exact RD (us:=.ref a::us) (vs:=.ref a::vs) F hr hb hd hx I2 (.cons rfl r) q2
def X8 {pl:Sem su}(he:PE X o ta)(c:Cls X.K C)(hm:Meth X.K C m f)(F:Kg X.prog X.w X.K X.mg X.base CX k f fd ps sp)(hr:Ct k X.A)(hb:Binds X.K fd ps ds)(hd:Vals dvs ds)(hx:Passes CX X E)(ht:x0 (eval (.Call (.Attribute o m apos) [] [] pos) X.env=(do
      let ov ← eval o X.env
      standAt apos.atName
      let (f, first) ← holding [ov] (getMethod ov m pl)
      callWith pos f first (backTo pos (rG [] X.env)) (backToKw pos (keywordEach [] X.env)))) wv) :
    PE X (.Call (.Attribute o m apos) [] [] pos) (fA C m sp dvs E ta mM):=by
  intro pins s σ H Q I h
  refine vI (pl:=pl) (thn (he pins s σ H _ I h) λu s1 z=>?_) ht
  obtain⟨x,H1,I1,rx,a,dx,fs,ex,ea,l,q⟩:=z
  subst ex
  obtain rfl:u=sA a:=rx
  refine GJ I1 ea c hm l ?_
  exact zv (first:=[.ref a]) I1.kIn hm.kp (RD (us:=[.ref a]) (vs:=[.ref a]) F hr hb hd hx I1 (.cons rfl .nil) q)
structure Mk(K:W1)(C f:rL):Prop where
 makes:y4 K C=true
 init:tH K (.ref C) "__init__"=Gc (Gc (.ref f))
 fn:xk K (.ref f)=true
 kp:tL K (.ref C)=true
def Ws{σ:St}(M:Mk X.K C f)(F:Kg X.prog X.w X.K X.mg X.base CX k f fd ps sp)(hr:Ct (k+1) X.A)(hb:Binds X.K fd ps ds)(hd:Vals dvs ds)(hx:Passes CX X E)(I:Inv X pins σ H s)(r:Vals vs us)(h:∀x dx,H x=none->H dx=none->dx≠x->sp (.ref x::(vs++dvs)) (upd (upd H dx (.own x)) x (.ins C dx [])) (λv H2=>v=.non/\Q (.ref x) H2) E):wpAny (model X.prog X.w) X.A (call (.ref C) us) (EP X pins σ Q) X.xe s:=by
 have hq:=h (s.heap.objs.size+1) s.heap.objs.size (I.hok.fresh (zP _)) (I.hok.fresh (q9 _)) (sM (yb _))
 have I2:=Inv.made (C:=C) I
 have r2:Vals (V.ref (s.heap.objs.size+1)::(vs++dvs)) (sA (s.heap.objs.size+1)::(us++ds)):=.cons rfl (r.append hd)
 have hl:(sA (s.heap.objs.size+1)::us++ds).length=ps.length:=by
  have e:=r2.length
  rw[F.len _ _ _ _ hq]at e
  exact e.symm
 refine wY (YB (f:=f) I.kIn M.makes M.init (uv.mp M.fn) (v9 (F.run _ X.stack _ _ ⟨sA (s.heap.objs.size+1)::us,[]⟩ (sA (s.heap.objs.size+1)::(us++ds)) _ _ E (hr.make C us [])
  (I2.Yp.make C us []) (hb _ (sA (s.heap.objs.size+1)::us) I2.kIn hl) r2 hq) λr s' hq'=>?_))
 cases r with
 |error e=>exact hx pins σ _ _ e s' I2 hq'
 |ok fl=>
  cases fl with
  |ret u=>
   obtain⟨v,H',I3,rv,ev,q3⟩:=I2.after hq'
   subst ev
   exact⟨rv,⟨V.ref (s.heap.objs.size+1),H',I3,rfl,q3⟩⟩
  |next=>exact si hq'
  |brk=>exact si hq'
  |cont=>exact si hq'
def Z7(M:Mk X.K C f)(F:Kg X.prog X.w X.K X.mg X.base CX k f fd ps sp)(hr:Ct (k+1) X.A)(hg:Gl X x)(hm:X.mg x=Gc (.ref C))(hb:Binds X.K fd ps ds)(hd:Vals dvs ds)(hx:Passes CX X E)(ha:PA X (e::es) t)(hdb:x0 ((x==("__debug__":Str))=false) xL)(he:x0 (rG (e::es) X.env=(false,eval e X.env)::rG es X.env) wv)(hpl:x0 ((backTo pos (rG es X.env)).any (·.1)=false) wv):PE X (.Call (.Name x p) (e::es) [] pos) (lu C sp dvs E t):=by
 intro pins s σ H Q I h
 refine uB (J3 I hg hm ?_ hdb)
 refine uM (h₀:=X.base) I.ok.mod.kin M.kp (thn (ha pos pins s σ H _ I h) λus s1 ⟨vs,H1,I1,r,q⟩=>⟨I1.kIn,?_⟩) he hpl
 exact Ws M F hr hb hd hx I1 r q
end
section
variable{X:Cx}{CX:CXT}{k:Nat}{f C:rL}{fd:xT}{ps ks:Wp Str}{sp:Sp}{E:XK}{x m:Str}{p pos apos kpos:Pos}{e o:tF}{es:Wp tF}{kws:Wp yN}{te ta:TE}{t tk:TA}{nm:qz Str}
structure nP(K:W1)(fd:xT)(ps ks:Wp Str)(g:Wp rD->Wp rD->Wp rD)(gV:Wp V->Wp V->Wp V):Prop where
 to:∀(s:rP) (us ws:Wp rD),K.In s.heap->(g us ws).length=ps.length->BindsTo s fd ⟨us,ks.zip ws⟩ (ps.zip (g us ws))
 rel:∀{vs:Wp V} {us:Wp rD} {zs:Wp V} {ws:Wp rD},Vals vs us->Vals zs ws->Vals (gV vs zs) (g us ws)
variable{g:Wp rD->Wp rD->Wp rD}{gV:Wp V->Wp V->Wp V}
end
structure Au(N P:Wp Str)(sc:uf):Prop where
 kind:sc.kind=.function
 co:sc.isCoroutine=false
 gen:sc.isGenerator=false
 nd:N.Nodup
 pre:N.take P.length=P
 par:∀x∈P,sc.names.lookup x=Gc .local\/sc.names.lookup x=Gc .cell
 dc:∀y∈sc.names,y.2≠.free
theorem O6{kindOf:Str->qz yc}:∀{binds} {m:Str->qz rD},(∀v,(x,v)∉binds)->bindL kindOf binds m x=m x
 | [],_,_=>rfl
 |(n,v)::r,m,h=>by
  unfold bindL
  rw[O6 λw hw=>h w (rC _ hw)]
  split
  .have:x≠n:=by rintro rfl;exact h v rM
   simp[this]
  .rfl
theorem OR{kindOf:Str->qz yc}:∀{binds} {m:Str->qz rD},(∀v,(x,v)∉binds)->bindC kindOf binds m x=m x
 | [],_,_=>rfl
 |(n,v)::r,m,h=>by
  unfold bindC
  rw[OR λw hw=>h w (rC _ hw)]
  split
  .rfl
  .have:x≠n:=by rintro rfl;exact h v rM
   simp[this]
theorem O2{kindOf:Str->qz yc}:∀{P:Wp Str} {vs:Wp rD} {i:Nat} {m},P.Nodup->P[i]?=Gc x->vs[i]?=Gc v->kindOf x=Gc .local->bindL kindOf (P.zip vs) m x=Gc v
 | [],_,_,_,_,h,_,_=>by simp at h
 |_::_,[],_,_,_,_,h,_=>by simp at h
 |p::P,w::vs,0,m,nd,h1,h2,hk=>by
  simp at h1 h2;subst h1;subst h2
  show bindL kindOf ((p,w)::P.zip vs) m p=_
  unfold bindL
  rw[O6 λv hv=>(rm.mp nd).1 (uV hv).1,sD hk]
  simp
 |p::P,w::vs,i+1,m,nd,h1,h2,hk=>by
  show bindL kindOf ((p,w)::P.zip vs) m x=_
  unfold bindL
  exact O2 (i:=i) (rm.mp nd).2 (by simpa using h1) (by simpa using h2) hk
theorem PJ{kindOf:Str->qz yc}:∀{P:Wp Str} {vs:Wp rD} {i:Nat} {m},P.Nodup->P[i]?=Gc x->vs[i]?=Gc v->kindOf x≠Gc .local->bindC kindOf (P.zip vs) m x=Gc v
 | [],_,_,_,_,h,_,_=>by simp at h
 |_::_,[],_,_,_,_,h,_=>by simp at h
 |p::P,w::vs,0,m,nd,h1,h2,hk=>by
  simp at h1 h2;subst h1;subst h2
  show bindC kindOf ((p,w)::P.zip vs) m p=_
  unfold bindC
  rw[OR λv hv=>(rm.mp nd).1 (uV hv).1,sH hk]
  simp
 |p::P,w::vs,i+1,m,nd,h1,h2,hk=>by
  show bindC kindOf ((p,w)::P.zip vs) m x=_
  unfold bindC
  exact PJ (i:=i) (rm.mp nd).2 (by simpa using h1) (by simpa using h2) hk
noncomputable def start(N:Wp Str)(vs:Wp V):St:=vs.map Gc++rQ (N.length-vs.length) none
noncomputable def Jj(CX:CXT)(P:sx)(w:uL)(K:W1)(mg:Str->qz rD)(base:tS)(N:Wp Str)(qual:Str)(scope:uf)(f:rL)(cd:rD)(A:ux)(outer:Wp Env)(s:rP)(H:Hp)(E:XK):Cx where
 prog:=P
 w:=w
 K:=K
 mg:=mg
 base:=base
 A:=A.deeper (envOfC qual scope s.heap.objs.size f cd)
 N:=N
 s₀:=s
 H₀:=H
 env:=envOfC qual scope s.heap.objs.size f cd
 outer:=outer
 stack:=envOfC qual scope s.heap.objs.size f cd::outer
 ex:=[]
 calm:=true
 fn:=λ_=>true
 pn:=[]
 xe:=λe s'=>wpAny (model P w) (A.deeper (envOfC qual scope s.heap.objs.size f cd)) (leaving (envOfC qual scope s.heap.objs.size f cd) e) (λ_ s''=>CX outer H s E e s'') (λe' s''=>CX outer H s E e' s'') s'
def K5{sc:uf}{x:Str}(h:sc.names.lookup x=Gc .cell):∃c,(cellsFrom n sc.names []).lookup x=Gc c:=by
 have q:=wu sc.names n [] (.inl h)
 exact Option.isSome_iff_exists.mp q
def Oi{CX:CXT}{P:sx}{w:uL}{K:W1}{mg:Str->qz rD}{base:tS}{N ps:Wp Str}{qual:Str}{scope:uf}{f:rL}{cd:rD}{A:ux}{outer:Wp Env}{s s1:rP}{H:Hp}{E:XK}{us:Wp rD}{vs:Wp V}(S:Au N ps scope)(hd:A.handled=none)(e0:Y9 P w K mg base A outer s H)(hl:vs.length=ps.length)(r:Vals vs us)(x:InCallC s s.heap.objs.size (bindL (envOfC qual scope s.heap.objs.size f cd).kindOf (ps.zip us) λ_=>none) (cellsFrom (s.heap.objs.size+1) scope.names []) (bindC (envOfC qual scope s.heap.objs.size f cd).kindOf (ps.zip us) λ_=>none) s1):Inv (Jj CX P w K mg base N qual scope f cd A outer s H E) [] (start N vs) H s1:=by
 have hpl:ps.length<=N.length:=by have:=congrArg yO S.pre;rw[yd]at this;lia
 obtain⟨h1,tk,rfl,hk⟩:=x.done
 have noA:∀b:rL,b∉(Jj CX P w K mg base N qual scope f cd A outer s H E).ex:=λb z=>absurd (show b∈([]:Wp rL)from z) (by simp)
 refine⟨⟨e0.mod,S.kind,rfl,rfl,q9 _,λy z c h1 h2=>?_,λy hy=>?_,λy c _ h=>?_,λ_=>hd,zS e0.frames,.inr ⟨rfl,rfl⟩,λb z=>absurd z (noA b),e0.bs,e0.bsz,λb _ _=>noA b,λb z=>absurd z (noA b),e0.QM,e0.frf⟩,
  rfl,e0.bare,Un.kept hk,⟨_,x.toInCall.ns,λi y v h1 h2 h3=>?_⟩,λy c h=>⟨_,x.cell y c h⟩,e0.hok.fresh (q9 _),λy c h=>?_,λp hp=>absurd (show p∈([]:Wp (rL×Obj))from hp) (by simp),e0.hok.kept hk,?_⟩
 .exact name_of_addr x.apart (sW h1) (sW h2)
 .have hy:scope.names.lookup y=Gc .cell\/scope.names.lookup y=Gc .free:=hy
  rcases hy with hy|hy
  .exact K5 hy
  .exact absurd rfl (S.dc _ (sW hy))
 .exact uy (x.above y c (sW h))
 .have hi:i<vs.length:=by
   unfold start at h2
   by_cases hi:i<vs.length
   .exact hi
   .rw[sR (by simpa using hi)]at h2
    rw[we]at h2
    split at h2<;>cases h2
  have ha:vs[i]?=Gc v:=by
   unfold start at h2
   rw[qv (by simpa using hi),rY]at h2
   cases e:vs[i]? with
   |none=>rw[e]at h2;cases h2
   |some a=>rw[e]at h2;cases h2;rfl
  obtain⟨u,hu,rv⟩:=r.get ha
  have hp:ps[i]?=Gc y:=by
   rw[<-S.pre,List.getElem?_take_of_lt (by lia)];exact h1
  have ndP:ps.Nodup:=by rw[<-S.pre];exact S.nd.sublist (List.take_sublist _ _)
  refine⟨u,rv,?_⟩
  rcases S.par y (rV hp)with k|k
  .exact .inl ⟨k,O2 ndP hp hu k⟩
  .obtain⟨c,e⟩:=K5 (n:=s.heap.objs.size+1) k
   refine .inr ⟨.inl k,c,e,?_⟩
   have q:=x.cell y c e
   rw[PJ ndP hp hu (by show scope.names.lookup y≠_;rw[k];decide)]at q
   exact q
 .exact e0.hok.fresh (uy (x.above y c (sW h)))
 .unfold start
  show _=N.length
  rw[sk,sG,List.length_replicate]
  lia
def X4{CX:CXT}{P:sx}{w:uL}{K:W1}{mg:Str->qz rD}{base:tS}{k:Nat}{f:rL}{name qual:Str}{params:Arguments}{body:Wp sP}{scope:uf}{dV kV doc pm cdv ct oc:rD}{an od:qz rL}{osl:xI (qz rD)}{N ps:Wp Str}{sp:Sp}(lk:K.lookup f=Gc ⟨oc,od,.func (uh name qual params body scope dV kV doc pm an cdv ct),osl⟩)(hcd:vx K cdv qual=true)(S:Au N ps scope)(len:∀vs H Q E,sp vs H Q E->vs.length=ps.length)(hbody:∀(A:ux) (outer:Wp Env) (s:rP) (H:Hp) (vs:Wp V) (Q:VK) (E:XK),Ct k (A.deeper (envOfC qual scope s.heap.objs.size f cdv))->sp vs H Q E->∃t,PSs (Jj CX P w K mg base N qual scope f cdv A outer s H E) body t/\t {nx:=λ_ H'=>Q .non H',rt:=Q} (start N vs) H):Kg P w K mg base CX (k+1) f (uh name qual params body scope dV kV doc pm an cdv ct) ps sp:=by
 refine⟨len,λA outer s H args us vs Q E hr e0 hb r hsp=>?_⟩
 have hl:=len _ _ _ _ hsp
 have KX:K.In s.heap:=e0.mod.kin.keeps λb o e=>(e0.bs b o e).1
 have lim:s.heap.NoLimit:=e0.mod.nolimit.keeps λb o e=>(e0.bs b o e).1
 have hkind:∀y∈ps.zip us,scope.names.lookup y.1=Gc .local\/(scope.names.lookup y.1=Gc .cell/\((cellsFrom (s.heap.objs.size+1) scope.names []).lookup y.1).isSome=true):=λ⟨n,v⟩ hy=>by
  rcases S.par n (uV hy).1 with q|q
  .exact .inl q
  .exact .inr ⟨q,wu _ _ _ (.inl q)⟩
 refine zH hr.depth (KX _ _ lk) rfl S.co S.gen rfl (AAD KX hcd) (hb _ _ _ _ ?_)
 refine yA S.kind hkind λenv he s1 x=>?_
 subst he
 refine⟨lim.keeps x.toInCall.keep,codeAny_func ?_⟩
 obtain⟨t,ht,hq⟩:=hbody A outer s H vs Q E (hr.deeper _) hsp
 have I:Inv (Jj CX P w K mg base N qual scope f cdv A outer s H E) [] (start N vs) H s1:=Oi S hr.hd e0 hl r x
 refine tq (ht [] s1 (start N vs) H _ I hq) (λfl s' hs=>?_) λe s' hs=>hs
 have fin:∀{σ':St} {H':Hp} {v:V} {u:rD},Inv (Jj CX P w K mg base N qual scope f cdv A outer s H E) [] σ' H' s'->RelV v u->Q v H'->CE outer P w H s Q u s':=
  λ{σ' H' v u} J rv q=>⟨v,H',J.os,J.bare,J.base,J.hok,rv,q⟩
 cases fl with
 |ret u=>
  obtain⟨v,σ',H',J,rv,q⟩:=hs
  exact fin J rv q
 |next=>
  obtain⟨σ',H',J,q⟩:=hs
  exact fin (v:=V.non) (u:=sL) J rfl q
 |brk=>
  obtain⟨_,_,_,q⟩:=hs
  exact si q
 |cont=>
  obtain⟨_,_,_,q⟩:=hs
  exact si q
end L2
namespace L2
open PySem PySem.Spec PyProof.Rows
section
variable{X:Cx}{x:Str}{p pos:Pos}{e:tF}{es:Wp tF}{t:TA}{id T:vJ}{r:Wp V->Hp->VK->Prop}
noncomputable def tCB(r:Wp V->Hp->VK->Prop)(t:TA):TE:=λσ H Q=>t σ H λvs H1=>r vs H1 Q
def Xd(hc:EG X (.builtin id) r)(hg:Gl X x)(hm:X.mg x=none)(hv:bootBuiltins x=Gc (.builtin id))(ha:PA X (e::es) t)(hn:x0 (x≠ "__name__") xL)(hdb:x0 ((x==("__debug__":Str))=false) xL)(he:x0 (rG (e::es) X.env=(false,eval e X.env)::rG es X.env) wv)(hpl:x0 ((backTo pos (rG es X.env)).any (·.1)=false) wv):PE X (.Call (.Name x p) (e::es) [] pos) (tCB r t):=by
 intro pins s σ H Q I h
 refine uB (Mr I hg hm hv ?_ hn hdb)
 exact PyProof.Rows.callWith_builtin1 (thn (ha pos pins s σ H _ I h) λus s1 ⟨vs,H1,I1,r1,q1⟩=>hc pins s1 σ H1 vs us Q I1 r1 q1) he hpl
def Sw(hc:EG X (.type T) r)(hg:Gl X x)(hm:X.mg x=none)(hv:bootBuiltins x=Gc (.type T))(ha:PA X (e::es) t)(hn:x0 (x≠ "__name__") xL)(hdb:x0 ((x==("__debug__":Str))=false) xL)(he:x0 (rG (e::es) X.env=(false,eval e X.env)::rG es X.env) wv)(hpl:x0 ((backTo pos (rG es X.env)).any (·.1)=false) wv):PE X (.Call (.Name x p) (e::es) [] pos) (tCB r t):=by
 intro pins s σ H Q I h
 refine uB (Mr I hg hm hv ?_ hn hdb)
 exact vo (thn (ha pos pins s σ H _ I h) λus s1 ⟨vs,H1,I1,r1,q1⟩=>hc pins s1 σ H1 vs us Q I1 r1 q1) he hpl
end
end L2
namespace HT
open PySem PyProof.Rows
section
open PySem.SeqAt
open PySem.AutoSeq1 (wpAny_loadPart')
open PySem.MeetsSeq PySem.MeetsSeq2 PySem.MeetsSeq3
end
section
variable{prog:sx}{w:uL}{A:ux}{E:rD->rP->Prop}{s:rP}
def bS{Q:rD->rP->Prop}(ht:IsTup s.heap t vs.toArray)(hb:IsTup s.heap b ws.toArray)(hv:vs≠[])(h1:ws=[]->Q (.ref t) s)(h2:ws≠[]->Q (.ref s.heap.objs.size) {s with heap:=s.heap.push {cls:=.type "tuple",data:=.seq (vs++ws).toArray}})(hsz:vs.length+ws.length<=sizeLine):wpAny (model prog w) A (binaryOp .Add (.ref t) (.ref b)) Q E s:=by
 obtain⟨⟨cls,dd,data,sl⟩,ho,hc,n,hd⟩:=id ht
 obtain⟨⟨cls2,dd2,data2,sl2⟩,ho2,hc2,n2,hd2⟩:=id hb
 simp only at hc hd hc2 hd2
 subst hc hd hc2 hd2
 have e:vs.toArray++ws.toArray=(vs++ws).toArray:=by simp
 by_cases hw:ws=[]
 .exact concat_meets ⟨_,ho,rfl⟩ ⟨_,ho2,rfl⟩ ye z8 wx wg (wM _ _)
   (tuple_addW1 t b vs.toArray ws.toArray n n2 dd dd2 sl sl2 (by simpa using hv) (by simp[hw])) ⟨ho,ho2,h1 hw⟩
 .refine concat_meets ⟨_,ho,rfl⟩ ⟨_,ho2,rfl⟩ ye z8 wx wg (wM _ _)
   (tuple_addW2 t b vs.toArray ws.toArray n n2 dd dd2 sl sl2 (by simpa using hv) (by simpa using hw) (by rw[rK,rK];exact hsz)) ⟨ho,ho2,?_⟩
  rw[e]
  exact h2 hw
noncomputable def sIx(n d:Nat):qz Int->Nat
 |none=>d
 |some v=>if v<0 then(v+(n:Int)).toNat else min v.toNat n
def QZ(n d k:Nat):sIx n d (Gc (k:Int))=min k n:=by
 show(if(k:Int)<0 then((k:Int)+(n:Int)).toNat else min (k:Int).toNat n)=min k n
 rw[sH (by lia),yP]
def iO(n d:Nat)(hd:d<=n)(o:qz Int):sIx n d o<=n:=by
 cases o with
 |none=>exact hd
 |some v=>
  show(if v<0 then(v+(n:Int)).toNat else min v.toNat n)<=n
  by_cases hv:v<0
  .rw[sD hv];lia
  .rw[sH hv];exact xN _ _
def OL(v:Int)(n:Nat)(hv:¬v<0):min v (n:Int)=((min v.toNat n:Nat):Int):=by
 obtain⟨k,rfl⟩:=Int.eq_ofNat_of_zero_le (Int.not_lt.mp hv)
 rcases Nat.le_total k n with h|h
 .exact(y7 (Int.ofNat_le.mpr h)).trans (congrArg Nat.cast (y8 h)).symm
 .exact(Int.min_eq_right (Int.ofNat_le.mpr h)).trans (congrArg Nat.cast (Nat.min_eq_right h)).symm
def V0(v:Int)(n d:Nat):(if v<0 then max (v+(n:Int)) 0 else min v (n:Int))=((sIx n d (Gc v):Nat):Int):=by
 show(if v<0 then max (v+(n:Int)) 0 else min v (n:Int))=(((if v<0 then(v+(n:Int)).toNat else min v.toNat n):Nat):Int)
 by_cases hv:v<0
 .simp only[sD hv];exact(y9 _).symm
 .simp only[sH hv];exact OL v n hv
def R8(lo hi:qz Int)(n:Nat):wF lo hi 1 (n:Int)=(((sIx n 0 lo:Nat):Int),((sIx n n hi:Nat):Int)):=by
 have h1:¬((1:Int)<0):=by lia
 unfold wF
 simp only[h1,yf]
 refine Prod.ext ?_ ?_
 .cases lo with
  |none=>rfl
  |some v=>exact V0 v n 0
 .cases hi with
  |none=>rfl
  |some v=>exact V0 v n n
def RZ(i j:Nat):vK (i:Int) (j:Int) 1=j-i:=by
 unfold vK
 have h1:(1:Int)>0:=by lia
 simp only[h1,xl,Int.ediv_one]
 split<;>lia
def NL{Q:qz Int->rP->Prop}(p:yn v o)(h:Q o s):wpAny (model prog w) A (Builtin.Slice.slicePartIndex v) Q E s:=by
 cases p with
 |none=>exact slicePart_none h
 |int i t=>exact slicePart_int h
def HE{lo hi:qz Int}{n:Nat}(hs:s.heap.IsSliceOf sl vl vu .none)(pl:yn vl lo)(pu:yn vu hi)(h:Q (((sIx n 0 lo:Nat):Int),1,sIx n n hi-sIx n 0 lo) s):wpAny (model prog w) A (yB (.ref sl) (pure (n:Int))) Q E s:=by
 obtain⟨os,hos,hcs,hds⟩:=id hs
 unfold yB Builtin.Slice.sliceFields
 refine qu (qu (uF hos hds (x:=vl) rfl (qu (uF hos hds (x:=vu) rfl (qu (uF hos hds (x:=.none) rfl (rS ?_)))))))
 refine qu (slicePart_none ?_)
 show wpAny _ _ (if((1:Int)==0)=true then _ else _) _ _ s
 rw[sH (by decide)]
 refine qu (NL pl (qu (NL pu (qu (rS ?_)))))
 show wpAny _ _ (match wF lo hi 1 (n:Int)with|(lo,hi)=>pure (lo,(1:Int),vK lo hi 1)) _ _ s
 rw[R8 lo hi n]
 show wpAny _ _ (pure (((sIx n 0 lo:Nat):Int),(1:Int),vK ((sIx n 0 lo:Nat):Int) ((sIx n n hi:Nat):Int) 1)) _ _ s
 rw[RZ]
 exact rS h
def Xk(xs:xI rD)(i k:Nat):((tm k).filterMap λ(m:Nat)=>xs[((i:Int)+(m:Int)*1).toNat]?).toArray=((xs.toList.drop i).take k).toArray:=by
 have e:(λ(m:Nat)=>xs[((i:Int)+(m:Int)*1).toNat]?)=λm=>xs[i+m]?:=by
  funext m
  have:((i:Int)+(m:Int)*1).toNat=i+m:=by lia
  rw[this]
 rw[e]
 have:=pick_run xs i k
 rw[List.filterMap_map]at this
 have e2:((λx=>xs[x]?)∘λx=>i+x)=λm=>xs[i+m]?:=rfl
 rw[e2]at this
 rw[this]
def J1{lo hi:qz Int}(ht:IsTup s.heap t items)(hs:s.heap.IsSliceOf sl vl vu .none)(pl:yn vl lo)(pu:yn vu hi)(hw:¬(sIx items.size 0 lo=0/\sIx items.size items.size hi=items.size))(h:Q (.ref s.heap.objs.size) {s with heap:=s.heap.push {cls:=.type "tuple",data:=.seq ((items.toList.drop (sIx items.size 0 lo)).take (sIx items.size items.size hi-sIx items.size 0 lo)).toArray}})(hsz:items.size<=sizeLine):wpAny (model prog w) A (getItem (.ref t) (.ref sl)) Q E s:=by
 have htake:sizeOk (.seq ((items.toList.drop (sIx items.size 0 lo)).take (sIx items.size items.size hi-sIx items.size 0 lo)).toArray):=by
  show((items.toList.drop (sIx items.size 0 lo)).take (sIx items.size items.size hi-sIx items.size 0 lo)).toArray.size<=sizeLine
  rw[rK,yd,List.length_drop,xg]
  exact q8 (xN _ _) (q8 (Nat.sub_le _ _) hsz)
 have hj:sIx items.size items.size hi<=items.size:=iO _ _ (q9 _) hi
 obtain⟨os,hos,hcs,hds⟩:=id hs
 have hTs:s.TypeIs (.ref sl) "slice":=⟨os,hos,hcs⟩
 unfold getItem
 try with_reducible refine ug ?_
 first|refine qu (rS ?_)|skip
 refine qu (wpAny_sequenceKey ht.typeIs (by decide) ?_)
 refine qu (uR (name:=sI "__getitem__") ht.typeIs sv
  (uZ sv ht.typeIs zw ?_ (AAE _ _)))
 show wpAny _ _ (yC (.ref t) >>= _) _ _ s
 refine qu (tupleItemsOf_ ht ?_)
 refine qu (wpAny_typeOf hTs ?_)
 rw[sD (by decide)]
 refine qu (HE hs pl pu ?_)
 have hno:¬((((sIx items.size 0 lo:Nat):Int)==0 && (1:Int)==1 && (sIx items.size items.size hi-sIx items.size 0 lo)==items.size)=true):=by
  intro q
  rw[rH,rH]at q
  have q1:((sIx items.size 0 lo:Nat):Int)=0:=eq_of_beq q.1.1
  have q2:sIx items.size items.size hi-sIx items.size 0 lo=items.size:=eq_of_beq q.2
  exact hw ⟨by lia,by lia⟩
 show wpAny _ _ (if(((sIx items.size 0 lo:Nat):Int)==0 && (1:Int)==1 && (sIx items.size items.size hi-sIx items.size 0 lo)==items.size)=true then _ else _) _ _ s
 rw[sH hno,Xk]
 first
  |exact qu (m:=vT _) (uq (rS ⟨_,rfl,rS h⟩) htake)
  |exact qu (m:=vT _) (uq (qu (rS (rS ⟨_,rfl,rS h⟩))) htake)
  |exact qu (qu (m:=vT _) (uq (rS (rS ⟨_,rfl,rS h⟩)) htake))
  |exact qu (qu (m:=vT _) (uq (rS ⟨_,rfl,rS h⟩) htake))
end
end HT
namespace L2
open PySem PySem.Spec PyProof.Rows
abbrev TO:=St->Hp->(qz Int->Hp->Prop)->Prop
def PO(X:Cx)(e:qz tF)(t:TO):Prop:=
 ∀(pins:Wp (rL×Obj)) (s:rP) (σ:St) (H:Hp) (Q:qz Int->Hp->Prop),Inv X pins σ H s->t σ H Q->
  wpAny (model X.prog X.w) X.A (evalPart e X.env) (λu s'=>∃o H',Inv X pins σ H' s'/\yn u o/\Q o H') X.xe s
noncomputable def aP:TO:=λ_ H Q=>Q none H
noncomputable def lH(t:TE):TO:=λσ H Q=>t σ H λx H1=>∃i,x=.int i/\Q (Gc i) H1
def intsAre_of{ns:Wp Int}:∀{us:Wp rD},Vals (ns.map V.int) us->wN us ns:=by
 induction ns with
 |nil=>intro us r;rw[tP]at r;cases r;exact .nil
 |cons n ns ih=>
  intro us r
  rw[rT]at r
  cases r with
  |cons r1 r2=>
   obtain⟨t,e⟩:=r1
   subst e
   exact .cons n t (ih r2)
section
variable{X:Cx}{e:tF}{te:TE}{lo hi:qz tF}{tl th:TO}{pos p2:Pos}
def VC:PO X none aP:=by
 intro pins s σ H Q I h
 rw[evalPart_none]
 exact rS ⟨none,H,I,.none,h⟩
def Nt(h:PE X e te):PO X (Gc e) (lH te):=by
 intro pins s σ H Q I hw
 rw[evalPart_some]
 refine thn (h pins s σ H _ I hw) λu s1 z=>?_
 obtain⟨x,H1,I1,r1,q1⟩:=z
 obtain⟨i,rfl,q⟩:=q1
 obtain⟨t,rfl⟩:=r1
 exact⟨Gc i,H1,I1,.int i t,q⟩
def SlR(X:Cx)(r:V->qz Int->qz Int->Hp->VK->Prop):Prop:=
 ∀(pins:Wp (rL×Obj)) (s:rP) (σ:St) (H:Hp) (x:V) (v vl vu:rD) (lo hi:qz Int) (sl:rL) (Q:VK),Inv X pins σ H s->RelV x v->s.heap.IsSliceOf sl vl vu .none->yn vl lo->yn vu hi->r x lo hi H Q->
  ∃T id,typeLookup (.type T) "__getitem__"=pure (Gc (.builtin id))/\s.TypeIs v T/\wpAny (model X.prog X.w) X.A (getItem v (.ref sl)) (EP X pins σ Q) X.xe s
noncomputable def tSl(r:V->qz Int->qz Int->Hp->VK->Prop)(te:TE)(tl th:TO):TE:=λσ H Q=>te σ H λx H1=>tl σ H1 λl H2=>th σ H2 λu H3=>r x l u H3 Q
def Nb{r:V->qz Int->qz Int->Hp->VK->Prop}(hr:SlR X r)(he:PE X e te)(hl:PO X lo tl)(hu:PO X hi th):PE X (.Subscript e (.Slice lo hi none p2) pos) (tSl r te tl th):=by
 intro pins s σ H Q I h
 refine Subscript_ (thn (he pins s σ H _ I h) λv s1 z=>?_)
 obtain⟨x,H1,I1,r1,q1⟩:=z
 refine wpAny_Slice (thn (hl pins s1 σ H1 _ I1 q1) λvl s2 ⟨l,H2,I2,pl,q2⟩=>thn (hu pins s2 σ H2 _ I2 q2) λvu s3 z=>?_)
 obtain⟨u,H3,I3,pu,q3⟩:=z
 rw[evalPart_none]
 refine rS ?_
 have I4:Inv X pins σ H3 {s3 with heap:=s3.heap.push {cls:=.type "slice",data:=.fields #[vl,vu,.none]}}:=I3.kept (t':=s3.toks) λb ob q=>qt _ q
 obtain⟨T,id,hT,ht,hg⟩:=hr pins {s3 with heap:=s3.heap.push {cls:=.type "slice",data:=.fields #[vl,vu,.none]}} σ H3 x v vl vu l u s3.heap.objs.size Q I4 r1 (Heap.IsSliceOf.new ..) pl pu q3
 show wpAny (model X.prog X.w) X.A (subscriptTail e (.Slice lo hi none p2) v (.ref s3.heap.objs.size)) (EP X pins σ Q) X.xe {s3 with heap:=s3.heap.push {cls:=.type "slice",data:=.fields #[vl,vu,.none]}}
 exact tail_any (ops:=[.ref s3.heap.objs.size,v]) ht hT hg (by with_unfolding_all rfl)
noncomputable def Ya(xs:Wp V)(lo hi:qz Int):Wp V:=(xs.drop (HT.sIx xs.length 0 lo)).take (HT.sIx xs.length xs.length hi-HT.sIx xs.length 0 lo)
def L7(xs:Wp V)(lo hi:qz Int):(Ya xs lo hi).length<=xs.length:=by
 unfold Ya
 rw[yd,List.length_drop]
 exact q8 (xN _ _) (Nat.sub_le _ _)
def qO(K:W1):V->qz Int->qz Int->Hp->VK->Prop:=λx lo hi H Q=>∃a xs,x=.ref a/\SqT K H a xs/\
 ¬(HT.sIx xs.length 0 lo=0/\HT.sIx xs.length xs.length hi=xs.length)/\∀p,H p=none->Q (.ref p) (upd H p (.tup (Ya xs lo hi)))
def dD:SlR X (qO X.K):=by
 intro pins s σ H x v vl vu lo hi sl Q I rx hs pl pu h
 obtain⟨a,xs,rfl,hx,hw,q⟩:=h
 cases rx
 obtain⟨its,r,ht,hz⟩:=I.tuple hx
 have hlen:its.toArray.size=xs.length:=by rw[rK];exact r.length.symm
 refine⟨"tuple",_,sv.lookup,ht.typeIs,?_⟩
 refine HT.J1 ht hs pl pu (by rw[hlen];exact hw) ?_ (by rw[hlen];exact hz)
 rw[hlen]
 refine⟨.ref s.heap.objs.size,_,I.laid (t':=s.toks) (o:=.tup (Ya xs lo hi)) (λb ob q=>qt _ q) (q9 _) ?_,rfl,q _ (I.hok.fresh (q9 _))⟩
 exact⟨q8 (L7 xs lo hi) hz,_,(r.drop (HT.sIx xs.length 0 lo)).take (HT.sIx xs.length xs.length hi-HT.sIx xs.length 0 lo),wI _ _⟩
noncomputable def kT(K:W1):R2:=λx y H Q=>∃a b xs ys,x=.ref a/\y=.ref b/\SqT K H a xs/\SqT K H b ys/\xs≠[]/\xs.length+ys.length<=sizeLine/\
 (ys=[]->Q (.ref a) H)/\(ys≠[]->∀p,H p=none->Q (.ref p) (upd H p (.tup (xs++ys))))
def Vals.OD{xs:Wp V}{us:Wp rD}(r:Vals xs us):us=[]↔xs=[]:=by
 cases r with
 |nil=>simp
 |cons _ _=>simp
def aI:OpR X (binaryOp .Add) (kT X.K):=by
 intro pins s σ H x y v u Q I rx ry h
 obtain⟨a,b,xs,ys,rfl,rfl,ha,hb,hx,hz,q1,q2⟩:=h
 cases rx
 cases ry
 obtain⟨its,r1,p1,_⟩:=I.tuple ha
 obtain⟨its2,r2,p2,_⟩:=I.tuple hb
 refine HT.bS p1 p2 (λz=>hx (r1.OD.mp z)) (λz=>⟨.ref a,H,I,rfl,q1 (r2.OD.mp z)⟩) (λz=>?_) (by rw[<-r1.length,<-r2.length];exact hz)
 refine⟨.ref s.heap.objs.size,_,I.laid (t':=s.toks) (o:=.tup (xs++ys)) (λb ob q=>qt _ q) (q9 _) ?_,rfl,q2 (λw=>z (r2.OD.mpr w)) _ (I.hok.fresh (q9 _))⟩
 exact⟨by rw[sk];exact hz,_,r1.append r2,wI _ _⟩
end
end L2
namespace L2
open PySem PySem.Spec PyProof.Rows
noncomputable def ixN(n:Nat)(i:Int):qz Nat:=if 0<=i then(if i<n then Gc i.toNat else none)else if-(n:Int)<=i then Gc (i+n).toNat else none
noncomputable def atI{α:Type}(xs:Wp α)(i:Int):qz α:=(ixN xs.length i).bind λj=>xs[j]?
def Sx{j:Nat}(h:ixN n i=Gc j):seqIndex? i n=Gc j/\j<n/\ -(n:Int)<=i/\i<n:=by
 unfold ixN at h
 by_cases h0:0<=i
 .rw[sD h0]at h
  by_cases h1:i<n
  .rw[sD h1]at h
   have e:i.toNat=j:=uJ h
   exact⟨by rw[seqIndex_of h0 h1,e],by lia,by lia,h1⟩
  .rw[sH h1]at h;cases h
 .rw[sH h0]at h
  by_cases h1: -(n:Int)<=i
  .rw[sD h1]at h
   have e:(i+n).toNat=j:=uJ h
   exact⟨by rw[seqIndex_neg (by lia) h1,e],by lia,h1,by lia⟩
  .rw[sH h1]at h;cases h
def Tz{v:α}(h:atI xs i=Gc v):∃j,seqIndex? i xs.length=Gc j/\xs[j]?=Gc v/\j<xs.length/\ -(xs.length:Int)<=i/\i<xs.length:=by
 unfold atI at h
 cases e:ixN xs.length i with
 |none=>rw[e]at h;cases h
 |some j=>
  rw[e]at h
  obtain⟨h1,h2,h3,h4⟩:=Sx e
  exact⟨j,h1,h,h2,h3,h4⟩
def ZM{j:Nat}{v:α}(h:xs[j]?=Gc v):atI xs (j:Int)=Gc v:=by
 have hj:j<xs.length:=(rB.mp h).1
 have e:ixN xs.length (j:Int)=Gc j:=by
  unfold ixN
  rw[sD (by lia),sD (by lia)];simp
 unfold atI;rw[e];exact h
def Ni{α:Type}(xs:Wp α)(v:α):atI (xs++[v]) (-1)=Gc v:=by
 have hl:(xs++[v]).length=xs.length+1:=by simp
 have e:ixN (xs++[v]).length (-1)=Gc xs.length:=by
  unfold ixN
  rw[hl,sH (by decide),sD (by lia)]
  congr 1
  lia
 unfold atI
 rw[e]
 show(xs++[v])[xs.length]?=Gc v
 simp
def OI(b:tF):Prop:=∀o i,subscripted b false o i=operate [o,i] (getItem o i)
def IxR(X:Cx)(r:R2):Prop:=
 ∀(value slice:tF) (pins:Wp (rL×Obj)) (s:rP) (σ:St) (H:Hp) (x y:V) (v u:rD) (Q:VK),Inv X pins σ H s->RelV x v->RelV y u->r x y H Q->
  subscripted slice false v u=operate [v,u] (getItem v u)->wpAny (model X.prog X.w) X.A (subscriptTail value slice v u) (EP X pins σ Q) X.xe s
def MtR(X:Cx)(id:vJ)(r:V->Wp V->Hp->VK->Prop):Prop:=
 ∀(pins:Wp (rL×Obj)) (s:rP) (σ:St) (H:Hp) (x:V) (xs:Wp V) (v:rD) (us:Wp rD) (Q:VK),Inv X pins σ H s->RelV x v->Vals xs us->r x xs H Q->
  wpAny (model X.prog X.w) X.A (call (.builtin id) (v::us)) (EP X pins σ Q) X.xe s
section
variable{X:Cx}{a b:tF}{ta tb:TE}{pos:Pos}
def b9{r:R2}(hr:IxR X r)(ha:PE X a ta)(hb:PE X b tb)(hs:OI b):PE X (.Subscript a b pos) (tOp r ta tb):=by
 intro pins s σ H Q I h
 exact Subscript_ (mF ha hb I h λv u s2 x y H2 I2 rx ry q=>hr a b pins s2 σ H2 x y v u Q I2 rx ry q (hs _ _))
noncomputable def oS(K:W1):R2:=λx y H Q=>∃p xs i v,x=.ref p/\y=.int i/\SqL K H p xs/\atI xs i=Gc v/\Q v H
noncomputable def qF(K:W1):R2:=λx y H Q=>∃p xs i v,x=.ref p/\y=.int i/\SqT K H p xs/\atI xs i=Gc v/\Q v H
def bw:IxR X (oS X.K):=by
 intro value slice pins s σ H x y v u Q I rx ry h hs
 obtain⟨p,xs,i,z,rfl,rfl,hq,he,q⟩:=h
 cases rx
 obtain⟨t,rfl⟩:=ry
 obtain⟨its,r,pl,hz⟩:=I.list hq
 obtain⟨j,h1,h2,h3,h4,h5⟩:=Tz he
 obtain⟨w,ew,rw'⟩:=r.get h2
 have hl:=r.length
 have hn:=PB
 have fin:EP X pins σ Q w s:=⟨z,H,I,rw',q⟩
 by_cases h0:0<=i
 .have hj:i.toNat=j:=by
   rw[seqIndex_of h0 h5]at h1
   exact uJ h1
  exact item_listR pl.isList h0 (by lia) (by rw[hj];simpa using ew) fin hs
 .have hj:(i+(its.toArray.size:Int)).toNat=j:=by
   rw[seqIndex_neg (by lia) h4]at h1
   rw[rK,<-hl]
   exact uJ h1
  exact yo (x:=w) pl.isList.typeIs slot_list_getitem.lookup
   (wpAny_getItem_list_neg (Q:=λr s'=>r=w/\EP X pins σ Q r s') pl.isList (by lia) (by rw[rK]<;>lia) (by lia) (by rw[hj];simpa using ew) ⟨rfl,fin⟩) hs
def eG:IxR X (qF X.K):=by
 intro value slice pins s σ H x y v u Q I rx ry h hs
 obtain⟨p,xs,i,z,rfl,rfl,hq,he,q⟩:=h
 cases rx
 obtain⟨t,rfl⟩:=ry
 obtain⟨its,r,pl,hz⟩:=I.tuple hq
 obtain⟨j,h1,h2,h3,h4,h5⟩:=Tz he
 obtain⟨w,ew,rw'⟩:=r.get h2
 have hl:=r.length
 have hn:=PB
 have fin:EP X pins σ Q w s:=⟨z,H,I,rw',q⟩
 exact yo (x:=w) pl.typeIs sv.lookup
  (getItem_tuple (j:=j) (Q:=λr s'=>r=w/\EP X pins σ Q r s') pl (by lia) (by lia) (by rw[rK,<-hl];exact h1) (by simpa using ew) ⟨rfl,fin⟩) hs
def SI(its:Wp rD) n j(u:rD):yD (·.setIfInBounds j u) {cls:=.type "list",data:=.seq its.toArray n}={cls:=.type "list",data:=.seq (its.set j u).toArray n}:=by
 simp[yD]
def Inv.lst{σ:St}(I:Inv X pins σ H s)(h:H p=Gc (.lst xs)):∃(its:Wp rD) (n:Nat),Vals xs its/\s.heap.get? p=Gc {cls:=.type "list",data:=.seq its.toArray n}/\xs.length<=sizeLine:=by
 obtain⟨z,its,n,r,e⟩:=I.hok p _ h
 exact⟨its,n,r,e,z⟩
def Inv.dX{σ:St}{its its':Wp rD}(I:Inv X pins σ H s)(h:H p=Gc (.lst xs))(ho:s.heap.get? p=Gc {cls:=.type "list",data:=.seq its.toArray n})(hf:f {cls:=.type "list",data:=.seq its.toArray n}={cls:=.type "list",data:=.seq its'.toArray n'})(r:Vals ys its')(hz:ys.length<=sizeLine)(t:Nat):Inv X pins σ (upd H p (.lst ys)) {s with heap:=s.heap.update p f,toks:=t}:=by
 have e:(s.heap.update p f).get? p=Gc {cls:=.type "list",data:=.seq its'.toArray n'}:=by
  rw[uW f ho (by rw[hf]<;>rfl),hf]
 refine I.write (x:=p) (e:=p) (by rw[h];trivial) (.inl rfl) (λb u hb q=>(tQ _ _ (tu hb)).trans q) ⟨_,e⟩ ?_
 exact⟨hz,its',n',r,e⟩
def kE:V->V->V->Hp->(Hp->Prop)->Prop:=λo i v H Q=>∃p xs k j,o=.ref p/\i=.int k/\H p=Gc (.lst xs)/\ixN xs.length k=Gc j/\Q (upd H p (.lst (xs.set j v)))
def set_list:nN X kE:=by
 intro pins s σ H o i v ov iv u Q I ro ri rv h
 obtain⟨p,xs,k,j,rfl,rfl,hp,hj,q⟩:=h
 cases ro
 obtain⟨t,rfl⟩:=ri
 obtain⟨its,n,r,ho,hz⟩:=I.lst hp
 obtain⟨h1,h2,h3,h4⟩:=Sx hj
 have hl:=r.length
 have hn:=PB
 have I':Inv X pins σ (upd H p (.lst (xs.set j v))) {s with heap:=s.heap.update p (yD (·.setIfInBounds j u))}:=
  I.dX hp ho (SI its n j u) (r.set rv j) (by rw[uK];exact hz) s.toks
 by_cases h0:0<=k
 .have hk:k.toNat=j:=by
   rw[seqIndex_of h0 h4]at h1
   exact uJ h1
  exact PySem.W.ki_setAt ho h0 (by lia) (by rw[rK,<-hl];exact h4) (by rw[hk];exact⟨_,I',q⟩)
 .have hk:(k+(its.toArray.size:Int)).toNat=j:=by
   rw[seqIndex_neg (by lia) h3]at h1
   rw[rK,<-hl]
   exact uJ h1
  exact PySem.W.ki_setBack ho (by lia) (by rw[rK,<-hl];exact h3) (by lia) (by rw[hk];exact⟨_,I',q⟩)
def Og(lo hi:qz Int)(n:Nat):(sliceBounds lo hi none n).1=((HT.sIx n 0 lo:Nat):Int)/\(sliceBounds lo hi none n).2.1=((HT.sIx n n hi:Nat):Int)/\(sliceBounds lo hi none n).2.2=1:=by
 refine⟨?_,?_,rfl⟩
 .cases lo with
  |none=>simp[sliceBounds,HT.sIx]
  |some i=>
   simp only[sliceBounds,HT.sIx,Option.getD_none,show(1:Int)>0 by decide,xl]
   by_cases h:i<0
   .simp only[h,xl];rw[y7 (yE (by rw[yp];exact vf h)),Int.max_comm,y9]
   .simp only[h,yf];rw[HT.OL i n h,Int.max_eq_right (AAF _)]
 .cases hi with
  |none=>simp[sliceBounds,HT.sIx]
  |some i=>
   simp only[sliceBounds,HT.sIx,Option.getD_none,show(1:Int)>0 by decide,xl]
   by_cases h:i<0
   .simp only[h,xl];rw[y7 (yE (by rw[yp];exact vf h)),Int.max_comm,y9]
   .simp only[h,yf];rw[HT.OL i n h,Int.max_eq_right (AAF _)]
def Nl(its:Wp rD)(lo hi:qz Int):slicePick its.toArray lo hi none=((its.drop (HT.sIx its.length 0 lo)).take (HT.sIx its.length its.length hi-HT.sIx its.length 0 lo)).toArray:=by
 obtain⟨h1,h2,h3⟩:=Og lo hi its.toArray.size
 unfold slicePick
 rw[h1,h2,h3]
 simp only[sliceRange_one,pick_run,rK]<;>rfl
def oQ(K:W1):V->qz Int->qz Int->Hp->VK->Prop:=λx lo hi H Q=>∃a xs,x=.ref a/\SqL K H a xs/\∀p,H p=none->Q (.ref p) (upd H p (.lst (Ya xs lo hi)))
def cH:SlR X (oQ X.K):=by
 intro pins s σ H x v vl vu lo hi sl Q I rx hs pl pu h
 obtain⟨a,xs,rfl,hx,q⟩:=h
 cases rx
 obtain⟨its,r,ht,hz⟩:=I.list hx
 have hlen:=r.length
 refine⟨"list",_,slot_list_getitem.lookup,ht.isList.typeIs,?_⟩
 refine wpAny_getItem_list_slice ht.isList hs pl pu .none (by simp) ?_ (by rw[rK]<;>lia)
 rw[Nl,<-hlen]
 refine⟨.ref s.heap.objs.size,_,I.laid (t':=s.toks) (o:=.lst (Ya xs lo hi)) (λb ob q=>qt _ q) (q9 _) ?_,rfl,q _ (I.hok.fresh (q9 _))⟩
 exact⟨q8 (L7 xs lo hi) hz,_,0,(r.drop (HT.sIx xs.length 0 lo)).take (HT.sIx xs.length xs.length hi-HT.sIx xs.length 0 lo),rW _ rfl⟩
noncomputable def Lv:V->su
 | .non=>true
 | .bl _=>true
 | .int _=>true
 | .str _=>true
 |_=>false
noncomputable def eqV:V->V->su
 | .non,.non=>true
 | .bl a,.bl b=>a==b
 | .bl a,.int b=>(if a then 1 else 0)==b
 | .int a,.bl b=>a==(if b then 1 else 0)
 | .int a,.int b=>a==b
 | .str a,.str b=>a==b
 |_,_=>false
def dS{u v:rD}(ry:RelV y u)(rx:RelV x v)(fy:Lv y=true)(fx:Lv x=true):SeqAt.EqAt A s u v (eqV y x):=by
 cases y with
 |non=>
  cases ry
  cases x with
  |non=>cases rx;exact SeqAt.EqAt.same _
  |bl b=>cases rx;exact SeqAt.EqAt.none_bool b
  |int b=>obtain⟨t,rfl⟩:=rx;exact SeqAt.EqAt.none_int b t
  |str b=>obtain⟨t,rfl⟩:=rx;exact SeqAt.EqAt.none_str b t
  |_=>exact absurd (show false=true from fx) sZ
 |bl a=>
  cases ry
  cases x with
  |non=>cases rx;exact SeqAt.EqAt.bool_none a
  |bl b=>cases rx;exact SeqAt.EqAt.bool_bool a b
  |int b=>obtain⟨t,rfl⟩:=rx;exact SeqAt.EqAt.bool_int a b t
  |str b=>obtain⟨t,rfl⟩:=rx;exact SeqAt.EqAt.bool_str a b t
  |_=>exact absurd (show false=true from fx) sZ
 |int a=>
  obtain⟨t',rfl⟩:=ry
  cases x with
  |non=>cases rx;exact SeqAt.EqAt.int_none a t'
  |bl b=>cases rx;exact SeqAt.EqAt.int_bool a t' b
  |int b=>obtain⟨t,rfl⟩:=rx;exact SeqAt.EqAt.int_int a t' b t
  |str b=>obtain⟨t,rfl⟩:=rx;exact z9 a t' b t
  |_=>exact absurd (show false=true from fx) sZ
 |str a=>
  obtain⟨t',rfl⟩:=ry
  cases x with
  |non=>cases rx;exact SeqAt.EqAt.str_none a t'
  |bl b=>cases rx;exact SeqAt.EqAt.str_bool a t' b
  |int b=>obtain⟨t,rfl⟩:=rx;exact AAA a t' b t
  |str b=>obtain⟨t,rfl⟩:=rx;exact SeqAt.EqAt.str_str a t' b t
  |_=>exact absurd (show false=true from fx) sZ
 |_=>exact absurd (show false=true from fy) sZ
noncomputable def eqU(x:V)(u:rD):su:=match u with
 | .none=>eqV .non x
 | .bool b=>eqV (.bl b) x
 | .int i _=>eqV (.int i) x
 | .str z _=>eqV (.str z) x
 |_=>false
def YX{x y:V}{u:rD}(r:RelV y u)(f:Lv y=true):eqU x u=eqV y x:=by
 cases y with
 |non=>cases r;rfl
 |bl b=>cases r;rfl
 |int i=>obtain⟨t,rfl⟩:=r;rfl
 |str z=>obtain⟨t,rfl⟩:=r;rfl
 |_=>exact absurd (show false=true from f) sZ
theorem Lu:∀{xs} {us:Wp rD},Vals xs us->xs.all Lv=true->us.any (eqU x)=xs.any λy=>eqV y x
 |_,_,.nil,_=>rfl
 |y::xs,u::us,.cons r t,f=>by
  rw[wO,rH]at f
  rw[xR,xR,YX r f.1,Lu t f.2]
theorem JJ(rx:RelV x v)(fx:Lv x=true):∀{xs} {us:Wp rD},Vals xs us->xs.all Lv=true->∀u∈us,SeqAt.EqAt A s u v (eqU x u)
 |_,_,.nil,_=>λu hu=>by cases hu
 |y::xs,u::us,.cons r t,f=>λu' hu=>by
  rw[wO,rH]at f
  rcases qy.mp hu with rfl|hu
  .rw[YX r f.1];exact dS r rx f.1 fx
  .exact JJ rx fx t f.2 u' hu
noncomputable def inV(x:V)(xs:Wp V):su:=xs.any λy=>eqV y x
noncomputable def rIn(K:W1)(neg:su):R2:=λx y H Q=>∃p xs,y=.ref p/\(SqL K H p xs\/SqT K H p xs)/\Lv x=true/\xs.all Lv=true/\Q (.bl (if neg then !inV x xs else inV x xs)) H
def U9:OpR X (compareOp .In) (rIn X.K false):=by
 intro pins s σ H x y v u Q I rx ry h
 obtain⟨p,xs,rfl,hq,fx,fs,q⟩:=h
 cases ry
 rcases hq with hq|hq
 .obtain⟨its,r,pl,hz⟩:=I.list hq
  refine SeqAt.in_listAt (eqU x) pl.isList (λw hw=>JJ rx fx r fs w (by simpa using hw)) ⟨.bl _,H,I,rfl,?_⟩
  rw[show its.toArray.any (eqU x)=its.any (eqU x) by simp,Lu r fs]
  exact q
 .obtain⟨its,r,pl,hz⟩:=I.tuple hq
  refine SeqAt.in_tupleAt (eqU x) pl (λw hw=>JJ rx fx r fs w (by simpa using hw)) ⟨.bl _,H,I,rfl,?_⟩
  rw[show its.toArray.any (eqU x)=its.any (eqU x) by simp,Lu r fs]
  exact q
def PN:OpR X (compareOp .NotIn) (rIn X.K true):=by
 intro pins s σ H x y v u Q I rx ry h
 obtain⟨p,xs,rfl,hq,fx,fs,q⟩:=h
 cases ry
 rcases hq with hq|hq
 .obtain⟨its,r,pl,hz⟩:=I.list hq
  refine SeqAt.notIn_listAt (eqU x) pl.isList (λw hw=>JJ rx fx r fs w (by simpa using hw)) ⟨.bl _,H,I,rfl,?_⟩
  rw[show its.toArray.any (eqU x)=its.any (eqU x) by simp,Lu r fs]
  exact q
 .obtain⟨its,r,pl,hz⟩:=I.tuple hq
  refine SeqAt.notIn_tupleAt (eqU x) pl (λw hw=>JJ rx fx r fs w (by simpa using hw)) ⟨.bl _,H,I,rfl,?_⟩
  rw[show its.toArray.any (eqU x)=its.any (eqU x) by simp,Lu r fs]
  exact q
def O9:EG X (.builtin "len") (λxs H Q=>∃p ys,xs=[.ref p]/\(SqL X.K H p ys\/SqT X.K H p ys)/\Q (.int ys.length) H):=by
 intro pins s σ H xs us Q I r h
 obtain⟨p,ys,rfl,hq,q⟩:=h
 obtain⟨u,rfl,rx⟩:=vals1 r
 cases rx
 have hn:=PB
 rcases hq with hq|hq
 .obtain⟨its,r',pl,hz⟩:=I.list hq
  have hlen:=r'.length
  exact Calls.call_len_list pl.isList (by simp only[rK]<;>lia) ⟨.int ys.length,H,I.tok _,⟨s.toks+1,by rw[rK,hlen]⟩,q⟩
 .obtain⟨its,r',pl,hz⟩:=I.tuple hq
  have hlen:=r'.length
  exact len_tuple pl (by simp only[rK]<;>lia) ⟨.int ys.length,H,I.tok _,⟨s.toks+1,by rw[rK,hlen]⟩,q⟩
def OW:EG X (.builtin "len") (λxs H Q=>∃z,xs=[.str z]/\z.length<=sizeLine/\Q (.int z.length) H):=by
 intro pins s σ H xs us Q I r h
 obtain⟨z,rfl,hz,q⟩:=h
 obtain⟨u,rfl,t,rfl⟩:=vals1 r
 have hn:=PB
 exact len_str (by lia) ⟨.int z.length,H,I.tok _,⟨_,rfl⟩,q⟩
def OX:EG X (.type "list") (λxs H Q=>∃p ys,xs=[.ref p]/\(SqL X.K H p ys\/SqT X.K H p ys)/\∀l,H l=none->Q (.ref l) (upd H l (.lst ys))):=by
 intro pins s σ H xs us Q I r h
 obtain⟨p,ys,rfl,hq,q⟩:=h
 obtain⟨u,rfl,rx⟩:=vals1 r
 cases rx
 have fin:∀(its:Wp rD),Vals ys its->ys.length<=sizeLine->∀(h':tS) (c':Nat),(∀b o',s.heap.get? b=Gc o'->h'.get? b=Gc o')->
   h'.get? s.heap.objs.size=Gc {cls:=.type "list",dict:=none,data:=.seq its.toArray c',slots:= #[]}->EP X pins σ Q (.ref s.heap.objs.size) {s with heap:=h'}:=λits r' hz h' c' kp e=>
  ⟨.ref s.heap.objs.size,_,I.laid (t':=s.toks) kp (q9 _) (show D1 X.prog X.w _ h' _ (.lst ys)from⟨hz,its,c',r',e⟩),rfl,q _ (I.hok.fresh (q9 _))⟩
 rcases hq with hq|hq
 .obtain⟨its,r',pl,hz⟩:=I.list hq
  have hlen:=r'.length
  obtain⟨o,ho,hc,n,hd⟩:=pl.isList
  exact call_list_seq p (.inl rfl) ho hc hd (λh' c' kp e=>fin its r' hz h' c' kp e) (by simp only[rK]<;>lia)
 .obtain⟨its,r',pl,hz⟩:=I.tuple hq
  have hlen:=r'.length
  obtain⟨o,ho,hc,n,hd⟩:=pl
  exact call_list_seq p (.inr rfl) ho hc hd (λh' c' kp e=>fin its r' hz h' c' kp e) (by simp only[rK]<;>lia)
def NU:EG X (.type "tuple") (λxs H Q=>∃p ys,xs=[.ref p]/\((SqL X.K H p ys/\∀l,H l=none->Q (.ref l) (upd H l (.tup ys)))\/(SqT X.K H p ys/\Q (.ref p) H))):=by
 intro pins s σ H xs us Q I r h
 obtain⟨p,ys,rfl,h⟩:=h
 obtain⟨u,rfl,rx⟩:=vals1 r
 cases rx
 rcases h with⟨hq,q⟩|⟨hq,q⟩
 .obtain⟨its,r',pl,hz⟩:=I.list hq
  have hlen:=r'.length
  refine call_tuple_list pl.isList (λh' kp=>?_) (by simp only[rK]<;>lia)
  have I1:Inv X pins σ H {s with heap:=h'}:=I.kept (t':=s.toks) kp
  have I2:Inv X pins σ (upd H h'.objs.size (.tup ys)) {s with heap:=h'.push {cls:=.type "tuple",data:=.seq its.toArray}}:=
   I1.laid (t':=s.toks) (λb o e=>qt _ e) (q9 _) (show D1 X.prog X.w _ _ _ (.tup ys)from⟨hz,its,r',wI _ _⟩)
  exact⟨.ref h'.objs.size,_,I2,rfl,q _ (I1.hok.fresh (q9 _))⟩
 .obtain⟨its,r',pl,hz⟩:=I.tuple hq
  exact call_tuple_same pl ⟨.ref p,H,I,rfl,q⟩
def tyV(K:W1)(T:vJ)(x:V)(H:Hp):Prop:=match x with
 | .str _=>T="str"
 | .int _=>T="int"
 | .ref p=>(T="list" /\∃xs,SqL K H p xs)\/(T="tuple" /\∃o,K.lookup p=Gc o/\o.cls=.type "tuple" /\o.dict=none)∨ (T="dict" /\((∃kvs,H p=Gc (.dK kvs))\/∃kvs,H p=Gc (.dT kvs)))\/(T="set" /\∃S n,H p=Gc (.set S n))
 |_=>uO
def Yl{σ:St}(I:Inv X pins σ H s)(r:RelV x v)(ty:tyV X.K T x H):s.TypeIs v T/\∀a,v=.ref a->∃ob,s.heap.get? a=Gc ob/\ob.dict=none:=by
 cases x with
 |str z=>
  obtain⟨t,rfl⟩:=r
  cases (show T="str" from ty)
  exact⟨yq s z t,λ_ e=>nomatch e⟩
 |int i=>
  obtain⟨t,rfl⟩:=r
  cases (show T="int" from ty)
  exact⟨xO s i t,λ_ e=>nomatch e⟩
 |ref p=>
  cases r
  rcases ty with⟨rfl,xs,hq⟩|⟨rfl,o,hk,hc,hd⟩|⟨rfl,hk⟩|⟨rfl,S,n,hk⟩
  .obtain⟨its,_,pl,_⟩:=I.list hq
   refine⟨pl.isList.typeIs,λa e=>?_⟩
   cases e
   obtain⟨o,n,e,c,hd,_⟩:=pl
   exact⟨o,e,hd⟩
  .refine⟨⟨o,I.kIn p o hk,hc⟩,λa e=>?_⟩
   cases e
   exact⟨o,I.kIn _ o hk,hd⟩
  .have z:∃o,s.heap.get? p=Gc o/\o.ExactDict:=by
    rcases hk with⟨kvs,hk⟩|⟨kvs,hk⟩
    .obtain⟨_,_,_,_,o,_,_,e,ex,_⟩:=I.hok p _ hk
     exact⟨o,e,ex⟩
    .obtain⟨_,_,_,_,o,_,_,e,ex,_⟩:=I.hok p _ hk
     exact⟨o,e,ex⟩
   obtain⟨o,e,ex⟩:=z
   refine⟨⟨o,e,ex.1⟩,λa e2=>?_⟩
   cases e2
   exact⟨o,e,ex.2.1⟩
  .obtain⟨o,_,_,_,e,ex,_⟩:=I.hok p _ hk
   refine⟨⟨o,e,ex.1⟩,λa e2=>?_⟩
   cases e2
   exact⟨o,e,ex.2.1⟩
 |_=>exact si ty
noncomputable def qM(K:W1)(T:vJ)(r:V->Wp V->Hp->VK->Prop)(to:TE):TE:=λσ H Q=>to σ H λx H1=>tyV K T x H1/\r x [] H1 Q
noncomputable def tBM(K:W1)(T:vJ)(r:V->Wp V->Hp->VK->Prop)(to:TE)(t:TA):TE:=λσ H Q=>to σ H λx H1=>tyV K T x H1/\t σ H1 λxs H2=>r x xs H2 Q
variable{o e:tF}{es:Wp tF}{to:TE}{t:TA}{name:Str}{apos cpos:Pos}{T id:vJ}{r:V->Wp V->Hp->VK->Prop}
def iP(pa:PlainAttrs T)(slot:Slot T name id)(hty:typeOf (.builtin id)=pure (.type "method_descriptor"))(hm:MtR X id r)(ho:PE X o to)(hbase:x0 (attributeBase o name X.env (eval o X.env)=eval o X.env) wv)(hline:x0 ((apos.endLine==cpos.line)=true) wv):PE X (.Call (.Attribute o name apos) [] [] cpos) (qM X.K T r to):=by
 intro pins s σ H Q I h
 refine wpAny_Call_method0_late hbase hline (thn (ho pins s σ H _ I h) λv s1 z=>?_)
 obtain⟨x,H1,I1,r1,ty,q1⟩:=z
 obtain⟨h1,h2⟩:=Yl I1 r1 ty
 exact⟨T,id,pa,slot,hty,h1,h2,yr rfl (PySem.evalArgs_none (hm pins s1 σ H1 x [] v [] Q I1 r1 .nil q1))⟩
def lV(pa:PlainAttrs T)(slot:Slot T name id)(hty:typeOf (.builtin id)=pure (.type "method_descriptor"))(hm:MtR X id r)(ho:PE X o to)(ha:PA X (e::es) t)(hbase:x0 (attributeBase o name X.env (eval o X.env)=eval o X.env) wv)(hfew:x0 (((backTo cpos (rG (e::es) X.env)).all (λx=> !x.1) && (backToKw cpos (keywordEach [] X.env)).all (λx=>x.1.isSome) && decide ((e::es).length+([]:Wp yN).length+(if([]:Wp yN).isEmpty then 0 else 1)<30))=true) wv)(hline:x0 ((apos.endLine==cpos.line)=true) wv)(hs:x0 (rG (e::es) X.env=(false,eval e X.env)::rG es X.env) wv)(hplain:x0 ((backTo cpos (rG es X.env)).any (·.1)=false) wv):PE X (.Call (.Attribute o name apos) (e::es) [] cpos) (tBM X.K T r to t):=by
 intro pins s σ H Q I h
 refine wpAny_Call_method_late hbase hfew hline rfl (thn (ho pins s σ H _ I h) λv s1 z=>?_)
 obtain⟨x,H1,I1,r1,ty,q1⟩:=z
 obtain⟨h1,h2⟩:=Yl I1 r1 ty
 refine⟨T,id,pa,slot,hty,h1,h2,?_⟩
 have hA:=ha cpos pins s1 σ H1 _ I1 q1
 rw[hs]at hA⊢
 refine yr (by show(false||(backTo cpos (rG es X.env)).any (·.1))=false;rw[hplain]<;>rfl) (zT ?_)
 exact thn hA λus s2 ⟨vs,H2,I2,r2,q2⟩=>hm pins s2 σ H2 x vs v us Q I2 r1 r2 q2
end
end L2
namespace L2
open PySem PySem.Spec PyProof.Rows
def MtM(X:Cx)(id:vJ)(r:V->Wp V->Hp->VK->Prop):Prop:=
 ∀(pins:Wp (rL×Obj)) (s:rP) (σ:St) (H:Hp) (x:V) (xs:Wp V) (v:rD) (us:Wp rD) (Q:VK),Inv X pins σ H s->RelV x v->Vals xs us->r x xs H Q->
  wpAny (model X.prog X.w) X.A (call (.builtin id) (v::us)) (EP X pins σ Q) X.xe s
def Vals.one:∀{x:V} {us:Wp rD},Vals [x] us->∃u,us=[u]/\RelV x u:=λh=>by
 cases h with
 |cons r t=>cases t;exact⟨_,rfl,r⟩
def Vals.two:∀{x y:V} {us:Wp rD},Vals [x,y] us->∃u v,us=[u,v]/\RelV x u/\RelV y v:=λh=>by
 cases h with
 |cons r t=>
  cases t with
  |cons q t=>cases t;exact⟨_,_,rfl,r,q⟩
theorem Vals.zero:∀{us:Wp rD},Vals [] us->us=[]
 |_,.nil=>rfl
def Vals.dropLast{xs:Wp V}{us:Wp rD}(h:Vals xs us):Vals xs.dropLast us.dropLast:=by
 induction h with
 |nil=>exact .nil
 |cons r t ih=>
  cases t with
  |nil=>exact .nil
  |cons q t'=>exact .cons r ih
theorem Vals.eraseIdx:∀{xs} {us} (i:Nat),Vals xs us->Vals (xs.eraseIdx i) (us.eraseIdx i)
 |_,_,_,.nil=>.nil
 |_,_,0,.cons _ t=>t
 |_,_,i+1,.cons r t=>.cons r (Vals.eraseIdx i t)
theorem Vals.rep(h:Vals xs us):∀k:Nat,Vals (rQ k xs).flatten (rQ k us).flatten
 |0=>.nil
 |k+1=>by
  rw[uD,uD,vO,vO]
  exact Vals.append h (Vals.rep h k)
def SJ{α:Type}(l:Wp α):l.eraseIdx (l.length-1)=l.dropLast:=by
 induction l with
 |nil=>rfl
 |cons a r ih=>
  cases r with
  |nil=>rfl
  |cons b r=>
   have e:(a::b::r).length-1=((b::r).length-1)+1:=by
    have h1:(a::b::r).length=r.length+2:=rfl
    have h2:(b::r).length=r.length+1:=rfl
    rfl
   rw[e,List.eraseIdx_cons_succ,ih]
   all_goals rfl
theorem OZ{α:Type}:∀(l:Wp α) (i:Nat),(l.eraseIdx i).length<=l.length
 | [],_=>q9 _
 |_::_,0=>zP _
 |_::r,i+1=>Nat.succ_le_succ (OZ r i)
theorem foldl_rep its:∀k (acc:Wp rD),AAG (λx1 x2=>x1++x2) acc.toArray (rQ k its.toArray)=(acc++(rQ k its).flatten).toArray
 |0,acc=>by simp
 |k+1,acc=>by
  have e:acc.toArray++its.toArray=(acc++its).toArray:=by simp
  have e2:(acc++its)++(rQ k its).flatten=acc++(rQ (k+1) its).flatten:=by
   rw[uD,vO,wy]
  rw[<-e2,<-foldl_rep its k (acc++its),<-e,uD,List.foldl_cons]
section
variable{X:Cx}{pins:Wp (rL×Obj)}{σ:St}{H:Hp}{s:rP}{l b:rL}{xs ys zs:Wp V}
def Inv.dA{its its':Wp rD}{t':Nat}(I:Inv X pins σ H s)(hH:H l=Gc (.lst xs))(e:s.heap.get? l=Gc {cls:=.type "list",data:=.seq its.toArray n})(hf:f its.toArray=its'.toArray)(hv:Vals ys its')(hz:ys.length<=sizeLine):Inv X pins σ (upd H l (.lst ys)) {s with heap:=s.heap.update l (yD f),toks:=t'}:=by
 have q:=PySem.IsL.update e f
 rw[hf]at q
 refine I.write (x:=l) (e:=l) (by rw[hH];exact trivial) (.inl rfl) (λb' u hb hu=>(tQ s.heap (yD f) (tu hb)).trans hu) ⟨_,q⟩ ?_
 exact⟨hz,its',_,hv,q⟩
def Inv.mz{its:Wp rD}{t':Nat}(I:Inv X pins σ H s)(hv:Vals ys its)(hz:ys.length<=sizeLine):Inv X pins σ (upd H s.heap.objs.size (.lst ys)) {s with heap:=s.heap.push {cls:=.type "list",data:=.seq its.toArray},toks:=t'}:=
 I.laid (λ_ _ q=>qt _ q) (q9 _) ⟨hz,its,0,hv,rW _ rfl⟩
def Inv.fresh(I:Inv X pins σ H s):H s.heap.objs.size=none:=I.hok.fresh (q9 _)
def Inv.WI(I:Inv X pins σ H s)(hH:H l=Gc (.lst xs)):xs.length<=sizeLine/\∃(its:Wp rD) (n:Nat),Vals xs its/\xs.length=its.length/\s.heap.get? l=Gc {cls:=.type "list",data:=.seq its.toArray n}:=by
 obtain⟨z,its,n,r,e⟩:=I.hok l _ hH
 exact⟨z,its,n,r,r.length,e⟩
def OB{n:Nat}(h:n<=sizeLine):uH n=false:=by
 unfold uH
 exact vM (by lia)
end
section
variable{X:Cx}
def cF:V->Wp V->Hp->VK->Prop:=λx vs H Q=>∃l xs y,x=.ref l/\vs=[y]/\H l=Gc (.lst xs)/\xs.length<sizeLine/\Q .non (upd H l (.lst (xs++[y])))
def Ot:MtM X "list.append" cF:=by
 intro pins s σ H x vs v us Q I rx rv h
 obtain⟨l,xs,y,rfl,rfl,hH,hz,q⟩:=h
 cases rx
 obtain⟨u,rfl,ru⟩:=rv.one
 obtain⟨z,its,n,r,hl,e⟩:=I.WI hH
 refine vy uS ⟨_,e,rfl⟩ F.entry_list_append (F.args_list_append_2 _ _) (PySem.list_append l its.toArray n u (by rw[rK];lia)) ⟨e,?_⟩
 refine⟨.non,_,I.dA (its':=its++[u]) hH e (by simp) (r.append (.cons ru .nil)) ?_,rfl,q⟩
 rw[sk,zI]
 lia
def ZX:V->Wp V->Hp->VK->Prop:=λx vs H Q=>∃l b xs zs,x=.ref l/\vs=[.ref b]/\H l=Gc (.lst xs)/\H b=Gc (.lst zs)/\xs.length+zs.length<=sizeLine/\Q .non (upd H l (.lst (xs++zs)))
def Uc:MtM X "list.extend" ZX:=by
 intro pins s σ H x vs v us Q I rx rv h
 obtain⟨l,b,xs,zs,rfl,rfl,hH,hB,hz,q⟩:=h
 cases rx
 obtain⟨u,rfl,ru⟩:=rv.one
 cases ru
 obtain⟨z,its,n,r,hl,e⟩:=I.WI hH
 obtain⟨z2,its2,n2,r2,hl2,e2⟩:=I.WI hB
 have hsz:its.toArray.size+its2.toArray.size<=sizeLine:=by rw[rK,rK];lia
 have hlong:¬(!its.toArray.isEmpty && uH (its.toArray.size+its2.toArray.size))=true:=by
  rw[OB hsz,Bool.and_false]
  exact sZ
 refine vy AAH ⟨_,e,rfl⟩ zx (zU _ _)
  (AutoSeq1.list_extend_list_list_0 l its.toArray n b its2.toArray n2 hlong (by rw[rK];lia) (by lia)) ⟨e,e2,?_⟩
 refine⟨.non,_,I.dA (its':=its++its2) hH e (by simp) (r.append r2) ?_,rfl,q⟩
 rw[sk]
 lia
def pw:V->Wp V->Hp->VK->Prop:=λx vs H Q=>∃l xs y,x=.ref l/\vs=[]/\H l=Gc (.lst xs)/\xs[xs.length-1]?=Gc y/\Q y (upd H l (.lst xs.dropLast))
def fK:MtM X "list.pop" pw:=by
 intro pins s σ H x vs v us Q I rx rv h
 obtain⟨l,xs,y,rfl,rfl,hH,hy,q⟩:=h
 cases rx
 have hus:=rv.zero
 subst hus
 obtain⟨z,its,n,r,hl,e⟩:=I.WI hH
 obtain⟨u,hu,ru⟩:=r.get hy
 have hy':its.toArray[its.toArray.size-1]?=Gc u:=by
  show its.toArray[its.length-1]?=Gc u
  rw[<-zJ,<-hl]
  exact hu
 refine vy vd ⟨_,e,rfl⟩ F.entry_list_pop (F.args_list_pop_1 _) (MeetsSeq.list_pop_last l its.toArray n u hy' (by rw[rK];lia)) ⟨e,?_⟩
 refine⟨y,_,I.dA (its':=its.dropLast) hH e ?_ r.dropLast ?_,ru,q⟩
 .show its.toArray.eraseIdxIfInBounds (its.toArray.size-1)=its.dropLast.toArray
  rw[rK,xH,SJ]
 .rw[List.length_dropLast]
  lia
def dm:V->Wp V->Hp->VK->Prop:=λx vs H Q=>∃l xs i k y,x=.ref l/\vs=[.int i]/\H l=Gc (.lst xs)/\ -(2^63)<=i/\i<2^63/\seqIndex? i xs.length=Gc k/\xs[k]?=Gc y/\Q y (upd H l (.lst (xs.eraseIdx k)))
def WQ:MtM X "list.pop" dm:=by
 intro pins s σ H x vs v us Q I rx rv h
 obtain⟨l,xs,i,k,y,rfl,rfl,hH,h1,h2,hk,hy,q⟩:=h
 cases rx
 obtain⟨u,rfl,ru⟩:=rv.one
 obtain⟨t,rfl⟩:=ru
 obtain⟨z,its,n,r,hl,e⟩:=I.WI hH
 obtain⟨w,hw,rw'⟩:=r.get hy
 refine vy vd ⟨_,e,rfl⟩ F.entry_list_pop (F.args_list_pop_2 _ _)
  (MeetsSeq.list_pop_at l its.toArray n i t k w (fitsIndex_both h1 h2) (by rw[rK,<-hl];exact hk) (by rw[<-zJ];exact hw) (by rw[rK];lia)) ⟨e,?_⟩
 refine⟨y,_,I.dA (its':=its.eraseIdx k) hH e ?_ (r.eraseIdx k) ?_,rw',q⟩
 .show its.toArray.eraseIdxIfInBounds k=(its.eraseIdx k).toArray
  rw[xH]
 .have:=OZ xs k
  lia
noncomputable def pb:R2:=λx y H Q=>∃l b xs zs,x=.ref l/\y=.ref b/\H l=Gc (.lst xs)/\H b=Gc (.lst zs)/\xs.length+zs.length<=sizeLine/\∀p,H p=none->Q (.ref p) (upd H p (.lst (xs++zs)))
def iF:OpR X (binaryOp .Add) pb:=by
 intro pins s σ H x y v u Q I rx ry h
 obtain⟨l,b,xs,zs,rfl,rfl,hH,hB,hz,q⟩:=h
 cases rx
 cases ry
 obtain⟨z,its,n,r,hl,e⟩:=I.WI hH
 obtain⟨z2,its2,n2,r2,hl2,e2⟩:=I.WI hB
 refine PySem.P.add_list e e2 ?_ (by rw[rK,rK];lia)
 have ea:its.toArray++its2.toArray=(its++its2).toArray:=by simp
 rw[ea]
 exact⟨.ref _,_,I.mz (t':=s.toks) (r.append r2) (by rw[sk];lia),rfl,q _ I.fresh⟩
noncomputable def oR:R2:=λx y H Q=>∃l k xs,x=.ref l/\y=.int k/\H l=Gc (.lst xs)/\ -(2^63)<=k/\k<2^63/\xs.length*k.toNat<=sizeLine/\
 ∀p,H p=none->Q (.ref p) (upd H p (.lst (rQ k.toNat xs).flatten))
def len_rep{α:Type}(xs:Wp α)(k:Nat):(rQ k xs).flatten.length=k*xs.length:=by
 induction k with
 |zero=>simp
 |succ k ih=>rw[uD,vO,sk,ih,Nat.succ_mul,yt]
def hO:OpR X (binaryOp .Mult) oR:=by
 intro pins s σ H x y v u Q I rx ry h
 obtain⟨l,k,xs,rfl,rfl,hH,h1,h2,hz,q⟩:=h
 cases rx
 obtain⟨t,rfl⟩:=ry
 obtain⟨z,its,n,r,hl,e⟩:=I.WI hH
 have hlen:its.toArray.size*k.toNat<=sizeLine:=by rw[rK,<-hl];exact hz
 have hcap:¬its.toArray.size*k.toNat>(2^63-1) / 8:=by
  have:(sizeLine:Nat)<=(2^63-1) / 8:=by decide
  lia
 have hfit:¬(!Builtin.List.listFitsIndex k)=true:=by
  rw[fitsIndex_both h1 h2]
  exact sZ
 have hlong:¬uH (its.toArray.size*k.toNat)=true:=by
  rw[OB hlen]
  exact sZ
 have hnew:AAG (λx1 x2=>x1++x2) #[] (rQ (if its.toArray.isEmpty=true then 0 else k.toNat) its.toArray)=(rQ k.toNat its).flatten.toArray:=by
  have f0:∀m:Nat,AAG (λx1 x2=>x1++x2) #[] (rQ m its.toArray)=(rQ m its).flatten.toArray:=λm=>by
   have:=foldl_rep its m []
   rw[r9]at this
   exact this
  rw[f0]
  cases its with
  |nil=>simp
  |cons a r'=>rw[sH (by simp)]
 refine wG (T:="list") (U:="int") (by decide) ⟨_,e,rfl⟩ (λs'=>xO s' k t) noFill_list_mul zA vk repeat_list yg.lookup
  (vy vk (xO s k t) yh (yQ _ _) (int___rmul___int_list k t l its.toArray n)
    ⟨e,rfl,⟨_,e,rfl⟩,vy F.slot_list_mul ⟨_,e,rfl⟩ F.entry_list_mul (F.args_list_mul_2 _ _) (AutoListH.list___mul___list_int_3 l its.toArray n k t hfit hcap hlong) ⟨e,?_⟩⟩)
 rw[hnew]
 exact⟨.ref _,_,I.mz (t':=s.toks) (r.rep k.toNat) (by rw[len_rep,ui];exact hz),rfl,q _ I.fresh⟩
end
section
variable{prog:sx}{w:uL}{A:ux}{E:rD->rP->Prop}{s:rP}
end
section
variable{X:Cx}
end
end L2
namespace Att
open PySem PySem.W PySem.Calls PyProof.Rows
def ints_of_wellAll:∀ns (vs:Wp rD),WellAll P h vs (ns.map WData.int)->wN vs ns:=by
 intro ns
 induction ns with
 |nil=>
  intro vs w
  rw[tP]at w
  cases w
  exact .nil
 |cons n ns ih=>
  intro vs w
  rw[rT]at w
  cases w with
  |cons a b=>
   cases a
   exact .cons _ _ (ih _ b)
def script_of{l:yl}(hn:l.most=Gc n)(hpre:l.row.toRowW.claim.pre args=true)(hwl:WellAll P h vals args):∃a vs ns,vals=[sA a]/\args=[WData.list (ns.map WData.int)]/\h.get? a=Gc {cls:=.type "list",data:=.seq vs.toArray}/\wN vs ns/\ns.length<=n:=by
 have hsh:WShape.hasAll [] args [.list .int]=true:=(pre_splitW hpre).1
 have hc:l.pre.holds [] {args:=args}=true:=(pre_splitW hpre).2
 obtain⟨d,r,rfl,h1,h2⟩:=hasAllW_cons hsh
 obtain rfl:=hasAllW_nil h2
 obtain⟨xs,rfl,h3⟩:=hasW_list h1
 obtain⟨ns,rfl⟩:=items_int h3
 have hlen:ns.length<=n:=by
  unfold OpenLaw.pre at hc
  have h4:(WTm.not (.lt (.lit (.int (n:Int))) (.len (.arg 0)))).holds [] {args:=[.list (ns.map .int)]}=true:=by
   have h4:=(holds_andW hc).1
   rw[hn]at h4
   exact h4
  have h5:=condW_of h4 (w_not (w_lt w_lit (w_len_list (w_arg rfl))))
  rw[sG]at h5
  refine Nat.le_of_not_lt λq=>?_
  have q':(n:Int)<((ns.length:Nat):Int):=by lia
  first
   |(rw[uT q']at h5;exact absurd h5 (by decide))
   |(simp at h5;lia)
 cases hwl with
 |cons w1 w2=>
  cases w2
  cases w1 with
  |list ho hall=>exact⟨_,_,ns,rfl,rfl,ho,ints_of_wellAll ns _ hall,hlen⟩
def post_true(l:yl)(args:Wp WData):l.row.toRowW.claim.post args (.bool true) args=true:=
 postW_of (r:=l.row.toRowW) (X:=(true==true))
  (show WShape.has [] (.bool true) .bool=true by first|rfl|decide|simp[WShape.has,WShape.arms,WShape.armsAll])
  (show(WTm.eq .res (.lit (.bool true))).value [] {args:=args,res:=Gc (.bool true),after:=args}=Gc (.bool (true==true))from w_eq_bool (w_res rfl) w_lit) rfl
def attach_call{l:yl}(hn:l.most=Gc n)(hdf:d.params.defaults=[])(call:∀w s₀ s₁ mg mb fa o pm cd doc a vs ns,Ground q loose [] XP w s₀ mg mb s₁.heap->YP w s₁.heap->s₁.heap.get? fa=Gc o->o.data=.func (docDef d.name d.params d.body d.scope pm cd doc)->s₁.heap.CodeRec cd d.name->mg d.name=Gc (.ref fa)->s₁.heap.get? a=Gc {cls:=.type "list",data:=.seq vs.toArray}->wN vs ns->ns.length<=n->s₁.gens= #[]->codeAny (model l.prog w) callerA (.call (.ref fa) ⟨[.ref a],[]⟩) (λr s'=>r=.ok (.ret (.bool true))/\OldK s₁.heap s'.heap/\s'.os=s₁.os/\wd s'.gens) s₁):WalkO q loose XP YP l.row.toRowW d [] (λf vs=>PySem.call f vs):=by
 intro w s₀ s₁ mg mb G Y fa o pm cd doc dV kV ho hd hcd hD hmg hg args vals as hpre hlay hrd hwl hlo
 obtain rfl:dV=.none:=Dflts.none hD hdf
 obtain rfl:kV=.none:=Dflts.noKw hD
 obtain⟨a,vs,ns,rfl,rfl,hobj,hints,hlen⟩:=script_of hn hpre hwl
 refine enter_call (v9 (call w s₀ s₁ mg mb fa o pm cd doc a vs ns G Y ho (fd_plain hd) hcd hmg hobj hints hlen hg) λr s' hq=>?_)
 obtain⟨rfl,h2,h3,h4⟩:=hq
 exact⟨.inl ⟨.bool true,.bool true,[],rfl,λ_=>rfl,.bool true,post_true l _,λ_=>⟨List.Pairwise.nil,λ_ hm=>(nomatch hm)⟩⟩,h2,h3,h4⟩
section
variable{prog:sx}{w:uL}{A:ux}{E:rD->rP->Prop}{s:rP}{K:W1}
end
end Att
namespace L2
open PySem PySem.Spec PyProof.Rows
theorem PM:∀{vs:Wp rD} {ns:Wp Int},wN vs ns->Vals (ns.map V.int) vs
 |_,_,.nil=>.nil
 |_,_,.cons n t h=>.cons ⟨t,rfl⟩ (PM h)
end L2
namespace L2
open PySem PySem.Spec PyProof.Rows
abbrev KOf{K:W1}{h:tS}(_:K.In h):W1:=K
end L2
namespace L2
open PySem PySem.Spec PyProof.Rows
noncomputable def inClass(s:sP)(j:Nat):sP:=match s with
 | .ClassDef _ _ _ body _ _ _ _ _ _ _=>body.getD j (.Pass ⟨0,0,0,0⟩)
 |_=>.Pass ⟨0,0,0,0⟩
noncomputable def Gs(s:sP):Arguments:=match s with
 | .FunctionDef _ a _ _ _ _ _ _ _ _=>a
 |_=>{posonlyargs:=[],args:=[],vararg:=none,kwonlyargs:=[],kw_defaults:=[],kwarg:=none,defaults:=[]}
noncomputable def BH(s:sP):Wp sP:=match s with
 | .FunctionDef _ _ b _ _ _ _ _ _ _=>b
 |_=>[]
noncomputable def AB(s:sP):uf:=match s with
 | .FunctionDef _ _ _ _ _ _ sc _ _ _=>sc
 |_=>{kind:=.function,names:=[],isGenerator:=false,isCoroutine:=false}
abbrev CX0:CXT:=λ_ _ _ _ _ _=>uO
abbrev E0:XK:=λ_ _ _=>uO
def Vg{X:Cx}:Passes CX0 X E0:=λ_ _ _ _ _ _ _ h=>h.elim
structure Fun(K:W1)(x qual:Str)(st:sP)(f:rL)(fd:xT):Prop where
 ex:∃(oc:rD) (od:qz rL) (kV doc pm:rD) (an:qz rL) (cdv ct:rD) (osl:xI (qz rD)),
  fd=uh x qual (Gs st) (BH st) (AB st) .none kV doc pm an cdv ct/\K.lookup f=Gc ⟨oc,od,.func fd,osl⟩/\vx K cdv qual=true
 kp:tL K (.ref f)=true
section
variable{P:sx}{w:uL}{K:W1}{mg:Str->qz rD}{base:tS}
def Fun.ok{st:sP}(F:Fun K x qual st f fd)(S:Au N ps (AB st))(len:∀vs H Q E,sp vs H Q E->vs.length=ps.length)(hbody:∀cdv A outer s H vs Q E,Ct k (A.deeper (envOfC qual (AB st) s.heap.objs.size f cdv))->sp vs H Q E->∃t,PSs (Jj CX0 P w K mg base N qual (AB st) f cdv A outer s H E).nox (BH st) t/\t {nx:=λ_ H'=>Q .non H',rt:=Q} (start N vs) H):Kg P w K mg base CX0 (k+1) f fd ps sp:=by
 obtain⟨oc,od,kV,doc,pm,an,cdv,ct,osl,rfl,lk,hcd⟩:=F.ex
 refine X4 lk hcd S len λA outer s H vs Q E hr hsp=>?_
 obtain⟨t,h,q⟩:=hbody cdv A outer s H vs Q E hr hsp
 exact⟨t,h.nox,q⟩
def Fun.binds{st:sP}(F:Fun K x qual st f fd)(h:∀kV doc pm an cdv ct us,us.length=ps.length->bindArgs (uh x qual (Gs st) (BH st) (AB st) .none kV doc pm an cdv ct) ⟨us,[]⟩=pure (ps.zip us)):Binds K fd ps []:=by
 obtain⟨oc,od,kV,doc,pm,an,cdv,ct,osl,rfl,lk,hcd⟩:=F.ex
 exact .all (h kV doc pm an cdv ct)
def U5{st:sP}{kV doc pm cdv ct:rD}(l:K.lookup f=Gc ⟨oc,od,.func (uh x qual (Gs st) (BH st) (AB st) .none kV doc pm an cdv ct),osl⟩)(c:vx K cdv qual=true)(k:tL K (.ref f)=true):Fun K x qual st f (uh x qual (Gs st) (BH st) (AB st) .none kV doc pm an cdv ct):=⟨⟨oc,od,kV,doc,pm,an,cdv,ct,osl,rfl,l,c⟩,k⟩
end
section
variable{X:Cx}
end
def Yt{A B:Prop}(h:B):if false=true then A else B:=by
 rw[sH sZ]
 exact h
def YD{A B:Prop}(h:A):if true=true then A else B:=by
 rw[sD rfl]
 exact h
def Ba(H H':Hp):Prop:=∀b o,H b=Gc o->H' b=Gc o
end L2
end
noncomputable section
namespace L2
open PySem PySem.Spec PyProof.Rows
noncomputable def FZ(cells:Wp (Str×rL)):Wp (Str×yc)->Wp (Str×rL)->Wp (Str×rL)
 | [],cs=>cs
 |(n,k)::r,cs=>if(k==tM)=true then FZ cells r ((n,(cells.lookup n).getD 0)::cs)else FZ cells r cs
def Ph:∀names cs,(∀y∈names,y.2=.free->∃a,env.cells.lookup y.1=Gc a)->(forIn names cs λx r=>match x with|(name,kind)=>if(kind==tM)=true then(do let a<-cellOf env name;pure (xW ((name,a)::r)))else pure (xW r):Sem (Wp (Str×rL)))=pure (FZ env.cells names cs)
 | [],cs,_=>by simp[FZ]
 |(n,k)::r,cs,h=>by
  rw[zB]
  have ih:=λcs=>Ph r cs λy hy=>h y (rC _ hy)
  by_cases hk:(k==tM)=true
  .obtain⟨a,ha⟩:=h (n,k) rM (by simpa using hk)
   have ha':env.cells.lookup n=Gc a:=ha
   have e:cellOf env n=pure a:=by unfold cellOf;rw[ha']
   simp only[hk,xl,e,pure_bind,FZ,ha',Option.getD_some]
   exact ih _
  .simp only[hk,yf,pure_bind,FZ]
   exact ih _
def N7(h:∀y∈scope.names,y.2=.free->∃a,env.cells.lookup y.1=Gc a):closureFor scope env=pure (FZ env.cells scope.names []):=by
 unfold closureFor
 have:=Ph (env:=env) scope.names [] h
 simp only[bind_pure]at this⊢
 exact this
theorem JW:∀{names} {cs},(∀y∈names,y.2=.free->∃a,cells.lookup y.1=Gc a)->(FZ cells names cs).lookup x=Gc c->cs.lookup x=Gc c\/cells.lookup x=Gc c
 | [],cs,_,h=>.inl h
 |(n,k)::r,cs,hh,h=>by
  have hr:∀y∈r,y.2=.free->∃a,cells.lookup y.1=Gc a:=λy hy=>hh y (rC _ hy)
  unfold FZ at h
  by_cases hk:(k==tM)=true
  .rw[sD hk]at h
   rcases JW hr h with q|q
   .obtain⟨a,ha⟩:=hh (n,k) rM (by simpa using hk)
    have ha':cells.lookup n=Gc a:=ha
    rw[sX]at q
    cases hx:x==n with
    |true=>
     rw[hx,ha']at q
     have e:x=n:=by simpa using hx
     subst e
     cases q
     exact .inr ha'
    |false=>
     rw[hx]at q
     exact .inl q
   .exact .inr q
  .rw[sH hk]at h
   exact JW hr h
theorem GD:∀{names} {cs},((x,tM)∈names\/∃c,cs.lookup x=Gc c)->∃c,(FZ cells names cs).lookup x=Gc c
 | [],cs,h=>h.elim (λz=>nomatch z) id
 |(n,k)::r,cs,h=>by
  unfold FZ
  by_cases hk:(k==tM)=true
  .rw[sD hk]
   refine GD ?_
   by_cases hx:x=n
   .subst hx
    exact .inr ⟨_,by rw[sX,yi]⟩
   .rcases h with h|⟨c,h⟩
    .rcases qy.mp h with e|e
     .cases e;exact absurd rfl hx
     .exact .inl e
    .refine .inr ⟨c,?_⟩
     rw[sX,show(x==n)=false by simpa using hx]
     exact h
  .rw[sH hk]
   refine GD ?_
   rcases h with h|h
   .rcases qy.mp h with e|e
    .cases e;exact absurd rfl hk
    .exact .inl e
   .exact .inr h
theorem Ki{env:Env}:∀{names:Wp (Str×yc)},names.lookup x=Gc .free->(names.map λ(n,k)=>if(k==tM && env.scope.kind== .function && env.kindOf n==Gc .cell)then(n,vn)else(n,k)).lookup x=Gc .cell\/(names.map λ(n,k)=>if(k==tM && env.scope.kind== .function && env.kindOf n==Gc .cell)then(n,vn)else(n,k)).lookup x=Gc .free
 | [],h=>by simp at h
 |(n,k)::r,h=>by
  have ih:= @Ki x env r
  show uP x ((if(k==tM && env.scope.kind== .function && env.kindOf n==Gc .cell)=true then(n,vn)else(n,k))::_)=_\/uP x ((if(k==tM && env.scope.kind== .function && env.kindOf n==Gc .cell)=true then(n,vn)else(n,k))::_)=_
  cases hx:x==n with
  |true=>
   simp only[sX,hx]at h
   cases h
   by_cases hc:(tM==tM && env.scope.kind== .function && env.kindOf n==Gc .cell)=true
   .rw[sD hc];simp only[sX,hx];exact .inl trivial
   .rw[sH hc];simp only[sX,hx];exact .inr trivial
  |false=>
   simp only[sX,hx]at h
   by_cases hc:(k==tM && env.scope.kind== .function && env.kindOf n==Gc .cell)=true
   .rw[sD hc];simp only[sX,hx];exact ih h
   .rw[sH hc];simp only[sX,hx];exact ih h
def Lo(hk:k'=.cell\/k'=.free)(h:(relabel scope env).names.lookup x=Gc k'):(x,tM)∈scope.names\/(x,vn)∈scope.names:=by
 have hm:=sW h
 obtain⟨⟨n,k⟩,hy,e⟩:=sE.mp (show(x,k')∈scope.names.map _ from hm)
 by_cases hc:(k==tM && env.scope.kind== .function && env.kindOf n==Gc .cell)=true
 .simp only[hc,xl]at e
  cases e
  have:k=.free:=by
   have:=((rH _ _).mp hc).1
   exact uv.mp ((rH _ _).mp this).1
  subst this
  exact .inl hy
 .simp only[hc,yf]at e
  cases e
  rcases hk with rfl|rfl
  .exact .inr hy
  .exact .inl hy
theorem Bu:∀names n cs,cellsFrom n names cs=cellsFrom n names []++cs
 | [],_,_=>rfl
 |(x,k)::r,n,cs=>by
  unfold cellsFrom
  split
  .rw[Bu r _ ((x,n)::cs),Bu r _ [(x,n)]];simp
  .exact Bu r n cs
theorem Gh:∀{names} {n},(x,c)∈cellsFrom n names []->(x,vn)∈names
 | [],_,h=>nomatch h
 |(y,k)::r,n,h=>by
  unfold cellsFrom at h
  split at h
  .rename_i hk
   rw[Bu]at h
   rcases rf.mp h with z|z
   .exact rC _ (Gh z)
   .have e:=sF.mp z
    cases e
    rw[uv.mp hk]
    exact rM
  .exact rC _ (Gh h)
def J6(hQ:∀h',h'.Ns s.heap.objs.size (λ_=>none)->(∀b o,s.heap.get? b=Gc o->h'.get? b=Gc o)->CellsOk h' (s.heap.objs.size+1) (cellsFrom (s.heap.objs.size+1) scope.names [])->Q (newEnv scope s.heap.objs.size globals (cellsFrom (s.heap.objs.size+1) scope.names cl) qual none .none (Gc env) builtinsNs) {s with heap:=h'}):wpAny M A (newFunctionEnv scope globals cl [] qual none .none (Gc env)) Q E s:=by
 simp only[newFunctionEnv,Option.isSome_some,xl]
 refine qu (wpAny_alloc ?_)
 refine qu (wpAny_layCells _ (λname kind cells=>by cases hkc:kind==vn<;>simp[hkc]) _ _ _ _ ?_)
 have ok:=cellsFrom_ok scope.names (s.heap.push {cls:=.type "dict",data:=.dict #[]}) (s.heap.objs.size+1) [] ⟨λ_ _ hm=>(nomatch hm),List.Pairwise.nil⟩ (by rw[tT];exact q9 _)
 rw[tT]at ok
 rw[show({s with heap:=s.heap.push {cls:=.type "dict",data:=.dict #[]}}:rP).heap.objs.size=s.heap.objs.size+1 from tT ..]
 rw[zV]
 refine qu (rS (rS ?_))
 exact hQ _ ((Heap.Ns.new s.heap (.type "dict")).keeps (pushCells_keeps _ _)) (λb o e=>pushCells_keeps _ _ b o (qt _ e)) ok
end L2
end
noncomputable section
namespace L2
open PySem PySem.Spec PyProof.Rows
noncomputable def Qm(N:Wp Str)(osc scope:uf):Wp Str->Wp (qz Nat)->su
 | [],[]=>true
 |_::r,none::q=>Qm N osc scope r q
 |x::r,Gc i::q=>decide (N[i]?=Gc x) && (decide (osc.names.lookup x=Gc .cell)||decide (osc.names.lookup x=Gc .free)) && decide (scope.names.lookup x=Gc .free) && Qm N osc scope r q
 |_,_=>false
theorem VS:∀{N'} {ix},Qm N osc scope N' ix=true->ix.length=N'.length
 | [],[],_=>rfl
 |_::r,none::q,h=>by
  unfold Qm at h
  simp[VS h]
 |x::r,Gc i::q,h=>by
  unfold Qm at h
  have:=((rH _ _).mp h).2
  simp[VS this]
 | [],_::_,h=>by simp[Qm]at h
 |_::_,[],h=>by simp[Qm]at h
theorem ZS:∀{N'} {ix},Qm N osc scope N' ix=true->∀{j i:Nat} {x},N'[j]?=Gc x->ix[j]?=Gc (Gc i)->N[i]?=Gc x/\(osc.names.lookup x=Gc .cell\/osc.names.lookup x=Gc .free)/\scope.names.lookup x=Gc .free
 | [],[],_,j,_,_,h,_=>by simp at h
 |_::r,none::q,h,j,i,x,h1,h2=>by
  unfold Qm at h
  cases j with
  |zero=>simp at h2
  |succ j=>exact ZS h (by simpa using h1) (by simpa using h2)
 |y::r,Gc k::q,h,j,i,x,h1,h2=>by
  unfold Qm at h
  obtain⟨ha,hr⟩:=(rH _ _).mp h
  obtain⟨ha,h3⟩:=(rH _ _).mp ha
  obtain⟨h4,h5⟩:=(rH _ _).mp ha
  cases j with
  |zero=>
   simp at h1 h2
   subst h1 h2
   refine⟨rO h4,?_,rO h3⟩
   rcases(tK _ _).mp h5 with z|z
   .exact .inl (rO z)
   .exact .inr (rO z)
  |succ j=>exact ZS hr (by simpa using h1) (by simpa using h2)
 | [],_::_,h,_,_,_,_,_=>by simp[Qm]at h
 |_::_,[],h,_,_,_,_,_=>by simp[Qm]at h
structure AR(N:Wp Str)(osc:uf)(N':Wp Str)(ix:Wp (qz Nat))(scope:uf):Prop where
 kind:scope.kind=.function
 cells:∀y∈scope.names,y.2=.cell->scope.names.lookup y.1=Gc .cell
 names:∀y∈scope.names,y.2=.local->scope.names.lookup y.1=Gc .local
 free:∀y∈scope.names,y.2=.free->(osc.names.lookup y.1=Gc .cell\/osc.names.lookup y.1=Gc .free)
 ok:Qm N osc scope N' ix=true
noncomputable def sig(ix:Wp (qz Nat))(σ:St):St:=ix.map λo=>o.bind λi=>(σ[i]?).join
noncomputable def Hg(X:Cx)(N':Wp Str)(scope:uf)(s:rP)(H:Hp)(fp:Wp rL):Cx where
 prog:=X.prog
 w:=X.w
 K:=X.K
 mg:=X.mg
 base:=X.base
 A:=X.A
 N:=N'
 s₀:=s
 H₀:=H
 env:=compEnvC scope (cellsFrom (s.heap.objs.size+1) scope.names (FZ X.env.cells scope.names [])) s.heap.objs.size X.env
 outer:=X.stack
 stack:=X.stack
 ex:=fp
 fn:=λx=>decide (scope.names.lookup x=Gc .cell)
 calm:=true
 pn:=[]
 xe:=λ_ _=>uO
section
variable{X:Cx}{σ:St}{H:Hp}{s:rP}{N':Wp Str}{scope:uf}{fp:Wp rL}
def Inv.cellsOf(I:Inv X pins σ H s)(S:AR X.N X.env.scope N' ix scope):∀y∈scope.names,y.2=.free->∃a,X.env.cells.lookup y.1=Gc a:=λy hy hk=>I.ok.has y.1 (S.free y hy hk)
def XA(S:AR X.N X.env.scope N' ix scope)(hc:X.calm=true)(I:Inv X pins σ H s)(hf:∀b∈fp,Pq X pins H b)(hlt:∀b∈fp,b<s.heap.objs.size)(hn:h1.Ns s.heap.objs.size m1)(hk:∀b o,s.heap.get? b=Gc o->h1.get? b=Gc o)(hC:CellsOk h1 (s.heap.objs.size+1) (cellsFrom (s.heap.objs.size+1) scope.names [])):Inv (Hg X N' scope s H fp) [] (sig ix σ) H {s with heap:=h1,toks:=tk}:=by
 have hcl:=I.cellsOf S
 have sub:∀{x:Str} {c:rL},(FZ X.env.cells scope.names []).lookup x=Gc c->X.env.cells.lookup x=Gc c:=λ{x c} h=>by
  rcases JW hcl h with z|z
  .simp at z
  .exact z
 have old:∀{x:Str} {c:rL},X.env.cells.lookup x=Gc c->c<s.heap.objs.size:=λ{x c} h=>by
  obtain⟨v,oc,ho,_⟩:=I.cell x c h
  exact rR ho
 have look:∀{x:Str} {c:rL},(cellsFrom (s.heap.objs.size+1) scope.names (FZ X.env.cells scope.names [])).lookup x=Gc c->(x,c)∈cellsFrom (s.heap.objs.size+1) scope.names []\/X.env.cells.lookup x=Gc c:=λ{x c} h=>by
  rw[Bu,wZ]at h
  cases e:(cellsFrom (s.heap.objs.size+1) scope.names []).lookup x with
  |some a=>rw[e]at h;cases h;exact .inl (sW e)
  |none=>rw[e]at h;exact .inr (sub h)
 refine⟨⟨I.ok.mod,S.kind,I.ok.glob,I.ok.blt,q9 _,λx y c h1 h2=>?_,λx hx=>?_,λx c hx h=>?_,λ_=>I.ok.hd hc,I.ok.frames,.inl rfl,λb hb=>?_,I.bs,q8 I.ok.bsz I.sz,λb o e hb=>?_,λb hb hs=>?_,I.stack,I.QQ⟩,
  rfl,I.bare,Un.kept hk,⟨m1,hn,λj x v h1 h2 h3=>?_⟩,λx c h=>?_,I.hok.fresh (q9 _),λx c h=>?_,λp hp=>absurd (show p∈([]:Wp (rL×Obj))from hp) (by simp),I.hok.kept hk,?_⟩
 . -- inj
   rcases look h1 with a|a<;>rcases look h2 with b|b
   .exact name_of_addr hC.apart a b
   .exact absurd (qw (old b) (vp (hC.empty _ _ a).2)) (tW _)
   .exact absurd (qw (old a) (vp (hC.empty _ _ b).2)) (tW _)
   .exact I.ok.inj x y c a b
 . -- has
   have hx':(relabel scope X.env).names.lookup x=Gc .cell\/(relabel scope X.env).names.lookup x=Gc .free:=hx
   show∃c,(cellsFrom (s.heap.objs.size+1) scope.names (FZ X.env.cells scope.names [])).lookup x=Gc c
   rw[Bu,wZ]
   cases e:(cellsFrom (s.heap.objs.size+1) scope.names []).lookup x with
   |some a=>exact⟨a,rfl⟩
   |none=>
    rcases(hx'.elim (Lo (.inl rfl)) (Lo (.inr rfl)))with z|z
    .exact GD (.inl z)
    .obtain⟨c,hc⟩:=K5 (n:=s.heap.objs.size+1) (S.cells _ z rfl)
     rw[e]at hc;cases hc
 . -- cab
   obtain⟨c',hc'⟩:=K5 (n:=s.heap.objs.size+1) (rO hx)
   have h:(cellsFrom (s.heap.objs.size+1) scope.names (FZ X.env.cells scope.names [])).lookup x=Gc c:=h
   rw[Bu,wZ,hc']at h
   cases h
   exact vp (hC.empty _ _ (sW hc')).2
 . -- exf
   refine⟨sM (hlt b hb),λx c h=>?_⟩
   rcases look h with a|a
   .exact λe=>absurd (qw (e▸hlt b hb) (vp (hC.empty _ _ a).2)) (tW _)
   .exact(hf b hb).2.2.2.2.1 x c a
 . -- ZG
   rcases(hf b hb).2.2.2.1 with z|z
   .exact I.ok.ZG b o e z
   .exact absurd (qw (rR (I.ok.bs b o e).1) z) (tW _)
 . -- aU
   rcases qy.mp (I.Ui b hs)with z|z
   .exact(hf b hb).2.1 z
   .exact(hf b hb).2.2.1 z
 . -- loc
   unfold sig at h2
   rw[rY]at h2
   cases e:ix[j]? with
   |none=>rw[e]at h2;cases h2
   |some o=>
    rw[e]at h2
    cases o with
    |none=>cases h2
    |some i=>
     have h2':(σ[i]?).join=Gc v:=by simpa using h2
     have h4:σ[i]?=Gc (Gc v):=by
      cases e4:σ[i]? with
      |none=>rw[e4]at h2';cases h2'
      |some q=>rw[e4]at h2';exact congrArg Gc h2'
     obtain⟨q1,q2,q3⟩:=ZS S.ok h1 e
     obtain⟨m,_,hl⟩:=I.loc
     obtain⟨u,r,l⟩:=hl i x v q1 h4 (q2.elim (λz=>.inr (.inl z)) λz=>.inr (.inr z))
     refine⟨u,r,?_⟩
     rcases l with⟨l,_⟩|⟨_,c,lc,z⟩
     .have l':X.env.scope.names.lookup x=Gc .local:=l
      rcases q2 with z|z<;>(rw[z]at l';cases l')
     .refine .inr ⟨Ki q3,?_⟩
      obtain⟨c',hc'⟩:=GD (cells:=X.env.cells) (cs:=[]) (.inl (sW q3))
      have ec:=sub hc'
      rw[lc]at ec
      cases ec
      have no:(cellsFrom (s.heap.objs.size+1) scope.names []).lookup x=none:=by
       cases e:(cellsFrom (s.heap.objs.size+1) scope.names []).lookup x with
       |none=>rfl
       |some a=>
        have q:=S.cells _ (Gh (sW e)) rfl
        rw[q3]at q;cases q
      refine⟨c,(by show(cellsFrom (s.heap.objs.size+1) scope.names (FZ X.env.cells scope.names [])).lookup x=Gc c;rw[Bu,wZ,no];exact hc'),?_⟩
      obtain⟨oc,ho,hd⟩:=z
      exact⟨oc,hk _ _ ho,hd⟩
 .rcases look h with a|a
  .exact⟨_,(hC.empty _ _ a).1⟩
  .obtain⟨v,oc,ho,hd⟩:=I.cell x c a
   exact⟨v,oc,hk _ _ ho,hd⟩
 .rcases look h with a|a
  .exact I.hok.fresh (vp (hC.empty _ _ a).2)
  .exact I.Ji x c a
 .show(sig ix σ).length=N'.length
  unfold sig
  rw[sG]
  exact VS S.ok
end
end L2
end
noncomputable section
namespace L2
open PySem PySem.Spec PyProof.Rows
def PTs(X:Cx)(ifs:Wp tF)(t:TT):Prop:=
 ∀(pins:Wp (rL×Obj)) (s:rP) (σ:St) (H:Hp) (Q:su->Hp->Prop),Inv X pins σ H s->t σ H Q->
  wpAny (model X.prog X.w) X.A (forIn ifs true λc r=>if r=true then do let ok<-isTrue c X.env (eval c X.env);pure (xW ok)else pure (xW r)) (TP X pins σ Q) X.xe s
noncomputable def lO:TT:=λ_ H Q=>Q true H
def bR:PTs X [] lO:=λ_ _ _ H _ I h=>wpAny_tests_nil ⟨H,I,h⟩
def bN(h:PT X c t):PTs X [c] t:=λpins s σ H Q I q=>wpAny_tests_one (h pins s σ H Q I q)
def W5{t:Sem α}{Q:α->rP->Prop}(h:wpAny M A t Q (λ_ _=>uO) s):wpAny M A t Q E s:=tq h (λ_ _ q=>q) λ_ _ f=>f.elim
def gC(ix:Wp (qz Nat))(g:TG)(tc:TT)(te:TE)(J:It)(σ:St)(H:Hp)(Q:VK):Prop:=
 ∀D,H D=none->∃W:Nat->Nat->St->Hp->Wp V->Prop,(∃m,W 0 m (sig ix σ) (upd H D (.lst [])) [])/\∀i m σ H ys,W i m σ H ys->H D=Gc (.lst ys)/\
  ((J.stop i H/\Q (.ref D) H)\/(J.go i H/\ys.length<sizeLine/\∀x H',J.yld i H x H'->g x σ H' λσ2 H2=>tc σ2 H2 λb H3=>
    if b=true then te σ2 H3 λy H4=>H4 D=Gc (.lst ys)/\∃m',m'<m/\W (i+1) m' σ2 (upd H4 D (.lst (ys++[y]))) (ys++[y])else∃m',m'<m/\W (i+1) m' σ2 H3 ys))
noncomputable def aA(ix:Wp (qz Nat))(wi:TI)(g:TG)(tc:TT)(te:TE):TE:=λσ H Q=>wi σ H λJ H1=>gC ix g tc te J σ H1 Q
section
variable{X:Cx}{pins:Wp (rL×Obj)}{σ:St}{s₂:rP}{scope:uf}{pos:Pos}{g:TG}{tc:TT}
def Block(X:Cx)(N':Wp Str)(scope:uf)(tg:tF)(ifs:Wp tF)(elt:tF)(g:TG)(tc:TT)(te:TE):Prop:=
 ∀(s:rP) (H:Hp) (fp:Wp rL),PG (Hg X N' scope s H fp) tg g/\PTs (Hg X N' scope s H fp) ifs tc/\PE (Hg X N' scope s H fp) elt te
def Vv {X':Cx}{it:rL}{fp:Wp rL}{tn:Nat->tS->Prop}{J:It}{D:rL}{Q:VK}{W:Nat->Nat->St->Hp->Wp V->Prop}(he:X'.env=e)(hx:X'.xe=λ_ _=>uO)(hcm:X'.calm=true)(T:Turn X'.prog X'.w X'.K tg J fp it tn)(hfp:∀H,(∀b ∈ fp,H b=none)->∀b ∈ fp,Pq X' [] H b)(hg:PG X' tg g)(ht:PTs X' ifs tc)(hb:PE X' elt te)(turn:∀i m σ H ys,W i m σ H ys->H D=Gc (.lst ys)/\((J.stop i H/\Q (.ref D) H) ∨ (J.go i H/\ys.length<sizeLine/\∀x H',J.yld i H x H'->g x σ H' λσ2 H2=>tc σ2 H2 λb H3 =>
        if b = true then te σ2 H3 fun y H4 => H4 D = Gc (.lst ys) /\ ∃ m', m' < m /\ W (i + 1) m' σ2 (upd H4 D (.lst (ys ++ [y]))) (ys ++ [y]) else ∃ m', m' < m /\ W (i + 1) m' σ2 H3 ys)))
    (hR:∀s' σ' H',Inv X' [] σ' H' s'->Q (.ref D) H'->R (.ok .next) s')
    (h0:∃i σ' H' ys,Inv X' [] σ' H' s/\tn i s.heap/\(∀b ∈ fp,H' b=none)/\W i n σ' H' ys) :
    codeAny (model X'.prog X'.w) X'.A (.compLoop (.ListComp elt [⟨tg,iter,ifs,0⟩] scope pos) 0 (.ref it) (.ref D) e) R s:=by
  subst he
  refine codeAny_loop rfl (fun n s => ∃ i σ' H' ys, Inv X' [] σ' H' s /\ tn i s.heap /\ (∀ b ∈ fp, H' b = none) /\ W i n σ' H' ys) (fun n s3 hI => ?_) n h0
  show wpAny _ X'.A ((compTurn (.ListComp elt [⟨tg, iter, ifs, 0⟩] scope pos) 0 (.ref it) (.ref D) X'.env).onRaise (fun x => do noteFrame x X'.env; theTreesLotGoes x)) _ _ s3
  refine wpAny_noted (W5 ?_)
  rw [compTurn_list]
  obtain⟨i,σ3,H3,ys,I3,st3,fr3,w3⟩:=hI
  obtain⟨hD,alt⟩:=turn i n σ3 H3 ys w3
  rcases alt with ⟨stop, q⟩ | ⟨go, hlen, step⟩
  · refine qu (wL (qu (thn (T.done X' rfl rfl rfl hcm i [] s3 σ3 H3 _ I3 (hfp H3 fr3) st3 stop) fun r s4 ⟨hr, I4⟩ => ?_)))
    subst hr
    exact rS (hR s4 σ3 H3 I4 q)
  · refine qu (wL (qu (thn (T.item X' rfl rfl rfl hcm i [] s3 σ3 H3 _ I3 (hfp H3 fr3) st3 go) fun r s4 ⟨u, hr, h4⟩ => ?_)))
    subst hr
    refine qu (thn h4 fun _ s5 ⟨x, H5, I5, r5, y5, st5, fr5⟩ => ?_)
    have I5':=I5.pinned (hfp H5 fr5) (T.obj _ _ st5)
    have hg':=hg _ s5 σ3 H5 x u _ I5' r5 (step x H5 y5)
    rw [hx] at hg'
    refine qu (thn hg' fun _ s6 ⟨σ6, H6, I6, q6⟩ => ?_)
    have ht':=ht _ s6 σ6 H6 _ I6 q6
    rw [hx] at ht'
    refine qu (thn ht' fun ok s7 ⟨H7, I7, q7⟩ => ?_)
    have again:∀{s8:rP} {H8:Hp} {zs:Wp V} {m':Nat},Inv X' ([]++Oe fp s5.heap) σ6 H8 s8->m'<n->W (i + 1) m' σ6 H8 zs->∃m,m<n/\∃i σ' H' ys,Inv X' [] σ' H' s8/\tn i s8.heap/\(∀b ∈ fp,H' b=none)/\W i m σ' H' ys:=λ{s8 H8 zs m'} I8 hm w8=>by
      refine ⟨m', hm, i + 1, σ6, H8, zs, I8.LA, T.keep _ _ _ st5 fun b hb o e => (I8.pin (b, o) (sY _ (sY _ (Hu hb e)))).1, fun b hb => ?_, w8⟩
      obtain⟨o,e,d⟩:=T.obj _ _ st5 b hb
      exact (I8.pin (b, o) (sY _ (sY _ (Hu hb e)))).2.1
    cases ok with
    | false =>
      rw [sH (by decide)] at q7
      obtain⟨m',hm,w7⟩:=q7
      exact rS ⟨rfl, again I7 hm w7⟩
    | true =>
      rw [sD rfl] at q7
      have hb':=hb _ s7 σ6 H7 _ I7 q7
      rw [hx] at hb'
      refine qu (qu (thn hb' fun v s8 ⟨y, H8, I8, r8, hD8, m', hm, w8⟩ => ?_))
      have ha:=Ot (X:=X') _ s8 σ6 H8 (.ref D) [y] (.ref D) [v] (λ_ H9=>H9=upd H8 D (.lst (ys++[y]))) I8 rfl (.cons r8 .nil) ⟨D,ys,y,rfl,rfl,hD8,hlen,rfl⟩
      rw [hx] at ha
      refine qu (thn ha fun _ s9 ⟨_, H9, I9, _, e9⟩ => ?_)
      subst e9
      exact rS (rS ⟨rfl, again I9 hm w8⟩)
def RO(hc:X.calm=true)(S:AR X.N X.env.scope N' ix scope)(hb:Block X N' scope tg ifs elt g tc te){RR:rD->rL->Result->rP->Prop}(I2:Inv X pins σ H₂ s₂)(T:Turn X.prog X.w X.K tg J fp it tn)(st2:tn 0 s₂.heap)(f2:∀b∈fp,Pq X pins H₂ b)(hW:gC ix g tc te J σ H₂ Q)(hRR:∀D C H' s',Inv X pins σ H' s'->(∃m,s'.heap.Ns C m)->Pq X pins H' C->Q (.ref D) H'->RR (.ref D) C (.ok .next) s'):wpAny (model X.prog X.w) X.A (newList []) (λacc s₃=>wpAny (model X.prog X.w) X.A (newFunctionEnv scope X.env.globals (FZ X.env.cells scope.names []) [] X.env.qual none .none (Gc X.env)) (λcenv s₄=>
  codeAny (model X.prog X.w) X.A (.compStart (.ListComp elt [⟨tg,iter,ifs,0⟩] scope pos) 0 (.ref it) acc {cenv with scope:=relabel scope X.env}) (RR acc cenv.locals) s₄) E s₃) E s₂:=by
 have hD0:H₂ s₂.heap.objs.size=none:=I2.hok.fresh (q9 _)
 have hlt2:∀b∈fp,b<s₂.heap.objs.size:=λb hb=>by
  obtain⟨o,e,_⟩:=T.obj _ _ st2 b hb
  exact rR e
 refine uq (J6 (λh₁ hns₁ hsb₁ hcl₁=>?_))
 have I3:Inv X pins σ (upd H₂ s₂.heap.objs.size (.lst [])) {s₂ with heap:=s₂.heap.push {cls:=.type "list",dict:=none,data:=.seq ([]:Wp rD).toArray}}:=
  I2.laid (t':=s₂.toks) (λb u e=>qt _ e) (q9 _) ⟨uQ _,[],0,.nil,rW _ rfl⟩
 have f3:∀b∈fp,Pq X pins (upd H₂ s₂.heap.objs.size (.lst [])) b:=λb hb=>⟨by rw[Ae (sM (hlt2 b hb))];exact(f2 b hb).1,(f2 b hb).2⟩
 have k3:∀b o,s₂.heap.get? b=Gc o->(s₂.heap.push {cls:=.type "list",dict:=none,data:=.seq ([]:Wp rD).toArray}).get? b=Gc o:=λb o e=>qt _ e
 dsimp only at hns₁ hsb₁ hcl₁⊢
 generalize hs3:({s₂ with heap:=s₂.heap.push {cls:=.type "list",dict:=none,data:=.seq ([]:Wp rD).toArray}}:rP)=s₃ at I3
 have eh:s₂.heap.push {cls:=.type "list",dict:=none,data:=.seq ([]:Wp rD).toArray}=s₃.heap:=by rw[<-hs3]
 have et:s₂.toks=s₃.toks:=by rw[<-hs3]
 have es:∀(h:tS) (t:Nat),({s₂ with heap:=h,toks:=t}:rP)={s₃ with heap:=h,toks:=t}:=λh t=>by rw[<-hs3]
 rw[eh]at hns₁ hsb₁ hcl₁ k3⊢
 have hlt3:∀b∈fp,b<s₃.heap.objs.size:=λb hb=>by
  obtain⟨o,e,_⟩:=T.obj _ _ st2 b hb
  exact rR (k3 b o e)
 have k4:∀b o,s₃.heap.get? b=Gc o->h₁.get? b=Gc o:=hsb₁
 obtain⟨W,⟨m0,w0⟩,turn⟩:=hW _ hD0
 have I4:∀tk,Inv (Hg X N' scope s₃ (upd H₂ s₂.heap.objs.size (.lst [])) fp) [] (sig ix σ) (upd H₂ s₂.heap.objs.size (.lst [])) {s₃ with heap:=h₁,toks:=tk}:=λtk=>XA S hc I3 f3 hlt3 hns₁ k4 hcl₁
 have st4:tn 0 h₁:=T.keep _ _ _ st2 λb hb o e=>k4 b o (k3 b o e)
 obtain⟨bg,bt,be⟩:=hb s₃ (upd H₂ s₂.heap.objs.size (.lst [])) fp
 have noX:∀(H:Hp),(∀b∈fp,H b=none)->∀b∈fp,Pq (Hg X N' scope s₃ (upd H₂ s₂.heap.objs.size (.lst [])) fp) [] H b:=λH hn b hb=>by
  obtain⟨_,h2,h3⟩:=f3 b hb
  refine⟨hn b hb,sM (hlt3 b hb),λhs=>(I4 0).ok.aU b hb hs,.inl hb,λx c h=>?_,λp hp=>absurd (show p∈([]:Wp (rL×Obj))from hp) (by simp)⟩
  exact((I4 0).ok.exf b hb).2 x c h
 have fin:∀(s':rP) (σ':St) (H':Hp),Inv (Hg X N' scope s₃ (upd H₂ s₂.heap.objs.size (.lst [])) fp) [] σ' H' s'->Q (.ref s₂.heap.objs.size) H'->RR (.ref s₂.heap.objs.size) s₃.heap.objs.size (.ok .next) s':=λs' σ' H' I' q=>by
  refine hRR _ _ H' s' ?_ (let⟨m,hn,_⟩:=I'.loc;⟨m,hn⟩) (I3.ax (q9 _) I'.free) q
  exact I3.UL I'.os I'.base I'.hok I'.bare λb hb=>⟨(f3 b hb).2.2.2.1,(f3 b hb).2.1,(f3 b hb).2.2.2.2.1,(f3 b hb).2.2.2.2.2⟩
 have loop:∀tk,codeAny (model X.prog X.w) X.A (.compLoop (.ListComp elt [⟨tg,iter,ifs,0⟩] scope pos) 0 (.ref it) (.ref s₂.heap.objs.size) (compEnvC scope (cellsFrom (s₃.heap.objs.size+1) scope.names (FZ X.env.cells scope.names [])) s₃.heap.objs.size X.env)) (RR (.ref s₂.heap.objs.size) s₃.heap.objs.size) {s₃ with heap:=h₁,toks:=tk}:=λtk=>
  Vv (X':=Hg X N' scope s₃ (upd H₂ s₂.heap.objs.size (.lst [])) fp) (D:=s₂.heap.objs.size) (Q:=Q) (W:=W) rfl rfl rfl T noX bg bt be turn fin ⟨0,_,_,_,I4 tk,st4,λb hb=>(f3 b hb).1,w0⟩
 rw[es]
 exact codeAny_compStart_list (loop _) (T.self _ 0 _ _ _ st4 (loop _))
def bY(hc:X.calm=true)(S:AR X.N X.env.scope N' ix scope)(hi:PI X tg iter wi)(hb:Block X N' scope tg ifs elt g tc te)(hs:x0 (∀x,foldedSetIterable iter X.env x=pure x) ww):PE X (.ListComp elt [⟨tg,iter,ifs,0⟩] scope pos) (aA ix wi g tc te):=by
 intro pins s σ H Q I h
 rw[eval_ListComp]
 refine yV (use:=none) rfl hs (N7 (I.cellsOf S)) S.kind S.names (thn (hi pins s σ H _ I h) λv s1 h1=>thn h1 λitv s2 h2=>?_)
 obtain⟨it,fp,tn,J,H2,e,I2,T,st2,f2,hW⟩:=h2
 subst e
 refine RO (RR:=λacc C=>compPost (model X.prog X.w) X.A X.xe none (EP X pins σ Q) acc C) hc S hb I2 T st2 f2 hW ?_
 intro D C H' s' I' hm hC q
 obtain⟨m,hm⟩:=hm
 refine⟨m,hm,λh' hs'=>⟨.ref D,H',I'.turned (it:=C) (t':=s'.toks) (λb o hb e=>hs'.extBut b o hb e) hC.1 hC.2.1 hC.2.2.2.1 hC.2.2.2.2.1 hC.2.2.2.2.2,rfl,q⟩⟩
end
end L2
end
noncomputable section
namespace L2
open PySem PySem.Spec PyProof.Rows
section
variable{X:Cx}{pos spos py:Pos}
def Ra(hc:X.calm=true)(hN:X.N.Nodup)(hi':X.N[i]?=Gc y)(hx:X.env.scope.names.lookup y=Gc .local)(S:AR X.N X.env.scope N' ix scope)(hi:PI X tg iter wi)(hb:Block X N' scope tg ifs elt g tc te)(hsw:x0 (swapsWith (.ListComp elt [⟨tg,iter,ifs,0⟩] scope pos) (Gc (.Name y py)) spos.line X.env=pure true) wv)(hs:x0 (∀x,foldedSetIterable iter X.env x=pure x) ww):PS X (.Assign [.Name y py] (.ListComp elt [⟨tg,iter,ifs,0⟩] scope pos) spos) (kD (aA ix wi g tc te) (aG i)):=by
 intro pins s σ H D I h
 rw[exec_Assign_Name_used _ _ _ _ hsw]
 refine qu (wL (qu ?_))
 show wpAny _ X.A (do let _<-comprehension (.ListComp elt [⟨tg,iter,ifs,0⟩] scope pos) scope X.env _ (newList []) false (eval iter X.env) (Gc (assign (.Name y py) X.env))) _ _ s
 refine qu (tq (yV (use:=Gc (assign (.Name y py) X.env)) (Q:=λ_ s'=>SP X pins D .next s') rfl hs (N7 (I.cellsOf S)) S.kind S.names
  (thn (hi pins s σ H _ I h) λv s1 h1=>thn h1 λitv s2 h2=>?_)) (λ_ s' hq=>rS (rS hq)) λ_ _ e=>e)
 obtain⟨it,fp,tn,J,H2,e,I2,T,st2,f2,hW⟩:=h2
 subst e
 refine RO (RR:=λacc C=>compPost (model X.prog X.w) X.A X.xe (Gc (assign (.Name y py) X.env)) (λ_ s'=>SP X pins D .next s') acc C) hc S hb I2 T st2 f2 hW ?_
 intro L C H' s' I' hm hC q
 obtain⟨m,hm⟩:=hm
 show wpAny _ X.A (assign (.Name y py) X.env (.ref L)) _ _ _
 refine wpAny_assign_Name (PZ I' hN hi' (.inl hx) (v:=.ref L) rfl (λs'' I'' ⟨a,sb,ha⟩=>?_) (.inr hx))
 have hCa:C≠a:=by
  rcases ha with rfl|ha
  .exact hC.2.1
  .exact tu (hC.2.2.2.2.1 y a ha)
 refine⟨m,hm.sameBut sb hCa,λh' hs'=>?_⟩
 exact⟨_,H',I''.turned (it:=C) (t':=s''.toks) (λb o hb e=>hs'.extBut b o hb e) hC.1 hC.2.1 hC.2.2.2.1 hC.2.2.2.2.1 hC.2.2.2.2.2,q⟩
end
end L2
end
noncomputable section
namespace L2
open PySem PySem.Spec PyProof.Rows
section
variable{κ:Type} [DecidableEq κ]
def Px.Uy(r:Px o u):o.isSome=u.isSome:=by
 cases o with
 |none=>cases u with
  |none=>rfl
  |some _=>exact(show uO from r).elim
 |some _=>cases u with
  |none=>exact(show uO from r).elim
  |some _=>rfl
end
def mI(r:RelV (kV k) u):(Fz P w).is k u=true:=by
 cases k with
 |inl i=>obtain⟨t,e⟩:=(show∃t,u=xr i t from r);subst e;exact P6 P w i t
 |inr x=>obtain⟨t,e⟩:=(show∃t,u=xt x t from r);subst e;exact QB P w x t
theorem O3:∀{ks} {us},Vals (ks.map kV) us->ItemsAre (Fz P w) ks us
 | [],_,r=>by rw[tP]at r;cases r;exact .nil
 |k::ks,_,r=>by
  rw[rT]at r
  cases r with
  |cons h t=>exact .cons (mI h) (O3 t)
abbrev KT(H:Hp):Wp (Wp Key×V)->Wp (Wp Key×rL×rD)->Prop:=Paired λp q=>p.1=q.1/\H q.2.1=Gc (.tup (p.1.map kV))/\RelV p.2 q.2.2
section
variable{P:sx}{w:uL}{H:Hp}{h:tS}{a:rL}
def mC(ok:HOk P w H h)(e:Rd H a u):D1 P w H h a u:=e.ok ok
def iE(ok:HOk P w H h)(e:H a=Gc (.tup (ks.map kV))):(tupleKind (Fz P w)).is h ks a:=by
 obtain⟨_,its,r,o,h1,h2,n,h3⟩:=(show D1 P w H h a (.tup (ks.map kV))from ok a _ e)
 exact⟨o,its.toArray,n,h1,h2,h3,by simpa using O3 r⟩
def kl(ok:HOk P w H h)(e:Rd H a (.dT kvs)):kvs.length<=sizeLine/\(a==sysModules)=false/\∃xs,KT H kvs xs/\h.DictOfH (tupleKind (Fz P w)) a xs:=by
 obtain⟨z,y,xs,r,o,es,ep,h1,h2,h3,h4,h5⟩:=(show D1 P w H h a (.dT kvs)from mC ok e)
 refine⟨z,y,xs,r,o,es,ep,h1,h2,h3,h4,λx hx=>?_,h5⟩
 have all:∀{l:Wp (Wp Key×V)} {m:Wp (Wp Key×rL×rD)},KT H l m->∀x∈m,(tupleKind (Fz P w)).is h x.1 x.2.1:=by
  intro l m q
  induction q with
  |nil=>intro x hx;exact nomatch hx
  | @cons p q ps qs hq t ih=>
    intro x hx
    rcases qy.mp hx with e|hx
    .subst e
     exact iE ok (by rw[<-hq.1];exact hq.2.1)
    .exact ih x hx
 exact all r x hx
def XZ(ok:HOk P w H h)(e:H a=Gc (.dT kvs)):kvs.length<=sizeLine/\(a==sysModules)=false/\∃xs,KT H kvs xs/\h.DictOfH (tupleKind (Fz P w)) a xs:=kl ok (.inl e)
end
section
variable{X:Cx}{pins:Wp (rL×Obj)}{σ:St}{H:Hp}{s:rP}{a:rL}{y v:V}{u r:rD}{o:qz V}{A:ux}{E:rD->rP->Prop}
end
section
variable{X:Cx}{pins:Wp (rL×Obj)}{σ:St}{H:Hp}{s:rP}{a:rL}{kvs:Wp (Key×V)}{k:Key}{u:rD}{A:ux}{E:rD->rP->Prop}
end
section
variable{X:Cx}{o i e value:tF}{pos pos' tpos:Pos}{td ty tv:TE}
end
section
variable{X:Cx}{pos:Pos}
end
structure M1(X:Cx)(o:tF)(m:Str)(apos:Pos)(e:tF)(cpos:Pos):Prop where
 base:attributeBase o m X.env (eval o X.env)=eval o X.env
 few:((backTo cpos (rG [e] X.env)).all (λx=> !x.1) && (backToKw cpos (keywordEach [] X.env)).all (λx=>x.1.isSome)
  && decide (([e]:Wp tF).length+([]:Wp yN).length+(if([]:Wp yN).isEmpty then 0 else 1)<30))=true
 line:(apos.endLine==cpos.line)=true
 trees:backTo cpos (rG [e] X.env)=[(false,eval e X.env)]
structure M2(X:Cx)(o:tF)(m:Str)(apos:Pos)(e f:tF)(cpos:Pos):Prop where
 base:attributeBase o m X.env (eval o X.env)=eval o X.env
 few:((backTo cpos (rG [e,f] X.env)).all (λx=> !x.1) && (backToKw cpos (keywordEach [] X.env)).all (λx=>x.1.isSome)
  && decide (([e,f]:Wp tF).length+([]:Wp yN).length+(if([]:Wp yN).isEmpty then 0 else 1)<30))=true
 line:(apos.endLine==cpos.line)=true
 trees:backTo cpos (rG [e,f] X.env)=[(false,eval e X.env),(false,eval f X.env)]
def IsD(H:Hp)(a:rL):Prop:=(∃kvs,Rd H a (.dK kvs))\/∃kvs,Rd H a (.dT kvs)
section
variable{X:Cx}{pins:Wp (rL×Obj)}{σ:St}{H:Hp}{s:rP}{a:rL}{y d:V}{u r:rD}{o:qz V}{A:ux}{E:rD->rP->Prop}
end
section
variable{X:Cx}{o e f:tF}{apos cpos:Pos}{td ty tx:TE}
end
section
variable{X:Cx}{pins:Wp (rL×Obj)}{σ:St}{H:Hp}{s:rP}{a:rL}{kvs:Wp (Key×V)}{A:ux}{E:rD->rP->Prop}
end
section
variable{X:Cx}{pins:Wp (rL×Obj)}{σ:St}{H:Hp}{s:rP}{a:rL}{y:V}{u:rD}{A:ux}{E:rD->rP->Prop}
end
end L2
end
noncomputable section
namespace L2
open PySem PySem.Spec PyProof.Rows
section
variable{s:rP}
def Rw{h:tS}{i:Nat}(ho:h.get? it=Gc o)(hc:o.cls=.type "tuple_iterator")(hd:o.data=.fields #[.ref t,.int i 0])(e:h'=h.update it (λo=>o.mapFields λa=>a.setIfInBounds 1 (rawInt ((i:Int)+1)))):h'.IsTupleIter it t (i+1):=by
 subst e
 have d:=vB hd λa=>a.setIfInBounds 1 (rawInt ((i:Int)+1))
 refine⟨_,uW _ ho (uX d),?_,?_⟩
 .rw[Obj.cls_mapFields];exact hc
 .rw[d];simp[rawInt]
def W8(hit:s.heap.IsTupleIter it t i)(ht:s.heap.IsTuple t items)(hx:items[i]?=Gc x)(hQ:∀h',h'.IsTupleIter it t (i+1)->wm it s.heap h'->Q x {s with heap:=h'}):wpAny (model prog w) A (sV (.ref it)) Q E s:=by
 obtain⟨⟨c,dd,dt,sl⟩,ho,hc,hd⟩:=id hit
 obtain⟨⟨c2,dd2,dt2,sl2⟩,ho2,hc2,n2,hd2⟩:=id ht
 simp only at hc hd hc2 hd2
 subst hc hd hc2 hd2
 unfold sV
 refine qu (uR (name:=sI "__next__") hit.typeIs vC (uZ vC hit.typeIs xn ?_ (xX _)))
 unfold xo.«tuple_iterator.__next__»
 wp_walk using rh ho,rh ho2
 have e:items[(i:Int).toNat]?=Gc x:=by rw[yP];exact hx
 rw[e]
 refine qu (vz ho rfl (by simp) ?_)
 exact rS ⟨x,rfl,rS (hQ _ (Rw ho rfl rfl rfl) (zy ..))⟩
def WX(hh:A.handled=none)(hit:s.heap.IsTupleIter it t i)(ht:s.heap.IsTuple t items)(hx:items[i]?=none)(hE:∀h' e,yR it s.heap h'->(∃o,h'.get? e=Gc o/\o.cls=.type "StopIteration")->E (.ref e) {s with heap:=h'}):wpAny (model prog w) A (sV (.ref it)) Q E s:=by
 obtain⟨⟨c,dd,dt,sl⟩,ho,hc,hd⟩:=id hit
 obtain⟨⟨c2,dd2,dt2,sl2⟩,ho2,hc2,n2,hd2⟩:=id ht
 simp only at hc hd hc2 hd2
 subst hc hd hc2 hd2
 unfold sV
 refine qu (uR (name:=sI "__next__") hit.typeIs vC (uZ vC hit.typeIs xn ?_ (xX _)))
 unfold xo.«tuple_iterator.__next__»
 wp_walk using rh ho,rh ho2
 have e:items[(i:Int).toNat]?=none:=by rw[yP];exact hx
 rw[e]
 refine qu (ym (qu (vz ho rfl (by simp) ?_)))
 have hh1:A.in1.handled=none:=hh
 unfold Builtin.SmallTypes.stopIteration
 simp only[newExc,newTuple,raiseNew]
 wp_walk
 refine hE _ _ ?_ ⟨_,rW _ rfl,rfl⟩
 have a:=(zy (a:=it) (h:=s.heap) (f:=tY λx=>x.setIfInBounds 0 sL)).extBut
 exact(a.push _).push _
def Vl l items n dct sl:Meets (xo.«enumerate.__new__» ⟨[.type "enumerate",.ref l],[]⟩) (λ_ R s=>s.heap.get? l=Gc {cls:=.type "tuple",dict:=dct,data:=.seq items n,slots:=sl}/\R (.ok (.ret (.ref (s.heap.objs.size+1)))) {s with heap:=(s.heap.push {cls:=.type "tuple_iterator",data:=.fields #[.ref l,.int 0 0]}).push {cls:=.type "enumerate",data:=.fields #[.none,.bool false,.ref s.heap.objs.size,rawInt 0,.none,.none]}}):=
 .of_wp λprog w A R s h=>by
  obtain⟨hp,g,d,tk,os⟩:=s
  obtain⟨hl,h⟩:=h
  have hsub:=sub_enumerate
  have hT:xp (vP ⟨hp,g,d,tk,os⟩) l items:=⟨_,hl,rfl,n,rfl⟩
  wp_walk using rh hl
  refine wpAny_stack_any λst=>rS ?_
  split
  .rename_i c _ _ _ _ _
   cases (c==xv "enumerate")<;>(wp_walk using rh hl,ua hT)<;>(refine⟨_,rfl,?_⟩;rw[tT];exact h)
  .wp_walk using rh hl,ua hT
   refine⟨_,rfl,?_⟩
   rw[tT]
   exact h
def Rv(hT:s.heap.IsTuple l items)(h:∀h',IsEnum h' (s.heap.objs.size+1) s.heap.objs.size 0 .none->h'.IsTupleIter s.heap.objs.size l 0->(∀b o,s.heap.get? b=Gc o->h'.get? b=Gc o)->Q (.ref (s.heap.objs.size+1)) {s with heap:=h'}):wpAny (model prog w) A (call (.type "enumerate") [.ref l]) Q E s:=by
 obtain⟨⟨c,dct,dt,sl⟩,hl,hc,n,hd⟩:=hT
 simp only at hc hd
 subst hc hd
 refine callType_new F.called_enumerate (by decide) (F.typeCall_enumerate_1 _) (F.newCall_enumerate_1 _) (λobj=>F.args_object_init_2 obj _) F.entry_enumerate_new (Vl l items n dct sl) ⟨hl,?_⟩
 have z:=rW (s.heap.push {cls:=.type "tuple_iterator",data:=.fields #[.ref l,.int 0 0]}) (o:={cls:=.type "enumerate",data:=.fields #[.none,.bool false,.ref s.heap.objs.size,rawInt 0,.none,.none]}) rfl
 rw[tT]at z
 exact⟨⟨_,z,rfl⟩,h _ z ⟨_,qt _ (rW _ rfl),rfl,rfl⟩ λb o x=>qt _ (qt _ x)⟩
end
end L2
end
noncomputable section
namespace L2
open PySem PySem.Spec PyProof.Rows
def FnAt(X:Cx)(k:Nat)(f:rL)(sp:Sp):Prop:=∃fd ps,Kg X.prog X.w X.K X.mg X.base CX0 k f fd ps sp/\tL X.K (.ref f)=true/\Binds X.K fd ps []
noncomputable def eA(X:Cx)(k i:Nat)(t:TA):TE:=λσ H Q=>∃f sp,σ[i]?=Gc (Gc (.ref f))/\FnAt X k f sp/\t σ H λvs H1=>sp (vs++[]) H1 Q E0
def Wc{p pos:Pos}(hN:X.N[i]?=Gc x)(hv:Vis X.env.scope x)(hr:Ct k X.A)(ha:PA X (e::es) t)(hd:x0 ((x==("__debug__":Str))=false) xL)(hcd:x0 ((x==("__classdict__":Str))=false) xL)(he:x0 (rG (e::es) X.env=(false,eval e X.env)::rG es X.env) wv)(hpl:x0 ((backTo pos (rG es X.env)).any (·.1)=false) wv):PE X (.Call (.Name x p) (e::es) [] pos) (eA X k i t):=by
 intro pins s σ H Q I h
 obtain⟨f,sp,el,⟨fd,ps,F,hk,hb⟩,h⟩:=h
 refine uB (thn (Oy hN hv hd hcd pins s σ H (λv H1=>v=.ref f/\H1=H) I ⟨_,el,rfl,rfl⟩) λu s1 z=>?_)
 obtain⟨v,H1,I1,r,ev,eh⟩:=z
 subst ev eh
 obtain rfl:u=sA f:=r
 refine uM (h₀:=X.base) I.ok.mod.kin hk (thn (ha pos pins s1 σ H1 _ I1 h) λus s2 ⟨vs,H2,I2,r2,q⟩=>⟨I2.kIn,?_⟩) he hpl
 exact RD F hr hb .nil Vg I2 r2 q
end L2
end
noncomputable section
namespace L2
open PySem PySem.Spec PyProof.Rows
structure TopD(K:W1)(w:uL)(a:rL)(kvs:Wp (Str×V)):Prop where
 ex:∃(es:xI wj) (n:Nat),K.lookup a=Gc ⟨.type "dict",none,.dict es n, #[]⟩/\xY w.params es.toList/\(a==sysModules)=false/\∀x,Px (kvs.lookup x) (findBy vS es x)
noncomputable def dZ(K:W1)(w:uL):R2:=λx y H Q=>∃a kvs k v,x=.ref a/\y=.str k/\TopD K w a kvs/\kvs.lookup k=Gc v/\Q v H
def ZA:IxR X (dZ X.K X.w):=by
 intro value slice pins s σ H x y v u Q I rx ry h hs
 obtain⟨a,kvs,k,z,rfl,rfl,⟨es,n,hl,hk,hne,hr⟩,e,q⟩:=h
 cases rx
 obtain⟨t,rfl⟩:=ry
 have hm:=PySem.W.mapOf_K (prog:=X.prog) I.kIn hl hk
 have r:=hr k
 rw[e]at r
 cases f:findBy vS es k with
 |none=>rw[f]at r;exact r.elim
 |some u=>
  rw[f]at r
  exact tail_any hm.typeIs slot_dict_getitem.lookup (wpAny_getItem_of (strKind_is X.prog X.w k t) hm f ⟨z,H,I.tok _,r,q⟩) hs
noncomputable def Ye(K:W1)(w:uL)(neg:su):R2:=λx y H Q=>∃a kvs k,y=.ref a/\x=.str k/\TopD K w a kvs/\Q (.bl (if neg then !(kvs.lookup k).isSome else(kvs.lookup k).isSome)) H
def PY:OpR X (compareOp .NotIn) (Ye X.K X.w true):=by
 intro pins s σ H x y v u Q I rx ry h
 obtain⟨a,kvs,k,rfl,rfl,⟨es,n,hl,hk,hne,hr⟩,q⟩:=h
 cases ry
 obtain⟨t,rfl⟩:=rx
 refine wpAny_notIn_of (strKind_is X.prog X.w k t) hne (PySem.W.mapOf_K (prog:=X.prog) I.kIn hl hk) ⟨.bl _,H,I.tok _,?_,q⟩
 show _=_
 have r:(kvs.lookup k).isSome=(findBy vS es k).isSome:=(hr k).Uy
 rw[<-r]
 rfl
def QC(p:Paired (λp (e:wj)=>(∃t,e.key=.str p.1 t)/\RelV p.2 e.val) kvs es) x:Px (kvs.lookup x) (findBy vS es.toArray x):=by
 unfold findBy
 rw[List.find?_toArray]
 induction p with
 |nil=>trivial
 | @cons q e r t h _ ih=>
   obtain⟨⟨tk,hk⟩,hv⟩:=h
   obtain⟨k,v⟩:=q
   rw[List.find?_cons,hk]
   show Px (match x==k with|true=>Gc v|false=>uP x r) _
   by_cases z:x=k
   .subst z
    have e1:(x==x)=true:=yi x
    have e2:vS x (.str x tk)=true:=yi x
    rw[e1,e2]
    exact hv
   .have e1:(x==k)=false:=tZ.mpr z
    have e2:vS x (.str k tk)=false:=tZ.mpr (tu z)
    rw[e1,e2]
    exact ih
def YI{K:W1}(l:K.lookup a=Gc ⟨.type "dict",none,.dict es.toArray n, #[]⟩)(hk:xY w.params es)(hne:(a==sysModules)=false)(hp:Paired (λp (e:wj)=>(∃t,e.key=.str p.1 t)/\RelV p.2 e.val) kvs es):TopD K w a kvs:=⟨_,n,l,hk,hne,QC hp⟩
end L2
end
noncomputable section
namespace L2
open PySem PySem.Spec PyProof.Rows
def SIt(h:tS)(j l:rL)(i:Nat)(its:xI rD):Prop:=(h.IsListIter j l i/\h.IsList l its)\/(h.IsTupleIter j l i/\h.IsTuple l its)
def SIt.at(q:SIt h j l i its)(k1:∀o,h.get? j=Gc o->h'.get? j=Gc o)(k2:∀o,h.get? l=Gc o->h'.get? l=Gc o):SIt h' j l i its:=by
 rcases q with⟨a,b⟩|⟨a,b⟩
 .exact .inl ⟨a.at k1,b.at k2⟩
 .exact .inr ⟨a.at k1,let⟨o,e,r⟩:=b;⟨o,k2 o e,r⟩⟩
def SIt.but(q:SIt h j l i its)(sb:yR c h h')(n1:j≠c)(n2:l≠c):SIt h' j l i its:=q.at (λo e=>sb _ o n1 e) λo e=>sb _ o n2 e
def SIt.live(q:SIt h j l i its):∃o,h.get? j=Gc o/\∀v,o.data≠.cell v:=by
 rcases q with⟨⟨o,a,b,c⟩,_⟩|⟨⟨o,a,b,c⟩,_⟩
 .exact⟨o,a,λv z=>by rw[c]at z;cases z⟩
 .exact⟨o,a,λv z=>by rw[c]at z;cases z⟩
def SIt.ne(q:SIt h j l i its):l≠j:=by
 rcases q with⟨⟨o,a,b,_⟩,⟨o2,a2,b2,_⟩⟩|⟨⟨o,a,b,_⟩,⟨o2,a2,b2,_⟩⟩
 .intro z;subst z;rw[a]at a2;cases a2;rw[b]at b2;injection b2 with q;exact absurd q (by decide)
 .intro z;subst z;rw[a]at a2;cases a2;rw[b]at b2;injection b2 with q;exact absurd q (by decide)
def K8(q:SIt s.heap j l i its)(hx:its[i]?=Gc x)(k:∀h',SIt h' j l (i+1) its->wm j s.heap h'->Q x {s with heap:=h'}):wpAny (model prog w) A (sV (.ref j)) Q E s:=by
 have n:=q.ne
 rcases q with⟨a,b⟩|⟨a,b⟩
 .exact wpAny_nextOf_list_item a b hx λh' a' sb=>k h' (.inl ⟨a',b.extBut sb.extBut n⟩) sb
 .exact W8 a b hx λh' a' sb=>k h' (.inr ⟨a',let⟨o,e,r⟩:=b;⟨o,sb.extBut _ o n e,r⟩⟩) sb
def LC(hh:A.handled=none)(q:SIt s.heap j l i its)(hx:its[i]?=none)(k:∀h' e,yR j s.heap h'->(∃o,h'.get? e=Gc o/\o.cls=.type "StopIteration")->E (.ref e) {s with heap:=h'}):wpAny (model prog w) A (sV (.ref j)) Q E s:=by
 rcases q with⟨a,b⟩|⟨a,b⟩
 .exact wpAny_nextOf_list_end hh a b hx k
 .exact WX hh a b hx k
def Uw{Q:rD->rP->Prop}(D:ZipApart z ti tt j1 j2 l1 l2)(oz:yF s.heap z ti tt .none)(oi:vU s.heap ti (.ref j1) (.ref j2))(ot:vU s.heap tt u1 u2)(q1:SIt s.heap j1 l1 m xs)(q2:SIt s.heap j2 l2 m ys)(ex:xs[m]?=Gc x)(ey:ys[m]?=Gc y)(k:∀h',yF h' z ti tt (rawInt s.heap.objs.size)->vU h' tt x y->SIt h' j1 l1 (m+1) xs->SIt h' j2 l2 (m+1) ys->vU h' s.heap.objs.size x y->(∀c o,c≠z->c≠tt->c≠j1->c≠j2->s.heap.get? c=Gc o->h'.get? c=Gc o)->Q (.ref s.heap.objs.size) {s with heap:=h'}):wpAny (model prog w) A (xo.«zip.__next__» ⟨[.ref z],[]⟩) (λfin s'=>∃v,fin=.done (.ret v)/\Q v s') E s:=by
 show wpAny _ _ (field (.ref z) 2 >>= _) _ _ _
 refine qu (uF oz rfl (x:=.bool false) rfl ?_)
 show wpAny _ _ (field (.ref z) 3 >>= _) _ _ _
 refine qu (uF oz rfl (x:=.ref ti) rfl (qu (v3 oi rfl ?_)))
 show wpAny _ _ (uI (.ref z) >>= _) _ _ _
 refine qu ?_
 unfold uI
 refine qu (uF oz rfl (x:=.none) rfl (rS ?_))
 simp only[xl]
 refine qu (ym (qu (uF oz rfl (x:=.ref tt) rfl (qu (vD oz (by simp) λg1 oz1 b1=>?_)))))
 have oz1:yF g1 z ti tt .ellipsis:=oz1
 refine qu ?_
 simp only[List.zipIdx_cons,List.zipIdx_nil,zB,zV]
 refine qu (qu (yW ?_))
 show wpAny _ _ (sV (.ref j1) >>= _) _ _ _
 refine qu (K8 (q1.but b1.extBut D.i1z D.l1z) ex λg2 q12 b2=>rS ?_)
 have ot2:vU g2 tt u1 u2:=b2.extBut _ _ D.TOi1 (b1.extBut _ _ D.TOz ot)
 refine qu (v3 ot2 rfl (qu (xU ot2 λg3 ot3 b3=>?_)))
 have ot3:vU g3 tt x u2:=ot3
 refine qu (wpAny_letGo (rS (qu (qu (yW ?_)))))
 show wpAny _ _ (sV (.ref j2) >>= _) _ _ _
 refine qu (K8 (((q2.but b1.extBut D.i2z D.l2z).but b2.extBut D.i12.symm D.l2i1).but b3.extBut D.TOi2.symm D.l2TO) ey λg4 q24 b4=>rS ?_)
 have ot4:vU g4 tt x u2:=b4.extBut _ _ D.TOi2 ot3
 refine qu (v3 ot4 rfl (qu (xU ot4 λg5 ot5 b5=>?_)))
 have ot5:vU g5 tt x y:=ot5
 refine qu (wpAny_letGo (rS (rS (qu (v3 ot5 rfl (qu (wpAny_newTuple ?_)))))))
 have sz:g5.objs.size=s.heap.objs.size:=by rw[b5.1,b4.1,b3.1,b2.1,b1.1]
 have oz5:yF g5 z ti tt .ellipsis:=b5.extBut _ _ D.TOz.symm (b4.extBut _ _ D.i2z.symm (b3.extBut _ _ D.TOz.symm (b2.extBut _ _ D.i1z.symm oz1)))
 have k5:∀c o,c≠z->c≠tt->c≠j1->c≠j2->s.heap.get? c=Gc o->g5.get? c=Gc o:=λc o c1 c2 c3 c4 e=>b5.extBut _ _ c2 (b4.extBut _ _ c4 (b3.extBut _ _ c2 (b2.extBut _ _ c3 (b1.extBut _ _ c1 e))))
 have q15:SIt g5 j1 l1 (m+1) xs:=((q12.but b3.extBut D.TOi1.symm D.l1TO).but b4.extBut D.i12 D.l1i2).but b5.extBut D.TOi1.symm D.l1TO
 have q25:SIt g5 j2 l2 (m+1) ys:=q24.but b5.extBut D.TOi2.symm D.l2TO
 have zlt:z<g5.objs.size:=rR oz5
 show wpAny _ _ (wJ (.ref z) (.ref g5.objs.size) >>= _) _ _ _
 refine qu ?_
 unfold wJ
 have oz6:yF (g5.push {cls:=.type "tuple",data:=.seq #[x,y]}) z ti tt .ellipsis:=qt _ oz5
 refine qu (vD oz6 (by simp) λg7 oz7 b7=>?_)
 have oz7:yF g7 z ti tt (rawInt g5.objs.size):=oz7
 refine vD oz7 (by simp) λg8 oz8 b8=>?_
 have oz8:yF g8 z ti tt (rawInt g5.objs.size):=oz8
 have up:∀c o,c≠z->g5.get? c=Gc o->g8.get? c=Gc o:=λc o c1 e=>b8.extBut _ _ c1 (b7.extBut _ _ c1 (qt _ e))
 have op8:vU g8 g5.objs.size x y:=b8.extBut _ _ (xj zlt) (b7.extBut _ _ (xj zlt) (rW _ rfl))
 rw[sz]at oz8 op8
 refine rS ⟨_,rfl,?_⟩
 show Q (.ref g5.objs.size) _
 rw[sz]
 exact k g8 oz8 (up _ _ D.TOz ot5) (q15.at (λo e=>up _ o D.i1z e) λo e=>up _ o D.l1z e) (q25.at (λo e=>up _ o D.i2z e) λo e=>up _ o D.l2z e) op8 λc o c1 c2 c3 c4 e=>up c o c1 (k5 c o c1 c2 c3 c4 e)
def X1(hh:A.handled=none)(D:ZipApart z ti tt j1 j2 l1 l2)(oz:yF s.heap z ti tt .none)(oi:vU s.heap ti (.ref j1) (.ref j2))(ot:vU s.heap tt u1 u2)(q1:SIt s.heap j1 l1 m xs)(q2:SIt s.heap j2 l2 m ys)(en:xs[m]?=none\/ys[m]?=none)(k:∀h' e,(∀c o,c≠z->c≠tt->c≠j1->c≠j2->s.heap.get? c=Gc o->h'.get? c=Gc o)->(∃o,h'.get? e=Gc o/\o.cls=.type "StopIteration")->E (.ref e) {s with heap:=h'}):wpAny (model prog w) A (xo.«zip.__next__» ⟨[.ref z],[]⟩) Q E s:=by
 show wpAny _ _ (field (.ref z) 2 >>= _) _ _ _
 refine qu (uF oz rfl (x:=.bool false) rfl ?_)
 show wpAny _ _ (field (.ref z) 3 >>= _) _ _ _
 refine qu (uF oz rfl (x:=.ref ti) rfl (qu (v3 oi rfl ?_)))
 show wpAny _ _ (uI (.ref z) >>= _) _ _ _
 refine qu ?_
 unfold uI
 refine qu (uF oz rfl (x:=.none) rfl (rS ?_))
 simp only[xl]
 refine qu (ym (qu (uF oz rfl (x:=.ref tt) rfl (qu (vD oz (by simp) λg1 oz1 b1=>?_)))))
 have oz1:yF g1 z ti tt .ellipsis:=oz1
 refine qu ?_
 simp only[List.zipIdx_cons,List.zipIdx_nil,zB,zV]
 refine qu (qu (yW ?_))
 show wpAny _ _ (sV (.ref j1) >>= _) _ _ _
 cases ex:xs[m]? with
 |none=>
  refine qu (LC hh (q1.but b1.extBut D.i1z D.l1z) ex λg2 e b2 he=>?_)
  obtain⟨oe,e1,e2⟩:=he
  have oz2:yF g2 z ti tt .ellipsis:=b2 _ _ D.i1z.symm oz1
  have nez:e≠z:=λx=>by subst x;rw[oz2]at e1;cases e1;simp at e2
  exact vD oz2 (by simp) λg3 _ b3=>k g3 e (λc o c1 _ c3 _ x=>b3.extBut _ _ c1 (b2 _ _ c3 (b1.extBut _ _ c1 x))) ⟨oe,b3.extBut _ _ nez e1,e2⟩
 |some x=>
  have ey:ys[m]?=none:=by
   rcases en with z|z
   .rw[ex]at z;cases z
   .exact z
  refine qu (K8 (q1.but b1.extBut D.i1z D.l1z) ex λg2 q12 b2=>rS ?_)
  have ot2:vU g2 tt u1 u2:=b2.extBut _ _ D.TOi1 (b1.extBut _ _ D.TOz ot)
  refine qu (v3 ot2 rfl (qu (xU ot2 λg3 ot3 b3=>?_)))
  refine qu (wpAny_letGo (rS (qu (qu (yW ?_)))))
  show wpAny _ _ (sV (.ref j2) >>= _) _ _ _
  refine qu (LC hh (((q2.but b1.extBut D.i2z D.l2z).but b2.extBut D.i12.symm D.l2i1).but b3.extBut D.TOi2.symm D.l2TO) ey λg4 e b4 he=>?_)
  obtain⟨oe,e1,e2⟩:=he
  have oz4:yF g4 z ti tt .ellipsis:=b4 _ _ D.i2z.symm (b3.extBut _ _ D.TOz.symm (b2.extBut _ _ D.i1z.symm oz1))
  have nez:e≠z:=λx=>by subst x;rw[oz4]at e1;cases e1;simp at e2
  exact vD oz4 (by simp) λg5 _ b5=>k g5 e (λc o c1 c2 c3 c4 x=>b5.extBut _ _ c1 (b4 _ _ c4 (b3.extBut _ _ c2 (b2.extBut _ _ c3 (b1.extBut _ _ c1 x))))) ⟨oe,b5.extBut _ _ nez e1,e2⟩
def R9(D:ZipApart z ti tt j1 j2 l1 l2)(oz:yF s.heap z ti tt .none)(oi:vU s.heap ti (.ref j1) (.ref j2))(ot:vU s.heap tt u1 u2)(q1:SIt s.heap j1 l1 m xs)(q2:SIt s.heap j2 l2 m ys)(ex:xs[m]?=Gc x)(ey:ys[m]?=Gc y)(k:∀h',yF h' z ti tt (rawInt s.heap.objs.size)->vU h' tt x y->SIt h' j1 l1 (m+1) xs->SIt h' j2 l2 (m+1) ys->vU h' s.heap.objs.size x y->(∀c o,c≠z->c≠tt->c≠j1->c≠j2->s.heap.get? c=Gc o->h'.get? c=Gc o)->Q (Gc (.ref s.heap.objs.size)) {s with heap:=h'}):wpAny (model prog w) A (pyNext (.ref z)) Q E s:=by
 have ht:s.TypeIs (.ref z) "zip":=⟨_,oz,rfl⟩
 unfold pyNext
 exact qu (wpAny_attempt (uR (name:=sI "__next__") ht xZ (uZ xZ ht F.entry_zip_next
  (Uw D oz oi ot q1 q2 ex ey λh' a1 a2 a3 a4 a5 a6=>rS (k h' a1 a2 a3 a4 a5 a6)) (F.args_zip_next_1 _))))
def T8(hh:A.handled=none)(D:ZipApart z ti tt j1 j2 l1 l2)(oz:yF s.heap z ti tt .none)(oi:vU s.heap ti (.ref j1) (.ref j2))(ot:vU s.heap tt u1 u2)(q1:SIt s.heap j1 l1 m xs)(q2:SIt s.heap j2 l2 m ys)(en:xs[m]?=none\/ys[m]?=none)(k:∀h',(∀c o,c≠z->c≠tt->c≠j1->c≠j2->s.heap.get? c=Gc o->h'.get? c=Gc o)->Q none {s with heap:=h'}):wpAny (model prog w) A (pyNext (.ref z)) Q E s:=by
 have ht:s.TypeIs (.ref z) "zip":=⟨_,oz,rfl⟩
 unfold pyNext
 refine qu (wpAny_attempt (uR (name:=sI "__next__") ht xZ (uZ xZ ht F.entry_zip_next
  (X1 hh D oz oi ot q1 q2 en λh' e kp he=>?_) (F.args_zip_next_1 _))))
 obtain⟨o,e1,e2⟩:=he
 exact qu (wpAny_isInstance (T:="StopIteration") (b:=true) ⟨o,e1,e2⟩ isSubtype_stop (rS (k _ kp)))
end L2
end
noncomputable section
namespace L2
open PySem PySem.Spec PyProof.Rows
def MV(h:tS)(b:su)(l:rL)(its:xI rD):Prop:=match b with|true=>h.IsTuple l its|false=>h.IsList l its
noncomputable def gc:su->vJ|true=>"tuple_iterator" |false=>"list_iterator"
noncomputable def zh1(h:tS)(b:su)(l:rL):tS:=h.push {cls:=.type (gc b),data:=.fields #[.ref l,.int 0 0]}
noncomputable def zh2(h:tS)(b c:su)(l m:rL):tS:=zh1 (zh1 h b l) c m
noncomputable def zh3(h:tS)(b c:su)(l m:rL):tS:=(zh2 h b c l m).push {cls:=.type "tuple",data:=.seq #[.ref h.objs.size,.ref (zh1 h b l).objs.size]}
noncomputable def zh4(h:tS)(b c:su)(l m:rL):tS:=(zh3 h b c l m).push {cls:=.type "tuple",data:=.seq #[.none,.none]}
noncomputable def zh5(h:tS)(b c:su)(l m:rL):tS:=(zh4 h b c l m).push {cls:=.type "zip",data:=.fields #[.none,.bool false,.bool false,.ref (zh2 h b c l m).objs.size,.ref (zh3 h b c l m).objs.size]}
def MV.push(q:MV h b l its) o:MV (h.push o) b l its:=by
 cases b
 .exact Heap.IsList.push q _
 .obtain⟨u,e,r⟩:=(show h.IsTuple l its from q)
  exact⟨u,qt _ e,r⟩
def Xm b c l m xs ys:Meets (xo.«zip.__new__» ⟨[.type "zip",.ref l,.ref m],[]⟩) (λ_ R s=>MV s.heap b l xs/\MV s.heap c m ys/\R (.ok (.ret (.ref (zh4 s.heap b c l m).objs.size))) {s with heap:=zh5 s.heap b c l m}):=
 .of_wp λprog w A R s hyp=>by
  obtain⟨hp,gs,dr,tk,os⟩:=s
  obtain⟨i1,i2,hyp⟩:=hyp
  have hsub:=sub_zip
  have i3:MV (vP ⟨zh1 hp b l,gs,dr,tk,os⟩) c m ys:=MV.push i2 _
  cases b<;>cases c
  .have a1:zX (vP ⟨hp,gs,dr,tk,os⟩) l xs:=i1
   have a2:zX (vP ⟨hp.push {cls:=.type "list_iterator",data:=.fields #[.ref l,.int 0 0]},gs,dr,tk,os⟩) m ys:=i3
   wp_walk using uU a1,uU a2
   exact⟨_,rfl,hyp⟩
  .have a1:zX (vP ⟨hp,gs,dr,tk,os⟩) l xs:=i1
   have a2:xp (vP ⟨hp.push {cls:=.type "list_iterator",data:=.fields #[.ref l,.int 0 0]},gs,dr,tk,os⟩) m ys:=i3
   wp_walk using uU a1,ua a2
   exact⟨_,rfl,hyp⟩
  .have a1:xp (vP ⟨hp,gs,dr,tk,os⟩) l xs:=i1
   have a2:zX (vP ⟨hp.push {cls:=.type "tuple_iterator",data:=.fields #[.ref l,.int 0 0]},gs,dr,tk,os⟩) m ys:=i3
   wp_walk using ua a1,uU a2
   exact⟨_,rfl,hyp⟩
  .have a1:xp (vP ⟨hp,gs,dr,tk,os⟩) l xs:=i1
   have a2:xp (vP ⟨hp.push {cls:=.type "tuple_iterator",data:=.fields #[.ref l,.int 0 0]},gs,dr,tk,os⟩) m ys:=i3
   wp_walk using ua a1,ua a2
   exact⟨_,rfl,hyp⟩
section
variable{s:rP}
def ZE(q:MV h b l its)(k:∀c o,h.get? c=Gc o->h'.get? c=Gc o)(e:h'.get? j=Gc {cls:=.type (gc b),data:=.fields #[.ref l,.int 0 0]}):SIt h' j l 0 its:=by
 cases b
 .exact .inl ⟨⟨_,e,rfl,rfl⟩,(show h.IsList l its from q).at λo z=>k _ o z⟩
 .exact .inr ⟨⟨_,e,rfl,rfl⟩,let⟨o,z,r⟩:=(show h.IsTuple l its from q);⟨o,k _ o z,r⟩⟩
def UU(i1:MV s.heap b l xs)(i2:MV s.heap c m ys)(k:∀h',yF h' (s.heap.objs.size+4) (s.heap.objs.size+2) (s.heap.objs.size+3) .none->vU h' (s.heap.objs.size+2) (.ref s.heap.objs.size) (.ref (s.heap.objs.size+1))->vU h' (s.heap.objs.size+3) .none .none->SIt h' s.heap.objs.size l 0 xs->SIt h' (s.heap.objs.size+1) m 0 ys->(∀c o,s.heap.get? c=Gc o->h'.get? c=Gc o)->Q (.ref (s.heap.objs.size+4)) {s with heap:=h'}):wpAny (model prog w) A (call (.type "zip") [.ref l,.ref m]) Q E s:=by
 refine callType_new F.called_zip (by decide) (F.typeCall_zip_2 _ _) (F.newCall_zip_2 _ _) (λobj=>F.args_object_init_3 obj _ _) F.entry_zip_new (Xm b c l m xs ys) ⟨i1,i2,?_⟩
 have z1:(zh1 s.heap b l).objs.size=s.heap.objs.size+1:=tT ..
 have z2:(zh2 s.heap b c l m).objs.size=s.heap.objs.size+2:=by unfold zh2 zh1;rw[tT];exact congrArg (· +1) z1
 have z3:(zh3 s.heap b c l m).objs.size=s.heap.objs.size+3:=by unfold zh3;rw[tT,z2]
 have z4:(zh4 s.heap b c l m).objs.size=s.heap.objs.size+4:=by unfold zh4;rw[tT,z3]
 have kp:∀d o,s.heap.get? d=Gc o->(zh5 s.heap b c l m).get? d=Gc o:=λd o e=>by
  unfold zh5 zh4 zh3 zh2 zh1
  exact qt _ (qt _ (qt _ (qt _ (qt _ e))))
 have g5:(zh5 s.heap b c l m).get? (zh4 s.heap b c l m).objs.size=Gc _:=rW _ rfl
 have g4:(zh5 s.heap b c l m).get? (zh3 s.heap b c l m).objs.size=Gc _:=qt _ (rW _ rfl)
 have g3:(zh5 s.heap b c l m).get? (zh2 s.heap b c l m).objs.size=Gc _:=qt _ (qt _ (rW _ rfl))
 have g2:(zh5 s.heap b c l m).get? (zh1 s.heap b l).objs.size=Gc _:=qt _ (qt _ (qt _ (rW _ rfl)))
 have g1:(zh5 s.heap b c l m).get? s.heap.objs.size=Gc _:=qt _ (qt _ (qt _ (qt _ (rW _ rfl))))
 show _/\_
 rw[z2,z3,z4]at g5
 rw[z1,z2]at g3
 rw[z3]at g4
 rw[z1]at g2
 rw[z4]
 exact⟨⟨_,g5,rfl⟩,k _ g5 g3 g4 (ZE i1 kp g1) (ZE i2 kp g2) kp⟩
end
end L2
end
noncomputable section
namespace L2
open PySem PySem.Spec PyProof.Rows
def SqB(K:W1)(H:Hp)(k:su)(a:rL)(xs:Wp V):Prop:=match k with|true=>SqT K H a xs|false=>SqL K H a xs
def JIt(h:tS)(k:su)(j l:rL)(i:Nat):Prop:=match k with|true=>h.IsTupleIter j l i|false=>h.IsListIter j l i
def JIt.at(q:JIt h k j l i)(e:∀o,h.get? j=Gc o->h'.get? j=Gc o):JIt h' k j l i:=by
 cases k
 .exact Heap.IsListIter.at q e
 .exact Heap.IsTupleIter.at q e
def JIt.sit(q:JIt h k j l i)(p:MV h k l its):SIt h j l i its:=by
 cases k
 .exact .inl ⟨q,p⟩
 .exact .inr ⟨q,p⟩
def SIt.jit(q:SIt h j l i its)(p:MV h k l its):JIt h k j l i:=by
 rcases q with⟨q,r⟩|⟨q,r⟩
 .cases k
  .exact q
  .obtain⟨o,e,c,_⟩:=r;obtain⟨o',e',c',_⟩:=(show h.IsTuple l its from p)
   rw[e]at e';cases e';rw[c]at c';injection c' with z;exact absurd z (by decide)
 .cases k
  .obtain⟨o,e,c,_⟩:=r;obtain⟨o',e',c',_⟩:=(show h.IsList l its from p)
   rw[e]at e';cases e';rw[c]at c';injection c' with z;exact absurd z (by decide)
  .exact q
def Inv.sqB{σ:St}(I:Inv X pins σ H s)(h:SqB X.K H k a xs):∃its,Vals xs its/\MV s.heap k a its.toArray:=by
 cases k
 .obtain⟨its,h1,⟨o,n,q1,q2,_,q3⟩,h3⟩:=I.list h
  exact⟨its,h1,o,q1,q2,n,q3⟩
 .obtain⟨its,h1,h2,h3⟩:=I.tuple h
  exact⟨its,h1,h2⟩
def Inv.QH{σ:St}(I:Inv X pins σ H s)(h:SqB X.K H k a xs)(g:SqB X.K H k a ys):xs=ys:=by
 cases k
 .exact I.RL h g
 .exact I.O1 h g
noncomputable def Itz(K:W1)(k:su)(a:rL)(m:su)(b:rL):It:=
 ⟨λi H=>∃(xs ys:Wp V) (x y:V),SqB K H k a xs/\SqB K H m b ys/\xs[i]?=Gc x/\ys[i]?=Gc y,
  λi H v H'=>∃(p:rL) (x y:V),H p=none/\v=.ref p/\(∀xs,SqB K H k a xs->xs[i]?=Gc x)/\(∀ys,SqB K H m b ys->ys[i]?=Gc y)/\H'=upd H p (.tup [x,y]),
  λi H=>∃(xs ys:Wp V),SqB K H k a xs/\SqB K H m b ys/\(xs.length<=i\/ys.length<=i)⟩
structure ZSt(h:tS)(z ti tt j1 j2:rL)(k:su)(a:rL)(m:su)(b:rL)(i:Nat):Prop where
 oz:yF h z ti tt .none
 oi:vU h ti (.ref j1) (.ref j2)
 ot:∃u v,vU h tt u v
 q1:JIt h k j1 a i
 q2:JIt h m j2 b i
structure ZNe(z ti tt j1 j2:rL):Prop where
 n1:ti≠z
 n2:tt≠z
 n3:j1≠z
 n4:j2≠z
 n5:ti≠tt
 n6:ti≠j1
 n7:ti≠j2
 n8:tt≠j1
 n9:tt≠j2
 n10:j1≠j2
def ZNe.apart(N:ZNe z ti tt j1 j2)(ha:a∉ [z,tt,j1,j2])(hb:b∉ [z,tt,j1,j2]):ZipApart z ti tt j1 j2 a b:=by
 simp only[qy,rJ,sU,vg]at ha hb
 exact⟨N.n1,N.n2,N.n3,N.n4,N.n5,N.n6,N.n7,N.n8,N.n9,N.n10,ha.1,ha.2.1,ha.2.2.1,ha.2.2.2,hb.1,hb.2.1,hb.2.2.1,hb.2.2.2⟩
def BS{σ:St}(I:Inv X pins σ H s)(q:SqB X.K H k a xs)(f:Pq X pins H c):a≠c:=by
 intro e
 subst e
 have rd:∀o,Rd H a o->uO:=λo r=>by
  rcases r with r|⟨_,r⟩<;>(rw[f.1]at r;cases r)
 have kk:∀o,X.K.lookup a=Gc o->uO:=λo hk=>by
  have b:=I.ok.mod.kin a o hk
  rcases f.2.2.2.1 with z|z
  .exact I.ok.ZG a o b z
  .exact absurd (qw (rR (I.ok.bs a o b).1) z) (tW _)
 cases k
 .rcases(show SqL X.K H a xs from q)with q|⟨o,_,_,hk,_⟩
  .exact rd _ q
  .exact kk o hk
 .rcases(show SqT X.K H a xs from q)with q|⟨o,_,_,hk,_⟩
  .exact rd _ q
  .exact kk o hk
theorem XC{P:sx}{K:W1} k a m b z ti tt j1 j2(N:ZNe z ti tt j1 j2):Turn P w K (.Tuple elts n pos) (Itz K k a m b) [z,ti,tt,j1,j2] z (λi h=>ZSt h z ti tt j1 j2 k a m b i) where
 mem:=by simp
 obj:=λi h st c hc=>by
  have jl:∀{q:su} {j l:rL},JIt h q j l i->∃o,h.get? j=Gc o/\∀v,o.data≠.cell v:=λ{q j l} x=>by
   cases q
   .obtain⟨o,e,_,d⟩:=(show h.IsListIter j l i from x)
    exact⟨o,e,λv z=>by rw[d]at z;cases z⟩
   .obtain⟨o,e,_,d⟩:=(show h.IsTupleIter j l i from x)
    exact⟨o,e,λv z=>by rw[d]at z;cases z⟩
  simp only[qy,rJ,sU]at hc
  rcases hc with rfl|rfl|rfl|rfl|rfl
  .exact⟨_,st.oz,λv z=>nomatch z⟩
  .exact⟨_,st.oi,λv z=>nomatch z⟩
  .obtain⟨u,v,e⟩:=st.ot
   exact⟨_,e,λv z=>nomatch z⟩
  .exact jl st.q1
  .exact jl st.q2
 keep:=λi h h' st kp=>⟨kp z (by simp) _ st.oz,kp ti (by simp) _ st.oi,let⟨u,v,e⟩:=st.ot;⟨u,v,kp tt (by simp) _ e⟩,st.q1.at λo e=>kp j1 (by simp) o e,st.q2.at λo e=>kp j2 (by simp) o e⟩
 item:=by
  intro X hP hw hK hc i pins s σ H E I hf st hg
  subst hP hw hK
  obtain⟨xs,ys,x,y,s1,s2,e1,e2⟩:=hg
  obtain⟨i1,r1,p1⟩:=I.sqB s1
  obtain⟨i2,r2,p2⟩:=I.sqB s2
  obtain⟨u1,h1,ru1⟩:=r1.get e1
  obtain⟨u2,h2,ru2⟩:=r2.get e2
  have fz:=hf z (by simp);have fi:=hf ti (by simp);have ft:=hf tt (by simp);have f1:=hf j1 (by simp);have f2:=hf j2 (by simp)
  have ap:=N.apart (a:=a) (b:=b) (by simp[BS I s1 fz,BS I s1 ft,BS I s1 f1,BS I s1 f2]) (by simp[BS I s2 fz,BS I s2 ft,BS I s2 f1,BS I s2 f2])
  obtain⟨v1,v2,ot⟩:=st.ot
  refine R9 ap st.oz st.oi ot (st.q1.sit p1) (st.q2.sit p2) (x:=u1) (y:=u2) (by simpa using h1) (by simpa using h2) λh' oz ot' q1 q2 op kp=>⟨_,rfl,wpAny_letOwnedTupleGo_zip oz λg oz' sb=>?_⟩
  have lt:∀c o,s.heap.get? c=Gc o->c≠s.heap.objs.size:=λc o q=>sM (rR q)
  have nz:z≠s.heap.objs.size:=lt _ _ st.oz
  have nt:tt≠s.heap.objs.size:=lt _ _ ot
  have n1:j1≠s.heap.objs.size:=by obtain⟨o,e,_⟩:=(st.q1.sit p1).live;exact lt _ _ e
  have n2:j2≠s.heap.objs.size:=by obtain⟨o,e,_⟩:=(st.q2.sit p2).live;exact lt _ _ e
  have kp2:∀c o,c≠z->c≠tt->c≠j1->c≠j2->s.heap.get? c=Gc o->g.get? c=Gc o:=λc o c1 c2 c3 c4 q=>(sb.2 c c1).trans (kp c o c1 c2 c3 c4 q)
  have fr:H s.heap.objs.size=none:=I.hok.fresh (q9 _)
  have op2:g.get? s.heap.objs.size=Gc {cls:=.type "tuple",data:=.seq #[u1,u2]}:=(sb.2 _ (tu nz)).trans op
  have ne:∀c u,c∈ [z,ti,tt,j1,j2]->∀d,H d=Gc u->d≠c:=λc u hc d q e=>by rw[e,(hf c hc).1]at q;cases q
  have kpH:∀c u,H c=Gc u->∀o,s.heap.get? c=Gc o->g.get? c=Gc o:=λc u q o e=>kp2 c o (ne z u (by simp) c q) (ne tt u (by simp) c q) (ne j1 u (by simp) c q) (ne j2 u (by simp) c q) e
  have ka:∀o,s.heap.get? a=Gc o->g.get? a=Gc o:=λo e=>kp2 a o (BS I s1 fz) (BS I s1 ft) (BS I s1 f1) (BS I s1 f2) e
  have kb:∀o,s.heap.get? b=Gc o->g.get? b=Gc o:=λo e=>kp2 b o (BS I s2 fz) (BS I s2 ft) (BS I s2 f1) (BS I s2 f2) e
  have sq:∀{q:su} {d:rL} {is:xI rD},MV s.heap q d is->(∀o,s.heap.get? d=Gc o->h'.get? d=Gc o)->MV h' q d is:=λ{q d is} x kd=>by
   cases q
   .exact(show s.heap.IsList d is from x).at kd
   .obtain⟨o,e,r⟩:=(show s.heap.IsTuple d is from x)
    exact⟨o,kd o e,r⟩
  have ka1:∀o,s.heap.get? a=Gc o->h'.get? a=Gc o:=λo e=>kp a o (BS I s1 fz) (BS I s1 ft) (BS I s1 f1) (BS I s1 f2) e
  have kb1:∀o,s.heap.get? b=Gc o->h'.get? b=Gc o:=λo e=>kp b o (BS I s2 fz) (BS I s2 ft) (BS I s2 f1) (BS I s2 f2) e
  refine⟨.ref s.heap.objs.size,upd H s.heap.objs.size (.tup [x,y]),?_,rfl,⟨_,x,y,fr,rfl,λzs hz=>by rw[I.QH hz s1];exact e1,λzs hz=>by rw[I.QH hz s2];exact e2,rfl⟩,⟨oz',(sb.2 _ N.n1).trans (kp ti _ N.n1 N.n5 N.n6 N.n7 st.oi),⟨_,_,(sb.2 _ N.n2).trans ot'⟩,(q1.jit (sq p1 ka1)).at λo e=>(sb.2 _ N.n3).trans e,(q2.jit (sq p2 kb1)).at λo e=>(sb.2 _ N.n4).trans e⟩,?_⟩
  .show Inv X pins σ _ {s with heap:=g,gens:=s.gens,drawn:=s.drawn,toks:=s.toks}
   refine I.step (g':=s.gens) (d':=s.drawn) (ch:=[z,tt,j1,j2]) ?_ ?_ ?_ ?_ ?_ ?_ ?_ ?_ ?_ ?_ I.bare
   .intro c hc
    have q:Pq X pins H c:=hf c (by simp only[qy,rJ,sU]at hc ⊢; rcases hc with z|z|z|z<;>simp[z])
    exact⟨q.2.2.2.1,q.2.1,q.2.2.2.2.1,q.2.2.2.2.2⟩
   .exact λc o _ _ hc q _=>by
     simp only[qy,rJ,sU,vg]at hc
     exact kp2 c o hc.1 hc.2.1 hc.2.2.1 hc.2.2.2 q
   .exact λc o _ _ hc q _=>by
     simp only[qy,rJ,sU,vg]at hc
     exact⟨o.slots,kp2 c o hc.1 hc.2.1 hc.2.2.1 hc.2.2.2 q⟩
   .exact λc o _ q n=>by rw[Ae (lt c o q)];exact n
   .exact λc o hc q=>by
     simp only[qy,rJ,sU,vg]at hc
     exact⟨o,kp2 c o hc.1 hc.2.1 hc.2.2.1 hc.2.2.2 q⟩
   .exact λc ys q=>by rw[Ae (BL q fr)];exact q
   .exact λc o u q=>by rw[Ae (BL q fr)];exact q
   .exact λc ps q=>⟨#[],by rw[Ae (BL q fr),q];simp⟩
   .rintro mm ⟨o,es,ep,ho,r⟩
    exact⟨o,es,ep,kp2 _ o (tu fz.2.1) (tu ft.2.1) (tu f1.2.1) (tu f2.2.1) ho,r⟩
   .intro c v q
    by_cases hb:c=s.heap.objs.size
    .subst hb
     rw[Ax]at q
     cases q
     exact⟨by show 2<=sizeLine;decide,[u1,u2],.cons ru1 (.cons ru2 .nil),⟨_,op2,rfl,0,rfl⟩⟩
    .rw[Ae hb]at q
     refine(I.hok c v q).WH (λd o hd r=>?_) (λd r=>by rw[Ae (BL r fr)];exact r) (λd ys r=>by rw[Ae (BL r fr)];exact r)
     rcases hd with e|e
     .rw[e]at r ⊢; exact kpH c v q o r
     .exact kpH d _ e o r
  .intro c hc
   have q:=hf c hc
   have:c≠s.heap.objs.size:=by
    simp only[qy,rJ,sU]at hc
    rcases hc with e|e|e|e|e
    .rw[e];exact nz
    .rw[e];exact lt _ _ st.oi
    .rw[e];exact nt
    .rw[e];exact n1
    .rw[e];exact n2
   rw[Ae this];exact q.1
 done:=by
  intro X hP hw hK hc i pins s σ H E I hf st hg
  subst hP hw hK
  obtain⟨xs,ys,s1,s2,e⟩:=hg
  obtain⟨i1,r1,p1⟩:=I.sqB s1
  obtain⟨i2,r2,p2⟩:=I.sqB s2
  have l1:=r1.length
  have l2:=r2.length
  have hh:X.A.in1.handled=none:=I.ok.hd hc
  have hh0:X.A.handled=none:=I.ok.hd hc
  have fz:=hf z (by simp);have fi:=hf ti (by simp);have ft:=hf tt (by simp);have f1:=hf j1 (by simp);have f2:=hf j2 (by simp)
  have ap:=N.apart (a:=a) (b:=b) (by simp[BS I s1 fz,BS I s1 ft,BS I s1 f1,BS I s1 f2]) (by simp[BS I s2 fz,BS I s2 ft,BS I s2 f1,BS I s2 f2])
  obtain⟨v1,v2,ot⟩:=st.ot
  refine T8 hh0 ap st.oz st.oi ot (st.q1.sit p1) (st.q2.sit p2) (by rcases e with e|e;exact .inl (by simp;lia);exact .inr (by simp;lia)) λh' kp=>⟨rfl,?_⟩
  have ne:∀c u,c∈ [z,ti,tt,j1,j2]->∀d,H d=Gc u->d≠c:=λc u hc d q e=>by rw[e,(hf c hc).1]at q;cases q
  show Inv X pins σ _ {s with heap:=h',gens:=s.gens,drawn:=s.drawn,toks:=s.toks}
  refine I.step (g':=s.gens) (d':=s.drawn) (ch:=[z,tt,j1,j2]) ?_ ?_ ?_ ?_ ?_ ?_ ?_ ?_ ?_ ?_ I.bare
  .intro c hc
   have q:Pq X pins H c:=hf c (by simp only[qy,rJ,sU]at hc ⊢; rcases hc with z|z|z|z<;>simp[z])
   exact⟨q.2.2.2.1,q.2.1,q.2.2.2.2.1,q.2.2.2.2.2⟩
  .exact λc o _ _ hc q _=>by
    simp only[qy,rJ,sU,vg]at hc
    exact kp c o hc.1 hc.2.1 hc.2.2.1 hc.2.2.2 q
  .exact λc o _ _ hc q _=>by
    simp only[qy,rJ,sU,vg]at hc
    exact⟨o.slots,kp c o hc.1 hc.2.1 hc.2.2.1 hc.2.2.2 q⟩
  .exact λc o _ q n=>n
  .exact λc o hc q=>by
    simp only[qy,rJ,sU,vg]at hc
    exact⟨o,kp c o hc.1 hc.2.1 hc.2.2.1 hc.2.2.2 q⟩
  .exact λc ys q=>q
  .exact λc o u q=>q
  .exact λc ps q=>⟨#[],by rw[q];simp⟩
  .rintro mm ⟨o,es,ep,ho,r⟩
   exact⟨o,es,ep,kp _ o (tu fz.2.1) (tu ft.2.1) (tu f1.2.1) (tu f2.2.1) ho,r⟩
  .intro c v q
   refine(I.hok c v q).WH (λd o hd r=>?_) (λd r=>r) (λd ys r=>r)
   rcases hd with e|e
   .rw[e]at r ⊢; exact kp c o (ne z v (by simp) c q) (ne tt v (by simp) c q) (ne j1 v (by simp) c q) (ne j2 v (by simp) c q) r
   .exact kp d o (ne z _ (by simp) d e) (ne tt _ (by simp) d e) (ne j1 _ (by simp) d e) (ne j2 _ (by simp) d e) r
 self:=λ_ _ _ _ _ st h=>wpAny_pyIter_zip st.oz h
end L2
end
noncomputable section
namespace L2
open PySem PySem.Spec PyProof.Rows
def zne(n:Nat):ZNe (n+4) (n+2) (n+3) n (n+1):=⟨λe=>by have:n+2=n+4:=e;lia,λe=>by have:n+3=n+4:=e;lia,λe=>by have:n=n+4:=e;lia,λe=>by have:n+1=n+4:=e;lia,λe=>by have:n+2=n+3:=e;lia,λe=>by have:n+2=n:=e;lia,λe=>by have:n+2=n+1:=e;lia,λe=>by have:n+3=n:=e;lia,λe=>by have:n+3=n+1:=e;lia,λe=>by have:n=n+1:=e;lia⟩
noncomputable def qV(K:W1)(ta:TA):TI:=λσ H R=>ta σ H λvs H1=>∃k a m b,vs=[.ref a,.ref b]/\(∃xs,SqB K H1 k a xs)/\(∃ys,SqB K H1 m b ys)/\R (Itz K k a m b) H1
def gf{p pos tp:Pos}{elts:Wp tF}{n:Nat}(hg:Gl X "zip")(hm:X.mg "zip"=none)(ha:PA X [a,b] ta)(hs:x0 (rG [a,b] X.env=[(false,eval a X.env),(false,eval b X.env)]) wv)(hs2:x0 (rG [b] X.env=[(false,eval b X.env)]) wv):PI X (.Tuple elts n tp) (.Call (.Name "zip" p) [a,b] [] pos) (qV X.K ta):=by
 intro pins s σ H R I h
 refine Call_ (Mr I hg hm boot_zip (vo (thn (ha pos pins s σ H _ I h) λus s1 ⟨vs,H1,I1,r1,q1⟩=>?_) (by rw[hs,hs2]) (by rw[hs2];rfl)))
 obtain⟨k,a',m,b',e,⟨xs,hq⟩,⟨ys,hr⟩,q⟩:=q1
 subst e
 obtain⟨u,v,rfl,ru,rv⟩:=r1.two
 cases (show u=sA a' from ru)
 cases (show v=sA b' from rv)
 obtain⟨i1,v1,p1⟩:=I1.sqB hq
 obtain⟨i2,v2,p2⟩:=I1.sqB hr
 refine UU p1 p2 λh' oz oi ot q1 q2 kp=>wpAny_pyIter_zip (s:={s1 with heap:=h'}) oz ?_
 have sq:∀{q:su} {d:rL} {is:xI rD},MV s1.heap q d is->MV h' q d is:=λ{q d is} x=>by
  cases q
  .exact(show s1.heap.IsList d is from x).at λo e=>kp _ o e
  .obtain⟨o,e,r⟩:=(show s1.heap.IsTuple d is from x)
   exact⟨o,kp _ o e,r⟩
 refine⟨s1.heap.objs.size+4,[s1.heap.objs.size+4,s1.heap.objs.size+2,s1.heap.objs.size+3,s1.heap.objs.size,s1.heap.objs.size+1],_,_,H1,rfl,I1.kept (t':=s1.toks) kp,
  XC k a' m b' _ _ _ _ _ (zne s1.heap.objs.size),⟨oz,oi,⟨_,_,ot⟩,q1.jit (sq p1),q2.jit (sq p2)⟩,λc hc=>?_,q⟩
 simp only[qy,rJ,sU]at hc
 have:s1.heap.objs.size<=c:=by rcases hc with rfl|rfl|rfl|rfl|rfl<;>first|exact q9 _|exact Nat.le_add_right _ _
 exact I1.ax this (I1.hok.fresh this)
end L2
end
noncomputable section
namespace L2
open PySem PySem.Spec PyProof.Rows
def IsList.Qy{h h':tS}(p:h.IsList a items)(k:∀o,h.get? a=Gc o->h'.get? a=Gc o):h'.IsList a items:=by
 obtain⟨o,ho,r⟩:=p
 exact⟨o,k o ho,r⟩
theorem Ob(hne:t≠it):∀n i s Q,s.heap.IsListIter it t i->s.heap.IsList t items->i+n<=items.size->(∀h',h'.IsListIter it t (i+n)->wm it s.heap h'->Q ((items.toList.drop i).take n) {s with heap:=h'})->wpAny (model prog w) A (draw (.ref it) n) Q E s
 |0,i,s,Q,hit,_,_,hQ=>by
  show wpAny _ _ (pure []) Q E s
  exact rS (by simpa using hQ s.heap hit (Heap.SameBut.refl ..))
 |n+1,i,s,Q,hit,ht,hle,hQ=>by
  have hlt:i<items.size:=by lia
  show wpAny _ _ (pyNext (.ref it) >>= _) Q E s
  refine qu (wq hit ht (x:=items[i]) (by simp[hlt]) λh1 hit1 hs1=>?_)
  refine qu (ug (Ob hne n (i+1) _ _ hit1 (IsList.Qy ht λo e=>hs1.extBut t o hne e) (by lia) λh2 hit2 hs2=>rS ?_))
  have hd:items.toList.drop i=items[i]::items.toList.drop (i+1):=by simp[tE,hlt]
  have:=hQ h2 (by rw[show i+(n+1)=i+1+n by lia];exact hit2) (hs1.trans hs2)
  rw[hd,List.take_succ_cons]at this
  exact this
def Ks(hh:A.handled=none)(ht:s.heap.IsList t items)(hty:s.TypeIs (.ref t) "list")(hQ:∀h',yR s.heap.objs.size s.heap h'->Q items.toList {s with heap:=h'}):wpAny (model prog w) A (unpackItems (.ref t) items.size none) Q E s:=by
 have hlt:t≠s.heap.objs.size:=by obtain⟨o,ho,_⟩:=ht;exact sM (rR ho)
 unfold unpackItems
 refine qu ?_
 .unfold notIterableAtAll
  refine qu (wpAny_specialOf hty F.slot_list_iter.lookup ?_)
  refine rS ?_
  simp only[AAI,yf]
  refine qu (ug (uU ht ?_))
  refine qu (ug (Ob hlt items.size 0 _ _ ⟨_,rW _ rfl,rfl,rfl⟩ (IsList.Qy ht λo e=>qt _ e) (by lia) λh1 hit1 hs1=>?_))
  have hall:List.take items.size (List.drop 0 items.toList)=items.toList:=by
   rw[List.drop_zero];exact w9 (by simp)
  rw[hall]
  rw[sH (by simp)]
  have ht1:h1.IsList t items:=IsList.Qy (IsList.Qy ht λo e=>qt _ e) λo e=>hs1.extBut t o hlt e
  refine qu (ug (xJ hh hit1 ht1 (by simp) λh2 he2=>?_))
  simp only[Option.isSome_none,AAI,yf]
  refine rS (hQ h2 λb o hb e=>he2 b o hb (hs1.extBut b o hb (qt _ e)))
def Jp{x1}(hh:A.handled=none)(ht:s.heap.IsList t items)(hty:s.TypeIs (.ref t) "list")(hn:(assignEach elts env).length=items.size)(hstar:(assignEach elts env).findIdx? (·.1)=none)(h:∀h',yR s.heap.objs.size s.heap h'->wpAny (model prog w) A (assignInOrder ((assignEach elts env).map (·.2)) items.toList) Q E {s with heap:=h'}):wpAny (model prog w) A (assign (.Tuple elts x1 pos) env (.ref t)) Q E s:=by
 rw[PyProof.Rows.assign_Tuple]
 refine qu (wL ?_)
 unfold unpack
 rw[hn,hstar]
 exact qu (ug (Ks hh ht hty h))
section
variable{X:Cx}{pos:Pos}
noncomputable def pF(K:W1)(n:Nat)(t:TGs):TG:=λv σ H Q=>∃a xs,v=.ref a/\(SqT K H a xs\/H a=Gc (.lst xs))/\xs.length=n/\t xs σ H Q
def f7{k:Nat}(hc:X.calm=true)(h:PGs X es t)(hn:x0 ((assignEach es X.env).length=n) wv)(hst:x0 ((assignEach es X.env).findIdx? (·.1)=none) wv):PG X (.Tuple es k pos) (pF X.K n t):=by
 intro pins s σ H v u Q I r hw
 obtain⟨a,xs,e1,hq,hl,hw⟩:=hw
 rcases hq with hq|hq
 .exact gZ hc h hn hst pins s σ H v u Q I r ⟨a,xs,e1,hq,hl,hw⟩
 .subst e1
  cases r
  obtain⟨its,rv,p,hz⟩:=I.list (SqL.of hq)
  obtain⟨z,its2,m,rv2,_,e⟩:=I.WI hq
  refine Jp (I.ok.hd hc) p.isList ⟨_,e,rfl⟩ (by simp[hn,<-hl,rv.length]) hst λh' hx=>?_
  have I1:Inv X pins σ H {s with heap:=h'}:=I.kept (t':=s.toks) λb o e=>hx b o (sM (rR e)) e
  exact h pins _ σ H xs _ Q I1 (by simpa using rv) hw
end
end L2
end
noncomputable section
namespace L2
open PySem PySem.Spec PyProof.Rows
def JIt.live(q:JIt h k j l i):∃o,h.get? j=Gc o/\∀v,o.data≠.cell v:=by
 cases k with
 |true=>obtain⟨o,e,c,d⟩:=q;exact⟨o,e,λv z=>by rw[d]at z;cases z⟩
 |false=>obtain⟨o,e,c,d⟩:=q;exact⟨o,e,λv z=>by rw[d]at z;cases z⟩
def MV.mono(q:MV h k l its)(e:∀o,h.get? l=Gc o->h'.get? l=Gc o):MV h' k l its:=by
 cases k with
 |true=>obtain⟨o,ho,r⟩:=q;exact⟨o,e o ho,r⟩
 |false=>obtain⟨o,ho,r⟩:=q;exact⟨o,e o ho,r⟩
theorem Ua(hh:A.handled=none) it t(hne:t≠it) items:Draws prog w A it [it,t] items.size (λi v=>items[i]?=Gc v) (λi h=>SIt h it t i items) where
 live:=λ_ _ st=>let⟨o,ho,_⟩:=st.live;⟨o,ho⟩
 frame:=λ_ _ _ st hk=>st.at (λo e=>hk it (by simp) o e) λo e=>hk t (by simp) o e
 item:=λi s Q E hi st hQ=>K8 st (x:=items[i]) (by simp[hi]) λh' a b=>hQ _ h' s.toks (by simp[hi]) a b
 done:=λs Q E st hE=>LC hh st (by simp) hE
noncomputable def ItE(K:W1)(kk:su)(a:rL):It:=
 ⟨λi H=>∃xs x,SqB K H kk a xs/\xs[i]?=Gc x,λi H x H'=>∃p y,H p=none/\x=.ref p/\(∀xs,SqB K H kk a xs->xs[i]?=Gc y)/\H'=upd H p (.tup [.int i,y]),λi H=>∃xs,SqB K H kk a xs/\xs.length<=i⟩
theorem RX{P:sx}{K:W1} kk a e it(hei:e≠it):Turn P w K (.Tuple elts k pos) (ItE K kk a) [e,it] e (λi h=>(∃old,IsEnum h e it i old)/\JIt h kk it a i) where
 mem:=by simp
 obj:=λi h st b hb=>by
  obtain⟨⟨old,h1⟩,st2⟩:=st
  obtain⟨o,h2,h4⟩:=st2.live
  simp only[qy,rJ,sU]at hb
  rcases hb with rfl|rfl
  .exact⟨_,h1,λv z=>nomatch z⟩
  .exact⟨o,h2,h4⟩
 keep:=λi h h' st k=>by
  obtain⟨⟨old,h1⟩,h2⟩:=st
  exact⟨⟨old,k e (by simp) _ h1⟩,h2.at λo q=>k it (by simp) o q⟩
 item:=by
  intro X hP hw hK hc i pins s σ H E I hf st hg
  subst hP hw hK
  obtain⟨xs,x,hq,hx⟩:=hg
  obtain⟨its,rv,p⟩:=I.sqB hq
  obtain⟨u,hu,ru⟩:=rv.get hx
  obtain⟨⟨old,h1⟩,h2⟩:=st
  obtain⟨oi,hi1,hi2⟩:=h2.live
  have hea:a≠e:=BS I hq (hf e (by simp))
  have hia:a≠it:=BS I hq (hf it (by simp))
  have hil:i<its.toArray.size:=by
   have:=(rB.mp hu).1
   simpa using this
  have hh:X.A.in1.handled=none:=I.ok.hd hc
  have D:=Ua (prog:=X.prog) (w:=X.w) hh it a hia its.toArray
  refine wpAny_pyNext_enum_itemD D h1 (h2.sit p) hil hei (by simp[hei,tu hea]) ?_
  intro y h' tk hy out st' tup size kept
  have ey:y=u:=by
   have:its[i]?=Gc y:=by simpa using hy
   rw[hu]at this
   exact(uJ this).symm
  subst ey
  refine⟨_,rfl,wpAny_letOwnedTupleGo_enum out λh'' en sb=>?_⟩
  have hfe:=hf e (by simp)
  have hfi:=hf it (by simp)
  have lt:∀b o,s.heap.get? b=Gc o->b≠s.heap.objs.size:=λb o q=>sM (rR q)
  have kept2:∀b o,b≠e->b≠it->s.heap.get? b=Gc o->h''.get? b=Gc o:=λb o b1 b2 q=>(sb.2 b b1).trans (kept b o b1 b2 q)
  have fr:H s.heap.objs.size=none:=I.hok.fresh (q9 _)
  have tup2:h''.get? s.heap.objs.size=Gc {cls:=.type "tuple",data:=.seq #[.int i tk,y]}:=(sb.2 _ (tu (lt e _ h1))).trans tup
  have ne1:∀b u,H b=Gc u->b≠e:=λb u q z=>by rw[z,hfe.1]at q;cases q
  have ne2:∀b u,H b=Gc u->b≠it:=λb u q z=>by rw[z,hfi.1]at q;cases q
  refine⟨.ref s.heap.objs.size,upd H s.heap.objs.size (.tup [.int i,x]),?_,rfl,⟨_,x,fr,rfl,λys hys=>by rw[I.QH hys hq];exact hx,rfl⟩,⟨⟨y,en⟩,?_⟩,?_⟩
  .show Inv X pins σ _ {s with heap:=h'',gens:=s.gens,drawn:=s.drawn,toks:=tk+1}
   refine I.step (g':=s.gens) (d':=s.drawn) (ch:=[e,it]) ?_ ?_ ?_ ?_ ?_ ?_ ?_ ?_ ?_ ?_ I.bare
   .intro b hb
    simp only[qy,rJ,sU]at hb
    rcases hb with rfl|rfl
    .exact⟨hfe.2.2.2.1,hfe.2.1,hfe.2.2.2.2.1,hfe.2.2.2.2.2⟩
    .exact⟨hfi.2.2.2.1,hfi.2.1,hfi.2.2.2.2.1,hfi.2.2.2.2.2⟩
   .exact λb o _ _ hc q _=>kept2 b o (λz=>hc (by simp[z])) (λz=>hc (by simp[z])) q
   .exact λb o _ _ hc q _=>⟨o.slots,kept2 b o (λz=>hc (by simp[z])) (λz=>hc (by simp[z])) q⟩
   .exact λb o _ q n=>by rw[Ae (lt b o q)];exact n
   .exact λb o hc q=>⟨o,kept2 b o (λz=>hc (by simp[z])) (λz=>hc (by simp[z])) q⟩
   .exact λb ys q=>by rw[Ae (BL q fr)];exact q
   .exact λb o u q=>by rw[Ae (BL q fr)];exact q
   .exact λb ps q=>⟨#[],by rw[Ae (BL q fr),q];simp⟩
   .rintro m ⟨o,es,ep,ho,r⟩
    exact⟨o,es,ep,kept2 _ o (tu hfe.2.1) (tu hfi.2.1) ho,r⟩
   .intro b v q
    by_cases hb:b=s.heap.objs.size
    .subst hb
     rw[Ax]at q
     cases q
     exact⟨by show 2<=sizeLine;decide,[.int i tk,y],.cons ⟨tk,rfl⟩ (.cons ru .nil),⟨_,tup2,rfl,0,rfl⟩⟩
    .rw[Ae hb]at q
     refine(I.hok b v q).WH (λc z hc r=>kept2 c z ?_ ?_ r) (λc r=>by rw[Ae (BL r fr)];exact r) (λc ys r=>by rw[Ae (BL r fr)];exact r)
     .rcases hc with z|z
      .rw[z];exact ne1 b v q
      .exact ne1 c _ z
     .rcases hc with z|z
      .rw[z];exact ne2 b v q
      .exact ne2 c _ z
  .have pa:MV h'' kk a its.toArray:=p.mono λo q=>kept2 a o hea hia q
   exact(st'.at (λo q=>(sb.2 it (tu hei)).trans q) λo q=>(sb.2 a hea).trans q).jit pa
  .intro b hb
   simp only[qy,rJ,sU]at hb
   rcases hb with rfl|rfl
   .rw[Ae (lt b _ h1)];exact hfe.1
   .rw[Ae (lt b _ hi1)];exact hfi.1
 done:=by
  intro X hP hw hK hc i pins s σ H E I hf st hg
  subst hP hw hK
  obtain⟨xs,hq,hx⟩:=hg
  obtain⟨its,rv,p⟩:=I.sqB hq
  obtain⟨⟨old,h1⟩,h2⟩:=st
  have hl:=rv.length
  have hh:X.A.in1.handled=none:=I.ok.hd hc
  obtain⟨f0,f1,f2,f3,f4,f5⟩:=hf it (by simp)
  have D:Draws X.prog X.w X.A.in1 it [it,a] i (λ_ _=>xy) (λj h=>j=i/\SIt h it a i its.toArray):=
   {live:=λ_ _ st=>let⟨o,ho,_⟩:=st.2.live;⟨o,ho⟩
    frame:=λ_ _ _ st hk=>⟨st.1,st.2.at (λo e=>hk it (by simp) o e) λo e=>hk a (by simp) o e⟩
    item:=λj s Q E hj st _=>absurd st.1 (sM hj)
    done:=λs Q E st hE=>LC hh st.2 (by simp;lia) hE}
  exact wpAny_pyNext_enum_endD D h1 ⟨rfl,h2.sit p⟩ λh' eb=>⟨rfl,I.turned (t':=s.toks) (λb o hb q=>eb b o hb q) f0 f1 f3 f4 f5⟩
 self:=λ_ _ _ _ _ st h=>by
  obtain⟨⟨old,h1⟩,_⟩:=st
  exact wpAny_pyIter_enum h1 h
noncomputable def eP(K:W1)(ta:TA):TI:=λσ H R=>ta σ H λvs H1=>∃kk a,vs=[.ref a]/\(∃xs,SqB K H1 kk a xs)/\R (ItE K kk a) H1
def WW(hg:Gl X "enumerate")(hm:X.mg "enumerate"=none)(ha:PA X [a] ta)(hs:x0 (rG [a] X.env=[(false,eval a X.env)]) wv):PI X (.Tuple elts k tp) (.Call (.Name "enumerate" p) [a] [] pos) (eP X.K ta):=by
 intro pins s σ H R I h
 refine Call_ (Mr I hg hm boot_enumerate (callWith_type1 (thn (ha pos pins s σ H _ I h) λus s1 z=>?_) hs rfl))
 obtain⟨vs,H1,I1,r1,q1⟩:=z
 obtain⟨kk,b,e,⟨xs,hq⟩,q⟩:=q1
 subst e
 obtain⟨u,rfl,ru⟩:=r1.one
 cases (show u=sA b from ru)
 obtain⟨its,rv,pt⟩:=I1.sqB hq
 have fin:∀h':tS,IsEnum h' (s1.heap.objs.size+1) s1.heap.objs.size 0 .none->JIt h' kk s1.heap.objs.size b 0->(∀b o,s1.heap.get? b=Gc o->h'.get? b=Gc o)->wpAny (model X.prog X.w) X.A (pyIter (.ref (s1.heap.objs.size+1))) (PIE X pins σ (.Tuple elts k tp) R) X.xe {s1 with heap:=h'}:=λh' en it kp=>by
  refine wpAny_pyIter_enum (s:={s1 with heap:=h'}) en ?_
  refine⟨s1.heap.objs.size+1,[s1.heap.objs.size+1,s1.heap.objs.size],_,_,H1,rfl,I1.kept (t':=s1.toks) kp,RX kk b (s1.heap.objs.size+1) s1.heap.objs.size (Nat.succ_ne_self _),⟨⟨_,en⟩,it⟩,λc hc=>?_,q⟩
  simp only[qy,rJ,sU]at hc
  rcases hc with rfl|rfl
  .exact I1.ax (by lia) (I1.hok.fresh (by lia))
  .exact I1.ax (q9 _) (I1.hok.fresh (q9 _))
 cases kk with
 |true=>exact Rv (show s1.heap.IsTuple b its.toArray from pt) λh' en it kp=>fin h' en it kp
 |false=>exact call_enumerate_list (show s1.heap.IsList b its.toArray from pt) λh' en it _ kp=>fin h' en it kp
end L2
end
noncomputable section
namespace St
open PySem PySem.Spec L2 PyProof.Rows
inductive Kd where
 |non|bl|int|str|tup|lst|dct
 deriving DecidableEq
noncomputable def Kd.ty:Kd->vJ
 | .non=>"NoneType" | .bl=>"bool" | .int=>"int" | .str=>"str" | .tup=>"tuple" | .lst=>"list" | .dct=>"dict"
noncomputable def Kd.isA:Kd->vJ->su
 | .bl,"bool"=>true| .bl,"int"=>true| .int,"int"=>true| .str,"str"=>true| .tup,"tuple"=>true| .lst,"list"=>true| .dct,"dict"=>true
 |_,_=>false
section
variable{K:W1}
def cJ(k:Kd):vA K (.type k.ty) (.type "int")=Gc (k.isA "int"):=by
 cases k<;>first|rfl|(unfold vA;rfl)
def Wb(k:Kd):vA K (.type k.ty) (.type "bool")=Gc (k.isA "bool"):=by
 cases k<;>rfl
def kit_tuple(k:Kd):vA K (.type k.ty) (.type "tuple")=Gc (k.isA "tuple"):=by
 cases k<;>rfl
def aS(k:Kd):vA K (.type k.ty) (.type "str")=Gc (k.isA "str"):=by
 cases k<;>rfl
end
structure Dfn(P:sx)(w:uL)(K:W1)(mg:Str->qz rD)(base:tS)(x:Str)(k:Nat)(ps:Wp Str)(sp:Sp):Prop where
 ex:∃f fd,mg x=Gc (.ref f)/\tL K (.ref f)=true/\Binds K fd ps []/\Kg P w K mg base CX0 k f fd ps sp
structure Src(K:W1)(mg:Str->qz rD)(x:Str)(st:sP):Prop where
 ex:∃f fd,Fun K x x st f fd/\mg x=Gc (.ref f)
def lE{X:Cx}{k:Nat}{x:Str}{ps:Wp Str}{p pos:Pos}(d:Dfn X.prog X.w X.K X.mg X.base x k ps sp)(hr:Ct k X.A)(hg:Gl X x)(ha:PA X (e::es) t)(hdb:x0 ((x==("__debug__":Str))=false) xL)(he:x0 (rG (e::es) X.env=(false,eval e X.env)::rG es X.env) wv)(hpl:x0 ((backTo pos (rG es X.env)).any (·.1)=false) wv):PE X (.Call (.Name x p) (e::es) [] pos) (aH sp [] E0 t):=by
 obtain⟨f,fd,a,b,c,F⟩:=d.ex
 exact Zb F hr hg a b c .nil Vg ha hdb he hpl
def Zi(h:n<2^8000):n.log2<9000:=by
 by_cases h0:n=0
 .subst h0;decide
 .exact vh ((Nat.log2_lt h0).mpr h) (by decide)
def Xc:OpR X (binaryOp .FloorDiv) (rI (λ_ j=>0<j/\j.natAbs<2^8000) λi j=>.int (i / j)):=opI λi j _ _ _ _ _ hc q=>by
 have h1:(0:Int)<j:=hc.1
 exact floordiv_int (by lia) (by rw[Int.fdiv_eq_ediv_of_nonneg i (by lia)];exact q) (.inl (PyProof.noPylong_of_log2 (Zi hc.2)))
theorem Me(hh:A.handled=none)(hne:a≠it){vs:Wp rD}:Walks prog w A it [it,a] [it] vs.length (λi v=>vs[i]?=Gc v) (λi h=>h.IsListIter it a i/\h.IsList a vs.toArray) where
 sub:=λb hb=>by simp at hb;simp[hb]
 frame:=λi h h' st k=>⟨st.1.at λo e=>k it (by simp) o e,by
  obtain⟨o,ho,r⟩:=st.2
  exact⟨o,k a (by simp) o ho,r⟩⟩
 item:=λi s Q E hi st hQ=>by
  refine wq st.1 st.2 (x:=vs[i]) (by simp[hi]) λh' st' sb=>?_
  refine hQ _ h' s.toks (by simp[hi]) ⟨st',?_⟩ λb o hb e=>(sb.2 b (by simpa using hb)).trans e
  obtain⟨o,ho,r⟩:=st.2
  exact⟨o,(sb.2 a hne).trans ho,r⟩
 done:=λs Q E st hQ=>xJ hh st.1 st.2 (by simp) λh' eb=>hQ h' s.toks λb o hb e=>eb b o (by simpa using hb) e
 self:=λi s Q E st hQ=>zG st.1 hQ
def T6(hc:X.calm=true):EG X (.builtin "all") (λxs H Q=>∃(p:rL) (bs:Wp su),xs=[.ref p]/\SqL X.K H p (bs.map V.bl)/\Q (.bl (bs.all id)) H):=by
 intro pins s σ H xs us Q I r h
 obtain⟨p,bs,rfl,hp,q⟩:=h
 obtain⟨u,rfl,ru⟩:=r.one
 cases (show u=sA p from ru)
 obtain⟨its,rv,pl,hz⟩:=I.list hp
 have hd:X.A.in1.handled=none:=I.ok.hd hc
 refine call_all_walk (uU pl.isList ?_)
 have hlen:bs.length=its.length:=by have:=rv.length;simpa using this
 have hpl:=pl.isList
 have hne:p≠s.heap.objs.size:=by
  obtain⟨o,ho,_⟩:=hpl
  exact sM (rR ho)
 refine⟨s.heap.objs.size,_,_,its.length,_,_,λi=>bs.getD i true,rfl,Me (vs:=its) hd hne,⟨⟨_,rW _ rfl,rfl,rfl⟩,?_⟩,?_,?_⟩
 .obtain⟨o,ho,r⟩:=hpl
  exact⟨o,qt _ ho,r⟩
 .intro i v s' Q' E' hv hq
  have hi:i<its.length:=(rB.mp hv).1
  have hb:(bs.map V.bl)[i]?=Gc (.bl (bs.getD i true)):=by
   rw[rY,rE (by lia)]
   simp[rX,rE (show i<bs.length by lia)]
  obtain⟨u,hu,ru⟩:=rv.get hb
  rw[hv]at hu
  cases hu
  cases (show v=xu _ from ru)
  exact uo hq
 .intro h' tk hk
  have e:(tm its.length).all (λi=>bs.getD i true)=bs.all id:=by
   rw[<-hlen]
   clear q hp rv hlen
   have:∀(l:Wp su),(tm l.length).all (λi=>l.getD i true)=l.all id:=by
    intro l
    induction l with
    |nil=>rfl
    |cons b l ih=>
     rw[sS,List.range_succ_eq_map,wO,List.all_map,wO,<-ih]
     rfl
   exact this bs
  rw[e]
  exact⟨.bl _,H,I.kept (t':=tk) λb o eb=>hk b o (by simp;exact sM (rR eb)) (qt _ eb),rfl,q⟩
def W4{ns:Wp Int}(h:j<ns.length):(ns.take (j+1)).sum=(ns.take j).sum+ns.getD j 0:=by
 have e:ns.getD j 0=ns[j]:=by simp[rX,rE h]
 rw[List.take_succ,rE h,List.sum_append,e]
 show _+(ns[j]+0)=_
 lia
theorem LK{ns:Wp Int}:∀{j},j<=ns.length->preSum (λi=>ns.getD i 0) j=(ns.take j).sum
 |0,_=>by simp[preSum]
 |j+1,h=>by
  rw[preSum,LK (by lia),W4 (by lia)]
def Vb{ns:Wp Int}(h:∀n∈ns,0<=n/\n<=1000000):0<=ns.sum/\ns.sum<=1000000*ns.length:=by
 induction ns with
 |nil=>simp
 |cons a l ih=>
  have h1:=h a (by simp)
  have h2:=ih λn hn=>h n (by simp[hn])
  rw[sJ,sS]
  have:((l.length+1:Nat):Int)=(l.length:Int)+1:=by lia
  lia
def KG{lo hi:qz Int}(ht:IsTup s.heap t items)(hs:s.heap.IsSliceOf sl vl vu .none)(pl:yn vl lo)(pu:yn vu hi)(hw:HT.sIx items.size 0 lo=0/\HT.sIx items.size items.size hi=items.size)(h:Q (.ref t) s):wpAny (model prog w) A (getItem (.ref t) (.ref sl)) Q E s:=by
 obtain⟨os,hos,hcs,hds⟩:=id hs
 have hTs:s.TypeIs (.ref sl) "slice":=⟨os,hos,hcs⟩
 unfold getItem
 try with_reducible refine ug ?_
 first|refine qu (rS ?_)|skip
 refine qu (wpAny_sequenceKey ht.typeIs (by decide) ?_)
 refine qu (uR (name:=sI "__getitem__") ht.typeIs sv
  (uZ sv ht.typeIs zw ?_ (AAE _ _)))
 show wpAny _ _ (yC (.ref t) >>= _) _ _ s
 refine qu (tupleItemsOf_ ht ?_)
 refine qu (wpAny_typeOf hTs ?_)
 rw[sD (by decide)]
 refine qu (HT.HE hs pl pu ?_)
 show wpAny _ _ (if(((HT.sIx items.size 0 lo:Nat):Int)==0 && (1:Int)==1 && (HT.sIx items.size items.size hi-HT.sIx items.size 0 lo)==items.size)=true then _ else _) _ _ s
 rw[sD (by rw[hw.1,hw.2];simp)]
 unfold Builtin.Tuple.tupleIsExact
 refine qu (qu (wpAny_typeOf ht.typeIs (rS ?_)))
 rw[sD (by decide)]
 exact qu (ym (rS ⟨_,rfl,rS h⟩))
def qK(K:W1):V->qz Int->qz Int->Hp->VK->Prop:=λx lo hi H Q=>∃a xs,x=.ref a/\SqT K H a xs/\HT.sIx xs.length 0 lo=0/\HT.sIx xs.length xs.length hi=xs.length/\Q x H
def dH:SlR X (qK X.K):=by
 intro pins s σ H x v vl vu lo hi sl Q I rx hs pl pu h
 obtain⟨a,xs,rfl,hx,h1,h2,q⟩:=h
 cases rx
 obtain⟨its,r,ht,hz⟩:=I.tuple hx
 have hlen:its.toArray.size=xs.length:=by rw[rK];exact r.length.symm
 refine⟨"tuple",_,sv.lookup,ht.typeIs,?_⟩
 exact KG ht hs pl pu (by rw[hlen];exact⟨h1,h2⟩) ⟨.ref a,H,I,rfl,q⟩
noncomputable def lg(K:W1):R2:=λx y H Q=>∃a b ys,x=.ref a/\y=.ref b/\SqT K H a []/\SqT K H b ys/\Q (.ref b) H
def aX:OpR X (binaryOp .Add) (lg X.K):=by
 intro pins s σ H x y v u Q I rx ry h
 obtain⟨a,b,ys,rfl,rfl,ha,hb,q⟩:=h
 cases rx
 cases ry
 obtain⟨its,r1,p1,_⟩:=I.tuple ha
 obtain⟨its2,r2,p2,_⟩:=I.tuple hb
 have e0:its=[]:=r1.OD.mpr rfl
 subst e0
 obtain⟨⟨cls,dd,data,sl⟩,ho,hc,n,hd⟩:=id p1
 obtain⟨⟨cls2,dd2,data2,sl2⟩,ho2,hc2,n2,hd2⟩:=id p2
 simp only at hc hd hc2 hd2
 subst hc hd hc2 hd2
 exact concat_meets ⟨_,ho,rfl⟩ ⟨_,ho2,rfl⟩ ye z8 wx wg (wM _ _)
  (tuple_addW0 a b #[] its2.toArray n n2 dd dd2 sl sl2 rfl) ⟨ho,ho2,⟨.ref b,H,I,rfl,q⟩⟩
end St
end
noncomputable section
namespace Mi
open PySem PySem.Spec L2
inductive D where
 |non|bl (b:su)|int (i:Int)|str (x:Str)|ty (n:vJ)|tup (ds:Wp D)|lst (ds:Wp D)|dct (kvs:Wp (Key×D))|scr (ns:Wp Int)|ref (n:Nat)
inductive Wv where
 |val (d:D)|own (ds:Wp D)
inductive Cl where
 |lst (ds:Wp D)|dct (kvs:Wp (Key×D))|tab (x:Str)|ins (C:Str) (fs:Wp (Str×D))
abbrev Sto:=Wp Cl
structure Ms where
 cel:Wp rL
 tmp:Wp rL
def Ms.mem(M:Ms)(a:rL):Prop:=a∈M.cel\/a∈M.tmp
noncomputable def Ms.no:Ms:=⟨[],[]⟩
def KL(K:W1)(a:rL)(xs:Wp V):Prop:=∃(o:Obj) (its:xI rD) (n:Nat),K.lookup a=Gc o/\o.cls=.type "list" /\o.dict=none/\o.data=.seq its n/\its.size<=sizeLine/\Vals xs its.toList
mutual
inductive Be(K:W1)(M:Ms)(H:Hp):V->D->Prop
 |non:Be K M H .non .non
 |bl (b:su):Be K M H (.bl b) (.bl b)
 |int (i:Int):Be K M H (.int i) (.int i)
 |str (x:Str):Be K M H (.str x) (.str x)
 |ty (n:vJ):Be K M H (.ty n) (.ty n)
 |tup {a:rL} {xs:Wp V} {ds:Wp D} (h:SqT K H a xs) (r:Ab K M H xs ds):Be K M H (.ref a) (.tup ds)
 |lst {a:rL} {xs:Wp V} {ds:Wp D} (h:H a=Gc (.lst xs)) (n:¬M.mem a) (r:Ab K M H xs ds):Be K M H (.ref a) (.lst ds)
 |scr {a:rL} {ns:Wp Int} (h:(Rd H a (.lst (ns.map V.int))/\¬M.mem a)\/KL K a (ns.map V.int)):Be K M H (.ref a) (.scr ns)
 |dct {a:rL} {kvs:Wp (Key×V)} {es:Wp (Key×D)} (h:H a=Gc (.dK kvs)) (n:¬M.mem a) (r:Ku K M H kvs es):Be K M H (.ref a) (.dct es)
 |ref {a:rL} {n:Nat} (h:M.cel[n]?=Gc a):Be K M H (.ref a) (.ref n)
inductive Ab(K:W1)(M:Ms)(H:Hp):Wp V->Wp D->Prop
 |nil:Ab K M H [] []
 |cons {v:V} {d:D} {vs:Wp V} {ds:Wp D} (h:Be K M H v d) (t:Ab K M H vs ds):Ab K M H (v::vs) (d::ds)
inductive Ku(K:W1)(M:Ms)(H:Hp):Wp (Key×V)->Wp (Key×D)->Prop
 |nil:Ku K M H [] []
 |cons {k:Key} {v:V} {d:D} {vs:Wp (Key×V)} {ds:Wp (Key×D)} (h:Be K M H v d) (t:Ku K M H vs ds):Ku K M H ((k,v)::vs) ((k,d)::ds)
end
def Mob:HO->Prop
 | .lst _=>xy
 | .dK _=>xy
 | .tbl _=>xy
 | .ins _ _ _=>xy
 |_=>uO
def MOk(M:Ms)(H:Hp):Prop:=∀a,M.mem a->∃o,H a=Gc o/\Mob o
structure Sp1(M:Ms)(H:Hp)(M':Ms)(H':Hp):Prop where
 mo:MOk M H
 pre:M.cel <+: M'.cel
 fresh:∀a,M'.mem a->M.mem a\/H a=none
 keep:∀a o,H a=Gc o->¬M.mem a->H' a=Gc o
structure Gr(M:Ms)(H:Hp)(M':Ms)(H':Hp):Prop where
 mo:MOk M H
 pre:M.cel <+: M'.cel
 tmp:M'.tmp=M.tmp
 fresh:∀a,a∈M'.cel->a∈M.cel\/H a=none
 keep:∀a o,H a=Gc o->a∉M.cel->H' a=Gc o
 some:∀a,H a≠none->H' a≠none
section
variable{M M' M2:Ms}{H H' H2:Hp}
def MOk.some(mo:MOk M H)(h:M.mem a):H a≠none:=λz=>by
 obtain⟨o,e,_⟩:=mo a h
 rw[e]at z;cases z
def MOk.at(mo:MOk M H)(k:∀b o,H b=Gc o->H' b=Gc o)(h:M.mem a):∃o,H' a=Gc o/\Mob o:=(mo a h).imp λo z=>⟨k a o z.1,z.2⟩
def Gr.st(g:Gr M H M' H'):Sp1 M H M' H':=⟨g.mo,g.pre,λa z=>z.elim (λz=>(g.fresh a z).imp .inl id) λz=>.inl (.inr (by rw[<-g.tmp];exact z)),λa o e n=>g.keep a o e λz=>n (.inl z)⟩
def Gr.refl(mo:MOk M H):Gr M H M H:=⟨mo,uC,rfl,λ_ z=>.inl z,λ_ _ e _=>e,λ_ e=>e⟩
def Gr.none(g:Gr M H M' H')(h:H' a=none):H a=none:=by
 cases e:H a with
 |none=>rfl
 |some o=>exact absurd h (g.some a (by rw[e];intro z;cases z))
def Gr.trans(h:Gr M H M' H')(g:Gr M' H' M2 H2):Gr M H M2 H2:=
 ⟨h.mo,h.pre.trans g.pre,g.tmp.trans h.tmp,λa z=>(g.fresh a z).elim (h.fresh a) λz=>.inr (h.none z),λa o e n=>g.keep a o (h.keep a o e n) (λz=>by
   rcases h.fresh a z with z|z
   .exact n z
   .rw[e]at z;cases z),λa e=>g.some a (h.some a e)⟩
def Gr.grow(mo:MOk M H)(k:∀a o,H a=Gc o->H' a=Gc o):Gr M H M H':=
 ⟨mo,uC,rfl,λ_ z=>.inl z,λb u eb _=>k b u eb,λb eb z=>by
   cases h:H b with
   |none=>exact eb h
   |some o=>rw[k b o h]at z;cases z⟩
def Ll{α:Type}{xs ys:Wp α}(h:xs <+: ys){n:Nat}{a:α}(e:xs[n]?=Gc a):ys[n]?=Gc a:=by
 obtain⟨zs,rfl⟩:=h
 rw[qv (rB.mp e).1]
 exact e
def Sp1.VV(g:Sp1 M H M' H')(e:H a=Gc o)(n:¬Mob o):H' a=Gc o:=g.keep a o e λz=>by
 obtain⟨u,q,m⟩:=g.mo a z
 rw[e]at q;cases q;exact n m
def Sp1.sqT(g:Sp1 M H M' H')(h:SqT K H a xs):SqT K H' a xs:=by
 rcases h with h|h
 .rcases h with h|⟨o,h⟩
  .exact .inl (.inl (g.VV h id))
  .exact .inl (.inr ⟨o,g.VV h id⟩)
 .exact .inr h
def Sp1.nm(g:Sp1 M H M' H')(e:H a=Gc o)(n:¬M.mem a):¬M'.mem a:=λz=>by
 rcases g.fresh _ z with z|z
 .exact n z
 .rw[z]at e;cases e
def Be.step(g:Sp1 M H M' H')(h:Be K M H v d):Be K M' H' v d:=
 Be.rec (motive_1:=λv d _=>Be K M' H' v d) (motive_2:=λv d _=>Ab K M' H' v d) (motive_3:=λv d _=>Ku K M' H' v d) .non .bl .int .str .ty (λh _ r=>.tup (g.sqT h) r) (λh n _ r=>.lst (g.keep _ _ h n) (g.nm h n) r) (λh=>by
  rcases h with⟨h,n⟩|h
  .rcases h with h|⟨o,h⟩
   .exact .scr (.inl ⟨.inl (g.keep _ _ h n),g.nm h n⟩)
   .exact .scr (.inl ⟨.inr ⟨o,g.keep _ _ h n⟩,g.nm h n⟩)
  .exact .scr (.inr h)) (λh n _ r=>.dct (g.keep _ _ h n) (g.nm h n) r) (λh=>.ref (Ll g.pre h)) .nil (λ_ _ h t=>.cons h t) .nil (λ_ _ h t=>.cons h t) h
def Ab.ind{P:Wp V->Wp D->Prop}(n:P [] [])(c:∀{v} {d} {vs} {ds},Be K M H v d->P vs ds->P (v::vs) (d::ds))(h:Ab K M H vs ds):P vs ds:=
 Ab.rec (motive_1:=λ_ _ _=>xy) (motive_2:=λv d _=>P v d) (motive_3:=λ_ _ _=>xy) trivial (λ_=>trivial) (λ_=>trivial) (λ_=>trivial) (λ_=>trivial) (λ_ _ _=>trivial) (λ_ _ _ _=>trivial) (λ_=>trivial) (λ_ _ _ _=>trivial) (λ_=>trivial) n (λh _ _ t=>c h t) trivial (λ_ _ _ _=>trivial) h
def Ku.ind{P:Wp (Key×V)->Wp (Key×D)->Prop}(n:P [] [])(c:∀{k} {v} {d} {vs} {ds},Be K M H v d->P vs ds->P ((k,v)::vs) ((k,d)::ds))(h:Ku K M H vs ds):P vs ds:=
 Ku.rec (motive_1:=λ_ _ _=>xy) (motive_2:=λ_ _ _=>xy) (motive_3:=λv d _=>P v d) trivial (λ_=>trivial) (λ_=>trivial) (λ_=>trivial) (λ_=>trivial) (λ_ _ _=>trivial) (λ_ _ _ _=>trivial) (λ_=>trivial) (λ_ _ _ _=>trivial) (λ_=>trivial) trivial (λ_ _ _ _=>trivial) n (λh _ _ t=>c h t) h
def Ab.step(g:Sp1 M H M' H')(h:Ab K M H v d):Ab K M' H' v d:=h.ind .nil λh t=>.cons (h.step g) t
def Ku.step(g:Sp1 M H M' H')(h:Ku K M H v d):Ku K M' H' v d:=h.ind .nil λh t=>.cons (h.step g) t
def Ab.length(h:Ab K M H v d):v.length=d.length:=h.ind (P:=λv d=>v.length=d.length) rfl λ_ t=>congrArg (· +1) t
def Ab.get{i:Nat}(h:Ab K M H v d):d[i]?=Gc y->∃x,v[i]?=Gc x/\Be K M H x y:=
 h.ind (P:=λv d=>∀i,d[i]?=Gc y->∃x,v[i]?=Gc x/\Be K M H x y) (λi e=>by simp at e) (λh t i e=>by
  cases i with
  |zero=>simp at e;subst e;exact⟨_,rfl,h⟩
  |succ i=>exact t i e) i
def Ab.append(h:Ab K M H v d)(s:Ab K M H v' d'):Ab K M H (v++v') (d++d'):=h.ind (P:=λv d=>Ab K M H (v++v') (d++d')) s λh t=>.cons h t
def Ab.take n(h:Ab K M H v d):Ab K M H (v.take n) (d.take n):=h.ind (P:=λv d=>∀n,Ab K M H (v.take n) (d.take n)) (λn=>by rw[List.take_nil,List.take_nil];exact .nil) (λh t n=>by
 cases n with
 |zero=>exact .nil
 |succ n=>exact .cons h (t n)) n
def Ab.drop n(h:Ab K M H v d):Ab K M H (v.drop n) (d.drop n):=h.ind (P:=λv d=>∀n,Ab K M H (v.drop n) (d.drop n)) (λn=>by rw[List.drop_nil,List.drop_nil];exact .nil) (λh t n=>by
 cases n with
 |zero=>exact .cons h (t 0)
 |succ n=>exact t n) n
theorem Ab.set(r:Be K M H x y):∀{v} {d} i,Ab K M H v d->Ab K M H (v.set i x) (d.set i y)
 |_,_,_,.nil=>.nil
 |_,_,0,.cons _ t=>.cons r t
 |_,_,i+1,.cons q t=>.cons q (Ab.set r i t)
end
abbrev En:=Wp (qz D)
abbrev Sg:=Wp (qz V)
structure EnR(K:W1)(M:Ms)(E:En)(σ:Sg)(H:Hp):Prop where
 len:E.length=σ.length
 val:∀(i:Nat) (d:D),E[i]?=Gc (Gc d)->∃v,σ[i]?=Gc (Gc v)/\Be K M H v d
noncomputable def Li(x:Str):Str:=(x++(".<locals>.":Str))++("<lambda>":Str)
def KC(K:W1)(c P:rL):Prop:=
 ∃o vs file tf flags tg inF text tt,K.lookup c=Gc o/\o.cls=xv "code" /\o.data=Data.fields vs/\vs[11]?=Gc (sA P)/\vs.getD 11 sL=sA P/\vs.getD 18 sL=xt file tf/\vs.getD 7 sL=xr flags tg/\vs.getD 9 sL=xu inF/\vs.getD 10 sL=xr text tt/\c≠P
def TabAt(K:W1)(x:Str)(P:rL):Prop:=
 ∃f oc od fd osl c,sN K mainGlobals x=Gc (Gc (sA f))/\K.lookup f=Gc ⟨oc,od,Data.func fd,osl⟩/\fd.code=sA c/\KC K c P
def UN(q:Str)(o:Obj):Prop:=∃vs t,o.data=Data.fields vs/\vs[1]?=Gc (xt q t)
structure SG(K:W1)(H:Hp)(x:Str)(P:rL)(ps:xI rD):Prop where
 tri:PySem.TriplesOk ps.toList
 tat:TabAt K x P
 cod:∀pos cv,PySem.codeAmong pos ps.toList=Gc cv->∃c o,cv=sA c/\H c=Gc (.frz o (.own 0))/\UN (Li x) o
def SG.step(t:SG K H x P ps)(g:Sp1 M H M' H'):SG K H' x P ps:=⟨t.tri,t.tat,λpos cv e=>by
 obtain⟨c,o,h1,h2,h3⟩:=t.cod pos cv e
 exact⟨c,o,h1,g.VV h2 id,h3⟩⟩
def SR(K:W1)(M:Ms)(H:Hp)(a:rL):Cl->Prop
 | .lst ds=>∃xs,H a=Gc (.lst xs)/\Ab K M H xs ds
 | .dct es=>∃kvs,H a=Gc (.dK kvs)/\Ku K M H kvs es
 | .tab x=>∃ps,H a=Gc (.tbl ps)/\SG K H x a ps
 | .ins C fs=>∃Ca dx fv,sN K mainGlobals C=Gc (Gc (.ref Ca))/\H a=Gc (.ins Ca dx fv)/\H dx=Gc (.own a)/\fv.map (·.1)=fs.map (·.1)/\Ab K M H (fv.map (·.2)) (fs.map (·.2))
structure StR(K:W1)(M:Ms)(S:Sto)(H:Hp):Prop where
 mo:MOk M H
 nd:M.cel.Nodup
 nt:∀a∈M.tmp,a∉M.cel
 len:M.cel.length=S.length
 cell:∀(n:Nat) (a:rL) (c:Cl),M.cel[n]?=Gc a->S[n]?=Gc c->SR K M H a c
def SR.step(q:SR K M H a c)(g:Sp1 M H M' H')(k:∀o,H a=Gc o->H' a=Gc o):SR K M' H' a c:=by
 cases c with
 |lst ds=>obtain⟨xs,e,rr⟩:=q;exact⟨xs,k _ e,rr.step g⟩
 |dct ds=>obtain⟨xs,e,rr⟩:=q;exact⟨xs,k _ e,rr.step g⟩
 |tab ds=>obtain⟨xs,e,rr⟩:=q;exact⟨xs,k _ e,rr.step g⟩
 |ins C fs=>obtain⟨Ca,dx,fv,h,e,eo,n,rr⟩:=q;exact⟨Ca,dx,fv,h,k _ e,g.VV eo id,n,rr.step g⟩
def EnR.step(r:EnR K M E σ H)(g:Sp1 M H M' H'):EnR K M' E σ H':=⟨r.len,λi d e=>by
 obtain⟨v,h1,h2⟩:=r.val i d e
 exact⟨v,h1,h2.step g⟩⟩
def StR.at(r:StR K M S H){n:Nat}(e:S[n]?=Gc c):∃a,M.cel[n]?=Gc a/\SR K M H a c:=by
 have hn:n<M.cel.length:=by rw[r.len];exact(rB.mp e).1
 exact⟨_,rE hn,r.cell n _ c (rE hn) e⟩
def StR.grow(r:StR K M S H)(k:∀a o,H a=Gc o->H' a=Gc o):StR K M S H':=by
 have g:Sp1 M H M H':=⟨r.mo,uC,λ_ z=>.inl z,λa o e _=>k a o e⟩
 refine⟨λa z=>r.mo.at k z,r.nd,r.nt,r.len,λn a c h1 h2=>?_⟩
 exact(r.cell n a c h1 h2).step g λo e=>k _ _ e
def StR.chg(r:StR K M S H)(h1:M.cel[n]?=Gc a)(h2:S[n]?=Gc (.lst ds))(hy:Ab K M H ys es):StR K M (S.set n (.lst es)) (upd H a (.lst ys))/\Gr M H M (upd H a (.lst ys)):=by
 have ha:a∈M.cel:=rV h1
 have hl:n<S.length:=(rB.mp h2).1
 have g:Gr M H M (upd H a (.lst ys)):=⟨r.mo,uC,rfl,λ_ z=>.inl z,λb o eb nb=>by rw[Ae (λz=>nb (by rw[z];exact ha))];exact eb,λb eb=>by
  by_cases h:b=a
  .subst h;rw[Ax];intro z;cases z
  .rw[Ae h];exact eb⟩
 refine⟨⟨λb z=>?_,r.nd,r.nt,by rw[uK];exact r.len,λm b c e1 e2=>?_⟩,g⟩
 .by_cases h:b=a
  .subst h;exact⟨_,Ax,trivial⟩
  .rw[Ae h];exact r.mo b z
 .by_cases h:n=m
  .subst h
   rw[h1]at e1;cases e1
   rw[rF hl]at e2;cases e2
   exact⟨ys,Ax,hy.step g.st⟩
  .rw[rA h]at e2
   have hb:b≠a:=λz=>by
    subst z
    exact h ((vq (rB.mp h1).1 r.nd).mp (h1.trans e1.symm))
   exact(r.cell m b c e1 e2).step g.st λo e=>by rw[Ae hb];exact e
def StR.Zc(r:StR K M S H)(e:H a=none)(k:∀b o,H b=Gc o->H' b=Gc o)(ea:H' a=Gc (.lst xs))(rr:Ab K M H xs ds):StR K ⟨M.cel++[a],M.tmp⟩ (S++[.lst ds]) H'/\Gr M H ⟨M.cel++[a],M.tmp⟩ H':=by
 have g:Gr M H ⟨M.cel++[a],M.tmp⟩ H':=⟨r.mo,wc _ _,rfl,λb z=>by
  rcases rf.mp z with z|z
  .exact .inl z
  .simp at z;subst z;exact .inr e,λb o eb _=>k b o eb,λb eb z=>by
  cases h:H b with
  |none=>exact eb h
  |some o=>rw[k b o h]at z;cases z⟩
 have na:¬M.mem a:=λz=>r.mo.some z e
 refine⟨⟨λb z=>?_,?_,λb hb z=>?_,by simp[r.len],λm b c e1 e2=>?_⟩,g⟩
 .have z':M.mem b\/b=a:=by
   rcases z with z|z
   .rcases rf.mp z with z|z
    .exact .inl (.inl z)
    .simp at z;exact .inr z
   .exact .inl (.inr z)
  rcases z' with z|z
  .exact r.mo.at k z
  .subst z;exact⟨_,ea,trivial⟩
 .rw[uA]
  refine⟨r.nd,by simp,λx hx y hy=>?_⟩
  simp at hy;subst hy
  exact λz=>na (.inl (by rw[<-z];exact hx))
 .rcases rf.mp z with z|z
  .exact r.nt b hb z
  .simp at z;subst z;exact na (.inr hb)
 .by_cases h:m<S.length
  .rw[qv (by rw[r.len];exact h)]at e1
   rw[qv h]at e2
   exact(r.cell m b c e1 e2).step g.st λo e=>k _ _ e
  .have hm:m=S.length:=by
    have:=(rB.mp e2).1
    simp at this;lia
   subst hm
   rw[sR (by rw[r.len];exact q9 _)]at e1
   rw[sR (q9 _)]at e2
   rw[r.len]at e1
   simp at e1 e2
   subst e1 e2
   exact⟨xs,ea,rr.step g.st⟩
noncomputable def oW:qz yc->su
 |some .local=>true
 |some .cell=>true
 |some .free=>true
 |_=>false
noncomputable def kQ(sc:uf)(x:Str):su:=oW (sc.names.lookup x)
def eX(h:kQ sc x=true):Vis sc x:=by
 unfold kQ at h
 unfold Vis
 cases e:sc.names.lookup x with
 |none=>rw[e]at h;cases h
 |some k=>
  rw[e]at h
  cases k<;>first|(cases h;done)|simp
abbrev Ev:=En->Sto->qz (D×Sto)
inductive tD(K:W1)(f:Ev)(σ:Sg)(H:Hp)(Q:VK):Prop
 |mk (M:Ms) (E:En) (S:Sto) (d:D) (S':Sto) (e:f E S=Gc (d,S')) (r:EnR K M E σ H) (st:StR K M S H) (q:∀v H' M',Gr M H M' H'->StR K M' S' H'->Be K M' H' v d->Q v H')
structure DE(X:Cx)(e:tF)(f:Ev):Prop where
 pe:PE X e (tD X.K f)
def BI(h:PE X e t)(m:∀σ H Q,t' σ H Q->t σ H Q):PE X e t':=λpins s σ H Q I q=>h pins s σ H Q I (m _ _ _ q)
def Th(h:PT X e t)(m:∀σ H Q,t' σ H Q->t σ H Q):PT X e t':=λpins s σ H Q I q=>h pins s σ H Q I (m _ _ _ q)
def E8(h:tD K f σ H Q)(m:∀v H',Q v H'->Q' v H'):tD K f σ H Q':=by
 obtain⟨M,E,S,d,S',e,r,st,q⟩:=h
 exact⟨M,E,S,d,S',e,r,st,λv H' M' g s r=>m _ _ (q v H' M' g s r)⟩
def Af{α β:Type}{o:qz α}{k:α->qz β}{y:β}(e:o.bind k=Gc y):∃x,o=Gc x/\k x=Gc y:=by
 cases o with
 |none=>cases e
 |some x=>exact⟨x,rfl,e⟩
def IC{α β:Type}{o:qz α}{k:α->β}{y:β}(e:o.map k=Gc y):∃x,o=Gc x/\k x=y:=by
 cases o with
 |none=>cases e
 |some x=>cases e;exact⟨x,rfl,rfl⟩
noncomputable def fz:Wv->D
 | .val d=>d
 | .own ds=>.lst ds
noncomputable def at?(E:En)(i:Nat):qz D:=(E[i]?).join
def at?_some(h:at? E i=Gc w):E[i]?=Gc (Gc w):=by
 unfold at? at h
 cases e:E[i]? with
 |none=>rw[e]at h;cases h
 |some q=>rw[e]at h;exact congrArg Gc h
noncomputable def evs:Wp Ev->En->Sto->qz (Wp D×Sto)
 | [],_,S=>Gc ([],S)
 |f::fs,E,S=>(f E S).bind λr=>(evs fs E r.2).map λq=>(r.1::q.1,q.2)
noncomputable def tDs(K:W1):Wp Ev->TA
 | []=>mM
 |f::fs=>dQ (tD K f) (tDs K fs)
structure DEs(X:Cx)(es:Wp tF)(fs:Wp Ev):Prop where
 pe:PA X es (tDs X.K fs)
def AI:DEs X [] []:=⟨Vd⟩
def AE(h:DE X e f)(t:DEs X es fs)(hs:x0 (rG (e::es) X.env=(false,eval e X.env)::rG es X.env) wv):DEs X (e::es) (f::fs):=⟨NY h.pe t.pe hs⟩
section
variable{K:W1}{M M':Ms}{E:En}{S:Sto}{σ:Sg}{H H':Hp}
theorem FN:∀{fs} {M} {S} {ds} {S'} {H} {Q},evs fs E S=Gc (ds,S')->EnR K M E σ H->StR K M S H->(∀vs H' M',Gr M H M' H'->StR K M' S' H'->Ab K M' H' vs ds->Q vs H')->tDs K fs σ H Q
 | [],M,S,ds,S',H,Q,e,r,st,q=>by
   cases e
   exact q [] H M (.refl st.mo) st .nil
 |f::fs,M,S,ds,S',H,Q,e,r,st,q=>by
  obtain⟨⟨d,S1⟩,e1,e⟩:=Af e
  obtain⟨⟨es,S2⟩,e2,e⟩:=IC e
  cases e
  refine⟨M,E,S,d,S1,e1,r,st,λv H1 M1 g1 st1 d1=>?_⟩
  exact FN e2 (r.step g1.st) st1 λvs H2 M2 g2 st2 d2=>q _ _ M2 (g1.trans g2) st2 (.cons (d1.step g2.st) d2)
theorem HX:∀{fs} {S} {ds} {S'},evs fs E S=Gc (ds,S')->ds.length=fs.length
 | [],_,_,_,e=>by cases e;rfl
 |f::fs,S,ds,S',e=>by
  obtain⟨⟨d,S1⟩,e1,e⟩:=Af e
  obtain⟨⟨es,S2⟩,e2,e⟩:=IC e
  cases e
  simp[HX e2]
def Sh(K:W1)(M:Ms)(H:Hp)(v:V):Wv->Prop
 | .val d=>Be K M H v d
 | .own ds=>∃a xs,v=.ref a/\H a=Gc (.lst xs)/\Ab K M H xs ds
def ivP(K:W1)(M:Ms)(H:Hp)(v:V):D->Prop
 | .non=>v=.non
 | .bl b=>v=.bl b
 | .int i=>v=.int i
 | .str x=>v=.str x
 | .ty n=>v=.ty n
 | .tup ds=>∃a xs,v=.ref a/\SqT K H a xs/\Ab K M H xs ds
 |_=>xy
def Be.iv(h:Be K M H v d):ivP K M H v d:=by
 cases h with
 |tup h r=>exact⟨_,_,rfl,h,r⟩
 |non=>rfl
 |bl=>rfl
 |int=>rfl
 |str=>rfl
 |ty=>rfl
 |_=>trivial
inductive Shs(K:W1)(M:Ms)(H:Hp):Wp V->Wp Wv->Prop
 |nil:Shs K M H [] []
 |cons {v:V} {w:Wv} {vs:Wp V} {ws:Wp Wv} (h:Sh K M H v w) (t:Shs K M H vs ws):Shs K M H (v::vs) (w::ws)
noncomputable def dr(S:Sto):D->Wv
 | .ref n=>match S[n]? with
   |some (.lst ds)=>.own ds
   |_=>.val (.ref n)
 |d=>.val d
def br(st:StR K M S H)(h:Be K M H v d):Sh K M H v (dr S d):=by
 cases h with
 |ref h=>
  rename_i a n
  show Sh K M H (.ref a) (match S[n]? with|some (.lst ds)=>.own ds|_=>.val (.ref n))
  split
  .rename_i ds e
   obtain⟨xs,h1,h2⟩:=st.cell n a _ h e
   exact⟨a,xs,rfl,h1,h2⟩
  .exact .ref h
 |non=>exact .non
 |bl b=>exact .bl b
 |int b=>exact .int b
 |str b=>exact .str b
 |ty b=>exact .ty b
 |tup h r=>exact .tup h r
 |lst h n r=>exact .lst h n r
 |scr h=>exact .scr h
 |dct h n r=>exact .dct h n r
theorem ZJ(st:StR K M S H):∀{vs} {ds},Ab K M H vs ds->Shs K M H vs (ds.map (dr S))
 |_,_,.nil=>.nil
 |_,_,.cons h t=>.cons (br st h) (ZJ st t)
def NwR(K:W1)(M:Ms)(H H':Hp)(v:V):Wv->Prop
 | .val d=>Be K M H' v d
 | .own ds=>∃a xs,v=.ref a/\H a=none/\H' a=Gc (.lst xs)/\Ab K M H xs ds
structure Nw(K:W1)(M:Ms)(H H':Hp)(v:V)(w:Wv):Prop where
 grow:∀a o,H a=Gc o->H' a=Gc o
 rel:NwR K M H H' v w
def Nw.same(mo:MOk M H)(h:Be K M H v d):Nw K M H H v (.val d):=⟨λ_ _ e=>e,h⟩
def Hz(e:H a=none):∀b u,H b=Gc u->upd H a o b=Gc u:=λb u eb=>by rw[Ae (λz=>by subst z;rw[e]at eb;cases eb)];exact eb
def Nw.lst(mo:MOk M H)(e:H a=none)(h:Ab K M H xs ds):Nw K M H (upd H a (.lst xs)) (.ref a) (.own ds):=⟨Hz e,a,xs,rfl,e,Ax,h⟩
def Nw.tup(mo:MOk M H)(e:H a=none)(h:Ab K M H xs ds):Nw K M H (upd H a (.tup xs)) (.ref a) (.val (.tup ds)):=⟨Hz e,.tup (.of Ax) (h.step (Gr.grow mo (Hz e)).st)⟩
noncomputable def fin:su->Wv->Sto->qz (D×Sto)
 |_,.val d,S=>Gc (d,S)
 |false,.own ds,S=>Gc (.lst ds,S)
 |true,.own ds,S=>Gc (.ref S.length,S++[.lst ds])
def Nw.fin(n:Nw K M H H' v w)(st:StR K M S H)(e:fin c w S=Gc (d,S')):∃M',Gr M H M' H'/\StR K M' S' H'/\Be K M' H' v d:=by
 cases w with
 |val d'=>
  cases e
  exact⟨M,.grow st.mo n.grow,st.grow n.grow,n.rel⟩
 |own ds=>
  obtain⟨a,xs,rfl,h1,h2,h3⟩:=n.rel
  cases c with
  |false=>
   cases e
   exact⟨M,.grow st.mo n.grow,st.grow n.grow,.lst h2 (λz=>st.mo.some z h1) (h3.step (Gr.grow st.mo n.grow).st)⟩
  |true=>
   cases e
   obtain⟨s1,g1⟩:=st.Zc h1 n.grow h2 h3
   refine⟨_,g1,s1,.ref ?_⟩
   rw[<-st.len]
   exact rZ
abbrev Op1:=Wv->qz Wv
abbrev Op2:=Wv->Wv->qz Wv
abbrev OpN:=Wp Wv->qz Wv
inductive rOp(K:W1)(op:Op2)(x y:V)(H:Hp)(Q:VK):Prop
 |mk (M:Ms) (w1 w2 r:Wv) (e:op w1 w2=Gc r) (mo:MOk M H) (s1:Sh K M H x w1) (s2:Sh K M H y w2) (q:∀v H',Nw K M H H' v r->Q v H')
inductive rUn(K:W1)(op:Op1)(x:V)(H:Hp)(Q:VK):Prop
 |mk (M:Ms) (w r:Wv) (e:op w=Gc r) (mo:MOk M H) (s:Sh K M H x w) (q:∀v H',Nw K M H H' v r->Q v H')
inductive rN(K:W1)(op:OpN)(xs:Wp V)(H:Hp)(Q:VK):Prop
 |mk (M:Ms) (ws:Wp Wv) (r:Wv) (e:op ws=Gc r) (mo:MOk M H) (s:Shs K M H xs ws) (q:∀v H',Nw K M H H' v r->Q v H')
noncomputable def OP(c:su)(op:OpN)(fs:Wp Ev):Ev:=λE S=>(evs fs E S).bind λr=>(op (r.1.map (dr r.2))).bind λw=>fin c w r.2
abbrev eOp:=OP false
abbrev WC:=OP true
noncomputable def o1(op:Op1):OpN| [a]=>op a|_=>none
noncomputable def o2(op:Op2):OpN| [a,b]=>op a b|_=>none
def Mp(e:OP c op fs E S=Gc (d,S'))(r:EnR K M E σ H)(st:StR K M S H)(h:∀v H' M',Gr M H M' H'->StR K M' S' H'->Be K M' H' v d->Q v H'):tDs K fs σ H λvs H1=>rN K op vs H1 Q:=by
 obtain⟨⟨ds,S1⟩,e1,e⟩:=Af e
 obtain⟨w,e2,e⟩:=Af e
 refine FN e1 r st λvs H1 M1 g1 st1 d1=>⟨M1,_,w,e2,st1.mo,ZJ st1 d1,λv H2 n=>?_⟩
 obtain⟨M2,g2,st2,d2⟩:=n.fin st1 e
 exact h v H2 M2 (g1.trans g2) st2 d2
end
def gE(h:rN K (o2 f) [x,y] H Q):rOp K f x y H Q:=by
 obtain⟨M,ws,r,e,mo,s,q⟩:=h
 cases s with
 |cons h1 s=>
  cases s with
  |cons h2 s=>
   cases s
   exact⟨M,_,_,r,e,mo,h1,h2,q⟩
def d8(h:rN K (o1 f) [x] H Q):rUn K f x H Q:=by
 obtain⟨M,ws,r,e,mo,s,q⟩:=h
 cases s with
 |cons h1 s=>
  cases s
  exact⟨M,_,r,e,mo,h1,q⟩
def RN(h:tD K (OP c (o2 f) [fa,fb]) σ H Q):tOp (rOp K f) (tD K fa) (tD K fb) σ H Q:=by
 obtain⟨M,E,S,d,S',e,r,st,q⟩:=h
 have z:tD K fa σ H λx H1=>tD K fb σ H1 λy H2=>rN K (o2 f) [x,y] H2 Q:=Mp (Q:=Q) e r st q
 exact E8 z λx H1 z1=>E8 z1 λy H2 z2=>gE z2
def TK(h:tD K (OP c (o1 f) [fa]) σ H Q):tUn (rUn K f) (tD K fa) σ H Q:=by
 obtain⟨M,E,S,d,S',e,r,st,q⟩:=h
 have z:tD K fa σ H λx H1=>rN K (o1 f) [x] H1 Q:=Mp (Q:=Q) e r st q
 exact E8 z λx H1 z1=>d8 z1
section
variable{X:Cx}{a b e:tF}{fs:Wp Ev}{pos p:Pos}{c:su}
def Wd(ho:OpR X (binaryOp op) (rOp X.K f))(ha:DE X a fa)(hb:DE X b fb):DE X (.BinOp a op b pos) (OP c (o2 f) [fa,fb]):=⟨BI (kS ho ha.pe hb.pe) λ_ _ _ h=>RN h⟩
def YN(ho:OpR X (compareOp op) (rOp X.K f))(ha:DE X a fa)(hb:DE X b fb)(hm:x0 (behindInMarks op b=false) wv):DE X (.Compare a [op] [b] pos) (OP c (o2 f) [fa,fb]):=⟨BI (ao ho ha.pe hb.pe hm) λ_ _ _ h=>RN h⟩
def UC(ho:UnR X (unaryOp op) (rUn X.K f))(ha:DE X a fa):DE X (.UnaryOp op a pos) (OP c (o1 f) [fa]):=⟨BI (mL ho ha.pe) λ_ _ _ h=>TK h⟩
def Ci(hr:IxR X (rOp X.K f))(ha:DE X a fa)(hb:DE X b fb)(hs:x0 (OI b) wf):DE X (.Subscript a b pos) (OP c (o2 f) [fa,fb]):=⟨BI (b9 hr ha.pe hb.pe hs) λ_ _ _ h=>RN h⟩
def Br{id:vJ}(hc:EG X (.builtin id) (rN X.K f))(hg:Gl X x)(hm:X.mg x=none)(hv:bootBuiltins x=Gc (.builtin id))(ha:DEs X (e::es) fs)(hn:x0 (x≠ "__name__") xL)(hdb:x0 ((x==("__debug__":Str))=false) xL)(he:x0 (rG (e::es) X.env=(false,eval e X.env)::rG es X.env) wv)(hpl:x0 ((backTo pos (rG es X.env)).any (·.1)=false) wv):DE X (.Call (.Name x p) (e::es) [] pos) (OP c f fs):=⟨
 BI (Xd hc hg hm hv ha.pe hn hdb he hpl) λ_ _ _ h=>by
  obtain⟨M,E,S,d,S',e,r,st,q⟩:=h
  exact Mp e r st q⟩
def Pb(hc:EG X (.type T) (rN X.K f))(hg:Gl X x)(hm:X.mg x=none)(hv:bootBuiltins x=Gc (.type T))(ha:DEs X (e::es) fs)(hn:x0 (x≠ "__name__") xL)(hdb:x0 ((x==("__debug__":Str))=false) xL)(he:x0 (rG (e::es) X.env=(false,eval e X.env)::rG es X.env) wv)(hpl:x0 ((backTo pos (rG es X.env)).any (·.1)=false) wv):DE X (.Call (.Name x p) (e::es) [] pos) (OP c f fs):=⟨
 BI (Sw hc hg hm hv ha.pe hn hdb he hpl) λ_ _ _ h=>by
  obtain⟨M,E,S,d,S',e,r,st,q⟩:=h
  exact Mp e r st q⟩
noncomputable def eC(d:D):Ev:=λ_ S=>Gc (d,S)
def OS(h:PE X e (tC v))(r:∀K M H,Be K M H v d):DE X e (eC d):=⟨BI h λσ H Q z=>by
 obtain⟨M,E,S,w,S',e,rr,st,q⟩:=z
 cases e
 exact q _ _ M (.refl st.mo) st (r _ _ _)⟩
def BM:DE X (.Constant (.int i) j pos) (eC (.int i)):=OS gM λ_ _ _=>.int _
def Nn:DE X (.Constant (.bool i) j pos) (eC (.bl i)):=OS lS λ_ _ _=>.bl _
def FV:DE X (.Constant (.str i) j pos) (eC (.str i)):=OS eR λ_ _ _=>.str _
def dg:DE X (.Constant .none j pos) (eC .non):=OS fH λ_ _ _=>.non
noncomputable def eV(i:Nat):Ev:=λE S=>(at? E i).map λd=>(d,S)
def AG i(hN:x0 (X.N[i]?=Gc x) wv)(hv:x0 (kQ X.env.scope x=true) wv)(hd:x0 ((x==("__debug__":Str))=false) xL)(hcd:x0 ((x==("__classdict__":Str))=false) xL):DE X (.Name x pos) (eV i):=⟨BI (Oy hN (eX hv) hd hcd) λσ H Q z=>by
 obtain⟨M,E,S,d,S',e,r,st,q⟩:=z
 obtain⟨d',e1,e⟩:=IC e
 cases e
 obtain⟨v,hv,rd⟩:=r.val i d (at?_some e1)
 exact⟨v,hv,q v H M (.refl st.mo) st rd⟩⟩
end
def G4:fillsNumberSlot (.type "tuple") "mul"=pure false:=
 fillsNumberSlot_seq (id:="tuple.__mul__") (r:=Gc (.builtin "tuple.__rmul__")) xP.lookup (by decide+kernel) F.slot_tuple_rmul.lookup (by decide+kernel)
def Kj:seqRepeat? (.type "tuple")=pure (Gc (.builtin "tuple.__mul__")):=by
 unfold seqRepeat?
 rw[seqSlot_of (T:="tuple") (name:="__mul__") (id:="tuple.__mul__") xP.lookup (by decide+kernel),seqSlot_of (T:="tuple") (name:="__rmul__") (id:="tuple.__rmul__") F.slot_tuple_rmul.lookup (by decide+kernel)]
 rfl
def IJ a(t:Tok) l items n dd sl:Meets (xo.«int.__rmul__» ⟨[.int a t,.ref l],[]⟩) (λ_ R s=>s.heap.get? l=Gc {cls:=.type "tuple",dict:=dd,data:=.seq items n,slots:=sl}/\R (.ok (.ret Value.notImplemented)) s):=
 .of_wp λprog w A R s h=>by obtain⟨hp,g,d,tk,os⟩:=s;obtain⟨hl,h⟩:=h;wp_walk;exact⟨_,rfl,h⟩
def U2(its:Wp rD) m:AAG (λx1 x2=>x1++x2) #[] (rQ m its.toArray)=(rQ m its).flatten.toArray:=by
 have:=foldl_rep its m []
 rw[r9]at this
 exact this
def aK:OpR X (binaryOp .Mult) (λx y H Q=>∃a xs k,x=.ref a/\y=.int k/\SqT X.K H a xs/\xs≠[]/\1<=k/\xs.length*k.toNat<=sizeLine/\(k=1->Q (.ref a) H)/\(k≠1->∀p,H p=none->Q (.ref p) (upd H p (.tup (rQ k.toNat xs).flatten)))):=by
 intro pins s σ H x y v u Q I rx ry h
 obtain⟨a,xs,k,rfl,rfl,hx,hne,hk,hz,q1,q2⟩:=h
 cases rx
 obtain⟨t,rfl⟩:=ry
 obtain⟨its,r,⟨⟨c,dd,data,sl⟩,ho,hc,n,hd⟩,hzz⟩:=I.tuple hx
 simp only at hc hd
 subst hc hd
 have hl:=r.length
 have hsz:its.toArray.size=xs.length:=by rw[rK];exact hl.symm
 have hpos:0<xs.length:=z5.mpr hne
 have hkl:k.toNat<=sizeLine:=q8 (Nat.le_mul_of_pos_left _ hpos) hz
 have hk63:k<2^63:=by
  have:(sizeLine:Nat)<2^63:=by decide
  lia
 refine wG (T:="tuple") (U:="int") (by decide) ⟨_,ho,rfl⟩ (λs'=>xO s' k t) G4 zA vk Kj yg.lookup
  (vy vk (xO s k t) yh (yQ _ _) (IJ k t a its.toArray n dd sl) ⟨ho,rfl,⟨_,ho,rfl⟩,?_⟩)
 refine uZ xP ⟨_,ho,rfl⟩ F.entry_tuple_mul ?_ (AAJ _ _)
 unfold xo.«tuple.__mul__»
 wp_walk using rh ho
 rw[sH (show¬(decide (k< -2^63)||decide (k≥2^63))=true by
  rw[tK]
  rintro (z|z)
  .have:=rO z;lia
  .have:=rO z;lia)]
 wp_walk using rh ho
 by_cases h1:k=1
 .subst h1
  rw[sD (show(its.toArray.isEmpty||(1:Int)==1)=true by simp)]
  wp_walk using rh ho
  exact⟨_,rfl,.ref a,H,I,rfl,q1 rfl⟩
 .have hemp:its.toArray.isEmpty=false:=by
   cases its with
   |nil=>rw[wV]at hl;lia
   |cons b bs=>rfl
  rw[sH (show¬(its.toArray.isEmpty||k==1)=true by rw[hemp];simpa using h1)]
  wp_walk using rh ho
  have hmul:((its.toArray.size:Int)*k)=((xs.length*k.toNat:Nat):Int):=by
   rw[hsz,zC]
   congr 1
   lia
  rw[sH (show¬(decide (k<=0)||its.toArray.isEmpty)=true by
   rw[hemp,Bool.or_false]
   intro z
   have:=rO z
   lia)]
  wp_walk
  rw[sH (show¬((its.toArray.size:Int)*k>(2^63-1) / 8) by
   rw[hmul]
   have:(sizeLine:Nat)<=(2^63-1) / 8:=by decide
   lia)]
  wp_walk
  rw[sH (show¬yG ((its.toArray.size:Int)*k)=true by
   unfold yG
   rw[hmul]
   intro z
   have:=rO z
   lia)]
  rw[U2]
  wp_walk
  have hlen:(rQ k.toNat its).flatten.length<=sizeLine:=by rw[len_rep,ui,<-hl];exact hz
  rw[sH (show¬((rQ k.toNat its).flatten.toArray.size>sizeLine) by rw[rK];lia)]
  wp_walk
  refine⟨_,rfl,.ref _,_,I.laid (o:=.tup (rQ k.toNat xs).flatten) (t':=s.toks) (λb ob q=>qt _ q) (q9 _) ?_,rfl,q2 h1 _ (I.hok.fresh (q9 _))⟩
  exact⟨by rw[len_rep,ui];exact hz,_,r.rep k.toNat,wI _ _⟩
mutual
noncomputable def D.py:D->PyData
 | .non=>.none| .bl b=>.bool b| .int i=>.int i| .str x=>.str x| .ty _=>.none
 | .tup ds=>.tuple (D.pys ds)| .lst ds=>.list (D.pys ds)| .dct _=>.none| .scr _=>.none| .ref _=>.none
noncomputable def D.pys:Wp D->Wp PyData
 | []=>[]
 |d::ds=>D.py d::D.pys ds
end
mutual
noncomputable def D.lay:D->su
 | .non=>true| .bl _=>true| .int _=>true| .str x=>tV x| .ty _=>false| .dct _=>false| .scr _=>false| .ref _=>false
 | .tup ds=>D.ON ds| .lst ds=>D.ON ds
noncomputable def D.ON:Wp D->su
 | []=>true
 |d::ds=>D.lay d && D.ON ds
end
mutual
theorem J7:∀{d:D},d.lay=true->d.py.canLay0=true
 | .non,_=>rfl
 | .bl _,_=>rfl
 | .int _,_=>rfl
 | .str x,h=>h
 | .ty _,h=>uc h
 | .dct _,h=>uc h
 | .scr _,h=>uc h
 | .ref _,h=>uc h
 | .tup ds,h=>by show xA (D.pys ds)=true;exact OG h
 | .lst ds,h=>by show xA (D.pys ds)=true;exact OG h
theorem OG:∀{ds:Wp D},D.ON ds=true->xA (D.pys ds)=true
 | [],_=>rfl
 |d::ds,h=>by
  have h':(D.lay d && D.ON ds)=true:=h
  rw[rH]at h'
  show(PyData.canLay0 d.py && xA (D.pys ds))=true
  rw[J7 h'.1,OG h'.2];rfl
end
section
variable{X:Cx}{pins:Wp (rL×Obj)}{σ:Sg}{H:Hp}{s:rP}{M:Ms}
def LW(I:Inv X pins σ H s)(h:Rd H a (.lst xs)):∃its,Vals xs its/\∃o n,s.heap.get? a=Gc o/\o.cls=.type "list" /\o.data=.seq its.toArray n:=by
 obtain⟨z,its,n,r,e⟩:=h.ok I.hok
 exact⟨its,r,_,n,e,rfl,rfl⟩
def Be.reads(I:Inv X pins σ H s)(h:Be X.K M H v d):∀{u},RelV v u->d.lay=true->∃as,Reads s.heap u d.py as:=
 Be.rec (motive_1:=λv d _=>∀{u:rD},RelV v u->d.lay=true->∃as,Reads s.heap u d.py as) (motive_2:=λvs ds _=>∀{us:Wp rD},Vals vs us->D.ON ds=true->∃as,ReadsAll s.heap us (D.pys ds) as) (motive_3:=λ_ _ _=>xy)
  (λr _=>by cases r;exact⟨_,.none⟩) (λb _ r _=>by cases r;exact⟨_,.bool b⟩) (λb _ r _=>by obtain⟨t,rfl⟩:=r;exact⟨_,.int b t⟩) (λb _ r _=>by obtain⟨t,rfl⟩:=r;exact⟨_,.str b t⟩) (λ_ _ _ h=>uc h)
  (fun h _ ih _ r hl => by
    cases r
    obtain⟨its,rv,⟨o,e,hc,n,hd⟩,_⟩:=I.tuple h
    obtain⟨as,ra⟩:=ih rv hl
    exact⟨as,.tuple e hc hd ra⟩)
  (fun h _ _ ih _ r hl => by
    cases r
    obtain⟨its,rv,o,n,e,hc,hd⟩:=LW I (.inl h)
    obtain⟨as,ra⟩:=ih rv hl
    exact⟨_,.list e hc hd ra⟩)
  (λ_ _ _ h=>uc h) (λ_ _ _ _ _ _ h=>uc h) (λ_ _ _ h=>uc h)
  (fun r _ => by cases r; exact ⟨_, .nil⟩) (fun {v d vs ds} _ _ ih1 ih2 _ r hl => by
    cases r with
    |cons r1 r2=>
     have hl':(D.lay d && D.ON ds)=true:=hl
     rw[rH]at hl'
     obtain⟨as,ra⟩:=ih1 r1 hl'.1
     obtain⟨bs,rb⟩:=ih2 r2 hl'.2
     exact⟨_,.cons ra rb⟩) trivial (λ_ _ _ _=>trivial) h
def Ab.reads(I:Inv X pins σ H s)(h:Ab X.K M H vs ds):∀{us},Vals vs us->D.ON ds=true->∃as,ReadsAll s.heap us (D.pys ds) as:=
 h.ind (P:=λvs ds=>∀{us:Wp rD},Vals vs us->D.ON ds=true->∃as,ReadsAll s.heap us (D.pys ds) as) (λr _=>by cases r;exact⟨_,.nil⟩) (λ{v d vs ds} h ih2 _ r hl=>by
  cases r with
  |cons r1 r2=>
   have hl':(D.lay d && D.ON ds)=true:=hl
   rw[rH]at hl'
   obtain⟨as,ra⟩:=h.reads I r1 hl'.1
   obtain⟨bs,rb⟩:=ih2 r2 hl'.2
   exact⟨_,.cons ra rb⟩)
end
noncomputable def deq(a b:D):su:=PyData.eqv a.py b.py
noncomputable def Kr(a b:D):su:=a.lay && b.lay && decide (min a.py.depth b.py.depth<=60)
noncomputable def wEq:Op2:=λa b=>if Kr (fz a) (fz b)=true then Gc (.val (.bl (deq (fz a) (fz b))))else none
noncomputable def wNe:Op2:=λa b=>if Kr (fz a) (fz b)=true then Gc (.val (.bl (!deq (fz a) (fz b))))else none
section
variable{X:Cx}
def Sh.reads{pins:Wp (rL×Obj)}{σ:Sg}(h:Sh X.K M H v w)(I:Inv X pins σ H s)(r:RelV v u)(hl:(fz w).lay=true):∃as,Reads s.heap u (fz w).py as:=by
 cases w with
 |val d=>exact Be.reads I h r hl
 |own ds=>
  obtain⟨a,xs,rfl,h1,h2⟩:=h
  cases r
  obtain⟨its,rv,o,n,e,hc,hd⟩:=LW I (.inl h1)
  obtain⟨as,ra⟩:=Ab.reads I h2 rv hl
  exact⟨_,.list e hc hd ra⟩
def IP(hu:X.A.units+100<cLine):OpR X (compareOp .Eq) (rOp X.K wEq):=by
 intro pins s σ H x y v u Q I rx ry h
 obtain⟨M,w1,w2,r,e,mo,s1,s2,q⟩:=h
 unfold wEq at e
 split at e
 .rename_i hk
  unfold Kr at hk
  rw[rH,rH]at hk
  cases e
  obtain⟨as,ra⟩:=s1.reads I rx hk.1.1
  obtain⟨bs,rb⟩:=s2.reads I ry hk.1.2
  have hd:=rO hk.2
  exact SeqAt.compareEq_reads ra rb (J7 hk.1.1) (J7 hk.1.2) (by lia) ⟨.bl _,H,I,rfl,q _ _ (.same mo (.bl _))⟩
 .cases e
def LO(hu:X.A.units+100<cLine):OpR X (compareOp .NotEq) (rOp X.K wNe):=by
 intro pins s σ H x y v u Q I rx ry h
 obtain⟨M,w1,w2,r,e,mo,s1,s2,q⟩:=h
 unfold wNe at e
 split at e
 .rename_i hk
  unfold Kr at hk
  rw[rH,rH]at hk
  cases e
  obtain⟨as,ra⟩:=s1.reads I rx hk.1.1
  obtain⟨bs,rb⟩:=s2.reads I ry hk.1.2
  have hd:=rO hk.2
  exact SeqAt.compareNe_reads ra rb (J7 hk.1.1) (J7 hk.1.2) (by lia) ⟨.bl _,H,I,rfl,q _ _ (.same mo (.bl _))⟩
 .cases e
noncomputable def wI2(f:Int->Int->qz D):Op2
 | .val (.int i),.val (.int j)=>(f i j).map .val
 |_,_=>none
def RC(o:OpR X g (rI C h))(hf:∀i j d,f i j=Gc d->C i j/\∀K M H,Be K M H (h i j) d):OpR X g (rOp X.K (wI2 f)):=by
 intro pins s σ H x y v u Q I rx ry hh
 obtain⟨M,w1,w2,r,e,mo,s1,s2,q⟩:=hh
 unfold wI2 at e
 split at e
 .obtain rfl:=Be.iv s1
  obtain rfl:=Be.iv s2
  rename_i i j
  cases e1:f i j with
  |none=>rw[e1]at e;cases e
  |some d=>
   rw[e1]at e
   cases e
   obtain⟨c,rd⟩:=hf i j d e1
   exact o pins s σ H _ _ v u Q I rx ry ⟨i,j,rfl,rfl,c,q _ _ (.same mo (rd _ _ _))⟩
 .cases e
def Lg(o:OpR X g (rI0 h))(hf:∀i j d,f i j=Gc d->∀K M H,Be K M H (h i j) d):OpR X g (rOp X.K (wI2 f)):=by
 intro pins s σ H x y v u Q I rx ry hh
 obtain⟨M,w1,w2,r,e,mo,s1,s2,q⟩:=hh
 unfold wI2 at e
 split at e
 .obtain rfl:=Be.iv s1
  obtain rfl:=Be.iv s2
  rename_i i j
  cases e1:f i j with
  |none=>rw[e1]at e;cases e
  |some d=>
   rw[e1]at e
   cases e
   exact o pins s σ H _ _ v u Q I rx ry ⟨i,j,rfl,rfl,q _ _ (.same mo (hf i j d e1 _ _ _))⟩
 .cases e
noncomputable def OO:Op2:=wI2 λi j=>Gc (.int (i-j))
noncomputable def YQ:Nat:=2^60000
noncomputable def Ey:Nat:=2^8000
noncomputable def De(i j:Int):su:=decide (i.natAbs<2^64)||(decide (j.natAbs<2^64)||(decide (i.natAbs<YQ) && decide (j.natAbs<YQ)))
def bM:OpR X (binaryOp .Mult) (rI (λi j=>De i j=true) λi j=>.int (i*j)):=by
 intro pins s σ H x y v u Q I rx ry h
 obtain⟨i,j,rfl,rfl,hk,q⟩:=h
 unfold De at hk
 rw[tK,tK,rH]at hk
 rcases hk with hk|hk|hk
 .have:=rO hk
  exact Yy pins s σ H _ _ v u Q I rx ry ⟨i,j,rfl,rfl,.inl ⟨by lia,by lia⟩,q⟩
 .have:=rO hk
  exact Yy pins s σ H _ _ v u Q I rx ry ⟨i,j,rfl,rfl,.inr ⟨by lia,by lia⟩,q⟩
 .have h1:i.natAbs<2^60000:=rO hk.1
  have h2:j.natAbs<2^60000:=rO hk.2
  obtain⟨t1,rfl⟩:=rx
  obtain⟨t2,rfl⟩:=ry
  exact PyProof.Rows.mul_int ⟨.int _,H,I.tok _,⟨_,rfl⟩,q⟩ (PyProof.Rows.mulOk_of_bits (m:=60000) (n:=60000) (zY.mpr h1) (zY.mpr h2) (by decide))
noncomputable def kX:Op2:=wI2 λi j=>if De i j=true then Gc (.int (i*j))else none
noncomputable def MT:Op2:=wI2 λi j=>if(decide (0<j) && decide (j.natAbs<Ey))=true then Gc (.int (i / j))else none
noncomputable def Pm:Op2:=wI2 λi j=>if 0<j then Gc (.int (i % j))else none
noncomputable def jE:Op2:=wI2 λi j=>if(decide (0<=j) && decide (j<=1000) && decide (i.natAbs<2^64))=true then Gc (.int (i^j.toNat))else none
noncomputable def wLt:Op2:=wI2 λi j=>Gc (.bl (decide (i<j)))
noncomputable def wLe:Op2:=wI2 λi j=>Gc (.bl (decide (i<=j)))
noncomputable def wGt:Op2:=wI2 λi j=>Gc (.bl (decide (j<i)))
noncomputable def wGe:Op2:=wI2 λi j=>Gc (.bl (decide (j<=i)))
def kR:OpR X (binaryOp .Sub) (rOp X.K OO):=Lg eY λi j d e K M H=>by cases e;exact .int _
def bL:OpR X (binaryOp .Mult) (rOp X.K kX):=RC bM λi j d e=>by
 split at e
 .rename_i hk
  cases e
  exact⟨hk,λ_ _ _=>.int _⟩
 .cases e
def jZ:OpR X (binaryOp .FloorDiv) (rOp X.K MT):=RC St.Xc λi j d e=>by
 split at e
 .rename_i hk
  rw[rH]at hk
  cases e
  exact⟨⟨rO hk.1,rO hk.2⟩,λ_ _ _=>.int _⟩
 .cases e
def lD:OpR X (binaryOp .Mod) (rOp X.K Pm):=RC gy λi j d e=>by
 split at e
 .rename_i hk
  cases e
  exact⟨hk,λ_ _ _=>.int _⟩
 .cases e
def lC:OpR X (binaryOp .Pow) (rOp X.K jE):=RC gk λi j d e=>by
 split at e
 .rename_i hk
  rw[rH,rH]at hk
  cases e
  have:=rO hk.1.2
  exact⟨⟨rO hk.1.1,by lia,rO hk.2⟩,λ_ _ _=>.int _⟩
 .cases e
def nv:OpR X (compareOp .Lt) (rOp X.K wLt):=Lg kB λi j d e K M H=>by cases e;exact .bl _
def nX:OpR X (compareOp .LtE) (rOp X.K wLe):=Lg bF λi j d e K M H=>by cases e;exact .bl _
def YR:OpR X (compareOp .Gt) (rOp X.K wGt):=Lg kH λi j d e K M H=>by cases e;exact .bl _
def nq:OpR X (compareOp .GtE) (rOp X.K wGe):=Lg mB λi j d e K M H=>by cases e;exact .bl _
noncomputable def asL:Wv->qz (Wp D)
 | .own ds=>Gc ds
 | .val (.lst ds)=>Gc ds
 |_=>none
noncomputable def asT:Wv->qz (Wp D)
 | .val (.tup ds)=>Gc ds
 |_=>none
noncomputable def asC:Wv->qz (Wp D)
 | .val (.scr ns)=>Gc (ns.map .int)
 |_=>none
noncomputable def asS(w:Wv):qz (Wp D):=(asL w).or ((asT w).or (asC w))
section
variable{K:W1}{M:Ms}{H:Hp}{v:V}{w:Wv}{ds:Wp D}
def Sh.l(h:Sh K M H v w)(e:asL w=Gc ds):∃a xs,v=.ref a/\H a=Gc (.lst xs)/\Ab K M H xs ds:=by
 cases w with
 |own es=>cases e;obtain⟨a,xs,rfl,h1,h2⟩:=h;exact⟨a,xs,rfl,h1,h2⟩
 |val d=>
  cases d<;>first|(cases e;done)|skip
  cases e
  cases h with
  |lst h n r=>exact⟨_,_,rfl,h,r⟩
def Sh.t(h:Sh K M H v w)(e:asT w=Gc ds):∃a xs,v=.ref a/\SqT K H a xs/\Ab K M H xs ds:=by
 cases w with
 |own es=>cases e
 |val d=>
  cases d<;>first|(cases e;done)|skip
  cases e
  cases h with
  |tup h r=>exact⟨_,_,rfl,h,r⟩
theorem Ky:∀{ns:Wp Int},Ab K M H (ns.map V.int) (ns.map D.int)
 | []=>.nil
 |n::ns=>.cons (.int n) Ky
def Sh.c(h:Sh K M H v w)(e:asC w=Gc ds):∃a xs,v=.ref a/\SqL K H a xs/\Ab K M H xs ds:=by
 cases w with
 |own es=>cases e
 |val d=>
  cases d<;>first|(cases e;done)|skip
  cases e
  cases h with
  |scr h=>
   refine⟨_,_,rfl,?_,Ky⟩
   rcases h with h|h
   .exact .inl h.1
   .exact .inr h
def Sh.s(h:Sh K M H v w)(e:asS w=Gc ds):∃a xs,v=.ref a/\(SqL K H a xs\/SqT K H a xs)/\Ab K M H xs ds:=by
 unfold asS at e
 cases e1:asL w with
 |some es=>
  rw[e1]at e
  cases e
  obtain⟨a,xs,h1,h2,h3⟩:=h.l e1
  exact⟨a,xs,h1,.inl (.of h2),h3⟩
 |none=>
  rw[e1]at e
  cases e2:asT w with
  |some es=>
   rw[e2]at e
   cases e
   obtain⟨a,xs,h1,h2,h3⟩:=h.t e2
   exact⟨a,xs,h1,.inr h2,h3⟩
  |none=>
   rw[e2]at e
   obtain⟨a,xs,h1,h2,h3⟩:=h.c e
   exact⟨a,xs,h1,.inl h2,h3⟩
end
noncomputable def Cv:Op1:=λw=>match w with
 | .val (.str z)=>if z.length<=sizeLine then Gc (.val (.int z.length))else none
 |_=>(asS w).map λds=>.val (.int ds.length)
def Bs:EG X (.builtin "len") (rN X.K (o1 Cv)):=by
 intro pins s σ H xs us Q I r h
 obtain⟨M,ws,w,e,mo,sh,q⟩:=h
 cases sh with
 |nil=>cases e
 |cons h1 t=>
  cases t with
  |cons h2 t=>cases e
  |nil=>
   rename_i v w1
   have e':Cv w1=Gc w:=e
   unfold Cv at e'
   split at e'
   .split at e'
    .rename_i z hz
     cases e'
     cases h1
     exact OW pins s σ H _ us Q I r ⟨z,rfl,hz,q _ _ (.same mo (.int _))⟩
    .cases e'
   .cases e1:asS w1 with
    |none=>rw[e1]at e';cases e'
    |some ds=>
     rw[e1]at e'
     cases e'
     obtain⟨a,ys,rfl,h3,h4⟩:=h1.s e1
     refine O9 pins s σ H _ us Q I r ⟨a,ys,rfl,h3,q _ _ ?_⟩
     rw[h4.length]
     exact .same mo (.int _)
noncomputable def wIx:Op2:=λa b=>match a,b with
 |a,.val (.int i)=>(asS a).bind λds=>(atI ds i).map .val
 |_,_=>none
def ak(h:Ab K M H xs ds)(e:atI ds i=Gc d):∃x,atI xs i=Gc x/\Be K M H x d:=by
 unfold atI at e⊢
 rw[h.length]
 cases e1:ixN ds.length i with
 |none=>rw[e1]at e;cases e
 |some j=>
  rw[e1]at e
  exact h.get e
def Hs:IxR X (rOp X.K wIx):=by
 intro value slice pins s σ H x y v u Q I rx ry h hs
 obtain⟨M,w1,w2,r,e,mo,s1,s2,q⟩:=h
 unfold wIx at e
 split at e
 .rename_i i
  cases e1:asS w1 with
  |none=>rw[e1]at e;cases e
  |some ds=>
   rw[e1]at e
   simp only[yj]at e
   cases e2:atI ds i with
   |none=>rw[e2]at e;cases e
   |some d=>
    rw[e2]at e
    cases e
    obtain rfl:=Be.iv s2
    obtain⟨a,ys,rfl,h3,h4⟩:=s1.s e1
    obtain⟨z,h5,h6⟩:=ak h4 e2
    rcases h3 with h3|h3
    .exact bw value slice pins s σ H _ _ v u Q I rx ry ⟨a,ys,i,z,rfl,rfl,h3,h5,q _ _ (.same mo h6)⟩ hs
    .exact eG value slice pins s σ H _ _ v u Q I rx ry ⟨a,ys,i,z,rfl,rfl,h3,h5,q _ _ (.same mo h6)⟩ hs
 .cases e
end
section
variable{X:Cx}
noncomputable def asI:Wv->qz Int
 | .val (.int i)=>Gc i
 |_=>none
noncomputable def asX:Wv->qz Str
 | .val (.str x)=>Gc x
 |_=>none
def Oc(e:asI w=Gc i):w=.val (.int i):=by
 cases w with
 |own=>cases e
 |val d=>cases d with
  |int=>cases e;rfl
  |_=>cases e
def Yf(e:asX w=Gc i):w=.val (.str i):=by
 cases w with
 |own=>cases e
 |val d=>cases d with
  |str=>cases e;rfl
  |_=>cases e
def RB(e:asT w=Gc i):w=.val (.tup i):=by
 cases w with
 |own=>cases e
 |val d=>cases d with
  |tup=>cases e;rfl
  |_=>cases e
noncomputable def RT{α β:Type}(f:Wv->qz α)(g:α->α->qz β)(h:qz β)(a b:Wv):qz β:=match f a with
 |none=>h
 |some x=>match f b with
  |none=>h
  |some y=>g x y
def NZ{α β:Type}{f:Wv->qz α}{g:α->α->qz β}{h:qz β}{r:β}(e:RT f g h a b=Gc r):h=Gc r\/∃x y,f a=Gc x/\f b=Gc y/\g x y=Gc r:=by
 unfold RT at e
 cases e1:f a with
 |none=>rw[e1]at e;exact .inl e
 |some x=>
  rw[e1]at e
  cases e2:f b with
  |none=>rw[e2]at e;exact .inl e
  |some y=>rw[e2]at e;exact .inr ⟨x,y,rfl,rfl,e⟩
noncomputable def Cy:Op2:=λa b=>RT asI (λi j=>Gc (.val (.int (i+j)))) (RT asX (λx y=>if x.length+y.length<=sizeLine then Gc (.val (.str (x++y)))else none) (RT asT (λxs ys=>if xs.length+ys.length<=sizeLine then Gc (.val (.tup (xs++ys)))else none)
 (RT asL (λxs ys=>if xs.length+ys.length<=sizeLine then Gc (.own (xs++ys))else none) none a b) a b) a b) a b
def SK{α:Type}{p:Prop} [Decidable p] {x:α}{r:α}(e:(if p then Gc x else none)=Gc r):p/\x=r:=by
 by_cases h:p
 .rw[sD h]at e;cases e;exact⟨h,rfl⟩
 .rw[sH h]at e;cases e
def Ng:OpR X (binaryOp .Add) (rOp X.K Cy):=by
 intro pins s σ H x y v u Q I rx ry h
 obtain⟨M,w1,w2,r,e,mo,s1,s2,q⟩:=h
 rcases NZ e with e|⟨i,j,e1,e2,e⟩
 .rcases NZ e with e|⟨i,j,e1,e2,e⟩
  .rcases NZ e with e|⟨xs,ys,e1,e2,e⟩
   .rcases NZ e with e|⟨xs,ys,e1,e2,e⟩
    .cases e
    .obtain⟨hz,rfl⟩:=SK e
     obtain⟨a,xs',rfl,h1,r1⟩:=s1.l e1
     obtain⟨b,ys',rfl,h2,r2⟩:=s2.l e2
     have l1:=r1.length
     have l2:=r2.length
     exact iF pins s σ H _ _ v u Q I rx ry ⟨a,b,xs',ys',rfl,rfl,h1,h2,by lia,λp hp=>q _ _ (.lst mo hp (r1.append r2))⟩
   .obtain rfl:=RB e1
    obtain rfl:=RB e2
    obtain⟨hz,rfl⟩:=SK e
    obtain⟨a,xs',rfl,h1,r1⟩:=Be.iv s1
    obtain⟨b,ys',rfl,h2,r2⟩:=Be.iv s2
    have l1:=r1.length
    have l2:=r2.length
    by_cases hx:xs'=[]
    .subst hx
     cases r1
     refine St.aX pins s σ H _ _ v u Q I rx ry ⟨_,_,_,rfl,rfl,h1,h2,q _ _ (.same mo ?_)⟩
     exact .tup h2 r2
    .refine aI pins s σ H _ _ v u Q I rx ry ⟨_,_,_,_,rfl,rfl,h1,h2,hx,by lia,λz=>?_,λ_ p hp=>q _ _ (.tup mo hp (r1.append r2))⟩
     subst z
     cases r2
     rw[sj]at q
     exact q _ _ (.same mo (.tup h1 r1))
  .obtain rfl:=Yf e1
   obtain rfl:=Yf e2
   obtain⟨hz,rfl⟩:=SK e
   obtain rfl:=Be.iv s1
   obtain rfl:=Be.iv s2
   exact Rc pins s σ H _ _ v u Q I rx ry ⟨_,_,rfl,rfl,hz,q _ _ (.same mo (.str _))⟩
 .obtain rfl:=Oc e1
  obtain rfl:=Oc e2
  cases e
  obtain rfl:=Be.iv s1
  obtain rfl:=Be.iv s2
  exact d6 pins s σ H _ _ v u Q I rx ry ⟨_,_,rfl,rfl,q _ _ (.same mo (.int _))⟩
noncomputable def gI:Op2:=λa b=>(asI b).bind λk=>match asI a with
 |some i=>if De i k=true then Gc (.val (.int (i*k)))else none
 |none=>match asT a with
  |some xs=>if(!xs.isEmpty && decide (1<=k) && decide (xs.length*k.toNat<=sizeLine))=true then Gc (.val (.tup (rQ k.toNat xs).flatten))else none
  |none=>(asL a).bind λxs=>if(decide (k<2^63) && decide (-(2^63)<=k) && decide (xs.length*k.toNat<=sizeLine))=true then Gc (.own (rQ k.toNat xs).flatten)else none
theorem Ab.rep(h:Ab K M H xs ds):∀n,Ab K M H (rQ n xs).flatten (rQ n ds).flatten
 |0=>.nil
 |n+1=>by
  rw[uD,uD,vO,vO]
  exact h.append (Ab.rep h n)
def cA:OpR X (binaryOp .Mult) (rOp X.K gI):=by
 intro pins s σ H x y v u Q I rx ry h
 obtain⟨M,w1,w2,r,e,mo,s1,s2,q⟩:=h
 obtain⟨k,e2,e0⟩:=Af e
 obtain rfl:=Oc e2
 clear e e2
 cases e1:asI w1 with
 |some i=>
  obtain rfl:=Oc e1
  clear e1
  refine bL pins s σ H x y v u Q I rx ry ⟨M,_,_,r,?_,mo,s1,s2,q⟩
  obtain⟨hk,rfl⟩:=SK e0
  show AAK Wv.val (if De i k=true then Gc (D.int (i*k))else none)=Gc _
  rw[sD hk]
  rfl
 |none=>
  rw[e1]at e0
  dsimp only at e0
  obtain rfl:=Be.iv s2
  cases e3:asT w1 with
  |some xs=>
   rw[e3]at e0
   obtain rfl:=RB e3
   obtain⟨hk,rfl⟩:=SK e0
   rw[rH,rH]at hk
   obtain⟨a,ys,rfl,h1,r1⟩:=Be.iv s1
   have l1:=r1.length
   have z:=rO hk.2
   have hk1:=rO hk.1.2
   have hne:ys≠[]:=λzz=>by
    subst zz
    cases r1
    exact absurd hk.1.1 (by decide)
   refine aK pins s σ H _ _ v u Q I rx ry ⟨a,ys,k,rfl,rfl,h1,hne,hk1,by rw[l1];exact z,λe1=>?_,λ_ p hp=>q _ _ (.tup mo hp (r1.rep _))⟩
   subst e1
   have:(rQ (1:Int).toNat xs).flatten=xs:=by simp
   rw[this]at q
   exact q _ _ (.same mo (.tup h1 r1))
  |none=>
   rw[e3]at e0
   obtain⟨xs,e4,e0⟩:=Af e0
   obtain⟨hk,rfl⟩:=SK e0
   rw[rH,rH]at hk
   obtain⟨a,xs',rfl,h1,r1⟩:=s1.l e4
   have l1:=r1.length
   have z:=rO hk.2
   exact hO pins s σ H _ _ v u Q I rx ry ⟨a,k,xs',rfl,rfl,h1,rO hk.1.2,rO hk.1.1,by rw[l1];exact z,λp hp=>q _ _ (.lst mo hp (r1.rep _))⟩
noncomputable def LZ:Op1
 | .val (.int i)=>Gc (.val (.int (-i)))
 |_=>none
def LH:UnR X (unaryOp .USub) (rUn X.K LZ):=by
 intro pins s σ H x v Q I rx h
 obtain⟨M,w,r,e,mo,s1,q⟩:=h
 unfold LZ at e
 split at e
 .cases e
  obtain rfl:=Be.iv s1
  exact dU pins s σ H _ v Q I rx ⟨_,rfl,q _ _ (.same mo (.int _))⟩
 .cases e
noncomputable def Hh:D->su
 | .non=>true| .bl _=>true| .int _=>true| .str _=>true
 |_=>false
def Sh.flat(h:Sh K M H v w)(f:Hh (fz w)=true):Be K M H v (fz w):=by
 cases w with
 |val d=>exact h
 |own ds=>cases f
noncomputable def inD(x:D)(xs:Wp D):su:=xs.any λy=>deq y x
def Qz(h:Be K M H v d)(f:Hh d=true):Lv v=true:=by
 cases h<;>first|rfl|cases f
def cD(h:Be K M H v d)(g:Be K M H u e)(f:Hh d=true)(f':Hh e=true):eqV v u=deq d e:=by
 cases h<;>first|(cases f;done)|skip
 all_goals (cases g<;>first|(cases f';done)|rfl)
def UH(h:Ab K M H vs ds):ds.all Hh=true->vs.all Lv=true:=h.ind (P:=λvs ds=>ds.all Hh=true->vs.all Lv=true) (λ_=>rfl) λh t f=>by
 rw[wO,rH]at f⊢
 exact⟨Qz h f.1,t f.2⟩
def Zn(g:Be K M H u e)(f':Hh e=true)(h:Ab K M H vs ds):ds.all Hh=true->inV u vs=inD e ds:=h.ind (P:=λvs ds=>ds.all Hh=true->inV u vs=inD e ds) (λ_=>rfl) λh t f=>by
 rw[wO,rH]at f
 have ih:=t f.2
 unfold inV inD at ih⊢
 rw[xR,xR,ih,cD h g f.1 f']
noncomputable def wIn(neg:su):Op2:=λa b=>(asS b).bind λds=>if(Hh (fz a) && ds.all Hh)=true then Gc (.val (.bl (if neg then !inD (fz a) ds else inD (fz a) ds)))else none
def Yo(e:wIn neg w1 w2=Gc r)(mo:MOk M H)(s1:Sh X.K M H x w1)(s2:Sh X.K M H y w2)(q:∀v H',Nw X.K M H H' v r->Q v H'):rIn X.K neg x y H Q:=by
 unfold wIn at e
 cases e1:asS w2 with
 |none=>rw[e1]at e;cases e
 |some ds=>
  rw[e1]at e
  simp only[yj]at e
  split at e
  .rename_i hk
   rw[rH]at hk
   cases e
   obtain⟨a,xs,rfl,h3,h4⟩:=s2.s e1
   have g1:=s1.flat hk.1
   refine⟨a,xs,rfl,h3,Qz g1 hk.1,UH h4 hk.2,?_⟩
   rw[Zn g1 hk.1 h4 hk.2]
   exact q _ _ (.same mo (.bl _))
  .cases e
def ni:OpR X (compareOp .In) (rOp X.K (wIn false)):=by
 intro pins s σ H x y v u Q I rx ry h
 obtain⟨M,w1,w2,r,e,mo,s1,s2,q⟩:=h
 exact U9 pins s σ H _ _ v u Q I rx ry (Yo e mo s1 s2 q)
def V1:OpR X (compareOp .NotIn) (rOp X.K (wIn true)):=by
 intro pins s σ H x y v u Q I rx ry h
 obtain⟨M,w1,w2,r,e,mo,s1,s2,q⟩:=h
 exact PN pins s σ H _ _ v u Q I rx ry (Yo e mo s1 s2 q)
noncomputable def isN:Wv->su
 | .val .non=>true
 |_=>false
noncomputable def XB(neg:su):Op2:=λa b=>match b with
 | .val .non=>Gc (.val (.bl (if neg then !isN a else isN a)))
 |_=>none
def V6(s:Sh K M H x w):decide (x=.non)=isN w:=by
 cases w with
 |own ds=>obtain⟨a,xs,rfl,_⟩:=s;rfl
 |val d=>cases s<;>rfl
def aF:OpR X (compareOp .Is) (rOp X.K (XB false)):=by
 intro pins s σ H x y v u Q I rx ry h
 obtain⟨M,w1,w2,r,e,mo,s1,s2,q⟩:=h
 unfold XB at e
 split at e
 .cases e
  obtain rfl:=Be.iv s2
  refine dO pins s σ H _ _ v u Q I rx ry ⟨rfl,?_⟩
  rw[V6 s1]
  exact q _ _ (.same mo (.bl _))
 .cases e
def jP:OpR X (compareOp .IsNot) (rOp X.K (XB true)):=by
 intro pins s σ H x y v u Q I rx ry h
 obtain⟨M,w1,w2,r,e,mo,s1,s2,q⟩:=h
 unfold XB at e
 split at e
 .cases e
  obtain rfl:=Be.iv s2
  refine ZY pins s σ H _ _ v u Q I rx ry ⟨rfl,?_⟩
  rw[V6 s1]
  exact q _ _ (.same mo (.bl _))
 .cases e
def Ie(h:Shs K M H xs ws)(e:o1 f ws=Gc r):∃v w,xs=[v]/\ws=[w]/\Sh K M H v w/\f w=Gc r:=by
 cases h with
 |nil=>cases e
 |cons h1 t=>
  cases t with
  |cons h2 t=>cases e
  |nil=>exact⟨_,_,rfl,rfl,h1,e⟩
def Uh(h:Shs K M H xs ws)(e:o2 f ws=Gc r):∃v w v' w',xs=[v,v']/\ws=[w,w']/\Sh K M H v w/\Sh K M H v' w'/\f w w'=Gc r:=by
 cases h with
 |nil=>cases e
 |cons h1 t=>
  cases t with
  |nil=>cases e
  |cons h2 t=>
   cases t with
   |cons h3 t=>cases e
   |nil=>exact⟨_,_,_,_,rfl,rfl,h1,h2,e⟩
noncomputable def cY:Op1
 | .val (.int i)=>Gc (.val (.int (if i<0 then-i else i)))
 |_=>none
def dy:EG X (.builtin "abs") (rN X.K (o1 cY)):=by
 intro pins s σ H xs us Q I r h
 obtain⟨M,ws,w,e,mo,sh,q⟩:=h
 obtain⟨v,w1,rfl,rfl,s1,e1⟩:=Ie sh e
 unfold cY at e1
 split at e1
 .cases e1
  obtain rfl:=Be.iv s1
  exact WO pins s σ H _ us Q I r ⟨_,rfl,q _ _ (.same mo (.int _))⟩
 .cases e1
noncomputable def i6:Op2:=wI2 λi j=>Gc (.int (if j<i then j else i))
def W9(e:wI2 f a b=Gc r):∃i j d,a=.val (.int i)/\b=.val (.int j)/\f i j=Gc d/\r=.val d:=by
 unfold wI2 at e
 split at e
 .rename_i i j
  cases e1:f i j with
  |none=>rw[e1]at e;cases e
  |some d=>rw[e1]at e;cases e;exact⟨i,j,d,rfl,rfl,e1,rfl⟩
 .cases e
def fc(hc:X.calm=true):EG X (.builtin "min") (rN X.K (o2 i6)):=by
 intro pins s σ H xs us Q I r h
 obtain⟨M,ws,w,e,mo,sh,q⟩:=h
 obtain⟨v,w1,v',w2,rfl,rfl,s1,s2,e1⟩:=Uh sh e
 obtain⟨i,j,d,rfl,rfl,e2,rfl⟩:=W9 e1
 cases e2
 obtain rfl:=Be.iv s1
 obtain rfl:=Be.iv s2
 exact TL hc pins s σ H _ us Q I r ⟨_,_,rfl,q _ _ (.same mo (.int _))⟩
noncomputable def DO:Op1:=λw=>(asS w).map λds=>.val (.tup ds)
def Zq:EG X (.type "tuple") (rN X.K (o1 DO)):=by
 intro pins s σ H xs us Q I r h
 obtain⟨M,ws,w,e,mo,sh,q⟩:=h
 obtain⟨v,w1,rfl,rfl,s1,e1⟩:=Ie sh e
 unfold DO at e1
 cases e2:asS w1 with
 |none=>rw[e2]at e1;cases e1
 |some ds=>
  rw[e2]at e1
  cases e1
  obtain⟨a,ys,rfl,h3,h4⟩:=s1.s e2
  refine NU pins s σ H _ us Q I r ⟨a,ys,rfl,?_⟩
  rcases h3 with h3|h3
  .exact .inl ⟨h3,λl hl=>q _ _ (.tup mo hl h4)⟩
  .exact .inr ⟨h3,q _ _ (.same mo (.tup h3 h4))⟩
noncomputable def Jy:Op1:=λw=>(asS w).map λds=>.own ds
def Mw:EG X (.type "list") (rN X.K (o1 Jy)):=by
 intro pins s σ H xs us Q I r h
 obtain⟨M,ws,w,e,mo,sh,q⟩:=h
 obtain⟨v,w1,rfl,rfl,s1,e1⟩:=Ie sh e
 unfold Jy at e1
 cases e2:asS w1 with
 |none=>rw[e2]at e1;cases e1
 |some ds=>
  rw[e2]at e1
  cases e1
  obtain⟨a,ys,rfl,h3,h4⟩:=s1.s e2
  exact OX pins s σ H _ us Q I r ⟨a,ys,rfl,h3,λl hl=>q _ _ (.lst mo hl h4)⟩
noncomputable def ZU:Op1
 | .val (.int i)=>Gc (.val (.int i))
 | .val (.bl b)=>Gc (.val (.int (if b then 1 else 0)))
 |_=>none
def fS:EG X (.type "int") (rN X.K (o1 ZU)):=by
 intro pins s σ H xs us Q I r h
 obtain⟨M,ws,w,e,mo,sh,q⟩:=h
 obtain⟨v,w1,rfl,rfl,s1,e1⟩:=Ie sh e
 unfold ZU at e1
 split at e1
 .cases e1
  obtain rfl:=Be.iv s1
  exact Ox pins s σ H _ us Q I r (.inl ⟨_,rfl,q _ _ (.same mo (.int _))⟩)
 .cases e1
  obtain rfl:=Be.iv s1
  exact Ox pins s σ H _ us Q I r (.inr ⟨_,rfl,q _ _ (.same mo (.int _))⟩)
 .cases e1
noncomputable def blD:D->qz su
 | .bl b=>Gc b
 |_=>none
noncomputable def bls(ds:Wp D):qz (Wp su):=ds.mapM blD
theorem TV:∀{vs} {ds} {bs},Ab K M H vs ds->bls ds=Gc bs->vs=bs.map V.bl
 |_,_,bs,.nil,e=>by cases e;rfl
 |_,_,bs,.cons (d:=d) (ds:=ds) h t,e=>by
  unfold bls at e
  rw[yH]at e
  cases e1:blD d with
  |none=>rw[e1]at e;cases e
  |some b=>
   rw[e1]at e
   cases e2:ds.mapM blD with
   |none=>rw[e2]at e;cases e
   |some cs=>
    rw[e2]at e
    cases e
    have hd:d=.bl b:=by
     cases d<;>first|(cases e1;done)|skip
     cases e1;rfl
    subst hd
    cases h
    rw[rT,<-TV t e2]
noncomputable def WK:Op1:=λw=>(asL w).bind λds=>(bls ds).map λbs=>.val (.bl (bs.all id))
def VM(hc:X.calm=true):EG X (.builtin "all") (rN X.K (o1 WK)):=by
 intro pins s σ H xs us Q I r h
 obtain⟨M,ws,w,e,mo,sh,q⟩:=h
 obtain⟨v,w1,rfl,rfl,s1,e1⟩:=Ie sh e
 unfold WK at e1
 cases e2:asL w1 with
 |none=>rw[e2]at e1;cases e1
 |some ds=>
  rw[e2]at e1
  simp only[yj]at e1
  cases e3:bls ds with
  |none=>rw[e3]at e1;cases e1
  |some bs=>
   rw[e3]at e1
   cases e1
   obtain⟨a,ys,rfl,h3,h4⟩:=s1.l e2
   exact St.T6 hc pins s σ H _ us Q I r ⟨a,bs,rfl,by rw[<-TV h4 e3];exact .of h3,q _ _ (.same mo (.bl _))⟩
noncomputable def kdW:Wv->qz St.Kd
 | .own _=>Gc .lst
 | .val .non=>Gc .non| .val (.bl _)=>Gc .bl| .val (.int _)=>Gc .int| .val (.str _)=>Gc .str| .val (.lst _)=>Gc .lst| .val (.dct _)=>Gc .dct| .val (.tup _)=>Gc .tup
 | .val (.ty _)=>none| .val (.scr _)=>none| .val (.ref _)=>none
end
section
variable{X:Cx}
def Xu(k:St.Kd):vA K (.type k.ty) (.type "list")=Gc (k.isA "list"):=by
 cases k<;>rfl
noncomputable def PF(T:vJ):su:=T== "int" ||T== "bool" ||T== "tuple" ||T== "str" ||T== "list"
def fk(h:PF T=true)(k:St.Kd):vA K (.type k.ty) (.type T)=Gc (k.isA T):=by
 unfold PF at h
 simp only[tK,uv]at h
 rcases h with(((rfl|rfl)|rfl)|rfl)|rfl
 .exact St.cJ k
 .exact St.Wb k
 .exact St.kit_tuple k
 .exact St.aS k
 .exact Xu k
noncomputable def Qp:Op2:=λa t=>match t with
 | .val (.ty T)=>if PF T=true then(kdW a).map λk=>.val (.bl (k.isA T))else none
 |_=>none
def Ow:EG X (.builtin "isinstance") (rN X.K (o2 Qp)):=by
 intro pins s σ H xs us Q I r h
 obtain⟨M,ws,w,e,mo,sh,q⟩:=h
 obtain⟨v,w1,v',w2,rfl,rfl,s1,s2,e1⟩:=Uh sh e
 unfold Qp at e1
 split at e1
 .rename_i T
  split at e1
  .rename_i hT
   cases e2:kdW w1 with
   |none=>rw[e2]at e1;cases e1
   |some k=>
    rw[e2]at e1
    cases e1
    obtain rfl:=Be.iv s2
    obtain⟨u1,u2,rfl,r1,r2⟩:=r.two
    cases (show u2=xv T from r2)
    have fin:∀tk,EP X pins σ Q (.bool (k.isA T)) {s with toks:=tk}:=λtk=>⟨.bl _,H,I.tok tk,rfl,q _ _ (.same mo (.bl _))⟩
    have kk:=fk (K:=X.K) hT k
    cases w1 with
    |own ds=>
     cases e2
     obtain⟨a,ys,rfl,h1,_⟩:=s1
     exact FU I r1 (.lst h1) kk fin
    |val d=>
     have s1':Be X.K M H v d:=s1
     cases s1' with
     |non=>cases e2;exact FU I r1 .non kk fin
     |bl b=>cases e2;exact FU I r1 (.bl b) kk fin
     |int b=>cases e2;exact FU I r1 (.int b) kk fin
     |str b=>cases e2;exact FU I r1 (.str b) kk fin
     |ty b=>cases e2
     |scr h=>cases e2
     |lst h n rr=>cases e2;exact FU I r1 (.lst h) kk fin
     |dct h n rr=>cases e2;exact FU I r1 (.dK h) kk fin
     |ref h=>cases e2
     |tup h rr=>
      cases e2
      rename_i a ys ds
      cases (show u1=sA a from r1)
      obtain⟨its,_,⟨o,h1,h2,_⟩,_⟩:=I.tuple h
      exact tU AAC I.kIn ⟨o,h1,h2⟩ kk (λz=>nomatch z) fin
  .cases e1
 .cases e1
noncomputable def Bn(fs:Wp Ev):Ev:=λE S=>(evs fs E S).bind λr=>if r.1.length<=sizeLine then Gc (.tup r.1,r.2)else none
noncomputable def X6(c:su)(fs:Wp Ev):Ev:=λE S=>(evs fs E S).bind λr=>if r.1.length<=sizeLine then fin c (.own r.1) r.2 else none
abbrev Kx:=X6 false
abbrev FC:=X6 true
def IF(h:DEs X es fs):DE X (.Tuple es k pos) (Bn fs):=⟨BI (eQ h.pe) λσ H Q z=>by
 obtain⟨M,E,S,d,S',e,r,st,q⟩:=z
 obtain⟨⟨ds,S1⟩,e1,e⟩:=Af e
 dsimp only at e
 split at e
 .cases e
  refine FN e1 r st λvs H1 M1 g1 st1 d1=>⟨by rw[d1.length];assumption,λp hp=>?_⟩
  have n:=Nw.tup st1.mo hp d1
  exact q _ _ M1 (g1.trans (.grow st1.mo n.grow)) (st1.grow n.grow) n.rel
 .cases e⟩
def PU(h:DEs X es fs):DE X (.List es pos) (X6 c fs):=⟨BI (eH h.pe) λσ H Q z=>by
 obtain⟨M,E,S,d,S',e,r,st,q⟩:=z
 obtain⟨⟨ds,S1⟩,e1,e⟩:=Af e
 dsimp only at e
 split at e
 .refine FN e1 r st λvs H1 M1 g1 st1 d1=>⟨by rw[d1.length];assumption,λp hp=>?_⟩
  obtain⟨M2,g2,st2,d2⟩:=(Nw.lst st1.mo hp d1).fin st1 e
  exact q _ _ M2 (g1.trans g2) st2 d2
 .cases e⟩
noncomputable def Ff(f g:Ev):Ev:=λE S=>(f E S).bind λr=>match r.1 with
 | .bl true=>g E r.2
 | .bl false=>Gc (.bl false,r.2)
 |_=>none
noncomputable def eOr(f g:Ev):Ev:=λE S=>(f E S).bind λr=>match r.1 with
 | .bl false=>g E r.2
 | .bl true=>Gc (.bl true,r.2)
 |_=>none
noncomputable def GP(f:Ev):Ev:=λE S=>(f E S).bind λr=>match r.1 with
 | .bl b=>Gc (.bl (!b),r.2)
 |_=>none
noncomputable def eIf(c f g:Ev):Ev:=λE S=>(c E S).bind λr=>match r.1 with
 | .bl true=>f E r.2
 | .bl false=>g E r.2
 |_=>none
def NT(h:Be K M H v (.bl b)):v=.bl b:=by cases h;rfl
variable{a b c:tF}{rest:Wp tF}{f g h:Ev}
def YU(h:DE X a f):DE X (.BoolOp op [a] pos) f:=⟨dJ h.pe⟩
def iL(ha:DE X a f)(hb:DE X (.BoolOp .And (b::rest) pos) g):DE X (.BoolOp .And (a::b::rest) pos) (Ff f g):=⟨BI (d9 ha.pe hb.pe) λσ H Q z=>by
 obtain⟨M,E,S,d,S',e,r,st,q⟩:=z
 obtain⟨⟨d1,S1⟩,e1,e⟩:=Af e
 dsimp only at e
 refine⟨M,E,S,d1,S1,e1,r,st,λv H1 M1 g1 st1 r1=>?_⟩
 split at e
 .cases NT r1
  refine⟨_,rfl,?_⟩
  refine YD ?_
  exact⟨M1,E,S1,d,S',e,r.step g1.st,st1,λv H2 M2 g2 st2 r2=>q _ _ M2 (g1.trans g2) st2 r2⟩
 .cases e
  cases NT r1
  refine⟨_,rfl,?_⟩
  refine Yt ?_
  exact q _ _ M1 g1 st1 r1
 .cases e⟩
def mJ(ha:DE X a f)(hb:DE X (.BoolOp .Or (b::rest) pos) g):DE X (.BoolOp .Or (a::b::rest) pos) (eOr f g):=⟨BI (jz ha.pe hb.pe) λσ H Q z=>by
 obtain⟨M,E,S,d,S',e,r,st,q⟩:=z
 obtain⟨⟨d1,S1⟩,e1,e⟩:=Af e
 dsimp only at e
 refine⟨M,E,S,d1,S1,e1,r,st,λv H1 M1 g1 st1 r1=>?_⟩
 split at e
 .cases NT r1
  refine⟨_,rfl,?_⟩
  refine Yt ?_
  exact⟨M1,E,S1,d,S',e,r.step g1.st,st1,λv H2 M2 g2 st2 r2=>q _ _ M2 (g1.trans g2) st2 r2⟩
 .cases e
  cases NT r1
  refine⟨_,rfl,?_⟩
  refine YD ?_
  exact q _ _ M1 g1 st1 r1
 .cases e⟩
def nO(ha:DE X a f):DE X (.UnaryOp .Not a pos) (GP f):=⟨BI (iJ ha.pe) λσ H Q z=>by
 obtain⟨M,E,S,d,S',e,r,st,q⟩:=z
 obtain⟨⟨d1,S1⟩,e1,e⟩:=Af e
 dsimp only at e
 split at e
 .cases e
  refine⟨M,E,S,_,_,e1,r,st,λv H1 M1 g1 st1 r1=>?_⟩
  cases NT r1
  exact⟨_,rfl,q _ _ M1 g1 st1 (.bl _)⟩
 .cases e⟩
inductive tDT(K:W1)(f:Ev)(σ:Sg)(H:Hp)(Q:su->Hp->Prop):Prop
 |mk (M:Ms) (E:En) (S:Sto) (b:su) (S':Sto) (e:f E S=Gc (.bl b,S')) (r:EnR K M E σ H) (st:StR K M S H) (q:∀H' M',Gr M H M' H'->StR K M' S' H'->Q b H')
structure DT(X:Cx)(e:tF)(f:Ev):Prop where
 pe:PT X e (tDT X.K f)
structure DW(X:Cx)(e:tF)(f:Ev):Prop where
 pe:PW X e (tDT X.K f)
def DW.dt(h:DW X a f):DT X a f:=⟨PW.pt h.pe⟩
def XZ(h:PT X a (fO t))(m:∀σ H Q,tD X.K f σ H Q->t σ H Q):DT X a f:=⟨Th h λσ H Q z=>by
 obtain⟨M,E,S,b,S',e,r,st,q⟩:=z
 refine m _ _ _ ⟨M,E,S,_,S',e,r,st,λv H1 M1 g1 st1 r1=>?_⟩
 cases NT r1
 exact⟨_,rfl,q _ M1 g1 st1⟩⟩
def Hm(h:DE X a f)(he:x0 (∀whole,isTrue a X.env whole=(do let v<-whole;standAt a.pos;holding [v] (truthy v))) ww):DT X a f:=XZ (t:=tD X.K f) (fI h.pe he) λ_ _ _ z=>z
def Dg{f:Op2}(ho:OpR X (compareOp op) (rOp X.K f))(ha:DE X a fa)(hb:DE X b fb)(hm:x0 (behindInMarks op b=false) wv):DT X (.Compare a [op] [b] pos) (eOp (o2 f) [fa,fb]):=
 XZ (VE ho ha.pe hb.pe hm) λ_ _ _ h=>RN h
def Hn(ha:DT X a f):DT X (.UnaryOp .Not a pos) (GP f):=⟨Th (eB ha.pe) λσ H Q z=>by
 obtain⟨M,E,S,b,S',e,r,st,q⟩:=z
 obtain⟨⟨w1,S1⟩,e1,e⟩:=Af e
 dsimp only at e
 split at e
 .cases e
  exact⟨M,E,S,_,_,e1,r,st,q⟩
 .cases e⟩
def Za(ha:DT X a f):DW X (.BoolOp .And [a] pos) f:=⟨bu ha.pe⟩
def Yw(ha:DT X a f):DW X (.BoolOp .Or [a] pos) f:=⟨gN ha.pe⟩
def TX(h:PW X e t)(m:∀σ H Q,t' σ H Q->t σ H Q):PW X e t':=λwh pins s σ H Q I q=>h wh pins s σ H Q I (m _ _ _ q)
def fE(ha:DT X a f)(hb:DW X (.BoolOp .And (b::rest) pos) g):DW X (.BoolOp .And (a::b::rest) pos) (Ff f g):=⟨TX (iG ha.pe hb.pe) λσ H Q z=>by
 obtain⟨M,E,S,k,S',e,r,st,q⟩:=z
 obtain⟨⟨w1,S1⟩,e1,e⟩:=Af e
 dsimp only at e
 split at e
 .refine⟨M,E,S,_,S1,e1,r,st,λH1 M1 g1 st1=>?_⟩
  refine YD ?_
  exact⟨M1,E,S1,k,S',e,r.step g1.st,st1,λH2 M2 g2 st2=>q _ M2 (g1.trans g2) st2⟩
 .cases e
  refine⟨M,E,S,_,_,e1,r,st,λH1 M1 g1 st1=>?_⟩
  refine Yt ?_
  exact q _ M1 g1 st1
 .cases e⟩
def dz(ha:DT X a f)(hb:DW X (.BoolOp .Or (b::rest) pos) g):DW X (.BoolOp .Or (a::b::rest) pos) (eOr f g):=⟨TX (lF ha.pe hb.pe) λσ H Q z=>by
 obtain⟨M,E,S,k,S',e,r,st,q⟩:=z
 obtain⟨⟨w1,S1⟩,e1,e⟩:=Af e
 dsimp only at e
 split at e
 .refine⟨M,E,S,_,S1,e1,r,st,λH1 M1 g1 st1=>?_⟩
  refine Yt ?_
  exact⟨M1,E,S1,k,S',e,r.step g1.st,st1,λH2 M2 g2 st2=>q _ M2 (g1.trans g2) st2⟩
 .cases e
  refine⟨M,E,S,_,_,e1,r,st,λH1 M1 g1 st1=>?_⟩
  refine YD ?_
  exact q _ M1 g1 st1
 .cases e⟩
def pE(hc:DT X c f)(ha:DE X a g)(hb:DE X b h):DE X (.IfExp c a b pos) (eIf f g h):=⟨BI (XX hc.pe ha.pe hb.pe) λσ H Q z=>by
 obtain⟨M,E,S,d,S',e,r,st,q⟩:=z
 obtain⟨⟨w1,S1⟩,e1,e⟩:=Af e
 dsimp only at e
 split at e
 .refine⟨M,E,S,_,S1,e1,r,st,λH1 M1 g1 st1=>?_⟩
  refine YD ?_
  exact⟨M1,E,S1,d,S',e,r.step g1.st,st1,λv H2 M2 g2 st2 r2=>q _ _ M2 (g1.trans g2) st2 r2⟩
 .refine⟨M,E,S,_,S1,e1,r,st,λH1 M1 g1 st1=>?_⟩
  refine Yt ?_
  exact⟨M1,E,S1,d,S',e,r.step g1.st,st1,λv H2 M2 g2 st2 r2=>q _ _ M2 (g1.trans g2) st2 r2⟩
 .cases e⟩
end
inductive Fl where
 |nx
 |ret (d:D)
abbrev Ex:=En->Sto->qz (Fl×En×Sto)
def End(K:W1)(M:Ms)(H:Hp)(Dn:Ends)(E':En)(S':Sto):Fl->Prop
 | .nx=>∀σ' H' M',Gr M H M' H'->EnR K M' E' σ' H'->StR K M' S' H'->Dn.nx σ' H'
 | .ret d=>∀v H' M',Gr M H M' H'->StR K M' S' H'->Be K M' H' v d->Dn.rt v H'
inductive tX(K:W1)(f:Ex)(Dn:Ends)(σ:Sg)(H:Hp):Prop
 |mk (M:Ms) (E:En) (S:Sto) (fl:Fl) (E':En) (S':Sto) (e:f E S=Gc (fl,E',S')) (r:EnR K M E σ H) (st:StR K M S H) (q:End K M H Dn E' S' fl)
structure DS(X:Cx)(st:sP)(f:Ex):Prop where
 pe:PS X st (tX X.K f)
structure DSs(X:Cx)(st:Wp sP)(f:Ex):Prop where
 pe:PSs X st (tX X.K f)
def Fe(h:PS X e t)(m:∀Dn σ H,t' Dn σ H->t Dn σ H):PS X e t':=λpins s σ H Dn I q=>h pins s σ H Dn I (m _ _ _ q)
def N9(h:PSs X e t)(m:∀Dn σ H,t' Dn σ H->t Dn σ H):PSs X e t':=λpins s σ H Dn I q=>h pins s σ H Dn I (m _ _ _ q)
def End.later{M M1:Ms}(q:End K M H Dn E' S' fl)(g:Gr M H M1 H1):End K M1 H1 Dn E' S' fl:=by
 cases fl with
 |nx=>exact λσ' H' M' g' r st=>q σ' H' M' (g.trans g') r st
 |ret d=>exact λv H' M' g' st r=>q v H' M' (g.trans g') st r
noncomputable def AN(f g:Ex):Ex:=λE S=>(f E S).bind λr=>match r.1 with
 | .nx=>g r.2.1 r.2.2
 | .ret w=>Gc (.ret w,r.2)
noncomputable def Bb:Ex:=λE S=>Gc (.nx,E,S)
section
variable{X:Cx}{st:sP}{rest a b:Wp sP}{f g h:Ex}{c e:tF}{k:Ev}{pos:Pos}
def B6:DSs X [] Bb:=⟨N9 bH λDn σ H z=>by
 obtain⟨M,E,S,fl,E',S',e,r,st,q⟩:=z
 cases e
 exact q _ _ M (.refl st.mo) r st⟩
def AY(h1:DS X st f)(h2:DSs X rest g):DSs X (st::rest) (AN f g):=⟨N9 (RK h1.pe h2.pe) λDn σ H z=>by
 obtain⟨M,E,S,fl,E',S',e,r,st,q⟩:=z
 obtain⟨⟨f1,E1,S1⟩,e1,e⟩:=Af e
 dsimp only at e
 split at e
 .exact⟨M,E,S,.nx,E1,S1,e1,r,st,λσ1 H1 M1 g1 r1 st1=>⟨M1,E1,S1,fl,E',S',e,r1,st1,q.later g1⟩⟩
 .cases e
  exact⟨M,E,S,.ret _,_,_,e1,r,st,q⟩⟩
def AW(h1:DS X st f):DSs X [st] f:=⟨N6 h1.pe⟩
noncomputable def xIf(c:Ev)(f g:Ex):Ex:=λE S=>(c E S).bind λr=>match r.1 with
 | .bl true=>f E r.2
 | .bl false=>g E r.2
 |_=>none
def FJ(hc:DT X c k)(ha:DSs X a f)(hb:DSs X b g):DS X (.If c a b pos) (xIf k f g):=⟨Fe (kP hc.pe ha.pe hb.pe) λDn σ H z=>by
 obtain⟨M,E,S,fl,E',S',e,r,st,q⟩:=z
 obtain⟨⟨w1,S1⟩,e1,e⟩:=Af e
 dsimp only at e
 split at e
 .refine⟨M,E,S,_,S1,e1,r,st,λH1 M1 g1 st1=>?_⟩
  refine YD ?_
  exact⟨M1,E,S1,fl,E',S',e,r.step g1.st,st1,q.later g1⟩
 .refine⟨M,E,S,_,S1,e1,r,st,λH1 M1 g1 st1=>?_⟩
  refine Yt ?_
  exact⟨M1,E,S1,fl,E',S',e,r.step g1.st,st1,q.later g1⟩
 .cases e⟩
noncomputable def Ag(k:Ev):Ex:=λE S=>(k E S).map λr=>(.ret r.1,E,r.2)
def CV(h:DE X e k):DS X (.Return (Gc e) pos) (Ag k):=⟨Fe (TZ h.pe) λDn σ H z=>by
 obtain⟨M,E,S,fl,E',S',e,r,st,q⟩:=z
 obtain⟨⟨d,S1⟩,e1,e⟩:=IC e
 cases e
 exact⟨M,E,S,d,S1,e1,r,st,λv H1 M1 g1 st1 r1=>q _ _ M1 g1 st1 r1⟩⟩
end
section
variable{K:W1}
def EnR.put(r:EnR K M E σ H)(rd:Be K M H v d):EnR K M (E.set i (Gc d)) (σ.set i (Gc v)) H:=by
 refine⟨by rw[uK,uK];exact r.len,λj e ej=>?_⟩
 by_cases h:i=j
 .subst h
  by_cases hi:i<E.length
  .rw[rF hi]at ej
   cases ej
   exact⟨v,rF (by rw[<-r.len];exact hi),rd⟩
  .rw[List.getElem?_eq_none_iff.mpr (by rw[uK];lia)]at ej;cases ej
 .rw[rA h]at ej
  obtain⟨v',h1,h2⟩:=r.val j e ej
  exact⟨v',by rw[rA h];exact h1,h2⟩
end
noncomputable def BN(i:Nat)(k:Ev):Ex:=λE S=>(k E S).map λr=>(.nx,E.set i (Gc r.1),r.2)
def HC{X:Cx}{e:tF}{pos pos':Pos} i(h:DE X e k)(hN:X.N.Nodup)(hi:x0 (X.N[i]?=Gc x) wv)(hx:x0 (Loc X.env.scope x) wT)(hs:x0 (swapsWith e (Gc (.Name x pos')) pos.line X.env=pure false) wv)(hf:x0 (X.fn x=true\/X.env.scope.names.lookup x=Gc .local) wS):DS X (.Assign [.Name x pos'] e pos) (BN i k):=⟨
 Fe (YW hN hi hx h.pe hs hf) λDn σ H z=>by
  obtain⟨M,E,S,fl,E',S',e,r,st,q⟩:=z
  obtain⟨⟨d,S1⟩,e1,e⟩:=IC e
  cases e
  exact⟨M,E,S,d,S1,e1,r,st,λv H1 M1 g1 st1 r1=>q _ _ M1 g1 ((r.step g1.st).put r1) st1⟩⟩
noncomputable def BP(k:Ev):Ex:=λE S=>(k E S).map λr=>(.nx,E,r.2)
def Dq(h:DE X e k)(hs:x0 (swapsWith e none pos.line X.env=pure false) wv):DS X (.Expr e pos) (BP k):=⟨Fe (Zk h.pe hs) λDn σ H z=>by
 obtain⟨M,E,S,fl,E',S',e,r,st,q⟩:=z
 obtain⟨⟨d,S1⟩,e1,e⟩:=IC e
 cases e
 exact⟨M,E,S,d,S1,e1,r,st,λv H1 M1 g1 st1 r1=>q _ _ M1 g1 (r.step g1.st) st1⟩⟩
noncomputable def Ea(S:Sto)(n:Nat):qz (Wp D):=match S[n]? with
 |some (.lst ds)=>Gc ds
 |_=>none
def Er(h:Ea S n=Gc ds):S[n]?=Gc (.lst ds):=by
 unfold Ea at h
 split at h
 .rename_i e
  cases h
  exact e
 .cases h
abbrev Mo:=Sto->Wp D->Wp D->qz (D×Wp D)
noncomputable def HG(op:Mo)(f:Ev)(fs:Wp Ev):Ev:=λE S=>(f E S).bind λr=>match r.1 with
 | .ref n=>(Ea r.2 n).bind λ_=>(evs fs E r.2).bind λp=>(Ea p.2 n).bind λds=>(op p.2 ds p.1).map λq=>(q.1,p.2.set n (.lst q.2))
 |_=>none
inductive cj(K:W1)(op:Mo)(x:V)(vs:Wp V)(H:Hp)(Q:VK):Prop
 |mk (M:Ms) (S:Sto) (n:Nat) (a:rL) (ds args:Wp D) (d:D) (ds':Wp D) (hx:x=.ref a) (hc:M.cel[n]?=Gc a) (hn:S[n]?=Gc (.lst ds)) (e:op S ds args=Gc (d,ds')) (st:StR K M S H) (ra:Ab K M H vs args) (q:∀v H',StR K M (S.set n (.lst ds')) H'->Gr M H M H'->Be K M H' v d->Q v H')
section
variable{X:Cx}
def YK(h:tD X.K (HG op f fs) σ H Q):tBM X.K "list" (cj X.K op) (tD X.K f) (tDs X.K fs) σ H Q:=by
 obtain⟨M,E,S,d,S',e,r,st,q⟩:=h
 obtain⟨⟨d1,S1⟩,e1,e⟩:=Af e
 dsimp only at e
 split at e
 .rename_i n
  obtain⟨ds0,e2,e⟩:=Af e
  obtain⟨⟨args,S2⟩,e3,e⟩:=Af e
  obtain⟨ds,e4,e⟩:=Af e
  obtain⟨⟨dd,ds'⟩,e5,e⟩:=IC e
  cases e
  refine⟨M,E,S,_,S1,e1,r,st,λv H1 M1 g1 st1 r1=>?_⟩
  cases r1 with
  |ref hc=>
   rename_i a
   obtain⟨xs,h1,h2⟩:=st1.cell n a _ hc (Er e2)
   refine⟨.inl ⟨rfl,xs,.of h1⟩,?_⟩
   refine FN e3 (r.step g1.st) st1 λvs H2 M2 g2 st2 r2=>?_
   exact⟨M2,S2,n,a,ds,args,dd,ds',rfl,Ll g2.pre hc,Er e4,e5,st2,r2,λv H3 st3 g3 r3=>q _ _ M2 ((g1.trans g2).trans g3) st3 r3⟩
 .cases e
def O0{id:vJ}{name:Str}{apos cpos:Pos}(slot:Slot "list" name id)(hty:typeOf (.builtin id)=pure (.type "method_descriptor"))(hm:MtR X id (cj X.K op))(ho:DE X o f)(ha:DEs X (e::es) fs)(hbase:x0 (attributeBase o name X.env (eval o X.env)=eval o X.env) wv)(hfew:x0 (((backTo cpos (rG (e::es) X.env)).all (λx=> !x.1) && (backToKw cpos (keywordEach [] X.env)).all (λx=>x.1.isSome) && decide ((e::es).length+([]:Wp yN).length+(if([]:Wp yN).isEmpty then 0 else 1)<30))=true) wv)(hline:x0 ((apos.endLine==cpos.line)=true) wv)(hs:x0 (rG (e::es) X.env=(false,eval e X.env)::rG es X.env) wv)(hplain:x0 ((backTo cpos (rG es X.env)).any (·.1)=false) wv):DE X (.Call (.Attribute o name apos) (e::es) [] cpos) (HG op f fs):=⟨BI (lV yk slot hty hm ho.pe ha.pe hbase hfew hline hs hplain) λσ H Q z=>YK z⟩
def P2{id:vJ}{apos cpos:Pos}(slot:Slot "list" name id)(hty:typeOf (.builtin id)=pure (.type "method_descriptor"))(hm:MtR X id (cj X.K op))(ho:DE X o f)(hbase:x0 (attributeBase o name X.env (eval o X.env)=eval o X.env) wv)(hline:x0 ((apos.endLine==cpos.line)=true) wv):DE X (.Call (.Attribute o name apos) [] [] cpos) (HG op f []):=⟨BI (iP yk slot hty hm ho.pe hbase hline) λσ H Q z=>YK z⟩
noncomputable def J4:Mo
 |_,ds,[x]=>if ds.length<sizeLine then Gc (.non,ds++[x])else none
 |_,_,_=>none
def Q0(h:Ab K M H vs [d]):∃v,vs=[v]/\Be K M H v d:=by
 cases h with
 |cons h t=>cases t;exact⟨_,rfl,h⟩
def Ln:MtR X "list.append" (cj X.K J4):=by
 intro pins s σ H x vs v us Q I rx rv h
 obtain⟨M,S,n,a,ds,args,d,ds',rfl,hc,hn,e,st,ra,q⟩:=h
 unfold J4 at e
 split at e
 .split at e
  .rename_i hz
   cases e
   obtain⟨xs,h1,h2⟩:=st.cell n a _ hc hn
   obtain⟨y,rfl,ry⟩:=Q0 ra
   obtain⟨st2,g2⟩:=st.chg hc hn (h2.append (.cons ry .nil))
   exact Ot pins s σ H _ _ v us Q I rx rv ⟨a,xs,y,rfl,rfl,h1,by rw[h2.length];exact hz,q _ _ st2 g2 .non⟩
  .cases e
 .cases e
end
noncomputable def M9(k f o:Ev):Ex:=λE S=>(k E S).bind λr=>(f E r.2).bind λb=>(o E b.2).bind λi=>match b.1,i.1 with
 | .ref n,.int j=>(Ea i.2 n).bind λds=>(ixN ds.length j).map λm=>(.nx,E,i.2.set n (.lst (ds.set m r.1)))
 |_,_=>none
def ji {ps pos:Pos}(h:DE X e k)(hb:DE X bs f)(ht:DE X t o)(ha:x0 (∀v,assign (.Subscript bs t ps) X.env v=(do
      let ov ← holding [v] (eval bs X.env)
      let iv ← holding [v, ov] (eval t X.env)
      standAt ps
      holding [v, ov, iv] (setItem ov iv v)
      release [v, ov, iv] [])) wr)
    (hs:x0 (swapsWithSole [.Subscript bs t ps] e pos.line X.env=pure false) wv)(hw:x0 (swappedStores [.Subscript bs t ps] e X.env=pure none) wv)
    (h1:x0 ((assignEach [.Subscript bs t ps] X.env).map (·.2)=[assign (.Subscript bs t ps) X.env]) wv) :
    DS X (.Assign [.Subscript bs t ps] e pos) (M9 k f o):=⟨
  Fe (Yx h.pe (c9 hb.pe ht.pe set_list ha) hs hw h1) fun Dn σ H z => by
    obtain⟨M,E,S,fl,E',S',e,r,st,q⟩:=z
    obtain⟨⟨d,S1⟩,e1,e⟩:=Af e
    obtain⟨⟨b,S2⟩,e2,e⟩:=Af e
    obtain⟨⟨i,S3⟩,e3,e⟩:=Af e
    dsimp only at e e1 e2 e3
    split at e
    · rename_i n j _
      obtain⟨ds,e4,e⟩:=Af e
      obtain⟨m,e5,e⟩:=IC e
      cases e
      refine ⟨M, E, S, d, S1, e1, r, st, fun v H1 M1 g1 st1 r1 => ?_⟩
      refine ⟨M1, E, S1, _, S2, e2, r.step g1.st, st1, fun bv H2 M2 g2 st2 r2 => ?_⟩
      refine ⟨M2, E, S2, _, S3, e3, (r.step g1.st).step g2.st, st2, fun iv H3 M3 g3 st3 r3 => ?_⟩
      cases r3
      cases r2 with
      | ref hc =>
        rename_i a
        have hc3:=Ll g3.pre hc
        obtain⟨xs,h1,h2⟩:=st3.cell n a _ hc3 (Er e4)
        obtain⟨st4,g4⟩:=st3.chg hc3 (Er e4) (h2.set ((r1.step g2.st).step g3.st) m)
        have g:=((g1.trans g2).trans g3).trans g4
        exact ⟨a, xs, j, m, rfl, rfl, h1, by rw [h2.length]; exact e5, q _ _ M3 g (r.step g.st) st4⟩
    · cases e⟩
abbrev Fn:=Wp D->Sto->qz (D×Sto)
noncomputable def flD:Fl->D
 | .nx=>.non
 | .ret d=>d
noncomputable def AV(N:Nat)(body:Ex):Fn:=λds S=>(body (ds.map Gc++rQ (N-ds.length) none) S).map λr=>(flD r.1,r.2.2)
def AS{α:Type}(a:α):α:=Classical.choose (⟨a,rfl⟩:∃x,x=a)
def Ga(a:α):AS a=a:=Classical.choose_spec (⟨a,rfl⟩:∃x,x=a)
inductive spD(K:W1)(np:Nat)(f:Fn)(vs:Wp V)(H:Hp)(Q:VK)(E:XK):Prop
 |mk (M:Ms) (ds:Wp D) (S:Sto) (d:D) (S':Sto) (l:ds.length=np) (e:f ds S=Gc (d,S')) (r:Ab K M H vs ds) (st:StR K M S H) (q:∀v H' M',Gr M H M' H'->StR K M' S' H'->Be K M' H' v d->Q v H')
def Om{α:Type}{xs:Wp α}{i:Nat}{x:α}(h:(xs.map Gc)[i]?=Gc (Gc x)):xs[i]?=Gc x:=by
 rw[rY]at h
 cases e:xs[i]? with
 |none=>rw[e]at h;cases h
 |some y=>rw[e]at h;cases h;rfl
def Ts{α:Type}{xs:Wp (qz α)}{k i:Nat}{x:α}(h:(xs++rQ k none)[i]?=Gc (Gc x)):xs[i]?=Gc (Gc x):=by
 by_cases hi:i<xs.length
 .rw[qv hi]at h;exact h
 .rw[sR (by lia),we]at h
  split at h<;>cases h
def aM{α:Type}{xs:Wp (qz α)}{k i:Nat}{x:qz α}(h:xs[i]?=Gc x):(xs++rQ k none)[i]?=Gc x:=by
 rw[qv (rB.mp h).1];exact h
def EnR.args(r:Ab K M H vs ds) k:EnR K M (ds.map Gc++rQ k none) (vs.map Gc++rQ k none) H:=by
 refine⟨by simp[r.length],λi d e=>?_⟩
 obtain⟨v,h1,h2⟩:=r.get (Om (Ts e))
 exact⟨v,aM (by rw[rY,h1];rfl),h2⟩
def j7(Fu:Fun K x x st f fd)(S:Au N ps (AB st))(hp:ps.length=np)(hb:∀cdv A outer s H E,Ct k (A.deeper (rg x (AB st) s.heap.objs.size f cdv))->DSs (Jj CX0 P w K mg base N x (AB st) f cdv A outer s H E).nox (BH st) b):Kg P w K mg base CX0 (k+1) f fd ps (spD K np (AS (AV N.length b))):=by
 rw[Ga]
 refine Fu.ok S (λvs H Q E h=>?_) (λcdv A outer s H vs Q E hr h=>?_)
 .obtain⟨M,ds,S0,d,S',hl,_,r,_⟩:=h
  have:=r.length
  lia
 .obtain⟨M,ds,S0,d,S',hl,e,r,st,q⟩:=h
  have hlen:=r.length
  refine⟨_,(hb cdv A outer s H E hr).pe,?_⟩
  obtain⟨⟨fl,E',S1⟩,e1,e⟩:=IC e
  cases e
  refine⟨M,_,S0,fl,E',S1,e1,?_,st,?_⟩
  .rw[show L2.start N vs=vs.map Gc++rQ (N.length-ds.length) none from by unfold L2.start;rw[hlen]]
   exact .args r _
  .cases fl with
   |nx=>exact λσ' H' M' g _ st'=>q _ _ M' g st' .non
   |ret d=>exact λv H' M' g st' r'=>q _ _ M' g st' r'
def gJ(S:St.Src K mg x st)(sc:Au N ps (AB st))(hp:ps.length=np)(hbi:∀f fd,Fun K x x st f fd->Binds K fd ps [])(hb:∀f cdv A outer s H E,Ct k (A.deeper (rg x (AB st) s.heap.objs.size f cdv))->DSs (Jj CX0 P w K mg base N x (AB st) f cdv A outer s H E).nox (BH st) b):St.Dfn P w K mg base x (k+1) ps (spD K np (AS (AV N.length b))):=by
 obtain⟨f,fd,Fu,hm⟩:=S.ex
 exact⟨f,fd,hm,Fu.kp,hbi f fd Fu,j7 Fu sc hp λcdv A outer s H E hr=>hb f cdv A outer s H E hr⟩
noncomputable def AD(f:Fn)(fs:Wp Ev):Ev:=λE S=>(evs fs E S).bind λr=>f r.1 r.2
def TC(hn:fs.length=np)(h:tD K (AD f fs) σ H Q):aH (spD K np f) [] E0 (tDs K fs) σ H Q:=by
 obtain⟨M,E,S,d,S',e,r,st,q⟩:=h
 obtain⟨⟨ds,S1⟩,e1,e⟩:=Af e
 refine FN e1 r st λvs H1 M1 g1 st1 r1=>?_
 rw[sj]
 exact⟨M1,ds,S1,d,S',by rw[HX e1];exact hn,e,r1,st1,λv H2 M2 g2 st2 r2=>q _ _ M2 (g1.trans g2) st2 r2⟩
def cK{X:Cx}{k np:Nat}{x:Str}{ps:Wp Str}{p pos:Pos}(d:St.Dfn X.prog X.w X.K X.mg X.base x k ps (spD X.K np f))(hr:Ct k X.A)(hg:Gl X x)(ha:DEs X (e::es) fs)(hn:x0 (fs.length=np) wv)(hdb:x0 ((x==("__debug__":Str))=false) xL)(he:x0 (rG (e::es) X.env=(false,eval e X.env)::rG es X.env) wv)(hpl:x0 ((backTo pos (rG es X.env)).any (·.1)=false) wv):DE X (.Call (.Name x p) (e::es) [] pos) (AD f fs):=⟨BI (St.lE d hr hg ha.pe hdb he hpl) λσ H Q z=>TC hn z⟩
abbrev Tf:=D->En->Sto->qz En
inductive tG(K:W1)(t:Tf)(v:V)(σ:Sg)(H:Hp)(Q:St->Hp->Prop):Prop
 |mk (M:Ms) (d:D) (E E':En) (S:Sto) (e:t d E S=Gc E') (r:EnR K M E σ H) (st:StR K M S H) (rd:Be K M H v d) (q:∀σ',EnR K M E' σ' H->Q σ' H)
structure DG(X:Cx)(tg:tF)(t:Tf):Prop where
 pe:PG X tg (tG X.K t)
noncomputable def tNm(i:Nat):Tf:=λd E _=>Gc (E.set i (Gc d))
def T7(h:PG X e t)(m:∀v σ H Q,t' v σ H Q->t v σ H Q):PG X e t':=λpins s σ H v u Q I r q=>h pins s σ H v u Q I r (m _ _ _ _ q)
def IZ{X:Cx}{pos:Pos} i(hN:X.N.Nodup)(hi:x0 (X.N[i]?=Gc x) wv)(hx:x0 (Loc X.env.scope x) wT)(hf:x0 (X.fn x=true\/X.env.scope.names.lookup x=Gc .local) wS):DG X (.Name x pos) (tNm i):=⟨T7 (bX hN hi hx hf) λv σ H Q z=>by
 obtain⟨M,d,E,E',S,e,r,st,rd,q⟩:=z
 cases e
 exact q _ (r.put rd)⟩
noncomputable def tMs:Wp Tf->Wp D->En->Sto->qz En
 | [],[],E,_=>Gc E
 |t::ts,d::ds,E,S=>(t d E S).bind λE1=>tMs ts ds E1 S
 |_,_,_,_=>none
noncomputable def tTp(ts:Wp Tf):Tf:=λd E S=>match d with
 | .tup ds=>tMs ts ds E S
 | .lst ds=>tMs ts ds E S
 | .ref n=>(Ea S n).bind λds=>tMs ts ds E S
 |_=>none
noncomputable def tGs(K:W1):Wp Tf->TGs
 | []=>nK
 |t::ts=>gh (tG K t) (tGs K ts)
theorem Ql{K:W1}{M:Ms}{H:Hp}{S:Sto}(st:StR K M S H):∀{ts} {ds} {vs} {E E'} {σ} {Q:Sg->Hp->Prop},tMs ts ds E S=Gc E'->EnR K M E σ H->Ab K M H vs ds->(∀σ',EnR K M E' σ' H->Q σ' H)->tGs K ts vs σ H Q
 | [],[],_,E,E',σ,Q,e,r,rd,q=>by
   cases e
   cases rd
   exact⟨rfl,q _ r⟩
 |t::ts,d::ds,_,E,E',σ,Q,e,r,rd,q=>by
  obtain⟨E1,e1,e⟩:=Af e
  cases rd with
  |cons h1 h2=>exact⟨_,_,rfl,M,d,E,E1,S,e1,r,st,h1,λσ1 r1=>Ql st e r1 h2 q⟩
 | [],_::_,_,E,E',σ,Q,e,r,rd,q=>by cases e
 |_::_,[],_,E,E',σ,Q,e,r,rd,q=>by cases e
theorem Nf:∀{ts} {ds} {E E'} {S},tMs ts ds E S=Gc E'->ds.length=ts.length
 | [],[],_,_,_,_=>rfl
 |t::ts,d::ds,E,E',S,e=>by
  obtain⟨E1,e1,e⟩:=Af e
  simp[Nf e]
 | [],_::_,_,_,_,e=>by cases e
 |_::_,[],_,_,_,e=>by cases e
structure DGs(X:Cx)(es:Wp tF)(ts:Wp Tf):Prop where
 pe:PGs X es (tGs X.K ts)
def MJ:DGs X [] []:=⟨aq⟩
def DA(h:DG X e t)(g:DGs X es ts)(hs:x0 ((assignEach (e::es) X.env).map (·.2)=assign e X.env::(assignEach es X.env).map (·.2)) wv):DGs X (e::es) (t::ts):=⟨Wm h.pe g.pe hs⟩
def UQ{X:Cx}{k:Nat}{pos:Pos}(hc:X.calm=true)(h:DGs X es ts)(hn:x0 ((assignEach es X.env).length=ts.length) wv)(hst:x0 ((assignEach es X.env).findIdx? (·.1)=none) wv):DG X (.Tuple es k pos) (tTp ts):=⟨
 T7 (f7 hc h.pe hn hst) λv σ H Q z=>by
  obtain⟨M,d,E,E',S,e,r,st,rd,q⟩:=z
  unfold tTp at e
  split at e
  .cases rd with
   |tup h1 h2=>exact⟨_,_,rfl,.inl h1,by rw[h2.length];exact Nf e,Ql st e r h2 q⟩
  .cases rd with
   |lst h1 n h2=>exact⟨_,_,rfl,.inr h1,by rw[h2.length];exact Nf e,Ql st e r h2 q⟩
  .obtain⟨ds,e1,e⟩:=Af e
   cases rd with
   |ref hc=>
    obtain⟨xs,h1,h2⟩:=st.cell _ _ _ hc (Er e1)
    exact⟨_,_,rfl,.inr h1,by rw[h2.length];exact Nf e,Ql st e r h2 q⟩
  .cases e⟩
noncomputable def Jn(t:Tf)(k:Ev):Ex:=λE S=>(k E S).bind λr=>(t r.1 E r.2).map λE'=>(.nx,E',r.2)
def Vi{pos:Pos}(h:DE X e k)(hg:DG X tg t)(hs:x0 (swapsWithSole [tg] e pos.line X.env=pure false) wv)(hw:x0 (swappedStores [tg] e X.env=pure none) wv)(h1:x0 ((assignEach [tg] X.env).map (·.2)=[assign tg X.env]) wv):DS X (.Assign [tg] e pos) (Jn t k):=⟨Fe (Yx h.pe hg.pe hs hw h1) λDn σ H z=>by
 obtain⟨M,E,S,fl,E',S',e,r,st,q⟩:=z
 obtain⟨⟨d,S1⟩,e1,e⟩:=Af e
 obtain⟨E2,e2,e⟩:=IC e
 cases e
 exact⟨M,E,S,d,S1,e1,r,st,λv H1 M1 g1 st1 r1=>⟨M1,d,E,_,S1,e2,r.step g1.st,st1,r1,λσ' r2=>q _ _ M1 g1 r2 st1⟩⟩⟩
noncomputable def UP(i j:Nat)(f g:Ev):Ex:=λE S=>(evs [f,g] E S).bind λr=>match r.1 with
 | [d,d']=>Gc (.nx,(E.set i (Gc d)).set j (Gc d'),r.2)
 |_=>none
def nU{pt2 pos:Pos}(hc:X.calm=true)(hN:X.N.Nodup)(hi:X.N[i]?=Gc x)(hj:X.N[j]?=Gc y)(hij:i≠j)(hx:X.env.scope.names.lookup x=Gc .local)(hy:X.env.scope.names.lookup y=Gc .local)(ha:DE X a f)(hb:DE X b g)(hw:x0 (swappedStores [.Tuple [.Name x px,.Name y py] kt pt] (.Tuple [a,b] k2 pt2) X.env=pure (Gc [x,y])) wv)(hsa:x0 (rG [a,b] X.env=(false,eval a X.env)::rG [b] X.env) wv)(hsb:x0 (rG [b] X.env=(false,eval b X.env)::rG [] X.env) wv)(hs:x0 (swapsWithSole [.Tuple [.Name x px,.Name y py] kt pt] (.Tuple [a,b] k2 pt2) pos.line X.env=pure false) wv):DS X (.Assign [.Tuple [.Name x px,.Name y py] kt pt] (.Tuple [a,b] k2 pt2) pos) (UP i j f g):=⟨by
 refine Fe (dP hc hN hi hj hij hx hy (NY ha.pe (NY hb.pe Vd hsb) hsa) hw hs) λDn σ H z=>?_
 obtain⟨M,E,S,fl,E',S',e,r,st,q⟩:=z
 obtain⟨⟨ds,S1⟩,e1,e⟩:=Af e
 refine FN (K:=X.K) (fs:=[f,g]) e1 r st λvs H1 M1 g1 st1 r1=>?_
 dsimp only at e
 split at e
 .rename_i d d'
  cases e
  cases r1 with
  |cons h1 t=>
   cases t with
   |cons h2 t=>
    cases t
    exact⟨_,_,rfl,q _ _ M1 g1 (((r.step g1.st).put h1).put h2) st1⟩
 .cases e⟩
noncomputable def Bj:Ex:=λ_ _=>none
def EF:DS X st Bj:=⟨λ_ _ _ _ _ _ z=>by
 obtain⟨M,E,S,fl,E',S',e,_⟩:=z
 cases e⟩
abbrev Gd:=Wp (Nat×Wp D)
def gOk(gs:Gd)(S:Sto):Prop:=∀g∈gs,Ea S g.1=Gc g.2
abbrev Sr:=En->Sto->qz ((Wp D×Gd)×Sto)
structure iB(K:W1)(M:Ms)(H:Hp)(gs:Gd)(ds:Wp D)(J:It):Prop where
 go:∀(i:Nat) (H2:Hp) (M2:Ms) (S2:Sto),Sp1 M H M2 H2->StR K M2 S2 H2->gOk gs S2->i<ds.length->J.go i H2
 stop:∀(i:Nat) (H2:Hp) (M2:Ms) (S2:Sto),Sp1 M H M2 H2->StR K M2 S2 H2->gOk gs S2->ds.length<=i->J.stop i H2
 yld:∀(i:Nat) (H2:Hp) (M2:Ms) (S2:Sto) (x:V) (H3:Hp) (d:D),Sp1 M H M2 H2->StR K M2 S2 H2->gOk gs S2->ds[i]?=Gc d->J.yld i H2 x H3->(∀a o,H2 a=Gc o->H3 a=Gc o)/\Be K M2 H3 x d
inductive tI(K:W1)(s:Sr)(σ:Sg)(H:Hp)(R:It->Hp->Prop):Prop
 |mk (M:Ms) (E:En) (S:Sto) (ds:Wp D) (gs:Gd) (S':Sto) (e:s E S=Gc ((ds,gs),S')) (r:EnR K M E σ H) (st:StR K M S H) (q:∀J H' M',Gr M H M' H'->StR K M' S' H'->iB K M' H' gs ds J->R J H')
structure DI(X:Cx)(tg iter:tF)(s:Sr):Prop where
 pe:PI X tg iter (tI X.K s)
def Nh(h:PI X tg e t)(m:∀σ H R,t' σ H R->t σ H R):PI X tg e t':=λpins s σ H R I q=>h pins s σ H R I (m _ _ _ q)
noncomputable def pX(K:W1)(tl:TE):TI:=λσ H R=>tl σ H λx H1=>∃a,x=.ref a/\(((∃xs,SqL K H1 a xs)/\R (Itl K a) H1)\/((∃xs,SqT K H1 a xs)/\R (Itt K a) H1))
def eK(hl:PE X l tl):PI X tg l (pX X.K tl):=by
 intro pins s σ H R I h
 refine thn (hl pins s σ H _ I h) λv s1 z=>?_
 obtain⟨x,H1,I1,r1,q1⟩:=z
 obtain⟨a,e,q1⟩:=q1
 subst e
 cases r1
 rcases q1 with⟨⟨xs,hq⟩,q⟩|⟨⟨xs,hq⟩,q⟩
 .obtain⟨its,rv,p,hz⟩:=I1.list hq
  refine uU p.isList ?_
  refine⟨s1.heap.objs.size,[s1.heap.objs.size],_,_,H1,rfl,I1.kept (t':=s1.toks) λb o e=>qt _ e,UO a _,⟨_,rW _ rfl,rfl,rfl⟩,λb hb=>?_,q⟩
  have e:b=s1.heap.objs.size:=by simpa using hb
  subst e
  exact I1.ax (q9 _) (I1.hok.fresh (q9 _))
 .obtain⟨its,rv,p,hz⟩:=I1.tuple hq
  refine ua (show s1.heap.IsTuple a its.toArray from p) ?_
  refine⟨s1.heap.objs.size,[s1.heap.objs.size],_,_,H1,rfl,I1.kept (t':=s1.toks) λb o e=>qt _ e,SF a _,⟨_,rW _ rfl,rfl,rfl⟩,λb hb=>?_,q⟩
  have e:b=s1.heap.objs.size:=by simpa using hb
  subst e
  exact I1.ax (q9 _) (I1.hok.fresh (q9 _))
def Ab.get'(h:Ab K M H vs ds)(hi:i<ds.length):∃x,vs[i]?=Gc x:=by
 have:=h.length
 exact⟨vs[i],rE (by lia)⟩
structure SqF(K:W1)(M:Ms)(H:Hp)(gs:Gd)(k:su)(a:rL)(ds:Wp D):Prop where
 keep:∀(H2:Hp) (M2:Ms) (S2:Sto),Sp1 M H M2 H2->StR K M2 S2 H2->gOk gs S2->∃xs,(if k=true then SqT K H2 a xs else SqL K H2 a xs)/\Ab K M2 H2 xs ds
noncomputable def sqD(S:Sto):D->qz (Wp D×Gd)
 | .tup ds=>Gc (ds,[])
 | .lst ds=>Gc (ds,[])
 | .ref n=>(Ea S n).map λds=>(ds,[(n,ds)])
 | .scr ns=>Gc (ns.map .int,[])
 |_=>none
def Qu(st:StR K M S H)(h:Be K M H v d)(e:sqD S d=Gc (ds,gs)):∃k a,v=.ref a/\SqF K M H gs k a ds:=by
 cases h with
 |tup h r=>cases e;exact⟨true,_,rfl,⟨λH2 M2 S2 g _ _=>⟨_,g.sqT h,r.step g⟩⟩⟩
 |lst h n r=>cases e;exact⟨false,_,rfl,⟨λH2 M2 S2 g _ _=>⟨_,SqL.of (g.keep _ _ h n),r.step g⟩⟩⟩
 |scr h=>
  cases e
  refine⟨false,_,rfl,⟨λH2 M2 S2 g _ _=>⟨_,?_,Ky⟩⟩⟩
  rcases h with⟨h,n⟩|h
  .rcases h with h|⟨o,h⟩
   .exact .inl (.inl (g.keep _ _ h n))
   .exact .inl (.inr ⟨o,g.keep _ _ h n⟩)
  .exact .inr h
 |ref h=>
  obtain⟨es,e1,e⟩:=IC e
  cases e
  refine⟨false,_,rfl,⟨λH2 M2 S2 g st2 ok=>?_⟩⟩
  obtain⟨xs,h1,h2⟩:=st2.cell _ _ _ (Ll g.pre h) (Er (ok _ (sF.mpr rfl)))
  exact⟨xs,SqL.of h1,h2⟩
 |non=>cases e
 |bl b=>cases e
 |int b=>cases e
 |str b=>cases e
 |ty b=>cases e
 |dct h n r=>cases e
def kc(h:SqF K M H gs k a ds):iB K M H gs ds (if k=true then Itt K a else Itl K a):=by
 cases k with
 |true=>
  exact{
   go:=λi H2 M2 S2 g st ok hi=>let⟨xs,h1,h2⟩:=h.keep H2 M2 S2 g st ok;let⟨x,hx⟩:=h2.get' hi;⟨xs,x,h1,hx⟩
   stop:=λi H2 M2 S2 g st ok hi=>let⟨xs,h1,h2⟩:=h.keep H2 M2 S2 g st ok;⟨xs,h1,by have:=h2.length;lia⟩
   yld:=λi H2 M2 S2 x H3 d g st ok hd hy=>by
    obtain⟨xs,h1,h2⟩:=h.keep H2 M2 S2 g st ok
    obtain⟨rfl,hy⟩:=hy
    refine⟨λ_ _ e=>e,?_⟩
    have hx:=hy xs h1
    obtain⟨x',h3,h4⟩:=h2.get hd
    rw[hx]at h3;cases h3
    exact h4}
 |false=>
  exact{
   go:=λi H2 M2 S2 g st ok hi=>let⟨xs,h1,h2⟩:=h.keep H2 M2 S2 g st ok;let⟨x,hx⟩:=h2.get' hi;⟨xs,x,h1,hx⟩
   stop:=λi H2 M2 S2 g st ok hi=>let⟨xs,h1,h2⟩:=h.keep H2 M2 S2 g st ok;⟨xs,h1,by have:=h2.length;lia⟩
   yld:=λi H2 M2 S2 x H3 d g st ok hd hy=>by
    obtain⟨xs,h1,h2⟩:=h.keep H2 M2 S2 g st ok
    obtain⟨rfl,hy⟩:=hy
    refine⟨λ_ _ e=>e,?_⟩
    have hx:=hy xs h1
    obtain⟨x',h3,h4⟩:=h2.get hd
    rw[hx]at h3;cases h3
    exact h4}
noncomputable def GO(f:Ev):Sr:=λE S=>(f E S).bind λr=>(sqD r.2 r.1).map λp=>(p,r.2)
def Nz(e:sqD S d=Gc (ds,gs)):gOk gs S:=by
 cases d<;>first|(cases e;done)|skip
 all_goals first
  |(cases e;intro g hg;cases hg;done)
  |(obtain⟨es,e1,e⟩:=IC e
    cases e
    intro g hg
    rw[sF.mp hg]
    exact e1)
def Y4(h:DE X e f):DI X tg e (GO f):=⟨Nh (eK h.pe) λσ H R z=>by
 obtain⟨M,E,S,ds,gs,S',e,r,st,q⟩:=z
 obtain⟨⟨d,S1⟩,e1,e⟩:=Af e
 obtain⟨⟨ds',gs'⟩,e2,e⟩:=IC e
 cases e
 refine⟨M,E,S,d,S1,e1,r,st,λv H1 M1 g1 st1 r1=>?_⟩
 obtain⟨k,a,rfl,sq⟩:=Qu st1 r1 e2
 obtain⟨xs,hs,_⟩:=sq.keep H1 M1 S1 (Gr.refl st1.mo).st st1 (Nz e2)
 have it:=kc sq
 refine⟨a,rfl,?_⟩
 cases k with
 |true=>exact .inr ⟨⟨xs,hs⟩,q _ _ M1 g1 st1 it⟩
 |false=>exact .inl ⟨⟨xs,hs⟩,q _ _ M1 g1 st1 it⟩⟩
noncomputable def OQ(lo:Int)(n:Nat):Wp D:=(tm n).map λ(i:Nat)=>.int (lo+(i:Int))
theorem dk:iB K M H [] (OQ lo n) (Itr lo n) where
 go:=λi H2 M2 S2 g st ok hi=>by
  have:i<n:=by unfold OQ at hi;simpa using hi
  exact this
 stop:=λi H2 M2 S2 g st ok hi=>by
  have:n<=i:=by unfold OQ at hi;simpa using hi
  exact this
 yld:=λi H2 M2 S2 x H3 d g st ok hd hy=>by
  obtain⟨rfl,rfl⟩:=hy
  refine⟨λ_ _ e=>e,?_⟩
  unfold OQ at hd
  rw[rY]at hd
  cases e:(tm n)[i]? with
  |none=>rw[e]at hd;cases hd
  |some j=>
   rw[e]at hd
   cases hd
   have:j=i:=by
    obtain⟨h1,h2⟩:=rB.mp e
    simpa using h2.symm
   subst this
   exact .int _
noncomputable def Sk(fs:Wp Ev):Sr:=λE S=>(evs fs E S).bind λr=>match r.1 with
 | [.int j]=>if(decide (-(2^62)<=j) && decide (j<2^62))=true then Gc ((OQ 0 j.toNat,[]),r.2)else none
 | [.int i,.int j]=>if(decide (-(2^62)<=i) && decide (i<2^62) && decide (-(2^62)<=j) && decide (j<2^62))=true then Gc ((OQ i (j-i).toNat,[]),r.2)else none
 |_=>none
def Nc(h:Ab K M H vs [.int j]):vs=[.int j]:=by
 cases h with
 |cons h t=>cases t;cases h;rfl
def Tc(h:Ab K M H vs [.int i,.int j]):vs=[.int i,.int j]:=by
 cases h with
 |cons h t=>cases h;cases Nc t;rfl
def ZN(hg:Gl X "range")(hm:X.mg "range"=none)(ha:DEs X [a] [o])(hs:x0 (rG [a] X.env=[(false,eval a X.env)]) wv):DI X tg (.Call (.Name "range" p) [a] [] pos) (Sk [o]):=⟨
 Nh (Vm hg hm ha.pe hs) λσ H R z=>by
  obtain⟨M,E,S,ds,gs,S',e,r,st,q⟩:=z
  obtain⟨⟨ws,S1⟩,e1,e⟩:=Af e
  have hl:=HX e1
  refine FN e1 r st λvs H1 M1 g1 st1 r1=>?_
  dsimp only at e
  split at e
  .split at e
   .rename_i j hk
    rw[rH]at hk
    cases e
    exact⟨j,Nc r1,rO hk.1,rO hk.2,q _ _ M1 g1 st1 dk⟩
   .cases e
  .simp at hl
  .cases e⟩
open Classical in
def Kv(gs:Gd)(t:Tf)(body:Ex):Wp D->En->Sto->qz (Fl×En×Sto)
 | [],E,S=>if gOk gs S then Gc (.nx,E,S)else none
 |d::ds,E,S=>if gOk gs S then(t d E S).bind λE1=>(body E1 S).bind λr=>match r.1 with
  | .nx=>Kv gs t body ds r.2.1 r.2.2
  | .ret w=>Gc (.ret w,r.2)
  else none
def NJ(s:Sr)(t:Tf)(body:Ex):Ex:=λE S=>(s E S).bind λr=>Kv r.1.2 t body r.1.1 E r.2
def PC{α:Type}{xs:Wp α}{x:α}{r:Wp α}(h:xs.drop i=x::r):xs[i]?=Gc x/\xs.drop (i+1)=r/\i<xs.length:=by
 have hi:i<xs.length:=by
  by_cases hi:i<xs.length
  .exact hi
  .rw[uz (by lia)]at h;cases h
 rw[tE hi]at h
 cases h
 exact⟨rE hi,rfl,hi⟩
def ZF(hp:PassesOwn (model X.prog X.w) X.A X.env X.xe)(hc:X.calm=true)(hi:DI X tg iter s)(hg:DG X tg t)(hb:DSs X body b)(hs:x0 (∀x,foldedSetIterable iter X.env x=pure x) ww):DS X (.For tg iter body [] pos) (NJ s t b):=⟨Fe (gD hp hc hi.pe hg.pe hb.pe hs) λDn σ H z=>by
 obtain⟨M,E,S,fl,E',S',e,r,st,q⟩:=z
 obtain⟨⟨⟨ds,gs⟩,S1⟩,e1,e⟩:=Af e
 dsimp only at e
 refine⟨M,E,S,ds,gs,S1,e1,r,st,λJ H1 M1 g1 st1 it=>?_⟩
 refine⟨λi m σ' H'=>m=ds.length-i/\∃E2 S2 M2,Kv gs t b (ds.drop i) E2 S2=Gc (fl,E',S')/\Gr M1 H1 M2 H'/\EnR X.K M2 E2 σ' H'/\StR X.K M2 S2 H',⟨_,rfl,E,S1,M1,e,.refl st1.mo,r.step g1.st,st1⟩,λi m σ2 H2 hW=>?_⟩
 obtain⟨rfl,E2,S2,M2,e2,g2,r2,st2⟩:=hW
 cases ed:ds.drop i with
 |nil=>
  rw[ed]at e2
  unfold Kv at e2
  split at e2
  .rename_i ok
   cases e2
   left
   exact⟨it.stop i H2 M2 _ g2.st st2 ok (zZ.mp ed),q _ _ M2 (g1.trans g2) r2 st2⟩
  .cases e2
 |cons d rest=>
  obtain⟨d1,d2,d3⟩:=PC ed
  rw[ed]at e2
  unfold Kv at e2
  split at e2
  .rename_i ok
   obtain⟨E3,e3,e2⟩:=Af e2
   obtain⟨⟨f4,E4,S4⟩,e4,e2⟩:=Af e2
   dsimp only at e2
   right
   refine⟨it.go i H2 M2 S2 g2.st st2 ok d3,λσ' H'=>∃m',m'<ds.length-i/\(m'=ds.length-(i+1)/\∃E2 S2 M2,Kv gs t b (ds.drop (i+1)) E2 S2=Gc (fl,E',S')/\Gr M1 H1 M2 H'/\EnR X.K M2 E2 σ' H'/\StR X.K M2 S2 H'),λσ' H' z=>z,λx H3 hy=>?_⟩
   obtain⟨k3,rx⟩:=it.yld i H2 M2 S2 x H3 d g2.st st2 ok d1 hy
   have g3:Gr M2 H2 M2 H3:=.grow st2.mo k3
   refine⟨M2,d,E2,E3,S2,e3,r2.step g3.st,st2.grow k3,rx,λσ4 r4=>?_⟩
   refine⟨M2,E3,S2,f4,E4,S4,e4,r4,st2.grow k3,?_⟩
   split at e2
   .exact λσ6 H6 M6 g6 r6 st6=>⟨_,zb _ _ d3,rfl,E4,S4,M6,by rw[d2];exact e2,(g2.trans g3).trans g6,r6,st6⟩
   .cases e2
    exact λv H6 M6 g6 st6 r6=>q _ _ M6 (((g1.trans g2).trans g3).trans g6) st6 r6
  .cases e2⟩
noncomputable def Fw(c:Ev)(b:Ex):Nat->En->Sto->qz (Fl×En×Sto)
 |0,_,_=>none
 |k+1,E,S=>(c E S).bind λr=>match r.1 with
  | .bl true=>(b E r.2).bind λp=>match p.1 with
    | .nx=>Fw c b k p.2.1 p.2.2
    | .ret w=>Gc (.ret w,p.2)
  | .bl false=>Gc (.nx,E,r.2)
  |_=>none
noncomputable def JM(fuel:En->Nat)(c:Ev)(b:Ex):Ex:=λE S=>Fw c b (fuel E) E S
def Xp fuel(hp:PassesOwn (model X.prog X.w) X.A X.env X.xe)(hc:DT X c k)(hb:DSs X body b):DS X (.While c body [] pos) (JM fuel k b):=⟨
 Fe (Xy hp hc.pe hb.pe) λDn σ H z=>by
  obtain⟨M,E,S,fl,E',S',e,r,st,q⟩:=z
  refine⟨λm σ' H'=>∃E2 S2 M2,Fw k b m E2 S2=Gc (fl,E',S')/\Gr M H M2 H'/\EnR X.K M2 E2 σ' H'/\StR X.K M2 S2 H',⟨fuel E,E,S,M,e,.refl st.mo,r,st⟩,λm σ2 H2 hW=>?_⟩
  obtain⟨E2,S2,M2,e2,g2,r2,st2⟩:=hW
  cases m with
  |zero=>cases e2
  |succ m=>
   obtain⟨⟨w3,S3⟩,e3,e2⟩:=Af e2
   dsimp only at e2
   split at e2
   .obtain⟨⟨f4,E4,S4⟩,e4,e2⟩:=Af e2
    refine⟨M2,E2,S2,true,S3,e3,r2,st2,λH3 M3 g3 st3=>?_⟩
    refine YD ⟨λσ' H'=>∃m',m'<m+1/\∃E2 S2 M2,Fw k b m' E2 S2=Gc (fl,E',S')/\Gr M H M2 H'/\EnR X.K M2 E2 σ' H'/\StR X.K M2 S2 H',λσ' H' z=>z,?_⟩
    refine⟨M3,E2,S3,f4,E4,S4,e4,r2.step g3.st,st3,?_⟩
    dsimp only at e2
    split at e2
    .exact λσ5 H5 M5 g5 r5 st5=>⟨m,by lia,E4,S4,M5,e2,(g2.trans g3).trans g5,r5,st5⟩
    .cases e2
     exact λv H5 M5 g5 st5 r5=>q _ _ M5 ((g2.trans g3).trans g5) st5 r5
   .cases e2
    refine⟨M2,_,S2,false,_,e3,r2,st2,λH3 M3 g3 st3=>?_⟩
    refine Yt ?_
    exact q _ _ M3 (g2.trans g3) (r2.step g3.st) st3
   .cases e2⟩
noncomputable def UY(i:Nat):En->Nat:=λE=>match at? E i with
 |some (.int j)=>j.natAbs+2
 |_=>0
section
variable{M M' M2:Ms}{H H' H2:Hp}{S:Sto}
structure GrX(M:Ms)(H:Hp)(M':Ms)(H':Hp):Prop where
 pre:M.cel <+: M'.cel
 fresh:∀a,a∈M'.cel->a∈M.cel\/H a=none
 keep:∀a o,H a=Gc o->a∉M.cel->H' a=Gc o
 some:∀a,H a≠none->H' a≠none
def GrX.none(g:GrX M H M' H')(h:H' a=none):H a=none:=by
 cases e:H a with
 |none=>rfl
 |some o=>exact absurd h (g.some a (by rw[e];intro z;cases z))
def Gr.x(g:Gr M H M' H'):GrX M H M' H':=⟨g.pre,g.fresh,g.keep,g.some⟩
def GrX.trans(h:GrX M H M' H')(g:GrX M' H' M2 H2):GrX M H M2 H2:=
 ⟨h.pre.trans g.pre,λa z=>(g.fresh a z).elim (h.fresh a) λz=>.inr (h.none z),λa o e n=>g.keep a o (h.keep a o e n) (λz=>by
   rcases h.fresh a z with z|z
   .exact n z
   .rw[e]at z;cases z),λa e=>g.some a (h.some a e)⟩
def StR.gv(r:StR K M S H)(e:H a=none):StR K ⟨M.cel,a::M.tmp⟩ S (upd H a (.lst []))/\GrX M H ⟨M.cel,a::M.tmp⟩ (upd H a (.lst []))/\Sp1 M H ⟨M.cel,a::M.tmp⟩ (upd H a (.lst [])):=by
 have k:∀b o,H b=Gc o->upd H a (.lst []) b=Gc o:=Hz e
 have na:¬M.mem a:=λz=>r.mo.some z e
 have s1:Sp1 M H ⟨M.cel,a::M.tmp⟩ (upd H a (.lst [])):=⟨r.mo,uC,λb z=>by
  rcases z with z|z
  .exact .inl (.inl z)
  .rcases qy.mp z with z|z
   .subst z;exact .inr e
   .exact .inl (.inr z),λb o eb _=>k b o eb⟩
 refine⟨⟨λb z=>?_,r.nd,λb hb z=>?_,r.len,λn b c h1 h2=>?_⟩,⟨uC,λb z=>.inl z,λb o eb _=>k b o eb,λb eb z=>?_⟩,s1⟩
 .by_cases h:b=a
  .subst h;exact⟨_,Ax,trivial⟩
  .rw[Ae h]
   refine r.mo b ?_
   rcases z with z|z
   .exact .inl z
   .rcases qy.mp z with z|z
    .exact absurd z h
    .exact .inr z
 .rcases qy.mp hb with hb|hb
  .subst hb;exact na (.inl z)
  .exact r.nt b hb z
 .exact(r.cell n b c h1 h2).step s1 λo e=>k _ _ e
 .cases h:H b with
  |none=>exact eb h
  |some o=>rw[k b o h]at z;cases z
def StR.Z8(r:StR K M S H)(ha:a∈M.tmp):StR K M S (upd H a (.lst ys))/\Sp1 M H M (upd H a (.lst ys)):=by
 have s1:Sp1 M H M (upd H a (.lst ys)):=⟨r.mo,uC,λb z=>.inl z,λb o eb nb=>by rw[Ae (λz=>nb (by rw[z];exact .inr ha))];exact eb⟩
 refine⟨⟨λb z=>?_,r.nd,r.nt,r.len,λn b c h1 h2=>?_⟩,s1⟩
 .by_cases h:b=a
  .subst h;exact⟨_,Ax,trivial⟩
  .rw[Ae h];exact r.mo b z
 .have hb:b≠a:=λz=>r.nt a ha (by rw[<-z];exact rV h1)
  exact(r.cell n b c h1 h2).step s1 λo e=>by rw[Ae hb];exact e
def StR.ay(r:StR K ⟨c,a::t⟩ S H)(nt:a∉t)(e:H a=Gc (.lst xs))(rr:Ab K ⟨c,a::t⟩ H xs ds)(ef:fin cf (.own ds) S=Gc (d,S')):∃c',StR K ⟨c',t⟩ S' H/\Be K ⟨c',t⟩ H (.ref a) d/\c <+: c'/\(∀b∈c',b∈c\/b=a):=by
 have nc:a∉c:=r.nt a rM
 cases cf with
 |false=>
  cases ef
  have s1:Sp1 ⟨c,a::t⟩ H ⟨c,t⟩ H:=⟨r.mo,uC,λb z=>.inl (z.imp id (rC _)),λ_ _ e _=>e⟩
  refine⟨c,⟨λb z=>r.mo b (z.imp id (rC _)),r.nd,λb hb=>r.nt b (rC _ hb),r.len,λn b cl h1 h2=>?_⟩,.lst e (λz=>z.elim nc nt) (rr.step s1),uC,λb z=>.inl z⟩
  exact(r.cell n b cl h1 h2).step s1 λo e=>e
 |true=>
  cases ef
  have s1:Sp1 ⟨c,a::t⟩ H ⟨c++[a],t⟩ H:=⟨r.mo,wc _ _,λb z=>by
   rcases z with z|z
   .rcases rf.mp z with z|z
    .exact .inl (.inl z)
    .exact .inl (.inr (by rw[sF.mp z];exact rM))
   .exact .inl (.inr (rC _ z)),λ_ _ e _=>e⟩
  have hl:c.length=S.length:=r.len
  refine⟨c++[a],⟨λb z=>?_,?_,λb hb z=>?_,by simp[hl],λn b cl h1 h2=>?_⟩,.ref ?_,wc _ _,λb z=>?_⟩
  .refine r.mo b ?_
   rcases z with z|z
   .rcases rf.mp z with z|z
    .exact .inl z
    .exact .inr (by rw[sF.mp z];exact rM)
   .exact .inr (rC _ z)
  .rw[uA]
   refine⟨r.nd,by simp,λx hx y hy z=>?_⟩
   simp at hy;subst hy
   exact nc (by rw[<-z];exact hx)
  .rcases rf.mp z with z|z
   .exact r.nt b (rC _ hb) z
   .rw[sF.mp z]at hb;exact nt hb
  .by_cases h:n<S.length
   .rw[qv (by rw[hl];exact h)]at h1
    rw[qv h]at h2
    exact(r.cell n b cl h1 h2).step s1 λo e=>e
   .have hm:n=S.length:=by
     have:=(rB.mp h2).1
     simp at this;lia
    subst hm
    rw[sR (by rw[hl];exact q9 _)]at h1
    rw[sR (q9 _)]at h2
    rw[hl]at h1
    simp at h1 h2
    subst h1 h2
    exact⟨xs,e,rr.step s1⟩
  .rw[<-hl];exact rZ
  .rcases rf.mp z with z|z
   .exact .inl z
   .exact .inr (sF.mp z)
end
open Classical in
def Bl(gs:Gd)(t:Tf)(c:Ev)(f:Ev):Wp D->Wp D->En->Sto->qz (Wp D×Sto)
 | [],acc,_,S=>if gOk gs S then Gc (acc,S)else none
 |d::ds,acc,E,S=>if gOk gs S then(if acc.length<sizeLine then(t d E S).bind λE1=>(c E1 S).bind λr=>match r.1 with
   | .bl true=>(f E1 r.2).bind λp=>Bl gs t c f ds (acc++[p.1]) E1 p.2
   | .bl false=>Bl gs t c f ds acc E1 r.2
   |_=>none
  else none)else none
noncomputable def BX:Ev:=λ_ S=>Gc (.bl true,S)
noncomputable def Q7(cap:Wp Nat)(m:Nat)(E:En):En:=cap.map (at? E)++rQ m none
def NN(cf:su)(cap:Wp Nat)(m:Nat)(s:Sr)(t:Tf)(c:Ev)(f:Ev):Ev:=λE S=>(s E S).bind λr=>(Bl r.1.2 t c f r.1.1 [] (Q7 cap m E) r.2).bind λq=>fin cf (.own q.1) q.2
noncomputable abbrev B8:=NN false
noncomputable abbrev Y8:=NN true
noncomputable def ixC(cap:Wp Nat)(m:Nat):Wp (qz Nat):=cap.map Gc++rQ m none
def EnR.cap(r:EnR K M E σ H) cap m:EnR K M (Q7 cap m E) (sig (ixC cap m) σ) H:=by
 unfold Q7 sig ixC
 refine⟨by simp,λi d e=>?_⟩
 have h1:=Ts e
 rw[rY]at h1
 cases e1:cap[i]? with
 |none=>rw[e1]at h1;cases h1
 |some j=>
  rw[e1]at h1
  have h2:at? E j=Gc d:=by simpa using h1
  obtain⟨v,hv,rd⟩:=r.val j d (at?_some h2)
  refine⟨v,?_,rd⟩
  have hi:i<cap.length:=(rB.mp e1).1
  rw[vm,qv (by simpa using hi),rY,rY,e1]
  show Gc ((σ[j]?).join)=Gc (Gc v)
  rw[hv]
  rfl
def TU(h:tD K (NN cf cap m s t c f) σ H Q):aA (ixC cap m) (tI K s) (tG K t) (tDT K c) (tD K f) σ H Q:=by
 obtain⟨M,E,S,d,S',e,r,st,q⟩:=h
 obtain⟨⟨⟨ds,gs⟩,S1⟩,e1,e⟩:=Af e
 obtain⟨⟨accf,Sf⟩,e3,e⟩:=Af e
 dsimp only at e e3
 refine⟨M,E,S,ds,gs,S1,e1,r,st,λJ H1 M1 g1 st1 it A0 hD=>?_⟩
 obtain⟨st0,gx0,s0⟩:=st1.gv hD
 have nt:A0∉M1.tmp:=λz=>st1.mo.some (.inr z) hD
 refine⟨λi mm σ' H' ys=>mm=ds.length-i/\∃Ei Si Mi acc,Bl gs t c f (ds.drop i) acc Ei Si=Gc (accf,Sf)/\GrX M1 H1 Mi H'/\Mi.tmp=A0::M1.tmp/\EnR K Mi Ei σ' H'/\StR K Mi Si H'/\H' A0=Gc (.lst ys)/\Ab K Mi H' ys acc,
  ⟨_,rfl,_,S1,_,[],e3,gx0,rfl,((r.step g1.st).step s0).cap cap m,st0,Ax,.nil⟩,λi mm σ2 H2 ys hW=>?_⟩
 obtain⟨rfl,Ei,Si,Mi,acc,ec,gx,ht,r2,st2,hy,ry⟩:=hW
 have sp:Sp1 M1 H1 Mi H2:=⟨st1.mo,gx.pre,λa z=>by
  rcases z with z|z
  .exact(gx.fresh a z).imp .inl id
  .rw[ht]at z
   rcases qy.mp z with z|z
   .subst z;exact .inr hD
   .exact .inl (.inr z),λa o eo no=>gx.keep a o eo λz=>no (.inl z)⟩
 refine⟨hy,?_⟩
 cases ed:ds.drop i with
 |nil=>
  rw[ed]at ec
  unfold Bl at ec
  split at ec
  .rename_i ok
   cases ec
   left
   obtain⟨ci,ti⟩:=Mi
   have ht':ti=A0::M1.tmp:=ht
   subst ht'
   obtain⟨c',st',rd',pr',sub'⟩:=st2.ay nt hy ry e
   refine⟨it.stop i H2 _ _ sp st2 ok (zZ.mp ed),q _ _ ⟨c',M1.tmp⟩ (g1.trans ⟨st1.mo,gx.pre.trans pr',rfl,λa z=>?_,gx.keep,gx.some⟩) st' rd'⟩
   rcases sub' a z with z|z
   .exact gx.fresh a z
   .subst z;exact .inr hD
  .cases ec
 |cons d rest=>
  obtain⟨d1,d2,d3⟩:=PC ed
  rw[ed]at ec
  unfold Bl at ec
  split at ec
  .rename_i ok
   split at ec
   .rename_i hz
    obtain⟨E3,e4,ec⟩:=Af ec
    obtain⟨⟨w5,S5⟩,e5,ec⟩:=Af ec
    right
    refine⟨it.go i H2 Mi Si sp st2 ok d3,by rw[ry.length];exact hz,λx H3 hyl=>?_⟩
    obtain⟨k3,rx⟩:=it.yld i H2 Mi Si x H3 d sp st2 ok d1 hyl
    have g3:Gr Mi H2 Mi H3:=.grow st2.mo k3
    have st3:=st2.grow k3
    refine⟨Mi,d,Ei,E3,Si,e4,r2.step g3.st,st3,rx,λσ4 r4=>?_⟩
    have hA:A0∈Mi.tmp:=by rw[ht];exact rM
    have hy3:H3 A0=Gc (.lst ys):=k3 _ _ hy
    have ry3:Ab K Mi H3 ys acc:=ry.step g3.st
    have fin:∀{E6:En} {S6:Sto} {M6:Ms} {H6:Hp} {zs:Wp V} {acc6:Wp D},Bl gs t c f rest acc6 E6 S6=Gc (accf,Sf)->GrX M1 H1 M6 H6->M6.tmp=A0::M1.tmp->EnR K M6 E6 σ4 H6->StR K M6 S6 H6->H6 A0=Gc (.lst zs)->Ab K M6 H6 zs acc6->
      ∃m',m'<ds.length-i/\(m'=ds.length-(i+1)/\∃Ei Si Mi acc,Bl gs t c f (ds.drop (i+1)) acc Ei Si=Gc (accf,Sf)/\GrX M1 H1 Mi H6/\Mi.tmp=A0::M1.tmp/\EnR K Mi Ei σ4 H6/\StR K Mi Si H6/\H6 A0=Gc (.lst zs)/\Ab K Mi H6 zs acc):=
     λ{E6 S6 M6 H6 zs acc6} ec g6 t6 r6 st6 h6 y6=>⟨_,zb _ _ d3,rfl,E6,S6,M6,acc6,by rw[d2];exact ec,g6,t6,r6,st6,h6,y6⟩
    dsimp only at ec
    split at ec
    .obtain⟨⟨w7,S7⟩,e7,ec⟩:=Af ec
     refine⟨Mi,E3,Si,true,S5,e5,r4,st3,λH5 M5 g5 st5=>?_⟩
     refine YD ?_
     refine⟨M5,E3,S5,w7,S7,e7,r4.step g5.st,st5,λy H7 M7 g7 st7 d7=>?_⟩
     have nA:∀{M6:Ms} {H6:Hp} {S6:Sto},StR K M6 S6 H6->A0∈M6.tmp->A0∉M6.cel:=λr6 h6=>r6.nt A0 h6
     have hA5:A0∈M5.tmp:=by rw[g5.tmp];exact hA
     have hA7:A0∈M7.tmp:=by rw[g7.tmp];exact hA5
     have hy5:H5 A0=Gc (.lst ys):=g5.keep _ _ hy3 (nA st3 hA)
     have hy7:H7 A0=Gc (.lst ys):=g7.keep _ _ hy5 (nA st5 hA5)
     have ry7:Ab K M7 H7 ys acc:=(ry3.step g5.st).step g7.st
     refine⟨hy7,?_⟩
     obtain⟨st8,s8⟩:=st7.Z8 (ys:=ys++[y]) hA7
     have gx7:GrX M1 H1 M7 H7:=((gx.trans g3.x).trans g5.x).trans g7.x
     have gx8:GrX M1 H1 M7 (upd H7 A0 (.lst (ys++[y]))):=⟨gx7.pre,gx7.fresh,λa o eo no=>by
      rw[Ae (λz=>by subst z;rw[hD]at eo;cases eo)]
      exact gx7.keep a o eo no,λa ea=>by
      by_cases h:a=A0
      .subst h;rw[Ax];intro z;cases z
      .rw[Ae h];exact gx7.some a ea⟩
     exact fin ec gx8 (by rw[g7.tmp,g5.tmp];exact ht) (((r4.step g5.st).step g7.st).step s8) st8 Ax ((ry7.append (.cons d7 .nil)).step s8)
    .refine⟨Mi,E3,Si,false,S5,e5,r4,st3,λH5 M5 g5 st5=>?_⟩
     refine Yt ?_
     exact fin ec ((gx.trans g3.x).trans g5.x) (by rw[g5.tmp];exact ht) (r4.step g5.st) st5 (g5.keep _ _ hy3 (st3.nt A0 hA)) (ry3.step g5.st)
    .cases ec
   .cases ec
  .cases ec
structure DTs(X:Cx)(ifs:Wp tF)(c:Ev):Prop where
 pe:PTs X ifs (tDT X.K c)
def Xw(h:PTs X e t)(m:∀σ H Q,t' σ H Q->t σ H Q):PTs X e t':=λpins s σ H Q I q=>h pins s σ H Q I (m _ _ _ q)
def QI:DTs X [] BX:=⟨Xw bR λσ H Q z=>by
 obtain⟨M,E,S,b,S',e,r,st,q⟩:=z
 cases e
 exact q _ M (.refl st.mo) st⟩
def mO(h:DT X c f):DTs X [c] f:=⟨bN h.pe⟩
section
variable{X:Cx}{N':Wp Str}{cf:su}{scope:uf}{elt tg iter:tF}{pos:Pos}{t:Tf}
def Blk(X:Cx)(N':Wp Str)(scope:uf)(tg:tF)(ifs:Wp tF)(elt:tF)(t:Tf)(c f:Ev):Prop:=
 ∀(s:rP) (H:Hp) (fp:Wp rL),DG (Hg X N' scope s H fp) tg t/\DTs (Hg X N' scope s H fp) ifs c/\DE (Hg X N' scope s H fp) elt f
def P9 cap m N'(hc:X.calm=true)(S:AR X.N X.env.scope N' (ixC cap m) scope)(hi:DI X tg iter s)(hb:Blk X N' scope tg ifs elt t c f)(hs:x0 (∀x,foldedSetIterable iter X.env x=pure x) ww):DE X (.ListComp elt [⟨tg,iter,ifs,0⟩] scope pos) (NN cf cap m s t c f):=⟨
 BI (bY (g:=tG X.K t) (tc:=tDT X.K c) (te:=tD X.K f) hc S hi.pe (λs H fp=>⟨(hb s H fp).1.pe,(hb s H fp).2.1.pe,(hb s H fp).2.2.pe⟩) hs) λ_ _ _ h=>TU h⟩
def cT{py spos:Pos} cap m N'(hc:X.calm=true)(hN:X.N.Nodup)(hi':X.N[i]?=Gc y)(hx:X.env.scope.names.lookup y=Gc .local)(S:AR X.N X.env.scope N' (ixC cap m) scope)(hi:DI X tg iter s)(hb:Blk X N' scope tg ifs elt t c f)(hsw:x0 (swapsWith (.ListComp elt [⟨tg,iter,ifs,0⟩] scope pos) (Gc (.Name y py)) spos.line X.env=pure true) wv)(hs:x0 (∀x,foldedSetIterable iter X.env x=pure x) ww):DS X (.Assign [.Name y py] (.ListComp elt [⟨tg,iter,ifs,0⟩] scope pos) spos) (BN i (NN cf cap m s t c f)):=⟨
 Fe (Ra (g:=tG X.K t) (tc:=tDT X.K c) (te:=tD X.K f) hc hN hi' hx S hi.pe (λs H fp=>⟨(hb s H fp).1.pe,(hb s H fp).2.1.pe,(hb s H fp).2.2.pe⟩) hsw hs) λDn σ H z=>by
  obtain⟨M,E,S,fl,E',S',e,r,st,q⟩:=z
  obtain⟨⟨d,S1⟩,e1,e⟩:=IC e
  cases e
  exact TU ⟨M,E,S,d,S1,e1,r,st,λv H1 M1 g1 st1 r1=>q _ _ M1 g1 ((r.step g1.st).put r1) st1⟩⟩
end
noncomputable def MO{α:Type}(xs:Wp α)(lo hi:qz Int):Wp α:=(xs.drop (HT.sIx xs.length 0 lo)).take (HT.sIx xs.length xs.length hi-HT.sIx xs.length 0 lo)
def VH(h:Ab K M H xs ds) lo hi:Ab K M H (Ya xs lo hi) (MO ds lo hi):=by
 unfold Ya MO
 rw[h.length]
 exact(h.drop _).take _
def Sy{xs:Wp α}(h1:HT.sIx xs.length 0 lo=0)(h2:HT.sIx xs.length xs.length hi=xs.length):MO xs lo hi=xs:=by
 unfold MO
 rw[h1,h2]
 simp
noncomputable def wSl(lo hi:qz Int):Op1:=λw=>match w with
 | .val (.tup ds)=>Gc (.val (.tup (MO ds lo hi)))
 | .val (.str z)=>if z.length<=sizeLine then Gc (.val (.str (Txt.slice z lo hi)))else none
 |w=>(asL w).map λds=>.own (MO ds lo hi)
def pG(K:W1):V->qz Int->qz Int->Hp->VK->Prop:=λx lo hi H Q=>∃M w r,wSl lo hi w=Gc r/\MOk M H/\Sh K M H x w/\∀v H',Nw K M H H' v r->Q v H'
def iT:SlR X (λx lo hi H Q=>∃z,x=.str z/\z.length<=sizeLine/\Q (.str (Txt.slice z lo hi)) H):=by
 intro pins s σ H x v vl vu lo hi sl Q I rx hs pl pu h
 obtain⟨z,rfl,hz,q⟩:=h
 obtain⟨t,rfl⟩:=rx
 have fin:∀t' k,EP X pins σ Q (.str (Txt.slice z lo hi) t') {s with toks:=k}:=λt' k=>⟨.str _,H,I.tok k,⟨t',rfl⟩,q⟩
 cases pl with
 |none=>
  cases pu with
  |none=>exact⟨"str",_,vV.lookup,yq _ _ _,vY (l:=none) (u:=none) (st:=none) hs rfl (xf ⟨q8 (yu z _ _) hz,fin⟩)⟩
  |int j u=>exact⟨"str",_,vV.lookup,yq _ _ _,vY (l:=none) (u:=Gc (j,u)) (st:=none) hs rfl (xf ⟨q8 (yu z _ _) hz,fin⟩)⟩
 |int i u'=>
  cases pu with
  |none=>exact⟨"str",_,vV.lookup,yq _ _ _,vY (l:=Gc (i,u')) (u:=none) (st:=none) hs rfl (xf ⟨q8 (yu z _ _) hz,fin⟩)⟩
  |int j u=>exact⟨"str",_,vV.lookup,yq _ _ _,vY (l:=Gc (i,u')) (u:=Gc (j,u)) (st:=none) hs rfl (xf ⟨q8 (yu z _ _) hz,fin⟩)⟩
def mG:SlR X (pG X.K):=by
 intro pins s σ H x v vl vu lo hi sl Q I rx hs pl pu h
 obtain⟨M,w,r,e,mo,sh,q⟩:=h
 unfold wSl at e
 split at e
 .rename_i ds
  cases e
  cases sh with
  |tup hx rr=>
   rename_i a xs
   have hl:=rr.length
   by_cases hw:HT.sIx xs.length 0 lo=0/\HT.sIx xs.length xs.length hi=xs.length
   .refine St.dH pins s σ H _ v vl vu lo hi sl Q I rx hs pl pu ⟨a,xs,rfl,hx,hw.1,hw.2,?_⟩
    have ew:MO ds lo hi=ds:=Sy (by rw[<-hl];exact hw.1) (by rw[<-hl];exact hw.2)
    rw[ew]at q
    exact q _ _ (.same mo (.tup hx rr))
   .exact dD pins s σ H _ v vl vu lo hi sl Q I rx hs pl pu ⟨a,xs,rfl,hx,hw,λp hp=>q _ _ (.tup mo hp (VH rr lo hi))⟩
 .split at e
  .cases e
   cases sh
   exact iT pins s σ H _ v vl vu lo hi sl Q I rx hs pl pu ⟨_,rfl,by assumption,q _ _ (.same mo (.str _))⟩
  .cases e
 .cases e1:asL w with
  |none=>rw[e1]at e;cases e
  |some ds=>
   rw[e1]at e
   cases e
   obtain⟨a,xs,rfl,h1,rr⟩:=sh.l e1
   exact cH pins s σ H _ v vl vu lo hi sl Q I rx hs pl pu ⟨a,xs,rfl,.of h1,λp hp=>q _ _ (.lst mo hp (VH rr lo hi))⟩
noncomputable def cn:Wv->qz Int
 | .val (.int i)=>Gc i
 |_=>none
noncomputable def MP(l h:su):OpN:=λws=>match l,h,ws with
 |false,false,[a]=>wSl none none a
 |true,false,[a,b]=>(cn b).bind λi=>wSl (Gc i) none a
 |false,true,[a,b]=>(cn b).bind λi=>wSl none (Gc i) a
 |true,true,[a,b,c]=>(cn b).bind λi=>(cn c).bind λj=>wSl (Gc i) (Gc j) a
 |_,_,_=>none
def Uk(s:Sh K M H v w)(e:cn w=Gc i):v=.int i:=by
 cases w with
 |own ds=>cases e
 |val d=>
  cases d<;>first|(cases e;done)|skip
  cases e;cases s;rfl
section
variable{X:Cx}{e lo hi:tF}{oe ol oh:Ev}{c:su}{pos p2:Pos}
def ky(h:DE X e oe)(hl:DE X lo ol):DE X (.Subscript e (.Slice (Gc lo) none none p2) pos) (OP c (MP true false) [oe,ol]):=⟨BI (Nb mG h.pe (Nt hl.pe) VC) λσ H Q z=>by
 obtain⟨M0,E,S0,w,S1,e,r,st,q⟩:=z
 have z:tD X.K oe σ H λx H1=>tD X.K ol σ H1 λy H2=>rN X.K (MP true false) [x,y] H2 Q:=Mp (Q:=Q) e r st q
 refine E8 z λx H1 z1=>E8 z1 λy H2 z2=>?_
 obtain⟨M,ws,w',e1,mo,sh,q1⟩:=z2
 cases sh with
 |cons h1 t=>
  cases t with
  |cons h2 t=>
   cases t
   obtain⟨i,ei,e1⟩:=Af e1
   exact⟨i,Uk h2 ei,M,_,w',e1,mo,h1,q1⟩⟩
def lq(h:DE X e oe)(hh:DE X hi oh):DE X (.Subscript e (.Slice none (Gc hi) none p2) pos) (OP c (MP false true) [oe,oh]):=⟨BI (Nb mG h.pe VC (Nt hh.pe)) λσ H Q z=>by
 obtain⟨M0,E,S0,w,S1,e,r,st,q⟩:=z
 have z:tD X.K oe σ H λx H1=>tD X.K oh σ H1 λy H2=>rN X.K (MP false true) [x,y] H2 Q:=Mp (Q:=Q) e r st q
 refine E8 z λx H1 z1=>E8 z1 λy H2 z2=>?_
 obtain⟨M,ws,w',e1,mo,sh,q1⟩:=z2
 cases sh with
 |cons h1 t=>
  cases t with
  |cons h2 t=>
   cases t
   obtain⟨i,ei,e1⟩:=Af e1
   exact⟨i,Uk h2 ei,M,_,w',e1,mo,h1,q1⟩⟩
def VU(r:Be K M H v d)(e:cn (dr S d)=Gc i):v=.int i:=by
 cases r<;>first|(cases e;done)|skip
 .cases e;rfl
 .rename_i n h
  unfold dr at e
  dsimp only at e
  split at e<;>cases e
def lI(h:DE X e oe)(hl:DE X lo ol)(hh:DE X hi oh):DE X (.Subscript e (.Slice (Gc lo) (Gc hi) none p2) pos) (OP c (MP true true) [oe,ol,oh]):=⟨BI (Nb mG h.pe (Nt hl.pe) (Nt hh.pe)) λσ H Q z=>by
 obtain⟨M0,E,S0,w,S1,e,r,st,q⟩:=z
 obtain⟨⟨ds,S2⟩,e1,e⟩:=Af e
 obtain⟨w2,e2,e⟩:=Af e
 obtain⟨⟨d1,Sa⟩,ea,e1⟩:=Af e1
 obtain⟨⟨ds1,Sb⟩,eb,e1⟩:=IC e1
 cases e1
 obtain⟨⟨d2,Sc⟩,ec,eb⟩:=Af eb
 obtain⟨⟨ds2,Sd⟩,ed,eb⟩:=IC eb
 cases eb
 obtain⟨⟨d3,Se⟩,ee,ed⟩:=Af ed
 obtain⟨⟨ds3,Sf⟩,ef,ed⟩:=IC ed
 cases ed
 cases ef
 obtain⟨i,ei,e2⟩:=Af e2
 obtain⟨j,ej,e2⟩:=Af e2
 refine⟨M0,E,S0,d1,Sa,ea,r,st,λx H1 M1 g1 st1 r1=>?_⟩
 refine⟨M1,E,Sa,d2,Sc,ec,r.step g1.st,st1,λy H2 M2 g2 st2 r2=>⟨i,?_,?_⟩⟩
 .exact VU r2 ei
 refine⟨M2,E,Sc,d3,Se,ee,(r.step g1.st).step g2.st,st2,λu H3 M3 g3 st3 r3=>⟨j,?_,?_⟩⟩
 .exact VU r3 ej
 refine⟨M3,_,w2,e2,st3.mo,br st3 ((r1.step g2.st).step g3.st),λv H4 n=>?_⟩
 obtain⟨M4,g4,st4,d4⟩:=n.fin st3 e
 exact q v H4 M4 (((g1.trans g2).trans g3).trans g4) st4 d4⟩
noncomputable def Ru(oa ob oc:Ev):Ev:=λE S=>(evs [oa,ob] E S).bind λr=>match r.1 with
 | [.int i,.int j]=>if i<=j then(oc E r.2).bind λp=>match p.1 with
     | .int k=>Gc (.bl (decide (j<=k)),p.2)
     |_=>none
   else Gc (.bl false,r.2)
 |_=>none
def kq(h:tD K (Ru oa ob oc) σ H Q):ZK (rI0 λi j=>.bl (decide (i<=j))) (rI0 λi j=>.bl (decide (i<=j))) (tD K oa) (tD K ob) (tD K oc) σ H Q:=by
 obtain⟨M,E,S,d,S',e,r,st,q⟩:=h
 obtain⟨⟨ws,S1⟩,e1,e⟩:=Af e
 have zz:=FN (K:=K) (σ:=σ) (fs:=[oa,ob]) (Q:=λvs H2=>∃i j:Int,vs=[V.int i,V.int j]/\rI0 (λi j=>.bl (decide (i<=j))) (.int i) (.int j) H2 λz H3=>∃k,z=.bl k/\(if k=true then tD K oc σ H3 λw' H4=>rI0 (λi j=>.bl (decide (i<=j))) (.int j) w' H4 Q else Q (.bl false) H3)) e1 r st (λvs H1 M1 g1 st1 r1=>by
  dsimp only at e
  split at e
  .rename_i i j
   have hv:=Tc r1
   refine⟨i,j,hv,i,j,rfl,rfl,_,rfl,?_⟩
   by_cases hij:i<=j
   .rw[sD hij]at e
    rw[sD (by simpa using hij)]
    obtain⟨⟨w2,S2⟩,e2,e⟩:=Af e
    dsimp only at e
    split at e
    .rename_i k
     cases e
     refine⟨M1,E,S1,_,_,e2,r.step g1.st,st1,λv H2 M2 g2 st2 r2=>?_⟩
     cases r2
     exact⟨j,k,rfl,rfl,q _ _ M2 (g1.trans g2) st2 (.bl _)⟩
    .cases e
   .rw[sH hij]at e
    cases e
    rw[sH (by simpa using hij)]
    exact q _ _ M1 g1 st1 (.bl _)
  .cases e)
 refine E8 (show tD K oa σ H _ from zz) λx H1 z1=>E8 z1 λy H2 z2=>?_
 obtain⟨i,j,ev,z2⟩:=z2
 cases ev
 exact z2
def Zs{a b c:tF}(ha:DE X a oa)(hb:DE X b ob)(hc:DE X c oc)(hm:x0 (lastMarks [.LtE,.LtE] [b,c]=false) wp):DE X (.Compare a [.LtE,.LtE] [b,c] pos) (Ru oa ob oc):=⟨
 BI (WV bF bF ha.pe hb.pe hc.pe hm) λ_ _ _ h=>kq h⟩
structure Po(K:W1)(mg:Str->qz rD)(x:Str)(d:D):Prop where
 ex:∃v u,mg x=Gc u/\RelV v u/\∀M H,Be K M H v d
def bh(c:Po X.K X.mg x d)(hg:Gl X x)(hd:x0 ((x==("__debug__":Str))=false) xL):DE X (.Name x pos) (eC d):=⟨by
 obtain⟨v,u,h1,h2,h3⟩:=c.ex
 exact BI (OE hg h1 h2 hd) λσ H Q z=>by
  obtain⟨M0,E,S0,w,S1,e,rr,st,q⟩:=z
  cases e
  exact q _ _ M0 (.refl st.mo) st (h3 _ _)⟩
def dB(hg:Gl X x)(hm:X.mg x=none)(hv:bootBuiltins x=Gc (.type T))(hn:x0 (x≠ "__name__") xL)(hd:x0 ((x==("__debug__":Str))=false) xL):DE X (.Name x pos) (eC (.ty T)):=
 OS (Zr (v:=.ty T) hg hm hv rfl hn hd) λ_ _ _=>.ty T
structure eU(K:W1)(w:uL)(mg:Str->qz rD)(x:Str)(tbl:Wp (Str×D)):Prop where
 ex:∃a kvs,mg x=Gc (.ref a)/\TopD K w a kvs/\∀k,(tbl.lookup k=none->kvs.lookup k=none)/\∀d,tbl.lookup k=Gc d->∃v,kvs.lookup k=Gc v/\∀M H,Be K M H v d
noncomputable def di(tbl:Wp (Str×D)):Op1
 | .val (.str k)=>(tbl.lookup k).map .val
 |_=>none
noncomputable def Mq(neg:su)(tbl:Wp (Str×D)):Op1
 | .val (.str k)=>Gc (.val (.bl (if neg then !(tbl.lookup k).isSome else(tbl.lookup k).isSome)))
 |_=>none
def iS{p:Pos}(c:eU X.K X.w X.mg x tbl)(hg:Gl X x)(h:DE X i o)(hs:x0 (OI i) wf)(hd:x0 ((x==("__debug__":Str))=false) xL):DE X (.Subscript (.Name x p) i pos) (eOp (o1 (di tbl)) [o]):=⟨by
 obtain⟨a,kvs,h1,h2,h3⟩:=c.ex
 refine BI (b9 ZA (OE (v:=.ref a) hg h1 rfl hd) h.pe hs) λσ H Q z=>?_
 refine E8 (TK z) λy H1 z1=>?_
 obtain⟨M,w,r,e,mo,sh,q⟩:=z1
 unfold di at e
 split at e
 .rename_i k
  cases e1:tbl.lookup k with
  |none=>rw[e1]at e;cases e
  |some d=>
   rw[e1]at e
   cases e
   cases sh
   obtain⟨v,q1,q2⟩:=(h3 k).2 d e1
   exact⟨a,kvs,k,v,rfl,rfl,h2,q1,q _ _ (.same mo (q2 _ _))⟩
 .cases e⟩
def iD{x:Str}(h2:TopD X.K X.w a kvs)(h3:∀k,(tbl.lookup k=none->kvs.lookup k=none)/\∀d,tbl.lookup k=Gc d->∃v,kvs.lookup k=Gc v/\∀M H,Be X.K M H v d)(z:rUn X.K (Mq neg tbl) y H Q):Ye X.K X.w neg y (.ref a) H Q:=by
 obtain⟨M,w,r,e,mo,sh,q⟩:=z
 unfold Mq at e
 split at e
 .rename_i k
  cases e
  cases sh
  refine⟨a,kvs,k,rfl,rfl,h2,?_⟩
  have:(kvs.lookup k).isSome=(tbl.lookup k).isSome:=by
   cases e1:tbl.lookup k with
   |none=>rw[(h3 k).1 e1];rfl
   |some d=>obtain⟨v,q1,_⟩:=(h3 k).2 d e1;rw[q1];rfl
  rw[this]
  exact q _ _ (.same mo (.bl _))
 .cases e
def QK(c:eU X.K X.w X.mg x tbl)(hg:Gl X x)(h:DE X i o)(hd:x0 ((x==("__debug__":Str))=false) xL):DT X (.Compare i [.NotIn] [.Name x p] pos) (eOp (o1 (Mq true tbl)) [o]):=by
 obtain⟨a,kvs,h1,h2,h3⟩:=c.ex
 exact XZ (VE PY h.pe (OE (v:=.ref a) hg h1 rfl hd) rfl) λσ H Q z=>E8 (TK z) λy H1 z1=>iD (x:=x) h2 h3 z1
end
noncomputable def OF:Nat->Wp D->Wp D
 |_,[]=>[]
 |k,d::ds=>.tup [.int k,d]::OF (k+1) ds
theorem LD:∀{ds} {k i:Nat},(OF k ds)[i]?=(ds[i]?).map λd=>.tup [.int ((k+i:Nat):Int),d]
 | [],k,i=>by simp[OF]
 |d::ds,k,0=>by simp[OF]
 |d::ds,k,i+1=>by
  simp only[OF,List.getElem?_cons_succ]
  rw[LD,show k+1+i=k+(i+1) by lia]
theorem Nr:∀{ds} {k},(OF k ds).length=ds.length
 | [],k=>rfl
 |d::ds,k=>by simp[OF,Nr (ds:=ds)]
def SqF.sqB{K:W1}{M:Ms}{H:Hp}{gs:Gd}{k:su}{a:rL}{ds:Wp D}(h:SqF K M H gs k a ds){H2:Hp}{M2:Ms}(g:Sp1 M H M2 H2)(st:StR K M2 S2 H2)(ok:gOk gs S2):∃xs,SqB K H2 k a xs/\Ab K M2 H2 xs ds:=by
 obtain⟨xs,h1,h2⟩:=h.keep H2 M2 S2 g st ok
 refine⟨xs,?_,h2⟩
 cases k with
 |true=>exact h1
 |false=>exact h1
theorem g9(h:SqF K M H gs k a ds):iB K M H gs (OF 0 ds) (ItE K k a) where
 go:=λi H2 M2 S2 g st ok hi=>by
  rw[Nr]at hi
  obtain⟨xs,h1,h2⟩:=h.sqB g st ok
  obtain⟨x,hx⟩:=h2.get' hi
  exact⟨xs,x,h1,hx⟩
 stop:=λi H2 M2 S2 g st ok hi=>by
  rw[Nr]at hi
  obtain⟨xs,h1,h2⟩:=h.sqB g st ok
  exact⟨xs,h1,by have:=h2.length;lia⟩
 yld:=λi H2 M2 S2 x H3 d g st ok hd hy=>by
  obtain⟨xs,h1,h2⟩:=h.sqB g st ok
  obtain⟨p,y,hp,rfl,hy,rfl⟩:=hy
  have hx:=hy xs h1
  rw[LD]at hd
  obtain⟨d0,e,hd⟩:=IC hd
  subst hd
  obtain⟨x',h3,h4⟩:=h2.get e
  rw[hx]at h3;cases h3
  have k3:=Hz (o:=.tup [.int i,y]) hp
  refine⟨k3,.tup (.of Ax) (.cons ?_ (.cons (h4.step (Gr.grow st.mo k3).st) .nil))⟩
  rw[Nat.zero_add]
  exact .int _
noncomputable def cM(f:Ev):Sr:=λE S=>(f E S).bind λr=>(sqD r.2 r.1).map λp=>((OF 0 p.1,p.2),r.2)
def eZ(hg:Gl X "enumerate")(hm:X.mg "enumerate"=none)(ha:DE X a f)(hs:x0 (rG [a] X.env=[(false,eval a X.env)]) wv):DI X (.Tuple elts k tp) (.Call (.Name "enumerate" p) [a] [] pos) (cM f):=⟨
 Nh (WW hg hm (NY ha.pe Vd (by rw[hs];rfl)) hs) λσ H R z=>by
  obtain⟨M,E,S,ds,gs,S',e,r,st,q⟩:=z
  obtain⟨⟨d,S1⟩,e1,e⟩:=Af e
  obtain⟨⟨ds',gs'⟩,e2,e⟩:=IC e
  cases e
  refine⟨M,E,S,d,S1,e1,r,st,λv H1 M1 g1 st1 r1=>?_⟩
  obtain⟨k,a,rfl,sq⟩:=Qu st1 r1 e2
  obtain⟨xs,hs,_⟩:=sq.sqB (Gr.refl st1.mo).st st1 (Nz e2)
  exact⟨k,a,rfl,⟨xs,hs⟩,q _ _ M1 g1 st1 (g9 sq)⟩⟩
noncomputable def K4(ds es:Wp D):Wp D:=(ds.zip es).map λp=>.tup [p.1,p.2]
def XM{i:Nat}(h:(K4 ds es)[i]?=Gc d):∃x y,ds[i]?=Gc x/\es[i]?=Gc y/\d=.tup [x,y]:=by
 unfold K4 at h
 simp only[rY,u4]at h
 obtain⟨⟨x,y⟩,h1,h2⟩:=h
 rw[wH]at h1
 exact⟨x,y,h1.1,h1.2,h2.symm⟩
def K7:(K4 ds es).length=min ds.length es.length:=by simp[K4]
def SqF.more(h:SqF K M H gs k a ds)(s:∀g∈gs,g∈gs'):SqF K M H gs' k a ds:=⟨λH2 M2 S2 g st ok=>h.keep H2 M2 S2 g st λx hx=>ok x (s x hx)⟩
theorem gG(h:SqF K M H gs k a ds)(h':SqF K M H gs m b es):iB K M H gs (K4 ds es) (Itz K k a m b) where
 go:=λi H2 M2 S2 g st ok hi=>by
  rw[K7]at hi
  obtain⟨xs,h1,r⟩:=h.sqB g st ok
  obtain⟨ys,h2,r'⟩:=h'.sqB g st ok
  obtain⟨x,hx⟩:=r.get' (show i<ds.length by lia)
  obtain⟨y,hy⟩:=r'.get' (show i<es.length by lia)
  exact⟨xs,ys,x,y,h1,h2,hx,hy⟩
 stop:=λi H2 M2 S2 g st ok hi=>by
  rw[K7]at hi
  obtain⟨xs,h1,r⟩:=h.sqB g st ok
  obtain⟨ys,h2,r'⟩:=h'.sqB g st ok
  have:=r.length
  have:=r'.length
  exact⟨xs,ys,h1,h2,by lia⟩
 yld:=λi H2 M2 S2 x H3 d g st ok hd hy=>by
  obtain⟨xs,h1,r⟩:=h.sqB g st ok
  obtain⟨ys,h2,r'⟩:=h'.sqB g st ok
  obtain⟨p,x1,y1,hp,rfl,q1,q2,rfl⟩:=hy
  obtain⟨d1,d2,e1,e2,rfl⟩:=XM hd
  have hx:=q1 xs h1
  have hy:=q2 ys h2
  obtain⟨x',h3,h4⟩:=r.get e1
  obtain⟨y',h5,h6⟩:=r'.get e2
  rw[hx]at h3;cases h3
  rw[hy]at h5;cases h5
  have k3:=Hz (o:=.tup [x1,y1]) hp
  exact⟨k3,.tup (.of Ax) (.cons (h4.step (Gr.grow st.mo k3).st) (.cons (h6.step (Gr.grow st.mo k3).st) .nil))⟩
noncomputable def Sn(f g:Ev):Sr:=λE S=>(evs [f,g] E S).bind λr=>match r.1 with
 | [d,e]=>(sqD r.2 d).bind λp=>(sqD r.2 e).map λq=>((K4 p.1 q.1,p.2++q.2),r.2)
 |_=>none
def eM{p pos tp:Pos}{elts:Wp tF}{k:Nat}(hg:Gl X "zip")(hm:X.mg "zip"=none)(ha:DE X a f)(hb:DE X b g)(hs:x0 (rG [a,b] X.env=[(false,eval a X.env),(false,eval b X.env)]) wv)(hs2:x0 (rG [b] X.env=[(false,eval b X.env)]) wv):DI X (.Tuple elts k tp) (.Call (.Name "zip" p) [a,b] [] pos) (Sn f g):=⟨
 Nh (gf hg hm (AE ha (AE hb AI hs2) (by rw[hs,hs2])).pe hs hs2) λσ H R z=>by
  obtain⟨M,E,S,ds,gs,S',e,r,st,q⟩:=z
  obtain⟨⟨ws,S1⟩,e1,e⟩:=Af e
  refine FN (fs:=[f,g]) e1 r st λvs H1 M1 g1 st1 r1=>?_
  dsimp only at e
  split at e
  .obtain⟨⟨ds1,gs1⟩,eu,e⟩:=Af e
   obtain⟨⟨ds2,gs2⟩,ee,e⟩:=IC e
   cases e
   cases r1 with
   |cons h1 t=>
    cases t with
    |cons h2 t=>
     cases t
     obtain⟨k1,a1,rfl,s1⟩:=Qu st1 h1 eu
     obtain⟨k2,a2,rfl,s2⟩:=Qu st1 h2 ee
     obtain⟨xs,hxs,_⟩:=s1.sqB (Gr.refl st1.mo).st st1 (Nz eu)
     obtain⟨ys,hys,_⟩:=s2.sqB (Gr.refl st1.mo).st st1 (Nz ee)
     exact⟨_,_,_,_,rfl,⟨_,hxs⟩,⟨_,hys⟩,q _ _ M1 g1 st1 (gG (s1.more λx hx=>vv _ hx) (s2.more λx hx=>sY _ hx))⟩
  .cases e⟩
noncomputable def intD:D->qz Int
 | .int i=>Gc i
 |_=>none
noncomputable def Kt(ds:Wp D):qz (Wp Int):=ds.mapM intD
theorem Lz:∀{vs} {ds} {ns},Ab K M H vs ds->Kt ds=Gc ns->vs=ns.map V.int
 |_,_,ns,.nil,e=>by cases e;rfl
 |_,_,ns,.cons (d:=d) (ds:=ds) h t,e=>by
  unfold Kt at e
  rw[yH]at e
  cases e1:intD d with
  |none=>rw[e1]at e;cases e
  |some b=>
   rw[e1]at e
   cases e2:ds.mapM intD with
   |none=>rw[e2]at e;cases e
   |some cs=>
    rw[e2]at e
    cases e
    have hd:d=.int b:=by
     cases d<;>first|(cases e1;done)|skip
     cases e1;rfl
    subst hd
    cases h
    rw[rT,<-Lz t e2]
def Ug(hc:X.calm=true):EG X (.builtin "sum") (λxs H Q=>∃(p:rL) (ns:Wp Int),xs=[.ref p]/\SqL X.K H p (ns.map V.int)/\Q (.int ns.sum) H):=by
 intro pins s σ H xs us Q I r h
 obtain⟨p,ns,rfl,hp,q⟩:=h
 obtain⟨u,rfl,ru⟩:=r.one
 cases (show u=sA p from ru)
 obtain⟨its,rv,pl,hz⟩:=I.list hp
 have hd:X.A.in1.handled=none:=I.ok.hd hc
 refine call_sum_walkG (uU pl.isList ?_)
 have hlen:ns.length=its.length:=by have:=rv.length;simpa using this
 have hpl:=pl.isList
 have hlt:p<s.heap.objs.size:=by
  obtain⟨o,ho,_⟩:=hpl
  exact rR ho
 refine⟨s.heap.objs.size,_,_,its.length,_,_,λi=>ns.getD i 0,rfl,St.Me (vs:=its) hd (sM hlt),⟨⟨_,rW _ rfl,rfl,rfl⟩,?_⟩,?_,?_,?_⟩
 .obtain⟨o,ho,r⟩:=hpl
  exact⟨o,qt _ ho,r⟩
 .intro b hb
  rw[tT]
  simp at hb
  rcases hb with h|h
  .rw[h];exact yb _
  .rw[h];exact Nat.lt_succ_of_lt hlt
 .intro i v hv
  have hi:i<its.length:=(rB.mp hv).1
  have hb:(ns.map V.int)[i]?=Gc (.int (ns.getD i 0)):=by
   rw[rY,rE (by lia)]
   simp[rX,rE (show i<ns.length by lia)]
  obtain⟨u,hu,ru⟩:=rv.get hb
  rw[hv]at hu
  cases hu
  exact ru
 .intro h' tk t' hk
  have e:preSum (λi=>ns.getD i 0) its.length=ns.sum:=by
   rw[<-hlen,St.LK (q9 _),w9 (q9 _)]
  rw[e]
  exact⟨.int _,H,I.kept (t':=tk) λb o eb=>hk b o (by simp;exact sM (rR eb)) (qt _ eb),⟨_,rfl⟩,q⟩
noncomputable def Wq:Op1:=λw=>(asL w).bind λds=>(Kt ds).map λns=>.val (.int ns.sum)
def gS(hc:X.calm=true):EG X (.builtin "sum") (rN X.K (o1 Wq)):=by
 intro pins s σ H xs us Q I r h
 obtain⟨M,ws,w,e,mo,sh,q⟩:=h
 obtain⟨v,w1,rfl,rfl,s1,e1⟩:=Ie sh e
 obtain⟨ds,e2,e1⟩:=Af e1
 obtain⟨ns,e3,e1⟩:=IC e1
 cases e1
 obtain⟨a,ys,rfl,h3,h4⟩:=s1.l e2
 exact Ug hc pins s σ H _ us Q I r ⟨a,ns,rfl,by rw[<-Lz h4 e3];exact .of h3,q _ _ (.same mo (.int _))⟩
noncomputable def Ma(ns:Wp Int):Wp Int:=ns.mergeSort (λa b=>decide (a<=b))
def Mj ns:(Ma ns).Perm ns:=List.mergeSort_perm _ _
def RV ns:(Ma ns).Pairwise (· <= ·):=by
 have:=List.pairwise_mergeSort (le:=λ(a b:Int)=>decide (a<=b)) (λa b c h1 h2=>by simp at *; lia) (λa b=>by simp;lia) ns
 unfold Ma
 exact this.imp λh=>rO h
def SQ(p:ms.Perm ns)(s:ms.Pairwise (· <= ·)):ms=Ma ns:=PySem.W.ksm_same (p.trans (Mj ns).symm) s (RV ns)
theorem intsAre_of:∀{ns} {its},Vals (ns.map V.int) its->wN its ns
 | [],_,.nil=>.nil
 |n::ns,_,.cons h t=>by
  obtain⟨tk,rfl⟩:=h
  exact .cons n tk (intsAre_of t)
theorem KZ:∀{ns} {its},wN its ns->Vals (ns.map V.int) its
 |_,_,.nil=>.nil
 |_,_,.cons n tk t=>.cons ⟨tk,rfl⟩ (KZ t)
def Oa:EG X (.builtin "sorted") (λxs H Q=>∃p ns,xs=[.ref p]/\SqL X.K H p (ns.map V.int)/\ns.length<64/\∀q,H q=none->Q (.ref q) (upd H q (.lst ((Ma ns).map V.int)))):=by
 intro pins s σ H xs us Q I r h
 obtain⟨p,ns,rfl,hp,h64,q⟩:=h
 obtain⟨u,rfl,ru⟩:=r.one
 cases (show u=sA p from ru)
 obtain⟨its,rv,pl,hz⟩:=I.list hp
 have hlen:ns.length=its.length:=by have:=rv.length;simpa using this
 refine PyProof.Rows.sorted_ints pl.isList (intsAre_of rv) (by lia) λout ns' a1 a2 a3=>?_
 obtain⟨e,he⟩:=PyProof.Rows.sortedAll_at s.heap its out
 have hn:H (s.heap.objs.size+1)=none:=I.hok.fresh (zP _)
 have hs:=SQ a2 a3
 subst hs
 refine⟨.ref _,_,I.laid (a:=s.heap.objs.size+1) (o:=.lst ((Ma ns).map V.int)) (t':=s.toks) (λ_ _=>PyProof.Rows.sortedAll_old) (zP _) ?_,rfl,q _ hn⟩
 refine⟨?_,out.toList,e,KZ a1,?_⟩
 .rw[sG,(Mj ns).length_eq]
  have:(64:Nat)<=sizeLine:=by decide
  lia
 .rw[Array.toArray_toList];exact he
noncomputable def Nq:Op1:=λw=>(asL w).bind λds=>(Kt ds).bind λns=>if ns.length<64 then Gc (.own ((Ma ns).map D.int))else none
def Y3:EG X (.builtin "sorted") (rN X.K (o1 Nq)):=by
 intro pins s σ H xs us Q I r h
 obtain⟨M,ws,w,e,mo,sh,q⟩:=h
 obtain⟨v,w1,rfl,rfl,s1,e1⟩:=Ie sh e
 obtain⟨ds,e2,e1⟩:=Af e1
 obtain⟨ns,e3,e1⟩:=Af e1
 split at e1
 .cases e1
  obtain⟨a,ys,rfl,h3,h4⟩:=s1.l e2
  exact Oa pins s σ H _ us Q I r ⟨a,ns,rfl,by rw[<-Lz h4 e3];exact .of h3,by assumption,λp hp=>q _ _ (.lst mo hp Ky)⟩
 .cases e1
def Nu l items n b items2 n2 dd sl(hs0:¬(!items.isEmpty && uH (items.size+items2.size))=true)(hs1:items.size<=sizeLine)(hs2:items.size+items2.size<=sizeLine+1):Meets (xo.«list.extend» ⟨[.ref l,.ref b],[]⟩) (λ_ R s=>s.heap.get? l=Gc {cls:=.type "list",dict:=none,data:=.seq items n,slots:= #[]}/\s.heap.get? b=Gc {cls:=.type "tuple",dict:=dd,data:=.seq items2 n2,slots:=sl}/\R (.ok (.ret sL)) {s with heap:=s.heap.update l (yD λx=>x++items2),toks:=s.toks}):=
 .of_wp λprog w A R s h=>by
  obtain⟨hp,g,d,tk,os⟩:=s;obtain⟨hl,hb,h⟩:=h;have f1:=AutoSeq1.idx_int;have f2:=AutoSeq1.sub_tuple_tuple;have f3:=AutoSeq1.sub_list_list;have f4:=AutoSeq1.sub_tuple_list;have f5:=AutoSeq1.sub_list_tuple
  have hz':(items++items2).size<=sizeLine+1:=by rw[Array.size_append];exact hs2
  wp_walk using(wpAny_updateSeq hl rfl (hz:=hs1) (_hz':=hz')),rh hl,rh hb;exact⟨_,rfl,h⟩
def Xn(K:W1):V->Wp V->Hp->VK->Prop:=λx vs H Q=>∃l b xs zs,x=.ref l/\vs=[.ref b]/\H l=Gc (.lst xs)/\SqT K H b zs/\xs.length+zs.length<=sizeLine/\Q .non (upd H l (.lst (xs++zs)))
def Rl:MtM X "list.extend" (Xn X.K):=by
 intro pins s σ H x vs v us Q I rx rv h
 obtain⟨l,b,xs,zs,rfl,rfl,hH,hB,hz,q⟩:=h
 cases rx
 obtain⟨u,rfl,ru⟩:=rv.one
 cases ru
 obtain⟨z,its,n,r,hl,e⟩:=I.WI hH
 obtain⟨its2,r2,⟨⟨c,dd,dt,sl⟩,e2,hc,n2,hd⟩,z2⟩:=I.tuple hB
 simp only at hc hd
 subst hc hd
 have hl2:=r2.length
 have hsz:its.toArray.size+its2.toArray.size<=sizeLine:=by rw[rK,rK];lia
 have hlong:¬(!its.toArray.isEmpty && uH (its.toArray.size+its2.toArray.size))=true:=by
  rw[OB hsz,Bool.and_false]
  exact sZ
 refine vy AAH ⟨_,e,rfl⟩ zx (zU _ _)
  (Nu l its.toArray n b its2.toArray n2 dd sl hlong (by rw[rK];lia) (by lia)) ⟨e,e2,?_⟩
 refine⟨.non,_,I.dA (its':=its++its2) hH e (by simp) (r.append r2) ?_,rfl,q⟩
 rw[sk]
 lia
noncomputable def je:Mo
 |S,ds,[x]=>match dr S x with
  | .val (.tup zs)=>if ds.length+zs.length<=sizeLine then Gc (.non,ds++zs)else none
  |w=>(asL w).bind λzs=>if ds.length+zs.length<=sizeLine then Gc (.non,ds++zs)else none
 |_,_,_=>none
def kJ:MtR X "list.extend" (cj X.K je):=by
 intro pins s σ H x vs v us Q I rx rv h
 obtain⟨M,S,n,a,ds,args,d,ds',rfl,hc,hn,e,st,ra,q⟩:=h
 unfold je at e
 split at e
 .obtain⟨xs,h1,h2⟩:=st.cell n a _ hc hn
  obtain⟨y,rfl,ry⟩:=Q0 ra
  have sy:=br st ry
  split at e
  .rename_i ed
   rw[ed]at sy
   split at e
   .rename_i hz
    cases e
    cases sy with
    |tup hx rr=>
     obtain⟨st2,g2⟩:=st.chg hc hn (h2.append rr)
     exact Rl pins s σ H _ _ v us Q I rx rv ⟨a,_,xs,_,rfl,rfl,h1,hx,by rw[h2.length,rr.length];exact hz,q _ _ st2 g2 .non⟩
   .cases e
  .obtain⟨zs,e1,e⟩:=Af e
   split at e
   .rename_i hz
    cases e
    obtain⟨b,ys,rfl,h3,h4⟩:=sy.l e1
    obtain⟨st2,g2⟩:=st.chg hc hn (h2.append h4)
    exact Uc pins s σ H _ _ v us Q I rx rv ⟨a,b,xs,ys,rfl,rfl,h1,h3,by rw[h2.length,h4.length];exact hz,q _ _ st2 g2 .non⟩
   .cases e
 .cases e
noncomputable def QS:Mo
 |_,ds,[.int i]=>if(decide (-(2^63)<=i) && decide (i<2^63))=true then(seqIndex? i ds.length).bind λk=>(ds[k]?).map λd=>(d,ds.eraseIdx k)else none
 |_,ds,[]=>(ds[ds.length-1]?).map λd=>(d,ds.dropLast)
 |_,_,_=>none
theorem Ab.erase:∀{v} {d} k,Ab K M H v d->Ab K M H (v.eraseIdx k) (d.eraseIdx k)
 |_,_,_,.nil=>.nil
 |_,_,0,.cons _ t=>t
 |_,_,k+1,.cons h t=>.cons h (Ab.erase k t)
theorem Ab.dropLast:∀{v} {d},Ab K M H v d->Ab K M H v.dropLast d.dropLast
 |_,_,.nil=>.nil
 |_,_,.cons _ .nil=>.nil
 |_,_,.cons h (.cons h2 t)=>.cons h (Ab.dropLast (.cons h2 t))
def Pw:MtR X "list.pop" (cj X.K QS):=by
 intro pins s σ H x vs v us Q I rx rv h
 obtain⟨M,S,n,a,ds,args,d,ds',rfl,hc,hn,e,st,ra,q⟩:=h
 unfold QS at e
 obtain⟨xs,h1,h2⟩:=st.cell n a _ hc hn
 split at e
 .rename_i i
  split at e
  .rename_i hk
   rw[rH]at hk
   obtain⟨k,e1,e⟩:=Af e
   obtain⟨d0,e2,e⟩:=IC e
   cases e
   cases Nc ra
   obtain⟨y,h3,h4⟩:=h2.get e2
   obtain⟨st2,g2⟩:=st.chg hc hn (h2.erase k)
   exact WQ pins s σ H _ _ v us Q I rx rv ⟨a,xs,i,k,y,rfl,rfl,h1,rO hk.1,rO hk.2,by rw[h2.length];exact e1,h3,q _ _ st2 g2 (h4.step g2.st)⟩
  .cases e
 .obtain⟨d0,e2,e⟩:=IC e
  cases e
  cases ra
  obtain⟨y,h3,h4⟩:=h2.get e2
  obtain⟨st2,g2⟩:=st.chg hc hn h2.dropLast
  exact fK pins s σ H _ _ v us Q I rx rv ⟨a,xs,y,rfl,rfl,h1,by rw[h2.length];exact h3,q _ _ st2 g2 (h4.step g2.st)⟩
 .cases e
def Ww:OpR X (binaryOp .Mult) (λx y H Q=>∃a xs k,x=.ref a/\y=.int k/\SqT X.K H a xs/\xs≠[]/\k<=0/\ -(2^63)<=k/\∀p,H p=none->Q (.ref p) (upd H p (.tup []))):=by
 intro pins s σ H x y v u Q I rx ry h
 obtain⟨a,xs,k,rfl,rfl,hx,hne,hk,hk2,q2⟩:=h
 cases rx
 obtain⟨t,rfl⟩:=ry
 obtain⟨its,r,⟨⟨c,dd,data,sl⟩,ho,hc,n,hd⟩,hzz⟩:=I.tuple hx
 simp only at hc hd
 subst hc hd
 have hl:=r.length
 have hpos:0<xs.length:=z5.mpr hne
 refine wG (T:="tuple") (U:="int") (by decide) ⟨_,ho,rfl⟩ (λs'=>xO s' k t) G4 zA vk Kj yg.lookup
  (vy vk (xO s k t) yh (yQ _ _) (IJ k t a its.toArray n dd sl) ⟨ho,rfl,⟨_,ho,rfl⟩,?_⟩)
 refine uZ xP ⟨_,ho,rfl⟩ F.entry_tuple_mul ?_ (AAJ _ _)
 unfold xo.«tuple.__mul__»
 wp_walk using rh ho
 rw[sH (show¬(decide (k< -2^63)||decide (k≥2^63))=true by
  rw[tK]
  rintro (z|z)
  .have:=rO z;lia
  .have:=rO z;lia)]
 wp_walk using rh ho
 have hemp:its.toArray.isEmpty=false:=by
  cases its with
  |nil=>rw[wV]at hl;lia
  |cons b bs=>rfl
 rw[sH (show¬(its.toArray.isEmpty||k==1)=true by
  rw[hemp,Bool.false_or]
  intro z
  have:=eq_of_beq z
  lia)]
 wp_walk using rh ho
 all_goals first
  |exact⟨_,rfl,.ref _,_,I.laid (o:=.tup []) (t':=s.toks) (λb ob q=>qt _ q) (q9 _) ⟨uQ _,[],.nil,wI _ _⟩,rfl,q2 _ (I.hok.fresh (q9 _))⟩
  |(exfalso
    rename_i hh
    exact hh (by rw[tK];exact .inl (uT hk)))
noncomputable def CO:Op2:=λa b=>match asT a with
 |some xs=>match asI b with
  |some k=>if(!xs.isEmpty && decide (k<=0) && decide (-(2^63)<=k))=true then Gc (.val (.tup []))else gI (.val (.tup xs)) (.val (.int k))
  |none=>gI a b
 |none=>gI a b
def jM:OpR X (binaryOp .Mult) (rOp X.K CO):=by
 intro pins s σ H x y v u Q I rx ry h
 obtain⟨M,w1,w2,r,e,mo,s1,s2,q⟩:=h
 have no:gI w1 w2=Gc r->wpAny (model X.prog X.w) X.A (binaryOp .Mult v u) (EP X pins σ Q) X.xe s:=λe=>cA pins s σ H x y v u Q I rx ry ⟨M,_,_,r,e,mo,s1,s2,q⟩
 unfold CO at e
 cases e1:asT w1 with
 |none=>rw[e1]at e;exact no e
 |some xs=>
  rw[e1]at e
  dsimp only at e
  cases e2:asI w2 with
  |none=>rw[e2]at e;exact no e
  |some k=>
   rw[e2]at e
   obtain rfl:=RB e1
   obtain rfl:=Oc e2
   by_cases hk:(!xs.isEmpty && decide (k<=0) && decide (-(2^63)<=k))=true
   .dsimp only at e
    rw[sD hk]at e
    rw[rH,rH]at hk
    cases e
    obtain rfl:=Be.iv s2
    obtain⟨a,ys,rfl,h1,r1⟩:=Be.iv s1
    have hne:ys≠[]:=λzz=>by
     subst zz
     cases r1
     exact absurd hk.1.1 (by decide)
    exact Ww pins s σ H _ _ v u Q I rx ry ⟨a,ys,k,rfl,rfl,h1,hne,rO hk.1.2,rO hk.2,λp hp=>q _ _ (.tup mo hp .nil)⟩
   .dsimp only at e
    rw[sH hk]at e
    exact no e
def J5(hr:Ct k A):A.units+100<cLine:=by have:=hr.un;lia
noncomputable def scE:Nat->tF->Wp uf
 |0,_=>[]
 |n+1,.ListComp e gs s _=>s::(gs.flatMap λg=>scE n g.iter)++scE n e++(gs.flatMap λg=>g.ifs.flatMap (scE n))
 |n+1,.BoolOp _ vs _=>vs.flatMap (scE n)
 |n+1,.Call f as _ _=>scE n f++as.flatMap (scE n)
 |n+1,.BinOp a _ b _=>scE n a++scE n b
 |n+1,.UnaryOp _ a _=>scE n a
 |n+1,.Compare a _ cs _=>scE n a++cs.flatMap (scE n)
 |n+1,.Subscript a b _=>scE n a++scE n b
 |n+1,.Tuple es _ _=>es.flatMap (scE n)
 |n+1,.List es _=>es.flatMap (scE n)
 |n+1,.IfExp c a b _=>scE n c++scE n a++scE n b
 |n+1,.Dict _ vs _=>vs.flatMap (scE n)
 |n+1,.Slice a b c _=>(a.toList++b.toList++c.toList).flatMap (scE n)
 |n+1,.Attribute v _ _=>scE n v
 |_,_=>[]
noncomputable def scS:Nat->sP->Wp uf
 |0,_=>[]
 |n+1,.Return (Gc e) _=>scE 30 e
 |n+1,.Assign ts e _=>ts.flatMap (scE 30)++scE 30 e
 |n+1,.AugAssign t _ e _=>scE 30 t++scE 30 e
 |n+1,.Expr e _=>scE 30 e
 |n+1,.If t a b _=>scE 30 t++a.flatMap (scS n)++b.flatMap (scS n)
 |n+1,.For _ it a b _=>scE 30 it++a.flatMap (scS n)++b.flatMap (scS n)
 |n+1,.While t a b _=>scE 30 t++a.flatMap (scS n)++b.flatMap (scS n)
 |_,_=>[]
noncomputable def JC(st:sP)(k:Nat):uf:=((BH st).flatMap (scS 20)).getD k (AB st)
structure l8(P:sx)(w:uL)(K:W1)(mg:Str->qz rD)(base:tS)(x:Str)(k np:Nat)(tbl:Wp (Str×Fn)):Prop where
 ex:∃a kvs,mg x=Gc (.ref a)/\TopD K w a kvs/\∀p G,tbl.lookup p=Gc G->∃f fd ps,kvs.lookup p=Gc (.ref f)/\Kg P w K mg base CX0 k f fd ps (spD K np G)/\tL K (.ref f)=true/\Binds K fd ps []
noncomputable def dF(tbl:Wp (Str×Fn))(i j:Nat)(fs:Wp Ev):Ex:=λE S=>if((at? E i).isNone && decide (i<E.length))=true then(at? E j).bind λw=>match w with
 | .str p=>(tbl.lookup p).bind λG=>Ag (AD G fs) E S
 |_=>none
 else none
def EnR.Zf(r:EnR K M E σ H)(h:at? E i=none):EnR K M E (σ.set i (Gc v)) H:=by
 refine⟨by rw[uK];exact r.len,λj d e=>?_⟩
 have ne:i≠j:=λz=>by
  subst z
  unfold at? at h
  rw[e]at h
  cases h
 obtain⟨u,h1,h2⟩:=r.val j d e
 exact⟨u,by rw[rA ne];exact h1,h2⟩
def bp{X:Cx}{k np:Nat}{tbl:Wp (Str×Fn)}{x h y:Str}{px ph ph2 py pr p1 p2 pc:Pos} i j(T:l8 X.prog X.w X.K X.mg X.base x k np tbl)(hr:Ct k X.A)(ha:DEs X (e::es) fs)(hnp:fs.length=np)(hN:X.N.Nodup)(hg:x0 (Gl X x) wv)(hi:x0 (X.N[i]?=Gc h) wv)(hil:x0 (X.env.scope.names.lookup h=Gc .local) wv)(hj:x0 (X.N[j]?=Gc y) wv)(hv:x0 (Vis X.env.scope y) wP)(hdx:x0 ((x==("__debug__":Str))=false) xL)(hdy:x0 ((y==("__debug__":Str))=false) xL)(hcy:x0 ((y==("__classdict__":Str))=false) xL)(hdh:x0 ((h==("__debug__":Str))=false) xL)(hch:x0 ((h==("__classdict__":Str))=false) xL)(hs:x0 (swapsWith (.Subscript (.Name x px) (.Name y py) p1) (Gc (.Name h ph)) p2.line X.env=pure false) wv)(hpl:x0 (OI (.Name y py)) wf)(he:x0 (rG (e::es) X.env=(false,eval e X.env)::rG es X.env) wv)(hpa:x0 ((backTo pc (rG es X.env)).any (·.1)=false) wv):DSs X [.Assign [.Name h ph] (.Subscript (.Name x px) (.Name y py) p1) p2,.Return (Gc (.Call (.Name h ph2) (e::es) [] pc)) pr] (dF tbl i j fs):=⟨by
 obtain⟨a,kvs,t1,t2,t3⟩:=T.ex
 refine N9 (RK (YW (i:=i) hN hi (.inl hil) (b9 ZA (OE (v:=.ref a) hg t1 rfl hdx) (Oy hj hv hdy hcy) hpl) hs (.inr hil)) (N6 (TZ (Wc (k:=k) (i:=i) hi (.inl hil) hr ha.pe hdh hch he hpa)))) λDn σ H z=>?_
 obtain⟨M,E,S,fl,E',S',e,r,st,q⟩:=z
 unfold dF at e
 split at e
 .rename_i hnone
  rw[rH]at hnone
  have hlt:=rO hnone.2
  have hnone:at? E i=none:=by simpa using hnone.1
  obtain⟨w,e1,e⟩:=Af e
  split at e
  .rename_i p
   obtain⟨G,e2,e⟩:=Af e
   obtain⟨⟨d4,S4⟩,e3,e⟩:=IC e
   cases e
   obtain⟨v,hv1,hv2⟩:=r.val j _ (at?_some e1)
   cases hv2
   obtain⟨f,fd,ps,l1,l2,l3,l4⟩:=t3 p G e2
   refine⟨_,hv1,a,kvs,p,_,rfl,rfl,t2,l1,?_⟩
   have r1:=r.Zf (v:=.ref f) hnone
   have hlen:i<σ.length:=by
    have:=r.len
    lia
   refine⟨f,spD X.K np G,rF hlen,⟨fd,ps,l2,l3,l4⟩,?_⟩
   exact TC (σ:=σ.set i (Gc (.ref f))) hnp ⟨M,_,S,d4,S4,e3,r1,st,q⟩
  .cases e
 .cases e⟩
def dG{kV doc pm cdv ct:rD}(X:K.In h)(G:h.Ns mainGlobals mg)(a:sN K mainGlobals x=Gc (Gc (.ref f)))(l:K.lookup f=Gc ⟨oc,od,.func (uh x x (Gs st) (BH st) (AB st) .none kV doc pm an cdv ct),osl⟩)(c:vx K cdv x=true)(k:tL K (.ref f)=true):St.Src K mg x st:=
 ⟨f,_,U5 l c k,uj X G a⟩
def IsD(K:W1)(u:rD)(d:D):Prop:=∃v,RelV v u/\∀M H,Be K M H v d
def bO:IsD K (.int i t) (.int i):=⟨.int i,⟨t,rfl⟩,λ_ _=>.int i⟩
def Zl:IsD K (.str x t) (.str x):=⟨.str x,⟨t,rfl⟩,λ_ _=>.str x⟩
def f9:IsD K (.bool b) (.bl b):=⟨.bl b,rfl,λ_ _=>.bl b⟩
def ZL:IsD K .none .non:=⟨.non,rfl,λ_ _=>.non⟩
theorem RP:∀{us} {ds},Paired (λd u=>IsD K u d) ds us->∃xs,Vals xs us/\∀M H,Ab K M H xs ds
 |_,_,.nil=>⟨[],.nil,λ_ _=>.nil⟩
 |_,_,.cons h t=>by
  obtain⟨v,h1,h2⟩:=h
  obtain⟨xs,h3,h4⟩:=RP t
  exact⟨v::xs,.cons h1 h3,λM H=>.cons (h2 M H) (h4 M H)⟩
def bU(l:K.lookup a=Gc ⟨.type "tuple",od,.seq its.toArray n,osl⟩)(hz:its.length<=sizeLine)(r:Paired (λd u=>IsD K u d) ds its):IsD K (.ref a) (.tup ds):=by
 obtain⟨xs,h1,h2⟩:=RP r
 exact⟨.ref a,rfl,λM H=>.tup (.inr ⟨_,its.toArray,n,l,rfl,rfl,by simpa using hz,by simpa using h1⟩) (h2 M H)⟩
def fF(X:K.In h)(G:h.Ns mainGlobals mg)(e:sN K mainGlobals x=Gc (Gc u))(r:IsD K u d):Po K mg x d:=by
 obtain⟨v,h1,h2⟩:=r
 exact⟨v,u,uj X G e,h1,h2⟩
theorem VT:∀{tbl} {es},Paired (λp (e:wj)=>(∃t,e.key=.str p.1 t)/\IsD K e.val p.2) tbl es->∃kvs,Paired (λp (e:wj)=>(∃t,e.key=.str p.1 t)/\RelV p.2 e.val) kvs es/\∀k,(tbl.lookup k=none->kvs.lookup k=none)/\∀d,tbl.lookup k=Gc d->∃v,kvs.lookup k=Gc v/\∀M H,Be K M H v d
 |_,_,.nil=>⟨[],.nil,λk=>⟨λ_=>rfl,λd e=>by cases e⟩⟩
 |(k0,d0)::tbl,_::es,.cons hh t=>by
  obtain⟨hk,v,h1,h2⟩:=hh
  obtain⟨kvs,h3,h4⟩:=VT t
  refine⟨(k0,v)::kvs,.cons ⟨hk,h1⟩ h3,λk=>?_⟩
  rw[sX,sX]
  cases e:k==k0 with
  |true=>exact⟨λz=>(nomatch z),λd z=>by cases z;exact⟨v,rfl,h2⟩⟩
  |false=>exact h4 k
def bI(X:K.In h)(G:h.Ns mainGlobals mg)(e:sN K mainGlobals x=Gc (Gc (.ref a)))(l:K.lookup a=Gc ⟨.type "dict",none,.dict es.toArray n, #[]⟩)(hk:xY w.params es)(hne:(a==sysModules)=false)(hp:Paired (λp (e:wj)=>(∃t,e.key=.str p.1 t)/\IsD K e.val p.2) tbl es):eU K w mg x tbl:=by
 obtain⟨kvs,h1,h2⟩:=VT hp
 exact⟨a,kvs,uj X G e,YI l hk hne h1,h2⟩
structure jH(w:uL)(K:W1)(mg:Str->qz rD)(x:Str)(ns:Wp (Str×Str)):Prop where
 ex:∃a kvs,mg x=Gc (.ref a)/\TopD K w a kvs/\Paired (λ(n:Str×Str) (q:Str×V)=>n.1=q.1/\∃f,q.2=.ref f/\mg n.2=Gc (.ref f)) ns kvs
theorem Pf(X:K.In h)(G:h.Ns mainGlobals mg):∀{ns:Wp (Str×Str)} {es},Paired (λn (e:wj)=>(∃t,e.key=.str n.1 t)/\∃f,e.val=.ref f/\sN K mainGlobals n.2=Gc (Gc (.ref f))) ns es->∃kvs:Wp (Str×V),Paired (λp (e:wj)=>(∃t,e.key=.str p.1 t)/\RelV p.2 e.val) kvs es/\Paired (λn q=>n.1=q.1/\∃f,q.2=.ref f/\mg n.2=Gc (.ref f)) ns kvs
 |_,_,.nil=>⟨[],.nil,.nil⟩
 |(k0,g0)::ns,_::es,.cons hh t=>by
  obtain⟨hk,f,h1,h2⟩:=hh
  obtain⟨kvs,h3,h4⟩:=Pf X G t
  exact⟨(k0,.ref f)::kvs,.cons ⟨hk,h1⟩ h3,.cons ⟨rfl,f,rfl,uj X G h2⟩ h4⟩
def bB(X:K.In h)(G:h.Ns mainGlobals mg)(e:sN K mainGlobals x=Gc (Gc (.ref a)))(l:K.lookup a=Gc ⟨.type "dict",none,.dict es.toArray n, #[]⟩)(hk:xY w.params es)(hne:(a==sysModules)=false)(hp:Paired (λn (e:wj)=>(∃t,e.key=.str n.1 t)/\∃f,e.val=.ref f/\sN K mainGlobals n.2=Gc (Gc (.ref f))) ns es):jH w K mg x ns:=by
 obtain⟨kvs,h1,h2⟩:=Pf X G hp
 exact⟨a,kvs,uj X G e,YI l hk hne h1,h2⟩
def av{k np:Nat}:∀{ns:Wp (Str×Str)} {kvs:Wp (Str×V)} {tbl},Paired (λn q=>n.1=q.1/\∃f,q.2=.ref f/\mg n.2=Gc (.ref f)) ns kvs->Paired (λn q=>n.1=q.1/\∃j ps,j<=k/\St.Dfn P w K mg base n.2 j ps (spD K np q.2)) ns tbl->∀p G,tbl.lookup p=Gc G->∃f fd ps,kvs.lookup p=Gc (.ref f)/\Kg P w K mg base CX0 k f fd ps (spD K np G)/\tL K (.ref f)=true/\Binds K fd ps []:=by
 intro ns kvs tbl a
 induction a generalizing tbl with
 |nil=>intro b p G e;cases b;cases e
 |cons h1 t1 ih=>
  intro b p G e
  cases b with
  |cons h2 t2=>
  rename_i n0 q1 n1 l1 q2 l2
  obtain⟨k1,v1⟩:=q1
  obtain⟨k2,G2⟩:=q2
  obtain⟨e1,f,e2,e3⟩:=h1
  obtain⟨e4,j,ps,hj,hd⟩:=h2
  have e5:k1=k2:=e1.symm.trans e4
  subst e5
  rw[sX]at e⊢
  cases eq:p==k1 with
  |true=>
   rw[eq]at e
   cases e
   obtain⟨f',fd,m1,m2,m3,m4⟩:=hd.ex
   have:f'=f:=by
    have:=m1.symm.trans e3
    cases this;rfl
   subst this
   exact⟨f',fd,ps,by rw[show v1=.ref f' from e2],m4.mono hj,m2,m3⟩
  |false=>
   rw[eq]at e
   exact ih t2 p G e
def bA(T:jH w K mg x ns)(h:Paired (λn q=>n.1=q.1/\∃j ps,j<=k/\St.Dfn P w K mg base n.2 j ps (spD K np q.2)) ns tbl):l8 P w K mg base x k np tbl:=by
 obtain⟨a,kvs,h1,h2,h3⟩:=T.ex
 exact⟨a,kvs,h1,h2,av h3 h⟩
def Tb(old:rL->Prop)(H:Hp)(h:tS)(e:rL)(v:rD):Prop:=
 v=.none\/∃T oT ts,v=.ref T/\T≠e/\h.get? T=Gc oT/\oT.data=.fields ts/\ts[3]?=Gc .none/\H T=none/\¬old T
structure Fly(old:rL->Prop)(H:Hp)(h:tS)(e C:rL)(od:qz rL):Prop where
 free:H e=none
 new:¬old e
 ex:∃oe vs a0 v,h.get? e=Gc oe/\oe.cls=.ref C/\oe.data=.fields vs/\vs[0]?=Gc a0/\vs[1]?=Gc v/\Tb old H h e v/\∀dx,od=Gc dx->oe.dict=Gc dx
def Fly.imp(f:Fly old H h e C od)(m:∀b,old' b->old b):Fly old' H h e C od:=by
 obtain⟨oe,vs,a0,v,h1,h2,h3,h4,h5,t,hd⟩:=f.ex
 refine⟨f.free,λz=>f.new (m _ z),oe,vs,a0,v,h1,h2,h3,h4,h5,?_,hd⟩
 rcases t with t|⟨T,oT,ts,t1,t2,t3,t4,t5,t6,t7⟩
 .exact .inl t
 .exact .inr ⟨T,oT,ts,t1,t2,t3,t4,t5,t6,λz=>t7 (m _ z)⟩
structure gB(old:rL->Prop)(H:Hp)(h:tS)(e C:rL)(od:qz rL):Prop where
 free:H e=none
 new:¬old e
 ex:∃oe vs a0 T oT ts,h.get? e=Gc oe/\oe.cls=.ref C/\oe.data=.fields vs/\vs[0]?=Gc a0/\vs[1]?=Gc (.ref T)/\(T≠e/\h.get? T=Gc oT/\oT.data=.fields ts/\ts[3]?=Gc .none/\H T=none/\¬old T)/\∀dx,od=Gc dx->oe.dict=Gc dx
def gB.fly(f:gB old H h e C od):Fly old H h e C od:=by
 obtain⟨oe,vs,a0,T,oT,ts,h1,h2,h3,h4,h5,r,hd⟩:=f.ex
 exact⟨f.free,f.new,oe,vs,a0,.ref T,h1,h2,h3,h4,h5,.inr ⟨T,oT,ts,rfl,r⟩,hd⟩
structure Trn(X:Cx)(old:rL->Prop)(H:Hp)(h h':tS)(e C:rL)(od:qz rL):Prop where
 keep:∀b o,h.get? b=Gc o->b∉frs X.stack->(H b≠none\/old b\/∀vs,o.data≠.fields vs)->h'.get? b=Gc o
 slot:∀b o,h.get? b=Gc o->(∀vs,o.data≠.fields vs)->∃sl,h'.get? b=Gc {o with slots:=sl}
 fly:gB old H h' e C od
def D1.there(x:D1 P w H h a o):∃ob,h.get? a=Gc ob:=by
 cases o with
 |lst xs=>obtain⟨_,_,_,_,e⟩:=x;exact⟨_,e⟩
 |tup xs=>obtain⟨_,_,_,ob,e,_⟩:=x;exact⟨_,e⟩
 |dK kvs=>obtain⟨_,_,_,_,o,_,_,e,_⟩:=x;exact⟨_,e⟩
 |dT kvs=>obtain⟨_,_,_,_,o,_,_,e,_⟩:=x;exact⟨_,e⟩
 |set S n=>obtain⟨o,_,_,_,e,_⟩:=x;exact⟨_,e⟩
 |ins C dx fs=>obtain⟨_,_,_,e,_⟩:=x;exact⟨_,e⟩
 |own y=>obtain⟨_,e⟩:=x;exact⟨_,e⟩
 |xd fs=>obtain⟨_,⟨_,_,_,e,_⟩,_⟩:=x;exact⟨_,e⟩
 |rng lo hi=>obtain⟨_,_,_,e⟩:=x;exact⟨_,e⟩
 |frz ob u=>obtain⟨e,_⟩:=x;exact⟨_,e⟩
 |tbl ps=>exact⟨_,(show h.get? a=Gc _ from x)⟩
 |met f y=>exact⟨_,(show h.get? a=Gc _ from x)⟩
 |ext φ=>obtain⟨_,⟨_,e⟩,_⟩:=x;exact⟨_,e⟩
section
variable{X:Cx}{pins:Wp (rL×Obj)}{σ:St}{H:Hp}{s:rP}{old:rL->Prop}{e C:rL}{od:qz rL}{Q:Unit->rP->Prop}{E:rD->rP->Prop}{A:ux}
def Tj{h:tS}(ha:h.get? a=Gc oa)(hd:oa.data=.fields vs)(hb:h.get? b=Gc o)(n:∀vs,o.data≠.fields vs):b≠a:=λz=>by
 rw[z,ha]at hb
 cases hb
 exact n _ hd
def ZW{h:tS}(ha:h.get? a=Gc oa)(hd:oa.data=.fields vs)(fr:H a=none)(nw:¬old a)(hb:h.get? b=Gc o)(k:H b≠none\/old b\/∀vs,o.data≠.fields vs):b≠a:=λz=>by
 subst z
 rcases k with k|k|k
 .exact k fr
 .exact nw k
 .exact Tj ha hd hb k rfl
def RA{ts:xI rD}(h:ts[i]?=Gc v):ts.setIfInBounds i v=ts:=by
 apply Array.ext (by simp)
 intro j h1 h2
 rw[Array.getElem_setIfInBounds]
 split
 .rename_i z
  subst z
  obtain⟨_,q⟩:=vE.mp h
  exact q.symm
 .rfl
def Ou(I:Inv X pins σ H s)(hA:A.frames=Gc X.stack)(hst:X.stack=X.env::X.outer)(hf:X.env.frame=Gc X.env.locals)(free:H e=none)(new:¬old e)(ho:∀b,old b->s.heap.get? b≠none)(he:s.heap.get? e=Gc oe)(hc:oe.cls=.ref C)(hd:oe.data=.fields vs)(h0:vs[0]?=Gc a0)(hz:1<vs.size)(hdx:∀dx,od=Gc dx->oe.dict=Gc dx)(hQ:∀h',Trn X old H s.heap h' e C od->Q () {s with heap:=h'}):wpAny M A (do let a<-frameOf X.env;let pl<-entryPlaceOf X.env.locals hadNext;let b<-z6 head a .none (rawInt X.env.locals) .none pl;setField (.ref e) 1 b) (λ_ s2=>wpAny M A (setFlight (.ref e) none) Q E s2) E s:=by
 have st:=I.stack
 have ef:e∉frs X.stack:=λm=>by
  obtain⟨_,o,q,n⟩:=st.mem m
  exact Tj he hd q n rfl
 have hfr:A.frames=Gc (X.env::X.outer):=by rw[hA,hst]
 rw[hst]at st
 refine qu (wpAny_frameOf_fun hfr st hf λh1 hs=>?_)
 obtain⟨sz,out,sl⟩:=hs
 refine qu (wpAny_entryPlaceOf λpl hpl=>?_)
 unfold z6 newFields
 refine qu (uq ?_ (hpl.sizeOk5 _ _ _ _ _))
 generalize hob:({cls:=.type "traceback",data:=.fields ([head,.ref X.env.locals,.none,rawInt X.env.locals,.none]++(if pl.isEmpty then rQ 6 sL else pl)).toArray}:Obj)=tb
 have ef':e∉(X.env::X.outer).filterMap (·.frame):=by rw[<-hst];exact ef
 have e1:h1.get? e=Gc oe:=(out e ef').trans he
 have e2:(h1.push tb).get? e=Gc oe:=qt _ e1
 refine vz e2 hd hz ?_
 have Te:h1.objs.size≠e:=xj (rR e1)
 have d3:=vB hd (·.setIfInBounds 1 (sA h1.objs.size))
 have e3:=uW (tY (·.setIfInBounds 1 (sA h1.objs.size))) e2 (uX d3)
 have tbd:∃ts:xI rD,tb.data=.fields ts/\3<ts.size:=⟨_,by rw[<-hob],by simp only[rK,sk,sS,wV]<;>lia⟩
 obtain⟨ts,td,tz⟩:=tbd
 have T3:((h1.push tb).update e (tY (·.setIfInBounds 1 (sA h1.objs.size)))).get? h1.objs.size=Gc tb:=(tQ _ _ Te.symm).trans (rW h1 (uX td))
 unfold setFlight
 refine qu (uF e3 d3 (x:=.ref h1.objs.size) (by simp[hz]) ?_)
 rw[sD (show(sA h1.objs.size !=sL)=true from by simp)]
 refine vz T3 td tz (hQ _ ?_)
 have T4:=uW (tY (·.setIfInBounds 3 ((none:qz rL).elim sL λf=>rawInt f))) T3 (uX (vB td _))
 have all:∀b o,b≠e->h1.get? b=Gc o->(((h1.push tb).update e (tY (·.setIfInBounds 1 (sA h1.objs.size)))).update h1.objs.size (tY (·.setIfInBounds 3 ((none:qz rL).elim sL λf=>rawInt f)))).get? b=Gc o:=λb o n q=>by
  rw[tQ _ _ (xj (rR q)),tQ _ _ (tu n)]
  exact qt _ q
 have Tn:s.heap.get? h1.objs.size=none:=by
  cases q:s.heap.get? h1.objs.size with
  |none=>rfl
  |some o=>
   obtain⟨sl',z⟩:=sl _ o q
   exact absurd (rR z) (tW _)
 refine⟨λb o q nf k=>all b o (ZW he hd free new q k) ((out b (by rw[<-hst];exact nf)).trans q),λb o q n=>?_,free,new,_,_,a0,h1.objs.size,_,_,(tQ _ _ Te).trans e3,(Obj.cls_mapFields _ _).trans hc,d3,by rw[Array.getElem?_setIfInBounds_ne (by decide)];exact h0,by simp[hz],⟨Te,T4,vB td _,by simp[tz],?_,λz=>ho _ z Tn⟩,λdx z=>?_⟩
 .obtain⟨sl',z⟩:=sl b o q
  exact⟨sl',all b _ (Tj he hd q n) z⟩
 .cases q:H h1.objs.size with
  |none=>rfl
  |some o=>
   obtain⟨ob,z⟩:=D1.there (I.hok _ o q)
   rw[Tn]at z;cases z
 .rw[<-hdx dx z]
  obtain⟨c,dd,da,sl⟩:=oe
  cases da<;>first|rfl|(simp[tY];done)
def Nm(I:Inv X pins σ H s)(hA:A.frames=Gc X.stack)(hst:X.stack=X.env::X.outer)(hf:X.env.frame=Gc X.env.locals)(f:Fly old H s.heap e C od)(ho:∀b,old b->s.heap.get? b≠none)(hQ:∀h',Trn X old H s.heap h' e C od->Q () {s with heap:=h'}):wpAny M A (noteFrame (.ref e) X.env) (λ_ s2=>wpAny M A (setFlight (.ref e) none) Q E s2) E s:=by
 obtain⟨oe,vs,a0,v,h1,h2,h3,h4,h5,t,hd⟩:=f.ex
 have hz:=(vE.mp h5).1
 unfold noteFrame
 simp only[hf]
 refine qu (uF h1 h3 h5 ?_)
 rcases t with t|⟨T,oT,ts,t1,t2,t3,t4,t5,t6,t7⟩
 .subst t
  rw[sH (by decide)]
  exact Ou I hA hst hf f.free f.new ho h1 h2 h3 h4 hz hd hQ
 .subst t1
  rw[sD (show(sA T !=sL)=true from by simp)]
  refine qu (uF t3 t4 t5 ?_)
  rw[sH (show¬((sL==rawInt X.env.locals)=true)from by simp[rawInt])]
  refine qu (vz t3 t4 (vE.mp t5).1 ?_)
  have oth:∀b,b≠T->(s.heap.update T (tY (·.setIfInBounds 3 sL))).get? b=s.heap.get? b:=λb n=>tQ _ _ (tu n)
  have sm:=RA t5
  have up:(s.heap.update T (tY (·.setIfInBounds 3 sL))).get? T=Gc oT:=by
   rw[uW _ t3 (uX (vB t4 _))]
   obtain⟨c,dd,da,sl⟩:=oT
   cases t4
   show Gc ({cls:=c,dict:=dd,data:=.fields (ts.setIfInBounds 3 .none),slots:=sl}:Obj)=_
   rw[sm]
  have same:∀b,(s.heap.update T (tY (·.setIfInBounds 3 sL))).get? b=s.heap.get? b:=λb=>by
   by_cases z:b=T
   .rw[z,up,t3]
   .exact oth b z
  have I':Inv X pins σ H {s with heap:=s.heap.update T (tY (·.setIfInBounds 3 sL))}:=I.kept (t':=s.toks) λb u q=>(same b).trans q
  refine Ou (s:={s with heap:=s.heap.update T (tY (·.setIfInBounds 3 sL))}) I' hA hst hf f.free f.new (λb z q=>ho b z ((same b).symm.trans q)) ((same e).trans h1) h2 h3 h4 hz hd λh' t=>hQ h' ⟨λb o q=>t.keep b o ((same b).trans q),λb o q=>t.slot b o ((same b).trans q),t.fly⟩
def VJ(I:Inv X pins σ H s)(f:gB old H s.heap e C od)(hQ:∀h',Trn X old H s.heap h' e C od->Q () {s with heap:=h'}):wpAny M A (setFlight (.ref e) none) Q E s:=by
 obtain⟨oe,vs,a0,T,oT,ts,h1,h2,h3,h4,h5,⟨t2,t3,t4,t5,t6,t7⟩,hd⟩:=f.ex
 unfold setFlight
 refine qu (uF h1 h3 h5 ?_)
 rw[sD (show(sA T !=sL)=true from by simp)]
 refine vz t3 t4 (vE.mp t5).1 (hQ _ ?_)
 have up:(s.heap.update T (tY (·.setIfInBounds 3 ((none:qz rL).elim sL λf=>rawInt f)))).get? T=Gc oT:=by
  rw[uW _ t3 (uX (vB t4 _))]
  obtain⟨c,dd,da,sl⟩:=oT
  cases t4
  show Gc ({cls:=c,dict:=dd,data:=.fields (ts.setIfInBounds 3 .none),slots:=sl}:Obj)=_
  rw[RA t5]
 have same:∀b,(s.heap.update T (tY (·.setIfInBounds 3 ((none:qz rL).elim sL λf=>rawInt f)))).get? b=s.heap.get? b:=λb=>by
  by_cases z:b=T
  .rw[z,up,t3]
  .exact tQ _ _ (tu z)
 exact⟨λb o q _ _=>(same b).trans q,λb o q _=>⟨o.slots,(same b).trans q⟩,f.free,f.new,oe,vs,a0,T,oT,ts,(same e).trans h1,h2,h3,h4,h5,⟨t2,up,t4,t5,t6,t7⟩,hd⟩
end
def c7(X:Cx)(pins:Wp (rL×Obj))(b:rL):Prop:=X.s₀.heap.get? b≠none\/∃p∈X.pn++pins,p.1=b
section
variable{X:Cx}{pins:Wp (rL×Obj)}{σ:St}{H:Hp}{s:rP}{old:rL->Prop}{e C:rL}{od:qz rL}{h':tS}
def VB(hst:X.stack=X.env::X.outer)(hf:X.env.frame=Gc X.env.locals):frs X.stack=X.env.locals::X.fs:=by
 rw[hst];unfold frs Cx.fs frs;rw[se,hf]
def EO(I:Inv X pins σ H s)(hx:X.ex=[]):∀b,c7 X pins b->s.heap.get? b≠none:=λb z=>by
 rcases z with z|⟨p,m,rfl⟩
 .cases q:X.s₀.heap.get? b with
  |none=>exact absurd q z
  |some o=>
   obtain⟨o',e'⟩:=I.base.there b o q (by rw[hx];exact λz=>nomatch z)
   rw[e'];exact λz=>nomatch z
 .rw[(I.pin p m).1];exact λz=>nomatch z
def Py(I:Inv X pins σ H s)(t:Trn X old H s.heap h' e C od):HOk X.prog X.w H h':=λa o q=>by
 refine(I.hok a o q).WH (λb u hb e1=>?_) (λ_ z=>z) λ_ _ z=>z
 have hn:H b≠none:=by
  rcases hb with z|z
  .subst z;rw[q];exact λz=>nomatch z
  .rw[z];exact λz=>nomatch z
 exact t.keep b u e1 (λz=>hn (I.QQ b z)) (.inl hn)
def Vw(I:Inv X pins σ H s)(hst:X.stack=X.env::X.outer)(hf:X.env.frame=Gc X.env.locals)(hx:X.ex=[])(t:Trn X (c7 X pins) H s.heap h' e C od):Un X.fs X.ex X.H₀ H X.s₀.heap h':=by
 have hs:=VB hst hf
 have nL:∀b o,X.s₀.heap.get? b=Gc o->b≠X.env.locals:=λb o e1=>sM (qw (rR e1) I.ok.above)
 have od:∀b o,X.s₀.heap.get? b=Gc o->c7 X pins b:=λb o e1=>.inl (by rw[e1];exact λz=>nomatch z)
 have fd:∀b o,b∈X.fs->X.s₀.heap.get? b=Gc o->∀vs,o.data≠.fields vs:=λb o hb e1 vs=>by
  obtain⟨_,o',e2,q⟩:=I.ok.QM.mem hb
  rw[e1]at e2;cases e2
  exact q vs
 refine⟨λb o e1 n hb hx'=>?_,λb o e1 n hb hx'=>?_,I.base.free,λb o e1 hx'=>?_,I.base.X3,I.base.TQ,I.base.WJ⟩
 .refine t.keep b o (I.base.keep b o e1 n hb hx') (λz=>?_) (.inr (.inl (od b o e1)))
  rw[hs]at z
  exact(qy.mp z).elim (nL b o e1) hb
 .obtain⟨sl,q⟩:=I.base.slot b o e1 n hb hx'
  obtain⟨sl',q'⟩:=t.slot b _ q (fd b o hb e1)
  exact⟨sl',q'⟩
 .obtain⟨o',q⟩:=I.base.there b o e1 hx'
  by_cases hb:b∈frs X.stack
  .obtain⟨_,o2,q2,d⟩:=I.stack.mem hb
   obtain⟨sl,z⟩:=t.slot b o2 q2 d
   exact⟨_,z⟩
  .exact⟨o',t.keep b o' q hb (.inr (.inl (od b o e1)))⟩
def TF(I:Inv X pins σ H s)(hst:X.stack=X.env::X.outer)(hf:X.env.frame=Gc X.env.locals)(hx:X.ex=[])(t:Trn X (c7 X pins) H s.heap h' e C od):Inv X pins σ H {s with heap:=h'}:=by
 have hs:=VB hst hf
 have cl:∀c v,s.heap.IsCell c v->h'.IsCell c v:=λc v ⟨o,ho,hd⟩=>by
  obtain⟨sl,q⟩:=t.slot c o ho λvs z=>by rw[hd]at z;cases z
  exact⟨_,q,hd⟩
 refine⟨I.ok,I.os,I.bare,Vw I hst hf hx t,?_,λx c e1=>?_,I.free,I.Ji,λp m=>?_,Py I t,I.len⟩
 .obtain⟨m,hn,hl⟩:=I.loc
  refine⟨m,Heap.UpToSlots.ns (λb o e1 e2=>t.slot b o e1 e2) hn,λi x v e1 e2 e3=>?_⟩
  obtain⟨u,r,l⟩:=hl i x v e1 e2 e3
  refine⟨u,r,?_⟩
  rcases l with l|⟨k,c,e4,z⟩
  .exact .inl l
  .exact .inr ⟨k,c,e4,cl c _ z⟩
 .obtain⟨v,z⟩:=I.cell x c e1
  exact⟨v,cl c v z⟩
 .obtain⟨p1,p2,p3,p4,p5⟩:=I.pin p m
  refine⟨t.keep _ _ p1 (λz=>?_) (.inr (.inl (.inr ⟨p,m,rfl⟩))),p2,p3,p4,p5⟩
  rw[hs]at z
  exact(qy.mp z).elim p3 p4
end
abbrev Rk:=rL->qz rL->St->Hp->Prop
abbrev TR:=St->Hp->Rk->Prop
inductive XP(X:Cx)(pins:Wp (rL×Obj))(Z:Rk)(ev:rD)(s':rP):Prop
 |mk (e C:rL) (od:qz rL) (σ':Sg) (H':Hp) (h:ev=.ref e) (I:Inv X pins σ' H' s') (z:Z C od σ' H') (fl:Fly (c7 X pins) H' s'.heap e C od)
def PX(X:Cx)(st:sP)(t:TR):Prop:=∀(pins:Wp (rL×Obj)) (s:rP) (σ:St) (H:Hp) (Z:Rk),Inv X pins σ H s->t σ H Z->wpAny (model X.prog X.w) X.A (exec st X.env) (λ_ _=>uO) (XP X pins Z) s
def PXs(X:Cx)(sts:Wp sP)(t:TR):Prop:=∀(pins:Wp (rL×Obj)) (s:rP) (σ:St) (H:Hp) (Z:Rk),Inv X pins σ H s->t σ H Z->wpAny (model X.prog X.w) X.A (execs sts X.env) (λ_ _=>uO) (XP X pins Z) s
def PXe(X:Cx)(e:tF)(t:TR):Prop:=∀(pins:Wp (rL×Obj)) (s:rP) (σ:St) (H:Hp) (Z:Rk),Inv X pins σ H s->t σ H Z->wpAny (model X.prog X.w) X.A (eval e X.env) (λ_ _=>uO) (XP X pins Z) s
noncomputable def CXr(P:sx)(w:uL):CXT:=λouter H s E ev s'=>∃e C od H',ev=.ref e/\s'.os=s.os/\wd s'.gens/\Un (frs outer) [] H H' s.heap s'.heap/\HOk P w H' s'.heap/\Fly (λb=>s.heap.get? b≠none) H' s'.heap e C od/\E (.ref C) od H'
def Q4(h:XP (Jj (CXr P w) P w K mg base N qual scope f cd A outer s H E).nox pins Z ev s')(hZ:∀C od σ' H',Z C od σ' H'->E (.ref C) od H'):(Jj (CXr P w) P w K mg base N qual scope f cd A outer s H E).xe ev s':=by
 obtain⟨e,C,od,σ',H',rfl,I,z,fl⟩:=h
 show wpAny _ _ (leaving _ (.ref e)) _ _ s'
 unfold leaving
 refine qu (Nm I I.ok.frames rfl rfl fl (EO I rfl) λh' t=>?_)
 exact⟨e,C,od,H',rfl,I.os,I.bare,Vw I rfl rfl rfl t,Py I t,t.fly.fly.imp λb z=>.inl z,hZ _ _ _ _ z⟩
structure Tg where
 nm:Str
 pay:qz Int
instance:Coe Str Tg:=⟨λx=>⟨x,none⟩⟩
def ij(mg:Str->qz rD)(x:Tg)(C:rL)(od:qz rL)(H:Hp):Prop:=mg x.nm=Gc (.ref C)/\∀n,x.pay=Gc n->∃dx,od=Gc dx/\H dx=Gc (.xd [("at",.int n)])
abbrev Rx:=En->Sto->qz (Tg×En×Sto)
abbrev Rf:=Wp D->Sto->qz (Tg×Sto)
inductive tR(K:W1)(mg:Str->qz rD)(r:Rx)(σ:Sg)(H:Hp)(Z:Rk):Prop
 |mk (M:Ms) (E:En) (S:Sto) (x:Tg) (E':En) (S':Sto) (e:r E S=Gc (x,E',S')) (rr:EnR K M E σ H) (st:StR K M S H) (q:∀C od σ' H' M',ij mg x C od H'->Gr M H M' H'->EnR K M' E' σ' H'->StR K M' S' H'->Z C od σ' H')
structure RS(X:Cx)(st:sP)(r:Rx):Prop where
 pe:PX X st (tR X.K X.mg r)
structure RSs(X:Cx)(st:Wp sP)(r:Rx):Prop where
 pe:PXs X st (tR X.K X.mg r)
structure RE(X:Cx)(e:tF)(r:Rx):Prop where
 pe:PXe X e (tR X.K X.mg r)
inductive spR(K:W1)(mg:Str->qz rD)(np:Nat)(R:Rf)(vs:Wp V)(H:Hp)(Q:VK)(E:XK):Prop
 |mk (M:Ms) (ds:Wp D) (S:Sto) (x:Tg) (S':Sto) (l:ds.length=np) (e:R ds S=Gc (x,S')) (r:Ab K M H vs ds) (st:StR K M S H) (q:∀C od H' M',ij mg x C od H'->Gr M H M' H'->StR K M' S' H'->E (.ref C) od H')
noncomputable def Lb(N:Nat)(r:Rx):Rf:=λds S=>(r (ds.map Gc++rQ (N-ds.length) none) S).map λq=>(q.1,q.2.2)
structure dI(P:sx)(w:uL)(K:W1)(mg:Str->qz rD)(base:tS)(x:Str)(k:Nat)(ps:Wp Str)(sp:Sp):Prop where
 ex:∃f fd,mg x=Gc (.ref f)/\tL K (.ref f)=true/\Binds K fd ps []/\Kg P w K mg base (CXr P w) k f fd ps sp
section
variable{P:sx}{w:uL}{K:W1}{mg:Str->qz rD}{base:tS}
def fG(Fu:Fun K x x st f fd)(S:Au N ps (AB st))(hp:ps.length=np)(hb:∀cdv A outer s H E,Ct k (A.deeper (rg x (AB st) s.heap.objs.size f cdv))->RSs (Jj CX0 P w K mg base N x (AB st) f cdv A outer s H E).nox (BH st) r):Kg P w K mg base (CXr P w) (k+1) f fd ps (spR K mg np (AS (Lb N.length r))):=by
 rw[Ga]
 obtain⟨oc,od,kV,doc,pm,an,cdv,ct,osl,rfl,lk,hcd⟩:=Fu.ex
 refine X4 lk hcd S (λvs H Q E h=>?_) λA outer s H vs Q E hr h=>?_
 .obtain⟨M,ds,S0,d,S',hl,_,r,_⟩:=h
  have:=r.length
  lia
 .obtain⟨M,ds,S0,y,S',hl,e,rr,st,q⟩:=h
  have hlen:=rr.length
  refine⟨λ_ σ H=>tR K mg r σ H λC od _ H'=>E (.ref C) od H',λpins s1 σ1 H1 D I h=>?_,?_⟩
  .exact tq ((hb cdv A outer s H E hr).pe pins s1 σ1 H1 _ (I.Rb _) h) (λ_ _ z=>z.elim) λev s' z=>Q4 z λ_ _ _ _ z=>z
  .obtain⟨⟨y',E',S1⟩,e1,e⟩:=IC e
   cases e
   refine⟨M,_,S0,y',E',S1,e1,?_,st,λC od σ' H' M' hm g _ st'=>q C od H' M' hm g st'⟩
   rw[show L2.start N vs=vs.map Gc++rQ (N.length-ds.length) none from by unfold L2.start;rw[hlen]]
   exact .args rr _
def Z3(S:St.Src K mg x st)(sc:Au N ps (AB st))(hp:ps.length=np)(hbi:∀f fd,Fun K x x st f fd->Binds K fd ps [])(hb:∀f cdv A outer s H E,Ct k (A.deeper (rg x (AB st) s.heap.objs.size f cdv))->RSs (Jj CX0 P w K mg base N x (AB st) f cdv A outer s H E).nox (BH st) r):dI P w K mg base x (k+1) ps (spR K mg np (AS (Lb N.length r))):=by
 obtain⟨f,fd,Fu,hm⟩:=S.ex
 exact⟨f,fd,hm,Fu.kp,hbi f fd Fu,fG Fu sc hp λcdv A outer s H E hr=>hb f cdv A outer s H E hr⟩
end
def EY{X:Cx}{α:Type}{t:Sem α}{Q Q':α->rP->Prop}(hn:X.xe=λ_ _=>uO)(h:wpAny M A t Q X.xe s)(hQ:∀a s,Q a s->Q' a s):wpAny M A t Q' E s:=
 tq h hQ λ_ _ z=>by rw[hn]at z;exact z.elim
noncomputable def QX(R:Rf)(fs:Wp Ev):Rx:=λE S=>(evs fs E S).bind λq=>(R q.1 q.2).map λz=>(z.1,E,z.2)
def Ud{X:Cx}{k np:Nat}{x:Str}{ps:Wp Str}{p pos:Pos}(d:dI X.prog X.w X.K X.mg X.base x k ps (spR X.K X.mg np R))(hr:Ct k X.A)(hg:Gl X x)(ha:DEs X (e::es) fs)(hn:x0 (fs.length=np) wv)(hxe:x0 (X.xe=λ_ _=>uO) wv)(hx:x0 (X.ex=[]) wv)(hdb:x0 ((x==("__debug__":Str))=false) xL)(he:x0 (rG (e::es) X.env=(false,eval e X.env)::rG es X.env) wv)(hpl:x0 ((backTo pos (rG es X.env)).any (·.1)=false) wv):RE X (.Call (.Name x p) (e::es) [] pos) (QX R fs):=⟨by
 intro pins s σ H Z I h
 obtain⟨f,fd,hm,hk,hb,F⟩:=d.ex
 obtain⟨M,E,S,y,E',S',e0,r,st,q⟩:=h
 obtain⟨⟨ds,S1⟩,e1,e2⟩:=Af e0
 obtain⟨⟨y',S2⟩,e3,e4⟩:=IC e2
 cases e4
 refine uB (J3 I hg hm ?_ hdb)
 have ha':=ha.pe pos pins s σ H (λvs H1=>∃M1,Gr M H M1 H1/\StR X.K M1 S1 H1/\Ab X.K M1 H1 vs ds) I (FN e1 r st λvs H1 M1 g1 st1 r1=>⟨M1,g1,st1,r1⟩)
 refine uM (h₀:=X.base) I.ok.mod.kin hk (EY hxe ha' λus s1 ⟨vs,H1,I1,rv,M1,g1,st1,r1⟩=>⟨I1.kIn,?_⟩) he hpl
 have sp:spR X.K X.mg np R vs H1 (λ_ _=>uO) (λv od H'=>∃C,v=.ref C/\Z C od σ H'):=
  ⟨M1,ds,S1,y',S2,by rw[HX e1];exact hn,e3,r1,st1,λC od H' M' hc g2 st2=>⟨C,rfl,q C od σ H' M' hc (g1.trans g2) ((r.step g1.st).step g2.st) st2⟩⟩
 have hl:(us++[]).length=ps.length:=by rw[sj,<-rv.length];exact F.len _ _ _ _ sp
 have hbs:=hb s1 us I1.kIn hl
 rw[sj]at hbs
 refine wY (v9 (F.run X.A X.stack s1 H1 ⟨us,[]⟩ us vs _ _ hr I1.Yp hbs rv sp) λrs s' hq=>?_)
 cases rs with
 |error ev=>
  obtain⟨e,C,od,H',rfl,os,bare,un,hok,fly,C',hC,z⟩:=hq
  cases hC
  exact⟨e,C,od,σ,H',rfl,I1.UL os un hok bare (λb z=>nomatch z),z,fly.imp λb z=>EO I1 hx b z⟩
 |ok fl=>
  cases fl with
  |ret u=>
   obtain⟨v,H',_,_,_,_,_,q⟩:=hq
   exact q.elim
  |next=>exact si hq
  |brk=>exact si hq
  |cont=>exact si hq⟩
section
variable{X:Cx}{st:sP}{rest a b:Wp sP}{f g:Ex}{r r1 r2:Rx}{c e:tF}{k:Ev}{pos:Pos}
def bW(h:RE X e r)(hs:x0 (swapsWith e none pos.line X.env=pure false) wv):RS X (.Expr e pos) r:=⟨λpins s σ H Z I q=>wpAny_Expr_any (tq (h.pe pins s σ H Z I q) (λ_ _ z=>z) λ_ _ z=>z) I.quiet hs⟩
def dM(h:RE X e r):RS X (.Return (Gc e) pos) r:=⟨λpins s σ H Z I q=>yL (tq (h.pe pins s σ H Z I q) (λ_ _ z=>z) λ_ _ z=>z)⟩
noncomputable def rNo:Rx:=λ_ _=>none
def Xz:RS X st rNo:=⟨λ_ _ _ _ _ _ z=>by
 obtain⟨M,E,S,x,E',S',e,_⟩:=z
 cases e⟩
def PD:RSs X rest rNo:=⟨λ_ _ _ _ _ _ z=>by
 obtain⟨M,E,S,x,E',S',e,_⟩:=z
 cases e⟩
noncomputable def JK(r:Rx)(f:Ex)(r2:Rx):Rx:=λE S=>match r E S with
 |some z=>Gc z
 |none=>(f E S).bind λq=>match q.1 with
  | .nx=>r2 q.2.1 q.2.2
  | .ret _=>none
def Fq(h1:RS X st r)(hb:DS X st f)(h2:RSs X rest r2)(hxe:x0 (X.xe=λ_ _=>uO) wv):RSs X (st::rest) (JK r f r2):=⟨λpins s σ H Z I z=>by
 obtain⟨M,E,S,x,E',S',e,rr,ss,q⟩:=z
 unfold JK at e
 split at e
 .rename_i z' e1
  cases e
  refine vX (tq (h1.pe pins s σ H Z I ⟨M,E,S,x,E',S',e1,rr,ss,q⟩) (λ_ _ z=>z.elim) λ_ _ z=>z)
 .obtain⟨⟨fl,E1,S1⟩,e1,e⟩:=Af e
  dsimp only at e
  split at e
  .refine vX (EY hxe (hb.pe pins s σ H {nx:=λσ' H'=>tR X.K X.mg r2 σ' H' Z,rt:=λ_ _=>uO} I ⟨M,E,S,.nx,E1,S1,e1,rr,ss,λσ' H' M' g' r' st'=>⟨M',E1,S1,x,E',S',e,r',st',λC od σ2 H2 M2 hm g2=>q C od σ2 H2 M2 hm (g'.trans g2)⟩⟩) λfl s1 w=>?_)
   cases fl with
   |next=>
    obtain⟨σ',H',I',q'⟩:=w
    exact h2.pe pins s1 σ' H' Z I' q'
   |ret v=>obtain⟨_,_,_,_,_,q'⟩:=w;exact q'.elim
   |brk=>obtain⟨_,_,_,q'⟩:=w;exact q'.elim
   |cont=>obtain⟨_,_,_,q'⟩:=w;exact q'.elim
  .cases e⟩
def KO(h1:RS X st r):RSs X [st] r:=⟨λpins s σ H Z I z=>vX (tq (h1.pe pins s σ H Z I z) (λ_ _ z=>z.elim) λ_ _ z=>z)⟩
noncomputable def rIf(k:Ev)(r1 r2:Rx):Rx:=λE S=>(k E S).bind λq=>match q.1 with
 | .bl true=>r1 E q.2
 | .bl false=>r2 E q.2
 |_=>none
def We(hc:DT X c k)(ha:RSs X a r1)(hb:RSs X b r2)(hxe:x0 (X.xe=λ_ _=>uO) wv):RS X (.If c a b pos) (rIf k r1 r2):=⟨λpins s σ H Z I z=>by
 obtain⟨M,E,S,x,E',S',e,rr,ss,q⟩:=z
 obtain⟨⟨w1,S1⟩,e1,e⟩:=Af e
 dsimp only at e
 split at e
 .refine wpAny_If (EY hxe (hc.pe pins s σ H (λd H1=>d=true/\tR X.K X.mg r1 σ H1 Z) I ⟨M,E,S,_,S1,e1,rr,ss,λH1 M1 g1 st1=>⟨rfl,M1,E,S1,x,E',S',e,rr.step g1.st,st1,λC od σ2 H2 M2 hm g2=>q C od σ2 H2 M2 hm (g1.trans g2)⟩⟩) λd s1 w=>?_)
  obtain⟨H1,I1,rfl,q1⟩:=w
  exact ha.pe pins s1 σ H1 Z I1 q1
 .refine wpAny_If (EY hxe (hc.pe pins s σ H (λd H1=>d=false/\tR X.K X.mg r2 σ H1 Z) I ⟨M,E,S,_,S1,e1,rr,ss,λH1 M1 g1 st1=>⟨rfl,M1,E,S1,x,E',S',e,rr.step g1.st,st1,λC od σ2 H2 M2 hm g2=>q C od σ2 H2 M2 hm (g1.trans g2)⟩⟩) λd s1 w=>?_)
  obtain⟨H1,I1,rfl,q1⟩:=w
  exact hb.pe pins s1 σ H1 Z I1 q1
 .cases e⟩
end
abbrev VEm:Wp rD:=[.type "ValueError",.type "Exception",.type "BaseException",.type "object"]
structure XcD(K:W1)(mg:Str->qz rD)(x:Str):Prop where
 ex:∃C,mg x=Gc (.ref C)/\yX K C VEm "ValueError.__new__"=true
def kz(X:K.In h)(G:h.Ns mainGlobals mg)(e:sN K mainGlobals x=Gc (Gc (.ref C)))(q:yX K C VEm "ValueError.__new__"=true):XcD K mg x:=⟨C,uj X G e,q⟩
def aJ(X:K.In h)(q:yX K C bmB newId=true):∃bm N nm q bs hdct sn sub ab col dd k0 k1 k2 k3 k5 mN,h.get? C=Gc (excClassObj nm q C N bs bm hdct sn sub ab col dd k0 k1 k2 k3 k5 newId)/\h.Ns N mN/\mN "__init__"=none/\OwnTail h bmB bm:=by
 unfold yX at q
 split at q
 case h_2=>cases q
 rename_i dd cd sl ho
 split at q
 case h_2=>cases q
 rename_i C' bm k0 k1 k2 k3 n k5 hm hs
 simp only[rH,uv,yS]at q
 obtain⟨⟨⟨⟨⟨rfl,rfl⟩,hdel⟩,ht⟩,hok⟩,hni⟩:=q
 have hsl:sl= #[k0,k1,k2,k3,Gc (.builtin n),k5]:=Array.toList_inj.mp hs
 obtain⟨nm,bs,mro,ns,qn,hd,sn,sub,ab,col,del⟩:=cd
 dsimp only at hm hdel hok hni
 subst hm hdel hsl
 exact⟨bm,ns,nm,qn,bs,hd,sn,sub,ab,col,dd,k0,k1,k2,k3,k5,_,X _ _ ho,.of_isNs (PySem.W.isNs_of_in X hok),PySem.W.nsMap_none_of_in X hok hni,PySem.W.tail_of_in X ht⟩
noncomputable def Ef(x:Str)(fs:Wp Ev):Rx:=λE S=>(evs fs E S).map λq=>(⟨x,none⟩,E,q.2)
def K1{np cpos pos:Pos}(hc:X.calm=true)(xc:XcD X.K X.mg x)(hg:Gl X x)(ha:DEs X (e::es) fs)(hl:x0 (fs.length<=sizeLine) xL)(hxe:x0 (X.xe=λ_ _=>uO) wv)(hx:x0 (X.ex=[]) wv)(hdb:x0 ((x==("__debug__":Str))=false) xL)(he:x0 (rG (e::es) X.env=(false,eval e X.env)::rG es X.env) wv)(hpl:x0 ((backTo cpos (rG es X.env)).any (·.1)=false) wv):RS X (.Raise (Gc (.Call (.Name x np) (e::es) [] cpos)) none pos) (Ef x fs):=⟨by
 intro pins s σ H Z I h
 obtain⟨C,hm,hex⟩:=xc.ex
 obtain⟨M,E,S,y,E',S',e0,r,st,q⟩:=h
 obtain⟨⟨ds,S1⟩,e1,e2⟩:=IC e0
 cases e2
 obtain⟨tl,N,nm,qn,bs,hdct,sn,sub,ab,col,dd,k0,k1,k2,k3,k5,mN,hC,hN,hni,T⟩:=aJ I.ok.mod.kin hex
 refine wpAny_Raise_call_subT (C:=C) (nm:=nm) (q:=qn) (N:=N) (bs:=bs) (bm:=tl) (hdct:=hdct) (sn:=sn) (sub:=sub) (ab:=ab) (col:=col) (dd:=dd) (k0:=k0) (k1:=k1) (k2:=k2) (k3:=k3) (k5:=k5)
  zc (mN:=mN) (T.hasType zc.hasBase) (I.ok.hd hc) (by rw[he];show(false||(backTo cpos (rG es X.env)).any (·.1))=false;rw[hpl];rfl) hni (J3 I hg hm ⟨rfl,?_⟩ hdb)
 have ha':=ha.pe cpos pins s σ H (λvs H1=>∃M1,Gr M H M1 H1/\StR X.K M1 S1 H1/\Ab X.K M1 H1 vs ds) I (FN e1 r st λvs H1 M1 g1 st1 r1=>⟨M1,g1,st1,r1⟩)
 rw[he]at ha'⊢
 refine zT (EY hxe ha' λus s1 z=>?_)
 obtain⟨vs,H1,I1,rv,M1,g1,st1,r1⟩:=z
 refine⟨rfl,by rw[<-rv.length,r1.length,HX e1];exact hl,I1.bk _ _ hC,hN.keeps I1.bk,T.keeps I1.bk,λh' ea hmd=>?_⟩
 obtain⟨t,w1,w2,w3⟩:=hmd.there
 refine⟨ea,C,none,σ,H1,rfl,I1.kept (t':=s1.toks) hmd.keeps,q C none σ H1 M1 ⟨hm,λ_ z=>nomatch z⟩ g1 (r.step g1.st) st1,?_,λz=>EO I1 hx _ z hmd.new,_,_,.ref t,.none,w1,rfl,rfl,rfl,rfl,.inl rfl,λ_ z=>nomatch z⟩
 cases o:H1 ea with
 |none=>rfl
 |some ho=>
  obtain⟨ob,z⟩:=D1.there (I1.hok ea ho o)
  rw[hmd.new]at z;cases z⟩
abbrev Cx.mrk(X:Cx)(e:rL):Cx:={X with A:=X.A.mark (Gc (.ref e)),calm:=false}
section
variable{X:Cx}{σ:St}{H:Hp}{e:rL}
def fX(ok:X.Ok):(Cx.mrk X e).Ok:=⟨ok.mod,ok.kind,ok.glob,ok.blt,ok.above,ok.inj,ok.has,ok.cab,(λz=>nomatch z),ok.frames,ok.stk,ok.exf,ok.bs,ok.bsz,ok.ZG,ok.aU,ok.QM,ok.frf⟩
def bC(I:Inv X pins σ H s):Inv (Cx.mrk X e) pins σ H s:=⟨fX I.ok,I.os,I.bare,I.base,I.loc,I.cell,I.free,I.Ji,I.pin,I.hok,I.len⟩
def Jf(ok:X.Ok)(I:Inv (Cx.mrk X e) pins σ H s):Inv X pins σ H s:=⟨ok,I.os,I.bare,I.base,I.loc,I.cell,I.free,I.Ji,I.pin,I.hok,I.len⟩
def XE{D:Ends}(ok:X.Ok)(h:SP (Cx.mrk X e) pins D f s):SP X pins D f s:=by
 cases f with
 |next=>obtain⟨σ',H',I,q⟩:=h;exact⟨σ',H',Jf ok I,q⟩
 |brk=>obtain⟨σ',H',I,q⟩:=h;exact⟨σ',H',Jf ok I,q⟩
 |cont=>obtain⟨σ',H',I,q⟩:=h;exact⟨σ',H',Jf ok I,q⟩
 |ret u=>obtain⟨v,σ',H',I,r,q⟩:=h;exact⟨v,σ',H',Jf ok I,r,q⟩
end
structure HS(X:Cx)(hs:Wp yY)(g:Tg->Ex):Prop where
 pe:∀(x:Tg) (C:rL) (od:qz rL) (pins:Wp (rL×Obj)) (s:rP) (σ:St) (H:Hp) (D:Ends) (e:rL),ij X.mg x C od H->Inv X pins σ H s->gB (c7 X pins) H s.heap e C od->tX X.K (g x) D σ H->
  wpAny (model X.prog X.w) X.A (handleBy (.ref e) X.env hs) (SP X pins D) (λ_ _=>uO) s
noncomputable def gNo:Tg->Ex:=λ_ _ _=>none
def Vz:HS X [] gNo:=⟨λ_ _ _ _ _ _ _ _ _ _ _ _ z=>by
 obtain⟨M,E,S,fl,E',S',e,_⟩:=z
 cases e⟩
structure XmD(K:W1)(mg:Str->qz rD)(xs:Wp Str)(y:Str):Prop where
 ex:∃C',mg y=Gc (.ref C')/\∀x∈xs,∀C,mg x=Gc (.ref C)->v5 K (.ref C) (.ref C')=Gc (x==y)
noncomputable def gOr(xs:Wp Str)(y:Str)(f:Ex)(g:Tg->Ex):Tg->Ex:=λx=>if x.nm∈xs then(if(x.nm==y)=true then f else g x)else Bj
def GR{X:Cx}{xs:Wp Str}{y:Str}{b₀:sP}{np pos:Pos}{rest:Wp yY}(xm:XmD X.K X.mg xs y)(hg:Gl X y)(hf:∀e,DSs (Cx.mrk X e) (b₀::suite) f)(hr:HS X rest g)(hxe:x0 (X.xe=λ_ _=>uO) wv)(hx:x0 (X.ex=[]) wv)(hst:x0 (X.stack=X.env::X.outer) wv)(hfr:x0 (X.env.frame=Gc X.env.locals) wv)(hdb:x0 ((y==("__debug__":Str))=false) xL):HS X (.ExceptHandler (Gc (.Name y np)) none (b₀::suite) pos::rest) (gOr xs y f g):=⟨by
 intro x C od pins s σ H D e tg I fl z
 have hm:=tg.1
 obtain⟨C',hm',hex⟩:=xm.ex
 have hin:x.nm∈xs:=by
  by_cases h:x.nm∈xs
  .exact h
  .obtain⟨M,E,S,fl,E',S',e,_⟩:=z
   unfold gOr at e
   rw[sH h]at e
   cases e
 have z':tX X.K (if(x.nm==y)=true then f else g x) D σ H:=by
  unfold gOr at z
  rw[sD hin]at z
  exact z
 have ex:=hex x.nm hin C hm
 obtain⟨oe,vs,a0,T,oT,ts,h1,h2,_⟩:=id fl.ex
 have LT:PySem.W.Looks (model X.prog X.w) s.heap (typeOf (.ref e)) (.ref C):=by
  rw[<-h2];exact(PySem.W.Looks.ld h1).andThen .now
 refine wpAny_handleBy_cons (codeAny_handlers_test (vw I.ok.kind hg (ya (by rw[I.ok.glob];exact I.mod.glob.keeps I.bk) hm' ?_) hdb)) (by intro q;cases q)
 refine PySem.W.exm_one I.kIn LT ex _ _ _ _ (λ_ _ q=>q) ?_
 cases hb:(x.nm==y)with
 |true=>
  rw[sD hb]at z'
  refine codeAny_handlers_suite (wpAny_passesOwnAt PassesOwnAt.never (VJ I fl λh' t=>?_))
  have I':=bC (e:=e) (TF I hst hfr hx t)
  exact wpAny_passesOwnAt PassesOwnAt.never (EY (X:=Cx.mrk X e) hxe ((hf e).pe pins _ σ H D I' z') λfl s2 w=>XE I.ok w)
 |false=>
  rw[sH (by rw[hb];decide)]at z'
  exact hr.pe x C od pins s σ H D e tg I fl z'⟩
section
variable{X:Cx}{pos:Pos}
end
def mK(X:K.In h)(G:h.Ns mainGlobals mg)(e:sN K mainGlobals y=Gc (Gc (.ref C')))(t:∀x∈xs,∃C,sN K mainGlobals x=Gc (Gc (.ref C))/\v5 K (.ref C) (.ref C')=Gc (x==y)):XmD K mg xs y:=⟨C',uj X G e,λx hx C hm=>by
 obtain⟨C2,e2,q⟩:=t x hx
 have:=hm.symm.trans (uj X G e2)
 cases this
 exact q⟩
def all_nil{p:Str->Prop}:∀x∈([]:Wp Str),p x:=λ_ z=>nomatch z
def all_cons{p:Str->Prop}(h:p x)(t:∀x∈xs,p x):∀y∈x::xs,p y:=λy m=>by
 rcases qy.mp m with rfl|m
 .exact h
 .exact t y m
noncomputable def Uv(n:Nat):En->Nat:=λ_=>n
end Mi
end
noncomputable section
namespace Mi
open PySem PySem.Spec L2 PyProof.Rows
abbrev eIx(a b:Ev):Ev:=eOp (o2 wIx) [a,b]
abbrev eI(n:Int):Ev:=eC (.int n)
def scM{N P:Wp Str}{sc:uf}(a:x0 (sc.kind=.function) wv)(b:x0 (sc.isCoroutine=false) wv)(c:x0 (sc.isGenerator=false) wv)(d:x0 N.Nodup wE)(e:x0 (N.take P.length=P) wv)(f:x0 (∀x∈P,sc.names.lookup x=Gc .local\/sc.names.lookup x=Gc .cell) wE)(g:x0 (∀y∈sc.names,y.2≠.free) wE):Au N P sc:=⟨a,b,c,d,e,f,g⟩
def csM{N:Wp Str}{osc:uf}{N':Wp Str}{ix:Wp (qz Nat)}{scope:uf}(a:x0 (scope.kind=.function) wv)(b:x0 (∀y∈scope.names,y.2=.cell->scope.names.lookup y.1=Gc .cell) wE)(c:x0 (∀y∈scope.names,y.2=.local->scope.names.lookup y.1=Gc .local) wE)(d:x0 (∀y∈scope.names,y.2=.free->(osc.names.lookup y.1=Gc .cell\/osc.names.lookup y.1=Gc .free)) wE)(e:x0 (Qm N osc scope N' ix=true) wE):AR N osc N' ix scope:=⟨a,b,c,d,e⟩
def len0{α:Type}{us:Wp α}(h:us.length=0):us=[]:=List.eq_nil_of_length_eq_zero h
def kC{α:Type}{us:Wp α}(h:us.length=n+1):∃a r,us=a::r/\r.length=n:=by
 cases us with
 |nil=>cases h
 |cons a r=>exact⟨a,r,rfl,Nat.succ.inj h⟩
def Pd{α:Type}{us:Wp α}(h:us.length=1):∃a,us=[a]:=by
 obtain⟨a,r,rfl,k⟩:=kC h
 obtain rfl:=len0 k
 exact⟨a,rfl⟩
def dh{α:Type}{us:Wp α}(h:us.length=2):∃a b,us=[a,b]:=by
 obtain⟨a,r,rfl,k⟩:=kC h
 obtain⟨b,rfl⟩:=Pd k
 exact⟨a,b,rfl⟩
def ny{α:Type}{us:Wp α}(h:us.length=3):∃a b c,us=[a,b,c]:=by
 obtain⟨a,r,rfl,k⟩:=kC h
 obtain⟨b,c,rfl⟩:=dh k
 exact⟨a,b,c,rfl⟩
def nB{us:Wp rD}(h:us.length=n):∃f,us=(tm n).map f:=by
 refine⟨λi=>us.getD i .none,?_⟩
 subst h
 apply List.ext_getElem
 .simp
 .intro i h1 h2
  rw[List.getElem_map,List.getElem_range,rX,rE h1];rfl
def BnR(x:Str)(st:sP)(ps:Wp Str):Prop:=∀(kV doc pm:rD) (an:qz rL) (cdv ct:rD) (f:Nat->rD),bindArgs (uh x x (Gs st) (BH st) (AB st) .none kV doc pm an cdv ct) ⟨(tm ps.length).map f,[]⟩=pure (ps.zip ((tm ps.length).map f))
def bnR{K:W1}{st:sP}(F:Fun K x x st f fd)(h:BnR x st ps):Binds K fd ps []:=F.binds λa b c d e g us hl=>by
 obtain⟨k,rfl⟩:=nB hl
 exact h a b c d e g k
section
variable{P:sx}{w:uL}{K:W1}
def dfM{st:sP} k(S:St.Src K mg x st)(sc:Au N ps (AB st))(hb:∀{f} {cdv} {A} {outer} {s} {H} {E},Ct k (A.deeper (rg x (AB st) s.heap.objs.size f cdv))->(A.deeper (rg x (AB st) s.heap.objs.size f cdv)).units+100<cLine->DSs (Jj CX0 P w K mg base N x (AB st) f cdv A outer s H E).nox (BH st) b)(hp:x0 (ps.length=np) wv)(hbi:x0 (BnR x st ps) v6):St.Dfn P w K mg base x (k+1) ps (spD K np (AS (AV N.length b))):=gJ S sc hp (λ_ _ F=>bnR F hbi) λ_ _ _ _ _ _ _ hr=>hb hr (J5 hr)
end
def deM{X:Cx}{k k' np:Nat}{x:Str}{ps:Wp Str}{p pos:Pos}(d:St.Dfn X.prog X.w X.K X.mg X.base x k ps (spD X.K np f))(hr:Ct k' X.A)(ha:DEs X (e::es) fs)(hk:x0 (k<=k') v4)(hg:x0 (Gl X x) v0)(hn:x0 (fs.length=np) wv)(hdb:x0 ((x==("__debug__":Str))=false) xL)(he:x0 (rG (e::es) X.env=(false,eval e X.env)::rG es X.env) wv)(hpl:x0 ((backTo pos (rG es X.env)).any (·.1)=false) wv):DE X (.Call (.Name x p) (e::es) [] pos) (AD f fs):=cK d (hr.mono hk) hg ha hn hdb he hpl
end Mi
end
noncomputable section
namespace Mi
open PySem PySem.Spec L2 PyProof.Rows
def BmB(mg:Str->qz rD)(base:tS):Prop:=
 ∃bm o,mg "__builtins__"=Gc (.ref bm)/\bm≠builtinsNs/\bm≠mainGlobals/\base.get? bm=Gc o/\o.cls=.type "module" /\o.dict=Gc builtinsNs/\o.data=.plain
def KC.hd{K:W1}(k:KC K c P)(X:K.In h):PySem.W.CodeHd h c P:=by
 obtain⟨o,vs,file,tf,flags,tg,inF,text,tt,h0,r⟩:=k
 exact⟨o,vs,file,tf,flags,tg,inF,text,tt,X _ _ h0,r⟩
def Rm(h:TriplesOk l)(e:codeAmong pos (l++[rawInt a,rawInt b,v])=Gc cv):codeAmong pos l=Gc cv\/cv=v:=by
 induction l using TriplesOk.induct with
 |case1=>
  rw[r9,wB]at e
  unfold rawInt at e
  dsimp only at e
  split at e
  .cases e;exact .inr rfl
  .rw[wB]at e;cases e
 |case2 i t1 j t2 w r ih=>
  rw[TriplesOk.eq_def]at h
  rw[sQ,sQ,sQ,wB]at e
  rw[wB]
  dsimp only at e h⊢
  split at e
  .rename_i z;rw[sD z];exact .inl e
  .rename_i z;rw[sH z];exact ih h e
 |case3 l n1 n2=>
  rw[TriplesOk.eq_def]at h
  split at h
  .exact(n1 rfl).elim
  .exact(n2 _ _ _ _ _ _ rfl).elim
  .exact h.elim
structure Pz(X:Cx)(pins:Wp (rL×Obj))(σ:Sg)(H:Hp)(s:rP)(x:Str)(P:rL)(params:Arguments)(body:tF)(sc:uf)(clos:Wp (Str×rL))(f:rL)(H':Hp)(s':rP):Prop where
 inv:Inv X pins σ H' s'
 fn:∃pm c' ctv o,s'.heap.get? f=Gc (zD "<lambda>" (Li x) params body sc clos pm c' ctv)/\H' c'=Gc (.frz o (.own 0))/\UN (Li x) o
 new:s.heap.objs.size<=f
 tab:∃ps,H' P=Gc (.tbl ps)/\SG X.K H' x P ps
 keep:∀b o,H b=Gc o->b≠P->H' b=Gc o
 none:H' f=none
def XU{X:Cx}{σ:Sg}(I:Inv X pins σ H s)(hqual:X.env.qual=x++(".<locals>.":Str))(hdf:defaultsOf params X.env=([],[]))(hcl:closureFor sc X.env=pure clos)(hcode:X.env.code=.ref c)(hcd:KC X.K c P)(bm:BmB X.mg X.base)(hP:H P=Gc (.tbl ps))(tok:SG X.K H x P ps)(hQ:∀f H' s',Pz X pins σ H s x P params body sc clos f H' s'->Q (.ref f) s'):wpAny (model X.prog X.w) X.A (eval (.Lambda params body sc pos) X.env) Q E s:=by
 have hG:s.heap.Ns mainGlobals X.mg:=I.mod.glob.keeps I.bk
 have hCH:=hcd.hd I.kIn
 have hT:s.heap.get? P=Gc (xB ps):=I.hok P _ hP
 have hq:X.env.qual++("<lambda>":Str)=Li x:=by rw[hqual];rfl
 obtain⟨b0,ob,m1,m2,m3,m4,m5,m6,m7⟩:=bm
 have nb:b0≠P:=λz=>by
  have:=(I.bs b0 ob m4).2
  rw[z,hP]at this;cases this
 have hB:s.heap.BuiltinsAt X.mg P:=⟨b0,ob,m1,m2,m3,nb,I.bk _ _ m4,m5,m6,m7⟩
 have gP:mainGlobals≠P:=λz=>by
  obtain⟨o,es,ep,ho,_⟩:=id I.mod.glob
  have:=(I.bs _ o ho).2
  rw[z,hP]at this;cases this
 refine PySem.W.kla_eval hdf ?_
 cases hh:codeAmong pos ps.toList with
 |some cv=>
  refine PySem.W.kla_makeFunctionHit hcl I.ok.glob hG hcode hCH hT tok.tri hh hB λctv h' tk kp sz=>?_
  obtain⟨c',o,rfl,hz,vs,t,n1,n2⟩:=tok.cod pos cv hh
  have hcc:s.heap.get? c'=Gc o:=(I.hok c' _ hz).1
  have kp2:∀b u,s.heap.get? b=Gc u->(h'.push {cls:=xv "function",data:=Data.func (xC "<lambda>" (X.env.qual++("<lambda>":Str)) params body sc clos ((X.mg "__name__").getD sL) (.ref c') ctv)}).get? b=Gc u:=λb u e=>qt _ (kp b u e)
  refine hQ _ H _ ⟨I.kept (t':=tk) kp2,⟨_,c',ctv,o,by rw[<-hq];exact rW _ rfl,hz,vs,t,n1,n2⟩,sz,⟨ps,hP,tok⟩,λ_ _ e _=>e,I.hok.fresh sz⟩
 |none=>
  refine PySem.W.kla_makeFunction hcl I.ok.glob hG hcode hCH hT tok.tri hh gP hB λc' ctv h' tk ext l1 l2 crec ht=>?_
  rw[hq]at crec
  generalize hfo:(zD "<lambda>" (X.env.qual++("<lambda>":Str)) params body sc clos ((X.mg "__name__").getD sL) c' ctv)=fo
  have hfo2:fo=zD "<lambda>" (Li x) params body sc clos ((X.mg "__name__").getD sL) c' ctv:=by rw[<-hfo,hq]
  obtain⟨c1,o,vs,t,ec,ho,hd,hv⟩:=id crec
  cases ec
  have kp:∀b u,b≠P->s.heap.get? b=Gc u->(h'.push fo).get? b=Gc u:=λb u n e=>qt _ (ext b u n e)
  have nH:H c'=none:=I.hok.fresh l1
  have cP:c'≠P:=λz=>by rw[z,hP]at nH;cases nH
  generalize hmo:ps++ #[rawInt ↑pos.line,rawInt ↑pos.col,sA c']=ps2 at ht
  let H':Hp:=upd (upd H c' (.frz o (.own 0))) P (.tbl ps2)
  have hk:∀b u,H b=Gc u->b≠P->H' b=Gc u:=λb u e n=>by
   show upd (upd H c' (.frz o (.own 0))) P (.tbl ps2) b=Gc u
   rw[Ae n,Ae (λz=>by rw[z,nH]at e;cases e)]
   exact e
  have hc1:H' c'=Gc (.frz o (.own 0)):=by
   show upd (upd H c' (.frz o (.own 0))) P (.tbl ps2) c'=_
   rw[Ae cP,Ax]
  have hP':H' P=Gc (.tbl ps2):=Ax
  have hn:∀b,b≠P->b≠c'->H b=none->H' b=none:=λb n1 n2 e=>by
   show upd (upd H c' (.frz o (.own 0))) P (.tbl ps2) b=none
   rw[Ae n1,Ae n2];exact e
  have pP:(h'.push fo).get? P=Gc (xB ps2):=qt _ ht
  have po:(h'.push fo).get? c'=Gc o:=qt _ ho
  have fz:fo.isFreed=false:=by rw[<-hfo];rfl
  have un:Un X.fs [] H H' s.heap (h'.push fo):=by
   refine⟨λb u e n _ _=>kp b u (λz=>?_) e,λb u e n _ _=>⟨u.slots,kp b u (λz=>?_) e⟩,λb u e n _=>hn b (λz=>?_) (λz=>?_) n,λb u e _=>?_,λb xs e=>hk b _ e (λz=>?_),λb u v e=>hk b _ e (λz=>?_),λb qs e=>?_⟩
   .rw[z,hP]at n;cases n
   .rw[z,hP]at n;cases n
   .rw[z,hP]at n;cases n
   .subst z;exact absurd (qw (rR e) l1) (tW _)
   .by_cases z:b=P
    .subst z;exact⟨_,pP⟩
    .exact⟨u,kp b u z e⟩
   .rw[z,hP]at e;cases e
   .rw[z,hP]at e;cases e
   .by_cases z:b=P
    .subst z
     rw[hP]at e;cases e
     exact⟨_,by rw[hmo];exact hP'⟩
    .exact⟨#[],by rw[Array.append_empty];exact hk b _ e z⟩
  have hok:HOk X.prog X.w H' (h'.push fo):=λa u q=>by
   by_cases z:a=P
   .subst z
    rw[hP']at q;cases q
    exact pP
   .by_cases z2:a=c'
    .subst z2
     rw[hc1]at q;cases q
     exact⟨po,o,po⟩
    .have q0:H a=Gc u:=by
      have:H' a=H a:=by
       show upd (upd H c' (.frz o (.own 0))) P (.tbl ps2) a=_
       rw[Ae z,Ae z2]
      rw[<-this];exact q
     refine(I.hok a u q0).WH (λb v hb e=>kp b v (λzz=>?_) e) (λb e=>hk b _ e (λzz=>?_)) λb xs e=>hk b _ e (λzz=>?_)
     .rcases hb with hb|hb
      .exact z (hb.symm.trans zz)
      .rw[zz,hP]at hb;cases hb
     .rw[zz,hP]at e;cases e
     .rw[zz,hP]at e;cases e
  have sz:s.heap.objs.size<=h'.objs.size:=uy (sC l1 l2)
  have nF:H' h'.objs.size=none:=hn _ (λz=>by rw[<-z]at ht;exact absurd (rR ht) (tW _)) (λz=>by rw[<-z]at l2;exact tW _ l2) (I.hok.fresh sz)
  refine hQ _ H' _ ⟨I.un (t':=tk) un hok,⟨_,c',ctv,o,by rw[<-hfo2];exact rW _ fz,hc1,vs,t,hd,hv⟩,sz,⟨ps2,hP',?_⟩,hk,nF⟩
  refine⟨by rw[<-hmo];simpa using TriplesOk_snoc pos.line pos.col (.ref c') ps.toList tok.tri,tok.tat,λpos' cv e=>?_⟩
  rw[<-hmo]at e
  rcases Rm (l:=ps.toList) tok.tri (by simpa using e)with z|z
  .obtain⟨c2,o2,z1,z2,z3⟩:=tok.cod pos' cv z
   exact⟨c2,o2,z1,hk _ _ z2 (λzz=>by rw[zz,hP]at z2;cases z2),z3⟩
  .exact⟨c',o,z,hc1,vs,t,hd,hv⟩
end Mi
end
noncomputable section
namespace Mi
open PySem PySem.Spec L2
section
open PyProof.Rows (Below)
structure MQ(H:Hp)(h:tS)(x:Str)(body:tF)(sc:uf)(clos:Wp (Str×rL))(N:Wp Str)(σc:Sg)(f:rL):Prop where
 fn:∃params pm c' ctv o oc,h.get? f=Gc o/\o.data=.func (xC "<lambda>" (Li x) params body sc clos pm (.ref c') ctv)/\H c'=Gc (.frz oc (.own 0))/\UN (Li x) oc/\bindArgs (xC "<lambda>" (Li x) params body sc clos pm (.ref c') ctv) ⟨[],[]⟩=pure []
 nof:H f=none
 cell:∀y c,clos.lookup y=Gc c->(∃v,h.IsCell c v)/\H c=none
 inj:∀y z c,clos.lookup y=Gc c->clos.lookup z=Gc c->y=z
 has:∀y,(sc.names.lookup y=Gc .cell\/sc.names.lookup y=Gc .free)->∃c,clos.lookup y=Gc c
 val:∀(i:Nat) (y:Str) (v:V),N[i]?=Gc y->σc[i]?=Gc (Gc v)->Vis sc y->sc.names.lookup y=Gc .free/\∃c u,clos.lookup y=Gc c/\h.IsCell c (Gc u)/\RelV v u
 len:σc.length=N.length
 kind:sc.kind=.function
 co:sc.isCoroutine=false
 gen:sc.isGenerator=false
 NA:∀y∈sc.names,y.2≠.cell
def MQ.later(L:MQ H h x body sc clos N σc f)(u:Un fs [] H H' h h'):MQ H' h' x body sc clos N σc f:=by
 have cl:∀c v,h.IsCell c v->H c=none->h'.IsCell c v:=λc v ⟨o,ho,hd⟩ n=>by
  obtain⟨sl,q⟩:=u.any ho n (by simp)
  exact⟨_,q,hd⟩
 obtain⟨params,pm,c',ctv,o,oc,h1,h2,h3,h4,h5⟩:=L.fn
 obtain⟨sl,q⟩:=u.any h1 L.nof (by simp)
 refine⟨⟨params,pm,c',ctv,_,oc,q,h2,u.TQ _ _ _ h3,h4,h5⟩,u.free f o h1 L.nof (by simp),λy c e=>?_,L.inj,L.has,λi y v e1 e2 e3=>?_,L.len,L.kind,L.co,L.gen,L.NA⟩
 .obtain⟨⟨v,z⟩,n⟩:=L.cell y c e
  obtain⟨o',ho',_⟩:=id z
  exact⟨⟨v,cl c v z n⟩,u.free c o' ho' n (by simp)⟩
 .obtain⟨k,c,w,e,z,r⟩:=L.val i y v e1 e2 e3
  exact⟨k,c,w,e,cl c _ z (L.cell y c e).2,r⟩
noncomputable def MX(P:sx)(w:uL)(K:W1)(mg:Str->qz rD)(base:tS)(N:Wp Str)(x:Str)(sc:uf)(clos:Wp (Str×rL))(f c':rL)(A:ux)(outer:Wp PySem.Env)(s:rP)(H:Hp):Cx where
 prog:=P
 w:=w
 K:=K
 mg:=mg
 base:=base
 A:=A.deeper (uk (Li x) sc s.heap.objs.size f (.ref c') clos)
 N:=N
 s₀:=s
 H₀:=H
 env:=uk (Li x) sc s.heap.objs.size f (.ref c') clos
 outer:=outer
 stack:=uk (Li x) sc s.heap.objs.size f (.ref c') clos::outer
 ex:=[]
 calm:=true
 fn:=λ_=>false
 pn:=[]
 xe:=λ_ _=>uO
def VY(L:MQ H s.heap x body sc clos N σc f)(hd:A.handled=none)(e0:Y9 P w K mg base A outer s H)(hns:h'.Ns s.heap.objs.size m)(kp:∀b o,s.heap.get? b=Gc o->h'.get? b=Gc o):Inv (MX P w K mg base N x sc clos f c' A outer s H) [] σc H {s with heap:=h',toks:=tk}:=by
 have noA:∀b:rL,b∉(MX P w K mg base N x sc clos f c' A outer s H).ex:=λb z=>absurd (show b∈([]:Wp rL)from z) (by simp)
 have cl:∀c v,s.heap.IsCell c v->h'.IsCell c v:=λc v ⟨o,ho,hd⟩=>⟨o,kp _ _ ho,hd⟩
 refine⟨⟨e0.mod,L.kind,rfl,rfl,q9 _,L.inj,L.has,λy c z _=>absurd z (by intro q;cases q),λ_=>hd,zS e0.frames,.inr ⟨rfl,rfl⟩,λb z=>absurd z (noA b),e0.bs,e0.bsz,λb _ _=>noA b,λb z=>absurd z (noA b),e0.QM,e0.frf⟩,
  rfl,e0.bare,Un.kept kp,⟨m,hns,λi y v e1 e2 e3=>?_⟩,λy c e=>?_,e0.hok.fresh (q9 _),λy c e=>(L.cell y c e).2,λp hp=>absurd (show p∈([]:Wp (rL×Obj))from hp) (by simp),e0.hok.kept kp,L.len⟩
 .obtain⟨k,c,u,e,z,r⟩:=L.val i y v e1 e2 e3
  exact⟨u,r,.inr ⟨.inr k,c,e,cl c _ z⟩⟩
 .obtain⟨⟨v,z⟩,_⟩:=L.cell y c e
  exact⟨v,cl c v z⟩
def Zp{X:Cx}{σ:Sg}(I:Inv X pins σ H s)(hr:Ct (k+1) X.A)(L:MQ H s.heap x body sc clos N σc f)(hb:∀c',Ct k (X.A.deeper (uk (Li x) sc s.heap.objs.size f (.ref c') clos))->PE (MX X.prog X.w X.K X.mg X.base N x sc clos f c' X.A X.stack s H) body t)(ht:t σc H Q):wpAny (model X.prog X.w) X.A (call (.ref f) []) (EP X pins σ Q) X.xe s:=by
 obtain⟨params,pm,c',ctv,o,oc,h1,h2,h3,h4,h5⟩:=L.fn
 have cr:s.heap.CodeRec (.ref c') (Li x):=by
  obtain⟨vs,t,n1,n2⟩:=h4
  exact⟨c',oc,vs,t,rfl,(I.hok c' _ h3).1,n1,n2⟩
 refine wY (zd hr.depth h1 h2 L.co L.gen rfl cr ?_)
 rw[h5]
 refine rS (ze L.NA (λ_ z=>nomatch z) (λh' hns sb=>?_) L.kind)
 have kp:∀b ob,s.heap.get? b=Gc ob->h'.get? b=Gc ob:=λb ob e=>by
  rw[sb.2 b (sM (rR e))]
  exact qt _ e
 have J:=VY (c':=c') (tk:=s.toks+0) L hr.hd I.Yp hns kp
 refine⟨I.nolimit.keeps kp,zg (tq (hb c' (hr.deeper _) [] _ σc H Q J ht) (λu s' z=>?_) λ_ _ z=>z.elim)⟩
 obtain⟨v,H',J',rv,q⟩:=z
 exact I.after ⟨v,H',J'.os,J'.bare,J'.base,J'.hok,rv,q⟩
def W6{X:Cx}{σ:Sg}(I:Inv X pins σ H s)(hr:Ct (k+1) X.A)(L:MQ H s.heap x body sc clos N σc f)(hx:X.ex=[])(hb:∀c',Ct k (X.A.deeper (uk (Li x) sc s.heap.objs.size f (.ref c') clos))->PXe (MX X.prog X.w X.K X.mg X.base N x sc clos f c' X.A X.stack s H) body t)(ht:t σc H λC od _ H'=>Z C od σ H'):wpAny (model X.prog X.w) X.A (call (.ref f) []) (λ_ _=>uO) (XP X pins Z) s:=by
 obtain⟨params,pm,c',ctv,o,oc,h1,h2,h3,h4,h5⟩:=L.fn
 have cr:s.heap.CodeRec (.ref c') (Li x):=by
  obtain⟨vs,t,n1,n2⟩:=h4
  exact⟨c',oc,vs,t,rfl,(I.hok c' _ h3).1,n1,n2⟩
 refine wY (zd hr.depth h1 h2 L.co L.gen rfl cr ?_)
 rw[h5]
 refine rS (ze L.NA (λ_ z=>nomatch z) (λh' hns sb=>?_) L.kind)
 have kp:∀b ob,s.heap.get? b=Gc ob->h'.get? b=Gc ob:=λb ob e=>by
  rw[sb.2 b (sM (rR e))]
  exact qt _ e
 have J:=VY (c':=c') (tk:=s.toks+0) L hr.hd I.Yp hns kp
 refine⟨I.nolimit.keeps kp,zg (tq (hb c' (hr.deeper _) [] _ σc H _ J ht) (λ_ _ z=>z.elim) λev s' z=>?_)⟩
 obtain⟨e,C,od,σ',H',rfl,J',z,fl⟩:=z
 unfold leaving
 refine qu (Nm J' J'.ok.frames rfl rfl fl (EO J' rfl) λh2 t=>?_)
 have un:=Vw J' rfl rfl rfl t
 have ok2:=Py J' t
 have fl2:=t.fly.fly
 show XP X pins Z (.ref e) _
 exact⟨e,C,od,σ,H',rfl,I.UL J'.os un ok2 J'.bare (λb z=>nomatch z),z,fl2.imp λb z=>.inl (EO I hx b z)⟩
def XY{X:Cx}{x:Str}{body:tF}{sc:uf}{clos:Wp (Str×rL)}{N:Wp Str}{σc:Sg}{f:rL}{k i:Nat}{p pos:Pos}(hr:Ct (k+1) X.A)(hx:X.ex=[])(L:MQ X.H₀ X.s₀.heap x body sc clos N σc f)(hb:∀c' s H,Ct k (X.A.deeper (uk (Li x) sc s.heap.objs.size f (.ref c') clos))->PE (MX X.prog X.w X.K X.mg X.base N x sc clos f c' X.A X.stack s H) body t)(hN:X.N[i]?=Gc y)(hv:Vis X.env.scope y)(hd:x0 ((y==("__debug__":Str))=false) xL)(hcd:x0 ((y==("__classdict__":Str))=false) xL):PE X (.Call (.Name y p) [] [] pos) (λσ H Q=>σ[i]?=Gc (Gc (.ref f))/\t σc H Q):=by
 intro pins s σ H Q I h
 refine uB (thn (Oy hN hv hd hcd pins s σ H (λv H1=>v=.ref f/\H1=H) I ⟨.ref f,h.1,rfl,rfl⟩) λu s1 z=>?_)
 obtain⟨v,H1,I1,rv,rfl,rfl⟩:=z
 obtain rfl:u=.ref f:=rv
 have un:=I1.base
 rw[hx]at un
 have L1:=L.later un
 obtain⟨params,pm,c',ctv,o,oc,h1,h2,_⟩:=L1.fn
 refine z7 ⟨o.cls,o.dict,_,o.slots,by rw[h1];obtain⟨c,d,dt,sl⟩:=o;cases h2;rfl⟩ ?_
 exact Zp I1 hr L1 (λc'=>hb c' s1 H1) h.2
def Wy{X:Cx}{x:Str}{body:tF}{sc:uf}{clos:Wp (Str×rL)}{N:Wp Str}{σc:Sg}{f:rL}{k i:Nat}{p pos:Pos}(hr:Ct (k+1) X.A)(hx:X.ex=[])(L:MQ X.H₀ X.s₀.heap x body sc clos N σc f)(hb:∀c' s H,Ct k (X.A.deeper (uk (Li x) sc s.heap.objs.size f (.ref c') clos))->PXe (MX X.prog X.w X.K X.mg X.base N x sc clos f c' X.A X.stack s H) body t)(hN:X.N[i]?=Gc y)(hv:Vis X.env.scope y)(hxe:X.xe=λ_ _=>uO)(hd:x0 ((y==("__debug__":Str))=false) xL)(hcd:x0 ((y==("__classdict__":Str))=false) xL):PXe X (.Call (.Name y p) [] [] pos) (λσ H Z=>σ[i]?=Gc (Gc (.ref f))/\t σc H λC od _ H'=>Z C od σ H'):=by
 intro pins s σ H Z I h
 refine uB (EY hxe (Oy hN hv hd hcd pins s σ H (λv H1=>v=.ref f/\H1=H) I ⟨.ref f,h.1,rfl,rfl⟩) λu s1 z=>?_)
 obtain⟨v,H1,I1,rv,rfl,rfl⟩:=z
 obtain rfl:u=.ref f:=rv
 have un:=I1.base
 rw[hx]at un
 have L1:=L.later un
 obtain⟨params,pm,c',ctv,o,oc,h1,h2,_⟩:=L1.fn
 refine z7 ⟨o.cls,o.dict,_,o.slots,by rw[h1];obtain⟨c,d,dt,sl⟩:=o;cases h2;rfl⟩ ?_
 exact W6 I1 hr L1 hx (λc'=>hb c' s1 H1) h.2
end
structure IB(N:Wp Str)(osc:uf)(N':Wp Str)(HH:Wp Nat)(sc:uf):Prop where
 kind:sc.kind=.function
 co:sc.isCoroutine=false
 gen:sc.isGenerator=false
 NA:∀y∈sc.names,y.2≠.cell
 free:∀y∈sc.names,y.2=.free->osc.names.lookup y.1=Gc .cell
 len:HH.length=N'.length
 HH:∀z∈N'.zip HH,N[z.2]?=Gc z.1/\osc.names.lookup z.1=Gc .cell/\sc.names.lookup z.1=Gc .free
noncomputable def Kq{α:Type}(HH:Wp Nat)(σ:Wp (qz α)):Wp (qz α):=HH.map λi=>(σ[i]?).join
def Qw{σ:Wp (qz α)}{j:Nat}{v:α}(h:(Kq HH σ)[j]?=Gc (Gc v)):∃i,HH[j]?=Gc i/\σ[i]?=Gc (Gc v):=by
 unfold Kq at h
 rw[rY]at h
 cases e:HH[j]? with
 |none=>rw[e]at h;cases h
 |some i=>
  rw[e]at h
  refine⟨i,rfl,?_⟩
  have h':(σ[i]?).join=Gc v:=by simpa using h
  cases e2:σ[i]? with
  |none=>rw[e2]at h';cases h'
  |some o=>rw[e2]at h';simpa using h'
def X0{σ:Wp (qz α)}{i j:Nat}{v:α}(h:HH[j]?=Gc i)(e:σ[i]?=Gc (Gc v)):(Kq HH σ)[j]?=Gc (Gc v):=by
 unfold Kq
 rw[rY,h]
 simp[e]
def EnR.Q7(r:EnR K M E σ H) HH:EnR K M (Kq HH E) (Kq HH σ) H:=⟨by simp[Kq],λj d e=>by
 obtain⟨i,h1,h2⟩:=Qw e
 obtain⟨v,h3,h4⟩:=r.val i d h2
 exact⟨v,X0 h1 h3,h4⟩⟩
def gi(LS:IB X.N X.env.scope N' HH sc)(M:Pz X pins σ H s x P params body sc (FZ X.env.cells sc.names []) f H' s')(hp:∀pm c' ctv,bindArgs (xC "<lambda>" (Li x) params body sc (FZ X.env.cells sc.names []) pm (.ref c') ctv) ⟨[],[]⟩=pure []):MQ H' s'.heap x body sc (FZ X.env.cells sc.names []) N' (Kq HH σ) f:=by
 have I:=M.inv
 have hcl:∀y∈sc.names,y.2=.free->∃a,X.env.cells.lookup y.1=Gc a:=λy hy hf=>I.ok.has y.1 (.inl (LS.free y hy hf))
 have sub:∀{y:Str} {c:rL},(FZ X.env.cells sc.names []).lookup y=Gc c->X.env.cells.lookup y=Gc c:=λ{y c} h=>by
  rcases JW hcl h with z|z
  .cases z
  .exact z
 obtain⟨pm,c',ctv,o,h1,h2,h3⟩:=M.fn
 refine⟨⟨params,pm,c',ctv,_,o,h1,rfl,h2,h3,hp pm c' ctv⟩,M.none,λy c e=>⟨I.cell y c (sub e),I.Ji y c (sub e)⟩,λy z c e1 e2=>I.ok.inj y z c (sub e1) (sub e2),λy h=>?_,λj y v e1 e2 e3=>?_,by simp[Kq,LS.len],LS.kind,LS.co,LS.gen,LS.NA⟩
 .rcases h with h|h
  .exact absurd rfl (LS.NA _ (sW h))
  .exact GD (.inl (sW h))
 .obtain⟨i,q1,q2⟩:=Qw e2
  have hz:(y,i)∈N'.zip HH:=uY.mpr ⟨j,by rw[wH];exact⟨e1,q1⟩⟩
  obtain⟨p1,p2,p3⟩:=LS.HH _ hz
  refine⟨p3,?_⟩
  obtain⟨m,_,hl⟩:=I.loc
  obtain⟨u,ru,lk⟩:=hl i y v p1 q2 (.inr (.inl p2))
  rcases lk with⟨k,_⟩|⟨_,c,ec,ic⟩
  .have:X.env.scope.names.lookup y=Gc .local:=k
   rw[p2]at this;cases this
  .obtain⟨c2,ec2⟩:=GD (cells:=X.env.cells) (cs:=[]) (.inl (sW p3))
   have:=sub ec2
   rw[ec]at this;cases this
   exact⟨c,u,ec2,ic,ru⟩
def aZ(hb:PSs X body tb)(hr:PXs X body tr)(hh:HS X (h₀::hs) g)(hxe:X.xe=λ_ _=>uO)(hx:X.ex=[])(hst:X.stack=X.env::X.outer)(hfr:X.env.frame=Gc X.env.locals):PS X (.Try body (h₀::hs) [] [] pos) (λD σ H=>tb D σ H\/∃x,tr σ H λC od σ' H'=>ij X.mg x C od H'/\tX X.K (g x) D σ' H'):=by
 intro pins s σ H D I z
 rcases z with z|⟨x,z⟩
 .refine wpAny_Try_except (EY hxe (hb pins s σ H D I z) λf s1 w=>?_)
  cases f with
  |next=>exact wU w
  |ret u=>exact w
  |brk=>exact w
  |cont=>exact w
 .refine wpAny_Try_except (tq (hr pins s σ H _ I z) (λ_ _ z=>z.elim) λev s1 w=>?_)
  obtain⟨ea,C,od,σ',H',rfl,I',⟨hm,z'⟩,fly⟩:=w
  refine Nm I' I'.ok.frames hst hfr fly (EO I' hx) λh' t=>?_
  have I2:=TF I' hst hfr hx t
  exact tq (hh.pe x C od pins _ σ' H' D ea hm I2 t.fly z') (λ_ _ z=>z) λ_ _ z=>z.elim
def iC{X:Cx}{σ:Sg}(Fu:Fun X.K x x st f fd)(S:Au N ps (AB st))(Bi:Binds X.K fd ps [])(hr:Ct (k+1) X.A)(I:Inv X pins σ H s)(r:Vals vs us)(hl:vs.length=ps.length)(hbody:∀cdv,Ct k (X.A.deeper (rg x (AB st) s.heap.objs.size f cdv))->∃t,PSs (Jj CX0 X.prog X.w X.K X.mg X.base N x (AB st) f cdv X.A X.stack s H E0).nox (BH st) t/\t {nx:=λ_ H'=>Q .non H',rt:=Q} (L2.start N vs) H):wpAny (model X.prog X.w) X.A (call (.ref f) us) (EP X pins σ Q) X.xe s:=by
 obtain⟨oc,od,kV,doc,pm,an,cdv,ct,osl,rfl,lk,hcd⟩:=Fu.ex
 have hl2:(us++[]).length=ps.length:=by rw[sj,<-r.length];exact hl
 have hb:=Bi s us I.kIn hl2
 rw[sj]at hb
 have lim:=I.nolimit
 have hkind:∀y∈ps.zip us,(AB st).names.lookup y.1=Gc .local\/((AB st).names.lookup y.1=Gc .cell/\((cellsFrom (s.heap.objs.size+1) (AB st).names []).lookup y.1).isSome=true):=λ⟨n,v⟩ hy=>by
  rcases S.par n (uV hy).1 with q|q
  .exact .inl q
  .exact .inr ⟨q,wu _ _ _ (.inl q)⟩
 refine wY (zH hr.depth (I.kIn _ _ lk) rfl S.co S.gen rfl (AAD I.kIn hcd) (hb _ _ _ _ ?_))
 refine yA S.kind hkind λenv he s1 x1=>?_
 subst he
 refine⟨lim.keeps x1.toInCall.keep,codeAny_func ?_⟩
 obtain⟨t,ht,hq⟩:=hbody cdv (hr.deeper _)
 have J:Inv (Jj CX0 X.prog X.w X.K X.mg X.base N x (AB st) f cdv X.A X.stack s H E0) [] (L2.start N vs) H s1:=Oi S hr.hd I.Yp hl r x1
 have J':Inv (Jj CX0 X.prog X.w X.K X.mg X.base N x (AB st) f cdv X.A X.stack s H E0).nox [] (L2.start N vs) H s1:=J.Rb _
 refine tq (ht [] s1 (L2.start N vs) H _ J' hq) (λfl s' hs=>?_) λe s' hs=>hs.elim
 have fin:∀{σ':Sg} {H':Hp} {v:V} {u:rD},Inv (Jj CX0 X.prog X.w X.K X.mg X.base N x (AB st) f cdv X.A X.stack s H E0).nox [] σ' H' s'->RelV v u->Q v H'->EP X pins σ Q u s':=
  λ{σ' H' v u} J rv q=>I.after ⟨v,H',J.os,J.bare,J.base,J.hok,rv,q⟩
 cases fl with
 |ret u=>
  obtain⟨v,σ',H',J,rv,q⟩:=hs
  exact fin J rv q
 |next=>
  obtain⟨σ',H',J,q⟩:=hs
  exact fin (v:=V.non) (u:=sL) J rfl q
 |brk=>
  obtain⟨_,_,_,q⟩:=hs
  exact si q
 |cont=>
  obtain⟨_,_,_,q⟩:=hs
  exact si q
noncomputable def R7(x:Str):Cl->su
 | .tab y=>y==x
 |_=>false
theorem Ti:∀{S:Sto},S.any (R7 x)=true->∃n:Nat,S[n]?=Gc (Cl.tab x)
 | [],h=>by cases h
 |c::S,h=>by
  rw[xR,tK]at h
  rcases h with h|h
  .cases c with
   |tab y=>have e:y=x:=eq_of_beq h;exact⟨0,by rw[e];rfl⟩
   |lst ds=>cases h
   |dct ds=>cases h
   |ins C fs=>cases h
  .obtain⟨n,e⟩:=Ti h
   exact⟨n+1,e⟩
def fZ{X:Cx}{pins:Wp (rL×Obj)}{σ:Sg}{H H':Hp}{s s':rP}{x:Str}{P f:rL}{n:Nat}(st:StR X.K M S H)(h1:M.cel[n]?=Gc P)(h2:S[n]?=Gc (Cl.tab x))(k:Pz X pins σ H s x P params body sc clos f H' s'):StR X.K M S H'/\Gr M H M H':=by
 have hP:P∈M.cel:=rV h1
 obtain⟨ps,t1,t2⟩:=k.tab
 have g:Gr M H M H':=⟨st.mo,uC,rfl,λ_ z=>.inl z,λa o e na=>k.keep a o e λz=>na (by rw[z];exact hP),λa e=>by
  by_cases z:a=P
  .subst z;rw[t1];intro z;cases z
  .cases q:H a with
   |none=>exact absurd q e
   |some o=>rw[k.keep a o q z];intro z;cases z⟩
 refine⟨⟨λb z=>?_,st.nd,st.nt,st.len,λm b c e1 e2=>?_⟩,g⟩
 .by_cases hb:b=P
  .subst hb;exact⟨_,t1,trivial⟩
  .exact(st.mo b z).imp λo q=>⟨k.keep _ _ q.1 hb,q.2⟩
 .by_cases hb:b=P
  .subst hb
   have hm:n=m:=(vq (rB.mp h1).1 st.nd).mp (h1.trans e1.symm)
   subst hm
   rw[h2]at e2;cases e2
   exact⟨ps,t1,t2⟩
  .exact(st.cell m b c e1 e2).step g.st λo e=>k.keep _ _ e hb
def YZ(X:Cx)(x:Str):Prop:=∀P,TabAt X.K x P->X.K.In X.base->X.base.Ns mainGlobals X.mg->∃c,X.env.code=.ref c/\KC X.K c P
def fnL(Fu:Fun K x x st f fd)(hm:mg x=Gc (.ref f))(S:Au N ps (AB st))(hp:ps.length=np)(hb:∀{cdv} {A} {outer} {s} {H} {E},YZ (Jj CX0 P w K mg base N x (AB st) f cdv A outer s H E).nox x->Ct k (A.deeper (rg x (AB st) s.heap.objs.size f cdv))->(A.deeper (rg x (AB st) s.heap.objs.size f cdv)).units+100<cLine->DSs (Jj CX0 P w K mg base N x (AB st) f cdv A outer s H E).nox (BH st) b):Kg P w K mg base CX0 (k+1) f fd ps (spD K np (AS (AV N.length b))):=by
 rw[Ga]
 obtain⟨oc,od,kV,doc,pm,an,cdv,ct,osl,rfl,lk,hcd⟩:=Fu.ex
 refine X4 lk hcd S (λvs H Q E h=>?_) (λA outer s H vs Q E hr h=>?_)
 .obtain⟨M,ds,S0,d,S',hl,_,r,_⟩:=h
  have:=r.length
  lia
 .obtain⟨M,ds,S0,d,S',hl,e,r,st,q⟩:=h
  have hlen:=r.length
  refine⟨_,(hb (cdv:=cdv) (A:=A) (outer:=outer) (s:=s) (H:=H) (E:=E) (λP0 ta kin glob=>?_) hr (J5 hr)).pe.nox,?_⟩
  .obtain⟨f0,oc0,od0,fd0,osl0,c,t1,t2,t3,t4⟩:=ta
   have:=uj kin glob t1
   have e0:Gc (sA f0)=Gc (sA f):=this.symm.trans hm
   cases e0
   have t2':K.lookup f=_:=t2
   rw[lk]at t2'
   cases t2'
   exact⟨c,t3,t4⟩
  obtain⟨⟨fl,E',S1⟩,e1,e⟩:=IC e
  cases e
  refine⟨M,_,S0,fl,E',S1,e1,?_,st,?_⟩
  .rw[show L2.start N vs=vs.map Gc++rQ (N.length-ds.length) none from by unfold L2.start;rw[hlen]]
   exact .args r _
  .cases fl with
   |nx=>exact λσ' H' M' g _ st'=>q _ _ M' g st' .non
   |ret d=>exact λv H' M' g st' r'=>q _ _ M' g st' r'
end Mi
end
noncomputable section
namespace Mi
open PySem PySem.Spec L2 PyProof.Rows
def QA{K:W1}(k:KC K c P)(X:K.In h):isCodeTable h P:=by
 obtain⟨o,vs,file,tf,flags,tg,inF,text,tt,h0,h1,h2,h3,_⟩:=k
 exact⟨c,o,vs,X _ _ h0,h1,h2,h3⟩
noncomputable def SE(T:Wp (Str×rL)):Sto:=T.map λz=>Cl.tab z.1
def Ur{P:sx}{w:uL}{K:W1}{mg mb:Str->qz rD}{k:Nat}{fa a:rL}{fd:xT}{x:Str}{Fn0:Fn}{s₁:rP}{vs:Wp rD}{ns:Wp Int}{T:Wp (Str×rL)}(KX:K.In s₁.heap)(hns:s₁.heap.Ns mainGlobals mg)(hb:s₁.heap.Ns builtinsNs mb)(hbb:∀x:Str,x≠ "__name__"->mb x=bootBuiltins x)(hlim:s₁.heap.NoLimit)(hg:s₁.gens= #[])(ha:s₁.heap.get? a=Gc {cls:=.type "list",data:=.seq vs.toArray})(hi:wN vs ns)(hl:ns.length<=sizeLine)(hr:Ct k callerA)(hT:∀z∈T,TabAt K z.1 z.2/\K.lookup z.2=none/\s₁.heap.get? z.2=Gc (xB #[]))(nd:(T.map (·.2)).Nodup)(bmn:∃bm ob,mg "__builtins__"=Gc (.ref bm)/\bm≠builtinsNs/\s₁.heap.get? bm=Gc ob/\ob.cls=.type "module" /\ob.dict=Gc builtinsNs/\ob.data=.plain)(F:∀base,K.In base->base.Ns mainGlobals mg->BmB mg base->Kg P w K mg base CX0 k fa fd [x] (spD K 1 Fn0))(hbind:∀s u,BindsTo s fd ⟨[u],[]⟩ [(x,u)])(hlaw:∃S,Fn0 [.scr ns] (SE T)=Gc (.bl true,S)):codeAny (model P w) callerA (.call (.ref fa) ⟨[.ref a],[]⟩) (λr s'=>r=.ok (.ret (.bool true))/\OldK s₁.heap s'.heap/\s'.os=s₁.os/\wd s'.gens) s₁:=by
 have rv:=PM hi
 have lenV:=hi.length
 have aT:∀z∈T,z.2≠a:=λz hz e=>by
  have:=(hT z hz).2.2
  rw[e,ha]at this;cases this
 have core:∀H:Hp,SqL K H a (ns.map V.int)->HOk P w H s₁.heap->(∀b,H b≠none->b=a\/∃z∈T,z.2=b)->(∀b,H b≠none->K.lookup b=none)->(∀z∈T,H z.2=Gc (.tbl #[]))->(H a=none\/∃o xs,H a=Gc (.frz o (.lst xs)))->
   codeAny (model P w) callerA (.call (.ref fa) ⟨[.ref a],[]⟩) (λr s'=>r=.ok (.ret (.bool true))/\OldK s₁.heap s'.heap/\s'.os=s₁.os/\wd s'.gens) s₁:=by
  intro H hS hok hA hK hTb hF
  have base_of:∀{b:rL} {o:Obj},s₁.heap.get? b=Gc o->H b=none->(V9 s₁.heap H).get? b=Gc o:=λe n=>Xo e n
  have noA:∀{b:rL} {o:Obj},s₁.heap.get? b=Gc o->(∀x n,o.data≠.seq x n)->(∀x,o.data≠.fields x)->H b=none:=λ{b o} e d1 d2=>by
   cases q:H b with
   |none=>rfl
   |some u=>
    rcases hA b (by rw[q];simp)with z|⟨z,hz,z2⟩
    .subst z
     rw[ha]at e;cases e
     exact absurd rfl (d1 _ _)
    .subst z2
     rw[(hT z hz).2.2]at e;cases e
     exact absurd rfl (d2 _)
  have nsK:∀{b:rL} {m:Str->qz rD},s₁.heap.Ns b m->(V9 s₁.heap H).Ns b m:=λ{b m} ⟨o,es,ep,e,d,r⟩=>⟨o,es,ep,base_of e (noA e (λ_ _ z=>by rw[d]at z;cases z) λ_ z=>by rw[d]at z;cases z),d,r⟩
  have hKb:K.In (V9 s₁.heap H):=λb o e=>base_of (KX b o e) (by
   cases q:H b with
   |none=>rfl
   |some u=>rw[hK b (by rw[q];simp)]at e;cases e)
  have hM:Mod K mg (V9 s₁.heap H):=⟨hKb,nsK hns,⟨mb,nsK hb,hbb⟩,let⟨mc,h1,h2⟩:=hlim;⟨mc,nsK h1,h2⟩⟩
  have e0:Y9 P w K mg (V9 s₁.heap H) callerA [] s₁ H:=⟨rfl,hM,λb o e=>Z6 e,Nat.le_of_eq (Uu _ _),trivial,λb hb=>absurd (show b∈([]:Wp rL)from hb) (by simp),hok,.of_eq hg⟩
  have hbm:BmB mg (V9 s₁.heap H):=by
   obtain⟨bm,ob,m1,m2,m3,m4,m5,m6⟩:=bmn
   refine⟨bm,ob,m1,m2,λz=>?_,base_of m3 (noA m3 (λ_ _ z=>by rw[m6]at z;cases z) λ_ z=>by rw[m6]at z;cases z),m4,m5,m6⟩
   obtain⟨o,es,ep,e,d,_⟩:=hns
   rw[z,e]at m3;cases m3
   rw[d]at m6;cases m6
  obtain⟨S',hS'⟩:=hlaw
  have nm:¬Ms.mem ⟨T.map (·.2),[]⟩ a:=λz=>by
   rcases z with z|z
   .obtain⟨q,hq,e⟩:=sE.mp z
    exact aT q hq e
   .cases z
  have st:StR K ⟨T.map (·.2),[]⟩ (SE T) H:=by
   refine⟨λb z=>?_,nd,λb z=>(nomatch z),by simp[SE],λn b c e1 e2=>?_⟩
   .rcases z with z|z
    .obtain⟨q,hq,e⟩:=sE.mp z
     subst e
     exact⟨_,hTb q hq,trivial⟩
    .cases z
   .have e1':(T.map (·.2))[n]?=Gc b:=e1
    have e2':(T.map λz=>Cl.tab z.1)[n]?=Gc c:=e2
    rw[rY]at e1' e2'
    cases q:T[n]? with
    |none=>rw[q]at e1';cases e1'
    |some z=>
     rw[q]at e1' e2'
     cases e1';cases e2'
     have hz:=rV q
     exact⟨#[],hTb z hz,trivial,(hT z hz).1,λpos cv e=>by rw[wB]at e;cases e⟩
  refine v9 ((F _ hKb (nsK hns) hbm).run callerA [] s₁ H ⟨[.ref a],[]⟩ [.ref a] [.ref a] (λv _=>v=.bl true) (λ_ _ _=>uO) hr e0 (hbind s₁ (.ref a)) (.cons rfl .nil) ⟨⟨T.map (·.2),[]⟩,[.scr ns],SE T,_,S',rfl,hS',.cons (.scr ?_) .nil,st,λv H' M' g st' r'=>by cases r';rfl⟩) λr s' h=>?_
  .rcases hS with z|z
   .exact .inl ⟨z,nm⟩
   .exact .inr z
  cases r with
  |error e=>exact si h
  |ok fl=>
   cases fl with
   |next=>exact si h
   |brk=>exact si h
   |cont=>exact si h
   |ret u=>
    obtain⟨v,H',os,bare,un,hok',r',q⟩:=h
    have q':v=.bl true:=q
    subst q'
    obtain rfl:u=xu true:=r'
    refine⟨rfl,⟨λb o e=>?_,λb o e=>un.there b o e (by simp)⟩,os,bare⟩
    cases q:H b with
    |none=>exact .inl (un.keep b o e q (by intro z;exact absurd (show b∈([]:Wp rL)from z) (by simp)) (by simp))
    |some u=>
     rcases hA b (by rw[q];simp)with z|⟨z,hz,z2⟩
     .subst z
      rcases hF with z|⟨ob,xs,z⟩
      .rw[q]at z;cases z
      .have z2:=un.TQ b ob _ z
       obtain⟨e1,_⟩:=hok b _ z
       obtain⟨e2,_⟩:=hok' b _ z2
       rw[e]at e1;cases e1
       exact .inl e2
     .subst z2
      obtain⟨t1,t2,t3⟩:=hT z hz
      rw[t3]at e;cases e
      obtain⟨more,em⟩:=un.WJ _ _ (hTb z hz)
      have e2:s'.heap.get? z.2=Gc (xB (#[]++more)):=hok' _ _ em
      obtain⟨_,_,_,_,_,c,_,_,_,hc⟩:=t1
      exact .inr (.inl ⟨QA hc KX,rfl, #[],more,rfl,e2⟩)
 cases hk:K.lookup a with
 |some o=>
  have e:=KX a o hk
  rw[ha]at e
  cases e
  refine core (λb=>if∃z∈T,z.2=b then Gc (.tbl #[])else none) (.inr ⟨_,vs.toArray,_,hk,rfl,rfl,rfl,by rw[rK,lenV];exact hl,by simpa using rv⟩) (λb u z=>?_) (λb z=>?_) (λb z=>?_) (λz hz=>sD ⟨z,hz,rfl⟩) (.inl (sH λ⟨z,hz,e⟩=>aT z hz e))
  .by_cases hb:∃z∈T,z.2=b
   .have z':=(sD hb).symm.trans z
    cases z'
    obtain⟨y,hy,rfl⟩:=hb
    exact(hT y hy).2.2
   .have z':=(sH hb).symm.trans z
    cases z'
  .by_cases hb:∃z∈T,z.2=b
   .exact .inr hb
   .exact absurd (sH hb) z
  .by_cases hb:∃z∈T,z.2=b
   .obtain⟨y,hy,rfl⟩:=hb;exact(hT y hy).2.1
   .exact absurd (sH hb) z
 |none=>
  refine core (λb=>if b=a then Gc (.frz {cls:=.type "list",data:=.seq vs.toArray} (.lst (ns.map V.int)))else if∃z∈T,z.2=b then Gc (.tbl #[])else none) (.inl (.inr ⟨{cls:=.type "list",data:=.seq vs.toArray},sD rfl⟩)) (λb u z=>?_) (λb z=>?_) (λb z=>?_) (λz hz=>(sH (aT z hz)).trans (sD ⟨z,hz,rfl⟩)) (.inr ⟨_,_,sD rfl⟩)
  .by_cases hb:b=a
   .have z':=(sD hb).symm.trans z
    cases z'
    subst hb
    exact⟨ha,by rw[sG];exact hl,vs,_,rv,ha⟩
   .have z':=(sH hb).symm.trans z
    by_cases hc:∃z∈T,z.2=b
    .have z'':=(sD hc).symm.trans z'
     cases z''
     obtain⟨y,hy,rfl⟩:=hc
     exact(hT y hy).2.2
    .have z'':=(sH hc).symm.trans z'
     cases z''
  .by_cases hb:b=a
   .exact .inl hb
   .by_cases hc:∃z∈T,z.2=b
    .exact .inr hc
    .exact absurd ((sH hb).trans (sH hc)) z
  .by_cases hb:b=a
   .rw[hb];exact hk
   .by_cases hc:∃z∈T,z.2=b
    .obtain⟨y,hy,rfl⟩:=hc;exact(hT y hy).2.1
    .exact absurd ((sH hb).trans (sH hc)) z
def kK{l:yl}{q:sx}{loose:Wp Str}{XP:(Str->qz rD)->tS->Prop}{YP:uL->tS->Prop}{d:DefRec}{K:Params->W1} T(hn:l.most=Gc 63)(hdf:d.params.defaults=[])(hr:Ct k callerA)(hY:∀w h,YP w h->(K w.params).In h/\∀z∈T,h.get? z.2=Gc (xB #[]))(nd:(T.map (·.2)).Nodup)(F:∀w mg fa h,(K w.params).In h->h.Ns mainGlobals mg->mg d.name=Gc (.ref fa)->(∀z∈T,TabAt (K w.params) z.1 z.2/\(K w.params).lookup z.2=none)/\∃fd,(∀s u,BindsTo s fd ⟨[u],[]⟩ [(x,u)])/\∀base,(K w.params).In base->base.Ns mainGlobals mg->BmB mg base->Kg l.prog w (K w.params) mg base CX0 k fa fd [x] (spD (K w.params) 1 Fn0))(hlaw:∀ns,ns.length<=63->∃S,Fn0 [.scr ns] (SE T)=Gc (.bl true,S)):PySem.W.WalkO q loose XP YP l.row.toRowW d [] (λf vs=>PySem.call f vs):=by
 refine Att.attach_call hn hdf λw s₀ s₁ mg mb fa o pm cd doc a vs ns G Y ho hd hcd hmg hobj hints hlen hg=>?_
 obtain⟨KX,Y2⟩:=hY w _ Y
 obtain⟨hT,fd,hb,hF⟩:=F w mg fa _ KX G.T.g hmg
 exact Ur KX G.T.g G.T.b G.T.builtins G.T.nolimit hg hobj hints (q8 hlen (by decide)) hr (λz hz=>⟨(hT z hz).1,(hT z hz).2,Y2 z hz⟩) nd G.T.bmain hF hb (hlaw ns hlen)
end Mi
end
noncomputable section
namespace Mi
open PySem PySem.Spec L2
noncomputable def laE:Nat->tF->Wp uf
 |0,_=>[]
 |n+1,.Lambda _ _ s _=>[s]
 |n+1,.BoolOp _ vs _=>vs.flatMap (laE n)
 |n+1,.Call f as _ _=>laE n f++as.flatMap (laE n)
 |n+1,.UnaryOp _ a _=>laE n a
 |n+1,.Compare a _ cs _=>laE n a++cs.flatMap (laE n)
 |n+1,.Tuple es _ _=>es.flatMap (laE n)
 |n+1,.List es _=>es.flatMap (laE n)
 |n+1,.Subscript a _ _=>laE n a
 |_,_=>[]
noncomputable def laS:Nat->sP->Wp uf
 |0,_=>[]
 |n+1,.Return (Gc e) _=>laE 30 e
 |n+1,.Assign ts e _=>laE 30 e
 |n+1,.Expr e _=>laE 30 e
 |n+1,.If t a b _=>laE 30 t++a.flatMap (laS n)++b.flatMap (laS n)
 |n+1,.For _ it a b _=>laE 30 it++a.flatMap (laS n)++b.flatMap (laS n)
 |n+1,.While t a b _=>laE 30 t++a.flatMap (laS n)++b.flatMap (laS n)
 |_,_=>[]
noncomputable def l9(st:sP)(k:Nat):uf:=((BH st).flatMap (laS 20)).getD k (AB st)
def lsM{N:Wp Str}{osc:uf}{N':Wp Str}{HH:Wp Nat}{sc:uf}(a:x0 (sc.kind=.function) wv)(b:x0 (sc.isCoroutine=false) wv)(c:x0 (sc.isGenerator=false) wv)(d:x0 (∀y∈sc.names,y.2≠.cell) wE)(e:x0 (∀y∈sc.names,y.2=.free->osc.names.lookup y.1=Gc .cell) wE)(f:x0 (HH.length=N'.length) wv)(g:x0 (∀z∈N'.zip HH,N[z.2]?=Gc z.1/\osc.names.lookup z.1=Gc .cell/\sc.names.lookup z.1=Gc .free) wE):IB N osc N' HH sc:=⟨a,b,c,d,e,f,g⟩
def qh(h:DEs X a b):DEs X a b:=h
def gDE(h:DE X a b):DE X a b:=h
def qb(h:DSs X a b):DSs X a b:=h
def gDS(h:DS X a b):DS X a b:=h
def gDT(h:DT X a b):DT X a b:=h
def gDG(h:DG X a b):DG X a b:=h
def qf(h:OpR X a b):OpR X a b:=h
def nT(h:EG X a b):EG X a b:=h
def dfW k(S:St.Src K mg x st)(sc:Au N ps (AB st))(hb:∀{f} {cdv} {A} {outer} {s} {H} {E},N.Nodup->Ct k (A.deeper (rg x (AB st) s.heap.objs.size f cdv))->(A.deeper (rg x (AB st) s.heap.objs.size f cdv)).units+100<cLine->DSs (Jj CX0 P w K mg base N x (AB st) f cdv A outer s H E).nox (BH st) b)(hp:x0 (ps.length=np) wv)(hbi:x0 (BnR x st ps) v6):St.Dfn P w K mg base x (k+1) ps (spD K np (AS (AV N.length b))):=dfM k S sc (λhr hu=>hb sc.nd hr hu) hp hbi
def oB k(S:St.Src K mg x st)(sc:Au N ps (AB st))(hb:∀{f} {cdv} {A} {outer} {s} {H} {E},N.Nodup->Ct k (A.deeper (rg x (AB st) s.heap.objs.size f cdv))->(A.deeper (rg x (AB st) s.heap.objs.size f cdv)).units+100<cLine->RSs (Jj CX0 P w K mg base N x (AB st) f cdv A outer s H E).nox (BH st) r)(hp:x0 (ps.length=np) wv)(hbi:x0 (BnR x st ps) v6):dI P w K mg base x (k+1) ps (spR K mg np (AS (Lb N.length r))):=Z3 S sc hp (λ_ _ F=>bnR F hbi) λf cdv A outer s H E hr=>hb sc.nd hr (J5 hr)
noncomputable def JB(f:Str)(d:D):Wp (Str×D)->Wp (Str×D)
 | []=>[(f,d)]
 |(g,x)::r=>if g=f then(g,d)::r else(g,x)::JB f d r
structure FsR(K:W1)(M:Ms)(H:Hp)(fv:Wp (Str×V))(fs:Wp (Str×D)):Prop where
 nm:fv.map (·.1)=fs.map (·.1)
 rel:Ab K M H (fv.map (·.2)) (fs.map (·.2))
def FsR.ind{P:Wp (Str×V)->Wp (Str×D)->Prop}(n:P [] [])(c:∀{f} {v} {d} {fv} {fs},Be K M H v d->FsR K M H fv fs->P fv fs->P ((f,v)::fv) ((f,d)::fs)):∀{fs} {fv},FsR K M H fv fs->P fv fs:=λ{fs}=>by
 induction fs with
 |nil=>
  intro fv h
  cases fv with
  |nil=>exact n
  |cons a r=>exact absurd h.nm (by simp)
 |cons b fs ih=>
  intro fv h
  cases fv with
  |nil=>exact absurd h.nm (by simp)
  |cons a fv=>
   obtain⟨f,v⟩:=a
   obtain⟨g,d⟩:=b
   have h1:=h.nm
   rw[rT,rT,List.cons.injEq]at h1
   obtain⟨e,h1⟩:=h1
   have e:f=g:=e
   subst e
   have h2:=h.rel
   rw[rT,rT]at h2
   cases h2 with
   |cons r t=>exact c r ⟨h1,t⟩ (ih ⟨h1,t⟩)
def FsR.cons(r:Be K M H v d)(h:FsR K M H fv fs):FsR K M H ((f,v)::fv) ((f,d)::fs):=⟨by rw[rT,rT,h.nm],.cons r h.rel⟩
def FsR.get(h:FsR K M H fv fs):(∀d,fs.lookup f=Gc d->∃v,fv.lookup f=Gc v/\Be K M H v d)/\(fs.lookup f=none->fv.lookup f=none):=
 FsR.ind (P:=λfv fs=>(∀d,fs.lookup f=Gc d->∃v,fv.lookup f=Gc v/\Be K M H v d)/\(fs.lookup f=none->fv.lookup f=none)) ⟨λ_ e=>(nomatch e),λ_=>rfl⟩ (λ{g v d fv fs} r _ ih=>by
  rw[sX,sX]
  cases q:f==g with
  |true=>exact⟨λy e=>by cases e;exact⟨v,rfl,r⟩,λe=>(nomatch e)⟩
  |false=>exact ih) h
def FsR.put(r:Be K M H v d)(h:FsR K M H fv fs):FsR K M H (Mz f v fv) (JB f d fs):=
 FsR.ind (P:=λfv fs=>FsR K M H (Mz f v fv) (JB f d fs)) (.cons r ⟨rfl,.nil⟩) (λ{g v' d' fv fs} r' h' ih=>by
  rw[show Mz f v ((g,v')::fv)=(if g=f then(g,v)::fv else(g,v')::Mz f v fv)from rfl,show JB f d ((g,d')::fs)=(if g=f then(g,d)::fs else(g,d')::JB f d fs)from rfl]
  by_cases q:g=f
  .rw[sD q,sD q];exact .cons r h'
  .rw[sH q,sH q];exact .cons r' ih) h
def StR.qI(r:StR K M S H)(h1:M.cel[n]?=Gc a)(h2:S[n]?=Gc (.ins C fs))(hN:sN K mainGlobals C=Gc (Gc (.ref Ca)))(ea:H a=Gc (.ins Ca dx fv))(eo:H dx=Gc (.own a))(hy:FsR K M H fv' fs'):StR K M (S.set n (.ins C fs')) (upd H a (.ins Ca dx fv'))/\Gr M H M (upd H a (.ins Ca dx fv')):=by
 have ha:a∈M.cel:=rV h1
 have hl:n<S.length:=(rB.mp h2).1
 have g:Gr M H M (upd H a (.ins Ca dx fv')):=⟨r.mo,uC,rfl,λ_ z=>.inl z,λb o eb nb=>by rw[Ae (λz=>nb (by rw[z];exact ha))];exact eb,λb eb=>by
  by_cases h:b=a
  .subst h;rw[Ax];intro z;cases z
  .rw[Ae h];exact eb⟩
 refine⟨⟨λb z=>?_,r.nd,r.nt,by rw[uK];exact r.len,λm b c e1 e2=>?_⟩,g⟩
 .by_cases h:b=a
  .subst h;exact⟨_,Ax,trivial⟩
  .rw[Ae h];exact r.mo b z
 .by_cases h:n=m
  .subst h
   rw[h1]at e1;cases e1
   rw[rF hl]at e2;cases e2
   exact⟨Ca,dx,fv',hN,Ax,g.st.VV eo id,hy.nm,hy.rel.step g.st⟩
  .rw[rA h]at e2
   have hb:b≠a:=λz=>by
    subst z
    exact h ((vq (rB.mp h1).1 r.nd).mp (h1.trans e1.symm))
   exact(r.cell m b c e1 e2).step g.st λo e=>by rw[Ae hb];exact e
def StR.pq(r:StR K M S H)(e:H a=none)(k:∀b o,H b=Gc o->H' b=Gc o)(ea:H' a=Gc o)(mb:Mob o)(hc:∀M',Sp1 M H M' H'->SR K M' H' a cl):StR K ⟨M.cel++[a],M.tmp⟩ (S++[cl]) H'/\Gr M H ⟨M.cel++[a],M.tmp⟩ H':=by
 have g:Gr M H ⟨M.cel++[a],M.tmp⟩ H':=⟨r.mo,wc _ _,rfl,λb z=>by
  rcases rf.mp z with z|z
  .exact .inl z
  .simp at z;subst z;exact .inr e,λb o eb _=>k b o eb,λb eb z=>by
  cases h:H b with
  |none=>exact eb h
  |some o=>rw[k b o h]at z;cases z⟩
 have na:¬M.mem a:=λz=>r.mo.some z e
 refine⟨⟨λb z=>?_,?_,λb hb z=>?_,by simp[r.len],λm b c e1 e2=>?_⟩,g⟩
 .have z':M.mem b\/b=a:=by
   rcases z with z|z
   .rcases rf.mp z with z|z
    .exact .inl (.inl z)
    .simp at z;exact .inr z
   .exact .inl (.inr z)
  rcases z' with z|z
  .exact r.mo.at k z
  .subst z;exact⟨_,ea,mb⟩
 .rw[uA]
  refine⟨r.nd,by simp,λx hx y hy=>?_⟩
  simp at hy;subst hy
  exact λz=>na (.inl (by rw[<-z];exact hx))
 .rcases rf.mp z with z|z
  .exact r.nt b hb z
  .simp at z;subst z;exact na (.inr hb)
 .by_cases h:m<S.length
  .rw[qv (by rw[r.len];exact h)]at e1
   rw[qv h]at e2
   exact(r.cell m b c e1 e2).step g.st λo e=>k _ _ e
  .have hm:m=S.length:=by
    have:=(rB.mp e2).1
    simp at this;lia
   subst hm
   rw[sR (by rw[r.len];exact q9 _)]at e1
   rw[sR (q9 _)]at e2
   rw[r.len]at e1
   simp at e1 e2
   subst e1 e2
   exact hc _ g.st
structure ClD(K:W1)(C:Str)(fs:Wp Str):Prop where
 ex:∃Ca,sN K mainGlobals C=Gc (Gc (.ref Ca))/\Cls K Ca/\∀f∈fs,HZ K Ca f
noncomputable def Ib(S:Sto)(C:Str):D->qz (Wp (Str×D))
 | .ref n=>match S[n]? with
   |some (.ins C' fs)=>if C'=C then Gc fs else none
   |_=>none
 |_=>none
def KP(e:Ib S C d=Gc fs):∃n,d=.ref n/\S[n]?=Gc (.ins C fs):=by
 unfold Ib at e
 split at e
 .rename_i n
  split at e
  .rename_i C' fs' h
   split at e
   .rename_i z;cases e;subst z;exact⟨n,rfl,h⟩
   .cases e
  .cases e
 .cases e
def RJ(e:S[n]?=Gc (.ins C fs)):Ib S C (.ref n)=Gc fs:=by
 unfold Ib
 simp[e]
noncomputable def Fx(C f:Str)(o:Ev):Ev:=λE S=>(o E S).bind λr=>(Ib r.2 C r.1).bind λfs=>(fs.lookup f).map λd=>(d,r.2)
noncomputable def Qa(C f:Str)(o v:Ev):Ex:=λE S=>(v E S).bind λr=>(o E r.2).bind λq=>(Ib q.2 C q.1).bind λfs=>match q.1 with
 | .ref n=>if fs.length<1000 then Gc (.nx,E,q.2.set n (.ins C (JB f r.1 fs)))else none
 |_=>none
def Dz(c:ClD X.K C fs)(hf:f∈fs)(ho:DE X o fo)(hb:x0 (attributeBase o f X.env (eval o X.env)=eval o X.env) wv):DE X (.Attribute o f pos) (Fx C f fo):=⟨BI (eL ho.pe hb) λσ H Q z=>by
 obtain⟨M,E,S,d,S',e,r,st,q⟩:=z
 obtain⟨⟨d0,S1⟩,e1,e⟩:=Af e
 obtain⟨fs0,e2,e⟩:=Af e
 obtain⟨d1,e3,e⟩:=IC e
 cases e
 obtain⟨n,rfl,hn⟩:=KP e2
 obtain⟨Ca,hC,cl,na⟩:=c.ex
 refine⟨M,E,S,_,S1,e1,r,st,λu H1 M1 g1 st1 r1=>?_⟩
 cases r1 with
 |ref h=>
  rename_i a
  obtain⟨Ca',dx,fv0,h1,h2,h3,h4,h5⟩:=st1.cell n a _ h hn
  cases hC.symm.trans h1
  obtain⟨u,hu,ru⟩:=((FsR.mk h4 h5).get (f:=f)).1 _ e3
  exact⟨a,Ca,dx,fv0,u,rfl,h2,cl,na f hf,hu,q _ _ M1 g1 st1 ru⟩⟩
def NF(c:ClD X.K C fs)(hf:f∈fs)(ho:DE X o fo)(hv:DE X v fv)(hs:x0 (swapsWith v (Gc (.Attribute o f pos')) pos.line X.env=pure false) wv):DS X (.Assign [.Attribute o f pos'] v pos) (Qa C f fo fv):=⟨Fe (fW ho.pe hv.pe hs) λDn σ H z=>by
 obtain⟨M,E,S,fl,E',S',e,r,st,q⟩:=z
 obtain⟨⟨d0,S1⟩,e1,e⟩:=Af e
 obtain⟨⟨d1,S2⟩,e2,e⟩:=Af e
 obtain⟨fs0,e3,e⟩:=Af e
 obtain⟨n,rfl,hn⟩:=KP e3
 dsimp only at e hn
 split at e
 case isFalse=>cases e
 rename_i hl
 cases e
 obtain⟨Ca,hC,cl,na⟩:=c.ex
 refine⟨M,E,S,_,S1,e1,r,st,λu H1 M1 g1 st1 r1=>?_⟩
 refine⟨M1,E,S1,_,S2,e2,r.step g1.st,st1,λw H2 M2 g2 st2 r2=>?_⟩
 cases r2 with
 |ref h=>
  rename_i a
  obtain⟨Ca',dx,fv0,h1,h2,h3,h4,h5⟩:=st2.cell n a _ h hn
  cases hC.symm.trans h1
  have F:=FsR.mk h4 h5
  obtain⟨st3,g3⟩:=st2.qI h hn hC h2 h3 (F.put (f:=f) (r1.step g2.st))
  refine⟨a,Ca,dx,fv0,rfl,h2,cl,na f hf,?_,q σ _ M2 ((g1.trans g2).trans g3) (((r.step g1.st).step g2.st).step g3.st) st3⟩
  have:=congrArg yO h4
  rw[sG,sG]at this
  lia⟩
section
variable{w:uL}{K:W1}{mg:Str->qz rD}{base:tS}
structure MeS(K:W1)(C m q:Str)(st:sP):Prop where
 ex:∃Ca f fd,sN K mainGlobals C=Gc (Gc (.ref Ca))/\Cls K Ca/\Meth K Ca m f/\Fun K m q st f fd
structure MeD(P:sx)(w:uL)(K:W1)(mg:Str->qz rD)(base:tS)(CX:CXT)(C m:Str)(k:Nat)(ps:Wp Str)(sp:Sp):Prop where
 ex:∃Ca f fd,sN K mainGlobals C=Gc (Gc (.ref Ca))/\Cls K Ca/\Meth K Ca m f/\Binds K fd ps []/\Kg P w K mg base CX k f fd ps sp
structure MkS(K:W1)(mg:Str->qz rD)(C q:Str)(st:sP):Prop where
 ex:∃Ca f fd,mg C=Gc (.ref Ca)/\sN K mainGlobals C=Gc (Gc (.ref Ca))/\Mk K Ca f/\Fun K "__init__" q st f fd
structure MkD(P:sx)(w:uL)(K:W1)(mg:Str->qz rD)(base:tS)(CX:CXT)(C:Str)(k:Nat)(ps:Wp Str)(sp:Sp):Prop where
 ex:∃Ca f fd,mg C=Gc (.ref Ca)/\sN K mainGlobals C=Gc (Gc (.ref Ca))/\Mk K Ca f/\Binds K fd ps []/\Kg P w K mg base CX k f fd ps sp
def Y1(Fu:Fun K x y st f fd)(S:Au N ps (AB st))(hp:ps.length=np)(hb:∀cdv A outer s H E,Ct k (A.deeper (rg y (AB st) s.heap.objs.size f cdv))->DSs (Jj CX0 P w K mg base N y (AB st) f cdv A outer s H E).nox (BH st) b):Kg P w K mg base CX0 (k+1) f fd ps (spD K np (AS (AV N.length b))):=by
 rw[Ga]
 refine Fu.ok S (λvs H Q E h=>?_) (λcdv A outer s H vs Q E hr h=>?_)
 .obtain⟨M,ds,S0,d,S',hl,_,r,_⟩:=h
  have:=r.length
  lia
 .obtain⟨M,ds,S0,d,S',hl,e,r,st,q⟩:=h
  have hlen:=r.length
  refine⟨_,(hb cdv A outer s H E hr).pe,?_⟩
  obtain⟨⟨fl,E',S1⟩,e1,e⟩:=IC e
  cases e
  refine⟨M,_,S0,fl,E',S1,e1,?_,st,?_⟩
  .rw[show L2.start N vs=vs.map Gc++rQ (N.length-ds.length) none from by unfold L2.start;rw[hlen]]
   exact .args r _
  .cases fl with
   |nx=>exact λσ' H' M' g _ st'=>q _ _ M' g st' .non
   |ret d=>exact λv H' M' g st' r'=>q _ _ M' g st' r'
def bT(Fu:Fun K x y st f fd)(S:Au N ps (AB st))(hp:ps.length=np)(hb:∀cdv A outer s H E,Ct k (A.deeper (rg y (AB st) s.heap.objs.size f cdv))->RSs (Jj CX0 P w K mg base N y (AB st) f cdv A outer s H E).nox (BH st) r):Kg P w K mg base (CXr P w) (k+1) f fd ps (spR K mg np (AS (Lb N.length r))):=by
 rw[Ga]
 obtain⟨oc,od,kV,doc,pm,an,cdv,ct,osl,rfl,lk,hcd⟩:=Fu.ex
 refine X4 lk hcd S (λvs H Q E h=>?_) λA outer s H vs Q E hr h=>?_
 .obtain⟨M,ds,S0,d,S',hl,_,r,_⟩:=h
  have:=r.length
  lia
 .obtain⟨M,ds,S0,y',S',hl,e,rr,st,q⟩:=h
  have hlen:=rr.length
  refine⟨λ_ σ H=>tR K mg r σ H λC od _ H'=>E (.ref C) od H',λpins s1 σ1 H1 D I h=>?_,?_⟩
  .exact tq ((hb cdv A outer s H E hr).pe pins s1 σ1 H1 _ (I.Rb _) h) (λ_ _ z=>z.elim) λev s' z=>Q4 z λ_ _ _ _ z=>z
  .obtain⟨⟨y',E',S1⟩,e1,e⟩:=IC e
   cases e
   refine⟨M,_,S0,y',E',S1,e1,?_,st,λC od σ' H' M' hm g _ st'=>q C od H' M' hm g st'⟩
   rw[show L2.start N vs=vs.map Gc++rQ (N.length-ds.length) none from by unfold L2.start;rw[hlen]]
   exact .args rr _
def BnQ(x y:Str)(st:sP)(ps:Wp Str):Prop:=∀(kV doc pm:rD) (an:qz rL) (cdv ct:rD) (f:Nat->rD),bindArgs (uh x y (Gs st) (BH st) (AB st) .none kV doc pm an cdv ct) ⟨(tm ps.length).map f,[]⟩=pure (ps.zip ((tm ps.length).map f))
def bnQ(F:Fun K x y st f fd)(h:BnQ x y st ps):Binds K fd ps []:=F.binds λa b c d e g us hl=>by
 obtain⟨k,rfl⟩:=nB hl
 exact h a b c d e g k
def R5 k(S:MeS K C m q st)(sc:Au N ps (AB st))(hb:∀{f} {cdv} {A} {outer} {s} {H} {E},N.Nodup->Ct k (A.deeper (rg q (AB st) s.heap.objs.size f cdv))->(A.deeper (rg q (AB st) s.heap.objs.size f cdv)).units+100<cLine->DSs (Jj CX0 P w K mg base N q (AB st) f cdv A outer s H E).nox (BH st) b)(hp:x0 (ps.length=np) wv)(hbi:x0 (BnQ m q st ps) v6):MeD P w K mg base CX0 C m (k+1) ps (spD K np (AS (AV N.length b))):=by
 obtain⟨Ca,f,fd,h1,h2,h3,Fu⟩:=S.ex
 exact⟨Ca,f,fd,h1,h2,h3,bnQ Fu hbi,Y1 Fu sc hp λcdv A outer s H E hr=>hb sc.nd hr (J5 hr)⟩
def Ue k(S:MeS K C m q st)(sc:Au N ps (AB st))(hb:∀{f} {cdv} {A} {outer} {s} {H} {E},N.Nodup->Ct k (A.deeper (rg q (AB st) s.heap.objs.size f cdv))->(A.deeper (rg q (AB st) s.heap.objs.size f cdv)).units+100<cLine->RSs (Jj CX0 P w K mg base N q (AB st) f cdv A outer s H E).nox (BH st) r)(hp:x0 (ps.length=np) wv)(hbi:x0 (BnQ m q st ps) v6):MeD P w K mg base (CXr P w) C m (k+1) ps (spR K mg np (AS (Lb N.length r))):=by
 obtain⟨Ca,f,fd,h1,h2,h3,Fu⟩:=S.ex
 exact⟨Ca,f,fd,h1,h2,h3,bnQ Fu hbi,bT Fu sc hp λcdv A outer s H E hr=>hb sc.nd hr (J5 hr)⟩
end
noncomputable def C4(C m:Str)(F:Fn)(o:Ev)(fs:Wp Ev):Ev:=λE S=>(o E S).bind λr=>(Ib r.2 C r.1).bind λas=>if(as.lookup m).isNone=true then(evs fs E r.2).bind λq=>F (r.1::q.1) q.2 else none
noncomputable def MU(C m:Str)(R:Rf)(o:Ev)(fs:Wp Ev):Rx:=λE S=>(o E S).bind λr=>(Ib r.2 C r.1).bind λas=>if(as.lookup m).isNone=true then(evs fs E r.2).bind λq=>(R (r.1::q.1) q.2).map λz=>(z.1,E,z.2)else none
section
variable{X:Cx}{k np:Nat}{C m:Str}{ps:Wp Str}{F:Fn}{R:Rf}{o e:tF}{es:Wp tF}{fo:Ev}{fs:Wp Ev}{p pos apos:Pos}{pl:Sem su}
def Lq(st:StR K M S H)(r:Be K M H v d)(hC:sN K mainGlobals C=Gc (Gc (.ref Ca)))(e:Ib S C d=Gc as)(hn:(as.lookup m).isNone=true):∃a dx fv,v=.ref a/\H a=Gc (.ins Ca dx fv)/\fv.lookup m=none:=by
 obtain⟨n,rfl,hn'⟩:=KP e
 cases r with
 |ref h=>
  rename_i a
  obtain⟨Ca',dx,fv0,h1,h2,h3,h4,h5⟩:=st.cell n a _ h hn'
  cases hC.symm.trans h1
  exact⟨a,dx,fv0,rfl,h2,((FsR.mk h4 h5).get (f:=m)).2 (Option.isNone_iff_eq_none.mp hn)⟩
def bq (d:MeD X.prog X.w X.K X.mg X.base CX0 C m k ps (spD X.K np F))(hr:Ct k X.A)(ho:DE X o fo)(ha:DEs X (e::es) fs)(hn:x0 (fs.length + 1=np) wv)(hst:x0 (rG (e::es) X.env=(false,eval e X.env)::rG es X.env) wv)(hpl:x0 ((backTo pos (rG es X.env)).any (·.1)=false) wv)(ht:x0 (eval (.Call (.Attribute o m apos) (e::es) [] pos) X.env=(do
      let ov ← eval o X.env
      standAt apos.atName
      let (f, first) ← holding [ov] (getMethod ov m pl)
      callWith pos f first (backTo pos (rG (e :: es) X.env)) (backToKw pos (keywordEach [] X.env)))) wv) :
    DE X (.Call (.Attribute o m apos) (e::es) [] pos) (C4 C m F fo fs):=⟨by
  obtain⟨Ca,f,fd,hC,cl,hm,hb,Fk⟩:=d.ex
  refine BI (Z5 (pl:=pl) ho.pe cl hm Fk hr hb .nil Vg ha.pe hst hpl ht) λσ H Q z=>?_
  obtain⟨M,E,S,d0,S',e0,r,st,q⟩:=z
  obtain⟨⟨d1,S1⟩,e1,e0⟩:=Af e0
  obtain⟨as,e2,e0⟩:=Af e0
  split at e0
  case isFalse => cases e0
  rename_i hno
  obtain⟨⟨ds,S2⟩,e3,e4⟩:=Af e0
  refine ⟨M, E, S, d1, S1, e1, r, st, fun u H1 M1 g1 st1 r1 => ?_⟩
  obtain⟨a,dx,fv,rfl,h2,h3⟩:=Lq st1 r1 hC e2 hno
  refine ⟨a, dx, fv, rfl, h2, h3, FN e3 (r.step g1.st) st1 fun vs H2 M2 g2 st2 r2 => ?_⟩
  rw [sj]
  exact ⟨M2, d1 :: ds, S2, d0, S', by rw [sS, HX e3]; exact hn, e4, .cons (r1.step g2.st) r2, st2, fun v H' M' g st' r' => q _ _ M' ((g1.trans g2).trans g) st' r'⟩⟩
def Wa (d:MeD X.prog X.w X.K X.mg X.base CX0 C m k ps (spD X.K np F))(hr:Ct k X.A)(ho:DE X o fo)(hn:x0 (1=np) wv)(ht:x0 (eval (.Call (.Attribute o m apos) [] [] pos) X.env=(do
      let ov ← eval o X.env
      standAt apos.atName
      let (f, first) ← holding [ov] (getMethod ov m pl)
      callWith pos f first (backTo pos (rG [] X.env)) (backToKw pos (keywordEach [] X.env)))) wv) :
    DE X (.Call (.Attribute o m apos) [] [] pos) (C4 C m F fo []):=⟨by
  obtain⟨Ca,f,fd,hC,cl,hm,hb,Fk⟩:=d.ex
  refine BI (X8 (pl:=pl) ho.pe cl hm Fk hr hb .nil Vg ht) λσ H Q z=>?_
  obtain⟨M,E,S,d0,S',e0,r,st,q⟩:=z
  obtain⟨⟨d1,S1⟩,e1,e0⟩:=Af e0
  obtain⟨as,e2,e0⟩:=Af e0
  split at e0
  case isFalse => cases e0
  rename_i hno
  refine ⟨M, E, S, d1, S1, e1, r, st, fun u H1 M1 g1 st1 r1 => ?_⟩
  obtain⟨a,dx,fv,rfl,h2,h3⟩:=Lq st1 r1 hC e2 hno
  exact ⟨a, dx, fv, rfl, h2, h3, M1, [d1], S1, d0, S', hn, e0, .cons r1 .nil, st1, fun v H' M' g st' r' => q _ _ M' (g1.trans g) st' r'⟩⟩
def Zx (d:MeD X.prog X.w X.K X.mg X.base (CXr X.prog X.w) C m k ps (spR X.K X.mg np R))(hr:Ct k X.A)(ho:DE X o fo)(ha:DEs X (e::es) fs)(hn:x0 (fs.length + 1=np) wv)(hxe:x0 (X.xe=λ_ _=>uO) wv)(hx:x0 (X.ex=[]) wv)(hst:x0 (rG (e::es) X.env=(false,eval e X.env)::rG es X.env) wv)(hpl:x0 ((backTo pos (rG es X.env)).any (·.1)=false) wv)(ht:x0 (eval (.Call (.Attribute o m apos) (e::es) [] pos) X.env=(do
      let ov ← eval o X.env
      standAt apos.atName
      let (f, first) ← holding [ov] (getMethod ov m pl)
      callWith pos f first (backTo pos (rG (e :: es) X.env)) (backToKw pos (keywordEach [] X.env)))) wv) :
    RE X (.Call (.Attribute o m apos) (e::es) [] pos) (MU C m R fo fs):=⟨by
  intro pins s σ H Z I h
  obtain⟨Ca,f,fd,hC,cl,hm,hb,Fk⟩:=d.ex
  obtain⟨M,E,S,y,E',S',e0,r,st,q⟩:=h
  obtain⟨⟨d1,S1⟩,e1,e0⟩:=Af e0
  obtain⟨as,e2,e0⟩:=Af e0
  split at e0
  case isFalse => cases e0
  rename_i hno
  obtain⟨⟨ds,S2⟩,e3,e4⟩:=Af e0
  obtain⟨⟨y',S3⟩,e5,e6⟩:=IC e4
  cases e6
  refine vI (pl:=pl) (EY hxe (ho.pe pins s σ H (λv H1=>∃M1,Gr M H M1 H1/\StR X.K M1 S1 H1/\Be X.K M1 H1 v d1) I ⟨M,E,S,d1,S1,e1,r,st,λv H1 M1 g1 st1 r1=>⟨M1,g1,st1,r1⟩⟩) λu s1 z=>?_) ht
  obtain⟨v,H1,I1,rv,M1,g1,st1,r1⟩:=z
  obtain⟨a,dx,fv,rfl,h2,h3⟩:=Lq st1 r1 hC e2 hno
  obtain rfl:u=sA a:=rv
  refine GJ I1 h2 cl hm h3 ?_
  have ha':=ha.pe pos pins s1 σ H1 (λvs H2=>∃M2,Gr M1 H1 M2 H2/\StR X.K M2 S2 H2/\Ab X.K M2 H2 vs ds) I1 (FN e3 (r.step g1.st) st1 λvs H2 M2 g2 st2 r2=>⟨M2,g2,st2,r2⟩)
  refine uM (first:=[.ref a]) (h₀:=X.base) I.ok.mod.kin hm.kp (EY hxe ha' λus s2 ⟨vs,H2,I2,rv,M2,g2,st2,r2⟩=>⟨I2.kIn,?_⟩) hst hpl
  have sp:spR X.K X.mg np R (.ref a::vs) H2 (λ_ _=>uO) (λv od H'=>∃C,v = .ref C/\Z C od σ H') :=
    ⟨M2, d1 :: ds, S2, y', S3, by rw [sS, HX e3]; exact hn, e5, .cons (r1.step g2.st) r2, st2, fun C od H' M' hc g3 st3 => ⟨C, rfl, q C od σ H' M' hc ((g1.trans g2).trans g3) (((r.step g1.st).step g2.st).step g3.st) st3⟩⟩
  have rv2:Vals (V.ref a::vs) (sA a::us):=.cons rfl rv
  have hl:(sA a::us++[]).length=ps.length:=by rw[sj,← rv2.length];exact Fk.len _ _ _ _ sp
  have hbs:=hb s2 (.ref a::us) I2.kIn hl
  rw [sj] at hbs
  refine wY (v9 (Fk.run X.A X.stack s2 H2 ⟨.ref a :: us, []⟩ (.ref a :: us) (.ref a :: vs) _ _ hr I2.Yp hbs rv2 sp) fun rs s' hq => ?_)
  cases rs with
  | error ev =>
    obtain⟨e,C,od,H',rfl,os,bare,un,hok,fly,C',hC,z⟩:=hq
    cases hC
    exact ⟨e, C, od, σ, H', rfl, I2.UL os un hok bare (fun b z => nomatch z), z, fly.imp fun b z => EO I2 hx b z⟩
  | ok fl =>
    cases fl with
    | ret u =>
      obtain⟨v,H',_,_,_,_,_,q⟩:=hq
      exact q.elim
    | next => exact si hq
    | brk => exact si hq
    | cont => exact si hq⟩
noncomputable def MG(C:Str)(F:Fn)(fs:Wp Ev):Ev:=λE S=>(evs fs E S).bind λr=>(F (.ref r.2.length::r.1) (r.2++[.ins C []])).bind λq=>match q.1 with
 | .non=>Gc (.ref r.2.length,q.2)
 |_=>none
def bZ(d:MkD X.prog X.w X.K X.mg X.base CX0 C k ps (spD X.K np F))(hr:Ct (k+1) X.A)(hg:Gl X C)(ha:DEs X (e::es) fs)(hn:x0 (fs.length+1=np) wv)(hdb:x0 ((C==("__debug__":Str))=false) xL)(he:x0 (rG (e::es) X.env=(false,eval e X.env)::rG es X.env) wv)(hpl:x0 ((backTo pos (rG es X.env)).any (·.1)=false) wv):DE X (.Call (.Name C p) (e::es) [] pos) (MG C F fs):=⟨by
 obtain⟨Ca,f,fd,hmg,hC,hm,hb,Fk⟩:=d.ex
 refine BI (Z7 hm Fk hr hg hmg hb .nil Vg ha.pe hdb he hpl) λσ H Q z=>?_
 obtain⟨M,E,S,d0,S',e0,r,st,q⟩:=z
 obtain⟨⟨ds,S1⟩,e1,e0⟩:=Af e0
 obtain⟨⟨w,S2⟩,e2,e0⟩:=Af e0
 refine FN e1 r st λvs H1 M1 g1 st1 r1=>λx dx hx hdx ne=>?_
 dsimp only at e0 e2
 split at e0
 case h_2=>cases e0
 cases e0
 obtain⟨st2,g2⟩:=st1.pq (a:=x) (cl:=.ins C []) (H':=upd (upd H1 dx (.own x)) x (.ins Ca dx [])) hx (λb o eb=>by rw[Ae (λz=>by rw[z,hx]at eb;cases eb),Ae (λz=>by rw[z,hdx]at eb;cases eb)];exact eb) Ax trivial λM' g=>⟨Ca,dx,[],hC,Ax,by rw[Ae ne,Ax],rfl,.nil⟩
 have hi:(⟨M1.cel++[x],M1.tmp⟩:Ms).cel[S1.length]?=Gc x:=by rw[<-st1.len];exact rZ
 rw[sj]
 exact⟨_,.ref S1.length::ds,_,_,_,by rw[sS,HX e1];exact hn,e2,.cons (.ref hi) (r1.step g2.st),st2,λv H' M' g st' r'=>⟨by cases r';rfl,q _ _ M' ((g1.trans g2).trans g) st' (.ref (Ll g.pre hi))⟩⟩⟩
end
section
variable{X:Cx}{k j np:Nat}{C m:Str}{ps:Wp Str}{F:Fn}{es:Wp tF}{fo:Ev}{fs:Wp Ev}{p pos apos:Pos}{pl:Sem su}
def LB (d:MeD X.prog X.w X.K X.mg X.base CX0 C m k ps (spD X.K np F))(hr:Ct j X.A)(ho:DE X o fo)(ha:DEs X (e::es) fs)(hk:x0 (k ≤ j) xL)(hn:x0 (fs.length + 1=np) wv)(hst:x0 (rG (e::es) X.env=(false,eval e X.env)::rG es X.env) wv)(hpl:x0 ((backTo pos (rG es X.env)).any (·.1)=false) wv)(ht:x0 (eval (.Call (.Attribute o m apos) (e::es) [] pos) X.env=(do
      let ov ← eval o X.env
      standAt apos.atName
      let (f, first) ← holding [ov] (getMethod ov m pl)
      callWith pos f first (backTo pos (rG (e :: es) X.env)) (backToKw pos (keywordEach [] X.env)))) wv) :
    DE X (.Call (.Attribute o m apos) (e::es) [] pos) (C4 C m F fo fs):=bq (pl:=pl) d (hr.mono hk) ho ha hn hst hpl ht
def EM (d:MeD X.prog X.w X.K X.mg X.base CX0 C m k ps (spD X.K np F))(hr:Ct j X.A)(ho:DE X o fo)(hk:x0 (k ≤ j) xL)(hn:x0 (1=np) wv)(ht:x0 (eval (.Call (.Attribute o m apos) [] [] pos) X.env=(do
      let ov ← eval o X.env
      standAt apos.atName
      let (f, first) ← holding [ov] (getMethod ov m pl)
      callWith pos f first (backTo pos (rG [] X.env)) (backToKw pos (keywordEach [] X.env)))) wv) :
    DE X (.Call (.Attribute o m apos) [] [] pos) (C4 C m F fo []):=Wa (pl:=pl) d (hr.mono hk) ho hn ht
def W0 (d:MeD X.prog X.w X.K X.mg X.base (CXr X.prog X.w) C m k ps (spR X.K X.mg np R))(hr:Ct j X.A)(ho:DE X o fo)(ha:DEs X (e::es) fs)(hk:x0 (k ≤ j) xL)(hn:x0 (fs.length + 1=np) wv)(hxe:x0 (X.xe=λ_ _=>uO) wv)(hx:x0 (X.ex=[]) wv)(hst:x0 (rG (e::es) X.env=(false,eval e X.env)::rG es X.env) wv)(hpl:x0 ((backTo pos (rG es X.env)).any (·.1)=false) wv)(ht:x0 (eval (.Call (.Attribute o m apos) (e::es) [] pos) X.env=(do
      let ov ← eval o X.env
      standAt apos.atName
      let (f, first) ← holding [ov] (getMethod ov m pl)
      callWith pos f first (backTo pos (rG (e :: es) X.env)) (backToKw pos (keywordEach [] X.env)))) wv) :
    RE X (.Call (.Attribute o m apos) (e::es) [] pos) (MU C m R fo fs):=Zx (pl:=pl) d (hr.mono hk) ho ha hn hxe hx hst hpl ht
def OH(d:MkD X.prog X.w X.K X.mg X.base CX0 C k ps (spD X.K np F))(hr:Ct j X.A)(hg:Gl X C)(ha:DEs X (e::es) fs)(hk:x0 (k+1<=j) xL)(hn:x0 (fs.length+1=np) wv)(hdb:x0 ((C==("__debug__":Str))=false) xL)(he:x0 (rG (e::es) X.env=(false,eval e X.env)::rG es X.env) wv)(hpl:x0 ((backTo pos (rG es X.env)).any (·.1)=false) wv):DE X (.Call (.Name C p) (e::es) [] pos) (MG C F fs):=bZ d (hr.mono hk) hg ha hn hdb he hpl
end
def lN k(S:MkS K mg C q st)(sc:Au N ps (AB st))(hb:∀{f} {cdv} {A} {outer} {s} {H} {E},N.Nodup->Ct k (A.deeper (rg q (AB st) s.heap.objs.size f cdv))->(A.deeper (rg q (AB st) s.heap.objs.size f cdv)).units+100<cLine->DSs (Jj CX0 P w K mg base N q (AB st) f cdv A outer s H E).nox (BH st) b)(hp:x0 (ps.length=np) wv)(hbi:x0 (BnQ "__init__" q st ps) v6):MkD P w K mg base CX0 C (k+1) ps (spD K np (AS (AV N.length b))):=by
 obtain⟨Ca,f,fd,h1,h2,h3,Fu⟩:=S.ex
 exact⟨Ca,f,fd,h1,h2,h3,bnQ Fu hbi,Y1 Fu sc hp λcdv A outer s H E hr=>hb sc.nd hr (J5 hr)⟩
section
variable{K:W1}{st:sP}{od an:qz rL}{osl:xI (qz rD)}{kV doc pm cdv ct:rD}
def gm:∀z∈([]:Wp Str),HZ K Ca z:=λ_ z=>nomatch z
def Vx(h:tH K (.ref Ca) x=Gc none)(t:∀z∈fs,HZ K Ca z):∀z∈x::fs,HZ K Ca z:=λz m=>by
 rcases qy.mp m with e|m
 .rw[e];exact h
 .exact t z m
def eF(a:sN K mainGlobals C=Gc (Gc (.ref Ca)))(b1:v8 K Ca Str.empty=true)(b2:wt K Ca=true)(b3:yM K Ca=true)(b4:tH K (.ref Ca) "__setattr__"=Gc (Gc (.builtin "object.__setattr__")))(n:∀z∈fs,HZ K Ca z):ClD K C fs:=⟨Ca,a,⟨b1,b2,b3,b4⟩,n⟩
def M8(c:ClD K C fs)(a:sN K mainGlobals C=Gc (Gc (.ref Ca)))(m1:tH K (.ref Ca) m=Gc (Gc (.ref f)))(m2:xk K (.ref f)=true)(l:K.lookup f=Gc ⟨oc,od,.func (uh m q (Gs st) (BH st) (AB st) .none kV doc pm an cdv ct),osl⟩)(cd:vx K cdv q=true)(k:tL K (.ref f)=true):MeS K C m q st:=by
 obtain⟨Ca',h,cl,_⟩:=c.ex
 cases a.symm.trans h
 exact⟨Ca,f,_,a,cl,⟨m1,m2,k⟩,U5 l cd k⟩
def fV(X:K.In h)(G:h.Ns mainGlobals mg)(a:sN K mainGlobals C=Gc (Gc (.ref Ca)))(m0:y4 K Ca=true)(m1:tH K (.ref Ca) "__init__"=Gc (Gc (.ref f)))(m2:xk K (.ref f)=true)(m3:tL K (.ref Ca)=true)(l:K.lookup f=Gc ⟨oc,od,.func (uh "__init__" q (Gs st) (BH st) (AB st) .none kV doc pm an cdv ct),osl⟩)(cd:vx K cdv q=true)(k:tL K (.ref f)=true):MkS K mg C q st:=
 ⟨Ca,f,_,uj X G a,a,⟨m0,m1,m2,m3⟩,U5 l cd k⟩
end
noncomputable def My(p:Str)(np cp tp rp:Pos)(h₀:yY)(hs:Wp yY):Wp sP:=[.Try [.Return (Gc (.Call (.Name p np) [] [] cp)) rp] (h₀::hs) [] [] tp]
noncomputable def Kp(x:Str)(HH:Wp Nat)(F:Ev)(R:Rx)(n:Nat)(h:Tg->Ex):Ev:=λE S=>
 if S.any (R7 x)=true then
  match F (Kq HH E) S with
  |some q=>Gc (q.1,q.2)
  |none=>(R (Kq HH E) S).bind λq=>(h q.1 (none::rQ n none) q.2.2).bind λz=>match z.1 with| .ret d=>Gc (d,z.2.2)| .nx=>none
 else none
def Sq{X:Cx}{pins:Wp (rL×Obj)}{σ:Sg}{H:Hp}{s:rP}(I:Inv X pins σ H s)(Fu:Fun X.K g g st fg fd)(S:Au (p::rs) [p] (AB st))(Bi:Binds X.K fd [p] [])(hr:Ct (k+3) X.A)(L:MQ H s.heap x body sc clos N' σc f)(eb:BH st=My p np cp tp rp h₀ hs)(hv:Vis (AB st) p)(hd1:(p==("__debug__":Str))=false)(hd2:(p==("__classdict__":Str))=false)(hb:∀c' A outer s H,Ct k (A.deeper (uk (Li x) sc s.heap.objs.size f (.ref c') clos))->DE (MX X.prog X.w X.K X.mg X.base N' x sc clos f c' A outer s H) body F)(hx:∀c' A outer s H,Ct k (A.deeper (uk (Li x) sc s.heap.objs.size f (.ref c') clos))->RE (MX X.prog X.w X.K X.mg X.base N' x sc clos f c' A outer s H) body R)(hh:∀cdv A outer s H,HS (Jj CX0 X.prog X.w X.K X.mg X.base (p::rs) g (AB st) fg cdv A outer s H E0).nox (h₀::hs) hd)(h:∃M E S,EnR X.K M E σc H/\StR X.K M S H/\((∃d S',F E S=Gc (d,S')/\∀v H' M',Gr M H M' H'->StR X.K M' S' H'->Be X.K M' H' v d->Q v H')\/∃y E' S' d E2 S2,R E S=Gc (y,E',S')/\hd y (none::rQ rs.length none) S'=Gc (.ret d,E2,S2)/\∀v H' M',Gr M H M' H'->StR X.K M' S2 H'->Be X.K M' H' v d->Q v H')):wpAny (model X.prog X.w) X.A (call (.ref fg) [.ref f]) (EP X pins σ Q) X.xe s:=by
 refine iC (k:=k+2) (vs:=[.ref f]) Fu S Bi hr I (.cons rfl .nil) rfl λcdv hrg=>?_
 have hrl:Ct (k+1) (X.A.deeper (rg g (AB st) s.heap.objs.size fg cdv)):=hrg.mono (by lia)
 let Xg:=(Jj CX0 X.prog X.w X.K X.mg X.base (p::rs) g (AB st) fg cdv X.A X.stack s H E0).nox
 have p1:=XY (X:=Xg) (t:=tD X.K F) (i:=0) (y:=p) (p:=np) (pos:=cp) hrl rfl L (λc' s H z=>(hb c' Xg.A Xg.stack s H z).pe) rfl hv hd1 hd2
 have p2:=Wy (X:=Xg) (t:=tR X.K X.mg R) (i:=0) (y:=p) (p:=np) (pos:=cp) hrl rfl L (λc' s H z=>(hx c' Xg.A Xg.stack s H z).pe) rfl hv rfl hd1 hd2
 have q1:PSs Xg [.Return (Gc (.Call (.Name p np) [] [] cp)) rp] _:=N6 (TZ p1)
 have qx:=p2
 have q2:PXs Xg [.Return (Gc (.Call (.Name p np) [] [] cp)) rp] (λσ H Z=>σ[0]?=Gc (Gc (.ref f))/\tR X.K X.mg R σc H λC od _ H'=>Z C od σ H'):=λpins s σ H Z I q=>
  vX (yL (tq (qx pins s σ H Z I q) (λ_ _ z=>z.elim) λ_ _ z=>z))
 have q3:=N6 (aZ (pos:=tp) q1 q2 (hh cdv X.A X.stack s H) rfl rfl rfl rfl)
 refine⟨_,by rw[eb];exact q3,?_⟩
 obtain⟨M,E,S0,r,sr,w⟩:=h
 rcases w with⟨d,S',e,q⟩|⟨y,E',S',d,E2,S2,e,e2,q⟩
 .exact .inl ⟨rfl,M,E,S0,d,S',e,r,sr,λv H' M' gr st' rd=>q v H' M' gr st' rd⟩
 .refine .inr ⟨y,rfl,M,E,S0,y,E',S',e,r,sr,λC od σ' H' M' hm gr er st'=>⟨hm,?_⟩⟩
  refine⟨M',_,S',.ret d,E2,S2,e2,?_,st',λv2 H2 M2 g2 st2 r2=>q v2 H2 M2 (gr.trans g2) st2 r2⟩
  exact⟨by simp[L2.start],λi d e=>by rw[<-uD,we]at e;split at e<;>cases e⟩
def QY{X:Cx}{k:Nat}{g p x:Str}{st:sP}{body:tF}{sc:uf}{params:Arguments}{N':Wp Str}{HH:Wp Nat}{gp pl pos np cp tp rp:Pos}(G:St.Src X.K X.mg g st)(S:Au (p::rs) [p] (AB st))(LS:IB X.N X.env.scope N' HH sc)(ci:YZ X x)(bm:BmB X.mg X.base)(hr:Ct (k+3) X.A)(hg:Gl X g)(hb:∀f c' clos A outer s H,Ct k (A.deeper (uk (Li x) sc s.heap.objs.size f (.ref c') clos))->DE (MX X.prog X.w X.K X.mg X.base N' x sc clos f c' A outer s H) body F)(hx:∀f c' clos A outer s H,Ct k (A.deeper (uk (Li x) sc s.heap.objs.size f (.ref c') clos))->RE (MX X.prog X.w X.K X.mg X.base N' x sc clos f c' A outer s H) body R)(hh:∀fg cdv A outer s H,HS (Jj CX0 X.prog X.w X.K X.mg X.base (p::rs) g (AB st) fg cdv A outer s H E0).nox (h₀::hs) hd)(eb:x0 (BH st=My p np cp tp rp h₀ hs) wv)(hv:x0 (Vis (AB st) p) ut)(hqual:x0 (X.env.qual=x++(".<locals>.":Str)) wv)(hdf:x0 (defaultsOf params X.env=([],[])) wv)(hp:x0 (∀clos pm c' ctv,bindArgs (xC "<lambda>" (Li x) params body sc clos pm (.ref c') ctv) ⟨[],[]⟩=pure []) ul)(hbi:x0 (BnR g st [p]) v6)(hdb:x0 ((g==("__debug__":Str))=false) xL)(hd1:x0 ((p==("__debug__":Str))=false) xL)(hd2:x0 ((p==("__classdict__":Str))=false) xL)(he:x0 (rG [Expr.Lambda params body sc pl] X.env=[(false,eval (.Lambda params body sc pl) X.env)]) wv):DE X (.Call (.Name g gp) [.Lambda params body sc pl] [] pos) (Kp x HH F R rs.length hd):=⟨by
 intro pins s σ H Q I h
 obtain⟨M,E,S0,d,S',e,r,sr,q⟩:=h
 unfold Kp at e
 split at e
 case isFalse=>cases e
 rename_i hany
 obtain⟨n,hn⟩:=Ti hany
 obtain⟨P,hc,ps,hP,tok⟩:=sr.at hn
 obtain⟨c,hcode,hcd⟩:=ci P tok.tat I.ok.mod.kin I.ok.mod.glob
 obtain⟨fg,fd,Fu,hm⟩:=G.ex
 have hcl:∀y∈sc.names,y.2=.free->∃a,X.env.cells.lookup y.1=Gc a:=λy hy hf=>I.ok.has y.1 (.inl (LS.free y hy hf))
 refine uB (J3 I hg hm ?_ hdb)
 refine uM (h₀:=X.base) I.ok.mod.kin Fu.kp ?_ he rfl
 rw[he]
 show wpAny _ _ (spliced ((false,eval (.Lambda params body sc pl) X.env)::backTo pos [])) _ _ s
 refine xS (XU I hqual hdf (N7 hcl) hcode hcd bm hP tok λf H' s1 mk=>?_)
 refine zO ⟨mk.inv.kIn,?_⟩
 obtain⟨sr1,g1⟩:=fZ sr hc hn mk
 have L:=gi LS mk λpm c' ctv=>hp _ pm c' ctv
 refine Sq mk.inv Fu S (bnR Fu hbi) hr L eb hv hd1 hd2 (λc'=>hb f c' _) (λc'=>hx f c' _) (hh fg) ⟨M,Kq HH E,S0,(r.step g1.st).Q7 HH,sr1,?_⟩
 split at e
 .rename_i w ew
  cases e
  exact .inl ⟨w.1,w.2,ew,λv H2 M2 g2 st2 rd=>q v H2 M2 (g1.trans g2) st2 rd⟩
 .obtain⟨⟨y,E',S1⟩,e1,e⟩:=Af e
  obtain⟨⟨fl,E2,S2⟩,e2,e⟩:=Af e
  cases fl with
  |nx=>cases e
  |ret w=>
   cases e
   exact .inr ⟨y,E',S1,_,E2,S2,e1,e2,λv H2 M2 g2 st2 rd=>q v H2 M2 (g1.trans g2) st2 rd⟩⟩
section
variable{P:sx}{w:uL}{K:W1}{mg:Str->qz rD}{base:tS}
end
section
variable{X:Cx}{k j np:Nat}{C m:Str}{ps:Wp Str}{R:Rf}{o e:tF}{es:Wp tF}{fo:Ev}{fs:Wp Ev}{p pos apos:Pos}{pl:Sem su}
def OY (d:MeD X.prog X.w X.K X.mg X.base (CXr X.prog X.w) C m k ps (spR X.K X.mg np R))(hj:Ct j X.A)(ho:DE X o fo)(hk:x0 (k ≤ j) xL)(hn:x0 (1=np) wv)(hxe:x0 (X.xe=λ_ _=>uO) wv)(hx:x0 (X.ex=[]) wv)(ht:x0 (eval (.Call (.Attribute o m apos) [] [] pos) X.env=(do
      let ov ← eval o X.env
      standAt apos.atName
      let (f, first) ← holding [ov] (getMethod ov m pl)
      callWith pos f first (backTo pos (rG [] X.env)) (backToKw pos (keywordEach [] X.env)))) wv) :
    RE X (.Call (.Attribute o m apos) [] [] pos) (MU C m R fo []):=⟨by
  intro pins s σ H Z I h
  have hr:Ct k X.A:=hj.mono hk
  obtain⟨Ca,f,fd,hC,cl,hm,hb,Fk⟩:=d.ex
  obtain⟨M,E,S,y,E',S',e0,r,st,q⟩:=h
  obtain⟨⟨d1,S1⟩,e1,e0⟩:=Af e0
  obtain⟨as,e2,e0⟩:=Af e0
  split at e0
  case isFalse => cases e0
  rename_i hno
  obtain⟨⟨y',S3⟩,e5,e6⟩:=IC e0
  cases e6
  refine vI (pl:=pl) (EY hxe (ho.pe pins s σ H (λv H1=>∃M1,Gr M H M1 H1/\StR X.K M1 S1 H1/\Be X.K M1 H1 v d1) I ⟨M,E,S,d1,S1,e1,r,st,λv H1 M1 g1 st1 r1=>⟨M1,g1,st1,r1⟩⟩) λu s1 z=>?_) ht
  obtain⟨v,H1,I1,rv,M1,g1,st1,r1⟩:=z
  obtain⟨a,dx,fv,rfl,h2,h3⟩:=Lq st1 r1 hC e2 hno
  obtain rfl:u=sA a:=rv
  refine GJ I1 h2 cl hm h3 ?_
  refine zv (first:=[.ref a]) I1.kIn hm.kp ?_
  have sp:spR X.K X.mg np R [.ref a] H1 (λ_ _=>uO) (λv od H'=>∃C,v = .ref C/\Z C od σ H') :=
    ⟨M1, [d1], S1, y', S3, hn, e5, .cons r1 .nil, st1, fun C od H' M' hc g3 st3 => ⟨C, rfl, q C od σ H' M' hc (g1.trans g3) ((r.step g1.st).step g3.st) st3⟩⟩
  have rv2:Vals [V.ref a] [sA a]:=.cons rfl .nil
  have hl:([sA a]++[]).length=ps.length:=by rw[sj,← rv2.length];exact Fk.len _ _ _ _ sp
  have hbs:=hb s1 [.ref a] I1.kIn hl
  rw [sj] at hbs
  refine wY (v9 (Fk.run X.A X.stack s1 H1 ⟨[.ref a], []⟩ [.ref a] [.ref a] _ _ hr I1.Yp hbs rv2 sp) fun rs s' hq => ?_)
  cases rs with
  | error ev =>
    obtain⟨e,C,od,H',rfl,os,bare,un,hok,fly,C',hC,z⟩:=hq
    cases hC
    exact ⟨e, C, od, σ, H', rfl, I1.UL os un hok bare (fun b z => nomatch z), z, fly.imp fun b z => EO I1 hx b z⟩
  | ok fl =>
    cases fl with
    | ret u =>
      obtain⟨v,H',_,_,_,_,_,q⟩:=hq
      exact q.elim
    | next => exact si hq
    | brk => exact si hq
    | cont => exact si hq⟩
end
noncomputable def Vu(C m:Str)(fo:Ev)(r:Rx):Rx:=λE S=>(fo E S).bind λa=>(Ib a.2 C a.1).bind λas=>if(as.lookup m).isNone=true then r E a.2 else none
section
variable{X:Cx}{k:Nat}{C m:Str}{ps:Wp Str}{o e:tF}{fo:Ev}{r:Rx}{pos apos:Pos}{pl:Sem su}{CX:CXT}{sp:Sp}
def bG (d:MeD X.prog X.w X.K X.mg X.base CX C m k ps sp)(ho:DE X o fo)(h1:RE X e r)(hxe:x0 (X.xe=λ_ _=>uO) wv)(he:x0 (rG [e] X.env=[(false,eval e X.env)]) wv)(ht:x0 (eval (.Call (.Attribute o m apos) [e] [] pos) X.env=(do
      let ov ← eval o X.env
      standAt apos.atName
      let (f, first) ← holding [ov] (getMethod ov m pl)
      callWith pos f first (backTo pos (rG [e] X.env)) (backToKw pos (keywordEach [] X.env)))) wv) :
    RE X (.Call (.Attribute o m apos) [e] [] pos) (Vu C m fo r):=⟨by
  intro pins s σ H Z I h
  obtain⟨Ca,f,fd,hC,cl,hm,hb,Fk⟩:=d.ex
  obtain⟨M,E,S,y,E',S',e0,rr,st,q⟩:=h
  obtain⟨⟨d1,S1⟩,e1,e0⟩:=Af e0
  obtain⟨as,e2,e0⟩:=Af e0
  split at e0
  case isFalse => cases e0
  rename_i hno
  refine vI (pl:=pl) (EY hxe (ho.pe pins s σ H (λv H1=>∃M1,Gr M H M1 H1/\StR X.K M1 S1 H1/\Be X.K M1 H1 v d1) I ⟨M,E,S,d1,S1,e1,rr,st,λv H1 M1 g1 st1 r1=>⟨M1,g1,st1,r1⟩⟩) λu s1 z=>?_) ht
  obtain⟨v,H1,I1,rv,M1,g1,st1,r1⟩:=z
  obtain⟨a,dx,fv,rfl,h2,h3⟩:=Lq st1 r1 hC e2 hno
  obtain rfl:u=sA a:=rv
  refine GJ I1 h2 cl hm h3 ?_
  refine uM (h₀:=X.base) I.ok.mod.kin hm.kp ?_ he (by rfl)
  rw [he]
  refine xS ?_
  exact tq (h1.pe pins s1 σ H1 Z I1 ⟨M1, E, S1, y, E', S', e0, rr.step g1.st, st1, fun C od σ' H' M' hm g st' => q C od σ' H' M' hm (g1.trans g) st'⟩) (fun _ _ z => z.elim) fun _ _ z => z⟩
end
section
noncomputable def FL:D:=.tup [.int 0,.int 1]
noncomputable def N0:D:=.tup [.int 1,.int 1]
noncomputable def BZ:D:=.tup [.str "bring",.str "pool",.str "swap",.str "trade"]
def Km:=Ag (Ff (eOp (o2 Qp) [eV 0,eC (.ty "int")]) (GP (eOp (o2 Qp) [eV 0,eC (.ty "bool")])))
def ET:=AS (AV 1 Km)
def LV:=Ag (Ff (AD ET [eV 0]) (eOp (o2 wGe) [eV 0,eV 1]))
def CZ:=AS (AV 2 LV)
def Gq:=Ag (Ff (AD CZ [eV 0,eV 1]) (eOp (o2 wLe) [eV 0,eV 2]))
def Al:=AS (AV 3 Gq)
def Ed:=AN (UP 0 1 (eOp (o1 cY) [eV 0]) (eOp (o1 cY) [eV 1])) (AN (JM (UY 1) (eOp (o2 wNe) [eV 1,eI 0]) (UP 0 1 (eV 1) (eOp (o2 Pm) [eV 0,eV 1]))) (Ag (eV 0)))
def BY:=AS (AV 2 Ed)
def NS:=AN (BN 2 (AD BY [eV 0,eV 1])) (Ag (Bn [eOp (o2 MT) [eV 0,eV 2],eOp (o2 MT) [eV 1,eV 2]]))
def Ck:=AS (AV 3 NS)
def Q1:=Ag (AD Ck [eOp (o2 Cy) [eOp (o2 CO) [eIx (eV 0) (eI 0),eIx (eV 1) (eI 1)],eOp (o2 CO) [eIx (eV 1) (eI 0),eIx (eV 0) (eI 1)]],eOp (o2 CO) [eIx (eV 0) (eI 1),eIx (eV 1) (eI 1)]])
def Fh:=AS (AV 2 Q1)
def RM:=Ag (AD Ck [eOp (o2 OO) [eOp (o2 CO) [eIx (eV 0) (eI 0),eIx (eV 1) (eI 1)],eOp (o2 CO) [eIx (eV 1) (eI 0),eIx (eV 0) (eI 1)]],eOp (o2 CO) [eIx (eV 0) (eI 1),eIx (eV 1) (eI 1)]])
def Dv:=AS (AV 2 RM)
def OT:=Ag (AD Ck [eOp (o2 CO) [eIx (eV 0) (eI 0),eIx (eV 1) (eI 0)],eOp (o2 CO) [eIx (eV 0) (eI 1),eIx (eV 1) (eI 1)]])
def CL:=AS (AV 2 OT)
def Pg:=AN (BN 4 (eOp (o2 Cy) [eOp (o2 CO) [eOp (o2 CO) [eIx (eV 0) (eI 0),eIx (eV 2) (eI 1)],eV 1],eOp (o2 CO) [eOp (o2 CO) [eIx (eV 2) (eI 0),eIx (eV 0) (eI 1)],eV 3]])) (Ag (AD Ck [eV 4,eOp (o2 CO) [eOp (o2 CO) [eIx (eV 0) (eI 1),eIx (eV 2) (eI 1)],eOp (o2 Cy) [eV 1,eV 3]]]))
def HR:=AS (AV 5 Pg)
def F1:=Ag (Ff (eOp (o2 wLt) [eV 1,eOp (o1 Cv) [eV 0]]) (eOp (o2 wGe) [eIx (eIx (eV 0) (eV 1)) (eI 1),eV 2]))
def Bc:=AS (AV 3 F1)
def Fo:=Ag (Ff (AD Bc [eV 0,eV 1,eI 1]) (Ff (AD Bc [eV 0,eV 2,eI 1]) (eOp (o2 wEq) [eIx (eIx (eV 0) (eV 1)) (eI 0),eIx (eIx (eV 0) (eV 2)) (eI 0)])))
def DP:=AS (AV 3 Fo)
def Hi:=Ag (Ff (AD Bc [eV 0,eV 1,eV 2]) (eOp (o2 wNe) [eIx (eIx (eV 0) (eV 1)) (eI 0),eV 3]))
def DV:=AS (AV 4 Hi)
def DY:=AN (BN 3 (eIx (eV 2) (eI 0))) (AN (xIf (eOp (o2 wEq) [eV 3,eC (.str "pool")]) (Ag (AD DP [eV 0,eIx (eV 2) (eI 1),eIx (eV 2) (eI 2)])) Bb) (AN (xIf (eOp (o2 wEq) [eV 3,eC (.str "swap")]) (Ag (AD DV [eV 0,eIx (eV 2) (eI 1),eIx (eV 2) (eI 2),eIx (eV 2) (eI 3)])) Bb) (AN (xIf (eOp (o2 wEq) [eV 3,eC (.str "trade")]) (AN (BN 4 (B8 [] 1 (GO (eV 1)) (tNm 0) (eOp (o2 wEq) [eIx (eV 0) (eI 0),eC (.str "trade")]) (eIx (eV 0) (eI 1)))) (Ag (Ff (eOp (o2 (wIn true)) [eIx (eV 2) (eI 1),eV 4]) (AD DV [eV 0,eIx (eV 2) (eI 2),eIx (eV 2) (eI 3),eIx (eV 2) (eI 4)])))) Bb) (AN (xIf (eOp (o2 (wIn false)) [eV 3,Bn [eC (.str "spoil"),eC (.str "throw")]]) (Ag (AD Bc [eV 0,eIx (eV 2) (eI 1),eIx (eV 2) (eI 2)])) Bb) (Ag (eC (.bl true)))))))
def B3:=AS (AV 5 DY)
def G7:=AN (Jn (tTp [tNm 3,tNm 4]) (eIx (eV 0) (eV 1))) (Ag (eOp (o2 Cy) [eOp (o2 Cy) [eOp (MP false true) [eV 0,eV 1],Kx [Bn [eV 3,eOp (o2 OO) [eV 4,eV 2]]]],eOp (MP true false) [eV 0,eOp (o2 Cy) [eV 1,eI 1]]]))
def BU:=AS (AV 5 G7)
def BQ:=AN (BN 2 (eIx (eV 1) (eI 0))) (AN (xIf (eOp (o2 wEq) [eV 2,eC (.str "bring")]) (Ag (eOp (o2 Cy) [eV 0,Kx [Bn [eIx (eV 1) (eI 2),eIx (eV 1) (eI 3)]]])) Bb) (AN (xIf (eOp (o2 wEq) [eV 2,eC (.str "pool")]) (AN (Jn (tTp [tNm 3,tNm 4]) (eIx (eV 0) (eIx (eV 1) (eI 1)))) (AN (BN 5 (eIx (eIx (eV 0) (eIx (eV 1) (eI 2))) (eI 1))) (Ag (eOp (o2 Cy) [AD BU [AD BU [eV 0,eIx (eV 1) (eI 1),eV 4],eIx (eV 1) (eI 2),eV 5],Kx [Bn [eV 3,eOp (o2 Cy) [eV 4,eV 5]]]])))) Bb) (AN (xIf (eOp (o2 (wIn false)) [eV 2,Bn [eC (.str "swap"),eC (.str "trade")]]) (AN (Jn (tTp [tNm 6,tNm 7,tNm 3,tNm 8]) (eOp (MP true false) [eV 1,eOp (o1 LZ) [eI 4]])) (Ag (eOp (o2 Cy) [AD BU [eV 0,eV 6,eV 7],Kx [Bn [eV 3,eV 8]]]))) Bb) (AN (xIf (eOp (o2 (wIn false)) [eV 2,Bn [eC (.str "spoil"),eC (.str "throw")]]) (Ag (AD BU [eV 0,eIx (eV 1) (eI 1),eIx (eV 1) (eI 2)])) Bb) (Ag (eV 0))))))
def Aa:=AS (AV 9 BQ)
def GI:=Ag (B8 [] 1 (GO (eIx (eV 0) (eI 1))) (tNm 0) BX (Bn [eIx (eV 0) (eI 0),eIx (eV 0) (eI 1)]))
def Bg:=AS (AV 1 GI)
def Di:=AN (BN 1 (eIx (eV 0) (eI 0))) (AN (xIf (eOp (o2 wEq) [eV 1,eC (.str "pool")]) (Ag (eOp (o1 Nq) [Kx [eIx (eV 0) (eI 1),eIx (eV 0) (eI 2)]])) Bb) (AN (xIf (eOp (o2 (wIn false)) [eV 1,Bn [eC (.str "swap"),eC (.str "trade")]]) (Ag (Kx [eIx (eV 0) (eOp (o1 LZ) [eI 4])])) Bb) (Ag (Kx []))))
def Bt:=AS (AV 2 Di)
def Hk:=AN (BN 1 (AD Bg [eV 0])) (AN (BN 2 (eIx (eV 0) (eI 2))) (AN (NJ (cM (eV 2)) (tTp [tNm 3,tNm 4]) (AN (xIf (GP (AD B3 [eV 1,eOp (MP false true) [eV 2,eV 3],eV 4])) (Ag (eV 3)) Bb) (BN 1 (AD Aa [eV 1,eV 4])))) (Ag (eC .non))))
def Ds:=AS (AV 5 Hk)
def F7:=AN (BN 1 (AD Ds [eV 0])) (xIf (eOp (o2 (XB true)) [eV 1,eC .non]) Bj Bb)
def Ai:=AS (AV 2 F7)
def IM:=Ag (eOp (o1 DO) [B8 [1] 1 (Sk [eV 0]) (tNm 1) BX (eIf (eOp (o2 wEq) [eV 1,eV 0]) (eC N0) (eC FL))])
def ED:=AS (AV 2 IM)
def G8:=Ag (eOp (o1 DO) [B8 [1,3] 2 (Sn (eV 0) (eV 2)) (tTp [tNm 2,tNm 3]) BX (AD HR [eV 2,eV 0,eV 3,eV 1])])
def BV:=AS (AV 4 G8)
def Ce:=AN (BN 3 (AD Bt [eV 2])) (AN (xIf (eOp (o2 wEq) [eOp (o1 Cv) [eV 3],eI 1]) (Ag (eIx (eV 1) (eIx (eV 3) (eI 0)))) Bb) (AN (Jn (tTp [tNm 4,tNm 5]) (eV 3)) (Ag (AD BV [eIx (eV 1) (eV 4),eIx (eIx (eV 0) (eV 4)) (eI 1),eIx (eV 1) (eV 5),eIx (eIx (eV 0) (eV 5)) (eI 1)]))))
def BD:=AS (AV 6 Ce)
def G6:=Ag (eOp (o2 Cy) [eOp (o1 Wq) [B8 [2] 2 (GO (eV 1)) (tTp [tNm 1,tNm 2]) BX (eOp (o2 CO) [eV 2,eIx (eV 0) (eV 1)])],eOp (o2 CO) [eIx (eV 0) (eI 2),eIx (eV 2) (eOp (o1 LZ) [eI 1])]])
def DC:=AS (AV 3 G6)
def HJ:=AN (Jn (tTp [tNm 3,tNm 4,tNm 5]) (eOp (MP true false) [eV 2,eI 1])) (Ag (AD Ck [eOp (o2 CO) [eV 4,eIx (eV 5) (eIx (eIx (eV 1) (eV 3)) (eI 0))],AD DC [eV 0,eV 1,eV 5]]))
def Dp:=AS (AV 6 HJ)
def GG:=AN (Jn (tTp [tNm 5,tNm 6]) (AD Dp [eV 0,eV 1,eV 3])) (Ag (AD BV [eV 4,eOp (o2 OO) [eV 6,eV 5],eIx (eV 2) (eIx (eV 3) (eI 1)),eV 5]))
def Cr:=AS (AV 7 GG)
def He:=AN (Jn (tTp [tNm 2,tNm 3,tNm 4]) (eOp (MP true false) [eV 0,eI 1])) (AN (BN 5 (AD CL [eIx (eV 1) (eV 2),eV 4])) (AN (BN 6 (WC (o1 Jy) [eV 1])) (AN (M9 (AD Dv [eIx (eV 1) (eV 2),eV 5]) (eV 6) (eV 2)) (AN (M9 (AD Fh [eIx (eV 1) (eV 3),eV 5]) (eV 6) (eV 3)) (Ag (eOp (o1 DO) [eV 6]))))))
def Dm:=AS (AV 7 He)
def Az:=AN (xIf (eOp (o2 wEq) [eIx (eV 3) (eI 0),eC (.str "throw")]) (Ag (AD Cr [eV 0,eV 1,eV 2,eV 3,eV 4])) Bb) (AN (xIf (eOp (o2 wEq) [eIx (eV 3) (eI 0),eC (.str "sell")]) (Ag (AD Dm [eV 3,eV 4])) Bb) (Ag (eV 4)))
def AX:=AS (AV 5 Az)
def A9:=AN (BN 4 (B8 [0,1,2,3] 1 (GO (eV 2)) (tNm 4) BX (AD AX [eV 0,eV 1,eV 2,eV 3,eV 4]))) (AN (xIf (eOp (o2 wEq) [eIx (eV 3) (eI 0),eC (.str "bring")]) (Ag (eOp (o2 Cy) [eV 4,Kx [AD ED [eIx (eV 0) (eI 0),eIx (eV 3) (eI 1)]]])) Bb) (AN (xIf (eOp (o2 (wIn false)) [eIx (eV 3) (eI 0),eC BZ]) (Ag (eOp (o2 Cy) [eV 4,Kx [AD BD [eV 1,eV 2,eV 3]]])) Bb) (Ag (eV 4))))
def Ah:=AS (AV 5 A9)
def Kc:=AN (Jn (tTp [tNm 2,tNm 3,tNm 4]) (eV 0)) (AN (BN 5 (AD Bg [eV 0])) (AN (BN 6 (B8 [] 1 (GO (eV 3)) (tNm 0) BX (eIx (eV 0) (eI 2)))) (AN (BN 7 (eIx (eV 2) (eI 3))) (AN (NJ (GO (eOp (MP false true) [eV 4,eV 1])) (tNm 8) (AN (BN 7 (AD AX [eV 2,eV 5,eV 6,eV 8,eV 7])) (AN (BN 6 (AD Ah [eV 2,eV 5,eV 6,eV 8])) (BN 5 (AD Aa [eV 5,eV 8]))))) (Ag (Bn [eV 5,eV 6,eV 7]))))))
def EI:=AS (AV 9 Kc)
def Gv:=AN (xIf (eOp (o2 wLt) [eV 1,eOp (o1 Cv) [eV 0]]) (Ag (eIx (eV 0) (eV 1))) Bb) (Ag (eI 0))
def CC:=AS (AV 2 Gv)
def Oo:=Ag (FC [eV 0,eOp (o1 ZU) [eOp (o2 wGe) [eV 0,eOp (o2 jE) [eI 10,eI 18]]],eI 0,eOp (o2 Pm) [eV 0,eI 1000000007]])
def Ha:=AS (AV 1 Oo)
def IA:=AN (xIf (Ff (eOp (o2 wEq) [eIx (eV 0) (eI 1),eI 1]) (eOp (o2 wGt) [eIx (eV 0) (eI 0),eI 0])) (AN (BN 2 (eOp (o2 Pm) [eIx (eV 0) (eI 0),eV 1])) (AN (M9 (eOp (o2 MT) [eIx (eV 0) (eI 0),eV 1]) (eV 0) (eI 0)) (Ag (eV 2)))) Bb) (AN (M9 (eOp (o2 Cy) [eIx (eV 0) (eI 2),eI 1]) (eV 0) (eI 2)) (AN (BN 3 (eOp (o2 Pm) [eOp (o2 CO) [eOp (o2 Cy) [eIx (eV 0) (eI 3),eI 17],eOp (o2 Cy) [eI 69621,eOp (o2 CO) [eI 2,eIx (eV 0) (eI 2)]]],eI 2147483647])) (AN (BN 3 (eOp (o2 Pm) [eOp (o2 Cy) [eOp (o2 Cy) [eOp (o2 CO) [eV 3,eV 3],eOp (o2 CO) [eI 40503,eIx (eV 0) (eI 2)]],eI 5],eI 2147483629])) (Ag (eOp (o2 Pm) [eOp (o2 MT) [eOp (o2 Pm) [eOp (o2 CO) [eV 3,eI 48271],eI 2147483647],eI 32],eV 1])))))
def AF:=AS (AV 4 IA)
def Ka:=AN (JM (UY 1) (eOp (o2 wGt) [eV 1,eI 0]) (UP 0 1 (eV 1) (eOp (o2 Pm) [eV 0,eV 1]))) (Ag (eV 0))
def Fv:=AS (AV 2 Ka)
def NR:=AN (BN 2 (AD Fv [eOp (o1 cY) [eV 0],eV 1])) (Ag (Bn [eOp (o2 MT) [eV 0,eV 2],eOp (o2 MT) [eV 1,eV 2]]))
def Bd:=AS (AV 3 NR)
def Mg:=Ag (AD Bd [eOp (o2 Cy) [eOp (o2 CO) [eIx (eV 0) (eI 0),eIx (eV 1) (eI 1)],eOp (o2 CO) [eIx (eV 1) (eI 0),eIx (eV 0) (eI 1)]],eOp (o2 CO) [eIx (eV 0) (eI 1),eIx (eV 1) (eI 1)]])
def B7:=AS (AV 2 Mg)
def L3:=Ag (AD Bd [eOp (o2 CO) [eIx (eV 0) (eI 0),eIx (eV 1) (eI 0)],eOp (o2 CO) [eIx (eV 0) (eI 1),eIx (eV 1) (eI 1)]])
def Ap:=AS (AV 2 L3)
def NG:=Ag (AD B7 [eV 0,Bn [eOp (o2 OO) [eI 0,eIx (eV 1) (eI 0)],eIx (eV 1) (eI 1)]])
def DZ:=AS (AV 2 NG)
def Iq:=AN (BN 2 (Y8 [0] 1 (Sk [eV 1]) (tNm 1) BX (eIx (Kx [eI 0,eI 1,AD AF [eV 0,eI 4],AD AF [eV 0,eI 9]]) (AD AF [eV 0,eI 4])))) (AN (xIf (eOp (o2 wEq) [eOp (o1 Wq) [eV 2],eI 0]) (M9 (eI 1) (eV 2) (AD AF [eV 0,eV 1])) Bb) (Ag (eOp (o1 DO) [B8 [2] 1 (GO (eV 2)) (tNm 1) BX (AD Bd [eV 1,eOp (o1 Wq) [eV 0]])])))
def DM:=AS (AV 3 Iq)
def HV:=AN (BN 1 (eOp (o2 Cy) [eOp (o2 jE) [eI 10,eI 30],AD AF [eV 0,eI 99]])) (Ag (eIx (Kx [eOp (o2 Cy) [eI 1,AD AF [eV 0,eI 4]],eOp (o2 Cy) [eI 1,AD AF [eV 0,eI 40]],eOp (o2 Cy) [eI 1,AD AF [eV 0,eI 999]],eV 1]) (eOp (o2 MT) [AD AF [eV 0,eI 7],eI 2])))
def BE:=AS (AV 2 HV)
def Ly:=AN (UP 1 2 (eOp (o2 Cy) [eI 1,AD AF [eV 0,eI 4]]) (eOp (o2 Cy) [eI 1,AD AF [eV 0,eI 5]])) (AN (BN 3 (eIx (Kx [eOp (o2 Cy) [eI 1,AD AF [eV 0,eI 3]],eOp (o2 Cy) [eI 1,AD AF [eV 0,eI 20]]]) (AD AF [eV 0,eI 2]))) (Ag (Bn [eV 1,eV 2,eV 3,AD DM [eV 0,eV 1],AD AF [eV 0,eI 10],AD AF [eV 0,eI 10]])))
def Gm:=AS (AV 4 Ly)
def ME:=AN (BN 2 (FC [])) (AN (NJ (Sk [eIx (Kx [eI 0,eI 1,AD AF [eV 0,eI 5]]) (AD AF [eV 0,eI 3])]) (tNm 3) (BP (HG J4 (eV 2) [Bn [AD AF [eV 0,eIx (eV 1) (eI 1)],AD BE [eV 0],AD DM [eV 0,eIx (eV 1) (eI 0)]]]))) (Ag (eOp (o1 DO) [eV 2])))
def GY:=AS (AV 4 ME)
def Le:=AN (BN 1 (eOp (o2 Cy) [eI 1,AD AF [eV 0,eI 12]])) (Ag (AD Bd [eOp (o2 Cy) [eI 1,AD AF [eV 0,eV 1]],eV 1]))
def FX:=AS (AV 2 Le)
def Ke:=Ag (eOp (o1 DO) [B8 [0] 1 (Sk [eV 1]) (tNm 1) BX (eOp (o2 Cy) [eI 1,eIx (Kx [AD AF [eV 0,eI 3],AD AF [eV 0,eI 99]]) (AD AF [eV 0,eI 2])])])
def Dc:=AS (AV 2 Ke)
def LX:=Ag (FC [Y8 [] 1 (GO (eIx (eV 0) (eI 1))) (tNm 0) BX (WC (o1 Jy) [eV 0]),eOp (o1 DO) [eIx (eIx (eV 0) (eI 0)) (eI 3)],FC []])
def FQ:=AS (AV 1 LX)
def Kb:=AN (BN 2 (FC [])) (AN (NJ (Sn (eIx (eV 0) (eI 2)) (eIx (eV 1) (eI 2))) (tTp [tNm 3,tNm 4]) (AN (BN 5 (AD B7 [AD Ap [Bn [eIx (eV 0) (eI 1),eI 1],eV 3],AD Ap [Bn [eIx (eV 1) (eI 1),eI 1],eV 4]])) (BP (HG J4 (eV 2) [AD Ap [eV 5,AD Bd [eI 1,eOp (o2 Cy) [eIx (eV 0) (eI 1),eIx (eV 1) (eI 1)]]]])))) (Ag (eOp (o1 DO) [eV 2])))
def Fm:=AS (AV 6 Kb)
def Ml:=AN (BN 3 (eIx (eV 2) (eI 3))) (AN (BN 4 (eOp (o2 Cy) [eOp (o1 Wq) [B8 [3] 3 (GO (eV 1)) (tTp [tNm 1,tNm 2,tNm 3]) BX (eOp (o2 CO) [eV 2,eIx (eV 0) (eV 1)])],eOp (o2 CO) [eIx (eV 0) (eI 2),eIx (eV 3) (eOp (o1 LZ) [eI 1])]])) (Ag (AD Bd [eOp (o2 CO) [eIx (eV 2) (eI 2),eIx (eV 3) (eIx (eIx (eV 1) (eIx (eV 2) (eI 1))) (eI 0))],eV 4])))
def Ht:=AS (AV 5 Ml)
def Lc:=AN (BN 3 (FC [])) (AN (NJ (Sn (eV 0) (eV 2)) (tTp [tNm 4,tNm 5]) (BP (HG J4 (eV 3) [AD B7 [AD Ap [eV 4,AD DZ [Bn [eI 1,eI 1],eV 1]],AD Ap [eV 5,eV 1]]]))) (Ag (eOp (o1 DO) [eV 3])))
def D7:=AS (AV 6 Lc)
def NQ:=AN (BN 2 (WC (o1 Jy) [eV 0])) (AN (BN 3 (AD Ap [eIx (eV 2) (eIx (eV 1) (eI 1)),eIx (eV 1) (eI 3)])) (AN (M9 (AD DZ [eIx (eV 2) (eIx (eV 1) (eI 1)),eV 3]) (eV 2) (eIx (eV 1) (eI 1))) (AN (M9 (AD B7 [eIx (eV 2) (eIx (eV 1) (eI 2)),eV 3]) (eV 2) (eIx (eV 1) (eI 2))) (Ag (eOp (o1 DO) [eV 2])))))
def Es:=AS (AV 4 NQ)
def Ju:=AN (Jn (tTp [tNm 3,tNm 4,tNm 5]) (eV 1)) (xIf (eOp (o2 wEq) [eIx (eV 2) (eI 0),eC (.str "throw")]) (AN (UP 6 7 (AD Ht [eV 0,eV 3,eV 2]) (eIx (eIx (eV 3) (eIx (eV 2) (eI 1))) (eI 2))) (AN (M9 (eOp (o2 OO) [eIx (eIx (eV 3) (eIx (eV 2) (eI 1))) (eI 1),eIx (eV 2) (eI 2)]) (eIx (eV 3) (eIx (eV 2) (eI 1))) (eI 1)) (AN (NJ (GO (eV 3)) (tNm 8) (M9 (AD D7 [eIx (eV 8) (eI 2),eV 6,eV 7]) (eV 8) (eI 2))) (M9 (AD D7 [eV 4,eV 6,eV 7]) (eV 1) (eI 1))))) (AN (NJ (GO (eV 3)) (tNm 8) (M9 (AD Es [eIx (eV 8) (eI 2),eV 2]) (eV 8) (eI 2))) (M9 (AD Es [eV 4,eV 2]) (eV 1) (eI 1))))
def Et:=AS (AV 9 Ju)
def Fj:=AN (Jn (tTp [tNm 3,tNm 4,tNm 5]) (eV 1)) (AN (BN 6 (eIx (eV 2) (eI 0))) (xIf (eOp (o2 wEq) [eV 6,eC (.str "bring")]) (BP (HG J4 (eV 3) [FC [eIx (eV 2) (eI 2),eIx (eV 2) (eI 3),eOp (o1 DO) [B8 [2] 1 (Sk [eIx (eV 0) (eI 0)]) (tNm 1) BX (Bn [eOp (o1 ZU) [eOp (o2 wEq) [eV 1,eIx (eV 0) (eI 1)]],eI 1])]]])) (xIf (eOp (o2 wEq) [eV 6,eC (.str "pool")]) (AN (UP 7 8 (eIx (eV 3) (eIx (eV 2) (eI 1))) (eIx (eV 3) (eIx (eV 2) (eI 2)))) (AN (BP (HG J4 (eV 3) [FC [eIx (eV 7) (eI 0),eOp (o2 Cy) [eIx (eV 7) (eI 1),eIx (eV 8) (eI 1)],AD Fm [eV 7,eV 8]]])) (AN (M9 (eI 0) (eV 7) (eI 1)) (M9 (eI 0) (eV 8) (eI 1))))) (xIf (eOp (o2 (wIn false)) [eV 6,Bn [eC (.str "swap"),eC (.str "trade")]]) (AN (Jn (tTp [tNm 9,tNm 10,tNm 11,tNm 12]) (eOp (MP true false) [eV 2,eOp (o1 LZ) [eI 4]])) (AN (M9 (eOp (o2 OO) [eIx (eIx (eV 3) (eV 9)) (eI 1),eV 10]) (eIx (eV 3) (eV 9)) (eI 1)) (AN (BP (HG J4 (eV 3) [FC [eV 11,eV 12,eIx (eIx (eV 3) (eV 9)) (eI 2)]])) (BP (HG je (eV 5) [eOp (o2 CO) [eOp (MP true true) [eV 2,eI 1,eI 2],eOp (o1 ZU) [eOp (o2 wEq) [eV 6,eC (.str "trade")]]]]))))) (xIf (eOp (o2 wEq) [eV 6,eC (.str "spoil")]) (M9 (eOp (o2 OO) [eIx (eIx (eV 3) (eIx (eV 2) (eI 1))) (eI 1),eIx (eV 2) (eI 2)]) (eIx (eV 3) (eIx (eV 2) (eI 1))) (eI 1)) (BP (AD Et [eV 0,eV 1,eV 2])))))))
def Dw:=AS (AV 13 Fj)
def Mm:=AN (Jn (tTp [tNm 3,tNm 4,tNm 5]) (eV 2)) (AN (BN 6 (B8 [] 2 (cM (eV 3)) (tTp [tNm 0,tNm 1]) (eOp (o2 wGt) [eIx (eV 1) (eI 1),eI 0]) (eV 0))) (AN (BN 7 (AD AF [eV 0,eI 12])) (AN (xIf (eOr (eOp (o2 wLt) [eV 7,eI 2]) (eOp (o2 wEq) [eV 6,Kx []])) (Ag (Bn [eC (.str "bring"),AD AF [eV 0,eIx (eV 1) (eI 0)],AD AF [eV 0,eIx (eV 1) (eI 1)],AD BE [eV 0]])) Bb) (AN (BN 8 (eIx (eV 6) (AD AF [eV 0,eOp (o1 Cv) [eV 6]]))) (AN (BN 9 (eOp (o2 Cy) [eI 1,AD AF [eV 0,eOp (o2 i6) [eIx (eIx (eV 3) (eV 8)) (eI 1),eI 2000]]])) (AN (xIf (eOp (o2 wLt) [eV 7,eI 5]) (AN (BN 10 (B8 [3,8] 1 (GO (eV 6)) (tNm 2) (Ff (eOp (o2 wNe) [eV 2,eV 1]) (eOp (o2 wEq) [eIx (eIx (eV 0) (eV 2)) (eI 0),eIx (eIx (eV 0) (eV 1)) (eI 0)])) (eV 2))) (xIf (eOp (o2 wNe) [eV 10,Kx []]) (Ag (Bn [eC (.str "pool"),eV 8,eIx (eV 10) (AD AF [eV 0,eOp (o1 Cv) [eV 10]])])) Bb)) Bb) (AN (xIf (Ff (eOp (o2 wLt) [eV 7,eI 8]) (eOp (o2 wGt) [eIx (eV 1) (eI 1),eI 1])) (AN (BN 11 (eOp (o2 Pm) [eOp (o2 Cy) [eOp (o2 Cy) [eIx (eIx (eV 3) (eV 8)) (eI 0),eI 1],AD AF [eV 0,eOp (o2 OO) [eIx (eV 1) (eI 1),eI 1]]],eIx (eV 1) (eI 1)])) (AN (BN 12 (B8 [5] 1 (Sk [eI 10]) (tNm 1) (eOp (o2 (wIn true)) [eV 1,eV 0]) (eV 1))) (AN (xIf (Ff (eOp (o2 wEq) [eV 7,eI 7]) (eOp (o2 wNe) [eV 12,Kx []])) (Ag (Bn [eC (.str "trade"),eIx (eV 12) (AD AF [eV 0,eOp (o1 Cv) [eV 12]]),eV 8,eV 9,eV 11,AD BE [eV 0]])) Bb) (Ag (Bn [eC (.str "swap"),eV 8,eV 9,eV 11,AD BE [eV 0]]))))) Bb) (AN (xIf (eOp (o2 wEq) [eV 7,eI 8]) (Ag (Bn [eC (.str "spoil"),eV 8,eV 9])) Bb) (AN (xIf (Ff (eOp (o2 wEq) [eV 7,eI 9]) (eOp (o2 wGt) [eIx (eV 1) (eI 0),eI 1])) (AN (BN 13 (AD AF [eV 0,eIx (eV 1) (eI 0)])) (Ag (Bn [eC (.str "sell"),eV 13,eOp (o2 Pm) [eOp (o2 Cy) [eOp (o2 Cy) [eV 13,eI 1],AD AF [eV 0,eOp (o2 OO) [eIx (eV 1) (eI 0),eI 1]]],eIx (eV 1) (eI 0)],AD FX [eV 0]]))) Bb) (Ag (Bn [eC (.str "throw"),eV 8,eV 9,AD Dc [eV 0,eOp (o2 Cy) [eIx (eV 1) (eI 1),eI 1]]])))))))))))
def DX:=AS (AV 14 Mm)
def Lh:=AN (BN 1 (AD Gm [eV 0])) (Ag (Bn [eV 1,AD GY [eV 0,eV 1]]))
def FI:=AS (AV 2 Lh)
def Mv:=AN (BN 2 (AD FQ [eV 1])) (AN (NJ (GO (eIx (eV 1) (eI 2))) (tNm 3) (BP (AD Dw [eIx (eV 1) (eI 0),eV 2,eV 3]))) (Ag (AD DX [eV 0,eIx (eV 1) (eI 0),eV 2])))
def GH:=AS (AV 4 Mv)
def JS:=AN (xIf (Ff (eOp (o2 wEq) [eIx (eV 1) (eI 0),eC (.str "throw")]) (eOp (o2 wEq) [eOp (o1 Cv) [B8 [] 1 (GO (eIx (eV 0) (eI 2))) (tNm 0) (eOp (o2 wEq) [eIx (eV 0) (eI 0),eC (.str "throw")]) (eV 0)],eI 3])) (Ag (eC (.str "many"))) Bb) (AN (xIf (eOp (o2 (wIn false)) [eIx (eV 1) (eI 0),Bn [eC (.str "bring"),eC (.str "pool"),eC (.str "swap"),eC (.str "trade")]]) (Ag (eOp (o2 Cy) [eOp (o1 Cv) [eIx (eV 0) (eI 1)],eOp (o1 Cv) [B8 [] 1 (GO (eIx (eV 0) (eI 2))) (tNm 0) (eOp (o2 (wIn false)) [eIx (eV 0) (eI 0),Bn [eC (.str "bring"),eC (.str "pool"),eC (.str "swap"),eC (.str "trade")]]) (eV 0)]])) Bb) (Ag (eC .non)))
def Bp:=AS (AV 2 JS)
def NH:=Ag (eOp (o2 Cy) [eOp (MP false true) [eV 0,eI 2],Bn [eOp (o2 Cy) [eIx (eV 0) (eI 2),Bn [eV 1]]]])
def F9:=AS (AV 2 NH)
def Hj:=Ag (Fx "Leader" "kept" (eV 0))
def Ar:=AS (AV 1 Hj)
def Fg:=AN (BP (HG J4 (Fx "Leader" "earlier" (eV 0)) [Fx "Leader" "kept" (eV 0)])) (Qa "Leader" "kept" (eV 0) (eV 1))
def Ak:=AS (AV 2 Fg)
def IG:=Ag (AD CZ [eV 1,eI 1])
def EB:=AS (AV 2 IG)
def CU:=Ag (Ff (eOp (o2 Qp) [eV 0,eC (.ty "tuple")]) (eOp (o2 wEq) [eOp (o1 Cv) [eV 0],eV 1]))
def Aj:=AS (AV 2 CU)
def IS:=Ag (Ff (AD Aj [eV 0,eV 1]) (eOp (o1 WK) [B8 [] 1 (GO (eV 0)) (tNm 0) BX (AD Al [eV 0,eI 1,eI 99])]))
def D9:=AS (AV 2 IS)
def IQ:=Ag (AD D9 [eV 1,eOp (o2 Cy) [eIx (eV 0) (eI 1),eI 1]])
def EC:=AS (AV 2 IQ)
def Ii:=Ag (AD Al [eV 1,eI 0,eOp (o2 OO) [eIx (eV 0) (eI 1),eI 1]])
def DF:=AS (AV 2 Ii)
def Fs:=Ag (AD CZ [eV 1,eI 0])
def CP:=AS (AV 2 Fs)
def II:=Ag (AD Al [eV 1,eI 0,eOp (o2 OO) [eIx (eV 0) (eI 0),eI 1]])
def EA:=AS (AV 2 II)
def JR:=AN (xIf (eOr (GP (eOp (o2 Qp) [eV 0,eC (.ty "tuple")])) (eOp (o2 wNe) [eOp (o1 Cv) [eV 0],eI 2])) (Ag (eC (.bl false))) Bb) (AN (Jn (tTp [tNm 1,tNm 2]) (eV 0)) (Ag (Ff (AD ET [eV 1]) (Ff (AD CZ [eV 2,eI 1]) (eOp (o2 wEq) [AD BY [eV 1,eV 2],eI 1])))))
def Ek:=AS (AV 3 JR)
def Kf:=Ag (Ff (AD Ek [eV 0]) (Ru (eI 0) (eIx (eV 0) (eI 0)) (eIx (eV 0) (eI 1))))
def Cg:=AS (AV 1 Kf)
def F4:=Ag (Ff (AD Cg [eV 1]) (Ff (eOp (o2 wGt) [eIx (eV 1) (eI 0),eI 0]) (eOp (o2 wLe) [eIx (eV 1) (eI 1),eI 12])))
def Cs:=AS (AV 2 F4)
def FD:=Ag (AD Al [eV 1,eI 0,eI 9])
def CI:=AS (AV 2 FD)
def Eo:Wp (Str×Fn):=[("partner",EA),("kind",DF),("load",CP),("number",CI),("pieces",EB),("worths",EC),("share",Cs)]
def Cc:=dF Eo 3 1 [eV 0,eV 2]
def An:=AS (AV 4 Cc)
noncomputable def EW:Wp (Str×D):=[("bring",.tup [.str "partner",.str "kind",.str "pieces"]),("pool",.tup [.str "load",.str "load"]),("swap",.tup [.str "load",.str "pieces",.str "kind",.str "pieces"]),("trade",.tup [.str "number",.str "load",.str "pieces",.str "kind",.str "pieces"]),("spoil",.tup [.str "load",.str "pieces"]),("throw",.tup [.str "load",.str "pieces",.str "worths"]),("sell",.tup [.str "partner",.str "partner",.str "share"])]
noncomputable def Bz:D:=.tup [.str "pool",.str "sell"]
def LN:=AN (xIf (eOr (GP (eOp (o2 Qp) [eV 1,eC (.ty "tuple")])) (eOp (o2 wEq) [eOp (o1 Cv) [eV 1],eI 0])) (Ag (eC (.bl false))) Bb) (AN (BN 2 (eIx (eV 1) (eI 0))) (AN (xIf (eOr (GP (eOp (o2 Qp) [eV 2,eC (.ty "str")])) (eOp (o1 (Mq true EW)) [eV 2])) (Ag (eC (.bl false))) Bb) (AN (BN 3 (eOp (o1 (di EW)) [eV 2])) (AN (xIf (eOp (o2 wNe) [eOp (o1 Cv) [eV 1],eOp (o2 Cy) [eOp (o1 Cv) [eV 3],eI 1]]) (Ag (eC (.bl false))) Bb) (AN (xIf (GP (eOp (o1 WK) [B8 [0,1] 2 (cM (eV 3)) (tTp [tNm 2,tNm 3]) BX (AD An [eV 0,eV 3,eIx (eV 1) (eOp (o2 Cy) [eV 2,eI 1])])])) (Ag (eC (.bl false))) Bb) (Ag (eOr (eOp (o2 (wIn true)) [eV 2,eC Bz]) (eOp (o2 wNe) [eIx (eV 1) (eI 1),eIx (eV 1) (eI 2)]))))))))
def BJ:=AS (AV 4 LN)
noncomputable def Ft:D:=.int 20
noncomputable def Em:D:=.int 3
def Gj:=AN (xIf (eOr (GP (eOp (o2 Qp) [eV 1,eC (.ty "tuple")])) (eOp (o2 wGt) [eOp (o1 Cv) [eV 1],eC Ft])) (Ag (eC (.bl false))) Bb) (AN (xIf (GP (eOp (o1 WK) [B8 [0] 1 (GO (eV 1)) (tNm 1) BX (AD BJ [eV 0,eV 1])])) (Ag (eC (.bl false))) Bb) (Ag (eOp (o2 wLe) [eOp (o1 Cv) [B8 [] 1 (GO (eV 1)) (tNm 0) (eOp (o2 wEq) [eIx (eV 0) (eI 0),eC (.str "throw")]) (eV 0)],eC Em])))
def BO:=AS (AV 2 Gj)
def Kh:=Ag (AD Al [eV 1,eI 0,eOp (o2 OO) [eOp (o1 Cv) [eIx (eV 0) (eI 2)],eI 1]])
def DQ:=AS (AV 2 Kh)
def IK:=Ag (eOp (o2 Cy) [eOp (o1 Cv) [eIx (eV 0) (eI 1)],eOp (o1 Cv) [B8 [] 1 (GO (eOp (MP false true) [eIx (eV 0) (eI 2),eV 1])) (tNm 0) (eOp (o2 (wIn false)) [eIx (eV 0) (eI 0),eC BZ]) (eV 0)]])
def C6:=AS (AV 2 IK)
def Iv:=AN (BP (AD Ai [eV 0])) (AN (xIf (GP (AD DQ [eV 0,eV 1])) Bj Bb) (AN (xIf (eOp (o2 (wIn true)) [eIx (eIx (eIx (eV 0) (eI 2)) (eV 1)) (eI 0),eC BZ]) (Ag (eC .non)) Bb) (Ag (AD C6 [eV 0,eV 1]))))
def D0:=AS (AV 2 Iv)
def JL:=AN (Jn (tTp [tNm 2,tNm 3,tNm 4]) (Fx "Leader" "kept" (eV 0))) (AN (xIf (GP (AD BJ [eV 2,eV 1])) Bj Bb) (AN (BN 5 (Bn [eV 2,eV 3,eOp (o2 Cy) [eV 4,Bn [eV 1]]])) (AN (BP (AD Ai [eV 5])) (AN (xIf (GP (AD BO [eV 2,eIx (eV 5) (eI 2)])) Bj Bb) (AN (BP (C4 "Leader" "turn_to" Ak (eV 0) [eV 5])) (Ag (AD D0 [eV 5,eOp (o1 Cv) [eV 4]])))))))
def CG:=AS (AV 6 JL)
def Lp:=AN (BN 1 (eC FL)) (AN (NJ (GO (eV 0)) (tNm 2) (BN 1 (AD Fh [eV 1,eV 2]))) (Ag (eV 1)))
def C1:=AS (AV 3 Lp)
def ID:=AN (xIf (GP (AD Aj [eV 1,eV 0])) (Ag (eC (.bl false))) Bb) (Ag (Ff (eOp (o1 WK) [B8 [] 1 (GO (eV 1)) (tNm 0) BX (AD Cg [eV 0])]) (eOp (o2 wEq) [AD C1 [eV 1],eC N0])))
def C0:=AS (AV 2 ID)
def L8:=AN (xIf (GP (AD Aj [eV 1,eI 3])) (Ag (eC (.bl false))) Bb) (AN (Jn (tTp [tNm 2,tNm 3,tNm 4]) (eV 1)) (Ag (Ff (AD DF [eV 0,eV 2]) (Ff (AD CZ [eV 3,eI 0]) (AD C0 [eIx (eV 0) (eI 0),eV 4])))))
def D4:=AS (AV 5 L8)
noncomputable def BG:D:=.int 4
def Jk:=AN (xIf (eOr (GP (eOp (o2 Qp) [eV 1,eC (.ty "tuple")])) (eOp (o2 wGt) [eOp (o1 Cv) [eV 1],eC BG])) (Ag (eC (.bl false))) Bb) (Ag (eOp (o1 WK) [B8 [0] 1 (GO (eV 1)) (tNm 1) BX (Ff (AD D4 [eV 0,eV 1]) (eOp (o2 wGt) [eIx (eV 1) (eI 1),eI 0]))]))
def CD:=AS (AV 2 Jk)
def Kl:=AN (xIf (GP (AD Aj [eV 0,eI 6])) (Ag (eC (.bl false))) Bb) (AN (Jn (tTp [tNm 1,tNm 2,tNm 3,tNm 4,tNm 5,tNm 6]) (eV 0)) (AN (xIf (GP (Ff (AD Al [eV 1,eI 1,eI 4]) (Ff (AD Al [eV 2,eI 1,eI 5]) (AD Al [eV 3,eI 1,eI 20])))) (Ag (eC (.bl false))) Bb) (Ag (Ff (AD C0 [eV 1,eV 4]) (Ff (AD Al [eV 5,eI 0,eI 9]) (AD Al [eV 6,eI 0,eI 9]))))))
def Cf:=AS (AV 7 Kl)
def IH:=AN (xIf (GP (AD Cf [eV 1])) Bj Bb) (AN (xIf (GP (AD CD [eV 1,eV 2])) Bj Bb) (AN (Qa "Leader" "kept" (eV 0) (Bn [eV 1,eV 2,Bn []])) (Qa "Leader" "earlier" (eV 0) (FC []))))
def Av:=AS (AV 3 IH)
def KY:=AN (BN 1 (eIx (eIx (eV 0) (eI 0)) (eI 4))) (AN (Jn (tTp [tNm 2,tNm 3,tNm 4]) (AD EI [eV 0,eOp (o1 Cv) [eIx (eV 0) (eI 2)]])) (AN (BN 5 (FC [])) (AN (NJ (Sn (eV 2) (eV 3)) (tTp [tTp [tNm 7,tNm 8],tNm 6]) (AN (BN 9 (AD BV [eV 6,eOp (o2 OO) [eI 10,eV 1],eV 4,eV 1])) (BP (HG J4 (eV 5) [eOp (o1 DO) [B8 [8] 1 (GO (eV 9)) (tNm 1) BX (AD CL [Bn [eV 0,eI 1],eV 1])]])))) (Ag (eV 5)))))
def EN:=AS (AV 10 KY)
def MB:=AN (BN 2 (AD Bg [eV 0])) (AN (NJ (GO (eOp (MP false true) [eIx (eV 0) (eI 2),eV 1])) (tNm 3) (BN 2 (AD Aa [eV 2,eV 3]))) (Ag (eV 2)))
def FF:=AS (AV 4 MB)
def HA:=Ag (eOp (o2 MT) [eIx (eV 0) (eI 0),eIx (eV 0) (eI 1)])
def Am:=AS (AV 1 HA)
def JV:=AN (BN 1 (AD FF [eV 0,eOp (o1 Cv) [eIx (eV 0) (eI 2)]])) (AN (BN 2 (FC [])) (AN (NJ (Sn (eV 1) (AD EN [eV 0])) (tTp [tTp [tNm 4,tNm 5],tNm 3]) (AN (BN 6 (B8 [] 1 (GO (eV 3)) (tNm 0) BX (AD Dv [eV 0,Bn [AD Am [eV 0],eI 1]]))) (AN (BN 7 (AD Am [AD C1 [eV 6]])) (xIf (eOp (o2 wGt) [eV 7,eI 0]) (BP (HG J4 (eV 2) [Bn [eV 4,eV 7,eOp (o1 DO) [B8 [7] 1 (GO (eV 6)) (tNm 1) BX (AD CL [eV 1,Bn [eI 1,eV 0]])]]])) Bb)))) (Ag (eOp (o1 DO) [eV 2]))))
def Df:=AS (AV 8 JV)
def GU:=AN (BP (AD Ai [eV 0])) (AN (BN 1 (AD Df [eV 0])) (AN (xIf (eOp (o2 wGt) [eOp (o1 Cv) [eV 1],eC BG]) Bj Bb) (AN (Jn (tTp [tNm 2,tNm 3,tNm 4,tNm 5,tNm 6,tNm 7]) (eIx (eV 0) (eI 0))) (AN (Jn (tTp [tNm 8,tNm 9,tNm 10]) (AD EI [eV 0,eOp (o1 Cv) [eIx (eV 0) (eI 2)]])) (Ag (Bn [Bn [eV 2,eV 3,eV 4,eV 10,eV 6,eV 7],eV 1,Bn []]))))))
def Bv:=AS (AV 11 GU)
def EX:=AN (xIf (eOp (o2 wEq) [eOp (o1 Cv) [eIx (Fx "Leader" "kept" (eV 0)) (eI 2)],eI 0]) Bj Bb) (BP (C4 "Leader" "turn_to" Ak (eV 0) [AD Bv [Fx "Leader" "kept" (eV 0)]]))
def Aw:=AS (AV 1 EX)
def HU:=AN (BN 1 (MG "Leader" Av [eIx (Fx "Leader" "kept" (eV 0)) (eI 0),eIx (Fx "Leader" "kept" (eV 0)) (eI 1)])) (AN (Qa "Leader" "kept" (eV 1) (Fx "Leader" "kept" (eV 0))) (AN (Qa "Leader" "earlier" (eV 1) (WC (o1 Jy) [Fx "Leader" "earlier" (eV 0)])) (Ag (eV 1))))
def CQ:=AS (AV 2 HU)
def Ew:=AN (xIf (eOp (o2 wEq) [eOp (o1 Cv) [Fx "Leader" "earlier" (eV 0)],eI 0]) Bj Bb) (Qa "Leader" "kept" (eV 0) (HG QS (Fx "Leader" "earlier" (eV 0)) []))
def Aq:=AS (AV 1 Ew)
def QU:Rx:=(JK rNo (BP (AD Ai [eV 0])) (JK (rIf (GP (AD DQ [eV 0,eV 1])) (Ef "NoNumber" [eC (.str "no deed of the book has this place")]) rNo) (xIf (GP (AD DQ [eV 0,eV 1])) Bj Bb)
    rNo))
def IY:=AS (Lb 2 QU)
def Jc:=JK rNo (Jn (tTp [tNm 2,tNm 3,tNm 4]) (Fx "Leader" "kept" (eV 0))) (JK (rIf (GP (AD BJ [eV 2,eV 1])) (Ef "NoDeed" [eC (.str "this is no deed of the train")]) rNo) (xIf (GP (AD BJ [eV 2,eV 1])) Bj Bb) (JK rNo (BN 5 (Bn [eV 2,eV 3,eOp (o2 Cy) [eV 4,Bn [eV 1]]])) (JK rNo (BP (AD Ai [eV 5])) (JK (rIf (GP (AD BO [eV 2,eIx (eV 5) (eI 2)])) (Ef "TooMany" [eC (.str "a book hasn't so many deeds or throws")]) rNo) (xIf (GP (AD BO [eV 2,eIx (eV 5) (eI 2)])) Bj Bb) (JK rNo (BP (C4 "Leader" "turn_to" Ak (eV 0) [eV 5])) (QX IY [eV 5,eOp (o1 Cv) [eV 4]]))))))
def Cm:=AS (Lb 6 Jc)
def Ej:Rx:=(JK rNo (BP (AD Ai [eV 0])) (JK rNo (BN 1 (AD Df [eV 0])) (JK (rIf (eOp (o2 wGt) [eOp (o1 Cv) [eV 1],eC BG]) (Ef "TooMany" [eC (.str "more loads stay over than a book begins with")]) rNo) (xIf (eOp (o2 wGt) [eOp (o1 Cv) [eV 1],eC BG]) Bj Bb)
    rNo)))
def Cq:=AS (Lb 11 Ej)
def EV:=JK (rIf (eOp (o2 wEq) [eOp (o1 Cv) [eIx (Fx "Leader" "kept" (eV 0)) (eI 2)],eI 0]) (Ef "NoNext" [eC (.str "a book without deeds has no next book")]) rNo) (xIf (eOp (o2 wEq) [eOp (o1 Cv) [eIx (Fx "Leader" "kept" (eV 0)) (eI 2)],eI 0]) Bj Bb) (Vu "Leader" "turn_to" (eV 0) (QX Cq [Fx "Leader" "kept" (eV 0)]))
def BW:=AS (Lb 1 EV)
def Dk:Rx:=(JK (rIf (eOp (o2 wEq) [eOp (o1 Cv) [Fx "Leader" "earlier" (eV 0)],eI 0]) (Ef "NothingDone" [eC (.str "there is nothing to undo")]) rNo) (xIf (eOp (o2 wEq) [eOp (o1 Cv) [Fx "Leader" "earlier" (eV 0)],eI 0]) Bj Bb)
    rNo)
def CS:=AS (Lb 1 Dk)
def VA:=AN (BN 1 (AD Ha [AD CC [eV 0,eI 0]])) (AN (Jn (tTp [tNm 2,tNm 3]) (AD FI [eV 1])) (AN (BN 4 (FC [MG "Leader" Av [eV 2,eV 3],MG "Leader" Av [eV 2,eV 3]])) (AN (BN 5 (FC [FC [Bn [eV 2,eV 3,Bn []]],FC [Bn [eV 2,eV 3,Bn []]]])) (AN (NJ (Sk [eI 10]) (tNm 6) (AN (BN 7 (AD AF [eV 1,eOp (o1 Cv) [eV 4]])) (AN (BN 8 (AD AF [eV 1,eI 6])) (AN (xIf (eOp (o2 wEq) [eV 8,eI 0]) (AN (BP (HG J4 (eV 4) [C4 "Leader" "twin" CQ (eIx (eV 4) (eV 7)) []])) (BP (HG J4 (eV 5) [WC (o1 Jy) [eIx (eV 5) (eV 7)]]))) (xIf (Ff (eOp (o2 wEq) [eV 8,eI 1]) (eOp (o2 wGt) [eOp (o1 Cv) [eIx (eV 5) (eV 7)],eI 1])) (AN (BP (C4 "Leader" "undo" Aq (eIx (eV 4) (eV 7)) [])) (BP (HG QS (eIx (eV 5) (eV 7)) []))) (xIf (eOp (o2 wEq) [eV 8,eI 2]) (xIf (eOp (o2 (XB false)) [Kp "law" [4,7] (C4 "Leader" "start" Aw (eIx (eV 0) (eV 1)) []) (MU "Leader" "start" BW (eIx (eV 0) (eV 1)) []) 0 (gOr ["TooMany","NoNext","NothingDone"] "TooMany" (Ag (eC (.str "many"))) (gOr ["TooMany","NoNext","NothingDone"] "NoNext" (Ag (eC (.str "next"))) (gOr ["TooMany","NoNext","NothingDone"] "NothingDone" (Ag (eC (.str "nothing"))) gNo))),eC .non]) (BP (HG J4 (eIx (eV 5) (eV 7)) [C4 "Leader" "book" Ar (eIx (eV 4) (eV 7)) []])) Bb) (AN (BN 9 (AD GH [eV 1,eIx (eIx (eV 5) (eV 7)) (eOp (o1 LZ) [eI 1])])) (AN (BN 10 (AD Bp [eIx (eIx (eV 5) (eV 7)) (eOp (o1 LZ) [eI 1]),eV 9])) (AN (xIf (eOp (o2 wNe) [Kp "law" [4,7,9] (C4 "Leader" "do" CG (eIx (eV 0) (eV 1)) [eV 2]) (MU "Leader" "do" Cm (eIx (eV 0) (eV 1)) [eV 2]) 0 (gOr ["TooMany","NoNext","NothingDone"] "TooMany" (Ag (eC (.str "many"))) (gOr ["TooMany","NoNext","NothingDone"] "NoNext" (Ag (eC (.str "next"))) (gOr ["TooMany","NoNext","NothingDone"] "NothingDone" (Ag (eC (.str "nothing"))) gNo))),eV 10]) (Ag (eC (.bl false))) Bb) (xIf (eOp (o2 wNe) [eV 10,eC (.str "many")]) (BP (HG J4 (eIx (eV 5) (eV 7)) [AD F9 [eIx (eIx (eV 5) (eV 7)) (eOp (o1 LZ) [eI 1]),eV 9]])) Bb))))))) (xIf (eOp (o2 wNe) [B8 [] 1 (GO (eV 4)) (tNm 0) BX (C4 "Leader" "book" Ar (eV 0) []),B8 [] 1 (GO (eV 5)) (tNm 0) BX (eIx (eV 0) (eOp (o1 LZ) [eI 1]))]) (Ag (eC (.bl false))) Bb))))) (AN (NJ (Sn (eV 4) (eV 5)) (tTp [tNm 11,tNm 12]) (AN (JM (Uv 20) (eOp (o2 wGt) [eOp (o1 Cv) [eV 12],eI 1]) (AN (BP (HG QS (eV 12) [])) (AN (BP (C4 "Leader" "undo" Aq (eV 11) [])) (xIf (eOp (o2 wNe) [C4 "Leader" "book" Ar (eV 11) [],eIx (eV 12) (eOp (o1 LZ) [eI 1])]) (Ag (eC (.bl false))) Bb)))) (xIf (eOp (o2 wNe) [Kp "law" [11] (C4 "Leader" "undo" Aq (eV 0) []) (MU "Leader" "undo" CS (eV 0) []) 0 (gOr ["TooMany","NoNext","NothingDone"] "TooMany" (Ag (eC (.str "many"))) (gOr ["TooMany","NoNext","NothingDone"] "NoNext" (Ag (eC (.str "next"))) (gOr ["TooMany","NoNext","NothingDone"] "NothingDone" (Ag (eC (.str "nothing"))) gNo))),eC (.str "nothing")]) (Ag (eC (.bl false))) Bb))) (Ag (eC (.bl true))))))))
def OK:=AS (AV 13 VA)
end
section
noncomputable def top(i:Nat):sP:=yT.main.body.getD i (.Pass ⟨0,0,0,0⟩)
abbrev Hb:=top 4
abbrev IV:=top 5
abbrev GZ:=top 6
abbrev Cw:=top 7
abbrev GS:=top 8
abbrev KA:=top 9
abbrev N3:=top 10
abbrev Nv:=top 11
abbrev MM:=top 12
abbrev MD:=top 13
abbrev MC:=top 14
abbrev FG:=top 32
abbrev Fp:=top 33
abbrev C8:=top 34
abbrev HQ:=top 35
abbrev F0:=top 36
abbrev Ir:=top 37
abbrev Dh:=top 38
abbrev DK:=top 39
abbrev F3:=top 40
abbrev C7:=top 41
abbrev F2:=top 42
abbrev D6:=top 43
abbrev GW:=top 45
abbrev Ik:=top 46
abbrev D8:=top 47
abbrev Dj:=top 48
abbrev CB:=top 49
abbrev Fy:=top 50
abbrev HM:=top 51
abbrev Hl:=top 52
abbrev GK:=top 53
abbrev EU:=top 54
abbrev FK:=top 55
abbrev B0:=top 56
abbrev Ip:=top 57
abbrev Gf:=top 58
abbrev Eu:=top 59
abbrev D5:=top 60
abbrev Cz:=top 61
abbrev Hd:=top 62
abbrev Gk:=top 63
abbrev C3:=top 65
abbrev CM:=top 66
abbrev E7:=top 67
abbrev CN:=top 68
abbrev FR:=top 69
abbrev D2:=top 70
abbrev Fc:=top 71
abbrev D3:=top 72
abbrev B5:=top 73
abbrev EK:=top 74
abbrev EJ:=top 76
abbrev EZ:=top 77
abbrev CF:=top 78
abbrev El:=top 79
abbrev Bw:=inClass (top 81) 0
abbrev BC:=inClass (top 81) 1
abbrev Bq:=inClass (top 81) 2
abbrev BF:=inClass (top 81) 3
abbrev BR:=inClass (top 81) 4
abbrev Bh:=inClass (top 81) 5
abbrev Bk:=inClass (top 81) 7
abbrev L4:=top 83
abbrev Ge:=top 84
abbrev Jv:=top 85
abbrev HW:=top 86
abbrev J0:=top 87
abbrev DH:=top 88
abbrev IT:=top 89
abbrev HP:=top 90
abbrev Iw:=top 91
abbrev IU:=top 92
abbrev FO:=top 94
abbrev KI:=top 95
abbrev Ia:=top 96
abbrev Hc:=top 97
abbrev F8:=top 98
abbrev Jx:=top 99
abbrev Ic:=top 100
abbrev KD:=top 101
abbrev Jo:=top 102
abbrev JT:=top 103
abbrev Io:=top 104
abbrev ER:=top 105
abbrev Cu:=top 106
abbrev KN:=top 107
abbrev CA:=top 108
abbrev KQ:=top 109
abbrev DJ:=top 110
abbrev Hw:=top 93
def Iz:Au ["_law_call"] ["_law_call"] (AB Hw):=scM
structure Bts(mg:Str->qz rD):Prop where
 abs:mg "abs"=none
 all:mg "all"=none
 bool:mg "bool"=none
 enumerate:mg "enumerate"=none
 int:mg "int"=none
 isi:mg "isinstance"=none
 len:mg "len"=none
 list:mg "list"=none
 min:mg "min"=none
 range:mg "range"=none
 sorted:mg "sorted"=none
 str:mg "str"=none
 sum:mg "sum"=none
 tuple:mg "tuple"=none
 zip:mg "zip"=none
structure All(w:uL)(K:W1)(mg:Str->qz rD):Prop where
 bt:Bts mg
 dN:Po K mg "ALL" N0
 Qv:Po K mg "MAKERS" BZ
 KW:Po K mg "MOST_DEEDS" Ft
 KU:Po K mg "MOST_FIRST" BG
 Jl:Po K mg "MOST_THROWS" Em
 Oj:Po K mg "NOTHING" FL
 JI:Po K mg "UNLIKE" Bz
 J2:eU K w mg "FORMS" EW
 QW:jH w K mg "PARTS" [("partner","is_partner"),("kind","is_kind"),("load","is_load_number"),("number","is_trade_number"),("pieces","are_pieces"),("worths","are_worths"),("share","is_sold_share")]
 JQ:XcD K mg "NoDeed"
 JZ:XcD K mg "NoNext"
 NO:XcD K mg "NoNumber"
 Du:XcD K mg "NothingDone"
 Hq:XcD K mg "TooMany"
 Gx:XmD K mg ["TooMany","NoNext","NothingDone"] "NoNext"
 CK:XmD K mg ["TooMany","NoNext","NothingDone"] "NothingDone"
 Fd:XmD K mg ["TooMany","NoNext","NothingDone"] "TooMany"
 AM:ClD K "Leader" ["kept","earlier"]
 Bw:MkS K mg "Leader" "Leader.__init__" Bw
 BC:MeS K "Leader" "turn_to" "Leader.turn_to" BC
 Bq:MeS K "Leader" "do" "Leader.do" Bq
 BF:MeS K "Leader" "start" "Leader.start" BF
 BR:MeS K "Leader" "undo" "Leader.undo" BR
 Bh:MeS K "Leader" "book" "Leader.book" Bh
 Bk:MeS K "Leader" "twin" "Leader.twin" Bk
 Hb:St.Src K mg "is_whole" Hb
 IV:St.Src K mg "is_from" IV
 GZ:St.Src K mg "is_within" GZ
 Cw:St.Src K mg "greatest_divisor" Cw
 GS:St.Src K mg "is_amount" GS
 KA:St.Src K mg "lowest" KA
 N3:St.Src K mg "plus" N3
 Nv:St.Src K mg "less" Nv
 MM:St.Src K mg "times" MM
 MD:St.Src K mg "mixed" MD
 MC:St.Src K mg "total" MC
 FG:St.Src K mg "is_tuple_of" FG
 Fp:St.Src K mg "is_share" Fp
 C8:St.Src K mg "are_owners" C8
 HQ:St.Src K mg "is_train" HQ
 F0:St.Src K mg "is_partner" F0
 Ir:St.Src K mg "is_kind" Ir
 Dh:St.Src K mg "is_load_number" Dh
 DK:St.Src K mg "is_trade_number" DK
 F3:St.Src K mg "are_pieces" F3
 C7:St.Src K mg "are_values" C7
 F2:St.Src K mg "are_worths" F2
 D6:St.Src K mg "is_sold_share" D6
 GW:St.Src K mg "is_part" GW
 Ik:St.Src K mg "is_load" Ik
 D8:St.Src K mg "is_deed" D8
 Dj:St.Src K mg "are_first" Dj
 CB:St.Src K mg "are_deeds" CB
 Fy:St.Src K mg "has_pieces" Fy
 HM:St.Src K mg "can_pool" HM
 Hl:St.Src K mg "can_swap" Hl
 GK:St.Src K mg "can_do" GK
 EU:St.Src K mg "held_without" EU
 FK:St.Src K mg "held_behind" FK
 B0:St.Src K mg "held_at_first" B0
 Ip:St.Src K mg "held_by" Ip
 Gf:St.Src K mg "made_from" Gf
 Eu:St.Src K mg "first_wrong" Eu
 D5:St.Src K mg "refuse_undone" D5
 Cz:St.Src K mg "many_loads" Cz
 Hd:St.Src K mg "is_place" Hd
 Gk:St.Src K mg "made_by" Gk
 C3:St.Src K mg "all_to_one" C3
 CM:St.Src K mg "mixed_shares" CM
 E7:St.Src K mg "made_shares" E7
 CN:St.Src K mg "worth_of_all" CN
 FR:St.Src K mg "part_thrown" FR
 D2:St.Src K mg "thrown_shares" D2
 Fc:St.Src K mg "sold_shares" Fc
 D3:St.Src K mg "shares_behind" D3
 B5:St.Src K mg "owners_behind" B5
 EK:St.Src K mg "state_by" EK
 EJ:St.Src K mg "all_dues" EJ
 EZ:St.Src K mg "whole_pieces" EZ
 CF:St.Src K mg "over_told" CF
 El:St.Src K mg "next_book" El
 L4:St.Src K mg "_law_pen" L4
 Ge:St.Src K mg "_law_cell_at" Ge
 Jv:St.Src K mg "_law_draw" Jv
 HW:St.Src K mg "_law_common" HW
 J0:St.Src K mg "_law_made" J0
 DH:St.Src K mg "_law_whole" DH
 IT:St.Src K mg "_law_train" IT
 HP:St.Src K mg "_law_pieces" HP
 Iw:St.Src K mg "_law_first" Iw
 IU:St.Src K mg "_law_begin" IU
 FO:St.Src K mg "_law_begun" FO
 KI:St.Src K mg "_law_plus" KI
 Ia:St.Src K mg "_law_times" Ia
 Hc:St.Src K mg "_law_pooled" Hc
 F8:St.Src K mg "_law_cost" F8
 Jx:St.Src K mg "_law_less" Jx
 Ic:St.Src K mg "_law_borne" Ic
 KD:St.Src K mg "_law_sold" KD
 Jo:St.Src K mg "_law_turn" Jo
 JT:St.Src K mg "_law_do" JT
 Io:St.Src K mg "_law_share" Io
 ER:St.Src K mg "_law_worths" ER
 Cu:St.Src K mg "_law_deed" Cu
 KN:St.Src K mg "_law_good" KN
 CA:St.Src K mg "_law_made_by" CA
 KQ:St.Src K mg "_law_with" KQ
 DJ:St.Src K mg "law" DJ
 Hw:St.Src K mg "_law_said" Hw
end
section
local macro_rules| `(tactic|walk_at $s)=>do
 let i (w:vJ):Lean.Term:=Lean.mkIdent w.toName
 let t (w:vJ):zh Lean.Term:=do
  match w with
  | "?"=> `(?_)
  | "_"=> `(_)
  | "A"=> `(by assumption)
  | "B"=> `(by walk_at "b")
  | "D"=> `(by decide)
  | "K"=> `(λ_ _ _=>⟨?_,?_,?_⟩)
  | "F"=> `(UY _)
  |_=>match w.splitOn "/" with
   | [f,n]=>pure (xD (i f) (Array.replicate n.length (<- `(?_))))
   |_=>pure (i w)
 let r (a:Wp vJ):zh (yv `tactic):=do `(tactic|refine $(xD (i a.head!) (<-a.tail!.mapM t).toArray))
 let g (s:vJ):zh (yv `tactic):=do
  (s.splitOn ";").foldrM (λx z=>do
    let a:=x.splitOn " "
    let b<-if a.head!== "%" then `(tactic|with_reducible $(<-r a.tail!):tactic)else r a
    `(tactic|first| $b:tactic| $z:tactic)) (<- `(tactic|assumption))
 let ws:=s.getString.splitOn " "
 match ws.head! with
 | "b"=>g "Bts.abs A;Bts.all A;Bts.bool A;Bts.enumerate A;Bts.int A;Bts.isi A;Bts.len A;Bts.list A;Bts.min A;Bts.range A;Bts.sorted A;Bts.str A;Bts.sum A;Bts.tuple A;Bts.zip A;% boot_abs;% boot_all;% boot_bool;% boot_enumerate;% boot_int;% boot_isinstance;% boot_len;% boot_list;% boot_min;% boot_range;% boot_sorted;% boot_str;% boot_sum;% boot_tuple;% boot_zip"
 | "d"=>do
   let z<-("qh:AE ? ?;AI|gDE:AG _;BM;FV;Ci Hs ? ?;deM A A ?;Wd ? ? ?;Br ? rfl B B ?;Pb ? rfl B B ?;IF ?;PU ?;P9 _ _ _ rfl A ? K;YN ? ? ?;iL ? ?;YU ?;UC ? ?;dg;Nn;bh A rfl;dB rfl B B;pE ? ? ?;nO ?;O0 PySem.F.slot_list_append PySem.F.type_list_append Ln ? ?;O0 PySem.F.slot_list_extend PySem.F.type_list_extend kJ ? ?;ky ? ?;lq ? ?;lI ? ? ?|qb:AW ?;AY ? ?;B6|gDS:CV ?;HC _ ? A;Dq ?;FJ ? ? ?;cT _ _ _ rfl A rfl rfl A ? K;Vi ? ?;ji ? ? ?;ZF PassesOwn.never rfl ? ? ?;nU rfl A rfl rfl D rfl rfl ? ?;EF;Xp F PassesOwn.never ? ?|gDT:Dg ? ? ?;Hn ?;DW.dt fE/??;DW.dt dz/??;Hm ?|gDG:IZ _ A;UQ rfl ?|qf:% Ng;% IP ?;% jM;% kR;% ni;% lD;% LO ?;% YR;% jZ;% nv;% nq;% nX;% lC;% V1;% jP|nT:% Bs;% Zq;% gS rfl;% Ow;% fS;% dy;% Mw;% VM rfl;% fc rfl;% Y3".splitOn "|").foldrM (λx z=>do
    let a:=x.splitOn ":"
    `(tactic|first|((with_reducible refine $(i a.head!) ?_); $(<-g a.tail!.head!):tactic)| $z:tactic)) (<-g "DA ? ?;MJ;QI;mO ?;Y4 ?;ZN rfl B ?;eM rfl B ? ?;eZ rfl B ?;LH;fE ? ?;Za ?;dz ? ?;Yw ?;PD;KO ?;Fq ? ? ?;% Xz;We ? ? ?;K1 rfl A rfl ?;Xz")
   let y:yv `tactic<-ws.tail!.foldrM (λw z=>do `(tactic|(have:= $(if w.startsWith "T." then i w else xD (i w) #[i "P",i "base",i "bm",i "T"]); $z:tactic))) (<- `(tactic|repeat' $z:tactic))
   pure y
 |_=>Lean.Macro.throwUnsupported
variable(P:sx){w:uL}{K:W1}{mg:Str->qz rD}(base:tS)(bm:BmB mg base)(T:All w K mg)
include bm T
theorem Y0:St.Dfn P w K mg base "is_whole" 1 ["thing"] (spD K 1 ET):=dfW (N:=["thing"]) 0 T.Hb scM λ_ _ _=>by
 walk_at "d T.bt"
theorem Zw:St.Dfn P w K mg base "is_from" 2 ["thing","low"] (spD K 2 CZ):=dfW (N:=["thing","low"]) 1 T.IV scM λ_ _ _=>by
 walk_at "d Y0"
theorem Wo:St.Dfn P w K mg base "is_within" 3 ["thing","low","high"] (spD K 3 Al):=dfW (N:=["thing","low","high"]) 2 T.GZ scM λ_ _ _=>by
 walk_at "d Zw"
theorem Pk:St.Dfn P w K mg base "greatest_divisor" 1 ["one","other"] (spD K 2 BY):=dfW (N:=["one","other"]) 0 T.Cw scM λ_ _ _=>by
 walk_at "d T.bt"
theorem Gn:St.Dfn P w K mg base "is_amount" 3 ["thing"] (spD K 1 Ek):=dfW (N:=["thing","top","bottom"]) 2 T.GS scM λ_ _ _=>by
 walk_at "d T.bt Y0 Zw Pk"
theorem cy:St.Dfn P w K mg base "lowest" 2 ["top","bottom"] (spD K 2 Ck):=dfW (N:=["top","bottom","divisor"]) 1 T.KA scM λ_ _ _=>by
 walk_at "d Pk"
theorem jD:St.Dfn P w K mg base "plus" 3 ["one","other"] (spD K 2 Fh):=dfW (N:=["one","other"]) 2 T.N3 scM λ_ _ _=>by
 walk_at "d cy"
theorem jT:St.Dfn P w K mg base "less" 3 ["one","other"] (spD K 2 Dv):=dfW (N:=["one","other"]) 2 T.Nv scM λ_ _ _=>by
 walk_at "d cy"
theorem gU:St.Dfn P w K mg base "times" 3 ["one","other"] (spD K 2 CL):=dfW (N:=["one","other"]) 2 T.MM scM λ_ _ _=>by
 walk_at "d cy"
theorem iA:St.Dfn P w K mg base "mixed" 3 ["one","weight","other","more"] (spD K 4 HR):=dfW (N:=["one","weight","other","more","top"]) 2 T.MD scM λ_ _ _=>by
 walk_at "d cy"
theorem dj:St.Dfn P w K mg base "total" 4 ["amounts"] (spD K 1 C1):=dfW (N:=["amounts","together","amount"]) 3 T.MC scM λ_ _ _=>by
 walk_at "d T.Oj jD"
theorem Tx:St.Dfn P w K mg base "is_tuple_of" 1 ["thing","many"] (spD K 2 Aj):=dfW (N:=["thing","many"]) 0 T.FG scM λ_ _ _=>by
 walk_at "d T.bt"
omit T bm in
theorem Nk:Au ["thing"] ["thing"] (AB Fp):=scM
theorem YY:St.Dfn P w K mg base "is_share" 4 ["thing"] (spD K 1 Cg):=by
 have Gn:=Gn P base bm T
 refine dfM 3 T.Fp Nk λhr hu=>?_
 exact(AW (CV (iL (deM Gn hr (AE (AG 0) AI)) (YU (Zs BM (Ci Hs (AG 0) BM) (Ci Hs (AG 0) BM))))))
theorem WA:St.Dfn P w K mg base "are_owners" 5 ["partners","thing"] (spD K 2 C0):=dfW (N:=["partners","thing"]) 4 T.C8 scM λ_ _ _=>by
 have:AR ["partners","thing"] (AB C8) ["share"] (ixC [] 1) (JC C8 0):=csM
 have:(["share"]:Wp Str).Nodup:=by decide+kernel
 walk_at "d T.bt T.dN dj Tx YY"
theorem HI:St.Dfn P w K mg base "is_train" 6 ["thing"] (spD K 1 Cf):=dfW (N:=["thing","partners","kinds","beasts","holders","hire","part"]) 5 T.HQ scM λ_ _ _=>by
 walk_at "d Wo Tx WA"
theorem Mc:St.Dfn P w K mg base "is_partner" 4 ["train","thing"] (spD K 2 EA):=dfW (N:=["train","thing"]) 3 T.F0 scM λ_ _ _=>by
 walk_at "d Wo"
theorem Qb:St.Dfn P w K mg base "is_kind" 4 ["train","thing"] (spD K 2 DF):=dfW (N:=["train","thing"]) 3 T.Ir scM λ_ _ _=>by
 walk_at "d Wo"
theorem JN:St.Dfn P w K mg base "is_load_number" 3 ["train","thing"] (spD K 2 CP):=dfW (N:=["train","thing"]) 2 T.Dh scM λ_ _ _=>by
 walk_at "d Zw"
theorem Im:St.Dfn P w K mg base "is_trade_number" 4 ["train","thing"] (spD K 2 CI):=dfW (N:=["train","thing"]) 3 T.DK scM λ_ _ _=>by
 walk_at "d Wo"
theorem MZ:St.Dfn P w K mg base "are_pieces" 3 ["train","thing"] (spD K 2 EB):=dfW (N:=["train","thing"]) 2 T.F3 scM λ_ _ _=>by
 walk_at "d Zw"
theorem WE:St.Dfn P w K mg base "are_values" 4 ["thing","many"] (spD K 2 D9):=dfW (N:=["thing","many"]) 3 T.C7 scM λ_ _ _=>by
 have:AR ["thing","many"] (AB C7) ["value"] (ixC [] 1) (JC C7 0):=csM
 have:(["value"]:Wp Str).Nodup:=by decide+kernel
 walk_at "d T.bt Wo Tx"
theorem MR:St.Dfn P w K mg base "are_worths" 5 ["train","thing"] (spD K 2 EC):=dfW (N:=["train","thing"]) 4 T.F2 scM λ_ _ _=>by
 walk_at "d WE"
theorem Jr:St.Dfn P w K mg base "is_sold_share" 5 ["train","thing"] (spD K 2 Cs):=dfW (N:=["train","thing"]) 4 T.D6 scM λ_ _ _=>by
 walk_at "d YY"
omit T bm in
theorem KR:Au ["train","part","thing","holds"] ["train","part","thing"] (AB GW):=scM
theorem Xe:l8 P w K mg base "PARTS" 5 2 Eo:=bA T.QW (.cons ⟨rfl,_,_,(by decide),Mc P base bm T⟩ (.cons ⟨rfl,_,_,(by decide),Qb P base bm T⟩ (.cons ⟨rfl,_,_,(by decide),JN P base bm T⟩ (.cons ⟨rfl,_,_,(by decide),Im P base bm T⟩ (.cons ⟨rfl,_,_,(by decide),MZ P base bm T⟩ (.cons ⟨rfl,_,_,(by decide),MR P base bm T⟩ (.cons ⟨rfl,_,_,(by decide),Jr P base bm T⟩ Paired.nil)))))))
theorem Il:St.Dfn P w K mg base "is_part" 6 ["train","part","thing"] (spD K 3 An):=by
 have T_PARTS:=Xe P base bm T
 refine dfM 5 T.GW KR λhr hu=>?_
 exact(bp 3 1 T_PARTS (hr.mono (by decide)) (AE (AG 0) (AE (AG 2) AI)) rfl KR.nd)
theorem cG:St.Dfn P w K mg base "is_load" 6 ["train","thing"] (spD K 2 D4):=dfW (N:=["train","thing","kind","pieces","owners"]) 5 T.Ik scM λ_ _ _=>by
 walk_at "d Zw Tx WA Qb"
omit T bm in
theorem HY:Au ["train","thing","word","form"] ["train","thing"] (AB D8):=scM
omit T bm in
theorem Mb:AR ["train","thing","word","form"] (AB D8) ["train","thing","at","part"] (ixC [0,1] 2) (JC D8 0):=csM
omit T bm in
theorem IL:(["train","thing","at","part"]:Wp Str).Nodup:=by decide+kernel
theorem DL:St.Dfn P w K mg base "is_deed" 7 ["train","thing"] (spD K 2 BJ):=by
 have B:=T.bt
 have JI:=T.JI
 have J2:=T.J2
 have Il:=Il P base bm T
 refine dfM 6 T.D8 HY λhr hu=>?_
 exact(AY (FJ (DW.dt (dz (Hn (Hm (Br Ow rfl B.isi boot_isinstance (AE (AG 1) (AE (dB rfl B.tuple boot_tuple) AI))))) (Yw (Dg (IP hu) (Br Bs rfl B.len vZ (AE (AG 1) AI)) BM)))) (AW (CV Nn)) B6)
      (AY (HC 2 (Ci Hs (AG 1) BM) HY.nd)
      (AY (FJ (DW.dt (dz (Hn (Hm (Br Ow rfl B.isi boot_isinstance (AE (AG 2) (AE (dB rfl B.str boot_str) AI))))) (Yw (QK J2 rfl (AG 2))))) (AW (CV Nn)) B6)
      (AY (HC 3 (iS J2 rfl (AG 2)) HY.nd)
      (AY (FJ (Dg (LO hu) (Br Bs rfl B.len vZ (AE (AG 1) AI)) (Wd Ng (Br Bs rfl B.len vZ (AE (AG 3) AI)) BM)) (AW (CV Nn)) B6)
      (AY (FJ (Hn (Hm (Br (VM rfl) rfl B.all boot_all (AE (P9 [0,1] 2 ["train","thing","at","part"] rfl Mb (eZ rfl B.enumerate (AG 3)) (λs H fp=>⟨UQ rfl (DA (IZ 2 IL) (DA (IZ 3 IL) MJ)),QI,deM Il hr (AE (AG 0) (AE (AG 3) (AE (Ci Hs (AG 1) (Wd Ng (AG 2) BM)) AI)))⟩)) AI)))) (AW (CV Nn)) B6)
      (AW (CV (mJ (YN V1 (AG 2) (bh JI rfl)) (YU (YN (LO hu) (Ci Hs (AG 1) BM) (Ci Hs (AG 1) BM))))))))))))
theorem Gi:St.Dfn P w K mg base "are_first" 7 ["train","thing"] (spD K 2 CD):=dfW (N:=["train","thing"]) 6 T.Dj scM λ_ _ _=>by
 have:AR ["train","thing"] (AB Dj) ["train","load"] (ixC [0] 1) (JC Dj 0):=csM
 have:(["train","load"]:Wp Str).Nodup:=by decide+kernel
 walk_at "d T.bt T.KU cG"
theorem CH:St.Dfn P w K mg base "are_deeds" 8 ["train","thing"] (spD K 2 BO):=dfW (N:=["train","thing"]) 7 T.CB scM λ_ _ _=>by
 have:AR ["train","thing"] (AB CB) ["train","deed"] (ixC [0] 1) (JC CB 0):=csM
 have:(["train","deed"]:Wp Str).Nodup:=by decide+kernel
 have:AR ["train","thing"] (AB CB) ["deed"] (ixC [] 1) (JC CB 1):=csM
 have:(["deed"]:Wp Str).Nodup:=by decide+kernel
 walk_at "d T.bt T.KW T.Jl DL"
theorem V8:St.Dfn P w K mg base "has_pieces" 1 ["held","load","pieces"] (spD K 3 Bc):=dfW (N:=["held","load","pieces"]) 0 T.Fy scM λ_ _ _=>by
 walk_at "d T.bt"
theorem Yd:St.Dfn P w K mg base "can_pool" 2 ["held","load","other"] (spD K 3 DP):=dfW (N:=["held","load","other"]) 1 T.HM scM λ_ _ _=>by
 walk_at "d V8"
theorem YL:St.Dfn P w K mg base "can_swap" 2 ["held","load","given","kind"] (spD K 4 DV):=dfW (N:=["held","load","given","kind"]) 1 T.Hl scM λ_ _ _=>by
 walk_at "d V8"
theorem cq:St.Dfn P w K mg base "can_do" 3 ["held","done","deed"] (spD K 3 B3):=dfW (N:=["held","done","deed","word","numbers"]) 2 T.GK scM λ_ _ _=>by
 have:AR ["held","done","deed","word","numbers"] (AB GK) ["other"] (ixC [] 1) (JC GK 0):=csM
 have:(["other"]:Wp Str).Nodup:=by decide+kernel
 walk_at "d V8 Yd YL"
theorem Sl:St.Dfn P w K mg base "held_without" 1 ["held","load","pieces"] (spD K 3 BU):=dfW (N:=["held","load","pieces","kind","there"]) 0 T.EU scM λ_ _ _=>by
 walk_at "d"
theorem VN:St.Dfn P w K mg base "held_behind" 2 ["held","deed"] (spD K 2 Aa):=dfW (N:=["held","deed","word","kind","pieces","more","load","given","got"]) 1 T.FK scM λ_ _ _=>by
 walk_at "d Sl"
theorem Rh:St.Dfn P w K mg base "held_at_first" 1 ["book"] (spD K 1 Bg):=dfW (N:=["book"]) 0 T.B0 scM λ_ _ _=>by
 have:AR ["book"] (AB B0) ["load"] (ixC [] 1) (JC B0 0):=csM
 have:(["load"]:Wp Str).Nodup:=by decide+kernel
 walk_at "d"
theorem Zm:St.Dfn P w K mg base "held_by" 3 ["book","many"] (spD K 2 FF):=dfW (N:=["book","many","held","deed"]) 2 T.Ip scM λ_ _ _=>by
 walk_at "d VN Rh"
theorem Wx:St.Dfn P w K mg base "made_from" 1 ["deed"] (spD K 1 Bt):=dfW (N:=["deed","word"]) 0 T.Gf scM λ_ _ _=>by
 walk_at "d T.bt"
theorem TY:St.Dfn P w K mg base "first_wrong" 4 ["book"] (spD K 1 Ds):=dfW (N:=["book","held","deeds","at","deed"]) 3 T.Eu scM λ_ _ _=>by
 walk_at "d T.bt cq VN Rh"
theorem Bf:St.Dfn P w K mg base "refuse_undone" 5 ["book"] (spD K 1 Ai):=dfW (N:=["book","wrong"]) 4 T.D5 scM λ_ _ _=>by
 walk_at "d TY"
theorem WB:St.Dfn P w K mg base "many_loads" 1 ["book","many"] (spD K 2 C6):=dfW (N:=["book","many"]) 0 T.Cz scM λ_ _ _=>by
 have:AR ["book","many"] (AB Cz) ["deed"] (ixC [] 1) (JC Cz 0):=csM
 have:(["deed"]:Wp Str).Nodup:=by decide+kernel
 walk_at "d T.bt T.Qv"
theorem Ym:St.Dfn P w K mg base "is_place" 4 ["book","thing"] (spD K 2 DQ):=dfW (N:=["book","thing"]) 3 T.Hd scM λ_ _ _=>by
 walk_at "d T.bt Wo"
theorem JA:dI P w K mg base "made_by" 6 ["book","place"] (spR K mg 2 IY):=oB (N:=["book","place"]) 5 T.Gk scM λ_ _ _=>by
 walk_at "d T.Qv Bf WB Ym T.NO"
theorem FE:St.Dfn P w K mg base "made_by" 6 ["book","place"] (spD K 2 D0):=dfW (N:=["book","place"]) 5 T.Gk scM λ_ _ _=>by
 walk_at "d T.Qv Bf WB Ym"
theorem WL:St.Dfn P w K mg base "all_to_one" 1 ["many","one"] (spD K 2 ED):=dfW (N:=["many","one"]) 0 T.C3 scM λ_ _ _=>by
 have:AR ["many","one"] (AB C3) ["one","at"] (ixC [1] 1) (JC C3 0):=csM
 have:(["one","at"]:Wp Str).Nodup:=by decide+kernel
 walk_at "d T.bt T.dN T.Oj"
theorem SX:St.Dfn P w K mg base "mixed_shares" 4 ["shares","weight","others","more"] (spD K 4 BV):=dfW (N:=["shares","weight","others","more"]) 3 T.CM scM λ_ _ _=>by
 have:AR ["shares","weight","others","more"] (AB CM) ["weight","more","share","other"] (ixC [1,3] 2) (JC CM 0):=csM
 have:(["weight","more","share","other"]:Wp Str).Nodup:=by decide+kernel
 walk_at "d T.bt iA"
theorem UZ:St.Dfn P w K mg base "made_shares" 5 ["held","shares","deed"] (spD K 3 BD):=dfW (N:=["held","shares","deed","sources","load","other"]) 4 T.E7 scM λ_ _ _=>by
 walk_at "d T.bt Wx SX"
theorem Sj:St.Dfn P w K mg base "worth_of_all" 1 ["train","held","worths"] (spD K 3 DC):=dfW (N:=["train","held","worths"]) 0 T.CN scM λ_ _ _=>by
 have:AR ["train","held","worths"] (AB CN) ["worths","kind","pieces"] (ixC [2] 2) (JC CN 0):=csM
 have:(["worths","kind","pieces"]:Wp Str).Nodup:=by decide+kernel
 walk_at "d T.bt"
theorem Uj:St.Dfn P w K mg base "part_thrown" 3 ["train","held","deed"] (spD K 3 Dp):=dfW (N:=["train","held","deed","load","pieces","worths"]) 2 T.FR scM λ_ _ _=>by
 walk_at "d cy Sj"
theorem SH:St.Dfn P w K mg base "thrown_shares" 5 ["train","held","owners","deed","shares"] (spD K 5 Cr):=dfW (N:=["train","held","owners","deed","shares","top","bottom"]) 4 T.D2 scM λ_ _ _=>by
 walk_at "d SX Uj"
theorem Uz:St.Dfn P w K mg base "sold_shares" 4 ["deed","shares"] (spD K 2 Dm):=dfW (N:=["deed","shares","partner","other","sold","passed","changed"]) 3 T.Fc scM λ_ _ _=>by
 walk_at "d T.bt jD jT gU"
theorem R0:St.Dfn P w K mg base "shares_behind" 6 ["train","held","owners","deed","shares"] (spD K 5 AX):=dfW (N:=["train","held","owners","deed","shares"]) 5 T.D3 scM λ_ _ _=>by
 walk_at "d SH Uz"
theorem SD:St.Dfn P w K mg base "owners_behind" 7 ["train","held","owners","deed"] (spD K 4 Ah):=dfW (N:=["train","held","owners","deed","behind"]) 6 T.B5 scM λ_ _ _=>by
 have:AR ["train","held","owners","deed","behind"] (AB B5) ["train","held","owners","deed","shares"] (ixC [0,1,2,3] 1) (JC B5 0):=csM
 have:(["train","held","owners","deed","shares"]:Wp Str).Nodup:=by decide+kernel
 walk_at "d T.Qv WL UZ R0"
theorem YM:St.Dfn P w K mg base "state_by" 8 ["book","many"] (spD K 2 EI):=dfW (N:=["book","many","train","first","deeds","held","owners","holders","deed"]) 7 T.EK scM λ_ _ _=>by
 have:AR ["book","many","train","first","deeds","held","owners","holders","deed"] (AB EK) ["load"] (ixC [] 1) (JC EK 0):=csM
 have:(["load"]:Wp Str).Nodup:=by decide+kernel
 walk_at "d VN Rh R0 SD"
theorem YO:St.Dfn P w K mg base "all_dues" 9 ["book"] (spD K 1 EN):=dfW (N:=["book","hire","held","owners","holders","dues","shares","kind","pieces","parts"]) 8 T.EJ scM λ_ _ _=>by
 have:AR ["book","hire","held","owners","holders","dues","shares","kind","pieces","parts"] (AB EJ) ["pieces","part"] (ixC [8] 1) (JC EJ 0):=csM
 have:(["pieces","part"]:Wp Str).Nodup:=by decide+kernel
 walk_at "d T.bt gU SX YM"
theorem SY:St.Dfn P w K mg base "whole_pieces" 1 ["due"] (spD K 1 Am):=dfW (N:=["due"]) 0 T.EZ scM λ_ _ _=>by
 walk_at "d"
theorem Wt:St.Dfn P w K mg base "over_told" 10 ["book"] (spD K 1 Df):=dfW (N:=["book","held","over","dues","kind","pieces","still","left"]) 9 T.CF scM λ_ _ _=>by
 have:AR ["book","held","over","dues","kind","pieces","still","left"] (AB CF) ["due"] (ixC [] 1) (JC CF 0):=csM
 have:(["due"]:Wp Str).Nodup:=by decide+kernel
 have:AR ["book","held","over","dues","kind","pieces","still","left"] (AB CF) ["left","amount"] (ixC [7] 1) (JC CF 1):=csM
 have:(["left","amount"]:Wp Str).Nodup:=by decide+kernel
 walk_at "d T.bt jT gU dj Zm YO SY"
theorem Gp:dI P w K mg base "next_book" 11 ["book"] (spR K mg 1 Cq):=oB (N:=["book","over","partners","kinds","beasts","ahead","hire","part","held","owners","holders"]) 10 T.El scM λ_ _ _=>by
 walk_at "d T.bt T.KU Bf YM Wt T.Hq"
theorem Dt:St.Dfn P w K mg base "next_book" 11 ["book"] (spD K 1 Bv):=dfW (N:=["book","over","partners","kinds","beasts","ahead","hire","part","held","owners","holders"]) 10 T.El scM λ_ _ _=>by
 walk_at "d T.bt T.KU Bf YM Wt"
omit T bm in
theorem Lf:Au ["self","train","first"] ["self","train","first"] (AB Bw):=scM
theorem Bx:MkD P w K mg base CX0 "Leader" 8 ["self","train","first"] (spD K 3 Av):=by
 have AM:=T.AM
 have HI:=HI P base bm T
 have Gi:=Gi P base bm T
 refine lN (N:=["self","train","first"]) 7 T.Bw Lf λ{f cdv A outer s H E} nd_ hr hu=>?_
 exact(AY (FJ (Hn (Hm (deM HI hr (AE (AG 1) AI)))) (AW EF) B6)
      (AY (FJ (Hn (Hm (deM Gi hr (AE (AG 1) (AE (AG 2) AI))))) (AW EF) B6)
      (AY (NF AM (by decide) (AG 0) (IF (AE (AG 1) (AE (AG 2) (AE (IF AI) AI)))))
      (AW (NF AM (by decide) (AG 0) (PU AI))))))
omit T bm in
theorem Iu:Au ["self","book"] ["self","book"] (AB BC):=scM
theorem AZ:MeD P w K mg base CX0 "Leader" "turn_to" 1 ["self","book"] (spD K 2 Ak):=by
 have AM:=T.AM
 refine R5 (N:=["self","book"]) 0 T.BC Iu λ{f cdv A outer s H E} nd_ hr hu=>?_
 exact(AY (Dq (O0 uS um Ln (Dz AM (by decide) (AG 0)) (AE (Dz AM (by decide) (AG 0)) AI)))
      (AW (NF AM (by decide) (AG 0) (AG 1))))
omit T bm in
theorem BB:Au ["self","deed","train","first","deeds","behind"] ["self","deed"] (AB Bq):=scM
theorem Gu:MeD P w K mg base (CXr P w) "Leader" "do" 9 ["self","deed"] (spR K mg 2 Cm):=by
 have B:=T.bt
 have AM:=T.AM
 have DL:=DL P base bm T
 have CH:=CH P base bm T
 have Bf:=Bf P base bm T
 have FE:=FE P base bm T
 have AZ:=AZ P base bm T
 have JQ:=T.JQ
 have Hq:=T.Hq
 have JA:=JA P base bm T
 refine Ue (N:=["self","deed","train","first","deeds","behind"]) 8 T.Bq BB λ{f cdv A outer s H E} nd_ hr hu=>?_
 exact(Fq Xz (Vi (Dz AM (by decide) (AG 0)) (UQ rfl (DA (IZ 2 BB.nd) (DA (IZ 3 BB.nd) (DA (IZ 4 BB.nd) MJ)))))
      (Fq (We (Hn (Hm (deM DL hr (AE (AG 2) (AE (AG 1) AI))))) (KO (K1 rfl JQ rfl (AE FV AI))) PD) (FJ (Hn (Hm (deM DL hr (AE (AG 2) (AE (AG 1) AI))))) (AW EF) B6)
      (Fq Xz (HC 5 (IF (AE (AG 2) (AE (AG 3) (AE (Wd Ng (AG 4) (IF (AE (AG 1) AI))) AI)))) BB.nd)
      (Fq Xz (Dq (deM Bf hr (AE (AG 5) AI)))
      (Fq (We (Hn (Hm (deM CH hr (AE (AG 2) (AE (Ci Hs (AG 5) BM) AI))))) (KO (K1 rfl Hq rfl (AE FV AI))) PD) (FJ (Hn (Hm (deM CH hr (AE (AG 2) (AE (Ci Hs (AG 5) BM) AI))))) (AW EF) B6)
      (Fq Xz (Dq (LB AZ hr (AG 0) (AE (AG 5) AI)))
      (KO (dM (Ud JA (hr.mono (by decide)) rfl (AE (AG 5) (AE (Br Bs rfl B.len vZ (AE (AG 4) AI)) AI)))))))))))
theorem Gy:MeD P w K mg base CX0 "Leader" "do" 9 ["self","deed"] (spD K 2 CG):=by
 have B:=T.bt
 have AM:=T.AM
 have DL:=DL P base bm T
 have CH:=CH P base bm T
 have Bf:=Bf P base bm T
 have FE:=FE P base bm T
 have AZ:=AZ P base bm T
 refine R5 (N:=["self","deed","train","first","deeds","behind"]) 8 T.Bq BB λ{f cdv A outer s H E} nd_ hr hu=>?_
 exact(AY (Vi (Dz AM (by decide) (AG 0)) (UQ rfl (DA (IZ 2 BB.nd) (DA (IZ 3 BB.nd) (DA (IZ 4 BB.nd) MJ)))))
      (AY (FJ (Hn (Hm (deM DL hr (AE (AG 2) (AE (AG 1) AI))))) (AW EF) B6)
      (AY (HC 5 (IF (AE (AG 2) (AE (AG 3) (AE (Wd Ng (AG 4) (IF (AE (AG 1) AI))) AI)))) BB.nd)
      (AY (Dq (deM Bf hr (AE (AG 5) AI)))
      (AY (FJ (Hn (Hm (deM CH hr (AE (AG 2) (AE (Ci Hs (AG 5) BM) AI))))) (AW EF) B6)
      (AY (Dq (LB AZ hr (AG 0) (AE (AG 5) AI)))
      (AW (CV (deM FE hr (AE (AG 5) (AE (Br Bs rfl B.len vZ (AE (AG 4) AI)) AI)))))))))))
omit T bm in
theorem F5:Au ["self"] ["self"] (AB BF):=scM
theorem Ec:MeD P w K mg base (CXr P w) "Leader" "start" 12 ["self"] (spR K mg 1 BW):=by
 have B:=T.bt
 have AM:=T.AM
 have Dt:=Dt P base bm T
 have AZ:=AZ P base bm T
 have JZ:=T.JZ
 have Gp:=Gp P base bm T
 refine Ue (N:=["self"]) 11 T.BF F5 λ{f cdv A outer s H E} nd_ hr hu=>?_
 exact(Fq (We (Dg (IP hu) (Br Bs rfl B.len vZ (AE (Ci Hs (Dz AM (by decide) (AG 0)) BM) AI)) BM) (KO (K1 rfl JZ rfl (AE FV AI))) PD) (FJ (Dg (IP hu) (Br Bs rfl B.len vZ (AE (Ci Hs (Dz AM (by decide) (AG 0)) BM) AI)) BM) (AW EF) B6)
      (KO (bW (bG AZ (AG 0) (Ud Gp (hr.mono (by decide)) rfl (AE (Dz AM (by decide) (AG 0)) AI))))))
theorem Eb:MeD P w K mg base CX0 "Leader" "start" 12 ["self"] (spD K 1 Aw):=by
 have B:=T.bt
 have AM:=T.AM
 have Dt:=Dt P base bm T
 have AZ:=AZ P base bm T
 refine R5 (N:=["self"]) 11 T.BF F5 λ{f cdv A outer s H E} nd_ hr hu=>?_
 exact(AY (FJ (Dg (IP hu) (Br Bs rfl B.len vZ (AE (Ci Hs (Dz AM (by decide) (AG 0)) BM) AI)) BM) (AW EF) B6)
      (AW (Dq (LB AZ hr (AG 0) (AE (deM Dt hr (AE (Dz AM (by decide) (AG 0)) AI)) AI)))))
omit T bm in
theorem G3:Au ["self"] ["self"] (AB BR):=scM
theorem FY:MeD P w K mg base (CXr P w) "Leader" "undo" 1 ["self"] (spR K mg 1 CS):=by
 have B:=T.bt
 have AM:=T.AM
 have Du:=T.Du
 refine Ue (N:=["self"]) 0 T.BR G3 λ{f cdv A outer s H E} nd_ hr hu=>?_
 exact(Fq (We (Dg (IP hu) (Br Bs rfl B.len vZ (AE (Dz AM (by decide) (AG 0)) AI)) BM) (KO (K1 rfl Du rfl (AE FV AI))) PD) (FJ (Dg (IP hu) (Br Bs rfl B.len vZ (AE (Dz AM (by decide) (AG 0)) AI)) BM) (AW EF) B6)
      PD)
theorem Cd:MeD P w K mg base CX0 "Leader" "undo" 1 ["self"] (spD K 1 Aq):=by
 have B:=T.bt
 have AM:=T.AM
 refine R5 (N:=["self"]) 0 T.BR G3 λ{f cdv A outer s H E} nd_ hr hu=>?_
 exact(AY (FJ (Dg (IP hu) (Br Bs rfl B.len vZ (AE (Dz AM (by decide) (AG 0)) AI)) BM) (AW EF) B6)
      (AW (NF AM (by decide) (AG 0) (P2 vd xK Pw (Dz AM (by decide) (AG 0))))))
omit T bm in
theorem Kw:Au ["self"] ["self"] (AB Bh):=scM
theorem CY:MeD P w K mg base CX0 "Leader" "book" 1 ["self"] (spD K 1 Ar):=by
 have AM:=T.AM
 refine R5 (N:=["self"]) 0 T.Bh Kw λ{f cdv A outer s H E} nd_ hr hu=>?_
 exact(AW (CV (Dz AM (by decide) (AG 0))))
omit T bm in
theorem Gz:Au ["self","other"] ["self"] (AB Bk):=scM
theorem Fb:MeD P w K mg base CX0 "Leader" "twin" 10 ["self"] (spD K 1 CQ):=by
 have B:=T.bt
 have AM:=T.AM
 have Bx:=Bx P base bm T
 refine R5 (N:=["self","other"]) 9 T.Bk Gz λ{f cdv A outer s H E} nd_ hr hu=>?_
 exact(AY (HC 1 (OH Bx hr rfl (AE (Ci Hs (Dz AM (by decide) (AG 0)) BM) (AE (Ci Hs (Dz AM (by decide) (AG 0)) BM) AI))) Gz.nd)
      (AY (NF AM (by decide) (AG 1) (Dz AM (by decide) (AG 0)))
      (AY (NF AM (by decide) (AG 1) (Pb Mw rfl B.list boot_list (AE (Dz AM (by decide) (AG 0)) AI)))
      (AW (CV (AG 1))))))
theorem MA:St.Dfn P w K mg base "_law_pen" 1 ["_law_cell"] (spD K 1 Ha):=dfW (N:=["_law_cell"]) 0 T.L4 scM λ_ _ _=>by
 walk_at "d T.bt"
theorem Gg:St.Dfn P w K mg base "_law_cell_at" 1 ["_law_script","_law_k"] (spD K 2 CC):=dfW (N:=["_law_script","_law_k"]) 0 T.Ge scM λ_ _ _=>by
 walk_at "d T.bt"
theorem Hv:St.Dfn P w K mg base "_law_draw" 1 ["_law_pen_here","_law_bound"] (spD K 2 AF):=dfW (N:=["_law_pen_here","_law_bound","_law_found","_law_stir"]) 0 T.Jv scM λ_ _ _=>by
 walk_at "d"
theorem YH:St.Dfn P w K mg base "_law_common" 1 ["_law_one","_law_other"] (spD K 2 Fv):=dfW (N:=["_law_one","_law_other"]) 0 T.HW scM λ_ _ _=>by
 walk_at "d"
theorem cW:St.Dfn P w K mg base "_law_made" 2 ["_law_top","_law_bottom"] (spD K 2 Bd):=dfW (N:=["_law_top","_law_bottom","_law_by"]) 1 T.J0 scM λ_ _ _=>by
 walk_at "d T.bt YH"
theorem ba:St.Dfn P w K mg base "_law_whole" 3 ["_law_pen_here","_law_many"] (spD K 2 DM):=dfW (N:=["_law_pen_here","_law_many","_law_weights"]) 2 T.DH scM λ_ _ _=>by
 have:AR ["_law_pen_here","_law_many","_law_weights"] (AB DH) ["_law_pen_here","_law_one"] (ixC [0] 1) (JC DH 0):=csM
 have:(["_law_pen_here","_law_one"]:Wp Str).Nodup:=by decide+kernel
 have:AR ["_law_pen_here","_law_many","_law_weights"] (AB DH) ["_law_weights","_law_weight"] (ixC [2] 1) (JC DH 1):=csM
 have:(["_law_weights","_law_weight"]:Wp Str).Nodup:=by decide+kernel
 walk_at "d T.bt Hv cW"
theorem aW:St.Dfn P w K mg base "_law_train" 4 ["_law_pen_here"] (spD K 1 Gm):=dfW (N:=["_law_pen_here","_law_partners","_law_kinds","_law_beasts"]) 3 T.IT scM λ_ _ _=>by
 walk_at "d Hv ba"
theorem Yv:St.Dfn P w K mg base "_law_pieces" 2 ["_law_pen_here"] (spD K 1 BE):=dfW (N:=["_law_pen_here","_law_great"]) 1 T.HP scM λ_ _ _=>by
 walk_at "d Hv"
theorem cI:St.Dfn P w K mg base "_law_first" 4 ["_law_pen_here","_law_train_here"] (spD K 2 GY):=dfW (N:=["_law_pen_here","_law_train_here","_law_found","_law_k"]) 3 T.Iw scM λ_ _ _=>by
 walk_at "d T.bt Hv ba Yv"
theorem Iy:St.Dfn P w K mg base "_law_begin" 5 ["_law_pen_here"] (spD K 1 FI):=dfW (N:=["_law_pen_here","_law_train_here"]) 4 T.IU scM λ_ _ _=>by
 walk_at "d aW cI"
theorem aL:St.Dfn P w K mg base "_law_begun" 1 ["_law_book"] (spD K 1 FQ):=dfW (N:=["_law_book"]) 0 T.FO scM λ_ _ _=>by
 have:AR ["_law_book"] (AB FO) ["_law_load"] (ixC [] 1) (JC FO 0):=csM
 have:(["_law_load"]:Wp Str).Nodup:=by decide+kernel
 walk_at "d T.bt"
theorem cu:St.Dfn P w K mg base "_law_plus" 3 ["_law_one","_law_other"] (spD K 2 B7):=dfW (N:=["_law_one","_law_other"]) 2 T.KI scM λ_ _ _=>by
 walk_at "d cW"
theorem Zy:St.Dfn P w K mg base "_law_times" 3 ["_law_one","_law_other"] (spD K 2 Ap):=dfW (N:=["_law_one","_law_other"]) 2 T.Ia scM λ_ _ _=>by
 walk_at "d cW"
theorem ZC:St.Dfn P w K mg base "_law_pooled" 4 ["_law_one","_law_other"] (spD K 2 Fm):=dfW (N:=["_law_one","_law_other","_law_found","_law_mine","_law_its","_law_both"]) 3 T.Hc scM λ_ _ _=>by
 walk_at "d T.bt cW cu Zy"
theorem cw:St.Dfn P w K mg base "_law_cost" 3 ["_law_train_here","_law_loads","_law_deed_here"] (spD K 3 Ht):=dfW (N:=["_law_train_here","_law_loads","_law_deed_here","_law_worths_here","_law_whole_here"]) 2 T.F8 scM λ_ _ _=>by
 have:AR ["_law_train_here","_law_loads","_law_deed_here","_law_worths_here","_law_whole_here"] (AB F8) ["_law_worths_here","_law_kind","_law_pieces_here","_law_owners"] (ixC [3] 3) (JC F8 0):=csM
 have:(["_law_worths_here","_law_kind","_law_pieces_here","_law_owners"]:Wp Str).Nodup:=by decide+kernel
 walk_at "d T.bt cW"
theorem cZ:St.Dfn P w K mg base "_law_less" 4 ["_law_one","_law_other"] (spD K 2 DZ):=dfW (N:=["_law_one","_law_other"]) 3 T.Jx scM λ_ _ _=>by
 walk_at "d cu"
theorem Zg:St.Dfn P w K mg base "_law_borne" 5 ["_law_shares","_law_part","_law_owners"] (spD K 3 D7):=dfW (N:=["_law_shares","_law_part","_law_owners","_law_found","_law_mine","_law_its"]) 4 T.Ic scM λ_ _ _=>by
 walk_at "d T.bt cu Zy cZ"
theorem cX:St.Dfn P w K mg base "_law_sold" 5 ["_law_shares","_law_deed_here"] (spD K 2 Es):=dfW (N:=["_law_shares","_law_deed_here","_law_found","_law_passes"]) 4 T.KD scM λ_ _ _=>by
 walk_at "d T.bt cu Zy cZ"
theorem cR:St.Dfn P w K mg base "_law_turn" 6 ["_law_train_here","_law_state","_law_deed_here"] (spD K 3 Et):=dfW (N:=["_law_train_here","_law_state","_law_deed_here","_law_loads","_law_holders","_law_numbers","_law_part","_law_owners","_law_load"]) 5 T.Jo scM λ_ _ _=>by
 walk_at "d cw Zg cX"
theorem iX:St.Dfn P w K mg base "_law_do" 7 ["_law_train_here","_law_state","_law_deed_here"] (spD K 3 Dw):=dfW (N:=["_law_train_here","_law_state","_law_deed_here","_law_loads","_law_holders","_law_numbers","_law_word","_law_one","_law_other","_law_load","_law_given","_law_kind","_law_got"]) 6 T.JT scM λ_ _ _=>by
 have:AR ["_law_train_here","_law_state","_law_deed_here","_law_loads","_law_holders","_law_numbers","_law_word","_law_one","_law_other","_law_load","_law_given","_law_kind","_law_got"] (AB JT) ["_law_deed_here","_law_one"] (ixC [2] 1) (JC JT 0):=csM
 have:(["_law_deed_here","_law_one"]:Wp Str).Nodup:=by decide+kernel
 walk_at "d T.bt ZC cR"
theorem cC:St.Dfn P w K mg base "_law_share" 3 ["_law_pen_here"] (spD K 1 FX):=dfW (N:=["_law_pen_here","_law_bottom"]) 2 T.Io scM λ_ _ _=>by
 walk_at "d Hv cW"
theorem Yk:St.Dfn P w K mg base "_law_worths" 2 ["_law_pen_here","_law_many"] (spD K 2 Dc):=dfW (N:=["_law_pen_here","_law_many"]) 1 T.ER scM λ_ _ _=>by
 have:AR ["_law_pen_here","_law_many"] (AB ER) ["_law_pen_here","_law_one"] (ixC [0] 1) (JC ER 0):=csM
 have:(["_law_pen_here","_law_one"]:Wp Str).Nodup:=by decide+kernel
 walk_at "d T.bt Hv"
theorem cx:St.Dfn P w K mg base "_law_deed" 4 ["_law_pen_here","_law_train_here","_law_state"] (spD K 3 DX):=dfW (N:=["_law_pen_here","_law_train_here","_law_state","_law_loads","_law_holders","_law_numbers","_law_full","_law_way","_law_load","_law_some","_law_same","_law_kind","_law_left","_law_partner"]) 3 T.Cu scM λ_ _ _=>by
 have:AR ["_law_pen_here","_law_train_here","_law_state","_law_loads","_law_holders","_law_numbers","_law_full","_law_way","_law_load","_law_some","_law_same","_law_kind","_law_left","_law_partner"] (AB Cu) ["_law_at","_law_load"] (ixC [] 2) (JC Cu 0):=csM
 have:(["_law_at","_law_load"]:Wp Str).Nodup:=by decide+kernel
 have:AR ["_law_pen_here","_law_train_here","_law_state","_law_loads","_law_holders","_law_numbers","_law_full","_law_way","_law_load","_law_some","_law_same","_law_kind","_law_left","_law_partner"] (AB Cu) ["_law_loads","_law_load","_law_at"] (ixC [3,8] 1) (JC Cu 1):=csM
 have:(["_law_loads","_law_load","_law_at"]:Wp Str).Nodup:=by decide+kernel
 have:AR ["_law_pen_here","_law_train_here","_law_state","_law_loads","_law_holders","_law_numbers","_law_full","_law_way","_law_load","_law_some","_law_same","_law_kind","_law_left","_law_partner"] (AB Cu) ["_law_numbers","_law_number"] (ixC [5] 1) (JC Cu 2):=csM
 have:(["_law_numbers","_law_number"]:Wp Str).Nodup:=by decide+kernel
 walk_at "d T.bt Hv Yv cC Yk"
theorem Jz:St.Dfn P w K mg base "_law_good" 8 ["_law_pen_here","_law_book"] (spD K 2 GH):=dfW (N:=["_law_pen_here","_law_book","_law_state","_law_deed_here"]) 7 T.KN scM λ_ _ _=>by
 walk_at "d aL iX cx"
theorem GV:St.Dfn P w K mg base "_law_made_by" 1 ["_law_book","_law_deed_here"] (spD K 2 Bp):=dfW (N:=["_law_book","_law_deed_here"]) 0 T.CA scM λ_ _ _=>by
 have:AR ["_law_book","_law_deed_here"] (AB CA) ["_law_one"] (ixC [] 1) (JC CA 0):=csM
 have:(["_law_one"]:Wp Str).Nodup:=by decide+kernel
 have:AR ["_law_book","_law_deed_here"] (AB CA) ["_law_one"] (ixC [] 1) (JC CA 1):=csM
 have:(["_law_one"]:Wp Str).Nodup:=by decide+kernel
 walk_at "d T.bt"
theorem KH:St.Dfn P w K mg base "_law_with" 1 ["_law_book","_law_deed_here"] (spD K 2 F9):=dfW (N:=["_law_book","_law_deed_here"]) 0 T.KQ scM λ_ _ _=>by
 walk_at "d"
end
def nr{a b:α}(h:a=b):a=b:=h
@[simp high] def Ay{α β:Type}(a:α)(f:α->Option β):(some a).bind f=f a:=Eq.mp (congrArg (λz=>z=f a) rfl) (Eq.refl (f a))
@[simp high] def kO{α β:Type}(a:α)(f:α->β):(some a).map f=some (f a):=Eq.mp (congrArg (λz=>z=some (f a)) rfl) (Eq.refl (some (f a)))
section
variable{E:En}{S:Sto}{op:OpN}{f g c:Ev}{d:D}{i:Nat}{w:Wv}{a b e h r':D}{r:Wp D}{fs:Wp Ev}
@[simp] def qp:at? (o::E) 0=o:=nr rfl
@[simp] def qe:at? (o::E) (i+1)=at? E i:=nr rfl
@[simp] def nY:eC d E S=some (d,S):=nr rfl
@[simp] def nI:eV i E S=(at? E i).map λd=>(d,S):=nr rfl
@[simp] def bD:evs [] E S=some ([],S):=nr rfl
@[simp] def C9:evs (f::fs) E S=(f E S).bind λr=>(evs fs E r.2).map λq=>(r.1::q.1,q.2):=nr rfl
@[simp] def TJ{cf:Bool}:OP cf op fs E S=(evs fs E S).bind λr=>(op (r.1.map (dr r.2))).bind λw=>fin cf w r.2:=nr rfl
@[simp] def oP{cf:Bool}:fin cf (.val d) S=some (d,S):=by cases cf<;>rfl
@[simp] def qT:fin false (.own r) S=some (.lst r,S):=nr rfl
@[simp] def oI:fin true (.own r) S=some (.ref S.length,S++[.lst r]):=nr rfl
@[simp] def nG:dr S .non=.val .non:=nr rfl
@[simp] def oK{b:Bool}:dr S (.bl b)=.val (.bl b):=nr rfl
@[simp] def nS{i:Int}:dr S (.int i)=.val (.int i):=nr rfl
@[simp] def mq{x:Str}:dr S (.str x)=.val (.str x):=nr rfl
@[simp] def pM{x:String}:dr S (.ty x)=.val (.ty x):=nr rfl
@[simp] def nW:dr S (.tup r)=.val (.tup r):=nr rfl
@[simp] def oF:dr S (.lst r)=.val (.lst r):=nr rfl
@[simp] def mW{ns:List Int}:dr S (.scr ns)=.val (.scr ns):=nr rfl
def Ac{n:Nat}(h:S[n]?=Gc (.lst r)):dr S (.ref n)=.own r:=by
 show(match S[n]? with|some (.lst ds)=>Wv.own ds|_=>.val (.ref n))=_
 rw[h]
def AJ{n:Nat}(h:S[n]?=Gc (.lst r)):Ea S n=Gc r:=by
 unfold Ea
 rw[h]
@[simp] def nM:fz (.val d)=d:=nr rfl
noncomputable def lK(g:Ev)(E:En)(r:D×Sto):qz (D×Sto):=match r.1 with| .bl true=>g E r.2| .bl false=>Gc (.bl false,r.2)|_=>none
noncomputable def orK(g:Ev)(E:En)(r:D×Sto):qz (D×Sto):=match r.1 with| .bl false=>g E r.2| .bl true=>Gc (.bl true,r.2)|_=>none
noncomputable def oG(r:D×Sto):qz (D×Sto):=match r.1 with| .bl b=>Gc (.bl (!b),r.2)|_=>none
noncomputable def ifK(f g:Ev)(E:En)(r:D×Sto):qz (D×Sto):=match r.1 with| .bl true=>f E r.2| .bl false=>g E r.2|_=>none
@[simp] def mQ:lK g E (.bl true,S)=g E S:=nr rfl
@[simp] def mw:lK g E (.bl false,S)=some (.bl false,S):=nr rfl
@[simp] def pD:orK g E (.bl false,S)=g E S:=nr rfl
@[simp] def qG:orK g E (.bl true,S)=some (.bl true,S):=nr rfl
@[simp] def mZ{b:Bool}:oG (.bl b,S)=some (.bl (!b),S):=nr rfl
@[simp] def oq:ifK f g E (.bl true,S)=f E S:=nr rfl
@[simp] def pK:ifK f g E (.bl false,S)=g E S:=nr rfl
@[simp] def iz:Ff f g E S=(f E S).bind (lK g E):=nr rfl
@[simp] def kj:eOr f g E S=(f E S).bind (orK g E):=nr rfl
@[simp] def i0:GP f E S=(f E S).bind oG:=nr rfl
@[simp] def kZ:eIf c f g E S=(c E S).bind (ifK f g E):=nr rfl
@[simp] def jX:Bn fs E S=(evs fs E S).bind λr=>if r.1.length<=sizeLine then some (.tup r.1,r.2)else none:=nr rfl
@[simp] def jw{cf:Bool}:X6 cf fs E S=(evs fs E S).bind λr=>if r.1.length<=sizeLine then fin cf (.own r.1) r.2 else none:=nr rfl
@[simp] def fD{F:Fn}:AD F fs E S=(evs fs E S).bind λr=>F r.1 r.2:=nr rfl
noncomputable def oA(op:Mo)(fs:Wp Ev)(E:En)(r:D×Sto):qz (D×Sto):=match r.1 with
 | .ref n=>(Ea r.2 n).bind λ_=>(evs fs E r.2).bind λp=>(Ea p.2 n).bind λds=>(op p.2 ds p.1).map λq=>(q.1,p.2.set n (.lst q.2))
 |_=>none
@[simp] def jo{op:Mo}:oA op fs E (.ref n,S)=(Ea S n).bind λ_=>(evs fs E S).bind λp=>(Ea p.2 n).bind λds=>(op p.2 ds p.1).map λq=>(q.1,p.2.set n (.lst q.2)):=nr rfl
@[simp] def jG{op:Mo}:HG op f fs E S=(f E S).bind (oA op fs E):=nr rfl
@[simp] def jn:J4 S r [d]=if r.length<sizeLine then some (.non,r++[d])else none:=nr rfl
variable{x y:Ex}
noncomputable def cU(y:Ex)(r:Fl×En×Sto):qz (Fl×En×Sto):=match r.1 with| .nx=>y r.2.1 r.2.2| .ret w=>Gc (.ret w,r.2)
noncomputable def j8(x y:Ex)(E:En)(r:D×Sto):qz (Fl×En×Sto):=match r.1 with| .bl true=>x E r.2| .bl false=>y E r.2|_=>none
@[simp] def P1:cU y (.nx,E,S)=y E S:=nr rfl
@[simp] def jv{w:D}:cU y (.ret w,E,S)=some (.ret w,E,S):=nr rfl
@[simp] def mh:j8 x y E (.bl true,S)=x E S:=nr rfl
@[simp] def mR:j8 x y E (.bl false,S)=y E S:=nr rfl
@[simp] def Q9:AN x y E S=(x E S).bind (cU y):=nr rfl
@[simp] def jY:Bb E S=some (.nx,E,S):=nr rfl
@[simp] def Vy:xIf c x y E S=(c E S).bind (j8 x y E):=nr rfl
@[simp] def jh:Ag f E S=(f E S).map λr=>(.ret r.1,E,r.2):=nr rfl
@[simp] def Xv:BN i f E S=(f E S).map λr=>(.nx,E.set i (some r.1),r.2):=nr rfl
@[simp] def Sv:BP f E S=(f E S).map λr=>(.nx,E,r.2):=nr rfl
noncomputable def my(d b:D)(E:En)(i:D×Sto):qz (Fl×En×Sto):=match b,i.1 with
 | .ref n,.int j=>(Ea i.2 n).bind λds=>(ixN ds.length j).map λm=>(.nx,E,i.2.set n (.lst (ds.set m d)))
 |_,_=>none
@[simp] def js:my d (.ref n) E (.int j,S)=(Ea S n).bind λds=>(ixN ds.length j).map λm=>(.nx,E,S.set n (.lst (ds.set m d))):=nr rfl
@[simp] def jO{k o:Ev}:M9 k f o E S=(k E S).bind λr=>(f E r.2).bind λb=>(o E b.2).bind (my r.1 b.1 E):=nr rfl
@[simp] def ia{t:Tf}:Jn t f E S=(f E S).bind λr=>(t r.1 E r.2).map λE'=>(.nx,E',r.2):=nr rfl
@[simp] def ip{i j:Nat}:UP i j f g E S=(f E S).bind λr=>(g E r.2).map λq=>(.nx,(E.set i (some r.1)).set j (some q.1),q.2):=by
  unfold UP
  rw[C9]
  cases f E S with
  |none=>rfl
  |some r=>
   rw[Ay,Ay,C9]
   cases g E r.2 with
   |none=>rfl
   |some q=>rfl
@[simp] def Ze:tNm i d E S=some (E.set i (some d)):=nr rfl
@[simp] def lB:tTp ts (.tup ds) E S=tMs ts ds E S:=nr rfl
@[simp] def km:tTp ts (.lst ds) E S=tMs ts ds E S:=nr rfl
@[simp] def kY:tTp ts (.ref n) E S=(Ea S n).bind λds=>tMs ts ds E S:=nr rfl
@[simp] def j9:tMs [] [] E S=some E:=nr rfl
@[simp] def jQ:tMs (t::ts) (d::ds) E S=(t d E S).bind λE1=>tMs ts ds E1 S:=nr rfl
@[simp] def dv:AS (AV N x) ds S=(x (ds.map some++List.replicate (N-ds.length) none) S).map λr=>(flD r.1,r.2.2):=by rw[Ga];rfl
@[simp] def nJ:flD .nx=.non:=nr rfl
@[simp] def kf:flD (.ret d)=d:=nr rfl
@[simp] def mD{i j:Int}:Cy (.val (.int i)) (.val (.int j))=some (.val (.int (i+j))):=nr rfl
@[simp] def j4{xs ys:List D}:Cy (.val (.tup xs)) (.val (.tup ys))=if xs.length+ys.length<=sizeLine then some (.val (.tup (xs++ys)))else none:=nr rfl
@[simp] def lY{xs ys:List D}:Cy (.val (.lst xs)) (.val (.lst ys))=if xs.length+ys.length<=sizeLine then some (.own (xs++ys))else none:=nr rfl
@[simp] def jL{i j:Int}:CO (.val (.int i)) (.val (.int j))=if De i j=true then some (.val (.int (i*j)))else none:=nr rfl
@[simp] def jc{k:Int}:CO (.val (.tup r)) (.val (.int k))=if(!r.isEmpty && decide (k<=0) && decide (-(2^63)<=k))=true then some (.val (.tup []))else if(!r.isEmpty && decide (1<=k) && decide (r.length*k.toNat<=sizeLine))=true then some (.val (.tup (List.replicate k.toNat r).flatten))else none:=nr rfl
@[simp] def lh:asS (.own r)=some r:=nr rfl
@[simp] def lL:asS (.val (.lst r))=some r:=nr rfl
@[simp] def kL:asS (.val (.tup r))=some r:=nr rfl
@[simp] def lJ{ns:List Int}:asS (.val (.scr ns))=some (ns.map .int):=nr rfl
@[simp] def ZZ{j:Int}:wIx w (.val (.int j))=(asS w).bind λds=>(atI ds j).map .val:=nr rfl
def CW{n:Nat}{x:α}(h:xs[n]?=Gc x):atI xs (n:Int)=Gc x:=ZM h
def Yh{xs:Wp α}{i:Int}(h0:0<=i)(h1:i<xs.length):atI xs i=Gc (xs[i.toNat]'(by lia)):=by
 have:atI xs ((i.toNat:Nat):Int)=Gc (xs[i.toNat]'(by lia)):=CW (rE (by lia))
 rwa [sf h0]at this
@[simp] def oU:atI (a::r) 0=some a:=CW (n:=0) rfl
@[simp] def pI:atI (a::b::r) 1=some b:=CW (n:=1) rfl
@[simp] def qJ:atI (a::b::e::r) 2=some e:=CW (n:=2) rfl
@[simp] def oZ:atI (a::b::e::h::r) 3=some h:=CW (n:=3) rfl
@[simp] def qB{k:D}:atI (a::b::e::h::k::r) 4=some k:=CW (n:=4) rfl
def Ny{n k:Nat}(h:k<n):ixN n (k:Int)=Gc k:=by
 unfold ixN
 simp
 lia
def RQ{n:Nat}{i:Int}(h0:0<=i)(h1:i<n):ixN n i=Gc i.toNat:=by
 have:=Ny (n:=n) (k:=i.toNat) (by lia)
 rwa [sf h0]at this
@[simp] def pZ{n:Nat}:ixN (n+1) 0=some 0:=RQ (by decide) (by lia)
@[simp] def oX{n:Nat}:ixN (n+2) 1=some 1:=RQ (by decide) (by lia)
@[simp] def pB{n:Nat}:ixN (n+3) 2=some 2:=RQ (by decide) (by lia)
@[simp] def mS{i j:Int}:deq (.int i) (.int j)=(i==j):=nr rfl
@[simp] def kF{i j:Int}:Kr (.int i) (.int j)=true:=nr rfl
@[simp] def ke{w':Wv}:wEq w w'=if Kr (fz w) (fz w')=true then some (.val (.bl (deq (fz w) (fz w'))))else none:=nr rfl
@[simp] def j5{w':Wv}:wNe w w'=if Kr (fz w) (fz w')=true then some (.val (.bl (!deq (fz w) (fz w'))))else none:=nr rfl
@[simp] def lT{i j:Int}:wLt (.val (.int i)) (.val (.int j))=some (.val (.bl (decide (i<j)))):=nr rfl
@[simp] def jy{i j:Int}:wLe (.val (.int i)) (.val (.int j))=some (.val (.bl (decide (i<=j)))):=nr rfl
@[simp] def mE{i j:Int}:wGt (.val (.int i)) (.val (.int j))=some (.val (.bl (decide (j<i)))):=nr rfl
@[simp] def kh{i j:Int}:wGe (.val (.int i)) (.val (.int j))=some (.val (.bl (decide (j<=i)))):=nr rfl
@[simp] def jB{i j:Int}:OO (.val (.int i)) (.val (.int j))=some (.val (.int (i-j))):=nr rfl
@[simp] def jJ{i:Int}:LZ (.val (.int i))=some (.val (.int (-i))):=nr rfl
@[simp] def jS{i j:Int}:Pm (.val (.int i)) (.val (.int j))=(if 0<j then some (.val (.int (i % j)))else none):=by
  show AAK Wv.val (if 0<j then Gc (D.int (i % j))else none)=_
  split<;>rfl
@[simp] def iK{i j:Int}:MT (.val (.int i)) (.val (.int j))=(if(decide (0<j) && decide (j.natAbs<Ey))=true then some (.val (.int (i / j)))else none):=by
  show AAK Wv.val (if(decide (0<j) && decide (j.natAbs<Ey))=true then Gc (D.int (i / j))else none)=_
  split<;>rfl
@[simp] def jK{i j:Int}:jE (.val (.int i)) (.val (.int j))=if(decide (0<=j) && decide (j<=1000) && decide (i.natAbs<2^64))=true then some (.val (.int (i^j.toNat)))else none:=by
  show AAK Wv.val (if(decide (0<=j) && decide (j<=1000) && decide (i.natAbs<2^64))=true then Gc (D.int (i^j.toNat))else none)=_
  split<;>rfl
@[simp] def i9{i:Int}:cY (.val (.int i))=some (.val (.int (i.natAbs:Int))):=by
  show Gc (Wv.val (D.int (if i<0 then-i else i)))=_
  congr 3
  split<;>lia
@[simp] def jj:Cv (.own r)=some (.val (.int r.length)):=nr rfl
@[simp] def jR:Cv (.val (.lst r))=some (.val (.int r.length)):=nr rfl
@[simp] def jf:Cv (.val (.tup r))=some (.val (.int r.length)):=nr rfl
@[simp] def jr{ns:List Int}:Cv (.val (.scr ns))=some (.val (.int ns.length)):=by
  show Gc (Wv.val (D.int ((ns.map D.int).length:Nat)))=_
  rw[sG]
@[simp] def cS:DO w=(asS w).map λds=>.val (.tup ds):=nr rfl
@[simp] def iM:Jy w=(asS w).map λds=>.own ds:=nr rfl
@[simp] def mT{b:Bool}:ZU (.val (.bl b))=some (.val (.int (if b then 1 else 0))):=nr rfl
@[simp] def jq{i j:Int}:i6 (.val (.int i)) (.val (.int j))=some (.val (.int (if j<i then j else i))):=nr rfl
@[simp] def jt{T:String}:Qp w (.val (.ty T))=if PF T=true then(kdW w).map λk=>.val (.bl (k.isA T))else none:=nr rfl
@[simp] def kN:PF "int"=true:=by decide
@[simp] def iZ:PF "bool"=true:=by decide
@[simp] def dR:PF "tuple"=true:=by decide
@[simp] def kr:PF "str"=true:=by decide
@[simp] def iy:WK (.val (.lst r))=(bls r).map λbs=>.val (.bl (bs.all id)):=nr rfl
def AK{n:Nat}(h:n<=1000):n<=sizeLine:=q8 h (by decide)
@[simp] def sz1:(1:Nat)<=sizeLine:=AK (by decide)
@[simp] def sz2:(2:Nat)<=sizeLine:=AK (by decide)
@[simp] def sz3:(3:Nat)<=sizeLine:=AK (by decide)
@[simp] def sz4:(4:Nat)<=sizeLine:=AK (by decide)
@[simp] def sz5:(5:Nat)<=sizeLine:=AK (by decide)
@[simp] def sz6:(6:Nat)<=sizeLine:=AK (by decide)
@[simp] def F6:BX E S=some (.bl true,S):=nr rfl
@[simp] def jb{b:Ex}:NJ s t b E S=(s E S).bind λr=>Kv r.1.2 t b r.1.1 E r.2:=nr rfl
@[simp] def Ad:gOk [] S:=λ_ h=>(nomatch h)
def Fi{b:Ex}(h:gOk gs S):Kv gs t b [] E S=Gc (.nx,E,S):=by
 unfold Kv
 rw[sD h]
def Tu {b:Ex}(h:gOk gs S):Kv gs t b (d::ds) E S=(t d E S).bind λE1=>(b E1 S).bind λr=>match r.1 with
    | .nx => Kv gs t b ds r.2.1 r.2.2
    | .ret w=>Gc (.ret w,r.2):=by
  rw [Kv, sD h]
  all_goals rfl
def DR{b:Ex}(h:gOk gs S):Kv gs t b (d::ds) E S=(t d E S).bind λE1=>(b E1 S).bind (cU (Kv gs t b ds)):=by
 rw[Tu h]
 rfl
@[simp] def i7:GO f E S=(f E S).bind λr=>(sqD r.2 r.1).map λp=>(p,r.2):=nr rfl
@[simp] def lX:sqD S (.tup r)=some (r,[]):=nr rfl
@[simp] def ku:sqD S (.lst r)=some (r,[]):=nr rfl
def FH{n:Nat}(h:S[n]?=Gc (.lst r)):sqD S (.ref n)=Gc (r,[(n,r)]):=by
 show(Ea S n).map (λds=>(ds,[(n,ds)]))=_
 rw[AJ h]
 rfl
@[simp] def ja:cM f E S=(f E S).bind λr=>(sqD r.2 r.1).map λp=>((OF 0 p.1,p.2),r.2):=nr rfl
@[simp] def ju:Sn f g E S=(f E S).bind λr=>(g E r.2).bind λq=>(sqD q.2 r.1).bind λa=>(sqD q.2 q.1).map λb=>((K4 a.1 b.1,a.2++b.2),q.2):=by
  unfold Sn
  rw[C9]
  cases f E S with
  |none=>rfl
  |some r=>
   rw[Ay,Ay,C9]
   cases g E r.2 with
   |none=>rfl
   |some q=>rfl
noncomputable def L6(j:Int):su:=decide (-(2^62)<=j) && decide (j<2^62)
def Gb{j:Int}(h: -1000000<=j)(g:j<=1000000):L6 j=true:=by
 unfold L6
 rw[rH]
 exact⟨uT (by lia),uT (by lia)⟩
noncomputable def nR(S:Sto):D->qz ((Wp D×Gd)×Sto)
 | .int j=>if L6 j=true then Gc ((OQ 0 j.toNat,[]),S)else none
 |_=>none
@[simp] def iu{j:Int}:nR S (.int j)=if L6 j=true then some ((OQ 0 j.toNat,[]),S)else none:=nr rfl
@[simp] def jA:Sk [f] E S=(f E S).bind λr=>nR r.2 r.1:=by
  unfold Sk
  rw[C9]
  cases f E S with
  |none=>rfl
  |some r=>
   obtain⟨d,S1⟩:=r
   rw[Ay,bD,kO,Ay,Ay]
   cases d<;>rfl
@[simp] def eN:NN cf cap m s t c f E S=(s E S).bind λr=>(Bl r.1.2 t c f r.1.1 [] (Q7 cap m E) r.2).bind λq=>fin cf (.own q.1) q.2:=nr rfl
@[simp] def jU:Q7 cap m E=cap.map (at? E)++List.replicate m none:=nr rfl
theorem QE{α:Type}(p:α->su):∀xs:Wp α,bls (xs.map λx=>.bl (p x))=Gc (xs.map p)
 | []=>rfl
 |x::xs=>by
  have ih:=QE p xs
  unfold bls at ih⊢
  rw[rT,yH,ih]
  rfl
@[simp] def R4{i:Int}:Kt (.int i::r)=(Kt r).map λns=>i::ns:=by
  unfold Kt
  rw[yH]
  show(do let r1<-Gc i;let rs<-List.mapM intD r;pure (r1::rs))=_
  cases List.mapM intD r<;>rfl
theorem GN:∀(ns:Wp Int),Kt (ns.map D.int)=Gc ns
 | []=>rfl
 |n::ns=>by rw[rT,R4,GN ns];rfl
@[simp] def ig:Wq (.own r)=(Kt r).map λns=>.val (.int ns.sum):=nr rfl
@[simp] def jW:Wq (.val (.lst r))=(Kt r).map λns=>.val (.int ns.sum):=nr rfl
@[simp] def nV:XB false w (.val .non)=some (.val (.bl (isN w))):=nr rfl
@[simp] def oH:XB true w (.val .non)=some (.val (.bl (!isN w))):=nr rfl
@[simp] def oV{i:Int}:MP true false [w,.val (.int i)]=wSl (some i) none w:=nr rfl
@[simp] def pz{i:Int}:MP false true [w,.val (.int i)]=wSl none (some i) w:=nr rfl
@[simp] def oj{i j:Int}:MP true true [w,.val (.int i),.val (.int j)]=wSl (some i) (some j) w:=nr rfl
@[simp] def k9{lo hi:Option Int}:wSl lo hi (.val (.tup r))=some (.val (.tup (MO r lo hi))):=nr rfl
end
structure Ba(A:Wp Nat)(S S':Sto):Prop where
 len:S.length<=S'.length
 keep:∀n,n<S.length->n∉A->S'[n]?=S[n]?
def Ba.refl:Ba A S S:=⟨q9 _,λ_ _ _=>rfl⟩
def Ba.trans(h:Ba A S S')(g:Ba A S' S2):Ba A S S2:=⟨q8 h.len g.len,λn hn ha=>(g.keep n (qw hn h.len) ha).trans (h.keep n hn ha)⟩
def Ba.mono(h:Ba A S S')(s:∀n∈A,n∈B):Ba B S S':=⟨h.len,λn hn hb=>h.keep n hn λz=>hb (s n z)⟩
def Ba.get(h:Ba A S S')(e:S[n]?=Gc c)(ha:n∉A):S'[n]?=Gc c:=by
 rw[h.keep n (rB.mp e).1 ha];exact e
def Ba.app:Ba A S (S++T):=⟨by simp,λn hn _=>qv hn⟩
def Ba.set(h:n∈A):Ba A S (S.set n c):=⟨by simp,λm hm ha=>rA (λz=>ha (by rw[<-z];exact h))⟩
def Ba.new(h:Ba A S S')(g:Ba (A++B) S' S2)(hb:∀n∈B,S.length<=n):Ba A S S2:=⟨q8 h.len g.len,λn hn ha=>(g.keep n (qw hn h.len) (λz=>by
 rcases rf.mp z with z|z
 .exact ha z
 .have:=hb n z;lia)).trans (h.keep n hn ha)⟩
def AQ{S:Sto}(h:S[n]?=Gc c):n<S.length:=(rB.mp h).1
section
variable{E:En}{S:Sto}
@[simp high] def iW{op:Op1}:OP cf (o1 op) [f] E S=(f E S).bind λr=>(op (dr r.2 r.1)).bind λw=>fin cf w r.2:=by
  rw[TJ,C9];cases f E S<;>rfl
@[simp high] def Wl{op:Op2}:OP cf (o2 op) [f,g] E S=(f E S).bind λr=>(g E r.2).bind λq=>(op (dr q.2 r.1) (dr q.2 q.1)).bind λw=>fin cf w q.2:=by
  rw[TJ,C9]
  cases f E S with
  |none=>rfl
  |some r=>rw[Ay,Ay,C9];cases g E r.2<;>rfl
def m8:evs [f] E S=(f E S).bind λr=>Gc ([r.1],r.2):=by rw[C9];cases f E S<;>rfl
def nj:evs [f,g] E S=(f E S).bind λr=>(g E r.2).bind λq=>Gc ([r.1,q.1],q.2):=by
 rw[C9];cases f E S with
 |none=>rfl
 |some r=>rw[Ay,Ay,m8];cases g E r.2<;>rfl
def mn:evs [f,g,h] E S=(f E S).bind λr=>(g E r.2).bind λq=>(h E q.2).bind λu=>Gc ([r.1,q.1,u.1],u.2):=by
 rw[C9];cases f E S with
 |none=>rfl
 |some r=>rw[Ay,Ay,nj];cases g E r.2 with
  |none=>rfl
  |some q=>rw[Ay,Ay];cases h E q.2<;>rfl
def qP:evs [f,g,h,k] E S=(f E S).bind λr=>(g E r.2).bind λq=>(h E q.2).bind λu=>(k E u.2).bind λv=>Gc ([r.1,q.1,u.1,v.1],v.2):=by
 rw[C9];cases f E S with
 |none=>rfl
 |some r=>rw[Ay,Ay,mn];cases g E r.2 with
  |none=>rfl
  |some q=>rw[Ay,Ay];cases h E q.2 with
   |none=>rfl
   |some u=>rw[Ay,Ay];cases k E u.2<;>rfl
@[simp high] def pJ:evs [f] E S=(f E S).bind λr=>some ([r.1],r.2):=m8
@[simp high] def qH:evs [f,g] E S=(f E S).bind λr=>(g E r.2).bind λq=>some ([r.1,q.1],q.2):=nj
@[simp high] def pL:evs [f,g,h] E S=(f E S).bind λr=>(g E r.2).bind λq=>(h E q.2).bind λu=>some ([r.1,q.1,u.1],u.2):=mn
@[simp high] def pS:evs [f,g,h,k] E S=(f E S).bind λr=>(g E r.2).bind λq=>(h E q.2).bind λu=>(k E u.2).bind λv=>some ([r.1,q.1,u.1,v.1],v.2):=qP
@[simp high] def qq{d:D}:eV 0 (some d::E) S=some (d,S):=nr rfl
@[simp high] def qk:eV 1 (o0::some d::E) S=some (d,S):=nr rfl
@[simp high] def qg{o0 o1:Option D}:eV 2 (o0::o1::some d::E) S=some (d,S):=nr rfl
@[simp high] def qr{o0 o1 o2:Option D}:eV 3 (o0::o1::o2::some d::E) S=some (d,S):=nr rfl
@[simp high] def ql{o0 o1 o2 o3:Option D}:eV 4 (o0::o1::o2::o3::some d::E) S=some (d,S):=nr rfl
@[simp high] def qa{o0 o1 o2 o3 o4:Option D}:eV 5 (o0::o1::o2::o3::o4::some d::E) S=some (d,S):=nr rfl
@[simp high] def qZ{o0 o1 o2 o3 o4 o5:Option D}:eV 6 (o0::o1::o2::o3::o4::o5::some d::E) S=some (d,S):=nr rfl
@[simp high] def qm{o0 o1 o2 o3 o4 o5 o6:Option D}:eV 7 (o0::o1::o2::o3::o4::o5::o6::some d::E) S=some (d,S):=nr rfl
@[simp high] def qj{o0 o1 o2 o3 o4 o5 o6 o7:Option D}:eV 8 (o0::o1::o2::o3::o4::o5::o6::o7::some d::E) S=some (d,S):=nr rfl
@[simp high] def qo{o0 o1 o2 o3 o4 o5 o6 o7 o8:Option D}:eV 9 (o0::o1::o2::o3::o4::o5::o6::o7::o8::some d::E) S=some (d,S):=nr rfl
@[simp high] def qX{o0 o1 o2 o3 o4 o5 o6 o7 o8 o9:Option D}:eV 10 (o0::o1::o2::o3::o4::o5::o6::o7::o8::o9::some d::E) S=some (d,S):=nr rfl
@[simp high] def pA{o0 o1 o2 o3 o4 o5 o6 o7 o8 o9 o10:Option D}:eV 11 (o0::o1::o2::o3::o4::o5::o6::o7::o8::o9::o10::some d::E) S=some (d,S):=nr rfl
@[simp high] def oN{o0 o1 o2 o3 o4 o5 o6 o7 o8 o9 o10 o11:Option D}:eV 12 (o0::o1::o2::o3::o4::o5::o6::o7::o8::o9::o10::o11::some d::E) S=some (d,S):=nr rfl
@[simp high] def qN{o0 o1 o2 o3 o4 o5 o6 o7 o8 o9 o10 o11 o12:Option D}:eV 13 (o0::o1::o2::o3::o4::o5::o6::o7::o8::o9::o10::o11::o12::some d::E) S=some (d,S):=nr rfl
@[simp 20000] def mY:OP cf (o2 op) [f,eC d] E S=(f E S).bind λr=>(op (dr r.2 r.1) (dr r.2 d)).bind λw=>fin cf w r.2:=by
  rw[Wl];cases f E S<;>rfl
@[simp high] def ie:AN (BN i f) y E S=(f E S).bind λr=>y (E.set i (some r.1)) r.2:=by
  rw[Q9,Xv];cases f E S<;>rfl
@[simp high] def jd{y:Ex}:AN (BP f) y E S=(f E S).bind λr=>y E r.2:=by
  rw[Q9,Sv];cases f E S<;>rfl
end
section
def mulL(h: -18446744073709551616<i)(g:i<18446744073709551616):De i j=true:=by
 unfold De
 rw[tK]
 exact .inl (uT (by lia))
def mulR(h: -18446744073709551616<j)(g:j<18446744073709551616):De i j=true:=by
 unfold De
 rw[tK,tK]
 exact .inr (.inl (uT (by lia)))
def CT(h:n<2^k)(hk:k<=8000):n<Ey:=qw h (sT (by decide) hk)
def ES{n:Int}(h0:0<n)(h1:n<1152921504606846976):n.natAbs<Ey:=CT (k:=60) (show n.natAbs<2^60 by lia) (by decide)
variable{S:Sto}
noncomputable def NM(a b:Int):Int:=((xq a.natAbs b.natAbs:Nat):Int)
theorem LJ:Fw c b (k+1) E S=(c E S).bind λr=>match r.1 with
 | .bl true=>(b E r.2).bind λp=>match p.1 with
   | .nx=>Fw c b k p.2.1 p.2.2
   | .ret w=>Gc (.ret w,p.2)
 | .bl false=>Gc (.nx,E,r.2)
 |_=>none:=rfl
def N1(e1:c E S=Gc (.bl true,S1))(e2:b E S1=Gc (.nx,E2,S2)):Fw c b (k+1) E S=Fw c b k E2 S2:=by
 rw[LJ,e1]
 show(b E S1).bind _=_
 rw[e2]
 rfl
def Nd(e1:c E S=Gc (.bl false,S1)):Fw c b (k+1) E S=Gc (.nx,E,S1):=by
 rw[LJ,e1]
 rfl
theorem Qg:∀k (x y:Nat),y<k->Fw (eOp (o2 wNe) [eV 1,eC (.int 0)]) (UP 0 1 (eV 1) (eOp (o2 Pm) [eV 0,eV 1])) k [Gc (.int x),Gc (.int y)] S=Gc (.nx,[Gc (.int (xq x y:Nat)),Gc (.int 0)],S)
 |0,x,y,h=>absurd h (Nat.not_lt_zero _)
 |k+1,x,y,h=>by
  by_cases hy:y=0
  .subst hy
   rw[Nd (S1:=S) (by simp)]
   simp
  .have hy2:(((y:Nat):Int)==0)=false:=by simpa using hy
   have ih:=Qg k y (x % y) (by have:=Nat.mod_lt x (vi hy);lia)
   rw[show((x % y:Nat):Int)=(x:Int) % (y:Int) by lia]at ih
   have hy4:0<y:=vi hy
   rw[N1 (S1:=S) (S2:=S) (E2:=[Gc (.int y),Gc (.int ((x:Int) % (y:Int)))]) (by simp[hy2]) (by simp[hy4]),ih]
   rw[yw x y,Nat.gcd_rec y x,yw]
def Yg a b:BY [.int a,.int b] S=Gc (.int (NM a b),S):=by
 have:=Qg (S:=S) (b.natAbs+2) a.natAbs b.natAbs (by lia)
 simp[BY,Ed,JM,UY,this,NM]
theorem L5:∀k (x y:Nat),y<k->Fw (eOp (o2 wGt) [eV 1,eC (.int 0)]) (UP 0 1 (eV 1) (eOp (o2 Pm) [eV 0,eV 1])) k [Gc (.int x),Gc (.int y)] S=Gc (.nx,[Gc (.int (xq x y:Nat)),Gc (.int 0)],S)
 |0,x,y,h=>absurd h (Nat.not_lt_zero _)
 |k+1,x,y,h=>by
  by_cases hy:y=0
  .subst hy
   rw[Nd (S1:=S) (by simp)]
   simp
  .have ih:=L5 k y (x % y) (by have:=Nat.mod_lt x (vi hy);lia)
   rw[show((x % y:Nat):Int)=(x:Int) % (y:Int) by lia]at ih
   have hy4:0<y:=vi hy
   rw[N1 (S1:=S) (S2:=S) (E2:=[Gc (.int y),Gc (.int ((x:Int) % (y:Int)))]) (by simp[hy4]) (by simp[hy4]),ih]
   rw[yw x y,Nat.gcd_rec y x,yw]
def Tt a b(ha:0<=a)(hb:0<=b):Fv [.int a,.int b] S=Gc (.int (NM a b),S):=by
 have:=L5 (S:=S) (b.natAbs+2) a.natAbs b.natAbs (by lia)
 have e1:((a.natAbs:Nat):Int)=a:=by lia
 have e2:((b.natAbs:Nat):Int)=b:=by lia
 rw[e1,e2]at this
 simp[Fv,Ka,JM,UY,this,NM]
noncomputable def lowP(t b:Int):Int×Int:=(t / NM t b,b / NM t b)
def Qo(h:0<b):0<NM t b:=by
 unfold NM
 have:0<xq t.natAbs b.natAbs:=Nat.gcd_pos_of_pos_right _ (by lia)
 lia
def Uq(h:0<b):(NM t b).natAbs<=b.natAbs:=by
 unfold NM
 have:xq t.natAbs b.natAbs<=b.natAbs:=Nat.gcd_le_right _ (by lia)
 lia
noncomputable def amD(p:Int×Int):D:=.tup [.int p.1,.int p.2]
def Jg(h:0<b)(hb:b.natAbs<Ey):Ck [.int t,.int b] S=Gc (amD (lowP t b),S):=by
 have h1:=Qo (t:=t) h
 have h2:(NM t b).natAbs<Ey:=sC (Uq h) hb
 simp[Ck,NS,Yg,h1,h2,amD,lowP]
def Xs:NM (t.natAbs:Int) b=NM t b:=by
 unfold NM
 rw[uN]
def QP(h:0<b)(hb:b.natAbs<Ey):Bd [.int t,.int b] S=Gc (amD (lowP t b),S):=by
 have h1:=Qo (t:=t) h
 have h2:(NM t b).natAbs<Ey:=sC (Uq h) hb
 have h3:=Tt (S:=S) (t.natAbs:Int) b (by lia) (by lia)
 rw[Xs]at h3
 simp[Bd,NR,h3,h1,h2,amD,lowP]
noncomputable def aD(q:Rat):D:=.tup [.int q.num,.int q.den]
def Sz(k:Nat)(q:Rat):Prop:=q.num.natAbs<2^k/\q.den<2^k
def Co q:(q.num:Rat) / (q.den:Rat)=q:=by
 rw[<-Rat.mkRat_eq_div,Rat.mkRat_self]
def HB(q:Rat):(q.den:Rat)≠0:=by
 have:=q.den_nz
 exact_mod_cast this
def LR(t:Int)(n:Nat)(h:0<n):((t:Rat) / (n:Rat)).num=t / (xq t.natAbs n:Nat)/\((t:Rat) / (n:Rat)).den=n / xq t.natAbs n:=by
 have e:(t:Rat) / (n:Rat)=mkRat t n:=by rw[Rat.mkRat_eq_div]
 rw[e,Rat.mkRat_def,dif_neg (by lia),Rat.normalize_eq]
 exact⟨rfl,rfl⟩
def Hf(h:0<b):amD (lowP t b)=aD ((t:Rat) / (b:Rat)):=by
 obtain⟨n,rfl⟩:∃n:Nat,b=n:=⟨b.natAbs,by lia⟩
 obtain⟨h1,h2⟩:=LR t n (by lia)
 unfold amD aD lowP NM
 rw[show(((n:Nat):Int):Rat)=((n:Nat):Rat)from rfl,h1,h2]
 simp
def Lm{t b:Int}(h:0<b)(ht:t.natAbs<2^k)(hb:b.natAbs<2^k):Sz k ((t:Rat) / (b:Rat)):=by
 obtain⟨n,rfl⟩:∃n:Nat,b=n:=⟨b.natAbs,by lia⟩
 obtain⟨h1,h2⟩:=LR t n (by lia)
 unfold Sz
 rw[show(((n:Nat):Int):Rat)=((n:Nat):Rat)from rfl,h1,h2]
 exact⟨sC (yJ _ _) ht,sC (Nat.div_le_self _ _) (by simpa using hb)⟩
def Bm(ha:a<2^j)(hb:b<2^k):a*b<2^(j+k):=by
 rw[xV]
 exact Nat.mul_lt_mul'' ha hb
def Gw(hi:i.natAbs<2^k)(hj:j.natAbs<2^m)(h:k<=60000)(g:m<=60000):De i j=true:=by
 unfold De
 rw[tK,tK,rH]
 exact .inr (.inr ⟨uT (qw hi (sT (by decide) h)),uT (qw hj (sT (by decide) g))⟩)
def Sz.mono(h:Sz k q)(g:k<=m):Sz m q:=by
 have:=sT (n:=2) (by decide) g
 exact⟨by have:=h.1;lia,by have:=h.2;lia⟩
def den_pos(q:Rat):0<(q.den:Int):=by have:=q.den_pos;lia
def bc{x:Int}(h:x.natAbs<2^n)(g:n<=m):x.natAbs<2^m:=qw h (sT (by decide) g)
def DN(hp:Sz j p)(hq:Sz k q):(p.num*q.den+q.num*p.den).natAbs<2^(j+k+1)/\((p.den:Int)*q.den).natAbs<2^(j+k)/\(p.num*q.den-q.num*p.den).natAbs<2^(j+k+1):=by
 have a1:=Bm hp.1 hq.2
 have a2:=Bm hq.1 hp.2
 have a3:=Bm hp.2 hq.2
 rw[yt k j]at a2
 have e:2^(j+k+1)=2^(j+k)+2^(j+k):=by rw[yx];lia
 refine⟨?_,?_,?_⟩
 .refine sC (Int.natAbs_add_le _ _) ?_
  rw[va,va,uN,uN,e]
  lia
 .rw[va,uN,uN];exact a3
 .refine sC (Int.natAbs_sub_le _ _) ?_
  rw[va,va,uN,uN,e]
  lia
def OA:(((p.num*q.den+q.num*p.den:Int):Rat) / (((p.den:Int)*q.den:Int):Rat))=p+q:=by
 have h1:=Co p;have h2:=Co q
 have d1:=HB p;have d2:=HB q
 push_cast
 grind
def Q6:(((p.num*q.den-q.num*p.den:Int):Rat) / (((p.den:Int)*q.den:Int):Rat))=p-q:=by
 have h1:=Co p;have h2:=Co q
 have d1:=HB p;have d2:=HB q
 push_cast
 grind
def L9:(((p.num*q.num:Int):Rat) / (((p.den:Int)*q.den:Int):Rat))=p*q:=by
 have h1:=Co p;have h2:=Co q
 have d1:=HB p;have d2:=HB q
 push_cast
 grind
def iR(hp:Sz j p)(hq:Sz k q):Sz (j+k+1) (p+q):=by
 rw[<-OA]
 have:=DN hp hq
 exact Lm (tN (den_pos _) (den_pos _)) this.1 (bc this.2.1 (by lia))
def fQ(hp:Sz j p)(hq:Sz k q):Sz (j+k+1) (p-q):=by
 rw[<-Q6]
 have:=DN hp hq
 exact Lm (tN (den_pos _) (den_pos _)) this.2.2 (bc this.2.1 (by lia))
def NC(hp:Sz j p)(hq:Sz k q):Sz (j+k) (p*q):=by
 rw[<-L9]
 have:=DN hp hq
 exact Lm (tN (den_pos _) (den_pos _)) (by rw[va];exact Bm hp.1 hq.1) this.2.1
def Mh(hp:Sz j p)(hq:Sz k q)(hj:j+k<=7990):De p.num q.den=true/\De q.num p.den=true/\De p.den q.den=true/\De p.num q.num=true:=by
 refine⟨Gw hp.1 (by simpa using hq.2) (by lia) (by lia),Gw hq.1 (by simpa using hp.2) (by lia) (by lia),Gw (by simpa using hp.2) (by simpa using hq.2) (by lia) (by lia),Gw hp.1 hq.1 (by lia) (by lia)⟩
def bV(hp:Sz j p)(hq:Sz k q)(hj:j+k<=7990):Fh [aD p,aD q] S=Gc ((aD (p+q)),S):=by
 obtain⟨m1,m2,m3,m4⟩:=Mh hp hq (by lia)
 have b:=DN hp hq
 have l:=Jg (S:=S) (t:=p.num*q.den+q.num*p.den) (b:=p.den*q.den) (tN (den_pos _) (den_pos _)) (CT b.2.1 (by lia))
 rw[Hf (tN (den_pos _) (den_pos _)),OA]at l
 simp only[aD]at l⊢
 simp[Fh,Q1,m1,m2,m3,l]
def hJ(hp:Sz j p)(hq:Sz k q)(hj:j+k<=7990):Dv [aD p,aD q] S=Gc ((aD (p-q)),S):=by
 obtain⟨m1,m2,m3,m4⟩:=Mh hp hq (by lia)
 have b:=DN hp hq
 have l:=Jg (S:=S) (t:=p.num*q.den-q.num*p.den) (b:=p.den*q.den) (tN (den_pos _) (den_pos _)) (CT b.2.1 (by lia))
 rw[Hf (tN (den_pos _) (den_pos _)),Q6]at l
 simp only[aD]at l⊢
 simp[Dv,RM,m1,m2,m3,l]
def US(hp:Sz j p)(hq:Sz k q)(hj:j+k<=7990):CL [aD p,aD q] S=Gc ((aD (p*q)),S):=by
 obtain⟨m1,m2,m3,m4⟩:=Mh hp hq (by lia)
 have b:=DN hp hq
 have l:=Jg (S:=S) (t:=p.num*q.num) (b:=p.den*q.den) (tN (den_pos _) (den_pos _)) (CT b.2.1 (by lia))
 rw[Hf (tN (den_pos _) (den_pos _)),L9]at l
 simp only[aD]at l⊢
 simp[CL,OT,m3,m4,l]
def Qk(hp:Sz j p)(hq:Sz k q)(hj:j+k<=7990):B7 [aD p,aD q] S=Gc ((aD (p+q)),S):=by
 obtain⟨m1,m2,m3,m4⟩:=Mh hp hq (by lia)
 have b:=DN hp hq
 have l:=QP (S:=S) (t:=p.num*q.den+q.num*p.den) (b:=p.den*q.den) (tN (den_pos _) (den_pos _)) (CT b.2.1 (by lia))
 rw[Hf (tN (den_pos _) (den_pos _)),OA]at l
 simp only[aD]at l⊢
 simp[B7,Mg,m1,m2,m3,l]
def Jt(hp:Sz j p)(hq:Sz k q)(hj:j+k<=7990):Ap [aD p,aD q] S=Gc ((aD (p*q)),S):=by
 obtain⟨m1,m2,m3,m4⟩:=Mh hp hq (by lia)
 have b:=DN hp hq
 have l:=QP (S:=S) (t:=p.num*q.num) (b:=p.den*q.den) (tN (den_pos _) (den_pos _)) (CT b.2.1 (by lia))
 rw[Hf (tN (den_pos _) (den_pos _)),L9]at l
 simp only[aD]at l⊢
 simp[Ap,L3,m3,m4,l]
def eT:aD (-q)=.tup [.int (0-q.num),.int q.den]:=by
 unfold aD
 rw[show(-q).num=0-q.num by simp,show(-q).den=q.den by simp]
def gj(hq:Sz k q):Sz k (-q):=by
 unfold Sz
 rw[show(-q).num= -q.num by simp,show(-q).den=q.den by simp,Int.natAbs_neg]
 exact hq
def YF(hp:Sz j p)(hq:Sz k q)(hj:j+k<=7990):DZ [aD p,aD q] S=Gc ((aD (p-q)),S):=by
 have l:=Qk (S:=S) hp (gj hq) hj
 rw[eT]at l
 rw[Rat.sub_eq_add_neg]
 simp only[aD]at l⊢
 simp at l
 simp[DZ,NG,l]
def U4(h:0<b)(hb:b.natAbs<Ey):Ck [.int t,.int b] S=Gc ((aD (t / b)),S):=by
 rw[Jg h hb,Hf h]
def Xx(h:0<b)(hb:b.natAbs<Ey):Bd [.int t,.int b] S=Gc ((aD (t / b)),S):=by
 rw[QP h hb,Hf h]
def H0{a b:Int}(ha:a.natAbs<2^k)(hb:b.natAbs<2^k):(a+b).natAbs<2^(k+1):=by
 have e:2^(k+1)=2^k+2^k:=by rw[yx];lia
 have:=Int.natAbs_add_le a b
 lia
def Jb{a b:Int}(ha:a.natAbs<2^j)(hb:b.natAbs<2^k):(a*b).natAbs<2^(j+k):=by
 rw[va];exact Bm ha hb
def Vo(h:0<w+m):((p.num*q.den*w+q.num*p.den*m:Int):Rat) / (((p.den:Int)*q.den*(w+m):Int):Rat)=(p*w+q*m) / (w+m):=by
 have h1:=Co p;have h2:=Co q
 have d1:=HB p;have d2:=HB q
 have d3:((w:Rat)+(m:Rat))≠0:=by
  intro e
  have:((w+m:Int):Rat)=0:=by push_cast;exact e
  have:=ur.mp this
  lia
 push_cast
 grind
section
variable{w m:Int}
def X9(hp:Sz j p)(hq:Sz k q)(hw:w.natAbs<2^n)(hm:m.natAbs<2^n):(p.num*q.den*w+q.num*p.den*m).natAbs<2^(j+k+n+1)/\((p.den:Int)*q.den*(w+m)).natAbs<2^(j+k+(n+1)):=by
 have d1:((p.den:Int)).natAbs<2^j:=by simpa using hp.2
 have d2:((q.den:Int)).natAbs<2^k:=by simpa using hq.2
 refine⟨H0 (Jb (Jb hp.1 d2) hw) ?_,Jb (Jb d1 d2) (H0 hw hm)⟩
 have:=Jb (Jb hq.1 d1) hm
 rwa [yt k j]at this
def dW(hp:Sz j p)(hq:Sz k q)(hw:w.natAbs<2^n)(hm:m.natAbs<2^n)(h:0<w+m)(hj:j+k+n+1<=7990):HR [aD p,.int w,aD q,.int m] S=Gc ((aD ((p*w+q*m) / (w+m))),S):=by
 obtain⟨m1,m2,m3,m4⟩:=Mh hp hq (by lia)
 have d1:((p.den:Int)).natAbs<2^j:=by simpa using hp.2
 have d2:((q.den:Int)).natAbs<2^k:=by simpa using hq.2
 have b:=X9 hp hq hw hm
 have m5:De (p.num*q.den) w=true:=Gw (Jb hp.1 d2) hw (by lia) (by lia)
 have m6:De (q.num*p.den) m=true:=Gw (Jb hq.1 d1) hm (by lia) (by lia)
 have m7:De ((p.den:Int)*q.den) (w+m)=true:=Gw (Jb d1 d2) (H0 hw hm) (by lia) (by lia)
 have l:=U4 (S:=S) (t:=p.num*q.den*w+q.num*p.den*m) (b:=p.den*q.den*(w+m)) (tN (tN (den_pos _) (den_pos _)) h) (CT b.2 (by lia))
 rw[Vo h]at l
 simp only[aD]at l⊢
 simp[HR,Pg,m1,m2,m3,m5,m6,m7,l]
end
end
section
variable{S:Sto}{p:Nat}
def Yu(h:p<S.length):dr (S.set p (.lst r)) (.ref p)=.own r:=Ac (rF h)
def Pen(ds:Wp D):Prop:=∃a b c d:Int,ds=[.int a,.int b,.int c,.int d]/\0<=d/\d<1000000007
def Dx(p:Nat)(S:Sto):Prop:=∃ds,S[p]?=Gc (.lst ds)/\Pen ds
structure Pn(p:Nat)(S S':Sto):Prop where
 same:Ba [p] S S'
 pen:Dx p S'
def Pn.trans(h:Pn p S S')(g:Pn p S' S2):Pn p S S2:=⟨h.same.trans g.same,g.pen⟩
def Pn.get(h:Pn p S S')(e:S[n]?=Gc c)(ha:n≠p):S'[n]?=Gc c:=h.same.get e (by simpa using ha)
def Pn.refl(h:Dx p S):Pn p S S:=⟨.refl,h⟩
def Dx.lt(h:Dx p S):p<S.length:=by obtain⟨ds,e,_⟩:=h;exact AQ e
def Dx.app(h:Dx p S) T:Dx p (S++T):=by obtain⟨ds,e,hp⟩:=h;exact⟨ds,by rw[qv (AQ e)];exact e,hp⟩
inductive Drw(p:Nat)(n:Int)(S:Sto):Prop
 |mk (r:Int) (S':Sto) (e:AF [.ref p,.int n] S=Gc (.int r,S')) (a:0<=r) (b:r<n) (g:Pn p S S')
def Ao(h:Dx p S)(h0:0<n)(h1:n<1152921504606846976):Drw p n S:=by
 obtain⟨ds,hp,a,b,c,d,rfl,hd0,hd1⟩:=h
 have hl:=AQ hp
 have hs:=ES h0 h1
 have hr:=Ac hp
 have hc:=AJ hp
 by_cases hb:b=1/\0<a
 .obtain⟨rfl,ha⟩:=hb
  refine⟨a % n,S.set p (.lst [.int (a / n),.int 1,.int c,.int d]),?_,uw _ (by lia),vF _ h0,.set (by simp),_,rF hl,_,_,_,_,rfl,hd0,hd1⟩
  simp[AF,IA,ha,h0,hs,hr,hc]
 .have m1:De (d+17) (69621+2*(c+1))=true:=mulL (by lia) (by lia)
  have m2:De 2 (c+1)=true:=mulL (by decide) (by decide)
  generalize ht:(d+17)*(69621+2*(c+1)) % 2147483647=t at*
  have t0:0<=t:=by rw[<-ht];exact uw _ (by decide)
  have t1:t<2147483647:=by rw[<-ht];exact vF _ (by decide)
  have m3:De t t=true:=mulL (by lia) (by lia)
  have m4:De 40503 (c+1)=true:=mulL (by decide) (by decide)
  generalize hu:(t*t+40503*(c+1)+5) % 2147483629=u at*
  have u0:0<=u:=by rw[<-hu];exact uw _ (by decide)
  have u1:u<2147483629:=by rw[<-hu];exact vF _ (by decide)
  have m5:De u 48271=true:=mulL (by lia) (by lia)
  have d32:(32:Int).natAbs<Ey:=ES (by decide) (by decide)
  have d32':(32:Nat)<Ey:=d32
  refine⟨u*48271 % 2147483647 / 32 % n,S.set p (.lst [.int a,.int b,.int (c+1),.int d]),?_,uw _ (by lia),vF _ h0,.set (by simp),_,rF hl,_,_,_,_,rfl,hd0,hd1⟩
  by_cases hb1:b=1
  .subst hb1
   have ha:¬0<a:=λz=>hb ⟨rfl,z⟩
   simp[AF,IA,ha,h0,hs,hr,hc,Yu,hl,m1,m2,m3,m4,m5,ht,hu,d32']
  .have hb2:(b==1)=false:=by simpa using hb1
   simp[AF,IA,hb2,h0,hs,hr,hc,Yu,hl,m1,m2,m3,m4,m5,ht,hu,d32']
def gL c:∃p S',Ha [.int c] S=Gc (.ref p,S')/\Dx p S'/\Ba [] S S'/\S.length<=p:=by
 refine⟨S.length,S++[.lst [.int c,.int (if(10:Int)^18<=c then 1 else 0),.int 0,.int (c % 1000000007)]],?_,⟨_,rZ,_,_,_,_,rfl,uw _ (by decide),vF _ (by decide)⟩,.app,q9 _⟩
 simp[Ha,Oo]
def EL(h:gOk gs S):Bl gs t c f [] acc E S=Gc (acc,S):=by
 unfold Bl
 rw[sD h]
def Mx (h:gOk gs S)(hz:acc.length<sizeLine):Bl gs t c f (d::ds) acc E S=(t d E S).bind λE1=>(c E1 S).bind λr=>match r.1 with
      | .bl true => (f E1 r.2).bind fun p => Bl gs t c f ds (acc ++ [p.1]) E1 p.2
      | .bl false => Bl gs t c f ds acc E1 r.2
      | _=>none:=by
  rw [Bl, sD h, sD hz]
  all_goals rfl
def HN(h:gOk gs S)(hz:acc.length<sizeLine)(e1:t d E S=Gc E1)(e2:c E1 S=Gc (.bl true,S1)):Bl gs t c f (d::ds) acc E S=(f E1 S1).bind λp=>Bl gs t c f ds (acc++[p.1]) E1 p.2:=by
 rw[Mx h hz,e1]
 show(c E1 S).bind _=_
 rw[e2]
 rfl
def Ih(h:gOk gs S)(hz:acc.length<sizeLine)(e1:t d E S=Gc E1)(e2:c E1 S=Gc (.bl false,S1)):Bl gs t c f (d::ds) acc E S=Bl gs t c f ds acc E1 S1:=by
 rw[Mx h hz,e1]
 show(c E1 S).bind _=_
 rw[e2]
 rfl
theorem N5{gs:Gd}{t:Tf}{f:Ev}{I:Sto->Prop}(hg:∀S,I S->gOk gs S):∀{ds acc} {os} {S},os.length=m->I S->acc.length+ds.length<=sizeLine->(∀d∈ds,∀os S,os.length=m->I S->∃us y S',us.length=m/\t d (C++os) S=Gc (C++us)/\f (C++us) S=Gc (y,S')/\I S'/\R d y)->∃ys S',Bl gs t BX f ds acc (C++os) S=Gc (acc++ys,S')/\I S'/\ys.length=ds.length/\Paired R ds ys
 | [],acc,os,S,ho,hI,hz,h=>⟨[],S,by rw[EL (hg S hI)];simp,hI,rfl,.nil⟩
 |d::ds,acc,os,S,ho,hI,hz,h=>by
  obtain⟨us,y,S1,hu,e1,e2,I1,r1⟩:=h d rM os S ho hI
  obtain⟨ys,S2,e3,I2,l2,r2⟩:=N5 hg (ds:=ds) (acc:=acc++[y]) (os:=us) (S:=S1) hu I1 (by simp at hz ⊢; lia) λd' hd=>h d' (rC _ hd)
  refine⟨y::ys,S2,?_,I2,by simp[l2],.cons r1 r2⟩
  rw[HN (hg S hI) (by simp at hz;lia) e1 F6,e2,Ay,e3]
  simp
theorem comp_map(hg:gOk gs S):∀{ds acc} {os},os.length=m->acc.length+ds.length<=sizeLine->(∀d∈ds,∀os,os.length=m->∃us,us.length=m/\t d (C++os) S=Gc (C++us)/\f (C++us) S=Gc (g d,S))->Bl gs t BX f ds acc (C++os) S=Gc (acc++ds.map g,S)
 | [],acc,os,ho,hz,h=>by rw[EL hg];simp
 |d::ds,acc,os,ho,hz,h=>by
  obtain⟨us,hu,e1,e2⟩:=h d rM os ho
  rw[HN hg (by simp at hz;lia) e1 F6,e2,Ay]
  rw[comp_map hg hu (by simp at hz ⊢; lia) λd' hd=>h d' (rC _ hd)]
  simp
theorem Jw{I:Wp D->En->Sto->Prop}(hg:∀ds E S,I ds E S->gOk gs S):∀{ds} {E} {S},I ds E S->(∀d ds E S,I (d::ds) E S->∃E1 E2 S2,t d E S=Gc E1/\b E1 S=Gc (.nx,E2,S2)/\I ds E2 S2)->∃E' S',Kv gs t b ds E S=Gc (.nx,E',S')/\I [] E' S'
 | [],E,S,hI,h=>⟨E,S,Fi (hg _ _ _ hI),hI⟩
 |d::ds,E,S,hI,h=>by
  obtain⟨E1,E2,S2,e1,e2,I2⟩:=h d ds E S hI
  obtain⟨E',S',e3,I3⟩:=Jw hg I2 h
  exact⟨E',S',by rw[DR (hg _ _ _ hI),e1];simp[e2,e3],I3⟩
def pick{xs:Wp D}{r:Int}(h0:0<=r)(h1:r<xs.length):∃x,atI xs r=Gc x/\x∈xs:=⟨_,Yh h0 h1,wC _⟩
theorem Jq{P:β->Prop}:∀{xs:Wp α} {ys},Paired (λ_ y=>P y) xs ys->∀y∈ys,P y
 |_,_,.nil,y,h=>by cases h
 |_,_,.cons r t,y,h=>by
  rcases qy.mp h with h|h
  .rw[h];exact r
  .exact Jq t y h
def Jm:(OQ lo n).length=n:=by simp[OQ]
end
def Ok(G B:Nat)(r:Rat):Prop:=∃z:Nat,r*(G:Rat)=(z:Rat)/\z<=B
def Md{n:Nat}(h:0<n):(n:Rat)≠0:=by
 have:n≠0:=by lia
 exact_mod_cast this
def Ok.sz(h:Ok G B r)(hG:0<G)(g:G<2^k)(b:B<2^k):Sz k r:=by
 obtain⟨z,e,hz⟩:=h
 have e2:r=((z:Int):Rat) / ((G:Int):Rat):=by
  have:=Md hG
  rw[show(((z:Nat):Int):Rat)=(z:Rat)from rfl,show(((G:Nat):Int):Rat)=(G:Rat)from rfl,<-e]
  grind
 rw[e2]
 exact Lm (by lia) (by simpa using sC hz b) (by simpa using g)
def Ok.up(h:Ok G B r)(hB:B*t<=B'):Ok (G*t) B' r:=by
 obtain⟨z,e,hz⟩:=h
 refine⟨z*t,?_,q8 (sO t hz) hB⟩
 push_cast
 rw[<-e]
 grind
def Ok.zero:Ok G B 0:=⟨0,by simp,uQ _⟩
def Ok.one(h:G<=B):Ok G B 1:=⟨G,by simp,h⟩
def Ok.mix{G B a b t:Nat}(hr:Ok G B r)(ho:Ok G B o)(ht:a+b=t)(h0:0<t):Ok (G*t) (B*t) ((r*(a:Rat)+o*(b:Rat)) / (t:Rat)):=by
 obtain⟨z,e1,h1⟩:=hr
 obtain⟨y,e2,h2⟩:=ho
 refine⟨z*a+y*b,?_,?_⟩
 .have:=Md h0
  push_cast
  rw[<-e1,<-e2]
  grind
 .rw[<-ht,Nat.mul_add]
  exact Nat.add_le_add (sO a h1) (sO b h2)
structure Tr where
 p:Nat
 k:Nat
 b:Nat
 ho:Wp Rat
 h:Int
 l:Int
structure Ld where
 k:Nat
 n:Int
 ow:Wp Rat
structure Stt where
 AA:Wp Ld
 hold:Wp Rat
 nums:Wp Int
inductive AO where
 |Dd (p k:Nat) (n:Int)
 |Hr (a b:Nat)
 |swap (l:Nat) (g:Int) (k:Nat) (n:Int)
 |Cn (t:Int) (l:Nat) (g:Int) (k:Nat) (n:Int)
 |Dr (l:Nat) (n:Int)
 |thr (l:Nat) (n:Int) (ws:Wp Int)
 |GQ (p q:Nat) (s:Rat)
noncomputable def shD(rs:Wp Rat):D:=.tup (rs.map aD)
noncomputable def Tr.d(t:Tr):D:=.tup [.int t.p,.int t.k,.int t.b,shD t.ho,.int t.h,.int t.l]
noncomputable def Ld.d(l:Ld):D:=.tup [.int l.k,.int l.n,shD l.ow]
noncomputable def AO.d:AO->D
 | .Dd p k n=>.tup [.str "bring",.int p,.int k,.int n]
 | .Hr a b=>.tup [.str "pool",.int a,.int b]
 | .swap l g k n=>.tup [.str "swap",.int l,.int g,.int k,.int n]
 | .Cn t l g k n=>.tup [.str "trade",.int t,.int l,.int g,.int k,.int n]
 | .Dr l n=>.tup [.str "spoil",.int l,.int n]
 | .thr l n ws=>.tup [.str "throw",.int l,.int n,.tup (ws.map .int)]
 | .GQ p q s=>.tup [.str "sell",.int p,.int q,aD s]
noncomputable def GC(x:Rat)(os ss:Wp Rat):Wp Rat:=xE (λs o=>s*(1-x)+o*x) ss os
noncomputable def FP(p q:Nat)(s:Rat)(ss:Wp Rat):Wp Rat:=(ss.set p (ss.getD p 0-ss.getD p 0*s)).set q (ss.getD q 0+ss.getD p 0*s)
noncomputable def By(n m:Int)(ss os:Wp Rat):Wp Rat:=xE (λs o=>(s*n+o*m) / (n+m:Int)) ss os
noncomputable def Dy(t:Tr)(ls:Wp Ld)(ws:Wp Int):Int:=(ls.map λl=>l.n*ws.getD l.k 0).sum+t.b*ws.getD t.k 0
noncomputable def Ig(t:Tr)(ls:Wp Ld)(l:Nat)(n:Int)(ws:Wp Int):Rat:=((n*ws.getD ((ls[l]?.map (·.k)).getD 0) 0:Int):Rat) / (Dy t ls ws:Rat)
noncomputable def AL(ls:Wp Ld)(l:Nat):Ld:=ls.getD l ⟨0,0,[]⟩
noncomputable def less(ls:Wp Ld)(l:Nat)(n:Int):Wp Ld:=ls.set l {AL ls l with n:=(AL ls l).n-n}
noncomputable def Qf(p i:Nat):Wp Rat:=(tm p).map λj=>if j=i then 1 else 0
noncomputable def step(t:Tr)(s:Stt):AO->Stt
 | .Dd p k n=>{s with AA:=s.AA++[⟨k,n,Qf t.p p⟩]}
 | .Hr a b=>{s with AA:=less (less s.AA a (AL s.AA a).n) b (AL s.AA b).n++[⟨(AL s.AA a).k,(AL s.AA a).n+(AL s.AA b).n,By (AL s.AA a).n (AL s.AA b).n (AL s.AA a).ow (AL s.AA b).ow⟩]}
 | .swap l g k n=>{s with AA:=less s.AA l g++[⟨k,n,(AL s.AA l).ow⟩]}
 | .Cn u l g k n=>{s with AA:=less s.AA l g++[⟨k,n,(AL s.AA l).ow⟩],nums:=s.nums++[u]}
 | .Dr l n=>{s with AA:=less s.AA l n}
 | .thr l n ws=>{s with AA:=(less s.AA l n).map λx=>{x with ow:=GC (Ig t s.AA l n ws) (AL s.AA l).ow x.ow},hold:=GC (Ig t s.AA l n ws) (AL s.AA l).ow s.hold}
 | .GQ p q x=>{s with AA:=s.AA.map λy=>{y with ow:=FP p q x y.ow},hold:=FP p q x s.hold}
def G5(t:Tr):Prop:=1<=t.p/\t.p<=4/\1<=t.k/\t.k<=5/\1<=t.b/\t.b<=20
def Can(t:Tr)(s:Stt):AO->Prop
 | .Dd p k n=>p<t.p/\k<t.k/\1<=n/\n<2^131
 | .Hr a b=>a≠b/\a<s.AA.length/\b<s.AA.length/\0<(AL s.AA a).n/\0<(AL s.AA b).n/\(AL s.AA a).k=(AL s.AA b).k
 | .swap l g k n=>l<s.AA.length/\1<=g/\g<=(AL s.AA l).n/\k<t.k/\k≠(AL s.AA l).k/\1<=n/\n<2^131
 | .Cn u l g k n=>l<s.AA.length/\1<=g/\g<=(AL s.AA l).n/\k<t.k/\k≠(AL s.AA l).k/\1<=n/\n<2^131/\u∉s.nums/\0<=u/\u<=9
 | .Dr l n=>l<s.AA.length/\1<=n/\n<=(AL s.AA l).n
 | .thr l n ws=>l<s.AA.length/\1<=n/\n<=(AL s.AA l).n/\ws.length=t.k+1/\∀w∈ws,1<=w/\w<=99
 | .GQ p q x=>p≠q/\p<t.p/\q<t.p/\0<x.num/\x.num<=x.den/\x.den<=12
structure Ee(t:Tr)(k:Nat)(s:Stt):Prop where
 len:s.AA.length<=4+k
 kind:∀l∈s.AA,l.k<t.k
 pcs:∀l∈s.AA,0<=l.n/\l.n<2^(131+k)
 own:∀l∈s.AA,l.ow.length=t.p
 hold:s.hold.length=t.p
 nm:s.nums.length<=k
 gb:∃G B:Nat,0<G/\G<=B/\B<2^(30+170*k)/\(∀l∈s.AA,∀r∈l.ow,Ok G B r)/\∀r∈s.hold,Ok G B r
def Ee.sz(h:Ee t k s):(∀l∈s.AA,∀r∈l.ow,Sz (30+170*k) r)/\∀r∈s.hold,Sz (30+170*k) r:=by
 obtain⟨G,B,g0,gb,b,h1,h2⟩:=h.gb
 exact⟨λl hl r hr=>(h1 l hl r hr).sz g0 (sC gb b) b,λr hr=>(h2 r hr).sz g0 (sC gb b) b⟩
def AU(h:l<ls.length):AL ls l∈ls:=by
 unfold AL
 rw[rX,rE h]
 exact wC h
def Eh(h:l<ls.length):ls[l]?=Gc (AL ls l):=by
 unfold AL
 rw[rX,rE h]
 rfl
def JU(h:x∈less ls l n)(hl:l<ls.length):x∈ls\/x={AL ls l with n:=(AL ls l).n-n}:=by
 unfold less at h
 rcases vL h with h|h
 .exact .inl h
 .exact .inr h
def DB:(less ls l n).length=ls.length:=by simp[less]
theorem QO{P:Int->Prop}:∀{ys},(∀y∈ys,∃i,y=.int i/\P i)->∃ns:Wp Int,ys=ns.map D.int/\∀n∈ns,P n
 | [],_=>⟨[],rfl,λn h=>by cases h⟩
 |y::ys,h=>by
  obtain⟨i,rfl,hi⟩:=h y rM
  obtain⟨ns,rfl,hn⟩:=QO (P:=P) (ys:=ys) λz hz=>h z (rC _ hz)
  exact⟨i::ns,rfl,λn hn'=>by
   rcases qy.mp hn' with e|e
   .rw[e];exact hi
   .exact hn n e⟩
def Od{ns:Wp Int}(h:∀n∈ns,0<=n/\n<=8):0<=ns.sum/\ns.sum<=8*ns.length/\∀n∈ns,n<=ns.sum:=by
 induction ns with
 |nil=>simp
 |cons a l ih=>
  have h1:=h a rM
  obtain⟨i1,i2,i3⟩:=ih λn hn=>h n (rC _ hn)
  rw[sJ,sS]
  refine⟨by lia,by push_cast;lia,λn hn=>?_⟩
  rcases qy.mp hn with e|e
  .lia
  .have:=i3 n e;lia
def RW (h:Dx p S)(hn:n ≤ 20):∃(ns:Wp Int)(S':Sto),Bl [] (tNm 1) BX (eOp (o2 wIx) [(Kx [(eC (.int 0)),(eC (.int 1)),(AD AF [(eV 0),(eC (.int 4))]),(AD AF [(eV 0),(eC (.int 9))])]),(AD AF [(eV 0),(eC (.int 4))])]) (OQ 0 n) [] [Gc (.ref p),none] S=Gc (ns.map D.int,S')/\Pn p S S'/\ns.length=n/\∀i ∈ ns,0 ≤ i/\i ≤ 8:=by
  obtain⟨ys,S',e,hI,l,r⟩:=N5 (gs:=[]) (t:=tNm 1) (f:=eOp (o2 wIx) [(Kx [(eC (.int 0)),(eC (.int 1)),(AD AF [(eV 0),(eC (.int 4))]),(AD AF [(eV 0),(eC (.int 9))])]),(AD AF [(eV 0),(eC (.int 4))])]) (C:=[Gc (.ref p)]) (m:=1) (I:=Pn p S) (R:=λ_ y=>∃i:Int,y = .int i/\0 ≤ i/\i ≤ 8)
    (λ_ _=>Ad) (ds:=OQ 0 n) (acc:=[]) (os:=[none]) rfl (Pn.refl h) (by rw[Jm];simp;exact AK (by lia)) λd _ os S0 ho I0=>by
      obtain⟨o,rfl⟩:=Pd ho
      obtain⟨r1,S1,e1,a1,b1,p1⟩:=Ao I0.pen (n:=4) (by decide) (by decide)
      obtain⟨r2,S2,e2,a2,b2,p2⟩:=Ao p1.pen (n:=9) (by decide) (by decide)
      obtain⟨r3,S3,e3,a3,b3,p3⟩:=Ao p2.pen (n:=4) (by decide) (by decide)
      obtain⟨x,ex,hx⟩:=pick (xs:=[.int 0,.int 1,.int r1,.int r2]) (r:=r3) a3 (by simpa using b3)
      refine ⟨[Gc d], x, S3, rfl, by simp, by simp [e1, e2, e3, ex], ((I0.trans p1).trans p2).trans p3, ?_⟩
      simp only [qy, rJ, sU] at hx
      rcases hx with rfl | rfl | rfl | rfl
      · exact ⟨0, rfl, by decide, by decide⟩
      · exact ⟨1, rfl, by decide, by decide⟩
      · exact ⟨r1, rfl, by lia, by lia⟩
      · exact ⟨r2, rfl, by lia, by lia⟩
  obtain⟨ns,rfl,hns⟩:=QO (Jq r)
  exact ⟨ns, S', by simpa using e, hI, by simpa [Jm] using l, hns⟩
noncomputable def IE(ns:Wp Int):Wp Rat:=ns.map λ(n:Int)=>(n:Rat) / (ns.sum:Rat)
def ML(h:∀n∈ns,0<=n/\n<=8)(hs:0<ns.sum):∀r∈IE ns,Ok ns.sum.toNat ns.sum.toNat r:=by
 intro r hr
 obtain⟨n,hn,rfl⟩:=sE.mp hr
 have h1:=h n hn
 have h2:=(Od h).2.2 n hn
 refine⟨n.toNat,?_,by lia⟩
 have e1:((ns.sum.toNat:Nat):Rat)=(ns.sum:Rat):=by
  have:((ns.sum.toNat:Nat):Int)=ns.sum:=by lia
  exact congrArg (λz:Int=>(z:Rat)) this
 have e2:((n.toNat:Nat):Rat)=(n:Rat):=by
  have:((n.toNat:Nat):Int)=n:=by lia
  exact congrArg (λz:Int=>(z:Rat)) this
 rw[e1,e2]
 have:(ns.sum:Rat)≠0:=by
  intro z
  have:=ur.mp z
  lia
 grind
theorem To:∀{ns:Wp Int},(ns.map λ(n:Int)=>(n:Rat) / s).sum=(ns.sum:Rat) / s
 | []=>by simp;grind
 |n::ns=>by
  rw[rT,sJ,sJ,To (ns:=ns)]
  push_cast
  grind
def Pj(hs:0<ns.sum):(IE ns).sum=1:=by
 unfold IE
 rw[To]
 have:(ns.sum:Rat)≠0:=by
  intro z
  have:=ur.mp z
  lia
 grind
def Qt(hq:S[q]?=Gc (.lst (ns.map D.int)))(hl:ns.length<=20)(hn:∀n∈ns,0<=n/\n<=8)(hs:0<ns.sum):Bl [(q,ns.map D.int)] (tNm 1) BX (AD Bd [eV 1,eOp (o1 Wq) [eV 0]]) (ns.map D.int) [] [Gc (.ref q),none] S=Gc ((IE ns).map aD,S):=by
 obtain⟨s1,s2,s3⟩:=Od hn
 have:=comp_map (gs:=[(q,ns.map D.int)]) (t:=tNm 1) (f:=AD Bd [eV 1,eOp (o1 Wq) [eV 0]]) (C:=[Gc (.ref q)]) (m:=1) (g:=λd=>match d with| .int n=>aD ((n:Rat) / (ns.sum:Rat))|d=>d) (S:=S) (λg hg=>by rw[sF.mp hg];exact AJ hq) (ds:=ns.map D.int) (acc:=[]) (os:=[none]) rfl (by simp;exact AK (by lia)) λd hd os ho=>by
  obtain⟨o,rfl⟩:=Pd ho
  obtain⟨i,hi,rfl⟩:=sE.mp hd
  have m:=Xx (S:=S) (t:=i) hs (ES (by lia) (by lia))
  exact⟨[Gc (.int i)],rfl,by simp,by simp[Ac hq,GN,m]⟩
 have e2:(ns.map D.int).map (λd=>match d with| .int n=>aD ((n:Rat) / (ns.sum:Rat))|d=>d)=(IE ns).map aD:=by
  unfold IE
  rw[tJ,tJ]
  rfl
 rw[e2]at this
 simpa using this
def Q5(h:Dx p S){n:Nat}(h1:1<=n)(h2:n<=4):∃rs S',DM [.ref p,.int n] S=Gc (shD rs,S')/\Pn p S S'/\(rs.length=n/\rs.sum=1)/\∃G,0<G/\G<=32/\∀r∈rs,Ok G G r:=by
 obtain⟨ns,S1,e1,p1,l1,i1⟩:=RW (n:=n) h (by lia)
 obtain⟨s1,s2,s3⟩:=Od i1
 have hq:(S1++[Cl.lst (ns.map D.int)])[S1.length]?=Gc (.lst (ns.map D.int)):=rZ
 have pp:Dx p (S1++[Cl.lst (ns.map D.int)]):=p1.pen.app _
 have hlt:=p1.pen.lt
 have r1:L6 (n:Int)=true:=Gb (by lia) (by lia)
 by_cases hz:ns.sum=0
 .obtain⟨r,S2,e2,a2,b2,p2⟩:=Ao pp (n:=n) (by lia) (by lia)
  have hq2:S2[S1.length]?=Gc (.lst (ns.map D.int)):=p2.get hq (by lia)
  have hn':∀x∈ns.set r.toNat 1,0<=x/\x<=8:=λx hx=>by
   rcases vL hx with hx|rfl
   .exact i1 x hx
   .exact⟨by decide,by decide⟩
  have hs':0<(ns.set r.toNat 1).sum:=by
   have:=(Od hn').2.2 1 (List.mem_set (by lia) 1)
   lia
  have hq3:(S2.set S1.length (.lst ((ns.set r.toNat 1).map D.int)))[S1.length]?=Gc (.lst ((ns.set r.toNat 1).map D.int)):=rF (AQ hq2)
  have e3:=Qt hq3 (by simp;lia) hn' hs'
  have ix:ixN ns.length r=Gc r.toNat:=RQ a2 (by lia)
  refine⟨IE (ns.set r.toNat 1),S2.set S1.length (.lst ((ns.set r.toNat 1).map D.int)),?_,⟨?_,?_⟩,⟨by simp[IE,l1],Pj hs'⟩,_,(show 0<(ns.set r.toNat 1).sum.toNat by lia),?_,ML hn' hs'⟩
  .have sq3:=FH hq3
   rw[wD]at e3 sq3 hq3
   simp[DM,Iq,r1,e1,Ac hq,GN,hz,e2,AJ hq2,ix,sq3,e3,shD]
  .have g:Ba [p] S (S1++[Cl.lst (ns.map D.int)]):=p1.same.trans .app
   refine⟨q8 (g.trans p2.same).len (by simp),λm hm hmp=>?_⟩
   rw[rA (by have:=p1.same.len;lia)]
   exact(g.trans p2.same).keep m hm hmp
  .obtain⟨ds,ed,hd⟩:=p2.pen
   exact⟨ds,by rw[rA (by lia)];exact ed,hd⟩
  .have:=(Od hn').2.1
   rw[uK]at this
   lia
 .have hz':(ns.sum==0)=false:=by simpa using hz
  have e3:=Qt hq (by lia) i1 (by lia)
  refine⟨IE ns,S1++[Cl.lst (ns.map D.int)],?_,⟨p1.same.trans .app,pp⟩,⟨by simp[IE,l1],Pj (by lia)⟩,_,(show 0<ns.sum.toNat by lia),by lia,ML i1 (by lia)⟩
  have sq3:=FH hq
  simp[DM,Iq,r1,e1,Ac hq,GN,hz',sq3,e3,shD]
def ZT:(2:Nat)<Ey:=ES (n:=2) (by decide) (by decide)
inductive Pcs(p j:Nat)(S:Sto):Prop
 |mk (n:Int) (S':Sto) (e:BE [.ref p] S=Gc (.int n,S')) (g:Pn p S S') (a:1<=n) (b:n<2^j)
def NB(h:Dx p S):Pcs p 130 S:=by
 obtain⟨r1,S1,e1,a1,b1,p1⟩:=Ao h (n:=99) (by decide) (by decide)
 obtain⟨r2,S2,e2,a2,b2,p2⟩:=Ao p1.pen (n:=4) (by decide) (by decide)
 obtain⟨r3,S3,e3,a3,b3,p3⟩:=Ao p2.pen (n:=40) (by decide) (by decide)
 obtain⟨r4,S4,e4,a4,b4,p4⟩:=Ao p3.pen (n:=999) (by decide) (by decide)
 obtain⟨r5,S5,e5,a5,b5,p5⟩:=Ao p4.pen (n:=7) (by decide) (by decide)
 have pp:=(((p1.trans p2).trans p3).trans p4).trans p5
 have d2:=ZT
 have go:∀g:Int,1<=g->g<2^130->∃n:Int,atI [D.int (1+r2),.int (1+r3),.int (1+r4),.int g] (r5 / 2)=Gc (.int n)/\1<=n/\n<2^130:=λg g1 g2=>by
  obtain⟨x,ex,hx⟩:=pick (xs:=[D.int (1+r2),.int (1+r3),.int (1+r4),.int g]) (r:=r5 / 2) (by lia) (by simp;lia)
  simp only[qy,rJ,sU]at hx
  rcases hx with rfl|rfl|rfl|rfl
  .exact⟨_,ex,by lia,by lia⟩
  .exact⟨_,ex,by lia,by lia⟩
  .exact⟨_,ex,by lia,by lia⟩
  .exact⟨_,ex,g1,g2⟩
 first
  |(obtain⟨n,en,n1,n2⟩:=go (10^39+r1) (by lia) (by lia)
    exact⟨n,S5,by simp[BE,HV,e1,e2,e3,e4,e5,d2]at en ⊢; simp[en],pp,n1,n2⟩)
  |(obtain⟨n,en,n1,n2⟩:=go (10^30+r1) (by lia) (by lia)
    exact⟨n,S5,by simp[BE,HV,e1,e2,e3,e4,e5,d2]at en ⊢; simp[en],pp,n1,n2⟩)
def LU(h:Dx p S):Pcs p 131 S:=by
 obtain⟨n,S',a,b,c,d⟩:=NB h
 exact⟨n,S',a,b,c,Int.lt_trans d (by decide)⟩
def Ho{r:Int}(h:0<=r):∃m:Nat,r=m:=⟨r.toNat,by lia⟩
inductive Shr(p:Nat)(S:Sto):Prop
 |mk (x:Rat) (S':Sto) (e:FX [.ref p] S=Gc (aD x,S')) (g:Pn p S S') (a:0<x.num) (b:x.num<=x.den) (c:x.den<=12)
def Wh(h:Dx p S):Shr p S:=by
 obtain⟨r1,S1,e1,a1,b1,p1⟩:=Ao h (n:=12) (by decide) (by decide)
 obtain⟨r2,S2,e2,a2,b2,p2⟩:=Ao p1.pen (n:=1+r1) (by lia) (by lia)
 have m:=Xx (S:=S2) (t:=1+r2) (b:=1+r1) (by lia) (ES (by lia) (by lia))
 obtain⟨m1,rfl⟩:=Ho a1
 obtain⟨m2,rfl⟩:=Ho a2
 have rp:=LR (1+(m2:Int)) (1+m1) (by lia)
 have eb:(((1+(m1:Int):Int)):Rat)=(((1+m1:Nat)):Rat):=by
  have:(1+(m1:Int))=((1+m1:Nat):Int):=by lia
  rw[this];rfl
 have en:(1+(m2:Int)).natAbs=1+m2:=by lia
 have gp:0<xq (1+m2) (1+m1):=Nat.gcd_pos_of_pos_left _ (by lia)
 obtain⟨q,hq⟩:=Nat.gcd_dvd_left (1+m2) (1+m1)
 obtain⟨q',hq'⟩:=Nat.gcd_dvd_right (1+m2) (1+m1)
 refine⟨((1+(m2:Int):Int):Rat) / ((1+(m1:Int):Int):Rat),S2,?_,p1.trans p2,?_,?_,?_⟩
 .simp[FX,Le,e1,e2,m]
 .rw[eb,rp.1,en]
  generalize xq (1+m2) (1+m1)=g at*
  have:(1+(m2:Int))=((g*q:Nat):Int):=by lia
  rw[this,zC,yZ _ (by lia)]
  have:q≠0:=λz=>by subst z;lia
  lia
 .rw[eb,rp.1,rp.2,en]
  generalize xq (1+m2) (1+m1)=g at*
  have t1:(1+(m2:Int))=((g*q:Nat):Int):=by lia
  rw[t1,zC,yZ _ (by lia),hq',Nat.mul_div_cancel_left _ gp]
  have:q<=q':=by
   have:g*q<=g*q':=by lia
   exact Nat.le_of_mul_le_mul_left this gp
  lia
 .rw[eb,rp.2]
  exact q8 (Nat.div_le_self _ _) (by lia)
inductive Wts(p n:Nat)(S:Sto):Prop
 |mk (ws:Wp Int) (S':Sto) (e:Dc [.ref p,.int n] S=Gc (.tup (ws.map .int),S')) (g:Pn p S S') (a:ws.length=n) (b:∀w∈ws,1<=w/\w<=99)
def VD (h:Dx p S)(hn:n ≤ 6):Wts p n S:=by
  obtain⟨ys,S',e,hI,l,r⟩:=N5 (gs:=[]) (t:=tNm 1) (f:=(eOp (o2 Cy) [(eC (.int 1)),(eOp (o2 wIx) [(Kx [(AD AF [(eV 0),(eC (.int 3))]),(AD AF [(eV 0),(eC (.int 99))])]),(AD AF [(eV 0),(eC (.int 2))])])])) (C:=[Gc (.ref p)]) (m:=1) (I:=Pn p S) (R:=λ_ y=>∃i:Int,y = .int i/\1 ≤ i/\i ≤ 99)
    (λ_ _=>Ad) (ds:=OQ 0 n) (acc:=[]) (os:=[none]) rfl (Pn.refl h) (by rw[Jm];simp;exact AK (by lia)) λd _ os S0 ho I0=>by
      obtain⟨o,rfl⟩:=Pd ho
      obtain⟨r1,S1,e1,a1,b1,p1⟩:=Ao I0.pen (n:=3) (by decide) (by decide)
      obtain⟨r2,S2,e2,a2,b2,p2⟩:=Ao p1.pen (n:=99) (by decide) (by decide)
      obtain⟨r3,S3,e3,a3,b3,p3⟩:=Ao p2.pen (n:=2) (by decide) (by decide)
      obtain⟨x,ex,hx⟩:=pick (xs:=[.int r1,.int r2]) (r:=r3) a3 (by simpa using b3)
      simp only [qy, rJ, sU] at hx
      rcases hx with rfl | rfl
      · exact ⟨[Gc d], .int (1 + r1), S3, rfl, by simp, by simp [e1, e2, e3, ex], ((I0.trans p1).trans p2).trans p3, _, rfl, by lia, by lia⟩
      · exact ⟨[Gc d], .int (1 + r2), S3, rfl, by simp, by simp [e1, e2, e3, ex], ((I0.trans p1).trans p2).trans p3, _, rfl, by lia, by lia⟩
  obtain⟨ns,rfl,hns⟩:=QO (Jq r)
  have r1:L6 (n:Int)=true:=Gb (by lia) (by lia)
  have e':Bl [] (tNm 1) BX (eOp (o2 Cy) [(eC (.int 1)),(eOp (o2 wIx) [(Kx [(AD AF [(eV 0),(eC (.int 3))]),(AD AF [(eV 0),(eC (.int 99))])]),(AD AF [(eV 0),(eC (.int 2))])])]) (OQ 0 n) [] [Gc (.ref p),none] S=Gc (ns.map D.int,S'):=by simpa using e
  exact ⟨ns, S', by simp [Dc, Ke, r1, e'], hI, by simpa [Jm] using l, hns⟩
def FA(t:Tr)(ls:Wp Ld):Prop:=(∀l∈ls,l.k<t.k/\1<=l.n/\l.n<2^131/\l.ow.length=t.p/\l.ow.sum=1)/\∃G:Nat,0<G/\G<=32^ls.length/\∀l∈ls,∀r∈l.ow,Ok G G r
def FA.snoc(h:FA t ls)(h1:l.k<t.k/\1<=l.n/\l.n<2^131/\l.ow.length=t.p/\l.ow.sum=1)(g0:0<g)(g1:g<=32)(g2:∀r∈l.ow,Ok g g r):FA t (ls++[l]):=by
 obtain⟨ha,G,G0,G1,G2⟩:=h
 refine⟨λx hx=>?_,G*g,v7 G0 g0,?_,λx hx r hr=>?_⟩
 .rcases rf.mp hx with hx|hx
  .exact ha x hx
  .rw[sF.mp hx];exact h1
 .rw[sk,zI,yx]
  exact vG G1 g1
 .rcases rf.mp hx with hx|hx
  .exact(G2 x hx r hr).up (q9 _)
  .rw[sF.mp hx]at hr
   have:=(g2 r hr).up (t:=G) (B':=G*g) (by rw[ui];exact q9 _)
   rwa [ui g G]at this
def FA.nil:FA t []:=⟨λl hl=>(nomatch hl),1,by decide,by simp,λl hl=>(nomatch hl)⟩
def Xt(h:Dx p S)(ht:G5 t):∃ls S',GY [.ref p,t.d] S=Gc (.tup (ls.map Ld.d),S')/\Pn p S S'/\FA t ls/\ls.length<=4:=by
 obtain⟨t1,t2,t3,t4,t5,t6⟩:=ht
 have hlt:=h.lt
 have hq:(S++[Cl.lst []])[S.length]?=Gc (.lst []):=rZ
 obtain⟨r1,S1,e1,a1,b1,p1⟩:=Ao (h.app [Cl.lst []]) (n:=5) (by decide) (by decide)
 obtain⟨r2,S2,e2,a2,b2,p2⟩:=Ao p1.pen (n:=3) (by decide) (by decide)
 obtain⟨n,en,hn⟩:∃n:Nat,atI [D.int 0,.int 1,.int r1] r2=Gc (.int n)/\n<=4:=by
  obtain⟨x,ex,hx⟩:=pick (xs:=[D.int 0,.int 1,.int r1]) (r:=r2) a2 (by simpa using b2)
  simp only[qy,rJ,sU]at hx
  rcases hx with rfl|rfl|rfl
  .exact⟨0,ex,by decide⟩
  .exact⟨1,ex,by decide⟩
  .exact⟨r1.toNat,by rw[ex,sf a1],by lia⟩
 have q2:S2[S.length]?=Gc (.lst []):=(p1.trans p2).get hq (by lia)
 have rn:L6 (n:Int)=true:=Gb (by lia) (by lia)
 obtain⟨E',S',ef,ls,o,rfl,f1,f2,f3,f4,f5⟩:=Jw (gs:=[]) (t:=tNm 3) (b:=BP (HG J4 (eV 2) [Bn [AD AF [eV 0,eOp (o2 wIx) [eV 1,eC (.int 1)]],AD BE [eV 0],AD DM [eV 0,eOp (o2 wIx) [eV 1,eC (.int 0)]]]]))
  (I:=λds E S'=>∃(ls:Wp Ld) (o:qz D),E=[Gc (.ref p),Gc t.d,Gc (.ref S.length),o]/\S'[S.length]?=Gc (.lst (ls.map Ld.d))/\Dx p S'/\Ba [p] S S'/\FA t ls/\ls.length+ds.length<=4)
  (λ_ _ _ _=>Ad) (ds:=OQ 0 n) (E:=[Gc (.ref p),Gc t.d,Gc (.ref S.length),none]) (S:=S2)
  ⟨[],none,rfl,q2,p2.pen,Ba.app.trans (p1.trans p2).same,FA.nil,by simp[Jm];exact hn⟩ (by
    rintro d ds E S0 ⟨ls,o,rfl,i1,i2,i3,i4,i5⟩
    obtain⟨x1,T1,g1,c1,d1,k1⟩:=Ao i2 (n:=t.k) (by lia) (by lia)
    obtain⟨x2,T2,g2,k2,c2,d2⟩:=LU k1.pen
    obtain⟨rs,T3,g3,k3,l3,G,G0,G1,G2⟩:=Q5 k2.pen (n:=t.p) t1 t2
    obtain⟨m1,rfl⟩:=Ho c1
    have kk:=(k1.trans k2).trans k3
    have j1:T3[S.length]?=Gc (.lst (ls.map Ld.d)):=kk.get i1 (by lia)
    have hz:ls.length<sizeLine:=qw (show ls.length<5 by lia) (AK (by decide))
    refine⟨[Gc (.ref p),Gc t.d,Gc (.ref S.length),Gc d],[Gc (.ref p),Gc t.d,Gc (.ref S.length),Gc d],T3.set S.length (.lst ((ls++[Ld.mk m1 x2 rs]).map Ld.d)),by simp,?_,ls++[Ld.mk m1 x2 rs],Gc d,rfl,rF (AQ j1),?_,?_,i4.snoc (l:=Ld.mk m1 x2 rs) ⟨show m1<t.k by lia,c2,d2,l3⟩ G0 G1 G2,by simp at i5 ⊢; lia⟩
    .have e3:atI [D.int t.p,.int t.k,.int t.b,shD t.ho,.int t.h,.int t.l] 1=Gc (.int t.k):=by simp
     simp[Tr.d,g1,g2,g3,AJ i1,AJ j1,hz,Ld.d]
    .obtain⟨ds',ed,hd⟩:=kk.pen
     exact⟨ds',by rw[rA (by lia)];exact ed,hd⟩
    .refine⟨q8 (i3.trans kk.same).len (by simp),λm hm hmp=>?_⟩
     rw[rA (by lia)]
     exact(i3.trans kk.same).keep m hm hmp)
 refine⟨ls,S',?_,⟨f3,f2⟩,f4,by simpa using f5⟩
 simp[GY,ME,e1,e2,en,rn,ef,Ac f1]
noncomputable def B4(x:Ld):Cl:=.lst [.int x.k,.int x.n,shD x.ow]
structure SAt(S:Sto)(s l m:Nat)(as:Wp Nat)(st:Stt):Prop where
 root:S[s]?=Gc (.lst [.ref l,shD st.hold,.ref m])
 lo:S[l]?=Gc (.lst (as.map .ref))
 nu:S[m]?=Gc (.lst (st.nums.map .int))
 ld:∀(i a:Nat) (x:Ld),as[i]?=Gc a->st.AA[i]?=Gc x->S[a]?=Gc (B4 x)
 len:as.length=st.AA.length
 nd:(s::l::m::as).Nodup
theorem Yn:∀{ls:Wp Ld} {acc} {o} {S},acc.length+ls.length<=100->Bl [] (tNm 0) BX (WC (o1 Jy) [eV 0]) (ls.map Ld.d) acc [o] S=Gc (acc++(List.range' S.length ls.length).map D.ref,S++ls.map B4)
 | [],acc,o,S,h=>by rw[tP,EL Ad];simp
 |x::ls,acc,o,S,h=>by
  rw[rT,HN (E1:=[Gc x.d]) Ad (qw (show acc.length<101 by simp at h;lia) (AK (by decide))) (by simp) F6]
  have:WC (o1 Jy) [eV 0] [Gc x.d] S=Gc (.ref S.length,S++[B4 x]):=by simp[Ld.d,B4]
  rw[this,Ay,Yn (by simp at h ⊢; lia)]
  simp[List.range'_succ]
def getElem?_at{α:Type}{xs:Wp α}{x:α}(h:n=xs.length):(xs++[x])[n]?=Gc x:=by subst h;exact rZ
def XO{t:Tr}(hl:ls.length<=20):∃s l m as S',FQ [.tup [t.d,.tup (ls.map Ld.d),x]] S=Gc (.ref s,S')/\SAt S' s l m as ⟨ls,t.ho,[]⟩/\Ba [] S S'/\(∀n∈s::l::m::as,S.length<=n):=by
 have e:=Yn (ls:=ls) (acc:=[]) (o:=none) (S:=S) (by simp;lia)
 refine⟨S.length+ls.length+2,S.length+ls.length,S.length+ls.length+1,List.range' S.length ls.length,S++ls.map B4++[.lst ((List.range' S.length ls.length).map D.ref)]++[.lst []]++[.lst [.ref (S.length+ls.length),shD t.ho,.ref (S.length+ls.length+1)]],?_,⟨?_,?_,?_,?_,?_,?_⟩,?_,?_⟩
 .simp[FQ,LX,Tr.d,e,shD]
  lia
 .exact getElem?_at (by simp;lia)
 .rw[qv (by simp),qv (by simp)]
  exact getElem?_at (by simp)
 .rw[qv (by simp;lia)]
  exact getElem?_at (by simp;lia)
 .intro i a y ha hy
  have hi:i<ls.length:=(rB.mp hy).1
  have:a=S.length+i:=by
   rw[List.getElem?_range' hi]at ha
   simp at ha;lia
  subst this
  rw[qv (by simp;lia),qv (by simp;lia),qv (by simp;lia),sR (by lia)]
  have hy':ls[i]?=Gc y:=hy
  simp[hy']
 .simp
 .rw[rm,rm,rm]
  refine⟨?_,?_,?_,List.nodup_range'⟩
  .simp only[qy,xF];lia
  .simp only[qy,xF];lia
  .simp only[xF];lia
 .rw[wy,wy,wy]
  exact .app
 .intro n hn
  simp only[qy,xF]at hn
  lia
section
variable{S:Sto}{p:Nat}
@[simp] def p0:sqD S (shD rs)=some (rs.map aD,[]):=nr rfl
@[simp] def j0:dr (S++[.lst r]) (.ref S.length)=.own r:=Ac List.getElem?_concat_length
@[simp] def cm:Ea (S++[.lst r]) S.length=some r:=AJ List.getElem?_concat_length
def set_same(h:S[q]?=Gc c):S.set q c=S:=by
 apply yU
 intro i
 by_cases e:q=i
 .subst e;rw[rF (AQ h),h]
 .rw[rA e]
theorem QG{gs:Gd}{t:Tf}{b:Ex}{I:Sto->Prop}(hg:∀S,I S->gOk gs S)(hI:∀S c,I S->I (S.set q c)):∀{ds acc} {os} {S},os.length=m->I S->S[q]?=Gc (.lst acc)->acc.length+ds.length<=1000->(∀d∈ds,∀os S acc,os.length=m->I S->S[q]?=Gc (.lst acc)->acc.length<sizeLine->∃us us',t d (C++os) S=Gc (C++us)/\b (C++us) S=Gc (.nx,C++us',S.set q (.lst (acc++[h d])))/\us'.length=m)->∃os',os'.length=m/\Kv gs t b ds (C++os) S=Gc (.nx,C++os',S.set q (.lst (acc++ds.map h)))
 | [],acc,os,S,ho,hS,hq,hz,H=>⟨os,ho,by
     rw[Fi (hg S hS)]
     have:S.set q (.lst (acc++List.map h []))=S:=by
      rw[tP,sj]
      exact set_same hq
     rw[this]⟩
 |d::ds,acc,os,S,ho,hS,hq,hz,H=>by
  have hl:=AQ hq
  obtain⟨us,us',e1,e2,hu⟩:=H d rM os S acc ho hS hq (qw (show acc.length<1001 by simp at hz;lia) (q8 (by decide) (show 1001<=sizeLine by decide)))
  obtain⟨os',ho',e3⟩:=QG hg hI (ds:=ds) (acc:=acc++[h d]) (os:=us') (S:=S.set q (.lst (acc++[h d]))) hu (hI S _ hS) (rF hl) (by simp at hz ⊢; lia) λd' hd=>H d' (rC _ hd)
  refine⟨os',ho',?_⟩
  rw[DR (hg S hS),e1,Ay,e2,Ay,P1,e3,List.set_set]
  simp
noncomputable def un:D->Rat
 | .tup [.int n,.int d]=>(n:Rat) / (d:Rat)
 |_=>0
def Z9 r:un (aD r)=r:=Co r
noncomputable def P4(f:Rat->Rat->Rat):D->D
 | .tup [a,b]=>aD (f (un a) (un b))
 |d=>d
theorem Nj:∀{ss os},(K4 (ss.map aD) (os.map aD)).map (P4 f)=(xE f ss os).map aD
 | [],os=>by simp[K4]
 |s::ss,[]=>by simp[K4]
 |s::ss,o::os=>by
  have ih:=Nj (f:=f) (ss:=ss) (os:=os)
  unfold K4 at ih⊢
  simp only[rT,AAL,yy]at ih⊢
  rw[ih]
  simp[P4,Z9]
def V2{ss os:Wp Rat}(h:d∈K4 (ss.map aD) (os.map aD)):∃s∈ss,∃o∈os,d=.tup [aD s,aD o]:=by
 unfold K4 at h
 obtain⟨⟨a,b⟩,h1,rfl⟩:=sE.mp h
 have h2:=uV h1
 obtain⟨s,hs,rfl⟩:=sE.mp h2.1
 obtain⟨o,ho,rfl⟩:=sE.mp h2.2
 exact⟨s,hs,o,ho,rfl⟩
theorem YJ:aD 1=.tup [.int 1,.int 1]:=rfl
def Vk(n:Int):aD (n:Rat)=.tup [.int n,.int 1]:=by
 unfold aD
 simp
def PK{n:Int}(h:n.natAbs<2^k)(hk:1<=k):Sz k (n:Rat):=by
 unfold Sz
 have:1<2^k:=yI (by lia)
 simp[h,this]
def YV(hk:1<=k):Sz k (1:Rat):=by
 have:1<2^k:=yI (by lia)
 exact⟨by simpa using this,by simpa using this⟩
def Qr{ss os:Wp Rat}(hs:∀r∈ss,Sz j r)(ho:∀r∈os,Sz j r)(hx:Sz i x)(hj:2*j+2*i<=7900)(hl:ss.length<=10):∃S',D7 [shD ss,aD x,shD os] S=Gc (shD (GC x os ss),S')/\Ba [] S S':=by
 have hq:(S++[Cl.lst []])[S.length]?=Gc (.lst []):=rZ
 obtain⟨os',ho',e⟩:=QG (gs:=[]) (t:=tTp [tNm 4,tNm 5]) (b:=BP (HG J4 (eV 3) [AD B7 [AD Ap [eV 4,AD DZ [Bn [eC (.int 1),eC (.int 1)],eV 1]],AD Ap [eV 5,eV 1]]])) (C:=[Gc (shD ss),Gc (aD x),Gc (shD os),Gc (.ref S.length)]) (m:=2) (q:=S.length) (h:=P4 λs o=>s*(1-x)+o*x) (I:=λ_=>xy) (λ_ _=>Ad) (λ_ _ _=>trivial)
  (ds:=K4 (ss.map aD) (os.map aD)) (acc:=[]) (os:=[none,none]) (S:=S++[Cl.lst []]) rfl trivial hq (by simp[K7];lia) (by
    intro d hd os0 S0 acc h0 _ hq0 hz
    obtain⟨o1,o2,rfl⟩:=dh h0
    obtain⟨s,hs',o,ho',rfl⟩:=V2 hd
    have l1:=YF (S:=S0) (YV (k:=1) (by decide)) hx (by lia)
    have s1:=(fQ (YV (k:=1) (by decide)) hx)
    have l2:=Jt (S:=S0) (hs s hs') s1 (by lia)
    have l3:=Jt (S:=S0) (ho o ho') hx (by lia)
    have l4:=Qk (S:=S0) (NC (hs s hs') s1) (NC (ho o ho') hx) (by lia)
    rw[YJ]at l1
    refine⟨[Gc (aD s),Gc (aD o)],[Gc (aD s),Gc (aD o)],by simp,?_,rfl⟩
    simp[l1,l2,l3,l4,AJ hq0,hz,P4,Z9])
 rw[Nj]at e
 refine⟨(S++[Cl.lst []]).set S.length (.lst ((GC x os ss).map aD)),?_,?_⟩
 .have e':Kv [] (tTp [tNm 4,tNm 5]) (BP (HG J4 (eV 3) [AD B7 [AD Ap [eV 4,AD DZ [Bn [eC (.int 1),eC (.int 1)],eV 1]],AD Ap [eV 5,eV 1]]])) (K4 (ss.map aD) (os.map aD)) [Gc (shD ss),Gc (aD x),Gc (shD os),Gc (.ref S.length),none,none] (S++[Cl.lst []])=Gc (.nx,[Gc (shD ss),Gc (aD x),Gc (shD os),Gc (.ref S.length)]++os',(S++[Cl.lst []]).set S.length (.lst ((GC x os ss).map aD))):=by simpa[GC]using e
  simp[D7,Lc,e']
  rfl
 .refine⟨by simp,λn hn _=>?_⟩
  rw[rA (by lia),qv hn]
end
def getD_get{α:Type}{xs:Wp α}{d:α}(h:n<xs.length):xs[n]?=Gc (xs.getD n d):=by
 rw[rX,rE h]
 rfl
def getD_mem{α:Type}{xs:Wp α}{d:α}(h:n<xs.length):xs.getD n d∈xs:=rV (getD_get h)
def VI{ss:Wp Rat}(h:n<ss.length):atI (ss.map aD) (n:Int)=Gc (aD (ss.getD n 0)):=CW (by rw[rY,getD_get h];rfl)
def YE{ss:Wp Rat}(h:n<ss.length):ixN (ss.map aD).length (n:Int)=Gc n:=Ny (by simpa using h)
def VL(hs:∀r∈ss,Sz j r)(hx:Sz i x)(hj:2*j+i<=7900)(hp:p<ss.length)(hq:q<ss.length)(hpq:p≠q):∃S',Es [shD ss,(AO.GQ p q x).d] S=Gc (shD (FP p q x ss),S')/\Ba [] S S':=by
 have sp:=hs _ (getD_mem (d:=0) hp)
 have sq:=hs _ (getD_mem (d:=0) hq)
 have l1:∀S,Ap [aD (ss.getD p 0),aD x] S=Gc (aD (ss.getD p 0*x),S):=λS=>Jt sp hx (by lia)
 have s1:=NC sp hx
 have l2:∀S,DZ [aD (ss.getD p 0),aD (ss.getD p 0*x)] S=Gc (aD (ss.getD p 0-ss.getD p 0*x),S):=λS=>YF sp s1 (by lia)
 have l3:∀S,B7 [aD (ss.getD q 0),aD (ss.getD p 0*x)] S=Gc (aD (ss.getD q 0+ss.getD p 0*x),S):=λS=>Qk sq s1 (by lia)
 have a1:=VI hp
 have i1:=YE hp
 have i2:ixN (((ss.map aD).set p (aD (ss.getD p 0-ss.getD p 0*x))).length) (q:Int)=Gc q:=Ny (by simpa using hq)
 have a2:atI ((ss.map aD).set p (aD (ss.getD p 0-ss.getD p 0*x))) (q:Int)=Gc (aD (ss.getD q 0)):=CW (by
  rw[rA hpq,rY,getD_get hq];rfl)
 refine⟨S++[.lst ((FP p q x ss).map aD)],?_,.app⟩
 simp only[uK,sG]at i1 i2
 have em:(FP p q x ss).map aD=((ss.map aD).set p (aD (ss.getD p 0-ss.getD p 0*x))).set q (aD (ss.getD q 0+ss.getD p 0*x)):=by rw[FP,wD,wD]
 unfold shD
 rw[em]
 generalize aD (ss.getD p 0-ss.getD p 0*x)=d1 at*
 generalize aD (ss.getD q 0+ss.getD p 0*x)=d2 at*
 generalize aD (ss.getD p 0*x)=d3 at*
 generalize aD (ss.getD p 0)=d4 at*
 generalize aD (ss.getD q 0)=d5 at*
 simp[Es,NQ,AO.d,a1,l1,l2,l3,i1,i2,a2]
def Ss(ha:S[a]?=Gc (B4 x))(hb:S[b]?=Gc (B4 y))(hs:∀r∈x.ow,Sz j r)(ho:∀r∈y.ow,Sz j r)(hx:x.n.natAbs<2^i)(hy:y.n.natAbs<2^i)(h0:0<x.n+y.n)(h1:1<=i)(hj:2*j+4*i<=7900)(hl:x.ow.length<=10):∃S',Fm [.ref a,.ref b] S=Gc (shD (By x.n y.n x.ow y.ow),S')/\Ba [] S S':=by
 have la:=AQ ha
 have lb:=AQ hb
 have hq:(S++[Cl.lst []])[S.length]?=Gc (.lst []):=rZ
 have ha':(S++[Cl.lst []])[a]?=Gc (B4 x):=by rw[qv la];exact ha
 have hb':(S++[Cl.lst []])[b]?=Gc (B4 y):=by rw[qv lb];exact hb
 obtain⟨os',ho',e⟩:=QG (gs:=[]) (t:=tTp [tNm 3,tNm 4]) (b:=AN (BN 5 (AD B7 [AD Ap [Bn [eOp (o2 wIx) [eV 0,eC (.int 1)],eC (.int 1)],eV 3],AD Ap [Bn [eOp (o2 wIx) [eV 1,eC (.int 1)],eC (.int 1)],eV 4]]))
  (BP (HG J4 (eV 2) [AD Ap [eV 5,AD Bd [eC (.int 1),eOp (o2 Cy) [eOp (o2 wIx) [eV 0,eC (.int 1)],eOp (o2 wIx) [eV 1,eC (.int 1)]]]]]))) (C:=[Gc (.ref a),Gc (.ref b),Gc (.ref S.length)]) (m:=3) (q:=S.length) (h:=P4 λs o=>(s*x.n+o*y.n) / (x.n+y.n:Int)) (I:=λS'=>S'[a]?=Gc (B4 x)/\S'[b]?=Gc (B4 y)) (λ_ _=>Ad) (λS' c h=>⟨by rw[rA (by lia)];exact h.1,by rw[rA (by lia)];exact h.2⟩)
  (ds:=K4 (x.ow.map aD) (y.ow.map aD)) (acc:=[]) (os:=[none,none,none]) (S:=S++[Cl.lst []]) rfl ⟨ha',hb'⟩ hq (by simp[K7];lia) (by
    intro d hd os0 S0 acc h0' hI hq0 hz
    obtain⟨o1,o2,o3,rfl⟩:=ny h0'
    obtain⟨s,hs',o,ho',rfl⟩:=V2 hd
    have d1:=Ac hI.1
    have d2:=Ac hI.2
    have z1:=PK hx h1
    have z2:=PK hy h1
    have l1:=Jt (S:=S0) z1 (hs s hs') (by lia)
    have l2:=Jt (S:=S0) z2 (ho o ho') (by lia)
    have s1:=NC z1 (hs s hs')
    have s2:=NC z2 (ho o ho')
    have l3:=Qk (S:=S0) s1 s2 (by lia)
    have b1:=H0 hx hy
    have l4:=Xx (S:=S0) (t:=1) h0 (CT b1 (by lia))
    have s4:Sz (i+1) (((1:Int):Rat) / ((x.n+y.n:Int):Rat)):=Lm h0 (show(1:Int).natAbs<2^(i+1)from yI (by lia)) b1
    have l5:=Jt (S:=S0) (iR s1 s2) s4 (by lia)
    rw[Vk]at l1 l2
    refine⟨[Gc (aD s),Gc (aD o),o3],[Gc (aD s),Gc (aD o),Gc (aD (x.n*s+y.n*o))],by simp,?_,rfl⟩
    have ev:(((x.n:Rat)*s+(y.n:Rat)*o)*(((1:Int):Rat) / ((x.n+y.n:Int):Rat)))=(s*x.n+o*y.n) / (x.n+y.n:Int):=by
     push_cast
     grind
    rw[ev]at l5
    have lf:(P4 λs o=>(s*x.n+o*y.n) / (x.n+y.n:Int)) (.tup [aD s,aD o])=aD ((s*x.n+o*y.n) / (x.n+y.n:Int)):=by simp only[P4,Z9]
    rw[lf]
    generalize aD ((s*x.n+o*y.n) / (x.n+y.n:Int))=e5 at*
    generalize aD (((1:Int):Rat) / ((x.n+y.n:Int):Rat))=e4 at*
    generalize aD (x.n*s+y.n*o)=e3 at*
    simp[d1,d2,B4,l1,l2,l3,l4,l5,AJ hq0,hz])
 rw[Nj]at e
 refine⟨(S++[Cl.lst []]).set S.length (.lst ((By x.n y.n x.ow y.ow).map aD)),?_,?_⟩
 .have e':=e
  simp only[sQ,r9]at e'
  have d1:=Ac ha'
  have d2:=Ac hb'
  change Kv _ _ _ _ _ _=Gc (_,_,List.set _ _ (Cl.lst (List.map aD (By x.n y.n x.ow y.ow))))at e'
  generalize By x.n y.n x.ow y.ow=rs at*
  simp[Fm,Kb,d1,d2,e',shD]
 .refine⟨by simp,λn hn _=>?_⟩
  rw[rA (by lia),qv hn]
section
variable{S:Sto}{p:Nat}
theorem Cj{α:Type}{gs:Gd}{t:Tf}{f:Ev}{C:En}{m:Nat}{e g:α->D}{S:Sto}(hg:gOk gs S):∀{xs:Wp α} {acc:Wp D} {os:En},os.length=m->acc.length+xs.length<=sizeLine->(∀x∈xs,∀os,os.length=m->∃us,us.length=m/\t (e x) (C++os) S=Gc (C++us)/\f (C++us) S=Gc (g x,S))->Bl gs t BX f (xs.map e) acc (C++os) S=Gc (acc++xs.map g,S)
 | [],acc,os,ho,hz,h=>by rw[tP,EL hg];simp
 |x::xs,acc,os,ho,hz,h=>by
  obtain⟨us,hu,e1,e2⟩:=h x rM os ho
  rw[rT,HN hg (by simp at hz;lia) e1 F6,e2,Ay]
  rw[Cj hg hu (by simp at hz ⊢; lia) λx' hx=>h x' (rC _ hx)]
  simp
theorem FW{α:Type}{gs:Gd}{t:Tf}{c f:Ev}{C:En}{m:Nat}{e g:α->D}{b:α->su}{S:Sto}(hg:gOk gs S):∀{xs:Wp α} {acc:Wp D} {os:En},os.length=m->acc.length+xs.length<=sizeLine->(∀x∈xs,∀os,os.length=m->∃us,us.length=m/\t (e x) (C++os) S=Gc (C++us)/\c (C++us) S=Gc (.bl (b x),S)/\f (C++us) S=Gc (g x,S))->Bl gs t c f (xs.map e) acc (C++os) S=Gc (acc++(xs.filter b).map g,S)
 | [],acc,os,ho,hz,h=>by rw[tP,EL hg];simp
 |x::xs,acc,os,ho,hz,h=>by
  obtain⟨us,hu,e1,e2,e3⟩:=h x rM os ho
  cases hb:b x with
  |true=>
   rw[hb]at e2
   rw[rT,HN hg (by simp at hz;lia) e1 e2,e3,Ay,FW hg hu (by simp at hz ⊢; lia) λd' hd=>h d' (rC _ hd)]
   simp[hb]
  |false=>
   rw[hb]at e2
   rw[rT,Ih hg (by simp at hz;lia) e1 e2,FW hg hu (by simp at hz ⊢; lia) λd' hd=>h d' (rC _ hd)]
   simp[hb]
def XS{as:Wp Nat}{ls:Wp Ld}(h:as.length=ls.length):as.map D.ref=(as.zip ls).map λz=>D.ref z.1:=by
 have:as=(as.zip ls).map Prod.fst:=(List.map_fst_zip (by lia)).symm
 conv=>lhs;rw[this]
 rw[tJ];rfl
def aV{β:Type}{as:Wp Nat}{ls:Wp Ld}(h:as.length=ls.length)(g:Ld->β):ls.map g=(as.zip ls).map λz=>g z.2:=by
 have:ls=(as.zip ls).map Prod.snd:=(List.map_snd_zip (by lia)).symm
 conv=>lhs;rw[this]
 rw[tJ];rfl
section
variable{s l m:Nat}{as:Wp Nat}{st:Stt}
def SAt.qC(h:SAt S s l m as st){z:Nat×Ld}(hz:z∈as.zip st.AA):S[z.1]?=Gc (B4 z.2):=by
 obtain⟨i,hi⟩:=uY.mp hz
 have:=wH.mp hi
 exact h.ld i z.1 z.2 this.1 this.2
def SAt.at(h:SAt S s l m as st){i:Nat}(hi:i<st.AA.length):∃a,as[i]?=Gc a/\S[a]?=Gc (B4 (AL st.AA i))/\atI (as.map D.ref) (i:Int)=Gc (.ref a):=by
 have h1:i<as.length:=by rw[h.len];exact hi
 refine⟨as[i],rE h1,h.ld i _ _ (rE h1) (Eh hi),CW (by rw[rY,rE h1];rfl)⟩
def SAt.guard(h:SAt S s l m as st):gOk [(l,as.map D.ref)] S:=by
 intro g hg
 simp only[qy,rJ,sU]at hg
 subst hg
 exact AJ h.lo
end
theorem Vb{M:Int}(hM:0<=M):∀{xs:Wp Int},(∀x∈xs,0<=x/\x<=M)->0<=xs.sum/\xs.sum<=xs.length*M
 | [],_=>by simp
 |x::xs,h=>by
  have h1:=h x rM
  have h2:=Vb hM λy hy=>h y (rC _ hy)
  simp only[sJ,sS]
  refine⟨by lia,?_⟩
  have:((xs.length+1:Nat):Int)*M=xs.length*M+M:=by push_cast;grind
  lia
theorem Mf:∀{xs:Wp Int} {y:Int},(∀x∈xs,0<=x)->y∈xs->y<=xs.sum
 |x::xs,y,h,hy=>by
  have h1:=h x rM
  have h2:0<=xs.sum:=by
   clear hy
   induction xs with
   |nil=>simp
   |cons z zs ih=>
    have:=h z (by simp)
    have:=ih λw hw=>h w (by simp at hw ⊢; rcases hw with hw|hw<;>simp[hw])
    simp only[sJ];lia
  simp only[sJ]
  rcases qy.mp hy with e|e
  .lia
  .have:=Mf (λz hz=>h z (rC _ hz)) e
   lia
section
variable{t:Tr}{k:Nat}{st:Stt}{ws:Wp Int}{n:Int}{l:Nat}
def MI{i:Nat}(hw:∀w∈ws,1<=w/\w<=99)(hi:i<ws.length):1<=ws.getD i 0/\ws.getD i 0<=99:=hw _ (getD_mem hi)
def Q2{i:Nat}(hi:i<ws.length):atI (ws.map D.int) (i:Int)=Gc (.int (ws.getD i 0)):=CW (by rw[rY,getD_get hi];rfl)
def Ni(hi:ws.length=k+1):atI (ws.map D.int) (-1:Int)=Gc (.int (ws.getD k 0)):=by
 have ix:ixN (ws.map D.int).length (-1)=Gc k:=by
  rw[sG,hi]
  unfold ixN
  simp
  lia
 unfold atI
 rw[ix]
 show(ws.map D.int)[k]?=_
 rw[rY,getD_get (d:=(0:Int)) (by lia)]
 rfl
def JX(ht:G5 t)(h:Ee t k st)(hk:k<=20)(hl:ws.length=t.k+1)(hw:∀w∈ws,1<=w/\w<=99):0<Dy t st.AA ws/\Dy t st.AA ws<2^(145+k):=by
 obtain⟨t1,t2,t3,t4,t5,t6⟩:=ht
 have hP:(0:Int)<=2^(131+k):=vf (Int.pow_pos (by decide))
 have hs:=Vb (M:=2^(131+k)*99) (by lia) (xs:=st.AA.map λl=>l.n*ws.getD l.k 0) (by
  intro x hx
  obtain⟨y,hy,rfl⟩:=sE.mp hx
  have h1:=h.pcs y hy
  have h2:=MI hw (i:=y.k) (by have:=h.kind y hy;lia)
  refine⟨zk h1.1 (by lia),Int.mul_le_mul (by lia) h2.2 (by lia) hP⟩)
 have hb:=MI hw (i:=t.k) (by lia)
 have hlen:=h.len
 rw[sG]at hs
 have h3:(st.AA.length:Int)*(2^(131+k)*99)<=24*(2^(131+k)*99):=xQ (by lia) (by lia)
 have h4:(1:Int)<=t.b*ws.getD t.k 0:=by
  have:0<(t.b:Int)*ws.getD t.k 0:=tN (by lia) (by lia)
  lia
 have h5:t.b*ws.getD t.k 0<=20*99:=Int.mul_le_mul (by lia) hb.2 (by lia) (by decide)
 have h6:(2:Int)^(145+k)=2^(131+k)*16384:=by rw[show 145+k=(131+k)+14 by lia,Int.pow_add];rfl
 have h7:(1:Int)<=2^(131+k):=by have:(0:Int)<2^(131+k):=Int.pow_pos (by decide);lia
 have h7':(2:Int)^11<=2^(131+k):=by
  have:(2^11:Nat)<=2^(131+k):=sT (by decide) (by lia)
  exact_mod_cast this
 unfold Dy
 rw[h6]
 generalize (2:Int)^(131+k)=P at*
 exact⟨Int.add_pos_of_nonneg_of_pos hs.1 (vH (by decide) h4),vj (Int.add_le_add (Int.le_trans hs.2 h3) h5) (by clear h3 hs h4 h5 h6;lia)⟩
def UT(ht:G5 t)(h:Ee t k st)(hl:ws.length=t.k+1)(hw:∀w∈ws,1<=w/\w<=99)(hi:l<st.AA.length)(h1:1<=n)(h2:n<=(AL st.AA l).n):0<n*ws.getD (AL st.AA l).k 0/\n*ws.getD (AL st.AA l).k 0<Dy t st.AA ws:=by
 obtain⟨t1,t2,t3,t4,t5,t6⟩:=ht
 have hw1:=MI hw (i:=(AL st.AA l).k) (by have:=h.kind _ (AU hi);lia)
 have hb:=MI hw (i:=t.k) (by lia)
 have h4:(1:Int)<=t.b*ws.getD t.k 0:=by
  have:0<(t.b:Int)*ws.getD t.k 0:=tN (by lia) (by lia)
  lia
 have h5:=Mf (xs:=st.AA.map λl=>l.n*ws.getD l.k 0) (y:=(AL st.AA l).n*ws.getD (AL st.AA l).k 0) (by
  intro x hx
  obtain⟨y,hy,rfl⟩:=sE.mp hx
  have h1:=h.pcs y hy
  have h2:=MI hw (i:=y.k) (by have:=h.kind y hy;lia)
  exact zk h1.1 (by lia)) (sE.mpr ⟨_,AU hi,rfl⟩)
 have h6:n*ws.getD (AL st.AA l).k 0<=(AL st.AA l).n*ws.getD (AL st.AA l).k 0:=xQ h2 (by lia)
 refine⟨tN (by lia) (by lia),?_⟩
 exact vj (Int.le_trans h6 h5) (Int.lt_add_of_pos_right _ (vH Int.zero_lt_one h4))
def K6(hi:l<st.AA.length):Ig t st.AA l n ws=((n*ws.getD (AL st.AA l).k 0:Int):Rat) / (Dy t st.AA ws:Rat):=by
 unfold Ig
 rw[Eh hi]
 rfl
def FT{x:Int}{j:Nat}(h0:0<=x)(h1:x<2^j):x.natAbs<2^j:=by
 have:((x.natAbs:Nat):Int)<((2^j:Nat):Int):=by
  rw[zl h0];push_cast;exact h1
 exact_mod_cast this
def Vc(ht:G5 t)(h:Ee t k st)(hk:k<=20)(hl:ws.length=t.k+1)(hw:∀w∈ws,1<=w/\w<=99)(hi:l<st.AA.length)(h1:1<=n)(h2:n<=(AL st.AA l).n):Sz (145+k) (Ig t st.AA l n ws):=by
 have a:=JX ht h hk hl hw
 have b:=UT ht h hl hw hi h1 h2
 rw[K6 hi]
 exact Lm a.1 (FT (by lia) (by lia)) (FT (by lia) a.2)
def bE{s r m:Nat}{as:Wp Nat}(hS:SAt S s r m as st)(ht:G5 t)(h:Ee t k st)(hk:k<=20)(hl:ws.length=t.k+1)(hw:∀w∈ws,1<=w/\w<=99)(hi:l<st.AA.length)(h1:1<=n)(h2:n<=(AL st.AA l).n):Ht [t.d,.ref r,(AO.thr l n ws).d] S=Gc (aD (Ig t st.AA l n ws),S):=by
 have a:=JX ht h hk hl hw
 obtain⟨x,x1,x2,x3⟩:=hS.at hi
 have hlen:=h.len
 have e:=Cj (gs:=[(r,as.map D.ref)]) (t:=tTp [tNm 1,tNm 2,tNm 3]) (f:=eOp (o2 CO) [eV 2,eOp (o2 wIx) [eV 0,eV 1]]) (C:=[Gc (.tup (ws.map D.int))]) (m:=3) (e:=λz:Nat×Ld=>D.ref z.1) (g:=λz=>D.int (z.2.n*ws.getD z.2.k 0)) hS.guard (xs:=as.zip st.AA) (acc:=[]) (os:=[none,none,none]) rfl (q8 (show _<=24 by simp;lia) (AK (by decide))) (by
  intro z hz os ho
  obtain⟨q1,q2,q3,rfl⟩:=ny ho
  have c1:=hS.qC hz
  have hm:z.2∈st.AA:=(uV (a:=z.1) (b:=z.2) hz).2
  have hk:=h.kind _ hm
  have w1:=Q2 (ws:=ws) (i:=z.2.k) (by lia)
  have w2:=MI hw (i:=z.2.k) (by lia)
  have m1:De z.2.n (ws.getD z.2.k 0)=true:=mulR (by lia) (by lia)
  generalize ws.getD z.2.k 0=wz at*
  refine⟨[Gc (.int z.2.k),Gc (.int z.2.n),Gc (shD z.2.ow)],rfl,?_,?_⟩
  .simp[AJ c1,B4]
  .simp[w1,m1])
 rw[<-XS hS.len,<-aV hS.len (λx=>D.int (x.n*ws.getD x.k 0))]at e
 have e':=e
 simp only[sQ,r9]at e'
 rw[K6 hi]
 have es:Kt (st.AA.map λx=>D.int (x.n*ws.getD x.k 0))=Gc (st.AA.map λx=>x.n*ws.getD x.k 0):=by
  have:=GN (st.AA.map λx=>x.n*ws.getD x.k 0)
  rwa [tJ]at this
 have w1:=Q2 (ws:=ws) (i:=(AL st.AA l).k) (by have:=h.kind _ (AU hi);lia)
 have w3:=MI hw (i:=(AL st.AA l).k) (by have:=h.kind _ (AU hi);lia)
 have w2:=Ni hl
 have w4:=MI hw (i:=t.k) (by lia)
 have m1:De n (ws.getD (AL st.AA l).k 0)=true:=mulR (by lia) (by lia)
 have m2:De (t.b:Int) (ws.getD t.k 0)=true:=mulR (by lia) (by lia)
 have l1:=Xx (S:=S) (t:=n*ws.getD (AL st.AA l).k 0) a.1 (CT (FT (by lia) a.2) (by lia))
 have e2:Dy t st.AA ws=(st.AA.map λx=>x.n*ws.getD x.k 0).sum+t.b*ws.getD t.k 0:=rfl
 rw[e2]at l1⊢
 generalize aD (((n*ws.getD (AL st.AA l).k 0:Int):Rat) / (((st.AA.map λx=>x.n*ws.getD x.k 0).sum+t.b*ws.getD t.k 0:Int):Rat))=R at*
 generalize (st.AA.map λx=>x.n*ws.getD x.k 0)=es' at*
 generalize (st.AA.map λx=>D.int (x.n*ws.getD x.k 0))=es2 at*
 generalize ws.getD (AL st.AA l).k 0=wa at*
 generalize ws.getD t.k 0=wb at*
 have dx:=Ac x2
 have dl:=Ac hS.lo
 simp[Ht,Ml,AO.d,Tr.d,FH hS.lo,e',es,w2,m2,dl,x3,dx,B4,w1,m1,l1]
def Ux{G B:Nat}(ht:G5 t)(h:Ee t k st)(hk:k<=20)(hl:ws.length=t.k+1)(hw:∀w∈ws,1<=w/\w<=99)(hi:l<st.AA.length)(h1:1<=n)(h2:n<=(AL st.AA l).n){os ss:Wp Rat}(ho:∀r∈os,Ok G B r)(hs:∀r∈ss,Ok G B r):∀r∈GC (Ig t st.AA l n ws) os ss,Ok (G*(Dy t st.AA ws).toNat) (B*(Dy t st.AA ws).toNat) r:=by
 have a:=JX ht h hk hl hw
 have b:=UT ht h hl hw hi h1 h2
 intro r hr
 unfold GC at hr
 rw[uY]at hr
 obtain⟨i,hi'⟩:=hr
 rw[ve]at hi'
 obtain⟨x,y,hx,hy,rfl⟩:=hi'
 rw[K6 hi]
 generalize n*ws.getD (AL st.AA l).k 0=c at*
 generalize Dy t st.AA ws=W at*
 have:=Ok.mix (a:=(W-c).toNat) (b:=c.toNat) (t:=W.toNat) (hs x (rV hx)) (ho y (rV hy)) (by rw[<-Int.toNat_add (Int.sub_nonneg_of_le (vf b.2)) (vf b.1),Int.sub_add_cancel]) (Int.pos_iff_toNat_pos.mp a.1)
 have e1:(((W-c).toNat:Nat):Rat)=(W:Rat)-(c:Rat):=by
  have:(((W-c).toNat:Nat):Int)=W-c:=sf (by lia)
  have:((((W-c).toNat:Nat):Int):Rat)=((W-c:Int):Rat):=by rw[this]
  push_cast at this
  exact this
 have e2:((c.toNat:Nat):Rat)=(c:Rat):=by
  have:((c.toNat:Nat):Int)=c:=sf (by lia)
  have:(((c.toNat:Nat):Int):Rat)=(c:Rat):=by rw[this]
  exact this
 have e3:((W.toNat:Nat):Rat)=(W:Rat):=by
  have:((W.toNat:Nat):Int)=W:=sf (by lia)
  have:(((W.toNat:Nat):Int):Rat)=(W:Rat):=by rw[this]
  exact this
 rw[e1,e2,e3]at this
 have ne:(W:Rat)≠0:=by
  intro z
  have:=ur.mp z
  lia
 have ev:(x*((W:Rat)-(c:Rat))+y*(c:Rat)) / (W:Rat)=x*(1-(c:Rat) / (W:Rat))+y*((c:Rat) / (W:Rat)):=by grind
 rw[ev]at this
 exact this
end
end
def aa(h:tV x=true)(g:tV y=true):Kr (.str x) (.str y)=true:=by
 unfold Kr
 show(tV x && tV y && _)=true
 rw[h,g]
 rfl
def ag(c:Char):c.toNat<1114112:=by
 have h:c.toNat.isValidChar:=c.valid
 rcases h with h|h
 .exact vh h (by decide)
 .exact h.2
def RI:tV (sI x)=true:=by
 unfold tV sI
 simp
 intro c hc
 rw[cpsOfBytes_string]at hc
 obtain⟨ch,_,rfl⟩:=sE.mp hc
 exact ag ch
theorem Pe:∀{a b:Wp Char},a.map Char.toNat=b.map Char.toNat->a=b
 | [],[],_=>rfl
 |x::a,y::b,h=>by
  rw[rT,rT]at h
  injection h with h1 h2
  rw[Char.toNat_inj.mp h1,Pe h2]
 | [],_::_,h=>nomatch h
 |_::_,[],h=>nomatch h
def aj(h:sI x=sI y):x=y:=by
 rw[yz,yz]at h
 injection h with h
 exact String.toList_inj.mp (Pe (by simpa using h))
@[simp] def qc(x y:String):Kr (.str (Str.ofString x)) (.str (Str.ofString y))=true:=aa RI RI
@[simp] def qi(x y:String):deq (.str (Str.ofString x)) (.str (Str.ofString y))=decide (x=y):=by
  show(sI x==sI y)=_
  rw[wW,uv,uG]
  exact⟨aj,λz=>by rw[z]⟩
@[simp] def Xa:wIn false (.val (.str "bring")) (.val (.tup [.str "spoil",.str "throw"]))=some (.val (.bl false)):=nr rfl
@[simp] def mv:wIn false (.val (.str "pool")) (.val BZ)=some (.val (.bl true)):=nr rfl
@[simp] def cE:wIn false (.val (.str "swap")) (.val (.tup [.str "swap",.str "trade"]))=some (.val (.bl true)):=nr rfl
@[simp] def mX:wIn false (.val (.str "swap")) (.val BZ)=some (.val (.bl true)):=nr rfl
@[simp] def ZI:wIn false (.val (.str "trade")) (.val (.tup [.str "swap",.str "trade"]))=some (.val (.bl true)):=nr rfl
@[simp] def k7:wIn false (.val (.str "trade")) (.val BZ)=some (.val (.bl true)):=nr rfl
@[simp] def Y5:wIn false (.val (.str "spoil")) (.val (.tup [.str "swap",.str "trade"]))=some (.val (.bl false)):=nr rfl
@[simp] def YA:wIn false (.val (.str "spoil")) (.val (.tup [.str "spoil",.str "throw"]))=some (.val (.bl true)):=nr rfl
@[simp] def lx:wIn false (.val (.str "spoil")) (.val BZ)=some (.val (.bl false)):=nr rfl
@[simp] def Yr:wIn false (.val (.str "throw")) (.val (.tup [.str "swap",.str "trade"]))=some (.val (.bl false)):=nr rfl
@[simp] def Xr:wIn false (.val (.str "throw")) (.val (.tup [.str "spoil",.str "throw"]))=some (.val (.bl true)):=nr rfl
@[simp] def jx:wIn false (.val (.str "throw")) (.val BZ)=some (.val (.bl false)):=nr rfl
@[simp] def cL:wIn false (.val (.str "sell")) (.val (.tup [.str "swap",.str "trade"]))=some (.val (.bl false)):=nr rfl
@[simp] def ZH:wIn false (.val (.str "sell")) (.val (.tup [.str "spoil",.str "throw"]))=some (.val (.bl false)):=nr rfl
@[simp] def ng:wIn false (.val (.str "sell")) (.val BZ)=some (.val (.bl false)):=nr rfl
@[simp] def fR:dr S BZ=.val BZ:=nr rfl
section
variable{a b c d e f:D}
@[simp] def iY:MO [a,b,c,d,e] (some (-4)) none=[b,c,d,e]:=nr rfl
@[simp] def jN:MO [a,b,c,d,e,f] (some (-4)) none=[c,d,e,f]:=nr rfl
@[simp] def ki:MO [a,b,c,d] (some 1) none=[b,c,d]:=nr rfl
@[simp] def iV:MO [a,b,c,d,e] (some 1) (some 2)=[b]:=nr rfl
@[simp] def jI:MO [a,b,c,d,e,f] (some 1) (some 2)=[b]:=nr rfl
@[simp] def jk:je S ds [.tup zs]=if ds.length+zs.length<=sizeLine then some (.non,ds++zs)else none:=nr rfl
end
theorem SAt.same(h:SAt S s l m as st)(g:Ba A S S')(hA:∀n∈A,n∉s::l::m::as):SAt S' s l m as st where
 root:=g.get h.root λz=>hA _ z (by simp)
 lo:=g.get h.lo λz=>hA _ z (by simp)
 nu:=g.get h.nu λz=>hA _ z (by simp)
 ld:=λi a x ha hx=>g.get (h.ld i a x ha hx) λz=>hA _ z (by simp[rV ha])
 len:=h.len
 nd:=h.nd
def SAt.WM(h:SAt S s l m as st)(g:Ba [] S S'):SAt S' s l m as st:=h.same g λ_ z=>(nomatch z)
def SAt.ne(h:SAt S s l m as st):s≠l/\s≠m/\l≠m/\s∉as/\l∉as/\m∉as/\as.Nodup:=by
 have:=h.nd
 simp only[rm,qy,vg]at this
 obtain⟨⟨a,b,c⟩,⟨d,e⟩,f,g⟩:=this
 exact⟨a,b,d,c,e,f,g⟩
def SAt.QR(h:SAt S s l m as st)(ha:as[i]?=Gc a):SAt (S.set a (B4 y)) s l m as {st with AA:=st.AA.set i y}:=by
 obtain⟨n1,n2,n3,n4,n5,n6,n7⟩:=h.ne
 have ma:=rV ha
 have q1:a≠s:=λe=>n4 (e▸ma)
 have q2:a≠l:=λe=>n5 (e▸ma)
 have q3:a≠m:=λe=>n6 (e▸ma)
 have hi:i<as.length:=(rB.mp ha).1
 have hi':i<st.AA.length:=by rw[<-h.len];exact hi
 refine⟨by rw[rA q1];exact h.root,by rw[rA q2];exact h.lo,by rw[rA q3];exact h.nu,?_,by simp[h.len],h.nd⟩
 intro j b x hb hx
 by_cases e:i=j
 .subst e
  rw[ha]at hb
  cases hb
  have hx':(st.AA.set i y)[i]?=Gc x:=hx
  rw[rF hi']at hx'
  cases hx'
  have hl:a<S.length:=AQ (h.ld i a _ ha (rE hi'))
  exact rF hl
 .have hx':(st.AA.set i y)[j]?=Gc x:=hx
  rw[rA e]at hx'
  have:a≠b:=by
   intro z
   subst z
   exact e ((vq hi n7).mp (ha.trans hb.symm))
  rw[rA this]
  exact h.ld j b x hb hx'
def SAt.lts(h:SAt S s l m as st):∀n∈s::l::m::as,n<S.length:=by
 intro n hn
 simp only[qy]at hn
 rcases hn with rfl|rfl|rfl|hn
 .exact AQ h.root
 .exact AQ h.lo
 .exact AQ h.nu
 .obtain⟨i,hi⟩:=uY.mp hn
  have:i<st.AA.length:=by rw[<-h.len];exact(rB.mp hi).1
  exact AQ (h.ld i n _ hi (rE this))
def SAt.app(h:SAt S s l m as st) y:SAt ((S++[B4 y]).set l (.lst (as.map D.ref++[.ref S.length]))) s l m (as++[S.length]) {st with AA:=st.AA++[y]}:=by
 obtain⟨n1,n2,n3,n4,n5,n6,n7⟩:=h.ne
 have lt:=h.lts
 have ls:=lt s (by simp);have ll:=lt l (by simp);have lm:=lt m (by simp)
 have la:∀a∈as,a<S.length:=λa ha=>lt a (by simp[ha])
 refine⟨?_,?_,?_,?_,by simp[h.len],?_⟩
 .rw[rA (tu n1),qv ls];exact h.root
 .rw[rF (by simp;lia)];simp
 .rw[rA n3,qv lm];exact h.nu
 .intro i a x ha hx
  by_cases e:i<as.length
  .rw[qv e]at ha
   have hx':(st.AA++[y])[i]?=Gc x:=hx
   rw[qv (by rw[<-h.len];exact e)]at hx'
   have ma:=rV ha
   rw[rA (show l≠a by rintro rfl;exact n5 ma),qv (la a ma)]
   exact h.ld i a x ha hx'
  .have hx':(st.AA++[y])[i]?=Gc x:=hx
   have:i=as.length:=by
    have:=(rB.mp ha).1
    simp at this;lia
   subst this
   rw[rZ]at ha
   cases ha
   rw[h.len,rZ]at hx'
   cases hx'
   rw[rA (by lia),rZ]
 .have:(s::l::m::(as++[S.length]))=(s::l::m::as)++[S.length]:=by simp
  rw[this,uA]
  refine⟨h.nd,by simp,?_⟩
  intro a ha b hb e
  simp only[qy,rJ,sU]at hb
  have:=lt a ha
  lia
def SAt.hold(h:SAt S s l m as st) rs:SAt (S.set s (.lst [.ref l,shD rs,.ref m])) s l m as {st with hold:=rs}:=by
 obtain⟨n1,n2,n3,n4,n5,n6,n7⟩:=h.ne
 refine⟨rF (h.lts s (by simp)),by rw[rA n1];exact h.lo,by rw[rA n2];exact h.nu,?_,h.len,h.nd⟩
 intro i a x ha hx
 rw[rA (show s≠a by rintro rfl;exact n4 (rV ha))]
 exact h.ld i a x ha hx
def SAt.nums(h:SAt S s l m as st) us:SAt (S.set m (.lst (us.map D.int))) s l m as {st with nums:=us}:=by
 obtain⟨n1,n2,n3,n4,n5,n6,n7⟩:=h.ne
 refine⟨by rw[rA (tu n2)];exact h.root,by rw[rA (tu n3)];exact h.lo,rF (h.lts m (by simp)),?_,h.len,h.nd⟩
 intro i a x ha hx
 rw[rA (show m≠a by rintro rfl;exact n6 (rV ha))]
 exact h.ld i a x ha hx
def Ol{C:En}(h:SAt S s l m as st)(hi:C.length=i8)(hb:∀S' a x,x∈st.AA->S'[a]?=Gc (B4 x)->∃S2,body (C++[Gc (.ref a)]) S'=Gc (.nx,C++[Gc (.ref a)],S2.set a (B4 (f x)))/\Ba [] S' S2):∃o S',Kv [(l,as.map D.ref)] (tNm i8) body (as.map D.ref) (C++[o0]) S=Gc (.nx,C++[o],S')/\SAt S' s l m as {st with AA:=st.AA.map f}/\Ba as S S':=by
 obtain⟨E',S',e,i,o,i1,i2,rfl,i3,i4⟩:=Jw (gs:=[(l,as.map D.ref)]) (t:=tNm i8) (b:=body)
  (I:=λds E S'=>∃(i:Nat) (o:qz D),ds=(as.drop i).map D.ref/\i<=as.length/\E=C++[o]/\SAt S' s l m as {st with AA:=(st.AA.take i).map f++st.AA.drop i}/\Ba as S S')
  (λds E S' hI=>by obtain⟨i,o,_,_,_,h1,_⟩:=hI;exact h1.guard) (ds:=as.map D.ref) (E:=C++[o0]) (S:=S)
  ⟨0,o0,by simp,uQ _,rfl,by simpa using h,.refl⟩ (by
    rintro d ds E S1 ⟨i,o,i1,i2,rfl,i3,i4⟩
    have hlt:i<as.length:=by
     rcases y0 i as.length with w|w
     .exact w
     .rw[uz w]at i1;cases i1
    rw[tE hlt,rT]at i1
    injection i1 with e1 e2
    subst e1 e2
    have hl2:i<st.AA.length:=by rw[<-h.len];exact hlt
    have ha:=rE hlt
    have hx:((st.AA.take i).map f++st.AA.drop i)[i]?=Gc st.AA[i]:=by
     rw[sR (by simp;lia)]
     simp[y8 (uy hl2)]
    obtain⟨S2,e3,g3⟩:=hb S1 as[i] st.AA[i] (wC hl2) (i3.ld i _ _ ha hx)
    have k:=(i3.WM g3).QR (y:=f st.AA[i]) ha
    refine⟨C++[Gc (.ref as[i])],C++[Gc (.ref as[i])],S2.set as[i] (B4 (f st.AA[i])),?_,e3,i+1,Gc (.ref as[i]),rfl,hlt,rfl,?_,?_⟩
    .rw[Ze]
     congr 1
     subst hi
     rw[zK _ _ (q9 _)]
     simp
    .have:((st.AA.take i).map f++st.AA.drop i).set i (f st.AA[i])=(st.AA.take (i+1)).map f++st.AA.drop (i+1):=by
      rw[zK _ _ (by simp;lia)]
      have e0:i-((st.AA.take i).map f).length=0:=by simp;lia
      rw[e0,tE hl2,AAM,List.take_succ_eq_append_getElem hl2,vm]
      simp
     rw[<-this]
     exact k
    .exact(i4.trans (g3.mono λ_ z=>(nomatch z))).trans (.set (wC hlt)))
 refine⟨o,S',e,?_,i4⟩
 have hz:i=as.length:=by
  have:=congrArg yO i1
  simp at this
  lia
 have:(st.AA.take i).map f++st.AA.drop i=st.AA.map f:=by
  rw[hz,h.len];simp
 rw[this]at i3
 exact i3
section
variable{S S':Sto}{s l m:Nat}{as:Wp Nat}{st:Stt}{t:Tr}{k:Nat}
def Zz{i:Nat}{n:Int}{j:Nat}(hi:i<st.AA.length)(h:∀x∈st.AA,∀r∈x.ow,Sz j r):∀x∈less st.AA i n,∀r∈x.ow,Sz j r:=by
 intro x hx
 rcases JU hx hi with h1|h1
 .exact h x h1
 .rw[h1];exact h (AL st.AA i) (AU hi)
def Uo{i:Nat}{n:Int}{j:Nat}(hi:i<st.AA.length)(h:∀x∈st.AA,x.ow.length=j):∀x∈less st.AA i n,x.ow.length=j:=by
 intro x hx
 rcases JU hx hi with h1|h1
 .exact h x h1
 .rw[h1];exact h (AL st.AA i) (AU hi)
def XJ(hS:SAt S s l m as st)(ht:G5 t)(h:Ee t k st)(hk:k<=16){i:Nat}{n:Int}{ws:Wp Int}(hc:Can t st (.thr i n ws)):∃S',Et [t.d,.ref s,(AO.thr i n ws).d] S=Gc (.non,S')/\SAt S' s l m as (step t st (.thr i n ws))/\Ba (s::l::m::as) S S':=by
 obtain⟨hi,h1,h2,hl,hw⟩:=hc
 have cO:=bE hS ht h (by lia) hl hw hi h1 h2
 have cz:=Vc ht h (by lia) hl hw hi h1 h2
 have sz:=h.sz
 obtain⟨a,a1,a2,a3⟩:=hS.at hi
 have hS1:=hS.QR (y:=⟨(AL st.AA i).k,(AL st.AA i).n-n,(AL st.AA i).ow⟩) a1
 have o1:=sz.1 _ (AU hi)
 have tp:=ht.2.1
 have hdef:step t st (.thr i n ws)={st with AA:=(less st.AA i n).map λx=>{x with ow:=GC (Ig t st.AA i n ws) (AL st.AA i).ow x.ow},hold:=GC (Ig t st.AA i n ws) (AL st.AA i).ow st.hold}:=rfl
 rw[hdef]
 generalize hX:Ig t st.AA i n ws=X at*
 obtain⟨o,S2,f1,f2,f3⟩:=Ol (f:=λx=>{x with ow:=GC X (AL st.AA i).ow x.ow}) (body:=M9 (AD D7 [eOp (o2 wIx) [eV 8,eC (.int 2)],eV 6,eV 7]) (eV 8) (eC (.int 2))) (C:=[Gc t.d,Gc (.ref s),Gc (AO.thr i n ws).d,Gc (.ref l),Gc (shD st.hold),Gc (.ref m),Gc (aD X),Gc (shD (AL st.AA i).ow)]) (i8:=8) (o0:=none) hS1 rfl (by
  intro S' b x hx hb
  obtain⟨S2,e2,g2⟩:=Qr (S:=S') (x:=X) (ss:=x.ow) (os:=(AL st.AA i).ow) (j:=30+170*k) (i:=145+k) (Zz (n:=n) hi sz.1 x hx) o1 cz (by lia) (by rw[Uo (n:=n) hi h.own x hx];lia)
  have hb2:=g2.get hb (by simp)
  refine⟨S2,?_,g2⟩
  simp[Ac hb,B4,e2,AJ hb2])
 obtain⟨S3,e3,g3⟩:=Qr (S:=S2) (x:=X) (ss:=st.hold) (os:=(AL st.AA i).ow) (j:=30+170*k) (i:=145+k) sz.2 o1 cz (by lia) (by rw[h.hold];lia)
 have f4:=(f2.WM g3)
 have rt:=f4.root
 refine⟨S3.set s (.lst [.ref l,shD (GC X (AL st.AA i).ow st.hold),.ref m]),?_,f4.hold _,?_⟩
 .have f1':=f1
  simp only[sQ,r9]at f1'
  have rt':Ea S3 s=Gc [.ref l,shD st.hold,.ref m]:=AJ rt
  have r0:=AJ hS.root
  have lo:=Ac hS.lo
  have xx:=Ac a2
  have c2:=AJ a2
  have sq1:=FH hS1.lo
  simp only[B4]at f1' sq1 c2 xx
  simp only[AO.d]at f1' cO⊢
  simp[Et,Ju,r0,cO,lo,a3,xx,c2,sq1,f1',e3,rt']
 .have q1:Ba (s::l::m::as) S (S.set a (B4 ⟨(AL st.AA i).k,(AL st.AA i).n-n,(AL st.AA i).ow⟩)):=.set (by simp[rV a1])
  exact((q1.trans (f3.mono λn hn=>by simp[hn])).trans (g3.mono λ_ z=>(nomatch z))).trans (.set (by simp))
def Tp(hS:SAt S s l m as st)(ht:G5 t)(h:Ee t k st)(hk:k<=16){p q:Nat}{x:Rat}(hc:Can t st (.GQ p q x)):∃S',Et [t.d,.ref s,(AO.GQ p q x).d] S=Gc (.non,S')/\SAt S' s l m as (step t st (.GQ p q x))/\Ba (s::l::m::as) S S':=by
 obtain⟨hpq,hp,hq,x1,x2,x3⟩:=hc
 have sz:=h.sz
 have hx:Sz 4 x:=by
  refine⟨?_,by lia⟩
  show x.num.natAbs<16
  lia
 have hdef:step t st (.GQ p q x)={st with AA:=st.AA.map λy=>{y with ow:=FP p q x y.ow},hold:=FP p q x st.hold}:=rfl
 rw[hdef]
 obtain⟨o,S2,f1,f2,f3⟩:=Ol (f:=λy=>{y with ow:=FP p q x y.ow}) (body:=M9 (AD Es [eOp (o2 wIx) [eV 8,eC (.int 2)],eV 2]) (eV 8) (eC (.int 2))) (C:=[Gc t.d,Gc (.ref s),Gc (AO.GQ p q x).d,Gc (.ref l),Gc (shD st.hold),Gc (.ref m),none,none]) (i8:=8) (o0:=none) hS rfl (by
  intro S' b y hy hb
  obtain⟨S2,e2,g2⟩:=VL (S:=S') (p:=p) (q:=q) (x:=x) (ss:=y.ow) (j:=30+170*k) (i:=4) (sz.1 y hy) hx (by lia) (by rw[h.own y hy];exact hp) (by rw[h.own y hy];exact hq) hpq
  have hb2:=g2.get hb (by simp)
  refine⟨S2,?_,g2⟩
  simp[Ac hb,B4,e2,AJ hb2])
 obtain⟨S3,e3,g3⟩:=VL (S:=S2) (p:=p) (q:=q) (x:=x) (ss:=st.hold) (j:=30+170*k) (i:=4) sz.2 hx (by lia) (by rw[h.hold];exact hp) (by rw[h.hold];exact hq) hpq
 have f4:=(f2.WM g3)
 have rt:=f4.root
 refine⟨S3.set s (.lst [.ref l,shD (FP p q x st.hold),.ref m]),?_,f4.hold _,?_⟩
 .have f1':=f1
  simp only[sQ,r9]at f1'
  have rt':Ea S3 s=Gc [.ref l,shD st.hold,.ref m]:=AJ rt
  have r0:=AJ hS.root
  have sq1:=FH hS.lo
  simp only[AO.d]at f1' e3⊢
  simp[Et,Ju,r0,sq1,f1',e3,rt']
 .exact((f3.mono λn hn=>by simp[hn]).trans (g3.mono λ_ z=>(nomatch z))).trans (.set (by simp))
end
section
variable{S S':Sto}{s l m:Nat}{as:Wp Nat}{st:Stt}{t:Tr}{k:Nat}
theorem QV{ls:Wp Ld}{l:Nat}{n:Int}:less ls l n=ls.set l ⟨(AL ls l).k,(AL ls l).n-n,(AL ls l).ow⟩:=rfl
def Q3{P p:Nat}{cond:Int}{C:En}{dd:D}{f:Ev}(hP:P<=50)(hf:∀(i:Nat),f [Gc dd,Gc (.int i)] S=Gc (aD (if i=p then 1 else 0),S)):Bl [] (tNm 1) BX f (OQ 0 P) [] [Gc dd,none] S=Gc ((Qf P p).map aD,S):=by
 have:=Cj (gs:=[]) (t:=tNm 1) (f:=f) (C:=[Gc dd]) (m:=1) (e:=λi:Nat=>D.int (0+(i:Int))) (g:=λi=>aD (if i=p then 1 else 0)) (S:=S) Ad (xs:=tm P) (acc:=[]) (os:=[none]) rfl (q8 (show _<=50 by simp;lia) (AK (by decide))) (by
  intro i _ os ho
  obtain⟨o,rfl⟩:=Pd ho
  refine⟨[Gc (.int i)],rfl,by simp,hf i⟩)
 simp only[sQ,r9]at this
 rw[Qf,tJ]
 exact this
inductive DoB(t:Tr)(S:Sto)(s l m:Nat)(as:Wp Nat)(st:Stt)(d:AO):Prop
 |mk (S':Sto) (as':Wp Nat) (e:Dw [t.d,.ref s,d.d] S=Gc (.non,S')) (h:SAt S' s l m as' (step t st d)) (g:Ba (s::l::m::as) S S') (f:∀n∈as',n∈as\/S.length<=n)
def X2(hS:SAt S s l m as st)(ht:G5 t)(h:Ee t k st)(hk:k<=16){p kd:Nat}{n:Int}(hc:Can t st (.Dd p kd n)):DoB t S s l m as st (.Dd p kd n):=by
 have tp:=ht.2.1
 have e:=Q3 (S:=S) (P:=t.p) (p:=p) (cond:=0) (C:=[]) (dd:=(AO.Dd p kd n).d) (f:=Bn [eOp (o1 ZU) [eOp (o2 wEq) [eV 1,eOp (o2 wIx) [eV 0,eC (.int 1)]]],eC (.int 1)]) (by lia) (by
  intro i
  by_cases hi:i=p
  .subst hi;simp[AO.d];rfl
  .have:((i:Int)==(p:Int))=false:=by simp;lia
   simp[AO.d,this,hi];rfl)
 have rn:L6 (t.p:Int)=true:=Gb (by lia) (by lia)
 have hz:as.length<sizeLine:=qw (show as.length<50 by rw[hS.len];have:=h.len;lia) (AK (by decide))
 refine⟨_,_,?_,hS.app ⟨kd,n,Qf t.p p⟩,?_,?_⟩
 .have r0:=AJ hS.root
  have c0:=AJ hS.lo
  have c1:Ea (S++[B4 ⟨kd,n,Qf t.p p⟩]) l=Gc (as.map D.ref):=AJ (by rw[qv (AQ hS.lo)];exact hS.lo)
  simp only[B4]at c1⊢
  simp only[AO.d]at e⊢
  simp[Dw,Fj,r0,Tr.d,rn,e,c0,shD]at c1⊢
  simp[c1,hz]
 .exact Ba.app.trans (.set (by simp))
 .intro n hn
  rcases rf.mp hn with w|w
  .exact .inl w
  .simp at w;exact .inr (by lia)
def XR(hS:SAt S s l m as st)(ht:G5 t)(h:Ee t k st)(hk:k<=16){i:Nat}{n:Int}(hc:Can t st (.Dr i n)):DoB t S s l m as st (.Dr i n):=by
 obtain⟨hi,h1,h2⟩:=hc
 obtain⟨a,a1,a2,a3⟩:=hS.at hi
 refine⟨_,as,?_,hS.QR (y:=⟨(AL st.AA i).k,(AL st.AA i).n-n,(AL st.AA i).ow⟩) a1,.set (by simp[rV a1]),λn hn=>.inl hn⟩
 have r0:=AJ hS.root
 have lo:=Ac hS.lo
 have xx:=Ac a2
 have c2:=AJ a2
 simp only[B4]at c2 xx⊢
 simp[Dw,Fj,AO.d,r0,lo,a3,xx,c2]
def fY(hS:SAt S s l m as st)(ht:G5 t)(h:Ee t k st)(hk:k<=16){i:Nat}{n:Int}{ws:Wp Int}(hc:Can t st (.thr i n ws)):DoB t S s l m as st (.thr i n ws):=by
 obtain⟨S',e,g1,g2⟩:=XJ hS ht h hk hc
 refine⟨S',as,?_,g1,g2,λn hn=>.inl hn⟩
 have r0:=AJ hS.root
 simp only[AO.d]at e⊢
 simp[Dw,Fj,r0,e]
def ZP(hS:SAt S s l m as st)(ht:G5 t)(h:Ee t k st)(hk:k<=16){p q:Nat}{x:Rat}(hc:Can t st (.GQ p q x)):DoB t S s l m as st (.GQ p q x):=by
 obtain⟨S',e,g1,g2⟩:=Tp hS ht h hk hc
 refine⟨S',as,?_,g1,g2,λn hn=>.inl hn⟩
 have r0:=AJ hS.root
 simp only[AO.d]at e⊢
 simp[Dw,Fj,r0,e]
def Zt(hS:SAt S s l m as st)(ht:G5 t)(h:Ee t k st)(hk:k<=16){i kd:Nat}{g n:Int}(hc:Can t st (.swap i g kd n)):DoB t S s l m as st (.swap i g kd n):=by
 obtain⟨hi,h1,h2,h3,h4,h5,h6⟩:=hc
 obtain⟨a,a1,a2,a3⟩:=hS.at hi
 have hS1:=hS.QR (y:=⟨(AL st.AA i).k,(AL st.AA i).n-g,(AL st.AA i).ow⟩) a1
 have hS2:=hS1.app ⟨kd,n,(AL st.AA i).ow⟩
 have hz:as.length<sizeLine:=qw (show as.length<50 by rw[hS.len];have:=h.len;lia) (AK (by decide))
 have hz2:st.nums.length<=sizeLine:=q8 (show _<=20 by have:=h.nm;lia) (AK (by decide))
 refine⟨_,_,?_,hS2,?_,?_⟩
 .have r0:=AJ hS.root
  have lo:=Ac hS.lo
  have xx:=Ac a2
  have c2:=AJ a2
  have lo1:=Ac hS1.lo
  have co1:=AJ hS1.lo
  have x1:=Ac (rF (a:=B4 ⟨(AL st.AA i).k,(AL st.AA i).n-g,(AL st.AA i).ow⟩) (AQ a2))
  have c4:Ea ((S.set a (B4 ⟨(AL st.AA i).k,(AL st.AA i).n-g,(AL st.AA i).ow⟩))++[B4 ⟨kd,n,(AL st.AA i).ow⟩]) l=Gc (as.map D.ref):=AJ (by rw[qv (AQ hS1.lo)];exact hS1.lo)
  have nu:=hS2.nu
  have c5:=AJ nu
  have st5:∀{T:Sto},T[m]?=Gc (.lst (st.nums.map D.int))->T.set m (.lst (st.nums.map D.int))=T:=λh=>set_same h
  have st6:=st5 nu
  simp only[B4]at c2 xx lo1 co1 x1 c4 c5 st6⊢
  have hz':(as.map D.ref).length<sizeLine:=by simpa using hz
  generalize (as.map D.ref)=refs at*
  simp[Dw,Fj,AO.d,r0,lo,a3,xx,c2,lo1,x1,co1]at c4 c5 st6⊢
  simp[c4,hz',c5,hz2,st6]
 .exact((Ba.set (by simp[rV a1])).trans .app).trans (.set (by simp))
 .intro n hn
  rcases rf.mp hn with w|w
  .exact .inl w
  .simp at w;exact .inr (by lia)
def Wi(hS:SAt S s l m as st)(ht:G5 t)(h:Ee t k st)(hk:k<=16){i kd:Nat}{u g n:Int}(hc:Can t st (.Cn u i g kd n)):DoB t S s l m as st (.Cn u i g kd n):=by
 obtain⟨hi,h1,h2,h3,h4,h5,h6,h7,h8⟩:=hc
 obtain⟨a,a1,a2,a3⟩:=hS.at hi
 have hS1:=hS.QR (y:=⟨(AL st.AA i).k,(AL st.AA i).n-g,(AL st.AA i).ow⟩) a1
 have hS2:=hS1.app ⟨kd,n,(AL st.AA i).ow⟩
 have hz:as.length<sizeLine:=qw (show as.length<50 by rw[hS.len];have:=h.len;lia) (AK (by decide))
 have hz2:st.nums.length+1<=sizeLine:=q8 (show _<=20 by have:=h.nm;lia) (AK (by decide))
 refine⟨_,_,?_,hS2.nums (st.nums++[u]),?_,?_⟩
 .have r0:=AJ hS.root
  have lo:=Ac hS.lo
  have xx:=Ac a2
  have c2:=AJ a2
  have lo1:=Ac hS1.lo
  have co1:=AJ hS1.lo
  have x1:=Ac (rF (a:=B4 ⟨(AL st.AA i).k,(AL st.AA i).n-g,(AL st.AA i).ow⟩) (AQ a2))
  have c4:Ea ((S.set a (B4 ⟨(AL st.AA i).k,(AL st.AA i).n-g,(AL st.AA i).ow⟩))++[B4 ⟨kd,n,(AL st.AA i).ow⟩]) l=Gc (as.map D.ref):=AJ (by rw[qv (AQ hS1.lo)];exact hS1.lo)
  have nu:=hS2.nu
  have c5:=AJ nu
  simp only[B4]at c2 xx lo1 co1 x1 c4 c5⊢
  have hz':(as.map D.ref).length<sizeLine:=by simpa using hz
  generalize (as.map D.ref)=refs at*
  simp[Dw,Fj,AO.d,r0,lo,a3,xx,c2,lo1,x1,co1]at c4 c5⊢
  simp[c4,hz',c5,hz2]
 .exact(((Ba.set (by simp[rV a1])).trans .app).trans (.set (by simp))).trans (.set (by simp))
 .intro n hn
  rcases rf.mp hn with w|w
  .exact .inl w
  .simp at w;exact .inr (by lia)
def aE(hS:SAt S s l m as st)(ht:G5 t)(h:Ee t k st)(hk:k<=16){i j:Nat}(hc:Can t st (.Hr i j)):DoB t S s l m as st (.Hr i j):=by
 obtain⟨hij,hi,hj,h1,h2,h3⟩:=hc
 obtain⟨a,a1,a2,a3⟩:=hS.at hi
 obtain⟨b,b1,b2,b3⟩:=hS.at hj
 have sz:=h.sz
 have pi:=h.pcs _ (AU hi)
 have pj:=h.pcs _ (AU hj)
 obtain⟨S1,e1,g1⟩:=Ss (S:=S) (x:=AL st.AA i) (y:=AL st.AA j) (j:=30+170*k) (i:=131+k) a2 b2 (sz.1 _ (AU hi)) (sz.1 _ (AU hj)) (FT pi.1 pi.2) (FT pj.1 pj.2) (by lia) (by lia) (by lia) (by rw[h.own _ (AU hi)];have:=ht.2.1;lia)
 have hS1:=hS.WM g1
 have hab:a≠b:=by
  rintro rfl
  exact hij ((vq (rB.mp a1).1 hS.ne.2.2.2.2.2.2).mp (a1.trans b1.symm))
 have hS2:=hS1.app ⟨(AL st.AA i).k,(AL st.AA i).n+(AL st.AA j).n,By (AL st.AA i).n (AL st.AA j).n (AL st.AA i).ow (AL st.AA j).ow⟩
 have ai:i<as.length:=(rB.mp a1).1
 have bj:j<as.length:=(rB.mp b1).1
 have a1':(as++[S1.length])[i]?=Gc a:=by rw[qv ai];exact a1
 have b1':(as++[S1.length])[j]?=Gc b:=by rw[qv bj];exact b1
 have hS3:=hS2.QR (y:=⟨(AL st.AA i).k,0,(AL st.AA i).ow⟩) a1'
 have hS4:=hS3.QR (y:=⟨(AL st.AA j).k,0,(AL st.AA j).ow⟩) b1'
 have hz:as.length<sizeLine:=qw (show as.length<50 by rw[hS.len];have:=h.len;lia) (AK (by decide))
 have est:step t st (.Hr i j)={st with AA:=((st.AA++[Ld.mk (AL st.AA i).k ((AL st.AA i).n+(AL st.AA j).n) (By (AL st.AA i).n (AL st.AA j).n (AL st.AA i).ow (AL st.AA j).ow)]).set i ⟨(AL st.AA i).k,0,(AL st.AA i).ow⟩).set j ⟨(AL st.AA j).k,0,(AL st.AA j).ow⟩}:=by
  have e0:AL (less st.AA i (AL st.AA i).n) j=AL st.AA j:=by
   unfold AL less
   rw[rX,rA hij,<-rX]
  have e1:less st.AA i (AL st.AA i).n=st.AA.set i ⟨(AL st.AA i).k,0,(AL st.AA i).ow⟩:=by
   unfold less
   rw[yp]
  have e2:less (less st.AA i (AL st.AA i).n) j (AL st.AA j).n=(st.AA.set i ⟨(AL st.AA i).k,0,(AL st.AA i).ow⟩).set j ⟨(AL st.AA j).k,0,(AL st.AA j).ow⟩:=by
   rw[QV (ls:=less st.AA i (AL st.AA i).n),e0,yp,e1]
  show{st with AA:=less (less st.AA i (AL st.AA i).n) j (AL st.AA j).n++_}=_
  rw[e2,zm _ _ hi,zm _ _ (by simpa using hj)]
 refine⟨_,_,?_,est▸hS4,?_,?_⟩
 .have r0:=AJ hS.root
  have lo:=Ac hS.lo
  have c0:=AJ hS.lo
  have xa:=Ac a2
  have xb:=Ac b2
  have c1:=AJ hS1.lo
  have c4:Ea (S1++[B4 ⟨(AL st.AA i).k,(AL st.AA i).n+(AL st.AA j).n,By (AL st.AA i).n (AL st.AA j).n (AL st.AA i).ow (AL st.AA j).ow⟩]) l=Gc (as.map D.ref):=AJ (by rw[qv (AQ hS1.lo)];exact hS1.lo)
  have c5:=AJ (hS2.ld i a (AL st.AA i) a1' (by show(st.AA++_)[i]?=_;rw[qv hi];exact Eh hi))
  have c6:=AJ (hS3.ld j b (AL st.AA j) b1' (by show((st.AA++_).set i _)[j]?=_;rw[rA hij,qv hj];exact Eh hj))
  simp only[B4]at xa xb c4 c5 c6⊢
  have hz':(as.map D.ref).length<sizeLine:=by simpa using hz
  generalize (as.map D.ref)=refs at*
  generalize By (AL st.AA i).n (AL st.AA j).n (AL st.AA i).ow (AL st.AA j).ow=pr at*
  simp[Dw,Fj,AO.d,r0,lo,a3,b3,xa,xb,c0,e1]at c4 c5 c6⊢
  simp[c4,hz',c5,c6]
 .exact(((g1.mono λ_ z=>(nomatch z)).trans .app).trans (.set (by simp))).trans ((Ba.set (by simp[rV a1])).trans (.set (by simp[rV b1])))
 .intro n hn
  rcases rf.mp hn with w|w
  .exact .inl w
  .simp at w;subst w;exact .inr g1.len
def lZ(hS:SAt S s l m as st)(ht:G5 t)(h:Ee t k st)(hk:k<=16){d:AO}(hc:Can t st d):DoB t S s l m as st d:=by
 cases d with
 |Dd=>exact X2 hS ht h hk hc
 |Hr=>exact aE hS ht h hk hc
 |swap=>exact Zt hS ht h hk hc
 |Cn=>exact Wi hS ht h hk hc
 |Dr=>exact XR hS ht h hk hc
 |thr=>exact fY hS ht h hk hc
 |GQ=>exact ZP hS ht h hk hc
end
section
variable{st:Stt}{t:Tr}{k:Nat}
def C5{a b:Nat}(h:a<=b):2^a<=2^b:=sT (by decide) h
def LL{a b:Nat}(h:a<=b):(2:Int)^a<=2^b:=by
 have:=C5 h
 exact_mod_cast this
def Ez{c:Int}(h:0<=c):((c.toNat:Nat):Rat)=(c:Rat):=by
 have:((c.toNat:Nat):Int)=c:=sf h
 have:(((c.toNat:Nat):Int):Rat)=(c:Rat):=by rw[this]
 exact this
def UA{B T k j:Nat}(hB:B<2^(30+170*k))(hT:T<2^j)(hj:j<=170):B*T<2^(30+170*(k+1)):=by
 have:=Bm hB hT
 exact qw this (C5 (by lia))
def iN{G B P p:Nat}(h:G<=B):∀r∈Qf P p,Ok G B r:=by
 intro r hr
 obtain⟨i,_,rfl⟩:=sE.mp hr
 split
 .exact Ok.one h
 .exact Ok.zero
def UX{G B:Nat}{n m:Int}{ss os:Wp Rat}(hn:0<n)(hm:0<m)(hs:∀r∈ss,Ok G B r)(ho:∀r∈os,Ok G B r):∀r∈By n m ss os,Ok (G*(n+m).toNat) (B*(n+m).toNat) r:=by
 intro r hr
 unfold By at hr
 rw[uY]at hr
 obtain⟨i,hi'⟩:=hr
 rw[ve]at hi'
 obtain⟨x,y,hx,hy,rfl⟩:=hi'
 have:=Ok.mix (a:=n.toNat) (b:=m.toNat) (t:=(n+m).toNat) (hs x (rV hx)) (ho y (rV hy)) (by lia) (by lia)
 rwa [Ez (by lia),Ez (by lia),Ez (by lia)]at this
def UK{G B p q:Nat}{x:Rat}{ss:Wp Rat}(hp:p<ss.length)(hq:q<ss.length)(x1:0<x.num)(x2:x.num<=x.den)(hs:∀r∈ss,Ok G B r):∀r∈FP p q x ss,Ok (G*x.den) (2*B*x.den) r:=by
 have dp:=x.den_pos
 have hsp:=hs _ (getD_mem (d:=0) hp)
 have hsq:=hs _ (getD_mem (d:=0) hq)
 have xs:=Co x
 have ex:(x.num:Rat)=((x.num.toNat:Nat):Rat):=(Ez (by lia)).symm
 have nz:=HB x
 intro r hr
 unfold FP at hr
 rcases vL hr with hr|hr
 .rcases vL hr with hr|hr
  .exact(hs r hr).up (by rw[vW];lia)
  .rw[hr]
   obtain⟨z,e,hz⟩:=Ok.mix (a:=x.den-x.num.toNat) (b:=x.num.toNat) (t:=x.den) hsp (Ok.zero (G:=G) (B:=B)) (by lia) dp
   refine⟨z,?_,q8 hz (by rw[vW];lia)⟩
   rw[<-e]
   have e2:((x.den-x.num.toNat:Nat):Rat)=(x.den:Rat)-(x.num:Rat):=by
    have:(((x.den-x.num.toNat:Nat):Int):Rat)=((x.den-x.num:Int):Rat):=by
     congr 1;rw[Int.natCast_sub (Int.toNat_le.mpr x2),sf (vf x1)]
    push_cast at this
    exact this
   rw[e2]
   generalize ss.getD p 0=sp at*
   congr 1
   grind
 .rw[hr]
  obtain⟨z,e1,hz⟩:=hsp
  obtain⟨y,e2,hy⟩:=hsq
  refine⟨y*x.den+z*x.num.toNat,?_,?_⟩
  .generalize ss.getD p 0=sp at*
   generalize ss.getD q 0=sq at*
   push_cast
   rw[<-ex,<-e1,<-e2]
   grind
  .have h1:y*x.den<=B*x.den:=sO _ hy
   have h2:z*x.num.toNat<=B*x.den:=vG hz (by lia)
   rw[vW];lia
def E5{f:Rat->Rat->Rat}{a b:Wp Rat}{n:Nat}(h:a.length=n)(g:b.length=n):(xE f a b).length=n:=by rw[List.length_zipWith,h,g];lia
def Hy{P:Ld->Prop}{i:Nat}{n:Int}(hi:i<st.AA.length)(h:∀x∈st.AA,P x)(g:P ⟨(AL st.AA i).k,(AL st.AA i).n-n,(AL st.AA i).ow⟩):∀x∈less st.AA i n,P x:=by
 intro x hx
 rcases JU hx hi with h1|h1
 .exact h x h1
 .rw[h1];exact g
def NV{P:Ld->Prop}{ls:Wp Ld}{y:Ld}(h:∀x∈ls,P x)(g:P y):∀x∈ls++[y],P x:=by
 intro x hx
 rcases rf.mp hx with w|w
 .exact h x w
 .simp at w;rw[w];exact g
structure LOk(t:Tr)(k G B:Nat)(x:Ld):Prop where
 kd:x.k<t.k
 n0:0<=x.n
 n1:x.n<2^(131+k)
 own:x.ow.length=t.p
 ok:∀r∈x.ow,Ok G B r
def LOk.up{G B T B':Nat}{x:Ld}(h:LOk t k G B x)(hT:B*T<=B'):LOk t (k+1) (G*T) B' x:=⟨h.kd,h.n0,vH h.n1 (LL (by lia)),h.own,λr hr=>(h.ok r hr).up hT⟩
def LOk.up1{G B:Nat}{x:Ld}(h:LOk t k G B x):LOk t (k+1) G B x:=⟨h.kd,h.n0,vH h.n1 (LL (by lia)),h.own,h.ok⟩
def LOk.less{G B:Nat}{x:Ld}{n:Int}(h:LOk t k G B x)(h0:0<=n)(h1:n<=x.n):LOk t k G B ⟨x.k,x.n-n,x.ow⟩:=⟨h.kd,show 0<=x.n-n by lia,show x.n-n<_ by have:=h.n1;lia,h.own,h.ok⟩
structure SIG(t:Tr)(k G B:Nat)(st:Stt):Prop where
 of::
 len:st.AA.length<=4+k
 lok:∀x∈st.AA,LOk t k G B x
 hold:st.hold.length=t.p
 nm:st.nums.length<=k
 g0:0<G
 gb:G<=B
 bb:B<2^(30+170*k)
 hok:∀r∈st.hold,Ok G B r
def SIG.inv{G B:Nat}(h:SIG t k G B st):Ee t k st:=⟨h.len,λx hx=>(h.lok x hx).kd,λx hx=>⟨(h.lok x hx).n0,(h.lok x hx).n1⟩,λx hx=>(h.lok x hx).own,h.hold,h.nm,G,B,h.g0,h.gb,h.bb,λx hx=>(h.lok x hx).ok,h.hok⟩
def Ee.sig(h:Ee t k st):∃G B,SIG t k G B st:=by
 obtain⟨G,B,g0,g1,g2,hl,hh⟩:=h.gb
 exact⟨G,B,h.len,λx hx=>⟨h.kind x hx,(h.pcs x hx).1,(h.pcs x hx).2,h.own x hx,hl x hx⟩,h.hold,h.nm,g0,g1,g2,hh⟩
def Ee.of{G B:Nat}(h1:st.AA.length<=4+k)(h2:∀x∈st.AA,LOk t k G B x)(h3:st.hold.length=t.p)(h4:st.nums.length<=k)(g0:0<G)(g1:G<=B)(g2:B<2^(30+170*k))(h5:∀r∈st.hold,Ok G B r):Ee t k st:=⟨h1,λx hx=>(h2 x hx).kd,λx hx=>⟨(h2 x hx).n0,(h2 x hx).n1⟩,λx hx=>(h2 x hx).own,h3,h4,G,B,g0,g1,g2,λx hx=>(h2 x hx).ok,h5⟩
def cg{n:Int}(h:n<2^131):n<2^(131+k):=vH h (LL (by lia))
def RF{G B:Nat}(ht:G5 t)(hs:SIG t k G B st)(hk:k<=16){d:AO}(hc:Can t st d):∃T G' B',G'=G*T/\0<T/\B*T<=B'/\B'<=B*2^161/\SIG t (k+1) G' B' (step t st d):=by
 obtain⟨_,L,_,_,g0,g1,g2,hh⟩:=id hs
 have h:=hs.inv
 have g2':B<2^(30+170*(k+1)):=qw g2 (C5 (by lia))
 have hlen:=h.len
 have hnm:=h.nm
 cases d with
 |Dd p kd n=>
  obtain⟨h1,h2,h3,h4⟩:=hc
  refine⟨1,G,B,(vQ _).symm,by decide,by rw[vQ];exact q9 _,vb _ (by decide),?_⟩
  refine SIG.of (by simp[step];lia) (NV (λx hx=>(L x hx).up1) ⟨h2,by show 0<=n;lia,cg h4,by simp[Qf],iN g1⟩) h.hold (vR hnm) g0 g1 g2' hh
 |Hr i j=>
  obtain⟨hij,hi,hj,h1,h2,h3⟩:=hc
  have li:=L _ (AU hi)
  have lj:=L _ (AU hj)
  have tl:((AL st.AA i).n+(AL st.AA j).n).toNat<2^(132+k):=by
   have a:=li.n1;have b:=lj.n1
   have e:(2:Int)^(132+k)=2^(131+k)*2:=by rw[show 132+k=(131+k)+1 by lia,Int.pow_succ]
   have:(((AL st.AA i).n+(AL st.AA j).n).toNat:Int)<((2^(132+k):Nat):Int):=by
    rw[sf (by lia)]
    push_cast
    rw[e];lia
   exact_mod_cast this
  have t0:0<((AL st.AA i).n+(AL st.AA j).n).toNat:=by lia
  refine⟨((AL st.AA i).n+(AL st.AA j).n).toNat,G*((AL st.AA i).n+(AL st.AA j).n).toNat,B*((AL st.AA i).n+(AL st.AA j).n).toNat,rfl,t0,q9 _,wK _ (uy (qw tl (C5 (by lia)))),?_⟩
  refine SIG.of (by simp[step,DB];lia) (NV ?_ ⟨li.kd,by show 0<=(AL st.AA i).n+(AL st.AA j).n;lia,?_,?_,UX h1 h2 li.ok lj.ok⟩) h.hold (vR hnm) (v7 g0 t0) (sO _ g1) (UA g2 tl (by lia)) (λr hr=>(hh r hr).up (q9 _))
  .have e0:AL (less st.AA i (AL st.AA i).n) j=AL st.AA j:=by
    unfold AL less
    rw[rX,rA hij,<-rX]
   have A:=Hy (P:=LOk t (k+1) (G*((AL st.AA i).n+(AL st.AA j).n).toNat) (B*((AL st.AA i).n+(AL st.AA j).n).toNat)) (n:=(AL st.AA i).n) hi (λx hx=>(L x hx).up (q9 _)) ((li.up (q9 _)).less (by lia) (Int.le_refl _))
   have A2:=Hy (st:={st with AA:=less st.AA i (AL st.AA i).n}) (i:=j) (n:=(AL st.AA j).n) (by simpa[DB]using hj) A (by
    show LOk _ _ _ _ ⟨(AL (less st.AA i (AL st.AA i).n) j).k,(AL (less st.AA i (AL st.AA i).n) j).n-_,(AL (less st.AA i (AL st.AA i).n) j).ow⟩
    rw[e0]
    exact(lj.up (q9 _)).less (by lia) (Int.le_refl _))
   exact A2
  .show(AL st.AA i).n+(AL st.AA j).n<2^(131+(k+1))
   have a:=li.n1;have b:=lj.n1
   rw[show 131+(k+1)=(131+k)+1 by lia,Int.pow_succ];lia
  .exact E5 li.own lj.own
 |swap i g kd n=>
  obtain⟨hi,h1,h2,h3,h4,h5,h6⟩:=hc
  have li:=L _ (AU hi)
  refine⟨1,G,B,(vQ _).symm,by decide,by rw[vQ];exact q9 _,vb _ (by decide),?_⟩
  refine SIG.of (by simp[step,DB];lia) (NV (Hy hi (λx hx=>(L x hx).up1) (li.up1.less (by lia) h2)) ⟨h3,by show 0<=n;lia,cg h6,li.own,li.ok⟩) h.hold (vR hnm) g0 g1 g2' hh
 |Cn u i g kd n=>
  obtain⟨hi,h1,h2,h3,h4,h5,h6,h7⟩:=hc
  have li:=L _ (AU hi)
  refine⟨1,G,B,(vQ _).symm,by decide,by rw[vQ];exact q9 _,vb _ (by decide),?_⟩
  refine SIG.of (by simp[step,DB];lia) (NV (Hy hi (λx hx=>(L x hx).up1) (li.up1.less (by lia) h2)) ⟨h3,by show 0<=n;lia,cg h6,li.own,li.ok⟩) h.hold (by simp[step];lia) g0 g1 g2' hh
 |Dr i n=>
  obtain⟨hi,h1,h2⟩:=hc
  have li:=L _ (AU hi)
  refine⟨1,G,B,(vQ _).symm,by decide,by rw[vQ];exact q9 _,vb _ (by decide),?_⟩
  refine SIG.of (by simp[step,DB];lia) (Hy hi (λx hx=>(L x hx).up1) (li.up1.less (by lia) h2)) h.hold (vR hnm) g0 g1 g2' hh
 |thr i n ws=>
  obtain⟨hi,h1,h2,h3,h4⟩:=hc
  have li:=L _ (AU hi)
  have W:=JX ht h (by lia) h3 h4
  have wl:(Dy t st.AA ws).toNat<2^(145+k):=by
   have:((Dy t st.AA ws).toNat:Int)<((2^(145+k):Nat):Int):=by
    rw[sf (by lia)];push_cast;exact W.2
   exact_mod_cast this
  have bo:=λ{ss:Wp Rat} (hs:∀r∈ss,Ok G B r)=>Ux ht h (by lia) h3 h4 hi h1 h2 li.ok hs
  refine⟨(Dy t st.AA ws).toNat,G*(Dy t st.AA ws).toNat,B*(Dy t st.AA ws).toNat,rfl,by lia,q9 _,wK _ (uy (qw wl (C5 (by lia)))),?_⟩
  refine SIG.of (by simp[step,DB];lia) ?_ (E5 h.hold li.own) (vR hnm) (v7 g0 (by lia)) (sO _ g1) (UA g2 wl (by lia)) (bo hh)
  intro x hx
  obtain⟨y,hy,rfl⟩:=sE.mp hx
  have ly:=Hy (P:=LOk t k G B) hi L (li.less (n:=n) (by lia) h2) y hy
  exact⟨ly.kd,ly.n0,ly.up1.n1,E5 ly.own li.own,bo ly.ok⟩
 |GQ p q x=>
  obtain⟨h1,h2,h3,h4,h5,h6⟩:=hc
  have dp:=x.den_pos
  refine⟨x.den,G*x.den,2*B*x.den,rfl,dp,sO _ (by lia),by
   rw[show 2*B*x.den=B*(2*x.den) by rw[<-vW,ui 2 B]]
   exact wK _ (q8 (show 2*x.den<=24 by lia) (by decide)),?_⟩
  refine SIG.of (by simp[step];lia) ?_ (by simp[step,FP,h.hold]) (vR hnm) (v7 g0 dp) (sO _ (by lia)) ?_ (UK (by rw[h.hold];exact h2) (by rw[h.hold];exact h3) h4 h5 hh)
  .intro y hy
   obtain⟨z,hz,rfl⟩:=sE.mp hy
   have lz:=L z hz
   exact⟨lz.kd,lz.n0,lz.up1.n1,by simp[FP,lz.own],UK (by rw[lz.own];exact h2) (by rw[lz.own];exact h3) h4 h5 lz.ok⟩
  .have:=UA (B:=B) (T:=2*x.den) (j:=5) g2 (by lia) (by lia)
   rw[show 2*B*x.den=B*(2*x.den) by rw[<-vW,ui 2 B]]
   exact this
def K2(ht:G5 t)(h:Ee t k st)(hk:k<=16){d:AO}(hc:Can t st d):Ee t (k+1) (step t st d):=by
 obtain⟨G,B,hs⟩:=h.sig
 obtain⟨_,_,_,_,_,_,_,z⟩:=RF ht hs hk hc
 exact z.inv
end
theorem GX{α:Type}{f:α->D}:∀{xs:Wp α},(∀x∈xs,(f x).lay=true)->D.ON (xs.map f)=true
 | [],_=>rfl
 |x::xs,h=>by
  show((f x).lay && D.ON (xs.map f))=true
  rw[h x rM,GX λy hy=>h y (rC _ hy)]
  rfl
def Wg(h:D.ON ds=true):Kr (.lst ds) (.lst [])=true:=by
 unfold Kr
 show(D.ON ds && true && _)=true
 rw[h]
 simp only[Bool.true_and,uG]
 exact q8 (xN _ _) (by decide)
noncomputable def GA(is:Wp Nat):Wp D:=is.map λ(i:Nat)=>D.int i
def Lw:Kr (.lst (GA is)) (.lst [])=true:=Wg (GX λ_ _=>rfl)
theorem WY:deq (.lst (d::ds)) (.lst [])=false:=rfl
theorem ZR:deq (.lst []) (.lst [])=true:=rfl
def OC:deq (.lst (GA is)) (.lst [])=is.isEmpty:=by
 cases is with
 |nil=>exact ZR
 |cons i is=>exact WY
def Oz:OF 0 ds=(tm ds.length).map λ(i:Nat)=>D.tup [.int i,ds.getD i .non]:=by
 apply yU
 intro i
 rw[LD,rY]
 by_cases h:i<ds.length
 .rw[rE h,List.getElem?_range h]
  simp[rE h]
 .rw[zL (by lia),zL (by simp;lia)]
  rfl
def Jh:(GA is).length=is.length:=by simp[GA]
def LP(h0:0<=r)(h1:r<is.length):∃i∈is,atI (GA is) r=Gc (.int (i:Nat)):=by
 have h2:r.toNat<is.length:=by lia
 refine⟨is[r.toNat],wC h2,?_⟩
 have:=Yh (xs:=GA is) h0 (by rw[Jh];exact h1)
 rw[this]
 simp[GA]
def VQ{x K:Int}(h0:0<=x)(h1:x<2*K):x % K=if x<K then x else x-K:=by
 split
 .exact Int.emod_eq_of_lt h0 (by assumption)
 .have:x % K=(x-K) % K:=by rw[Int.sub_emod_right]
  rw[this]
  exact Int.emod_eq_of_lt (by lia) (by lia)
noncomputable def B9(st:Stt):Wp Nat:=(tm st.AA.length).filter λi=>decide (0<(AL st.AA i).n)
def aw(hS:SAt S s l m as st)(hl:st.AA.length<=50):Bl [(l,as.map D.ref)] (tTp [tNm 0,tNm 1]) (eOp (o2 wGt) [eOp (o2 wIx) [eV 1,eC (.int 1)],eC (.int 0)]) (eV 0) (OF 0 (as.map D.ref)) [] [none,none] S=Gc (GA (B9 st),S):=by
 have:=FW (gs:=[(l,as.map D.ref)]) (t:=tTp [tNm 0,tNm 1]) (c:=eOp (o2 wGt) [eOp (o2 wIx) [eV 1,eC (.int 1)],eC (.int 0)]) (f:=eV 0) (C:=[]) (m:=2) (e:=λi:Nat=>D.tup [.int i,(as.map D.ref).getD i .non]) (g:=λi:Nat=>D.int i) (b:=λi=>decide (0<(AL st.AA i).n)) (S:=S) hS.guard (xs:=tm st.AA.length) (acc:=[]) (os:=[none,none]) rfl (q8 (show _<=50 by simp;lia) (AK (by decide))) (by
  intro i hi os ho
  obtain⟨o1,o2,rfl⟩:=dh ho
  obtain⟨a,a1,a2,a3⟩:=hS.at (x5.mp hi)
  have e:(as.map D.ref).getD i .non=.ref a:=by simp[a1]
  rw[e]
  refine⟨[Gc (.int i),Gc (.ref a)],rfl,by simp,?_,by simp⟩
  simp[Ac a2,B4])
 rw[Oz,sG,hS.len]
 exact this
def K9(h:i∈B9 st):i<st.AA.length/\0<(AL st.AA i).n:=by
 unfold B9 at h
 rw[wR]at h
 exact⟨x5.mp h.1,by simpa using h.2⟩
noncomputable def Eg(st:Stt)(j:Nat):Wp Nat:=(B9 st).filter λi=> !(i==j) && ((AL st.AA i).k==(AL st.AA j).k)
def N8:(B9 st).length<=st.AA.length:=by
 unfold B9
 exact q8 (xM _ _) (by simp)
def WN{a b:Nat}:((a:Int)==(b:Int))=(a==b):=by
 by_cases h:a=b
 .subst h;simp
 .have:((a:Int)==(b:Int))=false:=by simp;lia
  rw[this];simp[h]
def cB(hS:SAt S s l m as st)(hl:st.AA.length<=50)(hj:j∈B9 st):Bl [] (tNm 2) (Ff (eOp (o2 wNe) [eV 2,eV 1]) (eOp (o2 wEq) [eOp (o2 wIx) [eOp (o2 wIx) [eV 0,eV 2],eC (.int 0)],eOp (o2 wIx) [eOp (o2 wIx) [eV 0,eV 1],eC (.int 0)]])) (eV 2) (GA (B9 st)) [] [Gc (.ref l),Gc (.int j),none] S=Gc (GA (Eg st j),S):=by
 have fl:=N8 (st:=st)
 exact FW (gs:=[]) (t:=tNm 2) (f:=eV 2) (C:=[Gc (.ref l),Gc (.int j)]) (m:=1) (e:=λi:Nat=>D.int i) (g:=λi:Nat=>D.int i) (b:=λi=> !(i==j) && ((AL st.AA i).k==(AL st.AA j).k)) (S:=S) Ad (xs:=B9 st) (acc:=[]) (os:=[none]) rfl (q8 (show _<=50 by simp;lia) (AK (by decide))) (by
  intro i hi os ho
  obtain⟨o1,rfl⟩:=Pd ho
  obtain⟨a,a1,a2,a3⟩:=hS.at (K9 hi).1
  obtain⟨b,b1,b2,b3⟩:=hS.at (K9 hj).1
  refine⟨[Gc (.int i)],rfl,by simp,?_,by simp⟩
  by_cases e:i=j
  .subst e
   simp
  .have e':((i:Int)==(j:Int))=false:=by simp;lia
   have e2:(i==j)=false:=by simp[e]
   simp[e',e2,Ac hS.lo,a3,b3,Ac a2,Ac b2,B4,WN])
def W7(h:i∈Eg st j):i∈B9 st/\i≠j/\(AL st.AA i).k=(AL st.AA j).k:=by
 unfold Eg at h
 rw[wR]at h
 simp at h
 exact⟨h.1,h.2.1,h.2.2⟩
noncomputable def E9(st:Stt):Wp Nat:=(tm 10).filter λi=> !(st.nums.any λu=>u==(i:Int))
def Qc{us:Wp Int}:inD (.int i) (us.map D.int)=us.any λu=>u==i:=by
 unfold inD
 rw[List.any_map]
 rfl
@[simp] def lU:wIn b w (.own r)=if(Hh (fz w) && r.all Hh)=true then some (.val (.bl (if b then !inD (fz w) r else inD (fz w) r)))else none:=nr rfl
@[simp] def k8:wIn b w (.val (.lst r))=if(Hh (fz w) && r.all Hh)=true then some (.val (.bl (if b then !inD (fz w) r else inD (fz w) r)))else none:=nr rfl
def Pa{us:Wp Int}:(us.map D.int).all Hh=true:=by
 rw[List.all_map,List.all_eq_true]
 intro x _;rfl
@[simp] def m9:Hh (.int i)=true:=nr rfl
def Zo(hS:SAt S s l m as st):Bl [] (tNm 1) (eOp (o2 (wIn true)) [eV 1,eV 0]) (eV 1) (OQ 0 10) [] [Gc (.ref m),none] S=Gc (GA (E9 st),S):=by
 exact FW (gs:=[]) (t:=tNm 1) (f:=eV 1) (C:=[Gc (.ref m)]) (m:=1) (e:=λi:Nat=>D.int (0+(i:Int))) (g:=λi:Nat=>D.int i) (b:=λi=> !(st.nums.any λu=>u==(i:Int))) (S:=S) Ad (xs:=tm 10) (acc:=[]) (os:=[none]) rfl (q8 (show _<=50 by simp) (AK (by decide))) (by
  intro i hi os ho
  obtain⟨o1,rfl⟩:=Pd ho
  refine⟨[Gc (.int i)],rfl,by simp,?_,by simp⟩
  have nu:=Ac hS.nu
  have fi:=Pa (us:=st.nums)
  have ii:=Qc (us:=st.nums) (i:=(i:Int))
  generalize st.nums.map D.int=ud at*
  generalize (st.nums.any λu=>u==(i:Int))=bb at*
  simp[nu,fi,ii])
def XH(h:i∈E9 st):(i:Int)∉st.nums/\i<=9:=by
 unfold E9 at h
 rw[wR]at h
 have h1:=x5.mp h.1
 refine⟨?_,by lia⟩
 intro z
 have h2:=h.2
 have:(st.nums.any λu=>u==(i:Int))=true:=List.any_eq_true.mpr ⟨_,z,by simp⟩
 rw[this]at h2
 cases h2
def Xi:(E9 st).length<=10:=by
 unfold E9
 exact q8 (xM _ _) (by simp)
def XQ:(Eg st j).length<=st.AA.length:=by
 unfold Eg
 exact q8 (xM _ _) N8
section
variable{S:Sto}{p s l m:Nat}{as:Wp Nat}{st:Stt}{t:Tr}{k:Nat}
def UD:=AN (xIf (Ff (eOp (o2 wEq) [eV 7,eC (.int 7)]) (eOp (o2 wNe) [eV 12,Kx []])) (Ag (Bn [eC (.str "trade"),eOp (o2 wIx) [eV 12,AD AF [eV 0,eOp (o1 Cv) [eV 12]]],eV 8,eV 9,eV 11,AD BE [eV 0]])) Bb) (Ag (Bn [eC (.str "swap"),eV 8,eV 9,eV 11,AD BE [eV 0]]))
def Ul:=AN (xIf (eOp (o2 wEq) [eV 7,eC (.int 8)]) (Ag (Bn [eC (.str "spoil"),eV 8,eV 9])) Bb) (AN (xIf (Ff (eOp (o2 wEq) [eV 7,eC (.int 9)]) (eOp (o2 wGt) [eOp (o2 wIx) [eV 1,eC (.int 0)],eC (.int 1)])) (AN (BN 13 (AD AF [eV 0,eOp (o2 wIx) [eV 1,eC (.int 0)]])) (Ag (Bn [eC (.str "sell"),eV 13,eOp (o2 Pm) [eOp (o2 Cy) [eOp (o2 Cy) [eV 13,eC (.int 1)],AD AF [eV 0,eOp (o2 OO) [eOp (o2 wIx) [eV 1,eC (.int 0)],eC (.int 1)]]],eOp (o2 wIx) [eV 1,eC (.int 0)]],AD FX [eV 0]]))) Bb) (Ag (Bn [eC (.str "throw"),eV 8,eV 9,AD Dc [eV 0,eOp (o2 Cy) [eOp (o2 wIx) [eV 1,eC (.int 1)],eC (.int 1)]]])))
def PL:Ex:=(AN (xIf (Ff (eOp (o2 wLt) [eV 7,eC (.int 8)]) (eOp (o2 wGt) [eOp (o2 wIx) [eV 1,eC (.int 1)],eC (.int 1)])) (AN (BN 11 (eOp (o2 Pm) [eOp (o2 Cy) [eOp (o2 Cy) [eOp (o2 wIx) [eOp (o2 wIx) [eV 3,eV 8],eC (.int 0)],eC (.int 1)],AD AF [eV 0,eOp (o2 OO) [eOp (o2 wIx) [eV 1,eC (.int 1)],eC (.int 1)]]],eOp (o2 wIx) [eV 1,eC (.int 1)]])) (AN (BN 12 (B8 [5] 1 (Sk [eC (.int 10)]) (tNm 1) (eOp (o2 (wIn true)) [eV 1,eV 0]) (eV 1)))
    UD)) Bb) Ul)
def Vh:=xIf (eOp (o2 wLt) [eV 7,eC (.int 5)]) (AN (BN 10 (B8 [3,8] 1 (GO (eV 6)) (tNm 2) (Ff (eOp (o2 wNe) [eV 2,eV 1]) (eOp (o2 wEq) [eOp (o2 wIx) [eOp (o2 wIx) [eV 0,eV 2],eC (.int 0)],eOp (o2 wIx) [eOp (o2 wIx) [eV 0,eV 1],eC (.int 0)]])) (eV 2))) (xIf (eOp (o2 wNe) [eV 10,Kx []]) (Ag (Bn [eC (.str "pool"),eV 8,eOp (o2 wIx) [eV 10,AD AF [eV 0,eOp (o1 Cv) [eV 10]]]])) Bb)) Bb
def Sm:AO->Prop
 | .Cn _ _ g _ n=>g<=2000/\n<2^130
 |_=>xy
def W3:=AN (xIf (eOr (eOp (o2 wLt) [eV 7,eC (.int 2)]) (eOp (o2 wEq) [eV 6,Kx []])) (Ag (Bn [eC (.str "bring"),AD AF [eV 0,eOp (o2 wIx) [eV 1,eC (.int 0)]],AD AF [eV 0,eOp (o2 wIx) [eV 1,eC (.int 1)]],AD BE [eV 0]])) Bb) (AN (BN 8 (eOp (o2 wIx) [eV 6,AD AF [eV 0,eOp (o1 Cv) [eV 6]]])) (AN (BN 9 (eOp (o2 Cy) [eC (.int 1),AD AF [eV 0,eOp (o2 i6) [eOp (o2 wIx) [eOp (o2 wIx) [eV 3,eV 8],eC (.int 1)],eC (.int 2000)]]])) (AN Vh PL)))
theorem Xl:Mm=(AN (Jn (tTp [tNm 3,tNm 4,tNm 5]) (eV 2)) (AN (BN 6 (B8 [] 2 (cM (eV 3)) (tTp [tNm 0,tNm 1]) (eOp (o2 wGt) [eOp (o2 wIx) [eV 1,eC (.int 1)],eC (.int 0)]) (eV 0))) (AN (BN 7 (AD AF [eV 0,eC (.int 12)])) W3))):=rfl
def Xf(hp:Dx p S)(hS:SAt S s l m as st)(hps:p∉s::l::m::as)(ht:G5 t)(h:Ee t k st)(hk:k<=16):∃d S',DX [.ref p,t.d,.ref s] S=Gc (AO.d d,S')/\Pn p S S'/\Can t st d/\Sm d:=by
 obtain⟨t1,t2,t3,t4,t5,t6⟩:=ht
 have hlen:=h.len
 have st':∀{S':Sto},Pn p S S'->SAt S' s l m as st:=λg=>hS.same g.same (by simpa using hps)
 have r0:=AJ hS.root
 have cf:=aw hS (by lia)
 have fl:=N8 (st:=st)
 have sq:=FH hS.lo
 obtain⟨way,S1,e1,a1,b1,p1⟩:=Ao hp (n:=12) (by decide) (by decide)
 have okF:=Lw (is:=B9 st)
 have dqF:=OC (is:=B9 st)
 have pr0:DX [.ref p,t.d,.ref s] S=(W3 [Gc (.ref p),Gc t.d,Gc (.ref s),Gc (.ref l),Gc (shD st.hold),Gc (.ref m),Gc (.lst (GA (B9 st))),Gc (.int way),none,none,none,none,none,none] S1).map λr=>(flD r.1,r.2.2):=by
  simp[DX,Xl,r0,sq,cf,e1]
 by_cases hb:way<2\/(B9 st).isEmpty=true
 .obtain⟨x2,S2,e2,a2,b2,p2⟩:=Ao p1.pen (n:=t.p) (by lia) (by lia)
  obtain⟨x3,S3,e3,a3,b3,p3⟩:=Ao p2.pen (n:=t.k) (by lia) (by lia)
  obtain⟨x4,S4,e4,p4,a4,b4⟩:=LU p3.pen
  obtain⟨x2,rfl⟩:=Ho a2
  obtain⟨x3,rfl⟩:=Ho a3
  refine⟨.Dd x2 x3 x4,S4,?_,((p1.trans p2).trans p3).trans p4,⟨by lia,by lia,a4,b4⟩,trivial⟩
  rw[pr0]
  have ho:∀(x y:Ex),xIf (eOr (eOp (o2 wLt) [eV 7,eC (.int 2)]) (eOp (o2 wEq) [eV 6,Kx []])) x y [Gc (.ref p),Gc t.d,Gc (.ref s),Gc (.ref l),Gc (shD st.hold),Gc (.ref m),Gc (.lst (GA (B9 st))),Gc (.int way),none,none,none,none,none,none] S1=x [Gc (.ref p),Gc t.d,Gc (.ref s),Gc (.ref l),Gc (shD st.hold),Gc (.ref m),Gc (.lst (GA (B9 st))),Gc (.int way),none,none,none,none,none,none] S1:=by
   intro x y
   by_cases hw:way<2
   .simp[hw]
   .simp[hw,okF,dqF,hb.resolve_left hw]
  simp[W3,-Vy,ho]
  simp[Tr.d,e2,e3,e4,AO.d]
 .have hw2:¬way<2:=λz=>hb (.inl z)
  have hf:(B9 st).isEmpty=false:=by
   cases z:(B9 st).isEmpty with
   |true=>exact absurd (.inr z) hb
   |false=>rfl
  have hfl:0<(B9 st).length:=by
   cases z:B9 st with
   |nil=>rw[z]at hf;cases hf
   |cons a b=>simp
  obtain⟨rl,S2,e2,a2,b2,p2⟩:=Ao p1.pen (n:=(B9 st).length) (by lia) (by lia)
  obtain⟨i,mi,ei⟩:=LP a2 b2
  have fi:=K9 mi
  have hS1:=st' p1
  have hS2:=st' (p1.trans p2)
  obtain⟨a,x1,x2,x3⟩:=hS2.at fi.1
  have n1:=fi.2
  obtain⟨rs,S3,e3,a3,b3,p3⟩:=Ao p2.pen (n:=if 2000<(AL st.AA i).n then 2000 else(AL st.AA i).n) (by split<;>lia) (by split<;>lia)
  have hsome:1<=1+rs/\1+rs<=(AL st.AA i).n:=by split at b3<;>lia
  have p23:=(p1.trans p2).trans p3
  have hS3:=st' p23
  have lo2:=Ac hS2.lo
  have lo3:=Ac hS3.lo
  have x2':=Ac x2
  have x4:S3[a]?=Gc (B4 (AL st.AA i)):=hS3.ld i a _ x1 (Eh fi.1)
  have x4':=Ac x4
  have kd:=h.kind _ (AU fi.1)
  have nl:=Jh (is:=B9 st)
  have cs:=cB hS3 (by lia) mi
  have okS:=Lw (is:=Eg st i)
  have dqS:=OC (is:=Eg st i)
  have sl:=XQ (st:=st) (j:=i)
  have nls:=Jh (is:=Eg st i)
  have pre:DX [.ref p,t.d,.ref s] S=((Vh [Gc (.ref p),Gc t.d,Gc (.ref s),Gc (.ref l),Gc (shD st.hold),Gc (.ref m),Gc (.lst (GA (B9 st))),Gc (.int way),Gc (.int i),Gc (.int (1+rs)),none,none,none,none] S3).bind (cU PL)).map λr=>(flD r.1,r.2.2):=by
   rw[pr0]
   simp[W3,hw2,okF,dqF,hf,nl,e2,ei,lo2,x3,x2',e3]
  have tail:∀o10,(way<5->(Eg st i).isEmpty=true)->∃d S',(PL [Gc (.ref p),Gc t.d,Gc (.ref s),Gc (.ref l),Gc (shD st.hold),Gc (.ref m),Gc (.lst (GA (B9 st))),Gc (.int way),Gc (.int i),Gc (.int (1+rs)),o10,none,none,none] S3).map (λr=>(flD r.1,r.2.2))=Gc (AO.d d,S')/\Pn p S S'/\Can t st d/\Sm d:=by
   intro o10 _
   generalize hE:([Gc (.ref p),Gc t.d,Gc (.ref s),Gc (.ref l),Gc (shD st.hold),Gc (.ref m),Gc (.lst (GA (B9 st))),Gc (.int way),Gc (.int i),Gc (.int (1+rs)),o10,none,none,none]:En)=E
   clear pre cs okS dqS
   by_cases hsw:way<8/\1<t.k
   .obtain⟨hw8,hk1⟩:=hsw
    have hk1':(1:Int)<t.k:=by lia
    obtain⟨rk,S4,e4,a4,b4,p4⟩:=Ao p3.pen (n:=(t.k:Int)-1) (by lia) (by lia)
    have hS4:=st' (p23.trans p4)
    have hmod:=VQ (x:=((AL st.AA i).k:Int)+1+rk) (K:=t.k) (by lia) (by lia)
    obtain⟨kd2,ekd⟩:∃q:Nat,((AL st.AA i).k+1+rk) % (t.k:Int)=(q:Int):=⟨_,(sf (uw _ (by lia))).symm⟩
    have hkd:kd2<t.k/\kd2≠(AL st.AA i).k:=by
     rw[ekd]at hmod
     split at hmod<;>lia
    have kp:0<t.k:=by lia
    have cl:=Zo hS4
    have okL:=Lw (is:=E9 st)
    have dqL:=OC (is:=E9 st)
    have ll:=Xi (st:=st)
    have nll:=Jh (is:=E9 st)
    have rt:L6 10=true:=Gb (by decide) (by decide)
    have mid:PL E S3=(UD [Gc (.ref p),Gc t.d,Gc (.ref s),Gc (.ref l),Gc (shD st.hold),Gc (.ref m),Gc (.lst (GA (B9 st))),Gc (.int way),Gc (.int i),Gc (.int (1+rs)),o10,Gc (.int kd2),Gc (.lst (GA (E9 st))),none] S4).bind (cU Ul):=by
     subst hE
     simp[PL,Tr.d,x3,hw8,hk1',lo3,x4',e4,kp,ekd,rt,cl]
    rw[mid]
    clear mid hE
    by_cases htr:way=7/\(E9 st).isEmpty=false
    .obtain⟨hw7,hle⟩:=htr
     have hll:0<(E9 st).length:=by
      cases z:E9 st with
      |nil=>rw[z]at hle;cases hle
      |cons a b=>simp
     obtain⟨ru,S5,e5,a5,b5,p5⟩:=Ao p4.pen (n:=(E9 st).length) (by lia) (by lia)
     obtain⟨u,mu,eu⟩:=LP a5 b5
     obtain⟨x6,S6,e6,p6,a6,b6⟩:=NB p5.pen
     have fu:=XH mu
     refine⟨.Cn u i (1+rs) kd2 x6,S6,?_,((p23.trans p4).trans p5).trans p6,⟨fi.1,hsome.1,hsome.2,hkd.1,hkd.2,a6,Int.lt_trans b6 (by decide),fu.1,by lia,by lia⟩,by split at b3<;>lia,b6⟩
     subst hw7
     simp[UD,okL,dqL,hle,nll,e5,eu,e6,AO.d]
    .obtain⟨x6,S6,e6,p6,a6,b6⟩:=LU p4.pen
     refine⟨.swap i (1+rs) kd2 x6,S6,?_,(p23.trans p4).trans p6,⟨fi.1,hsome.1,hsome.2,hkd.1,hkd.2,a6,b6⟩,trivial⟩
     by_cases h7:way=7
     .subst h7
      have hle:(E9 st).isEmpty=true:=by
       cases z:(E9 st).isEmpty with
       |true=>rfl
       |false=>exact absurd ⟨rfl,z⟩ htr
      simp[UD,okL,dqL,hle,e6,AO.d]
     .have h7':(way==7)=false:=by simpa using h7
      simp[UD,h7',e6,AO.d]
   .have sw:PL E S3=Ul E S3:=by
     subst hE
     by_cases w8:way<8
     .have hk1:¬(1:Int)<t.k:=by lia
      simp[PL,Tr.d,w8,hk1]
     .simp[PL,w8]
    rw[sw]
    clear sw
    by_cases h8:way=8
    .subst h8
     refine⟨.Dr i (1+rs),S3,?_,p23,⟨fi.1,hsome.1,hsome.2⟩,trivial⟩
     subst hE
     rfl
    .have h8':(way==8)=false:=by simpa using h8
     by_cases h9:way=9/\1<t.p
     .obtain⟨h9,hP⟩:=h9
      subst h9
      have hP':(1:Int)<t.p:=by lia
      obtain⟨rp,S4,e4,a4,b4,p4⟩:=Ao p3.pen (n:=t.p) (by lia) (by lia)
      obtain⟨rq,S5,e5,a5,b5,p5⟩:=Ao p4.pen (n:=(t.p:Int)-1) (by lia) (by lia)
      obtain⟨sh,S6,e6,p6,a6,b6,c6⟩:=Wh p5.pen
      have hmod:=VQ (x:=rp+1+rq) (K:=t.p) (by lia) (by lia)
      obtain⟨q,eq⟩:∃q:Nat,(rp+1+rq) % (t.p:Int)=(q:Int):=⟨_,(sf (uw _ (by lia))).symm⟩
      obtain⟨rp,rfl⟩:=Ho a4
      have hq:q<t.p/\q≠rp:=by
       rw[eq]at hmod
       split at hmod<;>lia
      have pp:0<t.p:=by lia
      refine⟨.GQ rp q sh,S6,?_,((p23.trans p4).trans p5).trans p6,⟨λz=>hq.2 z.symm,by lia,hq.1,a6,b6,c6⟩,trivial⟩
      subst hE
      simp[Ul,Tr.d,hP',e4,e5,pp,eq,e6,AO.d]
     .have s9:∀(x y:Ex) (T:Sto),xIf (Ff (eOp (o2 wEq) [eV 7,eC (.int 9)]) (eOp (o2 wGt) [eOp (o2 wIx) [eV 1,eC (.int 0)],eC (.int 1)])) x y E T=y E T:=by
       intro x y T
       subst hE
       by_cases z:way=9
       .have hP:¬(1:Int)<t.p:=by have:¬1<t.p:=λw=>h9 ⟨z,w⟩;lia
        subst z
        simp[Tr.d,hP]
       .have z':(way==9)=false:=by simpa using z
        simp[z']
      obtain⟨ws,S4,e4,p4,a4,b4⟩:=VD p3.pen (n:=t.k+1) (by lia)
      have e4':Dc [.ref p,.int ((t.k:Int)+1)] S3=Gc (.tup (ws.map .int),S4):=e4
      refine⟨.thr i (1+rs) ws,S4,?_,p23.trans p4,⟨fi.1,hsome.1,hsome.2,a4,b4⟩,trivial⟩
      have s8:∀(x y:Ex) (T:Sto),xIf (eOp (o2 wEq) [eV 7,eC (.int 8)]) x y E T=y E T:=by
       intro x y T
       subst hE
       simp[h8']
      simp[Ul,-Vy,s8,s9]
      subst hE
      simp[Tr.d,e4',AO.d]
  by_cases hpool:way<5/\(Eg st i).isEmpty=false
  .obtain⟨hw5,hse⟩:=hpool
   have hsl:0<(Eg st i).length:=by
    cases z:Eg st i with
    |nil=>rw[z]at hse;cases hse
    |cons a b=>simp
   obtain⟨rj,S4,e4,a4,b4,p4⟩:=Ao p3.pen (n:=(Eg st i).length) (by lia) (by lia)
   obtain⟨j,mj,ej⟩:=LP a4 b4
   have fj:=W7 mj
   have fj':=K9 fj.1
   refine⟨.Hr i j,S4,?_,p23.trans p4,⟨λz=>fj.2.1 z.symm,fi.1,fj'.1,n1,fj'.2,fj.2.2.symm⟩,trivial⟩
   rw[pre]
   simp[Vh,hw5,cs,okS,dqS,hse,nls,e4,ej,AO.d]
  .by_cases w5:way<5
   .have hse:(Eg st i).isEmpty=true:=by
     cases z:(Eg st i).isEmpty with
     |true=>rfl
     |false=>exact absurd ⟨w5,z⟩ hpool
    obtain⟨d,S',e,pn,hc⟩:=tail (Gc (.lst (GA (Eg st i)))) (λ_=>hse)
    refine⟨d,S',?_,pn,hc⟩
    rw[pre,<-e]
    simp[Vh,w5,cs,okS,dqS,hse]
   .obtain⟨d,S',e,pn,hc⟩:=tail none (λz=>absurd z w5)
    refine⟨d,S',?_,pn,hc⟩
    rw[pre,<-e]
    simp[Vh,w5]
def Zv(hp:Dx p S)(hS:SAt S s l m as st)(hps:p∉s::l::m::as)(ht:G5 t)(h:Ee t k st)(hk:k<=16):∃d S',DX [.ref p,t.d,.ref s] S=Gc (AO.d d,S')/\Pn p S S'/\Can t st d:=by
 obtain⟨d,S',a,b,c,_⟩:=Xf hp hS hps ht h hk
 exact⟨d,S',a,b,c⟩
end
noncomputable def runs(t:Tr)(st:Stt)(ds:Wp AO):Stt:=ds.foldl (step t) st
def KJ(t:Tr):Stt->Wp AO->Prop
 |_,[]=>xy
 |st,d::ds=>Can t st d/\KJ t (step t st d) ds
theorem NP{t:Tr}{d:AO}:∀{ds:Wp AO} {st:Stt},KJ t st ds->Can t (runs t st ds) d->KJ t st (ds++[d])
 | [],st,_,h=>⟨h,trivial⟩
 |x::ds,st,h,g=>⟨h.1,NP h.2 g⟩
def N2{t:Tr}{ds:Wp AO}{st:Stt}{i:Nat}{d:AO}(h:KJ t st ds)(g:ds[i]?=Gc d):Can t (runs t st (ds.take i)) d:=by
 induction ds generalizing st i with
 |nil=>simp at g
 |cons x ds ih=>
  cases i with
  |zero=>simp at g;subst g;exact h.1
  |succ i=>simp at g;exact ih h.2 g
def V7{t:Tr}{st:Stt}{ds:Wp AO}{d:AO}:runs t st (ds++[d])=step t (runs t st ds) d:=by simp[runs]
def LY{t:Tr}{st:Stt}{ds:Wp AO}{i:Nat}{d:AO}(h:ds[i]?=Gc d):runs t st (ds.take (i+1))=step t (runs t st (ds.take i)) d:=by
 rw[List.take_succ,h]
 exact V7
theorem Nx{t:Tr}(ht:G5 t):∀{ds:Wp AO} {st:Stt} {k:Nat},Ee t k st->KJ t st ds->k+ds.length<=17->Ee t (k+ds.length) (runs t st ds)
 | [],st,k,h,_,_=>h
 |d::ds,st,k,h,g,hl=>by
  have:=Nx ht (ds:=ds) (K2 ht h (by simp at hl;lia) g.1) g.2 (by simp at hl;lia)
  rw[show k+(d::ds).length=k+1+ds.length by simp;lia]
  exact this
theorem Qq{t:Tr}(ht:G5 t):∀{ds:Wp AO} {st:Stt} {k G B:Nat},SIG t k G B st->KJ t st ds->k+ds.length<=17->∃T G' B',G'=G*T/\0<T/\B*T<=B'/\B'<=B*2^(161*ds.length)/\SIG t (k+ds.length) G' B' (runs t st ds)
 | [],st,k,G,B,h,_,_=>⟨1,G,B,(vQ _).symm,by decide,by rw[vQ];exact q9 _,by simp,h⟩
 |d::ds,st,k,G,B,h,g,hl=>by
  obtain⟨T,G1,B1,rfl,t0,tb,ub,h1⟩:=RF ht h (by simp at hl;lia) g.1
  obtain⟨T2,G2,B2,rfl,t2,tb2,ub2,h2⟩:=Qq ht (ds:=ds) h1 g.2 (by simp at hl;lia)
  refine⟨T*T2,_,B2,vW ..,v7 t0 t2,q8 ?_ tb2,?_,?_⟩
  .rw[<-vW]
   exact sO _ tb
  .refine q8 ub2 (q8 (sO _ ub) ?_)
   rw[vW,<-xV]
   exact wK _ (sT (by decide) (by simp;lia))
  .rw[show k+(d::ds).length=k+1+ds.length by simp;lia]
   exact h2
theorem Hx{t:Tr}:∀{ds:Wp AO} {st:Stt} {i:Nat},KJ t st ds->KJ t st (ds.take i)
 | [],st,i,h=>by simp;exact trivial
 |d::ds,st,0,h=>trivial
 |d::ds,st,i+1,h=>⟨h.1,Hx h.2⟩
noncomputable def st0(t:Tr)(ls:Wp Ld):Stt:=⟨ls,t.ho,[]⟩
structure Bo(t:Tr)(ls:Wp Ld)(ds:Wp AO):Prop where
 tr:G5 t
 lev:∃k,k+ds.length<=16/\Ee t k (st0 t ls)
 four:ls.length<=4
 pc0:∀l∈ls,0<=l.n/\l.n<2^131
 good:KJ t (st0 t ls) ds
def Ee.mono{t:Tr}{j k:Nat}{s:Stt}(h:Ee t j s)(hk:j<=k):Ee t k s:=by
 obtain⟨G,B,g0,gb,b,h1,h2⟩:=h.gb
 exact⟨by have:=h.len;lia,h.kind,λl hl=>⟨(h.pcs l hl).1,vH (h.pcs l hl).2 (by exact_mod_cast sT (by decide:0<2) (by lia:131+j<=131+k))⟩,h.own,h.hold,q8 h.nm hk,G,B,g0,gb,qw b (sT (by decide) (by lia)),h1,h2⟩
def Bo.len{t:Tr}{ls:Wp Ld}{ds:Wp AO}(h:Bo t ls ds):ds.length<=16:=by
 obtain⟨k,hk,_⟩:=h.lev
 lia
def Bo.lv{t:Tr}{ls:Wp Ld}{ds:Wp AO}(h:Bo t ls ds):∃k,k<=16/\Ee t k (runs t (st0 t ls) ds):=by
 obtain⟨k,hk,z⟩:=h.lev
 exact⟨_,hk,Nx h.tr z h.good (by lia)⟩
def Bo.at{t:Tr}{ls:Wp Ld}{ds:Wp AO}(h:Bo t ls ds)(i:Nat):Ee t 16 (runs t (st0 t ls) (ds.take i)):=by
 obtain⟨k,hk,z⟩:=h.lev
 exact(Nx h.tr z (Hx h.good) (by simp;lia)).mono (by simp;lia)
noncomputable def AH(t:Tr)(ls:Wp Ld)(ds:Wp AO):D:=.tup [t.d,.tup (ls.map Ld.d),.tup (ds.map AO.d)]
def Vj{t:Tr}{ls:Wp Ld}(h:FA t ls)(hl:ls.length<=4)(h1:t.ho.length=t.p){g:Nat}(g0:0<g)(g1:g<=32)(g2:∀r∈t.ho,Ok g g r):Ee t 0 (st0 t ls):=by
 obtain⟨ha,G,G0,G1,G2⟩:=h
 have hG:G<=32^4:=q8 G1 (sT (by decide) hl)
 have hB:G*g<2^30:=by
  have:=vG hG g1
  lia
 refine Ee.of (G:=G*g) (B:=G*g) (by simpa[st0]using hl) ?_ h1 (q9 _) (v7 G0 g0) (q9 _) hB ?_
 .intro x hx
  have:=ha x hx
  exact⟨this.1,by lia,cg this.2.2.1,this.2.2.2.1,λr hr=>(G2 x hx r hr).up (q9 _)⟩
 .intro r hr
  have:=(g2 r hr).up (t:=G) (B':=G*g) (by rw[ui];exact q9 _)
  rwa [ui g G]at this
noncomputable def JE:AO->su
 | .thr .. =>true
 |_=>false
section
variable{S:Sto}{p:Nat}
def Wr(d:AO)(E:En)(h:E=[Gc d.d]):eOp (o2 wEq) [eOp (o2 wIx) [eV 0,eC (.int 0)],eC (.str "throw")] E S=Gc (.bl (JE d),S):=by
 subst h
 cases d<;>simp[AO.d,JE]
end
section
variable{S:Sto}{s l m:Nat}{as:Wp Nat}{st:Stt}
theorem LQ{rs:Wp Rat}:D.tup (rs.map aD)=shD rs:=rfl
end
def QZ(h:n<=m):HT.sIx m d (Gc (n:Int))=n:=by
 unfold HT.sIx
 have:¬((n:Int)<0):=by lia
 simp[this]
 lia
def Jd{ds:Wp α}(h:n<=ds.length):MO ds none (Gc (n:Int))=ds.take n:=by
 unfold MO
 rw[QZ h]
 simp[HT.sIx]
def X7{ds:Wp α}(h:n<=ds.length):MO ds (Gc (n:Int)) none=ds.drop n:=by
 unfold MO
 rw[QZ h]
 simp[HT.sIx]
 exact w9 (by simp)
noncomputable def hD(x:Ld):D:=.tup [.int x.k,.int x.n]
noncomputable def BA(ls:Wp Ld):D:=.lst (ls.map hD)
noncomputable def Ko(ls:Wp Ld):D:=.lst (ls.map λx=>shD x.ow)
section
variable{ls:Wp Ld}{i j:Nat}{n:Int}
@[simp] def ko:dr S (BA ls)=.val (BA ls):=nr rfl
@[simp] def nE:dr S (Ko ls)=.val (Ko ls):=nr rfl
@[simp] def ir:asS (.val (BA ls))=some (ls.map hD):=nr rfl
@[simp] def jF:asS (.val (Ko ls))=some (ls.map λx=>shD x.ow):=nr rfl
def HK(hi:i<ls.length):atI (ls.map hD) (i:Int)=Gc (hD (AL ls i)):=CW (by rw[rY,Eh hi];rfl)
def MF(hi:i<ls.length):atI (ls.map λx=>shD x.ow) (i:Int)=Gc (shD (AL ls i).ow):=CW (by rw[rY,Eh hi];rfl)
@[simp] def pv:dr S (hD x)=.val (.tup [.int x.k,.int x.n]):=nr rfl
@[simp] def mx:tTp ts (hD x) E S=tMs ts [.int x.k,.int x.n] E S:=nr rfl
def Wj:wSl lo hi (.val (BA ls))=Gc (.own (MO (ls.map hD) lo hi)):=nr rfl
def Ep(hi:i<ls.length)(hl:ls.length<=60):BU [BA ls,.int i,.int n] S=Gc (BA (less ls i n),S):=by
 have c1:=Jd (ds:=ls.map hD) (n:=i) (by simp;lia)
 have c2:MO (ls.map hD) (Gc ((i:Int)+1)) none=(ls.map hD).drop (i+1):=by
  have:=X7 (ds:=ls.map hD) (n:=i+1) (by simp;lia)
  simpa using this
 have ef:BA (less ls i n)=.lst ((ls.map hD).take i++[.tup [.int (AL ls i).k,.int ((AL ls i).n-n)]]++(ls.map hD).drop (i+1)):=by
  rw[QV,BA,wD,List.set_eq_take_append_cons_drop,sD (by simpa using hi)]
  simp[hD]
 have z1:(List.take i (ls.map hD)).length+1<=sizeLine:=q8 (show _<=100 by simp;lia) (AK (by decide))
 have z2:(List.take i (ls.map hD)++[D.tup [.int (AL ls i).k,.int ((AL ls i).n-n)]]).length+(List.drop (i+1) (ls.map hD)).length<=sizeLine:=q8 (show _<=100 by simp;rw[y8 (uy hi)];exact q8 (Nat.le_of_eq (Nat.add_sub_cancel' hi)) (q8 hl (by decide))) (AK (by decide))
 rw[ef]
 have ah:=HK hi
 have ws:=λ{lo hi:qz Int}=>Wj (ls:=ls) (lo:=lo) (hi:=hi)
 generalize List.take i (ls.map hD)=A at*
 generalize List.drop (i+1) (ls.map hD)=B at*
 simp only[sk,sS,wV]at z2
 simp[BU,G7,ah,ws,c1,c2,z1,z2]
end
section
variable{S:Sto}{st:Stt}{t:Tr}{k:Nat}
@[simp] def EH{ls:List Ld}{r:List D}:Cy (.val (BA ls)) (.val (.lst r))=if(ls.map hD).length+r.length<=sizeLine then some (.own (ls.map hD++r))else none:=nr rfl
def Kz{ls:Wp Ld}{y:Ld}:D.lst (ls.map hD++[.tup [.int y.k,.int y.n]])=BA (ls++[y]):=by simp[BA,hD]
def LI(h:Ee t k st)(hk:k<=17){d:AO}(hc:Can t st d):Aa [BA st.AA,d.d] S=Gc (BA (step t st d).AA,S):=by
 have hlen:=h.len
 have hz:(st.AA.map hD).length+1<=sizeLine:=q8 (show _<=100 by simp;lia) (AK (by decide))
 have hz2:∀{i:Nat} {n:Int},((less st.AA i n).map hD).length+1<=sizeLine:=λ{i n}=>q8 (show _<=100 by simp[DB];lia) (AK (by decide))
 cases d with
 |Dd p kd n=>
  have e:=Kz (ls:=st.AA) (y:=⟨kd,n,Qf t.p p⟩)
  show _=Gc (BA (st.AA++[⟨kd,n,Qf t.p p⟩]),S)
  rw[<-e]
  have wA:=EH (ls:=st.AA) (r:=[.tup [.int kd,.int n]])
  rw[sD (by simpa using hz)]at wA
  simp[Aa,BQ,AO.d,-EH,wA]
 |Hr i j=>
  obtain⟨hij,hi,hj,h1,h2,h3⟩:=hc
  have e0:AL (less st.AA i (AL st.AA i).n) j=AL st.AA j:=by
   unfold AL less
   rw[rX,rA hij,<-rX]
  have w1:=Ep (S:=S) (n:=(AL st.AA i).n) hi (by lia)
  have w2:=Ep (S:=S) (ls:=less st.AA i (AL st.AA i).n) (i:=j) (n:=(AL st.AA j).n) (by rw[DB];exact hj) (by rw[DB];lia)
  have z3:((less (less st.AA i (AL st.AA i).n) j (AL st.AA j).n).map hD).length+1<=sizeLine:=q8 (show _<=100 by simp[DB];lia) (AK (by decide))
  have e:=Kz (ls:=less (less st.AA i (AL st.AA i).n) j (AL st.AA j).n) (y:=⟨(AL st.AA i).k,(AL st.AA i).n+(AL st.AA j).n,By (AL st.AA i).n (AL st.AA j).n (AL st.AA i).ow (AL st.AA j).ow⟩)
  show _=Gc (BA (less (less st.AA i (AL st.AA i).n) j (AL st.AA j).n++[_]),S)
  rw[<-e]
  have a1:=HK hi
  have a2:=HK hj
  have wA:=EH (ls:=less (less st.AA i (AL st.AA i).n) j (AL st.AA j).n) (r:=[.tup [.int (AL st.AA i).k,.int ((AL st.AA i).n+(AL st.AA j).n)]])
  rw[sD (by simpa using z3)]at wA
  generalize (less (less st.AA i (AL st.AA i).n) j (AL st.AA j).n).map hD=A at*
  simp[Aa,BQ,AO.d,a1,a2,w1,w2,-EH,wA]
 |swap i g kd n=>
  obtain⟨hi,h1,h2,h3,h4,h5,h6⟩:=hc
  have w1:=Ep (S:=S) (n:=g) hi (by lia)
  have e:=Kz (ls:=less st.AA i g) (y:=⟨kd,n,(AL st.AA i).ow⟩)
  show _=Gc (BA (less st.AA i g++[⟨kd,n,(AL st.AA i).ow⟩]),S)
  rw[<-e]
  have wA:=EH (ls:=less st.AA i g) (r:=[.tup [.int kd,.int n]])
  rw[sD (by simpa using hz2)]at wA
  simp[Aa,BQ,AO.d,w1,-EH,wA]
 |Cn u i g kd n=>
  obtain⟨hi,h1,h2,h3,h4,h5,h6,h7⟩:=hc
  have w1:=Ep (S:=S) (n:=g) hi (by lia)
  have e:=Kz (ls:=less st.AA i g) (y:=⟨kd,n,(AL st.AA i).ow⟩)
  show _=Gc (BA (less st.AA i g++[⟨kd,n,(AL st.AA i).ow⟩]),S)
  rw[<-e]
  have wA:=EH (ls:=less st.AA i g) (r:=[.tup [.int kd,.int n]])
  rw[sD (by simpa using hz2)]at wA
  simp[Aa,BQ,AO.d,w1,-EH,wA]
 |Dr i n=>
  obtain⟨hi,h1,h2⟩:=hc
  have w1:=Ep (S:=S) (n:=n) hi (by lia)
  show _=Gc (BA (less st.AA i n),S)
  simp[Aa,BQ,AO.d,w1]
 |thr i n ws=>
  obtain⟨hi,h1,h2,h3,h4⟩:=hc
  have w1:=Ep (S:=S) (n:=n) hi (by lia)
  have e:BA (step t st (.thr i n ws)).AA=BA (less st.AA i n):=by
   show D.lst (((less st.AA i n).map _).map hD)=_
   rw[tJ];rfl
  rw[e]
  simp[Aa,BQ,AO.d,w1]
 |GQ p q x=>
  have e:BA (step t st (.GQ p q x)).AA=BA st.AA:=by
   show D.lst ((st.AA.map _).map hD)=_
   rw[tJ];rfl
  rw[e]
  simp[Aa,BQ,AO.d]
noncomputable def G9:AO->qz Int
 | .Cn u .. =>Gc u
 |_=>none
def Vr{ls:Wp Ld}:∀{ds:Wp AO},(runs t (st0 t ls) ds).nums=ds.filterMap G9:=by
 intro ds
 have:∀(ds:Wp AO) (st:Stt),(runs t st ds).nums=st.nums++ds.filterMap G9:=by
  intro ds
  induction ds with
  |nil=>intro st;simp[runs]
  |cons d ds ih=>
   intro st
   show(runs t (step t st d) ds).nums=_
   rw[ih]
   cases d<;>simp[step,G9,se]
 rw[this];rfl
theorem Kn:∀{ds:Wp AO} {acc:Wp D} {o:qz D},acc.length+ds.length<=100->Bl [] (tNm 0) (eOp (o2 wEq) [eOp (o2 wIx) [eV 0,eC (.int 0)],eC (.str "trade")]) (eOp (o2 wIx) [eV 0,eC (.int 1)]) (ds.map AO.d) acc [o] S=Gc (acc++(ds.filterMap G9).map D.int,S)
 | [],acc,o,h=>by rw[tP,EL Ad];simp
 |d::ds,acc,o,h=>by
  have hz:acc.length<sizeLine:=qw (show acc.length<101 by simp at h;lia) (AK (by decide))
  have ht:tNm 0 d.d [o] S=Gc [Gc d.d]:=by simp
  rw[rT]
  cases d with
  |Cn u i g kd n=>
   rw[HN Ad hz ht (S1:=S) (by simp[AO.d])]
   have:eOp (o2 wIx) [eV 0,eC (.int 1)] [Gc (AO.Cn u i g kd n).d] S=Gc (.int u,S):=by simp[AO.d]
   rw[this,Ay,Kn (by simp at h ⊢; lia)]
   simp[G9,se]
  |Dd=>rw[Ih Ad hz ht (S1:=S) (by simp[AO.d]),Kn (by simp at h ⊢; lia)];simp[G9,se]
  |Hr=>rw[Ih Ad hz ht (S1:=S) (by simp[AO.d]),Kn (by simp at h ⊢; lia)];simp[G9,se]
  |swap=>rw[Ih Ad hz ht (S1:=S) (by simp[AO.d]),Kn (by simp at h ⊢; lia)];simp[G9,se]
  |Dr=>rw[Ih Ad hz ht (S1:=S) (by simp[AO.d]),Kn (by simp at h ⊢; lia)];simp[G9,se]
  |thr=>rw[Ih Ad hz ht (S1:=S) (by simp[AO.d]),Kn (by simp at h ⊢; lia)];simp[G9,se]
  |GQ=>rw[Ih Ad hz ht (S1:=S) (by simp[AO.d]),Kn (by simp at h ⊢; lia)];simp[G9,se]
end
section
variable{S:Sto}{st:Stt}{t:Tr}{k:Nat}
def Wz{ss os:Wp Rat}:K4 (ss.map aD) (os.map aD)=(ss.zip os).map λz=>D.tup [aD z.1,aD z.2]:=by
 unfold K4
 rw[List.zip_map,tJ]
 rfl
noncomputable def Pl(w m:Int)(ss os:Wp Rat):Wp Rat:=xE (λs o=>(s*w+o*m) / (w+m)) ss os
def Dl{w m:Int}{ss os:Wp Rat}{j n:Nat}(hs:∀r∈ss,Sz j r)(ho:∀r∈os,Sz j r)(hw:w.natAbs<2^n)(hm:m.natAbs<2^n)(h:0<w+m)(hj:2*j+n+1<=7990)(hl:ss.length<=50):BV [shD ss,.int w,shD os,.int m] S=Gc (shD (Pl w m ss os),S):=by
 have e:=Cj (gs:=[]) (t:=tTp [tNm 2,tNm 3]) (f:=AD HR [eV 2,eV 0,eV 3,eV 1]) (C:=[Gc (.int w),Gc (.int m)]) (m:=2) (e:=λz:Rat×Rat=>D.tup [aD z.1,aD z.2]) (g:=λz=>aD ((z.1*w+z.2*m) / (w+m))) (S:=S) Ad (xs:=ss.zip os) (acc:=[]) (os:=[none,none]) rfl (q8 (show _<=50 by simp;lia) (AK (by decide))) (by
  intro z hz os' ho'
  obtain⟨q1,q2,rfl⟩:=dh ho'
  have hm2:=uV (a:=z.1) (b:=z.2) hz
  have l:=dW (S:=S) (hs _ hm2.1) (ho _ hm2.2) hw hm h (by lia)
  refine⟨[Gc (aD z.1),Gc (aD z.2)],rfl,by simp,?_⟩
  simp[l])
 rw[<-Wz]at e
 have em:(ss.zip os).map (λz=>aD ((z.1*w+z.2*m) / (w+m)))=(Pl w m ss os).map aD:=by
  unfold Pl
  rw[<-List.map_uncurry_zip_eq_zipWith,tJ]
  rfl
 rw[em]at e
 simp only[sQ,r9]at e
 simp[BV,G8,e,LQ]
def NX{P p:Nat}(hP:P<=50):ED [.int P,.int p] S=Gc (shD (Qf P p),S):=by
 have e:=Q3 (S:=S) (P:=P) (p:=p) (cond:=0) (C:=[]) (dd:=.int p) (f:=eIf (eOp (o2 wEq) [eV 1,eV 0]) (eC N0) (eC FL)) hP (by
  intro i
  by_cases hi:i=p
  .subst hi;simp;rfl
  .have:((i:Int)==(p:Int))=false:=by simp;lia
   simp[this,hi];rfl)
 have rn:L6 (P:Int)=true:=Gb (by lia) (by lia)
 simp[ED,IM,rn,e,LQ]
def Lx{n m:Int}{ss os:Wp Rat}:Pl n m ss os=By n m ss os:=by
 unfold Pl By
 congr 1
 funext s o
 push_cast
 rfl
def Pt{n m:Int}{ss os:Wp Rat}:By n m ss os=By m n os ss:=by
 unfold By
 rw[List.zipWith_comm]
 congr 1
 funext o s
 push_cast
 grind
@[simp] def So{a b:Int}:Ma [a,b]=if a<=b then [a,b]else [b,a]:=by
  unfold Ma
  simp[List.mergeSort,AAN,List.merge]
@[simp] def bQ{a b:Int}:Nq (.val (.lst [.int a,.int b]))=some (.own ((if a<=b then [a,b]else [b,a]).map D.int)):=by
  have:Nq (.val (.lst [.int a,.int b]))=Gc (.own ((Ma [a,b]).map D.int)):=rfl
  rw[this,So]
@[simp] def jC{a b c d e:D}:atI [a,b,c,d,e] (-4)=some b:=nr rfl
@[simp] def iw{a b c d e f:D}:atI [a,b,c,d,e,f] (-4)=some c:=nr rfl
def U3{i j:Nat}(ht:G5 t)(h:Ee t k st)(hk:k<=17)(hc:Can t st (.Hr i j)):BD [BA st.AA,Ko st.AA,(AO.Hr i j).d] S=Gc (shD (By (AL st.AA i).n (AL st.AA j).n (AL st.AA i).ow (AL st.AA j).ow),S):=by
 obtain⟨hij,hi,hj,h1,h2,h3⟩:=hc
 have sz:=h.sz
 have pi:=h.pcs _ (AU hi)
 have pj:=h.pcs _ (AU hj)
 have ti:=h.own _ (AU hi)
 have tj:=h.own _ (AU hj)
 have zi:=sz.1 _ (AU hi)
 have zj:=sz.1 _ (AU hj)
 have hp:t.p<=10:=by have:=ht.2.1;lia
 .by_cases hle:i<=j
  .have hle':(i:Int)<=j:=by lia
   have e:=Dl (S:=S) (j:=30+170*k) (n:=131+k) zi zj (FT pi.1 pi.2) (FT pj.1 pj.2) (by lia) (by lia) (by lia)
   rw[Lx]at e
   have a1:=HK hi
   have a2:=HK hj
   have b1:=MF hi
   have b2:=MF hj
   have mf:Bt [(AO.Hr i j).d] S=Gc (.lst [.int i,.int j],S):=by
    simp[Bt,Di,AO.d,hle,hle']
   simp only[AO.d]at mf⊢
   simp[BD,Ce,mf,a1,a2,b1,b2,e]
  .have hle':¬(i:Int)<=j:=by lia
   have e:=Dl (S:=S) (j:=30+170*k) (n:=131+k) zj zi (FT pj.1 pj.2) (FT pi.1 pi.2) (by lia) (by lia) (by lia)
   rw[Lx,Pt]at e
   have a1:=HK hi
   have a2:=HK hj
   have b1:=MF hi
   have b2:=MF hj
   have mf:Bt [(AO.Hr i j).d] S=Gc (.lst [.int j,.int i],S):=by
    simp[Bt,Di,AO.d,hle,hle']
   simp only[AO.d]at mf⊢
   simp[BD,Ce,mf,a1,a2,b1,b2,e]
def V4{i kd:Nat}{g n:Int}(hi:i<st.AA.length):BD [BA st.AA,Ko st.AA,(AO.swap i g kd n).d] S=Gc (shD (AL st.AA i).ow,S):=by
 have b1:=MF hi
 simp[BD,Ce,Bt,Di,AO.d,b1]
def Rj{i kd:Nat}{u g n:Int}(hi:i<st.AA.length):BD [BA st.AA,Ko st.AA,(AO.Cn u i g kd n).d] S=Gc (shD (AL st.AA i).ow,S):=by
 have b1:=MF hi
 simp[BD,Ce,Bt,Di,AO.d,b1]
def XD{ws:Wp Int}(h:Ee t k st)(hk:k<=17)(hl:ws.length=t.k+1)(hw:∀w∈ws,1<=w/\w<=99):DC [t.d,BA st.AA,.tup (ws.map D.int)] S=Gc (.int (Dy t st.AA ws),S):=by
 have hlen:=h.len
 have e:=Cj (gs:=[]) (t:=tTp [tNm 1,tNm 2]) (f:=eOp (o2 CO) [eV 2,eOp (o2 wIx) [eV 0,eV 1]]) (C:=[Gc (.tup (ws.map D.int))]) (m:=2) (e:=hD) (g:=λx=>D.int (x.n*ws.getD x.k 0)) (S:=S) Ad (xs:=st.AA) (acc:=[]) (os:=[none,none]) rfl (q8 (show _<=50 by simp;lia) (AK (by decide))) (by
  intro x hx os ho
  obtain⟨q1,q2,rfl⟩:=dh ho
  have hkk:=h.kind _ hx
  have w1:=Q2 (ws:=ws) (i:=x.k) (by lia)
  have w2:=MI hw (i:=x.k) (by lia)
  have m1:De x.n (ws.getD x.k 0)=true:=mulR (by lia) (by lia)
  generalize ws.getD x.k 0=wz at*
  refine⟨[Gc (.int x.k),Gc (.int x.n)],rfl,by simp,?_⟩
  simp[w1,m1])
 simp only[sQ,r9]at e
 have es:Kt (st.AA.map λx=>D.int (x.n*ws.getD x.k 0))=Gc (st.AA.map λx=>x.n*ws.getD x.k 0):=by
  have:=GN (st.AA.map λx=>x.n*ws.getD x.k 0)
  rwa [tJ]at this
 have w2:=Ni hl
 have w4:=MI hw (i:=t.k) (by lia)
 have m2:De (t.b:Int) (ws.getD t.k 0)=true:=mulR (by lia) (by lia)
 have e2:Dy t st.AA ws=(st.AA.map λx=>x.n*ws.getD x.k 0).sum+t.b*ws.getD t.k 0:=rfl
 rw[e2]
 have sq:sqD S (BA st.AA)=Gc (st.AA.map hD,[]):=rfl
 generalize (st.AA.map λx=>x.n*ws.getD x.k 0)=es' at*
 generalize (st.AA.map λx=>D.int (x.n*ws.getD x.k 0))=es2 at*
 generalize ws.getD t.k 0=wb at*
 simp[DC,G6,Tr.d,sq,e,es,w2,m2]
def aN{i:Nat}{n:Int}{ws:Wp Int}(ht:G5 t)(h:Ee t k st)(hk:k<=17)(hc:Can t st (.thr i n ws)):Dp [t.d,BA st.AA,(AO.thr i n ws).d] S=Gc (aD (Ig t st.AA i n ws),S):=by
 obtain⟨hi,h1,h2,hl,hw⟩:=hc
 have a:=JX ht h (by lia) hl hw
 have w1:=Q2 (ws:=ws) (i:=(AL st.AA i).k) (by have:=h.kind _ (AU hi);lia)
 have w3:=MI hw (i:=(AL st.AA i).k) (by have:=h.kind _ (AU hi);lia)
 have m1:De n (ws.getD (AL st.AA i).k 0)=true:=mulR (by lia) (by lia)
 have l1:=U4 (S:=S) (t:=n*ws.getD (AL st.AA i).k 0) a.1 (CT (FT (by lia) a.2) (by lia))
 have wo:=XD (S:=S) h hk hl hw
 have ah:=HK hi
 rw[K6 hi]
 generalize aD (((n*ws.getD (AL st.AA i).k 0:Int):Rat) / (Dy t st.AA ws:Rat))=R at*
 generalize ws.getD (AL st.AA i).k 0=wa at*
 simp[Dp,HJ,AO.d,ah,w1,m1,wo,l1]
def Vn{X:Rat}{ss os:Wp Rat}:Pl ((X.den:Int)-X.num) X.num ss os=GC X os ss:=by
 unfold Pl GC
 congr 1
 funext s o
 have h1:=Co X
 have h2:=HB X
 push_cast
 have e:((X.den:Rat)-(X.num:Rat)+(X.num:Rat))=(X.den:Rat):=by grind
 rw[e]
 grind
def Tv{i:Nat}{n:Int}{ws:Wp Int}{ss:Wp Rat}(ht:G5 t)(h:Ee t k st)(hk:k<=17)(hc:Can t st (.thr i n ws))(hs:∀r∈ss,Sz (30+170*k) r)(hl:ss.length<=50):Cr [t.d,BA st.AA,Ko st.AA,(AO.thr i n ws).d,shD ss] S=Gc (shD (GC (Ig t st.AA i n ws) (AL st.AA i).ow ss),S):=by
 have pt:=aN (S:=S) ht h hk hc
 obtain⟨hi,h1,h2,hl',hw⟩:=hc
 have cz:=Vc ht h (by lia) hl' hw hi h1 h2
 have b1:=MF hi
 generalize Ig t st.AA i n ws=X at*
 have d0:=den_pos X
 have c2:=cz.2
 have e:=Dl (S:=S) (w:=(X.den:Int)-X.num) (m:=X.num) (j:=30+170*k) (n:=146+k) hs (h.sz.1 _ (AU hi)) (by
  rw[show 146+k=(145+k)+1 by lia,yx,Nat.mul_two]
  exact sC (Int.natAbs_sub_le _ _) (Nat.add_lt_add c2 cz.1)) (bc cz.1 (by lia)) (by lia) (by lia) hl
 rw[Vn]at e
 generalize GC X (AL st.AA i).ow ss=rs at*
 simp only[aD,AO.d]at pt⊢
 simp[Cr,GG,pt,b1,e]
def Vf{p q:Nat}{x:Rat}{ss:Wp Rat}{j i:Nat}(hs:∀r∈ss,Sz j r)(hx:Sz i x)(hj:2*j+i<=7900)(hp:p<ss.length)(hq:q<ss.length)(hpq:p≠q):∃S',Dm [(AO.GQ p q x).d,shD ss] S=Gc (shD (FP p q x ss),S')/\Ba [] S S':=by
 have sp:=hs _ (getD_mem (d:=0) hp)
 have sq:=hs _ (getD_mem (d:=0) hq)
 have l1:∀S,CL [aD (ss.getD p 0),aD x] S=Gc (aD (ss.getD p 0*x),S):=λS=>US sp hx (by lia)
 have s1:=NC sp hx
 have l2:∀S,Dv [aD (ss.getD p 0),aD (ss.getD p 0*x)] S=Gc (aD (ss.getD p 0-ss.getD p 0*x),S):=λS=>hJ sp s1 (by lia)
 have l3:∀S,Fh [aD (ss.getD q 0),aD (ss.getD p 0*x)] S=Gc (aD (ss.getD q 0+ss.getD p 0*x),S):=λS=>bV sq s1 (by lia)
 have a1:=VI hp
 have a2:=VI hq
 have i1:=YE hp
 have i2:ixN (((ss.map aD).set p (aD (ss.getD p 0-ss.getD p 0*x))).length) (q:Int)=Gc q:=Ny (by simpa using hq)
 refine⟨S++[.lst ((FP p q x ss).map aD)],?_,.app⟩
 simp only[uK,sG]at i1 i2
 have em:(FP p q x ss).map aD=((ss.map aD).set p (aD (ss.getD p 0-ss.getD p 0*x))).set q (aD (ss.getD q 0+ss.getD p 0*x)):=by rw[FP,wD,wD]
 unfold shD
 rw[em]
 generalize aD (ss.getD p 0-ss.getD p 0*x)=d1 at*
 generalize aD (ss.getD q 0+ss.getD p 0*x)=d2 at*
 generalize aD (ss.getD p 0*x)=d3 at*
 generalize aD (ss.getD p 0)=d4 at*
 generalize aD (ss.getD q 0)=d5 at*
 simp[Dm,He,AO.d,a1,a2,l1,l2,l3,i1,i2]
end
def Wf(t:Tr):AO->Prop
 | .Dd p k n=>p<t.p/\k<t.k/\1<=n/\n<2^131
 | .Hr a b=>a≠b
 | .swap _ g k n=>1<=g/\k<t.k/\1<=n/\n<2^131
 | .Cn u _ g k n=>1<=g/\k<t.k/\1<=n/\n<2^131/\0<=u/\u<=9
 | .Dr _ n=>1<=n
 | .thr _ n ws=>1<=n/\ws.length=t.k+1/\∀w∈ws,1<=w/\w<=99
 | .GQ p q x=>p≠q/\p<t.p/\q<t.p/\0<x.num/\x.num<=x.den/\x.den<=12
noncomputable def thB(st:Stt)(l:Nat)(n:Int):su:=decide (l<st.AA.length) && decide (n<=(AL st.AA l).n)
noncomputable def swB(st:Stt)(l:Nat)(g:Int)(k:Nat):su:=thB st l g && !((AL st.AA l).k==k)
noncomputable def Qh(st:Stt):AO->su
 | .Dd .. =>true
 | .Hr a b=>thB st a 1 && (thB st b 1 && ((AL st.AA a).k==(AL st.AA b).k))
 | .swap l g k _=>swB st l g k
 | .Cn u l g k _=> !(st.nums.any λx=>x==u) && swB st l g k
 | .Dr l n=>thB st l n
 | .thr l n _=>thB st l n
 | .GQ .. =>true
section
variable{st:Stt}
def kI{us:Wp Int}:(us.any λx=>x==u)=false↔u∉us:=by
 rw[List.any_eq_false]
 constructor
 .intro h z
  exact h u z (by simp)
 .intro h x hx z
  have:x=u:=by simpa using z
  exact h (this▸hx)
def Yz(h:Can t st d):Wf t d/\Qh st d=true:=by
 cases d with
 |Dd p k n=>exact⟨h,rfl⟩
 |Hr a b=>
  obtain⟨h1,h2,h3,h4,h5,h6⟩:=h
  refine⟨h1,?_⟩
  simp only[Qh,thB,rH,uG,uv]
  exact⟨⟨h2,by lia⟩,⟨h3,by lia⟩,h6⟩
 |swap l g k n=>
  obtain⟨h1,h2,h3,h4,h5,h6,h7⟩:=h
  refine⟨⟨h2,h4,h6,h7⟩,?_⟩
  simp only[Qh,swB,thB,rH,uG,yS,tZ,ne_eq]
  exact⟨⟨h1,h3⟩,λz=>h5 z.symm⟩
 |Cn u l g k n=>
  obtain⟨h1,h2,h3,h4,h5,h6,h7,h8,h9,h10⟩:=h
  refine⟨⟨h2,h4,h6,h7,h9,h10⟩,?_⟩
  simp only[Qh,swB,thB,rH,uG,yS,tZ,ne_eq]
  exact⟨kI.mpr h8,⟨h1,h3⟩,λz=>h5 z.symm⟩
 |Dr l n=>
  obtain⟨h1,h2,h3⟩:=h
  refine⟨h2,?_⟩
  simp only[Qh,thB,rH,uG]
  exact⟨h1,h3⟩
 |thr l n ws=>
  obtain⟨h1,h2,h3,h4⟩:=h
  refine⟨⟨h2,h4⟩,?_⟩
  simp only[Qh,thB,rH,uG]
  exact⟨h1,h3⟩
 |GQ p q x=>exact⟨h,rfl⟩
def OM(h:l<st.AA.length):atI (st.AA.map hD) (l:Int)=Gc (hD (AL st.AA l)):=CW (by rw[rY,Eh h];rfl)
def MH{l:Nat}:Bc [BA st.AA,.int l,.int n] S=Gc (.bl (thB st l n),S):=by
 by_cases h:l<st.AA.length
 .have a:=OM h
  have h':(l:Int)<(st.AA.length:Int):=by lia
  have e:thB st l n=decide (n<=(AL st.AA l).n):=by simp[thB,h]
  rw[e]
  simp[Bc,F1,BA,h',a,hD]
 .have h':¬(l:Int)<(st.AA.length:Int):=by lia
  have e:thB st l n=false:=by simp[thB,h]
  rw[e]
  simp[Bc,F1,BA,h']
def Ut(h:thB st l n=true):l<st.AA.length:=by
 simp only[thB,rH,uG]at h
 exact h.1
def P5{a b:Nat}:((a:Int)==(b:Int))=(a==b):=by
 rw[wW,uv,uv]
 exact Int.ofNat_inj
def RG{l k:Nat}:DV [BA st.AA,.int l,.int g,.int k] S=Gc (.bl (swB st l g k),S):=by
 have e:=MH (S:=S) (st:=st) (l:=l) (n:=g)
 unfold swB
 cases h:thB st l g with
 |false=>
  rw[h]at e
  generalize BA st.AA=HD at*
  simp[DV,Hi,e]
 |true=>
  rw[h]at e
  have a:=OM (Ut h)
  simp only[BA]at e⊢
  have nb:=P5 (a:=(AL st.AA l).k) (b:=k)
  generalize st.AA.map hD=HL at*
  simp[DV,Hi,e,a,hD,nb]
def XT{a b:Nat}:DP [BA st.AA,.int a,.int b] S=Gc (.bl (thB st a 1 && (thB st b 1 && ((AL st.AA a).k==(AL st.AA b).k))),S):=by
 have e1:=MH (S:=S) (st:=st) (l:=a) (n:=1)
 have e2:=MH (S:=S) (st:=st) (l:=b) (n:=1)
 cases h:thB st a 1 with
 |false=>
  rw[h]at e1
  generalize BA st.AA=HD at*
  simp[DP,Fo,e1]
 |true=>
  rw[h]at e1
  cases h2:thB st b 1 with
  |false=>
   rw[h2]at e2
   generalize BA st.AA=HD at*
   simp[DP,Fo,e1,e2]
  |true=>
   rw[h2]at e2
   have a1:=OM (Ut h)
   have a2:=OM (Ut h2)
   have nb:=P5 (a:=(AL st.AA a).k) (b:=(AL st.AA b).k)
   simp only[BA]at e1 e2⊢
   generalize st.AA.map hD=HL at*
   simp[DP,Fo,e1,e2,a1,a2,hD,nb]
def lW{ds:Wp AO}(hd:ds.length<=50)(hn:st.nums=ds.filterMap G9):B3 [BA st.AA,.tup (ds.map AO.d),d.d] S=Gc (.bl (Qh st d),S):=by
 cases d with
 |Dd p kd n=>simp[B3,DY,AO.d,Qh]
 |Hr i j=>
  have e:=XT (S:=S) (st:=st) (a:=i) (b:=j)
  simp[B3,DY,AO.d,e,Qh]
 |swap i g kd n=>
  have e:=RG (S:=S) (st:=st) (l:=i) (g:=g) (k:=kd)
  simp[B3,DY,AO.d,e,Qh]
 |Cn u i g kd n=>
  have e:=RG (S:=S) (st:=st) (l:=i) (g:=g) (k:=kd)
  have tc:=Kn (S:=S) (ds:=ds) (acc:=[]) (o:=none) (by simp;lia)
  rw[<-hn]at tc
  have fi:=Pa (us:=st.nums)
  have ii:=Qc (us:=st.nums) (i:=u)
  have cb:Qh st (.Cn u i g kd n)=(!(st.nums.any λx=>x==u) && swB st i g kd):=rfl
  rw[cb]
  generalize st.nums.map D.int=ud at*
  generalize (st.nums.any λx=>x==u)=q at*
  rw[r9]at tc
  cases q<;>simp[B3,DY,AO.d,tc,fi,ii,e]
 |Dr i n=>
  have e:=MH (S:=S) (st:=st) (l:=i) (n:=n)
  simp[B3,DY,AO.d,e,Qh]
 |thr i n ws=>
  have e:=MH (S:=S) (st:=st) (l:=i) (n:=n)
  simp[B3,DY,AO.d,e,Qh]
 |GQ p q x=>simp[B3,DY,AO.d,Qh]
end
theorem O8{α:Type}{gs:Gd}{t:Tf}{f:Ev}{C:En}{m:Nat}{e g:α->D}(hg:∀S,gOk gs S):∀{xs:Wp α} {acc:Wp D} {os:En} {S:Sto},os.length=m->acc.length+xs.length<=sizeLine->(∀x∈xs,∀os S,os.length=m->∃us S',us.length=m/\t (e x) (C++os) S=Gc (C++us)/\f (C++us) S=Gc (g x,S')/\Ba [] S S')->∃S',Bl gs t BX f (xs.map e) acc (C++os) S=Gc (acc++xs.map g,S')/\Ba [] S S'
 | [],acc,os,S,ho,hz,h=>⟨S,by rw[tP,EL (hg S)];simp,.refl⟩
 |x::xs,acc,os,S,ho,hz,h=>by
  obtain⟨us,S1,hu,e1,e2,s1⟩:=h x rM os S ho
  obtain⟨S2,e3,s2⟩:=O8 hg (xs:=xs) (acc:=acc++[g x]) (os:=us) (S:=S1) hu (by simp at hz ⊢; lia) λx' hx=>h x' (rC _ hx)
  refine⟨S2,?_,s1.trans s2⟩
  rw[rT,HN (hg S) (by simp at hz;lia) e1 F6,e2,Ay,e3]
  simp
section
variable{S:Sto}{st:Stt}{t:Tr}{k:Nat}
noncomputable def shB(t:Tr)(st:Stt):AO->Wp Rat->Wp Rat
 | .thr i n ws,ss=>GC (Ig t st.AA i n ws) (AL st.AA i).ow ss
 | .GQ p q x,ss=>FP p q x ss
 |_,ss=>ss
def PQ{d:AO}{ss:Wp Rat}(ht:G5 t)(h:Ee t k st)(hk:k<=17)(hc:Can t st d)(hs:∀r∈ss,Sz (30+170*k) r)(hl:ss.length=t.p):∃S',AX [t.d,BA st.AA,Ko st.AA,d.d,shD ss] S=Gc (shD (shB t st d ss),S')/\Ba [] S S':=by
 have tp:=ht.2.1
 cases d with
 |thr i n ws=>
  have e:=Tv (S:=S) ht h hk hc hs (by lia)
  refine⟨S,?_,.refl⟩
  simp only[AO.d]at e⊢
  simp[AX,Az,e,shB]
 |GQ p q x=>
  obtain⟨hpq,hp,hq,x1,x2,x3⟩:=hc
  have hx:Sz 4 x:=by
   refine⟨?_,by lia⟩
   show x.num.natAbs<16
   lia
  obtain⟨S',e,sm⟩:=Vf (S:=S) (p:=p) (q:=q) hs hx (by lia) (by lia) (by lia) hpq
  refine⟨S',?_,sm⟩
  simp only[AO.d]at e⊢
  simp[AX,Az,e,shB]
 |Dd p kd n=>exact⟨S,by simp[AX,Az,AO.d,shB],.refl⟩
 |Hr i j=>exact⟨S,by simp[AX,Az,AO.d,shB],.refl⟩
 |swap i g kd n=>exact⟨S,by simp[AX,Az,AO.d,shB],.refl⟩
 |Cn u i g kd n=>exact⟨S,by simp[AX,Az,AO.d,shB],.refl⟩
 |Dr i n=>exact⟨S,by simp[AX,Az,AO.d,shB],.refl⟩
def UW{d:AO}:(step t st d).hold=shB t st d st.hold:=by cases d<;>rfl
def J8{i:Nat}{n:Int}{ls:Wp Ld}(hi:i<ls.length){β:Type}(f:Wp Rat->β):(less ls i n).map (λx=>f x.ow)=ls.map λx=>f x.ow:=by
 rw[QV,wD]
 have:(ls.map λx=>f x.ow)[i]?=Gc (f (AL ls i).ow):=by rw[rY,Eh hi];rfl
 apply yU
 intro j
 by_cases e:i=j
 .subst e;rw[rF (by simpa using hi),this]
 .rw[rA e]
@[simp] def oC{ls:List Ld}:sqD S (Ko ls)=some (ls.map λx=>shD x.ow,[]):=nr rfl
def TN{d:AO}(ht:G5 t)(h:Ee t k st)(hk:k<=17)(hc:Can t st d):∃S',Ah [t.d,BA st.AA,Ko st.AA,d.d] S=Gc (Ko (step t st d).AA,S')/\Ba [] S S':=by
 have hlen:=h.len
 have sz:=h.sz
 have tp:=ht.2.1
 obtain⟨S',e,sm⟩:=O8 (gs:=[]) (t:=tNm 4) (f:=AD AX [eV 0,eV 1,eV 2,eV 3,eV 4]) (C:=[Gc t.d,Gc (BA st.AA),Gc (Ko st.AA),Gc d.d]) (m:=1) (e:=λx:Ld=>shD x.ow) (g:=λx=>shD (shB t st d x.ow)) (λ_=>Ad) (xs:=st.AA) (acc:=[]) (os:=[none]) (S:=S) rfl (q8 (show _<=50 by simp;lia) (AK (by decide))) (by
  intro x hx os S0 ho
  obtain⟨q1,rfl⟩:=Pd ho
  obtain⟨S1,e1,s1⟩:=PQ (S:=S0) (d:=d) (ss:=x.ow) ht h hk hc (sz.1 x hx) (h.own x hx)
  refine⟨[Gc (shD x.ow)],S1,rfl,by simp,?_,s1⟩
  simp[e1])
 simp only[sQ,r9]at e
 refine⟨S',?_,sm⟩
 have hz:(st.AA.map λx=>shD (shB t st d x.ow)).length+1<=sizeLine:=q8 (show _<=100 by simp;lia) (AK (by decide))
 cases d with
 |Dd p kd n=>
  have a1:=NX (S:=S') (P:=t.p) (p:=p) (by lia)
  have ef:Ko (step t st (.Dd p kd n)).AA=.lst ((st.AA.map λx=>shD (shB t st (.Dd p kd n) x.ow))++[shD (Qf t.p p)]):=by simp[Ko,step,shB]
  rw[ef]
  generalize (st.AA.map λx=>shD (shB t st (.Dd p kd n) x.ow))=A at*
  simp only[AO.d,Tr.d]at e⊢
  simp[Ah,A9,e,a1,hz]
 |Hr i j=>
  have a1:=U3 (S:=S') ht h hk hc
  obtain⟨hij,hi,hj,h1,h2,h3⟩:=hc
  have e0:AL (less st.AA i (AL st.AA i).n) j=AL st.AA j:=by
   unfold AL less
   rw[rX,rA hij,<-rX]
  have ef:Ko (step t st (.Hr i j)).AA=.lst ((st.AA.map λx=>shD (shB t st (.Hr i j) x.ow))++[shD (By (AL st.AA i).n (AL st.AA j).n (AL st.AA i).ow (AL st.AA j).ow)]):=by
   show D.lst ((less (less st.AA i (AL st.AA i).n) j (AL st.AA j).n++[_]).map λx:Ld=>shD x.ow)=_
   rw[vm,J8 (by rw[DB];exact hj),J8 hi]
   rfl
  rw[ef]
  generalize (st.AA.map λx=>shD (shB t st (.Hr i j) x.ow))=A at*
  simp only[AO.d]at e a1⊢
  simp[Ah,A9,e,a1,hz]
 |swap i g kd n=>
  have hi:=hc.1
  have a1:=V4 (S:=S') (st:=st) (i:=i) (kd:=kd) (g:=g) (n:=n) hi
  have ef:Ko (step t st (.swap i g kd n)).AA=.lst ((st.AA.map λx=>shD (shB t st (.swap i g kd n) x.ow))++[shD (AL st.AA i).ow]):=by
   show D.lst ((less st.AA i g++[_]).map λx:Ld=>shD x.ow)=_
   rw[vm,J8 hi]
   rfl
  rw[ef]
  generalize (st.AA.map λx=>shD (shB t st (.swap i g kd n) x.ow))=A at*
  simp only[AO.d]at e a1⊢
  simp[Ah,A9,e,a1,hz]
 |Cn u i g kd n=>
  have hi:=hc.1
  have a1:=Rj (S:=S') (st:=st) (i:=i) (kd:=kd) (u:=u) (g:=g) (n:=n) hi
  have ef:Ko (step t st (.Cn u i g kd n)).AA=.lst ((st.AA.map λx=>shD (shB t st (.Cn u i g kd n) x.ow))++[shD (AL st.AA i).ow]):=by
   show D.lst ((less st.AA i g++[_]).map λx:Ld=>shD x.ow)=_
   rw[vm,J8 hi]
   rfl
  rw[ef]
  generalize (st.AA.map λx=>shD (shB t st (.Cn u i g kd n) x.ow))=A at*
  simp only[AO.d]at e a1⊢
  simp[Ah,A9,e,a1,hz]
 |Dr i n=>
  have ef:Ko (step t st (.Dr i n)).AA=.lst (st.AA.map λx=>shD (shB t st (.Dr i n) x.ow)):=by
   show D.lst ((less st.AA i n).map λx:Ld=>shD x.ow)=_
   rw[J8 hc.1]
   rfl
  rw[ef]
  generalize (st.AA.map λx=>shD (shB t st (.Dr i n) x.ow))=A at*
  simp only[AO.d]at e⊢
  simp[Ah,A9,e]
 |thr i n ws=>
  have ef:Ko (step t st (.thr i n ws)).AA=.lst (st.AA.map λx=>shD (shB t st (.thr i n ws) x.ow)):=by
   show D.lst (((less st.AA i n).map _).map λx:Ld=>shD x.ow)=_
   rw[tJ]
   exact congrArg D.lst (J8 hc.1 (λo=>shD (GC (Ig t st.AA i n ws) (AL st.AA i).ow o)))
  rw[ef]
  generalize (st.AA.map λx=>shD (shB t st (.thr i n ws) x.ow))=A at*
  simp only[AO.d]at e⊢
  simp[Ah,A9,e]
 |GQ p q x=>
  have ef:Ko (step t st (.GQ p q x)).AA=.lst (st.AA.map λy=>shD (shB t st (.GQ p q x) y.ow)):=by
   show D.lst ((st.AA.map _).map λy:Ld=>shD y.ow)=_
   rw[tJ]
   rfl
  rw[ef]
  generalize (st.AA.map λy=>shD (shB t st (.GQ p q x) y.ow))=A at*
  simp only[AO.d]at e⊢
  simp[Ah,A9,e]
@[simp] def lA{ls:List Ld}:sqD S (BA ls)=some (ls.map hD,[]):=nr rfl
def Js{ls:Wp Ld}{x y:D}(hl:ls.length<=50):Bg [.tup [x,.tup (ls.map Ld.d),y]] S=Gc (BA ls,S):=by
 have e:=Cj (gs:=[]) (t:=tNm 0) (f:=Bn [eOp (o2 wIx) [eV 0,eC (.int 0)],eOp (o2 wIx) [eV 0,eC (.int 1)]]) (C:=[]) (m:=1) (e:=Ld.d) (g:=hD) (S:=S) Ad (xs:=ls) (acc:=[]) (os:=[none]) rfl (q8 (show _<=50 by simp;lia) (AK (by decide))) (by
  intro x hx os ho
  obtain⟨q1,rfl⟩:=Pd ho
  refine⟨[Gc x.d],rfl,by simp,?_⟩
  simp[Ld.d,hD])
 simp only[r9]at e
 simp[Bg,GI,e,BA]
def Va{ls:Wp Ld}(hl:ls.length<=50):Bl [] (tNm 0) BX (eOp (o2 wIx) [eV 0,eC (.int 2)]) (ls.map Ld.d) [] [none] S=Gc (ls.map λx=>shD x.ow,S):=
 Cj (gs:=[]) (t:=tNm 0) (f:=eOp (o2 wIx) [eV 0,eC (.int 2)]) (C:=[]) (m:=1) (e:=Ld.d) (g:=λx=>shD x.ow) (S:=S) Ad (xs:=ls) (acc:=[]) (os:=[none]) rfl (q8 (show _<=50 by simp;lia) (AK (by decide))) (by
  intro x hx os ho
  obtain⟨q1,rfl⟩:=Pd ho
  refine⟨[Gc x.d],rfl,by simp,?_⟩
  simp[Ld.d])
def Qj{ls:Wp Ld}{ds:Wp AO}{n:Nat}(h:Bo t ls ds)(hn:n<=ds.length):∃S',EI [AH t ls ds,.int n] S=Gc (.tup [BA (runs t (st0 t ls) (ds.take n)).AA,Ko (runs t (st0 t ls) (ds.take n)).AA,shD (runs t (st0 t ls) (ds.take n)).hold],S')/\Ba [] S S':=by
 have hl0:ls.length<=4:=h.four
 have ct:MO (ds.map AO.d) none (Gc (n:Int))=(ds.take n).map AO.d:=by rw[Jd (by simpa using hn),wQ]
 obtain⟨E',S',ef,i,o,f1,f2,rfl,f3⟩:=Jw (gs:=[]) (t:=tNm 8) (b:=AN (BN 7 (AD AX [eV 2,eV 5,eV 6,eV 8,eV 7]))
  (AN (BN 6 (AD Ah [eV 2,eV 5,eV 6,eV 8]))
  (BN 5 (AD Aa [eV 5,eV 8]))))
  (I:=λrs E S'=>∃(i:Nat) (o:qz D),rs=((ds.take n).drop i).map AO.d/\i<=n/\E=[Gc (AH t ls ds),Gc (.int n),Gc t.d,Gc (.tup (ls.map Ld.d)),Gc (.tup (ds.map AO.d)),Gc (BA (runs t (st0 t ls) (ds.take i)).AA),Gc (Ko (runs t (st0 t ls) (ds.take i)).AA),Gc (shD (runs t (st0 t ls) (ds.take i)).hold),o]/\Ba [] S S')
  (λ_ _ _ _=>Ad) (ds:=(ds.take n).map AO.d) (E:=[Gc (AH t ls ds),Gc (.int n),Gc t.d,Gc (.tup (ls.map Ld.d)),Gc (.tup (ds.map AO.d)),Gc (BA ls),Gc (Ko ls),Gc (shD t.ho),none]) (S:=S)
  ⟨0,none,by simp,uQ _,by simp[runs,st0],.refl⟩ (by
    rintro dd rs E T ⟨i,o,i1,i2,rfl,i3⟩
    have hlt:i<(ds.take n).length:=by
     rcases y0 i (ds.take n).length with w|w
     .exact w
     .rw[uz w]at i1;cases i1
    rw[tE hlt,rT]at i1
    injection i1 with z1 z2
    subst z1 z2
    have hlt':i<ds.length:=by simp at hlt;lia
    have hin:i<n:=by simp at hlt;lia
    have hg:(ds.take n)[i]=ds[i]:=List.getElem_take
    rw[hg]
    have inv:=h.at i
    have il0:(ds.take i).length<=16:=by have:=h.len;simp;lia
    have il:16<=16:=q9 _
    have can:=N2 h.good (rE hlt')
    obtain⟨T1,e1,s1⟩:=PQ (S:=T) h.tr inv (by lia) can inv.sz.2 inv.hold
    obtain⟨T2,e2,s2⟩:=TN (S:=T1) h.tr inv (by lia) can
    have e3:=LI (S:=T2) inv (by lia) can
    have rt:=LY (t:=t) (st:=st0 t ls) (rE hlt')
    refine⟨_,[Gc (AH t ls ds),Gc (.int n),Gc t.d,Gc (.tup (ls.map Ld.d)),Gc (.tup (ds.map AO.d)),Gc (BA (runs t (st0 t ls) (ds.take (i+1))).AA),Gc (Ko (runs t (st0 t ls) (ds.take (i+1))).AA),Gc (shD (runs t (st0 t ls) (ds.take (i+1))).hold),Gc ds[i].d],T2,by simp;rfl,?_,i+1,Gc ds[i].d,rfl,hin,rfl,(i3.trans s1).trans s2⟩
    rw[rt]
    rw[<-UW]at e1
    simp[e1,e2,e3])
 have hz:i=n:=by
  have:=congrArg yO f1
  simp at this
  lia
 subst hz
 refine⟨S',?_,f3⟩
 have fh:=Js (S:=S) (ls:=ls) (x:=t.d) (y:=.tup (ds.map AO.d)) (by lia)
 have fo:=Va (S:=S) (ls:=ls) (by lia)
 have fo':D.lst (ls.map λx=>shD x.ow)=Ko ls:=rfl
 have th:atI [D.int t.p,D.int t.k,D.int t.b,shD t.ho,D.int t.h,D.int t.l] 3=Gc (shD t.ho):=by simp
 simp only[AH]at ef⊢
 have td:wIx (.val t.d) (.val (.int 3))=Gc (.val (shD t.ho)):=by simp[Tr.d]
 have dt:dr S t.d=.val t.d:=rfl
 rw[wQ]at ef ct
 simp[EI,Kc,fh,fo,fo',-ZZ,td,dt,ct,ef]
def MS{ls:Wp Ld}{ds:Wp AO}(h:Bo t ls ds):Ds [AH t ls ds] S=Gc (.non,S):=by
 have hl0:ls.length<=4:=h.four
 have hd:=h.len
 obtain⟨E',S',ef,i,o1,o2,f1,f2,rfl,rfl⟩:=Jw (gs:=[]) (t:=tTp [tNm 3,tNm 4]) (b:=AN (xIf (GP (AD B3 [eV 1,eOp (MP false true) [eV 2,eV 3],eV 4])) (Ag (eV 3)) Bb)
  (BN 1 (AD Aa [eV 1,eV 4])))
  (I:=λrs E S'=>∃(i:Nat) (o1 o2:qz D),rs=(OF 0 (ds.map AO.d)).drop i/\i<=ds.length/\E=[Gc (AH t ls ds),Gc (BA (runs t (st0 t ls) (ds.take i)).AA),Gc (.tup (ds.map AO.d)),o1,o2]/\S'=S)
  (λ_ _ _ _=>Ad) (ds:=OF 0 (ds.map AO.d)) (E:=[Gc (AH t ls ds),Gc (BA ls),Gc (.tup (ds.map AO.d)),none,none]) (S:=S)
  ⟨0,none,none,by simp,uQ _,by simp[runs,st0],rfl⟩ (by
    rintro dd rs E T ⟨i,o1,o2,i1,i2,rfl,rfl⟩
    have el:(OF 0 (ds.map AO.d)).length=ds.length:=by rw[Oz];simp
    have hlt:i<ds.length:=by
     rcases y0 i ds.length with w|w
     .exact w
     .rw[uz (by lia)]at i1;cases i1
    rw[tE (by lia)]at i1
    injection i1 with z1 z2
    have hd1:dd=.tup [.int i,ds[i].d]:=by
     have:=LD (ds:=ds.map AO.d) (k:=0) (i:=i)
     rw[rE (by lia),<-z1,rY,rE hlt]at this
     simpa using this
    subst z2
    subst hd1
    have inv:=h.at i
    have il0:(ds.take i).length<=16:=by simp;lia
    have il:16<=16:=q9 _
    have can:=N2 h.good (rE hlt)
    have cd:=lW (S:=T) (st:=runs t (st0 t ls) (ds.take i)) (ds:=ds.take i) (d:=ds[i]) (by lia) Vr
    rw[(Yz can).2]at cd
    have e3:=LI (S:=T) inv (by lia) can
    have rt:=LY (t:=t) (st:=st0 t ls) (rE hlt)
    have ct:=Jd (ds:=ds.map AO.d) (n:=i) (by simp;lia)
    rw[wQ]at cd
    refine⟨_,[Gc (AH t ls ds),Gc (BA (runs t (st0 t ls) (ds.take (i+1))).AA),Gc (.tup (ds.map AO.d)),Gc (.int i),Gc ds[i].d],T,by simp;rfl,?_,i+1,Gc (.int i),Gc ds[i].d,rfl,hlt,rfl,rfl⟩
    rw[rt]
    simp[ct,cd,e3])
 have fh:=Js (S:=S') (ls:=ls) (x:=t.d) (y:=.tup (ds.map AO.d)) (by lia)
 simp only[AH]at ef⊢
 simp[Ds,Hk,fh,ef]
def JG{ls:Wp Ld}{ds:Wp AO}(h:Bo t ls ds):Ai [AH t ls ds] S=Gc (.non,S):=by
 have e:=MS (S:=S) h
 simp[Ai,F7,e,isN]
end
theorem lM:∀{ds},(∀d∈ds,d.py.depth<=n)->zE (D.pys ds)<=n
 | [],_=>by simp[D.pys,zE]
 |d::ds,h=>by
  have h1:=h d rM
  have h2:=lM λe he=>h e (rC _ he)
  simp only[D.pys,zE]
  lia
def k6(h:∀d∈ds,d.py.depth<=n):(D.lst ds).py.depth<=n+1:=by
 have:=lM h
 simp only[D.py,y2]
 lia
def Je(h:∀d∈ds,d.py.depth<=n):(D.tup ds).py.depth<=n+1:=by
 have:=lM h
 simp only[D.py,y2]
 lia
def HF:(D.int i).py.depth<=n+1:=by
 simp only[D.py,y2]
 lia
def oE:(aD r).py.depth<=2:=Je (n:=1) (by
 intro d hd
 simp only[qy,rJ,sU]at hd
 rcases hd with rfl|rfl<;>exact HF)
def mU:(shD rs).py.depth<=3:=Je (n:=2) (by
 intro d hd
 obtain⟨r,_,rfl⟩:=sE.mp hd
 exact oE)
def mr{x:Ld}:x.d.py.depth<=4:=Je (n:=3) (by
 intro d hd
 simp only[qy,rJ,sU]at hd
 rcases hd with rfl|rfl|rfl
 .exact HF
 .exact HF
 .exact mU)
theorem gw:(aD r).lay=true:=rfl
def Ys:(shD rs).lay=true:=GX λ_ _=>gw
def gX{x:Ld}:x.d.lay=true:=by
 show(true && (true && ((shD x.ow).lay && true)))=true
 rw[Ys];rfl
def JH(h:d.lay=true)(g:d.py.depth<=60):Kr d d=true:=by
 unfold Kr
 rw[h]
 simp only[Bool.true_and,uG]
 lia
def JY(h:d.lay=true):deq d d=true:=PySem.SeqAt.eqv_refl _ (J7 h)
def aY{k:Nat}:∃c,CC [.scr ns,.int k] S=Gc (.int c,S):=by
 by_cases h:k<ns.length
 .have h':(k:Int)<ns.length:=by lia
  refine⟨ns[k],?_⟩
  have e:atI (ns.map D.int) (k:Int)=Gc (.int ns[k]):=CW (by rw[rY,rE h];rfl)
  simp[CC,Gv,h,h',e]
 .have h':¬(k:Int)<ns.length:=by lia
  exact⟨0,by simp[CC,Gv,h,h']⟩
def Ok.add(h:Ok G B r)(g:Ok G C q):Ok G (B+C) (r+q):=by
 obtain⟨z,e1,h1⟩:=h
 obtain⟨y,e2,h2⟩:=g
 refine⟨z+y,?_,Nat.add_le_add h1 h2⟩
 push_cast
 rw[<-e1,<-e2]
 grind
def Ok.mono(h:Ok G B r)(g:B<=C):Ok G C r:=by
 obtain⟨z,e,hz⟩:=h
 exact⟨z,e,q8 hz g⟩
def Ok.om{G B N:Nat}{n:Int}(h:Ok G B r)(h0:0<=n)(h1:n<=N):Ok G (B*N) ((n:Rat)*r):=by
 obtain⟨z,e,hz⟩:=h
 refine⟨z*n.toNat,?_,vG hz (by lia)⟩
 push_cast
 rw[Ez h0,<-e]
 grind
theorem Na{F:Fn}(hF:∀{j k} {p q} S,Sz j p->Sz k q->j+k<=7990->F [aD p,aD q] S=Gc (aD (p+q),S)){gs:Gd}{S:Sto}(hg:gOk gs S){X:qz D}{G B K:Nat}(hG:0<G)(gK:G<2^K)(hK:2*K<=7990):∀{rs:Wp Rat} {acc} {m} {o},Ok G (m*B) acc->(∀r∈rs,Ok G B r)->(m+rs.length)*B<2^K->∃o',Kv gs (tNm 2) (BN 1 (AD F [eV 1,eV 2])) (rs.map aD) [X,Gc (aD acc),o] S=Gc (.nx,[X,Gc (aD (acc+rs.sum)),o'],S)
 | [],acc,m,o,ha,hr,hb=>⟨o,by
     rw[tP,Fi hg,List.sum_nil]
     have:acc+0=acc:=by grind
     rw[this]⟩
 |r::rs,acc,m,o,ha,hr,hb=>by
  have h1:=hr r rM
  have b1:(m+1)*B<=(m+(r::rs).length)*B:=sO _ (by simp)
  have mb:(m+1)*B=m*B+B:=by rw[Nat.succ_mul]
  have za:Sz K acc:=ha.sz hG gK (by lia)
  have zr:Sz K r:=h1.sz hG gK (by lia)
  have e:=hF S za zr (by lia)
  have ha2:Ok G ((m+1)*B) (acc+r):=by rw[mb];exact ha.add h1
  obtain⟨o',ih⟩:=Na hF hg hG gK hK (X:=X) (B:=B) (rs:=rs) (acc:=acc+r) (m:=m+1) (o:=Gc (aD r)) ha2 (λq hq=>hr q (rC _ hq)) (by
   have:m+1+rs.length=m+(r::rs).length:=by simp;lia
   rw[this];exact hb)
  refine⟨o',?_⟩
  have ea:acc+(r::rs).sum=acc+r+rs.sum:=by rw[sJ];grind
  rw[rT,DR hg,ea,<-ih]
  simp[e]
theorem V3:aD 0=.tup [.int 0,.int 1]:=rfl
section
variable{S:Sto}
def W2{rs:Wp Rat}{G B K:Nat}(hG:0<G)(gK:G<2^K)(hK:2*K<=7990)(hr:∀r∈rs,Ok G B r)(hb:rs.length*B<2^K):C1 [.lst (rs.map aD)] S=Gc (aD rs.sum,S):=by
 obtain⟨o',e⟩:=Na (F:=Fh) (λS h1 h2 h3=>bV h1 h2 h3) (gs:=[]) (S:=S) Ad (X:=Gc (.lst (rs.map aD))) (B:=B) hG gK hK (rs:=rs) (acc:=0) (m:=0) (o:=none) (by rw[Nat.zero_mul];exact Ok.zero) hr (by simpa using hb)
 have ez:(0:Rat)+rs.sum=rs.sum:=by grind
 rw[ez,V3]at e
 simp[C1,Lp,FL,e]
end
def MW(ls:Wp Ld):Prop:=∀l∈ls,l.ow.sum=1
theorem N4{a b:Rat}:∀{ss os:Wp Rat},ss.length=os.length->(xE (λs o=>s*a+o*b) ss os).sum=ss.sum*a+os.sum*b
 | [],[],_=>by simp;grind
 |s::ss,o::os,h=>by
  rw[yy,sJ,sJ,sJ,N4 (by simpa using h)]
  grind
def Oq{x:Rat}{os ss:Wp Rat}(h:ss.length=os.length)(h1:ss.sum=1)(h2:os.sum=1):(GC x os ss).sum=1:=by
 unfold GC
 rw[N4 h,h1,h2]
 grind
def Rt{n m:Int}{ss os:Wp Rat}(h:ss.length=os.length)(h1:ss.sum=1)(h2:os.sum=1)(h0:0<n+m):(By n m ss os).sum=1:=by
 have hc:((n+m:Int):Rat)≠0:=by
  intro z
  have:=ur.mp z
  lia
 have e:(λ(s o:Rat)=>(s*n+o*m) / ((n+m:Int):Rat))=λs o=>s*((n:Rat) / ((n+m:Int):Rat))+o*((m:Rat) / ((n+m:Int):Rat)):=by
  funext s o
  grind
 unfold By
 rw[e,N4 h,h1,h2]
 push_cast at hc⊢
 grind
theorem QF{v:Rat}:∀{l:Wp Rat} {i:Nat},i<l.length->(l.set i v).sum=l.sum-l.getD i 0+v
 |a::l,0,_=>by
  rw[AAM,sJ,sJ]
  simp
  grind
 |a::l,i+1,h=>by
  rw[List.set_cons_succ,sJ,sJ,QF (by simpa using h)]
  simp
  grind
def Qn{p q:Nat}{x:Rat}{ss:Wp Rat}(hpq:p≠q)(hp:p<ss.length)(hq:q<ss.length):(FP p q x ss).sum=ss.sum:=by
 unfold FP
 rw[QF (by simpa using hq),QF hp]
 have:(ss.set p (ss.getD p 0-ss.getD p 0*x)).getD q 0=ss.getD q 0:=by
  rw[rX,rA hpq,<-rX]
 rw[this]
 grind
theorem VP{i:Nat}:∀{n:Nat},(Qf n i).sum=if i<n then 1 else 0
 |0=>by simp[Qf]
 |n+1=>by
  have ih:=VP (i:=i) (n:=n)
  unfold Qf at ih⊢
  rw[List.range_succ,vm,List.sum_append,ih]
  by_cases h:n=i
  .subst h;simp;grind
  .have:i<n+1↔i<n:=by lia
   simp[h,this]
   grind
section
variable{t:Tr}{k:Nat}{st:Stt}{d:AO}
def GL{ls:Wp Ld}(h:MW ls){l:Nat}{n:Int}(hl:l<ls.length):MW (less ls l n):=λx hx=>by
 rcases JU hx hl with hx|rfl
 .exact h x hx
 .exact(h (AL ls l) (AU hl):)
def JO{ls:Wp Ld}(h:MW ls){y:Ld}(hy:y.ow.sum=1):MW (ls++[y]):=λx hx=>by
 rcases rf.mp hx with hx|hx
 .exact h x hx
 .rw[sF.mp hx];exact hy
def OU(h:Ee t k st)(hc:Can t st d)(ho:MW st.AA):MW (step t st d).AA:=by
 cases d with
 |Dd p kd n=>
  refine JO ho ?_
  rw[VP,sD hc.1]
 |Hr i j=>
  obtain⟨hij,hi,hj,h1,h2,h3⟩:=hc
  refine JO (GL (GL ho hi) (by rw[DB];exact hj)) ?_
  exact Rt (by rw[h.own _ (AU hi),h.own _ (AU hj)]) (ho _ (AU hi)) (ho _ (AU hj)) (by lia)
 |swap i g kd n=>exact JO (GL ho hc.1) (ho (AL st.AA i) (AU hc.1):)
 |Cn u i g kd n=>exact JO (GL ho hc.1) (ho (AL st.AA i) (AU hc.1):)
 |Dr i n=>exact GL ho hc.1
 |thr i n ws=>
  intro x hx
  obtain⟨y,hy,rfl⟩:=sE.mp hx
  have hl:=hc.1
  have ly:y.ow.length=t.p:=by
   rcases JU hy hl with hy|rfl
   .exact h.own y hy
   .exact(h.own (AL st.AA i) (AU hl):)
  exact Oq (by rw[ly,h.own _ (AU hl)]) (GL ho hl y hy) (ho _ (AU hl))
 |GQ p q x=>
  intro y hy
  obtain⟨z,hz,rfl⟩:=sE.mp hy
  obtain⟨h1,h2,h3,_⟩:=hc
  have:=h.own z hz
  show(FP p q x z.ow).sum=1
  rw[Qn h1 (by lia) (by lia)]
  exact ho z hz
def Us(h:Ee t k st)(hc:Can t st d)(ho:MW st.AA)(hh:st.hold.sum=1):(step t st d).hold.sum=1:=by
 cases d with
 |thr i n ws=>exact Oq (by rw[h.hold,h.own _ (AU hc.1)]) hh (ho _ (AU hc.1))
 |GQ p q x=>
  obtain⟨h1,h2,h3,_⟩:=hc
  show(FP p q x st.hold).sum=1
  rw[Qn h1 (by rw[h.hold];exact h2) (by rw[h.hold];exact h3)]
  exact hh
 |_=>exact hh
theorem Pc(ht:G5 t):∀{ds:Wp AO} {st:Stt} {k:Nat},Ee t k st->KJ t st ds->k+ds.length<=17->MW st.AA->st.hold.sum=1->(runs t st ds).hold.sum=1
 | [],st,k,h,_,_,o,e=>e
 |d::ds,st,k,h,g,hl,o,e=>Pc ht (ds:=ds) (K2 ht h (by simp at hl;lia) g.1) g.2 (by simp at hl;lia) (OU h g.1 o) (Us h g.1 o e)
def Bo.ff{ls:Wp Ld}{ds:Wp AO}(h:Bo t ls ds)(ho:MW ls)(hh:t.ho.sum=1)(n:Nat):(runs t (st0 t ls) (ds.take n)).hold.sum=1:=by
 obtain⟨k,hk,z⟩:=h.lev
 exact Pc h.tr z (Hx h.good) (by simp;lia) ho hh
theorem O7(ht:G5 t):∀{ds:Wp AO} {st:Stt} {k:Nat},Ee t k st->KJ t st ds->k+ds.length<=17->MW st.AA->MW (runs t st ds).AA
 | [],st,k,h,_,_,o=>o
 |d::ds,st,k,h,g,hl,o=>O7 ht (ds:=ds) (K2 ht h (by simp at hl;lia) g.1) g.2 (by simp at hl;lia) (OU h g.1 o)
def Bo.ones{ls:Wp Ld}{ds:Wp AO}(h:Bo t ls ds)(ho:MW ls)(n:Nat):MW (runs t (st0 t ls) (ds.take n)).AA:=by
 obtain⟨k,hk,z⟩:=h.lev
 exact O7 h.tr z (Hx h.good) (by simp;lia) ho
end
section
variable{S:Sto}{t:Tr}{ls L:Wp Ld}{ds:Wp AO}{n p i q:Nat}{x:Rat}
def SM(h:Bo t ls ds)(hn:n<=ds.length):FF [AH t ls ds,.int n] S=Gc (BA (runs t (st0 t ls) (ds.take n)).AA,S):=by
 have hl0:ls.length<=4:=h.four
 have hd:=h.len
 have ct:=Jd (ds:=ds.map AO.d) (n:=n) (by simp;lia)
 obtain⟨E',S',ef,i,o,f1,f2,rfl,rfl⟩:=Jw (gs:=[]) (t:=tNm 3) (b:=BN 2 (AD Aa [eV 2,eV 3]))
  (I:=λrs E S'=>∃(i:Nat) (o:qz D),rs=((ds.take n).drop i).map AO.d/\i<=n/\E=[Gc (AH t ls ds),Gc (.int n),Gc (BA (runs t (st0 t ls) (ds.take i)).AA),o]/\S'=S)
  (λ_ _ _ _=>Ad) (ds:=(ds.take n).map AO.d) (E:=[Gc (AH t ls ds),Gc (.int n),Gc (BA ls),none]) (S:=S)
  ⟨0,none,by simp,uQ _,by simp[runs,st0],rfl⟩ (by
    rintro dd rs E T ⟨i,o,i1,i2,rfl,rfl⟩
    have hlt:i<(ds.take n).length:=by
     rcases y0 i (ds.take n).length with w|w
     .exact w
     .rw[uz w]at i1;cases i1
    rw[tE hlt,rT]at i1
    injection i1 with z1 z2
    subst z1 z2
    have hlt':i<ds.length:=by simp at hlt;lia
    have hin:i<n:=by simp at hlt;lia
    have hg:(ds.take n)[i]=ds[i]:=List.getElem_take
    rw[hg]
    have can:=N2 h.good (rE hlt')
    have il0:(ds.take i).length<=16:=by simp;lia
    have il:16<=16:=q9 _
    have e3:=LI (S:=T) (h.at i) (by lia) can
    have rt:=LY (t:=t) (st:=st0 t ls) (rE hlt')
    refine⟨_,[Gc (AH t ls ds),Gc (.int n),Gc (BA (runs t (st0 t ls) (ds.take (i+1))).AA),Gc ds[i].d],T,by simp;rfl,?_,i+1,Gc ds[i].d,rfl,hin,rfl,rfl⟩
    rw[rt]
    simp[e3])
 have hz:i=n:=by
  have:=congrArg yO f1
  simp at this
  lia
 subst hz
 have fh:=Js (S:=S') (ls:=ls) (x:=t.d) (y:=.tup (ds.map AO.d)) (by lia)
 simp only[AH]at ef⊢
 rw[wQ]at ef
 simp[FF,MB,fh,ct,ef]
end
theorem T9{α:Type}{t:Tf}{b:Ex}{C:En}{m q:Nat}{e h:α->D}:∀{xs:Wp α} {acc:Wp D} {os:En} {S:Sto},os.length=m->S[q]?=Gc (.lst acc)->acc.length+xs.length<=1000->(∀x∈xs,∀os S acc,os.length=m->S[q]?=Gc (.lst acc)->acc.length<sizeLine->∃us us' S',t (e x) (C++os) S=Gc (C++us)/\b (C++us) S=Gc (.nx,C++us',S'.set q (.lst (acc++[h x])))/\us'.length=m/\Ba [] S S')->∃os' S',os'.length=m/\Kv [] t b (xs.map e) (C++os) S=Gc (.nx,C++os',S')/\S'[q]?=Gc (.lst (acc++xs.map h))/\Ba [q] S S'
 | [],acc,os,S,ho,hq,hz,H=>⟨os,S,ho,by rw[tP,Fi Ad],by simpa using hq,.refl⟩
 |x::xs,acc,os,S,ho,hq,hz,H=>by
  obtain⟨us,us',S1,e1,e2,hu,sm⟩:=H x rM os S acc ho hq (qw (show acc.length<1001 by simp at hz;lia) (by decide))
  have q1:=sm.get hq (by simp)
  obtain⟨os',S2,ho',e3,q2,s2⟩:=T9 (t:=t) (b:=b) (C:=C) (e:=e) (h:=h) (xs:=xs) (acc:=acc++[h x]) (os:=us') (S:=S1.set q (.lst (acc++[h x]))) hu (rF (AQ q1)) (by simp at hz ⊢; lia) λx' hx=>H x' (rC _ hx)
  refine⟨os',S2,ho',?_,by simpa using q2,((sm.mono λ_ z=>(nomatch z)).trans (.set (by simp))).trans s2⟩
  rw[rT,DR Ad,e1,Ay,e2,Ay,P1,e3]
noncomputable def NK(t:Tr)(st:Stt)(x:Ld):Wp Rat:=Pl (10-t.h) t.h x.ow st.hold
noncomputable def JD(t:Tr)(st:Stt)(x:Ld):Wp Rat:=(NK t st x).map λr=>(x.n:Rat)*r
def HOk(t:Tr):Prop:=0<=t.h/\t.h<=9/\0<=t.l/\t.l<=9
def Qi{t:Tr}(hh:HOk t){st:Stt}{x:Ld}{G B:Nat}(h1:∀r∈x.ow,Ok G B r)(h2:∀r∈st.hold,Ok G B r):∀r∈NK t st x,Ok (G*10) (B*10) r:=by
 intro r hr
 unfold NK Pl at hr
 rw[uY]at hr
 obtain⟨i,hi'⟩:=hr
 rw[ve]at hi'
 obtain⟨s,o,hs,ho,rfl⟩:=hi'
 obtain⟨a1,a2,_,_⟩:=hh
 have:=Ok.mix (a:=(10-t.h).toNat) (b:=t.h.toNat) (t:=10) (h1 s (rV hs)) (h2 o (rV ho)) (by lia) (by decide)
 rw[Ez (by lia),Ez (by lia)]at this
 have e:(((10-t.h:Int):Rat)+(t.h:Rat))=((10:Nat):Rat):=by push_cast;grind
 rw[e]
 exact this
def Y6{t:Tr}(hh:HOk t){st:Stt}{x:Ld}{G B N:Nat}(h1:∀r∈x.ow,Ok G B r)(h2:∀r∈st.hold,Ok G B r)(n0:0<=x.n)(n1:x.n<=N):∀r∈JD t st x,Ok (G*10) (B*10*N) r:=by
 intro r hr
 obtain⟨y,hy,rfl⟩:=sE.mp hr
 exact(Qi hh h1 h2 y hy).om n0 n1
section
variable{S:Sto}{t:Tr}{ls:Wp Ld}{ds:Wp AO}
def Bo.fin(h:Bo t ls ds):Ee t 16 (runs t (st0 t ls) ds):=by
 have:=h.at ds.length
 rwa [vc]at this
def QD(h:Bo t ls ds)(hh:HOk t):∃q S',EN [AH t ls ds] S=Gc (.ref q,S')/\S'[q]?=Gc (.lst ((runs t (st0 t ls) ds).AA.map λx=>shD (JD t (runs t (st0 t ls) ds) x)))/\Ba [] S S'/\S.length<=q:=by
 obtain⟨S1,e1,s1⟩:=Qj (S:=S) h (n:=ds.length) (q9 _)
 rw[vc]at e1
 have inv:=h.fin
 have hlen:=inv.len
 have sz:=inv.sz
 have tp:=h.tr.2.1
 obtain⟨G,B,g0,gb,bb,k1,k2⟩:=inv.gb
 generalize runs t (st0 t ls) ds=st at*
 have hq:(S1++[Cl.lst []])[S1.length]?=Gc (.lst []):=rZ
 have ez:K4 (st.AA.map hD) (st.AA.map λx=>shD x.ow)=st.AA.map λx=>.tup [hD x,shD x.ow]:=by
  unfold K4
  rw[List.zip_map',tJ]
  rfl
 have hh':=hh
 obtain⟨a1,a2,_,_⟩:=hh
 obtain⟨os',S2,ho',e2,q2,s2⟩:=T9 (t:=tTp [tTp [tNm 7,tNm 8],tNm 6]) (b:=AN (BN 9 (AD BV [eV 6,eOp (o2 OO) [eC (.int 10),eV 1],eV 4,eV 1]))
  (BP (HG J4 (eV 5) [eOp (o1 DO) [B8 [8] 1 (GO (eV 9)) (tNm 1) BX (AD CL [Bn [eV 0,eC (.int 1)],eV 1])]]))) (C:=[Gc (AH t ls ds),Gc (.int t.h),Gc (BA st.AA),Gc (Ko st.AA),Gc (shD st.hold),Gc (.ref S1.length)]) (m:=4) (q:=S1.length) (e:=λx:Ld=>D.tup [hD x,shD x.ow]) (h:=λx=>shD (JD t st x)) (xs:=st.AA) (acc:=[]) (os:=[none,none,none,none]) (S:=S1++[Cl.lst []]) rfl hq (by simp;lia) (by
    intro x hx os S0 acc ho hq0 hz
    obtain⟨o1,o2,o3,o4,rfl⟩:∃o1 o2 o3 o4,os=[o1,o2,o3,o4]:=by
     match os,ho with
     | [a,b,c,d],_=>exact⟨a,b,c,d,rfl⟩
    have px:=inv.pcs x hx
    have hw:(10-t.h).natAbs<2^4:=by show _<16;lia
    have hm:t.h.natAbs<2^4:=by show _<16;lia
    have ms:=Dl (S:=S0) (w:=10-t.h) (m:=t.h) (j:=30+170*16) (n:=4) (sz.1 x hx) sz.2 hw hm (by lia) (by decide) (by rw[inv.own x hx];lia)
    have zp:∀r∈Pl (10-t.h) t.h x.ow st.hold,Sz (30+170*16+4) r:=λr hr=>(Qi hh' (k1 x hx) k2 r hr).sz (v7 g0 (by decide)) (by
     have:=Bm (sC gb bb) (show 10<2^4 by decide)
     exact this) (Bm bb (show 10<2^4 by decide))
    have cz:=Cj (gs:=[]) (t:=tNm 1) (f:=AD CL [Bn [eV 0,eC (.int 1)],eV 1]) (C:=[Gc (.int x.n)]) (m:=1) (e:=aD) (g:=λr=>aD ((x.n:Rat)*r)) (S:=S0) Ad (xs:=Pl (10-t.h) t.h x.ow st.hold) (acc:=[]) (os:=[none]) rfl (q8 (show _<=50 by rw[wV,Nat.zero_add,Pl,E5 (inv.own x hx) inv.hold];lia) (AK (by decide))) (by
     intro r hr os ho
     obtain⟨o,rfl⟩:∃o,os=[o]:=by
      match os,ho with
      | [a],_=>exact⟨a,rfl⟩
     have l:=US (S:=S0) (PK (FT px.1 px.2) (by decide)) (zp r hr) (by decide)
     rw[Vk]at l
     refine⟨[Gc (aD r)],rfl,by simp,?_⟩
     simp[l])
    have ed:(Pl (10-t.h) t.h x.ow st.hold).map (λr=>aD ((x.n:Rat)*r))=(JD t st x).map aD:=by
     unfold JD NK
     rw[tJ];rfl
    rw[ed]at cz
    simp only[sQ,r9]at cz
    refine⟨[Gc (shD x.ow),Gc (.int x.k),Gc (.int x.n),o4],[Gc (shD x.ow),Gc (.int x.k),Gc (.int x.n),Gc (shD (Pl (10-t.h) t.h x.ow st.hold))],S0,by simp,?_,rfl,.refl⟩
    simp[ms,AJ hq0,cz,LQ,hz])
 refine⟨S1.length,S2,?_,by simpa using q2,?_,s1.len⟩
 .rw[<-ez]at e2
  simp only[sQ,r9]at e2
  simp only[AH]at e1 e2⊢
  have tdd:wIx (.val t.d) (.val (.int 4))=Gc (.val (.int t.h)):=by simp[Tr.d]
  have dt:∀T:Sto,dr T t.d=.val t.d:=λ_=>rfl
  have c4:atI [D.int (t.p:Int),D.int (t.k:Int),D.int (t.b:Int),shD t.ho,D.int t.h,D.int t.l] 4=Gc (.int t.h):=by simp
  have ast:asS (.val t.d)=Gc [D.int (t.p:Int),D.int (t.k:Int),D.int (t.b:Int),shD t.ho,D.int t.h,D.int t.l]:=rfl
  simp[EN,KY,dt,ast,e1,e2]
 .refine⟨q8 s1.len (q8 (by simp) s2.len),λn hn _=>?_⟩
  have l1:=s1.len
  rw[s2.keep n (by simp;lia) (by simp;lia),qv (by lia)]
  exact s1.keep n hn (by simp)
end
section
variable{S:Sto}{p:Nat}
def Vp(h:Dx p S):∃t S',Gm [.ref p] S=Gc (Tr.d t,S')/\Pn p S S'/\G5 t/\(t.ho.length=t.p/\t.ho.sum=1)/\HOk t/\∃G:Nat,0<G/\G<=32/\∀r∈t.ho,Ok G G r:=by
 obtain⟨r1,S1,e1,a1,b1,p1⟩:=Ao h (n:=4) (by decide) (by decide)
 obtain⟨r2,S2,e2,a2,b2,p2⟩:=Ao p1.pen (n:=5) (by decide) (by decide)
 obtain⟨r3,S3,e3,a3,b3,p3⟩:=Ao p2.pen (n:=3) (by decide) (by decide)
 obtain⟨r4,S4,e4,a4,b4,p4⟩:=Ao p3.pen (n:=20) (by decide) (by decide)
 obtain⟨r5,S5,e5,a5,b5,p5⟩:=Ao p4.pen (n:=2) (by decide) (by decide)
 obtain⟨m1,rfl⟩:=Ho a1
 obtain⟨m2,rfl⟩:=Ho a2
 obtain⟨b,eb,hb1,hb2⟩:∃b:Nat,atI [D.int (1+r3),.int (1+r4)] r5=Gc (.int b)/\1<=b/\b<=20:=by
  obtain⟨x,ex,hx⟩:=pick (xs:=[D.int (1+r3),.int (1+r4)]) (r:=r5) a5 (by simpa using b5)
  obtain⟨m3,rfl⟩:=Ho a3
  obtain⟨m4,rfl⟩:=Ho a4
  simp only[qy,rJ,sU]at hx
  rcases hx with rfl|rfl
  .exact⟨1+m3,by rw[ex];simp,by lia,by lia⟩
  .exact⟨1+m4,by rw[ex];simp,by lia,by lia⟩
 obtain⟨rs,S6,e6,p6,l6,G,g0,g1,g2⟩:=Q5 p5.pen (n:=1+m1) (by lia) (by lia)
 obtain⟨r7,S7,e7,a7,b7,p7⟩:=Ao p6.pen (n:=10) (by decide) (by decide)
 obtain⟨r8,S8,e8,a8,b8,p8⟩:=Ao p7.pen (n:=10) (by decide) (by decide)
 rw[show((1+m1:Nat):Int)=1+(m1:Int) by lia]at e6
 refine⟨⟨1+m1,1+m2,b,rs,r7,r8⟩,S8,?_,((((((p1.trans p2).trans p3).trans p4).trans p5).trans p6).trans p7).trans p8,⟨by simp,by simp;lia,by simp,by simp;lia,hb1,hb2⟩,l6,⟨a7,by show r7<=9;lia,a8,by show r8<=9;lia⟩,G,g0,g1,g2⟩
 simp[Gm,Ly,e1,e2,e3,e4,e5,eb,e6,e7,e8,Tr.d]
structure Wk(t:Tr)(ls:Wp Ld)(ds:Wp AO)(n j:Nat):Prop where
 bk:Bo t ls ds
 hh:HOk t
 ho:MW ls/\t.ho.sum=1
 lv:∃m G B,m+ds.length<=n/\0<G/\G<=B/\B<2^(26+161*m+7*j)/\(∀x∈ls,∀r∈x.ow,Ok G B r)/\∀r∈t.ho,Ok G B r
def SS{t:Tr}{ls:Wp Ld}(h:FA t ls)(hl:ls.length<=4){g:Nat}(g0:0<g)(g1:g<=32)(g2:∀r∈t.ho,Ok g g r):∃G,0<G/\G<2^26/\(∀x∈ls,∀r∈x.ow,Ok G G r)/\∀r∈t.ho,Ok G G r:=by
 obtain⟨ha,G,G0,G1,G2⟩:=h
 have hG:G<=32^4:=q8 G1 (sT (by decide) hl)
 have hB:G*g<2^26:=by
  have:=vG hG g1
  lia
 refine⟨G*g,v7 G0 g0,hB,λx hx r hr=>(G2 x hx r hr).up (q9 _),λr hr=>?_⟩
 have:=(g2 r hr).up (t:=G) (B':=G*g) (by rw[ui];exact q9 _)
 rwa [ui g G]at this
end
noncomputable def flI(r:Rat):Int:=r.num / (r.den:Int)
def Lk{i:Int}:flI (i:Rat)=i:=by
 show(i:Rat).num / (((i:Rat).den:Nat):Int)=i
 simp
def UR(r:Rat):r-(flI r:Rat)=((r.num % (r.den:Int):Int):Rat) / (((r.den:Int):Int):Rat):=by
 have h0:(((r.den:Int):Int):Rat)≠0:=by
  have:=HB r
  simpa using this
 have h1:r=(r.num:Rat) / (((r.den:Int):Int):Rat):=by
  have e:(((r.den:Int):Int):Rat)=(r.den:Rat):=Rat.intCast_natCast _
  rw[e]
  exact(Co r).symm
 have h2:(r.num:Rat)=(((r.den:Int):Int):Rat)*((flI r:Int):Rat)+((r.num % (r.den:Int):Int):Rat):=by
  have:r.num=(r.den:Int)*flI r+r.num % (r.den:Int):=(Int.mul_ediv_add_emod _ _).symm
  exact_mod_cast congrArg (λi:Int=>(i:Rat)) this
 generalize (flI r:Rat)=f at*
 generalize ((r.num % (r.den:Int):Int):Rat)=m at*
 generalize (((r.den:Int):Int):Rat)=d at*
 generalize (r.num:Rat)=n at*
 grind
def O5{r d:Rat}(hg:0<d)(hz:0<=r*d):0<=r:=by
 rcases Rat.le_total (a:=0) (b:=r)with w|w
 .exact w
 .have:=ue w (xG hg)
  rw[Rat.zero_mul]at this
  have e0:=Rat.le_antisymm this hz
  have:r=0:=by grind
  rw[this]
  exact zo
def Ok.num{G B:Nat}{r:Rat}(hG:0<G)(h:Ok G B r):0<=r.num:=by
 obtain⟨z,e,_⟩:=h
 have hg:(0:Rat)<(G:Rat):=by exact_mod_cast hG
 have hz:(0:Rat)<=(z:Rat):=by exact_mod_cast uQ z
 rw[zq]
 exact O5 hg (by rw[e];exact hz)
def Ok.fl{G B:Nat}{r:Rat}(hG:0<G)(h:Ok G B r):0<=flI r:=Int.ediv_nonneg (h.num hG) (by lia)
def Ok.mP{G B:Nat}{r:Rat}(hG:0<G)(h:Ok G B r):Ok G B (r-(flI r:Rat)):=by
 have f0:=h.fl hG
 have hf:=UR r
 obtain⟨z,e,hz⟩:=h
 have hg:(0:Rat)<(G:Rat):=by exact_mod_cast hG
 have hge:(0:Rat)<=r-(flI r:Rat):=by
  rw[hf]
  have h1:(0:Int)<=r.num % (r.den:Int):=uw _ (by have:=den_pos r;lia)
  have h2:(0:Rat)<=((r.num % (r.den:Int):Int):Rat):=by exact_mod_cast h1
  have h3:(0:Rat)<(((r.den:Int):Int):Rat):=by exact_mod_cast (den_pos r)
  refine O5 h3 ?_
  generalize (((r.den:Int):Int):Rat)=d at*
  have:((r.num % (r.den:Int):Int):Rat) / d*d=((r.num % (r.den:Int):Int):Rat):=by
   have:d≠0:=λz=>by rw[z]at h3;exact absurd h3 (Rat.not_lt.mpr zo)
   grind
  rw[this]
  exact h2
 have e2:(r-(flI r:Rat))*(G:Rat)=(((z:Int)-flI r*(G:Int):Int):Rat):=by
  push_cast
  grind
 have h4:(0:Rat)<=(((z:Int)-flI r*(G:Int):Int):Rat):=by
  rw[<-e2]
  exact Rat.mul_nonneg hge (xG hg)
 have h5:(0:Int)<=(z:Int)-flI r*(G:Int):=by exact_mod_cast h4
 have h6:(0:Int)<=flI r*(G:Int):=zk f0 (by lia)
 refine⟨((z:Int)-flI r*(G:Int)).toNat,?_,by lia⟩
 rw[e2]
 have:((((z:Int)-flI r*(G:Int)).toNat:Nat):Int)=(z:Int)-flI r*(G:Int):=by lia
 exact_mod_cast congrArg (λi:Int=>(i:Rat)) this.symm
theorem Ok.sum{G B:Nat}:∀{rs:Wp Rat},(∀r∈rs,Ok G B r)->Ok G (rs.length*B) rs.sum
 | [],_=>by simp;exact Ok.zero
 |r::rs,h=>by
  rw[sJ,sS,Nat.succ_mul,yt]
  exact(h r rM).add (Ok.sum λq hq=>h q (rC _ hq))
noncomputable def As(t:Tr)(st:Stt)(x:Ld):Wp Rat:=(JD t st x).map λr=>r-(flI r:Rat)
noncomputable def Cb(t:Tr)(st:Stt)(x:Ld):Int:=x.n-((JD t st x).map flI).sum
noncomputable def kG(t:Tr)(st:Stt)(x:Ld):D:=.tup [.int x.k,.int (Cb t st x),shD ((As t st x).map λr=>r*(((1:Int):Rat) / (Cb t st x:Rat)))]
noncomputable def Ls(t:Tr)(st:Stt)(x:Ld):Wp D:=if 0<Cb t st x then [kG t st x]else []
theorem Tq:∀{rs:Wp Rat},(rs.map λr=>r-(flI r:Rat)).sum=rs.sum-(((rs.map flI).sum:Int):Rat)
 | []=>by simp;grind
 |r::rs=>by
  rw[rT,sJ,rT,sJ,sJ,Tq]
  push_cast
  grind
theorem QN{c:Rat}:∀{rs:Wp Rat},(rs.map λr=>c*r).sum=c*rs.sum
 | []=>by simp
 |r::rs=>by
  rw[rT,sJ,sJ,QN]
  grind
def gH{rs:Wp Rat}(h:∀r∈rs,0<=flI r):0<=(rs.map flI).sum:=by
 induction rs with
 |nil=>simp
 |cons r rs ih=>
  rw[rT,sJ]
  have:=h r rM
  have:=ih λq hq=>h q (rC _ hq)
  lia
def fM{n:Int}(h:0<n):D.tup [.int 1,.int n]=aD (((1:Int):Rat) / (n:Rat)):=by
 rw[<-Hf h]
 have:NM 1 n=1:=by simp[NM]
 simp[amD,lowP,this]
def bK{t:Tr}{st:Stt}{x:Ld}(hh:HOk t)(h1:x.ow.sum=1)(h2:st.hold.sum=1)(hl:x.ow.length=st.hold.length):(JD t st x).sum=(x.n:Rat):=by
 unfold JD NK Pl
 rw[QN]
 have e10:(((10-t.h:Int):Rat)+(t.h:Rat))=10:=by push_cast;grind
 have e:(λ(s o:Rat)=>(s*((10-t.h:Int):Rat)+o*(t.h:Rat)) / (((10-t.h:Int):Rat)+(t.h:Rat)))=λs o=>s*(((10-t.h:Int):Rat) / 10)+o*((t.h:Rat) / 10):=by
  funext s o
  rw[e10]
  grind
 rw[e,N4 hl,h1,h2]
 have:(1:Rat)*(((10-t.h:Int):Rat) / 10)+1*((t.h:Rat) / 10)=1:=by
  have:((10-t.h:Int):Rat)=10-(t.h:Rat):=by push_cast;rfl
  rw[this]
  grind
 rw[this]
 grind
def Td{t:Tr}{st:Stt}{x:Ld}(hh:HOk t)(h1:x.ow.sum=1)(h2:st.hold.sum=1)(hl:x.ow.length=st.hold.length):(As t st x).sum=(Cb t st x:Rat):=by
 unfold As Cb
 rw[Tq,bK hh h1 h2 hl]
 push_cast
 rfl
theorem VZ{α:Type}{gs:Gd}{t:Tf}{b:Ex}{C:En}{m q:Nat}{S0:Sto}{e:α->D}{h:α->Wp D}(hg:∀T,Ba [q] S0 T->gOk gs T):∀{xs:Wp α} {acc:Wp D} {os:En} {S:Sto},os.length=m->S[q]?=Gc (.lst acc)->Ba [q] S0 S->acc.length+xs.length<=1000->(∀x∈xs,(h x).length<=1)->(∀x∈xs,∀os S acc,os.length=m->S[q]?=Gc (.lst acc)->acc.length<sizeLine->Ba [q] S0 S->∃us us' S',t (e x) (C++os) S=Gc (C++us)/\b (C++us) S=Gc (.nx,C++us',S'.set q (.lst (acc++h x)))/\us'.length=m/\Ba [] S S')->∃os' S',os'.length=m/\Kv gs t b (xs.map e) (C++os) S=Gc (.nx,C++os',S')/\S'[q]?=Gc (.lst (acc++xs.flatMap h))/\Ba [q] S S'
 | [],acc,os,S,ho,hq,hs,hz,h1,H=>⟨os,S,ho,by rw[tP,Fi (hg S hs)],by simpa using hq,.refl⟩
 |x::xs,acc,os,S,ho,hq,hs,hz,h1,H=>by
  obtain⟨us,us',S1,e1,e2,hu,sm⟩:=H x rM os S acc ho hq (qw (show acc.length<1001 by simp at hz;lia) (by decide)) hs
  have q1:=sm.get hq (by simp)
  have s1:Ba [q] S (S1.set q (.lst (acc++h x))):=(sm.mono λ_ z=>(nomatch z)).trans (.set (by simp))
  have hx:=h1 x rM
  obtain⟨os',S2,ho',e3,q2,s2⟩:=VZ hg (t:=t) (b:=b) (C:=C) (e:=e) (h:=h) (xs:=xs) (acc:=acc++h x) (os:=us') (S:=S1.set q (.lst (acc++h x))) hu (rF (AQ q1)) (hs.trans s1) (by simp at hz ⊢; lia) (λx' hx=>h1 x' (rC _ hx)) λx' hx=>H x' (rC _ hx)
  refine⟨os',S2,ho',?_,by simpa using q2,s1.trans s2⟩
  rw[rT,DR (hg S hs),e1,Ay,e2,Ay,P1,e3]
section
variable{S:Sto}{t:Tr}{ls:Wp Ld}{ds:Wp AO}
def bz{r:Rat}{k:Nat}(h:Sz k r)(hk:k<=8000):Am [aD r] S=Gc (.int (flI r),S):=by
 have h1:0<(r.den:Int):=den_pos r
 have h2:((r.den:Nat):Int).natAbs<Ey:=by
  rw[uN]
  exact CT h.2 hk
 unfold aD flI
 generalize hd:((r.den:Nat):Int)=d at*
 simp[Am,HA,h1,h2]
def bf(h:Bo t ls ds)(hh:HOk t):∃G B:Nat,0<G/\G<2^2760/\B<2^2905/\∀x∈(runs t (st0 t ls) ds).AA,∀r∈JD t (runs t (st0 t ls) ds) x,Ok G B r:=by
 have inv:=h.fin
 obtain⟨G,B,g0,gb,bb,k1,k2⟩:=inv.gb
 refine⟨G*10,B*10*2^147,by lia,?_,?_,λx hx=>Y6 hh (k1 x hx) k2 (inv.pcs x hx).1 ?_⟩
 .have:G<2^(30+170*16):=sC gb bb
  exact qw (Bm this (show 10<2^4 by decide)) (sT (by decide) (by decide))
 .have:=Bm (Bm bb (show 10<2^4 by decide)) (show 2^147<2^148 by exact tO (by decide) (by decide))
  exact qw this (sT (by decide) (by decide))
 .have:=(inv.pcs x hx).2
  have e:((2^147:Nat):Int)=2^(131+16):=by decide
  lia
end
section
variable{S:Sto}{t:Tr}{ls:Wp Ld}{ds:Wp AO}
def fm{rs:Wp Rat}(hl:rs.length<=50)(hz:∀r∈rs,Sz 2906 r):Bl [] (tNm 0) BX (AD Dv [eV 0,Bn [AD Am [eV 0],eC (.int 1)]]) (rs.map aD) [] [none] S=Gc ((rs.map λr=>r-(flI r:Rat)).map aD,S):=by
 have c:=Cj (gs:=[]) (t:=tNm 0) (f:=AD Dv [eV 0,Bn [AD Am [eV 0],eC (.int 1)]]) (C:=[]) (m:=1) (e:=aD) (g:=λr=>aD (r-(flI r:Rat))) (S:=S) Ad (xs:=rs) (acc:=[]) (os:=[none]) rfl (q8 (show _<=50 by simpa using hl) (AK (by decide))) (by
  intro r hr os ho
  obtain⟨o,rfl⟩:∃o,os=[o]:=by
   match os,ho with
   | [a],_=>exact⟨a,rfl⟩
  have z:=hz r hr
  have w:=bz (S:=S) z (by decide)
  have zf:Sz 2906 (flI r:Rat):=PK (sC (by
   unfold flI
   exact yJ _ _) z.1) (by decide)
  have l:=hJ (S:=S) z zf (by decide)
  rw[Vk]at l
  refine⟨[Gc (aD r)],rfl,by simp,?_⟩
  generalize aD (r-(flI r:Rat))=R at*
  generalize flI r=f at*
  generalize aD r=R2 at*
  simp[w,l])
 rw[tJ]
 exact c
def fw{rs:Wp Rat}{n:Int}(h0:0<n)(hn:n.natAbs<2^150)(hl:rs.length<=50)(hz:∀r∈rs,Sz 2906 r):Bl [] (tNm 1) BX (AD CL [eV 1,Bn [eC (.int 1),eV 0]]) (rs.map aD) [] [Gc (.int n),none] S=Gc ((rs.map λr=>r*(((1:Int):Rat) / (n:Rat))).map aD,S):=by
 have zn:Sz 150 (((1:Int):Rat) / (n:Rat)):=Lm h0 (by decide) hn
 have c:=Cj (gs:=[]) (t:=tNm 1) (f:=AD CL [eV 1,Bn [eC (.int 1),eV 0]]) (C:=[Gc (.int n)]) (m:=1) (e:=aD) (g:=λr=>aD (r*(((1:Int):Rat) / (n:Rat)))) (S:=S) Ad (xs:=rs) (acc:=[]) (os:=[none]) rfl (q8 (show _<=50 by simpa using hl) (AK (by decide))) (by
  intro r hr os ho
  obtain⟨o,rfl⟩:∃o,os=[o]:=by
   match os,ho with
   | [a],_=>exact⟨a,rfl⟩
  have l:=US (S:=S) (hz r hr) zn (by decide)
  rw[<-fM h0]at l
  refine⟨[Gc (aD r)],rfl,by simp,?_⟩
  generalize aD (r*(((1:Int):Rat) / (n:Rat)))=R at*
  generalize aD r=R2 at*
  simp[l])
 rw[tJ]
 exact c
structure PV(t:Tr)(st:Stt)(x:Ld):Prop where
 len:(JD t st x).length<=4
 pQ:(JD t st x).length=t.p
 ok:∃G B:Nat,0<G/\G<2^2760/\B<2^2905/\∀r∈JD t st x,Ok G B r
 sum:(As t st x).sum=(Cb t st x:Rat)
 n0:0<=x.n
 n1:x.n<2^147
def Pp(h:Bo t ls ds)(hh:HOk t)(ho:MW ls/\t.ho.sum=1):∀x∈(runs t (st0 t ls) ds).AA,PV t (runs t (st0 t ls) ds) x:=by
 intro x hx
 have inv:=h.fin
 have tp:=h.tr.2.1
 have on:=h.ones ho.1 ds.length
 have hs:=h.ff ho.1 ho.2 ds.length
 rw[vc]at on hs
 obtain⟨G,B,g0,gg,bb,k⟩:=bf h hh
 have hl:(JD t (runs t (st0 t ls) ds) x).length=t.p:=by
  unfold JD NK
  rw[sG,Pl,E5 (inv.own x hx) inv.hold]
 exact⟨by lia,hl,⟨G,B,g0,gg,bb,k x hx⟩,Td hh (on x hx) hs (by rw[inv.own x hx,inv.hold]),(inv.pcs x hx).1,(inv.pcs x hx).2⟩
def PV.sz{st:Stt}{x:Ld}(h:PV t st x):∀r∈JD t st x,Sz 2906 r:=by
 obtain⟨G,B,g0,gg,bb,k⟩:=h.ok
 exact λr hr=>(k r hr).sz g0 (vh gg (tO (by decide) (by decide))) (vh bb (tO (by decide) (by decide)))
def PV.fl{st:Stt}{x:Ld}(h:PV t st x):∀r∈JD t st x,0<=flI r:=by
 obtain⟨G,B,g0,gg,bb,k⟩:=h.ok
 exact λr hr=>(k r hr).fl g0
def PV.sok{st:Stt}{x:Ld}(h:PV t st x):∃G B:Nat,0<G/\G<2^2760/\B<2^2905/\∀r∈As t st x,Ok G B r:=by
 obtain⟨G,B,g0,gg,bb,k⟩:=h.ok
 refine⟨G,B,g0,gg,bb,λr hr=>?_⟩
 obtain⟨y,hy,rfl⟩:=sE.mp hr
 exact(k y hy).mP g0
def PV.ssz{st:Stt}{x:Ld}(h:PV t st x):∀r∈As t st x,Sz 2906 r:=by
 obtain⟨G,B,g0,gg,bb,k⟩:=h.sok
 exact λr hr=>(k r hr).sz g0 (vh gg (tO (by decide) (by decide))) (vh bb (tO (by decide) (by decide)))
def PV.left{st:Stt}{x:Ld}(h:PV t st x):Cb t st x<=x.n:=by
 have:=gH h.fl
 unfold Cb
 lia
def PV.total{st:Stt}{x:Ld}(h:PV t st x):C1 [.lst ((As t st x).map aD)] S=Gc (aD (Cb t st x:Rat),S):=by
 obtain⟨G,B,g0,gg,bb,k⟩:=h.sok
 have hl:(As t st x).length<=4:=by
  unfold As
  rw[sG]
  exact h.len
 have tt:=W2 (S:=S) (rs:=As t st x) (K:=2910) g0 (vh gg (tO (by decide) (by decide))) (by decide) k (by
  have h1:(As t st x).length*B<=4*2^2905:=vG hl (uy bb)
  have h2:4*2^2905=2^2907:=by rw[show(2907:Nat)=2905+2 by rfl,xV]
  rw[h2]at h1
  exact sC h1 (tO (by decide) (by decide)))
 rw[h.sum]at tt
 exact tt
def Up:=AN (BN 6 (B8 [] 1 (GO (eV 3)) (tNm 0) BX (AD Dv [eV 0,Bn [AD Am [eV 0],eC (.int 1)]]))) (AN (BN 7 (AD Am [AD C1 [eV 6]])) (xIf (eOp (o2 wGt) [eV 7,eC (.int 0)]) (BP (HG J4 (eV 2) [Bn [eV 4,eV 7,eOp (o1 DO) [B8 [7] 1 (GO (eV 6)) (tNm 1) BX (AD CL [eV 1,Bn [eC (.int 1),eV 0]])]]])) Bb))
def XN{st:Stt}{x:Ld}{q:Nat}{acc:Wp D}{a0 a1 o6 o7:qz D}(h:PV t st x)(hq:S[q]?=Gc (.lst acc))(hz:acc.length<sizeLine):∃u6 u7,Up [a0,a1,Gc (.ref q),Gc (shD (JD t st x)),Gc (.int x.k),Gc (.int x.n),o6,o7] S=Gc (.nx,[a0,a1,Gc (.ref q),Gc (shD (JD t st x)),Gc (.int x.k),Gc (.int x.n),u6,u7],S.set q (.lst (acc++Ls t st x))):=by
 have c1:=fm (S:=S) (rs:=JD t st x) (by have:=h.len;lia) h.sz
 have tt:=h.total (S:=S)
 have h1:=h.left
 have h0:=h.n1
 have bl:∀z:Int,0<z->z<=x.n->z.natAbs<2^150:=λz z0 z1=>by
  have:z<2^147:=vj z1 h0
  have e:(z.natAbs:Int)<((2^150:Nat):Int):=by
   rw[zl (by lia)]
   exact Int.lt_trans this (by decide)
  lia
 by_cases hp:0<Cb t st x
 .have w:=bz (S:=S) (r:=(Cb t st x:Rat)) (k:=150) (PK (bl _ hp h1) (by decide)) (by decide)
  rw[Lk]at w
  have c2:=fw (S:=S) (rs:=As t st x) hp (bl _ hp h1) (by
   have:=h.len
   unfold As
   rw[sG]
   lia) h.ssz
  refine⟨Gc (.lst ((As t st x).map aD)),Gc (.int (Cb t st x)),?_⟩
  have eo:Ls t st x=[.tup [.int x.k,.int (Cb t st x),.tup (((As t st x).map λr=>r*(((1:Int):Rat) / (Cb t st x:Rat))).map aD)]]:=by
   unfold Ls
   rw[sD hp]
   rfl
  rw[eo]
  have c1':Bl [] (tNm 0) BX (AD Dv [eV 0,Bn [AD Am [eV 0],eC (.int 1)]]) ((JD t st x).map aD) [] [none] S=Gc ((As t st x).map aD,S):=c1
  generalize ((As t st x).map λr=>r*(((1:Int):Rat) / (Cb t st x:Rat))).map aD=R3 at*
  generalize (As t st x).map aD=R1 at*
  generalize aD (Cb t st x:Rat)=R2 at*
  generalize Cb t st x=z at*
  simp[Up,LQ,c1',tt,w,hp,Q7,c2,AJ hq,hz]
 .have w:=bz (S:=S) (r:=(Cb t st x:Rat)) (k:=8000) (by
   have zs:Sz 2910 (As t st x).sum:=by
    obtain⟨G,B,g0,gg,bb,k⟩:=h.sok
    have hl:(As t st x).length<=4:=by
     unfold As
     rw[sG]
     exact h.len
    have o:Ok G ((As t st x).length*B) (As t st x).sum:=Ok.sum k
    refine o.sz g0 (vh gg (tO (by decide) (by decide))) ?_
    have h1:(As t st x).length*B<=4*2^2905:=vG hl (uy bb)
    have h2:4*2^2905=2^2907:=by rw[show(2907:Nat)=2905+2 by rfl,xV]
    rw[h2]at h1
    exact sC h1 (tO (by decide) (by decide))
   rw[h.sum]at zs
   exact zs.mono (by decide)) (by decide)
  rw[Lk]at w
  refine⟨Gc (.lst ((As t st x).map aD)),Gc (.int (Cb t st x)),?_⟩
  have eo:Ls t st x=[]:=by
   unfold Ls
   rw[sH hp]
  rw[eo,sj,set_same hq]
  have c1':Bl [] (tNm 0) BX (AD Dv [eV 0,Bn [AD Am [eV 0],eC (.int 1)]]) ((JD t st x).map aD) [] [none] S=Gc ((As t st x).map aD,S):=c1
  generalize (As t st x).map aD=R1 at*
  generalize aD (Cb t st x:Rat)=R2 at*
  generalize Cb t st x=z at*
  simp[Up,LQ,c1',tt,w,hp]
def KS(h:Bo t ls ds)(hh:HOk t)(ho:MW ls/\t.ho.sum=1):∃S',Df [AH t ls ds] S=Gc (.tup ((runs t (st0 t ls) ds).AA.flatMap (Ls t (runs t (st0 t ls) ds))),S')/\Ba [] S S':=by
 have hm:=Pp h hh ho
 have hb:=SM (S:=S) h (n:=ds.length) (q9 _)
 rw[vc]at hb
 obtain⟨qd,S1,e1,c1,s1,l1⟩:=QD (S:=S++[Cl.lst []]) h hh
 have inv:=h.fin
 have hlen:=inv.len
 generalize runs t (st0 t ls) ds=st at*
 have hq:S1[S.length]?=Gc (.lst []):=s1.get rZ (by simp)
 have hne:qd≠S.length:=by simp at l1;lia
 obtain⟨os',S2,ho',e2,q2,s2⟩:=VZ (gs:=[(qd,st.AA.map λx=>shD (JD t st x))]) (S0:=S1) (t:=tTp [tTp [tNm 4,tNm 5],tNm 3]) (b:=Up) (C:=[Gc (AH t ls ds),Gc (BA st.AA),Gc (.ref S.length)]) (m:=5) (q:=S.length) (e:=λx:Ld=>D.tup [hD x,shD (JD t st x)]) (h:=Ls t st) (λT hT g hg=>by
  rw[sF.mp hg]
  exact AJ (hT.get c1 (by simpa using hne))) (xs:=st.AA) (acc:=[]) (os:=[none,none,none,none,none]) (S:=S1) rfl hq .refl (by simp;lia) (λx _=>by unfold Ls;split<;>simp) (by
  intro x hx os T acc ho hq0 hz hT
  obtain⟨o1,o2,o3,o4,o5,rfl⟩:∃o1 o2 o3 o4 o5,os=[o1,o2,o3,o4,o5]:=by
   match os,ho with
   | [a,b,c,d,e],_=>exact⟨a,b,c,d,e,rfl⟩
  obtain⟨u6,u7,e⟩:=XN (S:=T) (a0:=Gc (AH t ls ds)) (a1:=Gc (BA st.AA)) (o6:=o4) (o7:=o5) (hm x hx) hq0 hz
  exact⟨[Gc (shD (JD t st x)),Gc (.int x.k),Gc (.int x.n),o4,o5],[Gc (shD (JD t st x)),Gc (.int x.k),Gc (.int x.n),u6,u7],T,by simp,e,rfl,.refl⟩)
 refine⟨S2,?_,?_⟩
 .have ez:K4 (st.AA.map hD) (st.AA.map λx=>shD (JD t st x))=st.AA.map λx=>.tup [hD x,shD (JD t st x)]:=by
   unfold K4
   rw[List.zip_map',tJ]
   rfl
  rw[<-ez]at e2
  simp only[sQ,r9]at e2 q2
  have sq:=FH c1
  have dq:=Ac q2
  have eb:JV=(AN (BN 1 (AD FF [eV 0,eOp (o1 Cv) [eOp (o2 wIx) [eV 0,eC (.int 2)]]]))
  (AN (BN 2 (FC []))
  (AN (NJ (Sn (eV 1) (AD EN [eV 0])) (tTp [tTp [tNm 4,tNm 5],tNm 3]) Up)
  (Ag (eOp (o1 DO) [eV 2]))))):=rfl
  have sh:∀T,sqD T (BA st.AA)=Gc (st.AA.map hD,[]):=λ_=>nr rfl
  have il:Cv (.val (.tup (ds.map AO.d)))=Gc (.val (.int ds.length)):=by simp
  unfold Df
  rw[eb]
  generalize hHD:BA st.AA=HD at*
  generalize st.AA.flatMap (Ls t st)=R at*
  generalize hDU:st.AA.map (λx=>shD (JD t st x))=DU at*
  simp only[AH]at e1 e2 hb⊢
  simp[hb,e1,sh,sq,e2,dq]
 .refine⟨q8 (by simp) (q8 s1.len s2.len),λn hn _=>?_⟩
  have l1:=s1.len
  simp at l1
  rw[s2.keep n (by lia) (by simp;lia),s1.keep n (by simp;lia) (by simp),qv hn]
end
def Ok.nn(h:Ok G B r)(hG:0<G):0<=r:=by
 obtain⟨z,e,_⟩:=h
 have g:(0:Rat)<(G:Rat):=by exact_mod_cast hG
 have hz:(0:Rat)<=(z:Rat):=by exact_mod_cast uQ z
 rcases(Rat.le_total:0<=r\/r<=0)with w|w
 .exact w
 .have:=ue w (xG g)
  rw[e,Rat.zero_mul]at this
  have z0:(z:Rat)=0:=Rat.le_antisymm this hz
  rw[z0]at e
  rcases Rat.mul_eq_zero.mp e with e|e
  .rw[e];exact zo
  .rw[e]at g;exact absurd g (by decide)
theorem Yc:∀{rs:Wp Rat},(∀r∈rs,0<=r)->0<=rs.sum
 | [],_=>by rw[List.sum_nil];exact zo
 |r::rs,h=>by
  rw[sJ]
  have h1:=h r rM
  have h2:=Yc λq hq=>h q (rC _ hq)
  grind
theorem Ve:∀{rs:Wp Rat} {x},(∀r∈rs,0<=r)->x∈rs->x<=rs.sum
 |r::rs,x,h,hx=>by
  rw[sJ]
  have h1:=h r rM
  have h2:=Yc λq hq=>h q (rC _ hq)
  rcases qy.mp hx with e|e
  .rw[e];grind
  .have:=Ve (λq hq=>h q (rC _ hq)) e
   grind
def dC{r:Rat}(h:r<=1):r.num<=r.den:=by
 have e:=Co r
 have d:(0:Rat)<(r.den:Rat):=by exact_mod_cast r.den_pos
 have h1:(r.num:Rat)<=(r.den:Rat):=by
  have:(r.num:Rat)=r*(r.den:Rat):=by
   have:=HB r
   grind
  rw[this]
  have:=ue h (xG d)
  rwa [Rat.one_mul]at this
 exact_mod_cast h1
def WT(hG:0<G)(gK:G<2^K)(hK:2*K<=7990)(hr:∀r∈rs,Ok G B r)(hb:rs.length*B<2^K):C1 [shD rs] S=Gc (aD rs.sum,S):=by
 obtain⟨o',e⟩:=Na (F:=Fh) (λS h1 h2 h3=>bV h1 h2 h3) (gs:=[]) (S:=S) Ad (X:=Gc (shD rs)) (B:=B) hG gK hK (rs:=rs) (acc:=0) (m:=0) (o:=none) (by rw[Nat.zero_mul];exact Ok.zero) hr (by simpa using hb)
 have ez:(0:Rat)+rs.sum=rs.sum:=by grind
 rw[ez,V3]at e
 simp[C1,Lp,FL,shD]at e⊢
 simp[e]
def fT(e1:evs [oa,ob] E S=Gc ([.int i,.int j],S1))(h:i<=j)(e2:oc E S1=Gc (.int k,S2)):Ru oa ob oc E S=Gc (.bl (decide (j<=k)),S2):=by
 unfold Ru
 rw[e1]
 show(if i<=j then _ else _)=_
 rw[sD h,e2]
 rfl
def OV:ET [.int i] S=Gc (.bl true,S):=by
 have k1:St.Kd.int.isA "int"=true:=by decide
 have k2:St.Kd.int.isA "bool"=false:=by decide
 simp[k1,k2,ET,Km,kdW]
def JF:CZ [.int i,.int j] S=Gc (.bl (decide (j<=i)),S):=by
 have e:=OV (S:=S) (i:=i)
 simp[CZ,LV,e]
def within_int:Al [.int i,.int j,.int k] S=Gc (.bl (decide (j<=i) && decide (i<=k)),S):=by
 have e:=JF (S:=S) (i:=i) (j:=j)
 by_cases h:j<=i
 .simp[Al,Gq,e,h]
 .simp[Al,Gq,e,h]
def PH(h0:0<=r)(h1:r<=1):Cg [aD r] S=Gc (.bl true,S):=by
 have g:=Yg (S:=S) r.num r.den
 have ge:NM r.num r.den=1:=by
  have:=r.reduced
  unfold Nat.Coprime at this
  simp[NM,this]
 rw[ge]at g
 have n0:0<=r.num:=zq.mpr h0
 have n1:=dC h1
 have d1:(1:Int)<=r.den:=by have:=r.den_pos;omega
 have w:=OV (S:=S) (i:=r.num)
 have f:=JF (S:=S) (i:=r.den) (j:=1)
 have k3:St.Kd.tup.isA "tuple"=true:=by decide
 have am:Ek [aD r] S=Gc (.bl true,S):=by
  simp[Ek,JR,aD,kdW,k3,w,f,d1,g]
 have ll:Ru (eC (.int 0)) (eOp (o2 wIx) [eV 0,eC (.int 0)]) (eOp (o2 wIx) [eV 0,eC (.int 1)]) [Gc (aD r)] S=Gc (.bl true,S):=by
  rw[fT (i:=0) (j:=r.num) (k:=r.den) (S1:=S) (S2:=S) (by simp[aD]) n0 (by simp[aD])]
  simp[n1]
 simp[Cg,Kf,am,ll]
def jg{α:Type}{f:Ev}{e:α->D}{C:En}{os:En}{xs:Wp α}(hg:gOk gs S)(hz:xs.length<=1000)(hm:os.length=m)(h:∀x∈xs,∀os,os.length=m->∃us,us.length=m/\t (e x) (C++os) S=Gc (C++us)/\f (C++us) S=Gc (.bl true,S)):∃r,Bl gs t BX f (xs.map e) [] (C++os) S=Gc (r,S)/\(bls r).map (λbs=>bs.all id)=Gc true:=by
 have:=Cj (gs:=gs) (t:=t) (f:=f) (C:=C) (m:=m) (e:=e) (g:=λ_=>D.bl true) (S:=S) hg (xs:=xs) (acc:=[]) (os:=os) hm (AK (by simpa using hz)) h
 refine⟨_,this,?_⟩
 rw[r9,QE (λ_=>true)]
 simp
def Ov{rs:Wp Rat}(hp:rs.length=P)(h4:P<=4)(hG:0<G)(gK:G<2^K)(hK:2*K<=7990)(hr:∀r∈rs,Ok G B r)(hb:4*B<2^K)(hs:rs.sum=1):C0 [.int P,shD rs] S=Gc (.bl true,S):=by
 have nn:∀r∈rs,0<=r:=λr hr'=>(hr r hr').nn hG
 have le1:∀r∈rs,r<=1:=λr hr'=>by rw[<-hs];exact Ve nn hr'
 have k3:St.Kd.tup.isA "tuple"=true:=by decide
 have T:=WT (S:=S) hG gK hK hr (sC (sO _ (by omega)) hb)
 rw[hs,YJ]at T
 obtain⟨bs,e1,e2⟩:=jg (S:=S) (f:=AD Cg [eV 0]) (e:=aD) (C:=[]) (os:=[none]) (xs:=rs) (gs:=[]) (t:=tNm 0) Ad (by omega) rfl (by
  intro r hr' os ho
  match os,ho with
  | [a],_=>
  refine⟨[Gc (aD r)],rfl,by simp,?_⟩
  have:=PH (S:=S) (nn r hr') (le1 r hr')
  simp[this])
 have T2:C1 [D.tup (rs.map aD)] S=Gc (.tup [.int 1,.int 1],S):=T
 have it:Aj [shD rs,.int P] S=Gc (.bl true,S):=by
  simp[Aj,CU,shD,kdW,k3,hp]
 have hE:Kr (.tup [.int 1,.int 1]) N0=true:=rfl
 have hD:deq (.tup [.int 1,.int 1]) N0=true:=rfl
 simp only[r9]at e1
 obtain⟨b',e3,e4⟩:=u4.mp e2
 have hk:dr S N0=.val N0:=rfl
 simp[C0,ID,it]
 simp[shD,Q7,e1,e3,e4,T2,hk,hE,hD]
def Rg{x:Ld}(ht:G5 t)(h1:x.k<t.k)(h2:0<=x.n)(hp:x.ow.length=t.p)(hG:0<G)(gK:G<2^K)(hK:2*K<=7990)(hr:∀r∈x.ow,Ok G B r)(hb:4*B<2^K)(hs:x.ow.sum=1):D4 [t.d,x.d] S=Gc (.bl true,S):=by
 have O:=Ov (S:=S) hp ht.2.1 hG gK hK hr hb hs
 have k3:St.Kd.tup.isA "tuple"=true:=by decide
 have it:Aj [x.d,.int 3] S=Gc (.bl true,S):=by
  simp[Aj,CU,Ld.d,kdW,k3]
 have w:=within_int (S:=S) (i:=x.k) (j:=0) (k:=(t.k:Int)-1)
 have w1:(x.k:Int)<=(t.k:Int)-1:=by omega
 have f:=JF (S:=S) (i:=x.n) (j:=0)
 have ik:DF [t.d,.int x.k] S=Gc (.bl true,S):=by
  simp[DF,Ii,Tr.d,w,w1]
 simp[D4,L8,it]
 generalize hsd:shD x.ow=sd at*
 have:x.d=.tup [.int x.k,.int x.n,sd]:=by rw[<-hsd];rfl
 rw[this]
 simp[ik,f,h2]
 simp[Tr.d,O]
noncomputable def ovl(t:Tr)(st:Stt)(x:Ld):Wp Ld:=if 0<Cb t st x then [⟨x.k,Cb t st x,(As t st x).map λr=>r*(((1:Int):Rat) / (Cb t st x:Rat))⟩]else []
noncomputable def ovs(t:Tr)(st:Stt):Wp Ld:=st.AA.flatMap (ovl t st)
def VO{t:Tr}{st:Stt}:st.AA.flatMap (Ls t st)=(ovs t st).map Ld.d:=by
 unfold ovs
 rw[List.map_flatMap]
 congr 1
 funext x
 unfold Ls ovl
 split<;>rfl
def La{t:Tr}{st:Stt}{y:Ld}(h:y∈ovs t st):∃x∈st.AA,0<Cb t st x/\y=⟨x.k,Cb t st x,(As t st x).map λr=>r*(((1:Int):Rat) / (Cb t st x:Rat))⟩:=by
 obtain⟨x,hx,hy⟩:=u5.mp h
 unfold ovl at hy
 split at hy
 .exact⟨x,hx,by assumption,by simpa using hy⟩
 .cases hy
def U6(r:Rat):r-(flI r:Rat)<1:=by
 have d0:=den_pos r
 have h1:r.num % (r.den:Int)<r.den:=vF _ d0
 rw[UR]
 have hd:(0:Rat)<(((r.den:Int):Int):Rat):=by exact_mod_cast d0
 rw[Rat.div_lt_iff hd,Rat.one_mul]
 exact_mod_cast h1
def Ok.small{G B:Nat}{r:Rat}(hG:0<G)(h:Ok G B r)(g:r<=1):Ok G G r:=by
 obtain⟨z,e,hz⟩:=h
 refine⟨z,e,?_⟩
 have hg:(0:Rat)<=(G:Rat):=by exact_mod_cast uQ G
 have:=ue g hg
 rw[e,Rat.one_mul]at this
 exact_mod_cast this
def Ok.part{G:Nat}{s:Rat}{l:Int}(h:Ok G G s)(h0:0<l)(h1:l<=4):Ok (G*12) (G*12) (s*(((1:Int):Rat) / (l:Rat))):=by
 obtain⟨z,e,hz⟩:=h
 have k:∀(m:Nat),(m:Int)*l=12->m<=12->Ok (G*12) (G*12) (s*(((1:Int):Rat) / (l:Rat))):=λm hm hl=>by
  refine⟨z*m,?_,vG hz hl⟩
  have l0:(l:Rat)≠0:=by
   have:l≠0:=by lia
   exact_mod_cast this
  have hm':(m:Rat)*(l:Rat)=12:=by exact_mod_cast congrArg (λi:Int=>(i:Rat)) hm
  push_cast
  rw[<-e]
  generalize (l:Rat)=L at*
  generalize (m:Rat)=M at*
  generalize (G:Rat)=g at*
  rw[<-hm']
  grind
 have:l=1\/l=2\/l=3\/l=4:=by lia
 rcases this with rfl|rfl|rfl|rfl
 .exact k 12 (by decide) (by decide)
 .exact k 6 (by decide) (by decide)
 .exact k 4 (by decide) (by decide)
 .exact k 3 (by decide) (by decide)
theorem NI:∀{rs:Wp Rat},(∀r∈rs,r<=1)->rs.sum<=(rs.length:Rat)
 | [],_=>by simp
 |r::rs,h=>by
  have a:=h r rM
  have b:=NI (rs:=rs) λq hq=>h q (rC _ hq)
  rw[sJ,sS]
  push_cast
  grind
section
variable{t:Tr}{ls:Wp Ld}{ds:Wp AO}{st:Stt}{G B:Nat}
structure Stl(t:Tr)(st:Stt)(G:Nat)(x:Ld):Prop where
 ok:∀r∈As t st x,Ok (G*10) (G*10) r
 l4:Cb t st x<=4
 l0:0<=Cb t st x
def gz(hh:HOk t)(hG:0<G)(h1:∀x∈st.AA,∀r∈x.ow,Ok G B r)(h2:∀r∈st.hold,Ok G B r)(hm:∀x∈st.AA,PV t st x):∀x∈st.AA,Stl t st G x:=by
 intro x hx
 have H:=hm x hx
 have n1:x.n<=((2^147:Nat):Int):=by
  have:=H.n1
  have e:((2^147:Nat):Int)=2^147:=by decide
  lia
 have due:=Y6 hh (h1 x hx) h2 H.n0 n1
 have g10:0<G*10:=by lia
 have ok:∀r∈As t st x,Ok (G*10) (G*10) r:=λr hr=>by
  obtain⟨y,hy,rfl⟩:=sE.mp hr
  exact((due y hy).mP g10).small g10 (xG (U6 y))
 have le1:∀r∈As t st x,r<=1:=λr hr=>by
  obtain⟨y,hy,rfl⟩:=sE.mp hr
  exact xG (U6 y)
 have nn:∀r∈As t st x,0<=r:=λr hr=>(ok r hr).nn g10
 have s:=NI le1
 have ln:(As t st x).length<=4:=by
  unfold As
  rw[sG]
  exact H.len
 rw[H.sum]at s
 refine⟨ok,?_,?_⟩
 .have:Cb t st x<=((As t st x).length:Int):=by exact_mod_cast s
  lia
 .have z:=H.sum
  have:(0:Rat)<=(As t st x).sum:=by
   rcases h:As t st x with _|⟨r,rs⟩
   .simp
   .rw[h]at nn
    exact Rat.le_trans (nn r rM) (Ve nn rM)
  rw[z]at this
  exact_mod_cast this
def eS(hs:∀x∈st.AA,Stl t st G x):∀y∈ovs t st,0<y.n/\y.n<=4/\∀r∈y.ow,Ok (G*10*12) (G*10*12) r:=λy hy=>by
 obtain⟨x,hx,h0,rfl⟩:=La hy
 refine⟨h0,(hs x hx).l4,λr hr=>?_⟩
 obtain⟨q,hq,rfl⟩:=sE.mp hr
 exact((hs x hx).ok q hq).part h0 (hs x hx).l4
def Wn(hm:∀x∈st.AA,PV t st x):MW (ovs t st):=λy hy=>by
 obtain⟨x,hx,h0,rfl⟩:=La hy
 show((As t st x).map λr=>r*(((1:Int):Rat) / (Cb t st x:Rat))).sum=1
 have e:(As t st x).map (λr=>r*(((1:Int):Rat) / (Cb t st x:Rat)))=(As t st x).map λr=>(((1:Int):Rat) / (Cb t st x:Rat))*r:=List.map_congr_left λr _=>by grind
 rw[e,QN,(hm x hx).sum]
 have:(Cb t st x:Rat)≠0:=by
  have:Cb t st x≠0:=by lia
  exact_mod_cast this
 grind
def Zd{y:Ld}(hm:∀x∈st.AA,PV t st x)(hy:y∈ovs t st):y.ow.length=t.p:=by
 obtain⟨x,hx,h0,rfl⟩:=La hy
 show((As t st x).map _).length=t.p
 unfold As
 rw[sG,sG]
 exact(hm x hx).pQ
end
section
variable{S:Sto}{t:Tr}{ls:Wp Ld}{ds:Wp AO}{st:Stt}{n p:Nat}
noncomputable def nxT(t:Tr)(st:Stt):Tr:={t with ho:=st.hold}
def ZD{G B k:Nat}(bk:Bo t ls ds)(g0:0<G)(gb:G<=B)(bb:B<2^(30+170*k))(h1:∀x∈ls,∀r∈x.ow,Ok G B r)(h2:∀r∈t.ho,Ok G B r):SIG t k G B (st0 t ls):=by
 obtain⟨k',_,z⟩:=bk.lev
 exact⟨by have:=bk.four;show ls.length<=_;lia,λx hx=>⟨z.kind x hx,(bk.pc0 x hx).1,cg (bk.pc0 x hx).2,z.own x hx,h1 x hx⟩,z.hold,uQ _,g0,gb,bb,h2⟩
def Of{r:Rx}{f:Ex}{r2:Rx}{E E':En}{S S':Sto}(h:r E S=none)(e:f E S=Gc (.nx,E',S')):JK r f r2 E S=r2 E' S':=by
 unfold JK
 rw[h]
 simp only
 rw[e]
 rfl
def Qd{r:Rx}{f:Ex}{r2:Rx}{E:En}{S:Sto}{z:Tg×En×Sto}(h:r E S=Gc z):JK r f r2 E S=Gc z:=by
 unfold JK
 rw[h]
def UM(h:Bo t ls ds)(hh:HOk t)(ho:MW ls/\t.ho.sum=1)(hst:runs t (st0 t ls) ds=st)(hl:(ovs t st).length<=4):∃S',Bv [AH t ls ds] S=Gc (AH (nxT t st) (ovs t st) [],S')/\Ba [] S S':=by
 obtain⟨S1,e1,s1⟩:=KS (S:=S) h hh ho
 have r1:=JG (S:=S) h
 obtain⟨S2,e2,s2⟩:=Qj (S:=S1) h (n:=ds.length) (q9 _)
 rw[vc]at e2
 rw[hst]at e1 e2
 rw[VO]at e1
 refine⟨S2,?_,s1.trans s2⟩
 have h4:¬(4:Int)<((ovs t st).map Ld.d).length:=by simp;lia
 have as1:asS (.val t.d)=Gc [.int t.p,.int t.k,.int t.b,shD t.ho,.int t.h,.int t.l]:=rfl
 have dt:∀T,dr T t.d=.val t.d:=λ_=>rfl
 have tt:t.d=.tup [.int t.p,.int t.k,.int t.b,shD t.ho,.int t.h,.int t.l]:=rfl
 have nt:(nxT t st).d=.tup [.int t.p,.int t.k,.int t.b,shD st.hold,.int t.h,.int t.l]:=rfl
 simp only[AH,tt,nt]at e1 e2 r1⊢
 generalize (ovs t st).map Ld.d=O at*
 simp[Bv,GU,r1,e1,BG,h4,e2]
def VG(h:Bo t ls ds)(hh:HOk t)(ho:MW ls/\t.ho.sum=1)(hst:runs t (st0 t ls) ds=st)(hl:4<(ovs t st).length):∃S',Bv [AH t ls ds] S=none/\Cq [AH t ls ds] S=Gc (⟨"TooMany",none⟩,S')/\Ba [] S S':=by
 obtain⟨S1,e1,s1⟩:=KS (S:=S) h hh ho
 have r1:=JG (S:=S) h
 rw[hst,VO]at e1
 have h4:(4:Int)<((ovs t st).map Ld.d).length:=by simp;lia
 generalize (ovs t st).map Ld.d=O at*
 generalize AH t ls ds=bk at*
 refine⟨S1,?_,?_,s1⟩
 .have xs:∀E S,Bj E S=none:=λ_ _=>rfl
  simp[Bv,GU,r1,e1,BG,h4,xs]
 .unfold Cq
  rw[Ga]
  show(Ej [Gc bk,none,none,none,none,none,none,none,none,none,none] S).map _=_
  have hr:Ej [Gc bk,none,none,none,none,none,none,none,none,none,none] S=Gc (⟨"TooMany",none⟩,[Gc bk,Gc (.tup O),none,none,none,none,none,none,none,none,none],S1):=by
   unfold Ej
   rw[Of (E':=[Gc bk,none,none,none,none,none,none,none,none,none,none]) (S':=S) rfl (by simp[r1])]
   rw[Of (E':=[Gc bk,Gc (.tup O),none,none,none,none,none,none,none,none,none]) (S':=S1) rfl (by simp[e1])]
   refine Qd ?_
   have e3:(eOp (o2 wGt) [eOp (o1 Cv) [eV 1],eC BG]) [Gc bk,Gc (.tup O),none,none,none,none,none,none,none,none,none] S1=Gc (.bl true,S1):=by simp[BG,h4]
   unfold rIf
   rw[e3]
   show Ef _ _ _ _=_
   unfold Ef
   simp
  rw[hr]
  rfl
end
def Raw(t:Tr):AO->Prop
 | .Dd _ _ n=>n<2^131
 | .Hr _ _=>xy
 | .swap _ _ _ n=>n<2^131
 | .Cn u _ _ _ n=>n<2^131/\0<=u/\u<=9
 | .Dr _ _=>xy
 | .thr _ _ ws=>ws.length=t.k+1/\∀w∈ws,1<=w/\w<=99
 | .GQ _ _ x=>0<x.num/\x.num<=x.den/\x.den<=12
noncomputable def isB(t:Tr):AO->su
 | .Dd p k n=>decide (p<t.p) && (decide (k<t.k) && decide (1<=n))
 | .Hr a b=> !(a==b)
 | .swap _ g k n=>decide (1<=g) && (decide (k<t.k) && decide (1<=n))
 | .Cn _ _ g k n=>decide (1<=g) && (decide (k<t.k) && decide (1<=n))
 | .Dr _ n=>decide (1<=n)
 | .thr _ n _=>decide (1<=n)
 | .GQ p q _=>decide (p<t.p) && (decide (q<t.p) && !(p==q))
def gu(h:Wf t d):Raw t d/\isB t d=true:=by
 cases d with
 |Dd p k n=>exact⟨h.2.2.2,by simp[isB,h.1,h.2.1,h.2.2.1]⟩
 |Hr x y=>exact⟨trivial,by simp[isB,show x≠y from h]⟩
 |swap l g k n=>exact⟨h.2.2.2,by simp[isB,h.1,h.2.1,h.2.2.1]⟩
 |Cn u l g k n=>exact⟨⟨h.2.2.2.1,h.2.2.2.2⟩,by simp[isB,h.1,h.2.1,h.2.2.1]⟩
 |Dr l n=>exact⟨trivial,by simp[isB,show 1<=n from h]⟩
 |thr l n ws=>exact⟨h.2,by simp[isB,h.1]⟩
 |GQ p q x=>exact⟨h.2.2.2,by simp[isB,h.1,h.2.1,h.2.2.1]⟩
section
variable{S:Sto}{t:Tr}{w:Str}
def Ij(h1:((at? E i).isNone && decide (i<E.length))=true)(h2:at? E j=Gc (.str p))(h3:tbl.lookup p=Gc G):dF tbl i j fs E S=Ag (AD G fs) E S:=by
 unfold dF
 rw[sD h1,h2,Ay]
 dsimp only
 rw[h3,Ay]
@[simp] def c8:List.lookup (Str.ofString "partner") Eo=some EA:=nr rfl
@[simp] def kn:List.lookup (Str.ofString "kind") Eo=some DF:=nr rfl
@[simp] def lP:List.lookup (Str.ofString "load") Eo=some CP:=nr rfl
@[simp] def fU:List.lookup (Str.ofString "number") Eo=some CI:=nr rfl
@[simp] def gQ:List.lookup (Str.ofString "pieces") Eo=some EB:=nr rfl
@[simp] def fB:List.lookup (Str.ofString "worths") Eo=some EC:=nr rfl
@[simp] def jm:List.lookup (Str.ofString "share") Eo=some Cs:=nr rfl
def eE{i:Nat}:An [t.d,.str "partner",.int i] S=Gc (.bl (decide (i<t.p)),S):=by
 have e:=within_int (S:=S) (i:=i) (j:=0) (k:=(t.p:Int)-1)
 have q:(decide ((0:Int)<=i) && decide ((i:Int)<=(t.p:Int)-1))=decide (i<t.p):=by
  rw[wW];simp;lia
 rw[q]at e
 simp[An,Cc,Ij,EA,II,Tr.d,e]
def eO{i:Nat}:An [t.d,.str "kind",.int i] S=Gc (.bl (decide (i<t.k)),S):=by
 have e:=within_int (S:=S) (i:=i) (j:=0) (k:=(t.k:Int)-1)
 have q:(decide ((0:Int)<=i) && decide ((i:Int)<=(t.k:Int)-1))=decide (i<t.k):=by
  rw[wW];simp;lia
 rw[q]at e
 simp[An,Cc,Ij,DF,Ii,Tr.d,e]
def du{i:Nat}:An [t.d,.str "load",.int i] S=Gc (.bl true,S):=by
 have e:=JF (S:=S) (i:=i) (j:=0)
 have q:decide ((0:Int)<=i)=true:=by simp
 rw[q]at e
 generalize t.d=T
 simp[An,Cc,Ij,CP,Fs,e]
def hV(h0:0<=u)(h1:u<=9):An [t.d,.str "number",.int u] S=Gc (.bl true,S):=by
 have e:=within_int (S:=S) (i:=u) (j:=0) (k:=9)
 generalize t.d=T
 simp[An,Cc,Ij,CI,FD,e,h0,h1]
def gO:An [t.d,.str "pieces",.int n] S=Gc (.bl (decide (1<=n)),S):=by
 have e:=JF (S:=S) (i:=n) (j:=1)
 generalize t.d=T
 simp[An,Cc,Ij,EB,IG,e]
def gT{ws:Wp Int}(h:ws.length=t.k+1)(hk:t.k<=5)(hw:∀w∈ws,1<=w/\w<=99):An [t.d,.str "worths",.tup (ws.map .int)] S=Gc (.bl true,S):=by
 have k3:St.Kd.tup.isA "tuple"=true:=by decide
 obtain⟨bs,e1,e2⟩:=jg (S:=S) (f:=AD Al [eV 0,eI 1,eI 99]) (e:=D.int) (C:=[]) (os:=[none]) (xs:=ws) (gs:=[]) (t:=tNm 0) Ad (by lia) rfl (by
  intro r hr' os ho
  obtain⟨a,rfl⟩:=Pd ho
  have:=within_int (S:=S) (i:=r) (j:=1) (k:=99)
  exact⟨[Gc (.int r)],rfl,by simp,by simp[this,hw r hr']⟩)
 have it:Aj [.tup (ws.map .int),.int ((t.k:Int)+1)] S=Gc (.bl true,S):=by
  have:((ws.length:Int)==(t.k:Int)+1)=true:=by rw[h];simp
  simp[Aj,CU,kdW,k3,this]
 simp only[r9]at e1
 obtain⟨b',e3,e4⟩:=u4.mp e2
 have v:D9 [.tup (ws.map .int),.int ((t.k:Int)+1)] S=Gc (.bl true,S):=by
  simp[D9,IS,it]
  simp[Q7,e1,e3,e4]
 simp[An,Cc,Ij,EC,IQ,Tr.d,v]
def gA(h0:0<x.num)(h1:x.num<=x.den)(h2:x.den<=12):An [t.d,.str "share",aD x] S=Gc (.bl true,S):=by
 have nn:0<=x:=zq.mp (by lia)
 have l1:x<=1:=by rw[Rat.le_iff];simpa using h1
 have e:=PH (S:=S) nn l1
 have h2':(x.den:Int)<=12:=by exact_mod_cast h2
 generalize t.d=T
 have e':Cg [.tup [.int x.num,.int x.den]] S=Gc (.bl true,S):=e
 simp[An,Cc,Ij,Cs,F4,aD,e',h0,h2']
@[simp] def mV{t:Tf}:Bl [] t c f [] acc E S=some (acc,S):=EL Ad
def ZO{t:Tf}(h:acc.length<20)(e:t d E S=Gc E1)(g:f E1 S=Gc (y,S)):Bl [] t BX f (d::ds) acc E S=Bl [] t BX f ds (acc++[y]) E1 S:=by
 rw[HN Ad (qw h (AK (by decide))) e F6,g,Ay]
def pC:=AD An [eV 0,eV 3,eIx (eV 1) (eOp (o2 Cy) [eV 2,eI 1])]
def pT:=AN (xIf (GP (eOp (o1 WK) [B8 [0,1] 2 (cM (eV 3)) (tTp [tNm 2,tNm 3]) BX pC])) (Ag (eC (.bl false))) Bb) (Ag (eOr (eOp (o2 (wIn true)) [eV 2,eC Bz]) (eOp (o2 wNe) [eIx (eV 1) (eI 1),eIx (eV 1) (eI 2)])))
def Xh(hf:uP w EW=Gc (.tup form))(hl:xs.length=form.length):BJ [T,.tup (.str w::xs)] S=(pT [Gc T,Gc (.tup (.str w::xs)),Gc (.str w),Gc (.tup form)] S).map λr=>(flD r.1,r.2.2):=by
 have h1:(((form.length:Nat):Int)+1==0)=false:=tZ.mpr (by lia)
 have eb:LN=(AN (xIf (eOr (GP (eOp (o2 Qp) [eV 1,eC (.ty "tuple")])) (eOp (o2 wEq) [eOp (o1 Cv) [eV 1],eI 0])) (Ag (eC (.bl false))) Bb)
  (AN (BN 2 (eIx (eV 1) (eI 0)))
  (AN (xIf (eOr (GP (eOp (o2 Qp) [eV 2,eC (.ty "str")])) (eOp (o1 (Mq true EW)) [eV 2])) (Ag (eC (.bl false))) Bb)
  (AN (BN 3 (eOp (o1 (di EW)) [eV 2]))
  (AN (xIf (eOp (o2 wNe) [eOp (o1 Cv) [eV 1],eOp (o2 Cy) [eOp (o1 Cv) [eV 3],eI 1]]) (Ag (eC (.bl false))) Bb)
  pT))))):=rfl
 have k1:St.Kd.tup.isA "tuple"=true:=by decide
 have k2:St.Kd.str.isA "str"=true:=by decide
 have t1:Mq true EW (.val (.str w))=Gc (.val (.bl false)):=by
  show Gc (Wv.val (.bl (!(uP w EW).isSome)))=_
  rw[hf];rfl
 have t2:di EW (.val (.str w))=Gc (.val (.tup form)):=by
  show(uP w EW).map Wv.val=_
  rw[hf];rfl
 simp[BJ,eb,k1,k2,kdW,t1,t2,h1,hl]
def WU{bs:Wp su}(hc:Bl [] (tTp [tNm 2,tNm 3]) BX pC (OF 0 form) [] [Gc T,Gc (.tup (.str w::xs)),none,none] S=Gc (bs.map .bl,S))(hu:bs.all id=true->(eOr (eOp (o2 (wIn true)) [eV 2,eC Bz]) (eOp (o2 wNe) [eIx (eV 1) (eI 1),eIx (eV 1) (eI 2)])) [Gc T,Gc (.tup (.str w::xs)),Gc (.str w),Gc (.tup form)] S=Gc (.bl u,S)):pT [Gc T,Gc (.tup (.str w::xs)),Gc (.str w),Gc (.tup form)] S=Gc (.ret (.bl (bs.all id && u)),[Gc T,Gc (.tup (.str w::xs)),Gc (.str w),Gc (.tup form)],S):=by
 have b1:bls (bs.map D.bl)=Gc bs:=by have:=QE (λx:su=>x) (xs:=bs);simpa using this
 generalize hz:(eOr (eOp (o2 (wIn true)) [eV 2,eC Bz]) (eOp (o2 wNe) [eIx (eV 1) (eI 1),eIx (eV 1) (eI 2)]))=Z at hu
 cases q:bs.all id with
 |false=>simp[pT,Q7,hc,b1,q]
 |true=>simp[pT,Q7,hc,b1,q,hz,hu q]
end
section
variable{S:Sto}{t:Tr}{d:AO}
def PR(T:D)(S:Sto):Wp D->Wp D->Wp su->Prop
 | [],ys,bs=>ys=[]/\bs=[]
 |f::fs,ys,bs=>∃y ys' b bs',ys=y::ys'/\bs=b::bs'/\An [T,f,y] S=Gc (.bl b,S)/\PR T S fs ys' bs'
theorem Qe:∀{form ys} {bs} {k} {acc} {o2 o3},PR T S form ys bs->L.drop (k+1)=ys->acc.length+form.length<=20->Bl [] (tTp [tNm 2,tNm 3]) BX pC (OF k form) acc [Gc T,Gc (.tup L),o2,o3] S=Gc (acc++bs.map .bl,S)
 | [],ys,bs,k,acc,o2,o3,h,hd,hl=>by
   obtain⟨rfl,rfl⟩:=h
   simp[OF]
 |f::fs,ys,bs,k,acc,o2,o3,h,hd,hl=>by
  obtain⟨y,ys',b,bs',rfl,rfl,hp,h⟩:=h
  have a:atI L ((k:Int)+1)=Gc y:=by
   have:L[k+1]?=Gc y:=by
    have:=congrArg (λz=>z[0]?) hd
    simpa using this
   have:=CW (n:=k+1) this
   exact_mod_cast this
  have hd':L.drop (k+1+1)=ys':=by
   have:=congrArg List.tail hd
   simpa using this
  simp only[OF]
  rw[ZO (E1:=[Gc T,Gc (.tup L),Gc (.int k),Gc f]) (y:=.bl b) (by simp at hl;lia) (by simp) (by simp[pC,a,hp]),Qe h hd' (by simp at hl ⊢; lia)]
  simp
noncomputable def formOf:AO->Wp D
 | .Dd .. =>[.str "partner",.str "kind",.str "pieces"]
 | .Hr .. =>[.str "load",.str "load"]
 | .swap .. =>[.str "load",.str "pieces",.str "kind",.str "pieces"]
 | .Cn .. =>[.str "number",.str "load",.str "pieces",.str "kind",.str "pieces"]
 | .Dr .. =>[.str "load",.str "pieces"]
 | .thr .. =>[.str "load",.str "pieces",.str "worths"]
 | .GQ .. =>[.str "partner",.str "partner",.str "share"]
def YG{a b:Nat}:(!((a:Int)==(b:Int)))= !(a==b):=by rw[P5]
def IW(hf:uP w EW=Gc (.tup form))(hl:form.length<=20)(hp:PR T S form xs bs)(hlen:xs.length=form.length)(hu:(eOr (eOp (o2 (wIn true)) [eV 2,eC Bz]) (eOp (o2 wNe) [eIx (eV 1) (eI 1),eIx (eV 1) (eI 2)])) [Gc T,Gc (.tup (.str w::xs)),Gc (.str w),Gc (.tup form)] S=Gc (.bl u,S)):BJ [T,.tup (.str w::xs)] S=Gc (.bl (bs.all id && u),S):=by
 rw[Xh hf hlen,WU (by have:=Qe (L:=.str w::xs) (k:=0) (acc:=[]) (o2:=none) (o3:=none) hp rfl (by simpa using hl);simpa using this) λ_=>hu]
 rfl
def Mu(ht:G5 t)(h:Raw t d):BJ [t.d,d.d] S=Gc (.bl (isB t d),S):=by
 obtain⟨t1,t2,t3,t4,t5,t6⟩:=ht
 have pp:=λi:Nat=>eE (S:=S) (t:=t) (i:=i)
 have pk:=λi:Nat=>eO (S:=S) (t:=t) (i:=i)
 have pl:=λi:Nat=>du (S:=S) (t:=t) (i:=i)
 have pn:=λn:Int=>gO (S:=S) (t:=t) (n:=n)
 have kU:dr S Bz=.val Bz:=rfl
 cases d with
 |Dd p k n=>
  have:=IW (T:=t.d) (w:="bring") (xs:=[.int p,.int k,.int n]) (bs:=[decide (p<t.p),decide (k<t.k),decide (1<=n)]) (u:=true) (S:=S) (form:=formOf (.Dd p k n)) (nr rfl) (by simp[formOf]) ⟨_,_,_,_,rfl,rfl,pp p,_,_,_,_,rfl,rfl,pk k,_,_,_,_,rfl,rfl,pn n,rfl,rfl⟩ rfl (by
   generalize t.d=T
   have e:wIn true (.val (.str "bring")) (.val Bz)=Gc (.val (.bl true)):=nr rfl
   simp[kU,e])
  rw[show(AO.Dd p k n).d=.tup (.str "bring" :: [.int p,.int k,.int n])from rfl,this]
  simp[isB]
 |Hr a b=>
  have:=IW (T:=t.d) (w:="pool") (xs:=[.int a,.int b]) (bs:=[true,true]) (u:= !(a==b)) (S:=S) (form:=formOf (.Hr a b)) (nr rfl) (by simp[formOf]) ⟨_,_,_,_,rfl,rfl,pl a,_,_,_,_,rfl,rfl,pl b,rfl,rfl⟩ rfl (by
   generalize t.d=T
   have e:wIn true (.val (.str "pool")) (.val Bz)=Gc (.val (.bl false)):=nr rfl
   simp[kU,e,YG])
  rw[show(AO.Hr a b).d=.tup (.str "pool" :: [.int a,.int b])from rfl,this]
  simp[isB]
 |swap l g k n=>
  have:=IW (T:=t.d) (w:="swap") (xs:=[.int l,.int g,.int k,.int n]) (bs:=[true,decide (1<=g),decide (k<t.k),decide (1<=n)]) (u:=true) (S:=S) (form:=formOf (.swap l g k n)) (nr rfl) (by simp[formOf]) ⟨_,_,_,_,rfl,rfl,pl l,_,_,_,_,rfl,rfl,pn g,_,_,_,_,rfl,rfl,pk k,_,_,_,_,rfl,rfl,pn n,rfl,rfl⟩ rfl (by
   generalize t.d=T
   have e:wIn true (.val (.str "swap")) (.val Bz)=Gc (.val (.bl true)):=nr rfl
   simp[kU,e])
  rw[show(AO.swap l g k n).d=.tup (.str "swap" :: [.int l,.int g,.int k,.int n])from rfl,this]
  simp[isB]
 |Cn u l g k n=>
  have:=IW (T:=t.d) (w:="trade") (xs:=[.int u,.int l,.int g,.int k,.int n]) (bs:=[true,true,decide (1<=g),decide (k<t.k),decide (1<=n)]) (u:=true) (S:=S) (form:=formOf (.Cn u l g k n)) (nr rfl) (by simp[formOf]) ⟨_,_,_,_,rfl,rfl,hV h.2.1 h.2.2,_,_,_,_,rfl,rfl,pl l,_,_,_,_,rfl,rfl,pn g,_,_,_,_,rfl,rfl,pk k,_,_,_,_,rfl,rfl,pn n,rfl,rfl⟩ rfl (by
   generalize t.d=T
   have e:wIn true (.val (.str "trade")) (.val Bz)=Gc (.val (.bl true)):=nr rfl
   simp[kU,e])
  rw[show(AO.Cn u l g k n).d=.tup (.str "trade" :: [.int u,.int l,.int g,.int k,.int n])from rfl,this]
  simp[isB]
 |Dr l n=>
  have:=IW (T:=t.d) (w:="spoil") (xs:=[.int l,.int n]) (bs:=[true,decide (1<=n)]) (u:=true) (S:=S) (form:=formOf (.Dr l n)) (nr rfl) (by simp[formOf]) ⟨_,_,_,_,rfl,rfl,pl l,_,_,_,_,rfl,rfl,pn n,rfl,rfl⟩ rfl (by
   generalize t.d=T
   have e:wIn true (.val (.str "spoil")) (.val Bz)=Gc (.val (.bl true)):=nr rfl
   simp[kU,e])
  rw[show(AO.Dr l n).d=.tup (.str "spoil" :: [.int l,.int n])from rfl,this]
  simp[isB]
 |thr l n ws=>
  have:=IW (T:=t.d) (w:="throw") (xs:=[.int l,.int n,.tup (ws.map .int)]) (bs:=[true,decide (1<=n),true]) (u:=true) (S:=S) (form:=formOf (.thr l n ws)) (nr rfl) (by simp[formOf]) ⟨_,_,_,_,rfl,rfl,pl l,_,_,_,_,rfl,rfl,pn n,_,_,_,_,rfl,rfl,gT h.1 t4 h.2,rfl,rfl⟩ rfl (by
   generalize t.d=T
   have e:wIn true (.val (.str "throw")) (.val Bz)=Gc (.val (.bl true)):=nr rfl
   simp[kU,e])
  rw[show(AO.thr l n ws).d=.tup (.str "throw" :: [.int l,.int n,.tup (ws.map .int)])from rfl,this]
  simp[isB]
 |GQ p q x=>
  have:=IW (T:=t.d) (w:="sell") (xs:=[.int p,.int q,aD x]) (bs:=[decide (p<t.p),decide (q<t.p),true]) (u:= !(p==q)) (S:=S) (form:=formOf (.GQ p q x)) (nr rfl) (by simp[formOf]) ⟨_,_,_,_,rfl,rfl,pp p,_,_,_,_,rfl,rfl,pp q,_,_,_,_,rfl,rfl,gA h.1 h.2.1 h.2.2,rfl,rfl⟩ rfl (by
   generalize t.d=T
   have e:wIn true (.val (.str "sell")) (.val Bz)=Gc (.val (.bl false)):=nr rfl
   simp[kU,e,YG])
  rw[show(AO.GQ p q x).d=.tup (.str "sell" :: [.int p,.int q,aD x])from rfl,this]
  simp[isB,Bool.and_assoc]
end
section
variable{S:Sto}{E:En}{C f m:Str}{o v:Ev}{fs:Wp Ev}{F:Fn}{R:Rf}
@[simp] def jV:Fx C f o E S=(o E S).bind λr=>(Ib r.2 C r.1).bind λas=>(as.lookup f).map λd=>(d,r.2):=nr rfl
@[simp] def iI:C4 C m F o fs E S=(o E S).bind λr=>(Ib r.2 C r.1).bind λas=>if(as.lookup m).isNone=true then(evs fs E r.2).bind λq=>F (r.1::q.1) q.2 else none:=nr rfl
def JP:MU C m R o fs E S=(o E S).bind λr=>(Ib r.2 C r.1).bind λas=>if(as.lookup m).isNone=true then(evs fs E r.2).bind λq=>(R (r.1::q.1) q.2).map λz=>(z.1,E,z.2)else none:=nr rfl
def J9(e1:v E S=Gc (d,S1))(e2:o E S1=Gc (.ref n,S2))(e3:S2[n]?=Gc (.ins C as))(hl:as.length<1000):Qa C f o v E S=Gc (.nx,E,S2.set n (.ins C (JB f d as))):=by
 unfold Qa
 rw[e1,Ay,e2,Ay,RJ e3,Ay]
 exact sD hl
end
noncomputable def lds(b:D)(q:Nat):Wp (Str×D):=[("kept",b),("earlier",.ref q)]
@[simp] def pH:(lds b q).lookup (Str.ofString "kept")=some b:=nr rfl
@[simp] def qR:(lds b q).lookup (Str.ofString "earlier")=some (.ref q):=nr rfl
noncomputable def lead(b:D)(q:Nat):Cl:=.ins "Leader" (lds b q)
structure LAt(S:Sto)(L q:Nat)(b:D)(es:Wp D):Prop where
 ob:S[L]?=Gc (lead b q)
 er:S[q]?=Gc (.lst es)
section
variable{S S':Sto}{L q:Nat}{b b':D}{es:Wp D}
def LAt.ne(h:LAt S L q b es):q≠L:=λz=>by
 have e:=h.er
 rw[z,h.ob]at e
 cases e
def LAt.ins(h:LAt S L q b es):Ib S "Leader" (.ref L)=Gc (lds b q):=RJ h.ob
def LAt.same(h:LAt S L q b es)(s:Ba [] S S'):LAt S' L q b es:=⟨s.get h.ob (by simp),s.get h.er (by simp)⟩
def U7(h:LAt S L q b es)(hm:es.length<1000):∃S',Ak [.ref L,b'] S=Gc (.non,S')/\LAt S' L q b' (es++[b])/\Ba [L,q] S S':=by
 have e:=h.er
 have ne:=h.ne
 have hq:=AQ e
 have hL:=AQ h.ob
 have i1:=h.ins
 have c1:=AJ e
 have sz:es.length<sizeLine:=qw hm (AK (by decide))
 have o1:(S.set q (.lst (es++[b])))[L]?=Gc (lead b q):=by rw[rA ne];exact h.ob
 have x:=J9 (d:=b') (n:=L) (f:="kept") (E:=[Gc (D.ref L),Gc b']) (o:=eV 0) (v:=eV 1) (S:=S.set q (.lst (es++[b]))) (C:="Leader") (S1:=S.set q (.lst (es++[b]))) (S2:=S.set q (.lst (es++[b]))) (by simp) (by simp) o1 (by simp[lds])
 refine⟨(S.set q (.lst (es++[b]))).set L (lead b' q),?_,⟨rF (by simpa using hL),?_⟩,(Ba.set (by simp)).trans (.set (by simp))⟩
 .generalize hz:Qa "Leader" "kept" (eV 0) (eV 1)=Z at x
  have eb:Fg=(AN (BP (HG J4 (Fx "Leader" "earlier" (eV 0)) [Fx "Leader" "kept" (eV 0)])) Z):=by rw[<-hz];rfl
  have x':Z [Gc (D.ref L),Gc b'] (S.set q (.lst (es++[b])))=Gc (.nx,[Gc (D.ref L),Gc b'],(S.set q (.lst (es++[b]))).set L (lead b' q)):=x
  simp[Ak,eb,i1,c1,sz,x']
 .rw[rA ne.symm]
  exact rF (by simpa using hq)
def Np{S:Sto}{es:Wp D}{x:D}:QS S (es++[x]) []=Gc (x,es):=by
 unfold QS
 simp
def QT(h:LAt S L q b es):Ar [.ref L] S=Gc (b,S):=by
 simp[Ar,Hj,h.ins]
def VW(h:LAt S L q b (es++[b'])):∃S',Aq [.ref L] S=Gc (.non,S')/\LAt S' L q b' es/\Ba [L,q] S S':=by
 have e:=h.er
 have ne:=h.ne
 have hq:=AQ e
 have hL:=AQ h.ob
 have i1:=h.ins
 have c1:=AJ e
 have d1:=Ac e
 have oo:(S.set q (.lst es))[L]?=Gc (lead b q):=by rw[rA ne];exact h.ob
 have mp:QS S (es++[b']) []=Gc (b',es):=Np
 have v1:HG QS (Fx "Leader" "earlier" (eV 0)) [] [Gc (D.ref L)] S=Gc (b',S.set q (.lst es)):=by
  simp[i1,c1,mp]
 have x:=J9 (d:=b') (n:=L) (f:="kept") (E:=[Gc (D.ref L)]) (o:=eV 0) (v:=HG QS (Fx "Leader" "earlier" (eV 0)) []) (S:=S) (C:="Leader") (S1:=S.set q (.lst es)) (S2:=S.set q (.lst es)) v1 (by simp) oo (by simp[lds])
 refine⟨(S.set q (.lst es)).set L (lead b' q),?_,⟨rF (by simpa using hL),?_⟩,(Ba.set (by simp)).trans (.set (by simp))⟩
 .generalize hz:Qa "Leader" "kept" (eV 0) (HG QS (Fx "Leader" "earlier" (eV 0)) [])=Z at x
  have eb:Ew=(AN (xIf (eOp (o2 wEq) [eOp (o1 Cv) [Fx "Leader" "earlier" (eV 0)],eI 0]) Bj Bb) Z):=by rw[<-hz];rfl
  have x':Z [Gc (D.ref L)] S=Gc (.nx,[Gc (D.ref L)],(S.set q (.lst es)).set L (lead b' q)):=x
  have n0:((es.length:Int)+1==0)=false:=by simp;lia
  have ok:Kr (.int ((es.length:Int)+1)) (.int 0)=true:=rfl
  simp[Aq,eb,i1,d1,n0,x']
 .rw[rA ne.symm]
  exact rF (by simpa using hq)
def Zj(h:LAt S L q b []):Aq [.ref L] S=none/\CS [.ref L] S=Gc (⟨"NothingDone",none⟩,S):=by
 have e:=h.er
 have i1:=h.ins
 have d1:=Ac e
 have xs:∀E S,Bj E S=none:=λ_ _=>rfl
 constructor
 .simp[Aq,Ew,i1,d1,xs]
 .have c:eOp (o2 wEq) [eOp (o1 Cv) [Fx "Leader" "earlier" (eV 0)],eI 0] [Gc (.ref L)] S=Gc (.bl true,S):=by simp[i1,d1]
  unfold CS
  rw[Ga]
  show(Dk [Gc (.ref L)] S).map _=_
  have hr:Dk [Gc (.ref L)] S=Gc (⟨"NothingDone",none⟩,[Gc (.ref L)],S):=by
   unfold Dk
   refine Qd ?_
   unfold rIf
   rw[c]
   show Ef _ _ _ _=_
   unfold Ef
   simp
  rw[hr]
  rfl
end
noncomputable def nxR(r2:Rx)(q:Fl×En×Sto):qz (Tg×En×Sto):=match q.1 with
 | .nx=>r2 q.2.1 q.2.2
 | .ret _=>none
def UE:nxR r2 (.nx,E,S)=r2 E S:=nr rfl
def K0:JK r f r2 E S=(r E S).or ((f E S).bind (nxR r2)):=by
 unfold JK
 cases r E S with
 |some z=>exact nr rfl
 |none=>exact nr rfl
def Pr:rNo E S=none:=nr rfl
noncomputable def ifR(r1 r2:Rx)(E:En)(q:D×Sto):qz (Tg×En×Sto):=match q.1 with
 | .bl true=>r1 E q.2
 | .bl false=>r2 E q.2
 |_=>none
def eD:ifR r1 r2 E (.bl true,S)=r1 E S:=nr rfl
def fP:ifR r1 r2 E (.bl false,S)=r2 E S:=nr rfl
def Pu:rIf k r1 r2 E S=(k E S).bind (ifR r1 r2 E):=nr rfl
def O4:QX R fs E S=(evs fs E S).bind λq=>(R q.1 q.2).map λz=>(z.1,E,z.2):=nr rfl
def Mt:Ef x fs E S=(evs fs E S).map λq=>(⟨x,none⟩,E,q.2):=nr rfl
def lG{N:Nat}{ds:Wp D}:AS (Lb N r) ds S=(r (ds.map Gc++rQ (N-ds.length) none) S).map λq=>(q.1,q.2.2):=by
 rw[Ga];rfl
def Mn:Bj E S=none:=nr rfl
section
variable{S:Sto}{t:Tr}{st:Stt}{d:AO}{ls:Wp Ld}{ds:Wp AO}
noncomputable def makes:AO->su
 | .Dd _ _ _=>true
 | .Hr _ _=>true
 | .swap _ _ _ _=>true
 | .Cn _ _ _ _ _=>true
 | .Dr _ _=>false
 | .thr _ _ _=>false
 | .GQ _ _ _=>false
noncomputable def wordOf:AO->Str
 | .Dd _ _ _=>"bring"
 | .Hr _ _=>"pool"
 | .swap _ _ _ _=>"swap"
 | .Cn _ _ _ _ _=>"trade"
 | .Dr _ _=>"spoil"
 | .thr _ _ _=>"throw"
 | .GQ _ _ _=>"sell"
def Um(d:AO):∃r,d.d=.tup (.str (wordOf d)::r):=by
 cases d<;>exact⟨_,rfl⟩
def VF:wIn true (.val (.str (wordOf d))) (.val BZ)=Gc (.val (.bl (!makes d))):=by
 cases d<;>exact nr rfl
def SU:wIn false (.val (.str (wordOf d))) (.val BZ)=Gc (.val (.bl (makes d))):=by
 cases d<;>exact nr rfl
def UJ:wIn false (.val (.str (wordOf d))) (.val (.tup [.str "bring",.str "pool",.str "swap",.str "trade"]))=Gc (.val (.bl (makes d))):=by
 cases d<;>exact nr rfl
noncomputable def cnt(ls:Wp Ld)(ds:Wp AO):Int:=(ls.length:Int)+((ds.filter makes).length:Int)
def aC{m:Nat}(hm:ds[m]?=Gc d):atI (ds.map AO.d) (m:Int)=Gc d.d:=CW (by rw[rY,hm];rfl)
def gY{os:En}(hX:∀{d},wIn false (.val (.str (wordOf d))) (dr S X)=Gc (.val (.bl (makes d))))(ho:os.length=1){xs:Wp AO}(hl:xs.length<=100)(hf:∀E,f E S=Gc (X,S)):Bl [] (tNm 0) (eOp (o2 (wIn false)) [eIx (eV 0) (eI 0),f]) (eV 0) (xs.map AO.d) [] os S=Gc ((xs.filter makes).map AO.d,S):=by
 have:=FW (gs:=[]) (t:=tNm 0) (c:=eOp (o2 (wIn false)) [eIx (eV 0) (eI 0),f]) (f:=eV 0) (C:=[]) (m:=1) (e:=AO.d) (g:=AO.d) (b:=makes) (S:=S) Ad (xs:=xs) (acc:=[]) (os:=os) ho (AK (by simp;lia)) (by
  intro x hx os ho
  obtain⟨a,rfl⟩:=Pd ho
  obtain⟨r,e⟩:=Um x
  refine⟨[Gc x.d],rfl,by simp,?_,by simp⟩
  rw[e]
  have h1:=hX (d:=x)
  simp[hf,h1])
 simpa using this
def XF(h:m<ds.length):DQ [AH t ls ds,.int m] S=Gc (.bl true,S):=by
 have w:=within_int (S:=S) (i:=m) (j:=0) (k:=(ds.length:Int)-1)
 have w2:(m:Int)<=(ds.length:Int)-1:=by lia
 simp[DQ,Kh,AH,w,w2]
def QJ{m:Nat}(h:Bo t ls ds)(hm:ds[m]?=Gc d):D0 [AH t ls ds,.int m] S=Gc (if makes d=true then .int (cnt ls (ds.take m))else .non,S):=by
 have hlt:=(rB.mp hm).1
 have hl:=h.len
 have r1:=JG (S:=S) h
 have pl:=XF (S:=S) (t:=t) (ls:=ls) hlt
 have a:=aC hm
 obtain⟨r,e⟩:=Um d
 rw[e]at a
 have hk:dr S BZ=.val BZ:=rfl
 have im:=VF (d:=d)
 cases hmk:makes d with
 |false=>
  rw[hmk]at im
  simp[D0,Iv,r1,pl]
  simp[AH,a,hk,im]
 |true=>
  rw[hmk]at im
  have c:=gY (S:=S) (X:=BZ) (os:=[none]) (by rw[hk];exact SU) rfl (xs:=ds.take m) (by simp;lia) (f:=eC BZ) (λ_=>rfl)
  have sl:wSl none (Gc (m:Int)) (.val (.tup (ds.map AO.d)))=Gc (.val (.tup ((ds.take m).map AO.d))):=by
   show Gc (Wv.val (.tup (MO _ _ _)))=_
   rw[Jd (by simp;lia),wQ]
  have ml:C6 [AH t ls ds,.int m] S=Gc (.int (cnt ls (ds.take m)),S):=by
   rw[wQ]at c sl
   simp[C6,IK,AH,sl,c,cnt]
  have ml2:C6 [.tup [t.d,.tup (ls.map Ld.d),.tup (ds.map AO.d)],.int m] S=Gc (.int (cnt ls (ds.take m)),S):=ml
  simp[D0,Iv,r1,pl,ml]
  simp[AH,a,hk,im,ml2]
noncomputable def MY(ds:Wp AO):Nat:=(ds.filter JE).length
def U8{os:En}(ho:os.length=1)(hl:ds.length<=50):Bl [] (tNm 0) (eOp (o2 wEq) [eIx (eV 0) (eI 0),eC (.str "throw")]) (eV 0) (ds.map AO.d) [] os S=Gc ((ds.filter JE).map AO.d,S):=by
 have:=FW (gs:=[]) (t:=tNm 0) (c:=eOp (o2 wEq) [eIx (eV 0) (eI 0),eC (.str "throw")]) (f:=eV 0) (C:=[]) (m:=1) (e:=AO.d) (g:=AO.d) (b:=JE) (S:=S) Ad (xs:=ds) (acc:=[]) (os:=os) ho (AK (by simp;lia)) (by
  intro x hx os ho
  obtain⟨a,rfl⟩:=Pd ho
  exact⟨[Gc x.d],rfl,by simp,Wr x _ rfl,by simp⟩)
 simpa using this
def Oh(ht:G5 t)(hw:∀d∈ds,Wf t d)(hl:ds.length<=50):BO [t.d,.tup (ds.map AO.d)] S=Gc (.bl (decide (ds.length<=20) && decide (MY ds<=3)),S):=by
 have k3:St.Kd.tup.isA "tuple"=true:=by decide
 have d1:dr S Ft=.val (.int 20):=rfl
 have d2:dr S Em=.val (.int 3):=rfl
 by_cases c:ds.length<=20
 .obtain⟨bs,e1,e2⟩:=jg (S:=S) (f:=AD BJ [eV 0,eV 1]) (e:=AO.d) (C:=[Gc t.d]) (os:=[none]) (xs:=ds) (gs:=[]) (t:=tNm 1) Ad (by lia) rfl (by
   intro x hx os ho
   obtain⟨a,rfl⟩:=Pd ho
   have⟨r,i⟩:=gu (hw x hx)
   have e:=Mu (S:=S) ht r
   rw[i]at e
   exact⟨[Gc x.d],rfl,by simp,by simp[e]⟩)
  obtain⟨b',e3,e4⟩:=u4.mp e2
  have tc:=U8 (S:=S) (os:=[none]) rfl hl
  have c1:¬(20:Int)<ds.length:=by lia
  have c2:decide ((((ds.filter JE).length:Nat):Int)<=3)=decide (MY ds<=3):=by
   unfold MY
   rw[wW];simp;lia
  generalize t.d=T at*
  simp[BO,Gj,kdW,k3,d1,d2,c,c1,Q7]
  try simp only[sQ,r9]at e1
  simp[e1,e3,e4,tc,d2,c2]
 .have c1:(20:Int)<ds.length:=by lia
  generalize t.d=T
  simp[BO,Gj,kdW,k3,d1,d2,c,c1]
end
section
variable{S:Sto}{t:Tr}{st:Stt}{d:AO}{ls:Wp Ld}{ds:Wp AO}{L q:Nat}{es:Wp D}{X:D}{o:qz D}
def gR(h:Can t st d):Wf t d:=(Yz h).1
theorem U1:∀{ds} {st:Stt},KJ t st ds->∀d∈ds,Wf t d
 | [],st,_,d,hd=>by cases hd
 |x::ds,st,h,d,hd=>by
  rcases qy.mp hd with rfl|hd
  .exact gR h.1
  .exact U1 h.2 d hd
def take_snoc:(ds++[d]).take ds.length=ds:=by simp
def bkE:=Bn [eV 2,eV 3,eOp (o2 Cy) [eV 4,Bn [eV 1]]]
def doB(Z:Ev):Ex:=(AN (xIf (GP (AD BJ [eV 2,eV 1])) Bj Bb) (AN (BN 5 Z) (AN (BP (AD Ai [eV 5])) (AN (xIf (GP (AD BO [eV 2,eIx (eV 5) (eI 2)])) Bj Bb) (AN (BP (C4 "Leader" "turn_to" Ak (eV 0) [eV 5])) (Ag (AD D0 [eV 5,eOp (o1 Cv) [eV 4]])))))))
def doR(Z:Ev):Rx:=(JK (rIf (GP (AD BJ [eV 2,eV 1])) (Ef "NoDeed" [eC (.str "this is no deed of the train")]) rNo) (xIf (GP (AD BJ [eV 2,eV 1])) Bj Bb) (JK rNo (BN 5 Z) (JK rNo (BP (AD Ai [eV 5])) (JK (rIf (GP (AD BO [eV 2,eIx (eV 5) (eI 2)])) (Ef "TooMany" [eC (.str "a book hasn't so many deeds or throws")]) rNo) (xIf (GP (AD BO [eV 2,eIx (eV 5) (eI 2)])) Bj Bb) (JK rNo (BP (C4 "Leader" "turn_to" Ak (eV 0) [eV 5])) (QX IY [eV 5,eOp (o1 Cv) [eV 4]]))))))
def Vq(h:LAt S L q (AH t ls ds) es):(Jn (tTp [tNm 2,tNm 3,tNm 4]) (Fx "Leader" "kept" (eV 0))) [Gc (.ref L),o,none,none,none,none] S=Gc (.nx,[Gc (.ref L),o,Gc t.d,Gc (.tup (ls.map Ld.d)),Gc (.tup (ds.map AO.d)),none],S):=by
 simp[h.ins,AH]
def iQ(h:LAt S L q (AH t ls ds) es):CG [.ref L,X] S=(doB bkE [Gc (.ref L),Gc X,Gc t.d,Gc (.tup (ls.map Ld.d)),Gc (.tup (ds.map AO.d)),none] S).map (λr=>(flD r.1,r.2.2))/\Cm [.ref L,X] S=(doR bkE [Gc (.ref L),Gc X,Gc t.d,Gc (.tup (ls.map Ld.d)),Gc (.tup (ds.map AO.d)),none] S).map λr=>(r.1,r.2.2):=by
 have u:=λo=>Vq h (o:=o)
 constructor
 .generalize hz:(Jn (tTp [tNm 2,tNm 3,tNm 4]) (Fx "Leader" "kept" (eV 0)))=Z at u
  have eb:JL=AN Z (doB bkE):=by rw[<-hz];rfl
  generalize doB bkE=B at*
  simp[CG,eb,u]
 .generalize hz:(Jn (tTp [tNm 2,tNm 3,tNm 4]) (Fx "Leader" "kept" (eV 0)))=Z at u
  have eb:Jc=JK rNo Z (doR bkE):=by rw[<-hz];rfl
  generalize doR bkE=B at*
  simp[Cm,eb,lG,K0,Pr,u,UE]
def dY(hL:LAt S L q (AH t ls ds) es)(hm:es.length<1000)(bok:Bo t ls (ds++[d])):(3<MY (ds++[d])->CG [.ref L,d.d] S=none/\Cm [.ref L,d.d] S=Gc (⟨"TooMany",none⟩,S))/\(MY (ds++[d])<=3->∃S',CG [.ref L,d.d] S=Gc (if makes d=true then .int (cnt ls ds)else .non,S')/\LAt S' L q (AH t ls (ds++[d])) (es++[AH t ls ds])/\Ba [L,q] S S'):=by
 obtain⟨r1,r2⟩:=iQ hL (X:=d.d)
 have hw:=U1 bok.good
 obtain⟨hr,hb⟩:=gu (hw d (by simp))
 have i:=Mu (S:=S) bok.tr hr
 rw[hb]at i
 have hlen:(ds++[d]).length<=16:=bok.len
 have hl2:ds.length+1<=16:=by simpa using hlen
 have bk:bkE [Gc (.ref L),Gc d.d,Gc t.d,Gc (.tup (ls.map Ld.d)),Gc (.tup (ds.map AO.d)),none] S=Gc (AH t ls (ds++[d]),S):=by
  have sz:ds.length+1<=sizeLine:=AK (by lia)
  have s3:1+1+1<=sizeLine:=AK (by decide)
  simp[bkE,sz,AH,s3]
 have b2:atI [t.d,.tup (ls.map Ld.d),.tup ((ds++[d]).map AO.d)] 2=Gc (.tup ((ds++[d]).map AO.d)):=nr rfl
 have u1:=JG (S:=S) bok
 have ad:=Oh (S:=S) (ds:=ds++[d]) bok.tr hw (by simp;lia)
 generalize bkE=Z at*
 refine⟨λc=>?_,λc=>?_⟩
 .have af:(decide ((ds++[d]).length<=20) && decide (MY (ds++[d])<=3))=false:=by
   rw[Bool.and_eq_false_iff]
   right;simp;lia
  rw[af]at ad
  rw[r1,r2]
  have db:dr S (AH t ls (ds++[d]))=.val (AH t ls (ds++[d])):=rfl
  have ib:asS (.val (AH t ls (ds++[d])))=Gc [t.d,.tup (ls.map Ld.d),.tup ((ds++[d]).map AO.d)]:=rfl
  generalize AH t ls (ds++[d])=BK at*
  generalize (ds++[d]).map AO.d=DD at*
  constructor
  .simp[doB,i,bk,u1,db,ib,b2,ad,Mn]
  .simp[doR,i,bk,K0,Pu,fP,eD,Pr,UE,O4,Mt,u1,db,ib,b2,ad]
 .have af:(decide ((ds++[d]).length<=20) && decide (MY (ds++[d])<=3))=true:=by
   rw[rH]
   exact⟨by simp;lia,by simp;lia⟩
  rw[af]at ad
  obtain⟨S',e1,l1,s1⟩:=U7 hL hm (b':=AH t ls (ds++[d]))
  have mb:=QJ (S:=S') bok (m:=ds.length) (d:=d) (by simp)
  rw[take_snoc]at mb
  refine⟨S',?_,l1,s1⟩
  rw[r1]
  have db:dr S (AH t ls (ds++[d]))=.val (AH t ls (ds++[d])):=rfl
  have ib:asS (.val (AH t ls (ds++[d])))=Gc [t.d,.tup (ls.map Ld.d),.tup ((ds++[d]).map AO.d)]:=rfl
  have hi:=hL.ins
  generalize AH t ls (ds++[d])=BK at*
  generalize (ds++[d]).map AO.d=DD at*
  have lt:(lds (AH t ls ds) q).lookup (sI "turn_to")=none:=nr rfl
  simp[doB,i,bk,u1,db,ib,b2,ad,hi,lt,e1,mb]
end
section
variable{S:Sto}{t:Tr}{st:Stt}{ls:Wp Ld}{ds:Wp AO}{L q:Nat}{es:Wp D}
def VR{C m:Str}{o:Ev}{r:Rx}{E:En}:Vu C m o r E S=(o E S).bind λa=>(Ib a.2 C a.1).bind λas=>if(as.lookup m).isNone=true then r E a.2 else none:=nr rfl
@[simp] def oO{b:D}:(lds b q).lookup (Str.ofString "turn_to")=none:=nr rfl
def stC:=eOp (o2 wEq) [eOp (o1 Cv) [eIx (Fx "Leader" "kept" (eV 0)) (eI 2)],eI 0]
def Yj(hL:LAt S L q (AH t ls ds) es):stC [Gc (.ref L)] S=Gc (.bl (decide (ds=[])),S):=by
 have b2:asS (dr S (AH t ls ds))=Gc [t.d,.tup (ls.map Ld.d),.tup (ds.map AO.d)]:=rfl
 have hi:=hL.ins
 generalize AH t ls ds=bk at*
 cases ds with
 |nil=>simp[stC,hi,b2]
 |cons d ds=>
  have:((ds.length:Int)+1==0)=false:=by simp;lia
  simp[stC,hi,b2,this]
def Xb(hL:LAt S L q (AH t ls []) es):Aw [.ref L] S=none/\BW [.ref L] S=Gc (⟨"NoNext",none⟩,S):=by
 have c:=Yj hL
 rw[uT rfl]at c
 constructor
 .have eb:EX=(AN (xIf stC Bj Bb) (BP (C4 "Leader" "turn_to" Ak (eV 0) [AD Bv [Fx "Leader" "kept" (eV 0)]]))):=rfl
  generalize stC=C at*
  simp[Aw,eb,c,Mn]
 .have eb:EV=(JK (rIf stC (Ef "NoNext" [eC (.str "a book without deeds has no next book")]) rNo) (xIf stC Bj Bb) (Vu "Leader" "turn_to" (eV 0) (QX Cq [Fx "Leader" "kept" (eV 0)]))):=rfl
  generalize stC=C at*
  simp[BW,eb,lG,K0,Pu,c,eD,Mt]
def XG(hL:LAt S L q (AH t ls ds) es)(hm:es.length<1000)(hd:ds≠[])(h:Bo t ls ds)(hh:HOk t)(ho:MW ls/\t.ho.sum=1)(hst:runs t (st0 t ls) ds=st):((ovs t st).length<=4->∃S',Aw [.ref L] S=Gc (.non,S')/\LAt S' L q (AH (nxT t st) (ovs t st) []) (es++[AH t ls ds])/\Ba [L,q] S S')/\(4<(ovs t st).length->∃S',Aw [.ref L] S=none/\BW [.ref L] S=Gc (⟨"TooMany",none⟩,S')/\Ba [] S S'):=by
 have c:=Yj hL
 rw[vM hd]at c
 have hi:=hL.ins
 have eb:EX=(AN (xIf stC Bj Bb) (BP (C4 "Leader" "turn_to" Ak (eV 0) [AD Bv [Fx "Leader" "kept" (eV 0)]]))):=rfl
 have er:EV=(JK (rIf stC (Ef "NoNext" [eC (.str "a book without deeds has no next book")]) rNo) (xIf stC Bj Bb) (Vu "Leader" "turn_to" (eV 0) (QX Cq [Fx "Leader" "kept" (eV 0)]))):=rfl
 refine⟨λhl=>?_,λhl=>?_⟩
 .obtain⟨S1,e1,s1⟩:=UM (S:=S) h hh ho hst hl
  obtain⟨S2,e2,l2,s2⟩:=U7 (hL.same s1) hm (b':=AH (nxT t st) (ovs t st) [])
  refine⟨S2,?_,l2,(s1.mono λ_ z=>nomatch z).trans s2⟩
  generalize stC=C at*
  generalize AH (nxT t st) (ovs t st) []=nb at*
  generalize AH t ls ds=bk at*
  simp[Aw,eb,c,hi,e1,e2]
 .obtain⟨S1,e1,e2,s1⟩:=VG (S:=S) h hh ho hst hl
  refine⟨S1,?_,?_,s1⟩
  .generalize stC=C at*
   generalize AH t ls ds=bk at*
   simp[Aw,eb,c,hi,e1]
  .generalize stC=C at*
   generalize AH t ls ds=bk at*
   simp[BW,er,lG,K0,Pu,c,fP,Pr,UE,VR,O4,hi,e2]
end
section
variable{S:Sto}{t:Tr}{st:Stt}{ls:Wp Ld}{ds:Wp AO}{p:Nat}
def goB:=BP (AD Dw [eIx (eV 1) (eI 0),eV 2,eV 3])
theorem fJ{s l m:Nat}{a0:qz D}{ds0:Wp AO}(ht:G5 t):∀{es:Wp AO} {st:Stt} {k:Nat} {as:Wp Nat} {S:Sto} {o:qz D},SAt S s l m as st->Ee t k st->KJ t st es->k+es.length<=17->∃S' as' o',Kv [] (tNm 3) goB (es.map AO.d) [a0,Gc (AH t ls ds0),Gc (.ref s),o] S=Gc (.nx,[a0,Gc (AH t ls ds0),Gc (.ref s),o'],S')/\SAt S' s l m as' (runs t st es)/\Ba (s::l::m::as) S S'/\(∀n∈as',n∈as\/S.length<=n)
 | [],st,k,as,S,o,hS,inv,g,hl=>⟨S,as,o,by rw[tP,Fi Ad],hS,.refl,λn h=>.inl h⟩
 |d::es,st,k,as,S,o,hS,inv,g,hl=>by
  obtain⟨S1,as1,k1,k2,k3,k4⟩:=lZ hS ht inv (by simp at hl;lia) g.1
  obtain⟨S2,as2,o',q1,q2,q3,q4⟩:=fJ (a0:=a0) (ds0:=ds0) ht (o:=Gc d.d) k2 (K2 ht inv (by simp at hl;lia) g.1) g.2 (by simp at hl;lia)
  refine⟨S2,as2,o',?_,q2,?_,λn hn=>?_⟩
  .rw[rT,DR Ad]
   have e:goB [a0,Gc (AH t ls ds0),Gc (.ref s),Gc d.d] S=Gc (.nx,[a0,Gc (AH t ls ds0),Gc (.ref s),Gc d.d],S1):=by
    have as0:asS (dr S (AH t ls ds0))=Gc [t.d,.tup (ls.map Ld.d),.tup (ds0.map AO.d)]:=rfl
    generalize AH t ls ds0=bk at*
    simp[goB,as0,k1]
   generalize goB=GB at*
   generalize AH t ls ds0=bk at*
   simp[e,q1]
  .refine⟨q8 k3.len q3.len,λn hn ha=>(q3.keep n (qw hn k3.len) λz=>?_).trans (k3.keep n hn ha)⟩
   simp only[qy,vg]at z ha
   rcases z with z|z|z|z
   .exact ha.1 z
   .exact ha.2.1 z
   .exact ha.2.2.1 z
   .rcases k4 _ z with w|w
    .exact ha.2.2.2 w
    .lia
  .rcases q4 n hn with w|w
   .exact k4 n w
   .exact .inr (q8 k3.len w)
def Zu(pen:Dx p S)(h:Bo t ls ds):∃d S',GH [.ref p,AH t ls ds] S=Gc (AO.d d,S')/\Pn p S S'/\Can t (runs t (st0 t ls) ds) d:=by
 have ht:=h.tr
 have hl:=h.four
 obtain⟨k,hk,inv⟩:=h.lev
 obtain⟨s,l,m,as,S1,e1,hS,sm,hn⟩:=XO (S:=S) (t:=t) (ls:=ls) (x:=.tup (ds.map AO.d)) (by lia)
 obtain⟨S2,as2,o',e2,hS2,sm2,hn2⟩:=fJ (ls:=ls) (a0:=Gc (.ref p)) (ds0:=ds) (o:=none) ht (show SAt S1 s l m as (st0 t ls)from hS) inv h.good (by lia)
 have pn:p∉s::l::m::as:=λz=>by have:=hn p z;have:=pen.lt;lia
 have s12:Ba [] S S2:=Ba.new (A:=[]) (B:=s::l::m::as) sm (by simpa using sm2) hn
 have pen2:Dx p S2:=by
  obtain⟨ds,e,hp⟩:=pen
  exact⟨ds,s12.get e (by simp),hp⟩
 have pn2:p∉s::l::m::as2:=λz=>by
  simp only[qy,vg]at z pn
  rcases z with z|z|z|z
  .exact pn.1 z
  .exact pn.2.1 z
  .exact pn.2.2.1 z
  .rcases hn2 _ z with w|w
   .exact pn.2.2.2 w
   .have:=pen.lt;have:=sm.len;lia
 obtain⟨k',hk',inv2⟩:=h.lv
 obtain⟨d,S3,e3,p3,can⟩:=Zv pen2 hS2 pn2 ht inv2 hk'
 refine⟨d,S3,?_,⟨⟨q8 s12.len p3.same.len,λn hn ha=>(p3.same.keep n (qw hn s12.len) ha).trans (s12.keep n hn (by simp))⟩,p3.pen⟩,can⟩
 have eb:Mv=(AN (BN 2 (AD FQ [eV 1])) (AN (NJ (GO (eIx (eV 1) (eI 2))) (tNm 3) goB) (Ag (AD DX [eV 0,eIx (eV 1) (eI 0),eV 2])))):=rfl
 generalize goB=GB at*
 simp only[AH]at e2⊢
 have dt:∀T:Sto,dr T t.d=.val t.d:=λ_=>rfl
 simp[GH,eb,e1,e2,e3]
end
section
variable{S:Sto}{t:Tr}{st:Stt}{ls:Wp Ld}{ds:Wp AO}{p:Nat}{d:AO}
noncomputable def MN(ls:Wp Ld)(ds:Wp AO)(d:AO):D:=if makes d=true then .int (cnt ls ds)else .non
noncomputable def WG(ls:Wp Ld)(ds:Wp AO)(d:AO):D:=if 3<MY (ds++[d])then .str "many" else MN ls ds d
def U0:MY (ds++[d])=MY ds+(if JE d=true then 1 else 0):=by
 unfold MY
 rw[List.filter_append,sk]
 cases h:JE d<;>simp[h]
def Xq(hl:ds.length<=50)(h3:MY ds<=3):Bp [AH t ls ds,d.d] S=Gc (WG ls ds d,S):=by
 have tc:=U8 (S:=S) (os:=[none]) rfl hl
 have mc:=gY (S:=S) (X:=.tup [.str "bring",.str "pool",.str "swap",.str "trade"]) (os:=[none]) (λ{d}=>UJ) rfl (xs:=ds) (by lia) (f:=Bn [eC (.str "bring"),eC (.str "pool"),eC (.str "swap"),eC (.str "trade")]) (λE=>by
  have s4:1+1+1+1<=sizeLine:=AK (by decide)
  simp[s4])
 have s4:1+1+1+1<=sizeLine:=AK (by decide)
 generalize hz:(eOp (o2 (wIn false)) [eIx (eV 0) (eI 0),Bn [eC (.str "bring"),eC (.str "pool"),eC (.str "swap"),eC (.str "trade")]])=Z at mc
 generalize hy:(eOp (o2 wEq) [eIx (eV 0) (eI 0),eC (.str "throw")])=Y at tc
 have c1:(eOp (o2 wEq) [eIx (eV 1) (eI 0),eC (.str "throw")]) [Gc (AH t ls ds),Gc d.d] S=Gc (.bl (JE d),S):=by
  cases d<;>simp[AO.d,JE]
 generalize hw:(eOp (o2 wEq) [eIx (eV 1) (eI 0),eC (.str "throw")])=W at c1
 have c2:(eOp (o2 (wIn false)) [eIx (eV 1) (eI 0),Bn [eC (.str "bring"),eC (.str "pool"),eC (.str "swap"),eC (.str "trade")]]) [Gc (AH t ls ds),Gc d.d] S=Gc (.bl (makes d),S):=by
  obtain⟨r,e⟩:=Um d
  have f:=UJ (d:=d)
  rw[e]
  simp[s4,f]
 generalize hv:(eOp (o2 (wIn false)) [eIx (eV 1) (eI 0),Bn [eC (.str "bring"),eC (.str "pool"),eC (.str "swap"),eC (.str "trade")]])=V at c2
 have eb:JS=(AN (xIf (Ff W (eOp (o2 wEq) [eOp (o1 Cv) [B8 [] 1 (GO (eIx (eV 0) (eI 2))) (tNm 0) Y (eV 0)],eI 3])) (Ag (eC (.str "many"))) Bb)
  (AN (xIf V (Ag (eOp (o2 Cy) [eOp (o1 Cv) [eIx (eV 0) (eI 1)],eOp (o1 Cv) [B8 [] 1 (GO (eIx (eV 0) (eI 2))) (tNm 0) Z (eV 0)]])) Bb)
  (Ag (eC .non)))):=by rw[<-hz,<-hy,<-hw,<-hv];rfl
 simp only[AH]at c1 c2⊢
 have sn:=U0 (ds:=ds) (d:=d)
 have tl:(((ds.filter JE).length:Nat):Int)=(MY ds:Int):=rfl
 cases ht:JE d with
 |false=>
  rw[ht]at c1 sn
  have nd:¬3<MY (ds++[d]):=by rw[sn];simp;exact h3
  have ed:WG ls ds d=MN ls ds d:=sH nd
  rw[ed]
  cases hm:makes d with
  |false=>
   rw[hm]at c2
   simp[Bp,eb,c1,c2,MN,hm]
  |true=>
   rw[hm]at c2
   simp[Bp,eb,c1,c2,mc,MN,hm,cnt]
 |true=>
  rw[ht]at c1 sn
  have hm:makes d=false:=by cases d<;>first|rfl|cases ht
  by_cases e3:MY ds=3
  .have nd:3<MY (ds++[d]):=by rw[sn,e3];decide
   have ed:WG ls ds d=.str "many":=sD nd
   rw[ed]
   have q3:((((ds.filter JE).length:Nat):Int)==3)=true:=by rw[tl,e3];rfl
   simp[Bp,eb,c1,tc,q3]
  .have nd:¬3<MY (ds++[d]):=by rw[sn];simp;lia
   have ed:WG ls ds d=MN ls ds d:=sH nd
   rw[ed]
   rw[hm]at c2
   have q3:((((ds.filter JE).length:Nat):Int)==3)=false:=by rw[tl];simp;lia
   simp[Bp,eb,c1,tc,q3,c2,MN,hm]
def bx(hl:ds.length<=50):F9 [AH t ls ds,d.d] S=Gc (AH t ls (ds++[d]),S):=by
 have s1:ds.length+1<=sizeLine:=q8 (show _<=60 by lia) (AK (by decide))
 have s2:1+1+1<=sizeLine:=AK (by decide)
 have s3:2+1<=sizeLine:=AK (by decide)
 have ct:MO [t.d,D.tup (ls.map Ld.d),.tup (ds.map AO.d)] none (Gc 2)=[t.d,.tup (ls.map Ld.d)]:=nr rfl
 simp[F9,NH,AH,ct,s1,s2,s3]
def WZ(pen:Dx p S):∃t ls S',FI [.ref p] S=Gc (.tup [t.d,.tup (ls.map Ld.d)],S')/\Pn p S S'/\G5 t/\(t.ho.length=t.p/\t.ho.sum=1)/\HOk t/\FA t ls/\ls.length<=4/\∃G:Nat,0<G/\G<=32/\∀r∈t.ho,Ok G G r:=by
 obtain⟨t,S1,e1,p1,ht,hh,hho,g⟩:=Vp pen
 obtain⟨ls,S2,e2,p2,hf,hl⟩:=Xt p1.pen ht
 refine⟨t,ls,S2,?_,p1.trans p2,ht,hh,hho,hf,hl,g⟩
 simp[FI,Lh,e1,e2]
end
section
variable{S:Sto}{t:Tr}{st:Stt}{ls:Wp Ld}{ds:Wp AO}{p:Nat}
def Rp:(D.str x).py.depth<=n+1:=by
 simp only[D.py,y2]
 lia
def XI:(D.str "bring").lay=true/\(D.str "pool").lay=true/\(D.str "swap").lay=true/\(D.str "trade").lay=true/\(D.str "spoil").lay=true/\(D.str "throw").lay=true/\(D.str "sell").lay=true:=by decide+kernel
def WR{d:AO}:d.d.lay=true:=by
 obtain⟨w1,w2,w3,w4,w5,w6,w7⟩:=XI
 have hw:∀ws:Wp Int,(D.tup (ws.map D.int)).lay=true:=λws=>GX λ_ _=>rfl
 have ha:∀r:Rat,(aD r).lay=true:=λ_=>rfl
 have hi:∀i:Int,(D.int i).lay=true:=λ_=>rfl
 have ht:∀ds:Wp D,(D.tup ds).lay=D.ON ds:=λ_=>rfl
 have hc:∀(d:D) (ds:Wp D),D.ON (d::ds)=(d.lay && D.ON ds):=λ_ _=>rfl
 have hn:D.ON []=true:=rfl
 cases d with
 |thr l n ws=>
  have:=hw ws
  generalize hq:D.tup (ws.map D.int)=q at*
  simp only[AO.d,hq,ht,hc,hn,hi,w6,this,Bool.and_self]
 |_=>simp only[AO.d,ht,hc,hn,hi,ha,w1,w2,w3,w4,w5,w7,Bool.and_self]
def Yi{d:AO}:d.d.py.depth<=3:=by
 cases d with
 |thr l n ws=>
  refine Je (n:=2) λe he=>?_
  simp only[qy,rJ,sU]at he
  rcases he with rfl|rfl|rfl|rfl
  .exact Rp
  .exact HF
  .exact HF
  .refine Je (n:=1) λe he=>?_
   obtain⟨w,_,rfl⟩:=sE.mp he
   exact HF
 |GQ p q s=>
  refine Je (n:=2) λe he=>?_
  simp only[qy,rJ,sU]at he
  rcases he with rfl|rfl|rfl|rfl
  .exact Rp
  .exact HF
  .exact HF
  .exact oE
 |_=>
  refine Je (n:=2) λe he=>?_
  simp only[qy,rJ,sU]at he
  first
   |(rcases he with rfl|rfl|rfl|rfl|rfl|rfl<;>first|exact Rp|exact HF)
   |(rcases he with rfl|rfl|rfl|rfl|rfl<;>first|exact Rp|exact HF)
   |(rcases he with rfl|rfl|rfl|rfl<;>first|exact Rp|exact HF)
   |(rcases he with rfl|rfl|rfl<;>first|exact Rp|exact HF)
def gW:t.d.lay=true:=by
 show(true && (true && (true && ((shD t.ho).lay && (true && (true && true))))))=true
 rw[Ys];rfl
def nQ:t.d.py.depth<=4:=Je (n:=3) λe he=>by
 simp only[qy,rJ,sU]at he
 rcases he with rfl|rfl|rfl|rfl|rfl|rfl
 .exact HF
 .exact HF
 .exact HF
 .exact mU
 .exact HF
 .exact HF
def NW:(AH t ls ds).lay=true:=by
 show(t.d.lay && ((D.tup (ls.map Ld.d)).lay && ((D.tup (ds.map AO.d)).lay && true)))=true
 rw[gW,show(D.tup (ls.map Ld.d)).lay=true from GX λ_ _=>gX,show(D.tup (ds.map AO.d)).lay=true from GX λ_ _=>WR]
 rfl
def Su:Kr (AH t ls ds) (AH t ls ds)=true:=JH NW (q8 (Je (n:=5) λe he=>by
 simp only[qy,rJ,sU]at he
 rcases he with rfl|rfl|rfl
 .exact q8 nQ (by decide)
 .refine Je (n:=4) λe he=>?_
  obtain⟨w,_,rfl⟩:=sE.mp he
  exact mr
 .refine Je (n:=4) λe he=>?_
  obtain⟨w,_,rfl⟩:=sE.mp he
  exact q8 Yi (by decide)) (by decide))
def Wu:deq (AH t ls ds) (AH t ls ds)=true:=JY NW
def Q8{x:Str}{HH:Wp Nat}{F:Ev}{R:Rx}{n:Nat}{h:Tg->Ex}{E:En}{d:D}{S1:Sto}(hT:S.any (R7 x)=true)(hF:F (Kq HH E) S=Gc (d,S1)):Kp x HH F R n h E S=Gc (d,S1):=by
 unfold Kp
 rw[sD hT,hF]
def LF{x:Str}{HH:Wp Nat}{F:Ev}{R:Rx}{n:Nat}{h:Tg->Ex}{E E' E2:En}{d:D}{tg:Tg}{S1 S2:Sto}(hT:S.any (R7 x)=true)(hF:F (Kq HH E) S=none)(hR:R (Kq HH E) S=Gc (tg,E',S1))(hh:h tg (none::rQ n none) S1=Gc (.ret d,E2,S2)):Kp x HH F R n h E S=Gc (d,S2):=by
 unfold Kp
 rw[sD hT,hF]
 show Option.bind _ _=_
 rw[hR,Ay,hh,Ay]
def hdK:Tg->Ex:=gOr ["TooMany","NoNext","NothingDone"] "TooMany" (Ag (eC (.str "many"))) (gOr ["TooMany","NoNext","NothingDone"] "NoNext" (Ag (eC (.str "next"))) (gOr ["TooMany","NoNext","NothingDone"] "NothingDone" (Ag (eC (.str "nothing"))) gNo))
def hdM{E:En}:hdK ⟨"TooMany",none⟩ E S=Gc (.ret (.str "many"),E,S):=by
 have e:hdK ⟨"TooMany",none⟩=Ag (eC (.str "many")):=by simp[hdK,gOr]
 rw[e]
 simp
def hdN{E:En}:hdK ⟨"NoNext",none⟩ E S=Gc (.ret (.str "next"),E,S):=by
 have n1:(sI "NoNext" ==sI "TooMany")=false:=by decide+kernel
 have e:hdK ⟨"NoNext",none⟩=Ag (eC (.str "next")):=by simp[hdK,gOr,n1]
 rw[e]
 simp
def hdD{E:En}:hdK ⟨"NothingDone",none⟩ E S=Gc (.ret (.str "nothing"),E,S):=by
 have n1:(sI "NothingDone" ==sI "TooMany")=false:=by decide+kernel
 have n2:(sI "NothingDone" ==sI "NoNext")=false:=by decide+kernel
 have e:hdK ⟨"NothingDone",none⟩=Ag (eC (.str "nothing")):=by simp[hdK,gOr,n1,n2]
 rw[e]
 simp
end
section
variable{S:Sto}{t:Tr}{st:Stt}{ls:Wp Ld}{ds:Wp AO}{n j:Nat}{d:AO}{E:En}{f g:Ev}
def kv{m l j:Nat}(h:m+l<=13)(hj:j<=13):∃k,k+l<=16/\26+161*m+7*j<=30+170*k:=⟨m+1,by lia,by lia⟩
def ZV(w:Wk t ls ds n j)(hn:n+j<=12)(can:Can t (runs t (st0 t ls) ds) d):Wk t ls (ds++[d]) (n+1) j:=by
 obtain⟨bk,hh,ho,m,G,B,hm,g0,gb,bb,o1,o2⟩:=w
 obtain⟨k,hk,hb⟩:=kv (m:=m) (l:=(ds++[d]).length) (j:=j) (by simp;lia) (by lia)
 have iv:=(ZD (k:=k) bk g0 gb (qw bb (C5 hb)) o1 o2).inv
 exact⟨⟨bk.tr,⟨k,hk,iv⟩,bk.four,bk.pc0,NP bk.good can⟩,hh,ho,m,G,B,by simp;lia,g0,gb,bb,o1,o2⟩
def X5(w:Wk t ls ds n j)(hn:n+j<=12)(hst:runs t (st0 t ls) ds=st)(hl:(ovs t st).length<=4):Wk (nxT t st) (ovs t st) [] n (j+1):=by
 obtain⟨bk,hh,ho,m,G,B,hm0,g0,gb,bb,o1,o2⟩:=w
 obtain⟨k,hk,hb⟩:=kv (m:=m) (l:=ds.length) (j:=j) (by lia) (by lia)
 have sg:=ZD (k:=k) bk g0 gb (qw bb (C5 hb)) o1 o2
 obtain⟨T,G1,B1,rfl,t0,tb,ub,h1⟩:=Qq bk.tr sg bk.good (by lia)
 rw[hst]at h1
 have hm:=Pp bk hh ho
 rw[hst]at hm
 have gs:=gz hh h1.g0 (λx hx=>(h1.lok x hx).ok) h1.hok hm
 have o:=eS gs
 have hs:=bk.ff ho.1 ho.2 ds.length
 rw[vc,hst]at hs
 have ho2:MW (ovs t st):=Wn hm
 have bit:B1*120<2^(26+161*(m+ds.length)+7*(j+1)):=by
  have a:B1<2^(26+161*m+7*j+161*ds.length):=by
   refine sC ub ?_
   rw[xV 2 (26+161*m+7*j)]
   exact Nat.mul_lt_mul_of_pos_right bb (vi (by simp))
  exact qw (Bm a (show 120<2^7 by decide)) (C5 (by lia))
 have g120:G*T*10*12=G*T*120:=by lia
 have hk0:∀r∈st.hold,Ok (G*T*120) (B1*120) r:=λr hr=>(h1.hok r hr).up (q9 _)
 have hk1:∀y∈ovs t st,∀r∈y.ow,Ok (G*T*120) (B1*120) r:=λy hy r hr=>by
  have:=(o y hy).2.2 r hr
  rw[g120]at this
  exact this.mono (sO _ h1.gb)
 obtain⟨k2,hk2,hb2⟩:=kv (m:=m+ds.length) (l:=0) (j:=j+1) (by lia) (by lia)
 have iv:Ee (nxT t st) k2 (st0 (nxT t st) (ovs t st)):=by
  refine SIG.inv (G:=G*T*120) (B:=B1*120) ⟨by show(ovs t st).length<=_;lia,λy hy=>?_,h1.hold,uQ _,by have:=h1.g0;lia,sO _ h1.gb,qw bit (C5 hb2),hk0⟩
  have oy:=o y hy
  refine⟨?_,vf oy.1,cg (vj oy.2.1 (by decide)),(show y.ow.length=t.p from Zd hm hy),hk1 y hy⟩
  obtain⟨x,hx,_,rfl⟩:=La hy
  exact(h1.lok x hx).kd
 exact⟨⟨bk.tr,⟨k2,by simpa using hk2,iv⟩,hl,λy hy=>⟨vf (o y hy).1,vj (o y hy).2.1 (by decide)⟩,trivial⟩,hh,⟨ho2,hs⟩,m+ds.length,G*T*120,B1*120,by simpa using hm0,by have:=h1.g0;lia,sO _ h1.gb,bit,hk1,hk0⟩
def Dx.same{p:Nat}{S S':Sto}(h:Dx p S)(g:Ba [] S S'):Dx p S':=by
 obtain⟨ds,e,hp⟩:=h
 exact⟨ds,g.get e (by simp),hp⟩
def Ry(ht:G5 t)(hh:t.ho.length=t.p/\t.ho.sum=1)(hr:HOk t){G B:Nat}(g0:0<G)(g1:G<2^2760)(hb:4*B<2^2760)(g2:∀r∈t.ho,Ok G B r):Cf [t.d] S=Gc (.bl true,S):=by
 obtain⟨t1,t2,t3,t4,t5,t6⟩:=ht
 obtain⟨r1,r2,r3,r4⟩:=hr
 have O:=Ov (S:=S) (K:=2760) hh.1 t2 g0 g1 (by decide) g2 hb hh.2
 have k3:St.Kd.tup.isA "tuple"=true:=by decide
 have it:Aj [t.d,.int 6] S=Gc (.bl true,S):=by
  simp[Aj,CU,Tr.d,kdW,k3]
 have w1:=within_int (S:=S) (i:=t.p) (j:=1) (k:=4)
 have w2:=within_int (S:=S) (i:=t.k) (j:=1) (k:=5)
 have w3:=within_int (S:=S) (i:=t.b) (j:=1) (k:=20)
 have w4:=within_int (S:=S) (i:=t.h) (j:=0) (k:=9)
 have w5:=within_int (S:=S) (i:=t.l) (j:=0) (k:=9)
 have q1:(decide ((1:Int)<=t.p) && decide ((t.p:Int)<=4))=true:=by simp;lia
 have q2:(decide ((1:Int)<=t.k) && decide ((t.k:Int)<=5))=true:=by simp;lia
 have q3:(decide ((1:Int)<=t.b) && decide ((t.b:Int)<=20))=true:=by simp;lia
 have q4:(decide ((0:Int)<=t.h) && decide (t.h<=9))=true:=by simp;lia
 have q5:(decide ((0:Int)<=t.l) && decide (t.l<=9))=true:=by simp;lia
 rw[q1]at w1
 rw[q2]at w2
 rw[q3]at w3
 rw[q4]at w4
 rw[q5]at w5
 have td:t.d=.tup [.int t.p,.int t.k,.int t.b,shD t.ho,.int t.h,.int t.l]:=rfl
 rw[td]at it⊢
 generalize shD t.ho=ho at*
 simp[Cf,Kl,it,w1,w2,w3,w4,w5,O]
def P8(ht:G5 t)(hl:ls.length<=4)(ha:∀x∈ls,x.k<t.k/\0<x.n/\x.ow.length=t.p/\x.ow.sum=1){G B:Nat}(g0:0<G)(g1:G<2^2760)(hb:4*B<2^2760)(g2:∀x∈ls,∀r∈x.ow,Ok G B r):CD [t.d,.tup (ls.map Ld.d)] S=Gc (.bl true,S):=by
 have k3:St.Kd.tup.isA "tuple"=true:=by decide
 have d1:dr S BG=.val (.int 4):=rfl
 obtain⟨bs,e1,e2⟩:=jg (S:=S) (f:=Ff (AD D4 [eV 0,eV 1]) (eOp (o2 wGt) [eIx (eV 1) (eI 1),eI 0])) (e:=Ld.d) (C:=[Gc t.d]) (os:=[none]) (xs:=ls) (gs:=[]) (t:=tNm 1) Ad (by lia) rfl (by
  intro x hx os ho
  obtain⟨a,rfl⟩:=Pd ho
  obtain⟨h1,h2,h4,h5⟩:=ha x hx
  have e:=Rg (S:=S) (K:=2760) ht h1 (by lia) h4 g0 g1 (by decide) (g2 x hx) hb h5
  have n0:(0:Int)<x.n:=by lia
  have ix:asS (dr S x.d)=Gc [.int x.k,.int x.n,shD x.ow]:=rfl
  refine⟨[Gc x.d],rfl,by simp,?_⟩
  generalize x.d=X at*
  generalize t.d=T at*
  simp[e,ix,n0])
 obtain⟨b',e3,e4⟩:=u4.mp e2
 have c1:¬(4:Int)<ls.length:=by lia
 generalize t.d=T at*
 generalize hz:Ff (AD D4 [eV 0,eV 1]) (eOp (o2 wGt) [eIx (eV 1) (eI 1),eI 0])=Z at e1
 have eb:Jk=(AN (xIf (eOr (GP (eOp (o2 Qp) [eV 1,eC (.ty "tuple")])) (eOp (o2 wGt) [eOp (o1 Cv) [eV 1],eC BG])) (Ag (eC (.bl false))) Bb)
  (Ag (eOp (o1 WK) [B8 [0] 1 (GO (eV 1)) (tNm 1) BX Z]))):=by rw[<-hz];rfl
 simp only[sQ,r9]at e1
 simp[CD,eb,kdW,k3,d1,c1,Q7,e1,e3,e4]
def QL{α:Type}{xs:Wp α}{x:α}:atI (xs++[x]) (-1:Int)=Gc x:=by
 have ix:ixN (xs++[x]).length (-1)=Gc xs.length:=by
  rw[sk]
  unfold ixN
  simp
  lia
 unfold atI
 rw[ix]
 show(xs++[x])[xs.length]?=Gc x
 simp
def GdB(i:Nat)(b:D):Prop:=∃t ls ds n j,b=AH t ls ds/\Wk t ls ds n j/\n+j<=i/\MY ds<=3/\∀x∈ls,0<x.n
def UI(w:Wk t ls ds n j)(hp:∀x∈ls,0<x.n):Cf [t.d] S=Gc (.bl true,S)/\CD [t.d,.tup (ls.map Ld.d)] S=Gc (.bl true,S):=by
 have bk:=w.bk
 obtain⟨k,hk,z⟩:=bk.lev
 obtain⟨G,B,sg⟩:=z.sig
 have gb:B<2^2750:=qw sg.bb (C5 (by lia))
 have p1:2^2760=2^2750*2^10:=by rw[<-xV]
 have g1:G<2^2760:=by have:=sg.gb;lia
 have b4:4*B<2^2760:=by lia
 exact⟨Ry bk.tr ⟨sg.hold,w.ho.2⟩ w.hh sg.g0 g1 b4 sg.hok,P8 bk.tr bk.four (λx hx=>⟨(sg.lok x hx).kd,hp x hx,(sg.lok x hx).own,w.ho.1 x hx⟩) sg.g0 g1 b4 λx hx=>(sg.lok x hx).ok⟩
def TM(ht:Cf [t.d] (S++[.ins "Leader" []])=Gc (.bl true,S++[.ins "Leader" []]))(hf:CD [t.d,.tup (ls.map Ld.d)] (S++[.ins "Leader" []])=Gc (.bl true,S++[.ins "Leader" []]))(ef:f E S=Gc (t.d,S))(eg:g E S=Gc (.tup (ls.map Ld.d),S)):MG "Leader" Av [f,g] E S=Gc (.ref S.length,S++[lead (AH t ls []) (S.length+1),.lst []]):=by
 have o1:(S++[Cl.ins "Leader" []])[S.length]?=Gc (.ins "Leader" []):=rZ
 have s3:1+1+1<=sizeLine:=AK (by decide)
 have s0:0<=sizeLine:=uQ _
 have x1:=J9 (d:=AH t ls []) (n:=S.length) (f:="kept") (E:=[Gc (.ref S.length),Gc t.d,Gc (.tup (ls.map Ld.d))]) (o:=eV 0) (v:=Bn [eV 1,eV 2,Bn []]) (S:=S++[Cl.ins "Leader" []]) (S1:=S++[Cl.ins "Leader" []]) (S2:=S++[Cl.ins "Leader" []]) (C:="Leader") (by simp[AH,s3]) (by simp) o1 (by decide)
 have e1:(S++[Cl.ins "Leader" []]).set S.length (.ins "Leader" (JB "kept" (AH t ls []) []))=S++[Cl.ins "Leader" [("kept",AH t ls [])]]:=by simp[JB]
 rw[e1]at x1
 have x2:=J9 (d:=.ref (S.length+1)) (n:=S.length) (f:="earlier") (E:=[Gc (.ref S.length),Gc t.d,Gc (.tup (ls.map Ld.d))]) (o:=eV 0) (v:=FC []) (S:=S++[Cl.ins "Leader" [("kept",AH t ls [])]]) (S1:=(S++[Cl.ins "Leader" [("kept",AH t ls [])]])++[.lst []]) (S2:=(S++[Cl.ins "Leader" [("kept",AH t ls [])]])++[.lst []]) (C:="Leader") (as:=[("kept",AH t ls [])]) (by simp[s0]) (by simp) (by simp) (by simp)
 have e2:((S++[Cl.ins "Leader" [("kept",AH t ls [])]])++[Cl.lst []]).set S.length (.ins "Leader" (JB "earlier" (.ref (S.length+1)) [("kept",AH t ls [])]))=S++[lead (AH t ls []) (S.length+1),.lst []]:=by
  have:JB (sI "earlier") (.ref (S.length+1)) [(sI "kept",AH t ls [])]=lds (AH t ls []) (S.length+1):=nr rfl
  rw[this]
  simp[lead]
 rw[e2]at x2
 have nw:Av [.ref S.length,t.d,.tup (ls.map Ld.d)] (S++[.ins "Leader" []])=Gc (.non,S++[lead (AH t ls []) (S.length+1),.lst []]):=by
  generalize hz1:Qa "Leader" "kept" (eV 0) (Bn [eV 1,eV 2,Bn []])=Z1 at x1
  generalize hz2:Qa "Leader" "earlier" (eV 0) (FC [])=Z2 at x2
  have eb:IH=(AN (xIf (GP (AD Cf [eV 1])) Bj Bb)
  (AN (xIf (GP (AD CD [eV 1,eV 2])) Bj Bb)
  (AN Z1 Z2))):=by rw[<-hz1,<-hz2];rfl
  generalize AH t ls []=bk at*
  generalize t.d=T at*
  generalize S++[lead bk (S.length+1),.lst []]=S9 at*
  generalize S++[Cl.ins "Leader" [("kept",bk)]]=S8 at*
  generalize S++[Cl.ins "Leader" []]=S7 at*
  simp[Av,eb,ht,hf,x1,x2]
 unfold MG
 generalize AH t ls []=bk at*
 generalize t.d=T at*
 simp[ef,eg,nw]
def au{L q:Nat}{es:Wp D}(h:LAt S L q (AH t ls ds) es)(w:Wk t ls ds n j)(hp:∀x∈ls,0<x.n):CQ [.ref L] S=Gc (.ref S.length,S++[lead (AH t ls ds) (S.length+2),.lst [],.lst es]):=by
 have wn:=UI (S:=S++[Cl.ins "Leader" []]) w hp
 have hi:=h.ins
 have hL:=AQ h.ob
 have hq:=AQ h.er
 have as0:asS (dr S (AH t ls ds))=Gc [t.d,.tup (ls.map Ld.d),.tup (ds.map AO.d)]:=rfl
 have e1:=TM (S:=S) (t:=t) (ls:=ls) (E:=[Gc (.ref L),none]) (f:=eIx (Fx "Leader" "kept" (eV 0)) (eI 0)) (g:=eIx (Fx "Leader" "kept" (eV 0)) (eI 1)) wn.1 wn.2 (by
  generalize AH t ls ds=bk at*
  simp[hi,as0]) (by
  generalize AH t ls ds=bk at*
  simp[hi,as0])
 have s1:Ba [] S (S++[lead (AH t ls []) (S.length+1),.lst []]):=.app
 have h1:=h.same s1
 have ob1:(S++[lead (AH t ls []) (S.length+1),.lst []])[S.length]?=Gc (.ins "Leader" (lds (AH t ls []) (S.length+1))):=by simp[lead]
 have i1:=h1.ins
 have x1:=J9 (d:=AH t ls ds) (n:=S.length) (f:="kept") (E:=[Gc (.ref L),Gc (.ref S.length)]) (o:=eV 1) (v:=Fx "Leader" "kept" (eV 0)) (S:=S++[lead (AH t ls []) (S.length+1),.lst []]) (S1:=S++[lead (AH t ls []) (S.length+1),.lst []]) (S2:=S++[lead (AH t ls []) (S.length+1),.lst []]) (C:="Leader") (as:=lds (AH t ls []) (S.length+1)) (by simp[i1]) (by simp) ob1 (show 2<1000 by decide)
 have e2:(S++[lead (AH t ls []) (S.length+1),.lst []]).set S.length (.ins "Leader" (JB "kept" (AH t ls ds) (lds (AH t ls []) (S.length+1))))=S++[lead (AH t ls ds) (S.length+1),.lst []]:=by
  have:JB (sI "kept") (AH t ls ds) (lds (AH t ls []) (S.length+1))=lds (AH t ls ds) (S.length+1):=nr rfl
  rw[this]
  simp[lead]
 rw[e2]at x1
 have h2:=h.same (S':=S++[lead (AH t ls ds) (S.length+1),.lst []]) .app
 have i2:=h2.ins
 have d2:=Ac h2.er
 have x2:=J9 (d:=.ref (S.length+2)) (n:=S.length) (f:="earlier") (E:=[Gc (.ref L),Gc (.ref S.length)]) (o:=eV 1) (v:=WC (o1 Jy) [Fx "Leader" "earlier" (eV 0)]) (S:=S++[lead (AH t ls ds) (S.length+1),.lst []]) (S1:=(S++[lead (AH t ls ds) (S.length+1),.lst []])++[.lst es]) (S2:=(S++[lead (AH t ls ds) (S.length+1),.lst []])++[.lst es]) (C:="Leader") (as:=lds (AH t ls ds) (S.length+1)) (by simp[i2,d2]) (by simp) (by simp[lead]) (show 2<1000 by decide)
 have e3:((S++[lead (AH t ls ds) (S.length+1),.lst []])++[Cl.lst es]).set S.length (.ins "Leader" (JB "earlier" (.ref (S.length+2)) (lds (AH t ls ds) (S.length+1))))=S++[lead (AH t ls ds) (S.length+2),.lst [],.lst es]:=by
  have:JB (sI "earlier") (.ref (S.length+2)) (lds (AH t ls ds) (S.length+1))=lds (AH t ls ds) (S.length+2):=nr rfl
  rw[this]
  simp[lead]
 rw[e3]at x2
 generalize hz0:MG "Leader" Av [eIx (Fx "Leader" "kept" (eV 0)) (eI 0),eIx (Fx "Leader" "kept" (eV 0)) (eI 1)]=Z0 at e1
 generalize hz1:Qa "Leader" "kept" (eV 1) (Fx "Leader" "kept" (eV 0))=Z1 at x1
 generalize hz2:Qa "Leader" "earlier" (eV 1) (WC (o1 Jy) [Fx "Leader" "earlier" (eV 0)])=Z2 at x2
 have eb:HU=(AN (BN 1 Z0) (AN Z1 (AN Z2 (Ag (eV 1))))):=by rw[<-hz0,<-hz1,<-hz2];rfl
 generalize S++[lead (AH t ls ds) (S.length+2),.lst [],.lst es]=S9 at*
 generalize S++[lead (AH t ls ds) (S.length+1),.lst []]=S8 at*
 generalize S++[lead (AH t ls []) (S.length+1),.lst []]=S7 at*
 simp[CQ,eb,e1,x1,x2]
end
structure Ldr where
 L:Nat
 q:Nat
 s:Nat
 es:Wp D
 b:D
noncomputable def Ldr.cs(x:Ldr):Wp Nat:=[x.L,x.q,x.s]
structure LG(S:Sto)(n:Nat)(x:Ldr):Prop where
 la:LAt S x.L x.q x.b x.es
 row:S[x.s]?=Gc (.lst (x.es++[x.b]))
 gd:∀i y,(x.es++[x.b])[i]?=Gc y->GdB i y
 few:x.es.length<=n
structure Tw(S:Sto)(p a r n:Nat)(xs:Wp Ldr):Prop where
 pen:Dx p S
 ra:S[a]?=Gc (.lst (xs.map λx=>.ref x.L))
 rr:S[r]?=Gc (.lst (xs.map λx=>.ref x.s))
 tb:∃k:Nat,S[k]?=Gc (Cl.tab "law")
 all:∀x∈xs,LG S n x
 nd:(p::a::r::xs.flatMap Ldr.cs).Nodup
 len:xs.length<=n+2
 pos:0<xs.length
section
variable{S S':Sto}{p a r n:Nat}{xs:Wp Ldr}{x:Ldr}{A:Wp Nat}
def LG.same(h:LG S n x)(s:Ba A S S')(ha:∀c∈x.cs,c∉A)(hn:n<=m):LG S' m x:=
 ⟨⟨s.get h.la.ob (ha _ (by simp[Ldr.cs])),s.get h.la.er (ha _ (by simp[Ldr.cs]))⟩,s.get h.row (ha _ (by simp[Ldr.cs])),h.gd,q8 h.few hn⟩
def P7(h:∃k:Nat,S[k]?=Gc (Cl.tab "law")):S.any (R7 "law")=true:=by
 obtain⟨k,e⟩:=h
 exact List.any_eq_true.mpr ⟨_,rV e,by unfold R7;simp⟩
def Tw.keep(h:Tw S p a r n xs)(s:Ba A S S')(hp:Dx p S')(ha:∀c∈a::r::xs.flatMap Ldr.cs,c∉A)(ht:∀c∈A,∀x,S[c]?≠Gc (Cl.tab x)):Tw S' p a r n xs:=by
 refine⟨hp,s.get h.ra (ha _ (by simp)),s.get h.rr (ha _ (by simp)),?_,λx hx=>(h.all x hx).same s (λc hc=>ha c ?_) (q9 _),h.nd,h.len,h.pos⟩
 .obtain⟨k,e⟩:=h.tb
  exact⟨k,s.get e λz=>ht k z _ e⟩
 .exact rC _ (rC _ (u5.mpr ⟨x,hx,hc⟩))
def Tw.same(h:Tw S p a r n xs)(s:Ba [] S S'):Tw S' p a r n xs:=h.keep s (h.pen.same s) (λ_ _=>by simp) λc hc=>nomatch hc
def Tw.pn(h:Tw S p a r n xs)(s:Pn p S S'):Tw S' p a r n xs:=by
 refine h.keep s.same s.pen (λc hc z=>?_) λc hc x e=>?_
 .rw[sF.mp z]at hc
  exact(rm.mp h.nd).1 hc
 .obtain⟨ds,e2,_⟩:=h.pen
  rw[sF.mp hc,e2]at e
  cases e
def Xj{α:Type}{xs:Wp α}{i:Nat}(h:i<xs.length):∃us x vs,xs=us++x::vs/\us.length=i:=by
 refine⟨xs.take i,xs[i],xs.drop (i+1),?_,by simp;lia⟩
 rw[<-tE h,List.take_append_drop]
def LG.tabs(h:LG S n x):∀c∈x.cs,∀y,S[c]?≠Gc (Cl.tab y):=λc hc y e=>by
 simp only[Ldr.cs,qy,rJ,sU]at hc
 rcases hc with rfl|rfl|rfl
 .rw[h.la.ob]at e;cases e
 .rw[h.la.er]at e;cases e
 .rw[h.row]at e;cases e
def Tw.upd{us vs:Wp Ldr}{x':Ldr}(h:Tw S p a r n (us++x::vs))(s:Ba x.cs S S')(l:LG S' (n+1) x')(e:x'.cs=x.cs):Tw S' p a r (n+1) (us++x'::vs):=by
 have hx:=h.all x (by simp)
 have nd:=h.nd
 simp only[xi,vt]at nd
 obtain⟨n1,nd⟩:=rm.mp nd
 obtain⟨n2,nd⟩:=rm.mp nd
 obtain⟨n3,nd⟩:=rm.mp nd
 obtain⟨m1,m2,m3⟩:=uA.mp nd
 obtain⟨m4,m5,m6⟩:=uA.mp m2
 simp only[qy,rf,vg]at n1 n2 n3
 have e':=e
 simp only[Ldr.cs,List.cons.injEq,and_true]at e'
 have oth:∀y∈us++vs,LG S' (n+1) y:=λy hy=>by
  rcases rf.mp hy with hy|hy
  .exact(h.all y (by simp[hy])).same s (λc hc z=>m3 c (u5.mpr ⟨y,hy,hc⟩) c (vv _ z) rfl) (by lia)
  .exact(h.all y (by simp[hy])).same s (λc hc z=>m6 c z c (u5.mpr ⟨y,hy,hc⟩) rfl) (by lia)
 refine⟨?_,?_,?_,?_,λy hy=>?_,?_,by have:=h.len;simp at this ⊢; lia,by simp;lia⟩
 .obtain⟨ds,e1,hp⟩:=h.pen
  exact⟨ds,s.get e1 λz=>n1.2.2.2.1 z,hp⟩
 .rw[s.get h.ra λz=>n2.2.2.1 z]
  simp[e'.1]
 .rw[s.get h.rr λz=>n3.2.1 z]
  simp[e'.2.2]
 .obtain⟨k,e1⟩:=h.tb
  exact⟨k,s.get e1 λz=>hx.tabs k z _ e1⟩
 .rcases rf.mp hy with hy|hy
  .exact oth y (by simp[hy])
  .rcases qy.mp hy with rfl|hy
   .exact l
   .exact oth y (by simp[hy])
 .have:=h.nd
  simp only[xi,vt,e]at this⊢
  exact this
def Yq{es:Wp D}{b b':D}(g:∀i x,(es++[b']++[b])[i]?=Gc x->GdB i x):∀i x,(es++[b'])[i]?=Gc x->GdB i x:=λi x e=>g i x (by rw[qv (rB.mp e).1];exact e)
def Vt{es:Wp D}{b b':D}(g:∀i x,(es++[b])[i]?=Gc x->GdB i x)(h:GdB (es.length+1) b'):∀i x,(es++[b]++[b'])[i]?=Gc x->GdB i x:=λi x e=>by
 by_cases hi:i<(es++[b]).length
 .rw[qv hi]at e
  exact g i x e
 .rw[sR (by lia)]at e
  have h1:i-(es++[b]).length=0:=by
   have:=(rB.mp e).1
   simp at this⊢
   lia
  rw[h1]at e
  cases e
  have:i=es.length+1:=by simp at hi h1;lia
  rw[this]
  exact h
end
section
variable{S S':Sto}{p a r n:Nat}{xs us vs:Wp Ldr}{x:Ldr}{a0 a2 a3 a6 a8 a9 a10 a11 a12:qz D}
def lmS:=Kp "law" [4,7] (C4 "Leader" "start" Aw (eIx (eV 0) (eV 1)) []) (MU "Leader" "start" BW (eIx (eV 0) (eV 1)) []) 0 hdK
def lmD:=Kp "law" [4,7,9] (C4 "Leader" "do" CG (eIx (eV 0) (eV 1)) [eV 2]) (MU "Leader" "do" Cm (eIx (eV 0) (eV 1)) [eV 2]) 0 hdK
def lmU:=Kp "law" [11] (C4 "Leader" "undo" Aq (eV 0) []) (MU "Leader" "undo" CS (eV 0) []) 0 hdK
@[simp] def qA{b:D}{q:Nat}:(lds b q).lookup (Str.ofString "undo")=none:=nr rfl
@[simp] def ou{b:D}{q:Nat}:(lds b q).lookup (Str.ofString "start")=none:=nr rfl
@[simp] def ox{b:D}{q:Nat}:(lds b q).lookup (Str.ofString "do")=none:=nr rfl
@[simp] def pd{b:D}{q:Nat}:(lds b q).lookup (Str.ofString "book")=none:=nr rfl
@[simp] def og{b:D}{q:Nat}:(lds b q).lookup (Str.ofString "twin")=none:=nr rfl
def Ja{f:Ldr->D}:atI ((us++x::vs).map f) (us.length:Int)=Gc (f x):=CW (by simp)
def brA:=AN (BP (HG J4 (eV 4) [C4 "Leader" "twin" CQ (eIx (eV 4) (eV 7)) []])) (BP (HG J4 (eV 5) [WC (o1 Jy) [eIx (eV 5) (eV 7)]]))
def brB:=AN (BP (C4 "Leader" "undo" Aq (eIx (eV 4) (eV 7)) [])) (BP (HG QS (eIx (eV 5) (eV 7)) []))
def brC:=xIf (eOp (o2 (XB false)) [lmS,eC .non]) (BP (HG J4 (eIx (eV 5) (eV 7)) [C4 "Leader" "book" Ar (eIx (eV 4) (eV 7)) []])) Bb
def brD:=AN (BN 9 (AD GH [eV 1,eIx (eIx (eV 5) (eV 7)) (eOp (o1 LZ) [eI 1])])) (AN (BN 10 (AD Bp [eIx (eIx (eV 5) (eV 7)) (eOp (o1 LZ) [eI 1]),eV 9])) (AN (xIf (eOp (o2 wNe) [lmD,eV 10]) (Ag (eC (.bl false))) Bb) (xIf (eOp (o2 wNe) [eV 10,eC (.str "many")]) (BP (HG J4 (eIx (eV 5) (eV 7)) [AD F9 [eIx (eIx (eV 5) (eV 7)) (eOp (o1 LZ) [eI 1]),eV 9]])) Bb)))
def Tw.lts(h:Tw S p a r n xs):∀c∈p::a::r::xs.flatMap Ldr.cs,c<S.length:=λc hc=>by
 simp only[qy,u5]at hc
 rcases hc with rfl|rfl|rfl|⟨x,hx,hc⟩
 .exact h.pen.lt
 .exact AQ h.ra
 .exact AQ h.rr
 .have g:=h.all x hx
  simp only[Ldr.cs,qy,rJ,sU]at hc
  rcases hc with rfl|rfl|rfl
  .exact AQ g.la.ob
  .exact AQ g.la.er
  .exact AQ g.row
def Tw.ne(h:Tw S p a r n xs):p≠a/\p≠r/\a≠r:=by
 have nd:=h.nd
 simp only[rm,qy,vg]at nd
 exact⟨nd.1.1,nd.1.2.1,nd.2.1.1⟩
def Tw.free(h:Tw S p a r n xs)(hx:x∈xs):∀c∈x.cs,c≠p/\c≠a/\c≠r:=λc hc=>by
 have nd:=h.nd
 have m:c∈xs.flatMap Ldr.cs:=u5.mpr ⟨x,hx,hc⟩
 simp only[rm,qy,vg]at nd
 exact⟨λz=>nd.1.2.2 (z▸m),λz=>nd.2.1.2 (z▸m),λz=>nd.2.2.1 (z▸m)⟩
def Tw.own(h:Tw S p a r n xs)(hx:x∈xs):x.q≠x.L/\x.s≠x.L/\x.s≠x.q:=by
 obtain⟨us,vs,rfl⟩:=List.append_of_mem hx
 have nd:=h.nd
 simp only[xi,vt]at nd
 obtain⟨_,nd⟩:=rm.mp nd
 obtain⟨_,nd⟩:=rm.mp nd
 obtain⟨_,nd⟩:=rm.mp nd
 obtain⟨m1,m2,m3⟩:=uA.mp nd
 obtain⟨m4,m5,m6⟩:=uA.mp m2
 simp only[Ldr.cs,rm,qy,rJ,sU,vg]at m4
 exact⟨λz=>m4.1.1 z.symm,λz=>m4.1.2 z.symm,λz=>m4.2.1 z.symm⟩
def Tw.add{x':Ldr}(h:Tw S p a r n xs)(s:Ba [a,r] S S')(ra:S'[a]?=Gc (.lst (xs.map (λx=>.ref x.L)++[.ref x'.L])))(rr:S'[r]?=Gc (.lst (xs.map (λx=>.ref x.s)++[.ref x'.s])))(l:LG S' (n+1) x')(hf:∀c∈x'.cs,S.length<=c)(nd:x'.cs.Nodup):Tw S' p a r (n+1) (xs++[x']):=by
 have lt:=h.lts
 have ne:=h.ne
 refine⟨?_,by simpa using ra,by simpa using rr,?_,λy hy=>?_,?_,by have:=h.len;simp;lia,by simp⟩
 .obtain⟨ds,e1,hp⟩:=h.pen
  exact⟨ds,s.get e1 (by simp;exact⟨ne.1,ne.2.1⟩),hp⟩
 .obtain⟨k,e1⟩:=h.tb
  refine⟨k,s.get e1 λz=>?_⟩
  simp only[qy,rJ,sU]at z
  rcases z with rfl|rfl
  .rw[h.ra]at e1;cases e1
  .rw[h.rr]at e1;cases e1
 .rcases rf.mp hy with hy|hy
  .refine(h.all y hy).same s (λc hc z=>?_) (by lia)
   have f:=h.free hy c hc
   simp only[qy,rJ,sU]at z
   exact z.elim f.2.1 f.2.2
  .rw[sF.mp hy];exact l
 .have e:p::a::r::(xs++[x']).flatMap Ldr.cs=(p::a::r::xs.flatMap Ldr.cs)++x'.cs:=by simp
  rw[e]
  exact uA.mpr ⟨h.nd,nd,λc hc d hd z=>by have:=lt c hc;have:=hf d hd;lia⟩
def ek(h:Tw S p a r n (us++x::vs))(hn:n<=20):∃S' ys,brA [a0,Gc (.ref p),a2,a3,Gc (.ref a),Gc (.ref r),a6,Gc (.int us.length),a8,a9,a10,a11,a12] S=Gc (.nx,[a0,Gc (.ref p),a2,a3,Gc (.ref a),Gc (.ref r),a6,Gc (.int us.length),a8,a9,a10,a11,a12],S')/\Tw S' p a r (n+1) ys:=by
 have hx:=h.all x (by simp)
 obtain⟨t,ls,ds,m,j,eb,w,hm,h3,hp⟩:=hx.gd x.es.length x.b (by simp)
 have la:=hx.la
 rw[eb]at la
 have e1:=au la w hp
 rw[<-eb]at e1
 have i1:=hx.la.ins
 have ne:=h.ne
 have la:=AQ h.ra
 have lr:=AQ h.rr
 have d1:=Ac h.ra
 have c1:=AJ h.ra
 have hl:=h.len
 generalize hS1:S++[lead x.b (S.length+2),.lst [],.lst x.es]=S1 at e1
 have s1:Ba [] S S1:=by rw[<-hS1];exact .app
 have l1:S1.length=S.length+3:=by rw[<-hS1];simp
 have c2:=AJ (s1.get h.ra (by simp))
 generalize hR:(us++x::vs).map (λx=>D.ref x.L)=R at*
 have lR:R.length<=30:=by rw[<-hR];simp at hl ⊢; lia
 have zR:R.length<sizeLine:=sC lR (AK (by decide))
 have aR:atI R (us.length:Int)=Gc (.ref x.L):=by rw[<-hR];exact Ja (f:=λx=>D.ref x.L)
 have s2:Ba [a] S1 (S1.set a (.lst (R++[.ref S.length]))):=.set (by simp)
 have r2:=s2.get (s1.get h.rr (by simp)) (by simpa using ne.2.2.symm)
 have d2:=Ac r2
 have d2s:=Ac (s2.get (s1.get hx.row (by simp)) (by simpa using(h.free (x:=x) (by simp) x.s (by simp[Ldr.cs])).2.1))
 have c3:=AJ r2
 generalize hS2:S1.set a (.lst (R++[.ref S.length]))=S2 at*
 have l2:S2.length=S.length+3:=by rw[<-hS2];simp[l1]
 have s3:Ba [] S2 (S2++[Cl.lst (x.es++[x.b])]):=.app
 have c4:=AJ (s3.get r2 (by simp))
 generalize hQ:(us++x::vs).map (λx=>D.ref x.s)=Q at*
 have lQ:Q.length<=30:=by rw[<-hQ];simp at hl ⊢; lia
 have zQ:Q.length<sizeLine:=sC lQ (AK (by decide))
 have aQ:atI Q (us.length:Int)=Gc (.ref x.s):=by rw[<-hQ];exact Ja (f:=λx=>D.ref x.s)
 have s4:Ba [r] (S2++[Cl.lst (x.es++[x.b])]) ((S2++[Cl.lst (x.es++[x.b])]).set r (.lst (Q++[.ref S2.length]))):=.set (by simp)
 have r4:((S2++[Cl.lst (x.es++[x.b])]).set r (.lst (Q++[.ref S2.length])))[r]?=Gc (.lst (Q++[.ref S2.length])):=rF (by simp;lia)
 have t2:S2[a]?=Gc (.lst (R++[.ref S.length])):=by rw[<-hS2];exact rF (by lia)
 have row3:(S2++[Cl.lst (x.es++[x.b])])[S2.length]?=Gc (.lst (x.es++[x.b])):=rZ
 generalize hS4:(S2++[Cl.lst (x.es++[x.b])]).set r (.lst (Q++[.ref S2.length]))=S4 at*
 refine⟨S4,us++x::vs++[⟨S.length,S.length+2,S2.length,x.es,x.b⟩],?_,h.add (x':=⟨S.length,S.length+2,S2.length,x.es,x.b⟩) ?_ ?_ ?_ ?_ ?_ ?_⟩
 .generalize x.es++[x.b]=W at*
  simp[brA,c1,d1,aR,i1,e1,c2,zR,hS2,d2,d2s,aQ,c3,c4,zQ,hS4]
 .exact((s1.mono (by simp)).trans (s2.mono (by simp))).trans ((s3.mono (by simp)).trans (s4.mono (by simp)))
 .show S4[a]?=_
  rw[hR]
  exact s4.get (s3.get t2 (by simp)) (by simpa using ne.2.2)
 .show S4[r]?=_
  rw[hQ]
  exact r4
 .have ob:S1[S.length]?=Gc (lead x.b (S.length+2)):=by rw[<-hS1];simp
  have er:S1[S.length+2]?=Gc (.lst x.es):=by rw[<-hS1];simp
  have g:∀{c:Nat} {cl:Cl},S.length<=c->S1[c]?=Gc cl->S4[c]?=Gc cl:=λhc e=>s4.get (s3.get (s2.get e (by simp;lia)) (by simp)) (by simp;lia)
  exact⟨⟨g (q9 _) ob,g (by simp) er⟩,s4.get row3 (by simp;lia),hx.gd,q8 hx.few (by lia)⟩
 .intro c hc
  simp only[Ldr.cs,qy,rJ,sU]at hc
  rcases hc with rfl|rfl|rfl<;>lia
 .simp only[Ldr.cs,rm,qy,rJ,sU,vg,l2]
  simp
def de(h:Tw S p a r n (us++x::vs))(hp:0<x.es.length):∃S' ys,brB [a0,Gc (.ref p),a2,a3,Gc (.ref a),Gc (.ref r),a6,Gc (.int us.length),a8,a9,a10,a11,a12] S=Gc (.nx,[a0,Gc (.ref p),a2,a3,Gc (.ref a),Gc (.ref r),a6,Gc (.int us.length),a8,a9,a10,a11,a12],S')/\Tw S' p a r (n+1) ys:=by
 have hm:x∈us++x::vs:=by simp
 have hx:=h.all x hm
 have ow:=h.own hm
 have fr:=h.free hm
 obtain⟨L,q,s,es,b⟩:=x
 rcases zM es with rfl|⟨es',b',rfl⟩
 .cases hp
 .rw[zN]at*
  obtain⟨S1,e1,l1,s1⟩:=VW hx.la
  have i1:=hx.la.ins
  have d1:=Ac h.ra
  have aR:atI ((us++(⟨L,q,s,es'++[b'],b⟩:Ldr)::vs).map (λx=>D.ref x.L)) (us.length:Int)=Gc (.ref L):=Ja (f:=λx=>D.ref x.L)
  have aQ:atI ((us++(⟨L,q,s,es'++[b'],b⟩:Ldr)::vs).map (λx=>D.ref x.s)) (us.length:Int)=Gc (.ref s):=Ja (f:=λx=>D.ref x.s)
  have fL:=fr L (by simp[Ldr.cs])
  have fq:=fr q (by simp[Ldr.cs])
  have r1:=s1.get h.rr (by simp;exact⟨fL.2.2.symm,fq.2.2.symm⟩)
  have d2:=Ac r1
  have row1:=s1.get hx.row (by simp;exact⟨ow.2.1,ow.2.2⟩)
  have c1:=AJ row1
  have mp:QS S1 (es'++[b']++[b]) []=Gc (b,es'++[b']):=Np
  have s2:Ba [s] S1 (S1.set s (.lst (es'++[b']))):=.set (by simp)
  refine⟨S1.set s (.lst (es'++[b'])),us++⟨L,q,s,es',b'⟩::vs,?_,h.upd (x':=⟨L,q,s,es',b'⟩) ((s1.mono (by simp[Ldr.cs])).trans (s2.mono (by simp[Ldr.cs]))) ⟨⟨s2.get l1.ob (by simpa using ow.2.1.symm),s2.get l1.er (by simpa using ow.2.2.symm)⟩,rF (AQ row1),Yq hx.gd,?_⟩ rfl⟩
  .generalize (us++(⟨L,q,s,es'++[b'],b⟩:Ldr)::vs).map (λx=>D.ref x.L)=R at*
   generalize (us++(⟨L,q,s,es'++[b'],b⟩:Ldr)::vs).map (λx=>D.ref x.s)=Q at*
   simp only at i1 c1
   generalize es'++[b']=W at*
   simp[brB,d1,aR,i1,e1,d2,aQ,c1,mp]
  .have:=hx.few
   simp at this⊢
   lia
end
section
variable{S S':Sto}{p a r n:Nat}{xs us vs:Wp Ldr}{x:Ldr}{a0 a2 a3 a6 a8 a9 a10 a11 a12:qz D}
def cN{R:Wp D}{i:Nat}{L q:Nat}{es:Wp D}{t:Tr}{ls:Wp Ld}{ds:Wp AO}{m j:Nat}(tb:∃k:Nat,S[k]?=Gc (Cl.tab "law"))(ra:S[a]?=Gc (.lst R))(ai:atI R (i:Int)=Gc (.ref L))(la:LAt S L q (AH t ls ds) es)(hf:es.length<=12)(w:Wk t ls ds m j)(hm:m+j<=es.length):∃d S',lmS [a0,a1,a2,a3,Gc (.ref a),a5,a6,Gc (.int i),a8,a9,a10,a11,a12] S=Gc (d,S')/\((d=.non/\∃b',LAt S' L q b' (es++[AH t ls ds])/\Ba [L,q] S S'/\GdB (es.length+1) b')\/((d=.str "next" \/d=.str "many")/\Ba [] S S')):=by
 have hT:=P7 tb
 have hi:=la.ins
 have d1:=Ac ra
 generalize hst:runs t (st0 t ls) ds=st
 by_cases hd:ds=[]
 .subst hd
  obtain⟨e1,e2⟩:=Xb la
  refine⟨.str "next",S,LF hT ?_ (E':=[Gc (.ref a),Gc (.int i)]) (tg:=⟨"NoNext",none⟩) ?_ hdN,.inr ⟨.inl rfl,.refl⟩⟩
  .simp[Kq,d1,ai,hi,e1]
  .simp[Kq,JP,d1,ai,hi,e2]
 .obtain⟨s1,s2⟩:=XG la (by lia) hd w.bk w.hh w.ho hst
  by_cases hl:(ovs t st).length<=4
  .obtain⟨S',e,l,s⟩:=s1 hl
   refine⟨.non,S',Q8 hT ?_,.inl ⟨rfl,_,l,s,_,_,_,m,j+1,rfl,X5 w (by lia) hst hl,by lia,by decide,?_⟩⟩
   .simp[Kq,d1,ai,hi,e]
   .intro y hy
    have hm:=Pp w.bk w.hh w.ho
    rw[hst]at hm
    obtain⟨x,_,h0,rfl⟩:=La hy
    exact h0
  .obtain⟨S',e1,e2,s⟩:=s2 (by lia)
   refine⟨.str "many",S',LF hT ?_ (E':=[Gc (.ref a),Gc (.int i)]) (tg:=⟨"TooMany",none⟩) ?_ hdM,.inr ⟨.inr rfl,s⟩⟩
   .simp[Kq,d1,ai,hi,e1]
   .simp[Kq,JP,d1,ai,hi,e2]
def nD{R:Wp D}{i:Nat}{L q:Nat}{es:Wp D}{t:Tr}{ls:Wp Ld}{ds:Wp AO}{d:AO}(tb:∃k:Nat,S[k]?=Gc (Cl.tab "law"))(ra:S[a]?=Gc (.lst R))(ai:atI R (i:Int)=Gc (.ref L))(la:LAt S L q (AH t ls ds) es)(hf:es.length<=12)(bok:Bo t ls (ds++[d])):∃S',lmD [a0,a1,a2,a3,Gc (.ref a),a5,a6,Gc (.int i),a8,Gc d.d,a10,a11,a12] S=Gc (WG ls ds d,S')/\if 3<MY (ds++[d])then S'=S else LAt S' L q (AH t ls (ds++[d])) (es++[AH t ls ds])/\Ba [L,q] S S':=by
 have hT:=P7 tb
 have hi:=la.ins
 have d1:=Ac ra
 obtain⟨s1,s2⟩:=dY la (by lia) bok
 unfold WG
 by_cases c:3<MY (ds++[d])
 .obtain⟨e1,e2⟩:=s1 c
  refine⟨S,?_,by rw[sD c]⟩
  rw[sD c]
  refine LF hT ?_ (E':=[Gc (.ref a),Gc (.int i),Gc d.d]) (tg:=⟨"TooMany",none⟩) ?_ hdM
  .generalize d.d=X at*
   simp[Kq,d1,ai,hi,e1]
  .generalize d.d=X at*
   simp[Kq,JP,d1,ai,hi,e2]
 .obtain⟨S',e,l,s⟩:=s2 (by lia)
  refine⟨S',?_,by rw[sH c];exact⟨l,s⟩⟩
  rw[sH c]
  refine Q8 hT ?_
  unfold MN
  generalize d.d=X at*
  simp[Kq,d1,ai,hi,e]
def df(h:Tw S p a r n (us++x::vs))(hn:n<=11):∃S' ys,brC [a0,Gc (.ref p),a2,a3,Gc (.ref a),Gc (.ref r),a6,Gc (.int us.length),a8,a9,a10,a11,a12] S=Gc (.nx,[a0,Gc (.ref p),a2,a3,Gc (.ref a),Gc (.ref r),a6,Gc (.int us.length),a8,a9,a10,a11,a12],S')/\Tw S' p a r (n+1) ys:=by
 have hm:x∈us++x::vs:=by simp
 have hx:=h.all x hm
 have ow:=h.own hm
 have fr:=h.free hm
 have few:=hx.few
 have aR:atI ((us++x::vs).map (λx=>D.ref x.L)) (us.length:Int)=Gc (.ref x.L):=Ja (f:=λx=>D.ref x.L)
 have aQ:atI ((us++x::vs).map (λx=>D.ref x.s)) (us.length:Int)=Gc (.ref x.s):=Ja (f:=λx=>D.ref x.s)
 obtain⟨t,ls,ds,m,j,eb,w,hm,h3,hp⟩:=hx.gd x.es.length x.b (by simp)
 have la:=hx.la
 rw[eb]at la
 obtain⟨d,S1,e1,z⟩:=cN (a0:=a0) (a1:=Gc (.ref p)) (a2:=a2) (a3:=a3) (a5:=Gc (.ref r)) (a6:=a6) (a8:=a8) (a9:=a9) (a10:=a10) (a11:=a11) (a12:=a12) h.tb h.ra aR la (by lia) w hm
 rcases z with⟨rfl,b',l1,s1,gb⟩|⟨hd,s1⟩
 .have fL:=fr x.L (by simp[Ldr.cs])
  have fq:=fr x.q (by simp[Ldr.cs])
  rw[<-eb]at l1
  have i1:=l1.ins
  have bo:=QT l1
  have d1:=Ac (s1.get h.ra (by simp;exact⟨fL.2.1.symm,fq.2.1.symm⟩))
  have d2:=Ac (s1.get h.rr (by simp;exact⟨fL.2.2.symm,fq.2.2.symm⟩))
  have row1:=s1.get hx.row (by simp;exact⟨ow.2.1,ow.2.2⟩)
  have c1:=AJ row1
  have s2:Ba [x.s] S1 (S1.set x.s (.lst (x.es++[x.b]++[b']))):=.set (by simp)
  have zW:(x.es++[x.b]).length<sizeLine:=qw (show _<50 by simp;lia) (AK (by decide))
  refine⟨S1.set x.s (.lst (x.es++[x.b]++[b'])),us++⟨x.L,x.q,x.s,x.es++[x.b],b'⟩::vs,?_,h.upd (x':=⟨x.L,x.q,x.s,x.es++[x.b],b'⟩) ((s1.mono (by simp[Ldr.cs])).trans (s2.mono (by simp[Ldr.cs]))) ⟨⟨s2.get l1.ob (by simpa using ow.2.1.symm),s2.get l1.er (by simpa using ow.2.2.symm)⟩,rF (AQ row1),Vt hx.gd gb,by simpa using few⟩ rfl⟩
  generalize (us++x::vs).map (λx=>D.ref x.L)=R at*
  generalize (us++x::vs).map (λx=>D.ref x.s)=Q at*
  generalize x.es++[x.b]=W at*
  generalize hU:lmS=LM at*
  have nn:isN (.val .non)=true:=rfl
  simp[brC,hU,e1,nn,d1,d2,aR,aQ,i1,bo,c1,zW]
 .refine⟨S1,us++x::vs,?_,?_⟩
  .have hn:isN (dr S1 d)=false:=by rcases hd with rfl|rfl<;>rfl
   generalize hU:lmS=LM at*
   simp[brC,hU,e1,hn]
  .have:=h.same s1
   exact⟨this.pen,this.ra,this.rr,this.tb,λy hy=>(this.all y hy).same (A:=[]) .refl (λ_ _=>by simp) (by lia),this.nd,by have:=this.len;lia,this.pos⟩
def gF(h:Tw S p a r n (us++x::vs))(hn:n<=11):∃o9 o10 S' ys,brD [a0,Gc (.ref p),a2,a3,Gc (.ref a),Gc (.ref r),a6,Gc (.int us.length),a8,a9,a10,a11,a12] S=Gc (.nx,[a0,Gc (.ref p),a2,a3,Gc (.ref a),Gc (.ref r),a6,Gc (.int us.length),a8,o9,o10,a11,a12],S')/\Tw S' p a r (n+1) ys:=by
 have hm0:x∈us++x::vs:=by simp
 have hx0:=h.all x hm0
 have few:=hx0.few
 obtain⟨t,ls,ds,m,j,eb,w,hm,h3,hp⟩:=hx0.gd x.es.length x.b (by simp)
 obtain⟨d,S1,e1,p1,can⟩:=Zu h.pen w.bk
 have h1:=h.pn p1
 have hx:=h1.all x hm0
 have ow:=h1.own hm0
 have fr:=h1.free hm0
 have fL:=fr x.L (by simp[Ldr.cs])
 have fq:=fr x.q (by simp[Ldr.cs])
 have aR:atI ((us++x::vs).map (λx=>D.ref x.L)) (us.length:Int)=Gc (.ref x.L):=Ja (f:=λx=>D.ref x.L)
 have aQ:atI ((us++x::vs).map (λx=>D.ref x.s)) (us.length:Int)=Gc (.ref x.s):=Ja (f:=λx=>D.ref x.s)
 have w2:=ZV w (by lia) can
 have hl:ds.length<=50:=by have:=w.bk.len;lia
 have md:=Xq (S:=S1) (t:=t) (ls:=ls) (d:=d) hl h3
 have la:=hx.la
 rw[eb]at la
 have sm:tV (sI "many")=true:=by decide+kernel
 have ixb:∀{T:Sto},T[r]?=Gc (.lst ((us++x::vs).map λx=>.ref x.s))->T[x.s]?=Gc (.lst (x.es++[x.b]))->∀{o9 o10:qz D},(eIx (eIx (eV 5) (eV 7)) (eOp (o1 LZ) [eI 1])) [a0,Gc (.ref p),a2,a3,Gc (.ref a),Gc (.ref r),a6,Gc (.int us.length),a8,o9,o10,a11,a12] T=Gc (AH t ls ds,T):=by
  intro T g1 g2 o9 o10
  have d1:=Ac g1
  have d2:=Ac g2
  have ae:atI (x.es++[x.b]) (-1:Int)=Gc (AH t ls ds):=by rw[<-eb];exact QL
  generalize (us++x::vs).map (λx=>D.ref x.s)=Q at*
  generalize x.es++[x.b]=W at*
  generalize AH t ls ds=bk at*
  simp[d1,aQ,d2,ae]
 have b0:=ixb h.rr hx0.row (o9:=a9) (o10:=a10)
 have b1:=ixb h1.rr hx.row (o9:=Gc d.d) (o10:=a10)
 by_cases c:3<MY (ds++[d])
 .have ed:WG ls ds d=.str "many":=sD c
  obtain⟨S2,e4,e5⟩:=nD (a0:=a0) (a1:=Gc (.ref p)) (a2:=a2) (a3:=a3) (a5:=Gc (.ref r)) (a6:=a6) (a8:=a8) (a10:=Gc (WG ls ds d)) (a11:=a11) (a12:=a12) h1.tb h1.ra aR la (by lia) w2.bk
  rw[sD c]at e5
  subst e5
  rw[ed]at e4 md
  refine⟨Gc d.d,Gc (.str "many"),S2,us++x::vs,?_,⟨h1.pen,h1.ra,h1.rr,h1.tb,λy hy=>(h1.all y hy).same (A:=[]) .refl (λ_ _=>by simp) (by lia),h1.nd,by have:=h1.len;lia,h1.pos⟩⟩
  have eqs:Kr (.str "many") (.str "many")=true/\deq (.str "many") (.str "many")=true:=⟨JH (show tV (sI "many")=true by decide+kernel) (by decide),JY (show tV (sI "many")=true by decide+kernel)⟩
  unfold brD
  generalize (eIx (eIx (eV 5) (eV 7)) (eOp (o1 LZ) [eI 1]))=IX at*
  generalize AH t ls ds=bk at*
  generalize d.d=X at*
  generalize hU:lmD=U at*
  simp[hU,b0,b1,e1,md,e4,eqs.1,eqs.2]
 .have ed:WG ls ds d=MN ls ds d:=sH c
  obtain⟨S2,e4,e5⟩:=nD (a0:=a0) (a1:=Gc (.ref p)) (a2:=a2) (a3:=a3) (a5:=Gc (.ref r)) (a6:=a6) (a8:=a8) (a10:=Gc (WG ls ds d)) (a11:=a11) (a12:=a12) h1.tb h1.ra aR la (by lia) w2.bk
  rw[sH c]at e5
  obtain⟨l2,s2⟩:=e5
  rw[ed]at e4 md
  have fL2:=fL.2
  have rr2:=s2.get h1.rr (by simp;exact⟨fL.2.2.symm,fq.2.2.symm⟩)
  have row2:=s2.get hx.row (by simp;exact⟨ow.2.1,ow.2.2⟩)
  have b2:=ixb rr2 row2 (o9:=Gc d.d) (o10:=Gc (MN ls ds d))
  have d2:=Ac rr2
  have c2:=AJ row2
  have wi:=bx (S:=S2) (t:=t) (ls:=ls) (d:=d) hl
  have s3:Ba [x.s] S2 (S2.set x.s (.lst (x.es++[x.b]++[AH t ls (ds++[d])]))):=.set (by simp)
  have zW:(x.es++[x.b]).length<sizeLine:=qw (show _<50 by simp;lia) (AK (by decide))
  have gn:GdB (x.es.length+1) (AH t ls (ds++[d])):=⟨_,_,_,m+1,j,rfl,w2,by lia,by lia,hp⟩
  rw[<-eb]at l2
  refine⟨Gc d.d,Gc (MN ls ds d),S2.set x.s (.lst (x.es++[x.b]++[AH t ls (ds++[d])])),us++⟨x.L,x.q,x.s,x.es++[x.b],AH t ls (ds++[d])⟩::vs,?_,h1.upd (x':=⟨x.L,x.q,x.s,x.es++[x.b],AH t ls (ds++[d])⟩) ((s2.mono (by simp[Ldr.cs])).trans (s3.mono (by simp[Ldr.cs]))) ⟨⟨s3.get l2.ob (by simpa using ow.2.1.symm),s3.get l2.er (by simpa using ow.2.2.symm)⟩,rF (AQ row2),Vt hx.gd gn,by simpa using few⟩ rfl⟩
  have nk:MN ls ds d=.non\/∃i,MN ls ds d=.int i:=by
   unfold MN
   split
   .exact .inr ⟨_,rfl⟩
   .exact .inl rfl
  have eqs:Kr (MN ls ds d) (MN ls ds d)=true/\deq (MN ls ds d) (MN ls ds d)=true:=by
   rcases nk with z|⟨i,z⟩<;>rw[z]
   .exact⟨rfl,rfl⟩
   .exact⟨rfl,JY rfl⟩
  have nm:Kr (MN ls ds d) (.str "many")=true/\deq (MN ls ds d) (.str "many")=false:=by
   have o:∀x:D,x.lay=true->x.py.depth<=60->Kr x (.str "many")=true:=λx h1 h2=>by
    unfold Kr
    rw[h1,show(D.str "many").lay=true from sm]
    show decide (min x.py.depth (D.str "many").py.depth<=60)=true
    exact uT (q8 (Nat.min_le_left _ _) h2)
   rcases nk with z|⟨i,z⟩<;>rw[z]
   .exact⟨o _ rfl (by decide),rfl⟩
   .exact⟨o _ rfl (q8 (HF (n:=0)) (by decide)),rfl⟩
  have dn:∀T:Sto,dr T (MN ls ds d)=.val (MN ls ds d):=λT=>by rcases nk with z|⟨i,z⟩<;>rw[z]<;>rfl
  unfold brD
  generalize (eIx (eIx (eV 5) (eV 7)) (eOp (o1 LZ) [eI 1]))=IX at*
  generalize (us++x::vs).map (λx=>D.ref x.s)=Q at*
  generalize MN ls ds d=ND at*
  generalize AH t ls (ds++[d])=nb at*
  generalize AH t ls ds=bk at*
  generalize d.d=X at*
  generalize x.es++[x.b]=W at*
  generalize hU:lmD=U at*
  simp[hU,b0,b1,b2,e1,md,dn,nm.1,nm.2,wi,d2,aQ,c2,zW,e4,eqs.1,eqs.2]
end
section
variable{S S':Sto}{p a r n:Nat}{xs us vs:Wp Ldr}{x:Ldr}{a0 a2 a3 a6 a7 a8 a9 a10 a11 a12:qz D}
def bP:=eOp (o2 wNe) [B8 [] 1 (GO (eV 4)) (tNm 0) BX (C4 "Leader" "book" Ar (eV 0) []),B8 [] 1 (GO (eV 5)) (tNm 0) BX (eIx (eV 0) (eOp (o1 LZ) [eI 1]))]
def UB{A:Wp D}(h:S[a]?=Gc (.lst A)):gOk [(a,A)] S:=λg hg=>by
 rw[sF.mp hg]
 exact AJ h
def YT{i:Nat}{b:D}(h:GdB i b):Kr b b=true/\deq b b=true/\b.lay=true/\b.py.depth<=7:=by
 obtain⟨t,ls,ds,m,j,rfl,_⟩:=h
 refine⟨Su,Wu,NW,q8 (Je (n:=5) λe he=>?_) (by decide)⟩
 simp only[qy,rJ,sU]at he
 rcases he with rfl|rfl|rfl
 .exact q8 nQ (by decide)
 .refine Je (n:=4) λe he=>?_
  obtain⟨w,_,rfl⟩:=sE.mp he
  exact mr
 .refine Je (n:=4) λe he=>?_
  obtain⟨w,_,rfl⟩:=sE.mp he
  exact q8 Yi (by decide)
def RH(h:Tw S p a r n xs)(hn:n<=20):bP [a0,Gc (.ref p),a2,a3,Gc (.ref a),Gc (.ref r),a6,a7,a8,a9,a10,a11,a12] S=Gc (.bl false,S):=by
 have hl:=h.len
 have q1:=FH h.ra
 have q2:=FH h.rr
 have k1:=Cj (gs:=[(a,xs.map λx=>D.ref x.L)]) (t:=tNm 0) (f:=C4 "Leader" "book" Ar (eV 0) []) (C:=[]) (m:=1) (e:=λx:Ldr=>D.ref x.L) (g:=λx:Ldr=>x.b) (S:=S) (UB h.ra) (xs:=xs) (acc:=[]) (os:=[none]) rfl (AK (by simp;lia)) (by
  intro x hx os ho
  obtain⟨o,rfl⟩:=Pd ho
  have g:=h.all x hx
  have i1:=g.la.ins
  have bo:=QT g.la
  exact⟨[Gc (.ref x.L)],rfl,by simp,by simp[i1,bo]⟩)
 have k2:=Cj (gs:=[(r,xs.map λx=>D.ref x.s)]) (t:=tNm 0) (f:=eIx (eV 0) (eOp (o1 LZ) [eI 1])) (C:=[]) (m:=1) (e:=λx:Ldr=>D.ref x.s) (g:=λx:Ldr=>x.b) (S:=S) (UB h.rr) (xs:=xs) (acc:=[]) (os:=[none]) rfl (AK (by simp;lia)) (by
  intro x hx os ho
  obtain⟨o,rfl⟩:=Pd ho
  have g:=h.all x hx
  have d1:=Ac g.row
  have ae:atI (x.es++[x.b]) (-1:Int)=Gc x.b:=QL
  generalize x.es++[x.b]=W at*
  exact⟨[Gc (.ref x.s)],rfl,by simp,by simp[d1,ae]⟩)
 have gb:∀x∈xs,x.b.lay=true/\x.b.py.depth<=7:=λx hx=>by
  have:=YT ((h.all x hx).gd x.es.length x.b (by simp))
  exact this.2.2
 have ly:(D.lst (xs.map λx=>x.b)).lay=true:=GX λx hx=>(gb x hx).1
 have dp:(D.lst (xs.map λx=>x.b)).py.depth<=8:=k6 λd hd=>by
  obtain⟨x,hx,rfl⟩:=sE.mp hd
  exact(gb x hx).2
 have ok1:=JH ly (q8 dp (by decide))
 have ok2:=JY ly
 generalize xs.map (λx=>D.ref x.L)=R at*
 generalize xs.map (λx=>D.ref x.s)=Q at*
 generalize xs.map (λx=>x.b)=B at*
 simp only[r9]at k1 k2
 generalize hz1:(C4 "Leader" "book" Ar (eV 0) [])=Z1 at*
 generalize hz2:(eIx (eV 0) (eOp (o1 LZ) [eI 1]))=Z2 at*
 unfold bP
 rw[hz1,hz2]
 simp[q1,q2,k1,k2,ok1,ok2]
def bJ:=AN (xIf (eOp (o2 wEq) [eV 8,eI 0]) brA (xIf (Ff (eOp (o2 wEq) [eV 8,eI 1]) (eOp (o2 wGt) [eOp (o1 Cv) [eIx (eV 5) (eV 7)],eI 1])) brB (xIf (eOp (o2 wEq) [eV 8,eI 2]) brC brD))) (xIf bP (Ag (eC (.bl false))) Bb)
def cV:=AN (BN 7 (AD AF [eV 1,eOp (o1 Cv) [eV 4]])) (AN (BN 8 (AD AF [eV 1,eI 6])) bJ)
def aB{w:Int}(h:Tw S p a r n (us++x::vs))(hn:n<=11):∃o9 o10 S' ys,bJ [a0,Gc (.ref p),a2,a3,Gc (.ref a),Gc (.ref r),a6,Gc (.int us.length),Gc (.int w),a9,a10,a11,a12] S=Gc (.nx,[a0,Gc (.ref p),a2,a3,Gc (.ref a),Gc (.ref r),a6,Gc (.int us.length),Gc (.int w),o9,o10,a11,a12],S')/\Tw S' p a r (n+1) ys:=by
 have hx:=h.all x (by simp)
 have d1:=Ac h.rr
 have aQ:atI ((us++x::vs).map (λx=>D.ref x.s)) (us.length:Int)=Gc (.ref x.s):=Ja (f:=λx=>D.ref x.s)
 have d2:=Ac hx.row
 by_cases w0:w=0
 .subst w0
  obtain⟨S1,ys,e1,h1⟩:=ek (a0:=a0) (a2:=a2) (a3:=a3) (a6:=a6) (a8:=Gc (.int 0)) (a9:=a9) (a10:=a10) (a11:=a11) (a12:=a12) h (by lia)
  have c1:=RH (a0:=a0) (a2:=a2) (a3:=a3) (a6:=a6) (a7:=Gc (.int us.length)) (a8:=Gc (.int 0)) (a9:=a9) (a10:=a10) (a11:=a11) (a12:=a12) h1 (by lia)
  refine⟨a9,a10,S1,ys,?_,h1⟩
  unfold bJ
  generalize brA=A at*
  generalize bP=C at*
  simp[e1,c1]
 .have n0:(w==0)=false:=by simpa using w0
  by_cases w1:w=1/\0<x.es.length
  .obtain⟨rfl,hp⟩:=w1
   obtain⟨S1,ys,e1,h1⟩:=de (a0:=a0) (a2:=a2) (a3:=a3) (a6:=a6) (a8:=Gc (.int 1)) (a9:=a9) (a10:=a10) (a11:=a11) (a12:=a12) h hp
   have c1:=RH (a0:=a0) (a2:=a2) (a3:=a3) (a6:=a6) (a7:=Gc (.int us.length)) (a8:=Gc (.int 1)) (a9:=a9) (a10:=a10) (a11:=a11) (a12:=a12) h1 (by lia)
   refine⟨a9,a10,S1,ys,?_,h1⟩
   unfold bJ
   generalize (us++x::vs).map (λx=>D.ref x.s)=Q at*
   generalize brB=B at*
   generalize bP=C at*
   have g1:(1:Int)<(x.es.length:Int)+1:=by lia
   simp[d1,aQ,d2,g1,e1,c1]
  .have rest:∀(X Y:Ex),xIf (Ff (eOp (o2 wEq) [eV 8,eI 1]) (eOp (o2 wGt) [eOp (o1 Cv) [eIx (eV 5) (eV 7)],eI 1])) X Y [a0,Gc (.ref p),a2,a3,Gc (.ref a),Gc (.ref r),a6,Gc (.int us.length),Gc (.int w),a9,a10,a11,a12] S=Y [a0,Gc (.ref p),a2,a3,Gc (.ref a),Gc (.ref r),a6,Gc (.int us.length),Gc (.int w),a9,a10,a11,a12] S:=by
    intro X Y
    generalize (us++x::vs).map (λx=>D.ref x.s)=Q at*
    by_cases z:w=1
    .subst z
     have g1:¬(1:Int)<(x.es.length:Int)+1:=by lia
     simp[d1,aQ,d2,g1]
    .have z':(w==1)=false:=by simpa using z
     simp[z']
   by_cases w2:w=2
   .subst w2
    obtain⟨S1,ys,e1,h1⟩:=df (a0:=a0) (a2:=a2) (a3:=a3) (a6:=a6) (a8:=Gc (.int 2)) (a9:=a9) (a10:=a10) (a11:=a11) (a12:=a12) h hn
    have c1:=RH (a0:=a0) (a2:=a2) (a3:=a3) (a6:=a6) (a7:=Gc (.int us.length)) (a8:=Gc (.int 2)) (a9:=a9) (a10:=a10) (a11:=a11) (a12:=a12) h1 (by lia)
    refine⟨a9,a10,S1,ys,?_,h1⟩
    unfold bJ
    generalize brC=B at*
    generalize bP=C at*
    generalize hz:(xIf (Ff (eOp (o2 wEq) [eV 8,eI 1]) (eOp (o2 wGt) [eOp (o1 Cv) [eIx (eV 5) (eV 7)],eI 1])) brB (xIf (eOp (o2 wEq) [eV 8,eI 2]) B brD))=Z
    have rz:=rest brB (xIf (eOp (o2 wEq) [eV 8,eI 2]) B brD)
    rw[hz]at rz
    simp[hz,rz,e1,c1]
   .have n2:(w==2)=false:=by simpa using w2
    obtain⟨o9,o10,S1,ys,e1,h1⟩:=gF (a0:=a0) (a2:=a2) (a3:=a3) (a6:=a6) (a8:=Gc (.int w)) (a9:=a9) (a10:=a10) (a11:=a11) (a12:=a12) h hn
    have c1:=RH (a0:=a0) (a2:=a2) (a3:=a3) (a6:=a6) (a7:=Gc (.int us.length)) (a8:=Gc (.int w)) (a9:=o9) (a10:=o10) (a11:=a11) (a12:=a12) h1 (by lia)
    refine⟨o9,o10,S1,ys,?_,h1⟩
    unfold bJ
    generalize brD=B at*
    generalize bP=C at*
    generalize hz:(xIf (Ff (eOp (o2 wEq) [eV 8,eI 1]) (eOp (o2 wGt) [eOp (o1 Cv) [eIx (eV 5) (eV 7)],eI 1])) brB (xIf (eOp (o2 wEq) [eV 8,eI 2]) brC B))=Z
    have rz:=rest brB (xIf (eOp (o2 wEq) [eV 8,eI 2]) brC B)
    rw[hz]at rz
    simp[hz,rz,n0,n2,e1,c1]
def aO(h:Tw S p a r n xs)(hn:n<=11):∃o7 o8 o9 o10 S' ys,cV [a0,Gc (.ref p),a2,a3,Gc (.ref a),Gc (.ref r),a6,a7,a8,a9,a10,a11,a12] S=Gc (.nx,[a0,Gc (.ref p),a2,a3,Gc (.ref a),Gc (.ref r),a6,o7,o8,o9,o10,a11,a12],S')/\Tw S' p a r (n+1) ys:=by
 have hl:=h.len
 have hp:=h.pos
 obtain⟨i,S1,e1,b0,b1,p1⟩:=Ao h.pen (n:=(xs.length:Int)) (by lia) (by lia)
 have h1:=h.pn p1
 obtain⟨w,S2,e2,_,_,p2⟩:=Ao h1.pen (n:=6) (by decide) (by decide)
 have h2:=h1.pn p2
 obtain⟨i,rfl⟩:=Ho b0
 obtain⟨us,x,vs,rfl,rfl⟩:=Xj (xs:=xs) (i:=i) (by lia)
 obtain⟨o9,o10,S3,ys,e3,h3⟩:=aB (a0:=a0) (a2:=a2) (a3:=a3) (a6:=a6) (a9:=a9) (a10:=a10) (a11:=a11) (a12:=a12) (w:=w) h2 hn
 refine⟨Gc (.int us.length),Gc (.int w),o9,o10,S3,ys,?_,h3⟩
 have d1:=Ac h.ra
 have ll:((us++x::vs).map λx=>D.ref x.L).length=(us++x::vs).length:=sG ..
 generalize (us++x::vs).map (λx=>D.ref x.L)=R at*
 generalize (us++x::vs).length=N at*
 unfold cV
 generalize bJ=B at*
 simp[d1,ll,e1,e2,e3]
theorem T5:∀{ks:Wp Int} {n:Nat} {xs:Wp Ldr} {S:Sto} {a6 a7 a8 a9 a10:qz D},Tw S p a r n xs->n+ks.length<=12->∃o6 o7 o8 o9 o10 S' ys,Kv [] (tNm 6) cV (ks.map D.int) [a0,Gc (.ref p),a2,a3,Gc (.ref a),Gc (.ref r),a6,a7,a8,a9,a10,a11,a12] S=Gc (.nx,[a0,Gc (.ref p),a2,a3,Gc (.ref a),Gc (.ref r),o6,o7,o8,o9,o10,a11,a12],S')/\Tw S' p a r (n+ks.length) ys
 | [],n,xs,S,a6,a7,a8,a9,a10,h,hl=>⟨a6,a7,a8,a9,a10,S,xs,by rw[tP,Fi Ad],h⟩
 |k::ks,n,xs,S,a6,a7,a8,a9,a10,h,hl=>by
  simp only[sS]at hl
  obtain⟨o7,o8,o9,o10,S1,ys,e1,h1⟩:=aO (a0:=a0) (a2:=a2) (a3:=a3) (a6:=Gc (.int k)) (a7:=a7) (a8:=a8) (a9:=a9) (a10:=a10) (a11:=a11) (a12:=a12) h (by lia)
  obtain⟨u6,u7,u8,u9,u10,S2,zs,e2,h2⟩:=T5 (ks:=ks) (a6:=Gc (.int k)) (a7:=o7) (a8:=o8) (a9:=o9) (a10:=o10) h1 (by lia)
  refine⟨u6,u7,u8,u9,u10,S2,zs,?_,by rw[sS];have:n+(ks.length+1)=n+1+ks.length:=by lia
                                     rw[this];exact h2⟩
  rw[rT,DR Ad]
  generalize cV=FB at*
  simp[e1,e2]
end
section
variable{S S':Sto}{p a r n:Nat}{L q s:Nat}{es:Wp D}{b:D}{a0 a1 a2 a3 a4 a5 a6 a7 a8 a9 a10:qz D}
def whC:=eOp (o2 wGt) [eOp (o1 Cv) [eV 12],eI 1]
def whB:=AN (BP (HG QS (eV 12) [])) (AN (BP (C4 "Leader" "undo" Aq (eV 11) [])) (xIf (eOp (o2 wNe) [C4 "Leader" "book" Ar (eV 11) [],eIx (eV 12) (eOp (o1 LZ) [eI 1])]) (Ag (eC (.bl false))) Bb))
def ck:=AN (JM (Uv 20) whC whB) (xIf (eOp (o2 wNe) [lmU,eC (.str "nothing")]) (Ag (eC (.bl false))) Bb)
theorem Qs(ow:q≠L/\s≠L/\s≠q):∀{k:Nat} {es:Wp D} {b:D} {S:Sto},LG S n ⟨L,q,s,es,b⟩->es.length<k->∃S' b',Fw whC whB k [a0,a1,a2,a3,a4,a5,a6,a7,a8,a9,a10,Gc (.ref L),Gc (.ref s)] S=Gc (.nx,[a0,a1,a2,a3,a4,a5,a6,a7,a8,a9,a10,Gc (.ref L),Gc (.ref s)],S')/\LAt S' L q b' []/\Ba [L,q,s] S S'
 |0,es,b,S,h,hk=>by lia
 |k+1,es,b,S,h,hk=>by
  have dr0:=Ac h.row
  have c0:=AJ h.row
  rcases zM es with rfl|⟨es',b',rfl⟩
  .refine⟨S,b,Nd ?_,h.la,.refl⟩
   simp only[r9]at dr0
   simp[whC,dr0]
  .rw[zN]at*
   have hr:=AQ h.row
   have row1:(S.set s (.lst (es'++[b'])))[s]?=Gc (.lst (es'++[b'])):=rF hr
   have mp:QS S (es'++[b']++[b]) []=Gc (b,es'++[b']):=Np
   have s1:Ba [s] S (S.set s (.lst (es'++[b']))):=.set (by simp)
   have la1:LAt (S.set s (.lst (es'++[b']))) L q b (es'++[b']):=⟨s1.get h.la.ob (by simpa using ow.2.1.symm),s1.get h.la.er (by simpa using ow.2.2.symm)⟩
   obtain⟨S2,e2,l2,s2⟩:=VW la1
   have row2:=s2.get row1 (by simp;exact⟨ow.2.1,ow.2.2⟩)
   have h2:LG S2 n ⟨L,q,s,es',b'⟩:=⟨l2,row2,Yq h.gd,by have:=h.few;simp at this ⊢; lia⟩
   obtain⟨S3,b3,e3,h3,s3⟩:=Qs ow (k:=k) h2 (by simp at hk;lia)
   refine⟨S3,b3,?_,h3,((s1.mono (by simp)).trans (s2.mono (by simp))).trans s3⟩
   have hi:=la1.ins
   have i2:=l2.ins
   have bo:=QT l2
   have d2:=Ac row2
   have ae:atI (es'++[b']) (-1:Int)=Gc b':=QL
   have gq:=YT (h2.gd es'.length b' (by simp))
   have gr:dr S2 b'=.val b':=by
    obtain⟨_,_,_,_,_,rfl,_⟩:=h2.gd es'.length b' (by simp)
    rfl
   have pos:0<(es'++[b']).length:=by simp
   have cc:whC [a0,a1,a2,a3,a4,a5,a6,a7,a8,a9,a10,Gc (.ref L),Gc (.ref s)] S=Gc (.bl true,S):=by
    simp only at dr0
    generalize es'++[b']=EE at*
    have g1:(1:Int)<(EE.length:Int)+1:=by lia
    simp[whC,dr0,g1]
   have bb:whB [a0,a1,a2,a3,a4,a5,a6,a7,a8,a9,a10,Gc (.ref L),Gc (.ref s)] S=Gc (.nx,[a0,a1,a2,a3,a4,a5,a6,a7,a8,a9,a10,Gc (.ref L),Gc (.ref s)],S2):=by
    simp only at c0 i2
    generalize es'++[b']=EE at*
    simp[whB,c0,mp,hi,e2,i2,bo,d2,ae,gr,gq.1,gq.2.1]
   rw[N1 cc bb,e3]
def TH(tb:∃k:Nat,S[k]?=Gc (Cl.tab "law"))(h:LAt S L q b []):lmU [a0,a1,a2,a3,a4,a5,a6,a7,a8,a9,a10,Gc (.ref L),Gc (.ref s)] S=Gc (.str "nothing",S):=by
 obtain⟨e1,e2⟩:=Zj h
 refine LF (P7 tb) ?_ (E':=[Gc (.ref L)]) (tg:=⟨"NothingDone",none⟩) ?_ hdD
 .simp[Kq,h.ins,e1]
 .simp[Kq,JP,h.ins,e2]
def az(ow:q≠L/\s≠L/\s≠q)(h:LG S n ⟨L,q,s,es,b⟩)(hn:n<20)(tb:∃k:Nat,S[k]?=Gc (Cl.tab "law")):∃S',ck [a0,a1,a2,a3,a4,a5,a6,a7,a8,a9,a10,Gc (.ref L),Gc (.ref s)] S=Gc (.nx,[a0,a1,a2,a3,a4,a5,a6,a7,a8,a9,a10,Gc (.ref L),Gc (.ref s)],S')/\Ba [L,q,s] S S'/\∃k:Nat,S'[k]?=Gc (Cl.tab "law"):=by
 obtain⟨S1,b1,e1,l1,s1⟩:=Qs (a0:=a0) (a1:=a1) (a2:=a2) (a3:=a3) (a4:=a4) (a5:=a5) (a6:=a6) (a7:=a7) (a8:=a8) (a9:=a9) (a10:=a10) ow (k:=20) h (sC h.few hn)
 have tb1:∃k:Nat,S1[k]?=Gc (Cl.tab "law"):=by
  obtain⟨k,e⟩:=tb
  exact⟨k,s1.get e λz=>h.tabs k z _ e⟩
 have u:=TH (s:=s) (a0:=a0) (a1:=a1) (a2:=a2) (a3:=a3) (a4:=a4) (a5:=a5) (a6:=a6) (a7:=a7) (a8:=a8) (a9:=a9) (a10:=a10) tb1 l1
 refine⟨S1,?_,s1,tb1⟩
 have xw:∀(E:En) (T:Sto),JM (Uv 20) whC whB E T=Fw whC whB 20 E T:=λ_ _=>rfl
 have eqs:Kr (.str "nothing") (.str "nothing")=true/\deq (.str "nothing") (.str "nothing")=true:=⟨JH (show tV (sI "nothing")=true by decide+kernel) (by decide),JY (show tV (sI "nothing")=true by decide+kernel)⟩
 unfold ck
 generalize Fw whC whB 20=WD at*
 generalize JM (Uv 20) whC whB=XW at*
 generalize lmU=LM at*
 simp[xw,e1,u,eqs.1,eqs.2]
theorem YS{f g:Ldr->D}:∀{xs:Wp Ldr},K4 (xs.map f) (xs.map g)=xs.map λx=>D.tup [f x,g x]
 | []=>rfl
 |x::xs=>by
  have:=YS (f:=f) (g:=g) (xs:=xs)
  unfold K4 at this⊢
  simp only[rT,AAL,this]
theorem Y7{R Q:Wp D}(hn:n<20):∀{xs:Wp Ldr} {S:Sto} {o11 o12:qz D},S[a]?=Gc (.lst R)->S[r]?=Gc (.lst Q)->(∃k:Nat,S[k]?=Gc (Cl.tab "law"))->(∀x∈xs,LG S n x)->(a::r::xs.flatMap Ldr.cs).Nodup->∃u11 u12 S',Kv ([(a,R)]++[(r,Q)]) (tTp [tNm 11,tNm 12]) ck (xs.map λx=>D.tup [.ref x.L,.ref x.s]) [a0,a1,a2,a3,a4,a5,a6,a7,a8,a9,a10,o11,o12] S=Gc (.nx,[a0,a1,a2,a3,a4,a5,a6,a7,a8,a9,a10,u11,u12],S')
 | [],S,o11,o12,ra,rr,tb,all,nd=>by
   have g:gOk ([(a,R)]++[(r,Q)]) S:=λg hg=>by
    rcases rf.mp hg with hg|hg<;>rw[sF.mp hg]
    .exact AJ ra
    .exact AJ rr
   exact⟨o11,o12,S,by rw[tP,Fi g]⟩
 |x::xs,S,o11,o12,ra,rr,tb,all,nd=>by
  have g:gOk ([(a,R)]++[(r,Q)]) S:=λg hg=>by
   rcases rf.mp hg with hg|hg<;>rw[sF.mp hg]
   .exact AJ ra
   .exact AJ rr
  simp only[vt]at nd
  obtain⟨n1,nd⟩:=rm.mp nd
  obtain⟨n2,nd⟩:=rm.mp nd
  obtain⟨m4,m5,m6⟩:=uA.mp nd
  have m4':=m4
  simp only[Ldr.cs,rm,qy,rJ,sU,vg]at m4'
  simp only[qy,rf,vg]at n1 n2
  obtain⟨S1,e1,s1,tb1⟩:=az (a0:=a0) (a1:=a1) (a2:=a2) (a3:=a3) (a4:=a4) (a5:=a5) (a6:=a6) (a7:=a7) (a8:=a8) (a9:=a9) (a10:=a10) (L:=x.L) (q:=x.q) (s:=x.s) (es:=x.es) (b:=x.b) ⟨λz=>m4'.1.1 z.symm,λz=>m4'.1.2 z.symm,λz=>m4'.2.1 z.symm⟩ (all x (by simp)) hn tb
  obtain⟨u11,u12,S2,e2⟩:=Y7 hn (xs:=xs) (S:=S1) (o11:=Gc (.ref x.L)) (o12:=Gc (.ref x.s)) (s1.get ra n1.2.1) (s1.get rr n2.1) tb1 (λy hy=>(all y (by simp[hy])).same s1 (λc hc z=>m6 c z c (u5.mpr ⟨y,hy,hc⟩) rfl) (q9 _)) (rm.mpr ⟨by simp only[qy,vg];exact⟨n1.1,n1.2.2⟩,rm.mpr ⟨n2.2,m5⟩⟩)
  refine⟨u11,u12,S2,?_⟩
  rw[rT,DR g]
  generalize ck=FB at*
  simp only[sQ,r9]at e2⊢
  simp[e1,e2]
end
def dw(ns:Wp Int)(h:ns.length<=63):∃S',OK [.scr ns] [Cl.tab "law"]=Gc (.bl true,S'):=by
 generalize hS0:[Cl.tab "law"]=S0
 have tb0:S0[0]?=Gc (Cl.tab "law"):=by subst hS0;rfl
 have l0:S0.length=1:=by subst hS0;rfl
 obtain⟨c,e0⟩:=aY (S:=S0) (ns:=ns) (k:=0)
 obtain⟨p,S1,e1,hp,s1,lp⟩:=gL (S:=S0) c
 obtain⟨t,ls,S2,e2,p2,ht,hho,hh,hf,hl,G,g0,g1,g2⟩:=WZ hp
 obtain⟨GF,f0,f1,f2,f3⟩:=SS hf hl g0 g1 g2
 have iv:=Vj hf hl hho.1 g0 g1 g2
 have wk:Wk t ls [] 0 0:=⟨⟨ht,⟨0,by decide,iv⟩,hl,λx hx=>⟨by have:=(hf.1 x hx).2.1;lia,(hf.1 x hx).2.2.1⟩,trivial⟩,hh,⟨λx hx=>(hf.1 x hx).2.2.2.2,hho.2⟩,0,GF,GF,by decide,f0,q9 _,f1,f2,f3⟩
 have hpos:∀x∈ls,0<x.n:=λx hx=>by have:=(hf.1 x hx).2.1;lia
 have tb2:S2[0]?=Gc (Cl.tab "law"):=p2.get (s1.get tb0 (by simp)) (by lia)
 have lt2:=p2.pen.lt
 have w1:=UI (S:=S2++[Cl.ins "Leader" []]) wk hpos
 have k1:=TM (S:=S2) (t:=t) (ls:=ls) (E:=[Gc (.scr ns),Gc (.ref p),Gc t.d,Gc (.tup (ls.map Ld.d)),none,none,none,none,none,none,none,none,none]) (f:=eV 2) (g:=eV 3) w1.1 w1.2 (by simp) (by simp)
 generalize hS3:S2++[lead (AH t ls []) (S2.length+1),.lst []]=S3 at k1
 have l3:S3.length=S2.length+2:=by rw[<-hS3];simp
 have w3:=UI (S:=S3++[Cl.ins "Leader" []]) wk hpos
 have k3:=TM (S:=S3) (t:=t) (ls:=ls) (E:=[Gc (.scr ns),Gc (.ref p),Gc t.d,Gc (.tup (ls.map Ld.d)),none,none,none,none,none,none,none,none,none]) (f:=eV 2) (g:=eV 3) w3.1 w3.2 (by simp) (by simp)
 generalize hS4:S3++[lead (AH t ls []) (S3.length+1),.lst []]=S4 at k3
 have l4:S4.length=S2.length+4:=by rw[<-hS4];simp;lia
 have s23:Ba [] S2 S3:=by rw[<-hS3];exact .app
 have s34:Ba [] S3 S4:=by rw[<-hS4];exact .app
 have A1:S3[S2.length]?=Gc (lead (AH t ls []) (S2.length+1)):=by rw[<-hS3];simp
 have A2:S3[S2.length+1]?=Gc (.lst []):=by rw[<-hS3];simp
 have A3:S4[S3.length]?=Gc (lead (AH t ls []) (S3.length+1)):=by rw[<-hS4];simp
 have A4:S4[S3.length+1]?=Gc (.lst []):=by rw[<-hS4];simp
 generalize hS5:S4++[Cl.lst [.ref S2.length,.ref S3.length]]=S5
 have l5:S5.length=S2.length+5:=by rw[<-hS5];simp;lia
 have s45:Ba [] S4 S5:=by rw[<-hS5];exact .app
 have A5:S5[S4.length]?=Gc (.lst [.ref S2.length,.ref S3.length]):=by rw[<-hS5];simp
 generalize hS6:S5++[Cl.lst [AH t ls []]]=S6
 have l6:S6.length=S2.length+6:=by rw[<-hS6];simp;lia
 have s56:Ba [] S5 S6:=by rw[<-hS6];exact .app
 have A6:S6[S5.length]?=Gc (.lst [AH t ls []]):=by rw[<-hS6];simp
 generalize hS7:S6++[Cl.lst [AH t ls []]]=S7
 have l7:S7.length=S2.length+7:=by rw[<-hS7];simp;lia
 have s67:Ba [] S6 S7:=by rw[<-hS7];exact .app
 have A7:S7[S6.length]?=Gc (.lst [AH t ls []]):=by rw[<-hS7];simp
 generalize hS8:S7++[Cl.lst [.ref S5.length,.ref S6.length]]=S8
 have s78:Ba [] S7 S8:=by rw[<-hS8];exact .app
 have A8:S8[S7.length]?=Gc (.lst [.ref S5.length,.ref S6.length]):=by rw[<-hS8];simp
 have s58:=(s56.trans s67).trans s78
 have s48:=s45.trans s58
 have s38:=s34.trans s48
 have s28:=s23.trans s38
 have gd0:∀i y,([]++[AH t ls []])[i]?=Gc y->GdB i y:=λi y e=>by
  have hi:i=0:=by
   have:=(rB.mp e).1
   simp at this
   exact this
  subst hi
  cases e
  exact⟨t,ls,[],0,0,rfl,wk,by decide,by decide,hpos⟩
 have nil:∀c:Nat,c∉([]:Wp Nat):=λc=>by simp
 have tw:Tw S8 p S4.length S7.length 0 [⟨S2.length,S2.length+1,S5.length,[],AH t ls []⟩,⟨S3.length,S3.length+1,S6.length,[],AH t ls []⟩]:=by
  refine⟨p2.pen.same s28,s58.get A5 (nil _),A8,⟨0,s28.get tb2 (nil _)⟩,λx hx=>?_,?_,q9 2,(show 0<2 by decide)⟩
  .simp only[qy,rJ,sU]at hx
   rcases hx with rfl|rfl
   .exact⟨⟨s38.get A1 (nil _),s38.get A2 (nil _)⟩,(s67.trans s78).get A6 (nil _),gd0,q9 _⟩
   .exact⟨⟨s48.get A3 (nil _),s48.get A4 (nil _)⟩,s78.get A7 (nil _),gd0,q9 _⟩
  .simp only[Ldr.cs,vt,List.flatMap_nil,sQ,r9,rm,qy,rJ,sU,vg,l3,l4,l5,l6,l7,List.nodup_nil,and_true,not_false_eq_true]
   lia
 obtain⟨o6,o7,o8,o9,o10,S9,ys,e9,h9⟩:=T5 (a0:=Gc (.scr ns)) (a2:=Gc t.d) (a3:=Gc (.tup (ls.map Ld.d))) (a11:=none) (a12:=none) (ks:=[0,1,2,3,4,5,6,7,8,9]) (a6:=none) (a7:=none) (a8:=none) (a9:=none) (a10:=none) tw (by decide)
 have nd9:=(rm.mp h9.nd).2
 obtain⟨u11,u12,S10,e10⟩:=Y7 (a0:=Gc (.scr ns)) (a1:=Gc (.ref p)) (a2:=Gc t.d) (a3:=Gc (.tup (ls.map Ld.d))) (a4:=Gc (.ref S4.length)) (a5:=Gc (.ref S7.length)) (a6:=o6) (a7:=o7) (a8:=o8) (a9:=o9) (a10:=o10) (n:=10) (by decide) (o11:=none) (o12:=none) h9.ra h9.rr h9.tb h9.all nd9
 refine⟨S10,?_⟩
 have z3:1+1+1<=sizeLine:=AK (by decide)
 have q1:=FH h9.ra
 have q2:=FH h9.rr
 rw[<-YS]at e10
 have eb:VA=(AN (BN 1 (AD Ha [AD CC [eV 0,eI 0]]))
  (AN (Jn (tTp [tNm 2,tNm 3]) (AD FI [eV 1]))
  (AN (BN 4 (FC [MG "Leader" Av [eV 2,eV 3],MG "Leader" Av [eV 2,eV 3]]))
  (AN (BN 5 (FC [FC [Bn [eV 2,eV 3,Bn []]],FC [Bn [eV 2,eV 3,Bn []]]]))
  (AN (NJ (Sk [eI 10]) (tNm 6) cV)
  (AN (NJ (Sn (eV 4) (eV 5)) (tTp [tNm 11,tNm 12]) ck)
  (Ag (eC (.bl true))))))))):=rfl
 have rk:L6 10=true:=Gb (by decide) (by decide)
 have rd:OQ 0 10=[.int 0,.int 1,.int 2,.int 3,.int 4,.int 5,.int 6,.int 7,.int 8,.int 9]:=rfl
 simp only[rT,tP]at e9
 unfold OK
 rw[eb]
 generalize cV=FB at*
 generalize ck=ZB at*
 generalize MG "Leader" Av [eV 2,eV 3]=MK at*
 have e0':CC [.scr ns,.int 0] S0=Gc (.int c,S0):=e0
 simp only[sQ,r9]at e10
 have l75:S5.length+2=S7.length:=by rw[l5,l7]
 have hS9:S5++[Cl.lst [D.tup [t.d,D.tup (ls.map Ld.d),D.tup []]],Cl.lst [D.tup [t.d,D.tup (ls.map Ld.d),D.tup []]],Cl.lst [.ref S5.length,.ref (S5.length+1)]]=S8:=by
  rw[<-hS8,<-hS7,<-hS6]
  simp[AH]
 generalize ys.map (λx=>D.ref x.L)=R at*
 generalize ys.map (λx=>D.ref x.s)=Q at*
 simp[e0',e1,e2,k1,k3,hS5,hS9,l75,z3,rk,rd,e9,q1,q2,e10]
def iH{K:W1}{h:tS}{mg:Str->qz rD}{xs:Wp Str}{y:Str}{C':rL}(X:K.In h)(G:h.Ns mainGlobals mg)(e:sN K mainGlobals y=Gc (Gc (.ref C')))(t:∀x∈xs,∃C b,sN K mainGlobals x=Gc (Gc (.ref C))/\v5 K (.ref C) (.ref C')=Gc b/\(x==y)=b):XmD K mg xs y:=mK X G e λx hx=>by
 obtain⟨C,b,h1,h2,h3⟩:=t x hx
 exact⟨C,h1,by rw[h3];exact h2⟩
def iU{K:W1}{xs:Wp Str}{x y:Str}{C C':rL}{b:su}(h1:sN K mainGlobals x=Gc (Gc (.ref C)))(h2:v5 K (.ref C) (.ref C')=Gc b)(h3:(x==y)=b)(t:∀z∈xs,∃C b,sN K mainGlobals z=Gc (Gc (.ref C))/\v5 K (.ref C) (.ref C')=Gc b/\(z==y)=b):∀z∈x::xs,∃C b,sN K mainGlobals z=Gc (Gc (.ref C))/\v5 K (.ref C) (.ref C')=Gc b/\(z==y)=b:=λz m=>by
 rcases qy.mp m with e|m
 .rw[e];exact⟨C,b,h1,h2,h3⟩
 .exact t z m
section
variable{P:sx}{w:uL}{K:W1}{mg:Str->qz rD}{base:tS}
def Cp:Au ["_law_script","_law_pen_here","_law_train_here","_law_first_here","_law_leaders","_law_rows","_law_turn_here","_law_at","_law_way","_law_deed_here","_law_due","_law_leader","_law_row"] ["_law_script"] (AB DJ):=scM
def SV:AR ["_law_script","_law_pen_here","_law_train_here","_law_first_here","_law_leaders","_law_rows","_law_turn_here","_law_at","_law_way","_law_deed_here","_law_due","_law_leader","_law_row"] (AB DJ) ["_law_leader"] (ixC [] 1) (JC DJ 0):=csM
def Ro:(["_law_leader"]:Wp Str).Nodup:=by decide+kernel
def Rz:AR ["_law_script","_law_pen_here","_law_train_here","_law_first_here","_law_leaders","_law_rows","_law_turn_here","_law_at","_law_way","_law_deed_here","_law_due","_law_leader","_law_row"] (AB DJ) ["_law_row"] (ixC [] 1) (JC DJ 1):=csM
def Rr:(["_law_row"]:Wp Str).Nodup:=by decide+kernel
def SO:IB ["_law_script","_law_pen_here","_law_train_here","_law_first_here","_law_leaders","_law_rows","_law_turn_here","_law_at","_law_way","_law_deed_here","_law_due","_law_leader","_law_row"] (AB DJ) ["_law_leaders","_law_at"] [4,7] (l9 DJ 0):=lsM
def SN:IB ["_law_script","_law_pen_here","_law_train_here","_law_first_here","_law_leaders","_law_rows","_law_turn_here","_law_at","_law_way","_law_deed_here","_law_due","_law_leader","_law_row"] (AB DJ) ["_law_leaders","_law_at","_law_deed_here"] [4,7,9] (l9 DJ 1):=lsM
def RY:IB ["_law_script","_law_pen_here","_law_train_here","_law_first_here","_law_leaders","_law_rows","_law_turn_here","_law_at","_law_way","_law_deed_here","_law_due","_law_leader","_law_row"] (AB DJ) ["_law_leader"] [11] (l9 DJ 2):=lsM
def dE{f:rL}{fd:xT}(F:Fun K "law" "law" DJ f fd)(hm:mg "law"=Gc (.ref f))(bm:BmB mg base)(T:All w K mg):Kg P w K mg base CX0 17 f fd ["_law_script"] (spD K 1 OK):=by
 have B:=T.bt
 have S_law_said:=T.Hw
 have Bx:=Bx P base bm T
 have Gy:=Gy P base bm T
 have Eb:=Eb P base bm T
 have Cd:=Cd P base bm T
 have CY:=CY P base bm T
 have Fb:=Fb P base bm T
 have MA:=MA P base bm T
 have Gg:=Gg P base bm T
 have Hv:=Hv P base bm T
 have Iy:=Iy P base bm T
 have Jz:=Jz P base bm T
 have GV:=GV P base bm T
 have KH:=KH P base bm T
 have Gx:=T.Gx
 have CK:=T.CK
 have Fd:=T.Fd
 have Gu:=Gu P base bm T
 have Ec:=Ec P base bm T
 have FY:=FY P base bm T
 refine fnL (k:=16) F hm Cp rfl λci hr hu=>?_
 exact(AY (HC 1 (deM MA hr (AE (deM Gg hr (AE (AG 0) (AE BM AI))) AI)) Cp.nd)
      (AY (Vi (deM Iy hr (AE (AG 1) AI)) (UQ rfl (DA (IZ 2 Cp.nd) (DA (IZ 3 Cp.nd) MJ))))
      (AY (HC 4 (PU (AE (OH Bx hr rfl (AE (AG 2) (AE (AG 3) AI))) (AE (OH Bx hr rfl (AE (AG 2) (AE (AG 3) AI))) AI))) Cp.nd)
      (AY (HC 5 (PU (AE (PU (AE (IF (AE (AG 2) (AE (AG 3) (AE (IF AI) AI)))) AI)) (AE (PU (AE (IF (AE (AG 2) (AE (AG 3) (AE (IF AI) AI)))) AI)) AI))) Cp.nd)
      (AY (ZF zF rfl (ZN rfl B.range (AE BM AI)) (IZ 6 Cp.nd) (AY (HC 7 (deM Hv hr (AE (AG 1) (AE (Br Bs rfl B.len vZ (AE (AG 4) AI)) AI))) Cp.nd)
      (AY (HC 8 (deM Hv hr (AE (AG 1) (AE BM AI))) Cp.nd)
      (AY (FJ (Dg (IP hu) (AG 8) BM) (AY (Dq (O0 uS um Ln (AG 4) (AE (EM Fb hr (Ci Hs (AG 4) (AG 7))) AI)))
      (AW (Dq (O0 uS um Ln (AG 5) (AE (Pb Mw rfl B.list boot_list (AE (Ci Hs (AG 5) (AG 7)) AI)) AI))))) (AW (FJ (DW.dt (fE (Dg (IP hu) (AG 8) BM) (Za (Dg YR (Br Bs rfl B.len vZ (AE (Ci Hs (AG 5) (AG 7)) AI)) BM)))) (AY (Dq (EM Cd hr (Ci Hs (AG 4) (AG 7))))
      (AW (Dq (P2 vd xK Pw (Ci Hs (AG 5) (AG 7)))))) (AW (FJ (Dg (IP hu) (AG 8) BM) (AW (FJ (Dg aF (QY (k:=12) S_law_said Iz SO ci bm (hr.mono (by decide)) rfl (λf c' clos A outer s H hr=>(EM Eb hr (Ci Hs (AG 0) (AG 1)))) (λf c' clos A outer s H hr=>(OY Ec hr (Ci Hs (AG 0) (AG 1)))) (λ_ _ _ _ _ _=>(GR Fd rfl (λ_=>AW (CV FV)) (GR Gx rfl (λ_=>AW (CV FV)) (GR CK rfl (λ_=>AW (CV FV)) Vz))))) dg) (AW (Dq (O0 uS um Ln (Ci Hs (AG 5) (AG 7)) (AE (EM CY hr (Ci Hs (AG 4) (AG 7))) AI)))) B6)) (AY (HC 9 (deM Jz hr (AE (AG 1) (AE (Ci Hs (Ci Hs (AG 5) (AG 7)) (UC LH BM)) AI))) Cp.nd)
      (AY (HC 10 (deM GV hr (AE (Ci Hs (Ci Hs (AG 5) (AG 7)) (UC LH BM)) (AE (AG 9) AI))) Cp.nd)
      (AY (FJ (Dg (LO hu) (QY (k:=9) S_law_said Iz SN ci bm (hr.mono (by decide)) rfl (λf c' clos A outer s H hr=>(LB Gy hr (Ci Hs (AG 0) (AG 1)) (AE (AG 2) AI))) (λf c' clos A outer s H hr=>(W0 Gu hr (Ci Hs (AG 0) (AG 1)) (AE (AG 2) AI))) (λ_ _ _ _ _ _=>(GR Fd rfl (λ_=>AW (CV FV)) (GR Gx rfl (λ_=>AW (CV FV)) (GR CK rfl (λ_=>AW (CV FV)) Vz))))) (AG 10)) (AW (CV Nn)) B6)
      (AW (FJ (Dg (LO hu) (AG 10) FV) (AW (Dq (O0 uS um Ln (Ci Hs (AG 5) (AG 7)) (AE (deM KH hr (AE (Ci Hs (Ci Hs (AG 5) (AG 7)) (UC LH BM)) (AE (AG 9) AI))) AI)))) B6))))))))))
      (AW (FJ (Dg (LO hu) (P9 [] 1 ["_law_leader"] rfl SV (Y4 (AG 4)) (λs H fp=>⟨IZ 0 Ro,QI,EM CY hr (AG 0)⟩)) (P9 [] 1 ["_law_row"] rfl Rz (Y4 (AG 5)) (λs H fp=>⟨IZ 0 Rr,QI,Ci Hs (AG 0) (UC LH BM)⟩))) (AW (CV Nn)) B6))))))
      (AY (ZF zF rfl (eM rfl B.zip (AG 4) (AG 5)) (UQ rfl (DA (IZ 11 Cp.nd) (DA (IZ 12 Cp.nd) MJ))) (AY (Xp (Uv 20) zF (Dg YR (Br Bs rfl B.len vZ (AE (AG 12) AI)) BM) (AY (Dq (P2 vd xK Pw (AG 12)))
      (AY (Dq (EM Cd hr (AG 11)))
      (AW (FJ (Dg (LO hu) (EM CY hr (AG 11)) (Ci Hs (AG 12) (UC LH BM))) (AW (CV Nn)) B6)))))
      (AW (FJ (Dg (LO hu) (QY (k:=1) S_law_said Iz RY ci bm (hr.mono (by decide)) rfl (λf c' clos A outer s H hr=>(EM Cd hr (AG 0))) (λf c' clos A outer s H hr=>(OY FY hr (AG 0))) (λ_ _ _ _ _ _=>(GR Fd rfl (λ_=>AW (CV FV)) (GR Gx rfl (λ_=>AW (CV FV)) (GR CK rfl (λ_=>AW (CV FV)) Vz))))) FV) (AW (CV Nn)) B6))))
      (AW (CV Nn))))))))
end
def eW{K:W1}{x:Str}{P f c:rL}{oc oc2:rD}{od od2:qz rL}{osl osl2:xI (qz rD)}{fd:xT}{vs:xI rD}{file:Str}{tf tg tt:Tok}{flags text:Int}{inF:su}(e1:sN K mainGlobals x=Gc (Gc (.ref f)))(e2:K.lookup f=Gc ⟨oc,od,.func fd,osl⟩)(e3:fd.code=.ref c)(e4:K.lookup c=Gc ⟨oc2,od2,.fields vs,osl2⟩)(h0:oc2=.type "code")(h11:vs[11]?=Gc (.ref P))(h11':vs.getD 11 sL=.ref P)(h18:vs.getD 18 sL=.str file tf)(h7:vs.getD 7 sL=.int flags tg)(h9:vs.getD 9 sL=.bool inF)(h10:vs.getD 10 sL=.int text tt)(ne:c≠P):TabAt K x P:=
 ⟨f,oc,od,fd,osl,c,e1,e2,e3,_,vs,file,tf,flags,tg,inF,text,tt,e4,h0,rfl,h11,h11',h18,h7,h9,h10,ne⟩
theorem Ta{P:rL}:∀{K:W1},P∉K.map (·.1)->K.lookup P=none
 | [],_=>rfl
 |(a,o)::K,h=>by
  rw[rT,qy,vg]at h
  have:(P==a)=false:=by simpa using h.1
  rw[sX,this]
  exact Ta h.2
def walk{l:yl}{q:sx}{loose:Wp Str}{XP:(Str->qz rD)->tS->Prop}{d:DefRec}{K:Params->W1}{as:Wp rL}{ea:∀(P:Params),as=List.map (λx=>x.fst) (K P)}{ts:Wp rL}(hn:l.most=Gc 63)(hdf:d.params.defaults=[])(na:∀P∈ts,P∉as)(nd:(((["law"]:Wp Str).zip ts).map (·.2)).Nodup)(hl:SE ((["law"]:Wp Str).zip ts)=[Cl.tab "law"])(hd:d.name="law")(F:∀(w:uL) (mg:Str->qz rD) (h:tS),(K w.params).In h->h.Ns mainGlobals mg->(∀z∈(["law"]:Wp Str).zip ts,TabAt (K w.params) z.1 z.2)/\All w (K w.params) mg):PySem.W.WalkO q loose XP (PySem.W.kmHook K as ea ts).says l.row.toRowW d [] (λf vs=>PySem.call f vs):=by
 refine kK (x:="_law_script") (k:=17) (Fn0:=OK) ((["law"]:Wp Str).zip ts) hn hdf ⟨rfl,by decide,by decide⟩ (λw h Y=>⟨Y.1,λz hz=>Y.2 _ (uV hz).2⟩) nd (λw mg fa h KX G hmg=>?_) λns hns=>by rw[hl];exact dw ns hns
 obtain⟨hT,T⟩:=F w mg h KX G
 refine⟨λz hz=>⟨hT z hz,Ta (by rw[<-ea];exact na _ (uV hz).2)⟩,?_⟩
 obtain⟨f,fd,F,hm⟩:=T.DJ.ex
 rw[hd]at hmg
 have e:=hmg.symm.trans hm
 cases e
 refine⟨fd,λs v=>?_,λbase _ _ bm=>dE (P:=l.prog) (w:=w) (base:=base) F hm bm T⟩
 obtain⟨oc,od,kV,doc,pm,an,cdv,ct,osl,hfd,_⟩:=F.ex
 subst hfd
 exact .of_eq rfl
end Mi
end
noncomputable section
structure PySem.W.Fast:Prop where
 (tw14579380319846763097 tw2207742357198126808 tw3617167090583770104 tw5753537702900078820 tw3507474490251103341 tw3529335240189362720 tw8044736979519602045 tw13057671797216824271 tw3213044565947889467 tw7601613247018371028 tw6471208195298557688 tw1045391425516338652 tw5366340665595341370 tw3606965518398060941 tw3259910900038403550 tw14320499267056238978 tw4153239576363916426 tw889418046797046962 tw1274383904169034439 tw15069452266822982574 tw18174179598529516719 tw10107924754454840242 tw17446240891566119071 tw7796823564698420902 tw8685939007537018179 tw17756657095343082504 tw5156198392868378566 tw11633880422613539686 tw9074863420980043458 tw15436725945881434606 tw13166955827401638714 tw6811693508006916880 tw15753340177679837396 tw13342610999870370313 tw4592126858264905592 tw4009105103453376143 tw15304397779635929783 tw4905057097780590151 tw4477397250316297983 tw11736775414055503147 tw10596581612584368115 tw16863949326934032413 tw16211436863364169153 tw226481943308471231 tw8788609130840350521 tw10469554880314242162 tw4552676972469817209 tw6756577549458246075 tw9229212781139935521 tw9346066978450149294 tw17636728905808052927 tw3699990759732926175 tw5501835837653270921 tw15424023973571553402 tw11697318081040319623 tw13590723081083967436 tw15995237916122198519 tw12522012667762620233 tw4725150302343792764 tw10066188202881427449 tw15262315826850678175 tw2512819736000339552 tw16653538006975474202 tw13752496624323688606 tw17588349275930909898 tw14175655515861121087 tw10290085577020326031 tw10344228258950632186 tw17053534304737041146 tw1564586356842906883 tw9429853224719230428 tw9496039897171499523 tw8696582609999314720 tw13652318586263729355 tw9294241358045259542 tw14779602970567878361 tw5971883392804765589 tw11223995672705299944 tw2961946872061074780 tw6066510507330931467 tw13718133435669971763 tw2495143827031765917 tw10231262791288106805 tw2607828967129832926 tw4849885609753101597 tw1700670450475171371 tw15791483816843670241 tw3315550199500839035 tw17843008610404869179 tw10036120739862122610 tw8634569630661545059 tw11787064178712085570 tw11106980093473875693 tw7980815055772713084 tw4620673715448222349 tw976558012059557057 tw13672626428488259401 tw8866199727154843941 tw14099377006954030315 tw9749503368789283361 tw16501696490046543771 tw571069575700372368 tw14081097551680265248 tw9038942762315914270 tw1344385949786737277 tw2298910510969492805 tw15255452531069016529 tw18433492491842103661 tw13678564382452715990 tw1308168886779752784 tw7201495538989407316 tw9211739065517060961 tw1594191861682456236 tw2245087968890055905 tw11652763468629582119 tw8293758849614094244 tw5773568578443194116 tw9256756588123537440 tw13669689937816984723 tw8841721349605992724 tw17717153138016854006 tw8956162688611177497 tw10659723138285905321 tw8307863892798692597 tw6376294448314091686 tw5889960039368970984 tw16255418760689392661 tw347380778156526953 tw10010867895629675740 tw9682873590503606674 tw13548830226722445925 tw4732884802684806550 tw10059013287801426914 tw5001047676350696931
 tw10364664485296039718 tw3015182351895320682 tw7606374962976456138 tw12026907174442926461 tw14170092638879921256 tw5101822242706562637 tw2356737853445968921 tw14359859572982054354 tw14265522540245485887 tw8187292511398367011 tw4540596681701848453 tw15114516831264766212 tw17110440514583315455 tw7690911246947209823 tw17291332352688857330 tw12497737403770183674 tw2661724877637075471 tw13694046752652562789 tw17432564641695189497 tw15988915992616463140 tw1400938908540818176 tw11256177725619448751 tw9685589510101132405 tw1459479630891103166 tw6715303416783945159 tw2971992243046104203 tw12829075458609060589 tw8995175918700243734 tw12668062459114547029 tw12965473336424983696 tw3203049343240517469 tw6965731480863216860 tw2568795468747014314 tw9517174361848262029 tw11428727215841545912 tw4276008838243605167 tw627830635715751710 tw8916103458650840466 tw13197594255167324691 tw7551036459821204147 tw16757809328818522285 tw15864240182479757680 tw14794475013990284461 tw1783152707942129774 tw12025714369873054056 tw9477939609291393613 tw8482648200923868339 tw14204549991025427434 tw1298123102228735558 tw5889737732813378244 tw15209206167450894109 tw17126962369482483747 tw1767392411226768018 tw18168378727408657265 tw15807721569097587587 tw7605762011561751476 tw4913950750024870054 tw11730181751932475671 tw8486942826890195989 tw808031848556495173 tw17534715705253145516 tw325715649574807232 tw12342570741171355503 tw15488453659991266079 tw9927383764979887017 tw7645065742292636538 tw15307471716157354152 tw16035380213312205756 tw6152915260612987720 tw7373232863960002704 tw8362370885093353224 tw4898848563213472556 tw18189523792899145815 tw16189733279045361053 tw10812652476083162717 tw10309916601269207834 tw8257311158924580652 tw10624440664052916602 tw4729829875210779896 tw7426330544731808600 tw7859215054836847199 tw17770242353871756774 tw16779965531454644443 tw14137264722403634954 tw67271786140627933 tw13656134430088480267 tw5569192595509716878 tw13423235475336712489 tw15672774743890607813 tw138909886426057156 tw1750671714884808372 tw5379119104191864852 tw8492978659928850983 tw10863666005304001406 tw6064627335390712126 tw3183491950707046316 tw13495649252189754837 tw15777526269485729278 tw14470427339440925874 tw13776674012873260909 tw8662893527117626376 tw15069749582180146312 tw16340822467755993792 tw12539307570936963932 tw265376121909274118 tw12345909001276035911 tw16846947053328983722 tw1401982250360247937 tw16734232578528377518 tw13652734863384733540 tw10179975474524763417 tw242035160837121859 tw13111349089786554209 tw5188062458344999580 tw11810079855953830622 tw5381715674926722398 tw2539009415842145409 tw3837929602572897603 tw15824117022234828584 tw8229129596252353063 tw10417529500225457566 tw9900145927739093171 tw2138938080346465600 tw4925958196718289814 tw13357151289557681901 tw614377442725535410 tw17052600307168206051 tw17718353218664343043 tw12666576153945403718 tw1159245958186574291 tw15838779432354881274 tw13612027714645799019 tw9435555616619279628 tw15948178818692638323
 tw4623267309602901576 tw5792163956210665910 tw7357235566275432459 tw16176040536830776144 tw73071851692264257 tw617140360003205261 tw17743279040759649823 tw9728365944784711962 tw11168851831280498009 tw6168915126267345208 tw1366803434295155489 tw5966468593324682767 tw11515480397915506996 tw13598197369193380240 tw11235477848386924636 tw11349736275795675596 tw6589324450406788971 tw10109590355093209321 tw5661921537449850780 tw15422687724866451971 tw12322500951099666357 tw15734774704684320379 tw3590530079592913533 tw7487486848195959719 tw7327093490435227586 tw9483090377367971185 tw14676133788425567859 tw15934637342801001985 tw17731735485365535973 tw6062686441209050073 tw2934026671946068744 tw17791880632869955017 tw11553450185356736081 tw16059965688072156108 tw16051919016376973942 tw17570430520732244928 tw5344477690139907947 tw2168148255821404777 tw1455526298051586549 tw10998087597596438362 tw8751651351988384648 tw7373067410614204524 tw18323924326071563151 tw11081091626427949497 tw14459006783578380545 tw12442648000562872588 tw11912663801264621791 tw12856621001160586561 tw4717861575752122368 tw15786766412531386850 tw8103982537795646181 tw2181413794695947294 tw862347402106056675 tw2114775278697545195 tw1449078981958716892 tw13011213284639274781 tw15565196828713084647 tw1614481045508730086 tw280357188087990971 tw11520373801656402446 tw8050925830099672787 tw1648426783804746406 tw9699091972369048215 tw12356038306876942783 tw10496239171162979129 tw7850590502791528788 tw4051674382993981961 tw16083968308621227355 tw7336930447176694982 tw5101937310805019499 tw13179904995439340597 tw17272057453533269450 tw12907077208745796954 tw9704889594230655539 tw8072632365201918551 tw9132677168322985455 tw5535378691529683845 tw3064680766103177601 tw2367980192230319351 tw16809503060418432773 tw2462573063389481321 tw2437722669198860164 tw5986390176877514074 tw13195208870466981708 tw12676759570443193929 tw18164539496858973758 tw919592717386303375 tw4808771127726129118 tw2952553669121928220 tw11553210057856336656 tw4293880861243804873 tw8198485281723158018 tw7467990461803576068 tw10230189166571429604 tw9555156312985625947 tw11912280190167553259 tw83163596713441469 tw3118622340631613239 tw17392939021230079779 tw7280820448594903339 tw16329599095709406069 tw17629674998776762794 tw18433839552445617928 tw17595898589737999053 tw17129966816217181432 tw12745905216437121566 tw18166761045739012580 tw4552791777535210081 tw11698718309514842522 tw8509834379500798712 tw14822824054859464473 tw15305875428993589464 tw12722117736884626554 tw7453709916143939558 tw9477310277246887149 tw18306471481353669365 tw7644401098923956823 tw17253276668712503783 tw14749534581901106738 tw55126820149452749 tw18015782530827023186 tw5765547566136899388 tw7101370866289615250 tw2070008408902950858 tw2197545075374551230 tw2338397302220811752 tw6182306860661813524 tw10787943466750307711 tw9510902798649039739 tw11821509798780364570 tw14689913900809744767 tw13368583586135436856 tw14583443230675989226 tw10684305620390236176
 tw3950609710085910463 tw17357114414133844717 tw1120640618789324859 tw5442153454342923159 tw15167222225311789430 tw3353575435301495843 tw12166311147436754783 tw14165769821467001534 tw12915149675990025859 tw16091679090781388136 tw17940949031844422917 tw6717109908118028936 tw1651847051783587228 tw15839244518518173680 tw9469228352015926721 tw11675940530446634241 tw3210636420150286133 tw14515467356931679958 tw13903401230606369230 tw5403731847924116781 tw7186988699088918788 tw2790942208575112817 tw5420360986824605432 tw13081847659065822864 tw7039445548904893403 tw4550775386337961325 tw16336222000968828639 tw17416993518462076718 tw14345929723127030176 tw3023793202661038790 tw10157309672723691310 tw16589074291737259492 tw6786185446186236360 tw185010661298873202 tw3915332129753525252 tw11487985919495265734 tw14403756029237939944 tw7961053037857109839 tw14982579256967749879 tw1405525455441133193 tw7347183689760532977 tw1946827231631933740 tw17971209601490060447 tw15591249065199003383 tw12589035853416148463 tw234816352630395282 tw473906165415973398 tw831301065231534989 tw6839297121469395438 tw12853045623260952936 tw6371586003818469974 tw4443355049601976686 tw13220869414542761265 tw15923485017492572948 tw16219830740536626372 tw108103489598804810 tw11663426440518702954 tw17668514772700178052 tw13526381942770280568 tw8483146214715560990 tw11463369960802593684 tw2760189925362882764 tw11150135871018208155 tw14575765397483422412 tw5000258020159611867 tw17909178782021582803 tw8673284478544493820 tw15378981415234682861 tw8320553804442933536 tw8431407483796402066 tw13042232817273981321 tw16939032294090498614 tw3629841470026985968 tw5551980720413955750 tw14121834182303447658 tw10528891607226634100 tw16320794968140210269 tw7041105526556140920 tw7027674057279720664 tw11584867816534720674 tw14933736533633717575 tw17998847903615406394 tw5405723558140276123 tw8797203616177450362 tw9944574174346232402 tw886482052400081871 tw10742891883946334156 tw8578066550990234720 tw9710541013402560574 tw1134967659360379871 tw6362759133586331820 tw10457370680601701902 tw5892753396323758187 tw3591147887159274020 tw11871981005959251180 tw10813850904792795093 tw9862859820669079653 tw11935837847673890114 tw1212791103947588162 tw2694913335365233526 tw1409754914114189389 tw6431378801183684213 tw17079096702245108078 tw12197541330088339512 tw8546700347544425906 tw14877737989951383867 tw1132474569666653515 tw9134851540605161236 tw18278567459708207485 tw13546485273682028989 tw10798378692224541313 tw3988277464785006263 tw925108144080399738 tw503384126345506904 tw4901737864594242053 tw11275806122538792692 tw479385528547103841 tw5541461486410130792 tw11538923898787845590 tw3881522817022258836 tw1548473061678286698 tw4081514019592899862 tw17543562249436767114 tw2672651984793986066 tw5508173851066625130 tw16594243090111504814 tw8442277248594673613 tw5353578714153567527 tw3474684871208545762 tw461833319248028365 tw4633561631453341669 tw423104530358466189 tw16761514177316813994 tw17319882213142725402 tw14419981270609074793
 tw3709345791275810355 tw6888375473500720715 tw11943602923900203142 tw2477415284241862256 tw7974220886398533261 tw10402136215136891562 tw13464050327189184627 tw4540393486971393782 tw5708403889292006763 tw422900819869501232 tw4180371783308450812 tw11542067900528702167 tw5342636635384505980 tw16476009909969904746 tw7767431051504273172 tw9918336650997340057 tw3121612033929265139 tw6983982897431162587 tw8256061645305105796 tw7077145789663659412 tw1334533816900185314 tw6762155565538735277 tw13108775576491130615 tw16585357473875653801 tw17067944603722987505 tw9599535471255321398 tw10132563857558608662 tw11316235703237230219 tw14382646054150437417 tw9903028302915100596 tw9459285646159008198 tw6430904962382615244 tw8268030357672546762 tw12790939773078569459 tw578619412630462220 tw11782983713706646124 tw6388762469922754844 tw18322131609877839629 tw17140426971269291301 tw5709603765471694405 tw10787330469451874727 tw4507094052283023551 tw7071305039920210789 tw16795265879704773736 tw17959258999461578827 tw7558868512975033499 tw15020482726210425611 tw18378527734371167099 tw12880946393121583781 tw4795363718211610576 tw12910015170704038594 tw12000950639790641520 tw16161866160512371159 tw18161441195477251476 tw5261855923254359363 tw8389043611818174408 tw10110286739501145784 tw4398447784060605106 tw7626112279289077 tw12504611060282286935 tw16381306369646993215 tw16924342350648479318 tw2313173064427913221 tw15704349155490099017 tw12292699210403063431 tw1624901442879995752 tw551841967970051252 tw9508923409589204218 tw6305686580641930097 tw10011777091386641910 tw10302703302943991908 tw11903351691202634072 tw2146599670073603693 tw1367325528619252222 tw3532054083549642749 tw5603584862817178239 tw10920803785983015261 tw2815570122208276180 tw12325174610172378718 tw1763334859531123326 tw3449849233367697854 tw6688588607596508132 tw17505145309184575230 tw16042086071304044377 tw17252756028570657404 tw10970195953024032872 tw5793094266477806049 tw14672161093855683570 tw1449270294273355367 tw6533568139691153545 tw17020559111307982234 tw10142056342111861360 tw1154495968654001990 tw8411283182034134040 tw16763295552209600632 tw5361848669644170555 tw8409684532578719066 tw16613695516808196446 tw16624515675453486751 tw13266408308023038296 tw17917015419528246355 tw13076161337893344241 tw9697028951147460796 tw15338296356786840662 tw3622895518582329078 tw16918246116291769518 tw44801448804493427 tw11551867204341857868 tw1058252197360694649 tw13497421436348095105 tw1850269376500887720 tw9967235309687928869 tw9783228263185529438 tw12355455135840788483 tw14128364455678487234 tw3278017897447728016 tw14661345292404888693 tw10763006311457847917 tw9943343405964440503 tw5381780123978838600 tw17675781497554378905 tw14369800719681854988 tw1611082338093799181 tw11854539278250219355 tw14913587787666262156 tw16184432345633173977 tw11101668623376542635 tw18227708433517293144 tw18193846078452148077 tw917035169380285334 tw10922003408365577505 tw6895796831511654721 tw3325149256403328447 tw3020133220271542904
 tw11017818699498452090 tw12289983335172658690 tw12501989115575859355 tw11997768373852416934 tw15702179195363708260 tw10980806715324743031 tw403257100388152206 tw15554149560748607363 tw10516450760804483391 tw16864492548001027252 tw1267245043720562638 tw7117863608188807689 tw17213863844858730780 tw12378715920941467693 tw2497759723739316164 tw1195446070171554981 tw1380714817110851206 tw3672258641578805144 tw18074156669345793323 tw3910299651904869083 tw5547052758881793586 tw2999243786787478415 tw9541731496315049578 tw13399898053643990669 tw11980468623994117147 tw7472531280285107217 tw12475067937614089591 tw1773152930328406937 tw14946597094551773673 tw5433989800494303489 tw16193475720037760405 tw12209354282208131692 tw8126430925755281508 tw78882225352845485 tw5662829432109112603 tw661272039771307435 tw14357086603033183573 tw9066701066091231591 tw5791970026706020234 tw4744341238152116699 tw2215921112518541501 tw2184103917626333584 tw9391688072220266435 tw13391771462736530837 tw3789654300629318525 tw7268462488845579117 tw12180196765061854701 tw6289701802012830717 tw16299492123892662967:xy)
open PySem PySem.W PyProof.Rows
local macro_rules| `(tactic|walk_at $s)=>do
 let i (w:vJ):Lean.Ident:=Lean.mkIdent w.toName
 let p (f:Lean.Name) (l:vJ):zh (yv `tactic):=do
  let hs:=(l.splitOn " ").map λx=>x.splitOn ":"
  let h<-hs.mapM fun
   | [w]=>pure (i w)
   |x=> `(?$(i x.head!))
  hs.foldlM (fun
   |t,[w,c]=> `(tactic|($t;case $(i w):ident=>walk_at $(Lean.Syntax.mkStrLit c)))
   |t,_=>pure t) (<- `(tactic|((try dsimp only[L2.KOf]);refine' $(xD (Lean.mkIdent f) h.toArray))))
 match s.getString with
 | "t"=> `(tactic|repeat' first|exact Mi.bO|exact Mi.Zl|exact Mi.f9|exact Mi.ZL|exact Paired.nil|refine' Paired.cons ⟨⟨_,rfl⟩,?_⟩ ?_|refine' Paired.cons ?_ ?_|(refine' Mi.bU ?l ?z ?_;(case l=>k_is);(case z=>decide)))
 | "k"=>p `Mi.fF "KX G e:K r:t"
 | "h"=> `(tactic|repeat (first|exact wX|refine' And.intro ⟨_,_,rfl,rfl⟩ ?_))
 | "p"=>p `Mi.bI "KX G e:K l:K hk:h hne:D hp:t"
 | "f"=>p `Mi.bB "KX G e:K l:K hk:h hne:D hp:q"
 | "q"=> `(tactic|((repeat (refine' Paired.cons ⟨⟨_,rfl⟩,_,rfl,?q⟩ ?_;(case q=>k_is)));exact Paired.nil))
 | "x"=> `(tactic|(dsimp only[L2.KOf];refine' Mi.kz $(i "KX") $(i "G") ?e ?q;(case e=>k_is);(case q=>k_exc)))
 | "m"=>p `Mi.iH "KX G e:K t:M"
 | "M"=> `(tactic|((repeat (refine' Mi.iU ?a ?b ?c ?_;(case a=>k_is);(case b=>kts_exm);(case c=>decide)));exact Mi.all_nil))
 | "z"=>p `PySem.W.mg_none_of "KX G z:K"
 | "a"=>p `Mi.eW "t1:K t2:K t3:R t4:K t5:R t6:R t7:R t8:R t9:R u1:R u2:R u3:D"
 | "K"=> `(tactic|k_is)
 | "D"=> `(tactic|decide)
 | "R"=> `(tactic|rfl)
 |w=> `(tactic|case $(i w):ident=>k_is)
set_option maxRecDepth 100000 in
set_option maxHeartbeats 0 in
theorem PySem.Challenge.cw_sharetrail_k74_leaders_apart_holds : PySem.Challenge.rw_sharetrail_k74_leaders_apart.Holds := by
 w_on;o_law;k_head;(case hw=>w_witness2)
 k_fill
 refine Mi.walk (l:=PySem.Challenge.rw_sharetrail_k74_leaders_apart) rfl rfl (by decide) (by decide) rfl rfl ?F
 case F=>
  intro w mg h KX G
  refine⟨?T,?_⟩
  case T=>
   intro z hz
   rcases List.mem_cons.mp hz with e|hz
   .subst e
    walk_at "a"
   cases hz
  have dN:Mi.Po (L2.KOf KX) mg "ALL" Mi.N0:=by walk_at "k"
  have Qv:Mi.Po (L2.KOf KX) mg "MAKERS" Mi.BZ:=by walk_at "k"
  have KW:Mi.Po (L2.KOf KX) mg "MOST_DEEDS" Mi.Ft:=by walk_at "k"
  have KU:Mi.Po (L2.KOf KX) mg "MOST_FIRST" Mi.BG:=by walk_at "k"
  have Jl:Mi.Po (L2.KOf KX) mg "MOST_THROWS" Mi.Em:=by walk_at "k"
  have Oj:Mi.Po (L2.KOf KX) mg "NOTHING" Mi.FL:=by walk_at "k"
  have JI:Mi.Po (L2.KOf KX) mg "UNLIKE" Mi.Bz:=by walk_at "k"
  have J2:Mi.eU (L2.KOf KX) w mg "FORMS" Mi.EW:=by walk_at "p"
  have QW:Mi.jH w (L2.KOf KX) mg "PARTS" [("partner","is_partner"),("kind","is_kind"),("load","is_load_number"),("number","is_trade_number"),("pieces","are_pieces"),("worths","are_worths"),("share","is_sold_share")]:=by walk_at "f"
  have JQ:Mi.XcD (L2.KOf KX) mg "NoDeed":=by walk_at "x"
  have JZ:Mi.XcD (L2.KOf KX) mg "NoNext":=by walk_at "x"
  have NO:Mi.XcD (L2.KOf KX) mg "NoNumber":=by walk_at "x"
  have Du:Mi.XcD (L2.KOf KX) mg "NothingDone":=by walk_at "x"
  have Hq:Mi.XcD (L2.KOf KX) mg "TooMany":=by walk_at "x"
  have Gx:Mi.XmD (L2.KOf KX) mg ["TooMany","NoNext","NothingDone"] "NoNext":=by walk_at "m"
  have CK:Mi.XmD (L2.KOf KX) mg ["TooMany","NoNext","NothingDone"] "NothingDone":=by walk_at "m"
  have Fd:Mi.XmD (L2.KOf KX) mg ["TooMany","NoNext","NothingDone"] "TooMany":=by walk_at "m"
  have AM:Mi.ClD (L2.KOf KX) "Leader" ["kept","earlier"]:=by
   dsimp only[L2.KOf]
   refine' Mi.eF ?oa ?ob ?oc ?od ?oe ?on
   walk_at "oa"
   walk_at "ob"
   walk_at "oc"
   walk_at "od"
   walk_at "oe"
   case on=>
    refine' Mi.Vx ?nh ?nt
    (case nh=>k_is)
    case nt=>
     refine' Mi.Vx ?nh ?nt
     (case nh=>k_is)
     case nt=>
      exact Mi.gm
  have Bw:Mi.MkS (L2.KOf KX) mg "Leader" "Leader.__init__" Mi.Bw:=by
   dsimp only[L2.KOf]
   refine' Mi.fV KX G ?ma ?mb ?mc ?md ?me ?ml ?mo ?mk
   walk_at "ma"
   walk_at "mb"
   walk_at "mc"
   walk_at "md"
   walk_at "me"
   walk_at "ml"
   walk_at "mo"
   walk_at "mk"
  have BC:Mi.MeS (L2.KOf KX) "Leader" "turn_to" "Leader.turn_to" Mi.BC:=by
   dsimp only[L2.KOf]
   refine' Mi.M8 AM ?ma ?mb ?mc ?ml ?mo ?mk
   walk_at "ma"
   walk_at "mb"
   walk_at "mc"
   walk_at "ml"
   walk_at "mo"
   walk_at "mk"
  have Bq:Mi.MeS (L2.KOf KX) "Leader" "do" "Leader.do" Mi.Bq:=by
   dsimp only[L2.KOf]
   refine' Mi.M8 AM ?ma ?mb ?mc ?ml ?mo ?mk
   walk_at "ma"
   walk_at "mb"
   walk_at "mc"
   walk_at "ml"
   walk_at "mo"
   walk_at "mk"
  have BF:Mi.MeS (L2.KOf KX) "Leader" "start" "Leader.start" Mi.BF:=by
   dsimp only[L2.KOf]
   refine' Mi.M8 AM ?ma ?mb ?mc ?ml ?mo ?mk
   walk_at "ma"
   walk_at "mb"
   walk_at "mc"
   walk_at "ml"
   walk_at "mo"
   walk_at "mk"
  have BR:Mi.MeS (L2.KOf KX) "Leader" "undo" "Leader.undo" Mi.BR:=by
   dsimp only[L2.KOf]
   refine' Mi.M8 AM ?ma ?mb ?mc ?ml ?mo ?mk
   walk_at "ma"
   walk_at "mb"
   walk_at "mc"
   walk_at "ml"
   walk_at "mo"
   walk_at "mk"
  have Bh:Mi.MeS (L2.KOf KX) "Leader" "book" "Leader.book" Mi.Bh:=by
   dsimp only[L2.KOf]
   refine' Mi.M8 AM ?ma ?mb ?mc ?ml ?mo ?mk
   walk_at "ma"
   walk_at "mb"
   walk_at "mc"
   walk_at "ml"
   walk_at "mo"
   walk_at "mk"
  have Bk:Mi.MeS (L2.KOf KX) "Leader" "twin" "Leader.twin" Mi.Bk:=by
   dsimp only[L2.KOf]
   refine' Mi.M8 AM ?ma ?mb ?mc ?ml ?mo ?mk
   walk_at "ma"
   walk_at "mb"
   walk_at "mc"
   walk_at "ml"
   walk_at "mo"
   walk_at "mk"
  have z_abs:mg "abs"=none:=by walk_at "z"
  have z_all:mg "all"=none:=by walk_at "z"
  have z_bool:mg "bool"=none:=by walk_at "z"
  have z_enumerate:mg "enumerate"=none:=by walk_at "z"
  have z_int:mg "int"=none:=by walk_at "z"
  have z_isinstance:mg "isinstance"=none:=by walk_at "z"
  have z_len:mg "len"=none:=by walk_at "z"
  have z_list:mg "list"=none:=by walk_at "z"
  have z_min:mg "min"=none:=by walk_at "z"
  have z_range:mg "range"=none:=by walk_at "z"
  have z_sorted:mg "sorted"=none:=by walk_at "z"
  have z_str:mg "str"=none:=by walk_at "z"
  have z_sum:mg "sum"=none:=by walk_at "z"
  have z_tuple:mg "tuple"=none:=by walk_at "z"
  have z_zip:mg "zip"=none:=by walk_at "z"
  refine⟨⟨z_abs,z_all,z_bool,z_enumerate,z_int,z_isinstance,z_len,z_list,z_min,z_range,z_sorted,z_str,z_sum,z_tuple,z_zip⟩,dN,Qv,KW,KU,Jl,Oj,JI,J2,QW,JQ,JZ,NO,Du,Hq,Gx,CK,Fd,AM,Bw,BC,Bq,BF,BR,Bh,Bk,?_,?_,?_,?_,?_,?_,?_,?_,?_,?_,?_,?_,?_,?_,?_,?_,?_,?_,?_,?_,?_,?_,?_,?_,?_,?_,?_,?_,?_,?_,?_,?_,?_,?_,?_,?_,?_,?_,?_,?_,?_,?_,?_,?_,?_,?_,?_,?_,?_,?_,?_,?_,?_,?_,?_,?_,?_,?_,?_,?_,?_,?_,?_,?_,?_,?_,?_,?_,?_,?_,?_,?_,?_,?_,?_,?_,?_,?_,?_,?_,?_,?_,?_,?_⟩
  all_goals (refine' Mi.dG KX G ?a ?l ?c ?k;(case a=>k_is);(case l=>k_is);(case c=>k_is);(case k=>k_is))
end
