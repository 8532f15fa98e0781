import PyProof.Rows.All
import Wide.All
import OpenK.AllK
import Wide.FinOn
import Lean
import PyProof.EqAt
import PyProof.EqKinds
import PyProof.TupleCall
import PyProof.Draws
import PyProof.EnumMake
import PyProof.EnumFor
import PyProof.ZipIter
import PyProof.ListMulRoad
import PyProof.NeData
import PyProof.SumWalkG
import KE.KSortedM
import PySem.Challenge.RW_sharetrail_k72_undone_and_started
set_option Elab.async false
set_option linter.all false
set_option maxRecDepth 100000
set_option maxHeartbeats 4000000
set_option exponentiation.threshold 10000
set_option compiler.extract_closed false
open _root_ renaming List->Wp,Option->qR,of_decide_eq_true->qi,if_neg->rA,if_pos->rB,or_false->sC,Bool->sD,beq_eq_false_iff_ne->sX,decide_eq_true->si,decide_eq_true_eq->sx,False->tN,decide_eq_false->uH,beq_iff_eq->uJ,String->ua,Array->wL,if_true->wx,True->xH,not_or->xp,if_false->x9,beq_self_eq_true->yC,autoParam->zb
open Array renaming getElem?_eq_some_iff->uV,length_toList->wm,getElem?_toList->yi
open Bool renaming and_eq_true->qe,false_ne_true->rg,or_eq_true->sJ,noConfusion->tm,eq_iff_iff->vm,not_eq_true'->xj,false_eq_true->zU
open False renaming elim->rz
open ForInStep renaming yield->wc
open Int renaming toNat_of_nonneg->rm,mul_pos->sN,natAbs_natCast->tM,emod_nonneg->uL,emod_lt_of_pos->uW,lt_of_lt_of_le->uY,natAbs_mul->ux,le_of_lt->vA,lt_of_le_of_lt->vD,mul_le_mul_of_nonneg_right->wU,add_le_of_le_sub_right->xQ,natAbs_ediv_le_natAbs->xV,toNat_natCast->xg,mul_ediv_cancel_left->xt,sub_self->yJ,min_eq_left->yW,ofNat_toNat->yY,natCast_mul->yb,mul_nonneg->y4,natAbs_of_nonneg->y7,natCast_nonneg->zR,natAbs_add_le->AAG,natAbs_sub_le->AAH,lt_trans->AAI
open Lean renaming TSyntax->yO,MacroM->y3,mkIdent->AAF
open Lean.Syntax renaming mkApp->wG
open List renaming getElem?_append_left->qQ,getElem?_set_ne->qT,getElem?_eq_some_iff->qV,mem_cons->qY,getElem?_eq_getElem->qZ,mem_cons_of_mem->qa,getElem?_set_self->qb,size_toArray->qf,mem_cons_self->qh,replicate->qk,mem_of_getElem?->qo,not_mem_nil->qp,map_cons->qq,getD_eq_getElem?_getD->qu,getElem?_map->qw,getElem?_concat_length->qy,mem_singleton->rD,mem_append->rE,sum_cons->rF,length_map->rG,nil_append->rH,getElem?_append_right->rR,mem_map->rS,length_cons->rT,cons_append->rX,lookup_cons->rZ,mem_append_right->rf,filterMap_cons->rh,append_nil->r9,length_append->sA,map_map->sI,drop_eq_getElem_cons->sP,map_nil->sQ,range->sY,prefix_rfl->sj,replicate_succ->sk,length_set->tJ,lookup->tO,of_mem_zip->tT,mem_iff_getElem?->tW,nodup_cons->uK,drop_eq_nil_of_le->uP,mem_or_eq_of_mem_set->ue,flatten_cons->ug,take_length->uz,getElem?_zipWith_eq_some->u9,map_append->vF,getElem?_inj->vJ,getElem_mem->vV,map_set->vW,getElem?_zip_eq_some->vZ,all_cons->vf,map_take->vh,mem_filter->vi,length_nil->vk,lookup_append->vp,prefix_append->vq,getElem?_replicate->vv,append_assoc->v8,take_of_length_le->v9,nodup_append->wB,zipWith->wH,mem_range'_1->wI,eraseIdxIfInBounds_toArray->wK,length_filter_le->wO,any_cons->wV,mem_append_left->wW,mem_range->xI,mapM_cons->xT,length->xf,ext_getElem?->xl,length_take->x5,zipWith_cons_cons->yR,forIn_cons->ya,length_singleton->yh,set_append_right->yj,getElem?_eq_none->yk,eq_nil_or_concat->yl,concat_eq_append->ym,forIn_nil->yt,drop_eq_nil_iff->yw,set_append_left->y8,length_pos_iff->zH,mem_filterMap->zN,foldl->zS,set_cons_zero->zX,any_eq_false->zg
open List.MergeSort.Internal renaming splitInTwo->zY
open List.Pairwise renaming nil->z5
open Nat renaming lt_of_lt_of_le->qS,le_trans->qU,le_refl->qW,lt_of_le_of_lt->q8,ne_of_lt->rK,pow_le_pow_right->rO,mul_le_mul_right->rP,pow_lt_pow_right->sO,lt_irrefl->sV,zero_le->tP,mul_comm->uB,mul_le_mul_left->uM,le_of_lt->uO,mul_le_mul->uX,mul_one->ui,le_succ_of_le->uj,mul_assoc->ur,le_mul_of_pos_right->uy,lt_trans->vB,pos_of_ne_zero->vC,le_of_succ_le->vI,mul_pos->vQ,min_le_right->vT,ne_of_gt->wt,gcd->xC,one_lt_two_pow->xU,pow_add->xk,lt_succ_self->xv,add_comm->yM,gcd_comm->yP,pow_succ->yQ,lt_or_ge->yT,min_eq_left->yX,le_succ->yo,sub_succ_lt_self->yx,le_of_eq->zk,succ_mul->zy
open Ne renaming symm->se
open Option renaming some->Gc,map_eq_some_iff->uQ,bind_some->yD,map->zW
open Option.some renaming inj->tH
open PyProof.Rows renaming envOfC->qv,slot_tuple_getitem->sE,callWith_type1->vH,IntsAre->ve,AllBare->vt,assignInOrder_cons->xJ,subscriptTail_builtinR->yI,boot_isinstance->yd,entry_tuple_getitem->zE,args_tuple_getitem->zQ,assignInOrder_nil->ze
open PyProof.Rows.IsTup renaming new->va
open PySem renaming wpAny_bind->qP,Value->qX,starEach->qc,Addr->qg,Shared->qj,wpAny_pure->qm,Stmt->rQ,mem_of_lookup->rY,Program->sF,Expr->sG,Heap->sS,wpAny_mono->sZ,wpAny_Call_Name_kw->sf,wpAny_field->sv,World->tK,wpAny_callSpecial?_slot->tQ,wpAny_pyIter_list->tS,wpAny_call_entry->tY,wpAny_pyIter_tuple->tZ,Scope->tu,wpAny_holding->tw,wpAny_truthy_bool->uE,wpAny_newObj_type->uF,Around->uN,wpAny_setField_rec->uU,wpAny_passesOwn->uf,IsPair->uo,wpAny_execs_cons->uu,wpAny_getItem_str_slice->uv,boot_len->uw,call_meets->vM,wpAny_setField->vN,wpAny_seqItems->vO,codeAny_mono->vS,wpAny_binaryOp_repeat_ref->vY,wpAny_standAt->vc,wpAny_execs_nil->vj,wpAny_call->vo,DictEntry->vx,wpAny_pyNext_list_item->vz,wpAny_pyNext_list_end->wM,typeIs_int->wQ,FuncData->wY,wpAny_updateSeq_pair->wZ,post_val_or_str->wj,Builtin->w9,wpAny_newFunctionEnv_cells->xM,IsZip->xR,wpAny_Return_some->xX,Keyword->xZ,wpAny_comprehension_free->xn,wpAny_onRaise->xo,ExceptHandler->xr,NameKind->xy,noFill_tuple_add->x8,wpAny_rule->yG,IsPart->yH,typeIs_str->yK,wpAny_pyIter_listiter->yf,codeAny_call_function->yg,intBits_le_iff->yv,wpAny_newFunctionEnv->y0,seq_tuple_add->zK,Within->zc,wpAny_assign_Name->zd,concat_meets->zt,wpAny_sequenceKey->zu,wpAny_typeOf->zv,slot_list_getitem->zw,ZipApart->z8,wpAny_pyIter_enum->AAA,wpAny_passesOwnAt->AAD
open PySem.Around renaming frames_deeper->yp,under->zo
open PySem.AutoListH renaming list___mul___list_int_3->zZ
open PySem.AutoSeq1 renaming wpAny_loadPart'->qz,list_extend_list_list_0->zx
open PySem.Builtin.List renaming listTooLong->tE
open PySem.Builtin.Slice renaming slicePlaces->uc,sliceAdjust->vX,sliceApplied->xN
open PySem.Builtin.SmallTypes renaming nextOf->rW,ownedTupleIsFree->tF,ownedTupleHandOut->vb,stopIteration->z7
open PySem.Builtin.Tuple renaming tupleExact->um,tupleItemsOf->xO,tupleTooMany->xS
open PySem.Calls renaming Name_function_global->vK,spliced_cons->wX,loadGlobal_global->xu,callWith_builtin->yL,spliced_nil->yn,evalArgs_plain->yq
open PySem.Challenge renaming pw_sharetrail_k72_undone_and_started->xB
open PySem.Code renaming isFrame->zq
open PySem.EntryCells renaming newEntry->zI
open PySem.F renaming slot_tuple_iterator_next->uT,slot_str_getitem->uq,slot_list_pop->u4,slot_list_append->u5,slot_int_rmul->vE,args_tuple_add_2->vd,type_list_append->vg,entry_tuple_add->vw,slot_tuple_add->v7,type_list_pop->wN,slot_tuple_mul->wR,args_tuple_iterator_next_1->wd,slot_zip_next->wg,entry_tuple_iterator_next->wy,args_int_rmul_2->xh,slot_int_index->yA,entry_int_rmul->yB,plainAttrs_list->yE,fills_int_mul->yZ,args_list_extend_2->yr,excBase_ValueError->yy,entry_list_extend->zF,slot_list_extend->zT,args_tuple_mul_2->zV,args_zip_next_1->z9,slot_tuple_rmul->AAB,entry_tuple_mul->AAC
open PySem.Heap renaming get?_push_of_some->qO,lt_size->ql,get?_push_size->qt,get?_update_other->sR,size_push->sT,get?_update_self->tU,SameBut->vy,IsTuple->xA,ExtBut->xi,IsList->yu
open PySem.Heap.SameBut renaming update->zG
open PySem.NameKind renaming free->sM,cell->vG
open PySem.Obj renaming mapFields->sW,isFreed_of_fields->tV,data_mapFields->uS,mapSeq->xP,cls_mapFields->z6
open PySem.PassesOwnAt renaming never->AAE
open PySem.PyData renaming strOk->rV,canLayAll0->wC,depthAll->ye
open PySem.SeqAt.EqAt renaming int_str->zL,str_int->zM
open PySem.Shared renaming heap->uh
open PySem.Str renaming ofString->rC,ofString_eq_toList->yS
open PySem.Txt renaming slice_le->yN
open PySem.Value renaming ref->q9,none->rJ,isStrOf->uk,int->xD,str->xE,bool->xF,type->xG
open PySem.W renaming Frag->W1,nsIn->rM,findIn->sH,keepIn->sL,kia_one->sU,emptyDict->su,callWith_K->tL,fnOf->uA,mg_of->uC,envX->uD,instObj->uI,kitOne->uR,methodCall_KW->uZ,codeIn->vL,exmOne->vP,plainGet->vR,hasDictIn->v3,cellsFrom_some->v5,tabObj->wD,kla_fn->wF,KeysLit->we,plainGet_of->wq,isFn->wu,lookIn->xK,methodObj->xW,plainOver->xY,excIn->xq,OpenLaw->yF,takerIn->yU,makesIn->yV,kla_obj->yc,kla_callFunE->yz,kla_codeExpr->y2,callWith_K0->zD,callWith_F0->zJ,kitx_tuple->zO,codeRec_of->zP,specialIn->zh,kitx_list->zl,kitx_dict->zm
open PySem.codeAmong renaming eq_def->vU
open Rat renaming mul_le_mul_of_nonneg_right->tq,intCast_eq_zero_iff->uG,le_of_lt->wJ,le_refl->y9,num_nonneg->zA
open Sum renaming inl->zB,inr->zC
open True renaming intro->vn
theorem x0T(h:True:=by first|exact .inl rfl|exact .inr rfl|assumption):True:=h
def x0:=x0T._auto_1
theorem xzT(h:True:=by decide):True:=h
def xz:=xzT._auto_1
theorem xLT(h:True:=by intro _;rfl):True:=h
def xL:=xLT._auto_1
theorem wwT(h:True:=by rfl):True:=h
def ww:=wwT._auto_1
theorem wvT(h:True:=by intro _; rfl):True:=h
def wv:=wvT._auto_1
theorem wrT(h:True:=by with_unfolding_all rfl):True:=h
def wr:=wrT._auto_1
theorem wpT(h:True:=by exact λ_ _=>rfl):True:=h
def wp:=wpT._auto_1
theorem wnT(h:True:=by first|exact Or.inl rfl|exact Or.inr rfl):True:=h
def wn:=wnT._auto_1
theorem wfT(h:True:=by first|exact .inl rfl|exact .inr rfl):True:=h
def wf:=wfT._auto_1
theorem wTT(h:True:=by first|exact Or.inl rfl|exact Or.inr (Or.inl rfl)|exact Or.inr (Or.inr rfl)):True:=h
def wT:=wTT._auto_1
theorem wST(h:True:=by decide+kernel):True:=h
def wS:=wST._auto_1
theorem wPT(h:True:=by exact λ_ _ _ _ _ _ _=>rfl):True:=h
def wP:=wPT._auto_1
theorem wET(h:True:=by first|decide|lia):True:=h
def wE:=wET._auto_1
theorem v6T(h:True:=by exact rfl):True:=h
def v6:=v6T._auto_1
theorem v4T(h:True:=by first|exact Or.inl rfl|exact Or.inr (Or.inl rfl)):True:=h
def v4:=v4T._auto_1
theorem v0T(h:True:=by intro _ _ _ _;rfl):True:=h
def v0:=v0T._auto_1
open PyProof.Rows (boot_isinstance boot_int boot_bool boot_tuple boot_str boot_list boot_abs boot_all boot_any boot_sum boot_max boot_min boot_range boot_enumerate boot_zip boot_sorted boot_set boot_divmod)
noncomputable section
namespace L2
open PySem PySem.Spec PyProof.Rows
abbrev Key:=Sum Int Str
noncomputable def SN:Key->qX->sD
 | .inl k,v=>Value.isInt k v
 | .inr x,v=>uk x v
noncomputable def oZ(w:tK):Key->Int
 | .inl k=>hashInt k
 | .inr x=>hashStr w x
theorem CC:∀{k:Key} {v:qX},SN k v=true->(∃i t,k=zB i/\v=xD i t)\/(∃x t,k=zC x/\v=xE x t)
 | .inl i,v,h=>by
   obtain⟨t,e⟩:=Value.isInt_shape (k:=i) (v:=v) h
   exact .inl ⟨i,t,rfl,e⟩
 | .inr x,v,h=>by
   obtain⟨t,e⟩:=Value.isStrOf_shape (x:=x) (v:=v) h
   exact .inr ⟨x,t,rfl,e⟩
def TQ(i:Int)(t:Tok):SN (.inl i) (.int i t)=true:=by simp[SN,Value.isInt]
def Tz(x:Str)(t:Tok):SN (.inr x) (.str x t)=true:=by simp[SN,uk]
def dX(a b:Int):decide ((zB a:Key)=zB b)=(a==b):=by
 by_cases e:a=b
 .subst e;simp
 .have h:¬(zB a:Key)=zB b:=λq=>e (Sum.inl.inj q)
  rw[uH h]
  exact(sX.mpr e).symm
def eN(a b:Str):decide ((zC a:Key)=zC b)=decide (a=b):=by
 by_cases e:a=b
 .subst e;simp
 .have h:¬(zC a:Key)=zC b:=λq=>e (Sum.inr.inj q)
  rw[uH h,uH e]
def cx(a:Int)(b:Str):decide ((zB a:Key)=zC b)=false:=uH (λq=>nomatch q)
def ck(a:Str)(b:Int):decide ((zC a:Key)=zB b)=false:=uH (λq=>nomatch q)
noncomputable def Ft(prog:sF)(w:tK):PySem.KeyKind prog w Key where
 is:=SN
 hash:=oZ w
 inj:=λv a b ha hb=>by
  rcases CC ha with⟨i,t,rfl,rfl⟩|⟨x,t,rfl,rfl⟩
  .rcases CC hb with⟨j,u,rfl,e⟩|⟨y,u,rfl,e⟩
   .injection e with e1 _;rw[e1]
   .exact nomatch e
  .rcases CC hb with⟨j,u,rfl,e⟩|⟨y,u,rfl,e⟩
   .exact nomatch e
   .injection e with e1 _;rw[e1]
 byValue:=λk v h=>by
  rcases CC h with⟨i,t,rfl,rfl⟩|⟨x,t,rfl,rfl⟩<;>rfl
 pyHash:=λhv h=>by
  rcases CC hv with⟨i,t,rfl,rfl⟩|⟨x,t,rfl,rfl⟩
  .exact wpAny_pyHash_int h
  .exact wpAny_pyHash_str h
 eqBool:=λhu hv h=>by
  rcases CC hu with⟨i,t,rfl,rfl⟩|⟨x,t,rfl,rfl⟩
  .rcases CC hv with⟨j,u,rfl,rfl⟩|⟨y,u,rfl,rfl⟩
   .rw[dX]at h;exact wpAny_eqBool_int h
   .rw[cx]at h;exact zL i t y u _ _ _ _ h
  .rcases CC hv with⟨j,u,rfl,rfl⟩|⟨y,u,rfl,rfl⟩
   .rw[ck]at h;exact zM x t j u _ _ _ _ h
   .rw[eN]at h;exact wpAny_eqBool_str h
 «strs» :=λk x t v h=>by
  rcases CC h with⟨i,u,rfl,e⟩|⟨y,u,rfl,e⟩
  .exact nomatch e
  .injection e with e1 _
   subst e1
   cases v<;>rfl
def QP prog w(i:Int)(t:Tok):(Ft prog w).is (.inl i) (.int i t)=true:=TQ i t
def P2 prog w(x:Str)(t:Tok):(Ft prog w).is (.inr x) (.str x t)=true:=Tz x t
end L2
namespace L2
open PySem PySem.Spec PyProof.Rows
inductive V where
 |non|bl (b:sD)|int (i:Int)|str (x:Str)|byt (b:wL UInt8)|flt (b:UInt64)|ref (a:qg)|ty (n:ua)
 deriving DecidableEq
def RelV:V->qX->Prop
 | .non,u=>u=rJ
 | .bl b,u=>u=xF b
 | .int i,u=>∃t,u=xD i t
 | .str x,u=>∃t,u=xE x t
 | .byt b,u=>∃t,u=Value.bytes b t
 | .flt b,u=>∃t,u=Value.float b t
 | .ref a,u=>u=q9 a
 | .ty n,u=>u=xG n
abbrev Vals:Wp V->Wp qX->Prop:=Paired RelV
def Vals.length{xs:Wp V}{us:Wp qX}(r:Vals xs us):xs.length=us.length:=Paired.length r
theorem Vals.get:∀{xs} {us} {i:Nat} {x:V},Vals xs us->xs[i]?=Gc x->∃u,us[i]?=Gc u/\RelV x u
 |_,_,_,_,.nil,e=>by simp at e
 |_,_,0,_,.cons r _,e=>by simp at e;subst e;exact⟨_,rfl,r⟩
 |_,_,i+1,x,.cons _ t,e=>by
  obtain⟨u,h1,h2⟩:=Vals.get (i:=i) (x:=x) t (by simpa using e)
  exact⟨u,by simpa using h1,h2⟩
theorem Vals.set(r:RelV x u):∀{xs} {us} i,Vals xs us->Vals (xs.set i x) (us.set i u)
 |_,_,_,.nil=>.nil
 |_,_,0,.cons _ t=>.cons r t
 |_,_,i+1,.cons q t=>.cons q (Vals.set r i t)
theorem Vals.append:∀{xs ys:Wp V} {us ws:Wp qX},Vals xs us->Vals ys ws->Vals (xs++ys) (us++ws)
 |_,_,_,_,.nil,s=>s
 |_,_,_,_,.cons r t,s=>.cons r (Vals.append t s)
theorem Vals.take:∀{xs} {us} (n:Nat),Vals xs us->Vals (xs.take n) (us.take n)
 |_,_,0,_=>.nil
 |_,_,_+1,.nil=>.nil
 |_,_,n+1,.cons r t=>.cons r (Vals.take n t)
theorem Vals.drop:∀{xs} {us} (n:Nat),Vals xs us->Vals (xs.drop n) (us.drop n)
 |_,_,0,r=>r
 |_,_,_+1,.nil=>.nil
 |_,_,n+1,.cons _ t=>Vals.drop n t
def QH:qR V->qR qX->Prop
 |some v,Gc u=>RelV v u
 |none,none=>xH
 |_,_=>tN
def KV{κ:Type}:Wp (κ×V)->Wp (κ×qX)->Prop:=Paired λ(p:κ×V) (q:κ×qX)=>p.1=q.1/\RelV p.2 q.2
noncomputable def kV:Key->V
 | .inl i=>.int i
 | .inr x=>.str x
inductive HO where
 |lst (xs:Wp V)
 |tup (xs:Wp V)
 |dK (kvs:Wp (Key×V))|dT (kvs:Wp (Wp Key×V))
 |set (S:Int->sD) (n:Nat)
 |ins (C dx:qg) (fs:Wp (Str×V))
 |own (x:qg)
 |xd (fs:Wp (Str×V))
 |met (f x:qg)
 |rng (lo hi:Int)
 |frz (o:Obj) (u:HO)
 |tbl (ps:wL qX)
 |ext (φ:sS->Prop)
abbrev Hp:=qg->qR HO
noncomputable def upd(H:Hp)(a:qg)(o:HO):Hp:=λb=>if b=a then Gc o else H b
def Ax{o:HO}:upd H a o a=Gc o:=by unfold upd;rw[rB rfl]
def Ae{o:HO}(h:b≠a):upd H a o b=H b:=by unfold upd;rw[rA h]
def BG{H:Hp}{o:HO}(h:H a=Gc o)(h':H b=none):a≠b:=by
 intro e;subst e;rw[h]at h';cases h'
section
variable(P:sF)(w:tK)
def Ds(H:Hp)(h:sS)(a:qg):HO->Prop
 | .lst xs=>xs.length<=sizeLine/\∃(its:Wp qX) (n:Nat),Vals xs its/\h.get? a=Gc {cls:=.type "list",data:=.seq its.toArray n}
 | .tup xs=>xs.length<=sizeLine/\∃its:Wp qX,Vals xs its/\IsTup h a its.toArray
 | .dK kvs=>kvs.length<=sizeLine/\(a==sysModules)=false/\∃vs,KV kvs vs/\h.DictOf (Ft P w) a vs
 | .dT kvs=>kvs.length<=sizeLine/\(a==sysModules)=false/\∃xs:Wp (Wp Key×qg×qX),
    Paired (λ(p:Wp Key×V) (q:Wp Key×qg×qX)=>p.1=q.1/\H q.2.1=Gc (.tup (p.1.map kV))/\RelV p.2 q.2.2) kvs xs/\
    ∃o es ep,h.get? a=Gc o/\o.ExactDict/\o.data=.dict es ep/\es.toList=xs.map (entryOfKey (tupleKind (Ft P w)))/\(xs.map (·.1)).Nodup
 | .set S n=>h.SetOf (intKind P w) a S n
 | .ins C dx fs=>H dx=Gc (.own a)/\fs.length<=1000/\dx≠a/\h.get? a=Gc (uI C dx)/\
    ∃mA,h.Ns1 dx mA/\(∀f,QH (fs.lookup f) (mA f))/\zc mA (fs.map (·.1))
 | .own _=>∃o,h.get? a=Gc o
 | .xd fs=>∃mA,h.Ns1 a mA/\∀f,QH (fs.lookup f) (mA f)
 | .rng lo hi=>∃t u v,h.get? a=Gc {cls:=.type "range",data:=.fields #[.int lo t,.int hi u,.int 1 v]}
 | .frz o u=>h.get? a=Gc o/\Ds H h a u
 | .tbl ps=>h.get? a=Gc {cls:=.none,data:=.fields ps}
 | .met f x=>h.get? a=Gc (xW (.ref f) (.ref x))
 | .ext φ=>φ h/\(∃o,h.get? a=Gc o)/\∀h1 h2:sS,φ h1->(∀o,h1.get? a=Gc o->h2.get? a=Gc o)->φ h2
def HOk(H:Hp)(h:sS):Prop:=∀a o,H a=Gc o->Ds P w H h a o
end
section
variable{P:sF}{w:tK}{H H':Hp}{h h':sS}{a:qg}{o:HO}
def Ds.lt(x:Ds P w H h a o):a<h.objs.size:=by
 cases o with
 |lst xs=>obtain⟨_,_,_,_,e⟩:=x;exact ql e
 |tup xs=>obtain⟨_,_,_,p⟩:=x;exact p.lt
 |dK kvs=>obtain⟨_,_,_,_,o,_,_,e,_⟩:=x;exact ql e
 |dT kvs=>obtain⟨_,_,_,_,o,_,_,e,_⟩:=x;exact ql e
 |set S n=>obtain⟨o,_,_,_,e,_⟩:=x;exact ql e
 |ins C dx fs=>obtain⟨_,_,_,e,_⟩:=x;exact ql e
 |own y=>obtain⟨_,e⟩:=x;exact ql e
 |xd fs=>obtain⟨_,⟨_,_,_,e,_⟩,_⟩:=x;exact ql e
 |rng lo hi=>obtain⟨_,_,_,e⟩:=x;exact ql e
 |frz ob u=>obtain⟨e,_⟩:=x;exact ql e
 |tbl ps=>exact ql (show h.get? a=Gc _ from x)
 |met f y=>exact ql (show h.get? a=Gc _ from x)
 |ext φ=>obtain⟨_,⟨_,e⟩,_⟩:=x;exact ql e
theorem Paired.mW{α β:Type}{F G:α->β->Prop}:∀{l₁} {l₂:Wp β},Paired F l₁ l₂->(∀a b,F a b->G a b)->Paired G l₁ l₂
 |_,_,.nil,_=>.nil
 |_,_,.cons r t,f=>.cons (f _ _ r) (Paired.mW t f)
def Ds.V7(x:Ds P w H h a o)(k:∀b u,(b=a\/H b=Gc (.own a))->h.get? b=Gc u->h'.get? b=Gc u)(ho:∀b,H b=Gc (.own a)->H' b=Gc (.own a))(ht:∀b xs,H b=Gc (.tup xs)->H' b=Gc (.tup xs)):Ds P w H' h' a o:=by
 induction o with
 |lst xs=>obtain⟨z,its,n,r,e⟩:=x;exact⟨z,its,n,r,k _ _ (.inl rfl) e⟩
 |tup xs=>obtain⟨z,its,r,ob,e,c⟩:=x;exact⟨z,its,r,ob,k _ _ (.inl rfl) e,c⟩
 |dK kvs=>obtain⟨z,y,vs,r,ob,es,ep,e,c⟩:=x;exact⟨z,y,vs,r,ob,es,ep,k _ _ (.inl rfl) e,c⟩
 |dT kvs=>
  obtain⟨z,y,xs,r,ob,es,ep,e,c⟩:=x
  exact⟨z,y,xs,Paired.mW r λp q z=>⟨z.1,ht _ _ z.2.1,z.2.2⟩,ob,es,ep,k _ _ (.inl rfl) e,c⟩
 |set S n=>obtain⟨ob,es,ep,t,e,c⟩:=x;exact⟨ob,es,ep,t,k _ _ (.inl rfl) e,c⟩
 |ins C dx fs=>
  obtain⟨d,z,ne,e,mA,⟨od,es,ep,e2,c⟩,r⟩:=x
  exact⟨ho _ d,z,ne,k _ _ (.inl rfl) e,mA,⟨od,es,ep,k _ _ (.inr d) e2,c⟩,r⟩
 |own y=>obtain⟨ob,e⟩:=x;exact⟨ob,k _ _ (.inl rfl) e⟩
 |xd fs=>obtain⟨mA,⟨od,es,ep,e,c⟩,r⟩:=x;exact⟨mA,⟨od,es,ep,k _ _ (.inl rfl) e,c⟩,r⟩
 |rng lo hi=>obtain⟨t,u,v,e⟩:=x;exact⟨t,u,v,k _ _ (.inl rfl) e⟩
 |frz ob u ih=>obtain⟨e,q⟩:=x;exact⟨k _ _ (.inl rfl) e,ih q⟩
 |tbl ps=>
  have e:h.get? a=Gc {cls:=.none,data:=.fields ps}:=x
  show h'.get? a=Gc {cls:=.none,data:=.fields ps}
  exact k a _ (.inl rfl) e
 |met f y=>
  have e:h.get? a=Gc (xW (.ref f) (.ref y)):=x
  show h'.get? a=Gc (xW (.ref f) (.ref y))
  exact k a _ (.inl rfl) e
 |ext φ=>obtain⟨p,⟨o,e⟩,st⟩:=x;exact⟨st _ _ p λo q=>k _ _ (.inl rfl) q,⟨o,k _ _ (.inl rfl) e⟩,st⟩
def HOk.lt(x:HOk P w H h)(e:H a=Gc o):a<h.objs.size:=(x a o e).lt
def HOk.fresh(x:HOk P w H h)(e:h.objs.size<=a):H a=none:=by
 cases q:H a with
 |none=>rfl
 |some u=>exact absurd (qS (x.lt q) e) (sV _)
def HOk.kept(x:HOk P w H h)(k:∀b u,h.get? b=Gc u->h'.get? b=Gc u):HOk P w H h':=λa o e=>
 (x a o e).V7 (λb u _ q=>k b u q) (λ_ q=>q) λ_ _ q=>q
def HOk.laid(x:HOk P w H h)(k:∀b u,h.get? b=Gc u->h'.get? b=Gc u)(hp:h.objs.size<=a)(new:Ds P w (upd H a o) h' a o):HOk P w (upd H a o) h':=λb u e=>by
 have hn:=x.fresh hp
 by_cases hb:b=a
 .subst hb;rw[Ax]at e;cases e;exact new
 .rw[Ae hb]at e
  exact(x b u e).V7 (λc v _ q=>k c v q) (λc q=>by rw[Ae (BG q hn)];exact q) λc xs q=>by rw[Ae (BG q hn)];exact q
end
def Rd(H:Hp)(a:qg)(u:HO):Prop:=H a=Gc u\/∃o,H a=Gc (.frz o u)
def Rd.ok(r:Rd H a u)(x:HOk P w H h):Ds P w H h a u:=by
 rcases r with r|⟨o,r⟩
 .exact x a u r
 .obtain⟨_,q⟩:=x a _ r
  exact q
def Mut:qR HO->Prop
 |some (.lst _)=>xH
 |some (.dK _)=>xH
 |some (.dT _)=>xH
 |some (.set _ _)=>xH
 |some (.ins _ _ _)=>xH
 |some (.ext _)=>xH
 |_=>tN
section
variable{P:sF}{w:tK}{H:Hp}{h h':sS}{x e:qg}{o':HO}
def HOk.write(ok:HOk P w H h)(mu:Mut (H x))(he:e=x\/H e=Gc (.own x))(k:∀b u,b≠e->h.get? b=Gc u->h'.get? b=Gc u)(heo:∃u,h'.get? e=Gc u)(new:Ds P w (upd H x o') h' x o'):HOk P w (upd H x o') h':=λb u q=>by
 have nown:∀c y,H c=Gc (.own y)->c≠x:=λc y r z=>by subst z;rw[r]at mu;exact mu
 have ntup:∀c xs,H c=Gc (.tup xs)->c≠x:=λc xs r z=>by subst z;rw[r]at mu;exact mu
 by_cases hb:b=x
 .subst hb;rw[Ax]at q;cases q;exact new
 .rw[Ae hb]at q
  by_cases hbe:b=e
  .have q':H b=Gc (.own x):=by
    rcases he with z|z
    .exact absurd (hbe.trans z) hb
    .rw[hbe];exact z
   rw[q]at q';cases q'
   obtain⟨v,hv⟩:=heo
   exact⟨v,by rw[hbe];exact hv⟩
  .refine(ok b u q).V7 (λc v hc r=>k c v ?_ r) (λc r=>by rw[Ae (nown c b r)];exact r) λc xs r=>by rw[Ae (ntup c xs r)];exact r
   rcases hc with rfl|hc
   .exact hbe
   .rintro rfl
    rcases he with z|z
    .exact nown c b hc z
    .rw[hc]at z;cases z;exact hb rfl
end
structure Un(fs ex:Wp qg)(H H':Hp)(h h':sS):Prop where
 keep:∀b o,h.get? b=Gc o->H b=none->b∉fs->b∉ex->h'.get? b=Gc o
 slot:∀b o,h.get? b=Gc o->H b=none->b∈fs->b∉ex->∃sl,h'.get? b=Gc {o with slots:=sl}
 free:∀b o,h.get? b=Gc o->H b=none->b∉ex->H' b=none
 there:∀b o,h.get? b=Gc o->b∉ex->∃o',h'.get? b=Gc o'
 W7:∀b xs,H b=Gc (.tup xs)->H' b=Gc (.tup xs)
 Uh:∀b o u,H b=Gc (.frz o u)->H' b=Gc (.frz o u)
 WE:∀b ps,H b=Gc (.tbl ps)->∃more,H' b=Gc (.tbl (ps++more))
section
variable{fs fs' ex ex':Wp qg}{H H1 H2:Hp}{h h1 h2 h':sS}{a x e:qg}{o:HO}
def Un.any(u:Un fs ex H H1 h h1){b:qg}{ob:Obj}(q:h.get? b=Gc ob)(n:H b=none)(hx:b∉ex):∃sl,h1.get? b=Gc {ob with slots:=sl}:=by
 by_cases hb:b∈fs
 .exact u.slot b ob q n hb hx
 .exact⟨ob.slots,u.keep b ob q n hb hx⟩
def Un.kept(k:∀b u,h.get? b=Gc u->h'.get? b=Gc u):Un fs ex H H h h':=
 ⟨λb ob q _ _ _=>k b ob q,λb ob q _ _ _=>⟨ob.slots,k b ob q⟩,λ_ _ _ n _=>n,λb ob q _=>⟨ob,k b ob q⟩,λ_ _ q=>q,λ_ _ _ q=>q,λ_ ps q=>⟨#[],by rw[q];simp⟩⟩
def Un.refl:Un fs ex H H h h:=Un.kept λ_ _ q=>q
theorem Un.laid(k:∀b u,h.get? b=Gc u->h'.get? b=Gc u)(hp:h.objs.size<=a)(hn:H a=none):Un fs ex H (upd H a o) h h' where
 keep:=λb u q _ _ _=>k b u q
 slot:=λb u q _ _ _=>⟨u.slots,k b u q⟩
 free:=λb u q n _=>by rw[Ae (rK (qS (ql q) hp))];exact n
 there:=λb u q _=>⟨u,k b u q⟩
 W7:=λb xs q=>by rw[Ae (BG q hn)];exact q
 Uh:=λb u xs q=>by rw[Ae (BG q hn)];exact q
 WE:=λb ps q=>⟨#[],by rw[Ae (BG q hn),q];simp⟩
def Un.write(mu:Mut (H x))(he:e=x\/H e=Gc (.own x))(k:∀b u,b≠e->h.get? b=Gc u->h'.get? b=Gc u)(heo:∃u,h'.get? e=Gc u):Un fs ex H (upd H x o) h h':=by
 have hx:∀b,H b=none->b≠x:=λb n z=>by subst z;rw[n]at mu;exact mu
 have hb:∀b,H b=none->b≠e:=λb n z=>by
  subst z
  rcases he with r|r
  .exact hx b n r
  .rw[n]at r;cases r
 have hm:∀b u,H b=Gc u->¬Mut (Gc u)->b≠x:=λb u q nm z=>by subst z;rw[q]at mu;exact nm mu
 refine⟨λb u q n _ _=>k b u (hb b n) q,λb u q n _ _=>⟨u.slots,k b u (hb b n) q⟩,λb u q n _=>by rw[Ae (hx b n)];exact n,λb u q _=>?_,
  λb xs q=>by rw[Ae (hm b _ q λz=>z)];exact q,λb u xs q=>by rw[Ae (hm b _ q λz=>z)];exact q,λb ps q=>⟨#[],by rw[Ae (hm b _ q λz=>z),q];simp⟩⟩
 by_cases hbe:b=e
 .subst hbe;exact heo
 .exact⟨u,k b u hbe q⟩
end
noncomputable def trk(h:sS)(H:Hp):Wp qg:=(sY h.objs.size).filter λa=>(H a).isSome
noncomputable def V8(h:sS)(H:Hp):sS:=PySem.W.hideAll h (trk h H)
def TZ(h:sS)(H:Hp):(V8 h H).objs.size=h.objs.size:=PySem.W.hideAll_size _ _
def XT{o:Obj}(e:h.get? b=Gc o)(n:H b=none):(V8 h H).get? b=Gc o:=
 PySem.W.hideAll_get _ e λhm=>by
  have q:(H b).isSome=true:=(vi.mp hm).2
  rw[n]at q;simp at q
def ba{o:Obj}(e:(V8 h H).get? b=Gc o):h.get? b=Gc o/\H b=none:=by
 have e':h.get? b=Gc o:=PySem.W.of_hideAll (trk h H) e
 refine⟨e',?_⟩
 cases q:H b with
 |none=>rfl
 |some x=>
  have hm:b∈trk h H:=vi.mpr ⟨xI.mpr (ql e'),by simp[q]⟩
  have z:(V8 h H).get? b=none:=PySem.W.hideAll_none (trk h H) hm
  rw[z]at e;cases e
noncomputable def ZJ(g h:sS)(L:qg):Wp (qg×Obj):=(sY h.objs.size).filterMap λa=>if a=L\/(g.get? a).isSome=true then none else(h.get? a).map λo=>(a,o)
noncomputable def rest(g h:sS)(L d:qg):Wp (qg×Obj):=(ZJ g h L).filter λp=>decide (p.1≠d)
end L2
namespace L2
open PySem PySem.Spec PyProof.Rows
structure Mod(K:W1)(mg:Str->qR qX)(base:sS):Prop where
 kin:K.In base
 glob:base.Ns mainGlobals mg
 blt:∃mb,base.Ns builtinsNs mb/\∀x:Str,x≠ "__name__"->mb x=bootBuiltins x
 nolimit:base.NoLimit
structure Cx where
 prog:sF
 w:tK
 K:W1
 mg:Str->qR qX
 base:sS
 A:uN
 N:Wp Str
 s₀:qj
 H₀:Hp
 env:Env
 outer:Wp Env
 stack:Wp Env
 ex:Wp qg
 fn:Str->sD
 calm:sD
 pn:Wp (qg×Obj)
 xe:qX->qj->Prop
noncomputable def frs(l:Wp Env):Wp qg:=l.filterMap (·.frame)
abbrev Cx.fs(X:Cx):Wp qg:=frs X.outer
def Vis(sc:tu)(x:Str):Prop:=sc.names.lookup x=Gc .local\/sc.names.lookup x=Gc .cell\/sc.names.lookup x=Gc .free
def Loc(sc:tu)(x:Str):Prop:=sc.names.lookup x=Gc .local\/sc.names.lookup x=Gc .cell
def Look(env:Env)(h:sS)(m:Str->qR qX)(x:Str)(u:qX):Prop:=
 (env.kindOf x=Gc .local/\m x=Gc u)\/((env.kindOf x=Gc .cell\/env.kindOf x=Gc .free)/\∃c,env.cells.lookup x=Gc c/\h.IsCell c (Gc u))
structure Cx.Ok(X:Cx):Prop where
 mod:Mod X.K X.mg X.base
 kind:X.env.scope.kind=.function
 glob:X.env.globals=mainGlobals
 blt:X.env.builtins=builtinsNs
 above:X.s₀.heap.objs.size<=X.env.locals
 inj:∀x y c,X.env.cells.lookup x=Gc c->X.env.cells.lookup y=Gc c->x=y
 has:∀x,(X.env.kindOf x=Gc .cell\/X.env.kindOf x=Gc .free)->∃c,X.env.cells.lookup x=Gc c
 cab:∀x c,X.fn x=true->X.env.cells.lookup x=Gc c->X.s₀.heap.objs.size<=c
 hd:X.calm=true->X.A.handled=none
 frames:X.A.frames=Gc X.stack
 stk:X.stack=X.outer\/(X.stack=X.env::X.outer/\X.env.frame=Gc X.env.locals)
 exf:∀b∈X.ex,b≠X.env.locals/\∀x c,X.env.cells.lookup x=Gc c->c≠b
 bs:∀b o,X.base.get? b=Gc o->X.s₀.heap.get? b=Gc o/\X.H₀ b=none
 bsz:X.base.objs.size<=X.s₀.heap.objs.size
 X7:∀b o,X.base.get? b=Gc o->b∉X.ex
 aP:∀b∈X.ex,b∉X.fs
 P4:X.s₀.heap.FunFrames X.base X.outer
 frf:∀b∈X.fs,X.H₀ b=none
structure Inv(X:Cx)(pins:Wp (qg×Obj))(σ:Wp (qR V))(H:Hp)(s:qj):Prop where
 ok:X.Ok
 os:s.os=X.s₀.os
 bare:vt s.gens
 base:Un X.fs X.ex X.H₀ H X.s₀.heap s.heap
 loc:∃m,s.heap.Ns X.env.locals m/\∀(i:Nat) (x:Str) (v:V),X.N[i]?=Gc x->σ[i]?=Gc (Gc v)->Vis X.env.scope x->∃u,RelV v u/\Look X.env s.heap m x u
 cell:∀x c,X.env.cells.lookup x=Gc c->∃v,s.heap.IsCell c v
 free:H X.env.locals=none
 Jd:∀x c,X.env.cells.lookup x=Gc c->H c=none
 pin:∀p∈X.pn++pins,s.heap.get? p.1=Gc p.2/\H p.1=none/\p.1≠X.env.locals/\p.1∉X.fs/\∀v,p.2.data≠.cell v
 hok:HOk X.prog X.w H s.heap
 len:σ.length=X.N.length
section
variable{X:Cx}{pins:Wp (qg×Obj)}{σ:Wp (qR V)}{H H':Hp}{s:qj}{h':sS}
def Cx.Ok.oH(ok:X.Ok){b:qg}{o:Obj}(e:X.base.get? b=Gc o):b∉X.fs:=λhb=>by
 have:=(ok.P4.mem hb).1
 rw[e]at this;cases this
def Inv.bs(I:Inv X pins σ H s):∀b o,X.base.get? b=Gc o->s.heap.get? b=Gc o/\H b=none:=λb o e=>
 ⟨I.base.keep b o (I.ok.bs b o e).1 (I.ok.bs b o e).2 (I.ok.oH e) (I.ok.X7 b o e),I.base.free b o (I.ok.bs b o e).1 (I.ok.bs b o e).2 (I.ok.X7 b o e)⟩
def Inv.bk(I:Inv X pins σ H s):∀b o,X.base.get? b=Gc o->s.heap.get? b=Gc o:=λb o e=>(I.bs b o e).1
def Inv.mod(I:Inv X pins σ H s):Mod X.K X.mg X.base:=I.ok.mod
def Inv.kIn(I:Inv X pins σ H s):X.K.In s.heap:=I.ok.mod.kin.keeps I.bk
def Inv.nolimit(I:Inv X pins σ H s):s.heap.NoLimit:=I.ok.mod.nolimit.keeps I.bk
def Inv.lt(I:Inv X pins σ H s):X.env.locals<s.heap.objs.size:=let⟨_,hn,_⟩:=I.loc;hn.lt
def Inv.sz(I:Inv X pins σ H s):X.s₀.heap.objs.size<=s.heap.objs.size:=qU I.ok.above (uO I.lt)
def Inv.oq(I:Inv X pins σ H s){a:qg}(h:s.heap.objs.size<=a):a∉X.fs:=λhb=>by
 obtain⟨_,o,ho,_⟩:=I.ok.P4.mem hb
 exact absurd (qS (ql ho) (qU I.sz h)) (sV _)
def Inv.cne(I:Inv X pins σ H s):∀x c,X.env.cells.lookup x=Gc c->c≠X.env.locals:=λx c e z=>by
 obtain⟨v,o,ho,hd⟩:=I.cell x c e
 obtain⟨m,⟨o',es,ep,ho',hd',_⟩,_⟩:=I.loc
 rw[z,ho']at ho;cases ho;rw[hd']at hd;cases hd
def Inv.P4(I:Inv X pins σ H s):s.heap.FunFrames X.base X.outer:=by
 have all:∀(l:Wp Env),(∀b∈frs l,b∈X.fs)->X.s₀.heap.FunFrames X.base l->s.heap.FunFrames X.base l:=by
  intro l
  induction l with
  |nil=>intro _ _;trivial
  |cons env r ih=>
   intro hs hl
   obtain⟨hk,⟨L,o,hf,hn,ho,hd⟩,hr⟩:=hl
   have hL:L∈X.fs:=hs L (by unfold frs;rw[rh,hf];exact qh)
   obtain⟨sl,e⟩:=I.base.slot L o ho (I.ok.frf L hL) hL λz=>I.ok.aP L z hL
   exact⟨hk,⟨L,_,hf,hn,e,hd⟩,ih (λb hb=>hs b (by unfold frs;rw[rh,hf];exact qa _ hb)) hr⟩
 exact all X.outer (λ_ hb=>hb) I.ok.P4
def Inv.stack(I:Inv X pins σ H s):s.heap.FunFrames X.base X.stack:=by
 rcases I.ok.stk with e|⟨e,hf⟩
 .rw[e];exact I.P4
 .rw[e]
  obtain⟨m,hn,_⟩:=I.loc
  refine .cons (by rw[I.ok.kind];decide) hf hn ?_ I.P4
  exact Heap.get?_none_of_le (qU I.ok.bsz I.ok.above)
def Inv.Vl(I:Inv X pins σ H s):∀b∈frs X.stack,b∈X.env.locals::X.fs:=λb hb=>by
 rcases I.ok.stk with e|⟨e,hf⟩
 .rw[e]at hb;exact qa _ hb
 .rw[e]at hb
  unfold frs at hb
  rw[rh,hf]at hb
  exact hb
def Inv.QT(I:Inv X pins σ H s):∀b∈frs X.stack,H b=none:=λb hb=>by
 rcases qY.mp (I.Vl b hb)with e|hb
 .rw[e];exact I.free
 .obtain⟨_,o,ho,_⟩:=I.ok.P4.mem hb
  exact I.base.free b o ho (I.ok.frf b hb) λz=>I.ok.aP b z hb
def Inv.step{ch:Wp qg}(I:Inv X pins σ H s)(hch:∀b∈ch,(b∈X.ex\/X.s₀.heap.objs.size<=b)/\b≠X.env.locals/\(∀x c,X.env.cells.lookup x=Gc c->c≠b)/\∀p∈X.pn++pins,p.1≠b)(keep:∀b o,b≠X.env.locals->b∉X.fs->b∉ch->s.heap.get? b=Gc o->H b=none->h'.get? b=Gc o)(slot:∀b o,b≠X.env.locals->b∈X.fs->b∉ch->s.heap.get? b=Gc o->H b=none->∃sl,h'.get? b=Gc {o with slots:=sl})(free:∀b o,b∉ch->s.heap.get? b=Gc o->H b=none->H' b=none)(there:∀b o,b∉ch->s.heap.get? b=Gc o->∃o',h'.get? b=Gc o')(W7:∀b xs,H b=Gc (.tup xs)->H' b=Gc (.tup xs))(Uh:∀b o u,H b=Gc (.frz o u)->H' b=Gc (.frz o u))(WE:∀b ps,H b=Gc (.tbl ps)->∃more,H' b=Gc (.tbl (ps++more)))(ns:∀m,s.heap.Ns X.env.locals m->h'.Ns X.env.locals m)(hok:HOk X.prog X.w H' h')(hg:vt g'):Inv X pins σ H' {s with heap:=h',gens:=g',drawn:=d',toks:=t'}:=by
 have neL:∀b o,X.s₀.heap.get? b=Gc o->b≠X.env.locals:=λb o e=>rK (qS (ql e) I.ok.above)
 have neC:∀b o,X.s₀.heap.get? b=Gc o->b∉X.ex->b∉ch:=λb o e hx hb=>by
  rcases(hch b hb).1 with z|z
  .exact hx z
  .exact absurd (qS (ql e) z) (sV _)
 have cellK:∀x c,X.env.cells.lookup x=Gc c->∀v,s.heap.IsCell c v->h'.IsCell c v:=λx c e v ⟨o,ho,hd⟩=>by
  have nch:c∉ch:=λz=>(hch c z).2.2.1 x c e rfl
  by_cases hc:c∈X.fs
  .obtain⟨sl,q⟩:=slot c o (I.cne x c e) hc nch ho (I.Jd x c e)
   exact⟨_,q,hd⟩
  .exact⟨o,keep c o (I.cne x c e) hc nch ho (I.Jd x c e),hd⟩
 refine⟨I.ok,I.os,hg,⟨λb o e n hb hx=>?_,λb o e n hb hx=>?_,λb o e n hx=>?_,λb o e hx=>?_,λb xs e=>W7 b xs (I.base.W7 b xs e),λb o xs e=>Uh b o xs (I.base.Uh b o xs e),λb ps e=>?_⟩,?_,λx c e=>?_,?_,λx c e=>?_,λp hp=>?_,hok,I.len⟩
 .exact keep b o (neL b o e) hb (neC b o e hx) (I.base.keep b o e n hb hx) (I.base.free b o e n hx)
 .obtain⟨sl,e1⟩:=I.base.slot b o e n hb hx
  obtain⟨sl',e2⟩:=slot b _ (neL b o e) hb (neC b o e hx) e1 (I.base.free b o e n hx)
  exact⟨sl',e2⟩
 .obtain⟨o',e1⟩:=I.base.there b o e hx
  exact free b o' (neC b o e hx) e1 (I.base.free b o e n hx)
 .obtain⟨o',e1⟩:=I.base.there b o e hx
  exact there b o' (neC b o e hx) e1
 .obtain⟨m1,e1⟩:=I.base.WE b ps e
  obtain⟨m2,e2⟩:=WE b _ e1
  exact⟨m1++m2,by rw[e2,Array.append_assoc]⟩
 .obtain⟨m,hn,hl⟩:=I.loc
  refine⟨m,ns m hn,λi x v e1 e2 e3=>?_⟩
  obtain⟨u,r,l⟩:=hl i x v e1 e2 e3
  refine⟨u,r,?_⟩
  rcases l with l|⟨k,c,e,z⟩
  .exact .inl l
  .exact .inr ⟨k,c,e,cellK x c e _ z⟩
 .obtain⟨v,z⟩:=I.cell x c e
  exact⟨v,cellK x c e v z⟩
 .obtain⟨m,⟨o,_,_,ho,_⟩,_⟩:=I.loc
  exact free _ o (λz=>(hch _ z).2.1 rfl) ho I.free
 .obtain⟨v,o,ho,hd⟩:=I.cell x c e
  exact free c o (λz=>(hch c z).2.2.1 x c e rfl) ho (I.Jd x c e)
 .obtain⟨e,n,ne,nf,d⟩:=I.pin p hp
  have nch:p.1∉ch:=λz=>(hch p.1 z).2.2.2 p hp rfl
  exact⟨keep p.1 p.2 ne nf nch e n,free p.1 p.2 nch e n,ne,nf,d⟩
def Inv.un{t':Nat}(I:Inv X pins σ H s)(u:Un X.fs [] H H' s.heap h')(hok:HOk X.prog X.w H' h'):Inv X pins σ H' {s with heap:=h',toks:=t'}:=by
 obtain⟨m,⟨o,es,ep,ho,r⟩,_⟩:=id I.loc
 obtain⟨sl,hL⟩:=u.any ho I.free (by simp)
 exact I.step (g':=s.gens) (d':=s.drawn) (ch:=[]) (λ_ z=>nomatch z) (λb o _ hb _ e n=>u.keep b o e n hb (by simp)) (λb o _ hb _ e n=>u.slot b o e n hb (by simp)) (λb o _ e n=>u.free b o e n (by simp)) (λb o _ e=>u.there b o e (by simp)) u.W7 u.Uh u.WE (λm' hm=>by
  obtain⟨o',es',ep',ho',r'⟩:=hm
  rw[ho]at ho';cases ho'
  exact⟨_,es',ep',hL,r'⟩) hok I.bare
def Inv.call{ch:Wp qg}(I:Inv X pins σ H s)(u:Un (frs X.stack) ch H H' s.heap h')(hok:HOk X.prog X.w H' h')(hg:vt g')(hch:∀b∈ch,(b∈X.ex\/X.s₀.heap.objs.size<=b)/\b≠X.env.locals/\(∀x c,X.env.cells.lookup x=Gc c->c≠b)/\∀p∈X.pn++pins,p.1≠b):Inv X pins σ H' {s with heap:=h',gens:=g',drawn:=d',toks:=t'}:=by
 obtain⟨m,⟨o,es,ep,ho,r⟩,_⟩:=id I.loc
 obtain⟨sl,hL⟩:=u.any ho I.free λz=>(hch _ z).2.1 rfl
 exact I.step (ch:=ch) hch (λb o hL hb hc e n=>u.keep b o e n (λz=>(qY.mp (I.Vl b z)).elim hL hb) hc) (λb o _ _ hc e n=>u.any e n hc) (λb o hc e n=>u.free b o e n hc) (λb o hc e=>u.there b o e hc) u.W7 u.Uh u.WE (λm' hm=>by
  obtain⟨o',es',ep',ho',r'⟩:=hm
  rw[ho]at ho';cases ho'
  exact⟨_,es',ep',hL,r'⟩) hok hg
def Inv.turned{t':Nat}{it:qg}(I:Inv X pins σ H s)(k:∀b o,b≠it->s.heap.get? b=Gc o->h'.get? b=Gc o)(hn:H it=none)(hL:it≠X.env.locals)(h1:it∈X.ex\/X.s₀.heap.objs.size<=it)(h2:∀x c,X.env.cells.lookup x=Gc c->c≠it)(h3:∀p∈X.pn++pins,p.1≠it):Inv X pins σ H {s with heap:=h',toks:=t'}:=by
 have nit:∀b u,H b=Gc u->b≠it:=λb u e z=>by rw[z,hn]at e;cases e
 refine I.step (g':=s.gens) (d':=s.drawn) (ch:=[it]) (λb hb=>?_) (λb o _ _ hc e _=>k b o (λz=>hc (by simp[z])) e) (λb o _ _ hc e _=>⟨o.slots,k b o (λz=>hc (by simp[z])) e⟩) (λ_ _ _ _ n=>n)
  (λb o hc e=>⟨o,k b o (λz=>hc (by simp[z])) e⟩) (λ_ _ e=>e) (λ_ _ _ e=>e) (λb ps e=>⟨#[],by rw[e];simp⟩) (λm hm=>?_) (λb u e=>?_) I.bare
 .have e:b=it:=by simpa using hb
  subst e
  exact⟨h1,hL,h2,h3⟩
 .obtain⟨o,es,ep,ho,r⟩:=hm
  exact⟨o,es,ep,k _ o (se hL) ho,r⟩
 .refine(I.hok b u e).V7 (λc v hc q=>k c v ?_ q) (λ_ q=>q) λ_ _ q=>q
  rcases hc with z|z
  .rw[z];exact nit b u e
  .exact nit c _ z
def Inv.tok(I:Inv X pins σ H s)(t:Nat):Inv X pins σ H {s with toks:=t}:=I.un (h':=s.heap) (t':=t) Un.refl I.hok
def Inv.kept{t':Nat}(I:Inv X pins σ H s)(k:∀b u,s.heap.get? b=Gc u->h'.get? b=Gc u):Inv X pins σ H {s with heap:=h',toks:=t'}:=I.un (Un.kept k) (I.hok.kept k)
def Inv.laid{a:qg}{t':Nat}(I:Inv X pins σ H s)(k:∀b u,s.heap.get? b=Gc u->h'.get? b=Gc u)(hp:s.heap.objs.size<=a)(new:Ds X.prog X.w (upd H a o) h' a o):Inv X pins σ (upd H a o) {s with heap:=h',toks:=t'}:=I.un (Un.laid k hp (I.hok.fresh hp)) (I.hok.laid k hp new)
def Inv.write{t':Nat}(I:Inv X pins σ H s)(mu:Mut (H x))(he:e=x\/H e=Gc (.own x))(k:∀b u,b≠e->s.heap.get? b=Gc u->h'.get? b=Gc u)(heo:∃u,h'.get? e=Gc u)(new:Ds X.prog X.w (upd H x o) h' x o):Inv X pins σ (upd H x o) {s with heap:=h',toks:=t'}:=I.un (Un.write mu he k heo) (I.hok.write mu he k heo new)
def Inv.Vg{pins':Wp (qg×Obj)}(I:Inv X pins σ H s)(h:∀p∈pins',s.heap.get? p.1=Gc p.2/\H p.1=none/\p.1≠X.env.locals/\p.1∉X.fs/\∀v,p.2.data≠.cell v):Inv X pins' σ H s:=
 ⟨I.ok,I.os,I.bare,I.base,I.loc,I.cell,I.free,I.Jd,λp hp=>(rE.mp hp).elim (λz=>I.pin p (wW _ z)) (h p),I.hok,I.len⟩
def Qd{N:Wp Str}(hN:N.Nodup){i j:Nat}{x:Str}(a:N[i]?=Gc x)(b:N[j]?=Gc x):i=j:=by
 obtain⟨h1,e1⟩:=qV.mp a
 obtain⟨h2,e2⟩:=qV.mp b
 exact(List.getElem_inj hN).mp (e1.trans e2.symm)
def ON(I:Inv X pins σ H s)(hN:X.N.Nodup)(hi:X.N[i]?=Gc x)(hx:Loc X.env.scope x)(r:RelV v u)(h:∀s',Inv X pins (σ.set i (Gc v)) H s'->(∃a,vy a s.heap s'.heap/\(a=X.env.locals\/X.env.cells.lookup x=Gc a))->Q () s')(hf:zb (X.fn x=true\/X.env.scope.names.lookup x=Gc .local) x0):wpAny M A (storeName X.env x u) Q E s:=by
 obtain⟨m,hn,hl⟩:=id I.loc
 have hcls:(X.env.scope.kind== .class||(X.env.scope.kind== .module && X.env.locals !=X.env.globals))=false:=by rw[I.ok.kind];rfl
 have hiσ:i<σ.length:=by rw[I.len];exact(qV.mp hi).1
 have cne:=I.cne
 have tracked:∀{a:qg} {h':sS},(∃o,s.heap.get? a=Gc o/\H a=none)->vy a s.heap h'->HOk X.prog X.w H h':=λ{a h'} ha hs b ob e=>by
  obtain⟨_,_,hfree⟩:=ha
  refine(I.hok b ob e).V7 (λc w' hc q=>(hs.2 c ?_).trans q) (λ_ q=>q) λ_ _ q=>q
  rintro rfl
  rcases hc with rfl|hc
  .rw[hfree]at e;cases e
  .rw[hfree]at hc;cases hc
 rcases hx with hk|hk
 .refine wpAny_storeName_local hk hn (λh' hn' hs=>?_) hcls
  obtain⟨oL,_,_,hoL,_⟩:=id hn
  refine h _ ⟨I.ok,I.os,I.bare,⟨λb o e n hb hx=>?_,λb o e n hb hx=>?_,I.base.free,λb o e hx=>?_,I.base.W7,I.base.Uh,I.base.WE⟩,⟨_,hn',λj y v' e1 e2 e3=>?_⟩,λy c e=>?_,I.free,I.Jd,λp hp=>?_,tracked ⟨oL,hoL,I.free⟩ hs,by simpa using I.len⟩ ⟨_,hs,.inl rfl⟩
  .exact(hs.2 b (rK (qS (ql e) I.ok.above))).trans (I.base.keep b o e n hb hx)
  .obtain⟨sl,e1⟩:=I.base.slot b o e n hb hx
   exact⟨sl,(hs.2 b (rK (qS (ql e) I.ok.above))).trans e1⟩
  .obtain⟨o',e1⟩:=I.base.there b o e hx
   exact⟨o',(hs.2 b (rK (qS (ql e) I.ok.above))).trans e1⟩
  .by_cases hj:j=i
   .subst hj
    rw[hi]at e1;cases e1
    rw[qb hiσ]at e2
    cases e2
    exact⟨u,r,.inl ⟨hk,by simp⟩⟩
   .rw[qT (se hj)]at e2
    obtain⟨u',r',q⟩:=hl j y v' e1 e2 e3
    refine⟨u',r',?_⟩
    rcases q with⟨k,e⟩|⟨k,c,e,z⟩
    .refine .inl ⟨k,?_⟩
     have:y≠x:=λe=>hj (Qd hN e1 (e▸hi))
     simp[this,e]
    .exact .inr ⟨k,c,e,z.sameBut hs (cne y c e)⟩
  .obtain⟨w',z⟩:=I.cell y c e
   exact⟨w',z.sameBut hs (cne y c e)⟩
  .obtain⟨e,n,ne,nf,d⟩:=I.pin p hp
   exact⟨(hs.2 p.1 ne).trans e,n,ne,nf,d⟩
 .have hfn:X.fn x=true:=by
   rcases hf with z|z
   .exact z
   .rw[z]at hk;cases hk
  obtain⟨c,hc⟩:=I.ok.has x (.inl hk)
  obtain⟨w',z⟩:=I.cell x c hc
  refine wpAny_storeName_cell I.ok.kind hk hc z (λh' hc' hs=>?_)
  obtain⟨oc,hoc,hocd⟩:=id z
  refine h {s with heap:=h'} ⟨I.ok,I.os,I.bare,⟨λb o e n hb hx=>?_,λb o e n hb hx=>?_,I.base.free,λb o e hx=>?_,I.base.W7,I.base.Uh,I.base.WE⟩,⟨m,hn.sameBut hs (se (cne x c hc)),λj y v' e1 e2 e3=>?_⟩,λy c' e=>?_,I.free,I.Jd,λp hp=>?_,tracked ⟨oc,hoc,I.Jd x c hc⟩ hs,by simpa using I.len⟩ ⟨c,hs,.inr hc⟩
  .exact(hs.2 b (rK (qS (ql e) (I.ok.cab x c hfn hc)))).trans (I.base.keep b o e n hb hx)
  .obtain⟨sl,e1⟩:=I.base.slot b o e n hb hx
   exact⟨sl,(hs.2 b (rK (qS (ql e) (I.ok.cab x c hfn hc)))).trans e1⟩
  .obtain⟨o',e1⟩:=I.base.there b o e hx
   exact⟨o',(hs.2 b (rK (qS (ql e) (I.ok.cab x c hfn hc)))).trans e1⟩
  .by_cases hj:j=i
   .subst hj
    rw[hi]at e1;cases e1
    rw[qb hiσ]at e2
    cases e2
    exact⟨u,r,.inr ⟨.inl hk,c,hc,hc'⟩⟩
   .rw[qT (se hj)]at e2
    obtain⟨u',r',q⟩:=hl j y v' e1 e2 e3
    refine⟨u',r',?_⟩
    rcases q with q|⟨k,c',e,z'⟩
    .exact .inl q
    .refine .inr ⟨k,c',e,z'.sameBut hs ?_⟩
     rintro rfl
     exact hj (Qd hN e1 (I.ok.inj _ _ _ e hc▸hi))
  .by_cases hcc:c'=c
   .subst hcc;exact⟨_,hc'⟩
   .obtain⟨w2,z2⟩:=I.cell y c' e
    exact⟨w2,z2.sameBut hs hcc⟩
  .obtain⟨e,n,ne,nf,d⟩:=I.pin p hp
   refine⟨(hs.2 p.1 ?_).trans e,n,ne,nf,d⟩
   intro q
   rw[q,hoc]at e
   have q':oc=p.2:=tH e
   exact d w' (by rw[<-q'];exact hocd)
def K4(I:Inv X pins σ H s)(hN:X.N.Nodup)(hi:X.N[i]?=Gc x)(hx:Loc X.env.scope x)(r:RelV v u)(h:∀s',Inv X pins (σ.set i (Gc v)) H s'->Q () s')(hf:zb (X.fn x=true\/X.env.scope.names.lookup x=Gc .local) x0):wpAny M A (storeName X.env x u) Q E s:=
 ON I hN hi hx r (λs' I' _=>h s' I') hf
def Inv.U5{s':qj}{ch:Wp qg}(I:Inv X pins σ H s)(ho:s'.os=s.os)(u:Un (frs X.stack) ch H H' s.heap s'.heap)(hok:HOk X.prog X.w H' s'.heap)(hg:vt s'.gens)(hch:∀b∈ch,(b∈X.ex\/X.s₀.heap.objs.size<=b)/\b≠X.env.locals/\(∀x c,X.env.cells.lookup x=Gc c->c≠b)/\∀p∈X.pn++pins,p.1≠b):Inv X pins σ H' s':=by
 obtain⟨h',g',d',t',o'⟩:=s'
 have e:o'=s.os:=ho
 subst e
 exact I.call (g':=g') (t':=t') (d':=d') u hok hg hch
end
abbrev XK:=qX->qR qg->Hp->Prop
abbrev St:=Wp (qR V)
abbrev VK:=V->Hp->Prop
abbrev TE:=St->Hp->VK->Prop
abbrev TT:=St->Hp->(sD->Hp->Prop)->Prop
abbrev TA:=St->Hp->(Wp V->Hp->Prop)->Prop
structure Ends where
 nx:St->Hp->Prop
 rt:VK
 bk:St->Hp->Prop:=λ_ _=>tN
 ct:St->Hp->Prop:=λ_ _=>tN
abbrev TS:=Ends->St->Hp->Prop
def EP(X:Cx)(pins:Wp (qg×Obj))(σ:St)(Q:VK)(u:qX)(s':qj):Prop:=∃v H',Inv X pins σ H' s'/\RelV v u/\Q v H'
def TP(X:Cx)(pins:Wp (qg×Obj))(σ:St)(Q:sD->Hp->Prop)(b:sD)(s':qj):Prop:=∃H',Inv X pins σ H' s'/\Q b H'
def AP(X:Cx)(pins:Wp (qg×Obj))(σ:St)(Q:Wp V->Hp->Prop)(us:Wp qX)(s':qj):Prop:=∃vs H',Inv X pins σ H' s'/\Vals vs us/\Q vs H'
def SP(X:Cx)(pins:Wp (qg×Obj))(D:Ends)(f:Flow)(s':qj):Prop:=
 match f with
 | .next=>∃σ' H',Inv X pins σ' H' s'/\D.nx σ' H'
 | .brk=>∃σ' H',Inv X pins σ' H' s'/\D.bk σ' H'
 | .cont=>∃σ' H',Inv X pins σ' H' s'/\D.ct σ' H'
 | .ret u=>∃v σ' H',Inv X pins σ' H' s'/\RelV v u/\D.rt v H'
def PE(X:Cx)(e:sG)(t:TE):Prop:=
 ∀(pins:Wp (qg×Obj)) (s:qj) (σ:St) (H:Hp) (Q:VK),Inv X pins σ H s->t σ H Q->wpAny (model X.prog X.w) X.A (eval e X.env) (EP X pins σ Q) X.xe s
def PT(X:Cx)(e:sG)(t:TT):Prop:=
 ∀(pins:Wp (qg×Obj)) (s:qj) (σ:St) (H:Hp) (Q:sD->Hp->Prop),Inv X pins σ H s->t σ H Q->wpAny (model X.prog X.w) X.A (isTrue e X.env (eval e X.env)) (TP X pins σ Q) X.xe s
def PW(X:Cx)(e:sG)(t:TT):Prop:=
 ∀(whole:Sem qX) (pins:Wp (qg×Obj)) (s:qj) (σ:St) (H:Hp) (Q:sD->Hp->Prop),Inv X pins σ H s->t σ H Q->wpAny (model X.prog X.w) X.A (isTrue e X.env whole) (TP X pins σ Q) X.xe s
def PW.pt{t:TT}(h:PW X e t):PT X e t:=h _
def PA(X:Cx)(es:Wp sG)(t:TA):Prop:=
 ∀(pos:Pos) (pins:Wp (qg×Obj)) (s:qj) (σ:St) (H:Hp) (Q:Wp V->Hp->Prop),Inv X pins σ H s->t σ H Q->wpAny (model X.prog X.w) X.A (spliced (backTo pos (qc es X.env))) (AP X pins σ Q) X.xe s
def PS(X:Cx)(st:rQ)(t:TS):Prop:=
 ∀(pins:Wp (qg×Obj)) (s:qj) (σ:St) (H:Hp) (D:Ends),Inv X pins σ H s->t D σ H->wpAny (model X.prog X.w) X.A (exec st X.env) (SP X pins D) X.xe s
def PSs(X:Cx)(st:Wp rQ)(t:TS):Prop:=
 ∀(pins:Wp (qg×Obj)) (s:qj) (σ:St) (H:Hp) (D:Ends),Inv X pins σ H s->t D σ H->wpAny (model X.prog X.w) X.A (execs st X.env) (SP X pins D) X.xe s
def thn{t:Sem α}{Q Q':α->qj->Prop}(h:wpAny M A t Q E s)(hQ:∀a s,Q a s->Q' a s):wpAny M A t Q' E s:=sZ h hQ λ_ _ x=>x
end L2
namespace L2
open PySem PySem.Spec PyProof.Rows
section
variable{X:Cx}
noncomputable def oC(i:Nat):TE:=λσ H Q=>∃v,σ[i]?=Gc (Gc v)/\Q v H
noncomputable def tC(v:V):TE:=λ_ H Q=>Q v H
def Oo{pos:Pos}(hN:X.N[i]?=Gc x)(hv:Vis X.env.scope x)(hd:zb ((x==("__debug__":Str))=false) xz)(hcd:zb ((x==("__classdict__":Str))=false) xz):PE X (.Name x pos) (oC i):=by
 intro pins s σ H Q I h
 obtain⟨v,e,h⟩:=h
 obtain⟨m,hn,hl⟩:=I.loc
 obtain⟨u,r,l⟩:=hl i x v hN e hv
 have fin:EP X pins σ Q u s:=⟨v,H,I,r,h⟩
 rcases l with⟨hk,hm⟩|⟨hk,c,hc,hcell⟩
 .exact wpAny_Name (wpAny_loadName_local I.ok.kind hk hn hm fin) hd
 .rcases hk with hk|hk
  .exact wpAny_Name (wpAny_loadName_cell I.ok.kind hk hc hcell fin) hd
  .exact wpAny_Name (wpAny_loadName_free I.ok.kind hk hc hcell fin hcd) hd
def gS{i j pos}:PE X (.Constant (.int i) j pos) (tC (.int i)):=λ_ _ _ H _ I h=>wpAny_Constant_int ⟨.int i,H,I.tok _,⟨_,rfl⟩,h⟩
def jq{b j pos}:PE X (.Constant (.bool b) j pos) (tC (.bl b)):=λ_ _ _ H _ I h=>Constant_bool ⟨.bl b,H,I,rfl,h⟩
def gT{j pos}:PE X (.Constant .none j pos) (tC .non):=λ_ _ _ H _ I h=>Constant_none ⟨.non,H,I,rfl,h⟩
def df{x j pos}:PE X (.Constant (.str x) j pos) (tC (.str x)):=λ_ _ _ H _ I h=>Calls.Constant_str ⟨.str x,H,I.tok _,⟨_,rfl⟩,h⟩
def Gl(X:Cx)(x:Str):Prop:=X.env.kindOf x=Gc .globalImplicit
def J4{s:qj}{σ:St}(I:Inv X pins σ H s)(hg:Gl X x)(hm:X.mg x=Gc u)(h:Q u s)(hd:zb ((x==("__debug__":Str))=false) xz):wpAny (model X.prog X.w) X.A (eval (.Name x pos) X.env) Q E s:=
 vK I.ok.kind hg (xu (by rw[I.ok.glob];exact I.mod.glob.keeps I.bk) hm h) hd
def M9{E:qX->qj->Prop}{σ:St}{u:qX}{pos:Pos}(I:Inv X pins σ H s)(hg:Gl X x)(hm:X.mg x=none)(hv:bootBuiltins x=Gc u)(h:Q u s)(hn:zb (x≠ "__name__") xz)(hd:zb ((x==("__debug__":Str))=false) xz):wpAny (model X.prog X.w) X.A (eval (.Name x pos) X.env) Q E s:=by
 obtain⟨mb,h1,h2⟩:=I.mod.blt
 exact vK I.ok.kind hg (Calls.loadGlobal_builtin (by rw[I.ok.glob];exact I.mod.glob.keeps I.bk) hm (by rw[I.ok.blt];exact h1.keeps I.bk) ((h2 x hn).trans hv) h) hd
def OC{pos:Pos}(hg:Gl X x)(hm:X.mg x=Gc u)(r:RelV v u)(hd:zb ((x==("__debug__":Str))=false) xz):PE X (.Name x pos) (tC v):=
 λ_ _ _ H _ I h=>J4 I hg hm ⟨v,H,I,r,h⟩ hd
def aZ{pos:Pos}(hg:Gl X x)(hm:X.mg x=none)(hv:bootBuiltins x=Gc u)(r:RelV v u)(hn:zb (x≠ "__name__") xz)(hd:zb ((x==("__debug__":Str))=false) xz):PE X (.Name x pos) (tC v):=
 λ_ _ _ H _ I h=>M9 I hg hm hv ⟨v,H,I,r,h⟩ hn hd
variable{a b:sG}{ta tb:TE}{pos:Pos}
noncomputable def tB(t:TE):TT:=λσ H Q=>t σ H λx H1=>∃c,x=.bl c/\Q c H1
def d9{e:sG}{t:TE}(h:PE X e t)(he:zb (∀whole,isTrue e X.env whole=(do let v<-whole;standAt e.pos;holding [v] (truthy v))) xL):PT X e (tB t):=by
 intro pins s σ H Q I hw
 refine isTrue_plain (thn (h pins s σ H _ I hw) λv s1 z=>?_) (he _)
 obtain⟨x,H1,I1,r1,q1⟩:=z
 obtain⟨d,rfl,q⟩:=q1
 cases r1
 exact uE ⟨H1,I1,q⟩
variable{tA tB':TT}{rest:Wp sG}
noncomputable def nK(t u:TT):TT:=λσ H Q=>t σ H λc H1=>if c=true then u σ H1 Q else Q false H1
noncomputable def tOr(t u:TT):TT:=λσ H Q=>t σ H λc H1=>if c=true then Q true H1 else u σ H1 Q
noncomputable def nU(t:TT):TT:=λσ H Q=>t σ H λc H1=>Q (!c) H1
def bL(ha:PT X a tA):PW X (.BoolOp .And [a] pos) tA:=by
 intro wh pins s σ H Q I h
 refine isTrue_and (thn (ha pins s σ H Q I h) λc s1 e=>?_)
 cases c with
 |true=>exact isTrue_and_nil e
 |false=>exact e
def fk(ha:PT X a tA):PW X (.BoolOp .Or [a] pos) tA:=by
 intro wh pins s σ H Q I h
 refine isTrue_or (thn (ha pins s σ H Q I h) λc s1 e=>?_)
 cases c with
 |false=>exact isTrue_or_nil e
 |true=>exact e
def gL(ha:PT X a tA)(hb:PW X (.BoolOp .And (b::rest) pos) tB'):PW X (.BoolOp .And (a::b::rest) pos) (nK tA tB'):=by
 intro wh pins s σ H Q I h
 refine isTrue_and (thn (ha pins s σ H _ I h) λc s1 ⟨H1,I1,q1⟩=>?_)
 cases c with
 |true=>exact hb wh pins s1 σ H1 Q I1 q1
 |false=>exact⟨H1,I1,q1⟩
def jZ(ha:PT X a tA)(hb:PW X (.BoolOp .Or (b::rest) pos) tB'):PW X (.BoolOp .Or (a::b::rest) pos) (tOr tA tB'):=by
 intro wh pins s σ H Q I h
 refine isTrue_or (thn (ha pins s σ H _ I h) λc s1 ⟨H1,I1,q1⟩=>?_)
 cases c with
 |true=>exact⟨H1,I1,q1⟩
 |false=>exact hb wh pins s1 σ H1 Q I1 q1
def cu(ha:PT X a tA):PT X (.UnaryOp .Not a pos) (nU tA):=by
 intro pins s σ H Q I h
 exact isTrue_not (ha pins s σ H (λc H1=>Q (!c) H1) I h)
noncomputable def jT(ta tb:TE):TE:=λσ H Q=>ta σ H λx H1=>∃c,x=.bl c/\if c=true then tb σ H1 Q else Q (.bl false) H1
noncomputable def nj(ta tb:TE):TE:=λσ H Q=>ta σ H λx H1=>∃c,x=.bl c/\if c=true then Q (.bl true) H1 else tb σ H1 Q
noncomputable def kH(ta:TE):TE:=λσ H Q=>ta σ H λx H1=>∃c,x=.bl c/\Q (.bl (!c)) H1
def fH{op}{t:TE}(h:PE X a t):PE X (.BoolOp op [a] pos) t:=λpins s σ H Q I hw=>BoolOp_one (h pins s σ H Q I hw)
def fA(ha:PE X a ta)(hb:PE X (.BoolOp .And (b::rest) pos) tb):PE X (.BoolOp .And (a::b::rest) pos) (jT ta tb):=by
 intro pins s σ H Q I h
 refine BoolOp_and (thn (ha pins s σ H _ I h) λv s1 z=>?_)
 obtain⟨x,H1,I1,r1,q1⟩:=z
 obtain⟨c,rfl,q1⟩:=q1
 cases r1
 refine uE ?_
 cases c with
 |true=>exact hb pins s1 σ H1 Q I1 q1
 |false=>exact⟨.bl false,H1,I1,rfl,q1⟩
def jh(ha:PE X a ta)(hb:PE X (.BoolOp .Or (b::rest) pos) tb):PE X (.BoolOp .Or (a::b::rest) pos) (nj ta tb):=by
 intro pins s σ H Q I h
 refine BoolOp_or (thn (ha pins s σ H _ I h) λv s1 z=>?_)
 obtain⟨x,H1,I1,r1,q1⟩:=z
 obtain⟨c,rfl,q1⟩:=q1
 cases r1
 refine uE ?_
 cases c with
 |false=>exact hb pins s1 σ H1 Q I1 q1
 |true=>exact⟨.bl true,H1,I1,rfl,q1⟩
def fF(ha:PE X a ta):PE X (.UnaryOp .Not a pos) (kH ta):=by
 intro pins s σ H Q I h
 refine UnaryOp_ (thn (ha pins s σ H _ I h) λv s1 z=>?_)
 obtain⟨x,H1,I1,r1,q1⟩:=z
 obtain⟨c,rfl,q1⟩:=q1
 cases r1
 exact not_of (uE ⟨.bl (!c),H1,I1,rfl,q1⟩)
noncomputable def tIf(t:TT)(ta tb:TE):TE:=λσ H Q=>t σ H λc H1=>if c=true then ta σ H1 Q else tb σ H1 Q
def Wz{c:sG}(hc:PT X c tA)(ha:PE X a ta)(hb:PE X b tb):PE X (.IfExp c a b pos) (tIf tA ta tb):=by
 intro pins s σ H Q I h
 refine wpAny_IfExp (thn (hc pins s σ H _ I h) λd s1 ⟨H1,I1,q1⟩=>?_)
 cases d with
 |true=>exact ha pins s1 σ H1 Q I1 q1
 |false=>exact hb pins s1 σ H1 Q I1 q1
end
end L2
namespace L2
open PySem PySem.Spec PyProof.Rows
def SqL(K:W1)(H:Hp)(a:qg)(xs:Wp V):Prop:=
 Rd H a (.lst xs)∨
  ∃(o:Obj) (its:wL qX) (n:Nat),K.lookup a=Gc o/\o.cls=.type "list" /\o.dict=none/\o.data=.seq its n/\its.size<=sizeLine/\Vals xs its.toList
def SqT(K:W1)(H:Hp)(a:qg)(xs:Wp V):Prop:=
 Rd H a (.tup xs)∨
  ∃(o:Obj) (its:wL qX) (n:Nat),K.lookup a=Gc o/\o.cls=.type "tuple" /\o.data=.seq its n/\its.size<=sizeLine/\Vals xs its.toList
noncomputable def pE:qX->qR V
 | .none=>Gc .non
 | .bool b=>Gc (.bl b)
 | .int i _=>Gc (.int i)
 | .str x _=>Gc (.str x)
 | .bytes b _=>Gc (.byt b)
 | .float b _=>Gc (.flt b)
 | .ref a=>Gc (.ref a)
 | .type n=>Gc (.ty n)
 |_=>none
def RelV.abs{x:V}{u:qX}(r:RelV x u):pE u=Gc x:=by
 cases x with
 |non=>cases r;rfl
 |bl _=>cases r;rfl
 |int _=>obtain⟨t,rfl⟩:=r;rfl
 |str _=>obtain⟨t,rfl⟩:=r;rfl
 |byt _=>obtain⟨t,rfl⟩:=r;rfl
 |flt _=>obtain⟨t,rfl⟩:=r;rfl
 |ref _=>cases r;rfl
 |ty _=>cases r;rfl
def RelV.inj{x y:V}{u:qX}(r:RelV x u)(q:RelV y u):x=y:=tH (r.abs.symm.trans q.abs)
theorem Vals.inj:∀{xs ys:Wp V} {us:Wp qX},Vals xs us->Vals ys us->xs=ys
 |_,_,_,.nil,.nil=>rfl
 |_,_,_,.cons r t,.cons r' t'=>by rw[r.inj r',Vals.inj t t']
section
variable{X:Cx}{pins:Wp (qg×Obj)}{σ:St}{H:Hp}{s:qj}{a:qg}{xs ys:Wp V}
def SqL.of{K:W1}(h:H a=Gc (.lst xs)):SqL K H a xs:=.inl (.inl h)
def SqT.of{K:W1}(h:H a=Gc (.tup xs)):SqT K H a xs:=.inl (.inl h)
def Inv.list(I:Inv X pins σ H s)(h:SqL X.K H a xs):∃its:Wp qX,Vals xs its/\PlainL s.heap a its.toArray/\xs.length<=sizeLine:=by
 rcases h with h|⟨o,its,n,hk,hc,hd,hs,hz,r⟩
 .obtain⟨z,its,n,r,e⟩:=h.ok I.hok
  exact⟨its,r,⟨_,n,e,rfl,rfl,rfl⟩,z⟩
 .refine⟨its.toList,r,⟨o,n,I.kIn a o hk,hc,hd,by simpa using hs⟩,?_⟩
  have e:=r.length
  simp only[wm]at e
  lia
def Inv.tuple(I:Inv X pins σ H s)(h:SqT X.K H a xs):∃its:Wp qX,Vals xs its/\IsTup s.heap a its.toArray/\xs.length<=sizeLine:=by
 rcases h with h|⟨o,its,n,hk,hc,hs,hz,r⟩
 .obtain⟨z,its,r,p⟩:=h.ok I.hok
  exact⟨its,r,p,z⟩
 .refine⟨its.toList,r,⟨o,I.kIn a o hk,hc,n,by simpa using hs⟩,?_⟩
  have e:=r.length
  simp only[wm]at e
  lia
def Inv.Qy(I:Inv X pins σ H s)(h:SqL X.K H a xs)(h':SqL X.K H a ys):xs=ys:=by
 obtain⟨its,r,⟨o,n,e,_,_,d⟩,_⟩:=I.list h
 obtain⟨its',r',⟨o',n',e',_,_,d'⟩,_⟩:=I.list h'
 rw[e]at e';cases e'
 rw[d]at d'
 injection d' with d1 _
 have:its=its':=by simpa using congrArg Array.toList d1
 subst this
 exact r.inj r'
def Inv.Ow(I:Inv X pins σ H s)(h:SqT X.K H a xs)(h':SqT X.K H a ys):xs=ys:=by
 obtain⟨its,r,⟨o,e,_,n,d⟩,_⟩:=I.tuple h
 obtain⟨its',r',⟨o',e',_,n',d'⟩,_⟩:=I.tuple h'
 rw[e]at e';cases e'
 rw[d]at d'
 injection d' with d1 _
 have:its=its':=by simpa using congrArg Array.toList d1
 subst this
 exact r.inj r'
end
abbrev Cx.SI(X:Cx)(E:qX->qj->Prop):Cx:={X with xe:=E}
abbrev Cx.nox(X:Cx):Cx:=X.SI λ_ _=>tN
def Cx.Ok.SI{X:Cx}(ok:X.Ok)(E:qX->qj->Prop):(X.SI E).Ok:=
 ⟨ok.mod,ok.kind,ok.glob,ok.blt,ok.above,ok.inj,ok.has,ok.cab,ok.hd,ok.frames,ok.stk,ok.exf,ok.bs,ok.bsz,ok.X7,ok.aP,ok.P4,ok.frf⟩
def Cx.Ok.KZ{X:Cx}{E:qX->qj->Prop}(ok:(X.SI E).Ok):X.Ok:=
 ⟨ok.mod,ok.kind,ok.glob,ok.blt,ok.above,ok.inj,ok.has,ok.cab,ok.hd,ok.frames,ok.stk,ok.exf,ok.bs,ok.bsz,ok.X7,ok.aP,ok.P4,ok.frf⟩
section
variable{X:Cx}{pins:Wp (qg×Obj)}{σ:St}{H:Hp}{s:qj}{E:qX->qj->Prop}
def Inv.SI(I:Inv X pins σ H s)(E:qX->qj->Prop):Inv (X.SI E) pins σ H s:=⟨I.ok.SI E,I.os,I.bare,I.base,I.loc,I.cell,I.free,I.Jd,I.pin,I.hok,I.len⟩
def Inv.KZ(I:Inv (X.SI E) pins σ H s):Inv X pins σ H s:=⟨I.ok.KZ,I.os,I.bare,I.base,I.loc,I.cell,I.free,I.Jd,I.pin,I.hok,I.len⟩
def SP.KZ{s':qj}(h:SP (X.SI E) pins D f s'):SP X pins D f s':=by
 cases f with
 |next=>obtain⟨σ',H',I,q⟩:=h;exact⟨σ',H',I.KZ,q⟩
 |brk=>obtain⟨σ',H',I,q⟩:=h;exact⟨σ',H',I.KZ,q⟩
 |cont=>obtain⟨σ',H',I,q⟩:=h;exact⟨σ',H',I.KZ,q⟩
 |ret u=>obtain⟨v,σ',H',I,r,q⟩:=h;exact⟨v,σ',H',I.KZ,r,q⟩
def PSs.nox{st:Wp rQ}{t:TS}(h:PSs X.nox st t):PSs X st t:=λpins s σ H D I hw=>
 sZ (h pins s σ H D (I.SI _) hw) (λ_ _ q=>q.KZ) λ_ _ z=>rz z
end
section
variable{X:Cx}{st:rQ}{rest:Wp rQ}{t u:TS}{e:sG}{te:TE}{pos:Pos}
noncomputable def ju:TS:=λD σ H=>D.nx σ H
noncomputable def ou(t u:TS):TS:=λD σ H=>t {D with nx:=u D} σ H
def Zl:PSs X [] ju:=λ_ _ σ H _ I h=>vj ⟨σ,H,I,h⟩
def Qg(h1:PS X st t)(h2:PSs X rest u):PSs X (st::rest) (ou t u):=by
 intro pins s σ H D I h
 refine uu (thn (h1 pins s σ H {D with nx:=u D} I h) λf s1 q=>?_)
 cases f with
 |next=>
  obtain⟨σ',H',I',q⟩:=q
  exact h2 pins s1 σ' H' D I' q
 |ret v=>exact q
 |brk=>exact q
 |cont=>exact q
def OE(h1:PS X st t):PSs X [st] t:=by
 intro pins s σ H D I h
 refine uu (thn (h1 pins s σ H D I h) λf s1 q=>?_)
 cases f with
 |next=>exact vj q
 |ret v=>exact q
 |brk=>exact q
 |cont=>exact q
def Inv.quiet{pins:Wp (qg×Obj)}{σ:St}{s:qj}(I:Inv X pins σ H s):interactive X.env=false:=by simp[interactive,I.ok.kind]
noncomputable def jd(te:TE):TS:=λD σ H=>te σ H λ_ H1=>D.nx σ H1
def Y5(he:PE X e te)(hs:zb (swapsWith e none pos.line X.env=pure false) ww):PS X (.Expr e pos) (jd te):=by
 intro pins s σ H D I h
 exact wpAny_Expr_any (thn (he pins s σ H _ I h) λv s1 ⟨x,H1,I1,r1,q1⟩=>⟨σ,H1,I1,q1⟩) I.quiet hs
noncomputable def pf(te:TE):TS:=λD σ H=>te σ H D.rt
def Vv(he:PE X e te):PS X (.Return (Gc e) pos) (pf te):=by
 intro pins s σ H D I h
 exact xX (thn (he pins s σ H _ I h) λv s1 ⟨x,H1,I1,r1,q1⟩=>⟨x,σ,H1,I1,r1,q1⟩)
noncomputable def nq(c:TT)(t u:TS):TS:=λD σ H=>c σ H λb H1=>if b=true then t D σ H1 else u D σ H1
def jc{tc:TT}(hc:PT X c tc)(ha:PSs X a t)(hb:PSs X b u):PS X (.If c a b pos) (nq tc t u):=by
 intro pins s σ H D I h
 refine wpAny_If (thn (hc pins s σ H _ I h) λd s1 ⟨H1,I1,q1⟩=>?_)
 cases d with
 |true=>exact ha pins s1 σ H1 D I1 q1
 |false=>exact hb pins s1 σ H1 D I1 q1
end
abbrev TG:=V->St->Hp->(St->Hp->Prop)->Prop
abbrev TGs:=Wp V->St->Hp->(St->Hp->Prop)->Prop
def PG(X:Cx)(target:sG)(t:TG):Prop:=
 ∀(pins:Wp (qg×Obj)) (s:qj) (σ:St) (H:Hp) (v:V) (u:qX) (Q:St->Hp->Prop),Inv X pins σ H s->RelV v u->t v σ H Q->
  wpAny (model X.prog X.w) X.A (assign target X.env u) (λ_ s'=>∃σ' H',Inv X pins σ' H' s'/\Q σ' H') X.xe s
def PGs(X:Cx)(ts:Wp sG)(t:TGs):Prop:=
 ∀(pins:Wp (qg×Obj)) (s:qj) (σ:St) (H:Hp) (vs:Wp V) (us:Wp qX) (Q:St->Hp->Prop),Inv X pins σ H s->Vals vs us->t vs σ H Q->
  wpAny (model X.prog X.w) X.A (assignInOrder ((assignEach ts X.env).map (·.2)) us) (λ_ s'=>∃σ' H',Inv X pins σ' H' s'/\Q σ' H') X.xe s
abbrev lC:=V->V->V->Hp->(Hp->Prop)->Prop
def mK(X:Cx)(t:lC):Prop:=
 ∀(pins:Wp (qg×Obj)) (s:qj) (σ:St) (H:Hp) (o i v:V) (ov iv u:qX) (Q:Hp->Prop),Inv X pins σ H s->RelV o ov->RelV i iv->RelV v u->t o i v H Q->
  wpAny (model X.prog X.w) X.A (setItem ov iv u) (λ_ s'=>∃H',Inv X pins σ H' s'/\Q H') X.xe s
section
variable{X:Cx}{pos:Pos}
noncomputable def ZN(i:Nat):TG:=λv σ H Q=>Q (σ.set i (Gc v)) H
def Zp{i:Nat}{x:Str}(hN:X.N.Nodup)(hi:X.N[i]?=Gc x)(hx:Loc X.env.scope x)(hf:zb (X.fn x=true\/X.env.scope.names.lookup x=Gc .local) x0):PG X (.Name x pos) (ZN i):=by
 intro pins s σ H v u Q I r h
 exact zd (K4 I hN hi hx r (λs' I'=>⟨_,H,I',h⟩) hf)
noncomputable def mw:TGs:=λvs σ H Q=>vs=[]/\Q σ H
noncomputable def eS(t:TG)(u:TGs):TGs:=λvs σ H Q=>∃v r,vs=v::r/\t v σ H λσ' H'=>u r σ' H' Q
def Zi:PGs X [] mw:=by
 intro pins s σ H vs us Q I r h
 obtain⟨e,h⟩:=h
 subst e
 cases r
 exact ze ⟨σ,H,I,h⟩
def WZ{u:TGs}(h1:PG X e t)(h2:PGs X es u)(hs:zb ((assignEach (e::es) X.env).map (·.2)=assign e X.env::(assignEach es X.env).map (·.2)) ww):PGs X (e::es) (eS t u):=by
 intro pins s σ H vs us Q I r h
 obtain⟨v,vr,e1,h⟩:=h
 subst e1
 cases r with
 |cons r rr=>
  rw[hs]
  refine xJ (thn (h1 pins s σ H _ _ _ I r h) λ_ s1 z=>?_)
  obtain⟨σ1,H1,I1,q1⟩:=z
  exact h2 pins s1 σ1 H1 _ _ Q I1 rr q1
noncomputable def pG(K:W1)(n:Nat)(t:TGs):TG:=λv σ H Q=>∃a xs,v=.ref a/\SqT K H a xs/\xs.length=n/\t xs σ H Q
def fO{es:Wp sG}{k:Nat}{n:Nat}(hc:X.calm=true)(h:PGs X es t)(hn:zb ((assignEach es X.env).length=n) ww)(hst:zb ((assignEach es X.env).findIdx? (·.1)=none) ww):PG X (.Tuple es k pos) (pG X.K n t):=by
 intro pins s σ H v u Q I r hw
 obtain⟨a,xs,e1,hq,hl,hw⟩:=hw
 subst e1
 cases r
 obtain⟨its,rv,ht,hz⟩:=I.tuple hq
 refine assign_Tuple_tuple (I.ok.hd hc) ht (by simp[hn,<-hl,rv.length]) hst λh' hx=>?_
 have I1:Inv X pins σ H {s with heap:=h'}:=I.kept (t':=s.toks) λb o e=>hx b o (rK (ql e)) e
 exact h pins _ σ H xs _ Q I1 (by simpa using rv) hw
noncomputable def nR(to ti:TE)(t:lC):TG:=λv σ H Q=>to σ H λo H1=>ti σ H1 λi H2=>t o i v H2 λH3=>Q σ H3
def eM {t:lC}(ho:PE X o to)(hi:PE X i ti)(hs:mK X t)(ha:zb (∀v,assign (.Subscript o i pos) X.env v=(do
      let ov ← holding [v] (eval o X.env)
      let iv ← holding [v, ov] (eval i X.env)
      standAt pos
      holding [v, ov, iv] (setItem ov iv v)
      release [v, ov, iv] [])) wv) : PG X (.Subscript o i pos) (nR to ti t) := by
  intro pins s σ H v u Q I r h
  rw [ha]
  refine qP (tw (thn (ho pins s σ H _ I h) fun ov s1 ⟨x, H1, I1, r1, q1⟩ => ?_))
  refine qP (tw (thn (hi pins s1 σ H1 _ I1 q1) fun iv s2 ⟨y, H2, I2, r2, q2⟩ => ?_))
  refine qP (vc (qP (tw (thn (hs pins s2 σ H2 x y v ov iv u _ I2 r1 r2 r q2) fun _ s3 ⟨H3, I3, q3⟩ => ?_))))
  exact wpAny_release ⟨σ, H3, I3, q3⟩
noncomputable def kD(te:TE)(g:TG):TS:=λD σ H=>te σ H λx H1=>g x σ H1 D.nx
def YR{g:TG}(he:PE X e te)(hg:PG X tg g)(hs:zb (swapsWithSole [tg] e pos.line X.env=pure false) ww)(hw:zb (swappedStores [tg] e X.env=pure none) ww)(h1:zb ((assignEach [tg] X.env).map (·.2)=[assign tg X.env]) ww):PS X (.Assign [tg] e pos) (kD te g):=by
 intro pins s σ H D I h
 refine wpAny_Assign_stores (thn (he pins s σ H _ I h) λv s1 z=>?_) hs hw
 obtain⟨x,H1,I1,r1,q1⟩:=z
 rw[h1]
 exact thn (hg pins s1 σ H1 x v _ I1 r1 q1) λ_ s2 q=>q
def Yt(hN:X.N.Nodup)(hi:X.N[i]?=Gc x)(hx:Loc X.env.scope x)(he:PE X e te)(hs:zb (swapsWith e (Gc (.Name x pos')) pos.line X.env=pure false) ww)(hf:zb (X.fn x=true\/X.env.scope.names.lookup x=Gc .local) x0):PS X (.Assign [.Name x pos'] e pos) (kD te (ZN i)):=by
 intro pins s σ H D I h
 refine wpAny_Assign_Name (thn (he pins s σ H _ I h) λv s1 z=>?_) hs
 obtain⟨y,H1,I1,r1,q1⟩:=z
 exact K4 I1 hN hi hx r1 (λs2 I2=>⟨_,H1,I2,q1⟩) hf
noncomputable def nV(i j:Nat)(ta:TA):TS:=λD σ H=>ta σ H λvs H1=>∃v w,vs=[v,w]/\D.nx ((σ.set i (Gc v)).set j (Gc w)) H1
def cn{kt k2 pt2}(hc:X.calm=true)(hN:X.N.Nodup)(hi:X.N[i]?=Gc x)(hj:X.N[j]?=Gc y)(hij:i≠j)(hx:X.env.scope.names.lookup x=Gc .local)(hy:X.env.scope.names.lookup y=Gc .local)(ha:PA X [a,b] ta)(hw:swappedStores [.Tuple [.Name x px,.Name y py] kt pt] (.Tuple [a,b] k2 pt2) X.env=pure (Gc [x,y]))(hs:zb (swapsWithSole [.Tuple [.Name x px,.Name y py] kt pt] (.Tuple [a,b] k2 pt2) pos.line X.env=pure false) ww):PS X (.Assign [.Tuple [.Name x px,.Name y py] kt pt] (.Tuple [a,b] k2 pt2) pos) (nV i j ta):=by
 intro pins s σ H D I h
 rw[exec_Assign_arm]
 refine qP (vc ?_)
 rw[hs]
 refine qP (qm ?_)
 rw[rA (by decide)]
 refine qP (Tuple_ (thn (ha _ pins s σ H _ I h) λus s1 z=>?_))
 obtain⟨vs,H1,I1,r1,q1⟩:=z
 obtain⟨v,w,e1,q1⟩:=q1
 subst e1
 obtain⟨u1,u2,rfl,rv,rw'⟩:∃u1 u2,us=[u1,u2]/\RelV v u1/\RelV w u2:=by
  cases r1 with
  |cons p q=>
   cases q with
   |cons p' q'=>
    cases q'
    exact⟨_,_,rfl,p,p'⟩
 refine uF ?_ (by show 2<=sizeLine;decide)
 have I2:Inv X pins σ H1 {s1 with heap:=s1.heap.push {cls:=.type "tuple",data:=.seq [u1,u2].toArray}}:=I1.kept (t':=s1.toks) λb o e=>qO _ e
 rw[hw]
 refine qP (qm ?_)
 show wpAny (model X.prog X.w) X.A (do rule "assign.swapped-stores"; let items<-unpackItems (.ref s1.heap.objs.size) 2 none;assignInOrder [λv=>bindName X.env y v,λv=>bindName X.env x v] items.reverse;pure Flow.next) _ _ _
 refine qP (yG (qP (unpackItems_tuple (items:= #[u1,u2]) (I.ok.hd hc) (va s1.heap _) λh' hx'=>?_)))
 have I3:=I2.kept (h':=h') (t':=s1.toks) λb o e=>hx' b o (rK (ql e)) e
 show wpAny _ _ (assignInOrder [λv=>bindName X.env y v,λv=>bindName X.env x v] [u2,u1] >>= λ_=>pure Flow.next) _ _ _
 refine qP (xJ (wpAny_bindName (K4 I3 hN hj (.inl hy) rw' (λs2 I4=>?_) (.inr hy))))
 refine xJ (wpAny_bindName (K4 I4 hN hi (.inl hx) rv (λs3 I5=>ze (qm ?_)) (.inr hx)))
 rw[List.set_comm _ _ (se hij)]at I5
 exact⟨_,H1,I5,q1⟩
end
section
variable{X:Cx}{pos:Pos}
noncomputable def di(c:TT)(tb:TS):TS:=λD σ H=>∃W:Nat->St->Hp->Prop,(∃m,W m σ H)/\∀m σ H,W m σ H->
 c σ H λb H1=>if b=true then∃N:St->Hp->Prop,(∀σ' H',N σ' H'->∃m',m'<m/\W m' σ' H')/\tb {D with nx:=N,ct:=N,bk:=D.nx} σ H1 else D.nx σ H1
def WJ{tb:TS}(hp:PassesOwn (model X.prog X.w) X.A X.env X.xe)(hc:PT X c tc)(hb:PSs X body tb):PS X (.While c body [] pos) (di tc tb):=by
 intro pins s σ H D I h
 obtain⟨W,⟨m0,w0⟩,turn⟩:=h
 refine wpAny_While (codeAny_whileLoop (λn s'=>∃σ' H',Inv X pins σ' H' s'/\W n σ' H') ?_ m0 ⟨σ,H,I,w0⟩)
 rintro n s1 ⟨σ1,H1,I1,w1⟩
 refine uf hp (thn (hc pins s1 σ1 H1 _ I1 (turn n σ1 H1 w1)) λb s2 ⟨H2,I2,q2⟩=>?_)
 cases b with
 |true=>
  obtain⟨N,hN,q2⟩:=q2
  rw[rB rfl]
  refine uf hp (thn (hb pins s2 σ1 H2 _ I2 q2) λf s3 q3=>?_)
  cases f with
  |next=>
   obtain⟨σ3,H3,I3,n3⟩:=q3
   obtain⟨m',hm,w3⟩:=hN σ3 H3 n3
   exact⟨m',hm,σ3,H3,I3,w3⟩
  |cont=>
   obtain⟨σ3,H3,I3,n3⟩:=q3
   obtain⟨m',hm,w3⟩:=hN σ3 H3 n3
   exact⟨m',hm,σ3,H3,I3,w3⟩
  |brk=>exact q3
  |ret v=>exact q3
 |false=>
  rw[rA rg]
  exact vj ⟨σ1,H2,I2,q2⟩
end
structure It where
 go:Nat->Hp->Prop
 yld:Nat->Hp->V->Hp->Prop
 stop:Nat->Hp->Prop
def Pu(X:Cx)(pins:Wp (qg×Obj))(H:Hp)(b:qg):Prop:=
 H b=none/\b≠X.env.locals/\b∉X.fs/\(b∈X.ex\/X.s₀.heap.objs.size<=b)/\(∀x c,X.env.cells.lookup x=Gc c->c≠b)/\∀p∈X.pn++pins,p.1≠b
def Inv.ao{pins:Wp (qg×Obj)}{σ:St}{b:qg}(I:Inv X pins σ H s)(hb:s.heap.objs.size<=b)(hn:H' b=none):Pu X pins H' b:=by
 refine⟨hn,wt (qS I.lt hb),I.oq hb,.inr (qU I.sz hb),λx c e z=>?_,λp hp z=>?_⟩
 .obtain⟨v,q⟩:=I.cell x c e
  exact absurd (qS q.lt (by rw[z];exact hb)) (sV _)
 .exact absurd (qS (ql (I.pin p hp).1) (by rw[z];exact hb)) (sV _)
structure Turn(P:sF)(w:tK)(K:W1)(tg:sG)(J:It)(fp:Wp qg)(it:qg)(tn:Nat->sS->Prop):Prop where
 mem:it∈fp
 obj:∀i h,tn i h->∀b∈fp,∃o,h.get? b=Gc o/\∀v,o.data≠.cell v
 keep:∀i h h',tn i h->(∀b∈fp,∀o,h.get? b=Gc o->h'.get? b=Gc o)->tn i h'
 item:∀(X:Cx),X.prog=P->X.w=w->X.K=K->X.calm=true->∀(i:Nat) (pins:Wp (qg×Obj)) (s:qj) (σ:St) (H:Hp) (E:qX->qj->Prop),Inv X pins σ H s->(∀b∈fp,Pu X pins H b)->tn i s.heap->J.go i H->
  wpAny (model P w) X.A (pyNext (.ref it)) (λr s1=>∃u,r=Gc u/\
   wpAny (model P w) X.A (letOwnedTupleGo tg (.ref it) u) (λ_ s2=>∃x H',Inv X pins σ H' s2/\RelV x u/\J.yld i H x H'/\tn (i+1) s2.heap/\∀b∈fp,H' b=none) E s1) E s
 done:∀(X:Cx),X.prog=P->X.w=w->X.K=K->X.calm=true->∀(i:Nat) (pins:Wp (qg×Obj)) (s:qj) (σ:St) (H:Hp) (E:qX->qj->Prop),Inv X pins σ H s->(∀b∈fp,Pu X pins H b)->tn i s.heap->J.stop i H->
  wpAny (model P w) X.A (pyNext (.ref it)) (λr s1=>r=none/\Inv X pins σ H s1) E s
 self:∀(A:uN) (i:Nat) (s:qj) (Q:qX->qj->Prop) (E:qX->qj->Prop),tn i s.heap->Q (.ref it) s->wpAny (model P w) A (pyIter (.ref it)) Q E s
abbrev TI:=St->Hp->(It->Hp->Prop)->Prop
def PIE(X:Cx)(pins:Wp (qg×Obj))(σ:St)(tg:sG)(R:It->Hp->Prop)(itv:qX)(s2:qj):Prop:=
 ∃(it:qg) (fp:Wp qg) (tn:Nat->sS->Prop) (J:It) (H':Hp),itv=.ref it/\Inv X pins σ H' s2/\Turn X.prog X.w X.K tg J fp it tn/\tn 0 s2.heap/\(∀b∈fp,Pu X pins H' b)/\R J H'
def PI(X:Cx)(tg iter:sG)(wi:TI):Prop:=
 ∀(pins:Wp (qg×Obj)) (s:qj) (σ:St) (H:Hp) (R:It->Hp->Prop),Inv X pins σ H s->wi σ H R->
  wpAny (model X.prog X.w) X.A (eval iter X.env) (λv s1=>wpAny (model X.prog X.w) X.A (pyIter v) (PIE X pins σ tg R) X.xe s1) X.xe s
def aX(ho:s.heap.get? it=Gc o)(hc:o.cls=.type n)(hd:o.data=.fields vs)(hn:["enumerate","zip","dict_itemiterator","dict_reverseitemiterator","odict_iterator","itertools.zip_longest","itertools.pairwise"].contains n=false)(hQ:Q () s):wpAny M A (letOwnedTupleGo tg (.ref it) u) Q E s:=by
 unfold letOwnedTupleGo
 cases tg<;>first
  |exact qm hQ
  |(cases u<;>first
     |exact qm hQ
     |(refine qP (wpAny_load ho ?_)
       rw[hc,hd]
       show wpAny M A (if(["enumerate","zip","dict_itemiterator","dict_reverseitemiterator","odict_iterator","itertools.zip_longest","itertools.pairwise"].contains n && vs[0]?==Gc (rawInt _))=true then _ else _) Q E s
       rw[rA (by intro h;rw[hn,Bool.false_and]at h;cases h)]
       exact qm hQ))
noncomputable def Itl(K:W1)(a:qg):It:=
 ⟨λi H=>∃xs x,SqL K H a xs/\xs[i]?=Gc x,λi H x H'=>H'=H/\∀xs,SqL K H a xs->xs[i]?=Gc x,λi H=>∃xs,SqL K H a xs/\xs.length<=i⟩
noncomputable def Itt(K:W1)(a:qg):It:=
 ⟨λi H=>∃xs x,SqT K H a xs/\xs[i]?=Gc x,λi H x H'=>H'=H/\∀xs,SqT K H a xs->xs[i]?=Gc x,λi H=>∃xs,SqT K H a xs/\xs.length<=i⟩
noncomputable def Itr(lo:Int)(n:Nat):It:=⟨λi _=>i<n,λi H x H'=>H'=H/\x=.int (lo+i),λi _=>n<=i⟩
theorem TX{K:W1}(a it:qg):Turn P w K tg (Itl K a) [it] it (λi h=>h.IsListIter it a i) where
 mem:=by simp
 obj:=λi h st b hb=>by
  have e:b=it:=by simpa using hb
  subst e
  obtain⟨o,e,c,d⟩:=st
  exact⟨o,e,λv z=>by rw[d]at z;cases z⟩
 keep:=λi h h' st k=>st.at λo e=>k it (by simp) o e
 item:=by
  intro X hP hw hK hc i pins s σ H E I hf st hg
  subst hP hw hK
  obtain⟨xs,x,hq,hx⟩:=hg
  obtain⟨its,rv,p,hz⟩:=I.list hq
  obtain⟨u,hu,ru⟩:=rv.get hx
  obtain⟨f0,f1,f2,f3,f4,f5⟩:=hf it (by simp)
  refine vz st p.isList (x:=u) (by simpa using hu) λh' st' sb=>?_
  have I1:Inv X pins σ H {s with heap:=h'}:=I.turned (t':=s.toks) (λb o hb e=>(sb.2 b hb).trans e) f0 f1 f3 f4 f5
  obtain⟨o,e,c,d⟩:=id st'
  exact⟨u,rfl,aX (s:={s with heap:=h'}) e c d (by decide) ⟨x,H,I1,ru,⟨rfl,λys hy=>by rw[I.Qy hy hq];exact hx⟩,st',λb hb=>(hf b hb).1⟩⟩
 done:=by
  intro X hP hw hK hc i pins s σ H E I hf st hg
  subst hP hw hK
  obtain⟨xs,hq,hx⟩:=hg
  obtain⟨its,rv,p,hz⟩:=I.list hq
  obtain⟨f0,f1,f2,f3,f4,f5⟩:=hf it (by simp)
  have hl:=rv.length
  exact wM (I.ok.hd hc) st p.isList (by simp;lia) λh' eb=>⟨rfl,I.turned (t':=s.toks) (λb o hb e=>eb b o hb e) f0 f1 f3 f4 f5⟩
 self:=λ_ _ _ _ _ st h=>yf st h
theorem SH{K:W1}(a it:qg):Turn P w K tg (Itt K a) [it] it (λi h=>h.IsTupleIter it a i) where
 mem:=by simp
 obj:=λi h st b hb=>by
  have e:b=it:=by simpa using hb
  subst e
  obtain⟨o,e,c,d⟩:=st
  exact⟨o,e,λv z=>by rw[d]at z;cases z⟩
 keep:=λi h h' st k=>st.at λo e=>k it (by simp) o e
 item:=by
  intro X hP hw hK hc i pins s σ H E I hf st hg
  subst hP hw hK
  obtain⟨xs,x,hq,hx⟩:=hg
  obtain⟨its,rv,p,hz⟩:=I.tuple hq
  obtain⟨u,hu,ru⟩:=rv.get hx
  obtain⟨f0,f1,f2,f3,f4,f5⟩:=hf it (by simp)
  refine wpAny_pyNext_tuple_item st (show s.heap.IsTuple a its.toArray from p) (x:=u) (by simpa using hu) λh' st' sb=>?_
  have I1:Inv X pins σ H {s with heap:=h'}:=I.turned (t':=s.toks) (λb o hb e=>(sb.2 b hb).trans e) f0 f1 f3 f4 f5
  obtain⟨o,e,c,d⟩:=id st'
  exact⟨u,rfl,aX (s:={s with heap:=h'}) e c d (by decide) ⟨x,H,I1,ru,⟨rfl,λys hy=>by rw[I.Ow hy hq];exact hx⟩,st',λb hb=>(hf b hb).1⟩⟩
 done:=by
  intro X hP hw hK hc i pins s σ H E I hf st hg
  subst hP hw hK
  obtain⟨xs,hq,hx⟩:=hg
  obtain⟨its,rv,p,hz⟩:=I.tuple hq
  obtain⟨f0,f1,f2,f3,f4,f5⟩:=hf it (by simp)
  have hl:=rv.length
  exact wpAny_pyNext_tuple_end (I.ok.hd hc) st (show s.heap.IsTuple a its.toArray from p) (by simp;lia) λh' eb=>⟨rfl,I.turned (t':=s.toks) (λb o hb e=>eb b o hb e) f0 f1 f3 f4 f5⟩
 self:=λ_ _ _ _ _ st h=>wpAny_pyIter_tupleiter st h
theorem R5{K:W1} it lo n:Turn P w K tg (Itr lo n) [it] it (λi h=>IsRangeIter h it (lo+(i:Nat)*1) ((n:Int)-(i:Nat)) 1) where
 mem:=by simp
 obj:=λi h st b hb=>by
  have e:b=it:=by simpa using hb
  subst e
  exact⟨_,st,λv z=>by
   have z':Data.fields _=Data.cell v:=z
   cases z'⟩
 keep:=λi h h' st k=>k it (by simp) _ st
 item:=by
  intro X hP hw hK hc i pins s σ H E I hf st hg
  subst hP hw hK
  obtain⟨f0,f1,f2,f3,f4,f5⟩:=hf it (by simp)
  have W:=Walks.range (prog:=X.prog) (w:=X.w) (I.ok.hd hc) it lo 1 n
  refine W.item i s _ _ hg st λv h' tk hv st' kk=>?_
  obtain⟨t,rfl⟩:=hv
  have I1:Inv X pins σ H {s with heap:=h',toks:=tk}:=I.turned (λb o hb e=>kk b o (by simpa using hb) e) f0 f1 f3 f4 f5
  refine⟨_,rfl,aX (s:={s with heap:=h',toks:=tk}) (n:="range_iterator") st' rfl rfl (by decide) ⟨.int (lo+i),H,I1,⟨t,?_⟩,⟨rfl,rfl⟩,st',λb hb=>(hf b hb).1⟩⟩
  rw[Int.mul_one]
 done:=by
  intro X hP hw hK hc i pins s σ H E I hf st hg
  subst hP hw hK
  obtain⟨f0,f1,f2,f3,f4,f5⟩:=hf it (by simp)
  exact wpAny_pyNext_range_end (I.ok.hd hc) st (by have:n<=i:=hg;lia) λh' eb=>⟨rfl,I.turned (t':=s.toks) (λb o hb e=>eb b o hb e) f0 f1 f3 f4 f5⟩
 self:=λ_ _ _ _ _ st h=>wpAny_pyIter_rangeiter st h
end L2
namespace L2
open PySem PySem.Spec PyProof.Rows
section
variable{X:Cx}{tg:sG}
def Xl{σ:St}{lo hi:Int}(I:Inv X pins σ H s)(h1: -(2^62)<=lo)(h2:lo<2^62)(h3: -(2^62)<=hi)(h4:hi<2^62)(q:R (Itr lo (hi-lo).toNat) H):wpAny (model X.prog X.w) X.A (pyIter (.ref s.heap.objs.size)) (PIE X pins σ tg R) E {s with heap:=s.heap.push {cls:=.type "range",data:=.fields #[.int lo t,.int hi u,.int 1 v]},toks:=tk}:=by
 refine wpAny_pyIter_range (IsRange.new ..) (small_one h1 h2 h3 h4) ?_
 have I1:Inv X pins σ H {s with heap:=s.heap.push {cls:=.type "range",data:=.fields #[.int lo t,.int hi u,.int 1 v]},toks:=tk}:=I.kept λb o e=>qO _ e
 refine⟨(s.heap.push {cls:=.type "range",data:=.fields #[.int lo t,.int hi u,.int 1 v]}).objs.size,[(s.heap.push {cls:=.type "range",data:=.fields #[.int lo t,.int hi u,.int 1 v]}).objs.size],_,_,H,rfl,
  I1.kept (t':=tk) λb o e=>qO _ e,R5 _ lo (hi-lo).toNat,?_,λb hb=>?_,q⟩
 .have e1:lo+((0:Nat):Int)*1=lo:=by simp
  have e2:(((hi-lo).toNat:Nat):Int)-((0:Nat):Int)=Builtin.Range.rangeSize lo hi 1:=by rw[rangeSize_one];split<;>lia
  show IsRangeIter _ _ (lo+((0:Nat):Int)*1) ((((hi-lo).toNat:Nat):Int)-((0:Nat):Int)) 1
  rw[e1,e2]
  exact qt _ rfl
 .have e:b=(s.heap.push {cls:=.type "range",data:=.fields #[.int lo t,.int hi u,.int 1 v]}).objs.size:=by simpa using hb
  subst e
  exact I1.ao (qW _) (I1.hok.fresh (qW _))
noncomputable def kS(ta:TA):TI:=λσ H R=>ta σ H λvs H1=>∃j:Int,vs=[.int j]/\ -(2^62)<=j/\j<2^62/\R (Itr 0 j.toNat) H1
def UR{p pos:Pos}(hg:Gl X "range")(hm:X.mg "range"=none)(ha:PA X [a] ta)(hs:zb (qc [a] X.env=[(false,eval a X.env)]) ww):PI X tg (.Call (.Name "range" p) [a] [] pos) (kS ta):=by
 intro pins s σ H R I h
 refine Call_ (M9 I hg hm boot_range (vH (thn (ha pos pins s σ H _ I h) λus s1 z=>?_) hs rfl))
 obtain⟨vs,H1,I1,r1,q1⟩:=z
 obtain⟨j,e,q1,q2,q⟩:=q1
 subst e
 cases r1 with
 |cons r rr=>
  cases rr
  obtain⟨t,rfl⟩:=r
  exact call_range_1 (Xl I1 (by lia) (by lia) q1 q2 (by simpa using q))
noncomputable def oM(wi:TI)(g:TG)(tb:TS):TS:=λD σ H=>wi σ H λJ H1=>∃W:Nat->Nat->St->Hp->Prop,(∃m,W 0 m σ H1)/\∀i m σ H,W i m σ H->
 (J.stop i H/\D.nx σ H)\/(J.go i H/\∃N:St->Hp->Prop,(∀σ' H',N σ' H'->∃m',m'<m/\W (i+1) m' σ' H')/\∀x H',J.yld i H x H'->g x σ H' λσ2 H2=>tb {D with nx:=N,ct:=N,bk:=D.nx} σ2 H2)
noncomputable def OS(fp:Wp qg)(h:sS):Wp (qg×Obj):=fp.filterMap λb=>(h.get? b).map λo=>(b,o)
def Ho{o:Obj}(hb:b∈fp)(e:h.get? b=Gc o):(b,o)∈OS fp h:=zN.mpr ⟨b,hb,by rw[e];rfl⟩
def T6{p:qg×Obj}(hp:p∈OS fp h):p.1∈fp/\h.get? p.1=Gc p.2:=by
 obtain⟨b,hb,e⟩:=zN.mp hp
 cases q:h.get? b with
 |none=>rw[q]at e;cases e
 |some o=>
  rw[q]at e
  have e':(b,o)=p:=tH e
  subst e'
  exact⟨hb,q⟩
def Inv.pinned{σ:St}(I:Inv X pins σ H s)(hf:∀b∈fp,Pu X pins H b)(ho:∀b∈fp,∃o,s.heap.get? b=Gc o/\∀v,o.data≠.cell v):Inv X (pins++OS fp s.heap) σ H s:=
 I.Vg λp hp=>(rE.mp hp).elim (λz=>I.pin p (rf _ z)) λz=>by
  obtain⟨hb,e⟩:=T6 z
  obtain⟨f0,f1,f2,_⟩:=hf p.1 hb
  obtain⟨o,e',d⟩:=ho p.1 hb
  rw[e]at e';cases e'
  exact⟨e,f0,f1,f2,d⟩
def Inv.Kq{pins pl:Wp (qg×Obj)}{σ:St}{s:qj}(I:Inv X (pins++pl) σ H s):Inv X pins σ H s:=I.Vg λp hp=>I.pin p (rf _ (wW _ hp))
def eR(hp:PassesOwn (model X.prog X.w) X.A X.env X.xe)(hc:X.calm=true)(hi:PI X tg iter wi)(hg:PG X tg g)(hb:PSs X body tb)(hs:zb (∀x,foldedSetIterable iter X.env x=pure x) xL):PS X (.For tg iter body [] pos) (oM wi g tb):=by
 intro pins s σ H D I h
 refine wpAny_For (thn (hi pins s σ H _ I h) λv s1 h1=>thn h1 λitv s2 h2=>?_) hs
 obtain⟨it,fp,tn,J,H2,e,I2,T,st2,f2,W,⟨m0,w0⟩,turn⟩:=h2
 subst e
 have stat:∀{H':Hp},(∀b∈fp,H' b=none)->∀b∈fp,Pu X pins H' b:=λhn b hb=>⟨hn b hb,(f2 b hb).2⟩
 refine codeAny_forLoop_any (λn s'=>∃i σ' H',Inv X pins σ' H' s'/\tn i s'.heap/\(∀b∈fp,H' b=none)/\W i n σ' H') ?_ m0 ⟨0,σ,H2,I2,st2,λb hb=>(f2 b hb).1,w0⟩
 rintro n s3 ⟨i,σ3,H3,I3,st3,fr3,w3⟩
 rcases turn i n σ3 H3 w3 with⟨stop,qn⟩|⟨go,N,hN,step⟩
 .refine uf hp (thn (T.done X rfl rfl rfl hc i pins s3 σ3 H3 X.xe I3 (stat fr3) st3 stop) λr s4 ⟨hr,I4⟩=>?_)
  subst hr
  exact vj ⟨σ3,H3,I4,qn⟩
 .refine uf hp (thn (T.item X rfl rfl rfl hc i pins s3 σ3 H3 X.xe I3 (stat fr3) st3 go) λr s4 ⟨u,hr,h4⟩=>?_)
  subst hr
  refine uf hp (thn h4 λ_ s5 z=>?_)
  obtain⟨x,H5,I5,r5,y5,st5,fr5⟩:=z
  have I5':=I5.pinned (stat fr5) (T.obj _ _ st5)
  refine uf hp (thn (hg _ s5 σ3 H5 x u _ I5' r5 (step x H5 y5)) λ_ s6 z=>?_)
  obtain⟨σ6,H6,I6,q6⟩:=z
  refine uf hp (thn (hb _ s6 σ6 H6 _ I6 q6) λf s7 q7=>?_)
  have again:∀{σ7:St} {H7:Hp},Inv X (pins++OS fp s5.heap) σ7 H7 s7->N σ7 H7->∃m,m<n/\∃i σ' H',Inv X pins σ' H' s7/\tn i s7.heap/\(∀b∈fp,H' b=none)/\W i m σ' H':=λ{σ7 H7} I7 n7=>by
   obtain⟨m',hm,w7⟩:=hN σ7 H7 n7
   refine⟨m',hm,i+1,σ7,H7,I7.Kq,T.keep _ _ _ st5 λb hb o e=>(I7.pin (b,o) (rf _ (rf _ (Ho hb e)))).1,λb hb=>?_,w7⟩
   obtain⟨o,e,d⟩:=T.obj _ _ st5 b hb
   exact(I7.pin (b,o) (rf _ (rf _ (Ho hb e)))).2.1
  cases f with
  |next=>obtain⟨σ7,H7,I7,n7⟩:=q7;exact again I7 n7
  |cont=>obtain⟨σ7,H7,I7,n7⟩:=q7;exact again I7 n7
  |brk=>obtain⟨σ7,H7,I7,q7⟩:=q7;exact⟨σ7,H7,I7.Kq,q7⟩
  |ret v=>obtain⟨x7,σ7,H7,I7,r7,q7⟩:=q7;exact⟨x7,σ7,H7,I7.Kq,r7,q7⟩
end
end L2
namespace L2
open PySem PySem.Spec PyProof.Rows
abbrev R2:=V->V->Hp->VK->Prop
def OpR(X:Cx)(f:qX->qX->Sem qX)(r:R2):Prop:=
 ∀(pins:Wp (qg×Obj)) (s:qj) (σ:St) (H:Hp) (x y:V) (v u:qX) (Q:VK),Inv X pins σ H s->RelV x v->RelV y u->r x y H Q->
  wpAny (model X.prog X.w) X.A (f v u) (EP X pins σ Q) X.xe s
def UnR(X:Cx)(f:qX->Sem qX)(r:V->Hp->VK->Prop):Prop:=
 ∀(pins:Wp (qg×Obj)) (s:qj) (σ:St) (H:Hp) (x:V) (v:qX) (Q:VK),Inv X pins σ H s->RelV x v->r x H Q->
  wpAny (model X.prog X.w) X.A (f v) (EP X pins σ Q) X.xe s
def EJ(X:Cx)(f:qX)(r:Wp V->Hp->VK->Prop):Prop:=
 ∀(pins:Wp (qg×Obj)) (s:qj) (σ:St) (H:Hp) (xs:Wp V) (us:Wp qX) (Q:VK),Inv X pins σ H s->Vals xs us->r xs H Q->
  wpAny (model X.prog X.w) X.A (call f us) (EP X pins σ Q) X.xe s
noncomputable def tOp(r:R2)(ta tb:TE):TE:=λσ H Q=>ta σ H λx H1=>tb σ H1 λy H2=>r x y H2 Q
noncomputable def tUn(r:V->Hp->VK->Prop)(ta:TE):TE:=λσ H Q=>ta σ H λx H1=>r x H1 Q
noncomputable def rI(C:Int->Int->Prop)(g:Int->Int->V):R2:=λx y H Q=>∃i j,x=.int i/\y=.int j/\C i j/\Q (g i j) H
noncomputable def rI0(g:Int->Int->V):R2:=λx y H Q=>∃i j,x=.int i/\y=.int j/\Q (g i j) H
def rU(g:Int->V):V->Hp->VK->Prop:=λx H Q=>∃i,x=.int i/\Q (g i) H
section
variable{X:Cx}{a b c:sG}{ta tb tc:TE}{pos:Pos}
def lM(ha:PE X a ta)(hb:PE X b tb){σ:St}{R:V->V->Hp->Prop}(I:Inv X pins σ H s)(h:ta σ H λx H1=>tb σ H1 λy H2=>R x y H2){f:qX->qX->Sem qX}(hf:∀v u s2 x y H2,Inv X pins σ H2 s2->RelV x v->RelV y u->R x y H2->wpAny (model X.prog X.w) X.A (f v u) Q X.xe s2):wpAny (model X.prog X.w) X.A (eval a X.env) (λv s₁=>wpAny (model X.prog X.w) X.A (eval b X.env) (λu s₂=>wpAny (model X.prog X.w) X.A (f v u) Q X.xe s₂) X.xe s₁) X.xe s:=by
 refine thn (ha pins s σ H _ I h) λv s1 z=>?_
 obtain⟨x,H1,I1,r1,q1⟩:=z
 refine thn (hb pins s1 σ H1 _ I1 q1) λu s2 z=>?_
 obtain⟨y,H2,I2,r2,q2⟩:=z
 exact hf v u s2 x y H2 I2 r1 r2 q2
def jj{op:Operator}{r:R2}(ho:OpR X (binaryOp op) r)(ha:PE X a ta)(hb:PE X b tb):PE X (.BinOp a op b pos) (tOp r ta tb):=by
 intro pins s σ H Q I h
 exact wpAny_BinOp (lM ha hb I h λv u s2 x y H2 I2 rx ry q=>ho pins s2 σ H2 x y v u Q I2 rx ry q)
def k6{op:UnaryOp}{r:V->Hp->VK->Prop}(ho:UnR X (unaryOp op) r)(ha:PE X a ta):PE X (.UnaryOp op a pos) (tUn r ta):=by
 intro pins s σ H Q I h
 exact UnaryOp_ (thn (ha pins s σ H _ I h) λv s1 ⟨x,H1,I1,r1,q1⟩=>ho pins s1 σ H1 x v Q I1 r1 q1)
def opI{C:Int->Int->Prop}{g:Int->Int->Int}(rule:∀i j (t u:Tok) s Q E,C i j->Q (.int (g i j) s.toks) {s with toks:=s.toks+1}->wpAny (model X.prog X.w) X.A (f (.int i t) (.int j u)) Q E s):OpR X f (rI C λi j=>.int (g i j)):=by
 intro pins s σ H x y v u Q I rx ry h
 obtain⟨i,j,rfl,rfl,hc,q⟩:=h
 obtain⟨t,rfl⟩:=rx
 obtain⟨t',rfl⟩:=ry
 exact rule i j t t' s _ _ hc ⟨.int (g i j),H,I.tok _,⟨_,rfl⟩,q⟩
def mn{g:Int->Int->Int}(rule:∀i j (t u:Tok) s Q E,Q (.int (g i j) s.toks) {s with toks:=s.toks+1}->wpAny (model X.prog X.w) X.A (f (.int i t) (.int j u)) Q E s):OpR X f (rI0 λi j=>.int (g i j)):=by
 intro pins s σ H x y v u Q I rx ry h
 obtain⟨i,j,rfl,rfl,q⟩:=h
 obtain⟨t,rfl⟩:=rx
 obtain⟨t',rfl⟩:=ry
 exact rule i j t t' s _ _ ⟨.int (g i j),H,I.tok _,⟨_,rfl⟩,q⟩
def iC{g:Int->Int->sD}(rule:∀i j (t u:Tok) s Q E,Q (.bool (g i j)) s->wpAny (model X.prog X.w) X.A (f (.int i t) (.int j u)) Q E s):OpR X f (rI0 λi j=>.bl (g i j)):=by
 intro pins s σ H x y v u Q I rx ry h
 obtain⟨i,j,rfl,rfl,q⟩:=h
 obtain⟨t,rfl⟩:=rx
 obtain⟨t',rfl⟩:=ry
 exact rule i j t t' s _ _ ⟨.bl (g i j),H,I,rfl,q⟩
def oY(i j:Int):Prop:=0<=j/\j<=1000000/\i.natAbs<2^64
def jU(i j:Int):Prop:=(-(2^64)<i/\i<2^64)\/(-(2^64)<j/\j<2^64)
def jU.ok{i j:Int}(h:jU i j):IntMulOk i j:=by
 rcases h with⟨h1,h2⟩|⟨h1,h2⟩
 .exact .of_left (intBits_le_64 h1 h2)
 .exact .of_right (intBits_le_64 h1 h2)
def gJ:OpR X (binaryOp .Add) (rI0 λi j=>.int (i+j)):=mn λ_ _ _ _ _ _ _ q=>add_int q
def fB:OpR X (binaryOp .Sub) (rI0 λi j=>.int (i-j)):=mn λ_ _ _ _ _ _ _ q=>sub_int q
def YJ:OpR X (binaryOp .Mult) (rI jU λi j=>.int (i*j)):=opI λ_ _ _ _ _ _ _ hc q=>mul_int q hc.ok
def gm:OpR X (binaryOp .Mod) (rI (λ_ j=>0<j) λi j=>.int (i % j)):=opI λi j _ _ _ _ _ hc q=>by
 have h1:(0:Int)<j:=hc
 exact mod_int' (by lia) (by rw[Int.fmod_eq_emod_of_nonneg i (by lia)];exact q)
def eX:OpR X (binaryOp .Pow) (rI oY λi j=>.int (i^j.toNat)):=opI λ_ _ _ _ _ _ _ hc q=>pow_int_small hc.1 hc.2.1 hc.2.2 q
def unI{g:Int->Int}(rule:∀i (t:Tok) s Q E,Q (.int (g i) s.toks) {s with toks:=s.toks+1}->wpAny (model X.prog X.w) X.A (f (.int i t)) Q E s):UnR X f (rU λi=>.int (g i)):=by
 intro pins s σ H x v Q I rx h
 obtain⟨i,rfl,q⟩:=h
 obtain⟨t,rfl⟩:=rx
 exact rule i t s _ _ ⟨.int (g i),H,I.tok _,⟨_,rfl⟩,q⟩
def dA:UnR X (unaryOp .USub) (rU λi=>.int (-i)):=unI λ_ _ _ _ _ q=>neg_int q
end
section
variable{X:Cx}{a b c:sG}{ta tb tc:TE}{pos:Pos}
def eJ{σ:St}(I:Inv X pins σ H s)(q:Q (.bl k) H)(e:k=k'):EP X pins σ Q (.bool k') s:=by
 subst e
 exact⟨.bl k,H,I,rfl,q⟩
def jx:OpR X (compareOp .Lt) (rI0 λi j=>.bl (decide (i<j))):=iC λ_ _ _ _ _ _ _ q=>lt_int q
def Y6:OpR X (compareOp .LtE) (rI0 λi j=>.bl (decide (i<=j))):=iC λ_ _ _ _ _ _ _ q=>le_int q
def lD:OpR X (compareOp .Gt) (rI0 λi j=>.bl (decide (j<i))):=iC λ_ _ _ _ _ _ _ q=>gt_int q
def kL:OpR X (compareOp .GtE) (rI0 λi j=>.bl (decide (j<=i))):=iC λ_ _ _ _ _ _ _ q=>ge_int q
def bT:OpR X (compareOp .IsNot) (λx y H Q=>y=.non/\Q (.bl (!decide (x=.non))) H):=by
 intro pins s σ H x y v u Q I rx ry h
 obtain⟨rfl,q⟩:=h
 cases ry
 refine isnot_none_gen (eJ I q ?_)
 cases x<;>first
  |(cases rx;rfl)
  |(obtain⟨t,rfl⟩:=rx;rfl)
def Zz{op:CmpOp}{r:R2}(ho:OpR X (compareOp op) r)(ha:PE X a ta)(hb:PE X b tb)(hm:behindInMarks op b=false):PE X (.Compare a [op] [b] pos) (tOp r ta tb):=by
 intro pins s σ H Q I h
 exact wpAny_Compare1 (lM ha hb I h λv u s2 x y H2 I2 rx ry q=>ho pins s2 σ H2 x y v u Q I2 rx ry q) hm
noncomputable def gZ(t:TE):TT:=λσ H Q=>t σ H λx H'=>∃k,x=.bl k/\Q k H'
def VW{op:CmpOp}{r:R2}(ho:OpR X (compareOp op) r)(ha:PE X a ta)(hb:PE X b tb)(hm:behindInMarks op b=false):PT X (.Compare a [op] [b] pos) (gZ (tOp r ta tb)):=by
 intro pins s σ H Q I h
 refine wpAny_isTrue_Compare1 (thn (ha pins s σ H _ I h) λv s1 ⟨x,H1,I1,r1,q1⟩=>thn (hb pins s1 σ H1 _ I1 q1) λu s2 ⟨y,H2,I2,r2,q2⟩=>
  thn (ho pins s2 σ H2 x y v u _ I2 r1 r2 q2) λc s3 ⟨z,H3,I3,r3,k,e,q3⟩=>?_) hm
 subst e
 cases r3
 exact uE ⟨H3,I3,q3⟩
noncomputable def YT(r r':R2)(ta tb tc:TE):TE:=λσ H Q=>ta σ H λx H1=>tb σ H1 λy H2=>r x y H2 λz H3=>∃k,z=.bl k/\
 (if k=true then tc σ H3 λw' H4=>r' y w' H4 Q else Q (.bl false) H3)
def W8{op op':CmpOp}{r r':R2}(ho:OpR X (compareOp op) r)(ho':OpR X (compareOp op') r')(ha:PE X a ta)(hb:PE X b tb)(hc:PE X c tc)(hm:zb (lastMarks [op,op'] [b,c]=false) wr):PE X (.Compare a [op,op'] [b,c] pos) (YT r r' ta tb tc):=by
 intro pins s σ H Q I h
 refine Compare_chain (thn (ha pins s σ H _ I h) λv s1 ⟨x,H1,I1,r1,q1⟩=>chain_link (thn (hb pins s1 σ H1 _ I1 q1) λu s2 ⟨y,H2,I2,r2,q2⟩=>
  thn (ho pins s2 σ H2 x y v u _ I2 r1 r2 q2) λd s3 ⟨z,H3,I3,r3,k,e,q3⟩=>?_)) hm
 subst e
 cases r3
 refine uE ?_
 cases k with
 |false=>exact ite_ff ⟨.bl false,H3,I3,rfl,q3⟩
 |true=>exact ite_tt (chain_last (thn (hc pins s3 σ H3 _ I3 q3) λw' s4 ⟨z',H4,I4,r4,q4⟩=>ho' pins s4 σ H4 y z' u w' Q I4 r2 r4 q4))
def OQ:(sizeLine:Nat)<2^63:=by rw[sizeLine_eq];decide
def Rl:OpR X (binaryOp .Add) (λx y H Q=>∃i j,x=.str i/\y=.str j/\i.length+j.length<=sizeLine/\Q (.str (i++j)) H):=by
 intro pins s σ H x y v u Q I rx ry h
 obtain⟨i,j,rfl,rfl,hz,q⟩:=h
 obtain⟨t,rfl⟩:=rx
 obtain⟨t',rfl⟩:=ry
 exact add_str (λt' tk=>⟨.str (i++j),H,I.tok _,⟨_,rfl⟩,q⟩) hz
def vals1{x:V}{us:Wp qX}(r:Vals [x] us):∃u,us=[u]/\RelV x u:=by
 cases r with
 |cons r1 r2=>cases r2;exact⟨_,rfl,r1⟩
def vals2{x y:V}{us:Wp qX}(r:Vals [x,y] us):∃u w',us=[u,w']/\RelV x u/\RelV y w':=by
 cases r with
 |cons r1 r2=>
  cases r2 with
  |cons r3 r4=>cases r4;exact⟨_,_,rfl,r1,r3⟩
def Ws:EJ X (.builtin "abs") (λxs H Q=>∃i,xs=[.int i]/\Q (.int (if i<0 then-i else i)) H):=by
 intro pins s σ H xs us Q I r h
 obtain⟨i,rfl,q⟩:=h
 obtain⟨u,rfl,t,rfl⟩:=vals1 r
 exact call_abs_int λu tk=>⟨.int (if i<0 then-i else i),H,I.tok _,⟨_,rfl⟩,q⟩
def VR(hc:X.calm=true):EJ X (.builtin "min") (λxs H Q=>∃i j,xs=[.int i,.int j]/\Q (.int (if j<i then j else i)) H):=by
 intro pins s σ H xs us Q I r h
 obtain⟨i,j,rfl,q⟩:=h
 obtain⟨u,w',rfl,⟨t,rfl⟩,⟨t',rfl⟩⟩:=vals2 r
 refine min_two_ints (I.ok.hd hc) λh' tk k=>⟨_,H,I.kept k,?_,q⟩
 by_cases hj:j<i
 .rw[rB hj,rB hj];exact⟨_,rfl⟩
 .rw[rA hj,rA hj];exact⟨_,rfl⟩
def OV:EJ X (.type "int") (λxs H Q=>(∃i,xs=[.int i]/\Q (.int i) H)\/∃k,xs=[.bl k]/\Q (.int (if k then 1 else 0)) H):=by
 intro pins s σ H xs us Q I r h
 rcases h with⟨i,rfl,q⟩|⟨k,rfl,q⟩
 .obtain⟨u,rfl,t,rfl⟩:=vals1 r
  exact call_int_int ⟨.int i,H,I,⟨_,rfl⟩,q⟩
 .obtain⟨u,rfl,r1⟩:=vals1 r
  cases r1
  exact call_int_bool ⟨.int (if k then 1 else 0),H,I.tok _,⟨_,rfl⟩,q⟩
end
end L2
namespace L2
open PySem PySem.Spec PyProof.Rows
structure aO(h:sS)(x dx C:qg)(mA:Str->qR qX):Prop where
 obj:h.get? x=Gc (uI C dx)
 ns:h.Ns1 dx mA
 ne:dx≠x
def VI{h:sS}{mA:Str->qR qX}(n:h.Ns1 dx mA):∃od,h.get? dx=Gc od/\∀name,xK name od=Gc (mA name):=by
 obtain⟨o,es,ep,ho,hd,hk,_,hm⟩:=n
 refine⟨o,ho,λname=>?_⟩
 have e:=hm name
 unfold nsFind findBy at e
 rw[<-Array.find?_toList]at e
 unfold xK
 rw[hd]
 dsimp only
 split
 .rename_i y q
  rw[q]at e
  exact congrArg Gc e
 .rename_i q
  rw[q]at e
  have a:es.toList.any (·.refKey)=false:=by
   rw[zg]
   intro y hy
   obtain⟨z,t,hkey⟩:=hk y (Array.mem_toList_iff.mp hy)
   simp[DictEntry.refKey,hkey]
  have a':¬es.toList.any (·.refKey)=true:=by rw[a];exact rg
  rw[rA a']
  exact congrArg Gc e
def aO.look{mA:Str->qR qX}(I:aO h x dx C mA):∃od,PySem.W.InstAt h x (uI C dx) C (Gc od)/\∀name,xK name od=Gc (mA name):=
 let⟨od,ho,hl⟩:=VI I.ns
 ⟨od,⟨I.obj,rfl,rfl,ho⟩,hl⟩
section
variable{prog:sF}{w:tK}{A:uN}{E:qX->qj->Prop}{s:qj}{K:W1}{x dx C f:qg}{mA:Str->qR qX}{name:Str}{v:qX}
def get_map{expr:sD}{Q:qX->qj->Prop}(X:K.In s.heap)(I:aO s.heap x dx C mA)(hg:vR K C name=true)(hh:v3 K C=true)(ha:sH K (.ref C) name=Gc none)(hv:mA name=Gc v)(hv':PySem.W.handedIn v=true)(h:Q v {s with toks:=s.toks+1}):wpAny (model prog w) A (getAttr (.ref x) name expr) Q E s:=by
 obtain⟨od,J,hl⟩:=I.look
 exact PySem.W.get_value X J (wq hg).1 (PySem.W.findObj_own hh ha rfl (by rw[hl,hv])) hv' h
def W6{pl:Sem sD}{Q:qX×Wp qX->qj->Prop}(X:K.In s.heap)(I:aO s.heap x dx C mA)(hg:vR K C name=true)(hf:sH K (.ref C) name=Gc (Gc (.ref f)))(ht:wu K (.ref f)=true)(hv:mA name=none)(h:Q (.ref f,[.ref x]) s):wpAny (model prog w) A (getMethod (.ref x) name pl) Q E s:=by
 obtain⟨od,J,hl⟩:=I.look
 exact PySem.W.method_fn X J (wq hg).1 (wq hg).2 hf (uJ.mp ht) (by show(xK name od).map (·.isSome)=Gc false;rw[hl,hv];rfl) h
def aE{ns:Wp Str}{Q:Unit->qj->Prop}(X:K.In s.heap)(I:aO s.heap x dx C mA)(hs:sH K (.ref C) "__setattr__"=Gc (Gc (.builtin "object.__setattr__")))(hp:xY K C=true)(ht:yU K C name=Gc none)(hh:v3 K C=true)(hw:zc mA ns)(hsz:ns.length<=sizeLine)(h:∀h',aO h' x dx C (λy=>if y=name then Gc v else mA y)->vy dx s.heap h'->Q () {s with heap:=h',toks:=s.toks+2}):wpAny (model prog w) A (setAttr (.ref x) name v) Q E s:=by
 obtain⟨od,J,hl⟩:=I.look
 refine PySem.W.set_plain X J hs (PySem.W.osa_open (s:={s with toks:=s.toks+1}) (r:=none) X J hp ht λb=>?_)
 obtain⟨cd,hc,hd'⟩:=PySem.W.any_some hh
 have hx:s.heap.get? x=Gc ⟨.ref C,Gc dx,.plain, #[]⟩:=I.obj
 refine qP (qm (qP (qP (wpAny_loadPart hx (qP (PySem.W.Looks.here (s:={s with toks:=s.toks+1}) (PySem.W.looks_clsIn X hc) ?_))))))
 rw[hd']
 refine qm (a:=Gc dx) (qP (qm (qP ?_)))
 refine wpAny_nsSet1 (s:={s with toks:=s.toks+1}) I.ns λh' hn2 hs2=>?_
 obtain⟨oD,esD,epD,hoD,hdD,hcD⟩:=hn2.count (PySem.Within.cons name v hw)
 refine qP (wpAny_lookBehind hoD (by rw[hdD];exact pastItsLine_dict (qU hcD (by rw[rT];lia))) ?_)
 exact qm (h _ ⟨(hs2.2 _ (se I.ne)).trans I.obj,hn2,I.ne⟩ hs2)
def XY{kw:Wp (Str×qX)}(X:K.In s.heap)(hm:yV K C=true)(hi:sH K (.ref C) "__init__"=Gc (Gc (.ref f)))(hf:PySem.W.typeIn K (.ref f)=Gc (.type "function"))(h:codeAny (model prog w) (A.under (.builtin "type.__call__" ⟨.ref C::vs,kw⟩)) (.call (.ref f) ⟨.ref (s.heap.objs.size+1)::vs,kw⟩) (PySem.W.InitBack (s.heap.objs.size+1) R) {s with heap:=(s.heap.push su).push (uI C s.heap.objs.size)}):codeAny (model prog w) A (.call (.ref C) ⟨vs,kw⟩) R s:=by
 obtain⟨hh,g,d,t,os⟩:=s
 exact PySem.W.make_core (PySem.W.makes_of X hm) (PySem.W.looks_findIn X hi) (λself=>PySem.W.bind_fn X self hf) (.inl rfl) h
end
noncomputable def Mx(f:Str)(v:V):Wp (Str×V)->Wp (Str×V)
 | []=>[(f,v)]
 |(g,x)::r=>if g=f then(g,v)::r else(g,x)::Mx f v r
theorem LN f g(v:V):∀fs,(Mx f v fs).lookup g=if g=f then Gc v else fs.lookup g
 | []=>by
   show tO g [(f,v)]=_
   by_cases h:g=f
   .have hb:(g==f)=true:=uJ.mpr h
    simp only[tO,hb,rB h]
   .have hb:(g==f)=false:=sX.mpr h
    simp only[tO,hb,rA h]
 |(k,x)::r=>by
  have ih:=LN f g v r
  rw[show Mx f v ((k,x)::r)=(if k=f then(k,v)::r else(k,x)::Mx f v r)from rfl]
  by_cases hk:k=f
  .rw[rB hk]
   by_cases h:g=k
   .have hb:(g==k)=true:=uJ.mpr h
    simp only[tO,hb,rB (h.trans hk)]
   .have hb:(g==k)=false:=sX.mpr h
    simp only[tO,hb,rA (λe:g=f=>h (e.trans hk.symm))]
  .rw[rA hk]
   by_cases h:g=k
   .have hb:(g==k)=true:=uJ.mpr h
    simp only[tO,hb,rA (λe:g=f=>hk (h.symm.trans e))]
   .have hb:(g==k)=false:=sX.mpr h
    simp only[tO,hb]
    exact ih
theorem Lr f(v:V):∀fs,f∈(Mx f v fs).map (·.1)/\∀g,g∈fs.map (·.1)->g∈(Mx f v fs).map (·.1)
 | []=>⟨by simp[Mx],λg h=>by simp at h⟩
 |(k,x)::r=>by
  obtain⟨i1,i2⟩:=Lr f v r
  rw[show Mx f v ((k,x)::r)=(if k=f then(k,v)::r else(k,x)::Mx f v r)from rfl]
  by_cases hk:k=f
  .rw[rB hk]
   subst hk
   exact⟨by simp,λg h=>by simpa using h⟩
  .rw[rA hk]
   refine⟨?_,λg h=>?_⟩
   .rw[qq]
    exact qa _ i1
   .rw[qq]at h⊢
    rcases qY.mp h with e|e
    .exact qY.mpr (.inl e)
    .exact qa _ (i2 g e)
theorem LP f(v:V):∀fs,(Mx f v fs).length<=fs.length+1
 | []=>by simp[Mx]
 |(k,x)::r=>by
  have ih:=LP f v r
  rw[show Mx f v ((k,x)::r)=(if k=f then(k,v)::r else(k,x)::Mx f v r)from rfl]
  by_cases hk:k=f
  .rw[rB hk,rT,rT];lia
  .rw[rA hk,rT,rT];lia
def QH.some_of{v:V}{o:qR qX}(r:QH (Gc v) o):∃u,o=Gc u/\RelV v u:=by
 cases o with
 |none=>exact(show tN from r).elim
 |some u=>exact⟨u,rfl,r⟩
def QH.none_of{o:qR qX}(r:QH none o):o=none:=by
 cases o with
 |none=>rfl
 |some u=>exact(show tN from r).elim
def Ti{v:V}{u:qX}(r:RelV v u):PySem.W.handedIn u=true:=by
 cases v with
 |non=>cases (show u=rJ from r);rfl
 |bl b=>cases (show u=xF b from r);rfl
 |int i=>obtain⟨t,e⟩:=(show∃t,u=xD i t from r);cases e;rfl
 |str x=>obtain⟨t,e⟩:=(show∃t,u=xE x t from r);cases e;rfl
 |byt b=>obtain⟨t,e⟩:=(show∃t,u=Value.bytes b t from r);cases e;rfl
 |flt b=>obtain⟨t,e⟩:=(show∃t,u=Value.float b t from r);cases e;rfl
 |ref a=>cases (show u=q9 a from r);rfl
 |ty n=>cases (show u=xG n from r);rfl
section
variable{P:sF}{w:tK}{H H':Hp}{h h':sS}{a C dx:qg}{fs fs':Wp (Str×V)}
def N6(hok:HOk P w H h)(e:H a=Gc (.ins C dx fs)):∃mA,aO h a dx C mA/\(∀f,QH (fs.lookup f) (mA f))/\zc mA (fs.map (·.1))/\fs.length<=1000/\H dx=Gc (.own a):=by
 obtain⟨d,z,ne,ob,mA,n,r,q⟩:=(show Ds P w H h a (.ins C dx fs)from hok a _ e)
 exact⟨mA,⟨ob,n,ne⟩,r,q,z,d⟩
end
structure Cls(K:W1)(C:qg):Prop where
 pg:vR K C Str.empty=true
 hd:v3 K C=true
 po:xY K C=true
 sa:sH K (.ref C) "__setattr__"=Gc (Gc (.builtin "object.__setattr__"))
def Cls.get{K:W1}(c:Cls K C)(f:Str):vR K C f=true:=c.pg
def Hk(K:W1)(C:qg)(f:Str):Prop:=sH K (.ref C) f=Gc none
def Hk.lH{K:W1}{f:Str}(n:Hk K C f):yU K C f=Gc none:=by
 unfold yU
 rw[show sH K (.ref C) f=Gc none from n]
 rfl
structure Con(K:W1)(C:qg)(f:Str)(v:V)(u:qX):Prop where
 at_:sH K (.ref C) f=Gc (Gc u)
 rel:RelV v u
 get:zh K u "__get__"=Gc none
 cp:PySem.W.copiedNames.contains f=false
structure Meth(K:W1)(C:qg)(m:Str)(f:qg):Prop where
 at_:sH K (.ref C) m=Gc (Gc (.ref f))
 fn:wu K (.ref f)=true
 kp:sL K (.ref f)=true
section
variable{X:Cx}{pins:Wp (qg×Obj)}{σ:St}{H:Hp}{s:qj}{a C dx:qg}{fs:Wp (Str×V)}{f:Str}{v:V}{A:uN}{E:qX->qj->Prop}
def SA{b:sD}{Q:qX->qj->Prop}(I:Inv X pins σ H s)(e:H a=Gc (.ins C dx fs))(c:Cls X.K C)(n:Hk X.K C f)(l:fs.lookup f=Gc v)(h:∀u s',Inv X pins σ H s'->RelV v u->Q u s'):wpAny (model X.prog X.w) A (getAttr (.ref a) f b) Q E s:=by
 obtain⟨mA,O,r,_,_,_⟩:=N6 I.hok e
 obtain⟨u,hu,ru⟩:=QH.some_of (v:=v) (o:=mA f) (by rw[<-l];exact r f)
 exact get_map I.kIn O (c.get f) c.hd n hu (Ti ru) (h u _ (I.tok _) ru)
def F9{Q:qX×Wp qX->qj->Prop}(I:Inv X pins σ H s)(e:H a=Gc (.ins C dx fs))(c:Cls X.K C)(k:Meth X.K C m g)(l:fs.lookup m=none)(h:Q (.ref g,[.ref a]) s):wpAny (model X.prog X.w) A (getMethod (.ref a) m pl) Q E s:=by
 obtain⟨mA,O,r,_,_,_⟩:=N6 I.hok e
 have hn:mA m=none:=QH.none_of (by rw[<-l];exact r m)
 exact W6 I.kIn O (c.get m) k.at_ k.fn hn h
def Rw{Q:Unit->qj->Prop}(I:Inv X pins σ H s)(e:H a=Gc (.ins C dx fs))(c:Cls X.K C)(n:Hk X.K C f)(hl:fs.length<1000)(ry:RelV y u)(h:∀s',Inv X pins σ (upd H a (.ins C dx (Mx f y fs))) s'->Q () s'):wpAny (model X.prog X.w) A (setAttr (.ref a) f u) Q E s:=by
 obtain⟨mA,O,r,wi,_,ho⟩:=N6 I.hok e
 have hz:(fs.map (·.1)).length<=sizeLine:=by rw[rG,sizeLine_eq];lia
 refine aE I.kIn O c.sa c.po n.lH c.hd wi hz λh' O' sb=>h _ ?_
 have hd:∃o,h'.get? dx=Gc o:=let⟨o,_,_,e',_⟩:=O'.ns;⟨o,e'⟩
 refine I.write (x:=a) (e:=dx) (by rw[e];exact vn) (.inr ho) (λb q hb z=>(sb.2 b hb).trans z) hd ?_
 refine⟨by rw[Ae O.ne];exact ho,?_,O.ne,O'.obj,_,O'.ns,λg=>?_,λg hg=>?_⟩
 .have:=LP f y fs;lia
 .show QH ((Mx f y fs).lookup g) (if g=f then Gc u else mA g)
  rw[LN]
  by_cases q:g=f
  .rw[rB q,rB q];exact ry
  .rw[rA q,rA q];exact r g
 .by_cases q:g=f
  .rw[q];exact(Lr f y fs).1
  .refine(Lr f y fs).2 g (wi g λz=>hg ?_)
   show(if g=f then Gc u else mA g)=none
   rw[rA q];exact z
def Inv.made(I:Inv X pins σ H s):Inv X pins σ (upd (upd H s.heap.objs.size (.own (s.heap.objs.size+1))) (s.heap.objs.size+1) (.ins C s.heap.objs.size [])) {s with heap:=(s.heap.push su).push (uI C s.heap.objs.size)}:=by
 have e1:(s.heap.push su).get? s.heap.objs.size=Gc su:=qt s.heap rfl
 have e2:((s.heap.push su).push (uI C s.heap.objs.size)).get? (s.heap.objs.size+1)=Gc (uI C s.heap.objs.size):=by
  have:=qt (s.heap.push su) (o:=uI C s.heap.objs.size) rfl
  rwa [sT]at this
 have e3:(s.heap.push su).Ns s.heap.objs.size (λ_=>none):=⟨su, #[],_,e1,rfl,(λe he=>absurd he (by simp)),λ_=>rfl⟩
 have I1:=I.laid (a:=s.heap.objs.size) (o:=.own (s.heap.objs.size+1)) (h':=s.heap.push su) (t':=s.toks) (λb u q=>qO _ q) (qW _) ⟨_,e1⟩
 refine I1.laid (a:=s.heap.objs.size+1) (o:=.ins C s.heap.objs.size []) (t':=s.toks) (λb u q=>qO _ q) (zk (sT _ _)) ?_
 have ne:s.heap.objs.size≠s.heap.objs.size+1:=rK (xv _)
 refine⟨by rw[Ae ne,Ax],tP _,ne,e2,λ_=>none,(Heap.Ns1.of_empty e3).at λo q=>qO _ q,λ_=>vn,λy hy=>absurd rfl hy⟩
def bQ(hb:attributeBase e f env (eval e env)=eval e env)(h:wpAny (model prog w) A (eval e env) (λo s₁=>wpAny (model prog w) A (getAttr o f true) Q E s₁) E s):wpAny (model prog w) A (eval (.Attribute e f pos) env) Q E s:=
 Attribute_any_ h (by rw[arm_eval_Attribute,hb])
end
noncomputable def oK(K:W1)(ta:TE)(f:Str):TE:=λσ H Q=>ta σ H λx H1=>∃a C dx fs v,x=.ref a/\H1 a=Gc (.ins C dx fs)/\Cls K C/\Hk K C f/\fs.lookup f=Gc v/\Q v H1
noncomputable def pJ(K:W1)(ta tv:TE)(f:Str):TS:=λD σ H=>tv σ H λy H1=>ta σ H1 λx H2=>∃a C dx fs,x=.ref a/\H2 a=Gc (.ins C dx fs)/\Cls K C/\Hk K C f/\fs.length<1000/\
 D.nx σ (upd H2 a (.ins C dx (Mx f y fs)))
section
variable{X:Cx}{o e value:sG}{f:Str}{pos pos' tpos:Pos}{ta tv:TE}
def fW(he:PE X e ta)(hb:attributeBase e f X.env (eval e X.env)=eval e X.env):PE X (.Attribute e f pos) (oK X.K ta f):=by
 intro pins s σ H Q I h
 refine bQ hb (thn (he pins s σ H _ I h) λu s1 z=>?_)
 obtain⟨x,H1,I1,rx,a,C,dx,fs,v,ex,ea,c,n,l,q⟩:=z
 subst ex
 obtain rfl:u=q9 a:=rx
 exact SA I1 ea c n l λu' s2 I2 ru=>⟨v,H1,I2,ru,q⟩
def gF(ha:PE X o ta)(hv:PE X value tv)(hs:swapsWith value (Gc (.Attribute o f pos')) pos.line X.env=pure false):PS X (.Assign [.Attribute o f pos'] value pos) (pJ X.K ta tv f):=by
 intro pins s σ H D I h
 refine plainObj_wpAny_Assign_Attribute (thn (hv pins s σ H _ I h) λu s1 ⟨y,H1,I1,ry,q⟩=>thn (ha pins s1 σ H1 _ I1 q) λov s2 z=>?_) hs
 obtain⟨x,H2,I2,rx,a,C,dx,fs,ex,ea,c,n,l,q2⟩:=z
 subst ex
 obtain rfl:ov=q9 a:=rx
 exact Rw I2 ea c n l ry λs3 I3=>⟨σ,_,I3,q2⟩
end
section
variable{X:Cx}{pins:Wp (qg×Obj)}{σ:St}{H:Hp}{s:qj}{A:uN}{E:qX->qj->Prop}{Q:qX->qj->Prop}{c:qX}{b:sD}
inductive SR(K:W1)(H:Hp):V->qX->Prop where
 |non:SR K H .non (.type "NoneType")
 |bl (x:sD):SR K H (.bl x) (.type "bool")
 |int (i:Int):SR K H (.int i) (.type "int")
 |str (x:Str):SR K H (.str x) (.type "str")
 |flt (x:UInt64):SR K H (.flt x) (.type "float")
 |lst {a:qg} {xs:Wp V} (e:H a=Gc (.lst xs)):SR K H (.ref a) (.type "list")
 |frz {a:qg} {o:Obj} {xs:Wp V} (e:H a=Gc (.frz o (.lst xs))):SR K H (.ref a) (.type "list")
 |tup {a:qg} {xs:Wp V} (e:H a=Gc (.tup xs)):SR K H (.ref a) (.type "tuple")
 |dK {a:qg} {kvs:Wp (Key×V)} (e:H a=Gc (.dK kvs)):SR K H (.ref a) (.type "dict")
 |dT {a:qg} {kvs:Wp (Wp Key×V)} (e:H a=Gc (.dT kvs)):SR K H (.ref a) (.type "dict")
 |ins {a C dx:qg} {fs:Wp (Str×V)} (e:H a=Gc (.ins C dx fs)) (cl:Cls K C) (ha:sH K (.ref C) "__class__"=Gc (Gc (.builtin "object.__class__")))
   (hn:zh K (.builtin "object.__class__") "__get__"=Gc (Gc (.builtin "getset_descriptor.__get__"))) (htk:PySem.W.takesIn K (.builtin "object.__class__")=Gc true)
   (hm:PySem.W.mroIn K C (.type "object")=Gc true):SR K H (.ref a) (.ref C)
def E9{x:V}{u t:qX}(I:Inv X pins σ H s)(rx:RelV x u)(ty:SR X.K H x t)(e:uR X.K t c=Gc b)(h:∀tk,Q (.bool b) {s with toks:=tk}):wpAny (model X.prog X.w) A (call (.builtin "isinstance") [u,c]) Q E s:=by
 cases ty with
 |non=>cases (show u=rJ from rx);exact sU PySem.W.kitx_none I.kIn vn e (λz=>nomatch z) h
 |bl y=>cases (show u=xF y from rx);exact sU PySem.W.kitx_bool I.kIn vn e (λz=>nomatch z) h
 |int i=>obtain⟨t,q⟩:=(show∃t,u=xD i t from rx);cases q;exact sU PySem.W.kitx_int I.kIn vn e (λz=>nomatch z) h
 |str y=>obtain⟨t,q⟩:=(show∃t,u=xE y t from rx);cases q;exact sU PySem.W.kitx_str I.kIn vn e (λz=>nomatch z) h
 |flt y=>obtain⟨t,q⟩:=(show∃t,u=Value.float y t from rx);cases q;exact sU PySem.W.kitx_float I.kIn vn e (λz=>nomatch z) h
 | @lst a xs ea=>
   cases (show u=q9 a from rx)
   obtain⟨_,_,n,_,h1⟩:=(show Ds X.prog X.w H s.heap a (.lst xs)from I.hok a _ ea)
   exact sU zl I.kIn ⟨_,h1,rfl⟩ e (λz=>nomatch z) h
 | @frz a ob xs ea=>
   cases (show u=q9 a from rx)
   obtain⟨_,_,_,n,_,h1⟩:=(show Ds X.prog X.w H s.heap a (.frz ob (.lst xs))from I.hok a _ ea)
   exact sU zl I.kIn ⟨_,h1,rfl⟩ e (λz=>nomatch z) h
 | @tup a xs ea=>
   cases (show u=q9 a from rx)
   obtain⟨_,_,_,p⟩:=(show Ds X.prog X.w H s.heap a (.tup xs)from I.hok a _ ea)
   obtain⟨o,h1,h2,_⟩:=p
   exact sU zO I.kIn ⟨o,h1,h2⟩ e (λz=>nomatch z) h
 | @dK a kvs ea=>
   cases (show u=q9 a from rx)
   obtain⟨_,_,vs,_,p⟩:=(show Ds X.prog X.w H s.heap a (.dK kvs)from I.hok a _ ea)
   obtain⟨o,es,ep,h1,h2,_⟩:=p
   exact sU zm I.kIn ⟨o,h1,h2.1⟩ e (λz=>nomatch z) h
 | @dT a kvs ea=>
   cases (show u=q9 a from rx)
   obtain⟨_,_,xs,_,o,es,ep,h1,h2,_⟩:=(show Ds X.prog X.w H s.heap a (.dT kvs)from I.hok a _ ea)
   exact sU zm I.kIn ⟨o,h1,h2.1⟩ e (λz=>nomatch z) h
 | @ins a C dx fs ea cl ha hn htk hm=>
   cases (show u=q9 a from rx)
   obtain⟨mA,O,_⟩:=N6 I.hok ea
   obtain⟨od,J,_⟩:=O.look
   exact sU (PySem.W.kitx_own (cl.get _) cl.hd ha hn htk hm) I.kIn J e (λz=>nomatch z) h
end
end L2
namespace L2
open PySem PySem.Spec PyProof.Rows
structure Cb(k:Nat)(A:uN):Prop where
 hd:A.handled=none
 dp:A.depth+3*k+5<recursionLimit
 un:A.units+16*k+200<cLine
def Cb.mono{j k:Nat}{A:uN}(r:Cb k A)(h:j<=k):Cb j A:=⟨r.hd,by have:=r.dp;lia,by have:=r.un;lia⟩
def Cb.deeper(r:Cb (k+1) A)(env:Env):Cb k (A.deeper env):=
 ⟨r.hd,by have:=r.dp;show A.depth+1+3*k+5<_;lia,by have:=r.un;show A.units+3+16*k+200<_;lia⟩
def Ra{A:uN}{kw:Wp (Str×qX)}:(A.under (.builtin "type.__call__" ⟨.ref C::us,kw⟩)).depth=A.depth+1:=by
 first|rfl|simp[zo,Code.weight,Code.isCreation,Code.isGuard,Code.isCaller,Code.frames,zq,guardIds]
def Rp{A:uN}{kw:Wp (Str×qX)}:(A.under (.builtin "type.__call__" ⟨.ref C::us,kw⟩)).units=A.units+1:=by
 first|rfl|simp[zo,Code.cUnits,Code.frames,zq]
def Cb.make(r:Cb (k+1) A) C us kw:Cb k (A.under (.builtin "type.__call__" ⟨.ref C::us,kw⟩)):=
 ⟨r.hd,by have:=r.dp;rw[Ra];lia,by have:=r.un;rw[Rp];lia⟩
def Cb.depth{k:Nat}{A:uN}(r:Cb k A):A.depth<recursionLimit:=by have:=r.dp;lia
noncomputable def j4:TA:=λ_ H Q=>Q [] H
noncomputable def cV(ta:TE)(tr:TA):TA:=λσ H Q=>ta σ H λx H1=>tr σ H1 λxs H2=>Q (x::xs) H2
section
variable{X:Cx}{e:sG}{es:Wp sG}{te:TE}{t:TA}{pos:Pos}
def UL:PA X [] j4:=λ_ _ _ _ H Q I h=>yn ⟨[],H,I,.nil,h⟩
def Nb(ha:PE X e te)(hr:PA X es t)(hs:zb (qc (e::es) X.env=(false,eval e X.env)::qc es X.env) ww):PA X (e::es) (cV te t):=by
 intro pos pins s σ H Q I h
 rw[hs]
 show wpAny _ _ (spliced ((false,eval e X.env)::backTo pos (qc es X.env))) _ _ s
 refine wX (thn (ha pins s σ H _ I h) λu s1 z=>?_)
 obtain⟨x,H1,I1,r1,q1⟩:=z
 exact thn (hr pos pins s1 σ H1 _ I1 q1) λus s2 ⟨xs,H2,I2,r2,q2⟩=>⟨x::xs,H2,I2,.cons r1 r2,q2⟩
noncomputable def pD(t:TA):TE:=λσ H Q=>t σ H λxs H1=>xs.length<=sizeLine/\∀p,H1 p=none->Q (.ref p) (upd H1 p (.tup xs))
noncomputable def pB(t:TA):TE:=λσ H Q=>t σ H λxs H1=>xs.length<=sizeLine/\∀p,H1 p=none->Q (.ref p) (upd H1 p (.lst xs))
def dY{x1}(h:PA X es t):PE X (.Tuple es x1 pos) (pD t):=by
 intro pins s σ H Q I hq
 refine wpAny_Tuple_spliced (thn (h pos pins s σ H _ I hq) λus s1 ⟨xs,H1,I1,r,z,q⟩=>⟨by rw[<-r.length];exact z,?_⟩)
 have hf:H1 s1.heap.objs.size=none:=I1.hok.fresh (qW _)
 refine⟨.ref s1.heap.objs.size,upd H1 s1.heap.objs.size (.tup xs),I1.laid (t':=s1.toks) (λb u e=>qO _ e) (qW _) ?_,rfl,q _ hf⟩
 exact⟨z,us,r,⟨_,qt _ rfl,rfl,_,rfl⟩⟩
def dQ(h:PA X es t):PE X (.List es pos) (pB t):=by
 intro pins s σ H Q I hq
 refine wpAny_List_spliced (thn (h pos pins s σ H _ I hq) λus s1 ⟨xs,H1,I1,r,z,q⟩=>⟨by rw[<-r.length];exact z,?_⟩)
 have hf:H1 s1.heap.objs.size=none:=I1.hok.fresh (qW _)
 refine⟨.ref s1.heap.objs.size,upd H1 s1.heap.objs.size (.lst xs),I1.laid (t':=s1.toks) (λb u e=>qO _ e) (qW _) ?_,rfl,q _ hf⟩
 exact⟨z,us,0,r,qt _ rfl⟩
end
abbrev Sp:=Wp V->Hp->VK->XK->Prop
abbrev CXT:=Wp Env->Hp->qj->XK->qX->qj->Prop
structure YE(P:sF)(w:tK)(K:W1)(mg:Str->qR qX)(base:sS)(A:uN)(outer:Wp Env)(s:qj)(H:Hp):Prop where
 frames:A.frames=Gc outer
 mod:Mod K mg base
 bs:∀b o,base.get? b=Gc o->s.heap.get? b=Gc o/\H b=none
 bsz:base.objs.size<=s.heap.objs.size
 P4:s.heap.FunFrames base outer
 frf:∀b∈frs outer,H b=none
 hok:HOk P w H s.heap
 bare:vt s.gens
def CE(outer:Wp Env)(P:sF)(w:tK)(H:Hp)(s:qj)(Q:VK)(u:qX)(s':qj):Prop:=
 ∃v H',s'.os=s.os/\vt s'.gens/\Un (frs outer) [] H H' s.heap s'.heap/\HOk P w H' s'.heap/\RelV v u/\Q v H'
def CR(CX:CXT)(outer:Wp Env)(P:sF)(w:tK)(H:Hp)(s:qj)(Q:VK)(E:XK)(r:Result)(s':qj):Prop:=
 match r with
 | .ok (.ret u)=>CE outer P w H s Q u s'
 | .ok _=>tN
 | .error e=>CX outer H s E e s'
structure Ka(P:sF)(w:tK)(K:W1)(mg:Str->qR qX)(base:sS)(CX:CXT)(k:Nat)(f:qg)(fd:wY)(ps:Wp Str)(sp:Sp):Prop where
 len:∀vs H Q E,sp vs H Q E->vs.length=ps.length
 run:∀(A:uN) (outer:Wp Env) (s:qj) (H:Hp) (args:Args) (us:Wp qX) (vs:Wp V) (Q:VK) (E:XK),Cb k A->YE P w K mg base A outer s H->BindsTo s fd args (ps.zip us)->Vals vs us->sp vs H Q E->
  codeAny (model P w) A (.call (.ref f) args) (CR CX outer P w H s Q E) s
def Ka.mono{K:W1}(F:Ka P w K mg base CX j f fd ps sp)(h:j<=k):Ka P w K mg base CX k f fd ps sp:=⟨F.len,λA outer s H args us vs Q E hr=>F.run A outer s H args us vs Q E (hr.mono h)⟩
def YE.make{K:W1}(e:YE P w K mg base A outer s H)(C:qg) us kw:YE P w K mg base (A.under (.builtin "type.__call__" ⟨.ref C::us,kw⟩)) outer s H:=⟨by first|exact e.frames|(simpa[zo,Code.envs,zq,pushEnvs]using e.frames),e.mod,e.bs,e.bsz,e.P4,e.frf,e.hok,e.bare⟩
section
variable{X:Cx}{pins:Wp (qg×Obj)}{σ:St}{H:Hp}{s s':qj}
def Inv.YK(I:Inv X pins σ H s):YE X.prog X.w X.K X.mg X.base X.A X.stack s H:=
 ⟨I.ok.frames,I.ok.mod,I.bs,qU I.ok.bsz I.sz,I.stack,I.QT,I.hok,I.bare⟩
def Inv.after{Q:VK}{u:qX}(I:Inv X pins σ H s)(h:CE X.stack X.prog X.w H s Q u s'):EP X pins σ Q u s':=by
 obtain⟨v,H',os,bare,un,hok,r,q⟩:=h
 obtain⟨hh,g,d,t,os'⟩:=s'
 obtain rfl:os'=s.os:=os
 exact⟨v,H',I.call (h':=hh) (g':=g) (d':=d) (t':=t) (ch:=[]) un hok bare (λb z=>absurd z (by simp)),r,q⟩
end
noncomputable def bI(sp:Sp)(dvs:Wp V)(E:XK)(t:TA):TE:=λσ H Q=>t σ H λvs H1=>sp (vs++dvs) H1 Q E
noncomputable def cT(C:qg)(m:Str)(sp:Sp)(dvs:Wp V)(E:XK)(ta:TE)(t:TA):TE:=λσ H Q=>ta σ H λx H1=>∃a dx fs,x=.ref a/\H1 a=Gc (.ins C dx fs)/\fs.lookup m=none/\
 t σ H1 λvs H2=>sp (x::(vs++dvs)) H2 Q E
noncomputable def j6(C:qg)(sp:Sp)(dvs:Wp V)(E:XK)(t:TA):TE:=λσ H Q=>t σ H λvs H1=>∀x dx,H1 x=none->H1 dx=none->dx≠x->
 sp (.ref x::(vs++dvs)) (upd (upd H1 dx (.own x)) x (.ins C dx [])) (λv H2=>v=.non/\Q (.ref x) H2) E
def Binds(K:W1)(fd:wY)(ps:Wp Str)(ds:Wp qX):Prop:=
 ∀(s:qj) (us:Wp qX),K.In s.heap->(us++ds).length=ps.length->BindsTo s fd ⟨us,[]⟩ (ps.zip (us++ds))
def Binds.all{K:W1}(h:∀us:Wp qX,us.length=ps.length->bindArgs fd ⟨us,[]⟩=pure (ps.zip us)):Binds K fd ps []:=λs us _ hl=>by
 rw[r9]at hl⊢
 exact .of_eq (h us hl)
def Passes(CX:CXT)(X:Cx)(E:XK):Prop:=∀(pins:Wp (qg×Obj)) (σ:St) (H:Hp) (s:qj) (e:qX) (s':qj),Inv X pins σ H s->CX X.stack H s E e s'->X.xe e s'
section
variable{X:Cx}{CX:CXT}{k:Nat}{f C:qg}{fd:wY}{ps:Wp Str}{sp:Sp}{dvs:Wp V}{ds:Wp qX}{E:XK}{x m:Str}{p pos apos:Pos}{e o:sG}{es:Wp sG}{ta:TE}{t:TA}
def Q0{σ:St}(F:Ka X.prog X.w X.K X.mg X.base CX k f fd ps sp)(hr:Cb k X.A)(hb:Binds X.K fd ps ds)(hd:Vals dvs ds)(hx:Passes CX X E)(I:Inv X pins σ H s)(r:Vals vs us)(h:sp (vs++dvs) H Q E):wpAny (model X.prog X.w) X.A (call (.ref f) us) (EP X pins σ Q) X.xe s:=by
 have r2:Vals (vs++dvs) (us++ds):=r.append hd
 have hl:(us++ds).length=ps.length:=by rw[<-r2.length];exact F.len _ _ _ _ h
 refine vo (vS (F.run X.A X.stack s H ⟨us,[]⟩ (us++ds) (vs++dvs) Q E hr I.YK (hb s us I.kIn hl) r2 h) λr s' hq=>?_)
 cases r with
 |error e=>exact hx pins σ H s e s' I hq
 |ok fl=>
  cases fl with
  |ret u=>exact I.after hq
  |next=>exact rz hq
  |brk=>exact rz hq
  |cont=>exact rz hq
def aN(F:Ka X.prog X.w X.K X.mg X.base CX k f fd ps sp)(hr:Cb k X.A)(hg:Gl X x)(hm:X.mg x=Gc (.ref f))(hk:sL X.K (.ref f)=true)(hb:Binds X.K fd ps ds)(hd:Vals dvs ds)(hx:Passes CX X E)(ha:PA X (e::es) t)(hdb:zb ((x==("__debug__":Str))=false) xz)(he:zb (qc (e::es) X.env=(false,eval e X.env)::qc es X.env) ww)(hpl:zb ((backTo pos (qc es X.env)).any (·.1)=false) ww):PE X (.Call (.Name x p) (e::es) [] pos) (bI sp dvs E t):=by
 intro pins s σ H Q I h
 refine sf (J4 I hg hm ?_ hdb)
 refine tL (h₀:=X.base) I.ok.mod.kin hk (thn (ha pos pins s σ H _ I h) λus s1 ⟨vs,H1,I1,r,q⟩=>⟨I1.kIn,?_⟩) he hpl
 exact Q0 F hr hb hd hx I1 r q
def Zo {pl:Sem sD}(he:PE X o ta)(c:Cls X.K C)(hm:Meth X.K C m f)(F:Ka X.prog X.w X.K X.mg X.base CX k f fd ps sp)(hr:Cb k X.A)(hb:Binds X.K fd ps ds)(hd:Vals dvs ds)(hx:Passes CX X E)(ha:PA X (e::es) t)(hst:zb (qc (e::es) X.env=(false,eval e X.env)::qc es X.env) ww)(hpl:zb ((backTo pos (qc es X.env)).any (·.1)=false) ww)(ht:zb (eval (.Call (.Attribute o m apos) (e::es) [] pos) X.env=(do
      let ov ← eval o X.env
      standAt apos.atName
      let (f, first) ← holding [ov] (getMethod ov m pl)
      callWith pos f first (backTo pos (qc (e :: es) X.env)) (backToKw pos (keywordEach [] X.env)))) ww) :
    PE X (.Call (.Attribute o m apos) (e::es) [] pos) (cT C m sp dvs E ta t):=by
  intro pins s σ H Q I h
  refine uZ (pl:=pl) (thn (he pins s σ H _ I h) λu s1 z=>?_) ht
  obtain⟨x,H1,I1,rx,a,dx,fs,ex,ea,l,q⟩:=z
  subst ex
  obtain rfl:u=q9 a:=rx
  refine F9 I1 ea c hm l ?_
  refine tL (first:=[.ref a]) (h₀:=X.base) I.ok.mod.kin hm.kp (thn (ha pos pins s1 σ H1 _ I1 q) λus s2 ⟨vs,H2,I2,r,q2⟩=>⟨I2.kIn,?_⟩) hst hpl
  exact Q0 (us:=.ref a::us) (vs:=.ref a::vs) F hr hb hd hx I2 (.cons rfl r) q2
def X0 {pl:Sem sD}(he:PE X o ta)(c:Cls X.K C)(hm:Meth X.K C m f)(F:Ka X.prog X.w X.K X.mg X.base CX k f fd ps sp)(hr:Cb k X.A)(hb:Binds X.K fd ps ds)(hd:Vals dvs ds)(hx:Passes CX X E)(ht:zb (eval (.Call (.Attribute o m apos) [] [] pos) X.env=(do
      let ov ← eval o X.env
      standAt apos.atName
      let (f, first) ← holding [ov] (getMethod ov m pl)
      callWith pos f first (backTo pos (qc [] X.env)) (backToKw pos (keywordEach [] X.env)))) ww) :
    PE X (.Call (.Attribute o m apos) [] [] pos) (cT C m sp dvs E ta j4):=by
  intro pins s σ H Q I h
  refine uZ (pl:=pl) (thn (he pins s σ H _ I h) λu s1 z=>?_) ht
  obtain⟨x,H1,I1,rx,a,dx,fs,ex,ea,l,q⟩:=z
  subst ex
  obtain rfl:u=q9 a:=rx
  refine F9 I1 ea c hm l ?_
  exact zD (first:=[.ref a]) I1.kIn hm.kp (Q0 (us:=[.ref a]) (vs:=[.ref a]) F hr hb hd hx I1 (.cons rfl .nil) q)
structure Mk(K:W1)(C f:qg):Prop where
 makes:yV K C=true
 init:sH K (.ref C) "__init__"=Gc (Gc (.ref f))
 fn:wu K (.ref f)=true
 kp:sL K (.ref C)=true
def XS{σ:St}(M:Mk X.K C f)(F:Ka X.prog X.w X.K X.mg X.base CX k f fd ps sp)(hr:Cb (k+1) X.A)(hb:Binds X.K fd ps ds)(hd:Vals dvs ds)(hx:Passes CX X E)(I:Inv X pins σ H s)(r:Vals vs us)(h:∀x dx,H x=none->H dx=none->dx≠x->sp (.ref x::(vs++dvs)) (upd (upd H dx (.own x)) x (.ins C dx [])) (λv H2=>v=.non/\Q (.ref x) H2) E):wpAny (model X.prog X.w) X.A (call (.ref C) us) (EP X pins σ Q) X.xe s:=by
 have hq:=h (s.heap.objs.size+1) s.heap.objs.size (I.hok.fresh (yo _)) (I.hok.fresh (qW _)) (rK (xv _))
 have I2:=Inv.made (C:=C) I
 have r2:Vals (V.ref (s.heap.objs.size+1)::(vs++dvs)) (q9 (s.heap.objs.size+1)::(us++ds)):=.cons rfl (r.append hd)
 have hl:(q9 (s.heap.objs.size+1)::us++ds).length=ps.length:=by
  have e:=r2.length
  rw[F.len _ _ _ _ hq]at e
  exact e.symm
 refine vo (XY (f:=f) I.kIn M.makes M.init (uJ.mp M.fn) (vS (F.run _ X.stack _ _ ⟨q9 (s.heap.objs.size+1)::us,[]⟩ (q9 (s.heap.objs.size+1)::(us++ds)) _ _ E (hr.make C us [])
  (I2.YK.make C us []) (hb _ (q9 (s.heap.objs.size+1)::us) I2.kIn hl) r2 hq) λr s' hq'=>?_))
 cases r with
 |error e=>exact hx pins σ _ _ e s' I2 hq'
 |ok fl=>
  cases fl with
  |ret u=>
   obtain⟨v,H',I3,rv,ev,q3⟩:=I2.after hq'
   subst ev
   exact⟨rv,⟨V.ref (s.heap.objs.size+1),H',I3,rfl,q3⟩⟩
  |next=>exact rz hq'
  |brk=>exact rz hq'
  |cont=>exact rz hq'
def au(M:Mk X.K C f)(F:Ka X.prog X.w X.K X.mg X.base CX k f fd ps sp)(hr:Cb (k+1) X.A)(hg:Gl X x)(hm:X.mg x=Gc (.ref C))(hb:Binds X.K fd ps ds)(hd:Vals dvs ds)(hx:Passes CX X E)(ha:PA X (e::es) t)(hdb:zb ((x==("__debug__":Str))=false) xz)(he:zb (qc (e::es) X.env=(false,eval e X.env)::qc es X.env) ww)(hpl:zb ((backTo pos (qc es X.env)).any (·.1)=false) ww):PE X (.Call (.Name x p) (e::es) [] pos) (j6 C sp dvs E t):=by
 intro pins s σ H Q I h
 refine sf (J4 I hg hm ?_ hdb)
 refine tL (h₀:=X.base) I.ok.mod.kin M.kp (thn (ha pos pins s σ H _ I h) λus s1 ⟨vs,H1,I1,r,q⟩=>⟨I1.kIn,?_⟩) he hpl
 exact XS M F hr hb hd hx I1 r q
end
section
variable{X:Cx}{CX:CXT}{k:Nat}{f C:qg}{fd:wY}{ps ks:Wp Str}{sp:Sp}{E:XK}{x m:Str}{p pos apos kpos:Pos}{e o:sG}{es:Wp sG}{kws:Wp xZ}{te ta:TE}{t tk:TA}{nm:qR Str}
structure mZ(K:W1)(fd:wY)(ps ks:Wp Str)(g:Wp qX->Wp qX->Wp qX)(gV:Wp V->Wp V->Wp V):Prop where
 to:∀(s:qj) (us ws:Wp qX),K.In s.heap->(g us ws).length=ps.length->BindsTo s fd ⟨us,ks.zip ws⟩ (ps.zip (g us ws))
 rel:∀{vs:Wp V} {us:Wp qX} {zs:Wp V} {ws:Wp qX},Vals vs us->Vals zs ws->Vals (gV vs zs) (g us ws)
variable{g:Wp qX->Wp qX->Wp qX}{gV:Wp V->Wp V->Wp V}
end
structure Av(N P:Wp Str)(sc:tu):Prop where
 kind:sc.kind=.function
 co:sc.isCoroutine=false
 gen:sc.isGenerator=false
 nd:N.Nodup
 pre:N.take P.length=P
 par:∀x∈P,sc.names.lookup x=Gc .local\/sc.names.lookup x=Gc .cell
 cW:∀y∈sc.names,y.2≠.free
theorem Oi{kindOf:Str->qR xy}:∀{binds} {m:Str->qR qX},(∀v,(x,v)∉binds)->bindL kindOf binds m x=m x
 | [],_,_=>rfl
 |(n,v)::r,m,h=>by
  unfold bindL
  rw[Oi λw hw=>h w (qa _ hw)]
  split
  .have:x≠n:=by rintro rfl;exact h v qh
   simp[this]
  .rfl
theorem Pg{kindOf:Str->qR xy}:∀{binds} {m:Str->qR qX},(∀v,(x,v)∉binds)->bindC kindOf binds m x=m x
 | [],_,_=>rfl
 |(n,v)::r,m,h=>by
  unfold bindC
  rw[Pg λw hw=>h w (qa _ hw)]
  split
  .rfl
  .have:x≠n:=by rintro rfl;exact h v qh
   simp[this]
theorem Od{kindOf:Str->qR xy}:∀{P:Wp Str} {vs:Wp qX} {i:Nat} {m},P.Nodup->P[i]?=Gc x->vs[i]?=Gc v->kindOf x=Gc .local->bindL kindOf (P.zip vs) m x=Gc v
 | [],_,_,_,_,h,_,_=>by simp at h
 |_::_,[],_,_,_,_,h,_=>by simp at h
 |p::P,w::vs,0,m,nd,h1,h2,hk=>by
  simp at h1 h2;subst h1;subst h2
  show bindL kindOf ((p,w)::P.zip vs) m p=_
  unfold bindL
  rw[Oi λv hv=>(uK.mp nd).1 (tT hv).1,rB hk]
  simp
 |p::P,w::vs,i+1,m,nd,h1,h2,hk=>by
  show bindL kindOf ((p,w)::P.zip vs) m x=_
  unfold bindL
  exact Od (i:=i) (uK.mp nd).2 (by simpa using h1) (by simpa using h2) hk
theorem O8{kindOf:Str->qR xy}:∀{P:Wp Str} {vs:Wp qX} {i:Nat} {m},P.Nodup->P[i]?=Gc x->vs[i]?=Gc v->kindOf x≠Gc .local->bindC kindOf (P.zip vs) m x=Gc v
 | [],_,_,_,_,h,_,_=>by simp at h
 |_::_,[],_,_,_,_,h,_=>by simp at h
 |p::P,w::vs,0,m,nd,h1,h2,hk=>by
  simp at h1 h2;subst h1;subst h2
  show bindC kindOf ((p,w)::P.zip vs) m p=_
  unfold bindC
  rw[Pg λv hv=>(uK.mp nd).1 (tT hv).1,rA hk]
  simp
 |p::P,w::vs,i+1,m,nd,h1,h2,hk=>by
  show bindC kindOf ((p,w)::P.zip vs) m x=_
  unfold bindC
  exact O8 (i:=i) (uK.mp nd).2 (by simpa using h1) (by simpa using h2) hk
noncomputable def start(N:Wp Str)(vs:Wp V):St:=vs.map Gc++qk (N.length-vs.length) none
noncomputable def Ij(CX:CXT)(P:sF)(w:tK)(K:W1)(mg:Str->qR qX)(base:sS)(N:Wp Str)(qual:Str)(scope:tu)(f:qg)(cd:qX)(A:uN)(outer:Wp Env)(s:qj)(H:Hp)(E:XK):Cx where
 prog:=P
 w:=w
 K:=K
 mg:=mg
 base:=base
 A:=A.deeper (envOfC qual scope s.heap.objs.size f cd)
 N:=N
 s₀:=s
 H₀:=H
 env:=envOfC qual scope s.heap.objs.size f cd
 outer:=outer
 stack:=envOfC qual scope s.heap.objs.size f cd::outer
 ex:=[]
 calm:=true
 fn:=λ_=>true
 pn:=[]
 xe:=λe s'=>wpAny (model P w) (A.deeper (envOfC qual scope s.heap.objs.size f cd)) (leaving (envOfC qual scope s.heap.objs.size f cd) e) (λ_ s''=>CX outer H s E e s'') (λe' s''=>CX outer H s E e' s'') s'
def Kt{sc:tu}{x:Str}(h:sc.names.lookup x=Gc .cell):∃c,(cellsFrom n sc.names []).lookup x=Gc c:=by
 have q:=v5 sc.names n [] (.inl h)
 exact Option.isSome_iff_exists.mp q
def PM{CX:CXT}{P:sF}{w:tK}{K:W1}{mg:Str->qR qX}{base:sS}{N ps:Wp Str}{qual:Str}{scope:tu}{f:qg}{cd:qX}{A:uN}{outer:Wp Env}{s s1:qj}{H:Hp}{E:XK}{us:Wp qX}{vs:Wp V}(S:Av N ps scope)(hd:A.handled=none)(e0:YE P w K mg base A outer s H)(hl:vs.length=ps.length)(r:Vals vs us)(x:InCallC s s.heap.objs.size (bindL (envOfC qual scope s.heap.objs.size f cd).kindOf (ps.zip us) λ_=>none) (cellsFrom (s.heap.objs.size+1) scope.names []) (bindC (envOfC qual scope s.heap.objs.size f cd).kindOf (ps.zip us) λ_=>none) s1):Inv (Ij CX P w K mg base N qual scope f cd A outer s H E) [] (start N vs) H s1:=by
 have hpl:ps.length<=N.length:=by have:=congrArg xf S.pre;rw[x5]at this;lia
 obtain⟨h1,tk,rfl,hk⟩:=x.done
 have noA:∀b:qg,b∉(Ij CX P w K mg base N qual scope f cd A outer s H E).ex:=λb z=>absurd (show b∈([]:Wp qg)from z) (by simp)
 refine⟨⟨e0.mod,S.kind,rfl,rfl,qW _,λy z c h1 h2=>?_,λy hy=>?_,λy c _ h=>?_,λ_=>hd,yp e0.frames,.inr ⟨rfl,rfl⟩,λb z=>absurd z (noA b),e0.bs,e0.bsz,λb _ _=>noA b,λb z=>absurd z (noA b),e0.P4,e0.frf⟩,
  rfl,e0.bare,Un.kept hk,⟨_,x.toInCall.ns,λi y v h1 h2 h3=>?_⟩,λy c h=>⟨_,x.cell y c h⟩,e0.hok.fresh (qW _),λy c h=>?_,λp hp=>absurd (show p∈([]:Wp (qg×Obj))from hp) (by simp),e0.hok.kept hk,?_⟩
 .exact name_of_addr x.apart (rY h1) (rY h2)
 .have hy:scope.names.lookup y=Gc .cell\/scope.names.lookup y=Gc .free:=hy
  rcases hy with hy|hy
  .exact Kt hy
  .exact absurd rfl (S.cW _ (rY hy))
 .exact uO (x.above y c (rY h))
 .have hi:i<vs.length:=by
   unfold start at h2
   by_cases hi:i<vs.length
   .exact hi
   .rw[rR (by simpa using hi)]at h2
    rw[vv]at h2
    split at h2<;>cases h2
  have ha:vs[i]?=Gc v:=by
   unfold start at h2
   rw[qQ (by simpa using hi),qw]at h2
   cases e:vs[i]? with
   |none=>rw[e]at h2;cases h2
   |some a=>rw[e]at h2;cases h2;rfl
  obtain⟨u,hu,rv⟩:=r.get ha
  have hp:ps[i]?=Gc y:=by
   rw[<-S.pre,List.getElem?_take_of_lt (by lia)];exact h1
  have ndP:ps.Nodup:=by rw[<-S.pre];exact S.nd.sublist (List.take_sublist _ _)
  refine⟨u,rv,?_⟩
  rcases S.par y (qo hp)with k|k
  .exact .inl ⟨k,Od ndP hp hu k⟩
  .obtain⟨c,e⟩:=Kt (n:=s.heap.objs.size+1) k
   refine .inr ⟨.inl k,c,e,?_⟩
   have q:=x.cell y c e
   rw[O8 ndP hp hu (by show scope.names.lookup y≠_;rw[k];decide)]at q
   exact q
 .exact e0.hok.fresh (uO (x.above y c (rY h)))
 .unfold start
  show _=N.length
  rw[sA,rG,List.length_replicate]
  lia
def XG{CX:CXT}{P:sF}{w:tK}{K:W1}{mg:Str->qR qX}{base:sS}{k:Nat}{f:qg}{name qual:Str}{params:Arguments}{body:Wp rQ}{scope:tu}{dV kV doc pm cdv ct oc:qX}{an od:qR qg}{osl:wL (qR qX)}{N ps:Wp Str}{sp:Sp}(lk:K.lookup f=Gc ⟨oc,od,.func (uA name qual params body scope dV kV doc pm an cdv ct),osl⟩)(hcd:vL K cdv qual=true)(S:Av N ps scope)(len:∀vs H Q E,sp vs H Q E->vs.length=ps.length)(hbody:∀(A:uN) (outer:Wp Env) (s:qj) (H:Hp) (vs:Wp V) (Q:VK) (E:XK),Cb k (A.deeper (envOfC qual scope s.heap.objs.size f cdv))->sp vs H Q E->∃t,PSs (Ij CX P w K mg base N qual scope f cdv A outer s H E) body t/\t {nx:=λ_ H'=>Q .non H',rt:=Q} (start N vs) H):Ka P w K mg base CX (k+1) f (uA name qual params body scope dV kV doc pm an cdv ct) ps sp:=by
 refine⟨len,λA outer s H args us vs Q E hr e0 hb r hsp=>?_⟩
 have hl:=len _ _ _ _ hsp
 have KX:K.In s.heap:=e0.mod.kin.keeps λb o e=>(e0.bs b o e).1
 have lim:s.heap.NoLimit:=e0.mod.nolimit.keeps λb o e=>(e0.bs b o e).1
 have hkind:∀y∈ps.zip us,scope.names.lookup y.1=Gc .local\/(scope.names.lookup y.1=Gc .cell/\((cellsFrom (s.heap.objs.size+1) scope.names []).lookup y.1).isSome=true):=λ⟨n,v⟩ hy=>by
  rcases S.par n (tT hy).1 with q|q
  .exact .inl q
  .exact .inr ⟨q,v5 _ _ _ (.inl q)⟩
 refine yg hr.depth (KX _ _ lk) rfl S.co S.gen rfl (zP KX hcd) (hb _ _ _ _ ?_)
 refine xM S.kind hkind λenv he s1 x=>?_
 subst he
 refine⟨lim.keeps x.toInCall.keep,codeAny_func ?_⟩
 obtain⟨t,ht,hq⟩:=hbody A outer s H vs Q E (hr.deeper _) hsp
 have I:Inv (Ij CX P w K mg base N qual scope f cdv A outer s H E) [] (start N vs) H s1:=PM S hr.hd e0 hl r x
 refine sZ (ht [] s1 (start N vs) H _ I hq) (λfl s' hs=>?_) λe s' hs=>hs
 have fin:∀{σ':St} {H':Hp} {v:V} {u:qX},Inv (Ij CX P w K mg base N qual scope f cdv A outer s H E) [] σ' H' s'->RelV v u->Q v H'->CE outer P w H s Q u s':=
  λ{σ' H' v u} J rv q=>⟨v,H',J.os,J.bare,J.base,J.hok,rv,q⟩
 cases fl with
 |ret u=>
  obtain⟨v,σ',H',J,rv,q⟩:=hs
  exact fin J rv q
 |next=>
  obtain⟨σ',H',J,q⟩:=hs
  exact fin (v:=V.non) (u:=rJ) J rfl q
 |brk=>
  obtain⟨_,_,_,q⟩:=hs
  exact rz q
 |cont=>
  obtain⟨_,_,_,q⟩:=hs
  exact rz q
end L2
namespace L2
open PySem PySem.Spec PyProof.Rows
section
variable{X:Cx}{x:Str}{p pos:Pos}{e:sG}{es:Wp sG}{t:TA}{id T:ua}{r:Wp V->Hp->VK->Prop}
noncomputable def tCB(r:Wp V->Hp->VK->Prop)(t:TA):TE:=λσ H Q=>t σ H λvs H1=>r vs H1 Q
def XF(hc:EJ X (.builtin id) r)(hg:Gl X x)(hm:X.mg x=none)(hv:bootBuiltins x=Gc (.builtin id))(ha:PA X (e::es) t)(hn:zb (x≠ "__name__") xz)(hdb:zb ((x==("__debug__":Str))=false) xz)(he:zb (qc (e::es) X.env=(false,eval e X.env)::qc es X.env) ww)(hpl:zb ((backTo pos (qc es X.env)).any (·.1)=false) ww):PE X (.Call (.Name x p) (e::es) [] pos) (tCB r t):=by
 intro pins s σ H Q I h
 refine sf (M9 I hg hm hv ?_ hn hdb)
 exact PyProof.Rows.callWith_builtin1 (thn (ha pos pins s σ H _ I h) λus s1 ⟨vs,H1,I1,r1,q1⟩=>hc pins s1 σ H1 vs us Q I1 r1 q1) he hpl
def TF(hc:EJ X (.type T) r)(hg:Gl X x)(hm:X.mg x=none)(hv:bootBuiltins x=Gc (.type T))(ha:PA X (e::es) t)(hn:zb (x≠ "__name__") xz)(hdb:zb ((x==("__debug__":Str))=false) xz)(he:zb (qc (e::es) X.env=(false,eval e X.env)::qc es X.env) ww)(hpl:zb ((backTo pos (qc es X.env)).any (·.1)=false) ww):PE X (.Call (.Name x p) (e::es) [] pos) (tCB r t):=by
 intro pins s σ H Q I h
 refine sf (M9 I hg hm hv ?_ hn hdb)
 exact vH (thn (ha pos pins s σ H _ I h) λus s1 ⟨vs,H1,I1,r1,q1⟩=>hc pins s1 σ H1 vs us Q I1 r1 q1) he hpl
end
end L2
namespace HT
open PySem PyProof.Rows
section
open PySem.SeqAt
open PySem.AutoSeq1 (wpAny_loadPart')
open PySem.MeetsSeq PySem.MeetsSeq2 PySem.MeetsSeq3
end
section
variable{prog:sF}{w:tK}{A:uN}{E:qX->qj->Prop}{s:qj}
def Z4{Q:qX->qj->Prop}(ht:IsTup s.heap t vs.toArray)(hb:IsTup s.heap b ws.toArray)(hv:vs≠[])(h1:ws=[]->Q (.ref t) s)(h2:ws≠[]->Q (.ref s.heap.objs.size) {s with heap:=s.heap.push {cls:=.type "tuple",data:=.seq (vs++ws).toArray}})(hsz:vs.length+ws.length<=sizeLine):wpAny (model prog w) A (binaryOp .Add (.ref t) (.ref b)) Q E s:=by
 obtain⟨⟨cls,dd,data,sl⟩,ho,hc,n,hd⟩:=id ht
 obtain⟨⟨cls2,dd2,data2,sl2⟩,ho2,hc2,n2,hd2⟩:=id hb
 simp only at hc hd hc2 hd2
 subst hc hd hc2 hd2
 have e:vs.toArray++ws.toArray=(vs++ws).toArray:=by simp
 by_cases hw:ws=[]
 .exact zt ⟨_,ho,rfl⟩ ⟨_,ho2,rfl⟩ x8 zK v7 vw (vd _ _)
   (tuple_addW1 t b vs.toArray ws.toArray n n2 dd dd2 sl sl2 (by simpa using hv) (by simp[hw])) ⟨ho,ho2,h1 hw⟩
 .refine zt ⟨_,ho,rfl⟩ ⟨_,ho2,rfl⟩ x8 zK v7 vw (vd _ _)
   (tuple_addW2 t b vs.toArray ws.toArray n n2 dd dd2 sl sl2 (by simpa using hv) (by simpa using hw) (by rw[qf,qf];exact hsz)) ⟨ho,ho2,?_⟩
  rw[e]
  exact h2 hw
noncomputable def sIx(n d:Nat):qR Int->Nat
 |none=>d
 |some v=>if v<0 then(v+(n:Int)).toNat else min v.toNat n
def QA(n d k:Nat):sIx n d (Gc (k:Int))=min k n:=by
 show(if(k:Int)<0 then((k:Int)+(n:Int)).toNat else min (k:Int).toNat n)=min k n
 rw[rA (by lia),xg]
def dP(n d:Nat)(hd:d<=n)(o:qR Int):sIx n d o<=n:=by
 cases o with
 |none=>exact hd
 |some v=>
  show(if v<0 then(v+(n:Int)).toNat else min v.toNat n)<=n
  by_cases hv:v<0
  .rw[rB hv];lia
  .rw[rA hv];exact vT _ _
def Nh(v:Int)(n:Nat)(hv:¬v<0):min v (n:Int)=((min v.toNat n:Nat):Int):=by
 obtain⟨k,rfl⟩:=Int.eq_ofNat_of_zero_le (Int.not_lt.mp hv)
 rcases Nat.le_total k n with h|h
 .exact(yW (Int.ofNat_le.mpr h)).trans (congrArg Nat.cast (yX h)).symm
 .exact(Int.min_eq_right (Int.ofNat_le.mpr h)).trans (congrArg Nat.cast (Nat.min_eq_right h)).symm
def Ta(v:Int)(n d:Nat):(if v<0 then max (v+(n:Int)) 0 else min v (n:Int))=((sIx n d (Gc v):Nat):Int):=by
 show(if v<0 then max (v+(n:Int)) 0 else min v (n:Int))=(((if v<0 then(v+(n:Int)).toNat else min v.toNat n):Nat):Int)
 by_cases hv:v<0
 .simp only[rB hv];exact(yY _).symm
 .simp only[rA hv];exact Nh v n hv
def Rt(lo hi:qR Int)(n:Nat):vX lo hi 1 (n:Int)=(((sIx n 0 lo:Nat):Int),((sIx n n hi:Nat):Int)):=by
 have h1:¬((1:Int)<0):=by lia
 unfold vX
 simp only[h1,x9]
 refine Prod.ext ?_ ?_
 .cases lo with
  |none=>rfl
  |some v=>exact Ta v n 0
 .cases hi with
  |none=>rfl
  |some v=>exact Ta v n n
def R9(i j:Nat):uc (i:Int) (j:Int) 1=j-i:=by
 unfold uc
 have h1:(1:Int)>0:=by lia
 simp only[h1,wx,Int.ediv_one]
 split<;>lia
def MW{Q:qR Int->qj->Prop}(p:yH v o)(h:Q o s):wpAny (model prog w) A (Builtin.Slice.slicePartIndex v) Q E s:=by
 cases p with
 |none=>exact slicePart_none h
 |int i t=>exact slicePart_int h
def Gz{lo hi:qR Int}{n:Nat}(hs:s.heap.IsSliceOf sl vl vu .none)(pl:yH vl lo)(pu:yH vu hi)(h:Q (((sIx n 0 lo:Nat):Int),1,sIx n n hi-sIx n 0 lo) s):wpAny (model prog w) A (xN (.ref sl) (pure (n:Int))) Q E s:=by
 obtain⟨os,hos,hcs,hds⟩:=id hs
 unfold xN Builtin.Slice.sliceFields
 refine qP (qP (sv hos hds (x:=vl) rfl (qP (sv hos hds (x:=vu) rfl (qP (sv hos hds (x:=.none) rfl (qm ?_)))))))
 refine qP (slicePart_none ?_)
 show wpAny _ _ (if((1:Int)==0)=true then _ else _) _ _ s
 rw[rA (by decide)]
 refine qP (MW pl (qP (MW pu (qP (qm ?_)))))
 show wpAny _ _ (match vX lo hi 1 (n:Int)with|(lo,hi)=>pure (lo,(1:Int),uc lo hi 1)) _ _ s
 rw[Rt lo hi n]
 show wpAny _ _ (pure (((sIx n 0 lo:Nat):Int),(1:Int),uc ((sIx n 0 lo:Nat):Int) ((sIx n n hi:Nat):Int) 1)) _ _ s
 rw[R9]
 exact qm h
def XE(xs:wL qX)(i k:Nat):((sY k).filterMap λ(m:Nat)=>xs[((i:Int)+(m:Int)*1).toNat]?).toArray=((xs.toList.drop i).take k).toArray:=by
 have e:(λ(m:Nat)=>xs[((i:Int)+(m:Int)*1).toNat]?)=λm=>xs[i+m]?:=by
  funext m
  have:((i:Int)+(m:Int)*1).toNat=i+m:=by lia
  rw[this]
 rw[e]
 have:=pick_run xs i k
 rw[List.filterMap_map]at this
 have e2:((λx=>xs[x]?)∘λx=>i+x)=λm=>xs[i+m]?:=rfl
 rw[e2]at this
 rw[this]
def Jw{lo hi:qR Int}(ht:IsTup s.heap t items)(hs:s.heap.IsSliceOf sl vl vu .none)(pl:yH vl lo)(pu:yH vu hi)(hw:¬(sIx items.size 0 lo=0/\sIx items.size items.size hi=items.size))(h:Q (.ref s.heap.objs.size) {s with heap:=s.heap.push {cls:=.type "tuple",data:=.seq ((items.toList.drop (sIx items.size 0 lo)).take (sIx items.size items.size hi-sIx items.size 0 lo)).toArray}})(hsz:items.size<=sizeLine):wpAny (model prog w) A (getItem (.ref t) (.ref sl)) Q E s:=by
 have htake:sizeOk (.seq ((items.toList.drop (sIx items.size 0 lo)).take (sIx items.size items.size hi-sIx items.size 0 lo)).toArray):=by
  show((items.toList.drop (sIx items.size 0 lo)).take (sIx items.size items.size hi-sIx items.size 0 lo)).toArray.size<=sizeLine
  rw[qf,x5,List.length_drop,wm]
  exact qU (vT _ _) (qU (Nat.sub_le _ _) hsz)
 have hj:sIx items.size items.size hi<=items.size:=dP _ _ (qW _) hi
 obtain⟨os,hos,hcs,hds⟩:=id hs
 have hTs:s.TypeIs (.ref sl) "slice":=⟨os,hos,hcs⟩
 unfold getItem
 try with_reducible refine tw ?_
 first|refine qP (qm ?_)|skip
 refine qP (zu ht.typeIs (by decide) ?_)
 refine qP (tQ (name:=rC "__getitem__") ht.typeIs sE
  (tY sE ht.typeIs zE ?_ (zQ _ _)))
 show wpAny _ _ (xO (.ref t) >>= _) _ _ s
 refine qP (tupleItemsOf_ ht ?_)
 refine qP (zv hTs ?_)
 rw[rB (by decide)]
 refine qP (Gz hs pl pu ?_)
 have hno:¬((((sIx items.size 0 lo:Nat):Int)==0 && (1:Int)==1 && (sIx items.size items.size hi-sIx items.size 0 lo)==items.size)=true):=by
  intro q
  rw[qe,qe]at q
  have q1:((sIx items.size 0 lo:Nat):Int)=0:=eq_of_beq q.1.1
  have q2:sIx items.size items.size hi-sIx items.size 0 lo=items.size:=eq_of_beq q.2
  exact hw ⟨by lia,by lia⟩
 show wpAny _ _ (if(((sIx items.size 0 lo:Nat):Int)==0 && (1:Int)==1 && (sIx items.size items.size hi-sIx items.size 0 lo)==items.size)=true then _ else _) _ _ s
 rw[rA hno,XE]
 first
  |exact qP (m:=um _) (uF (qm ⟨_,rfl,qm h⟩) htake)
  |exact qP (m:=um _) (uF (qP (qm (qm ⟨_,rfl,qm h⟩))) htake)
  |exact qP (qP (m:=um _) (uF (qm (qm ⟨_,rfl,qm h⟩)) htake))
  |exact qP (qP (m:=um _) (uF (qm ⟨_,rfl,qm h⟩) htake))
end
end HT
namespace L2
open PySem PySem.Spec PyProof.Rows
abbrev TO:=St->Hp->(qR Int->Hp->Prop)->Prop
def PO(X:Cx)(e:qR sG)(t:TO):Prop:=
 ∀(pins:Wp (qg×Obj)) (s:qj) (σ:St) (H:Hp) (Q:qR Int->Hp->Prop),Inv X pins σ H s->t σ H Q->
  wpAny (model X.prog X.w) X.A (evalPart e X.env) (λu s'=>∃o H',Inv X pins σ H' s'/\yH u o/\Q o H') X.xe s
noncomputable def aA:TO:=λ_ H Q=>Q none H
noncomputable def kf(t:TE):TO:=λσ H Q=>t σ H λx H1=>∃i,x=.int i/\Q (Gc i) H1
def intsAre_of{ns:Wp Int}:∀{us:Wp qX},Vals (ns.map V.int) us->ve us ns:=by
 induction ns with
 |nil=>intro us r;rw[sQ]at r;cases r;exact .nil
 |cons n ns ih=>
  intro us r
  rw[qq]at r
  cases r with
  |cons r1 r2=>
   obtain⟨t,e⟩:=r1
   subst e
   exact .cons n t (ih r2)
section
variable{X:Cx}{e:sG}{te:TE}{lo hi:qR sG}{tl th:TO}{pos p2:Pos}
def TB:PO X none aA:=by
 intro pins s σ H Q I h
 rw[evalPart_none]
 exact qm ⟨none,H,I,.none,h⟩
def NM(h:PE X e te):PO X (Gc e) (kf te):=by
 intro pins s σ H Q I hw
 rw[evalPart_some]
 refine thn (h pins s σ H _ I hw) λu s1 z=>?_
 obtain⟨x,H1,I1,r1,q1⟩:=z
 obtain⟨i,rfl,q⟩:=q1
 obtain⟨t,rfl⟩:=r1
 exact⟨Gc i,H1,I1,.int i t,q⟩
def SlR(X:Cx)(r:V->qR Int->qR Int->Hp->VK->Prop):Prop:=
 ∀(pins:Wp (qg×Obj)) (s:qj) (σ:St) (H:Hp) (x:V) (v vl vu:qX) (lo hi:qR Int) (sl:qg) (Q:VK),Inv X pins σ H s->RelV x v->s.heap.IsSliceOf sl vl vu .none->yH vl lo->yH vu hi->r x lo hi H Q->
  ∃T id,typeLookup (.type T) "__getitem__"=pure (Gc (.builtin id))/\s.TypeIs v T/\wpAny (model X.prog X.w) X.A (getItem v (.ref sl)) (EP X pins σ Q) X.xe s
noncomputable def tSl(r:V->qR Int->qR Int->Hp->VK->Prop)(te:TE)(tl th:TO):TE:=λσ H Q=>te σ H λx H1=>tl σ H1 λl H2=>th σ H2 λu H3=>r x l u H3 Q
def N5{r:V->qR Int->qR Int->Hp->VK->Prop}(hr:SlR X r)(he:PE X e te)(hl:PO X lo tl)(hu:PO X hi th):PE X (.Subscript e (.Slice lo hi none p2) pos) (tSl r te tl th):=by
 intro pins s σ H Q I h
 refine Subscript_ (thn (he pins s σ H _ I h) λv s1 z=>?_)
 obtain⟨x,H1,I1,r1,q1⟩:=z
 refine wpAny_Slice (thn (hl pins s1 σ H1 _ I1 q1) λvl s2 ⟨l,H2,I2,pl,q2⟩=>thn (hu pins s2 σ H2 _ I2 q2) λvu s3 z=>?_)
 obtain⟨u,H3,I3,pu,q3⟩:=z
 rw[evalPart_none]
 refine qm ?_
 have I4:Inv X pins σ H3 {s3 with heap:=s3.heap.push {cls:=.type "slice",data:=.fields #[vl,vu,.none]}}:=I3.kept (t':=s3.toks) λb ob q=>qO _ q
 obtain⟨T,id,hT,ht,hg⟩:=hr pins {s3 with heap:=s3.heap.push {cls:=.type "slice",data:=.fields #[vl,vu,.none]}} σ H3 x v vl vu l u s3.heap.objs.size Q I4 r1 (Heap.IsSliceOf.new ..) pl pu q3
 show wpAny (model X.prog X.w) X.A (subscriptTail e (.Slice lo hi none p2) v (.ref s3.heap.objs.size)) (EP X pins σ Q) X.xe {s3 with heap:=s3.heap.push {cls:=.type "slice",data:=.fields #[vl,vu,.none]}}
 exact tail_any (ops:=[.ref s3.heap.objs.size,v]) ht hT hg (by with_unfolding_all rfl)
noncomputable def YS(xs:Wp V)(lo hi:qR Int):Wp V:=(xs.drop (HT.sIx xs.length 0 lo)).take (HT.sIx xs.length xs.length hi-HT.sIx xs.length 0 lo)
def LB(xs:Wp V)(lo hi:qR Int):(YS xs lo hi).length<=xs.length:=by
 unfold YS
 rw[x5,List.length_drop]
 exact qU (vT _ _) (Nat.sub_le _ _)
def nX(K:W1):V->qR Int->qR Int->Hp->VK->Prop:=λx lo hi H Q=>∃a xs,x=.ref a/\SqT K H a xs/\
 ¬(HT.sIx xs.length 0 lo=0/\HT.sIx xs.length xs.length hi=xs.length)/\∀p,H p=none->Q (.ref p) (upd H p (.tup (YS xs lo hi)))
def ff:SlR X (nX X.K):=by
 intro pins s σ H x v vl vu lo hi sl Q I rx hs pl pu h
 obtain⟨a,xs,rfl,hx,hw,q⟩:=h
 cases rx
 obtain⟨its,r,ht,hz⟩:=I.tuple hx
 have hlen:its.toArray.size=xs.length:=by rw[qf];exact r.length.symm
 refine⟨"tuple",_,sE.lookup,ht.typeIs,?_⟩
 refine HT.Jw ht hs pl pu (by rw[hlen];exact hw) ?_ (by rw[hlen];exact hz)
 rw[hlen]
 refine⟨.ref s.heap.objs.size,_,I.laid (t':=s.toks) (o:=.tup (YS xs lo hi)) (λb ob q=>qO _ q) (qW _) ?_,rfl,q _ (I.hok.fresh (qW _))⟩
 exact⟨qU (LB xs lo hi) hz,_,(r.drop (HT.sIx xs.length 0 lo)).take (HT.sIx xs.length xs.length hi-HT.sIx xs.length 0 lo),va _ _⟩
noncomputable def jr(K:W1):R2:=λx y H Q=>∃a b xs ys,x=.ref a/\y=.ref b/\SqT K H a xs/\SqT K H b ys/\xs≠[]/\xs.length+ys.length<=sizeLine/\
 (ys=[]->Q (.ref a) H)/\(ys≠[]->∀p,H p=none->Q (.ref p) (upd H p (.tup (xs++ys))))
def Vals.Nj{xs:Wp V}{us:Wp qX}(r:Vals xs us):us=[]↔xs=[]:=by
 cases r with
 |nil=>simp
 |cons _ _=>simp
def bE:OpR X (binaryOp .Add) (jr X.K):=by
 intro pins s σ H x y v u Q I rx ry h
 obtain⟨a,b,xs,ys,rfl,rfl,ha,hb,hx,hz,q1,q2⟩:=h
 cases rx
 cases ry
 obtain⟨its,r1,p1,_⟩:=I.tuple ha
 obtain⟨its2,r2,p2,_⟩:=I.tuple hb
 refine HT.Z4 p1 p2 (λz=>hx (r1.Nj.mp z)) (λz=>⟨.ref a,H,I,rfl,q1 (r2.Nj.mp z)⟩) (λz=>?_) (by rw[<-r1.length,<-r2.length];exact hz)
 refine⟨.ref s.heap.objs.size,_,I.laid (t':=s.toks) (o:=.tup (xs++ys)) (λb ob q=>qO _ q) (qW _) ?_,rfl,q2 (λw=>z (r2.Nj.mpr w)) _ (I.hok.fresh (qW _))⟩
 exact⟨by rw[sA];exact hz,_,r1.append r2,va _ _⟩
end
end L2
namespace L2
open PySem PySem.Spec PyProof.Rows
noncomputable def ixN(n:Nat)(i:Int):qR Nat:=if 0<=i then(if i<n then Gc i.toNat else none)else if-(n:Int)<=i then Gc (i+n).toNat else none
noncomputable def atI{α:Type}(xs:Wp α)(i:Int):qR α:=(ixN xs.length i).bind λj=>xs[j]?
def VG{j:Nat}(h:ixN n i=Gc j):seqIndex? i n=Gc j/\j<n/\ -(n:Int)<=i/\i<n:=by
 unfold ixN at h
 by_cases h0:0<=i
 .rw[rB h0]at h
  by_cases h1:i<n
  .rw[rB h1]at h
   have e:i.toNat=j:=tH h
   exact⟨by rw[seqIndex_of h0 h1,e],by lia,by lia,h1⟩
  .rw[rA h1]at h;cases h
 .rw[rA h0]at h
  by_cases h1: -(n:Int)<=i
  .rw[rB h1]at h
   have e:(i+n).toNat=j:=tH h
   exact⟨by rw[seqIndex_neg (by lia) h1,e],by lia,h1,by lia⟩
  .rw[rA h1]at h;cases h
def Ux{v:α}(h:atI xs i=Gc v):∃j,seqIndex? i xs.length=Gc j/\xs[j]?=Gc v/\j<xs.length/\ -(xs.length:Int)<=i/\i<xs.length:=by
 unfold atI at h
 cases e:ixN xs.length i with
 |none=>rw[e]at h;cases h
 |some j=>
  rw[e]at h
  obtain⟨h1,h2,h3,h4⟩:=VG e
  exact⟨j,h1,h,h2,h3,h4⟩
def bM{j:Nat}{v:α}(h:xs[j]?=Gc v):atI xs (j:Int)=Gc v:=by
 have hj:j<xs.length:=(qV.mp h).1
 have e:ixN xs.length (j:Int)=Gc j:=by
  unfold ixN
  rw[rB (by lia),rB (by lia)];simp
 unfold atI;rw[e];exact h
def NQ{α:Type}(xs:Wp α)(v:α):atI (xs++[v]) (-1)=Gc v:=by
 have hl:(xs++[v]).length=xs.length+1:=by simp
 have e:ixN (xs++[v]).length (-1)=Gc xs.length:=by
  unfold ixN
  rw[hl,rA (by decide),rB (by lia)]
  congr 1
  lia
 unfold atI
 rw[e]
 show(xs++[v])[xs.length]?=Gc v
 simp
def OF(b:sG):Prop:=∀o i,subscripted b false o i=operate [o,i] (getItem o i)
def IxR(X:Cx)(r:R2):Prop:=
 ∀(value slice:sG) (pins:Wp (qg×Obj)) (s:qj) (σ:St) (H:Hp) (x y:V) (v u:qX) (Q:VK),Inv X pins σ H s->RelV x v->RelV y u->r x y H Q->
  subscripted slice false v u=operate [v,u] (getItem v u)->wpAny (model X.prog X.w) X.A (subscriptTail value slice v u) (EP X pins σ Q) X.xe s
def MtR(X:Cx)(id:ua)(r:V->Wp V->Hp->VK->Prop):Prop:=
 ∀(pins:Wp (qg×Obj)) (s:qj) (σ:St) (H:Hp) (x:V) (xs:Wp V) (v:qX) (us:Wp qX) (Q:VK),Inv X pins σ H s->RelV x v->Vals xs us->r x xs H Q->
  wpAny (model X.prog X.w) X.A (call (.builtin id) (v::us)) (EP X pins σ Q) X.xe s
section
variable{X:Cx}{a b:sG}{ta tb:TE}{pos:Pos}
def aV{r:R2}(hr:IxR X r)(ha:PE X a ta)(hb:PE X b tb)(hs:OF b):PE X (.Subscript a b pos) (tOp r ta tb):=by
 intro pins s σ H Q I h
 exact Subscript_ (lM ha hb I h λv u s2 x y H2 I2 rx ry q=>hr a b pins s2 σ H2 x y v u Q I2 rx ry q (hs _ _))
noncomputable def pZ(K:W1):R2:=λx y H Q=>∃p xs i v,x=.ref p/\y=.int i/\SqL K H p xs/\atI xs i=Gc v/\Q v H
noncomputable def pW(K:W1):R2:=λx y H Q=>∃p xs i v,x=.ref p/\y=.int i/\SqT K H p xs/\atI xs i=Gc v/\Q v H
def ar:IxR X (pZ X.K):=by
 intro value slice pins s σ H x y v u Q I rx ry h hs
 obtain⟨p,xs,i,z,rfl,rfl,hq,he,q⟩:=h
 cases rx
 obtain⟨t,rfl⟩:=ry
 obtain⟨its,r,pl,hz⟩:=I.list hq
 obtain⟨j,h1,h2,h3,h4,h5⟩:=Ux he
 obtain⟨w,ew,rw'⟩:=r.get h2
 have hl:=r.length
 have hn:=OQ
 have fin:EP X pins σ Q w s:=⟨z,H,I,rw',q⟩
 by_cases h0:0<=i
 .have hj:i.toNat=j:=by
   rw[seqIndex_of h0 h5]at h1
   exact tH h1
  exact item_listR pl.isList h0 (by lia) (by rw[hj];simpa using ew) fin hs
 .have hj:(i+(its.toArray.size:Int)).toNat=j:=by
   rw[seqIndex_neg (by lia) h4]at h1
   rw[qf,<-hl]
   exact tH h1
  exact yI (x:=w) pl.isList.typeIs zw.lookup
   (wpAny_getItem_list_neg (Q:=λr s'=>r=w/\EP X pins σ Q r s') pl.isList (by lia) (by rw[qf]<;>lia) (by lia) (by rw[hj];simpa using ew) ⟨rfl,fin⟩) hs
def fG:IxR X (pW X.K):=by
 intro value slice pins s σ H x y v u Q I rx ry h hs
 obtain⟨p,xs,i,z,rfl,rfl,hq,he,q⟩:=h
 cases rx
 obtain⟨t,rfl⟩:=ry
 obtain⟨its,r,pl,hz⟩:=I.tuple hq
 obtain⟨j,h1,h2,h3,h4,h5⟩:=Ux he
 obtain⟨w,ew,rw'⟩:=r.get h2
 have hl:=r.length
 have hn:=OQ
 have fin:EP X pins σ Q w s:=⟨z,H,I,rw',q⟩
 exact yI (x:=w) pl.typeIs sE.lookup
  (getItem_tuple (j:=j) (Q:=λr s'=>r=w/\EP X pins σ Q r s') pl (by lia) (by lia) (by rw[qf,<-hl];exact h1) (by simpa using ew) ⟨rfl,fin⟩) hs
def SJ(its:Wp qX) n j(u:qX):xP (·.setIfInBounds j u) {cls:=.type "list",data:=.seq its.toArray n}={cls:=.type "list",data:=.seq (its.set j u).toArray n}:=by
 simp[xP]
def Inv.lst{σ:St}(I:Inv X pins σ H s)(h:H p=Gc (.lst xs)):∃(its:Wp qX) (n:Nat),Vals xs its/\s.heap.get? p=Gc {cls:=.type "list",data:=.seq its.toArray n}/\xs.length<=sizeLine:=by
 obtain⟨z,its,n,r,e⟩:=I.hok p _ h
 exact⟨its,n,r,e,z⟩
def Inv.fT{σ:St}{its its':Wp qX}(I:Inv X pins σ H s)(h:H p=Gc (.lst xs))(ho:s.heap.get? p=Gc {cls:=.type "list",data:=.seq its.toArray n})(hf:f {cls:=.type "list",data:=.seq its.toArray n}={cls:=.type "list",data:=.seq its'.toArray n'})(r:Vals ys its')(hz:ys.length<=sizeLine)(t:Nat):Inv X pins σ (upd H p (.lst ys)) {s with heap:=s.heap.update p f,toks:=t}:=by
 have e:(s.heap.update p f).get? p=Gc {cls:=.type "list",data:=.seq its'.toArray n'}:=by
  rw[tU f ho (by rw[hf]<;>rfl),hf]
 refine I.write (x:=p) (e:=p) (by rw[h];trivial) (.inl rfl) (λb u hb q=>(sR _ _ (se hb)).trans q) ⟨_,e⟩ ?_
 exact⟨hz,its',n',r,e⟩
def jY:V->V->V->Hp->(Hp->Prop)->Prop:=λo i v H Q=>∃p xs k j,o=.ref p/\i=.int k/\H p=Gc (.lst xs)/\ixN xs.length k=Gc j/\Q (upd H p (.lst (xs.set j v)))
def set_list:mK X jY:=by
 intro pins s σ H o i v ov iv u Q I ro ri rv h
 obtain⟨p,xs,k,j,rfl,rfl,hp,hj,q⟩:=h
 cases ro
 obtain⟨t,rfl⟩:=ri
 obtain⟨its,n,r,ho,hz⟩:=I.lst hp
 obtain⟨h1,h2,h3,h4⟩:=VG hj
 have hl:=r.length
 have hn:=OQ
 have I':Inv X pins σ (upd H p (.lst (xs.set j v))) {s with heap:=s.heap.update p (xP (·.setIfInBounds j u))}:=
  I.fT hp ho (SJ its n j u) (r.set rv j) (by rw[tJ];exact hz) s.toks
 by_cases h0:0<=k
 .have hk:k.toNat=j:=by
   rw[seqIndex_of h0 h4]at h1
   exact tH h1
  exact PySem.W.ki_setAt ho h0 (by lia) (by rw[qf,<-hl];exact h4) (by rw[hk];exact⟨_,I',q⟩)
 .have hk:(k+(its.toArray.size:Int)).toNat=j:=by
   rw[seqIndex_neg (by lia) h3]at h1
   rw[qf,<-hl]
   exact tH h1
  exact PySem.W.ki_setBack ho (by lia) (by rw[qf,<-hl];exact h3) (by lia) (by rw[hk];exact⟨_,I',q⟩)
def Pa(lo hi:qR Int)(n:Nat):(sliceBounds lo hi none n).1=((HT.sIx n 0 lo:Nat):Int)/\(sliceBounds lo hi none n).2.1=((HT.sIx n n hi:Nat):Int)/\(sliceBounds lo hi none n).2.2=1:=by
 refine⟨?_,?_,rfl⟩
 .cases lo with
  |none=>simp[sliceBounds,HT.sIx]
  |some i=>
   simp only[sliceBounds,HT.sIx,Option.getD_none,show(1:Int)>0 by decide,wx]
   by_cases h:i<0
   .simp only[h,wx];rw[yW (xQ (by rw[yJ];exact vA h)),Int.max_comm,yY]
   .simp only[h,x9];rw[HT.Nh i n h,Int.max_eq_right (zR _)]
 .cases hi with
  |none=>simp[sliceBounds,HT.sIx]
  |some i=>
   simp only[sliceBounds,HT.sIx,Option.getD_none,show(1:Int)>0 by decide,wx]
   by_cases h:i<0
   .simp only[h,wx];rw[yW (xQ (by rw[yJ];exact vA h)),Int.max_comm,yY]
   .simp only[h,x9];rw[HT.Nh i n h,Int.max_eq_right (zR _)]
def N2(its:Wp qX)(lo hi:qR Int):slicePick its.toArray lo hi none=((its.drop (HT.sIx its.length 0 lo)).take (HT.sIx its.length its.length hi-HT.sIx its.length 0 lo)).toArray:=by
 obtain⟨h1,h2,h3⟩:=Pa lo hi its.toArray.size
 unfold slicePick
 rw[h1,h2,h3]
 simp only[sliceRange_one,pick_run,qf]<;>rfl
def oW(K:W1):V->qR Int->qR Int->Hp->VK->Prop:=λx lo hi H Q=>∃a xs,x=.ref a/\SqL K H a xs/\∀p,H p=none->Q (.ref p) (upd H p (.lst (YS xs lo hi)))
def Zc:SlR X (oW X.K):=by
 intro pins s σ H x v vl vu lo hi sl Q I rx hs pl pu h
 obtain⟨a,xs,rfl,hx,q⟩:=h
 cases rx
 obtain⟨its,r,ht,hz⟩:=I.list hx
 have hlen:=r.length
 refine⟨"list",_,zw.lookup,ht.isList.typeIs,?_⟩
 refine wpAny_getItem_list_slice ht.isList hs pl pu .none (by simp) ?_ (by rw[qf]<;>lia)
 rw[N2,<-hlen]
 refine⟨.ref s.heap.objs.size,_,I.laid (t':=s.toks) (o:=.lst (YS xs lo hi)) (λb ob q=>qO _ q) (qW _) ?_,rfl,q _ (I.hok.fresh (qW _))⟩
 exact⟨qU (LB xs lo hi) hz,_,0,(r.drop (HT.sIx xs.length 0 lo)).take (HT.sIx xs.length xs.length hi-HT.sIx xs.length 0 lo),qt _ rfl⟩
noncomputable def MB:V->sD
 | .non=>true
 | .bl _=>true
 | .int _=>true
 | .str _=>true
 |_=>false
noncomputable def eqV:V->V->sD
 | .non,.non=>true
 | .bl a,.bl b=>a==b
 | .bl a,.int b=>(if a then 1 else 0)==b
 | .int a,.bl b=>a==(if b then 1 else 0)
 | .int a,.int b=>a==b
 | .str a,.str b=>a==b
 |_,_=>false
def dC{u v:qX}(ry:RelV y u)(rx:RelV x v)(fy:MB y=true)(fx:MB x=true):SeqAt.EqAt A s u v (eqV y x):=by
 cases y with
 |non=>
  cases ry
  cases x with
  |non=>cases rx;exact SeqAt.EqAt.same _
  |bl b=>cases rx;exact SeqAt.EqAt.none_bool b
  |int b=>obtain⟨t,rfl⟩:=rx;exact SeqAt.EqAt.none_int b t
  |str b=>obtain⟨t,rfl⟩:=rx;exact SeqAt.EqAt.none_str b t
  |_=>exact absurd (show false=true from fx) rg
 |bl a=>
  cases ry
  cases x with
  |non=>cases rx;exact SeqAt.EqAt.bool_none a
  |bl b=>cases rx;exact SeqAt.EqAt.bool_bool a b
  |int b=>obtain⟨t,rfl⟩:=rx;exact SeqAt.EqAt.bool_int a b t
  |str b=>obtain⟨t,rfl⟩:=rx;exact SeqAt.EqAt.bool_str a b t
  |_=>exact absurd (show false=true from fx) rg
 |int a=>
  obtain⟨t',rfl⟩:=ry
  cases x with
  |non=>cases rx;exact SeqAt.EqAt.int_none a t'
  |bl b=>cases rx;exact SeqAt.EqAt.int_bool a t' b
  |int b=>obtain⟨t,rfl⟩:=rx;exact SeqAt.EqAt.int_int a t' b t
  |str b=>obtain⟨t,rfl⟩:=rx;exact zL a t' b t
  |_=>exact absurd (show false=true from fx) rg
 |str a=>
  obtain⟨t',rfl⟩:=ry
  cases x with
  |non=>cases rx;exact SeqAt.EqAt.str_none a t'
  |bl b=>cases rx;exact SeqAt.EqAt.str_bool a t' b
  |int b=>obtain⟨t,rfl⟩:=rx;exact zM a t' b t
  |str b=>obtain⟨t,rfl⟩:=rx;exact SeqAt.EqAt.str_str a t' b t
  |_=>exact absurd (show false=true from fx) rg
 |_=>exact absurd (show false=true from fy) rg
noncomputable def eqU(x:V)(u:qX):sD:=match u with
 | .none=>eqV .non x
 | .bool b=>eqV (.bl b) x
 | .int i _=>eqV (.int i) x
 | .str z _=>eqV (.str z) x
 |_=>false
def Yw{x y:V}{u:qX}(r:RelV y u)(f:MB y=true):eqU x u=eqV y x:=by
 cases y with
 |non=>cases r;rfl
 |bl b=>cases r;rfl
 |int i=>obtain⟨t,rfl⟩:=r;rfl
 |str z=>obtain⟨t,rfl⟩:=r;rfl
 |_=>exact absurd (show false=true from f) rg
theorem MC:∀{xs} {us:Wp qX},Vals xs us->xs.all MB=true->us.any (eqU x)=xs.any λy=>eqV y x
 |_,_,.nil,_=>rfl
 |y::xs,u::us,.cons r t,f=>by
  rw[vf,qe]at f
  rw[wV,wV,Yw r f.1,MC t f.2]
theorem JJ(rx:RelV x v)(fx:MB x=true):∀{xs} {us:Wp qX},Vals xs us->xs.all MB=true->∀u∈us,SeqAt.EqAt A s u v (eqU x u)
 |_,_,.nil,_=>λu hu=>by cases hu
 |y::xs,u::us,.cons r t,f=>λu' hu=>by
  rw[vf,qe]at f
  rcases qY.mp hu with rfl|hu
  .rw[Yw r f.1];exact dC r rx f.1 fx
  .exact JJ rx fx t f.2 u' hu
noncomputable def inV(x:V)(xs:Wp V):sD:=xs.any λy=>eqV y x
noncomputable def rIn(K:W1)(neg:sD):R2:=λx y H Q=>∃p xs,y=.ref p/\(SqL K H p xs\/SqT K H p xs)/\MB x=true/\xs.all MB=true/\Q (.bl (if neg then !inV x xs else inV x xs)) H
def UZ:OpR X (compareOp .In) (rIn X.K false):=by
 intro pins s σ H x y v u Q I rx ry h
 obtain⟨p,xs,rfl,hq,fx,fs,q⟩:=h
 cases ry
 rcases hq with hq|hq
 .obtain⟨its,r,pl,hz⟩:=I.list hq
  refine SeqAt.in_listAt (eqU x) pl.isList (λw hw=>JJ rx fx r fs w (by simpa using hw)) ⟨.bl _,H,I,rfl,?_⟩
  rw[show its.toArray.any (eqU x)=its.any (eqU x) by simp,MC r fs]
  exact q
 .obtain⟨its,r,pl,hz⟩:=I.tuple hq
  refine SeqAt.in_tupleAt (eqU x) pl (λw hw=>JJ rx fx r fs w (by simpa using hw)) ⟨.bl _,H,I,rfl,?_⟩
  rw[show its.toArray.any (eqU x)=its.any (eqU x) by simp,MC r fs]
  exact q
def PQ:OpR X (compareOp .NotIn) (rIn X.K true):=by
 intro pins s σ H x y v u Q I rx ry h
 obtain⟨p,xs,rfl,hq,fx,fs,q⟩:=h
 cases ry
 rcases hq with hq|hq
 .obtain⟨its,r,pl,hz⟩:=I.list hq
  refine SeqAt.notIn_listAt (eqU x) pl.isList (λw hw=>JJ rx fx r fs w (by simpa using hw)) ⟨.bl _,H,I,rfl,?_⟩
  rw[show its.toArray.any (eqU x)=its.any (eqU x) by simp,MC r fs]
  exact q
 .obtain⟨its,r,pl,hz⟩:=I.tuple hq
  refine SeqAt.notIn_tupleAt (eqU x) pl (λw hw=>JJ rx fx r fs w (by simpa using hw)) ⟨.bl _,H,I,rfl,?_⟩
  rw[show its.toArray.any (eqU x)=its.any (eqU x) by simp,MC r fs]
  exact q
def O2:EJ X (.builtin "len") (λxs H Q=>∃p ys,xs=[.ref p]/\(SqL X.K H p ys\/SqT X.K H p ys)/\Q (.int ys.length) H):=by
 intro pins s σ H xs us Q I r h
 obtain⟨p,ys,rfl,hq,q⟩:=h
 obtain⟨u,rfl,rx⟩:=vals1 r
 cases rx
 have hn:=OQ
 rcases hq with hq|hq
 .obtain⟨its,r',pl,hz⟩:=I.list hq
  have hlen:=r'.length
  exact Calls.call_len_list pl.isList (by simp only[qf]<;>lia) ⟨.int ys.length,H,I.tok _,⟨s.toks+1,by rw[qf,hlen]⟩,q⟩
 .obtain⟨its,r',pl,hz⟩:=I.tuple hq
  have hlen:=r'.length
  exact len_tuple pl (by simp only[qf]<;>lia) ⟨.int ys.length,H,I.tok _,⟨s.toks+1,by rw[qf,hlen]⟩,q⟩
def PH:EJ X (.builtin "len") (λxs H Q=>∃z,xs=[.str z]/\z.length<=sizeLine/\Q (.int z.length) H):=by
 intro pins s σ H xs us Q I r h
 obtain⟨z,rfl,hz,q⟩:=h
 obtain⟨u,rfl,t,rfl⟩:=vals1 r
 have hn:=OQ
 exact len_str (by lia) ⟨.int z.length,H,I.tok _,⟨_,rfl⟩,q⟩
def O5:EJ X (.type "list") (λxs H Q=>∃p ys,xs=[.ref p]/\(SqL X.K H p ys\/SqT X.K H p ys)/\∀l,H l=none->Q (.ref l) (upd H l (.lst ys))):=by
 intro pins s σ H xs us Q I r h
 obtain⟨p,ys,rfl,hq,q⟩:=h
 obtain⟨u,rfl,rx⟩:=vals1 r
 cases rx
 have fin:∀(its:Wp qX),Vals ys its->ys.length<=sizeLine->∀(h':sS) (c':Nat),(∀b o',s.heap.get? b=Gc o'->h'.get? b=Gc o')->
   h'.get? s.heap.objs.size=Gc {cls:=.type "list",dict:=none,data:=.seq its.toArray c',slots:= #[]}->EP X pins σ Q (.ref s.heap.objs.size) {s with heap:=h'}:=λits r' hz h' c' kp e=>
  ⟨.ref s.heap.objs.size,_,I.laid (t':=s.toks) kp (qW _) (show Ds X.prog X.w _ h' _ (.lst ys)from⟨hz,its,c',r',e⟩),rfl,q _ (I.hok.fresh (qW _))⟩
 rcases hq with hq|hq
 .obtain⟨its,r',pl,hz⟩:=I.list hq
  have hlen:=r'.length
  obtain⟨o,ho,hc,n,hd⟩:=pl.isList
  exact call_list_seq p (.inl rfl) ho hc hd (λh' c' kp e=>fin its r' hz h' c' kp e) (by simp only[qf]<;>lia)
 .obtain⟨its,r',pl,hz⟩:=I.tuple hq
  have hlen:=r'.length
  obtain⟨o,ho,hc,n,hd⟩:=pl
  exact call_list_seq p (.inr rfl) ho hc hd (λh' c' kp e=>fin its r' hz h' c' kp e) (by simp only[qf]<;>lia)
def NV:EJ X (.type "tuple") (λxs H Q=>∃p ys,xs=[.ref p]/\((SqL X.K H p ys/\∀l,H l=none->Q (.ref l) (upd H l (.tup ys)))\/(SqT X.K H p ys/\Q (.ref p) H))):=by
 intro pins s σ H xs us Q I r h
 obtain⟨p,ys,rfl,h⟩:=h
 obtain⟨u,rfl,rx⟩:=vals1 r
 cases rx
 rcases h with⟨hq,q⟩|⟨hq,q⟩
 .obtain⟨its,r',pl,hz⟩:=I.list hq
  have hlen:=r'.length
  refine call_tuple_list pl.isList (λh' kp=>?_) (by simp only[qf]<;>lia)
  have I1:Inv X pins σ H {s with heap:=h'}:=I.kept (t':=s.toks) kp
  have I2:Inv X pins σ (upd H h'.objs.size (.tup ys)) {s with heap:=h'.push {cls:=.type "tuple",data:=.seq its.toArray}}:=
   I1.laid (t':=s.toks) (λb o e=>qO _ e) (qW _) (show Ds X.prog X.w _ _ _ (.tup ys)from⟨hz,its,r',va _ _⟩)
  exact⟨.ref h'.objs.size,_,I2,rfl,q _ (I1.hok.fresh (qW _))⟩
 .obtain⟨its,r',pl,hz⟩:=I.tuple hq
  exact call_tuple_same pl ⟨.ref p,H,I,rfl,q⟩
def tyV(K:W1)(T:ua)(x:V)(H:Hp):Prop:=match x with
 | .str _=>T="str"
 | .int _=>T="int"
 | .ref p=>(T="list" /\∃xs,SqL K H p xs)\/(T="tuple" /\∃o,K.lookup p=Gc o/\o.cls=.type "tuple" /\o.dict=none)∨ (T="dict" /\((∃kvs,H p=Gc (.dK kvs))\/∃kvs,H p=Gc (.dT kvs)))\/(T="set" /\∃S n,H p=Gc (.set S n))
 |_=>tN
def Y4{σ:St}(I:Inv X pins σ H s)(r:RelV x v)(ty:tyV X.K T x H):s.TypeIs v T/\∀a,v=.ref a->∃ob,s.heap.get? a=Gc ob/\ob.dict=none:=by
 cases x with
 |str z=>
  obtain⟨t,rfl⟩:=r
  cases (show T="str" from ty)
  exact⟨yK s z t,λ_ e=>nomatch e⟩
 |int i=>
  obtain⟨t,rfl⟩:=r
  cases (show T="int" from ty)
  exact⟨wQ s i t,λ_ e=>nomatch e⟩
 |ref p=>
  cases r
  rcases ty with⟨rfl,xs,hq⟩|⟨rfl,o,hk,hc,hd⟩|⟨rfl,hk⟩|⟨rfl,S,n,hk⟩
  .obtain⟨its,_,pl,_⟩:=I.list hq
   refine⟨pl.isList.typeIs,λa e=>?_⟩
   cases e
   obtain⟨o,n,e,c,hd,_⟩:=pl
   exact⟨o,e,hd⟩
  .refine⟨⟨o,I.kIn p o hk,hc⟩,λa e=>?_⟩
   cases e
   exact⟨o,I.kIn _ o hk,hd⟩
  .have z:∃o,s.heap.get? p=Gc o/\o.ExactDict:=by
    rcases hk with⟨kvs,hk⟩|⟨kvs,hk⟩
    .obtain⟨_,_,_,_,o,_,_,e,ex,_⟩:=I.hok p _ hk
     exact⟨o,e,ex⟩
    .obtain⟨_,_,_,_,o,_,_,e,ex,_⟩:=I.hok p _ hk
     exact⟨o,e,ex⟩
   obtain⟨o,e,ex⟩:=z
   refine⟨⟨o,e,ex.1⟩,λa e2=>?_⟩
   cases e2
   exact⟨o,e,ex.2.1⟩
  .obtain⟨o,_,_,_,e,ex,_⟩:=I.hok p _ hk
   refine⟨⟨o,e,ex.1⟩,λa e2=>?_⟩
   cases e2
   exact⟨o,e,ex.2.1⟩
 |_=>exact rz ty
noncomputable def nO(K:W1)(T:ua)(r:V->Wp V->Hp->VK->Prop)(to:TE):TE:=λσ H Q=>to σ H λx H1=>tyV K T x H1/\r x [] H1 Q
noncomputable def tBM(K:W1)(T:ua)(r:V->Wp V->Hp->VK->Prop)(to:TE)(t:TA):TE:=λσ H Q=>to σ H λx H1=>tyV K T x H1/\t σ H1 λxs H2=>r x xs H2 Q
variable{o e:sG}{es:Wp sG}{to:TE}{t:TA}{name:Str}{apos cpos:Pos}{T id:ua}{r:V->Wp V->Hp->VK->Prop}
def cy(pa:PlainAttrs T)(slot:Slot T name id)(hty:typeOf (.builtin id)=pure (.type "method_descriptor"))(hm:MtR X id r)(ho:PE X o to)(hbase:zb (attributeBase o name X.env (eval o X.env)=eval o X.env) ww)(hline:zb ((apos.endLine==cpos.line)=true) ww):PE X (.Call (.Attribute o name apos) [] [] cpos) (nO X.K T r to):=by
 intro pins s σ H Q I h
 refine wpAny_Call_method0_late hbase hline (thn (ho pins s σ H _ I h) λv s1 z=>?_)
 obtain⟨x,H1,I1,r1,ty,q1⟩:=z
 obtain⟨h1,h2⟩:=Y4 I1 r1 ty
 exact⟨T,id,pa,slot,hty,h1,h2,yL rfl (PySem.evalArgs_none (hm pins s1 σ H1 x [] v [] Q I1 r1 .nil q1))⟩
def jS(pa:PlainAttrs T)(slot:Slot T name id)(hty:typeOf (.builtin id)=pure (.type "method_descriptor"))(hm:MtR X id r)(ho:PE X o to)(ha:PA X (e::es) t)(hbase:zb (attributeBase o name X.env (eval o X.env)=eval o X.env) ww)(hfew:zb (((backTo cpos (qc (e::es) X.env)).all (λx=> !x.1) && (backToKw cpos (keywordEach [] X.env)).all (λx=>x.1.isSome) && decide ((e::es).length+([]:Wp xZ).length+(if([]:Wp xZ).isEmpty then 0 else 1)<30))=true) ww)(hline:zb ((apos.endLine==cpos.line)=true) ww)(hs:zb (qc (e::es) X.env=(false,eval e X.env)::qc es X.env) ww)(hplain:zb ((backTo cpos (qc es X.env)).any (·.1)=false) ww):PE X (.Call (.Attribute o name apos) (e::es) [] cpos) (tBM X.K T r to t):=by
 intro pins s σ H Q I h
 refine wpAny_Call_method_late hbase hfew hline rfl (thn (ho pins s σ H _ I h) λv s1 z=>?_)
 obtain⟨x,H1,I1,r1,ty,q1⟩:=z
 obtain⟨h1,h2⟩:=Y4 I1 r1 ty
 refine⟨T,id,pa,slot,hty,h1,h2,?_⟩
 have hA:=ha cpos pins s1 σ H1 _ I1 q1
 rw[hs]at hA⊢
 refine yL (by show(false||(backTo cpos (qc es X.env)).any (·.1))=false;rw[hplain]<;>rfl) (yq ?_)
 exact thn hA λus s2 ⟨vs,H2,I2,r2,q2⟩=>hm pins s2 σ H2 x vs v us Q I2 r1 r2 q2
end
end L2
namespace L2
open PySem PySem.Spec PyProof.Rows
def MtM(X:Cx)(id:ua)(r:V->Wp V->Hp->VK->Prop):Prop:=
 ∀(pins:Wp (qg×Obj)) (s:qj) (σ:St) (H:Hp) (x:V) (xs:Wp V) (v:qX) (us:Wp qX) (Q:VK),Inv X pins σ H s->RelV x v->Vals xs us->r x xs H Q->
  wpAny (model X.prog X.w) X.A (call (.builtin id) (v::us)) (EP X pins σ Q) X.xe s
def Vals.one:∀{x:V} {us:Wp qX},Vals [x] us->∃u,us=[u]/\RelV x u:=λh=>by
 cases h with
 |cons r t=>cases t;exact⟨_,rfl,r⟩
def Vals.two:∀{x y:V} {us:Wp qX},Vals [x,y] us->∃u v,us=[u,v]/\RelV x u/\RelV y v:=λh=>by
 cases h with
 |cons r t=>
  cases t with
  |cons q t=>cases t;exact⟨_,_,rfl,r,q⟩
theorem Vals.zero:∀{us:Wp qX},Vals [] us->us=[]
 |_,.nil=>rfl
def Vals.dropLast{xs:Wp V}{us:Wp qX}(h:Vals xs us):Vals xs.dropLast us.dropLast:=by
 induction h with
 |nil=>exact .nil
 |cons r t ih=>
  cases t with
  |nil=>exact .nil
  |cons q t'=>exact .cons r ih
theorem Vals.eraseIdx:∀{xs} {us} (i:Nat),Vals xs us->Vals (xs.eraseIdx i) (us.eraseIdx i)
 |_,_,_,.nil=>.nil
 |_,_,0,.cons _ t=>t
 |_,_,i+1,.cons r t=>.cons r (Vals.eraseIdx i t)
theorem Vals.rep(h:Vals xs us):∀k:Nat,Vals (qk k xs).flatten (qk k us).flatten
 |0=>.nil
 |k+1=>by
  rw[sk,sk,ug,ug]
  exact Vals.append h (Vals.rep h k)
def R4{α:Type}(l:Wp α):l.eraseIdx (l.length-1)=l.dropLast:=by
 induction l with
 |nil=>rfl
 |cons a r ih=>
  cases r with
  |nil=>rfl
  |cons b r=>
   have e:(a::b::r).length-1=((b::r).length-1)+1:=by
    have h1:(a::b::r).length=r.length+2:=rfl
    have h2:(b::r).length=r.length+1:=rfl
    rfl
   rw[e,List.eraseIdx_cons_succ,ih]
   all_goals rfl
theorem PU{α:Type}:∀(l:Wp α) (i:Nat),(l.eraseIdx i).length<=l.length
 | [],_=>qW _
 |_::_,0=>yo _
 |_::r,i+1=>Nat.succ_le_succ (PU r i)
theorem foldl_rep its:∀k (acc:Wp qX),zS (λx1 x2=>x1++x2) acc.toArray (qk k its.toArray)=(acc++(qk k its).flatten).toArray
 |0,acc=>by simp
 |k+1,acc=>by
  have e:acc.toArray++its.toArray=(acc++its).toArray:=by simp
  have e2:(acc++its)++(qk k its).flatten=acc++(qk (k+1) its).flatten:=by
   rw[sk,ug,v8]
  rw[<-e2,<-foldl_rep its k (acc++its),<-e,sk,List.foldl_cons]
section
variable{X:Cx}{pins:Wp (qg×Obj)}{σ:St}{H:Hp}{s:qj}{l b:qg}{xs ys zs:Wp V}
def Inv.cw{its its':Wp qX}{t':Nat}(I:Inv X pins σ H s)(hH:H l=Gc (.lst xs))(e:s.heap.get? l=Gc {cls:=.type "list",data:=.seq its.toArray n})(hf:f its.toArray=its'.toArray)(hv:Vals ys its')(hz:ys.length<=sizeLine):Inv X pins σ (upd H l (.lst ys)) {s with heap:=s.heap.update l (xP f),toks:=t'}:=by
 have q:=PySem.IsL.update e f
 rw[hf]at q
 refine I.write (x:=l) (e:=l) (by rw[hH];exact trivial) (.inl rfl) (λb' u hb hu=>(sR s.heap (xP f) (se hb)).trans hu) ⟨_,q⟩ ?_
 exact⟨hz,its',_,hv,q⟩
def Inv.lq{its:Wp qX}{t':Nat}(I:Inv X pins σ H s)(hv:Vals ys its)(hz:ys.length<=sizeLine):Inv X pins σ (upd H s.heap.objs.size (.lst ys)) {s with heap:=s.heap.push {cls:=.type "list",data:=.seq its.toArray},toks:=t'}:=
 I.laid (λ_ _ q=>qO _ q) (qW _) ⟨hz,its,0,hv,qt _ rfl⟩
def Inv.fresh(I:Inv X pins σ H s):H s.heap.objs.size=none:=I.hok.fresh (qW _)
def Inv.WB(I:Inv X pins σ H s)(hH:H l=Gc (.lst xs)):xs.length<=sizeLine/\∃(its:Wp qX) (n:Nat),Vals xs its/\xs.length=its.length/\s.heap.get? l=Gc {cls:=.type "list",data:=.seq its.toArray n}:=by
 obtain⟨z,its,n,r,e⟩:=I.hok l _ hH
 exact⟨z,its,n,r,r.length,e⟩
def Nx{n:Nat}(h:n<=sizeLine):tE n=false:=by
 unfold tE
 exact uH (by lia)
end
section
variable{X:Cx}
def aI:V->Wp V->Hp->VK->Prop:=λx vs H Q=>∃l xs y,x=.ref l/\vs=[y]/\H l=Gc (.lst xs)/\xs.length<sizeLine/\Q .non (upd H l (.lst (xs++[y])))
def PL:MtM X "list.append" aI:=by
 intro pins s σ H x vs v us Q I rx rv h
 obtain⟨l,xs,y,rfl,rfl,hH,hz,q⟩:=h
 cases rx
 obtain⟨u,rfl,ru⟩:=rv.one
 obtain⟨z,its,n,r,hl,e⟩:=I.WB hH
 refine vM u5 ⟨_,e,rfl⟩ F.entry_list_append (F.args_list_append_2 _ _) (PySem.list_append l its.toArray n u (by rw[qf];lia)) ⟨e,?_⟩
 refine⟨.non,_,I.cw (its':=its++[u]) hH e (by simp) (r.append (.cons ru .nil)) ?_,rfl,q⟩
 rw[sA,yh]
 lia
def bF:V->Wp V->Hp->VK->Prop:=λx vs H Q=>∃l b xs zs,x=.ref l/\vs=[.ref b]/\H l=Gc (.lst xs)/\H b=Gc (.lst zs)/\xs.length+zs.length<=sizeLine/\Q .non (upd H l (.lst (xs++zs)))
def Ub:MtM X "list.extend" bF:=by
 intro pins s σ H x vs v us Q I rx rv h
 obtain⟨l,b,xs,zs,rfl,rfl,hH,hB,hz,q⟩:=h
 cases rx
 obtain⟨u,rfl,ru⟩:=rv.one
 cases ru
 obtain⟨z,its,n,r,hl,e⟩:=I.WB hH
 obtain⟨z2,its2,n2,r2,hl2,e2⟩:=I.WB hB
 have hsz:its.toArray.size+its2.toArray.size<=sizeLine:=by rw[qf,qf];lia
 have hlong:¬(!its.toArray.isEmpty && tE (its.toArray.size+its2.toArray.size))=true:=by
  rw[Nx hsz,Bool.and_false]
  exact rg
 refine vM zT ⟨_,e,rfl⟩ zF (yr _ _)
  (zx l its.toArray n b its2.toArray n2 hlong (by rw[qf];lia) (by lia)) ⟨e,e2,?_⟩
 refine⟨.non,_,I.cw (its':=its++its2) hH e (by simp) (r.append r2) ?_,rfl,q⟩
 rw[sA]
 lia
def pR:V->Wp V->Hp->VK->Prop:=λx vs H Q=>∃l xs y,x=.ref l/\vs=[]/\H l=Gc (.lst xs)/\xs[xs.length-1]?=Gc y/\Q y (upd H l (.lst xs.dropLast))
def dm:MtM X "list.pop" pR:=by
 intro pins s σ H x vs v us Q I rx rv h
 obtain⟨l,xs,y,rfl,rfl,hH,hy,q⟩:=h
 cases rx
 have hus:=rv.zero
 subst hus
 obtain⟨z,its,n,r,hl,e⟩:=I.WB hH
 obtain⟨u,hu,ru⟩:=r.get hy
 have hy':its.toArray[its.toArray.size-1]?=Gc u:=by
  show its.toArray[its.length-1]?=Gc u
  rw[<-yi,<-hl]
  exact hu
 refine vM u4 ⟨_,e,rfl⟩ F.entry_list_pop (F.args_list_pop_1 _) (MeetsSeq.list_pop_last l its.toArray n u hy' (by rw[qf];lia)) ⟨e,?_⟩
 refine⟨y,_,I.cw (its':=its.dropLast) hH e ?_ r.dropLast ?_,ru,q⟩
 .show its.toArray.eraseIdxIfInBounds (its.toArray.size-1)=its.dropLast.toArray
  rw[qf,wK,R4]
 .rw[List.length_dropLast]
  lia
def c9:V->Wp V->Hp->VK->Prop:=λx vs H Q=>∃l xs i k y,x=.ref l/\vs=[.int i]/\H l=Gc (.lst xs)/\ -(2^63)<=i/\i<2^63/\seqIndex? i xs.length=Gc k/\xs[k]?=Gc y/\Q y (upd H l (.lst (xs.eraseIdx k)))
def X1:MtM X "list.pop" c9:=by
 intro pins s σ H x vs v us Q I rx rv h
 obtain⟨l,xs,i,k,y,rfl,rfl,hH,h1,h2,hk,hy,q⟩:=h
 cases rx
 obtain⟨u,rfl,ru⟩:=rv.one
 obtain⟨t,rfl⟩:=ru
 obtain⟨z,its,n,r,hl,e⟩:=I.WB hH
 obtain⟨w,hw,rw'⟩:=r.get hy
 refine vM u4 ⟨_,e,rfl⟩ F.entry_list_pop (F.args_list_pop_2 _ _)
  (MeetsSeq.list_pop_at l its.toArray n i t k w (fitsIndex_both h1 h2) (by rw[qf,<-hl];exact hk) (by rw[<-yi];exact hw) (by rw[qf];lia)) ⟨e,?_⟩
 refine⟨y,_,I.cw (its':=its.eraseIdx k) hH e ?_ (r.eraseIdx k) ?_,rw',q⟩
 .show its.toArray.eraseIdxIfInBounds k=(its.eraseIdx k).toArray
  rw[wK]
 .have:=PU xs k
  lia
noncomputable def oJ:R2:=λx y H Q=>∃l b xs zs,x=.ref l/\y=.ref b/\H l=Gc (.lst xs)/\H b=Gc (.lst zs)/\xs.length+zs.length<=sizeLine/\∀p,H p=none->Q (.ref p) (upd H p (.lst (xs++zs)))
def cN:OpR X (binaryOp .Add) oJ:=by
 intro pins s σ H x y v u Q I rx ry h
 obtain⟨l,b,xs,zs,rfl,rfl,hH,hB,hz,q⟩:=h
 cases rx
 cases ry
 obtain⟨z,its,n,r,hl,e⟩:=I.WB hH
 obtain⟨z2,its2,n2,r2,hl2,e2⟩:=I.WB hB
 refine PySem.P.add_list e e2 ?_ (by rw[qf,qf];lia)
 have ea:its.toArray++its2.toArray=(its++its2).toArray:=by simp
 rw[ea]
 exact⟨.ref _,_,I.lq (t':=s.toks) (r.append r2) (by rw[sA];lia),rfl,q _ I.fresh⟩
noncomputable def nW:R2:=λx y H Q=>∃l k xs,x=.ref l/\y=.int k/\H l=Gc (.lst xs)/\ -(2^63)<=k/\k<2^63/\xs.length*k.toNat<=sizeLine/\
 ∀p,H p=none->Q (.ref p) (upd H p (.lst (qk k.toNat xs).flatten))
def len_rep{α:Type}(xs:Wp α)(k:Nat):(qk k xs).flatten.length=k*xs.length:=by
 induction k with
 |zero=>simp
 |succ k ih=>rw[sk,ug,sA,ih,zy,yM]
def cq:OpR X (binaryOp .Mult) nW:=by
 intro pins s σ H x y v u Q I rx ry h
 obtain⟨l,k,xs,rfl,rfl,hH,h1,h2,hz,q⟩:=h
 cases rx
 obtain⟨t,rfl⟩:=ry
 obtain⟨z,its,n,r,hl,e⟩:=I.WB hH
 have hlen:its.toArray.size*k.toNat<=sizeLine:=by rw[qf,<-hl];exact hz
 have hcap:¬its.toArray.size*k.toNat>(2^63-1) / 8:=by
  have:(sizeLine:Nat)<=(2^63-1) / 8:=by decide
  lia
 have hfit:¬(!Builtin.List.listFitsIndex k)=true:=by
  rw[fitsIndex_both h1 h2]
  exact rg
 have hlong:¬tE (its.toArray.size*k.toNat)=true:=by
  rw[Nx hlen]
  exact rg
 have hnew:zS (λx1 x2=>x1++x2) #[] (qk (if its.toArray.isEmpty=true then 0 else k.toNat) its.toArray)=(qk k.toNat its).flatten.toArray:=by
  have f0:∀m:Nat,zS (λx1 x2=>x1++x2) #[] (qk m its.toArray)=(qk m its).flatten.toArray:=λm=>by
   have:=foldl_rep its m []
   rw[rH]at this
   exact this
  rw[f0]
  cases its with
  |nil=>simp
  |cons a r'=>rw[rA (by simp)]
 refine vY (T:="list") (U:="int") (by decide) ⟨_,e,rfl⟩ (λs'=>wQ s' k t) noFill_list_mul yZ vE repeat_list yA.lookup
  (vM vE (wQ s k t) yB (xh _ _) (int___rmul___int_list k t l its.toArray n)
    ⟨e,rfl,⟨_,e,rfl⟩,vM F.slot_list_mul ⟨_,e,rfl⟩ F.entry_list_mul (F.args_list_mul_2 _ _) (zZ l its.toArray n k t hfit hcap hlong) ⟨e,?_⟩⟩)
 rw[hnew]
 exact⟨.ref _,_,I.lq (t':=s.toks) (r.rep k.toNat) (by rw[len_rep,uB];exact hz),rfl,q _ I.fresh⟩
end
section
variable{prog:sF}{w:tK}{A:uN}{E:qX->qj->Prop}{s:qj}
end
section
variable{X:Cx}
end
end L2
namespace Att
open PySem PySem.W PySem.Calls PyProof.Rows
def ints_of_wellAll:∀ns (vs:Wp qX),WellAll P h vs (ns.map WData.int)->ve vs ns:=by
 intro ns
 induction ns with
 |nil=>
  intro vs w
  rw[sQ]at w
  cases w
  exact .nil
 |cons n ns ih=>
  intro vs w
  rw[qq]at w
  cases w with
  |cons a b=>
   cases a
   exact .cons _ _ (ih _ b)
def script_of{l:yF}(hn:l.most=Gc n)(hpre:l.row.toRowW.claim.pre args=true)(hwl:WellAll P h vals args):∃a vs ns,vals=[q9 a]/\args=[WData.list (ns.map WData.int)]/\h.get? a=Gc {cls:=.type "list",data:=.seq vs.toArray}/\ve vs ns/\ns.length<=n:=by
 have hsh:WShape.hasAll [] args [.list .int]=true:=(pre_splitW hpre).1
 have hc:l.pre.holds [] {args:=args}=true:=(pre_splitW hpre).2
 obtain⟨d,r,rfl,h1,h2⟩:=hasAllW_cons hsh
 obtain rfl:=hasAllW_nil h2
 obtain⟨xs,rfl,h3⟩:=hasW_list h1
 obtain⟨ns,rfl⟩:=items_int h3
 have hlen:ns.length<=n:=by
  unfold OpenLaw.pre at hc
  have h4:(WTm.not (.lt (.lit (.int (n:Int))) (.len (.arg 0)))).holds [] {args:=[.list (ns.map .int)]}=true:=by
   have h4:=(holds_andW hc).1
   rw[hn]at h4
   exact h4
  have h5:=condW_of h4 (w_not (w_lt w_lit (w_len_list (w_arg rfl))))
  rw[rG]at h5
  refine Nat.le_of_not_lt λq=>?_
  have q':(n:Int)<((ns.length:Nat):Int):=by lia
  first
   |(rw[si q']at h5;exact absurd h5 (by decide))
   |(simp at h5;lia)
 cases hwl with
 |cons w1 w2=>
  cases w2
  cases w1 with
  |list ho hall=>exact⟨_,_,ns,rfl,rfl,ho,ints_of_wellAll ns _ hall,hlen⟩
def post_true(l:yF)(args:Wp WData):l.row.toRowW.claim.post args (.bool true) args=true:=
 postW_of (r:=l.row.toRowW) (X:=(true==true))
  (show WShape.has [] (.bool true) .bool=true by first|rfl|decide|simp[WShape.has,WShape.arms,WShape.armsAll])
  (show(WTm.eq .res (.lit (.bool true))).value [] {args:=args,res:=Gc (.bool true),after:=args}=Gc (.bool (true==true))from w_eq_bool (w_res rfl) w_lit) rfl
def attach_call{l:yF}(hn:l.most=Gc n)(hdf:d.params.defaults=[])(call:∀w s₀ s₁ mg mb fa o pm cd doc a vs ns,Ground q loose [] XP w s₀ mg mb s₁.heap->YP w s₁.heap->s₁.heap.get? fa=Gc o->o.data=.func (docDef d.name d.params d.body d.scope pm cd doc)->s₁.heap.CodeRec cd d.name->mg d.name=Gc (.ref fa)->s₁.heap.get? a=Gc {cls:=.type "list",data:=.seq vs.toArray}->ve vs ns->ns.length<=n->s₁.gens= #[]->codeAny (model l.prog w) callerA (.call (.ref fa) ⟨[.ref a],[]⟩) (λr s'=>r=.ok (.ret (.bool true))/\OldK s₁.heap s'.heap/\s'.os=s₁.os/\vt s'.gens) s₁):WalkO q loose XP YP l.row.toRowW d [] (λf vs=>PySem.call f vs):=by
 intro w s₀ s₁ mg mb G Y fa o pm cd doc dV kV ho hd hcd hD hmg hg args vals as hpre hlay hrd hwl hlo
 obtain rfl:dV=.none:=Dflts.none hD hdf
 obtain rfl:kV=.none:=Dflts.noKw hD
 obtain⟨a,vs,ns,rfl,rfl,hobj,hints,hlen⟩:=script_of hn hpre hwl
 refine enter_call (vS (call w s₀ s₁ mg mb fa o pm cd doc a vs ns G Y ho (fd_plain hd) hcd hmg hobj hints hlen hg) λr s' hq=>?_)
 obtain⟨rfl,h2,h3,h4⟩:=hq
 exact⟨.inl ⟨.bool true,.bool true,[],rfl,λ_=>rfl,.bool true,post_true l _,λ_=>⟨z5,λ_ hm=>(nomatch hm)⟩⟩,h2,h3,h4⟩
section
variable{prog:sF}{w:tK}{A:uN}{E:qX->qj->Prop}{s:qj}{K:W1}
end
end Att
namespace L2
open PySem PySem.Spec PyProof.Rows
theorem OM:∀{vs:Wp qX} {ns:Wp Int},ve vs ns->Vals (ns.map V.int) vs
 |_,_,.nil=>.nil
 |_,_,.cons n t h=>.cons ⟨t,rfl⟩ (OM h)
end L2
namespace L2
open PySem PySem.Spec PyProof.Rows
abbrev KOf{K:W1}{h:sS}(_:K.In h):W1:=K
end L2
namespace L2
open PySem PySem.Spec PyProof.Rows
noncomputable def inClass(s:rQ)(j:Nat):rQ:=match s with
 | .ClassDef _ _ _ body _ _ _ _ _ _ _=>body.getD j (.Pass ⟨0,0,0,0⟩)
 |_=>.Pass ⟨0,0,0,0⟩
noncomputable def GV(s:rQ):Arguments:=match s with
 | .FunctionDef _ a _ _ _ _ _ _ _ _=>a
 |_=>{posonlyargs:=[],args:=[],vararg:=none,kwonlyargs:=[],kw_defaults:=[],kwarg:=none,defaults:=[]}
noncomputable def A8(s:rQ):Wp rQ:=match s with
 | .FunctionDef _ _ b _ _ _ _ _ _ _=>b
 |_=>[]
noncomputable def AB(s:rQ):tu:=match s with
 | .FunctionDef _ _ _ _ _ _ sc _ _ _=>sc
 |_=>{kind:=.function,names:=[],isGenerator:=false,isCoroutine:=false}
abbrev CX0:CXT:=λ_ _ _ _ _ _=>tN
abbrev E0:XK:=λ_ _ _=>tN
def VP{X:Cx}:Passes CX0 X E0:=λ_ _ _ _ _ _ _ h=>h.elim
structure Fun(K:W1)(x qual:Str)(st:rQ)(f:qg)(fd:wY):Prop where
 ex:∃(oc:qX) (od:qR qg) (kV doc pm:qX) (an:qR qg) (cdv ct:qX) (osl:wL (qR qX)),
  fd=uA x qual (GV st) (A8 st) (AB st) .none kV doc pm an cdv ct/\K.lookup f=Gc ⟨oc,od,.func fd,osl⟩/\vL K cdv qual=true
 kp:sL K (.ref f)=true
section
variable{P:sF}{w:tK}{K:W1}{mg:Str->qR qX}{base:sS}
def Fun.ok{st:rQ}(F:Fun K x qual st f fd)(S:Av N ps (AB st))(len:∀vs H Q E,sp vs H Q E->vs.length=ps.length)(hbody:∀cdv A outer s H vs Q E,Cb k (A.deeper (envOfC qual (AB st) s.heap.objs.size f cdv))->sp vs H Q E->∃t,PSs (Ij CX0 P w K mg base N qual (AB st) f cdv A outer s H E).nox (A8 st) t/\t {nx:=λ_ H'=>Q .non H',rt:=Q} (start N vs) H):Ka P w K mg base CX0 (k+1) f fd ps sp:=by
 obtain⟨oc,od,kV,doc,pm,an,cdv,ct,osl,rfl,lk,hcd⟩:=F.ex
 refine XG lk hcd S len λA outer s H vs Q E hr hsp=>?_
 obtain⟨t,h,q⟩:=hbody cdv A outer s H vs Q E hr hsp
 exact⟨t,h.nox,q⟩
def Fun.binds{st:rQ}(F:Fun K x qual st f fd)(h:∀kV doc pm an cdv ct us,us.length=ps.length->bindArgs (uA x qual (GV st) (A8 st) (AB st) .none kV doc pm an cdv ct) ⟨us,[]⟩=pure (ps.zip us)):Binds K fd ps []:=by
 obtain⟨oc,od,kV,doc,pm,an,cdv,ct,osl,rfl,lk,hcd⟩:=F.ex
 exact .all (h kV doc pm an cdv ct)
def UI{st:rQ}{kV doc pm cdv ct:qX}(l:K.lookup f=Gc ⟨oc,od,.func (uA x qual (GV st) (A8 st) (AB st) .none kV doc pm an cdv ct),osl⟩)(c:vL K cdv qual=true)(k:sL K (.ref f)=true):Fun K x qual st f (uA x qual (GV st) (A8 st) (AB st) .none kV doc pm an cdv ct):=⟨⟨oc,od,kV,doc,pm,an,cdv,ct,osl,rfl,l,c⟩,k⟩
end
section
variable{X:Cx}
end
def Y0{A B:Prop}(h:B):if false=true then A else B:=by
 rw[rA rg]
 exact h
def Y3{A B:Prop}(h:A):if true=true then A else B:=by
 rw[rB rfl]
 exact h
def Bt(H H':Hp):Prop:=∀b o,H b=Gc o->H' b=Gc o
end L2
end
noncomputable section
namespace L2
open PySem PySem.Spec PyProof.Rows
noncomputable def FG(cells:Wp (Str×qg)):Wp (Str×xy)->Wp (Str×qg)->Wp (Str×qg)
 | [],cs=>cs
 |(n,k)::r,cs=>if(k==sM)=true then FG cells r ((n,(cells.lookup n).getD 0)::cs)else FG cells r cs
def OY:∀names cs,(∀y∈names,y.2=.free->∃a,env.cells.lookup y.1=Gc a)->(forIn names cs λx r=>match x with|(name,kind)=>if(kind==sM)=true then(do let a<-cellOf env name;pure (wc ((name,a)::r)))else pure (wc r):Sem (Wp (Str×qg)))=pure (FG env.cells names cs)
 | [],cs,_=>by simp[FG]
 |(n,k)::r,cs,h=>by
  rw[ya]
  have ih:=λcs=>OY r cs λy hy=>h y (qa _ hy)
  by_cases hk:(k==sM)=true
  .obtain⟨a,ha⟩:=h (n,k) qh (by simpa using hk)
   have ha':env.cells.lookup n=Gc a:=ha
   have e:cellOf env n=pure a:=by unfold cellOf;rw[ha']
   simp only[hk,wx,e,pure_bind,FG,ha',Option.getD_some]
   exact ih _
  .simp only[hk,x9,pure_bind,FG]
   exact ih _
def Ng(h:∀y∈scope.names,y.2=.free->∃a,env.cells.lookup y.1=Gc a):closureFor scope env=pure (FG env.cells scope.names []):=by
 unfold closureFor
 have:=OY (env:=env) scope.names [] h
 simp only[bind_pure]at this⊢
 exact this
theorem JZ:∀{names} {cs},(∀y∈names,y.2=.free->∃a,cells.lookup y.1=Gc a)->(FG cells names cs).lookup x=Gc c->cs.lookup x=Gc c\/cells.lookup x=Gc c
 | [],cs,_,h=>.inl h
 |(n,k)::r,cs,hh,h=>by
  have hr:∀y∈r,y.2=.free->∃a,cells.lookup y.1=Gc a:=λy hy=>hh y (qa _ hy)
  unfold FG at h
  by_cases hk:(k==sM)=true
  .rw[rB hk]at h
   rcases JZ hr h with q|q
   .obtain⟨a,ha⟩:=hh (n,k) qh (by simpa using hk)
    have ha':cells.lookup n=Gc a:=ha
    rw[rZ]at q
    cases hx:x==n with
    |true=>
     rw[hx,ha']at q
     have e:x=n:=by simpa using hx
     subst e
     cases q
     exact .inr ha'
    |false=>
     rw[hx]at q
     exact .inl q
   .exact .inr q
  .rw[rA hk]at h
   exact JZ hr h
theorem F4:∀{names} {cs},((x,sM)∈names\/∃c,cs.lookup x=Gc c)->∃c,(FG cells names cs).lookup x=Gc c
 | [],cs,h=>h.elim (λz=>nomatch z) id
 |(n,k)::r,cs,h=>by
  unfold FG
  by_cases hk:(k==sM)=true
  .rw[rB hk]
   refine F4 ?_
   by_cases hx:x=n
   .subst hx
    exact .inr ⟨_,by rw[rZ,yC]⟩
   .rcases h with h|⟨c,h⟩
    .rcases qY.mp h with e|e
     .cases e;exact absurd rfl hx
     .exact .inl e
    .refine .inr ⟨c,?_⟩
     rw[rZ,show(x==n)=false by simpa using hx]
     exact h
  .rw[rA hk]
   refine F4 ?_
   rcases h with h|h
   .rcases qY.mp h with e|e
    .cases e;exact absurd rfl hk
    .exact .inl e
   .exact .inr h
theorem KY{env:Env}:∀{names:Wp (Str×xy)},names.lookup x=Gc .free->(names.map λ(n,k)=>if(k==sM && env.scope.kind== .function && env.kindOf n==Gc .cell)then(n,vG)else(n,k)).lookup x=Gc .cell\/(names.map λ(n,k)=>if(k==sM && env.scope.kind== .function && env.kindOf n==Gc .cell)then(n,vG)else(n,k)).lookup x=Gc .free
 | [],h=>by simp at h
 |(n,k)::r,h=>by
  have ih:= @KY x env r
  show tO x ((if(k==sM && env.scope.kind== .function && env.kindOf n==Gc .cell)=true then(n,vG)else(n,k))::_)=_\/tO x ((if(k==sM && env.scope.kind== .function && env.kindOf n==Gc .cell)=true then(n,vG)else(n,k))::_)=_
  cases hx:x==n with
  |true=>
   simp only[rZ,hx]at h
   cases h
   by_cases hc:(sM==sM && env.scope.kind== .function && env.kindOf n==Gc .cell)=true
   .rw[rB hc];simp only[rZ,hx];exact .inl trivial
   .rw[rA hc];simp only[rZ,hx];exact .inr trivial
  |false=>
   simp only[rZ,hx]at h
   by_cases hc:(k==sM && env.scope.kind== .function && env.kindOf n==Gc .cell)=true
   .rw[rB hc];simp only[rZ,hx];exact ih h
   .rw[rA hc];simp only[rZ,hx];exact ih h
def LO(hk:k'=.cell\/k'=.free)(h:(relabel scope env).names.lookup x=Gc k'):(x,sM)∈scope.names\/(x,vG)∈scope.names:=by
 have hm:=rY h
 obtain⟨⟨n,k⟩,hy,e⟩:=rS.mp (show(x,k')∈scope.names.map _ from hm)
 by_cases hc:(k==sM && env.scope.kind== .function && env.kindOf n==Gc .cell)=true
 .simp only[hc,wx]at e
  cases e
  have:k=.free:=by
   have:=((qe _ _).mp hc).1
   exact uJ.mp ((qe _ _).mp this).1
  subst this
  exact .inl hy
 .simp only[hc,x9]at e
  cases e
  rcases hk with rfl|rfl
  .exact .inr hy
  .exact .inl hy
theorem Bn:∀names n cs,cellsFrom n names cs=cellsFrom n names []++cs
 | [],_,_=>rfl
 |(x,k)::r,n,cs=>by
  unfold cellsFrom
  split
  .rw[Bn r _ ((x,n)::cs),Bn r _ [(x,n)]];simp
  .exact Bn r n cs
theorem GP:∀{names} {n},(x,c)∈cellsFrom n names []->(x,vG)∈names
 | [],_,h=>nomatch h
 |(y,k)::r,n,h=>by
  unfold cellsFrom at h
  split at h
  .rename_i hk
   rw[Bn]at h
   rcases rE.mp h with z|z
   .exact qa _ (GP z)
   .have e:=rD.mp z
    cases e
    rw[uJ.mp hk]
    exact qh
  .exact qa _ (GP h)
def KC(hQ:∀h',h'.Ns s.heap.objs.size (λ_=>none)->(∀b o,s.heap.get? b=Gc o->h'.get? b=Gc o)->CellsOk h' (s.heap.objs.size+1) (cellsFrom (s.heap.objs.size+1) scope.names [])->Q (newEnv scope s.heap.objs.size globals (cellsFrom (s.heap.objs.size+1) scope.names cl) qual none .none (Gc env) builtinsNs) {s with heap:=h'}):wpAny M A (newFunctionEnv scope globals cl [] qual none .none (Gc env)) Q E s:=by
 simp only[newFunctionEnv,Option.isSome_some,wx]
 refine qP (wpAny_alloc ?_)
 refine qP (wpAny_layCells _ (λname kind cells=>by cases hkc:kind==vG<;>simp[hkc]) _ _ _ _ ?_)
 have ok:=cellsFrom_ok scope.names (s.heap.push {cls:=.type "dict",data:=.dict #[]}) (s.heap.objs.size+1) [] ⟨λ_ _ hm=>(nomatch hm),z5⟩ (by rw[sT];exact qW _)
 rw[sT]at ok
 rw[show({s with heap:=s.heap.push {cls:=.type "dict",data:=.dict #[]}}:qj).heap.objs.size=s.heap.objs.size+1 from sT ..]
 rw[yt]
 refine qP (qm (qm ?_))
 exact hQ _ ((Heap.Ns.new s.heap (.type "dict")).keeps (pushCells_keeps _ _)) (λb o e=>pushCells_keeps _ _ b o (qO _ e)) ok
end L2
end
noncomputable section
namespace L2
open PySem PySem.Spec PyProof.Rows
noncomputable def Qr(N:Wp Str)(osc scope:tu):Wp Str->Wp (qR Nat)->sD
 | [],[]=>true
 |_::r,none::q=>Qr N osc scope r q
 |x::r,Gc i::q=>decide (N[i]?=Gc x) && (decide (osc.names.lookup x=Gc .cell)||decide (osc.names.lookup x=Gc .free)) && decide (scope.names.lookup x=Gc .free) && Qr N osc scope r q
 |_,_=>false
theorem Vw:∀{N'} {ix},Qr N osc scope N' ix=true->ix.length=N'.length
 | [],[],_=>rfl
 |_::r,none::q,h=>by
  unfold Qr at h
  simp[Vw h]
 |x::r,Gc i::q,h=>by
  unfold Qr at h
  have:=((qe _ _).mp h).2
  simp[Vw this]
 | [],_::_,h=>by simp[Qr]at h
 |_::_,[],h=>by simp[Qr]at h
theorem ZA:∀{N'} {ix},Qr N osc scope N' ix=true->∀{j i:Nat} {x},N'[j]?=Gc x->ix[j]?=Gc (Gc i)->N[i]?=Gc x/\(osc.names.lookup x=Gc .cell\/osc.names.lookup x=Gc .free)/\scope.names.lookup x=Gc .free
 | [],[],_,j,_,_,h,_=>by simp at h
 |_::r,none::q,h,j,i,x,h1,h2=>by
  unfold Qr at h
  cases j with
  |zero=>simp at h2
  |succ j=>exact ZA h (by simpa using h1) (by simpa using h2)
 |y::r,Gc k::q,h,j,i,x,h1,h2=>by
  unfold Qr at h
  obtain⟨ha,hr⟩:=(qe _ _).mp h
  obtain⟨ha,h3⟩:=(qe _ _).mp ha
  obtain⟨h4,h5⟩:=(qe _ _).mp ha
  cases j with
  |zero=>
   simp at h1 h2
   subst h1 h2
   refine⟨qi h4,?_,qi h3⟩
   rcases(sJ _ _).mp h5 with z|z
   .exact .inl (qi z)
   .exact .inr (qi z)
  |succ j=>exact ZA hr (by simpa using h1) (by simpa using h2)
 | [],_::_,h,_,_,_,_,_=>by simp[Qr]at h
 |_::_,[],h,_,_,_,_,_=>by simp[Qr]at h
structure AQ(N:Wp Str)(osc:tu)(N':Wp Str)(ix:Wp (qR Nat))(scope:tu):Prop where
 kind:scope.kind=.function
 cells:∀y∈scope.names,y.2=.cell->scope.names.lookup y.1=Gc .cell
 names:∀y∈scope.names,y.2=.local->scope.names.lookup y.1=Gc .local
 free:∀y∈scope.names,y.2=.free->(osc.names.lookup y.1=Gc .cell\/osc.names.lookup y.1=Gc .free)
 ok:Qr N osc scope N' ix=true
noncomputable def sig(ix:Wp (qR Nat))(σ:St):St:=ix.map λo=>o.bind λi=>(σ[i]?).join
noncomputable def Hg(X:Cx)(N':Wp Str)(scope:tu)(s:qj)(H:Hp)(fp:Wp qg):Cx where
 prog:=X.prog
 w:=X.w
 K:=X.K
 mg:=X.mg
 base:=X.base
 A:=X.A
 N:=N'
 s₀:=s
 H₀:=H
 env:=compEnvC scope (cellsFrom (s.heap.objs.size+1) scope.names (FG X.env.cells scope.names [])) s.heap.objs.size X.env
 outer:=X.stack
 stack:=X.stack
 ex:=fp
 fn:=λx=>decide (scope.names.lookup x=Gc .cell)
 calm:=true
 pn:=[]
 xe:=λ_ _=>tN
section
variable{X:Cx}{σ:St}{H:Hp}{s:qj}{N':Wp Str}{scope:tu}{fp:Wp qg}
def Inv.cellsOf(I:Inv X pins σ H s)(S:AQ X.N X.env.scope N' ix scope):∀y∈scope.names,y.2=.free->∃a,X.env.cells.lookup y.1=Gc a:=λy hy hk=>I.ok.has y.1 (S.free y hy hk)
def Wn(S:AQ X.N X.env.scope N' ix scope)(hc:X.calm=true)(I:Inv X pins σ H s)(hf:∀b∈fp,Pu X pins H b)(hlt:∀b∈fp,b<s.heap.objs.size)(hn:h1.Ns s.heap.objs.size m1)(hk:∀b o,s.heap.get? b=Gc o->h1.get? b=Gc o)(hC:CellsOk h1 (s.heap.objs.size+1) (cellsFrom (s.heap.objs.size+1) scope.names [])):Inv (Hg X N' scope s H fp) [] (sig ix σ) H {s with heap:=h1,toks:=tk}:=by
 have hcl:=I.cellsOf S
 have sub:∀{x:Str} {c:qg},(FG X.env.cells scope.names []).lookup x=Gc c->X.env.cells.lookup x=Gc c:=λ{x c} h=>by
  rcases JZ hcl h with z|z
  .simp at z
  .exact z
 have old:∀{x:Str} {c:qg},X.env.cells.lookup x=Gc c->c<s.heap.objs.size:=λ{x c} h=>by
  obtain⟨v,oc,ho,_⟩:=I.cell x c h
  exact ql ho
 have look:∀{x:Str} {c:qg},(cellsFrom (s.heap.objs.size+1) scope.names (FG X.env.cells scope.names [])).lookup x=Gc c->(x,c)∈cellsFrom (s.heap.objs.size+1) scope.names []\/X.env.cells.lookup x=Gc c:=λ{x c} h=>by
  rw[Bn,vp]at h
  cases e:(cellsFrom (s.heap.objs.size+1) scope.names []).lookup x with
  |some a=>rw[e]at h;cases h;exact .inl (rY e)
  |none=>rw[e]at h;exact .inr (sub h)
 refine⟨⟨I.ok.mod,S.kind,I.ok.glob,I.ok.blt,qW _,λx y c h1 h2=>?_,λx hx=>?_,λx c hx h=>?_,λ_=>I.ok.hd hc,I.ok.frames,.inl rfl,λb hb=>?_,I.bs,qU I.ok.bsz I.sz,λb o e hb=>?_,λb hb hs=>?_,I.stack,I.QT⟩,
  rfl,I.bare,Un.kept hk,⟨m1,hn,λj x v h1 h2 h3=>?_⟩,λx c h=>?_,I.hok.fresh (qW _),λx c h=>?_,λp hp=>absurd (show p∈([]:Wp (qg×Obj))from hp) (by simp),I.hok.kept hk,?_⟩
 . -- inj
   rcases look h1 with a|a<;>rcases look h2 with b|b
   .exact name_of_addr hC.apart a b
   .exact absurd (qS (old b) (vI (hC.empty _ _ a).2)) (sV _)
   .exact absurd (qS (old a) (vI (hC.empty _ _ b).2)) (sV _)
   .exact I.ok.inj x y c a b
 . -- has
   have hx':(relabel scope X.env).names.lookup x=Gc .cell\/(relabel scope X.env).names.lookup x=Gc .free:=hx
   show∃c,(cellsFrom (s.heap.objs.size+1) scope.names (FG X.env.cells scope.names [])).lookup x=Gc c
   rw[Bn,vp]
   cases e:(cellsFrom (s.heap.objs.size+1) scope.names []).lookup x with
   |some a=>exact⟨a,rfl⟩
   |none=>
    rcases(hx'.elim (LO (.inl rfl)) (LO (.inr rfl)))with z|z
    .exact F4 (.inl z)
    .obtain⟨c,hc⟩:=Kt (n:=s.heap.objs.size+1) (S.cells _ z rfl)
     rw[e]at hc;cases hc
 . -- cab
   obtain⟨c',hc'⟩:=Kt (n:=s.heap.objs.size+1) (qi hx)
   have h:(cellsFrom (s.heap.objs.size+1) scope.names (FG X.env.cells scope.names [])).lookup x=Gc c:=h
   rw[Bn,vp,hc']at h
   cases h
   exact vI (hC.empty _ _ (rY hc')).2
 . -- exf
   refine⟨rK (hlt b hb),λx c h=>?_⟩
   rcases look h with a|a
   .exact λe=>absurd (qS (e▸hlt b hb) (vI (hC.empty _ _ a).2)) (sV _)
   .exact(hf b hb).2.2.2.2.1 x c a
 . -- X7
   rcases(hf b hb).2.2.2.1 with z|z
   .exact I.ok.X7 b o e z
   .exact absurd (qS (ql (I.ok.bs b o e).1) z) (sV _)
 . -- aP
   rcases qY.mp (I.Vl b hs)with z|z
   .exact(hf b hb).2.1 z
   .exact(hf b hb).2.2.1 z
 . -- loc
   unfold sig at h2
   rw[qw]at h2
   cases e:ix[j]? with
   |none=>rw[e]at h2;cases h2
   |some o=>
    rw[e]at h2
    cases o with
    |none=>cases h2
    |some i=>
     have h2':(σ[i]?).join=Gc v:=by simpa using h2
     have h4:σ[i]?=Gc (Gc v):=by
      cases e4:σ[i]? with
      |none=>rw[e4]at h2';cases h2'
      |some q=>rw[e4]at h2';exact congrArg Gc h2'
     obtain⟨q1,q2,q3⟩:=ZA S.ok h1 e
     obtain⟨m,_,hl⟩:=I.loc
     obtain⟨u,r,l⟩:=hl i x v q1 h4 (q2.elim (λz=>.inr (.inl z)) λz=>.inr (.inr z))
     refine⟨u,r,?_⟩
     rcases l with⟨l,_⟩|⟨_,c,lc,z⟩
     .have l':X.env.scope.names.lookup x=Gc .local:=l
      rcases q2 with z|z<;>(rw[z]at l';cases l')
     .refine .inr ⟨KY q3,?_⟩
      obtain⟨c',hc'⟩:=F4 (cells:=X.env.cells) (cs:=[]) (.inl (rY q3))
      have ec:=sub hc'
      rw[lc]at ec
      cases ec
      have no:(cellsFrom (s.heap.objs.size+1) scope.names []).lookup x=none:=by
       cases e:(cellsFrom (s.heap.objs.size+1) scope.names []).lookup x with
       |none=>rfl
       |some a=>
        have q:=S.cells _ (GP (rY e)) rfl
        rw[q3]at q;cases q
      refine⟨c,(by show(cellsFrom (s.heap.objs.size+1) scope.names (FG X.env.cells scope.names [])).lookup x=Gc c;rw[Bn,vp,no];exact hc'),?_⟩
      obtain⟨oc,ho,hd⟩:=z
      exact⟨oc,hk _ _ ho,hd⟩
 .rcases look h with a|a
  .exact⟨_,(hC.empty _ _ a).1⟩
  .obtain⟨v,oc,ho,hd⟩:=I.cell x c a
   exact⟨v,oc,hk _ _ ho,hd⟩
 .rcases look h with a|a
  .exact I.hok.fresh (vI (hC.empty _ _ a).2)
  .exact I.Jd x c a
 .show(sig ix σ).length=N'.length
  unfold sig
  rw[rG]
  exact Vw S.ok
end
end L2
end
noncomputable section
namespace L2
open PySem PySem.Spec PyProof.Rows
def PTs(X:Cx)(ifs:Wp sG)(t:TT):Prop:=
 ∀(pins:Wp (qg×Obj)) (s:qj) (σ:St) (H:Hp) (Q:sD->Hp->Prop),Inv X pins σ H s->t σ H Q->
  wpAny (model X.prog X.w) X.A (forIn ifs true λc r=>if r=true then do let ok<-isTrue c X.env (eval c X.env);pure (wc ok)else pure (wc r)) (TP X pins σ Q) X.xe s
noncomputable def lB:TT:=λ_ H Q=>Q true H
def aF:PTs X [] lB:=λ_ _ _ H _ I h=>wpAny_tests_nil ⟨H,I,h⟩
def Zt(h:PT X c t):PTs X [c] t:=λpins s σ H Q I q=>wpAny_tests_one (h pins s σ H Q I q)
def Wl{t:Sem α}{Q:α->qj->Prop}(h:wpAny M A t Q (λ_ _=>tN) s):wpAny M A t Q E s:=sZ h (λ_ _ q=>q) λ_ _ f=>f.elim
def fE(ix:Wp (qR Nat))(g:TG)(tc:TT)(te:TE)(J:It)(σ:St)(H:Hp)(Q:VK):Prop:=
 ∀D,H D=none->∃W:Nat->Nat->St->Hp->Wp V->Prop,(∃m,W 0 m (sig ix σ) (upd H D (.lst [])) [])/\∀i m σ H ys,W i m σ H ys->H D=Gc (.lst ys)/\
  ((J.stop i H/\Q (.ref D) H)\/(J.go i H/\ys.length<sizeLine/\∀x H',J.yld i H x H'->g x σ H' λσ2 H2=>tc σ2 H2 λb H3=>
    if b=true then te σ2 H3 λy H4=>H4 D=Gc (.lst ys)/\∃m',m'<m/\W (i+1) m' σ2 (upd H4 D (.lst (ys++[y]))) (ys++[y])else∃m',m'<m/\W (i+1) m' σ2 H3 ys))
noncomputable def ZP(ix:Wp (qR Nat))(wi:TI)(g:TG)(tc:TT)(te:TE):TE:=λσ H Q=>wi σ H λJ H1=>fE ix g tc te J σ H1 Q
section
variable{X:Cx}{pins:Wp (qg×Obj)}{σ:St}{s₂:qj}{scope:tu}{pos:Pos}{g:TG}{tc:TT}
def Block(X:Cx)(N':Wp Str)(scope:tu)(tg:sG)(ifs:Wp sG)(elt:sG)(g:TG)(tc:TT)(te:TE):Prop:=
 ∀(s:qj) (H:Hp) (fp:Wp qg),PG (Hg X N' scope s H fp) tg g/\PTs (Hg X N' scope s H fp) ifs tc/\PE (Hg X N' scope s H fp) elt te
def US {X':Cx}{it:qg}{fp:Wp qg}{tn:Nat->sS->Prop}{J:It}{D:qg}{Q:VK}{W:Nat->Nat->St->Hp->Wp V->Prop}(he:X'.env=e)(hx:X'.xe=λ_ _=>tN)(hcm:X'.calm=true)(T:Turn X'.prog X'.w X'.K tg J fp it tn)(hfp:∀H,(∀b ∈ fp,H b=none)->∀b ∈ fp,Pu X' [] H b)(hg:PG X' tg g)(ht:PTs X' ifs tc)(hb:PE X' elt te)(turn:∀i m σ H ys,W i m σ H ys->H D=Gc (.lst ys)/\((J.stop i H/\Q (.ref D) H) ∨ (J.go i H/\ys.length<sizeLine/\∀x H',J.yld i H x H'->g x σ H' λσ2 H2=>tc σ2 H2 λb H3 =>
        if b = true then te σ2 H3 fun y H4 => H4 D = Gc (.lst ys) /\ ∃ m', m' < m /\ W (i + 1) m' σ2 (upd H4 D (.lst (ys ++ [y]))) (ys ++ [y]) else ∃ m', m' < m /\ W (i + 1) m' σ2 H3 ys)))
    (hR:∀s' σ' H',Inv X' [] σ' H' s'->Q (.ref D) H'->R (.ok .next) s')
    (h0:∃i σ' H' ys,Inv X' [] σ' H' s/\tn i s.heap/\(∀b ∈ fp,H' b=none)/\W i n σ' H' ys) :
    codeAny (model X'.prog X'.w) X'.A (.compLoop (.ListComp elt [⟨tg,iter,ifs,0⟩] scope pos) 0 (.ref it) (.ref D) e) R s:=by
  subst he
  refine codeAny_loop rfl (fun n s => ∃ i σ' H' ys, Inv X' [] σ' H' s /\ tn i s.heap /\ (∀ b ∈ fp, H' b = none) /\ W i n σ' H' ys) (fun n s3 hI => ?_) n h0
  show wpAny _ X'.A ((compTurn (.ListComp elt [⟨tg, iter, ifs, 0⟩] scope pos) 0 (.ref it) (.ref D) X'.env).onRaise (fun x => do noteFrame x X'.env; theTreesLotGoes x)) _ _ s3
  refine wpAny_noted (Wl ?_)
  rw [compTurn_list]
  obtain⟨i,σ3,H3,ys,I3,st3,fr3,w3⟩:=hI
  obtain⟨hD,alt⟩:=turn i n σ3 H3 ys w3
  rcases alt with ⟨stop, q⟩ | ⟨go, hlen, step⟩
  · refine qP (vc (qP (thn (T.done X' rfl rfl rfl hcm i [] s3 σ3 H3 _ I3 (hfp H3 fr3) st3 stop) fun r s4 ⟨hr, I4⟩ => ?_)))
    subst hr
    exact qm (hR s4 σ3 H3 I4 q)
  · refine qP (vc (qP (thn (T.item X' rfl rfl rfl hcm i [] s3 σ3 H3 _ I3 (hfp H3 fr3) st3 go) fun r s4 ⟨u, hr, h4⟩ => ?_)))
    subst hr
    refine qP (thn h4 fun _ s5 ⟨x, H5, I5, r5, y5, st5, fr5⟩ => ?_)
    have I5':=I5.pinned (hfp H5 fr5) (T.obj _ _ st5)
    have hg':=hg _ s5 σ3 H5 x u _ I5' r5 (step x H5 y5)
    rw [hx] at hg'
    refine qP (thn hg' fun _ s6 ⟨σ6, H6, I6, q6⟩ => ?_)
    have ht':=ht _ s6 σ6 H6 _ I6 q6
    rw [hx] at ht'
    refine qP (thn ht' fun ok s7 ⟨H7, I7, q7⟩ => ?_)
    have again:∀{s8:qj} {H8:Hp} {zs:Wp V} {m':Nat},Inv X' ([]++OS fp s5.heap) σ6 H8 s8->m'<n->W (i + 1) m' σ6 H8 zs->∃m,m<n/\∃i σ' H' ys,Inv X' [] σ' H' s8/\tn i s8.heap/\(∀b ∈ fp,H' b=none)/\W i m σ' H' ys:=λ{s8 H8 zs m'} I8 hm w8=>by
      refine ⟨m', hm, i + 1, σ6, H8, zs, I8.Kq, T.keep _ _ _ st5 fun b hb o e => (I8.pin (b, o) (rf _ (rf _ (Ho hb e)))).1, fun b hb => ?_, w8⟩
      obtain⟨o,e,d⟩:=T.obj _ _ st5 b hb
      exact (I8.pin (b, o) (rf _ (rf _ (Ho hb e)))).2.1
    cases ok with
    | false =>
      rw [rA (by decide)] at q7
      obtain⟨m',hm,w7⟩:=q7
      exact qm ⟨rfl, again I7 hm w7⟩
    | true =>
      rw [rB rfl] at q7
      have hb':=hb _ s7 σ6 H7 _ I7 q7
      rw [hx] at hb'
      refine qP (qP (thn hb' fun v s8 ⟨y, H8, I8, r8, hD8, m', hm, w8⟩ => ?_))
      have ha:=PL (X:=X') _ s8 σ6 H8 (.ref D) [y] (.ref D) [v] (λ_ H9=>H9=upd H8 D (.lst (ys++[y]))) I8 rfl (.cons r8 .nil) ⟨D,ys,y,rfl,rfl,hD8,hlen,rfl⟩
      rw [hx] at ha
      refine qP (thn ha fun _ s9 ⟨_, H9, I9, _, e9⟩ => ?_)
      subst e9
      exact qm (qm ⟨rfl, again I9 hm w8⟩)
def Q1(hc:X.calm=true)(S:AQ X.N X.env.scope N' ix scope)(hb:Block X N' scope tg ifs elt g tc te){RR:qX->qg->Result->qj->Prop}(I2:Inv X pins σ H₂ s₂)(T:Turn X.prog X.w X.K tg J fp it tn)(st2:tn 0 s₂.heap)(f2:∀b∈fp,Pu X pins H₂ b)(hW:fE ix g tc te J σ H₂ Q)(hRR:∀D C H' s',Inv X pins σ H' s'->(∃m,s'.heap.Ns C m)->Pu X pins H' C->Q (.ref D) H'->RR (.ref D) C (.ok .next) s'):wpAny (model X.prog X.w) X.A (newList []) (λacc s₃=>wpAny (model X.prog X.w) X.A (newFunctionEnv scope X.env.globals (FG X.env.cells scope.names []) [] X.env.qual none .none (Gc X.env)) (λcenv s₄=>
  codeAny (model X.prog X.w) X.A (.compStart (.ListComp elt [⟨tg,iter,ifs,0⟩] scope pos) 0 (.ref it) acc {cenv with scope:=relabel scope X.env}) (RR acc cenv.locals) s₄) E s₃) E s₂:=by
 have hD0:H₂ s₂.heap.objs.size=none:=I2.hok.fresh (qW _)
 have hlt2:∀b∈fp,b<s₂.heap.objs.size:=λb hb=>by
  obtain⟨o,e,_⟩:=T.obj _ _ st2 b hb
  exact ql e
 refine uF (KC (λh₁ hns₁ hsb₁ hcl₁=>?_))
 have I3:Inv X pins σ (upd H₂ s₂.heap.objs.size (.lst [])) {s₂ with heap:=s₂.heap.push {cls:=.type "list",dict:=none,data:=.seq ([]:Wp qX).toArray}}:=
  I2.laid (t':=s₂.toks) (λb u e=>qO _ e) (qW _) ⟨tP _,[],0,.nil,qt _ rfl⟩
 have f3:∀b∈fp,Pu X pins (upd H₂ s₂.heap.objs.size (.lst [])) b:=λb hb=>⟨by rw[Ae (rK (hlt2 b hb))];exact(f2 b hb).1,(f2 b hb).2⟩
 have k3:∀b o,s₂.heap.get? b=Gc o->(s₂.heap.push {cls:=.type "list",dict:=none,data:=.seq ([]:Wp qX).toArray}).get? b=Gc o:=λb o e=>qO _ e
 dsimp only at hns₁ hsb₁ hcl₁⊢
 generalize hs3:({s₂ with heap:=s₂.heap.push {cls:=.type "list",dict:=none,data:=.seq ([]:Wp qX).toArray}}:qj)=s₃ at I3
 have eh:s₂.heap.push {cls:=.type "list",dict:=none,data:=.seq ([]:Wp qX).toArray}=s₃.heap:=by rw[<-hs3]
 have et:s₂.toks=s₃.toks:=by rw[<-hs3]
 have es:∀(h:sS) (t:Nat),({s₂ with heap:=h,toks:=t}:qj)={s₃ with heap:=h,toks:=t}:=λh t=>by rw[<-hs3]
 rw[eh]at hns₁ hsb₁ hcl₁ k3⊢
 have hlt3:∀b∈fp,b<s₃.heap.objs.size:=λb hb=>by
  obtain⟨o,e,_⟩:=T.obj _ _ st2 b hb
  exact ql (k3 b o e)
 have k4:∀b o,s₃.heap.get? b=Gc o->h₁.get? b=Gc o:=hsb₁
 obtain⟨W,⟨m0,w0⟩,turn⟩:=hW _ hD0
 have I4:∀tk,Inv (Hg X N' scope s₃ (upd H₂ s₂.heap.objs.size (.lst [])) fp) [] (sig ix σ) (upd H₂ s₂.heap.objs.size (.lst [])) {s₃ with heap:=h₁,toks:=tk}:=λtk=>Wn S hc I3 f3 hlt3 hns₁ k4 hcl₁
 have st4:tn 0 h₁:=T.keep _ _ _ st2 λb hb o e=>k4 b o (k3 b o e)
 obtain⟨bg,bt,be⟩:=hb s₃ (upd H₂ s₂.heap.objs.size (.lst [])) fp
 have noX:∀(H:Hp),(∀b∈fp,H b=none)->∀b∈fp,Pu (Hg X N' scope s₃ (upd H₂ s₂.heap.objs.size (.lst [])) fp) [] H b:=λH hn b hb=>by
  obtain⟨_,h2,h3⟩:=f3 b hb
  refine⟨hn b hb,rK (hlt3 b hb),λhs=>(I4 0).ok.aP b hb hs,.inl hb,λx c h=>?_,λp hp=>absurd (show p∈([]:Wp (qg×Obj))from hp) (by simp)⟩
  exact((I4 0).ok.exf b hb).2 x c h
 have fin:∀(s':qj) (σ':St) (H':Hp),Inv (Hg X N' scope s₃ (upd H₂ s₂.heap.objs.size (.lst [])) fp) [] σ' H' s'->Q (.ref s₂.heap.objs.size) H'->RR (.ref s₂.heap.objs.size) s₃.heap.objs.size (.ok .next) s':=λs' σ' H' I' q=>by
  refine hRR _ _ H' s' ?_ (let⟨m,hn,_⟩:=I'.loc;⟨m,hn⟩) (I3.ao (qW _) I'.free) q
  exact I3.U5 I'.os I'.base I'.hok I'.bare λb hb=>⟨(f3 b hb).2.2.2.1,(f3 b hb).2.1,(f3 b hb).2.2.2.2.1,(f3 b hb).2.2.2.2.2⟩
 have loop:∀tk,codeAny (model X.prog X.w) X.A (.compLoop (.ListComp elt [⟨tg,iter,ifs,0⟩] scope pos) 0 (.ref it) (.ref s₂.heap.objs.size) (compEnvC scope (cellsFrom (s₃.heap.objs.size+1) scope.names (FG X.env.cells scope.names [])) s₃.heap.objs.size X.env)) (RR (.ref s₂.heap.objs.size) s₃.heap.objs.size) {s₃ with heap:=h₁,toks:=tk}:=λtk=>
  US (X':=Hg X N' scope s₃ (upd H₂ s₂.heap.objs.size (.lst [])) fp) (D:=s₂.heap.objs.size) (Q:=Q) (W:=W) rfl rfl rfl T noX bg bt be turn fin ⟨0,_,_,_,I4 tk,st4,λb hb=>(f3 b hb).1,w0⟩
 rw[es]
 exact codeAny_compStart_list (loop _) (T.self _ 0 _ _ _ st4 (loop _))
def aQ(hc:X.calm=true)(S:AQ X.N X.env.scope N' ix scope)(hi:PI X tg iter wi)(hb:Block X N' scope tg ifs elt g tc te)(hs:zb (∀x,foldedSetIterable iter X.env x=pure x) xL):PE X (.ListComp elt [⟨tg,iter,ifs,0⟩] scope pos) (ZP ix wi g tc te):=by
 intro pins s σ H Q I h
 rw[eval_ListComp]
 refine xn (use:=none) rfl hs (Ng (I.cellsOf S)) S.kind S.names (thn (hi pins s σ H _ I h) λv s1 h1=>thn h1 λitv s2 h2=>?_)
 obtain⟨it,fp,tn,J,H2,e,I2,T,st2,f2,hW⟩:=h2
 subst e
 refine Q1 (RR:=λacc C=>compPost (model X.prog X.w) X.A X.xe none (EP X pins σ Q) acc C) hc S hb I2 T st2 f2 hW ?_
 intro D C H' s' I' hm hC q
 obtain⟨m,hm⟩:=hm
 refine⟨m,hm,λh' hs'=>⟨.ref D,H',I'.turned (it:=C) (t':=s'.toks) (λb o hb e=>hs'.extBut b o hb e) hC.1 hC.2.1 hC.2.2.2.1 hC.2.2.2.2.1 hC.2.2.2.2.2,rfl,q⟩⟩
end
end L2
end
noncomputable section
namespace L2
open PySem PySem.Spec PyProof.Rows
section
variable{X:Cx}{pos spos py:Pos}
def RV(hc:X.calm=true)(hN:X.N.Nodup)(hi':X.N[i]?=Gc y)(hx:X.env.scope.names.lookup y=Gc .local)(S:AQ X.N X.env.scope N' ix scope)(hi:PI X tg iter wi)(hb:Block X N' scope tg ifs elt g tc te)(hsw:zb (swapsWith (.ListComp elt [⟨tg,iter,ifs,0⟩] scope pos) (Gc (.Name y py)) spos.line X.env=pure true) ww)(hs:zb (∀x,foldedSetIterable iter X.env x=pure x) xL):PS X (.Assign [.Name y py] (.ListComp elt [⟨tg,iter,ifs,0⟩] scope pos) spos) (kD (ZP ix wi g tc te) (ZN i)):=by
 intro pins s σ H D I h
 rw[exec_Assign_Name_used _ _ _ _ hsw]
 refine qP (vc (qP ?_))
 show wpAny _ X.A (do let _<-comprehension (.ListComp elt [⟨tg,iter,ifs,0⟩] scope pos) scope X.env _ (newList []) false (eval iter X.env) (Gc (assign (.Name y py) X.env))) _ _ s
 refine qP (sZ (xn (use:=Gc (assign (.Name y py) X.env)) (Q:=λ_ s'=>SP X pins D .next s') rfl hs (Ng (I.cellsOf S)) S.kind S.names
  (thn (hi pins s σ H _ I h) λv s1 h1=>thn h1 λitv s2 h2=>?_)) (λ_ s' hq=>qm (qm hq)) λ_ _ e=>e)
 obtain⟨it,fp,tn,J,H2,e,I2,T,st2,f2,hW⟩:=h2
 subst e
 refine Q1 (RR:=λacc C=>compPost (model X.prog X.w) X.A X.xe (Gc (assign (.Name y py) X.env)) (λ_ s'=>SP X pins D .next s') acc C) hc S hb I2 T st2 f2 hW ?_
 intro L C H' s' I' hm hC q
 obtain⟨m,hm⟩:=hm
 show wpAny _ X.A (assign (.Name y py) X.env (.ref L)) _ _ _
 refine zd (ON I' hN hi' (.inl hx) (v:=.ref L) rfl (λs'' I'' ⟨a,sb,ha⟩=>?_) (.inr hx))
 have hCa:C≠a:=by
  rcases ha with rfl|ha
  .exact hC.2.1
  .exact se (hC.2.2.2.2.1 y a ha)
 refine⟨m,hm.sameBut sb hCa,λh' hs'=>?_⟩
 exact⟨_,H',I''.turned (it:=C) (t':=s''.toks) (λb o hb e=>hs'.extBut b o hb e) hC.1 hC.2.1 hC.2.2.2.1 hC.2.2.2.2.1 hC.2.2.2.2.2,q⟩
end
end L2
end
noncomputable section
namespace L2
open PySem PySem.Spec PyProof.Rows
section
variable{κ:Type} [DecidableEq κ]
def QH.T7(r:QH o u):o.isSome=u.isSome:=by
 cases o with
 |none=>cases u with
  |none=>rfl
  |some _=>exact(show tN from r).elim
 |some _=>cases u with
  |none=>exact(show tN from r).elim
  |some _=>rfl
end
def kP(r:RelV (kV k) u):(Ft P w).is k u=true:=by
 cases k with
 |inl i=>obtain⟨t,e⟩:=(show∃t,u=xD i t from r);subst e;exact QP P w i t
 |inr x=>obtain⟨t,e⟩:=(show∃t,u=xE x t from r);subst e;exact P2 P w x t
theorem OW:∀{ks} {us},Vals (ks.map kV) us->ItemsAre (Ft P w) ks us
 | [],_,r=>by rw[sQ]at r;cases r;exact .nil
 |k::ks,_,r=>by
  rw[qq]at r
  cases r with
  |cons h t=>exact .cons (kP h) (OW t)
abbrev KT(H:Hp):Wp (Wp Key×V)->Wp (Wp Key×qg×qX)->Prop:=Paired λp q=>p.1=q.1/\H q.2.1=Gc (.tup (p.1.map kV))/\RelV p.2 q.2.2
section
variable{P:sF}{w:tK}{H:Hp}{h:sS}{a:qg}
def jn(ok:HOk P w H h)(e:Rd H a u):Ds P w H h a u:=e.ok ok
def gN(ok:HOk P w H h)(e:H a=Gc (.tup (ks.map kV))):(tupleKind (Ft P w)).is h ks a:=by
 obtain⟨_,its,r,o,h1,h2,n,h3⟩:=(show Ds P w H h a (.tup (ks.map kV))from ok a _ e)
 exact⟨o,its.toArray,n,h1,h2,h3,by simpa using OW r⟩
def kh(ok:HOk P w H h)(e:Rd H a (.dT kvs)):kvs.length<=sizeLine/\(a==sysModules)=false/\∃xs,KT H kvs xs/\h.DictOfH (tupleKind (Ft P w)) a xs:=by
 obtain⟨z,y,xs,r,o,es,ep,h1,h2,h3,h4,h5⟩:=(show Ds P w H h a (.dT kvs)from jn ok e)
 refine⟨z,y,xs,r,o,es,ep,h1,h2,h3,h4,λx hx=>?_,h5⟩
 have all:∀{l:Wp (Wp Key×V)} {m:Wp (Wp Key×qg×qX)},KT H l m->∀x∈m,(tupleKind (Ft P w)).is h x.1 x.2.1:=by
  intro l m q
  induction q with
  |nil=>intro x hx;exact nomatch hx
  | @cons p q ps qs hq t ih=>
    intro x hx
    rcases qY.mp hx with e|hx
    .subst e
     exact gN ok (by rw[<-hq.1];exact hq.2.1)
    .exact ih x hx
 exact all r x hx
def XH(ok:HOk P w H h)(e:H a=Gc (.dT kvs)):kvs.length<=sizeLine/\(a==sysModules)=false/\∃xs,KT H kvs xs/\h.DictOfH (tupleKind (Ft P w)) a xs:=kh ok (.inl e)
end
section
variable{X:Cx}{pins:Wp (qg×Obj)}{σ:St}{H:Hp}{s:qj}{a:qg}{y v:V}{u r:qX}{o:qR V}{A:uN}{E:qX->qj->Prop}
end
section
variable{X:Cx}{pins:Wp (qg×Obj)}{σ:St}{H:Hp}{s:qj}{a:qg}{kvs:Wp (Key×V)}{k:Key}{u:qX}{A:uN}{E:qX->qj->Prop}
end
section
variable{X:Cx}{o i e value:sG}{pos pos' tpos:Pos}{td ty tv:TE}
end
section
variable{X:Cx}{pos:Pos}
end
structure M1(X:Cx)(o:sG)(m:Str)(apos:Pos)(e:sG)(cpos:Pos):Prop where
 base:attributeBase o m X.env (eval o X.env)=eval o X.env
 few:((backTo cpos (qc [e] X.env)).all (λx=> !x.1) && (backToKw cpos (keywordEach [] X.env)).all (λx=>x.1.isSome)
  && decide (([e]:Wp sG).length+([]:Wp xZ).length+(if([]:Wp xZ).isEmpty then 0 else 1)<30))=true
 line:(apos.endLine==cpos.line)=true
 trees:backTo cpos (qc [e] X.env)=[(false,eval e X.env)]
structure M2(X:Cx)(o:sG)(m:Str)(apos:Pos)(e f:sG)(cpos:Pos):Prop where
 base:attributeBase o m X.env (eval o X.env)=eval o X.env
 few:((backTo cpos (qc [e,f] X.env)).all (λx=> !x.1) && (backToKw cpos (keywordEach [] X.env)).all (λx=>x.1.isSome)
  && decide (([e,f]:Wp sG).length+([]:Wp xZ).length+(if([]:Wp xZ).isEmpty then 0 else 1)<30))=true
 line:(apos.endLine==cpos.line)=true
 trees:backTo cpos (qc [e,f] X.env)=[(false,eval e X.env),(false,eval f X.env)]
def IsD(H:Hp)(a:qg):Prop:=(∃kvs,Rd H a (.dK kvs))\/∃kvs,Rd H a (.dT kvs)
section
variable{X:Cx}{pins:Wp (qg×Obj)}{σ:St}{H:Hp}{s:qj}{a:qg}{y d:V}{u r:qX}{o:qR V}{A:uN}{E:qX->qj->Prop}
end
section
variable{X:Cx}{o e f:sG}{apos cpos:Pos}{td ty tx:TE}
end
section
variable{X:Cx}{pins:Wp (qg×Obj)}{σ:St}{H:Hp}{s:qj}{a:qg}{kvs:Wp (Key×V)}{A:uN}{E:qX->qj->Prop}
end
section
variable{X:Cx}{pins:Wp (qg×Obj)}{σ:St}{H:Hp}{s:qj}{a:qg}{y:V}{u:qX}{A:uN}{E:qX->qj->Prop}
end
end L2
end
noncomputable section
namespace L2
open PySem PySem.Spec PyProof.Rows
section
variable{s:qj}
def Rh{h:sS}{i:Nat}(ho:h.get? it=Gc o)(hc:o.cls=.type "tuple_iterator")(hd:o.data=.fields #[.ref t,.int i 0])(e:h'=h.update it (λo=>o.mapFields λa=>a.setIfInBounds 1 (rawInt ((i:Int)+1)))):h'.IsTupleIter it t (i+1):=by
 subst e
 have d:=uS hd λa=>a.setIfInBounds 1 (rawInt ((i:Int)+1))
 refine⟨_,tU _ ho (tV d),?_,?_⟩
 .rw[z6];exact hc
 .rw[d];simp[rawInt]
def Wx(hit:s.heap.IsTupleIter it t i)(ht:s.heap.IsTuple t items)(hx:items[i]?=Gc x)(hQ:∀h',h'.IsTupleIter it t (i+1)->vy it s.heap h'->Q x {s with heap:=h'}):wpAny (model prog w) A (rW (.ref it)) Q E s:=by
 obtain⟨⟨c,dd,dt,sl⟩,ho,hc,hd⟩:=id hit
 obtain⟨⟨c2,dd2,dt2,sl2⟩,ho2,hc2,n2,hd2⟩:=id ht
 simp only at hc hd hc2 hd2
 subst hc hd hc2 hd2
 unfold rW
 refine qP (tQ (name:=rC "__next__") hit.typeIs uT (tY uT hit.typeIs wy ?_ (wd _)))
 unfold w9.«tuple_iterator.__next__»
 wp_walk using qz ho,qz ho2
 have e:items[(i:Int).toNat]?=Gc x:=by rw[xg];exact hx
 rw[e]
 refine qP (vN ho rfl (by simp) ?_)
 exact qm ⟨x,rfl,qm (hQ _ (Rh ho rfl rfl rfl) (zG ..))⟩
def Wt(hh:A.handled=none)(hit:s.heap.IsTupleIter it t i)(ht:s.heap.IsTuple t items)(hx:items[i]?=none)(hE:∀h' e,xi it s.heap h'->(∃o,h'.get? e=Gc o/\o.cls=.type "StopIteration")->E (.ref e) {s with heap:=h'}):wpAny (model prog w) A (rW (.ref it)) Q E s:=by
 obtain⟨⟨c,dd,dt,sl⟩,ho,hc,hd⟩:=id hit
 obtain⟨⟨c2,dd2,dt2,sl2⟩,ho2,hc2,n2,hd2⟩:=id ht
 simp only at hc hd hc2 hd2
 subst hc hd hc2 hd2
 unfold rW
 refine qP (tQ (name:=rC "__next__") hit.typeIs uT (tY uT hit.typeIs wy ?_ (wd _)))
 unfold w9.«tuple_iterator.__next__»
 wp_walk using qz ho,qz ho2
 have e:items[(i:Int).toNat]?=none:=by rw[xg];exact hx
 rw[e]
 refine qP (yG (qP (vN ho rfl (by simp) ?_)))
 have hh1:A.in1.handled=none:=hh
 unfold z7
 simp only[newExc,newTuple,raiseNew]
 wp_walk
 refine hE _ _ ?_ ⟨_,qt _ rfl,rfl⟩
 have a:=(zG (a:=it) (h:=s.heap) (f:=sW λx=>x.setIfInBounds 0 rJ)).extBut
 exact(a.push _).push _
def VN l items n dct sl:Meets (w9.«enumerate.__new__» ⟨[.type "enumerate",.ref l],[]⟩) (λ_ R s=>s.heap.get? l=Gc {cls:=.type "tuple",dict:=dct,data:=.seq items n,slots:=sl}/\R (.ok (.ret (.ref (s.heap.objs.size+1)))) {s with heap:=(s.heap.push {cls:=.type "tuple_iterator",data:=.fields #[.ref l,.int 0 0]}).push {cls:=.type "enumerate",data:=.fields #[.none,.bool false,.ref s.heap.objs.size,rawInt 0,.none,.none]}}):=
 .of_wp λprog w A R s h=>by
  obtain⟨hp,g,d,tk,os⟩:=s
  obtain⟨hl,h⟩:=h
  have hsub:=sub_enumerate
  have hT:xA (uh ⟨hp,g,d,tk,os⟩) l items:=⟨_,hl,rfl,n,rfl⟩
  wp_walk using qz hl
  refine wpAny_stack_any λst=>qm ?_
  split
  .rename_i c _ _ _ _ _
   cases (c==xG "enumerate")<;>(wp_walk using qz hl,tZ hT)<;>(refine⟨_,rfl,?_⟩;rw[sT];exact h)
  .wp_walk using qz hl,tZ hT
   refine⟨_,rfl,?_⟩
   rw[sT]
   exact h
def SM(hT:s.heap.IsTuple l items)(h:∀h',IsEnum h' (s.heap.objs.size+1) s.heap.objs.size 0 .none->h'.IsTupleIter s.heap.objs.size l 0->(∀b o,s.heap.get? b=Gc o->h'.get? b=Gc o)->Q (.ref (s.heap.objs.size+1)) {s with heap:=h'}):wpAny (model prog w) A (call (.type "enumerate") [.ref l]) Q E s:=by
 obtain⟨⟨c,dct,dt,sl⟩,hl,hc,n,hd⟩:=hT
 simp only at hc hd
 subst hc hd
 refine callType_new F.called_enumerate (by decide) (F.typeCall_enumerate_1 _) (F.newCall_enumerate_1 _) (λobj=>F.args_object_init_2 obj _) F.entry_enumerate_new (VN l items n dct sl) ⟨hl,?_⟩
 have z:=qt (s.heap.push {cls:=.type "tuple_iterator",data:=.fields #[.ref l,.int 0 0]}) (o:={cls:=.type "enumerate",data:=.fields #[.none,.bool false,.ref s.heap.objs.size,rawInt 0,.none,.none]}) rfl
 rw[sT]at z
 exact⟨⟨_,z,rfl⟩,h _ z ⟨_,qO _ (qt _ rfl),rfl,rfl⟩ λb o x=>qO _ (qO _ x)⟩
end
end L2
end
noncomputable section
namespace L2
open PySem PySem.Spec PyProof.Rows
def FnAt(X:Cx)(k:Nat)(f:qg)(sp:Sp):Prop:=∃fd ps,Ka X.prog X.w X.K X.mg X.base CX0 k f fd ps sp/\sL X.K (.ref f)=true/\Binds X.K fd ps []
noncomputable def fX(X:Cx)(k i:Nat)(t:TA):TE:=λσ H Q=>∃f sp,σ[i]?=Gc (Gc (.ref f))/\FnAt X k f sp/\t σ H λvs H1=>sp (vs++[]) H1 Q E0
def Xe{p pos:Pos}(hN:X.N[i]?=Gc x)(hv:Vis X.env.scope x)(hr:Cb k X.A)(ha:PA X (e::es) t)(hd:zb ((x==("__debug__":Str))=false) xz)(hcd:zb ((x==("__classdict__":Str))=false) xz)(he:zb (qc (e::es) X.env=(false,eval e X.env)::qc es X.env) ww)(hpl:zb ((backTo pos (qc es X.env)).any (·.1)=false) ww):PE X (.Call (.Name x p) (e::es) [] pos) (fX X k i t):=by
 intro pins s σ H Q I h
 obtain⟨f,sp,el,⟨fd,ps,F,hk,hb⟩,h⟩:=h
 refine sf (thn (Oo hN hv hd hcd pins s σ H (λv H1=>v=.ref f/\H1=H) I ⟨_,el,rfl,rfl⟩) λu s1 z=>?_)
 obtain⟨v,H1,I1,r,ev,eh⟩:=z
 subst ev eh
 obtain rfl:u=q9 f:=r
 refine tL (h₀:=X.base) I.ok.mod.kin hk (thn (ha pos pins s1 σ H1 _ I1 h) λus s2 ⟨vs,H2,I2,r2,q⟩=>⟨I2.kIn,?_⟩) he hpl
 exact Q0 F hr hb .nil VP I2 r2 q
end L2
end
noncomputable section
namespace L2
open PySem PySem.Spec PyProof.Rows
structure TopD(K:W1)(w:tK)(a:qg)(kvs:Wp (Str×V)):Prop where
 ex:∃(es:wL vx) (n:Nat),K.lookup a=Gc ⟨.type "dict",none,.dict es n, #[]⟩/\we w.params es.toList/\(a==sysModules)=false/\∀x,QH (kvs.lookup x) (findBy uk es x)
noncomputable def f7(K:W1)(w:tK):R2:=λx y H Q=>∃a kvs k v,x=.ref a/\y=.str k/\TopD K w a kvs/\kvs.lookup k=Gc v/\Q v H
def YW:IxR X (f7 X.K X.w):=by
 intro value slice pins s σ H x y v u Q I rx ry h hs
 obtain⟨a,kvs,k,z,rfl,rfl,⟨es,n,hl,hk,hne,hr⟩,e,q⟩:=h
 cases rx
 obtain⟨t,rfl⟩:=ry
 have hm:=PySem.W.mapOf_K (prog:=X.prog) I.kIn hl hk
 have r:=hr k
 rw[e]at r
 cases f:findBy uk es k with
 |none=>rw[f]at r;exact r.elim
 |some u=>
  rw[f]at r
  exact tail_any hm.typeIs slot_dict_getitem.lookup (wpAny_getItem_of (strKind_is X.prog X.w k t) hm f ⟨z,H,I.tok _,r,q⟩) hs
noncomputable def YF(K:W1)(w:tK)(neg:sD):R2:=λx y H Q=>∃a kvs k,y=.ref a/\x=.str k/\TopD K w a kvs/\Q (.bl (if neg then !(kvs.lookup k).isSome else(kvs.lookup k).isSome)) H
def OP:OpR X (compareOp .NotIn) (YF X.K X.w true):=by
 intro pins s σ H x y v u Q I rx ry h
 obtain⟨a,kvs,k,rfl,rfl,⟨es,n,hl,hk,hne,hr⟩,q⟩:=h
 cases ry
 obtain⟨t,rfl⟩:=rx
 refine wpAny_notIn_of (strKind_is X.prog X.w k t) hne (PySem.W.mapOf_K (prog:=X.prog) I.kIn hl hk) ⟨.bl _,H,I.tok _,?_,q⟩
 show _=_
 have r:(kvs.lookup k).isSome=(findBy uk es k).isSome:=(hr k).T7
 rw[<-r]
 rfl
def QV(p:Paired (λp (e:vx)=>(∃t,e.key=.str p.1 t)/\RelV p.2 e.val) kvs es) x:QH (kvs.lookup x) (findBy uk es.toArray x):=by
 unfold findBy
 rw[List.find?_toArray]
 induction p with
 |nil=>trivial
 | @cons q e r t h _ ih=>
   obtain⟨⟨tk,hk⟩,hv⟩:=h
   obtain⟨k,v⟩:=q
   rw[List.find?_cons,hk]
   show QH (match x==k with|true=>Gc v|false=>tO x r) _
   by_cases z:x=k
   .subst z
    have e1:(x==x)=true:=yC x
    have e2:uk x (.str x tk)=true:=yC x
    rw[e1,e2]
    exact hv
   .have e1:(x==k)=false:=sX.mpr z
    have e2:uk x (.str k tk)=false:=sX.mpr (se z)
    rw[e1,e2]
    exact ih
def YD{K:W1}(l:K.lookup a=Gc ⟨.type "dict",none,.dict es.toArray n, #[]⟩)(hk:we w.params es)(hne:(a==sysModules)=false)(hp:Paired (λp (e:vx)=>(∃t,e.key=.str p.1 t)/\RelV p.2 e.val) kvs es):TopD K w a kvs:=⟨_,n,l,hk,hne,QV hp⟩
end L2
end
noncomputable section
namespace L2
open PySem PySem.Spec PyProof.Rows
def SIt(h:sS)(j l:qg)(i:Nat)(its:wL qX):Prop:=(h.IsListIter j l i/\h.IsList l its)\/(h.IsTupleIter j l i/\h.IsTuple l its)
def SIt.at(q:SIt h j l i its)(k1:∀o,h.get? j=Gc o->h'.get? j=Gc o)(k2:∀o,h.get? l=Gc o->h'.get? l=Gc o):SIt h' j l i its:=by
 rcases q with⟨a,b⟩|⟨a,b⟩
 .exact .inl ⟨a.at k1,b.at k2⟩
 .exact .inr ⟨a.at k1,let⟨o,e,r⟩:=b;⟨o,k2 o e,r⟩⟩
def SIt.but(q:SIt h j l i its)(sb:xi c h h')(n1:j≠c)(n2:l≠c):SIt h' j l i its:=q.at (λo e=>sb _ o n1 e) λo e=>sb _ o n2 e
def SIt.live(q:SIt h j l i its):∃o,h.get? j=Gc o/\∀v,o.data≠.cell v:=by
 rcases q with⟨⟨o,a,b,c⟩,_⟩|⟨⟨o,a,b,c⟩,_⟩
 .exact⟨o,a,λv z=>by rw[c]at z;cases z⟩
 .exact⟨o,a,λv z=>by rw[c]at z;cases z⟩
def SIt.ne(q:SIt h j l i its):l≠j:=by
 rcases q with⟨⟨o,a,b,_⟩,⟨o2,a2,b2,_⟩⟩|⟨⟨o,a,b,_⟩,⟨o2,a2,b2,_⟩⟩
 .intro z;subst z;rw[a]at a2;cases a2;rw[b]at b2;injection b2 with q;exact absurd q (by decide)
 .intro z;subst z;rw[a]at a2;cases a2;rw[b]at b2;injection b2 with q;exact absurd q (by decide)
def Ku(q:SIt s.heap j l i its)(hx:its[i]?=Gc x)(k:∀h',SIt h' j l (i+1) its->vy j s.heap h'->Q x {s with heap:=h'}):wpAny (model prog w) A (rW (.ref j)) Q E s:=by
 have n:=q.ne
 rcases q with⟨a,b⟩|⟨a,b⟩
 .exact wpAny_nextOf_list_item a b hx λh' a' sb=>k h' (.inl ⟨a',b.extBut sb.extBut n⟩) sb
 .exact Wx a b hx λh' a' sb=>k h' (.inr ⟨a',let⟨o,e,r⟩:=b;⟨o,sb.extBut _ o n e,r⟩⟩) sb
def K5(hh:A.handled=none)(q:SIt s.heap j l i its)(hx:its[i]?=none)(k:∀h' e,xi j s.heap h'->(∃o,h'.get? e=Gc o/\o.cls=.type "StopIteration")->E (.ref e) {s with heap:=h'}):wpAny (model prog w) A (rW (.ref j)) Q E s:=by
 rcases q with⟨a,b⟩|⟨a,b⟩
 .exact wpAny_nextOf_list_end hh a b hx k
 .exact Wt hh a b hx k
def Sv{Q:qX->qj->Prop}(D:z8 z ti tt j1 j2 l1 l2)(oz:xR s.heap z ti tt .none)(oi:uo s.heap ti (.ref j1) (.ref j2))(ot:uo s.heap tt u1 u2)(q1:SIt s.heap j1 l1 m xs)(q2:SIt s.heap j2 l2 m ys)(ex:xs[m]?=Gc x)(ey:ys[m]?=Gc y)(k:∀h',xR h' z ti tt (rawInt s.heap.objs.size)->uo h' tt x y->SIt h' j1 l1 (m+1) xs->SIt h' j2 l2 (m+1) ys->uo h' s.heap.objs.size x y->(∀c o,c≠z->c≠tt->c≠j1->c≠j2->s.heap.get? c=Gc o->h'.get? c=Gc o)->Q (.ref s.heap.objs.size) {s with heap:=h'}):wpAny (model prog w) A (w9.«zip.__next__» ⟨[.ref z],[]⟩) (λfin s'=>∃v,fin=.done (.ret v)/\Q v s') E s:=by
 show wpAny _ _ (field (.ref z) 2 >>= _) _ _ _
 refine qP (sv oz rfl (x:=.bool false) rfl ?_)
 show wpAny _ _ (field (.ref z) 3 >>= _) _ _ _
 refine qP (sv oz rfl (x:=.ref ti) rfl (qP (vO oi rfl ?_)))
 show wpAny _ _ (tF (.ref z) >>= _) _ _ _
 refine qP ?_
 unfold tF
 refine qP (sv oz rfl (x:=.none) rfl (qm ?_))
 simp only[wx]
 refine qP (yG (qP (sv oz rfl (x:=.ref tt) rfl (qP (uU oz (by simp) λg1 oz1 b1=>?_)))))
 have oz1:xR g1 z ti tt .ellipsis:=oz1
 refine qP ?_
 simp only[List.zipIdx_cons,List.zipIdx_nil,ya,yt]
 refine qP (qP (xo ?_))
 show wpAny _ _ (rW (.ref j1) >>= _) _ _ _
 refine qP (Ku (q1.but b1.extBut D.i1z D.l1z) ex λg2 q12 b2=>qm ?_)
 have ot2:uo g2 tt u1 u2:=b2.extBut _ _ D.TOi1 (b1.extBut _ _ D.TOz ot)
 refine qP (vO ot2 rfl (qP (wZ ot2 λg3 ot3 b3=>?_)))
 have ot3:uo g3 tt x u2:=ot3
 refine qP (wpAny_letGo (qm (qP (qP (xo ?_)))))
 show wpAny _ _ (rW (.ref j2) >>= _) _ _ _
 refine qP (Ku (((q2.but b1.extBut D.i2z D.l2z).but b2.extBut D.i12.symm D.l2i1).but b3.extBut D.TOi2.symm D.l2TO) ey λg4 q24 b4=>qm ?_)
 have ot4:uo g4 tt x u2:=b4.extBut _ _ D.TOi2 ot3
 refine qP (vO ot4 rfl (qP (wZ ot4 λg5 ot5 b5=>?_)))
 have ot5:uo g5 tt x y:=ot5
 refine qP (wpAny_letGo (qm (qm (qP (vO ot5 rfl (qP (wpAny_newTuple ?_)))))))
 have sz:g5.objs.size=s.heap.objs.size:=by rw[b5.1,b4.1,b3.1,b2.1,b1.1]
 have oz5:xR g5 z ti tt .ellipsis:=b5.extBut _ _ D.TOz.symm (b4.extBut _ _ D.i2z.symm (b3.extBut _ _ D.TOz.symm (b2.extBut _ _ D.i1z.symm oz1)))
 have k5:∀c o,c≠z->c≠tt->c≠j1->c≠j2->s.heap.get? c=Gc o->g5.get? c=Gc o:=λc o c1 c2 c3 c4 e=>b5.extBut _ _ c2 (b4.extBut _ _ c4 (b3.extBut _ _ c2 (b2.extBut _ _ c3 (b1.extBut _ _ c1 e))))
 have q15:SIt g5 j1 l1 (m+1) xs:=((q12.but b3.extBut D.TOi1.symm D.l1TO).but b4.extBut D.i12 D.l1i2).but b5.extBut D.TOi1.symm D.l1TO
 have q25:SIt g5 j2 l2 (m+1) ys:=q24.but b5.extBut D.TOi2.symm D.l2TO
 have zlt:z<g5.objs.size:=ql oz5
 show wpAny _ _ (vb (.ref z) (.ref g5.objs.size) >>= _) _ _ _
 refine qP ?_
 unfold vb
 have oz6:xR (g5.push {cls:=.type "tuple",data:=.seq #[x,y]}) z ti tt .ellipsis:=qO _ oz5
 refine qP (uU oz6 (by simp) λg7 oz7 b7=>?_)
 have oz7:xR g7 z ti tt (rawInt g5.objs.size):=oz7
 refine uU oz7 (by simp) λg8 oz8 b8=>?_
 have oz8:xR g8 z ti tt (rawInt g5.objs.size):=oz8
 have up:∀c o,c≠z->g5.get? c=Gc o->g8.get? c=Gc o:=λc o c1 e=>b8.extBut _ _ c1 (b7.extBut _ _ c1 (qO _ e))
 have op8:uo g8 g5.objs.size x y:=b8.extBut _ _ (wt zlt) (b7.extBut _ _ (wt zlt) (qt _ rfl))
 rw[sz]at oz8 op8
 refine qm ⟨_,rfl,?_⟩
 show Q (.ref g5.objs.size) _
 rw[sz]
 exact k g8 oz8 (up _ _ D.TOz ot5) (q15.at (λo e=>up _ o D.i1z e) λo e=>up _ o D.l1z e) (q25.at (λo e=>up _ o D.i2z e) λo e=>up _ o D.l2z e) op8 λc o c1 c2 c3 c4 e=>up c o c1 (k5 c o c1 c2 c3 c4 e)
def Xj(hh:A.handled=none)(D:z8 z ti tt j1 j2 l1 l2)(oz:xR s.heap z ti tt .none)(oi:uo s.heap ti (.ref j1) (.ref j2))(ot:uo s.heap tt u1 u2)(q1:SIt s.heap j1 l1 m xs)(q2:SIt s.heap j2 l2 m ys)(en:xs[m]?=none\/ys[m]?=none)(k:∀h' e,(∀c o,c≠z->c≠tt->c≠j1->c≠j2->s.heap.get? c=Gc o->h'.get? c=Gc o)->(∃o,h'.get? e=Gc o/\o.cls=.type "StopIteration")->E (.ref e) {s with heap:=h'}):wpAny (model prog w) A (w9.«zip.__next__» ⟨[.ref z],[]⟩) Q E s:=by
 show wpAny _ _ (field (.ref z) 2 >>= _) _ _ _
 refine qP (sv oz rfl (x:=.bool false) rfl ?_)
 show wpAny _ _ (field (.ref z) 3 >>= _) _ _ _
 refine qP (sv oz rfl (x:=.ref ti) rfl (qP (vO oi rfl ?_)))
 show wpAny _ _ (tF (.ref z) >>= _) _ _ _
 refine qP ?_
 unfold tF
 refine qP (sv oz rfl (x:=.none) rfl (qm ?_))
 simp only[wx]
 refine qP (yG (qP (sv oz rfl (x:=.ref tt) rfl (qP (uU oz (by simp) λg1 oz1 b1=>?_)))))
 have oz1:xR g1 z ti tt .ellipsis:=oz1
 refine qP ?_
 simp only[List.zipIdx_cons,List.zipIdx_nil,ya,yt]
 refine qP (qP (xo ?_))
 show wpAny _ _ (rW (.ref j1) >>= _) _ _ _
 cases ex:xs[m]? with
 |none=>
  refine qP (K5 hh (q1.but b1.extBut D.i1z D.l1z) ex λg2 e b2 he=>?_)
  obtain⟨oe,e1,e2⟩:=he
  have oz2:xR g2 z ti tt .ellipsis:=b2 _ _ D.i1z.symm oz1
  have nez:e≠z:=λx=>by subst x;rw[oz2]at e1;cases e1;simp at e2
  exact uU oz2 (by simp) λg3 _ b3=>k g3 e (λc o c1 _ c3 _ x=>b3.extBut _ _ c1 (b2 _ _ c3 (b1.extBut _ _ c1 x))) ⟨oe,b3.extBut _ _ nez e1,e2⟩
 |some x=>
  have ey:ys[m]?=none:=by
   rcases en with z|z
   .rw[ex]at z;cases z
   .exact z
  refine qP (Ku (q1.but b1.extBut D.i1z D.l1z) ex λg2 q12 b2=>qm ?_)
  have ot2:uo g2 tt u1 u2:=b2.extBut _ _ D.TOi1 (b1.extBut _ _ D.TOz ot)
  refine qP (vO ot2 rfl (qP (wZ ot2 λg3 ot3 b3=>?_)))
  refine qP (wpAny_letGo (qm (qP (qP (xo ?_)))))
  show wpAny _ _ (rW (.ref j2) >>= _) _ _ _
  refine qP (K5 hh (((q2.but b1.extBut D.i2z D.l2z).but b2.extBut D.i12.symm D.l2i1).but b3.extBut D.TOi2.symm D.l2TO) ey λg4 e b4 he=>?_)
  obtain⟨oe,e1,e2⟩:=he
  have oz4:xR g4 z ti tt .ellipsis:=b4 _ _ D.i2z.symm (b3.extBut _ _ D.TOz.symm (b2.extBut _ _ D.i1z.symm oz1))
  have nez:e≠z:=λx=>by subst x;rw[oz4]at e1;cases e1;simp at e2
  exact uU oz4 (by simp) λg5 _ b5=>k g5 e (λc o c1 c2 c3 c4 x=>b5.extBut _ _ c1 (b4 _ _ c4 (b3.extBut _ _ c2 (b2.extBut _ _ c3 (b1.extBut _ _ c1 x))))) ⟨oe,b5.extBut _ _ nez e1,e2⟩
def R6(D:z8 z ti tt j1 j2 l1 l2)(oz:xR s.heap z ti tt .none)(oi:uo s.heap ti (.ref j1) (.ref j2))(ot:uo s.heap tt u1 u2)(q1:SIt s.heap j1 l1 m xs)(q2:SIt s.heap j2 l2 m ys)(ex:xs[m]?=Gc x)(ey:ys[m]?=Gc y)(k:∀h',xR h' z ti tt (rawInt s.heap.objs.size)->uo h' tt x y->SIt h' j1 l1 (m+1) xs->SIt h' j2 l2 (m+1) ys->uo h' s.heap.objs.size x y->(∀c o,c≠z->c≠tt->c≠j1->c≠j2->s.heap.get? c=Gc o->h'.get? c=Gc o)->Q (Gc (.ref s.heap.objs.size)) {s with heap:=h'}):wpAny (model prog w) A (pyNext (.ref z)) Q E s:=by
 have ht:s.TypeIs (.ref z) "zip":=⟨_,oz,rfl⟩
 unfold pyNext
 exact qP (wpAny_attempt (tQ (name:=rC "__next__") ht wg (tY wg ht F.entry_zip_next
  (Sv D oz oi ot q1 q2 ex ey λh' a1 a2 a3 a4 a5 a6=>qm (k h' a1 a2 a3 a4 a5 a6)) (z9 _))))
def TC(hh:A.handled=none)(D:z8 z ti tt j1 j2 l1 l2)(oz:xR s.heap z ti tt .none)(oi:uo s.heap ti (.ref j1) (.ref j2))(ot:uo s.heap tt u1 u2)(q1:SIt s.heap j1 l1 m xs)(q2:SIt s.heap j2 l2 m ys)(en:xs[m]?=none\/ys[m]?=none)(k:∀h',(∀c o,c≠z->c≠tt->c≠j1->c≠j2->s.heap.get? c=Gc o->h'.get? c=Gc o)->Q none {s with heap:=h'}):wpAny (model prog w) A (pyNext (.ref z)) Q E s:=by
 have ht:s.TypeIs (.ref z) "zip":=⟨_,oz,rfl⟩
 unfold pyNext
 refine qP (wpAny_attempt (tQ (name:=rC "__next__") ht wg (tY wg ht F.entry_zip_next
  (Xj hh D oz oi ot q1 q2 en λh' e kp he=>?_) (z9 _))))
 obtain⟨o,e1,e2⟩:=he
 exact qP (wpAny_isInstance (T:="StopIteration") (b:=true) ⟨o,e1,e2⟩ isSubtype_stop (qm (k _ kp)))
end L2
end
noncomputable section
namespace L2
open PySem PySem.Spec PyProof.Rows
def MP(h:sS)(b:sD)(l:qg)(its:wL qX):Prop:=match b with|true=>h.IsTuple l its|false=>h.IsList l its
noncomputable def cR:sD->ua|true=>"tuple_iterator" |false=>"list_iterator"
noncomputable def zh1(h:sS)(b:sD)(l:qg):sS:=h.push {cls:=.type (cR b),data:=.fields #[.ref l,.int 0 0]}
noncomputable def zh2(h:sS)(b c:sD)(l m:qg):sS:=zh1 (zh1 h b l) c m
noncomputable def zh3(h:sS)(b c:sD)(l m:qg):sS:=(zh2 h b c l m).push {cls:=.type "tuple",data:=.seq #[.ref h.objs.size,.ref (zh1 h b l).objs.size]}
noncomputable def zh4(h:sS)(b c:sD)(l m:qg):sS:=(zh3 h b c l m).push {cls:=.type "tuple",data:=.seq #[.none,.none]}
noncomputable def zh5(h:sS)(b c:sD)(l m:qg):sS:=(zh4 h b c l m).push {cls:=.type "zip",data:=.fields #[.none,.bool false,.bool false,.ref (zh2 h b c l m).objs.size,.ref (zh3 h b c l m).objs.size]}
def MP.push(q:MP h b l its) o:MP (h.push o) b l its:=by
 cases b
 .exact Heap.IsList.push q _
 .obtain⟨u,e,r⟩:=(show h.IsTuple l its from q)
  exact⟨u,qO _ e,r⟩
def Xc b c l m xs ys:Meets (w9.«zip.__new__» ⟨[.type "zip",.ref l,.ref m],[]⟩) (λ_ R s=>MP s.heap b l xs/\MP s.heap c m ys/\R (.ok (.ret (.ref (zh4 s.heap b c l m).objs.size))) {s with heap:=zh5 s.heap b c l m}):=
 .of_wp λprog w A R s hyp=>by
  obtain⟨hp,gs,dr,tk,os⟩:=s
  obtain⟨i1,i2,hyp⟩:=hyp
  have hsub:=sub_zip
  have i3:MP (uh ⟨zh1 hp b l,gs,dr,tk,os⟩) c m ys:=MP.push i2 _
  cases b<;>cases c
  .have a1:yu (uh ⟨hp,gs,dr,tk,os⟩) l xs:=i1
   have a2:yu (uh ⟨hp.push {cls:=.type "list_iterator",data:=.fields #[.ref l,.int 0 0]},gs,dr,tk,os⟩) m ys:=i3
   wp_walk using tS a1,tS a2
   exact⟨_,rfl,hyp⟩
  .have a1:yu (uh ⟨hp,gs,dr,tk,os⟩) l xs:=i1
   have a2:xA (uh ⟨hp.push {cls:=.type "list_iterator",data:=.fields #[.ref l,.int 0 0]},gs,dr,tk,os⟩) m ys:=i3
   wp_walk using tS a1,tZ a2
   exact⟨_,rfl,hyp⟩
  .have a1:xA (uh ⟨hp,gs,dr,tk,os⟩) l xs:=i1
   have a2:yu (uh ⟨hp.push {cls:=.type "tuple_iterator",data:=.fields #[.ref l,.int 0 0]},gs,dr,tk,os⟩) m ys:=i3
   wp_walk using tZ a1,tS a2
   exact⟨_,rfl,hyp⟩
  .have a1:xA (uh ⟨hp,gs,dr,tk,os⟩) l xs:=i1
   have a2:xA (uh ⟨hp.push {cls:=.type "tuple_iterator",data:=.fields #[.ref l,.int 0 0]},gs,dr,tk,os⟩) m ys:=i3
   wp_walk using tZ a1,tZ a2
   exact⟨_,rfl,hyp⟩
section
variable{s:qj}
def YQ(q:MP h b l its)(k:∀c o,h.get? c=Gc o->h'.get? c=Gc o)(e:h'.get? j=Gc {cls:=.type (cR b),data:=.fields #[.ref l,.int 0 0]}):SIt h' j l 0 its:=by
 cases b
 .exact .inl ⟨⟨_,e,rfl,rfl⟩,(show h.IsList l its from q).at λo z=>k _ o z⟩
 .exact .inr ⟨⟨_,e,rfl,rfl⟩,let⟨o,z,r⟩:=(show h.IsTuple l its from q);⟨o,k _ o z,r⟩⟩
def UG(i1:MP s.heap b l xs)(i2:MP s.heap c m ys)(k:∀h',xR h' (s.heap.objs.size+4) (s.heap.objs.size+2) (s.heap.objs.size+3) .none->uo h' (s.heap.objs.size+2) (.ref s.heap.objs.size) (.ref (s.heap.objs.size+1))->uo h' (s.heap.objs.size+3) .none .none->SIt h' s.heap.objs.size l 0 xs->SIt h' (s.heap.objs.size+1) m 0 ys->(∀c o,s.heap.get? c=Gc o->h'.get? c=Gc o)->Q (.ref (s.heap.objs.size+4)) {s with heap:=h'}):wpAny (model prog w) A (call (.type "zip") [.ref l,.ref m]) Q E s:=by
 refine callType_new F.called_zip (by decide) (F.typeCall_zip_2 _ _) (F.newCall_zip_2 _ _) (λobj=>F.args_object_init_3 obj _ _) F.entry_zip_new (Xc b c l m xs ys) ⟨i1,i2,?_⟩
 have z1:(zh1 s.heap b l).objs.size=s.heap.objs.size+1:=sT ..
 have z2:(zh2 s.heap b c l m).objs.size=s.heap.objs.size+2:=by unfold zh2 zh1;rw[sT];exact congrArg (· +1) z1
 have z3:(zh3 s.heap b c l m).objs.size=s.heap.objs.size+3:=by unfold zh3;rw[sT,z2]
 have z4:(zh4 s.heap b c l m).objs.size=s.heap.objs.size+4:=by unfold zh4;rw[sT,z3]
 have kp:∀d o,s.heap.get? d=Gc o->(zh5 s.heap b c l m).get? d=Gc o:=λd o e=>by
  unfold zh5 zh4 zh3 zh2 zh1
  exact qO _ (qO _ (qO _ (qO _ (qO _ e))))
 have g5:(zh5 s.heap b c l m).get? (zh4 s.heap b c l m).objs.size=Gc _:=qt _ rfl
 have g4:(zh5 s.heap b c l m).get? (zh3 s.heap b c l m).objs.size=Gc _:=qO _ (qt _ rfl)
 have g3:(zh5 s.heap b c l m).get? (zh2 s.heap b c l m).objs.size=Gc _:=qO _ (qO _ (qt _ rfl))
 have g2:(zh5 s.heap b c l m).get? (zh1 s.heap b l).objs.size=Gc _:=qO _ (qO _ (qO _ (qt _ rfl)))
 have g1:(zh5 s.heap b c l m).get? s.heap.objs.size=Gc _:=qO _ (qO _ (qO _ (qO _ (qt _ rfl))))
 show _/\_
 rw[z2,z3,z4]at g5
 rw[z1,z2]at g3
 rw[z3]at g4
 rw[z1]at g2
 rw[z4]
 exact⟨⟨_,g5,rfl⟩,k _ g5 g3 g4 (YQ i1 kp g1) (YQ i2 kp g2) kp⟩
end
end L2
end
noncomputable section
namespace L2
open PySem PySem.Spec PyProof.Rows
def SqB(K:W1)(H:Hp)(k:sD)(a:qg)(xs:Wp V):Prop:=match k with|true=>SqT K H a xs|false=>SqL K H a xs
def JIt(h:sS)(k:sD)(j l:qg)(i:Nat):Prop:=match k with|true=>h.IsTupleIter j l i|false=>h.IsListIter j l i
def JIt.at(q:JIt h k j l i)(e:∀o,h.get? j=Gc o->h'.get? j=Gc o):JIt h' k j l i:=by
 cases k
 .exact Heap.IsListIter.at q e
 .exact Heap.IsTupleIter.at q e
def JIt.sit(q:JIt h k j l i)(p:MP h k l its):SIt h j l i its:=by
 cases k
 .exact .inl ⟨q,p⟩
 .exact .inr ⟨q,p⟩
def SIt.jit(q:SIt h j l i its)(p:MP h k l its):JIt h k j l i:=by
 rcases q with⟨q,r⟩|⟨q,r⟩
 .cases k
  .exact q
  .obtain⟨o,e,c,_⟩:=r;obtain⟨o',e',c',_⟩:=(show h.IsTuple l its from p)
   rw[e]at e';cases e';rw[c]at c';injection c' with z;exact absurd z (by decide)
 .cases k
  .obtain⟨o,e,c,_⟩:=r;obtain⟨o',e',c',_⟩:=(show h.IsList l its from p)
   rw[e]at e';cases e';rw[c]at c';injection c' with z;exact absurd z (by decide)
  .exact q
def Inv.sqB{σ:St}(I:Inv X pins σ H s)(h:SqB X.K H k a xs):∃its,Vals xs its/\MP s.heap k a its.toArray:=by
 cases k
 .obtain⟨its,h1,⟨o,n,q1,q2,_,q3⟩,h3⟩:=I.list h
  exact⟨its,h1,o,q1,q2,n,q3⟩
 .obtain⟨its,h1,h2,h3⟩:=I.tuple h
  exact⟨its,h1,h2⟩
def Inv.P8{σ:St}(I:Inv X pins σ H s)(h:SqB X.K H k a xs)(g:SqB X.K H k a ys):xs=ys:=by
 cases k
 .exact I.Qy h g
 .exact I.Ow h g
noncomputable def Itz(K:W1)(k:sD)(a:qg)(m:sD)(b:qg):It:=
 ⟨λi H=>∃(xs ys:Wp V) (x y:V),SqB K H k a xs/\SqB K H m b ys/\xs[i]?=Gc x/\ys[i]?=Gc y,
  λi H v H'=>∃(p:qg) (x y:V),H p=none/\v=.ref p/\(∀xs,SqB K H k a xs->xs[i]?=Gc x)/\(∀ys,SqB K H m b ys->ys[i]?=Gc y)/\H'=upd H p (.tup [x,y]),
  λi H=>∃(xs ys:Wp V),SqB K H k a xs/\SqB K H m b ys/\(xs.length<=i\/ys.length<=i)⟩
structure ZSt(h:sS)(z ti tt j1 j2:qg)(k:sD)(a:qg)(m:sD)(b:qg)(i:Nat):Prop where
 oz:xR h z ti tt .none
 oi:uo h ti (.ref j1) (.ref j2)
 ot:∃u v,uo h tt u v
 q1:JIt h k j1 a i
 q2:JIt h m j2 b i
structure ZNe(z ti tt j1 j2:qg):Prop where
 n1:ti≠z
 n2:tt≠z
 n3:j1≠z
 n4:j2≠z
 n5:ti≠tt
 n6:ti≠j1
 n7:ti≠j2
 n8:tt≠j1
 n9:tt≠j2
 n10:j1≠j2
def ZNe.apart(N:ZNe z ti tt j1 j2)(ha:a∉ [z,tt,j1,j2])(hb:b∉ [z,tt,j1,j2]):z8 z ti tt j1 j2 a b:=by
 simp only[qY,qp,sC,xp]at ha hb
 exact⟨N.n1,N.n2,N.n3,N.n4,N.n5,N.n6,N.n7,N.n8,N.n9,N.n10,ha.1,ha.2.1,ha.2.2.1,ha.2.2.2,hb.1,hb.2.1,hb.2.2.1,hb.2.2.2⟩
def BL{σ:St}(I:Inv X pins σ H s)(q:SqB X.K H k a xs)(f:Pu X pins H c):a≠c:=by
 intro e
 subst e
 have rd:∀o,Rd H a o->tN:=λo r=>by
  rcases r with r|⟨_,r⟩<;>(rw[f.1]at r;cases r)
 have kk:∀o,X.K.lookup a=Gc o->tN:=λo hk=>by
  have b:=I.ok.mod.kin a o hk
  rcases f.2.2.2.1 with z|z
  .exact I.ok.X7 a o b z
  .exact absurd (qS (ql (I.ok.bs a o b).1) z) (sV _)
 cases k
 .rcases(show SqL X.K H a xs from q)with q|⟨o,_,_,hk,_⟩
  .exact rd _ q
  .exact kk o hk
 .rcases(show SqT X.K H a xs from q)with q|⟨o,_,_,hk,_⟩
  .exact rd _ q
  .exact kk o hk
theorem W4{P:sF}{K:W1} k a m b z ti tt j1 j2(N:ZNe z ti tt j1 j2):Turn P w K (.Tuple elts n pos) (Itz K k a m b) [z,ti,tt,j1,j2] z (λi h=>ZSt h z ti tt j1 j2 k a m b i) where
 mem:=by simp
 obj:=λi h st c hc=>by
  have jl:∀{q:sD} {j l:qg},JIt h q j l i->∃o,h.get? j=Gc o/\∀v,o.data≠.cell v:=λ{q j l} x=>by
   cases q
   .obtain⟨o,e,_,d⟩:=(show h.IsListIter j l i from x)
    exact⟨o,e,λv z=>by rw[d]at z;cases z⟩
   .obtain⟨o,e,_,d⟩:=(show h.IsTupleIter j l i from x)
    exact⟨o,e,λv z=>by rw[d]at z;cases z⟩
  simp only[qY,qp,sC]at hc
  rcases hc with rfl|rfl|rfl|rfl|rfl
  .exact⟨_,st.oz,λv z=>nomatch z⟩
  .exact⟨_,st.oi,λv z=>nomatch z⟩
  .obtain⟨u,v,e⟩:=st.ot
   exact⟨_,e,λv z=>nomatch z⟩
  .exact jl st.q1
  .exact jl st.q2
 keep:=λi h h' st kp=>⟨kp z (by simp) _ st.oz,kp ti (by simp) _ st.oi,let⟨u,v,e⟩:=st.ot;⟨u,v,kp tt (by simp) _ e⟩,st.q1.at λo e=>kp j1 (by simp) o e,st.q2.at λo e=>kp j2 (by simp) o e⟩
 item:=by
  intro X hP hw hK hc i pins s σ H E I hf st hg
  subst hP hw hK
  obtain⟨xs,ys,x,y,s1,s2,e1,e2⟩:=hg
  obtain⟨i1,r1,p1⟩:=I.sqB s1
  obtain⟨i2,r2,p2⟩:=I.sqB s2
  obtain⟨u1,h1,ru1⟩:=r1.get e1
  obtain⟨u2,h2,ru2⟩:=r2.get e2
  have fz:=hf z (by simp);have fi:=hf ti (by simp);have ft:=hf tt (by simp);have f1:=hf j1 (by simp);have f2:=hf j2 (by simp)
  have ap:=N.apart (a:=a) (b:=b) (by simp[BL I s1 fz,BL I s1 ft,BL I s1 f1,BL I s1 f2]) (by simp[BL I s2 fz,BL I s2 ft,BL I s2 f1,BL I s2 f2])
  obtain⟨v1,v2,ot⟩:=st.ot
  refine R6 ap st.oz st.oi ot (st.q1.sit p1) (st.q2.sit p2) (x:=u1) (y:=u2) (by simpa using h1) (by simpa using h2) λh' oz ot' q1 q2 op kp=>⟨_,rfl,wpAny_letOwnedTupleGo_zip oz λg oz' sb=>?_⟩
  have lt:∀c o,s.heap.get? c=Gc o->c≠s.heap.objs.size:=λc o q=>rK (ql q)
  have nz:z≠s.heap.objs.size:=lt _ _ st.oz
  have nt:tt≠s.heap.objs.size:=lt _ _ ot
  have n1:j1≠s.heap.objs.size:=by obtain⟨o,e,_⟩:=(st.q1.sit p1).live;exact lt _ _ e
  have n2:j2≠s.heap.objs.size:=by obtain⟨o,e,_⟩:=(st.q2.sit p2).live;exact lt _ _ e
  have kp2:∀c o,c≠z->c≠tt->c≠j1->c≠j2->s.heap.get? c=Gc o->g.get? c=Gc o:=λc o c1 c2 c3 c4 q=>(sb.2 c c1).trans (kp c o c1 c2 c3 c4 q)
  have fr:H s.heap.objs.size=none:=I.hok.fresh (qW _)
  have op2:g.get? s.heap.objs.size=Gc {cls:=.type "tuple",data:=.seq #[u1,u2]}:=(sb.2 _ (se nz)).trans op
  have ne:∀c u,c∈ [z,ti,tt,j1,j2]->∀d,H d=Gc u->d≠c:=λc u hc d q e=>by rw[e,(hf c hc).1]at q;cases q
  have kpH:∀c u,H c=Gc u->∀o,s.heap.get? c=Gc o->g.get? c=Gc o:=λc u q o e=>kp2 c o (ne z u (by simp) c q) (ne tt u (by simp) c q) (ne j1 u (by simp) c q) (ne j2 u (by simp) c q) e
  have ka:∀o,s.heap.get? a=Gc o->g.get? a=Gc o:=λo e=>kp2 a o (BL I s1 fz) (BL I s1 ft) (BL I s1 f1) (BL I s1 f2) e
  have kb:∀o,s.heap.get? b=Gc o->g.get? b=Gc o:=λo e=>kp2 b o (BL I s2 fz) (BL I s2 ft) (BL I s2 f1) (BL I s2 f2) e
  have sq:∀{q:sD} {d:qg} {is:wL qX},MP s.heap q d is->(∀o,s.heap.get? d=Gc o->h'.get? d=Gc o)->MP h' q d is:=λ{q d is} x kd=>by
   cases q
   .exact(show s.heap.IsList d is from x).at kd
   .obtain⟨o,e,r⟩:=(show s.heap.IsTuple d is from x)
    exact⟨o,kd o e,r⟩
  have ka1:∀o,s.heap.get? a=Gc o->h'.get? a=Gc o:=λo e=>kp a o (BL I s1 fz) (BL I s1 ft) (BL I s1 f1) (BL I s1 f2) e
  have kb1:∀o,s.heap.get? b=Gc o->h'.get? b=Gc o:=λo e=>kp b o (BL I s2 fz) (BL I s2 ft) (BL I s2 f1) (BL I s2 f2) e
  refine⟨.ref s.heap.objs.size,upd H s.heap.objs.size (.tup [x,y]),?_,rfl,⟨_,x,y,fr,rfl,λzs hz=>by rw[I.P8 hz s1];exact e1,λzs hz=>by rw[I.P8 hz s2];exact e2,rfl⟩,⟨oz',(sb.2 _ N.n1).trans (kp ti _ N.n1 N.n5 N.n6 N.n7 st.oi),⟨_,_,(sb.2 _ N.n2).trans ot'⟩,(q1.jit (sq p1 ka1)).at λo e=>(sb.2 _ N.n3).trans e,(q2.jit (sq p2 kb1)).at λo e=>(sb.2 _ N.n4).trans e⟩,?_⟩
  .show Inv X pins σ _ {s with heap:=g,gens:=s.gens,drawn:=s.drawn,toks:=s.toks}
   refine I.step (g':=s.gens) (d':=s.drawn) (ch:=[z,tt,j1,j2]) ?_ ?_ ?_ ?_ ?_ ?_ ?_ ?_ ?_ ?_ I.bare
   .intro c hc
    have q:Pu X pins H c:=hf c (by simp only[qY,qp,sC]at hc ⊢; rcases hc with z|z|z|z<;>simp[z])
    exact⟨q.2.2.2.1,q.2.1,q.2.2.2.2.1,q.2.2.2.2.2⟩
   .exact λc o _ _ hc q _=>by
     simp only[qY,qp,sC,xp]at hc
     exact kp2 c o hc.1 hc.2.1 hc.2.2.1 hc.2.2.2 q
   .exact λc o _ _ hc q _=>by
     simp only[qY,qp,sC,xp]at hc
     exact⟨o.slots,kp2 c o hc.1 hc.2.1 hc.2.2.1 hc.2.2.2 q⟩
   .exact λc o _ q n=>by rw[Ae (lt c o q)];exact n
   .exact λc o hc q=>by
     simp only[qY,qp,sC,xp]at hc
     exact⟨o,kp2 c o hc.1 hc.2.1 hc.2.2.1 hc.2.2.2 q⟩
   .exact λc ys q=>by rw[Ae (BG q fr)];exact q
   .exact λc o u q=>by rw[Ae (BG q fr)];exact q
   .exact λc ps q=>⟨#[],by rw[Ae (BG q fr),q];simp⟩
   .rintro mm ⟨o,es,ep,ho,r⟩
    exact⟨o,es,ep,kp2 _ o (se fz.2.1) (se ft.2.1) (se f1.2.1) (se f2.2.1) ho,r⟩
   .intro c v q
    by_cases hb:c=s.heap.objs.size
    .subst hb
     rw[Ax]at q
     cases q
     exact⟨by show 2<=sizeLine;decide,[u1,u2],.cons ru1 (.cons ru2 .nil),⟨_,op2,rfl,0,rfl⟩⟩
    .rw[Ae hb]at q
     refine(I.hok c v q).V7 (λd o hd r=>?_) (λd r=>by rw[Ae (BG r fr)];exact r) (λd ys r=>by rw[Ae (BG r fr)];exact r)
     rcases hd with e|e
     .rw[e]at r ⊢; exact kpH c v q o r
     .exact kpH d _ e o r
  .intro c hc
   have q:=hf c hc
   have:c≠s.heap.objs.size:=by
    simp only[qY,qp,sC]at hc
    rcases hc with e|e|e|e|e
    .rw[e];exact nz
    .rw[e];exact lt _ _ st.oi
    .rw[e];exact nt
    .rw[e];exact n1
    .rw[e];exact n2
   rw[Ae this];exact q.1
 done:=by
  intro X hP hw hK hc i pins s σ H E I hf st hg
  subst hP hw hK
  obtain⟨xs,ys,s1,s2,e⟩:=hg
  obtain⟨i1,r1,p1⟩:=I.sqB s1
  obtain⟨i2,r2,p2⟩:=I.sqB s2
  have l1:=r1.length
  have l2:=r2.length
  have hh:X.A.in1.handled=none:=I.ok.hd hc
  have hh0:X.A.handled=none:=I.ok.hd hc
  have fz:=hf z (by simp);have fi:=hf ti (by simp);have ft:=hf tt (by simp);have f1:=hf j1 (by simp);have f2:=hf j2 (by simp)
  have ap:=N.apart (a:=a) (b:=b) (by simp[BL I s1 fz,BL I s1 ft,BL I s1 f1,BL I s1 f2]) (by simp[BL I s2 fz,BL I s2 ft,BL I s2 f1,BL I s2 f2])
  obtain⟨v1,v2,ot⟩:=st.ot
  refine TC hh0 ap st.oz st.oi ot (st.q1.sit p1) (st.q2.sit p2) (by rcases e with e|e;exact .inl (by simp;lia);exact .inr (by simp;lia)) λh' kp=>⟨rfl,?_⟩
  have ne:∀c u,c∈ [z,ti,tt,j1,j2]->∀d,H d=Gc u->d≠c:=λc u hc d q e=>by rw[e,(hf c hc).1]at q;cases q
  show Inv X pins σ _ {s with heap:=h',gens:=s.gens,drawn:=s.drawn,toks:=s.toks}
  refine I.step (g':=s.gens) (d':=s.drawn) (ch:=[z,tt,j1,j2]) ?_ ?_ ?_ ?_ ?_ ?_ ?_ ?_ ?_ ?_ I.bare
  .intro c hc
   have q:Pu X pins H c:=hf c (by simp only[qY,qp,sC]at hc ⊢; rcases hc with z|z|z|z<;>simp[z])
   exact⟨q.2.2.2.1,q.2.1,q.2.2.2.2.1,q.2.2.2.2.2⟩
  .exact λc o _ _ hc q _=>by
    simp only[qY,qp,sC,xp]at hc
    exact kp c o hc.1 hc.2.1 hc.2.2.1 hc.2.2.2 q
  .exact λc o _ _ hc q _=>by
    simp only[qY,qp,sC,xp]at hc
    exact⟨o.slots,kp c o hc.1 hc.2.1 hc.2.2.1 hc.2.2.2 q⟩
  .exact λc o _ q n=>n
  .exact λc o hc q=>by
    simp only[qY,qp,sC,xp]at hc
    exact⟨o,kp c o hc.1 hc.2.1 hc.2.2.1 hc.2.2.2 q⟩
  .exact λc ys q=>q
  .exact λc o u q=>q
  .exact λc ps q=>⟨#[],by rw[q];simp⟩
  .rintro mm ⟨o,es,ep,ho,r⟩
   exact⟨o,es,ep,kp _ o (se fz.2.1) (se ft.2.1) (se f1.2.1) (se f2.2.1) ho,r⟩
  .intro c v q
   refine(I.hok c v q).V7 (λd o hd r=>?_) (λd r=>r) (λd ys r=>r)
   rcases hd with e|e
   .rw[e]at r ⊢; exact kp c o (ne z v (by simp) c q) (ne tt v (by simp) c q) (ne j1 v (by simp) c q) (ne j2 v (by simp) c q) r
   .exact kp d o (ne z _ (by simp) d e) (ne tt _ (by simp) d e) (ne j1 _ (by simp) d e) (ne j2 _ (by simp) d e) r
 self:=λ_ _ _ _ _ st h=>wpAny_pyIter_zip st.oz h
end L2
end
noncomputable section
namespace L2
open PySem PySem.Spec PyProof.Rows
def zne(n:Nat):ZNe (n+4) (n+2) (n+3) n (n+1):=⟨λe=>by have:n+2=n+4:=e;lia,λe=>by have:n+3=n+4:=e;lia,λe=>by have:n=n+4:=e;lia,λe=>by have:n+1=n+4:=e;lia,λe=>by have:n+2=n+3:=e;lia,λe=>by have:n+2=n:=e;lia,λe=>by have:n+2=n+1:=e;lia,λe=>by have:n+3=n:=e;lia,λe=>by have:n+3=n+1:=e;lia,λe=>by have:n=n+1:=e;lia⟩
noncomputable def pd(K:W1)(ta:TA):TI:=λσ H R=>ta σ H λvs H1=>∃k a m b,vs=[.ref a,.ref b]/\(∃xs,SqB K H1 k a xs)/\(∃ys,SqB K H1 m b ys)/\R (Itz K k a m b) H1
def gO{p pos tp:Pos}{elts:Wp sG}{n:Nat}(hg:Gl X "zip")(hm:X.mg "zip"=none)(ha:PA X [a,b] ta)(hs:zb (qc [a,b] X.env=[(false,eval a X.env),(false,eval b X.env)]) ww)(hs2:zb (qc [b] X.env=[(false,eval b X.env)]) ww):PI X (.Tuple elts n tp) (.Call (.Name "zip" p) [a,b] [] pos) (pd X.K ta):=by
 intro pins s σ H R I h
 refine Call_ (M9 I hg hm boot_zip (vH (thn (ha pos pins s σ H _ I h) λus s1 ⟨vs,H1,I1,r1,q1⟩=>?_) (by rw[hs,hs2]) (by rw[hs2];rfl)))
 obtain⟨k,a',m,b',e,⟨xs,hq⟩,⟨ys,hr⟩,q⟩:=q1
 subst e
 obtain⟨u,v,rfl,ru,rv⟩:=r1.two
 cases (show u=q9 a' from ru)
 cases (show v=q9 b' from rv)
 obtain⟨i1,v1,p1⟩:=I1.sqB hq
 obtain⟨i2,v2,p2⟩:=I1.sqB hr
 refine UG p1 p2 λh' oz oi ot q1 q2 kp=>wpAny_pyIter_zip (s:={s1 with heap:=h'}) oz ?_
 have sq:∀{q:sD} {d:qg} {is:wL qX},MP s1.heap q d is->MP h' q d is:=λ{q d is} x=>by
  cases q
  .exact(show s1.heap.IsList d is from x).at λo e=>kp _ o e
  .obtain⟨o,e,r⟩:=(show s1.heap.IsTuple d is from x)
   exact⟨o,kp _ o e,r⟩
 refine⟨s1.heap.objs.size+4,[s1.heap.objs.size+4,s1.heap.objs.size+2,s1.heap.objs.size+3,s1.heap.objs.size,s1.heap.objs.size+1],_,_,H1,rfl,I1.kept (t':=s1.toks) kp,
  W4 k a' m b' _ _ _ _ _ (zne s1.heap.objs.size),⟨oz,oi,⟨_,_,ot⟩,q1.jit (sq p1),q2.jit (sq p2)⟩,λc hc=>?_,q⟩
 simp only[qY,qp,sC]at hc
 have:s1.heap.objs.size<=c:=by rcases hc with rfl|rfl|rfl|rfl|rfl<;>first|exact qW _|exact Nat.le_add_right _ _
 exact I1.ao this (I1.hok.fresh this)
end L2
end
noncomputable section
namespace L2
open PySem PySem.Spec PyProof.Rows
def IsList.Qu{h h':sS}(p:h.IsList a items)(k:∀o,h.get? a=Gc o->h'.get? a=Gc o):h'.IsList a items:=by
 obtain⟨o,ho,r⟩:=p
 exact⟨o,k o ho,r⟩
theorem O1(hne:t≠it):∀n i s Q,s.heap.IsListIter it t i->s.heap.IsList t items->i+n<=items.size->(∀h',h'.IsListIter it t (i+n)->vy it s.heap h'->Q ((items.toList.drop i).take n) {s with heap:=h'})->wpAny (model prog w) A (draw (.ref it) n) Q E s
 |0,i,s,Q,hit,_,_,hQ=>by
  show wpAny _ _ (pure []) Q E s
  exact qm (by simpa using hQ s.heap hit (Heap.SameBut.refl ..))
 |n+1,i,s,Q,hit,ht,hle,hQ=>by
  have hlt:i<items.size:=by lia
  show wpAny _ _ (pyNext (.ref it) >>= _) Q E s
  refine qP (vz hit ht (x:=items[i]) (by simp[hlt]) λh1 hit1 hs1=>?_)
  refine qP (tw (O1 hne n (i+1) _ _ hit1 (IsList.Qu ht λo e=>hs1.extBut t o hne e) (by lia) λh2 hit2 hs2=>qm ?_))
  have hd:items.toList.drop i=items[i]::items.toList.drop (i+1):=by simp[sP,hlt]
  have:=hQ h2 (by rw[show i+(n+1)=i+1+n by lia];exact hit2) (hs1.trans hs2)
  rw[hd,List.take_succ_cons]at this
  exact this
def Kl(hh:A.handled=none)(ht:s.heap.IsList t items)(hty:s.TypeIs (.ref t) "list")(hQ:∀h',xi s.heap.objs.size s.heap h'->Q items.toList {s with heap:=h'}):wpAny (model prog w) A (unpackItems (.ref t) items.size none) Q E s:=by
 have hlt:t≠s.heap.objs.size:=by obtain⟨o,ho,_⟩:=ht;exact rK (ql ho)
 unfold unpackItems
 refine qP ?_
 .unfold notIterableAtAll
  refine qP (wpAny_specialOf hty F.slot_list_iter.lookup ?_)
  refine qm ?_
  simp only[zU,x9]
  refine qP (tw (tS ht ?_))
  refine qP (tw (O1 hlt items.size 0 _ _ ⟨_,qt _ rfl,rfl,rfl⟩ (IsList.Qu ht λo e=>qO _ e) (by lia) λh1 hit1 hs1=>?_))
  have hall:List.take items.size (List.drop 0 items.toList)=items.toList:=by
   rw[List.drop_zero];exact v9 (by simp)
  rw[hall]
  rw[rA (by simp)]
  have ht1:h1.IsList t items:=IsList.Qu (IsList.Qu ht λo e=>qO _ e) λo e=>hs1.extBut t o hlt e
  refine qP (tw (wM hh hit1 ht1 (by simp) λh2 he2=>?_))
  simp only[Option.isSome_none,zU,x9]
  refine qm (hQ h2 λb o hb e=>he2 b o hb (hs1.extBut b o hb (qO _ e)))
def Ji{x1}(hh:A.handled=none)(ht:s.heap.IsList t items)(hty:s.TypeIs (.ref t) "list")(hn:(assignEach elts env).length=items.size)(hstar:(assignEach elts env).findIdx? (·.1)=none)(h:∀h',xi s.heap.objs.size s.heap h'->wpAny (model prog w) A (assignInOrder ((assignEach elts env).map (·.2)) items.toList) Q E {s with heap:=h'}):wpAny (model prog w) A (assign (.Tuple elts x1 pos) env (.ref t)) Q E s:=by
 rw[PyProof.Rows.assign_Tuple]
 refine qP (vc ?_)
 unfold unpack
 rw[hn,hstar]
 exact qP (tw (Kl hh ht hty h))
section
variable{X:Cx}{pos:Pos}
noncomputable def oB(K:W1)(n:Nat)(t:TGs):TG:=λv σ H Q=>∃a xs,v=.ref a/\(SqT K H a xs\/H a=Gc (.lst xs))/\xs.length=n/\t xs σ H Q
def fw{k:Nat}(hc:X.calm=true)(h:PGs X es t)(hn:zb ((assignEach es X.env).length=n) ww)(hst:zb ((assignEach es X.env).findIdx? (·.1)=none) ww):PG X (.Tuple es k pos) (oB X.K n t):=by
 intro pins s σ H v u Q I r hw
 obtain⟨a,xs,e1,hq,hl,hw⟩:=hw
 rcases hq with hq|hq
 .exact fO hc h hn hst pins s σ H v u Q I r ⟨a,xs,e1,hq,hl,hw⟩
 .subst e1
  cases r
  obtain⟨its,rv,p,hz⟩:=I.list (SqL.of hq)
  obtain⟨z,its2,m,rv2,_,e⟩:=I.WB hq
  refine Ji (I.ok.hd hc) p.isList ⟨_,e,rfl⟩ (by simp[hn,<-hl,rv.length]) hst λh' hx=>?_
  have I1:Inv X pins σ H {s with heap:=h'}:=I.kept (t':=s.toks) λb o e=>hx b o (rK (ql e)) e
  exact h pins _ σ H xs _ Q I1 (by simpa using rv) hw
end
end L2
end
noncomputable section
namespace L2
open PySem PySem.Spec PyProof.Rows
def JIt.live(q:JIt h k j l i):∃o,h.get? j=Gc o/\∀v,o.data≠.cell v:=by
 cases k with
 |true=>obtain⟨o,e,c,d⟩:=q;exact⟨o,e,λv z=>by rw[d]at z;cases z⟩
 |false=>obtain⟨o,e,c,d⟩:=q;exact⟨o,e,λv z=>by rw[d]at z;cases z⟩
def MP.mono(q:MP h k l its)(e:∀o,h.get? l=Gc o->h'.get? l=Gc o):MP h' k l its:=by
 cases k with
 |true=>obtain⟨o,ho,r⟩:=q;exact⟨o,e o ho,r⟩
 |false=>obtain⟨o,ho,r⟩:=q;exact⟨o,e o ho,r⟩
theorem TL(hh:A.handled=none) it t(hne:t≠it) items:Draws prog w A it [it,t] items.size (λi v=>items[i]?=Gc v) (λi h=>SIt h it t i items) where
 live:=λ_ _ st=>let⟨o,ho,_⟩:=st.live;⟨o,ho⟩
 frame:=λ_ _ _ st hk=>st.at (λo e=>hk it (by simp) o e) λo e=>hk t (by simp) o e
 item:=λi s Q E hi st hQ=>Ku st (x:=items[i]) (by simp[hi]) λh' a b=>hQ _ h' s.toks (by simp[hi]) a b
 done:=λs Q E st hE=>K5 hh st (by simp) hE
noncomputable def ItE(K:W1)(kk:sD)(a:qg):It:=
 ⟨λi H=>∃xs x,SqB K H kk a xs/\xs[i]?=Gc x,λi H x H'=>∃p y,H p=none/\x=.ref p/\(∀xs,SqB K H kk a xs->xs[i]?=Gc y)/\H'=upd H p (.tup [.int i,y]),λi H=>∃xs,SqB K H kk a xs/\xs.length<=i⟩
theorem Ri{P:sF}{K:W1} kk a e it(hei:e≠it):Turn P w K (.Tuple elts k pos) (ItE K kk a) [e,it] e (λi h=>(∃old,IsEnum h e it i old)/\JIt h kk it a i) where
 mem:=by simp
 obj:=λi h st b hb=>by
  obtain⟨⟨old,h1⟩,st2⟩:=st
  obtain⟨o,h2,h4⟩:=st2.live
  simp only[qY,qp,sC]at hb
  rcases hb with rfl|rfl
  .exact⟨_,h1,λv z=>nomatch z⟩
  .exact⟨o,h2,h4⟩
 keep:=λi h h' st k=>by
  obtain⟨⟨old,h1⟩,h2⟩:=st
  exact⟨⟨old,k e (by simp) _ h1⟩,h2.at λo q=>k it (by simp) o q⟩
 item:=by
  intro X hP hw hK hc i pins s σ H E I hf st hg
  subst hP hw hK
  obtain⟨xs,x,hq,hx⟩:=hg
  obtain⟨its,rv,p⟩:=I.sqB hq
  obtain⟨u,hu,ru⟩:=rv.get hx
  obtain⟨⟨old,h1⟩,h2⟩:=st
  obtain⟨oi,hi1,hi2⟩:=h2.live
  have hea:a≠e:=BL I hq (hf e (by simp))
  have hia:a≠it:=BL I hq (hf it (by simp))
  have hil:i<its.toArray.size:=by
   have:=(qV.mp hu).1
   simpa using this
  have hh:X.A.in1.handled=none:=I.ok.hd hc
  have D:=TL (prog:=X.prog) (w:=X.w) hh it a hia its.toArray
  refine wpAny_pyNext_enum_itemD D h1 (h2.sit p) hil hei (by simp[hei,se hea]) ?_
  intro y h' tk hy out st' tup size kept
  have ey:y=u:=by
   have:its[i]?=Gc y:=by simpa using hy
   rw[hu]at this
   exact(tH this).symm
  subst ey
  refine⟨_,rfl,wpAny_letOwnedTupleGo_enum out λh'' en sb=>?_⟩
  have hfe:=hf e (by simp)
  have hfi:=hf it (by simp)
  have lt:∀b o,s.heap.get? b=Gc o->b≠s.heap.objs.size:=λb o q=>rK (ql q)
  have kept2:∀b o,b≠e->b≠it->s.heap.get? b=Gc o->h''.get? b=Gc o:=λb o b1 b2 q=>(sb.2 b b1).trans (kept b o b1 b2 q)
  have fr:H s.heap.objs.size=none:=I.hok.fresh (qW _)
  have tup2:h''.get? s.heap.objs.size=Gc {cls:=.type "tuple",data:=.seq #[.int i tk,y]}:=(sb.2 _ (se (lt e _ h1))).trans tup
  have ne1:∀b u,H b=Gc u->b≠e:=λb u q z=>by rw[z,hfe.1]at q;cases q
  have ne2:∀b u,H b=Gc u->b≠it:=λb u q z=>by rw[z,hfi.1]at q;cases q
  refine⟨.ref s.heap.objs.size,upd H s.heap.objs.size (.tup [.int i,x]),?_,rfl,⟨_,x,fr,rfl,λys hys=>by rw[I.P8 hys hq];exact hx,rfl⟩,⟨⟨y,en⟩,?_⟩,?_⟩
  .show Inv X pins σ _ {s with heap:=h'',gens:=s.gens,drawn:=s.drawn,toks:=tk+1}
   refine I.step (g':=s.gens) (d':=s.drawn) (ch:=[e,it]) ?_ ?_ ?_ ?_ ?_ ?_ ?_ ?_ ?_ ?_ I.bare
   .intro b hb
    simp only[qY,qp,sC]at hb
    rcases hb with rfl|rfl
    .exact⟨hfe.2.2.2.1,hfe.2.1,hfe.2.2.2.2.1,hfe.2.2.2.2.2⟩
    .exact⟨hfi.2.2.2.1,hfi.2.1,hfi.2.2.2.2.1,hfi.2.2.2.2.2⟩
   .exact λb o _ _ hc q _=>kept2 b o (λz=>hc (by simp[z])) (λz=>hc (by simp[z])) q
   .exact λb o _ _ hc q _=>⟨o.slots,kept2 b o (λz=>hc (by simp[z])) (λz=>hc (by simp[z])) q⟩
   .exact λb o _ q n=>by rw[Ae (lt b o q)];exact n
   .exact λb o hc q=>⟨o,kept2 b o (λz=>hc (by simp[z])) (λz=>hc (by simp[z])) q⟩
   .exact λb ys q=>by rw[Ae (BG q fr)];exact q
   .exact λb o u q=>by rw[Ae (BG q fr)];exact q
   .exact λb ps q=>⟨#[],by rw[Ae (BG q fr),q];simp⟩
   .rintro m ⟨o,es,ep,ho,r⟩
    exact⟨o,es,ep,kept2 _ o (se hfe.2.1) (se hfi.2.1) ho,r⟩
   .intro b v q
    by_cases hb:b=s.heap.objs.size
    .subst hb
     rw[Ax]at q
     cases q
     exact⟨by show 2<=sizeLine;decide,[.int i tk,y],.cons ⟨tk,rfl⟩ (.cons ru .nil),⟨_,tup2,rfl,0,rfl⟩⟩
    .rw[Ae hb]at q
     refine(I.hok b v q).V7 (λc z hc r=>kept2 c z ?_ ?_ r) (λc r=>by rw[Ae (BG r fr)];exact r) (λc ys r=>by rw[Ae (BG r fr)];exact r)
     .rcases hc with z|z
      .rw[z];exact ne1 b v q
      .exact ne1 c _ z
     .rcases hc with z|z
      .rw[z];exact ne2 b v q
      .exact ne2 c _ z
  .have pa:MP h'' kk a its.toArray:=p.mono λo q=>kept2 a o hea hia q
   exact(st'.at (λo q=>(sb.2 it (se hei)).trans q) λo q=>(sb.2 a hea).trans q).jit pa
  .intro b hb
   simp only[qY,qp,sC]at hb
   rcases hb with rfl|rfl
   .rw[Ae (lt b _ h1)];exact hfe.1
   .rw[Ae (lt b _ hi1)];exact hfi.1
 done:=by
  intro X hP hw hK hc i pins s σ H E I hf st hg
  subst hP hw hK
  obtain⟨xs,hq,hx⟩:=hg
  obtain⟨its,rv,p⟩:=I.sqB hq
  obtain⟨⟨old,h1⟩,h2⟩:=st
  have hl:=rv.length
  have hh:X.A.in1.handled=none:=I.ok.hd hc
  obtain⟨f0,f1,f2,f3,f4,f5⟩:=hf it (by simp)
  have D:Draws X.prog X.w X.A.in1 it [it,a] i (λ_ _=>xH) (λj h=>j=i/\SIt h it a i its.toArray):=
   {live:=λ_ _ st=>let⟨o,ho,_⟩:=st.2.live;⟨o,ho⟩
    frame:=λ_ _ _ st hk=>⟨st.1,st.2.at (λo e=>hk it (by simp) o e) λo e=>hk a (by simp) o e⟩
    item:=λj s Q E hj st _=>absurd st.1 (rK hj)
    done:=λs Q E st hE=>K5 hh st.2 (by simp;lia) hE}
  exact wpAny_pyNext_enum_endD D h1 ⟨rfl,h2.sit p⟩ λh' eb=>⟨rfl,I.turned (t':=s.toks) (λb o hb q=>eb b o hb q) f0 f1 f3 f4 f5⟩
 self:=λ_ _ _ _ _ st h=>by
  obtain⟨⟨old,h1⟩,_⟩:=st
  exact AAA h1 h
noncomputable def fD(K:W1)(ta:TA):TI:=λσ H R=>ta σ H λvs H1=>∃kk a,vs=[.ref a]/\(∃xs,SqB K H1 kk a xs)/\R (ItE K kk a) H1
def Wa(hg:Gl X "enumerate")(hm:X.mg "enumerate"=none)(ha:PA X [a] ta)(hs:zb (qc [a] X.env=[(false,eval a X.env)]) ww):PI X (.Tuple elts k tp) (.Call (.Name "enumerate" p) [a] [] pos) (fD X.K ta):=by
 intro pins s σ H R I h
 refine Call_ (M9 I hg hm boot_enumerate (callWith_type1 (thn (ha pos pins s σ H _ I h) λus s1 z=>?_) hs rfl))
 obtain⟨vs,H1,I1,r1,q1⟩:=z
 obtain⟨kk,b,e,⟨xs,hq⟩,q⟩:=q1
 subst e
 obtain⟨u,rfl,ru⟩:=r1.one
 cases (show u=q9 b from ru)
 obtain⟨its,rv,pt⟩:=I1.sqB hq
 have fin:∀h':sS,IsEnum h' (s1.heap.objs.size+1) s1.heap.objs.size 0 .none->JIt h' kk s1.heap.objs.size b 0->(∀b o,s1.heap.get? b=Gc o->h'.get? b=Gc o)->wpAny (model X.prog X.w) X.A (pyIter (.ref (s1.heap.objs.size+1))) (PIE X pins σ (.Tuple elts k tp) R) X.xe {s1 with heap:=h'}:=λh' en it kp=>by
  refine AAA (s:={s1 with heap:=h'}) en ?_
  refine⟨s1.heap.objs.size+1,[s1.heap.objs.size+1,s1.heap.objs.size],_,_,H1,rfl,I1.kept (t':=s1.toks) kp,Ri kk b (s1.heap.objs.size+1) s1.heap.objs.size (Nat.succ_ne_self _),⟨⟨_,en⟩,it⟩,λc hc=>?_,q⟩
  simp only[qY,qp,sC]at hc
  rcases hc with rfl|rfl
  .exact I1.ao (by lia) (I1.hok.fresh (by lia))
  .exact I1.ao (qW _) (I1.hok.fresh (qW _))
 cases kk with
 |true=>exact SM (show s1.heap.IsTuple b its.toArray from pt) λh' en it kp=>fin h' en it kp
 |false=>exact call_enumerate_list (show s1.heap.IsList b its.toArray from pt) λh' en it _ kp=>fin h' en it kp
end L2
end
noncomputable section
namespace St
open PySem PySem.Spec L2 PyProof.Rows
inductive Kd where
 |non|bl|int|str|tup|lst|dct
 deriving DecidableEq
noncomputable def Kd.ty:Kd->ua
 | .non=>"NoneType" | .bl=>"bool" | .int=>"int" | .str=>"str" | .tup=>"tuple" | .lst=>"list" | .dct=>"dict"
noncomputable def Kd.isA:Kd->ua->sD
 | .bl,"bool"=>true| .bl,"int"=>true| .int,"int"=>true| .str,"str"=>true| .tup,"tuple"=>true| .lst,"list"=>true| .dct,"dict"=>true
 |_,_=>false
section
variable{K:W1}
def Zs(k:Kd):uR K (.type k.ty) (.type "int")=Gc (k.isA "int"):=by
 cases k<;>first|rfl|(unfold uR;rfl)
def WY(k:Kd):uR K (.type k.ty) (.type "bool")=Gc (k.isA "bool"):=by
 cases k<;>rfl
def kit_tuple(k:Kd):uR K (.type k.ty) (.type "tuple")=Gc (k.isA "tuple"):=by
 cases k<;>rfl
def Zh(k:Kd):uR K (.type k.ty) (.type "str")=Gc (k.isA "str"):=by
 cases k<;>rfl
end
structure Dfn(P:sF)(w:tK)(K:W1)(mg:Str->qR qX)(base:sS)(x:Str)(k:Nat)(ps:Wp Str)(sp:Sp):Prop where
 ex:∃f fd,mg x=Gc (.ref f)/\sL K (.ref f)=true/\Binds K fd ps []/\Ka P w K mg base CX0 k f fd ps sp
structure Src(K:W1)(mg:Str->qR qX)(x:Str)(st:rQ):Prop where
 ex:∃f fd,Fun K x x st f fd/\mg x=Gc (.ref f)
def jb{X:Cx}{k:Nat}{x:Str}{ps:Wp Str}{p pos:Pos}(d:Dfn X.prog X.w X.K X.mg X.base x k ps sp)(hr:Cb k X.A)(hg:Gl X x)(ha:PA X (e::es) t)(hdb:zb ((x==("__debug__":Str))=false) xz)(he:zb (qc (e::es) X.env=(false,eval e X.env)::qc es X.env) ww)(hpl:zb ((backTo pos (qc es X.env)).any (·.1)=false) ww):PE X (.Call (.Name x p) (e::es) [] pos) (bI sp [] E0 t):=by
 obtain⟨f,fd,a,b,c,F⟩:=d.ex
 exact aN F hr hg a b c .nil VP ha hdb he hpl
def Zx(h:n<2^8000):n.log2<9000:=by
 by_cases h0:n=0
 .subst h0;decide
 .exact vB ((Nat.log2_lt h0).mpr h) (by decide)
def We:OpR X (binaryOp .FloorDiv) (rI (λ_ j=>0<j/\j.natAbs<2^8000) λi j=>.int (i / j)):=opI λi j _ _ _ _ _ hc q=>by
 have h1:(0:Int)<j:=hc.1
 exact floordiv_int (by lia) (by rw[Int.fdiv_eq_ediv_of_nonneg i (by lia)];exact q) (.inl (PyProof.noPylong_of_log2 (Zx hc.2)))
theorem NH(hh:A.handled=none)(hne:a≠it){vs:Wp qX}:Walks prog w A it [it,a] [it] vs.length (λi v=>vs[i]?=Gc v) (λi h=>h.IsListIter it a i/\h.IsList a vs.toArray) where
 sub:=λb hb=>by simp at hb;simp[hb]
 frame:=λi h h' st k=>⟨st.1.at λo e=>k it (by simp) o e,by
  obtain⟨o,ho,r⟩:=st.2
  exact⟨o,k a (by simp) o ho,r⟩⟩
 item:=λi s Q E hi st hQ=>by
  refine vz st.1 st.2 (x:=vs[i]) (by simp[hi]) λh' st' sb=>?_
  refine hQ _ h' s.toks (by simp[hi]) ⟨st',?_⟩ λb o hb e=>(sb.2 b (by simpa using hb)).trans e
  obtain⟨o,ho,r⟩:=st.2
  exact⟨o,(sb.2 a hne).trans ho,r⟩
 done:=λs Q E st hQ=>wM hh st.1 st.2 (by simp) λh' eb=>hQ h' s.toks λb o hb e=>eb b o (by simpa using hb) e
 self:=λi s Q E st hQ=>yf st.1 hQ
def To(hc:X.calm=true):EJ X (.builtin "all") (λxs H Q=>∃(p:qg) (bs:Wp sD),xs=[.ref p]/\SqL X.K H p (bs.map V.bl)/\Q (.bl (bs.all id)) H):=by
 intro pins s σ H xs us Q I r h
 obtain⟨p,bs,rfl,hp,q⟩:=h
 obtain⟨u,rfl,ru⟩:=r.one
 cases (show u=q9 p from ru)
 obtain⟨its,rv,pl,hz⟩:=I.list hp
 have hd:X.A.in1.handled=none:=I.ok.hd hc
 refine call_all_walk (tS pl.isList ?_)
 have hlen:bs.length=its.length:=by have:=rv.length;simpa using this
 have hpl:=pl.isList
 have hne:p≠s.heap.objs.size:=by
  obtain⟨o,ho,_⟩:=hpl
  exact rK (ql ho)
 refine⟨s.heap.objs.size,_,_,its.length,_,_,λi=>bs.getD i true,rfl,NH (vs:=its) hd hne,⟨⟨_,qt _ rfl,rfl,rfl⟩,?_⟩,?_,?_⟩
 .obtain⟨o,ho,r⟩:=hpl
  exact⟨o,qO _ ho,r⟩
 .intro i v s' Q' E' hv hq
  have hi:i<its.length:=(qV.mp hv).1
  have hb:(bs.map V.bl)[i]?=Gc (.bl (bs.getD i true)):=by
   rw[qw,qZ (by lia)]
   simp[qu,qZ (show i<bs.length by lia)]
  obtain⟨u,hu,ru⟩:=rv.get hb
  rw[hv]at hu
  cases hu
  cases (show v=xF _ from ru)
  exact uE hq
 .intro h' tk hk
  have e:(sY its.length).all (λi=>bs.getD i true)=bs.all id:=by
   rw[<-hlen]
   clear q hp rv hlen
   have:∀(l:Wp sD),(sY l.length).all (λi=>l.getD i true)=l.all id:=by
    intro l
    induction l with
    |nil=>rfl
    |cons b l ih=>
     rw[rT,List.range_succ_eq_map,vf,List.all_map,vf,<-ih]
     rfl
   exact this bs
  rw[e]
  exact⟨.bl _,H,I.kept (t':=tk) λb o eb=>hk b o (by simp;exact rK (ql eb)) (qO _ eb),rfl,q⟩
def Xw{ns:Wp Int}(h:j<ns.length):(ns.take (j+1)).sum=(ns.take j).sum+ns.getD j 0:=by
 have e:ns.getD j 0=ns[j]:=by simp[qu,qZ h]
 rw[List.take_succ,qZ h,List.sum_append,e]
 show _+(ns[j]+0)=_
 lia
theorem Lh{ns:Wp Int}:∀{j},j<=ns.length->preSum (λi=>ns.getD i 0) j=(ns.take j).sum
 |0,_=>by simp[preSum]
 |j+1,h=>by
  rw[preSum,Lh (by lia),Xw (by lia)]
def Uq{ns:Wp Int}(h:∀n∈ns,0<=n/\n<=1000000):0<=ns.sum/\ns.sum<=1000000*ns.length:=by
 induction ns with
 |nil=>simp
 |cons a l ih=>
  have h1:=h a (by simp)
  have h2:=ih λn hn=>h n (by simp[hn])
  rw[rF,rT]
  have:((l.length+1:Nat):Int)=(l.length:Int)+1:=by lia
  lia
def KH{lo hi:qR Int}(ht:IsTup s.heap t items)(hs:s.heap.IsSliceOf sl vl vu .none)(pl:yH vl lo)(pu:yH vu hi)(hw:HT.sIx items.size 0 lo=0/\HT.sIx items.size items.size hi=items.size)(h:Q (.ref t) s):wpAny (model prog w) A (getItem (.ref t) (.ref sl)) Q E s:=by
 obtain⟨os,hos,hcs,hds⟩:=id hs
 have hTs:s.TypeIs (.ref sl) "slice":=⟨os,hos,hcs⟩
 unfold getItem
 try with_reducible refine tw ?_
 first|refine qP (qm ?_)|skip
 refine qP (zu ht.typeIs (by decide) ?_)
 refine qP (tQ (name:=rC "__getitem__") ht.typeIs sE
  (tY sE ht.typeIs zE ?_ (zQ _ _)))
 show wpAny _ _ (xO (.ref t) >>= _) _ _ s
 refine qP (tupleItemsOf_ ht ?_)
 refine qP (zv hTs ?_)
 rw[rB (by decide)]
 refine qP (HT.Gz hs pl pu ?_)
 show wpAny _ _ (if(((HT.sIx items.size 0 lo:Nat):Int)==0 && (1:Int)==1 && (HT.sIx items.size items.size hi-HT.sIx items.size 0 lo)==items.size)=true then _ else _) _ _ s
 rw[rB (by rw[hw.1,hw.2];simp)]
 unfold Builtin.Tuple.tupleIsExact
 refine qP (qP (zv ht.typeIs (qm ?_)))
 rw[rB (by decide)]
 exact qP (yG (qm ⟨_,rfl,qm h⟩))
def nG(K:W1):V->qR Int->qR Int->Hp->VK->Prop:=λx lo hi H Q=>∃a xs,x=.ref a/\SqT K H a xs/\HT.sIx xs.length 0 lo=0/\HT.sIx xs.length xs.length hi=xs.length/\Q x H
def eP:SlR X (nG X.K):=by
 intro pins s σ H x v vl vu lo hi sl Q I rx hs pl pu h
 obtain⟨a,xs,rfl,hx,h1,h2,q⟩:=h
 cases rx
 obtain⟨its,r,ht,hz⟩:=I.tuple hx
 have hlen:its.toArray.size=xs.length:=by rw[qf];exact r.length.symm
 refine⟨"tuple",_,sE.lookup,ht.typeIs,?_⟩
 exact KH ht hs pl pu (by rw[hlen];exact⟨h1,h2⟩) ⟨.ref a,H,I,rfl,q⟩
noncomputable def jt(K:W1):R2:=λx y H Q=>∃a b ys,x=.ref a/\y=.ref b/\SqT K H a []/\SqT K H b ys/\Q (.ref b) H
def bC:OpR X (binaryOp .Add) (jt X.K):=by
 intro pins s σ H x y v u Q I rx ry h
 obtain⟨a,b,ys,rfl,rfl,ha,hb,q⟩:=h
 cases rx
 cases ry
 obtain⟨its,r1,p1,_⟩:=I.tuple ha
 obtain⟨its2,r2,p2,_⟩:=I.tuple hb
 have e0:its=[]:=r1.Nj.mpr rfl
 subst e0
 obtain⟨⟨cls,dd,data,sl⟩,ho,hc,n,hd⟩:=id p1
 obtain⟨⟨cls2,dd2,data2,sl2⟩,ho2,hc2,n2,hd2⟩:=id p2
 simp only at hc hd hc2 hd2
 subst hc hd hc2 hd2
 exact zt ⟨_,ho,rfl⟩ ⟨_,ho2,rfl⟩ x8 zK v7 vw (vd _ _)
  (tuple_addW0 a b #[] its2.toArray n n2 dd dd2 sl sl2 rfl) ⟨ho,ho2,⟨.ref b,H,I,rfl,q⟩⟩
end St
end
noncomputable section
namespace Mi
open PySem PySem.Spec L2
inductive D where
 |non|bl (b:sD)|int (i:Int)|str (x:Str)|ty (n:ua)|tup (ds:Wp D)|lst (ds:Wp D)|dct (kvs:Wp (Key×D))|scr (ns:Wp Int)|ref (n:Nat)
inductive Wv where
 |val (d:D)|own (ds:Wp D)
inductive Cl where
 |lst (ds:Wp D)|dct (kvs:Wp (Key×D))|tab (x:Str)|ins (C:Str) (fs:Wp (Str×D))
abbrev Sto:=Wp Cl
structure Ms where
 cel:Wp qg
 tmp:Wp qg
def Ms.mem(M:Ms)(a:qg):Prop:=a∈M.cel\/a∈M.tmp
noncomputable def Ms.no:Ms:=⟨[],[]⟩
def KL(K:W1)(a:qg)(xs:Wp V):Prop:=∃(o:Obj) (its:wL qX) (n:Nat),K.lookup a=Gc o/\o.cls=.type "list" /\o.dict=none/\o.data=.seq its n/\its.size<=sizeLine/\Vals xs its.toList
mutual
inductive BZ(K:W1)(M:Ms)(H:Hp):V->D->Prop
 |non:BZ K M H .non .non
 |bl (b:sD):BZ K M H (.bl b) (.bl b)
 |int (i:Int):BZ K M H (.int i) (.int i)
 |str (x:Str):BZ K M H (.str x) (.str x)
 |ty (n:ua):BZ K M H (.ty n) (.ty n)
 |tup {a:qg} {xs:Wp V} {ds:Wp D} (h:SqT K H a xs) (r:Ab K M H xs ds):BZ K M H (.ref a) (.tup ds)
 |lst {a:qg} {xs:Wp V} {ds:Wp D} (h:H a=Gc (.lst xs)) (n:¬M.mem a) (r:Ab K M H xs ds):BZ K M H (.ref a) (.lst ds)
 |scr {a:qg} {ns:Wp Int} (h:(Rd H a (.lst (ns.map V.int))/\¬M.mem a)\/KL K a (ns.map V.int)):BZ K M H (.ref a) (.scr ns)
 |dct {a:qg} {kvs:Wp (Key×V)} {es:Wp (Key×D)} (h:H a=Gc (.dK kvs)) (n:¬M.mem a) (r:Km K M H kvs es):BZ K M H (.ref a) (.dct es)
 |ref {a:qg} {n:Nat} (h:M.cel[n]?=Gc a):BZ K M H (.ref a) (.ref n)
inductive Ab(K:W1)(M:Ms)(H:Hp):Wp V->Wp D->Prop
 |nil:Ab K M H [] []
 |cons {v:V} {d:D} {vs:Wp V} {ds:Wp D} (h:BZ K M H v d) (t:Ab K M H vs ds):Ab K M H (v::vs) (d::ds)
inductive Km(K:W1)(M:Ms)(H:Hp):Wp (Key×V)->Wp (Key×D)->Prop
 |nil:Km K M H [] []
 |cons {k:Key} {v:V} {d:D} {vs:Wp (Key×V)} {ds:Wp (Key×D)} (h:BZ K M H v d) (t:Km K M H vs ds):Km K M H ((k,v)::vs) ((k,d)::ds)
end
def Mob:HO->Prop
 | .lst _=>xH
 | .dK _=>xH
 | .tbl _=>xH
 | .ins _ _ _=>xH
 |_=>tN
def MOk(M:Ms)(H:Hp):Prop:=∀a,M.mem a->∃o,H a=Gc o/\Mob o
structure Sp1(M:Ms)(H:Hp)(M':Ms)(H':Hp):Prop where
 mo:MOk M H
 pre:M.cel <+: M'.cel
 fresh:∀a,M'.mem a->M.mem a\/H a=none
 keep:∀a o,H a=Gc o->¬M.mem a->H' a=Gc o
structure Gr(M:Ms)(H:Hp)(M':Ms)(H':Hp):Prop where
 mo:MOk M H
 pre:M.cel <+: M'.cel
 tmp:M'.tmp=M.tmp
 fresh:∀a,a∈M'.cel->a∈M.cel\/H a=none
 keep:∀a o,H a=Gc o->a∉M.cel->H' a=Gc o
 some:∀a,H a≠none->H' a≠none
section
variable{M M' M2:Ms}{H H' H2:Hp}
def MOk.some(mo:MOk M H)(h:M.mem a):H a≠none:=λz=>by
 obtain⟨o,e,_⟩:=mo a h
 rw[e]at z;cases z
def MOk.at(mo:MOk M H)(k:∀b o,H b=Gc o->H' b=Gc o)(h:M.mem a):∃o,H' a=Gc o/\Mob o:=(mo a h).imp λo z=>⟨k a o z.1,z.2⟩
def Gr.st(g:Gr M H M' H'):Sp1 M H M' H':=⟨g.mo,g.pre,λa z=>z.elim (λz=>(g.fresh a z).imp .inl id) λz=>.inl (.inr (by rw[<-g.tmp];exact z)),λa o e n=>g.keep a o e λz=>n (.inl z)⟩
def Gr.refl(mo:MOk M H):Gr M H M H:=⟨mo,sj,rfl,λ_ z=>.inl z,λ_ _ e _=>e,λ_ e=>e⟩
def Gr.none(g:Gr M H M' H')(h:H' a=none):H a=none:=by
 cases e:H a with
 |none=>rfl
 |some o=>exact absurd h (g.some a (by rw[e];intro z;cases z))
def Gr.trans(h:Gr M H M' H')(g:Gr M' H' M2 H2):Gr M H M2 H2:=
 ⟨h.mo,h.pre.trans g.pre,g.tmp.trans h.tmp,λa z=>(g.fresh a z).elim (h.fresh a) λz=>.inr (h.none z),λa o e n=>g.keep a o (h.keep a o e n) (λz=>by
   rcases h.fresh a z with z|z
   .exact n z
   .rw[e]at z;cases z),λa e=>g.some a (h.some a e)⟩
def Gr.grow(mo:MOk M H)(k:∀a o,H a=Gc o->H' a=Gc o):Gr M H M H':=
 ⟨mo,sj,rfl,λ_ z=>.inl z,λb u eb _=>k b u eb,λb eb z=>by
   cases h:H b with
   |none=>exact eb h
   |some o=>rw[k b o h]at z;cases z⟩
def LY{α:Type}{xs ys:Wp α}(h:xs <+: ys){n:Nat}{a:α}(e:xs[n]?=Gc a):ys[n]?=Gc a:=by
 obtain⟨zs,rfl⟩:=h
 rw[qQ (qV.mp e).1]
 exact e
def Sp1.UJ(g:Sp1 M H M' H')(e:H a=Gc o)(n:¬Mob o):H' a=Gc o:=g.keep a o e λz=>by
 obtain⟨u,q,m⟩:=g.mo a z
 rw[e]at q;cases q;exact n m
def Sp1.sqT(g:Sp1 M H M' H')(h:SqT K H a xs):SqT K H' a xs:=by
 rcases h with h|h
 .rcases h with h|⟨o,h⟩
  .exact .inl (.inl (g.UJ h id))
  .exact .inl (.inr ⟨o,g.UJ h id⟩)
 .exact .inr h
def Sp1.nm(g:Sp1 M H M' H')(e:H a=Gc o)(n:¬M.mem a):¬M'.mem a:=λz=>by
 rcases g.fresh _ z with z|z
 .exact n z
 .rw[z]at e;cases e
def BZ.step(g:Sp1 M H M' H')(h:BZ K M H v d):BZ K M' H' v d:=
 BZ.rec (motive_1:=λv d _=>BZ K M' H' v d) (motive_2:=λv d _=>Ab K M' H' v d) (motive_3:=λv d _=>Km K M' H' v d) .non .bl .int .str .ty (λh _ r=>.tup (g.sqT h) r) (λh n _ r=>.lst (g.keep _ _ h n) (g.nm h n) r) (λh=>by
  rcases h with⟨h,n⟩|h
  .rcases h with h|⟨o,h⟩
   .exact .scr (.inl ⟨.inl (g.keep _ _ h n),g.nm h n⟩)
   .exact .scr (.inl ⟨.inr ⟨o,g.keep _ _ h n⟩,g.nm h n⟩)
  .exact .scr (.inr h)) (λh n _ r=>.dct (g.keep _ _ h n) (g.nm h n) r) (λh=>.ref (LY g.pre h)) .nil (λ_ _ h t=>.cons h t) .nil (λ_ _ h t=>.cons h t) h
def Ab.ind{P:Wp V->Wp D->Prop}(n:P [] [])(c:∀{v} {d} {vs} {ds},BZ K M H v d->P vs ds->P (v::vs) (d::ds))(h:Ab K M H vs ds):P vs ds:=
 Ab.rec (motive_1:=λ_ _ _=>xH) (motive_2:=λv d _=>P v d) (motive_3:=λ_ _ _=>xH) trivial (λ_=>trivial) (λ_=>trivial) (λ_=>trivial) (λ_=>trivial) (λ_ _ _=>trivial) (λ_ _ _ _=>trivial) (λ_=>trivial) (λ_ _ _ _=>trivial) (λ_=>trivial) n (λh _ _ t=>c h t) trivial (λ_ _ _ _=>trivial) h
def Km.ind{P:Wp (Key×V)->Wp (Key×D)->Prop}(n:P [] [])(c:∀{k} {v} {d} {vs} {ds},BZ K M H v d->P vs ds->P ((k,v)::vs) ((k,d)::ds))(h:Km K M H vs ds):P vs ds:=
 Km.rec (motive_1:=λ_ _ _=>xH) (motive_2:=λ_ _ _=>xH) (motive_3:=λv d _=>P v d) trivial (λ_=>trivial) (λ_=>trivial) (λ_=>trivial) (λ_=>trivial) (λ_ _ _=>trivial) (λ_ _ _ _=>trivial) (λ_=>trivial) (λ_ _ _ _=>trivial) (λ_=>trivial) trivial (λ_ _ _ _=>trivial) n (λh _ _ t=>c h t) h
def Ab.step(g:Sp1 M H M' H')(h:Ab K M H v d):Ab K M' H' v d:=h.ind .nil λh t=>.cons (h.step g) t
def Km.step(g:Sp1 M H M' H')(h:Km K M H v d):Km K M' H' v d:=h.ind .nil λh t=>.cons (h.step g) t
def Ab.length(h:Ab K M H v d):v.length=d.length:=h.ind (P:=λv d=>v.length=d.length) rfl λ_ t=>congrArg (· +1) t
def Ab.get{i:Nat}(h:Ab K M H v d):d[i]?=Gc y->∃x,v[i]?=Gc x/\BZ K M H x y:=
 h.ind (P:=λv d=>∀i,d[i]?=Gc y->∃x,v[i]?=Gc x/\BZ K M H x y) (λi e=>by simp at e) (λh t i e=>by
  cases i with
  |zero=>simp at e;subst e;exact⟨_,rfl,h⟩
  |succ i=>exact t i e) i
def Ab.append(h:Ab K M H v d)(s:Ab K M H v' d'):Ab K M H (v++v') (d++d'):=h.ind (P:=λv d=>Ab K M H (v++v') (d++d')) s λh t=>.cons h t
def Ab.take n(h:Ab K M H v d):Ab K M H (v.take n) (d.take n):=h.ind (P:=λv d=>∀n,Ab K M H (v.take n) (d.take n)) (λn=>by rw[List.take_nil,List.take_nil];exact .nil) (λh t n=>by
 cases n with
 |zero=>exact .nil
 |succ n=>exact .cons h (t n)) n
def Ab.drop n(h:Ab K M H v d):Ab K M H (v.drop n) (d.drop n):=h.ind (P:=λv d=>∀n,Ab K M H (v.drop n) (d.drop n)) (λn=>by rw[List.drop_nil,List.drop_nil];exact .nil) (λh t n=>by
 cases n with
 |zero=>exact .cons h (t 0)
 |succ n=>exact t n) n
theorem Ab.set(r:BZ K M H x y):∀{v} {d} i,Ab K M H v d->Ab K M H (v.set i x) (d.set i y)
 |_,_,_,.nil=>.nil
 |_,_,0,.cons _ t=>.cons r t
 |_,_,i+1,.cons q t=>.cons q (Ab.set r i t)
end
abbrev En:=Wp (qR D)
abbrev Sg:=Wp (qR V)
structure EnR(K:W1)(M:Ms)(E:En)(σ:Sg)(H:Hp):Prop where
 len:E.length=σ.length
 val:∀(i:Nat) (d:D),E[i]?=Gc (Gc d)->∃v,σ[i]?=Gc (Gc v)/\BZ K M H v d
noncomputable def Lx(x:Str):Str:=(x++(".<locals>.":Str))++("<lambda>":Str)
def KA(K:W1)(c P:qg):Prop:=
 ∃o vs file tf flags tg inF text tt,K.lookup c=Gc o/\o.cls=xG "code" /\o.data=Data.fields vs/\vs[11]?=Gc (q9 P)/\vs.getD 11 rJ=q9 P/\vs.getD 18 rJ=xE file tf/\vs.getD 7 rJ=xD flags tg/\vs.getD 9 rJ=xF inF/\vs.getD 10 rJ=xD text tt/\c≠P
def TabAt(K:W1)(x:Str)(P:qg):Prop:=
 ∃f oc od fd osl c,rM K mainGlobals x=Gc (Gc (q9 f))/\K.lookup f=Gc ⟨oc,od,Data.func fd,osl⟩/\fd.code=q9 c/\KA K c P
def TM(q:Str)(o:Obj):Prop:=∃vs t,o.data=Data.fields vs/\vs[1]?=Gc (xE q t)
structure SG(K:W1)(H:Hp)(x:Str)(P:qg)(ps:wL qX):Prop where
 tri:PySem.TriplesOk ps.toList
 tat:TabAt K x P
 cod:∀pos cv,PySem.codeAmong pos ps.toList=Gc cv->∃c o,cv=q9 c/\H c=Gc (.frz o (.own 0))/\TM (Lx x) o
def SG.step(t:SG K H x P ps)(g:Sp1 M H M' H'):SG K H' x P ps:=⟨t.tri,t.tat,λpos cv e=>by
 obtain⟨c,o,h1,h2,h3⟩:=t.cod pos cv e
 exact⟨c,o,h1,g.UJ h2 id,h3⟩⟩
def RY(K:W1)(M:Ms)(H:Hp)(a:qg):Cl->Prop
 | .lst ds=>∃xs,H a=Gc (.lst xs)/\Ab K M H xs ds
 | .dct es=>∃kvs,H a=Gc (.dK kvs)/\Km K M H kvs es
 | .tab x=>∃ps,H a=Gc (.tbl ps)/\SG K H x a ps
 | .ins C fs=>∃Ca dx fv,rM K mainGlobals C=Gc (Gc (.ref Ca))/\H a=Gc (.ins Ca dx fv)/\H dx=Gc (.own a)/\fv.map (·.1)=fs.map (·.1)/\Ab K M H (fv.map (·.2)) (fs.map (·.2))
structure StR(K:W1)(M:Ms)(S:Sto)(H:Hp):Prop where
 mo:MOk M H
 nd:M.cel.Nodup
 nt:∀a∈M.tmp,a∉M.cel
 len:M.cel.length=S.length
 cell:∀(n:Nat) (a:qg) (c:Cl),M.cel[n]?=Gc a->S[n]?=Gc c->RY K M H a c
def RY.step(q:RY K M H a c)(g:Sp1 M H M' H')(k:∀o,H a=Gc o->H' a=Gc o):RY K M' H' a c:=by
 cases c with
 |lst ds=>obtain⟨xs,e,rr⟩:=q;exact⟨xs,k _ e,rr.step g⟩
 |dct ds=>obtain⟨xs,e,rr⟩:=q;exact⟨xs,k _ e,rr.step g⟩
 |tab ds=>obtain⟨xs,e,rr⟩:=q;exact⟨xs,k _ e,rr.step g⟩
 |ins C fs=>obtain⟨Ca,dx,fv,h,e,eo,n,rr⟩:=q;exact⟨Ca,dx,fv,h,k _ e,g.UJ eo id,n,rr.step g⟩
def EnR.step(r:EnR K M E σ H)(g:Sp1 M H M' H'):EnR K M' E σ H':=⟨r.len,λi d e=>by
 obtain⟨v,h1,h2⟩:=r.val i d e
 exact⟨v,h1,h2.step g⟩⟩
def StR.at(r:StR K M S H){n:Nat}(e:S[n]?=Gc c):∃a,M.cel[n]?=Gc a/\RY K M H a c:=by
 have hn:n<M.cel.length:=by rw[r.len];exact(qV.mp e).1
 exact⟨_,qZ hn,r.cell n _ c (qZ hn) e⟩
def StR.grow(r:StR K M S H)(k:∀a o,H a=Gc o->H' a=Gc o):StR K M S H':=by
 have g:Sp1 M H M H':=⟨r.mo,sj,λ_ z=>.inl z,λa o e _=>k a o e⟩
 refine⟨λa z=>r.mo.at k z,r.nd,r.nt,r.len,λn a c h1 h2=>?_⟩
 exact(r.cell n a c h1 h2).step g λo e=>k _ _ e
def StR.chg(r:StR K M S H)(h1:M.cel[n]?=Gc a)(h2:S[n]?=Gc (.lst ds))(hy:Ab K M H ys es):StR K M (S.set n (.lst es)) (upd H a (.lst ys))/\Gr M H M (upd H a (.lst ys)):=by
 have ha:a∈M.cel:=qo h1
 have hl:n<S.length:=(qV.mp h2).1
 have g:Gr M H M (upd H a (.lst ys)):=⟨r.mo,sj,rfl,λ_ z=>.inl z,λb o eb nb=>by rw[Ae (λz=>nb (by rw[z];exact ha))];exact eb,λb eb=>by
  by_cases h:b=a
  .subst h;rw[Ax];intro z;cases z
  .rw[Ae h];exact eb⟩
 refine⟨⟨λb z=>?_,r.nd,r.nt,by rw[tJ];exact r.len,λm b c e1 e2=>?_⟩,g⟩
 .by_cases h:b=a
  .subst h;exact⟨_,Ax,trivial⟩
  .rw[Ae h];exact r.mo b z
 .by_cases h:n=m
  .subst h
   rw[h1]at e1;cases e1
   rw[qb hl]at e2;cases e2
   exact⟨ys,Ax,hy.step g.st⟩
  .rw[qT h]at e2
   have hb:b≠a:=λz=>by
    subst z
    exact h ((vJ (qV.mp h1).1 r.nd).mp (h1.trans e1.symm))
   exact(r.cell m b c e1 e2).step g.st λo e=>by rw[Ae hb];exact e
def StR.aY(r:StR K M S H)(e:H a=none)(k:∀b o,H b=Gc o->H' b=Gc o)(ea:H' a=Gc (.lst xs))(rr:Ab K M H xs ds):StR K ⟨M.cel++[a],M.tmp⟩ (S++[.lst ds]) H'/\Gr M H ⟨M.cel++[a],M.tmp⟩ H':=by
 have g:Gr M H ⟨M.cel++[a],M.tmp⟩ H':=⟨r.mo,vq _ _,rfl,λb z=>by
  rcases rE.mp z with z|z
  .exact .inl z
  .simp at z;subst z;exact .inr e,λb o eb _=>k b o eb,λb eb z=>by
  cases h:H b with
  |none=>exact eb h
  |some o=>rw[k b o h]at z;cases z⟩
 have na:¬M.mem a:=λz=>r.mo.some z e
 refine⟨⟨λb z=>?_,?_,λb hb z=>?_,by simp[r.len],λm b c e1 e2=>?_⟩,g⟩
 .have z':M.mem b\/b=a:=by
   rcases z with z|z
   .rcases rE.mp z with z|z
    .exact .inl (.inl z)
    .simp at z;exact .inr z
   .exact .inl (.inr z)
  rcases z' with z|z
  .exact r.mo.at k z
  .subst z;exact⟨_,ea,trivial⟩
 .rw[wB]
  refine⟨r.nd,by simp,λx hx y hy=>?_⟩
  simp at hy;subst hy
  exact λz=>na (.inl (by rw[<-z];exact hx))
 .rcases rE.mp z with z|z
  .exact r.nt b hb z
  .simp at z;subst z;exact na (.inr hb)
 .by_cases h:m<S.length
  .rw[qQ (by rw[r.len];exact h)]at e1
   rw[qQ h]at e2
   exact(r.cell m b c e1 e2).step g.st λo e=>k _ _ e
  .have hm:m=S.length:=by
    have:=(qV.mp e2).1
    simp at this;lia
   subst hm
   rw[rR (by rw[r.len];exact qW _)]at e1
   rw[rR (qW _)]at e2
   rw[r.len]at e1
   simp at e1 e2
   subst e1 e2
   exact⟨xs,ea,rr.step g.st⟩
noncomputable def nY:qR xy->sD
 |some .local=>true
 |some .cell=>true
 |some .free=>true
 |_=>false
noncomputable def ko(sc:tu)(x:Str):sD:=nY (sc.names.lookup x)
def eL(h:ko sc x=true):Vis sc x:=by
 unfold ko at h
 unfold Vis
 cases e:sc.names.lookup x with
 |none=>rw[e]at h;cases h
 |some k=>
  rw[e]at h
  cases k<;>first|(cases h;done)|simp
abbrev Ev:=En->Sto->qR (D×Sto)
inductive tD(K:W1)(f:Ev)(σ:Sg)(H:Hp)(Q:VK):Prop
 |mk (M:Ms) (E:En) (S:Sto) (d:D) (S':Sto) (e:f E S=Gc (d,S')) (r:EnR K M E σ H) (st:StR K M S H) (q:∀v H' M',Gr M H M' H'->StR K M' S' H'->BZ K M' H' v d->Q v H')
structure DE(X:Cx)(e:sG)(f:Ev):Prop where
 pe:PE X e (tD X.K f)
def BD(h:PE X e t)(m:∀σ H Q,t' σ H Q->t σ H Q):PE X e t':=λpins s σ H Q I q=>h pins s σ H Q I (m _ _ _ q)
def Uj(h:PT X e t)(m:∀σ H Q,t' σ H Q->t σ H Q):PT X e t':=λpins s σ H Q I q=>h pins s σ H Q I (m _ _ _ q)
def FH(h:tD K f σ H Q)(m:∀v H',Q v H'->Q' v H'):tD K f σ H Q':=by
 obtain⟨M,E,S,d,S',e,r,st,q⟩:=h
 exact⟨M,E,S,d,S',e,r,st,λv H' M' g s r=>m _ _ (q v H' M' g s r)⟩
def Af{α β:Type}{o:qR α}{k:α->qR β}{y:β}(e:o.bind k=Gc y):∃x,o=Gc x/\k x=Gc y:=by
 cases o with
 |none=>cases e
 |some x=>exact⟨x,rfl,e⟩
def Hz{α β:Type}{o:qR α}{k:α->β}{y:β}(e:o.map k=Gc y):∃x,o=Gc x/\k x=y:=by
 cases o with
 |none=>cases e
 |some x=>cases e;exact⟨x,rfl,rfl⟩
noncomputable def fz:Wv->D
 | .val d=>d
 | .own ds=>.lst ds
noncomputable def at?(E:En)(i:Nat):qR D:=(E[i]?).join
def at?_some(h:at? E i=Gc w):E[i]?=Gc (Gc w):=by
 unfold at? at h
 cases e:E[i]? with
 |none=>rw[e]at h;cases h
 |some q=>rw[e]at h;exact congrArg Gc h
noncomputable def evs:Wp Ev->En->Sto->qR (Wp D×Sto)
 | [],_,S=>Gc ([],S)
 |f::fs,E,S=>(f E S).bind λr=>(evs fs E r.2).map λq=>(r.1::q.1,q.2)
noncomputable def tDs(K:W1):Wp Ev->TA
 | []=>j4
 |f::fs=>cV (tD K f) (tDs K fs)
structure DEs(X:Cx)(es:Wp sG)(fs:Wp Ev):Prop where
 pe:PA X es (tDs X.K fs)
def AI:DEs X [] []:=⟨UL⟩
def AE(h:DE X e f)(t:DEs X es fs)(hs:zb (qc (e::es) X.env=(false,eval e X.env)::qc es X.env) ww):DEs X (e::es) (f::fs):=⟨Nb h.pe t.pe hs⟩
section
variable{K:W1}{M M':Ms}{E:En}{S:Sto}{σ:Sg}{H H':Hp}
theorem FW:∀{fs} {M} {S} {ds} {S'} {H} {Q},evs fs E S=Gc (ds,S')->EnR K M E σ H->StR K M S H->(∀vs H' M',Gr M H M' H'->StR K M' S' H'->Ab K M' H' vs ds->Q vs H')->tDs K fs σ H Q
 | [],M,S,ds,S',H,Q,e,r,st,q=>by
   cases e
   exact q [] H M (.refl st.mo) st .nil
 |f::fs,M,S,ds,S',H,Q,e,r,st,q=>by
  obtain⟨⟨d,S1⟩,e1,e⟩:=Af e
  obtain⟨⟨es,S2⟩,e2,e⟩:=Hz e
  cases e
  refine⟨M,E,S,d,S1,e1,r,st,λv H1 M1 g1 st1 d1=>?_⟩
  exact FW e2 (r.step g1.st) st1 λvs H2 M2 g2 st2 d2=>q _ _ M2 (g1.trans g2) st2 (.cons (d1.step g2.st) d2)
theorem HH:∀{fs} {S} {ds} {S'},evs fs E S=Gc (ds,S')->ds.length=fs.length
 | [],_,_,_,e=>by cases e;rfl
 |f::fs,S,ds,S',e=>by
  obtain⟨⟨d,S1⟩,e1,e⟩:=Af e
  obtain⟨⟨es,S2⟩,e2,e⟩:=Hz e
  cases e
  simp[HH e2]
def Sh(K:W1)(M:Ms)(H:Hp)(v:V):Wv->Prop
 | .val d=>BZ K M H v d
 | .own ds=>∃a xs,v=.ref a/\H a=Gc (.lst xs)/\Ab K M H xs ds
def ivP(K:W1)(M:Ms)(H:Hp)(v:V):D->Prop
 | .non=>v=.non
 | .bl b=>v=.bl b
 | .int i=>v=.int i
 | .str x=>v=.str x
 | .ty n=>v=.ty n
 | .tup ds=>∃a xs,v=.ref a/\SqT K H a xs/\Ab K M H xs ds
 |_=>xH
def BZ.iv(h:BZ K M H v d):ivP K M H v d:=by
 cases h with
 |tup h r=>exact⟨_,_,rfl,h,r⟩
 |non=>rfl
 |bl=>rfl
 |int=>rfl
 |str=>rfl
 |ty=>rfl
 |_=>trivial
inductive Shs(K:W1)(M:Ms)(H:Hp):Wp V->Wp Wv->Prop
 |nil:Shs K M H [] []
 |cons {v:V} {w:Wv} {vs:Wp V} {ws:Wp Wv} (h:Sh K M H v w) (t:Shs K M H vs ws):Shs K M H (v::vs) (w::ws)
noncomputable def dr(S:Sto):D->Wv
 | .ref n=>match S[n]? with
   |some (.lst ds)=>.own ds
   |_=>.val (.ref n)
 |d=>.val d
def bX(st:StR K M S H)(h:BZ K M H v d):Sh K M H v (dr S d):=by
 cases h with
 |ref h=>
  rename_i a n
  show Sh K M H (.ref a) (match S[n]? with|some (.lst ds)=>.own ds|_=>.val (.ref n))
  split
  .rename_i ds e
   obtain⟨xs,h1,h2⟩:=st.cell n a _ h e
   exact⟨a,xs,rfl,h1,h2⟩
  .exact .ref h
 |non=>exact .non
 |bl b=>exact .bl b
 |int b=>exact .int b
 |str b=>exact .str b
 |ty b=>exact .ty b
 |tup h r=>exact .tup h r
 |lst h n r=>exact .lst h n r
 |scr h=>exact .scr h
 |dct h n r=>exact .dct h n r
theorem Yj(st:StR K M S H):∀{vs} {ds},Ab K M H vs ds->Shs K M H vs (ds.map (dr S))
 |_,_,.nil=>.nil
 |_,_,.cons h t=>.cons (bX st h) (Yj st t)
def NwR(K:W1)(M:Ms)(H H':Hp)(v:V):Wv->Prop
 | .val d=>BZ K M H' v d
 | .own ds=>∃a xs,v=.ref a/\H a=none/\H' a=Gc (.lst xs)/\Ab K M H xs ds
structure Nw(K:W1)(M:Ms)(H H':Hp)(v:V)(w:Wv):Prop where
 grow:∀a o,H a=Gc o->H' a=Gc o
 rel:NwR K M H H' v w
def Nw.same(mo:MOk M H)(h:BZ K M H v d):Nw K M H H v (.val d):=⟨λ_ _ e=>e,h⟩
def Hq(e:H a=none):∀b u,H b=Gc u->upd H a o b=Gc u:=λb u eb=>by rw[Ae (λz=>by subst z;rw[e]at eb;cases eb)];exact eb
def Nw.lst(mo:MOk M H)(e:H a=none)(h:Ab K M H xs ds):Nw K M H (upd H a (.lst xs)) (.ref a) (.own ds):=⟨Hq e,a,xs,rfl,e,Ax,h⟩
def Nw.tup(mo:MOk M H)(e:H a=none)(h:Ab K M H xs ds):Nw K M H (upd H a (.tup xs)) (.ref a) (.val (.tup ds)):=⟨Hq e,.tup (.of Ax) (h.step (Gr.grow mo (Hq e)).st)⟩
noncomputable def fin:sD->Wv->Sto->qR (D×Sto)
 |_,.val d,S=>Gc (d,S)
 |false,.own ds,S=>Gc (.lst ds,S)
 |true,.own ds,S=>Gc (.ref S.length,S++[.lst ds])
def Nw.fin(n:Nw K M H H' v w)(st:StR K M S H)(e:fin c w S=Gc (d,S')):∃M',Gr M H M' H'/\StR K M' S' H'/\BZ K M' H' v d:=by
 cases w with
 |val d'=>
  cases e
  exact⟨M,.grow st.mo n.grow,st.grow n.grow,n.rel⟩
 |own ds=>
  obtain⟨a,xs,rfl,h1,h2,h3⟩:=n.rel
  cases c with
  |false=>
   cases e
   exact⟨M,.grow st.mo n.grow,st.grow n.grow,.lst h2 (λz=>st.mo.some z h1) (h3.step (Gr.grow st.mo n.grow).st)⟩
  |true=>
   cases e
   obtain⟨s1,g1⟩:=st.aY h1 n.grow h2 h3
   refine⟨_,g1,s1,.ref ?_⟩
   rw[<-st.len]
   exact qy
abbrev Op1:=Wv->qR Wv
abbrev Op2:=Wv->Wv->qR Wv
abbrev OpN:=Wp Wv->qR Wv
inductive rOp(K:W1)(op:Op2)(x y:V)(H:Hp)(Q:VK):Prop
 |mk (M:Ms) (w1 w2 r:Wv) (e:op w1 w2=Gc r) (mo:MOk M H) (s1:Sh K M H x w1) (s2:Sh K M H y w2) (q:∀v H',Nw K M H H' v r->Q v H')
inductive rUn(K:W1)(op:Op1)(x:V)(H:Hp)(Q:VK):Prop
 |mk (M:Ms) (w r:Wv) (e:op w=Gc r) (mo:MOk M H) (s:Sh K M H x w) (q:∀v H',Nw K M H H' v r->Q v H')
inductive rN(K:W1)(op:OpN)(xs:Wp V)(H:Hp)(Q:VK):Prop
 |mk (M:Ms) (ws:Wp Wv) (r:Wv) (e:op ws=Gc r) (mo:MOk M H) (s:Shs K M H xs ws) (q:∀v H',Nw K M H H' v r->Q v H')
noncomputable def OI(c:sD)(op:OpN)(fs:Wp Ev):Ev:=λE S=>(evs fs E S).bind λr=>(op (r.1.map (dr r.2))).bind λw=>fin c w r.2
abbrev eOp:=OI false
abbrev dw:=OI true
noncomputable def o1(op:Op1):OpN| [a]=>op a|_=>none
noncomputable def o2(op:Op2):OpN| [a,b]=>op a b|_=>none
def Mw(e:OI c op fs E S=Gc (d,S'))(r:EnR K M E σ H)(st:StR K M S H)(h:∀v H' M',Gr M H M' H'->StR K M' S' H'->BZ K M' H' v d->Q v H'):tDs K fs σ H λvs H1=>rN K op vs H1 Q:=by
 obtain⟨⟨ds,S1⟩,e1,e⟩:=Af e
 obtain⟨w,e2,e⟩:=Af e
 refine FW e1 r st λvs H1 M1 g1 st1 d1=>⟨M1,_,w,e2,st1.mo,Yj st1 d1,λv H2 n=>?_⟩
 obtain⟨M2,g2,st2,d2⟩:=n.fin st1 e
 exact h v H2 M2 (g1.trans g2) st2 d2
end
def gR(h:rN K (o2 f) [x,y] H Q):rOp K f x y H Q:=by
 obtain⟨M,ws,r,e,mo,s,q⟩:=h
 cases s with
 |cons h1 s=>
  cases s with
  |cons h2 s=>
   cases s
   exact⟨M,_,_,r,e,mo,h1,h2,q⟩
def gA(h:rN K (o1 f) [x] H Q):rUn K f x H Q:=by
 obtain⟨M,ws,r,e,mo,s,q⟩:=h
 cases s with
 |cons h1 s=>
  cases s
  exact⟨M,_,r,e,mo,h1,q⟩
def RB(h:tD K (OI c (o2 f) [fa,fb]) σ H Q):tOp (rOp K f) (tD K fa) (tD K fb) σ H Q:=by
 obtain⟨M,E,S,d,S',e,r,st,q⟩:=h
 have z:tD K fa σ H λx H1=>tD K fb σ H1 λy H2=>rN K (o2 f) [x,y] H2 Q:=Mw (Q:=Q) e r st q
 exact FH z λx H1 z1=>FH z1 λy H2 z2=>gR z2
def Ue(h:tD K (OI c (o1 f) [fa]) σ H Q):tUn (rUn K f) (tD K fa) σ H Q:=by
 obtain⟨M,E,S,d,S',e,r,st,q⟩:=h
 have z:tD K fa σ H λx H1=>rN K (o1 f) [x] H1 Q:=Mw (Q:=Q) e r st q
 exact FH z λx H1 z1=>gA z1
section
variable{X:Cx}{a b e:sG}{fs:Wp Ev}{pos p:Pos}{c:sD}
def XM(ho:OpR X (binaryOp op) (rOp X.K f))(ha:DE X a fa)(hb:DE X b fb):DE X (.BinOp a op b pos) (OI c (o2 f) [fa,fb]):=⟨BD (jj ho ha.pe hb.pe) λ_ _ _ h=>RB h⟩
def KS(ho:OpR X (compareOp op) (rOp X.K f))(ha:DE X a fa)(hb:DE X b fb)(hm:zb (behindInMarks op b=false) ww):DE X (.Compare a [op] [b] pos) (OI c (o2 f) [fa,fb]):=⟨BD (Zz ho ha.pe hb.pe hm) λ_ _ _ h=>RB h⟩
def Zj(ho:UnR X (unaryOp op) (rUn X.K f))(ha:DE X a fa):DE X (.UnaryOp op a pos) (OI c (o1 f) [fa]):=⟨BD (k6 ho ha.pe) λ_ _ _ h=>Ue h⟩
def Hd(hr:IxR X (rOp X.K f))(ha:DE X a fa)(hb:DE X b fb)(hs:zb (OF b) wp):DE X (.Subscript a b pos) (OI c (o2 f) [fa,fb]):=⟨BD (aV hr ha.pe hb.pe hs) λ_ _ _ h=>RB h⟩
def Bg{id:ua}(hc:EJ X (.builtin id) (rN X.K f))(hg:Gl X x)(hm:X.mg x=none)(hv:bootBuiltins x=Gc (.builtin id))(ha:DEs X (e::es) fs)(hn:zb (x≠ "__name__") xz)(hdb:zb ((x==("__debug__":Str))=false) xz)(he:zb (qc (e::es) X.env=(false,eval e X.env)::qc es X.env) ww)(hpl:zb ((backTo pos (qc es X.env)).any (·.1)=false) ww):DE X (.Call (.Name x p) (e::es) [] pos) (OI c f fs):=⟨
 BD (XF hc hg hm hv ha.pe hn hdb he hpl) λ_ _ _ h=>by
  obtain⟨M,E,S,d,S',e,r,st,q⟩:=h
  exact Mw e r st q⟩
def U8(hc:EJ X (.type T) (rN X.K f))(hg:Gl X x)(hm:X.mg x=none)(hv:bootBuiltins x=Gc (.type T))(ha:DEs X (e::es) fs)(hn:zb (x≠ "__name__") xz)(hdb:zb ((x==("__debug__":Str))=false) xz)(he:zb (qc (e::es) X.env=(false,eval e X.env)::qc es X.env) ww)(hpl:zb ((backTo pos (qc es X.env)).any (·.1)=false) ww):DE X (.Call (.Name x p) (e::es) [] pos) (OI c f fs):=⟨
 BD (TF hc hg hm hv ha.pe hn hdb he hpl) λ_ _ _ h=>by
  obtain⟨M,E,S,d,S',e,r,st,q⟩:=h
  exact Mw e r st q⟩
noncomputable def eC(d:D):Ev:=λ_ S=>Gc (d,S)
def Pf(h:PE X e (tC v))(r:∀K M H,BZ K M H v d):DE X e (eC d):=⟨BD h λσ H Q z=>by
 obtain⟨M,E,S,w,S',e,rr,st,q⟩:=z
 cases e
 exact q _ _ M (.refl st.mo) st (r _ _ _)⟩
def BQ:DE X (.Constant (.int i) j pos) (eC (.int i)):=Pf gS λ_ _ _=>.int _
def RX:DE X (.Constant (.bool i) j pos) (eC (.bl i)):=Pf jq λ_ _ _=>.bl _
def CU:DE X (.Constant (.str i) j pos) (eC (.str i)):=Pf df λ_ _ _=>.str _
def YN:DE X (.Constant .none j pos) (eC .non):=Pf gT λ_ _ _=>.non
noncomputable def eV(i:Nat):Ev:=λE S=>(at? E i).map λd=>(d,S)
def AH i(hN:zb (X.N[i]?=Gc x) ww)(hv:zb (ko X.env.scope x=true) ww)(hd:zb ((x==("__debug__":Str))=false) xz)(hcd:zb ((x==("__classdict__":Str))=false) xz):DE X (.Name x pos) (eV i):=⟨BD (Oo hN (eL hv) hd hcd) λσ H Q z=>by
 obtain⟨M,E,S,d,S',e,r,st,q⟩:=z
 obtain⟨d',e1,e⟩:=Hz e
 cases e
 obtain⟨v,hv,rd⟩:=r.val i d (at?_some e1)
 exact⟨v,hv,q v H M (.refl st.mo) st rd⟩⟩
end
def G7:fillsNumberSlot (.type "tuple") "mul"=pure false:=
 fillsNumberSlot_seq (id:="tuple.__mul__") (r:=Gc (.builtin "tuple.__rmul__")) wR.lookup (by decide+kernel) AAB.lookup (by decide+kernel)
def Ki:seqRepeat? (.type "tuple")=pure (Gc (.builtin "tuple.__mul__")):=by
 unfold seqRepeat?
 rw[seqSlot_of (T:="tuple") (name:="__mul__") (id:="tuple.__mul__") wR.lookup (by decide+kernel),seqSlot_of (T:="tuple") (name:="__rmul__") (id:="tuple.__rmul__") AAB.lookup (by decide+kernel)]
 rfl
def IB a(t:Tok) l items n dd sl:Meets (w9.«int.__rmul__» ⟨[.int a t,.ref l],[]⟩) (λ_ R s=>s.heap.get? l=Gc {cls:=.type "tuple",dict:=dd,data:=.seq items n,slots:=sl}/\R (.ok (.ret Value.notImplemented)) s):=
 .of_wp λprog w A R s h=>by obtain⟨hp,g,d,tk,os⟩:=s;obtain⟨hl,h⟩:=h;wp_walk;exact⟨_,rfl,h⟩
def Uo(its:Wp qX) m:zS (λx1 x2=>x1++x2) #[] (qk m its.toArray)=(qk m its).flatten.toArray:=by
 have:=foldl_rep its m []
 rw[rH]at this
 exact this
def Y8:OpR X (binaryOp .Mult) (λx y H Q=>∃a xs k,x=.ref a/\y=.int k/\SqT X.K H a xs/\xs≠[]/\1<=k/\xs.length*k.toNat<=sizeLine/\(k=1->Q (.ref a) H)/\(k≠1->∀p,H p=none->Q (.ref p) (upd H p (.tup (qk k.toNat xs).flatten)))):=by
 intro pins s σ H x y v u Q I rx ry h
 obtain⟨a,xs,k,rfl,rfl,hx,hne,hk,hz,q1,q2⟩:=h
 cases rx
 obtain⟨t,rfl⟩:=ry
 obtain⟨its,r,⟨⟨c,dd,data,sl⟩,ho,hc,n,hd⟩,hzz⟩:=I.tuple hx
 simp only at hc hd
 subst hc hd
 have hl:=r.length
 have hsz:its.toArray.size=xs.length:=by rw[qf];exact hl.symm
 have hpos:0<xs.length:=zH.mpr hne
 have hkl:k.toNat<=sizeLine:=qU (Nat.le_mul_of_pos_left _ hpos) hz
 have hk63:k<2^63:=by
  have:(sizeLine:Nat)<2^63:=by decide
  lia
 refine vY (T:="tuple") (U:="int") (by decide) ⟨_,ho,rfl⟩ (λs'=>wQ s' k t) G7 yZ vE Ki yA.lookup
  (vM vE (wQ s k t) yB (xh _ _) (IB k t a its.toArray n dd sl) ⟨ho,rfl,⟨_,ho,rfl⟩,?_⟩)
 refine tY wR ⟨_,ho,rfl⟩ AAC ?_ (zV _ _)
 unfold w9.«tuple.__mul__»
 wp_walk using qz ho
 rw[rA (show¬(decide (k< -2^63)||decide (k≥2^63))=true by
  rw[sJ]
  rintro (z|z)
  .have:=qi z;lia
  .have:=qi z;lia)]
 wp_walk using qz ho
 by_cases h1:k=1
 .subst h1
  rw[rB (show(its.toArray.isEmpty||(1:Int)==1)=true by simp)]
  wp_walk using qz ho
  exact⟨_,rfl,.ref a,H,I,rfl,q1 rfl⟩
 .have hemp:its.toArray.isEmpty=false:=by
   cases its with
   |nil=>rw[vk]at hl;lia
   |cons b bs=>rfl
  rw[rA (show¬(its.toArray.isEmpty||k==1)=true by rw[hemp];simpa using h1)]
  wp_walk using qz ho
  have hmul:((its.toArray.size:Int)*k)=((xs.length*k.toNat:Nat):Int):=by
   rw[hsz,yb]
   congr 1
   lia
  rw[rA (show¬(decide (k<=0)||its.toArray.isEmpty)=true by
   rw[hemp,Bool.or_false]
   intro z
   have:=qi z
   lia)]
  wp_walk
  rw[rA (show¬((its.toArray.size:Int)*k>(2^63-1) / 8) by
   rw[hmul]
   have:(sizeLine:Nat)<=(2^63-1) / 8:=by decide
   lia)]
  wp_walk
  rw[rA (show¬xS ((its.toArray.size:Int)*k)=true by
   unfold xS
   rw[hmul]
   intro z
   have:=qi z
   lia)]
  rw[Uo]
  wp_walk
  have hlen:(qk k.toNat its).flatten.length<=sizeLine:=by rw[len_rep,uB,<-hl];exact hz
  rw[rA (show¬((qk k.toNat its).flatten.toArray.size>sizeLine) by rw[qf];lia)]
  wp_walk
  refine⟨_,rfl,.ref _,_,I.laid (o:=.tup (qk k.toNat xs).flatten) (t':=s.toks) (λb ob q=>qO _ q) (qW _) ?_,rfl,q2 h1 _ (I.hok.fresh (qW _))⟩
  exact⟨by rw[len_rep,uB];exact hz,_,r.rep k.toNat,va _ _⟩
mutual
noncomputable def D.py:D->PyData
 | .non=>.none| .bl b=>.bool b| .int i=>.int i| .str x=>.str x| .ty _=>.none
 | .tup ds=>.tuple (D.pys ds)| .lst ds=>.list (D.pys ds)| .dct _=>.none| .scr _=>.none| .ref _=>.none
noncomputable def D.pys:Wp D->Wp PyData
 | []=>[]
 |d::ds=>D.py d::D.pys ds
end
mutual
noncomputable def D.lay:D->sD
 | .non=>true| .bl _=>true| .int _=>true| .str x=>rV x| .ty _=>false| .dct _=>false| .scr _=>false| .ref _=>false
 | .tup ds=>D.OH ds| .lst ds=>D.OH ds
noncomputable def D.OH:Wp D->sD
 | []=>true
 |d::ds=>D.lay d && D.OH ds
end
mutual
theorem Jx:∀{d:D},d.lay=true->d.py.canLay0=true
 | .non,_=>rfl
 | .bl _,_=>rfl
 | .int _,_=>rfl
 | .str x,h=>h
 | .ty _,h=>tm h
 | .dct _,h=>tm h
 | .scr _,h=>tm h
 | .ref _,h=>tm h
 | .tup ds,h=>by show wC (D.pys ds)=true;exact N8 h
 | .lst ds,h=>by show wC (D.pys ds)=true;exact N8 h
theorem N8:∀{ds:Wp D},D.OH ds=true->wC (D.pys ds)=true
 | [],_=>rfl
 |d::ds,h=>by
  have h':(D.lay d && D.OH ds)=true:=h
  rw[qe]at h'
  show(PyData.canLay0 d.py && wC (D.pys ds))=true
  rw[Jx h'.1,N8 h'.2];rfl
end
section
variable{X:Cx}{pins:Wp (qg×Obj)}{σ:Sg}{H:Hp}{s:qj}{M:Ms}
def K8(I:Inv X pins σ H s)(h:Rd H a (.lst xs)):∃its,Vals xs its/\∃o n,s.heap.get? a=Gc o/\o.cls=.type "list" /\o.data=.seq its.toArray n:=by
 obtain⟨z,its,n,r,e⟩:=h.ok I.hok
 exact⟨its,r,_,n,e,rfl,rfl⟩
def BZ.reads(I:Inv X pins σ H s)(h:BZ X.K M H v d):∀{u},RelV v u->d.lay=true->∃as,Reads s.heap u d.py as:=
 BZ.rec (motive_1:=λv d _=>∀{u:qX},RelV v u->d.lay=true->∃as,Reads s.heap u d.py as) (motive_2:=λvs ds _=>∀{us:Wp qX},Vals vs us->D.OH ds=true->∃as,ReadsAll s.heap us (D.pys ds) as) (motive_3:=λ_ _ _=>xH)
  (λr _=>by cases r;exact⟨_,.none⟩) (λb _ r _=>by cases r;exact⟨_,.bool b⟩) (λb _ r _=>by obtain⟨t,rfl⟩:=r;exact⟨_,.int b t⟩) (λb _ r _=>by obtain⟨t,rfl⟩:=r;exact⟨_,.str b t⟩) (λ_ _ _ h=>tm h)
  (fun h _ ih _ r hl => by
    cases r
    obtain⟨its,rv,⟨o,e,hc,n,hd⟩,_⟩:=I.tuple h
    obtain⟨as,ra⟩:=ih rv hl
    exact⟨as,.tuple e hc hd ra⟩)
  (fun h _ _ ih _ r hl => by
    cases r
    obtain⟨its,rv,o,n,e,hc,hd⟩:=K8 I (.inl h)
    obtain⟨as,ra⟩:=ih rv hl
    exact⟨_,.list e hc hd ra⟩)
  (λ_ _ _ h=>tm h) (λ_ _ _ _ _ _ h=>tm h) (λ_ _ _ h=>tm h)
  (fun r _ => by cases r; exact ⟨_, .nil⟩) (fun {v d vs ds} _ _ ih1 ih2 _ r hl => by
    cases r with
    |cons r1 r2=>
     have hl':(D.lay d && D.OH ds)=true:=hl
     rw[qe]at hl'
     obtain⟨as,ra⟩:=ih1 r1 hl'.1
     obtain⟨bs,rb⟩:=ih2 r2 hl'.2
     exact⟨_,.cons ra rb⟩) trivial (λ_ _ _ _=>trivial) h
def Ab.reads(I:Inv X pins σ H s)(h:Ab X.K M H vs ds):∀{us},Vals vs us->D.OH ds=true->∃as,ReadsAll s.heap us (D.pys ds) as:=
 h.ind (P:=λvs ds=>∀{us:Wp qX},Vals vs us->D.OH ds=true->∃as,ReadsAll s.heap us (D.pys ds) as) (λr _=>by cases r;exact⟨_,.nil⟩) (λ{v d vs ds} h ih2 _ r hl=>by
  cases r with
  |cons r1 r2=>
   have hl':(D.lay d && D.OH ds)=true:=hl
   rw[qe]at hl'
   obtain⟨as,ra⟩:=h.reads I r1 hl'.1
   obtain⟨bs,rb⟩:=ih2 r2 hl'.2
   exact⟨_,.cons ra rb⟩)
end
noncomputable def deq(a b:D):sD:=PyData.eqv a.py b.py
noncomputable def Iz(a b:D):sD:=a.lay && b.lay && decide (min a.py.depth b.py.depth<=60)
noncomputable def wEq:Op2:=λa b=>if Iz (fz a) (fz b)=true then Gc (.val (.bl (deq (fz a) (fz b))))else none
noncomputable def wNe:Op2:=λa b=>if Iz (fz a) (fz b)=true then Gc (.val (.bl (!deq (fz a) (fz b))))else none
section
variable{X:Cx}
def Sh.reads{pins:Wp (qg×Obj)}{σ:Sg}(h:Sh X.K M H v w)(I:Inv X pins σ H s)(r:RelV v u)(hl:(fz w).lay=true):∃as,Reads s.heap u (fz w).py as:=by
 cases w with
 |val d=>exact BZ.reads I h r hl
 |own ds=>
  obtain⟨a,xs,rfl,h1,h2⟩:=h
  cases r
  obtain⟨its,rv,o,n,e,hc,hd⟩:=K8 I (.inl h1)
  obtain⟨as,ra⟩:=Ab.reads I h2 rv hl
  exact⟨_,.list e hc hd ra⟩
def FF(hu:X.A.units+100<cLine):OpR X (compareOp .Eq) (rOp X.K wEq):=by
 intro pins s σ H x y v u Q I rx ry h
 obtain⟨M,w1,w2,r,e,mo,s1,s2,q⟩:=h
 unfold wEq at e
 split at e
 .rename_i hk
  unfold Iz at hk
  rw[qe,qe]at hk
  cases e
  obtain⟨as,ra⟩:=s1.reads I rx hk.1.1
  obtain⟨bs,rb⟩:=s2.reads I ry hk.1.2
  have hd:=qi hk.2
  exact SeqAt.compareEq_reads ra rb (Jx hk.1.1) (Jx hk.1.2) (by lia) ⟨.bl _,H,I,rfl,q _ _ (.same mo (.bl _))⟩
 .cases e
def Oq(hu:X.A.units+100<cLine):OpR X (compareOp .NotEq) (rOp X.K wNe):=by
 intro pins s σ H x y v u Q I rx ry h
 obtain⟨M,w1,w2,r,e,mo,s1,s2,q⟩:=h
 unfold wNe at e
 split at e
 .rename_i hk
  unfold Iz at hk
  rw[qe,qe]at hk
  cases e
  obtain⟨as,ra⟩:=s1.reads I rx hk.1.1
  obtain⟨bs,rb⟩:=s2.reads I ry hk.1.2
  have hd:=qi hk.2
  exact SeqAt.compareNe_reads ra rb (Jx hk.1.1) (Jx hk.1.2) (by lia) ⟨.bl _,H,I,rfl,q _ _ (.same mo (.bl _))⟩
 .cases e
noncomputable def wI2(f:Int->Int->qR D):Op2
 | .val (.int i),.val (.int j)=>(f i j).map .val
 |_,_=>none
def Qf(o:OpR X g (rI C h))(hf:∀i j d,f i j=Gc d->C i j/\∀K M H,BZ K M H (h i j) d):OpR X g (rOp X.K (wI2 f)):=by
 intro pins s σ H x y v u Q I rx ry hh
 obtain⟨M,w1,w2,r,e,mo,s1,s2,q⟩:=hh
 unfold wI2 at e
 split at e
 .obtain rfl:=BZ.iv s1
  obtain rfl:=BZ.iv s2
  rename_i i j
  cases e1:f i j with
  |none=>rw[e1]at e;cases e
  |some d=>
   rw[e1]at e
   cases e
   obtain⟨c,rd⟩:=hf i j d e1
   exact o pins s σ H _ _ v u Q I rx ry ⟨i,j,rfl,rfl,c,q _ _ (.same mo (rd _ _ _))⟩
 .cases e
def MD(o:OpR X g (rI0 h))(hf:∀i j d,f i j=Gc d->∀K M H,BZ K M H (h i j) d):OpR X g (rOp X.K (wI2 f)):=by
 intro pins s σ H x y v u Q I rx ry hh
 obtain⟨M,w1,w2,r,e,mo,s1,s2,q⟩:=hh
 unfold wI2 at e
 split at e
 .obtain rfl:=BZ.iv s1
  obtain rfl:=BZ.iv s2
  rename_i i j
  cases e1:f i j with
  |none=>rw[e1]at e;cases e
  |some d=>
   rw[e1]at e
   cases e
   exact o pins s σ H _ _ v u Q I rx ry ⟨i,j,rfl,rfl,q _ _ (.same mo (hf i j d e1 _ _ _))⟩
 .cases e
noncomputable def OK:Op2:=wI2 λi j=>Gc (.int (i-j))
noncomputable def Yo:Nat:=2^60000
noncomputable def E5:Nat:=2^8000
noncomputable def DP(i j:Int):sD:=decide (i.natAbs<2^64)||(decide (j.natAbs<2^64)||(decide (i.natAbs<Yo) && decide (j.natAbs<Yo)))
def aw:OpR X (binaryOp .Mult) (rI (λi j=>DP i j=true) λi j=>.int (i*j)):=by
 intro pins s σ H x y v u Q I rx ry h
 obtain⟨i,j,rfl,rfl,hk,q⟩:=h
 unfold DP at hk
 rw[sJ,sJ,qe]at hk
 rcases hk with hk|hk|hk
 .have:=qi hk
  exact YJ pins s σ H _ _ v u Q I rx ry ⟨i,j,rfl,rfl,.inl ⟨by lia,by lia⟩,q⟩
 .have:=qi hk
  exact YJ pins s σ H _ _ v u Q I rx ry ⟨i,j,rfl,rfl,.inr ⟨by lia,by lia⟩,q⟩
 .have h1:i.natAbs<2^60000:=qi hk.1
  have h2:j.natAbs<2^60000:=qi hk.2
  obtain⟨t1,rfl⟩:=rx
  obtain⟨t2,rfl⟩:=ry
  exact PyProof.Rows.mul_int ⟨.int _,H,I.tok _,⟨_,rfl⟩,q⟩ (PyProof.Rows.mulOk_of_bits (m:=60000) (n:=60000) (yv.mpr h1) (yv.mpr h2) (by decide))
noncomputable def lL:Op2:=wI2 λi j=>if DP i j=true then Gc (.int (i*j))else none
noncomputable def MM:Op2:=wI2 λi j=>if(decide (0<j) && decide (j.natAbs<E5))=true then Gc (.int (i / j))else none
noncomputable def Pk:Op2:=wI2 λi j=>if 0<j then Gc (.int (i % j))else none
noncomputable def ir:Op2:=wI2 λi j=>if(decide (0<=j) && decide (j<=1000) && decide (i.natAbs<2^64))=true then Gc (.int (i^j.toNat))else none
noncomputable def wLt:Op2:=wI2 λi j=>Gc (.bl (decide (i<j)))
noncomputable def wLe:Op2:=wI2 λi j=>Gc (.bl (decide (i<=j)))
noncomputable def wGt:Op2:=wI2 λi j=>Gc (.bl (decide (j<i)))
noncomputable def wGe:Op2:=wI2 λi j=>Gc (.bl (decide (j<=i)))
def jg:OpR X (binaryOp .Sub) (rOp X.K OK):=MD fB λi j d e K M H=>by cases e;exact .int _
def aS:OpR X (binaryOp .Mult) (rOp X.K lL):=Qf aw λi j d e=>by
 split at e
 .rename_i hk
  cases e
  exact⟨hk,λ_ _ _=>.int _⟩
 .cases e
def ip:OpR X (binaryOp .FloorDiv) (rOp X.K MM):=Qf St.We λi j d e=>by
 split at e
 .rename_i hk
  rw[qe]at hk
  cases e
  exact⟨⟨qi hk.1,qi hk.2⟩,λ_ _ _=>.int _⟩
 .cases e
def j3:OpR X (binaryOp .Mod) (rOp X.K Pk):=Qf gm λi j d e=>by
 split at e
 .rename_i hk
  cases e
  exact⟨hk,λ_ _ _=>.int _⟩
 .cases e
def jX:OpR X (binaryOp .Pow) (rOp X.K ir):=Qf eX λi j d e=>by
 split at e
 .rename_i hk
  rw[qe,qe]at hk
  cases e
  have:=qi hk.1.2
  exact⟨⟨qi hk.1.1,by lia,qi hk.2⟩,λ_ _ _=>.int _⟩
 .cases e
def lY:OpR X (compareOp .Lt) (rOp X.K wLt):=MD jx λi j d e K M H=>by cases e;exact .bl _
def mz:OpR X (compareOp .LtE) (rOp X.K wLe):=MD Y6 λi j d e K M H=>by cases e;exact .bl _
def U7:OpR X (compareOp .Gt) (rOp X.K wGt):=MD lD λi j d e K M H=>by cases e;exact .bl _
def mP:OpR X (compareOp .GtE) (rOp X.K wGe):=MD kL λi j d e K M H=>by cases e;exact .bl _
noncomputable def asL:Wv->qR (Wp D)
 | .own ds=>Gc ds
 | .val (.lst ds)=>Gc ds
 |_=>none
noncomputable def asT:Wv->qR (Wp D)
 | .val (.tup ds)=>Gc ds
 |_=>none
noncomputable def asC:Wv->qR (Wp D)
 | .val (.scr ns)=>Gc (ns.map .int)
 |_=>none
noncomputable def asS(w:Wv):qR (Wp D):=(asL w).or ((asT w).or (asC w))
section
variable{K:W1}{M:Ms}{H:Hp}{v:V}{w:Wv}{ds:Wp D}
def Sh.l(h:Sh K M H v w)(e:asL w=Gc ds):∃a xs,v=.ref a/\H a=Gc (.lst xs)/\Ab K M H xs ds:=by
 cases w with
 |own es=>cases e;obtain⟨a,xs,rfl,h1,h2⟩:=h;exact⟨a,xs,rfl,h1,h2⟩
 |val d=>
  cases d<;>first|(cases e;done)|skip
  cases e
  cases h with
  |lst h n r=>exact⟨_,_,rfl,h,r⟩
def Sh.t(h:Sh K M H v w)(e:asT w=Gc ds):∃a xs,v=.ref a/\SqT K H a xs/\Ab K M H xs ds:=by
 cases w with
 |own es=>cases e
 |val d=>
  cases d<;>first|(cases e;done)|skip
  cases e
  cases h with
  |tup h r=>exact⟨_,_,rfl,h,r⟩
theorem Kx:∀{ns:Wp Int},Ab K M H (ns.map V.int) (ns.map D.int)
 | []=>.nil
 |n::ns=>.cons (.int n) Kx
def Sh.c(h:Sh K M H v w)(e:asC w=Gc ds):∃a xs,v=.ref a/\SqL K H a xs/\Ab K M H xs ds:=by
 cases w with
 |own es=>cases e
 |val d=>
  cases d<;>first|(cases e;done)|skip
  cases e
  cases h with
  |scr h=>
   refine⟨_,_,rfl,?_,Kx⟩
   rcases h with h|h
   .exact .inl h.1
   .exact .inr h
def Sh.s(h:Sh K M H v w)(e:asS w=Gc ds):∃a xs,v=.ref a/\(SqL K H a xs\/SqT K H a xs)/\Ab K M H xs ds:=by
 unfold asS at e
 cases e1:asL w with
 |some es=>
  rw[e1]at e
  cases e
  obtain⟨a,xs,h1,h2,h3⟩:=h.l e1
  exact⟨a,xs,h1,.inl (.of h2),h3⟩
 |none=>
  rw[e1]at e
  cases e2:asT w with
  |some es=>
   rw[e2]at e
   cases e
   obtain⟨a,xs,h1,h2,h3⟩:=h.t e2
   exact⟨a,xs,h1,.inr h2,h3⟩
  |none=>
   rw[e2]at e
   obtain⟨a,xs,h1,h2,h3⟩:=h.c e
   exact⟨a,xs,h1,.inl h2,h3⟩
end
noncomputable def Cs:Op1:=λw=>match w with
 | .val (.str z)=>if z.length<=sizeLine then Gc (.val (.int z.length))else none
 |_=>(asS w).map λds=>.val (.int ds.length)
def Bo:EJ X (.builtin "len") (rN X.K (o1 Cs)):=by
 intro pins s σ H xs us Q I r h
 obtain⟨M,ws,w,e,mo,sh,q⟩:=h
 cases sh with
 |nil=>cases e
 |cons h1 t=>
  cases t with
  |cons h2 t=>cases e
  |nil=>
   rename_i v w1
   have e':Cs w1=Gc w:=e
   unfold Cs at e'
   split at e'
   .split at e'
    .rename_i z hz
     cases e'
     cases h1
     exact PH pins s σ H _ us Q I r ⟨z,rfl,hz,q _ _ (.same mo (.int _))⟩
    .cases e'
   .cases e1:asS w1 with
    |none=>rw[e1]at e';cases e'
    |some ds=>
     rw[e1]at e'
     cases e'
     obtain⟨a,ys,rfl,h3,h4⟩:=h1.s e1
     refine O2 pins s σ H _ us Q I r ⟨a,ys,rfl,h3,q _ _ ?_⟩
     rw[h4.length]
     exact .same mo (.int _)
noncomputable def wIx:Op2:=λa b=>match a,b with
 |a,.val (.int i)=>(asS a).bind λds=>(atI ds i).map .val
 |_,_=>none
def az(h:Ab K M H xs ds)(e:atI ds i=Gc d):∃x,atI xs i=Gc x/\BZ K M H x d:=by
 unfold atI at e⊢
 rw[h.length]
 cases e1:ixN ds.length i with
 |none=>rw[e1]at e;cases e
 |some j=>
  rw[e1]at e
  exact h.get e
def O3:IxR X (rOp X.K wIx):=by
 intro value slice pins s σ H x y v u Q I rx ry h hs
 obtain⟨M,w1,w2,r,e,mo,s1,s2,q⟩:=h
 unfold wIx at e
 split at e
 .rename_i i
  cases e1:asS w1 with
  |none=>rw[e1]at e;cases e
  |some ds=>
   rw[e1]at e
   simp only[yD]at e
   cases e2:atI ds i with
   |none=>rw[e2]at e;cases e
   |some d=>
    rw[e2]at e
    cases e
    obtain rfl:=BZ.iv s2
    obtain⟨a,ys,rfl,h3,h4⟩:=s1.s e1
    obtain⟨z,h5,h6⟩:=az h4 e2
    rcases h3 with h3|h3
    .exact ar value slice pins s σ H _ _ v u Q I rx ry ⟨a,ys,i,z,rfl,rfl,h3,h5,q _ _ (.same mo h6)⟩ hs
    .exact fG value slice pins s σ H _ _ v u Q I rx ry ⟨a,ys,i,z,rfl,rfl,h3,h5,q _ _ (.same mo h6)⟩ hs
 .cases e
end
section
variable{X:Cx}
noncomputable def asI:Wv->qR Int
 | .val (.int i)=>Gc i
 |_=>none
noncomputable def asX:Wv->qR Str
 | .val (.str x)=>Gc x
 |_=>none
def PN(e:asI w=Gc i):w=.val (.int i):=by
 cases w with
 |own=>cases e
 |val d=>cases d with
  |int=>cases e;rfl
  |_=>cases e
def X9(e:asX w=Gc i):w=.val (.str i):=by
 cases w with
 |own=>cases e
 |val d=>cases d with
  |str=>cases e;rfl
  |_=>cases e
def Q4(e:asT w=Gc i):w=.val (.tup i):=by
 cases w with
 |own=>cases e
 |val d=>cases d with
  |tup=>cases e;rfl
  |_=>cases e
noncomputable def Rn{α β:Type}(f:Wv->qR α)(g:α->α->qR β)(h:qR β)(a b:Wv):qR β:=match f a with
 |none=>h
 |some x=>match f b with
  |none=>h
  |some y=>g x y
def Ni{α β:Type}{f:Wv->qR α}{g:α->α->qR β}{h:qR β}{r:β}(e:Rn f g h a b=Gc r):h=Gc r\/∃x y,f a=Gc x/\f b=Gc y/\g x y=Gc r:=by
 unfold Rn at e
 cases e1:f a with
 |none=>rw[e1]at e;exact .inl e
 |some x=>
  rw[e1]at e
  cases e2:f b with
  |none=>rw[e2]at e;exact .inl e
  |some y=>rw[e2]at e;exact .inr ⟨x,y,rfl,rfl,e⟩
noncomputable def Cq:Op2:=λa b=>Rn asI (λi j=>Gc (.val (.int (i+j)))) (Rn asX (λx y=>if x.length+y.length<=sizeLine then Gc (.val (.str (x++y)))else none) (Rn asT (λxs ys=>if xs.length+ys.length<=sizeLine then Gc (.val (.tup (xs++ys)))else none)
 (Rn asL (λxs ys=>if xs.length+ys.length<=sizeLine then Gc (.own (xs++ys))else none) none a b) a b) a b) a b
def RU{α:Type}{p:Prop} [Decidable p] {x:α}{r:α}(e:(if p then Gc x else none)=Gc r):p/\x=r:=by
 by_cases h:p
 .rw[rB h]at e;cases e;exact⟨h,rfl⟩
 .rw[rA h]at e;cases e
def OA:OpR X (binaryOp .Add) (rOp X.K Cq):=by
 intro pins s σ H x y v u Q I rx ry h
 obtain⟨M,w1,w2,r,e,mo,s1,s2,q⟩:=h
 rcases Ni e with e|⟨i,j,e1,e2,e⟩
 .rcases Ni e with e|⟨i,j,e1,e2,e⟩
  .rcases Ni e with e|⟨xs,ys,e1,e2,e⟩
   .rcases Ni e with e|⟨xs,ys,e1,e2,e⟩
    .cases e
    .obtain⟨hz,rfl⟩:=RU e
     obtain⟨a,xs',rfl,h1,r1⟩:=s1.l e1
     obtain⟨b,ys',rfl,h2,r2⟩:=s2.l e2
     have l1:=r1.length
     have l2:=r2.length
     exact cN pins s σ H _ _ v u Q I rx ry ⟨a,b,xs',ys',rfl,rfl,h1,h2,by lia,λp hp=>q _ _ (.lst mo hp (r1.append r2))⟩
   .obtain rfl:=Q4 e1
    obtain rfl:=Q4 e2
    obtain⟨hz,rfl⟩:=RU e
    obtain⟨a,xs',rfl,h1,r1⟩:=BZ.iv s1
    obtain⟨b,ys',rfl,h2,r2⟩:=BZ.iv s2
    have l1:=r1.length
    have l2:=r2.length
    by_cases hx:xs'=[]
    .subst hx
     cases r1
     refine St.bC pins s σ H _ _ v u Q I rx ry ⟨_,_,_,rfl,rfl,h1,h2,q _ _ (.same mo ?_)⟩
     exact .tup h2 r2
    .refine bE pins s σ H _ _ v u Q I rx ry ⟨_,_,_,_,rfl,rfl,h1,h2,hx,by lia,λz=>?_,λ_ p hp=>q _ _ (.tup mo hp (r1.append r2))⟩
     subst z
     cases r2
     rw[r9]at q
     exact q _ _ (.same mo (.tup h1 r1))
  .obtain rfl:=X9 e1
   obtain rfl:=X9 e2
   obtain⟨hz,rfl⟩:=RU e
   obtain rfl:=BZ.iv s1
   obtain rfl:=BZ.iv s2
   exact Rl pins s σ H _ _ v u Q I rx ry ⟨_,_,rfl,rfl,hz,q _ _ (.same mo (.str _))⟩
 .obtain rfl:=PN e1
  obtain rfl:=PN e2
  cases e
  obtain rfl:=BZ.iv s1
  obtain rfl:=BZ.iv s2
  exact gJ pins s σ H _ _ v u Q I rx ry ⟨_,_,rfl,rfl,q _ _ (.same mo (.int _))⟩
noncomputable def fm:Op2:=λa b=>(asI b).bind λk=>match asI a with
 |some i=>if DP i k=true then Gc (.val (.int (i*k)))else none
 |none=>match asT a with
  |some xs=>if(!xs.isEmpty && decide (1<=k) && decide (xs.length*k.toNat<=sizeLine))=true then Gc (.val (.tup (qk k.toNat xs).flatten))else none
  |none=>(asL a).bind λxs=>if(decide (k<2^63) && decide (-(2^63)<=k) && decide (xs.length*k.toNat<=sizeLine))=true then Gc (.own (qk k.toNat xs).flatten)else none
theorem Ab.rep(h:Ab K M H xs ds):∀n,Ab K M H (qk n xs).flatten (qk n ds).flatten
 |0=>.nil
 |n+1=>by
  rw[sk,sk,ug,ug]
  exact h.append (Ab.rep h n)
def ZW:OpR X (binaryOp .Mult) (rOp X.K fm):=by
 intro pins s σ H x y v u Q I rx ry h
 obtain⟨M,w1,w2,r,e,mo,s1,s2,q⟩:=h
 obtain⟨k,e2,e0⟩:=Af e
 obtain rfl:=PN e2
 clear e e2
 cases e1:asI w1 with
 |some i=>
  obtain rfl:=PN e1
  clear e1
  refine aS pins s σ H x y v u Q I rx ry ⟨M,_,_,r,?_,mo,s1,s2,q⟩
  obtain⟨hk,rfl⟩:=RU e0
  show zW Wv.val (if DP i k=true then Gc (D.int (i*k))else none)=Gc _
  rw[rB hk]
  rfl
 |none=>
  rw[e1]at e0
  dsimp only at e0
  obtain rfl:=BZ.iv s2
  cases e3:asT w1 with
  |some xs=>
   rw[e3]at e0
   obtain rfl:=Q4 e3
   obtain⟨hk,rfl⟩:=RU e0
   rw[qe,qe]at hk
   obtain⟨a,ys,rfl,h1,r1⟩:=BZ.iv s1
   have l1:=r1.length
   have z:=qi hk.2
   have hk1:=qi hk.1.2
   have hne:ys≠[]:=λzz=>by
    subst zz
    cases r1
    exact absurd hk.1.1 (by decide)
   refine Y8 pins s σ H _ _ v u Q I rx ry ⟨a,ys,k,rfl,rfl,h1,hne,hk1,by rw[l1];exact z,λe1=>?_,λ_ p hp=>q _ _ (.tup mo hp (r1.rep _))⟩
   subst e1
   have:(qk (1:Int).toNat xs).flatten=xs:=by simp
   rw[this]at q
   exact q _ _ (.same mo (.tup h1 r1))
  |none=>
   rw[e3]at e0
   obtain⟨xs,e4,e0⟩:=Af e0
   obtain⟨hk,rfl⟩:=RU e0
   rw[qe,qe]at hk
   obtain⟨a,xs',rfl,h1,r1⟩:=s1.l e4
   have l1:=r1.length
   have z:=qi hk.2
   exact cq pins s σ H _ _ v u Q I rx ry ⟨a,k,xs',rfl,rfl,h1,qi hk.1.2,qi hk.1.1,by rw[l1];exact z,λp hp=>q _ _ (.lst mo hp (r1.rep _))⟩
noncomputable def NJ:Op1
 | .val (.int i)=>Gc (.val (.int (-i)))
 |_=>none
def Po:UnR X (unaryOp .USub) (rUn X.K NJ):=by
 intro pins s σ H x v Q I rx h
 obtain⟨M,w,r,e,mo,s1,q⟩:=h
 unfold NJ at e
 split at e
 .cases e
  obtain rfl:=BZ.iv s1
  exact dA pins s σ H _ v Q I rx ⟨_,rfl,q _ _ (.same mo (.int _))⟩
 .cases e
noncomputable def HG:D->sD
 | .non=>true| .bl _=>true| .int _=>true| .str _=>true
 |_=>false
def Sh.flat(h:Sh K M H v w)(f:HG (fz w)=true):BZ K M H v (fz w):=by
 cases w with
 |val d=>exact h
 |own ds=>cases f
noncomputable def inD(x:D)(xs:Wp D):sD:=xs.any λy=>deq y x
def Qi(h:BZ K M H v d)(f:HG d=true):MB v=true:=by
 cases h<;>first|rfl|cases f
def Zm(h:BZ K M H v d)(g:BZ K M H u e)(f:HG d=true)(f':HG e=true):eqV v u=deq d e:=by
 cases h<;>first|(cases f;done)|skip
 all_goals (cases g<;>first|(cases f';done)|rfl)
def Vq(h:Ab K M H vs ds):ds.all HG=true->vs.all MB=true:=h.ind (P:=λvs ds=>ds.all HG=true->vs.all MB=true) (λ_=>rfl) λh t f=>by
 rw[vf,qe]at f⊢
 exact⟨Qi h f.1,t f.2⟩
def Z0(g:BZ K M H u e)(f':HG e=true)(h:Ab K M H vs ds):ds.all HG=true->inV u vs=inD e ds:=h.ind (P:=λvs ds=>ds.all HG=true->inV u vs=inD e ds) (λ_=>rfl) λh t f=>by
 rw[vf,qe]at f
 have ih:=t f.2
 unfold inV inD at ih⊢
 rw[wV,wV,ih,Zm h g f.1 f']
noncomputable def wIn(neg:sD):Op2:=λa b=>(asS b).bind λds=>if(HG (fz a) && ds.all HG)=true then Gc (.val (.bl (if neg then !inD (fz a) ds else inD (fz a) ds)))else none
def YO(e:wIn neg w1 w2=Gc r)(mo:MOk M H)(s1:Sh X.K M H x w1)(s2:Sh X.K M H y w2)(q:∀v H',Nw X.K M H H' v r->Q v H'):rIn X.K neg x y H Q:=by
 unfold wIn at e
 cases e1:asS w2 with
 |none=>rw[e1]at e;cases e
 |some ds=>
  rw[e1]at e
  simp only[yD]at e
  split at e
  .rename_i hk
   rw[qe]at hk
   cases e
   obtain⟨a,xs,rfl,h3,h4⟩:=s2.s e1
   have g1:=s1.flat hk.1
   refine⟨a,xs,rfl,h3,Qi g1 hk.1,Vq h4 hk.2,?_⟩
   rw[Z0 g1 hk.1 h4 hk.2]
   exact q _ _ (.same mo (.bl _))
  .cases e
def lT:OpR X (compareOp .In) (rOp X.K (wIn false)):=by
 intro pins s σ H x y v u Q I rx ry h
 obtain⟨M,w1,w2,r,e,mo,s1,s2,q⟩:=h
 exact UZ pins s σ H _ _ v u Q I rx ry (YO e mo s1 s2 q)
def Ts:OpR X (compareOp .NotIn) (rOp X.K (wIn true)):=by
 intro pins s σ H x y v u Q I rx ry h
 obtain⟨M,w1,w2,r,e,mo,s1,s2,q⟩:=h
 exact PQ pins s σ H _ _ v u Q I rx ry (YO e mo s1 s2 q)
noncomputable def isN:Wv->sD
 | .val .non=>true
 |_=>false
noncomputable def iD(neg:sD):Op2:=λa b=>match b with
 | .val .non=>Gc (.val (.bl (if neg then !isN a else isN a)))
 |_=>none
def bD(s:Sh K M H x w):decide (x=.non)=isN w:=by
 cases w with
 |own ds=>obtain⟨a,xs,rfl,_⟩:=s;rfl
 |val d=>cases s<;>rfl
def i0:OpR X (compareOp .IsNot) (rOp X.K (iD true)):=by
 intro pins s σ H x y v u Q I rx ry h
 obtain⟨M,w1,w2,r,e,mo,s1,s2,q⟩:=h
 unfold iD at e
 split at e
 .cases e
  obtain rfl:=BZ.iv s2
  refine bT pins s σ H _ _ v u Q I rx ry ⟨rfl,?_⟩
  rw[bD s1]
  exact q _ _ (.same mo (.bl _))
 .cases e
def IT(h:Shs K M H xs ws)(e:o1 f ws=Gc r):∃v w,xs=[v]/\ws=[w]/\Sh K M H v w/\f w=Gc r:=by
 cases h with
 |nil=>cases e
 |cons h1 t=>
  cases t with
  |cons h2 t=>cases e
  |nil=>exact⟨_,_,rfl,rfl,h1,e⟩
def Uu(h:Shs K M H xs ws)(e:o2 f ws=Gc r):∃v w v' w',xs=[v,v']/\ws=[w,w']/\Sh K M H v w/\Sh K M H v' w'/\f w w'=Gc r:=by
 cases h with
 |nil=>cases e
 |cons h1 t=>
  cases t with
  |nil=>cases e
  |cons h2 t=>
   cases t with
   |cons h3 t=>cases e
   |nil=>exact⟨_,_,_,_,rfl,rfl,h1,h2,e⟩
noncomputable def cE:Op1
 | .val (.int i)=>Gc (.val (.int (if i<0 then-i else i)))
 |_=>none
def gh:EJ X (.builtin "abs") (rN X.K (o1 cE)):=by
 intro pins s σ H xs us Q I r h
 obtain⟨M,ws,w,e,mo,sh,q⟩:=h
 obtain⟨v,w1,rfl,rfl,s1,e1⟩:=IT sh e
 unfold cE at e1
 split at e1
 .cases e1
  obtain rfl:=BZ.iv s1
  exact Ws pins s σ H _ us Q I r ⟨_,rfl,q _ _ (.same mo (.int _))⟩
 .cases e1
noncomputable def iH:Op2:=wI2 λi j=>Gc (.int (if j<i then j else i))
def Xs(e:wI2 f a b=Gc r):∃i j d,a=.val (.int i)/\b=.val (.int j)/\f i j=Gc d/\r=.val d:=by
 unfold wI2 at e
 split at e
 .rename_i i j
  cases e1:f i j with
  |none=>rw[e1]at e;cases e
  |some d=>rw[e1]at e;cases e;exact⟨i,j,d,rfl,rfl,e1,rfl⟩
 .cases e
def dy(hc:X.calm=true):EJ X (.builtin "min") (rN X.K (o2 iH)):=by
 intro pins s σ H xs us Q I r h
 obtain⟨M,ws,w,e,mo,sh,q⟩:=h
 obtain⟨v,w1,v',w2,rfl,rfl,s1,s2,e1⟩:=Uu sh e
 obtain⟨i,j,d,rfl,rfl,e2,rfl⟩:=Xs e1
 cases e2
 obtain rfl:=BZ.iv s1
 obtain rfl:=BZ.iv s2
 exact VR hc pins s σ H _ us Q I r ⟨_,_,rfl,q _ _ (.same mo (.int _))⟩
noncomputable def DF:Op1:=λw=>(asS w).map λds=>.val (.tup ds)
def Zg:EJ X (.type "tuple") (rN X.K (o1 DF)):=by
 intro pins s σ H xs us Q I r h
 obtain⟨M,ws,w,e,mo,sh,q⟩:=h
 obtain⟨v,w1,rfl,rfl,s1,e1⟩:=IT sh e
 unfold DF at e1
 cases e2:asS w1 with
 |none=>rw[e2]at e1;cases e1
 |some ds=>
  rw[e2]at e1
  cases e1
  obtain⟨a,ys,rfl,h3,h4⟩:=s1.s e2
  refine NV pins s σ H _ us Q I r ⟨a,ys,rfl,?_⟩
  rcases h3 with h3|h3
  .exact .inl ⟨h3,λl hl=>q _ _ (.tup mo hl h4)⟩
  .exact .inr ⟨h3,q _ _ (.same mo (.tup h3 h4))⟩
noncomputable def Pe:Op1:=λw=>(asS w).map λds=>.own ds
def cF:EJ X (.type "list") (rN X.K (o1 Pe)):=by
 intro pins s σ H xs us Q I r h
 obtain⟨M,ws,w,e,mo,sh,q⟩:=h
 obtain⟨v,w1,rfl,rfl,s1,e1⟩:=IT sh e
 unfold Pe at e1
 cases e2:asS w1 with
 |none=>rw[e2]at e1;cases e1
 |some ds=>
  rw[e2]at e1
  cases e1
  obtain⟨a,ys,rfl,h3,h4⟩:=s1.s e2
  exact O5 pins s σ H _ us Q I r ⟨a,ys,rfl,h3,λl hl=>q _ _ (.lst mo hl h4)⟩
noncomputable def Xy:Op1
 | .val (.int i)=>Gc (.val (.int i))
 | .val (.bl b)=>Gc (.val (.int (if b then 1 else 0)))
 |_=>none
def Tt:EJ X (.type "int") (rN X.K (o1 Xy)):=by
 intro pins s σ H xs us Q I r h
 obtain⟨M,ws,w,e,mo,sh,q⟩:=h
 obtain⟨v,w1,rfl,rfl,s1,e1⟩:=IT sh e
 unfold Xy at e1
 split at e1
 .cases e1
  obtain rfl:=BZ.iv s1
  exact OV pins s σ H _ us Q I r (.inl ⟨_,rfl,q _ _ (.same mo (.int _))⟩)
 .cases e1
  obtain rfl:=BZ.iv s1
  exact OV pins s σ H _ us Q I r (.inr ⟨_,rfl,q _ _ (.same mo (.int _))⟩)
 .cases e1
noncomputable def blD:D->qR sD
 | .bl b=>Gc b
 |_=>none
noncomputable def bls(ds:Wp D):qR (Wp sD):=ds.mapM blD
theorem VL:∀{vs} {ds} {bs},Ab K M H vs ds->bls ds=Gc bs->vs=bs.map V.bl
 |_,_,bs,.nil,e=>by cases e;rfl
 |_,_,bs,.cons (d:=d) (ds:=ds) h t,e=>by
  unfold bls at e
  rw[xT]at e
  cases e1:blD d with
  |none=>rw[e1]at e;cases e
  |some b=>
   rw[e1]at e
   cases e2:ds.mapM blD with
   |none=>rw[e2]at e;cases e
   |some cs=>
    rw[e2]at e
    cases e
    have hd:d=.bl b:=by
     cases d<;>first|(cases e1;done)|skip
     cases e1;rfl
    subst hd
    cases h
    rw[qq,<-VL t e2]
noncomputable def V5:Op1:=λw=>(asL w).bind λds=>(bls ds).map λbs=>.val (.bl (bs.all id))
def Uy(hc:X.calm=true):EJ X (.builtin "all") (rN X.K (o1 V5)):=by
 intro pins s σ H xs us Q I r h
 obtain⟨M,ws,w,e,mo,sh,q⟩:=h
 obtain⟨v,w1,rfl,rfl,s1,e1⟩:=IT sh e
 unfold V5 at e1
 cases e2:asL w1 with
 |none=>rw[e2]at e1;cases e1
 |some ds=>
  rw[e2]at e1
  simp only[yD]at e1
  cases e3:bls ds with
  |none=>rw[e3]at e1;cases e1
  |some bs=>
   rw[e3]at e1
   cases e1
   obtain⟨a,ys,rfl,h3,h4⟩:=s1.l e2
   exact St.To hc pins s σ H _ us Q I r ⟨a,bs,rfl,by rw[<-VL h4 e3];exact .of h3,q _ _ (.same mo (.bl _))⟩
noncomputable def kdW:Wv->qR St.Kd
 | .own _=>Gc .lst
 | .val .non=>Gc .non| .val (.bl _)=>Gc .bl| .val (.int _)=>Gc .int| .val (.str _)=>Gc .str| .val (.lst _)=>Gc .lst| .val (.dct _)=>Gc .dct| .val (.tup _)=>Gc .tup
 | .val (.ty _)=>none| .val (.scr _)=>none| .val (.ref _)=>none
end
section
variable{X:Cx}
def XX(k:St.Kd):uR K (.type k.ty) (.type "list")=Gc (k.isA "list"):=by
 cases k<;>rfl
noncomputable def PC(T:ua):sD:=T== "int" ||T== "bool" ||T== "tuple" ||T== "str" ||T== "list"
def dS(h:PC T=true)(k:St.Kd):uR K (.type k.ty) (.type T)=Gc (k.isA T):=by
 unfold PC at h
 simp only[sJ,uJ]at h
 rcases h with(((rfl|rfl)|rfl)|rfl)|rfl
 .exact St.Zs k
 .exact St.WY k
 .exact St.kit_tuple k
 .exact St.Zh k
 .exact XX k
noncomputable def Pm:Op2:=λa t=>match t with
 | .val (.ty T)=>if PC T=true then(kdW a).map λk=>.val (.bl (k.isA T))else none
 |_=>none
def Li:EJ X (.builtin "isinstance") (rN X.K (o2 Pm)):=by
 intro pins s σ H xs us Q I r h
 obtain⟨M,ws,w,e,mo,sh,q⟩:=h
 obtain⟨v,w1,v',w2,rfl,rfl,s1,s2,e1⟩:=Uu sh e
 unfold Pm at e1
 split at e1
 .rename_i T
  split at e1
  .rename_i hT
   cases e2:kdW w1 with
   |none=>rw[e2]at e1;cases e1
   |some k=>
    rw[e2]at e1
    cases e1
    obtain rfl:=BZ.iv s2
    obtain⟨u1,u2,rfl,r1,r2⟩:=r.two
    cases (show u2=xG T from r2)
    have fin:∀tk,EP X pins σ Q (.bool (k.isA T)) {s with toks:=tk}:=λtk=>⟨.bl _,H,I.tok tk,rfl,q _ _ (.same mo (.bl _))⟩
    have kk:=dS (K:=X.K) hT k
    cases w1 with
    |own ds=>
     cases e2
     obtain⟨a,ys,rfl,h1,_⟩:=s1
     exact E9 I r1 (.lst h1) kk fin
    |val d=>
     have s1':BZ X.K M H v d:=s1
     cases s1' with
     |non=>cases e2;exact E9 I r1 .non kk fin
     |bl b=>cases e2;exact E9 I r1 (.bl b) kk fin
     |int b=>cases e2;exact E9 I r1 (.int b) kk fin
     |str b=>cases e2;exact E9 I r1 (.str b) kk fin
     |ty b=>cases e2
     |scr h=>cases e2
     |lst h n rr=>cases e2;exact E9 I r1 (.lst h) kk fin
     |dct h n rr=>cases e2;exact E9 I r1 (.dK h) kk fin
     |ref h=>cases e2
     |tup h rr=>
      cases e2
      rename_i a ys ds
      cases (show u1=q9 a from r1)
      obtain⟨its,_,⟨o,h1,h2,_⟩,_⟩:=I.tuple h
      exact sU zO I.kIn ⟨o,h1,h2⟩ kk (λz=>nomatch z) fin
  .cases e1
 .cases e1
noncomputable def Bh(fs:Wp Ev):Ev:=λE S=>(evs fs E S).bind λr=>if r.1.length<=sizeLine then Gc (.tup r.1,r.2)else none
noncomputable def X5(c:sD)(fs:Wp Ev):Ev:=λE S=>(evs fs E S).bind λr=>if r.1.length<=sizeLine then fin c (.own r.1) r.2 else none
abbrev Jr:=X5 false
abbrev Ha:=X5 true
def HZ(h:DEs X es fs):DE X (.Tuple es k pos) (Bh fs):=⟨BD (dY h.pe) λσ H Q z=>by
 obtain⟨M,E,S,d,S',e,r,st,q⟩:=z
 obtain⟨⟨ds,S1⟩,e1,e⟩:=Af e
 dsimp only at e
 split at e
 .cases e
  refine FW e1 r st λvs H1 M1 g1 st1 d1=>⟨by rw[d1.length];assumption,λp hp=>?_⟩
  have n:=Nw.tup st1.mo hp d1
  exact q _ _ M1 (g1.trans (.grow st1.mo n.grow)) (st1.grow n.grow) n.rel
 .cases e⟩
def Vo(h:DEs X es fs):DE X (.List es pos) (X5 c fs):=⟨BD (dQ h.pe) λσ H Q z=>by
 obtain⟨M,E,S,d,S',e,r,st,q⟩:=z
 obtain⟨⟨ds,S1⟩,e1,e⟩:=Af e
 dsimp only at e
 split at e
 .refine FW e1 r st λvs H1 M1 g1 st1 d1=>⟨by rw[d1.length];assumption,λp hp=>?_⟩
  obtain⟨M2,g2,st2,d2⟩:=(Nw.lst st1.mo hp d1).fin st1 e
  exact q _ _ M2 (g1.trans g2) st2 d2
 .cases e⟩
noncomputable def Fs(f g:Ev):Ev:=λE S=>(f E S).bind λr=>match r.1 with
 | .bl true=>g E r.2
 | .bl false=>Gc (.bl false,r.2)
 |_=>none
noncomputable def eOr(f g:Ev):Ev:=λE S=>(f E S).bind λr=>match r.1 with
 | .bl false=>g E r.2
 | .bl true=>Gc (.bl true,r.2)
 |_=>none
noncomputable def F1(f:Ev):Ev:=λE S=>(f E S).bind λr=>match r.1 with
 | .bl b=>Gc (.bl (!b),r.2)
 |_=>none
noncomputable def eIf(c f g:Ev):Ev:=λE S=>(c E S).bind λr=>match r.1 with
 | .bl true=>f E r.2
 | .bl false=>g E r.2
 |_=>none
def MV(h:BZ K M H v (.bl b)):v=.bl b:=by cases h;rfl
variable{a b c:sG}{rest:Wp sG}{f g h:Ev}
def Ua(h:DE X a f):DE X (.BoolOp op [a] pos) f:=⟨fH h.pe⟩
def Yk(ha:DE X a f)(hb:DE X (.BoolOp .And (b::rest) pos) g):DE X (.BoolOp .And (a::b::rest) pos) (Fs f g):=⟨BD (fA ha.pe hb.pe) λσ H Q z=>by
 obtain⟨M,E,S,d,S',e,r,st,q⟩:=z
 obtain⟨⟨d1,S1⟩,e1,e⟩:=Af e
 dsimp only at e
 refine⟨M,E,S,d1,S1,e1,r,st,λv H1 M1 g1 st1 r1=>?_⟩
 split at e
 .cases MV r1
  refine⟨_,rfl,?_⟩
  refine Y3 ?_
  exact⟨M1,E,S1,d,S',e,r.step g1.st,st1,λv H2 M2 g2 st2 r2=>q _ _ M2 (g1.trans g2) st2 r2⟩
 .cases e
  cases MV r1
  refine⟨_,rfl,?_⟩
  refine Y0 ?_
  exact q _ _ M1 g1 st1 r1
 .cases e⟩
def kg(ha:DE X a f)(hb:DE X (.BoolOp .Or (b::rest) pos) g):DE X (.BoolOp .Or (a::b::rest) pos) (eOr f g):=⟨BD (jh ha.pe hb.pe) λσ H Q z=>by
 obtain⟨M,E,S,d,S',e,r,st,q⟩:=z
 obtain⟨⟨d1,S1⟩,e1,e⟩:=Af e
 dsimp only at e
 refine⟨M,E,S,d1,S1,e1,r,st,λv H1 M1 g1 st1 r1=>?_⟩
 split at e
 .cases MV r1
  refine⟨_,rfl,?_⟩
  refine Y0 ?_
  exact⟨M1,E,S1,d,S',e,r.step g1.st,st1,λv H2 M2 g2 st2 r2=>q _ _ M2 (g1.trans g2) st2 r2⟩
 .cases e
  cases MV r1
  refine⟨_,rfl,?_⟩
  refine Y3 ?_
  exact q _ _ M1 g1 st1 r1
 .cases e⟩
def mJ(ha:DE X a f):DE X (.UnaryOp .Not a pos) (F1 f):=⟨BD (fF ha.pe) λσ H Q z=>by
 obtain⟨M,E,S,d,S',e,r,st,q⟩:=z
 obtain⟨⟨d1,S1⟩,e1,e⟩:=Af e
 dsimp only at e
 split at e
 .cases e
  refine⟨M,E,S,_,_,e1,r,st,λv H1 M1 g1 st1 r1=>?_⟩
  cases MV r1
  exact⟨_,rfl,q _ _ M1 g1 st1 (.bl _)⟩
 .cases e⟩
inductive tDT(K:W1)(f:Ev)(σ:Sg)(H:Hp)(Q:sD->Hp->Prop):Prop
 |mk (M:Ms) (E:En) (S:Sto) (b:sD) (S':Sto) (e:f E S=Gc (.bl b,S')) (r:EnR K M E σ H) (st:StR K M S H) (q:∀H' M',Gr M H M' H'->StR K M' S' H'->Q b H')
structure DT(X:Cx)(e:sG)(f:Ev):Prop where
 pe:PT X e (tDT X.K f)
structure DW(X:Cx)(e:sG)(f:Ev):Prop where
 pe:PW X e (tDT X.K f)
def DW.dt(h:DW X a f):DT X a f:=⟨PW.pt h.pe⟩
def XH(h:PT X a (gZ t))(m:∀σ H Q,tD X.K f σ H Q->t σ H Q):DT X a f:=⟨Uj h λσ H Q z=>by
 obtain⟨M,E,S,b,S',e,r,st,q⟩:=z
 refine m _ _ _ ⟨M,E,S,_,S',e,r,st,λv H1 M1 g1 st1 r1=>?_⟩
 cases MV r1
 exact⟨_,rfl,q _ M1 g1 st1⟩⟩
def F7(h:DE X a f)(he:zb (∀whole,isTrue a X.env whole=(do let v<-whole;standAt a.pos;holding [v] (truthy v))) xL):DT X a f:=XH (t:=tD X.K f) (d9 h.pe he) λ_ _ _ z=>z
def EZ{f:Op2}(ho:OpR X (compareOp op) (rOp X.K f))(ha:DE X a fa)(hb:DE X b fb)(hm:zb (behindInMarks op b=false) ww):DT X (.Compare a [op] [b] pos) (eOp (o2 f) [fa,fb]):=
 XH (VW ho ha.pe hb.pe hm) λ_ _ _ h=>RB h
def Gv(ha:DT X a f):DT X (.UnaryOp .Not a pos) (F1 f):=⟨Uj (cu ha.pe) λσ H Q z=>by
 obtain⟨M,E,S,b,S',e,r,st,q⟩:=z
 obtain⟨⟨w1,S1⟩,e1,e⟩:=Af e
 dsimp only at e
 split at e
 .cases e
  exact⟨M,E,S,_,_,e1,r,st,q⟩
 .cases e⟩
def lI(ha:DT X a f):DW X (.BoolOp .And [a] pos) f:=⟨bL ha.pe⟩
def UX(ha:DT X a f):DW X (.BoolOp .Or [a] pos) f:=⟨fk ha.pe⟩
def Sy(h:PW X e t)(m:∀σ H Q,t' σ H Q->t σ H Q):PW X e t':=λwh pins s σ H Q I q=>h wh pins s σ H Q I (m _ _ _ q)
def lU(ha:DT X a f)(hb:DW X (.BoolOp .And (b::rest) pos) g):DW X (.BoolOp .And (a::b::rest) pos) (Fs f g):=⟨Sy (gL ha.pe hb.pe) λσ H Q z=>by
 obtain⟨M,E,S,k,S',e,r,st,q⟩:=z
 obtain⟨⟨w1,S1⟩,e1,e⟩:=Af e
 dsimp only at e
 split at e
 .refine⟨M,E,S,_,S1,e1,r,st,λH1 M1 g1 st1=>?_⟩
  refine Y3 ?_
  exact⟨M1,E,S1,k,S',e,r.step g1.st,st1,λH2 M2 g2 st2=>q _ M2 (g1.trans g2) st2⟩
 .cases e
  refine⟨M,E,S,_,_,e1,r,st,λH1 M1 g1 st1=>?_⟩
  refine Y0 ?_
  exact q _ M1 g1 st1
 .cases e⟩
def aL(ha:DT X a f)(hb:DW X (.BoolOp .Or (b::rest) pos) g):DW X (.BoolOp .Or (a::b::rest) pos) (eOr f g):=⟨Sy (jZ ha.pe hb.pe) λσ H Q z=>by
 obtain⟨M,E,S,k,S',e,r,st,q⟩:=z
 obtain⟨⟨w1,S1⟩,e1,e⟩:=Af e
 dsimp only at e
 split at e
 .refine⟨M,E,S,_,S1,e1,r,st,λH1 M1 g1 st1=>?_⟩
  refine Y0 ?_
  exact⟨M1,E,S1,k,S',e,r.step g1.st,st1,λH2 M2 g2 st2=>q _ M2 (g1.trans g2) st2⟩
 .cases e
  refine⟨M,E,S,_,_,e1,r,st,λH1 M1 g1 st1=>?_⟩
  refine Y3 ?_
  exact q _ M1 g1 st1
 .cases e⟩
def oX(hc:DT X c f)(ha:DE X a g)(hb:DE X b h):DE X (.IfExp c a b pos) (eIf f g h):=⟨BD (Wz hc.pe ha.pe hb.pe) λσ H Q z=>by
 obtain⟨M,E,S,d,S',e,r,st,q⟩:=z
 obtain⟨⟨w1,S1⟩,e1,e⟩:=Af e
 dsimp only at e
 split at e
 .refine⟨M,E,S,_,S1,e1,r,st,λH1 M1 g1 st1=>?_⟩
  refine Y3 ?_
  exact⟨M1,E,S1,d,S',e,r.step g1.st,st1,λv H2 M2 g2 st2 r2=>q _ _ M2 (g1.trans g2) st2 r2⟩
 .refine⟨M,E,S,_,S1,e1,r,st,λH1 M1 g1 st1=>?_⟩
  refine Y0 ?_
  exact⟨M1,E,S1,d,S',e,r.step g1.st,st1,λv H2 M2 g2 st2 r2=>q _ _ M2 (g1.trans g2) st2 r2⟩
 .cases e⟩
end
inductive Fl where
 |nx
 |ret (d:D)
abbrev Ex:=En->Sto->qR (Fl×En×Sto)
def End(K:W1)(M:Ms)(H:Hp)(Dn:Ends)(E':En)(S':Sto):Fl->Prop
 | .nx=>∀σ' H' M',Gr M H M' H'->EnR K M' E' σ' H'->StR K M' S' H'->Dn.nx σ' H'
 | .ret d=>∀v H' M',Gr M H M' H'->StR K M' S' H'->BZ K M' H' v d->Dn.rt v H'
inductive tX(K:W1)(f:Ex)(Dn:Ends)(σ:Sg)(H:Hp):Prop
 |mk (M:Ms) (E:En) (S:Sto) (fl:Fl) (E':En) (S':Sto) (e:f E S=Gc (fl,E',S')) (r:EnR K M E σ H) (st:StR K M S H) (q:End K M H Dn E' S' fl)
structure DS(X:Cx)(st:rQ)(f:Ex):Prop where
 pe:PS X st (tX X.K f)
structure DSs(X:Cx)(st:Wp rQ)(f:Ex):Prop where
 pe:PSs X st (tX X.K f)
def FP(h:PS X e t)(m:∀Dn σ H,t' Dn σ H->t Dn σ H):PS X e t':=λpins s σ H Dn I q=>h pins s σ H Dn I (m _ _ _ q)
def NR(h:PSs X e t)(m:∀Dn σ H,t' Dn σ H->t Dn σ H):PSs X e t':=λpins s σ H Dn I q=>h pins s σ H Dn I (m _ _ _ q)
def End.later{M M1:Ms}(q:End K M H Dn E' S' fl)(g:Gr M H M1 H1):End K M1 H1 Dn E' S' fl:=by
 cases fl with
 |nx=>exact λσ' H' M' g' r st=>q σ' H' M' (g.trans g') r st
 |ret d=>exact λv H' M' g' st r=>q v H' M' (g.trans g') st r
noncomputable def AM(f g:Ex):Ex:=λE S=>(f E S).bind λr=>match r.1 with
 | .nx=>g r.2.1 r.2.2
 | .ret w=>Gc (.ret w,r.2)
noncomputable def BP:Ex:=λE S=>Gc (.nx,E,S)
section
variable{X:Cx}{st:rQ}{rest a b:Wp rQ}{f g h:Ex}{c e:sG}{k:Ev}{pos:Pos}
def Bl:DSs X [] BP:=⟨NR Zl λDn σ H z=>by
 obtain⟨M,E,S,fl,E',S',e,r,st,q⟩:=z
 cases e
 exact q _ _ M (.refl st.mo) r st⟩
def AW(h1:DS X st f)(h2:DSs X rest g):DSs X (st::rest) (AM f g):=⟨NR (Qg h1.pe h2.pe) λDn σ H z=>by
 obtain⟨M,E,S,fl,E',S',e,r,st,q⟩:=z
 obtain⟨⟨f1,E1,S1⟩,e1,e⟩:=Af e
 dsimp only at e
 split at e
 .exact⟨M,E,S,.nx,E1,S1,e1,r,st,λσ1 H1 M1 g1 r1 st1=>⟨M1,E1,S1,fl,E',S',e,r1,st1,q.later g1⟩⟩
 .cases e
  exact⟨M,E,S,.ret _,_,_,e1,r,st,q⟩⟩
def AV(h1:DS X st f):DSs X [st] f:=⟨OE h1.pe⟩
noncomputable def xIf(c:Ev)(f g:Ex):Ex:=λE S=>(c E S).bind λr=>match r.1 with
 | .bl true=>f E r.2
 | .bl false=>g E r.2
 |_=>none
def FY(hc:DT X c k)(ha:DSs X a f)(hb:DSs X b g):DS X (.If c a b pos) (xIf k f g):=⟨FP (jc hc.pe ha.pe hb.pe) λDn σ H z=>by
 obtain⟨M,E,S,fl,E',S',e,r,st,q⟩:=z
 obtain⟨⟨w1,S1⟩,e1,e⟩:=Af e
 dsimp only at e
 split at e
 .refine⟨M,E,S,_,S1,e1,r,st,λH1 M1 g1 st1=>?_⟩
  refine Y3 ?_
  exact⟨M1,E,S1,fl,E',S',e,r.step g1.st,st1,q.later g1⟩
 .refine⟨M,E,S,_,S1,e1,r,st,λH1 M1 g1 st1=>?_⟩
  refine Y0 ?_
  exact⟨M1,E,S1,fl,E',S',e,r.step g1.st,st1,q.later g1⟩
 .cases e⟩
noncomputable def Ad(k:Ev):Ex:=λE S=>(k E S).map λr=>(.ret r.1,E,r.2)
def Be(h:DE X e k):DS X (.Return (Gc e) pos) (Ad k):=⟨FP (Vv h.pe) λDn σ H z=>by
 obtain⟨M,E,S,fl,E',S',e,r,st,q⟩:=z
 obtain⟨⟨d,S1⟩,e1,e⟩:=Hz e
 cases e
 exact⟨M,E,S,d,S1,e1,r,st,λv H1 M1 g1 st1 r1=>q _ _ M1 g1 st1 r1⟩⟩
end
section
variable{K:W1}
def EnR.put(r:EnR K M E σ H)(rd:BZ K M H v d):EnR K M (E.set i (Gc d)) (σ.set i (Gc v)) H:=by
 refine⟨by rw[tJ,tJ];exact r.len,λj e ej=>?_⟩
 by_cases h:i=j
 .subst h
  by_cases hi:i<E.length
  .rw[qb hi]at ej
   cases ej
   exact⟨v,qb (by rw[<-r.len];exact hi),rd⟩
  .rw[List.getElem?_eq_none_iff.mpr (by rw[tJ];lia)]at ej;cases ej
 .rw[qT h]at ej
  obtain⟨v',h1,h2⟩:=r.val j e ej
  exact⟨v',by rw[qT h];exact h1,h2⟩
end
noncomputable def BE(i:Nat)(k:Ev):Ex:=λE S=>(k E S).map λr=>(.nx,E.set i (Gc r.1),r.2)
def Fd{X:Cx}{e:sG}{pos pos':Pos} i(h:DE X e k)(hN:X.N.Nodup)(hi:zb (X.N[i]?=Gc x) ww)(hx:zb (Loc X.env.scope x) wn)(hs:zb (swapsWith e (Gc (.Name x pos')) pos.line X.env=pure false) ww)(hf:zb (X.fn x=true\/X.env.scope.names.lookup x=Gc .local) wf):DS X (.Assign [.Name x pos'] e pos) (BE i k):=⟨
 FP (Yt hN hi hx h.pe hs hf) λDn σ H z=>by
  obtain⟨M,E,S,fl,E',S',e,r,st,q⟩:=z
  obtain⟨⟨d,S1⟩,e1,e⟩:=Hz e
  cases e
  exact⟨M,E,S,d,S1,e1,r,st,λv H1 M1 g1 st1 r1=>q _ _ M1 g1 ((r.step g1.st).put r1) st1⟩⟩
noncomputable def BV(k:Ev):Ex:=λE S=>(k E S).map λr=>(.nx,E,r.2)
def FK(h:DE X e k)(hs:zb (swapsWith e none pos.line X.env=pure false) ww):DS X (.Expr e pos) (BV k):=⟨FP (Y5 h.pe hs) λDn σ H z=>by
 obtain⟨M,E,S,fl,E',S',e,r,st,q⟩:=z
 obtain⟨⟨d,S1⟩,e1,e⟩:=Hz e
 cases e
 exact⟨M,E,S,d,S1,e1,r,st,λv H1 M1 g1 st1 r1=>q _ _ M1 g1 (r.step g1.st) st1⟩⟩
noncomputable def EV(S:Sto)(n:Nat):qR (Wp D):=match S[n]? with
 |some (.lst ds)=>Gc ds
 |_=>none
def El(h:EV S n=Gc ds):S[n]?=Gc (.lst ds):=by
 unfold EV at h
 split at h
 .rename_i e
  cases h
  exact e
 .cases h
abbrev Mo:=Sto->Wp D->Wp D->qR (D×Wp D)
noncomputable def Hy(op:Mo)(f:Ev)(fs:Wp Ev):Ev:=λE S=>(f E S).bind λr=>match r.1 with
 | .ref n=>(EV r.2 n).bind λ_=>(evs fs E r.2).bind λp=>(EV p.2 n).bind λds=>(op p.2 ds p.1).map λq=>(q.1,p.2.set n (.lst q.2))
 |_=>none
inductive cD(K:W1)(op:Mo)(x:V)(vs:Wp V)(H:Hp)(Q:VK):Prop
 |mk (M:Ms) (S:Sto) (n:Nat) (a:qg) (ds args:Wp D) (d:D) (ds':Wp D) (hx:x=.ref a) (hc:M.cel[n]?=Gc a) (hn:S[n]?=Gc (.lst ds)) (e:op S ds args=Gc (d,ds')) (st:StR K M S H) (ra:Ab K M H vs args) (q:∀v H',StR K M (S.set n (.lst ds')) H'->Gr M H M H'->BZ K M H' v d->Q v H')
section
variable{X:Cx}
def YH(h:tD X.K (Hy op f fs) σ H Q):tBM X.K "list" (cD X.K op) (tD X.K f) (tDs X.K fs) σ H Q:=by
 obtain⟨M,E,S,d,S',e,r,st,q⟩:=h
 obtain⟨⟨d1,S1⟩,e1,e⟩:=Af e
 dsimp only at e
 split at e
 .rename_i n
  obtain⟨ds0,e2,e⟩:=Af e
  obtain⟨⟨args,S2⟩,e3,e⟩:=Af e
  obtain⟨ds,e4,e⟩:=Af e
  obtain⟨⟨dd,ds'⟩,e5,e⟩:=Hz e
  cases e
  refine⟨M,E,S,_,S1,e1,r,st,λv H1 M1 g1 st1 r1=>?_⟩
  cases r1 with
  |ref hc=>
   rename_i a
   obtain⟨xs,h1,h2⟩:=st1.cell n a _ hc (El e2)
   refine⟨.inl ⟨rfl,xs,.of h1⟩,?_⟩
   refine FW e3 (r.step g1.st) st1 λvs H2 M2 g2 st2 r2=>?_
   exact⟨M2,S2,n,a,ds,args,dd,ds',rfl,LY g2.pre hc,El e4,e5,st2,r2,λv H3 st3 g3 r3=>q _ _ M2 ((g1.trans g2).trans g3) st3 r3⟩
 .cases e
def TJ{id:ua}{name:Str}{apos cpos:Pos}(slot:Slot "list" name id)(hty:typeOf (.builtin id)=pure (.type "method_descriptor"))(hm:MtR X id (cD X.K op))(ho:DE X o f)(ha:DEs X (e::es) fs)(hbase:zb (attributeBase o name X.env (eval o X.env)=eval o X.env) ww)(hfew:zb (((backTo cpos (qc (e::es) X.env)).all (λx=> !x.1) && (backToKw cpos (keywordEach [] X.env)).all (λx=>x.1.isSome) && decide ((e::es).length+([]:Wp xZ).length+(if([]:Wp xZ).isEmpty then 0 else 1)<30))=true) ww)(hline:zb ((apos.endLine==cpos.line)=true) ww)(hs:zb (qc (e::es) X.env=(false,eval e X.env)::qc es X.env) ww)(hplain:zb ((backTo cpos (qc es X.env)).any (·.1)=false) ww):DE X (.Call (.Attribute o name apos) (e::es) [] cpos) (Hy op f fs):=⟨BD (jS yE slot hty hm ho.pe ha.pe hbase hfew hline hs hplain) λσ H Q z=>YH z⟩
def QL{id:ua}{apos cpos:Pos}(slot:Slot "list" name id)(hty:typeOf (.builtin id)=pure (.type "method_descriptor"))(hm:MtR X id (cD X.K op))(ho:DE X o f)(hbase:zb (attributeBase o name X.env (eval o X.env)=eval o X.env) ww)(hline:zb ((apos.endLine==cpos.line)=true) ww):DE X (.Call (.Attribute o name apos) [] [] cpos) (Hy op f []):=⟨BD (cy yE slot hty hm ho.pe hbase hline) λσ H Q z=>YH z⟩
noncomputable def LA:Mo
 |_,ds,[x]=>if ds.length<sizeLine then Gc (.non,ds++[x])else none
 |_,_,_=>none
def RG(h:Ab K M H vs [d]):∃v,vs=[v]/\BZ K M H v d:=by
 cases h with
 |cons h t=>cases t;exact⟨_,rfl,h⟩
def QF:MtR X "list.append" (cD X.K LA):=by
 intro pins s σ H x vs v us Q I rx rv h
 obtain⟨M,S,n,a,ds,args,d,ds',rfl,hc,hn,e,st,ra,q⟩:=h
 unfold LA at e
 split at e
 .split at e
  .rename_i hz
   cases e
   obtain⟨xs,h1,h2⟩:=st.cell n a _ hc hn
   obtain⟨y,rfl,ry⟩:=RG ra
   obtain⟨st2,g2⟩:=st.chg hc hn (h2.append (.cons ry .nil))
   exact PL pins s σ H _ _ v us Q I rx rv ⟨a,xs,y,rfl,rfl,h1,by rw[h2.length];exact hz,q _ _ st2 g2 .non⟩
  .cases e
 .cases e
end
noncomputable def Mh(k f o:Ev):Ex:=λE S=>(k E S).bind λr=>(f E r.2).bind λb=>(o E b.2).bind λi=>match b.1,i.1 with
 | .ref n,.int j=>(EV i.2 n).bind λds=>(ixN ds.length j).map λm=>(.nx,E,i.2.set n (.lst (ds.set m r.1)))
 |_,_=>none
def ig {ps pos:Pos}(h:DE X e k)(hb:DE X bs f)(ht:DE X t o)(ha:zb (∀v,assign (.Subscript bs t ps) X.env v=(do
      let ov ← holding [v] (eval bs X.env)
      let iv ← holding [v, ov] (eval t X.env)
      standAt ps
      holding [v, ov, iv] (setItem ov iv v)
      release [v, ov, iv] [])) wv)
    (hs:zb (swapsWithSole [.Subscript bs t ps] e pos.line X.env=pure false) ww)(hw:zb (swappedStores [.Subscript bs t ps] e X.env=pure none) ww)
    (h1:zb ((assignEach [.Subscript bs t ps] X.env).map (·.2)=[assign (.Subscript bs t ps) X.env]) ww) :
    DS X (.Assign [.Subscript bs t ps] e pos) (Mh k f o):=⟨
  FP (YR h.pe (eM hb.pe ht.pe set_list ha) hs hw h1) fun Dn σ H z => by
    obtain⟨M,E,S,fl,E',S',e,r,st,q⟩:=z
    obtain⟨⟨d,S1⟩,e1,e⟩:=Af e
    obtain⟨⟨b,S2⟩,e2,e⟩:=Af e
    obtain⟨⟨i,S3⟩,e3,e⟩:=Af e
    dsimp only at e e1 e2 e3
    split at e
    · rename_i n j _
      obtain⟨ds,e4,e⟩:=Af e
      obtain⟨m,e5,e⟩:=Hz e
      cases e
      refine ⟨M, E, S, d, S1, e1, r, st, fun v H1 M1 g1 st1 r1 => ?_⟩
      refine ⟨M1, E, S1, _, S2, e2, r.step g1.st, st1, fun bv H2 M2 g2 st2 r2 => ?_⟩
      refine ⟨M2, E, S2, _, S3, e3, (r.step g1.st).step g2.st, st2, fun iv H3 M3 g3 st3 r3 => ?_⟩
      cases r3
      cases r2 with
      | ref hc =>
        rename_i a
        have hc3:=LY g3.pre hc
        obtain⟨xs,h1,h2⟩:=st3.cell n a _ hc3 (El e4)
        obtain⟨st4,g4⟩:=st3.chg hc3 (El e4) (h2.set ((r1.step g2.st).step g3.st) m)
        have g:=((g1.trans g2).trans g3).trans g4
        exact ⟨a, xs, j, m, rfl, rfl, h1, by rw [h2.length]; exact e5, q _ _ M3 g (r.step g.st) st4⟩
    · cases e⟩
abbrev Fn:=Wp D->Sto->qR (D×Sto)
noncomputable def flD:Fl->D
 | .nx=>.non
 | .ret d=>d
noncomputable def AU(N:Nat)(body:Ex):Fn:=λds S=>(body (ds.map Gc++qk (N-ds.length) none) S).map λr=>(flD r.1,r.2.2)
def AO{α:Type}(a:α):α:=Classical.choose (⟨a,rfl⟩:∃x,x=a)
def Gf(a:α):AO a=a:=Classical.choose_spec (⟨a,rfl⟩:∃x,x=a)
inductive spD(K:W1)(np:Nat)(f:Fn)(vs:Wp V)(H:Hp)(Q:VK)(E:XK):Prop
 |mk (M:Ms) (ds:Wp D) (S:Sto) (d:D) (S':Sto) (l:ds.length=np) (e:f ds S=Gc (d,S')) (r:Ab K M H vs ds) (st:StR K M S H) (q:∀v H' M',Gr M H M' H'->StR K M' S' H'->BZ K M' H' v d->Q v H')
def Ol{α:Type}{xs:Wp α}{i:Nat}{x:α}(h:(xs.map Gc)[i]?=Gc (Gc x)):xs[i]?=Gc x:=by
 rw[qw]at h
 cases e:xs[i]? with
 |none=>rw[e]at h;cases h
 |some y=>rw[e]at h;cases h;rfl
def UM{α:Type}{xs:Wp (qR α)}{k i:Nat}{x:α}(h:(xs++qk k none)[i]?=Gc (Gc x)):xs[i]?=Gc (Gc x):=by
 by_cases hi:i<xs.length
 .rw[qQ hi]at h;exact h
 .rw[rR (by lia),vv]at h
  split at h<;>cases h
def aK{α:Type}{xs:Wp (qR α)}{k i:Nat}{x:qR α}(h:xs[i]?=Gc x):(xs++qk k none)[i]?=Gc x:=by
 rw[qQ (qV.mp h).1];exact h
def EnR.args(r:Ab K M H vs ds) k:EnR K M (ds.map Gc++qk k none) (vs.map Gc++qk k none) H:=by
 refine⟨by simp[r.length],λi d e=>?_⟩
 obtain⟨v,h1,h2⟩:=r.get (Ol (UM e))
 exact⟨v,aK (by rw[qw,h1];rfl),h2⟩
def j5(Fu:Fun K x x st f fd)(S:Av N ps (AB st))(hp:ps.length=np)(hb:∀cdv A outer s H E,Cb k (A.deeper (qv x (AB st) s.heap.objs.size f cdv))->DSs (Ij CX0 P w K mg base N x (AB st) f cdv A outer s H E).nox (A8 st) b):Ka P w K mg base CX0 (k+1) f fd ps (spD K np (AO (AU N.length b))):=by
 rw[Gf]
 refine Fu.ok S (λvs H Q E h=>?_) (λcdv A outer s H vs Q E hr h=>?_)
 .obtain⟨M,ds,S0,d,S',hl,_,r,_⟩:=h
  have:=r.length
  lia
 .obtain⟨M,ds,S0,d,S',hl,e,r,st,q⟩:=h
  have hlen:=r.length
  refine⟨_,(hb cdv A outer s H E hr).pe,?_⟩
  obtain⟨⟨fl,E',S1⟩,e1,e⟩:=Hz e
  cases e
  refine⟨M,_,S0,fl,E',S1,e1,?_,st,?_⟩
  .rw[show L2.start N vs=vs.map Gc++qk (N.length-ds.length) none from by unfold L2.start;rw[hlen]]
   exact .args r _
  .cases fl with
   |nx=>exact λσ' H' M' g _ st'=>q _ _ M' g st' .non
   |ret d=>exact λv H' M' g st' r'=>q _ _ M' g st' r'
def gG(S:St.Src K mg x st)(sc:Av N ps (AB st))(hp:ps.length=np)(hbi:∀f fd,Fun K x x st f fd->Binds K fd ps [])(hb:∀f cdv A outer s H E,Cb k (A.deeper (qv x (AB st) s.heap.objs.size f cdv))->DSs (Ij CX0 P w K mg base N x (AB st) f cdv A outer s H E).nox (A8 st) b):St.Dfn P w K mg base x (k+1) ps (spD K np (AO (AU N.length b))):=by
 obtain⟨f,fd,Fu,hm⟩:=S.ex
 exact⟨f,fd,hm,Fu.kp,hbi f fd Fu,j5 Fu sc hp λcdv A outer s H E hr=>hb f cdv A outer s H E hr⟩
noncomputable def AD(f:Fn)(fs:Wp Ev):Ev:=λE S=>(evs fs E S).bind λr=>f r.1 r.2
def Vu(hn:fs.length=np)(h:tD K (AD f fs) σ H Q):bI (spD K np f) [] E0 (tDs K fs) σ H Q:=by
 obtain⟨M,E,S,d,S',e,r,st,q⟩:=h
 obtain⟨⟨ds,S1⟩,e1,e⟩:=Af e
 refine FW e1 r st λvs H1 M1 g1 st1 r1=>?_
 rw[r9]
 exact⟨M1,ds,S1,d,S',by rw[HH e1];exact hn,e,r1,st1,λv H2 M2 g2 st2 r2=>q _ _ M2 (g1.trans g2) st2 r2⟩
def aj{X:Cx}{k np:Nat}{x:Str}{ps:Wp Str}{p pos:Pos}(d:St.Dfn X.prog X.w X.K X.mg X.base x k ps (spD X.K np f))(hr:Cb k X.A)(hg:Gl X x)(ha:DEs X (e::es) fs)(hn:zb (fs.length=np) ww)(hdb:zb ((x==("__debug__":Str))=false) xz)(he:zb (qc (e::es) X.env=(false,eval e X.env)::qc es X.env) ww)(hpl:zb ((backTo pos (qc es X.env)).any (·.1)=false) ww):DE X (.Call (.Name x p) (e::es) [] pos) (AD f fs):=⟨BD (St.jb d hr hg ha.pe hdb he hpl) λσ H Q z=>Vu hn z⟩
abbrev Tf:=D->En->Sto->qR En
inductive tG(K:W1)(t:Tf)(v:V)(σ:Sg)(H:Hp)(Q:St->Hp->Prop):Prop
 |mk (M:Ms) (d:D) (E E':En) (S:Sto) (e:t d E S=Gc E') (r:EnR K M E σ H) (st:StR K M S H) (rd:BZ K M H v d) (q:∀σ',EnR K M E' σ' H->Q σ' H)
structure DG(X:Cx)(tg:sG)(t:Tf):Prop where
 pe:PG X tg (tG X.K t)
noncomputable def tNm(i:Nat):Tf:=λd E _=>Gc (E.set i (Gc d))
def VB(h:PG X e t)(m:∀v σ H Q,t' v σ H Q->t v σ H Q):PG X e t':=λpins s σ H v u Q I r q=>h pins s σ H v u Q I r (m _ _ _ _ q)
def Lj{X:Cx}{pos:Pos} i(hN:X.N.Nodup)(hi:zb (X.N[i]?=Gc x) ww)(hx:zb (Loc X.env.scope x) wn)(hf:zb (X.fn x=true\/X.env.scope.names.lookup x=Gc .local) wf):DG X (.Name x pos) (tNm i):=⟨VB (Zp hN hi hx hf) λv σ H Q z=>by
 obtain⟨M,d,E,E',S,e,r,st,rd,q⟩:=z
 cases e
 exact q _ (r.put rd)⟩
noncomputable def tMs:Wp Tf->Wp D->En->Sto->qR En
 | [],[],E,_=>Gc E
 |t::ts,d::ds,E,S=>(t d E S).bind λE1=>tMs ts ds E1 S
 |_,_,_,_=>none
noncomputable def tTp(ts:Wp Tf):Tf:=λd E S=>match d with
 | .tup ds=>tMs ts ds E S
 | .lst ds=>tMs ts ds E S
 | .ref n=>(EV S n).bind λds=>tMs ts ds E S
 |_=>none
noncomputable def tGs(K:W1):Wp Tf->TGs
 | []=>mw
 |t::ts=>eS (tG K t) (tGs K ts)
theorem Q5{K:W1}{M:Ms}{H:Hp}{S:Sto}(st:StR K M S H):∀{ts} {ds} {vs} {E E'} {σ} {Q:Sg->Hp->Prop},tMs ts ds E S=Gc E'->EnR K M E σ H->Ab K M H vs ds->(∀σ',EnR K M E' σ' H->Q σ' H)->tGs K ts vs σ H Q
 | [],[],_,E,E',σ,Q,e,r,rd,q=>by
   cases e
   cases rd
   exact⟨rfl,q _ r⟩
 |t::ts,d::ds,_,E,E',σ,Q,e,r,rd,q=>by
  obtain⟨E1,e1,e⟩:=Af e
  cases rd with
  |cons h1 h2=>exact⟨_,_,rfl,M,d,E,E1,S,e1,r,st,h1,λσ1 r1=>Q5 st e r1 h2 q⟩
 | [],_::_,_,E,E',σ,Q,e,r,rd,q=>by cases e
 |_::_,[],_,E,E',σ,Q,e,r,rd,q=>by cases e
theorem OG:∀{ts} {ds} {E E'} {S},tMs ts ds E S=Gc E'->ds.length=ts.length
 | [],[],_,_,_,_=>rfl
 |t::ts,d::ds,E,E',S,e=>by
  obtain⟨E1,e1,e⟩:=Af e
  simp[OG e]
 | [],_::_,_,_,_,e=>by cases e
 |_::_,[],_,_,_,e=>by cases e
structure DGs(X:Cx)(es:Wp sG)(ts:Wp Tf):Prop where
 pe:PGs X es (tGs X.K ts)
def Nz:DGs X [] []:=⟨Zi⟩
def D2(h:DG X e t)(g:DGs X es ts)(hs:zb ((assignEach (e::es) X.env).map (·.2)=assign e X.env::(assignEach es X.env).map (·.2)) ww):DGs X (e::es) (t::ts):=⟨WZ h.pe g.pe hs⟩
def Xq{X:Cx}{k:Nat}{pos:Pos}(hc:X.calm=true)(h:DGs X es ts)(hn:zb ((assignEach es X.env).length=ts.length) ww)(hst:zb ((assignEach es X.env).findIdx? (·.1)=none) ww):DG X (.Tuple es k pos) (tTp ts):=⟨
 VB (fw hc h.pe hn hst) λv σ H Q z=>by
  obtain⟨M,d,E,E',S,e,r,st,rd,q⟩:=z
  unfold tTp at e
  split at e
  .cases rd with
   |tup h1 h2=>exact⟨_,_,rfl,.inl h1,by rw[h2.length];exact OG e,Q5 st e r h2 q⟩
  .cases rd with
   |lst h1 n h2=>exact⟨_,_,rfl,.inr h1,by rw[h2.length];exact OG e,Q5 st e r h2 q⟩
  .obtain⟨ds,e1,e⟩:=Af e
   cases rd with
   |ref hc=>
    obtain⟨xs,h1,h2⟩:=st.cell _ _ _ hc (El e1)
    exact⟨_,_,rfl,.inr h1,by rw[h2.length];exact OG e,Q5 st e r h2 q⟩
  .cases e⟩
noncomputable def Jf(t:Tf)(k:Ev):Ex:=λE S=>(k E S).bind λr=>(t r.1 E r.2).map λE'=>(.nx,E',r.2)
def Tp{pos:Pos}(h:DE X e k)(hg:DG X tg t)(hs:zb (swapsWithSole [tg] e pos.line X.env=pure false) ww)(hw:zb (swappedStores [tg] e X.env=pure none) ww)(h1:zb ((assignEach [tg] X.env).map (·.2)=[assign tg X.env]) ww):DS X (.Assign [tg] e pos) (Jf t k):=⟨FP (YR h.pe hg.pe hs hw h1) λDn σ H z=>by
 obtain⟨M,E,S,fl,E',S',e,r,st,q⟩:=z
 obtain⟨⟨d,S1⟩,e1,e⟩:=Af e
 obtain⟨E2,e2,e⟩:=Hz e
 cases e
 exact⟨M,E,S,d,S1,e1,r,st,λv H1 M1 g1 st1 r1=>⟨M1,d,E,_,S1,e2,r.step g1.st,st1,r1,λσ' r2=>q _ _ M1 g1 r2 st1⟩⟩⟩
noncomputable def Us(i j:Nat)(f g:Ev):Ex:=λE S=>(evs [f,g] E S).bind λr=>match r.1 with
 | [d,d']=>Gc (.nx,(E.set i (Gc d)).set j (Gc d'),r.2)
 |_=>none
def mh{pt2 pos:Pos}(hc:X.calm=true)(hN:X.N.Nodup)(hi:X.N[i]?=Gc x)(hj:X.N[j]?=Gc y)(hij:i≠j)(hx:X.env.scope.names.lookup x=Gc .local)(hy:X.env.scope.names.lookup y=Gc .local)(ha:DE X a f)(hb:DE X b g)(hw:zb (swappedStores [.Tuple [.Name x px,.Name y py] kt pt] (.Tuple [a,b] k2 pt2) X.env=pure (Gc [x,y])) ww)(hsa:zb (qc [a,b] X.env=(false,eval a X.env)::qc [b] X.env) ww)(hsb:zb (qc [b] X.env=(false,eval b X.env)::qc [] X.env) ww)(hs:zb (swapsWithSole [.Tuple [.Name x px,.Name y py] kt pt] (.Tuple [a,b] k2 pt2) pos.line X.env=pure false) ww):DS X (.Assign [.Tuple [.Name x px,.Name y py] kt pt] (.Tuple [a,b] k2 pt2) pos) (Us i j f g):=⟨by
 refine FP (cn hc hN hi hj hij hx hy (Nb ha.pe (Nb hb.pe UL hsb) hsa) hw hs) λDn σ H z=>?_
 obtain⟨M,E,S,fl,E',S',e,r,st,q⟩:=z
 obtain⟨⟨ds,S1⟩,e1,e⟩:=Af e
 refine FW (K:=X.K) (fs:=[f,g]) e1 r st λvs H1 M1 g1 st1 r1=>?_
 dsimp only at e
 split at e
 .rename_i d d'
  cases e
  cases r1 with
  |cons h1 t=>
   cases t with
   |cons h2 t=>
    cases t
    exact⟨_,_,rfl,q _ _ M1 g1 (((r.step g1.st).put h1).put h2) st1⟩
 .cases e⟩
noncomputable def Ba:Ex:=λ_ _=>none
def D6:DS X st Ba:=⟨λ_ _ _ _ _ _ z=>by
 obtain⟨M,E,S,fl,E',S',e,_⟩:=z
 cases e⟩
abbrev Gd:=Wp (Nat×Wp D)
def gOk(gs:Gd)(S:Sto):Prop:=∀g∈gs,EV S g.1=Gc g.2
abbrev Sr:=En->Sto->qR ((Wp D×Gd)×Sto)
structure eT(K:W1)(M:Ms)(H:Hp)(gs:Gd)(ds:Wp D)(J:It):Prop where
 go:∀(i:Nat) (H2:Hp) (M2:Ms) (S2:Sto),Sp1 M H M2 H2->StR K M2 S2 H2->gOk gs S2->i<ds.length->J.go i H2
 stop:∀(i:Nat) (H2:Hp) (M2:Ms) (S2:Sto),Sp1 M H M2 H2->StR K M2 S2 H2->gOk gs S2->ds.length<=i->J.stop i H2
 yld:∀(i:Nat) (H2:Hp) (M2:Ms) (S2:Sto) (x:V) (H3:Hp) (d:D),Sp1 M H M2 H2->StR K M2 S2 H2->gOk gs S2->ds[i]?=Gc d->J.yld i H2 x H3->(∀a o,H2 a=Gc o->H3 a=Gc o)/\BZ K M2 H3 x d
inductive tI(K:W1)(s:Sr)(σ:Sg)(H:Hp)(R:It->Hp->Prop):Prop
 |mk (M:Ms) (E:En) (S:Sto) (ds:Wp D) (gs:Gd) (S':Sto) (e:s E S=Gc ((ds,gs),S')) (r:EnR K M E σ H) (st:StR K M S H) (q:∀J H' M',Gr M H M' H'->StR K M' S' H'->eT K M' H' gs ds J->R J H')
structure DI(X:Cx)(tg iter:sG)(s:Sr):Prop where
 pe:PI X tg iter (tI X.K s)
def Na(h:PI X tg e t)(m:∀σ H R,t' σ H R->t σ H R):PI X tg e t':=λpins s σ H R I q=>h pins s σ H R I (m _ _ _ q)
noncomputable def nJ(K:W1)(tl:TE):TI:=λσ H R=>tl σ H λx H1=>∃a,x=.ref a/\(((∃xs,SqL K H1 a xs)/\R (Itl K a) H1)\/((∃xs,SqT K H1 a xs)/\R (Itt K a) H1))
def f6(hl:PE X l tl):PI X tg l (nJ X.K tl):=by
 intro pins s σ H R I h
 refine thn (hl pins s σ H _ I h) λv s1 z=>?_
 obtain⟨x,H1,I1,r1,q1⟩:=z
 obtain⟨a,e,q1⟩:=q1
 subst e
 cases r1
 rcases q1 with⟨⟨xs,hq⟩,q⟩|⟨⟨xs,hq⟩,q⟩
 .obtain⟨its,rv,p,hz⟩:=I1.list hq
  refine tS p.isList ?_
  refine⟨s1.heap.objs.size,[s1.heap.objs.size],_,_,H1,rfl,I1.kept (t':=s1.toks) λb o e=>qO _ e,TX a _,⟨_,qt _ rfl,rfl,rfl⟩,λb hb=>?_,q⟩
  have e:b=s1.heap.objs.size:=by simpa using hb
  subst e
  exact I1.ao (qW _) (I1.hok.fresh (qW _))
 .obtain⟨its,rv,p,hz⟩:=I1.tuple hq
  refine tZ (show s1.heap.IsTuple a its.toArray from p) ?_
  refine⟨s1.heap.objs.size,[s1.heap.objs.size],_,_,H1,rfl,I1.kept (t':=s1.toks) λb o e=>qO _ e,SH a _,⟨_,qt _ rfl,rfl,rfl⟩,λb hb=>?_,q⟩
  have e:b=s1.heap.objs.size:=by simpa using hb
  subst e
  exact I1.ao (qW _) (I1.hok.fresh (qW _))
def Ab.get'(h:Ab K M H vs ds)(hi:i<ds.length):∃x,vs[i]?=Gc x:=by
 have:=h.length
 exact⟨vs[i],qZ (by lia)⟩
structure SqF(K:W1)(M:Ms)(H:Hp)(gs:Gd)(k:sD)(a:qg)(ds:Wp D):Prop where
 keep:∀(H2:Hp) (M2:Ms) (S2:Sto),Sp1 M H M2 H2->StR K M2 S2 H2->gOk gs S2->∃xs,(if k=true then SqT K H2 a xs else SqL K H2 a xs)/\Ab K M2 H2 xs ds
noncomputable def sqD(S:Sto):D->qR (Wp D×Gd)
 | .tup ds=>Gc (ds,[])
 | .lst ds=>Gc (ds,[])
 | .ref n=>(EV S n).map λds=>(ds,[(n,ds)])
 | .scr ns=>Gc (ns.map .int,[])
 |_=>none
def RC(st:StR K M S H)(h:BZ K M H v d)(e:sqD S d=Gc (ds,gs)):∃k a,v=.ref a/\SqF K M H gs k a ds:=by
 cases h with
 |tup h r=>cases e;exact⟨true,_,rfl,⟨λH2 M2 S2 g _ _=>⟨_,g.sqT h,r.step g⟩⟩⟩
 |lst h n r=>cases e;exact⟨false,_,rfl,⟨λH2 M2 S2 g _ _=>⟨_,SqL.of (g.keep _ _ h n),r.step g⟩⟩⟩
 |scr h=>
  cases e
  refine⟨false,_,rfl,⟨λH2 M2 S2 g _ _=>⟨_,?_,Kx⟩⟩⟩
  rcases h with⟨h,n⟩|h
  .rcases h with h|⟨o,h⟩
   .exact .inl (.inl (g.keep _ _ h n))
   .exact .inl (.inr ⟨o,g.keep _ _ h n⟩)
  .exact .inr h
 |ref h=>
  obtain⟨es,e1,e⟩:=Hz e
  cases e
  refine⟨false,_,rfl,⟨λH2 M2 S2 g st2 ok=>?_⟩⟩
  obtain⟨xs,h1,h2⟩:=st2.cell _ _ _ (LY g.pre h) (El (ok _ (rD.mpr rfl)))
  exact⟨xs,SqL.of h1,h2⟩
 |non=>cases e
 |bl b=>cases e
 |int b=>cases e
 |str b=>cases e
 |ty b=>cases e
 |dct h n r=>cases e
def jk(h:SqF K M H gs k a ds):eT K M H gs ds (if k=true then Itt K a else Itl K a):=by
 cases k with
 |true=>
  exact{
   go:=λi H2 M2 S2 g st ok hi=>let⟨xs,h1,h2⟩:=h.keep H2 M2 S2 g st ok;let⟨x,hx⟩:=h2.get' hi;⟨xs,x,h1,hx⟩
   stop:=λi H2 M2 S2 g st ok hi=>let⟨xs,h1,h2⟩:=h.keep H2 M2 S2 g st ok;⟨xs,h1,by have:=h2.length;lia⟩
   yld:=λi H2 M2 S2 x H3 d g st ok hd hy=>by
    obtain⟨xs,h1,h2⟩:=h.keep H2 M2 S2 g st ok
    obtain⟨rfl,hy⟩:=hy
    refine⟨λ_ _ e=>e,?_⟩
    have hx:=hy xs h1
    obtain⟨x',h3,h4⟩:=h2.get hd
    rw[hx]at h3;cases h3
    exact h4}
 |false=>
  exact{
   go:=λi H2 M2 S2 g st ok hi=>let⟨xs,h1,h2⟩:=h.keep H2 M2 S2 g st ok;let⟨x,hx⟩:=h2.get' hi;⟨xs,x,h1,hx⟩
   stop:=λi H2 M2 S2 g st ok hi=>let⟨xs,h1,h2⟩:=h.keep H2 M2 S2 g st ok;⟨xs,h1,by have:=h2.length;lia⟩
   yld:=λi H2 M2 S2 x H3 d g st ok hd hy=>by
    obtain⟨xs,h1,h2⟩:=h.keep H2 M2 S2 g st ok
    obtain⟨rfl,hy⟩:=hy
    refine⟨λ_ _ e=>e,?_⟩
    have hx:=hy xs h1
    obtain⟨x',h3,h4⟩:=h2.get hd
    rw[hx]at h3;cases h3
    exact h4}
noncomputable def HC(f:Ev):Sr:=λE S=>(f E S).bind λr=>(sqD r.2 r.1).map λp=>(p,r.2)
def Nm(e:sqD S d=Gc (ds,gs)):gOk gs S:=by
 cases d<;>first|(cases e;done)|skip
 all_goals first
  |(cases e;intro g hg;cases hg;done)
  |(obtain⟨es,e1,e⟩:=Hz e
    cases e
    intro g hg
    rw[rD.mp hg]
    exact e1)
def mU(h:DE X e f):DI X tg e (HC f):=⟨Na (f6 h.pe) λσ H R z=>by
 obtain⟨M,E,S,ds,gs,S',e,r,st,q⟩:=z
 obtain⟨⟨d,S1⟩,e1,e⟩:=Af e
 obtain⟨⟨ds',gs'⟩,e2,e⟩:=Hz e
 cases e
 refine⟨M,E,S,d,S1,e1,r,st,λv H1 M1 g1 st1 r1=>?_⟩
 obtain⟨k,a,rfl,sq⟩:=RC st1 r1 e2
 obtain⟨xs,hs,_⟩:=sq.keep H1 M1 S1 (Gr.refl st1.mo).st st1 (Nm e2)
 have it:=jk sq
 refine⟨a,rfl,?_⟩
 cases k with
 |true=>exact .inr ⟨⟨xs,hs⟩,q _ _ M1 g1 st1 it⟩
 |false=>exact .inl ⟨⟨xs,hs⟩,q _ _ M1 g1 st1 it⟩⟩
noncomputable def OL(lo:Int)(n:Nat):Wp D:=(sY n).map λ(i:Nat)=>.int (lo+(i:Int))
theorem gc:eT K M H [] (OL lo n) (Itr lo n) where
 go:=λi H2 M2 S2 g st ok hi=>by
  have:i<n:=by unfold OL at hi;simpa using hi
  exact this
 stop:=λi H2 M2 S2 g st ok hi=>by
  have:n<=i:=by unfold OL at hi;simpa using hi
  exact this
 yld:=λi H2 M2 S2 x H3 d g st ok hd hy=>by
  obtain⟨rfl,rfl⟩:=hy
  refine⟨λ_ _ e=>e,?_⟩
  unfold OL at hd
  rw[qw]at hd
  cases e:(sY n)[i]? with
  |none=>rw[e]at hd;cases hd
  |some j=>
   rw[e]at hd
   cases hd
   have:j=i:=by
    obtain⟨h1,h2⟩:=qV.mp e
    simpa using h2.symm
   subst this
   exact .int _
noncomputable def SV(fs:Wp Ev):Sr:=λE S=>(evs fs E S).bind λr=>match r.1 with
 | [.int j]=>if(decide (-(2^62)<=j) && decide (j<2^62))=true then Gc ((OL 0 j.toNat,[]),r.2)else none
 | [.int i,.int j]=>if(decide (-(2^62)<=i) && decide (i<2^62) && decide (-(2^62)<=j) && decide (j<2^62))=true then Gc ((OL i (j-i).toNat,[]),r.2)else none
 |_=>none
def NW(h:Ab K M H vs [.int j]):vs=[.int j]:=by
 cases h with
 |cons h t=>cases t;cases h;rfl
def TY(h:Ab K M H vs [.int i,.int j]):vs=[.int i,.int j]:=by
 cases h with
 |cons h t=>cases h;cases NW t;rfl
def Y9(hg:Gl X "range")(hm:X.mg "range"=none)(ha:DEs X [a] [o])(hs:zb (qc [a] X.env=[(false,eval a X.env)]) ww):DI X tg (.Call (.Name "range" p) [a] [] pos) (SV [o]):=⟨
 Na (UR hg hm ha.pe hs) λσ H R z=>by
  obtain⟨M,E,S,ds,gs,S',e,r,st,q⟩:=z
  obtain⟨⟨ws,S1⟩,e1,e⟩:=Af e
  have hl:=HH e1
  refine FW e1 r st λvs H1 M1 g1 st1 r1=>?_
  dsimp only at e
  split at e
  .split at e
   .rename_i j hk
    rw[qe]at hk
    cases e
    exact⟨j,NW r1,qi hk.1,qi hk.2,q _ _ M1 g1 st1 gc⟩
   .cases e
  .simp at hl
  .cases e⟩
open Classical in
def K1(gs:Gd)(t:Tf)(body:Ex):Wp D->En->Sto->qR (Fl×En×Sto)
 | [],E,S=>if gOk gs S then Gc (.nx,E,S)else none
 |d::ds,E,S=>if gOk gs S then(t d E S).bind λE1=>(body E1 S).bind λr=>match r.1 with
  | .nx=>K1 gs t body ds r.2.1 r.2.2
  | .ret w=>Gc (.ret w,r.2)
  else none
def OJ(s:Sr)(t:Tf)(body:Ex):Ex:=λE S=>(s E S).bind λr=>K1 r.1.2 t body r.1.1 E r.2
def O9{α:Type}{xs:Wp α}{x:α}{r:Wp α}(h:xs.drop i=x::r):xs[i]?=Gc x/\xs.drop (i+1)=r/\i<xs.length:=by
 have hi:i<xs.length:=by
  by_cases hi:i<xs.length
  .exact hi
  .rw[uP (by lia)]at h;cases h
 rw[sP hi]at h
 cases h
 exact⟨qZ hi,rfl,hi⟩
def de(hp:PassesOwn (model X.prog X.w) X.A X.env X.xe)(hc:X.calm=true)(hi:DI X tg iter s)(hg:DG X tg t)(hb:DSs X body b)(hs:zb (∀x,foldedSetIterable iter X.env x=pure x) xL):DS X (.For tg iter body [] pos) (OJ s t b):=⟨FP (eR hp hc hi.pe hg.pe hb.pe hs) λDn σ H z=>by
 obtain⟨M,E,S,fl,E',S',e,r,st,q⟩:=z
 obtain⟨⟨⟨ds,gs⟩,S1⟩,e1,e⟩:=Af e
 dsimp only at e
 refine⟨M,E,S,ds,gs,S1,e1,r,st,λJ H1 M1 g1 st1 it=>?_⟩
 refine⟨λi m σ' H'=>m=ds.length-i/\∃E2 S2 M2,K1 gs t b (ds.drop i) E2 S2=Gc (fl,E',S')/\Gr M1 H1 M2 H'/\EnR X.K M2 E2 σ' H'/\StR X.K M2 S2 H',⟨_,rfl,E,S1,M1,e,.refl st1.mo,r.step g1.st,st1⟩,λi m σ2 H2 hW=>?_⟩
 obtain⟨rfl,E2,S2,M2,e2,g2,r2,st2⟩:=hW
 cases ed:ds.drop i with
 |nil=>
  rw[ed]at e2
  unfold K1 at e2
  split at e2
  .rename_i ok
   cases e2
   left
   exact⟨it.stop i H2 M2 _ g2.st st2 ok (yw.mp ed),q _ _ M2 (g1.trans g2) r2 st2⟩
  .cases e2
 |cons d rest=>
  obtain⟨d1,d2,d3⟩:=O9 ed
  rw[ed]at e2
  unfold K1 at e2
  split at e2
  .rename_i ok
   obtain⟨E3,e3,e2⟩:=Af e2
   obtain⟨⟨f4,E4,S4⟩,e4,e2⟩:=Af e2
   dsimp only at e2
   right
   refine⟨it.go i H2 M2 S2 g2.st st2 ok d3,λσ' H'=>∃m',m'<ds.length-i/\(m'=ds.length-(i+1)/\∃E2 S2 M2,K1 gs t b (ds.drop (i+1)) E2 S2=Gc (fl,E',S')/\Gr M1 H1 M2 H'/\EnR X.K M2 E2 σ' H'/\StR X.K M2 S2 H'),λσ' H' z=>z,λx H3 hy=>?_⟩
   obtain⟨k3,rx⟩:=it.yld i H2 M2 S2 x H3 d g2.st st2 ok d1 hy
   have g3:Gr M2 H2 M2 H3:=.grow st2.mo k3
   refine⟨M2,d,E2,E3,S2,e3,r2.step g3.st,st2.grow k3,rx,λσ4 r4=>?_⟩
   refine⟨M2,E3,S2,f4,E4,S4,e4,r4,st2.grow k3,?_⟩
   split at e2
   .exact λσ6 H6 M6 g6 r6 st6=>⟨_,yx _ _ d3,rfl,E4,S4,M6,by rw[d2];exact e2,(g2.trans g3).trans g6,r6,st6⟩
   .cases e2
    exact λv H6 M6 g6 st6 r6=>q _ _ M6 (((g1.trans g2).trans g3).trans g6) st6 r6
  .cases e2⟩
noncomputable def Fh(c:Ev)(b:Ex):Nat->En->Sto->qR (Fl×En×Sto)
 |0,_,_=>none
 |k+1,E,S=>(c E S).bind λr=>match r.1 with
  | .bl true=>(b E r.2).bind λp=>match p.1 with
    | .nx=>Fh c b k p.2.1 p.2.2
    | .ret w=>Gc (.ret w,p.2)
  | .bl false=>Gc (.nx,E,r.2)
  |_=>none
noncomputable def JD(fuel:En->Nat)(c:Ev)(b:Ex):Ex:=λE S=>Fh c b (fuel E) E S
def WW fuel(hp:PassesOwn (model X.prog X.w) X.A X.env X.xe)(hc:DT X c k)(hb:DSs X body b):DS X (.While c body [] pos) (JD fuel k b):=⟨
 FP (WJ hp hc.pe hb.pe) λDn σ H z=>by
  obtain⟨M,E,S,fl,E',S',e,r,st,q⟩:=z
  refine⟨λm σ' H'=>∃E2 S2 M2,Fh k b m E2 S2=Gc (fl,E',S')/\Gr M H M2 H'/\EnR X.K M2 E2 σ' H'/\StR X.K M2 S2 H',⟨fuel E,E,S,M,e,.refl st.mo,r,st⟩,λm σ2 H2 hW=>?_⟩
  obtain⟨E2,S2,M2,e2,g2,r2,st2⟩:=hW
  cases m with
  |zero=>cases e2
  |succ m=>
   obtain⟨⟨w3,S3⟩,e3,e2⟩:=Af e2
   dsimp only at e2
   split at e2
   .obtain⟨⟨f4,E4,S4⟩,e4,e2⟩:=Af e2
    refine⟨M2,E2,S2,true,S3,e3,r2,st2,λH3 M3 g3 st3=>?_⟩
    refine Y3 ⟨λσ' H'=>∃m',m'<m+1/\∃E2 S2 M2,Fh k b m' E2 S2=Gc (fl,E',S')/\Gr M H M2 H'/\EnR X.K M2 E2 σ' H'/\StR X.K M2 S2 H',λσ' H' z=>z,?_⟩
    refine⟨M3,E2,S3,f4,E4,S4,e4,r2.step g3.st,st3,?_⟩
    dsimp only at e2
    split at e2
    .exact λσ5 H5 M5 g5 r5 st5=>⟨m,by lia,E4,S4,M5,e2,(g2.trans g3).trans g5,r5,st5⟩
    .cases e2
     exact λv H5 M5 g5 st5 r5=>q _ _ M5 ((g2.trans g3).trans g5) st5 r5
   .cases e2
    refine⟨M2,_,S2,false,_,e3,r2,st2,λH3 M3 g3 st3=>?_⟩
    refine Y0 ?_
    exact q _ _ M3 (g2.trans g3) (r2.step g3.st) st3
   .cases e2⟩
noncomputable def U1(i:Nat):En->Nat:=λE=>match at? E i with
 |some (.int j)=>j.natAbs+2
 |_=>0
section
variable{M M' M2:Ms}{H H' H2:Hp}{S:Sto}
structure GrX(M:Ms)(H:Hp)(M':Ms)(H':Hp):Prop where
 pre:M.cel <+: M'.cel
 fresh:∀a,a∈M'.cel->a∈M.cel\/H a=none
 keep:∀a o,H a=Gc o->a∉M.cel->H' a=Gc o
 some:∀a,H a≠none->H' a≠none
def GrX.none(g:GrX M H M' H')(h:H' a=none):H a=none:=by
 cases e:H a with
 |none=>rfl
 |some o=>exact absurd h (g.some a (by rw[e];intro z;cases z))
def Gr.x(g:Gr M H M' H'):GrX M H M' H':=⟨g.pre,g.fresh,g.keep,g.some⟩
def GrX.trans(h:GrX M H M' H')(g:GrX M' H' M2 H2):GrX M H M2 H2:=
 ⟨h.pre.trans g.pre,λa z=>(g.fresh a z).elim (h.fresh a) λz=>.inr (h.none z),λa o e n=>g.keep a o (h.keep a o e n) (λz=>by
   rcases h.fresh a z with z|z
   .exact n z
   .rw[e]at z;cases z),λa e=>g.some a (h.some a e)⟩
def StR.d8(r:StR K M S H)(e:H a=none):StR K ⟨M.cel,a::M.tmp⟩ S (upd H a (.lst []))/\GrX M H ⟨M.cel,a::M.tmp⟩ (upd H a (.lst []))/\Sp1 M H ⟨M.cel,a::M.tmp⟩ (upd H a (.lst [])):=by
 have k:∀b o,H b=Gc o->upd H a (.lst []) b=Gc o:=Hq e
 have na:¬M.mem a:=λz=>r.mo.some z e
 have s1:Sp1 M H ⟨M.cel,a::M.tmp⟩ (upd H a (.lst [])):=⟨r.mo,sj,λb z=>by
  rcases z with z|z
  .exact .inl (.inl z)
  .rcases qY.mp z with z|z
   .subst z;exact .inr e
   .exact .inl (.inr z),λb o eb _=>k b o eb⟩
 refine⟨⟨λb z=>?_,r.nd,λb hb z=>?_,r.len,λn b c h1 h2=>?_⟩,⟨sj,λb z=>.inl z,λb o eb _=>k b o eb,λb eb z=>?_⟩,s1⟩
 .by_cases h:b=a
  .subst h;exact⟨_,Ax,trivial⟩
  .rw[Ae h]
   refine r.mo b ?_
   rcases z with z|z
   .exact .inl z
   .rcases qY.mp z with z|z
    .exact absurd z h
    .exact .inr z
 .rcases qY.mp hb with hb|hb
  .subst hb;exact na (.inl z)
  .exact r.nt b hb z
 .exact(r.cell n b c h1 h2).step s1 λo e=>k _ _ e
 .cases h:H b with
  |none=>exact eb h
  |some o=>rw[k b o h]at z;cases z
def StR.Z3(r:StR K M S H)(ha:a∈M.tmp):StR K M S (upd H a (.lst ys))/\Sp1 M H M (upd H a (.lst ys)):=by
 have s1:Sp1 M H M (upd H a (.lst ys)):=⟨r.mo,sj,λb z=>.inl z,λb o eb nb=>by rw[Ae (λz=>nb (by rw[z];exact .inr ha))];exact eb⟩
 refine⟨⟨λb z=>?_,r.nd,r.nt,r.len,λn b c h1 h2=>?_⟩,s1⟩
 .by_cases h:b=a
  .subst h;exact⟨_,Ax,trivial⟩
  .rw[Ae h];exact r.mo b z
 .have hb:b≠a:=λz=>r.nt a ha (by rw[<-z];exact qo h1)
  exact(r.cell n b c h1 h2).step s1 λo e=>by rw[Ae hb];exact e
def StR.Zr(r:StR K ⟨c,a::t⟩ S H)(nt:a∉t)(e:H a=Gc (.lst xs))(rr:Ab K ⟨c,a::t⟩ H xs ds)(ef:fin cf (.own ds) S=Gc (d,S')):∃c',StR K ⟨c',t⟩ S' H/\BZ K ⟨c',t⟩ H (.ref a) d/\c <+: c'/\(∀b∈c',b∈c\/b=a):=by
 have nc:a∉c:=r.nt a qh
 cases cf with
 |false=>
  cases ef
  have s1:Sp1 ⟨c,a::t⟩ H ⟨c,t⟩ H:=⟨r.mo,sj,λb z=>.inl (z.imp id (qa _)),λ_ _ e _=>e⟩
  refine⟨c,⟨λb z=>r.mo b (z.imp id (qa _)),r.nd,λb hb=>r.nt b (qa _ hb),r.len,λn b cl h1 h2=>?_⟩,.lst e (λz=>z.elim nc nt) (rr.step s1),sj,λb z=>.inl z⟩
  exact(r.cell n b cl h1 h2).step s1 λo e=>e
 |true=>
  cases ef
  have s1:Sp1 ⟨c,a::t⟩ H ⟨c++[a],t⟩ H:=⟨r.mo,vq _ _,λb z=>by
   rcases z with z|z
   .rcases rE.mp z with z|z
    .exact .inl (.inl z)
    .exact .inl (.inr (by rw[rD.mp z];exact qh))
   .exact .inl (.inr (qa _ z)),λ_ _ e _=>e⟩
  have hl:c.length=S.length:=r.len
  refine⟨c++[a],⟨λb z=>?_,?_,λb hb z=>?_,by simp[hl],λn b cl h1 h2=>?_⟩,.ref ?_,vq _ _,λb z=>?_⟩
  .refine r.mo b ?_
   rcases z with z|z
   .rcases rE.mp z with z|z
    .exact .inl z
    .exact .inr (by rw[rD.mp z];exact qh)
   .exact .inr (qa _ z)
  .rw[wB]
   refine⟨r.nd,by simp,λx hx y hy z=>?_⟩
   simp at hy;subst hy
   exact nc (by rw[<-z];exact hx)
  .rcases rE.mp z with z|z
   .exact r.nt b (qa _ hb) z
   .rw[rD.mp z]at hb;exact nt hb
  .by_cases h:n<S.length
   .rw[qQ (by rw[hl];exact h)]at h1
    rw[qQ h]at h2
    exact(r.cell n b cl h1 h2).step s1 λo e=>e
   .have hm:n=S.length:=by
     have:=(qV.mp h2).1
     simp at this;lia
    subst hm
    rw[rR (by rw[hl];exact qW _)]at h1
    rw[rR (qW _)]at h2
    rw[hl]at h1
    simp at h1 h2
    subst h1 h2
    exact⟨xs,e,rr.step s1⟩
  .rw[<-hl];exact qy
  .rcases rE.mp z with z|z
   .exact .inl z
   .exact .inr (rD.mp z)
end
open Classical in
def Bj(gs:Gd)(t:Tf)(c:Ev)(f:Ev):Wp D->Wp D->En->Sto->qR (Wp D×Sto)
 | [],acc,_,S=>if gOk gs S then Gc (acc,S)else none
 |d::ds,acc,E,S=>if gOk gs S then(if acc.length<sizeLine then(t d E S).bind λE1=>(c E1 S).bind λr=>match r.1 with
   | .bl true=>(f E1 r.2).bind λp=>Bj gs t c f ds (acc++[p.1]) E1 p.2
   | .bl false=>Bj gs t c f ds acc E1 r.2
   |_=>none
  else none)else none
noncomputable def Bk:Ev:=λ_ S=>Gc (.bl true,S)
noncomputable def RO(cap:Wp Nat)(m:Nat)(E:En):En:=cap.map (at? E)++qk m none
def Mr(cf:sD)(cap:Wp Nat)(m:Nat)(s:Sr)(t:Tf)(c:Ev)(f:Ev):Ev:=λE S=>(s E S).bind λr=>(Bj r.1.2 t c f r.1.1 [] (RO cap m E) r.2).bind λq=>fin cf (.own q.1) q.2
noncomputable abbrev CN:=Mr false
noncomputable abbrev Ya:=Mr true
noncomputable def ixC(cap:Wp Nat)(m:Nat):Wp (qR Nat):=cap.map Gc++qk m none
def EnR.cap(r:EnR K M E σ H) cap m:EnR K M (RO cap m E) (sig (ixC cap m) σ) H:=by
 unfold RO sig ixC
 refine⟨by simp,λi d e=>?_⟩
 have h1:=UM e
 rw[qw]at h1
 cases e1:cap[i]? with
 |none=>rw[e1]at h1;cases h1
 |some j=>
  rw[e1]at h1
  have h2:at? E j=Gc d:=by simpa using h1
  obtain⟨v,hv,rd⟩:=r.val j d (at?_some h2)
  refine⟨v,?_,rd⟩
  have hi:i<cap.length:=(qV.mp e1).1
  rw[vF,qQ (by simpa using hi),qw,qw,e1]
  show Gc ((σ[j]?).join)=Gc (Gc v)
  rw[hv]
  rfl
def TV(h:tD K (Mr cf cap m s t c f) σ H Q):ZP (ixC cap m) (tI K s) (tG K t) (tDT K c) (tD K f) σ H Q:=by
 obtain⟨M,E,S,d,S',e,r,st,q⟩:=h
 obtain⟨⟨⟨ds,gs⟩,S1⟩,e1,e⟩:=Af e
 obtain⟨⟨accf,Sf⟩,e3,e⟩:=Af e
 dsimp only at e e3
 refine⟨M,E,S,ds,gs,S1,e1,r,st,λJ H1 M1 g1 st1 it A0 hD=>?_⟩
 obtain⟨st0,gx0,s0⟩:=st1.d8 hD
 have nt:A0∉M1.tmp:=λz=>st1.mo.some (.inr z) hD
 refine⟨λi mm σ' H' ys=>mm=ds.length-i/\∃Ei Si Mi acc,Bj gs t c f (ds.drop i) acc Ei Si=Gc (accf,Sf)/\GrX M1 H1 Mi H'/\Mi.tmp=A0::M1.tmp/\EnR K Mi Ei σ' H'/\StR K Mi Si H'/\H' A0=Gc (.lst ys)/\Ab K Mi H' ys acc,
  ⟨_,rfl,_,S1,_,[],e3,gx0,rfl,((r.step g1.st).step s0).cap cap m,st0,Ax,.nil⟩,λi mm σ2 H2 ys hW=>?_⟩
 obtain⟨rfl,Ei,Si,Mi,acc,ec,gx,ht,r2,st2,hy,ry⟩:=hW
 have sp:Sp1 M1 H1 Mi H2:=⟨st1.mo,gx.pre,λa z=>by
  rcases z with z|z
  .exact(gx.fresh a z).imp .inl id
  .rw[ht]at z
   rcases qY.mp z with z|z
   .subst z;exact .inr hD
   .exact .inl (.inr z),λa o eo no=>gx.keep a o eo λz=>no (.inl z)⟩
 refine⟨hy,?_⟩
 cases ed:ds.drop i with
 |nil=>
  rw[ed]at ec
  unfold Bj at ec
  split at ec
  .rename_i ok
   cases ec
   left
   obtain⟨ci,ti⟩:=Mi
   have ht':ti=A0::M1.tmp:=ht
   subst ht'
   obtain⟨c',st',rd',pr',sub'⟩:=st2.Zr nt hy ry e
   refine⟨it.stop i H2 _ _ sp st2 ok (yw.mp ed),q _ _ ⟨c',M1.tmp⟩ (g1.trans ⟨st1.mo,gx.pre.trans pr',rfl,λa z=>?_,gx.keep,gx.some⟩) st' rd'⟩
   rcases sub' a z with z|z
   .exact gx.fresh a z
   .subst z;exact .inr hD
  .cases ec
 |cons d rest=>
  obtain⟨d1,d2,d3⟩:=O9 ed
  rw[ed]at ec
  unfold Bj at ec
  split at ec
  .rename_i ok
   split at ec
   .rename_i hz
    obtain⟨E3,e4,ec⟩:=Af ec
    obtain⟨⟨w5,S5⟩,e5,ec⟩:=Af ec
    right
    refine⟨it.go i H2 Mi Si sp st2 ok d3,by rw[ry.length];exact hz,λx H3 hyl=>?_⟩
    obtain⟨k3,rx⟩:=it.yld i H2 Mi Si x H3 d sp st2 ok d1 hyl
    have g3:Gr Mi H2 Mi H3:=.grow st2.mo k3
    have st3:=st2.grow k3
    refine⟨Mi,d,Ei,E3,Si,e4,r2.step g3.st,st3,rx,λσ4 r4=>?_⟩
    have hA:A0∈Mi.tmp:=by rw[ht];exact qh
    have hy3:H3 A0=Gc (.lst ys):=k3 _ _ hy
    have ry3:Ab K Mi H3 ys acc:=ry.step g3.st
    have fin:∀{E6:En} {S6:Sto} {M6:Ms} {H6:Hp} {zs:Wp V} {acc6:Wp D},Bj gs t c f rest acc6 E6 S6=Gc (accf,Sf)->GrX M1 H1 M6 H6->M6.tmp=A0::M1.tmp->EnR K M6 E6 σ4 H6->StR K M6 S6 H6->H6 A0=Gc (.lst zs)->Ab K M6 H6 zs acc6->
      ∃m',m'<ds.length-i/\(m'=ds.length-(i+1)/\∃Ei Si Mi acc,Bj gs t c f (ds.drop (i+1)) acc Ei Si=Gc (accf,Sf)/\GrX M1 H1 Mi H6/\Mi.tmp=A0::M1.tmp/\EnR K Mi Ei σ4 H6/\StR K Mi Si H6/\H6 A0=Gc (.lst zs)/\Ab K Mi H6 zs acc):=
     λ{E6 S6 M6 H6 zs acc6} ec g6 t6 r6 st6 h6 y6=>⟨_,yx _ _ d3,rfl,E6,S6,M6,acc6,by rw[d2];exact ec,g6,t6,r6,st6,h6,y6⟩
    dsimp only at ec
    split at ec
    .obtain⟨⟨w7,S7⟩,e7,ec⟩:=Af ec
     refine⟨Mi,E3,Si,true,S5,e5,r4,st3,λH5 M5 g5 st5=>?_⟩
     refine Y3 ?_
     refine⟨M5,E3,S5,w7,S7,e7,r4.step g5.st,st5,λy H7 M7 g7 st7 d7=>?_⟩
     have nA:∀{M6:Ms} {H6:Hp} {S6:Sto},StR K M6 S6 H6->A0∈M6.tmp->A0∉M6.cel:=λr6 h6=>r6.nt A0 h6
     have hA5:A0∈M5.tmp:=by rw[g5.tmp];exact hA
     have hA7:A0∈M7.tmp:=by rw[g7.tmp];exact hA5
     have hy5:H5 A0=Gc (.lst ys):=g5.keep _ _ hy3 (nA st3 hA)
     have hy7:H7 A0=Gc (.lst ys):=g7.keep _ _ hy5 (nA st5 hA5)
     have ry7:Ab K M7 H7 ys acc:=(ry3.step g5.st).step g7.st
     refine⟨hy7,?_⟩
     obtain⟨st8,s8⟩:=st7.Z3 (ys:=ys++[y]) hA7
     have gx7:GrX M1 H1 M7 H7:=((gx.trans g3.x).trans g5.x).trans g7.x
     have gx8:GrX M1 H1 M7 (upd H7 A0 (.lst (ys++[y]))):=⟨gx7.pre,gx7.fresh,λa o eo no=>by
      rw[Ae (λz=>by subst z;rw[hD]at eo;cases eo)]
      exact gx7.keep a o eo no,λa ea=>by
      by_cases h:a=A0
      .subst h;rw[Ax];intro z;cases z
      .rw[Ae h];exact gx7.some a ea⟩
     exact fin ec gx8 (by rw[g7.tmp,g5.tmp];exact ht) (((r4.step g5.st).step g7.st).step s8) st8 Ax ((ry7.append (.cons d7 .nil)).step s8)
    .refine⟨Mi,E3,Si,false,S5,e5,r4,st3,λH5 M5 g5 st5=>?_⟩
     refine Y0 ?_
     exact fin ec ((gx.trans g3.x).trans g5.x) (by rw[g5.tmp];exact ht) (r4.step g5.st) st5 (g5.keep _ _ hy3 (st3.nt A0 hA)) (ry3.step g5.st)
    .cases ec
   .cases ec
  .cases ec
structure DTs(X:Cx)(ifs:Wp sG)(c:Ev):Prop where
 pe:PTs X ifs (tDT X.K c)
def XU(h:PTs X e t)(m:∀σ H Q,t' σ H Q->t σ H Q):PTs X e t':=λpins s σ H Q I q=>h pins s σ H Q I (m _ _ _ q)
def ZT:DTs X [] Bk:=⟨XU aF λσ H Q z=>by
 obtain⟨M,E,S,b,S',e,r,st,q⟩:=z
 cases e
 exact q _ M (.refl st.mo) st⟩
def lE(h:DT X c f):DTs X [c] f:=⟨Zt h.pe⟩
section
variable{X:Cx}{N':Wp Str}{cf:sD}{scope:tu}{elt tg iter:sG}{pos:Pos}{t:Tf}
def Blk(X:Cx)(N':Wp Str)(scope:tu)(tg:sG)(ifs:Wp sG)(elt:sG)(t:Tf)(c f:Ev):Prop:=
 ∀(s:qj) (H:Hp) (fp:Wp qg),DG (Hg X N' scope s H fp) tg t/\DTs (Hg X N' scope s H fp) ifs c/\DE (Hg X N' scope s H fp) elt f
def bS cap m N'(hc:X.calm=true)(S:AQ X.N X.env.scope N' (ixC cap m) scope)(hi:DI X tg iter s)(hb:Blk X N' scope tg ifs elt t c f)(hs:zb (∀x,foldedSetIterable iter X.env x=pure x) xL):DE X (.ListComp elt [⟨tg,iter,ifs,0⟩] scope pos) (Mr cf cap m s t c f):=⟨
 BD (aQ (g:=tG X.K t) (tc:=tDT X.K c) (te:=tD X.K f) hc S hi.pe (λs H fp=>⟨(hb s H fp).1.pe,(hb s H fp).2.1.pe,(hb s H fp).2.2.pe⟩) hs) λ_ _ _ h=>TV h⟩
def bp{py spos:Pos} cap m N'(hc:X.calm=true)(hN:X.N.Nodup)(hi':X.N[i]?=Gc y)(hx:X.env.scope.names.lookup y=Gc .local)(S:AQ X.N X.env.scope N' (ixC cap m) scope)(hi:DI X tg iter s)(hb:Blk X N' scope tg ifs elt t c f)(hsw:zb (swapsWith (.ListComp elt [⟨tg,iter,ifs,0⟩] scope pos) (Gc (.Name y py)) spos.line X.env=pure true) ww)(hs:zb (∀x,foldedSetIterable iter X.env x=pure x) xL):DS X (.Assign [.Name y py] (.ListComp elt [⟨tg,iter,ifs,0⟩] scope pos) spos) (BE i (Mr cf cap m s t c f)):=⟨
 FP (RV (g:=tG X.K t) (tc:=tDT X.K c) (te:=tD X.K f) hc hN hi' hx S hi.pe (λs H fp=>⟨(hb s H fp).1.pe,(hb s H fp).2.1.pe,(hb s H fp).2.2.pe⟩) hsw hs) λDn σ H z=>by
  obtain⟨M,E,S,fl,E',S',e,r,st,q⟩:=z
  obtain⟨⟨d,S1⟩,e1,e⟩:=Hz e
  cases e
  exact TV ⟨M,E,S,d,S1,e1,r,st,λv H1 M1 g1 st1 r1=>q _ _ M1 g1 ((r.step g1.st).put r1) st1⟩⟩
end
noncomputable def MG{α:Type}(xs:Wp α)(lo hi:qR Int):Wp α:=(xs.drop (HT.sIx xs.length 0 lo)).take (HT.sIx xs.length xs.length hi-HT.sIx xs.length 0 lo)
def UE(h:Ab K M H xs ds) lo hi:Ab K M H (YS xs lo hi) (MG ds lo hi):=by
 unfold YS MG
 rw[h.length]
 exact(h.drop _).take _
def Vp{xs:Wp α}(h1:HT.sIx xs.length 0 lo=0)(h2:HT.sIx xs.length xs.length hi=xs.length):MG xs lo hi=xs:=by
 unfold MG
 rw[h1,h2]
 simp
noncomputable def wSl(lo hi:qR Int):Op1:=λw=>match w with
 | .val (.tup ds)=>Gc (.val (.tup (MG ds lo hi)))
 | .val (.str z)=>if z.length<=sizeLine then Gc (.val (.str (Txt.slice z lo hi)))else none
 |w=>(asL w).map λds=>.own (MG ds lo hi)
def nT(K:W1):V->qR Int->qR Int->Hp->VK->Prop:=λx lo hi H Q=>∃M w r,wSl lo hi w=Gc r/\MOk M H/\Sh K M H x w/\∀v H',Nw K M H H' v r->Q v H'
def gk:SlR X (λx lo hi H Q=>∃z,x=.str z/\z.length<=sizeLine/\Q (.str (Txt.slice z lo hi)) H):=by
 intro pins s σ H x v vl vu lo hi sl Q I rx hs pl pu h
 obtain⟨z,rfl,hz,q⟩:=h
 obtain⟨t,rfl⟩:=rx
 have fin:∀t' k,EP X pins σ Q (.str (Txt.slice z lo hi) t') {s with toks:=k}:=λt' k=>⟨.str _,H,I.tok k,⟨t',rfl⟩,q⟩
 cases pl with
 |none=>
  cases pu with
  |none=>exact⟨"str",_,uq.lookup,yK _ _ _,uv (l:=none) (u:=none) (st:=none) hs rfl (wj ⟨qU (yN z _ _) hz,fin⟩)⟩
  |int j u=>exact⟨"str",_,uq.lookup,yK _ _ _,uv (l:=none) (u:=Gc (j,u)) (st:=none) hs rfl (wj ⟨qU (yN z _ _) hz,fin⟩)⟩
 |int i u'=>
  cases pu with
  |none=>exact⟨"str",_,uq.lookup,yK _ _ _,uv (l:=Gc (i,u')) (u:=none) (st:=none) hs rfl (wj ⟨qU (yN z _ _) hz,fin⟩)⟩
  |int j u=>exact⟨"str",_,uq.lookup,yK _ _ _,uv (l:=Gc (i,u')) (u:=Gc (j,u)) (st:=none) hs rfl (wj ⟨qU (yN z _ _) hz,fin⟩)⟩
def kW:SlR X (nT X.K):=by
 intro pins s σ H x v vl vu lo hi sl Q I rx hs pl pu h
 obtain⟨M,w,r,e,mo,sh,q⟩:=h
 unfold wSl at e
 split at e
 .rename_i ds
  cases e
  cases sh with
  |tup hx rr=>
   rename_i a xs
   have hl:=rr.length
   by_cases hw:HT.sIx xs.length 0 lo=0/\HT.sIx xs.length xs.length hi=xs.length
   .refine St.eP pins s σ H _ v vl vu lo hi sl Q I rx hs pl pu ⟨a,xs,rfl,hx,hw.1,hw.2,?_⟩
    have ew:MG ds lo hi=ds:=Vp (by rw[<-hl];exact hw.1) (by rw[<-hl];exact hw.2)
    rw[ew]at q
    exact q _ _ (.same mo (.tup hx rr))
   .exact ff pins s σ H _ v vl vu lo hi sl Q I rx hs pl pu ⟨a,xs,rfl,hx,hw,λp hp=>q _ _ (.tup mo hp (UE rr lo hi))⟩
 .split at e
  .cases e
   cases sh
   exact gk pins s σ H _ v vl vu lo hi sl Q I rx hs pl pu ⟨_,rfl,by assumption,q _ _ (.same mo (.str _))⟩
  .cases e
 .cases e1:asL w with
  |none=>rw[e1]at e;cases e
  |some ds=>
   rw[e1]at e
   cases e
   obtain⟨a,xs,rfl,h1,rr⟩:=sh.l e1
   exact Zc pins s σ H _ v vl vu lo hi sl Q I rx hs pl pu ⟨a,xs,rfl,.of h1,λp hp=>q _ _ (.lst mo hp (UE rr lo hi))⟩
noncomputable def cA:Wv->qR Int
 | .val (.int i)=>Gc i
 |_=>none
noncomputable def MN(l h:sD):OpN:=λws=>match l,h,ws with
 |false,false,[a]=>wSl none none a
 |true,false,[a,b]=>(cA b).bind λi=>wSl (Gc i) none a
 |false,true,[a,b]=>(cA b).bind λi=>wSl none (Gc i) a
 |true,true,[a,b,c]=>(cA b).bind λi=>(cA c).bind λj=>wSl (Gc i) (Gc j) a
 |_,_,_=>none
def Vm(s:Sh K M H v w)(e:cA w=Gc i):v=.int i:=by
 cases w with
 |own ds=>cases e
 |val d=>
  cases d<;>first|(cases e;done)|skip
  cases e;cases s;rfl
section
variable{X:Cx}{e lo hi:sG}{oe ol oh:Ev}{c:sD}{pos p2:Pos}
def lJ(h:DE X e oe)(hl:DE X lo ol):DE X (.Subscript e (.Slice (Gc lo) none none p2) pos) (OI c (MN true false) [oe,ol]):=⟨BD (N5 kW h.pe (NM hl.pe) TB) λσ H Q z=>by
 obtain⟨M0,E,S0,w,S1,e,r,st,q⟩:=z
 have z:tD X.K oe σ H λx H1=>tD X.K ol σ H1 λy H2=>rN X.K (MN true false) [x,y] H2 Q:=Mw (Q:=Q) e r st q
 refine FH z λx H1 z1=>FH z1 λy H2 z2=>?_
 obtain⟨M,ws,w',e1,mo,sh,q1⟩:=z2
 cases sh with
 |cons h1 t=>
  cases t with
  |cons h2 t=>
   cases t
   obtain⟨i,ei,e1⟩:=Af e1
   exact⟨i,Vm h2 ei,M,_,w',e1,mo,h1,q1⟩⟩
def kB(h:DE X e oe)(hh:DE X hi oh):DE X (.Subscript e (.Slice none (Gc hi) none p2) pos) (OI c (MN false true) [oe,oh]):=⟨BD (N5 kW h.pe TB (NM hh.pe)) λσ H Q z=>by
 obtain⟨M0,E,S0,w,S1,e,r,st,q⟩:=z
 have z:tD X.K oe σ H λx H1=>tD X.K oh σ H1 λy H2=>rN X.K (MN false true) [x,y] H2 Q:=Mw (Q:=Q) e r st q
 refine FH z λx H1 z1=>FH z1 λy H2 z2=>?_
 obtain⟨M,ws,w',e1,mo,sh,q1⟩:=z2
 cases sh with
 |cons h1 t=>
  cases t with
  |cons h2 t=>
   cases t
   obtain⟨i,ei,e1⟩:=Af e1
   exact⟨i,Vm h2 ei,M,_,w',e1,mo,h1,q1⟩⟩
def SY(r:BZ K M H v d)(e:cA (dr S d)=Gc i):v=.int i:=by
 cases r<;>first|(cases e;done)|skip
 .cases e;rfl
 .rename_i n h
  unfold dr at e
  dsimp only at e
  split at e<;>cases e
def ke(h:DE X e oe)(hl:DE X lo ol)(hh:DE X hi oh):DE X (.Subscript e (.Slice (Gc lo) (Gc hi) none p2) pos) (OI c (MN true true) [oe,ol,oh]):=⟨BD (N5 kW h.pe (NM hl.pe) (NM hh.pe)) λσ H Q z=>by
 obtain⟨M0,E,S0,w,S1,e,r,st,q⟩:=z
 obtain⟨⟨ds,S2⟩,e1,e⟩:=Af e
 obtain⟨w2,e2,e⟩:=Af e
 obtain⟨⟨d1,Sa⟩,ea,e1⟩:=Af e1
 obtain⟨⟨ds1,Sb⟩,eb,e1⟩:=Hz e1
 cases e1
 obtain⟨⟨d2,Sc⟩,ec,eb⟩:=Af eb
 obtain⟨⟨ds2,Sd⟩,ed,eb⟩:=Hz eb
 cases eb
 obtain⟨⟨d3,Se⟩,ee,ed⟩:=Af ed
 obtain⟨⟨ds3,Sf⟩,ef,ed⟩:=Hz ed
 cases ed
 cases ef
 obtain⟨i,ei,e2⟩:=Af e2
 obtain⟨j,ej,e2⟩:=Af e2
 refine⟨M0,E,S0,d1,Sa,ea,r,st,λx H1 M1 g1 st1 r1=>?_⟩
 refine⟨M1,E,Sa,d2,Sc,ec,r.step g1.st,st1,λy H2 M2 g2 st2 r2=>⟨i,?_,?_⟩⟩
 .exact SY r2 ei
 refine⟨M2,E,Sc,d3,Se,ee,(r.step g1.st).step g2.st,st2,λu H3 M3 g3 st3 r3=>⟨j,?_,?_⟩⟩
 .exact SY r3 ej
 refine⟨M3,_,w2,e2,st3.mo,bX st3 ((r1.step g2.st).step g3.st),λv H4 n=>?_⟩
 obtain⟨M4,g4,st4,d4⟩:=n.fin st3 e
 exact q v H4 M4 (((g1.trans g2).trans g3).trans g4) st4 d4⟩
noncomputable def Ru(oa ob oc:Ev):Ev:=λE S=>(evs [oa,ob] E S).bind λr=>match r.1 with
 | [.int i,.int j]=>if i<=j then(oc E r.2).bind λp=>match p.1 with
     | .int k=>Gc (.bl (decide (j<=k)),p.2)
     |_=>none
   else Gc (.bl false,r.2)
 |_=>none
def js(h:tD K (Ru oa ob oc) σ H Q):YT (rI0 λi j=>.bl (decide (i<=j))) (rI0 λi j=>.bl (decide (i<=j))) (tD K oa) (tD K ob) (tD K oc) σ H Q:=by
 obtain⟨M,E,S,d,S',e,r,st,q⟩:=h
 obtain⟨⟨ws,S1⟩,e1,e⟩:=Af e
 have zz:=FW (K:=K) (σ:=σ) (fs:=[oa,ob]) (Q:=λvs H2=>∃i j:Int,vs=[V.int i,V.int j]/\rI0 (λi j=>.bl (decide (i<=j))) (.int i) (.int j) H2 λz H3=>∃k,z=.bl k/\(if k=true then tD K oc σ H3 λw' H4=>rI0 (λi j=>.bl (decide (i<=j))) (.int j) w' H4 Q else Q (.bl false) H3)) e1 r st (λvs H1 M1 g1 st1 r1=>by
  dsimp only at e
  split at e
  .rename_i i j
   have hv:=TY r1
   refine⟨i,j,hv,i,j,rfl,rfl,_,rfl,?_⟩
   by_cases hij:i<=j
   .rw[rB hij]at e
    rw[rB (by simpa using hij)]
    obtain⟨⟨w2,S2⟩,e2,e⟩:=Af e
    dsimp only at e
    split at e
    .rename_i k
     cases e
     refine⟨M1,E,S1,_,_,e2,r.step g1.st,st1,λv H2 M2 g2 st2 r2=>?_⟩
     cases r2
     exact⟨j,k,rfl,rfl,q _ _ M2 (g1.trans g2) st2 (.bl _)⟩
    .cases e
   .rw[rA hij]at e
    cases e
    rw[rA (by simpa using hij)]
    exact q _ _ M1 g1 st1 (.bl _)
  .cases e)
 refine FH (show tD K oa σ H _ from zz) λx H1 z1=>FH z1 λy H2 z2=>?_
 obtain⟨i,j,ev,z2⟩:=z2
 cases ev
 exact z2
def Zd{a b c:sG}(ha:DE X a oa)(hb:DE X b ob)(hc:DE X c oc)(hm:zb (lastMarks [.LtE,.LtE] [b,c]=false) wr):DE X (.Compare a [.LtE,.LtE] [b,c] pos) (Ru oa ob oc):=⟨
 BD (W8 Y6 Y6 ha.pe hb.pe hc.pe hm) λ_ _ _ h=>js h⟩
structure Pl(K:W1)(mg:Str->qR qX)(x:Str)(d:D):Prop where
 ex:∃v u,mg x=Gc u/\RelV v u/\∀M H,BZ K M H v d
def Zn(c:Pl X.K X.mg x d)(hg:Gl X x)(hd:zb ((x==("__debug__":Str))=false) xz):DE X (.Name x pos) (eC d):=⟨by
 obtain⟨v,u,h1,h2,h3⟩:=c.ex
 exact BD (OC hg h1 h2 hd) λσ H Q z=>by
  obtain⟨M0,E,S0,w,S1,e,rr,st,q⟩:=z
  cases e
  exact q _ _ M0 (.refl st.mo) st (h3 _ _)⟩
def ag(hg:Gl X x)(hm:X.mg x=none)(hv:bootBuiltins x=Gc (.type T))(hn:zb (x≠ "__name__") xz)(hd:zb ((x==("__debug__":Str))=false) xz):DE X (.Name x pos) (eC (.ty T)):=
 Pf (aZ (v:=.ty T) hg hm hv rfl hn hd) λ_ _ _=>.ty T
structure gY(K:W1)(w:tK)(mg:Str->qR qX)(x:Str)(tbl:Wp (Str×D)):Prop where
 ex:∃a kvs,mg x=Gc (.ref a)/\TopD K w a kvs/\∀k,(tbl.lookup k=none->kvs.lookup k=none)/\∀d,tbl.lookup k=Gc d->∃v,kvs.lookup k=Gc v/\∀M H,BZ K M H v d
noncomputable def dE(tbl:Wp (Str×D)):Op1
 | .val (.str k)=>(tbl.lookup k).map .val
 |_=>none
noncomputable def M8(neg:sD)(tbl:Wp (Str×D)):Op1
 | .val (.str k)=>Gc (.val (.bl (if neg then !(tbl.lookup k).isSome else(tbl.lookup k).isSome)))
 |_=>none
def eE{p:Pos}(c:gY X.K X.w X.mg x tbl)(hg:Gl X x)(h:DE X i o)(hs:zb (OF i) wp)(hd:zb ((x==("__debug__":Str))=false) xz):DE X (.Subscript (.Name x p) i pos) (eOp (o1 (dE tbl)) [o]):=⟨by
 obtain⟨a,kvs,h1,h2,h3⟩:=c.ex
 refine BD (aV YW (OC (v:=.ref a) hg h1 rfl hd) h.pe hs) λσ H Q z=>?_
 refine FH (Ue z) λy H1 z1=>?_
 obtain⟨M,w,r,e,mo,sh,q⟩:=z1
 unfold dE at e
 split at e
 .rename_i k
  cases e1:tbl.lookup k with
  |none=>rw[e1]at e;cases e
  |some d=>
   rw[e1]at e
   cases e
   cases sh
   obtain⟨v,q1,q2⟩:=(h3 k).2 d e1
   exact⟨a,kvs,k,v,rfl,rfl,h2,q1,q _ _ (.same mo (q2 _ _))⟩
 .cases e⟩
def cY{x:Str}(h2:TopD X.K X.w a kvs)(h3:∀k,(tbl.lookup k=none->kvs.lookup k=none)/\∀d,tbl.lookup k=Gc d->∃v,kvs.lookup k=Gc v/\∀M H,BZ X.K M H v d)(z:rUn X.K (M8 neg tbl) y H Q):YF X.K X.w neg y (.ref a) H Q:=by
 obtain⟨M,w,r,e,mo,sh,q⟩:=z
 unfold M8 at e
 split at e
 .rename_i k
  cases e
  cases sh
  refine⟨a,kvs,k,rfl,rfl,h2,?_⟩
  have:(kvs.lookup k).isSome=(tbl.lookup k).isSome:=by
   cases e1:tbl.lookup k with
   |none=>rw[(h3 k).1 e1];rfl
   |some d=>obtain⟨v,q1,_⟩:=(h3 k).2 d e1;rw[q1];rfl
  rw[this]
  exact q _ _ (.same mo (.bl _))
 .cases e
def P1(c:gY X.K X.w X.mg x tbl)(hg:Gl X x)(h:DE X i o)(hd:zb ((x==("__debug__":Str))=false) xz):DT X (.Compare i [.NotIn] [.Name x p] pos) (eOp (o1 (M8 true tbl)) [o]):=by
 obtain⟨a,kvs,h1,h2,h3⟩:=c.ex
 exact XH (VW OP h.pe (OC (v:=.ref a) hg h1 rfl hd) rfl) λσ H Q z=>FH (Ue z) λy H1 z1=>cY (x:=x) h2 h3 z1
end
noncomputable def N9:Nat->Wp D->Wp D
 |_,[]=>[]
 |k,d::ds=>.tup [.int k,d]::N9 (k+1) ds
theorem Ks:∀{ds} {k i:Nat},(N9 k ds)[i]?=(ds[i]?).map λd=>.tup [.int ((k+i:Nat):Int),d]
 | [],k,i=>by simp[N9]
 |d::ds,k,0=>by simp[N9]
 |d::ds,k,i+1=>by
  simp only[N9,List.getElem?_cons_succ]
  rw[Ks,show k+1+i=k+(i+1) by lia]
theorem Nk:∀{ds} {k},(N9 k ds).length=ds.length
 | [],k=>rfl
 |d::ds,k=>by simp[N9,Nk (ds:=ds)]
def SqF.sqB{K:W1}{M:Ms}{H:Hp}{gs:Gd}{k:sD}{a:qg}{ds:Wp D}(h:SqF K M H gs k a ds){H2:Hp}{M2:Ms}(g:Sp1 M H M2 H2)(st:StR K M2 S2 H2)(ok:gOk gs S2):∃xs,SqB K H2 k a xs/\Ab K M2 H2 xs ds:=by
 obtain⟨xs,h1,h2⟩:=h.keep H2 M2 S2 g st ok
 refine⟨xs,?_,h2⟩
 cases k with
 |true=>exact h1
 |false=>exact h1
theorem dO(h:SqF K M H gs k a ds):eT K M H gs (N9 0 ds) (ItE K k a) where
 go:=λi H2 M2 S2 g st ok hi=>by
  rw[Nk]at hi
  obtain⟨xs,h1,h2⟩:=h.sqB g st ok
  obtain⟨x,hx⟩:=h2.get' hi
  exact⟨xs,x,h1,hx⟩
 stop:=λi H2 M2 S2 g st ok hi=>by
  rw[Nk]at hi
  obtain⟨xs,h1,h2⟩:=h.sqB g st ok
  exact⟨xs,h1,by have:=h2.length;lia⟩
 yld:=λi H2 M2 S2 x H3 d g st ok hd hy=>by
  obtain⟨xs,h1,h2⟩:=h.sqB g st ok
  obtain⟨p,y,hp,rfl,hy,rfl⟩:=hy
  have hx:=hy xs h1
  rw[Ks]at hd
  obtain⟨d0,e,hd⟩:=Hz hd
  subst hd
  obtain⟨x',h3,h4⟩:=h2.get e
  rw[hx]at h3;cases h3
  have k3:=Hq (o:=.tup [.int i,y]) hp
  refine⟨k3,.tup (.of Ax) (.cons ?_ (.cons (h4.step (Gr.grow st.mo k3).st) .nil))⟩
  rw[Nat.zero_add]
  exact .int _
noncomputable def Zv(f:Ev):Sr:=λE S=>(f E S).bind λr=>(sqD r.2 r.1).map λp=>((N9 0 p.1,p.2),r.2)
def gX(hg:Gl X "enumerate")(hm:X.mg "enumerate"=none)(ha:DE X a f)(hs:zb (qc [a] X.env=[(false,eval a X.env)]) ww):DI X (.Tuple elts k tp) (.Call (.Name "enumerate" p) [a] [] pos) (Zv f):=⟨
 Na (Wa hg hm (Nb ha.pe UL (by rw[hs];rfl)) hs) λσ H R z=>by
  obtain⟨M,E,S,ds,gs,S',e,r,st,q⟩:=z
  obtain⟨⟨d,S1⟩,e1,e⟩:=Af e
  obtain⟨⟨ds',gs'⟩,e2,e⟩:=Hz e
  cases e
  refine⟨M,E,S,d,S1,e1,r,st,λv H1 M1 g1 st1 r1=>?_⟩
  obtain⟨k,a,rfl,sq⟩:=RC st1 r1 e2
  obtain⟨xs,hs,_⟩:=sq.sqB (Gr.refl st1.mo).st st1 (Nm e2)
  exact⟨k,a,rfl,⟨xs,hs⟩,q _ _ M1 g1 st1 (dO sq)⟩⟩
noncomputable def MF(ds es:Wp D):Wp D:=(ds.zip es).map λp=>.tup [p.1,p.2]
def Wj{i:Nat}(h:(MF ds es)[i]?=Gc d):∃x y,ds[i]?=Gc x/\es[i]?=Gc y/\d=.tup [x,y]:=by
 unfold MF at h
 simp only[qw,uQ]at h
 obtain⟨⟨x,y⟩,h1,h2⟩:=h
 rw[vZ]at h1
 exact⟨x,y,h1.1,h1.2,h2.symm⟩
def K2:(MF ds es).length=min ds.length es.length:=by simp[MF]
def SqF.more(h:SqF K M H gs k a ds)(s:∀g∈gs,g∈gs'):SqF K M H gs' k a ds:=⟨λH2 M2 S2 g st ok=>h.keep H2 M2 S2 g st λx hx=>ok x (s x hx)⟩
theorem gE(h:SqF K M H gs k a ds)(h':SqF K M H gs m b es):eT K M H gs (MF ds es) (Itz K k a m b) where
 go:=λi H2 M2 S2 g st ok hi=>by
  rw[K2]at hi
  obtain⟨xs,h1,r⟩:=h.sqB g st ok
  obtain⟨ys,h2,r'⟩:=h'.sqB g st ok
  obtain⟨x,hx⟩:=r.get' (show i<ds.length by lia)
  obtain⟨y,hy⟩:=r'.get' (show i<es.length by lia)
  exact⟨xs,ys,x,y,h1,h2,hx,hy⟩
 stop:=λi H2 M2 S2 g st ok hi=>by
  rw[K2]at hi
  obtain⟨xs,h1,r⟩:=h.sqB g st ok
  obtain⟨ys,h2,r'⟩:=h'.sqB g st ok
  have:=r.length
  have:=r'.length
  exact⟨xs,ys,h1,h2,by lia⟩
 yld:=λi H2 M2 S2 x H3 d g st ok hd hy=>by
  obtain⟨xs,h1,r⟩:=h.sqB g st ok
  obtain⟨ys,h2,r'⟩:=h'.sqB g st ok
  obtain⟨p,x1,y1,hp,rfl,q1,q2,rfl⟩:=hy
  obtain⟨d1,d2,e1,e2,rfl⟩:=Wj hd
  have hx:=q1 xs h1
  have hy:=q2 ys h2
  obtain⟨x',h3,h4⟩:=r.get e1
  obtain⟨y',h5,h6⟩:=r'.get e2
  rw[hx]at h3;cases h3
  rw[hy]at h5;cases h5
  have k3:=Hq (o:=.tup [x1,y1]) hp
  exact⟨k3,.tup (.of Ax) (.cons (h4.step (Gr.grow st.mo k3).st) (.cons (h6.step (Gr.grow st.mo k3).st) .nil))⟩
noncomputable def Xa(f g:Ev):Sr:=λE S=>(evs [f,g] E S).bind λr=>match r.1 with
 | [d,e]=>(sqD r.2 d).bind λp=>(sqD r.2 e).map λq=>((MF p.1 q.1,p.2++q.2),r.2)
 |_=>none
def mD{p pos tp:Pos}{elts:Wp sG}{k:Nat}(hg:Gl X "zip")(hm:X.mg "zip"=none)(ha:DE X a f)(hb:DE X b g)(hs:zb (qc [a,b] X.env=[(false,eval a X.env),(false,eval b X.env)]) ww)(hs2:zb (qc [b] X.env=[(false,eval b X.env)]) ww):DI X (.Tuple elts k tp) (.Call (.Name "zip" p) [a,b] [] pos) (Xa f g):=⟨
 Na (gO hg hm (AE ha (AE hb AI hs2) (by rw[hs,hs2])).pe hs hs2) λσ H R z=>by
  obtain⟨M,E,S,ds,gs,S',e,r,st,q⟩:=z
  obtain⟨⟨ws,S1⟩,e1,e⟩:=Af e
  refine FW (fs:=[f,g]) e1 r st λvs H1 M1 g1 st1 r1=>?_
  dsimp only at e
  split at e
  .obtain⟨⟨ds1,gs1⟩,eu,e⟩:=Af e
   obtain⟨⟨ds2,gs2⟩,ee,e⟩:=Hz e
   cases e
   cases r1 with
   |cons h1 t=>
    cases t with
    |cons h2 t=>
     cases t
     obtain⟨k1,a1,rfl,s1⟩:=RC st1 h1 eu
     obtain⟨k2,a2,rfl,s2⟩:=RC st1 h2 ee
     obtain⟨xs,hxs,_⟩:=s1.sqB (Gr.refl st1.mo).st st1 (Nm eu)
     obtain⟨ys,hys,_⟩:=s2.sqB (Gr.refl st1.mo).st st1 (Nm ee)
     exact⟨_,_,_,_,rfl,⟨_,hxs⟩,⟨_,hys⟩,q _ _ M1 g1 st1 (gE (s1.more λx hx=>wW _ hx) (s2.more λx hx=>rf _ hx))⟩
  .cases e⟩
noncomputable def intD:D->qR Int
 | .int i=>Gc i
 |_=>none
noncomputable def Kn(ds:Wp D):qR (Wp Int):=ds.mapM intD
theorem LF:∀{vs} {ds} {ns},Ab K M H vs ds->Kn ds=Gc ns->vs=ns.map V.int
 |_,_,ns,.nil,e=>by cases e;rfl
 |_,_,ns,.cons (d:=d) (ds:=ds) h t,e=>by
  unfold Kn at e
  rw[xT]at e
  cases e1:intD d with
  |none=>rw[e1]at e;cases e
  |some b=>
   rw[e1]at e
   cases e2:ds.mapM intD with
   |none=>rw[e2]at e;cases e
   |some cs=>
    rw[e2]at e
    cases e
    have hd:d=.int b:=by
     cases d<;>first|(cases e1;done)|skip
     cases e1;rfl
    subst hd
    cases h
    rw[qq,<-LF t e2]
def Uc(hc:X.calm=true):EJ X (.builtin "sum") (λxs H Q=>∃(p:qg) (ns:Wp Int),xs=[.ref p]/\SqL X.K H p (ns.map V.int)/\Q (.int ns.sum) H):=by
 intro pins s σ H xs us Q I r h
 obtain⟨p,ns,rfl,hp,q⟩:=h
 obtain⟨u,rfl,ru⟩:=r.one
 cases (show u=q9 p from ru)
 obtain⟨its,rv,pl,hz⟩:=I.list hp
 have hd:X.A.in1.handled=none:=I.ok.hd hc
 refine call_sum_walkG (tS pl.isList ?_)
 have hlen:ns.length=its.length:=by have:=rv.length;simpa using this
 have hpl:=pl.isList
 have hlt:p<s.heap.objs.size:=by
  obtain⟨o,ho,_⟩:=hpl
  exact ql ho
 refine⟨s.heap.objs.size,_,_,its.length,_,_,λi=>ns.getD i 0,rfl,St.NH (vs:=its) hd (rK hlt),⟨⟨_,qt _ rfl,rfl,rfl⟩,?_⟩,?_,?_,?_⟩
 .obtain⟨o,ho,r⟩:=hpl
  exact⟨o,qO _ ho,r⟩
 .intro b hb
  rw[sT]
  simp at hb
  rcases hb with h|h
  .rw[h];exact xv _
  .rw[h];exact Nat.lt_succ_of_lt hlt
 .intro i v hv
  have hi:i<its.length:=(qV.mp hv).1
  have hb:(ns.map V.int)[i]?=Gc (.int (ns.getD i 0)):=by
   rw[qw,qZ (by lia)]
   simp[qu,qZ (show i<ns.length by lia)]
  obtain⟨u,hu,ru⟩:=rv.get hb
  rw[hv]at hu
  cases hu
  exact ru
 .intro h' tk t' hk
  have e:preSum (λi=>ns.getD i 0) its.length=ns.sum:=by
   rw[<-hlen,St.Lh (qW _),v9 (qW _)]
  rw[e]
  exact⟨.int _,H,I.kept (t':=tk) λb o eb=>hk b o (by simp;exact rK (ql eb)) (qO _ eb),⟨_,rfl⟩,q⟩
noncomputable def W3:Op1:=λw=>(asL w).bind λds=>(Kn ds).map λns=>.val (.int ns.sum)
def eF(hc:X.calm=true):EJ X (.builtin "sum") (rN X.K (o1 W3)):=by
 intro pins s σ H xs us Q I r h
 obtain⟨M,ws,w,e,mo,sh,q⟩:=h
 obtain⟨v,w1,rfl,rfl,s1,e1⟩:=IT sh e
 obtain⟨ds,e2,e1⟩:=Af e1
 obtain⟨ns,e3,e1⟩:=Hz e1
 cases e1
 obtain⟨a,ys,rfl,h3,h4⟩:=s1.l e2
 exact Uc hc pins s σ H _ us Q I r ⟨a,ns,rfl,by rw[<-LF h4 e3];exact .of h3,q _ _ (.same mo (.int _))⟩
noncomputable def MS(ns:Wp Int):Wp Int:=ns.mergeSort (λa b=>decide (a<=b))
def MU ns:(MS ns).Perm ns:=List.mergeSort_perm _ _
def SK ns:(MS ns).Pairwise (· <= ·):=by
 have:=List.pairwise_mergeSort (le:=λ(a b:Int)=>decide (a<=b)) (λa b c h1 h2=>by simp at *; lia) (λa b=>by simp;lia) ns
 unfold MS
 exact this.imp λh=>qi h
def RZ(p:ms.Perm ns)(s:ms.Pairwise (· <= ·)):ms=MS ns:=PySem.W.ksm_same (p.trans (MU ns).symm) s (SK ns)
theorem intsAre_of:∀{ns} {its},Vals (ns.map V.int) its->ve its ns
 | [],_,.nil=>.nil
 |n::ns,_,.cons h t=>by
  obtain⟨tk,rfl⟩:=h
  exact .cons n tk (intsAre_of t)
theorem KO:∀{ns} {its},ve its ns->Vals (ns.map V.int) its
 |_,_,.nil=>.nil
 |_,_,.cons n tk t=>.cons ⟨tk,rfl⟩ (KO t)
def PY:EJ X (.builtin "sorted") (λxs H Q=>∃p ns,xs=[.ref p]/\SqL X.K H p (ns.map V.int)/\ns.length<64/\∀q,H q=none->Q (.ref q) (upd H q (.lst ((MS ns).map V.int)))):=by
 intro pins s σ H xs us Q I r h
 obtain⟨p,ns,rfl,hp,h64,q⟩:=h
 obtain⟨u,rfl,ru⟩:=r.one
 cases (show u=q9 p from ru)
 obtain⟨its,rv,pl,hz⟩:=I.list hp
 have hlen:ns.length=its.length:=by have:=rv.length;simpa using this
 refine PyProof.Rows.sorted_ints pl.isList (intsAre_of rv) (by lia) λout ns' a1 a2 a3=>?_
 obtain⟨e,he⟩:=PyProof.Rows.sortedAll_at s.heap its out
 have hn:H (s.heap.objs.size+1)=none:=I.hok.fresh (yo _)
 have hs:=RZ a2 a3
 subst hs
 refine⟨.ref _,_,I.laid (a:=s.heap.objs.size+1) (o:=.lst ((MS ns).map V.int)) (t':=s.toks) (λ_ _=>PyProof.Rows.sortedAll_old) (yo _) ?_,rfl,q _ hn⟩
 refine⟨?_,out.toList,e,KO a1,?_⟩
 .rw[rG,(MU ns).length_eq]
  have:(64:Nat)<=sizeLine:=by decide
  lia
 .rw[Array.toArray_toList];exact he
noncomputable def NT:Op1:=λw=>(asL w).bind λds=>(Kn ds).bind λns=>if ns.length<64 then Gc (.own ((MS ns).map D.int))else none
def Yv:EJ X (.builtin "sorted") (rN X.K (o1 NT)):=by
 intro pins s σ H xs us Q I r h
 obtain⟨M,ws,w,e,mo,sh,q⟩:=h
 obtain⟨v,w1,rfl,rfl,s1,e1⟩:=IT sh e
 obtain⟨ds,e2,e1⟩:=Af e1
 obtain⟨ns,e3,e1⟩:=Af e1
 split at e1
 .cases e1
  obtain⟨a,ys,rfl,h3,h4⟩:=s1.l e2
  exact PY pins s σ H _ us Q I r ⟨a,ns,rfl,by rw[<-LF h4 e3];exact .of h3,by assumption,λp hp=>q _ _ (.lst mo hp Kx)⟩
 .cases e1
def N7 l items n b items2 n2 dd sl(hs0:¬(!items.isEmpty && tE (items.size+items2.size))=true)(hs1:items.size<=sizeLine)(hs2:items.size+items2.size<=sizeLine+1):Meets (w9.«list.extend» ⟨[.ref l,.ref b],[]⟩) (λ_ R s=>s.heap.get? l=Gc {cls:=.type "list",dict:=none,data:=.seq items n,slots:= #[]}/\s.heap.get? b=Gc {cls:=.type "tuple",dict:=dd,data:=.seq items2 n2,slots:=sl}/\R (.ok (.ret rJ)) {s with heap:=s.heap.update l (xP λx=>x++items2),toks:=s.toks}):=
 .of_wp λprog w A R s h=>by
  obtain⟨hp,g,d,tk,os⟩:=s;obtain⟨hl,hb,h⟩:=h;have f1:=AutoSeq1.idx_int;have f2:=AutoSeq1.sub_tuple_tuple;have f3:=AutoSeq1.sub_list_list;have f4:=AutoSeq1.sub_tuple_list;have f5:=AutoSeq1.sub_list_tuple
  have hz':(items++items2).size<=sizeLine+1:=by rw[Array.size_append];exact hs2
  wp_walk using(wpAny_updateSeq hl rfl (hz:=hs1) (_hz':=hz')),qz hl,qz hb;exact⟨_,rfl,h⟩
def Xk(K:W1):V->Wp V->Hp->VK->Prop:=λx vs H Q=>∃l b xs zs,x=.ref l/\vs=[.ref b]/\H l=Gc (.lst xs)/\SqT K H b zs/\xs.length+zs.length<=sizeLine/\Q .non (upd H l (.lst (xs++zs)))
def SE:MtM X "list.extend" (Xk X.K):=by
 intro pins s σ H x vs v us Q I rx rv h
 obtain⟨l,b,xs,zs,rfl,rfl,hH,hB,hz,q⟩:=h
 cases rx
 obtain⟨u,rfl,ru⟩:=rv.one
 cases ru
 obtain⟨z,its,n,r,hl,e⟩:=I.WB hH
 obtain⟨its2,r2,⟨⟨c,dd,dt,sl⟩,e2,hc,n2,hd⟩,z2⟩:=I.tuple hB
 simp only at hc hd
 subst hc hd
 have hl2:=r2.length
 have hsz:its.toArray.size+its2.toArray.size<=sizeLine:=by rw[qf,qf];lia
 have hlong:¬(!its.toArray.isEmpty && tE (its.toArray.size+its2.toArray.size))=true:=by
  rw[Nx hsz,Bool.and_false]
  exact rg
 refine vM zT ⟨_,e,rfl⟩ zF (yr _ _)
  (N7 l its.toArray n b its2.toArray n2 dd sl hlong (by rw[qf];lia) (by lia)) ⟨e,e2,?_⟩
 refine⟨.non,_,I.cw (its':=its++its2) hH e (by simp) (r.append r2) ?_,rfl,q⟩
 rw[sA]
 lia
noncomputable def jI:Mo
 |S,ds,[x]=>match dr S x with
  | .val (.tup zs)=>if ds.length+zs.length<=sizeLine then Gc (.non,ds++zs)else none
  |w=>(asL w).bind λzs=>if ds.length+zs.length<=sizeLine then Gc (.non,ds++zs)else none
 |_,_,_=>none
def kx:MtR X "list.extend" (cD X.K jI):=by
 intro pins s σ H x vs v us Q I rx rv h
 obtain⟨M,S,n,a,ds,args,d,ds',rfl,hc,hn,e,st,ra,q⟩:=h
 unfold jI at e
 split at e
 .obtain⟨xs,h1,h2⟩:=st.cell n a _ hc hn
  obtain⟨y,rfl,ry⟩:=RG ra
  have sy:=bX st ry
  split at e
  .rename_i ed
   rw[ed]at sy
   split at e
   .rename_i hz
    cases e
    cases sy with
    |tup hx rr=>
     obtain⟨st2,g2⟩:=st.chg hc hn (h2.append rr)
     exact SE pins s σ H _ _ v us Q I rx rv ⟨a,_,xs,_,rfl,rfl,h1,hx,by rw[h2.length,rr.length];exact hz,q _ _ st2 g2 .non⟩
   .cases e
  .obtain⟨zs,e1,e⟩:=Af e
   split at e
   .rename_i hz
    cases e
    obtain⟨b,ys,rfl,h3,h4⟩:=sy.l e1
    obtain⟨st2,g2⟩:=st.chg hc hn (h2.append h4)
    exact Ub pins s σ H _ _ v us Q I rx rv ⟨a,b,xs,ys,rfl,rfl,h1,h3,by rw[h2.length,h4.length];exact hz,q _ _ st2 g2 .non⟩
   .cases e
 .cases e
noncomputable def QN:Mo
 |_,ds,[.int i]=>if(decide (-(2^63)<=i) && decide (i<2^63))=true then(seqIndex? i ds.length).bind λk=>(ds[k]?).map λd=>(d,ds.eraseIdx k)else none
 |_,ds,[]=>(ds[ds.length-1]?).map λd=>(d,ds.dropLast)
 |_,_,_=>none
theorem Ab.erase:∀{v} {d} k,Ab K M H v d->Ab K M H (v.eraseIdx k) (d.eraseIdx k)
 |_,_,_,.nil=>.nil
 |_,_,0,.cons _ t=>t
 |_,_,k+1,.cons h t=>.cons h (Ab.erase k t)
theorem Ab.dropLast:∀{v} {d},Ab K M H v d->Ab K M H v.dropLast d.dropLast
 |_,_,.nil=>.nil
 |_,_,.cons _ .nil=>.nil
 |_,_,.cons h (.cons h2 t)=>.cons h (Ab.dropLast (.cons h2 t))
def QQ:MtR X "list.pop" (cD X.K QN):=by
 intro pins s σ H x vs v us Q I rx rv h
 obtain⟨M,S,n,a,ds,args,d,ds',rfl,hc,hn,e,st,ra,q⟩:=h
 unfold QN at e
 obtain⟨xs,h1,h2⟩:=st.cell n a _ hc hn
 split at e
 .rename_i i
  split at e
  .rename_i hk
   rw[qe]at hk
   obtain⟨k,e1,e⟩:=Af e
   obtain⟨d0,e2,e⟩:=Hz e
   cases e
   cases NW ra
   obtain⟨y,h3,h4⟩:=h2.get e2
   obtain⟨st2,g2⟩:=st.chg hc hn (h2.erase k)
   exact X1 pins s σ H _ _ v us Q I rx rv ⟨a,xs,i,k,y,rfl,rfl,h1,qi hk.1,qi hk.2,by rw[h2.length];exact e1,h3,q _ _ st2 g2 (h4.step g2.st)⟩
  .cases e
 .obtain⟨d0,e2,e⟩:=Hz e
  cases e
  cases ra
  obtain⟨y,h3,h4⟩:=h2.get e2
  obtain⟨st2,g2⟩:=st.chg hc hn h2.dropLast
  exact dm pins s σ H _ _ v us Q I rx rv ⟨a,xs,y,rfl,rfl,h1,by rw[h2.length];exact h3,q _ _ st2 g2 (h4.step g2.st)⟩
 .cases e
def WI:OpR X (binaryOp .Mult) (λx y H Q=>∃a xs k,x=.ref a/\y=.int k/\SqT X.K H a xs/\xs≠[]/\k<=0/\ -(2^63)<=k/\∀p,H p=none->Q (.ref p) (upd H p (.tup []))):=by
 intro pins s σ H x y v u Q I rx ry h
 obtain⟨a,xs,k,rfl,rfl,hx,hne,hk,hk2,q2⟩:=h
 cases rx
 obtain⟨t,rfl⟩:=ry
 obtain⟨its,r,⟨⟨c,dd,data,sl⟩,ho,hc,n,hd⟩,hzz⟩:=I.tuple hx
 simp only at hc hd
 subst hc hd
 have hl:=r.length
 have hpos:0<xs.length:=zH.mpr hne
 refine vY (T:="tuple") (U:="int") (by decide) ⟨_,ho,rfl⟩ (λs'=>wQ s' k t) G7 yZ vE Ki yA.lookup
  (vM vE (wQ s k t) yB (xh _ _) (IB k t a its.toArray n dd sl) ⟨ho,rfl,⟨_,ho,rfl⟩,?_⟩)
 refine tY wR ⟨_,ho,rfl⟩ AAC ?_ (zV _ _)
 unfold w9.«tuple.__mul__»
 wp_walk using qz ho
 rw[rA (show¬(decide (k< -2^63)||decide (k≥2^63))=true by
  rw[sJ]
  rintro (z|z)
  .have:=qi z;lia
  .have:=qi z;lia)]
 wp_walk using qz ho
 have hemp:its.toArray.isEmpty=false:=by
  cases its with
  |nil=>rw[vk]at hl;lia
  |cons b bs=>rfl
 rw[rA (show¬(its.toArray.isEmpty||k==1)=true by
  rw[hemp,Bool.false_or]
  intro z
  have:=eq_of_beq z
  lia)]
 wp_walk using qz ho
 all_goals first
  |exact⟨_,rfl,.ref _,_,I.laid (o:=.tup []) (t':=s.toks) (λb ob q=>qO _ q) (qW _) ⟨tP _,[],.nil,va _ _⟩,rfl,q2 _ (I.hok.fresh (qW _))⟩
  |(exfalso
    rename_i hh
    exact hh (by rw[sJ];exact .inl (si hk)))
noncomputable def CL:Op2:=λa b=>match asT a with
 |some xs=>match asI b with
  |some k=>if(!xs.isEmpty && decide (k<=0) && decide (-(2^63)<=k))=true then Gc (.val (.tup []))else fm (.val (.tup xs)) (.val (.int k))
  |none=>fm a b
 |none=>fm a b
def jC:OpR X (binaryOp .Mult) (rOp X.K CL):=by
 intro pins s σ H x y v u Q I rx ry h
 obtain⟨M,w1,w2,r,e,mo,s1,s2,q⟩:=h
 have no:fm w1 w2=Gc r->wpAny (model X.prog X.w) X.A (binaryOp .Mult v u) (EP X pins σ Q) X.xe s:=λe=>ZW pins s σ H x y v u Q I rx ry ⟨M,_,_,r,e,mo,s1,s2,q⟩
 unfold CL at e
 cases e1:asT w1 with
 |none=>rw[e1]at e;exact no e
 |some xs=>
  rw[e1]at e
  dsimp only at e
  cases e2:asI w2 with
  |none=>rw[e2]at e;exact no e
  |some k=>
   rw[e2]at e
   obtain rfl:=Q4 e1
   obtain rfl:=PN e2
   by_cases hk:(!xs.isEmpty && decide (k<=0) && decide (-(2^63)<=k))=true
   .dsimp only at e
    rw[rB hk]at e
    rw[qe,qe]at hk
    cases e
    obtain rfl:=BZ.iv s2
    obtain⟨a,ys,rfl,h1,r1⟩:=BZ.iv s1
    have hne:ys≠[]:=λzz=>by
     subst zz
     cases r1
     exact absurd hk.1.1 (by decide)
    exact WI pins s σ H _ _ v u Q I rx ry ⟨a,ys,k,rfl,rfl,h1,hne,qi hk.1.2,qi hk.2,λp hp=>q _ _ (.tup mo hp .nil)⟩
   .dsimp only at e
    rw[rA hk]at e
    exact no e
def J9(hr:Cb k A):A.units+100<cLine:=by have:=hr.un;lia
noncomputable def scE:Nat->sG->Wp tu
 |0,_=>[]
 |n+1,.ListComp e gs s _=>s::(gs.flatMap λg=>scE n g.iter)++scE n e++(gs.flatMap λg=>g.ifs.flatMap (scE n))
 |n+1,.BoolOp _ vs _=>vs.flatMap (scE n)
 |n+1,.Call f as _ _=>scE n f++as.flatMap (scE n)
 |n+1,.BinOp a _ b _=>scE n a++scE n b
 |n+1,.UnaryOp _ a _=>scE n a
 |n+1,.Compare a _ cs _=>scE n a++cs.flatMap (scE n)
 |n+1,.Subscript a b _=>scE n a++scE n b
 |n+1,.Tuple es _ _=>es.flatMap (scE n)
 |n+1,.List es _=>es.flatMap (scE n)
 |n+1,.IfExp c a b _=>scE n c++scE n a++scE n b
 |n+1,.Dict _ vs _=>vs.flatMap (scE n)
 |n+1,.Slice a b c _=>(a.toList++b.toList++c.toList).flatMap (scE n)
 |n+1,.Attribute v _ _=>scE n v
 |_,_=>[]
noncomputable def scS:Nat->rQ->Wp tu
 |0,_=>[]
 |n+1,.Return (Gc e) _=>scE 30 e
 |n+1,.Assign ts e _=>ts.flatMap (scE 30)++scE 30 e
 |n+1,.AugAssign t _ e _=>scE 30 t++scE 30 e
 |n+1,.Expr e _=>scE 30 e
 |n+1,.If t a b _=>scE 30 t++a.flatMap (scS n)++b.flatMap (scS n)
 |n+1,.For _ it a b _=>scE 30 it++a.flatMap (scS n)++b.flatMap (scS n)
 |n+1,.While t a b _=>scE 30 t++a.flatMap (scS n)++b.flatMap (scS n)
 |_,_=>[]
noncomputable def Je(st:rQ)(k:Nat):tu:=((A8 st).flatMap (scS 20)).getD k (AB st)
structure j9(P:sF)(w:tK)(K:W1)(mg:Str->qR qX)(base:sS)(x:Str)(k np:Nat)(tbl:Wp (Str×Fn)):Prop where
 ex:∃a kvs,mg x=Gc (.ref a)/\TopD K w a kvs/\∀p G,tbl.lookup p=Gc G->∃f fd ps,kvs.lookup p=Gc (.ref f)/\Ka P w K mg base CX0 k f fd ps (spD K np G)/\sL K (.ref f)=true/\Binds K fd ps []
noncomputable def fP(tbl:Wp (Str×Fn))(i j:Nat)(fs:Wp Ev):Ex:=λE S=>if((at? E i).isNone && decide (i<E.length))=true then(at? E j).bind λw=>match w with
 | .str p=>(tbl.lookup p).bind λG=>Ad (AD G fs) E S
 |_=>none
 else none
def EnR.bR(r:EnR K M E σ H)(h:at? E i=none):EnR K M E (σ.set i (Gc v)) H:=by
 refine⟨by rw[tJ];exact r.len,λj d e=>?_⟩
 have ne:i≠j:=λz=>by
  subst z
  unfold at? at h
  rw[e]at h
  cases h
 obtain⟨u,h1,h2⟩:=r.val j d e
 exact⟨u,by rw[qT ne];exact h1,h2⟩
def Z8{X:Cx}{k np:Nat}{tbl:Wp (Str×Fn)}{x h y:Str}{px ph ph2 py pr p1 p2 pc:Pos} i j(T:j9 X.prog X.w X.K X.mg X.base x k np tbl)(hr:Cb k X.A)(ha:DEs X (e::es) fs)(hnp:fs.length=np)(hN:X.N.Nodup)(hg:zb (Gl X x) ww)(hi:zb (X.N[i]?=Gc h) ww)(hil:zb (X.env.scope.names.lookup h=Gc .local) ww)(hj:zb (X.N[j]?=Gc y) ww)(hv:zb (Vis X.env.scope y) wT)(hdx:zb ((x==("__debug__":Str))=false) xz)(hdy:zb ((y==("__debug__":Str))=false) xz)(hcy:zb ((y==("__classdict__":Str))=false) xz)(hdh:zb ((h==("__debug__":Str))=false) xz)(hch:zb ((h==("__classdict__":Str))=false) xz)(hs:zb (swapsWith (.Subscript (.Name x px) (.Name y py) p1) (Gc (.Name h ph)) p2.line X.env=pure false) ww)(hpl:zb (OF (.Name y py)) wp)(he:zb (qc (e::es) X.env=(false,eval e X.env)::qc es X.env) ww)(hpa:zb ((backTo pc (qc es X.env)).any (·.1)=false) ww):DSs X [.Assign [.Name h ph] (.Subscript (.Name x px) (.Name y py) p1) p2,.Return (Gc (.Call (.Name h ph2) (e::es) [] pc)) pr] (fP tbl i j fs):=⟨by
 obtain⟨a,kvs,t1,t2,t3⟩:=T.ex
 refine NR (Qg (Yt (i:=i) hN hi (.inl hil) (aV YW (OC (v:=.ref a) hg t1 rfl hdx) (Oo hj hv hdy hcy) hpl) hs (.inr hil)) (OE (Vv (Xe (k:=k) (i:=i) hi (.inl hil) hr ha.pe hdh hch he hpa)))) λDn σ H z=>?_
 obtain⟨M,E,S,fl,E',S',e,r,st,q⟩:=z
 unfold fP at e
 split at e
 .rename_i hnone
  rw[qe]at hnone
  have hlt:=qi hnone.2
  have hnone:at? E i=none:=by simpa using hnone.1
  obtain⟨w,e1,e⟩:=Af e
  split at e
  .rename_i p
   obtain⟨G,e2,e⟩:=Af e
   obtain⟨⟨d4,S4⟩,e3,e⟩:=Hz e
   cases e
   obtain⟨v,hv1,hv2⟩:=r.val j _ (at?_some e1)
   cases hv2
   obtain⟨f,fd,ps,l1,l2,l3,l4⟩:=t3 p G e2
   refine⟨_,hv1,a,kvs,p,_,rfl,rfl,t2,l1,?_⟩
   have r1:=r.bR (v:=.ref f) hnone
   have hlen:i<σ.length:=by
    have:=r.len
    lia
   refine⟨f,spD X.K np G,qb hlen,⟨fd,ps,l2,l3,l4⟩,?_⟩
   exact Vu (σ:=σ.set i (Gc (.ref f))) hnp ⟨M,_,S,d4,S4,e3,r1,st,q⟩
  .cases e
 .cases e⟩
def dU{kV doc pm cdv ct:qX}(X:K.In h)(G:h.Ns mainGlobals mg)(a:rM K mainGlobals x=Gc (Gc (.ref f)))(l:K.lookup f=Gc ⟨oc,od,.func (uA x x (GV st) (A8 st) (AB st) .none kV doc pm an cdv ct),osl⟩)(c:vL K cdv x=true)(k:sL K (.ref f)=true):St.Src K mg x st:=
 ⟨f,_,UI l c k,uC X G a⟩
def IsD(K:W1)(u:qX)(d:D):Prop:=∃v,RelV v u/\∀M H,BZ K M H v d
def Za:IsD K (.int i t) (.int i):=⟨.int i,⟨t,rfl⟩,λ_ _=>.int i⟩
def bH:IsD K (.str x t) (.str x):=⟨.str x,⟨t,rfl⟩,λ_ _=>.str x⟩
def eK:IsD K (.bool b) (.bl b):=⟨.bl b,rfl,λ_ _=>.bl b⟩
def aR:IsD K .none .non:=⟨.non,rfl,λ_ _=>.non⟩
theorem RL:∀{us} {ds},Paired (λd u=>IsD K u d) ds us->∃xs,Vals xs us/\∀M H,Ab K M H xs ds
 |_,_,.nil=>⟨[],.nil,λ_ _=>.nil⟩
 |_,_,.cons h t=>by
  obtain⟨v,h1,h2⟩:=h
  obtain⟨xs,h3,h4⟩:=RL t
  exact⟨v::xs,.cons h1 h3,λM H=>.cons (h2 M H) (h4 M H)⟩
def ZF(l:K.lookup a=Gc ⟨.type "tuple",od,.seq its.toArray n,osl⟩)(hz:its.length<=sizeLine)(r:Paired (λd u=>IsD K u d) ds its):IsD K (.ref a) (.tup ds):=by
 obtain⟨xs,h1,h2⟩:=RL r
 exact⟨.ref a,rfl,λM H=>.tup (.inr ⟨_,its.toArray,n,l,rfl,rfl,by simpa using hz,by simpa using h1⟩) (h2 M H)⟩
def du(X:K.In h)(G:h.Ns mainGlobals mg)(e:rM K mainGlobals x=Gc (Gc u))(r:IsD K u d):Pl K mg x d:=by
 obtain⟨v,h1,h2⟩:=r
 exact⟨v,u,uC X G e,h1,h2⟩
theorem U6:∀{tbl} {es},Paired (λp (e:vx)=>(∃t,e.key=.str p.1 t)/\IsD K e.val p.2) tbl es->∃kvs,Paired (λp (e:vx)=>(∃t,e.key=.str p.1 t)/\RelV p.2 e.val) kvs es/\∀k,(tbl.lookup k=none->kvs.lookup k=none)/\∀d,tbl.lookup k=Gc d->∃v,kvs.lookup k=Gc v/\∀M H,BZ K M H v d
 |_,_,.nil=>⟨[],.nil,λk=>⟨λ_=>rfl,λd e=>by cases e⟩⟩
 |(k0,d0)::tbl,_::es,.cons hh t=>by
  obtain⟨hk,v,h1,h2⟩:=hh
  obtain⟨kvs,h3,h4⟩:=U6 t
  refine⟨(k0,v)::kvs,.cons ⟨hk,h1⟩ h3,λk=>?_⟩
  rw[rZ,rZ]
  cases e:k==k0 with
  |true=>exact⟨λz=>(nomatch z),λd z=>by cases z;exact⟨v,rfl,h2⟩⟩
  |false=>exact h4 k
def aM(X:K.In h)(G:h.Ns mainGlobals mg)(e:rM K mainGlobals x=Gc (Gc (.ref a)))(l:K.lookup a=Gc ⟨.type "dict",none,.dict es.toArray n, #[]⟩)(hk:we w.params es)(hne:(a==sysModules)=false)(hp:Paired (λp (e:vx)=>(∃t,e.key=.str p.1 t)/\IsD K e.val p.2) tbl es):gY K w mg x tbl:=by
 obtain⟨kvs,h1,h2⟩:=U6 hp
 exact⟨a,kvs,uC X G e,YD l hk hne h1,h2⟩
structure iF(w:tK)(K:W1)(mg:Str->qR qX)(x:Str)(ns:Wp (Str×Str)):Prop where
 ex:∃a kvs,mg x=Gc (.ref a)/\TopD K w a kvs/\Paired (λ(n:Str×Str) (q:Str×V)=>n.1=q.1/\∃f,q.2=.ref f/\mg n.2=Gc (.ref f)) ns kvs
theorem OZ(X:K.In h)(G:h.Ns mainGlobals mg):∀{ns:Wp (Str×Str)} {es},Paired (λn (e:vx)=>(∃t,e.key=.str n.1 t)/\∃f,e.val=.ref f/\rM K mainGlobals n.2=Gc (Gc (.ref f))) ns es->∃kvs:Wp (Str×V),Paired (λp (e:vx)=>(∃t,e.key=.str p.1 t)/\RelV p.2 e.val) kvs es/\Paired (λn q=>n.1=q.1/\∃f,q.2=.ref f/\mg n.2=Gc (.ref f)) ns kvs
 |_,_,.nil=>⟨[],.nil,.nil⟩
 |(k0,g0)::ns,_::es,.cons hh t=>by
  obtain⟨hk,f,h1,h2⟩:=hh
  obtain⟨kvs,h3,h4⟩:=OZ X G t
  exact⟨(k0,.ref f)::kvs,.cons ⟨hk,h1⟩ h3,.cons ⟨rfl,f,rfl,uC X G h2⟩ h4⟩
def Zu(X:K.In h)(G:h.Ns mainGlobals mg)(e:rM K mainGlobals x=Gc (Gc (.ref a)))(l:K.lookup a=Gc ⟨.type "dict",none,.dict es.toArray n, #[]⟩)(hk:we w.params es)(hne:(a==sysModules)=false)(hp:Paired (λn (e:vx)=>(∃t,e.key=.str n.1 t)/\∃f,e.val=.ref f/\rM K mainGlobals n.2=Gc (Gc (.ref f))) ns es):iF w K mg x ns:=by
 obtain⟨kvs,h1,h2⟩:=OZ X G hp
 exact⟨a,kvs,uC X G e,YD l hk hne h1,h2⟩
def ZI{k np:Nat}:∀{ns:Wp (Str×Str)} {kvs:Wp (Str×V)} {tbl},Paired (λn q=>n.1=q.1/\∃f,q.2=.ref f/\mg n.2=Gc (.ref f)) ns kvs->Paired (λn q=>n.1=q.1/\∃j ps,j<=k/\St.Dfn P w K mg base n.2 j ps (spD K np q.2)) ns tbl->∀p G,tbl.lookup p=Gc G->∃f fd ps,kvs.lookup p=Gc (.ref f)/\Ka P w K mg base CX0 k f fd ps (spD K np G)/\sL K (.ref f)=true/\Binds K fd ps []:=by
 intro ns kvs tbl a
 induction a generalizing tbl with
 |nil=>intro b p G e;cases b;cases e
 |cons h1 t1 ih=>
  intro b p G e
  cases b with
  |cons h2 t2=>
  rename_i n0 q1 n1 l1 q2 l2
  obtain⟨k1,v1⟩:=q1
  obtain⟨k2,G2⟩:=q2
  obtain⟨e1,f,e2,e3⟩:=h1
  obtain⟨e4,j,ps,hj,hd⟩:=h2
  have e5:k1=k2:=e1.symm.trans e4
  subst e5
  rw[rZ]at e⊢
  cases eq:p==k1 with
  |true=>
   rw[eq]at e
   cases e
   obtain⟨f',fd,m1,m2,m3,m4⟩:=hd.ex
   have:f'=f:=by
    have:=m1.symm.trans e3
    cases this;rfl
   subst this
   exact⟨f',fd,ps,by rw[show v1=.ref f' from e2],m4.mono hj,m2,m3⟩
  |false=>
   rw[eq]at e
   exact ih t2 p G e
def ZM(T:iF w K mg x ns)(h:Paired (λn q=>n.1=q.1/\∃j ps,j<=k/\St.Dfn P w K mg base n.2 j ps (spD K np q.2)) ns tbl):j9 P w K mg base x k np tbl:=by
 obtain⟨a,kvs,h1,h2,h3⟩:=T.ex
 exact⟨a,kvs,h1,h2,ZI h3 h⟩
def Tb(old:qg->Prop)(H:Hp)(h:sS)(e:qg)(v:qX):Prop:=
 v=.none\/∃T oT ts,v=.ref T/\T≠e/\h.get? T=Gc oT/\oT.data=.fields ts/\ts[3]?=Gc .none/\H T=none/\¬old T
structure Fly(old:qg->Prop)(H:Hp)(h:sS)(e C:qg)(od:qR qg):Prop where
 free:H e=none
 new:¬old e
 ex:∃oe vs a0 v,h.get? e=Gc oe/\oe.cls=.ref C/\oe.data=.fields vs/\vs[0]?=Gc a0/\vs[1]?=Gc v/\Tb old H h e v/\∀dx,od=Gc dx->oe.dict=Gc dx
def Fly.imp(f:Fly old H h e C od)(m:∀b,old' b->old b):Fly old' H h e C od:=by
 obtain⟨oe,vs,a0,v,h1,h2,h3,h4,h5,t,hd⟩:=f.ex
 refine⟨f.free,λz=>f.new (m _ z),oe,vs,a0,v,h1,h2,h3,h4,h5,?_,hd⟩
 rcases t with t|⟨T,oT,ts,t1,t2,t3,t4,t5,t6,t7⟩
 .exact .inl t
 .exact .inr ⟨T,oT,ts,t1,t2,t3,t4,t5,t6,λz=>t7 (m _ z)⟩
structure dI(old:qg->Prop)(H:Hp)(h:sS)(e C:qg)(od:qR qg):Prop where
 free:H e=none
 new:¬old e
 ex:∃oe vs a0 T oT ts,h.get? e=Gc oe/\oe.cls=.ref C/\oe.data=.fields vs/\vs[0]?=Gc a0/\vs[1]?=Gc (.ref T)/\(T≠e/\h.get? T=Gc oT/\oT.data=.fields ts/\ts[3]?=Gc .none/\H T=none/\¬old T)/\∀dx,od=Gc dx->oe.dict=Gc dx
def dI.fly(f:dI old H h e C od):Fly old H h e C od:=by
 obtain⟨oe,vs,a0,T,oT,ts,h1,h2,h3,h4,h5,r,hd⟩:=f.ex
 exact⟨f.free,f.new,oe,vs,a0,.ref T,h1,h2,h3,h4,h5,.inr ⟨T,oT,ts,rfl,r⟩,hd⟩
structure Trn(X:Cx)(old:qg->Prop)(H:Hp)(h h':sS)(e C:qg)(od:qR qg):Prop where
 keep:∀b o,h.get? b=Gc o->b∉frs X.stack->(H b≠none\/old b\/∀vs,o.data≠.fields vs)->h'.get? b=Gc o
 slot:∀b o,h.get? b=Gc o->(∀vs,o.data≠.fields vs)->∃sl,h'.get? b=Gc {o with slots:=sl}
 fly:dI old H h' e C od
def Ds.there(x:Ds P w H h a o):∃ob,h.get? a=Gc ob:=by
 cases o with
 |lst xs=>obtain⟨_,_,_,_,e⟩:=x;exact⟨_,e⟩
 |tup xs=>obtain⟨_,_,_,ob,e,_⟩:=x;exact⟨_,e⟩
 |dK kvs=>obtain⟨_,_,_,_,o,_,_,e,_⟩:=x;exact⟨_,e⟩
 |dT kvs=>obtain⟨_,_,_,_,o,_,_,e,_⟩:=x;exact⟨_,e⟩
 |set S n=>obtain⟨o,_,_,_,e,_⟩:=x;exact⟨_,e⟩
 |ins C dx fs=>obtain⟨_,_,_,e,_⟩:=x;exact⟨_,e⟩
 |own y=>obtain⟨_,e⟩:=x;exact⟨_,e⟩
 |xd fs=>obtain⟨_,⟨_,_,_,e,_⟩,_⟩:=x;exact⟨_,e⟩
 |rng lo hi=>obtain⟨_,_,_,e⟩:=x;exact⟨_,e⟩
 |frz ob u=>obtain⟨e,_⟩:=x;exact⟨_,e⟩
 |tbl ps=>exact⟨_,(show h.get? a=Gc _ from x)⟩
 |met f y=>exact⟨_,(show h.get? a=Gc _ from x)⟩
 |ext φ=>obtain⟨_,⟨_,e⟩,_⟩:=x;exact⟨_,e⟩
section
variable{X:Cx}{pins:Wp (qg×Obj)}{σ:St}{H:Hp}{s:qj}{old:qg->Prop}{e C:qg}{od:qR qg}{Q:Unit->qj->Prop}{E:qX->qj->Prop}{A:uN}
def VA{h:sS}(ha:h.get? a=Gc oa)(hd:oa.data=.fields vs)(hb:h.get? b=Gc o)(n:∀vs,o.data≠.fields vs):b≠a:=λz=>by
 rw[z,ha]at hb
 cases hb
 exact n _ hd
def bN{h:sS}(ha:h.get? a=Gc oa)(hd:oa.data=.fields vs)(fr:H a=none)(nw:¬old a)(hb:h.get? b=Gc o)(k:H b≠none\/old b\/∀vs,o.data≠.fields vs):b≠a:=λz=>by
 subst z
 rcases k with k|k|k
 .exact k fr
 .exact nw k
 .exact VA ha hd hb k rfl
def Qe{ts:wL qX}(h:ts[i]?=Gc v):ts.setIfInBounds i v=ts:=by
 apply Array.ext (by simp)
 intro j h1 h2
 rw[Array.getElem_setIfInBounds]
 split
 .rename_i z
  subst z
  obtain⟨_,q⟩:=uV.mp h
  exact q.symm
 .rfl
def PV(I:Inv X pins σ H s)(hA:A.frames=Gc X.stack)(hst:X.stack=X.env::X.outer)(hf:X.env.frame=Gc X.env.locals)(free:H e=none)(new:¬old e)(ho:∀b,old b->s.heap.get? b≠none)(he:s.heap.get? e=Gc oe)(hc:oe.cls=.ref C)(hd:oe.data=.fields vs)(h0:vs[0]?=Gc a0)(hz:1<vs.size)(hdx:∀dx,od=Gc dx->oe.dict=Gc dx)(hQ:∀h',Trn X old H s.heap h' e C od->Q () {s with heap:=h'}):wpAny M A (do let a<-frameOf X.env;let pl<-entryPlaceOf X.env.locals hadNext;let b<-zI head a .none (rawInt X.env.locals) .none pl;setField (.ref e) 1 b) (λ_ s2=>wpAny M A (setFlight (.ref e) none) Q E s2) E s:=by
 have st:=I.stack
 have ef:e∉frs X.stack:=λm=>by
  obtain⟨_,o,q,n⟩:=st.mem m
  exact VA he hd q n rfl
 have hfr:A.frames=Gc (X.env::X.outer):=by rw[hA,hst]
 rw[hst]at st
 refine qP (wpAny_frameOf_fun hfr st hf λh1 hs=>?_)
 obtain⟨sz,out,sl⟩:=hs
 refine qP (wpAny_entryPlaceOf λpl hpl=>?_)
 unfold zI newFields
 refine qP (uF ?_ (hpl.sizeOk5 _ _ _ _ _))
 generalize hob:({cls:=.type "traceback",data:=.fields ([head,.ref X.env.locals,.none,rawInt X.env.locals,.none]++(if pl.isEmpty then qk 6 rJ else pl)).toArray}:Obj)=tb
 have ef':e∉(X.env::X.outer).filterMap (·.frame):=by rw[<-hst];exact ef
 have e1:h1.get? e=Gc oe:=(out e ef').trans he
 have e2:(h1.push tb).get? e=Gc oe:=qO _ e1
 refine vN e2 hd hz ?_
 have Te:h1.objs.size≠e:=wt (ql e1)
 have d3:=uS hd (·.setIfInBounds 1 (q9 h1.objs.size))
 have e3:=tU (sW (·.setIfInBounds 1 (q9 h1.objs.size))) e2 (tV d3)
 have tbd:∃ts:wL qX,tb.data=.fields ts/\3<ts.size:=⟨_,by rw[<-hob],by simp only[qf,sA,rT,vk]<;>lia⟩
 obtain⟨ts,td,tz⟩:=tbd
 have T3:((h1.push tb).update e (sW (·.setIfInBounds 1 (q9 h1.objs.size)))).get? h1.objs.size=Gc tb:=(sR _ _ Te.symm).trans (qt h1 (tV td))
 unfold setFlight
 refine qP (sv e3 d3 (x:=.ref h1.objs.size) (by simp[hz]) ?_)
 rw[rB (show(q9 h1.objs.size !=rJ)=true from by simp)]
 refine vN T3 td tz (hQ _ ?_)
 have T4:=tU (sW (·.setIfInBounds 3 ((none:qR qg).elim rJ λf=>rawInt f))) T3 (tV (uS td _))
 have all:∀b o,b≠e->h1.get? b=Gc o->(((h1.push tb).update e (sW (·.setIfInBounds 1 (q9 h1.objs.size)))).update h1.objs.size (sW (·.setIfInBounds 3 ((none:qR qg).elim rJ λf=>rawInt f)))).get? b=Gc o:=λb o n q=>by
  rw[sR _ _ (wt (ql q)),sR _ _ (se n)]
  exact qO _ q
 have Tn:s.heap.get? h1.objs.size=none:=by
  cases q:s.heap.get? h1.objs.size with
  |none=>rfl
  |some o=>
   obtain⟨sl',z⟩:=sl _ o q
   exact absurd (ql z) (sV _)
 refine⟨λb o q nf k=>all b o (bN he hd free new q k) ((out b (by rw[<-hst];exact nf)).trans q),λb o q n=>?_,free,new,_,_,a0,h1.objs.size,_,_,(sR _ _ Te).trans e3,(z6 _ _).trans hc,d3,by rw[Array.getElem?_setIfInBounds_ne (by decide)];exact h0,by simp[hz],⟨Te,T4,uS td _,by simp[tz],?_,λz=>ho _ z Tn⟩,λdx z=>?_⟩
 .obtain⟨sl',z⟩:=sl b o q
  exact⟨sl',all b _ (VA he hd q n) z⟩
 .cases q:H h1.objs.size with
  |none=>rfl
  |some o=>
   obtain⟨ob,z⟩:=Ds.there (I.hok _ o q)
   rw[Tn]at z;cases z
 .rw[<-hdx dx z]
  obtain⟨c,dd,da,sl⟩:=oe
  cases da<;>first|rfl|(simp[sW];done)
def NK(I:Inv X pins σ H s)(hA:A.frames=Gc X.stack)(hst:X.stack=X.env::X.outer)(hf:X.env.frame=Gc X.env.locals)(f:Fly old H s.heap e C od)(ho:∀b,old b->s.heap.get? b≠none)(hQ:∀h',Trn X old H s.heap h' e C od->Q () {s with heap:=h'}):wpAny M A (noteFrame (.ref e) X.env) (λ_ s2=>wpAny M A (setFlight (.ref e) none) Q E s2) E s:=by
 obtain⟨oe,vs,a0,v,h1,h2,h3,h4,h5,t,hd⟩:=f.ex
 have hz:=(uV.mp h5).1
 unfold noteFrame
 simp only[hf]
 refine qP (sv h1 h3 h5 ?_)
 rcases t with t|⟨T,oT,ts,t1,t2,t3,t4,t5,t6,t7⟩
 .subst t
  rw[rA (by decide)]
  exact PV I hA hst hf f.free f.new ho h1 h2 h3 h4 hz hd hQ
 .subst t1
  rw[rB (show(q9 T !=rJ)=true from by simp)]
  refine qP (sv t3 t4 t5 ?_)
  rw[rA (show¬((rJ==rawInt X.env.locals)=true)from by simp[rawInt])]
  refine qP (vN t3 t4 (uV.mp t5).1 ?_)
  have oth:∀b,b≠T->(s.heap.update T (sW (·.setIfInBounds 3 rJ))).get? b=s.heap.get? b:=λb n=>sR _ _ (se n)
  have sm:=Qe t5
  have up:(s.heap.update T (sW (·.setIfInBounds 3 rJ))).get? T=Gc oT:=by
   rw[tU _ t3 (tV (uS t4 _))]
   obtain⟨c,dd,da,sl⟩:=oT
   cases t4
   show Gc ({cls:=c,dict:=dd,data:=.fields (ts.setIfInBounds 3 .none),slots:=sl}:Obj)=_
   rw[sm]
  have same:∀b,(s.heap.update T (sW (·.setIfInBounds 3 rJ))).get? b=s.heap.get? b:=λb=>by
   by_cases z:b=T
   .rw[z,up,t3]
   .exact oth b z
  have I':Inv X pins σ H {s with heap:=s.heap.update T (sW (·.setIfInBounds 3 rJ))}:=I.kept (t':=s.toks) λb u q=>(same b).trans q
  refine PV (s:={s with heap:=s.heap.update T (sW (·.setIfInBounds 3 rJ))}) I' hA hst hf f.free f.new (λb z q=>ho b z ((same b).symm.trans q)) ((same e).trans h1) h2 h3 h4 hz hd λh' t=>hQ h' ⟨λb o q=>t.keep b o ((same b).trans q),λb o q=>t.slot b o ((same b).trans q),t.fly⟩
def Vk(I:Inv X pins σ H s)(f:dI old H s.heap e C od)(hQ:∀h',Trn X old H s.heap h' e C od->Q () {s with heap:=h'}):wpAny M A (setFlight (.ref e) none) Q E s:=by
 obtain⟨oe,vs,a0,T,oT,ts,h1,h2,h3,h4,h5,⟨t2,t3,t4,t5,t6,t7⟩,hd⟩:=f.ex
 unfold setFlight
 refine qP (sv h1 h3 h5 ?_)
 rw[rB (show(q9 T !=rJ)=true from by simp)]
 refine vN t3 t4 (uV.mp t5).1 (hQ _ ?_)
 have up:(s.heap.update T (sW (·.setIfInBounds 3 ((none:qR qg).elim rJ λf=>rawInt f)))).get? T=Gc oT:=by
  rw[tU _ t3 (tV (uS t4 _))]
  obtain⟨c,dd,da,sl⟩:=oT
  cases t4
  show Gc ({cls:=c,dict:=dd,data:=.fields (ts.setIfInBounds 3 .none),slots:=sl}:Obj)=_
  rw[Qe t5]
 have same:∀b,(s.heap.update T (sW (·.setIfInBounds 3 ((none:qR qg).elim rJ λf=>rawInt f)))).get? b=s.heap.get? b:=λb=>by
  by_cases z:b=T
  .rw[z,up,t3]
  .exact sR _ _ (se z)
 exact⟨λb o q _ _=>(same b).trans q,λb o q _=>⟨o.slots,(same b).trans q⟩,f.free,f.new,oe,vs,a0,T,oT,ts,(same e).trans h1,h2,h3,h4,h5,⟨t2,up,t4,t5,t6,t7⟩,hd⟩
end
def bq(X:Cx)(pins:Wp (qg×Obj))(b:qg):Prop:=X.s₀.heap.get? b≠none\/∃p∈X.pn++pins,p.1=b
section
variable{X:Cx}{pins:Wp (qg×Obj)}{σ:St}{H:Hp}{s:qj}{old:qg->Prop}{e C:qg}{od:qR qg}{h':sS}
def UH(hst:X.stack=X.env::X.outer)(hf:X.env.frame=Gc X.env.locals):frs X.stack=X.env.locals::X.fs:=by
 rw[hst];unfold frs Cx.fs frs;rw[rh,hf]
def D9(I:Inv X pins σ H s)(hx:X.ex=[]):∀b,bq X pins b->s.heap.get? b≠none:=λb z=>by
 rcases z with z|⟨p,m,rfl⟩
 .cases q:X.s₀.heap.get? b with
  |none=>exact absurd q z
  |some o=>
   obtain⟨o',e'⟩:=I.base.there b o q (by rw[hx];exact λz=>nomatch z)
   rw[e'];exact λz=>nomatch z
 .rw[(I.pin p m).1];exact λz=>nomatch z
def QJ(I:Inv X pins σ H s)(t:Trn X old H s.heap h' e C od):HOk X.prog X.w H h':=λa o q=>by
 refine(I.hok a o q).V7 (λb u hb e1=>?_) (λ_ z=>z) λ_ _ z=>z
 have hn:H b≠none:=by
  rcases hb with z|z
  .subst z;rw[q];exact λz=>nomatch z
  .rw[z];exact λz=>nomatch z
 exact t.keep b u e1 (λz=>hn (I.QT b z)) (.inl hn)
def UU(I:Inv X pins σ H s)(hst:X.stack=X.env::X.outer)(hf:X.env.frame=Gc X.env.locals)(hx:X.ex=[])(t:Trn X (bq X pins) H s.heap h' e C od):Un X.fs X.ex X.H₀ H X.s₀.heap h':=by
 have hs:=UH hst hf
 have nL:∀b o,X.s₀.heap.get? b=Gc o->b≠X.env.locals:=λb o e1=>rK (qS (ql e1) I.ok.above)
 have od:∀b o,X.s₀.heap.get? b=Gc o->bq X pins b:=λb o e1=>.inl (by rw[e1];exact λz=>nomatch z)
 have fd:∀b o,b∈X.fs->X.s₀.heap.get? b=Gc o->∀vs,o.data≠.fields vs:=λb o hb e1 vs=>by
  obtain⟨_,o',e2,q⟩:=I.ok.P4.mem hb
  rw[e1]at e2;cases e2
  exact q vs
 refine⟨λb o e1 n hb hx'=>?_,λb o e1 n hb hx'=>?_,I.base.free,λb o e1 hx'=>?_,I.base.W7,I.base.Uh,I.base.WE⟩
 .refine t.keep b o (I.base.keep b o e1 n hb hx') (λz=>?_) (.inr (.inl (od b o e1)))
  rw[hs]at z
  exact(qY.mp z).elim (nL b o e1) hb
 .obtain⟨sl,q⟩:=I.base.slot b o e1 n hb hx'
  obtain⟨sl',q'⟩:=t.slot b _ q (fd b o hb e1)
  exact⟨sl',q'⟩
 .obtain⟨o',q⟩:=I.base.there b o e1 hx'
  by_cases hb:b∈frs X.stack
  .obtain⟨_,o2,q2,d⟩:=I.stack.mem hb
   obtain⟨sl,z⟩:=t.slot b o2 q2 d
   exact⟨_,z⟩
  .exact⟨o',t.keep b o' q hb (.inr (.inl (od b o e1)))⟩
def Tc(I:Inv X pins σ H s)(hst:X.stack=X.env::X.outer)(hf:X.env.frame=Gc X.env.locals)(hx:X.ex=[])(t:Trn X (bq X pins) H s.heap h' e C od):Inv X pins σ H {s with heap:=h'}:=by
 have hs:=UH hst hf
 have cl:∀c v,s.heap.IsCell c v->h'.IsCell c v:=λc v ⟨o,ho,hd⟩=>by
  obtain⟨sl,q⟩:=t.slot c o ho λvs z=>by rw[hd]at z;cases z
  exact⟨_,q,hd⟩
 refine⟨I.ok,I.os,I.bare,UU I hst hf hx t,?_,λx c e1=>?_,I.free,I.Jd,λp m=>?_,QJ I t,I.len⟩
 .obtain⟨m,hn,hl⟩:=I.loc
  refine⟨m,Heap.UpToSlots.ns (λb o e1 e2=>t.slot b o e1 e2) hn,λi x v e1 e2 e3=>?_⟩
  obtain⟨u,r,l⟩:=hl i x v e1 e2 e3
  refine⟨u,r,?_⟩
  rcases l with l|⟨k,c,e4,z⟩
  .exact .inl l
  .exact .inr ⟨k,c,e4,cl c _ z⟩
 .obtain⟨v,z⟩:=I.cell x c e1
  exact⟨v,cl c v z⟩
 .obtain⟨p1,p2,p3,p4,p5⟩:=I.pin p m
  refine⟨t.keep _ _ p1 (λz=>?_) (.inr (.inl (.inr ⟨p,m,rfl⟩))),p2,p3,p4,p5⟩
  rw[hs]at z
  exact(qY.mp z).elim p3 p4
end
abbrev Rk:=qg->qR qg->St->Hp->Prop
abbrev TR:=St->Hp->Rk->Prop
inductive XP(X:Cx)(pins:Wp (qg×Obj))(Z:Rk)(ev:qX)(s':qj):Prop
 |mk (e C:qg) (od:qR qg) (σ':Sg) (H':Hp) (h:ev=.ref e) (I:Inv X pins σ' H' s') (z:Z C od σ' H') (fl:Fly (bq X pins) H' s'.heap e C od)
def PX(X:Cx)(st:rQ)(t:TR):Prop:=∀(pins:Wp (qg×Obj)) (s:qj) (σ:St) (H:Hp) (Z:Rk),Inv X pins σ H s->t σ H Z->wpAny (model X.prog X.w) X.A (exec st X.env) (λ_ _=>tN) (XP X pins Z) s
def PXs(X:Cx)(sts:Wp rQ)(t:TR):Prop:=∀(pins:Wp (qg×Obj)) (s:qj) (σ:St) (H:Hp) (Z:Rk),Inv X pins σ H s->t σ H Z->wpAny (model X.prog X.w) X.A (execs sts X.env) (λ_ _=>tN) (XP X pins Z) s
def PXe(X:Cx)(e:sG)(t:TR):Prop:=∀(pins:Wp (qg×Obj)) (s:qj) (σ:St) (H:Hp) (Z:Rk),Inv X pins σ H s->t σ H Z->wpAny (model X.prog X.w) X.A (eval e X.env) (λ_ _=>tN) (XP X pins Z) s
noncomputable def CXr(P:sF)(w:tK):CXT:=λouter H s E ev s'=>∃e C od H',ev=.ref e/\s'.os=s.os/\vt s'.gens/\Un (frs outer) [] H H' s.heap s'.heap/\HOk P w H' s'.heap/\Fly (λb=>s.heap.get? b≠none) H' s'.heap e C od/\E (.ref C) od H'
def Q2(h:XP (Ij (CXr P w) P w K mg base N qual scope f cd A outer s H E).nox pins Z ev s')(hZ:∀C od σ' H',Z C od σ' H'->E (.ref C) od H'):(Ij (CXr P w) P w K mg base N qual scope f cd A outer s H E).xe ev s':=by
 obtain⟨e,C,od,σ',H',rfl,I,z,fl⟩:=h
 show wpAny _ _ (leaving _ (.ref e)) _ _ s'
 unfold leaving
 refine qP (NK I I.ok.frames rfl rfl fl (D9 I rfl) λh' t=>?_)
 exact⟨e,C,od,H',rfl,I.os,I.bare,UU I rfl rfl rfl t,QJ I t,t.fly.fly.imp λb z=>.inl z,hZ _ _ _ _ z⟩
structure Tg where
 nm:Str
 pay:qR Int
instance:Coe Str Tg:=⟨λx=>⟨x,none⟩⟩
def jF(mg:Str->qR qX)(x:Tg)(C:qg)(od:qR qg)(H:Hp):Prop:=mg x.nm=Gc (.ref C)/\∀n,x.pay=Gc n->∃dx,od=Gc dx/\H dx=Gc (.xd [("at",.int n)])
abbrev Rx:=En->Sto->qR (Tg×En×Sto)
abbrev Rf:=Wp D->Sto->qR (Tg×Sto)
inductive tR(K:W1)(mg:Str->qR qX)(r:Rx)(σ:Sg)(H:Hp)(Z:Rk):Prop
 |mk (M:Ms) (E:En) (S:Sto) (x:Tg) (E':En) (S':Sto) (e:r E S=Gc (x,E',S')) (rr:EnR K M E σ H) (st:StR K M S H) (q:∀C od σ' H' M',jF mg x C od H'->Gr M H M' H'->EnR K M' E' σ' H'->StR K M' S' H'->Z C od σ' H')
structure RS(X:Cx)(st:rQ)(r:Rx):Prop where
 pe:PX X st (tR X.K X.mg r)
structure RSs(X:Cx)(st:Wp rQ)(r:Rx):Prop where
 pe:PXs X st (tR X.K X.mg r)
structure RE(X:Cx)(e:sG)(r:Rx):Prop where
 pe:PXe X e (tR X.K X.mg r)
inductive spR(K:W1)(mg:Str->qR qX)(np:Nat)(R:Rf)(vs:Wp V)(H:Hp)(Q:VK)(E:XK):Prop
 |mk (M:Ms) (ds:Wp D) (S:Sto) (x:Tg) (S':Sto) (l:ds.length=np) (e:R ds S=Gc (x,S')) (r:Ab K M H vs ds) (st:StR K M S H) (q:∀C od H' M',jF mg x C od H'->Gr M H M' H'->StR K M' S' H'->E (.ref C) od H')
noncomputable def LL(N:Nat)(r:Rx):Rf:=λds S=>(r (ds.map Gc++qk (N-ds.length) none) S).map λq=>(q.1,q.2.2)
structure dj(P:sF)(w:tK)(K:W1)(mg:Str->qR qX)(base:sS)(x:Str)(k:Nat)(ps:Wp Str)(sp:Sp):Prop where
 ex:∃f fd,mg x=Gc (.ref f)/\sL K (.ref f)=true/\Binds K fd ps []/\Ka P w K mg base (CXr P w) k f fd ps sp
section
variable{P:sF}{w:tK}{K:W1}{mg:Str->qR qX}{base:sS}
def eH(Fu:Fun K x x st f fd)(S:Av N ps (AB st))(hp:ps.length=np)(hb:∀cdv A outer s H E,Cb k (A.deeper (qv x (AB st) s.heap.objs.size f cdv))->RSs (Ij CX0 P w K mg base N x (AB st) f cdv A outer s H E).nox (A8 st) r):Ka P w K mg base (CXr P w) (k+1) f fd ps (spR K mg np (AO (LL N.length r))):=by
 rw[Gf]
 obtain⟨oc,od,kV,doc,pm,an,cdv,ct,osl,rfl,lk,hcd⟩:=Fu.ex
 refine XG lk hcd S (λvs H Q E h=>?_) λA outer s H vs Q E hr h=>?_
 .obtain⟨M,ds,S0,d,S',hl,_,r,_⟩:=h
  have:=r.length
  lia
 .obtain⟨M,ds,S0,y,S',hl,e,rr,st,q⟩:=h
  have hlen:=rr.length
  refine⟨λ_ σ H=>tR K mg r σ H λC od _ H'=>E (.ref C) od H',λpins s1 σ1 H1 D I h=>?_,?_⟩
  .exact sZ ((hb cdv A outer s H E hr).pe pins s1 σ1 H1 _ (I.SI _) h) (λ_ _ z=>z.elim) λev s' z=>Q2 z λ_ _ _ _ z=>z
  .obtain⟨⟨y',E',S1⟩,e1,e⟩:=Hz e
   cases e
   refine⟨M,_,S0,y',E',S1,e1,?_,st,λC od σ' H' M' hm g _ st'=>q C od H' M' hm g st'⟩
   rw[show L2.start N vs=vs.map Gc++qk (N.length-ds.length) none from by unfold L2.start;rw[hlen]]
   exact .args rr _
def ZG(S:St.Src K mg x st)(sc:Av N ps (AB st))(hp:ps.length=np)(hbi:∀f fd,Fun K x x st f fd->Binds K fd ps [])(hb:∀f cdv A outer s H E,Cb k (A.deeper (qv x (AB st) s.heap.objs.size f cdv))->RSs (Ij CX0 P w K mg base N x (AB st) f cdv A outer s H E).nox (A8 st) r):dj P w K mg base x (k+1) ps (spR K mg np (AO (LL N.length r))):=by
 obtain⟨f,fd,Fu,hm⟩:=S.ex
 exact⟨f,fd,hm,Fu.kp,hbi f fd Fu,eH Fu sc hp λcdv A outer s H E hr=>hb f cdv A outer s H E hr⟩
end
def EM{X:Cx}{α:Type}{t:Sem α}{Q Q':α->qj->Prop}(hn:X.xe=λ_ _=>tN)(h:wpAny M A t Q X.xe s)(hQ:∀a s,Q a s->Q' a s):wpAny M A t Q' E s:=
 sZ h hQ λ_ _ z=>by rw[hn]at z;exact z.elim
noncomputable def Jv(R:Rf)(fs:Wp Ev):Rx:=λE S=>(evs fs E S).bind λq=>(R q.1 q.2).map λz=>(z.1,E,z.2)
def QR{X:Cx}{k np:Nat}{x:Str}{ps:Wp Str}{p pos:Pos}(d:dj X.prog X.w X.K X.mg X.base x k ps (spR X.K X.mg np R))(hr:Cb k X.A)(hg:Gl X x)(ha:DEs X (e::es) fs)(hn:zb (fs.length=np) ww)(hxe:zb (X.xe=λ_ _=>tN) ww)(hx:zb (X.ex=[]) ww)(hdb:zb ((x==("__debug__":Str))=false) xz)(he:zb (qc (e::es) X.env=(false,eval e X.env)::qc es X.env) ww)(hpl:zb ((backTo pos (qc es X.env)).any (·.1)=false) ww):RE X (.Call (.Name x p) (e::es) [] pos) (Jv R fs):=⟨by
 intro pins s σ H Z I h
 obtain⟨f,fd,hm,hk,hb,F⟩:=d.ex
 obtain⟨M,E,S,y,E',S',e0,r,st,q⟩:=h
 obtain⟨⟨ds,S1⟩,e1,e2⟩:=Af e0
 obtain⟨⟨y',S2⟩,e3,e4⟩:=Hz e2
 cases e4
 refine sf (J4 I hg hm ?_ hdb)
 have ha':=ha.pe pos pins s σ H (λvs H1=>∃M1,Gr M H M1 H1/\StR X.K M1 S1 H1/\Ab X.K M1 H1 vs ds) I (FW e1 r st λvs H1 M1 g1 st1 r1=>⟨M1,g1,st1,r1⟩)
 refine tL (h₀:=X.base) I.ok.mod.kin hk (EM hxe ha' λus s1 ⟨vs,H1,I1,rv,M1,g1,st1,r1⟩=>⟨I1.kIn,?_⟩) he hpl
 have sp:spR X.K X.mg np R vs H1 (λ_ _=>tN) (λv od H'=>∃C,v=.ref C/\Z C od σ H'):=
  ⟨M1,ds,S1,y',S2,by rw[HH e1];exact hn,e3,r1,st1,λC od H' M' hc g2 st2=>⟨C,rfl,q C od σ H' M' hc (g1.trans g2) ((r.step g1.st).step g2.st) st2⟩⟩
 have hl:(us++[]).length=ps.length:=by rw[r9,<-rv.length];exact F.len _ _ _ _ sp
 have hbs:=hb s1 us I1.kIn hl
 rw[r9]at hbs
 refine vo (vS (F.run X.A X.stack s1 H1 ⟨us,[]⟩ us vs _ _ hr I1.YK hbs rv sp) λrs s' hq=>?_)
 cases rs with
 |error ev=>
  obtain⟨e,C,od,H',rfl,os,bare,un,hok,fly,C',hC,z⟩:=hq
  cases hC
  exact⟨e,C,od,σ,H',rfl,I1.U5 os un hok bare (λb z=>nomatch z),z,fly.imp λb z=>D9 I1 hx b z⟩
 |ok fl=>
  cases fl with
  |ret u=>
   obtain⟨v,H',_,_,_,_,_,q⟩:=hq
   exact q.elim
  |next=>exact rz hq
  |brk=>exact rz hq
  |cont=>exact rz hq⟩
section
variable{X:Cx}{st:rQ}{rest a b:Wp rQ}{f g:Ex}{r r1 r2:Rx}{c e:sG}{k:Ev}{pos:Pos}
def Zq(h:RE X e r)(hs:zb (swapsWith e none pos.line X.env=pure false) ww):RS X (.Expr e pos) r:=⟨λpins s σ H Z I q=>wpAny_Expr_any (sZ (h.pe pins s σ H Z I q) (λ_ _ z=>z) λ_ _ z=>z) I.quiet hs⟩
def fV(h:RE X e r):RS X (.Return (Gc e) pos) r:=⟨λpins s σ H Z I q=>xX (sZ (h.pe pins s σ H Z I q) (λ_ _ z=>z) λ_ _ z=>z)⟩
noncomputable def rNo:Rx:=λ_ _=>none
def Xp:RS X st rNo:=⟨λ_ _ _ _ _ _ z=>by
 obtain⟨M,E,S,x,E',S',e,_⟩:=z
 cases e⟩
def Pd:RSs X rest rNo:=⟨λ_ _ _ _ _ _ z=>by
 obtain⟨M,E,S,x,E',S',e,_⟩:=z
 cases e⟩
noncomputable def JF(r:Rx)(f:Ex)(r2:Rx):Rx:=λE S=>match r E S with
 |some z=>Gc z
 |none=>(f E S).bind λq=>match q.1 with
  | .nx=>r2 q.2.1 q.2.2
  | .ret _=>none
def Fe(h1:RS X st r)(hb:DS X st f)(h2:RSs X rest r2)(hxe:zb (X.xe=λ_ _=>tN) ww):RSs X (st::rest) (JF r f r2):=⟨λpins s σ H Z I z=>by
 obtain⟨M,E,S,x,E',S',e,rr,ss,q⟩:=z
 unfold JF at e
 split at e
 .rename_i z' e1
  cases e
  refine uu (sZ (h1.pe pins s σ H Z I ⟨M,E,S,x,E',S',e1,rr,ss,q⟩) (λ_ _ z=>z.elim) λ_ _ z=>z)
 .obtain⟨⟨fl,E1,S1⟩,e1,e⟩:=Af e
  dsimp only at e
  split at e
  .refine uu (EM hxe (hb.pe pins s σ H {nx:=λσ' H'=>tR X.K X.mg r2 σ' H' Z,rt:=λ_ _=>tN} I ⟨M,E,S,.nx,E1,S1,e1,rr,ss,λσ' H' M' g' r' st'=>⟨M',E1,S1,x,E',S',e,r',st',λC od σ2 H2 M2 hm g2=>q C od σ2 H2 M2 hm (g'.trans g2)⟩⟩) λfl s1 w=>?_)
   cases fl with
   |next=>
    obtain⟨σ',H',I',q'⟩:=w
    exact h2.pe pins s1 σ' H' Z I' q'
   |ret v=>obtain⟨_,_,_,_,_,q'⟩:=w;exact q'.elim
   |brk=>obtain⟨_,_,_,q'⟩:=w;exact q'.elim
   |cont=>obtain⟨_,_,_,q'⟩:=w;exact q'.elim
  .cases e⟩
def Jt(h1:RS X st r):RSs X [st] r:=⟨λpins s σ H Z I z=>uu (sZ (h1.pe pins s σ H Z I z) (λ_ _ z=>z.elim) λ_ _ z=>z)⟩
noncomputable def rIf(k:Ev)(r1 r2:Rx):Rx:=λE S=>(k E S).bind λq=>match q.1 with
 | .bl true=>r1 E q.2
 | .bl false=>r2 E q.2
 |_=>none
def Wg(hc:DT X c k)(ha:RSs X a r1)(hb:RSs X b r2)(hxe:zb (X.xe=λ_ _=>tN) ww):RS X (.If c a b pos) (rIf k r1 r2):=⟨λpins s σ H Z I z=>by
 obtain⟨M,E,S,x,E',S',e,rr,ss,q⟩:=z
 obtain⟨⟨w1,S1⟩,e1,e⟩:=Af e
 dsimp only at e
 split at e
 .refine wpAny_If (EM hxe (hc.pe pins s σ H (λd H1=>d=true/\tR X.K X.mg r1 σ H1 Z) I ⟨M,E,S,_,S1,e1,rr,ss,λH1 M1 g1 st1=>⟨rfl,M1,E,S1,x,E',S',e,rr.step g1.st,st1,λC od σ2 H2 M2 hm g2=>q C od σ2 H2 M2 hm (g1.trans g2)⟩⟩) λd s1 w=>?_)
  obtain⟨H1,I1,rfl,q1⟩:=w
  exact ha.pe pins s1 σ H1 Z I1 q1
 .refine wpAny_If (EM hxe (hc.pe pins s σ H (λd H1=>d=false/\tR X.K X.mg r2 σ H1 Z) I ⟨M,E,S,_,S1,e1,rr,ss,λH1 M1 g1 st1=>⟨rfl,M1,E,S1,x,E',S',e,rr.step g1.st,st1,λC od σ2 H2 M2 hm g2=>q C od σ2 H2 M2 hm (g1.trans g2)⟩⟩) λd s1 w=>?_)
  obtain⟨H1,I1,rfl,q1⟩:=w
  exact hb.pe pins s1 σ H1 Z I1 q1
 .cases e⟩
end
abbrev VEm:Wp qX:=[.type "ValueError",.type "Exception",.type "BaseException",.type "object"]
structure XcD(K:W1)(mg:Str->qR qX)(x:Str):Prop where
 ex:∃C,mg x=Gc (.ref C)/\xq K C VEm "ValueError.__new__"=true
def k9(X:K.In h)(G:h.Ns mainGlobals mg)(e:rM K mainGlobals x=Gc (Gc (.ref C)))(q:xq K C VEm "ValueError.__new__"=true):XcD K mg x:=⟨C,uC X G e,q⟩
def Zy(X:K.In h)(q:xq K C bmB newId=true):∃bm N nm q bs hdct sn sub ab col dd k0 k1 k2 k3 k5 mN,h.get? C=Gc (excClassObj nm q C N bs bm hdct sn sub ab col dd k0 k1 k2 k3 k5 newId)/\h.Ns N mN/\mN "__init__"=none/\OwnTail h bmB bm:=by
 unfold xq at q
 split at q
 case h_2=>cases q
 rename_i dd cd sl ho
 split at q
 case h_2=>cases q
 rename_i C' bm k0 k1 k2 k3 n k5 hm hs
 simp only[qe,uJ,xj]at q
 obtain⟨⟨⟨⟨⟨rfl,rfl⟩,hdel⟩,ht⟩,hok⟩,hni⟩:=q
 have hsl:sl= #[k0,k1,k2,k3,Gc (.builtin n),k5]:=Array.toList_inj.mp hs
 obtain⟨nm,bs,mro,ns,qn,hd,sn,sub,ab,col,del⟩:=cd
 dsimp only at hm hdel hok hni
 subst hm hdel hsl
 exact⟨bm,ns,nm,qn,bs,hd,sn,sub,ab,col,dd,k0,k1,k2,k3,k5,_,X _ _ ho,.of_isNs (PySem.W.isNs_of_in X hok),PySem.W.nsMap_none_of_in X hok hni,PySem.W.tail_of_in X ht⟩
noncomputable def Ea(x:Str)(fs:Wp Ev):Rx:=λE S=>(evs fs E S).map λq=>(⟨x,none⟩,E,q.2)
def Ky{np cpos pos:Pos}(hc:X.calm=true)(xc:XcD X.K X.mg x)(hg:Gl X x)(ha:DEs X (e::es) fs)(hl:zb (fs.length<=sizeLine) xz)(hxe:zb (X.xe=λ_ _=>tN) ww)(hx:zb (X.ex=[]) ww)(hdb:zb ((x==("__debug__":Str))=false) xz)(he:zb (qc (e::es) X.env=(false,eval e X.env)::qc es X.env) ww)(hpl:zb ((backTo cpos (qc es X.env)).any (·.1)=false) ww):RS X (.Raise (Gc (.Call (.Name x np) (e::es) [] cpos)) none pos) (Ea x fs):=⟨by
 intro pins s σ H Z I h
 obtain⟨C,hm,hex⟩:=xc.ex
 obtain⟨M,E,S,y,E',S',e0,r,st,q⟩:=h
 obtain⟨⟨ds,S1⟩,e1,e2⟩:=Hz e0
 cases e2
 obtain⟨tl,N,nm,qn,bs,hdct,sn,sub,ab,col,dd,k0,k1,k2,k3,k5,mN,hC,hN,hni,T⟩:=Zy I.ok.mod.kin hex
 refine wpAny_Raise_call_subT (C:=C) (nm:=nm) (q:=qn) (N:=N) (bs:=bs) (bm:=tl) (hdct:=hdct) (sn:=sn) (sub:=sub) (ab:=ab) (col:=col) (dd:=dd) (k0:=k0) (k1:=k1) (k2:=k2) (k3:=k3) (k5:=k5)
  yy (mN:=mN) (T.hasType yy.hasBase) (I.ok.hd hc) (by rw[he];show(false||(backTo cpos (qc es X.env)).any (·.1))=false;rw[hpl];rfl) hni (J4 I hg hm ⟨rfl,?_⟩ hdb)
 have ha':=ha.pe cpos pins s σ H (λvs H1=>∃M1,Gr M H M1 H1/\StR X.K M1 S1 H1/\Ab X.K M1 H1 vs ds) I (FW e1 r st λvs H1 M1 g1 st1 r1=>⟨M1,g1,st1,r1⟩)
 rw[he]at ha'⊢
 refine yq (EM hxe ha' λus s1 z=>?_)
 obtain⟨vs,H1,I1,rv,M1,g1,st1,r1⟩:=z
 refine⟨rfl,by rw[<-rv.length,r1.length,HH e1];exact hl,I1.bk _ _ hC,hN.keeps I1.bk,T.keeps I1.bk,λh' ea hmd=>?_⟩
 obtain⟨t,w1,w2,w3⟩:=hmd.there
 refine⟨ea,C,none,σ,H1,rfl,I1.kept (t':=s1.toks) hmd.keeps,q C none σ H1 M1 ⟨hm,λ_ z=>nomatch z⟩ g1 (r.step g1.st) st1,?_,λz=>D9 I1 hx _ z hmd.new,_,_,.ref t,.none,w1,rfl,rfl,rfl,rfl,.inl rfl,λ_ z=>nomatch z⟩
 cases o:H1 ea with
 |none=>rfl
 |some ho=>
  obtain⟨ob,z⟩:=Ds.there (I1.hok ea ho o)
  rw[hmd.new]at z;cases z⟩
abbrev Cx.mrk(X:Cx)(e:qg):Cx:={X with A:=X.A.mark (Gc (.ref e)),calm:=false}
section
variable{X:Cx}{σ:St}{H:Hp}{e:qg}
def dM(ok:X.Ok):(Cx.mrk X e).Ok:=⟨ok.mod,ok.kind,ok.glob,ok.blt,ok.above,ok.inj,ok.has,ok.cab,(λz=>nomatch z),ok.frames,ok.stk,ok.exf,ok.bs,ok.bsz,ok.X7,ok.aP,ok.P4,ok.frf⟩
def ak(I:Inv X pins σ H s):Inv (Cx.mrk X e) pins σ H s:=⟨dM I.ok,I.os,I.bare,I.base,I.loc,I.cell,I.free,I.Jd,I.pin,I.hok,I.len⟩
def JK(ok:X.Ok)(I:Inv (Cx.mrk X e) pins σ H s):Inv X pins σ H s:=⟨ok,I.os,I.bare,I.base,I.loc,I.cell,I.free,I.Jd,I.pin,I.hok,I.len⟩
def Wd{D:Ends}(ok:X.Ok)(h:SP (Cx.mrk X e) pins D f s):SP X pins D f s:=by
 cases f with
 |next=>obtain⟨σ',H',I,q⟩:=h;exact⟨σ',H',JK ok I,q⟩
 |brk=>obtain⟨σ',H',I,q⟩:=h;exact⟨σ',H',JK ok I,q⟩
 |cont=>obtain⟨σ',H',I,q⟩:=h;exact⟨σ',H',JK ok I,q⟩
 |ret u=>obtain⟨v,σ',H',I,r,q⟩:=h;exact⟨v,σ',H',JK ok I,r,q⟩
end
structure HS(X:Cx)(hs:Wp xr)(g:Tg->Ex):Prop where
 pe:∀(x:Tg) (C:qg) (od:qR qg) (pins:Wp (qg×Obj)) (s:qj) (σ:St) (H:Hp) (D:Ends) (e:qg),jF X.mg x C od H->Inv X pins σ H s->dI (bq X pins) H s.heap e C od->tX X.K (g x) D σ H->
  wpAny (model X.prog X.w) X.A (handleBy (.ref e) X.env hs) (SP X pins D) (λ_ _=>tN) s
noncomputable def gNo:Tg->Ex:=λ_ _ _=>none
def PB:HS X [] gNo:=⟨λ_ _ _ _ _ _ _ _ _ _ _ _ z=>by
 obtain⟨M,E,S,fl,E',S',e,_⟩:=z
 cases e⟩
structure XmD(K:W1)(mg:Str->qR qX)(xs:Wp Str)(y:Str):Prop where
 ex:∃C',mg y=Gc (.ref C')/\∀x∈xs,∀C,mg x=Gc (.ref C)->vP K (.ref C) (.ref C')=Gc (x==y)
noncomputable def gOr(xs:Wp Str)(y:Str)(f:Ex)(g:Tg->Ex):Tg->Ex:=λx=>if x.nm∈xs then(if(x.nm==y)=true then f else g x)else Ba
def C5{X:Cx}{xs:Wp Str}{y:Str}{b₀:rQ}{np pos:Pos}{rest:Wp xr}(xm:XmD X.K X.mg xs y)(hg:Gl X y)(hf:∀e,DSs (Cx.mrk X e) (b₀::suite) f)(hr:HS X rest g)(hxe:zb (X.xe=λ_ _=>tN) ww)(hx:zb (X.ex=[]) ww)(hst:zb (X.stack=X.env::X.outer) ww)(hfr:zb (X.env.frame=Gc X.env.locals) ww)(hdb:zb ((y==("__debug__":Str))=false) xz):HS X (.ExceptHandler (Gc (.Name y np)) none (b₀::suite) pos::rest) (gOr xs y f g):=⟨by
 intro x C od pins s σ H D e tg I fl z
 have hm:=tg.1
 obtain⟨C',hm',hex⟩:=xm.ex
 have hin:x.nm∈xs:=by
  by_cases h:x.nm∈xs
  .exact h
  .obtain⟨M,E,S,fl,E',S',e,_⟩:=z
   unfold gOr at e
   rw[rA h]at e
   cases e
 have z':tX X.K (if(x.nm==y)=true then f else g x) D σ H:=by
  unfold gOr at z
  rw[rB hin]at z
  exact z
 have ex:=hex x.nm hin C hm
 obtain⟨oe,vs,a0,T,oT,ts,h1,h2,_⟩:=id fl.ex
 have LT:PySem.W.Looks (model X.prog X.w) s.heap (typeOf (.ref e)) (.ref C):=by
  rw[<-h2];exact(PySem.W.Looks.ld h1).andThen .now
 refine wpAny_handleBy_cons (codeAny_handlers_test (vK I.ok.kind hg (xu (by rw[I.ok.glob];exact I.mod.glob.keeps I.bk) hm' ?_) hdb)) (by intro q;cases q)
 refine PySem.W.exm_one I.kIn LT ex _ _ _ _ (λ_ _ q=>q) ?_
 cases hb:(x.nm==y)with
 |true=>
  rw[rB hb]at z'
  refine codeAny_handlers_suite (AAD AAE (Vk I fl λh' t=>?_))
  have I':=ak (e:=e) (Tc I hst hfr hx t)
  exact AAD AAE (EM (X:=Cx.mrk X e) hxe ((hf e).pe pins _ σ H D I' z') λfl s2 w=>Wd I.ok w)
 |false=>
  rw[rA (by rw[hb];decide)]at z'
  exact hr.pe x C od pins s σ H D e tg I fl z'⟩
section
variable{X:Cx}{pos:Pos}
end
def ja(X:K.In h)(G:h.Ns mainGlobals mg)(e:rM K mainGlobals y=Gc (Gc (.ref C')))(t:∀x∈xs,∃C,rM K mainGlobals x=Gc (Gc (.ref C))/\vP K (.ref C) (.ref C')=Gc (x==y)):XmD K mg xs y:=⟨C',uC X G e,λx hx C hm=>by
 obtain⟨C2,e2,q⟩:=t x hx
 have:=hm.symm.trans (uC X G e2)
 cases this
 exact q⟩
def all_nil{p:Str->Prop}:∀x∈([]:Wp Str),p x:=λ_ z=>nomatch z
def all_cons{p:Str->Prop}(h:p x)(t:∀x∈xs,p x):∀y∈x::xs,p y:=λy m=>by
 rcases qY.mp m with rfl|m
 .exact h
 .exact t y m
noncomputable def T8(n:Nat):En->Nat:=λ_=>n
end Mi
end
noncomputable section
namespace Mi
open PySem PySem.Spec L2 PyProof.Rows
abbrev eIx(a b:Ev):Ev:=eOp (o2 wIx) [a,b]
abbrev eI(n:Int):Ev:=eC (.int n)
def scM{N P:Wp Str}{sc:tu}(a:zb (sc.kind=.function) ww)(b:zb (sc.isCoroutine=false) ww)(c:zb (sc.isGenerator=false) ww)(d:zb N.Nodup wS)(e:zb (N.take P.length=P) ww)(f:zb (∀x∈P,sc.names.lookup x=Gc .local\/sc.names.lookup x=Gc .cell) wS)(g:zb (∀y∈sc.names,y.2≠.free) wS):Av N P sc:=⟨a,b,c,d,e,f,g⟩
def csM{N:Wp Str}{osc:tu}{N':Wp Str}{ix:Wp (qR Nat)}{scope:tu}(a:zb (scope.kind=.function) ww)(b:zb (∀y∈scope.names,y.2=.cell->scope.names.lookup y.1=Gc .cell) wS)(c:zb (∀y∈scope.names,y.2=.local->scope.names.lookup y.1=Gc .local) wS)(d:zb (∀y∈scope.names,y.2=.free->(osc.names.lookup y.1=Gc .cell\/osc.names.lookup y.1=Gc .free)) wS)(e:zb (Qr N osc scope N' ix=true) wS):AQ N osc N' ix scope:=⟨a,b,c,d,e⟩
def len0{α:Type}{us:Wp α}(h:us.length=0):us=[]:=List.eq_nil_of_length_eq_zero h
def kz{α:Type}{us:Wp α}(h:us.length=n+1):∃a r,us=a::r/\r.length=n:=by
 cases us with
 |nil=>cases h
 |cons a r=>exact⟨a,r,rfl,Nat.succ.inj h⟩
def QY{α:Type}{us:Wp α}(h:us.length=1):∃a,us=[a]:=by
 obtain⟨a,r,rfl,k⟩:=kz h
 obtain rfl:=len0 k
 exact⟨a,rfl⟩
def f9{α:Type}{us:Wp α}(h:us.length=2):∃a b,us=[a,b]:=by
 obtain⟨a,r,rfl,k⟩:=kz h
 obtain⟨b,rfl⟩:=QY k
 exact⟨a,b,rfl⟩
def mE{α:Type}{us:Wp α}(h:us.length=3):∃a b c,us=[a,b,c]:=by
 obtain⟨a,r,rfl,k⟩:=kz h
 obtain⟨b,c,rfl⟩:=f9 k
 exact⟨a,b,c,rfl⟩
def nB{us:Wp qX}(h:us.length=n):∃f,us=(sY n).map f:=by
 refine⟨λi=>us.getD i .none,?_⟩
 subst h
 apply List.ext_getElem
 .simp
 .intro i h1 h2
  rw[List.getElem_map,List.getElem_range,qu,qZ h1];rfl
def BnR(x:Str)(st:rQ)(ps:Wp Str):Prop:=∀(kV doc pm:qX) (an:qR qg) (cdv ct:qX) (f:Nat->qX),bindArgs (uA x x (GV st) (A8 st) (AB st) .none kV doc pm an cdv ct) ⟨(sY ps.length).map f,[]⟩=pure (ps.zip ((sY ps.length).map f))
def bnR{K:W1}{st:rQ}(F:Fun K x x st f fd)(h:BnR x st ps):Binds K fd ps []:=F.binds λa b c d e g us hl=>by
 obtain⟨k,rfl⟩:=nB hl
 exact h a b c d e g k
section
variable{P:sF}{w:tK}{K:W1}
def dfM{st:rQ} k(S:St.Src K mg x st)(sc:Av N ps (AB st))(hb:∀{f} {cdv} {A} {outer} {s} {H} {E},Cb k (A.deeper (qv x (AB st) s.heap.objs.size f cdv))->(A.deeper (qv x (AB st) s.heap.objs.size f cdv)).units+100<cLine->DSs (Ij CX0 P w K mg base N x (AB st) f cdv A outer s H E).nox (A8 st) b)(hp:zb (ps.length=np) ww)(hbi:zb (BnR x st ps) wP):St.Dfn P w K mg base x (k+1) ps (spD K np (AO (AU N.length b))):=gG S sc hp (λ_ _ F=>bnR F hbi) λ_ _ _ _ _ _ _ hr=>hb hr (J9 hr)
end
def deM{X:Cx}{k k' np:Nat}{x:Str}{ps:Wp Str}{p pos:Pos}(d:St.Dfn X.prog X.w X.K X.mg X.base x k ps (spD X.K np f))(hr:Cb k' X.A)(ha:DEs X (e::es) fs)(hk:zb (k<=k') wE)(hg:zb (Gl X x) v6)(hn:zb (fs.length=np) ww)(hdb:zb ((x==("__debug__":Str))=false) xz)(he:zb (qc (e::es) X.env=(false,eval e X.env)::qc es X.env) ww)(hpl:zb ((backTo pos (qc es X.env)).any (·.1)=false) ww):DE X (.Call (.Name x p) (e::es) [] pos) (AD f fs):=aj d (hr.mono hk) hg ha hn hdb he hpl
end Mi
end
noncomputable section
namespace Mi
open PySem PySem.Spec L2 PyProof.Rows
def BmB(mg:Str->qR qX)(base:sS):Prop:=
 ∃bm o,mg "__builtins__"=Gc (.ref bm)/\bm≠builtinsNs/\bm≠mainGlobals/\base.get? bm=Gc o/\o.cls=.type "module" /\o.dict=Gc builtinsNs/\o.data=.plain
def KA.hd{K:W1}(k:KA K c P)(X:K.In h):PySem.W.CodeHd h c P:=by
 obtain⟨o,vs,file,tf,flags,tg,inF,text,tt,h0,r⟩:=k
 exact⟨o,vs,file,tf,flags,tg,inF,text,tt,X _ _ h0,r⟩
def Rz(h:TriplesOk l)(e:codeAmong pos (l++[rawInt a,rawInt b,v])=Gc cv):codeAmong pos l=Gc cv\/cv=v:=by
 induction l using TriplesOk.induct with
 |case1=>
  rw[rH,vU]at e
  unfold rawInt at e
  dsimp only at e
  split at e
  .cases e;exact .inr rfl
  .rw[vU]at e;cases e
 |case2 i t1 j t2 w r ih=>
  rw[TriplesOk.eq_def]at h
  rw[rX,rX,rX,vU]at e
  rw[vU]
  dsimp only at e h⊢
  split at e
  .rename_i z;rw[rB z];exact .inl e
  .rename_i z;rw[rA z];exact ih h e
 |case3 l n1 n2=>
  rw[TriplesOk.eq_def]at h
  split at h
  .exact(n1 rfl).elim
  .exact(n2 _ _ _ _ _ _ rfl).elim
  .exact h.elim
structure P5(X:Cx)(pins:Wp (qg×Obj))(σ:Sg)(H:Hp)(s:qj)(x:Str)(P:qg)(params:Arguments)(body:sG)(sc:tu)(clos:Wp (Str×qg))(f:qg)(H':Hp)(s':qj):Prop where
 inv:Inv X pins σ H' s'
 fn:∃pm c' ctv o,s'.heap.get? f=Gc (yc "<lambda>" (Lx x) params body sc clos pm c' ctv)/\H' c'=Gc (.frz o (.own 0))/\TM (Lx x) o
 new:s.heap.objs.size<=f
 tab:∃ps,H' P=Gc (.tbl ps)/\SG X.K H' x P ps
 keep:∀b o,H b=Gc o->b≠P->H' b=Gc o
 none:H' f=none
def Wr{X:Cx}{σ:Sg}(I:Inv X pins σ H s)(hqual:X.env.qual=x++(".<locals>.":Str))(hdf:defaultsOf params X.env=([],[]))(hcl:closureFor sc X.env=pure clos)(hcode:X.env.code=.ref c)(hcd:KA X.K c P)(bm:BmB X.mg X.base)(hP:H P=Gc (.tbl ps))(tok:SG X.K H x P ps)(hQ:∀f H' s',P5 X pins σ H s x P params body sc clos f H' s'->Q (.ref f) s'):wpAny (model X.prog X.w) X.A (eval (.Lambda params body sc pos) X.env) Q E s:=by
 have hG:s.heap.Ns mainGlobals X.mg:=I.mod.glob.keeps I.bk
 have hCH:=hcd.hd I.kIn
 have hT:s.heap.get? P=Gc (wD ps):=I.hok P _ hP
 have hq:X.env.qual++("<lambda>":Str)=Lx x:=by rw[hqual];rfl
 obtain⟨b0,ob,m1,m2,m3,m4,m5,m6,m7⟩:=bm
 have nb:b0≠P:=λz=>by
  have:=(I.bs b0 ob m4).2
  rw[z,hP]at this;cases this
 have hB:s.heap.BuiltinsAt X.mg P:=⟨b0,ob,m1,m2,m3,nb,I.bk _ _ m4,m5,m6,m7⟩
 have gP:mainGlobals≠P:=λz=>by
  obtain⟨o,es,ep,ho,_⟩:=id I.mod.glob
  have:=(I.bs _ o ho).2
  rw[z,hP]at this;cases this
 refine PySem.W.kla_eval hdf ?_
 cases hh:codeAmong pos ps.toList with
 |some cv=>
  refine PySem.W.kla_makeFunctionHit hcl I.ok.glob hG hcode hCH hT tok.tri hh hB λctv h' tk kp sz=>?_
  obtain⟨c',o,rfl,hz,vs,t,n1,n2⟩:=tok.cod pos cv hh
  have hcc:s.heap.get? c'=Gc o:=(I.hok c' _ hz).1
  have kp2:∀b u,s.heap.get? b=Gc u->(h'.push {cls:=xG "function",data:=Data.func (wF "<lambda>" (X.env.qual++("<lambda>":Str)) params body sc clos ((X.mg "__name__").getD rJ) (.ref c') ctv)}).get? b=Gc u:=λb u e=>qO _ (kp b u e)
  refine hQ _ H _ ⟨I.kept (t':=tk) kp2,⟨_,c',ctv,o,by rw[<-hq];exact qt _ rfl,hz,vs,t,n1,n2⟩,sz,⟨ps,hP,tok⟩,λ_ _ e _=>e,I.hok.fresh sz⟩
 |none=>
  refine PySem.W.kla_makeFunction hcl I.ok.glob hG hcode hCH hT tok.tri hh gP hB λc' ctv h' tk ext l1 l2 crec ht=>?_
  rw[hq]at crec
  generalize hfo:(yc "<lambda>" (X.env.qual++("<lambda>":Str)) params body sc clos ((X.mg "__name__").getD rJ) c' ctv)=fo
  have hfo2:fo=yc "<lambda>" (Lx x) params body sc clos ((X.mg "__name__").getD rJ) c' ctv:=by rw[<-hfo,hq]
  obtain⟨c1,o,vs,t,ec,ho,hd,hv⟩:=id crec
  cases ec
  have kp:∀b u,b≠P->s.heap.get? b=Gc u->(h'.push fo).get? b=Gc u:=λb u n e=>qO _ (ext b u n e)
  have nH:H c'=none:=I.hok.fresh l1
  have cP:c'≠P:=λz=>by rw[z,hP]at nH;cases nH
  generalize hmo:ps++ #[rawInt ↑pos.line,rawInt ↑pos.col,q9 c']=ps2 at ht
  let H':Hp:=upd (upd H c' (.frz o (.own 0))) P (.tbl ps2)
  have hk:∀b u,H b=Gc u->b≠P->H' b=Gc u:=λb u e n=>by
   show upd (upd H c' (.frz o (.own 0))) P (.tbl ps2) b=Gc u
   rw[Ae n,Ae (λz=>by rw[z,nH]at e;cases e)]
   exact e
  have hc1:H' c'=Gc (.frz o (.own 0)):=by
   show upd (upd H c' (.frz o (.own 0))) P (.tbl ps2) c'=_
   rw[Ae cP,Ax]
  have hP':H' P=Gc (.tbl ps2):=Ax
  have hn:∀b,b≠P->b≠c'->H b=none->H' b=none:=λb n1 n2 e=>by
   show upd (upd H c' (.frz o (.own 0))) P (.tbl ps2) b=none
   rw[Ae n1,Ae n2];exact e
  have pP:(h'.push fo).get? P=Gc (wD ps2):=qO _ ht
  have po:(h'.push fo).get? c'=Gc o:=qO _ ho
  have fz:fo.isFreed=false:=by rw[<-hfo];rfl
  have un:Un X.fs [] H H' s.heap (h'.push fo):=by
   refine⟨λb u e n _ _=>kp b u (λz=>?_) e,λb u e n _ _=>⟨u.slots,kp b u (λz=>?_) e⟩,λb u e n _=>hn b (λz=>?_) (λz=>?_) n,λb u e _=>?_,λb xs e=>hk b _ e (λz=>?_),λb u v e=>hk b _ e (λz=>?_),λb qs e=>?_⟩
   .rw[z,hP]at n;cases n
   .rw[z,hP]at n;cases n
   .rw[z,hP]at n;cases n
   .subst z;exact absurd (qS (ql e) l1) (sV _)
   .by_cases z:b=P
    .subst z;exact⟨_,pP⟩
    .exact⟨u,kp b u z e⟩
   .rw[z,hP]at e;cases e
   .rw[z,hP]at e;cases e
   .by_cases z:b=P
    .subst z
     rw[hP]at e;cases e
     exact⟨_,by rw[hmo];exact hP'⟩
    .exact⟨#[],by rw[Array.append_empty];exact hk b _ e z⟩
  have hok:HOk X.prog X.w H' (h'.push fo):=λa u q=>by
   by_cases z:a=P
   .subst z
    rw[hP']at q;cases q
    exact pP
   .by_cases z2:a=c'
    .subst z2
     rw[hc1]at q;cases q
     exact⟨po,o,po⟩
    .have q0:H a=Gc u:=by
      have:H' a=H a:=by
       show upd (upd H c' (.frz o (.own 0))) P (.tbl ps2) a=_
       rw[Ae z,Ae z2]
      rw[<-this];exact q
     refine(I.hok a u q0).V7 (λb v hb e=>kp b v (λzz=>?_) e) (λb e=>hk b _ e (λzz=>?_)) λb xs e=>hk b _ e (λzz=>?_)
     .rcases hb with hb|hb
      .exact z (hb.symm.trans zz)
      .rw[zz,hP]at hb;cases hb
     .rw[zz,hP]at e;cases e
     .rw[zz,hP]at e;cases e
  have sz:s.heap.objs.size<=h'.objs.size:=uO (q8 l1 l2)
  have nF:H' h'.objs.size=none:=hn _ (λz=>by rw[<-z]at ht;exact absurd (ql ht) (sV _)) (λz=>by rw[<-z]at l2;exact sV _ l2) (I.hok.fresh sz)
  refine hQ _ H' _ ⟨I.un (t':=tk) un hok,⟨_,c',ctv,o,by rw[<-hfo2];exact qt _ fz,hc1,vs,t,hd,hv⟩,sz,⟨ps2,hP',?_⟩,hk,nF⟩
  refine⟨by rw[<-hmo];simpa using TriplesOk_snoc pos.line pos.col (.ref c') ps.toList tok.tri,tok.tat,λpos' cv e=>?_⟩
  rw[<-hmo]at e
  rcases Rz (l:=ps.toList) tok.tri (by simpa using e)with z|z
  .obtain⟨c2,o2,z1,z2,z3⟩:=tok.cod pos' cv z
   exact⟨c2,o2,z1,hk _ _ z2 (λzz=>by rw[zz,hP]at z2;cases z2),z3⟩
  .exact⟨c',o,z,hc1,vs,t,hd,hv⟩
end Mi
end
noncomputable section
namespace Mi
open PySem PySem.Spec L2
section
open PyProof.Rows (Below)
structure MI(H:Hp)(h:sS)(x:Str)(body:sG)(sc:tu)(clos:Wp (Str×qg))(N:Wp Str)(σc:Sg)(f:qg):Prop where
 fn:∃params pm c' ctv o oc,h.get? f=Gc o/\o.data=.func (wF "<lambda>" (Lx x) params body sc clos pm (.ref c') ctv)/\H c'=Gc (.frz oc (.own 0))/\TM (Lx x) oc/\bindArgs (wF "<lambda>" (Lx x) params body sc clos pm (.ref c') ctv) ⟨[],[]⟩=pure []
 nof:H f=none
 cell:∀y c,clos.lookup y=Gc c->(∃v,h.IsCell c v)/\H c=none
 inj:∀y z c,clos.lookup y=Gc c->clos.lookup z=Gc c->y=z
 has:∀y,(sc.names.lookup y=Gc .cell\/sc.names.lookup y=Gc .free)->∃c,clos.lookup y=Gc c
 val:∀(i:Nat) (y:Str) (v:V),N[i]?=Gc y->σc[i]?=Gc (Gc v)->Vis sc y->sc.names.lookup y=Gc .free/\∃c u,clos.lookup y=Gc c/\h.IsCell c (Gc u)/\RelV v u
 len:σc.length=N.length
 kind:sc.kind=.function
 co:sc.isCoroutine=false
 gen:sc.isGenerator=false
 Mp:∀y∈sc.names,y.2≠.cell
def MI.later(L:MI H h x body sc clos N σc f)(u:Un fs [] H H' h h'):MI H' h' x body sc clos N σc f:=by
 have cl:∀c v,h.IsCell c v->H c=none->h'.IsCell c v:=λc v ⟨o,ho,hd⟩ n=>by
  obtain⟨sl,q⟩:=u.any ho n (by simp)
  exact⟨_,q,hd⟩
 obtain⟨params,pm,c',ctv,o,oc,h1,h2,h3,h4,h5⟩:=L.fn
 obtain⟨sl,q⟩:=u.any h1 L.nof (by simp)
 refine⟨⟨params,pm,c',ctv,_,oc,q,h2,u.Uh _ _ _ h3,h4,h5⟩,u.free f o h1 L.nof (by simp),λy c e=>?_,L.inj,L.has,λi y v e1 e2 e3=>?_,L.len,L.kind,L.co,L.gen,L.Mp⟩
 .obtain⟨⟨v,z⟩,n⟩:=L.cell y c e
  obtain⟨o',ho',_⟩:=id z
  exact⟨⟨v,cl c v z n⟩,u.free c o' ho' n (by simp)⟩
 .obtain⟨k,c,w,e,z,r⟩:=L.val i y v e1 e2 e3
  exact⟨k,c,w,e,cl c _ z (L.cell y c e).2,r⟩
noncomputable def MH(P:sF)(w:tK)(K:W1)(mg:Str->qR qX)(base:sS)(N:Wp Str)(x:Str)(sc:tu)(clos:Wp (Str×qg))(f c':qg)(A:uN)(outer:Wp PySem.Env)(s:qj)(H:Hp):Cx where
 prog:=P
 w:=w
 K:=K
 mg:=mg
 base:=base
 A:=A.deeper (uD (Lx x) sc s.heap.objs.size f (.ref c') clos)
 N:=N
 s₀:=s
 H₀:=H
 env:=uD (Lx x) sc s.heap.objs.size f (.ref c') clos
 outer:=outer
 stack:=uD (Lx x) sc s.heap.objs.size f (.ref c') clos::outer
 ex:=[]
 calm:=true
 fn:=λ_=>false
 pn:=[]
 xe:=λ_ _=>tN
def Ui(L:MI H s.heap x body sc clos N σc f)(hd:A.handled=none)(e0:YE P w K mg base A outer s H)(hns:h'.Ns s.heap.objs.size m)(kp:∀b o,s.heap.get? b=Gc o->h'.get? b=Gc o):Inv (MH P w K mg base N x sc clos f c' A outer s H) [] σc H {s with heap:=h',toks:=tk}:=by
 have noA:∀b:qg,b∉(MH P w K mg base N x sc clos f c' A outer s H).ex:=λb z=>absurd (show b∈([]:Wp qg)from z) (by simp)
 have cl:∀c v,s.heap.IsCell c v->h'.IsCell c v:=λc v ⟨o,ho,hd⟩=>⟨o,kp _ _ ho,hd⟩
 refine⟨⟨e0.mod,L.kind,rfl,rfl,qW _,L.inj,L.has,λy c z _=>absurd z (by intro q;cases q),λ_=>hd,yp e0.frames,.inr ⟨rfl,rfl⟩,λb z=>absurd z (noA b),e0.bs,e0.bsz,λb _ _=>noA b,λb z=>absurd z (noA b),e0.P4,e0.frf⟩,
  rfl,e0.bare,Un.kept kp,⟨m,hns,λi y v e1 e2 e3=>?_⟩,λy c e=>?_,e0.hok.fresh (qW _),λy c e=>(L.cell y c e).2,λp hp=>absurd (show p∈([]:Wp (qg×Obj))from hp) (by simp),e0.hok.kept kp,L.len⟩
 .obtain⟨k,c,u,e,z,r⟩:=L.val i y v e1 e2 e3
  exact⟨u,r,.inr ⟨.inr k,c,e,cl c _ z⟩⟩
 .obtain⟨⟨v,z⟩,_⟩:=L.cell y c e
  exact⟨v,cl c v z⟩
def aq{X:Cx}{σ:Sg}(I:Inv X pins σ H s)(hr:Cb (k+1) X.A)(L:MI H s.heap x body sc clos N σc f)(hb:∀c',Cb k (X.A.deeper (uD (Lx x) sc s.heap.objs.size f (.ref c') clos))->PE (MH X.prog X.w X.K X.mg X.base N x sc clos f c' X.A X.stack s H) body t)(ht:t σc H Q):wpAny (model X.prog X.w) X.A (call (.ref f) []) (EP X pins σ Q) X.xe s:=by
 obtain⟨params,pm,c',ctv,o,oc,h1,h2,h3,h4,h5⟩:=L.fn
 have cr:s.heap.CodeRec (.ref c') (Lx x):=by
  obtain⟨vs,t,n1,n2⟩:=h4
  exact⟨c',oc,vs,t,rfl,(I.hok c' _ h3).1,n1,n2⟩
 refine vo (yz hr.depth h1 h2 L.co L.gen rfl cr ?_)
 rw[h5]
 refine qm (y0 L.Mp (λ_ z=>nomatch z) (λh' hns sb=>?_) L.kind)
 have kp:∀b ob,s.heap.get? b=Gc ob->h'.get? b=Gc ob:=λb ob e=>by
  rw[sb.2 b (rK (ql e))]
  exact qO _ e
 have J:=Ui (c':=c') (tk:=s.toks+0) L hr.hd I.YK hns kp
 refine⟨I.nolimit.keeps kp,y2 (sZ (hb c' (hr.deeper _) [] _ σc H Q J ht) (λu s' z=>?_) λ_ _ z=>z.elim)⟩
 obtain⟨v,H',J',rv,q⟩:=z
 exact I.after ⟨v,H',J'.os,J'.bare,J'.base,J'.hok,rv,q⟩
def X6{X:Cx}{σ:Sg}(I:Inv X pins σ H s)(hr:Cb (k+1) X.A)(L:MI H s.heap x body sc clos N σc f)(hx:X.ex=[])(hb:∀c',Cb k (X.A.deeper (uD (Lx x) sc s.heap.objs.size f (.ref c') clos))->PXe (MH X.prog X.w X.K X.mg X.base N x sc clos f c' X.A X.stack s H) body t)(ht:t σc H λC od _ H'=>Z C od σ H'):wpAny (model X.prog X.w) X.A (call (.ref f) []) (λ_ _=>tN) (XP X pins Z) s:=by
 obtain⟨params,pm,c',ctv,o,oc,h1,h2,h3,h4,h5⟩:=L.fn
 have cr:s.heap.CodeRec (.ref c') (Lx x):=by
  obtain⟨vs,t,n1,n2⟩:=h4
  exact⟨c',oc,vs,t,rfl,(I.hok c' _ h3).1,n1,n2⟩
 refine vo (yz hr.depth h1 h2 L.co L.gen rfl cr ?_)
 rw[h5]
 refine qm (y0 L.Mp (λ_ z=>nomatch z) (λh' hns sb=>?_) L.kind)
 have kp:∀b ob,s.heap.get? b=Gc ob->h'.get? b=Gc ob:=λb ob e=>by
  rw[sb.2 b (rK (ql e))]
  exact qO _ e
 have J:=Ui (c':=c') (tk:=s.toks+0) L hr.hd I.YK hns kp
 refine⟨I.nolimit.keeps kp,y2 (sZ (hb c' (hr.deeper _) [] _ σc H _ J ht) (λ_ _ z=>z.elim) λev s' z=>?_)⟩
 obtain⟨e,C,od,σ',H',rfl,J',z,fl⟩:=z
 unfold leaving
 refine qP (NK J' J'.ok.frames rfl rfl fl (D9 J' rfl) λh2 t=>?_)
 have un:=UU J' rfl rfl rfl t
 have ok2:=QJ J' t
 have fl2:=t.fly.fly
 show XP X pins Z (.ref e) _
 exact⟨e,C,od,σ,H',rfl,I.U5 J'.os un ok2 J'.bare (λb z=>nomatch z),z,fl2.imp λb z=>.inl (D9 I hx b z)⟩
def XN{X:Cx}{x:Str}{body:sG}{sc:tu}{clos:Wp (Str×qg)}{N:Wp Str}{σc:Sg}{f:qg}{k i:Nat}{p pos:Pos}(hr:Cb (k+1) X.A)(hx:X.ex=[])(L:MI X.H₀ X.s₀.heap x body sc clos N σc f)(hb:∀c' s H,Cb k (X.A.deeper (uD (Lx x) sc s.heap.objs.size f (.ref c') clos))->PE (MH X.prog X.w X.K X.mg X.base N x sc clos f c' X.A X.stack s H) body t)(hN:X.N[i]?=Gc y)(hv:Vis X.env.scope y)(hd:zb ((y==("__debug__":Str))=false) xz)(hcd:zb ((y==("__classdict__":Str))=false) xz):PE X (.Call (.Name y p) [] [] pos) (λσ H Q=>σ[i]?=Gc (Gc (.ref f))/\t σc H Q):=by
 intro pins s σ H Q I h
 refine sf (thn (Oo hN hv hd hcd pins s σ H (λv H1=>v=.ref f/\H1=H) I ⟨.ref f,h.1,rfl,rfl⟩) λu s1 z=>?_)
 obtain⟨v,H1,I1,rv,rfl,rfl⟩:=z
 obtain rfl:u=.ref f:=rv
 have un:=I1.base
 rw[hx]at un
 have L1:=L.later un
 obtain⟨params,pm,c',ctv,o,oc,h1,h2,_⟩:=L1.fn
 refine zJ ⟨o.cls,o.dict,_,o.slots,by rw[h1];obtain⟨c,d,dt,sl⟩:=o;cases h2;rfl⟩ ?_
 exact aq I1 hr L1 (λc'=>hb c' s1 H1) h.2
def XC{X:Cx}{x:Str}{body:sG}{sc:tu}{clos:Wp (Str×qg)}{N:Wp Str}{σc:Sg}{f:qg}{k i:Nat}{p pos:Pos}(hr:Cb (k+1) X.A)(hx:X.ex=[])(L:MI X.H₀ X.s₀.heap x body sc clos N σc f)(hb:∀c' s H,Cb k (X.A.deeper (uD (Lx x) sc s.heap.objs.size f (.ref c') clos))->PXe (MH X.prog X.w X.K X.mg X.base N x sc clos f c' X.A X.stack s H) body t)(hN:X.N[i]?=Gc y)(hv:Vis X.env.scope y)(hxe:X.xe=λ_ _=>tN)(hd:zb ((y==("__debug__":Str))=false) xz)(hcd:zb ((y==("__classdict__":Str))=false) xz):PXe X (.Call (.Name y p) [] [] pos) (λσ H Z=>σ[i]?=Gc (Gc (.ref f))/\t σc H λC od _ H'=>Z C od σ H'):=by
 intro pins s σ H Z I h
 refine sf (EM hxe (Oo hN hv hd hcd pins s σ H (λv H1=>v=.ref f/\H1=H) I ⟨.ref f,h.1,rfl,rfl⟩) λu s1 z=>?_)
 obtain⟨v,H1,I1,rv,rfl,rfl⟩:=z
 obtain rfl:u=.ref f:=rv
 have un:=I1.base
 rw[hx]at un
 have L1:=L.later un
 obtain⟨params,pm,c',ctv,o,oc,h1,h2,_⟩:=L1.fn
 refine zJ ⟨o.cls,o.dict,_,o.slots,by rw[h1];obtain⟨c,d,dt,sl⟩:=o;cases h2;rfl⟩ ?_
 exact X6 I1 hr L1 hx (λc'=>hb c' s1 H1) h.2
end
structure Fj(N:Wp Str)(osc:tu)(N':Wp Str)(G6:Wp Nat)(sc:tu):Prop where
 kind:sc.kind=.function
 co:sc.isCoroutine=false
 gen:sc.isGenerator=false
 Mp:∀y∈sc.names,y.2≠.cell
 free:∀y∈sc.names,y.2=.free->osc.names.lookup y.1=Gc .cell
 len:G6.length=N'.length
 G6:∀z∈N'.zip G6,N[z.2]?=Gc z.1/\osc.names.lookup z.1=Gc .cell/\sc.names.lookup z.1=Gc .free
noncomputable def Im{α:Type}(G6:Wp Nat)(σ:Wp (qR α)):Wp (qR α):=G6.map λi=>(σ[i]?).join
def RD{σ:Wp (qR α)}{j:Nat}{v:α}(h:(Im G6 σ)[j]?=Gc (Gc v)):∃i,G6[j]?=Gc i/\σ[i]?=Gc (Gc v):=by
 unfold Im at h
 rw[qw]at h
 cases e:G6[j]? with
 |none=>rw[e]at h;cases h
 |some i=>
  rw[e]at h
  refine⟨i,rfl,?_⟩
  have h':(σ[i]?).join=Gc v:=by simpa using h
  cases e2:σ[i]? with
  |none=>rw[e2]at h';cases h'
  |some o=>rw[e2]at h';simpa using h'
def Xi{σ:Wp (qR α)}{i j:Nat}{v:α}(h:G6[j]?=Gc i)(e:σ[i]?=Gc (Gc v)):(Im G6 σ)[j]?=Gc (Gc v):=by
 unfold Im
 rw[qw,h]
 simp[e]
def EnR.RO(r:EnR K M E σ H) G6:EnR K M (Im G6 E) (Im G6 σ) H:=⟨by simp[Im],λj d e=>by
 obtain⟨i,h1,h2⟩:=RD e
 obtain⟨v,h3,h4⟩:=r.val i d h2
 exact⟨v,Xi h1 h3,h4⟩⟩
def eA(LS:Fj X.N X.env.scope N' G6 sc)(M:P5 X pins σ H s x P params body sc (FG X.env.cells sc.names []) f H' s')(hp:∀pm c' ctv,bindArgs (wF "<lambda>" (Lx x) params body sc (FG X.env.cells sc.names []) pm (.ref c') ctv) ⟨[],[]⟩=pure []):MI H' s'.heap x body sc (FG X.env.cells sc.names []) N' (Im G6 σ) f:=by
 have I:=M.inv
 have hcl:∀y∈sc.names,y.2=.free->∃a,X.env.cells.lookup y.1=Gc a:=λy hy hf=>I.ok.has y.1 (.inl (LS.free y hy hf))
 have sub:∀{y:Str} {c:qg},(FG X.env.cells sc.names []).lookup y=Gc c->X.env.cells.lookup y=Gc c:=λ{y c} h=>by
  rcases JZ hcl h with z|z
  .cases z
  .exact z
 obtain⟨pm,c',ctv,o,h1,h2,h3⟩:=M.fn
 refine⟨⟨params,pm,c',ctv,_,o,h1,rfl,h2,h3,hp pm c' ctv⟩,M.none,λy c e=>⟨I.cell y c (sub e),I.Jd y c (sub e)⟩,λy z c e1 e2=>I.ok.inj y z c (sub e1) (sub e2),λy h=>?_,λj y v e1 e2 e3=>?_,by simp[Im,LS.len],LS.kind,LS.co,LS.gen,LS.Mp⟩
 .rcases h with h|h
  .exact absurd rfl (LS.Mp _ (rY h))
  .exact F4 (.inl (rY h))
 .obtain⟨i,q1,q2⟩:=RD e2
  have hz:(y,i)∈N'.zip G6:=tW.mpr ⟨j,by rw[vZ];exact⟨e1,q1⟩⟩
  obtain⟨p1,p2,p3⟩:=LS.G6 _ hz
  refine⟨p3,?_⟩
  obtain⟨m,_,hl⟩:=I.loc
  obtain⟨u,ru,lk⟩:=hl i y v p1 q2 (.inr (.inl p2))
  rcases lk with⟨k,_⟩|⟨_,c,ec,ic⟩
  .have:X.env.scope.names.lookup y=Gc .local:=k
   rw[p2]at this;cases this
  .obtain⟨c2,ec2⟩:=F4 (cells:=X.env.cells) (cs:=[]) (.inl (rY p3))
   have:=sub ec2
   rw[ec]at this;cases this
   exact⟨c,u,ec2,ic,ru⟩
def bB(hb:PSs X body tb)(hr:PXs X body tr)(hh:HS X (h₀::hs) g)(hxe:X.xe=λ_ _=>tN)(hx:X.ex=[])(hst:X.stack=X.env::X.outer)(hfr:X.env.frame=Gc X.env.locals):PS X (.Try body (h₀::hs) [] [] pos) (λD σ H=>tb D σ H\/∃x,tr σ H λC od σ' H'=>jF X.mg x C od H'/\tX X.K (g x) D σ' H'):=by
 intro pins s σ H D I z
 rcases z with z|⟨x,z⟩
 .refine wpAny_Try_except (EM hxe (hb pins s σ H D I z) λf s1 w=>?_)
  cases f with
  |next=>exact vj w
  |ret u=>exact w
  |brk=>exact w
  |cont=>exact w
 .refine wpAny_Try_except (sZ (hr pins s σ H _ I z) (λ_ _ z=>z.elim) λev s1 w=>?_)
  obtain⟨ea,C,od,σ',H',rfl,I',⟨hm,z'⟩,fly⟩:=w
  refine NK I' I'.ok.frames hst hfr fly (D9 I' hx) λh' t=>?_
  have I2:=Tc I' hst hfr hx t
  exact sZ (hh.pe x C od pins _ σ' H' D ea hm I2 t.fly z') (λ_ _ z=>z) λ_ _ z=>z.elim
def gU{X:Cx}{σ:Sg}(Fu:Fun X.K x x st f fd)(S:Av N ps (AB st))(Bi:Binds X.K fd ps [])(hr:Cb (k+1) X.A)(I:Inv X pins σ H s)(r:Vals vs us)(hl:vs.length=ps.length)(hbody:∀cdv,Cb k (X.A.deeper (qv x (AB st) s.heap.objs.size f cdv))->∃t,PSs (Ij CX0 X.prog X.w X.K X.mg X.base N x (AB st) f cdv X.A X.stack s H E0).nox (A8 st) t/\t {nx:=λ_ H'=>Q .non H',rt:=Q} (L2.start N vs) H):wpAny (model X.prog X.w) X.A (call (.ref f) us) (EP X pins σ Q) X.xe s:=by
 obtain⟨oc,od,kV,doc,pm,an,cdv,ct,osl,rfl,lk,hcd⟩:=Fu.ex
 have hl2:(us++[]).length=ps.length:=by rw[r9,<-r.length];exact hl
 have hb:=Bi s us I.kIn hl2
 rw[r9]at hb
 have lim:=I.nolimit
 have hkind:∀y∈ps.zip us,(AB st).names.lookup y.1=Gc .local\/((AB st).names.lookup y.1=Gc .cell/\((cellsFrom (s.heap.objs.size+1) (AB st).names []).lookup y.1).isSome=true):=λ⟨n,v⟩ hy=>by
  rcases S.par n (tT hy).1 with q|q
  .exact .inl q
  .exact .inr ⟨q,v5 _ _ _ (.inl q)⟩
 refine vo (yg hr.depth (I.kIn _ _ lk) rfl S.co S.gen rfl (zP I.kIn hcd) (hb _ _ _ _ ?_))
 refine xM S.kind hkind λenv he s1 x1=>?_
 subst he
 refine⟨lim.keeps x1.toInCall.keep,codeAny_func ?_⟩
 obtain⟨t,ht,hq⟩:=hbody cdv (hr.deeper _)
 have J:Inv (Ij CX0 X.prog X.w X.K X.mg X.base N x (AB st) f cdv X.A X.stack s H E0) [] (L2.start N vs) H s1:=PM S hr.hd I.YK hl r x1
 have J':Inv (Ij CX0 X.prog X.w X.K X.mg X.base N x (AB st) f cdv X.A X.stack s H E0).nox [] (L2.start N vs) H s1:=J.SI _
 refine sZ (ht [] s1 (L2.start N vs) H _ J' hq) (λfl s' hs=>?_) λe s' hs=>hs.elim
 have fin:∀{σ':Sg} {H':Hp} {v:V} {u:qX},Inv (Ij CX0 X.prog X.w X.K X.mg X.base N x (AB st) f cdv X.A X.stack s H E0).nox [] σ' H' s'->RelV v u->Q v H'->EP X pins σ Q u s':=
  λ{σ' H' v u} J rv q=>I.after ⟨v,H',J.os,J.bare,J.base,J.hok,rv,q⟩
 cases fl with
 |ret u=>
  obtain⟨v,σ',H',J,rv,q⟩:=hs
  exact fin J rv q
 |next=>
  obtain⟨σ',H',J,q⟩:=hs
  exact fin (v:=V.non) (u:=rJ) J rfl q
 |brk=>
  obtain⟨_,_,_,q⟩:=hs
  exact rz q
 |cont=>
  obtain⟨_,_,_,q⟩:=hs
  exact rz q
noncomputable def Pw(x:Str):Cl->sD
 | .tab y=>y==x
 |_=>false
theorem Vd:∀{S:Sto},S.any (Pw x)=true->∃n:Nat,S[n]?=Gc (Cl.tab x)
 | [],h=>by cases h
 |c::S,h=>by
  rw[wV,sJ]at h
  rcases h with h|h
  .cases c with
   |tab y=>have e:y=x:=eq_of_beq h;exact⟨0,by rw[e];rfl⟩
   |lst ds=>cases h
   |dct ds=>cases h
   |ins C fs=>cases h
  .obtain⟨n,e⟩:=Vd h
   exact⟨n+1,e⟩
def dN{X:Cx}{pins:Wp (qg×Obj)}{σ:Sg}{H H':Hp}{s s':qj}{x:Str}{P f:qg}{n:Nat}(st:StR X.K M S H)(h1:M.cel[n]?=Gc P)(h2:S[n]?=Gc (Cl.tab x))(k:P5 X pins σ H s x P params body sc clos f H' s'):StR X.K M S H'/\Gr M H M H':=by
 have hP:P∈M.cel:=qo h1
 obtain⟨ps,t1,t2⟩:=k.tab
 have g:Gr M H M H':=⟨st.mo,sj,rfl,λ_ z=>.inl z,λa o e na=>k.keep a o e λz=>na (by rw[z];exact hP),λa e=>by
  by_cases z:a=P
  .subst z;rw[t1];intro z;cases z
  .cases q:H a with
   |none=>exact absurd q e
   |some o=>rw[k.keep a o q z];intro z;cases z⟩
 refine⟨⟨λb z=>?_,st.nd,st.nt,st.len,λm b c e1 e2=>?_⟩,g⟩
 .by_cases hb:b=P
  .subst hb;exact⟨_,t1,trivial⟩
  .exact(st.mo b z).imp λo q=>⟨k.keep _ _ q.1 hb,q.2⟩
 .by_cases hb:b=P
  .subst hb
   have hm:n=m:=(vJ (qV.mp h1).1 st.nd).mp (h1.trans e1.symm)
   subst hm
   rw[h2]at e2;cases e2
   exact⟨ps,t1,t2⟩
  .exact(st.cell m b c e1 e2).step g.st λo e=>k.keep _ _ e hb
def U3(X:Cx)(x:Str):Prop:=∀P,TabAt X.K x P->X.K.In X.base->X.base.Ns mainGlobals X.mg->∃c,X.env.code=.ref c/\KA X.K c P
def fnL(Fu:Fun K x x st f fd)(hm:mg x=Gc (.ref f))(S:Av N ps (AB st))(hp:ps.length=np)(hb:∀{cdv} {A} {outer} {s} {H} {E},U3 (Ij CX0 P w K mg base N x (AB st) f cdv A outer s H E).nox x->Cb k (A.deeper (qv x (AB st) s.heap.objs.size f cdv))->(A.deeper (qv x (AB st) s.heap.objs.size f cdv)).units+100<cLine->DSs (Ij CX0 P w K mg base N x (AB st) f cdv A outer s H E).nox (A8 st) b):Ka P w K mg base CX0 (k+1) f fd ps (spD K np (AO (AU N.length b))):=by
 rw[Gf]
 obtain⟨oc,od,kV,doc,pm,an,cdv,ct,osl,rfl,lk,hcd⟩:=Fu.ex
 refine XG lk hcd S (λvs H Q E h=>?_) (λA outer s H vs Q E hr h=>?_)
 .obtain⟨M,ds,S0,d,S',hl,_,r,_⟩:=h
  have:=r.length
  lia
 .obtain⟨M,ds,S0,d,S',hl,e,r,st,q⟩:=h
  have hlen:=r.length
  refine⟨_,(hb (cdv:=cdv) (A:=A) (outer:=outer) (s:=s) (H:=H) (E:=E) (λP0 ta kin glob=>?_) hr (J9 hr)).pe.nox,?_⟩
  .obtain⟨f0,oc0,od0,fd0,osl0,c,t1,t2,t3,t4⟩:=ta
   have:=uC kin glob t1
   have e0:Gc (q9 f0)=Gc (q9 f):=this.symm.trans hm
   cases e0
   have t2':K.lookup f=_:=t2
   rw[lk]at t2'
   cases t2'
   exact⟨c,t3,t4⟩
  obtain⟨⟨fl,E',S1⟩,e1,e⟩:=Hz e
  cases e
  refine⟨M,_,S0,fl,E',S1,e1,?_,st,?_⟩
  .rw[show L2.start N vs=vs.map Gc++qk (N.length-ds.length) none from by unfold L2.start;rw[hlen]]
   exact .args r _
  .cases fl with
   |nx=>exact λσ' H' M' g _ st'=>q _ _ M' g st' .non
   |ret d=>exact λv H' M' g st' r'=>q _ _ M' g st' r'
def dfL k(S:St.Src K mg x st)(sc:Av N ps (AB st))(hb:∀{f} {cdv} {A} {outer} {s} {H} {E},U3 (Ij CX0 P w K mg base N x (AB st) f cdv A outer s H E).nox x->Cb k (A.deeper (qv x (AB st) s.heap.objs.size f cdv))->(A.deeper (qv x (AB st) s.heap.objs.size f cdv)).units+100<cLine->DSs (Ij CX0 P w K mg base N x (AB st) f cdv A outer s H E).nox (A8 st) b)(hp:zb (ps.length=np) ww)(hbi:zb (BnR x st ps) wP):St.Dfn P w K mg base x (k+1) ps (spD K np (AO (AU N.length b))):=by
 obtain⟨f,fd,Fu,hm⟩:=S.ex
 exact⟨f,fd,hm,Fu.kp,bnR Fu hbi,fnL Fu hm sc hp λci hr hu=>hb ci hr hu⟩
end Mi
end
noncomputable section
namespace Mi
open PySem PySem.Spec L2 PyProof.Rows
def Pq{K:W1}(k:KA K c P)(X:K.In h):isCodeTable h P:=by
 obtain⟨o,vs,file,tf,flags,tg,inF,text,tt,h0,h1,h2,h3,_⟩:=k
 exact⟨c,o,vs,X _ _ h0,h1,h2,h3⟩
noncomputable def Rv(T:Wp (Str×qg)):Sto:=T.map λz=>Cl.tab z.1
def Ur{P:sF}{w:tK}{K:W1}{mg mb:Str->qR qX}{k:Nat}{fa a:qg}{fd:wY}{x:Str}{Fn0:Fn}{s₁:qj}{vs:Wp qX}{ns:Wp Int}{T:Wp (Str×qg)}(KX:K.In s₁.heap)(hns:s₁.heap.Ns mainGlobals mg)(hb:s₁.heap.Ns builtinsNs mb)(hbb:∀x:Str,x≠ "__name__"->mb x=bootBuiltins x)(hlim:s₁.heap.NoLimit)(hg:s₁.gens= #[])(ha:s₁.heap.get? a=Gc {cls:=.type "list",data:=.seq vs.toArray})(hi:ve vs ns)(hl:ns.length<=sizeLine)(hr:Cb k callerA)(hT:∀z∈T,TabAt K z.1 z.2/\K.lookup z.2=none/\s₁.heap.get? z.2=Gc (wD #[]))(nd:(T.map (·.2)).Nodup)(bmn:∃bm ob,mg "__builtins__"=Gc (.ref bm)/\bm≠builtinsNs/\s₁.heap.get? bm=Gc ob/\ob.cls=.type "module" /\ob.dict=Gc builtinsNs/\ob.data=.plain)(F:∀base,K.In base->base.Ns mainGlobals mg->BmB mg base->Ka P w K mg base CX0 k fa fd [x] (spD K 1 Fn0))(hbind:∀s u,BindsTo s fd ⟨[u],[]⟩ [(x,u)])(hlaw:∃S,Fn0 [.scr ns] (Rv T)=Gc (.bl true,S)):codeAny (model P w) callerA (.call (.ref fa) ⟨[.ref a],[]⟩) (λr s'=>r=.ok (.ret (.bool true))/\OldK s₁.heap s'.heap/\s'.os=s₁.os/\vt s'.gens) s₁:=by
 have rv:=OM hi
 have lenV:=hi.length
 have aT:∀z∈T,z.2≠a:=λz hz e=>by
  have:=(hT z hz).2.2
  rw[e,ha]at this;cases this
 have core:∀H:Hp,SqL K H a (ns.map V.int)->HOk P w H s₁.heap->(∀b,H b≠none->b=a\/∃z∈T,z.2=b)->(∀b,H b≠none->K.lookup b=none)->(∀z∈T,H z.2=Gc (.tbl #[]))->(H a=none\/∃o xs,H a=Gc (.frz o (.lst xs)))->
   codeAny (model P w) callerA (.call (.ref fa) ⟨[.ref a],[]⟩) (λr s'=>r=.ok (.ret (.bool true))/\OldK s₁.heap s'.heap/\s'.os=s₁.os/\vt s'.gens) s₁:=by
  intro H hS hok hA hK hTb hF
  have base_of:∀{b:qg} {o:Obj},s₁.heap.get? b=Gc o->H b=none->(V8 s₁.heap H).get? b=Gc o:=λe n=>XT e n
  have noA:∀{b:qg} {o:Obj},s₁.heap.get? b=Gc o->(∀x n,o.data≠.seq x n)->(∀x,o.data≠.fields x)->H b=none:=λ{b o} e d1 d2=>by
   cases q:H b with
   |none=>rfl
   |some u=>
    rcases hA b (by rw[q];simp)with z|⟨z,hz,z2⟩
    .subst z
     rw[ha]at e;cases e
     exact absurd rfl (d1 _ _)
    .subst z2
     rw[(hT z hz).2.2]at e;cases e
     exact absurd rfl (d2 _)
  have nsK:∀{b:qg} {m:Str->qR qX},s₁.heap.Ns b m->(V8 s₁.heap H).Ns b m:=λ{b m} ⟨o,es,ep,e,d,r⟩=>⟨o,es,ep,base_of e (noA e (λ_ _ z=>by rw[d]at z;cases z) λ_ z=>by rw[d]at z;cases z),d,r⟩
  have hKb:K.In (V8 s₁.heap H):=λb o e=>base_of (KX b o e) (by
   cases q:H b with
   |none=>rfl
   |some u=>rw[hK b (by rw[q];simp)]at e;cases e)
  have hM:Mod K mg (V8 s₁.heap H):=⟨hKb,nsK hns,⟨mb,nsK hb,hbb⟩,let⟨mc,h1,h2⟩:=hlim;⟨mc,nsK h1,h2⟩⟩
  have e0:YE P w K mg (V8 s₁.heap H) callerA [] s₁ H:=⟨rfl,hM,λb o e=>ba e,zk (TZ _ _),trivial,λb hb=>absurd (show b∈([]:Wp qg)from hb) (by simp),hok,.of_eq hg⟩
  have hbm:BmB mg (V8 s₁.heap H):=by
   obtain⟨bm,ob,m1,m2,m3,m4,m5,m6⟩:=bmn
   refine⟨bm,ob,m1,m2,λz=>?_,base_of m3 (noA m3 (λ_ _ z=>by rw[m6]at z;cases z) λ_ z=>by rw[m6]at z;cases z),m4,m5,m6⟩
   obtain⟨o,es,ep,e,d,_⟩:=hns
   rw[z,e]at m3;cases m3
   rw[d]at m6;cases m6
  obtain⟨S',hS'⟩:=hlaw
  have nm:¬Ms.mem ⟨T.map (·.2),[]⟩ a:=λz=>by
   rcases z with z|z
   .obtain⟨q,hq,e⟩:=rS.mp z
    exact aT q hq e
   .cases z
  have st:StR K ⟨T.map (·.2),[]⟩ (Rv T) H:=by
   refine⟨λb z=>?_,nd,λb z=>(nomatch z),by simp[Rv],λn b c e1 e2=>?_⟩
   .rcases z with z|z
    .obtain⟨q,hq,e⟩:=rS.mp z
     subst e
     exact⟨_,hTb q hq,trivial⟩
    .cases z
   .have e1':(T.map (·.2))[n]?=Gc b:=e1
    have e2':(T.map λz=>Cl.tab z.1)[n]?=Gc c:=e2
    rw[qw]at e1' e2'
    cases q:T[n]? with
    |none=>rw[q]at e1';cases e1'
    |some z=>
     rw[q]at e1' e2'
     cases e1';cases e2'
     have hz:=qo q
     exact⟨#[],hTb z hz,trivial,(hT z hz).1,λpos cv e=>by rw[vU]at e;cases e⟩
  refine vS ((F _ hKb (nsK hns) hbm).run callerA [] s₁ H ⟨[.ref a],[]⟩ [.ref a] [.ref a] (λv _=>v=.bl true) (λ_ _ _=>tN) hr e0 (hbind s₁ (.ref a)) (.cons rfl .nil) ⟨⟨T.map (·.2),[]⟩,[.scr ns],Rv T,_,S',rfl,hS',.cons (.scr ?_) .nil,st,λv H' M' g st' r'=>by cases r';rfl⟩) λr s' h=>?_
  .rcases hS with z|z
   .exact .inl ⟨z,nm⟩
   .exact .inr z
  cases r with
  |error e=>exact rz h
  |ok fl=>
   cases fl with
   |next=>exact rz h
   |brk=>exact rz h
   |cont=>exact rz h
   |ret u=>
    obtain⟨v,H',os,bare,un,hok',r',q⟩:=h
    have q':v=.bl true:=q
    subst q'
    obtain rfl:u=xF true:=r'
    refine⟨rfl,⟨λb o e=>?_,λb o e=>un.there b o e (by simp)⟩,os,bare⟩
    cases q:H b with
    |none=>exact .inl (un.keep b o e q (by intro z;exact absurd (show b∈([]:Wp qg)from z) (by simp)) (by simp))
    |some u=>
     rcases hA b (by rw[q];simp)with z|⟨z,hz,z2⟩
     .subst z
      rcases hF with z|⟨ob,xs,z⟩
      .rw[q]at z;cases z
      .have z2:=un.Uh b ob _ z
       obtain⟨e1,_⟩:=hok b _ z
       obtain⟨e2,_⟩:=hok' b _ z2
       rw[e]at e1;cases e1
       exact .inl e2
     .subst z2
      obtain⟨t1,t2,t3⟩:=hT z hz
      rw[t3]at e;cases e
      obtain⟨more,em⟩:=un.WE _ _ (hTb z hz)
      have e2:s'.heap.get? z.2=Gc (wD (#[]++more)):=hok' _ _ em
      obtain⟨_,_,_,_,_,c,_,_,_,hc⟩:=t1
      exact .inr (.inl ⟨Pq hc KX,rfl, #[],more,rfl,e2⟩)
 cases hk:K.lookup a with
 |some o=>
  have e:=KX a o hk
  rw[ha]at e
  cases e
  refine core (λb=>if∃z∈T,z.2=b then Gc (.tbl #[])else none) (.inr ⟨_,vs.toArray,_,hk,rfl,rfl,rfl,by rw[qf,lenV];exact hl,by simpa using rv⟩) (λb u z=>?_) (λb z=>?_) (λb z=>?_) (λz hz=>rB ⟨z,hz,rfl⟩) (.inl (rA λ⟨z,hz,e⟩=>aT z hz e))
  .by_cases hb:∃z∈T,z.2=b
   .have z':=(rB hb).symm.trans z
    cases z'
    obtain⟨y,hy,rfl⟩:=hb
    exact(hT y hy).2.2
   .have z':=(rA hb).symm.trans z
    cases z'
  .by_cases hb:∃z∈T,z.2=b
   .exact .inr hb
   .exact absurd (rA hb) z
  .by_cases hb:∃z∈T,z.2=b
   .obtain⟨y,hy,rfl⟩:=hb;exact(hT y hy).2.1
   .exact absurd (rA hb) z
 |none=>
  refine core (λb=>if b=a then Gc (.frz {cls:=.type "list",data:=.seq vs.toArray} (.lst (ns.map V.int)))else if∃z∈T,z.2=b then Gc (.tbl #[])else none) (.inl (.inr ⟨{cls:=.type "list",data:=.seq vs.toArray},rB rfl⟩)) (λb u z=>?_) (λb z=>?_) (λb z=>?_) (λz hz=>(rA (aT z hz)).trans (rB ⟨z,hz,rfl⟩)) (.inr ⟨_,_,rB rfl⟩)
  .by_cases hb:b=a
   .have z':=(rB hb).symm.trans z
    cases z'
    subst hb
    exact⟨ha,by rw[rG];exact hl,vs,_,rv,ha⟩
   .have z':=(rA hb).symm.trans z
    by_cases hc:∃z∈T,z.2=b
    .have z'':=(rB hc).symm.trans z'
     cases z''
     obtain⟨y,hy,rfl⟩:=hc
     exact(hT y hy).2.2
    .have z'':=(rA hc).symm.trans z'
     cases z''
  .by_cases hb:b=a
   .exact .inl hb
   .by_cases hc:∃z∈T,z.2=b
    .exact .inr hc
    .exact absurd ((rA hb).trans (rA hc)) z
  .by_cases hb:b=a
   .rw[hb];exact hk
   .by_cases hc:∃z∈T,z.2=b
    .obtain⟨y,hy,rfl⟩:=hc;exact(hT y hy).2.1
    .exact absurd ((rA hb).trans (rA hc)) z
def j7{l:yF}{q:sF}{loose:Wp Str}{XP:(Str->qR qX)->sS->Prop}{YP:tK->sS->Prop}{d:DefRec}{K:Params->W1} T(hn:l.most=Gc 63)(hdf:d.params.defaults=[])(hr:Cb k callerA)(hY:∀w h,YP w h->(K w.params).In h/\∀z∈T,h.get? z.2=Gc (wD #[]))(nd:(T.map (·.2)).Nodup)(F:∀w mg fa h,(K w.params).In h->h.Ns mainGlobals mg->mg d.name=Gc (.ref fa)->(∀z∈T,TabAt (K w.params) z.1 z.2/\(K w.params).lookup z.2=none)/\∃fd,(∀s u,BindsTo s fd ⟨[u],[]⟩ [(x,u)])/\∀base,(K w.params).In base->base.Ns mainGlobals mg->BmB mg base->Ka l.prog w (K w.params) mg base CX0 k fa fd [x] (spD (K w.params) 1 Fn0))(hlaw:∀ns,ns.length<=63->∃S,Fn0 [.scr ns] (Rv T)=Gc (.bl true,S)):PySem.W.WalkO q loose XP YP l.row.toRowW d [] (λf vs=>PySem.call f vs):=by
 refine Att.attach_call hn hdf λw s₀ s₁ mg mb fa o pm cd doc a vs ns G Y ho hd hcd hmg hobj hints hlen hg=>?_
 obtain⟨KX,Y2⟩:=hY w _ Y
 obtain⟨hT,fd,hb,hF⟩:=F w mg fa _ KX G.T.g hmg
 exact Ur KX G.T.g G.T.b G.T.builtins G.T.nolimit hg hobj hints (qU hlen (by decide)) hr (λz hz=>⟨(hT z hz).1,(hT z hz).2,Y2 z hz⟩) nd G.T.bmain hF hb (hlaw ns hlen)
end Mi
end
noncomputable section
namespace Mi
open PySem PySem.Spec L2
noncomputable def laE:Nat->sG->Wp tu
 |0,_=>[]
 |n+1,.Lambda _ _ s _=>[s]
 |n+1,.BoolOp _ vs _=>vs.flatMap (laE n)
 |n+1,.Call f as _ _=>laE n f++as.flatMap (laE n)
 |n+1,.UnaryOp _ a _=>laE n a
 |n+1,.Compare a _ cs _=>laE n a++cs.flatMap (laE n)
 |n+1,.Tuple es _ _=>es.flatMap (laE n)
 |n+1,.List es _=>es.flatMap (laE n)
 |n+1,.Subscript a _ _=>laE n a
 |_,_=>[]
noncomputable def laS:Nat->rQ->Wp tu
 |0,_=>[]
 |n+1,.Return (Gc e) _=>laE 30 e
 |n+1,.Assign ts e _=>laE 30 e
 |n+1,.Expr e _=>laE 30 e
 |n+1,.If t a b _=>laE 30 t++a.flatMap (laS n)++b.flatMap (laS n)
 |n+1,.For _ it a b _=>laE 30 it++a.flatMap (laS n)++b.flatMap (laS n)
 |n+1,.While t a b _=>laE 30 t++a.flatMap (laS n)++b.flatMap (laS n)
 |_,_=>[]
noncomputable def cZ(st:rQ)(k:Nat):tu:=((A8 st).flatMap (laS 20)).getD k (AB st)
def lsM{N:Wp Str}{osc:tu}{N':Wp Str}{G6:Wp Nat}{sc:tu}(a:zb (sc.kind=.function) ww)(b:zb (sc.isCoroutine=false) ww)(c:zb (sc.isGenerator=false) ww)(d:zb (∀y∈sc.names,y.2≠.cell) wS)(e:zb (∀y∈sc.names,y.2=.free->osc.names.lookup y.1=Gc .cell) wS)(f:zb (G6.length=N'.length) ww)(g:zb (∀z∈N'.zip G6,N[z.2]?=Gc z.1/\osc.names.lookup z.1=Gc .cell/\sc.names.lookup z.1=Gc .free) wS):Fj N osc N' G6 sc:=⟨a,b,c,d,e,f,g⟩
def qG(h:DEs X a b):DEs X a b:=h
def gDE(h:DE X a b):DE X a b:=h
def qN(h:DSs X a b):DSs X a b:=h
def gDS(h:DS X a b):DS X a b:=h
def gDT(h:DT X a b):DT X a b:=h
def gDG(h:DG X a b):DG X a b:=h
def qC(h:OpR X a b):OpR X a b:=h
def mx(h:EJ X a b):EJ X a b:=h
def dfW k(S:St.Src K mg x st)(sc:Av N ps (AB st))(hb:∀{f} {cdv} {A} {outer} {s} {H} {E},N.Nodup->Cb k (A.deeper (qv x (AB st) s.heap.objs.size f cdv))->(A.deeper (qv x (AB st) s.heap.objs.size f cdv)).units+100<cLine->DSs (Ij CX0 P w K mg base N x (AB st) f cdv A outer s H E).nox (A8 st) b)(hp:zb (ps.length=np) ww)(hbi:zb (BnR x st ps) wP):St.Dfn P w K mg base x (k+1) ps (spD K np (AO (AU N.length b))):=dfM k S sc (λhr hu=>hb sc.nd hr hu) hp hbi
def lh k(S:St.Src K mg x st)(sc:Av N ps (AB st))(hb:∀{f} {cdv} {A} {outer} {s} {H} {E},N.Nodup->Cb k (A.deeper (qv x (AB st) s.heap.objs.size f cdv))->(A.deeper (qv x (AB st) s.heap.objs.size f cdv)).units+100<cLine->RSs (Ij CX0 P w K mg base N x (AB st) f cdv A outer s H E).nox (A8 st) r)(hp:zb (ps.length=np) ww)(hbi:zb (BnR x st ps) wP):dj P w K mg base x (k+1) ps (spR K mg np (AO (LL N.length r))):=ZG S sc hp (λ_ _ F=>bnR F hbi) λf cdv A outer s H E hr=>hb sc.nd hr (J9 hr)
noncomputable def La(f:Str)(d:D):Wp (Str×D)->Wp (Str×D)
 | []=>[(f,d)]
 |(g,x)::r=>if g=f then(g,d)::r else(g,x)::La f d r
structure FsR(K:W1)(M:Ms)(H:Hp)(fv:Wp (Str×V))(fs:Wp (Str×D)):Prop where
 nm:fv.map (·.1)=fs.map (·.1)
 rel:Ab K M H (fv.map (·.2)) (fs.map (·.2))
def FsR.ind{P:Wp (Str×V)->Wp (Str×D)->Prop}(n:P [] [])(c:∀{f} {v} {d} {fv} {fs},BZ K M H v d->FsR K M H fv fs->P fv fs->P ((f,v)::fv) ((f,d)::fs)):∀{fs} {fv},FsR K M H fv fs->P fv fs:=λ{fs}=>by
 induction fs with
 |nil=>
  intro fv h
  cases fv with
  |nil=>exact n
  |cons a r=>exact absurd h.nm (by simp)
 |cons b fs ih=>
  intro fv h
  cases fv with
  |nil=>exact absurd h.nm (by simp)
  |cons a fv=>
   obtain⟨f,v⟩:=a
   obtain⟨g,d⟩:=b
   have h1:=h.nm
   rw[qq,qq,List.cons.injEq]at h1
   obtain⟨e,h1⟩:=h1
   have e:f=g:=e
   subst e
   have h2:=h.rel
   rw[qq,qq]at h2
   cases h2 with
   |cons r t=>exact c r ⟨h1,t⟩ (ih ⟨h1,t⟩)
def FsR.cons(r:BZ K M H v d)(h:FsR K M H fv fs):FsR K M H ((f,v)::fv) ((f,d)::fs):=⟨by rw[qq,qq,h.nm],.cons r h.rel⟩
def FsR.get(h:FsR K M H fv fs):(∀d,fs.lookup f=Gc d->∃v,fv.lookup f=Gc v/\BZ K M H v d)/\(fs.lookup f=none->fv.lookup f=none):=
 FsR.ind (P:=λfv fs=>(∀d,fs.lookup f=Gc d->∃v,fv.lookup f=Gc v/\BZ K M H v d)/\(fs.lookup f=none->fv.lookup f=none)) ⟨λ_ e=>(nomatch e),λ_=>rfl⟩ (λ{g v d fv fs} r _ ih=>by
  rw[rZ,rZ]
  cases q:f==g with
  |true=>exact⟨λy e=>by cases e;exact⟨v,rfl,r⟩,λe=>(nomatch e)⟩
  |false=>exact ih) h
def FsR.put(r:BZ K M H v d)(h:FsR K M H fv fs):FsR K M H (Mx f v fv) (La f d fs):=
 FsR.ind (P:=λfv fs=>FsR K M H (Mx f v fv) (La f d fs)) (.cons r ⟨rfl,.nil⟩) (λ{g v' d' fv fs} r' h' ih=>by
  rw[show Mx f v ((g,v')::fv)=(if g=f then(g,v)::fv else(g,v')::Mx f v fv)from rfl,show La f d ((g,d')::fs)=(if g=f then(g,d)::fs else(g,d')::La f d fs)from rfl]
  by_cases q:g=f
  .rw[rB q,rB q];exact .cons r h'
  .rw[rA q,rA q];exact .cons r' ih) h
def StR.pX(r:StR K M S H)(h1:M.cel[n]?=Gc a)(h2:S[n]?=Gc (.ins C fs))(hN:rM K mainGlobals C=Gc (Gc (.ref Ca)))(ea:H a=Gc (.ins Ca dx fv))(eo:H dx=Gc (.own a))(hy:FsR K M H fv' fs'):StR K M (S.set n (.ins C fs')) (upd H a (.ins Ca dx fv'))/\Gr M H M (upd H a (.ins Ca dx fv')):=by
 have ha:a∈M.cel:=qo h1
 have hl:n<S.length:=(qV.mp h2).1
 have g:Gr M H M (upd H a (.ins Ca dx fv')):=⟨r.mo,sj,rfl,λ_ z=>.inl z,λb o eb nb=>by rw[Ae (λz=>nb (by rw[z];exact ha))];exact eb,λb eb=>by
  by_cases h:b=a
  .subst h;rw[Ax];intro z;cases z
  .rw[Ae h];exact eb⟩
 refine⟨⟨λb z=>?_,r.nd,r.nt,by rw[tJ];exact r.len,λm b c e1 e2=>?_⟩,g⟩
 .by_cases h:b=a
  .subst h;exact⟨_,Ax,trivial⟩
  .rw[Ae h];exact r.mo b z
 .by_cases h:n=m
  .subst h
   rw[h1]at e1;cases e1
   rw[qb hl]at e2;cases e2
   exact⟨Ca,dx,fv',hN,Ax,g.st.UJ eo id,hy.nm,hy.rel.step g.st⟩
  .rw[qT h]at e2
   have hb:b≠a:=λz=>by
    subst z
    exact h ((vJ (qV.mp h1).1 r.nd).mp (h1.trans e1.symm))
   exact(r.cell m b c e1 e2).step g.st λo e=>by rw[Ae hb];exact e
def StR.oO(r:StR K M S H)(e:H a=none)(k:∀b o,H b=Gc o->H' b=Gc o)(ea:H' a=Gc o)(mb:Mob o)(hc:∀M',Sp1 M H M' H'->RY K M' H' a cl):StR K ⟨M.cel++[a],M.tmp⟩ (S++[cl]) H'/\Gr M H ⟨M.cel++[a],M.tmp⟩ H':=by
 have g:Gr M H ⟨M.cel++[a],M.tmp⟩ H':=⟨r.mo,vq _ _,rfl,λb z=>by
  rcases rE.mp z with z|z
  .exact .inl z
  .simp at z;subst z;exact .inr e,λb o eb _=>k b o eb,λb eb z=>by
  cases h:H b with
  |none=>exact eb h
  |some o=>rw[k b o h]at z;cases z⟩
 have na:¬M.mem a:=λz=>r.mo.some z e
 refine⟨⟨λb z=>?_,?_,λb hb z=>?_,by simp[r.len],λm b c e1 e2=>?_⟩,g⟩
 .have z':M.mem b\/b=a:=by
   rcases z with z|z
   .rcases rE.mp z with z|z
    .exact .inl (.inl z)
    .simp at z;exact .inr z
   .exact .inl (.inr z)
  rcases z' with z|z
  .exact r.mo.at k z
  .subst z;exact⟨_,ea,mb⟩
 .rw[wB]
  refine⟨r.nd,by simp,λx hx y hy=>?_⟩
  simp at hy;subst hy
  exact λz=>na (.inl (by rw[<-z];exact hx))
 .rcases rE.mp z with z|z
  .exact r.nt b hb z
  .simp at z;subst z;exact na (.inr hb)
 .by_cases h:m<S.length
  .rw[qQ (by rw[r.len];exact h)]at e1
   rw[qQ h]at e2
   exact(r.cell m b c e1 e2).step g.st λo e=>k _ _ e
  .have hm:m=S.length:=by
    have:=(qV.mp e2).1
    simp at this;lia
   subst hm
   rw[rR (by rw[r.len];exact qW _)]at e1
   rw[rR (qW _)]at e2
   rw[r.len]at e1
   simp at e1 e2
   subst e1 e2
   exact hc _ g.st
structure ClD(K:W1)(C:Str)(fs:Wp Str):Prop where
 ex:∃Ca,rM K mainGlobals C=Gc (Gc (.ref Ca))/\Cls K Ca/\∀f∈fs,Hk K Ca f
noncomputable def IZ(S:Sto)(C:Str):D->qR (Wp (Str×D))
 | .ref n=>match S[n]? with
   |some (.ins C' fs)=>if C'=C then Gc fs else none
   |_=>none
 |_=>none
def Jn(e:IZ S C d=Gc fs):∃n,d=.ref n/\S[n]?=Gc (.ins C fs):=by
 unfold IZ at e
 split at e
 .rename_i n
  split at e
  .rename_i C' fs' h
   split at e
   .rename_i z;cases e;subst z;exact⟨n,rfl,h⟩
   .cases e
  .cases e
 .cases e
def Qa(e:S[n]?=Gc (.ins C fs)):IZ S C (.ref n)=Gc fs:=by
 unfold IZ
 simp[e]
noncomputable def IS(C f:Str)(o:Ev):Ev:=λE S=>(o E S).bind λr=>(IZ r.2 C r.1).bind λfs=>(fs.lookup f).map λd=>(d,r.2)
noncomputable def UA(C f:Str)(o v:Ev):Ex:=λE S=>(v E S).bind λr=>(o E r.2).bind λq=>(IZ q.2 C q.1).bind λfs=>match q.1 with
 | .ref n=>if fs.length<1000 then Gc (.nx,E,q.2.set n (.ins C (La f r.1 fs)))else none
 |_=>none
def Fg(c:ClD X.K C fs)(hf:f∈fs)(ho:DE X o fo)(hb:zb (attributeBase o f X.env (eval o X.env)=eval o X.env) ww):DE X (.Attribute o f pos) (IS C f fo):=⟨BD (fW ho.pe hb) λσ H Q z=>by
 obtain⟨M,E,S,d,S',e,r,st,q⟩:=z
 obtain⟨⟨d0,S1⟩,e1,e⟩:=Af e
 obtain⟨fs0,e2,e⟩:=Af e
 obtain⟨d1,e3,e⟩:=Hz e
 cases e
 obtain⟨n,rfl,hn⟩:=Jn e2
 obtain⟨Ca,hC,cl,na⟩:=c.ex
 refine⟨M,E,S,_,S1,e1,r,st,λu H1 M1 g1 st1 r1=>?_⟩
 cases r1 with
 |ref h=>
  rename_i a
  obtain⟨Ca',dx,fv0,h1,h2,h3,h4,h5⟩:=st1.cell n a _ h hn
  cases hC.symm.trans h1
  obtain⟨u,hu,ru⟩:=((FsR.mk h4 h5).get (f:=f)).1 _ e3
  exact⟨a,Ca,dx,fv0,u,rfl,h2,cl,na f hf,hu,q _ _ M1 g1 st1 ru⟩⟩
def Qs(c:ClD X.K C fs)(hf:f∈fs)(ho:DE X o fo)(hv:DE X v fv)(hs:zb (swapsWith v (Gc (.Attribute o f pos')) pos.line X.env=pure false) ww):DS X (.Assign [.Attribute o f pos'] v pos) (UA C f fo fv):=⟨FP (gF ho.pe hv.pe hs) λDn σ H z=>by
 obtain⟨M,E,S,fl,E',S',e,r,st,q⟩:=z
 obtain⟨⟨d0,S1⟩,e1,e⟩:=Af e
 obtain⟨⟨d1,S2⟩,e2,e⟩:=Af e
 obtain⟨fs0,e3,e⟩:=Af e
 obtain⟨n,rfl,hn⟩:=Jn e3
 dsimp only at e hn
 split at e
 case isFalse=>cases e
 rename_i hl
 cases e
 obtain⟨Ca,hC,cl,na⟩:=c.ex
 refine⟨M,E,S,_,S1,e1,r,st,λu H1 M1 g1 st1 r1=>?_⟩
 refine⟨M1,E,S1,_,S2,e2,r.step g1.st,st1,λw H2 M2 g2 st2 r2=>?_⟩
 cases r2 with
 |ref h=>
  rename_i a
  obtain⟨Ca',dx,fv0,h1,h2,h3,h4,h5⟩:=st2.cell n a _ h hn
  cases hC.symm.trans h1
  have F:=FsR.mk h4 h5
  obtain⟨st3,g3⟩:=st2.pX h hn hC h2 h3 (F.put (f:=f) (r1.step g2.st))
  refine⟨a,Ca,dx,fv0,rfl,h2,cl,na f hf,?_,q σ _ M2 ((g1.trans g2).trans g3) (((r.step g1.st).step g2.st).step g3.st) st3⟩
  have:=congrArg xf h4
  rw[rG,rG]at this
  lia⟩
section
variable{w:tK}{K:W1}{mg:Str->qR qX}{base:sS}
structure MeS(K:W1)(C m q:Str)(st:rQ):Prop where
 ex:∃Ca f fd,rM K mainGlobals C=Gc (Gc (.ref Ca))/\Cls K Ca/\Meth K Ca m f/\Fun K m q st f fd
structure MeD(P:sF)(w:tK)(K:W1)(mg:Str->qR qX)(base:sS)(CX:CXT)(C m:Str)(k:Nat)(ps:Wp Str)(sp:Sp):Prop where
 ex:∃Ca f fd,rM K mainGlobals C=Gc (Gc (.ref Ca))/\Cls K Ca/\Meth K Ca m f/\Binds K fd ps []/\Ka P w K mg base CX k f fd ps sp
structure MkS(K:W1)(mg:Str->qR qX)(C q:Str)(st:rQ):Prop where
 ex:∃Ca f fd,mg C=Gc (.ref Ca)/\rM K mainGlobals C=Gc (Gc (.ref Ca))/\Mk K Ca f/\Fun K "__init__" q st f fd
structure MkD(P:sF)(w:tK)(K:W1)(mg:Str->qR qX)(base:sS)(CX:CXT)(C:Str)(k:Nat)(ps:Wp Str)(sp:Sp):Prop where
 ex:∃Ca f fd,mg C=Gc (.ref Ca)/\rM K mainGlobals C=Gc (Gc (.ref Ca))/\Mk K Ca f/\Binds K fd ps []/\Ka P w K mg base CX k f fd ps sp
def Yr(Fu:Fun K x y st f fd)(S:Av N ps (AB st))(hp:ps.length=np)(hb:∀cdv A outer s H E,Cb k (A.deeper (qv y (AB st) s.heap.objs.size f cdv))->DSs (Ij CX0 P w K mg base N y (AB st) f cdv A outer s H E).nox (A8 st) b):Ka P w K mg base CX0 (k+1) f fd ps (spD K np (AO (AU N.length b))):=by
 rw[Gf]
 refine Fu.ok S (λvs H Q E h=>?_) (λcdv A outer s H vs Q E hr h=>?_)
 .obtain⟨M,ds,S0,d,S',hl,_,r,_⟩:=h
  have:=r.length
  lia
 .obtain⟨M,ds,S0,d,S',hl,e,r,st,q⟩:=h
  have hlen:=r.length
  refine⟨_,(hb cdv A outer s H E hr).pe,?_⟩
  obtain⟨⟨fl,E',S1⟩,e1,e⟩:=Hz e
  cases e
  refine⟨M,_,S0,fl,E',S1,e1,?_,st,?_⟩
  .rw[show L2.start N vs=vs.map Gc++qk (N.length-ds.length) none from by unfold L2.start;rw[hlen]]
   exact .args r _
  .cases fl with
   |nx=>exact λσ' H' M' g _ st'=>q _ _ M' g st' .non
   |ret d=>exact λv H' M' g st' r'=>q _ _ M' g st' r'
def ZX(Fu:Fun K x y st f fd)(S:Av N ps (AB st))(hp:ps.length=np)(hb:∀cdv A outer s H E,Cb k (A.deeper (qv y (AB st) s.heap.objs.size f cdv))->RSs (Ij CX0 P w K mg base N y (AB st) f cdv A outer s H E).nox (A8 st) r):Ka P w K mg base (CXr P w) (k+1) f fd ps (spR K mg np (AO (LL N.length r))):=by
 rw[Gf]
 obtain⟨oc,od,kV,doc,pm,an,cdv,ct,osl,rfl,lk,hcd⟩:=Fu.ex
 refine XG lk hcd S (λvs H Q E h=>?_) λA outer s H vs Q E hr h=>?_
 .obtain⟨M,ds,S0,d,S',hl,_,r,_⟩:=h
  have:=r.length
  lia
 .obtain⟨M,ds,S0,y',S',hl,e,rr,st,q⟩:=h
  have hlen:=rr.length
  refine⟨λ_ σ H=>tR K mg r σ H λC od _ H'=>E (.ref C) od H',λpins s1 σ1 H1 D I h=>?_,?_⟩
  .exact sZ ((hb cdv A outer s H E hr).pe pins s1 σ1 H1 _ (I.SI _) h) (λ_ _ z=>z.elim) λev s' z=>Q2 z λ_ _ _ _ z=>z
  .obtain⟨⟨y',E',S1⟩,e1,e⟩:=Hz e
   cases e
   refine⟨M,_,S0,y',E',S1,e1,?_,st,λC od σ' H' M' hm g _ st'=>q C od H' M' hm g st'⟩
   rw[show L2.start N vs=vs.map Gc++qk (N.length-ds.length) none from by unfold L2.start;rw[hlen]]
   exact .args rr _
def BnQ(x y:Str)(st:rQ)(ps:Wp Str):Prop:=∀(kV doc pm:qX) (an:qR qg) (cdv ct:qX) (f:Nat->qX),bindArgs (uA x y (GV st) (A8 st) (AB st) .none kV doc pm an cdv ct) ⟨(sY ps.length).map f,[]⟩=pure (ps.zip ((sY ps.length).map f))
def bnQ(F:Fun K x y st f fd)(h:BnQ x y st ps):Binds K fd ps []:=F.binds λa b c d e g us hl=>by
 obtain⟨k,rfl⟩:=nB hl
 exact h a b c d e g k
def U9 k(S:MeS K C m q st)(sc:Av N ps (AB st))(hb:∀{f} {cdv} {A} {outer} {s} {H} {E},N.Nodup->Cb k (A.deeper (qv q (AB st) s.heap.objs.size f cdv))->(A.deeper (qv q (AB st) s.heap.objs.size f cdv)).units+100<cLine->DSs (Ij CX0 P w K mg base N q (AB st) f cdv A outer s H E).nox (A8 st) b)(hp:zb (ps.length=np) ww)(hbi:zb (BnQ m q st ps) wP):MeD P w K mg base CX0 C m (k+1) ps (spD K np (AO (AU N.length b))):=by
 obtain⟨Ca,f,fd,h1,h2,h3,Fu⟩:=S.ex
 exact⟨Ca,f,fd,h1,h2,h3,bnQ Fu hbi,Yr Fu sc hp λcdv A outer s H E hr=>hb sc.nd hr (J9 hr)⟩
def VE k(S:MeS K C m q st)(sc:Av N ps (AB st))(hb:∀{f} {cdv} {A} {outer} {s} {H} {E},N.Nodup->Cb k (A.deeper (qv q (AB st) s.heap.objs.size f cdv))->(A.deeper (qv q (AB st) s.heap.objs.size f cdv)).units+100<cLine->RSs (Ij CX0 P w K mg base N q (AB st) f cdv A outer s H E).nox (A8 st) r)(hp:zb (ps.length=np) ww)(hbi:zb (BnQ m q st ps) wP):MeD P w K mg base (CXr P w) C m (k+1) ps (spR K mg np (AO (LL N.length r))):=by
 obtain⟨Ca,f,fd,h1,h2,h3,Fu⟩:=S.ex
 exact⟨Ca,f,fd,h1,h2,h3,bnQ Fu hbi,ZX Fu sc hp λcdv A outer s H E hr=>hb sc.nd hr (J9 hr)⟩
end
noncomputable def C6(C m:Str)(F:Fn)(o:Ev)(fs:Wp Ev):Ev:=λE S=>(o E S).bind λr=>(IZ r.2 C r.1).bind λas=>if(as.lookup m).isNone=true then(evs fs E r.2).bind λq=>F (r.1::q.1) q.2 else none
noncomputable def Ko(C m:Str)(R:Rf)(o:Ev)(fs:Wp Ev):Rx:=λE S=>(o E S).bind λr=>(IZ r.2 C r.1).bind λas=>if(as.lookup m).isNone=true then(evs fs E r.2).bind λq=>(R (r.1::q.1) q.2).map λz=>(z.1,E,z.2)else none
section
variable{X:Cx}{k np:Nat}{C m:Str}{ps:Wp Str}{F:Fn}{R:Rf}{o e:sG}{es:Wp sG}{fo:Ev}{fs:Wp Ev}{p pos apos:Pos}{pl:Sem sD}
def LK(st:StR K M S H)(r:BZ K M H v d)(hC:rM K mainGlobals C=Gc (Gc (.ref Ca)))(e:IZ S C d=Gc as)(hn:(as.lookup m).isNone=true):∃a dx fv,v=.ref a/\H a=Gc (.ins Ca dx fv)/\fv.lookup m=none:=by
 obtain⟨n,rfl,hn'⟩:=Jn e
 cases r with
 |ref h=>
  rename_i a
  obtain⟨Ca',dx,fv0,h1,h2,h3,h4,h5⟩:=st.cell n a _ h hn'
  cases hC.symm.trans h1
  exact⟨a,dx,fv0,rfl,h2,((FsR.mk h4 h5).get (f:=m)).2 (Option.isNone_iff_eq_none.mp hn)⟩
def bc (d:MeD X.prog X.w X.K X.mg X.base CX0 C m k ps (spD X.K np F))(hr:Cb k X.A)(ho:DE X o fo)(ha:DEs X (e::es) fs)(hn:zb (fs.length + 1=np) ww)(hst:zb (qc (e::es) X.env=(false,eval e X.env)::qc es X.env) ww)(hpl:zb ((backTo pos (qc es X.env)).any (·.1)=false) ww)(ht:zb (eval (.Call (.Attribute o m apos) (e::es) [] pos) X.env=(do
      let ov ← eval o X.env
      standAt apos.atName
      let (f, first) ← holding [ov] (getMethod ov m pl)
      callWith pos f first (backTo pos (qc (e :: es) X.env)) (backToKw pos (keywordEach [] X.env)))) ww) :
    DE X (.Call (.Attribute o m apos) (e::es) [] pos) (C6 C m F fo fs):=⟨by
  obtain⟨Ca,f,fd,hC,cl,hm,hb,Fk⟩:=d.ex
  refine BD (Zo (pl:=pl) ho.pe cl hm Fk hr hb .nil VP ha.pe hst hpl ht) λσ H Q z=>?_
  obtain⟨M,E,S,d0,S',e0,r,st,q⟩:=z
  obtain⟨⟨d1,S1⟩,e1,e0⟩:=Af e0
  obtain⟨as,e2,e0⟩:=Af e0
  split at e0
  case isFalse => cases e0
  rename_i hno
  obtain⟨⟨ds,S2⟩,e3,e4⟩:=Af e0
  refine ⟨M, E, S, d1, S1, e1, r, st, fun u H1 M1 g1 st1 r1 => ?_⟩
  obtain⟨a,dx,fv,rfl,h2,h3⟩:=LK st1 r1 hC e2 hno
  refine ⟨a, dx, fv, rfl, h2, h3, FW e3 (r.step g1.st) st1 fun vs H2 M2 g2 st2 r2 => ?_⟩
  rw [r9]
  exact ⟨M2, d1 :: ds, S2, d0, S', by rw [rT, HH e3]; exact hn, e4, .cons (r1.step g2.st) r2, st2, fun v H' M' g st' r' => q _ _ M' ((g1.trans g2).trans g) st' r'⟩⟩
def Xx (d:MeD X.prog X.w X.K X.mg X.base CX0 C m k ps (spD X.K np F))(hr:Cb k X.A)(ho:DE X o fo)(hn:zb (1=np) ww)(ht:zb (eval (.Call (.Attribute o m apos) [] [] pos) X.env=(do
      let ov ← eval o X.env
      standAt apos.atName
      let (f, first) ← holding [ov] (getMethod ov m pl)
      callWith pos f first (backTo pos (qc [] X.env)) (backToKw pos (keywordEach [] X.env)))) ww) :
    DE X (.Call (.Attribute o m apos) [] [] pos) (C6 C m F fo []):=⟨by
  obtain⟨Ca,f,fd,hC,cl,hm,hb,Fk⟩:=d.ex
  refine BD (X0 (pl:=pl) ho.pe cl hm Fk hr hb .nil VP ht) λσ H Q z=>?_
  obtain⟨M,E,S,d0,S',e0,r,st,q⟩:=z
  obtain⟨⟨d1,S1⟩,e1,e0⟩:=Af e0
  obtain⟨as,e2,e0⟩:=Af e0
  split at e0
  case isFalse => cases e0
  rename_i hno
  refine ⟨M, E, S, d1, S1, e1, r, st, fun u H1 M1 g1 st1 r1 => ?_⟩
  obtain⟨a,dx,fv,rfl,h2,h3⟩:=LK st1 r1 hC e2 hno
  exact ⟨a, dx, fv, rfl, h2, h3, M1, [d1], S1, d0, S', hn, e0, .cons r1 .nil, st1, fun v H' M' g st' r' => q _ _ M' (g1.trans g) st' r'⟩⟩
def aB (d:MeD X.prog X.w X.K X.mg X.base (CXr X.prog X.w) C m k ps (spR X.K X.mg np R))(hr:Cb k X.A)(ho:DE X o fo)(ha:DEs X (e::es) fs)(hn:zb (fs.length + 1=np) ww)(hxe:zb (X.xe=λ_ _=>tN) ww)(hx:zb (X.ex=[]) ww)(hst:zb (qc (e::es) X.env=(false,eval e X.env)::qc es X.env) ww)(hpl:zb ((backTo pos (qc es X.env)).any (·.1)=false) ww)(ht:zb (eval (.Call (.Attribute o m apos) (e::es) [] pos) X.env=(do
      let ov ← eval o X.env
      standAt apos.atName
      let (f, first) ← holding [ov] (getMethod ov m pl)
      callWith pos f first (backTo pos (qc (e :: es) X.env)) (backToKw pos (keywordEach [] X.env)))) ww) :
    RE X (.Call (.Attribute o m apos) (e::es) [] pos) (Ko C m R fo fs):=⟨by
  intro pins s σ H Z I h
  obtain⟨Ca,f,fd,hC,cl,hm,hb,Fk⟩:=d.ex
  obtain⟨M,E,S,y,E',S',e0,r,st,q⟩:=h
  obtain⟨⟨d1,S1⟩,e1,e0⟩:=Af e0
  obtain⟨as,e2,e0⟩:=Af e0
  split at e0
  case isFalse => cases e0
  rename_i hno
  obtain⟨⟨ds,S2⟩,e3,e4⟩:=Af e0
  obtain⟨⟨y',S3⟩,e5,e6⟩:=Hz e4
  cases e6
  refine uZ (pl:=pl) (EM hxe (ho.pe pins s σ H (λv H1=>∃M1,Gr M H M1 H1/\StR X.K M1 S1 H1/\BZ X.K M1 H1 v d1) I ⟨M,E,S,d1,S1,e1,r,st,λv H1 M1 g1 st1 r1=>⟨M1,g1,st1,r1⟩⟩) λu s1 z=>?_) ht
  obtain⟨v,H1,I1,rv,M1,g1,st1,r1⟩:=z
  obtain⟨a,dx,fv,rfl,h2,h3⟩:=LK st1 r1 hC e2 hno
  obtain rfl:u=q9 a:=rv
  refine F9 I1 h2 cl hm h3 ?_
  have ha':=ha.pe pos pins s1 σ H1 (λvs H2=>∃M2,Gr M1 H1 M2 H2/\StR X.K M2 S2 H2/\Ab X.K M2 H2 vs ds) I1 (FW e3 (r.step g1.st) st1 λvs H2 M2 g2 st2 r2=>⟨M2,g2,st2,r2⟩)
  refine tL (first:=[.ref a]) (h₀:=X.base) I.ok.mod.kin hm.kp (EM hxe ha' λus s2 ⟨vs,H2,I2,rv,M2,g2,st2,r2⟩=>⟨I2.kIn,?_⟩) hst hpl
  have sp:spR X.K X.mg np R (.ref a::vs) H2 (λ_ _=>tN) (λv od H'=>∃C,v = .ref C/\Z C od σ H') :=
    ⟨M2, d1 :: ds, S2, y', S3, by rw [rT, HH e3]; exact hn, e5, .cons (r1.step g2.st) r2, st2, fun C od H' M' hc g3 st3 => ⟨C, rfl, q C od σ H' M' hc ((g1.trans g2).trans g3) (((r.step g1.st).step g2.st).step g3.st) st3⟩⟩
  have rv2:Vals (V.ref a::vs) (q9 a::us):=.cons rfl rv
  have hl:(q9 a::us++[]).length=ps.length:=by rw[r9,← rv2.length];exact Fk.len _ _ _ _ sp
  have hbs:=hb s2 (.ref a::us) I2.kIn hl
  rw [r9] at hbs
  refine vo (vS (Fk.run X.A X.stack s2 H2 ⟨.ref a :: us, []⟩ (.ref a :: us) (.ref a :: vs) _ _ hr I2.YK hbs rv2 sp) fun rs s' hq => ?_)
  cases rs with
  | error ev =>
    obtain⟨e,C,od,H',rfl,os,bare,un,hok,fly,C',hC,z⟩:=hq
    cases hC
    exact ⟨e, C, od, σ, H', rfl, I2.U5 os un hok bare (fun b z => nomatch z), z, fly.imp fun b z => D9 I2 hx b z⟩
  | ok fl =>
    cases fl with
    | ret u =>
      obtain⟨v,H',_,_,_,_,_,q⟩:=hq
      exact q.elim
    | next => exact rz hq
    | brk => exact rz hq
    | cont => exact rz hq⟩
noncomputable def QW(C:Str)(F:Fn)(fs:Wp Ev):Ev:=λE S=>(evs fs E S).bind λr=>(F (.ref r.2.length::r.1) (r.2++[.ins C []])).bind λq=>match q.1 with
 | .non=>Gc (.ref r.2.length,q.2)
 |_=>none
def bJ(d:MkD X.prog X.w X.K X.mg X.base CX0 C k ps (spD X.K np F))(hr:Cb (k+1) X.A)(hg:Gl X C)(ha:DEs X (e::es) fs)(hn:zb (fs.length+1=np) ww)(hdb:zb ((C==("__debug__":Str))=false) xz)(he:zb (qc (e::es) X.env=(false,eval e X.env)::qc es X.env) ww)(hpl:zb ((backTo pos (qc es X.env)).any (·.1)=false) ww):DE X (.Call (.Name C p) (e::es) [] pos) (QW C F fs):=⟨by
 obtain⟨Ca,f,fd,hmg,hC,hm,hb,Fk⟩:=d.ex
 refine BD (au hm Fk hr hg hmg hb .nil VP ha.pe hdb he hpl) λσ H Q z=>?_
 obtain⟨M,E,S,d0,S',e0,r,st,q⟩:=z
 obtain⟨⟨ds,S1⟩,e1,e0⟩:=Af e0
 obtain⟨⟨w,S2⟩,e2,e0⟩:=Af e0
 refine FW e1 r st λvs H1 M1 g1 st1 r1=>λx dx hx hdx ne=>?_
 dsimp only at e0 e2
 split at e0
 case h_2=>cases e0
 cases e0
 obtain⟨st2,g2⟩:=st1.oO (a:=x) (cl:=.ins C []) (H':=upd (upd H1 dx (.own x)) x (.ins Ca dx [])) hx (λb o eb=>by rw[Ae (λz=>by rw[z,hx]at eb;cases eb),Ae (λz=>by rw[z,hdx]at eb;cases eb)];exact eb) Ax trivial λM' g=>⟨Ca,dx,[],hC,Ax,by rw[Ae ne,Ax],rfl,.nil⟩
 have hi:(⟨M1.cel++[x],M1.tmp⟩:Ms).cel[S1.length]?=Gc x:=by rw[<-st1.len];exact qy
 rw[r9]
 exact⟨_,.ref S1.length::ds,_,_,_,by rw[rT,HH e1];exact hn,e2,.cons (.ref hi) (r1.step g2.st),st2,λv H' M' g st' r'=>⟨by cases r';rfl,q _ _ M' ((g1.trans g2).trans g) st' (.ref (LY g.pre hi))⟩⟩⟩
end
section
variable{X:Cx}{k j np:Nat}{C m:Str}{ps:Wp Str}{F:Fn}{es:Wp sG}{fo:Ev}{fs:Wp Ev}{p pos apos:Pos}{pl:Sem sD}
def Kz (d:MeD X.prog X.w X.K X.mg X.base CX0 C m k ps (spD X.K np F))(hr:Cb j X.A)(ho:DE X o fo)(ha:DEs X (e::es) fs)(hk:zb (k ≤ j) xz)(hn:zb (fs.length + 1=np) ww)(hst:zb (qc (e::es) X.env=(false,eval e X.env)::qc es X.env) ww)(hpl:zb ((backTo pos (qc es X.env)).any (·.1)=false) ww)(ht:zb (eval (.Call (.Attribute o m apos) (e::es) [] pos) X.env=(do
      let ov ← eval o X.env
      standAt apos.atName
      let (f, first) ← holding [ov] (getMethod ov m pl)
      callWith pos f first (backTo pos (qc (e :: es) X.env)) (backToKw pos (keywordEach [] X.env)))) ww) :
    DE X (.Call (.Attribute o m apos) (e::es) [] pos) (C6 C m F fo fs):=bc (pl:=pl) d (hr.mono hk) ho ha hn hst hpl ht
def Er (d:MeD X.prog X.w X.K X.mg X.base CX0 C m k ps (spD X.K np F))(hr:Cb j X.A)(ho:DE X o fo)(hk:zb (k ≤ j) xz)(hn:zb (1=np) ww)(ht:zb (eval (.Call (.Attribute o m apos) [] [] pos) X.env=(do
      let ov ← eval o X.env
      standAt apos.atName
      let (f, first) ← holding [ov] (getMethod ov m pl)
      callWith pos f first (backTo pos (qc [] X.env)) (backToKw pos (keywordEach [] X.env)))) ww) :
    DE X (.Call (.Attribute o m apos) [] [] pos) (C6 C m F fo []):=Xx (pl:=pl) d (hr.mono hk) ho hn ht
def W5 (d:MeD X.prog X.w X.K X.mg X.base (CXr X.prog X.w) C m k ps (spR X.K X.mg np R))(hr:Cb j X.A)(ho:DE X o fo)(ha:DEs X (e::es) fs)(hk:zb (k ≤ j) xz)(hn:zb (fs.length + 1=np) ww)(hxe:zb (X.xe=λ_ _=>tN) ww)(hx:zb (X.ex=[]) ww)(hst:zb (qc (e::es) X.env=(false,eval e X.env)::qc es X.env) ww)(hpl:zb ((backTo pos (qc es X.env)).any (·.1)=false) ww)(ht:zb (eval (.Call (.Attribute o m apos) (e::es) [] pos) X.env=(do
      let ov ← eval o X.env
      standAt apos.atName
      let (f, first) ← holding [ov] (getMethod ov m pl)
      callWith pos f first (backTo pos (qc (e :: es) X.env)) (backToKw pos (keywordEach [] X.env)))) ww) :
    RE X (.Call (.Attribute o m apos) (e::es) [] pos) (Ko C m R fo fs):=aB (pl:=pl) d (hr.mono hk) ho ha hn hxe hx hst hpl ht
def WL(d:MkD X.prog X.w X.K X.mg X.base CX0 C k ps (spD X.K np F))(hr:Cb j X.A)(hg:Gl X C)(ha:DEs X (e::es) fs)(hk:zb (k+1<=j) xz)(hn:zb (fs.length+1=np) ww)(hdb:zb ((C==("__debug__":Str))=false) xz)(he:zb (qc (e::es) X.env=(false,eval e X.env)::qc es X.env) ww)(hpl:zb ((backTo pos (qc es X.env)).any (·.1)=false) ww):DE X (.Call (.Name C p) (e::es) [] pos) (QW C F fs):=bJ d (hr.mono hk) hg ha hn hdb he hpl
end
def kj k(S:MkS K mg C q st)(sc:Av N ps (AB st))(hb:∀{f} {cdv} {A} {outer} {s} {H} {E},N.Nodup->Cb k (A.deeper (qv q (AB st) s.heap.objs.size f cdv))->(A.deeper (qv q (AB st) s.heap.objs.size f cdv)).units+100<cLine->DSs (Ij CX0 P w K mg base N q (AB st) f cdv A outer s H E).nox (A8 st) b)(hp:zb (ps.length=np) ww)(hbi:zb (BnQ "__init__" q st ps) wP):MkD P w K mg base CX0 C (k+1) ps (spD K np (AO (AU N.length b))):=by
 obtain⟨Ca,f,fd,h1,h2,h3,Fu⟩:=S.ex
 exact⟨Ca,f,fd,h1,h2,h3,bnQ Fu hbi,Yr Fu sc hp λcdv A outer s H E hr=>hb sc.nd hr (J9 hr)⟩
section
variable{K:W1}{st:rQ}{od an:qR qg}{osl:wL (qR qX)}{kV doc pm cdv ct:qX}
def dc:∀z∈([]:Wp Str),Hk K Ca z:=λ_ z=>nomatch z
def Vh(h:sH K (.ref Ca) x=Gc none)(t:∀z∈fs,Hk K Ca z):∀z∈x::fs,Hk K Ca z:=λz m=>by
 rcases qY.mp m with e|m
 .rw[e];exact h
 .exact t z m
def dG(a:rM K mainGlobals C=Gc (Gc (.ref Ca)))(b1:vR K Ca Str.empty=true)(b2:v3 K Ca=true)(b3:xY K Ca=true)(b4:sH K (.ref Ca) "__setattr__"=Gc (Gc (.builtin "object.__setattr__")))(n:∀z∈fs,Hk K Ca z):ClD K C fs:=⟨Ca,a,⟨b1,b2,b3,b4⟩,n⟩
def Ot(c:ClD K C fs)(a:rM K mainGlobals C=Gc (Gc (.ref Ca)))(m1:sH K (.ref Ca) m=Gc (Gc (.ref f)))(m2:wu K (.ref f)=true)(l:K.lookup f=Gc ⟨oc,od,.func (uA m q (GV st) (A8 st) (AB st) .none kV doc pm an cdv ct),osl⟩)(cd:vL K cdv q=true)(k:sL K (.ref f)=true):MeS K C m q st:=by
 obtain⟨Ca',h,cl,_⟩:=c.ex
 cases a.symm.trans h
 exact⟨Ca,f,_,a,cl,⟨m1,m2,k⟩,UI l cd k⟩
def cQ(X:K.In h)(G:h.Ns mainGlobals mg)(a:rM K mainGlobals C=Gc (Gc (.ref Ca)))(m0:yV K Ca=true)(m1:sH K (.ref Ca) "__init__"=Gc (Gc (.ref f)))(m2:wu K (.ref f)=true)(m3:sL K (.ref Ca)=true)(l:K.lookup f=Gc ⟨oc,od,.func (uA "__init__" q (GV st) (A8 st) (AB st) .none kV doc pm an cdv ct),osl⟩)(cd:vL K cdv q=true)(k:sL K (.ref f)=true):MkS K mg C q st:=
 ⟨Ca,f,_,uC X G a,a,⟨m0,m1,m2,m3⟩,UI l cd k⟩
end
noncomputable def MY(p:Str)(np cp tp rp:Pos)(h₀:xr)(hs:Wp xr):Wp rQ:=[.Try [.Return (Gc (.Call (.Name p np) [] [] cp)) rp] (h₀::hs) [] [] tp]
noncomputable def HA(x:Str)(G6:Wp Nat)(F:Ev)(R:Rx)(n:Nat)(h:Tg->Ex):Ev:=λE S=>
 if S.any (Pw x)=true then
  match F (Im G6 E) S with
  |some q=>Gc (q.1,q.2)
  |none=>(R (Im G6 E) S).bind λq=>(h q.1 (none::qk n none) q.2.2).bind λz=>match z.1 with| .ret d=>Gc (d,z.2.2)| .nx=>none
 else none
def SX{X:Cx}{pins:Wp (qg×Obj)}{σ:Sg}{H:Hp}{s:qj}(I:Inv X pins σ H s)(Fu:Fun X.K g g st fg fd)(S:Av (p::rs) [p] (AB st))(Bi:Binds X.K fd [p] [])(hr:Cb (k+3) X.A)(L:MI H s.heap x body sc clos N' σc f)(eb:A8 st=MY p np cp tp rp h₀ hs)(hv:Vis (AB st) p)(hd1:(p==("__debug__":Str))=false)(hd2:(p==("__classdict__":Str))=false)(hb:∀c' A outer s H,Cb k (A.deeper (uD (Lx x) sc s.heap.objs.size f (.ref c') clos))->DE (MH X.prog X.w X.K X.mg X.base N' x sc clos f c' A outer s H) body F)(hx:∀c' A outer s H,Cb k (A.deeper (uD (Lx x) sc s.heap.objs.size f (.ref c') clos))->RE (MH X.prog X.w X.K X.mg X.base N' x sc clos f c' A outer s H) body R)(hh:∀cdv A outer s H,HS (Ij CX0 X.prog X.w X.K X.mg X.base (p::rs) g (AB st) fg cdv A outer s H E0).nox (h₀::hs) hd)(h:∃M E S,EnR X.K M E σc H/\StR X.K M S H/\((∃d S',F E S=Gc (d,S')/\∀v H' M',Gr M H M' H'->StR X.K M' S' H'->BZ X.K M' H' v d->Q v H')\/∃y E' S' d E2 S2,R E S=Gc (y,E',S')/\hd y (none::qk rs.length none) S'=Gc (.ret d,E2,S2)/\∀v H' M',Gr M H M' H'->StR X.K M' S2 H'->BZ X.K M' H' v d->Q v H')):wpAny (model X.prog X.w) X.A (call (.ref fg) [.ref f]) (EP X pins σ Q) X.xe s:=by
 refine gU (k:=k+2) (vs:=[.ref f]) Fu S Bi hr I (.cons rfl .nil) rfl λcdv hrg=>?_
 have hrl:Cb (k+1) (X.A.deeper (qv g (AB st) s.heap.objs.size fg cdv)):=hrg.mono (by lia)
 let Xg:=(Ij CX0 X.prog X.w X.K X.mg X.base (p::rs) g (AB st) fg cdv X.A X.stack s H E0).nox
 have p1:=XN (X:=Xg) (t:=tD X.K F) (i:=0) (y:=p) (p:=np) (pos:=cp) hrl rfl L (λc' s H z=>(hb c' Xg.A Xg.stack s H z).pe) rfl hv hd1 hd2
 have p2:=XC (X:=Xg) (t:=tR X.K X.mg R) (i:=0) (y:=p) (p:=np) (pos:=cp) hrl rfl L (λc' s H z=>(hx c' Xg.A Xg.stack s H z).pe) rfl hv rfl hd1 hd2
 have q1:PSs Xg [.Return (Gc (.Call (.Name p np) [] [] cp)) rp] _:=OE (Vv p1)
 have qx:=p2
 have q2:PXs Xg [.Return (Gc (.Call (.Name p np) [] [] cp)) rp] (λσ H Z=>σ[0]?=Gc (Gc (.ref f))/\tR X.K X.mg R σc H λC od _ H'=>Z C od σ H'):=λpins s σ H Z I q=>
  uu (xX (sZ (qx pins s σ H Z I q) (λ_ _ z=>z.elim) λ_ _ z=>z))
 have q3:=OE (bB (pos:=tp) q1 q2 (hh cdv X.A X.stack s H) rfl rfl rfl rfl)
 refine⟨_,by rw[eb];exact q3,?_⟩
 obtain⟨M,E,S0,r,sr,w⟩:=h
 rcases w with⟨d,S',e,q⟩|⟨y,E',S',d,E2,S2,e,e2,q⟩
 .exact .inl ⟨rfl,M,E,S0,d,S',e,r,sr,λv H' M' gr st' rd=>q v H' M' gr st' rd⟩
 .refine .inr ⟨y,rfl,M,E,S0,y,E',S',e,r,sr,λC od σ' H' M' hm gr er st'=>⟨hm,?_⟩⟩
  refine⟨M',_,S',.ret d,E2,S2,e2,?_,st',λv2 H2 M2 g2 st2 r2=>q v2 H2 M2 (gr.trans g2) st2 r2⟩
  exact⟨by simp[L2.start],λi d e=>by rw[<-sk,vv]at e;split at e<;>cases e⟩
def Lv{X:Cx}{k:Nat}{g p x:Str}{st:rQ}{body:sG}{sc:tu}{params:Arguments}{N':Wp Str}{G6:Wp Nat}{gp pl pos np cp tp rp:Pos}(G:St.Src X.K X.mg g st)(S:Av (p::rs) [p] (AB st))(LS:Fj X.N X.env.scope N' G6 sc)(ci:U3 X x)(bm:BmB X.mg X.base)(hr:Cb (k+3) X.A)(hg:Gl X g)(hb:∀f c' clos A outer s H,Cb k (A.deeper (uD (Lx x) sc s.heap.objs.size f (.ref c') clos))->DE (MH X.prog X.w X.K X.mg X.base N' x sc clos f c' A outer s H) body F)(hx:∀f c' clos A outer s H,Cb k (A.deeper (uD (Lx x) sc s.heap.objs.size f (.ref c') clos))->RE (MH X.prog X.w X.K X.mg X.base N' x sc clos f c' A outer s H) body R)(hh:∀fg cdv A outer s H,HS (Ij CX0 X.prog X.w X.K X.mg X.base (p::rs) g (AB st) fg cdv A outer s H E0).nox (h₀::hs) hd)(eb:zb (A8 st=MY p np cp tp rp h₀ hs) ww)(hv:zb (Vis (AB st) p) v4)(hqual:zb (X.env.qual=x++(".<locals>.":Str)) ww)(hdf:zb (defaultsOf params X.env=([],[])) ww)(hp:zb (∀clos pm c' ctv,bindArgs (wF "<lambda>" (Lx x) params body sc clos pm (.ref c') ctv) ⟨[],[]⟩=pure []) v0)(hbi:zb (BnR g st [p]) wP)(hdb:zb ((g==("__debug__":Str))=false) xz)(hd1:zb ((p==("__debug__":Str))=false) xz)(hd2:zb ((p==("__classdict__":Str))=false) xz)(he:zb (qc [Expr.Lambda params body sc pl] X.env=[(false,eval (.Lambda params body sc pl) X.env)]) ww):DE X (.Call (.Name g gp) [.Lambda params body sc pl] [] pos) (HA x G6 F R rs.length hd):=⟨by
 intro pins s σ H Q I h
 obtain⟨M,E,S0,d,S',e,r,sr,q⟩:=h
 unfold HA at e
 split at e
 case isFalse=>cases e
 rename_i hany
 obtain⟨n,hn⟩:=Vd hany
 obtain⟨P,hc,ps,hP,tok⟩:=sr.at hn
 obtain⟨c,hcode,hcd⟩:=ci P tok.tat I.ok.mod.kin I.ok.mod.glob
 obtain⟨fg,fd,Fu,hm⟩:=G.ex
 have hcl:∀y∈sc.names,y.2=.free->∃a,X.env.cells.lookup y.1=Gc a:=λy hy hf=>I.ok.has y.1 (.inl (LS.free y hy hf))
 refine sf (J4 I hg hm ?_ hdb)
 refine tL (h₀:=X.base) I.ok.mod.kin Fu.kp ?_ he rfl
 rw[he]
 show wpAny _ _ (spliced ((false,eval (.Lambda params body sc pl) X.env)::backTo pos [])) _ _ s
 refine wX (Wr I hqual hdf (Ng hcl) hcode hcd bm hP tok λf H' s1 mk=>?_)
 refine yn ⟨mk.inv.kIn,?_⟩
 obtain⟨sr1,g1⟩:=dN sr hc hn mk
 have L:=eA LS mk λpm c' ctv=>hp _ pm c' ctv
 refine SX mk.inv Fu S (bnR Fu hbi) hr L eb hv hd1 hd2 (λc'=>hb f c' _) (λc'=>hx f c' _) (hh fg) ⟨M,Im G6 E,S0,(r.step g1.st).RO G6,sr1,?_⟩
 split at e
 .rename_i w ew
  cases e
  exact .inl ⟨w.1,w.2,ew,λv H2 M2 g2 st2 rd=>q v H2 M2 (g1.trans g2) st2 rd⟩
 .obtain⟨⟨y,E',S1⟩,e1,e⟩:=Af e
  obtain⟨⟨fl,E2,S2⟩,e2,e⟩:=Af e
  cases fl with
  |nx=>cases e
  |ret w=>
   cases e
   exact .inr ⟨y,E',S1,_,E2,S2,e1,e2,λv H2 M2 g2 st2 rd=>q v H2 M2 (g1.trans g2) st2 rd⟩⟩
section
variable{P:sF}{w:tK}{K:W1}{mg:Str->qR qX}{base:sS}
end
section
variable{X:Cx}{k j np:Nat}{C m:Str}{ps:Wp Str}{R:Rf}{o e:sG}{es:Wp sG}{fo:Ev}{fs:Wp Ev}{p pos apos:Pos}{pl:Sem sD}
def Lw (d:MeD X.prog X.w X.K X.mg X.base (CXr X.prog X.w) C m k ps (spR X.K X.mg np R))(hj:Cb j X.A)(ho:DE X o fo)(hk:zb (k ≤ j) xz)(hn:zb (1=np) ww)(hxe:zb (X.xe=λ_ _=>tN) ww)(hx:zb (X.ex=[]) ww)(ht:zb (eval (.Call (.Attribute o m apos) [] [] pos) X.env=(do
      let ov ← eval o X.env
      standAt apos.atName
      let (f, first) ← holding [ov] (getMethod ov m pl)
      callWith pos f first (backTo pos (qc [] X.env)) (backToKw pos (keywordEach [] X.env)))) ww) :
    RE X (.Call (.Attribute o m apos) [] [] pos) (Ko C m R fo []):=⟨by
  intro pins s σ H Z I h
  have hr:Cb k X.A:=hj.mono hk
  obtain⟨Ca,f,fd,hC,cl,hm,hb,Fk⟩:=d.ex
  obtain⟨M,E,S,y,E',S',e0,r,st,q⟩:=h
  obtain⟨⟨d1,S1⟩,e1,e0⟩:=Af e0
  obtain⟨as,e2,e0⟩:=Af e0
  split at e0
  case isFalse => cases e0
  rename_i hno
  obtain⟨⟨y',S3⟩,e5,e6⟩:=Hz e0
  cases e6
  refine uZ (pl:=pl) (EM hxe (ho.pe pins s σ H (λv H1=>∃M1,Gr M H M1 H1/\StR X.K M1 S1 H1/\BZ X.K M1 H1 v d1) I ⟨M,E,S,d1,S1,e1,r,st,λv H1 M1 g1 st1 r1=>⟨M1,g1,st1,r1⟩⟩) λu s1 z=>?_) ht
  obtain⟨v,H1,I1,rv,M1,g1,st1,r1⟩:=z
  obtain⟨a,dx,fv,rfl,h2,h3⟩:=LK st1 r1 hC e2 hno
  obtain rfl:u=q9 a:=rv
  refine F9 I1 h2 cl hm h3 ?_
  refine zD (first:=[.ref a]) I1.kIn hm.kp ?_
  have sp:spR X.K X.mg np R [.ref a] H1 (λ_ _=>tN) (λv od H'=>∃C,v = .ref C/\Z C od σ H') :=
    ⟨M1, [d1], S1, y', S3, hn, e5, .cons r1 .nil, st1, fun C od H' M' hc g3 st3 => ⟨C, rfl, q C od σ H' M' hc (g1.trans g3) ((r.step g1.st).step g3.st) st3⟩⟩
  have rv2:Vals [V.ref a] [q9 a]:=.cons rfl .nil
  have hl:([q9 a]++[]).length=ps.length:=by rw[r9,← rv2.length];exact Fk.len _ _ _ _ sp
  have hbs:=hb s1 [.ref a] I1.kIn hl
  rw [r9] at hbs
  refine vo (vS (Fk.run X.A X.stack s1 H1 ⟨[.ref a], []⟩ [.ref a] [.ref a] _ _ hr I1.YK hbs rv2 sp) fun rs s' hq => ?_)
  cases rs with
  | error ev =>
    obtain⟨e,C,od,H',rfl,os,bare,un,hok,fly,C',hC,z⟩:=hq
    cases hC
    exact ⟨e, C, od, σ, H', rfl, I1.U5 os un hok bare (fun b z => nomatch z), z, fly.imp fun b z => D9 I1 hx b z⟩
  | ok fl =>
    cases fl with
    | ret u =>
      obtain⟨v,H',_,_,_,_,_,q⟩:=hq
      exact q.elim
    | next => exact rz hq
    | brk => exact rz hq
    | cont => exact rz hq⟩
end
noncomputable def VX(C m:Str)(fo:Ev)(r:Rx):Rx:=λE S=>(fo E S).bind λa=>(IZ a.2 C a.1).bind λas=>if(as.lookup m).isNone=true then r E a.2 else none
section
variable{X:Cx}{k:Nat}{C m:Str}{ps:Wp Str}{o e:sG}{fo:Ev}{r:Rx}{pos apos:Pos}{pl:Sem sD}{CX:CXT}{sp:Sp}
def ax (d:MeD X.prog X.w X.K X.mg X.base CX C m k ps sp)(ho:DE X o fo)(h1:RE X e r)(hxe:zb (X.xe=λ_ _=>tN) ww)(he:zb (qc [e] X.env=[(false,eval e X.env)]) ww)(ht:zb (eval (.Call (.Attribute o m apos) [e] [] pos) X.env=(do
      let ov ← eval o X.env
      standAt apos.atName
      let (f, first) ← holding [ov] (getMethod ov m pl)
      callWith pos f first (backTo pos (qc [e] X.env)) (backToKw pos (keywordEach [] X.env)))) ww) :
    RE X (.Call (.Attribute o m apos) [e] [] pos) (VX C m fo r):=⟨by
  intro pins s σ H Z I h
  obtain⟨Ca,f,fd,hC,cl,hm,hb,Fk⟩:=d.ex
  obtain⟨M,E,S,y,E',S',e0,rr,st,q⟩:=h
  obtain⟨⟨d1,S1⟩,e1,e0⟩:=Af e0
  obtain⟨as,e2,e0⟩:=Af e0
  split at e0
  case isFalse => cases e0
  rename_i hno
  refine uZ (pl:=pl) (EM hxe (ho.pe pins s σ H (λv H1=>∃M1,Gr M H M1 H1/\StR X.K M1 S1 H1/\BZ X.K M1 H1 v d1) I ⟨M,E,S,d1,S1,e1,rr,st,λv H1 M1 g1 st1 r1=>⟨M1,g1,st1,r1⟩⟩) λu s1 z=>?_) ht
  obtain⟨v,H1,I1,rv,M1,g1,st1,r1⟩:=z
  obtain⟨a,dx,fv,rfl,h2,h3⟩:=LK st1 r1 hC e2 hno
  obtain rfl:u=q9 a:=rv
  refine F9 I1 h2 cl hm h3 ?_
  refine tL (h₀:=X.base) I.ok.mod.kin hm.kp ?_ he (by rfl)
  rw [he]
  refine wX ?_
  exact sZ (h1.pe pins s1 σ H1 Z I1 ⟨M1, E, S1, y, E', S', e0, rr.step g1.st, st1, fun C od σ' H' M' hm g st' => q C od σ' H' M' hm (g1.trans g) st'⟩) (fun _ _ z => z.elim) fun _ _ z => z⟩
end
section
noncomputable def Eu:D:=.tup [.int 0,.int 1]
noncomputable def N4:D:=.tup [.int 1,.int 1]
noncomputable def BS:D:=.tup [.str "bring",.str "pool",.str "swap",.str "trade"]
def KU:=Ad (Fs (eOp (o2 Pm) [eV 0,eC (.ty "int")]) (F1 (eOp (o2 Pm) [eV 0,eC (.ty "bool")])))
def EB:=AO (AU 1 KU)
def L7:=Ad (Fs (AD EB [eV 0]) (eOp (o2 wGe) [eV 0,eV 1]))
def CW:=AO (AU 2 L7)
def Gi:=Ad (Fs (AD CW [eV 0,eV 1]) (eOp (o2 wLe) [eV 0,eV 2]))
def Ak:=AO (AU 3 Gi)
def EX:=AM (Us 0 1 (eOp (o1 cE) [eV 0]) (eOp (o1 cE) [eV 1])) (AM (JD (U1 1) (eOp (o2 wNe) [eV 1,eI 0]) (Us 0 1 (eV 1) (eOp (o2 Pk) [eV 0,eV 1]))) (Ad (eV 0)))
def BR:=AO (AU 2 EX)
def NG:=AM (BE 2 (AD BR [eV 0,eV 1])) (Ad (Bh [eOp (o2 MM) [eV 0,eV 2],eOp (o2 MM) [eV 1,eV 2]]))
def Cf:=AO (AU 3 NG)
def RH:=Ad (AD Cf [eOp (o2 Cq) [eOp (o2 CL) [eIx (eV 0) (eI 0),eIx (eV 1) (eI 1)],eOp (o2 CL) [eIx (eV 1) (eI 0),eIx (eV 0) (eI 1)]],eOp (o2 CL) [eIx (eV 0) (eI 1),eIx (eV 1) (eI 1)]])
def Fp:=AO (AU 2 RH)
def Qc:=Ad (AD Cf [eOp (o2 OK) [eOp (o2 CL) [eIx (eV 0) (eI 0),eIx (eV 1) (eI 1)],eOp (o2 CL) [eIx (eV 1) (eI 0),eIx (eV 0) (eI 1)]],eOp (o2 CL) [eIx (eV 0) (eI 1),eIx (eV 1) (eI 1)]])
def DX:=AO (AU 2 Qc)
def Oy:=Ad (AD Cf [eOp (o2 CL) [eIx (eV 0) (eI 0),eIx (eV 1) (eI 0)],eOp (o2 CL) [eIx (eV 0) (eI 1),eIx (eV 1) (eI 1)]])
def CH:=AO (AU 2 Oy)
def Pb:=AM (BE 4 (eOp (o2 Cq) [eOp (o2 CL) [eOp (o2 CL) [eIx (eV 0) (eI 0),eIx (eV 2) (eI 1)],eV 1],eOp (o2 CL) [eOp (o2 CL) [eIx (eV 2) (eI 0),eIx (eV 0) (eI 1)],eV 3]])) (Ad (AD Cf [eV 4,eOp (o2 CL) [eOp (o2 CL) [eIx (eV 0) (eI 1),eIx (eV 2) (eI 1)],eOp (o2 Cq) [eV 1,eV 3]]]))
def He:=AO (AU 5 Pb)
def Fv:=Ad (Fs (eOp (o2 wLt) [eV 1,eOp (o1 Cs) [eV 0]]) (eOp (o2 wGe) [eIx (eIx (eV 0) (eV 1)) (eI 1),eV 2]))
def BU:=AO (AU 3 Fv)
def Ff:=Ad (Fs (AD BU [eV 0,eV 1,eI 1]) (Fs (AD BU [eV 0,eV 2,eI 1]) (eOp (o2 wEq) [eIx (eIx (eV 0) (eV 1)) (eI 0),eIx (eIx (eV 0) (eV 2)) (eI 0)])))
def DC:=AO (AU 3 Ff)
def Hc:=Ad (Fs (AD BU [eV 0,eV 1,eV 2]) (eOp (o2 wNe) [eIx (eIx (eV 0) (eV 1)) (eI 0),eV 3]))
def DJ:=AO (AU 4 Hc)
def DH:=AM (BE 3 (eIx (eV 2) (eI 0))) (AM (xIf (eOp (o2 wEq) [eV 3,eC (.str "pool")]) (Ad (AD DC [eV 0,eIx (eV 2) (eI 1),eIx (eV 2) (eI 2)])) BP) (AM (xIf (eOp (o2 wEq) [eV 3,eC (.str "swap")]) (Ad (AD DJ [eV 0,eIx (eV 2) (eI 1),eIx (eV 2) (eI 2),eIx (eV 2) (eI 3)])) BP) (AM (xIf (eOp (o2 wEq) [eV 3,eC (.str "trade")]) (AM (BE 4 (CN [] 1 (HC (eV 1)) (tNm 0) (eOp (o2 wEq) [eIx (eV 0) (eI 0),eC (.str "trade")]) (eIx (eV 0) (eI 1)))) (Ad (Fs (eOp (o2 (wIn true)) [eIx (eV 2) (eI 1),eV 4]) (AD DJ [eV 0,eIx (eV 2) (eI 2),eIx (eV 2) (eI 3),eIx (eV 2) (eI 4)])))) BP) (AM (xIf (eOp (o2 (wIn false)) [eV 3,Bh [eC (.str "spoil"),eC (.str "throw")]]) (Ad (AD BU [eV 0,eIx (eV 2) (eI 1),eIx (eV 2) (eI 2)])) BP) (Ad (eC (.bl true)))))))
def B6:=AO (AU 5 DH)
def Gy:=AM (Jf (tTp [tNm 3,tNm 4]) (eIx (eV 0) (eV 1))) (Ad (eOp (o2 Cq) [eOp (o2 Cq) [eOp (MN false true) [eV 0,eV 1],Jr [Bh [eV 3,eOp (o2 OK) [eV 4,eV 2]]]],eOp (MN true false) [eV 0,eOp (o2 Cq) [eV 1,eI 1]]]))
def BO:=AO (AU 5 Gy)
def BJ:=AM (BE 2 (eIx (eV 1) (eI 0))) (AM (xIf (eOp (o2 wEq) [eV 2,eC (.str "bring")]) (Ad (eOp (o2 Cq) [eV 0,Jr [Bh [eIx (eV 1) (eI 2),eIx (eV 1) (eI 3)]]])) BP) (AM (xIf (eOp (o2 wEq) [eV 2,eC (.str "pool")]) (AM (Jf (tTp [tNm 3,tNm 4]) (eIx (eV 0) (eIx (eV 1) (eI 1)))) (AM (BE 5 (eIx (eIx (eV 0) (eIx (eV 1) (eI 2))) (eI 1))) (Ad (eOp (o2 Cq) [AD BO [AD BO [eV 0,eIx (eV 1) (eI 1),eV 4],eIx (eV 1) (eI 2),eV 5],Jr [Bh [eV 3,eOp (o2 Cq) [eV 4,eV 5]]]])))) BP) (AM (xIf (eOp (o2 (wIn false)) [eV 2,Bh [eC (.str "swap"),eC (.str "trade")]]) (AM (Jf (tTp [tNm 6,tNm 7,tNm 3,tNm 8]) (eOp (MN true false) [eV 1,eOp (o1 NJ) [eI 4]])) (Ad (eOp (o2 Cq) [AD BO [eV 0,eV 6,eV 7],Jr [Bh [eV 3,eV 8]]]))) BP) (AM (xIf (eOp (o2 (wIn false)) [eV 2,Bh [eC (.str "spoil"),eC (.str "throw")]]) (Ad (AD BO [eV 0,eIx (eV 1) (eI 1),eIx (eV 1) (eI 2)])) BP) (Ad (eV 0))))))
def Aa:=AO (AU 9 BJ)
def GI:=Ad (CN [] 1 (HC (eIx (eV 0) (eI 1))) (tNm 0) Bk (Bh [eIx (eV 0) (eI 0),eIx (eV 0) (eI 1)]))
def BY:=AO (AU 1 GI)
def DR:=AM (BE 1 (eIx (eV 0) (eI 0))) (AM (xIf (eOp (o2 wEq) [eV 1,eC (.str "pool")]) (Ad (eOp (o1 NT) [Jr [eIx (eV 0) (eI 1),eIx (eV 0) (eI 2)]])) BP) (AM (xIf (eOp (o2 (wIn false)) [eV 1,Bh [eC (.str "swap"),eC (.str "trade")]]) (Ad (Jr [eIx (eV 0) (eOp (o1 NJ) [eI 4])])) BP) (Ad (Jr []))))
def Bp:=AO (AU 2 DR)
def HI:=AM (BE 1 (AD BY [eV 0])) (AM (BE 2 (eIx (eV 0) (eI 2))) (AM (OJ (Zv (eV 2)) (tTp [tNm 3,tNm 4]) (AM (xIf (F1 (AD B6 [eV 1,eOp (MN false true) [eV 2,eV 3],eV 4])) (Ad (eV 3)) BP) (BE 1 (AD Aa [eV 1,eV 4])))) (Ad (eC .non))))
def Dm:=AO (AU 5 HI)
def F8:=AM (BE 1 (AD Dm [eV 0])) (xIf (eOp (o2 (iD true)) [eV 1,eC .non]) Ba BP)
def Ag:=AO (AU 2 F8)
def IC:=Ad (eOp (o1 DF) [CN [1] 1 (SV [eV 0]) (tNm 1) Bk (eIf (eOp (o2 wEq) [eV 1,eV 0]) (eC N4) (eC Eu))])
def D3:=AO (AU 2 IC)
def G8:=Ad (eOp (o1 DF) [CN [1,3] 2 (Xa (eV 0) (eV 2)) (tTp [tNm 2,tNm 3]) Bk (AD He [eV 2,eV 0,eV 3,eV 1])])
def BN:=AO (AU 4 G8)
def CQ:=AM (BE 3 (AD Bp [eV 2])) (AM (xIf (eOp (o2 wEq) [eOp (o1 Cs) [eV 3],eI 1]) (Ad (eIx (eV 1) (eIx (eV 3) (eI 0)))) BP) (AM (Jf (tTp [tNm 4,tNm 5]) (eV 3)) (Ad (AD BN [eIx (eV 1) (eV 4),eIx (eIx (eV 0) (eV 4)) (eI 1),eIx (eV 1) (eV 5),eIx (eIx (eV 0) (eV 5)) (eI 1)]))))
def A9:=AO (AU 6 CQ)
def G3:=Ad (eOp (o2 Cq) [eOp (o1 W3) [CN [2] 2 (HC (eV 1)) (tTp [tNm 1,tNm 2]) Bk (eOp (o2 CL) [eV 2,eIx (eV 0) (eV 1)])],eOp (o2 CL) [eIx (eV 0) (eI 2),eIx (eV 2) (eOp (o1 NJ) [eI 1])]])
def C1:=AO (AU 3 G3)
def HR:=AM (Jf (tTp [tNm 3,tNm 4,tNm 5]) (eOp (MN true false) [eV 2,eI 1])) (Ad (AD Cf [eOp (o2 CL) [eV 4,eIx (eV 5) (eIx (eIx (eV 1) (eV 3)) (eI 0))],AD C1 [eV 0,eV 1,eV 5]]))
def De:=AO (AU 6 HR)
def GL:=AM (Jf (tTp [tNm 5,tNm 6]) (AD De [eV 0,eV 1,eV 3])) (Ad (AD BN [eV 4,eOp (o2 OK) [eV 6,eV 5],eIx (eV 2) (eIx (eV 3) (eI 1)),eV 5]))
def Cj:=AO (AU 7 GL)
def Hf:=AM (Jf (tTp [tNm 2,tNm 3,tNm 4]) (eOp (MN true false) [eV 0,eI 1])) (AM (BE 5 (AD CH [eIx (eV 1) (eV 2),eV 4])) (AM (BE 6 (dw (o1 Pe) [eV 1])) (AM (Mh (AD DX [eIx (eV 1) (eV 2),eV 5]) (eV 6) (eV 2)) (AM (Mh (AD Fp [eIx (eV 1) (eV 3),eV 5]) (eV 6) (eV 3)) (Ad (eOp (o1 DF) [eV 6]))))))
def Di:=AO (AU 7 Hf)
def A5:=AM (xIf (eOp (o2 wEq) [eIx (eV 3) (eI 0),eC (.str "throw")]) (Ad (AD Cj [eV 0,eV 1,eV 2,eV 3,eV 4])) BP) (AM (xIf (eOp (o2 wEq) [eIx (eV 3) (eI 0),eC (.str "sell")]) (Ad (AD Di [eV 3,eV 4])) BP) (Ad (eV 4)))
def AY:=AO (AU 5 A5)
def A3:=AM (BE 4 (CN [0,1,2,3] 1 (HC (eV 2)) (tNm 4) Bk (AD AY [eV 0,eV 1,eV 2,eV 3,eV 4]))) (AM (xIf (eOp (o2 wEq) [eIx (eV 3) (eI 0),eC (.str "bring")]) (Ad (eOp (o2 Cq) [eV 4,Jr [AD D3 [eIx (eV 0) (eI 0),eIx (eV 3) (eI 1)]]])) BP) (AM (xIf (eOp (o2 (wIn false)) [eIx (eV 3) (eI 0),eC BS]) (Ad (eOp (o2 Cq) [eV 4,Jr [AD A9 [eV 1,eV 2,eV 3]]])) BP) (Ad (eV 4))))
def Ai:=AO (AU 5 A3)
def Kf:=AM (Jf (tTp [tNm 2,tNm 3,tNm 4]) (eV 0)) (AM (BE 5 (AD BY [eV 0])) (AM (BE 6 (CN [] 1 (HC (eV 3)) (tNm 0) Bk (eIx (eV 0) (eI 2)))) (AM (BE 7 (eIx (eV 2) (eI 3))) (AM (OJ (HC (eOp (MN false true) [eV 4,eV 1])) (tNm 8) (AM (BE 7 (AD AY [eV 2,eV 5,eV 6,eV 8,eV 7])) (AM (BE 6 (AD Ai [eV 2,eV 5,eV 6,eV 8])) (BE 5 (AD Aa [eV 5,eV 8]))))) (Ad (Bh [eV 5,eV 6,eV 7]))))))
def EC:=AO (AU 9 Kf)
def GX:=AM (xIf (eOp (o2 wLt) [eV 1,eOp (o1 Cs) [eV 0]]) (Ad (eIx (eV 0) (eV 1))) BP) (Ad (eI 0))
def CF:=AO (AU 2 GX)
def O7:=Ad (Ha [eV 0,eOp (o1 Xy) [eOp (o2 wGe) [eV 0,eOp (o2 ir) [eI 10,eI 18]]],eI 0,eOp (o2 Pk) [eV 0,eI 1000000007]])
def HJ:=AO (AU 1 O7)
def Ht:=AM (xIf (Fs (eOp (o2 wEq) [eIx (eV 0) (eI 1),eI 1]) (eOp (o2 wGt) [eIx (eV 0) (eI 0),eI 0])) (AM (BE 2 (eOp (o2 Pk) [eIx (eV 0) (eI 0),eV 1])) (AM (Mh (eOp (o2 MM) [eIx (eV 0) (eI 0),eV 1]) (eV 0) (eI 0)) (Ad (eV 2)))) BP) (AM (Mh (eOp (o2 Cq) [eIx (eV 0) (eI 2),eI 1]) (eV 0) (eI 2)) (AM (BE 3 (eOp (o2 Pk) [eOp (o2 CL) [eOp (o2 Cq) [eIx (eV 0) (eI 3),eI 17],eOp (o2 Cq) [eI 69621,eOp (o2 CL) [eI 2,eIx (eV 0) (eI 2)]]],eI 2147483647])) (AM (BE 3 (eOp (o2 Pk) [eOp (o2 Cq) [eOp (o2 Cq) [eOp (o2 CL) [eV 3,eV 3],eOp (o2 CL) [eI 40503,eIx (eV 0) (eI 2)]],eI 5],eI 2147483629])) (Ad (eOp (o2 Pk) [eOp (o2 MM) [eOp (o2 Pk) [eOp (o2 CL) [eV 3,eI 48271],eI 2147483647],eI 32],eV 1])))))
def AF:=AO (AU 4 Ht)
def KW:=AM (JD (U1 1) (eOp (o2 wGt) [eV 1,eI 0]) (Us 0 1 (eV 1) (eOp (o2 Pk) [eV 0,eV 1]))) (Ad (eV 0))
def FZ:=AO (AU 2 KW)
def MZ:=AM (BE 2 (AD FZ [eOp (o1 cE) [eV 0],eV 1])) (Ad (Bh [eOp (o2 MM) [eV 0,eV 2],eOp (o2 MM) [eV 1,eV 2]]))
def BW:=AO (AU 3 MZ)
def Me:=Ad (AD BW [eOp (o2 Cq) [eOp (o2 CL) [eIx (eV 0) (eI 0),eIx (eV 1) (eI 1)],eOp (o2 CL) [eIx (eV 1) (eI 0),eIx (eV 0) (eI 1)]],eOp (o2 CL) [eIx (eV 0) (eI 1),eIx (eV 1) (eI 1)]])
def By:=AO (AU 2 Me)
def LG:=Ad (AD BW [eOp (o2 CL) [eIx (eV 0) (eI 0),eIx (eV 1) (eI 0)],eOp (o2 CL) [eIx (eV 0) (eI 1),eIx (eV 1) (eI 1)]])
def Ap:=AO (AU 2 LG)
def Mn:=Ad (AD By [eV 0,Bh [eOp (o2 OK) [eI 0,eIx (eV 1) (eI 0)],eIx (eV 1) (eI 1)]])
def DB:=AO (AU 2 Mn)
def Ir:=AM (BE 2 (Ya [0] 1 (SV [eV 1]) (tNm 1) Bk (eIx (Jr [eI 0,eI 1,AD AF [eV 0,eI 4],AD AF [eV 0,eI 9]]) (AD AF [eV 0,eI 4])))) (AM (xIf (eOp (o2 wEq) [eOp (o1 W3) [eV 2],eI 0]) (Mh (eI 1) (eV 2) (AD AF [eV 0,eV 1])) BP) (Ad (eOp (o1 DF) [CN [2] 1 (HC (eV 2)) (tNm 1) Bk (AD BW [eV 1,eOp (o1 W3) [eV 0]])])))
def C9:=AO (AU 3 Ir)
def Hm:=AM (BE 1 (eOp (o2 Cq) [eOp (o2 ir) [eI 10,eI 30],AD AF [eV 0,eI 99]])) (Ad (eIx (Jr [eOp (o2 Cq) [eI 1,AD AF [eV 0,eI 4]],eOp (o2 Cq) [eI 1,AD AF [eV 0,eI 40]],eOp (o2 Cq) [eI 1,AD AF [eV 0,eI 999]],eV 1]) (eOp (o2 MM) [AD AF [eV 0,eI 7],eI 2])))
def BA:=AO (AU 2 Hm)
def LZ:=AM (Us 1 2 (eOp (o2 Cq) [eI 1,AD AF [eV 0,eI 4]]) (eOp (o2 Cq) [eI 1,AD AF [eV 0,eI 5]])) (AM (BE 3 (eIx (Jr [eOp (o2 Cq) [eI 1,AD AF [eV 0,eI 3]],eOp (o2 Cq) [eI 1,AD AF [eV 0,eI 20]]]) (AD AF [eV 0,eI 2]))) (Ad (Bh [eV 1,eV 2,eV 3,AD C9 [eV 0,eV 1],AD AF [eV 0,eI 10],AD AF [eV 0,eI 10]])))
def Ge:=AO (AU 4 LZ)
def LR:=AM (BE 2 (Ha [])) (AM (OJ (SV [eIx (Jr [eI 0,eI 1,AD AF [eV 0,eI 5]]) (AD AF [eV 0,eI 3])]) (tNm 3) (BV (Hy LA (eV 2) [Bh [AD AF [eV 0,eIx (eV 1) (eI 1)],AD BA [eV 0],AD C9 [eV 0,eIx (eV 1) (eI 0)]]]))) (Ad (eOp (o1 DF) [eV 2])))
def Gm:=AO (AU 4 LR)
def LH:=AM (BE 1 (eOp (o2 Cq) [eI 1,AD AF [eV 0,eI 12]])) (Ad (AD BW [eOp (o2 Cq) [eI 1,AD AF [eV 0,eV 1]],eV 1]))
def FI:=AO (AU 2 LH)
def Kc:=Ad (eOp (o1 DF) [CN [0] 1 (SV [eV 1]) (tNm 1) Bk (eOp (o2 Cq) [eI 1,eIx (Jr [AD AF [eV 0,eI 3],AD AF [eV 0,eI 99]]) (AD AF [eV 0,eI 2])])])
def DM:=AO (AU 2 Kc)
def Lp:=Ad (Ha [Ya [] 1 (HC (eIx (eV 0) (eI 1))) (tNm 0) Bk (dw (o1 Pe) [eV 0]),eOp (o1 DF) [eIx (eIx (eV 0) (eI 0)) (eI 3)],Ha []])
def FR:=AO (AU 1 Lp)
def Kg:=AM (BE 2 (Ha [])) (AM (OJ (Xa (eIx (eV 0) (eI 2)) (eIx (eV 1) (eI 2))) (tTp [tNm 3,tNm 4]) (AM (BE 5 (AD By [AD Ap [Bh [eIx (eV 0) (eI 1),eI 1],eV 3],AD Ap [Bh [eIx (eV 1) (eI 1),eI 1],eV 4]])) (BV (Hy LA (eV 2) [AD Ap [eV 5,AD BW [eI 1,eOp (o2 Cq) [eIx (eV 0) (eI 1),eIx (eV 1) (eI 1)]]]])))) (Ad (eOp (o1 DF) [eV 2])))
def Fm:=AO (AU 6 Kg)
def Mm:=AM (BE 3 (eIx (eV 2) (eI 3))) (AM (BE 4 (eOp (o2 Cq) [eOp (o1 W3) [CN [3] 3 (HC (eV 1)) (tTp [tNm 1,tNm 2,tNm 3]) Bk (eOp (o2 CL) [eV 2,eIx (eV 0) (eV 1)])],eOp (o2 CL) [eIx (eV 0) (eI 2),eIx (eV 3) (eOp (o1 NJ) [eI 1])]])) (Ad (AD BW [eOp (o2 CL) [eIx (eV 2) (eI 2),eIx (eV 3) (eIx (eIx (eV 1) (eIx (eV 2) (eI 1))) (eI 0))],eV 4])))
def Hs:=AO (AU 5 Mm)
def ME:=AM (BE 3 (Ha [])) (AM (OJ (Xa (eV 0) (eV 2)) (tTp [tNm 4,tNm 5]) (BV (Hy LA (eV 3) [AD By [AD Ap [eV 4,AD DB [Bh [eI 1,eI 1],eV 1]],AD Ap [eV 5,eV 1]]]))) (Ad (eOp (o1 DF) [eV 3])))
def Dt:=AO (AU 6 ME)
def Mu:=AM (BE 2 (dw (o1 Pe) [eV 0])) (AM (BE 3 (AD Ap [eIx (eV 2) (eIx (eV 1) (eI 1)),eIx (eV 1) (eI 3)])) (AM (Mh (AD DB [eIx (eV 2) (eIx (eV 1) (eI 1)),eV 3]) (eV 2) (eIx (eV 1) (eI 1))) (AM (Mh (AD By [eIx (eV 2) (eIx (eV 1) (eI 2)),eV 3]) (eV 2) (eIx (eV 1) (eI 2))) (Ad (eOp (o1 DF) [eV 2])))))
def Ek:=AO (AU 4 Mu)
def Ju:=AM (Jf (tTp [tNm 3,tNm 4,tNm 5]) (eV 1)) (xIf (eOp (o2 wEq) [eIx (eV 2) (eI 0),eC (.str "throw")]) (AM (Us 6 7 (AD Hs [eV 0,eV 3,eV 2]) (eIx (eIx (eV 3) (eIx (eV 2) (eI 1))) (eI 2))) (AM (Mh (eOp (o2 OK) [eIx (eIx (eV 3) (eIx (eV 2) (eI 1))) (eI 1),eIx (eV 2) (eI 2)]) (eIx (eV 3) (eIx (eV 2) (eI 1))) (eI 1)) (AM (OJ (HC (eV 3)) (tNm 8) (Mh (AD Dt [eIx (eV 8) (eI 2),eV 6,eV 7]) (eV 8) (eI 2))) (Mh (AD Dt [eV 4,eV 6,eV 7]) (eV 1) (eI 1))))) (AM (OJ (HC (eV 3)) (tNm 8) (Mh (AD Ek [eIx (eV 8) (eI 2),eV 2]) (eV 8) (eI 2))) (Mh (AD Ek [eV 4,eV 2]) (eV 1) (eI 1))))
def Em:=AO (AU 9 Ju)
def Fi:=AM (Jf (tTp [tNm 3,tNm 4,tNm 5]) (eV 1)) (AM (BE 6 (eIx (eV 2) (eI 0))) (xIf (eOp (o2 wEq) [eV 6,eC (.str "bring")]) (BV (Hy LA (eV 3) [Ha [eIx (eV 2) (eI 2),eIx (eV 2) (eI 3),eOp (o1 DF) [CN [2] 1 (SV [eIx (eV 0) (eI 0)]) (tNm 1) Bk (Bh [eOp (o1 Xy) [eOp (o2 wEq) [eV 1,eIx (eV 0) (eI 1)]],eI 1])]]])) (xIf (eOp (o2 wEq) [eV 6,eC (.str "pool")]) (AM (Us 7 8 (eIx (eV 3) (eIx (eV 2) (eI 1))) (eIx (eV 3) (eIx (eV 2) (eI 2)))) (AM (BV (Hy LA (eV 3) [Ha [eIx (eV 7) (eI 0),eOp (o2 Cq) [eIx (eV 7) (eI 1),eIx (eV 8) (eI 1)],AD Fm [eV 7,eV 8]]])) (AM (Mh (eI 0) (eV 7) (eI 1)) (Mh (eI 0) (eV 8) (eI 1))))) (xIf (eOp (o2 (wIn false)) [eV 6,Bh [eC (.str "swap"),eC (.str "trade")]]) (AM (Jf (tTp [tNm 9,tNm 10,tNm 11,tNm 12]) (eOp (MN true false) [eV 2,eOp (o1 NJ) [eI 4]])) (AM (Mh (eOp (o2 OK) [eIx (eIx (eV 3) (eV 9)) (eI 1),eV 10]) (eIx (eV 3) (eV 9)) (eI 1)) (AM (BV (Hy LA (eV 3) [Ha [eV 11,eV 12,eIx (eIx (eV 3) (eV 9)) (eI 2)]])) (BV (Hy jI (eV 5) [eOp (o2 CL) [eOp (MN true true) [eV 2,eI 1,eI 2],eOp (o1 Xy) [eOp (o2 wEq) [eV 6,eC (.str "trade")]]]]))))) (xIf (eOp (o2 wEq) [eV 6,eC (.str "spoil")]) (Mh (eOp (o2 OK) [eIx (eIx (eV 3) (eIx (eV 2) (eI 1))) (eI 1),eIx (eV 2) (eI 2)]) (eIx (eV 3) (eIx (eV 2) (eI 1))) (eI 1)) (BV (AD Em [eV 0,eV 1,eV 2])))))))
def Dh:=AO (AU 13 Fi)
def Mb:=AM (Jf (tTp [tNm 3,tNm 4,tNm 5]) (eV 2)) (AM (BE 6 (CN [] 2 (Zv (eV 3)) (tTp [tNm 0,tNm 1]) (eOp (o2 wGt) [eIx (eV 1) (eI 1),eI 0]) (eV 0))) (AM (BE 7 (AD AF [eV 0,eI 12])) (AM (xIf (eOr (eOp (o2 wLt) [eV 7,eI 2]) (eOp (o2 wEq) [eV 6,Jr []])) (Ad (Bh [eC (.str "bring"),AD AF [eV 0,eIx (eV 1) (eI 0)],AD AF [eV 0,eIx (eV 1) (eI 1)],AD BA [eV 0]])) BP) (AM (BE 8 (eIx (eV 6) (AD AF [eV 0,eOp (o1 Cs) [eV 6]]))) (AM (BE 9 (eOp (o2 Cq) [eI 1,AD AF [eV 0,eOp (o2 iH) [eIx (eIx (eV 3) (eV 8)) (eI 1),eI 2000]]])) (AM (xIf (eOp (o2 wLt) [eV 7,eI 5]) (AM (BE 10 (CN [3,8] 1 (HC (eV 6)) (tNm 2) (Fs (eOp (o2 wNe) [eV 2,eV 1]) (eOp (o2 wEq) [eIx (eIx (eV 0) (eV 2)) (eI 0),eIx (eIx (eV 0) (eV 1)) (eI 0)])) (eV 2))) (xIf (eOp (o2 wNe) [eV 10,Jr []]) (Ad (Bh [eC (.str "pool"),eV 8,eIx (eV 10) (AD AF [eV 0,eOp (o1 Cs) [eV 10]])])) BP)) BP) (AM (xIf (Fs (eOp (o2 wLt) [eV 7,eI 8]) (eOp (o2 wGt) [eIx (eV 1) (eI 1),eI 1])) (AM (BE 11 (eOp (o2 Pk) [eOp (o2 Cq) [eOp (o2 Cq) [eIx (eIx (eV 3) (eV 8)) (eI 0),eI 1],AD AF [eV 0,eOp (o2 OK) [eIx (eV 1) (eI 1),eI 1]]],eIx (eV 1) (eI 1)])) (AM (BE 12 (CN [5] 1 (SV [eI 10]) (tNm 1) (eOp (o2 (wIn true)) [eV 1,eV 0]) (eV 1))) (AM (xIf (Fs (eOp (o2 wEq) [eV 7,eI 7]) (eOp (o2 wNe) [eV 12,Jr []])) (Ad (Bh [eC (.str "trade"),eIx (eV 12) (AD AF [eV 0,eOp (o1 Cs) [eV 12]]),eV 8,eV 9,eV 11,AD BA [eV 0]])) BP) (Ad (Bh [eC (.str "swap"),eV 8,eV 9,eV 11,AD BA [eV 0]]))))) BP) (AM (xIf (eOp (o2 wEq) [eV 7,eI 8]) (Ad (Bh [eC (.str "spoil"),eV 8,eV 9])) BP) (AM (xIf (Fs (eOp (o2 wEq) [eV 7,eI 9]) (eOp (o2 wGt) [eIx (eV 1) (eI 0),eI 1])) (AM (BE 13 (AD AF [eV 0,eIx (eV 1) (eI 0)])) (Ad (Bh [eC (.str "sell"),eV 13,eOp (o2 Pk) [eOp (o2 Cq) [eOp (o2 Cq) [eV 13,eI 1],AD AF [eV 0,eOp (o2 OK) [eIx (eV 1) (eI 0),eI 1]]],eIx (eV 1) (eI 0)],AD FI [eV 0]]))) BP) (Ad (Bh [eC (.str "throw"),eV 8,eV 9,AD DM [eV 0,eOp (o2 Cq) [eIx (eV 1) (eI 1),eI 1]]])))))))))))
def DN:=AO (AU 14 Mb)
def LW:=AM (BE 1 (AD Ge [eV 0])) (Ad (Bh [eV 1,AD Gm [eV 0,eV 1]]))
def FE:=AO (AU 2 LW)
def Mq:=AM (BE 2 (AD FR [eV 1])) (AM (OJ (HC (eIx (eV 1) (eI 2))) (tNm 3) (BV (AD Dh [eIx (eV 1) (eI 0),eV 2,eV 3]))) (Ad (AD DN [eV 0,eIx (eV 1) (eI 0),eV 2])))
def F5:=AO (AU 4 Mq)
def JN:=AM (xIf (Fs (eOp (o2 wEq) [eIx (eV 1) (eI 0),eC (.str "throw")]) (eOp (o2 wEq) [eOp (o1 Cs) [CN [] 1 (HC (eIx (eV 0) (eI 2))) (tNm 0) (eOp (o2 wEq) [eIx (eV 0) (eI 0),eC (.str "throw")]) (eV 0)],eI 3])) (Ad (eC (.str "many"))) BP) (AM (xIf (eOp (o2 (wIn false)) [eIx (eV 1) (eI 0),Bh [eC (.str "bring"),eC (.str "pool"),eC (.str "swap"),eC (.str "trade")]]) (Ad (eOp (o2 Cq) [eOp (o1 Cs) [eIx (eV 0) (eI 1)],eOp (o1 Cs) [CN [] 1 (HC (eIx (eV 0) (eI 2))) (tNm 0) (eOp (o2 (wIn false)) [eIx (eV 0) (eI 0),Bh [eC (.str "bring"),eC (.str "pool"),eC (.str "swap"),eC (.str "trade")]]) (eV 0)]])) BP) (Ad (eC .non)))
def Bs:=AO (AU 2 JN)
def KQ:=AM (BE 1 (eIx (eIx (eV 0) (eI 0)) (eI 4))) (AM (Jf (tTp [tNm 2,tNm 3,tNm 4]) (AD EC [eV 0,eOp (o1 Cs) [eIx (eV 0) (eI 2)]])) (AM (BE 5 (Ha [])) (AM (OJ (Xa (eV 2) (eV 3)) (tTp [tTp [tNm 7,tNm 8],tNm 6]) (AM (BE 9 (AD BN [eV 6,eOp (o2 OK) [eI 10,eV 1],eV 4,eV 1])) (BV (Hy LA (eV 5) [eOp (o1 DF) [CN [8] 1 (HC (eV 9)) (tNm 1) Bk (AD CH [Bh [eV 0,eI 1],eV 1])]])))) (Ad (eV 5)))))
def ED:=AO (AU 10 KQ)
def Ls:=AM (BE 2 (AD BY [eV 0])) (AM (OJ (HC (eOp (MN false true) [eIx (eV 0) (eI 2),eV 1])) (tNm 3) (BE 2 (AD Aa [eV 2,eV 3]))) (Ad (eV 2)))
def FN:=AO (AU 4 Ls)
def LV:=AM (BE 1 (eC Eu)) (AM (OJ (HC (eV 0)) (tNm 2) (BE 1 (AD Fp [eV 1,eV 2]))) (Ad (eV 1)))
def Cy:=AO (AU 3 LV)
def Gw:=Ad (eOp (o2 MM) [eIx (eV 0) (eI 0),eIx (eV 0) (eI 1)])
def Am:=AO (AU 1 Gw)
def JR:=AM (BE 1 (AD FN [eV 0,eOp (o1 Cs) [eIx (eV 0) (eI 2)]])) (AM (BE 2 (Ha [])) (AM (OJ (Xa (eV 1) (AD ED [eV 0])) (tTp [tTp [tNm 4,tNm 5],tNm 3]) (AM (BE 6 (CN [] 1 (HC (eV 3)) (tNm 0) Bk (AD DX [eV 0,Bh [AD Am [eV 0],eI 1]]))) (AM (BE 7 (AD Am [AD Cy [eV 6]])) (xIf (eOp (o2 wGt) [eV 7,eI 0]) (BV (Hy LA (eV 2) [Bh [eV 4,eV 7,eOp (o1 DF) [CN [7] 1 (HC (eV 6)) (tNm 1) Bk (AD CH [eV 1,Bh [eI 1,eV 0]])]]])) BP)))) (Ad (eOp (o1 DF) [eV 2]))))
def Dk:=AO (AU 8 JR)
noncomputable def BB:D:=.int 4
def Gh:=AM (BV (AD Ag [eV 0])) (AM (BE 1 (AD Dk [eV 0])) (AM (xIf (eOp (o2 wGt) [eOp (o1 Cs) [eV 1],eC BB]) Ba BP) (AM (Jf (tTp [tNm 2,tNm 3,tNm 4,tNm 5,tNm 6,tNm 7]) (eIx (eV 0) (eI 0))) (AM (Jf (tTp [tNm 8,tNm 9,tNm 10]) (AD EC [eV 0,eOp (o1 Cs) [eIx (eV 0) (eI 2)]])) (Ad (Bh [Bh [eV 2,eV 3,eV 4,eV 10,eV 6,eV 7],eV 1,Bh []]))))))
def Ao:=AO (AU 11 Gh)
def Ee:Rx:=(JF rNo (BV (AD Ag [eV 0])) (JF rNo (BE 1 (AD Dk [eV 0])) (JF (rIf (eOp (o2 wGt) [eOp (o1 Cs) [eV 1],eC BB]) (Ea "TooMany" [eC (.str "more loads stay over than a book begins with")]) rNo) (xIf (eOp (o2 wGt) [eOp (o1 Cs) [eV 1],eC BB]) Ba BP)
    rNo)))
def Az:=AO (LL 11 Ee)
def Md:=AM (xIf (eOp (o2 wEq) [eIx (eV 0) (eI 2),Bh []]) (Ad (eC (.str "next"))) BP) (Ad (HA "_law_next" [0] (AD Ao [eV 0]) (Jv Az [eV 0]) 0 (gOr ["TooMany","NoNext","NothingDone"] "TooMany" (Ad (eC (.str "many"))) (gOr ["TooMany","NoNext","NothingDone"] "NoNext" (Ad (eC (.str "next"))) (gOr ["TooMany","NoNext","NothingDone"] "NothingDone" (Ad (eC (.str "nothing"))) gNo)))))
def Dw:=AO (AU 1 Md)
def Mf:=Ad (eOp (o2 Cq) [eOp (MN false true) [eV 0,eI 2],Bh [eOp (o2 Cq) [eIx (eV 0) (eI 2),Bh [eV 1]]]])
def GD:=AO (AU 2 Mf)
def Fq:=AM (BV (Hy LA (IS "Leader" "earlier" (eV 0)) [IS "Leader" "kept" (eV 0)])) (UA "Leader" "kept" (eV 0) (eV 1))
def Aj:=AO (AU 2 Fq)
def IG:=Ad (AD CW [eV 1,eI 1])
def D4:=AO (AU 2 IG)
def CV:=Ad (Fs (eOp (o2 Pm) [eV 0,eC (.ty "tuple")]) (eOp (o2 wEq) [eOp (o1 Cs) [eV 0],eV 1]))
def Ah:=AO (AU 2 CV)
def ID:=Ad (Fs (AD Ah [eV 0,eV 1]) (eOp (o1 V5) [CN [] 1 (HC (eV 0)) (tNm 0) Bk (AD Ak [eV 0,eI 1,eI 99])]))
def D8:=AO (AU 2 ID)
def IK:=Ad (AD D8 [eV 1,eOp (o2 Cq) [eIx (eV 0) (eI 1),eI 1]])
def D5:=AO (AU 2 IK)
def Ib:=Ad (AD Ak [eV 1,eI 0,eOp (o2 OK) [eIx (eV 0) (eI 1),eI 1]])
def C4:=AO (AU 2 Ib)
def Fc:=Ad (AD CW [eV 1,eI 0])
def CM:=AO (AU 2 Fc)
def IE:=Ad (AD Ak [eV 1,eI 0,eOp (o2 OK) [eIx (eV 0) (eI 0),eI 1]])
def D7:=AO (AU 2 IE)
def JI:=AM (xIf (eOr (F1 (eOp (o2 Pm) [eV 0,eC (.ty "tuple")])) (eOp (o2 wNe) [eOp (o1 Cs) [eV 0],eI 2])) (Ad (eC (.bl false))) BP) (AM (Jf (tTp [tNm 1,tNm 2]) (eV 0)) (Ad (Fs (AD EB [eV 1]) (Fs (AD CW [eV 2,eI 1]) (eOp (o2 wEq) [AD BR [eV 1,eV 2],eI 1])))))
def Eh:=AO (AU 3 JI)
def KI:=Ad (Fs (AD Eh [eV 0]) (Ru (eI 0) (eIx (eV 0) (eI 0)) (eIx (eV 0) (eI 1))))
def CZ:=AO (AU 1 KI)
def F2:=Ad (Fs (AD CZ [eV 1]) (Fs (eOp (o2 wGt) [eIx (eV 1) (eI 0),eI 0]) (eOp (o2 wLe) [eIx (eV 1) (eI 1),eI 12])))
def Cg:=AO (AU 2 F2)
def FX:=Ad (AD Ak [eV 1,eI 0,eI 9])
def B8:=AO (AU 2 FX)
def Ec:Wp (Str×Fn):=[("partner",D7),("kind",C4),("load",CM),("number",B8),("pieces",D4),("worths",D5),("share",Cg)]
def CO:=fP Ec 3 1 [eV 0,eV 2]
def An:=AO (AU 4 CO)
noncomputable def EU:Wp (Str×D):=[("bring",.tup [.str "partner",.str "kind",.str "pieces"]),("pool",.tup [.str "load",.str "load"]),("swap",.tup [.str "load",.str "pieces",.str "kind",.str "pieces"]),("trade",.tup [.str "number",.str "load",.str "pieces",.str "kind",.str "pieces"]),("spoil",.tup [.str "load",.str "pieces"]),("throw",.tup [.str "load",.str "pieces",.str "worths"]),("sell",.tup [.str "partner",.str "partner",.str "share"])]
noncomputable def Bx:D:=.tup [.str "pool",.str "sell"]
def Lk:=AM (xIf (eOr (F1 (eOp (o2 Pm) [eV 1,eC (.ty "tuple")])) (eOp (o2 wEq) [eOp (o1 Cs) [eV 1],eI 0])) (Ad (eC (.bl false))) BP) (AM (BE 2 (eIx (eV 1) (eI 0))) (AM (xIf (eOr (F1 (eOp (o2 Pm) [eV 2,eC (.ty "str")])) (eOp (o1 (M8 true EU)) [eV 2])) (Ad (eC (.bl false))) BP) (AM (BE 3 (eOp (o1 (dE EU)) [eV 2])) (AM (xIf (eOp (o2 wNe) [eOp (o1 Cs) [eV 1],eOp (o2 Cq) [eOp (o1 Cs) [eV 3],eI 1]]) (Ad (eC (.bl false))) BP) (AM (xIf (F1 (eOp (o1 V5) [CN [0,1] 2 (Zv (eV 3)) (tTp [tNm 2,tNm 3]) Bk (AD An [eV 0,eV 3,eIx (eV 1) (eOp (o2 Cq) [eV 2,eI 1])])])) (Ad (eC (.bl false))) BP) (Ad (eOr (eOp (o2 (wIn true)) [eV 2,eC Bx]) (eOp (o2 wNe) [eIx (eV 1) (eI 1),eIx (eV 1) (eI 2)]))))))))
def BF:=AO (AU 4 Lk)
noncomputable def Fb:D:=.int 20
noncomputable def Eg:D:=.int 3
def Gu:=AM (xIf (eOr (F1 (eOp (o2 Pm) [eV 1,eC (.ty "tuple")])) (eOp (o2 wGt) [eOp (o1 Cs) [eV 1],eC Fb])) (Ad (eC (.bl false))) BP) (AM (xIf (F1 (eOp (o1 V5) [CN [0] 1 (HC (eV 1)) (tNm 1) Bk (AD BF [eV 0,eV 1])])) (Ad (eC (.bl false))) BP) (Ad (eOp (o2 wLe) [eOp (o1 Cs) [CN [] 1 (HC (eV 1)) (tNm 0) (eOp (o2 wEq) [eIx (eV 0) (eI 0),eC (.str "throw")]) (eV 0)],eC Eg])))
def BH:=AO (AU 2 Gu)
def KR:=Ad (AD Ak [eV 1,eI 0,eOp (o2 OK) [eOp (o1 Cs) [eIx (eV 0) (eI 2)],eI 1]])
def DO:=AO (AU 2 KR)
def IA:=Ad (eOp (o2 Cq) [eOp (o1 Cs) [eIx (eV 0) (eI 1)],eOp (o1 Cs) [CN [] 1 (HC (eOp (MN false true) [eIx (eV 0) (eI 2),eV 1])) (tNm 0) (eOp (o2 (wIn false)) [eIx (eV 0) (eI 0),eC BS]) (eV 0)]])
def Cw:=AO (AU 2 IA)
def IW:=AM (BV (AD Ag [eV 0])) (AM (xIf (F1 (AD DO [eV 0,eV 1])) Ba BP) (AM (xIf (eOp (o2 (wIn true)) [eIx (eIx (eIx (eV 0) (eI 2)) (eV 1)) (eI 0),eC BS]) (Ad (eC .non)) BP) (Ad (AD Cw [eV 0,eV 1]))))
def Dv:=AO (AU 2 IW)
def Jc:=AM (Jf (tTp [tNm 2,tNm 3,tNm 4]) (IS "Leader" "kept" (eV 0))) (AM (xIf (F1 (AD BF [eV 2,eV 1])) Ba BP) (AM (BE 5 (Bh [eV 2,eV 3,eOp (o2 Cq) [eV 4,Bh [eV 1]]])) (AM (BV (AD Ag [eV 5])) (AM (xIf (F1 (AD BH [eV 2,eIx (eV 5) (eI 2)])) Ba BP) (AM (BV (C6 "Leader" "turn_to" Aj (eV 0) [eV 5])) (Ad (AD Dv [eV 5,eOp (o1 Cs) [eV 4]])))))))
def B9:=AO (AU 6 Jc)
def ES:=AM (xIf (eOp (o2 wEq) [eOp (o1 Cs) [eIx (IS "Leader" "kept" (eV 0)) (eI 2)],eI 0]) Ba BP) (BV (C6 "Leader" "turn_to" Aj (eV 0) [AD Ao [IS "Leader" "kept" (eV 0)]]))
def Ay:=AO (AU 1 ES)
def FO:=AM (xIf (eOp (o2 wEq) [eOp (o1 Cs) [IS "Leader" "earlier" (eV 0)],eI 0]) Ba BP) (UA "Leader" "kept" (eV 0) (Hy QN (IS "Leader" "earlier" (eV 0)) []))
def Ar:=AO (AU 1 FO)
def QI:Rx:=(JF rNo (BV (AD Ag [eV 0])) (JF (rIf (F1 (AD DO [eV 0,eV 1])) (Ea "NoNumber" [eC (.str "no deed of the book has this place")]) rNo) (xIf (F1 (AD DO [eV 0,eV 1])) Ba BP)
    rNo))
def Ig:=AO (LL 2 QI)
def JG:=JF rNo (Jf (tTp [tNm 2,tNm 3,tNm 4]) (IS "Leader" "kept" (eV 0))) (JF (rIf (F1 (AD BF [eV 2,eV 1])) (Ea "NoDeed" [eC (.str "this is no deed of the train")]) rNo) (xIf (F1 (AD BF [eV 2,eV 1])) Ba BP) (JF rNo (BE 5 (Bh [eV 2,eV 3,eOp (o2 Cq) [eV 4,Bh [eV 1]]])) (JF rNo (BV (AD Ag [eV 5])) (JF (rIf (F1 (AD BH [eV 2,eIx (eV 5) (eI 2)])) (Ea "TooMany" [eC (.str "a book hasn't so many deeds or throws")]) rNo) (xIf (F1 (AD BH [eV 2,eIx (eV 5) (eI 2)])) Ba BP) (JF rNo (BV (C6 "Leader" "turn_to" Aj (eV 0) [eV 5])) (Jv Ig [eV 5,eOp (o1 Cs) [eV 4]]))))))
def Cc:=AO (LL 6 JG)
def ET:=JF (rIf (eOp (o2 wEq) [eOp (o1 Cs) [eIx (IS "Leader" "kept" (eV 0)) (eI 2)],eI 0]) (Ea "NoNext" [eC (.str "a book without deeds has no next book")]) rNo) (xIf (eOp (o2 wEq) [eOp (o1 Cs) [eIx (IS "Leader" "kept" (eV 0)) (eI 2)],eI 0]) Ba BP) (VX "Leader" "turn_to" (eV 0) (Jv Az [IS "Leader" "kept" (eV 0)]))
def BM:=AO (LL 1 ET)
def DV:Rx:=(JF (rIf (eOp (o2 wEq) [eOp (o1 Cs) [IS "Leader" "earlier" (eV 0)],eI 0]) (Ea "NothingDone" [eC (.str "there is nothing to undo")]) rNo) (xIf (eOp (o2 wEq) [eOp (o1 Cs) [IS "Leader" "earlier" (eV 0)],eI 0]) Ba BP)
    rNo)
def Bf:=AO (LL 1 DV)
def Mj:=AM (BE 3 (AD AF [eV 0,eI 6])) (AM (BE 4 (eIx (eV 2) (eOp (o1 NJ) [eI 1]))) (AM (xIf (eOp (o2 wEq) [eV 3,eI 0]) (AM (BE 5 (eIx (Jr [eC (.str "nothing"),eC .non]) (eOp (o1 Xy) [eOp (o2 wGt) [eOp (o1 Cs) [eV 2],eI 1]]))) (AM (xIf (eOp (o2 wGt) [eOp (o1 Cs) [eV 2],eI 1]) (BV (Hy QN (eV 2) [])) BP) (Ad (eOp (o2 wEq) [HA "_law_step" [1] (C6 "Leader" "undo" Ar (eV 0) []) (Ko "Leader" "undo" Bf (eV 0) []) 0 (gOr ["TooMany","NoNext","NothingDone"] "TooMany" (Ad (eC (.str "many"))) (gOr ["TooMany","NoNext","NothingDone"] "NoNext" (Ad (eC (.str "next"))) (gOr ["TooMany","NoNext","NothingDone"] "NothingDone" (Ad (eC (.str "nothing"))) gNo))),eV 5])))) BP) (AM (xIf (eOp (o2 wEq) [eV 3,eI 1]) (AM (BE 5 (AD Dw [eV 4])) (AM (xIf (eOp (o2 Pm) [eV 5,eC (.ty "tuple")]) (AM (BV (Hy LA (eV 2) [eV 5])) (BE 5 (eC .non))) BP) (Ad (eOp (o2 wEq) [HA "_law_step" [1] (C6 "Leader" "start" Ay (eV 0) []) (Ko "Leader" "start" BM (eV 0) []) 0 (gOr ["TooMany","NoNext","NothingDone"] "TooMany" (Ad (eC (.str "many"))) (gOr ["TooMany","NoNext","NothingDone"] "NoNext" (Ad (eC (.str "next"))) (gOr ["TooMany","NoNext","NothingDone"] "NothingDone" (Ad (eC (.str "nothing"))) gNo))),eV 5])))) BP) (AM (BE 6 (AD F5 [eV 0,eV 4])) (AM (BE 5 (AD Bs [eV 4,eV 6])) (AM (xIf (eOp (o2 wNe) [eV 5,eC (.str "many")]) (BV (Hy LA (eV 2) [AD GD [eV 4,eV 6]])) BP) (Ad (eOp (o2 wEq) [HA "_law_step" [1,6] (C6 "Leader" "do" B9 (eV 0) [eV 1]) (Ko "Leader" "do" Cc (eV 0) [eV 1]) 0 (gOr ["TooMany","NoNext","NothingDone"] "TooMany" (Ad (eC (.str "many"))) (gOr ["TooMany","NoNext","NothingDone"] "NoNext" (Ad (eC (.str "next"))) (gOr ["TooMany","NoNext","NothingDone"] "NothingDone" (Ad (eC (.str "nothing"))) gNo))),eV 5]))))))))
def Dx:=AO (AU 7 Mj)
def HE:=Ad (IS "Leader" "kept" (eV 0))
def Al:=AO (AU 1 HE)
def IJ:=AM (xIf (F1 (AD Ah [eV 1,eV 0])) (Ad (eC (.bl false))) BP) (Ad (Fs (eOp (o1 V5) [CN [] 1 (HC (eV 1)) (tNm 0) Bk (AD CZ [eV 0])]) (eOp (o2 wEq) [AD Cy [eV 1],eC N4])))
def Cv:=AO (AU 2 IJ)
def LD:=AM (xIf (F1 (AD Ah [eV 1,eI 3])) (Ad (eC (.bl false))) BP) (AM (Jf (tTp [tNm 2,tNm 3,tNm 4]) (eV 1)) (Ad (Fs (AD C4 [eV 0,eV 2]) (Fs (AD CW [eV 3,eI 0]) (AD Cv [eIx (eV 0) (eI 0),eV 4])))))
def Du:=AO (AU 5 LD)
def JE:=AM (xIf (eOr (F1 (eOp (o2 Pm) [eV 1,eC (.ty "tuple")])) (eOp (o2 wGt) [eOp (o1 Cs) [eV 1],eC BB])) (Ad (eC (.bl false))) BP) (Ad (eOp (o1 V5) [CN [0] 1 (HC (eV 1)) (tNm 1) Bk (Fs (AD Du [eV 0,eV 1]) (eOp (o2 wGt) [eIx (eV 1) (eI 1),eI 0]))]))
def Cd:=AO (AU 2 JE)
def KJ:=AM (xIf (F1 (AD Ah [eV 0,eI 6])) (Ad (eC (.bl false))) BP) (AM (Jf (tTp [tNm 1,tNm 2,tNm 3,tNm 4,tNm 5,tNm 6]) (eV 0)) (AM (xIf (F1 (Fs (AD Ak [eV 1,eI 1,eI 4]) (Fs (AD Ak [eV 2,eI 1,eI 5]) (AD Ak [eV 3,eI 1,eI 20])))) (Ad (eC (.bl false))) BP) (Ad (Fs (AD Cv [eV 1,eV 4]) (Fs (AD Ak [eV 5,eI 0,eI 9]) (AD Ak [eV 6,eI 0,eI 9]))))))
def DL:=AO (AU 7 KJ)
def IF:=AM (xIf (F1 (AD DL [eV 1])) Ba BP) (AM (xIf (F1 (AD Cd [eV 1,eV 2])) Ba BP) (AM (UA "Leader" "kept" (eV 0) (Bh [eV 1,eV 2,Bh []])) (UA "Leader" "earlier" (eV 0) (Ha []))))
def Bw:=AO (AU 3 IF)
def Tq:=AM (BE 1 (AD HJ [AD CF [eV 0,eI 0]])) (AM (Jf (tTp [tNm 2,tNm 3]) (AD FE [eV 1])) (AM (BE 4 (QW "Leader" Bw [eV 2,eV 3])) (AM (BE 5 (Ha [Bh [eV 2,eV 3,Bh []]])) (AM (OJ (SV [eI 12]) (tNm 6) (xIf (eOr (F1 (AD Dx [eV 1,eV 4,eV 5])) (eOp (o2 wNe) [C6 "Leader" "book" Al (eV 4) [],eIx (eV 5) (eOp (o1 NJ) [eI 1])])) (Ad (eC (.bl false))) BP)) (AM (JD (T8 20) (eOp (o2 wGt) [eOp (o1 Cs) [eV 5],eI 1]) (AM (BV (Hy QN (eV 5) [])) (AM (BV (C6 "Leader" "undo" Ar (eV 4) [])) (xIf (eOp (o2 wNe) [C6 "Leader" "book" Al (eV 4) [],eIx (eV 5) (eOp (o1 NJ) [eI 1])]) (Ad (eC (.bl false))) BP)))) (Ad (Fs (eOp (o2 wEq) [HA "law" [4] (C6 "Leader" "undo" Ar (eV 0) []) (Ko "Leader" "undo" Bf (eV 0) []) 0 (gOr ["TooMany","NoNext","NothingDone"] "TooMany" (Ad (eC (.str "many"))) (gOr ["TooMany","NoNext","NothingDone"] "NoNext" (Ad (eC (.str "next"))) (gOr ["TooMany","NoNext","NothingDone"] "NothingDone" (Ad (eC (.str "nothing"))) gNo))),eC (.str "nothing")]) (eOp (o2 wEq) [C6 "Leader" "book" Al (eV 4) [],Bh [eV 2,eV 3,Bh []]]))))))))
def Nd:=AO (AU 7 Tq)
end
section
noncomputable def top(i:Nat):rQ:=xB.main.body.getD i (.Pass ⟨0,0,0,0⟩)
abbrev Hi:=top 4
abbrev Ii:=top 5
abbrev Gj:=top 6
abbrev Cp:=top 7
abbrev GZ:=top 8
abbrev J7:=top 9
abbrev N3:=top 10
abbrev N0:=top 11
abbrev Le:=top 12
abbrev L3:=top 13
abbrev L8:=top 14
abbrev FJ:=top 32
abbrev Fo:=top 33
abbrev Ct:=top 34
abbrev HX:=top 35
abbrev Fz:=top 36
abbrev Iu:=top 37
abbrev Dc:=top 38
abbrev C8:=top 39
abbrev F0:=top 40
abbrev Cu:=top 41
abbrev Fy:=top 42
abbrev Dz:=top 43
abbrev Gq:=top 45
abbrev IQ:=top 46
abbrev Dy:=top 47
abbrev DZ:=top 48
abbrev CB:=top 49
abbrev Fx:=top 50
abbrev HK:=top 51
abbrev Hb:=top 52
abbrev GG:=top 53
abbrev EN:=top 54
abbrev FU:=top 55
abbrev B4:=top 56
abbrev Io:=top 57
abbrev GR:=top 58
abbrev Ew:=top 59
abbrev Dq:=top 60
abbrev Cr:=top 61
abbrev Hj:=top 62
abbrev GS:=top 63
abbrev Cz:=top 65
abbrev CI:=top 66
abbrev Et:=top 67
abbrev CJ:=top 68
abbrev E7:=top 69
abbrev D0:=top 70
abbrev Ez:=top 71
abbrev D1:=top 72
abbrev Bz:=top 73
abbrev EG:=top 74
abbrev EA:=top 76
abbrev ER:=top 77
abbrev CD:=top 78
abbrev Ef:=top 79
abbrev Bu:=inClass (top 81) 0
abbrev A7:=inClass (top 81) 1
abbrev Bq:=inClass (top 81) 2
abbrev BC:=inClass (top 81) 3
abbrev BI:=inClass (top 81) 4
abbrev Bd:=inClass (top 81) 5
abbrev K9:=top 83
abbrev Gb:=top 84
abbrev J3:=top 85
abbrev Hh:=top 86
abbrev J2:=top 87
abbrev DA:=top 88
abbrev IY:=top 89
abbrev HY:=top 90
abbrev Iy:=top 91
abbrev IV:=top 92
abbrev Ej:=top 94
abbrev FD:=top 95
abbrev Jj:=top 96
abbrev Ia:=top 97
abbrev Hl:=top 98
abbrev GH:=top 99
abbrev J8:=top 100
abbrev Ic:=top 101
abbrev Jz:=top 102
abbrev Js:=top 103
abbrev JO:=top 104
abbrev Ih:=top 105
abbrev EF:=top 106
abbrev Cm:=top 107
abbrev Jg:=top 108
abbrev CG:=top 109
abbrev Jq:=top 110
abbrev CK:=top 111
abbrev IL:=top 112
abbrev Ep:=top 93
def Ey:Av ["_law_call"] ["_law_call"] (AB Ep):=scM
structure Bts(mg:Str->qR qX):Prop where
 abs:mg "abs"=none
 all:mg "all"=none
 bool:mg "bool"=none
 enumerate:mg "enumerate"=none
 int:mg "int"=none
 isi:mg "isinstance"=none
 len:mg "len"=none
 list:mg "list"=none
 min:mg "min"=none
 range:mg "range"=none
 sorted:mg "sorted"=none
 str:mg "str"=none
 sum:mg "sum"=none
 tuple:mg "tuple"=none
 zip:mg "zip"=none
structure All(w:tK)(K:W1)(mg:Str->qR qX):Prop where
 bt:Bts mg
 fq:Pl K mg "ALL" N4
 Qm:Pl K mg "MAKERS" BS
 KN:Pl K mg "MOST_DEEDS" Fb
 KP:Pl K mg "MOST_FIRST" BB
 JW:Pl K mg "MOST_THROWS" Eg
 Ox:Pl K mg "NOTHING" Eu
 JC:Pl K mg "UNLIKE" Bx
 Jk:gY K w mg "FORMS" EU
 QU:iF w K mg "PARTS" [("partner","is_partner"),("kind","is_kind"),("load","is_load_number"),("number","is_trade_number"),("pieces","are_pieces"),("worths","are_worths"),("share","is_sold_share")]
 JS:XcD K mg "NoDeed"
 JT:XcD K mg "NoNext"
 MX:XcD K mg "NoNumber"
 DY:XcD K mg "NothingDone"
 HM:XcD K mg "TooMany"
 Ci:XmD K mg ["TooMany","NoNext","NothingDone"] "NoNext"
 Au:XmD K mg ["TooMany","NoNext","NothingDone"] "NothingDone"
 B5:XmD K mg ["TooMany","NoNext","NothingDone"] "TooMany"
 AR:ClD K "Leader" ["kept","earlier"]
 Bu:MkS K mg "Leader" "Leader.__init__" Bu
 A7:MeS K "Leader" "turn_to" "Leader.turn_to" A7
 Bq:MeS K "Leader" "do" "Leader.do" Bq
 BC:MeS K "Leader" "start" "Leader.start" BC
 BI:MeS K "Leader" "undo" "Leader.undo" BI
 Bd:MeS K "Leader" "book" "Leader.book" Bd
 Hi:St.Src K mg "is_whole" Hi
 Ii:St.Src K mg "is_from" Ii
 Gj:St.Src K mg "is_within" Gj
 Cp:St.Src K mg "greatest_divisor" Cp
 GZ:St.Src K mg "is_amount" GZ
 J7:St.Src K mg "lowest" J7
 N3:St.Src K mg "plus" N3
 N0:St.Src K mg "less" N0
 Le:St.Src K mg "times" Le
 L3:St.Src K mg "mixed" L3
 L8:St.Src K mg "total" L8
 FJ:St.Src K mg "is_tuple_of" FJ
 Fo:St.Src K mg "is_share" Fo
 Ct:St.Src K mg "are_owners" Ct
 HX:St.Src K mg "is_train" HX
 Fz:St.Src K mg "is_partner" Fz
 Iu:St.Src K mg "is_kind" Iu
 Dc:St.Src K mg "is_load_number" Dc
 C8:St.Src K mg "is_trade_number" C8
 F0:St.Src K mg "are_pieces" F0
 Cu:St.Src K mg "are_values" Cu
 Fy:St.Src K mg "are_worths" Fy
 Dz:St.Src K mg "is_sold_share" Dz
 Gq:St.Src K mg "is_part" Gq
 IQ:St.Src K mg "is_load" IQ
 Dy:St.Src K mg "is_deed" Dy
 DZ:St.Src K mg "are_first" DZ
 CB:St.Src K mg "are_deeds" CB
 Fx:St.Src K mg "has_pieces" Fx
 HK:St.Src K mg "can_pool" HK
 Hb:St.Src K mg "can_swap" Hb
 GG:St.Src K mg "can_do" GG
 EN:St.Src K mg "held_without" EN
 FU:St.Src K mg "held_behind" FU
 B4:St.Src K mg "held_at_first" B4
 Io:St.Src K mg "held_by" Io
 GR:St.Src K mg "made_from" GR
 Ew:St.Src K mg "first_wrong" Ew
 Dq:St.Src K mg "refuse_undone" Dq
 Cr:St.Src K mg "many_loads" Cr
 Hj:St.Src K mg "is_place" Hj
 GS:St.Src K mg "made_by" GS
 Cz:St.Src K mg "all_to_one" Cz
 CI:St.Src K mg "mixed_shares" CI
 Et:St.Src K mg "made_shares" Et
 CJ:St.Src K mg "worth_of_all" CJ
 E7:St.Src K mg "part_thrown" E7
 D0:St.Src K mg "thrown_shares" D0
 Ez:St.Src K mg "sold_shares" Ez
 D1:St.Src K mg "shares_behind" D1
 Bz:St.Src K mg "owners_behind" Bz
 EG:St.Src K mg "state_by" EG
 EA:St.Src K mg "all_dues" EA
 ER:St.Src K mg "whole_pieces" ER
 CD:St.Src K mg "over_told" CD
 Ef:St.Src K mg "next_book" Ef
 K9:St.Src K mg "_law_pen" K9
 Gb:St.Src K mg "_law_cell_at" Gb
 J3:St.Src K mg "_law_draw" J3
 Hh:St.Src K mg "_law_common" Hh
 J2:St.Src K mg "_law_made" J2
 DA:St.Src K mg "_law_whole" DA
 IY:St.Src K mg "_law_train" IY
 HY:St.Src K mg "_law_pieces" HY
 Iy:St.Src K mg "_law_first" Iy
 IV:St.Src K mg "_law_begin" IV
 Ej:St.Src K mg "_law_next" Ej
 FD:St.Src K mg "_law_begun" FD
 Jj:St.Src K mg "_law_plus" Jj
 Ia:St.Src K mg "_law_times" Ia
 Hl:St.Src K mg "_law_pooled" Hl
 GH:St.Src K mg "_law_cost" GH
 J8:St.Src K mg "_law_less" J8
 Ic:St.Src K mg "_law_borne" Ic
 Jz:St.Src K mg "_law_sold" Jz
 Js:St.Src K mg "_law_turn" Js
 JO:St.Src K mg "_law_do" JO
 Ih:St.Src K mg "_law_share" Ih
 EF:St.Src K mg "_law_worths" EF
 Cm:St.Src K mg "_law_deed" Cm
 Jg:St.Src K mg "_law_good" Jg
 CG:St.Src K mg "_law_made_by" CG
 Jq:St.Src K mg "_law_with" Jq
 CK:St.Src K mg "_law_step" CK
 IL:St.Src K mg "law" IL
 Ep:St.Src K mg "_law_said" Ep
end
section
local macro_rules| `(tactic|walk_at $s)=>do
 let i (w:ua):Lean.Term:=AAF w.toName
 let t (w:ua):y3 Lean.Term:=do
  match w with
  | "?"=> `(?_)
  | "_"=> `(_)
  | "A"=> `(by assumption)
  | "B"=> `(by walk_at "b")
  | "D"=> `(by decide)
  | "K"=> `(λ_ _ _=>⟨?_,?_,?_⟩)
  | "F"=> `(U1 _)
  |_=>match w.splitOn "/" with
   | [f,n]=>pure (wG (i f) (Array.replicate n.length (<- `(?_))))
   |_=>pure (i w)
 let r (a:Wp ua):y3 (yO `tactic):=do `(tactic|refine $(wG (i a.head!) (<-a.tail!.mapM t).toArray))
 let g (s:ua):y3 (yO `tactic):=do
  (s.splitOn ";").foldrM (λx z=>do
    let a:=x.splitOn " "
    let b<-if a.head!== "%" then `(tactic|with_reducible $(<-r a.tail!):tactic)else r a
    `(tactic|first| $b:tactic| $z:tactic)) (<- `(tactic|assumption))
 let ws:=s.getString.splitOn " "
 match ws.head! with
 | "b"=>g "Bts.abs A;Bts.all A;Bts.bool A;Bts.enumerate A;Bts.int A;Bts.isi A;Bts.len A;Bts.list A;Bts.min A;Bts.range A;Bts.sorted A;Bts.str A;Bts.sum A;Bts.tuple A;Bts.zip A;% boot_abs;% boot_all;% boot_bool;% boot_enumerate;% boot_int;% boot_isinstance;% boot_len;% boot_list;% boot_min;% boot_range;% boot_sorted;% boot_str;% boot_sum;% boot_tuple;% boot_zip"
 | "d"=>do
   let z<-("qG:AE ? ?;AI|gDE:AH _;BQ;CU;Hd O3 ? ?;deM A A ?;XM ? ? ?;Bg ? rfl B B ?;U8 ? rfl B B ?;HZ ?;Vo ?;bS _ _ _ rfl A ? K;KS ? ? ?;Yk ? ?;Ua ?;Zj ? ?;YN;RX;Zn A rfl;ag rfl B B;oX ? ? ?;mJ ?;TJ PySem.F.slot_list_append PySem.F.type_list_append QF ? ?;TJ PySem.F.slot_list_extend PySem.F.type_list_extend kx ? ?;lJ ? ?;kB ? ?;ke ? ? ?|qN:AV ?;AW ? ?;Bl|gDS:Be ?;Fd _ ? A;FK ?;FY ? ? ?;bp _ _ _ rfl A rfl rfl A ? K;Tp ? ?;ig ? ? ?;de PassesOwn.never rfl ? ? ?;mh rfl A rfl rfl D rfl rfl ? ?;D6;WW F PassesOwn.never ? ?|gDT:EZ ? ? ?;Gv ?;DW.dt lU/??;DW.dt aL/??;F7 ?|gDG:Lj _ A;Xq rfl ?|qC:% OA;% FF ?;% jC;% jg;% lT;% j3;% Oq ?;% U7;% ip;% lY;% mP;% mz;% jX;% Ts;% i0|mx:% Bo;% Zg;% eF rfl;% Li;% Tt;% gh;% cF;% Uy rfl;% dy rfl;% Yv".splitOn "|").foldrM (λx z=>do
    let a:=x.splitOn ":"
    `(tactic|first|((with_reducible refine $(i a.head!) ?_); $(<-g a.tail!.head!):tactic)| $z:tactic)) (<-g "D2 ? ?;Nz;ZT;lE ?;mU ?;Y9 rfl B ?;mD rfl B ? ?;gX rfl B ?;Po;lU ? ?;lI ?;aL ? ?;UX ?;Pd;Jt ?;Fe ? ? ?;% Xp;Wg ? ? ?;Ky rfl A rfl ?;Xp")
   let y:yO `tactic<-ws.tail!.foldrM (λw z=>do `(tactic|(have:= $(if w.startsWith "T." then i w else wG (i w) #[i "P",i "base",i "bm",i "T"]); $z:tactic))) (<- `(tactic|repeat' $z:tactic))
   pure y
 |_=>Lean.Macro.throwUnsupported
variable(P:sF){w:tK}{K:W1}{mg:Str->qR qX}(base:sS)(bm:BmB mg base)(T:All w K mg)
include bm T
theorem YC:St.Dfn P w K mg base "is_whole" 1 ["thing"] (spD K 1 EB):=dfW (N:=["thing"]) 0 T.Hi scM λ_ _ _=>by
 walk_at "d T.bt"
theorem ZO:St.Dfn P w K mg base "is_from" 2 ["thing","low"] (spD K 2 CW):=dfW (N:=["thing","low"]) 1 T.Ii scM λ_ _ _=>by
 walk_at "d YC"
theorem XI:St.Dfn P w K mg base "is_within" 3 ["thing","low","high"] (spD K 3 Ak):=dfW (N:=["thing","low","high"]) 2 T.Gj scM λ_ _ _=>by
 walk_at "d ZO"
theorem Ph:St.Dfn P w K mg base "greatest_divisor" 1 ["one","other"] (spD K 2 BR):=dfW (N:=["one","other"]) 0 T.Cp scM λ_ _ _=>by
 walk_at "d T.bt"
theorem GO:St.Dfn P w K mg base "is_amount" 3 ["thing"] (spD K 1 Eh):=dfW (N:=["thing","top","bottom"]) 2 T.GZ scM λ_ _ _=>by
 walk_at "d T.bt YC ZO Ph"
theorem cG:St.Dfn P w K mg base "lowest" 2 ["top","bottom"] (spD K 2 Cf):=dfW (N:=["top","bottom","divisor"]) 1 T.J7 scM λ_ _ _=>by
 walk_at "d Ph"
theorem jK:St.Dfn P w K mg base "plus" 3 ["one","other"] (spD K 2 Fp):=dfW (N:=["one","other"]) 2 T.N3 scM λ_ _ _=>by
 walk_at "d cG"
theorem iW:St.Dfn P w K mg base "less" 3 ["one","other"] (spD K 2 DX):=dfW (N:=["one","other"]) 2 T.N0 scM λ_ _ _=>by
 walk_at "d cG"
theorem dk:St.Dfn P w K mg base "times" 3 ["one","other"] (spD K 2 CH):=dfW (N:=["one","other"]) 2 T.Le scM λ_ _ _=>by
 walk_at "d cG"
theorem c8:St.Dfn P w K mg base "mixed" 3 ["one","weight","other","more"] (spD K 4 He):=dfW (N:=["one","weight","other","more","top"]) 2 T.L3 scM λ_ _ _=>by
 walk_at "d cG"
theorem cL:St.Dfn P w K mg base "total" 4 ["amounts"] (spD K 1 Cy):=dfW (N:=["amounts","together","amount"]) 3 T.L8 scM λ_ _ _=>by
 walk_at "d T.Ox jK"
theorem Vf:St.Dfn P w K mg base "is_tuple_of" 1 ["thing","many"] (spD K 2 Ah):=dfW (N:=["thing","many"]) 0 T.FJ scM λ_ _ _=>by
 walk_at "d T.bt"
omit T bm in
theorem Nl:Av ["thing"] ["thing"] (AB Fo):=scM
theorem YV:St.Dfn P w K mg base "is_share" 4 ["thing"] (spD K 1 CZ):=by
 have GO:=GO P base bm T
 refine dfM 3 T.Fo Nl λhr hu=>?_
 exact(AV (Be (Yk (deM GO hr (AE (AH 0) AI)) (Ua (Zd BQ (Hd O3 (AH 0) BQ) (Hd O3 (AH 0) BQ))))))
theorem V9:St.Dfn P w K mg base "are_owners" 5 ["partners","thing"] (spD K 2 Cv):=dfW (N:=["partners","thing"]) 4 T.Ct scM λ_ _ _=>by
 have:AQ ["partners","thing"] (AB Ct) ["share"] (ixC [] 1) (Je Ct 0):=csM
 have:(["share"]:Wp Str).Nodup:=by decide+kernel
 walk_at "d T.bt T.fq cL Vf YV"
theorem HU:St.Dfn P w K mg base "is_train" 6 ["thing"] (spD K 1 DL):=dfW (N:=["thing","partners","kinds","beasts","holders","hire","part"]) 5 T.HX scM λ_ _ _=>by
 walk_at "d XI Vf V9"
theorem MT:St.Dfn P w K mg base "is_partner" 4 ["train","thing"] (spD K 2 D7):=dfW (N:=["train","thing"]) 3 T.Fz scM λ_ _ _=>by
 walk_at "d XI"
theorem Py:St.Dfn P w K mg base "is_kind" 4 ["train","thing"] (spD K 2 C4):=dfW (N:=["train","thing"]) 3 T.Iu scM λ_ _ _=>by
 walk_at "d XI"
theorem Jb:St.Dfn P w K mg base "is_load_number" 3 ["train","thing"] (spD K 2 CM):=dfW (N:=["train","thing"]) 2 T.Dc scM λ_ _ _=>by
 walk_at "d ZO"
theorem Iv:St.Dfn P w K mg base "is_trade_number" 4 ["train","thing"] (spD K 2 B8):=dfW (N:=["train","thing"]) 3 T.C8 scM λ_ _ _=>by
 walk_at "d XI"
theorem MQ:St.Dfn P w K mg base "are_pieces" 3 ["train","thing"] (spD K 2 D4):=dfW (N:=["train","thing"]) 2 T.F0 scM λ_ _ _=>by
 walk_at "d ZO"
theorem WA:St.Dfn P w K mg base "are_values" 4 ["thing","many"] (spD K 2 D8):=dfW (N:=["thing","many"]) 3 T.Cu scM λ_ _ _=>by
 have:AQ ["thing","many"] (AB Cu) ["value"] (ixC [] 1) (Je Cu 0):=csM
 have:(["value"]:Wp Str).Nodup:=by decide+kernel
 walk_at "d T.bt XI Vf"
theorem MR:St.Dfn P w K mg base "are_worths" 5 ["train","thing"] (spD K 2 D5):=dfW (N:=["train","thing"]) 4 T.Fy scM λ_ _ _=>by
 walk_at "d WA"
theorem KD:St.Dfn P w K mg base "is_sold_share" 5 ["train","thing"] (spD K 2 Cg):=dfW (N:=["train","thing"]) 4 T.Dz scM λ_ _ _=>by
 walk_at "d YV"
omit T bm in
theorem Kb:Av ["train","part","thing","holds"] ["train","part","thing"] (AB Gq):=scM
theorem XR:j9 P w K mg base "PARTS" 5 2 Ec:=ZM T.QU (.cons ⟨rfl,_,_,(by decide),MT P base bm T⟩ (.cons ⟨rfl,_,_,(by decide),Py P base bm T⟩ (.cons ⟨rfl,_,_,(by decide),Jb P base bm T⟩ (.cons ⟨rfl,_,_,(by decide),Iv P base bm T⟩ (.cons ⟨rfl,_,_,(by decide),MQ P base bm T⟩ (.cons ⟨rfl,_,_,(by decide),MR P base bm T⟩ (.cons ⟨rfl,_,_,(by decide),KD P base bm T⟩ Paired.nil)))))))
theorem Ip:St.Dfn P w K mg base "is_part" 6 ["train","part","thing"] (spD K 3 An):=by
 have T_PARTS:=XR P base bm T
 refine dfM 5 T.Gq Kb λhr hu=>?_
 exact(Z8 3 1 T_PARTS (hr.mono (by decide)) (AE (AH 0) (AE (AH 2) AI)) rfl Kb.nd)
theorem ZD:St.Dfn P w K mg base "is_load" 6 ["train","thing"] (spD K 2 Du):=dfW (N:=["train","thing","kind","pieces","owners"]) 5 T.IQ scM λ_ _ _=>by
 walk_at "d ZO Vf V9 Py"
omit T bm in
theorem HP:Av ["train","thing","word","form"] ["train","thing"] (AB Dy):=scM
omit T bm in
theorem ML:AQ ["train","thing","word","form"] (AB Dy) ["train","thing","at","part"] (ixC [0,1] 2) (Je Dy 0):=csM
omit T bm in
theorem H0:(["train","thing","at","part"]:Wp Str).Nodup:=by decide+kernel
theorem C7:St.Dfn P w K mg base "is_deed" 7 ["train","thing"] (spD K 2 BF):=by
 have B:=T.bt
 have JC:=T.JC
 have Jk:=T.Jk
 have Ip:=Ip P base bm T
 refine dfM 6 T.Dy HP λhr hu=>?_
 exact(AW (FY (DW.dt (aL (Gv (F7 (Bg Li rfl B.isi yd (AE (AH 1) (AE (ag rfl B.tuple boot_tuple) AI))))) (UX (EZ (FF hu) (Bg Bo rfl B.len uw (AE (AH 1) AI)) BQ)))) (AV (Be RX)) Bl)
      (AW (Fd 2 (Hd O3 (AH 1) BQ) HP.nd)
      (AW (FY (DW.dt (aL (Gv (F7 (Bg Li rfl B.isi yd (AE (AH 2) (AE (ag rfl B.str boot_str) AI))))) (UX (P1 Jk rfl (AH 2))))) (AV (Be RX)) Bl)
      (AW (Fd 3 (eE Jk rfl (AH 2)) HP.nd)
      (AW (FY (EZ (Oq hu) (Bg Bo rfl B.len uw (AE (AH 1) AI)) (XM OA (Bg Bo rfl B.len uw (AE (AH 3) AI)) BQ)) (AV (Be RX)) Bl)
      (AW (FY (Gv (F7 (Bg (Uy rfl) rfl B.all boot_all (AE (bS [0,1] 2 ["train","thing","at","part"] rfl ML (gX rfl B.enumerate (AH 3)) (λs H fp=>⟨Xq rfl (D2 (Lj 2 H0) (D2 (Lj 3 H0) Nz)),ZT,deM Ip hr (AE (AH 0) (AE (AH 3) (AE (Hd O3 (AH 1) (XM OA (AH 2) BQ)) AI)))⟩)) AI)))) (AV (Be RX)) Bl)
      (AV (Be (kg (KS Ts (AH 2) (Zn JC rfl)) (Ua (KS (Oq hu) (Hd O3 (AH 1) BQ) (Hd O3 (AH 1) BQ))))))))))))
theorem Gs:St.Dfn P w K mg base "are_first" 7 ["train","thing"] (spD K 2 Cd):=dfW (N:=["train","thing"]) 6 T.DZ scM λ_ _ _=>by
 have:AQ ["train","thing"] (AB DZ) ["train","load"] (ixC [0] 1) (Je DZ 0):=csM
 have:(["train","load"]:Wp Str).Nodup:=by decide+kernel
 walk_at "d T.bt T.KP ZD"
theorem CA:St.Dfn P w K mg base "are_deeds" 8 ["train","thing"] (spD K 2 BH):=dfW (N:=["train","thing"]) 7 T.CB scM λ_ _ _=>by
 have:AQ ["train","thing"] (AB CB) ["train","deed"] (ixC [0] 1) (Je CB 0):=csM
 have:(["train","deed"]:Wp Str).Nodup:=by decide+kernel
 have:AQ ["train","thing"] (AB CB) ["deed"] (ixC [] 1) (Je CB 1):=csM
 have:(["deed"]:Wp Str).Nodup:=by decide+kernel
 walk_at "d T.bt T.KN T.JW C7"
theorem V3:St.Dfn P w K mg base "has_pieces" 1 ["held","load","pieces"] (spD K 3 BU):=dfW (N:=["held","load","pieces"]) 0 T.Fx scM λ_ _ _=>by
 walk_at "d T.bt"
theorem YG:St.Dfn P w K mg base "can_pool" 2 ["held","load","other"] (spD K 3 DC):=dfW (N:=["held","load","other"]) 1 T.HK scM λ_ _ _=>by
 walk_at "d V3"
theorem Yp:St.Dfn P w K mg base "can_swap" 2 ["held","load","given","kind"] (spD K 4 DJ):=dfW (N:=["held","load","given","kind"]) 1 T.Hb scM λ_ _ _=>by
 walk_at "d V3"
theorem b9:St.Dfn P w K mg base "can_do" 3 ["held","done","deed"] (spD K 3 B6):=dfW (N:=["held","done","deed","word","numbers"]) 2 T.GG scM λ_ _ _=>by
 have:AQ ["held","done","deed","word","numbers"] (AB GG) ["other"] (ixC [] 1) (Je GG 0):=csM
 have:(["other"]:Wp Str).Nodup:=by decide+kernel
 walk_at "d V3 YG Yp"
theorem SU:St.Dfn P w K mg base "held_without" 1 ["held","load","pieces"] (spD K 3 BO):=dfW (N:=["held","load","pieces","kind","there"]) 0 T.EN scM λ_ _ _=>by
 walk_at "d"
theorem VQ:St.Dfn P w K mg base "held_behind" 2 ["held","deed"] (spD K 2 Aa):=dfW (N:=["held","deed","word","kind","pieces","more","load","given","got"]) 1 T.FU scM λ_ _ _=>by
 walk_at "d SU"
theorem Ry:St.Dfn P w K mg base "held_at_first" 1 ["book"] (spD K 1 BY):=dfW (N:=["book"]) 0 T.B4 scM λ_ _ _=>by
 have:AQ ["book"] (AB B4) ["load"] (ixC [] 1) (Je B4 0):=csM
 have:(["load"]:Wp Str).Nodup:=by decide+kernel
 walk_at "d"
theorem ay:St.Dfn P w K mg base "held_by" 3 ["book","many"] (spD K 2 FN):=dfW (N:=["book","many","held","deed"]) 2 T.Io scM λ_ _ _=>by
 walk_at "d VQ Ry"
theorem WU:St.Dfn P w K mg base "made_from" 1 ["deed"] (spD K 1 Bp):=dfW (N:=["deed","word"]) 0 T.GR scM λ_ _ _=>by
 walk_at "d T.bt"
theorem UK:St.Dfn P w K mg base "first_wrong" 4 ["book"] (spD K 1 Dm):=dfW (N:=["book","held","deeds","at","deed"]) 3 T.Ew scM λ_ _ _=>by
 walk_at "d T.bt b9 VQ Ry"
theorem BX:St.Dfn P w K mg base "refuse_undone" 5 ["book"] (spD K 1 Ag):=dfW (N:=["book","wrong"]) 4 T.Dq scM λ_ _ _=>by
 walk_at "d UK"
theorem WC:St.Dfn P w K mg base "many_loads" 1 ["book","many"] (spD K 2 Cw):=dfW (N:=["book","many"]) 0 T.Cr scM λ_ _ _=>by
 have:AQ ["book","many"] (AB Cr) ["deed"] (ixC [] 1) (Je Cr 0):=csM
 have:(["deed"]:Wp Str).Nodup:=by decide+kernel
 walk_at "d T.bt T.Qm"
theorem Yg:St.Dfn P w K mg base "is_place" 4 ["book","thing"] (spD K 2 DO):=dfW (N:=["book","thing"]) 3 T.Hj scM λ_ _ _=>by
 walk_at "d T.bt XI"
theorem Iw:dj P w K mg base "made_by" 6 ["book","place"] (spR K mg 2 Ig):=lh (N:=["book","place"]) 5 T.GS scM λ_ _ _=>by
 walk_at "d T.Qm BX WC Yg T.MX"
theorem FC:St.Dfn P w K mg base "made_by" 6 ["book","place"] (spD K 2 Dv):=dfW (N:=["book","place"]) 5 T.GS scM λ_ _ _=>by
 walk_at "d T.Qm BX WC Yg"
theorem V4:St.Dfn P w K mg base "all_to_one" 1 ["many","one"] (spD K 2 D3):=dfW (N:=["many","one"]) 0 T.Cz scM λ_ _ _=>by
 have:AQ ["many","one"] (AB Cz) ["one","at"] (ixC [1] 1) (Je Cz 0):=csM
 have:(["one","at"]:Wp Str).Nodup:=by decide+kernel
 walk_at "d T.bt T.fq T.Ox"
theorem SQ:St.Dfn P w K mg base "mixed_shares" 4 ["shares","weight","others","more"] (spD K 4 BN):=dfW (N:=["shares","weight","others","more"]) 3 T.CI scM λ_ _ _=>by
 have:AQ ["shares","weight","others","more"] (AB CI) ["weight","more","share","other"] (ixC [1,3] 2) (Je CI 0):=csM
 have:(["weight","more","share","other"]:Wp Str).Nodup:=by decide+kernel
 walk_at "d T.bt c8"
theorem Vy:St.Dfn P w K mg base "made_shares" 5 ["held","shares","deed"] (spD K 3 A9):=dfW (N:=["held","shares","deed","sources","load","other"]) 4 T.Et scM λ_ _ _=>by
 walk_at "d T.bt WU SQ"
theorem SO:St.Dfn P w K mg base "worth_of_all" 1 ["train","held","worths"] (spD K 3 C1):=dfW (N:=["train","held","worths"]) 0 T.CJ scM λ_ _ _=>by
 have:AQ ["train","held","worths"] (AB CJ) ["worths","kind","pieces"] (ixC [2] 2) (Je CJ 0):=csM
 have:(["worths","kind","pieces"]:Wp Str).Nodup:=by decide+kernel
 walk_at "d T.bt"
theorem Sx:St.Dfn P w K mg base "part_thrown" 3 ["train","held","deed"] (spD K 3 De):=dfW (N:=["train","held","deed","load","pieces","worths"]) 2 T.E7 scM λ_ _ _=>by
 walk_at "d cG SO"
theorem R7:St.Dfn P w K mg base "thrown_shares" 5 ["train","held","owners","deed","shares"] (spD K 5 Cj):=dfW (N:=["train","held","owners","deed","shares","top","bottom"]) 4 T.D0 scM λ_ _ _=>by
 walk_at "d SQ Sx"
theorem Ud:St.Dfn P w K mg base "sold_shares" 4 ["deed","shares"] (spD K 2 Di):=dfW (N:=["deed","shares","partner","other","sold","passed","changed"]) 3 T.Ez scM λ_ _ _=>by
 walk_at "d T.bt jK iW dk"
theorem SF:St.Dfn P w K mg base "shares_behind" 6 ["train","held","owners","deed","shares"] (spD K 5 AY):=dfW (N:=["train","held","owners","deed","shares"]) 5 T.D1 scM λ_ _ _=>by
 walk_at "d R7 Ud"
theorem Rm:St.Dfn P w K mg base "owners_behind" 7 ["train","held","owners","deed"] (spD K 4 Ai):=dfW (N:=["train","held","owners","deed","behind"]) 6 T.Bz scM λ_ _ _=>by
 have:AQ ["train","held","owners","deed","behind"] (AB Bz) ["train","held","owners","deed","shares"] (ixC [0,1,2,3] 1) (Je Bz 0):=csM
 have:(["train","held","owners","deed","shares"]:Wp Str).Nodup:=by decide+kernel
 walk_at "d T.Qm V4 Vy SF"
theorem Yf:St.Dfn P w K mg base "state_by" 8 ["book","many"] (spD K 2 EC):=dfW (N:=["book","many","train","first","deeds","held","owners","holders","deed"]) 7 T.EG scM λ_ _ _=>by
 have:AQ ["book","many","train","first","deeds","held","owners","holders","deed"] (AB EG) ["load"] (ixC [] 1) (Je EG 0):=csM
 have:(["load"]:Wp Str).Nodup:=by decide+kernel
 walk_at "d VQ Ry SF Rm"
theorem YY:St.Dfn P w K mg base "all_dues" 9 ["book"] (spD K 1 ED):=dfW (N:=["book","hire","held","owners","holders","dues","shares","kind","pieces","parts"]) 8 T.EA scM λ_ _ _=>by
 have:AQ ["book","hire","held","owners","holders","dues","shares","kind","pieces","parts"] (AB EA) ["pieces","part"] (ixC [8] 1) (Je EA 0):=csM
 have:(["pieces","part"]:Wp Str).Nodup:=by decide+kernel
 walk_at "d T.bt dk SQ Yf"
theorem SS:St.Dfn P w K mg base "whole_pieces" 1 ["due"] (spD K 1 Am):=dfW (N:=["due"]) 0 T.ER scM λ_ _ _=>by
 walk_at "d"
theorem X2:St.Dfn P w K mg base "over_told" 10 ["book"] (spD K 1 Dk):=dfW (N:=["book","held","over","dues","kind","pieces","still","left"]) 9 T.CD scM λ_ _ _=>by
 have:AQ ["book","held","over","dues","kind","pieces","still","left"] (AB CD) ["due"] (ixC [] 1) (Je CD 0):=csM
 have:(["due"]:Wp Str).Nodup:=by decide+kernel
 have:AQ ["book","held","over","dues","kind","pieces","still","left"] (AB CD) ["left","amount"] (ixC [7] 1) (Je CD 1):=csM
 have:(["left","amount"]:Wp Str).Nodup:=by decide+kernel
 walk_at "d T.bt iW dk cL ay YY SS"
theorem Cn:dj P w K mg base "next_book" 11 ["book"] (spR K mg 1 Az):=lh (N:=["book","over","partners","kinds","beasts","ahead","hire","part","held","owners","holders"]) 10 T.Ef scM λ_ _ _=>by
 walk_at "d T.bt T.KP BX Yf X2 T.HM"
theorem Br:St.Dfn P w K mg base "next_book" 11 ["book"] (spD K 1 Ao):=dfW (N:=["book","over","partners","kinds","beasts","ahead","hire","part","held","owners","holders"]) 10 T.Ef scM λ_ _ _=>by
 walk_at "d T.bt T.KP BX Yf X2"
omit T bm in
theorem Lf:Av ["self","train","first"] ["self","train","first"] (AB Bu):=scM
theorem Fw:MkD P w K mg base CX0 "Leader" 8 ["self","train","first"] (spD K 3 Bw):=by
 have AR:=T.AR
 have HU:=HU P base bm T
 have Gs:=Gs P base bm T
 refine kj (N:=["self","train","first"]) 7 T.Bu Lf λ{f cdv A outer s H E} nd_ hr hu=>?_
 exact(AW (FY (Gv (F7 (deM HU hr (AE (AH 1) AI)))) (AV D6) Bl)
      (AW (FY (Gv (F7 (deM Gs hr (AE (AH 1) (AE (AH 2) AI))))) (AV D6) Bl)
      (AW (Qs AR (by decide) (AH 0) (HZ (AE (AH 1) (AE (AH 2) (AE (HZ AI) AI)))))
      (AV (Qs AR (by decide) (AH 0) (Vo AI))))))
omit T bm in
theorem Ie:Av ["self","book"] ["self","book"] (AB A7):=scM
theorem AZ:MeD P w K mg base CX0 "Leader" "turn_to" 1 ["self","book"] (spD K 2 Aj):=by
 have AR:=T.AR
 refine U9 (N:=["self","book"]) 0 T.A7 Ie λ{f cdv A outer s H E} nd_ hr hu=>?_
 exact(AW (FK (TJ u5 vg QF (Fg AR (by decide) (AH 0)) (AE (Fg AR (by decide) (AH 0)) AI)))
      (AV (Qs AR (by decide) (AH 0) (AH 1))))
omit T bm in
theorem A6:Av ["self","deed","train","first","deeds","behind"] ["self","deed"] (AB Bq):=scM
theorem GW:MeD P w K mg base (CXr P w) "Leader" "do" 9 ["self","deed"] (spR K mg 2 Cc):=by
 have B:=T.bt
 have AR:=T.AR
 have C7:=C7 P base bm T
 have CA:=CA P base bm T
 have BX:=BX P base bm T
 have FC:=FC P base bm T
 have AZ:=AZ P base bm T
 have JS:=T.JS
 have HM:=T.HM
 have Iw:=Iw P base bm T
 refine VE (N:=["self","deed","train","first","deeds","behind"]) 8 T.Bq A6 λ{f cdv A outer s H E} nd_ hr hu=>?_
 exact(Fe Xp (Tp (Fg AR (by decide) (AH 0)) (Xq rfl (D2 (Lj 2 A6.nd) (D2 (Lj 3 A6.nd) (D2 (Lj 4 A6.nd) Nz)))))
      (Fe (Wg (Gv (F7 (deM C7 hr (AE (AH 2) (AE (AH 1) AI))))) (Jt (Ky rfl JS rfl (AE CU AI))) Pd) (FY (Gv (F7 (deM C7 hr (AE (AH 2) (AE (AH 1) AI))))) (AV D6) Bl)
      (Fe Xp (Fd 5 (HZ (AE (AH 2) (AE (AH 3) (AE (XM OA (AH 4) (HZ (AE (AH 1) AI))) AI)))) A6.nd)
      (Fe Xp (FK (deM BX hr (AE (AH 5) AI)))
      (Fe (Wg (Gv (F7 (deM CA hr (AE (AH 2) (AE (Hd O3 (AH 5) BQ) AI))))) (Jt (Ky rfl HM rfl (AE CU AI))) Pd) (FY (Gv (F7 (deM CA hr (AE (AH 2) (AE (Hd O3 (AH 5) BQ) AI))))) (AV D6) Bl)
      (Fe Xp (FK (Kz AZ hr (AH 0) (AE (AH 5) AI)))
      (Jt (fV (QR Iw (hr.mono (by decide)) rfl (AE (AH 5) (AE (Bg Bo rfl B.len uw (AE (AH 4) AI)) AI)))))))))))
theorem Gk:MeD P w K mg base CX0 "Leader" "do" 9 ["self","deed"] (spD K 2 B9):=by
 have B:=T.bt
 have AR:=T.AR
 have C7:=C7 P base bm T
 have CA:=CA P base bm T
 have BX:=BX P base bm T
 have FC:=FC P base bm T
 have AZ:=AZ P base bm T
 refine U9 (N:=["self","deed","train","first","deeds","behind"]) 8 T.Bq A6 λ{f cdv A outer s H E} nd_ hr hu=>?_
 exact(AW (Tp (Fg AR (by decide) (AH 0)) (Xq rfl (D2 (Lj 2 A6.nd) (D2 (Lj 3 A6.nd) (D2 (Lj 4 A6.nd) Nz)))))
      (AW (FY (Gv (F7 (deM C7 hr (AE (AH 2) (AE (AH 1) AI))))) (AV D6) Bl)
      (AW (Fd 5 (HZ (AE (AH 2) (AE (AH 3) (AE (XM OA (AH 4) (HZ (AE (AH 1) AI))) AI)))) A6.nd)
      (AW (FK (deM BX hr (AE (AH 5) AI)))
      (AW (FY (Gv (F7 (deM CA hr (AE (AH 2) (AE (Hd O3 (AH 5) BQ) AI))))) (AV D6) Bl)
      (AW (FK (Kz AZ hr (AH 0) (AE (AH 5) AI)))
      (AV (Be (deM FC hr (AE (AH 5) (AE (Bg Bo rfl B.len uw (AE (AH 4) AI)) AI)))))))))))
omit T bm in
theorem GC:Av ["self"] ["self"] (AB BC):=scM
theorem EL:MeD P w K mg base (CXr P w) "Leader" "start" 12 ["self"] (spR K mg 1 BM):=by
 have B:=T.bt
 have AR:=T.AR
 have Br:=Br P base bm T
 have AZ:=AZ P base bm T
 have JT:=T.JT
 have Cn:=Cn P base bm T
 refine VE (N:=["self"]) 11 T.BC GC λ{f cdv A outer s H E} nd_ hr hu=>?_
 exact(Fe (Wg (EZ (FF hu) (Bg Bo rfl B.len uw (AE (Hd O3 (Fg AR (by decide) (AH 0)) BQ) AI)) BQ) (Jt (Ky rfl JT rfl (AE CU AI))) Pd) (FY (EZ (FF hu) (Bg Bo rfl B.len uw (AE (Hd O3 (Fg AR (by decide) (AH 0)) BQ) AI)) BQ) (AV D6) Bl)
      (Jt (Zq (ax AZ (AH 0) (QR Cn (hr.mono (by decide)) rfl (AE (Fg AR (by decide) (AH 0)) AI))))))
theorem EW:MeD P w K mg base CX0 "Leader" "start" 12 ["self"] (spD K 1 Ay):=by
 have B:=T.bt
 have AR:=T.AR
 have Br:=Br P base bm T
 have AZ:=AZ P base bm T
 refine U9 (N:=["self"]) 11 T.BC GC λ{f cdv A outer s H E} nd_ hr hu=>?_
 exact(AW (FY (EZ (FF hu) (Bg Bo rfl B.len uw (AE (Hd O3 (Fg AR (by decide) (AH 0)) BQ) AI)) BQ) (AV D6) Bl)
      (AV (FK (Kz AZ hr (AH 0) (AE (deM Br hr (AE (Fg AR (by decide) (AH 0)) AI)) AI)))))
omit T bm in
theorem Gx:Av ["self"] ["self"] (AB BI):=scM
theorem B3:MeD P w K mg base (CXr P w) "Leader" "undo" 1 ["self"] (spR K mg 1 Bf):=by
 have B:=T.bt
 have AR:=T.AR
 have DY:=T.DY
 refine VE (N:=["self"]) 0 T.BI Gx λ{f cdv A outer s H E} nd_ hr hu=>?_
 exact(Fe (Wg (EZ (FF hu) (Bg Bo rfl B.len uw (AE (Fg AR (by decide) (AH 0)) AI)) BQ) (Jt (Ky rfl DY rfl (AE CU AI))) Pd) (FY (EZ (FF hu) (Bg Bo rfl B.len uw (AE (Fg AR (by decide) (AH 0)) AI)) BQ) (AV D6) Bl)
      Pd)
theorem Bb:MeD P w K mg base CX0 "Leader" "undo" 1 ["self"] (spD K 1 Ar):=by
 have B:=T.bt
 have AR:=T.AR
 refine U9 (N:=["self"]) 0 T.BI Gx λ{f cdv A outer s H E} nd_ hr hu=>?_
 exact(AW (FY (EZ (FF hu) (Bg Bo rfl B.len uw (AE (Fg AR (by decide) (AH 0)) AI)) BQ) (AV D6) Bl)
      (AV (Qs AR (by decide) (AH 0) (QL u4 wN QQ (Fg AR (by decide) (AH 0))))))
omit T bm in
theorem Kk:Av ["self"] ["self"] (AB Bd):=scM
theorem CP:MeD P w K mg base CX0 "Leader" "book" 1 ["self"] (spD K 1 Al):=by
 have AR:=T.AR
 refine U9 (N:=["self"]) 0 T.Bd Kk λ{f cdv A outer s H E} nd_ hr hu=>?_
 exact(AV (Be (Fg AR (by decide) (AH 0))))
theorem Ln:St.Dfn P w K mg base "_law_pen" 1 ["_law_cell"] (spD K 1 HJ):=dfW (N:=["_law_cell"]) 0 T.K9 scM λ_ _ _=>by
 walk_at "d T.bt"
theorem GU:St.Dfn P w K mg base "_law_cell_at" 1 ["_law_script","_law_k"] (spD K 2 CF):=dfW (N:=["_law_script","_law_k"]) 0 T.Gb scM λ_ _ _=>by
 walk_at "d T.bt"
theorem Jo:St.Dfn P w K mg base "_law_draw" 1 ["_law_pen_here","_law_bound"] (spD K 2 AF):=dfW (N:=["_law_pen_here","_law_bound","_law_found","_law_stir"]) 0 T.J3 scM λ_ _ _=>by
 walk_at "d"
theorem Yh:St.Dfn P w K mg base "_law_common" 1 ["_law_one","_law_other"] (spD K 2 FZ):=dfW (N:=["_law_one","_law_other"]) 0 T.Hh scM λ_ _ _=>by
 walk_at "d"
theorem br:St.Dfn P w K mg base "_law_made" 2 ["_law_top","_law_bottom"] (spD K 2 BW):=dfW (N:=["_law_top","_law_bottom","_law_by"]) 1 T.J2 scM λ_ _ _=>by
 walk_at "d T.bt Yh"
theorem bG:St.Dfn P w K mg base "_law_whole" 3 ["_law_pen_here","_law_many"] (spD K 2 C9):=dfW (N:=["_law_pen_here","_law_many","_law_weights"]) 2 T.DA scM λ_ _ _=>by
 have:AQ ["_law_pen_here","_law_many","_law_weights"] (AB DA) ["_law_pen_here","_law_one"] (ixC [0] 1) (Je DA 0):=csM
 have:(["_law_pen_here","_law_one"]:Wp Str).Nodup:=by decide+kernel
 have:AQ ["_law_pen_here","_law_many","_law_weights"] (AB DA) ["_law_weights","_law_weight"] (ixC [2] 1) (Je DA 1):=csM
 have:(["_law_weights","_law_weight"]:Wp Str).Nodup:=by decide+kernel
 walk_at "d T.bt Jo br"
theorem ZY:St.Dfn P w K mg base "_law_train" 4 ["_law_pen_here"] (spD K 1 Ge):=dfW (N:=["_law_pen_here","_law_partners","_law_kinds","_law_beasts"]) 3 T.IY scM λ_ _ _=>by
 walk_at "d Jo bG"
theorem Yq:St.Dfn P w K mg base "_law_pieces" 2 ["_law_pen_here"] (spD K 1 BA):=dfW (N:=["_law_pen_here","_law_great"]) 1 T.HY scM λ_ _ _=>by
 walk_at "d Jo"
theorem Z6:St.Dfn P w K mg base "_law_first" 4 ["_law_pen_here","_law_train_here"] (spD K 2 Gm):=dfW (N:=["_law_pen_here","_law_train_here","_law_found","_law_k"]) 3 T.Iy scM λ_ _ _=>by
 walk_at "d T.bt Jo bG Yq"
theorem IP:St.Dfn P w K mg base "_law_begin" 5 ["_law_pen_here"] (spD K 1 FE):=dfW (N:=["_law_pen_here","_law_train_here"]) 4 T.IV scM λ_ _ _=>by
 walk_at "d ZY Z6"
omit T bm in
theorem Pr:Av ["_law_book"] ["_law_book"] (AB Ej):=scM
omit T bm in
theorem NY:Fj ["_law_book"] (AB Ej) ["_law_book"] [0] (cZ Ej 0):=lsM
theorem Jh:St.Dfn P w K mg base "_law_next" 15 ["_law_book"] (spD K 1 Dw):=by
 have S_law_said:=T.Ep
 have Br:=Br P base bm T
 have Ci:=T.Ci
 have Au:=T.Au
 have B5:=T.B5
 have Cn:=Cn P base bm T
 refine dfL 14 T.Ej Pr λci hr hu=>?_
 exact(AW (FY (EZ (FF hu) (Hd O3 (AH 0) BQ) (HZ AI)) (AV (Be CU)) Bl)
      (AV (Be (Lv (k:=11) S_law_said Ey NY ci bm (hr.mono (by decide)) rfl (λf c' clos A outer s H hr=>(deM Br hr (AE (AH 0) AI))) (λf c' clos A outer s H hr=>(QR Cn (hr.mono (by decide)) rfl (AE (AH 0) AI))) (λ_ _ _ _ _ _=>(C5 B5 rfl (λ_=>AV (Be CU)) (C5 Ci rfl (λ_=>AV (Be CU)) (C5 Au rfl (λ_=>AV (Be CU)) PB))))))))
theorem ae:St.Dfn P w K mg base "_law_begun" 1 ["_law_book"] (spD K 1 FR):=dfW (N:=["_law_book"]) 0 T.FD scM λ_ _ _=>by
 have:AQ ["_law_book"] (AB FD) ["_law_load"] (ixC [] 1) (Je FD 0):=csM
 have:(["_law_load"]:Wp Str).Nodup:=by decide+kernel
 walk_at "d T.bt"
theorem bw:St.Dfn P w K mg base "_law_plus" 3 ["_law_one","_law_other"] (spD K 2 By):=dfW (N:=["_law_one","_law_other"]) 2 T.Jj scM λ_ _ _=>by
 walk_at "d br"
theorem bZ:St.Dfn P w K mg base "_law_times" 3 ["_law_one","_law_other"] (spD K 2 Ap):=dfW (N:=["_law_one","_law_other"]) 2 T.Ia scM λ_ _ _=>by
 walk_at "d br"
theorem YA:St.Dfn P w K mg base "_law_pooled" 4 ["_law_one","_law_other"] (spD K 2 Fm):=dfW (N:=["_law_one","_law_other","_law_found","_law_mine","_law_its","_law_both"]) 3 T.Hl scM λ_ _ _=>by
 walk_at "d T.bt br bw bZ"
theorem cH:St.Dfn P w K mg base "_law_cost" 3 ["_law_train_here","_law_loads","_law_deed_here"] (spD K 3 Hs):=dfW (N:=["_law_train_here","_law_loads","_law_deed_here","_law_worths_here","_law_whole_here"]) 2 T.GH scM λ_ _ _=>by
 have:AQ ["_law_train_here","_law_loads","_law_deed_here","_law_worths_here","_law_whole_here"] (AB GH) ["_law_worths_here","_law_kind","_law_pieces_here","_law_owners"] (ixC [3] 3) (Je GH 0):=csM
 have:(["_law_worths_here","_law_kind","_law_pieces_here","_law_owners"]:Wp Str).Nodup:=by decide+kernel
 walk_at "d T.bt br"
theorem bz:St.Dfn P w K mg base "_law_less" 4 ["_law_one","_law_other"] (spD K 2 DB):=dfW (N:=["_law_one","_law_other"]) 3 T.J8 scM λ_ _ _=>by
 walk_at "d bw"
theorem Ze:St.Dfn P w K mg base "_law_borne" 5 ["_law_shares","_law_part","_law_owners"] (spD K 3 Dt):=dfW (N:=["_law_shares","_law_part","_law_owners","_law_found","_law_mine","_law_its"]) 4 T.Ic scM λ_ _ _=>by
 walk_at "d T.bt bw bZ bz"
theorem cI:St.Dfn P w K mg base "_law_sold" 5 ["_law_shares","_law_deed_here"] (spD K 2 Ek):=dfW (N:=["_law_shares","_law_deed_here","_law_found","_law_passes"]) 4 T.Jz scM λ_ _ _=>by
 walk_at "d T.bt bw bZ bz"
theorem cJ:St.Dfn P w K mg base "_law_turn" 6 ["_law_train_here","_law_state","_law_deed_here"] (spD K 3 Em):=dfW (N:=["_law_train_here","_law_state","_law_deed_here","_law_loads","_law_holders","_law_numbers","_law_part","_law_owners","_law_load"]) 5 T.Js scM λ_ _ _=>by
 walk_at "d cH Ze cI"
theorem iN:St.Dfn P w K mg base "_law_do" 7 ["_law_train_here","_law_state","_law_deed_here"] (spD K 3 Dh):=dfW (N:=["_law_train_here","_law_state","_law_deed_here","_law_loads","_law_holders","_law_numbers","_law_word","_law_one","_law_other","_law_load","_law_given","_law_kind","_law_got"]) 6 T.JO scM λ_ _ _=>by
 have:AQ ["_law_train_here","_law_state","_law_deed_here","_law_loads","_law_holders","_law_numbers","_law_word","_law_one","_law_other","_law_load","_law_given","_law_kind","_law_got"] (AB JO) ["_law_deed_here","_law_one"] (ixC [2] 1) (Je JO 0):=csM
 have:(["_law_deed_here","_law_one"]:Wp Str).Nodup:=by decide+kernel
 walk_at "d T.bt YA cJ"
theorem bO:St.Dfn P w K mg base "_law_share" 3 ["_law_pen_here"] (spD K 1 FI):=dfW (N:=["_law_pen_here","_law_bottom"]) 2 T.Ih scM λ_ _ _=>by
 walk_at "d Jo br"
theorem Ym:St.Dfn P w K mg base "_law_worths" 2 ["_law_pen_here","_law_many"] (spD K 2 DM):=dfW (N:=["_law_pen_here","_law_many"]) 1 T.EF scM λ_ _ _=>by
 have:AQ ["_law_pen_here","_law_many"] (AB EF) ["_law_pen_here","_law_one"] (ixC [0] 1) (Je EF 0):=csM
 have:(["_law_pen_here","_law_one"]:Wp Str).Nodup:=by decide+kernel
 walk_at "d T.bt Jo"
theorem bh:St.Dfn P w K mg base "_law_deed" 4 ["_law_pen_here","_law_train_here","_law_state"] (spD K 3 DN):=dfW (N:=["_law_pen_here","_law_train_here","_law_state","_law_loads","_law_holders","_law_numbers","_law_full","_law_way","_law_load","_law_some","_law_same","_law_kind","_law_left","_law_partner"]) 3 T.Cm scM λ_ _ _=>by
 have:AQ ["_law_pen_here","_law_train_here","_law_state","_law_loads","_law_holders","_law_numbers","_law_full","_law_way","_law_load","_law_some","_law_same","_law_kind","_law_left","_law_partner"] (AB Cm) ["_law_at","_law_load"] (ixC [] 2) (Je Cm 0):=csM
 have:(["_law_at","_law_load"]:Wp Str).Nodup:=by decide+kernel
 have:AQ ["_law_pen_here","_law_train_here","_law_state","_law_loads","_law_holders","_law_numbers","_law_full","_law_way","_law_load","_law_some","_law_same","_law_kind","_law_left","_law_partner"] (AB Cm) ["_law_loads","_law_load","_law_at"] (ixC [3,8] 1) (Je Cm 1):=csM
 have:(["_law_loads","_law_load","_law_at"]:Wp Str).Nodup:=by decide+kernel
 have:AQ ["_law_pen_here","_law_train_here","_law_state","_law_loads","_law_holders","_law_numbers","_law_full","_law_way","_law_load","_law_some","_law_same","_law_kind","_law_left","_law_partner"] (AB Cm) ["_law_numbers","_law_number"] (ixC [5] 1) (Je Cm 2):=csM
 have:(["_law_numbers","_law_number"]:Wp Str).Nodup:=by decide+kernel
 walk_at "d T.bt Jo Yq bO Ym"
theorem Jl:St.Dfn P w K mg base "_law_good" 8 ["_law_pen_here","_law_book"] (spD K 2 F5):=dfW (N:=["_law_pen_here","_law_book","_law_state","_law_deed_here"]) 7 T.Jg scM λ_ _ _=>by
 walk_at "d ae iN bh"
theorem GY:St.Dfn P w K mg base "_law_made_by" 1 ["_law_book","_law_deed_here"] (spD K 2 Bs):=dfW (N:=["_law_book","_law_deed_here"]) 0 T.CG scM λ_ _ _=>by
 have:AQ ["_law_book","_law_deed_here"] (AB CG) ["_law_one"] (ixC [] 1) (Je CG 0):=csM
 have:(["_law_one"]:Wp Str).Nodup:=by decide+kernel
 have:AQ ["_law_book","_law_deed_here"] (AB CG) ["_law_one"] (ixC [] 1) (Je CG 1):=csM
 have:(["_law_one"]:Wp Str).Nodup:=by decide+kernel
 walk_at "d T.bt"
theorem Jm:St.Dfn P w K mg base "_law_with" 1 ["_law_book","_law_deed_here"] (spD K 2 GD):=dfW (N:=["_law_book","_law_deed_here"]) 0 T.Jq scM λ_ _ _=>by
 walk_at "d"
omit T bm in
theorem CY:Av ["_law_pen_here","_law_leader","_law_past","_law_way","_law_book","_law_due","_law_deed_here"] ["_law_pen_here","_law_leader","_law_past"] (AB CK):=scM
omit T bm in
theorem NS:Fj ["_law_pen_here","_law_leader","_law_past","_law_way","_law_book","_law_due","_law_deed_here"] (AB CK) ["_law_leader"] [1] (cZ CK 0):=lsM
omit T bm in
theorem NU:Fj ["_law_pen_here","_law_leader","_law_past","_law_way","_law_book","_law_due","_law_deed_here"] (AB CK) ["_law_leader"] [1] (cZ CK 1):=lsM
omit T bm in
theorem Np:Fj ["_law_pen_here","_law_leader","_law_past","_law_way","_law_book","_law_due","_law_deed_here"] (AB CK) ["_law_leader","_law_deed_here"] [1,6] (cZ CK 2):=lsM
theorem KG:St.Dfn P w K mg base "_law_step" 16 ["_law_pen_here","_law_leader","_law_past"] (spD K 3 Dx):=by
 have B:=T.bt
 have S_law_said:=T.Ep
 have Gk:=Gk P base bm T
 have EW:=EW P base bm T
 have Bb:=Bb P base bm T
 have Jo:=Jo P base bm T
 have Jh:=Jh P base bm T
 have Jl:=Jl P base bm T
 have GY:=GY P base bm T
 have Jm:=Jm P base bm T
 have Ci:=T.Ci
 have Au:=T.Au
 have B5:=T.B5
 have GW:=GW P base bm T
 have EL:=EL P base bm T
 have B3:=B3 P base bm T
 refine dfL 15 T.CK CY λci hr hu=>?_
 exact(AW (Fd 3 (deM Jo hr (AE (AH 0) (AE BQ AI))) CY.nd)
      (AW (Fd 4 (Hd O3 (AH 2) (Zj Po BQ)) CY.nd)
      (AW (FY (EZ (FF hu) (AH 3) BQ) (AW (Fd 5 (Hd O3 (Vo (AE CU (AE YN AI))) (U8 Tt rfl B.int boot_int (AE (KS U7 (Bg Bo rfl B.len uw (AE (AH 2) AI)) BQ) AI))) CY.nd)
      (AW (FY (EZ U7 (Bg Bo rfl B.len uw (AE (AH 2) AI)) BQ) (AV (FK (QL u4 wN QQ (AH 2)))) Bl)
      (AV (Be (KS (FF hu) (Lv (k:=1) S_law_said Ey NS ci bm (hr.mono (by decide)) rfl (λf c' clos A outer s H hr=>(Er Bb hr (AH 0))) (λf c' clos A outer s H hr=>(Lw B3 hr (AH 0))) (λ_ _ _ _ _ _=>(C5 B5 rfl (λ_=>AV (Be CU)) (C5 Ci rfl (λ_=>AV (Be CU)) (C5 Au rfl (λ_=>AV (Be CU)) PB))))) (AH 5)))))) Bl)
      (AW (FY (EZ (FF hu) (AH 3) BQ) (AW (Fd 5 (deM Jh hr (AE (AH 4) AI)) CY.nd)
      (AW (FY (F7 (Bg Li rfl B.isi yd (AE (AH 5) (AE (ag rfl B.tuple boot_tuple) AI)))) (AW (FK (TJ u5 vg QF (AH 2) (AE (AH 5) AI)))
      (AV (Fd 5 YN CY.nd))) Bl)
      (AV (Be (KS (FF hu) (Lv (k:=12) S_law_said Ey NU ci bm (hr.mono (by decide)) rfl (λf c' clos A outer s H hr=>(Er EW hr (AH 0))) (λf c' clos A outer s H hr=>(Lw EL hr (AH 0))) (λ_ _ _ _ _ _=>(C5 B5 rfl (λ_=>AV (Be CU)) (C5 Ci rfl (λ_=>AV (Be CU)) (C5 Au rfl (λ_=>AV (Be CU)) PB))))) (AH 5)))))) Bl)
      (AW (Fd 6 (deM Jl hr (AE (AH 0) (AE (AH 4) AI))) CY.nd)
      (AW (Fd 5 (deM GY hr (AE (AH 4) (AE (AH 6) AI))) CY.nd)
      (AW (FY (EZ (Oq hu) (AH 5) CU) (AV (FK (TJ u5 vg QF (AH 2) (AE (deM Jm hr (AE (AH 4) (AE (AH 6) AI))) AI)))) Bl)
      (AV (Be (KS (FF hu) (Lv (k:=9) S_law_said Ey Np ci bm (hr.mono (by decide)) rfl (λf c' clos A outer s H hr=>(Kz Gk hr (AH 0) (AE (AH 1) AI))) (λf c' clos A outer s H hr=>(W5 GW hr (AH 0) (AE (AH 1) AI))) (λ_ _ _ _ _ _=>(C5 B5 rfl (λ_=>AV (Be CU)) (C5 Ci rfl (λ_=>AV (Be CU)) (C5 Au rfl (λ_=>AV (Be CU)) PB))))) (AH 5)))))))))))
end
def nr{a b:α}(h:a=b):a=b:=h
@[simp high] def A1{α β:Type}(a:α)(f:α->Option β):(some a).bind f=f a:=Eq.mp (congrArg (λz=>z=f a) rfl) (Eq.refl (f a))
@[simp high] def kZ{α β:Type}(a:α)(f:α->β):(some a).map f=some (f a):=Eq.mp (congrArg (λz=>z=some (f a)) rfl) (Eq.refl (some (f a)))
section
variable{E:En}{S:Sto}{op:OpN}{f g c:Ev}{d:D}{i:Nat}{w:Wv}{a b e h r':D}{r:Wp D}{fs:Wp Ev}
@[simp] def qL:at? (o::E) 0=o:=nr rfl
@[simp] def qK:at? (o::E) (i+1)=at? E i:=nr rfl
@[simp] def mS:eC d E S=some (d,S):=nr rfl
@[simp] def lg:eV i E S=(at? E i).map λd=>(d,S):=nr rfl
@[simp] def Z7:evs [] E S=some ([],S):=nr rfl
@[simp] def C3:evs (f::fs) E S=(f E S).bind λr=>(evs fs E r.2).map λq=>(r.1::q.1,q.2):=nr rfl
@[simp] def TH{cf:Bool}:OI cf op fs E S=(evs fs E S).bind λr=>(op (r.1.map (dr r.2))).bind λw=>fin cf w r.2:=nr rfl
@[simp] def oR{cf:Bool}:fin cf (.val d) S=some (d,S):=by cases cf<;>rfl
@[simp] def oN:fin false (.own r) S=some (.lst r,S):=nr rfl
@[simp] def pA:fin true (.own r) S=some (.ref S.length,S++[.lst r]):=nr rfl
@[simp] def lS:dr S .non=.val .non:=nr rfl
@[simp] def nD{b:Bool}:dr S (.bl b)=.val (.bl b):=nr rfl
@[simp] def lQ{i:Int}:dr S (.int i)=.val (.int i):=nr rfl
@[simp] def lX{x:Str}:dr S (.str x)=.val (.str x):=nr rfl
@[simp] def pY{x:String}:dr S (.ty x)=.val (.ty x):=nr rfl
@[simp] def mC:dr S (.tup r)=.val (.tup r):=nr rfl
@[simp] def mV:dr S (.lst r)=.val (.lst r):=nr rfl
@[simp] def lV{ns:List Int}:dr S (.scr ns)=.val (.scr ns):=nr rfl
def As{n:Nat}(h:S[n]?=Gc (.lst r)):dr S (.ref n)=.own r:=by
 show(match S[n]? with|some (.lst ds)=>Wv.own ds|_=>.val (.ref n))=_
 rw[h]
def AL{n:Nat}(h:S[n]?=Gc (.lst r)):EV S n=Gc r:=by
 unfold EV
 rw[h]
@[simp] def lR:fz (.val d)=d:=nr rfl
noncomputable def kN(g:Ev)(E:En)(r:D×Sto):qR (D×Sto):=match r.1 with| .bl true=>g E r.2| .bl false=>Gc (.bl false,r.2)|_=>none
noncomputable def orK(g:Ev)(E:En)(r:D×Sto):qR (D×Sto):=match r.1 with| .bl false=>g E r.2| .bl true=>Gc (.bl true,r.2)|_=>none
noncomputable def lP(r:D×Sto):qR (D×Sto):=match r.1 with| .bl b=>Gc (.bl (!b),r.2)|_=>none
noncomputable def ifK(f g:Ev)(E:En)(r:D×Sto):qR (D×Sto):=match r.1 with| .bl true=>f E r.2| .bl false=>g E r.2|_=>none
@[simp] def mX:kN g E (.bl true,S)=g E S:=nr rfl
@[simp] def mq:kN g E (.bl false,S)=some (.bl false,S):=nr rfl
@[simp] def pH:orK g E (.bl false,S)=g E S:=nr rfl
@[simp] def oU:orK g E (.bl true,S)=some (.bl true,S):=nr rfl
@[simp] def mL{b:Bool}:lP (.bl b,S)=some (.bl (!b),S):=nr rfl
@[simp] def pv:ifK f g E (.bl true,S)=f E S:=nr rfl
@[simp] def nS:ifK f g E (.bl false,S)=g E S:=nr rfl
@[simp] def iy:Fs f g E S=(f E S).bind (kN g E):=nr rfl
@[simp] def jv:eOr f g E S=(f E S).bind (orK g E):=nr rfl
@[simp] def iZ:F1 f E S=(f E S).bind lP:=nr rfl
@[simp] def ky:eIf c f g E S=(c E S).bind (ifK f g E):=nr rfl
@[simp] def iu:Bh fs E S=(evs fs E S).bind λr=>if r.1.length<=sizeLine then some (.tup r.1,r.2)else none:=nr rfl
@[simp] def gw{cf:Bool}:X5 cf fs E S=(evs fs E S).bind λr=>if r.1.length<=sizeLine then fin cf (.own r.1) r.2 else none:=nr rfl
@[simp] def dH{F:Fn}:AD F fs E S=(evs fs E S).bind λr=>F r.1 r.2:=nr rfl
noncomputable def nC(op:Mo)(fs:Wp Ev)(E:En)(r:D×Sto):qR (D×Sto):=match r.1 with
 | .ref n=>(EV r.2 n).bind λ_=>(evs fs E r.2).bind λp=>(EV p.2 n).bind λds=>(op p.2 ds p.1).map λq=>(q.1,p.2.set n (.lst q.2))
 |_=>none
@[simp] def jP{op:Mo}:nC op fs E (.ref n,S)=(EV S n).bind λ_=>(evs fs E S).bind λp=>(EV p.2 n).bind λds=>(op p.2 ds p.1).map λq=>(q.1,p.2.set n (.lst q.2)):=nr rfl
@[simp] def gz{op:Mo}:Hy op f fs E S=(f E S).bind (nC op fs E):=nr rfl
@[simp] def i9:LA S r [d]=if r.length<sizeLine then some (.non,r++[d])else none:=nr rfl
variable{x y:Ex}
noncomputable def bx(y:Ex)(r:Fl×En×Sto):qR (Fl×En×Sto):=match r.1 with| .nx=>y r.2.1 r.2.2| .ret w=>Gc (.ret w,r.2)
noncomputable def kX(x y:Ex)(E:En)(r:D×Sto):qR (Fl×En×Sto):=match r.1 with| .bl true=>x E r.2| .bl false=>y E r.2|_=>none
@[simp] def P6:bx y (.nx,E,S)=y E S:=nr rfl
@[simp] def iM{w:D}:bx y (.ret w,E,S)=some (.ret w,E,S):=nr rfl
@[simp] def mQ:kX x y E (.bl true,S)=x E S:=nr rfl
@[simp] def lO:kX x y E (.bl false,S)=y E S:=nr rfl
@[simp] def Qz:AM x y E S=(x E S).bind (bx y):=nr rfl
@[simp] def gu:BP E S=some (.nx,E,S):=nr rfl
@[simp] def Tw:xIf c x y E S=(c E S).bind (kX x y E):=nr rfl
@[simp] def jD:Ad f E S=(f E S).map λr=>(.ret r.1,E,r.2):=nr rfl
@[simp] def WN:BE i f E S=(f E S).map λr=>(.nx,E.set i (some r.1),r.2):=nr rfl
@[simp] def U2:BV f E S=(f E S).map λr=>(.nx,E,r.2):=nr rfl
noncomputable def mI(d b:D)(E:En)(i:D×Sto):qR (Fl×En×Sto):=match b,i.1 with
 | .ref n,.int j=>(EV i.2 n).bind λds=>(ixN ds.length j).map λm=>(.nx,E,i.2.set n (.lst (ds.set m d)))
 |_,_=>none
@[simp] def jM:mI d (.ref n) E (.int j,S)=(EV S n).bind λds=>(ixN ds.length j).map λm=>(.nx,E,S.set n (.lst (ds.set m d))):=nr rfl
@[simp] def jB{k o:Ev}:Mh k f o E S=(k E S).bind λr=>(f E r.2).bind λb=>(o E b.2).bind (mI r.1 b.1 E):=nr rfl
@[simp] def iL{t:Tf}:Jf t f E S=(f E S).bind λr=>(t r.1 E r.2).map λE'=>(.nx,E',r.2):=nr rfl
@[simp] def iE{i j:Nat}:Us i j f g E S=(f E S).bind λr=>(g E r.2).map λq=>(.nx,(E.set i (some r.1)).set j (some q.1),q.2):=by
  unfold Us
  rw[C3]
  cases f E S with
  |none=>rfl
  |some r=>
   rw[A1,A1,C3]
   cases g E r.2 with
   |none=>rfl
   |some q=>rfl
@[simp] def Zw:tNm i d E S=some (E.set i (some d)):=nr rfl
@[simp] def km:tTp ts (.tup ds) E S=tMs ts ds E S:=nr rfl
@[simp] def jf:tTp ts (.lst ds) E S=tMs ts ds E S:=nr rfl
@[simp] def kA:tTp ts (.ref n) E S=(EV S n).bind λds=>tMs ts ds E S:=nr rfl
@[simp] def jy:tMs [] [] E S=some E:=nr rfl
@[simp] def gv:tMs (t::ts) (d::ds) E S=(t d E S).bind λE1=>tMs ts ds E1 S:=nr rfl
@[simp] def dW:AO (AU N x) ds S=(x (ds.map some++List.replicate (N-ds.length) none) S).map λr=>(flD r.1,r.2.2):=by rw[Gf];rfl
@[simp] def lu:flD .nx=.non:=nr rfl
@[simp] def j8:flD (.ret d)=d:=nr rfl
@[simp] def jm{i j:Int}:Cq (.val (.int i)) (.val (.int j))=some (.val (.int (i+j))):=nr rfl
@[simp] def kE{xs ys:List D}:Cq (.val (.tup xs)) (.val (.tup ys))=if xs.length+ys.length<=sizeLine then some (.val (.tup (xs++ys)))else none:=nr rfl
@[simp] def lG{xs ys:List D}:Cq (.val (.lst xs)) (.val (.lst ys))=if xs.length+ys.length<=sizeLine then some (.own (xs++ys))else none:=nr rfl
@[simp] def iQ{i j:Int}:CL (.val (.int i)) (.val (.int j))=if DP i j=true then some (.val (.int (i*j)))else none:=nr rfl
@[simp] def iw{k:Int}:CL (.val (.tup r)) (.val (.int k))=if(!r.isEmpty && decide (k<=0) && decide (-(2^63)<=k))=true then some (.val (.tup []))else if(!r.isEmpty && decide (1<=k) && decide (r.length*k.toNat<=sizeLine))=true then some (.val (.tup (List.replicate k.toNat r).flatten))else none:=nr rfl
@[simp] def kr:asS (.own r)=some r:=nr rfl
@[simp] def kG:asS (.val (.lst r))=some r:=nr rfl
@[simp] def jw:asS (.val (.tup r))=some r:=nr rfl
@[simp] def ki{ns:List Int}:asS (.val (.scr ns))=some (ns.map .int):=nr rfl
@[simp] def bK{j:Int}:wIx w (.val (.int j))=(asS w).bind λds=>(atI ds j).map .val:=nr rfl
def Co{n:Nat}{x:α}(h:xs[n]?=Gc x):atI xs (n:Int)=Gc x:=bM h
def YB{xs:Wp α}{i:Int}(h0:0<=i)(h1:i<xs.length):atI xs i=Gc (xs[i.toNat]'(by lia)):=by
 have:atI xs ((i.toNat:Nat):Int)=Gc (xs[i.toNat]'(by lia)):=Co (qZ (by lia))
 rwa [rm h0]at this
@[simp] def ni:atI (a::r) 0=some a:=Co (n:=0) rfl
@[simp] def oj:atI (a::b::r) 1=some b:=Co (n:=1) rfl
@[simp] def nE:atI (a::b::e::r) 2=some e:=Co (n:=2) rfl
@[simp] def pb:atI (a::b::e::h::r) 3=some h:=Co (n:=3) rfl
@[simp] def pN{k:D}:atI (a::b::e::h::k::r) 4=some k:=Co (n:=4) rfl
def NO{n k:Nat}(h:k<n):ixN n (k:Int)=Gc k:=by
 unfold ixN
 simp
 lia
def Qk{n:Nat}{i:Int}(h0:0<=i)(h1:i<n):ixN n i=Gc i.toNat:=by
 have:=NO (n:=n) (k:=i.toNat) (by lia)
 rwa [rm h0]at this
@[simp] def pS{n:Nat}:ixN (n+1) 0=some 0:=Qk (by decide) (by lia)
@[simp] def oV{n:Nat}:ixN (n+2) 1=some 1:=Qk (by decide) (by lia)
@[simp] def nZ{n:Nat}:ixN (n+3) 2=some 2:=Qk (by decide) (by lia)
@[simp] def mG{i j:Int}:deq (.int i) (.int j)=(i==j):=nr rfl
@[simp] def kQ{i j:Int}:Iz (.int i) (.int j)=true:=nr rfl
@[simp] def kY{w':Wv}:wEq w w'=if Iz (fz w) (fz w')=true then some (.val (.bl (deq (fz w) (fz w'))))else none:=nr rfl
@[simp] def ku{w':Wv}:wNe w w'=if Iz (fz w) (fz w')=true then some (.val (.bl (!deq (fz w) (fz w'))))else none:=nr rfl
@[simp] def kI{i j:Int}:wLt (.val (.int i)) (.val (.int j))=some (.val (.bl (decide (i<j)))):=nr rfl
@[simp] def kC{i j:Int}:wLe (.val (.int i)) (.val (.int j))=some (.val (.bl (decide (i<=j)))):=nr rfl
@[simp] def jV{i j:Int}:wGt (.val (.int i)) (.val (.int j))=some (.val (.bl (decide (j<i)))):=nr rfl
@[simp] def kO{i j:Int}:wGe (.val (.int i)) (.val (.int j))=some (.val (.bl (decide (j<=i)))):=nr rfl
@[simp] def iR{i j:Int}:OK (.val (.int i)) (.val (.int j))=some (.val (.int (i-j))):=nr rfl
@[simp] def iX{i:Int}:NJ (.val (.int i))=some (.val (.int (-i))):=nr rfl
@[simp] def jR{i j:Int}:Pk (.val (.int i)) (.val (.int j))=(if 0<j then some (.val (.int (i % j)))else none):=by
  show zW Wv.val (if 0<j then Gc (D.int (i % j))else none)=_
  split<;>rfl
@[simp] def c7{i j:Int}:MM (.val (.int i)) (.val (.int j))=(if(decide (0<j) && decide (j.natAbs<E5))=true then some (.val (.int (i / j)))else none):=by
  show zW Wv.val (if(decide (0<j) && decide (j.natAbs<E5))=true then Gc (D.int (i / j))else none)=_
  split<;>rfl
@[simp] def jN{i j:Int}:ir (.val (.int i)) (.val (.int j))=if(decide (0<=j) && decide (j<=1000) && decide (i.natAbs<2^64))=true then some (.val (.int (i^j.toNat)))else none:=by
  show zW Wv.val (if(decide (0<=j) && decide (j<=1000) && decide (i.natAbs<2^64))=true then Gc (D.int (i^j.toNat))else none)=_
  split<;>rfl
@[simp] def hV{i:Int}:cE (.val (.int i))=some (.val (.int (i.natAbs:Int))):=by
  show Gc (Wv.val (D.int (if i<0 then-i else i)))=_
  congr 3
  split<;>lia
@[simp] def iG:Cs (.own r)=some (.val (.int r.length)):=nr rfl
@[simp] def jH:Cs (.val (.lst r))=some (.val (.int r.length)):=nr rfl
@[simp] def iB:Cs (.val (.tup r))=some (.val (.int r.length)):=nr rfl
@[simp] def i6{ns:List Int}:Cs (.val (.scr ns))=some (.val (.int ns.length)):=by
  show Gc (Wv.val (D.int ((ns.map D.int).length:Nat)))=_
  rw[rG]
@[simp] def bu:DF w=(asS w).map λds=>.val (.tup ds):=nr rfl
@[simp] def eZ:Pe w=(asS w).map λds=>.own ds:=nr rfl
@[simp] def my{b:Bool}:Xy (.val (.bl b))=some (.val (.int (if b then 1 else 0))):=nr rfl
@[simp] def iT{i j:Int}:iH (.val (.int i)) (.val (.int j))=some (.val (.int (if j<i then j else i))):=nr rfl
@[simp] def gq{T:String}:Pm w (.val (.ty T))=if PC T=true then(kdW w).map λk=>.val (.bl (k.isA T))else none:=nr rfl
@[simp] def kK:PC "int"=true:=by decide
@[simp] def jG:PC "bool"=true:=by decide
@[simp] def dg:PC "tuple"=true:=by decide
@[simp] def kT:PC "str"=true:=by decide
@[simp] def jL:V5 (.val (.lst r))=(bls r).map λbs=>.val (.bl (bs.all id)):=nr rfl
def AK{n:Nat}(h:n<=1000):n<=sizeLine:=qU h (by decide)
@[simp] def sz1:(1:Nat)<=sizeLine:=AK (by decide)
@[simp] def sz2:(2:Nat)<=sizeLine:=AK (by decide)
@[simp] def sz3:(3:Nat)<=sizeLine:=AK (by decide)
@[simp] def sz4:(4:Nat)<=sizeLine:=AK (by decide)
@[simp] def sz5:(5:Nat)<=sizeLine:=AK (by decide)
@[simp] def sz6:(6:Nat)<=sizeLine:=AK (by decide)
@[simp] def F3:Bk E S=some (.bl true,S):=nr rfl
@[simp] def jJ{b:Ex}:OJ s t b E S=(s E S).bind λr=>K1 r.1.2 t b r.1.1 E r.2:=nr rfl
@[simp] def Ac:gOk [] S:=λ_ h=>(nomatch h)
def GQ{b:Ex}(h:gOk gs S):K1 gs t b [] E S=Gc (.nx,E,S):=by
 unfold K1
 rw[rB h]
def Uv {b:Ex}(h:gOk gs S):K1 gs t b (d::ds) E S=(t d E S).bind λE1=>(b E1 S).bind λr=>match r.1 with
    | .nx => K1 gs t b ds r.2.1 r.2.2
    | .ret w=>Gc (.ret w,r.2):=by
  rw [K1, rB h]
  all_goals rfl
def Dr{b:Ex}(h:gOk gs S):K1 gs t b (d::ds) E S=(t d E S).bind λE1=>(b E1 S).bind (bx (K1 gs t b ds)):=by
 rw[Uv h]
 rfl
@[simp] def iz:HC f E S=(f E S).bind λr=>(sqD r.2 r.1).map λp=>(p,r.2):=nr rfl
@[simp] def lN:sqD S (.tup r)=some (r,[]):=nr rfl
@[simp] def lK:sqD S (.lst r)=some (r,[]):=nr rfl
def Iq{n:Nat}(h:S[n]?=Gc (.lst r)):sqD S (.ref n)=Gc (r,[(n,r)]):=by
 show(EV S n).map (λds=>(ds,[(n,ds)]))=_
 rw[AL h]
 rfl
@[simp] def jE:Zv f E S=(f E S).bind λr=>(sqD r.2 r.1).map λp=>((N9 0 p.1,p.2),r.2):=nr rfl
@[simp] def iS:Xa f g E S=(f E S).bind λr=>(g E r.2).bind λq=>(sqD q.2 r.1).bind λa=>(sqD q.2 q.1).map λb=>((MF a.1 b.1,a.2++b.2),q.2):=by
  unfold Xa
  rw[C3]
  cases f E S with
  |none=>rfl
  |some r=>
   rw[A1,A1,C3]
   cases g E r.2 with
   |none=>rfl
   |some q=>rfl
noncomputable def MA(j:Int):sD:=decide (-(2^62)<=j) && decide (j<2^62)
def Ga{j:Int}(h: -1000000<=j)(g:j<=1000000):MA j=true:=by
 unfold MA
 rw[qe]
 exact⟨si (by lia),si (by lia)⟩
noncomputable def mR(S:Sto):D->qR ((Wp D×Gd)×Sto)
 | .int j=>if MA j=true then Gc ((OL 0 j.toNat,[]),S)else none
 |_=>none
@[simp] def hJ{j:Int}:mR S (.int j)=if MA j=true then some ((OL 0 j.toNat,[]),S)else none:=nr rfl
@[simp] def i7:SV [f] E S=(f E S).bind λr=>mR r.2 r.1:=by
  unfold SV
  rw[C3]
  cases f E S with
  |none=>rfl
  |some r=>
   obtain⟨d,S1⟩:=r
   rw[A1,Z7,kZ,A1,A1]
   cases d<;>rfl
@[simp] def fN:Mr cf cap m s t c f E S=(s E S).bind λr=>(Bj r.1.2 t c f r.1.1 [] (RO cap m E) r.2).bind λq=>fin cf (.own q.1) q.2:=nr rfl
@[simp] def iU:RO cap m E=cap.map (at? E)++List.replicate m none:=nr rfl
theorem QS{α:Type}(p:α->sD):∀xs:Wp α,bls (xs.map λx=>.bl (p x))=Gc (xs.map p)
 | []=>rfl
 |x::xs=>by
  have ih:=QS p xs
  unfold bls at ih⊢
  rw[qq,xT,ih]
  rfl
@[simp] def RT{i:Int}:Kn (.int i::r)=(Kn r).map λns=>i::ns:=by
  unfold Kn
  rw[xT]
  show(do let r1<-Gc i;let rs<-List.mapM intD r;pure (r1::rs))=_
  cases List.mapM intD r<;>rfl
theorem GK:∀(ns:Wp Int),Kn (ns.map D.int)=Gc ns
 | []=>rfl
 |n::ns=>by rw[qq,RT,GK ns];rfl
@[simp] def ij:W3 (.own r)=(Kn r).map λns=>.val (.int ns.sum):=nr rfl
@[simp] def iP:W3 (.val (.lst r))=(Kn r).map λns=>.val (.int ns.sum):=nr rfl
@[simp] def l9:iD true w (.val .non)=some (.val (.bl (!isN w))):=nr rfl
@[simp] def ox{i:Int}:MN true false [w,.val (.int i)]=wSl (some i) none w:=nr rfl
@[simp] def oG{i:Int}:MN false true [w,.val (.int i)]=wSl none (some i) w:=nr rfl
@[simp] def oF{i j:Int}:MN true true [w,.val (.int i),.val (.int j)]=wSl (some i) (some j) w:=nr rfl
@[simp] def kc{lo hi:Option Int}:wSl lo hi (.val (.tup r))=some (.val (.tup (MG r lo hi))):=nr rfl
end
structure Bt(A:Wp Nat)(S S':Sto):Prop where
 len:S.length<=S'.length
 keep:∀n,n<S.length->n∉A->S'[n]?=S[n]?
def Bt.refl:Bt A S S:=⟨qW _,λ_ _ _=>rfl⟩
def Bt.trans(h:Bt A S S')(g:Bt A S' S2):Bt A S S2:=⟨qU h.len g.len,λn hn ha=>(g.keep n (qS hn h.len) ha).trans (h.keep n hn ha)⟩
def Bt.mono(h:Bt A S S')(s:∀n∈A,n∈B):Bt B S S':=⟨h.len,λn hn hb=>h.keep n hn λz=>hb (s n z)⟩
def Bt.get(h:Bt A S S')(e:S[n]?=Gc c)(ha:n∉A):S'[n]?=Gc c:=by
 rw[h.keep n (qV.mp e).1 ha];exact e
def Bt.app:Bt A S (S++T):=⟨by simp,λn hn _=>qQ hn⟩
def Bt.set(h:n∈A):Bt A S (S.set n c):=⟨by simp,λm hm ha=>qT (λz=>ha (by rw[<-z];exact h))⟩
def Bt.new(h:Bt A S S')(g:Bt (A++B) S' S2)(hb:∀n∈B,S.length<=n):Bt A S S2:=⟨qU h.len g.len,λn hn ha=>(g.keep n (qS hn h.len) (λz=>by
 rcases rE.mp z with z|z
 .exact ha z
 .have:=hb n z;lia)).trans (h.keep n hn ha)⟩
def AX{S:Sto}(h:S[n]?=Gc c):n<S.length:=(qV.mp h).1
section
variable{E:En}{S:Sto}
@[simp high] def iJ{op:Op1}:OI cf (o1 op) [f] E S=(f E S).bind λr=>(op (dr r.2 r.1)).bind λw=>fin cf w r.2:=by
  rw[TH,C3];cases f E S<;>rfl
@[simp high] def Xr{op:Op2}:OI cf (o2 op) [f,g] E S=(f E S).bind λr=>(g E r.2).bind λq=>(op (dr q.2 r.1) (dr q.2 q.1)).bind λw=>fin cf w q.2:=by
  rw[TH,C3]
  cases f E S with
  |none=>rfl
  |some r=>rw[A1,A1,C3];cases g E r.2<;>rfl
def m8:evs [f] E S=(f E S).bind λr=>Gc ([r.1],r.2):=by rw[C3];cases f E S<;>rfl
def mB:evs [f,g] E S=(f E S).bind λr=>(g E r.2).bind λq=>Gc ([r.1,q.1],q.2):=by
 rw[C3];cases f E S with
 |none=>rfl
 |some r=>rw[A1,A1,m8];cases g E r.2<;>rfl
def mT:evs [f,g,h] E S=(f E S).bind λr=>(g E r.2).bind λq=>(h E q.2).bind λu=>Gc ([r.1,q.1,u.1],u.2):=by
 rw[C3];cases f E S with
 |none=>rfl
 |some r=>rw[A1,A1,mB];cases g E r.2 with
  |none=>rfl
  |some q=>rw[A1,A1];cases h E q.2<;>rfl
def pM:evs [f,g,h,k] E S=(f E S).bind λr=>(g E r.2).bind λq=>(h E q.2).bind λu=>(k E u.2).bind λv=>Gc ([r.1,q.1,u.1,v.1],v.2):=by
 rw[C3];cases f E S with
 |none=>rfl
 |some r=>rw[A1,A1,mT];cases g E r.2 with
  |none=>rfl
  |some q=>rw[A1,A1];cases h E q.2 with
   |none=>rfl
   |some u=>rw[A1,A1];cases k E u.2<;>rfl
@[simp high] def oP:evs [f] E S=(f E S).bind λr=>some ([r.1],r.2):=m8
@[simp high] def pQ:evs [f,g] E S=(f E S).bind λr=>(g E r.2).bind λq=>some ([r.1,q.1],q.2):=mB
@[simp high] def pw:evs [f,g,h] E S=(f E S).bind λr=>(g E r.2).bind λq=>(h E q.2).bind λu=>some ([r.1,q.1,u.1],u.2):=mT
@[simp high] def om:evs [f,g,h,k] E S=(f E S).bind λr=>(g E r.2).bind λq=>(h E q.2).bind λu=>(k E u.2).bind λv=>some ([r.1,q.1,u.1,v.1],v.2):=pM
@[simp high] def pz{d:D}:eV 0 (some d::E) S=some (d,S):=nr rfl
@[simp high] def qM:eV 1 (o0::some d::E) S=some (d,S):=nr rfl
@[simp high] def qF{o0 o1:Option D}:eV 2 (o0::o1::some d::E) S=some (d,S):=nr rfl
@[simp high] def qJ{o0 o1 o2:Option D}:eV 3 (o0::o1::o2::some d::E) S=some (d,S):=nr rfl
@[simp high] def qD{o0 o1 o2 o3:Option D}:eV 4 (o0::o1::o2::o3::some d::E) S=some (d,S):=nr rfl
@[simp high] def qA{o0 o1 o2 o3 o4:Option D}:eV 5 (o0::o1::o2::o3::o4::some d::E) S=some (d,S):=nr rfl
@[simp high] def qB{o0 o1 o2 o3 o4 o5:Option D}:eV 6 (o0::o1::o2::o3::o4::o5::some d::E) S=some (d,S):=nr rfl
@[simp high] def qI{o0 o1 o2 o3 o4 o5 o6:Option D}:eV 7 (o0::o1::o2::o3::o4::o5::o6::some d::E) S=some (d,S):=nr rfl
@[simp high] def qH{o0 o1 o2 o3 o4 o5 o6 o7:Option D}:eV 8 (o0::o1::o2::o3::o4::o5::o6::o7::some d::E) S=some (d,S):=nr rfl
@[simp high] def p9{o0 o1 o2 o3 o4 o5 o6 o7 o8:Option D}:eV 9 (o0::o1::o2::o3::o4::o5::o6::o7::o8::some d::E) S=some (d,S):=nr rfl
@[simp high] def oQ{o0 o1 o2 o3 o4 o5 o6 o7 o8 o9:Option D}:eV 10 (o0::o1::o2::o3::o4::o5::o6::o7::o8::o9::some d::E) S=some (d,S):=nr rfl
@[simp high] def pO{o0 o1 o2 o3 o4 o5 o6 o7 o8 o9 o10:Option D}:eV 11 (o0::o1::o2::o3::o4::o5::o6::o7::o8::o9::o10::some d::E) S=some (d,S):=nr rfl
@[simp high] def pU{o0 o1 o2 o3 o4 o5 o6 o7 o8 o9 o10 o11:Option D}:eV 12 (o0::o1::o2::o3::o4::o5::o6::o7::o8::o9::o10::o11::some d::E) S=some (d,S):=nr rfl
@[simp high] def ng{o0 o1 o2 o3 o4 o5 o6 o7 o8 o9 o10 o11 o12:Option D}:eV 13 (o0::o1::o2::o3::o4::o5::o6::o7::o8::o9::o10::o11::o12::some d::E) S=some (d,S):=nr rfl
@[simp 20000] def mM:OI cf (o2 op) [f,eC d] E S=(f E S).bind λr=>(op (dr r.2 r.1) (dr r.2 d)).bind λw=>fin cf w r.2:=by
  rw[Xr];cases f E S<;>rfl
@[simp high] def jO:AM (BE i f) y E S=(f E S).bind λr=>y (E.set i (some r.1)) r.2:=by
  rw[Qz,WN];cases f E S<;>rfl
@[simp high] def iY{y:Ex}:AM (BV f) y E S=(f E S).bind λr=>y E r.2:=by
  rw[Qz,U2];cases f E S<;>rfl
end
section
def mulL(h: -18446744073709551616<i)(g:i<18446744073709551616):DP i j=true:=by
 unfold DP
 rw[sJ]
 exact .inl (si (by lia))
def mulR(h: -18446744073709551616<j)(g:j<18446744073709551616):DP i j=true:=by
 unfold DP
 rw[sJ,sJ]
 exact .inr (.inl (si (by lia)))
def CT(h:n<2^k)(hk:k<=8000):n<E5:=qS h (rO (by decide) hk)
def EK{n:Int}(h0:0<n)(h1:n<1152921504606846976):n.natAbs<E5:=CT (k:=60) (show n.natAbs<2^60 by lia) (by decide)
variable{S:Sto}
noncomputable def NC(a b:Int):Int:=((xC a.natAbs b.natAbs:Nat):Int)
theorem LI:Fh c b (k+1) E S=(c E S).bind λr=>match r.1 with
 | .bl true=>(b E r.2).bind λp=>match p.1 with
   | .nx=>Fh c b k p.2.1 p.2.2
   | .ret w=>Gc (.ret w,p.2)
 | .bl false=>Gc (.nx,E,r.2)
 |_=>none:=rfl
def NL(e1:c E S=Gc (.bl true,S1))(e2:b E S1=Gc (.nx,E2,S2)):Fh c b (k+1) E S=Fh c b k E2 S2:=by
 rw[LI,e1]
 show(b E S1).bind _=_
 rw[e2]
 rfl
def NX(e1:c E S=Gc (.bl false,S1)):Fh c b (k+1) E S=Gc (.nx,E,S1):=by
 rw[LI,e1]
 rfl
theorem Q8:∀k (x y:Nat),y<k->Fh (eOp (o2 wNe) [eV 1,eC (.int 0)]) (Us 0 1 (eV 1) (eOp (o2 Pk) [eV 0,eV 1])) k [Gc (.int x),Gc (.int y)] S=Gc (.nx,[Gc (.int (xC x y:Nat)),Gc (.int 0)],S)
 |0,x,y,h=>absurd h (Nat.not_lt_zero _)
 |k+1,x,y,h=>by
  by_cases hy:y=0
  .subst hy
   rw[NX (S1:=S) (by simp)]
   simp
  .have hy2:(((y:Nat):Int)==0)=false:=by simpa using hy
   have ih:=Q8 k y (x % y) (by have:=Nat.mod_lt x (vC hy);lia)
   rw[show((x % y:Nat):Int)=(x:Int) % (y:Int) by lia]at ih
   have hy4:0<y:=vC hy
   rw[NL (S1:=S) (S2:=S) (E2:=[Gc (.int y),Gc (.int ((x:Int) % (y:Int)))]) (by simp[hy2]) (by simp[hy4]),ih]
   rw[yP x y,Nat.gcd_rec y x,yP]
def YU a b:BR [.int a,.int b] S=Gc (.int (NC a b),S):=by
 have:=Q8 (S:=S) (b.natAbs+2) a.natAbs b.natAbs (by lia)
 simp[BR,EX,JD,U1,this,NC]
theorem Lo:∀k (x y:Nat),y<k->Fh (eOp (o2 wGt) [eV 1,eC (.int 0)]) (Us 0 1 (eV 1) (eOp (o2 Pk) [eV 0,eV 1])) k [Gc (.int x),Gc (.int y)] S=Gc (.nx,[Gc (.int (xC x y:Nat)),Gc (.int 0)],S)
 |0,x,y,h=>absurd h (Nat.not_lt_zero _)
 |k+1,x,y,h=>by
  by_cases hy:y=0
  .subst hy
   rw[NX (S1:=S) (by simp)]
   simp
  .have ih:=Lo k y (x % y) (by have:=Nat.mod_lt x (vC hy);lia)
   rw[show((x % y:Nat):Int)=(x:Int) % (y:Int) by lia]at ih
   have hy4:0<y:=vC hy
   rw[NL (S1:=S) (S2:=S) (E2:=[Gc (.int y),Gc (.int ((x:Int) % (y:Int)))]) (by simp[hy4]) (by simp[hy4]),ih]
   rw[yP x y,Nat.gcd_rec y x,yP]
def Tx a b(ha:0<=a)(hb:0<=b):FZ [.int a,.int b] S=Gc (.int (NC a b),S):=by
 have:=Lo (S:=S) (b.natAbs+2) a.natAbs b.natAbs (by lia)
 have e1:((a.natAbs:Nat):Int)=a:=by lia
 have e2:((b.natAbs:Nat):Int)=b:=by lia
 rw[e1,e2]at this
 simp[FZ,KW,JD,U1,this,NC]
noncomputable def lowP(t b:Int):Int×Int:=(t / NC t b,b / NC t b)
def Qx(h:0<b):0<NC t b:=by
 unfold NC
 have:0<xC t.natAbs b.natAbs:=Nat.gcd_pos_of_pos_right _ (by lia)
 lia
def UP(h:0<b):(NC t b).natAbs<=b.natAbs:=by
 unfold NC
 have:xC t.natAbs b.natAbs<=b.natAbs:=Nat.gcd_le_right _ (by lia)
 lia
noncomputable def amD(p:Int×Int):D:=.tup [.int p.1,.int p.2]
def JL(h:0<b)(hb:b.natAbs<E5):Cf [.int t,.int b] S=Gc (amD (lowP t b),S):=by
 have h1:=Qx (t:=t) h
 have h2:(NC t b).natAbs<E5:=q8 (UP h) hb
 simp[Cf,NG,YU,h1,h2,amD,lowP]
def Xn:NC (t.natAbs:Int) b=NC t b:=by
 unfold NC
 rw[tM]
def QM(h:0<b)(hb:b.natAbs<E5):BW [.int t,.int b] S=Gc (amD (lowP t b),S):=by
 have h1:=Qx (t:=t) h
 have h2:(NC t b).natAbs<E5:=q8 (UP h) hb
 have h3:=Tx (S:=S) (t.natAbs:Int) b (by lia) (by lia)
 rw[Xn]at h3
 simp[BW,MZ,h3,h1,h2,amD,lowP]
noncomputable def aD(q:Rat):D:=.tup [.int q.num,.int q.den]
def Sz(k:Nat)(q:Rat):Prop:=q.num.natAbs<2^k/\q.den<2^k
def Ce q:(q.num:Rat) / (q.den:Rat)=q:=by
 rw[<-Rat.mkRat_eq_div,Rat.mkRat_self]
def G9(q:Rat):(q.den:Rat)≠0:=by
 have:=q.den_nz
 exact_mod_cast this
def Lm(t:Int)(n:Nat)(h:0<n):((t:Rat) / (n:Rat)).num=t / (xC t.natAbs n:Nat)/\((t:Rat) / (n:Rat)).den=n / xC t.natAbs n:=by
 have e:(t:Rat) / (n:Rat)=mkRat t n:=by rw[Rat.mkRat_eq_div]
 rw[e,Rat.mkRat_def,dif_neg (by lia),Rat.normalize_eq]
 exact⟨rfl,rfl⟩
def HF(h:0<b):amD (lowP t b)=aD ((t:Rat) / (b:Rat)):=by
 obtain⟨n,rfl⟩:∃n:Nat,b=n:=⟨b.natAbs,by lia⟩
 obtain⟨h1,h2⟩:=Lm t n (by lia)
 unfold amD aD lowP NC
 rw[show(((n:Nat):Int):Rat)=((n:Nat):Rat)from rfl,h1,h2]
 simp
def Lu{t b:Int}(h:0<b)(ht:t.natAbs<2^k)(hb:b.natAbs<2^k):Sz k ((t:Rat) / (b:Rat)):=by
 obtain⟨n,rfl⟩:∃n:Nat,b=n:=⟨b.natAbs,by lia⟩
 obtain⟨h1,h2⟩:=Lm t n (by lia)
 unfold Sz
 rw[show(((n:Nat):Int):Rat)=((n:Nat):Rat)from rfl,h1,h2]
 exact⟨q8 (xV _ _) ht,q8 (Nat.div_le_self _ _) (by simpa using hb)⟩
def Bm(ha:a<2^j)(hb:b<2^k):a*b<2^(j+k):=by
 rw[xk]
 exact Nat.mul_lt_mul'' ha hb
def Gn(hi:i.natAbs<2^k)(hj:j.natAbs<2^m)(h:k<=60000)(g:m<=60000):DP i j=true:=by
 unfold DP
 rw[sJ,sJ,qe]
 exact .inr (.inr ⟨si (qS hi (rO (by decide) h)),si (qS hj (rO (by decide) g))⟩)
def Sz.mono(h:Sz k q)(g:k<=m):Sz m q:=by
 have:=rO (n:=2) (by decide) g
 exact⟨by have:=h.1;lia,by have:=h.2;lia⟩
def den_pos(q:Rat):0<(q.den:Int):=by have:=q.den_pos;lia
def ZR{x:Int}(h:x.natAbs<2^n)(g:n<=m):x.natAbs<2^m:=qS h (rO (by decide) g)
def DK(hp:Sz j p)(hq:Sz k q):(p.num*q.den+q.num*p.den).natAbs<2^(j+k+1)/\((p.den:Int)*q.den).natAbs<2^(j+k)/\(p.num*q.den-q.num*p.den).natAbs<2^(j+k+1):=by
 have a1:=Bm hp.1 hq.2
 have a2:=Bm hq.1 hp.2
 have a3:=Bm hp.2 hq.2
 rw[yM k j]at a2
 have e:2^(j+k+1)=2^(j+k)+2^(j+k):=by rw[yQ];lia
 refine⟨?_,?_,?_⟩
 .refine q8 (AAG _ _) ?_
  rw[ux,ux,tM,tM,e]
  lia
 .rw[ux,tM,tM];exact a3
 .refine q8 (AAH _ _) ?_
  rw[ux,ux,tM,tM,e]
  lia
def Nq:(((p.num*q.den+q.num*p.den:Int):Rat) / (((p.den:Int)*q.den:Int):Rat))=p+q:=by
 have h1:=Ce p;have h2:=Ce q
 have d1:=G9 p;have d2:=G9 q
 push_cast
 grind
def RI:(((p.num*q.den-q.num*p.den:Int):Rat) / (((p.den:Int)*q.den:Int):Rat))=p-q:=by
 have h1:=Ce p;have h2:=Ce q
 have d1:=G9 p;have d2:=G9 q
 push_cast
 grind
def Lg:(((p.num*q.num:Int):Rat) / (((p.den:Int)*q.den:Int):Rat))=p*q:=by
 have h1:=Ce p;have h2:=Ce q
 have d1:=G9 p;have d2:=G9 q
 push_cast
 grind
def eQ(hp:Sz j p)(hq:Sz k q):Sz (j+k+1) (p+q):=by
 rw[<-Nq]
 have:=DK hp hq
 exact Lu (sN (den_pos _) (den_pos _)) this.1 (ZR this.2.1 (by lia))
def dB(hp:Sz j p)(hq:Sz k q):Sz (j+k+1) (p-q):=by
 rw[<-RI]
 have:=DK hp hq
 exact Lu (sN (den_pos _) (den_pos _)) this.2.2 (ZR this.2.1 (by lia))
def Mc(hp:Sz j p)(hq:Sz k q):Sz (j+k) (p*q):=by
 rw[<-Lg]
 have:=DK hp hq
 exact Lu (sN (den_pos _) (den_pos _)) (by rw[ux];exact Bm hp.1 hq.1) this.2.1
def NI(hp:Sz j p)(hq:Sz k q)(hj:j+k<=7990):DP p.num q.den=true/\DP q.num p.den=true/\DP p.den q.den=true/\DP p.num q.num=true:=by
 refine⟨Gn hp.1 (by simpa using hq.2) (by lia) (by lia),Gn hq.1 (by simpa using hp.2) (by lia) (by lia),Gn (by simpa using hp.2) (by simpa using hq.2) (by lia) (by lia),Gn hp.1 hq.1 (by lia) (by lia)⟩
def ZU(hp:Sz j p)(hq:Sz k q)(hj:j+k<=7990):Fp [aD p,aD q] S=Gc ((aD (p+q)),S):=by
 obtain⟨m1,m2,m3,m4⟩:=NI hp hq (by lia)
 have b:=DK hp hq
 have l:=JL (S:=S) (t:=p.num*q.den+q.num*p.den) (b:=p.den*q.den) (sN (den_pos _) (den_pos _)) (CT b.2.1 (by lia))
 rw[HF (sN (den_pos _) (den_pos _)),Nq]at l
 simp only[aD]at l⊢
 simp[Fp,RH,m1,m2,m3,l]
def fR(hp:Sz j p)(hq:Sz k q)(hj:j+k<=7990):DX [aD p,aD q] S=Gc ((aD (p-q)),S):=by
 obtain⟨m1,m2,m3,m4⟩:=NI hp hq (by lia)
 have b:=DK hp hq
 have l:=JL (S:=S) (t:=p.num*q.den-q.num*p.den) (b:=p.den*q.den) (sN (den_pos _) (den_pos _)) (CT b.2.1 (by lia))
 rw[HF (sN (den_pos _) (den_pos _)),RI]at l
 simp only[aD]at l⊢
 simp[DX,Qc,m1,m2,m3,l]
def UY(hp:Sz j p)(hq:Sz k q)(hj:j+k<=7990):CH [aD p,aD q] S=Gc ((aD (p*q)),S):=by
 obtain⟨m1,m2,m3,m4⟩:=NI hp hq (by lia)
 have b:=DK hp hq
 have l:=JL (S:=S) (t:=p.num*q.num) (b:=p.den*q.den) (sN (den_pos _) (den_pos _)) (CT b.2.1 (by lia))
 rw[HF (sN (den_pos _) (den_pos _)),Lg]at l
 simp only[aD]at l⊢
 simp[CH,Oy,m3,m4,l]
def Q3(hp:Sz j p)(hq:Sz k q)(hj:j+k<=7990):By [aD p,aD q] S=Gc ((aD (p+q)),S):=by
 obtain⟨m1,m2,m3,m4⟩:=NI hp hq (by lia)
 have b:=DK hp hq
 have l:=QM (S:=S) (t:=p.num*q.den+q.num*p.den) (b:=p.den*q.den) (sN (den_pos _) (den_pos _)) (CT b.2.1 (by lia))
 rw[HF (sN (den_pos _) (den_pos _)),Nq]at l
 simp only[aD]at l⊢
 simp[By,Me,m1,m2,m3,l]
def J5(hp:Sz j p)(hq:Sz k q)(hj:j+k<=7990):Ap [aD p,aD q] S=Gc ((aD (p*q)),S):=by
 obtain⟨m1,m2,m3,m4⟩:=NI hp hq (by lia)
 have b:=DK hp hq
 have l:=QM (S:=S) (t:=p.num*q.num) (b:=p.den*q.den) (sN (den_pos _) (den_pos _)) (CT b.2.1 (by lia))
 rw[HF (sN (den_pos _) (den_pos _)),Lg]at l
 simp only[aD]at l⊢
 simp[Ap,LG,m3,m4,l]
def dZ:aD (-q)=.tup [.int (0-q.num),.int q.den]:=by
 unfold aD
 rw[show(-q).num=0-q.num by simp,show(-q).den=q.den by simp]
def eU(hq:Sz k q):Sz k (-q):=by
 unfold Sz
 rw[show(-q).num= -q.num by simp,show(-q).den=q.den by simp,Int.natAbs_neg]
 exact hq
def Yy(hp:Sz j p)(hq:Sz k q)(hj:j+k<=7990):DB [aD p,aD q] S=Gc ((aD (p-q)),S):=by
 have l:=Q3 (S:=S) hp (eU hq) hj
 rw[dZ]at l
 rw[Rat.sub_eq_add_neg]
 simp only[aD]at l⊢
 simp at l
 simp[DB,Mn,l]
def Vb(h:0<b)(hb:b.natAbs<E5):Cf [.int t,.int b] S=Gc ((aD (t / b)),S):=by
 rw[JL h hb,HF h]
def Wi(h:0<b)(hb:b.natAbs<E5):BW [.int t,.int b] S=Gc ((aD (t / b)),S):=by
 rw[QM h hb,HF h]
def Hw{a b:Int}(ha:a.natAbs<2^k)(hb:b.natAbs<2^k):(a+b).natAbs<2^(k+1):=by
 have e:2^(k+1)=2^k+2^k:=by rw[yQ];lia
 have:=AAG a b
 lia
def JY{a b:Int}(ha:a.natAbs<2^j)(hb:b.natAbs<2^k):(a*b).natAbs<2^(j+k):=by
 rw[ux];exact Bm ha hb
def Ug(h:0<w+m):((p.num*q.den*w+q.num*p.den*m:Int):Rat) / (((p.den:Int)*q.den*(w+m):Int):Rat)=(p*w+q*m) / (w+m):=by
 have h1:=Ce p;have h2:=Ce q
 have d1:=G9 p;have d2:=G9 q
 have d3:((w:Rat)+(m:Rat))≠0:=by
  intro e
  have:((w+m:Int):Rat)=0:=by push_cast;exact e
  have:=uG.mp this
  lia
 push_cast
 grind
section
variable{w m:Int}
def Wm(hp:Sz j p)(hq:Sz k q)(hw:w.natAbs<2^n)(hm:m.natAbs<2^n):(p.num*q.den*w+q.num*p.den*m).natAbs<2^(j+k+n+1)/\((p.den:Int)*q.den*(w+m)).natAbs<2^(j+k+(n+1)):=by
 have d1:((p.den:Int)).natAbs<2^j:=by simpa using hp.2
 have d2:((q.den:Int)).natAbs<2^k:=by simpa using hq.2
 refine⟨Hw (JY (JY hp.1 d2) hw) ?_,JY (JY d1 d2) (Hw hw hm)⟩
 have:=JY (JY hq.1 d1) hm
 rwa [yM k j]at this
def fI(hp:Sz j p)(hq:Sz k q)(hw:w.natAbs<2^n)(hm:m.natAbs<2^n)(h:0<w+m)(hj:j+k+n+1<=7990):He [aD p,.int w,aD q,.int m] S=Gc ((aD ((p*w+q*m) / (w+m))),S):=by
 obtain⟨m1,m2,m3,m4⟩:=NI hp hq (by lia)
 have d1:((p.den:Int)).natAbs<2^j:=by simpa using hp.2
 have d2:((q.den:Int)).natAbs<2^k:=by simpa using hq.2
 have b:=Wm hp hq hw hm
 have m5:DP (p.num*q.den) w=true:=Gn (JY hp.1 d2) hw (by lia) (by lia)
 have m6:DP (q.num*p.den) m=true:=Gn (JY hq.1 d1) hm (by lia) (by lia)
 have m7:DP ((p.den:Int)*q.den) (w+m)=true:=Gn (JY d1 d2) (Hw hw hm) (by lia) (by lia)
 have l:=Vb (S:=S) (t:=p.num*q.den*w+q.num*p.den*m) (b:=p.den*q.den*(w+m)) (sN (sN (den_pos _) (den_pos _)) h) (CT b.2 (by lia))
 rw[Ug h]at l
 simp only[aD]at l⊢
 simp[He,Pb,m1,m2,m3,m5,m6,m7,l]
end
end
section
variable{S:Sto}{p:Nat}
def YL(h:p<S.length):dr (S.set p (.lst r)) (.ref p)=.own r:=As (qb h)
def Pen(ds:Wp D):Prop:=∃a b c d:Int,ds=[.int a,.int b,.int c,.int d]/\0<=d/\d<1000000007
def Df(p:Nat)(S:Sto):Prop:=∃ds,S[p]?=Gc (.lst ds)/\Pen ds
structure Pn(p:Nat)(S S':Sto):Prop where
 same:Bt [p] S S'
 pen:Df p S'
def Pn.trans(h:Pn p S S')(g:Pn p S' S2):Pn p S S2:=⟨h.same.trans g.same,g.pen⟩
def Pn.get(h:Pn p S S')(e:S[n]?=Gc c)(ha:n≠p):S'[n]?=Gc c:=h.same.get e (by simpa using ha)
def Pn.refl(h:Df p S):Pn p S S:=⟨.refl,h⟩
def Df.lt(h:Df p S):p<S.length:=by obtain⟨ds,e,_⟩:=h;exact AX e
def Df.app(h:Df p S) T:Df p (S++T):=by obtain⟨ds,e,hp⟩:=h;exact⟨ds,by rw[qQ (AX e)];exact e,hp⟩
inductive Drw(p:Nat)(n:Int)(S:Sto):Prop
 |mk (r:Int) (S':Sto) (e:AF [.ref p,.int n] S=Gc (.int r,S')) (a:0<=r) (b:r<n) (g:Pn p S S')
def Aq(h:Df p S)(h0:0<n)(h1:n<1152921504606846976):Drw p n S:=by
 obtain⟨ds,hp,a,b,c,d,rfl,hd0,hd1⟩:=h
 have hl:=AX hp
 have hs:=EK h0 h1
 have hr:=As hp
 have hc:=AL hp
 by_cases hb:b=1/\0<a
 .obtain⟨rfl,ha⟩:=hb
  refine⟨a % n,S.set p (.lst [.int (a / n),.int 1,.int c,.int d]),?_,uL _ (by lia),uW _ h0,.set (by simp),_,qb hl,_,_,_,_,rfl,hd0,hd1⟩
  simp[AF,Ht,ha,h0,hs,hr,hc]
 .have m1:DP (d+17) (69621+2*(c+1))=true:=mulL (by lia) (by lia)
  have m2:DP 2 (c+1)=true:=mulL (by decide) (by decide)
  generalize ht:(d+17)*(69621+2*(c+1)) % 2147483647=t at*
  have t0:0<=t:=by rw[<-ht];exact uL _ (by decide)
  have t1:t<2147483647:=by rw[<-ht];exact uW _ (by decide)
  have m3:DP t t=true:=mulL (by lia) (by lia)
  have m4:DP 40503 (c+1)=true:=mulL (by decide) (by decide)
  generalize hu:(t*t+40503*(c+1)+5) % 2147483629=u at*
  have u0:0<=u:=by rw[<-hu];exact uL _ (by decide)
  have u1:u<2147483629:=by rw[<-hu];exact uW _ (by decide)
  have m5:DP u 48271=true:=mulL (by lia) (by lia)
  have d32:(32:Int).natAbs<E5:=EK (by decide) (by decide)
  have d32':(32:Nat)<E5:=d32
  refine⟨u*48271 % 2147483647 / 32 % n,S.set p (.lst [.int a,.int b,.int (c+1),.int d]),?_,uL _ (by lia),uW _ h0,.set (by simp),_,qb hl,_,_,_,_,rfl,hd0,hd1⟩
  by_cases hb1:b=1
  .subst hb1
   have ha:¬0<a:=λz=>hb ⟨rfl,z⟩
   simp[AF,Ht,ha,h0,hs,hr,hc,YL,hl,m1,m2,m3,m4,m5,ht,hu,d32']
  .have hb2:(b==1)=false:=by simpa using hb1
   simp[AF,Ht,hb2,h0,hs,hr,hc,YL,hl,m1,m2,m3,m4,m5,ht,hu,d32']
def fS c:∃p S',HJ [.int c] S=Gc (.ref p,S')/\Df p S'/\Bt [] S S'/\S.length<=p:=by
 refine⟨S.length,S++[.lst [.int c,.int (if(10:Int)^18<=c then 1 else 0),.int 0,.int (c % 1000000007)]],?_,⟨_,qy,_,_,_,_,rfl,uL _ (by decide),uW _ (by decide)⟩,.app,qW _⟩
 simp[HJ,O7]
def EI(h:gOk gs S):Bj gs t c f [] acc E S=Gc (acc,S):=by
 unfold Bj
 rw[rB h]
def NB (h:gOk gs S)(hz:acc.length<sizeLine):Bj gs t c f (d::ds) acc E S=(t d E S).bind λE1=>(c E1 S).bind λr=>match r.1 with
      | .bl true => (f E1 r.2).bind fun p => Bj gs t c f ds (acc ++ [p.1]) E1 p.2
      | .bl false => Bj gs t c f ds acc E1 r.2
      | _=>none:=by
  rw [Bj, rB h, rB hz]
  all_goals rfl
def HW(h:gOk gs S)(hz:acc.length<sizeLine)(e1:t d E S=Gc E1)(e2:c E1 S=Gc (.bl true,S1)):Bj gs t c f (d::ds) acc E S=(f E1 S1).bind λp=>Bj gs t c f ds (acc++[p.1]) E1 p.2:=by
 rw[NB h hz,e1]
 show(c E1 S).bind _=_
 rw[e2]
 rfl
def IM(h:gOk gs S)(hz:acc.length<sizeLine)(e1:t d E S=Gc E1)(e2:c E1 S=Gc (.bl false,S1)):Bj gs t c f (d::ds) acc E S=Bj gs t c f ds acc E1 S1:=by
 rw[NB h hz,e1]
 show(c E1 S).bind _=_
 rw[e2]
 rfl
theorem Nf{gs:Gd}{t:Tf}{f:Ev}{I:Sto->Prop}(hg:∀S,I S->gOk gs S):∀{ds acc} {os} {S},os.length=m->I S->acc.length+ds.length<=sizeLine->(∀d∈ds,∀os S,os.length=m->I S->∃us y S',us.length=m/\t d (C++os) S=Gc (C++us)/\f (C++us) S=Gc (y,S')/\I S'/\R d y)->∃ys S',Bj gs t Bk f ds acc (C++os) S=Gc (acc++ys,S')/\I S'/\ys.length=ds.length/\Paired R ds ys
 | [],acc,os,S,ho,hI,hz,h=>⟨[],S,by rw[EI (hg S hI)];simp,hI,rfl,.nil⟩
 |d::ds,acc,os,S,ho,hI,hz,h=>by
  obtain⟨us,y,S1,hu,e1,e2,I1,r1⟩:=h d qh os S ho hI
  obtain⟨ys,S2,e3,I2,l2,r2⟩:=Nf hg (ds:=ds) (acc:=acc++[y]) (os:=us) (S:=S1) hu I1 (by simp at hz ⊢; lia) λd' hd=>h d' (qa _ hd)
  refine⟨y::ys,S2,?_,I2,by simp[l2],.cons r1 r2⟩
  rw[HW (hg S hI) (by simp at hz;lia) e1 F3,e2,A1,e3]
  simp
theorem comp_map(hg:gOk gs S):∀{ds acc} {os},os.length=m->acc.length+ds.length<=sizeLine->(∀d∈ds,∀os,os.length=m->∃us,us.length=m/\t d (C++os) S=Gc (C++us)/\f (C++us) S=Gc (g d,S))->Bj gs t Bk f ds acc (C++os) S=Gc (acc++ds.map g,S)
 | [],acc,os,ho,hz,h=>by rw[EI hg];simp
 |d::ds,acc,os,ho,hz,h=>by
  obtain⟨us,hu,e1,e2⟩:=h d qh os ho
  rw[HW hg (by simp at hz;lia) e1 F3,e2,A1]
  rw[comp_map hg hu (by simp at hz ⊢; lia) λd' hd=>h d' (qa _ hd)]
  simp
theorem J0{I:Wp D->En->Sto->Prop}(hg:∀ds E S,I ds E S->gOk gs S):∀{ds} {E} {S},I ds E S->(∀d ds E S,I (d::ds) E S->∃E1 E2 S2,t d E S=Gc E1/\b E1 S=Gc (.nx,E2,S2)/\I ds E2 S2)->∃E' S',K1 gs t b ds E S=Gc (.nx,E',S')/\I [] E' S'
 | [],E,S,hI,h=>⟨E,S,GQ (hg _ _ _ hI),hI⟩
 |d::ds,E,S,hI,h=>by
  obtain⟨E1,E2,S2,e1,e2,I2⟩:=h d ds E S hI
  obtain⟨E',S',e3,I3⟩:=J0 hg I2 h
  exact⟨E',S',by rw[Dr (hg _ _ _ hI),e1];simp[e2,e3],I3⟩
def pick{xs:Wp D}{r:Int}(h0:0<=r)(h1:r<xs.length):∃x,atI xs r=Gc x/\x∈xs:=⟨_,YB h0 h1,vV _⟩
theorem Jy{P:β->Prop}:∀{xs:Wp α} {ys},Paired (λ_ y=>P y) xs ys->∀y∈ys,P y
 |_,_,.nil,y,h=>by cases h
 |_,_,.cons r t,y,h=>by
  rcases qY.mp h with h|h
  .rw[h];exact r
  .exact Jy t y h
def JM:(OL lo n).length=n:=by simp[OL]
end
def Ok(G B:Nat)(r:Rat):Prop:=∃z:Nat,r*(G:Rat)=(z:Rat)/\z<=B
def Mg{n:Nat}(h:0<n):(n:Rat)≠0:=by
 have:n≠0:=by lia
 exact_mod_cast this
def Ok.sz(h:Ok G B r)(hG:0<G)(g:G<2^k)(b:B<2^k):Sz k r:=by
 obtain⟨z,e,hz⟩:=h
 have e2:r=((z:Int):Rat) / ((G:Int):Rat):=by
  have:=Mg hG
  rw[show(((z:Nat):Int):Rat)=(z:Rat)from rfl,show(((G:Nat):Int):Rat)=(G:Rat)from rfl,<-e]
  grind
 rw[e2]
 exact Lu (by lia) (by simpa using q8 hz b) (by simpa using g)
def Ok.up(h:Ok G B r)(hB:B*t<=B'):Ok (G*t) B' r:=by
 obtain⟨z,e,hz⟩:=h
 refine⟨z*t,?_,qU (rP t hz) hB⟩
 push_cast
 rw[<-e]
 grind
def Ok.zero:Ok G B 0:=⟨0,by simp,tP _⟩
def Ok.one(h:G<=B):Ok G B 1:=⟨G,by simp,h⟩
def Ok.mix{G B a b t:Nat}(hr:Ok G B r)(ho:Ok G B o)(ht:a+b=t)(h0:0<t):Ok (G*t) (B*t) ((r*(a:Rat)+o*(b:Rat)) / (t:Rat)):=by
 obtain⟨z,e1,h1⟩:=hr
 obtain⟨y,e2,h2⟩:=ho
 refine⟨z*a+y*b,?_,?_⟩
 .have:=Mg h0
  push_cast
  rw[<-e1,<-e2]
  grind
 .rw[<-ht,Nat.mul_add]
  exact Nat.add_le_add (rP a h1) (rP b h2)
structure Tr where
 p:Nat
 k:Nat
 b:Nat
 ho:Wp Rat
 h:Int
 l:Int
structure Ld where
 k:Nat
 n:Int
 ow:Wp Rat
structure Stt where
 AA:Wp Ld
 hold:Wp Rat
 nums:Wp Int
inductive AN where
 |DQ (p k:Nat) (n:Int)
 |Hr (a b:Nat)
 |swap (l:Nat) (g:Int) (k:Nat) (n:Int)
 |Ck (t:Int) (l:Nat) (g:Int) (k:Nat) (n:Int)
 |Dj (l:Nat) (n:Int)
 |thr (l:Nat) (n:Int) (ws:Wp Int)
 |GN (p q:Nat) (s:Rat)
noncomputable def shD(rs:Wp Rat):D:=.tup (rs.map aD)
noncomputable def Tr.d(t:Tr):D:=.tup [.int t.p,.int t.k,.int t.b,shD t.ho,.int t.h,.int t.l]
noncomputable def Ld.d(l:Ld):D:=.tup [.int l.k,.int l.n,shD l.ow]
noncomputable def AN.d:AN->D
 | .DQ p k n=>.tup [.str "bring",.int p,.int k,.int n]
 | .Hr a b=>.tup [.str "pool",.int a,.int b]
 | .swap l g k n=>.tup [.str "swap",.int l,.int g,.int k,.int n]
 | .Ck t l g k n=>.tup [.str "trade",.int t,.int l,.int g,.int k,.int n]
 | .Dj l n=>.tup [.str "spoil",.int l,.int n]
 | .thr l n ws=>.tup [.str "throw",.int l,.int n,.tup (ws.map .int)]
 | .GN p q s=>.tup [.str "sell",.int p,.int q,aD s]
noncomputable def F6(x:Rat)(os ss:Wp Rat):Wp Rat:=wH (λs o=>s*(1-x)+o*x) ss os
noncomputable def E8(p q:Nat)(s:Rat)(ss:Wp Rat):Wp Rat:=(ss.set p (ss.getD p 0-ss.getD p 0*s)).set q (ss.getD q 0+ss.getD p 0*s)
noncomputable def Bv(n m:Int)(ss os:Wp Rat):Wp Rat:=wH (λs o=>(s*n+o*m) / (n+m:Int)) ss os
noncomputable def Dp(t:Tr)(ls:Wp Ld)(ws:Wp Int):Int:=(ls.map λl=>l.n*ws.getD l.k 0).sum+t.b*ws.getD t.k 0
noncomputable def Ik(t:Tr)(ls:Wp Ld)(l:Nat)(n:Int)(ws:Wp Int):Rat:=((n*ws.getD ((ls[l]?.map (·.k)).getD 0) 0:Int):Rat) / (Dp t ls ws:Rat)
noncomputable def AJ(ls:Wp Ld)(l:Nat):Ld:=ls.getD l ⟨0,0,[]⟩
noncomputable def less(ls:Wp Ld)(l:Nat)(n:Int):Wp Ld:=ls.set l {AJ ls l with n:=(AJ ls l).n-n}
noncomputable def Qv(p i:Nat):Wp Rat:=(sY p).map λj=>if j=i then 1 else 0
noncomputable def step(t:Tr)(s:Stt):AN->Stt
 | .DQ p k n=>{s with AA:=s.AA++[⟨k,n,Qv t.p p⟩]}
 | .Hr a b=>{s with AA:=less (less s.AA a (AJ s.AA a).n) b (AJ s.AA b).n++[⟨(AJ s.AA a).k,(AJ s.AA a).n+(AJ s.AA b).n,Bv (AJ s.AA a).n (AJ s.AA b).n (AJ s.AA a).ow (AJ s.AA b).ow⟩]}
 | .swap l g k n=>{s with AA:=less s.AA l g++[⟨k,n,(AJ s.AA l).ow⟩]}
 | .Ck u l g k n=>{s with AA:=less s.AA l g++[⟨k,n,(AJ s.AA l).ow⟩],nums:=s.nums++[u]}
 | .Dj l n=>{s with AA:=less s.AA l n}
 | .thr l n ws=>{s with AA:=(less s.AA l n).map λx=>{x with ow:=F6 (Ik t s.AA l n ws) (AJ s.AA l).ow x.ow},hold:=F6 (Ik t s.AA l n ws) (AJ s.AA l).ow s.hold}
 | .GN p q x=>{s with AA:=s.AA.map λy=>{y with ow:=E8 p q x y.ow},hold:=E8 p q x s.hold}
def G5(t:Tr):Prop:=1<=t.p/\t.p<=4/\1<=t.k/\t.k<=5/\1<=t.b/\t.b<=20
def Can(t:Tr)(s:Stt):AN->Prop
 | .DQ p k n=>p<t.p/\k<t.k/\1<=n/\n<2^131
 | .Hr a b=>a≠b/\a<s.AA.length/\b<s.AA.length/\0<(AJ s.AA a).n/\0<(AJ s.AA b).n/\(AJ s.AA a).k=(AJ s.AA b).k
 | .swap l g k n=>l<s.AA.length/\1<=g/\g<=(AJ s.AA l).n/\k<t.k/\k≠(AJ s.AA l).k/\1<=n/\n<2^131
 | .Ck u l g k n=>l<s.AA.length/\1<=g/\g<=(AJ s.AA l).n/\k<t.k/\k≠(AJ s.AA l).k/\1<=n/\n<2^131/\u∉s.nums/\0<=u/\u<=9
 | .Dj l n=>l<s.AA.length/\1<=n/\n<=(AJ s.AA l).n
 | .thr l n ws=>l<s.AA.length/\1<=n/\n<=(AJ s.AA l).n/\ws.length=t.k+1/\∀w∈ws,1<=w/\w<=99
 | .GN p q x=>p≠q/\p<t.p/\q<t.p/\0<x.num/\x.num<=x.den/\x.den<=12
structure EY(t:Tr)(k:Nat)(s:Stt):Prop where
 len:s.AA.length<=4+k
 kind:∀l∈s.AA,l.k<t.k
 pcs:∀l∈s.AA,0<=l.n/\l.n<2^(131+k)
 own:∀l∈s.AA,l.ow.length=t.p
 hold:s.hold.length=t.p
 nm:s.nums.length<=k
 gb:∃G B:Nat,0<G/\G<=B/\B<2^(30+170*k)/\(∀l∈s.AA,∀r∈l.ow,Ok G B r)/\∀r∈s.hold,Ok G B r
def EY.sz(h:EY t k s):(∀l∈s.AA,∀r∈l.ow,Sz (30+170*k) r)/\∀r∈s.hold,Sz (30+170*k) r:=by
 obtain⟨G,B,g0,gb,b,h1,h2⟩:=h.gb
 exact⟨λl hl r hr=>(h1 l hl r hr).sz g0 (q8 gb b) b,λr hr=>(h2 r hr).sz g0 (q8 gb b) b⟩
def AS(h:l<ls.length):AJ ls l∈ls:=by
 unfold AJ
 rw[qu,qZ h]
 exact vV h
def Ed(h:l<ls.length):ls[l]?=Gc (AJ ls l):=by
 unfold AJ
 rw[qu,qZ h]
 rfl
def JU(h:x∈less ls l n)(hl:l<ls.length):x∈ls\/x={AJ ls l with n:=(AJ ls l).n-n}:=by
 unfold less at h
 rcases ue h with h|h
 .exact .inl h
 .exact .inr h
def C0:(less ls l n).length=ls.length:=by simp[less]
theorem QK{P:Int->Prop}:∀{ys},(∀y∈ys,∃i,y=.int i/\P i)->∃ns:Wp Int,ys=ns.map D.int/\∀n∈ns,P n
 | [],_=>⟨[],rfl,λn h=>by cases h⟩
 |y::ys,h=>by
  obtain⟨i,rfl,hi⟩:=h y qh
  obtain⟨ns,rfl,hn⟩:=QK (P:=P) (ys:=ys) λz hz=>h z (qa _ hz)
  exact⟨i::ns,rfl,λn hn'=>by
   rcases qY.mp hn' with e|e
   .rw[e];exact hi
   .exact hn n e⟩
def Ov{ns:Wp Int}(h:∀n∈ns,0<=n/\n<=8):0<=ns.sum/\ns.sum<=8*ns.length/\∀n∈ns,n<=ns.sum:=by
 induction ns with
 |nil=>simp
 |cons a l ih=>
  have h1:=h a qh
  obtain⟨i1,i2,i3⟩:=ih λn hn=>h n (qa _ hn)
  rw[rF,rT]
  refine⟨by lia,by push_cast;lia,λn hn=>?_⟩
  rcases qY.mp hn with e|e
  .lia
  .have:=i3 n e;lia
def Rq (h:Df p S)(hn:n ≤ 20):∃(ns:Wp Int)(S':Sto),Bj [] (tNm 1) Bk (eOp (o2 wIx) [(Jr [(eC (.int 0)),(eC (.int 1)),(AD AF [(eV 0),(eC (.int 4))]),(AD AF [(eV 0),(eC (.int 9))])]),(AD AF [(eV 0),(eC (.int 4))])]) (OL 0 n) [] [Gc (.ref p),none] S=Gc (ns.map D.int,S')/\Pn p S S'/\ns.length=n/\∀i ∈ ns,0 ≤ i/\i ≤ 8:=by
  obtain⟨ys,S',e,hI,l,r⟩:=Nf (gs:=[]) (t:=tNm 1) (f:=eOp (o2 wIx) [(Jr [(eC (.int 0)),(eC (.int 1)),(AD AF [(eV 0),(eC (.int 4))]),(AD AF [(eV 0),(eC (.int 9))])]),(AD AF [(eV 0),(eC (.int 4))])]) (C:=[Gc (.ref p)]) (m:=1) (I:=Pn p S) (R:=λ_ y=>∃i:Int,y = .int i/\0 ≤ i/\i ≤ 8)
    (λ_ _=>Ac) (ds:=OL 0 n) (acc:=[]) (os:=[none]) rfl (Pn.refl h) (by rw[JM];simp;exact AK (by lia)) λd _ os S0 ho I0=>by
      obtain⟨o,rfl⟩:=QY ho
      obtain⟨r1,S1,e1,a1,b1,p1⟩:=Aq I0.pen (n:=4) (by decide) (by decide)
      obtain⟨r2,S2,e2,a2,b2,p2⟩:=Aq p1.pen (n:=9) (by decide) (by decide)
      obtain⟨r3,S3,e3,a3,b3,p3⟩:=Aq p2.pen (n:=4) (by decide) (by decide)
      obtain⟨x,ex,hx⟩:=pick (xs:=[.int 0,.int 1,.int r1,.int r2]) (r:=r3) a3 (by simpa using b3)
      refine ⟨[Gc d], x, S3, rfl, by simp, by simp [e1, e2, e3, ex], ((I0.trans p1).trans p2).trans p3, ?_⟩
      simp only [qY, qp, sC] at hx
      rcases hx with rfl | rfl | rfl | rfl
      · exact ⟨0, rfl, by decide, by decide⟩
      · exact ⟨1, rfl, by decide, by decide⟩
      · exact ⟨r1, rfl, by lia, by lia⟩
      · exact ⟨r2, rfl, by lia, by lia⟩
  obtain⟨ns,rfl,hns⟩:=QK (Jy r)
  exact ⟨ns, S', by simpa using e, hI, by simpa [JM] using l, hns⟩
noncomputable def IH(ns:Wp Int):Wp Rat:=ns.map λ(n:Int)=>(n:Rat) / (ns.sum:Rat)
def L6(h:∀n∈ns,0<=n/\n<=8)(hs:0<ns.sum):∀r∈IH ns,Ok ns.sum.toNat ns.sum.toNat r:=by
 intro r hr
 obtain⟨n,hn,rfl⟩:=rS.mp hr
 have h1:=h n hn
 have h2:=(Ov h).2.2 n hn
 refine⟨n.toNat,?_,by lia⟩
 have e1:((ns.sum.toNat:Nat):Rat)=(ns.sum:Rat):=by
  have:((ns.sum.toNat:Nat):Int)=ns.sum:=by lia
  exact congrArg (λz:Int=>(z:Rat)) this
 have e2:((n.toNat:Nat):Rat)=(n:Rat):=by
  have:((n.toNat:Nat):Int)=n:=by lia
  exact congrArg (λz:Int=>(z:Rat)) this
 rw[e1,e2]
 have:(ns.sum:Rat)≠0:=by
  intro z
  have:=uG.mp z
  lia
 grind
theorem UT:∀{ns:Wp Int},(ns.map λ(n:Int)=>(n:Rat) / s).sum=(ns.sum:Rat) / s
 | []=>by simp;grind
 |n::ns=>by
  rw[qq,rF,rF,UT (ns:=ns)]
  push_cast
  grind
def PF(hs:0<ns.sum):(IH ns).sum=1:=by
 unfold IH
 rw[UT]
 have:(ns.sum:Rat)≠0:=by
  intro z
  have:=uG.mp z
  lia
 grind
def RF(hq:S[q]?=Gc (.lst (ns.map D.int)))(hl:ns.length<=20)(hn:∀n∈ns,0<=n/\n<=8)(hs:0<ns.sum):Bj [(q,ns.map D.int)] (tNm 1) Bk (AD BW [eV 1,eOp (o1 W3) [eV 0]]) (ns.map D.int) [] [Gc (.ref q),none] S=Gc ((IH ns).map aD,S):=by
 obtain⟨s1,s2,s3⟩:=Ov hn
 have:=comp_map (gs:=[(q,ns.map D.int)]) (t:=tNm 1) (f:=AD BW [eV 1,eOp (o1 W3) [eV 0]]) (C:=[Gc (.ref q)]) (m:=1) (g:=λd=>match d with| .int n=>aD ((n:Rat) / (ns.sum:Rat))|d=>d) (S:=S) (λg hg=>by rw[rD.mp hg];exact AL hq) (ds:=ns.map D.int) (acc:=[]) (os:=[none]) rfl (by simp;exact AK (by lia)) λd hd os ho=>by
  obtain⟨o,rfl⟩:=QY ho
  obtain⟨i,hi,rfl⟩:=rS.mp hd
  have m:=Wi (S:=S) (t:=i) hs (EK (by lia) (by lia))
  exact⟨[Gc (.int i)],rfl,by simp,by simp[As hq,GK,m]⟩
 have e2:(ns.map D.int).map (λd=>match d with| .int n=>aD ((n:Rat) / (ns.sum:Rat))|d=>d)=(IH ns).map aD:=by
  unfold IH
  rw[sI,sI]
  rfl
 rw[e2]at this
 simpa using this
def Qq(h:Df p S){n:Nat}(h1:1<=n)(h2:n<=4):∃rs S',C9 [.ref p,.int n] S=Gc (shD rs,S')/\Pn p S S'/\(rs.length=n/\rs.sum=1)/\∃G,0<G/\G<=32/\∀r∈rs,Ok G G r:=by
 obtain⟨ns,S1,e1,p1,l1,i1⟩:=Rq (n:=n) h (by lia)
 obtain⟨s1,s2,s3⟩:=Ov i1
 have hq:(S1++[Cl.lst (ns.map D.int)])[S1.length]?=Gc (.lst (ns.map D.int)):=qy
 have pp:Df p (S1++[Cl.lst (ns.map D.int)]):=p1.pen.app _
 have hlt:=p1.pen.lt
 have r1:MA (n:Int)=true:=Ga (by lia) (by lia)
 by_cases hz:ns.sum=0
 .obtain⟨r,S2,e2,a2,b2,p2⟩:=Aq pp (n:=n) (by lia) (by lia)
  have hq2:S2[S1.length]?=Gc (.lst (ns.map D.int)):=p2.get hq (by lia)
  have hn':∀x∈ns.set r.toNat 1,0<=x/\x<=8:=λx hx=>by
   rcases ue hx with hx|rfl
   .exact i1 x hx
   .exact⟨by decide,by decide⟩
  have hs':0<(ns.set r.toNat 1).sum:=by
   have:=(Ov hn').2.2 1 (List.mem_set (by lia) 1)
   lia
  have hq3:(S2.set S1.length (.lst ((ns.set r.toNat 1).map D.int)))[S1.length]?=Gc (.lst ((ns.set r.toNat 1).map D.int)):=qb (AX hq2)
  have e3:=RF hq3 (by simp;lia) hn' hs'
  have ix:ixN ns.length r=Gc r.toNat:=Qk a2 (by lia)
  refine⟨IH (ns.set r.toNat 1),S2.set S1.length (.lst ((ns.set r.toNat 1).map D.int)),?_,⟨?_,?_⟩,⟨by simp[IH,l1],PF hs'⟩,_,(show 0<(ns.set r.toNat 1).sum.toNat by lia),?_,L6 hn' hs'⟩
  .have sq3:=Iq hq3
   rw[vW]at e3 sq3 hq3
   simp[C9,Ir,r1,e1,As hq,GK,hz,e2,AL hq2,ix,sq3,e3,shD]
  .have g:Bt [p] S (S1++[Cl.lst (ns.map D.int)]):=p1.same.trans .app
   refine⟨qU (g.trans p2.same).len (by simp),λm hm hmp=>?_⟩
   rw[qT (by have:=p1.same.len;lia)]
   exact(g.trans p2.same).keep m hm hmp
  .obtain⟨ds,ed,hd⟩:=p2.pen
   exact⟨ds,by rw[qT (by lia)];exact ed,hd⟩
  .have:=(Ov hn').2.1
   rw[tJ]at this
   lia
 .have hz':(ns.sum==0)=false:=by simpa using hz
  have e3:=RF hq (by lia) i1 (by lia)
  refine⟨IH ns,S1++[Cl.lst (ns.map D.int)],?_,⟨p1.same.trans .app,pp⟩,⟨by simp[IH,l1],PF (by lia)⟩,_,(show 0<ns.sum.toNat by lia),by lia,L6 i1 (by lia)⟩
  have sq3:=Iq hq
  simp[C9,Ir,r1,e1,As hq,GK,hz',sq3,e3,shD]
def aa:(2:Nat)<E5:=EK (n:=2) (by decide) (by decide)
inductive Pcs(p j:Nat)(S:Sto):Prop
 |mk (n:Int) (S':Sto) (e:BA [.ref p] S=Gc (.int n,S')) (g:Pn p S S') (a:1<=n) (b:n<2^j)
def Mt(h:Df p S):Pcs p 130 S:=by
 obtain⟨r1,S1,e1,a1,b1,p1⟩:=Aq h (n:=99) (by decide) (by decide)
 obtain⟨r2,S2,e2,a2,b2,p2⟩:=Aq p1.pen (n:=4) (by decide) (by decide)
 obtain⟨r3,S3,e3,a3,b3,p3⟩:=Aq p2.pen (n:=40) (by decide) (by decide)
 obtain⟨r4,S4,e4,a4,b4,p4⟩:=Aq p3.pen (n:=999) (by decide) (by decide)
 obtain⟨r5,S5,e5,a5,b5,p5⟩:=Aq p4.pen (n:=7) (by decide) (by decide)
 have pp:=(((p1.trans p2).trans p3).trans p4).trans p5
 have d2:=aa
 have go:∀g:Int,1<=g->g<2^130->∃n:Int,atI [D.int (1+r2),.int (1+r3),.int (1+r4),.int g] (r5 / 2)=Gc (.int n)/\1<=n/\n<2^130:=λg g1 g2=>by
  obtain⟨x,ex,hx⟩:=pick (xs:=[D.int (1+r2),.int (1+r3),.int (1+r4),.int g]) (r:=r5 / 2) (by lia) (by simp;lia)
  simp only[qY,qp,sC]at hx
  rcases hx with rfl|rfl|rfl|rfl
  .exact⟨_,ex,by lia,by lia⟩
  .exact⟨_,ex,by lia,by lia⟩
  .exact⟨_,ex,by lia,by lia⟩
  .exact⟨_,ex,g1,g2⟩
 first
  |(obtain⟨n,en,n1,n2⟩:=go (10^39+r1) (by lia) (by lia)
    exact⟨n,S5,by simp[BA,Hm,e1,e2,e3,e4,e5,d2]at en ⊢; simp[en],pp,n1,n2⟩)
  |(obtain⟨n,en,n1,n2⟩:=go (10^30+r1) (by lia) (by lia)
    exact⟨n,S5,by simp[BA,Hm,e1,e2,e3,e4,e5,d2]at en ⊢; simp[en],pp,n1,n2⟩)
def L9(h:Df p S):Pcs p 131 S:=by
 obtain⟨n,S',a,b,c,d⟩:=Mt h
 exact⟨n,S',a,b,c,AAI d (by decide)⟩
def II{r:Int}(h:0<=r):∃m:Nat,r=m:=⟨r.toNat,by lia⟩
def pV(t:Tr):Prop:=0<=t.h/\t.h<=9/\0<=t.l/\t.l<=9
inductive Shr(p:Nat)(S:Sto):Prop
 |mk (x:Rat) (S':Sto) (e:FI [.ref p] S=Gc (aD x,S')) (g:Pn p S S') (a:0<x.num) (b:x.num<=x.den) (c:x.den<=12)
def X3(h:Df p S):Shr p S:=by
 obtain⟨r1,S1,e1,a1,b1,p1⟩:=Aq h (n:=12) (by decide) (by decide)
 obtain⟨r2,S2,e2,a2,b2,p2⟩:=Aq p1.pen (n:=1+r1) (by lia) (by lia)
 have m:=Wi (S:=S2) (t:=1+r2) (b:=1+r1) (by lia) (EK (by lia) (by lia))
 obtain⟨m1,rfl⟩:=II a1
 obtain⟨m2,rfl⟩:=II a2
 have rp:=Lm (1+(m2:Int)) (1+m1) (by lia)
 have eb:(((1+(m1:Int):Int)):Rat)=(((1+m1:Nat)):Rat):=by
  have:(1+(m1:Int))=((1+m1:Nat):Int):=by lia
  rw[this];rfl
 have en:(1+(m2:Int)).natAbs=1+m2:=by lia
 have gp:0<xC (1+m2) (1+m1):=Nat.gcd_pos_of_pos_left _ (by lia)
 obtain⟨q,hq⟩:=Nat.gcd_dvd_left (1+m2) (1+m1)
 obtain⟨q',hq'⟩:=Nat.gcd_dvd_right (1+m2) (1+m1)
 refine⟨((1+(m2:Int):Int):Rat) / ((1+(m1:Int):Int):Rat),S2,?_,p1.trans p2,?_,?_,?_⟩
 .simp[FI,LH,e1,e2,m]
 .rw[eb,rp.1,en]
  generalize xC (1+m2) (1+m1)=g at*
  have:(1+(m2:Int))=((g*q:Nat):Int):=by lia
  rw[this,yb,xt _ (by lia)]
  have:q≠0:=λz=>by subst z;lia
  lia
 .rw[eb,rp.1,rp.2,en]
  generalize xC (1+m2) (1+m1)=g at*
  have t1:(1+(m2:Int))=((g*q:Nat):Int):=by lia
  rw[t1,yb,xt _ (by lia),hq',Nat.mul_div_cancel_left _ gp]
  have:q<=q':=by
   have:g*q<=g*q':=by lia
   exact Nat.le_of_mul_le_mul_left this gp
  lia
 .rw[eb,rp.2]
  exact qU (Nat.div_le_self _ _) (by lia)
inductive Wts(p n:Nat)(S:Sto):Prop
 |mk (ws:Wp Int) (S':Sto) (e:DM [.ref p,.int n] S=Gc (.tup (ws.map .int),S')) (g:Pn p S S') (a:ws.length=n) (b:∀w∈ws,1<=w/\w<=99)
def VU (h:Df p S)(hn:n ≤ 6):Wts p n S:=by
  obtain⟨ys,S',e,hI,l,r⟩:=Nf (gs:=[]) (t:=tNm 1) (f:=(eOp (o2 Cq) [(eC (.int 1)),(eOp (o2 wIx) [(Jr [(AD AF [(eV 0),(eC (.int 3))]),(AD AF [(eV 0),(eC (.int 99))])]),(AD AF [(eV 0),(eC (.int 2))])])])) (C:=[Gc (.ref p)]) (m:=1) (I:=Pn p S) (R:=λ_ y=>∃i:Int,y = .int i/\1 ≤ i/\i ≤ 99)
    (λ_ _=>Ac) (ds:=OL 0 n) (acc:=[]) (os:=[none]) rfl (Pn.refl h) (by rw[JM];simp;exact AK (by lia)) λd _ os S0 ho I0=>by
      obtain⟨o,rfl⟩:=QY ho
      obtain⟨r1,S1,e1,a1,b1,p1⟩:=Aq I0.pen (n:=3) (by decide) (by decide)
      obtain⟨r2,S2,e2,a2,b2,p2⟩:=Aq p1.pen (n:=99) (by decide) (by decide)
      obtain⟨r3,S3,e3,a3,b3,p3⟩:=Aq p2.pen (n:=2) (by decide) (by decide)
      obtain⟨x,ex,hx⟩:=pick (xs:=[.int r1,.int r2]) (r:=r3) a3 (by simpa using b3)
      simp only [qY, qp, sC] at hx
      rcases hx with rfl | rfl
      · exact ⟨[Gc d], .int (1 + r1), S3, rfl, by simp, by simp [e1, e2, e3, ex], ((I0.trans p1).trans p2).trans p3, _, rfl, by lia, by lia⟩
      · exact ⟨[Gc d], .int (1 + r2), S3, rfl, by simp, by simp [e1, e2, e3, ex], ((I0.trans p1).trans p2).trans p3, _, rfl, by lia, by lia⟩
  obtain⟨ns,rfl,hns⟩:=QK (Jy r)
  have r1:MA (n:Int)=true:=Ga (by lia) (by lia)
  have e':Bj [] (tNm 1) Bk (eOp (o2 Cq) [(eC (.int 1)),(eOp (o2 wIx) [(Jr [(AD AF [(eV 0),(eC (.int 3))]),(AD AF [(eV 0),(eC (.int 99))])]),(AD AF [(eV 0),(eC (.int 2))])])]) (OL 0 n) [] [Gc (.ref p),none] S=Gc (ns.map D.int,S'):=by simpa using e
  exact ⟨ns, S', by simp [DM, Kc, r1, e'], hI, by simpa [JM] using l, hns⟩
def EO(t:Tr)(ls:Wp Ld):Prop:=(∀l∈ls,l.k<t.k/\1<=l.n/\l.n<2^131/\l.ow.length=t.p/\l.ow.sum=1)/\∃G:Nat,0<G/\G<=32^ls.length/\∀l∈ls,∀r∈l.ow,Ok G G r
def EO.snoc(h:EO t ls)(h1:l.k<t.k/\1<=l.n/\l.n<2^131/\l.ow.length=t.p/\l.ow.sum=1)(g0:0<g)(g1:g<=32)(g2:∀r∈l.ow,Ok g g r):EO t (ls++[l]):=by
 obtain⟨ha,G,G0,G1,G2⟩:=h
 refine⟨λx hx=>?_,G*g,vQ G0 g0,?_,λx hx r hr=>?_⟩
 .rcases rE.mp hx with hx|hx
  .exact ha x hx
  .rw[rD.mp hx];exact h1
 .rw[sA,yh,yQ]
  exact uX G1 g1
 .rcases rE.mp hx with hx|hx
  .exact(G2 x hx r hr).up (qW _)
  .rw[rD.mp hx]at hr
   have:=(g2 r hr).up (t:=G) (B':=G*g) (by rw[uB];exact qW _)
   rwa [uB g G]at this
def EO.nil:EO t []:=⟨λl hl=>(nomatch hl),1,by decide,by simp,λl hl=>(nomatch hl)⟩
def Wq(h:Df p S)(ht:G5 t):∃ls S',Gm [.ref p,t.d] S=Gc (.tup (ls.map Ld.d),S')/\Pn p S S'/\EO t ls/\ls.length<=4:=by
 obtain⟨t1,t2,t3,t4,t5,t6⟩:=ht
 have hlt:=h.lt
 have hq:(S++[Cl.lst []])[S.length]?=Gc (.lst []):=qy
 obtain⟨r1,S1,e1,a1,b1,p1⟩:=Aq (h.app [Cl.lst []]) (n:=5) (by decide) (by decide)
 obtain⟨r2,S2,e2,a2,b2,p2⟩:=Aq p1.pen (n:=3) (by decide) (by decide)
 obtain⟨n,en,hn⟩:∃n:Nat,atI [D.int 0,.int 1,.int r1] r2=Gc (.int n)/\n<=4:=by
  obtain⟨x,ex,hx⟩:=pick (xs:=[D.int 0,.int 1,.int r1]) (r:=r2) a2 (by simpa using b2)
  simp only[qY,qp,sC]at hx
  rcases hx with rfl|rfl|rfl
  .exact⟨0,ex,by decide⟩
  .exact⟨1,ex,by decide⟩
  .exact⟨r1.toNat,by rw[ex,rm a1],by lia⟩
 have q2:S2[S.length]?=Gc (.lst []):=(p1.trans p2).get hq (by lia)
 have rn:MA (n:Int)=true:=Ga (by lia) (by lia)
 obtain⟨E',S',ef,ls,o,rfl,f1,f2,f3,f4,f5⟩:=J0 (gs:=[]) (t:=tNm 3) (b:=BV (Hy LA (eV 2) [Bh [AD AF [eV 0,eOp (o2 wIx) [eV 1,eC (.int 1)]],AD BA [eV 0],AD C9 [eV 0,eOp (o2 wIx) [eV 1,eC (.int 0)]]]]))
  (I:=λds E S'=>∃(ls:Wp Ld) (o:qR D),E=[Gc (.ref p),Gc t.d,Gc (.ref S.length),o]/\S'[S.length]?=Gc (.lst (ls.map Ld.d))/\Df p S'/\Bt [p] S S'/\EO t ls/\ls.length+ds.length<=4)
  (λ_ _ _ _=>Ac) (ds:=OL 0 n) (E:=[Gc (.ref p),Gc t.d,Gc (.ref S.length),none]) (S:=S2)
  ⟨[],none,rfl,q2,p2.pen,Bt.app.trans (p1.trans p2).same,EO.nil,by simp[JM];exact hn⟩ (by
    rintro d ds E S0 ⟨ls,o,rfl,i1,i2,i3,i4,i5⟩
    obtain⟨x1,T1,g1,c1,d1,k1⟩:=Aq i2 (n:=t.k) (by lia) (by lia)
    obtain⟨x2,T2,g2,k2,c2,d2⟩:=L9 k1.pen
    obtain⟨rs,T3,g3,k3,l3,G,G0,G1,G2⟩:=Qq k2.pen (n:=t.p) t1 t2
    obtain⟨m1,rfl⟩:=II c1
    have kk:=(k1.trans k2).trans k3
    have j1:T3[S.length]?=Gc (.lst (ls.map Ld.d)):=kk.get i1 (by lia)
    have hz:ls.length<sizeLine:=qS (show ls.length<5 by lia) (AK (by decide))
    refine⟨[Gc (.ref p),Gc t.d,Gc (.ref S.length),Gc d],[Gc (.ref p),Gc t.d,Gc (.ref S.length),Gc d],T3.set S.length (.lst ((ls++[Ld.mk m1 x2 rs]).map Ld.d)),by simp,?_,ls++[Ld.mk m1 x2 rs],Gc d,rfl,qb (AX j1),?_,?_,i4.snoc (l:=Ld.mk m1 x2 rs) ⟨show m1<t.k by lia,c2,d2,l3⟩ G0 G1 G2,by simp at i5 ⊢; lia⟩
    .have e3:atI [D.int t.p,.int t.k,.int t.b,shD t.ho,.int t.h,.int t.l] 1=Gc (.int t.k):=by simp
     simp[Tr.d,g1,g2,g3,AL i1,AL j1,hz,Ld.d]
    .obtain⟨ds',ed,hd⟩:=kk.pen
     exact⟨ds',by rw[qT (by lia)];exact ed,hd⟩
    .refine⟨qU (i3.trans kk.same).len (by simp),λm hm hmp=>?_⟩
     rw[qT (by lia)]
     exact(i3.trans kk.same).keep m hm hmp)
 refine⟨ls,S',?_,⟨f3,f2⟩,f4,by simpa using f5⟩
 simp[Gm,LR,e1,e2,en,rn,ef,As f1]
noncomputable def B0(x:Ld):Cl:=.lst [.int x.k,.int x.n,shD x.ow]
structure SAt(S:Sto)(s l m:Nat)(as:Wp Nat)(st:Stt):Prop where
 root:S[s]?=Gc (.lst [.ref l,shD st.hold,.ref m])
 lo:S[l]?=Gc (.lst (as.map .ref))
 nu:S[m]?=Gc (.lst (st.nums.map .int))
 ld:∀(i a:Nat) (x:Ld),as[i]?=Gc a->st.AA[i]?=Gc x->S[a]?=Gc (B0 x)
 len:as.length=st.AA.length
 nd:(s::l::m::as).Nodup
theorem Yd:∀{ls:Wp Ld} {acc} {o} {S},acc.length+ls.length<=100->Bj [] (tNm 0) Bk (dw (o1 Pe) [eV 0]) (ls.map Ld.d) acc [o] S=Gc (acc++(List.range' S.length ls.length).map D.ref,S++ls.map B0)
 | [],acc,o,S,h=>by rw[sQ,EI Ac];simp
 |x::ls,acc,o,S,h=>by
  rw[qq,HW (E1:=[Gc x.d]) Ac (qS (show acc.length<101 by simp at h;lia) (AK (by decide))) (by simp) F3]
  have:dw (o1 Pe) [eV 0] [Gc x.d] S=Gc (.ref S.length,S++[B0 x]):=by simp[Ld.d,B0]
  rw[this,A1,Yd (by simp at h ⊢; lia)]
  simp[List.range'_succ]
def getElem?_at{α:Type}{xs:Wp α}{x:α}(h:n=xs.length):(xs++[x])[n]?=Gc x:=by subst h;exact qy
def Xb{t:Tr}(hl:ls.length<=20):∃s l m as S',FR [.tup [t.d,.tup (ls.map Ld.d),x]] S=Gc (.ref s,S')/\SAt S' s l m as ⟨ls,t.ho,[]⟩/\Bt [] S S'/\(∀n∈s::l::m::as,S.length<=n):=by
 have e:=Yd (ls:=ls) (acc:=[]) (o:=none) (S:=S) (by simp;lia)
 refine⟨S.length+ls.length+2,S.length+ls.length,S.length+ls.length+1,List.range' S.length ls.length,S++ls.map B0++[.lst ((List.range' S.length ls.length).map D.ref)]++[.lst []]++[.lst [.ref (S.length+ls.length),shD t.ho,.ref (S.length+ls.length+1)]],?_,⟨?_,?_,?_,?_,?_,?_⟩,?_,?_⟩
 .simp[FR,Lp,Tr.d,e,shD]
  lia
 .exact getElem?_at (by simp;lia)
 .rw[qQ (by simp),qQ (by simp)]
  exact getElem?_at (by simp)
 .rw[qQ (by simp;lia)]
  exact getElem?_at (by simp;lia)
 .intro i a y ha hy
  have hi:i<ls.length:=(qV.mp hy).1
  have:a=S.length+i:=by
   rw[List.getElem?_range' hi]at ha
   simp at ha;lia
  subst this
  rw[qQ (by simp;lia),qQ (by simp;lia),qQ (by simp;lia),rR (by lia)]
  have hy':ls[i]?=Gc y:=hy
  simp[hy']
 .simp
 .rw[uK,uK,uK]
  refine⟨?_,?_,?_,List.nodup_range'⟩
  .simp only[qY,wI];lia
  .simp only[qY,wI];lia
  .simp only[wI];lia
 .rw[v8,v8,v8]
  exact .app
 .intro n hn
  simp only[qY,wI]at hn
  lia
section
variable{S:Sto}{p:Nat}
@[simp] def nN:sqD S (shD rs)=some (rs.map aD,[]):=nr rfl
@[simp] def kF:dr (S++[.lst r]) (.ref S.length)=.own r:=As List.getElem?_concat_length
@[simp] def cC:EV (S++[.lst r]) S.length=some r:=AL List.getElem?_concat_length
def set_same(h:S[q]?=Gc c):S.set q c=S:=by
 apply xl
 intro i
 by_cases e:q=i
 .subst e;rw[qb (AX h),h]
 .rw[qT e]
theorem Px{gs:Gd}{t:Tf}{b:Ex}{I:Sto->Prop}(hg:∀S,I S->gOk gs S)(hI:∀S c,I S->I (S.set q c)):∀{ds acc} {os} {S},os.length=m->I S->S[q]?=Gc (.lst acc)->acc.length+ds.length<=1000->(∀d∈ds,∀os S acc,os.length=m->I S->S[q]?=Gc (.lst acc)->acc.length<sizeLine->∃us us',t d (C++os) S=Gc (C++us)/\b (C++us) S=Gc (.nx,C++us',S.set q (.lst (acc++[h d])))/\us'.length=m)->∃os',os'.length=m/\K1 gs t b ds (C++os) S=Gc (.nx,C++os',S.set q (.lst (acc++ds.map h)))
 | [],acc,os,S,ho,hS,hq,hz,H=>⟨os,ho,by
     rw[GQ (hg S hS)]
     have:S.set q (.lst (acc++List.map h []))=S:=by
      rw[sQ,r9]
      exact set_same hq
     rw[this]⟩
 |d::ds,acc,os,S,ho,hS,hq,hz,H=>by
  have hl:=AX hq
  obtain⟨us,us',e1,e2,hu⟩:=H d qh os S acc ho hS hq (qS (show acc.length<1001 by simp at hz;lia) (qU (by decide) (show 1001<=sizeLine by decide)))
  obtain⟨os',ho',e3⟩:=Px hg hI (ds:=ds) (acc:=acc++[h d]) (os:=us') (S:=S.set q (.lst (acc++[h d]))) hu (hI S _ hS) (qb hl) (by simp at hz ⊢; lia) λd' hd=>H d' (qa _ hd)
  refine⟨os',ho',?_⟩
  rw[Dr (hg S hS),e1,A1,e2,A1,P6,e3,List.set_set]
  simp
noncomputable def un:D->Rat
 | .tup [.int n,.int d]=>(n:Rat) / (d:Rat)
 |_=>0
def bU r:un (aD r)=r:=Ce r
noncomputable def QX(f:Rat->Rat->Rat):D->D
 | .tup [a,b]=>aD (f (un a) (un b))
 |d=>d
theorem OB:∀{ss os},(MF (ss.map aD) (os.map aD)).map (QX f)=(wH f ss os).map aD
 | [],os=>by simp[MF]
 |s::ss,[]=>by simp[MF]
 |s::ss,o::os=>by
  have ih:=OB (f:=f) (ss:=ss) (os:=os)
  unfold MF at ih⊢
  simp only[qq,List.zip_cons_cons,yR]at ih⊢
  rw[ih]
  simp[QX,bU]
def Vn{ss os:Wp Rat}(h:d∈MF (ss.map aD) (os.map aD)):∃s∈ss,∃o∈os,d=.tup [aD s,aD o]:=by
 unfold MF at h
 obtain⟨⟨a,b⟩,h1,rfl⟩:=rS.mp h
 have h2:=tT h1
 obtain⟨s,hs,rfl⟩:=rS.mp h2.1
 obtain⟨o,ho,rfl⟩:=rS.mp h2.2
 exact⟨s,hs,o,ho,rfl⟩
theorem Yl:aD 1=.tup [.int 1,.int 1]:=rfl
def Ve(n:Int):aD (n:Rat)=.tup [.int n,.int 1]:=by
 unfold aD
 simp
def PJ{n:Int}(h:n.natAbs<2^k)(hk:1<=k):Sz k (n:Rat):=by
 unfold Sz
 have:1<2^k:=xU (by lia)
 simp[h,this]
def Yc(hk:1<=k):Sz k (1:Rat):=by
 have:1<2^k:=xU (by lia)
 exact⟨by simpa using this,by simpa using this⟩
def Qt{ss os:Wp Rat}(hs:∀r∈ss,Sz j r)(ho:∀r∈os,Sz j r)(hx:Sz i x)(hj:2*j+2*i<=7900)(hl:ss.length<=10):∃S',Dt [shD ss,aD x,shD os] S=Gc (shD (F6 x os ss),S')/\Bt [] S S':=by
 have hq:(S++[Cl.lst []])[S.length]?=Gc (.lst []):=qy
 obtain⟨os',ho',e⟩:=Px (gs:=[]) (t:=tTp [tNm 4,tNm 5]) (b:=BV (Hy LA (eV 3) [AD By [AD Ap [eV 4,AD DB [Bh [eC (.int 1),eC (.int 1)],eV 1]],AD Ap [eV 5,eV 1]]])) (C:=[Gc (shD ss),Gc (aD x),Gc (shD os),Gc (.ref S.length)]) (m:=2) (q:=S.length) (h:=QX λs o=>s*(1-x)+o*x) (I:=λ_=>xH) (λ_ _=>Ac) (λ_ _ _=>trivial)
  (ds:=MF (ss.map aD) (os.map aD)) (acc:=[]) (os:=[none,none]) (S:=S++[Cl.lst []]) rfl trivial hq (by simp[K2];lia) (by
    intro d hd os0 S0 acc h0 _ hq0 hz
    obtain⟨o1,o2,rfl⟩:=f9 h0
    obtain⟨s,hs',o,ho',rfl⟩:=Vn hd
    have l1:=Yy (S:=S0) (Yc (k:=1) (by decide)) hx (by lia)
    have s1:=(dB (Yc (k:=1) (by decide)) hx)
    have l2:=J5 (S:=S0) (hs s hs') s1 (by lia)
    have l3:=J5 (S:=S0) (ho o ho') hx (by lia)
    have l4:=Q3 (S:=S0) (Mc (hs s hs') s1) (Mc (ho o ho') hx) (by lia)
    rw[Yl]at l1
    refine⟨[Gc (aD s),Gc (aD o)],[Gc (aD s),Gc (aD o)],by simp,?_,rfl⟩
    simp[l1,l2,l3,l4,AL hq0,hz,QX,bU])
 rw[OB]at e
 refine⟨(S++[Cl.lst []]).set S.length (.lst ((F6 x os ss).map aD)),?_,?_⟩
 .have e':K1 [] (tTp [tNm 4,tNm 5]) (BV (Hy LA (eV 3) [AD By [AD Ap [eV 4,AD DB [Bh [eC (.int 1),eC (.int 1)],eV 1]],AD Ap [eV 5,eV 1]]])) (MF (ss.map aD) (os.map aD)) [Gc (shD ss),Gc (aD x),Gc (shD os),Gc (.ref S.length),none,none] (S++[Cl.lst []])=Gc (.nx,[Gc (shD ss),Gc (aD x),Gc (shD os),Gc (.ref S.length)]++os',(S++[Cl.lst []]).set S.length (.lst ((F6 x os ss).map aD))):=by simpa[F6]using e
  simp[Dt,ME,e']
  rfl
 .refine⟨by simp,λn hn _=>?_⟩
  rw[qT (by lia),qQ hn]
end
def getD_get{α:Type}{xs:Wp α}{d:α}(h:n<xs.length):xs[n]?=Gc (xs.getD n d):=by
 rw[qu,qZ h]
 rfl
def getD_mem{α:Type}{xs:Wp α}{d:α}(h:n<xs.length):xs.getD n d∈xs:=qo (getD_get h)
def VF{ss:Wp Rat}(h:n<ss.length):atI (ss.map aD) (n:Int)=Gc (aD (ss.getD n 0)):=Co (by rw[qw,getD_get h];rfl)
def Yi{ss:Wp Rat}(h:n<ss.length):ixN (ss.map aD).length (n:Int)=Gc n:=NO (by simpa using h)
def Ul(hs:∀r∈ss,Sz j r)(hx:Sz i x)(hj:2*j+i<=7900)(hp:p<ss.length)(hq:q<ss.length)(hpq:p≠q):∃S',Ek [shD ss,(AN.GN p q x).d] S=Gc (shD (E8 p q x ss),S')/\Bt [] S S':=by
 have sp:=hs _ (getD_mem (d:=0) hp)
 have sq:=hs _ (getD_mem (d:=0) hq)
 have l1:∀S,Ap [aD (ss.getD p 0),aD x] S=Gc (aD (ss.getD p 0*x),S):=λS=>J5 sp hx (by lia)
 have s1:=Mc sp hx
 have l2:∀S,DB [aD (ss.getD p 0),aD (ss.getD p 0*x)] S=Gc (aD (ss.getD p 0-ss.getD p 0*x),S):=λS=>Yy sp s1 (by lia)
 have l3:∀S,By [aD (ss.getD q 0),aD (ss.getD p 0*x)] S=Gc (aD (ss.getD q 0+ss.getD p 0*x),S):=λS=>Q3 sq s1 (by lia)
 have a1:=VF hp
 have i1:=Yi hp
 have i2:ixN (((ss.map aD).set p (aD (ss.getD p 0-ss.getD p 0*x))).length) (q:Int)=Gc q:=NO (by simpa using hq)
 have a2:atI ((ss.map aD).set p (aD (ss.getD p 0-ss.getD p 0*x))) (q:Int)=Gc (aD (ss.getD q 0)):=Co (by
  rw[qT hpq,qw,getD_get hq];rfl)
 refine⟨S++[.lst ((E8 p q x ss).map aD)],?_,.app⟩
 simp only[tJ,rG]at i1 i2
 have em:(E8 p q x ss).map aD=((ss.map aD).set p (aD (ss.getD p 0-ss.getD p 0*x))).set q (aD (ss.getD q 0+ss.getD p 0*x)):=by rw[E8,vW,vW]
 unfold shD
 rw[em]
 generalize aD (ss.getD p 0-ss.getD p 0*x)=d1 at*
 generalize aD (ss.getD q 0+ss.getD p 0*x)=d2 at*
 generalize aD (ss.getD p 0*x)=d3 at*
 generalize aD (ss.getD p 0)=d4 at*
 generalize aD (ss.getD q 0)=d5 at*
 simp[Ek,Mu,AN.d,a1,l1,l2,l3,i1,i2,a2]
def Sj(ha:S[a]?=Gc (B0 x))(hb:S[b]?=Gc (B0 y))(hs:∀r∈x.ow,Sz j r)(ho:∀r∈y.ow,Sz j r)(hx:x.n.natAbs<2^i)(hy:y.n.natAbs<2^i)(h0:0<x.n+y.n)(h1:1<=i)(hj:2*j+4*i<=7900)(hl:x.ow.length<=10):∃S',Fm [.ref a,.ref b] S=Gc (shD (Bv x.n y.n x.ow y.ow),S')/\Bt [] S S':=by
 have la:=AX ha
 have lb:=AX hb
 have hq:(S++[Cl.lst []])[S.length]?=Gc (.lst []):=qy
 have ha':(S++[Cl.lst []])[a]?=Gc (B0 x):=by rw[qQ la];exact ha
 have hb':(S++[Cl.lst []])[b]?=Gc (B0 y):=by rw[qQ lb];exact hb
 obtain⟨os',ho',e⟩:=Px (gs:=[]) (t:=tTp [tNm 3,tNm 4]) (b:=AM (BE 5 (AD By [AD Ap [Bh [eOp (o2 wIx) [eV 0,eC (.int 1)],eC (.int 1)],eV 3],AD Ap [Bh [eOp (o2 wIx) [eV 1,eC (.int 1)],eC (.int 1)],eV 4]]))
  (BV (Hy LA (eV 2) [AD Ap [eV 5,AD BW [eC (.int 1),eOp (o2 Cq) [eOp (o2 wIx) [eV 0,eC (.int 1)],eOp (o2 wIx) [eV 1,eC (.int 1)]]]]]))) (C:=[Gc (.ref a),Gc (.ref b),Gc (.ref S.length)]) (m:=3) (q:=S.length) (h:=QX λs o=>(s*x.n+o*y.n) / (x.n+y.n:Int)) (I:=λS'=>S'[a]?=Gc (B0 x)/\S'[b]?=Gc (B0 y)) (λ_ _=>Ac) (λS' c h=>⟨by rw[qT (by lia)];exact h.1,by rw[qT (by lia)];exact h.2⟩)
  (ds:=MF (x.ow.map aD) (y.ow.map aD)) (acc:=[]) (os:=[none,none,none]) (S:=S++[Cl.lst []]) rfl ⟨ha',hb'⟩ hq (by simp[K2];lia) (by
    intro d hd os0 S0 acc h0' hI hq0 hz
    obtain⟨o1,o2,o3,rfl⟩:=mE h0'
    obtain⟨s,hs',o,ho',rfl⟩:=Vn hd
    have d1:=As hI.1
    have d2:=As hI.2
    have z1:=PJ hx h1
    have z2:=PJ hy h1
    have l1:=J5 (S:=S0) z1 (hs s hs') (by lia)
    have l2:=J5 (S:=S0) z2 (ho o ho') (by lia)
    have s1:=Mc z1 (hs s hs')
    have s2:=Mc z2 (ho o ho')
    have l3:=Q3 (S:=S0) s1 s2 (by lia)
    have b1:=Hw hx hy
    have l4:=Wi (S:=S0) (t:=1) h0 (CT b1 (by lia))
    have s4:Sz (i+1) (((1:Int):Rat) / ((x.n+y.n:Int):Rat)):=Lu h0 (show(1:Int).natAbs<2^(i+1)from xU (by lia)) b1
    have l5:=J5 (S:=S0) (eQ s1 s2) s4 (by lia)
    rw[Ve]at l1 l2
    refine⟨[Gc (aD s),Gc (aD o),o3],[Gc (aD s),Gc (aD o),Gc (aD (x.n*s+y.n*o))],by simp,?_,rfl⟩
    have ev:(((x.n:Rat)*s+(y.n:Rat)*o)*(((1:Int):Rat) / ((x.n+y.n:Int):Rat)))=(s*x.n+o*y.n) / (x.n+y.n:Int):=by
     push_cast
     grind
    rw[ev]at l5
    have lf:(QX λs o=>(s*x.n+o*y.n) / (x.n+y.n:Int)) (.tup [aD s,aD o])=aD ((s*x.n+o*y.n) / (x.n+y.n:Int)):=by simp only[QX,bU]
    rw[lf]
    generalize aD ((s*x.n+o*y.n) / (x.n+y.n:Int))=e5 at*
    generalize aD (((1:Int):Rat) / ((x.n+y.n:Int):Rat))=e4 at*
    generalize aD (x.n*s+y.n*o)=e3 at*
    simp[d1,d2,B0,l1,l2,l3,l4,l5,AL hq0,hz])
 rw[OB]at e
 refine⟨(S++[Cl.lst []]).set S.length (.lst ((Bv x.n y.n x.ow y.ow).map aD)),?_,?_⟩
 .have e':=e
  simp only[rX,rH]at e'
  have d1:=As ha'
  have d2:=As hb'
  change K1 _ _ _ _ _ _=Gc (_,_,List.set _ _ (Cl.lst (List.map aD (Bv x.n y.n x.ow y.ow))))at e'
  generalize Bv x.n y.n x.ow y.ow=rs at*
  simp[Fm,Kg,d1,d2,e',shD]
 .refine⟨by simp,λn hn _=>?_⟩
  rw[qT (by lia),qQ hn]
section
variable{S:Sto}{p:Nat}
theorem Dd{α:Type}{gs:Gd}{t:Tf}{f:Ev}{C:En}{m:Nat}{e g:α->D}{S:Sto}(hg:gOk gs S):∀{xs:Wp α} {acc:Wp D} {os:En},os.length=m->acc.length+xs.length<=sizeLine->(∀x∈xs,∀os,os.length=m->∃us,us.length=m/\t (e x) (C++os) S=Gc (C++us)/\f (C++us) S=Gc (g x,S))->Bj gs t Bk f (xs.map e) acc (C++os) S=Gc (acc++xs.map g,S)
 | [],acc,os,ho,hz,h=>by rw[sQ,EI hg];simp
 |x::xs,acc,os,ho,hz,h=>by
  obtain⟨us,hu,e1,e2⟩:=h x qh os ho
  rw[qq,HW hg (by simp at hz;lia) e1 F3,e2,A1]
  rw[Dd hg hu (by simp at hz ⊢; lia) λx' hx=>h x' (qa _ hx)]
  simp
theorem FL{α:Type}{gs:Gd}{t:Tf}{c f:Ev}{C:En}{m:Nat}{e g:α->D}{b:α->sD}{S:Sto}(hg:gOk gs S):∀{xs:Wp α} {acc:Wp D} {os:En},os.length=m->acc.length+xs.length<=sizeLine->(∀x∈xs,∀os,os.length=m->∃us,us.length=m/\t (e x) (C++os) S=Gc (C++us)/\c (C++us) S=Gc (.bl (b x),S)/\f (C++us) S=Gc (g x,S))->Bj gs t c f (xs.map e) acc (C++os) S=Gc (acc++(xs.filter b).map g,S)
 | [],acc,os,ho,hz,h=>by rw[sQ,EI hg];simp
 |x::xs,acc,os,ho,hz,h=>by
  obtain⟨us,hu,e1,e2,e3⟩:=h x qh os ho
  cases hb:b x with
  |true=>
   rw[hb]at e2
   rw[qq,HW hg (by simp at hz;lia) e1 e2,e3,A1,FL hg hu (by simp at hz ⊢; lia) λd' hd=>h d' (qa _ hd)]
   simp[hb]
  |false=>
   rw[hb]at e2
   rw[qq,IM hg (by simp at hz;lia) e1 e2,FL hg hu (by simp at hz ⊢; lia) λd' hd=>h d' (qa _ hd)]
   simp[hb]
def Xm{as:Wp Nat}{ls:Wp Ld}(h:as.length=ls.length):as.map D.ref=(as.zip ls).map λz=>D.ref z.1:=by
 have:as=(as.zip ls).map Prod.fst:=(List.map_fst_zip (by lia)).symm
 conv=>lhs;rw[this]
 rw[sI];rfl
def ZL{β:Type}{as:Wp Nat}{ls:Wp Ld}(h:as.length=ls.length)(g:Ld->β):ls.map g=(as.zip ls).map λz=>g z.2:=by
 have:ls=(as.zip ls).map Prod.snd:=(List.map_snd_zip (by lia)).symm
 conv=>lhs;rw[this]
 rw[sI];rfl
section
variable{s l m:Nat}{as:Wp Nat}{st:Stt}
def SAt.pI(h:SAt S s l m as st){z:Nat×Ld}(hz:z∈as.zip st.AA):S[z.1]?=Gc (B0 z.2):=by
 obtain⟨i,hi⟩:=tW.mp hz
 have:=vZ.mp hi
 exact h.ld i z.1 z.2 this.1 this.2
def SAt.at(h:SAt S s l m as st){i:Nat}(hi:i<st.AA.length):∃a,as[i]?=Gc a/\S[a]?=Gc (B0 (AJ st.AA i))/\atI (as.map D.ref) (i:Int)=Gc (.ref a):=by
 have h1:i<as.length:=by rw[h.len];exact hi
 refine⟨as[i],qZ h1,h.ld i _ _ (qZ h1) (Ed hi),Co (by rw[qw,qZ h1];rfl)⟩
def SAt.guard(h:SAt S s l m as st):gOk [(l,as.map D.ref)] S:=by
 intro g hg
 simp only[qY,qp,sC]at hg
 subst hg
 exact AL h.lo
end
theorem Uq{M:Int}(hM:0<=M):∀{xs:Wp Int},(∀x∈xs,0<=x/\x<=M)->0<=xs.sum/\xs.sum<=xs.length*M
 | [],_=>by simp
 |x::xs,h=>by
  have h1:=h x qh
  have h2:=Uq hM λy hy=>h y (qa _ hy)
  simp only[rF,rT]
  refine⟨by lia,?_⟩
  have:((xs.length+1:Nat):Int)*M=xs.length*M+M:=by push_cast;grind
  lia
theorem NF:∀{xs:Wp Int} {y:Int},(∀x∈xs,0<=x)->y∈xs->y<=xs.sum
 |x::xs,y,h,hy=>by
  have h1:=h x qh
  have h2:0<=xs.sum:=by
   clear hy
   induction xs with
   |nil=>simp
   |cons z zs ih=>
    have:=h z (by simp)
    have:=ih λw hw=>h w (by simp at hw ⊢; rcases hw with hw|hw<;>simp[hw])
    simp only[rF];lia
  simp only[rF]
  rcases qY.mp hy with e|e
  .lia
  .have:=NF (λz hz=>h z (qa _ hz)) e
   lia
section
variable{t:Tr}{k:Nat}{st:Stt}{ws:Wp Int}{n:Int}{l:Nat}
def Lq{i:Nat}(hw:∀w∈ws,1<=w/\w<=99)(hi:i<ws.length):1<=ws.getD i 0/\ws.getD i 0<=99:=hw _ (getD_mem hi)
def Qn{i:Nat}(hi:i<ws.length):atI (ws.map D.int) (i:Int)=Gc (.int (ws.getD i 0)):=Co (by rw[qw,getD_get hi];rfl)
def NQ(hi:ws.length=k+1):atI (ws.map D.int) (-1:Int)=Gc (.int (ws.getD k 0)):=by
 have ix:ixN (ws.map D.int).length (-1)=Gc k:=by
  rw[rG,hi]
  unfold ixN
  simp
  lia
 unfold atI
 rw[ix]
 show(ws.map D.int)[k]?=_
 rw[qw,getD_get (d:=(0:Int)) (by lia)]
 rfl
def JB(ht:G5 t)(h:EY t k st)(hk:k<=20)(hl:ws.length=t.k+1)(hw:∀w∈ws,1<=w/\w<=99):0<Dp t st.AA ws/\Dp t st.AA ws<2^(145+k):=by
 obtain⟨t1,t2,t3,t4,t5,t6⟩:=ht
 have hP:(0:Int)<=2^(131+k):=vA (Int.pow_pos (by decide))
 have hs:=Uq (M:=2^(131+k)*99) (by lia) (xs:=st.AA.map λl=>l.n*ws.getD l.k 0) (by
  intro x hx
  obtain⟨y,hy,rfl⟩:=rS.mp hx
  have h1:=h.pcs y hy
  have h2:=Lq hw (i:=y.k) (by have:=h.kind y hy;lia)
  refine⟨y4 h1.1 (by lia),Int.mul_le_mul (by lia) h2.2 (by lia) hP⟩)
 have hb:=Lq hw (i:=t.k) (by lia)
 have hlen:=h.len
 rw[rG]at hs
 have h3:(st.AA.length:Int)*(2^(131+k)*99)<=24*(2^(131+k)*99):=wU (by lia) (by lia)
 have h4:(1:Int)<=t.b*ws.getD t.k 0:=by
  have:0<(t.b:Int)*ws.getD t.k 0:=sN (by lia) (by lia)
  lia
 have h5:t.b*ws.getD t.k 0<=20*99:=Int.mul_le_mul (by lia) hb.2 (by lia) (by decide)
 have h6:(2:Int)^(145+k)=2^(131+k)*16384:=by rw[show 145+k=(131+k)+14 by lia,Int.pow_add];rfl
 have h7:(1:Int)<=2^(131+k):=by have:(0:Int)<2^(131+k):=Int.pow_pos (by decide);lia
 have h7':(2:Int)^11<=2^(131+k):=by
  have:(2^11:Nat)<=2^(131+k):=rO (by decide) (by lia)
  exact_mod_cast this
 unfold Dp
 rw[h6]
 generalize (2:Int)^(131+k)=P at*
 exact⟨Int.add_pos_of_nonneg_of_pos hs.1 (uY (by decide) h4),vD (Int.add_le_add (Int.le_trans hs.2 h3) h5) (by clear h3 hs h4 h5 h6;lia)⟩
def Vx(ht:G5 t)(h:EY t k st)(hl:ws.length=t.k+1)(hw:∀w∈ws,1<=w/\w<=99)(hi:l<st.AA.length)(h1:1<=n)(h2:n<=(AJ st.AA l).n):0<n*ws.getD (AJ st.AA l).k 0/\n*ws.getD (AJ st.AA l).k 0<Dp t st.AA ws:=by
 obtain⟨t1,t2,t3,t4,t5,t6⟩:=ht
 have hw1:=Lq hw (i:=(AJ st.AA l).k) (by have:=h.kind _ (AS hi);lia)
 have hb:=Lq hw (i:=t.k) (by lia)
 have h4:(1:Int)<=t.b*ws.getD t.k 0:=by
  have:0<(t.b:Int)*ws.getD t.k 0:=sN (by lia) (by lia)
  lia
 have h5:=NF (xs:=st.AA.map λl=>l.n*ws.getD l.k 0) (y:=(AJ st.AA l).n*ws.getD (AJ st.AA l).k 0) (by
  intro x hx
  obtain⟨y,hy,rfl⟩:=rS.mp hx
  have h1:=h.pcs y hy
  have h2:=Lq hw (i:=y.k) (by have:=h.kind y hy;lia)
  exact y4 h1.1 (by lia)) (rS.mpr ⟨_,AS hi,rfl⟩)
 have h6:n*ws.getD (AJ st.AA l).k 0<=(AJ st.AA l).n*ws.getD (AJ st.AA l).k 0:=wU h2 (by lia)
 refine⟨sN (by lia) (by lia),?_⟩
 exact vD (Int.le_trans h6 h5) (Int.lt_add_of_pos_right _ (uY Int.zero_lt_one h4))
def K3(hi:l<st.AA.length):Ik t st.AA l n ws=((n*ws.getD (AJ st.AA l).k 0:Int):Rat) / (Dp t st.AA ws:Rat):=by
 unfold Ik
 rw[Ed hi]
 rfl
def FA{x:Int}{j:Nat}(h0:0<=x)(h1:x<2^j):x.natAbs<2^j:=by
 have:((x.natAbs:Nat):Int)<((2^j:Nat):Int):=by
  rw[y7 h0];push_cast;exact h1
 exact_mod_cast this
def TN(ht:G5 t)(h:EY t k st)(hk:k<=20)(hl:ws.length=t.k+1)(hw:∀w∈ws,1<=w/\w<=99)(hi:l<st.AA.length)(h1:1<=n)(h2:n<=(AJ st.AA l).n):Sz (145+k) (Ik t st.AA l n ws):=by
 have a:=JB ht h hk hl hw
 have b:=Vx ht h hl hw hi h1 h2
 rw[K3 hi]
 exact Lu a.1 (FA (by lia) (by lia)) (FA (by lia) a.2)
def aU{s r m:Nat}{as:Wp Nat}(hS:SAt S s r m as st)(ht:G5 t)(h:EY t k st)(hk:k<=20)(hl:ws.length=t.k+1)(hw:∀w∈ws,1<=w/\w<=99)(hi:l<st.AA.length)(h1:1<=n)(h2:n<=(AJ st.AA l).n):Hs [t.d,.ref r,(AN.thr l n ws).d] S=Gc (aD (Ik t st.AA l n ws),S):=by
 have a:=JB ht h hk hl hw
 obtain⟨x,x1,x2,x3⟩:=hS.at hi
 have hlen:=h.len
 have e:=Dd (gs:=[(r,as.map D.ref)]) (t:=tTp [tNm 1,tNm 2,tNm 3]) (f:=eOp (o2 CL) [eV 2,eOp (o2 wIx) [eV 0,eV 1]]) (C:=[Gc (.tup (ws.map D.int))]) (m:=3) (e:=λz:Nat×Ld=>D.ref z.1) (g:=λz=>D.int (z.2.n*ws.getD z.2.k 0)) hS.guard (xs:=as.zip st.AA) (acc:=[]) (os:=[none,none,none]) rfl (qU (show _<=24 by simp;lia) (AK (by decide))) (by
  intro z hz os ho
  obtain⟨q1,q2,q3,rfl⟩:=mE ho
  have c1:=hS.pI hz
  have hm:z.2∈st.AA:=(tT (a:=z.1) (b:=z.2) hz).2
  have hk:=h.kind _ hm
  have w1:=Qn (ws:=ws) (i:=z.2.k) (by lia)
  have w2:=Lq hw (i:=z.2.k) (by lia)
  have m1:DP z.2.n (ws.getD z.2.k 0)=true:=mulR (by lia) (by lia)
  generalize ws.getD z.2.k 0=wz at*
  refine⟨[Gc (.int z.2.k),Gc (.int z.2.n),Gc (shD z.2.ow)],rfl,?_,?_⟩
  .simp[AL c1,B0]
  .simp[w1,m1])
 rw[<-Xm hS.len,<-ZL hS.len (λx=>D.int (x.n*ws.getD x.k 0))]at e
 have e':=e
 simp only[rX,rH]at e'
 rw[K3 hi]
 have es:Kn (st.AA.map λx=>D.int (x.n*ws.getD x.k 0))=Gc (st.AA.map λx=>x.n*ws.getD x.k 0):=by
  have:=GK (st.AA.map λx=>x.n*ws.getD x.k 0)
  rwa [sI]at this
 have w1:=Qn (ws:=ws) (i:=(AJ st.AA l).k) (by have:=h.kind _ (AS hi);lia)
 have w3:=Lq hw (i:=(AJ st.AA l).k) (by have:=h.kind _ (AS hi);lia)
 have w2:=NQ hl
 have w4:=Lq hw (i:=t.k) (by lia)
 have m1:DP n (ws.getD (AJ st.AA l).k 0)=true:=mulR (by lia) (by lia)
 have m2:DP (t.b:Int) (ws.getD t.k 0)=true:=mulR (by lia) (by lia)
 have l1:=Wi (S:=S) (t:=n*ws.getD (AJ st.AA l).k 0) a.1 (CT (FA (by lia) a.2) (by lia))
 have e2:Dp t st.AA ws=(st.AA.map λx=>x.n*ws.getD x.k 0).sum+t.b*ws.getD t.k 0:=rfl
 rw[e2]at l1⊢
 generalize aD (((n*ws.getD (AJ st.AA l).k 0:Int):Rat) / (((st.AA.map λx=>x.n*ws.getD x.k 0).sum+t.b*ws.getD t.k 0:Int):Rat))=R at*
 generalize (st.AA.map λx=>x.n*ws.getD x.k 0)=es' at*
 generalize (st.AA.map λx=>D.int (x.n*ws.getD x.k 0))=es2 at*
 generalize ws.getD (AJ st.AA l).k 0=wa at*
 generalize ws.getD t.k 0=wb at*
 have dx:=As x2
 have dl:=As hS.lo
 simp[Hs,Mm,AN.d,Tr.d,Iq hS.lo,e',es,w2,m2,dl,x3,dx,B0,w1,m1,l1]
def Ss{G B:Nat}(ht:G5 t)(h:EY t k st)(hk:k<=20)(hl:ws.length=t.k+1)(hw:∀w∈ws,1<=w/\w<=99)(hi:l<st.AA.length)(h1:1<=n)(h2:n<=(AJ st.AA l).n){os ss:Wp Rat}(ho:∀r∈os,Ok G B r)(hs:∀r∈ss,Ok G B r):∀r∈F6 (Ik t st.AA l n ws) os ss,Ok (G*(Dp t st.AA ws).toNat) (B*(Dp t st.AA ws).toNat) r:=by
 have a:=JB ht h hk hl hw
 have b:=Vx ht h hl hw hi h1 h2
 intro r hr
 unfold F6 at hr
 rw[tW]at hr
 obtain⟨i,hi'⟩:=hr
 rw[u9]at hi'
 obtain⟨x,y,hx,hy,rfl⟩:=hi'
 rw[K3 hi]
 generalize n*ws.getD (AJ st.AA l).k 0=c at*
 generalize Dp t st.AA ws=W at*
 have:=Ok.mix (a:=(W-c).toNat) (b:=c.toNat) (t:=W.toNat) (hs x (qo hx)) (ho y (qo hy)) (by rw[<-Int.toNat_add (Int.sub_nonneg_of_le (vA b.2)) (vA b.1),Int.sub_add_cancel]) (Int.pos_iff_toNat_pos.mp a.1)
 have e1:(((W-c).toNat:Nat):Rat)=(W:Rat)-(c:Rat):=by
  have:(((W-c).toNat:Nat):Int)=W-c:=rm (by lia)
  have:((((W-c).toNat:Nat):Int):Rat)=((W-c:Int):Rat):=by rw[this]
  push_cast at this
  exact this
 have e2:((c.toNat:Nat):Rat)=(c:Rat):=by
  have:((c.toNat:Nat):Int)=c:=rm (by lia)
  have:(((c.toNat:Nat):Int):Rat)=(c:Rat):=by rw[this]
  exact this
 have e3:((W.toNat:Nat):Rat)=(W:Rat):=by
  have:((W.toNat:Nat):Int)=W:=rm (by lia)
  have:(((W.toNat:Nat):Int):Rat)=(W:Rat):=by rw[this]
  exact this
 rw[e1,e2,e3]at this
 have ne:(W:Rat)≠0:=by
  intro z
  have:=uG.mp z
  lia
 have ev:(x*((W:Rat)-(c:Rat))+y*(c:Rat)) / (W:Rat)=x*(1-(c:Rat) / (W:Rat))+y*((c:Rat) / (W:Rat)):=by grind
 rw[ev]at this
 exact this
end
end
def Zb(h:rV x=true)(g:rV y=true):Iz (.str x) (.str y)=true:=by
 unfold Iz
 show(rV x && rV y && _)=true
 rw[h,g]
 rfl
def aH(c:Char):c.toNat<1114112:=by
 have h:c.toNat.isValidChar:=c.valid
 rcases h with h|h
 .exact vB h (by decide)
 .exact h.2
def Qw:rV (rC x)=true:=by
 unfold rV rC
 simp
 intro c hc
 rw[cpsOfBytes_string]at hc
 obtain⟨ch,_,rfl⟩:=rS.mp hc
 exact aH ch
theorem Oh:∀{a b:Wp Char},a.map Char.toNat=b.map Char.toNat->a=b
 | [],[],_=>rfl
 |x::a,y::b,h=>by
  rw[qq,qq]at h
  injection h with h1 h2
  rw[Char.toNat_inj.mp h1,Oh h2]
 | [],_::_,h=>nomatch h
 |_::_,[],h=>nomatch h
def a9(h:rC x=rC y):x=y:=by
 rw[yS,yS]at h
 injection h with h
 exact String.toList_inj.mp (Oh (by simpa using h))
@[simp] def qE(x y:String):Iz (.str (Str.ofString x)) (.str (Str.ofString y))=true:=Zb Qw Qw
@[simp] def p0(x y:String):deq (.str (Str.ofString x)) (.str (Str.ofString y))=decide (x=y):=by
  show(rC x==rC y)=_
  rw[vm,uJ,sx]
  exact⟨a9,λz=>by rw[z]⟩
@[simp] def Xf:wIn false (.val (.str "bring")) (.val (.tup [.str "spoil",.str "throw"]))=some (.val (.bl false)):=nr rfl
@[simp] def mF:wIn false (.val (.str "pool")) (.val BS)=some (.val (.bl true)):=nr rfl
@[simp] def ZS:wIn false (.val (.str "swap")) (.val (.tup [.str "swap",.str "trade"]))=some (.val (.bl true)):=nr rfl
@[simp] def lW:wIn false (.val (.str "swap")) (.val BS)=some (.val (.bl true)):=nr rfl
@[simp] def X8:wIn false (.val (.str "trade")) (.val (.tup [.str "swap",.str "trade"]))=some (.val (.bl true)):=nr rfl
@[simp] def k7:wIn false (.val (.str "trade")) (.val BS)=some (.val (.bl true)):=nr rfl
@[simp] def YZ:wIn false (.val (.str "spoil")) (.val (.tup [.str "swap",.str "trade"]))=some (.val (.bl false)):=nr rfl
@[simp] def Xz:wIn false (.val (.str "spoil")) (.val (.tup [.str "spoil",.str "throw"]))=some (.val (.bl true)):=nr rfl
@[simp] def kq:wIn false (.val (.str "spoil")) (.val BS)=some (.val (.bl false)):=nr rfl
@[simp] def YM:wIn false (.val (.str "throw")) (.val (.tup [.str "swap",.str "trade"]))=some (.val (.bl false)):=nr rfl
@[simp] def Wu:wIn false (.val (.str "throw")) (.val (.tup [.str "spoil",.str "throw"]))=some (.val (.bl true)):=nr rfl
@[simp] def je:wIn false (.val (.str "throw")) (.val BS)=some (.val (.bl false)):=nr rfl
@[simp] def bV:wIn false (.val (.str "sell")) (.val (.tup [.str "swap",.str "trade"]))=some (.val (.bl false)):=nr rfl
@[simp] def Yz:wIn false (.val (.str "sell")) (.val (.tup [.str "spoil",.str "throw"]))=some (.val (.bl false)):=nr rfl
@[simp] def lx:wIn false (.val (.str "sell")) (.val BS)=some (.val (.bl false)):=nr rfl
@[simp] def cU:dr S BS=.val BS:=nr rfl
section
variable{a b c d e f:D}
@[simp] def jA:MG [a,b,c,d,e] (some (-4)) none=[b,c,d,e]:=nr rfl
@[simp] def iV:MG [a,b,c,d,e,f] (some (-4)) none=[c,d,e,f]:=nr rfl
@[simp] def ji:MG [a,b,c,d] (some 1) none=[b,c,d]:=nr rfl
@[simp] def jQ:MG [a,b,c,d,e] (some 1) (some 2)=[b]:=nr rfl
@[simp] def iK:MG [a,b,c,d,e,f] (some 1) (some 2)=[b]:=nr rfl
@[simp] def ie:jI S ds [.tup zs]=if ds.length+zs.length<=sizeLine then some (.non,ds++zs)else none:=nr rfl
end
theorem SAt.same(h:SAt S s l m as st)(g:Bt A S S')(hA:∀n∈A,n∉s::l::m::as):SAt S' s l m as st where
 root:=g.get h.root λz=>hA _ z (by simp)
 lo:=g.get h.lo λz=>hA _ z (by simp)
 nu:=g.get h.nu λz=>hA _ z (by simp)
 ld:=λi a x ha hx=>g.get (h.ld i a x ha hx) λz=>hA _ z (by simp[qo ha])
 len:=h.len
 nd:=h.nd
def SAt.XB(h:SAt S s l m as st)(g:Bt [] S S'):SAt S' s l m as st:=h.same g λ_ z=>(nomatch z)
def SAt.ne(h:SAt S s l m as st):s≠l/\s≠m/\l≠m/\s∉as/\l∉as/\m∉as/\as.Nodup:=by
 have:=h.nd
 simp only[uK,qY,xp]at this
 obtain⟨⟨a,b,c⟩,⟨d,e⟩,f,g⟩:=this
 exact⟨a,b,d,c,e,f,g⟩
def SAt.QZ(h:SAt S s l m as st)(ha:as[i]?=Gc a):SAt (S.set a (B0 y)) s l m as {st with AA:=st.AA.set i y}:=by
 obtain⟨n1,n2,n3,n4,n5,n6,n7⟩:=h.ne
 have ma:=qo ha
 have q1:a≠s:=λe=>n4 (e▸ma)
 have q2:a≠l:=λe=>n5 (e▸ma)
 have q3:a≠m:=λe=>n6 (e▸ma)
 have hi:i<as.length:=(qV.mp ha).1
 have hi':i<st.AA.length:=by rw[<-h.len];exact hi
 refine⟨by rw[qT q1];exact h.root,by rw[qT q2];exact h.lo,by rw[qT q3];exact h.nu,?_,by simp[h.len],h.nd⟩
 intro j b x hb hx
 by_cases e:i=j
 .subst e
  rw[ha]at hb
  cases hb
  have hx':(st.AA.set i y)[i]?=Gc x:=hx
  rw[qb hi']at hx'
  cases hx'
  have hl:a<S.length:=AX (h.ld i a _ ha (qZ hi'))
  exact qb hl
 .have hx':(st.AA.set i y)[j]?=Gc x:=hx
  rw[qT e]at hx'
  have:a≠b:=by
   intro z
   subst z
   exact e ((vJ hi n7).mp (ha.trans hb.symm))
  rw[qT this]
  exact h.ld j b x hb hx'
def SAt.lts(h:SAt S s l m as st):∀n∈s::l::m::as,n<S.length:=by
 intro n hn
 simp only[qY]at hn
 rcases hn with rfl|rfl|rfl|hn
 .exact AX h.root
 .exact AX h.lo
 .exact AX h.nu
 .obtain⟨i,hi⟩:=tW.mp hn
  have:i<st.AA.length:=by rw[<-h.len];exact(qV.mp hi).1
  exact AX (h.ld i n _ hi (qZ this))
def SAt.app(h:SAt S s l m as st) y:SAt ((S++[B0 y]).set l (.lst (as.map D.ref++[.ref S.length]))) s l m (as++[S.length]) {st with AA:=st.AA++[y]}:=by
 obtain⟨n1,n2,n3,n4,n5,n6,n7⟩:=h.ne
 have lt:=h.lts
 have ls:=lt s (by simp);have ll:=lt l (by simp);have lm:=lt m (by simp)
 have la:∀a∈as,a<S.length:=λa ha=>lt a (by simp[ha])
 refine⟨?_,?_,?_,?_,by simp[h.len],?_⟩
 .rw[qT (se n1),qQ ls];exact h.root
 .rw[qb (by simp;lia)];simp
 .rw[qT n3,qQ lm];exact h.nu
 .intro i a x ha hx
  by_cases e:i<as.length
  .rw[qQ e]at ha
   have hx':(st.AA++[y])[i]?=Gc x:=hx
   rw[qQ (by rw[<-h.len];exact e)]at hx'
   have ma:=qo ha
   rw[qT (show l≠a by rintro rfl;exact n5 ma),qQ (la a ma)]
   exact h.ld i a x ha hx'
  .have hx':(st.AA++[y])[i]?=Gc x:=hx
   have:i=as.length:=by
    have:=(qV.mp ha).1
    simp at this;lia
   subst this
   rw[qy]at ha
   cases ha
   rw[h.len,qy]at hx'
   cases hx'
   rw[qT (by lia),qy]
 .have:(s::l::m::(as++[S.length]))=(s::l::m::as)++[S.length]:=by simp
  rw[this,wB]
  refine⟨h.nd,by simp,?_⟩
  intro a ha b hb e
  simp only[qY,qp,sC]at hb
  have:=lt a ha
  lia
def SAt.hold(h:SAt S s l m as st) rs:SAt (S.set s (.lst [.ref l,shD rs,.ref m])) s l m as {st with hold:=rs}:=by
 obtain⟨n1,n2,n3,n4,n5,n6,n7⟩:=h.ne
 refine⟨qb (h.lts s (by simp)),by rw[qT n1];exact h.lo,by rw[qT n2];exact h.nu,?_,h.len,h.nd⟩
 intro i a x ha hx
 rw[qT (show s≠a by rintro rfl;exact n4 (qo ha))]
 exact h.ld i a x ha hx
def SAt.nums(h:SAt S s l m as st) us:SAt (S.set m (.lst (us.map D.int))) s l m as {st with nums:=us}:=by
 obtain⟨n1,n2,n3,n4,n5,n6,n7⟩:=h.ne
 refine⟨by rw[qT (se n2)];exact h.root,by rw[qT (se n3)];exact h.lo,qb (h.lts m (by simp)),?_,h.len,h.nd⟩
 intro i a x ha hx
 rw[qT (show m≠a by rintro rfl;exact n6 (qo ha))]
 exact h.ld i a x ha hx
def Oe{C:En}(h:SAt S s l m as st)(hi:C.length=i8)(hb:∀S' a x,x∈st.AA->S'[a]?=Gc (B0 x)->∃S2,body (C++[Gc (.ref a)]) S'=Gc (.nx,C++[Gc (.ref a)],S2.set a (B0 (f x)))/\Bt [] S' S2):∃o S',K1 [(l,as.map D.ref)] (tNm i8) body (as.map D.ref) (C++[o0]) S=Gc (.nx,C++[o],S')/\SAt S' s l m as {st with AA:=st.AA.map f}/\Bt as S S':=by
 obtain⟨E',S',e,i,o,i1,i2,rfl,i3,i4⟩:=J0 (gs:=[(l,as.map D.ref)]) (t:=tNm i8) (b:=body)
  (I:=λds E S'=>∃(i:Nat) (o:qR D),ds=(as.drop i).map D.ref/\i<=as.length/\E=C++[o]/\SAt S' s l m as {st with AA:=(st.AA.take i).map f++st.AA.drop i}/\Bt as S S')
  (λds E S' hI=>by obtain⟨i,o,_,_,_,h1,_⟩:=hI;exact h1.guard) (ds:=as.map D.ref) (E:=C++[o0]) (S:=S)
  ⟨0,o0,by simp,tP _,rfl,by simpa using h,.refl⟩ (by
    rintro d ds E S1 ⟨i,o,i1,i2,rfl,i3,i4⟩
    have hlt:i<as.length:=by
     rcases yT i as.length with w|w
     .exact w
     .rw[uP w]at i1;cases i1
    rw[sP hlt,qq]at i1
    injection i1 with e1 e2
    subst e1 e2
    have hl2:i<st.AA.length:=by rw[<-h.len];exact hlt
    have ha:=qZ hlt
    have hx:((st.AA.take i).map f++st.AA.drop i)[i]?=Gc st.AA[i]:=by
     rw[rR (by simp;lia)]
     simp[yX (uO hl2)]
    obtain⟨S2,e3,g3⟩:=hb S1 as[i] st.AA[i] (vV hl2) (i3.ld i _ _ ha hx)
    have k:=(i3.XB g3).QZ (y:=f st.AA[i]) ha
    refine⟨C++[Gc (.ref as[i])],C++[Gc (.ref as[i])],S2.set as[i] (B0 (f st.AA[i])),?_,e3,i+1,Gc (.ref as[i]),rfl,hlt,rfl,?_,?_⟩
    .rw[Zw]
     congr 1
     subst hi
     rw[yj _ _ (qW _)]
     simp
    .have:((st.AA.take i).map f++st.AA.drop i).set i (f st.AA[i])=(st.AA.take (i+1)).map f++st.AA.drop (i+1):=by
      rw[yj _ _ (by simp;lia)]
      have e0:i-((st.AA.take i).map f).length=0:=by simp;lia
      rw[e0,sP hl2,zX,List.take_succ_eq_append_getElem hl2,vF]
      simp
     rw[<-this]
     exact k
    .exact(i4.trans (g3.mono λ_ z=>(nomatch z))).trans (.set (vV hlt)))
 refine⟨o,S',e,?_,i4⟩
 have hz:i=as.length:=by
  have:=congrArg xf i1
  simp at this
  lia
 have:(st.AA.take i).map f++st.AA.drop i=st.AA.map f:=by
  rw[hz,h.len];simp
 rw[this]at i3
 exact i3
section
variable{S S':Sto}{s l m:Nat}{as:Wp Nat}{st:Stt}{t:Tr}{k:Nat}
def aG{i:Nat}{n:Int}{j:Nat}(hi:i<st.AA.length)(h:∀x∈st.AA,∀r∈x.ow,Sz j r):∀x∈less st.AA i n,∀r∈x.ow,Sz j r:=by
 intro x hx
 rcases JU hx hi with h1|h1
 .exact h x h1
 .rw[h1];exact h (AJ st.AA i) (AS hi)
def Sq{i:Nat}{n:Int}{j:Nat}(hi:i<st.AA.length)(h:∀x∈st.AA,x.ow.length=j):∀x∈less st.AA i n,x.ow.length=j:=by
 intro x hx
 rcases JU hx hi with h1|h1
 .exact h x h1
 .rw[h1];exact h (AJ st.AA i) (AS hi)
def WT(hS:SAt S s l m as st)(ht:G5 t)(h:EY t k st)(hk:k<=16){i:Nat}{n:Int}{ws:Wp Int}(hc:Can t st (.thr i n ws)):∃S',Em [t.d,.ref s,(AN.thr i n ws).d] S=Gc (.non,S')/\SAt S' s l m as (step t st (.thr i n ws))/\Bt (s::l::m::as) S S':=by
 obtain⟨hi,h1,h2,hl,hw⟩:=hc
 have cO:=aU hS ht h (by lia) hl hw hi h1 h2
 have cz:=TN ht h (by lia) hl hw hi h1 h2
 have sz:=h.sz
 obtain⟨a,a1,a2,a3⟩:=hS.at hi
 have hS1:=hS.QZ (y:=⟨(AJ st.AA i).k,(AJ st.AA i).n-n,(AJ st.AA i).ow⟩) a1
 have o1:=sz.1 _ (AS hi)
 have tp:=ht.2.1
 have hdef:step t st (.thr i n ws)={st with AA:=(less st.AA i n).map λx=>{x with ow:=F6 (Ik t st.AA i n ws) (AJ st.AA i).ow x.ow},hold:=F6 (Ik t st.AA i n ws) (AJ st.AA i).ow st.hold}:=rfl
 rw[hdef]
 generalize hX:Ik t st.AA i n ws=X at*
 obtain⟨o,S2,f1,f2,f3⟩:=Oe (f:=λx=>{x with ow:=F6 X (AJ st.AA i).ow x.ow}) (body:=Mh (AD Dt [eOp (o2 wIx) [eV 8,eC (.int 2)],eV 6,eV 7]) (eV 8) (eC (.int 2))) (C:=[Gc t.d,Gc (.ref s),Gc (AN.thr i n ws).d,Gc (.ref l),Gc (shD st.hold),Gc (.ref m),Gc (aD X),Gc (shD (AJ st.AA i).ow)]) (i8:=8) (o0:=none) hS1 rfl (by
  intro S' b x hx hb
  obtain⟨S2,e2,g2⟩:=Qt (S:=S') (x:=X) (ss:=x.ow) (os:=(AJ st.AA i).ow) (j:=30+170*k) (i:=145+k) (aG (n:=n) hi sz.1 x hx) o1 cz (by lia) (by rw[Sq (n:=n) hi h.own x hx];lia)
  have hb2:=g2.get hb (by simp)
  refine⟨S2,?_,g2⟩
  simp[As hb,B0,e2,AL hb2])
 obtain⟨S3,e3,g3⟩:=Qt (S:=S2) (x:=X) (ss:=st.hold) (os:=(AJ st.AA i).ow) (j:=30+170*k) (i:=145+k) sz.2 o1 cz (by lia) (by rw[h.hold];lia)
 have f4:=(f2.XB g3)
 have rt:=f4.root
 refine⟨S3.set s (.lst [.ref l,shD (F6 X (AJ st.AA i).ow st.hold),.ref m]),?_,f4.hold _,?_⟩
 .have f1':=f1
  simp only[rX,rH]at f1'
  have rt':EV S3 s=Gc [.ref l,shD st.hold,.ref m]:=AL rt
  have r0:=AL hS.root
  have lo:=As hS.lo
  have xx:=As a2
  have c2:=AL a2
  have sq1:=Iq hS1.lo
  simp only[B0]at f1' sq1 c2 xx
  simp only[AN.d]at f1' cO⊢
  simp[Em,Ju,r0,cO,lo,a3,xx,c2,sq1,f1',e3,rt']
 .have q1:Bt (s::l::m::as) S (S.set a (B0 ⟨(AJ st.AA i).k,(AJ st.AA i).n-n,(AJ st.AA i).ow⟩)):=.set (by simp[qo a1])
  exact((q1.trans (f3.mono λn hn=>by simp[hn])).trans (g3.mono λ_ z=>(nomatch z))).trans (.set (by simp))
def Uz(hS:SAt S s l m as st)(ht:G5 t)(h:EY t k st)(hk:k<=16){p q:Nat}{x:Rat}(hc:Can t st (.GN p q x)):∃S',Em [t.d,.ref s,(AN.GN p q x).d] S=Gc (.non,S')/\SAt S' s l m as (step t st (.GN p q x))/\Bt (s::l::m::as) S S':=by
 obtain⟨hpq,hp,hq,x1,x2,x3⟩:=hc
 have sz:=h.sz
 have hx:Sz 4 x:=by
  refine⟨?_,by lia⟩
  show x.num.natAbs<16
  lia
 have hdef:step t st (.GN p q x)={st with AA:=st.AA.map λy=>{y with ow:=E8 p q x y.ow},hold:=E8 p q x st.hold}:=rfl
 rw[hdef]
 obtain⟨o,S2,f1,f2,f3⟩:=Oe (f:=λy=>{y with ow:=E8 p q x y.ow}) (body:=Mh (AD Ek [eOp (o2 wIx) [eV 8,eC (.int 2)],eV 2]) (eV 8) (eC (.int 2))) (C:=[Gc t.d,Gc (.ref s),Gc (AN.GN p q x).d,Gc (.ref l),Gc (shD st.hold),Gc (.ref m),none,none]) (i8:=8) (o0:=none) hS rfl (by
  intro S' b y hy hb
  obtain⟨S2,e2,g2⟩:=Ul (S:=S') (p:=p) (q:=q) (x:=x) (ss:=y.ow) (j:=30+170*k) (i:=4) (sz.1 y hy) hx (by lia) (by rw[h.own y hy];exact hp) (by rw[h.own y hy];exact hq) hpq
  have hb2:=g2.get hb (by simp)
  refine⟨S2,?_,g2⟩
  simp[As hb,B0,e2,AL hb2])
 obtain⟨S3,e3,g3⟩:=Ul (S:=S2) (p:=p) (q:=q) (x:=x) (ss:=st.hold) (j:=30+170*k) (i:=4) sz.2 hx (by lia) (by rw[h.hold];exact hp) (by rw[h.hold];exact hq) hpq
 have f4:=(f2.XB g3)
 have rt:=f4.root
 refine⟨S3.set s (.lst [.ref l,shD (E8 p q x st.hold),.ref m]),?_,f4.hold _,?_⟩
 .have f1':=f1
  simp only[rX,rH]at f1'
  have rt':EV S3 s=Gc [.ref l,shD st.hold,.ref m]:=AL rt
  have r0:=AL hS.root
  have sq1:=Iq hS.lo
  simp only[AN.d]at f1' e3⊢
  simp[Em,Ju,r0,sq1,f1',e3,rt']
 .exact((f3.mono λn hn=>by simp[hn]).trans (g3.mono λ_ z=>(nomatch z))).trans (.set (by simp))
end
section
variable{S S':Sto}{s l m:Nat}{as:Wp Nat}{st:Stt}{t:Tr}{k:Nat}
theorem QG{ls:Wp Ld}{l:Nat}{n:Int}:less ls l n=ls.set l ⟨(AJ ls l).k,(AJ ls l).n-n,(AJ ls l).ow⟩:=rfl
def Qp{P p:Nat}{cond:Int}{C:En}{dd:D}{f:Ev}(hP:P<=50)(hf:∀(i:Nat),f [Gc dd,Gc (.int i)] S=Gc (aD (if i=p then 1 else 0),S)):Bj [] (tNm 1) Bk f (OL 0 P) [] [Gc dd,none] S=Gc ((Qv P p).map aD,S):=by
 have:=Dd (gs:=[]) (t:=tNm 1) (f:=f) (C:=[Gc dd]) (m:=1) (e:=λi:Nat=>D.int (0+(i:Int))) (g:=λi=>aD (if i=p then 1 else 0)) (S:=S) Ac (xs:=sY P) (acc:=[]) (os:=[none]) rfl (qU (show _<=50 by simp;lia) (AK (by decide))) (by
  intro i _ os ho
  obtain⟨o,rfl⟩:=QY ho
  refine⟨[Gc (.int i)],rfl,by simp,hf i⟩)
 simp only[rX,rH]at this
 rw[Qv,sI]
 exact this
inductive DoB(t:Tr)(S:Sto)(s l m:Nat)(as:Wp Nat)(st:Stt)(d:AN):Prop
 |mk (S':Sto) (as':Wp Nat) (e:Dh [t.d,.ref s,d.d] S=Gc (.non,S')) (h:SAt S' s l m as' (step t st d)) (g:Bt (s::l::m::as) S S') (f:∀n∈as',n∈as\/S.length<=n)
def WR(hS:SAt S s l m as st)(ht:G5 t)(h:EY t k st)(hk:k<=16){p kd:Nat}{n:Int}(hc:Can t st (.DQ p kd n)):DoB t S s l m as st (.DQ p kd n):=by
 have tp:=ht.2.1
 have e:=Qp (S:=S) (P:=t.p) (p:=p) (cond:=0) (C:=[]) (dd:=(AN.DQ p kd n).d) (f:=Bh [eOp (o1 Xy) [eOp (o2 wEq) [eV 1,eOp (o2 wIx) [eV 0,eC (.int 1)]]],eC (.int 1)]) (by lia) (by
  intro i
  by_cases hi:i=p
  .subst hi;simp[AN.d];rfl
  .have:((i:Int)==(p:Int))=false:=by simp;lia
   simp[AN.d,this,hi];rfl)
 have rn:MA (t.p:Int)=true:=Ga (by lia) (by lia)
 have hz:as.length<sizeLine:=qS (show as.length<50 by rw[hS.len];have:=h.len;lia) (AK (by decide))
 refine⟨_,_,?_,hS.app ⟨kd,n,Qv t.p p⟩,?_,?_⟩
 .have r0:=AL hS.root
  have c0:=AL hS.lo
  have c1:EV (S++[B0 ⟨kd,n,Qv t.p p⟩]) l=Gc (as.map D.ref):=AL (by rw[qQ (AX hS.lo)];exact hS.lo)
  simp only[B0]at c1⊢
  simp only[AN.d]at e⊢
  simp[Dh,Fi,r0,Tr.d,rn,e,c0,shD]at c1⊢
  simp[c1,hz]
 .exact Bt.app.trans (.set (by simp))
 .intro n hn
  rcases rE.mp hn with w|w
  .exact .inl w
  .simp at w;exact .inr (by lia)
def XJ(hS:SAt S s l m as st)(ht:G5 t)(h:EY t k st)(hk:k<=16){i:Nat}{n:Int}(hc:Can t st (.Dj i n)):DoB t S s l m as st (.Dj i n):=by
 obtain⟨hi,h1,h2⟩:=hc
 obtain⟨a,a1,a2,a3⟩:=hS.at hi
 refine⟨_,as,?_,hS.QZ (y:=⟨(AJ st.AA i).k,(AJ st.AA i).n-n,(AJ st.AA i).ow⟩) a1,.set (by simp[qo a1]),λn hn=>.inl hn⟩
 have r0:=AL hS.root
 have lo:=As hS.lo
 have xx:=As a2
 have c2:=AL a2
 simp only[B0]at c2 xx⊢
 simp[Dh,Fi,AN.d,r0,lo,a3,xx,c2]
def dD(hS:SAt S s l m as st)(ht:G5 t)(h:EY t k st)(hk:k<=16){i:Nat}{n:Int}{ws:Wp Int}(hc:Can t st (.thr i n ws)):DoB t S s l m as st (.thr i n ws):=by
 obtain⟨S',e,g1,g2⟩:=WT hS ht h hk hc
 refine⟨S',as,?_,g1,g2,λn hn=>.inl hn⟩
 have r0:=AL hS.root
 simp only[AN.d]at e⊢
 simp[Dh,Fi,r0,e]
def Y7(hS:SAt S s l m as st)(ht:G5 t)(h:EY t k st)(hk:k<=16){p q:Nat}{x:Rat}(hc:Can t st (.GN p q x)):DoB t S s l m as st (.GN p q x):=by
 obtain⟨S',e,g1,g2⟩:=Uz hS ht h hk hc
 refine⟨S',as,?_,g1,g2,λn hn=>.inl hn⟩
 have r0:=AL hS.root
 simp only[AN.d]at e⊢
 simp[Dh,Fi,r0,e]
def bW(hS:SAt S s l m as st)(ht:G5 t)(h:EY t k st)(hk:k<=16){i kd:Nat}{g n:Int}(hc:Can t st (.swap i g kd n)):DoB t S s l m as st (.swap i g kd n):=by
 obtain⟨hi,h1,h2,h3,h4,h5,h6⟩:=hc
 obtain⟨a,a1,a2,a3⟩:=hS.at hi
 have hS1:=hS.QZ (y:=⟨(AJ st.AA i).k,(AJ st.AA i).n-g,(AJ st.AA i).ow⟩) a1
 have hS2:=hS1.app ⟨kd,n,(AJ st.AA i).ow⟩
 have hz:as.length<sizeLine:=qS (show as.length<50 by rw[hS.len];have:=h.len;lia) (AK (by decide))
 have hz2:st.nums.length<=sizeLine:=qU (show _<=20 by have:=h.nm;lia) (AK (by decide))
 refine⟨_,_,?_,hS2,?_,?_⟩
 .have r0:=AL hS.root
  have lo:=As hS.lo
  have xx:=As a2
  have c2:=AL a2
  have lo1:=As hS1.lo
  have co1:=AL hS1.lo
  have x1:=As (qb (a:=B0 ⟨(AJ st.AA i).k,(AJ st.AA i).n-g,(AJ st.AA i).ow⟩) (AX a2))
  have c4:EV ((S.set a (B0 ⟨(AJ st.AA i).k,(AJ st.AA i).n-g,(AJ st.AA i).ow⟩))++[B0 ⟨kd,n,(AJ st.AA i).ow⟩]) l=Gc (as.map D.ref):=AL (by rw[qQ (AX hS1.lo)];exact hS1.lo)
  have nu:=hS2.nu
  have c5:=AL nu
  have st5:∀{T:Sto},T[m]?=Gc (.lst (st.nums.map D.int))->T.set m (.lst (st.nums.map D.int))=T:=λh=>set_same h
  have st6:=st5 nu
  simp only[B0]at c2 xx lo1 co1 x1 c4 c5 st6⊢
  have hz':(as.map D.ref).length<sizeLine:=by simpa using hz
  generalize (as.map D.ref)=refs at*
  simp[Dh,Fi,AN.d,r0,lo,a3,xx,c2,lo1,x1,co1]at c4 c5 st6⊢
  simp[c4,hz',c5,hz2,st6]
 .exact((Bt.set (by simp[qo a1])).trans .app).trans (.set (by simp))
 .intro n hn
  rcases rE.mp hn with w|w
  .exact .inl w
  .simp at w;exact .inr (by lia)
def Wy(hS:SAt S s l m as st)(ht:G5 t)(h:EY t k st)(hk:k<=16){i kd:Nat}{u g n:Int}(hc:Can t st (.Ck u i g kd n)):DoB t S s l m as st (.Ck u i g kd n):=by
 obtain⟨hi,h1,h2,h3,h4,h5,h6,h7,h8⟩:=hc
 obtain⟨a,a1,a2,a3⟩:=hS.at hi
 have hS1:=hS.QZ (y:=⟨(AJ st.AA i).k,(AJ st.AA i).n-g,(AJ st.AA i).ow⟩) a1
 have hS2:=hS1.app ⟨kd,n,(AJ st.AA i).ow⟩
 have hz:as.length<sizeLine:=qS (show as.length<50 by rw[hS.len];have:=h.len;lia) (AK (by decide))
 have hz2:st.nums.length+1<=sizeLine:=qU (show _<=20 by have:=h.nm;lia) (AK (by decide))
 refine⟨_,_,?_,hS2.nums (st.nums++[u]),?_,?_⟩
 .have r0:=AL hS.root
  have lo:=As hS.lo
  have xx:=As a2
  have c2:=AL a2
  have lo1:=As hS1.lo
  have co1:=AL hS1.lo
  have x1:=As (qb (a:=B0 ⟨(AJ st.AA i).k,(AJ st.AA i).n-g,(AJ st.AA i).ow⟩) (AX a2))
  have c4:EV ((S.set a (B0 ⟨(AJ st.AA i).k,(AJ st.AA i).n-g,(AJ st.AA i).ow⟩))++[B0 ⟨kd,n,(AJ st.AA i).ow⟩]) l=Gc (as.map D.ref):=AL (by rw[qQ (AX hS1.lo)];exact hS1.lo)
  have nu:=hS2.nu
  have c5:=AL nu
  simp only[B0]at c2 xx lo1 co1 x1 c4 c5⊢
  have hz':(as.map D.ref).length<sizeLine:=by simpa using hz
  generalize (as.map D.ref)=refs at*
  simp[Dh,Fi,AN.d,r0,lo,a3,xx,c2,lo1,x1,co1]at c4 c5⊢
  simp[c4,hz',c5,hz2]
 .exact(((Bt.set (by simp[qo a1])).trans .app).trans (.set (by simp))).trans (.set (by simp))
 .intro n hn
  rcases rE.mp hn with w|w
  .exact .inl w
  .simp at w;exact .inr (by lia)
def bP(hS:SAt S s l m as st)(ht:G5 t)(h:EY t k st)(hk:k<=16){i j:Nat}(hc:Can t st (.Hr i j)):DoB t S s l m as st (.Hr i j):=by
 obtain⟨hij,hi,hj,h1,h2,h3⟩:=hc
 obtain⟨a,a1,a2,a3⟩:=hS.at hi
 obtain⟨b,b1,b2,b3⟩:=hS.at hj
 have sz:=h.sz
 have pi:=h.pcs _ (AS hi)
 have pj:=h.pcs _ (AS hj)
 obtain⟨S1,e1,g1⟩:=Sj (S:=S) (x:=AJ st.AA i) (y:=AJ st.AA j) (j:=30+170*k) (i:=131+k) a2 b2 (sz.1 _ (AS hi)) (sz.1 _ (AS hj)) (FA pi.1 pi.2) (FA pj.1 pj.2) (by lia) (by lia) (by lia) (by rw[h.own _ (AS hi)];have:=ht.2.1;lia)
 have hS1:=hS.XB g1
 have hab:a≠b:=by
  rintro rfl
  exact hij ((vJ (qV.mp a1).1 hS.ne.2.2.2.2.2.2).mp (a1.trans b1.symm))
 have hS2:=hS1.app ⟨(AJ st.AA i).k,(AJ st.AA i).n+(AJ st.AA j).n,Bv (AJ st.AA i).n (AJ st.AA j).n (AJ st.AA i).ow (AJ st.AA j).ow⟩
 have ai:i<as.length:=(qV.mp a1).1
 have bj:j<as.length:=(qV.mp b1).1
 have a1':(as++[S1.length])[i]?=Gc a:=by rw[qQ ai];exact a1
 have b1':(as++[S1.length])[j]?=Gc b:=by rw[qQ bj];exact b1
 have hS3:=hS2.QZ (y:=⟨(AJ st.AA i).k,0,(AJ st.AA i).ow⟩) a1'
 have hS4:=hS3.QZ (y:=⟨(AJ st.AA j).k,0,(AJ st.AA j).ow⟩) b1'
 have hz:as.length<sizeLine:=qS (show as.length<50 by rw[hS.len];have:=h.len;lia) (AK (by decide))
 have est:step t st (.Hr i j)={st with AA:=((st.AA++[Ld.mk (AJ st.AA i).k ((AJ st.AA i).n+(AJ st.AA j).n) (Bv (AJ st.AA i).n (AJ st.AA j).n (AJ st.AA i).ow (AJ st.AA j).ow)]).set i ⟨(AJ st.AA i).k,0,(AJ st.AA i).ow⟩).set j ⟨(AJ st.AA j).k,0,(AJ st.AA j).ow⟩}:=by
  have e0:AJ (less st.AA i (AJ st.AA i).n) j=AJ st.AA j:=by
   unfold AJ less
   rw[qu,qT hij,<-qu]
  have e1:less st.AA i (AJ st.AA i).n=st.AA.set i ⟨(AJ st.AA i).k,0,(AJ st.AA i).ow⟩:=by
   unfold less
   rw[yJ]
  have e2:less (less st.AA i (AJ st.AA i).n) j (AJ st.AA j).n=(st.AA.set i ⟨(AJ st.AA i).k,0,(AJ st.AA i).ow⟩).set j ⟨(AJ st.AA j).k,0,(AJ st.AA j).ow⟩:=by
   rw[QG (ls:=less st.AA i (AJ st.AA i).n),e0,yJ,e1]
  show{st with AA:=less (less st.AA i (AJ st.AA i).n) j (AJ st.AA j).n++_}=_
  rw[e2,y8 _ _ hi,y8 _ _ (by simpa using hj)]
 refine⟨_,_,?_,est▸hS4,?_,?_⟩
 .have r0:=AL hS.root
  have lo:=As hS.lo
  have c0:=AL hS.lo
  have xa:=As a2
  have xb:=As b2
  have c1:=AL hS1.lo
  have c4:EV (S1++[B0 ⟨(AJ st.AA i).k,(AJ st.AA i).n+(AJ st.AA j).n,Bv (AJ st.AA i).n (AJ st.AA j).n (AJ st.AA i).ow (AJ st.AA j).ow⟩]) l=Gc (as.map D.ref):=AL (by rw[qQ (AX hS1.lo)];exact hS1.lo)
  have c5:=AL (hS2.ld i a (AJ st.AA i) a1' (by show(st.AA++_)[i]?=_;rw[qQ hi];exact Ed hi))
  have c6:=AL (hS3.ld j b (AJ st.AA j) b1' (by show((st.AA++_).set i _)[j]?=_;rw[qT hij,qQ hj];exact Ed hj))
  simp only[B0]at xa xb c4 c5 c6⊢
  have hz':(as.map D.ref).length<sizeLine:=by simpa using hz
  generalize (as.map D.ref)=refs at*
  generalize Bv (AJ st.AA i).n (AJ st.AA j).n (AJ st.AA i).ow (AJ st.AA j).ow=pr at*
  simp[Dh,Fi,AN.d,r0,lo,a3,b3,xa,xb,c0,e1]at c4 c5 c6⊢
  simp[c4,hz',c5,c6]
 .exact(((g1.mono λ_ z=>(nomatch z)).trans .app).trans (.set (by simp))).trans ((Bt.set (by simp[qo a1])).trans (.set (by simp[qo b1])))
 .intro n hn
  rcases rE.mp hn with w|w
  .exact .inl w
  .simp at w;subst w;exact .inr g1.len
def jz(hS:SAt S s l m as st)(ht:G5 t)(h:EY t k st)(hk:k<=16){d:AN}(hc:Can t st d):DoB t S s l m as st d:=by
 cases d with
 |DQ=>exact WR hS ht h hk hc
 |Hr=>exact bP hS ht h hk hc
 |swap=>exact bW hS ht h hk hc
 |Ck=>exact Wy hS ht h hk hc
 |Dj=>exact XJ hS ht h hk hc
 |thr=>exact dD hS ht h hk hc
 |GN=>exact Y7 hS ht h hk hc
end
section
variable{st:Stt}{t:Tr}{k:Nat}
def Dl{a b:Nat}(h:a<=b):2^a<=2^b:=rO (by decide) h
def LC{a b:Nat}(h:a<=b):(2:Int)^a<=2^b:=by
 have:=Dl h
 exact_mod_cast this
def Es{c:Int}(h:0<=c):((c.toNat:Nat):Rat)=(c:Rat):=by
 have:((c.toNat:Nat):Int)=c:=rm h
 have:(((c.toNat:Nat):Int):Rat)=(c:Rat):=by rw[this]
 exact this
def VD{B T k j:Nat}(hB:B<2^(30+170*k))(hT:T<2^j)(hj:j<=170):B*T<2^(30+170*(k+1)):=by
 have:=Bm hB hT
 exact qS this (Dl (by lia))
def fQ{G B P p:Nat}(h:G<=B):∀r∈Qv P p,Ok G B r:=by
 intro r hr
 obtain⟨i,_,rfl⟩:=rS.mp hr
 split
 .exact Ok.one h
 .exact Ok.zero
def VC{G B:Nat}{n m:Int}{ss os:Wp Rat}(hn:0<n)(hm:0<m)(hs:∀r∈ss,Ok G B r)(ho:∀r∈os,Ok G B r):∀r∈Bv n m ss os,Ok (G*(n+m).toNat) (B*(n+m).toNat) r:=by
 intro r hr
 unfold Bv at hr
 rw[tW]at hr
 obtain⟨i,hi'⟩:=hr
 rw[u9]at hi'
 obtain⟨x,y,hx,hy,rfl⟩:=hi'
 have:=Ok.mix (a:=n.toNat) (b:=m.toNat) (t:=(n+m).toNat) (hs x (qo hx)) (ho y (qo hy)) (by lia) (by lia)
 rwa [Es (by lia),Es (by lia),Es (by lia)]at this
def VM{G B p q:Nat}{x:Rat}{ss:Wp Rat}(hp:p<ss.length)(hq:q<ss.length)(x1:0<x.num)(x2:x.num<=x.den)(hs:∀r∈ss,Ok G B r):∀r∈E8 p q x ss,Ok (G*x.den) (2*B*x.den) r:=by
 have dp:=x.den_pos
 have hsp:=hs _ (getD_mem (d:=0) hp)
 have hsq:=hs _ (getD_mem (d:=0) hq)
 have xs:=Ce x
 have ex:(x.num:Rat)=((x.num.toNat:Nat):Rat):=(Es (by lia)).symm
 have nz:=G9 x
 intro r hr
 unfold E8 at hr
 rcases ue hr with hr|hr
 .rcases ue hr with hr|hr
  .exact(hs r hr).up (by rw[ur];lia)
  .rw[hr]
   obtain⟨z,e,hz⟩:=Ok.mix (a:=x.den-x.num.toNat) (b:=x.num.toNat) (t:=x.den) hsp (Ok.zero (G:=G) (B:=B)) (by lia) dp
   refine⟨z,?_,qU hz (by rw[ur];lia)⟩
   rw[<-e]
   have e2:((x.den-x.num.toNat:Nat):Rat)=(x.den:Rat)-(x.num:Rat):=by
    have:(((x.den-x.num.toNat:Nat):Int):Rat)=((x.den-x.num:Int):Rat):=by
     congr 1;rw[Int.natCast_sub (Int.toNat_le.mpr x2),rm (vA x1)]
    push_cast at this
    exact this
   rw[e2]
   generalize ss.getD p 0=sp at*
   congr 1
   grind
 .rw[hr]
  obtain⟨z,e1,hz⟩:=hsp
  obtain⟨y,e2,hy⟩:=hsq
  refine⟨y*x.den+z*x.num.toNat,?_,?_⟩
  .generalize ss.getD p 0=sp at*
   generalize ss.getD q 0=sq at*
   push_cast
   rw[<-ex,<-e1,<-e2]
   grind
  .have h1:y*x.den<=B*x.den:=rP _ hy
   have h2:z*x.num.toNat<=B*x.den:=uX hz (by lia)
   rw[ur];lia
def FQ{f:Rat->Rat->Rat}{a b:Wp Rat}{n:Nat}(h:a.length=n)(g:b.length=n):(wH f a b).length=n:=by rw[List.length_zipWith,h,g];lia
def Hn{P:Ld->Prop}{i:Nat}{n:Int}(hi:i<st.AA.length)(h:∀x∈st.AA,P x)(g:P ⟨(AJ st.AA i).k,(AJ st.AA i).n-n,(AJ st.AA i).ow⟩):∀x∈less st.AA i n,P x:=by
 intro x hx
 rcases JU hx hi with h1|h1
 .exact h x h1
 .rw[h1];exact g
def Nt{P:Ld->Prop}{ls:Wp Ld}{y:Ld}(h:∀x∈ls,P x)(g:P y):∀x∈ls++[y],P x:=by
 intro x hx
 rcases rE.mp hx with w|w
 .exact h x w
 .simp at w;rw[w];exact g
structure LOk(t:Tr)(k G B:Nat)(x:Ld):Prop where
 kd:x.k<t.k
 n0:0<=x.n
 n1:x.n<2^(131+k)
 own:x.ow.length=t.p
 ok:∀r∈x.ow,Ok G B r
def LOk.up{G B T B':Nat}{x:Ld}(h:LOk t k G B x)(hT:B*T<=B'):LOk t (k+1) (G*T) B' x:=⟨h.kd,h.n0,uY h.n1 (LC (by lia)),h.own,λr hr=>(h.ok r hr).up hT⟩
def LOk.up1{G B:Nat}{x:Ld}(h:LOk t k G B x):LOk t (k+1) G B x:=⟨h.kd,h.n0,uY h.n1 (LC (by lia)),h.own,h.ok⟩
def LOk.less{G B:Nat}{x:Ld}{n:Int}(h:LOk t k G B x)(h0:0<=n)(h1:n<=x.n):LOk t k G B ⟨x.k,x.n-n,x.ow⟩:=⟨h.kd,show 0<=x.n-n by lia,show x.n-n<_ by have:=h.n1;lia,h.own,h.ok⟩
structure SIG(t:Tr)(k G B:Nat)(st:Stt):Prop where
 of::
 len:st.AA.length<=4+k
 lok:∀x∈st.AA,LOk t k G B x
 hold:st.hold.length=t.p
 nm:st.nums.length<=k
 g0:0<G
 gb:G<=B
 bb:B<2^(30+170*k)
 hok:∀r∈st.hold,Ok G B r
def SIG.inv{G B:Nat}(h:SIG t k G B st):EY t k st:=⟨h.len,λx hx=>(h.lok x hx).kd,λx hx=>⟨(h.lok x hx).n0,(h.lok x hx).n1⟩,λx hx=>(h.lok x hx).own,h.hold,h.nm,G,B,h.g0,h.gb,h.bb,λx hx=>(h.lok x hx).ok,h.hok⟩
def EY.sig(h:EY t k st):∃G B,SIG t k G B st:=by
 obtain⟨G,B,g0,g1,g2,hl,hh⟩:=h.gb
 exact⟨G,B,h.len,λx hx=>⟨h.kind x hx,(h.pcs x hx).1,(h.pcs x hx).2,h.own x hx,hl x hx⟩,h.hold,h.nm,g0,g1,g2,hh⟩
def EY.of{G B:Nat}(h1:st.AA.length<=4+k)(h2:∀x∈st.AA,LOk t k G B x)(h3:st.hold.length=t.p)(h4:st.nums.length<=k)(g0:0<G)(g1:G<=B)(g2:B<2^(30+170*k))(h5:∀r∈st.hold,Ok G B r):EY t k st:=⟨h1,λx hx=>(h2 x hx).kd,λx hx=>⟨(h2 x hx).n0,(h2 x hx).n1⟩,λx hx=>(h2 x hx).own,h3,h4,G,B,g0,g1,g2,λx hx=>(h2 x hx).ok,h5⟩
def cB{n:Int}(h:n<2^131):n<2^(131+k):=uY h (LC (by lia))
def Q7{G B:Nat}(ht:G5 t)(hs:SIG t k G B st)(hk:k<=16){d:AN}(hc:Can t st d):∃T G' B',G'=G*T/\0<T/\B*T<=B'/\B'<=B*2^161/\SIG t (k+1) G' B' (step t st d):=by
 obtain⟨_,L,_,_,g0,g1,g2,hh⟩:=id hs
 have h:=hs.inv
 have g2':B<2^(30+170*(k+1)):=qS g2 (Dl (by lia))
 have hlen:=h.len
 have hnm:=h.nm
 cases d with
 |DQ p kd n=>
  obtain⟨h1,h2,h3,h4⟩:=hc
  refine⟨1,G,B,(ui _).symm,by decide,by rw[ui];exact qW _,uy _ (by decide),?_⟩
  refine SIG.of (by simp[step];lia) (Nt (λx hx=>(L x hx).up1) ⟨h2,by show 0<=n;lia,cB h4,by simp[Qv],fQ g1⟩) h.hold (uj hnm) g0 g1 g2' hh
 |Hr i j=>
  obtain⟨hij,hi,hj,h1,h2,h3⟩:=hc
  have li:=L _ (AS hi)
  have lj:=L _ (AS hj)
  have tl:((AJ st.AA i).n+(AJ st.AA j).n).toNat<2^(132+k):=by
   have a:=li.n1;have b:=lj.n1
   have e:(2:Int)^(132+k)=2^(131+k)*2:=by rw[show 132+k=(131+k)+1 by lia,Int.pow_succ]
   have:(((AJ st.AA i).n+(AJ st.AA j).n).toNat:Int)<((2^(132+k):Nat):Int):=by
    rw[rm (by lia)]
    push_cast
    rw[e];lia
   exact_mod_cast this
  have t0:0<((AJ st.AA i).n+(AJ st.AA j).n).toNat:=by lia
  refine⟨((AJ st.AA i).n+(AJ st.AA j).n).toNat,G*((AJ st.AA i).n+(AJ st.AA j).n).toNat,B*((AJ st.AA i).n+(AJ st.AA j).n).toNat,rfl,t0,qW _,uM _ (uO (qS tl (Dl (by lia)))),?_⟩
  refine SIG.of (by simp[step,C0];lia) (Nt ?_ ⟨li.kd,by show 0<=(AJ st.AA i).n+(AJ st.AA j).n;lia,?_,?_,VC h1 h2 li.ok lj.ok⟩) h.hold (uj hnm) (vQ g0 t0) (rP _ g1) (VD g2 tl (by lia)) (λr hr=>(hh r hr).up (qW _))
  .have e0:AJ (less st.AA i (AJ st.AA i).n) j=AJ st.AA j:=by
    unfold AJ less
    rw[qu,qT hij,<-qu]
   have A:=Hn (P:=LOk t (k+1) (G*((AJ st.AA i).n+(AJ st.AA j).n).toNat) (B*((AJ st.AA i).n+(AJ st.AA j).n).toNat)) (n:=(AJ st.AA i).n) hi (λx hx=>(L x hx).up (qW _)) ((li.up (qW _)).less (by lia) (Int.le_refl _))
   have A2:=Hn (st:={st with AA:=less st.AA i (AJ st.AA i).n}) (i:=j) (n:=(AJ st.AA j).n) (by simpa[C0]using hj) A (by
    show LOk _ _ _ _ ⟨(AJ (less st.AA i (AJ st.AA i).n) j).k,(AJ (less st.AA i (AJ st.AA i).n) j).n-_,(AJ (less st.AA i (AJ st.AA i).n) j).ow⟩
    rw[e0]
    exact(lj.up (qW _)).less (by lia) (Int.le_refl _))
   exact A2
  .show(AJ st.AA i).n+(AJ st.AA j).n<2^(131+(k+1))
   have a:=li.n1;have b:=lj.n1
   rw[show 131+(k+1)=(131+k)+1 by lia,Int.pow_succ];lia
  .exact FQ li.own lj.own
 |swap i g kd n=>
  obtain⟨hi,h1,h2,h3,h4,h5,h6⟩:=hc
  have li:=L _ (AS hi)
  refine⟨1,G,B,(ui _).symm,by decide,by rw[ui];exact qW _,uy _ (by decide),?_⟩
  refine SIG.of (by simp[step,C0];lia) (Nt (Hn hi (λx hx=>(L x hx).up1) (li.up1.less (by lia) h2)) ⟨h3,by show 0<=n;lia,cB h6,li.own,li.ok⟩) h.hold (uj hnm) g0 g1 g2' hh
 |Ck u i g kd n=>
  obtain⟨hi,h1,h2,h3,h4,h5,h6,h7⟩:=hc
  have li:=L _ (AS hi)
  refine⟨1,G,B,(ui _).symm,by decide,by rw[ui];exact qW _,uy _ (by decide),?_⟩
  refine SIG.of (by simp[step,C0];lia) (Nt (Hn hi (λx hx=>(L x hx).up1) (li.up1.less (by lia) h2)) ⟨h3,by show 0<=n;lia,cB h6,li.own,li.ok⟩) h.hold (by simp[step];lia) g0 g1 g2' hh
 |Dj i n=>
  obtain⟨hi,h1,h2⟩:=hc
  have li:=L _ (AS hi)
  refine⟨1,G,B,(ui _).symm,by decide,by rw[ui];exact qW _,uy _ (by decide),?_⟩
  refine SIG.of (by simp[step,C0];lia) (Hn hi (λx hx=>(L x hx).up1) (li.up1.less (by lia) h2)) h.hold (uj hnm) g0 g1 g2' hh
 |thr i n ws=>
  obtain⟨hi,h1,h2,h3,h4⟩:=hc
  have li:=L _ (AS hi)
  have W:=JB ht h (by lia) h3 h4
  have wl:(Dp t st.AA ws).toNat<2^(145+k):=by
   have:((Dp t st.AA ws).toNat:Int)<((2^(145+k):Nat):Int):=by
    rw[rm (by lia)];push_cast;exact W.2
   exact_mod_cast this
  have bo:=λ{ss:Wp Rat} (hs:∀r∈ss,Ok G B r)=>Ss ht h (by lia) h3 h4 hi h1 h2 li.ok hs
  refine⟨(Dp t st.AA ws).toNat,G*(Dp t st.AA ws).toNat,B*(Dp t st.AA ws).toNat,rfl,by lia,qW _,uM _ (uO (qS wl (Dl (by lia)))),?_⟩
  refine SIG.of (by simp[step,C0];lia) ?_ (FQ h.hold li.own) (uj hnm) (vQ g0 (by lia)) (rP _ g1) (VD g2 wl (by lia)) (bo hh)
  intro x hx
  obtain⟨y,hy,rfl⟩:=rS.mp hx
  have ly:=Hn (P:=LOk t k G B) hi L (li.less (n:=n) (by lia) h2) y hy
  exact⟨ly.kd,ly.n0,ly.up1.n1,FQ ly.own li.own,bo ly.ok⟩
 |GN p q x=>
  obtain⟨h1,h2,h3,h4,h5,h6⟩:=hc
  have dp:=x.den_pos
  refine⟨x.den,G*x.den,2*B*x.den,rfl,dp,rP _ (by lia),by
   rw[show 2*B*x.den=B*(2*x.den) by rw[<-ur,uB 2 B]]
   exact uM _ (qU (show 2*x.den<=24 by lia) (by decide)),?_⟩
  refine SIG.of (by simp[step];lia) ?_ (by simp[step,E8,h.hold]) (uj hnm) (vQ g0 dp) (rP _ (by lia)) ?_ (VM (by rw[h.hold];exact h2) (by rw[h.hold];exact h3) h4 h5 hh)
  .intro y hy
   obtain⟨z,hz,rfl⟩:=rS.mp hy
   have lz:=L z hz
   exact⟨lz.kd,lz.n0,lz.up1.n1,by simp[E8,lz.own],VM (by rw[lz.own];exact h2) (by rw[lz.own];exact h3) h4 h5 lz.ok⟩
  .have:=VD (B:=B) (T:=2*x.den) (j:=5) g2 (by lia) (by lia)
   rw[show 2*B*x.den=B*(2*x.den) by rw[<-ur,uB 2 B]]
   exact this
def K0(ht:G5 t)(h:EY t k st)(hk:k<=16){d:AN}(hc:Can t st d):EY t (k+1) (step t st d):=by
 obtain⟨G,B,hs⟩:=h.sig
 obtain⟨_,_,_,_,_,_,_,z⟩:=Q7 ht hs hk hc
 exact z.inv
end
theorem Gg{α:Type}{f:α->D}:∀{xs:Wp α},(∀x∈xs,(f x).lay=true)->D.OH (xs.map f)=true
 | [],_=>rfl
 |x::xs,h=>by
  show((f x).lay && D.OH (xs.map f))=true
  rw[h x qh,Gg λy hy=>h y (qa _ hy)]
  rfl
def WS(h:D.OH ds=true):Iz (.lst ds) (.lst [])=true:=by
 unfold Iz
 show(D.OH ds && true && _)=true
 rw[h]
 simp only[Bool.true_and,sx]
 exact qU (vT _ _) (by decide)
noncomputable def GJ(is:Wp Nat):Wp D:=is.map λ(i:Nat)=>D.int i
def LQ:Iz (.lst (GJ is)) (.lst [])=true:=WS (Gg λ_ _=>rfl)
theorem XA:deq (.lst (d::ds)) (.lst [])=false:=rfl
theorem av:deq (.lst []) (.lst [])=true:=rfl
def N1:deq (.lst (GJ is)) (.lst [])=is.isEmpty:=by
 cases is with
 |nil=>exact av
 |cons i is=>exact XA
def OU:N9 0 ds=(sY ds.length).map λ(i:Nat)=>D.tup [.int i,ds.getD i .non]:=by
 apply xl
 intro i
 rw[Ks,qw]
 by_cases h:i<ds.length
 .rw[qZ h,List.getElem?_range h]
  simp[qZ h]
 .rw[yk (by lia),yk (by simp;lia)]
  rfl
def JA:(GJ is).length=is.length:=by simp[GJ]
def Ll(h0:0<=r)(h1:r<is.length):∃i∈is,atI (GJ is) r=Gc (.int (i:Nat)):=by
 have h2:r.toNat<is.length:=by lia
 refine⟨is[r.toNat],vV h2,?_⟩
 have:=YB (xs:=GJ is) h0 (by rw[JA];exact h1)
 rw[this]
 simp[GJ]
def VH{x K:Int}(h0:0<=x)(h1:x<2*K):x % K=if x<K then x else x-K:=by
 split
 .exact Int.emod_eq_of_lt h0 (by assumption)
 .have:x % K=(x-K) % K:=by rw[Int.sub_emod_right]
  rw[this]
  exact Int.emod_eq_of_lt (by lia) (by lia)
noncomputable def B7(st:Stt):Wp Nat:=(sY st.AA.length).filter λi=>decide (0<(AJ st.AA i).n)
def aC(hS:SAt S s l m as st)(hl:st.AA.length<=50):Bj [(l,as.map D.ref)] (tTp [tNm 0,tNm 1]) (eOp (o2 wGt) [eOp (o2 wIx) [eV 1,eC (.int 1)],eC (.int 0)]) (eV 0) (N9 0 (as.map D.ref)) [] [none,none] S=Gc (GJ (B7 st),S):=by
 have:=FL (gs:=[(l,as.map D.ref)]) (t:=tTp [tNm 0,tNm 1]) (c:=eOp (o2 wGt) [eOp (o2 wIx) [eV 1,eC (.int 1)],eC (.int 0)]) (f:=eV 0) (C:=[]) (m:=2) (e:=λi:Nat=>D.tup [.int i,(as.map D.ref).getD i .non]) (g:=λi:Nat=>D.int i) (b:=λi=>decide (0<(AJ st.AA i).n)) (S:=S) hS.guard (xs:=sY st.AA.length) (acc:=[]) (os:=[none,none]) rfl (qU (show _<=50 by simp;lia) (AK (by decide))) (by
  intro i hi os ho
  obtain⟨o1,o2,rfl⟩:=f9 ho
  obtain⟨a,a1,a2,a3⟩:=hS.at (xI.mp hi)
  have e:(as.map D.ref).getD i .non=.ref a:=by simp[a1]
  rw[e]
  refine⟨[Gc (.int i),Gc (.ref a)],rfl,by simp,?_,by simp⟩
  simp[As a2,B0])
 rw[OU,rG,hS.len]
 exact this
def Kv(h:i∈B7 st):i<st.AA.length/\0<(AJ st.AA i).n:=by
 unfold B7 at h
 rw[vi]at h
 exact⟨xI.mp h.1,by simpa using h.2⟩
noncomputable def Eb(st:Stt)(j:Nat):Wp Nat:=(B7 st).filter λi=> !(i==j) && ((AJ st.AA i).k==(AJ st.AA j).k)
def Nn:(B7 st).length<=st.AA.length:=by
 unfold B7
 exact qU (wO _ _) (by simp)
def WM{a b:Nat}:((a:Int)==(b:Int))=(a==b):=by
 by_cases h:a=b
 .subst h;simp
 .have:((a:Int)==(b:Int))=false:=by simp;lia
  rw[this];simp[h]
def bY(hS:SAt S s l m as st)(hl:st.AA.length<=50)(hj:j∈B7 st):Bj [] (tNm 2) (Fs (eOp (o2 wNe) [eV 2,eV 1]) (eOp (o2 wEq) [eOp (o2 wIx) [eOp (o2 wIx) [eV 0,eV 2],eC (.int 0)],eOp (o2 wIx) [eOp (o2 wIx) [eV 0,eV 1],eC (.int 0)]])) (eV 2) (GJ (B7 st)) [] [Gc (.ref l),Gc (.int j),none] S=Gc (GJ (Eb st j),S):=by
 have fl:=Nn (st:=st)
 exact FL (gs:=[]) (t:=tNm 2) (f:=eV 2) (C:=[Gc (.ref l),Gc (.int j)]) (m:=1) (e:=λi:Nat=>D.int i) (g:=λi:Nat=>D.int i) (b:=λi=> !(i==j) && ((AJ st.AA i).k==(AJ st.AA j).k)) (S:=S) Ac (xs:=B7 st) (acc:=[]) (os:=[none]) rfl (qU (show _<=50 by simp;lia) (AK (by decide))) (by
  intro i hi os ho
  obtain⟨o1,rfl⟩:=QY ho
  obtain⟨a,a1,a2,a3⟩:=hS.at (Kv hi).1
  obtain⟨b,b1,b2,b3⟩:=hS.at (Kv hj).1
  refine⟨[Gc (.int i)],rfl,by simp,?_,by simp⟩
  by_cases e:i=j
  .subst e
   simp
  .have e':((i:Int)==(j:Int))=false:=by simp;lia
   have e2:(i==j)=false:=by simp[e]
   simp[e',e2,As hS.lo,a3,b3,As a2,As b2,B0,WM])
def WK(h:i∈Eb st j):i∈B7 st/\i≠j/\(AJ st.AA i).k=(AJ st.AA j).k:=by
 unfold Eb at h
 rw[vi]at h
 simp at h
 exact⟨h.1,h.2.1,h.2.2⟩
noncomputable def FV(st:Stt):Wp Nat:=(sY 10).filter λi=> !(st.nums.any λu=>u==(i:Int))
def RM{us:Wp Int}:inD (.int i) (us.map D.int)=us.any λu=>u==i:=by
 unfold inD
 rw[List.any_map]
 rfl
@[simp] def kl:wIn b w (.own r)=if(HG (fz w) && r.all HG)=true then some (.val (.bl (if b then !inD (fz w) r else inD (fz w) r)))else none:=nr rfl
@[simp] def kv:wIn b w (.val (.lst r))=if(HG (fz w) && r.all HG)=true then some (.val (.bl (if b then !inD (fz w) r else inD (fz w) r)))else none:=nr rfl
def O4{us:Wp Int}:(us.map D.int).all HG=true:=by
 rw[List.all_map,List.all_eq_true]
 intro x _;rfl
@[simp] def mY:HG (.int i)=true:=nr rfl
def Z9(hS:SAt S s l m as st):Bj [] (tNm 1) (eOp (o2 (wIn true)) [eV 1,eV 0]) (eV 1) (OL 0 10) [] [Gc (.ref m),none] S=Gc (GJ (FV st),S):=by
 exact FL (gs:=[]) (t:=tNm 1) (f:=eV 1) (C:=[Gc (.ref m)]) (m:=1) (e:=λi:Nat=>D.int (0+(i:Int))) (g:=λi:Nat=>D.int i) (b:=λi=> !(st.nums.any λu=>u==(i:Int))) (S:=S) Ac (xs:=sY 10) (acc:=[]) (os:=[none]) rfl (qU (show _<=50 by simp) (AK (by decide))) (by
  intro i hi os ho
  obtain⟨o1,rfl⟩:=QY ho
  refine⟨[Gc (.int i)],rfl,by simp,?_,by simp⟩
  have nu:=As hS.nu
  have fi:=O4 (us:=st.nums)
  have ii:=RM (us:=st.nums) (i:=(i:Int))
  generalize st.nums.map D.int=ud at*
  generalize (st.nums.any λu=>u==(i:Int))=bb at*
  simp[nu,fi,ii])
def WG(h:i∈FV st):(i:Int)∉st.nums/\i<=9:=by
 unfold FV at h
 rw[vi]at h
 have h1:=xI.mp h.1
 refine⟨?_,by lia⟩
 intro z
 have h2:=h.2
 have:(st.nums.any λu=>u==(i:Int))=true:=List.any_eq_true.mpr ⟨_,z,by simp⟩
 rw[this]at h2
 cases h2
def Xo:(FV st).length<=10:=by
 unfold FV
 exact qU (wO _ _) (by simp)
def WO:(Eb st j).length<=st.AA.length:=by
 unfold Eb
 exact qU (wO _ _) Nn
section
variable{S:Sto}{p s l m:Nat}{as:Wp Nat}{st:Stt}{t:Tr}{k:Nat}
def Tu:=AM (xIf (Fs (eOp (o2 wEq) [eV 7,eC (.int 7)]) (eOp (o2 wNe) [eV 12,Jr []])) (Ad (Bh [eC (.str "trade"),eOp (o2 wIx) [eV 12,AD AF [eV 0,eOp (o1 Cs) [eV 12]]],eV 8,eV 9,eV 11,AD BA [eV 0]])) BP) (Ad (Bh [eC (.str "swap"),eV 8,eV 9,eV 11,AD BA [eV 0]]))
def V1:=AM (xIf (eOp (o2 wEq) [eV 7,eC (.int 8)]) (Ad (Bh [eC (.str "spoil"),eV 8,eV 9])) BP) (AM (xIf (Fs (eOp (o2 wEq) [eV 7,eC (.int 9)]) (eOp (o2 wGt) [eOp (o2 wIx) [eV 1,eC (.int 0)],eC (.int 1)])) (AM (BE 13 (AD AF [eV 0,eOp (o2 wIx) [eV 1,eC (.int 0)]])) (Ad (Bh [eC (.str "sell"),eV 13,eOp (o2 Pk) [eOp (o2 Cq) [eOp (o2 Cq) [eV 13,eC (.int 1)],AD AF [eV 0,eOp (o2 OK) [eOp (o2 wIx) [eV 1,eC (.int 0)],eC (.int 1)]]],eOp (o2 wIx) [eV 1,eC (.int 0)]],AD FI [eV 0]]))) BP) (Ad (Bh [eC (.str "throw"),eV 8,eV 9,AD DM [eV 0,eOp (o2 Cq) [eOp (o2 wIx) [eV 1,eC (.int 1)],eC (.int 1)]]])))
def OR:Ex:=(AM (xIf (Fs (eOp (o2 wLt) [eV 7,eC (.int 8)]) (eOp (o2 wGt) [eOp (o2 wIx) [eV 1,eC (.int 1)],eC (.int 1)])) (AM (BE 11 (eOp (o2 Pk) [eOp (o2 Cq) [eOp (o2 Cq) [eOp (o2 wIx) [eOp (o2 wIx) [eV 3,eV 8],eC (.int 0)],eC (.int 1)],AD AF [eV 0,eOp (o2 OK) [eOp (o2 wIx) [eV 1,eC (.int 1)],eC (.int 1)]]],eOp (o2 wIx) [eV 1,eC (.int 1)]])) (AM (BE 12 (CN [5] 1 (SV [eC (.int 10)]) (tNm 1) (eOp (o2 (wIn true)) [eV 1,eV 0]) (eV 1)))
    Tu)) BP) V1)
def Vs:=xIf (eOp (o2 wLt) [eV 7,eC (.int 5)]) (AM (BE 10 (CN [3,8] 1 (HC (eV 6)) (tNm 2) (Fs (eOp (o2 wNe) [eV 2,eV 1]) (eOp (o2 wEq) [eOp (o2 wIx) [eOp (o2 wIx) [eV 0,eV 2],eC (.int 0)],eOp (o2 wIx) [eOp (o2 wIx) [eV 0,eV 1],eC (.int 0)]])) (eV 2))) (xIf (eOp (o2 wNe) [eV 10,Jr []]) (Ad (Bh [eC (.str "pool"),eV 8,eOp (o2 wIx) [eV 10,AD AF [eV 0,eOp (o1 Cs) [eV 10]]]])) BP)) BP
def Sm:AN->Prop
 | .Ck _ _ g _ n=>g<=2000/\n<2^130
 |_=>xH
def WH:=AM (xIf (eOr (eOp (o2 wLt) [eV 7,eC (.int 2)]) (eOp (o2 wEq) [eV 6,Jr []])) (Ad (Bh [eC (.str "bring"),AD AF [eV 0,eOp (o2 wIx) [eV 1,eC (.int 0)]],AD AF [eV 0,eOp (o2 wIx) [eV 1,eC (.int 1)]],AD BA [eV 0]])) BP) (AM (BE 8 (eOp (o2 wIx) [eV 6,AD AF [eV 0,eOp (o1 Cs) [eV 6]]])) (AM (BE 9 (eOp (o2 Cq) [eC (.int 1),AD AF [eV 0,eOp (o2 iH) [eOp (o2 wIx) [eOp (o2 wIx) [eV 3,eV 8],eC (.int 1)],eC (.int 2000)]]])) (AM Vs OR)))
theorem W9:Mb=(AM (Jf (tTp [tNm 3,tNm 4,tNm 5]) (eV 2)) (AM (BE 6 (CN [] 2 (Zv (eV 3)) (tTp [tNm 0,tNm 1]) (eOp (o2 wGt) [eOp (o2 wIx) [eV 1,eC (.int 1)],eC (.int 0)]) (eV 0))) (AM (BE 7 (AD AF [eV 0,eC (.int 12)])) WH))):=rfl
def XO(hp:Df p S)(hS:SAt S s l m as st)(hps:p∉s::l::m::as)(ht:G5 t)(h:EY t k st)(hk:k<=16):∃d S',DN [.ref p,t.d,.ref s] S=Gc (AN.d d,S')/\Pn p S S'/\Can t st d/\Sm d:=by
 obtain⟨t1,t2,t3,t4,t5,t6⟩:=ht
 have hlen:=h.len
 have st':∀{S':Sto},Pn p S S'->SAt S' s l m as st:=λg=>hS.same g.same (by simpa using hps)
 have r0:=AL hS.root
 have cf:=aC hS (by lia)
 have fl:=Nn (st:=st)
 have sq:=Iq hS.lo
 obtain⟨way,S1,e1,a1,b1,p1⟩:=Aq hp (n:=12) (by decide) (by decide)
 have okF:=LQ (is:=B7 st)
 have dqF:=N1 (is:=B7 st)
 have pr0:DN [.ref p,t.d,.ref s] S=(WH [Gc (.ref p),Gc t.d,Gc (.ref s),Gc (.ref l),Gc (shD st.hold),Gc (.ref m),Gc (.lst (GJ (B7 st))),Gc (.int way),none,none,none,none,none,none] S1).map λr=>(flD r.1,r.2.2):=by
  simp[DN,W9,r0,sq,cf,e1]
 by_cases hb:way<2\/(B7 st).isEmpty=true
 .obtain⟨x2,S2,e2,a2,b2,p2⟩:=Aq p1.pen (n:=t.p) (by lia) (by lia)
  obtain⟨x3,S3,e3,a3,b3,p3⟩:=Aq p2.pen (n:=t.k) (by lia) (by lia)
  obtain⟨x4,S4,e4,p4,a4,b4⟩:=L9 p3.pen
  obtain⟨x2,rfl⟩:=II a2
  obtain⟨x3,rfl⟩:=II a3
  refine⟨.DQ x2 x3 x4,S4,?_,((p1.trans p2).trans p3).trans p4,⟨by lia,by lia,a4,b4⟩,trivial⟩
  rw[pr0]
  have ho:∀(x y:Ex),xIf (eOr (eOp (o2 wLt) [eV 7,eC (.int 2)]) (eOp (o2 wEq) [eV 6,Jr []])) x y [Gc (.ref p),Gc t.d,Gc (.ref s),Gc (.ref l),Gc (shD st.hold),Gc (.ref m),Gc (.lst (GJ (B7 st))),Gc (.int way),none,none,none,none,none,none] S1=x [Gc (.ref p),Gc t.d,Gc (.ref s),Gc (.ref l),Gc (shD st.hold),Gc (.ref m),Gc (.lst (GJ (B7 st))),Gc (.int way),none,none,none,none,none,none] S1:=by
   intro x y
   by_cases hw:way<2
   .simp[hw]
   .simp[hw,okF,dqF,hb.resolve_left hw]
  simp[WH,-Tw,ho]
  simp[Tr.d,e2,e3,e4,AN.d]
 .have hw2:¬way<2:=λz=>hb (.inl z)
  have hf:(B7 st).isEmpty=false:=by
   cases z:(B7 st).isEmpty with
   |true=>exact absurd (.inr z) hb
   |false=>rfl
  have hfl:0<(B7 st).length:=by
   cases z:B7 st with
   |nil=>rw[z]at hf;cases hf
   |cons a b=>simp
  obtain⟨rl,S2,e2,a2,b2,p2⟩:=Aq p1.pen (n:=(B7 st).length) (by lia) (by lia)
  obtain⟨i,mi,ei⟩:=Ll a2 b2
  have fi:=Kv mi
  have hS1:=st' p1
  have hS2:=st' (p1.trans p2)
  obtain⟨a,x1,x2,x3⟩:=hS2.at fi.1
  have n1:=fi.2
  obtain⟨rs,S3,e3,a3,b3,p3⟩:=Aq p2.pen (n:=if 2000<(AJ st.AA i).n then 2000 else(AJ st.AA i).n) (by split<;>lia) (by split<;>lia)
  have hsome:1<=1+rs/\1+rs<=(AJ st.AA i).n:=by split at b3<;>lia
  have p23:=(p1.trans p2).trans p3
  have hS3:=st' p23
  have lo2:=As hS2.lo
  have lo3:=As hS3.lo
  have x2':=As x2
  have x4:S3[a]?=Gc (B0 (AJ st.AA i)):=hS3.ld i a _ x1 (Ed fi.1)
  have x4':=As x4
  have kd:=h.kind _ (AS fi.1)
  have nl:=JA (is:=B7 st)
  have cs:=bY hS3 (by lia) mi
  have okS:=LQ (is:=Eb st i)
  have dqS:=N1 (is:=Eb st i)
  have sl:=WO (st:=st) (j:=i)
  have nls:=JA (is:=Eb st i)
  have pre:DN [.ref p,t.d,.ref s] S=((Vs [Gc (.ref p),Gc t.d,Gc (.ref s),Gc (.ref l),Gc (shD st.hold),Gc (.ref m),Gc (.lst (GJ (B7 st))),Gc (.int way),Gc (.int i),Gc (.int (1+rs)),none,none,none,none] S3).bind (bx OR)).map λr=>(flD r.1,r.2.2):=by
   rw[pr0]
   simp[WH,hw2,okF,dqF,hf,nl,e2,ei,lo2,x3,x2',e3]
  have tail:∀o10,(way<5->(Eb st i).isEmpty=true)->∃d S',(OR [Gc (.ref p),Gc t.d,Gc (.ref s),Gc (.ref l),Gc (shD st.hold),Gc (.ref m),Gc (.lst (GJ (B7 st))),Gc (.int way),Gc (.int i),Gc (.int (1+rs)),o10,none,none,none] S3).map (λr=>(flD r.1,r.2.2))=Gc (AN.d d,S')/\Pn p S S'/\Can t st d/\Sm d:=by
   intro o10 _
   generalize hE:([Gc (.ref p),Gc t.d,Gc (.ref s),Gc (.ref l),Gc (shD st.hold),Gc (.ref m),Gc (.lst (GJ (B7 st))),Gc (.int way),Gc (.int i),Gc (.int (1+rs)),o10,none,none,none]:En)=E
   clear pre cs okS dqS
   by_cases hsw:way<8/\1<t.k
   .obtain⟨hw8,hk1⟩:=hsw
    have hk1':(1:Int)<t.k:=by lia
    obtain⟨rk,S4,e4,a4,b4,p4⟩:=Aq p3.pen (n:=(t.k:Int)-1) (by lia) (by lia)
    have hS4:=st' (p23.trans p4)
    have hmod:=VH (x:=((AJ st.AA i).k:Int)+1+rk) (K:=t.k) (by lia) (by lia)
    obtain⟨kd2,ekd⟩:∃q:Nat,((AJ st.AA i).k+1+rk) % (t.k:Int)=(q:Int):=⟨_,(rm (uL _ (by lia))).symm⟩
    have hkd:kd2<t.k/\kd2≠(AJ st.AA i).k:=by
     rw[ekd]at hmod
     split at hmod<;>lia
    have kp:0<t.k:=by lia
    have cl:=Z9 hS4
    have okL:=LQ (is:=FV st)
    have dqL:=N1 (is:=FV st)
    have ll:=Xo (st:=st)
    have nll:=JA (is:=FV st)
    have rt:MA 10=true:=Ga (by decide) (by decide)
    have mid:OR E S3=(Tu [Gc (.ref p),Gc t.d,Gc (.ref s),Gc (.ref l),Gc (shD st.hold),Gc (.ref m),Gc (.lst (GJ (B7 st))),Gc (.int way),Gc (.int i),Gc (.int (1+rs)),o10,Gc (.int kd2),Gc (.lst (GJ (FV st))),none] S4).bind (bx V1):=by
     subst hE
     simp[OR,Tr.d,x3,hw8,hk1',lo3,x4',e4,kp,ekd,rt,cl]
    rw[mid]
    clear mid hE
    by_cases htr:way=7/\(FV st).isEmpty=false
    .obtain⟨hw7,hle⟩:=htr
     have hll:0<(FV st).length:=by
      cases z:FV st with
      |nil=>rw[z]at hle;cases hle
      |cons a b=>simp
     obtain⟨ru,S5,e5,a5,b5,p5⟩:=Aq p4.pen (n:=(FV st).length) (by lia) (by lia)
     obtain⟨u,mu,eu⟩:=Ll a5 b5
     obtain⟨x6,S6,e6,p6,a6,b6⟩:=Mt p5.pen
     have fu:=WG mu
     refine⟨.Ck u i (1+rs) kd2 x6,S6,?_,((p23.trans p4).trans p5).trans p6,⟨fi.1,hsome.1,hsome.2,hkd.1,hkd.2,a6,AAI b6 (by decide),fu.1,by lia,by lia⟩,by split at b3<;>lia,b6⟩
     subst hw7
     simp[Tu,okL,dqL,hle,nll,e5,eu,e6,AN.d]
    .obtain⟨x6,S6,e6,p6,a6,b6⟩:=L9 p4.pen
     refine⟨.swap i (1+rs) kd2 x6,S6,?_,(p23.trans p4).trans p6,⟨fi.1,hsome.1,hsome.2,hkd.1,hkd.2,a6,b6⟩,trivial⟩
     by_cases h7:way=7
     .subst h7
      have hle:(FV st).isEmpty=true:=by
       cases z:(FV st).isEmpty with
       |true=>rfl
       |false=>exact absurd ⟨rfl,z⟩ htr
      simp[Tu,okL,dqL,hle,e6,AN.d]
     .have h7':(way==7)=false:=by simpa using h7
      simp[Tu,h7',e6,AN.d]
   .have sw:OR E S3=V1 E S3:=by
     subst hE
     by_cases w8:way<8
     .have hk1:¬(1:Int)<t.k:=by lia
      simp[OR,Tr.d,w8,hk1]
     .simp[OR,w8]
    rw[sw]
    clear sw
    by_cases h8:way=8
    .subst h8
     refine⟨.Dj i (1+rs),S3,?_,p23,⟨fi.1,hsome.1,hsome.2⟩,trivial⟩
     subst hE
     rfl
    .have h8':(way==8)=false:=by simpa using h8
     by_cases h9:way=9/\1<t.p
     .obtain⟨h9,hP⟩:=h9
      subst h9
      have hP':(1:Int)<t.p:=by lia
      obtain⟨rp,S4,e4,a4,b4,p4⟩:=Aq p3.pen (n:=t.p) (by lia) (by lia)
      obtain⟨rq,S5,e5,a5,b5,p5⟩:=Aq p4.pen (n:=(t.p:Int)-1) (by lia) (by lia)
      obtain⟨sh,S6,e6,p6,a6,b6,c6⟩:=X3 p5.pen
      have hmod:=VH (x:=rp+1+rq) (K:=t.p) (by lia) (by lia)
      obtain⟨q,eq⟩:∃q:Nat,(rp+1+rq) % (t.p:Int)=(q:Int):=⟨_,(rm (uL _ (by lia))).symm⟩
      obtain⟨rp,rfl⟩:=II a4
      have hq:q<t.p/\q≠rp:=by
       rw[eq]at hmod
       split at hmod<;>lia
      have pp:0<t.p:=by lia
      refine⟨.GN rp q sh,S6,?_,((p23.trans p4).trans p5).trans p6,⟨λz=>hq.2 z.symm,by lia,hq.1,a6,b6,c6⟩,trivial⟩
      subst hE
      simp[V1,Tr.d,hP',e4,e5,pp,eq,e6,AN.d]
     .have s9:∀(x y:Ex) (T:Sto),xIf (Fs (eOp (o2 wEq) [eV 7,eC (.int 9)]) (eOp (o2 wGt) [eOp (o2 wIx) [eV 1,eC (.int 0)],eC (.int 1)])) x y E T=y E T:=by
       intro x y T
       subst hE
       by_cases z:way=9
       .have hP:¬(1:Int)<t.p:=by have:¬1<t.p:=λw=>h9 ⟨z,w⟩;lia
        subst z
        simp[Tr.d,hP]
       .have z':(way==9)=false:=by simpa using z
        simp[z']
      obtain⟨ws,S4,e4,p4,a4,b4⟩:=VU p3.pen (n:=t.k+1) (by lia)
      have e4':DM [.ref p,.int ((t.k:Int)+1)] S3=Gc (.tup (ws.map .int),S4):=e4
      refine⟨.thr i (1+rs) ws,S4,?_,p23.trans p4,⟨fi.1,hsome.1,hsome.2,a4,b4⟩,trivial⟩
      have s8:∀(x y:Ex) (T:Sto),xIf (eOp (o2 wEq) [eV 7,eC (.int 8)]) x y E T=y E T:=by
       intro x y T
       subst hE
       simp[h8']
      simp[V1,-Tw,s8,s9]
      subst hE
      simp[Tr.d,e4',AN.d]
  by_cases hpool:way<5/\(Eb st i).isEmpty=false
  .obtain⟨hw5,hse⟩:=hpool
   have hsl:0<(Eb st i).length:=by
    cases z:Eb st i with
    |nil=>rw[z]at hse;cases hse
    |cons a b=>simp
   obtain⟨rj,S4,e4,a4,b4,p4⟩:=Aq p3.pen (n:=(Eb st i).length) (by lia) (by lia)
   obtain⟨j,mj,ej⟩:=Ll a4 b4
   have fj:=WK mj
   have fj':=Kv fj.1
   refine⟨.Hr i j,S4,?_,p23.trans p4,⟨λz=>fj.2.1 z.symm,fi.1,fj'.1,n1,fj'.2,fj.2.2.symm⟩,trivial⟩
   rw[pre]
   simp[Vs,hw5,cs,okS,dqS,hse,nls,e4,ej,AN.d]
  .by_cases w5:way<5
   .have hse:(Eb st i).isEmpty=true:=by
     cases z:(Eb st i).isEmpty with
     |true=>rfl
     |false=>exact absurd ⟨w5,z⟩ hpool
    obtain⟨d,S',e,pn,hc⟩:=tail (Gc (.lst (GJ (Eb st i)))) (λ_=>hse)
    refine⟨d,S',?_,pn,hc⟩
    rw[pre,<-e]
    simp[Vs,w5,cs,okS,dqS,hse]
   .obtain⟨d,S',e,pn,hc⟩:=tail none (λz=>absurd z w5)
    refine⟨d,S',?_,pn,hc⟩
    rw[pre,<-e]
    simp[Vs,w5]
def Zf(hp:Df p S)(hS:SAt S s l m as st)(hps:p∉s::l::m::as)(ht:G5 t)(h:EY t k st)(hk:k<=16):∃d S',DN [.ref p,t.d,.ref s] S=Gc (AN.d d,S')/\Pn p S S'/\Can t st d:=by
 obtain⟨d,S',a,b,c,_⟩:=XO hp hS hps ht h hk
 exact⟨d,S',a,b,c⟩
end
noncomputable def runs(t:Tr)(st:Stt)(ds:Wp AN):Stt:=ds.foldl (step t) st
def J1(t:Tr):Stt->Wp AN->Prop
 |_,[]=>xH
 |st,d::ds=>Can t st d/\J1 t (step t st d) ds
theorem Mz{t:Tr}{d:AN}:∀{ds:Wp AN} {st:Stt},J1 t st ds->Can t (runs t st ds) d->J1 t st (ds++[d])
 | [],st,_,h=>⟨h,trivial⟩
 |x::ds,st,h,g=>⟨h.1,Mz h.2 g⟩
def Nv{t:Tr}{ds:Wp AN}{st:Stt}{i:Nat}{d:AN}(h:J1 t st ds)(g:ds[i]?=Gc d):Can t (runs t st (ds.take i)) d:=by
 induction ds generalizing st i with
 |nil=>simp at g
 |cons x ds ih=>
  cases i with
  |zero=>simp at g;subst g;exact h.1
  |succ i=>simp at g;exact ih h.2 g
def Sl{t:Tr}{st:Stt}{ds:Wp AN}{d:AN}:runs t st (ds++[d])=step t (runs t st ds) d:=by simp[runs]
def LX{t:Tr}{st:Stt}{ds:Wp AN}{i:Nat}{d:AN}(h:ds[i]?=Gc d):runs t st (ds.take (i+1))=step t (runs t st (ds.take i)) d:=by
 rw[List.take_succ,h]
 exact Sl
theorem NN{t:Tr}(ht:G5 t):∀{ds:Wp AN} {st:Stt} {k:Nat},EY t k st->J1 t st ds->k+ds.length<=17->EY t (k+ds.length) (runs t st ds)
 | [],st,k,h,_,_=>h
 |d::ds,st,k,h,g,hl=>by
  have:=NN ht (ds:=ds) (K0 ht h (by simp at hl;lia) g.1) g.2 (by simp at hl;lia)
  rw[show k+(d::ds).length=k+1+ds.length by simp;lia]
  exact this
theorem Qo{t:Tr}(ht:G5 t):∀{ds:Wp AN} {st:Stt} {k G B:Nat},SIG t k G B st->J1 t st ds->k+ds.length<=17->∃T G' B',G'=G*T/\0<T/\B*T<=B'/\B'<=B*2^(161*ds.length)/\SIG t (k+ds.length) G' B' (runs t st ds)
 | [],st,k,G,B,h,_,_=>⟨1,G,B,(ui _).symm,by decide,by rw[ui];exact qW _,by simp,h⟩
 |d::ds,st,k,G,B,h,g,hl=>by
  obtain⟨T,G1,B1,rfl,t0,tb,ub,h1⟩:=Q7 ht h (by simp at hl;lia) g.1
  obtain⟨T2,G2,B2,rfl,t2,tb2,ub2,h2⟩:=Qo ht (ds:=ds) h1 g.2 (by simp at hl;lia)
  refine⟨T*T2,_,B2,ur ..,vQ t0 t2,qU ?_ tb2,?_,?_⟩
  .rw[<-ur]
   exact rP _ tb
  .refine qU ub2 (qU (rP _ ub) ?_)
   rw[ur,<-xk]
   exact uM _ (rO (by decide) (by simp;lia))
  .rw[show k+(d::ds).length=k+1+ds.length by simp;lia]
   exact h2
theorem Hu{t:Tr}:∀{ds:Wp AN} {st:Stt} {i:Nat},J1 t st ds->J1 t st (ds.take i)
 | [],st,i,h=>by simp;exact trivial
 |d::ds,st,0,h=>trivial
 |d::ds,st,i+1,h=>⟨h.1,Hu h.2⟩
noncomputable def st0(t:Tr)(ls:Wp Ld):Stt:=⟨ls,t.ho,[]⟩
structure Bc(t:Tr)(ls:Wp Ld)(ds:Wp AN):Prop where
 tr:G5 t
 lev:∃k,k+ds.length<=16/\EY t k (st0 t ls)
 four:ls.length<=4
 pc0:∀l∈ls,0<=l.n/\l.n<2^131
 good:J1 t (st0 t ls) ds
def EY.mono{t:Tr}{j k:Nat}{s:Stt}(h:EY t j s)(hk:j<=k):EY t k s:=by
 obtain⟨G,B,g0,gb,b,h1,h2⟩:=h.gb
 exact⟨by have:=h.len;lia,h.kind,λl hl=>⟨(h.pcs l hl).1,uY (h.pcs l hl).2 (by exact_mod_cast rO (by decide:0<2) (by lia:131+j<=131+k))⟩,h.own,h.hold,qU h.nm hk,G,B,g0,gb,qS b (rO (by decide) (by lia)),h1,h2⟩
def Bc.len{t:Tr}{ls:Wp Ld}{ds:Wp AN}(h:Bc t ls ds):ds.length<=16:=by
 obtain⟨k,hk,_⟩:=h.lev
 lia
def Bc.lv{t:Tr}{ls:Wp Ld}{ds:Wp AN}(h:Bc t ls ds):∃k,k<=16/\EY t k (runs t (st0 t ls) ds):=by
 obtain⟨k,hk,z⟩:=h.lev
 exact⟨_,hk,NN h.tr z h.good (by lia)⟩
def Bc.at{t:Tr}{ls:Wp Ld}{ds:Wp AN}(h:Bc t ls ds)(i:Nat):EY t 16 (runs t (st0 t ls) (ds.take i)):=by
 obtain⟨k,hk,z⟩:=h.lev
 exact(NN h.tr z (Hu h.good) (by simp;lia)).mono (by simp;lia)
noncomputable def AG(t:Tr)(ls:Wp Ld)(ds:Wp AN):D:=.tup [t.d,.tup (ls.map Ld.d),.tup (ds.map AN.d)]
def Th{t:Tr}{ls:Wp Ld}(h:EO t ls)(hl:ls.length<=4)(h1:t.ho.length=t.p){g:Nat}(g0:0<g)(g1:g<=32)(g2:∀r∈t.ho,Ok g g r):EY t 0 (st0 t ls):=by
 obtain⟨ha,G,G0,G1,G2⟩:=h
 have hG:G<=32^4:=qU G1 (rO (by decide) hl)
 have hB:G*g<2^30:=by
  have:=uX hG g1
  lia
 refine EY.of (G:=G*g) (B:=G*g) (by simpa[st0]using hl) ?_ h1 (qW _) (vQ G0 g0) (qW _) hB ?_
 .intro x hx
  have:=ha x hx
  exact⟨this.1,by lia,cB this.2.2.1,this.2.2.2.1,λr hr=>(G2 x hx r hr).up (qW _)⟩
 .intro r hr
  have:=(g2 r hr).up (t:=G) (B':=G*g) (by rw[uB];exact qW _)
  rwa [uB g G]at this
noncomputable def JV:AN->sD
 | .thr .. =>true
 |_=>false
section
variable{S:Sto}{p:Nat}
def XZ(d:AN)(E:En)(h:E=[Gc d.d]):eOp (o2 wEq) [eOp (o2 wIx) [eV 0,eC (.int 0)],eC (.str "throw")] E S=Gc (.bl (JV d),S):=by
 subst h
 cases d<;>simp[AN.d,JV]
end
section
variable{S:Sto}{s l m:Nat}{as:Wp Nat}{st:Stt}
theorem Lb{rs:Wp Rat}:D.tup (rs.map aD)=shD rs:=rfl
end
def QA(h:n<=m):HT.sIx m d (Gc (n:Int))=n:=by
 unfold HT.sIx
 have:¬((n:Int)<0):=by lia
 simp[this]
 lia
def Ja{ds:Wp α}(h:n<=ds.length):MG ds none (Gc (n:Int))=ds.take n:=by
 unfold MG
 rw[QA h]
 simp[HT.sIx]
def Xt{ds:Wp α}(h:n<=ds.length):MG ds (Gc (n:Int)) none=ds.drop n:=by
 unfold MG
 rw[QA h]
 simp[HT.sIx]
 exact v9 (by simp)
noncomputable def hD(x:Ld):D:=.tup [.int x.k,.int x.n]
noncomputable def A4(ls:Wp Ld):D:=.lst (ls.map hD)
noncomputable def Ke(ls:Wp Ld):D:=.lst (ls.map λx=>shD x.ow)
section
variable{ls:Wp Ld}{i j:Nat}{n:Int}
@[simp] def lF:dr S (A4 ls)=.val (A4 ls):=nr rfl
@[simp] def mv:dr S (Ke ls)=.val (Ke ls):=nr rfl
@[simp] def iq:asS (.val (A4 ls))=some (ls.map hD):=nr rfl
@[simp] def iO:asS (.val (Ke ls))=some (ls.map λx=>shD x.ow):=nr rfl
def HV(hi:i<ls.length):atI (ls.map hD) (i:Int)=Gc (hD (AJ ls i)):=Co (by rw[qw,Ed hi];rfl)
def Ly(hi:i<ls.length):atI (ls.map λx=>shD x.ow) (i:Int)=Gc (shD (AJ ls i).ow):=Co (by rw[qw,Ed hi];rfl)
@[simp] def nM:dr S (hD x)=.val (.tup [.int x.k,.int x.n]):=nr rfl
@[simp] def lZ:tTp ts (hD x) E S=tMs ts [.int x.k,.int x.n] E S:=nr rfl
def Ww:wSl lo hi (.val (A4 ls))=Gc (.own (MG (ls.map hD) lo hi)):=nr rfl
def Eo(hi:i<ls.length)(hl:ls.length<=60):BO [A4 ls,.int i,.int n] S=Gc (A4 (less ls i n),S):=by
 have c1:=Ja (ds:=ls.map hD) (n:=i) (by simp;lia)
 have c2:MG (ls.map hD) (Gc ((i:Int)+1)) none=(ls.map hD).drop (i+1):=by
  have:=Xt (ds:=ls.map hD) (n:=i+1) (by simp;lia)
  simpa using this
 have ef:A4 (less ls i n)=.lst ((ls.map hD).take i++[.tup [.int (AJ ls i).k,.int ((AJ ls i).n-n)]]++(ls.map hD).drop (i+1)):=by
  rw[QG,A4,vW,List.set_eq_take_append_cons_drop,rB (by simpa using hi)]
  simp[hD]
 have z1:(List.take i (ls.map hD)).length+1<=sizeLine:=qU (show _<=100 by simp;lia) (AK (by decide))
 have z2:(List.take i (ls.map hD)++[D.tup [.int (AJ ls i).k,.int ((AJ ls i).n-n)]]).length+(List.drop (i+1) (ls.map hD)).length<=sizeLine:=qU (show _<=100 by simp;rw[yX (uO hi)];exact qU (zk (Nat.add_sub_cancel' hi)) (qU hl (by decide))) (AK (by decide))
 rw[ef]
 have ah:=HV hi
 have ws:=λ{lo hi:qR Int}=>Ww (ls:=ls) (lo:=lo) (hi:=hi)
 generalize List.take i (ls.map hD)=A at*
 generalize List.drop (i+1) (ls.map hD)=B at*
 simp only[sA,rT,vk]at z2
 simp[BO,Gy,ah,ws,c1,c2,z1,z2]
end
section
variable{S:Sto}{st:Stt}{t:Tr}{k:Nat}
@[simp] def EH{ls:List Ld}{r:List D}:Cq (.val (A4 ls)) (.val (.lst r))=if(ls.map hD).length+r.length<=sizeLine then some (.own (ls.map hD++r))else none:=nr rfl
def Kp{ls:Wp Ld}{y:Ld}:D.lst (ls.map hD++[.tup [.int y.k,.int y.n]])=A4 (ls++[y]):=by simp[A4,hD]
def LU(h:EY t k st)(hk:k<=17){d:AN}(hc:Can t st d):Aa [A4 st.AA,d.d] S=Gc (A4 (step t st d).AA,S):=by
 have hlen:=h.len
 have hz:(st.AA.map hD).length+1<=sizeLine:=qU (show _<=100 by simp;lia) (AK (by decide))
 have hz2:∀{i:Nat} {n:Int},((less st.AA i n).map hD).length+1<=sizeLine:=λ{i n}=>qU (show _<=100 by simp[C0];lia) (AK (by decide))
 cases d with
 |DQ p kd n=>
  have e:=Kp (ls:=st.AA) (y:=⟨kd,n,Qv t.p p⟩)
  show _=Gc (A4 (st.AA++[⟨kd,n,Qv t.p p⟩]),S)
  rw[<-e]
  have wA:=EH (ls:=st.AA) (r:=[.tup [.int kd,.int n]])
  rw[rB (by simpa using hz)]at wA
  simp[Aa,BJ,AN.d,-EH,wA]
 |Hr i j=>
  obtain⟨hij,hi,hj,h1,h2,h3⟩:=hc
  have e0:AJ (less st.AA i (AJ st.AA i).n) j=AJ st.AA j:=by
   unfold AJ less
   rw[qu,qT hij,<-qu]
  have w1:=Eo (S:=S) (n:=(AJ st.AA i).n) hi (by lia)
  have w2:=Eo (S:=S) (ls:=less st.AA i (AJ st.AA i).n) (i:=j) (n:=(AJ st.AA j).n) (by rw[C0];exact hj) (by rw[C0];lia)
  have z3:((less (less st.AA i (AJ st.AA i).n) j (AJ st.AA j).n).map hD).length+1<=sizeLine:=qU (show _<=100 by simp[C0];lia) (AK (by decide))
  have e:=Kp (ls:=less (less st.AA i (AJ st.AA i).n) j (AJ st.AA j).n) (y:=⟨(AJ st.AA i).k,(AJ st.AA i).n+(AJ st.AA j).n,Bv (AJ st.AA i).n (AJ st.AA j).n (AJ st.AA i).ow (AJ st.AA j).ow⟩)
  show _=Gc (A4 (less (less st.AA i (AJ st.AA i).n) j (AJ st.AA j).n++[_]),S)
  rw[<-e]
  have a1:=HV hi
  have a2:=HV hj
  have wA:=EH (ls:=less (less st.AA i (AJ st.AA i).n) j (AJ st.AA j).n) (r:=[.tup [.int (AJ st.AA i).k,.int ((AJ st.AA i).n+(AJ st.AA j).n)]])
  rw[rB (by simpa using z3)]at wA
  generalize (less (less st.AA i (AJ st.AA i).n) j (AJ st.AA j).n).map hD=A at*
  simp[Aa,BJ,AN.d,a1,a2,w1,w2,-EH,wA]
 |swap i g kd n=>
  obtain⟨hi,h1,h2,h3,h4,h5,h6⟩:=hc
  have w1:=Eo (S:=S) (n:=g) hi (by lia)
  have e:=Kp (ls:=less st.AA i g) (y:=⟨kd,n,(AJ st.AA i).ow⟩)
  show _=Gc (A4 (less st.AA i g++[⟨kd,n,(AJ st.AA i).ow⟩]),S)
  rw[<-e]
  have wA:=EH (ls:=less st.AA i g) (r:=[.tup [.int kd,.int n]])
  rw[rB (by simpa using hz2)]at wA
  simp[Aa,BJ,AN.d,w1,-EH,wA]
 |Ck u i g kd n=>
  obtain⟨hi,h1,h2,h3,h4,h5,h6,h7⟩:=hc
  have w1:=Eo (S:=S) (n:=g) hi (by lia)
  have e:=Kp (ls:=less st.AA i g) (y:=⟨kd,n,(AJ st.AA i).ow⟩)
  show _=Gc (A4 (less st.AA i g++[⟨kd,n,(AJ st.AA i).ow⟩]),S)
  rw[<-e]
  have wA:=EH (ls:=less st.AA i g) (r:=[.tup [.int kd,.int n]])
  rw[rB (by simpa using hz2)]at wA
  simp[Aa,BJ,AN.d,w1,-EH,wA]
 |Dj i n=>
  obtain⟨hi,h1,h2⟩:=hc
  have w1:=Eo (S:=S) (n:=n) hi (by lia)
  show _=Gc (A4 (less st.AA i n),S)
  simp[Aa,BJ,AN.d,w1]
 |thr i n ws=>
  obtain⟨hi,h1,h2,h3,h4⟩:=hc
  have w1:=Eo (S:=S) (n:=n) hi (by lia)
  have e:A4 (step t st (.thr i n ws)).AA=A4 (less st.AA i n):=by
   show D.lst (((less st.AA i n).map _).map hD)=_
   rw[sI];rfl
  rw[e]
  simp[Aa,BJ,AN.d,w1]
 |GN p q x=>
  have e:A4 (step t st (.GN p q x)).AA=A4 st.AA:=by
   show D.lst ((st.AA.map _).map hD)=_
   rw[sI];rfl
  rw[e]
  simp[Aa,BJ,AN.d]
noncomputable def G4:AN->qR Int
 | .Ck u .. =>Gc u
 |_=>none
def Vj{ls:Wp Ld}:∀{ds:Wp AN},(runs t (st0 t ls) ds).nums=ds.filterMap G4:=by
 intro ds
 have:∀(ds:Wp AN) (st:Stt),(runs t st ds).nums=st.nums++ds.filterMap G4:=by
  intro ds
  induction ds with
  |nil=>intro st;simp[runs]
  |cons d ds ih=>
   intro st
   show(runs t (step t st d) ds).nums=_
   rw[ih]
   cases d<;>simp[step,G4,rh]
 rw[this];rfl
theorem Kh:∀{ds:Wp AN} {acc:Wp D} {o:qR D},acc.length+ds.length<=100->Bj [] (tNm 0) (eOp (o2 wEq) [eOp (o2 wIx) [eV 0,eC (.int 0)],eC (.str "trade")]) (eOp (o2 wIx) [eV 0,eC (.int 1)]) (ds.map AN.d) acc [o] S=Gc (acc++(ds.filterMap G4).map D.int,S)
 | [],acc,o,h=>by rw[sQ,EI Ac];simp
 |d::ds,acc,o,h=>by
  have hz:acc.length<sizeLine:=qS (show acc.length<101 by simp at h;lia) (AK (by decide))
  have ht:tNm 0 d.d [o] S=Gc [Gc d.d]:=by simp
  rw[qq]
  cases d with
  |Ck u i g kd n=>
   rw[HW Ac hz ht (S1:=S) (by simp[AN.d])]
   have:eOp (o2 wIx) [eV 0,eC (.int 1)] [Gc (AN.Ck u i g kd n).d] S=Gc (.int u,S):=by simp[AN.d]
   rw[this,A1,Kh (by simp at h ⊢; lia)]
   simp[G4,rh]
  |DQ=>rw[IM Ac hz ht (S1:=S) (by simp[AN.d]),Kh (by simp at h ⊢; lia)];simp[G4,rh]
  |Hr=>rw[IM Ac hz ht (S1:=S) (by simp[AN.d]),Kh (by simp at h ⊢; lia)];simp[G4,rh]
  |swap=>rw[IM Ac hz ht (S1:=S) (by simp[AN.d]),Kh (by simp at h ⊢; lia)];simp[G4,rh]
  |Dj=>rw[IM Ac hz ht (S1:=S) (by simp[AN.d]),Kh (by simp at h ⊢; lia)];simp[G4,rh]
  |thr=>rw[IM Ac hz ht (S1:=S) (by simp[AN.d]),Kh (by simp at h ⊢; lia)];simp[G4,rh]
  |GN=>rw[IM Ac hz ht (S1:=S) (by simp[AN.d]),Kh (by simp at h ⊢; lia)];simp[G4,rh]
end
section
variable{S:Sto}{st:Stt}{t:Tr}{k:Nat}
def W2{ss os:Wp Rat}:MF (ss.map aD) (os.map aD)=(ss.zip os).map λz=>D.tup [aD z.1,aD z.2]:=by
 unfold MF
 rw[List.zip_map,sI]
 rfl
noncomputable def Pj(w m:Int)(ss os:Wp Rat):Wp Rat:=wH (λs o=>(s*w+o*m) / (w+m)) ss os
def Dg{w m:Int}{ss os:Wp Rat}{j n:Nat}(hs:∀r∈ss,Sz j r)(ho:∀r∈os,Sz j r)(hw:w.natAbs<2^n)(hm:m.natAbs<2^n)(h:0<w+m)(hj:2*j+n+1<=7990)(hl:ss.length<=50):BN [shD ss,.int w,shD os,.int m] S=Gc (shD (Pj w m ss os),S):=by
 have e:=Dd (gs:=[]) (t:=tTp [tNm 2,tNm 3]) (f:=AD He [eV 2,eV 0,eV 3,eV 1]) (C:=[Gc (.int w),Gc (.int m)]) (m:=2) (e:=λz:Rat×Rat=>D.tup [aD z.1,aD z.2]) (g:=λz=>aD ((z.1*w+z.2*m) / (w+m))) (S:=S) Ac (xs:=ss.zip os) (acc:=[]) (os:=[none,none]) rfl (qU (show _<=50 by simp;lia) (AK (by decide))) (by
  intro z hz os' ho'
  obtain⟨q1,q2,rfl⟩:=f9 ho'
  have hm2:=tT (a:=z.1) (b:=z.2) hz
  have l:=fI (S:=S) (hs _ hm2.1) (ho _ hm2.2) hw hm h (by lia)
  refine⟨[Gc (aD z.1),Gc (aD z.2)],rfl,by simp,?_⟩
  simp[l])
 rw[<-W2]at e
 have em:(ss.zip os).map (λz=>aD ((z.1*w+z.2*m) / (w+m)))=(Pj w m ss os).map aD:=by
  unfold Pj
  rw[<-List.map_uncurry_zip_eq_zipWith,sI]
  rfl
 rw[em]at e
 simp only[rX,rH]at e
 simp[BN,G8,e,Lb]
def NZ{P p:Nat}(hP:P<=50):D3 [.int P,.int p] S=Gc (shD (Qv P p),S):=by
 have e:=Qp (S:=S) (P:=P) (p:=p) (cond:=0) (C:=[]) (dd:=.int p) (f:=eIf (eOp (o2 wEq) [eV 1,eV 0]) (eC N4) (eC Eu)) hP (by
  intro i
  by_cases hi:i=p
  .subst hi;simp;rfl
  .have:((i:Int)==(p:Int))=false:=by simp;lia
   simp[this,hi];rfl)
 have rn:MA (P:Int)=true:=Ga (by lia) (by lia)
 simp[D3,IC,rn,e,Lb]
def Lz{n m:Int}{ss os:Wp Rat}:Pj n m ss os=Bv n m ss os:=by
 unfold Pj Bv
 congr 1
 funext s o
 push_cast
 rfl
def P9{n m:Int}{ss os:Wp Rat}:Bv n m ss os=Bv m n os ss:=by
 unfold Bv
 rw[List.zipWith_comm]
 congr 1
 funext o s
 push_cast
 grind
@[simp] def Tv{a b:Int}:MS [a,b]=if a<=b then [a,b]else [b,a]:=by
  unfold MS
  simp[List.mergeSort,zY,List.merge]
@[simp] def bA{a b:Int}:NT (.val (.lst [.int a,.int b]))=some (.own ((if a<=b then [a,b]else [b,a]).map D.int)):=by
  have:NT (.val (.lst [.int a,.int b]))=Gc (.own ((MS [a,b]).map D.int)):=rfl
  rw[this,Tv]
@[simp] def iA{a b c d e:D}:atI [a,b,c,d,e] (-4)=some b:=nr rfl
@[simp] def hO{a b c d e f:D}:atI [a,b,c,d,e,f] (-4)=some c:=nr rfl
def Su{i j:Nat}(ht:G5 t)(h:EY t k st)(hk:k<=17)(hc:Can t st (.Hr i j)):A9 [A4 st.AA,Ke st.AA,(AN.Hr i j).d] S=Gc (shD (Bv (AJ st.AA i).n (AJ st.AA j).n (AJ st.AA i).ow (AJ st.AA j).ow),S):=by
 obtain⟨hij,hi,hj,h1,h2,h3⟩:=hc
 have sz:=h.sz
 have pi:=h.pcs _ (AS hi)
 have pj:=h.pcs _ (AS hj)
 have ti:=h.own _ (AS hi)
 have tj:=h.own _ (AS hj)
 have zi:=sz.1 _ (AS hi)
 have zj:=sz.1 _ (AS hj)
 have hp:t.p<=10:=by have:=ht.2.1;lia
 .by_cases hle:i<=j
  .have hle':(i:Int)<=j:=by lia
   have e:=Dg (S:=S) (j:=30+170*k) (n:=131+k) zi zj (FA pi.1 pi.2) (FA pj.1 pj.2) (by lia) (by lia) (by lia)
   rw[Lz]at e
   have a1:=HV hi
   have a2:=HV hj
   have b1:=Ly hi
   have b2:=Ly hj
   have mf:Bp [(AN.Hr i j).d] S=Gc (.lst [.int i,.int j],S):=by
    simp[Bp,DR,AN.d,hle,hle']
   simp only[AN.d]at mf⊢
   simp[A9,CQ,mf,a1,a2,b1,b2,e]
  .have hle':¬(i:Int)<=j:=by lia
   have e:=Dg (S:=S) (j:=30+170*k) (n:=131+k) zj zi (FA pj.1 pj.2) (FA pi.1 pi.2) (by lia) (by lia) (by lia)
   rw[Lz,P9]at e
   have a1:=HV hi
   have a2:=HV hj
   have b1:=Ly hi
   have b2:=Ly hj
   have mf:Bp [(AN.Hr i j).d] S=Gc (.lst [.int j,.int i],S):=by
    simp[Bp,DR,AN.d,hle,hle']
   simp only[AN.d]at mf⊢
   simp[A9,CQ,mf,a1,a2,b1,b2,e]
def Vz{i kd:Nat}{g n:Int}(hi:i<st.AA.length):A9 [A4 st.AA,Ke st.AA,(AN.swap i g kd n).d] S=Gc (shD (AJ st.AA i).ow,S):=by
 have b1:=Ly hi
 simp[A9,CQ,Bp,DR,AN.d,b1]
def R8{i kd:Nat}{u g n:Int}(hi:i<st.AA.length):A9 [A4 st.AA,Ke st.AA,(AN.Ck u i g kd n).d] S=Gc (shD (AJ st.AA i).ow,S):=by
 have b1:=Ly hi
 simp[A9,CQ,Bp,DR,AN.d,b1]
def XD{ws:Wp Int}(h:EY t k st)(hk:k<=17)(hl:ws.length=t.k+1)(hw:∀w∈ws,1<=w/\w<=99):C1 [t.d,A4 st.AA,.tup (ws.map D.int)] S=Gc (.int (Dp t st.AA ws),S):=by
 have hlen:=h.len
 have e:=Dd (gs:=[]) (t:=tTp [tNm 1,tNm 2]) (f:=eOp (o2 CL) [eV 2,eOp (o2 wIx) [eV 0,eV 1]]) (C:=[Gc (.tup (ws.map D.int))]) (m:=2) (e:=hD) (g:=λx=>D.int (x.n*ws.getD x.k 0)) (S:=S) Ac (xs:=st.AA) (acc:=[]) (os:=[none,none]) rfl (qU (show _<=50 by simp;lia) (AK (by decide))) (by
  intro x hx os ho
  obtain⟨q1,q2,rfl⟩:=f9 ho
  have hkk:=h.kind _ hx
  have w1:=Qn (ws:=ws) (i:=x.k) (by lia)
  have w2:=Lq hw (i:=x.k) (by lia)
  have m1:DP x.n (ws.getD x.k 0)=true:=mulR (by lia) (by lia)
  generalize ws.getD x.k 0=wz at*
  refine⟨[Gc (.int x.k),Gc (.int x.n)],rfl,by simp,?_⟩
  simp[w1,m1])
 simp only[rX,rH]at e
 have es:Kn (st.AA.map λx=>D.int (x.n*ws.getD x.k 0))=Gc (st.AA.map λx=>x.n*ws.getD x.k 0):=by
  have:=GK (st.AA.map λx=>x.n*ws.getD x.k 0)
  rwa [sI]at this
 have w2:=NQ hl
 have w4:=Lq hw (i:=t.k) (by lia)
 have m2:DP (t.b:Int) (ws.getD t.k 0)=true:=mulR (by lia) (by lia)
 have e2:Dp t st.AA ws=(st.AA.map λx=>x.n*ws.getD x.k 0).sum+t.b*ws.getD t.k 0:=rfl
 rw[e2]
 have sq:sqD S (A4 st.AA)=Gc (st.AA.map hD,[]):=rfl
 generalize (st.AA.map λx=>x.n*ws.getD x.k 0)=es' at*
 generalize (st.AA.map λx=>D.int (x.n*ws.getD x.k 0))=es2 at*
 generalize ws.getD t.k 0=wb at*
 simp[C1,G3,Tr.d,sq,e,es,w2,m2]
def bf{i:Nat}{n:Int}{ws:Wp Int}(ht:G5 t)(h:EY t k st)(hk:k<=17)(hc:Can t st (.thr i n ws)):De [t.d,A4 st.AA,(AN.thr i n ws).d] S=Gc (aD (Ik t st.AA i n ws),S):=by
 obtain⟨hi,h1,h2,hl,hw⟩:=hc
 have a:=JB ht h (by lia) hl hw
 have w1:=Qn (ws:=ws) (i:=(AJ st.AA i).k) (by have:=h.kind _ (AS hi);lia)
 have w3:=Lq hw (i:=(AJ st.AA i).k) (by have:=h.kind _ (AS hi);lia)
 have m1:DP n (ws.getD (AJ st.AA i).k 0)=true:=mulR (by lia) (by lia)
 have l1:=Vb (S:=S) (t:=n*ws.getD (AJ st.AA i).k 0) a.1 (CT (FA (by lia) a.2) (by lia))
 have wo:=XD (S:=S) h hk hl hw
 have ah:=HV hi
 rw[K3 hi]
 generalize aD (((n*ws.getD (AJ st.AA i).k 0:Int):Rat) / (Dp t st.AA ws:Rat))=R at*
 generalize ws.getD (AJ st.AA i).k 0=wa at*
 simp[De,HR,AN.d,ah,w1,m1,wo,l1]
def Sw{X:Rat}{ss os:Wp Rat}:Pj ((X.den:Int)-X.num) X.num ss os=F6 X os ss:=by
 unfold Pj F6
 congr 1
 funext s o
 have h1:=Ce X
 have h2:=G9 X
 push_cast
 have e:((X.den:Rat)-(X.num:Rat)+(X.num:Rat))=(X.den:Rat):=by grind
 rw[e]
 grind
def SW{i:Nat}{n:Int}{ws:Wp Int}{ss:Wp Rat}(ht:G5 t)(h:EY t k st)(hk:k<=17)(hc:Can t st (.thr i n ws))(hs:∀r∈ss,Sz (30+170*k) r)(hl:ss.length<=50):Cj [t.d,A4 st.AA,Ke st.AA,(AN.thr i n ws).d,shD ss] S=Gc (shD (F6 (Ik t st.AA i n ws) (AJ st.AA i).ow ss),S):=by
 have pt:=bf (S:=S) ht h hk hc
 obtain⟨hi,h1,h2,hl',hw⟩:=hc
 have cz:=TN ht h (by lia) hl' hw hi h1 h2
 have b1:=Ly hi
 generalize Ik t st.AA i n ws=X at*
 have d0:=den_pos X
 have c2:=cz.2
 have e:=Dg (S:=S) (w:=(X.den:Int)-X.num) (m:=X.num) (j:=30+170*k) (n:=146+k) hs (h.sz.1 _ (AS hi)) (by
  rw[show 146+k=(145+k)+1 by lia,yQ,Nat.mul_two]
  exact q8 (AAH _ _) (Nat.add_lt_add c2 cz.1)) (ZR cz.1 (by lia)) (by lia) (by lia) hl
 rw[Sw]at e
 generalize F6 X (AJ st.AA i).ow ss=rs at*
 simp only[aD,AN.d]at pt⊢
 simp[Cj,GL,pt,b1,e]
def T9{p q:Nat}{x:Rat}{ss:Wp Rat}{j i:Nat}(hs:∀r∈ss,Sz j r)(hx:Sz i x)(hj:2*j+i<=7900)(hp:p<ss.length)(hq:q<ss.length)(hpq:p≠q):∃S',Di [(AN.GN p q x).d,shD ss] S=Gc (shD (E8 p q x ss),S')/\Bt [] S S':=by
 have sp:=hs _ (getD_mem (d:=0) hp)
 have sq:=hs _ (getD_mem (d:=0) hq)
 have l1:∀S,CH [aD (ss.getD p 0),aD x] S=Gc (aD (ss.getD p 0*x),S):=λS=>UY sp hx (by lia)
 have s1:=Mc sp hx
 have l2:∀S,DX [aD (ss.getD p 0),aD (ss.getD p 0*x)] S=Gc (aD (ss.getD p 0-ss.getD p 0*x),S):=λS=>fR sp s1 (by lia)
 have l3:∀S,Fp [aD (ss.getD q 0),aD (ss.getD p 0*x)] S=Gc (aD (ss.getD q 0+ss.getD p 0*x),S):=λS=>ZU sq s1 (by lia)
 have a1:=VF hp
 have a2:=VF hq
 have i1:=Yi hp
 have i2:ixN (((ss.map aD).set p (aD (ss.getD p 0-ss.getD p 0*x))).length) (q:Int)=Gc q:=NO (by simpa using hq)
 refine⟨S++[.lst ((E8 p q x ss).map aD)],?_,.app⟩
 simp only[tJ,rG]at i1 i2
 have em:(E8 p q x ss).map aD=((ss.map aD).set p (aD (ss.getD p 0-ss.getD p 0*x))).set q (aD (ss.getD q 0+ss.getD p 0*x)):=by rw[E8,vW,vW]
 unfold shD
 rw[em]
 generalize aD (ss.getD p 0-ss.getD p 0*x)=d1 at*
 generalize aD (ss.getD q 0+ss.getD p 0*x)=d2 at*
 generalize aD (ss.getD p 0*x)=d3 at*
 generalize aD (ss.getD p 0)=d4 at*
 generalize aD (ss.getD q 0)=d5 at*
 simp[Di,Hf,AN.d,a1,a2,l1,l2,l3,i1,i2]
end
def Wf(t:Tr):AN->Prop
 | .DQ p k n=>p<t.p/\k<t.k/\1<=n/\n<2^131
 | .Hr a b=>a≠b
 | .swap _ g k n=>1<=g/\k<t.k/\1<=n/\n<2^131
 | .Ck u _ g k n=>1<=g/\k<t.k/\1<=n/\n<2^131/\0<=u/\u<=9
 | .Dj _ n=>1<=n
 | .thr _ n ws=>1<=n/\ws.length=t.k+1/\∀w∈ws,1<=w/\w<=99
 | .GN p q x=>p≠q/\p<t.p/\q<t.p/\0<x.num/\x.num<=x.den/\x.den<=12
noncomputable def thB(st:Stt)(l:Nat)(n:Int):sD:=decide (l<st.AA.length) && decide (n<=(AJ st.AA l).n)
noncomputable def swB(st:Stt)(l:Nat)(g:Int)(k:Nat):sD:=thB st l g && !((AJ st.AA l).k==k)
noncomputable def Qj(st:Stt):AN->sD
 | .DQ .. =>true
 | .Hr a b=>thB st a 1 && (thB st b 1 && ((AJ st.AA a).k==(AJ st.AA b).k))
 | .swap l g k _=>swB st l g k
 | .Ck u l g k _=> !(st.nums.any λx=>x==u) && swB st l g k
 | .Dj l n=>thB st l n
 | .thr l n _=>thB st l n
 | .GN .. =>true
section
variable{st:Stt}
def kM{us:Wp Int}:(us.any λx=>x==u)=false↔u∉us:=by
 rw[zg]
 constructor
 .intro h z
  exact h u z (by simp)
 .intro h x hx z
  have:x=u:=by simpa using z
  exact h (this▸hx)
def YX(h:Can t st d):Wf t d/\Qj st d=true:=by
 cases d with
 |DQ p k n=>exact⟨h,rfl⟩
 |Hr a b=>
  obtain⟨h1,h2,h3,h4,h5,h6⟩:=h
  refine⟨h1,?_⟩
  simp only[Qj,thB,qe,sx,uJ]
  exact⟨⟨h2,by lia⟩,⟨h3,by lia⟩,h6⟩
 |swap l g k n=>
  obtain⟨h1,h2,h3,h4,h5,h6,h7⟩:=h
  refine⟨⟨h2,h4,h6,h7⟩,?_⟩
  simp only[Qj,swB,thB,qe,sx,xj,sX,ne_eq]
  exact⟨⟨h1,h3⟩,λz=>h5 z.symm⟩
 |Ck u l g k n=>
  obtain⟨h1,h2,h3,h4,h5,h6,h7,h8,h9,h10⟩:=h
  refine⟨⟨h2,h4,h6,h7,h9,h10⟩,?_⟩
  simp only[Qj,swB,thB,qe,sx,xj,sX,ne_eq]
  exact⟨kM.mpr h8,⟨h1,h3⟩,λz=>h5 z.symm⟩
 |Dj l n=>
  obtain⟨h1,h2,h3⟩:=h
  refine⟨h2,?_⟩
  simp only[Qj,thB,qe,sx]
  exact⟨h1,h3⟩
 |thr l n ws=>
  obtain⟨h1,h2,h3,h4⟩:=h
  refine⟨⟨h2,h4⟩,?_⟩
  simp only[Qj,thB,qe,sx]
  exact⟨h1,h3⟩
 |GN p q x=>exact⟨h,rfl⟩
def Nu(h:l<st.AA.length):atI (st.AA.map hD) (l:Int)=Gc (hD (AJ st.AA l)):=Co (by rw[qw,Ed h];rfl)
def LJ{l:Nat}:BU [A4 st.AA,.int l,.int n] S=Gc (.bl (thB st l n),S):=by
 by_cases h:l<st.AA.length
 .have a:=Nu h
  have h':(l:Int)<(st.AA.length:Int):=by lia
  have e:thB st l n=decide (n<=(AJ st.AA l).n):=by simp[thB,h]
  rw[e]
  simp[BU,Fv,A4,h',a,hD]
 .have h':¬(l:Int)<(st.AA.length:Int):=by lia
  have e:thB st l n=false:=by simp[thB,h]
  rw[e]
  simp[BU,Fv,A4,h']
def UD(h:thB st l n=true):l<st.AA.length:=by
 simp only[thB,qe,sx]at h
 exact h.1
def QD{a b:Nat}:((a:Int)==(b:Int))=(a==b):=by
 rw[vm,uJ,uJ]
 exact Int.ofNat_inj
def RK{l k:Nat}:DJ [A4 st.AA,.int l,.int g,.int k] S=Gc (.bl (swB st l g k),S):=by
 have e:=LJ (S:=S) (st:=st) (l:=l) (n:=g)
 unfold swB
 cases h:thB st l g with
 |false=>
  rw[h]at e
  generalize A4 st.AA=HD at*
  simp[DJ,Hc,e]
 |true=>
  rw[h]at e
  have a:=Nu (UD h)
  simp only[A4]at e⊢
  have nb:=QD (a:=(AJ st.AA l).k) (b:=k)
  generalize st.AA.map hD=HL at*
  simp[DJ,Hc,e,a,hD,nb]
def Xv{a b:Nat}:DC [A4 st.AA,.int a,.int b] S=Gc (.bl (thB st a 1 && (thB st b 1 && ((AJ st.AA a).k==(AJ st.AA b).k))),S):=by
 have e1:=LJ (S:=S) (st:=st) (l:=a) (n:=1)
 have e2:=LJ (S:=S) (st:=st) (l:=b) (n:=1)
 cases h:thB st a 1 with
 |false=>
  rw[h]at e1
  generalize A4 st.AA=HD at*
  simp[DC,Ff,e1]
 |true=>
  rw[h]at e1
  cases h2:thB st b 1 with
  |false=>
   rw[h2]at e2
   generalize A4 st.AA=HD at*
   simp[DC,Ff,e1,e2]
  |true=>
   rw[h2]at e2
   have a1:=Nu (UD h)
   have a2:=Nu (UD h2)
   have nb:=QD (a:=(AJ st.AA a).k) (b:=(AJ st.AA b).k)
   simp only[A4]at e1 e2⊢
   generalize st.AA.map hD=HL at*
   simp[DC,Ff,e1,e2,a1,a2,hD,nb]
def jo{ds:Wp AN}(hd:ds.length<=50)(hn:st.nums=ds.filterMap G4):B6 [A4 st.AA,.tup (ds.map AN.d),d.d] S=Gc (.bl (Qj st d),S):=by
 cases d with
 |DQ p kd n=>simp[B6,DH,AN.d,Qj]
 |Hr i j=>
  have e:=Xv (S:=S) (st:=st) (a:=i) (b:=j)
  simp[B6,DH,AN.d,e,Qj]
 |swap i g kd n=>
  have e:=RK (S:=S) (st:=st) (l:=i) (g:=g) (k:=kd)
  simp[B6,DH,AN.d,e,Qj]
 |Ck u i g kd n=>
  have e:=RK (S:=S) (st:=st) (l:=i) (g:=g) (k:=kd)
  have tc:=Kh (S:=S) (ds:=ds) (acc:=[]) (o:=none) (by simp;lia)
  rw[<-hn]at tc
  have fi:=O4 (us:=st.nums)
  have ii:=RM (us:=st.nums) (i:=u)
  have cb:Qj st (.Ck u i g kd n)=(!(st.nums.any λx=>x==u) && swB st i g kd):=rfl
  rw[cb]
  generalize st.nums.map D.int=ud at*
  generalize (st.nums.any λx=>x==u)=q at*
  rw[rH]at tc
  cases q<;>simp[B6,DH,AN.d,tc,fi,ii,e]
 |Dj i n=>
  have e:=LJ (S:=S) (st:=st) (l:=i) (n:=n)
  simp[B6,DH,AN.d,e,Qj]
 |thr i n ws=>
  have e:=LJ (S:=S) (st:=st) (l:=i) (n:=n)
  simp[B6,DH,AN.d,e,Qj]
 |GN p q x=>simp[B6,DH,AN.d,Qj]
end
theorem Ou{α:Type}{gs:Gd}{t:Tf}{f:Ev}{C:En}{m:Nat}{e g:α->D}(hg:∀S,gOk gs S):∀{xs:Wp α} {acc:Wp D} {os:En} {S:Sto},os.length=m->acc.length+xs.length<=sizeLine->(∀x∈xs,∀os S,os.length=m->∃us S',us.length=m/\t (e x) (C++os) S=Gc (C++us)/\f (C++us) S=Gc (g x,S')/\Bt [] S S')->∃S',Bj gs t Bk f (xs.map e) acc (C++os) S=Gc (acc++xs.map g,S')/\Bt [] S S'
 | [],acc,os,S,ho,hz,h=>⟨S,by rw[sQ,EI (hg S)];simp,.refl⟩
 |x::xs,acc,os,S,ho,hz,h=>by
  obtain⟨us,S1,hu,e1,e2,s1⟩:=h x qh os S ho
  obtain⟨S2,e3,s2⟩:=Ou hg (xs:=xs) (acc:=acc++[g x]) (os:=us) (S:=S1) hu (by simp at hz ⊢; lia) λx' hx=>h x' (qa _ hx)
  refine⟨S2,?_,s1.trans s2⟩
  rw[qq,HW (hg S) (by simp at hz;lia) e1 F3,e2,A1,e3]
  simp
section
variable{S:Sto}{st:Stt}{t:Tr}{k:Nat}
noncomputable def shB(t:Tr)(st:Stt):AN->Wp Rat->Wp Rat
 | .thr i n ws,ss=>F6 (Ik t st.AA i n ws) (AJ st.AA i).ow ss
 | .GN p q x,ss=>E8 p q x ss
 |_,ss=>ss
def OT{d:AN}{ss:Wp Rat}(ht:G5 t)(h:EY t k st)(hk:k<=17)(hc:Can t st d)(hs:∀r∈ss,Sz (30+170*k) r)(hl:ss.length=t.p):∃S',AY [t.d,A4 st.AA,Ke st.AA,d.d,shD ss] S=Gc (shD (shB t st d ss),S')/\Bt [] S S':=by
 have tp:=ht.2.1
 cases d with
 |thr i n ws=>
  have e:=SW (S:=S) ht h hk hc hs (by lia)
  refine⟨S,?_,.refl⟩
  simp only[AN.d]at e⊢
  simp[AY,A5,e,shB]
 |GN p q x=>
  obtain⟨hpq,hp,hq,x1,x2,x3⟩:=hc
  have hx:Sz 4 x:=by
   refine⟨?_,by lia⟩
   show x.num.natAbs<16
   lia
  obtain⟨S',e,sm⟩:=T9 (S:=S) (p:=p) (q:=q) hs hx (by lia) (by lia) (by lia) hpq
  refine⟨S',?_,sm⟩
  simp only[AN.d]at e⊢
  simp[AY,A5,e,shB]
 |DQ p kd n=>exact⟨S,by simp[AY,A5,AN.d,shB],.refl⟩
 |Hr i j=>exact⟨S,by simp[AY,A5,AN.d,shB],.refl⟩
 |swap i g kd n=>exact⟨S,by simp[AY,A5,AN.d,shB],.refl⟩
 |Ck u i g kd n=>exact⟨S,by simp[AY,A5,AN.d,shB],.refl⟩
 |Dj i n=>exact⟨S,by simp[AY,A5,AN.d,shB],.refl⟩
def So{d:AN}:(step t st d).hold=shB t st d st.hold:=by cases d<;>rfl
def J6{i:Nat}{n:Int}{ls:Wp Ld}(hi:i<ls.length){β:Type}(f:Wp Rat->β):(less ls i n).map (λx=>f x.ow)=ls.map λx=>f x.ow:=by
 rw[QG,vW]
 have:(ls.map λx=>f x.ow)[i]?=Gc (f (AJ ls i).ow):=by rw[qw,Ed hi];rfl
 apply xl
 intro j
 by_cases e:i=j
 .subst e;rw[qb (by simpa using hi),this]
 .rw[qT e]
@[simp] def l7{ls:List Ld}:sqD S (Ke ls)=some (ls.map λx=>shD x.ow,[]):=nr rfl
def Up{d:AN}(ht:G5 t)(h:EY t k st)(hk:k<=17)(hc:Can t st d):∃S',Ai [t.d,A4 st.AA,Ke st.AA,d.d] S=Gc (Ke (step t st d).AA,S')/\Bt [] S S':=by
 have hlen:=h.len
 have sz:=h.sz
 have tp:=ht.2.1
 obtain⟨S',e,sm⟩:=Ou (gs:=[]) (t:=tNm 4) (f:=AD AY [eV 0,eV 1,eV 2,eV 3,eV 4]) (C:=[Gc t.d,Gc (A4 st.AA),Gc (Ke st.AA),Gc d.d]) (m:=1) (e:=λx:Ld=>shD x.ow) (g:=λx=>shD (shB t st d x.ow)) (λ_=>Ac) (xs:=st.AA) (acc:=[]) (os:=[none]) (S:=S) rfl (qU (show _<=50 by simp;lia) (AK (by decide))) (by
  intro x hx os S0 ho
  obtain⟨q1,rfl⟩:=QY ho
  obtain⟨S1,e1,s1⟩:=OT (S:=S0) (d:=d) (ss:=x.ow) ht h hk hc (sz.1 x hx) (h.own x hx)
  refine⟨[Gc (shD x.ow)],S1,rfl,by simp,?_,s1⟩
  simp[e1])
 simp only[rX,rH]at e
 refine⟨S',?_,sm⟩
 have hz:(st.AA.map λx=>shD (shB t st d x.ow)).length+1<=sizeLine:=qU (show _<=100 by simp;lia) (AK (by decide))
 cases d with
 |DQ p kd n=>
  have a1:=NZ (S:=S') (P:=t.p) (p:=p) (by lia)
  have ef:Ke (step t st (.DQ p kd n)).AA=.lst ((st.AA.map λx=>shD (shB t st (.DQ p kd n) x.ow))++[shD (Qv t.p p)]):=by simp[Ke,step,shB]
  rw[ef]
  generalize (st.AA.map λx=>shD (shB t st (.DQ p kd n) x.ow))=A at*
  simp only[AN.d,Tr.d]at e⊢
  simp[Ai,A3,e,a1,hz]
 |Hr i j=>
  have a1:=Su (S:=S') ht h hk hc
  obtain⟨hij,hi,hj,h1,h2,h3⟩:=hc
  have e0:AJ (less st.AA i (AJ st.AA i).n) j=AJ st.AA j:=by
   unfold AJ less
   rw[qu,qT hij,<-qu]
  have ef:Ke (step t st (.Hr i j)).AA=.lst ((st.AA.map λx=>shD (shB t st (.Hr i j) x.ow))++[shD (Bv (AJ st.AA i).n (AJ st.AA j).n (AJ st.AA i).ow (AJ st.AA j).ow)]):=by
   show D.lst ((less (less st.AA i (AJ st.AA i).n) j (AJ st.AA j).n++[_]).map λx:Ld=>shD x.ow)=_
   rw[vF,J6 (by rw[C0];exact hj),J6 hi]
   rfl
  rw[ef]
  generalize (st.AA.map λx=>shD (shB t st (.Hr i j) x.ow))=A at*
  simp only[AN.d]at e a1⊢
  simp[Ai,A3,e,a1,hz]
 |swap i g kd n=>
  have hi:=hc.1
  have a1:=Vz (S:=S') (st:=st) (i:=i) (kd:=kd) (g:=g) (n:=n) hi
  have ef:Ke (step t st (.swap i g kd n)).AA=.lst ((st.AA.map λx=>shD (shB t st (.swap i g kd n) x.ow))++[shD (AJ st.AA i).ow]):=by
   show D.lst ((less st.AA i g++[_]).map λx:Ld=>shD x.ow)=_
   rw[vF,J6 hi]
   rfl
  rw[ef]
  generalize (st.AA.map λx=>shD (shB t st (.swap i g kd n) x.ow))=A at*
  simp only[AN.d]at e a1⊢
  simp[Ai,A3,e,a1,hz]
 |Ck u i g kd n=>
  have hi:=hc.1
  have a1:=R8 (S:=S') (st:=st) (i:=i) (kd:=kd) (u:=u) (g:=g) (n:=n) hi
  have ef:Ke (step t st (.Ck u i g kd n)).AA=.lst ((st.AA.map λx=>shD (shB t st (.Ck u i g kd n) x.ow))++[shD (AJ st.AA i).ow]):=by
   show D.lst ((less st.AA i g++[_]).map λx:Ld=>shD x.ow)=_
   rw[vF,J6 hi]
   rfl
  rw[ef]
  generalize (st.AA.map λx=>shD (shB t st (.Ck u i g kd n) x.ow))=A at*
  simp only[AN.d]at e a1⊢
  simp[Ai,A3,e,a1,hz]
 |Dj i n=>
  have ef:Ke (step t st (.Dj i n)).AA=.lst (st.AA.map λx=>shD (shB t st (.Dj i n) x.ow)):=by
   show D.lst ((less st.AA i n).map λx:Ld=>shD x.ow)=_
   rw[J6 hc.1]
   rfl
  rw[ef]
  generalize (st.AA.map λx=>shD (shB t st (.Dj i n) x.ow))=A at*
  simp only[AN.d]at e⊢
  simp[Ai,A3,e]
 |thr i n ws=>
  have ef:Ke (step t st (.thr i n ws)).AA=.lst (st.AA.map λx=>shD (shB t st (.thr i n ws) x.ow)):=by
   show D.lst (((less st.AA i n).map _).map λx:Ld=>shD x.ow)=_
   rw[sI]
   exact congrArg D.lst (J6 hc.1 (λo=>shD (F6 (Ik t st.AA i n ws) (AJ st.AA i).ow o)))
  rw[ef]
  generalize (st.AA.map λx=>shD (shB t st (.thr i n ws) x.ow))=A at*
  simp only[AN.d]at e⊢
  simp[Ai,A3,e]
 |GN p q x=>
  have ef:Ke (step t st (.GN p q x)).AA=.lst (st.AA.map λy=>shD (shB t st (.GN p q x) y.ow)):=by
   show D.lst ((st.AA.map _).map λy:Ld=>shD y.ow)=_
   rw[sI]
   rfl
  rw[ef]
  generalize (st.AA.map λy=>shD (shB t st (.GN p q x) y.ow))=A at*
  simp only[AN.d]at e⊢
  simp[Ai,A3,e]
@[simp] def jW{ls:List Ld}:sqD S (A4 ls)=some (ls.map hD,[]):=nr rfl
def Jp{ls:Wp Ld}{x y:D}(hl:ls.length<=50):BY [.tup [x,.tup (ls.map Ld.d),y]] S=Gc (A4 ls,S):=by
 have e:=Dd (gs:=[]) (t:=tNm 0) (f:=Bh [eOp (o2 wIx) [eV 0,eC (.int 0)],eOp (o2 wIx) [eV 0,eC (.int 1)]]) (C:=[]) (m:=1) (e:=Ld.d) (g:=hD) (S:=S) Ac (xs:=ls) (acc:=[]) (os:=[none]) rfl (qU (show _<=50 by simp;lia) (AK (by decide))) (by
  intro x hx os ho
  obtain⟨q1,rfl⟩:=QY ho
  refine⟨[Gc x.d],rfl,by simp,?_⟩
  simp[Ld.d,hD])
 simp only[rH]at e
 simp[BY,GI,e,A4]
def Uw{ls:Wp Ld}(hl:ls.length<=50):Bj [] (tNm 0) Bk (eOp (o2 wIx) [eV 0,eC (.int 2)]) (ls.map Ld.d) [] [none] S=Gc (ls.map λx=>shD x.ow,S):=
 Dd (gs:=[]) (t:=tNm 0) (f:=eOp (o2 wIx) [eV 0,eC (.int 2)]) (C:=[]) (m:=1) (e:=Ld.d) (g:=λx=>shD x.ow) (S:=S) Ac (xs:=ls) (acc:=[]) (os:=[none]) rfl (qU (show _<=50 by simp;lia) (AK (by decide))) (by
  intro x hx os ho
  obtain⟨q1,rfl⟩:=QY ho
  refine⟨[Gc x.d],rfl,by simp,?_⟩
  simp[Ld.d])
def Q9{ls:Wp Ld}{ds:Wp AN}{n:Nat}(h:Bc t ls ds)(hn:n<=ds.length):∃S',EC [AG t ls ds,.int n] S=Gc (.tup [A4 (runs t (st0 t ls) (ds.take n)).AA,Ke (runs t (st0 t ls) (ds.take n)).AA,shD (runs t (st0 t ls) (ds.take n)).hold],S')/\Bt [] S S':=by
 have hl0:ls.length<=4:=h.four
 have ct:MG (ds.map AN.d) none (Gc (n:Int))=(ds.take n).map AN.d:=by rw[Ja (by simpa using hn),vh]
 obtain⟨E',S',ef,i,o,f1,f2,rfl,f3⟩:=J0 (gs:=[]) (t:=tNm 8) (b:=AM (BE 7 (AD AY [eV 2,eV 5,eV 6,eV 8,eV 7]))
  (AM (BE 6 (AD Ai [eV 2,eV 5,eV 6,eV 8]))
  (BE 5 (AD Aa [eV 5,eV 8]))))
  (I:=λrs E S'=>∃(i:Nat) (o:qR D),rs=((ds.take n).drop i).map AN.d/\i<=n/\E=[Gc (AG t ls ds),Gc (.int n),Gc t.d,Gc (.tup (ls.map Ld.d)),Gc (.tup (ds.map AN.d)),Gc (A4 (runs t (st0 t ls) (ds.take i)).AA),Gc (Ke (runs t (st0 t ls) (ds.take i)).AA),Gc (shD (runs t (st0 t ls) (ds.take i)).hold),o]/\Bt [] S S')
  (λ_ _ _ _=>Ac) (ds:=(ds.take n).map AN.d) (E:=[Gc (AG t ls ds),Gc (.int n),Gc t.d,Gc (.tup (ls.map Ld.d)),Gc (.tup (ds.map AN.d)),Gc (A4 ls),Gc (Ke ls),Gc (shD t.ho),none]) (S:=S)
  ⟨0,none,by simp,tP _,by simp[runs,st0],.refl⟩ (by
    rintro dd rs E T ⟨i,o,i1,i2,rfl,i3⟩
    have hlt:i<(ds.take n).length:=by
     rcases yT i (ds.take n).length with w|w
     .exact w
     .rw[uP w]at i1;cases i1
    rw[sP hlt,qq]at i1
    injection i1 with z1 z2
    subst z1 z2
    have hlt':i<ds.length:=by simp at hlt;lia
    have hin:i<n:=by simp at hlt;lia
    have hg:(ds.take n)[i]=ds[i]:=List.getElem_take
    rw[hg]
    have inv:=h.at i
    have il0:(ds.take i).length<=16:=by have:=h.len;simp;lia
    have il:16<=16:=qW _
    have can:=Nv h.good (qZ hlt')
    obtain⟨T1,e1,s1⟩:=OT (S:=T) h.tr inv (by lia) can inv.sz.2 inv.hold
    obtain⟨T2,e2,s2⟩:=Up (S:=T1) h.tr inv (by lia) can
    have e3:=LU (S:=T2) inv (by lia) can
    have rt:=LX (t:=t) (st:=st0 t ls) (qZ hlt')
    refine⟨_,[Gc (AG t ls ds),Gc (.int n),Gc t.d,Gc (.tup (ls.map Ld.d)),Gc (.tup (ds.map AN.d)),Gc (A4 (runs t (st0 t ls) (ds.take (i+1))).AA),Gc (Ke (runs t (st0 t ls) (ds.take (i+1))).AA),Gc (shD (runs t (st0 t ls) (ds.take (i+1))).hold),Gc ds[i].d],T2,by simp;rfl,?_,i+1,Gc ds[i].d,rfl,hin,rfl,(i3.trans s1).trans s2⟩
    rw[rt]
    rw[<-So]at e1
    simp[e1,e2,e3])
 have hz:i=n:=by
  have:=congrArg xf f1
  simp at this
  lia
 subst hz
 refine⟨S',?_,f3⟩
 have fh:=Jp (S:=S) (ls:=ls) (x:=t.d) (y:=.tup (ds.map AN.d)) (by lia)
 have fo:=Uw (S:=S) (ls:=ls) (by lia)
 have fo':D.lst (ls.map λx=>shD x.ow)=Ke ls:=rfl
 have th:atI [D.int t.p,D.int t.k,D.int t.b,shD t.ho,D.int t.h,D.int t.l] 3=Gc (shD t.ho):=by simp
 simp only[AG]at ef⊢
 have td:wIx (.val t.d) (.val (.int 3))=Gc (.val (shD t.ho)):=by simp[Tr.d]
 have dt:dr S t.d=.val t.d:=rfl
 rw[vh]at ef ct
 simp[EC,Kf,fh,fo,fo',-bK,td,dt,ct,ef]
def MJ{ls:Wp Ld}{ds:Wp AN}(h:Bc t ls ds):Dm [AG t ls ds] S=Gc (.non,S):=by
 have hl0:ls.length<=4:=h.four
 have hd:=h.len
 obtain⟨E',S',ef,i,o1,o2,f1,f2,rfl,rfl⟩:=J0 (gs:=[]) (t:=tTp [tNm 3,tNm 4]) (b:=AM (xIf (F1 (AD B6 [eV 1,eOp (MN false true) [eV 2,eV 3],eV 4])) (Ad (eV 3)) BP)
  (BE 1 (AD Aa [eV 1,eV 4])))
  (I:=λrs E S'=>∃(i:Nat) (o1 o2:qR D),rs=(N9 0 (ds.map AN.d)).drop i/\i<=ds.length/\E=[Gc (AG t ls ds),Gc (A4 (runs t (st0 t ls) (ds.take i)).AA),Gc (.tup (ds.map AN.d)),o1,o2]/\S'=S)
  (λ_ _ _ _=>Ac) (ds:=N9 0 (ds.map AN.d)) (E:=[Gc (AG t ls ds),Gc (A4 ls),Gc (.tup (ds.map AN.d)),none,none]) (S:=S)
  ⟨0,none,none,by simp,tP _,by simp[runs,st0],rfl⟩ (by
    rintro dd rs E T ⟨i,o1,o2,i1,i2,rfl,rfl⟩
    have el:(N9 0 (ds.map AN.d)).length=ds.length:=by rw[OU];simp
    have hlt:i<ds.length:=by
     rcases yT i ds.length with w|w
     .exact w
     .rw[uP (by lia)]at i1;cases i1
    rw[sP (by lia)]at i1
    injection i1 with z1 z2
    have hd1:dd=.tup [.int i,ds[i].d]:=by
     have:=Ks (ds:=ds.map AN.d) (k:=0) (i:=i)
     rw[qZ (by lia),<-z1,qw,qZ hlt]at this
     simpa using this
    subst z2
    subst hd1
    have inv:=h.at i
    have il0:(ds.take i).length<=16:=by simp;lia
    have il:16<=16:=qW _
    have can:=Nv h.good (qZ hlt)
    have cd:=jo (S:=T) (st:=runs t (st0 t ls) (ds.take i)) (ds:=ds.take i) (d:=ds[i]) (by lia) Vj
    rw[(YX can).2]at cd
    have e3:=LU (S:=T) inv (by lia) can
    have rt:=LX (t:=t) (st:=st0 t ls) (qZ hlt)
    have ct:=Ja (ds:=ds.map AN.d) (n:=i) (by simp;lia)
    rw[vh]at cd
    refine⟨_,[Gc (AG t ls ds),Gc (A4 (runs t (st0 t ls) (ds.take (i+1))).AA),Gc (.tup (ds.map AN.d)),Gc (.int i),Gc ds[i].d],T,by simp;rfl,?_,i+1,Gc (.int i),Gc ds[i].d,rfl,hlt,rfl,rfl⟩
    rw[rt]
    simp[ct,cd,e3])
 have fh:=Jp (S:=S') (ls:=ls) (x:=t.d) (y:=.tup (ds.map AN.d)) (by lia)
 simp only[AG]at ef⊢
 simp[Dm,HI,fh,ef]
def JP{ls:Wp Ld}{ds:Wp AN}(h:Bc t ls ds):Ag [AG t ls ds] S=Gc (.non,S):=by
 have e:=MJ (S:=S) h
 simp[Ag,F8,e,isN]
end
theorem mr:∀{ds},(∀d∈ds,d.py.depth<=n)->ye (D.pys ds)<=n
 | [],_=>by simp[D.pys,ye]
 |d::ds,h=>by
  have h1:=h d qh
  have h2:=mr λe he=>h e (qa _ he)
  simp only[D.pys,ye]
  lia
def L0(h:∀d∈ds,d.py.depth<=n):(D.tup ds).py.depth<=n+1:=by
 have:=mr h
 simp only[D.py,PyData.depth]
 lia
def HB:(D.int i).py.depth<=n+1:=by
 simp only[D.py,PyData.depth]
 lia
def lr:(aD r).py.depth<=2:=L0 (n:=1) (by
 intro d hd
 simp only[qY,qp,sC]at hd
 rcases hd with rfl|rfl<;>exact HB)
def mH:(shD rs).py.depth<=3:=L0 (n:=2) (by
 intro d hd
 obtain⟨r,_,rfl⟩:=rS.mp hd
 exact lr)
def oS{x:Ld}:x.d.py.depth<=4:=L0 (n:=3) (by
 intro d hd
 simp only[qY,qp,sC]at hd
 rcases hd with rfl|rfl|rfl
 .exact HB
 .exact HB
 .exact mH)
theorem gW:(aD r).lay=true:=rfl
def Yx:(shD rs).lay=true:=Gg λ_ _=>gW
def gB{x:Ld}:x.d.lay=true:=by
 show(true && (true && ((shD x.ow).lay && true)))=true
 rw[Yx];rfl
def HN(h:d.lay=true)(g:d.py.depth<=60):Iz d d=true:=by
 unfold Iz
 rw[h]
 simp only[Bool.true_and,sx]
 lia
def Hx(h:d.lay=true):deq d d=true:=PySem.SeqAt.eqv_refl _ (Jx h)
def aW{k:Nat}:∃c,CF [.scr ns,.int k] S=Gc (.int c,S):=by
 by_cases h:k<ns.length
 .have h':(k:Int)<ns.length:=by lia
  refine⟨ns[k],?_⟩
  have e:atI (ns.map D.int) (k:Int)=Gc (.int ns[k]):=Co (by rw[qw,qZ h];rfl)
  simp[CF,GX,h,h',e]
 .have h':¬(k:Int)<ns.length:=by lia
  exact⟨0,by simp[CF,GX,h,h']⟩
def Ok.add(h:Ok G B r)(g:Ok G C q):Ok G (B+C) (r+q):=by
 obtain⟨z,e1,h1⟩:=h
 obtain⟨y,e2,h2⟩:=g
 refine⟨z+y,?_,Nat.add_le_add h1 h2⟩
 push_cast
 rw[<-e1,<-e2]
 grind
def Ok.mono(h:Ok G B r)(g:B<=C):Ok G C r:=by
 obtain⟨z,e,hz⟩:=h
 exact⟨z,e,qU hz g⟩
def Ok.oE{G B N:Nat}{n:Int}(h:Ok G B r)(h0:0<=n)(h1:n<=N):Ok G (B*N) ((n:Rat)*r):=by
 obtain⟨z,e,hz⟩:=h
 refine⟨z*n.toNat,?_,uX hz (by lia)⟩
 push_cast
 rw[Es h0,<-e]
 grind
theorem OD{F:Fn}(hF:∀{j k} {p q} S,Sz j p->Sz k q->j+k<=7990->F [aD p,aD q] S=Gc (aD (p+q),S)){gs:Gd}{S:Sto}(hg:gOk gs S){X:qR D}{G B K:Nat}(hG:0<G)(gK:G<2^K)(hK:2*K<=7990):∀{rs:Wp Rat} {acc} {m} {o},Ok G (m*B) acc->(∀r∈rs,Ok G B r)->(m+rs.length)*B<2^K->∃o',K1 gs (tNm 2) (BE 1 (AD F [eV 1,eV 2])) (rs.map aD) [X,Gc (aD acc),o] S=Gc (.nx,[X,Gc (aD (acc+rs.sum)),o'],S)
 | [],acc,m,o,ha,hr,hb=>⟨o,by
     rw[sQ,GQ hg,List.sum_nil]
     have:acc+0=acc:=by grind
     rw[this]⟩
 |r::rs,acc,m,o,ha,hr,hb=>by
  have h1:=hr r qh
  have b1:(m+1)*B<=(m+(r::rs).length)*B:=rP _ (by simp)
  have mb:(m+1)*B=m*B+B:=by rw[zy]
  have za:Sz K acc:=ha.sz hG gK (by lia)
  have zr:Sz K r:=h1.sz hG gK (by lia)
  have e:=hF S za zr (by lia)
  have ha2:Ok G ((m+1)*B) (acc+r):=by rw[mb];exact ha.add h1
  obtain⟨o',ih⟩:=OD hF hg hG gK hK (X:=X) (B:=B) (rs:=rs) (acc:=acc+r) (m:=m+1) (o:=Gc (aD r)) ha2 (λq hq=>hr q (qa _ hq)) (by
   have:m+1+rs.length=m+(r::rs).length:=by simp;lia
   rw[this];exact hb)
  refine⟨o',?_⟩
  have ea:acc+(r::rs).sum=acc+r+rs.sum:=by rw[rF];grind
  rw[qq,Dr hg,ea,<-ih]
  simp[e]
theorem VT:aD 0=.tup [.int 0,.int 1]:=rfl
section
variable{S:Sto}
def WX{rs:Wp Rat}{G B K:Nat}(hG:0<G)(gK:G<2^K)(hK:2*K<=7990)(hr:∀r∈rs,Ok G B r)(hb:rs.length*B<2^K):Cy [.lst (rs.map aD)] S=Gc (aD rs.sum,S):=by
 obtain⟨o',e⟩:=OD (F:=Fp) (λS h1 h2 h3=>ZU h1 h2 h3) (gs:=[]) (S:=S) Ac (X:=Gc (.lst (rs.map aD))) (B:=B) hG gK hK (rs:=rs) (acc:=0) (m:=0) (o:=none) (by rw[Nat.zero_mul];exact Ok.zero) hr (by simpa using hb)
 have ez:(0:Rat)+rs.sum=rs.sum:=by grind
 rw[ez,VT]at e
 simp[Cy,LV,Eu,e]
end
def K6(ls:Wp Ld):Prop:=∀l∈ls,l.ow.sum=1
theorem Nr{a b:Rat}:∀{ss os:Wp Rat},ss.length=os.length->(wH (λs o=>s*a+o*b) ss os).sum=ss.sum*a+os.sum*b
 | [],[],_=>by simp;grind
 |s::ss,o::os,h=>by
  rw[yR,rF,rF,rF,Nr (by simpa using h)]
  grind
def Oa{x:Rat}{os ss:Wp Rat}(h:ss.length=os.length)(h1:ss.sum=1)(h2:os.sum=1):(F6 x os ss).sum=1:=by
 unfold F6
 rw[Nr h,h1,h2]
 grind
def RW{n m:Int}{ss os:Wp Rat}(h:ss.length=os.length)(h1:ss.sum=1)(h2:os.sum=1)(h0:0<n+m):(Bv n m ss os).sum=1:=by
 have hc:((n+m:Int):Rat)≠0:=by
  intro z
  have:=uG.mp z
  lia
 have e:(λ(s o:Rat)=>(s*n+o*m) / ((n+m:Int):Rat))=λs o=>s*((n:Rat) / ((n+m:Int):Rat))+o*((m:Rat) / ((n+m:Int):Rat)):=by
  funext s o
  grind
 unfold Bv
 rw[e,Nr h,h1,h2]
 push_cast at hc⊢
 grind
theorem P7{v:Rat}:∀{l:Wp Rat} {i:Nat},i<l.length->(l.set i v).sum=l.sum-l.getD i 0+v
 |a::l,0,_=>by
  rw[zX,rF,rF]
  simp
  grind
 |a::l,i+1,h=>by
  rw[List.set_cons_succ,rF,rF,P7 (by simpa using h)]
  simp
  grind
def RA{p q:Nat}{x:Rat}{ss:Wp Rat}(hpq:p≠q)(hp:p<ss.length)(hq:q<ss.length):(E8 p q x ss).sum=ss.sum:=by
 unfold E8
 rw[P7 (by simpa using hq),P7 hp]
 have:(ss.set p (ss.getD p 0-ss.getD p 0*x)).getD q 0=ss.getD q 0:=by
  rw[qu,qT hpq,<-qu]
 rw[this]
 grind
theorem UQ{i:Nat}:∀{n:Nat},(Qv n i).sum=if i<n then 1 else 0
 |0=>by simp[Qv]
 |n+1=>by
  have ih:=UQ (i:=i) (n:=n)
  unfold Qv at ih⊢
  rw[List.range_succ,vF,List.sum_append,ih]
  by_cases h:n=i
  .subst h;simp;grind
  .have:i<n+1↔i<n:=by lia
   simp[h,this]
   grind
section
variable{t:Tr}{k:Nat}{st:Stt}{d:AN}
def GA{ls:Wp Ld}(h:K6 ls){l:Nat}{n:Int}(hl:l<ls.length):K6 (less ls l n):=λx hx=>by
 rcases JU hx hl with hx|rfl
 .exact h x hx
 .exact(h (AJ ls l) (AS hl):)
def JH{ls:Wp Ld}(h:K6 ls){y:Ld}(hy:y.ow.sum=1):K6 (ls++[y]):=λx hx=>by
 rcases rE.mp hx with hx|hx
 .exact h x hx
 .rw[rD.mp hx];exact hy
def Oz(h:EY t k st)(hc:Can t st d)(ho:K6 st.AA):K6 (step t st d).AA:=by
 cases d with
 |DQ p kd n=>
  refine JH ho ?_
  rw[UQ,rB hc.1]
 |Hr i j=>
  obtain⟨hij,hi,hj,h1,h2,h3⟩:=hc
  refine JH (GA (GA ho hi) (by rw[C0];exact hj)) ?_
  exact RW (by rw[h.own _ (AS hi),h.own _ (AS hj)]) (ho _ (AS hi)) (ho _ (AS hj)) (by lia)
 |swap i g kd n=>exact JH (GA ho hc.1) (ho (AJ st.AA i) (AS hc.1):)
 |Ck u i g kd n=>exact JH (GA ho hc.1) (ho (AJ st.AA i) (AS hc.1):)
 |Dj i n=>exact GA ho hc.1
 |thr i n ws=>
  intro x hx
  obtain⟨y,hy,rfl⟩:=rS.mp hx
  have hl:=hc.1
  have ly:y.ow.length=t.p:=by
   rcases JU hy hl with hy|rfl
   .exact h.own y hy
   .exact(h.own (AJ st.AA i) (AS hl):)
  exact Oa (by rw[ly,h.own _ (AS hl)]) (GA ho hl y hy) (ho _ (AS hl))
 |GN p q x=>
  intro y hy
  obtain⟨z,hz,rfl⟩:=rS.mp hy
  obtain⟨h1,h2,h3,_⟩:=hc
  have:=h.own z hz
  show(E8 p q x z.ow).sum=1
  rw[RA h1 (by lia) (by lia)]
  exact ho z hz
def UW(h:EY t k st)(hc:Can t st d)(ho:K6 st.AA)(hh:st.hold.sum=1):(step t st d).hold.sum=1:=by
 cases d with
 |thr i n ws=>exact Oa (by rw[h.hold,h.own _ (AS hc.1)]) hh (ho _ (AS hc.1))
 |GN p q x=>
  obtain⟨h1,h2,h3,_⟩:=hc
  show(E8 p q x st.hold).sum=1
  rw[RA h1 (by rw[h.hold];exact h2) (by rw[h.hold];exact h3)]
  exact hh
 |_=>exact hh
theorem Pc(ht:G5 t):∀{ds:Wp AN} {st:Stt} {k:Nat},EY t k st->J1 t st ds->k+ds.length<=17->K6 st.AA->st.hold.sum=1->(runs t st ds).hold.sum=1
 | [],st,k,h,_,_,o,e=>e
 |d::ds,st,k,h,g,hl,o,e=>Pc ht (ds:=ds) (K0 ht h (by simp at hl;lia) g.1) g.2 (by simp at hl;lia) (Oz h g.1 o) (UW h g.1 o e)
def Bc.fc{ls:Wp Ld}{ds:Wp AN}(h:Bc t ls ds)(ho:K6 ls)(hh:t.ho.sum=1)(n:Nat):(runs t (st0 t ls) (ds.take n)).hold.sum=1:=by
 obtain⟨k,hk,z⟩:=h.lev
 exact Pc h.tr z (Hu h.good) (by simp;lia) ho hh
theorem Oj(ht:G5 t):∀{ds:Wp AN} {st:Stt} {k:Nat},EY t k st->J1 t st ds->k+ds.length<=17->K6 st.AA->K6 (runs t st ds).AA
 | [],st,k,h,_,_,o=>o
 |d::ds,st,k,h,g,hl,o=>Oj ht (ds:=ds) (K0 ht h (by simp at hl;lia) g.1) g.2 (by simp at hl;lia) (Oz h g.1 o)
def Bc.ones{ls:Wp Ld}{ds:Wp AN}(h:Bc t ls ds)(ho:K6 ls)(n:Nat):K6 (runs t (st0 t ls) (ds.take n)).AA:=by
 obtain⟨k,hk,z⟩:=h.lev
 exact Oj h.tr z (Hu h.good) (by simp;lia) ho
end
section
variable{S:Sto}{t:Tr}{ls L:Wp Ld}{ds:Wp AN}{n p i q:Nat}{x:Rat}
def Rb(h:Bc t ls ds)(hn:n<=ds.length):FN [AG t ls ds,.int n] S=Gc (A4 (runs t (st0 t ls) (ds.take n)).AA,S):=by
 have hl0:ls.length<=4:=h.four
 have hd:=h.len
 have ct:=Ja (ds:=ds.map AN.d) (n:=n) (by simp;lia)
 obtain⟨E',S',ef,i,o,f1,f2,rfl,rfl⟩:=J0 (gs:=[]) (t:=tNm 3) (b:=BE 2 (AD Aa [eV 2,eV 3]))
  (I:=λrs E S'=>∃(i:Nat) (o:qR D),rs=((ds.take n).drop i).map AN.d/\i<=n/\E=[Gc (AG t ls ds),Gc (.int n),Gc (A4 (runs t (st0 t ls) (ds.take i)).AA),o]/\S'=S)
  (λ_ _ _ _=>Ac) (ds:=(ds.take n).map AN.d) (E:=[Gc (AG t ls ds),Gc (.int n),Gc (A4 ls),none]) (S:=S)
  ⟨0,none,by simp,tP _,by simp[runs,st0],rfl⟩ (by
    rintro dd rs E T ⟨i,o,i1,i2,rfl,rfl⟩
    have hlt:i<(ds.take n).length:=by
     rcases yT i (ds.take n).length with w|w
     .exact w
     .rw[uP w]at i1;cases i1
    rw[sP hlt,qq]at i1
    injection i1 with z1 z2
    subst z1 z2
    have hlt':i<ds.length:=by simp at hlt;lia
    have hin:i<n:=by simp at hlt;lia
    have hg:(ds.take n)[i]=ds[i]:=List.getElem_take
    rw[hg]
    have can:=Nv h.good (qZ hlt')
    have il0:(ds.take i).length<=16:=by simp;lia
    have il:16<=16:=qW _
    have e3:=LU (S:=T) (h.at i) (by lia) can
    have rt:=LX (t:=t) (st:=st0 t ls) (qZ hlt')
    refine⟨_,[Gc (AG t ls ds),Gc (.int n),Gc (A4 (runs t (st0 t ls) (ds.take (i+1))).AA),Gc ds[i].d],T,by simp;rfl,?_,i+1,Gc ds[i].d,rfl,hin,rfl,rfl⟩
    rw[rt]
    simp[e3])
 have hz:i=n:=by
  have:=congrArg xf f1
  simp at this
  lia
 subst hz
 have fh:=Jp (S:=S') (ls:=ls) (x:=t.d) (y:=.tup (ds.map AN.d)) (by lia)
 simp only[AG]at ef⊢
 rw[vh]at ef
 simp[FN,Ls,fh,ct,ef]
end
theorem VV{α:Type}{t:Tf}{b:Ex}{C:En}{m q:Nat}{e h:α->D}:∀{xs:Wp α} {acc:Wp D} {os:En} {S:Sto},os.length=m->S[q]?=Gc (.lst acc)->acc.length+xs.length<=1000->(∀x∈xs,∀os S acc,os.length=m->S[q]?=Gc (.lst acc)->acc.length<sizeLine->∃us us' S',t (e x) (C++os) S=Gc (C++us)/\b (C++us) S=Gc (.nx,C++us',S'.set q (.lst (acc++[h x])))/\us'.length=m/\Bt [] S S')->∃os' S',os'.length=m/\K1 [] t b (xs.map e) (C++os) S=Gc (.nx,C++os',S')/\S'[q]?=Gc (.lst (acc++xs.map h))/\Bt [q] S S'
 | [],acc,os,S,ho,hq,hz,H=>⟨os,S,ho,by rw[sQ,GQ Ac],by simpa using hq,.refl⟩
 |x::xs,acc,os,S,ho,hq,hz,H=>by
  obtain⟨us,us',S1,e1,e2,hu,sm⟩:=H x qh os S acc ho hq (qS (show acc.length<1001 by simp at hz;lia) (by decide))
  have q1:=sm.get hq (by simp)
  obtain⟨os',S2,ho',e3,q2,s2⟩:=VV (t:=t) (b:=b) (C:=C) (e:=e) (h:=h) (xs:=xs) (acc:=acc++[h x]) (os:=us') (S:=S1.set q (.lst (acc++[h x]))) hu (qb (AX q1)) (by simp at hz ⊢; lia) λx' hx=>H x' (qa _ hx)
  refine⟨os',S2,ho',?_,by simpa using q2,((sm.mono λ_ z=>(nomatch z)).trans (.set (by simp))).trans s2⟩
  rw[qq,Dr Ac,e1,A1,e2,A1,P6,e3]
noncomputable def Ml(t:Tr)(st:Stt)(x:Ld):Wp Rat:=Pj (10-t.h) t.h x.ow st.hold
noncomputable def JX(t:Tr)(st:Stt)(x:Ld):Wp Rat:=(Ml t st x).map λr=>(x.n:Rat)*r
def HOk(t:Tr):Prop:=0<=t.h/\t.h<=9/\0<=t.l/\t.l<=9
def RP{t:Tr}(hh:HOk t){st:Stt}{x:Ld}{G B:Nat}(h1:∀r∈x.ow,Ok G B r)(h2:∀r∈st.hold,Ok G B r):∀r∈Ml t st x,Ok (G*10) (B*10) r:=by
 intro r hr
 unfold Ml Pj at hr
 rw[tW]at hr
 obtain⟨i,hi'⟩:=hr
 rw[u9]at hi'
 obtain⟨s,o,hs,ho,rfl⟩:=hi'
 obtain⟨a1,a2,_,_⟩:=hh
 have:=Ok.mix (a:=(10-t.h).toNat) (b:=t.h.toNat) (t:=10) (h1 s (qo hs)) (h2 o (qo ho)) (by lia) (by decide)
 rw[Es (by lia),Es (by lia)]at this
 have e:(((10-t.h:Int):Rat)+(t.h:Rat))=((10:Nat):Rat):=by push_cast;grind
 rw[e]
 exact this
def Ye{t:Tr}(hh:HOk t){st:Stt}{x:Ld}{G B N:Nat}(h1:∀r∈x.ow,Ok G B r)(h2:∀r∈st.hold,Ok G B r)(n0:0<=x.n)(n1:x.n<=N):∀r∈JX t st x,Ok (G*10) (B*10*N) r:=by
 intro r hr
 obtain⟨y,hy,rfl⟩:=rS.mp hr
 exact(RP hh h1 h2 y hy).oE n0 n1
section
variable{S:Sto}{t:Tr}{ls:Wp Ld}{ds:Wp AN}
def Bc.fin(h:Bc t ls ds):EY t 16 (runs t (st0 t ls) ds):=by
 have:=h.at ds.length
 rwa [uz]at this
def QO(h:Bc t ls ds)(hh:HOk t):∃q S',ED [AG t ls ds] S=Gc (.ref q,S')/\S'[q]?=Gc (.lst ((runs t (st0 t ls) ds).AA.map λx=>shD (JX t (runs t (st0 t ls) ds) x)))/\Bt [] S S'/\S.length<=q:=by
 obtain⟨S1,e1,s1⟩:=Q9 (S:=S) h (n:=ds.length) (qW _)
 rw[uz]at e1
 have inv:=h.fin
 have hlen:=inv.len
 have sz:=inv.sz
 have tp:=h.tr.2.1
 obtain⟨G,B,g0,gb,bb,k1,k2⟩:=inv.gb
 generalize runs t (st0 t ls) ds=st at*
 have hq:(S1++[Cl.lst []])[S1.length]?=Gc (.lst []):=qy
 have ez:MF (st.AA.map hD) (st.AA.map λx=>shD x.ow)=st.AA.map λx=>.tup [hD x,shD x.ow]:=by
  unfold MF
  rw[List.zip_map',sI]
  rfl
 have hh':=hh
 obtain⟨a1,a2,_,_⟩:=hh
 obtain⟨os',S2,ho',e2,q2,s2⟩:=VV (t:=tTp [tTp [tNm 7,tNm 8],tNm 6]) (b:=AM (BE 9 (AD BN [eV 6,eOp (o2 OK) [eC (.int 10),eV 1],eV 4,eV 1]))
  (BV (Hy LA (eV 5) [eOp (o1 DF) [CN [8] 1 (HC (eV 9)) (tNm 1) Bk (AD CH [Bh [eV 0,eC (.int 1)],eV 1])]]))) (C:=[Gc (AG t ls ds),Gc (.int t.h),Gc (A4 st.AA),Gc (Ke st.AA),Gc (shD st.hold),Gc (.ref S1.length)]) (m:=4) (q:=S1.length) (e:=λx:Ld=>D.tup [hD x,shD x.ow]) (h:=λx=>shD (JX t st x)) (xs:=st.AA) (acc:=[]) (os:=[none,none,none,none]) (S:=S1++[Cl.lst []]) rfl hq (by simp;lia) (by
    intro x hx os S0 acc ho hq0 hz
    obtain⟨o1,o2,o3,o4,rfl⟩:∃o1 o2 o3 o4,os=[o1,o2,o3,o4]:=by
     match os,ho with
     | [a,b,c,d],_=>exact⟨a,b,c,d,rfl⟩
    have px:=inv.pcs x hx
    have hw:(10-t.h).natAbs<2^4:=by show _<16;lia
    have hm:t.h.natAbs<2^4:=by show _<16;lia
    have ms:=Dg (S:=S0) (w:=10-t.h) (m:=t.h) (j:=30+170*16) (n:=4) (sz.1 x hx) sz.2 hw hm (by lia) (by decide) (by rw[inv.own x hx];lia)
    have zp:∀r∈Pj (10-t.h) t.h x.ow st.hold,Sz (30+170*16+4) r:=λr hr=>(RP hh' (k1 x hx) k2 r hr).sz (vQ g0 (by decide)) (by
     have:=Bm (q8 gb bb) (show 10<2^4 by decide)
     exact this) (Bm bb (show 10<2^4 by decide))
    have cz:=Dd (gs:=[]) (t:=tNm 1) (f:=AD CH [Bh [eV 0,eC (.int 1)],eV 1]) (C:=[Gc (.int x.n)]) (m:=1) (e:=aD) (g:=λr=>aD ((x.n:Rat)*r)) (S:=S0) Ac (xs:=Pj (10-t.h) t.h x.ow st.hold) (acc:=[]) (os:=[none]) rfl (qU (show _<=50 by rw[vk,Nat.zero_add,Pj,FQ (inv.own x hx) inv.hold];lia) (AK (by decide))) (by
     intro r hr os ho
     obtain⟨o,rfl⟩:∃o,os=[o]:=by
      match os,ho with
      | [a],_=>exact⟨a,rfl⟩
     have l:=UY (S:=S0) (PJ (FA px.1 px.2) (by decide)) (zp r hr) (by decide)
     rw[Ve]at l
     refine⟨[Gc (aD r)],rfl,by simp,?_⟩
     simp[l])
    have ed:(Pj (10-t.h) t.h x.ow st.hold).map (λr=>aD ((x.n:Rat)*r))=(JX t st x).map aD:=by
     unfold JX Ml
     rw[sI];rfl
    rw[ed]at cz
    simp only[rX,rH]at cz
    refine⟨[Gc (shD x.ow),Gc (.int x.k),Gc (.int x.n),o4],[Gc (shD x.ow),Gc (.int x.k),Gc (.int x.n),Gc (shD (Pj (10-t.h) t.h x.ow st.hold))],S0,by simp,?_,rfl,.refl⟩
    simp[ms,AL hq0,cz,Lb,hz])
 refine⟨S1.length,S2,?_,by simpa using q2,?_,s1.len⟩
 .rw[<-ez]at e2
  simp only[rX,rH]at e2
  simp only[AG]at e1 e2⊢
  have tdd:wIx (.val t.d) (.val (.int 4))=Gc (.val (.int t.h)):=by simp[Tr.d]
  have dt:∀T:Sto,dr T t.d=.val t.d:=λ_=>rfl
  have c4:atI [D.int (t.p:Int),D.int (t.k:Int),D.int (t.b:Int),shD t.ho,D.int t.h,D.int t.l] 4=Gc (.int t.h):=by simp
  have ast:asS (.val t.d)=Gc [D.int (t.p:Int),D.int (t.k:Int),D.int (t.b:Int),shD t.ho,D.int t.h,D.int t.l]:=rfl
  simp[ED,KQ,dt,ast,e1,e2]
 .refine⟨qU s1.len (qU (by simp) s2.len),λn hn _=>?_⟩
  have l1:=s1.len
  rw[s2.keep n (by simp;lia) (by simp;lia),qQ (by lia)]
  exact s1.keep n hn (by simp)
end
section
variable{S:Sto}{p:Nat}
def Sk(h:Df p S):∃t S',Ge [.ref p] S=Gc (Tr.d t,S')/\Pn p S S'/\G5 t/\(t.ho.length=t.p/\t.ho.sum=1)/\HOk t/\∃G:Nat,0<G/\G<=32/\∀r∈t.ho,Ok G G r:=by
 obtain⟨r1,S1,e1,a1,b1,p1⟩:=Aq h (n:=4) (by decide) (by decide)
 obtain⟨r2,S2,e2,a2,b2,p2⟩:=Aq p1.pen (n:=5) (by decide) (by decide)
 obtain⟨r3,S3,e3,a3,b3,p3⟩:=Aq p2.pen (n:=3) (by decide) (by decide)
 obtain⟨r4,S4,e4,a4,b4,p4⟩:=Aq p3.pen (n:=20) (by decide) (by decide)
 obtain⟨r5,S5,e5,a5,b5,p5⟩:=Aq p4.pen (n:=2) (by decide) (by decide)
 obtain⟨m1,rfl⟩:=II a1
 obtain⟨m2,rfl⟩:=II a2
 obtain⟨b,eb,hb1,hb2⟩:∃b:Nat,atI [D.int (1+r3),.int (1+r4)] r5=Gc (.int b)/\1<=b/\b<=20:=by
  obtain⟨x,ex,hx⟩:=pick (xs:=[D.int (1+r3),.int (1+r4)]) (r:=r5) a5 (by simpa using b5)
  obtain⟨m3,rfl⟩:=II a3
  obtain⟨m4,rfl⟩:=II a4
  simp only[qY,qp,sC]at hx
  rcases hx with rfl|rfl
  .exact⟨1+m3,by rw[ex];simp,by lia,by lia⟩
  .exact⟨1+m4,by rw[ex];simp,by lia,by lia⟩
 obtain⟨rs,S6,e6,p6,l6,G,g0,g1,g2⟩:=Qq p5.pen (n:=1+m1) (by lia) (by lia)
 obtain⟨r7,S7,e7,a7,b7,p7⟩:=Aq p6.pen (n:=10) (by decide) (by decide)
 obtain⟨r8,S8,e8,a8,b8,p8⟩:=Aq p7.pen (n:=10) (by decide) (by decide)
 rw[show((1+m1:Nat):Int)=1+(m1:Int) by lia]at e6
 refine⟨⟨1+m1,1+m2,b,rs,r7,r8⟩,S8,?_,((((((p1.trans p2).trans p3).trans p4).trans p5).trans p6).trans p7).trans p8,⟨by simp,by simp;lia,by simp,by simp;lia,hb1,hb2⟩,l6,⟨a7,by show r7<=9;lia,a8,by show r8<=9;lia⟩,G,g0,g1,g2⟩
 simp[Ge,LZ,e1,e2,e3,e4,e5,eb,e6,e7,e8,Tr.d]
structure Wk(t:Tr)(ls:Wp Ld)(ds:Wp AN)(n j:Nat):Prop where
 bk:Bc t ls ds
 hh:HOk t
 ho:K6 ls/\t.ho.sum=1
 lv:∃m G B,m+ds.length<=n/\0<G/\G<=B/\B<2^(26+161*m+7*j)/\(∀x∈ls,∀r∈x.ow,Ok G B r)/\∀r∈t.ho,Ok G B r
def Rg{t:Tr}{ls:Wp Ld}(h:EO t ls)(hl:ls.length<=4){g:Nat}(g0:0<g)(g1:g<=32)(g2:∀r∈t.ho,Ok g g r):∃G,0<G/\G<2^26/\(∀x∈ls,∀r∈x.ow,Ok G G r)/\∀r∈t.ho,Ok G G r:=by
 obtain⟨ha,G,G0,G1,G2⟩:=h
 have hG:G<=32^4:=qU G1 (rO (by decide) hl)
 have hB:G*g<2^26:=by
  have:=uX hG g1
  lia
 refine⟨G*g,vQ G0 g0,hB,λx hx r hr=>(G2 x hx r hr).up (qW _),λr hr=>?_⟩
 have:=(g2 r hr).up (t:=G) (B':=G*g) (by rw[uB];exact qW _)
 rwa [uB g G]at this
end
noncomputable def flI(r:Rat):Int:=r.num / (r.den:Int)
def L4{i:Int}:flI (i:Rat)=i:=by
 show(i:Rat).num / (((i:Rat).den:Nat):Int)=i
 simp
def VJ(r:Rat):r-(flI r:Rat)=((r.num % (r.den:Int):Int):Rat) / (((r.den:Int):Int):Rat):=by
 have h0:(((r.den:Int):Int):Rat)≠0:=by
  have:=G9 r
  simpa using this
 have h1:r=(r.num:Rat) / (((r.den:Int):Int):Rat):=by
  have e:(((r.den:Int):Int):Rat)=(r.den:Rat):=Rat.intCast_natCast _
  rw[e]
  exact(Ce r).symm
 have h2:(r.num:Rat)=(((r.den:Int):Int):Rat)*((flI r:Int):Rat)+((r.num % (r.den:Int):Int):Rat):=by
  have:r.num=(r.den:Int)*flI r+r.num % (r.den:Int):=(Int.mul_ediv_add_emod _ _).symm
  exact_mod_cast congrArg (λi:Int=>(i:Rat)) this
 generalize (flI r:Rat)=f at*
 generalize ((r.num % (r.den:Int):Int):Rat)=m at*
 generalize (((r.den:Int):Int):Rat)=d at*
 generalize (r.num:Rat)=n at*
 grind
def PK{r d:Rat}(hg:0<d)(hz:0<=r*d):0<=r:=by
 rcases Rat.le_total (a:=0) (b:=r)with w|w
 .exact w
 .have:=tq w (wJ hg)
  rw[Rat.zero_mul]at this
  have e0:=Rat.le_antisymm this hz
  have:r=0:=by grind
  rw[this]
  exact y9
def Ok.num{G B:Nat}{r:Rat}(hG:0<G)(h:Ok G B r):0<=r.num:=by
 obtain⟨z,e,_⟩:=h
 have hg:(0:Rat)<(G:Rat):=by exact_mod_cast hG
 have hz:(0:Rat)<=(z:Rat):=by exact_mod_cast tP z
 rw[zA]
 exact PK hg (by rw[e];exact hz)
def Ok.fl{G B:Nat}{r:Rat}(hG:0<G)(h:Ok G B r):0<=flI r:=Int.ediv_nonneg (h.num hG) (by lia)
def Ok.mO{G B:Nat}{r:Rat}(hG:0<G)(h:Ok G B r):Ok G B (r-(flI r:Rat)):=by
 have f0:=h.fl hG
 have hf:=VJ r
 obtain⟨z,e,hz⟩:=h
 have hg:(0:Rat)<(G:Rat):=by exact_mod_cast hG
 have hge:(0:Rat)<=r-(flI r:Rat):=by
  rw[hf]
  have h1:(0:Int)<=r.num % (r.den:Int):=uL _ (by have:=den_pos r;lia)
  have h2:(0:Rat)<=((r.num % (r.den:Int):Int):Rat):=by exact_mod_cast h1
  have h3:(0:Rat)<(((r.den:Int):Int):Rat):=by exact_mod_cast (den_pos r)
  refine PK h3 ?_
  generalize (((r.den:Int):Int):Rat)=d at*
  have:((r.num % (r.den:Int):Int):Rat) / d*d=((r.num % (r.den:Int):Int):Rat):=by
   have:d≠0:=λz=>by rw[z]at h3;exact absurd h3 (Rat.not_lt.mpr y9)
   grind
  rw[this]
  exact h2
 have e2:(r-(flI r:Rat))*(G:Rat)=(((z:Int)-flI r*(G:Int):Int):Rat):=by
  push_cast
  grind
 have h4:(0:Rat)<=(((z:Int)-flI r*(G:Int):Int):Rat):=by
  rw[<-e2]
  exact Rat.mul_nonneg hge (wJ hg)
 have h5:(0:Int)<=(z:Int)-flI r*(G:Int):=by exact_mod_cast h4
 have h6:(0:Int)<=flI r*(G:Int):=y4 f0 (by lia)
 refine⟨((z:Int)-flI r*(G:Int)).toNat,?_,by lia⟩
 rw[e2]
 have:((((z:Int)-flI r*(G:Int)).toNat:Nat):Int)=(z:Int)-flI r*(G:Int):=by lia
 exact_mod_cast congrArg (λi:Int=>(i:Rat)) this.symm
theorem Ok.sum{G B:Nat}:∀{rs:Wp Rat},(∀r∈rs,Ok G B r)->Ok G (rs.length*B) rs.sum
 | [],_=>by simp;exact Ok.zero
 |r::rs,h=>by
  rw[rF,rT,zy,yM]
  exact(h r qh).add (Ok.sum λq hq=>h q (qa _ hq))
noncomputable def Aw(t:Tr)(st:Stt)(x:Ld):Wp Rat:=(JX t st x).map λr=>r-(flI r:Rat)
noncomputable def CS(t:Tr)(st:Stt)(x:Ld):Int:=x.n-((JX t st x).map flI).sum
noncomputable def kR(t:Tr)(st:Stt)(x:Ld):D:=.tup [.int x.k,.int (CS t st x),shD ((Aw t st x).map λr=>r*(((1:Int):Rat) / (CS t st x:Rat)))]
noncomputable def L5(t:Tr)(st:Stt)(x:Ld):Wp D:=if 0<CS t st x then [kR t st x]else []
theorem UO:∀{rs:Wp Rat},(rs.map λr=>r-(flI r:Rat)).sum=rs.sum-(((rs.map flI).sum:Int):Rat)
 | []=>by simp;grind
 |r::rs=>by
  rw[qq,rF,qq,rF,rF,UO]
  push_cast
  grind
theorem Pp{c:Rat}:∀{rs:Wp Rat},(rs.map λr=>c*r).sum=c*rs.sum
 | []=>by simp
 |r::rs=>by
  rw[qq,rF,rF,Pp]
  grind
def eO{rs:Wp Rat}(h:∀r∈rs,0<=flI r):0<=(rs.map flI).sum:=by
 induction rs with
 |nil=>simp
 |cons r rs ih=>
  rw[qq,rF]
  have:=h r qh
  have:=ih λq hq=>h q (qa _ hq)
  lia
def fL{n:Int}(h:0<n):D.tup [.int 1,.int n]=aD (((1:Int):Rat) / (n:Rat)):=by
 rw[<-HF h]
 have:NC 1 n=1:=by simp[NC]
 simp[amD,lowP,this]
def ZK{t:Tr}{st:Stt}{x:Ld}(hh:HOk t)(h1:x.ow.sum=1)(h2:st.hold.sum=1)(hl:x.ow.length=st.hold.length):(JX t st x).sum=(x.n:Rat):=by
 unfold JX Ml Pj
 rw[Pp]
 have e10:(((10-t.h:Int):Rat)+(t.h:Rat))=10:=by push_cast;grind
 have e:(λ(s o:Rat)=>(s*((10-t.h:Int):Rat)+o*(t.h:Rat)) / (((10-t.h:Int):Rat)+(t.h:Rat)))=λs o=>s*(((10-t.h:Int):Rat) / 10)+o*((t.h:Rat) / 10):=by
  funext s o
  rw[e10]
  grind
 rw[e,Nr hl,h1,h2]
 have:(1:Rat)*(((10-t.h:Int):Rat) / 10)+1*((t.h:Rat) / 10)=1:=by
  have:((10-t.h:Int):Rat)=10-(t.h:Rat):=by push_cast;rfl
  rw[this]
  grind
 rw[this]
 grind
def UC{t:Tr}{st:Stt}{x:Ld}(hh:HOk t)(h1:x.ow.sum=1)(h2:st.hold.sum=1)(hl:x.ow.length=st.hold.length):(Aw t st x).sum=(CS t st x:Rat):=by
 unfold Aw CS
 rw[UO,ZK hh h1 h2 hl]
 push_cast
 rfl
theorem U4{α:Type}{gs:Gd}{t:Tf}{b:Ex}{C:En}{m q:Nat}{S0:Sto}{e:α->D}{h:α->Wp D}(hg:∀T,Bt [q] S0 T->gOk gs T):∀{xs:Wp α} {acc:Wp D} {os:En} {S:Sto},os.length=m->S[q]?=Gc (.lst acc)->Bt [q] S0 S->acc.length+xs.length<=1000->(∀x∈xs,(h x).length<=1)->(∀x∈xs,∀os S acc,os.length=m->S[q]?=Gc (.lst acc)->acc.length<sizeLine->Bt [q] S0 S->∃us us' S',t (e x) (C++os) S=Gc (C++us)/\b (C++us) S=Gc (.nx,C++us',S'.set q (.lst (acc++h x)))/\us'.length=m/\Bt [] S S')->∃os' S',os'.length=m/\K1 gs t b (xs.map e) (C++os) S=Gc (.nx,C++os',S')/\S'[q]?=Gc (.lst (acc++xs.flatMap h))/\Bt [q] S S'
 | [],acc,os,S,ho,hq,hs,hz,h1,H=>⟨os,S,ho,by rw[sQ,GQ (hg S hs)],by simpa using hq,.refl⟩
 |x::xs,acc,os,S,ho,hq,hs,hz,h1,H=>by
  obtain⟨us,us',S1,e1,e2,hu,sm⟩:=H x qh os S acc ho hq (qS (show acc.length<1001 by simp at hz;lia) (by decide)) hs
  have q1:=sm.get hq (by simp)
  have s1:Bt [q] S (S1.set q (.lst (acc++h x))):=(sm.mono λ_ z=>(nomatch z)).trans (.set (by simp))
  have hx:=h1 x qh
  obtain⟨os',S2,ho',e3,q2,s2⟩:=U4 hg (t:=t) (b:=b) (C:=C) (e:=e) (h:=h) (xs:=xs) (acc:=acc++h x) (os:=us') (S:=S1.set q (.lst (acc++h x))) hu (qb (AX q1)) (hs.trans s1) (by simp at hz ⊢; lia) (λx' hx=>h1 x' (qa _ hx)) λx' hx=>H x' (qa _ hx)
  refine⟨os',S2,ho',?_,by simpa using q2,s1.trans s2⟩
  rw[qq,Dr (hg S hs),e1,A1,e2,A1,P6,e3]
section
variable{S:Sto}{t:Tr}{ls:Wp Ld}{ds:Wp AN}
def ZV{r:Rat}{k:Nat}(h:Sz k r)(hk:k<=8000):Am [aD r] S=Gc (.int (flI r),S):=by
 have h1:0<(r.den:Int):=den_pos r
 have h2:((r.den:Nat):Int).natAbs<E5:=by
  rw[tM]
  exact CT h.2 hk
 unfold aD flI
 generalize hd:((r.den:Nat):Int)=d at*
 simp[Am,Gw,h1,h2]
def aJ(h:Bc t ls ds)(hh:HOk t):∃G B:Nat,0<G/\G<2^2760/\B<2^2905/\∀x∈(runs t (st0 t ls) ds).AA,∀r∈JX t (runs t (st0 t ls) ds) x,Ok G B r:=by
 have inv:=h.fin
 obtain⟨G,B,g0,gb,bb,k1,k2⟩:=inv.gb
 refine⟨G*10,B*10*2^147,by lia,?_,?_,λx hx=>Ye hh (k1 x hx) k2 (inv.pcs x hx).1 ?_⟩
 .have:G<2^(30+170*16):=q8 gb bb
  exact qS (Bm this (show 10<2^4 by decide)) (rO (by decide) (by decide))
 .have:=Bm (Bm bb (show 10<2^4 by decide)) (show 2^147<2^148 by exact sO (by decide) (by decide))
  exact qS this (rO (by decide) (by decide))
 .have:=(inv.pcs x hx).2
  have e:((2^147:Nat):Int)=2^(131+16):=by decide
  lia
end
section
variable{S:Sto}{t:Tr}{ls:Wp Ld}{ds:Wp AN}
def cg{rs:Wp Rat}(hl:rs.length<=50)(hz:∀r∈rs,Sz 2906 r):Bj [] (tNm 0) Bk (AD DX [eV 0,Bh [AD Am [eV 0],eC (.int 1)]]) (rs.map aD) [] [none] S=Gc ((rs.map λr=>r-(flI r:Rat)).map aD,S):=by
 have c:=Dd (gs:=[]) (t:=tNm 0) (f:=AD DX [eV 0,Bh [AD Am [eV 0],eC (.int 1)]]) (C:=[]) (m:=1) (e:=aD) (g:=λr=>aD (r-(flI r:Rat))) (S:=S) Ac (xs:=rs) (acc:=[]) (os:=[none]) rfl (qU (show _<=50 by simpa using hl) (AK (by decide))) (by
  intro r hr os ho
  obtain⟨o,rfl⟩:∃o,os=[o]:=by
   match os,ho with
   | [a],_=>exact⟨a,rfl⟩
  have z:=hz r hr
  have w:=ZV (S:=S) z (by decide)
  have zf:Sz 2906 (flI r:Rat):=PJ (q8 (by
   unfold flI
   exact xV _ _) z.1) (by decide)
  have l:=fR (S:=S) z zf (by decide)
  rw[Ve]at l
  refine⟨[Gc (aD r)],rfl,by simp,?_⟩
  generalize aD (r-(flI r:Rat))=R at*
  generalize flI r=f at*
  generalize aD r=R2 at*
  simp[w,l])
 rw[sI]
 exact c
def fe{rs:Wp Rat}{n:Int}(h0:0<n)(hn:n.natAbs<2^150)(hl:rs.length<=50)(hz:∀r∈rs,Sz 2906 r):Bj [] (tNm 1) Bk (AD CH [eV 1,Bh [eC (.int 1),eV 0]]) (rs.map aD) [] [Gc (.int n),none] S=Gc ((rs.map λr=>r*(((1:Int):Rat) / (n:Rat))).map aD,S):=by
 have zn:Sz 150 (((1:Int):Rat) / (n:Rat)):=Lu h0 (by decide) hn
 have c:=Dd (gs:=[]) (t:=tNm 1) (f:=AD CH [eV 1,Bh [eC (.int 1),eV 0]]) (C:=[Gc (.int n)]) (m:=1) (e:=aD) (g:=λr=>aD (r*(((1:Int):Rat) / (n:Rat)))) (S:=S) Ac (xs:=rs) (acc:=[]) (os:=[none]) rfl (qU (show _<=50 by simpa using hl) (AK (by decide))) (by
  intro r hr os ho
  obtain⟨o,rfl⟩:∃o,os=[o]:=by
   match os,ho with
   | [a],_=>exact⟨a,rfl⟩
  have l:=UY (S:=S) (hz r hr) zn (by decide)
  rw[<-fL h0]at l
  refine⟨[Gc (aD r)],rfl,by simp,?_⟩
  generalize aD (r*(((1:Int):Rat) / (n:Rat)))=R at*
  generalize aD r=R2 at*
  simp[l])
 rw[sI]
 exact c
structure Ob(t:Tr)(st:Stt)(x:Ld):Prop where
 len:(JX t st x).length<=4
 pK:(JX t st x).length=t.p
 ok:∃G B:Nat,0<G/\G<2^2760/\B<2^2905/\∀r∈JX t st x,Ok G B r
 sum:(Aw t st x).sum=(CS t st x:Rat)
 n0:0<=x.n
 n1:x.n<2^147
def UN(h:Bc t ls ds)(hh:HOk t)(ho:K6 ls/\t.ho.sum=1):∀x∈(runs t (st0 t ls) ds).AA,Ob t (runs t (st0 t ls) ds) x:=by
 intro x hx
 have inv:=h.fin
 have tp:=h.tr.2.1
 have on:=h.ones ho.1 ds.length
 have hs:=h.fc ho.1 ho.2 ds.length
 rw[uz]at on hs
 obtain⟨G,B,g0,gg,bb,k⟩:=aJ h hh
 have hl:(JX t (runs t (st0 t ls) ds) x).length=t.p:=by
  unfold JX Ml
  rw[rG,Pj,FQ (inv.own x hx) inv.hold]
 exact⟨by lia,hl,⟨G,B,g0,gg,bb,k x hx⟩,UC hh (on x hx) hs (by rw[inv.own x hx,inv.hold]),(inv.pcs x hx).1,(inv.pcs x hx).2⟩
def Ob.sz{st:Stt}{x:Ld}(h:Ob t st x):∀r∈JX t st x,Sz 2906 r:=by
 obtain⟨G,B,g0,gg,bb,k⟩:=h.ok
 exact λr hr=>(k r hr).sz g0 (vB gg (sO (by decide) (by decide))) (vB bb (sO (by decide) (by decide)))
def Ob.fl{st:Stt}{x:Ld}(h:Ob t st x):∀r∈JX t st x,0<=flI r:=by
 obtain⟨G,B,g0,gg,bb,k⟩:=h.ok
 exact λr hr=>(k r hr).fl g0
def Ob.sok{st:Stt}{x:Ld}(h:Ob t st x):∃G B:Nat,0<G/\G<2^2760/\B<2^2905/\∀r∈Aw t st x,Ok G B r:=by
 obtain⟨G,B,g0,gg,bb,k⟩:=h.ok
 refine⟨G,B,g0,gg,bb,λr hr=>?_⟩
 obtain⟨y,hy,rfl⟩:=rS.mp hr
 exact(k y hy).mO g0
def Ob.ssz{st:Stt}{x:Ld}(h:Ob t st x):∀r∈Aw t st x,Sz 2906 r:=by
 obtain⟨G,B,g0,gg,bb,k⟩:=h.sok
 exact λr hr=>(k r hr).sz g0 (vB gg (sO (by decide) (by decide))) (vB bb (sO (by decide) (by decide)))
def Ob.left{st:Stt}{x:Ld}(h:Ob t st x):CS t st x<=x.n:=by
 have:=eO h.fl
 unfold CS
 lia
def Ob.total{st:Stt}{x:Ld}(h:Ob t st x):Cy [.lst ((Aw t st x).map aD)] S=Gc (aD (CS t st x:Rat),S):=by
 obtain⟨G,B,g0,gg,bb,k⟩:=h.sok
 have hl:(Aw t st x).length<=4:=by
  unfold Aw
  rw[rG]
  exact h.len
 have tt:=WX (S:=S) (rs:=Aw t st x) (K:=2910) g0 (vB gg (sO (by decide) (by decide))) (by decide) k (by
  have h1:(Aw t st x).length*B<=4*2^2905:=uX hl (uO bb)
  have h2:4*2^2905=2^2907:=by rw[show(2907:Nat)=2905+2 by rfl,xk]
  rw[h2]at h1
  exact q8 h1 (sO (by decide) (by decide)))
 rw[h.sum]at tt
 exact tt
def Vr:=AM (BE 6 (CN [] 1 (HC (eV 3)) (tNm 0) Bk (AD DX [eV 0,Bh [AD Am [eV 0],eC (.int 1)]]))) (AM (BE 7 (AD Am [AD Cy [eV 6]])) (xIf (eOp (o2 wGt) [eV 7,eC (.int 0)]) (BV (Hy LA (eV 2) [Bh [eV 4,eV 7,eOp (o1 DF) [CN [7] 1 (HC (eV 6)) (tNm 1) Bk (AD CH [eV 1,Bh [eC (.int 1),eV 0]])]]])) BP))
def Wh{st:Stt}{x:Ld}{q:Nat}{acc:Wp D}{a0 a1 o6 o7:qR D}(h:Ob t st x)(hq:S[q]?=Gc (.lst acc))(hz:acc.length<sizeLine):∃u6 u7,Vr [a0,a1,Gc (.ref q),Gc (shD (JX t st x)),Gc (.int x.k),Gc (.int x.n),o6,o7] S=Gc (.nx,[a0,a1,Gc (.ref q),Gc (shD (JX t st x)),Gc (.int x.k),Gc (.int x.n),u6,u7],S.set q (.lst (acc++L5 t st x))):=by
 have c1:=cg (S:=S) (rs:=JX t st x) (by have:=h.len;lia) h.sz
 have tt:=h.total (S:=S)
 have h1:=h.left
 have h0:=h.n1
 have bl:∀z:Int,0<z->z<=x.n->z.natAbs<2^150:=λz z0 z1=>by
  have:z<2^147:=vD z1 h0
  have e:(z.natAbs:Int)<((2^150:Nat):Int):=by
   rw[y7 (by lia)]
   exact AAI this (by decide)
  lia
 by_cases hp:0<CS t st x
 .have w:=ZV (S:=S) (r:=(CS t st x:Rat)) (k:=150) (PJ (bl _ hp h1) (by decide)) (by decide)
  rw[L4]at w
  have c2:=fe (S:=S) (rs:=Aw t st x) hp (bl _ hp h1) (by
   have:=h.len
   unfold Aw
   rw[rG]
   lia) h.ssz
  refine⟨Gc (.lst ((Aw t st x).map aD)),Gc (.int (CS t st x)),?_⟩
  have eo:L5 t st x=[.tup [.int x.k,.int (CS t st x),.tup (((Aw t st x).map λr=>r*(((1:Int):Rat) / (CS t st x:Rat))).map aD)]]:=by
   unfold L5
   rw[rB hp]
   rfl
  rw[eo]
  have c1':Bj [] (tNm 0) Bk (AD DX [eV 0,Bh [AD Am [eV 0],eC (.int 1)]]) ((JX t st x).map aD) [] [none] S=Gc ((Aw t st x).map aD,S):=c1
  generalize ((Aw t st x).map λr=>r*(((1:Int):Rat) / (CS t st x:Rat))).map aD=R3 at*
  generalize (Aw t st x).map aD=R1 at*
  generalize aD (CS t st x:Rat)=R2 at*
  generalize CS t st x=z at*
  simp[Vr,Lb,c1',tt,w,hp,RO,c2,AL hq,hz]
 .have w:=ZV (S:=S) (r:=(CS t st x:Rat)) (k:=8000) (by
   have zs:Sz 2910 (Aw t st x).sum:=by
    obtain⟨G,B,g0,gg,bb,k⟩:=h.sok
    have hl:(Aw t st x).length<=4:=by
     unfold Aw
     rw[rG]
     exact h.len
    have o:Ok G ((Aw t st x).length*B) (Aw t st x).sum:=Ok.sum k
    refine o.sz g0 (vB gg (sO (by decide) (by decide))) ?_
    have h1:(Aw t st x).length*B<=4*2^2905:=uX hl (uO bb)
    have h2:4*2^2905=2^2907:=by rw[show(2907:Nat)=2905+2 by rfl,xk]
    rw[h2]at h1
    exact q8 h1 (sO (by decide) (by decide))
   rw[h.sum]at zs
   exact zs.mono (by decide)) (by decide)
  rw[L4]at w
  refine⟨Gc (.lst ((Aw t st x).map aD)),Gc (.int (CS t st x)),?_⟩
  have eo:L5 t st x=[]:=by
   unfold L5
   rw[rA hp]
  rw[eo,r9,set_same hq]
  have c1':Bj [] (tNm 0) Bk (AD DX [eV 0,Bh [AD Am [eV 0],eC (.int 1)]]) ((JX t st x).map aD) [] [none] S=Gc ((Aw t st x).map aD,S):=c1
  generalize (Aw t st x).map aD=R1 at*
  generalize aD (CS t st x:Rat)=R2 at*
  generalize CS t st x=z at*
  simp[Vr,Lb,c1',tt,w,hp]
def Kj(h:Bc t ls ds)(hh:HOk t)(ho:K6 ls/\t.ho.sum=1):∃S',Dk [AG t ls ds] S=Gc (.tup ((runs t (st0 t ls) ds).AA.flatMap (L5 t (runs t (st0 t ls) ds))),S')/\Bt [] S S':=by
 have hm:=UN h hh ho
 have hb:=Rb (S:=S) h (n:=ds.length) (qW _)
 rw[uz]at hb
 obtain⟨qd,S1,e1,c1,s1,l1⟩:=QO (S:=S++[Cl.lst []]) h hh
 have inv:=h.fin
 have hlen:=inv.len
 generalize runs t (st0 t ls) ds=st at*
 have hq:S1[S.length]?=Gc (.lst []):=s1.get qy (by simp)
 have hne:qd≠S.length:=by simp at l1;lia
 obtain⟨os',S2,ho',e2,q2,s2⟩:=U4 (gs:=[(qd,st.AA.map λx=>shD (JX t st x))]) (S0:=S1) (t:=tTp [tTp [tNm 4,tNm 5],tNm 3]) (b:=Vr) (C:=[Gc (AG t ls ds),Gc (A4 st.AA),Gc (.ref S.length)]) (m:=5) (q:=S.length) (e:=λx:Ld=>D.tup [hD x,shD (JX t st x)]) (h:=L5 t st) (λT hT g hg=>by
  rw[rD.mp hg]
  exact AL (hT.get c1 (by simpa using hne))) (xs:=st.AA) (acc:=[]) (os:=[none,none,none,none,none]) (S:=S1) rfl hq .refl (by simp;lia) (λx _=>by unfold L5;split<;>simp) (by
  intro x hx os T acc ho hq0 hz hT
  obtain⟨o1,o2,o3,o4,o5,rfl⟩:∃o1 o2 o3 o4 o5,os=[o1,o2,o3,o4,o5]:=by
   match os,ho with
   | [a,b,c,d,e],_=>exact⟨a,b,c,d,e,rfl⟩
  obtain⟨u6,u7,e⟩:=Wh (S:=T) (a0:=Gc (AG t ls ds)) (a1:=Gc (A4 st.AA)) (o6:=o4) (o7:=o5) (hm x hx) hq0 hz
  exact⟨[Gc (shD (JX t st x)),Gc (.int x.k),Gc (.int x.n),o4,o5],[Gc (shD (JX t st x)),Gc (.int x.k),Gc (.int x.n),u6,u7],T,by simp,e,rfl,.refl⟩)
 refine⟨S2,?_,?_⟩
 .have ez:MF (st.AA.map hD) (st.AA.map λx=>shD (JX t st x))=st.AA.map λx=>.tup [hD x,shD (JX t st x)]:=by
   unfold MF
   rw[List.zip_map',sI]
   rfl
  rw[<-ez]at e2
  simp only[rX,rH]at e2 q2
  have sq:=Iq c1
  have dq:=As q2
  have eb:JR=(AM (BE 1 (AD FN [eV 0,eOp (o1 Cs) [eOp (o2 wIx) [eV 0,eC (.int 2)]]]))
  (AM (BE 2 (Ha []))
  (AM (OJ (Xa (eV 1) (AD ED [eV 0])) (tTp [tTp [tNm 4,tNm 5],tNm 3]) Vr)
  (Ad (eOp (o1 DF) [eV 2]))))):=rfl
  have sh:∀T,sqD T (A4 st.AA)=Gc (st.AA.map hD,[]):=λ_=>nr rfl
  have il:Cs (.val (.tup (ds.map AN.d)))=Gc (.val (.int ds.length)):=by simp
  unfold Dk
  rw[eb]
  generalize hHD:A4 st.AA=HD at*
  generalize st.AA.flatMap (L5 t st)=R at*
  generalize hDU:st.AA.map (λx=>shD (JX t st x))=DU at*
  simp only[AG]at e1 e2 hb⊢
  simp[hb,e1,sh,sq,e2,dq]
 .refine⟨qU (by simp) (qU s1.len s2.len),λn hn _=>?_⟩
  have l1:=s1.len
  simp at l1
  rw[s2.keep n (by lia) (by simp;lia),s1.keep n (by simp;lia) (by simp),qQ hn]
end
def Ok.nn(h:Ok G B r)(hG:0<G):0<=r:=by
 obtain⟨z,e,_⟩:=h
 have g:(0:Rat)<(G:Rat):=by exact_mod_cast hG
 have hz:(0:Rat)<=(z:Rat):=by exact_mod_cast tP z
 rcases(Rat.le_total:0<=r\/r<=0)with w|w
 .exact w
 .have:=tq w (wJ g)
  rw[e,Rat.zero_mul]at this
  have z0:(z:Rat)=0:=Rat.le_antisymm this hz
  rw[z0]at e
  rcases Rat.mul_eq_zero.mp e with e|e
  .rw[e];exact y9
  .rw[e]at g;exact absurd g (by decide)
theorem Y1:∀{rs:Wp Rat},(∀r∈rs,0<=r)->0<=rs.sum
 | [],_=>by rw[List.sum_nil];exact y9
 |r::rs,h=>by
  rw[rF]
  have h1:=h r qh
  have h2:=Y1 λq hq=>h q (qa _ hq)
  grind
theorem UB:∀{rs:Wp Rat} {x},(∀r∈rs,0<=r)->x∈rs->x<=rs.sum
 |r::rs,x,h,hx=>by
  rw[rF]
  have h1:=h r qh
  have h2:=Y1 λq hq=>h q (qa _ hq)
  rcases qY.mp hx with e|e
  .rw[e];grind
  .have:=UB (λq hq=>h q (qa _ hq)) e
   grind
def d6{r:Rat}(h:r<=1):r.num<=r.den:=by
 have e:=Ce r
 have d:(0:Rat)<(r.den:Rat):=by exact_mod_cast r.den_pos
 have h1:(r.num:Rat)<=(r.den:Rat):=by
  have:(r.num:Rat)=r*(r.den:Rat):=by
   have:=G9 r
   grind
  rw[this]
  have:=tq h (wJ d)
  rwa [Rat.one_mul]at this
 exact_mod_cast h1
def XQ(hG:0<G)(gK:G<2^K)(hK:2*K<=7990)(hr:∀r∈rs,Ok G B r)(hb:rs.length*B<2^K):Cy [shD rs] S=Gc (aD rs.sum,S):=by
 obtain⟨o',e⟩:=OD (F:=Fp) (λS h1 h2 h3=>ZU h1 h2 h3) (gs:=[]) (S:=S) Ac (X:=Gc (shD rs)) (B:=B) hG gK hK (rs:=rs) (acc:=0) (m:=0) (o:=none) (by rw[Nat.zero_mul];exact Ok.zero) hr (by simpa using hb)
 have ez:(0:Rat)+rs.sum=rs.sum:=by grind
 rw[ez,VT]at e
 simp[Cy,LV,Eu,shD]at e⊢
 simp[e]
def dR(e1:evs [oa,ob] E S=Gc ([.int i,.int j],S1))(h:i<=j)(e2:oc E S1=Gc (.int k,S2)):Ru oa ob oc E S=Gc (.bl (decide (j<=k)),S2):=by
 unfold Ru
 rw[e1]
 show(if i<=j then _ else _)=_
 rw[rB h,e2]
 rfl
def O6:EB [.int i] S=Gc (.bl true,S):=by
 have k1:St.Kd.int.isA "int"=true:=by decide
 have k2:St.Kd.int.isA "bool"=false:=by decide
 simp[k1,k2,EB,KU,kdW]
def JQ:CW [.int i,.int j] S=Gc (.bl (decide (j<=i)),S):=by
 have e:=O6 (S:=S) (i:=i)
 simp[CW,L7,e]
def within_int:Ak [.int i,.int j,.int k] S=Gc (.bl (decide (j<=i) && decide (i<=k)),S):=by
 have e:=JQ (S:=S) (i:=i) (j:=j)
 by_cases h:j<=i
 .simp[Ak,Gi,e,h]
 .simp[Ak,Gi,e,h]
def OO(h0:0<=r)(h1:r<=1):CZ [aD r] S=Gc (.bl true,S):=by
 have g:=YU (S:=S) r.num r.den
 have ge:NC r.num r.den=1:=by
  have:=r.reduced
  unfold Nat.Coprime at this
  simp[NC,this]
 rw[ge]at g
 have n0:0<=r.num:=zA.mpr h0
 have n1:=d6 h1
 have d1:(1:Int)<=r.den:=by have:=r.den_pos;omega
 have w:=O6 (S:=S) (i:=r.num)
 have f:=JQ (S:=S) (i:=r.den) (j:=1)
 have k3:St.Kd.tup.isA "tuple"=true:=by decide
 have am:Eh [aD r] S=Gc (.bl true,S):=by
  simp[Eh,JI,aD,kdW,k3,w,f,d1,g]
 have ll:Ru (eC (.int 0)) (eOp (o2 wIx) [eV 0,eC (.int 0)]) (eOp (o2 wIx) [eV 0,eC (.int 1)]) [Gc (aD r)] S=Gc (.bl true,S):=by
  rw[dR (i:=0) (j:=r.num) (k:=r.den) (S1:=S) (S2:=S) (by simp[aD]) n0 (by simp[aD])]
  simp[n1]
 simp[CZ,KI,am,ll]
def g9{α:Type}{f:Ev}{e:α->D}{C:En}{os:En}{xs:Wp α}(hg:gOk gs S)(hz:xs.length<=1000)(hm:os.length=m)(h:∀x∈xs,∀os,os.length=m->∃us,us.length=m/\t (e x) (C++os) S=Gc (C++us)/\f (C++us) S=Gc (.bl true,S)):∃r,Bj gs t Bk f (xs.map e) [] (C++os) S=Gc (r,S)/\(bls r).map (λbs=>bs.all id)=Gc true:=by
 have:=Dd (gs:=gs) (t:=t) (f:=f) (C:=C) (m:=m) (e:=e) (g:=λ_=>D.bl true) (S:=S) hg (xs:=xs) (acc:=[]) (os:=os) hm (AK (by simpa using hz)) h
 refine⟨_,this,?_⟩
 rw[rH,QS (λ_=>true)]
 simp
def Of{rs:Wp Rat}(hp:rs.length=P)(h4:P<=4)(hG:0<G)(gK:G<2^K)(hK:2*K<=7990)(hr:∀r∈rs,Ok G B r)(hb:4*B<2^K)(hs:rs.sum=1):Cv [.int P,shD rs] S=Gc (.bl true,S):=by
 have nn:∀r∈rs,0<=r:=λr hr'=>(hr r hr').nn hG
 have le1:∀r∈rs,r<=1:=λr hr'=>by rw[<-hs];exact UB nn hr'
 have k3:St.Kd.tup.isA "tuple"=true:=by decide
 have T:=XQ (S:=S) hG gK hK hr (q8 (rP _ (by omega)) hb)
 rw[hs,Yl]at T
 obtain⟨bs,e1,e2⟩:=g9 (S:=S) (f:=AD CZ [eV 0]) (e:=aD) (C:=[]) (os:=[none]) (xs:=rs) (gs:=[]) (t:=tNm 0) Ac (by omega) rfl (by
  intro r hr' os ho
  match os,ho with
  | [a],_=>
  refine⟨[Gc (aD r)],rfl,by simp,?_⟩
  have:=OO (S:=S) (nn r hr') (le1 r hr')
  simp[this])
 have T2:Cy [D.tup (rs.map aD)] S=Gc (.tup [.int 1,.int 1],S):=T
 have it:Ah [shD rs,.int P] S=Gc (.bl true,S):=by
  simp[Ah,CV,shD,kdW,k3,hp]
 have hE:Iz (.tup [.int 1,.int 1]) N4=true:=rfl
 have hD:deq (.tup [.int 1,.int 1]) N4=true:=rfl
 simp only[rH]at e1
 obtain⟨b',e3,e4⟩:=uQ.mp e2
 have hk:dr S N4=.val N4:=rfl
 simp[Cv,IJ,it]
 simp[shD,RO,e1,e3,e4,T2,hk,hE,hD]
def R0{x:Ld}(ht:G5 t)(h1:x.k<t.k)(h2:0<=x.n)(hp:x.ow.length=t.p)(hG:0<G)(gK:G<2^K)(hK:2*K<=7990)(hr:∀r∈x.ow,Ok G B r)(hb:4*B<2^K)(hs:x.ow.sum=1):Du [t.d,x.d] S=Gc (.bl true,S):=by
 have O:=Of (S:=S) hp ht.2.1 hG gK hK hr hb hs
 have k3:St.Kd.tup.isA "tuple"=true:=by decide
 have it:Ah [x.d,.int 3] S=Gc (.bl true,S):=by
  simp[Ah,CV,Ld.d,kdW,k3]
 have w:=within_int (S:=S) (i:=x.k) (j:=0) (k:=(t.k:Int)-1)
 have w1:(x.k:Int)<=(t.k:Int)-1:=by omega
 have f:=JQ (S:=S) (i:=x.n) (j:=0)
 have ik:C4 [t.d,.int x.k] S=Gc (.bl true,S):=by
  simp[C4,Ib,Tr.d,w,w1]
 simp[Du,LD,it]
 generalize hsd:shD x.ow=sd at*
 have:x.d=.tup [.int x.k,.int x.n,sd]:=by rw[<-hsd];rfl
 rw[this]
 simp[ik,f,h2]
 simp[Tr.d,O]
noncomputable def ovl(t:Tr)(st:Stt)(x:Ld):Wp Ld:=if 0<CS t st x then [⟨x.k,CS t st x,(Aw t st x).map λr=>r*(((1:Int):Rat) / (CS t st x:Rat))⟩]else []
noncomputable def ovs(t:Tr)(st:Stt):Wp Ld:=st.AA.flatMap (ovl t st)
def V2{t:Tr}{st:Stt}:st.AA.flatMap (L5 t st)=(ovs t st).map Ld.d:=by
 unfold ovs
 rw[List.map_flatMap]
 congr 1
 funext x
 unfold L5 ovl
 split<;>rfl
def NP{t:Tr}{st:Stt}{y:Ld}(h:y∈ovs t st):∃x∈st.AA,0<CS t st x/\y=⟨x.k,CS t st x,(Aw t st x).map λr=>r*(((1:Int):Rat) / (CS t st x:Rat))⟩:=by
 obtain⟨x,hx,hy⟩:=List.mem_flatMap.mp h
 unfold ovl at hy
 split at hy
 .exact⟨x,hx,by assumption,by simpa using hy⟩
 .cases hy
def U0(r:Rat):r-(flI r:Rat)<1:=by
 have d0:=den_pos r
 have h1:r.num % (r.den:Int)<r.den:=uW _ d0
 rw[VJ]
 have hd:(0:Rat)<(((r.den:Int):Int):Rat):=by exact_mod_cast d0
 rw[Rat.div_lt_iff hd,Rat.one_mul]
 exact_mod_cast h1
def Ok.small{G B:Nat}{r:Rat}(hG:0<G)(h:Ok G B r)(g:r<=1):Ok G G r:=by
 obtain⟨z,e,hz⟩:=h
 refine⟨z,e,?_⟩
 have hg:(0:Rat)<=(G:Rat):=by exact_mod_cast tP G
 have:=tq g hg
 rw[e,Rat.one_mul]at this
 exact_mod_cast this
def Ok.part{G:Nat}{s:Rat}{l:Int}(h:Ok G G s)(h0:0<l)(h1:l<=4):Ok (G*12) (G*12) (s*(((1:Int):Rat) / (l:Rat))):=by
 obtain⟨z,e,hz⟩:=h
 have k:∀(m:Nat),(m:Int)*l=12->m<=12->Ok (G*12) (G*12) (s*(((1:Int):Rat) / (l:Rat))):=λm hm hl=>by
  refine⟨z*m,?_,uX hz hl⟩
  have l0:(l:Rat)≠0:=by
   have:l≠0:=by lia
   exact_mod_cast this
  have hm':(m:Rat)*(l:Rat)=12:=by exact_mod_cast congrArg (λi:Int=>(i:Rat)) hm
  push_cast
  rw[<-e]
  generalize (l:Rat)=L at*
  generalize (m:Rat)=M at*
  generalize (G:Rat)=g at*
  rw[<-hm']
  grind
 have:l=1\/l=2\/l=3\/l=4:=by lia
 rcases this with rfl|rfl|rfl|rfl
 .exact k 12 (by decide) (by decide)
 .exact k 6 (by decide) (by decide)
 .exact k 4 (by decide) (by decide)
 .exact k 3 (by decide) (by decide)
theorem Ma:∀{rs:Wp Rat},(∀r∈rs,r<=1)->rs.sum<=(rs.length:Rat)
 | [],_=>by simp
 |r::rs,h=>by
  have a:=h r qh
  have b:=Ma (rs:=rs) λq hq=>h q (qa _ hq)
  rw[rF,rT]
  push_cast
  grind
section
variable{t:Tr}{ls:Wp Ld}{ds:Wp AN}{st:Stt}{G B:Nat}
structure Stl(t:Tr)(st:Stt)(G:Nat)(x:Ld):Prop where
 ok:∀r∈Aw t st x,Ok (G*10) (G*10) r
 l4:CS t st x<=4
 l0:0<=CS t st x
def gC(hh:HOk t)(hG:0<G)(h1:∀x∈st.AA,∀r∈x.ow,Ok G B r)(h2:∀r∈st.hold,Ok G B r)(hm:∀x∈st.AA,Ob t st x):∀x∈st.AA,Stl t st G x:=by
 intro x hx
 have H:=hm x hx
 have n1:x.n<=((2^147:Nat):Int):=by
  have:=H.n1
  have e:((2^147:Nat):Int)=2^147:=by decide
  lia
 have due:=Ye hh (h1 x hx) h2 H.n0 n1
 have g10:0<G*10:=by lia
 have ok:∀r∈Aw t st x,Ok (G*10) (G*10) r:=λr hr=>by
  obtain⟨y,hy,rfl⟩:=rS.mp hr
  exact((due y hy).mO g10).small g10 (wJ (U0 y))
 have le1:∀r∈Aw t st x,r<=1:=λr hr=>by
  obtain⟨y,hy,rfl⟩:=rS.mp hr
  exact wJ (U0 y)
 have nn:∀r∈Aw t st x,0<=r:=λr hr=>(ok r hr).nn g10
 have s:=Ma le1
 have ln:(Aw t st x).length<=4:=by
  unfold Aw
  rw[rG]
  exact H.len
 rw[H.sum]at s
 refine⟨ok,?_,?_⟩
 .have:CS t st x<=((Aw t st x).length:Int):=by exact_mod_cast s
  lia
 .have z:=H.sum
  have:(0:Rat)<=(Aw t st x).sum:=by
   rcases h:Aw t st x with _|⟨r,rs⟩
   .simp
   .rw[h]at nn
    exact Rat.le_trans (nn r qh) (UB nn qh)
  rw[z]at this
  exact_mod_cast this
def eG(hs:∀x∈st.AA,Stl t st G x):∀y∈ovs t st,0<y.n/\y.n<=4/\∀r∈y.ow,Ok (G*10*12) (G*10*12) r:=λy hy=>by
 obtain⟨x,hx,h0,rfl⟩:=NP hy
 refine⟨h0,(hs x hx).l4,λr hr=>?_⟩
 obtain⟨q,hq,rfl⟩:=rS.mp hr
 exact((hs x hx).ok q hq).part h0 (hs x hx).l4
def W0(hm:∀x∈st.AA,Ob t st x):K6 (ovs t st):=λy hy=>by
 obtain⟨x,hx,h0,rfl⟩:=NP hy
 show((Aw t st x).map λr=>r*(((1:Int):Rat) / (CS t st x:Rat))).sum=1
 have e:(Aw t st x).map (λr=>r*(((1:Int):Rat) / (CS t st x:Rat)))=(Aw t st x).map λr=>(((1:Int):Rat) / (CS t st x:Rat))*r:=List.map_congr_left λr _=>by grind
 rw[e,Pp,(hm x hx).sum]
 have:(CS t st x:Rat)≠0:=by
  have:CS t st x≠0:=by lia
  exact_mod_cast this
 grind
def ZQ{y:Ld}(hm:∀x∈st.AA,Ob t st x)(hy:y∈ovs t st):y.ow.length=t.p:=by
 obtain⟨x,hx,h0,rfl⟩:=NP hy
 show((Aw t st x).map _).length=t.p
 unfold Aw
 rw[rG,rG]
 exact(hm x hx).pK
end
section
variable{S:Sto}{t:Tr}{ls:Wp Ld}{ds:Wp AN}{st:Stt}{n p:Nat}
noncomputable def nxT(t:Tr)(st:Stt):Tr:={t with ho:=st.hold}
def YI{G B k:Nat}(bk:Bc t ls ds)(g0:0<G)(gb:G<=B)(bb:B<2^(30+170*k))(h1:∀x∈ls,∀r∈x.ow,Ok G B r)(h2:∀r∈t.ho,Ok G B r):SIG t k G B (st0 t ls):=by
 obtain⟨k',_,z⟩:=bk.lev
 exact⟨by have:=bk.four;show ls.length<=_;lia,λx hx=>⟨z.kind x hx,(bk.pc0 x hx).1,cB (bk.pc0 x hx).2,z.own x hx,h1 x hx⟩,z.hold,tP _,g0,gb,bb,h2⟩
def Oc{r:Rx}{f:Ex}{r2:Rx}{E E':En}{S S':Sto}(h:r E S=none)(e:f E S=Gc (.nx,E',S')):JF r f r2 E S=r2 E' S':=by
 unfold JF
 rw[h]
 simp only
 rw[e]
 rfl
def RN{r:Rx}{f:Ex}{r2:Rx}{E:En}{S:Sto}{z:Tg×En×Sto}(h:r E S=Gc z):JF r f r2 E S=Gc z:=by
 unfold JF
 rw[h]
def O0(h:Bc t ls ds)(hh:HOk t)(ho:K6 ls/\t.ho.sum=1)(hst:runs t (st0 t ls) ds=st)(hl:(ovs t st).length<=4):∃S',Ao [AG t ls ds] S=Gc (AG (nxT t st) (ovs t st) [],S')/\Bt [] S S':=by
 obtain⟨S1,e1,s1⟩:=Kj (S:=S) h hh ho
 have r1:=JP (S:=S) h
 obtain⟨S2,e2,s2⟩:=Q9 (S:=S1) h (n:=ds.length) (qW _)
 rw[uz]at e2
 rw[hst]at e1 e2
 rw[V2]at e1
 refine⟨S2,?_,s1.trans s2⟩
 have h4:¬(4:Int)<((ovs t st).map Ld.d).length:=by simp;lia
 have as1:asS (.val t.d)=Gc [.int t.p,.int t.k,.int t.b,shD t.ho,.int t.h,.int t.l]:=rfl
 have dt:∀T,dr T t.d=.val t.d:=λ_=>rfl
 have tt:t.d=.tup [.int t.p,.int t.k,.int t.b,shD t.ho,.int t.h,.int t.l]:=rfl
 have nt:(nxT t st).d=.tup [.int t.p,.int t.k,.int t.b,shD st.hold,.int t.h,.int t.l]:=rfl
 simp only[AG,tt,nt]at e1 e2 r1⊢
 generalize (ovs t st).map Ld.d=O at*
 simp[Ao,Gh,r1,e1,BB,h4,e2]
def PZ(h:Bc t ls ds)(hh:HOk t)(ho:K6 ls/\t.ho.sum=1)(hst:runs t (st0 t ls) ds=st)(hl:4<(ovs t st).length):∃S',Ao [AG t ls ds] S=none/\Az [AG t ls ds] S=Gc (⟨"TooMany",none⟩,S')/\Bt [] S S':=by
 obtain⟨S1,e1,s1⟩:=Kj (S:=S) h hh ho
 have r1:=JP (S:=S) h
 rw[hst,V2]at e1
 have h4:(4:Int)<((ovs t st).map Ld.d).length:=by simp;lia
 generalize (ovs t st).map Ld.d=O at*
 generalize AG t ls ds=bk at*
 refine⟨S1,?_,?_,s1⟩
 .have xs:∀E S,Ba E S=none:=λ_ _=>rfl
  simp[Ao,Gh,r1,e1,BB,h4,xs]
 .unfold Az
  rw[Gf]
  show(Ee [Gc bk,none,none,none,none,none,none,none,none,none,none] S).map _=_
  have hr:Ee [Gc bk,none,none,none,none,none,none,none,none,none,none] S=Gc (⟨"TooMany",none⟩,[Gc bk,Gc (.tup O),none,none,none,none,none,none,none,none,none],S1):=by
   unfold Ee
   rw[Oc (E':=[Gc bk,none,none,none,none,none,none,none,none,none,none]) (S':=S) rfl (by simp[r1])]
   rw[Oc (E':=[Gc bk,Gc (.tup O),none,none,none,none,none,none,none,none,none]) (S':=S1) rfl (by simp[e1])]
   refine RN ?_
   have e3:(eOp (o2 wGt) [eOp (o1 Cs) [eV 1],eC BB]) [Gc bk,Gc (.tup O),none,none,none,none,none,none,none,none,none] S1=Gc (.bl true,S1):=by simp[BB,h4]
   unfold rIf
   rw[e3]
   show Ea _ _ _ _=_
   unfold Ea
   simp
  rw[hr]
  rfl
end
def Raw(t:Tr):AN->Prop
 | .DQ _ _ n=>n<2^131
 | .Hr _ _=>xH
 | .swap _ _ _ n=>n<2^131
 | .Ck u _ _ _ n=>n<2^131/\0<=u/\u<=9
 | .Dj _ _=>xH
 | .thr _ _ ws=>ws.length=t.k+1/\∀w∈ws,1<=w/\w<=99
 | .GN _ _ x=>0<x.num/\x.num<=x.den/\x.den<=12
noncomputable def isB(t:Tr):AN->sD
 | .DQ p k n=>decide (p<t.p) && (decide (k<t.k) && decide (1<=n))
 | .Hr a b=> !(a==b)
 | .swap _ g k n=>decide (1<=g) && (decide (k<t.k) && decide (1<=n))
 | .Ck _ _ g k n=>decide (1<=g) && (decide (k<t.k) && decide (1<=n))
 | .Dj _ n=>decide (1<=n)
 | .thr _ n _=>decide (1<=n)
 | .GN p q _=>decide (p<t.p) && (decide (q<t.p) && !(p==q))
def fK(h:Wf t d):Raw t d/\isB t d=true:=by
 cases d with
 |DQ p k n=>exact⟨h.2.2.2,by simp[isB,h.1,h.2.1,h.2.2.1]⟩
 |Hr x y=>exact⟨trivial,by simp[isB,show x≠y from h]⟩
 |swap l g k n=>exact⟨h.2.2.2,by simp[isB,h.1,h.2.1,h.2.2.1]⟩
 |Ck u l g k n=>exact⟨⟨h.2.2.2.1,h.2.2.2.2⟩,by simp[isB,h.1,h.2.1,h.2.2.1]⟩
 |Dj l n=>exact⟨trivial,by simp[isB,show 1<=n from h]⟩
 |thr l n ws=>exact⟨h.2,by simp[isB,h.1]⟩
 |GN p q x=>exact⟨h.2.2.2,by simp[isB,h.1,h.2.1,h.2.2.1]⟩
section
variable{S:Sto}{t:Tr}{w:Str}
def IU(h1:((at? E i).isNone && decide (i<E.length))=true)(h2:at? E j=Gc (.str p))(h3:tbl.lookup p=Gc G):fP tbl i j fs E S=Ad (AD G fs) E S:=by
 unfold fP
 rw[rB h1,h2,A1]
 dsimp only
 rw[h3,A1]
@[simp] def cK:List.lookup (Str.ofString "partner") Ec=some D7:=nr rfl
@[simp] def lA:List.lookup (Str.ofString "kind") Ec=some C4:=nr rfl
@[simp] def k8:List.lookup (Str.ofString "load") Ec=some CM:=nr rfl
@[simp] def gj:List.lookup (Str.ofString "number") Ec=some B8:=nr rfl
@[simp] def eY:List.lookup (Str.ofString "pieces") Ec=some D4:=nr rfl
@[simp] def eB:List.lookup (Str.ofString "worths") Ec=some D5:=nr rfl
@[simp] def gy:List.lookup (Str.ofString "share") Ec=some Cg:=nr rfl
def cS{i:Nat}:An [t.d,.str "partner",.int i] S=Gc (.bl (decide (i<t.p)),S):=by
 have e:=within_int (S:=S) (i:=i) (j:=0) (k:=(t.p:Int)-1)
 have q:(decide ((0:Int)<=i) && decide ((i:Int)<=(t.p:Int)-1))=decide (i<t.p):=by
  rw[vm];simp;lia
 rw[q]at e
 simp[An,CO,IU,D7,IE,Tr.d,e]
def dv{i:Nat}:An [t.d,.str "kind",.int i] S=Gc (.bl (decide (i<t.k)),S):=by
 have e:=within_int (S:=S) (i:=i) (j:=0) (k:=(t.k:Int)-1)
 have q:(decide ((0:Int)<=i) && decide ((i:Int)<=(t.k:Int)-1))=decide (i<t.k):=by
  rw[vm];simp;lia
 rw[q]at e
 simp[An,CO,IU,C4,Ib,Tr.d,e]
def fY{i:Nat}:An [t.d,.str "load",.int i] S=Gc (.bl true,S):=by
 have e:=JQ (S:=S) (i:=i) (j:=0)
 have q:decide ((0:Int)<=i)=true:=by simp
 rw[q]at e
 generalize t.d=T
 simp[An,CO,IU,CM,Fc,e]
def eW(h0:0<=u)(h1:u<=9):An [t.d,.str "number",.int u] S=Gc (.bl true,S):=by
 have e:=within_int (S:=S) (i:=u) (j:=0) (k:=9)
 generalize t.d=T
 simp[An,CO,IU,B8,FX,e,h0,h1]
def gD:An [t.d,.str "pieces",.int n] S=Gc (.bl (decide (1<=n)),S):=by
 have e:=JQ (S:=S) (i:=n) (j:=1)
 generalize t.d=T
 simp[An,CO,IU,D4,IG,e]
def ek{ws:Wp Int}(h:ws.length=t.k+1)(hk:t.k<=5)(hw:∀w∈ws,1<=w/\w<=99):An [t.d,.str "worths",.tup (ws.map .int)] S=Gc (.bl true,S):=by
 have k3:St.Kd.tup.isA "tuple"=true:=by decide
 obtain⟨bs,e1,e2⟩:=g9 (S:=S) (f:=AD Ak [eV 0,eI 1,eI 99]) (e:=D.int) (C:=[]) (os:=[none]) (xs:=ws) (gs:=[]) (t:=tNm 0) Ac (by lia) rfl (by
  intro r hr' os ho
  obtain⟨a,rfl⟩:=QY ho
  have:=within_int (S:=S) (i:=r) (j:=1) (k:=99)
  exact⟨[Gc (.int r)],rfl,by simp,by simp[this,hw r hr']⟩)
 have it:Ah [.tup (ws.map .int),.int ((t.k:Int)+1)] S=Gc (.bl true,S):=by
  have:((ws.length:Int)==(t.k:Int)+1)=true:=by rw[h];simp
  simp[Ah,CV,kdW,k3,this]
 simp only[rH]at e1
 obtain⟨b',e3,e4⟩:=uQ.mp e2
 have v:D8 [.tup (ws.map .int),.int ((t.k:Int)+1)] S=Gc (.bl true,S):=by
  simp[D8,ID,it]
  simp[RO,e1,e3,e4]
 simp[An,CO,IU,D5,IK,Tr.d,v]
def gQ(h0:0<x.num)(h1:x.num<=x.den)(h2:x.den<=12):An [t.d,.str "share",aD x] S=Gc (.bl true,S):=by
 have nn:0<=x:=zA.mp (by lia)
 have l1:x<=1:=by rw[Rat.le_iff];simpa using h1
 have e:=OO (S:=S) nn l1
 have h2':(x.den:Int)<=12:=by exact_mod_cast h2
 generalize t.d=T
 have e':CZ [.tup [.int x.num,.int x.den]] S=Gc (.bl true,S):=e
 simp[An,CO,IU,Cg,F2,aD,e',h0,h2']
@[simp] def l8{t:Tf}:Bj [] t c f [] acc E S=some (acc,S):=EI Ac
def ZH{t:Tf}(h:acc.length<20)(e:t d E S=Gc E1)(g:f E1 S=Gc (y,S)):Bj [] t Bk f (d::ds) acc E S=Bj [] t Bk f ds (acc++[y]) E1 S:=by
 rw[HW Ac (qS h (AK (by decide))) e F3,g,A1]
def pC:=AD An [eV 0,eV 3,eIx (eV 1) (eOp (o2 Cq) [eV 2,eI 1])]
def pT:=AM (xIf (F1 (eOp (o1 V5) [CN [0,1] 2 (Zv (eV 3)) (tTp [tNm 2,tNm 3]) Bk pC])) (Ad (eC (.bl false))) BP) (Ad (eOr (eOp (o2 (wIn true)) [eV 2,eC Bx]) (eOp (o2 wNe) [eIx (eV 1) (eI 1),eIx (eV 1) (eI 2)])))
def Xh(hf:tO w EU=Gc (.tup form))(hl:xs.length=form.length):BF [T,.tup (.str w::xs)] S=(pT [Gc T,Gc (.tup (.str w::xs)),Gc (.str w),Gc (.tup form)] S).map λr=>(flD r.1,r.2.2):=by
 have h1:(((form.length:Nat):Int)+1==0)=false:=sX.mpr (by lia)
 have eb:Lk=(AM (xIf (eOr (F1 (eOp (o2 Pm) [eV 1,eC (.ty "tuple")])) (eOp (o2 wEq) [eOp (o1 Cs) [eV 1],eI 0])) (Ad (eC (.bl false))) BP)
  (AM (BE 2 (eIx (eV 1) (eI 0)))
  (AM (xIf (eOr (F1 (eOp (o2 Pm) [eV 2,eC (.ty "str")])) (eOp (o1 (M8 true EU)) [eV 2])) (Ad (eC (.bl false))) BP)
  (AM (BE 3 (eOp (o1 (dE EU)) [eV 2]))
  (AM (xIf (eOp (o2 wNe) [eOp (o1 Cs) [eV 1],eOp (o2 Cq) [eOp (o1 Cs) [eV 3],eI 1]]) (Ad (eC (.bl false))) BP)
  pT))))):=rfl
 have k1:St.Kd.tup.isA "tuple"=true:=by decide
 have k2:St.Kd.str.isA "str"=true:=by decide
 have t1:M8 true EU (.val (.str w))=Gc (.val (.bl false)):=by
  show Gc (Wv.val (.bl (!(tO w EU).isSome)))=_
  rw[hf];rfl
 have t2:dE EU (.val (.str w))=Gc (.val (.tup form)):=by
  show(tO w EU).map Wv.val=_
  rw[hf];rfl
 simp[BF,eb,k1,k2,kdW,t1,t2,h1,hl]
def Xu{bs:Wp sD}(hc:Bj [] (tTp [tNm 2,tNm 3]) Bk pC (N9 0 form) [] [Gc T,Gc (.tup (.str w::xs)),none,none] S=Gc (bs.map .bl,S))(hu:bs.all id=true->(eOr (eOp (o2 (wIn true)) [eV 2,eC Bx]) (eOp (o2 wNe) [eIx (eV 1) (eI 1),eIx (eV 1) (eI 2)])) [Gc T,Gc (.tup (.str w::xs)),Gc (.str w),Gc (.tup form)] S=Gc (.bl u,S)):pT [Gc T,Gc (.tup (.str w::xs)),Gc (.str w),Gc (.tup form)] S=Gc (.ret (.bl (bs.all id && u)),[Gc T,Gc (.tup (.str w::xs)),Gc (.str w),Gc (.tup form)],S):=by
 have b1:bls (bs.map D.bl)=Gc bs:=by have:=QS (λx:sD=>x) (xs:=bs);simpa using this
 generalize hz:(eOr (eOp (o2 (wIn true)) [eV 2,eC Bx]) (eOp (o2 wNe) [eIx (eV 1) (eI 1),eIx (eV 1) (eI 2)]))=Z at hu
 cases q:bs.all id with
 |false=>simp[pT,RO,hc,b1,q]
 |true=>simp[pT,RO,hc,b1,q,hz,hu q]
end
section
variable{S:Sto}{t:Tr}{d:AN}
def PR(T:D)(S:Sto):Wp D->Wp D->Wp sD->Prop
 | [],ys,bs=>ys=[]/\bs=[]
 |f::fs,ys,bs=>∃y ys' b bs',ys=y::ys'/\bs=b::bs'/\An [T,f,y] S=Gc (.bl b,S)/\PR T S fs ys' bs'
theorem Qh:∀{form ys} {bs} {k} {acc} {o2 o3},PR T S form ys bs->L.drop (k+1)=ys->acc.length+form.length<=20->Bj [] (tTp [tNm 2,tNm 3]) Bk pC (N9 k form) acc [Gc T,Gc (.tup L),o2,o3] S=Gc (acc++bs.map .bl,S)
 | [],ys,bs,k,acc,o2,o3,h,hd,hl=>by
   obtain⟨rfl,rfl⟩:=h
   simp[N9]
 |f::fs,ys,bs,k,acc,o2,o3,h,hd,hl=>by
  obtain⟨y,ys',b,bs',rfl,rfl,hp,h⟩:=h
  have a:atI L ((k:Int)+1)=Gc y:=by
   have:L[k+1]?=Gc y:=by
    have:=congrArg (λz=>z[0]?) hd
    simpa using this
   have:=Co (n:=k+1) this
   exact_mod_cast this
  have hd':L.drop (k+1+1)=ys':=by
   have:=congrArg List.tail hd
   simpa using this
  simp only[N9]
  rw[ZH (E1:=[Gc T,Gc (.tup L),Gc (.int k),Gc f]) (y:=.bl b) (by simp at hl;lia) (by simp) (by simp[pC,a,hp]),Qh h hd' (by simp at hl ⊢; lia)]
  simp
noncomputable def formOf:AN->Wp D
 | .DQ .. =>[.str "partner",.str "kind",.str "pieces"]
 | .Hr .. =>[.str "load",.str "load"]
 | .swap .. =>[.str "load",.str "pieces",.str "kind",.str "pieces"]
 | .Ck .. =>[.str "number",.str "load",.str "pieces",.str "kind",.str "pieces"]
 | .Dj .. =>[.str "load",.str "pieces"]
 | .thr .. =>[.str "load",.str "pieces",.str "worths"]
 | .GN .. =>[.str "partner",.str "partner",.str "share"]
def Yb{a b:Nat}:(!((a:Int)==(b:Int)))= !(a==b):=by rw[QD]
def Il(hf:tO w EU=Gc (.tup form))(hl:form.length<=20)(hp:PR T S form xs bs)(hlen:xs.length=form.length)(hu:(eOr (eOp (o2 (wIn true)) [eV 2,eC Bx]) (eOp (o2 wNe) [eIx (eV 1) (eI 1),eIx (eV 1) (eI 2)])) [Gc T,Gc (.tup (.str w::xs)),Gc (.str w),Gc (.tup form)] S=Gc (.bl u,S)):BF [T,.tup (.str w::xs)] S=Gc (.bl (bs.all id && u),S):=by
 rw[Xh hf hlen,Xu (by have:=Qh (L:=.str w::xs) (k:=0) (acc:=[]) (o2:=none) (o3:=none) hp rfl (by simpa using hl);simpa using this) λ_=>hu]
 rfl
def Mv(ht:G5 t)(h:Raw t d):BF [t.d,d.d] S=Gc (.bl (isB t d),S):=by
 obtain⟨t1,t2,t3,t4,t5,t6⟩:=ht
 have pp:=λi:Nat=>cS (S:=S) (t:=t) (i:=i)
 have pk:=λi:Nat=>dv (S:=S) (t:=t) (i:=i)
 have pl:=λi:Nat=>fY (S:=S) (t:=t) (i:=i)
 have pn:=λn:Int=>gD (S:=S) (t:=t) (n:=n)
 have kU:dr S Bx=.val Bx:=rfl
 cases d with
 |DQ p k n=>
  have:=Il (T:=t.d) (w:="bring") (xs:=[.int p,.int k,.int n]) (bs:=[decide (p<t.p),decide (k<t.k),decide (1<=n)]) (u:=true) (S:=S) (form:=formOf (.DQ p k n)) (nr rfl) (by simp[formOf]) ⟨_,_,_,_,rfl,rfl,pp p,_,_,_,_,rfl,rfl,pk k,_,_,_,_,rfl,rfl,pn n,rfl,rfl⟩ rfl (by
   generalize t.d=T
   have e:wIn true (.val (.str "bring")) (.val Bx)=Gc (.val (.bl true)):=nr rfl
   simp[kU,e])
  rw[show(AN.DQ p k n).d=.tup (.str "bring" :: [.int p,.int k,.int n])from rfl,this]
  simp[isB]
 |Hr a b=>
  have:=Il (T:=t.d) (w:="pool") (xs:=[.int a,.int b]) (bs:=[true,true]) (u:= !(a==b)) (S:=S) (form:=formOf (.Hr a b)) (nr rfl) (by simp[formOf]) ⟨_,_,_,_,rfl,rfl,pl a,_,_,_,_,rfl,rfl,pl b,rfl,rfl⟩ rfl (by
   generalize t.d=T
   have e:wIn true (.val (.str "pool")) (.val Bx)=Gc (.val (.bl false)):=nr rfl
   simp[kU,e,Yb])
  rw[show(AN.Hr a b).d=.tup (.str "pool" :: [.int a,.int b])from rfl,this]
  simp[isB]
 |swap l g k n=>
  have:=Il (T:=t.d) (w:="swap") (xs:=[.int l,.int g,.int k,.int n]) (bs:=[true,decide (1<=g),decide (k<t.k),decide (1<=n)]) (u:=true) (S:=S) (form:=formOf (.swap l g k n)) (nr rfl) (by simp[formOf]) ⟨_,_,_,_,rfl,rfl,pl l,_,_,_,_,rfl,rfl,pn g,_,_,_,_,rfl,rfl,pk k,_,_,_,_,rfl,rfl,pn n,rfl,rfl⟩ rfl (by
   generalize t.d=T
   have e:wIn true (.val (.str "swap")) (.val Bx)=Gc (.val (.bl true)):=nr rfl
   simp[kU,e])
  rw[show(AN.swap l g k n).d=.tup (.str "swap" :: [.int l,.int g,.int k,.int n])from rfl,this]
  simp[isB]
 |Ck u l g k n=>
  have:=Il (T:=t.d) (w:="trade") (xs:=[.int u,.int l,.int g,.int k,.int n]) (bs:=[true,true,decide (1<=g),decide (k<t.k),decide (1<=n)]) (u:=true) (S:=S) (form:=formOf (.Ck u l g k n)) (nr rfl) (by simp[formOf]) ⟨_,_,_,_,rfl,rfl,eW h.2.1 h.2.2,_,_,_,_,rfl,rfl,pl l,_,_,_,_,rfl,rfl,pn g,_,_,_,_,rfl,rfl,pk k,_,_,_,_,rfl,rfl,pn n,rfl,rfl⟩ rfl (by
   generalize t.d=T
   have e:wIn true (.val (.str "trade")) (.val Bx)=Gc (.val (.bl true)):=nr rfl
   simp[kU,e])
  rw[show(AN.Ck u l g k n).d=.tup (.str "trade" :: [.int u,.int l,.int g,.int k,.int n])from rfl,this]
  simp[isB]
 |Dj l n=>
  have:=Il (T:=t.d) (w:="spoil") (xs:=[.int l,.int n]) (bs:=[true,decide (1<=n)]) (u:=true) (S:=S) (form:=formOf (.Dj l n)) (nr rfl) (by simp[formOf]) ⟨_,_,_,_,rfl,rfl,pl l,_,_,_,_,rfl,rfl,pn n,rfl,rfl⟩ rfl (by
   generalize t.d=T
   have e:wIn true (.val (.str "spoil")) (.val Bx)=Gc (.val (.bl true)):=nr rfl
   simp[kU,e])
  rw[show(AN.Dj l n).d=.tup (.str "spoil" :: [.int l,.int n])from rfl,this]
  simp[isB]
 |thr l n ws=>
  have:=Il (T:=t.d) (w:="throw") (xs:=[.int l,.int n,.tup (ws.map .int)]) (bs:=[true,decide (1<=n),true]) (u:=true) (S:=S) (form:=formOf (.thr l n ws)) (nr rfl) (by simp[formOf]) ⟨_,_,_,_,rfl,rfl,pl l,_,_,_,_,rfl,rfl,pn n,_,_,_,_,rfl,rfl,ek h.1 t4 h.2,rfl,rfl⟩ rfl (by
   generalize t.d=T
   have e:wIn true (.val (.str "throw")) (.val Bx)=Gc (.val (.bl true)):=nr rfl
   simp[kU,e])
  rw[show(AN.thr l n ws).d=.tup (.str "throw" :: [.int l,.int n,.tup (ws.map .int)])from rfl,this]
  simp[isB]
 |GN p q x=>
  have:=Il (T:=t.d) (w:="sell") (xs:=[.int p,.int q,aD x]) (bs:=[decide (p<t.p),decide (q<t.p),true]) (u:= !(p==q)) (S:=S) (form:=formOf (.GN p q x)) (nr rfl) (by simp[formOf]) ⟨_,_,_,_,rfl,rfl,pp p,_,_,_,_,rfl,rfl,pp q,_,_,_,_,rfl,rfl,gQ h.1 h.2.1 h.2.2,rfl,rfl⟩ rfl (by
   generalize t.d=T
   have e:wIn true (.val (.str "sell")) (.val Bx)=Gc (.val (.bl false)):=nr rfl
   simp[kU,e,Yb])
  rw[show(AN.GN p q x).d=.tup (.str "sell" :: [.int p,.int q,aD x])from rfl,this]
  simp[isB,Bool.and_assoc]
end
section
variable{S:Sto}{E:En}{C f m:Str}{o v:Ev}{fs:Wp Ev}{F:Fn}{R:Rf}
@[simp] def iI:IS C f o E S=(o E S).bind λr=>(IZ r.2 C r.1).bind λas=>(as.lookup f).map λd=>(d,r.2):=nr rfl
@[simp] def dz:C6 C m F o fs E S=(o E S).bind λr=>(IZ r.2 C r.1).bind λas=>if(as.lookup m).isNone=true then(evs fs E r.2).bind λq=>F (r.1::q.1) q.2 else none:=nr rfl
def HQ:Ko C m R o fs E S=(o E S).bind λr=>(IZ r.2 C r.1).bind λas=>if(as.lookup m).isNone=true then(evs fs E r.2).bind λq=>(R (r.1::q.1) q.2).map λz=>(z.1,E,z.2)else none:=nr rfl
def Ny(e1:v E S=Gc (d,S1))(e2:o E S1=Gc (.ref n,S2))(e3:S2[n]?=Gc (.ins C as))(hl:as.length<1000):UA C f o v E S=Gc (.nx,E,S2.set n (.ins C (La f d as))):=by
 unfold UA
 rw[e1,A1,e2,A1,Qa e3,A1]
 exact rB hl
end
noncomputable def lds(b:D)(q:Nat):Wp (Str×D):=[("kept",b),("earlier",.ref q)]
@[simp] def nP:(lds b q).lookup (Str.ofString "kept")=some b:=nr rfl
@[simp] def oA:(lds b q).lookup (Str.ofString "earlier")=some (.ref q):=nr rfl
noncomputable def lead(b:D)(q:Nat):Cl:=.ins "Leader" (lds b q)
structure LAt(S:Sto)(L q:Nat)(b:D)(es:Wp D):Prop where
 ob:S[L]?=Gc (lead b q)
 er:S[q]?=Gc (.lst es)
section
variable{S S':Sto}{L q:Nat}{b b':D}{es:Wp D}
def LAt.ne(h:LAt S L q b es):q≠L:=λz=>by
 have e:=h.er
 rw[z,h.ob]at e
 cases e
def LAt.ins(h:LAt S L q b es):IZ S "Leader" (.ref L)=Gc (lds b q):=Qa h.ob
def LAt.same(h:LAt S L q b es)(s:Bt [] S S'):LAt S' L q b es:=⟨s.get h.ob (by simp),s.get h.er (by simp)⟩
def V0(h:LAt S L q b es)(hm:es.length<1000):∃S',Aj [.ref L,b'] S=Gc (.non,S')/\LAt S' L q b' (es++[b])/\Bt [L,q] S S':=by
 have e:=h.er
 have ne:=h.ne
 have hq:=AX e
 have hL:=AX h.ob
 have i1:=h.ins
 have c1:=AL e
 have sz:es.length<sizeLine:=qS hm (AK (by decide))
 have o1:(S.set q (.lst (es++[b])))[L]?=Gc (lead b q):=by rw[qT ne];exact h.ob
 have x:=Ny (d:=b') (n:=L) (f:="kept") (E:=[Gc (D.ref L),Gc b']) (o:=eV 0) (v:=eV 1) (S:=S.set q (.lst (es++[b]))) (C:="Leader") (S1:=S.set q (.lst (es++[b]))) (S2:=S.set q (.lst (es++[b]))) (by simp) (by simp) o1 (by simp[lds])
 refine⟨(S.set q (.lst (es++[b]))).set L (lead b' q),?_,⟨qb (by simpa using hL),?_⟩,(Bt.set (by simp)).trans (.set (by simp))⟩
 .generalize hz:UA "Leader" "kept" (eV 0) (eV 1)=Z at x
  have eb:Fq=(AM (BV (Hy LA (IS "Leader" "earlier" (eV 0)) [IS "Leader" "kept" (eV 0)])) Z):=by rw[<-hz];rfl
  have x':Z [Gc (D.ref L),Gc b'] (S.set q (.lst (es++[b])))=Gc (.nx,[Gc (D.ref L),Gc b'],(S.set q (.lst (es++[b]))).set L (lead b' q)):=x
  simp[Aj,eb,i1,c1,sz,x']
 .rw[qT ne.symm]
  exact qb (by simpa using hq)
def Nc{S:Sto}{es:Wp D}{x:D}:QN S (es++[x]) []=Gc (x,es):=by
 unfold QN
 simp
def VZ(h:LAt S L q b es):Al [.ref L] S=Gc (b,S):=by
 simp[Al,HE,h.ins]
def Ut(h:LAt S L q b (es++[b'])):∃S',Ar [.ref L] S=Gc (.non,S')/\LAt S' L q b' es/\Bt [L,q] S S':=by
 have e:=h.er
 have ne:=h.ne
 have hq:=AX e
 have hL:=AX h.ob
 have i1:=h.ins
 have c1:=AL e
 have d1:=As e
 have oo:(S.set q (.lst es))[L]?=Gc (lead b q):=by rw[qT ne];exact h.ob
 have mp:QN S (es++[b']) []=Gc (b',es):=Nc
 have v1:Hy QN (IS "Leader" "earlier" (eV 0)) [] [Gc (D.ref L)] S=Gc (b',S.set q (.lst es)):=by
  simp[i1,c1,mp]
 have x:=Ny (d:=b') (n:=L) (f:="kept") (E:=[Gc (D.ref L)]) (o:=eV 0) (v:=Hy QN (IS "Leader" "earlier" (eV 0)) []) (S:=S) (C:="Leader") (S1:=S.set q (.lst es)) (S2:=S.set q (.lst es)) v1 (by simp) oo (by simp[lds])
 refine⟨(S.set q (.lst es)).set L (lead b' q),?_,⟨qb (by simpa using hL),?_⟩,(Bt.set (by simp)).trans (.set (by simp))⟩
 .generalize hz:UA "Leader" "kept" (eV 0) (Hy QN (IS "Leader" "earlier" (eV 0)) [])=Z at x
  have eb:FO=(AM (xIf (eOp (o2 wEq) [eOp (o1 Cs) [IS "Leader" "earlier" (eV 0)],eI 0]) Ba BP) Z):=by rw[<-hz];rfl
  have x':Z [Gc (D.ref L)] S=Gc (.nx,[Gc (D.ref L)],(S.set q (.lst es)).set L (lead b' q)):=x
  have n0:((es.length:Int)+1==0)=false:=by simp;lia
  have ok:Iz (.int ((es.length:Int)+1)) (.int 0)=true:=rfl
  simp[Ar,eb,i1,d1,n0,x']
 .rw[qT ne.symm]
  exact qb (by simpa using hq)
def VY(h:LAt S L q b []):Ar [.ref L] S=none/\Bf [.ref L] S=Gc (⟨"NothingDone",none⟩,S):=by
 have e:=h.er
 have i1:=h.ins
 have d1:=As e
 have xs:∀E S,Ba E S=none:=λ_ _=>rfl
 constructor
 .simp[Ar,FO,i1,d1,xs]
 .have c:eOp (o2 wEq) [eOp (o1 Cs) [IS "Leader" "earlier" (eV 0)],eI 0] [Gc (.ref L)] S=Gc (.bl true,S):=by simp[i1,d1]
  unfold Bf
  rw[Gf]
  show(DV [Gc (.ref L)] S).map _=_
  have hr:DV [Gc (.ref L)] S=Gc (⟨"NothingDone",none⟩,[Gc (.ref L)],S):=by
   unfold DV
   refine RN ?_
   unfold rIf
   rw[c]
   show Ea _ _ _ _=_
   unfold Ea
   simp
  rw[hr]
  rfl
end
noncomputable def nxR(r2:Rx)(q:Fl×En×Sto):qR (Tg×En×Sto):=match q.1 with
 | .nx=>r2 q.2.1 q.2.2
 | .ret _=>none
def Tj:nxR r2 (.nx,E,S)=r2 E S:=nr rfl
def Kw:JF r f r2 E S=(r E S).or ((f E S).bind (nxR r2)):=by
 unfold JF
 cases r E S with
 |some z=>exact nr rfl
 |none=>exact nr rfl
def QC:rNo E S=none:=nr rfl
noncomputable def ifR(r1 r2:Rx)(E:En)(q:D×Sto):qR (Tg×En×Sto):=match q.1 with
 | .bl true=>r1 E q.2
 | .bl false=>r2 E q.2
 |_=>none
def cm:ifR r1 r2 E (.bl true,S)=r1 E S:=nr rfl
def cM:ifR r1 r2 E (.bl false,S)=r2 E S:=nr rfl
def Pz:rIf k r1 r2 E S=(k E S).bind (ifR r1 r2 E):=nr rfl
def Lc:Jv R fs E S=(evs fs E S).bind λq=>(R q.1 q.2).map λz=>(z.1,E,z.2):=nr rfl
def My:Ea x fs E S=(evs fs E S).map λq=>(⟨x,none⟩,E,q.2):=nr rfl
def j0{N:Nat}{ds:Wp D}:AO (LL N r) ds S=(r (ds.map Gc++qk (N-ds.length) none) S).map λq=>(q.1,q.2.2):=by
 rw[Gf];rfl
def NA:Ba E S=none:=nr rfl
section
variable{S:Sto}{t:Tr}{st:Stt}{d:AN}{ls:Wp Ld}{ds:Wp AN}
noncomputable def makes:AN->sD
 | .DQ _ _ _=>true
 | .Hr _ _=>true
 | .swap _ _ _ _=>true
 | .Ck _ _ _ _ _=>true
 | .Dj _ _=>false
 | .thr _ _ _=>false
 | .GN _ _ _=>false
noncomputable def wordOf:AN->Str
 | .DQ _ _ _=>"bring"
 | .Hr _ _=>"pool"
 | .swap _ _ _ _=>"swap"
 | .Ck _ _ _ _ _=>"trade"
 | .Dj _ _=>"spoil"
 | .thr _ _ _=>"throw"
 | .GN _ _ _=>"sell"
def Vt(d:AN):∃r,d.d=.tup (.str (wordOf d)::r):=by
 cases d<;>exact⟨_,rfl⟩
def Sn:wIn true (.val (.str (wordOf d))) (.val BS)=Gc (.val (.bl (!makes d))):=by
 cases d<;>exact nr rfl
def Ro:wIn false (.val (.str (wordOf d))) (.val BS)=Gc (.val (.bl (makes d))):=by
 cases d<;>exact nr rfl
def Uk:wIn false (.val (.str (wordOf d))) (.val (.tup [.str "bring",.str "pool",.str "swap",.str "trade"]))=Gc (.val (.bl (makes d))):=by
 cases d<;>exact nr rfl
noncomputable def cnt(ls:Wp Ld)(ds:Wp AN):Int:=(ls.length:Int)+((ds.filter makes).length:Int)
def ZZ{m:Nat}(hm:ds[m]?=Gc d):atI (ds.map AN.d) (m:Int)=Gc d.d:=Co (by rw[qw,hm];rfl)
def gi{os:En}(hX:∀{d},wIn false (.val (.str (wordOf d))) (dr S X)=Gc (.val (.bl (makes d))))(ho:os.length=1){xs:Wp AN}(hl:xs.length<=100)(hf:∀E,f E S=Gc (X,S)):Bj [] (tNm 0) (eOp (o2 (wIn false)) [eIx (eV 0) (eI 0),f]) (eV 0) (xs.map AN.d) [] os S=Gc ((xs.filter makes).map AN.d,S):=by
 have:=FL (gs:=[]) (t:=tNm 0) (c:=eOp (o2 (wIn false)) [eIx (eV 0) (eI 0),f]) (f:=eV 0) (C:=[]) (m:=1) (e:=AN.d) (g:=AN.d) (b:=makes) (S:=S) Ac (xs:=xs) (acc:=[]) (os:=os) ho (AK (by simp;lia)) (by
  intro x hx os ho
  obtain⟨a,rfl⟩:=QY ho
  obtain⟨r,e⟩:=Vt x
  refine⟨[Gc x.d],rfl,by simp,?_,by simp⟩
  rw[e]
  have h1:=hX (d:=x)
  simp[hf,h1])
 simpa using this
def Wb(h:m<ds.length):DO [AG t ls ds,.int m] S=Gc (.bl true,S):=by
 have w:=within_int (S:=S) (i:=m) (j:=0) (k:=(ds.length:Int)-1)
 have w2:(m:Int)<=(ds.length:Int)-1:=by lia
 simp[DO,KR,AG,w,w2]
def Pt{m:Nat}(h:Bc t ls ds)(hm:ds[m]?=Gc d):Dv [AG t ls ds,.int m] S=Gc (if makes d=true then .int (cnt ls (ds.take m))else .non,S):=by
 have hlt:=(qV.mp hm).1
 have hl:=h.len
 have r1:=JP (S:=S) h
 have pl:=Wb (S:=S) (t:=t) (ls:=ls) hlt
 have a:=ZZ hm
 obtain⟨r,e⟩:=Vt d
 rw[e]at a
 have hk:dr S BS=.val BS:=rfl
 have im:=Sn (d:=d)
 cases hmk:makes d with
 |false=>
  rw[hmk]at im
  simp[Dv,IW,r1,pl]
  simp[AG,a,hk,im]
 |true=>
  rw[hmk]at im
  have c:=gi (S:=S) (X:=BS) (os:=[none]) (by rw[hk];exact Ro) rfl (xs:=ds.take m) (by simp;lia) (f:=eC BS) (λ_=>rfl)
  have sl:wSl none (Gc (m:Int)) (.val (.tup (ds.map AN.d)))=Gc (.val (.tup ((ds.take m).map AN.d))):=by
   show Gc (Wv.val (.tup (MG _ _ _)))=_
   rw[Ja (by simp;lia),vh]
  have ml:Cw [AG t ls ds,.int m] S=Gc (.int (cnt ls (ds.take m)),S):=by
   rw[vh]at c sl
   simp[Cw,IA,AG,sl,c,cnt]
  have ml2:Cw [.tup [t.d,.tup (ls.map Ld.d),.tup (ds.map AN.d)],.int m] S=Gc (.int (cnt ls (ds.take m)),S):=ml
  simp[Dv,IW,r1,pl,ml]
  simp[AG,a,hk,im,ml2]
noncomputable def K7(ds:Wp AN):Nat:=(ds.filter JV).length
def TK{os:En}(ho:os.length=1)(hl:ds.length<=50):Bj [] (tNm 0) (eOp (o2 wEq) [eIx (eV 0) (eI 0),eC (.str "throw")]) (eV 0) (ds.map AN.d) [] os S=Gc ((ds.filter JV).map AN.d,S):=by
 have:=FL (gs:=[]) (t:=tNm 0) (c:=eOp (o2 wEq) [eIx (eV 0) (eI 0),eC (.str "throw")]) (f:=eV 0) (C:=[]) (m:=1) (e:=AN.d) (g:=AN.d) (b:=JV) (S:=S) Ac (xs:=ds) (acc:=[]) (os:=os) ho (AK (by simp;lia)) (by
  intro x hx os ho
  obtain⟨a,rfl⟩:=QY ho
  exact⟨[Gc x.d],rfl,by simp,XZ x _ rfl,by simp⟩)
 simpa using this
def OX(ht:G5 t)(hw:∀d∈ds,Wf t d)(hl:ds.length<=50):BH [t.d,.tup (ds.map AN.d)] S=Gc (.bl (decide (ds.length<=20) && decide (K7 ds<=3)),S):=by
 have k3:St.Kd.tup.isA "tuple"=true:=by decide
 have d1:dr S Fb=.val (.int 20):=rfl
 have d2:dr S Eg=.val (.int 3):=rfl
 by_cases c:ds.length<=20
 .obtain⟨bs,e1,e2⟩:=g9 (S:=S) (f:=AD BF [eV 0,eV 1]) (e:=AN.d) (C:=[Gc t.d]) (os:=[none]) (xs:=ds) (gs:=[]) (t:=tNm 1) Ac (by lia) rfl (by
   intro x hx os ho
   obtain⟨a,rfl⟩:=QY ho
   have⟨r,i⟩:=fK (hw x hx)
   have e:=Mv (S:=S) ht r
   rw[i]at e
   exact⟨[Gc x.d],rfl,by simp,by simp[e]⟩)
  obtain⟨b',e3,e4⟩:=uQ.mp e2
  have tc:=TK (S:=S) (os:=[none]) rfl hl
  have c1:¬(20:Int)<ds.length:=by lia
  have c2:decide ((((ds.filter JV).length:Nat):Int)<=3)=decide (K7 ds<=3):=by
   unfold K7
   rw[vm];simp;lia
  generalize t.d=T at*
  simp[BH,Gu,kdW,k3,d1,d2,c,c1,RO]
  try simp only[rX,rH]at e1
  simp[e1,e3,e4,tc,d2,c2]
 .have c1:(20:Int)<ds.length:=by lia
  generalize t.d=T
  simp[BH,Gu,kdW,k3,d1,d2,c,c1]
end
section
variable{S:Sto}{t:Tr}{st:Stt}{d:AN}{ls:Wp Ld}{ds:Wp AN}{L q:Nat}{es:Wp D}{X:D}{o:qR D}
def gI(h:Can t st d):Wf t d:=(YX h).1
theorem Vc:∀{ds} {st:Stt},J1 t st ds->∀d∈ds,Wf t d
 | [],st,_,d,hd=>by cases hd
 |x::ds,st,h,d,hd=>by
  rcases qY.mp hd with rfl|hd
  .exact gI h.1
  .exact Vc h.2 d hd
def take_snoc:(ds++[d]).take ds.length=ds:=by simp
def bkE:=Bh [eV 2,eV 3,eOp (o2 Cq) [eV 4,Bh [eV 1]]]
def doB(Z:Ev):Ex:=(AM (xIf (F1 (AD BF [eV 2,eV 1])) Ba BP) (AM (BE 5 Z) (AM (BV (AD Ag [eV 5])) (AM (xIf (F1 (AD BH [eV 2,eIx (eV 5) (eI 2)])) Ba BP) (AM (BV (C6 "Leader" "turn_to" Aj (eV 0) [eV 5])) (Ad (AD Dv [eV 5,eOp (o1 Cs) [eV 4]])))))))
def doR(Z:Ev):Rx:=(JF (rIf (F1 (AD BF [eV 2,eV 1])) (Ea "NoDeed" [eC (.str "this is no deed of the train")]) rNo) (xIf (F1 (AD BF [eV 2,eV 1])) Ba BP) (JF rNo (BE 5 Z) (JF rNo (BV (AD Ag [eV 5])) (JF (rIf (F1 (AD BH [eV 2,eIx (eV 5) (eI 2)])) (Ea "TooMany" [eC (.str "a book hasn't so many deeds or throws")]) rNo) (xIf (F1 (AD BH [eV 2,eIx (eV 5) (eI 2)])) Ba BP) (JF rNo (BV (C6 "Leader" "turn_to" Aj (eV 0) [eV 5])) (Jv Ig [eV 5,eOp (o1 Cs) [eV 4]]))))))
def Va(h:LAt S L q (AG t ls ds) es):(Jf (tTp [tNm 2,tNm 3,tNm 4]) (IS "Leader" "kept" (eV 0))) [Gc (.ref L),o,none,none,none,none] S=Gc (.nx,[Gc (.ref L),o,Gc t.d,Gc (.tup (ls.map Ld.d)),Gc (.tup (ds.map AN.d)),none],S):=by
 simp[h.ins,AG]
def gf(h:LAt S L q (AG t ls ds) es):B9 [.ref L,X] S=(doB bkE [Gc (.ref L),Gc X,Gc t.d,Gc (.tup (ls.map Ld.d)),Gc (.tup (ds.map AN.d)),none] S).map (λr=>(flD r.1,r.2.2))/\Cc [.ref L,X] S=(doR bkE [Gc (.ref L),Gc X,Gc t.d,Gc (.tup (ls.map Ld.d)),Gc (.tup (ds.map AN.d)),none] S).map λr=>(r.1,r.2.2):=by
 have u:=λo=>Va h (o:=o)
 constructor
 .generalize hz:(Jf (tTp [tNm 2,tNm 3,tNm 4]) (IS "Leader" "kept" (eV 0)))=Z at u
  have eb:Jc=AM Z (doB bkE):=by rw[<-hz];rfl
  generalize doB bkE=B at*
  simp[B9,eb,u]
 .generalize hz:(Jf (tTp [tNm 2,tNm 3,tNm 4]) (IS "Leader" "kept" (eV 0)))=Z at u
  have eb:JG=JF rNo Z (doR bkE):=by rw[<-hz];rfl
  generalize doR bkE=B at*
  simp[Cc,eb,j0,Kw,QC,u,Tj]
def cX(hL:LAt S L q (AG t ls ds) es)(hm:es.length<1000)(bok:Bc t ls (ds++[d])):(3<K7 (ds++[d])->B9 [.ref L,d.d] S=none/\Cc [.ref L,d.d] S=Gc (⟨"TooMany",none⟩,S))/\(K7 (ds++[d])<=3->∃S',B9 [.ref L,d.d] S=Gc (if makes d=true then .int (cnt ls ds)else .non,S')/\LAt S' L q (AG t ls (ds++[d])) (es++[AG t ls ds])/\Bt [L,q] S S'):=by
 obtain⟨r1,r2⟩:=gf hL (X:=d.d)
 have hw:=Vc bok.good
 obtain⟨hr,hb⟩:=fK (hw d (by simp))
 have i:=Mv (S:=S) bok.tr hr
 rw[hb]at i
 have hlen:(ds++[d]).length<=16:=bok.len
 have hl2:ds.length+1<=16:=by simpa using hlen
 have bk:bkE [Gc (.ref L),Gc d.d,Gc t.d,Gc (.tup (ls.map Ld.d)),Gc (.tup (ds.map AN.d)),none] S=Gc (AG t ls (ds++[d]),S):=by
  have sz:ds.length+1<=sizeLine:=AK (by lia)
  have s3:1+1+1<=sizeLine:=AK (by decide)
  simp[bkE,sz,AG,s3]
 have b2:atI [t.d,.tup (ls.map Ld.d),.tup ((ds++[d]).map AN.d)] 2=Gc (.tup ((ds++[d]).map AN.d)):=nr rfl
 have u1:=JP (S:=S) bok
 have ad:=OX (S:=S) (ds:=ds++[d]) bok.tr hw (by simp;lia)
 generalize bkE=Z at*
 refine⟨λc=>?_,λc=>?_⟩
 .have af:(decide ((ds++[d]).length<=20) && decide (K7 (ds++[d])<=3))=false:=by
   rw[Bool.and_eq_false_iff]
   right;simp;lia
  rw[af]at ad
  rw[r1,r2]
  have db:dr S (AG t ls (ds++[d]))=.val (AG t ls (ds++[d])):=rfl
  have ib:asS (.val (AG t ls (ds++[d])))=Gc [t.d,.tup (ls.map Ld.d),.tup ((ds++[d]).map AN.d)]:=rfl
  generalize AG t ls (ds++[d])=BK at*
  generalize (ds++[d]).map AN.d=DD at*
  constructor
  .simp[doB,i,bk,u1,db,ib,b2,ad,NA]
  .simp[doR,i,bk,Kw,Pz,cM,cm,QC,Tj,Lc,My,u1,db,ib,b2,ad]
 .have af:(decide ((ds++[d]).length<=20) && decide (K7 (ds++[d])<=3))=true:=by
   rw[qe]
   exact⟨by simp;lia,by simp;lia⟩
  rw[af]at ad
  obtain⟨S',e1,l1,s1⟩:=V0 hL hm (b':=AG t ls (ds++[d]))
  have mb:=Pt (S:=S') bok (m:=ds.length) (d:=d) (by simp)
  rw[take_snoc]at mb
  refine⟨S',?_,l1,s1⟩
  rw[r1]
  have db:dr S (AG t ls (ds++[d]))=.val (AG t ls (ds++[d])):=rfl
  have ib:asS (.val (AG t ls (ds++[d])))=Gc [t.d,.tup (ls.map Ld.d),.tup ((ds++[d]).map AN.d)]:=rfl
  have hi:=hL.ins
  generalize AG t ls (ds++[d])=BK at*
  generalize (ds++[d]).map AN.d=DD at*
  have lt:(lds (AG t ls ds) q).lookup (rC "turn_to")=none:=nr rfl
  simp[doB,i,bk,u1,db,ib,b2,ad,hi,lt,e1,mb]
end
section
variable{S:Sto}{t:Tr}{st:Stt}{ls:Wp Ld}{ds:Wp AN}{L q:Nat}{es:Wp D}
def VO{C m:Str}{o:Ev}{r:Rx}{E:En}:VX C m o r E S=(o E S).bind λa=>(IZ a.2 C a.1).bind λas=>if(as.lookup m).isNone=true then r E a.2 else none:=nr rfl
@[simp] def nI{b:D}:(lds b q).lookup (Str.ofString "turn_to")=none:=nr rfl
def stC:=eOp (o2 wEq) [eOp (o1 Cs) [eIx (IS "Leader" "kept" (eV 0)) (eI 2)],eI 0]
def Ys(hL:LAt S L q (AG t ls ds) es):stC [Gc (.ref L)] S=Gc (.bl (decide (ds=[])),S):=by
 have b2:asS (dr S (AG t ls ds))=Gc [t.d,.tup (ls.map Ld.d),.tup (ds.map AN.d)]:=rfl
 have hi:=hL.ins
 generalize AG t ls ds=bk at*
 cases ds with
 |nil=>simp[stC,hi,b2]
 |cons d ds=>
  have:((ds.length:Int)+1==0)=false:=by simp;lia
  simp[stC,hi,b2,this]
def Wo(hL:LAt S L q (AG t ls []) es):Ay [.ref L] S=none/\BM [.ref L] S=Gc (⟨"NoNext",none⟩,S):=by
 have c:=Ys hL
 rw[si rfl]at c
 constructor
 .have eb:ES=(AM (xIf stC Ba BP) (BV (C6 "Leader" "turn_to" Aj (eV 0) [AD Ao [IS "Leader" "kept" (eV 0)]]))):=rfl
  generalize stC=C at*
  simp[Ay,eb,c,NA]
 .have eb:ET=(JF (rIf stC (Ea "NoNext" [eC (.str "a book without deeds has no next book")]) rNo) (xIf stC Ba BP) (VX "Leader" "turn_to" (eV 0) (Jv Az [IS "Leader" "kept" (eV 0)]))):=rfl
  generalize stC=C at*
  simp[BM,eb,j0,Kw,Pz,c,cm,My]
def X4(hL:LAt S L q (AG t ls ds) es)(hm:es.length<1000)(hd:ds≠[])(h:Bc t ls ds)(hh:HOk t)(ho:K6 ls/\t.ho.sum=1)(hst:runs t (st0 t ls) ds=st):((ovs t st).length<=4->∃S',Ay [.ref L] S=Gc (.non,S')/\LAt S' L q (AG (nxT t st) (ovs t st) []) (es++[AG t ls ds])/\Bt [L,q] S S')/\(4<(ovs t st).length->∃S',Ay [.ref L] S=none/\BM [.ref L] S=Gc (⟨"TooMany",none⟩,S')/\Bt [] S S'):=by
 have c:=Ys hL
 rw[uH hd]at c
 have hi:=hL.ins
 have eb:ES=(AM (xIf stC Ba BP) (BV (C6 "Leader" "turn_to" Aj (eV 0) [AD Ao [IS "Leader" "kept" (eV 0)]]))):=rfl
 have er:ET=(JF (rIf stC (Ea "NoNext" [eC (.str "a book without deeds has no next book")]) rNo) (xIf stC Ba BP) (VX "Leader" "turn_to" (eV 0) (Jv Az [IS "Leader" "kept" (eV 0)]))):=rfl
 refine⟨λhl=>?_,λhl=>?_⟩
 .obtain⟨S1,e1,s1⟩:=O0 (S:=S) h hh ho hst hl
  obtain⟨S2,e2,l2,s2⟩:=V0 (hL.same s1) hm (b':=AG (nxT t st) (ovs t st) [])
  refine⟨S2,?_,l2,(s1.mono λ_ z=>nomatch z).trans s2⟩
  generalize stC=C at*
  generalize AG (nxT t st) (ovs t st) []=nb at*
  generalize AG t ls ds=bk at*
  simp[Ay,eb,c,hi,e1,e2]
 .obtain⟨S1,e1,e2,s1⟩:=PZ (S:=S) h hh ho hst hl
  refine⟨S1,?_,?_,s1⟩
  .generalize stC=C at*
   generalize AG t ls ds=bk at*
   simp[Ay,eb,c,hi,e1]
  .generalize stC=C at*
   generalize AG t ls ds=bk at*
   simp[BM,er,j0,Kw,Pz,c,cM,QC,Tj,VO,Lc,hi,e2]
end
section
variable{S:Sto}{t:Tr}{st:Stt}{ls:Wp Ld}{ds:Wp AN}{p:Nat}
def goB:=BV (AD Dh [eIx (eV 1) (eI 0),eV 2,eV 3])
theorem cj{s l m:Nat}{a0:qR D}{ds0:Wp AN}(ht:G5 t):∀{es:Wp AN} {st:Stt} {k:Nat} {as:Wp Nat} {S:Sto} {o:qR D},SAt S s l m as st->EY t k st->J1 t st es->k+es.length<=17->∃S' as' o',K1 [] (tNm 3) goB (es.map AN.d) [a0,Gc (AG t ls ds0),Gc (.ref s),o] S=Gc (.nx,[a0,Gc (AG t ls ds0),Gc (.ref s),o'],S')/\SAt S' s l m as' (runs t st es)/\Bt (s::l::m::as) S S'/\(∀n∈as',n∈as\/S.length<=n)
 | [],st,k,as,S,o,hS,inv,g,hl=>⟨S,as,o,by rw[sQ,GQ Ac],hS,.refl,λn h=>.inl h⟩
 |d::es,st,k,as,S,o,hS,inv,g,hl=>by
  obtain⟨S1,as1,k1,k2,k3,k4⟩:=jz hS ht inv (by simp at hl;lia) g.1
  obtain⟨S2,as2,o',q1,q2,q3,q4⟩:=cj (a0:=a0) (ds0:=ds0) ht (o:=Gc d.d) k2 (K0 ht inv (by simp at hl;lia) g.1) g.2 (by simp at hl;lia)
  refine⟨S2,as2,o',?_,q2,?_,λn hn=>?_⟩
  .rw[qq,Dr Ac]
   have e:goB [a0,Gc (AG t ls ds0),Gc (.ref s),Gc d.d] S=Gc (.nx,[a0,Gc (AG t ls ds0),Gc (.ref s),Gc d.d],S1):=by
    have as0:asS (dr S (AG t ls ds0))=Gc [t.d,.tup (ls.map Ld.d),.tup (ds0.map AN.d)]:=rfl
    generalize AG t ls ds0=bk at*
    simp[goB,as0,k1]
   generalize goB=GB at*
   generalize AG t ls ds0=bk at*
   simp[e,q1]
  .refine⟨qU k3.len q3.len,λn hn ha=>(q3.keep n (qS hn k3.len) λz=>?_).trans (k3.keep n hn ha)⟩
   simp only[qY,xp]at z ha
   rcases z with z|z|z|z
   .exact ha.1 z
   .exact ha.2.1 z
   .exact ha.2.2.1 z
   .rcases k4 _ z with w|w
    .exact ha.2.2.2 w
    .lia
  .rcases q4 n hn with w|w
   .exact k4 n w
   .exact .inr (qU k3.len w)
def Zk(pen:Df p S)(h:Bc t ls ds):∃d S',F5 [.ref p,AG t ls ds] S=Gc (AN.d d,S')/\Pn p S S'/\Can t (runs t (st0 t ls) ds) d:=by
 have ht:=h.tr
 have hl:=h.four
 obtain⟨k,hk,inv⟩:=h.lev
 obtain⟨s,l,m,as,S1,e1,hS,sm,hn⟩:=Xb (S:=S) (t:=t) (ls:=ls) (x:=.tup (ds.map AN.d)) (by lia)
 obtain⟨S2,as2,o',e2,hS2,sm2,hn2⟩:=cj (ls:=ls) (a0:=Gc (.ref p)) (ds0:=ds) (o:=none) ht (show SAt S1 s l m as (st0 t ls)from hS) inv h.good (by lia)
 have pn:p∉s::l::m::as:=λz=>by have:=hn p z;have:=pen.lt;lia
 have s12:Bt [] S S2:=Bt.new (A:=[]) (B:=s::l::m::as) sm (by simpa using sm2) hn
 have pen2:Df p S2:=by
  obtain⟨ds,e,hp⟩:=pen
  exact⟨ds,s12.get e (by simp),hp⟩
 have pn2:p∉s::l::m::as2:=λz=>by
  simp only[qY,xp]at z pn
  rcases z with z|z|z|z
  .exact pn.1 z
  .exact pn.2.1 z
  .exact pn.2.2.1 z
  .rcases hn2 _ z with w|w
   .exact pn.2.2.2 w
   .have:=pen.lt;have:=sm.len;lia
 obtain⟨k',hk',inv2⟩:=h.lv
 obtain⟨d,S3,e3,p3,can⟩:=Zf pen2 hS2 pn2 ht inv2 hk'
 refine⟨d,S3,?_,⟨⟨qU s12.len p3.same.len,λn hn ha=>(p3.same.keep n (qS hn s12.len) ha).trans (s12.keep n hn (by simp))⟩,p3.pen⟩,can⟩
 have eb:Mq=(AM (BE 2 (AD FR [eV 1])) (AM (OJ (HC (eIx (eV 1) (eI 2))) (tNm 3) goB) (Ad (AD DN [eV 0,eIx (eV 1) (eI 0),eV 2])))):=rfl
 generalize goB=GB at*
 simp only[AG]at e2⊢
 have dt:∀T:Sto,dr T t.d=.val t.d:=λ_=>rfl
 simp[F5,eb,e1,e2,e3]
end
section
variable{S:Sto}{t:Tr}{st:Stt}{ls:Wp Ld}{ds:Wp AN}{p:Nat}{d:AN}
noncomputable def MO(ls:Wp Ld)(ds:Wp AN)(d:AN):D:=if makes d=true then .int (cnt ls ds)else .non
noncomputable def V6(ls:Wp Ld)(ds:Wp AN)(d:AN):D:=if 3<K7 (ds++[d])then .str "many" else MO ls ds d
def Td:K7 (ds++[d])=K7 ds+(if JV d=true then 1 else 0):=by
 unfold K7
 rw[List.filter_append,sA]
 cases h:JV d<;>simp[h]
def Xd(hl:ds.length<=50)(h3:K7 ds<=3):Bs [AG t ls ds,d.d] S=Gc (V6 ls ds d,S):=by
 have tc:=TK (S:=S) (os:=[none]) rfl hl
 have mc:=gi (S:=S) (X:=.tup [.str "bring",.str "pool",.str "swap",.str "trade"]) (os:=[none]) (λ{d}=>Uk) rfl (xs:=ds) (by lia) (f:=Bh [eC (.str "bring"),eC (.str "pool"),eC (.str "swap"),eC (.str "trade")]) (λE=>by
  have s4:1+1+1+1<=sizeLine:=AK (by decide)
  simp[s4])
 have s4:1+1+1+1<=sizeLine:=AK (by decide)
 generalize hz:(eOp (o2 (wIn false)) [eIx (eV 0) (eI 0),Bh [eC (.str "bring"),eC (.str "pool"),eC (.str "swap"),eC (.str "trade")]])=Z at mc
 generalize hy:(eOp (o2 wEq) [eIx (eV 0) (eI 0),eC (.str "throw")])=Y at tc
 have c1:(eOp (o2 wEq) [eIx (eV 1) (eI 0),eC (.str "throw")]) [Gc (AG t ls ds),Gc d.d] S=Gc (.bl (JV d),S):=by
  cases d<;>simp[AN.d,JV]
 generalize hw:(eOp (o2 wEq) [eIx (eV 1) (eI 0),eC (.str "throw")])=W at c1
 have c2:(eOp (o2 (wIn false)) [eIx (eV 1) (eI 0),Bh [eC (.str "bring"),eC (.str "pool"),eC (.str "swap"),eC (.str "trade")]]) [Gc (AG t ls ds),Gc d.d] S=Gc (.bl (makes d),S):=by
  obtain⟨r,e⟩:=Vt d
  have f:=Uk (d:=d)
  rw[e]
  simp[s4,f]
 generalize hv:(eOp (o2 (wIn false)) [eIx (eV 1) (eI 0),Bh [eC (.str "bring"),eC (.str "pool"),eC (.str "swap"),eC (.str "trade")]])=V at c2
 have eb:JN=(AM (xIf (Fs W (eOp (o2 wEq) [eOp (o1 Cs) [CN [] 1 (HC (eIx (eV 0) (eI 2))) (tNm 0) Y (eV 0)],eI 3])) (Ad (eC (.str "many"))) BP)
  (AM (xIf V (Ad (eOp (o2 Cq) [eOp (o1 Cs) [eIx (eV 0) (eI 1)],eOp (o1 Cs) [CN [] 1 (HC (eIx (eV 0) (eI 2))) (tNm 0) Z (eV 0)]])) BP)
  (Ad (eC .non)))):=by rw[<-hz,<-hy,<-hw,<-hv];rfl
 simp only[AG]at c1 c2⊢
 have sn:=Td (ds:=ds) (d:=d)
 have tl:(((ds.filter JV).length:Nat):Int)=(K7 ds:Int):=rfl
 cases ht:JV d with
 |false=>
  rw[ht]at c1 sn
  have nd:¬3<K7 (ds++[d]):=by rw[sn];simp;exact h3
  have ed:V6 ls ds d=MO ls ds d:=rA nd
  rw[ed]
  cases hm:makes d with
  |false=>
   rw[hm]at c2
   simp[Bs,eb,c1,c2,MO,hm]
  |true=>
   rw[hm]at c2
   simp[Bs,eb,c1,c2,mc,MO,hm,cnt]
 |true=>
  rw[ht]at c1 sn
  have hm:makes d=false:=by cases d<;>first|rfl|cases ht
  by_cases e3:K7 ds=3
  .have nd:3<K7 (ds++[d]):=by rw[sn,e3];decide
   have ed:V6 ls ds d=.str "many":=rB nd
   rw[ed]
   have q3:((((ds.filter JV).length:Nat):Int)==3)=true:=by rw[tl,e3];rfl
   simp[Bs,eb,c1,tc,q3]
  .have nd:¬3<K7 (ds++[d]):=by rw[sn];simp;lia
   have ed:V6 ls ds d=MO ls ds d:=rA nd
   rw[ed]
   rw[hm]at c2
   have q3:((((ds.filter JV).length:Nat):Int)==3)=false:=by rw[tl];simp;lia
   simp[Bs,eb,c1,tc,q3,c2,MO,hm]
def ZC(hl:ds.length<=50):GD [AG t ls ds,d.d] S=Gc (AG t ls (ds++[d]),S):=by
 have s1:ds.length+1<=sizeLine:=qU (show _<=60 by lia) (AK (by decide))
 have s2:1+1+1<=sizeLine:=AK (by decide)
 have s3:2+1<=sizeLine:=AK (by decide)
 have ct:MG [t.d,D.tup (ls.map Ld.d),.tup (ds.map AN.d)] none (Gc 2)=[t.d,.tup (ls.map Ld.d)]:=nr rfl
 simp[GD,Mf,AG,ct,s1,s2,s3]
def Wc(pen:Df p S):∃t ls S',FE [.ref p] S=Gc (.tup [t.d,.tup (ls.map Ld.d)],S')/\Pn p S S'/\G5 t/\(t.ho.length=t.p/\t.ho.sum=1)/\HOk t/\EO t ls/\ls.length<=4/\∃G:Nat,0<G/\G<=32/\∀r∈t.ho,Ok G G r:=by
 obtain⟨t,S1,e1,p1,ht,hh,hho,g⟩:=Sk pen
 obtain⟨ls,S2,e2,p2,hf,hl⟩:=Wq p1.pen ht
 refine⟨t,ls,S2,?_,p1.trans p2,ht,hh,hho,hf,hl,g⟩
 simp[FE,LW,e1,e2]
end
section
variable{S:Sto}{t:Tr}{st:Stt}{ls:Wp Ld}{ds:Wp AN}{p:Nat}
def Rc:(D.str x).py.depth<=n+1:=by
 simp only[D.py,PyData.depth]
 lia
def WV:(D.str "bring").lay=true/\(D.str "pool").lay=true/\(D.str "swap").lay=true/\(D.str "trade").lay=true/\(D.str "spoil").lay=true/\(D.str "throw").lay=true/\(D.str "sell").lay=true:=by decide+kernel
def RJ{d:AN}:d.d.lay=true:=by
 obtain⟨w1,w2,w3,w4,w5,w6,w7⟩:=WV
 have hw:∀ws:Wp Int,(D.tup (ws.map D.int)).lay=true:=λws=>Gg λ_ _=>rfl
 have ha:∀r:Rat,(aD r).lay=true:=λ_=>rfl
 have hi:∀i:Int,(D.int i).lay=true:=λ_=>rfl
 have ht:∀ds:Wp D,(D.tup ds).lay=D.OH ds:=λ_=>rfl
 have hc:∀(d:D) (ds:Wp D),D.OH (d::ds)=(d.lay && D.OH ds):=λ_ _=>rfl
 have hn:D.OH []=true:=rfl
 cases d with
 |thr l n ws=>
  have:=hw ws
  generalize hq:D.tup (ws.map D.int)=q at*
  simp only[AN.d,hq,ht,hc,hn,hi,w6,this,Bool.and_self]
 |_=>simp only[AN.d,ht,hc,hn,hi,ha,w1,w2,w3,w4,w5,w7,Bool.and_self]
def fC{d:AN}:d.d.py.depth<=3:=by
 cases d with
 |thr l n ws=>
  refine L0 (n:=2) λe he=>?_
  simp only[qY,qp,sC]at he
  rcases he with rfl|rfl|rfl|rfl
  .exact Rc
  .exact HB
  .exact HB
  .refine L0 (n:=1) λe he=>?_
   obtain⟨w,_,rfl⟩:=rS.mp he
   exact HB
 |GN p q s=>
  refine L0 (n:=2) λe he=>?_
  simp only[qY,qp,sC]at he
  rcases he with rfl|rfl|rfl|rfl
  .exact Rc
  .exact HB
  .exact HB
  .exact lr
 |_=>
  refine L0 (n:=2) λe he=>?_
  simp only[qY,qp,sC]at he
  first
   |(rcases he with rfl|rfl|rfl|rfl|rfl|rfl<;>first|exact Rc|exact HB)
   |(rcases he with rfl|rfl|rfl|rfl|rfl<;>first|exact Rc|exact HB)
   |(rcases he with rfl|rfl|rfl|rfl<;>first|exact Rc|exact HB)
   |(rcases he with rfl|rfl|rfl<;>first|exact Rc|exact HB)
def gM:t.d.lay=true:=by
 show(true && (true && (true && ((shD t.ho).lay && (true && (true && true))))))=true
 rw[Yx];rfl
def nQ:t.d.py.depth<=4:=L0 (n:=3) λe he=>by
 simp only[qY,qp,sC]at he
 rcases he with rfl|rfl|rfl|rfl|rfl|rfl
 .exact HB
 .exact HB
 .exact HB
 .exact mH
 .exact HB
 .exact HB
def Ql:(AG t ls ds).lay=true:=by
 show(t.d.lay && ((D.tup (ls.map Ld.d)).lay && ((D.tup (ds.map AN.d)).lay && true)))=true
 rw[gM,show(D.tup (ls.map Ld.d)).lay=true from Gg λ_ _=>gB,show(D.tup (ds.map AN.d)).lay=true from Gg λ_ _=>RJ]
 rfl
def Og:Iz (AG t ls ds) (AG t ls ds)=true:=HN Ql (qU (L0 (n:=5) λe he=>by
 simp only[qY,qp,sC]at he
 rcases he with rfl|rfl|rfl
 .exact qU nQ (by decide)
 .refine L0 (n:=4) λe he=>?_
  obtain⟨w,_,rfl⟩:=rS.mp he
  exact oS
 .refine L0 (n:=4) λe he=>?_
  obtain⟨w,_,rfl⟩:=rS.mp he
  exact qU fC (by decide)) (by decide))
def Q6:deq (AG t ls ds) (AG t ls ds)=true:=Hx Ql
def Kr{x:Str}{G6:Wp Nat}{F:Ev}{R:Rx}{n:Nat}{h:Tg->Ex}{E:En}{d:D}{S1:Sto}(hT:S.any (Pw x)=true)(hF:F (Im G6 E) S=Gc (d,S1)):HA x G6 F R n h E S=Gc (d,S1):=by
 unfold HA
 rw[rB hT,hF]
def Hv{x:Str}{G6:Wp Nat}{F:Ev}{R:Rx}{n:Nat}{h:Tg->Ex}{E E' E2:En}{d:D}{tg:Tg}{S1 S2:Sto}(hT:S.any (Pw x)=true)(hF:F (Im G6 E) S=none)(hR:R (Im G6 E) S=Gc (tg,E',S1))(hh:h tg (none::qk n none) S1=Gc (.ret d,E2,S2)):HA x G6 F R n h E S=Gc (d,S2):=by
 unfold HA
 rw[rB hT,hF]
 show Option.bind _ _=_
 rw[hR,A1,hh,A1]
def hdK:Tg->Ex:=gOr ["TooMany","NoNext","NothingDone"] "TooMany" (Ad (eC (.str "many"))) (gOr ["TooMany","NoNext","NothingDone"] "NoNext" (Ad (eC (.str "next"))) (gOr ["TooMany","NoNext","NothingDone"] "NothingDone" (Ad (eC (.str "nothing"))) gNo))
def hdM{E:En}:hdK ⟨"TooMany",none⟩ E S=Gc (.ret (.str "many"),E,S):=by
 have e:hdK ⟨"TooMany",none⟩=Ad (eC (.str "many")):=by simp[hdK,gOr]
 rw[e]
 simp
def hdN{E:En}:hdK ⟨"NoNext",none⟩ E S=Gc (.ret (.str "next"),E,S):=by
 have n1:(rC "NoNext" ==rC "TooMany")=false:=by decide+kernel
 have e:hdK ⟨"NoNext",none⟩=Ad (eC (.str "next")):=by simp[hdK,gOr,n1]
 rw[e]
 simp
def hdD{E:En}:hdK ⟨"NothingDone",none⟩ E S=Gc (.ret (.str "nothing"),E,S):=by
 have n1:(rC "NothingDone" ==rC "TooMany")=false:=by decide+kernel
 have n2:(rC "NothingDone" ==rC "NoNext")=false:=by decide+kernel
 have e:hdK ⟨"NothingDone",none⟩=Ad (eC (.str "nothing")):=by simp[hdK,gOr,n1,n2]
 rw[e]
 simp
noncomputable def FT(t:Tr)(st:Stt)(ds:Wp AN):D:=if ds=[]then .str "next" else if(ovs t st).length<=4 then AG (nxT t st) (ovs t st) []else .str "many"
def QE(hT:S.any (Pw "_law_next")=true)(h:Bc t ls ds)(hh:HOk t)(ho:K6 ls/\t.ho.sum=1)(hst:runs t (st0 t ls) ds=st):∃S',Dw [AG t ls ds] S=Gc (FT t st ds,S')/\Bt [] S S':=by
 have eb:Md=(AM (xIf (eOp (o2 wEq) [eIx (eV 0) (eI 2),Bh []]) (Ad (eC (.str "next"))) BP)
  (Ad (HA "_law_next" [0] (AD Ao [eV 0]) (Jv Az [eV 0]) 0 hdK))):=rfl
 have c:(eOp (o2 wEq) [eIx (eV 0) (eI 2),Bh []]) [Gc (AG t ls ds)] S=Gc (.bl (decide (ds=[])),S):=by
  have as0:asS (dr S (AG t ls ds))=Gc [t.d,.tup (ls.map Ld.d),.tup (ds.map AN.d)]:=rfl
  have ok:Iz (.tup (ds.map AN.d)) (.tup [])=true:=by
   have l1:(D.tup (ds.map AN.d)).lay=true:=Gg λ_ _=>RJ
   unfold Iz
   rw[l1]
   show decide (min (D.tup (ds.map AN.d)).py.depth (D.tup []).py.depth<=60)=true
   exact si (qU (vT _ _) (by decide))
  have dq:deq (.tup (ds.map AN.d)) (.tup [])=decide (ds=[]):=by
   cases ds with
   |nil=>rfl
   |cons d ds=>rfl
  generalize AG t ls ds=bk at*
  have dd0:dr S (.tup (ds.map AN.d))=.val (.tup (ds.map AN.d)):=rfl
  generalize D.tup (ds.map AN.d)=dd at*
  have fz0:fz (.val dd)=dd:=rfl
  simp[as0,dd0,fz0,ok,dq]
 generalize (eOp (o2 wEq) [eIx (eV 0) (eI 2),Bh []])=C at*
 unfold FT
 by_cases hd:ds=[]
 .rw[si hd]at c
  rw[rB hd]
  refine⟨S,?_,.refl⟩
  generalize AG t ls ds=bk at*
  generalize hdK=hk at*
  simp[Dw,eb,c]
 .rw[uH hd]at c
  rw[rA hd]
  by_cases hl:(ovs t st).length<=4
  .rw[rB hl]
   obtain⟨S1,e1,s1⟩:=O0 (S:=S) h hh ho hst hl
   refine⟨S1,?_,s1⟩
   have l:=Kr (G6:=[0]) (E:=[Gc (AG t ls ds)]) (F:=AD Ao [eV 0]) (R:=Jv Az [eV 0]) (n:=0) (h:=hdK) (d:=AG (nxT t st) (ovs t st) []) (S1:=S1) hT (by
    generalize AG (nxT t st) (ovs t st) []=nb at*
    generalize AG t ls ds=bk at*
    simp[Im,e1])
   generalize AG (nxT t st) (ovs t st) []=nb at*
   generalize AG t ls ds=bk at*
   generalize hdK=hk at*
   generalize HA "_law_next" [0] (AD Ao [eV 0]) (Jv Az [eV 0]) 0 hk=LM at*
   simp[Dw,eb,c,l]
  .rw[rA hl]
   obtain⟨S1,e1,e2,s1⟩:=PZ (S:=S) h hh ho hst (by lia)
   refine⟨S1,?_,s1⟩
   have l:=Hv (G6:=[0]) (E:=[Gc (AG t ls ds)]) (F:=AD Ao [eV 0]) (R:=Jv Az [eV 0]) (n:=0) (h:=hdK) (d:=.str "many") (S1:=S1) (S2:=S1) hT (by
    generalize AG t ls ds=bk at*
    simp[Im,e1]) (E':=[Gc (AG t ls ds)]) (tg:=⟨"TooMany",none⟩) (by
    generalize AG t ls ds=bk at*
    simp[Im,Lc,e2]) hdM
   generalize AG t ls ds=bk at*
   generalize hdK=hk at*
   generalize HA "_law_next" [0] (AD Ao [eV 0]) (Jv Az [eV 0]) 0 hk=LM at*
   simp[Dw,eb,c,l]
end
section
variable{S:Sto}{t:Tr}{st:Stt}{ls:Wp Ld}{ds:Wp AN}{n j:Nat}{d:AN}
def kJ{m l j:Nat}(h:m+l<=13)(hj:j<=13):∃k,k+l<=16/\26+161*m+7*j<=30+170*k:=⟨m+1,by lia,by lia⟩
def ZE(w:Wk t ls ds n j)(hn:n+j<=12)(can:Can t (runs t (st0 t ls) ds) d):Wk t ls (ds++[d]) (n+1) j:=by
 obtain⟨bk,hh,ho,m,G,B,hm,g0,gb,bb,o1,o2⟩:=w
 obtain⟨k,hk,hb⟩:=kJ (m:=m) (l:=(ds++[d]).length) (j:=j) (by simp;lia) (by lia)
 have iv:=(YI (k:=k) bk g0 gb (qS bb (Dl hb)) o1 o2).inv
 exact⟨⟨bk.tr,⟨k,hk,iv⟩,bk.four,bk.pc0,Mz bk.good can⟩,hh,ho,m,G,B,by simp;lia,g0,gb,bb,o1,o2⟩
def WQ(w:Wk t ls ds n j)(hn:n+j<=12)(hst:runs t (st0 t ls) ds=st)(hl:(ovs t st).length<=4):Wk (nxT t st) (ovs t st) [] n (j+1):=by
 obtain⟨bk,hh,ho,m,G,B,hm0,g0,gb,bb,o1,o2⟩:=w
 obtain⟨k,hk,hb⟩:=kJ (m:=m) (l:=ds.length) (j:=j) (by lia) (by lia)
 have sg:=YI (k:=k) bk g0 gb (qS bb (Dl hb)) o1 o2
 obtain⟨T,G1,B1,rfl,t0,tb,ub,h1⟩:=Qo bk.tr sg bk.good (by lia)
 rw[hst]at h1
 have hm:=UN bk hh ho
 rw[hst]at hm
 have gs:=gC hh h1.g0 (λx hx=>(h1.lok x hx).ok) h1.hok hm
 have o:=eG gs
 have hs:=bk.fc ho.1 ho.2 ds.length
 rw[uz,hst]at hs
 have ho2:K6 (ovs t st):=W0 hm
 have bit:B1*120<2^(26+161*(m+ds.length)+7*(j+1)):=by
  have a:B1<2^(26+161*m+7*j+161*ds.length):=by
   refine q8 ub ?_
   rw[xk 2 (26+161*m+7*j)]
   exact Nat.mul_lt_mul_of_pos_right bb (vC (by simp))
  exact qS (Bm a (show 120<2^7 by decide)) (Dl (by lia))
 have g120:G*T*10*12=G*T*120:=by lia
 have hk0:∀r∈st.hold,Ok (G*T*120) (B1*120) r:=λr hr=>(h1.hok r hr).up (qW _)
 have hk1:∀y∈ovs t st,∀r∈y.ow,Ok (G*T*120) (B1*120) r:=λy hy r hr=>by
  have:=(o y hy).2.2 r hr
  rw[g120]at this
  exact this.mono (rP _ h1.gb)
 obtain⟨k2,hk2,hb2⟩:=kJ (m:=m+ds.length) (l:=0) (j:=j+1) (by lia) (by lia)
 have iv:EY (nxT t st) k2 (st0 (nxT t st) (ovs t st)):=by
  refine SIG.inv (G:=G*T*120) (B:=B1*120) ⟨by show(ovs t st).length<=_;lia,λy hy=>?_,h1.hold,tP _,by have:=h1.g0;lia,rP _ h1.gb,qS bit (Dl hb2),hk0⟩
  have oy:=o y hy
  refine⟨?_,vA oy.1,cB (vD oy.2.1 (by decide)),(show y.ow.length=t.p from ZQ hm hy),hk1 y hy⟩
  obtain⟨x,hx,_,rfl⟩:=NP hy
  exact(h1.lok x hx).kd
 exact⟨⟨bk.tr,⟨k2,by simpa using hk2,iv⟩,hl,λy hy=>⟨vA (o y hy).1,vD (o y hy).2.1 (by decide)⟩,trivial⟩,hh,⟨ho2,hs⟩,m+ds.length,G*T*120,B1*120,by simpa using hm0,by have:=h1.g0;lia,rP _ h1.gb,bit,hk1,hk0⟩
def Df.same{p:Nat}{S S':Sto}(h:Df p S)(g:Bt [] S S'):Df p S':=by
 obtain⟨ds,e,hp⟩:=h
 exact⟨ds,g.get e (by simp),hp⟩
def GdB(b0:D)(i:Nat)(b:D):Prop:=(i=0->b=b0)/\∃t ls ds n j,b=AG t ls ds/\Wk t ls ds n j/\n+j<=i/\K7 ds<=3
def RQ(S:Sto):Prop:=∀x∈(["_law_next","_law_step","law"]:Wp Str),∃k:Nat,S[k]?=Gc (Cl.tab x)
structure At(S:Sto)(p L q r:Nat)(b0:D)(es:Wp D)(b:D):Prop where
 pen:Df p S
 la:LAt S L q b es
 pa:S[r]?=Gc (.lst (es++[b]))
 tb:RQ S
 pq:p≠q
 pr:p≠r
 qr:q≠r
 gd:∀i x,(es++[b])[i]?=Gc x->GdB b0 i x
 few:es.length<=12
section
variable{S':Sto}{p L q r:Nat}{es es':Wp D}{b b':D}
def RQ.keep{A:Wp Nat}(h:RQ S)(s:Bt A S S')(ha:∀a∈A,∀x,S[a]?≠Gc (Cl.tab x)):RQ S':=λx hx=>by
 obtain⟨k,e⟩:=h x hx
 exact⟨k,s.get e λz=>ha k z _ e⟩
def RQ.any(h:RQ S){x:Str}(hx:x∈(["_law_next","_law_step","law"]:Wp Str)):S.any (Pw x)=true:=by
 obtain⟨k,e⟩:=h x hx
 exact List.any_eq_true.mpr ⟨_,qo e,by unfold Pw;simp⟩
def At.pL(h:At S p L q r b0 es b):p≠L:=λz=>by
 obtain⟨ds,e,_⟩:=h.pen
 rw[z,h.la.ob]at e
 cases e
def At.rL(h:At S p L q r b0 es b):r≠L:=λz=>by
 have e:=h.pa
 rw[z,h.la.ob]at e
 cases e
def At.same(h:At S p L q r b0 es b)(s:Bt [] S S'):At S' p L q r b0 es b:=⟨h.pen.same s,h.la.same s,s.get h.pa (by simp),h.tb.keep s (λa ha=>nomatch ha),h.pq,h.pr,h.qr,h.gd,h.few⟩
def At.pn(h:At S p L q r b0 es b)(s:Pn p S S'):At S' p L q r b0 es b:=⟨s.pen,⟨s.get h.la.ob h.pL.symm,s.get h.la.er h.pq.symm⟩,s.get h.pa h.pr.symm,h.tb.keep s.same (λa ha x e=>by
 obtain⟨ds,e2,_⟩:=h.pen
 rw[rD.mp ha,e2]at e
 cases e),h.pq,h.pr,h.qr,h.gd,h.few⟩
def At.turned(h:At S p L q r b0 es b){S1 S2:Sto}(s1:Bt [r] S S1)(e1:S1[r]?=Gc (.lst (es'++[b'])))(s2:Bt [L,q] S1 S2)(l2:LAt S2 L q b' es')(g:∀i x,(es'++[b'])[i]?=Gc x->GdB b0 i x)(hf:es'.length<=12):At S2 p L q r b0 es' b':=by
 have rq:=h.qr.symm
 have hp:Df p S2:=by
  obtain⟨ds,e,hp⟩:=h.pen
  exact⟨ds,s2.get (s1.get e (by simpa using h.pr)) (by simp;exact⟨h.pL,h.pq⟩),hp⟩
 refine⟨hp,l2,s2.get e1 (by simp;exact⟨h.rL,rq⟩),(h.tb.keep s1 λa ha x e=>?_).keep s2 λa ha x e=>?_,h.pq,h.pr,h.qr,g,hf⟩
 .rw[rD.mp ha,h.pa]at e
  cases e
 .simp only[qY,qp,sC]at ha
  rcases ha with rfl|rfl
  .rw[s1.get h.la.ob (by simpa using h.rL.symm)]at e;cases e
  .rw[s1.get h.la.er (by simpa using h.qr)]at e;cases e
end
end
section
variable{S:Sto}{p L q r:Nat}{es:Wp D}{b:D}
def TU{α:Type}{xs:Wp α}{x:α}:atI (xs++[x]) (-1:Int)=Gc x:=by
 have ix:ixN (xs++[x]).length (-1)=Gc xs.length:=by
  rw[sA]
  unfold ixN
  simp
  lia
 unfold atI
 rw[ix]
 show(xs++[x])[xs.length]?=Gc x
 simp
def lmU:=HA "_law_step" [1] (C6 "Leader" "undo" Ar (eV 0) []) (Ko "Leader" "undo" Bf (eV 0) []) 0 hdK
def lmS:=HA "_law_step" [1] (C6 "Leader" "start" Ay (eV 0) []) (Ko "Leader" "start" BM (eV 0) []) 0 hdK
def lmD:=HA "_law_step" [1,6] (C6 "Leader" "do" B9 (eV 0) [eV 1]) (Ko "Leader" "do" Cc (eV 0) [eV 1]) 0 hdK
@[simp] def og{b:D}:(lds b q).lookup (Str.ofString "undo")=none:=nr rfl
@[simp] def ny{b:D}:(lds b q).lookup (Str.ofString "start")=none:=nr rfl
@[simp] def pF{b:D}:(lds b q).lookup (Str.ofString "do")=none:=nr rfl
@[simp] def oI{b:D}:(lds b q).lookup (Str.ofString "book")=none:=nr rfl
def Rj{b':D}{us:En}{o:qR D}(tb:RQ S)(la:LAt S L q b (es++[b'])):∃S',lmU (o::Gc (.ref L)::us) S=Gc (.non,S')/\LAt S' L q b' es/\Bt [L,q] S S':=by
 obtain⟨S',e,l,s⟩:=Ut la
 refine⟨S',Kr (tb.any (by simp)) ?_,l,s⟩
 simp[Im,la.ins,e]
def T5{us:En}{o:qR D}(h:At S p L q r b0 [] b):lmU (o::Gc (.ref L)::us) S=Gc (.str "nothing",S):=by
 obtain⟨e1,e2⟩:=VY h.la
 refine Hv (h.tb.any (by simp)) ?_ (E':=[Gc (.ref L)]) (tg:=⟨"NothingDone",none⟩) ?_ hdD
 .simp[Im,h.la.ins,e1]
 .simp[Im,HQ,h.la.ins,e2]
def VS{t:Tr}{ls:Wp Ld}{ds:Wp AN}{st:Stt}{us:En}{o:qR D}(tb:RQ S)(la:LAt S L q (AG t ls ds) es)(hf:es.length<=12)(bk:Bc t ls ds)(hh:HOk t)(ho:K6 ls/\t.ho.sum=1)(hst:runs t (st0 t ls) ds=st):∃S',if ds≠[]/\(ovs t st).length<=4 then lmS (o::Gc (.ref L)::us) S=Gc (.non,S')/\LAt S' L q (AG (nxT t st) (ovs t st) []) (es++[AG t ls ds])/\Bt [L,q] S S' else lmS (o::Gc (.ref L)::us) S=Gc (FT t st ds,S')/\Bt [] S S':=by
 have hT:=tb.any (x:="_law_step") (by simp)
 have hi:=la.ins
 by_cases hd:ds=[]
 .subst hd
  obtain⟨e1,e2⟩:=Wo la
  refine⟨S,?_⟩
  rw[rA (by simp)]
  refine⟨?_,.refl⟩
  have:FT t st []=.str "next":=rfl
  rw[this]
  refine Hv hT ?_ (E':=[Gc (.ref L)]) (tg:=⟨"NoNext",none⟩) ?_ hdN
  .simp[Im,hi,e1]
  .simp[Im,HQ,hi,e2]
 .obtain⟨s1,s2⟩:=X4 la (by lia) hd bk hh ho hst
  by_cases hl:(ovs t st).length<=4
  .obtain⟨S',e,l,s⟩:=s1 hl
   refine⟨S',?_⟩
   rw[rB ⟨hd,hl⟩]
   refine⟨Kr hT ?_,l,s⟩
   simp[Im,hi,e]
  .obtain⟨S',e1,e2,s⟩:=s2 (by lia)
   refine⟨S',?_⟩
   rw[rA (λz=>hl z.2)]
   refine⟨?_,s⟩
   have:FT t st ds=.str "many":=by
    unfold FT
    rw[rA hd,rA hl]
   rw[this]
   refine Hv hT ?_ (E':=[Gc (.ref L)]) (tg:=⟨"TooMany",none⟩) ?_ hdM
   .simp[Im,hi,e1]
   .simp[Im,HQ,hi,e2]
def m9{t:Tr}{ls:Wp Ld}{ds:Wp AN}{d:AN}{o o2 o3 o4 o5:qR D}(tb:RQ S)(la:LAt S L q (AG t ls ds) es)(hf:es.length<=12)(bok:Bc t ls (ds++[d])):∃S',lmD [o,Gc (.ref L),o2,o3,o4,o5,Gc d.d] S=Gc (V6 ls ds d,S')/\if 3<K7 (ds++[d])then S'=S else LAt S' L q (AG t ls (ds++[d])) (es++[AG t ls ds])/\Bt [L,q] S S':=by
 have hT:=tb.any (x:="_law_step") (by simp)
 have hi:=la.ins
 obtain⟨s1,s2⟩:=cX la (by lia) bok
 unfold V6
 by_cases c:3<K7 (ds++[d])
 .obtain⟨e1,e2⟩:=s1 c
  refine⟨S,?_,by rw[rB c]⟩
  rw[rB c]
  refine Hv hT ?_ (E':=[Gc (.ref L),Gc d.d]) (tg:=⟨"TooMany",none⟩) ?_ hdM
  .generalize d.d=X at*
   simp[Im,hi,e1]
  .generalize d.d=X at*
   simp[Im,HQ,hi,e2]
 .obtain⟨S',e,l,s⟩:=s2 (by lia)
  refine⟨S',?_,by rw[rA c];exact⟨l,s⟩⟩
  rw[rA c]
  refine Kr hT ?_
  unfold MO
  generalize d.d=X at*
  simp[Im,hi,e]
end
section
variable{S:Sto}{p L q r:Nat}{es:Wp D}{b:D}
def stA:=AM (BE 5 (eIx (Jr [eC (.str "nothing"),eC .non]) (eOp (o1 Xy) [eOp (o2 wGt) [eOp (o1 Cs) [eV 2],eI 1]]))) (AM (xIf (eOp (o2 wGt) [eOp (o1 Cs) [eV 2],eI 1]) (BV (Hy QN (eV 2) [])) BP) (Ad (eOp (o2 wEq) [lmU,eV 5])))
def stB:=AM (BE 5 (AD Dw [eV 4])) (AM (xIf (eOp (o2 Pm) [eV 5,eC (.ty "tuple")]) (AM (BV (Hy LA (eV 2) [eV 5])) (BE 5 (eC .non))) BP) (Ad (eOp (o2 wEq) [lmS,eV 5])))
def stE:=AM (BE 6 (AD F5 [eV 0,eV 4])) (AM (BE 5 (AD Bs [eV 4,eV 6])) (AM (xIf (eOp (o2 wNe) [eV 5,eC (.str "many")]) (BV (Hy LA (eV 2) [AD GD [eV 4,eV 6]])) BP) (Ad (eOp (o2 wEq) [lmD,eV 5]))))
def Yn{b':D}(g:∀i x,(es++[b']++[b])[i]?=Gc x->GdB b0 i x):∀i x,(es++[b'])[i]?=Gc x->GdB b0 i x:=λi x e=>g i x (by rw[qQ (qV.mp e).1];exact e)
def Vi{b':D}(g:∀i x,(es++[b])[i]?=Gc x->GdB b0 i x)(h:GdB b0 (es.length+1) b'):∀i x,(es++[b]++[b'])[i]?=Gc x->GdB b0 i x:=λi x e=>by
 by_cases hi:i<(es++[b]).length
 .rw[qQ hi]at e
  exact g i x e
 .rw[rR (by lia)]at e
  have h1:i-(es++[b]).length=0:=by
   have:=(qV.mp e).1
   simp at this⊢
   lia
  rw[h1]at e
  cases e
  have:i=es.length+1:=by simp at hi h1;lia
  rw[this]
  exact h
def dh{o3 o4 o5 o6:qR D}(h:At S p L q r b0 es b):∃us S' es' b',stA [Gc (.ref p),Gc (.ref L),Gc (.ref r),o3,o4,o5,o6] S=Gc (.ret (.bl true),us,S')/\At S' p L q r b0 es' b'/\es'.length<=es.length:=by
 have dr0:=As h.pa
 have c0:=AL h.pa
 rcases yl es with rfl|⟨es',b',rfl⟩
 .have u:=T5 (us:=[Gc (.ref r),o3,o4,Gc (.str "nothing"),o6]) (o:=Gc (.ref p)) h
  refine⟨[Gc (.ref p),Gc (.ref L),Gc (.ref r),o3,o4,Gc (.str "nothing"),o6],S,[],b,?_,h,qW _⟩
  have eqs:Iz (.str "nothing") (.str "nothing")=true/\deq (.str "nothing") (.str "nothing")=true:=⟨HN (show rV (rC "nothing")=true by decide+kernel) (by decide),Hx (show rV (rC "nothing")=true by decide+kernel)⟩
  generalize hU:lmU=U at*
  simp[stA,hU,dr0,u,eqs.1,eqs.2]
 .rw[ym]at*
  have hr:=AX h.pa
  have e1:(S.set r (.lst (es'++[b'])))[r]?=Gc (.lst (es'++[b'])):=qb hr
  have mp:QN S (es'++[b']++[b]) []=Gc (b,es'++[b']):=Nc
  have s1:Bt [r] S (S.set r (.lst (es'++[b']))):=.set (by simp)
  have la1:LAt (S.set r (.lst (es'++[b']))) L q b (es'++[b']):=⟨s1.get h.la.ob (by simpa using h.rL.symm),s1.get h.la.er (by simpa using h.qr)⟩
  have tb1:RQ (S.set r (.lst (es'++[b']))):=h.tb.keep s1 λa ha x e=>by
   rw[rD.mp ha,h.pa]at e
   cases e
  obtain⟨S2,e2,l2,s2⟩:=Rj (us:=[Gc (.ref r),o3,o4,Gc .non,o6]) (o:=Gc (.ref p)) tb1 la1
  refine⟨[Gc (.ref p),Gc (.ref L),Gc (.ref r),o3,o4,Gc .non,o6],S2,es',b',?_,h.turned s1 e1 s2 l2 (Yn h.gd) (by have:=h.few;simp at this;lia),by simp⟩
  have eqs:Iz .non .non=true/\deq .non .non=true:=⟨rfl,rfl⟩
  have pos:0<(es'++[b']).length:=by simp
  generalize es'++[b']=EE at*
  generalize hU:lmU=U at*
  have g1:(1:Int)<(EE.length:Int)+1:=by lia
  simp[stA,hU,dr0,c0,mp,g1,e2,eqs.1,eqs.2]
def fJ{t:Tr}{ls:Wp Ld}{ds:Wp AN}{n j:Nat}{o3 o5 o6:qR D}(h:At S p L q r b0 es (AG t ls ds))(hf:es.length+1<=12)(w:Wk t ls ds n j)(hn:n+j<=es.length)(h3:K7 ds<=3):∃us S' es' b',stB [Gc (.ref p),Gc (.ref L),Gc (.ref r),o3,Gc (AG t ls ds),o5,o6] S=Gc (.ret (.bl true),us,S')/\At S' p L q r b0 es' b'/\es'.length<=es.length+1:=by
 obtain⟨S1,e1,s1⟩:=QE (S:=S) (h.tb.any (by simp)) w.bk w.hh w.ho rfl
 have h1:=h.same s1
 have c1:=AL h1.pa
 generalize hst:runs t (st0 t ls) ds=st at*
 by_cases c:ds≠[]/\(ovs t st).length<=4
 .have nv:FT t st ds=AG (nxT t st) (ovs t st) []:=by unfold FT;rw[rA c.1,rB c.2]
  rw[nv]at e1
  have e3:(S1.set r (.lst (es++[AG t ls ds]++[AG (nxT t st) (ovs t st) []])))[r]?=Gc (.lst (es++[AG t ls ds]++[AG (nxT t st) (ovs t st) []])):=qb (AX h1.pa)
  have s3:Bt [r] S1 (S1.set r (.lst (es++[AG t ls ds]++[AG (nxT t st) (ovs t st) []]))):=.set (by simp)
  have la1:LAt (S1.set r (.lst (es++[AG t ls ds]++[AG (nxT t st) (ovs t st) []]))) L q (AG t ls ds) es:=⟨s3.get h1.la.ob (by simpa using h1.rL.symm),s3.get h1.la.er (by simpa using h1.qr)⟩
  have tb1:RQ (S1.set r (.lst (es++[AG t ls ds]++[AG (nxT t st) (ovs t st) []]))):=h1.tb.keep s3 λa ha x e=>by
   rw[rD.mp ha,h1.pa]at e
   cases e
  obtain⟨S2,e4⟩:=VS (st:=st) (us:=[Gc (.ref r),o3,Gc (AG t ls ds),Gc .non,o6]) (o:=Gc (.ref p)) tb1 la1 (by lia) w.bk w.hh w.ho hst
  rw[rB c]at e4
  obtain⟨e4,l4,s4⟩:=e4
  have gn:GdB b0 (es.length+1) (AG (nxT t st) (ovs t st) []):=⟨λz=>by lia,_,_,_,n,j+1,rfl,WQ w (by lia) hst c.2,by lia,by decide⟩
  refine⟨[Gc (.ref p),Gc (.ref L),Gc (.ref r),o3,Gc (AG t ls ds),Gc .non,o6],S2,es++[AG t ls ds],AG (nxT t st) (ovs t st) [],?_,h1.turned s3 e3 s4 l4 (Vi h1.gd gn) (by simp;lia),by simp⟩
  have eqs:Iz .non .non=true/\deq .non .non=true:=⟨rfl,rfl⟩
  have sz:es.length+1<sizeLine:=qS (show _<50 by lia) (AK (by decide))
  have kd:kdW (.val (AG (nxT t st) (ovs t st) []))=kdW (.val (.tup [])):=rfl
  have dn:dr S1 (AG (nxT t st) (ovs t st) [])=.val (AG (nxT t st) (ovs t st) []):=rfl
  have k3:St.Kd.tup.isA "tuple"=true:=by decide
  have kn:kdW (.val (.tup []))=Gc St.Kd.tup:=rfl
  rw[kn]at kd
  generalize AG (nxT t st) (ovs t st) []=nb at*
  generalize AG t ls ds=bk at*
  generalize hU:lmS=U at*
  have ap:es++[bk]++[nb]=es++[bk,nb]:=by simp
  rw[ap]at e4
  simp[stB,hU,e1,dn,kd,k3,c1,sz,e4,eqs.1,eqs.2]
 .obtain⟨S2,e4⟩:=VS (S:=S1) (st:=st) (us:=[Gc (.ref r),o3,Gc (AG t ls ds),Gc (FT t st ds),o6]) (o:=Gc (.ref p)) h1.tb h1.la h1.few w.bk w.hh w.ho hst
  rw[rA c]at e4
  obtain⟨e4,s4⟩:=e4
  have h2:=h1.same s4
  refine⟨[Gc (.ref p),Gc (.ref L),Gc (.ref r),o3,Gc (AG t ls ds),Gc (FT t st ds),o6],S2,es,AG t ls ds,?_,h2,by lia⟩
  have nv:FT t st ds=.str "next" \/FT t st ds=.str "many":=by
   unfold FT
   by_cases hd:ds=[]
   .rw[rB hd];exact .inl rfl
   .rw[rA hd,rA λz=>c ⟨hd,z⟩];exact .inr rfl
  have lay:(FT t st ds).lay=true:=by
   rcases nv with z|z<;>rw[z]
   .exact(show rV (rC "next")=true by decide+kernel)
   .exact(show rV (rC "many")=true by decide+kernel)
  have dep:(FT t st ds).py.depth<=60:=by
   rcases nv with z|z<;>rw[z]<;>decide
  have eqs:Iz (FT t st ds) (FT t st ds)=true/\deq (FT t st ds) (FT t st ds)=true:=⟨HN lay dep,Hx lay⟩
  have k3:St.Kd.str.isA "tuple"=false:=by decide
  have kn:kdW (dr S1 (FT t st ds))=Gc St.Kd.str:=by rcases nv with z|z<;>rw[z]<;>rfl
  have dn:dr S2 (FT t st ds)=.val (FT t st ds):=by rcases nv with z|z<;>rw[z]<;>rfl
  generalize FT t st ds=nb at*
  generalize AG t ls ds=bk at*
  generalize hU:lmS=U at*
  simp[stB,hU,e1,kn,k3,e4,dn,eqs.1,eqs.2]
def dJ{t:Tr}{ls:Wp Ld}{ds:Wp AN}{n j:Nat}{o3 o5 o6:qR D}(h:At S p L q r b0 es (AG t ls ds))(hf:es.length+1<=12)(w:Wk t ls ds n j)(hn:n+j<=es.length)(h3:K7 ds<=3):∃us S' es' b',stE [Gc (.ref p),Gc (.ref L),Gc (.ref r),o3,Gc (AG t ls ds),o5,o6] S=Gc (.ret (.bl true),us,S')/\At S' p L q r b0 es' b'/\es'.length<=es.length+1:=by
 obtain⟨d,S1,e1,p1,can⟩:=Zk h.pen w.bk
 have h1:=h.pn p1
 have w2:=ZE w (by lia) can
 have hl:ds.length<=50:=by have:=w.bk.len;lia
 have md:=Xd (S:=S1) (t:=t) (ls:=ls) (d:=d) hl h3
 have wi:=ZC (S:=S1) (t:=t) (ls:=ls) (d:=d) hl
 have c1:=AL h1.pa
 have sm:rV (rC "many")=true:=by decide+kernel
 by_cases c:3<K7 (ds++[d])
 .have ed:V6 ls ds d=.str "many":=rB c
  obtain⟨S2,e4,e5⟩:=m9 (S:=S1) (o:=Gc (.ref p)) (o2:=Gc (.ref r)) (o3:=o3) (o4:=Gc (AG t ls ds)) (o5:=Gc (V6 ls ds d)) h1.tb h1.la h1.few w2.bk
  rw[rB c]at e5
  subst e5
  rw[ed]at e4 md
  refine⟨[Gc (.ref p),Gc (.ref L),Gc (.ref r),o3,Gc (AG t ls ds),Gc (.str "many"),Gc d.d],S2,es,AG t ls ds,?_,h1,by lia⟩
  have eqs:Iz (.str "many") (.str "many")=true/\deq (.str "many") (.str "many")=true:=⟨HN (show rV (rC "many")=true by decide+kernel) (by decide),Hx (show rV (rC "many")=true by decide+kernel)⟩
  generalize AG t ls ds=bk at*
  generalize d.d=X at*
  generalize hU:lmD=U at*
  simp[stE,hU,e1,md,e4,eqs.1,eqs.2]
 .have ed:V6 ls ds d=MO ls ds d:=rA c
  have e3:(S1.set r (.lst (es++[AG t ls ds]++[AG t ls (ds++[d])])))[r]?=Gc (.lst (es++[AG t ls ds]++[AG t ls (ds++[d])])):=qb (AX h1.pa)
  have s3:Bt [r] S1 (S1.set r (.lst (es++[AG t ls ds]++[AG t ls (ds++[d])]))):=.set (by simp)
  have la1:LAt (S1.set r (.lst (es++[AG t ls ds]++[AG t ls (ds++[d])]))) L q (AG t ls ds) es:=⟨s3.get h1.la.ob (by simpa using h1.rL.symm),s3.get h1.la.er (by simpa using h1.qr)⟩
  have tb1:RQ (S1.set r (.lst (es++[AG t ls ds]++[AG t ls (ds++[d])]))):=h1.tb.keep s3 λa ha x e=>by
   rw[rD.mp ha,h1.pa]at e
   cases e
  obtain⟨S2,e4,e5⟩:=m9 (o:=Gc (.ref p)) (o2:=Gc (.ref r)) (o3:=o3) (o4:=Gc (AG t ls ds)) (o5:=Gc (V6 ls ds d)) tb1 la1 (by lia) w2.bk
  rw[rA c]at e5
  obtain⟨l4,s4⟩:=e5
  rw[ed]at e4 md
  have gn:GdB b0 (es.length+1) (AG t ls (ds++[d])):=⟨λz=>by lia,_,_,_,n+1,j,rfl,w2,by lia,by lia⟩
  refine⟨[Gc (.ref p),Gc (.ref L),Gc (.ref r),o3,Gc (AG t ls ds),Gc (MO ls ds d),Gc d.d],S2,es++[AG t ls ds],AG t ls (ds++[d]),?_,h1.turned s3 e3 s4 l4 (Vi h1.gd gn) (by simp;lia),by simp⟩
  have sz:es.length+1<sizeLine:=qS (show _<50 by lia) (AK (by decide))
  have nk:MO ls ds d=.non\/∃i,MO ls ds d=.int i:=by
   unfold MO
   split
   .exact .inr ⟨_,rfl⟩
   .exact .inl rfl
  have eqs:Iz (MO ls ds d) (MO ls ds d)=true/\deq (MO ls ds d) (MO ls ds d)=true:=by
   rcases nk with z|⟨i,z⟩<;>rw[z]
   .exact⟨rfl,rfl⟩
   .exact⟨rfl,Hx rfl⟩
  have nm:Iz (MO ls ds d) (.str "many")=true/\deq (MO ls ds d) (.str "many")=false:=by
   have o:∀x:D,x.lay=true->x.py.depth<=60->Iz x (.str "many")=true:=λx h1 h2=>by
    unfold Iz
    rw[h1,show(D.str "many").lay=true from sm]
    show decide (min x.py.depth (D.str "many").py.depth<=60)=true
    exact si (qU (Nat.min_le_left _ _) h2)
   rcases nk with z|⟨i,z⟩<;>rw[z]
   .exact⟨o _ rfl (by decide),rfl⟩
   .exact⟨o _ rfl (qU (HB (n:=0)) (by decide)),rfl⟩
  have dn:∀T:Sto,dr T (MO ls ds d)=.val (MO ls ds d):=λT=>by rcases nk with z|⟨i,z⟩<;>rw[z]<;>rfl
  generalize MO ls ds d=ND at*
  generalize AG t ls (ds++[d])=nb at*
  generalize AG t ls ds=bk at*
  generalize d.d=X at*
  generalize hU:lmD=U at*
  have ap:es++[bk]++[nb]=es++[bk,nb]:=by simp
  rw[ap]at e4
  simp[stE,hU,e1,md,dn,nm.1,nm.2,wi,c1,sz,e4,eqs.1,eqs.2]
end
section
variable{S:Sto}{p L q r:Nat}{es:Wp D}{b b0:D}
def Z5(h:At S p L q r b0 es b)(hf:es.length+1<=12):∃S' es' b',Dx [.ref p,.ref L,.ref r] S=Gc (.bl true,S')/\At S' p L q r b0 es' b'/\es'.length<=es.length+1:=by
 obtain⟨w,S1,e1,a1,b1,p1⟩:=Aq h.pen (n:=6) (by decide) (by decide)
 have h1:=h.pn p1
 have dr1:=As h1.pa
 have ix:(eIx (eV 2) (eOp (o1 NJ) [eI 1])) [Gc (.ref p),Gc (.ref L),Gc (.ref r),Gc (.int w),none,none,none] S1=Gc (b,S1):=by
  have a:atI (es++[b]) (-1:Int)=Gc b:=TU
  generalize es++[b]=EE at*
  simp[dr1,a]
 have eb:Mj=(AM (BE 3 (AD AF [eV 0,eI 6]))
  (AM (BE 4 (eIx (eV 2) (eOp (o1 NJ) [eI 1])))
  (AM (xIf (eOp (o2 wEq) [eV 3,eI 0]) stA BP)
  (AM (xIf (eOp (o2 wEq) [eV 3,eI 1]) stB BP)
  stE)))):=rfl
 generalize (eIx (eV 2) (eOp (o1 NJ) [eI 1]))=IX at*
 obtain⟨_,t,ls,ds,n,j,rfl,wk,hn,h3⟩:=h1.gd es.length b (by simp)
 by_cases w0:w=0
 .subst w0
  obtain⟨us,S2,es',b',e2,h2,l2⟩:=dh (o3:=Gc (.int 0)) (o4:=Gc (AG t ls ds)) (o5:=none) (o6:=none) h1
  refine⟨S2,es',b',?_,h2,by lia⟩
  generalize AG t ls ds=bk at*
  generalize stA=A at*
  generalize stB=B at*
  generalize stE=E at*
  simp[Dx,eb,e1,ix,e2]
 .have n0:(w==0)=false:=by simpa using w0
  by_cases w1:w=1
  .subst w1
   obtain⟨us,S2,es',b',e2,h2,l2⟩:=fJ (o3:=Gc (.int 1)) (o5:=none) (o6:=none) h1 hf wk hn h3
   refine⟨S2,es',b',?_,h2,l2⟩
   generalize AG t ls ds=bk at*
   generalize stA=A at*
   generalize stB=B at*
   generalize stE=E at*
   simp[Dx,eb,e1,ix,e2]
  .have n1:(w==1)=false:=by simpa using w1
   obtain⟨us,S2,es',b',e2,h2,l2⟩:=dJ (o3:=Gc (.int w)) (o5:=none) (o6:=none) h1 hf wk hn h3
   refine⟨S2,es',b',?_,h2,l2⟩
   generalize AG t ls ds=bk at*
   generalize stA=A at*
   generalize stB=B at*
   generalize stE=E at*
   simp[Dx,eb,e1,ix,n0,n1,e2]
def Rr:=xIf (eOr (F1 (AD Dx [eV 1,eV 4,eV 5])) (eOp (o2 wNe) [C6 "Leader" "book" Al (eV 4) [],eIx (eV 5) (eOp (o1 NJ) [eI 1])])) (Ad (eC (.bl false))) BP
def whC:=eOp (o2 wGt) [eOp (o1 Cs) [eV 5],eI 1]
def whB:=AM (BV (Hy QN (eV 5) [])) (AM (BV (C6 "Leader" "undo" Ar (eV 4) [])) (xIf (eOp (o2 wNe) [C6 "Leader" "book" Al (eV 4) [],eIx (eV 5) (eOp (o1 NJ) [eI 1])]) (Ad (eC (.bl false))) BP))
def Om{a0 a1 a2 a3 a6:qR D}(h:At S p L q r b0 es b):(eOp (o2 wNe) [C6 "Leader" "book" Al (eV 4) [],eIx (eV 5) (eOp (o1 NJ) [eI 1])]) [a0,a1,a2,a3,Gc (.ref L),Gc (.ref r),a6] S=Gc (.bl false,S):=by
 have bo:=VZ h.la
 have hi:=h.la.ins
 have dr1:=As h.pa
 have a:atI (es++[b]) (-1:Int)=Gc b:=TU
 obtain⟨_,t,ls,ds,n,j,rfl,wk,hn,h3⟩:=h.gd es.length b (by simp)
 have o1:=Og (t:=t) (ls:=ls) (ds:=ds)
 have o2:=Q6 (t:=t) (ls:=ls) (ds:=ds)
 have d0:dr S (AG t ls ds)=.val (AG t ls ds):=rfl
 have f0:fz (.val (AG t ls ds))=AG t ls ds:=rfl
 generalize es++[AG t ls ds]=EE at*
 generalize AG t ls ds=bk at*
 simp[hi,bo,dr1,a,d0,f0,o1,o2]
theorem Yu{a0 a2 a3:qR D}:∀{ks:Wp Int} {es:Wp D} {b:D} {S:Sto} {o:qR D},At S p L q r b0 es b->es.length+ks.length<=12->∃o' S' es' b',K1 [] (tNm 6) Rr (ks.map D.int) [a0,Gc (.ref p),a2,a3,Gc (.ref L),Gc (.ref r),o] S=Gc (.nx,[a0,Gc (.ref p),a2,a3,Gc (.ref L),Gc (.ref r),o'],S')/\At S' p L q r b0 es' b'/\es'.length<=12
 | [],es,b,S,o,h,hl=>⟨o,S,es,b,by rw[sQ,GQ Ac],h,by simpa using hl⟩
 |k::ks,es,b,S,o,h,hl=>by
  simp only[rT]at hl
  obtain⟨S1,es1,b1,e1,h1,l1⟩:=Z5 h (by lia)
  have sb:=Om (a0:=a0) (a1:=Gc (.ref p)) (a2:=a2) (a3:=a3) (a6:=Gc (.int k)) h1
  obtain⟨o',S2,es2,b2,e2,h2,l2⟩:=Yu (a0:=a0) (a2:=a2) (a3:=a3) (ks:=ks) (o:=Gc (.int k)) h1 (by lia)
  refine⟨o',S2,es2,b2,?_,h2,l2⟩
  have eb:Rr [a0,Gc (.ref p),a2,a3,Gc (.ref L),Gc (.ref r),Gc (.int k)] S=Gc (.nx,[a0,Gc (.ref p),a2,a3,Gc (.ref L),Gc (.ref r),Gc (.int k)],S1):=by
   unfold Rr
   generalize (eOp (o2 wNe) [C6 "Leader" "book" Al (eV 4) [],eIx (eV 5) (eOp (o1 NJ) [eI 1])])=C at*
   simp[e1,sb]
  rw[qq,Dr Ac]
  generalize Rr=FB at*
  simp[eb,e2]
theorem Qb{a0 a1 a2 a3 a6:qR D}:∀{k:Nat} {es:Wp D} {b:D} {S:Sto},At S p L q r b0 es b->es.length<k->∃S',Fh whC whB k [a0,a1,a2,a3,Gc (.ref L),Gc (.ref r),a6] S=Gc (.nx,[a0,a1,a2,a3,Gc (.ref L),Gc (.ref r),a6],S')/\At S' p L q r b0 [] b0
 |0,es,b,S,h,hk=>by lia
 |k+1,es,b,S,h,hk=>by
  have dr0:=As h.pa
  have c0:=AL h.pa
  rcases yl es with rfl|⟨es',b',rfl⟩
  .have eb:b=b0:=(h.gd 0 b rfl).1 rfl
   subst eb
   refine⟨S,NX ?_,h⟩
   simp[whC,dr0]
  .rw[ym]at*
   have hr:=AX h.pa
   have e1:(S.set r (.lst (es'++[b'])))[r]?=Gc (.lst (es'++[b'])):=qb hr
   have mp:QN S (es'++[b']++[b]) []=Gc (b,es'++[b']):=Nc
   have s1:Bt [r] S (S.set r (.lst (es'++[b']))):=.set (by simp)
   have la1:LAt (S.set r (.lst (es'++[b']))) L q b (es'++[b']):=⟨s1.get h.la.ob (by simpa using h.rL.symm),s1.get h.la.er (by simpa using h.qr)⟩
   obtain⟨S2,e2,l2,s2⟩:=Ut la1
   have h2:At S2 p L q r b0 es' b':=h.turned s1 e1 s2 l2 (Yn h.gd) (by have:=h.few;simp at this;lia)
   obtain⟨S3,e3,h3⟩:=Qb (a0:=a0) (a1:=a1) (a2:=a2) (a3:=a3) (a6:=a6) (k:=k) h2 (by simp at hk;lia)
   refine⟨S3,?_,h3⟩
   have sb:=Om (a0:=a0) (a1:=a1) (a2:=a2) (a3:=a3) (a6:=a6) h2
   have hi:=la1.ins
   have pos:0<(es'++[b']).length:=by simp
   have cc:whC [a0,a1,a2,a3,Gc (.ref L),Gc (.ref r),a6] S=Gc (.bl true,S):=by
    generalize es'++[b']=EE at*
    have g1:(1:Int)<(EE.length:Int)+1:=by lia
    simp[whC,dr0,g1]
   have bb:whB [a0,a1,a2,a3,Gc (.ref L),Gc (.ref r),a6] S=Gc (.nx,[a0,a1,a2,a3,Gc (.ref L),Gc (.ref r),a6],S2):=by
    unfold whB
    generalize (eOp (o2 wNe) [C6 "Leader" "book" Al (eV 4) [],eIx (eV 5) (eOp (o1 NJ) [eI 1])])=C at*
    generalize es'++[b']=EE at*
    simp[c0,mp,hi,e2,sb]
   rw[NL cc bb,e3]
end
section
variable{S:Sto}{t:Tr}{ls:Wp Ld}
def QB(ht:G5 t)(hh:t.ho.length=t.p/\t.ho.sum=1)(hr:pV t)(g0:0<G)(g1:G<=32)(g2:∀r∈t.ho,Ok G G r):DL [t.d] S=Gc (.bl true,S):=by
 obtain⟨t1,t2,t3,t4,t5,t6⟩:=ht
 obtain⟨r1,r2,r3,r4⟩:=hr
 have O:=Of (S:=S) (K:=10) hh.1 t2 g0 (q8 g1 (by decide)) (by decide) g2 (q8 (uM 4 g1) (by decide)) hh.2
 have k3:St.Kd.tup.isA "tuple"=true:=by decide
 have it:Ah [t.d,.int 6] S=Gc (.bl true,S):=by
  simp[Ah,CV,Tr.d,kdW,k3]
 have w1:=within_int (S:=S) (i:=t.p) (j:=1) (k:=4)
 have w2:=within_int (S:=S) (i:=t.k) (j:=1) (k:=5)
 have w3:=within_int (S:=S) (i:=t.b) (j:=1) (k:=20)
 have w4:=within_int (S:=S) (i:=t.h) (j:=0) (k:=9)
 have w5:=within_int (S:=S) (i:=t.l) (j:=0) (k:=9)
 have q1:(decide ((1:Int)<=t.p) && decide ((t.p:Int)<=4))=true:=by simp;lia
 have q2:(decide ((1:Int)<=t.k) && decide ((t.k:Int)<=5))=true:=by simp;lia
 have q3:(decide ((1:Int)<=t.b) && decide ((t.b:Int)<=20))=true:=by simp;lia
 have q4:(decide ((0:Int)<=t.h) && decide (t.h<=9))=true:=by simp;lia
 have q5:(decide ((0:Int)<=t.l) && decide (t.l<=9))=true:=by simp;lia
 rw[q1]at w1
 rw[q2]at w2
 rw[q3]at w3
 rw[q4]at w4
 rw[q5]at w5
 have td:t.d=.tup [.int t.p,.int t.k,.int t.b,shD t.ho,.int t.h,.int t.l]:=rfl
 rw[td]at it⊢
 generalize shD t.ho=ho at*
 simp[DL,KJ,it,w1,w2,w3,w4,w5,O]
def PD(ht:G5 t)(hf:EO t ls)(hl:ls.length<=4):Cd [t.d,.tup (ls.map Ld.d)] S=Gc (.bl true,S):=by
 obtain⟨ha,G,G0,G1,G2⟩:=hf
 have hG:G<=32^4:=qU G1 (rO (by decide) hl)
 have hG:G<=1048576:=hG
 have k3:St.Kd.tup.isA "tuple"=true:=by decide
 have d1:dr S BB=.val (.int 4):=rfl
 obtain⟨bs,e1,e2⟩:=g9 (S:=S) (f:=Fs (AD Du [eV 0,eV 1]) (eOp (o2 wGt) [eIx (eV 1) (eI 1),eI 0])) (e:=Ld.d) (C:=[Gc t.d]) (os:=[none]) (xs:=ls) (gs:=[]) (t:=tNm 1) Ac (by lia) rfl (by
  intro x hx os ho
  obtain⟨a,rfl⟩:=QY ho
  obtain⟨h1,h2,h3,h4,h5⟩:=ha x hx
  have e:=R0 (S:=S) (K:=30) ht h1 (by lia) h4 G0 (q8 hG (by decide)) (by decide) (G2 x hx) (q8 (uM 4 hG) (by decide)) h5
  have n0:(0:Int)<x.n:=by lia
  have ix:asS (dr S x.d)=Gc [.int x.k,.int x.n,shD x.ow]:=rfl
  refine⟨[Gc x.d],rfl,by simp,?_⟩
  generalize x.d=X at*
  generalize t.d=T at*
  simp[e,ix,n0])
 obtain⟨b',e3,e4⟩:=uQ.mp e2
 have c1:¬(4:Int)<ls.length:=by lia
 generalize t.d=T at*
 generalize hz:Fs (AD Du [eV 0,eV 1]) (eOp (o2 wGt) [eIx (eV 1) (eI 1),eI 0])=Z at e1
 have eb:JE=(AM (xIf (eOr (F1 (eOp (o2 Pm) [eV 1,eC (.ty "tuple")])) (eOp (o2 wGt) [eOp (o1 Cs) [eV 1],eC BB])) (Ad (eC (.bl false))) BP)
  (Ad (eOp (o1 V5) [CN [0] 1 (HC (eV 1)) (tNm 1) Bk Z]))):=by rw[<-hz];rfl
 simp only[rX,rH]at e1
 simp[Cd,eb,kdW,k3,d1,c1,RO,e1,e3,e4]
def gH(ht:DL [t.d] (S++[.ins "Leader" []])=Gc (.bl true,S++[.ins "Leader" []]))(hf:Cd [t.d,.tup (ls.map Ld.d)] (S++[.ins "Leader" []])=Gc (.bl true,S++[.ins "Leader" []]))(ef:∀T,f E T=Gc (t.d,T))(eg:∀T,g E T=Gc (.tup (ls.map Ld.d),T)):∃S',QW "Leader" Bw [f,g] E S=Gc (.ref S.length,S')/\LAt S' S.length (S.length+1) (AG t ls []) []/\Bt [] S S':=by
 have o1:(S++[Cl.ins "Leader" []])[S.length]?=Gc (.ins "Leader" []):=qy
 have s3:1+1+1<=sizeLine:=AK (by decide)
 have s0:0<=sizeLine:=tP _
 have x1:=Ny (d:=AG t ls []) (n:=S.length) (f:="kept") (E:=[Gc (.ref S.length),Gc t.d,Gc (.tup (ls.map Ld.d))]) (o:=eV 0) (v:=Bh [eV 1,eV 2,Bh []]) (S:=S++[Cl.ins "Leader" []]) (S1:=S++[Cl.ins "Leader" []]) (S2:=S++[Cl.ins "Leader" []]) (C:="Leader") (by simp[AG,s3]) (by simp) o1 (by decide)
 have e1:(S++[Cl.ins "Leader" []]).set S.length (.ins "Leader" (La "kept" (AG t ls []) []))=S++[Cl.ins "Leader" [("kept",AG t ls [])]]:=by simp[La]
 rw[e1]at x1
 have x2:=Ny (d:=.ref (S.length+1)) (n:=S.length) (f:="earlier") (E:=[Gc (.ref S.length),Gc t.d,Gc (.tup (ls.map Ld.d))]) (o:=eV 0) (v:=Ha []) (S:=S++[Cl.ins "Leader" [("kept",AG t ls [])]]) (S1:=(S++[Cl.ins "Leader" [("kept",AG t ls [])]])++[.lst []]) (S2:=(S++[Cl.ins "Leader" [("kept",AG t ls [])]])++[.lst []]) (C:="Leader") (as:=[("kept",AG t ls [])]) (by simp[s0]) (by simp) (by simp) (by simp)
 have e2:((S++[Cl.ins "Leader" [("kept",AG t ls [])]])++[Cl.lst []]).set S.length (.ins "Leader" (La "earlier" (.ref (S.length+1)) [("kept",AG t ls [])]))=S++[lead (AG t ls []) (S.length+1),.lst []]:=by
  have:La (rC "earlier") (.ref (S.length+1)) [(rC "kept",AG t ls [])]=lds (AG t ls []) (S.length+1):=nr rfl
  rw[this]
  simp[lead]
 rw[e2]at x2
 refine⟨S++[lead (AG t ls []) (S.length+1),.lst []],?_,⟨by simp,by simp⟩,.app⟩
 have nw:Bw [.ref S.length,t.d,.tup (ls.map Ld.d)] (S++[.ins "Leader" []])=Gc (.non,S++[lead (AG t ls []) (S.length+1),.lst []]):=by
  generalize hz1:UA "Leader" "kept" (eV 0) (Bh [eV 1,eV 2,Bh []])=Z1 at x1
  generalize hz2:UA "Leader" "earlier" (eV 0) (Ha [])=Z2 at x2
  have eb:IF=(AM (xIf (F1 (AD DL [eV 1])) Ba BP)
  (AM (xIf (F1 (AD Cd [eV 1,eV 2])) Ba BP)
  (AM Z1 Z2))):=by rw[<-hz1,<-hz2];rfl
  generalize AG t ls []=bk at*
  generalize t.d=T at*
  generalize S++[lead bk (S.length+1),.lst []]=S9 at*
  generalize S++[Cl.ins "Leader" [("kept",bk)]]=S8 at*
  generalize S++[Cl.ins "Leader" []]=S7 at*
  simp[Bw,eb,ht,hf,x1,x2]
 unfold QW
 generalize AG t ls []=bk at*
 generalize t.d=T at*
 simp[ef,eg,nw]
end
def lmL:=HA "law" [4] (C6 "Leader" "undo" Ar (eV 0) []) (Ko "Leader" "undo" Bf (eV 0) []) 0 hdK
def fM(ns:Wp Int)(h:ns.length<=63):∃S',Nd [.scr ns] [Cl.tab "_law_next",Cl.tab "_law_step",Cl.tab "law"]=Gc (.bl true,S'):=by
 generalize hS0:[Cl.tab "_law_next",Cl.tab "_law_step",Cl.tab "law"]=S0
 have tb0:RQ S0:=λx hx=>by
  subst hS0
  simp only[qY,qp,sC]at hx
  rcases hx with rfl|rfl|rfl
  .exact⟨0,rfl⟩
  .exact⟨1,rfl⟩
  .exact⟨2,rfl⟩
 have l0:S0.length=3:=by subst hS0;rfl
 obtain⟨c,e0⟩:=aW (S:=S0) (ns:=ns) (k:=0)
 obtain⟨p,S1,e1,hp,s1,lp⟩:=fS (S:=S0) c
 obtain⟨t,ls,S2,e2,p2,ht,hho,hh,hf,hl,G,g0,g1,g2⟩:=Wc hp
 have it:=QB (S:=S2++[.ins "Leader" []]) ht hho ⟨hh.1,hh.2.1,hh.2.2.1,hh.2.2.2⟩ g0 g1 g2
 have ia:=PD (S:=S2++[.ins "Leader" []]) ht hf hl
 obtain⟨S3,e3,la,s3⟩:=gH (S:=S2) (t:=t) (ls:=ls) (E:=[Gc (.scr ns),Gc (.ref p),Gc t.d,Gc (.tup (ls.map Ld.d)),none,none,none]) (f:=eV 2) (g:=eV 3) it ia (λT=>by simp) (λT=>by simp)
 have tb2:RQ S2:=(tb0.keep s1 (λa ha=>nomatch ha)).keep p2.same λa ha x e=>by
  obtain⟨ds,e5,_⟩:=hp
  rw[rD.mp ha,e5]at e
  cases e
 have tb3:=tb2.keep s3 (λa ha=>nomatch ha)
 have lt2:=p2.pen.lt
 have hL:=AX la.ob
 have hq:=AX la.er
 have hr:(S3++[Cl.lst [AG t ls []]])[S3.length]?=Gc (.lst [AG t ls []]):=qy
 have app:Bt [] S3 (S3++[Cl.lst [AG t ls []]]):=.app
 obtain⟨GF,f0,f1,f2,f3⟩:=Rg hf hl g0 g1 g2
 have iv:=Th hf hl hho.1 g0 g1 g2
 have wk:Wk t ls [] 0 0:=⟨⟨ht,⟨0,by decide,iv⟩,hl,λx hx=>⟨by have:=(hf.1 x hx).2.1;lia,(hf.1 x hx).2.2.1⟩,trivial⟩,hh,⟨λx hx=>(hf.1 x hx).2.2.2.2,hho.2⟩,0,GF,GF,by decide,f0,qW _,f1,f2,f3⟩
 have at0:At (S3++[Cl.lst [AG t ls []]]) p S2.length (S2.length+1) S3.length (AG t ls []) [] (AG t ls []):=by
  refine⟨(p2.pen.same s3).same app,la.same app,hr,tb3.keep app (λa ha=>nomatch ha),by lia,by lia,by lia,λi x e=>?_,by simp⟩
  have hi:i=0:=by
   have:=(qV.mp e).1
   simp at this
   exact this
  subst hi
  cases e
  exact⟨λ_=>rfl,t,ls,[],0,0,rfl,wk,by decide,by decide⟩
 obtain⟨o',S4,es4,b4,e4,h4,l4⟩:=Yu (a0:=Gc (.scr ns)) (a2:=Gc t.d) (a3:=Gc (.tup (ls.map Ld.d))) (ks:=[0,1,2,3,4,5,6,7,8,9,10,11]) (o:=none) at0 (by decide)
 obtain⟨S5,e5,h5⟩:=Qb (a0:=Gc (.scr ns)) (a1:=Gc (.ref p)) (a2:=Gc t.d) (a3:=Gc (.tup (ls.map Ld.d))) (a6:=o') (k:=20) h4 (by lia)
 obtain⟨u1,u2⟩:=VY h5.la
 have hi:=h5.la.ins
 have lam:lmL [Gc (.scr ns),Gc (.ref p),Gc t.d,Gc (.tup (ls.map Ld.d)),Gc (.ref S2.length),Gc (.ref S3.length),o'] S5=Gc (.str "nothing",S5):=by
  refine Hv (h5.tb.any (by simp)) ?_ (E':=[Gc (.ref S2.length)]) (tg:=⟨"NothingDone",none⟩) ?_ hdD
  .simp[Im,hi,u1]
  .simp[Im,HQ,hi,u2]
 have bo:=VZ h5.la
 have sm:rV (rC "nothing")=true:=by decide+kernel
 have eqs:Iz (.str "nothing") (.str "nothing")=true/\deq (.str "nothing") (.str "nothing")=true:=⟨HN (show rV (rC "nothing")=true by decide+kernel) (by decide),Hx (show rV (rC "nothing")=true by decide+kernel)⟩
 have oo1:=Og (t:=t) (ls:=ls) (ds:=[])
 have oo2:=Q6 (t:=t) (ls:=ls) (ds:=[])
 have z3:1+1+1<=sizeLine:=AK (by decide)
 refine⟨S5,?_⟩
 have eb:Tq=(AM (BE 1 (AD HJ [AD CF [eV 0,eI 0]]))
  (AM (Jf (tTp [tNm 2,tNm 3]) (AD FE [eV 1]))
  (AM (BE 4 (QW "Leader" Bw [eV 2,eV 3]))
  (AM (BE 5 (Ha [Bh [eV 2,eV 3,Bh []]]))
  (AM (OJ (SV [eI 12]) (tNm 6) Rr)
  (AM (JD (T8 20) whC whB)
  (Ad (Fs (eOp (o2 wEq) [lmL,eC (.str "nothing")]) (eOp (o2 wEq) [C6 "Leader" "book" Al (eV 4) [],Bh [eV 2,eV 3,Bh []]]))))))))):=rfl
 have xw:∀(E:En) (T:Sto),JD (T8 20) whC whB E T=Fh whC whB 20 E T:=λ_ _=>rfl
 have rk:MA 12=true:=Ga (by decide) (by decide)
 have rd:OL 0 12=[.int 0,.int 1,.int 2,.int 3,.int 4,.int 5,.int 6,.int 7,.int 8,.int 9,.int 10,.int 11]:=rfl
 simp only[qq,sQ]at e4
 unfold Nd
 rw[eb]
 generalize Fh whC whB 20=WD at*
 generalize JD (T8 20) whC whB=XW at*
 generalize Rr=FB at*
 generalize lmL=LM at*
 generalize QW "Leader" Bw [eV 2,eV 3]=MK at*
 have e0':CF [.scr ns,.int 0] S0=Gc (.int c,S0):=e0
 simp only[AG,sQ]at e4 bo oo1 oo2
 simp[e0',e1,e2,e3,rk,rd,e4,xw,e5,lam,eqs.1,eqs.2,hi,bo,z3,oo1,oo2]
def fU{K:W1}{h:sS}{mg:Str->qR qX}{xs:Wp Str}{y:Str}{C':qg}(X:K.In h)(G:h.Ns mainGlobals mg)(e:rM K mainGlobals y=Gc (Gc (.ref C')))(t:∀x∈xs,∃C b,rM K mainGlobals x=Gc (Gc (.ref C))/\vP K (.ref C) (.ref C')=Gc b/\(x==y)=b):XmD K mg xs y:=ja X G e λx hx=>by
 obtain⟨C,b,h1,h2,h3⟩:=t x hx
 exact⟨C,h1,by rw[h3];exact h2⟩
def dF{K:W1}{xs:Wp Str}{x y:Str}{C C':qg}{b:sD}(h1:rM K mainGlobals x=Gc (Gc (.ref C)))(h2:vP K (.ref C) (.ref C')=Gc b)(h3:(x==y)=b)(t:∀z∈xs,∃C b,rM K mainGlobals z=Gc (Gc (.ref C))/\vP K (.ref C) (.ref C')=Gc b/\(z==y)=b):∀z∈x::xs,∃C b,rM K mainGlobals z=Gc (Gc (.ref C))/\vP K (.ref C) (.ref C')=Gc b/\(z==y)=b:=λz m=>by
 rcases qY.mp m with e|m
 .rw[e];exact⟨C,b,h1,h2,h3⟩
 .exact t z m
section
variable{P:sF}{w:tK}{K:W1}{mg:Str->qR qX}{base:sS}
def Gp:Av ["_law_script","_law_pen_here","_law_train_here","_law_first_here","_law_leader","_law_past","_law_turn_here"] ["_law_script"] (AB IL):=scM
def SD:Fj ["_law_script","_law_pen_here","_law_train_here","_law_first_here","_law_leader","_law_past","_law_turn_here"] (AB IL) ["_law_leader"] [4] (cZ IL 0):=lsM
def fZ{f:qg}{fd:wY}(F:Fun K "law" "law" IL f fd)(hm:mg "law"=Gc (.ref f))(bm:BmB mg base)(T:All w K mg):Ka P w K mg base CX0 18 f fd ["_law_script"] (spD K 1 Nd):=by
 have B:=T.bt
 have S_law_said:=T.Ep
 have Fw:=Fw P base bm T
 have Bb:=Bb P base bm T
 have CP:=CP P base bm T
 have Ln:=Ln P base bm T
 have GU:=GU P base bm T
 have IP:=IP P base bm T
 have KG:=KG P base bm T
 have Ci:=T.Ci
 have Au:=T.Au
 have B5:=T.B5
 have B3:=B3 P base bm T
 refine fnL (k:=17) F hm Gp rfl λci hr hu=>?_
 exact(AW (Fd 1 (deM Ln hr (AE (deM GU hr (AE (AH 0) (AE BQ AI))) AI)) Gp.nd)
      (AW (Tp (deM IP hr (AE (AH 1) AI)) (Xq rfl (D2 (Lj 2 Gp.nd) (D2 (Lj 3 Gp.nd) Nz))))
      (AW (Fd 4 (WL Fw hr rfl (AE (AH 2) (AE (AH 3) AI))) Gp.nd)
      (AW (Fd 5 (Vo (AE (HZ (AE (AH 2) (AE (AH 3) (AE (HZ AI) AI)))) AI)) Gp.nd)
      (AW (de PassesOwn.never rfl (Y9 rfl B.range (AE BQ AI)) (Lj 6 Gp.nd) (AV (FY (DW.dt (aL (Gv (F7 (deM KG hr (AE (AH 1) (AE (AH 4) (AE (AH 5) AI)))))) (UX (EZ (Oq hu) (Er CP hr (AH 4)) (Hd O3 (AH 5) (Zj Po BQ)))))) (AV (Be RX)) Bl)))
      (AW (WW (T8 20) PassesOwn.never (EZ U7 (Bg Bo rfl B.len uw (AE (AH 5) AI)) BQ) (AW (FK (QL u4 wN QQ (AH 5)))
      (AW (FK (Er Bb hr (AH 4)))
      (AV (FY (EZ (Oq hu) (Er CP hr (AH 4)) (Hd O3 (AH 5) (Zj Po BQ))) (AV (Be RX)) Bl)))))
      (AV (Be (Yk (KS (FF hu) (Lv (k:=1) S_law_said Ey SD ci bm (hr.mono (by decide)) rfl (λf c' clos A outer s H hr=>(Er Bb hr (AH 0))) (λf c' clos A outer s H hr=>(Lw B3 hr (AH 0))) (λ_ _ _ _ _ _=>(C5 B5 rfl (λ_=>AV (Be CU)) (C5 Ci rfl (λ_=>AV (Be CU)) (C5 Au rfl (λ_=>AV (Be CU)) PB))))) CU) (Ua (KS (FF hu) (Er CP hr (AH 4)) (HZ (AE (AH 2) (AE (AH 3) (AE (HZ AI) AI)))))))))))))))
end
def eD{K:W1}{x:Str}{P f c:qg}{oc oc2:qX}{od od2:qR qg}{osl osl2:wL (qR qX)}{fd:wY}{vs:wL qX}{file:Str}{tf tg tt:Tok}{flags text:Int}{inF:sD}(e1:rM K mainGlobals x=Gc (Gc (.ref f)))(e2:K.lookup f=Gc ⟨oc,od,.func fd,osl⟩)(e3:fd.code=.ref c)(e4:K.lookup c=Gc ⟨oc2,od2,.fields vs,osl2⟩)(h0:oc2=.type "code")(h11:vs[11]?=Gc (.ref P))(h11':vs.getD 11 rJ=.ref P)(h18:vs.getD 18 rJ=.str file tf)(h7:vs.getD 7 rJ=.int flags tg)(h9:vs.getD 9 rJ=.bool inF)(h10:vs.getD 10 rJ=.int text tt)(ne:c≠P):TabAt K x P:=
 ⟨f,oc,od,fd,osl,c,e1,e2,e3,_,vs,file,tf,flags,tg,inF,text,tt,e4,h0,rfl,h11,h11',h18,h7,h9,h10,ne⟩
theorem Um{P:qg}:∀{K:W1},P∉K.map (·.1)->K.lookup P=none
 | [],_=>rfl
 |(a,o)::K,h=>by
  rw[qq,qY,xp]at h
  have:(P==a)=false:=by simpa using h.1
  rw[rZ,this]
  exact Um h.2
def walk{l:yF}{q:sF}{loose:Wp Str}{XP:(Str->qR qX)->sS->Prop}{d:DefRec}{K:Params->W1}{as:Wp qg}{ea:∀(P:Params),as=List.map (λx=>x.fst) (K P)}{ts:Wp qg}(hn:l.most=Gc 63)(hdf:d.params.defaults=[])(na:∀P∈ts,P∉as)(nd:(((["_law_next","_law_step","law"]:Wp Str).zip ts).map (·.2)).Nodup)(hl:Rv ((["_law_next","_law_step","law"]:Wp Str).zip ts)=[Cl.tab "_law_next",Cl.tab "_law_step",Cl.tab "law"])(hd:d.name="law")(F:∀(w:tK) (mg:Str->qR qX) (h:sS),(K w.params).In h->h.Ns mainGlobals mg->(∀z∈(["_law_next","_law_step","law"]:Wp Str).zip ts,TabAt (K w.params) z.1 z.2)/\All w (K w.params) mg):PySem.W.WalkO q loose XP (PySem.W.kmHook K as ea ts).says l.row.toRowW d [] (λf vs=>PySem.call f vs):=by
 refine j7 (x:="_law_script") (k:=18) (Fn0:=Nd) ((["_law_next","_law_step","law"]:Wp Str).zip ts) hn hdf ⟨rfl,by decide,by decide⟩ (λw h Y=>⟨Y.1,λz hz=>Y.2 _ (tT hz).2⟩) nd (λw mg fa h KX G hmg=>?_) λns hns=>by rw[hl];exact fM ns hns
 obtain⟨hT,T⟩:=F w mg h KX G
 refine⟨λz hz=>⟨hT z hz,Um (by rw[<-ea];exact na _ (tT hz).2)⟩,?_⟩
 obtain⟨f,fd,F,hm⟩:=T.IL.ex
 rw[hd]at hmg
 have e:=hmg.symm.trans hm
 cases e
 refine⟨fd,λs v=>?_,λbase _ _ bm=>fZ (P:=l.prog) (w:=w) (base:=base) F hm bm T⟩
 obtain⟨oc,od,kV,doc,pm,an,cdv,ct,osl,hfd,_⟩:=F.ex
 subst hfd
 exact .of_eq rfl
end Mi
end
noncomputable section
structure PySem.W.Fast:Prop where
 (tw1285916658114692930 tw16006929201895225041 tw16573066396380152640 tw2274444619730377548 tw17576101252799555900 tw7572160564958880953 tw6836999757159096876 tw9802962822527133135 tw17139349914848161602 tw13982959032386515717 tw6315729181509463089 tw6471915141233494989 tw6935891763730634611 tw5792356202539850652 tw3667631915129684577 tw14861994852046707067 tw17123171026110708687 tw3965478043311126347 tw938087142383583798 tw15387017153360013055 tw1041717680053942654 tw14809019631177543243 tw17523358687465832462 tw3977214515263621591 tw3361658514458332522 tw14455212984984567457 tw16579486439218908599 tw8678414239565059735 tw12224140266612623035 tw7546504246792740159 tw4532748669995608179 tw6973749457281230921 tw10525409920982690352 tw14114226285653251077 tw10598339567343832241 tw16752221015623069040 tw17380448191903865774 tw10033596558826761710 tw4583993950431928204 tw5983397009163569850 tw17049941729362005480 tw744631307206901870 tw273104492824599712 tw1738606221515754189 tw10275103615465231319 tw11298462210675372482 tw6677161470087889586 tw13761929365569181178 tw12344412937402326664 tw13701667046123451135 tw1174199215416598382 tw691320340729090125 tw3177968175181297230 tw12929383275977879290 tw13143793282884756560 tw10223912413004916147 tw11590128733369781238 tw12278622118971402333 tw12302353064825443334 tw13258622519235557904 tw5360439839459724205 tw12139101535700639072 tw1656296995298917646 tw13256013879292324089 tw14870235358530331155 tw16909272110610843403 tw330591126801035107 tw5322159421285979374 tw7293050932233298590 tw7987349514612658227 tw12131606287637465139 tw2618799346474360106 tw7196289374477067213 tw11905074572389467915 tw2095829265552314809 tw17498571587963540018 tw4214464323093424743 tw11765671951692262668 tw5091869697280605252 tw16238624573349615041 tw9481308842767926093 tw3987872989605862314 tw330893168439756075 tw682327828762490218 tw1791428471547000484 tw7011992215907853263 tw870863100352119948 tw14556043306515033253 tw3820997021547984968 tw3844317257325899890 tw8399455281101911944 tw10420816038467119883 tw1215057951727174090 tw7347137218869578811 tw16337385921010556805 tw11521816222258074541 tw4494508976961645724 tw7301257256406543592 tw4507803812041857552 tw9844081403441335092 tw14815962994738154770 tw1926210025977937551 tw1633911748236008034 tw1531428609998913737 tw4189090619921735353 tw9627818998703878671 tw14838252039571062572 tw10283026722387112468 tw583351823459283416 tw11780376147765491260 tw343523105625486631 tw9019827805529355913 tw7420172668138025514 tw16752708329480052936 tw12919758408046025213 tw9028736866287473224 tw8573772094705565914 tw15996871960195549237 tw4538397969240031829 tw17809489728623065785 tw8610114154858251418 tw18065885101321804869 tw18159676482107355271 tw15719515037526170688 tw18361658424803014064 tw1897583999984817252 tw340862366994559959 tw2405797342980661953 tw15320654941011878084 tw12241334801625879388 tw56781865219367629 tw15514785836873377206 tw3866867751517686900 tw7483333289211986151 tw13355070413155725595
 tw18112206811221365578 tw15659719672120453719 tw5653960368752656451 tw17961928111258194019 tw6605925047306870316 tw14508860236789705793 tw18157994609874649180 tw15486870797543595072 tw16132518742643113387 tw10808518079996722944 tw9435436641575967882 tw14587237591703859796 tw11435395168217016494 tw13874826602634410446 tw9581742776100408350 tw16220796676126164862 tw18029514667102542731 tw2965346011292199796 tw6129333915547051872 tw17963687579602025397 tw13379915067738018521 tw661841304947822319 tw17464957762376736894 tw16343013883707886564 tw14567036369114753522 tw9732009130031984572 tw14838846641993816718 tw14967755154594591748 tw10831955438902230801 tw8180780377438198217 tw4050352033940823756 tw2022452615848616067 tw14826981602051134519 tw5325933473991632796 tw4408291070822104049 tw3343066718327545103 tw7757291281671559548 tw2821389464723438955 tw12221782278017255962 tw2029823491334026618 tw10375111233789971836 tw575689976357251974 tw5513791986190588265 tw1363037703255157695 tw370983496977826113 tw17815068911740163164 tw17182382435298910074 tw5455323066037228483 tw1118999386927521274 tw11607286434962603541 tw10057853498322929034 tw1050294488996263564 tw10514766372508291493 tw6082246722613674603 tw934486650842048056 tw18093085972362964034 tw15460643430536291798 tw5423846406935113190 tw16130402735529019588 tw1719205643644519956 tw18149815481016409753 tw17214632258464227069 tw6648912846164487230 tw8109653721082177955 tw11110400841447218096 tw17787613877215295667 tw4615103782473552001 tw17946376817432336109 tw5145398462440863201 tw3130250051651835337 tw4610954452998652191 tw15739751198742395297 tw3007293544165553789 tw1500376347109241469 tw500019837072123174 tw16491272199117686220 tw1739278542064053555 tw7057322724392897299 tw12088901227355100851 tw4401825237544010289 tw5417269354634672977 tw16918532155678292430 tw12229429815166445847 tw11138000055185692802 tw6448886186921892770 tw7209222731008593120 tw8872421914100714354 tw218381995542229023 tw6828519237023424816 tw4874397731515904916 tw13305598536377523477 tw1618936003311313852 tw12161550916270390085 tw13827310599683567318 tw12615122542366465711 tw17734364568366144623 tw16876109964823827197 tw11656125218208569988 tw16539447601020612911 tw13739264864272576331 tw10694369190202526780 tw14164079410354801749 tw7360728735895735969 tw17929078064636243745 tw14692319856886258329 tw8999967652067053901 tw9091945506463157239 tw1493464141246804662 tw4600511286556780163 tw9789910747311611391 tw13561555929398197928 tw7078720023821557749 tw8987779003631725768 tw9919063482989182272 tw12444454284324220778 tw9293767295356199053 tw7352899928003578063 tw17295245471531543375 tw1808691930034543784 tw5123713250803987664 tw564400218373994241 tw12884304329746579158 tw18326551124815238031 tw15542232037120727930 tw14518640609890831641 tw13112075549764436924 tw6976784109575448106 tw12894197229523734859 tw8931665137470093031 tw11320738415152466394 tw6566592192695607095 tw1323948046519343690 tw16369139939621356595 tw1266373863804895378
 tw15145284855440807325 tw5806965964121849041 tw1206544938949472146 tw14489036432750586346 tw18196772602725970145 tw15828696944812490322 tw3410913440668915058 tw13044591546926459017 tw6244862332055999336 tw14949434151681569436 tw4494453501490615694 tw12516803904227553555 tw3289628706089780608 tw4872872203836696177 tw8851231935368147080 tw4617502390109812425 tw15850808203465039902 tw14920699289320630053 tw11546282381999861325 tw2213655625099217501 tw11780541181959363894 tw13712781557903660946 tw11917671923556929776 tw4022895289272704397 tw17474689732750152234 tw8864445696105363236 tw5903605438998412930 tw7563315304163634988 tw15146493386255204438 tw6562731990046336955 tw11854300462223331384 tw10637908490977990184 tw2488611497250265402 tw1430941551642883072 tw1556071159139530484 tw17098112076420574625 tw4088559362003607696 tw17538956831929597528 tw15785367524517153885 tw761214284604205831 tw7465176926320978841 tw18212304587358194508 tw16313255485064028784 tw18007572218219786596 tw17480004953648048908 tw17363591373441390113 tw16587762247104781245 tw3404055782131756446 tw11582442046813671720 tw9492041802542979150 tw5109502683764862752 tw4875617301781563805 tw10057156333946017128 tw4240895471738201883 tw10894641422788831193 tw14396478299834266868 tw18270032500330572303 tw63649348271709714 tw1977872518678732106 tw17914388129896430541 tw12617884374431284876 tw14900468513281218583 tw2824859133395767100 tw5372411238016244418 tw9035534832770149023 tw608273885950592445 tw769760582303950295 tw12665959190496939738 tw18173188087915437395 tw15922808093169172640 tw6928977072871810256 tw3464138019581240453 tw11172762337913875127 tw8385678481693945890 tw13689829476885740452 tw955130966058646418 tw12902522149983265392 tw2329913180695875987 tw8922955134783147811 tw12505057002854182138 tw5754320081401380963 tw17655028516451110758 tw6687578773872101460 tw182975520259340038 tw12607619066884714864 tw2297246897632926398 tw3339203448242708904 tw952785155332896083 tw11942369670687911375 tw17367894505325173150 tw7374209322988463026 tw3131266813033409037 tw1009684505626431086 tw12915050445386447120 tw6195881196418887645 tw9410422794625128521 tw760152762432884624 tw5603950938234169205 tw433949295462239739 tw18253879171758595436 tw17155460987227422754 tw15781005685652970770 tw19167030101151864 tw14463967018020252810 tw3570049471791967188 tw11377447375152789842 tw8669510715452625283 tw17408733901600207588 tw373871860404605489 tw3849703906848192456 tw11081304677776066977 tw11835941968611373071 tw6963435289404081372 tw4091181678813305461 tw17401014793798869552 tw17357055963804021731 tw117646249083725873 tw5024500512187959104 tw16974523312560613585 tw8529259566757784343 tw6288806973900351923 tw4467366832108583356 tw8133904460211386980 tw15577366950531299110 tw3746265478995281558 tw13871300330755484124 tw8456732447992506571 tw8988093241861567275 tw14881864139298306411 tw9850530104955507309 tw9625110563493070630 tw10272449448634474863 tw13022905043149954497 tw13952318289125905477 tw11127203914844443542
 tw8104103177144347182 tw2227207508283749032 tw799029364956309267 tw5598994668753517251 tw8738239613590119982 tw6796995408831716209 tw3259179047827332206 tw9935343708742645065 tw1901024813943533500 tw803515166957733954 tw1202603424412563558 tw15146713735614286343 tw12723494842968233455 tw14456171395747841706 tw16905769463776593614 tw16058580738422574401 tw3218748842119446996 tw6807170328347073825 tw9140494397862230925 tw10422283330987194345 tw9229443579765917160 tw13055533721003580712 tw3073912036552167076 tw6079326176860867111 tw7438282638592346719 tw7812719651441447420 tw1774368777777081429 tw17302354513148369208 tw17304638286114696241 tw7349040331627242441 tw2511273890804657826 tw14518782635020128619 tw7085567604800423502 tw9385253942951508607 tw13174581886899160121 tw8848160705853235383 tw8021123888251210367 tw5209179776494675142 tw6918351104357391457 tw16516144802003152395 tw8464171360301365745 tw14491944146949470292 tw13168709730215015351 tw2810040660300774150 tw5727898164888676688 tw11091756244113625671 tw14044974063701684538 tw15949632474917401784 tw8829770285633664125 tw11669519319335031822 tw12030541193296677126 tw9849276172030274238 tw15848568208168998311 tw9461206872594494876 tw9744277694349588472 tw6788204256144926277 tw10015395431202263361 tw10046941707264264555 tw9432868750375179623 tw13798337060485579967 tw14806618524505228607 tw879860864415772693 tw2652871432065305045 tw4104072629180476849 tw4422186131976109891 tw5684622913837830493 tw2850182588167087714 tw17718310388180269583 tw17126797606378870434 tw11711414860605397037 tw16973447345492661085 tw8236292146250221253 tw13716092611874658266 tw16383376707307254972 tw10884382926778622905 tw377118444520232811 tw15826021738603420752 tw8571754426747668969 tw503015077735260871 tw13780979657026386391 tw10329220704149615171 tw11156284123220061541 tw15034253874483093452 tw13456112445224196785 tw408636849567939793 tw29595531642398171 tw11160703563312623260 tw6380308573773608533 tw943074283399128679 tw154017313650187446 tw18309519522446689907 tw12660585846379190370 tw652542754892970539 tw7033141210317540019 tw4076160004199224798 tw14699488050059241565 tw12846910439537561059 tw5738314172051142393 tw3531711910635537263 tw1652380029733131086 tw10463517076459576317 tw1019981694068752031 tw15251870503873746052 tw12977214868443097716 tw12590359543993111221 tw11123262260247061988 tw11684285799829307538 tw7149227403745825372 tw942448353948718395 tw13064991659825921031 tw2192749057060289083 tw18039558273685721149 tw16847593392448026822 tw2683184873895447921 tw3771762064273436747 tw10332754305980256578 tw8672679465905414725 tw2092398154384720562 tw6860549478029661375 tw2574582642979724844 tw13274368576560018088 tw17731222371686831724 tw13396670151316736691 tw1902198015942013009 tw1034114446312527572 tw9456369245958391013 tw6189797695675171269 tw11373687449619883329 tw18238766037964194248 tw10563369787605716803 tw1658660130680544803 tw5053929244235952423 tw3102808793441818727 tw11004217697528021787 tw3642263939312502940
 tw15266337557111678083 tw4996422744230134230 tw15380458859933559875 tw6476951214530098431 tw1414370700375386612 tw14367418706262723563 tw14010135462938905052 tw200768941243940060 tw1732877607511321762 tw155526853060428021 tw14611813952203628353 tw11884100675579381428 tw18250415663479514202 tw13476275859644925330 tw1990530448812471992 tw16794682158842780546 tw5347569901324550707 tw15340160685828357144 tw3863698241657470017 tw7708323039631332617 tw744745645883364532 tw5353354519625623913 tw14155157276694477001 tw1015748584703700782 tw300247029903370210 tw4100219126986006908 tw10711802481604985658 tw2494731961647568305 tw968332542312256834 tw9252510672187941160 tw8863522765170950045 tw11992268171762826005 tw9302494754037903564 tw18140302730356377845 tw5488194850317848365 tw12273683055860272490 tw14133101449233312324 tw16778212744353382327 tw17618658760784053327 tw8807867524204295506 tw11155665372009110647 tw10372946979873237692 tw10726599722863105737 tw12678506079131760518 tw1893391337530726829 tw2586726206561359499 tw4119738040415699642 tw17567287368763567507 tw3516295578688316614 tw15710034241941732451 tw16202666154860776250 tw6209324879494546269 tw12459810459351045789 tw1009953705518011894 tw8371058127912979681 tw5567794446208096294 tw2735716577194009631 tw6059500698218939985 tw4064248087219488646 tw18122131360816828295 tw17159344566613775724 tw5933705956935950754 tw15029009367177095040 tw5122586311231090036 tw4898871943481199868 tw5839316467119839274 tw4838002522211731434 tw18233363978114518255 tw8104721506471990076 tw13259845580639580422 tw4891464520184198482 tw12215179001628254631 tw2416290054912168065 tw15377096627716519438 tw17917488668692527103 tw3478995207154431911 tw2840138265560341476 tw3006113244817800610 tw4222026041457965269 tw16825967209512578033 tw5778350847692170300 tw15776769494653516026 tw13300272343864157026 tw1809226146973254638 tw16250322877949874220 tw9278397397061845057 tw13234988874869360796 tw15175214716770032657 tw38199546882522850 tw14632872874194165035 tw13771080648642618789 tw16462249387025693677 tw18247721420230405654 tw2303135005757135428 tw9658204692498812270 tw1114285260488819216 tw7982895836886357895 tw12885543331356007022 tw5977724551148367416 tw13537544428140722912 tw1621365507477881117 tw16982985605633893029 tw13809019404026642151 tw2666904464460266799 tw1022808934761681047 tw4772659418545732562 tw2027634786396582565 tw6111858508548539806 tw18326592984965168245 tw4714001017863643486 tw14758650058478577085 tw8228200052598462173 tw6432988411579910931 tw4313287433970965958 tw15089945522037627419 tw15495526249745107116 tw14331415305068521295 tw17929310558918305549 tw10522077937469753738 tw2473419754416371182 tw8307141423602506224 tw2418494841778171260 tw6718084039249079170 tw17007191521741240657 tw16977204143105988529 tw1188254002888916402 tw16050839458487137347 tw14941179503267899219 tw16074857747787988399 tw6745302005220376902 tw13838991472173754482 tw16113673935528664395 tw10576877584325055588 tw8437980881688526633
 tw15526738074598487655 tw10328010570870397363 tw313265523859964420 tw12505297295335802363 tw13081382756244398870 tw15972266016705113717 tw14136158309020466642 tw3739154128430627388 tw3120847579232014539 tw9498813431667931682 tw14159331882898438792 tw1317382815593009344 tw16298903159571787533 tw10598850724990585344 tw18160196148609220805 tw2206691739634729571 tw11802303684694961750 tw3943292156222340082 tw2186678111924001411 tw10620231682092857908 tw866175451665596212 tw9428934092803824576 tw1500135176990325968 tw9263531247876487057 tw4329309502008798547 tw17903946807264387589 tw7764312986105774236 tw11969441868127455931 tw901485662652501719 tw40141827786868815 tw3505193427744205381 tw11550473938772616016 tw7982859811963207964 tw7957234640654926441 tw6406742554864112341 tw14211677680051633992 tw12033987506466375590 tw6846303415662696808 tw17163918621947259217 tw15332528745748859847 tw17482584710968343728 tw9930637094279892469 tw65501202376004280 tw8599115669727669895 tw5963340944084335272 tw2010221592817772225 tw8019256752199850543 tw10013513730296991839 tw5601417763569808695 tw14392356475282572966 tw16301507400569951863 tw12373887853843604244 tw14374074979935504226 tw9395920977730222779 tw10715834916904046789 tw16851462134028727468 tw1780184445788270185 tw3483255717005186627 tw2697153262994521300 tw12020193400700202944 tw17766773237491380138:xH)
open PySem PySem.W PyProof.Rows
local macro_rules| `(tactic|walk_at $s)=>do
 let i (w:ua):Lean.Ident:=AAF w.toName
 let p (f:Lean.Name) (l:ua):y3 (yO `tactic):=do
  let hs:=(l.splitOn " ").map λx=>x.splitOn ":"
  let h<-hs.mapM fun
   | [w]=>pure (i w)
   |x=> `(?$(i x.head!))
  hs.foldlM (fun
   |t,[w,c]=> `(tactic|($t;case $(i w):ident=>walk_at $(Lean.Syntax.mkStrLit c)))
   |t,_=>pure t) (<- `(tactic|((try dsimp only[L2.KOf]);refine' $(wG (AAF f) h.toArray))))
 match s.getString with
 | "t"=> `(tactic|repeat' first|exact Mi.Za|exact Mi.bH|exact Mi.eK|exact Mi.aR|exact Paired.nil|refine' Paired.cons ⟨⟨_,rfl⟩,?_⟩ ?_|refine' Paired.cons ?_ ?_|(refine' Mi.ZF ?l ?z ?_;(case l=>k_is);(case z=>decide)))
 | "k"=>p `Mi.du "KX G e:K r:t"
 | "h"=> `(tactic|repeat (first|exact vn|refine' And.intro ⟨_,_,rfl,rfl⟩ ?_))
 | "p"=>p `Mi.aM "KX G e:K l:K hk:h hne:D hp:t"
 | "f"=>p `Mi.Zu "KX G e:K l:K hk:h hne:D hp:q"
 | "q"=> `(tactic|((repeat (refine' Paired.cons ⟨⟨_,rfl⟩,_,rfl,?q⟩ ?_;(case q=>k_is)));exact Paired.nil))
 | "x"=> `(tactic|(dsimp only[L2.KOf];refine' Mi.k9 $(i "KX") $(i "G") ?e ?q;(case e=>k_is);(case q=>k_exc)))
 | "m"=>p `Mi.fU "KX G e:K t:M"
 | "M"=> `(tactic|((repeat (refine' Mi.dF ?a ?b ?c ?_;(case a=>k_is);(case b=>kts_exm);(case c=>decide)));exact Mi.all_nil))
 | "z"=>p `PySem.W.mg_none_of "KX G z:K"
 | "a"=>p `Mi.eD "t1:K t2:K t3:R t4:K t5:R t6:R t7:R t8:R t9:R u1:R u2:R u3:D"
 | "K"=> `(tactic|k_is)
 | "D"=> `(tactic|decide)
 | "R"=> `(tactic|rfl)
 |w=> `(tactic|case $(i w):ident=>k_is)
set_option maxRecDepth 100000 in
set_option maxHeartbeats 0 in
theorem PySem.Challenge.cw_sharetrail_k72_undone_and_started_holds : PySem.Challenge.rw_sharetrail_k72_undone_and_started.Holds := by
 w_on;o_law;k_head;(case hw=>w_witness2)
 k_fill
 refine Mi.walk (l:=PySem.Challenge.rw_sharetrail_k72_undone_and_started) rfl rfl (by decide) (by decide) rfl rfl ?F
 case F=>
  intro w mg h KX G
  refine⟨?T,?_⟩
  case T=>
   intro z hz
   rcases List.mem_cons.mp hz with e|hz
   .subst e
    walk_at "a"
   rcases List.mem_cons.mp hz with e|hz
   .subst e
    walk_at "a"
   rcases List.mem_cons.mp hz with e|hz
   .subst e
    walk_at "a"
   cases hz
  have fq:Mi.Pl (L2.KOf KX) mg "ALL" Mi.N4:=by walk_at "k"
  have Qm:Mi.Pl (L2.KOf KX) mg "MAKERS" Mi.BS:=by walk_at "k"
  have KN:Mi.Pl (L2.KOf KX) mg "MOST_DEEDS" Mi.Fb:=by walk_at "k"
  have KP:Mi.Pl (L2.KOf KX) mg "MOST_FIRST" Mi.BB:=by walk_at "k"
  have JW:Mi.Pl (L2.KOf KX) mg "MOST_THROWS" Mi.Eg:=by walk_at "k"
  have Ox:Mi.Pl (L2.KOf KX) mg "NOTHING" Mi.Eu:=by walk_at "k"
  have JC:Mi.Pl (L2.KOf KX) mg "UNLIKE" Mi.Bx:=by walk_at "k"
  have Jk:Mi.gY (L2.KOf KX) w mg "FORMS" Mi.EU:=by walk_at "p"
  have QU:Mi.iF w (L2.KOf KX) mg "PARTS" [("partner","is_partner"),("kind","is_kind"),("load","is_load_number"),("number","is_trade_number"),("pieces","are_pieces"),("worths","are_worths"),("share","is_sold_share")]:=by walk_at "f"
  have JS:Mi.XcD (L2.KOf KX) mg "NoDeed":=by walk_at "x"
  have JT:Mi.XcD (L2.KOf KX) mg "NoNext":=by walk_at "x"
  have MX:Mi.XcD (L2.KOf KX) mg "NoNumber":=by walk_at "x"
  have DY:Mi.XcD (L2.KOf KX) mg "NothingDone":=by walk_at "x"
  have HM:Mi.XcD (L2.KOf KX) mg "TooMany":=by walk_at "x"
  have Ci:Mi.XmD (L2.KOf KX) mg ["TooMany","NoNext","NothingDone"] "NoNext":=by walk_at "m"
  have Au:Mi.XmD (L2.KOf KX) mg ["TooMany","NoNext","NothingDone"] "NothingDone":=by walk_at "m"
  have B5:Mi.XmD (L2.KOf KX) mg ["TooMany","NoNext","NothingDone"] "TooMany":=by walk_at "m"
  have AR:Mi.ClD (L2.KOf KX) "Leader" ["kept","earlier"]:=by
   dsimp only[L2.KOf]
   refine' Mi.dG ?oa ?ob ?oc ?od ?oe ?on
   walk_at "oa"
   walk_at "ob"
   walk_at "oc"
   walk_at "od"
   walk_at "oe"
   case on=>
    refine' Mi.Vh ?nh ?nt
    (case nh=>k_is)
    case nt=>
     refine' Mi.Vh ?nh ?nt
     (case nh=>k_is)
     case nt=>
      exact Mi.dc
  have Bu:Mi.MkS (L2.KOf KX) mg "Leader" "Leader.__init__" Mi.Bu:=by
   dsimp only[L2.KOf]
   refine' Mi.cQ KX G ?ma ?mb ?mc ?md ?me ?ml ?mo ?mk
   walk_at "ma"
   walk_at "mb"
   walk_at "mc"
   walk_at "md"
   walk_at "me"
   walk_at "ml"
   walk_at "mo"
   walk_at "mk"
  have A7:Mi.MeS (L2.KOf KX) "Leader" "turn_to" "Leader.turn_to" Mi.A7:=by
   dsimp only[L2.KOf]
   refine' Mi.Ot AR ?ma ?mb ?mc ?ml ?mo ?mk
   walk_at "ma"
   walk_at "mb"
   walk_at "mc"
   walk_at "ml"
   walk_at "mo"
   walk_at "mk"
  have Bq:Mi.MeS (L2.KOf KX) "Leader" "do" "Leader.do" Mi.Bq:=by
   dsimp only[L2.KOf]
   refine' Mi.Ot AR ?ma ?mb ?mc ?ml ?mo ?mk
   walk_at "ma"
   walk_at "mb"
   walk_at "mc"
   walk_at "ml"
   walk_at "mo"
   walk_at "mk"
  have BC:Mi.MeS (L2.KOf KX) "Leader" "start" "Leader.start" Mi.BC:=by
   dsimp only[L2.KOf]
   refine' Mi.Ot AR ?ma ?mb ?mc ?ml ?mo ?mk
   walk_at "ma"
   walk_at "mb"
   walk_at "mc"
   walk_at "ml"
   walk_at "mo"
   walk_at "mk"
  have BI:Mi.MeS (L2.KOf KX) "Leader" "undo" "Leader.undo" Mi.BI:=by
   dsimp only[L2.KOf]
   refine' Mi.Ot AR ?ma ?mb ?mc ?ml ?mo ?mk
   walk_at "ma"
   walk_at "mb"
   walk_at "mc"
   walk_at "ml"
   walk_at "mo"
   walk_at "mk"
  have Bd:Mi.MeS (L2.KOf KX) "Leader" "book" "Leader.book" Mi.Bd:=by
   dsimp only[L2.KOf]
   refine' Mi.Ot AR ?ma ?mb ?mc ?ml ?mo ?mk
   walk_at "ma"
   walk_at "mb"
   walk_at "mc"
   walk_at "ml"
   walk_at "mo"
   walk_at "mk"
  have z_abs:mg "abs"=none:=by walk_at "z"
  have z_all:mg "all"=none:=by walk_at "z"
  have z_bool:mg "bool"=none:=by walk_at "z"
  have z_enumerate:mg "enumerate"=none:=by walk_at "z"
  have z_int:mg "int"=none:=by walk_at "z"
  have z_isinstance:mg "isinstance"=none:=by walk_at "z"
  have z_len:mg "len"=none:=by walk_at "z"
  have z_list:mg "list"=none:=by walk_at "z"
  have z_min:mg "min"=none:=by walk_at "z"
  have z_range:mg "range"=none:=by walk_at "z"
  have z_sorted:mg "sorted"=none:=by walk_at "z"
  have z_str:mg "str"=none:=by walk_at "z"
  have z_sum:mg "sum"=none:=by walk_at "z"
  have z_tuple:mg "tuple"=none:=by walk_at "z"
  have z_zip:mg "zip"=none:=by walk_at "z"
  refine⟨⟨z_abs,z_all,z_bool,z_enumerate,z_int,z_isinstance,z_len,z_list,z_min,z_range,z_sorted,z_str,z_sum,z_tuple,z_zip⟩,fq,Qm,KN,KP,JW,Ox,JC,Jk,QU,JS,JT,MX,DY,HM,Ci,Au,B5,AR,Bu,A7,Bq,BC,BI,Bd,?_,?_,?_,?_,?_,?_,?_,?_,?_,?_,?_,?_,?_,?_,?_,?_,?_,?_,?_,?_,?_,?_,?_,?_,?_,?_,?_,?_,?_,?_,?_,?_,?_,?_,?_,?_,?_,?_,?_,?_,?_,?_,?_,?_,?_,?_,?_,?_,?_,?_,?_,?_,?_,?_,?_,?_,?_,?_,?_,?_,?_,?_,?_,?_,?_,?_,?_,?_,?_,?_,?_,?_,?_,?_,?_,?_,?_,?_,?_,?_,?_,?_,?_,?_,?_,?_⟩
  all_goals (refine' Mi.dU KX G ?a ?l ?c ?k;(case a=>k_is);(case l=>k_is);(case c=>k_is);(case k=>k_is))
end
