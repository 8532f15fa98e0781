import PyProof.Rows.All
import Wide.All
import OpenK.AllK
import Wide.FinOn
import Lean
import PyProof.EqAt
import PyProof.EqKinds
import PyProof.TupleCall
import PyProof.Draws
import PyProof.EnumMake
import PyProof.EnumFor
import PyProof.ZipIter
import PyProof.ListMulRoad
import PyProof.NeData
import PyProof.SumWalkG
import KE.KSortedM
import PyProof.FactsAll.subtypes_4
import KE.KSortTup
import KE.KItemsList
import KE.KDictList
import PyProof.DictCompW
import PySem.Challenge.RW_sharetrail_k63_whole_clashes_told_at_the
set_option Elab.async false
set_option linter.all false
set_option maxRecDepth 100000
set_option maxHeartbeats 4000000
set_option exponentiation.threshold 10000
open _root_ renaming List->Wp,Option->kN,of_decide_eq_true->kj,Array->lE,if_pos->lF,if_neg->lJ,Bool->lM,or_false->mZ,decide_eq_true->nT,decide_eq_false->oM,String->oY,False->pQ,if_false->p0,beq_self_eq_true->qE,beq_eq_false_iff_ne->qL,bne_self_eq_false->qq,if_true->q9,not_or->tV,DecidableEq->uK,True->uL,beq_iff_eq->vE,decide_eq_true_eq->v3
open Array renaming length_toList->mJ,getElem?_toList->oJ,getD->qY,toList_map->tN,toArray_toList->uc,getElem?_map->vH,toList_push->vj,toList->ym
open Bool renaming and_eq_true->kn,false_ne_true->l8,or_eq_true->mU,noConfusion->m8,false_eq_true->nO,true_and->pY,and_false->rm,false_and->uM,and_self->yO
open Classical renaming choose_spec->zq
open Eq renaming symm->zc
open False renaming elim->pF
open ForInStep renaming yield->rK
open Int renaming toNat_of_nonneg->mB,natAbs_natCast->mz,lt_trans->nQ,emod_nonneg->nX,mul_pos->oW,emod_lt_of_pos->pN,lt_of_lt_of_le->pO,lt_of_le_of_lt->pP,toNat_natCast->pq,natAbs_mul->qA,mul_le_mul_of_nonneg_right->q5,mul_ediv_cancel_left->sj,natCast_mul->uA,natAbs_add_le->vt,emod_eq_of_lt->v5,mul_nonneg->xZ,mul_le_mul->xc,toNat->yk,le_of_lt->zR,sub_self->zW,pow_succ->zX
open List renaming getElem?_append_left->kP,getElem?_eq_getElem->kS,mem_cons_of_mem->kU,getElem?_set_ne->kW,mem_cons->kX,mem_cons_self->kc,getElem?_eq_some_iff->ke,getD_eq_getElem?_getD->kg,size_toArray->kh,getElem?_set_self->ko,map_cons->kq,mem_singleton->kr,replicate->ku,length_map->ky,getElem?_concat_length->kz,mem_of_getElem?->k0,mem_append->k6,not_mem_nil->k7,getElem?_map->lC,filterMap_cons->lD,mem_map->lI,mem_append_right->lK,nil_append->lN,length_append->lQ,range->lT,getElem?_append_right->lU,length_cons->l7,map_map->mC,prefix_rfl->mG,replicate_succ->mM,cons_append->mV,map_nil->mX,drop_eq_getElem_cons->mn,nodup_append->mq,map_append->my,lookup_cons->m6,append_assoc->nD,pairwise_map->nE,nodup_iff_pairwise_ne->nG,mem_filter->nH,nodup_cons->nI,mem_or_eq_of_mem_set->nK,any_cons->nP,getElem_mem->ny,any_eq_true->oA,append_nil->oO,length_set->oP,find?_cons->oQ,flatten_cons->oS,mem_range->oq,getElem_inj->ou,length_take->pA,take_of_length_le->pJ,prefix_append->pK,drop_eq_nil_of_le->pL,all_cons->pV,sum_cons->pX,mem_iff_getElem?->pZ,length_filter_le->pf,mem_iff_getElem->p9,ext_getElem->qH,getElem?_eq_none_iff->qK,of_mem_zip->qS,length_nil->qT,lookup_append->qX,pairwise_mergeSort->qc,range_succ_eq_map->qj,pairwise_lt_range->qm,length_range->qr,mem_range'_1->qt,mem_append_left->rB,drop_eq_nil_iff->rG,getElem?_zipWith_eq_some->rH,mergeSort_perm->rQ,mem_map_of_mem->rR,mapM_cons->sC,pairwise_cons->sD,getElem?_zip_eq_some->sH,pairwise_iff_getElem->sI,mem_of_find?_eq_some->sL,take_sublist->sS,getElem?_inj->sV,length_filterMap_le->su,getElem?_replicate->sx,getElem?_cons_zero->tO,zipWith->tm,map_set->tq,filter_eq_nil_iff->tu,foldl_cons->tz,forIn_cons->t8,length_singleton->uD,set_append_right->uG,getElem?_eq_none->uH,pairwise_and_iff->uI,length->uO,forIn_nil->uR,pairwise_append->uX,length_eraseIdx->ua,set_append_left->uf,length_pos_iff->um,Pairwise->uw,mem_filterMap->vA,foldl->vD,zip_cons_cons->vI,find?_eq_none->vJ,any_eq_false->vP,ext_getElem?->vw,length_drop->wG,zipIdx_cons->wJ,take->wM,nodup_range->wN,map_snd_zip->wR,take_length->wV,range'->wc,zipIdx_nil->wg,find?_some->wy,take_succ->xM,map_take->yM,drop->yW,all_map->zD,any_map->zT
open List.Pairwise renaming nil->sU,imp_of_mem->sr,sublist->uE,filterMap->ye
open List.Perm renaming refl->qp,eq_of_pairwise->si,cons->xS,append_left->zv
open Nat renaming le_refl->kR,lt_of_lt_of_le->kT,le_trans->kY,ne_of_lt->ki,zero_le->mI,lt_succ_of_lt->mQ,lt_of_le_of_lt->mh,le_of_lt->mx,pow_le_pow_right->m9,mul_le_mul_right->nB,lt_irrefl->nC,lt_succ_self->nv,le_succ_of_le->oX,mul_comm->pI,le_of_succ_le->pz,ne_of_gt->qC,lt_trans->qF,zero_add->ql,pos_of_ne_zero->sF,one_lt_two_pow->sG,gcd->sY,mul_pos->sZ,mul_assoc->sk,le_succ->uY,mul_le_mul->ue,lt_trichotomy->vg,pow_succ->vq,lt_or_ge->vy,min_le_right->wF,div_le_self->wx,mod_lt->xT,add_comm->yw,le_of_eq->yx,gcd_comm->zU
open Ne renaming symm->mR
open Option renaming some->Gc,bind_some->pB,isSome_iff_exists->se,map->vG,getD_none->wH,getD_some->wI
open Option.some renaming inj->mO,injEq->vp
open Or renaming inr->yy
open PyProof.Rows renaming slot_tuple_getitem->mE,IntsAre->nV,step_dedup->nW,callWith_type1->nZ,boot_tuple->oH,boot_isinstance->pU,envOfC->qO,assignInOrder_cons->rZ,AllBare->sP,subscriptTail_builtinR->tR,boot_list->uh,entry_tuple_getitem->uj,getElem?_mirror_all->uq,listUpdate_at->ux,args_tuple_getitem->vC,assignInOrder_nil->vO,callWith_builtin1->wD,seqEpoch_at->wZ,entry_list_sort->wt,getElem?_bubble->wu,slicePart_none->xG,mulOk_of_bits->xO,slot_list_sort->xU,args_list_sort->xV,sortedHeap_old->xW,boot_int->xY,mul_int->xg,assign_Tuple->xj,tupleItemsOf_->xy,sortedHeap_at->yJ,plain_sorted->zM,entry_sorted->zN,args_sorted1->zO,firstMet->zr,boot_set->zy,IsTup->z7
open PyProof.Rows.F renaming plain_set_update_loop->qd,entry_set_update_loop->tK
open PyProof.Rows.IsTup renaming new->qM
open PySem renaming wpAny_bind->kH,Value->kL,Shared->kM,wpAny_pure->kO,Addr->kQ,Program->k8,starEach->k9,Expr->lH,World->lO,Heap->lP,Around->lV,wpAny_call_entry->lg,wpAny_holding->lh,wpAny_newObj_type->lu,wpAny_callSpecial?_slot->lx,Stmt->mH,mem_of_lookup->mK,wpAny_pyIter_list->mY,Builtin->nJ,wpAny_pyIter_tuple->nM,Scope->nR,FuncData->nS,wpAny_seqItems->nU,wpAny_standAt->nh,wpAny_field->nq,wpAny_setField->oF,wpAny_setField_rec->oG,wpAny_passesOwn->oN,wpAny_truthy_bool->oR,wpAny_setState_of->oU,wpAny_rule->oZ,IsPair->og,wpAny_setEntries_of->oo,NameKind->oy,wpAny_getItem_str_slice->pC,boot_len->pE,wpAny_Call_Name_kw->pG,wpAny_updateSeq->pS,codeAny_builtin->pT,wpAny_typeOf->qD,wpAny_isInstance->qG,wpAny_binaryOp_repeat_ref->qJ,wpAny_comprehension_free->qQ,wpAny_attempt->qR,wpAny_pyNext_list_item->qf,fits_of_scanBound->qo,wpAny_pyNext_list_end->qu,typeIs_int->qx,call_meets->qy,plainId_quiet->rA,wpAny_updateSeq_pair->rF,wpAny_execs_nil->rJ,post_val_or_str->rO,codeAny_mono->rS,wpAny_mono->rX,IsZip->rz,wpAny_fieldsOf->sE,sizeLine_eq->sQ,Keyword->sR,wpAny_setEpoch_of->sX,wpAny_onRaise->sf,wpAny_newList->sg,noFill_tuple_add->tE,wpAny_askSetting->tL,IsPart->tQ,typeIs_str->tS,ElemsOf->tY,wpAny_specialOf->t9,wpAny_pyIter_listiter->uC,builtinLookup_eq_fast->uF,wpAny_letGo->uS,wpAny_newTuple->uT,isSubtype_stop->uU,intBits_le_iff->uW,isSubtype_type->uZ,codeAny_extend_loopS->ub,seq_tuple_add->uu,wpAny_assign_Name->vN,BindsTo->vT,concat_meets->vU,wpAny_sequenceKey->vV,slot_list_getitem->vW,ZipApart->vZ,wpAny_pyIter_enum->vc,wpAny_storeSet_of->vi,wpAny_pyIter_slot->vk,wpAny_eqBool_int->v7,wpAny_execs_cons->v8,PassesOwn->v9,Result->wC,wpAny_pyIter_zip->wL,seqIndex_of->wX,wpAny_of_eq->wY,pushCells_keeps->we,codeAny_of_tree->wj,typeLookup_type->wo,GenState->xB,wpAny_Name->xC,wpAny_bindName->xD,call->xI,wpAny_runValue->xQ,entryFor_alias->xR,intBits_le_64->xv,evalPart_none->x8,call_list_seq->yA,signature?_of->yG,wpAny_handled->yH,Model->yR,Env->yZ,Within->yl,name_of_addr->yt,codeAny_loop->yz,call_meetsIn->y7,callType_new->y8,sub_set_self->zJ,ItemsOf->zK
open PySem.Around renaming under_plainId->oV
open PySem.AutoListH renaming list___mul___list_int_3->vK
open PySem.AutoSeq1 renaming wpAny_loadPart'->lB,list_extend_list_list_0->vX,sub_tuple_tuple->yC,sub_tuple_list->yc,sub_list_tuple->yd,sub_list_list->zI
open PySem.Builtin.Frozenset renaming updateFrom->wm,newClass->xP,sizeOf->yI,slot0->yg
open PySem.Builtin.List renaming listExtendWith->md,listTooLong->mv,listLengthHint->ng,listSameRef->om,listItems->tj,listFitsIndex->xH,listUpdate->yh
open PySem.Builtin.Range renaming rangeSize->yU
open PySem.Builtin.Slice renaming slicePlaces->oK,sliceAdjust->qI,sliceApplied->rg,slicePartIndex->wd,sliceFields->xh
open PySem.Builtin.SmallTypes renaming nextOf->lY,ownedTupleIsFree->mw,ownedTupleHandOut->qN,stopIteration->vY
open PySem.Builtin.Tuple renaming tupleExact->oa,tupleItemsOf->rh,tupleTooMany->sA,tupleIsExact->xN
open PySem.Calls renaming spliced_cons->rC,spliced_nil->rP,Name_function_global->rY,call_function_entry->sJ,callWith_builtin->tT,evalArgs_plain->uP
open PySem.Challenge renaming pw_sharetrail_k63_whole_clashes_told_at_the->qw
open PySem.Data renaming fields->wW
open PySem.F renaming slot_list_append->lW,type_list_append->lq,slot_tuple_iterator_next->oE,slot_str_getitem->oj,called_set->pM,slot_int_rmul->pR,args_tuple_add_2->qP,entry_tuple_add->qa,slot_tuple_add->qh,slot_dict_get->qv,slot_tuple_mul->qz,slot_list_extend->rD,args_tuple_iterator_next_1->rL,slot_zip_next->rM,entry_tuple_iterator_next->rT,args_int_rmul_2->sT,slot_int_index->tF,entry_int_rmul->tH,args_dict_get_2->tJ,entry_dict_get->tU,fills_int_mul->t7,args_list_extend_2->uQ,entry_list_extend->uk,plain_extend_loop->uo,args_tuple_mul_2->vF,args_zip_next_1->va,slot_tuple_rmul->vd,entry_tuple_mul->ve,plain_list_iadd->vn,entry_zip_next->wK,plain_set_new->wk,slot_set_iter->wq
open PySem.Heap renaming get?_push_of_some->kK,get?_push_size->kZ,lt_size->kf,size_push->lG,get?_update_self->lZ,get?_update_other->mS,SameBut->nY,ExtBut->qb,IsTuple->rV,IsList->uV
open PySem.Heap.SameBut renaming update->mN,refl->vb
open PySem.Manifest renaming sig_set_iterator->xp
open PySem.NameKind renaming free->mP,cell->pW
open PySem.Obj renaming mapSeq->lX,data_mapFields->mf,isFreed_of_fields->oI,cls_mapFields->qi,putSet->tZ,mapFields->uv
open PySem.Paired renaming length->xt
open PySem.PassesOwn renaming never->l9
open PySem.PyData renaming strOk->m7,canLayAll0->qk,depthAll->uB,depth->zY
open PySem.SeqAt.EqAt renaming int_str->uy,str_int->uz
open PySem.SetTable renaming below->mD,grown->pD,has->vh,toList_insertAt->yD,slot->yE,fits_plain_off->yf
open PySem.SetTable.Slot renaming noConfusion->xn
open PySem.SetTable.below renaming go->vf
open PySem.SetTable.probe renaming go->sW
open PySem.Shared renaming heap->oT,TypeIs->yF
open PySem.Str renaming ofString->mL
open PySem.Txt renaming slice_le->tW,slice->ya
open PySem.Value renaming ref->mF,none->mW,type->qV,int->qZ,bool->rW,isInt_shape->sM,str->sv,isInt->uJ,isStrOf->ur,float->z6
open PySem.W renaming Frag->kJ,kia_one->mT,keepIn->oB,kitOne->oC,fnOf->pH,findIn->qg,OpenLaw->rE,codeIn->rf,methodObj->sN,cellsFrom_some->tP,instObj->tw,lookIn->uN,kas_rev->ui,kitx_tuple->vB,specialIn->vQ,kitx_list->vR,kitx_dict->vS,kas_desc->vo,plainGet->wB,kas_tail3->wO,kas_place->wQ,WalkO->xA,isFn->yr,nsIn->zE,kas_descPart->zP,kas_bin->zQ
open PySem.W.KasT renaming kasWp_bind->qU
open PySem.pickOrder renaming go->vm
open Rat renaming intCast_eq_zero_iff->qe,mkRat_eq_div->wU
open Sum renaming inl->qB,inr->ug
open True renaming intro->qW
noncomputable section
namespace L2
open PySem PySem.Spec PyProof.Rows
abbrev Key:=Sum Int Str
noncomputable def Oe:Key->kL->lM
 | .inl k,v=>uJ k v
 | .inr x,v=>ur x v
noncomputable def jM(w:lO):Key->Int
 | .inl k=>hashInt k
 | .inr x=>hashStr w x
theorem Bu:∀{k:Key} {v:kL},Oe k v=true->(∃i t,k=qB i/\v=qZ i t)\/(∃x t,k=ug x/\v=sv x t)
 | .inl i,v,h=>by
   obtain⟨t,e⟩:=sM (k:=i) (v:=v) h
   exact .inl ⟨i,t,rfl,e⟩
 | .inr x,v,h=>by
   obtain⟨t,e⟩:=Value.isStrOf_shape (x:=x) (v:=v) h
   exact .inr ⟨x,t,rfl,e⟩
theorem Q3(i:Int)(t:Tok):Oe (.inl i) (.int i t)=true:=by simp[Oe,uJ]
theorem SR(x:Str)(t:Tok):Oe (.inr x) (.str x t)=true:=by simp[Oe,ur]
theorem bN(a b:Int):decide ((qB a:Key)=qB b)=(a==b):=by
 by_cases e:a=b
 .subst e;simp
 .have h:¬(qB a:Key)=qB b:=λq=>e (Sum.inl.inj q)
  rw[oM h]
  exact(qL.mpr e).symm
theorem bE(a b:Str):decide ((ug a:Key)=ug b)=decide (a=b):=by
 by_cases e:a=b
 .subst e;simp
 .have h:¬(ug a:Key)=ug b:=λq=>e (Sum.inr.inj q)
  rw[oM h,oM e]
theorem aR(a:Int)(b:Str):decide ((qB a:Key)=ug b)=false:=oM (λq=>nomatch q)
theorem ZV(a:Str)(b:Int):decide ((ug a:Key)=qB b)=false:=oM (λq=>nomatch q)
noncomputable def Co(prog:k8)(w:lO):PySem.KeyKind prog w Key where
 is:=Oe
 hash:=jM w
 inj:=λv a b ha hb=>by
  rcases Bu ha with⟨i,t,rfl,rfl⟩|⟨x,t,rfl,rfl⟩
  .rcases Bu hb with⟨j,u,rfl,e⟩|⟨y,u,rfl,e⟩
   .injection e with e1 _;rw[e1]
   .exact nomatch e
  .rcases Bu hb with⟨j,u,rfl,e⟩|⟨y,u,rfl,e⟩
   .exact nomatch e
   .injection e with e1 _;rw[e1]
 byValue:=λk v h=>by
  rcases Bu h with⟨i,t,rfl,rfl⟩|⟨x,t,rfl,rfl⟩<;>rfl
 pyHash:=λhv h=>by
  rcases Bu hv with⟨i,t,rfl,rfl⟩|⟨x,t,rfl,rfl⟩
  .exact wpAny_pyHash_int h
  .exact wpAny_pyHash_str h
 eqBool:=λhu hv h=>by
  rcases Bu hu with⟨i,t,rfl,rfl⟩|⟨x,t,rfl,rfl⟩
  .rcases Bu hv with⟨j,u,rfl,rfl⟩|⟨y,u,rfl,rfl⟩
   .rw[bN]at h;exact v7 h
   .rw[aR]at h;exact uy i t y u _ _ _ _ h
  .rcases Bu hv with⟨j,u,rfl,rfl⟩|⟨y,u,rfl,rfl⟩
   .rw[ZV]at h;exact uz x t j u _ _ _ _ h
   .rw[bE]at h;exact wpAny_eqBool_str h
 «strs» :=λk x t v h=>by
  rcases Bu h with⟨i,u,rfl,e⟩|⟨y,u,rfl,e⟩
  .exact nomatch e
  .injection e with e1 _
   subst e1
   cases v<;>rfl
theorem O1(prog:k8)(w:lO)(i:Int)(t:Tok):(Co prog w).is (.inl i) (.int i t)=true:=Q3 i t
theorem OY(prog:k8)(w:lO)(x:Str)(t:Tok):(Co prog w).is (.inr x) (.str x t)=true:=SR x t
end L2
namespace L2
open PySem PySem.Spec PyProof.Rows
inductive V where
 |non|bl (b:lM)|int (i:Int)|str (x:Str)|byt (b:lE UInt8)|flt (b:UInt64)|ref (a:kQ)|ty (n:oY)
 deriving uK
def RelV:V->kL->Prop
 | .non,u=>u=mW
 | .bl b,u=>u=rW b
 | .int i,u=>∃t,u=qZ i t
 | .str x,u=>∃t,u=sv x t
 | .byt b,u=>∃t,u=Value.bytes b t
 | .flt b,u=>∃t,u=z6 b t
 | .ref a,u=>u=mF a
 | .ty n,u=>u=qV n
abbrev Vals:Wp V->Wp kL->Prop:=Paired RelV
theorem Vals.length{xs:Wp V}{us:Wp kL}(r:Vals xs us):xs.length=us.length:=xt r
theorem Vals.get:∀{xs:Wp V} {us:Wp kL} {i:Nat} {x:V},Vals xs us->xs[i]?=Gc x->∃u,us[i]?=Gc u/\RelV x u
 |_,_,_,_,.nil,e=>by simp at e
 |_,_,0,_,.cons r _,e=>by simp at e;subst e;exact⟨_,rfl,r⟩
 |_,_,i+1,x,.cons _ t,e=>by
  obtain⟨u,h1,h2⟩:=Vals.get (i:=i) (x:=x) t (by simpa using e)
  exact⟨u,by simpa using h1,h2⟩
theorem Vals.set{x:V}{u:kL}(r:RelV x u):∀{xs:Wp V} {us:Wp kL} (i:Nat),Vals xs us->Vals (xs.set i x) (us.set i u)
 |_,_,_,.nil=>.nil
 |_,_,0,.cons _ t=>.cons r t
 |_,_,i+1,.cons q t=>.cons q (Vals.set r i t)
theorem Vals.append:∀{xs ys:Wp V} {us ws:Wp kL},Vals xs us->Vals ys ws->Vals (xs++ys) (us++ws)
 |_,_,_,_,.nil,s=>s
 |_,_,_,_,.cons r t,s=>.cons r (Vals.append t s)
theorem Vals.take:∀{xs:Wp V} {us:Wp kL} (n:Nat),Vals xs us->Vals (xs.take n) (us.take n)
 |_,_,0,_=>.nil
 |_,_,_+1,.nil=>.nil
 |_,_,n+1,.cons r t=>.cons r (Vals.take n t)
theorem Vals.drop:∀{xs:Wp V} {us:Wp kL} (n:Nat),Vals xs us->Vals (xs.drop n) (us.drop n)
 |_,_,0,r=>r
 |_,_,_+1,.nil=>.nil
 |_,_,n+1,.cons _ t=>Vals.drop n t
def Ww:kN V->kN kL->Prop
 |some v,Gc u=>RelV v u
 |none,none=>uL
 |_,_=>pQ
def KV{κ:Type}:Wp (κ×V)->Wp (κ×kL)->Prop:=Paired λ(p:κ×V) (q:κ×kL)=>p.1=q.1/\RelV p.2 q.2
noncomputable def kV:Key->V
 | .inl i=>.int i
 | .inr x=>.str x
inductive HO where
 |lst (xs:Wp V)
 |tup (xs:Wp V)
 |dK (kvs:Wp (Key×V))|dT (kvs:Wp (Wp Key×V))
 |set (S:Int->lM) (n:Nat)
 |ins (C dx:kQ) (fs:Wp (Str×V))
 |own (x:kQ)
 |xd (fs:Wp (Str×V))
 |met (f x:kQ)
 |rng (lo hi:Int)
 |frz (o:Obj) (u:HO)
 |tbl (ps:lE kL)
 |ext (φ:lP->Prop)
abbrev Hp:=kQ->kN HO
noncomputable def upd(H:Hp)(a:kQ)(o:HO):Hp:=λb=>if b=a then Gc o else H b
theorem A1{H:Hp}{a:kQ}{o:HO}:upd H a o a=Gc o:=by unfold upd;rw[lF rfl]
theorem Ae{H:Hp}{a b:kQ}{o:HO}(h:b≠a):upd H a o b=H b:=by unfold upd;rw[lJ h]
theorem BN{H:Hp}{a b:kQ}{o:HO}(h:H a=Gc o)(h':H b=none):a≠b:=by
 intro e;subst e;rw[h]at h';cases h'
section
variable(P:k8)(w:lO)
def Dw(H:Hp)(h:lP)(a:kQ):HO->Prop
 | .lst xs=>xs.length<=sizeLine/\∃(its:Wp kL) (n:Nat),Vals xs its/\h.get? a=Gc {cls:=.type "list",data:=.seq its.toArray n}
 | .tup xs=>xs.length<=sizeLine/\∃its:Wp kL,Vals xs its/\z7 h a its.toArray
 | .dK kvs=>kvs.length<=sizeLine/\(a==sysModules)=false/\∃vs,KV kvs vs/\h.DictOf (Co P w) a vs
 | .dT kvs=>kvs.length<=sizeLine/\(a==sysModules)=false/\∃xs:Wp (Wp Key×kQ×kL),
    Paired (λ(p:Wp Key×V) (q:Wp Key×kQ×kL)=>p.1=q.1/\H q.2.1=Gc (.tup (p.1.map kV))/\RelV p.2 q.2.2) kvs xs/\
    ∃o es ep,h.get? a=Gc o/\o.ExactDict/\o.data=.dict es ep/\es.toList=xs.map (entryOfKey (tupleKind (Co P w)))/\(xs.map (·.1)).Nodup
 | .set S n=>h.SetOf (intKind P w) a S n
 | .ins C dx fs=>H dx=Gc (.own a)/\fs.length<=1000/\dx≠a/\h.get? a=Gc (tw C dx)/\
    ∃mA,h.Ns1 dx mA/\(∀f,Ww (fs.lookup f) (mA f))/\yl mA (fs.map (·.1))
 | .own _=>∃o,h.get? a=Gc o
 | .xd fs=>∃mA,h.Ns1 a mA/\∀f,Ww (fs.lookup f) (mA f)
 | .rng lo hi=>∃t u v,h.get? a=Gc {cls:=.type "range",data:=.fields #[.int lo t,.int hi u,.int 1 v]}
 | .frz o u=>h.get? a=Gc o/\Dw H h a u
 | .tbl ps=>h.get? a=Gc {cls:=.none,data:=.fields ps}
 | .met f x=>h.get? a=Gc (sN (.ref f) (.ref x))
 | .ext φ=>φ h/\(∃o,h.get? a=Gc o)/\∀h1 h2:lP,φ h1->(∀o,h1.get? a=Gc o->h2.get? a=Gc o)->φ h2
def HOk(H:Hp)(h:lP):Prop:=∀a o,H a=Gc o->Dw P w H h a o
end
section
variable{P:k8}{w:lO}{H H':Hp}{h h':lP}{a:kQ}{o:HO}
theorem Dw.lt(x:Dw P w H h a o):a<h.objs.size:=by
 cases o with
 |lst xs=>obtain⟨_,_,_,_,e⟩:=x;exact kf e
 |tup xs=>obtain⟨_,_,_,p⟩:=x;exact p.lt
 |dK kvs=>obtain⟨_,_,_,_,o,_,_,e,_⟩:=x;exact kf e
 |dT kvs=>obtain⟨_,_,_,_,o,_,_,e,_⟩:=x;exact kf e
 |set S n=>obtain⟨o,_,_,_,e,_⟩:=x;exact kf e
 |ins C dx fs=>obtain⟨_,_,_,e,_⟩:=x;exact kf e
 |own y=>obtain⟨_,e⟩:=x;exact kf e
 |xd fs=>obtain⟨_,⟨_,_,_,e,_⟩,_⟩:=x;exact kf e
 |rng lo hi=>obtain⟨_,_,_,e⟩:=x;exact kf e
 |frz ob u=>obtain⟨e,_⟩:=x;exact kf e
 |tbl ps=>exact kf (show h.get? a=Gc _ from x)
 |met f y=>exact kf (show h.get? a=Gc _ from x)
 |ext φ=>obtain⟨_,⟨_,e⟩,_⟩:=x;exact kf e
theorem Paired.gW{α β:Type}{F G:α->β->Prop}:∀{l₁:Wp α} {l₂:Wp β},Paired F l₁ l₂->(∀a b,F a b->G a b)->Paired G l₁ l₂
 |_,_,.nil,_=>.nil
 |_,_,.cons r t,f=>.cons (f _ _ r) (Paired.gW t f)
theorem Dw.Wa(x:Dw P w H h a o)(k:∀b u,(b=a\/H b=Gc (.own a))->h.get? b=Gc u->h'.get? b=Gc u)(ho:∀b,H b=Gc (.own a)->H' b=Gc (.own a))(ht:∀b xs,H b=Gc (.tup xs)->H' b=Gc (.tup xs)):Dw P w H' h' a o:=by
 induction o with
 |lst xs=>obtain⟨z,its,n,r,e⟩:=x;exact⟨z,its,n,r,k _ _ (.inl rfl) e⟩
 |tup xs=>obtain⟨z,its,r,ob,e,c⟩:=x;exact⟨z,its,r,ob,k _ _ (.inl rfl) e,c⟩
 |dK kvs=>obtain⟨z,y,vs,r,ob,es,ep,e,c⟩:=x;exact⟨z,y,vs,r,ob,es,ep,k _ _ (.inl rfl) e,c⟩
 |dT kvs=>
  obtain⟨z,y,xs,r,ob,es,ep,e,c⟩:=x
  exact⟨z,y,xs,Paired.gW r λp q z=>⟨z.1,ht _ _ z.2.1,z.2.2⟩,ob,es,ep,k _ _ (.inl rfl) e,c⟩
 |set S n=>obtain⟨ob,es,ep,t,e,c⟩:=x;exact⟨ob,es,ep,t,k _ _ (.inl rfl) e,c⟩
 |ins C dx fs=>
  obtain⟨d,z,ne,e,mA,⟨od,es,ep,e2,c⟩,r⟩:=x
  exact⟨ho _ d,z,ne,k _ _ (.inl rfl) e,mA,⟨od,es,ep,k _ _ (.inr d) e2,c⟩,r⟩
 |own y=>obtain⟨ob,e⟩:=x;exact⟨ob,k _ _ (.inl rfl) e⟩
 |xd fs=>obtain⟨mA,⟨od,es,ep,e,c⟩,r⟩:=x;exact⟨mA,⟨od,es,ep,k _ _ (.inl rfl) e,c⟩,r⟩
 |rng lo hi=>obtain⟨t,u,v,e⟩:=x;exact⟨t,u,v,k _ _ (.inl rfl) e⟩
 |frz ob u ih=>obtain⟨e,q⟩:=x;exact⟨k _ _ (.inl rfl) e,ih q⟩
 |tbl ps=>
  have e:h.get? a=Gc {cls:=.none,data:=.fields ps}:=x
  show h'.get? a=Gc {cls:=.none,data:=.fields ps}
  exact k a _ (.inl rfl) e
 |met f y=>
  have e:h.get? a=Gc (sN (.ref f) (.ref y)):=x
  show h'.get? a=Gc (sN (.ref f) (.ref y))
  exact k a _ (.inl rfl) e
 |ext φ=>obtain⟨p,⟨o,e⟩,st⟩:=x;exact⟨st _ _ p λo q=>k _ _ (.inl rfl) q,⟨o,k _ _ (.inl rfl) e⟩,st⟩
theorem HOk.lt(x:HOk P w H h)(e:H a=Gc o):a<h.objs.size:=(x a o e).lt
theorem HOk.fresh(x:HOk P w H h)(e:h.objs.size<=a):H a=none:=by
 cases q:H a with
 |none=>rfl
 |some u=>exact absurd (kT (x.lt q) e) (nC _)
theorem HOk.kept(x:HOk P w H h)(k:∀b u,h.get? b=Gc u->h'.get? b=Gc u):HOk P w H h':=λa o e=>
 (x a o e).Wa (λb u _ q=>k b u q) (λ_ q=>q) λ_ _ q=>q
theorem HOk.laid(x:HOk P w H h)(k:∀b u,h.get? b=Gc u->h'.get? b=Gc u)(hp:h.objs.size<=a)(new:Dw P w (upd H a o) h' a o):HOk P w (upd H a o) h':=λb u e=>by
 have hn:=x.fresh hp
 by_cases hb:b=a
 .subst hb;rw[A1]at e;cases e;exact new
 .rw[Ae hb]at e
  exact(x b u e).Wa (λc v _ q=>k c v q) (λc q=>by rw[Ae (BN q hn)];exact q) λc xs q=>by rw[Ae (BN q hn)];exact q
end
def Rd(H:Hp)(a:kQ)(u:HO):Prop:=H a=Gc u\/∃o,H a=Gc (.frz o u)
theorem Rd.ok{P:k8}{w:lO}{H:Hp}{h:lP}{a:kQ}{u:HO}(r:Rd H a u)(x:HOk P w H h):Dw P w H h a u:=by
 rcases r with r|⟨o,r⟩
 .exact x a u r
 .obtain⟨_,q⟩:=x a _ r
  exact q
def Mut:kN HO->Prop
 |some (.lst _)=>uL
 |some (.dK _)=>uL
 |some (.dT _)=>uL
 |some (.set _ _)=>uL
 |some (.ins _ _ _)=>uL
 |some (.ext _)=>uL
 |_=>pQ
section
variable{P:k8}{w:lO}{H:Hp}{h h':lP}{x e:kQ}{o':HO}
theorem HOk.write(ok:HOk P w H h)(mu:Mut (H x))(he:e=x\/H e=Gc (.own x))(k:∀b u,b≠e->h.get? b=Gc u->h'.get? b=Gc u)(heo:∃u,h'.get? e=Gc u)(new:Dw P w (upd H x o') h' x o'):HOk P w (upd H x o') h':=λb u q=>by
 have nown:∀c y,H c=Gc (.own y)->c≠x:=λc y r z=>by subst z;rw[r]at mu;exact mu
 have ntup:∀c xs,H c=Gc (.tup xs)->c≠x:=λc xs r z=>by subst z;rw[r]at mu;exact mu
 by_cases hb:b=x
 .subst hb;rw[A1]at q;cases q;exact new
 .rw[Ae hb]at q
  by_cases hbe:b=e
  .have q':H b=Gc (.own x):=by
    rcases he with z|z
    .exact absurd (hbe.trans z) hb
    .rw[hbe];exact z
   rw[q]at q';cases q'
   obtain⟨v,hv⟩:=heo
   exact⟨v,by rw[hbe];exact hv⟩
  .refine(ok b u q).Wa (λc v hc r=>k c v ?_ r) (λc r=>by rw[Ae (nown c b r)];exact r) λc xs r=>by rw[Ae (ntup c xs r)];exact r
   rcases hc with rfl|hc
   .exact hbe
   .rintro rfl
    rcases he with z|z
    .exact nown c b hc z
    .rw[hc]at z;cases z;exact hb rfl
end
structure Un(fs ex:Wp kQ)(H H':Hp)(h h':lP):Prop where
 keep:∀b o,h.get? b=Gc o->H b=none->b∉fs->b∉ex->h'.get? b=Gc o
 slot:∀b o,h.get? b=Gc o->H b=none->b∈fs->b∉ex->∃sl,h'.get? b=Gc {o with slots:=sl}
 free:∀b o,h.get? b=Gc o->H b=none->b∉ex->H' b=none
 there:∀b o,h.get? b=Gc o->b∉ex->∃o',h'.get? b=Gc o'
 WY:∀b xs,H b=Gc (.tup xs)->H' b=Gc (.tup xs)
 UO:∀b o u,H b=Gc (.frz o u)->H' b=Gc (.frz o u)
 Wz:∀b ps,H b=Gc (.tbl ps)->∃more,H' b=Gc (.tbl (ps++more))
section
variable{fs fs' ex ex':Wp kQ}{H H1 H2:Hp}{h h1 h2 h':lP}{a x e:kQ}{o:HO}
theorem Un.any(u:Un fs ex H H1 h h1){b:kQ}{ob:Obj}(q:h.get? b=Gc ob)(n:H b=none)(hx:b∉ex):∃sl,h1.get? b=Gc {ob with slots:=sl}:=by
 by_cases hb:b∈fs
 .exact u.slot b ob q n hb hx
 .exact⟨ob.slots,u.keep b ob q n hb hx⟩
theorem Un.kept(k:∀b u,h.get? b=Gc u->h'.get? b=Gc u):Un fs ex H H h h':=
 ⟨λb ob q _ _ _=>k b ob q,λb ob q _ _ _=>⟨ob.slots,k b ob q⟩,λ_ _ _ n _=>n,λb ob q _=>⟨ob,k b ob q⟩,λ_ _ q=>q,λ_ _ _ q=>q,λ_ ps q=>⟨#[],by rw[q];simp⟩⟩
theorem Un.refl:Un fs ex H H h h:=Un.kept λ_ _ q=>q
theorem Un.laid(k:∀b u,h.get? b=Gc u->h'.get? b=Gc u)(hp:h.objs.size<=a)(hn:H a=none):Un fs ex H (upd H a o) h h' where
 keep:=λb u q _ _ _=>k b u q
 slot:=λb u q _ _ _=>⟨u.slots,k b u q⟩
 free:=λb u q n _=>by rw[Ae (ki (kT (kf q) hp))];exact n
 there:=λb u q _=>⟨u,k b u q⟩
 WY:=λb xs q=>by rw[Ae (BN q hn)];exact q
 UO:=λb u xs q=>by rw[Ae (BN q hn)];exact q
 Wz:=λb ps q=>⟨#[],by rw[Ae (BN q hn),q];simp⟩
theorem Un.write(mu:Mut (H x))(he:e=x\/H e=Gc (.own x))(k:∀b u,b≠e->h.get? b=Gc u->h'.get? b=Gc u)(heo:∃u,h'.get? e=Gc u):Un fs ex H (upd H x o) h h':=by
 have hx:∀b,H b=none->b≠x:=λb n z=>by subst z;rw[n]at mu;exact mu
 have hb:∀b,H b=none->b≠e:=λb n z=>by
  subst z
  rcases he with r|r
  .exact hx b n r
  .rw[n]at r;cases r
 have hm:∀b u,H b=Gc u->¬Mut (Gc u)->b≠x:=λb u q nm z=>by subst z;rw[q]at mu;exact nm mu
 refine⟨λb u q n _ _=>k b u (hb b n) q,λb u q n _ _=>⟨u.slots,k b u (hb b n) q⟩,λb u q n _=>by rw[Ae (hx b n)];exact n,λb u q _=>?_,
  λb xs q=>by rw[Ae (hm b _ q λz=>z)];exact q,λb u xs q=>by rw[Ae (hm b _ q λz=>z)];exact q,λb ps q=>⟨#[],by rw[Ae (hm b _ q λz=>z),q];simp⟩⟩
 by_cases hbe:b=e
 .subst hbe;exact heo
 .exact⟨u,k b u hbe q⟩
end
noncomputable def trk(h:lP)(H:Hp):Wp kQ:=(lT h.objs.size).filter λa=>(H a).isSome
noncomputable def UZ(h:lP)(H:Hp):lP:=PySem.W.hideAll h (trk h H)
theorem Rn(h:lP)(H:Hp):(UZ h H).objs.size=h.objs.size:=PySem.W.hideAll_size _ _
theorem WB{h:lP}{H:Hp}{b:kQ}{o:Obj}(e:h.get? b=Gc o)(n:H b=none):(UZ h H).get? b=Gc o:=
 PySem.W.hideAll_get _ e λhm=>by
  have q:(H b).isSome=true:=(nH.mp hm).2
  rw[n]at q;simp at q
theorem Y3{h:lP}{H:Hp}{b:kQ}{o:Obj}(e:(UZ h H).get? b=Gc o):h.get? b=Gc o/\H b=none:=by
 have e':h.get? b=Gc o:=PySem.W.of_hideAll (trk h H) e
 refine⟨e',?_⟩
 cases q:H b with
 |none=>rfl
 |some x=>
  have hm:b∈trk h H:=nH.mpr ⟨oq.mpr (kf e'),by simp[q]⟩
  have z:(UZ h H).get? b=none:=PySem.W.hideAll_none (trk h H) hm
  rw[z]at e;cases e
noncomputable def YS(g h:lP)(L:kQ):Wp (kQ×Obj):=(lT h.objs.size).filterMap λa=>if a=L\/(g.get? a).isSome=true then none else(h.get? a).map λo=>(a,o)
noncomputable def rest(g h:lP)(L d:kQ):Wp (kQ×Obj):=(YS g h L).filter λp=>decide (p.1≠d)
end L2
namespace L2
open PySem PySem.Spec PyProof.Rows
structure Mod(K:kJ)(mg:Str->kN kL)(base:lP):Prop where
 kin:K.In base
 glob:base.Ns mainGlobals mg
 blt:∃mb,base.Ns builtinsNs mb/\∀x:Str,x≠ "__name__"->mb x=bootBuiltins x
 nolimit:base.NoLimit
structure Cx where
 prog:k8
 w:lO
 K:kJ
 mg:Str->kN kL
 base:lP
 A:lV
 N:Wp Str
 s₀:kM
 H₀:Hp
 env:Env
 outer:Wp Env
 stack:Wp Env
 ex:Wp kQ
 fn:Str->lM
 calm:lM
 pn:Wp (kQ×Obj)
 xe:kL->kM->Prop
noncomputable def frs(l:Wp Env):Wp kQ:=l.filterMap (·.frame)
abbrev Cx.fs(X:Cx):Wp kQ:=frs X.outer
def Vis(sc:nR)(x:Str):Prop:=sc.names.lookup x=Gc .local\/sc.names.lookup x=Gc .cell\/sc.names.lookup x=Gc .free
def Loc(sc:nR)(x:Str):Prop:=sc.names.lookup x=Gc .local\/sc.names.lookup x=Gc .cell
def Look(env:Env)(h:lP)(m:Str->kN kL)(x:Str)(u:kL):Prop:=
 (env.kindOf x=Gc .local/\m x=Gc u)\/((env.kindOf x=Gc .cell\/env.kindOf x=Gc .free)/\∃c,env.cells.lookup x=Gc c/\h.IsCell c (Gc u))
structure Cx.Ok(X:Cx):Prop where
 mod:Mod X.K X.mg X.base
 kind:X.env.scope.kind=.function
 glob:X.env.globals=mainGlobals
 blt:X.env.builtins=builtinsNs
 above:X.s₀.heap.objs.size<=X.env.locals
 inj:∀x y c,X.env.cells.lookup x=Gc c->X.env.cells.lookup y=Gc c->x=y
 has:∀x,(X.env.kindOf x=Gc .cell\/X.env.kindOf x=Gc .free)->∃c,X.env.cells.lookup x=Gc c
 cab:∀x c,X.fn x=true->X.env.cells.lookup x=Gc c->X.s₀.heap.objs.size<=c
 hd:X.calm=true->X.A.handled=none
 frames:X.A.frames=Gc X.stack
 stk:X.stack=X.outer\/(X.stack=X.env::X.outer/\X.env.frame=Gc X.env.locals)
 exf:∀b∈X.ex,b≠X.env.locals/\∀x c,X.env.cells.lookup x=Gc c->c≠b
 bs:∀b o,X.base.get? b=Gc o->X.s₀.heap.get? b=Gc o/\X.H₀ b=none
 bsz:X.base.objs.size<=X.s₀.heap.objs.size
 YO:∀b o,X.base.get? b=Gc o->b∉X.ex
 Yl:∀b∈X.ex,b∉X.fs
 Rm:X.s₀.heap.FunFrames X.base X.outer
 frf:∀b∈X.fs,X.H₀ b=none
structure Inv(X:Cx)(pins:Wp (kQ×Obj))(σ:Wp (kN V))(H:Hp)(s:kM):Prop where
 ok:X.Ok
 os:s.os=X.s₀.os
 bare:sP s.gens
 base:Un X.fs X.ex X.H₀ H X.s₀.heap s.heap
 loc:∃m,s.heap.Ns X.env.locals m/\∀(i:Nat) (x:Str) (v:V),X.N[i]?=Gc x->σ[i]?=Gc (Gc v)->Vis X.env.scope x->∃u,RelV v u/\Look X.env s.heap m x u
 cell:∀x c,X.env.cells.lookup x=Gc c->∃v,s.heap.IsCell c v
 free:H X.env.locals=none
 K4:∀x c,X.env.cells.lookup x=Gc c->H c=none
 pin:∀p∈X.pn++pins,s.heap.get? p.1=Gc p.2/\H p.1=none/\p.1≠X.env.locals/\p.1∉X.fs/\∀v,p.2.data≠.cell v
 hok:HOk X.prog X.w H s.heap
 len:σ.length=X.N.length
section
variable{X:Cx}{pins:Wp (kQ×Obj)}{σ:Wp (kN V)}{H H':Hp}{s:kM}{h':lP}
theorem Cx.Ok.iq(ok:X.Ok){b:kQ}{o:Obj}(e:X.base.get? b=Gc o):b∉X.fs:=λhb=>by
 have:=(ok.Rm.mem hb).1
 rw[e]at this;cases this
theorem Inv.bs(I:Inv X pins σ H s):∀b o,X.base.get? b=Gc o->s.heap.get? b=Gc o/\H b=none:=λb o e=>
 ⟨I.base.keep b o (I.ok.bs b o e).1 (I.ok.bs b o e).2 (I.ok.iq e) (I.ok.YO b o e),I.base.free b o (I.ok.bs b o e).1 (I.ok.bs b o e).2 (I.ok.YO b o e)⟩
theorem Inv.bk(I:Inv X pins σ H s):∀b o,X.base.get? b=Gc o->s.heap.get? b=Gc o:=λb o e=>(I.bs b o e).1
theorem Inv.mod(I:Inv X pins σ H s):Mod X.K X.mg X.base:=I.ok.mod
theorem Inv.kIn(I:Inv X pins σ H s):X.K.In s.heap:=I.ok.mod.kin.keeps I.bk
theorem Inv.lt(I:Inv X pins σ H s):X.env.locals<s.heap.objs.size:=let⟨_,hn,_⟩:=I.loc;hn.lt
theorem Inv.sz(I:Inv X pins σ H s):X.s₀.heap.objs.size<=s.heap.objs.size:=kY I.ok.above (mx I.lt)
theorem Inv.jA(I:Inv X pins σ H s){a:kQ}(h:s.heap.objs.size<=a):a∉X.fs:=λhb=>by
 obtain⟨_,o,ho,_⟩:=I.ok.Rm.mem hb
 exact absurd (kT (kf ho) (kY I.sz h)) (nC _)
theorem Inv.cne(I:Inv X pins σ H s):∀x c,X.env.cells.lookup x=Gc c->c≠X.env.locals:=λx c e z=>by
 obtain⟨v,o,ho,hd⟩:=I.cell x c e
 obtain⟨m,⟨o',es,ep,ho',hd',_⟩,_⟩:=I.loc
 rw[z,ho']at ho;cases ho;rw[hd']at hd;cases hd
theorem Inv.Rm(I:Inv X pins σ H s):s.heap.FunFrames X.base X.outer:=by
 have all:∀(l:Wp Env),(∀b∈frs l,b∈X.fs)->X.s₀.heap.FunFrames X.base l->s.heap.FunFrames X.base l:=by
  intro l
  induction l with
  |nil=>intro _ _;trivial
  |cons env r ih=>
   intro hs hl
   obtain⟨hk,⟨L,o,hf,hn,ho,hd⟩,hr⟩:=hl
   have hL:L∈X.fs:=hs L (by unfold frs;rw[lD,hf];exact kc)
   obtain⟨sl,e⟩:=I.base.slot L o ho (I.ok.frf L hL) hL λz=>I.ok.Yl L z hL
   exact⟨hk,⟨L,_,hf,hn,e,hd⟩,ih (λb hb=>hs b (by unfold frs;rw[lD,hf];exact kU _ hb)) hr⟩
 exact all X.outer (λ_ hb=>hb) I.ok.Rm
theorem Inv.stack(I:Inv X pins σ H s):s.heap.FunFrames X.base X.stack:=by
 rcases I.ok.stk with e|⟨e,hf⟩
 .rw[e];exact I.Rm
 .rw[e]
  obtain⟨m,hn,_⟩:=I.loc
  refine .cons (by rw[I.ok.kind];decide) hf hn ?_ I.Rm
  exact Heap.get?_none_of_le (kY I.ok.bsz I.ok.above)
theorem Inv.Su(I:Inv X pins σ H s):∀b∈frs X.stack,b∈X.env.locals::X.fs:=λb hb=>by
 rcases I.ok.stk with e|⟨e,hf⟩
 .rw[e]at hb;exact kU _ hb
 .rw[e]at hb
  unfold frs at hb
  rw[lD,hf]at hb
  exact hb
theorem Inv.Qu(I:Inv X pins σ H s):∀b∈frs X.stack,H b=none:=λb hb=>by
 rcases kX.mp (I.Su b hb)with e|hb
 .rw[e];exact I.free
 .obtain⟨_,o,ho,_⟩:=I.ok.Rm.mem hb
  exact I.base.free b o ho (I.ok.frf b hb) λz=>I.ok.Yl b z hb
theorem Inv.step{g':lE xB}{t':Nat}{d':Drawn}{ch:Wp kQ}(I:Inv X pins σ H s)(hch:∀b∈ch,(b∈X.ex\/X.s₀.heap.objs.size<=b)/\b≠X.env.locals/\(∀x c,X.env.cells.lookup x=Gc c->c≠b)/\∀p∈X.pn++pins,p.1≠b)(keep:∀b o,b≠X.env.locals->b∉X.fs->b∉ch->s.heap.get? b=Gc o->H b=none->h'.get? b=Gc o)(slot:∀b o,b≠X.env.locals->b∈X.fs->b∉ch->s.heap.get? b=Gc o->H b=none->∃sl,h'.get? b=Gc {o with slots:=sl})(free:∀b o,b∉ch->s.heap.get? b=Gc o->H b=none->H' b=none)(there:∀b o,b∉ch->s.heap.get? b=Gc o->∃o',h'.get? b=Gc o')(WY:∀b xs,H b=Gc (.tup xs)->H' b=Gc (.tup xs))(UO:∀b o u,H b=Gc (.frz o u)->H' b=Gc (.frz o u))(Wz:∀b ps,H b=Gc (.tbl ps)->∃more,H' b=Gc (.tbl (ps++more)))(ns:∀m,s.heap.Ns X.env.locals m->h'.Ns X.env.locals m)(hok:HOk X.prog X.w H' h')(hg:sP g'):Inv X pins σ H' {s with heap:=h',gens:=g',drawn:=d',toks:=t'}:=by
 have neL:∀b o,X.s₀.heap.get? b=Gc o->b≠X.env.locals:=λb o e=>ki (kT (kf e) I.ok.above)
 have neC:∀b o,X.s₀.heap.get? b=Gc o->b∉X.ex->b∉ch:=λb o e hx hb=>by
  rcases(hch b hb).1 with z|z
  .exact hx z
  .exact absurd (kT (kf e) z) (nC _)
 have cellK:∀x c,X.env.cells.lookup x=Gc c->∀v,s.heap.IsCell c v->h'.IsCell c v:=λx c e v ⟨o,ho,hd⟩=>by
  have nch:c∉ch:=λz=>(hch c z).2.2.1 x c e rfl
  by_cases hc:c∈X.fs
  .obtain⟨sl,q⟩:=slot c o (I.cne x c e) hc nch ho (I.K4 x c e)
   exact⟨_,q,hd⟩
  .exact⟨o,keep c o (I.cne x c e) hc nch ho (I.K4 x c e),hd⟩
 refine⟨I.ok,I.os,hg,⟨λb o e n hb hx=>?_,λb o e n hb hx=>?_,λb o e n hx=>?_,λb o e hx=>?_,λb xs e=>WY b xs (I.base.WY b xs e),λb o xs e=>UO b o xs (I.base.UO b o xs e),λb ps e=>?_⟩,?_,λx c e=>?_,?_,λx c e=>?_,λp hp=>?_,hok,I.len⟩
 .exact keep b o (neL b o e) hb (neC b o e hx) (I.base.keep b o e n hb hx) (I.base.free b o e n hx)
 .obtain⟨sl,e1⟩:=I.base.slot b o e n hb hx
  obtain⟨sl',e2⟩:=slot b _ (neL b o e) hb (neC b o e hx) e1 (I.base.free b o e n hx)
  exact⟨sl',e2⟩
 .obtain⟨o',e1⟩:=I.base.there b o e hx
  exact free b o' (neC b o e hx) e1 (I.base.free b o e n hx)
 .obtain⟨o',e1⟩:=I.base.there b o e hx
  exact there b o' (neC b o e hx) e1
 .obtain⟨m1,e1⟩:=I.base.Wz b ps e
  obtain⟨m2,e2⟩:=Wz b _ e1
  exact⟨m1++m2,by rw[e2,Array.append_assoc]⟩
 .obtain⟨m,hn,hl⟩:=I.loc
  refine⟨m,ns m hn,λi x v e1 e2 e3=>?_⟩
  obtain⟨u,r,l⟩:=hl i x v e1 e2 e3
  refine⟨u,r,?_⟩
  rcases l with l|⟨k,c,e,z⟩
  .exact .inl l
  .exact .inr ⟨k,c,e,cellK x c e _ z⟩
 .obtain⟨v,z⟩:=I.cell x c e
  exact⟨v,cellK x c e v z⟩
 .obtain⟨m,⟨o,_,_,ho,_⟩,_⟩:=I.loc
  exact free _ o (λz=>(hch _ z).2.1 rfl) ho I.free
 .obtain⟨v,o,ho,hd⟩:=I.cell x c e
  exact free c o (λz=>(hch c z).2.2.1 x c e rfl) ho (I.K4 x c e)
 .obtain⟨e,n,ne,nf,d⟩:=I.pin p hp
  have nch:p.1∉ch:=λz=>(hch p.1 z).2.2.2 p hp rfl
  exact⟨keep p.1 p.2 ne nf nch e n,free p.1 p.2 nch e n,ne,nf,d⟩
theorem Inv.un{t':Nat}(I:Inv X pins σ H s)(u:Un X.fs [] H H' s.heap h')(hok:HOk X.prog X.w H' h'):Inv X pins σ H' {s with heap:=h',toks:=t'}:=by
 obtain⟨m,⟨o,es,ep,ho,r⟩,_⟩:=id I.loc
 obtain⟨sl,hL⟩:=u.any ho I.free (by simp)
 exact I.step (g':=s.gens) (d':=s.drawn) (ch:=[]) (λ_ z=>nomatch z) (λb o _ hb _ e n=>u.keep b o e n hb (by simp)) (λb o _ hb _ e n=>u.slot b o e n hb (by simp)) (λb o _ e n=>u.free b o e n (by simp)) (λb o _ e=>u.there b o e (by simp)) u.WY u.UO u.Wz (λm' hm=>by
  obtain⟨o',es',ep',ho',r'⟩:=hm
  rw[ho]at ho';cases ho'
  exact⟨_,es',ep',hL,r'⟩) hok I.bare
theorem Inv.call{g':lE xB}{t':Nat}{d':Drawn}{ch:Wp kQ}(I:Inv X pins σ H s)(u:Un (frs X.stack) ch H H' s.heap h')(hok:HOk X.prog X.w H' h')(hg:sP g')(hch:∀b∈ch,(b∈X.ex\/X.s₀.heap.objs.size<=b)/\b≠X.env.locals/\(∀x c,X.env.cells.lookup x=Gc c->c≠b)/\∀p∈X.pn++pins,p.1≠b):Inv X pins σ H' {s with heap:=h',gens:=g',drawn:=d',toks:=t'}:=by
 obtain⟨m,⟨o,es,ep,ho,r⟩,_⟩:=id I.loc
 obtain⟨sl,hL⟩:=u.any ho I.free λz=>(hch _ z).2.1 rfl
 exact I.step (ch:=ch) hch (λb o hL hb hc e n=>u.keep b o e n (λz=>(kX.mp (I.Su b z)).elim hL hb) hc) (λb o _ _ hc e n=>u.any e n hc) (λb o hc e n=>u.free b o e n hc) (λb o hc e=>u.there b o e hc) u.WY u.UO u.Wz (λm' hm=>by
  obtain⟨o',es',ep',ho',r'⟩:=hm
  rw[ho]at ho';cases ho'
  exact⟨_,es',ep',hL,r'⟩) hok hg
theorem Inv.turned{t':Nat}{it:kQ}(I:Inv X pins σ H s)(k:∀b o,b≠it->s.heap.get? b=Gc o->h'.get? b=Gc o)(hn:H it=none)(hL:it≠X.env.locals)(h1:it∈X.ex\/X.s₀.heap.objs.size<=it)(h2:∀x c,X.env.cells.lookup x=Gc c->c≠it)(h3:∀p∈X.pn++pins,p.1≠it):Inv X pins σ H {s with heap:=h',toks:=t'}:=by
 have nit:∀b u,H b=Gc u->b≠it:=λb u e z=>by rw[z,hn]at e;cases e
 refine I.step (g':=s.gens) (d':=s.drawn) (ch:=[it]) (λb hb=>?_) (λb o _ _ hc e _=>k b o (λz=>hc (by simp[z])) e) (λb o _ _ hc e _=>⟨o.slots,k b o (λz=>hc (by simp[z])) e⟩) (λ_ _ _ _ n=>n)
  (λb o hc e=>⟨o,k b o (λz=>hc (by simp[z])) e⟩) (λ_ _ e=>e) (λ_ _ _ e=>e) (λb ps e=>⟨#[],by rw[e];simp⟩) (λm hm=>?_) (λb u e=>?_) I.bare
 .have e:b=it:=by simpa using hb
  subst e
  exact⟨h1,hL,h2,h3⟩
 .obtain⟨o,es,ep,ho,r⟩:=hm
  exact⟨o,es,ep,k _ o (mR hL) ho,r⟩
 .refine(I.hok b u e).Wa (λc v hc q=>k c v ?_ q) (λ_ q=>q) λ_ _ q=>q
  rcases hc with z|z
  .rw[z];exact nit b u e
  .exact nit c _ z
theorem Inv.tok(I:Inv X pins σ H s)(t:Nat):Inv X pins σ H {s with toks:=t}:=I.un (h':=s.heap) (t':=t) Un.refl I.hok
theorem Inv.kept{t':Nat}(I:Inv X pins σ H s)(k:∀b u,s.heap.get? b=Gc u->h'.get? b=Gc u):Inv X pins σ H {s with heap:=h',toks:=t'}:=I.un (Un.kept k) (I.hok.kept k)
theorem Inv.laid{a:kQ}{o:HO}{t':Nat}(I:Inv X pins σ H s)(k:∀b u,s.heap.get? b=Gc u->h'.get? b=Gc u)(hp:s.heap.objs.size<=a)(new:Dw X.prog X.w (upd H a o) h' a o):Inv X pins σ (upd H a o) {s with heap:=h',toks:=t'}:=I.un (Un.laid k hp (I.hok.fresh hp)) (I.hok.laid k hp new)
theorem Inv.write{x e:kQ}{o:HO}{t':Nat}(I:Inv X pins σ H s)(mu:Mut (H x))(he:e=x\/H e=Gc (.own x))(k:∀b u,b≠e->s.heap.get? b=Gc u->h'.get? b=Gc u)(heo:∃u,h'.get? e=Gc u)(new:Dw X.prog X.w (upd H x o) h' x o):Inv X pins σ (upd H x o) {s with heap:=h',toks:=t'}:=I.un (Un.write mu he k heo) (I.hok.write mu he k heo new)
theorem Inv.SV{pins':Wp (kQ×Obj)}(I:Inv X pins σ H s)(h:∀p∈pins',s.heap.get? p.1=Gc p.2/\H p.1=none/\p.1≠X.env.locals/\p.1∉X.fs/\∀v,p.2.data≠.cell v):Inv X pins' σ H s:=
 ⟨I.ok,I.os,I.bare,I.base,I.loc,I.cell,I.free,I.K4,λp hp=>(k6.mp hp).elim (λz=>I.pin p (rB _ z)) (h p),I.hok,I.len⟩
theorem Pj{N:Wp Str}(hN:N.Nodup){i j:Nat}{x:Str}(a:N[i]?=Gc x)(b:N[j]?=Gc x):i=j:=by
 obtain⟨h1,e1⟩:=ke.mp a
 obtain⟨h2,e2⟩:=ke.mp b
 exact(ou hN).mp (e1.trans e2.symm)
theorem NO{M:yR}{A:lV}{E:kL->kM->Prop}{i:Nat}{x:Str}{v:V}{u:kL}{Q:Unit->kM->Prop}(I:Inv X pins σ H s)(hN:X.N.Nodup)(hi:X.N[i]?=Gc x)(hx:Loc X.env.scope x)(r:RelV v u)(h:∀s',Inv X pins (σ.set i (Gc v)) H s'->(∃a,nY a s.heap s'.heap/\(a=X.env.locals\/X.env.cells.lookup x=Gc a))->Q () s')(hf:X.fn x=true\/X.env.scope.names.lookup x=Gc .local:=by first|exact .inl rfl|exact .inr rfl|assumption):wpAny M A (storeName X.env x u) Q E s:=by
 obtain⟨m,hn,hl⟩:=id I.loc
 have hcls:(X.env.scope.kind== .class||(X.env.scope.kind== .module && X.env.locals !=X.env.globals))=false:=by rw[I.ok.kind];rfl
 have hiσ:i<σ.length:=by rw[I.len];exact(ke.mp hi).1
 have cne:=I.cne
 have tracked:∀{a:kQ} {h':lP},(∃o,s.heap.get? a=Gc o/\H a=none)->nY a s.heap h'->HOk X.prog X.w H h':=λ{a h'} ha hs b ob e=>by
  obtain⟨_,_,hfree⟩:=ha
  refine(I.hok b ob e).Wa (λc w' hc q=>(hs.2 c ?_).trans q) (λ_ q=>q) λ_ _ q=>q
  rintro rfl
  rcases hc with rfl|hc
  .rw[hfree]at e;cases e
  .rw[hfree]at hc;cases hc
 rcases hx with hk|hk
 .refine wpAny_storeName_local hk hn (λh' hn' hs=>?_) hcls
  obtain⟨oL,_,_,hoL,_⟩:=id hn
  refine h _ ⟨I.ok,I.os,I.bare,⟨λb o e n hb hx=>?_,λb o e n hb hx=>?_,I.base.free,λb o e hx=>?_,I.base.WY,I.base.UO,I.base.Wz⟩,⟨_,hn',λj y v' e1 e2 e3=>?_⟩,λy c e=>?_,I.free,I.K4,λp hp=>?_,tracked ⟨oL,hoL,I.free⟩ hs,by simpa using I.len⟩ ⟨_,hs,.inl rfl⟩
  .exact(hs.2 b (ki (kT (kf e) I.ok.above))).trans (I.base.keep b o e n hb hx)
  .obtain⟨sl,e1⟩:=I.base.slot b o e n hb hx
   exact⟨sl,(hs.2 b (ki (kT (kf e) I.ok.above))).trans e1⟩
  .obtain⟨o',e1⟩:=I.base.there b o e hx
   exact⟨o',(hs.2 b (ki (kT (kf e) I.ok.above))).trans e1⟩
  .by_cases hj:j=i
   .subst hj
    rw[hi]at e1;cases e1
    rw[ko hiσ]at e2
    cases e2
    exact⟨u,r,.inl ⟨hk,by simp⟩⟩
   .rw[kW (mR hj)]at e2
    obtain⟨u',r',q⟩:=hl j y v' e1 e2 e3
    refine⟨u',r',?_⟩
    rcases q with⟨k,e⟩|⟨k,c,e,z⟩
    .refine .inl ⟨k,?_⟩
     have:y≠x:=λe=>hj (Pj hN e1 (e▸hi))
     simp[this,e]
    .exact .inr ⟨k,c,e,z.sameBut hs (cne y c e)⟩
  .obtain⟨w',z⟩:=I.cell y c e
   exact⟨w',z.sameBut hs (cne y c e)⟩
  .obtain⟨e,n,ne,nf,d⟩:=I.pin p hp
   exact⟨(hs.2 p.1 ne).trans e,n,ne,nf,d⟩
 .have hfn:X.fn x=true:=by
   rcases hf with z|z
   .exact z
   .rw[z]at hk;cases hk
  obtain⟨c,hc⟩:=I.ok.has x (.inl hk)
  obtain⟨w',z⟩:=I.cell x c hc
  refine wpAny_storeName_cell I.ok.kind hk hc z (λh' hc' hs=>?_)
  obtain⟨oc,hoc,hocd⟩:=id z
  refine h {s with heap:=h'} ⟨I.ok,I.os,I.bare,⟨λb o e n hb hx=>?_,λb o e n hb hx=>?_,I.base.free,λb o e hx=>?_,I.base.WY,I.base.UO,I.base.Wz⟩,⟨m,hn.sameBut hs (mR (cne x c hc)),λj y v' e1 e2 e3=>?_⟩,λy c' e=>?_,I.free,I.K4,λp hp=>?_,tracked ⟨oc,hoc,I.K4 x c hc⟩ hs,by simpa using I.len⟩ ⟨c,hs,.inr hc⟩
  .exact(hs.2 b (ki (kT (kf e) (I.ok.cab x c hfn hc)))).trans (I.base.keep b o e n hb hx)
  .obtain⟨sl,e1⟩:=I.base.slot b o e n hb hx
   exact⟨sl,(hs.2 b (ki (kT (kf e) (I.ok.cab x c hfn hc)))).trans e1⟩
  .obtain⟨o',e1⟩:=I.base.there b o e hx
   exact⟨o',(hs.2 b (ki (kT (kf e) (I.ok.cab x c hfn hc)))).trans e1⟩
  .by_cases hj:j=i
   .subst hj
    rw[hi]at e1;cases e1
    rw[ko hiσ]at e2
    cases e2
    exact⟨u,r,.inr ⟨.inl hk,c,hc,hc'⟩⟩
   .rw[kW (mR hj)]at e2
    obtain⟨u',r',q⟩:=hl j y v' e1 e2 e3
    refine⟨u',r',?_⟩
    rcases q with q|⟨k,c',e,z'⟩
    .exact .inl q
    .refine .inr ⟨k,c',e,z'.sameBut hs ?_⟩
     rintro rfl
     exact hj (Pj hN e1 (I.ok.inj _ _ _ e hc▸hi))
  .by_cases hcc:c'=c
   .subst hcc;exact⟨_,hc'⟩
   .obtain⟨w2,z2⟩:=I.cell y c' e
    exact⟨w2,z2.sameBut hs hcc⟩
  .obtain⟨e,n,ne,nf,d⟩:=I.pin p hp
   refine⟨(hs.2 p.1 ?_).trans e,n,ne,nf,d⟩
   intro q
   rw[q,hoc]at e
   have q':oc=p.2:=mO e
   exact d w' (by rw[<-q'];exact hocd)
theorem Js{M:yR}{A:lV}{E:kL->kM->Prop}{i:Nat}{x:Str}{v:V}{u:kL}{Q:Unit->kM->Prop}(I:Inv X pins σ H s)(hN:X.N.Nodup)(hi:X.N[i]?=Gc x)(hx:Loc X.env.scope x)(r:RelV v u)(h:∀s',Inv X pins (σ.set i (Gc v)) H s'->Q () s')(hf:X.fn x=true\/X.env.scope.names.lookup x=Gc .local:=by first|exact .inl rfl|exact .inr rfl|assumption):wpAny M A (storeName X.env x u) Q E s:=
 NO I hN hi hx r (λs' I' _=>h s' I') hf
theorem Inv.az{s':kM}{ch:Wp kQ}(I:Inv X pins σ H s)(ho:s'.os=s.os)(u:Un (frs X.stack) ch H H' s.heap s'.heap)(hok:HOk X.prog X.w H' s'.heap)(hg:sP s'.gens)(hch:∀b∈ch,(b∈X.ex\/X.s₀.heap.objs.size<=b)/\b≠X.env.locals/\(∀x c,X.env.cells.lookup x=Gc c->c≠b)/\∀p∈X.pn++pins,p.1≠b):Inv X pins σ H' s':=by
 obtain⟨h',g',d',t',o'⟩:=s'
 have e:o'=s.os:=ho
 subst e
 exact I.call (g':=g') (t':=t') (d':=d') u hok hg hch
end
abbrev XK:=kL->kN kQ->Hp->Prop
abbrev St:=Wp (kN V)
abbrev VK:=V->Hp->Prop
abbrev TE:=St->Hp->VK->Prop
abbrev TT:=St->Hp->(lM->Hp->Prop)->Prop
abbrev TA:=St->Hp->(Wp V->Hp->Prop)->Prop
structure Ends where
 nx:St->Hp->Prop
 rt:VK
 bk:St->Hp->Prop:=λ_ _=>pQ
 ct:St->Hp->Prop:=λ_ _=>pQ
abbrev TS:=Ends->St->Hp->Prop
def EP(X:Cx)(pins:Wp (kQ×Obj))(σ:St)(Q:VK)(u:kL)(s':kM):Prop:=∃v H',Inv X pins σ H' s'/\RelV v u/\Q v H'
def TP(X:Cx)(pins:Wp (kQ×Obj))(σ:St)(Q:lM->Hp->Prop)(b:lM)(s':kM):Prop:=∃H',Inv X pins σ H' s'/\Q b H'
def AP(X:Cx)(pins:Wp (kQ×Obj))(σ:St)(Q:Wp V->Hp->Prop)(us:Wp kL)(s':kM):Prop:=∃vs H',Inv X pins σ H' s'/\Vals vs us/\Q vs H'
def SP(X:Cx)(pins:Wp (kQ×Obj))(D:Ends)(f:Flow)(s':kM):Prop:=
 match f with
 | .next=>∃σ' H',Inv X pins σ' H' s'/\D.nx σ' H'
 | .brk=>∃σ' H',Inv X pins σ' H' s'/\D.bk σ' H'
 | .cont=>∃σ' H',Inv X pins σ' H' s'/\D.ct σ' H'
 | .ret u=>∃v σ' H',Inv X pins σ' H' s'/\RelV v u/\D.rt v H'
def PE(X:Cx)(e:lH)(t:TE):Prop:=
 ∀(pins:Wp (kQ×Obj)) (s:kM) (σ:St) (H:Hp) (Q:VK),Inv X pins σ H s->t σ H Q->wpAny (model X.prog X.w) X.A (eval e X.env) (EP X pins σ Q) X.xe s
def PT(X:Cx)(e:lH)(t:TT):Prop:=
 ∀(pins:Wp (kQ×Obj)) (s:kM) (σ:St) (H:Hp) (Q:lM->Hp->Prop),Inv X pins σ H s->t σ H Q->wpAny (model X.prog X.w) X.A (isTrue e X.env (eval e X.env)) (TP X pins σ Q) X.xe s
def PW(X:Cx)(e:lH)(t:TT):Prop:=
 ∀(whole:Sem kL) (pins:Wp (kQ×Obj)) (s:kM) (σ:St) (H:Hp) (Q:lM->Hp->Prop),Inv X pins σ H s->t σ H Q->wpAny (model X.prog X.w) X.A (isTrue e X.env whole) (TP X pins σ Q) X.xe s
theorem PW.pt{X:Cx}{e:lH}{t:TT}(h:PW X e t):PT X e t:=h _
def PA(X:Cx)(es:Wp lH)(t:TA):Prop:=
 ∀(pos:Pos) (pins:Wp (kQ×Obj)) (s:kM) (σ:St) (H:Hp) (Q:Wp V->Hp->Prop),Inv X pins σ H s->t σ H Q->wpAny (model X.prog X.w) X.A (spliced (backTo pos (k9 es X.env))) (AP X pins σ Q) X.xe s
def PS(X:Cx)(st:mH)(t:TS):Prop:=
 ∀(pins:Wp (kQ×Obj)) (s:kM) (σ:St) (H:Hp) (D:Ends),Inv X pins σ H s->t D σ H->wpAny (model X.prog X.w) X.A (exec st X.env) (SP X pins D) X.xe s
def PSs(X:Cx)(st:Wp mH)(t:TS):Prop:=
 ∀(pins:Wp (kQ×Obj)) (s:kM) (σ:St) (H:Hp) (D:Ends),Inv X pins σ H s->t D σ H->wpAny (model X.prog X.w) X.A (execs st X.env) (SP X pins D) X.xe s
theorem thn{α:Type}{t:Sem α}{Q Q':α->kM->Prop}{M:yR}{A:lV}{E:kL->kM->Prop}{s:kM}(h:wpAny M A t Q E s)(hQ:∀a s,Q a s->Q' a s):wpAny M A t Q' E s:=rX h hQ λ_ _ x=>x
end L2
namespace L2
open PySem PySem.Spec PyProof.Rows
section
variable{X:Cx}
noncomputable def iC(i:Nat):TE:=λσ H Q=>∃v,σ[i]?=Gc (Gc v)/\Q v H
noncomputable def tC(v:V):TE:=λ_ H Q=>Q v H
theorem XZ{i:Nat}{x:Str}{pos:Pos}(hN:X.N[i]?=Gc x)(hv:Vis X.env.scope x)(hd:(x==("__debug__":Str))=false:=by decide)(hcd:(x==("__classdict__":Str))=false:=by decide):PE X (.Name x pos) (iC i):=by
 intro pins s σ H Q I h
 obtain⟨v,e,h⟩:=h
 obtain⟨m,hn,hl⟩:=I.loc
 obtain⟨u,r,l⟩:=hl i x v hN e hv
 have fin:EP X pins σ Q u s:=⟨v,H,I,r,h⟩
 rcases l with⟨hk,hm⟩|⟨hk,c,hc,hcell⟩
 .exact xC (wpAny_loadName_local I.ok.kind hk hn hm fin) hd
 .rcases hk with hk|hk
  .exact xC (wpAny_loadName_cell I.ok.kind hk hc hcell fin) hd
  .exact xC (wpAny_loadName_free I.ok.kind hk hc hcell fin hcd) hd
theorem Z7{i j pos}:PE X (.Constant (.int i) j pos) (tC (.int i)):=λ_ _ _ H _ I h=>wpAny_Constant_int ⟨.int i,H,I.tok _,⟨_,rfl⟩,h⟩
theorem fD{b j pos}:PE X (.Constant (.bool b) j pos) (tC (.bl b)):=λ_ _ _ H _ I h=>Constant_bool ⟨.bl b,H,I,rfl,h⟩
theorem bC{j pos}:PE X (.Constant .none j pos) (tC .non):=λ_ _ _ H _ I h=>Constant_none ⟨.non,H,I,rfl,h⟩
theorem bp{x j pos}:PE X (.Constant (.str x) j pos) (tC (.str x)):=λ_ _ _ H _ I h=>Calls.Constant_str ⟨.str x,H,I.tok _,⟨_,rfl⟩,h⟩
def Gl(X:Cx)(x:Str):Prop:=X.env.kindOf x=Gc .globalImplicit
theorem YG{E:kL->kM->Prop}{pins:Wp (kQ×Obj)}{s:kM}{σ:St}{H:Hp}{x:Str}{u:kL}{pos:Pos}{Q:kL->kM->Prop}(I:Inv X pins σ H s)(hg:Gl X x)(hm:X.mg x=Gc u)(h:Q u s)(hd:(x==("__debug__":Str))=false:=by decide):wpAny (model X.prog X.w) X.A (eval (.Name x pos) X.env) Q E s:=
 rY I.ok.kind hg (Calls.loadGlobal_global (by rw[I.ok.glob];exact I.mod.glob.keeps I.bk) hm h) hd
theorem JN{E:kL->kM->Prop}{pins:Wp (kQ×Obj)}{s:kM}{σ:St}{H:Hp}{x:Str}{u:kL}{pos:Pos}{Q:kL->kM->Prop}(I:Inv X pins σ H s)(hg:Gl X x)(hm:X.mg x=none)(hv:bootBuiltins x=Gc u)(h:Q u s)(hn:x≠ "__name__":=by decide)(hd:(x==("__debug__":Str))=false:=by decide):wpAny (model X.prog X.w) X.A (eval (.Name x pos) X.env) Q E s:=by
 obtain⟨mb,h1,h2⟩:=I.mod.blt
 exact rY I.ok.kind hg (Calls.loadGlobal_builtin (by rw[I.ok.glob];exact I.mod.glob.keeps I.bk) hm (by rw[I.ok.blt];exact h1.keeps I.bk) ((h2 x hn).trans hv) h) hd
theorem X2{x:Str}{v:V}{u:kL}{pos:Pos}(hg:Gl X x)(hm:X.mg x=none)(hv:bootBuiltins x=Gc u)(r:RelV v u)(hn:x≠ "__name__":=by decide)(hd:(x==("__debug__":Str))=false:=by decide):PE X (.Name x pos) (tC v):=
 λ_ _ _ H _ I h=>JN I hg hm hv ⟨v,H,I,r,h⟩ hn hd
variable{a b:lH}{ta tb:TE}{pos:Pos}
noncomputable def tB(t:TE):TT:=λσ H Q=>t σ H λx H1=>∃c,x=.bl c/\Q c H1
theorem aa{e:lH}{t:TE}(h:PE X e t)(he:∀whole,isTrue e X.env whole=(do let v<-whole;standAt e.pos;holding [v] (truthy v)):=by intro _;rfl):PT X e (tB t):=by
 intro pins s σ H Q I hw
 refine isTrue_plain (thn (h pins s σ H _ I hw) λv s1 ⟨x,H1,I1,r1,q1⟩=>?_) (he _)
 obtain⟨d,rfl,q⟩:=q1
 cases r1
 exact oR ⟨H1,I1,q⟩
variable{tA tB':TT}{rest:Wp lH}
noncomputable def iP(t u:TT):TT:=λσ H Q=>t σ H λc H1=>if c=true then u σ H1 Q else Q false H1
noncomputable def tOr(t u:TT):TT:=λσ H Q=>t σ H λc H1=>if c=true then Q true H1 else u σ H1 Q
noncomputable def ie(t:TT):TT:=λσ H Q=>t σ H λc H1=>Q (!c) H1
theorem YW(ha:PT X a tA):PW X (.BoolOp .And [a] pos) tA:=by
 intro wh pins s σ H Q I h
 refine isTrue_and (thn (ha pins s σ H Q I h) λc s1 e=>?_)
 cases c with
 |true=>exact isTrue_and_nil e
 |false=>exact e
theorem aj(ha:PT X a tA):PW X (.BoolOp .Or [a] pos) tA:=by
 intro wh pins s σ H Q I h
 refine isTrue_or (thn (ha pins s σ H Q I h) λc s1 e=>?_)
 cases c with
 |false=>exact isTrue_or_nil e
 |true=>exact e
theorem Z2(ha:PT X a tA)(hb:PW X (.BoolOp .And (b::rest) pos) tB'):PW X (.BoolOp .And (a::b::rest) pos) (iP tA tB'):=by
 intro wh pins s σ H Q I h
 refine isTrue_and (thn (ha pins s σ H _ I h) λc s1 ⟨H1,I1,q1⟩=>?_)
 cases c with
 |true=>exact hb wh pins s1 σ H1 Q I1 q1
 |false=>exact⟨H1,I1,q1⟩
theorem eW(ha:PT X a tA)(hb:PW X (.BoolOp .Or (b::rest) pos) tB'):PW X (.BoolOp .Or (a::b::rest) pos) (tOr tA tB'):=by
 intro wh pins s σ H Q I h
 refine isTrue_or (thn (ha pins s σ H _ I h) λc s1 ⟨H1,I1,q1⟩=>?_)
 cases c with
 |true=>exact⟨H1,I1,q1⟩
 |false=>exact hb wh pins s1 σ H1 Q I1 q1
theorem aV(ha:PT X a tA):PT X (.UnaryOp .Not a pos) (ie tA):=by
 intro pins s σ H Q I h
 exact isTrue_not (ha pins s σ H (λc H1=>Q (!c) H1) I h)
noncomputable def fH(ta tb:TE):TE:=λσ H Q=>ta σ H λx H1=>∃c,x=.bl c/\if c=true then tb σ H1 Q else Q (.bl false) H1
noncomputable def fP(ta:TE):TE:=λσ H Q=>ta σ H λx H1=>∃c,x=.bl c/\Q (.bl (!c)) H1
theorem Zc{op}{t:TE}(h:PE X a t):PE X (.BoolOp op [a] pos) t:=λpins s σ H Q I hw=>BoolOp_one (h pins s σ H Q I hw)
theorem bw(ha:PE X a ta)(hb:PE X (.BoolOp .And (b::rest) pos) tb):PE X (.BoolOp .And (a::b::rest) pos) (fH ta tb):=by
 intro pins s σ H Q I h
 refine BoolOp_and (thn (ha pins s σ H _ I h) λv s1 ⟨x,H1,I1,r1,q1⟩=>?_)
 obtain⟨c,rfl,q1⟩:=q1
 cases r1
 refine oR ?_
 cases c with
 |true=>exact hb pins s1 σ H1 Q I1 q1
 |false=>exact⟨.bl false,H1,I1,rfl,q1⟩
theorem Zo(ha:PE X a ta):PE X (.UnaryOp .Not a pos) (fP ta):=by
 intro pins s σ H Q I h
 refine UnaryOp_ (thn (ha pins s σ H _ I h) λv s1 ⟨x,H1,I1,r1,q1⟩=>?_)
 obtain⟨c,rfl,q1⟩:=q1
 cases r1
 exact not_of (oR ⟨.bl (!c),H1,I1,rfl,q1⟩)
noncomputable def tIf(t:TT)(ta tb:TE):TE:=λσ H Q=>t σ H λc H1=>if c=true then ta σ H1 Q else tb σ H1 Q
theorem WW{c:lH}(hc:PT X c tA)(ha:PE X a ta)(hb:PE X b tb):PE X (.IfExp c a b pos) (tIf tA ta tb):=by
 intro pins s σ H Q I h
 refine wpAny_IfExp (thn (hc pins s σ H _ I h) λd s1 ⟨H1,I1,q1⟩=>?_)
 cases d with
 |true=>exact ha pins s1 σ H1 Q I1 q1
 |false=>exact hb pins s1 σ H1 Q I1 q1
end
end L2
namespace L2
open PySem PySem.Spec PyProof.Rows
def SqL(K:kJ)(H:Hp)(a:kQ)(xs:Wp V):Prop:=
 Rd H a (.lst xs)∨
  ∃(o:Obj) (its:lE kL) (n:Nat),K.lookup a=Gc o/\o.cls=.type "list" /\o.dict=none/\o.data=.seq its n/\its.size<=sizeLine/\Vals xs its.toList
def SqT(K:kJ)(H:Hp)(a:kQ)(xs:Wp V):Prop:=
 Rd H a (.tup xs)∨
  ∃(o:Obj) (its:lE kL) (n:Nat),K.lookup a=Gc o/\o.cls=.type "tuple" /\o.data=.seq its n/\its.size<=sizeLine/\Vals xs its.toList
noncomputable def ji:kL->kN V
 | .none=>Gc .non
 | .bool b=>Gc (.bl b)
 | .int i _=>Gc (.int i)
 | .str x _=>Gc (.str x)
 | .bytes b _=>Gc (.byt b)
 | .float b _=>Gc (.flt b)
 | .ref a=>Gc (.ref a)
 | .type n=>Gc (.ty n)
 |_=>none
theorem RelV.abs{x:V}{u:kL}(r:RelV x u):ji u=Gc x:=by
 cases x with
 |non=>cases r;rfl
 |bl _=>cases r;rfl
 |int _=>obtain⟨t,rfl⟩:=r;rfl
 |str _=>obtain⟨t,rfl⟩:=r;rfl
 |byt _=>obtain⟨t,rfl⟩:=r;rfl
 |flt _=>obtain⟨t,rfl⟩:=r;rfl
 |ref _=>cases r;rfl
 |ty _=>cases r;rfl
theorem RelV.inj{x y:V}{u:kL}(r:RelV x u)(q:RelV y u):x=y:=mO (r.abs.symm.trans q.abs)
theorem Vals.inj:∀{xs ys:Wp V} {us:Wp kL},Vals xs us->Vals ys us->xs=ys
 |_,_,_,.nil,.nil=>rfl
 |_,_,_,.cons r t,.cons r' t'=>by rw[r.inj r',Vals.inj t t']
section
variable{X:Cx}{pins:Wp (kQ×Obj)}{σ:St}{H:Hp}{s:kM}{a:kQ}{xs ys:Wp V}
theorem SqL.of{K:kJ}(h:H a=Gc (.lst xs)):SqL K H a xs:=.inl (.inl h)
theorem SqT.of{K:kJ}(h:H a=Gc (.tup xs)):SqT K H a xs:=.inl (.inl h)
theorem Inv.list(I:Inv X pins σ H s)(h:SqL X.K H a xs):∃its:Wp kL,Vals xs its/\PlainL s.heap a its.toArray/\xs.length<=sizeLine:=by
 rcases h with h|⟨o,its,n,hk,hc,hd,hs,hz,r⟩
 .obtain⟨z,its,n,r,e⟩:=h.ok I.hok
  exact⟨its,r,⟨_,n,e,rfl,rfl,rfl⟩,z⟩
 .refine⟨its.toList,r,⟨o,n,I.kIn a o hk,hc,hd,by simpa using hs⟩,?_⟩
  have e:=r.length
  simp only[mJ]at e
  lia
theorem Inv.tuple(I:Inv X pins σ H s)(h:SqT X.K H a xs):∃its:Wp kL,Vals xs its/\z7 s.heap a its.toArray/\xs.length<=sizeLine:=by
 rcases h with h|⟨o,its,n,hk,hc,hs,hz,r⟩
 .obtain⟨z,its,r,p⟩:=h.ok I.hok
  exact⟨its,r,p,z⟩
 .refine⟨its.toList,r,⟨o,I.kIn a o hk,hc,n,by simpa using hs⟩,?_⟩
  have e:=r.length
  simp only[mJ]at e
  lia
theorem Inv.P5(I:Inv X pins σ H s)(h:SqL X.K H a xs)(h':SqL X.K H a ys):xs=ys:=by
 obtain⟨its,r,⟨o,n,e,_,_,d⟩,_⟩:=I.list h
 obtain⟨its',r',⟨o',n',e',_,_,d'⟩,_⟩:=I.list h'
 rw[e]at e';cases e'
 rw[d]at d'
 injection d' with d1 _
 have:its=its':=by simpa using congrArg ym d1
 subst this
 exact r.inj r'
theorem Inv.OI(I:Inv X pins σ H s)(h:SqT X.K H a xs)(h':SqT X.K H a ys):xs=ys:=by
 obtain⟨its,r,⟨o,e,_,n,d⟩,_⟩:=I.tuple h
 obtain⟨its',r',⟨o',e',_,n',d'⟩,_⟩:=I.tuple h'
 rw[e]at e';cases e'
 rw[d]at d'
 injection d' with d1 _
 have:its=its':=by simpa using congrArg ym d1
 subst this
 exact r.inj r'
end
abbrev Cx.Td(X:Cx)(E:kL->kM->Prop):Cx:={X with xe:=E}
abbrev Cx.nox(X:Cx):Cx:=X.Td λ_ _=>pQ
theorem Cx.Ok.Td{X:Cx}(ok:X.Ok)(E:kL->kM->Prop):(X.Td E).Ok:=
 ⟨ok.mod,ok.kind,ok.glob,ok.blt,ok.above,ok.inj,ok.has,ok.cab,ok.hd,ok.frames,ok.stk,ok.exf,ok.bs,ok.bsz,ok.YO,ok.Yl,ok.Rm,ok.frf⟩
theorem Cx.Ok.JG{X:Cx}{E:kL->kM->Prop}(ok:(X.Td E).Ok):X.Ok:=
 ⟨ok.mod,ok.kind,ok.glob,ok.blt,ok.above,ok.inj,ok.has,ok.cab,ok.hd,ok.frames,ok.stk,ok.exf,ok.bs,ok.bsz,ok.YO,ok.Yl,ok.Rm,ok.frf⟩
section
variable{X:Cx}{pins:Wp (kQ×Obj)}{σ:St}{H:Hp}{s:kM}{E:kL->kM->Prop}
theorem Inv.Td(I:Inv X pins σ H s)(E:kL->kM->Prop):Inv (X.Td E) pins σ H s:=⟨I.ok.Td E,I.os,I.bare,I.base,I.loc,I.cell,I.free,I.K4,I.pin,I.hok,I.len⟩
theorem Inv.JG(I:Inv (X.Td E) pins σ H s):Inv X pins σ H s:=⟨I.ok.JG,I.os,I.bare,I.base,I.loc,I.cell,I.free,I.K4,I.pin,I.hok,I.len⟩
theorem SP.JG{D:Ends}{f:Flow}{s':kM}(h:SP (X.Td E) pins D f s'):SP X pins D f s':=by
 cases f with
 |next=>obtain⟨σ',H',I,q⟩:=h;exact⟨σ',H',I.JG,q⟩
 |brk=>obtain⟨σ',H',I,q⟩:=h;exact⟨σ',H',I.JG,q⟩
 |cont=>obtain⟨σ',H',I,q⟩:=h;exact⟨σ',H',I.JG,q⟩
 |ret u=>obtain⟨v,σ',H',I,r,q⟩:=h;exact⟨v,σ',H',I.JG,r,q⟩
theorem PSs.nox{st:Wp mH}{t:TS}(h:PSs X.nox st t):PSs X st t:=λpins s σ H D I hw=>
 rX (h pins s σ H D (I.Td _) hw) (λ_ _ q=>q.JG) λ_ _ z=>pF z
end
section
variable{X:Cx}{st:mH}{rest:Wp mH}{t u:TS}{e:lH}{te:TE}{pos:Pos}
noncomputable def fJ:TS:=λD σ H=>D.nx σ H
noncomputable def jN(t u:TS):TS:=λD σ H=>t {D with nx:=u D} σ H
theorem ZJ:PSs X [] fJ:=λ_ _ σ H _ I h=>rJ ⟨σ,H,I,h⟩
theorem Vi(h1:PS X st t)(h2:PSs X rest u):PSs X (st::rest) (jN t u):=by
 intro pins s σ H D I h
 refine v8 (thn (h1 pins s σ H {D with nx:=u D} I h) λf s1 q=>?_)
 cases f with
 |next=>
  obtain⟨σ',H',I',q⟩:=q
  exact h2 pins s1 σ' H' D I' q
 |ret v=>exact q
 |brk=>exact q
 |cont=>exact q
theorem Yt(h1:PS X st t):PSs X [st] t:=by
 intro pins s σ H D I h
 refine v8 (thn (h1 pins s σ H D I h) λf s1 q=>?_)
 cases f with
 |next=>exact rJ q
 |ret v=>exact q
 |brk=>exact q
 |cont=>exact q
theorem Inv.quiet{pins:Wp (kQ×Obj)}{σ:St}{H:Hp}{s:kM}(I:Inv X pins σ H s):interactive X.env=false:=by simp[interactive,I.ok.kind]
noncomputable def eZ(te:TE):TS:=λD σ H=>te σ H λ_ H1=>D.nx σ H1
theorem Xr(he:PE X e te)(hs:swapsWith e none pos.line X.env=pure false:=by rfl):PS X (.Expr e pos) (eZ te):=by
 intro pins s σ H D I h
 exact wpAny_Expr_any (thn (he pins s σ H _ I h) λv s1 ⟨x,H1,I1,r1,q1⟩=>⟨σ,H1,I1,q1⟩) I.quiet hs
noncomputable def iS(te:TE):TS:=λD σ H=>te σ H D.rt
theorem ZW(he:PE X e te):PS X (.Return (Gc e) pos) (iS te):=by
 intro pins s σ H D I h
 exact wpAny_Return_some (thn (he pins s σ H _ I h) λv s1 ⟨x,H1,I1,r1,q1⟩=>⟨x,σ,H1,I1,r1,q1⟩)
noncomputable def iR(c:TT)(t u:TS):TS:=λD σ H=>c σ H λb H1=>if b=true then t D σ H1 else u D σ H1
theorem fe{c:lH}{a b:Wp mH}{tc:TT}(hc:PT X c tc)(ha:PSs X a t)(hb:PSs X b u):PS X (.If c a b pos) (iR tc t u):=by
 intro pins s σ H D I h
 refine wpAny_If (thn (hc pins s σ H _ I h) λd s1 ⟨H1,I1,q1⟩=>?_)
 cases d with
 |true=>exact ha pins s1 σ H1 D I1 q1
 |false=>exact hb pins s1 σ H1 D I1 q1
end
abbrev TG:=V->St->Hp->(St->Hp->Prop)->Prop
abbrev TGs:=Wp V->St->Hp->(St->Hp->Prop)->Prop
def PG(X:Cx)(target:lH)(t:TG):Prop:=
 ∀(pins:Wp (kQ×Obj)) (s:kM) (σ:St) (H:Hp) (v:V) (u:kL) (Q:St->Hp->Prop),Inv X pins σ H s->RelV v u->t v σ H Q->
  wpAny (model X.prog X.w) X.A (assign target X.env u) (λ_ s'=>∃σ' H',Inv X pins σ' H' s'/\Q σ' H') X.xe s
def PGs(X:Cx)(ts:Wp lH)(t:TGs):Prop:=
 ∀(pins:Wp (kQ×Obj)) (s:kM) (σ:St) (H:Hp) (vs:Wp V) (us:Wp kL) (Q:St->Hp->Prop),Inv X pins σ H s->Vals vs us->t vs σ H Q->
  wpAny (model X.prog X.w) X.A (assignInOrder ((assignEach ts X.env).map (·.2)) us) (λ_ s'=>∃σ' H',Inv X pins σ' H' s'/\Q σ' H') X.xe s
abbrev eU:=V->V->V->Hp->(Hp->Prop)->Prop
def iJ(X:Cx)(t:eU):Prop:=
 ∀(pins:Wp (kQ×Obj)) (s:kM) (σ:St) (H:Hp) (o i v:V) (ov iv u:kL) (Q:Hp->Prop),Inv X pins σ H s->RelV o ov->RelV i iv->RelV v u->t o i v H Q->
  wpAny (model X.prog X.w) X.A (setItem ov iv u) (λ_ s'=>∃H',Inv X pins σ H' s'/\Q H') X.xe s
section
variable{X:Cx}{pos:Pos}
noncomputable def Yx(i:Nat):TG:=λv σ H Q=>Q (σ.set i (Gc v)) H
theorem YF{i:Nat}{x:Str}(hN:X.N.Nodup)(hi:X.N[i]?=Gc x)(hx:Loc X.env.scope x)(hf:X.fn x=true\/X.env.scope.names.lookup x=Gc .local:=by first|exact .inl rfl|exact .inr rfl|assumption):PG X (.Name x pos) (Yx i):=by
 intro pins s σ H v u Q I r h
 exact vN (Js I hN hi hx r (λs' I'=>⟨_,H,I',h⟩) hf)
noncomputable def gz:TGs:=λvs σ H Q=>vs=[]/\Q σ H
noncomputable def ZX(t:TG)(u:TGs):TGs:=λvs σ H Q=>∃v r,vs=v::r/\t v σ H λσ' H'=>u r σ' H' Q
theorem Yn:PGs X [] gz:=by
 intro pins s σ H vs us Q I r h
 obtain⟨e,h⟩:=h
 subst e
 cases r
 exact vO ⟨σ,H,I,h⟩
theorem WD{e:lH}{es:Wp lH}{t:TG}{u:TGs}(h1:PG X e t)(h2:PGs X es u)(hs:(assignEach (e::es) X.env).map (·.2)=assign e X.env::(assignEach es X.env).map (·.2):=by rfl):PGs X (e::es) (ZX t u):=by
 intro pins s σ H vs us Q I r h
 obtain⟨v,vr,e1,h⟩:=h
 subst e1
 cases r with
 |cons r rr=>
  rw[hs]
  refine rZ (thn (h1 pins s σ H _ _ _ I r h) λ_ s1 ⟨σ1,H1,I1,q1⟩=>?_)
  exact h2 pins s1 σ1 H1 _ _ Q I1 rr q1
noncomputable def jf(K:kJ)(n:Nat)(t:TGs):TG:=λv σ H Q=>∃a xs,v=.ref a/\SqT K H a xs/\xs.length=n/\t xs σ H Q
theorem bq{es:Wp lH}{k:Nat}{t:TGs}{n:Nat}(hc:X.calm=true)(h:PGs X es t)(hn:(assignEach es X.env).length=n:=by rfl)(hst:(assignEach es X.env).findIdx? (·.1)=none:=by rfl):PG X (.Tuple es k pos) (jf X.K n t):=by
 intro pins s σ H v u Q I r hw
 obtain⟨a,xs,e1,hq,hl,hw⟩:=hw
 subst e1
 cases r
 obtain⟨its,rv,ht,hz⟩:=I.tuple hq
 refine assign_Tuple_tuple (I.ok.hd hc) ht (by simp[hn,<-hl,rv.length]) hst λh' hx=>?_
 have I1:Inv X pins σ H {s with heap:=h'}:=I.kept (t':=s.toks) λb o e=>hx b o (ki (kf e)) e
 exact h pins _ σ H xs _ Q I1 (by simpa using rv) hw
noncomputable def ic(to ti:TE)(t:eU):TG:=λv σ H Q=>to σ H λo H1=>ti σ H1 λi H2=>t o i v H2 λH3=>Q σ H3
theorem aY {o i : lH} {to ti : TE} {t : eU} (ho : PE X o to) (hi : PE X i ti) (hs : iJ X t) (ha : ∀ v, assign (.Subscript o i pos) X.env v = (do
      let ov ← holding [v] (eval o X.env)
      let iv ← holding [v, ov] (eval i X.env)
      standAt pos
      holding [v, ov, iv] (setItem ov iv v)
      release [v, ov, iv] []) := by intro _; rfl) : PG X (.Subscript o i pos) (ic to ti t) := by
  intro pins s σ H v u Q I r h
  rw [ha]
  refine kH (lh (thn (ho pins s σ H _ I h) fun ov s1 ⟨x, H1, I1, r1, q1⟩ => ?_))
  refine kH (lh (thn (hi pins s1 σ H1 _ I1 q1) fun iv s2 ⟨y, H2, I2, r2, q2⟩ => ?_))
  refine kH (nh (kH (lh (thn (hs pins s2 σ H2 x y v ov iv u _ I2 r1 r2 r q2) fun _ s3 ⟨H3, I3, q3⟩ => ?_))))
  exact wpAny_release ⟨σ, H3, I3, q3⟩
noncomputable def fw(te:TE)(g:TG):TS:=λD σ H=>te σ H λx H1=>g x σ H1 D.nx
theorem W0{tg e:lH}{te:TE}{g:TG}(he:PE X e te)(hg:PG X tg g)(hs:swapsWithSole [tg] e pos.line X.env=pure false:=by rfl)(hw:swappedStores [tg] e X.env=pure none:=by rfl)(h1:(assignEach [tg] X.env).map (·.2)=[assign tg X.env]:=by rfl):PS X (.Assign [tg] e pos) (fw te g):=by
 intro pins s σ H D I h
 refine wpAny_Assign_stores (thn (he pins s σ H _ I h) λv s1 ⟨x,H1,I1,r1,q1⟩=>?_) hs hw
 rw[h1]
 exact thn (hg pins s1 σ H1 x v _ I1 r1 q1) λ_ s2 q=>q
theorem aw{i:Nat}{x:Str}{e:lH}{te:TE}{pos':Pos}(hN:X.N.Nodup)(hi:X.N[i]?=Gc x)(hx:Loc X.env.scope x)(he:PE X e te)(hs:swapsWith e (Gc (.Name x pos')) pos.line X.env=pure false:=by rfl)(hf:X.fn x=true\/X.env.scope.names.lookup x=Gc .local:=by first|exact .inl rfl|exact .inr rfl|assumption):PS X (.Assign [.Name x pos'] e pos) (fw te (Yx i)):=by
 intro pins s σ H D I h
 refine wpAny_Assign_Name (thn (he pins s σ H _ I h) λv s1 ⟨y,H1,I1,r1,q1⟩=>?_) hs
 exact Js I1 hN hi hx r1 (λs2 I2=>⟨_,H1,I2,q1⟩) hf
noncomputable def jD(i j:Nat)(ta:TA):TS:=λD σ H=>ta σ H λvs H1=>∃v w,vs=[v,w]/\D.nx ((σ.set i (Gc v)).set j (Gc w)) H1
theorem b9{i j:Nat}{x y:Str}{a b:lH}{ta:TA}{px py pt:Pos}{kt k2 pt2}(hc:X.calm=true)(hN:X.N.Nodup)(hi:X.N[i]?=Gc x)(hj:X.N[j]?=Gc y)(hij:i≠j)(hx:X.env.scope.names.lookup x=Gc .local)(hy:X.env.scope.names.lookup y=Gc .local)(ha:PA X [a,b] ta)(hw:swappedStores [.Tuple [.Name x px,.Name y py] kt pt] (.Tuple [a,b] k2 pt2) X.env=pure (Gc [x,y]))(hs:swapsWithSole [.Tuple [.Name x px,.Name y py] kt pt] (.Tuple [a,b] k2 pt2) pos.line X.env=pure false:=by rfl):PS X (.Assign [.Tuple [.Name x px,.Name y py] kt pt] (.Tuple [a,b] k2 pt2) pos) (jD i j ta):=by
 intro pins s σ H D I h
 rw[exec_Assign_arm]
 refine kH (nh ?_)
 rw[hs]
 refine kH (kO ?_)
 rw[lJ (by decide)]
 refine kH (Tuple_ (thn (ha _ pins s σ H _ I h) λus s1 ⟨vs,H1,I1,r1,q1⟩=>?_))
 obtain⟨v,w,e1,q1⟩:=q1
 subst e1
 obtain⟨u1,u2,rfl,rv,rw'⟩:∃u1 u2,us=[u1,u2]/\RelV v u1/\RelV w u2:=by
  cases r1 with
  |cons p q=>
   cases q with
   |cons p' q'=>
    cases q'
    exact⟨_,_,rfl,p,p'⟩
 refine lu ?_ (by show 2<=sizeLine;decide)
 have I2:Inv X pins σ H1 {s1 with heap:=s1.heap.push {cls:=.type "tuple",data:=.seq [u1,u2].toArray}}:=I1.kept (t':=s1.toks) λb o e=>kK _ e
 rw[hw]
 refine kH (kO ?_)
 show wpAny (model X.prog X.w) X.A (do rule "assign.swapped-stores"; let items<-unpackItems (.ref s1.heap.objs.size) 2 none;assignInOrder [λv=>bindName X.env y v,λv=>bindName X.env x v] items.reverse;pure Flow.next) _ _ _
 refine kH (oZ (kH (unpackItems_tuple (items:= #[u1,u2]) (I.ok.hd hc) (qM s1.heap _) λh' hx'=>?_)))
 have I3:=I2.kept (h':=h') (t':=s1.toks) λb o e=>hx' b o (ki (kf e)) e
 show wpAny _ _ (assignInOrder [λv=>bindName X.env y v,λv=>bindName X.env x v] [u2,u1] >>= λ_=>pure Flow.next) _ _ _
 refine kH (rZ (xD (Js I3 hN hj (.inl hy) rw' (λs2 I4=>?_) (.inr hy))))
 refine rZ (xD (Js I4 hN hi (.inl hx) rv (λs3 I5=>vO (kO ?_)) (.inr hx)))
 rw[List.set_comm _ _ (mR hij)]at I5
 exact⟨_,H1,I5,q1⟩
end
section
variable{X:Cx}{pos:Pos}
noncomputable def ZZ(c:TT)(tb:TS):TS:=λD σ H=>∃W:Nat->St->Hp->Prop,(∃m,W m σ H)/\∀m σ H,W m σ H->
 c σ H λb H1=>if b=true then∃N:St->Hp->Prop,(∀σ' H',N σ' H'->∃m',m'<m/\W m' σ' H')/\tb {D with nx:=N,ct:=N,bk:=D.nx} σ H1 else D.nx σ H1
theorem Vc{c:lH}{body:Wp mH}{tc:TT}{tb:TS}(hp:v9 (model X.prog X.w) X.A X.env X.xe)(hc:PT X c tc)(hb:PSs X body tb):PS X (.While c body [] pos) (ZZ tc tb):=by
 intro pins s σ H D I h
 obtain⟨W,⟨m0,w0⟩,turn⟩:=h
 refine wpAny_While (codeAny_whileLoop (λn s'=>∃σ' H',Inv X pins σ' H' s'/\W n σ' H') ?_ m0 ⟨σ,H,I,w0⟩)
 rintro n s1 ⟨σ1,H1,I1,w1⟩
 refine oN hp (thn (hc pins s1 σ1 H1 _ I1 (turn n σ1 H1 w1)) λb s2 ⟨H2,I2,q2⟩=>?_)
 cases b with
 |true=>
  obtain⟨N,hN,q2⟩:=q2
  rw[lF rfl]
  refine oN hp (thn (hb pins s2 σ1 H2 _ I2 q2) λf s3 q3=>?_)
  cases f with
  |next=>
   obtain⟨σ3,H3,I3,n3⟩:=q3
   obtain⟨m',hm,w3⟩:=hN σ3 H3 n3
   exact⟨m',hm,σ3,H3,I3,w3⟩
  |cont=>
   obtain⟨σ3,H3,I3,n3⟩:=q3
   obtain⟨m',hm,w3⟩:=hN σ3 H3 n3
   exact⟨m',hm,σ3,H3,I3,w3⟩
  |brk=>exact q3
  |ret v=>exact q3
 |false=>
  rw[lJ l8]
  exact rJ ⟨σ1,H2,I2,q2⟩
end
structure It where
 go:Nat->Hp->Prop
 yld:Nat->Hp->V->Hp->Prop
 stop:Nat->Hp->Prop
def LW(X:Cx)(pins:Wp (kQ×Obj))(H:Hp)(b:kQ):Prop:=
 H b=none/\b≠X.env.locals/\b∉X.fs/\(b∈X.ex\/X.s₀.heap.objs.size<=b)/\(∀x c,X.env.cells.lookup x=Gc c->c≠b)/\∀p∈X.pn++pins,p.1≠b
theorem Inv.XC{X:Cx}{pins:Wp (kQ×Obj)}{σ:St}{H H':Hp}{s:kM}{b:kQ}(I:Inv X pins σ H s)(hb:s.heap.objs.size<=b)(hn:H' b=none):LW X pins H' b:=by
 refine⟨hn,qC (kT I.lt hb),I.jA hb,.inr (kY I.sz hb),λx c e z=>?_,λp hp z=>?_⟩
 .obtain⟨v,q⟩:=I.cell x c e
  exact absurd (kT q.lt (by rw[z];exact hb)) (nC _)
 .exact absurd (kT (kf (I.pin p hp).1) (by rw[z];exact hb)) (nC _)
structure Turn(P:k8)(w:lO)(K:kJ)(tg:lH)(J:It)(fp:Wp kQ)(it:kQ)(tn:Nat->lP->Prop):Prop where
 mem:it∈fp
 obj:∀i h,tn i h->∀b∈fp,∃o,h.get? b=Gc o/\∀v,o.data≠.cell v
 keep:∀i h h',tn i h->(∀b∈fp,∀o,h.get? b=Gc o->h'.get? b=Gc o)->tn i h'
 item:∀(X:Cx),X.prog=P->X.w=w->X.K=K->X.calm=true->∀(i:Nat) (pins:Wp (kQ×Obj)) (s:kM) (σ:St) (H:Hp) (E:kL->kM->Prop),Inv X pins σ H s->(∀b∈fp,LW X pins H b)->tn i s.heap->J.go i H->
  wpAny (model P w) X.A (pyNext (.ref it)) (λr s1=>∃u,r=Gc u/\
   wpAny (model P w) X.A (letOwnedTupleGo tg (.ref it) u) (λ_ s2=>∃x H',Inv X pins σ H' s2/\RelV x u/\J.yld i H x H'/\tn (i+1) s2.heap/\∀b∈fp,H' b=none) E s1) E s
 done:∀(X:Cx),X.prog=P->X.w=w->X.K=K->X.calm=true->∀(i:Nat) (pins:Wp (kQ×Obj)) (s:kM) (σ:St) (H:Hp) (E:kL->kM->Prop),Inv X pins σ H s->(∀b∈fp,LW X pins H b)->tn i s.heap->J.stop i H->
  wpAny (model P w) X.A (pyNext (.ref it)) (λr s1=>r=none/\Inv X pins σ H s1) E s
 self:∀(A:lV) (i:Nat) (s:kM) (Q:kL->kM->Prop) (E:kL->kM->Prop),tn i s.heap->Q (.ref it) s->wpAny (model P w) A (pyIter (.ref it)) Q E s
abbrev TI:=St->Hp->(It->Hp->Prop)->Prop
def PIE(X:Cx)(pins:Wp (kQ×Obj))(σ:St)(tg:lH)(R:It->Hp->Prop)(itv:kL)(s2:kM):Prop:=
 ∃(it:kQ) (fp:Wp kQ) (tn:Nat->lP->Prop) (J:It) (H':Hp),itv=.ref it/\Inv X pins σ H' s2/\Turn X.prog X.w X.K tg J fp it tn/\tn 0 s2.heap/\(∀b∈fp,LW X pins H' b)/\R J H'
def PI(X:Cx)(tg iter:lH)(wi:TI):Prop:=
 ∀(pins:Wp (kQ×Obj)) (s:kM) (σ:St) (H:Hp) (R:It->Hp->Prop),Inv X pins σ H s->wi σ H R->
  wpAny (model X.prog X.w) X.A (eval iter X.env) (λv s1=>wpAny (model X.prog X.w) X.A (pyIter v) (PIE X pins σ tg R) X.xe s1) X.xe s
theorem Y9{M:yR}{A:lV}{E:kL->kM->Prop}{s:kM}{tg:lH}{it:kQ}{u:kL}{o:Obj}{n:oY}{vs:lE kL}{Q:Unit->kM->Prop}(ho:s.heap.get? it=Gc o)(hc:o.cls=.type n)(hd:o.data=.fields vs)(hn:["enumerate","zip","dict_itemiterator","dict_reverseitemiterator","odict_iterator","itertools.zip_longest","itertools.pairwise"].contains n=false)(hQ:Q () s):wpAny M A (letOwnedTupleGo tg (.ref it) u) Q E s:=by
 unfold letOwnedTupleGo
 cases tg<;>first
  |exact kO hQ
  |(cases u<;>first
     |exact kO hQ
     |(refine kH (wpAny_load ho ?_)
       rw[hc,hd]
       show wpAny M A (if(["enumerate","zip","dict_itemiterator","dict_reverseitemiterator","odict_iterator","itertools.zip_longest","itertools.pairwise"].contains n && vs[0]?==Gc (rawInt _))=true then _ else _) Q E s
       rw[lJ (by intro h;rw[hn,uM]at h;cases h)]
       exact kO hQ))
noncomputable def Itl(K:kJ)(a:kQ):It:=
 ⟨λi H=>∃xs x,SqL K H a xs/\xs[i]?=Gc x,λi H x H'=>H'=H/\∀xs,SqL K H a xs->xs[i]?=Gc x,λi H=>∃xs,SqL K H a xs/\xs.length<=i⟩
noncomputable def Itt(K:kJ)(a:kQ):It:=
 ⟨λi H=>∃xs x,SqT K H a xs/\xs[i]?=Gc x,λi H x H'=>H'=H/\∀xs,SqT K H a xs->xs[i]?=Gc x,λi H=>∃xs,SqT K H a xs/\xs.length<=i⟩
noncomputable def Itr(lo:Int)(n:Nat):It:=⟨λi _=>i<n,λi H x H'=>H'=H/\x=.int (lo+i),λi _=>n<=i⟩
theorem RO{P:k8}{w:lO}{K:kJ}{tg:lH}(a it:kQ):Turn P w K tg (Itl K a) [it] it (λi h=>h.IsListIter it a i) where
 mem:=by simp
 obj:=λi h st b hb=>by
  have e:b=it:=by simpa using hb
  subst e
  obtain⟨o,e,c,d⟩:=st
  exact⟨o,e,λv z=>by rw[d]at z;cases z⟩
 keep:=λi h h' st k=>st.at λo e=>k it (by simp) o e
 item:=by
  intro X hP hw hK hc i pins s σ H E I hf st hg
  subst hP hw hK
  obtain⟨xs,x,hq,hx⟩:=hg
  obtain⟨its,rv,p,hz⟩:=I.list hq
  obtain⟨u,hu,ru⟩:=rv.get hx
  obtain⟨f0,f1,f2,f3,f4,f5⟩:=hf it (by simp)
  refine qf st p.isList (x:=u) (by simpa using hu) λh' st' sb=>?_
  have I1:Inv X pins σ H {s with heap:=h'}:=I.turned (t':=s.toks) (λb o hb e=>(sb.2 b hb).trans e) f0 f1 f3 f4 f5
  obtain⟨o,e,c,d⟩:=id st'
  exact⟨u,rfl,Y9 (s:={s with heap:=h'}) e c d (by decide) ⟨x,H,I1,ru,⟨rfl,λys hy=>by rw[I.P5 hy hq];exact hx⟩,st',λb hb=>(hf b hb).1⟩⟩
 done:=by
  intro X hP hw hK hc i pins s σ H E I hf st hg
  subst hP hw hK
  obtain⟨xs,hq,hx⟩:=hg
  obtain⟨its,rv,p,hz⟩:=I.list hq
  obtain⟨f0,f1,f2,f3,f4,f5⟩:=hf it (by simp)
  have hl:=rv.length
  exact qu (I.ok.hd hc) st p.isList (by simp;lia) λh' eb=>⟨rfl,I.turned (t':=s.toks) (λb o hb e=>eb b o hb e) f0 f1 f3 f4 f5⟩
 self:=λ_ _ _ _ _ st h=>uC st h
theorem QE{P:k8}{w:lO}{K:kJ}{tg:lH}(a it:kQ):Turn P w K tg (Itt K a) [it] it (λi h=>h.IsTupleIter it a i) where
 mem:=by simp
 obj:=λi h st b hb=>by
  have e:b=it:=by simpa using hb
  subst e
  obtain⟨o,e,c,d⟩:=st
  exact⟨o,e,λv z=>by rw[d]at z;cases z⟩
 keep:=λi h h' st k=>st.at λo e=>k it (by simp) o e
 item:=by
  intro X hP hw hK hc i pins s σ H E I hf st hg
  subst hP hw hK
  obtain⟨xs,x,hq,hx⟩:=hg
  obtain⟨its,rv,p,hz⟩:=I.tuple hq
  obtain⟨u,hu,ru⟩:=rv.get hx
  obtain⟨f0,f1,f2,f3,f4,f5⟩:=hf it (by simp)
  refine wpAny_pyNext_tuple_item st (show s.heap.IsTuple a its.toArray from p) (x:=u) (by simpa using hu) λh' st' sb=>?_
  have I1:Inv X pins σ H {s with heap:=h'}:=I.turned (t':=s.toks) (λb o hb e=>(sb.2 b hb).trans e) f0 f1 f3 f4 f5
  obtain⟨o,e,c,d⟩:=id st'
  exact⟨u,rfl,Y9 (s:={s with heap:=h'}) e c d (by decide) ⟨x,H,I1,ru,⟨rfl,λys hy=>by rw[I.OI hy hq];exact hx⟩,st',λb hb=>(hf b hb).1⟩⟩
 done:=by
  intro X hP hw hK hc i pins s σ H E I hf st hg
  subst hP hw hK
  obtain⟨xs,hq,hx⟩:=hg
  obtain⟨its,rv,p,hz⟩:=I.tuple hq
  obtain⟨f0,f1,f2,f3,f4,f5⟩:=hf it (by simp)
  have hl:=rv.length
  exact wpAny_pyNext_tuple_end (I.ok.hd hc) st (show s.heap.IsTuple a its.toArray from p) (by simp;lia) λh' eb=>⟨rfl,I.turned (t':=s.toks) (λb o hb e=>eb b o hb e) f0 f1 f3 f4 f5⟩
 self:=λ_ _ _ _ _ st h=>wpAny_pyIter_tupleiter st h
theorem QG{P:k8}{w:lO}{K:kJ}{tg:lH}(it:kQ)(lo:Int)(n:Nat):Turn P w K tg (Itr lo n) [it] it (λi h=>IsRangeIter h it (lo+(i:Nat)*1) ((n:Int)-(i:Nat)) 1) where
 mem:=by simp
 obj:=λi h st b hb=>by
  have e:b=it:=by simpa using hb
  subst e
  exact⟨_,st,λv z=>by
   have z':wW _=Data.cell v:=z
   cases z'⟩
 keep:=λi h h' st k=>k it (by simp) _ st
 item:=by
  intro X hP hw hK hc i pins s σ H E I hf st hg
  subst hP hw hK
  obtain⟨f0,f1,f2,f3,f4,f5⟩:=hf it (by simp)
  have W:=Walks.range (prog:=X.prog) (w:=X.w) (I.ok.hd hc) it lo 1 n
  refine W.item i s _ _ hg st λv h' tk hv st' kk=>?_
  obtain⟨t,rfl⟩:=hv
  have I1:Inv X pins σ H {s with heap:=h',toks:=tk}:=I.turned (λb o hb e=>kk b o (by simpa using hb) e) f0 f1 f3 f4 f5
  refine⟨_,rfl,Y9 (s:={s with heap:=h',toks:=tk}) (n:="range_iterator") st' rfl rfl (by decide) ⟨.int (lo+i),H,I1,⟨t,?_⟩,⟨rfl,rfl⟩,st',λb hb=>(hf b hb).1⟩⟩
  rw[Int.mul_one]
 done:=by
  intro X hP hw hK hc i pins s σ H E I hf st hg
  subst hP hw hK
  obtain⟨f0,f1,f2,f3,f4,f5⟩:=hf it (by simp)
  exact wpAny_pyNext_range_end (I.ok.hd hc) st (by have:n<=i:=hg;lia) λh' eb=>⟨rfl,I.turned (t':=s.toks) (λb o hb e=>eb b o hb e) f0 f1 f3 f4 f5⟩
 self:=λ_ _ _ _ _ st h=>wpAny_pyIter_rangeiter st h
end L2
namespace L2
open PySem PySem.Spec PyProof.Rows
section
variable{X:Cx}{tg:lH}
theorem WV{pins:Wp (kQ×Obj)}{σ:St}{H:Hp}{s:kM}{R:It->Hp->Prop}{E:kL->kM->Prop}{lo hi:Int}{t u v:Tok}{tk:Nat}(I:Inv X pins σ H s)(h1: -(2^62)<=lo)(h2:lo<2^62)(h3: -(2^62)<=hi)(h4:hi<2^62)(q:R (Itr lo (hi-lo).toNat) H):wpAny (model X.prog X.w) X.A (pyIter (.ref s.heap.objs.size)) (PIE X pins σ tg R) E {s with heap:=s.heap.push {cls:=.type "range",data:=.fields #[.int lo t,.int hi u,.int 1 v]},toks:=tk}:=by
 refine wpAny_pyIter_range (IsRange.new ..) (small_one h1 h2 h3 h4) ?_
 have I1:Inv X pins σ H {s with heap:=s.heap.push {cls:=.type "range",data:=.fields #[.int lo t,.int hi u,.int 1 v]},toks:=tk}:=I.kept λb o e=>kK _ e
 refine⟨(s.heap.push {cls:=.type "range",data:=.fields #[.int lo t,.int hi u,.int 1 v]}).objs.size,[(s.heap.push {cls:=.type "range",data:=.fields #[.int lo t,.int hi u,.int 1 v]}).objs.size],_,_,H,rfl,
  I1.kept (t':=tk) λb o e=>kK _ e,QG _ lo (hi-lo).toNat,?_,λb hb=>?_,q⟩
 .have e1:lo+((0:Nat):Int)*1=lo:=by simp
  have e2:(((hi-lo).toNat:Nat):Int)-((0:Nat):Int)=yU lo hi 1:=by rw[rangeSize_one];split<;>lia
  show IsRangeIter _ _ (lo+((0:Nat):Int)*1) ((((hi-lo).toNat:Nat):Int)-((0:Nat):Int)) 1
  rw[e1,e2]
  exact kZ _ rfl
 .have e:b=(s.heap.push {cls:=.type "range",data:=.fields #[.int lo t,.int hi u,.int 1 v]}).objs.size:=by simpa using hb
  subst e
  exact I1.XC (kR _) (I1.hok.fresh (kR _))
noncomputable def gM(ta:TA):TI:=λσ H R=>ta σ H λvs H1=>∃j:Int,vs=[.int j]/\ -(2^62)<=j/\j<2^62/\R (Itr 0 j.toNat) H1
theorem TY{a:lH}{ta:TA}{p pos:Pos}(hg:Gl X "range")(hm:X.mg "range"=none)(ha:PA X [a] ta)(hs:k9 [a] X.env=[(false,eval a X.env)]:=by rfl):PI X tg (.Call (.Name "range" p) [a] [] pos) (gM ta):=by
 intro pins s σ H R I h
 refine Call_ (JN I hg hm boot_range (nZ (thn (ha pos pins s σ H _ I h) λus s1 ⟨vs,H1,I1,r1,q1⟩=>?_) hs rfl))
 obtain⟨j,e,q1,q2,q⟩:=q1
 subst e
 cases r1 with
 |cons r rr=>
  cases rr
  obtain⟨t,rfl⟩:=r
  exact call_range_1 (WV I1 (by lia) (by lia) q1 q2 (by simpa using q))
noncomputable def jI(wi:TI)(g:TG)(tb:TS):TS:=λD σ H=>wi σ H λJ H1=>∃W:Nat->Nat->St->Hp->Prop,(∃m,W 0 m σ H1)/\∀i m σ H,W i m σ H->
 (J.stop i H/\D.nx σ H)\/(J.go i H/\∃N:St->Hp->Prop,(∀σ' H',N σ' H'->∃m',m'<m/\W (i+1) m' σ' H')/\∀x H',J.yld i H x H'->g x σ H' λσ2 H2=>tb {D with nx:=N,ct:=N,bk:=D.nx} σ2 H2)
noncomputable def Lb(fp:Wp kQ)(h:lP):Wp (kQ×Obj):=fp.filterMap λb=>(h.get? b).map λo=>(b,o)
theorem EW{fp:Wp kQ}{h:lP}{b:kQ}{o:Obj}(hb:b∈fp)(e:h.get? b=Gc o):(b,o)∈Lb fp h:=vA.mpr ⟨b,hb,by rw[e];rfl⟩
theorem Ss{fp:Wp kQ}{h:lP}{p:kQ×Obj}(hp:p∈Lb fp h):p.1∈fp/\h.get? p.1=Gc p.2:=by
 obtain⟨b,hb,e⟩:=vA.mp hp
 cases q:h.get? b with
 |none=>rw[q]at e;cases e
 |some o=>
  rw[q]at e
  have e':(b,o)=p:=mO e
  subst e'
  exact⟨hb,q⟩
theorem Inv.pinned{pins:Wp (kQ×Obj)}{σ:St}{H:Hp}{s:kM}{fp:Wp kQ}(I:Inv X pins σ H s)(hf:∀b∈fp,LW X pins H b)(ho:∀b∈fp,∃o,s.heap.get? b=Gc o/\∀v,o.data≠.cell v):Inv X (pins++Lb fp s.heap) σ H s:=
 I.SV λp hp=>(k6.mp hp).elim (λz=>I.pin p (lK _ z)) λz=>by
  obtain⟨hb,e⟩:=Ss z
  obtain⟨f0,f1,f2,_⟩:=hf p.1 hb
  obtain⟨o,e',d⟩:=ho p.1 hb
  rw[e]at e';cases e'
  exact⟨e,f0,f1,f2,d⟩
theorem Inv.Hn{pins pl:Wp (kQ×Obj)}{σ:St}{H:Hp}{s:kM}(I:Inv X (pins++pl) σ H s):Inv X pins σ H s:=I.SV λp hp=>I.pin p (lK _ (rB _ hp))
theorem aL{iter:lH}{body:Wp mH}{wi:TI}{g:TG}{tb:TS}{pos:Pos}(hp:v9 (model X.prog X.w) X.A X.env X.xe)(hc:X.calm=true)(hi:PI X tg iter wi)(hg:PG X tg g)(hb:PSs X body tb)(hs:∀x,foldedSetIterable iter X.env x=pure x:=by intro _;rfl):PS X (.For tg iter body [] pos) (jI wi g tb):=by
 intro pins s σ H D I h
 refine wpAny_For (thn (hi pins s σ H _ I h) λv s1 h1=>thn h1 λitv s2 h2=>?_) hs
 obtain⟨it,fp,tn,J,H2,e,I2,T,st2,f2,W,⟨m0,w0⟩,turn⟩:=h2
 subst e
 have stat:∀{H':Hp},(∀b∈fp,H' b=none)->∀b∈fp,LW X pins H' b:=λhn b hb=>⟨hn b hb,(f2 b hb).2⟩
 refine codeAny_forLoop_any (λn s'=>∃i σ' H',Inv X pins σ' H' s'/\tn i s'.heap/\(∀b∈fp,H' b=none)/\W i n σ' H') ?_ m0 ⟨0,σ,H2,I2,st2,λb hb=>(f2 b hb).1,w0⟩
 rintro n s3 ⟨i,σ3,H3,I3,st3,fr3,w3⟩
 rcases turn i n σ3 H3 w3 with⟨stop,qn⟩|⟨go,N,hN,step⟩
 .refine oN hp (thn (T.done X rfl rfl rfl hc i pins s3 σ3 H3 X.xe I3 (stat fr3) st3 stop) λr s4 ⟨hr,I4⟩=>?_)
  subst hr
  exact rJ ⟨σ3,H3,I4,qn⟩
 .refine oN hp (thn (T.item X rfl rfl rfl hc i pins s3 σ3 H3 X.xe I3 (stat fr3) st3 go) λr s4 ⟨u,hr,h4⟩=>?_)
  subst hr
  refine oN hp (thn h4 λ_ s5 ⟨x,H5,I5,r5,y5,st5,fr5⟩=>?_)
  have I5':=I5.pinned (stat fr5) (T.obj _ _ st5)
  refine oN hp (thn (hg _ s5 σ3 H5 x u _ I5' r5 (step x H5 y5)) λ_ s6 ⟨σ6,H6,I6,q6⟩=>?_)
  refine oN hp (thn (hb _ s6 σ6 H6 _ I6 q6) λf s7 q7=>?_)
  have again:∀{σ7:St} {H7:Hp},Inv X (pins++Lb fp s5.heap) σ7 H7 s7->N σ7 H7->∃m,m<n/\∃i σ' H',Inv X pins σ' H' s7/\tn i s7.heap/\(∀b∈fp,H' b=none)/\W i m σ' H':=λ{σ7 H7} I7 n7=>by
   obtain⟨m',hm,w7⟩:=hN σ7 H7 n7
   refine⟨m',hm,i+1,σ7,H7,I7.Hn,T.keep _ _ _ st5 λb hb o e=>(I7.pin (b,o) (lK _ (lK _ (EW hb e)))).1,λb hb=>?_,w7⟩
   obtain⟨o,e,d⟩:=T.obj _ _ st5 b hb
   exact(I7.pin (b,o) (lK _ (lK _ (EW hb e)))).2.1
  cases f with
  |next=>obtain⟨σ7,H7,I7,n7⟩:=q7;exact again I7 n7
  |cont=>obtain⟨σ7,H7,I7,n7⟩:=q7;exact again I7 n7
  |brk=>obtain⟨σ7,H7,I7,q7⟩:=q7;exact⟨σ7,H7,I7.Hn,q7⟩
  |ret v=>obtain⟨x7,σ7,H7,I7,r7,q7⟩:=q7;exact⟨x7,σ7,H7,I7.Hn,r7,q7⟩
end
end L2
namespace L2
open PySem PySem.Spec PyProof.Rows
abbrev R2:=V->V->Hp->VK->Prop
def OpR(X:Cx)(f:kL->kL->Sem kL)(r:R2):Prop:=
 ∀(pins:Wp (kQ×Obj)) (s:kM) (σ:St) (H:Hp) (x y:V) (v u:kL) (Q:VK),Inv X pins σ H s->RelV x v->RelV y u->r x y H Q->
  wpAny (model X.prog X.w) X.A (f v u) (EP X pins σ Q) X.xe s
def UnR(X:Cx)(f:kL->Sem kL)(r:V->Hp->VK->Prop):Prop:=
 ∀(pins:Wp (kQ×Obj)) (s:kM) (σ:St) (H:Hp) (x:V) (v:kL) (Q:VK),Inv X pins σ H s->RelV x v->r x H Q->
  wpAny (model X.prog X.w) X.A (f v) (EP X pins σ Q) X.xe s
def DQ(X:Cx)(f:kL)(r:Wp V->Hp->VK->Prop):Prop:=
 ∀(pins:Wp (kQ×Obj)) (s:kM) (σ:St) (H:Hp) (xs:Wp V) (us:Wp kL) (Q:VK),Inv X pins σ H s->Vals xs us->r xs H Q->
  wpAny (model X.prog X.w) X.A (call f us) (EP X pins σ Q) X.xe s
noncomputable def tOp(r:R2)(ta tb:TE):TE:=λσ H Q=>ta σ H λx H1=>tb σ H1 λy H2=>r x y H2 Q
noncomputable def tUn(r:V->Hp->VK->Prop)(ta:TE):TE:=λσ H Q=>ta σ H λx H1=>r x H1 Q
noncomputable def rI(C:Int->Int->Prop)(g:Int->Int->V):R2:=λx y H Q=>∃i j,x=.int i/\y=.int j/\C i j/\Q (g i j) H
noncomputable def rI0(g:Int->Int->V):R2:=λx y H Q=>∃i j,x=.int i/\y=.int j/\Q (g i j) H
def rU(g:Int->V):V->Hp->VK->Prop:=λx H Q=>∃i,x=.int i/\Q (g i) H
section
variable{X:Cx}{a b c:lH}{ta tb tc:TE}{pos:Pos}
theorem gA(ha:PE X a ta)(hb:PE X b tb){pins:Wp (kQ×Obj)}{s:kM}{σ:St}{H:Hp}{R:V->V->Hp->Prop}(I:Inv X pins σ H s)(h:ta σ H λx H1=>tb σ H1 λy H2=>R x y H2){Q:kL->kM->Prop}{f:kL->kL->Sem kL}(hf:∀v u s2 x y H2,Inv X pins σ H2 s2->RelV x v->RelV y u->R x y H2->wpAny (model X.prog X.w) X.A (f v u) Q X.xe s2):wpAny (model X.prog X.w) X.A (eval a X.env) (λv s₁=>wpAny (model X.prog X.w) X.A (eval b X.env) (λu s₂=>wpAny (model X.prog X.w) X.A (f v u) Q X.xe s₂) X.xe s₁) X.xe s:=by
 refine thn (ha pins s σ H _ I h) λv s1 ⟨x,H1,I1,r1,q1⟩=>?_
 refine thn (hb pins s1 σ H1 _ I1 q1) λu s2 ⟨y,H2,I2,r2,q2⟩=>?_
 exact hf v u s2 x y H2 I2 r1 r2 q2
theorem gO{op:Operator}{r:R2}(ho:OpR X (binaryOp op) r)(ha:PE X a ta)(hb:PE X b tb):PE X (.BinOp a op b pos) (tOp r ta tb):=by
 intro pins s σ H Q I h
 exact wpAny_BinOp (gA ha hb I h λv u s2 x y H2 I2 rx ry q=>ho pins s2 σ H2 x y v u Q I2 rx ry q)
theorem fO{op:UnaryOp}{r:V->Hp->VK->Prop}(ho:UnR X (unaryOp op) r)(ha:PE X a ta):PE X (.UnaryOp op a pos) (tUn r ta):=by
 intro pins s σ H Q I h
 exact UnaryOp_ (thn (ha pins s σ H _ I h) λv s1 ⟨x,H1,I1,r1,q1⟩=>ho pins s1 σ H1 x v Q I1 r1 q1)
theorem opI{f:kL->kL->Sem kL}{C:Int->Int->Prop}{g:Int->Int->Int}(rule:∀(i j:Int) (t u:Tok) (s:kM) (Q:kL->kM->Prop) (E:kL->kM->Prop),C i j->Q (.int (g i j) s.toks) {s with toks:=s.toks+1}->wpAny (model X.prog X.w) X.A (f (.int i t) (.int j u)) Q E s):OpR X f (rI C λi j=>.int (g i j)):=by
 intro pins s σ H x y v u Q I rx ry h
 obtain⟨i,j,rfl,rfl,hc,q⟩:=h
 obtain⟨t,rfl⟩:=rx
 obtain⟨t',rfl⟩:=ry
 exact rule i j t t' s _ _ hc ⟨.int (g i j),H,I.tok _,⟨_,rfl⟩,q⟩
theorem gf{f:kL->kL->Sem kL}{g:Int->Int->Int}(rule:∀(i j:Int) (t u:Tok) (s:kM) (Q:kL->kM->Prop) (E:kL->kM->Prop),Q (.int (g i j) s.toks) {s with toks:=s.toks+1}->wpAny (model X.prog X.w) X.A (f (.int i t) (.int j u)) Q E s):OpR X f (rI0 λi j=>.int (g i j)):=by
 intro pins s σ H x y v u Q I rx ry h
 obtain⟨i,j,rfl,rfl,q⟩:=h
 obtain⟨t,rfl⟩:=rx
 obtain⟨t',rfl⟩:=ry
 exact rule i j t t' s _ _ ⟨.int (g i j),H,I.tok _,⟨_,rfl⟩,q⟩
theorem fL{f:kL->kL->Sem kL}{g:Int->Int->lM}(rule:∀(i j:Int) (t u:Tok) (s:kM) (Q:kL->kM->Prop) (E:kL->kM->Prop),Q (.bool (g i j)) s->wpAny (model X.prog X.w) X.A (f (.int i t) (.int j u)) Q E s):OpR X f (rI0 λi j=>.bl (g i j)):=by
 intro pins s σ H x y v u Q I rx ry h
 obtain⟨i,j,rfl,rfl,q⟩:=h
 obtain⟨t,rfl⟩:=rx
 obtain⟨t',rfl⟩:=ry
 exact rule i j t t' s _ _ ⟨.bl (g i j),H,I,rfl,q⟩
def jF(i j:Int):Prop:=0<=j/\j<=1000000/\i.natAbs<2^64
def gE(i j:Int):Prop:=(-(2^64)<i/\i<2^64)\/(-(2^64)<j/\j<2^64)
theorem gE.ok{i j:Int}(h:gE i j):IntMulOk i j:=by
 rcases h with⟨h1,h2⟩|⟨h1,h2⟩
 .exact .of_left (xv h1 h2)
 .exact .of_right (xv h1 h2)
theorem Z4:OpR X (binaryOp .Add) (rI0 λi j=>.int (i+j)):=gf λ_ _ _ _ _ _ _ q=>add_int q
theorem a0:OpR X (binaryOp .Sub) (rI0 λi j=>.int (i-j)):=gf λ_ _ _ _ _ _ _ q=>sub_int q
theorem Wb:OpR X (binaryOp .Mult) (rI gE λi j=>.int (i*j)):=opI λ_ _ _ _ _ _ _ hc q=>xg q hc.ok
theorem Zv:OpR X (binaryOp .Mod) (rI (λ_ j=>0<j) λi j=>.int (i % j)):=opI λi j _ _ _ _ _ hc q=>by
 have h1:(0:Int)<j:=hc
 exact mod_int' (by lia) (by rw[Int.fmod_eq_emod_of_nonneg i (by lia)];exact q)
theorem aI:OpR X (binaryOp .Pow) (rI jF λi j=>.int (i^j.toNat)):=opI λ_ _ _ _ _ _ _ hc q=>pow_int_small hc.1 hc.2.1 hc.2.2 q
theorem unI{f:kL->Sem kL}{g:Int->Int}(rule:∀(i:Int) (t:Tok) (s:kM) (Q:kL->kM->Prop) (E:kL->kM->Prop),Q (.int (g i) s.toks) {s with toks:=s.toks+1}->wpAny (model X.prog X.w) X.A (f (.int i t)) Q E s):UnR X f (rU λi=>.int (g i)):=by
 intro pins s σ H x v Q I rx h
 obtain⟨i,rfl,q⟩:=h
 obtain⟨t,rfl⟩:=rx
 exact rule i t s _ _ ⟨.int (g i),H,I.tok _,⟨_,rfl⟩,q⟩
theorem br:UnR X (unaryOp .USub) (rU λi=>.int (-i)):=unI λ_ _ _ _ _ q=>neg_int q
end
section
variable{X:Cx}{a b c:lH}{ta tb tc:TE}{pos:Pos}
theorem XS{pins:Wp (kQ×Obj)}{σ:St}{H:Hp}{s:kM}{Q:VK}{k k':lM}(I:Inv X pins σ H s)(q:Q (.bl k) H)(e:k=k'):EP X pins σ Q (.bool k') s:=by
 subst e
 exact⟨.bl k,H,I,rfl,q⟩
theorem eF:OpR X (compareOp .Lt) (rI0 λi j=>.bl (decide (i<j))):=fL λ_ _ _ _ _ _ _ q=>lt_int q
theorem fg:OpR X (compareOp .Gt) (rI0 λi j=>.bl (decide (j<i))):=fL λ_ _ _ _ _ _ _ q=>gt_int q
theorem gI:OpR X (compareOp .GtE) (rI0 λi j=>.bl (decide (j<=i))):=fL λ_ _ _ _ _ _ _ q=>ge_int q
theorem aK:OpR X (compareOp .Is) (λx y H Q=>y=.non/\Q (.bl (decide (x=.non))) H):=by
 intro pins s σ H x y v u Q I rx ry h
 obtain⟨rfl,q⟩:=h
 cases ry
 refine is_none_gen (XS I q ?_)
 cases x<;>first
  |(cases rx;rfl)
  |(obtain⟨t,rfl⟩:=rx;rfl)
theorem Y8:OpR X (compareOp .IsNot) (λx y H Q=>y=.non/\Q (.bl (!decide (x=.non))) H):=by
 intro pins s σ H x y v u Q I rx ry h
 obtain⟨rfl,q⟩:=h
 cases ry
 refine isnot_none_gen (XS I q ?_)
 cases x<;>first
  |(cases rx;rfl)
  |(obtain⟨t,rfl⟩:=rx;rfl)
theorem Yp{op:CmpOp}{r:R2}(ho:OpR X (compareOp op) r)(ha:PE X a ta)(hb:PE X b tb)(hm:behindInMarks op b=false):PE X (.Compare a [op] [b] pos) (tOp r ta tb):=by
 intro pins s σ H Q I h
 exact wpAny_Compare1 (gA ha hb I h λv u s2 x y H2 I2 rx ry q=>ho pins s2 σ H2 x y v u Q I2 rx ry q) hm
noncomputable def ba(t:TE):TT:=λσ H Q=>t σ H λx H'=>∃k,x=.bl k/\Q k H'
theorem ZL{op:CmpOp}{r:R2}(ho:OpR X (compareOp op) r)(ha:PE X a ta)(hb:PE X b tb)(hm:behindInMarks op b=false):PT X (.Compare a [op] [b] pos) (ba (tOp r ta tb)):=by
 intro pins s σ H Q I h
 refine wpAny_isTrue_Compare1 (thn (ha pins s σ H _ I h) λv s1 ⟨x,H1,I1,r1,q1⟩=>thn (hb pins s1 σ H1 _ I1 q1) λu s2 ⟨y,H2,I2,r2,q2⟩=>
  thn (ho pins s2 σ H2 x y v u _ I2 r1 r2 q2) λc s3 ⟨z,H3,I3,r3,k,e,q3⟩=>?_) hm
 subst e
 cases r3
 exact oR ⟨H3,I3,q3⟩
theorem Nc:(sizeLine:Nat)<2^63:=by rw[sQ];decide
theorem QB:OpR X (binaryOp .Add) (λx y H Q=>∃i j,x=.str i/\y=.str j/\i.length+j.length<=sizeLine/\Q (.str (i++j)) H):=by
 intro pins s σ H x y v u Q I rx ry h
 obtain⟨i,j,rfl,rfl,hz,q⟩:=h
 obtain⟨t,rfl⟩:=rx
 obtain⟨t',rfl⟩:=ry
 exact add_str (λt' tk=>⟨.str (i++j),H,I.tok _,⟨_,rfl⟩,q⟩) hz
theorem vals1{x:V}{us:Wp kL}(r:Vals [x] us):∃u,us=[u]/\RelV x u:=by
 cases r with
 |cons r1 r2=>cases r2;exact⟨_,rfl,r1⟩
theorem vals2{x y:V}{us:Wp kL}(r:Vals [x,y] us):∃u w',us=[u,w']/\RelV x u/\RelV y w':=by
 cases r with
 |cons r1 r2=>
  cases r2 with
  |cons r3 r4=>cases r4;exact⟨_,_,rfl,r1,r3⟩
theorem VL:DQ X (.builtin "abs") (λxs H Q=>∃i,xs=[.int i]/\Q (.int (if i<0 then-i else i)) H):=by
 intro pins s σ H xs us Q I r h
 obtain⟨i,rfl,q⟩:=h
 obtain⟨u,rfl,t,rfl⟩:=vals1 r
 exact call_abs_int λu tk=>⟨.int (if i<0 then-i else i),H,I.tok _,⟨_,rfl⟩,q⟩
theorem RM(hc:X.calm=true):DQ X (.builtin "max") (λxs H Q=>∃i j,xs=[.int i,.int j]/\Q (.int (if j>i then j else i)) H):=by
 intro pins s σ H xs us Q I r h
 obtain⟨i,j,rfl,q⟩:=h
 obtain⟨u,w',rfl,⟨t,rfl⟩,⟨t',rfl⟩⟩:=vals2 r
 refine max_two_ints (I.ok.hd hc) λh' tk k=>⟨_,H,I.kept k,?_,q⟩
 by_cases hj:j>i
 .rw[lF hj,lF hj];exact⟨_,rfl⟩
 .rw[lJ hj,lJ hj];exact⟨_,rfl⟩
theorem Q8(hc:X.calm=true):DQ X (.builtin "min") (λxs H Q=>∃i j,xs=[.int i,.int j]/\Q (.int (if j<i then j else i)) H):=by
 intro pins s σ H xs us Q I r h
 obtain⟨i,j,rfl,q⟩:=h
 obtain⟨u,w',rfl,⟨t,rfl⟩,⟨t',rfl⟩⟩:=vals2 r
 refine min_two_ints (I.ok.hd hc) λh' tk k=>⟨_,H,I.kept k,?_,q⟩
 by_cases hj:j<i
 .rw[lF hj,lF hj];exact⟨_,rfl⟩
 .rw[lJ hj,lJ hj];exact⟨_,rfl⟩
theorem N5:DQ X (.type "int") (λxs H Q=>(∃i,xs=[.int i]/\Q (.int i) H)\/∃k,xs=[.bl k]/\Q (.int (if k then 1 else 0)) H):=by
 intro pins s σ H xs us Q I r h
 rcases h with⟨i,rfl,q⟩|⟨k,rfl,q⟩
 .obtain⟨u,rfl,t,rfl⟩:=vals1 r
  exact call_int_int ⟨.int i,H,I,⟨_,rfl⟩,q⟩
 .obtain⟨u,rfl,r1⟩:=vals1 r
  cases r1
  exact call_int_bool ⟨.int (if k then 1 else 0),H,I.tok _,⟨_,rfl⟩,q⟩
end
end L2
namespace L2
open PySem PySem.Spec PyProof.Rows
structure dw(h:lP)(x dx C:kQ)(mA:Str->kN kL):Prop where
 obj:h.get? x=Gc (tw C dx)
 ns:h.Ns1 dx mA
 ne:dx≠x
theorem Sn{h:lP}{dx:kQ}{mA:Str->kN kL}(n:h.Ns1 dx mA):∃od,h.get? dx=Gc od/\∀name,uN name od=Gc (mA name):=by
 obtain⟨o,es,ep,ho,hd,hk,_,hm⟩:=n
 refine⟨o,ho,λname=>?_⟩
 have e:=hm name
 unfold nsFind findBy at e
 rw[<-Array.find?_toList]at e
 unfold uN
 rw[hd]
 dsimp only
 split
 .rename_i y q
  rw[q]at e
  exact congrArg Gc e
 .rename_i q
  rw[q]at e
  have a:es.toList.any (·.refKey)=false:=by
   rw[vP]
   intro y hy
   obtain⟨z,t,hkey⟩:=hk y (Array.mem_toList_iff.mp hy)
   simp[DictEntry.refKey,hkey]
  have a':¬es.toList.any (·.refKey)=true:=by rw[a];exact l8
  rw[lJ a']
  exact congrArg Gc e
theorem dw.look{h:lP}{x dx C:kQ}{mA:Str->kN kL}(I:dw h x dx C mA):∃od,PySem.W.InstAt h x (tw C dx) C (Gc od)/\∀name,uN name od=Gc (mA name):=
 let⟨od,ho,hl⟩:=Sn I.ns
 ⟨od,⟨I.obj,rfl,rfl,ho⟩,hl⟩
section
variable{prog:k8}{w:lO}{A:lV}{E:kL->kM->Prop}{s:kM}{K:kJ}{x dx C f:kQ}{mA:Str->kN kL}{name:Str}{v:kL}
end
section
variable{P:k8}{w:lO}{H H':Hp}{h h':lP}{a C dx:kQ}{fs fs':Wp (Str×V)}
theorem Xu(hok:HOk P w H h)(e:H a=Gc (.ins C dx fs)):∃mA,dw h a dx C mA/\(∀f,Ww (fs.lookup f) (mA f))/\yl mA (fs.map (·.1))/\fs.length<=1000/\H dx=Gc (.own a):=by
 obtain⟨d,z,ne,ob,mA,n,r,q⟩:=(show Dw P w H h a (.ins C dx fs)from hok a _ e)
 exact⟨mA,⟨ob,n,ne⟩,r,q,z,d⟩
end
structure Cls(K:kJ)(C:kQ):Prop where
 pg:wB K C Str.empty=true
 hd:PySem.W.hasDictIn K C=true
 po:PySem.W.plainOver K C=true
 sa:qg K (.ref C) "__setattr__"=Gc (Gc (.builtin "object.__setattr__"))
theorem Cls.get{K:kJ}{C:kQ}(c:Cls K C)(f:Str):wB K C f=true:=c.pg
structure Con(K:kJ)(C:kQ)(f:Str)(v:V)(u:kL):Prop where
 at_:qg K (.ref C) f=Gc (Gc u)
 rel:RelV v u
 get:vQ K u "__get__"=Gc none
 cp:PySem.W.copiedNames.contains f=false
structure Meth(K:kJ)(C:kQ)(m:Str)(f:kQ):Prop where
 at_:qg K (.ref C) m=Gc (Gc (.ref f))
 fn:yr K (.ref f)=true
 kp:oB K (.ref f)=true
section
variable{X:Cx}{pins:Wp (kQ×Obj)}{σ:St}{H:Hp}{s:kM}{a C dx:kQ}{fs:Wp (Str×V)}{f:Str}{v:V}{A:lV}{E:kL->kM->Prop}
end
section
variable{X:Cx}{o e value:lH}{f:Str}{pos pos' tpos:Pos}{ta tv:TE}
end
section
variable{X:Cx}{pins:Wp (kQ×Obj)}{σ:St}{H:Hp}{s:kM}{A:lV}{E:kL->kM->Prop}{Q:kL->kM->Prop}{c:kL}{b:lM}
inductive Qf(K:kJ)(H:Hp):V->kL->Prop where
 |non:Qf K H .non (.type "NoneType")
 |bl (x:lM):Qf K H (.bl x) (.type "bool")
 |int (i:Int):Qf K H (.int i) (.type "int")
 |str (x:Str):Qf K H (.str x) (.type "str")
 |flt (x:UInt64):Qf K H (.flt x) (.type "float")
 |lst {a:kQ} {xs:Wp V} (e:H a=Gc (.lst xs)):Qf K H (.ref a) (.type "list")
 |frz {a:kQ} {o:Obj} {xs:Wp V} (e:H a=Gc (.frz o (.lst xs))):Qf K H (.ref a) (.type "list")
 |tup {a:kQ} {xs:Wp V} (e:H a=Gc (.tup xs)):Qf K H (.ref a) (.type "tuple")
 |dK {a:kQ} {kvs:Wp (Key×V)} (e:H a=Gc (.dK kvs)):Qf K H (.ref a) (.type "dict")
 |dT {a:kQ} {kvs:Wp (Wp Key×V)} (e:H a=Gc (.dT kvs)):Qf K H (.ref a) (.type "dict")
 |ins {a C dx:kQ} {fs:Wp (Str×V)} (e:H a=Gc (.ins C dx fs)) (cl:Cls K C) (ha:qg K (.ref C) "__class__"=Gc (Gc (.builtin "object.__class__")))
   (hn:vQ K (.builtin "object.__class__") "__get__"=Gc (Gc (.builtin "getset_descriptor.__get__"))) (htk:PySem.W.takesIn K (.builtin "object.__class__")=Gc true)
   (hm:PySem.W.mroIn K C (.type "object")=Gc true):Qf K H (.ref a) (.ref C)
theorem E7{x:V}{u t:kL}(I:Inv X pins σ H s)(rx:RelV x u)(ty:Qf X.K H x t)(e:oC X.K t c=Gc b)(h:∀tk,Q (.bool b) {s with toks:=tk}):wpAny (model X.prog X.w) A (call (.builtin "isinstance") [u,c]) Q E s:=by
 cases ty with
 |non=>cases (show u=mW from rx);exact mT PySem.W.kitx_none I.kIn qW e (λz=>nomatch z) h
 |bl y=>cases (show u=rW y from rx);exact mT PySem.W.kitx_bool I.kIn qW e (λz=>nomatch z) h
 |int i=>obtain⟨t,q⟩:=(show∃t,u=qZ i t from rx);cases q;exact mT PySem.W.kitx_int I.kIn qW e (λz=>nomatch z) h
 |str y=>obtain⟨t,q⟩:=(show∃t,u=sv y t from rx);cases q;exact mT PySem.W.kitx_str I.kIn qW e (λz=>nomatch z) h
 |flt y=>obtain⟨t,q⟩:=(show∃t,u=z6 y t from rx);cases q;exact mT PySem.W.kitx_float I.kIn qW e (λz=>nomatch z) h
 | @lst a xs ea=>
   cases (show u=mF a from rx)
   obtain⟨_,_,n,_,h1⟩:=(show Dw X.prog X.w H s.heap a (.lst xs)from I.hok a _ ea)
   exact mT vR I.kIn ⟨_,h1,rfl⟩ e (λz=>nomatch z) h
 | @frz a ob xs ea=>
   cases (show u=mF a from rx)
   obtain⟨_,_,_,n,_,h1⟩:=(show Dw X.prog X.w H s.heap a (.frz ob (.lst xs))from I.hok a _ ea)
   exact mT vR I.kIn ⟨_,h1,rfl⟩ e (λz=>nomatch z) h
 | @tup a xs ea=>
   cases (show u=mF a from rx)
   obtain⟨_,_,_,p⟩:=(show Dw X.prog X.w H s.heap a (.tup xs)from I.hok a _ ea)
   obtain⟨o,h1,h2,_⟩:=p
   exact mT vB I.kIn ⟨o,h1,h2⟩ e (λz=>nomatch z) h
 | @dK a kvs ea=>
   cases (show u=mF a from rx)
   obtain⟨_,_,vs,_,p⟩:=(show Dw X.prog X.w H s.heap a (.dK kvs)from I.hok a _ ea)
   obtain⟨o,es,ep,h1,h2,_⟩:=p
   exact mT vS I.kIn ⟨o,h1,h2.1⟩ e (λz=>nomatch z) h
 | @dT a kvs ea=>
   cases (show u=mF a from rx)
   obtain⟨_,_,xs,_,o,es,ep,h1,h2,_⟩:=(show Dw X.prog X.w H s.heap a (.dT kvs)from I.hok a _ ea)
   exact mT vS I.kIn ⟨o,h1,h2.1⟩ e (λz=>nomatch z) h
 | @ins a C dx fs ea cl ha hn htk hm=>
   cases (show u=mF a from rx)
   obtain⟨mA,O,_⟩:=Xu I.hok ea
   obtain⟨od,J,_⟩:=O.look
   exact mT (PySem.W.kitx_own (cl.get _) cl.hd ha hn htk hm) I.kIn J e (λz=>nomatch z) h
end
end L2
namespace L2
open PySem PySem.Spec PyProof.Rows
structure Ky(k:Nat)(A:lV):Prop where
 hd:A.handled=none
 dp:A.depth+3*k+5<recursionLimit
 un:A.units+16*k+200<cLine
theorem Ky.mono{j k:Nat}{A:lV}(r:Ky k A)(h:j<=k):Ky j A:=⟨r.hd,by have:=r.dp;lia,by have:=r.un;lia⟩
theorem Ky.deeper{k:Nat}{A:lV}(r:Ky (k+1) A)(env:Env):Ky k (A.deeper env):=
 ⟨r.hd,by have:=r.dp;show A.depth+1+3*k+5<_;lia,by have:=r.un;show A.units+3+16*k+200<_;lia⟩
theorem Ky.depth{k:Nat}{A:lV}(r:Ky k A):A.depth<recursionLimit:=by have:=r.dp;lia
noncomputable def gd:TA:=λ_ H Q=>Q [] H
noncomputable def af(ta:TE)(tr:TA):TA:=λσ H Q=>ta σ H λx H1=>tr σ H1 λxs H2=>Q (x::xs) H2
section
variable{X:Cx}{e:lH}{es:Wp lH}{te:TE}{t:TA}{pos:Pos}
theorem Qw:PA X [] gd:=λ_ _ _ _ H Q I h=>rP ⟨[],H,I,.nil,h⟩
theorem Mv(ha:PE X e te)(hr:PA X es t)(hs:k9 (e::es) X.env=(false,eval e X.env)::k9 es X.env:=by rfl):PA X (e::es) (af te t):=by
 intro pos pins s σ H Q I h
 rw[hs]
 show wpAny _ _ (spliced ((false,eval e X.env)::backTo pos (k9 es X.env))) _ _ s
 refine rC (thn (ha pins s σ H _ I h) λu s1 ⟨x,H1,I1,r1,q1⟩=>?_)
 exact thn (hr pos pins s1 σ H1 _ I1 q1) λus s2 ⟨xs,H2,I2,r2,q2⟩=>⟨x::xs,H2,I2,.cons r1 r2,q2⟩
noncomputable def jr(t:TA):TE:=λσ H Q=>t σ H λxs H1=>xs.length<=sizeLine/\∀p,H1 p=none->Q (.ref p) (upd H1 p (.tup xs))
noncomputable def jw(t:TA):TE:=λσ H Q=>t σ H λxs H1=>xs.length<=sizeLine/\∀p,H1 p=none->Q (.ref p) (upd H1 p (.lst xs))
theorem Zg{x1}(h:PA X es t):PE X (.Tuple es x1 pos) (jr t):=by
 intro pins s σ H Q I hq
 refine wpAny_Tuple_spliced (thn (h pos pins s σ H _ I hq) λus s1 ⟨xs,H1,I1,r,z,q⟩=>⟨by rw[<-r.length];exact z,?_⟩)
 have hf:H1 s1.heap.objs.size=none:=I1.hok.fresh (kR _)
 refine⟨.ref s1.heap.objs.size,upd H1 s1.heap.objs.size (.tup xs),I1.laid (t':=s1.toks) (λb u e=>kK _ e) (kR _) ?_,rfl,q _ hf⟩
 exact⟨z,us,r,⟨_,kZ _ rfl,rfl,_,rfl⟩⟩
theorem aC(h:PA X es t):PE X (.List es pos) (jw t):=by
 intro pins s σ H Q I hq
 refine wpAny_List_spliced (thn (h pos pins s σ H _ I hq) λus s1 ⟨xs,H1,I1,r,z,q⟩=>⟨by rw[<-r.length];exact z,?_⟩)
 have hf:H1 s1.heap.objs.size=none:=I1.hok.fresh (kR _)
 refine⟨.ref s1.heap.objs.size,upd H1 s1.heap.objs.size (.lst xs),I1.laid (t':=s1.toks) (λb u e=>kK _ e) (kR _) ?_,rfl,q _ hf⟩
 exact⟨z,us,0,r,kZ _ rfl⟩
end
abbrev Sp:=Wp V->Hp->VK->XK->Prop
abbrev CXT:=Wp Env->Hp->kM->XK->kL->kM->Prop
structure cj(P:k8)(w:lO)(K:kJ)(mg:Str->kN kL)(base:lP)(A:lV)(outer:Wp Env)(s:kM)(H:Hp):Prop where
 frames:A.frames=Gc outer
 mod:Mod K mg base
 bs:∀b o,base.get? b=Gc o->s.heap.get? b=Gc o/\H b=none
 bsz:base.objs.size<=s.heap.objs.size
 Rm:s.heap.FunFrames base outer
 frf:∀b∈frs outer,H b=none
 hok:HOk P w H s.heap
 bare:sP s.gens
def CE(outer:Wp Env)(P:k8)(w:lO)(H:Hp)(s:kM)(Q:VK)(u:kL)(s':kM):Prop:=
 ∃v H',s'.os=s.os/\sP s'.gens/\Un (frs outer) [] H H' s.heap s'.heap/\HOk P w H' s'.heap/\RelV v u/\Q v H'
def CR(CX:CXT)(outer:Wp Env)(P:k8)(w:lO)(H:Hp)(s:kM)(Q:VK)(E:XK)(r:wC)(s':kM):Prop:=
 match r with
 | .ok (.ret u)=>CE outer P w H s Q u s'
 | .ok _=>pQ
 | .error e=>CX outer H s E e s'
structure Nv(P:k8)(w:lO)(K:kJ)(mg:Str->kN kL)(base:lP)(CX:CXT)(k:Nat)(f:kQ)(fd:nS)(ps:Wp Str)(sp:Sp):Prop where
 len:∀vs H Q E,sp vs H Q E->vs.length=ps.length
 run:∀(A:lV) (outer:Wp Env) (s:kM) (H:Hp) (args:Args) (us:Wp kL) (vs:Wp V) (Q:VK) (E:XK),Ky k A->cj P w K mg base A outer s H->vT s fd args (ps.zip us)->Vals vs us->sp vs H Q E->
  codeAny (model P w) A (.call (.ref f) args) (CR CX outer P w H s Q E) s
theorem Nv.imp{P:k8}{w:lO}{K:kJ}{mg:Str->kN kL}{base:lP}{CX:CXT}{k:Nat}{f:kQ}{fd:nS}{ps:Wp Str}{sp sp':Sp}(F:Nv P w K mg base CX k f fd ps sp)(h:∀vs H Q E,sp' vs H Q E->sp vs H Q E):Nv P w K mg base CX k f fd ps sp':=
 ⟨λvs H Q E q=>F.len vs H Q E (h _ _ _ _ q),λA outer s H args us vs Q E hr he hb hv hs=>F.run A outer s H args us vs Q E hr he hb hv (h _ _ _ _ hs)⟩
section
variable{X:Cx}{pins:Wp (kQ×Obj)}{σ:St}{H:Hp}{s s':kM}
theorem Inv.jQ(I:Inv X pins σ H s):cj X.prog X.w X.K X.mg X.base X.A X.stack s H:=
 ⟨I.ok.frames,I.ok.mod,I.bs,kY I.ok.bsz I.sz,I.stack,I.Qu,I.hok,I.bare⟩
theorem Inv.after{Q:VK}{u:kL}(I:Inv X pins σ H s)(h:CE X.stack X.prog X.w H s Q u s'):EP X pins σ Q u s':=by
 obtain⟨v,H',os,bare,un,hok,r,q⟩:=h
 obtain⟨hh,g,d,t,os'⟩:=s'
 obtain rfl:os'=s.os:=os
 exact⟨v,H',I.call (h':=hh) (g':=g) (d':=d) (t':=t) (ch:=[]) un hok bare (λb z=>absurd z (by simp)),r,q⟩
end
noncomputable def Xz(sp:Sp)(dvs:Wp V)(E:XK)(t:TA):TE:=λσ H Q=>t σ H λvs H1=>sp (vs++dvs) H1 Q E
def Binds(K:kJ)(fd:nS)(ps:Wp Str)(ds:Wp kL):Prop:=
 ∀(s:kM) (us:Wp kL),K.In s.heap->(us++ds).length=ps.length->vT s fd ⟨us,[]⟩ (ps.zip (us++ds))
theorem Binds.all{K:kJ}{fd:nS}{ps:Wp Str}(h:∀us:Wp kL,us.length=ps.length->bindArgs fd ⟨us,[]⟩=pure (ps.zip us)):Binds K fd ps []:=λs us _ hl=>by
 rw[oO]at hl⊢
 exact .of_eq (h us hl)
def Passes(CX:CXT)(X:Cx)(E:XK):Prop:=∀(pins:Wp (kQ×Obj)) (σ:St) (H:Hp) (s:kM) (e:kL) (s':kM),Inv X pins σ H s->CX X.stack H s E e s'->X.xe e s'
section
variable{X:Cx}{CX:CXT}{k:Nat}{f C:kQ}{fd:nS}{ps:Wp Str}{sp:Sp}{dvs:Wp V}{ds:Wp kL}{E:XK}{x m:Str}{p pos apos:Pos}{e o:lH}{es:Wp lH}{ta:TE}{t:TA}
theorem Zz{pins:Wp (kQ×Obj)}{σ:St}{H:Hp}{s:kM}{Q:VK}{us:Wp kL}{vs:Wp V}(F:Nv X.prog X.w X.K X.mg X.base CX k f fd ps sp)(hr:Ky k X.A)(hb:Binds X.K fd ps ds)(hd:Vals dvs ds)(hx:Passes CX X E)(I:Inv X pins σ H s)(r:Vals vs us)(h:sp (vs++dvs) H Q E):wpAny (model X.prog X.w) X.A (call (.ref f) us) (EP X pins σ Q) X.xe s:=by
 have r2:Vals (vs++dvs) (us++ds):=r.append hd
 have hl:(us++ds).length=ps.length:=by rw[<-r2.length];exact F.len _ _ _ _ h
 refine wpAny_call (rS (F.run X.A X.stack s H ⟨us,[]⟩ (us++ds) (vs++dvs) Q E hr I.jQ (hb s us I.kIn hl) r2 h) λr s' hq=>?_)
 cases r with
 |error e=>exact hx pins σ H s e s' I hq
 |ok fl=>
  cases fl with
  |ret u=>exact I.after hq
  |next=>exact pF hq
  |brk=>exact pF hq
  |cont=>exact pF hq
theorem Ym(F:Nv X.prog X.w X.K X.mg X.base CX k f fd ps sp)(hr:Ky k X.A)(hg:Gl X x)(hm:X.mg x=Gc (.ref f))(hk:oB X.K (.ref f)=true)(hb:Binds X.K fd ps ds)(hd:Vals dvs ds)(hx:Passes CX X E)(ha:PA X (e::es) t)(hdb:(x==("__debug__":Str))=false:=by decide)(he:k9 (e::es) X.env=(false,eval e X.env)::k9 es X.env:=by rfl)(hpl:(backTo pos (k9 es X.env)).any (·.1)=false:=by rfl):PE X (.Call (.Name x p) (e::es) [] pos) (Xz sp dvs E t):=by
 intro pins s σ H Q I h
 refine pG (YG I hg hm ?_ hdb)
 refine PySem.W.callWith_K (h₀:=X.base) I.ok.mod.kin hk (thn (ha pos pins s σ H _ I h) λus s1 ⟨vs,H1,I1,r,q⟩=>⟨I1.kIn,?_⟩) he hpl
 exact Zz F hr hb hd hx I1 r q
structure Mk(K:kJ)(C f:kQ):Prop where
 makes:PySem.W.makesIn K C=true
 init:qg K (.ref C) "__init__"=Gc (Gc (.ref f))
 fn:yr K (.ref f)=true
 kp:oB K (.ref C)=true
end
section
variable{X:Cx}{CX:CXT}{k:Nat}{f C:kQ}{fd:nS}{ps ks:Wp Str}{sp:Sp}{E:XK}{x m:Str}{p pos apos kpos:Pos}{e o:lH}{es:Wp lH}{kws:Wp sR}{te ta:TE}{t tk:TA}{nm:kN Str}
structure iE(K:kJ)(fd:nS)(ps ks:Wp Str)(g:Wp kL->Wp kL->Wp kL)(gV:Wp V->Wp V->Wp V):Prop where
 to:∀(s:kM) (us ws:Wp kL),K.In s.heap->(g us ws).length=ps.length->vT s fd ⟨us,ks.zip ws⟩ (ps.zip (g us ws))
 rel:∀{vs:Wp V} {us:Wp kL} {zs:Wp V} {ws:Wp kL},Vals vs us->Vals zs ws->Vals (gV vs zs) (g us ws)
variable{g:Wp kL->Wp kL->Wp kL}{gV:Wp V->Wp V->Wp V}
end
structure AW(N P:Wp Str)(sc:nR):Prop where
 kind:sc.kind=.function
 co:sc.isCoroutine=false
 gen:sc.isGenerator=false
 nd:N.Nodup
 pre:N.take P.length=P
 par:∀x∈P,sc.names.lookup x=Gc .local\/sc.names.lookup x=Gc .cell
 aB:∀y∈sc.names,y.2≠.free
theorem N4{kindOf:Str->kN oy}{x:Str}:∀{binds:Wp (Str×kL)} {m:Str->kN kL},(∀v,(x,v)∉binds)->bindL kindOf binds m x=m x
 | [],_,_=>rfl
 |(n,v)::r,m,h=>by
  unfold bindL
  rw[N4 λw hw=>h w (kU _ hw)]
  split
  .have:x≠n:=by rintro rfl;exact h v kc
   simp[this]
  .rfl
theorem N1{kindOf:Str->kN oy}{x:Str}:∀{binds:Wp (Str×kL)} {m:Str->kN kL},(∀v,(x,v)∉binds)->bindC kindOf binds m x=m x
 | [],_,_=>rfl
 |(n,v)::r,m,h=>by
  unfold bindC
  rw[N1 λw hw=>h w (kU _ hw)]
  split
  .rfl
  .have:x≠n:=by rintro rfl;exact h v kc
   simp[this]
theorem Nr{kindOf:Str->kN oy}{x:Str}{v:kL}:∀{P:Wp Str} {vs:Wp kL} {i:Nat} {m:Str->kN kL},P.Nodup->P[i]?=Gc x->vs[i]?=Gc v->kindOf x=Gc .local->bindL kindOf (P.zip vs) m x=Gc v
 | [],_,_,_,_,h,_,_=>by simp at h
 |_::_,[],_,_,_,_,h,_=>by simp at h
 |p::P,w::vs,0,m,nd,h1,h2,hk=>by
  simp at h1 h2;subst h1;subst h2
  show bindL kindOf ((p,w)::P.zip vs) m p=_
  unfold bindL
  rw[N4 λv hv=>(nI.mp nd).1 (qS hv).1,lF hk]
  simp
 |p::P,w::vs,i+1,m,nd,h1,h2,hk=>by
  show bindL kindOf ((p,w)::P.zip vs) m x=_
  unfold bindL
  exact Nr (i:=i) (nI.mp nd).2 (by simpa using h1) (by simpa using h2) hk
theorem OF{kindOf:Str->kN oy}{x:Str}{v:kL}:∀{P:Wp Str} {vs:Wp kL} {i:Nat} {m:Str->kN kL},P.Nodup->P[i]?=Gc x->vs[i]?=Gc v->kindOf x≠Gc .local->bindC kindOf (P.zip vs) m x=Gc v
 | [],_,_,_,_,h,_,_=>by simp at h
 |_::_,[],_,_,_,_,h,_=>by simp at h
 |p::P,w::vs,0,m,nd,h1,h2,hk=>by
  simp at h1 h2;subst h1;subst h2
  show bindC kindOf ((p,w)::P.zip vs) m p=_
  unfold bindC
  rw[N1 λv hv=>(nI.mp nd).1 (qS hv).1,lJ hk]
  simp
 |p::P,w::vs,i+1,m,nd,h1,h2,hk=>by
  show bindC kindOf ((p,w)::P.zip vs) m x=_
  unfold bindC
  exact OF (i:=i) (nI.mp nd).2 (by simpa using h1) (by simpa using h2) hk
noncomputable def start(N:Wp Str)(vs:Wp V):St:=vs.map Gc++ku (N.length-vs.length) none
noncomputable def UM(CX:CXT)(P:k8)(w:lO)(K:kJ)(mg:Str->kN kL)(base:lP)(N:Wp Str)(qual:Str)(scope:nR)(f:kQ)(cd:kL)(A:lV)(outer:Wp Env)(s:kM)(H:Hp)(E:XK):Cx where
 prog:=P
 w:=w
 K:=K
 mg:=mg
 base:=base
 A:=A.deeper (envOfC qual scope s.heap.objs.size f cd)
 N:=N
 s₀:=s
 H₀:=H
 env:=envOfC qual scope s.heap.objs.size f cd
 outer:=outer
 stack:=envOfC qual scope s.heap.objs.size f cd::outer
 ex:=[]
 calm:=true
 fn:=λ_=>true
 pn:=[]
 xe:=λe s'=>wpAny (model P w) (A.deeper (envOfC qual scope s.heap.objs.size f cd)) (leaving (envOfC qual scope s.heap.objs.size f cd) e) (λ_ s''=>CX outer H s E e s'') (λe' s''=>CX outer H s E e' s'') s'
theorem Jt{sc:nR}{n:Nat}{x:Str}(h:sc.names.lookup x=Gc .cell):∃c,(cellsFrom n sc.names []).lookup x=Gc c:=by
 have q:=tP sc.names n [] (.inl h)
 exact se.mp q
theorem RQ{CX:CXT}{P:k8}{w:lO}{K:kJ}{mg:Str->kN kL}{base:lP}{N ps:Wp Str}{qual:Str}{scope:nR}{f:kQ}{cd:kL}{A:lV}{outer:Wp Env}{s s1:kM}{H:Hp}{E:XK}{us:Wp kL}{vs:Wp V}(S:AW N ps scope)(hd:A.handled=none)(e0:cj P w K mg base A outer s H)(hl:vs.length=ps.length)(r:Vals vs us)(x:InCallC s s.heap.objs.size (bindL (envOfC qual scope s.heap.objs.size f cd).kindOf (ps.zip us) λ_=>none) (cellsFrom (s.heap.objs.size+1) scope.names []) (bindC (envOfC qual scope s.heap.objs.size f cd).kindOf (ps.zip us) λ_=>none) s1):Inv (UM CX P w K mg base N qual scope f cd A outer s H E) [] (start N vs) H s1:=by
 have hpl:ps.length<=N.length:=by have:=congrArg uO S.pre;rw[pA]at this;lia
 obtain⟨h1,tk,rfl,hk⟩:=x.done
 have noA:∀b:kQ,b∉(UM CX P w K mg base N qual scope f cd A outer s H E).ex:=λb z=>absurd (show b∈([]:Wp kQ)from z) (by simp)
 refine⟨⟨e0.mod,S.kind,rfl,rfl,kR _,λy z c h1 h2=>?_,λy hy=>?_,λy c _ h=>?_,λ_=>hd,Around.frames_deeper e0.frames,.inr ⟨rfl,rfl⟩,λb z=>absurd z (noA b),e0.bs,e0.bsz,λb _ _=>noA b,λb z=>absurd z (noA b),e0.Rm,e0.frf⟩,
  rfl,e0.bare,Un.kept hk,⟨_,x.toInCall.ns,λi y v h1 h2 h3=>?_⟩,λy c h=>⟨_,x.cell y c h⟩,e0.hok.fresh (kR _),λy c h=>?_,λp hp=>absurd (show p∈([]:Wp (kQ×Obj))from hp) (by simp),e0.hok.kept hk,?_⟩
 .exact yt x.apart (mK h1) (mK h2)
 .have hy:scope.names.lookup y=Gc .cell\/scope.names.lookup y=Gc .free:=hy
  rcases hy with hy|hy
  .exact Jt hy
  .exact absurd rfl (S.aB _ (mK hy))
 .exact mx (x.above y c (mK h))
 .have hi:i<vs.length:=by
   unfold start at h2
   by_cases hi:i<vs.length
   .exact hi
   .rw[lU (by simpa using hi)]at h2
    rw[sx]at h2
    split at h2<;>cases h2
  have ha:vs[i]?=Gc v:=by
   unfold start at h2
   rw[kP (by simpa using hi),lC]at h2
   cases e:vs[i]? with
   |none=>rw[e]at h2;cases h2
   |some a=>rw[e]at h2;cases h2;rfl
  obtain⟨u,hu,rv⟩:=r.get ha
  have hp:ps[i]?=Gc y:=by
   rw[<-S.pre,List.getElem?_take_of_lt (by lia)];exact h1
  have ndP:ps.Nodup:=by rw[<-S.pre];exact S.nd.sublist (sS _ _)
  refine⟨u,rv,?_⟩
  rcases S.par y (k0 hp)with k|k
  .exact .inl ⟨k,Nr ndP hp hu k⟩
  .obtain⟨c,e⟩:=Jt (n:=s.heap.objs.size+1) k
   refine .inr ⟨.inl k,c,e,?_⟩
   have q:=x.cell y c e
   rw[OF ndP hp hu (by show scope.names.lookup y≠_;rw[k];decide)]at q
   exact q
 .exact e0.hok.fresh (mx (x.above y c (mK h)))
 .unfold start
  show _=N.length
  rw[lQ,ky,List.length_replicate]
  lia
theorem fI{CX:CXT}{P:k8}{w:lO}{K:kJ}{mg:Str->kN kL}{base:lP}{k:Nat}{f:kQ}{name qual:Str}{params:Arguments}{body:Wp mH}{scope:nR}{dV kV doc pm cdv ct oc:kL}{an od:kN kQ}{osl:lE (kN kL)}{N ps:Wp Str}{sp:Sp}(lk:K.lookup f=Gc ⟨oc,od,.func (pH name qual params body scope dV kV doc pm an cdv ct),osl⟩)(hcd:rf K cdv qual=true)(S:AW N ps scope)(len:∀vs H Q E,sp vs H Q E->vs.length=ps.length)(hbody:∀(A:lV) (outer:Wp Env) (s:kM) (H:Hp) (vs:Wp V) (Q:VK) (E:XK),Ky k (A.deeper (envOfC qual scope s.heap.objs.size f cdv))->sp vs H Q E->∃t,PSs (UM CX P w K mg base N qual scope f cdv A outer s H E) body t/\t {nx:=λ_ H'=>Q .non H',rt:=Q} (start N vs) H):Nv P w K mg base CX (k+1) f (pH name qual params body scope dV kV doc pm an cdv ct) ps sp:=by
 refine⟨len,λA outer s H args us vs Q E hr e0 hb r hsp=>?_⟩
 have hl:=len _ _ _ _ hsp
 have KX:K.In s.heap:=e0.mod.kin.keeps λb o e=>(e0.bs b o e).1
 have lim:s.heap.NoLimit:=e0.mod.nolimit.keeps λb o e=>(e0.bs b o e).1
 have hkind:∀y∈ps.zip us,scope.names.lookup y.1=Gc .local\/(scope.names.lookup y.1=Gc .cell/\((cellsFrom (s.heap.objs.size+1) scope.names []).lookup y.1).isSome=true):=λ⟨n,v⟩ hy=>by
  rcases S.par n (qS hy).1 with q|q
  .exact .inl q
  .exact .inr ⟨q,tP _ _ _ (.inl q)⟩
 refine codeAny_call_function hr.depth (KX _ _ lk) rfl S.co S.gen rfl (PySem.W.codeRec_of KX hcd) (hb _ _ _ _ ?_)
 refine wpAny_newFunctionEnv_cells S.kind hkind λenv he s1 x=>?_
 subst he
 refine⟨lim.keeps x.toInCall.keep,codeAny_func ?_⟩
 obtain⟨t,ht,hq⟩:=hbody A outer s H vs Q E (hr.deeper _) hsp
 have I:Inv (UM CX P w K mg base N qual scope f cdv A outer s H E) [] (start N vs) H s1:=RQ S hr.hd e0 hl r x
 refine rX (ht [] s1 (start N vs) H _ I hq) (λfl s' hs=>?_) λe s' hs=>hs
 have fin:∀{σ':St} {H':Hp} {v:V} {u:kL},Inv (UM CX P w K mg base N qual scope f cdv A outer s H E) [] σ' H' s'->RelV v u->Q v H'->CE outer P w H s Q u s':=
  λ{σ' H' v u} J rv q=>⟨v,H',J.os,J.bare,J.base,J.hok,rv,q⟩
 cases fl with
 |ret u=>
  obtain⟨v,σ',H',J,rv,q⟩:=hs
  exact fin J rv q
 |next=>
  obtain⟨σ',H',J,q⟩:=hs
  exact fin (v:=V.non) (u:=mW) J rfl q
 |brk=>
  obtain⟨_,_,_,q⟩:=hs
  exact pF q
 |cont=>
  obtain⟨_,_,_,q⟩:=hs
  exact pF q
end L2
namespace L2
open PySem PySem.Spec PyProof.Rows
section
variable{X:Cx}{x:Str}{p pos:Pos}{e:lH}{es:Wp lH}{t:TA}{id T:oY}{r:Wp V->Hp->VK->Prop}
noncomputable def tCB(r:Wp V->Hp->VK->Prop)(t:TA):TE:=λσ H Q=>t σ H λvs H1=>r vs H1 Q
theorem VG(hc:DQ X (.builtin id) r)(hg:Gl X x)(hm:X.mg x=none)(hv:bootBuiltins x=Gc (.builtin id))(ha:PA X (e::es) t)(hn:x≠ "__name__":=by decide)(hdb:(x==("__debug__":Str))=false:=by decide)(he:k9 (e::es) X.env=(false,eval e X.env)::k9 es X.env:=by rfl)(hpl:(backTo pos (k9 es X.env)).any (·.1)=false:=by rfl):PE X (.Call (.Name x p) (e::es) [] pos) (tCB r t):=by
 intro pins s σ H Q I h
 refine pG (JN I hg hm hv ?_ hn hdb)
 exact wD (thn (ha pos pins s σ H _ I h) λus s1 ⟨vs,H1,I1,r1,q1⟩=>hc pins s1 σ H1 vs us Q I1 r1 q1) he hpl
theorem NZ(hc:DQ X (.type T) r)(hg:Gl X x)(hm:X.mg x=none)(hv:bootBuiltins x=Gc (.type T))(ha:PA X (e::es) t)(hn:x≠ "__name__":=by decide)(hdb:(x==("__debug__":Str))=false:=by decide)(he:k9 (e::es) X.env=(false,eval e X.env)::k9 es X.env:=by rfl)(hpl:(backTo pos (k9 es X.env)).any (·.1)=false:=by rfl):PE X (.Call (.Name x p) (e::es) [] pos) (tCB r t):=by
 intro pins s σ H Q I h
 refine pG (JN I hg hm hv ?_ hn hdb)
 exact nZ (thn (ha pos pins s σ H _ I h) λus s1 ⟨vs,H1,I1,r1,q1⟩=>hc pins s1 σ H1 vs us Q I1 r1 q1) he hpl
end
end L2
namespace HT
open PySem PyProof.Rows
section
open PySem.SeqAt
open PySem.AutoSeq1 (wpAny_loadPart')
open PySem.MeetsSeq PySem.MeetsSeq2 PySem.MeetsSeq3
end
section
variable{prog:k8}{w:lO}{A:lV}{E:kL->kM->Prop}{s:kM}
theorem Y5{t b:kQ}{vs ws:Wp kL}{Q:kL->kM->Prop}(ht:z7 s.heap t vs.toArray)(hb:z7 s.heap b ws.toArray)(hv:vs≠[])(h1:ws=[]->Q (.ref t) s)(h2:ws≠[]->Q (.ref s.heap.objs.size) {s with heap:=s.heap.push {cls:=.type "tuple",data:=.seq (vs++ws).toArray}})(hsz:vs.length+ws.length<=sizeLine):wpAny (model prog w) A (binaryOp .Add (.ref t) (.ref b)) Q E s:=by
 obtain⟨⟨cls,dd,data,sl⟩,ho,hc,n,hd⟩:=id ht
 obtain⟨⟨cls2,dd2,data2,sl2⟩,ho2,hc2,n2,hd2⟩:=id hb
 simp only at hc hd hc2 hd2
 subst hc hd hc2 hd2
 have e:vs.toArray++ws.toArray=(vs++ws).toArray:=by simp
 by_cases hw:ws=[]
 .exact vU ⟨_,ho,rfl⟩ ⟨_,ho2,rfl⟩ tE uu qh qa (qP _ _)
   (tuple_addW1 t b vs.toArray ws.toArray n n2 dd dd2 sl sl2 (by simpa using hv) (by simp[hw])) ⟨ho,ho2,h1 hw⟩
 .refine vU ⟨_,ho,rfl⟩ ⟨_,ho2,rfl⟩ tE uu qh qa (qP _ _)
   (tuple_addW2 t b vs.toArray ws.toArray n n2 dd dd2 sl sl2 (by simpa using hv) (by simpa using hw) (by rw[kh,kh];exact hsz)) ⟨ho,ho2,?_⟩
  rw[e]
  exact h2 hw
noncomputable def sIx(n d:Nat):kN Int->Nat
 |none=>d
 |some v=>if v<0 then(v+(n:Int)).toNat else min v.toNat n
theorem Ob(n d k:Nat):sIx n d (Gc (k:Int))=min k n:=by
 show(if(k:Int)<0 then((k:Int)+(n:Int)).toNat else min (k:Int).toNat n)=min k n
 rw[lJ (by lia),pq]
theorem ae(n d:Nat)(hd:d<=n)(o:kN Int):sIx n d o<=n:=by
 cases o with
 |none=>exact hd
 |some v=>
  show(if v<0 then(v+(n:Int)).toNat else min v.toNat n)<=n
  by_cases hv:v<0
  .rw[lF hv];lia
  .rw[lJ hv];exact wF _ _
theorem RC(v:Int)(n d:Nat):(if v<0 then max (v+(n:Int)) 0 else min v (n:Int))=((sIx n d (Gc v):Nat):Int):=by
 show(if v<0 then max (v+(n:Int)) 0 else min v (n:Int))=(((if v<0 then(v+(n:Int)).toNat else min v.toNat n):Nat):Int)
 by_cases hv:v<0
 .simp only[lF hv];lia
 .simp only[lJ hv];lia
theorem QM(lo hi:kN Int)(n:Nat):qI lo hi 1 (n:Int)=(((sIx n 0 lo:Nat):Int),((sIx n n hi:Nat):Int)):=by
 have h1:¬((1:Int)<0):=by lia
 unfold qI
 simp only[h1,p0]
 refine Prod.ext ?_ ?_
 .cases lo with
  |none=>rfl
  |some v=>exact RC v n 0
 .cases hi with
  |none=>rfl
  |some v=>exact RC v n n
theorem QJ(i j:Nat):oK (i:Int) (j:Int) 1=j-i:=by
 unfold oK
 have h1:(1:Int)>0:=by lia
 simp only[h1,q9,Int.ediv_one]
 split<;>lia
theorem LV{v:kL}{o:kN Int}{Q:kN Int->kM->Prop}(p:tQ v o)(h:Q o s):wpAny (model prog w) A (wd v) Q E s:=by
 cases p with
 |none=>exact xG h
 |int i t=>exact slicePart_int h
theorem GO{sl:kQ}{vl vu:kL}{lo hi:kN Int}{n:Nat}{Q:Int×Int×Nat->kM->Prop}(hs:s.heap.IsSliceOf sl vl vu .none)(pl:tQ vl lo)(pu:tQ vu hi)(h:Q (((sIx n 0 lo:Nat):Int),1,sIx n n hi-sIx n 0 lo) s):wpAny (model prog w) A (rg (.ref sl) (pure (n:Int))) Q E s:=by
 obtain⟨os,hos,hcs,hds⟩:=id hs
 unfold rg xh
 refine kH (kH (nq hos hds (x:=vl) rfl (kH (nq hos hds (x:=vu) rfl (kH (nq hos hds (x:=.none) rfl (kO ?_)))))))
 refine kH (xG ?_)
 show wpAny _ _ (if((1:Int)==0)=true then _ else _) _ _ s
 rw[lJ (by decide)]
 refine kH (LV pl (kH (LV pu (kH (kO ?_)))))
 show wpAny _ _ (match qI lo hi 1 (n:Int)with|(lo,hi)=>pure (lo,(1:Int),oK lo hi 1)) _ _ s
 rw[QM lo hi n]
 show wpAny _ _ (pure (((sIx n 0 lo:Nat):Int),(1:Int),oK ((sIx n 0 lo:Nat):Int) ((sIx n n hi:Nat):Int) 1)) _ _ s
 rw[QJ]
 exact kO h
theorem U0(xs:lE kL)(i k:Nat):((lT k).filterMap λ(m:Nat)=>xs[((i:Int)+(m:Int)*1).toNat]?).toArray=((xs.toList.drop i).take k).toArray:=by
 have e:(λ(m:Nat)=>xs[((i:Int)+(m:Int)*1).toNat]?)=λm=>xs[i+m]?:=by
  funext m
  have:((i:Int)+(m:Int)*1).toNat=i+m:=by lia
  rw[this]
 rw[e]
 have:=pick_run xs i k
 rw[List.filterMap_map]at this
 have e2:((λx=>xs[x]?)∘λx=>i+x)=λm=>xs[i+m]?:=rfl
 rw[e2]at this
 rw[this]
theorem Iu{t sl:kQ}{items:lE kL}{vl vu:kL}{lo hi:kN Int}{Q:kL->kM->Prop}(ht:z7 s.heap t items)(hs:s.heap.IsSliceOf sl vl vu .none)(pl:tQ vl lo)(pu:tQ vu hi)(hw:¬(sIx items.size 0 lo=0/\sIx items.size items.size hi=items.size))(h:Q (.ref s.heap.objs.size) {s with heap:=s.heap.push {cls:=.type "tuple",data:=.seq ((items.toList.drop (sIx items.size 0 lo)).take (sIx items.size items.size hi-sIx items.size 0 lo)).toArray}})(hsz:items.size<=sizeLine):wpAny (model prog w) A (getItem (.ref t) (.ref sl)) Q E s:=by
 have htake:sizeOk (.seq ((items.toList.drop (sIx items.size 0 lo)).take (sIx items.size items.size hi-sIx items.size 0 lo)).toArray):=by
  show((items.toList.drop (sIx items.size 0 lo)).take (sIx items.size items.size hi-sIx items.size 0 lo)).toArray.size<=sizeLine
  rw[kh,pA,wG,mJ]
  lia
 have hj:sIx items.size items.size hi<=items.size:=ae _ _ (kR _) hi
 obtain⟨os,hos,hcs,hds⟩:=id hs
 have hTs:s.TypeIs (.ref sl) "slice":=⟨os,hos,hcs⟩
 unfold getItem
 try with_reducible refine lh ?_
 first|refine kH (kO ?_)|skip
 refine kH (vV ht.typeIs (by decide) ?_)
 refine kH (lx (name:=mL "__getitem__") ht.typeIs mE
  (lg mE ht.typeIs uj ?_ (vC _ _)))
 show wpAny _ _ (rh (.ref t) >>= _) _ _ s
 refine kH (xy ht ?_)
 refine kH (qD hTs ?_)
 rw[lF (by decide)]
 refine kH (GO hs pl pu ?_)
 have hno:¬((((sIx items.size 0 lo:Nat):Int)==0 && (1:Int)==1 && (sIx items.size items.size hi-sIx items.size 0 lo)==items.size)=true):=by
  intro q
  rw[kn,kn]at q
  have q1:((sIx items.size 0 lo:Nat):Int)=0:=eq_of_beq q.1.1
  have q2:sIx items.size items.size hi-sIx items.size 0 lo=items.size:=eq_of_beq q.2
  exact hw ⟨by lia,by lia⟩
 show wpAny _ _ (if(((sIx items.size 0 lo:Nat):Int)==0 && (1:Int)==1 && (sIx items.size items.size hi-sIx items.size 0 lo)==items.size)=true then _ else _) _ _ s
 rw[lJ hno,U0]
 first
  |exact kH (m:=oa _) (lu (kO ⟨_,rfl,kO h⟩) htake)
  |exact kH (m:=oa _) (lu (kH (kO (kO ⟨_,rfl,kO h⟩))) htake)
  |exact kH (kH (m:=oa _) (lu (kO (kO ⟨_,rfl,kO h⟩)) htake))
  |exact kH (kH (m:=oa _) (lu (kO ⟨_,rfl,kO h⟩) htake))
end
end HT
namespace L2
open PySem PySem.Spec PyProof.Rows
abbrev TO:=St->Hp->(kN Int->Hp->Prop)->Prop
def PO(X:Cx)(e:kN lH)(t:TO):Prop:=
 ∀(pins:Wp (kQ×Obj)) (s:kM) (σ:St) (H:Hp) (Q:kN Int->Hp->Prop),Inv X pins σ H s->t σ H Q->
  wpAny (model X.prog X.w) X.A (evalPart e X.env) (λu s'=>∃o H',Inv X pins σ H' s'/\tQ u o/\Q o H') X.xe s
noncomputable def Xx:TO:=λ_ H Q=>Q none H
noncomputable def dm(t:TE):TO:=λσ H Q=>t σ H λx H1=>∃i,x=.int i/\Q (Gc i) H1
theorem intsAre_of{ns:Wp Int}:∀{us:Wp kL},Vals (ns.map V.int) us->nV us ns:=by
 induction ns with
 |nil=>intro us r;rw[mX]at r;cases r;exact .nil
 |cons n ns ih=>
  intro us r
  rw[kq]at r
  cases r with
  |cons r1 r2=>
   obtain⟨t,e⟩:=r1
   subst e
   exact .cons n t (ih r2)
section
variable{X:Cx}{e:lH}{te:TE}{lo hi:kN lH}{tl th:TO}{pos p2:Pos}
theorem Sv:PO X none Xx:=by
 intro pins s σ H Q I h
 rw[x8]
 exact kO ⟨none,H,I,.none,h⟩
theorem Md(h:PE X e te):PO X (Gc e) (dm te):=by
 intro pins s σ H Q I hw
 rw[evalPart_some]
 refine thn (h pins s σ H _ I hw) λu s1 ⟨x,H1,I1,r1,q1⟩=>?_
 obtain⟨i,rfl,q⟩:=q1
 obtain⟨t,rfl⟩:=r1
 exact⟨Gc i,H1,I1,.int i t,q⟩
def SlR(X:Cx)(r:V->kN Int->kN Int->Hp->VK->Prop):Prop:=
 ∀(pins:Wp (kQ×Obj)) (s:kM) (σ:St) (H:Hp) (x:V) (v vl vu:kL) (lo hi:kN Int) (sl:kQ) (Q:VK),Inv X pins σ H s->RelV x v->s.heap.IsSliceOf sl vl vu .none->tQ vl lo->tQ vu hi->r x lo hi H Q->
  ∃T id,typeLookup (.type T) "__getitem__"=pure (Gc (.builtin id))/\s.TypeIs v T/\wpAny (model X.prog X.w) X.A (getItem v (.ref sl)) (EP X pins σ Q) X.xe s
noncomputable def tSl(r:V->kN Int->kN Int->Hp->VK->Prop)(te:TE)(tl th:TO):TE:=λσ H Q=>te σ H λx H1=>tl σ H1 λl H2=>th σ H2 λu H3=>r x l u H3 Q
theorem Mg{r:V->kN Int->kN Int->Hp->VK->Prop}(hr:SlR X r)(he:PE X e te)(hl:PO X lo tl)(hu:PO X hi th):PE X (.Subscript e (.Slice lo hi none p2) pos) (tSl r te tl th):=by
 intro pins s σ H Q I h
 refine Subscript_ (thn (he pins s σ H _ I h) λv s1 ⟨x,H1,I1,r1,q1⟩=>?_)
 refine wpAny_Slice (thn (hl pins s1 σ H1 _ I1 q1) λvl s2 ⟨l,H2,I2,pl,q2⟩=>thn (hu pins s2 σ H2 _ I2 q2) λvu s3 ⟨u,H3,I3,pu,q3⟩=>?_)
 rw[x8]
 refine kO ?_
 have I4:Inv X pins σ H3 {s3 with heap:=s3.heap.push {cls:=.type "slice",data:=.fields #[vl,vu,.none]}}:=I3.kept (t':=s3.toks) λb ob q=>kK _ q
 obtain⟨T,id,hT,ht,hg⟩:=hr pins {s3 with heap:=s3.heap.push {cls:=.type "slice",data:=.fields #[vl,vu,.none]}} σ H3 x v vl vu l u s3.heap.objs.size Q I4 r1 (Heap.IsSliceOf.new ..) pl pu q3
 show wpAny (model X.prog X.w) X.A (subscriptTail e (.Slice lo hi none p2) v (.ref s3.heap.objs.size)) (EP X pins σ Q) X.xe {s3 with heap:=s3.heap.push {cls:=.type "slice",data:=.fields #[vl,vu,.none]}}
 exact tail_any (ops:=[.ref s3.heap.objs.size,v]) ht hT hg (by with_unfolding_all rfl)
noncomputable def Wn(xs:Wp V)(lo hi:kN Int):Wp V:=(xs.drop (HT.sIx xs.length 0 lo)).take (HT.sIx xs.length xs.length hi-HT.sIx xs.length 0 lo)
theorem Kt(xs:Wp V)(lo hi:kN Int):(Wn xs lo hi).length<=xs.length:=by
 unfold Wn
 rw[pA,wG]
 lia
def jW(K:kJ):V->kN Int->kN Int->Hp->VK->Prop:=λx lo hi H Q=>∃a xs,x=.ref a/\SqT K H a xs/\
 ¬(HT.sIx xs.length 0 lo=0/\HT.sIx xs.length xs.length hi=xs.length)/\∀p,H p=none->Q (.ref p) (upd H p (.tup (Wn xs lo hi)))
theorem ay:SlR X (jW X.K):=by
 intro pins s σ H x v vl vu lo hi sl Q I rx hs pl pu h
 obtain⟨a,xs,rfl,hx,hw,q⟩:=h
 cases rx
 obtain⟨its,r,ht,hz⟩:=I.tuple hx
 have hlen:its.toArray.size=xs.length:=by rw[kh];exact r.length.symm
 refine⟨"tuple",_,mE.lookup,ht.typeIs,?_⟩
 refine HT.Iu ht hs pl pu (by rw[hlen];exact hw) ?_ (by rw[hlen];exact hz)
 rw[hlen]
 refine⟨.ref s.heap.objs.size,_,I.laid (t':=s.toks) (o:=.tup (Wn xs lo hi)) (λb ob q=>kK _ q) (kR _) ?_,rfl,q _ (I.hok.fresh (kR _))⟩
 exact⟨kY (Kt xs lo hi) hz,_,(r.drop (HT.sIx xs.length 0 lo)).take (HT.sIx xs.length xs.length hi-HT.sIx xs.length 0 lo),qM _ _⟩
noncomputable def dj(K:kJ):R2:=λx y H Q=>∃a b xs ys,x=.ref a/\y=.ref b/\SqT K H a xs/\SqT K H b ys/\xs≠[]/\xs.length+ys.length<=sizeLine/\
 (ys=[]->Q (.ref a) H)/\(ys≠[]->∀p,H p=none->Q (.ref p) (upd H p (.tup (xs++ys))))
theorem Vals.Ml{xs:Wp V}{us:Wp kL}(r:Vals xs us):us=[]↔xs=[]:=by
 cases r with
 |nil=>simp
 |cons _ _=>simp
theorem YZ:OpR X (binaryOp .Add) (dj X.K):=by
 intro pins s σ H x y v u Q I rx ry h
 obtain⟨a,b,xs,ys,rfl,rfl,ha,hb,hx,hz,q1,q2⟩:=h
 cases rx
 cases ry
 obtain⟨its,r1,p1,_⟩:=I.tuple ha
 obtain⟨its2,r2,p2,_⟩:=I.tuple hb
 refine HT.Y5 p1 p2 (λz=>hx (r1.Ml.mp z)) (λz=>⟨.ref a,H,I,rfl,q1 (r2.Ml.mp z)⟩) (λz=>?_) (by rw[<-r1.length,<-r2.length];exact hz)
 refine⟨.ref s.heap.objs.size,_,I.laid (t':=s.toks) (o:=.tup (xs++ys)) (λb ob q=>kK _ q) (kR _) ?_,rfl,q2 (λw=>z (r2.Ml.mpr w)) _ (I.hok.fresh (kR _))⟩
 exact⟨by rw[lQ];exact hz,_,r1.append r2,qM _ _⟩
end
end L2
namespace L2
open PySem PySem.Spec PyProof.Rows
noncomputable def ixN(n:Nat)(i:Int):kN Nat:=if 0<=i then(if i<n then Gc i.toNat else none)else if-(n:Int)<=i then Gc (i+n).toNat else none
noncomputable def atI{α:Type}(xs:Wp α)(i:Int):kN α:=(ixN xs.length i).bind λj=>xs[j]?
theorem Qn{n:Nat}{i:Int}{j:Nat}(h:ixN n i=Gc j):seqIndex? i n=Gc j/\j<n/\ -(n:Int)<=i/\i<n:=by
 unfold ixN at h
 by_cases h0:0<=i
 .rw[lF h0]at h
  by_cases h1:i<n
  .rw[lF h1]at h
   have e:i.toNat=j:=mO h
   exact⟨by rw[wX h0 h1,e],by lia,by lia,h1⟩
  .rw[lJ h1]at h;cases h
 .rw[lJ h0]at h
  by_cases h1: -(n:Int)<=i
  .rw[lF h1]at h
   have e:(i+n).toNat=j:=mO h
   exact⟨by rw[seqIndex_neg (by lia) h1,e],by lia,h1,by lia⟩
  .rw[lJ h1]at h;cases h
theorem R4{α:Type}{xs:Wp α}{i:Int}{v:α}(h:atI xs i=Gc v):∃j,seqIndex? i xs.length=Gc j/\xs[j]?=Gc v/\j<xs.length/\ -(xs.length:Int)<=i/\i<xs.length:=by
 unfold atI at h
 cases e:ixN xs.length i with
 |none=>rw[e]at h;cases h
 |some j=>
  rw[e]at h
  obtain⟨h1,h2,h3,h4⟩:=Qn e
  exact⟨j,h1,h,h2,h3,h4⟩
theorem YT{α:Type}{xs:Wp α}{j:Nat}{v:α}(h:xs[j]?=Gc v):atI xs (j:Int)=Gc v:=by
 have hj:j<xs.length:=(ke.mp h).1
 have e:ixN xs.length (j:Int)=Gc j:=by
  unfold ixN
  rw[lF (by lia),lF (by lia)];simp
 unfold atI;rw[e];exact h
theorem Pk{α:Type}(xs:Wp α)(v:α):atI (xs++[v]) (-1)=Gc v:=by
 have hl:(xs++[v]).length=xs.length+1:=by simp
 have e:ixN (xs++[v]).length (-1)=Gc xs.length:=by
  unfold ixN
  rw[hl,lJ (by decide),lF (by lia)]
  congr 1
  lia
 unfold atI
 rw[e]
 show(xs++[v])[xs.length]?=Gc v
 simp
def Qm(b:lH):Prop:=∀o i,subscripted b false o i=operate [o,i] (getItem o i)
def IxR(X:Cx)(r:R2):Prop:=
 ∀(value slice:lH) (pins:Wp (kQ×Obj)) (s:kM) (σ:St) (H:Hp) (x y:V) (v u:kL) (Q:VK),Inv X pins σ H s->RelV x v->RelV y u->r x y H Q->
  subscripted slice false v u=operate [v,u] (getItem v u)->wpAny (model X.prog X.w) X.A (subscriptTail value slice v u) (EP X pins σ Q) X.xe s
def MtR(X:Cx)(id:oY)(r:V->Wp V->Hp->VK->Prop):Prop:=
 ∀(pins:Wp (kQ×Obj)) (s:kM) (σ:St) (H:Hp) (x:V) (xs:Wp V) (v:kL) (us:Wp kL) (Q:VK),Inv X pins σ H s->RelV x v->Vals xs us->r x xs H Q->
  wpAny (model X.prog X.w) X.A (call (.builtin id) (v::us)) (EP X pins σ Q) X.xe s
section
variable{X:Cx}{a b:lH}{ta tb:TE}{pos:Pos}
theorem fT{r:R2}(hr:IxR X r)(ha:PE X a ta)(hb:PE X b tb)(hs:Qm b):PE X (.Subscript a b pos) (tOp r ta tb):=by
 intro pins s σ H Q I h
 exact Subscript_ (gA ha hb I h λv u s2 x y H2 I2 rx ry q=>hr a b pins s2 σ H2 x y v u Q I2 rx ry q (hs _ _))
noncomputable def iO(K:kJ):R2:=λx y H Q=>∃p xs i v,x=.ref p/\y=.int i/\SqL K H p xs/\atI xs i=Gc v/\Q v H
noncomputable def iV(K:kJ):R2:=λx y H Q=>∃p xs i v,x=.ref p/\y=.int i/\SqT K H p xs/\atI xs i=Gc v/\Q v H
theorem Y6:IxR X (iO X.K):=by
 intro value slice pins s σ H x y v u Q I rx ry h hs
 obtain⟨p,xs,i,z,rfl,rfl,hq,he,q⟩:=h
 cases rx
 obtain⟨t,rfl⟩:=ry
 obtain⟨its,r,pl,hz⟩:=I.list hq
 obtain⟨j,h1,h2,h3,h4,h5⟩:=R4 he
 obtain⟨w,ew,rw'⟩:=r.get h2
 have hl:=r.length
 have hn:=Nc
 have fin:EP X pins σ Q w s:=⟨z,H,I,rw',q⟩
 by_cases h0:0<=i
 .have hj:i.toNat=j:=by
   rw[wX h0 h5]at h1
   exact mO h1
  exact item_listR pl.isList h0 (by lia) (by rw[hj];simpa using ew) fin hs
 .have hj:(i+(its.toArray.size:Int)).toNat=j:=by
   rw[seqIndex_neg (by lia) h4]at h1
   rw[kh,<-hl]
   exact mO h1
  exact tR (x:=w) pl.isList.typeIs vW.lookup
   (wpAny_getItem_list_neg (Q:=λr s'=>r=w/\EP X pins σ Q r s') pl.isList (by lia) (by rw[kh]<;>lia) (by lia) (by rw[hj];simpa using ew) ⟨rfl,fin⟩) hs
theorem Zp:IxR X (iV X.K):=by
 intro value slice pins s σ H x y v u Q I rx ry h hs
 obtain⟨p,xs,i,z,rfl,rfl,hq,he,q⟩:=h
 cases rx
 obtain⟨t,rfl⟩:=ry
 obtain⟨its,r,pl,hz⟩:=I.tuple hq
 obtain⟨j,h1,h2,h3,h4,h5⟩:=R4 he
 obtain⟨w,ew,rw'⟩:=r.get h2
 have hl:=r.length
 have hn:=Nc
 have fin:EP X pins σ Q w s:=⟨z,H,I,rw',q⟩
 exact tR (x:=w) pl.typeIs mE.lookup
  (getItem_tuple (j:=j) (Q:=λr s'=>r=w/\EP X pins σ Q r s') pl (by lia) (by lia) (by rw[kh,<-hl];exact h1) (by simpa using ew) ⟨rfl,fin⟩) hs
theorem QK(its:Wp kL)(n j:Nat)(u:kL):lX (·.setIfInBounds j u) {cls:=.type "list",data:=.seq its.toArray n}={cls:=.type "list",data:=.seq (its.set j u).toArray n}:=by
 simp[lX]
theorem Inv.lst{pins:Wp (kQ×Obj)}{σ:St}{H:Hp}{s:kM}{p:kQ}{xs:Wp V}(I:Inv X pins σ H s)(h:H p=Gc (.lst xs)):∃(its:Wp kL) (n:Nat),Vals xs its/\s.heap.get? p=Gc {cls:=.type "list",data:=.seq its.toArray n}/\xs.length<=sizeLine:=by
 obtain⟨z,its,n,r,e⟩:=I.hok p _ h
 exact⟨its,n,r,e,z⟩
theorem Inv.aE{pins:Wp (kQ×Obj)}{σ:St}{H:Hp}{s:kM}{p:kQ}{xs ys:Wp V}{its its':Wp kL}{n n':Nat}{f:Obj->Obj}(I:Inv X pins σ H s)(h:H p=Gc (.lst xs))(ho:s.heap.get? p=Gc {cls:=.type "list",data:=.seq its.toArray n})(hf:f {cls:=.type "list",data:=.seq its.toArray n}={cls:=.type "list",data:=.seq its'.toArray n'})(r:Vals ys its')(hz:ys.length<=sizeLine)(t:Nat):Inv X pins σ (upd H p (.lst ys)) {s with heap:=s.heap.update p f,toks:=t}:=by
 have e:(s.heap.update p f).get? p=Gc {cls:=.type "list",data:=.seq its'.toArray n'}:=by
  rw[lZ f ho (by rw[hf]<;>rfl),hf]
 refine I.write (x:=p) (e:=p) (by rw[h];trivial) (.inl rfl) (λb u hb q=>(mS _ _ (mR hb)).trans q) ⟨_,e⟩ ?_
 exact⟨hz,its',n',r,e⟩
def gB:V->V->V->Hp->(Hp->Prop)->Prop:=λo i v H Q=>∃p xs k j,o=.ref p/\i=.int k/\H p=Gc (.lst xs)/\ixN xs.length k=Gc j/\Q (upd H p (.lst (xs.set j v)))
theorem set_list:iJ X gB:=by
 intro pins s σ H o i v ov iv u Q I ro ri rv h
 obtain⟨p,xs,k,j,rfl,rfl,hp,hj,q⟩:=h
 cases ro
 obtain⟨t,rfl⟩:=ri
 obtain⟨its,n,r,ho,hz⟩:=I.lst hp
 obtain⟨h1,h2,h3,h4⟩:=Qn hj
 have hl:=r.length
 have hn:=Nc
 have I':Inv X pins σ (upd H p (.lst (xs.set j v))) {s with heap:=s.heap.update p (lX (·.setIfInBounds j u))}:=
  I.aE hp ho (QK its n j u) (r.set rv j) (by rw[oP];exact hz) s.toks
 by_cases h0:0<=k
 .have hk:k.toNat=j:=by
   rw[wX h0 h4]at h1
   exact mO h1
  exact PySem.W.ki_setAt ho h0 (by lia) (by rw[kh,<-hl];exact h4) (by rw[hk];exact⟨_,I',q⟩)
 .have hk:(k+(its.toArray.size:Int)).toNat=j:=by
   rw[seqIndex_neg (by lia) h3]at h1
   rw[kh,<-hl]
   exact mO h1
  exact PySem.W.ki_setBack ho (by lia) (by rw[kh,<-hl];exact h3) (by lia) (by rw[hk];exact⟨_,I',q⟩)
theorem NJ(lo hi:kN Int)(n:Nat):(sliceBounds lo hi none n).1=((HT.sIx n 0 lo:Nat):Int)/\(sliceBounds lo hi none n).2.1=((HT.sIx n n hi:Nat):Int)/\(sliceBounds lo hi none n).2.2=1:=by
 refine⟨?_,?_,rfl⟩
 .cases lo with
  |none=>simp[sliceBounds,HT.sIx]
  |some i=>
   simp only[sliceBounds,HT.sIx,wH,show(1:Int)>0 by decide,q9]
   by_cases h:i<0
   .simp only[h,q9]<;>lia
   .simp only[h,p0]<;>lia
 .cases hi with
  |none=>simp[sliceBounds,HT.sIx]
  |some i=>
   simp only[sliceBounds,HT.sIx,wH,show(1:Int)>0 by decide,q9]
   by_cases h:i<0
   .simp only[h,q9]<;>lia
   .simp only[h,p0]<;>lia
theorem MU(its:Wp kL)(lo hi:kN Int):slicePick its.toArray lo hi none=((its.drop (HT.sIx its.length 0 lo)).take (HT.sIx its.length its.length hi-HT.sIx its.length 0 lo)).toArray:=by
 obtain⟨h1,h2,h3⟩:=NJ lo hi its.toArray.size
 unfold slicePick
 rw[h1,h2,h3]
 simp only[sliceRange_one,pick_run,kh]<;>rfl
def ig(K:kJ):V->kN Int->kN Int->Hp->VK->Prop:=λx lo hi H Q=>∃a xs,x=.ref a/\SqL K H a xs/\∀p,H p=none->Q (.ref p) (upd H p (.lst (Wn xs lo hi)))
theorem YR:SlR X (ig X.K):=by
 intro pins s σ H x v vl vu lo hi sl Q I rx hs pl pu h
 obtain⟨a,xs,rfl,hx,q⟩:=h
 cases rx
 obtain⟨its,r,ht,hz⟩:=I.list hx
 have hlen:=r.length
 refine⟨"list",_,vW.lookup,ht.isList.typeIs,?_⟩
 refine wpAny_getItem_list_slice ht.isList hs pl pu .none (by simp) ?_ (by rw[kh]<;>lia)
 rw[MU,<-hlen]
 refine⟨.ref s.heap.objs.size,_,I.laid (t':=s.toks) (o:=.lst (Wn xs lo hi)) (λb ob q=>kK _ q) (kR _) ?_,rfl,q _ (I.hok.fresh (kR _))⟩
 exact⟨kY (Kt xs lo hi) hz,_,0,(r.drop (HT.sIx xs.length 0 lo)).take (HT.sIx xs.length xs.length hi-HT.sIx xs.length 0 lo),kZ _ rfl⟩
noncomputable def K0:V->lM
 | .non=>true
 | .bl _=>true
 | .int _=>true
 | .str _=>true
 |_=>false
noncomputable def eqV:V->V->lM
 | .non,.non=>true
 | .bl a,.bl b=>a==b
 | .bl a,.int b=>(if a then 1 else 0)==b
 | .int a,.bl b=>a==(if b then 1 else 0)
 | .int a,.int b=>a==b
 | .str a,.str b=>a==b
 |_,_=>false
theorem cB{A:lV}{s:kM}{y x:V}{u v:kL}(ry:RelV y u)(rx:RelV x v)(fy:K0 y=true)(fx:K0 x=true):SeqAt.EqAt A s u v (eqV y x):=by
 cases y with
 |non=>
  cases ry
  cases x with
  |non=>cases rx;exact SeqAt.EqAt.same _
  |bl b=>cases rx;exact SeqAt.EqAt.none_bool b
  |int b=>obtain⟨t,rfl⟩:=rx;exact SeqAt.EqAt.none_int b t
  |str b=>obtain⟨t,rfl⟩:=rx;exact SeqAt.EqAt.none_str b t
  |_=>exact absurd (show false=true from fx) l8
 |bl a=>
  cases ry
  cases x with
  |non=>cases rx;exact SeqAt.EqAt.bool_none a
  |bl b=>cases rx;exact SeqAt.EqAt.bool_bool a b
  |int b=>obtain⟨t,rfl⟩:=rx;exact SeqAt.EqAt.bool_int a b t
  |str b=>obtain⟨t,rfl⟩:=rx;exact SeqAt.EqAt.bool_str a b t
  |_=>exact absurd (show false=true from fx) l8
 |int a=>
  obtain⟨t',rfl⟩:=ry
  cases x with
  |non=>cases rx;exact SeqAt.EqAt.int_none a t'
  |bl b=>cases rx;exact SeqAt.EqAt.int_bool a t' b
  |int b=>obtain⟨t,rfl⟩:=rx;exact SeqAt.EqAt.int_int a t' b t
  |str b=>obtain⟨t,rfl⟩:=rx;exact uy a t' b t
  |_=>exact absurd (show false=true from fx) l8
 |str a=>
  obtain⟨t',rfl⟩:=ry
  cases x with
  |non=>cases rx;exact SeqAt.EqAt.str_none a t'
  |bl b=>cases rx;exact SeqAt.EqAt.str_bool a t' b
  |int b=>obtain⟨t,rfl⟩:=rx;exact uz a t' b t
  |str b=>obtain⟨t,rfl⟩:=rx;exact SeqAt.EqAt.str_str a t' b t
  |_=>exact absurd (show false=true from fx) l8
 |_=>exact absurd (show false=true from fy) l8
noncomputable def eqU(x:V)(u:kL):lM:=match u with
 | .none=>eqV .non x
 | .bool b=>eqV (.bl b) x
 | .int i _=>eqV (.int i) x
 | .str z _=>eqV (.str z) x
 |_=>false
theorem Wd{x y:V}{u:kL}(r:RelV y u)(f:K0 y=true):eqU x u=eqV y x:=by
 cases y with
 |non=>cases r;rfl
 |bl b=>cases r;rfl
 |int i=>obtain⟨t,rfl⟩:=r;rfl
 |str z=>obtain⟨t,rfl⟩:=r;rfl
 |_=>exact absurd (show false=true from f) l8
theorem Kq{x:V}:∀{xs:Wp V} {us:Wp kL},Vals xs us->xs.all K0=true->us.any (eqU x)=xs.any λy=>eqV y x
 |_,_,.nil,_=>rfl
 |y::xs,u::us,.cons r t,f=>by
  rw[pV,kn]at f
  rw[nP,nP,Wd r f.1,Kq t f.2]
theorem IS{A:lV}{s:kM}{x:V}{v:kL}(rx:RelV x v)(fx:K0 x=true):∀{xs:Wp V} {us:Wp kL},Vals xs us->xs.all K0=true->∀u∈us,SeqAt.EqAt A s u v (eqU x u)
 |_,_,.nil,_=>λu hu=>by cases hu
 |y::xs,u::us,.cons r t,f=>λu' hu=>by
  rw[pV,kn]at f
  rcases kX.mp hu with rfl|hu
  .rw[Wd r f.1];exact cB r rx f.1 fx
  .exact IS rx fx t f.2 u' hu
noncomputable def inV(x:V)(xs:Wp V):lM:=xs.any λy=>eqV y x
noncomputable def rIn(K:kJ)(neg:lM):R2:=λx y H Q=>∃p xs,y=.ref p/\(SqL K H p xs\/SqT K H p xs)/\K0 x=true/\xs.all K0=true/\Q (.bl (if neg then !inV x xs else inV x xs)) H
theorem RL:OpR X (compareOp .In) (rIn X.K false):=by
 intro pins s σ H x y v u Q I rx ry h
 obtain⟨p,xs,rfl,hq,fx,fs,q⟩:=h
 cases ry
 rcases hq with hq|hq
 .obtain⟨its,r,pl,hz⟩:=I.list hq
  refine SeqAt.in_listAt (eqU x) pl.isList (λw hw=>IS rx fx r fs w (by simpa using hw)) ⟨.bl _,H,I,rfl,?_⟩
  rw[show its.toArray.any (eqU x)=its.any (eqU x) by simp,Kq r fs]
  exact q
 .obtain⟨its,r,pl,hz⟩:=I.tuple hq
  refine SeqAt.in_tupleAt (eqU x) pl (λw hw=>IS rx fx r fs w (by simpa using hw)) ⟨.bl _,H,I,rfl,?_⟩
  rw[show its.toArray.any (eqU x)=its.any (eqU x) by simp,Kq r fs]
  exact q
theorem Ng:OpR X (compareOp .NotIn) (rIn X.K true):=by
 intro pins s σ H x y v u Q I rx ry h
 obtain⟨p,xs,rfl,hq,fx,fs,q⟩:=h
 cases ry
 rcases hq with hq|hq
 .obtain⟨its,r,pl,hz⟩:=I.list hq
  refine SeqAt.notIn_listAt (eqU x) pl.isList (λw hw=>IS rx fx r fs w (by simpa using hw)) ⟨.bl _,H,I,rfl,?_⟩
  rw[show its.toArray.any (eqU x)=its.any (eqU x) by simp,Kq r fs]
  exact q
 .obtain⟨its,r,pl,hz⟩:=I.tuple hq
  refine SeqAt.notIn_tupleAt (eqU x) pl (λw hw=>IS rx fx r fs w (by simpa using hw)) ⟨.bl _,H,I,rfl,?_⟩
  rw[show its.toArray.any (eqU x)=its.any (eqU x) by simp,Kq r fs]
  exact q
theorem N2:DQ X (.builtin "len") (λxs H Q=>∃p ys,xs=[.ref p]/\(SqL X.K H p ys\/SqT X.K H p ys)/\Q (.int ys.length) H):=by
 intro pins s σ H xs us Q I r h
 obtain⟨p,ys,rfl,hq,q⟩:=h
 obtain⟨u,rfl,rx⟩:=vals1 r
 cases rx
 have hn:=Nc
 rcases hq with hq|hq
 .obtain⟨its,r',pl,hz⟩:=I.list hq
  have hlen:=r'.length
  exact Calls.call_len_list pl.isList (by simp only[kh]<;>lia) ⟨.int ys.length,H,I.tok _,⟨s.toks+1,by rw[kh,hlen]⟩,q⟩
 .obtain⟨its,r',pl,hz⟩:=I.tuple hq
  have hlen:=r'.length
  exact len_tuple pl (by simp only[kh]<;>lia) ⟨.int ys.length,H,I.tok _,⟨s.toks+1,by rw[kh,hlen]⟩,q⟩
theorem Nm:DQ X (.builtin "len") (λxs H Q=>∃z,xs=[.str z]/\z.length<=sizeLine/\Q (.int z.length) H):=by
 intro pins s σ H xs us Q I r h
 obtain⟨z,rfl,hz,q⟩:=h
 obtain⟨u,rfl,t,rfl⟩:=vals1 r
 have hn:=Nc
 exact len_str (by lia) ⟨.int z.length,H,I.tok _,⟨_,rfl⟩,q⟩
theorem OJ:DQ X (.type "list") (λxs H Q=>∃p ys,xs=[.ref p]/\(SqL X.K H p ys\/SqT X.K H p ys)/\∀l,H l=none->Q (.ref l) (upd H l (.lst ys))):=by
 intro pins s σ H xs us Q I r h
 obtain⟨p,ys,rfl,hq,q⟩:=h
 obtain⟨u,rfl,rx⟩:=vals1 r
 cases rx
 have fin:∀(its:Wp kL),Vals ys its->ys.length<=sizeLine->∀(h':lP) (c':Nat),(∀b o',s.heap.get? b=Gc o'->h'.get? b=Gc o')->
   h'.get? s.heap.objs.size=Gc {cls:=.type "list",dict:=none,data:=.seq its.toArray c',slots:= #[]}->EP X pins σ Q (.ref s.heap.objs.size) {s with heap:=h'}:=λits r' hz h' c' kp e=>
  ⟨.ref s.heap.objs.size,_,I.laid (t':=s.toks) kp (kR _) (show Dw X.prog X.w _ h' _ (.lst ys)from⟨hz,its,c',r',e⟩),rfl,q _ (I.hok.fresh (kR _))⟩
 rcases hq with hq|hq
 .obtain⟨its,r',pl,hz⟩:=I.list hq
  have hlen:=r'.length
  obtain⟨o,ho,hc,n,hd⟩:=pl.isList
  exact yA p (.inl rfl) ho hc hd (λh' c' kp e=>fin its r' hz h' c' kp e) (by simp only[kh]<;>lia)
 .obtain⟨its,r',pl,hz⟩:=I.tuple hq
  have hlen:=r'.length
  obtain⟨o,ho,hc,n,hd⟩:=pl
  exact yA p (.inr rfl) ho hc hd (λh' c' kp e=>fin its r' hz h' c' kp e) (by simp only[kh]<;>lia)
theorem MB:DQ X (.type "tuple") (λxs H Q=>∃p ys,xs=[.ref p]/\((SqL X.K H p ys/\∀l,H l=none->Q (.ref l) (upd H l (.tup ys)))\/(SqT X.K H p ys/\Q (.ref p) H))):=by
 intro pins s σ H xs us Q I r h
 obtain⟨p,ys,rfl,h⟩:=h
 obtain⟨u,rfl,rx⟩:=vals1 r
 cases rx
 rcases h with⟨hq,q⟩|⟨hq,q⟩
 .obtain⟨its,r',pl,hz⟩:=I.list hq
  have hlen:=r'.length
  refine call_tuple_list pl.isList (λh' kp=>?_) (by simp only[kh]<;>lia)
  have I1:Inv X pins σ H {s with heap:=h'}:=I.kept (t':=s.toks) kp
  have I2:Inv X pins σ (upd H h'.objs.size (.tup ys)) {s with heap:=h'.push {cls:=.type "tuple",data:=.seq its.toArray}}:=
   I1.laid (t':=s.toks) (λb o e=>kK _ e) (kR _) (show Dw X.prog X.w _ _ _ (.tup ys)from⟨hz,its,r',qM _ _⟩)
  exact⟨.ref h'.objs.size,_,I2,rfl,q _ (I1.hok.fresh (kR _))⟩
 .obtain⟨its,r',pl,hz⟩:=I.tuple hq
  exact call_tuple_same pl ⟨.ref p,H,I,rfl,q⟩
def tyV(K:kJ)(T:oY)(x:V)(H:Hp):Prop:=match x with
 | .str _=>T="str"
 | .int _=>T="int"
 | .ref p=>(T="list" /\∃xs,SqL K H p xs)\/(T="tuple" /\∃o,K.lookup p=Gc o/\o.cls=.type "tuple" /\o.dict=none)∨
    (T="dict" /\((∃kvs,H p=Gc (.dK kvs))\/∃kvs,H p=Gc (.dT kvs)))\/(T="set" /\∃S n,H p=Gc (.set S n))
 |_=>pQ
theorem ZY{pins:Wp (kQ×Obj)}{σ:St}{H:Hp}{s:kM}{T:oY}{x:V}{v:kL}(I:Inv X pins σ H s)(r:RelV x v)(ty:tyV X.K T x H):s.TypeIs v T/\∀a,v=.ref a->∃ob,s.heap.get? a=Gc ob/\ob.dict=none:=by
 cases x with
 |str z=>
  obtain⟨t,rfl⟩:=r
  cases (show T="str" from ty)
  exact⟨tS s z t,λ_ e=>nomatch e⟩
 |int i=>
  obtain⟨t,rfl⟩:=r
  cases (show T="int" from ty)
  exact⟨qx s i t,λ_ e=>nomatch e⟩
 |ref p=>
  cases r
  rcases ty with⟨rfl,xs,hq⟩|⟨rfl,o,hk,hc,hd⟩|⟨rfl,hk⟩|⟨rfl,S,n,hk⟩
  .obtain⟨its,_,pl,_⟩:=I.list hq
   refine⟨pl.isList.typeIs,λa e=>?_⟩
   cases e
   obtain⟨o,n,e,c,hd,_⟩:=pl
   exact⟨o,e,hd⟩
  .refine⟨⟨o,I.kIn p o hk,hc⟩,λa e=>?_⟩
   cases e
   exact⟨o,I.kIn _ o hk,hd⟩
  .have z:∃o,s.heap.get? p=Gc o/\o.ExactDict:=by
    rcases hk with⟨kvs,hk⟩|⟨kvs,hk⟩
    .obtain⟨_,_,_,_,o,_,_,e,ex,_⟩:=I.hok p _ hk
     exact⟨o,e,ex⟩
    .obtain⟨_,_,_,_,o,_,_,e,ex,_⟩:=I.hok p _ hk
     exact⟨o,e,ex⟩
   obtain⟨o,e,ex⟩:=z
   refine⟨⟨o,e,ex.1⟩,λa e2=>?_⟩
   cases e2
   exact⟨o,e,ex.2.1⟩
  .obtain⟨o,_,_,_,e,ex,_⟩:=I.hok p _ hk
   refine⟨⟨o,e,ex.1⟩,λa e2=>?_⟩
   cases e2
   exact⟨o,e,ex.2.1⟩
 |_=>exact pF ty
noncomputable def tBM(K:kJ)(T:oY)(r:V->Wp V->Hp->VK->Prop)(to:TE)(t:TA):TE:=λσ H Q=>to σ H λx H1=>tyV K T x H1/\t σ H1 λxs H2=>r x xs H2 Q
variable{o e:lH}{es:Wp lH}{to:TE}{t:TA}{name:Str}{apos cpos:Pos}{T id:oY}{r:V->Wp V->Hp->VK->Prop}
theorem fq(pa:PlainAttrs T)(slot:Slot T name id)(hty:typeOf (.builtin id)=pure (.type "method_descriptor"))(hm:MtR X id r)(ho:PE X o to)(ha:PA X (e::es) t)(hbase:attributeBase o name X.env (eval o X.env)=eval o X.env:=by rfl)(hfew:((backTo cpos (k9 (e::es) X.env)).all (λx=> !x.1) && (backToKw cpos (keywordEach [] X.env)).all (λx=>x.1.isSome) && decide ((e::es).length+([]:Wp sR).length+(if([]:Wp sR).isEmpty then 0 else 1)<30))=true:=by rfl)(hline:(apos.endLine==cpos.line)=true:=by rfl)(hs:k9 (e::es) X.env=(false,eval e X.env)::k9 es X.env:=by rfl)(hplain:(backTo cpos (k9 es X.env)).any (·.1)=false:=by rfl):PE X (.Call (.Attribute o name apos) (e::es) [] cpos) (tBM X.K T r to t):=by
 intro pins s σ H Q I h
 refine wpAny_Call_method_late hbase hfew hline rfl (thn (ho pins s σ H _ I h) λv s1 ⟨x,H1,I1,r1,ty,q1⟩=>?_)
 obtain⟨h1,h2⟩:=ZY I1 r1 ty
 refine⟨T,id,pa,slot,hty,h1,h2,?_⟩
 have hA:=ha cpos pins s1 σ H1 _ I1 q1
 rw[hs]at hA⊢
 refine tT (by show(false||(backTo cpos (k9 es X.env)).any (·.1))=false;rw[hplain]<;>rfl) (uP ?_)
 exact thn hA λus s2 ⟨vs,H2,I2,r2,q2⟩=>hm pins s2 σ H2 x vs v us Q I2 r1 r2 q2
end
end L2
namespace L2
open PySem PySem.Spec PyProof.Rows
def MtM(X:Cx)(id:oY)(r:V->Wp V->Hp->VK->Prop):Prop:=
 ∀(pins:Wp (kQ×Obj)) (s:kM) (σ:St) (H:Hp) (x:V) (xs:Wp V) (v:kL) (us:Wp kL) (Q:VK),Inv X pins σ H s->RelV x v->Vals xs us->r x xs H Q->
  wpAny (model X.prog X.w) X.A (call (.builtin id) (v::us)) (EP X pins σ Q) X.xe s
theorem Vals.one:∀{x:V} {us:Wp kL},Vals [x] us->∃u,us=[u]/\RelV x u:=λh=>by
 cases h with
 |cons r t=>cases t;exact⟨_,rfl,r⟩
theorem Vals.two:∀{x y:V} {us:Wp kL},Vals [x,y] us->∃u v,us=[u,v]/\RelV x u/\RelV y v:=λh=>by
 cases h with
 |cons r t=>
  cases t with
  |cons q t=>cases t;exact⟨_,_,rfl,r,q⟩
theorem Vals.rep{xs:Wp V}{us:Wp kL}(h:Vals xs us):∀k:Nat,Vals (ku k xs).flatten (ku k us).flatten
 |0=>.nil
 |k+1=>by
  rw[mM,mM,oS,oS]
  exact Vals.append h (Vals.rep h k)
theorem foldl_rep(its:Wp kL):∀(k:Nat) (acc:Wp kL),vD (λx1 x2=>x1++x2) acc.toArray (ku k its.toArray)=(acc++(ku k its).flatten).toArray
 |0,acc=>by simp
 |k+1,acc=>by
  have e:acc.toArray++its.toArray=(acc++its).toArray:=by simp
  have e2:(acc++its)++(ku k its).flatten=acc++(ku (k+1) its).flatten:=by
   rw[mM,oS,nD]
  rw[<-e2,<-foldl_rep its k (acc++its),<-e,mM,tz]
section
variable{X:Cx}{pins:Wp (kQ×Obj)}{σ:St}{H:Hp}{s:kM}{l b:kQ}{xs ys zs:Wp V}
theorem Inv.gN{its its':Wp kL}{n:Nat}{f:lE kL->lE kL}{t':Nat}(I:Inv X pins σ H s)(hH:H l=Gc (.lst xs))(e:s.heap.get? l=Gc {cls:=.type "list",data:=.seq its.toArray n})(hf:f its.toArray=its'.toArray)(hv:Vals ys its')(hz:ys.length<=sizeLine):Inv X pins σ (upd H l (.lst ys)) {s with heap:=s.heap.update l (lX f),toks:=t'}:=by
 have q:=PySem.IsL.update e f
 rw[hf]at q
 refine I.write (x:=l) (e:=l) (by rw[hH];exact trivial) (.inl rfl) (λb' u hb hu=>(mS s.heap (lX f) (mR hb)).trans hu) ⟨_,q⟩ ?_
 exact⟨hz,its',_,hv,q⟩
theorem Inv.iK{its:Wp kL}{t':Nat}(I:Inv X pins σ H s)(hv:Vals ys its)(hz:ys.length<=sizeLine):Inv X pins σ (upd H s.heap.objs.size (.lst ys)) {s with heap:=s.heap.push {cls:=.type "list",data:=.seq its.toArray},toks:=t'}:=
 I.laid (λ_ _ q=>kK _ q) (kR _) ⟨hz,its,0,hv,kZ _ rfl⟩
theorem Inv.fresh(I:Inv X pins σ H s):H s.heap.objs.size=none:=I.hok.fresh (kR _)
theorem Inv.Wc(I:Inv X pins σ H s)(hH:H l=Gc (.lst xs)):xs.length<=sizeLine/\∃(its:Wp kL) (n:Nat),Vals xs its/\xs.length=its.length/\s.heap.get? l=Gc {cls:=.type "list",data:=.seq its.toArray n}:=by
 obtain⟨z,its,n,r,e⟩:=I.hok l _ hH
 exact⟨z,its,n,r,r.length,e⟩
theorem Mp{n:Nat}(h:n<=sizeLine):mv n=false:=by
 unfold mv
 exact oM (by lia)
end
section
variable{X:Cx}
def YE:V->Wp V->Hp->VK->Prop:=λx vs H Q=>∃l xs y,x=.ref l/\vs=[y]/\H l=Gc (.lst xs)/\xs.length<sizeLine/\Q .non (upd H l (.lst (xs++[y])))
theorem Nn:MtM X "list.append" YE:=by
 intro pins s σ H x vs v us Q I rx rv h
 obtain⟨l,xs,y,rfl,rfl,hH,hz,q⟩:=h
 cases rx
 obtain⟨u,rfl,ru⟩:=rv.one
 obtain⟨z,its,n,r,hl,e⟩:=I.Wc hH
 refine qy lW ⟨_,e,rfl⟩ F.entry_list_append (F.args_list_append_2 _ _) (PySem.list_append l its.toArray n u (by rw[kh];lia)) ⟨e,?_⟩
 refine⟨.non,_,I.gN (its':=its++[u]) hH e (by simp) (r.append (.cons ru .nil)) ?_,rfl,q⟩
 rw[lQ,uD]
 lia
def Xy:V->Wp V->Hp->VK->Prop:=λx vs H Q=>∃l b xs zs,x=.ref l/\vs=[.ref b]/\H l=Gc (.lst xs)/\H b=Gc (.lst zs)/\xs.length+zs.length<=sizeLine/\Q .non (upd H l (.lst (xs++zs)))
theorem SF:MtM X "list.extend" Xy:=by
 intro pins s σ H x vs v us Q I rx rv h
 obtain⟨l,b,xs,zs,rfl,rfl,hH,hB,hz,q⟩:=h
 cases rx
 obtain⟨u,rfl,ru⟩:=rv.one
 cases ru
 obtain⟨z,its,n,r,hl,e⟩:=I.Wc hH
 obtain⟨z2,its2,n2,r2,hl2,e2⟩:=I.Wc hB
 have hsz:its.toArray.size+its2.toArray.size<=sizeLine:=by rw[kh,kh];lia
 have hlong:¬(!its.toArray.isEmpty && mv (its.toArray.size+its2.toArray.size))=true:=by
  rw[Mp hsz,rm]
  exact l8
 refine qy rD ⟨_,e,rfl⟩ uk (uQ _ _)
  (vX l its.toArray n b its2.toArray n2 hlong (by rw[kh];lia) (by lia)) ⟨e,e2,?_⟩
 refine⟨.non,_,I.gN (its':=its++its2) hH e (by simp) (r.append r2) ?_,rfl,q⟩
 rw[lQ]
 lia
noncomputable def jK:R2:=λx y H Q=>∃l b xs zs,x=.ref l/\y=.ref b/\H l=Gc (.lst xs)/\H b=Gc (.lst zs)/\xs.length+zs.length<=sizeLine/\∀p,H p=none->Q (.ref p) (upd H p (.lst (xs++zs)))
theorem bQ:OpR X (binaryOp .Add) jK:=by
 intro pins s σ H x y v u Q I rx ry h
 obtain⟨l,b,xs,zs,rfl,rfl,hH,hB,hz,q⟩:=h
 cases rx
 cases ry
 obtain⟨z,its,n,r,hl,e⟩:=I.Wc hH
 obtain⟨z2,its2,n2,r2,hl2,e2⟩:=I.Wc hB
 refine PySem.P.add_list e e2 ?_ (by rw[kh,kh];lia)
 have ea:its.toArray++its2.toArray=(its++its2).toArray:=by simp
 rw[ea]
 exact⟨.ref _,_,I.iK (t':=s.toks) (r.append r2) (by rw[lQ];lia),rfl,q _ I.fresh⟩
noncomputable def jS:R2:=λx y H Q=>∃l k xs,x=.ref l/\y=.int k/\H l=Gc (.lst xs)/\ -(2^63)<=k/\k<2^63/\xs.length*k.toNat<=sizeLine/\
 ∀p,H p=none->Q (.ref p) (upd H p (.lst (ku k.toNat xs).flatten))
theorem len_rep{α:Type}(xs:Wp α)(k:Nat):(ku k xs).flatten.length=k*xs.length:=by
 induction k with
 |zero=>simp
 |succ k ih=>rw[mM,oS,lQ,ih,Nat.succ_mul,yw]
theorem bu:OpR X (binaryOp .Mult) jS:=by
 intro pins s σ H x y v u Q I rx ry h
 obtain⟨l,k,xs,rfl,rfl,hH,h1,h2,hz,q⟩:=h
 cases rx
 obtain⟨t,rfl⟩:=ry
 obtain⟨z,its,n,r,hl,e⟩:=I.Wc hH
 have hlen:its.toArray.size*k.toNat<=sizeLine:=by rw[kh,<-hl];exact hz
 have hcap:¬its.toArray.size*k.toNat>(2^63-1) / 8:=by
  have:(sizeLine:Nat)<=(2^63-1) / 8:=by decide
  lia
 have hfit:¬(!xH k)=true:=by
  rw[fitsIndex_both h1 h2]
  exact l8
 have hlong:¬mv (its.toArray.size*k.toNat)=true:=by
  rw[Mp hlen]
  exact l8
 have hnew:vD (λx1 x2=>x1++x2) #[] (ku (if its.toArray.isEmpty=true then 0 else k.toNat) its.toArray)=(ku k.toNat its).flatten.toArray:=by
  have f0:∀m:Nat,vD (λx1 x2=>x1++x2) #[] (ku m its.toArray)=(ku m its).flatten.toArray:=λm=>by
   have:=foldl_rep its m []
   rw[lN]at this
   exact this
  rw[f0]
  cases its with
  |nil=>simp
  |cons a r'=>rw[lJ (by simp)]
 refine qJ (T:="list") (U:="int") (by decide) ⟨_,e,rfl⟩ (λs'=>qx s' k t) noFill_list_mul t7 pR repeat_list tF.lookup
  (qy pR (qx s k t) tH (sT _ _) (int___rmul___int_list k t l its.toArray n)
    ⟨e,rfl,⟨_,e,rfl⟩,qy F.slot_list_mul ⟨_,e,rfl⟩ F.entry_list_mul (F.args_list_mul_2 _ _) (vK l its.toArray n k t hfit hcap hlong) ⟨e,?_⟩⟩)
 rw[hnew]
 exact⟨.ref _,_,I.iK (t':=s.toks) (r.rep k.toNat) (by rw[len_rep,pI];exact hz),rfl,q _ I.fresh⟩
end
section
variable{prog:k8}{w:lO}{A:lV}{E:kL->kM->Prop}{s:kM}
end
section
variable{X:Cx}
end
end L2
namespace Att
open PySem PySem.W PySem.Calls PyProof.Rows
theorem ints_of_wellAll{P:Params}{h:lP}:∀(ns:Wp Int) (vs:Wp kL),WellAll P h vs (ns.map WData.int)->nV vs ns:=by
 intro ns
 induction ns with
 |nil=>
  intro vs w
  rw[mX]at w
  cases w
  exact .nil
 |cons n ns ih=>
  intro vs w
  rw[kq]at w
  cases w with
  |cons a b=>
   cases a
   exact .cons _ _ (ih _ b)
theorem script_of{l:rE}{n:Nat}(hn:l.most=Gc n){P:Params}{h:lP}{args:Wp WData}{vals:Wp kL}(hpre:l.row.toRowW.claim.pre args=true)(hwl:WellAll P h vals args):∃a vs ns,vals=[mF a]/\args=[WData.list (ns.map WData.int)]/\h.get? a=Gc {cls:=.type "list",data:=.seq vs.toArray}/\nV vs ns/\ns.length<=n:=by
 have hsh:WShape.hasAll [] args [.list .int]=true:=(pre_splitW hpre).1
 have hc:l.pre.holds [] {args:=args}=true:=(pre_splitW hpre).2
 obtain⟨d,r,rfl,h1,h2⟩:=hasAllW_cons hsh
 obtain rfl:=hasAllW_nil h2
 obtain⟨xs,rfl,h3⟩:=hasW_list h1
 obtain⟨ns,rfl⟩:=items_int h3
 have hlen:ns.length<=n:=by
  unfold OpenLaw.pre at hc
  have h4:(WTm.not (.lt (.lit (.int (n:Int))) (.len (.arg 0)))).holds [] {args:=[.list (ns.map .int)]}=true:=by
   have h4:=(holds_andW hc).1
   rw[hn]at h4
   exact h4
  have h5:=condW_of h4 (w_not (w_lt w_lit (w_len_list (w_arg rfl))))
  rw[ky]at h5
  refine Nat.le_of_not_lt λq=>?_
  have q':(n:Int)<((ns.length:Nat):Int):=by lia
  first
   |(rw[nT q']at h5;exact absurd h5 (by decide))
   |(simp at h5;lia)
 cases hwl with
 |cons w1 w2=>
  cases w2
  cases w1 with
  |list ho hall=>exact⟨_,_,ns,rfl,rfl,ho,ints_of_wellAll ns _ hall,hlen⟩
theorem post_true(l:rE)(args:Wp WData):l.row.toRowW.claim.post args (.bool true) args=true:=
 postW_of (r:=l.row.toRowW) (X:=(true==true))
  (show WShape.has [] (.bool true) .bool=true by first|rfl|decide|simp[WShape.has,WShape.arms,WShape.armsAll])
  (show(WTm.eq .res (.lit (.bool true))).value [] {args:=args,res:=Gc (.bool true),after:=args}=Gc (.bool (true==true))from w_eq_bool (w_res rfl) w_lit) rfl
theorem attach_call{l:rE}{n:Nat}{q:k8}{loose:Wp Str}{XP:(Str->kN kL)->lP->Prop}{YP:lO->lP->Prop}{d:DefRec}(hn:l.most=Gc n)(hdf:d.params.defaults=[])(call:∀(w:lO) (s₀ s₁:kM) (mg mb:Str->kN kL) (fa:kQ) (o:Obj) (pm cd doc:kL) (a:kQ) (vs:Wp kL) (ns:Wp Int),Ground q loose [] XP w s₀ mg mb s₁.heap->YP w s₁.heap->s₁.heap.get? fa=Gc o->o.data=.func (docDef d.name d.params d.body d.scope pm cd doc)->s₁.heap.CodeRec cd d.name->mg d.name=Gc (.ref fa)->s₁.heap.get? a=Gc {cls:=.type "list",data:=.seq vs.toArray}->nV vs ns->ns.length<=n->s₁.gens= #[]->codeAny (model l.prog w) callerA (.call (.ref fa) ⟨[.ref a],[]⟩) (λr s'=>r=.ok (.ret (.bool true))/\OldK s₁.heap s'.heap/\s'.os=s₁.os/\sP s'.gens) s₁):xA q loose XP YP l.row.toRowW d [] (λf vs=>xI f vs):=by
 intro w s₀ s₁ mg mb G Y fa o pm cd doc dV kV ho hd hcd hD hmg hg args vals as hpre hlay hrd hwl hlo
 obtain rfl:dV=.none:=Dflts.none hD hdf
 obtain rfl:kV=.none:=Dflts.noKw hD
 obtain⟨a,vs,ns,rfl,rfl,hobj,hints,hlen⟩:=script_of hn hpre hwl
 refine enter_call (rS (call w s₀ s₁ mg mb fa o pm cd doc a vs ns G Y ho (fd_plain hd) hcd hmg hobj hints hlen hg) λr s' hq=>?_)
 obtain⟨rfl,h2,h3,h4⟩:=hq
 exact⟨.inl ⟨.bool true,.bool true,[],rfl,λ_=>rfl,.bool true,post_true l _,λ_=>⟨sU,λ_ hm=>(nomatch hm)⟩⟩,h2,h3,h4⟩
section
variable{prog:k8}{w:lO}{A:lV}{E:kL->kM->Prop}{s:kM}{K:kJ}
end
end Att
namespace L2
open PySem PySem.Spec PyProof.Rows
theorem NU:∀{vs:Wp kL} {ns:Wp Int},nV vs ns->Vals (ns.map V.int) vs
 |_,_,.nil=>.nil
 |_,_,.cons n t h=>.cons ⟨t,rfl⟩ (NU h)
def d8(H:Hp):Prop:=∀b,H b=none\/∃o xs,H b=Gc (.frz o (.lst xs))
theorem Va{P:k8}{w:lO}{K:kJ}{mg mb:Str->kN kL}{CX:CXT}{k:Nat}{fa a:kQ}{fd:nS}{x:Str}{sp:Sp}{s₁:kM}{vs:Wp kL}{ns:Wp Int}(KX:K.In s₁.heap)(hns:s₁.heap.Ns mainGlobals mg)(hb:s₁.heap.Ns builtinsNs mb)(hbb:∀x:Str,x≠ "__name__"->mb x=bootBuiltins x)(hlim:s₁.heap.NoLimit)(hg:s₁.gens= #[])(ha:s₁.heap.get? a=Gc {cls:=.type "list",data:=.seq vs.toArray})(hi:nV vs ns)(hl:ns.length<=sizeLine)(hr:Ky k callerA)(F:∀base:lP,K.In base->base.Ns mainGlobals mg->Nv P w K mg base CX k fa fd [x] sp)(hbind:∀(s:kM) (u:kL),vT s fd ⟨[u],[]⟩ [(x,u)])(hsp:∀H:Hp,d8 H->SqL K H a (ns.map V.int)->sp [.ref a] H (λv _=>v=.bl true) λ_ _ _=>pQ)(hCX:∀H e s',CX [] H s₁ (λ_ _ _=>pQ) e s'->pQ):codeAny (model P w) callerA (.call (.ref fa) ⟨[.ref a],[]⟩) (λr s'=>r=.ok (.ret (.bool true))/\OldK s₁.heap s'.heap/\s'.os=s₁.os/\sP s'.gens) s₁:=by
 have rv:=NU hi
 have lenV:=hi.length
 have core:∀H:Hp,d8 H->SqL K H a (ns.map V.int)->HOk P w H s₁.heap->(∀b,H b≠none->b=a)->(H a≠none->K.lookup a=none)->
   codeAny (model P w) callerA (.call (.ref fa) ⟨[.ref a],[]⟩) (λr s'=>r=.ok (.ret (.bool true))/\OldK s₁.heap s'.heap/\s'.os=s₁.os/\sP s'.gens) s₁:=by
  intro H hO hS hok hA hK
  have base_of:∀{b:kQ} {o:Obj},s₁.heap.get? b=Gc o->H b=none->(UZ s₁.heap H).get? b=Gc o:=λe n=>WB e n
  have noA:∀{b:kQ} {o:Obj} {es:lE DictEntry} {ep:Nat},s₁.heap.get? b=Gc o->o.data=.dict es ep->H b=none:=λ{b o es ep} e d=>by
   cases q:H b with
   |none=>rfl
   |some u=>
    have e':b=a:=hA b (by rw[q];simp)
    subst e'
    rw[ha]at e;cases e
    have d':Data.seq vs.toArray _=Data.dict es ep:=d
    cases d'
  have nsK:∀{b:kQ} {m:Str->kN kL},s₁.heap.Ns b m->(UZ s₁.heap H).Ns b m:=λ{b m} ⟨o,es,ep,e,d,r⟩=>⟨o,es,ep,base_of e (noA e d),d,r⟩
  have hKb:K.In (UZ s₁.heap H):=λb o e=>base_of (KX b o e) (by
   cases q:H b with
   |none=>rfl
   |some u=>
    have e':b=a:=hA b (by rw[q];simp)
    subst e'
    rw[hK (by rw[q];simp)]at e;cases e)
  have hM:Mod K mg (UZ s₁.heap H):=⟨hKb,nsK hns,⟨mb,nsK hb,hbb⟩,let⟨mc,h1,h2⟩:=hlim;⟨mc,nsK h1,h2⟩⟩
  have e0:cj P w K mg (UZ s₁.heap H) callerA [] s₁ H:=⟨rfl,hM,λb o e=>Y3 e,yx (Rn _ _),trivial,λb hb=>absurd (show b∈([]:Wp kQ)from hb) (by simp),hok,.of_eq hg⟩
  refine rS ((F _ hKb (nsK hns)).run callerA [] s₁ H ⟨[.ref a],[]⟩ [.ref a] [.ref a] _ _ hr e0 (hbind s₁ (.ref a)) (.cons rfl .nil) (hsp H hO hS)) λr s' h=>?_
  cases r with
  |error e=>exact(hCX H e s' h).elim
  |ok fl=>
   cases fl with
   |next=>exact pF h
   |brk=>exact pF h
   |cont=>exact pF h
   |ret u=>
    obtain⟨v,H',os,bare,un,hok',r',q⟩:=h
    have q':v=.bl true:=q
    subst q'
    obtain rfl:u=rW true:=r'
    refine⟨rfl,OldK.of_keep λb o e=>?_,os,bare⟩
    cases q:H b with
    |none=>exact un.keep b o e q (by intro z;exact absurd (show b∈([]:Wp kQ)from z) (by simp)) (by simp)
    |some u=>
     rcases hO b with z|⟨ob,xs,z⟩
     .rw[q]at z;cases z
     .have z2:=un.UO b ob _ z
      obtain⟨e1,_⟩:=hok b _ z
      obtain⟨e2,_⟩:=hok' b _ z2
      rw[e]at e1;cases e1
      exact e2
 cases hk:K.lookup a with
 |some o=>
  have e:=KX a o hk
  rw[ha]at e
  cases e
  refine core (λ_=>none) (λ_=>.inl rfl) (.inr ⟨_,vs.toArray,_,hk,rfl,rfl,rfl,by rw[kh,lenV];exact hl,by simpa using rv⟩) (λb u z=>by have z':(none:kN HO)=Gc u:=z;cases z') (λb z=>absurd rfl z) λz=>absurd rfl z
 |none=>
  refine core (λb=>if b=a then Gc (.frz {cls:=.type "list",data:=.seq vs.toArray} (.lst (ns.map V.int)))else none) (λb=>?_) (.inl (.inr ⟨{cls:=.type "list",data:=.seq vs.toArray},lF rfl⟩)) (λb u z=>?_) (λb z=>?_) λ_=>hk
  .by_cases hb:b=a
   .exact .inr ⟨_,_,lF hb⟩
   .exact .inl (lJ hb)
  .by_cases hb:b=a
   .have z':=(lF hb).symm.trans z
    cases z'
    subst hb
    exact⟨ha,by rw[ky];exact hl,vs,_,rv,ha⟩
   .have z':=(lJ hb).symm.trans z
    cases z'
  .by_cases hb:b=a
   .exact hb
   .exact absurd (lJ hb) z
end L2
namespace L2
open PySem PySem.Spec PyProof.Rows
theorem YI{l:rE}{n k:Nat}{q:k8}{loose:Wp Str}{XP:(Str->kN kL)->lP->Prop}{YP:lO->lP->Prop}{d:DefRec}{K:Params->kJ}{CX:lO->CXT}{sp:lO->Sp}{x:Str}(hn:l.most=Gc n)(hn2:n<=sizeLine)(hdf:d.params.defaults=[])(hr:Ky k callerA)(hY:∀(w:lO) (h:lP),YP w h->(K w.params).In h)(F:∀(w:lO) (mg:Str->kN kL) (fa:kQ) (h:lP),(K w.params).In h->h.Ns mainGlobals mg->mg d.name=Gc (.ref fa)->∃fd:nS,(∀(s:kM) (u:kL),vT s fd ⟨[u],[]⟩ [(x,u)])/\∀base:lP,(K w.params).In base->base.Ns mainGlobals mg->Nv l.prog w (K w.params) mg base (CX w) k fa fd [x] (sp w))(hsp:∀(w:lO) (H:Hp) (a:kQ) (ns:Wp Int),ns.length<=n->d8 H->SqL (K w.params) H a (ns.map V.int)->sp w [.ref a] H (λv _=>v=.bl true) λ_ _ _=>pQ)(hCX:∀(w:lO) (H:Hp) (s:kM) (e:kL) (s':kM),CX w [] H s (λ_ _ _=>pQ) e s'->pQ):xA q loose XP YP l.row.toRowW d [] (λf vs=>xI f vs):=by
 refine Att.attach_call hn hdf λw s₀ s₁ mg mb fa o pm cd doc a vs ns G Y ho hd hcd hmg hobj hints hlen hg=>?_
 have KX:=hY w _ Y
 obtain⟨fd,hb,hF⟩:=F w mg fa _ KX G.T.g hmg
 exact Va KX G.T.g G.T.b G.T.builtins G.T.nolimit hg hobj hints (kY hlen hn2) hr hF hb (λH hO hS=>hsp w H a ns hlen hO hS) λH e s'=>hCX w H s₁ e s'
end L2
namespace L2
open PySem PySem.Spec PyProof.Rows
noncomputable def Ii(s:mH):Arguments:=match s with
 | .FunctionDef _ a _ _ _ _ _ _ _ _=>a
 |_=>{posonlyargs:=[],args:=[],vararg:=none,kwonlyargs:=[],kw_defaults:=[],kwarg:=none,defaults:=[]}
noncomputable def EH(s:mH):Wp mH:=match s with
 | .FunctionDef _ _ b _ _ _ _ _ _ _=>b
 |_=>[]
noncomputable def AK(s:mH):nR:=match s with
 | .FunctionDef _ _ _ _ _ _ sc _ _ _=>sc
 |_=>{kind:=.function,names:=[],isGenerator:=false,isCoroutine:=false}
abbrev CX0:CXT:=λ_ _ _ _ _ _=>pQ
abbrev E0:XK:=λ_ _ _=>pQ
theorem gG{X:Cx}:Passes CX0 X E0:=λ_ _ _ _ _ _ _ h=>h.elim
structure Fun(K:kJ)(x qual:Str)(st:mH)(f:kQ)(fd:nS):Prop where
 ex:∃(oc:kL) (od:kN kQ) (kV doc pm:kL) (an:kN kQ) (cdv ct:kL) (osl:lE (kN kL)),
  fd=pH x qual (Ii st) (EH st) (AK st) .none kV doc pm an cdv ct/\K.lookup f=Gc ⟨oc,od,.func fd,osl⟩/\rf K cdv qual=true
 kp:oB K (.ref f)=true
section
variable{P:k8}{w:lO}{K:kJ}{mg:Str->kN kL}{base:lP}
theorem Fun.ok{x qual:Str}{st:mH}{f:kQ}{fd:nS}{N ps:Wp Str}{k:Nat}{sp:Sp}(F:Fun K x qual st f fd)(S:AW N ps (AK st))(len:∀vs H Q E,sp vs H Q E->vs.length=ps.length)(hbody:∀(cdv:kL) (A:lV) (outer:Wp Env) (s:kM) (H:Hp) (vs:Wp V) (Q:VK) (E:XK),Ky k (A.deeper (envOfC qual (AK st) s.heap.objs.size f cdv))->sp vs H Q E->∃t,PSs (UM CX0 P w K mg base N qual (AK st) f cdv A outer s H E).nox (EH st) t/\t {nx:=λ_ H'=>Q .non H',rt:=Q} (start N vs) H):Nv P w K mg base CX0 (k+1) f fd ps sp:=by
 obtain⟨oc,od,kV,doc,pm,an,cdv,ct,osl,rfl,lk,hcd⟩:=F.ex
 refine fI lk hcd S len λA outer s H vs Q E hr hsp=>?_
 obtain⟨t,h,q⟩:=hbody cdv A outer s H vs Q E hr hsp
 exact⟨t,h.nox,q⟩
theorem Fun.binds{x qual:Str}{st:mH}{f:kQ}{fd:nS}{ps:Wp Str}(F:Fun K x qual st f fd)(h:∀(kV doc pm:kL) (an:kN kQ) (cdv ct:kL) (us:Wp kL),us.length=ps.length->bindArgs (pH x qual (Ii st) (EH st) (AK st) .none kV doc pm an cdv ct) ⟨us,[]⟩=pure (ps.zip us)):Binds K fd ps []:=by
 obtain⟨oc,od,kV,doc,pm,an,cdv,ct,osl,rfl,lk,hcd⟩:=F.ex
 exact .all (h kV doc pm an cdv ct)
theorem Z3{x qual:Str}{st:mH}{f:kQ}{oc:kL}{od an:kN kQ}{osl:lE (kN kL)}{kV doc pm cdv ct:kL}(l:K.lookup f=Gc ⟨oc,od,.func (pH x qual (Ii st) (EH st) (AK st) .none kV doc pm an cdv ct),osl⟩)(c:rf K cdv qual=true)(k:oB K (.ref f)=true):Fun K x qual st f (pH x qual (Ii st) (EH st) (AK st) .none kV doc pm an cdv ct):=⟨⟨oc,od,kV,doc,pm,an,cdv,ct,osl,rfl,l,c⟩,k⟩
end
section
variable{X:Cx}
theorem pv(i:Nat){x:Str}{pos:Pos}(hN:X.N[i]?=Gc x:=by rfl)(hv:Vis X.env.scope x:=by first|exact Or.inl rfl|exact yy (Or.inl rfl)|exact yy (yy rfl))(hd:(x==("__debug__":Str))=false:=by decide)(hcd:(x==("__classdict__":Str))=false:=by decide):PE X (.Name x pos) (iC i):=XZ hN hv hd hcd
end
theorem Xj{A B:Prop}(h:B):if false=true then A else B:=by
 rw[lJ l8]
 exact h
theorem XB{A B:Prop}(h:A):if true=true then A else B:=by
 rw[lF rfl]
 exact h
def Cp(H H':Hp):Prop:=∀b o,H b=Gc o->H' b=Gc o
end L2
end
noncomputable section
namespace L2
open PySem PySem.Spec PyProof.Rows
noncomputable def FX(cells:Wp (Str×kQ)):Wp (Str×oy)->Wp (Str×kQ)->Wp (Str×kQ)
 | [],cs=>cs
 |(n,k)::r,cs=>if(k==mP)=true then FX cells r ((n,(cells.lookup n).getD 0)::cs)else FX cells r cs
theorem Nk{env:Env}:∀(names:Wp (Str×oy)) (cs:Wp (Str×kQ)),(∀y∈names,y.2=.free->∃a,env.cells.lookup y.1=Gc a)->(forIn names cs λ(x:Str×oy) r=>match x with|(name,kind)=>if(kind==mP)=true then(do let a<-cellOf env name;pure (rK ((name,a)::r)))else pure (rK r):Sem (Wp (Str×kQ)))=pure (FX env.cells names cs)
 | [],cs,_=>by simp[FX]
 |(n,k)::r,cs,h=>by
  rw[t8]
  have ih:=λcs=>Nk r cs λy hy=>h y (kU _ hy)
  by_cases hk:(k==mP)=true
  .obtain⟨a,ha⟩:=h (n,k) kc (by simpa using hk)
   have ha':env.cells.lookup n=Gc a:=ha
   have e:cellOf env n=pure a:=by unfold cellOf;rw[ha']
   simp only[hk,q9,e,pure_bind,FX,ha',wI]
   exact ih _
  .simp only[hk,p0,pure_bind,FX]
   exact ih _
theorem Mh{scope:nR}{env:Env}(h:∀y∈scope.names,y.2=.free->∃a,env.cells.lookup y.1=Gc a):closureFor scope env=pure (FX env.cells scope.names []):=by
 unfold closureFor
 have:=Nk (env:=env) scope.names [] h
 simp only[bind_pure]at this⊢
 exact this
theorem J0{cells:Wp (Str×kQ)}{x:Str}{c:kQ}:∀{names:Wp (Str×oy)} {cs:Wp (Str×kQ)},(∀y∈names,y.2=.free->∃a,cells.lookup y.1=Gc a)->(FX cells names cs).lookup x=Gc c->cs.lookup x=Gc c\/cells.lookup x=Gc c
 | [],cs,_,h=>.inl h
 |(n,k)::r,cs,hh,h=>by
  have hr:∀y∈r,y.2=.free->∃a,cells.lookup y.1=Gc a:=λy hy=>hh y (kU _ hy)
  unfold FX at h
  by_cases hk:(k==mP)=true
  .rw[lF hk]at h
   rcases J0 hr h with q|q
   .obtain⟨a,ha⟩:=hh (n,k) kc (by simpa using hk)
    have ha':cells.lookup n=Gc a:=ha
    rw[m6]at q
    cases hx:x==n with
    |true=>
     rw[hx,ha']at q
     have e:x=n:=by simpa using hx
     subst e
     cases q
     exact .inr ha'
    |false=>
     rw[hx]at q
     exact .inl q
   .exact .inr q
  .rw[lJ hk]at h
   exact J0 hr h
theorem Hr{cells:Wp (Str×kQ)}{x:Str}:∀{names:Wp (Str×oy)} {cs:Wp (Str×kQ)},((x,mP)∈names\/∃c,cs.lookup x=Gc c)->∃c,(FX cells names cs).lookup x=Gc c
 | [],cs,h=>h.elim (λz=>nomatch z) id
 |(n,k)::r,cs,h=>by
  unfold FX
  by_cases hk:(k==mP)=true
  .rw[lF hk]
   refine Hr ?_
   by_cases hx:x=n
   .subst hx
    exact .inr ⟨_,by rw[m6,qE]⟩
   .rcases h with h|⟨c,h⟩
    .rcases kX.mp h with e|e
     .cases e;exact absurd rfl hx
     .exact .inl e
    .refine .inr ⟨c,?_⟩
     rw[m6,show(x==n)=false by simpa using hx]
     exact h
  .rw[lJ hk]
   refine Hr ?_
   rcases h with h|h
   .rcases kX.mp h with e|e
    .cases e;exact absurd rfl hk
    .exact .inl e
   .exact .inr h
theorem JU{env:Env}{x:Str}:∀{names:Wp (Str×oy)},names.lookup x=Gc .free->(names.map λ(n,k)=>if(k==mP && env.scope.kind== .function && env.kindOf n==Gc .cell)then(n,pW)else(n,k)).lookup x=Gc .cell\/(names.map λ(n,k)=>if(k==mP && env.scope.kind== .function && env.kindOf n==Gc .cell)then(n,pW)else(n,k)).lookup x=Gc .free
 | [],h=>by simp at h
 |(n,k)::r,h=>by
  have ih:= @JU env x r
  show List.lookup x ((if(k==mP && env.scope.kind== .function && env.kindOf n==Gc .cell)=true then(n,pW)else(n,k))::_)=_\/List.lookup x ((if(k==mP && env.scope.kind== .function && env.kindOf n==Gc .cell)=true then(n,pW)else(n,k))::_)=_
  cases hx:x==n with
  |true=>
   simp only[m6,hx]at h
   cases h
   by_cases hc:(mP==mP && env.scope.kind== .function && env.kindOf n==Gc .cell)=true
   .rw[lF hc];simp only[m6,hx];exact .inl trivial
   .rw[lJ hc];simp only[m6,hx];exact .inr trivial
  |false=>
   simp only[m6,hx]at h
   by_cases hc:(k==mP && env.scope.kind== .function && env.kindOf n==Gc .cell)=true
   .rw[lF hc];simp only[m6,hx];exact ih h
   .rw[lJ hc];simp only[m6,hx];exact ih h
theorem Ko{env:Env}{scope:nR}{x:Str}{k':oy}(hk:k'=.cell\/k'=.free)(h:(relabel scope env).names.lookup x=Gc k'):(x,mP)∈scope.names\/(x,pW)∈scope.names:=by
 have hm:=mK h
 obtain⟨⟨n,k⟩,hy,e⟩:=lI.mp (show(x,k')∈scope.names.map _ from hm)
 by_cases hc:(k==mP && env.scope.kind== .function && env.kindOf n==Gc .cell)=true
 .simp only[hc,q9]at e
  cases e
  have:k=.free:=by
   have:=((kn _ _).mp hc).1
   exact vE.mp ((kn _ _).mp this).1
  subst this
  exact .inl hy
 .simp only[hc,p0]at e
  cases e
  rcases hk with rfl|rfl
  .exact .inr hy
  .exact .inl hy
theorem Br:∀(names:Wp (Str×oy)) (n:Nat) (cs:Wp (Str×kQ)),cellsFrom n names cs=cellsFrom n names []++cs
 | [],_,_=>rfl
 |(x,k)::r,n,cs=>by
  unfold cellsFrom
  split
  .rw[Br r _ ((x,n)::cs),Br r _ [(x,n)]];simp
  .exact Br r n cs
theorem GC{x:Str}{c:kQ}:∀{names:Wp (Str×oy)} {n:Nat},(x,c)∈cellsFrom n names []->(x,pW)∈names
 | [],_,h=>nomatch h
 |(y,k)::r,n,h=>by
  unfold cellsFrom at h
  split at h
  .rename_i hk
   rw[Br]at h
   rcases k6.mp h with z|z
   .exact kU _ (GC z)
   .have e:=kr.mp z
    cases e
    rw[vE.mp hk]
    exact kc
  .exact kU _ (GC h)
theorem Fs{M:yR}{A:lV}{E:kL->kM->Prop}{s:kM}{scope:nR}{globals:kQ}{cl:Wp (Str×kQ)}{qual:Str}{env:Env}{Q:Env->kM->Prop}(hQ:∀h':lP,h'.Ns s.heap.objs.size (λ_=>none)->(∀b o,s.heap.get? b=Gc o->h'.get? b=Gc o)->CellsOk h' (s.heap.objs.size+1) (cellsFrom (s.heap.objs.size+1) scope.names [])->Q (newEnv scope s.heap.objs.size globals (cellsFrom (s.heap.objs.size+1) scope.names cl) qual none .none (Gc env) builtinsNs) {s with heap:=h'}):wpAny M A (newFunctionEnv scope globals cl [] qual none .none (Gc env)) Q E s:=by
 simp only[newFunctionEnv,Option.isSome_some,q9]
 refine kH (wpAny_alloc ?_)
 refine kH (wpAny_layCells _ (λname kind cells=>by cases hkc:kind==pW<;>simp[hkc]) _ _ _ _ ?_)
 have ok:=cellsFrom_ok scope.names (s.heap.push {cls:=.type "dict",data:=.dict #[]}) (s.heap.objs.size+1) [] ⟨λ_ _ hm=>(nomatch hm),sU⟩ (by rw[lG];exact kR _)
 rw[lG]at ok
 rw[show({s with heap:=s.heap.push {cls:=.type "dict",data:=.dict #[]}}:kM).heap.objs.size=s.heap.objs.size+1 from lG ..]
 rw[uR]
 refine kH (kO (kO ?_))
 exact hQ _ ((Heap.Ns.new s.heap (.type "dict")).keeps (we _ _)) (λb o e=>we _ _ b o (kK _ e)) ok
end L2
end
noncomputable section
namespace L2
open PySem PySem.Spec PyProof.Rows
noncomputable def Pm(N:Wp Str)(osc scope:nR):Wp Str->Wp (kN Nat)->lM
 | [],[]=>true
 |_::r,none::q=>Pm N osc scope r q
 |x::r,Gc i::q=>decide (N[i]?=Gc x) && (decide (osc.names.lookup x=Gc .cell)||decide (osc.names.lookup x=Gc .free)) && decide (scope.names.lookup x=Gc .free) && Pm N osc scope r q
 |_,_=>false
theorem Sl{N:Wp Str}{osc scope:nR}:∀{N':Wp Str} {ix:Wp (kN Nat)},Pm N osc scope N' ix=true->ix.length=N'.length
 | [],[],_=>rfl
 |_::r,none::q,h=>by
  unfold Pm at h
  simp[Sl h]
 |x::r,Gc i::q,h=>by
  unfold Pm at h
  have:=((kn _ _).mp h).2
  simp[Sl this]
 | [],_::_,h=>by simp[Pm]at h
 |_::_,[],h=>by simp[Pm]at h
theorem YQ{N:Wp Str}{osc scope:nR}:∀{N':Wp Str} {ix:Wp (kN Nat)},Pm N osc scope N' ix=true->∀{j i:Nat} {x:Str},N'[j]?=Gc x->ix[j]?=Gc (Gc i)->N[i]?=Gc x/\(osc.names.lookup x=Gc .cell\/osc.names.lookup x=Gc .free)/\scope.names.lookup x=Gc .free
 | [],[],_,j,_,_,h,_=>by simp at h
 |_::r,none::q,h,j,i,x,h1,h2=>by
  unfold Pm at h
  cases j with
  |zero=>simp at h2
  |succ j=>exact YQ h (by simpa using h1) (by simpa using h2)
 |y::r,Gc k::q,h,j,i,x,h1,h2=>by
  unfold Pm at h
  obtain⟨ha,hr⟩:=(kn _ _).mp h
  obtain⟨ha,h3⟩:=(kn _ _).mp ha
  obtain⟨h4,h5⟩:=(kn _ _).mp ha
  cases j with
  |zero=>
   simp at h1 h2
   subst h1 h2
   refine⟨kj h4,?_,kj h3⟩
   rcases(mU _ _).mp h5 with z|z
   .exact .inl (kj z)
   .exact .inr (kj z)
  |succ j=>exact YQ hr (by simpa using h1) (by simpa using h2)
 | [],_::_,h,_,_,_,_,_=>by simp[Pm]at h
 |_::_,[],h,_,_,_,_,_=>by simp[Pm]at h
structure AZ(N:Wp Str)(osc:nR)(N':Wp Str)(ix:Wp (kN Nat))(scope:nR):Prop where
 kind:scope.kind=.function
 cells:∀y∈scope.names,y.2=.cell->scope.names.lookup y.1=Gc .cell
 names:∀y∈scope.names,y.2=.local->scope.names.lookup y.1=Gc .local
 free:∀y∈scope.names,y.2=.free->(osc.names.lookup y.1=Gc .cell\/osc.names.lookup y.1=Gc .free)
 ok:Pm N osc scope N' ix=true
noncomputable def sig(ix:Wp (kN Nat))(σ:St):St:=ix.map λo=>o.bind λi=>(σ[i]?).join
noncomputable def Cc(X:Cx)(N':Wp Str)(scope:nR)(s:kM)(H:Hp)(fp:Wp kQ):Cx where
 prog:=X.prog
 w:=X.w
 K:=X.K
 mg:=X.mg
 base:=X.base
 A:=X.A
 N:=N'
 s₀:=s
 H₀:=H
 env:=compEnvC scope (cellsFrom (s.heap.objs.size+1) scope.names (FX X.env.cells scope.names [])) s.heap.objs.size X.env
 outer:=X.stack
 stack:=X.stack
 ex:=fp
 fn:=λx=>decide (scope.names.lookup x=Gc .cell)
 calm:=true
 pn:=[]
 xe:=λ_ _=>pQ
section
variable{X:Cx}{pins:Wp (kQ×Obj)}{σ:St}{H:Hp}{s:kM}{N':Wp Str}{ix:Wp (kN Nat)}{scope:nR}{fp:Wp kQ}
theorem Inv.cellsOf(I:Inv X pins σ H s)(S:AZ X.N X.env.scope N' ix scope):∀y∈scope.names,y.2=.free->∃a,X.env.cells.lookup y.1=Gc a:=λy hy hk=>I.ok.has y.1 (S.free y hy hk)
theorem PQ(S:AZ X.N X.env.scope N' ix scope)(hc:X.calm=true)(I:Inv X pins σ H s)(hf:∀b∈fp,LW X pins H b)(hlt:∀b∈fp,b<s.heap.objs.size){h1:lP}{m1:Str->kN kL}{tk:Nat}(hn:h1.Ns s.heap.objs.size m1)(hk:∀b o,s.heap.get? b=Gc o->h1.get? b=Gc o)(hC:CellsOk h1 (s.heap.objs.size+1) (cellsFrom (s.heap.objs.size+1) scope.names [])):Inv (Cc X N' scope s H fp) [] (sig ix σ) H {s with heap:=h1,toks:=tk}:=by
 have hcl:=I.cellsOf S
 have sub:∀{x:Str} {c:kQ},(FX X.env.cells scope.names []).lookup x=Gc c->X.env.cells.lookup x=Gc c:=λ{x c} h=>by
  rcases J0 hcl h with z|z
  .simp at z
  .exact z
 have old:∀{x:Str} {c:kQ},X.env.cells.lookup x=Gc c->c<s.heap.objs.size:=λ{x c} h=>by
  obtain⟨v,oc,ho,_⟩:=I.cell x c h
  exact kf ho
 have look:∀{x:Str} {c:kQ},(cellsFrom (s.heap.objs.size+1) scope.names (FX X.env.cells scope.names [])).lookup x=Gc c->(x,c)∈cellsFrom (s.heap.objs.size+1) scope.names []\/X.env.cells.lookup x=Gc c:=λ{x c} h=>by
  rw[Br,qX]at h
  cases e:(cellsFrom (s.heap.objs.size+1) scope.names []).lookup x with
  |some a=>rw[e]at h;cases h;exact .inl (mK e)
  |none=>rw[e]at h;exact .inr (sub h)
 refine⟨⟨I.ok.mod,S.kind,I.ok.glob,I.ok.blt,kR _,λx y c h1 h2=>?_,λx hx=>?_,λx c hx h=>?_,λ_=>I.ok.hd hc,I.ok.frames,.inl rfl,λb hb=>?_,I.bs,kY I.ok.bsz I.sz,λb o e hb=>?_,λb hb hs=>?_,I.stack,I.Qu⟩,
  rfl,I.bare,Un.kept hk,⟨m1,hn,λj x v h1 h2 h3=>?_⟩,λx c h=>?_,I.hok.fresh (kR _),λx c h=>?_,λp hp=>absurd (show p∈([]:Wp (kQ×Obj))from hp) (by simp),I.hok.kept hk,?_⟩
 . -- inj
   rcases look h1 with a|a<;>rcases look h2 with b|b
   .exact yt hC.apart a b
   .exact absurd (kT (old b) (pz (hC.empty _ _ a).2)) (nC _)
   .exact absurd (kT (old a) (pz (hC.empty _ _ b).2)) (nC _)
   .exact I.ok.inj x y c a b
 . -- has
   have hx':(relabel scope X.env).names.lookup x=Gc .cell\/(relabel scope X.env).names.lookup x=Gc .free:=hx
   show∃c,(cellsFrom (s.heap.objs.size+1) scope.names (FX X.env.cells scope.names [])).lookup x=Gc c
   rw[Br,qX]
   cases e:(cellsFrom (s.heap.objs.size+1) scope.names []).lookup x with
   |some a=>exact⟨a,rfl⟩
   |none=>
    rcases(hx'.elim (Ko (.inl rfl)) (Ko (.inr rfl)))with z|z
    .exact Hr (.inl z)
    .obtain⟨c,hc⟩:=Jt (n:=s.heap.objs.size+1) (S.cells _ z rfl)
     rw[e]at hc;cases hc
 . -- cab
   obtain⟨c',hc'⟩:=Jt (n:=s.heap.objs.size+1) (kj hx)
   have h:(cellsFrom (s.heap.objs.size+1) scope.names (FX X.env.cells scope.names [])).lookup x=Gc c:=h
   rw[Br,qX,hc']at h
   cases h
   exact pz (hC.empty _ _ (mK hc')).2
 . -- exf
   refine⟨ki (hlt b hb),λx c h=>?_⟩
   rcases look h with a|a
   .exact λe=>absurd (kT (e▸hlt b hb) (pz (hC.empty _ _ a).2)) (nC _)
   .exact(hf b hb).2.2.2.2.1 x c a
 . -- YO
   rcases(hf b hb).2.2.2.1 with z|z
   .exact I.ok.YO b o e z
   .exact absurd (kT (kf (I.ok.bs b o e).1) z) (nC _)
 . -- Yl
   rcases kX.mp (I.Su b hs)with z|z
   .exact(hf b hb).2.1 z
   .exact(hf b hb).2.2.1 z
 . -- loc
   unfold sig at h2
   rw[lC]at h2
   cases e:ix[j]? with
   |none=>rw[e]at h2;cases h2
   |some o=>
    rw[e]at h2
    cases o with
    |none=>cases h2
    |some i=>
     have h2':(σ[i]?).join=Gc v:=by simpa using h2
     have h4:σ[i]?=Gc (Gc v):=by
      cases e4:σ[i]? with
      |none=>rw[e4]at h2';cases h2'
      |some q=>rw[e4]at h2';exact congrArg Gc h2'
     obtain⟨q1,q2,q3⟩:=YQ S.ok h1 e
     obtain⟨m,_,hl⟩:=I.loc
     obtain⟨u,r,l⟩:=hl i x v q1 h4 (q2.elim (λz=>.inr (.inl z)) λz=>.inr (.inr z))
     refine⟨u,r,?_⟩
     rcases l with⟨l,_⟩|⟨_,c,lc,z⟩
     .have l':X.env.scope.names.lookup x=Gc .local:=l
      rcases q2 with z|z<;>(rw[z]at l';cases l')
     .refine .inr ⟨JU q3,?_⟩
      obtain⟨c',hc'⟩:=Hr (cells:=X.env.cells) (cs:=[]) (.inl (mK q3))
      have ec:=sub hc'
      rw[lc]at ec
      cases ec
      have no:(cellsFrom (s.heap.objs.size+1) scope.names []).lookup x=none:=by
       cases e:(cellsFrom (s.heap.objs.size+1) scope.names []).lookup x with
       |none=>rfl
       |some a=>
        have q:=S.cells _ (GC (mK e)) rfl
        rw[q3]at q;cases q
      refine⟨c,(by show(cellsFrom (s.heap.objs.size+1) scope.names (FX X.env.cells scope.names [])).lookup x=Gc c;rw[Br,qX,no];exact hc'),?_⟩
      obtain⟨oc,ho,hd⟩:=z
      exact⟨oc,hk _ _ ho,hd⟩
 .rcases look h with a|a
  .exact⟨_,(hC.empty _ _ a).1⟩
  .obtain⟨v,oc,ho,hd⟩:=I.cell x c a
   exact⟨v,oc,hk _ _ ho,hd⟩
 .rcases look h with a|a
  .exact I.hok.fresh (pz (hC.empty _ _ a).2)
  .exact I.K4 x c a
 .show(sig ix σ).length=N'.length
  unfold sig
  rw[ky]
  exact Sl S.ok
end
end L2
end
noncomputable section
namespace L2
open PySem PySem.Spec PyProof.Rows
def PTs(X:Cx)(ifs:Wp lH)(t:TT):Prop:=
 ∀(pins:Wp (kQ×Obj)) (s:kM) (σ:St) (H:Hp) (Q:lM->Hp->Prop),Inv X pins σ H s->t σ H Q->
  wpAny (model X.prog X.w) X.A (forIn ifs true λc r=>if r=true then do let ok<-isTrue c X.env (eval c X.env);pure (rK ok)else pure (rK r)) (TP X pins σ Q) X.xe s
noncomputable def eP:TT:=λ_ H Q=>Q true H
theorem ZC{X:Cx}:PTs X [] eP:=λ_ _ _ H _ I h=>wpAny_tests_nil ⟨H,I,h⟩
theorem YB{X:Cx}{c:lH}{t:TT}(h:PT X c t):PTs X [c] t:=λpins s σ H Q I q=>wpAny_tests_one (h pins s σ H Q I q)
theorem P4{α:Type}{M:yR}{A:lV}{t:Sem α}{Q:α->kM->Prop}{E:kL->kM->Prop}{s:kM}(h:wpAny M A t Q (λ_ _=>pQ) s):wpAny M A t Q E s:=rX h (λ_ _ q=>q) λ_ _ f=>f.elim
def av(ix:Wp (kN Nat))(g:TG)(tc:TT)(te:TE)(J:It)(σ:St)(H:Hp)(Q:VK):Prop:=
 ∀D,H D=none->∃W:Nat->Nat->St->Hp->Wp V->Prop,(∃m,W 0 m (sig ix σ) (upd H D (.lst [])) [])/\∀i m σ H ys,W i m σ H ys->H D=Gc (.lst ys)/\
  ((J.stop i H/\Q (.ref D) H)\/(J.go i H/\ys.length<sizeLine/\∀x H',J.yld i H x H'->g x σ H' λσ2 H2=>tc σ2 H2 λb H3=>
    if b=true then te σ2 H3 λy H4=>H4 D=Gc (.lst ys)/\∃m',m'<m/\W (i+1) m' σ2 (upd H4 D (.lst (ys++[y]))) (ys++[y])else∃m',m'<m/\W (i+1) m' σ2 H3 ys))
noncomputable def Yo(ix:Wp (kN Nat))(wi:TI)(g:TG)(tc:TT)(te:TE):TE:=λσ H Q=>wi σ H λJ H1=>av ix g tc te J σ H1 Q
section
variable{X:Cx}{pins:Wp (kQ×Obj)}{σ:St}{s₂:kM}{N':Wp Str}{ix:Wp (kN Nat)}{scope:nR}{elt tg iter:lH}{ifs:Wp lH}{pos:Pos}{g:TG}{tc:TT}{te:TE}
def Block(X:Cx)(N':Wp Str)(scope:nR)(tg:lH)(ifs:Wp lH)(elt:lH)(g:TG)(tc:TT)(te:TE):Prop:=
 ∀(s:kM) (H:Hp) (fp:Wp kQ),PG (Cc X N' scope s H fp) tg g/\PTs (Cc X N' scope s H fp) ifs tc/\PE (Cc X N' scope s H fp) elt te
theorem Qp {X' : Cx} {it : kQ} {fp : Wp kQ} {tn : Nat -> lP -> Prop} {J : It} {D : kQ} {Q : VK} {R : wC -> kM -> Prop} {W : Nat -> Nat -> St -> Hp -> Wp V -> Prop} {s : kM} {e : Env} {n : Nat} (he : X'.env = e) (hx : X'.xe = fun _ _ => pQ) (hcm : X'.calm = true) (T : Turn X'.prog X'.w X'.K tg J fp it tn) (hfp : ∀ H : Hp, (∀ b ∈ fp, H b = none) -> ∀ b ∈ fp, LW X' [] H b) (hg : PG X' tg g) (ht : PTs X' ifs tc) (hb : PE X' elt te) (turn : ∀ i m σ H ys, W i m σ H ys -> H D = Gc (.lst ys) /\ ((J.stop i H /\ Q (.ref D) H) ∨ (J.go i H /\ ys.length < sizeLine /\ ∀ x H', J.yld i H x H' -> g x σ H' fun σ2 H2 => tc σ2 H2 fun b H3 =>
        if b = true then te σ2 H3 fun y H4 => H4 D = Gc (.lst ys) /\ ∃ m', m' < m /\ W (i + 1) m' σ2 (upd H4 D (.lst (ys ++ [y]))) (ys ++ [y]) else ∃ m', m' < m /\ W (i + 1) m' σ2 H3 ys)))
    (hR : ∀ s' σ' H', Inv X' [] σ' H' s' -> Q (.ref D) H' -> R (.ok .next) s')
    (h0 : ∃ i σ' H' ys, Inv X' [] σ' H' s /\ tn i s.heap /\ (∀ b ∈ fp, H' b = none) /\ W i n σ' H' ys) :
    codeAny (model X'.prog X'.w) X'.A (.compLoop (.ListComp elt [⟨tg, iter, ifs, 0⟩] scope pos) 0 (.ref it) (.ref D) e) R s := by
  subst he
  refine yz rfl (fun n s => ∃ i σ' H' ys, Inv X' [] σ' H' s /\ tn i s.heap /\ (∀ b ∈ fp, H' b = none) /\ W i n σ' H' ys) (fun n s3 hI => ?_) n h0
  show wpAny _ X'.A ((compTurn (.ListComp elt [⟨tg, iter, ifs, 0⟩] scope pos) 0 (.ref it) (.ref D) X'.env).onRaise (fun x => do noteFrame x X'.env; theTreesLotGoes x)) _ _ s3
  refine wpAny_noted (P4 ?_)
  rw [compTurn_list]
  obtain ⟨i, σ3, H3, ys, I3, st3, fr3, w3⟩ := hI
  obtain ⟨hD, alt⟩ := turn i n σ3 H3 ys w3
  rcases alt with ⟨stop, q⟩ | ⟨go, hlen, step⟩
  · refine kH (nh (kH (thn (T.done X' rfl rfl rfl hcm i [] s3 σ3 H3 _ I3 (hfp H3 fr3) st3 stop) fun r s4 ⟨hr, I4⟩ => ?_)))
    subst hr
    exact kO (hR s4 σ3 H3 I4 q)
  · refine kH (nh (kH (thn (T.item X' rfl rfl rfl hcm i [] s3 σ3 H3 _ I3 (hfp H3 fr3) st3 go) fun r s4 ⟨u, hr, h4⟩ => ?_)))
    subst hr
    refine kH (thn h4 fun _ s5 ⟨x, H5, I5, r5, y5, st5, fr5⟩ => ?_)
    have I5' := I5.pinned (hfp H5 fr5) (T.obj _ _ st5)
    have hg' := hg _ s5 σ3 H5 x u _ I5' r5 (step x H5 y5)
    rw [hx] at hg'
    refine kH (thn hg' fun _ s6 ⟨σ6, H6, I6, q6⟩ => ?_)
    have ht' := ht _ s6 σ6 H6 _ I6 q6
    rw [hx] at ht'
    refine kH (thn ht' fun ok s7 ⟨H7, I7, q7⟩ => ?_)
    have again : ∀ {s8 : kM} {H8 : Hp} {zs : Wp V} {m' : Nat}, Inv X' ([] ++ Lb fp s5.heap) σ6 H8 s8 -> m' < n -> W (i + 1) m' σ6 H8 zs -> ∃ m, m < n /\ ∃ i σ' H' ys, Inv X' [] σ' H' s8 /\ tn i s8.heap /\ (∀ b ∈ fp, H' b = none) /\ W i m σ' H' ys := fun {s8 H8 zs m'} I8 hm w8 => by
      refine ⟨m', hm, i + 1, σ6, H8, zs, I8.Hn, T.keep _ _ _ st5 fun b hb o e => (I8.pin (b, o) (lK _ (lK _ (EW hb e)))).1, fun b hb => ?_, w8⟩
      obtain ⟨o, e, d⟩ := T.obj _ _ st5 b hb
      exact (I8.pin (b, o) (lK _ (lK _ (EW hb e)))).2.1
    cases ok with
    | false =>
      rw [lJ (by decide)] at q7
      obtain ⟨m', hm, w7⟩ := q7
      exact kO ⟨rfl, again I7 hm w7⟩
    | true =>
      rw [lF rfl] at q7
      have hb' := hb _ s7 σ6 H7 _ I7 q7
      rw [hx] at hb'
      refine kH (kH (thn hb' fun v s8 ⟨y, H8, I8, r8, hD8, m', hm, w8⟩ => ?_))
      have ha := Nn (X := X') _ s8 σ6 H8 (.ref D) [y] (.ref D) [v] (fun _ H9 => H9 = upd H8 D (.lst (ys ++ [y]))) I8 rfl (.cons r8 .nil) ⟨D, ys, y, rfl, rfl, hD8, hlen, rfl⟩
      rw [hx] at ha
      refine kH (thn ha fun _ s9 ⟨_, H9, I9, _, e9⟩ => ?_)
      subst e9
      exact kO (kO ⟨rfl, again I9 hm w8⟩)
theorem Pu(hc:X.calm=true)(S:AZ X.N X.env.scope N' ix scope)(hb:Block X N' scope tg ifs elt g tc te){it:kQ}{fp:Wp kQ}{tn:Nat->lP->Prop}{J:It}{H₂:Hp}{Q:VK}{E:kL->kM->Prop}{RR:kL->kQ->wC->kM->Prop}(I2:Inv X pins σ H₂ s₂)(T:Turn X.prog X.w X.K tg J fp it tn)(st2:tn 0 s₂.heap)(f2:∀b∈fp,LW X pins H₂ b)(hW:av ix g tc te J σ H₂ Q)(hRR:∀D C H' s',Inv X pins σ H' s'->(∃m,s'.heap.Ns C m)->LW X pins H' C->Q (.ref D) H'->RR (.ref D) C (.ok .next) s'):wpAny (model X.prog X.w) X.A (newList []) (λacc s₃=>wpAny (model X.prog X.w) X.A (newFunctionEnv scope X.env.globals (FX X.env.cells scope.names []) [] X.env.qual none .none (Gc X.env)) (λcenv s₄=>
  codeAny (model X.prog X.w) X.A (.compStart (.ListComp elt [⟨tg,iter,ifs,0⟩] scope pos) 0 (.ref it) acc {cenv with scope:=relabel scope X.env}) (RR acc cenv.locals) s₄) E s₃) E s₂:=by
 have hD0:H₂ s₂.heap.objs.size=none:=I2.hok.fresh (kR _)
 have hlt2:∀b∈fp,b<s₂.heap.objs.size:=λb hb=>by
  obtain⟨o,e,_⟩:=T.obj _ _ st2 b hb
  exact kf e
 refine lu (Fs (λh₁ hns₁ hsb₁ hcl₁=>?_))
 have I3:Inv X pins σ (upd H₂ s₂.heap.objs.size (.lst [])) {s₂ with heap:=s₂.heap.push {cls:=.type "list",dict:=none,data:=.seq ([]:Wp kL).toArray}}:=
  I2.laid (t':=s₂.toks) (λb u e=>kK _ e) (kR _) ⟨mI _,[],0,.nil,kZ _ rfl⟩
 have f3:∀b∈fp,LW X pins (upd H₂ s₂.heap.objs.size (.lst [])) b:=λb hb=>⟨by rw[Ae (ki (hlt2 b hb))];exact(f2 b hb).1,(f2 b hb).2⟩
 have k3:∀b o,s₂.heap.get? b=Gc o->(s₂.heap.push {cls:=.type "list",dict:=none,data:=.seq ([]:Wp kL).toArray}).get? b=Gc o:=λb o e=>kK _ e
 dsimp only at hns₁ hsb₁ hcl₁⊢
 generalize hs3:({s₂ with heap:=s₂.heap.push {cls:=.type "list",dict:=none,data:=.seq ([]:Wp kL).toArray}}:kM)=s₃ at I3
 have eh:s₂.heap.push {cls:=.type "list",dict:=none,data:=.seq ([]:Wp kL).toArray}=s₃.heap:=by rw[<-hs3]
 have et:s₂.toks=s₃.toks:=by rw[<-hs3]
 have es:∀(h:lP) (t:Nat),({s₂ with heap:=h,toks:=t}:kM)={s₃ with heap:=h,toks:=t}:=λh t=>by rw[<-hs3]
 rw[eh]at hns₁ hsb₁ hcl₁ k3⊢
 have hlt3:∀b∈fp,b<s₃.heap.objs.size:=λb hb=>by
  obtain⟨o,e,_⟩:=T.obj _ _ st2 b hb
  exact kf (k3 b o e)
 have k4:∀b o,s₃.heap.get? b=Gc o->h₁.get? b=Gc o:=hsb₁
 obtain⟨W,⟨m0,w0⟩,turn⟩:=hW _ hD0
 have I4:∀tk,Inv (Cc X N' scope s₃ (upd H₂ s₂.heap.objs.size (.lst [])) fp) [] (sig ix σ) (upd H₂ s₂.heap.objs.size (.lst [])) {s₃ with heap:=h₁,toks:=tk}:=λtk=>PQ S hc I3 f3 hlt3 hns₁ k4 hcl₁
 have st4:tn 0 h₁:=T.keep _ _ _ st2 λb hb o e=>k4 b o (k3 b o e)
 obtain⟨bg,bt,be⟩:=hb s₃ (upd H₂ s₂.heap.objs.size (.lst [])) fp
 have noX:∀(H:Hp),(∀b∈fp,H b=none)->∀b∈fp,LW (Cc X N' scope s₃ (upd H₂ s₂.heap.objs.size (.lst [])) fp) [] H b:=λH hn b hb=>by
  obtain⟨_,h2,h3⟩:=f3 b hb
  refine⟨hn b hb,ki (hlt3 b hb),λhs=>(I4 0).ok.Yl b hb hs,.inl hb,λx c h=>?_,λp hp=>absurd (show p∈([]:Wp (kQ×Obj))from hp) (by simp)⟩
  exact((I4 0).ok.exf b hb).2 x c h
 have fin:∀(s':kM) (σ':St) (H':Hp),Inv (Cc X N' scope s₃ (upd H₂ s₂.heap.objs.size (.lst [])) fp) [] σ' H' s'->Q (.ref s₂.heap.objs.size) H'->RR (.ref s₂.heap.objs.size) s₃.heap.objs.size (.ok .next) s':=λs' σ' H' I' q=>by
  refine hRR _ _ H' s' ?_ (let⟨m,hn,_⟩:=I'.loc;⟨m,hn⟩) (I3.XC (kR _) I'.free) q
  exact I3.az I'.os I'.base I'.hok I'.bare λb hb=>⟨(f3 b hb).2.2.2.1,(f3 b hb).2.1,(f3 b hb).2.2.2.2.1,(f3 b hb).2.2.2.2.2⟩
 have loop:∀tk,codeAny (model X.prog X.w) X.A (.compLoop (.ListComp elt [⟨tg,iter,ifs,0⟩] scope pos) 0 (.ref it) (.ref s₂.heap.objs.size) (compEnvC scope (cellsFrom (s₃.heap.objs.size+1) scope.names (FX X.env.cells scope.names [])) s₃.heap.objs.size X.env)) (RR (.ref s₂.heap.objs.size) s₃.heap.objs.size) {s₃ with heap:=h₁,toks:=tk}:=λtk=>
  Qp (X':=Cc X N' scope s₃ (upd H₂ s₂.heap.objs.size (.lst [])) fp) (D:=s₂.heap.objs.size) (Q:=Q) (W:=W) rfl rfl rfl T noX bg bt be turn fin ⟨0,_,_,_,I4 tk,st4,λb hb=>(f3 b hb).1,w0⟩
 rw[es]
 exact codeAny_compStart_list (loop _) (T.self _ 0 _ _ _ st4 (loop _))
theorem YM{wi:TI}(hc:X.calm=true)(S:AZ X.N X.env.scope N' ix scope)(hi:PI X tg iter wi)(hb:Block X N' scope tg ifs elt g tc te)(hs:∀x,foldedSetIterable iter X.env x=pure x:=by intro _;rfl):PE X (.ListComp elt [⟨tg,iter,ifs,0⟩] scope pos) (Yo ix wi g tc te):=by
 intro pins s σ H Q I h
 rw[eval_ListComp]
 refine qQ (use:=none) rfl hs (Mh (I.cellsOf S)) S.kind S.names (thn (hi pins s σ H _ I h) λv s1 h1=>thn h1 λitv s2 h2=>?_)
 obtain⟨it,fp,tn,J,H2,e,I2,T,st2,f2,hW⟩:=h2
 subst e
 refine Pu (RR:=λacc C=>compPost (model X.prog X.w) X.A X.xe none (EP X pins σ Q) acc C) hc S hb I2 T st2 f2 hW ?_
 intro D C H' s' I' hm hC q
 obtain⟨m,hm⟩:=hm
 refine⟨m,hm,λh' hs'=>⟨.ref D,H',I'.turned (it:=C) (t':=s'.toks) (λb o hb e=>hs'.extBut b o hb e) hC.1 hC.2.1 hC.2.2.2.1 hC.2.2.2.2.1 hC.2.2.2.2.2,rfl,q⟩⟩
end
end L2
end
noncomputable section
namespace L2
open PySem PySem.Spec PyProof.Rows
section
variable{X:Cx}{N':Wp Str}{ix:Wp (kN Nat)}{scope:nR}{elt tg iter:lH}{ifs:Wp lH}{pos spos py:Pos}{g:TG}{tc:TT}{te:TE}{wi:TI}{i:Nat}{y:Str}
theorem QW(hc:X.calm=true)(hN:X.N.Nodup)(hi':X.N[i]?=Gc y)(hx:X.env.scope.names.lookup y=Gc .local)(S:AZ X.N X.env.scope N' ix scope)(hi:PI X tg iter wi)(hb:Block X N' scope tg ifs elt g tc te)(hsw:swapsWith (.ListComp elt [⟨tg,iter,ifs,0⟩] scope pos) (Gc (.Name y py)) spos.line X.env=pure true:=by rfl)(hs:∀x,foldedSetIterable iter X.env x=pure x:=by intro _;rfl):PS X (.Assign [.Name y py] (.ListComp elt [⟨tg,iter,ifs,0⟩] scope pos) spos) (fw (Yo ix wi g tc te) (Yx i)):=by
 intro pins s σ H D I h
 rw[exec_Assign_Name_used _ _ _ _ hsw]
 refine kH (nh (kH ?_))
 show wpAny _ X.A (do let _<-comprehension (.ListComp elt [⟨tg,iter,ifs,0⟩] scope pos) scope X.env _ (newList []) false (eval iter X.env) (Gc (assign (.Name y py) X.env))) _ _ s
 refine kH (rX (qQ (use:=Gc (assign (.Name y py) X.env)) (Q:=λ_ s'=>SP X pins D .next s') rfl hs (Mh (I.cellsOf S)) S.kind S.names
  (thn (hi pins s σ H _ I h) λv s1 h1=>thn h1 λitv s2 h2=>?_)) (λ_ s' hq=>kO (kO hq)) λ_ _ e=>e)
 obtain⟨it,fp,tn,J,H2,e,I2,T,st2,f2,hW⟩:=h2
 subst e
 refine Pu (RR:=λacc C=>compPost (model X.prog X.w) X.A X.xe (Gc (assign (.Name y py) X.env)) (λ_ s'=>SP X pins D .next s') acc C) hc S hb I2 T st2 f2 hW ?_
 intro L C H' s' I' hm hC q
 obtain⟨m,hm⟩:=hm
 show wpAny _ X.A (assign (.Name y py) X.env (.ref L)) _ _ _
 refine vN (NO I' hN hi' (.inl hx) (v:=.ref L) rfl (λs'' I'' ⟨a,sb,ha⟩=>?_) (.inr hx))
 have hCa:C≠a:=by
  rcases ha with rfl|ha
  .exact hC.2.1
  .exact mR (hC.2.2.2.2.1 y a ha)
 refine⟨m,hm.sameBut sb hCa,λh' hs'=>?_⟩
 exact⟨_,H',I''.turned (it:=C) (t':=s''.toks) (λb o hb e=>hs'.extBut b o hb e) hC.1 hC.2.1 hC.2.2.2.1 hC.2.2.2.2.1 hC.2.2.2.2.2,q⟩
end
end L2
end
noncomputable section
namespace L2
open PySem PySem.Spec PyProof.Rows
section
variable{κ:Type} [uK κ]
noncomputable def Qg(kvs:Wp (κ×V))(k:κ):kN V:=(kvs.find? λkv=>decide (kv.1=k)).map (·.2)
noncomputable def putK(kvs:Wp (κ×V))(k:κ)(v:V):Wp (κ×V):=
 if(kvs.any λkv=>decide (kv.1=k))=true then kvs.map (λkv=>if kv.1=k then(kv.1,v)else kv)else kvs++[(k,v)]
theorem MM{p:κ×V}{r:Wp (κ×V)}{k:κ}(e:p.1=k):Qg (p::r) k=Gc p.2:=by simp[Qg,oQ,e]
theorem MC{p:κ×V}{r:Wp (κ×V)}{k:κ}(e:¬p.1=k):Qg (p::r) k=Qg r k:=by simp[Qg,oQ,e]
theorem Ow(kvs:Wp (κ×V))(k:κ)(v:V):(putK kvs k v).length<=kvs.length+1:=by
 unfold putK
 split
 .rw[ky];lia
 .rw[lQ,l7,qT];lia
theorem Ww.getD{o:kN V}{u:kN kL}{d:V}{d':kL}(r:Ww o u)(rd:RelV d d'):RelV (o.getD d) (u.getD d'):=by
 cases o with
 |none=>cases u with
  |none=>exact rd
  |some _=>exact(show pQ from r).elim
 |some _=>cases u with
  |none=>exact(show pQ from r).elim
  |some _=>exact r
theorem KV.val{kvs:Wp (κ×V)}{vs:Wp (κ×kL)}(r:KV kvs vs)(k:κ):Ww (Qg kvs k) (valueAt vs k):=by
 unfold KV at r
 induction r with
 |nil=>exact qW
 | @cons p q ps qs h t ih=>
   obtain⟨h1,h2⟩:=h
   by_cases e:p.1=k
   .have e':q.1=k:=h1.symm.trans e
    have b:valueAt (q::qs) k=Gc q.2:=by simp[valueAt,oQ,e']
    rw[MM e,b];exact h2
   .have e':¬q.1=k:=λz=>e (h1.trans z)
    have b:valueAt (q::qs) k=valueAt qs k:=by simp[valueAt,oQ,e']
    rw[MC e,b];exact ih
theorem KV.any{kvs:Wp (κ×V)}{vs:Wp (κ×kL)}(r:KV kvs vs)(k:κ):(kvs.any λkv=>decide (kv.1=k))=vs.any λkv=>decide (kv.1=k):=by
 unfold KV at r
 induction r with
 |nil=>rfl
 |cons h t ih=>rw[nP,nP,ih,h.1]
theorem KV.bU{kvs:Wp (κ×V)}{vs:Wp (κ×kL)}(r:KV kvs vs)(k:κ){y:V}{u:kL}(ry:RelV y u):KV (kvs.map λkv=>if kv.1=k then(kv.1,y)else kv) (vs.map λkv=>if kv.1=k then(kv.1,u)else kv):=by
 unfold KV at r⊢
 induction r with
 |nil=>exact .nil
 | @cons p q ps qs h t ih=>
   rw[kq,kq]
   refine .cons ?_ ih
   obtain⟨h1,h2⟩:=h
   by_cases e:p.1=k
   .rw[lF e,lF (h1.symm.trans e)];exact⟨h1,ry⟩
   .rw[lJ e,lJ (λz=>e (h1.trans z))];exact⟨h1,h2⟩
theorem KV.put{kvs:Wp (κ×V)}{vs:Wp (κ×kL)}(r:KV kvs vs)(k:κ){y:V}{u:kL}(ry:RelV y u):KV (putK kvs k y) (stored vs k u):=by
 unfold putK stored
 rw[r.any k]
 by_cases e:(vs.any λkv=>decide (kv.1=k))=true
 .rw[lF e,lF e];exact r.bU k ry
 .rw[lJ e,lJ e];exact Paired.snoc r ⟨rfl,ry⟩
theorem KV.keys{kvs:Wp (κ×V)}{vs:Wp (κ×kL)}(r:KV kvs vs):kvs.map (·.1)=vs.map (·.1):=by
 unfold KV at r
 induction r with
 |nil=>rfl
 |cons h t ih=>rw[kq,kq,ih,h.1]
theorem KV.length{kvs:Wp (κ×V)}{vs:Wp (κ×kL)}(r:KV kvs vs):kvs.length=vs.length:=xt r
end
theorem Xw{P:k8}{w:lO}{k:Key}{u:kL}(r:RelV (kV k) u):(Co P w).is k u=true:=by
 cases k with
 |inl i=>obtain⟨t,e⟩:=(show∃t,u=qZ i t from r);subst e;exact O1 P w i t
 |inr x=>obtain⟨t,e⟩:=(show∃t,u=sv x t from r);subst e;exact OY P w x t
theorem OG{P:k8}{w:lO}:∀{ks:Wp Key} {us:Wp kL},Vals (ks.map kV) us->ItemsAre (Co P w) ks us
 | [],_,r=>by rw[mX]at r;cases r;exact .nil
 |k::ks,_,r=>by
  rw[kq]at r
  cases r with
  |cons h t=>exact .cons (Xw h) (OG t)
abbrev KT(H:Hp):Wp (Wp Key×V)->Wp (Wp Key×kQ×kL)->Prop:=Paired λp q=>p.1=q.1/\H q.2.1=Gc (.tup (p.1.map kV))/\RelV p.2 q.2.2
theorem KT.val{H:Hp}{kvs:Wp (Wp Key×V)}{xs:Wp (Wp Key×kQ×kL)}(r:KT H kvs xs)(k:Wp Key):Ww (Qg kvs k) ((atKey xs k).map (·.2)):=by
 induction r with
 |nil=>exact qW
 | @cons p q ps qs h t ih=>
   obtain⟨h1,_,h2⟩:=h
   by_cases e:p.1=k
   .have e':q.1=k:=h1.symm.trans e
    have b:atKey (q::qs) k=Gc q.2:=by simp[atKey,oQ,e']
    rw[MM e,b];exact h2
   .have e':¬q.1=k:=λz=>e (h1.trans z)
    have b:atKey (q::qs) k=atKey qs k:=by simp[atKey,oQ,e']
    rw[MC e,b];exact ih
section
variable{P:k8}{w:lO}{H:Hp}{h:lP}{a:kQ}
theorem Zb{u:HO}(ok:HOk P w H h)(e:Rd H a u):Dw P w H h a u:=e.ok ok
theorem X3{kvs:Wp (Key×V)}(ok:HOk P w H h)(e:Rd H a (.dK kvs)):kvs.length<=sizeLine/\(a==sysModules)=false/\∃vs,KV kvs vs/\h.DictOf (Co P w) a vs:=
 show Dw P w H h a (.dK kvs)from Zb ok e
theorem bD{kvs:Wp (Key×V)}(ok:HOk P w H h)(e:H a=Gc (.dK kvs)):kvs.length<=sizeLine/\(a==sysModules)=false/\∃vs,KV kvs vs/\h.DictOf (Co P w) a vs:=X3 ok (.inl e)
theorem WZ{ks:Wp Key}(ok:HOk P w H h)(e:H a=Gc (.tup (ks.map kV))):(tupleKind (Co P w)).is h ks a:=by
 obtain⟨_,its,r,o,h1,h2,n,h3⟩:=(show Dw P w H h a (.tup (ks.map kV))from ok a _ e)
 exact⟨o,its.toArray,n,h1,h2,h3,by simpa using OG r⟩
theorem YY{kvs:Wp (Wp Key×V)}(ok:HOk P w H h)(e:Rd H a (.dT kvs)):kvs.length<=sizeLine/\(a==sysModules)=false/\∃xs,KT H kvs xs/\h.DictOfH (tupleKind (Co P w)) a xs:=by
 obtain⟨z,y,xs,r,o,es,ep,h1,h2,h3,h4,h5⟩:=(show Dw P w H h a (.dT kvs)from Zb ok e)
 refine⟨z,y,xs,r,o,es,ep,h1,h2,h3,h4,λx hx=>?_,h5⟩
 have all:∀{l:Wp (Wp Key×V)} {m:Wp (Wp Key×kQ×kL)},KT H l m->∀x∈m,(tupleKind (Co P w)).is h x.1 x.2.1:=by
  intro l m q
  induction q with
  |nil=>intro x hx;exact nomatch hx
  | @cons p q ps qs hq t ih=>
    intro x hx
    rcases kX.mp hx with e|hx
    .subst e
     exact WZ ok (by rw[<-hq.1];exact hq.2.1)
    .exact ih x hx
 exact all r x hx
theorem YX{kvs:Wp (Wp Key×V)}(ok:HOk P w H h)(e:H a=Gc (.dT kvs)):kvs.length<=sizeLine/\(a==sysModules)=false/\∃xs,KT H kvs xs/\h.DictOfH (tupleKind (Co P w)) a xs:=YY ok (.inl e)
end
def dN(H:Hp)(a:kQ)(y:V)(r:kN V):Prop:=
 (∃kvs k,Rd H a (.dK kvs)/\y=kV k/\r=Qg kvs k)\/∃kvs k b,Rd H a (.dT kvs)/\y=.ref b/\H b=Gc (.tup (k.map kV))/\r=Qg kvs k
theorem dN.k{H:Hp}{a:kQ}{kvs:Wp (Key×V)}{k:Key}(e:H a=Gc (.dK kvs)):dN H a (kV k) (Qg kvs k):=.inl ⟨kvs,k,.inl e,rfl,rfl⟩
section
variable{X:Cx}{pins:Wp (kQ×Obj)}{σ:St}{H:Hp}{s:kM}{a:kQ}{y v:V}{u r:kL}{o:kN V}{A:lV}{E:kL->kM->Prop}
theorem Inv.big(I:Inv X pins σ H s):sysModules<s.heap.objs.size:=by
 have h:mainGlobals<s.heap.objs.size:=(I.mod.glob.keeps I.bk).lt
 exact qF (by decide) h
theorem ZM{h':lP}{t':Nat}{ob:HO}(I:Inv X pins σ H s)(mu:Mut (H a))(hs:nY a s.heap h')(he:∃q,h'.get? a=Gc q)(new:Dw X.prog X.w (upd H a ob) h' a ob):Inv X pins σ (upd H a ob) {s with heap:=h',toks:=t'}:=
 I.write (x:=a) (e:=a) mu (.inl rfl) (λb q hb z=>(hs.2 b hb).trans z) he new
theorem ao{P:k8}{w:lO}{H':Hp}{h':lP}{kvs:Wp (Key×V)}{vs:Wp (Key×kL)}(z:kvs.length<=sizeLine)(hd:(a==sysModules)=false)(rel:KV kvs vs)(dd:h'.DictOf (Co P w) a vs):Dw P w H' h' a (.dK kvs):=⟨z,hd,vs,rel,dd⟩
end
section
variable{X:Cx}{pins:Wp (kQ×Obj)}{σ:St}{H:Hp}{s:kM}{a:kQ}{kvs:Wp (Key×V)}{k:Key}{u:kL}{A:lV}{E:kL->kM->Prop}
end
section
variable{X:Cx}{o i e value:lH}{pos pos' tpos:Pos}{td ty tv:TE}
end
section
variable{X:Cx}{pos:Pos}
end
def Wg:Wp (TE×TE)->St->Hp->(Wp (V×V)->Hp->Prop)->Prop
 | [],_,H,Q=>Q [] H
 |(tk,tv)::r,σ,H,Q=>tk σ H λx H1=>tv σ H1 λy H2=>Wg r σ H2 λps H3=>Q ((x,y)::ps) H3
abbrev VV:Wp (V×V)->Wp (kL×kL)->Prop:=Paired λp q=>RelV p.1 q.1/\RelV p.2 q.2
def PPs(X:Cx)(pos:Pos)(keys:Wp (kN lH))(values:Wp lH)(trs:Wp (TE×TE)):Prop:=
 ∀(pins:Wp (kQ×Obj)) (s:kM) (σ:St) (H:Hp) (Q:Wp (V×V)->Hp->Prop),Inv X pins σ H s->Wg trs σ H Q->
  wpAny (model X.prog X.w) X.A (evalPairs (pairTrees keys values X.env pos)) (λvs s'=>∃ps H',Inv X pins σ H' s'/\VV ps vs/\Q ps H') X.xe s
structure M1(X:Cx)(o:lH)(m:Str)(apos:Pos)(e:lH)(cpos:Pos):Prop where
 base:attributeBase o m X.env (eval o X.env)=eval o X.env
 few:((backTo cpos (k9 [e] X.env)).all (λx=> !x.1) && (backToKw cpos (keywordEach [] X.env)).all (λx=>x.1.isSome)
  && decide (([e]:Wp lH).length+([]:Wp sR).length+(if([]:Wp sR).isEmpty then 0 else 1)<30))=true
 line:(apos.endLine==cpos.line)=true
 trees:backTo cpos (k9 [e] X.env)=[(false,eval e X.env)]
structure M2(X:Cx)(o:lH)(m:Str)(apos:Pos)(e f:lH)(cpos:Pos):Prop where
 base:attributeBase o m X.env (eval o X.env)=eval o X.env
 few:((backTo cpos (k9 [e,f] X.env)).all (λx=> !x.1) && (backToKw cpos (keywordEach [] X.env)).all (λx=>x.1.isSome)
  && decide (([e,f]:Wp lH).length+([]:Wp sR).length+(if([]:Wp sR).isEmpty then 0 else 1)<30))=true
 line:(apos.endLine==cpos.line)=true
 trees:backTo cpos (k9 [e,f] X.env)=[(false,eval e X.env),(false,eval f X.env)]
def IsD(H:Hp)(a:kQ):Prop:=(∃kvs,Rd H a (.dK kvs))\/∃kvs,Rd H a (.dT kvs)
theorem aA{X:Cx}{pins:Wp (kQ×Obj)}{σ:St}{H:Hp}{s:kM}{a:kQ}(I:Inv X pins σ H s)(d:IsD H a):s.TypeIs (.ref a) "dict" /\(∀b,mF a=.ref b->∃ob,s.heap.get? b=Gc ob/\ob.dict=none)/\(a==sysModules)=false:=by
 rcases d with⟨kvs,e⟩|⟨kvs,e⟩
 .obtain⟨_,hd,vs,_,dd⟩:=X3 I.hok e
  refine⟨dd.typeIs,λb q=>?_,hd⟩
  cases q
  obtain⟨ob,_,_,h1,h2,_⟩:=dd
  exact⟨ob,h1,h2.2.1⟩
 .obtain⟨_,hd,xs,_,dd⟩:=YY I.hok e
  refine⟨dd.typeIs,λb q=>?_,hd⟩
  cases q
  obtain⟨ob,_,_,h1,h2,_⟩:=dd
  exact⟨ob,h1,h2.2.1⟩
section
variable{X:Cx}{pins:Wp (kQ×Obj)}{σ:St}{H:Hp}{s:kM}{a:kQ}{y d:V}{u r:kL}{o:kN V}{A:lV}{E:kL->kM->Prop}
theorem Zf{Q:kL->kM->Prop}(hu:A.units+1<cLine)(I:Inv X pins σ H s)(g:dN H a y o)(ry:RelV y u)(h:∀w' s',Inv X pins σ H s'->RelV (o.getD .non) w'->Q w' s'):wpAny (model X.prog X.w) A (call (.builtin "dict.get") [.ref a,u]) Q E s:=by
 rcases g with⟨kvs,k,e,ey,l⟩|⟨kvs,k,b,e,ey,eb,l⟩
 .subst ey
  obtain⟨z,hd,vs,rel,dd⟩:=X3 I.hok e
  refine y7 qv dd.typeIs tU (tJ _ _) (meets_dict_get (Co X.prog X.w) a (Xw ry) hd) ⟨_,dd.mapOf,h _ _ (I.tok _) ?_⟩
  rw[l]
  exact(rel.val k).getD rfl
 .subst ey
  cases (show u=mF b from ry)
  obtain⟨z,hd,xs,rel,dd⟩:=YY I.hok e
  refine y7 qv dd.typeIs tU (tJ _ _) (meetsH_dict_get (tupleKind (Co X.prog X.w)) a b hd) ⟨tupleKind_room_in1 hu,k,xs,WZ I.hok eb,dd,h _ _ (I.tok _) ?_⟩
  rw[l]
  exact(rel.val k).getD rfl
end
noncomputable def bB(td ty:TE):TE:=λσ H Q=>td σ H λx H1=>∃a,x=.ref a/\IsD H1 a/\ty σ H1 λy H2=>∃o,dN H2 a y o/\Q (o.getD .non) H2
section
variable{X:Cx}{o e f:lH}{apos cpos:Pos}{td ty tx:TE}
theorem Vb(hu:X.A.units+1<cLine)(ho:PE X o td)(he:PE X e ty)(m:M1 X o "get" apos e cpos):PE X (.Call (.Attribute o "get" apos) [e] [] cpos) (bB td ty):=by
 intro pins s σ H Q I h
 refine wpAny_Call_method m.base m.few m.line PySem.F.plainAttrs_dict qv PySem.F.type_dict_get (thn (ho pins s σ H _ I h) λu s1 ⟨x,H1,I1,rx,a,ex,d,q1⟩=>?_)
 subst ex
 obtain rfl:u=mF a:=rx
 obtain⟨t1,t2,_⟩:=aA I1 d
 refine⟨t1,t2,?_⟩
 rw[m.trees]
 refine tT rfl (uP (rC (thn (he pins s1 σ H1 _ I1 q1) λiv s2 ⟨y,H2,I2,ry,ov,g,q2⟩=>rP ?_)))
 exact Zf hu I2 g ry λw' s3 I3 rw'=>⟨_,H2,I3,rw',q2⟩
end
section
variable{X:Cx}{pins:Wp (kQ×Obj)}{σ:St}{H:Hp}{s:kM}{a:kQ}{kvs:Wp (Key×V)}{A:lV}{E:kL->kM->Prop}
end
section
variable{X:Cx}{pins:Wp (kQ×Obj)}{σ:St}{H:Hp}{s:kM}{a:kQ}{y:V}{u:kL}{A:lV}{E:kL->kM->Prop}
end
end L2
end
noncomputable section
namespace L2
open PySem PySem.Spec PyProof.Rows
section
variable{prog:k8}{w:lO}{A:lV}{E:kL->kM->Prop}{s:kM}
theorem QQ{h:lP}{it t:kQ}{i:Nat}{o:Obj}(ho:h.get? it=Gc o)(hc:o.cls=.type "tuple_iterator")(hd:o.data=.fields #[.ref t,.int i 0]){h':lP}(e:h'=h.update it (λo=>o.mapFields λa=>a.setIfInBounds 1 (rawInt ((i:Int)+1)))):h'.IsTupleIter it t (i+1):=by
 subst e
 have d:=mf hd λa=>a.setIfInBounds 1 (rawInt ((i:Int)+1))
 refine⟨_,lZ _ ho (oI d),?_,?_⟩
 .rw[qi];exact hc
 .rw[d];simp[rawInt]
theorem WK{it t:kQ}{i:Nat}{items:lE kL}{x:kL}{Q:kL->kM->Prop}(hit:s.heap.IsTupleIter it t i)(ht:s.heap.IsTuple t items)(hx:items[i]?=Gc x)(hQ:∀h',h'.IsTupleIter it t (i+1)->nY it s.heap h'->Q x {s with heap:=h'}):wpAny (model prog w) A (lY (.ref it)) Q E s:=by
 obtain⟨⟨c,dd,dt,sl⟩,ho,hc,hd⟩:=id hit
 obtain⟨⟨c2,dd2,dt2,sl2⟩,ho2,hc2,n2,hd2⟩:=id ht
 simp only at hc hd hc2 hd2
 subst hc hd hc2 hd2
 unfold lY
 refine kH (lx (name:=mL "__next__") hit.typeIs oE (lg oE hit.typeIs rT ?_ (rL _)))
 unfold nJ.«tuple_iterator.__next__»
 wp_walk using lB ho,lB ho2
 have e:items[(i:Int).toNat]?=Gc x:=by rw[pq];exact hx
 rw[e]
 refine kH (oF ho rfl (by simp) ?_)
 exact kO ⟨x,rfl,kO (hQ _ (QQ ho rfl rfl rfl) (mN ..))⟩
theorem Ua{it t:kQ}{i:Nat}{items:lE kL}{Q:kL->kM->Prop}(hh:A.handled=none)(hit:s.heap.IsTupleIter it t i)(ht:s.heap.IsTuple t items)(hx:items[i]?=none)(hE:∀h' e,qb it s.heap h'->(∃o,h'.get? e=Gc o/\o.cls=.type "StopIteration")->E (.ref e) {s with heap:=h'}):wpAny (model prog w) A (lY (.ref it)) Q E s:=by
 obtain⟨⟨c,dd,dt,sl⟩,ho,hc,hd⟩:=id hit
 obtain⟨⟨c2,dd2,dt2,sl2⟩,ho2,hc2,n2,hd2⟩:=id ht
 simp only at hc hd hc2 hd2
 subst hc hd hc2 hd2
 unfold lY
 refine kH (lx (name:=mL "__next__") hit.typeIs oE (lg oE hit.typeIs rT ?_ (rL _)))
 unfold nJ.«tuple_iterator.__next__»
 wp_walk using lB ho,lB ho2
 have e:items[(i:Int).toNat]?=none:=by rw[pq];exact hx
 rw[e]
 refine kH (oZ (kH (oF ho rfl (by simp) ?_)))
 have hh1:A.in1.handled=none:=hh
 unfold vY
 simp only[newExc,newTuple,raiseNew]
 wp_walk
 refine hE _ _ ?_ ⟨_,kZ _ rfl,rfl⟩
 have a:=(mN (a:=it) (h:=s.heap) (f:=uv λx=>x.setIfInBounds 0 mW)).extBut
 exact(a.push _).push _
theorem R8(l:kQ)(items:lE kL)(n:Nat)(dct:kN kQ)(sl:lE (kN kL)):Meets (nJ.«enumerate.__new__» ⟨[.type "enumerate",.ref l],[]⟩) (λ_ R s=>s.heap.get? l=Gc {cls:=.type "tuple",dict:=dct,data:=.seq items n,slots:=sl}/\R (.ok (.ret (.ref (s.heap.objs.size+1)))) {s with heap:=(s.heap.push {cls:=.type "tuple_iterator",data:=.fields #[.ref l,.int 0 0]}).push {cls:=.type "enumerate",data:=.fields #[.none,.bool false,.ref s.heap.objs.size,rawInt 0,.none,.none]}}):=
 .of_wp λprog w A R s h=>by
  obtain⟨hp,g,d,tk,os⟩:=s
  obtain⟨hl,h⟩:=h
  have hsub:=sub_enumerate
  have hT:rV (oT ⟨hp,g,d,tk,os⟩) l items:=⟨_,hl,rfl,n,rfl⟩
  wp_walk using lB hl
  refine wpAny_stack_any λst=>kO ?_
  split
  .rename_i c _ _ _ _ _
   cases (c==qV "enumerate")<;>(wp_walk using lB hl,nM hT)<;>(refine⟨_,rfl,?_⟩;rw[lG];exact h)
  .wp_walk using lB hl,nM hT
   refine⟨_,rfl,?_⟩
   rw[lG]
   exact h
theorem QS{l:kQ}{items:lE kL}{Q:kL->kM->Prop}(hT:s.heap.IsTuple l items)(h:∀h',IsEnum h' (s.heap.objs.size+1) s.heap.objs.size 0 .none->h'.IsTupleIter s.heap.objs.size l 0->(∀b o,s.heap.get? b=Gc o->h'.get? b=Gc o)->Q (.ref (s.heap.objs.size+1)) {s with heap:=h'}):wpAny (model prog w) A (call (.type "enumerate") [.ref l]) Q E s:=by
 obtain⟨⟨c,dct,dt,sl⟩,hl,hc,n,hd⟩:=hT
 simp only at hc hd
 subst hc hd
 refine y8 F.called_enumerate (by decide) (F.typeCall_enumerate_1 _) (F.newCall_enumerate_1 _) (λobj=>F.args_object_init_2 obj _) F.entry_enumerate_new (R8 l items n dct sl) ⟨hl,?_⟩
 have z:=kZ (s.heap.push {cls:=.type "tuple_iterator",data:=.fields #[.ref l,.int 0 0]}) (o:={cls:=.type "enumerate",data:=.fields #[.none,.bool false,.ref s.heap.objs.size,rawInt 0,.none,.none]}) rfl
 rw[lG]at z
 exact⟨⟨_,z,rfl⟩,h _ z ⟨_,kK _ (kZ _ rfl),rfl,rfl⟩ λb o x=>kK _ (kK _ x)⟩
end
section
variable{X:Cx}
end
end L2
end
noncomputable section
namespace L2
open PySem PySem.Spec PyProof.Rows
structure TopD(K:kJ)(w:lO)(a:kQ)(kvs:Wp (Str×V)):Prop where
 ex:∃(es:lE DictEntry) (n:Nat),K.lookup a=Gc ⟨.type "dict",none,.dict es n, #[]⟩/\PySem.W.KeysLit w.params es.toList/\(a==sysModules)=false/\∀x,Ww (kvs.lookup x) (findBy ur es x)
section
variable{X:Cx}
end
end L2
end
noncomputable section
namespace L2
open PySem PySem.Spec PyProof.Rows
def SIt(h:lP)(j l:kQ)(i:Nat)(its:lE kL):Prop:=(h.IsListIter j l i/\h.IsList l its)\/(h.IsTupleIter j l i/\h.IsTuple l its)
section
variable{prog:k8}{w:lO}{A:lV}{E:kL->kM->Prop}{s:kM}{h h':lP}{j l:kQ}{i:Nat}{its:lE kL}
theorem SIt.at(q:SIt h j l i its)(k1:∀o,h.get? j=Gc o->h'.get? j=Gc o)(k2:∀o,h.get? l=Gc o->h'.get? l=Gc o):SIt h' j l i its:=by
 rcases q with⟨a,b⟩|⟨a,b⟩
 .exact .inl ⟨a.at k1,b.at k2⟩
 .exact .inr ⟨a.at k1,let⟨o,e,r⟩:=b;⟨o,k2 o e,r⟩⟩
theorem SIt.but{c:kQ}(q:SIt h j l i its)(sb:qb c h h')(n1:j≠c)(n2:l≠c):SIt h' j l i its:=q.at (λo e=>sb _ o n1 e) λo e=>sb _ o n2 e
theorem SIt.live(q:SIt h j l i its):∃o,h.get? j=Gc o/\∀v,o.data≠.cell v:=by
 rcases q with⟨⟨o,a,b,c⟩,_⟩|⟨⟨o,a,b,c⟩,_⟩
 .exact⟨o,a,λv z=>by rw[c]at z;cases z⟩
 .exact⟨o,a,λv z=>by rw[c]at z;cases z⟩
theorem SIt.ne(q:SIt h j l i its):l≠j:=by
 rcases q with⟨⟨o,a,b,_⟩,⟨o2,a2,b2,_⟩⟩|⟨⟨o,a,b,_⟩,⟨o2,a2,b2,_⟩⟩
 .intro z;subst z;rw[a]at a2;cases a2;rw[b]at b2;injection b2 with q;exact absurd q (by decide)
 .intro z;subst z;rw[a]at a2;cases a2;rw[b]at b2;injection b2 with q;exact absurd q (by decide)
theorem Jn{x:kL}{Q:kL->kM->Prop}(q:SIt s.heap j l i its)(hx:its[i]?=Gc x)(k:∀h',SIt h' j l (i+1) its->nY j s.heap h'->Q x {s with heap:=h'}):wpAny (model prog w) A (lY (.ref j)) Q E s:=by
 have n:=q.ne
 rcases q with⟨a,b⟩|⟨a,b⟩
 .exact wpAny_nextOf_list_item a b hx λh' a' sb=>k h' (.inl ⟨a',b.extBut sb.extBut n⟩) sb
 .exact WK a b hx λh' a' sb=>k h' (.inr ⟨a',let⟨o,e,r⟩:=b;⟨o,sb.extBut _ o n e,r⟩⟩) sb
theorem Jl{Q:kL->kM->Prop}(hh:A.handled=none)(q:SIt s.heap j l i its)(hx:its[i]?=none)(k:∀h' e,qb j s.heap h'->(∃o,h'.get? e=Gc o/\o.cls=.type "StopIteration")->E (.ref e) {s with heap:=h'}):wpAny (model prog w) A (lY (.ref j)) Q E s:=by
 rcases q with⟨a,b⟩|⟨a,b⟩
 .exact wpAny_nextOf_list_end hh a b hx k
 .exact Ua hh a b hx k
theorem Rq{z ti tt j1 j2 l1 l2:kQ}{m:Nat}{xs ys:lE kL}{x y u1 u2:kL}{Q:kL->kM->Prop}(D:vZ z ti tt j1 j2 l1 l2)(oz:rz s.heap z ti tt .none)(oi:og s.heap ti (.ref j1) (.ref j2))(ot:og s.heap tt u1 u2)(q1:SIt s.heap j1 l1 m xs)(q2:SIt s.heap j2 l2 m ys)(ex:xs[m]?=Gc x)(ey:ys[m]?=Gc y)(k:∀h',rz h' z ti tt (rawInt s.heap.objs.size)->og h' tt x y->SIt h' j1 l1 (m+1) xs->SIt h' j2 l2 (m+1) ys->og h' s.heap.objs.size x y->(∀c o,c≠z->c≠tt->c≠j1->c≠j2->s.heap.get? c=Gc o->h'.get? c=Gc o)->Q (.ref s.heap.objs.size) {s with heap:=h'}):wpAny (model prog w) A (nJ.«zip.__next__» ⟨[.ref z],[]⟩) (λfin s'=>∃v,fin=.done (.ret v)/\Q v s') E s:=by
 show wpAny _ _ (field (.ref z) 2 >>= _) _ _ _
 refine kH (nq oz rfl (x:=.bool false) rfl ?_)
 show wpAny _ _ (field (.ref z) 3 >>= _) _ _ _
 refine kH (nq oz rfl (x:=.ref ti) rfl (kH (nU oi rfl ?_)))
 show wpAny _ _ (mw (.ref z) >>= _) _ _ _
 refine kH ?_
 unfold mw
 refine kH (nq oz rfl (x:=.none) rfl (kO ?_))
 simp only[q9]
 refine kH (oZ (kH (nq oz rfl (x:=.ref tt) rfl (kH (oG oz (by simp) λg1 oz1 b1=>?_)))))
 have oz1:rz g1 z ti tt .ellipsis:=oz1
 refine kH ?_
 simp only[wJ,wg,t8,uR]
 refine kH (kH (sf ?_))
 show wpAny _ _ (lY (.ref j1) >>= _) _ _ _
 refine kH (Jn (q1.but b1.extBut D.i1z D.l1z) ex λg2 q12 b2=>kO ?_)
 have ot2:og g2 tt u1 u2:=b2.extBut _ _ D.TOi1 (b1.extBut _ _ D.TOz ot)
 refine kH (nU ot2 rfl (kH (rF ot2 λg3 ot3 b3=>?_)))
 have ot3:og g3 tt x u2:=ot3
 refine kH (uS (kO (kH (kH (sf ?_)))))
 show wpAny _ _ (lY (.ref j2) >>= _) _ _ _
 refine kH (Jn (((q2.but b1.extBut D.i2z D.l2z).but b2.extBut D.i12.symm D.l2i1).but b3.extBut D.TOi2.symm D.l2TO) ey λg4 q24 b4=>kO ?_)
 have ot4:og g4 tt x u2:=b4.extBut _ _ D.TOi2 ot3
 refine kH (nU ot4 rfl (kH (rF ot4 λg5 ot5 b5=>?_)))
 have ot5:og g5 tt x y:=ot5
 refine kH (uS (kO (kO (kH (nU ot5 rfl (kH (uT ?_)))))))
 have sz:g5.objs.size=s.heap.objs.size:=by rw[b5.1,b4.1,b3.1,b2.1,b1.1]
 have oz5:rz g5 z ti tt .ellipsis:=b5.extBut _ _ D.TOz.symm (b4.extBut _ _ D.i2z.symm (b3.extBut _ _ D.TOz.symm (b2.extBut _ _ D.i1z.symm oz1)))
 have k5:∀c o,c≠z->c≠tt->c≠j1->c≠j2->s.heap.get? c=Gc o->g5.get? c=Gc o:=λc o c1 c2 c3 c4 e=>b5.extBut _ _ c2 (b4.extBut _ _ c4 (b3.extBut _ _ c2 (b2.extBut _ _ c3 (b1.extBut _ _ c1 e))))
 have q15:SIt g5 j1 l1 (m+1) xs:=((q12.but b3.extBut D.TOi1.symm D.l1TO).but b4.extBut D.i12 D.l1i2).but b5.extBut D.TOi1.symm D.l1TO
 have q25:SIt g5 j2 l2 (m+1) ys:=q24.but b5.extBut D.TOi2.symm D.l2TO
 have zlt:z<g5.objs.size:=kf oz5
 show wpAny _ _ (qN (.ref z) (.ref g5.objs.size) >>= _) _ _ _
 refine kH ?_
 unfold qN
 have oz6:rz (g5.push {cls:=.type "tuple",data:=.seq #[x,y]}) z ti tt .ellipsis:=kK _ oz5
 refine kH (oG oz6 (by simp) λg7 oz7 b7=>?_)
 have oz7:rz g7 z ti tt (rawInt g5.objs.size):=oz7
 refine oG oz7 (by simp) λg8 oz8 b8=>?_
 have oz8:rz g8 z ti tt (rawInt g5.objs.size):=oz8
 have up:∀c o,c≠z->g5.get? c=Gc o->g8.get? c=Gc o:=λc o c1 e=>b8.extBut _ _ c1 (b7.extBut _ _ c1 (kK _ e))
 have op8:og g8 g5.objs.size x y:=b8.extBut _ _ (qC zlt) (b7.extBut _ _ (qC zlt) (kZ _ rfl))
 rw[sz]at oz8 op8
 refine kO ⟨_,rfl,?_⟩
 show Q (.ref g5.objs.size) _
 rw[sz]
 exact k g8 oz8 (up _ _ D.TOz ot5) (q15.at (λo e=>up _ o D.i1z e) λo e=>up _ o D.l1z e) (q25.at (λo e=>up _ o D.i2z e) λo e=>up _ o D.l2z e) op8 λc o c1 c2 c3 c4 e=>up c o c1 (k5 c o c1 c2 c3 c4 e)
theorem Vv{z ti tt j1 j2 l1 l2:kQ}{m:Nat}{xs ys:lE kL}{u1 u2:kL}{Q:Fin->kM->Prop}(hh:A.handled=none)(D:vZ z ti tt j1 j2 l1 l2)(oz:rz s.heap z ti tt .none)(oi:og s.heap ti (.ref j1) (.ref j2))(ot:og s.heap tt u1 u2)(q1:SIt s.heap j1 l1 m xs)(q2:SIt s.heap j2 l2 m ys)(en:xs[m]?=none\/ys[m]?=none)(k:∀h' e,(∀c o,c≠z->c≠tt->c≠j1->c≠j2->s.heap.get? c=Gc o->h'.get? c=Gc o)->(∃o,h'.get? e=Gc o/\o.cls=.type "StopIteration")->E (.ref e) {s with heap:=h'}):wpAny (model prog w) A (nJ.«zip.__next__» ⟨[.ref z],[]⟩) Q E s:=by
 show wpAny _ _ (field (.ref z) 2 >>= _) _ _ _
 refine kH (nq oz rfl (x:=.bool false) rfl ?_)
 show wpAny _ _ (field (.ref z) 3 >>= _) _ _ _
 refine kH (nq oz rfl (x:=.ref ti) rfl (kH (nU oi rfl ?_)))
 show wpAny _ _ (mw (.ref z) >>= _) _ _ _
 refine kH ?_
 unfold mw
 refine kH (nq oz rfl (x:=.none) rfl (kO ?_))
 simp only[q9]
 refine kH (oZ (kH (nq oz rfl (x:=.ref tt) rfl (kH (oG oz (by simp) λg1 oz1 b1=>?_)))))
 have oz1:rz g1 z ti tt .ellipsis:=oz1
 refine kH ?_
 simp only[wJ,wg,t8,uR]
 refine kH (kH (sf ?_))
 show wpAny _ _ (lY (.ref j1) >>= _) _ _ _
 cases ex:xs[m]? with
 |none=>
  refine kH (Jl hh (q1.but b1.extBut D.i1z D.l1z) ex λg2 e b2 he=>?_)
  obtain⟨oe,e1,e2⟩:=he
  have oz2:rz g2 z ti tt .ellipsis:=b2 _ _ D.i1z.symm oz1
  have nez:e≠z:=λx=>by subst x;rw[oz2]at e1;cases e1;simp at e2
  exact oG oz2 (by simp) λg3 _ b3=>k g3 e (λc o c1 _ c3 _ x=>b3.extBut _ _ c1 (b2 _ _ c3 (b1.extBut _ _ c1 x))) ⟨oe,b3.extBut _ _ nez e1,e2⟩
 |some x=>
  have ey:ys[m]?=none:=by
   rcases en with z|z
   .rw[ex]at z;cases z
   .exact z
  refine kH (Jn (q1.but b1.extBut D.i1z D.l1z) ex λg2 q12 b2=>kO ?_)
  have ot2:og g2 tt u1 u2:=b2.extBut _ _ D.TOi1 (b1.extBut _ _ D.TOz ot)
  refine kH (nU ot2 rfl (kH (rF ot2 λg3 ot3 b3=>?_)))
  refine kH (uS (kO (kH (kH (sf ?_)))))
  show wpAny _ _ (lY (.ref j2) >>= _) _ _ _
  refine kH (Jl hh (((q2.but b1.extBut D.i2z D.l2z).but b2.extBut D.i12.symm D.l2i1).but b3.extBut D.TOi2.symm D.l2TO) ey λg4 e b4 he=>?_)
  obtain⟨oe,e1,e2⟩:=he
  have oz4:rz g4 z ti tt .ellipsis:=b4 _ _ D.i2z.symm (b3.extBut _ _ D.TOz.symm (b2.extBut _ _ D.i1z.symm oz1))
  have nez:e≠z:=λx=>by subst x;rw[oz4]at e1;cases e1;simp at e2
  exact oG oz4 (by simp) λg5 _ b5=>k g5 e (λc o c1 c2 c3 c4 x=>b5.extBut _ _ c1 (b4 _ _ c4 (b3.extBut _ _ c2 (b2.extBut _ _ c3 (b1.extBut _ _ c1 x))))) ⟨oe,b5.extBut _ _ nez e1,e2⟩
theorem Qd{z ti tt j1 j2 l1 l2:kQ}{m:Nat}{xs ys:lE kL}{x y u1 u2:kL}{Q:kN kL->kM->Prop}(D:vZ z ti tt j1 j2 l1 l2)(oz:rz s.heap z ti tt .none)(oi:og s.heap ti (.ref j1) (.ref j2))(ot:og s.heap tt u1 u2)(q1:SIt s.heap j1 l1 m xs)(q2:SIt s.heap j2 l2 m ys)(ex:xs[m]?=Gc x)(ey:ys[m]?=Gc y)(k:∀h',rz h' z ti tt (rawInt s.heap.objs.size)->og h' tt x y->SIt h' j1 l1 (m+1) xs->SIt h' j2 l2 (m+1) ys->og h' s.heap.objs.size x y->(∀c o,c≠z->c≠tt->c≠j1->c≠j2->s.heap.get? c=Gc o->h'.get? c=Gc o)->Q (Gc (.ref s.heap.objs.size)) {s with heap:=h'}):wpAny (model prog w) A (pyNext (.ref z)) Q E s:=by
 have ht:s.TypeIs (.ref z) "zip":=⟨_,oz,rfl⟩
 unfold pyNext
 exact kH (qR (lx (name:=mL "__next__") ht rM (lg rM ht wK
  (Rq D oz oi ot q1 q2 ex ey λh' a1 a2 a3 a4 a5 a6=>kO (k h' a1 a2 a3 a4 a5 a6)) (va _))))
theorem Q7{z ti tt j1 j2 l1 l2:kQ}{m:Nat}{xs ys:lE kL}{u1 u2:kL}{Q:kN kL->kM->Prop}(hh:A.handled=none)(D:vZ z ti tt j1 j2 l1 l2)(oz:rz s.heap z ti tt .none)(oi:og s.heap ti (.ref j1) (.ref j2))(ot:og s.heap tt u1 u2)(q1:SIt s.heap j1 l1 m xs)(q2:SIt s.heap j2 l2 m ys)(en:xs[m]?=none\/ys[m]?=none)(k:∀h',(∀c o,c≠z->c≠tt->c≠j1->c≠j2->s.heap.get? c=Gc o->h'.get? c=Gc o)->Q none {s with heap:=h'}):wpAny (model prog w) A (pyNext (.ref z)) Q E s:=by
 have ht:s.TypeIs (.ref z) "zip":=⟨_,oz,rfl⟩
 unfold pyNext
 refine kH (qR (lx (name:=mL "__next__") ht rM (lg rM ht wK
  (Vv hh D oz oi ot q1 q2 en λh' e kp he=>?_) (va _))))
 obtain⟨o,e1,e2⟩:=he
 exact kH (qG (T:="StopIteration") (b:=true) ⟨o,e1,e2⟩ uU (kO (k _ kp)))
end
end L2
end
noncomputable section
namespace L2
open PySem PySem.Spec PyProof.Rows
def LB(h:lP)(b:lM)(l:kQ)(its:lE kL):Prop:=match b with|true=>h.IsTuple l its|false=>h.IsList l its
noncomputable def bG:lM->oY|true=>"tuple_iterator" |false=>"list_iterator"
noncomputable def zh1(h:lP)(b:lM)(l:kQ):lP:=h.push {cls:=.type (bG b),data:=.fields #[.ref l,.int 0 0]}
noncomputable def zh2(h:lP)(b c:lM)(l m:kQ):lP:=zh1 (zh1 h b l) c m
noncomputable def zh3(h:lP)(b c:lM)(l m:kQ):lP:=(zh2 h b c l m).push {cls:=.type "tuple",data:=.seq #[.ref h.objs.size,.ref (zh1 h b l).objs.size]}
noncomputable def zh4(h:lP)(b c:lM)(l m:kQ):lP:=(zh3 h b c l m).push {cls:=.type "tuple",data:=.seq #[.none,.none]}
noncomputable def zh5(h:lP)(b c:lM)(l m:kQ):lP:=(zh4 h b c l m).push {cls:=.type "zip",data:=.fields #[.none,.bool false,.bool false,.ref (zh2 h b c l m).objs.size,.ref (zh3 h b c l m).objs.size]}
theorem LB.push{h:lP}{b:lM}{l:kQ}{its:lE kL}(q:LB h b l its)(o:Obj):LB (h.push o) b l its:=by
 cases b
 .exact Heap.IsList.push q _
 .obtain⟨u,e,r⟩:=(show h.IsTuple l its from q)
  exact⟨u,kK _ e,r⟩
theorem VZ(b c:lM)(l m:kQ)(xs ys:lE kL):Meets (nJ.«zip.__new__» ⟨[.type "zip",.ref l,.ref m],[]⟩) (λ_ R s=>LB s.heap b l xs/\LB s.heap c m ys/\R (.ok (.ret (.ref (zh4 s.heap b c l m).objs.size))) {s with heap:=zh5 s.heap b c l m}):=
 .of_wp λprog w A R s hyp=>by
  obtain⟨hp,gs,dr,tk,os⟩:=s
  obtain⟨i1,i2,hyp⟩:=hyp
  have hsub:=sub_zip
  have i3:LB (oT ⟨zh1 hp b l,gs,dr,tk,os⟩) c m ys:=LB.push i2 _
  cases b<;>cases c
  .have a1:uV (oT ⟨hp,gs,dr,tk,os⟩) l xs:=i1
   have a2:uV (oT ⟨hp.push {cls:=.type "list_iterator",data:=.fields #[.ref l,.int 0 0]},gs,dr,tk,os⟩) m ys:=i3
   wp_walk using mY a1,mY a2
   exact⟨_,rfl,hyp⟩
  .have a1:uV (oT ⟨hp,gs,dr,tk,os⟩) l xs:=i1
   have a2:rV (oT ⟨hp.push {cls:=.type "list_iterator",data:=.fields #[.ref l,.int 0 0]},gs,dr,tk,os⟩) m ys:=i3
   wp_walk using mY a1,nM a2
   exact⟨_,rfl,hyp⟩
  .have a1:rV (oT ⟨hp,gs,dr,tk,os⟩) l xs:=i1
   have a2:uV (oT ⟨hp.push {cls:=.type "tuple_iterator",data:=.fields #[.ref l,.int 0 0]},gs,dr,tk,os⟩) m ys:=i3
   wp_walk using nM a1,mY a2
   exact⟨_,rfl,hyp⟩
  .have a1:rV (oT ⟨hp,gs,dr,tk,os⟩) l xs:=i1
   have a2:rV (oT ⟨hp.push {cls:=.type "tuple_iterator",data:=.fields #[.ref l,.int 0 0]},gs,dr,tk,os⟩) m ys:=i3
   wp_walk using nM a1,nM a2
   exact⟨_,rfl,hyp⟩
section
variable{prog:k8}{w:lO}{A:lV}{E:kL->kM->Prop}{s:kM}
theorem Wu{h h':lP}{b:lM}{l j:kQ}{its:lE kL}(q:LB h b l its)(k:∀c o,h.get? c=Gc o->h'.get? c=Gc o)(e:h'.get? j=Gc {cls:=.type (bG b),data:=.fields #[.ref l,.int 0 0]}):SIt h' j l 0 its:=by
 cases b
 .exact .inl ⟨⟨_,e,rfl,rfl⟩,(show h.IsList l its from q).at λo z=>k _ o z⟩
 .exact .inr ⟨⟨_,e,rfl,rfl⟩,let⟨o,z,r⟩:=(show h.IsTuple l its from q);⟨o,k _ o z,r⟩⟩
theorem SO{b c:lM}{l m:kQ}{xs ys:lE kL}{Q:kL->kM->Prop}(i1:LB s.heap b l xs)(i2:LB s.heap c m ys)(k:∀h',rz h' (s.heap.objs.size+4) (s.heap.objs.size+2) (s.heap.objs.size+3) .none->og h' (s.heap.objs.size+2) (.ref s.heap.objs.size) (.ref (s.heap.objs.size+1))->og h' (s.heap.objs.size+3) .none .none->SIt h' s.heap.objs.size l 0 xs->SIt h' (s.heap.objs.size+1) m 0 ys->(∀c o,s.heap.get? c=Gc o->h'.get? c=Gc o)->Q (.ref (s.heap.objs.size+4)) {s with heap:=h'}):wpAny (model prog w) A (call (.type "zip") [.ref l,.ref m]) Q E s:=by
 refine y8 F.called_zip (by decide) (F.typeCall_zip_2 _ _) (F.newCall_zip_2 _ _) (λobj=>F.args_object_init_3 obj _ _) F.entry_zip_new (VZ b c l m xs ys) ⟨i1,i2,?_⟩
 have z1:(zh1 s.heap b l).objs.size=s.heap.objs.size+1:=lG ..
 have z2:(zh2 s.heap b c l m).objs.size=s.heap.objs.size+2:=by unfold zh2 zh1;rw[lG];exact congrArg (· +1) z1
 have z3:(zh3 s.heap b c l m).objs.size=s.heap.objs.size+3:=by unfold zh3;rw[lG,z2]
 have z4:(zh4 s.heap b c l m).objs.size=s.heap.objs.size+4:=by unfold zh4;rw[lG,z3]
 have kp:∀d o,s.heap.get? d=Gc o->(zh5 s.heap b c l m).get? d=Gc o:=λd o e=>by
  unfold zh5 zh4 zh3 zh2 zh1
  exact kK _ (kK _ (kK _ (kK _ (kK _ e))))
 have g5:(zh5 s.heap b c l m).get? (zh4 s.heap b c l m).objs.size=Gc _:=kZ _ rfl
 have g4:(zh5 s.heap b c l m).get? (zh3 s.heap b c l m).objs.size=Gc _:=kK _ (kZ _ rfl)
 have g3:(zh5 s.heap b c l m).get? (zh2 s.heap b c l m).objs.size=Gc _:=kK _ (kK _ (kZ _ rfl))
 have g2:(zh5 s.heap b c l m).get? (zh1 s.heap b l).objs.size=Gc _:=kK _ (kK _ (kK _ (kZ _ rfl)))
 have g1:(zh5 s.heap b c l m).get? s.heap.objs.size=Gc _:=kK _ (kK _ (kK _ (kK _ (kZ _ rfl))))
 show _/\_
 rw[z2,z3,z4]at g5
 rw[z1,z2]at g3
 rw[z3]at g4
 rw[z1]at g2
 rw[z4]
 exact⟨⟨_,g5,rfl⟩,k _ g5 g3 g4 (Wu i1 kp g1) (Wu i2 kp g2) kp⟩
end
end L2
end
noncomputable section
namespace L2
open PySem PySem.Spec PyProof.Rows
def SqB(K:kJ)(H:Hp)(k:lM)(a:kQ)(xs:Wp V):Prop:=match k with|true=>SqT K H a xs|false=>SqL K H a xs
def JIt(h:lP)(k:lM)(j l:kQ)(i:Nat):Prop:=match k with|true=>h.IsTupleIter j l i|false=>h.IsListIter j l i
theorem JIt.at{h h':lP}{k:lM}{j l:kQ}{i:Nat}(q:JIt h k j l i)(e:∀o,h.get? j=Gc o->h'.get? j=Gc o):JIt h' k j l i:=by
 cases k
 .exact Heap.IsListIter.at q e
 .exact Heap.IsTupleIter.at q e
theorem JIt.sit{h:lP}{k:lM}{j l:kQ}{i:Nat}{its:lE kL}(q:JIt h k j l i)(p:LB h k l its):SIt h j l i its:=by
 cases k
 .exact .inl ⟨q,p⟩
 .exact .inr ⟨q,p⟩
theorem SIt.jit{h:lP}{k:lM}{j l:kQ}{i:Nat}{its:lE kL}(q:SIt h j l i its)(p:LB h k l its):JIt h k j l i:=by
 rcases q with⟨q,r⟩|⟨q,r⟩
 .cases k
  .exact q
  .obtain⟨o,e,c,_⟩:=r;obtain⟨o',e',c',_⟩:=(show h.IsTuple l its from p)
   rw[e]at e';cases e';rw[c]at c';injection c' with z;exact absurd z (by decide)
 .cases k
  .obtain⟨o,e,c,_⟩:=r;obtain⟨o',e',c',_⟩:=(show h.IsList l its from p)
   rw[e]at e';cases e';rw[c]at c';injection c' with z;exact absurd z (by decide)
  .exact q
theorem Inv.sqB{X:Cx}{pins:Wp (kQ×Obj)}{σ:St}{H:Hp}{s:kM}{k:lM}{a:kQ}{xs:Wp V}(I:Inv X pins σ H s)(h:SqB X.K H k a xs):∃its:Wp kL,Vals xs its/\LB s.heap k a its.toArray:=by
 cases k
 .obtain⟨its,h1,⟨o,n,q1,q2,_,q3⟩,h3⟩:=I.list h
  exact⟨its,h1,o,q1,q2,n,q3⟩
 .obtain⟨its,h1,h2,h3⟩:=I.tuple h
  exact⟨its,h1,h2⟩
theorem Inv.Of{X:Cx}{pins:Wp (kQ×Obj)}{σ:St}{H:Hp}{s:kM}{k:lM}{a:kQ}{xs ys:Wp V}(I:Inv X pins σ H s)(h:SqB X.K H k a xs)(g:SqB X.K H k a ys):xs=ys:=by
 cases k
 .exact I.P5 h g
 .exact I.OI h g
noncomputable def Itz(K:kJ)(k:lM)(a:kQ)(m:lM)(b:kQ):It:=
 ⟨λi H=>∃(xs ys:Wp V) (x y:V),SqB K H k a xs/\SqB K H m b ys/\xs[i]?=Gc x/\ys[i]?=Gc y,
  λi H v H'=>∃(p:kQ) (x y:V),H p=none/\v=.ref p/\(∀xs,SqB K H k a xs->xs[i]?=Gc x)/\(∀ys,SqB K H m b ys->ys[i]?=Gc y)/\H'=upd H p (.tup [x,y]),
  λi H=>∃(xs ys:Wp V),SqB K H k a xs/\SqB K H m b ys/\(xs.length<=i\/ys.length<=i)⟩
structure ZSt(h:lP)(z ti tt j1 j2:kQ)(k:lM)(a:kQ)(m:lM)(b:kQ)(i:Nat):Prop where
 oz:rz h z ti tt .none
 oi:og h ti (.ref j1) (.ref j2)
 ot:∃u v,og h tt u v
 q1:JIt h k j1 a i
 q2:JIt h m j2 b i
structure ZNe(z ti tt j1 j2:kQ):Prop where
 n1:ti≠z
 n2:tt≠z
 n3:j1≠z
 n4:j2≠z
 n5:ti≠tt
 n6:ti≠j1
 n7:ti≠j2
 n8:tt≠j1
 n9:tt≠j2
 n10:j1≠j2
theorem ZNe.apart{z ti tt j1 j2 a b:kQ}(N:ZNe z ti tt j1 j2)(ha:a∉ [z,tt,j1,j2])(hb:b∉ [z,tt,j1,j2]):vZ z ti tt j1 j2 a b:=by
 simp only[kX,k7,mZ,tV]at ha hb
 exact⟨N.n1,N.n2,N.n3,N.n4,N.n5,N.n6,N.n7,N.n8,N.n9,N.n10,ha.1,ha.2.1,ha.2.2.1,ha.2.2.2,hb.1,hb.2.1,hb.2.2.1,hb.2.2.2⟩
theorem BW{X:Cx}{pins:Wp (kQ×Obj)}{σ:St}{H:Hp}{s:kM}{k:lM}{a c:kQ}{xs:Wp V}(I:Inv X pins σ H s)(q:SqB X.K H k a xs)(f:LW X pins H c):a≠c:=by
 intro e
 subst e
 have rd:∀o,Rd H a o->pQ:=λo r=>by
  rcases r with r|⟨_,r⟩<;>(rw[f.1]at r;cases r)
 have kk:∀o,X.K.lookup a=Gc o->pQ:=λo hk=>by
  have b:=I.ok.mod.kin a o hk
  rcases f.2.2.2.1 with z|z
  .exact I.ok.YO a o b z
  .exact absurd (kT (kf (I.ok.bs a o b).1) z) (nC _)
 cases k
 .rcases(show SqL X.K H a xs from q)with q|⟨o,_,_,hk,_⟩
  .exact rd _ q
  .exact kk o hk
 .rcases(show SqT X.K H a xs from q)with q|⟨o,_,_,hk,_⟩
  .exact rd _ q
  .exact kk o hk
theorem VE{P:k8}{w:lO}{K:kJ}{elts:Wp lH}{n:Nat}{pos:Pos}(k:lM)(a:kQ)(m:lM)(b:kQ)(z ti tt j1 j2:kQ)(N:ZNe z ti tt j1 j2):Turn P w K (.Tuple elts n pos) (Itz K k a m b) [z,ti,tt,j1,j2] z (λi h=>ZSt h z ti tt j1 j2 k a m b i) where
 mem:=by simp
 obj:=λi h st c hc=>by
  have jl:∀{q:lM} {j l:kQ},JIt h q j l i->∃o,h.get? j=Gc o/\∀v,o.data≠.cell v:=λ{q j l} x=>by
   cases q
   .obtain⟨o,e,_,d⟩:=(show h.IsListIter j l i from x)
    exact⟨o,e,λv z=>by rw[d]at z;cases z⟩
   .obtain⟨o,e,_,d⟩:=(show h.IsTupleIter j l i from x)
    exact⟨o,e,λv z=>by rw[d]at z;cases z⟩
  simp only[kX,k7,mZ]at hc
  rcases hc with rfl|rfl|rfl|rfl|rfl
  .exact⟨_,st.oz,λv z=>nomatch z⟩
  .exact⟨_,st.oi,λv z=>nomatch z⟩
  .obtain⟨u,v,e⟩:=st.ot
   exact⟨_,e,λv z=>nomatch z⟩
  .exact jl st.q1
  .exact jl st.q2
 keep:=λi h h' st kp=>⟨kp z (by simp) _ st.oz,kp ti (by simp) _ st.oi,let⟨u,v,e⟩:=st.ot;⟨u,v,kp tt (by simp) _ e⟩,st.q1.at λo e=>kp j1 (by simp) o e,st.q2.at λo e=>kp j2 (by simp) o e⟩
 item:=by
  intro X hP hw hK hc i pins s σ H E I hf st hg
  subst hP hw hK
  obtain⟨xs,ys,x,y,s1,s2,e1,e2⟩:=hg
  obtain⟨i1,r1,p1⟩:=I.sqB s1
  obtain⟨i2,r2,p2⟩:=I.sqB s2
  obtain⟨u1,h1,ru1⟩:=r1.get e1
  obtain⟨u2,h2,ru2⟩:=r2.get e2
  have fz:=hf z (by simp);have fi:=hf ti (by simp);have ft:=hf tt (by simp);have f1:=hf j1 (by simp);have f2:=hf j2 (by simp)
  have ap:=N.apart (a:=a) (b:=b) (by simp[BW I s1 fz,BW I s1 ft,BW I s1 f1,BW I s1 f2]) (by simp[BW I s2 fz,BW I s2 ft,BW I s2 f1,BW I s2 f2])
  obtain⟨v1,v2,ot⟩:=st.ot
  refine Qd ap st.oz st.oi ot (st.q1.sit p1) (st.q2.sit p2) (x:=u1) (y:=u2) (by simpa using h1) (by simpa using h2) λh' oz ot' q1 q2 op kp=>⟨_,rfl,wpAny_letOwnedTupleGo_zip oz λg oz' sb=>?_⟩
  have lt:∀c o,s.heap.get? c=Gc o->c≠s.heap.objs.size:=λc o q=>ki (kf q)
  have nz:z≠s.heap.objs.size:=lt _ _ st.oz
  have nt:tt≠s.heap.objs.size:=lt _ _ ot
  have n1:j1≠s.heap.objs.size:=by obtain⟨o,e,_⟩:=(st.q1.sit p1).live;exact lt _ _ e
  have n2:j2≠s.heap.objs.size:=by obtain⟨o,e,_⟩:=(st.q2.sit p2).live;exact lt _ _ e
  have kp2:∀c o,c≠z->c≠tt->c≠j1->c≠j2->s.heap.get? c=Gc o->g.get? c=Gc o:=λc o c1 c2 c3 c4 q=>(sb.2 c c1).trans (kp c o c1 c2 c3 c4 q)
  have fr:H s.heap.objs.size=none:=I.hok.fresh (kR _)
  have op2:g.get? s.heap.objs.size=Gc {cls:=.type "tuple",data:=.seq #[u1,u2]}:=(sb.2 _ (mR nz)).trans op
  have ne:∀c u,c∈ [z,ti,tt,j1,j2]->∀d,H d=Gc u->d≠c:=λc u hc d q e=>by rw[e,(hf c hc).1]at q;cases q
  have kpH:∀c u,H c=Gc u->∀o,s.heap.get? c=Gc o->g.get? c=Gc o:=λc u q o e=>kp2 c o (ne z u (by simp) c q) (ne tt u (by simp) c q) (ne j1 u (by simp) c q) (ne j2 u (by simp) c q) e
  have ka:∀o,s.heap.get? a=Gc o->g.get? a=Gc o:=λo e=>kp2 a o (BW I s1 fz) (BW I s1 ft) (BW I s1 f1) (BW I s1 f2) e
  have kb:∀o,s.heap.get? b=Gc o->g.get? b=Gc o:=λo e=>kp2 b o (BW I s2 fz) (BW I s2 ft) (BW I s2 f1) (BW I s2 f2) e
  have sq:∀{q:lM} {d:kQ} {is:lE kL},LB s.heap q d is->(∀o,s.heap.get? d=Gc o->h'.get? d=Gc o)->LB h' q d is:=λ{q d is} x kd=>by
   cases q
   .exact(show s.heap.IsList d is from x).at kd
   .obtain⟨o,e,r⟩:=(show s.heap.IsTuple d is from x)
    exact⟨o,kd o e,r⟩
  have ka1:∀o,s.heap.get? a=Gc o->h'.get? a=Gc o:=λo e=>kp a o (BW I s1 fz) (BW I s1 ft) (BW I s1 f1) (BW I s1 f2) e
  have kb1:∀o,s.heap.get? b=Gc o->h'.get? b=Gc o:=λo e=>kp b o (BW I s2 fz) (BW I s2 ft) (BW I s2 f1) (BW I s2 f2) e
  refine⟨.ref s.heap.objs.size,upd H s.heap.objs.size (.tup [x,y]),?_,rfl,⟨_,x,y,fr,rfl,λzs hz=>by rw[I.Of hz s1];exact e1,λzs hz=>by rw[I.Of hz s2];exact e2,rfl⟩,⟨oz',(sb.2 _ N.n1).trans (kp ti _ N.n1 N.n5 N.n6 N.n7 st.oi),⟨_,_,(sb.2 _ N.n2).trans ot'⟩,(q1.jit (sq p1 ka1)).at λo e=>(sb.2 _ N.n3).trans e,(q2.jit (sq p2 kb1)).at λo e=>(sb.2 _ N.n4).trans e⟩,?_⟩
  .show Inv X pins σ _ {s with heap:=g,gens:=s.gens,drawn:=s.drawn,toks:=s.toks}
   refine I.step (g':=s.gens) (d':=s.drawn) (ch:=[z,tt,j1,j2]) ?_ ?_ ?_ ?_ ?_ ?_ ?_ ?_ ?_ ?_ I.bare
   .intro c hc
    have q:LW X pins H c:=hf c (by simp only[kX,k7,mZ]at hc ⊢; rcases hc with z|z|z|z<;>simp[z])
    exact⟨q.2.2.2.1,q.2.1,q.2.2.2.2.1,q.2.2.2.2.2⟩
   .exact λc o _ _ hc q _=>by
     simp only[kX,k7,mZ,tV]at hc
     exact kp2 c o hc.1 hc.2.1 hc.2.2.1 hc.2.2.2 q
   .exact λc o _ _ hc q _=>by
     simp only[kX,k7,mZ,tV]at hc
     exact⟨o.slots,kp2 c o hc.1 hc.2.1 hc.2.2.1 hc.2.2.2 q⟩
   .exact λc o _ q n=>by rw[Ae (lt c o q)];exact n
   .exact λc o hc q=>by
     simp only[kX,k7,mZ,tV]at hc
     exact⟨o,kp2 c o hc.1 hc.2.1 hc.2.2.1 hc.2.2.2 q⟩
   .exact λc ys q=>by rw[Ae (BN q fr)];exact q
   .exact λc o u q=>by rw[Ae (BN q fr)];exact q
   .exact λc ps q=>⟨#[],by rw[Ae (BN q fr),q];simp⟩
   .rintro mm ⟨o,es,ep,ho,r⟩
    exact⟨o,es,ep,kp2 _ o (mR fz.2.1) (mR ft.2.1) (mR f1.2.1) (mR f2.2.1) ho,r⟩
   .intro c v q
    by_cases hb:c=s.heap.objs.size
    .subst hb
     rw[A1]at q
     cases q
     exact⟨by show 2<=sizeLine;decide,[u1,u2],.cons ru1 (.cons ru2 .nil),⟨_,op2,rfl,0,rfl⟩⟩
    .rw[Ae hb]at q
     refine(I.hok c v q).Wa (λd o hd r=>?_) (λd r=>by rw[Ae (BN r fr)];exact r) (λd ys r=>by rw[Ae (BN r fr)];exact r)
     rcases hd with e|e
     .rw[e]at r ⊢; exact kpH c v q o r
     .exact kpH d _ e o r
  .intro c hc
   have q:=hf c hc
   have:c≠s.heap.objs.size:=by
    simp only[kX,k7,mZ]at hc
    rcases hc with e|e|e|e|e
    .rw[e];exact nz
    .rw[e];exact lt _ _ st.oi
    .rw[e];exact nt
    .rw[e];exact n1
    .rw[e];exact n2
   rw[Ae this];exact q.1
 done:=by
  intro X hP hw hK hc i pins s σ H E I hf st hg
  subst hP hw hK
  obtain⟨xs,ys,s1,s2,e⟩:=hg
  obtain⟨i1,r1,p1⟩:=I.sqB s1
  obtain⟨i2,r2,p2⟩:=I.sqB s2
  have l1:=r1.length
  have l2:=r2.length
  have hh:X.A.in1.handled=none:=I.ok.hd hc
  have hh0:X.A.handled=none:=I.ok.hd hc
  have fz:=hf z (by simp);have fi:=hf ti (by simp);have ft:=hf tt (by simp);have f1:=hf j1 (by simp);have f2:=hf j2 (by simp)
  have ap:=N.apart (a:=a) (b:=b) (by simp[BW I s1 fz,BW I s1 ft,BW I s1 f1,BW I s1 f2]) (by simp[BW I s2 fz,BW I s2 ft,BW I s2 f1,BW I s2 f2])
  obtain⟨v1,v2,ot⟩:=st.ot
  refine Q7 hh0 ap st.oz st.oi ot (st.q1.sit p1) (st.q2.sit p2) (by rcases e with e|e;exact .inl (by simp;lia);exact .inr (by simp;lia)) λh' kp=>⟨rfl,?_⟩
  have ne:∀c u,c∈ [z,ti,tt,j1,j2]->∀d,H d=Gc u->d≠c:=λc u hc d q e=>by rw[e,(hf c hc).1]at q;cases q
  show Inv X pins σ _ {s with heap:=h',gens:=s.gens,drawn:=s.drawn,toks:=s.toks}
  refine I.step (g':=s.gens) (d':=s.drawn) (ch:=[z,tt,j1,j2]) ?_ ?_ ?_ ?_ ?_ ?_ ?_ ?_ ?_ ?_ I.bare
  .intro c hc
   have q:LW X pins H c:=hf c (by simp only[kX,k7,mZ]at hc ⊢; rcases hc with z|z|z|z<;>simp[z])
   exact⟨q.2.2.2.1,q.2.1,q.2.2.2.2.1,q.2.2.2.2.2⟩
  .exact λc o _ _ hc q _=>by
    simp only[kX,k7,mZ,tV]at hc
    exact kp c o hc.1 hc.2.1 hc.2.2.1 hc.2.2.2 q
  .exact λc o _ _ hc q _=>by
    simp only[kX,k7,mZ,tV]at hc
    exact⟨o.slots,kp c o hc.1 hc.2.1 hc.2.2.1 hc.2.2.2 q⟩
  .exact λc o _ q n=>n
  .exact λc o hc q=>by
    simp only[kX,k7,mZ,tV]at hc
    exact⟨o,kp c o hc.1 hc.2.1 hc.2.2.1 hc.2.2.2 q⟩
  .exact λc ys q=>q
  .exact λc o u q=>q
  .exact λc ps q=>⟨#[],by rw[q];simp⟩
  .rintro mm ⟨o,es,ep,ho,r⟩
   exact⟨o,es,ep,kp _ o (mR fz.2.1) (mR ft.2.1) (mR f1.2.1) (mR f2.2.1) ho,r⟩
  .intro c v q
   refine(I.hok c v q).Wa (λd o hd r=>?_) (λd r=>r) (λd ys r=>r)
   rcases hd with e|e
   .rw[e]at r ⊢; exact kp c o (ne z v (by simp) c q) (ne tt v (by simp) c q) (ne j1 v (by simp) c q) (ne j2 v (by simp) c q) r
   .exact kp d o (ne z _ (by simp) d e) (ne tt _ (by simp) d e) (ne j1 _ (by simp) d e) (ne j2 _ (by simp) d e) r
 self:=λ_ _ _ _ _ st h=>wL st.oz h
end L2
end
noncomputable section
namespace L2
open PySem PySem.Spec PyProof.Rows
theorem zne(n:Nat):ZNe (n+4) (n+2) (n+3) n (n+1):=⟨λe=>by have:n+2=n+4:=e;lia,λe=>by have:n+3=n+4:=e;lia,λe=>by have:n=n+4:=e;lia,λe=>by have:n+1=n+4:=e;lia,λe=>by have:n+2=n+3:=e;lia,λe=>by have:n+2=n:=e;lia,λe=>by have:n+2=n+1:=e;lia,λe=>by have:n+3=n:=e;lia,λe=>by have:n+3=n+1:=e;lia,λe=>by have:n=n+1:=e;lia⟩
section
variable{X:Cx}
noncomputable def js(K:kJ)(ta:TA):TI:=λσ H R=>ta σ H λvs H1=>∃k a m b,vs=[.ref a,.ref b]/\(∃xs,SqB K H1 k a xs)/\(∃ys,SqB K H1 m b ys)/\R (Itz K k a m b) H1
theorem Z5{a b:lH}{ta:TA}{p pos tp:Pos}{elts:Wp lH}{n:Nat}(hg:Gl X "zip")(hm:X.mg "zip"=none)(ha:PA X [a,b] ta)(hs:k9 [a,b] X.env=[(false,eval a X.env),(false,eval b X.env)]:=by rfl)(hs2:k9 [b] X.env=[(false,eval b X.env)]:=by rfl):PI X (.Tuple elts n tp) (.Call (.Name "zip" p) [a,b] [] pos) (js X.K ta):=by
 intro pins s σ H R I h
 refine Call_ (JN I hg hm boot_zip (nZ (thn (ha pos pins s σ H _ I h) λus s1 ⟨vs,H1,I1,r1,q1⟩=>?_) (by rw[hs,hs2]) (by rw[hs2];rfl)))
 obtain⟨k,a',m,b',e,⟨xs,hq⟩,⟨ys,hr⟩,q⟩:=q1
 subst e
 obtain⟨u,v,rfl,ru,rv⟩:=r1.two
 cases (show u=mF a' from ru)
 cases (show v=mF b' from rv)
 obtain⟨i1,v1,p1⟩:=I1.sqB hq
 obtain⟨i2,v2,p2⟩:=I1.sqB hr
 refine SO p1 p2 λh' oz oi ot q1 q2 kp=>wL (s:={s1 with heap:=h'}) oz ?_
 have sq:∀{q:lM} {d:kQ} {is:lE kL},LB s1.heap q d is->LB h' q d is:=λ{q d is} x=>by
  cases q
  .exact(show s1.heap.IsList d is from x).at λo e=>kp _ o e
  .obtain⟨o,e,r⟩:=(show s1.heap.IsTuple d is from x)
   exact⟨o,kp _ o e,r⟩
 refine⟨s1.heap.objs.size+4,[s1.heap.objs.size+4,s1.heap.objs.size+2,s1.heap.objs.size+3,s1.heap.objs.size,s1.heap.objs.size+1],_,_,H1,rfl,I1.kept (t':=s1.toks) kp,
  VE k a' m b' _ _ _ _ _ (zne s1.heap.objs.size),⟨oz,oi,⟨_,_,ot⟩,q1.jit (sq p1),q2.jit (sq p2)⟩,λc hc=>?_,q⟩
 simp only[kX,k7,mZ]at hc
 have:s1.heap.objs.size<=c:=by rcases hc with rfl|rfl|rfl|rfl|rfl<;>first|exact kR _|exact Nat.le_add_right _ _
 exact I1.XC this (I1.hok.fresh this)
end
end L2
end
noncomputable section
namespace L2
open PySem PySem.Spec PyProof.Rows
section
variable{prog:k8}{w:lO}{A:lV}{E:kL->kM->Prop}{s:kM}
theorem IsList.PU{h h':lP}{a:kQ}{items:lE kL}(p:h.IsList a items)(k:∀o,h.get? a=Gc o->h'.get? a=Gc o):h'.IsList a items:=by
 obtain⟨o,ho,r⟩:=p
 exact⟨o,k o ho,r⟩
theorem Nq{it t:kQ}{items:lE kL}(hne:t≠it):∀(n i:Nat) (s:kM) (Q:Wp kL->kM->Prop),s.heap.IsListIter it t i->s.heap.IsList t items->i+n<=items.size->(∀h',h'.IsListIter it t (i+n)->nY it s.heap h'->Q ((items.toList.drop i).take n) {s with heap:=h'})->wpAny (model prog w) A (draw (.ref it) n) Q E s
 |0,i,s,Q,hit,_,_,hQ=>by
  show wpAny _ _ (pure []) Q E s
  exact kO (by simpa using hQ s.heap hit (vb ..))
 |n+1,i,s,Q,hit,ht,hle,hQ=>by
  have hlt:i<items.size:=by lia
  show wpAny _ _ (pyNext (.ref it) >>= _) Q E s
  refine kH (qf hit ht (x:=items[i]) (by simp[hlt]) λh1 hit1 hs1=>?_)
  refine kH (lh (Nq hne n (i+1) _ _ hit1 (IsList.PU ht λo e=>hs1.extBut t o hne e) (by lia) λh2 hit2 hs2=>kO ?_))
  have hd:items.toList.drop i=items[i]::items.toList.drop (i+1):=by simp[mn,hlt]
  have:=hQ h2 (by rw[show i+(n+1)=i+1+n by lia];exact hit2) (hs1.trans hs2)
  rw[hd,List.take_succ_cons]at this
  exact this
theorem JZ{t:kQ}{items:lE kL}{Q:Wp kL->kM->Prop}(hh:A.handled=none)(ht:s.heap.IsList t items)(hty:s.TypeIs (.ref t) "list")(hQ:∀h',qb s.heap.objs.size s.heap h'->Q items.toList {s with heap:=h'}):wpAny (model prog w) A (unpackItems (.ref t) items.size none) Q E s:=by
 have hlt:t≠s.heap.objs.size:=by obtain⟨o,ho,_⟩:=ht;exact ki (kf ho)
 unfold unpackItems
 refine kH ?_
 .unfold notIterableAtAll
  refine kH (t9 hty F.slot_list_iter.lookup ?_)
  refine kO ?_
  simp only[nO,p0]
  refine kH (lh (mY ht ?_))
  refine kH (lh (Nq hlt items.size 0 _ _ ⟨_,kZ _ rfl,rfl,rfl⟩ (IsList.PU ht λo e=>kK _ e) (by lia) λh1 hit1 hs1=>?_))
  have hall:wM items.size (yW 0 items.toList)=items.toList:=by
   rw[List.drop_zero];exact pJ (by simp)
  rw[hall]
  rw[lJ (by simp)]
  have ht1:h1.IsList t items:=IsList.PU (IsList.PU ht λo e=>kK _ e) λo e=>hs1.extBut t o hlt e
  refine kH (lh (qu hh hit1 ht1 (by simp) λh2 he2=>?_))
  simp only[Option.isSome_none,nO,p0]
  refine kO (hQ h2 λb o hb e=>he2 b o hb (hs1.extBut b o hb (kK _ e)))
theorem Iq{env:Env}{elts:Wp lH}{x1}{pos:Pos}{t:kQ}{items:lE kL}{Q:Unit->kM->Prop}(hh:A.handled=none)(ht:s.heap.IsList t items)(hty:s.TypeIs (.ref t) "list")(hn:(assignEach elts env).length=items.size)(hstar:(assignEach elts env).findIdx? (·.1)=none)(h:∀h',qb s.heap.objs.size s.heap h'->wpAny (model prog w) A (assignInOrder ((assignEach elts env).map (·.2)) items.toList) Q E {s with heap:=h'}):wpAny (model prog w) A (assign (.Tuple elts x1 pos) env (.ref t)) Q E s:=by
 rw[xj]
 refine kH (nh ?_)
 unfold unpack
 rw[hn,hstar]
 exact kH (lh (JZ hh ht hty h))
end
section
variable{X:Cx}{pos:Pos}
noncomputable def je(K:kJ)(n:Nat)(t:TGs):TG:=λv σ H Q=>∃a xs,v=.ref a/\(SqT K H a xs\/H a=Gc (.lst xs))/\xs.length=n/\t xs σ H Q
theorem bO{es:Wp lH}{k:Nat}{t:TGs}{n:Nat}(hc:X.calm=true)(h:PGs X es t)(hn:(assignEach es X.env).length=n:=by rfl)(hst:(assignEach es X.env).findIdx? (·.1)=none:=by rfl):PG X (.Tuple es k pos) (je X.K n t):=by
 intro pins s σ H v u Q I r hw
 obtain⟨a,xs,e1,hq,hl,hw⟩:=hw
 rcases hq with hq|hq
 .exact bq hc h hn hst pins s σ H v u Q I r ⟨a,xs,e1,hq,hl,hw⟩
 .subst e1
  cases r
  obtain⟨its,rv,p,hz⟩:=I.list (SqL.of hq)
  obtain⟨z,its2,m,rv2,_,e⟩:=I.Wc hq
  refine Iq (I.ok.hd hc) p.isList ⟨_,e,rfl⟩ (by simp[hn,<-hl,rv.length]) hst λh' hx=>?_
  have I1:Inv X pins σ H {s with heap:=h'}:=I.kept (t':=s.toks) λb o e=>hx b o (ki (kf e)) e
  exact h pins _ σ H xs _ Q I1 (by simpa using rv) hw
end
end L2
end
noncomputable section
namespace L2
open PySem PySem.Spec PyProof.Rows
theorem JIt.live{h:lP}{k:lM}{j l:kQ}{i:Nat}(q:JIt h k j l i):∃o,h.get? j=Gc o/\∀v,o.data≠.cell v:=by
 cases k with
 |true=>obtain⟨o,e,c,d⟩:=q;exact⟨o,e,λv z=>by rw[d]at z;cases z⟩
 |false=>obtain⟨o,e,c,d⟩:=q;exact⟨o,e,λv z=>by rw[d]at z;cases z⟩
theorem LB.mono{h h':lP}{k:lM}{l:kQ}{its:lE kL}(q:LB h k l its)(e:∀o,h.get? l=Gc o->h'.get? l=Gc o):LB h' k l its:=by
 cases k with
 |true=>obtain⟨o,ho,r⟩:=q;exact⟨o,e o ho,r⟩
 |false=>obtain⟨o,ho,r⟩:=q;exact⟨o,e o ho,r⟩
theorem Rx{prog:k8}{w:lO}{A:lV}(hh:A.handled=none)(it t:kQ)(hne:t≠it)(items:lE kL):Draws prog w A it [it,t] items.size (λi v=>items[i]?=Gc v) (λi h=>SIt h it t i items) where
 live:=λ_ _ st=>let⟨o,ho,_⟩:=st.live;⟨o,ho⟩
 frame:=λ_ _ _ st hk=>st.at (λo e=>hk it (by simp) o e) λo e=>hk t (by simp) o e
 item:=λi s Q E hi st hQ=>Jn st (x:=items[i]) (by simp[hi]) λh' a b=>hQ _ h' s.toks (by simp[hi]) a b
 done:=λs Q E st hE=>Jl hh st (by simp) hE
noncomputable def ItE(K:kJ)(kk:lM)(a:kQ):It:=
 ⟨λi H=>∃xs x,SqB K H kk a xs/\xs[i]?=Gc x,λi H x H'=>∃p y,H p=none/\x=.ref p/\(∀xs,SqB K H kk a xs->xs[i]?=Gc y)/\H'=upd H p (.tup [.int i,y]),λi H=>∃xs,SqB K H kk a xs/\xs.length<=i⟩
theorem QY{P:k8}{w:lO}{K:kJ}{elts:Wp lH}{k:Nat}{pos:Pos}(kk:lM)(a e it:kQ)(hei:e≠it):Turn P w K (.Tuple elts k pos) (ItE K kk a) [e,it] e (λi h=>(∃old,IsEnum h e it i old)/\JIt h kk it a i) where
 mem:=by simp
 obj:=λi h st b hb=>by
  obtain⟨⟨old,h1⟩,st2⟩:=st
  obtain⟨o,h2,h4⟩:=st2.live
  simp only[kX,k7,mZ]at hb
  rcases hb with rfl|rfl
  .exact⟨_,h1,λv z=>nomatch z⟩
  .exact⟨o,h2,h4⟩
 keep:=λi h h' st k=>by
  obtain⟨⟨old,h1⟩,h2⟩:=st
  exact⟨⟨old,k e (by simp) _ h1⟩,h2.at λo q=>k it (by simp) o q⟩
 item:=by
  intro X hP hw hK hc i pins s σ H E I hf st hg
  subst hP hw hK
  obtain⟨xs,x,hq,hx⟩:=hg
  obtain⟨its,rv,p⟩:=I.sqB hq
  obtain⟨u,hu,ru⟩:=rv.get hx
  obtain⟨⟨old,h1⟩,h2⟩:=st
  obtain⟨oi,hi1,hi2⟩:=h2.live
  have hea:a≠e:=BW I hq (hf e (by simp))
  have hia:a≠it:=BW I hq (hf it (by simp))
  have hil:i<its.toArray.size:=by
   have:=(ke.mp hu).1
   simpa using this
  have hh:X.A.in1.handled=none:=I.ok.hd hc
  have D:=Rx (prog:=X.prog) (w:=X.w) hh it a hia its.toArray
  refine wpAny_pyNext_enum_itemD D h1 (h2.sit p) hil hei (by simp[hei,mR hea]) ?_
  intro y h' tk hy out st' tup size kept
  have ey:y=u:=by
   have:its[i]?=Gc y:=by simpa using hy
   rw[hu]at this
   exact(mO this).symm
  subst ey
  refine⟨_,rfl,wpAny_letOwnedTupleGo_enum out λh'' en sb=>?_⟩
  have hfe:=hf e (by simp)
  have hfi:=hf it (by simp)
  have lt:∀b o,s.heap.get? b=Gc o->b≠s.heap.objs.size:=λb o q=>ki (kf q)
  have kept2:∀b o,b≠e->b≠it->s.heap.get? b=Gc o->h''.get? b=Gc o:=λb o b1 b2 q=>(sb.2 b b1).trans (kept b o b1 b2 q)
  have fr:H s.heap.objs.size=none:=I.hok.fresh (kR _)
  have tup2:h''.get? s.heap.objs.size=Gc {cls:=.type "tuple",data:=.seq #[.int i tk,y]}:=(sb.2 _ (mR (lt e _ h1))).trans tup
  have ne1:∀b u,H b=Gc u->b≠e:=λb u q z=>by rw[z,hfe.1]at q;cases q
  have ne2:∀b u,H b=Gc u->b≠it:=λb u q z=>by rw[z,hfi.1]at q;cases q
  refine⟨.ref s.heap.objs.size,upd H s.heap.objs.size (.tup [.int i,x]),?_,rfl,⟨_,x,fr,rfl,λys hys=>by rw[I.Of hys hq];exact hx,rfl⟩,⟨⟨y,en⟩,?_⟩,?_⟩
  .show Inv X pins σ _ {s with heap:=h'',gens:=s.gens,drawn:=s.drawn,toks:=tk+1}
   refine I.step (g':=s.gens) (d':=s.drawn) (ch:=[e,it]) ?_ ?_ ?_ ?_ ?_ ?_ ?_ ?_ ?_ ?_ I.bare
   .intro b hb
    simp only[kX,k7,mZ]at hb
    rcases hb with rfl|rfl
    .exact⟨hfe.2.2.2.1,hfe.2.1,hfe.2.2.2.2.1,hfe.2.2.2.2.2⟩
    .exact⟨hfi.2.2.2.1,hfi.2.1,hfi.2.2.2.2.1,hfi.2.2.2.2.2⟩
   .exact λb o _ _ hc q _=>kept2 b o (λz=>hc (by simp[z])) (λz=>hc (by simp[z])) q
   .exact λb o _ _ hc q _=>⟨o.slots,kept2 b o (λz=>hc (by simp[z])) (λz=>hc (by simp[z])) q⟩
   .exact λb o _ q n=>by rw[Ae (lt b o q)];exact n
   .exact λb o hc q=>⟨o,kept2 b o (λz=>hc (by simp[z])) (λz=>hc (by simp[z])) q⟩
   .exact λb ys q=>by rw[Ae (BN q fr)];exact q
   .exact λb o u q=>by rw[Ae (BN q fr)];exact q
   .exact λb ps q=>⟨#[],by rw[Ae (BN q fr),q];simp⟩
   .rintro m ⟨o,es,ep,ho,r⟩
    exact⟨o,es,ep,kept2 _ o (mR hfe.2.1) (mR hfi.2.1) ho,r⟩
   .intro b v q
    by_cases hb:b=s.heap.objs.size
    .subst hb
     rw[A1]at q
     cases q
     exact⟨by show 2<=sizeLine;decide,[.int i tk,y],.cons ⟨tk,rfl⟩ (.cons ru .nil),⟨_,tup2,rfl,0,rfl⟩⟩
    .rw[Ae hb]at q
     refine(I.hok b v q).Wa (λc z hc r=>kept2 c z ?_ ?_ r) (λc r=>by rw[Ae (BN r fr)];exact r) (λc ys r=>by rw[Ae (BN r fr)];exact r)
     .rcases hc with z|z
      .rw[z];exact ne1 b v q
      .exact ne1 c _ z
     .rcases hc with z|z
      .rw[z];exact ne2 b v q
      .exact ne2 c _ z
  .have pa:LB h'' kk a its.toArray:=p.mono λo q=>kept2 a o hea hia q
   exact(st'.at (λo q=>(sb.2 it (mR hei)).trans q) λo q=>(sb.2 a hea).trans q).jit pa
  .intro b hb
   simp only[kX,k7,mZ]at hb
   rcases hb with rfl|rfl
   .rw[Ae (lt b _ h1)];exact hfe.1
   .rw[Ae (lt b _ hi1)];exact hfi.1
 done:=by
  intro X hP hw hK hc i pins s σ H E I hf st hg
  subst hP hw hK
  obtain⟨xs,hq,hx⟩:=hg
  obtain⟨its,rv,p⟩:=I.sqB hq
  obtain⟨⟨old,h1⟩,h2⟩:=st
  have hl:=rv.length
  have hh:X.A.in1.handled=none:=I.ok.hd hc
  obtain⟨f0,f1,f2,f3,f4,f5⟩:=hf it (by simp)
  have D:Draws X.prog X.w X.A.in1 it [it,a] i (λ_ _=>uL) (λj h=>j=i/\SIt h it a i its.toArray):=
   {live:=λ_ _ st=>let⟨o,ho,_⟩:=st.2.live;⟨o,ho⟩
    frame:=λ_ _ _ st hk=>⟨st.1,st.2.at (λo e=>hk it (by simp) o e) λo e=>hk a (by simp) o e⟩
    item:=λj s Q E hj st _=>absurd st.1 (ki hj)
    done:=λs Q E st hE=>Jl hh st.2 (by simp;lia) hE}
  exact wpAny_pyNext_enum_endD D h1 ⟨rfl,h2.sit p⟩ λh' eb=>⟨rfl,I.turned (t':=s.toks) (λb o hb q=>eb b o hb q) f0 f1 f3 f4 f5⟩
 self:=λ_ _ _ _ _ st h=>by
  obtain⟨⟨old,h1⟩,_⟩:=st
  exact vc h1 h
section
variable{X:Cx}
noncomputable def aW(K:kJ)(ta:TA):TI:=λσ H R=>ta σ H λvs H1=>∃kk a,vs=[.ref a]/\(∃xs,SqB K H1 kk a xs)/\R (ItE K kk a) H1
theorem Ul{a:lH}{ta:TA}{p pos tp:Pos}{elts:Wp lH}{k:Nat}(hg:Gl X "enumerate")(hm:X.mg "enumerate"=none)(ha:PA X [a] ta)(hs:k9 [a] X.env=[(false,eval a X.env)]:=by rfl):PI X (.Tuple elts k tp) (.Call (.Name "enumerate" p) [a] [] pos) (aW X.K ta):=by
 intro pins s σ H R I h
 refine Call_ (JN I hg hm boot_enumerate (callWith_type1 (thn (ha pos pins s σ H _ I h) λus s1 ⟨vs,H1,I1,r1,q1⟩=>?_) hs rfl))
 obtain⟨kk,b,e,⟨xs,hq⟩,q⟩:=q1
 subst e
 obtain⟨u,rfl,ru⟩:=r1.one
 cases (show u=mF b from ru)
 obtain⟨its,rv,pt⟩:=I1.sqB hq
 have fin:∀h':lP,IsEnum h' (s1.heap.objs.size+1) s1.heap.objs.size 0 .none->JIt h' kk s1.heap.objs.size b 0->(∀b o,s1.heap.get? b=Gc o->h'.get? b=Gc o)->wpAny (model X.prog X.w) X.A (pyIter (.ref (s1.heap.objs.size+1))) (PIE X pins σ (.Tuple elts k tp) R) X.xe {s1 with heap:=h'}:=λh' en it kp=>by
  refine vc (s:={s1 with heap:=h'}) en ?_
  refine⟨s1.heap.objs.size+1,[s1.heap.objs.size+1,s1.heap.objs.size],_,_,H1,rfl,I1.kept (t':=s1.toks) kp,QY kk b (s1.heap.objs.size+1) s1.heap.objs.size (Nat.succ_ne_self _),⟨⟨_,en⟩,it⟩,λc hc=>?_,q⟩
  simp only[kX,k7,mZ]at hc
  rcases hc with rfl|rfl
  .exact I1.XC (by lia) (I1.hok.fresh (by lia))
  .exact I1.XC (kR _) (I1.hok.fresh (kR _))
 cases kk with
 |true=>exact QS (show s1.heap.IsTuple b its.toArray from pt) λh' en it kp=>fin h' en it kp
 |false=>exact call_enumerate_list (show s1.heap.IsList b its.toArray from pt) λh' en it _ kp=>fin h' en it kp
end
end L2
end
noncomputable section
namespace St
open PySem PySem.Spec L2 PyProof.Rows
inductive Kd where
 |non|bl|int|str|tup|lst|dct
 deriving uK
noncomputable def Kd.ty:Kd->oY
 | .non=>"NoneType" | .bl=>"bool" | .int=>"int" | .str=>"str" | .tup=>"tuple" | .lst=>"list" | .dct=>"dict"
noncomputable def Kd.isA:Kd->oY->lM
 | .bl,"bool"=>true| .bl,"int"=>true| .int,"int"=>true| .str,"str"=>true| .tup,"tuple"=>true| .lst,"list"=>true| .dct,"dict"=>true
 |_,_=>false
section
variable{K:kJ}
theorem Ya(k:Kd):oC K (.type k.ty) (.type "int")=Gc (k.isA "int"):=by
 cases k<;>first|rfl|(unfold oC;rfl)
theorem VX(k:Kd):oC K (.type k.ty) (.type "bool")=Gc (k.isA "bool"):=by
 cases k<;>rfl
theorem kit_tuple(k:Kd):oC K (.type k.ty) (.type "tuple")=Gc (k.isA "tuple"):=by
 cases k<;>rfl
theorem YJ(k:Kd):oC K (.type k.ty) (.type "str")=Gc (k.isA "str"):=by
 cases k<;>rfl
end
structure Dfn(P:k8)(w:lO)(K:kJ)(mg:Str->kN kL)(base:lP)(x:Str)(k:Nat)(ps:Wp Str)(sp:Sp):Prop where
 ex:∃f fd,mg x=Gc (.ref f)/\oB K (.ref f)=true/\Binds K fd ps []/\Nv P w K mg base CX0 k f fd ps sp
structure Src(K:kJ)(mg:Str->kN kL)(x:Str)(st:mH):Prop where
 ex:∃f fd,Fun K x x st f fd/\mg x=Gc (.ref f)
theorem fN{X:Cx}{k:Nat}{x:Str}{ps:Wp Str}{sp:Sp}{e:lH}{es:Wp lH}{t:TA}{p pos:Pos}(d:Dfn X.prog X.w X.K X.mg X.base x k ps sp)(hr:Ky k X.A)(hg:Gl X x)(ha:PA X (e::es) t)(hdb:(x==("__debug__":Str))=false:=by decide)(he:k9 (e::es) X.env=(false,eval e X.env)::k9 es X.env:=by rfl)(hpl:(backTo pos (k9 es X.env)).any (·.1)=false:=by rfl):PE X (.Call (.Name x p) (e::es) [] pos) (Xz sp [] E0 t):=by
 obtain⟨f,fd,a,b,c,F⟩:=d.ex
 exact Ym F hr hg a b c .nil gG ha hdb he hpl
section
variable{X:Cx}
theorem Yb{n:Nat}(h:n<2^8000):n.log2<9000:=by
 by_cases h0:n=0
 .subst h0;decide
 .exact qF ((Nat.log2_lt h0).mpr h) (by decide)
theorem UT:OpR X (binaryOp .FloorDiv) (rI (λ_ j=>0<j/\j.natAbs<2^8000) λi j=>.int (i / j)):=opI λi j _ _ _ _ _ hc q=>by
 have h1:(0:Int)<j:=hc.1
 exact floordiv_int (by lia) (by rw[Int.fdiv_eq_ediv_of_nonneg i (by lia)];exact q) (.inl (PyProof.noPylong_of_log2 (Yb hc.2)))
theorem Iw{prog:k8}{w:lO}{A:lV}(hh:A.handled=none){a it:kQ}(hne:a≠it){vs:Wp kL}:Walks prog w A it [it,a] [it] vs.length (λi v=>vs[i]?=Gc v) (λi h=>h.IsListIter it a i/\h.IsList a vs.toArray) where
 sub:=λb hb=>by simp at hb;simp[hb]
 frame:=λi h h' st k=>⟨st.1.at λo e=>k it (by simp) o e,by
  obtain⟨o,ho,r⟩:=st.2
  exact⟨o,k a (by simp) o ho,r⟩⟩
 item:=λi s Q E hi st hQ=>by
  refine qf st.1 st.2 (x:=vs[i]) (by simp[hi]) λh' st' sb=>?_
  refine hQ _ h' s.toks (by simp[hi]) ⟨st',?_⟩ λb o hb e=>(sb.2 b (by simpa using hb)).trans e
  obtain⟨o,ho,r⟩:=st.2
  exact⟨o,(sb.2 a hne).trans ho,r⟩
 done:=λs Q E st hQ=>qu hh st.1 st.2 (by simp) λh' eb=>hQ h' s.toks λb o hb e=>eb b o (by simpa using hb) e
 self:=λi s Q E st hQ=>uC st.1 hQ
theorem Qr(hc:X.calm=true):DQ X (.builtin "all") (λxs H Q=>∃(p:kQ) (bs:Wp lM),xs=[.ref p]/\SqL X.K H p (bs.map V.bl)/\Q (.bl (bs.all id)) H):=by
 intro pins s σ H xs us Q I r h
 obtain⟨p,bs,rfl,hp,q⟩:=h
 obtain⟨u,rfl,ru⟩:=r.one
 cases (show u=mF p from ru)
 obtain⟨its,rv,pl,hz⟩:=I.list hp
 have hd:X.A.in1.handled=none:=I.ok.hd hc
 refine call_all_walk (mY pl.isList ?_)
 have hlen:bs.length=its.length:=by have:=rv.length;simpa using this
 have hpl:=pl.isList
 have hne:p≠s.heap.objs.size:=by
  obtain⟨o,ho,_⟩:=hpl
  exact ki (kf ho)
 refine⟨s.heap.objs.size,_,_,its.length,_,_,λi=>bs.getD i true,rfl,Iw (vs:=its) hd hne,⟨⟨_,kZ _ rfl,rfl,rfl⟩,?_⟩,?_,?_⟩
 .obtain⟨o,ho,r⟩:=hpl
  exact⟨o,kK _ ho,r⟩
 .intro i v s' Q' E' hv hq
  have hi:i<its.length:=(ke.mp hv).1
  have hb:(bs.map V.bl)[i]?=Gc (.bl (bs.getD i true)):=by
   rw[lC,kS (by lia)]
   simp[kg,kS (show i<bs.length by lia)]
  obtain⟨u,hu,ru⟩:=rv.get hb
  rw[hv]at hu
  cases hu
  cases (show v=rW _ from ru)
  exact oR hq
 .intro h' tk hk
  have e:(lT its.length).all (λi=>bs.getD i true)=bs.all id:=by
   rw[<-hlen]
   clear q hp rv hlen
   have:∀(l:Wp lM),(lT l.length).all (λi=>l.getD i true)=l.all id:=by
    intro l
    induction l with
    |nil=>rfl
    |cons b l ih=>
     rw[l7,qj,pV,zD,pV,<-ih]
     rfl
   exact this bs
  rw[e]
  exact⟨.bl _,H,I.kept (t':=tk) λb o eb=>hk b o (by simp;exact ki (kf eb)) (kK _ eb),rfl,q⟩
theorem Vd{ns:Wp Int}{j:Nat}(h:j<ns.length):(ns.take (j+1)).sum=(ns.take j).sum+ns.getD j 0:=by
 have e:ns.getD j 0=ns[j]:=by simp[kg,kS h]
 rw[xM,kS h,List.sum_append,e]
 show _+(ns[j]+0)=_
 lia
theorem Kn{ns:Wp Int}:∀{j:Nat},j<=ns.length->preSum (λi=>ns.getD i 0) j=(ns.take j).sum
 |0,_=>by simp[preSum]
 |j+1,h=>by
  rw[preSum,Kn (by lia),Vd (by lia)]
theorem TL{ns:Wp Int}(h:∀n∈ns,0<=n/\n<=1000000):0<=ns.sum/\ns.sum<=1000000*ns.length:=by
 induction ns with
 |nil=>simp
 |cons a l ih=>
  have h1:=h a (by simp)
  have h2:=ih λn hn=>h n (by simp[hn])
  rw[pX,l7]
  have:((l.length+1:Nat):Int)=(l.length:Int)+1:=by lia
  lia
end
section
variable{prog:k8}{w:lO}{A:lV}{E:kL->kM->Prop}{s:kM}
theorem Ic{t sl:kQ}{items:lE kL}{vl vu:kL}{lo hi:kN Int}{Q:kL->kM->Prop}(ht:z7 s.heap t items)(hs:s.heap.IsSliceOf sl vl vu .none)(pl:tQ vl lo)(pu:tQ vu hi)(hw:HT.sIx items.size 0 lo=0/\HT.sIx items.size items.size hi=items.size)(h:Q (.ref t) s):wpAny (model prog w) A (getItem (.ref t) (.ref sl)) Q E s:=by
 obtain⟨os,hos,hcs,hds⟩:=id hs
 have hTs:s.TypeIs (.ref sl) "slice":=⟨os,hos,hcs⟩
 unfold getItem
 try with_reducible refine lh ?_
 first|refine kH (kO ?_)|skip
 refine kH (vV ht.typeIs (by decide) ?_)
 refine kH (lx (name:=mL "__getitem__") ht.typeIs mE
  (lg mE ht.typeIs uj ?_ (vC _ _)))
 show wpAny _ _ (rh (.ref t) >>= _) _ _ s
 refine kH (xy ht ?_)
 refine kH (qD hTs ?_)
 rw[lF (by decide)]
 refine kH (HT.GO hs pl pu ?_)
 show wpAny _ _ (if(((HT.sIx items.size 0 lo:Nat):Int)==0 && (1:Int)==1 && (HT.sIx items.size items.size hi-HT.sIx items.size 0 lo)==items.size)=true then _ else _) _ _ s
 rw[lF (by rw[hw.1,hw.2];simp)]
 unfold xN
 refine kH (kH (qD ht.typeIs (kO ?_)))
 rw[lF (by decide)]
 exact kH (oZ (kO ⟨_,rfl,kO h⟩))
end
section
variable{X:Cx}
def jR(K:kJ):V->kN Int->kN Int->Hp->VK->Prop:=λx lo hi H Q=>∃a xs,x=.ref a/\SqT K H a xs/\HT.sIx xs.length 0 lo=0/\HT.sIx xs.length xs.length hi=xs.length/\Q x H
theorem a9:SlR X (jR X.K):=by
 intro pins s σ H x v vl vu lo hi sl Q I rx hs pl pu h
 obtain⟨a,xs,rfl,hx,h1,h2,q⟩:=h
 cases rx
 obtain⟨its,r,ht,hz⟩:=I.tuple hx
 have hlen:its.toArray.size=xs.length:=by rw[kh];exact r.length.symm
 refine⟨"tuple",_,mE.lookup,ht.typeIs,?_⟩
 exact Ic ht hs pl pu (by rw[hlen];exact⟨h1,h2⟩) ⟨.ref a,H,I,rfl,q⟩
noncomputable def dk(K:kJ):R2:=λx y H Q=>∃a b ys,x=.ref a/\y=.ref b/\SqT K H a []/\SqT K H b ys/\Q (.ref b) H
theorem Xm:OpR X (binaryOp .Add) (dk X.K):=by
 intro pins s σ H x y v u Q I rx ry h
 obtain⟨a,b,ys,rfl,rfl,ha,hb,q⟩:=h
 cases rx
 cases ry
 obtain⟨its,r1,p1,_⟩:=I.tuple ha
 obtain⟨its2,r2,p2,_⟩:=I.tuple hb
 have e0:its=[]:=r1.Ml.mpr rfl
 subst e0
 obtain⟨⟨cls,dd,data,sl⟩,ho,hc,n,hd⟩:=id p1
 obtain⟨⟨cls2,dd2,data2,sl2⟩,ho2,hc2,n2,hd2⟩:=id p2
 simp only at hc hd hc2 hd2
 subst hc hd hc2 hd2
 exact vU ⟨_,ho,rfl⟩ ⟨_,ho2,rfl⟩ tE uu qh qa (qP _ _)
  (tuple_addW0 a b #[] its2.toArray n n2 dd dd2 sl sl2 rfl) ⟨ho,ho2,⟨.ref b,H,I,rfl,q⟩⟩
end
end St
end
noncomputable section
namespace Mi
open PySem PySem.Spec L2
inductive D where
 |non|bl (b:lM)|int (i:Int)|str (x:Str)|ty (n:oY)|tup (ds:Wp D)|lst (ds:Wp D)|dct (kvs:Wp (Key×D))|scr (ns:Wp Int)|ref (n:Nat)
inductive Wv where
 |val (d:D)|own (ds:Wp D)
inductive Cl where
 |lst (ds:Wp D)|dct (kvs:Wp (Key×D))|tab (x:Str)
abbrev Sto:=Wp Cl
structure Ms where
 cel:Wp kQ
 tmp:Wp kQ
def Ms.mem(M:Ms)(a:kQ):Prop:=a∈M.cel\/a∈M.tmp
noncomputable def Ms.no:Ms:=⟨[],[]⟩
theorem Ms.Xa{a:kQ}:¬Ms.no.mem a:=λz=>z.elim (λz=>by cases z) λz=>by cases z
def KL(K:kJ)(a:kQ)(xs:Wp V):Prop:=∃(o:Obj) (its:lE kL) (n:Nat),K.lookup a=Gc o/\o.cls=.type "list" /\o.dict=none/\o.data=.seq its n/\its.size<=sizeLine/\Vals xs its.toList
mutual
inductive C1(K:kJ)(M:Ms)(H:Hp):V->D->Prop
 |non:C1 K M H .non .non
 |bl (b:lM):C1 K M H (.bl b) (.bl b)
 |int (i:Int):C1 K M H (.int i) (.int i)
 |str (x:Str):C1 K M H (.str x) (.str x)
 |ty (n:oY):C1 K M H (.ty n) (.ty n)
 |tup {a:kQ} {xs:Wp V} {ds:Wp D} (h:SqT K H a xs) (r:Al K M H xs ds):C1 K M H (.ref a) (.tup ds)
 |lst {a:kQ} {xs:Wp V} {ds:Wp D} (h:H a=Gc (.lst xs)) (n:¬M.mem a) (r:Al K M H xs ds):C1 K M H (.ref a) (.lst ds)
 |scr {a:kQ} {ns:Wp Int} (h:(Rd H a (.lst (ns.map V.int))/\¬M.mem a)\/KL K a (ns.map V.int)):C1 K M H (.ref a) (.scr ns)
 |dct {a:kQ} {kvs:Wp (Key×V)} {es:Wp (Key×D)} (h:H a=Gc (.dK kvs)) (n:¬M.mem a) (r:Bw K M H kvs es):C1 K M H (.ref a) (.dct es)
 |ref {a:kQ} {n:Nat} (h:M.cel[n]?=Gc a):C1 K M H (.ref a) (.ref n)
inductive Al(K:kJ)(M:Ms)(H:Hp):Wp V->Wp D->Prop
 |nil:Al K M H [] []
 |cons {v:V} {d:D} {vs:Wp V} {ds:Wp D} (h:C1 K M H v d) (t:Al K M H vs ds):Al K M H (v::vs) (d::ds)
inductive Bw(K:kJ)(M:Ms)(H:Hp):Wp (Key×V)->Wp (Key×D)->Prop
 |nil:Bw K M H [] []
 |cons {k:Key} {v:V} {d:D} {vs:Wp (Key×V)} {ds:Wp (Key×D)} (h:C1 K M H v d) (t:Bw K M H vs ds):Bw K M H ((k,v)::vs) ((k,d)::ds)
end
def MOk(M:Ms)(H:Hp):Prop:=∀a,M.mem a->(∃xs,H a=Gc (.lst xs))\/(∃kvs,H a=Gc (.dK kvs))\/∃ps,H a=Gc (.tbl ps)
structure Sp1(M:Ms)(H:Hp)(M':Ms)(H':Hp):Prop where
 mo:MOk M H
 pre:M.cel <+: M'.cel
 fresh:∀a,M'.mem a->M.mem a\/H a=none
 keep:∀a o,H a=Gc o->¬M.mem a->H' a=Gc o
structure Gr(M:Ms)(H:Hp)(M':Ms)(H':Hp):Prop where
 mo:MOk M H
 pre:M.cel <+: M'.cel
 tmp:M'.tmp=M.tmp
 fresh:∀a,a∈M'.cel->a∈M.cel\/H a=none
 keep:∀a o,H a=Gc o->a∉M.cel->H' a=Gc o
 some:∀a,H a≠none->H' a≠none
section
variable{K:kJ}{M M' M2:Ms}{H H' H2:Hp}
theorem MOk.some(mo:MOk M H){a:kQ}(h:M.mem a):H a≠none:=λz=>by
 rcases mo a h with⟨xs,e⟩|⟨xs,e⟩|⟨xs,e⟩<;>(rw[e]at z;cases z)
theorem Gr.st(g:Gr M H M' H'):Sp1 M H M' H':=⟨g.mo,g.pre,λa z=>z.elim (λz=>(g.fresh a z).imp .inl id) λz=>.inl (.inr (by rw[<-g.tmp];exact z)),λa o e n=>g.keep a o e λz=>n (.inl z)⟩
theorem Gr.refl(mo:MOk M H):Gr M H M H:=⟨mo,mG,rfl,λ_ z=>.inl z,λ_ _ e _=>e,λ_ e=>e⟩
theorem Gr.none(g:Gr M H M' H'){a:kQ}(h:H' a=none):H a=none:=by
 cases e:H a with
 |none=>rfl
 |some o=>exact absurd h (g.some a (by rw[e];intro z;cases z))
theorem Gr.trans(h:Gr M H M' H')(g:Gr M' H' M2 H2):Gr M H M2 H2:=
 ⟨h.mo,h.pre.trans g.pre,g.tmp.trans h.tmp,λa z=>(g.fresh a z).elim (h.fresh a) λz=>.inr (h.none z),λa o e n=>g.keep a o (h.keep a o e n) (λz=>by
   rcases h.fresh a z with z|z
   .exact n z
   .rw[e]at z;cases z),λa e=>g.some a (h.some a e)⟩
theorem Gr.grow(mo:MOk M H)(k:∀a o,H a=Gc o->H' a=Gc o):Gr M H M H':=
 ⟨mo,mG,rfl,λ_ z=>.inl z,λb u eb _=>k b u eb,λb eb z=>by
   cases h:H b with
   |none=>exact eb h
   |some o=>rw[k b o h]at z;cases z⟩
theorem ME{α:Type}{xs ys:Wp α}(h:xs <+: ys){n:Nat}{a:α}(e:xs[n]?=Gc a):ys[n]?=Gc a:=by
 obtain⟨zs,rfl⟩:=h
 rw[kP (ke.mp e).1]
 exact e
theorem Ut{a:kQ}{xs:Wp V}(h:SqT K H a xs)(k:∀b o,H b=Gc o->(∀ys,o≠.lst ys)->(∀ys,o≠.dK ys)->(∀ys,o≠.tbl ys)->H' b=Gc o):SqT K H' a xs:=by
 rcases h with h|h
 .rcases h with h|⟨o,h⟩
  .exact .inl (.inl (k _ _ h (λys z=>by cases z) (λys z=>by cases z) λys z=>by cases z))
  .exact .inl (.inr ⟨o,k _ _ h (λys z=>by cases z) (λys z=>by cases z) λys z=>by cases z⟩)
 .exact .inr h
theorem Sp1.sqT(g:Sp1 M H M' H'){a:kQ}{xs:Wp V}(h:SqT K H a xs):SqT K H' a xs:=Ut h λb o e n1 n2 n3=>g.keep b o e λz=>by
 rcases g.mo b z with⟨ys,q⟩|⟨ys,q⟩|⟨ys,q⟩
 .exact n1 ys (mO (e.symm.trans q))
 .exact n2 ys (mO (e.symm.trans q))
 .exact n3 ys (mO (e.symm.trans q))
theorem Sp1.nm(g:Sp1 M H M' H'){a:kQ}{o:HO}(e:H a=Gc o)(n:¬M.mem a):¬M'.mem a:=λz=>by
 rcases g.fresh _ z with z|z
 .exact n z
 .rw[z]at e;cases e
theorem C1.step(g:Sp1 M H M' H'){v:V}{d:D}(h:C1 K M H v d):C1 K M' H' v d:=
 C1.rec (motive_1:=λv d _=>C1 K M' H' v d) (motive_2:=λv d _=>Al K M' H' v d) (motive_3:=λv d _=>Bw K M' H' v d) .non .bl .int .str .ty (λh _ r=>.tup (g.sqT h) r) (λh n _ r=>.lst (g.keep _ _ h n) (g.nm h n) r) (λh=>by
  rcases h with⟨h,n⟩|h
  .rcases h with h|⟨o,h⟩
   .exact .scr (.inl ⟨.inl (g.keep _ _ h n),g.nm h n⟩)
   .exact .scr (.inl ⟨.inr ⟨o,g.keep _ _ h n⟩,g.nm h n⟩)
  .exact .scr (.inr h)) (λh n _ r=>.dct (g.keep _ _ h n) (g.nm h n) r) (λh=>.ref (ME g.pre h)) .nil (λ_ _ h t=>.cons h t) .nil (λ_ _ h t=>.cons h t) h
theorem Al.ind{P:Wp V->Wp D->Prop}(n:P [] [])(c:∀{v:V} {d:D} {vs:Wp V} {ds:Wp D},C1 K M H v d->P vs ds->P (v::vs) (d::ds)){vs:Wp V}{ds:Wp D}(h:Al K M H vs ds):P vs ds:=
 Al.rec (motive_1:=λ_ _ _=>uL) (motive_2:=λv d _=>P v d) (motive_3:=λ_ _ _=>uL) trivial (λ_=>trivial) (λ_=>trivial) (λ_=>trivial) (λ_=>trivial) (λ_ _ _=>trivial) (λ_ _ _ _=>trivial) (λ_=>trivial) (λ_ _ _ _=>trivial) (λ_=>trivial) n (λh _ _ t=>c h t) trivial (λ_ _ _ _=>trivial) h
theorem Bw.ind{P:Wp (Key×V)->Wp (Key×D)->Prop}(n:P [] [])(c:∀{k:Key} {v:V} {d:D} {vs:Wp (Key×V)} {ds:Wp (Key×D)},C1 K M H v d->P vs ds->P ((k,v)::vs) ((k,d)::ds)){vs:Wp (Key×V)}{ds:Wp (Key×D)}(h:Bw K M H vs ds):P vs ds:=
 Bw.rec (motive_1:=λ_ _ _=>uL) (motive_2:=λ_ _ _=>uL) (motive_3:=λv d _=>P v d) trivial (λ_=>trivial) (λ_=>trivial) (λ_=>trivial) (λ_=>trivial) (λ_ _ _=>trivial) (λ_ _ _ _=>trivial) (λ_=>trivial) (λ_ _ _ _=>trivial) (λ_=>trivial) trivial (λ_ _ _ _=>trivial) n (λh _ _ t=>c h t) h
theorem Al.step(g:Sp1 M H M' H'){v:Wp V}{d:Wp D}(h:Al K M H v d):Al K M' H' v d:=h.ind .nil λh t=>.cons (h.step g) t
theorem Bw.step(g:Sp1 M H M' H'){v:Wp (Key×V)}{d:Wp (Key×D)}(h:Bw K M H v d):Bw K M' H' v d:=h.ind .nil λh t=>.cons (h.step g) t
theorem Al.length:∀{v:Wp V} {d:Wp D},Al K M H v d->v.length=d.length
 |_,_,.nil=>rfl
 |_,_,.cons _ t=>by simp[Al.length t]
theorem Al.get:∀{v:Wp V} {d:Wp D} {i:Nat} {y:D},Al K M H v d->d[i]?=Gc y->∃x,v[i]?=Gc x/\C1 K M H x y
 |_,_,i,y,.nil,e=>by simp at e
 |_,_,0,y,.cons h t,e=>by simp at e;subst e;exact⟨_,rfl,h⟩
 |_,_,i+1,y,.cons h t,e=>by
  obtain⟨x,h1,h2⟩:=Al.get (i:=i) t (by simpa using e)
  exact⟨x,by simpa using h1,h2⟩
theorem Al.append:∀{v v':Wp V} {d d':Wp D},Al K M H v d->Al K M H v' d'->Al K M H (v++v') (d++d')
 |_,_,_,_,.nil,s=>s
 |_,_,_,_,.cons h t,s=>.cons h (Al.append t s)
theorem Al.take:∀{v:Wp V} {d:Wp D} (n:Nat),Al K M H v d->Al K M H (v.take n) (d.take n)
 |_,_,0,_=>.nil
 |_,_,_+1,.nil=>.nil
 |_,_,n+1,.cons h t=>.cons h (Al.take n t)
theorem Al.drop:∀{v:Wp V} {d:Wp D} (n:Nat),Al K M H v d->Al K M H (v.drop n) (d.drop n)
 |_,_,0,r=>r
 |_,_,_+1,.nil=>.nil
 |_,_,n+1,.cons _ t=>Al.drop n t
theorem Al.set{x:V}{y:D}(r:C1 K M H x y):∀{v:Wp V} {d:Wp D} (i:Nat),Al K M H v d->Al K M H (v.set i x) (d.set i y)
 |_,_,_,.nil=>.nil
 |_,_,0,.cons _ t=>.cons r t
 |_,_,i+1,.cons q t=>.cons q (Al.set r i t)
end
abbrev En:=Wp (kN D)
abbrev Sg:=Wp (kN V)
structure EnR(K:kJ)(M:Ms)(E:En)(σ:Sg)(H:Hp):Prop where
 len:E.length=σ.length
 val:∀(i:Nat) (d:D),E[i]?=Gc (Gc d)->∃v,σ[i]?=Gc (Gc v)/\C1 K M H v d
noncomputable def jg(x:Str):Str:=(x++(".<locals>.":Str))++("<lambda>":Str)
def Yz(K:kJ)(c P:kQ):Prop:=
 ∃o vs file tf flags tg inF text tt,K.lookup c=Gc o/\o.cls=qV "code" /\o.data=wW vs/\vs[11]?=Gc (mF P)/\vs.getD 11 mW=mF P/\vs.getD 18 mW=sv file tf/\vs.getD 7 mW=qZ flags tg/\vs.getD 9 mW=rW inF/\vs.getD 10 mW=qZ text tt/\c≠P
def TabAt(K:kJ)(x:Str)(P:kQ):Prop:=
 ∃f oc od fd osl c,zE K mainGlobals x=Gc (Gc (mF f))/\K.lookup f=Gc ⟨oc,od,Data.func fd,osl⟩/\fd.code=mF c/\Yz K c P
def Z0(q:Str)(o:Obj):Prop:=∃vs t,o.data=wW vs/\vs[1]?=Gc (sv q t)
structure Vx(K:kJ)(H:Hp)(x:Str)(P:kQ)(ps:lE kL):Prop where
 tri:PySem.TriplesOk ps.toList
 tat:TabAt K x P
 cod:∀pos cv,PySem.codeAmong pos ps.toList=Gc cv->∃c o,cv=mF c/\H c=Gc (.frz o (.own 0))/\Z0 (jg x) o
theorem Vx.step{x:Str}{P:kQ}{ps:lE kL}{K:kJ}{M M':Ms}{H H':Hp}(t:Vx K H x P ps)(g:Sp1 M H M' H'):Vx K H' x P ps:=⟨t.tri,t.tat,λpos cv e=>by
 obtain⟨c,o,h1,h2,h3⟩:=t.cod pos cv e
 refine⟨c,o,h1,g.keep _ _ h2 λz=>?_,h3⟩
 rcases g.mo c z with⟨ys,q⟩|⟨ys,q⟩|⟨ys,q⟩<;>(rw[h2]at q;cases q)⟩
def Ze(K:kJ)(M:Ms)(H:Hp)(a:kQ):Cl->Prop
 | .lst ds=>∃xs,H a=Gc (.lst xs)/\Al K M H xs ds
 | .dct es=>∃kvs,H a=Gc (.dK kvs)/\Bw K M H kvs es
 | .tab x=>∃ps,H a=Gc (.tbl ps)/\Vx K H x a ps
structure StR(K:kJ)(M:Ms)(S:Sto)(H:Hp):Prop where
 mo:MOk M H
 nd:M.cel.Nodup
 nt:∀a∈M.tmp,a∉M.cel
 len:M.cel.length=S.length
 cell:∀(n:Nat) (a:kQ) (c:Cl),M.cel[n]?=Gc a->S[n]?=Gc c->Ze K M H a c
section
variable{K:kJ}{M M' M2:Ms}{H H' H2:Hp}{E:En}{σ:Sg}{S:Sto}
theorem EnR.step(r:EnR K M E σ H)(g:Sp1 M H M' H'):EnR K M' E σ H':=⟨r.len,λi d e=>by
 obtain⟨v,h1,h2⟩:=r.val i d e
 exact⟨v,h1,h2.step g⟩⟩
theorem StR.grow(r:StR K M S H)(k:∀a o,H a=Gc o->H' a=Gc o):StR K M S H':=by
 have g:Sp1 M H M H':=⟨r.mo,mG,λ_ z=>.inl z,λa o e _=>k a o e⟩
 refine⟨λa z=>(r.mo a z).imp (λ⟨xs,e⟩=>⟨xs,k _ _ e⟩) (Or.imp (λ⟨xs,e⟩=>⟨xs,k _ _ e⟩) λ⟨xs,e⟩=>⟨xs,k _ _ e⟩),r.nd,r.nt,r.len,λn a c h1 h2=>?_⟩
 have q:=r.cell n a c h1 h2
 cases c with
 |lst ds=>obtain⟨xs,e,rr⟩:=q;exact⟨xs,k _ _ e,rr.step g⟩
 |dct ds=>obtain⟨xs,e,rr⟩:=q;exact⟨xs,k _ _ e,rr.step g⟩
 |tab ds=>obtain⟨xs,e,rr⟩:=q;exact⟨xs,k _ _ e,rr.step g⟩
theorem StR.chg(r:StR K M S H){n:Nat}{a:kQ}{ds es:Wp D}{ys:Wp V}(h1:M.cel[n]?=Gc a)(h2:S[n]?=Gc (.lst ds))(hy:Al K M H ys es):StR K M (S.set n (.lst es)) (upd H a (.lst ys))/\Gr M H M (upd H a (.lst ys)):=by
 have ha:a∈M.cel:=k0 h1
 have hl:n<S.length:=(ke.mp h2).1
 have g:Gr M H M (upd H a (.lst ys)):=⟨r.mo,mG,rfl,λ_ z=>.inl z,λb o eb nb=>by rw[Ae (λz=>nb (by rw[z];exact ha))];exact eb,λb eb=>by
  by_cases h:b=a
  .subst h;rw[A1];intro z;cases z
  .rw[Ae h];exact eb⟩
 refine⟨⟨λb z=>?_,r.nd,r.nt,by rw[oP];exact r.len,λm b c e1 e2=>?_⟩,g⟩
 .by_cases h:b=a
  .subst h;exact .inl ⟨ys,A1⟩
  .rw[Ae h];exact r.mo b z
 .by_cases h:n=m
  .subst h
   rw[h1]at e1;cases e1
   rw[ko hl]at e2;cases e2
   exact⟨ys,A1,hy.step g.st⟩
  .rw[kW h]at e2
   have hb:b≠a:=λz=>by
    subst z
    exact h ((sV (ke.mp h1).1 r.nd).mp (h1.trans e1.symm))
   have q:=r.cell m b c e1 e2
   cases c with
   |lst fs=>obtain⟨xs,e,rr⟩:=q;exact⟨xs,by rw[Ae hb];exact e,rr.step g.st⟩
   |dct fs=>obtain⟨xs,e,rr⟩:=q;exact⟨xs,by rw[Ae hb];exact e,rr.step g.st⟩
   |tab fs=>obtain⟨xs,e,rr⟩:=q;exact⟨xs,by rw[Ae hb];exact e,rr.step g.st⟩
theorem StR.ZF(r:StR K M S H){a:kQ}{xs:Wp V}{ds:Wp D}(e:H a=none)(k:∀b o,H b=Gc o->H' b=Gc o)(ea:H' a=Gc (.lst xs))(rr:Al K M H xs ds):StR K ⟨M.cel++[a],M.tmp⟩ (S++[.lst ds]) H'/\Gr M H ⟨M.cel++[a],M.tmp⟩ H':=by
 have g:Gr M H ⟨M.cel++[a],M.tmp⟩ H':=⟨r.mo,pK _ _,rfl,λb z=>by
  rcases k6.mp z with z|z
  .exact .inl z
  .simp at z;subst z;exact .inr e,λb o eb _=>k b o eb,λb eb z=>by
  cases h:H b with
  |none=>exact eb h
  |some o=>rw[k b o h]at z;cases z⟩
 have na:¬M.mem a:=λz=>r.mo.some z e
 refine⟨⟨λb z=>?_,?_,λb hb z=>?_,by simp[r.len],λm b c e1 e2=>?_⟩,g⟩
 .have z':M.mem b\/b=a:=by
   rcases z with z|z
   .rcases k6.mp z with z|z
    .exact .inl (.inl z)
    .simp at z;exact .inr z
   .exact .inl (.inr z)
  rcases z' with z|z
  .exact(r.mo b z).imp (λ⟨xs,e⟩=>⟨xs,k _ _ e⟩) (Or.imp (λ⟨xs,e⟩=>⟨xs,k _ _ e⟩) λ⟨xs,e⟩=>⟨xs,k _ _ e⟩)
  .subst z;exact .inl ⟨xs,ea⟩
 .rw[mq]
  refine⟨r.nd,by simp,λx hx y hy=>?_⟩
  simp at hy;subst hy
  exact λz=>na (.inl (by rw[<-z];exact hx))
 .rcases k6.mp z with z|z
  .exact r.nt b hb z
  .simp at z;subst z;exact na (.inr hb)
 .by_cases h:m<S.length
  .rw[kP (by rw[r.len];exact h)]at e1
   rw[kP h]at e2
   have q:=r.cell m b c e1 e2
   cases c with
   |lst fs=>obtain⟨xs,e,rr⟩:=q;exact⟨xs,k _ _ e,rr.step g.st⟩
   |dct fs=>obtain⟨xs,e,rr⟩:=q;exact⟨xs,k _ _ e,rr.step g.st⟩
   |tab fs=>obtain⟨xs,e,rr⟩:=q;exact⟨xs,k _ _ e,rr.step g.st⟩
  .have hm:m=S.length:=by
    have:=(ke.mp e2).1
    simp at this;lia
   subst hm
   rw[lU (by rw[r.len];exact kR _)]at e1
   rw[lU (kR _)]at e2
   rw[r.len]at e1
   simp at e1 e2
   subst e1 e2
   exact⟨xs,ea,rr.step g.st⟩
end
noncomputable def jB:kN oy->lM
 |some .local=>true
 |some .cell=>true
 |some .free=>true
 |_=>false
noncomputable def gF(sc:nR)(x:Str):lM:=jB (sc.names.lookup x)
theorem bP{sc:nR}{x:Str}(h:gF sc x=true):Vis sc x:=by
 unfold gF at h
 unfold Vis
 cases e:sc.names.lookup x with
 |none=>rw[e]at h;cases h
 |some k=>
  rw[e]at h
  cases k<;>first|(cases h;done)|simp
abbrev Ev:=En->Sto->kN (D×Sto)
noncomputable def tD(K:kJ)(f:Ev):TE:=λσ H Q=>∃M E S d S',f E S=Gc (d,S')/\EnR K M E σ H/\StR K M S H/\∀v H' M',Gr M H M' H'->StR K M' S' H'->C1 K M' H' v d->Q v H'
structure DE(X:Cx)(e:lH)(f:Ev):Prop where
 pe:PE X e (tD X.K f)
theorem Bh{X:Cx}{e:lH}{t t':TE}(h:PE X e t)(m:∀σ H Q,t' σ H Q->t σ H Q):PE X e t':=λpins s σ H Q I q=>h pins s σ H Q I (m _ _ _ q)
theorem RV{X:Cx}{e:lH}{t t':TT}(h:PT X e t)(m:∀σ H Q,t' σ H Q->t σ H Q):PT X e t':=λpins s σ H Q I q=>h pins s σ H Q I (m _ _ _ q)
theorem Hi{K:kJ}{f:Ev}{σ:Sg}{H:Hp}{Q Q':VK}(h:tD K f σ H Q)(m:∀v H',Q v H'->Q' v H'):tD K f σ H Q':=by
 obtain⟨M,E,S,d,S',e,r,st,q⟩:=h
 exact⟨M,E,S,d,S',e,r,st,λv H' M' g s r=>m _ _ (q v H' M' g s r)⟩
theorem Ar{α β:Type}{o:kN α}{k:α->kN β}{y:β}(e:o.bind k=Gc y):∃x,o=Gc x/\k x=Gc y:=by
 cases o with
 |none=>cases e
 |some x=>exact⟨x,rfl,e⟩
theorem JQ{α β:Type}{o:kN α}{k:α->β}{y:β}(e:o.map k=Gc y):∃x,o=Gc x/\k x=y:=by
 cases o with
 |none=>cases e
 |some x=>cases e;exact⟨x,rfl,rfl⟩
noncomputable def fz:Wv->D
 | .val d=>d
 | .own ds=>.lst ds
noncomputable def at?(E:En)(i:Nat):kN D:=(E[i]?).join
theorem at?_some{E:En}{i:Nat}{w:D}(h:at? E i=Gc w):E[i]?=Gc (Gc w):=by
 unfold at? at h
 cases e:E[i]? with
 |none=>rw[e]at h;cases h
 |some q=>rw[e]at h;exact congrArg Gc h
noncomputable def evs:Wp Ev->En->Sto->kN (Wp D×Sto)
 | [],_,S=>Gc ([],S)
 |f::fs,E,S=>(f E S).bind λr=>(evs fs E r.2).map λq=>(r.1::q.1,q.2)
noncomputable def tDs(K:kJ):Wp Ev->TA
 | []=>gd
 |f::fs=>af (tD K f) (tDs K fs)
structure DEs(X:Cx)(es:Wp lH)(fs:Wp Ev):Prop where
 pe:PA X es (tDs X.K fs)
theorem AD{X:Cx}:DEs X [] []:=⟨Qw⟩
theorem AA{X:Cx}{e:lH}{es:Wp lH}{f:Ev}{fs:Wp Ev}(h:DE X e f)(t:DEs X es fs)(hs:k9 (e::es) X.env=(false,eval e X.env)::k9 es X.env:=by rfl):DEs X (e::es) (f::fs):=⟨Mv h.pe t.pe hs⟩
section
variable{K:kJ}{M M':Ms}{E:En}{S:Sto}{σ:Sg}{H H':Hp}
theorem HF:∀{fs:Wp Ev} {M:Ms} {S:Sto} {ds:Wp D} {S':Sto} {H:Hp} {Q:Wp V->Hp->Prop},evs fs E S=Gc (ds,S')->EnR K M E σ H->StR K M S H->(∀vs H' M',Gr M H M' H'->StR K M' S' H'->Al K M' H' vs ds->Q vs H')->tDs K fs σ H Q
 | [],M,S,ds,S',H,Q,e,r,st,q=>by
   cases e
   exact q [] H M (.refl st.mo) st .nil
 |f::fs,M,S,ds,S',H,Q,e,r,st,q=>by
  obtain⟨⟨d,S1⟩,e1,e⟩:=Ar e
  obtain⟨⟨es,S2⟩,e2,e⟩:=JQ e
  cases e
  refine⟨M,E,S,d,S1,e1,r,st,λv H1 M1 g1 st1 d1=>?_⟩
  exact HF e2 (r.step g1.st) st1 λvs H2 M2 g2 st2 d2=>q _ _ M2 (g1.trans g2) st2 (.cons (d1.step g2.st) d2)
theorem Oy:∀{fs:Wp Ev} {S:Sto} {ds:Wp D} {S':Sto},evs fs E S=Gc (ds,S')->ds.length=fs.length
 | [],_,_,_,e=>by cases e;rfl
 |f::fs,S,ds,S',e=>by
  obtain⟨⟨d,S1⟩,e1,e⟩:=Ar e
  obtain⟨⟨es,S2⟩,e2,e⟩:=JQ e
  cases e
  simp[Oy e2]
def Sh(K:kJ)(M:Ms)(H:Hp)(v:V):Wv->Prop
 | .val d=>C1 K M H v d
 | .own ds=>∃a xs,v=.ref a/\H a=Gc (.lst xs)/\Al K M H xs ds
inductive Shs(K:kJ)(M:Ms)(H:Hp):Wp V->Wp Wv->Prop
 |nil:Shs K M H [] []
 |cons {v:V} {w:Wv} {vs:Wp V} {ws:Wp Wv} (h:Sh K M H v w) (t:Shs K M H vs ws):Shs K M H (v::vs) (w::ws)
noncomputable def dr(S:Sto):D->Wv
 | .ref n=>match S[n]? with
   |some (.lst ds)=>.own ds
   |_=>.val (.ref n)
 |d=>.val d
theorem ZG(st:StR K M S H){v:V}{d:D}(h:C1 K M H v d):Sh K M H v (dr S d):=by
 cases h with
 |ref h=>
  rename_i a n
  show Sh K M H (.ref a) (match S[n]? with|some (.lst ds)=>.own ds|_=>.val (.ref n))
  split
  .rename_i ds e
   obtain⟨xs,h1,h2⟩:=st.cell n a _ h e
   exact⟨a,xs,rfl,h1,h2⟩
  .exact .ref h
 |non=>exact .non
 |bl b=>exact .bl b
 |int b=>exact .int b
 |str b=>exact .str b
 |ty b=>exact .ty b
 |tup h r=>exact .tup h r
 |lst h n r=>exact .lst h n r
 |scr h=>exact .scr h
 |dct h n r=>exact .dct h n r
theorem Wo(st:StR K M S H):∀{vs:Wp V} {ds:Wp D},Al K M H vs ds->Shs K M H vs (ds.map (dr S))
 |_,_,.nil=>.nil
 |_,_,.cons h t=>.cons (ZG st h) (Wo st t)
def NwR(K:kJ)(M:Ms)(H H':Hp)(v:V):Wv->Prop
 | .val d=>C1 K M H' v d
 | .own ds=>∃a xs,v=.ref a/\H a=none/\H' a=Gc (.lst xs)/\Al K M H xs ds
structure Nw(K:kJ)(M:Ms)(H H':Hp)(v:V)(w:Wv):Prop where
 grow:∀a o,H a=Gc o->H' a=Gc o
 rel:NwR K M H H' v w
theorem Nw.same{v:V}{d:D}(mo:MOk M H)(h:C1 K M H v d):Nw K M H H v (.val d):=⟨λ_ _ e=>e,h⟩
theorem FF{a:kQ}{o:HO}(e:H a=none):∀b u,H b=Gc u->upd H a o b=Gc u:=λb u eb=>by rw[Ae (λz=>by subst z;rw[e]at eb;cases eb)];exact eb
theorem Nw.lst{a:kQ}{xs:Wp V}{ds:Wp D}(mo:MOk M H)(e:H a=none)(h:Al K M H xs ds):Nw K M H (upd H a (.lst xs)) (.ref a) (.own ds):=⟨FF e,a,xs,rfl,e,A1,h⟩
theorem Nw.tup{a:kQ}{xs:Wp V}{ds:Wp D}(mo:MOk M H)(e:H a=none)(h:Al K M H xs ds):Nw K M H (upd H a (.tup xs)) (.ref a) (.val (.tup ds)):=⟨FF e,.tup (.of A1) (h.step (Gr.grow mo (FF e)).st)⟩
noncomputable def fin:lM->Wv->Sto->kN (D×Sto)
 |_,.val d,S=>Gc (d,S)
 |false,.own ds,S=>Gc (.lst ds,S)
 |true,.own ds,S=>Gc (.ref S.length,S++[.lst ds])
theorem Nw.fin{c:lM}{v:V}{w:Wv}{d:D}{S':Sto}(n:Nw K M H H' v w)(st:StR K M S H)(e:fin c w S=Gc (d,S')):∃M',Gr M H M' H'/\StR K M' S' H'/\C1 K M' H' v d:=by
 cases w with
 |val d'=>
  cases e
  exact⟨M,.grow st.mo n.grow,st.grow n.grow,n.rel⟩
 |own ds=>
  obtain⟨a,xs,rfl,h1,h2,h3⟩:=n.rel
  cases c with
  |false=>
   cases e
   exact⟨M,.grow st.mo n.grow,st.grow n.grow,.lst h2 (λz=>st.mo.some z h1) (h3.step (Gr.grow st.mo n.grow).st)⟩
  |true=>
   cases e
   obtain⟨s1,g1⟩:=st.ZF h1 n.grow h2 h3
   refine⟨_,g1,s1,.ref ?_⟩
   rw[<-st.len]
   exact kz
abbrev Op1:=Wv->kN Wv
abbrev Op2:=Wv->Wv->kN Wv
abbrev OpN:=Wp Wv->kN Wv
noncomputable def rOp(K:kJ)(op:Op2):R2:=λx y H Q=>∃M w1 w2 r,op w1 w2=Gc r/\MOk M H/\Sh K M H x w1/\Sh K M H y w2/\∀v H',Nw K M H H' v r->Q v H'
def rUn(K:kJ)(op:Op1):V->Hp->VK->Prop:=λx H Q=>∃M w r,op w=Gc r/\MOk M H/\Sh K M H x w/\∀v H',Nw K M H H' v r->Q v H'
def rN(K:kJ)(op:OpN):Wp V->Hp->VK->Prop:=λxs H Q=>∃M ws r,op ws=Gc r/\MOk M H/\Shs K M H xs ws/\∀v H',Nw K M H H' v r->Q v H'
noncomputable def L9(c:lM)(op:OpN)(fs:Wp Ev):Ev:=λE S=>(evs fs E S).bind λr=>(op (r.1.map (dr r.2))).bind λw=>fin c w r.2
abbrev eOp:=L9 false
abbrev ZS:=L9 true
noncomputable def o1(op:Op1):OpN| [a]=>op a|_=>none
noncomputable def o2(op:Op2):OpN| [a,b]=>op a b|_=>none
theorem KP{c:lM}{op:OpN}{fs:Wp Ev}{Q:VK}{d:D}{S':Sto}(e:L9 c op fs E S=Gc (d,S'))(r:EnR K M E σ H)(st:StR K M S H)(h:∀v H' M',Gr M H M' H'->StR K M' S' H'->C1 K M' H' v d->Q v H'):tDs K fs σ H λvs H1=>rN K op vs H1 Q:=by
 obtain⟨⟨ds,S1⟩,e1,e⟩:=Ar e
 obtain⟨w,e2,e⟩:=Ar e
 refine HF e1 r st λvs H1 M1 g1 st1 d1=>⟨M1,_,w,e2,st1.mo,Wo st1 d1,λv H2 n=>?_⟩
 obtain⟨M2,g2,st2,d2⟩:=n.fin st1 e
 exact h v H2 M2 (g1.trans g2) st2 d2
end
theorem bX{K:kJ}{f:Op2}{x y:V}{H:Hp}{Q:VK}(h:rN K (o2 f) [x,y] H Q):rOp K f x y H Q:=by
 obtain⟨M,ws,r,e,mo,s,q⟩:=h
 cases s with
 |cons h1 s=>
  cases s with
  |cons h2 s=>
   cases s
   exact⟨M,_,_,r,e,mo,h1,h2,q⟩
theorem Zj{K:kJ}{f:Op1}{x:V}{H:Hp}{Q:VK}(h:rN K (o1 f) [x] H Q):rUn K f x H Q:=by
 obtain⟨M,ws,r,e,mo,s,q⟩:=h
 cases s with
 |cons h1 s=>
  cases s
  exact⟨M,_,r,e,mo,h1,q⟩
theorem Pg{K:kJ}{c:lM}{f:Op2}{fa fb:Ev}{σ:Sg}{H:Hp}{Q:VK}(h:tD K (L9 c (o2 f) [fa,fb]) σ H Q):tOp (rOp K f) (tD K fa) (tD K fb) σ H Q:=by
 obtain⟨M,E,S,d,S',e,r,st,q⟩:=h
 have z:tD K fa σ H λx H1=>tD K fb σ H1 λy H2=>rN K (o2 f) [x,y] H2 Q:=KP (Q:=Q) e r st q
 exact Hi z λx H1 z1=>Hi z1 λy H2 z2=>bX z2
theorem aU{K:kJ}{c:lM}{f:Op1}{fa:Ev}{σ:Sg}{H:Hp}{Q:VK}(h:tD K (L9 c (o1 f) [fa]) σ H Q):tUn (rUn K f) (tD K fa) σ H Q:=by
 obtain⟨M,E,S,d,S',e,r,st,q⟩:=h
 have z:tD K fa σ H λx H1=>rN K (o1 f) [x] H1 Q:=KP (Q:=Q) e r st q
 exact Hi z λx H1 z1=>Zj z1
section
variable{X:Cx}{a b e:lH}{es:Wp lH}{fa fb:Ev}{fs:Wp Ev}{pos p:Pos}{c:lM}
theorem Ab{op:Operator}{f:Op2}(ho:OpR X (binaryOp op) (rOp X.K f))(ha:DE X a fa)(hb:DE X b fb):DE X (.BinOp a op b pos) (L9 c (o2 f) [fa,fb]):=⟨Bh (gO ho ha.pe hb.pe) λ_ _ _ h=>Pg h⟩
theorem GV{op:CmpOp}{f:Op2}(ho:OpR X (compareOp op) (rOp X.K f))(ha:DE X a fa)(hb:DE X b fb)(hm:behindInMarks op b=false:=by rfl):DE X (.Compare a [op] [b] pos) (L9 c (o2 f) [fa,fb]):=⟨Bh (Yp ho ha.pe hb.pe hm) λ_ _ _ h=>Pg h⟩
theorem ZD{op:UnaryOp}{f:Op1}(ho:UnR X (unaryOp op) (rUn X.K f))(ha:DE X a fa):DE X (.UnaryOp op a pos) (L9 c (o1 f) [fa]):=⟨Bh (fO ho ha.pe) λ_ _ _ h=>aU h⟩
theorem AM{f:Op2}(hr:IxR X (rOp X.K f))(ha:DE X a fa)(hb:DE X b fb)(hs:Qm b:=by exact λ_ _=>rfl):DE X (.Subscript a b pos) (L9 c (o2 f) [fa,fb]):=⟨Bh (fT hr ha.pe hb.pe hs) λ_ _ _ h=>Pg h⟩
theorem Ao{id:oY}{x:Str}{f:OpN}(hc:DQ X (.builtin id) (rN X.K f))(hg:Gl X x)(hm:X.mg x=none)(hv:bootBuiltins x=Gc (.builtin id))(ha:DEs X (e::es) fs)(hn:x≠ "__name__":=by decide)(hdb:(x==("__debug__":Str))=false:=by decide)(he:k9 (e::es) X.env=(false,eval e X.env)::k9 es X.env:=by rfl)(hpl:(backTo pos (k9 es X.env)).any (·.1)=false:=by rfl):DE X (.Call (.Name x p) (e::es) [] pos) (L9 c f fs):=⟨
 Bh (VG hc hg hm hv ha.pe hn hdb he hpl) λ_ _ _ h=>by
  obtain⟨M,E,S,d,S',e,r,st,q⟩:=h
  exact KP e r st q⟩
theorem Bg{T:oY}{x:Str}{f:OpN}(hc:DQ X (.type T) (rN X.K f))(hg:Gl X x)(hm:X.mg x=none)(hv:bootBuiltins x=Gc (.type T))(ha:DEs X (e::es) fs)(hn:x≠ "__name__":=by decide)(hdb:(x==("__debug__":Str))=false:=by decide)(he:k9 (e::es) X.env=(false,eval e X.env)::k9 es X.env:=by rfl)(hpl:(backTo pos (k9 es X.env)).any (·.1)=false:=by rfl):DE X (.Call (.Name x p) (e::es) [] pos) (L9 c f fs):=⟨
 Bh (NZ hc hg hm hv ha.pe hn hdb he hpl) λ_ _ _ h=>by
  obtain⟨M,E,S,d,S',e,r,st,q⟩:=h
  exact KP e r st q⟩
noncomputable def eC(d:D):Ev:=λ_ S=>Gc (d,S)
theorem N9{v:V}{d:D}(h:PE X e (tC v))(r:∀K M H,C1 K M H v d):DE X e (eC d):=⟨Bh h λσ H Q z=>by
 obtain⟨M,E,S,w,S',e,rr,st,q⟩:=z
 cases e
 exact q _ _ M (.refl st.mo) st (r _ _ _)⟩
theorem AF{i:Int}{j:Nat}:DE X (.Constant (.int i) j pos) (eC (.int i)):=N9 Z7 λ_ _ _=>.int _
theorem Oj{i:lM}{j:Nat}:DE X (.Constant (.bool i) j pos) (eC (.bl i)):=N9 fD λ_ _ _=>.bl _
theorem BX{i:Str}{j:Nat}:DE X (.Constant (.str i) j pos) (eC (.str i)):=N9 bp λ_ _ _=>.str _
theorem Gf{j:Nat}:DE X (.Constant .none j pos) (eC .non):=N9 bC λ_ _ _=>.non
noncomputable def eV(i:Nat):Ev:=λE S=>(at? E i).map λd=>(d,S)
theorem AB(i:Nat){x:Str}(hN:X.N[i]?=Gc x:=by rfl)(hv:gF X.env.scope x=true:=by rfl)(hd:(x==("__debug__":Str))=false:=by decide)(hcd:(x==("__classdict__":Str))=false:=by decide):DE X (.Name x pos) (eV i):=⟨Bh (XZ hN (bP hv) hd hcd) λσ H Q z=>by
 obtain⟨M,E,S,d,S',e,r,st,q⟩:=z
 obtain⟨d',e1,e⟩:=JQ e
 cases e
 obtain⟨v,hv,rd⟩:=r.val i d (at?_some e1)
 exact⟨v,hv,q v H M (.refl st.mo) st rd⟩⟩
end
theorem GP:fillsNumberSlot (.type "tuple") "mul"=pure false:=
 fillsNumberSlot_seq (id:="tuple.__mul__") (r:=Gc (.builtin "tuple.__rmul__")) qz.lookup (by decide+kernel) vd.lookup (by decide+kernel)
theorem JE:seqRepeat? (.type "tuple")=pure (Gc (.builtin "tuple.__mul__")):=by
 unfold seqRepeat?
 rw[seqSlot_of (T:="tuple") (name:="__mul__") (id:="tuple.__mul__") qz.lookup (by decide+kernel),seqSlot_of (T:="tuple") (name:="__rmul__") (id:="tuple.__rmul__") vd.lookup (by decide+kernel)]
 rfl
theorem HG(a:Int)(t:Tok)(l:kQ)(items:lE kL)(n:Nat)(dd:kN kQ)(sl:lE (kN kL)):Meets (nJ.«int.__rmul__» ⟨[.int a t,.ref l],[]⟩) (λ_ R s=>s.heap.get? l=Gc {cls:=.type "tuple",dict:=dd,data:=.seq items n,slots:=sl}/\R (.ok (.ret Value.notImplemented)) s):=
 .of_wp λprog w A R s h=>by obtain⟨hp,g,d,tk,os⟩:=s;obtain⟨hl,h⟩:=h;wp_walk;exact⟨_,rfl,h⟩
theorem TC(its:Wp kL)(m:Nat):vD (λx1 x2=>x1++x2) #[] (ku m its.toArray)=(ku m its).flatten.toArray:=by
 have:=foldl_rep its m []
 rw[lN]at this
 exact this
theorem X1{X:Cx}:OpR X (binaryOp .Mult) (λx y H Q=>∃a xs k,x=.ref a/\y=.int k/\SqT X.K H a xs/\xs≠[]/\1<=k/\xs.length*k.toNat<=sizeLine/\(k=1->Q (.ref a) H)/\(k≠1->∀p,H p=none->Q (.ref p) (upd H p (.tup (ku k.toNat xs).flatten)))):=by
 intro pins s σ H x y v u Q I rx ry h
 obtain⟨a,xs,k,rfl,rfl,hx,hne,hk,hz,q1,q2⟩:=h
 cases rx
 obtain⟨t,rfl⟩:=ry
 obtain⟨its,r,⟨⟨c,dd,data,sl⟩,ho,hc,n,hd⟩,hzz⟩:=I.tuple hx
 simp only at hc hd
 subst hc hd
 have hl:=r.length
 have hsz:its.toArray.size=xs.length:=by rw[kh];exact hl.symm
 have hpos:0<xs.length:=um.mpr hne
 have hkl:k.toNat<=sizeLine:=kY (Nat.le_mul_of_pos_left _ hpos) hz
 have hk63:k<2^63:=by
  have:(sizeLine:Nat)<2^63:=by decide
  lia
 refine qJ (T:="tuple") (U:="int") (by decide) ⟨_,ho,rfl⟩ (λs'=>qx s' k t) GP t7 pR JE tF.lookup
  (qy pR (qx s k t) tH (sT _ _) (HG k t a its.toArray n dd sl) ⟨ho,rfl,⟨_,ho,rfl⟩,?_⟩)
 refine lg qz ⟨_,ho,rfl⟩ ve ?_ (vF _ _)
 unfold nJ.«tuple.__mul__»
 wp_walk using lB ho
 rw[lJ (show¬(decide (k< -2^63)||decide (k≥2^63))=true by
  rw[mU]
  rintro (z|z)
  .have:=kj z;lia
  .have:=kj z;lia)]
 wp_walk using lB ho
 by_cases h1:k=1
 .subst h1
  rw[lF (show(its.toArray.isEmpty||(1:Int)==1)=true by simp)]
  wp_walk using lB ho
  exact⟨_,rfl,.ref a,H,I,rfl,q1 rfl⟩
 .have hemp:its.toArray.isEmpty=false:=by
   cases its with
   |nil=>rw[qT]at hl;lia
   |cons b bs=>rfl
  rw[lJ (show¬(its.toArray.isEmpty||k==1)=true by rw[hemp];simpa using h1)]
  wp_walk using lB ho
  have hmul:((its.toArray.size:Int)*k)=((xs.length*k.toNat:Nat):Int):=by
   rw[hsz,uA]
   congr 1
   lia
  rw[lJ (show¬(decide (k<=0)||its.toArray.isEmpty)=true by
   rw[hemp,Bool.or_false]
   intro z
   have:=kj z
   lia)]
  wp_walk
  rw[lJ (show¬((its.toArray.size:Int)*k>(2^63-1) / 8) by
   rw[hmul]
   have:(sizeLine:Nat)<=(2^63-1) / 8:=by decide
   lia)]
  wp_walk
  rw[lJ (show¬sA ((its.toArray.size:Int)*k)=true by
   unfold sA
   rw[hmul]
   intro z
   have:=kj z
   lia)]
  rw[TC]
  wp_walk
  have hlen:(ku k.toNat its).flatten.length<=sizeLine:=by rw[len_rep,pI,<-hl];exact hz
  rw[lJ (show¬((ku k.toNat its).flatten.toArray.size>sizeLine) by rw[kh];lia)]
  wp_walk
  refine⟨_,rfl,.ref _,_,I.laid (o:=.tup (ku k.toNat xs).flatten) (t':=s.toks) (λb ob q=>kK _ q) (kR _) ?_,rfl,q2 h1 _ (I.hok.fresh (kR _))⟩
  exact⟨by rw[len_rep,pI];exact hz,_,r.rep k.toNat,qM _ _⟩
mutual
noncomputable def D.py:D->PyData
 | .non=>.none| .bl b=>.bool b| .int i=>.int i| .str x=>.str x| .ty _=>.none
 | .tup ds=>.tuple (D.pys ds)| .lst ds=>.list (D.pys ds)| .dct _=>.none| .scr _=>.none| .ref _=>.none
noncomputable def D.pys:Wp D->Wp PyData
 | []=>[]
 |d::ds=>D.py d::D.pys ds
end
mutual
noncomputable def D.lay:D->lM
 | .non=>true| .bl _=>true| .int _=>true| .str x=>m7 x| .ty _=>false| .dct _=>false| .scr _=>false| .ref _=>false
 | .tup ds=>D.LM ds| .lst ds=>D.LM ds
noncomputable def D.LM:Wp D->lM
 | []=>true
 |d::ds=>D.lay d && D.LM ds
end
mutual
theorem IY:∀{d:D},d.lay=true->d.py.canLay0=true
 | .non,_=>rfl
 | .bl _,_=>rfl
 | .int _,_=>rfl
 | .str x,h=>h
 | .ty _,h=>m8 h
 | .dct _,h=>m8 h
 | .scr _,h=>m8 h
 | .ref _,h=>m8 h
 | .tup ds,h=>by show qk (D.pys ds)=true;exact Lv h
 | .lst ds,h=>by show qk (D.pys ds)=true;exact Lv h
theorem Lv:∀{ds:Wp D},D.LM ds=true->qk (D.pys ds)=true
 | [],_=>rfl
 |d::ds,h=>by
  have h':(D.lay d && D.LM ds)=true:=h
  rw[kn]at h'
  show(PyData.canLay0 d.py && qk (D.pys ds))=true
  rw[IY h'.1,Lv h'.2];rfl
end
section
variable{X:Cx}{pins:Wp (kQ×Obj)}{σ:Sg}{H:Hp}{s:kM}{M:Ms}
theorem Jx(I:Inv X pins σ H s){a:kQ}{xs:Wp V}(h:Rd H a (.lst xs)):∃its:Wp kL,Vals xs its/\∃o n,s.heap.get? a=Gc o/\o.cls=.type "list" /\o.data=.seq its.toArray n:=by
 obtain⟨z,its,n,r,e⟩:=h.ok I.hok
 exact⟨its,r,_,n,e,rfl,rfl⟩
theorem C1.reads(I:Inv X pins σ H s){v:V}{d:D}(h:C1 X.K M H v d):∀{u:kL},RelV v u->d.lay=true->∃as,Reads s.heap u d.py as:=
 C1.rec (motive_1:=λv d _=>∀{u:kL},RelV v u->d.lay=true->∃as,Reads s.heap u d.py as) (motive_2:=λvs ds _=>∀{us:Wp kL},Vals vs us->D.LM ds=true->∃as,ReadsAll s.heap us (D.pys ds) as) (motive_3:=λ_ _ _=>uL)
  (λr _=>by cases r;exact⟨_,.none⟩) (λb _ r _=>by cases r;exact⟨_,.bool b⟩) (λb _ r _=>by obtain⟨t,rfl⟩:=r;exact⟨_,.int b t⟩) (λb _ r _=>by obtain⟨t,rfl⟩:=r;exact⟨_,.str b t⟩) (λ_ _ _ h=>m8 h)
  (fun h _ ih _ r hl => by
    cases r
    obtain⟨its,rv,⟨o,e,hc,n,hd⟩,_⟩:=I.tuple h
    obtain⟨as,ra⟩:=ih rv hl
    exact⟨as,.tuple e hc hd ra⟩)
  (fun h _ _ ih _ r hl => by
    cases r
    obtain⟨its,rv,o,n,e,hc,hd⟩:=Jx I (.inl h)
    obtain⟨as,ra⟩:=ih rv hl
    exact⟨_,.list e hc hd ra⟩)
  (λ_ _ _ h=>m8 h) (λ_ _ _ _ _ _ h=>m8 h) (λ_ _ _ h=>m8 h)
  (fun r _ => by cases r; exact ⟨_, .nil⟩) (fun {v d vs ds} _ _ ih1 ih2 _ r hl => by
    cases r with
    |cons r1 r2=>
     have hl':(D.lay d && D.LM ds)=true:=hl
     rw[kn]at hl'
     obtain⟨as,ra⟩:=ih1 r1 hl'.1
     obtain⟨bs,rb⟩:=ih2 r2 hl'.2
     exact⟨_,.cons ra rb⟩) trivial (λ_ _ _ _=>trivial) h
theorem Al.reads(I:Inv X pins σ H s){vs:Wp V}{ds:Wp D}(h:Al X.K M H vs ds):∀{us:Wp kL},Vals vs us->D.LM ds=true->∃as,ReadsAll s.heap us (D.pys ds) as:=
 h.ind (P:=λvs ds=>∀{us:Wp kL},Vals vs us->D.LM ds=true->∃as,ReadsAll s.heap us (D.pys ds) as) (λr _=>by cases r;exact⟨_,.nil⟩) (λ{v d vs ds} h ih2 _ r hl=>by
  cases r with
  |cons r1 r2=>
   have hl':(D.lay d && D.LM ds)=true:=hl
   rw[kn]at hl'
   obtain⟨as,ra⟩:=h.reads I r1 hl'.1
   obtain⟨bs,rb⟩:=ih2 r2 hl'.2
   exact⟨_,.cons ra rb⟩)
end
noncomputable def deq(a b:D):lM:=PyData.eqv a.py b.py
noncomputable def Dm(a b:D):lM:=a.lay && b.lay && decide (min a.py.depth b.py.depth<=60)
noncomputable def wEq:Op2:=λa b=>if Dm (fz a) (fz b)=true then Gc (.val (.bl (deq (fz a) (fz b))))else none
noncomputable def wNe:Op2:=λa b=>if Dm (fz a) (fz b)=true then Gc (.val (.bl (!deq (fz a) (fz b))))else none
section
variable{X:Cx}
theorem Sh.reads{pins:Wp (kQ×Obj)}{σ:Sg}{H:Hp}{s:kM}{M:Ms}{v:V}{u:kL}{w:Wv}(h:Sh X.K M H v w)(I:Inv X pins σ H s)(r:RelV v u)(hl:(fz w).lay=true):∃as,Reads s.heap u (fz w).py as:=by
 cases w with
 |val d=>exact C1.reads I h r hl
 |own ds=>
  obtain⟨a,xs,rfl,h1,h2⟩:=h
  cases r
  obtain⟨its,rv,o,n,e,hc,hd⟩:=Jx I (.inl h1)
  obtain⟨as,ra⟩:=Al.reads I h2 rv hl
  exact⟨_,.list e hc hd ra⟩
theorem Bz(hu:X.A.units+100<cLine):OpR X (compareOp .Eq) (rOp X.K wEq):=by
 intro pins s σ H x y v u Q I rx ry h
 obtain⟨M,w1,w2,r,e,mo,s1,s2,q⟩:=h
 unfold wEq at e
 split at e
 .rename_i hk
  unfold Dm at hk
  rw[kn,kn]at hk
  cases e
  obtain⟨as,ra⟩:=s1.reads I rx hk.1.1
  obtain⟨bs,rb⟩:=s2.reads I ry hk.1.2
  have hd:=kj hk.2
  exact SeqAt.compareEq_reads ra rb (IY hk.1.1) (IY hk.1.2) (by omega) ⟨.bl _,H,I,rfl,q _ _ (.same mo (.bl _))⟩
 .cases e
theorem Fc(hu:X.A.units+100<cLine):OpR X (compareOp .NotEq) (rOp X.K wNe):=by
 intro pins s σ H x y v u Q I rx ry h
 obtain⟨M,w1,w2,r,e,mo,s1,s2,q⟩:=h
 unfold wNe at e
 split at e
 .rename_i hk
  unfold Dm at hk
  rw[kn,kn]at hk
  cases e
  obtain⟨as,ra⟩:=s1.reads I rx hk.1.1
  obtain⟨bs,rb⟩:=s2.reads I ry hk.1.2
  have hd:=kj hk.2
  exact SeqAt.compareNe_reads ra rb (IY hk.1.1) (IY hk.1.2) (by omega) ⟨.bl _,H,I,rfl,q _ _ (.same mo (.bl _))⟩
 .cases e
noncomputable def wI2(f:Int->Int->kN D):Op2
 | .val (.int i),.val (.int j)=>(f i j).map .val
 |_,_=>none
theorem PK{g:kL->kL->Sem kL}{C:Int->Int->Prop}{h:Int->Int->V}{f:Int->Int->kN D}(o:OpR X g (rI C h))(hf:∀i j d,f i j=Gc d->C i j/\∀K M H,C1 K M H (h i j) d):OpR X g (rOp X.K (wI2 f)):=by
 intro pins s σ H x y v u Q I rx ry hh
 obtain⟨M,w1,w2,r,e,mo,s1,s2,q⟩:=hh
 unfold wI2 at e
 split at e
 .cases s1
  cases s2
  rename_i i j
  cases e1:f i j with
  |none=>rw[e1]at e;cases e
  |some d=>
   rw[e1]at e
   cases e
   obtain⟨c,rd⟩:=hf i j d e1
   exact o pins s σ H _ _ v u Q I rx ry ⟨i,j,rfl,rfl,c,q _ _ (.same mo (rd _ _ _))⟩
 .cases e
theorem Lx{g:kL->kL->Sem kL}{h:Int->Int->V}{f:Int->Int->kN D}(o:OpR X g (rI0 h))(hf:∀i j d,f i j=Gc d->∀K M H,C1 K M H (h i j) d):OpR X g (rOp X.K (wI2 f)):=by
 intro pins s σ H x y v u Q I rx ry hh
 obtain⟨M,w1,w2,r,e,mo,s1,s2,q⟩:=hh
 unfold wI2 at e
 split at e
 .cases s1
  cases s2
  rename_i i j
  cases e1:f i j with
  |none=>rw[e1]at e;cases e
  |some d=>
   rw[e1]at e
   cases e
   exact o pins s σ H _ _ v u Q I rx ry ⟨i,j,rfl,rfl,q _ _ (.same mo (hf i j d e1 _ _ _))⟩
 .cases e
noncomputable def Oh:Op2:=wI2 λi j=>Gc (.int (i-j))
noncomputable def Xb:Nat:=2^60000
noncomputable def Gx:Nat:=2^8000
noncomputable def EJ(i j:Int):lM:=decide (i.natAbs<2^64)||(decide (j.natAbs<2^64)||(decide (i.natAbs<Xb) && decide (j.natAbs<Xb)))
theorem X4:OpR X (binaryOp .Mult) (rI (λi j=>EJ i j=true) λi j=>.int (i*j)):=by
 intro pins s σ H x y v u Q I rx ry h
 obtain⟨i,j,rfl,rfl,hk,q⟩:=h
 unfold EJ at hk
 rw[mU,mU,kn]at hk
 rcases hk with hk|hk|hk
 .have:=kj hk
  exact Wb pins s σ H _ _ v u Q I rx ry ⟨i,j,rfl,rfl,.inl ⟨by omega,by omega⟩,q⟩
 .have:=kj hk
  exact Wb pins s σ H _ _ v u Q I rx ry ⟨i,j,rfl,rfl,.inr ⟨by omega,by omega⟩,q⟩
 .have h1:i.natAbs<2^60000:=kj hk.1
  have h2:j.natAbs<2^60000:=kj hk.2
  obtain⟨t1,rfl⟩:=rx
  obtain⟨t2,rfl⟩:=ry
  exact xg ⟨.int _,H,I.tok _,⟨_,rfl⟩,q⟩ (xO (m:=60000) (n:=60000) (uW.mpr h1) (uW.mpr h2) (by decide))
noncomputable def aZ:Op2:=wI2 λi j=>if EJ i j=true then Gc (.int (i*j))else none
noncomputable def Od:Op2:=wI2 λi j=>if(decide (0<j) && decide (j.natAbs<Gx))=true then Gc (.int (i / j))else none
noncomputable def OM:Op2:=wI2 λi j=>if 0<j then Gc (.int (i % j))else none
noncomputable def dP:Op2:=wI2 λi j=>if(decide (0<=j) && decide (j<=1000) && decide (i.natAbs<2^64))=true then Gc (.int (i^j.toNat))else none
noncomputable def wLt:Op2:=wI2 λi j=>Gc (.bl (decide (i<j)))
noncomputable def wGt:Op2:=wI2 λi j=>Gc (.bl (decide (j<i)))
noncomputable def wGe:Op2:=wI2 λi j=>Gc (.bl (decide (j<=i)))
theorem GI:OpR X (binaryOp .Sub) (rOp X.K Oh):=Lx a0 λi j d e K M H=>by cases e;exact .int _
theorem Yf:OpR X (binaryOp .Mult) (rOp X.K aZ):=PK X4 λi j d e=>by
 split at e
 .rename_i hk
  cases e
  exact⟨hk,λ_ _ _=>.int _⟩
 .cases e
theorem Ht:OpR X (binaryOp .FloorDiv) (rOp X.K Od):=PK St.UT λi j d e=>by
 split at e
 .rename_i hk
  rw[kn]at hk
  cases e
  exact⟨⟨kj hk.1,kj hk.2⟩,λ_ _ _=>.int _⟩
 .cases e
theorem FY:OpR X (binaryOp .Mod) (rOp X.K OM):=PK Zv λi j d e=>by
 split at e
 .rename_i hk
  cases e
  exact⟨hk,λ_ _ _=>.int _⟩
 .cases e
theorem RS:OpR X (binaryOp .Pow) (rOp X.K dP):=PK aI λi j d e=>by
 split at e
 .rename_i hk
  rw[kn,kn]at hk
  cases e
  have:=kj hk.1.2
  exact⟨⟨kj hk.1.1,by omega,kj hk.2⟩,λ_ _ _=>.int _⟩
 .cases e
theorem Lf:OpR X (compareOp .Lt) (rOp X.K wLt):=Lx eF λi j d e K M H=>by cases e;exact .bl _
theorem Kf:OpR X (compareOp .Gt) (rOp X.K wGt):=Lx fg λi j d e K M H=>by cases e;exact .bl _
theorem XF:OpR X (compareOp .GtE) (rOp X.K wGe):=Lx gI λi j d e K M H=>by cases e;exact .bl _
noncomputable def asL:Wv->kN (Wp D)
 | .own ds=>Gc ds
 | .val (.lst ds)=>Gc ds
 |_=>none
noncomputable def asT:Wv->kN (Wp D)
 | .val (.tup ds)=>Gc ds
 |_=>none
noncomputable def asC:Wv->kN (Wp D)
 | .val (.scr ns)=>Gc (ns.map .int)
 |_=>none
noncomputable def asS(w:Wv):kN (Wp D):=(asL w).or ((asT w).or (asC w))
section
variable{K:kJ}{M:Ms}{H:Hp}{v:V}{w:Wv}{ds:Wp D}
theorem Sh.l(h:Sh K M H v w)(e:asL w=Gc ds):∃a xs,v=.ref a/\H a=Gc (.lst xs)/\Al K M H xs ds:=by
 cases w with
 |own es=>cases e;obtain⟨a,xs,rfl,h1,h2⟩:=h;exact⟨a,xs,rfl,h1,h2⟩
 |val d=>
  cases d<;>first|(cases e;done)|skip
  cases e
  cases h with
  |lst h n r=>exact⟨_,_,rfl,h,r⟩
theorem Sh.t(h:Sh K M H v w)(e:asT w=Gc ds):∃a xs,v=.ref a/\SqT K H a xs/\Al K M H xs ds:=by
 cases w with
 |own es=>cases e
 |val d=>
  cases d<;>first|(cases e;done)|skip
  cases e
  cases h with
  |tup h r=>exact⟨_,_,rfl,h,r⟩
theorem Hz:∀{ns:Wp Int},Al K M H (ns.map V.int) (ns.map D.int)
 | []=>.nil
 |n::ns=>.cons (.int n) Hz
theorem Sh.c(h:Sh K M H v w)(e:asC w=Gc ds):∃a xs,v=.ref a/\SqL K H a xs/\Al K M H xs ds:=by
 cases w with
 |own es=>cases e
 |val d=>
  cases d<;>first|(cases e;done)|skip
  cases e
  cases h with
  |scr h=>
   refine⟨_,_,rfl,?_,Hz⟩
   rcases h with h|h
   .exact .inl h.1
   .exact .inr h
theorem Sh.s(h:Sh K M H v w)(e:asS w=Gc ds):∃a xs,v=.ref a/\(SqL K H a xs\/SqT K H a xs)/\Al K M H xs ds:=by
 unfold asS at e
 cases e1:asL w with
 |some es=>
  rw[e1]at e
  cases e
  obtain⟨a,xs,h1,h2,h3⟩:=h.l e1
  exact⟨a,xs,h1,.inl (.of h2),h3⟩
 |none=>
  rw[e1]at e
  cases e2:asT w with
  |some es=>
   rw[e2]at e
   cases e
   obtain⟨a,xs,h1,h2,h3⟩:=h.t e2
   exact⟨a,xs,h1,.inr h2,h3⟩
  |none=>
   rw[e2]at e
   obtain⟨a,xs,h1,h2,h3⟩:=h.c e
   exact⟨a,xs,h1,.inl h2,h3⟩
end
noncomputable def HK:Op1:=λw=>match w with
 | .val (.str z)=>if z.length<=sizeLine then Gc (.val (.int z.length))else none
 |_=>(asS w).map λds=>.val (.int ds.length)
theorem Bq:DQ X (.builtin "len") (rN X.K (o1 HK)):=by
 intro pins s σ H xs us Q I r h
 obtain⟨M,ws,w,e,mo,sh,q⟩:=h
 cases sh with
 |nil=>cases e
 |cons h1 t=>
  cases t with
  |cons h2 t=>cases e
  |nil=>
   rename_i v w1
   have e':HK w1=Gc w:=e
   unfold HK at e'
   split at e'
   .split at e'
    .rename_i z hz
     cases e'
     cases h1
     exact Nm pins s σ H _ us Q I r ⟨z,rfl,hz,q _ _ (.same mo (.int _))⟩
    .cases e'
   .cases e1:asS w1 with
    |none=>rw[e1]at e';cases e'
    |some ds=>
     rw[e1]at e'
     cases e'
     obtain⟨a,ys,rfl,h3,h4⟩:=h1.s e1
     refine N2 pins s σ H _ us Q I r ⟨a,ys,rfl,h3,q _ _ ?_⟩
     rw[h4.length]
     exact .same mo (.int _)
noncomputable def wIx:Op2:=λa b=>match a,b with
 |a,.val (.int i)=>(asS a).bind λds=>(atI ds i).map .val
 |_,_=>none
theorem Xn{K:kJ}{M:Ms}{H:Hp}{xs:Wp V}{ds:Wp D}{i:Int}{d:D}(h:Al K M H xs ds)(e:atI ds i=Gc d):∃x,atI xs i=Gc x/\C1 K M H x d:=by
 unfold atI at e⊢
 rw[h.length]
 cases e1:ixN ds.length i with
 |none=>rw[e1]at e;cases e
 |some j=>
  rw[e1]at e
  exact h.get e
theorem Aa:IxR X (rOp X.K wIx):=by
 intro value slice pins s σ H x y v u Q I rx ry h hs
 obtain⟨M,w1,w2,r,e,mo,s1,s2,q⟩:=h
 unfold wIx at e
 split at e
 .rename_i i
  cases e1:asS w1 with
  |none=>rw[e1]at e;cases e
  |some ds=>
   rw[e1]at e
   simp only[pB]at e
   cases e2:atI ds i with
   |none=>rw[e2]at e;cases e
   |some d=>
    rw[e2]at e
    cases e
    cases s2
    obtain⟨a,ys,rfl,h3,h4⟩:=s1.s e1
    obtain⟨z,h5,h6⟩:=Xn h4 e2
    rcases h3 with h3|h3
    .exact Y6 value slice pins s σ H _ _ v u Q I rx ry ⟨a,ys,i,z,rfl,rfl,h3,h5,q _ _ (.same mo h6)⟩ hs
    .exact Zp value slice pins s σ H _ _ v u Q I rx ry ⟨a,ys,i,z,rfl,rfl,h3,h5,q _ _ (.same mo h6)⟩ hs
 .cases e
end
section
variable{X:Cx}
noncomputable def Bv:Op2:=λa b=>match a,b with
 | .val (.int i),.val (.int j)=>Gc (.val (.int (i+j)))
 | .val (.str x),.val (.str y)=>if x.length+y.length<=sizeLine then Gc (.val (.str (x++y)))else none
 | .val (.tup xs),.val (.tup ys)=>if xs.length+ys.length<=sizeLine then Gc (.val (.tup (xs++ys)))else none
 |a,b=>(asL a).bind λxs=>(asL b).bind λys=>if xs.length+ys.length<=sizeLine then Gc (.own (xs++ys))else none
theorem AV:OpR X (binaryOp .Add) (rOp X.K Bv):=by
 intro pins s σ H x y v u Q I rx ry h
 obtain⟨M,w1,w2,r,e,mo,s1,s2,q⟩:=h
 unfold Bv at e
 split at e
 .cases e
  cases s1;cases s2
  exact Z4 pins s σ H _ _ v u Q I rx ry ⟨_,_,rfl,rfl,q _ _ (.same mo (.int _))⟩
 .split at e
  .cases e
   cases s1;cases s2
   exact QB pins s σ H _ _ v u Q I rx ry ⟨_,_,rfl,rfl,by assumption,q _ _ (.same mo (.str _))⟩
  .cases e
 .split at e
  .rename_i xs ys hz
   cases e
   cases s1 with
   |tup h1 r1=>
    cases s2 with
    |tup h2 r2=>
     rename_i a xs' b ys'
     have l1:=r1.length
     have l2:=r2.length
     by_cases hx:xs'=[]
     .subst hx
      cases r1
      refine St.Xm pins s σ H _ _ v u Q I rx ry ⟨_,_,_,rfl,rfl,h1,h2,q _ _ (.same mo ?_)⟩
      exact .tup h2 r2
     .refine YZ pins s σ H _ _ v u Q I rx ry ⟨_,_,_,_,rfl,rfl,h1,h2,hx,by lia,λz=>?_,λ_ p hp=>q _ _ (.tup mo hp (r1.append r2))⟩
      subst z
      cases r2
      rw[oO]at q
      exact q _ _ (.same mo (.tup h1 r1))
  .cases e
 .cases e1:asL w1 with
  |none=>rw[e1]at e;cases e
  |some xs=>
   rw[e1]at e
   cases e2:asL w2 with
   |none=>rw[e2]at e;cases e
   |some ys=>
    rw[e2]at e
    simp only[pB]at e
    split at e
    .rename_i hz
     cases e
     obtain⟨a,xs',rfl,h1,r1⟩:=s1.l e1
     obtain⟨b,ys',rfl,h2,r2⟩:=s2.l e2
     have l1:=r1.length
     have l2:=r2.length
     exact bQ pins s σ H _ _ v u Q I rx ry ⟨a,b,xs',ys',rfl,rfl,h1,h2,by lia,λp hp=>q _ _ (.lst mo hp (r1.append r2))⟩
    .cases e
noncomputable def cG:Op2:=λa b=>match a,b with
 | .val (.int i),.val (.int j)=>if EJ i j=true then Gc (.val (.int (i*j)))else none
 | .val (.tup xs),.val (.int k)=>if(!xs.isEmpty && decide (1<=k) && decide (xs.length*k.toNat<=sizeLine))=true then Gc (.val (.tup (ku k.toNat xs).flatten))else none
 |a,.val (.int k)=>(asL a).bind λxs=>if(decide (k<2^63) && decide (-(2^63)<=k) && decide (xs.length*k.toNat<=sizeLine))=true then Gc (.own (ku k.toNat xs).flatten)else none
 |_,_=>none
theorem Al.rep{K:kJ}{M:Ms}{H:Hp}{xs:Wp V}{ds:Wp D}(h:Al K M H xs ds):∀n:Nat,Al K M H (ku n xs).flatten (ku n ds).flatten
 |0=>.nil
 |n+1=>by
  rw[mM,mM,oS,oS]
  exact h.append (Al.rep h n)
theorem So:OpR X (binaryOp .Mult) (rOp X.K cG):=by
 intro pins s σ H x y v u Q I rx ry h
 obtain⟨M,w1,w2,r,e,mo,s1,s2,q⟩:=h
 unfold cG at e
 split at e
 .rename_i i j
  refine Yf pins s σ H x y v u Q I rx ry ⟨M,_,_,r,?_,mo,s1,s2,q⟩
  unfold aZ wI2
  show vG Wv.val (if EJ i j=true then Gc (D.int (i*j))else none)=Gc r
  split at e
  .rename_i hk
   rw[lF hk]
   exact e
  .cases e
 .rename_i xs k
  split at e
  .rename_i hk
   rw[kn,kn]at hk
   cases e
   cases s2
   cases s1 with
   | @tup a ys _ h1 r1=>
     have l1:=r1.length
     have z:=kj hk.2
     have hk1:=kj hk.1.2
     have hne:ys≠[]:=λzz=>by
      subst zz
      cases r1
      exact absurd hk.1.1 (by decide)
     refine X1 pins s σ H _ _ v u Q I rx ry ⟨a,ys,k,rfl,rfl,h1,hne,hk1,by rw[l1];exact z,λe1=>?_,λ_ p hp=>q _ _ (.tup mo hp (r1.rep _))⟩
     subst e1
     have:(ku (1:Int).toNat xs).flatten=xs:=by simp
     rw[this]at q
     exact q _ _ (.same mo (.tup h1 r1))
  .cases e
 .rename_i k hn hn2
  cases e1:asL w1 with
  |none=>rw[e1]at e;cases e
  |some xs=>
   rw[e1]at e
   simp only[pB]at e
   split at e
   .rename_i hk
    rw[kn,kn]at hk
    cases e
    cases s2
    obtain⟨a,xs',rfl,h1,r1⟩:=s1.l e1
    have l1:=r1.length
    have z:=kj hk.2
    exact bu pins s σ H _ _ v u Q I rx ry ⟨a,k,xs',rfl,rfl,h1,kj hk.1.2,kj hk.1.1,by rw[l1];exact z,λp hp=>q _ _ (.lst mo hp (r1.rep _))⟩
   .cases e
 .cases e
noncomputable def ZN:Op1
 | .val (.int i)=>Gc (.val (.int (-i)))
 |_=>none
theorem O0:UnR X (unaryOp .USub) (rUn X.K ZN):=by
 intro pins s σ H x v Q I rx h
 obtain⟨M,w,r,e,mo,s1,q⟩:=h
 unfold ZN at e
 split at e
 .cases e
  cases s1
  exact br pins s σ H _ v Q I rx ⟨_,rfl,q _ _ (.same mo (.int _))⟩
 .cases e
noncomputable def HP:D->lM
 | .non=>true| .bl _=>true| .int _=>true| .str _=>true
 |_=>false
theorem Sh.flat{K:kJ}{M:Ms}{H:Hp}{v:V}{w:Wv}(h:Sh K M H v w)(f:HP (fz w)=true):C1 K M H v (fz w):=by
 cases w with
 |val d=>exact h
 |own ds=>cases f
noncomputable def inD(x:D)(xs:Wp D):lM:=xs.any λy=>deq y x
theorem Pr{K:kJ}{M:Ms}{H:Hp}{v:V}{d:D}(h:C1 K M H v d)(f:HP d=true):K0 v=true:=by
 cases h<;>first|rfl|cases f
theorem X5{K:kJ}{M:Ms}{H:Hp}{v u:V}{d e:D}(h:C1 K M H v d)(g:C1 K M H u e)(f:HP d=true)(f':HP e=true):eqV v u=deq d e:=by
 cases h<;>first|(cases f;done)|skip
 all_goals (cases g<;>first|(cases f';done)|rfl)
theorem OD{K:kJ}{M:Ms}{H:Hp}:∀{vs:Wp V} {ds:Wp D},Al K M H vs ds->ds.all HP=true->vs.all K0=true
 |_,_,.nil,_=>rfl
 |_,_,.cons h t,f=>by
  rw[pV,kn]at f⊢
  exact⟨Pr h f.1,OD t f.2⟩
theorem RT{K:kJ}{M:Ms}{H:Hp}{u:V}{e:D}(g:C1 K M H u e)(f':HP e=true):∀{vs:Wp V} {ds:Wp D},Al K M H vs ds->ds.all HP=true->inV u vs=inD e ds
 |_,_,.nil,_=>rfl
 |_,_,.cons h t,f=>by
  rw[pV,kn]at f
  have ih:=RT g f' t f.2
  unfold inV inD at ih⊢
  rw[nP,nP,ih,X5 h g f.1 f']
noncomputable def wIn(neg:lM):Op2:=λa b=>(asS b).bind λds=>if(HP (fz a) && ds.all HP)=true then Gc (.val (.bl (if neg then !inD (fz a) ds else inD (fz a) ds)))else none
theorem XO{M:Ms}{H:Hp}{x y:V}{w1 w2 r:Wv}{neg:lM}{Q:VK}(e:wIn neg w1 w2=Gc r)(mo:MOk M H)(s1:Sh X.K M H x w1)(s2:Sh X.K M H y w2)(q:∀v H',Nw X.K M H H' v r->Q v H'):rIn X.K neg x y H Q:=by
 unfold wIn at e
 cases e1:asS w2 with
 |none=>rw[e1]at e;cases e
 |some ds=>
  rw[e1]at e
  simp only[pB]at e
  split at e
  .rename_i hk
   rw[kn]at hk
   cases e
   obtain⟨a,xs,rfl,h3,h4⟩:=s2.s e1
   have g1:=s1.flat hk.1
   refine⟨a,xs,rfl,h3,Pr g1 hk.1,OD h4 hk.2,?_⟩
   rw[RT g1 hk.1 h4 hk.2]
   exact q _ _ (.same mo (.bl _))
  .cases e
theorem Py:OpR X (compareOp .In) (rOp X.K (wIn false)):=by
 intro pins s σ H x y v u Q I rx ry h
 obtain⟨M,w1,w2,r,e,mo,s1,s2,q⟩:=h
 exact RL pins s σ H _ _ v u Q I rx ry (XO e mo s1 s2 q)
theorem Jy:OpR X (compareOp .NotIn) (rOp X.K (wIn true)):=by
 intro pins s σ H x y v u Q I rx ry h
 obtain⟨M,w1,w2,r,e,mo,s1,s2,q⟩:=h
 exact Ng pins s σ H _ _ v u Q I rx ry (XO e mo s1 s2 q)
noncomputable def isN:Wv->lM
 | .val .non=>true
 |_=>false
noncomputable def OO(neg:lM):Op2:=λa b=>match b with
 | .val .non=>Gc (.val (.bl (if neg then !isN a else isN a)))
 |_=>none
theorem SM{K:kJ}{M:Ms}{H:Hp}{x:V}{w:Wv}(s:Sh K M H x w):decide (x=.non)=isN w:=by
 cases w with
 |own ds=>obtain⟨a,xs,rfl,_⟩:=s;rfl
 |val d=>cases s<;>rfl
theorem L6:OpR X (compareOp .Is) (rOp X.K (OO false)):=by
 intro pins s σ H x y v u Q I rx ry h
 obtain⟨M,w1,w2,r,e,mo,s1,s2,q⟩:=h
 unfold OO at e
 split at e
 .cases e
  cases s2
  refine aK pins s σ H _ _ v u Q I rx ry ⟨rfl,?_⟩
  rw[SM s1]
  exact q _ _ (.same mo (.bl _))
 .cases e
theorem MS:OpR X (compareOp .IsNot) (rOp X.K (OO true)):=by
 intro pins s σ H x y v u Q I rx ry h
 obtain⟨M,w1,w2,r,e,mo,s1,s2,q⟩:=h
 unfold OO at e
 split at e
 .cases e
  cases s2
  refine Y8 pins s σ H _ _ v u Q I rx ry ⟨rfl,?_⟩
  rw[SM s1]
  exact q _ _ (.same mo (.bl _))
 .cases e
theorem GH{K:kJ}{M:Ms}{H:Hp}{xs:Wp V}{ws:Wp Wv}{f:Op1}{r:Wv}(h:Shs K M H xs ws)(e:o1 f ws=Gc r):∃v w,xs=[v]/\ws=[w]/\Sh K M H v w/\f w=Gc r:=by
 cases h with
 |nil=>cases e
 |cons h1 t=>
  cases t with
  |cons h2 t=>cases e
  |nil=>exact⟨_,_,rfl,rfl,h1,e⟩
theorem Oc{K:kJ}{M:Ms}{H:Hp}{xs:Wp V}{ws:Wp Wv}{f:Op2}{r:Wv}(h:Shs K M H xs ws)(e:o2 f ws=Gc r):∃v w v' w',xs=[v,v']/\ws=[w,w']/\Sh K M H v w/\Sh K M H v' w'/\f w w'=Gc r:=by
 cases h with
 |nil=>cases e
 |cons h1 t=>
  cases t with
  |nil=>cases e
  |cons h2 t=>
   cases t with
   |cons h3 t=>cases e
   |nil=>exact⟨_,_,_,_,rfl,rfl,h1,h2,e⟩
noncomputable def cE:Op1
 | .val (.int i)=>Gc (.val (.int (if i<0 then-i else i)))
 |_=>none
theorem RE:DQ X (.builtin "abs") (rN X.K (o1 cE)):=by
 intro pins s σ H xs us Q I r h
 obtain⟨M,ws,w,e,mo,sh,q⟩:=h
 obtain⟨v,w1,rfl,rfl,s1,e1⟩:=GH sh e
 unfold cE at e1
 split at e1
 .cases e1
  cases s1
  exact VL pins s σ H _ us Q I r ⟨_,rfl,q _ _ (.same mo (.int _))⟩
 .cases e1
noncomputable def cb:Op2:=wI2 λi j=>Gc (.int (if j>i then j else i))
noncomputable def Wr:Op2:=wI2 λi j=>Gc (.int (if j<i then j else i))
theorem PD{f:Int->Int->kN D}{a b r:Wv}(e:wI2 f a b=Gc r):∃i j d,a=.val (.int i)/\b=.val (.int j)/\f i j=Gc d/\r=.val d:=by
 unfold wI2 at e
 split at e
 .rename_i i j
  cases e1:f i j with
  |none=>rw[e1]at e;cases e
  |some d=>rw[e1]at e;cases e;exact⟨i,j,d,rfl,rfl,e1,rfl⟩
 .cases e
theorem TF(hc:X.calm=true):DQ X (.builtin "max") (rN X.K (o2 cb)):=by
 intro pins s σ H xs us Q I r h
 obtain⟨M,ws,w,e,mo,sh,q⟩:=h
 obtain⟨v,w1,v',w2,rfl,rfl,s1,s2,e1⟩:=Oc sh e
 obtain⟨i,j,d,rfl,rfl,e2,rfl⟩:=PD e1
 cases e2;cases s1;cases s2
 exact RM hc pins s σ H _ us Q I r ⟨_,_,rfl,q _ _ (.same mo (.int _))⟩
theorem KA(hc:X.calm=true):DQ X (.builtin "min") (rN X.K (o2 Wr)):=by
 intro pins s σ H xs us Q I r h
 obtain⟨M,ws,w,e,mo,sh,q⟩:=h
 obtain⟨v,w1,v',w2,rfl,rfl,s1,s2,e1⟩:=Oc sh e
 obtain⟨i,j,d,rfl,rfl,e2,rfl⟩:=PD e1
 cases e2;cases s1;cases s2
 exact Q8 hc pins s σ H _ us Q I r ⟨_,_,rfl,q _ _ (.same mo (.int _))⟩
noncomputable def FT:Op1:=λw=>(asS w).map λds=>.val (.tup ds)
theorem Bs:DQ X (.type "tuple") (rN X.K (o1 FT)):=by
 intro pins s σ H xs us Q I r h
 obtain⟨M,ws,w,e,mo,sh,q⟩:=h
 obtain⟨v,w1,rfl,rfl,s1,e1⟩:=GH sh e
 unfold FT at e1
 cases e2:asS w1 with
 |none=>rw[e2]at e1;cases e1
 |some ds=>
  rw[e2]at e1
  cases e1
  obtain⟨a,ys,rfl,h3,h4⟩:=s1.s e2
  refine MB pins s σ H _ us Q I r ⟨a,ys,rfl,?_⟩
  rcases h3 with h3|h3
  .exact .inl ⟨h3,λl hl=>q _ _ (.tup mo hl h4)⟩
  .exact .inr ⟨h3,q _ _ (.same mo (.tup h3 h4))⟩
noncomputable def OZ:Op1:=λw=>(asS w).map λds=>.own ds
theorem Lh:DQ X (.type "list") (rN X.K (o1 OZ)):=by
 intro pins s σ H xs us Q I r h
 obtain⟨M,ws,w,e,mo,sh,q⟩:=h
 obtain⟨v,w1,rfl,rfl,s1,e1⟩:=GH sh e
 unfold OZ at e1
 cases e2:asS w1 with
 |none=>rw[e2]at e1;cases e1
 |some ds=>
  rw[e2]at e1
  cases e1
  obtain⟨a,ys,rfl,h3,h4⟩:=s1.s e2
  exact OJ pins s σ H _ us Q I r ⟨a,ys,rfl,h3,λl hl=>q _ _ (.lst mo hl h4)⟩
noncomputable def Xl:Op1
 | .val (.int i)=>Gc (.val (.int i))
 | .val (.bl b)=>Gc (.val (.int (if b then 1 else 0)))
 |_=>none
theorem KU:DQ X (.type "int") (rN X.K (o1 Xl)):=by
 intro pins s σ H xs us Q I r h
 obtain⟨M,ws,w,e,mo,sh,q⟩:=h
 obtain⟨v,w1,rfl,rfl,s1,e1⟩:=GH sh e
 unfold Xl at e1
 split at e1
 .cases e1;cases s1
  exact N5 pins s σ H _ us Q I r (.inl ⟨_,rfl,q _ _ (.same mo (.int _))⟩)
 .cases e1;cases s1
  exact N5 pins s σ H _ us Q I r (.inr ⟨_,rfl,q _ _ (.same mo (.int _))⟩)
 .cases e1
noncomputable def blD:D->kN lM
 | .bl b=>Gc b
 |_=>none
noncomputable def bls(ds:Wp D):kN (Wp lM):=ds.mapM blD
theorem Ox{K:kJ}{M:Ms}{H:Hp}:∀{vs:Wp V} {ds:Wp D} {bs:Wp lM},Al K M H vs ds->bls ds=Gc bs->vs=bs.map V.bl
 |_,_,bs,.nil,e=>by cases e;rfl
 |_,_,bs,.cons (d:=d) (ds:=ds) h t,e=>by
  unfold bls at e
  rw[sC]at e
  cases e1:blD d with
  |none=>rw[e1]at e;cases e
  |some b=>
   rw[e1]at e
   cases e2:ds.mapM blD with
   |none=>rw[e2]at e;cases e
   |some cs=>
    rw[e2]at e
    cases e
    have hd:d=.bl b:=by
     cases d<;>first|(cases e1;done)|skip
     cases e1;rfl
    subst hd
    cases h
    rw[kq,<-Ox t e2]
noncomputable def dE:Op1:=λw=>(asL w).bind λds=>(bls ds).map λbs=>.val (.bl (bs.all id))
theorem Rf(hc:X.calm=true):DQ X (.builtin "all") (rN X.K (o1 dE)):=by
 intro pins s σ H xs us Q I r h
 obtain⟨M,ws,w,e,mo,sh,q⟩:=h
 obtain⟨v,w1,rfl,rfl,s1,e1⟩:=GH sh e
 unfold dE at e1
 cases e2:asL w1 with
 |none=>rw[e2]at e1;cases e1
 |some ds=>
  rw[e2]at e1
  simp only[pB]at e1
  cases e3:bls ds with
  |none=>rw[e3]at e1;cases e1
  |some bs=>
   rw[e3]at e1
   cases e1
   obtain⟨a,ys,rfl,h3,h4⟩:=s1.l e2
   exact St.Qr hc pins s σ H _ us Q I r ⟨a,bs,rfl,by rw[<-Ox h4 e3];exact .of h3,q _ _ (.same mo (.bl _))⟩
noncomputable def kdW:Wv->kN St.Kd
 | .own _=>Gc .lst
 | .val .non=>Gc .non| .val (.bl _)=>Gc .bl| .val (.int _)=>Gc .int| .val (.str _)=>Gc .str| .val (.lst _)=>Gc .lst| .val (.dct _)=>Gc .dct| .val (.tup _)=>Gc .tup
 | .val (.ty _)=>none| .val (.scr _)=>none| .val (.ref _)=>none
end
section
variable{X:Cx}
theorem Vk{K:kJ}(k:St.Kd):oC K (.type k.ty) (.type "list")=Gc (k.isA "list"):=by
 cases k<;>rfl
noncomputable def N3(T:oY):lM:=T== "int" ||T== "bool" ||T== "tuple" ||T== "str" ||T== "list"
theorem Zq{K:kJ}{T:oY}(h:N3 T=true)(k:St.Kd):oC K (.type k.ty) (.type T)=Gc (k.isA T):=by
 unfold N3 at h
 simp only[mU,vE]at h
 rcases h with(((rfl|rfl)|rfl)|rfl)|rfl
 .exact St.Ya k
 .exact St.VX k
 .exact St.kit_tuple k
 .exact St.YJ k
 .exact Vk k
noncomputable def WX:Op2:=λa t=>match t with
 | .val (.ty T)=>if N3 T=true then(kdW a).map λk=>.val (.bl (k.isA T))else none
 |_=>none
theorem Fd:DQ X (.builtin "isinstance") (rN X.K (o2 WX)):=by
 intro pins s σ H xs us Q I r h
 obtain⟨M,ws,w,e,mo,sh,q⟩:=h
 obtain⟨v,w1,v',w2,rfl,rfl,s1,s2,e1⟩:=Oc sh e
 unfold WX at e1
 split at e1
 .rename_i T
  split at e1
  .rename_i hT
   cases e2:kdW w1 with
   |none=>rw[e2]at e1;cases e1
   |some k=>
    rw[e2]at e1
    cases e1
    cases s2
    obtain⟨u1,u2,rfl,r1,r2⟩:=r.two
    cases (show u2=qV T from r2)
    have fin:∀tk,EP X pins σ Q (.bool (k.isA T)) {s with toks:=tk}:=λtk=>⟨.bl _,H,I.tok tk,rfl,q _ _ (.same mo (.bl _))⟩
    have kk:=Zq (K:=X.K) hT k
    cases w1 with
    |own ds=>
     cases e2
     obtain⟨a,ys,rfl,h1,_⟩:=s1
     exact E7 I r1 (.lst h1) kk fin
    |val d=>
     have s1':C1 X.K M H v d:=s1
     cases s1' with
     |non=>cases e2;exact E7 I r1 .non kk fin
     |bl b=>cases e2;exact E7 I r1 (.bl b) kk fin
     |int b=>cases e2;exact E7 I r1 (.int b) kk fin
     |str b=>cases e2;exact E7 I r1 (.str b) kk fin
     |ty b=>cases e2
     |scr h=>cases e2
     |lst h n rr=>cases e2;exact E7 I r1 (.lst h) kk fin
     |dct h n rr=>cases e2;exact E7 I r1 (.dK h) kk fin
     |ref h=>cases e2
     |tup h rr=>
      cases e2
      rename_i a ys ds
      cases (show u1=mF a from r1)
      obtain⟨its,_,⟨o,h1,h2,_⟩,_⟩:=I.tuple h
      exact mT vB I.kIn ⟨o,h1,h2⟩ kk (λz=>nomatch z) fin
  .cases e1
 .cases e1
noncomputable def Be(fs:Wp Ev):Ev:=λE S=>(evs fs E S).bind λr=>if r.1.length<=sizeLine then Gc (.tup r.1,r.2)else none
noncomputable def VQ(c:lM)(fs:Wp Ev):Ev:=λE S=>(evs fs E S).bind λr=>if r.1.length<=sizeLine then fin c (.own r.1) r.2 else none
abbrev IC:=VQ false
abbrev Hv:=VQ true
theorem An{es:Wp lH}{fs:Wp Ev}{k:Nat}{pos:Pos}(h:DEs X es fs):DE X (.Tuple es k pos) (Be fs):=⟨Bh (Zg h.pe) λσ H Q z=>by
 obtain⟨M,E,S,d,S',e,r,st,q⟩:=z
 obtain⟨⟨ds,S1⟩,e1,e⟩:=Ar e
 dsimp only at e
 split at e
 .cases e
  refine HF e1 r st λvs H1 M1 g1 st1 d1=>⟨by rw[d1.length];assumption,λp hp=>?_⟩
  have n:=Nw.tup st1.mo hp d1
  exact q _ _ M1 (g1.trans (.grow st1.mo n.grow)) (st1.grow n.grow) n.rel
 .cases e⟩
theorem Bx{c:lM}{es:Wp lH}{fs:Wp Ev}{pos:Pos}(h:DEs X es fs):DE X (.List es pos) (VQ c fs):=⟨Bh (aC h.pe) λσ H Q z=>by
 obtain⟨M,E,S,d,S',e,r,st,q⟩:=z
 obtain⟨⟨ds,S1⟩,e1,e⟩:=Ar e
 dsimp only at e
 split at e
 .refine HF e1 r st λvs H1 M1 g1 st1 d1=>⟨by rw[d1.length];assumption,λp hp=>?_⟩
  obtain⟨M2,g2,st2,d2⟩:=(Nw.lst st1.mo hp d1).fin st1 e
  exact q _ _ M2 (g1.trans g2) st2 d2
 .cases e⟩
noncomputable def IW(f g:Ev):Ev:=λE S=>(f E S).bind λr=>match r.1 with
 | .bl true=>g E r.2
 | .bl false=>Gc (.bl false,r.2)
 |_=>none
noncomputable def eOr(f g:Ev):Ev:=λE S=>(f E S).bind λr=>match r.1 with
 | .bl false=>g E r.2
 | .bl true=>Gc (.bl true,r.2)
 |_=>none
noncomputable def Wq(f:Ev):Ev:=λE S=>(f E S).bind λr=>match r.1 with
 | .bl b=>Gc (.bl (!b),r.2)
 |_=>none
noncomputable def eIf(c f g:Ev):Ev:=λE S=>(c E S).bind λr=>match r.1 with
 | .bl true=>f E r.2
 | .bl false=>g E r.2
 |_=>none
theorem P0{K:kJ}{M:Ms}{H:Hp}{v:V}{b:lM}(h:C1 K M H v (.bl b)):v=.bl b:=by cases h;rfl
variable{a b c:lH}{rest:Wp lH}{f g h:Ev}{pos:Pos}
theorem Hy{op:BoolOp}(h:DE X a f):DE X (.BoolOp op [a] pos) f:=⟨Zc h.pe⟩
theorem HJ(ha:DE X a f)(hb:DE X (.BoolOp .And (b::rest) pos) g):DE X (.BoolOp .And (a::b::rest) pos) (IW f g):=⟨Bh (bw ha.pe hb.pe) λσ H Q z=>by
 obtain⟨M,E,S,d,S',e,r,st,q⟩:=z
 obtain⟨⟨d1,S1⟩,e1,e⟩:=Ar e
 dsimp only at e
 refine⟨M,E,S,d1,S1,e1,r,st,λv H1 M1 g1 st1 r1=>?_⟩
 split at e
 .cases P0 r1
  refine⟨_,rfl,?_⟩
  refine XB ?_
  exact⟨M1,E,S1,d,S',e,r.step g1.st,st1,λv H2 M2 g2 st2 r2=>q _ _ M2 (g1.trans g2) st2 r2⟩
 .cases e
  cases P0 r1
  refine⟨_,rfl,?_⟩
  refine Xj ?_
  exact q _ _ M1 g1 st1 r1
 .cases e⟩
theorem aQ(ha:DE X a f):DE X (.UnaryOp .Not a pos) (Wq f):=⟨Bh (Zo ha.pe) λσ H Q z=>by
 obtain⟨M,E,S,d,S',e,r,st,q⟩:=z
 obtain⟨⟨d1,S1⟩,e1,e⟩:=Ar e
 dsimp only at e
 split at e
 .cases e
  refine⟨M,E,S,_,_,e1,r,st,λv H1 M1 g1 st1 r1=>?_⟩
  cases P0 r1
  exact⟨_,rfl,q _ _ M1 g1 st1 (.bl _)⟩
 .cases e⟩
noncomputable def tDT(K:kJ)(f:Ev):TT:=λσ H Q=>∃M E S b S',f E S=Gc (.bl b,S')/\EnR K M E σ H/\StR K M S H/\∀H' M',Gr M H M' H'->StR K M' S' H'->Q b H'
structure DT(X:Cx)(e:lH)(f:Ev):Prop where
 pe:PT X e (tDT X.K f)
structure DW(X:Cx)(e:lH)(f:Ev):Prop where
 pe:PW X e (tDT X.K f)
theorem DW.dt(h:DW X a f):DT X a f:=⟨PW.pt h.pe⟩
theorem YX{t:TE}(h:PT X a (ba t))(m:∀σ H Q,tD X.K f σ H Q->t σ H Q):DT X a f:=⟨RV h λσ H Q z=>by
 obtain⟨M,E,S,b,S',e,r,st,q⟩:=z
 refine m _ _ _ ⟨M,E,S,_,S',e,r,st,λv H1 M1 g1 st1 r1=>?_⟩
 cases P0 r1
 exact⟨_,rfl,q _ M1 g1 st1⟩⟩
theorem PL(h:DE X a f)(he:∀whole,isTrue a X.env whole=(do let v<-whole;standAt a.pos;holding [v] (truthy v)):=by intro _;rfl):DT X a f:=YX (t:=tD X.K f) (aa h.pe he) λ_ _ _ z=>z
theorem Aj{fa fb:Ev}{op:CmpOp}{f:Op2}(ho:OpR X (compareOp op) (rOp X.K f))(ha:DE X a fa)(hb:DE X b fb)(hm:behindInMarks op b=false:=by rfl):DT X (.Compare a [op] [b] pos) (eOp (o2 f) [fa,fb]):=
 YX (ZL ho ha.pe hb.pe hm) λ_ _ _ h=>Pg h
theorem Xf(ha:DT X a f):DT X (.UnaryOp .Not a pos) (Wq f):=⟨RV (aV ha.pe) λσ H Q z=>by
 obtain⟨M,E,S,b,S',e,r,st,q⟩:=z
 obtain⟨⟨w1,S1⟩,e1,e⟩:=Ar e
 dsimp only at e
 split at e
 .cases e
  exact⟨M,E,S,_,_,e1,r,st,q⟩
 .cases e⟩
theorem Io(ha:DT X a f):DW X (.BoolOp .And [a] pos) f:=⟨YW ha.pe⟩
theorem PZ(ha:DT X a f):DW X (.BoolOp .Or [a] pos) f:=⟨aj ha.pe⟩
theorem SX{e:lH}{t t':TT}(h:PW X e t)(m:∀σ H Q,t' σ H Q->t σ H Q):PW X e t':=λwh pins s σ H Q I q=>h wh pins s σ H Q I (m _ _ _ q)
theorem LU(ha:DT X a f)(hb:DW X (.BoolOp .And (b::rest) pos) g):DW X (.BoolOp .And (a::b::rest) pos) (IW f g):=⟨SX (Z2 ha.pe hb.pe) λσ H Q z=>by
 obtain⟨M,E,S,k,S',e,r,st,q⟩:=z
 obtain⟨⟨w1,S1⟩,e1,e⟩:=Ar e
 dsimp only at e
 split at e
 .refine⟨M,E,S,_,S1,e1,r,st,λH1 M1 g1 st1=>?_⟩
  refine XB ?_
  exact⟨M1,E,S1,k,S',e,r.step g1.st,st1,λH2 M2 g2 st2=>q _ M2 (g1.trans g2) st2⟩
 .cases e
  refine⟨M,E,S,_,_,e1,r,st,λH1 M1 g1 st1=>?_⟩
  refine Xj ?_
  exact q _ M1 g1 st1
 .cases e⟩
theorem SK(ha:DT X a f)(hb:DW X (.BoolOp .Or (b::rest) pos) g):DW X (.BoolOp .Or (a::b::rest) pos) (eOr f g):=⟨SX (eW ha.pe hb.pe) λσ H Q z=>by
 obtain⟨M,E,S,k,S',e,r,st,q⟩:=z
 obtain⟨⟨w1,S1⟩,e1,e⟩:=Ar e
 dsimp only at e
 split at e
 .refine⟨M,E,S,_,S1,e1,r,st,λH1 M1 g1 st1=>?_⟩
  refine Xj ?_
  exact⟨M1,E,S1,k,S',e,r.step g1.st,st1,λH2 M2 g2 st2=>q _ M2 (g1.trans g2) st2⟩
 .cases e
  refine⟨M,E,S,_,_,e1,r,st,λH1 M1 g1 st1=>?_⟩
  refine XB ?_
  exact q _ M1 g1 st1
 .cases e⟩
theorem gL(hc:DT X c f)(ha:DE X a g)(hb:DE X b h):DE X (.IfExp c a b pos) (eIf f g h):=⟨Bh (WW hc.pe ha.pe hb.pe) λσ H Q z=>by
 obtain⟨M,E,S,d,S',e,r,st,q⟩:=z
 obtain⟨⟨w1,S1⟩,e1,e⟩:=Ar e
 dsimp only at e
 split at e
 .refine⟨M,E,S,_,S1,e1,r,st,λH1 M1 g1 st1=>?_⟩
  refine XB ?_
  exact⟨M1,E,S1,d,S',e,r.step g1.st,st1,λv H2 M2 g2 st2 r2=>q _ _ M2 (g1.trans g2) st2 r2⟩
 .refine⟨M,E,S,_,S1,e1,r,st,λH1 M1 g1 st1=>?_⟩
  refine Xj ?_
  exact⟨M1,E,S1,d,S',e,r.step g1.st,st1,λv H2 M2 g2 st2 r2=>q _ _ M2 (g1.trans g2) st2 r2⟩
 .cases e⟩
end
inductive Fl where
 |nx
 |ret (d:D)
abbrev Ex:=En->Sto->kN (Fl×En×Sto)
def End(K:kJ)(M:Ms)(H:Hp)(Dn:Ends)(E':En)(S':Sto):Fl->Prop
 | .nx=>∀σ' H' M',Gr M H M' H'->EnR K M' E' σ' H'->StR K M' S' H'->Dn.nx σ' H'
 | .ret d=>∀v H' M',Gr M H M' H'->StR K M' S' H'->C1 K M' H' v d->Dn.rt v H'
noncomputable def tX(K:kJ)(f:Ex):TS:=λDn σ H=>∃M E S fl E' S',f E S=Gc (fl,E',S')/\EnR K M E σ H/\StR K M S H/\End K M H Dn E' S' fl
structure DS(X:Cx)(st:mH)(f:Ex):Prop where
 pe:PS X st (tX X.K f)
structure DSs(X:Cx)(st:Wp mH)(f:Ex):Prop where
 pe:PSs X st (tX X.K f)
theorem FV{X:Cx}{e:mH}{t t':TS}(h:PS X e t)(m:∀Dn σ H,t' Dn σ H->t Dn σ H):PS X e t':=λpins s σ H Dn I q=>h pins s σ H Dn I (m _ _ _ q)
theorem P2{X:Cx}{e:Wp mH}{t t':TS}(h:PSs X e t)(m:∀Dn σ H,t' Dn σ H->t Dn σ H):PSs X e t':=λpins s σ H Dn I q=>h pins s σ H Dn I (m _ _ _ q)
theorem End.later{K:kJ}{M M1:Ms}{H H1:Hp}{Dn:Ends}{E':En}{S':Sto}{fl:Fl}(q:End K M H Dn E' S' fl)(g:Gr M H M1 H1):End K M1 H1 Dn E' S' fl:=by
 cases fl with
 |nx=>exact λσ' H' M' g' r st=>q σ' H' M' (g.trans g') r st
 |ret d=>exact λv H' M' g' st r=>q v H' M' (g.trans g') st r
noncomputable def AY(f g:Ex):Ex:=λE S=>(f E S).bind λr=>match r.1 with
 | .nx=>g r.2.1 r.2.2
 | .ret w=>Gc (.ret w,r.2)
noncomputable def DU:Ex:=λE S=>Gc (.nx,E,S)
section
variable{X:Cx}{st:mH}{rest a b:Wp mH}{f g h:Ex}{c e:lH}{k:Ev}{pos:Pos}
theorem Ax:DSs X [] DU:=⟨P2 ZJ λDn σ H z=>by
 obtain⟨M,E,S,fl,E',S',e,r,st,q⟩:=z
 cases e
 exact q _ _ M (.refl st.mo) r st⟩
theorem AG(h1:DS X st f)(h2:DSs X rest g):DSs X (st::rest) (AY f g):=⟨P2 (Vi h1.pe h2.pe) λDn σ H z=>by
 obtain⟨M,E,S,fl,E',S',e,r,st,q⟩:=z
 obtain⟨⟨f1,E1,S1⟩,e1,e⟩:=Ar e
 dsimp only at e
 split at e
 .exact⟨M,E,S,.nx,E1,S1,e1,r,st,λσ1 H1 M1 g1 r1 st1=>⟨M1,E1,S1,fl,E',S',e,r1,st1,q.later g1⟩⟩
 .cases e
  exact⟨M,E,S,.ret _,_,_,e1,r,st,q⟩⟩
theorem AL(h1:DS X st f):DSs X [st] f:=⟨Yt h1.pe⟩
noncomputable def xIf(c:Ev)(f g:Ex):Ex:=λE S=>(c E S).bind λr=>match r.1 with
 | .bl true=>f E r.2
 | .bl false=>g E r.2
 |_=>none
theorem CA(hc:DT X c k)(ha:DSs X a f)(hb:DSs X b g):DS X (.If c a b pos) (xIf k f g):=⟨FV (fe hc.pe ha.pe hb.pe) λDn σ H z=>by
 obtain⟨M,E,S,fl,E',S',e,r,st,q⟩:=z
 obtain⟨⟨w1,S1⟩,e1,e⟩:=Ar e
 dsimp only at e
 split at e
 .refine⟨M,E,S,_,S1,e1,r,st,λH1 M1 g1 st1=>?_⟩
  refine XB ?_
  exact⟨M1,E,S1,fl,E',S',e,r.step g1.st,st1,q.later g1⟩
 .refine⟨M,E,S,_,S1,e1,r,st,λH1 M1 g1 st1=>?_⟩
  refine Xj ?_
  exact⟨M1,E,S1,fl,E',S',e,r.step g1.st,st1,q.later g1⟩
 .cases e⟩
noncomputable def Bm(k:Ev):Ex:=λE S=>(k E S).map λr=>(.ret r.1,E,r.2)
theorem AX(h:DE X e k):DS X (.Return (Gc e) pos) (Bm k):=⟨FV (ZW h.pe) λDn σ H z=>by
 obtain⟨M,E,S,fl,E',S',e,r,st,q⟩:=z
 obtain⟨⟨d,S1⟩,e1,e⟩:=JQ e
 cases e
 exact⟨M,E,S,d,S1,e1,r,st,λv H1 M1 g1 st1 r1=>q _ _ M1 g1 st1 r1⟩⟩
end
section
variable{K:kJ}{M:Ms}{E:En}{σ:Sg}{H:Hp}{i:Nat}{d:D}{v:V}
theorem EnR.put(r:EnR K M E σ H)(rd:C1 K M H v d):EnR K M (E.set i (Gc d)) (σ.set i (Gc v)) H:=by
 refine⟨by rw[oP,oP];exact r.len,λj e ej=>?_⟩
 by_cases h:i=j
 .subst h
  by_cases hi:i<E.length
  .rw[ko hi]at ej
   cases ej
   exact⟨v,ko (by rw[<-r.len];exact hi),rd⟩
  .rw[qK.mpr (by rw[oP];lia)]at ej;cases ej
 .rw[kW h]at ej
  obtain⟨v',h1,h2⟩:=r.val j e ej
  exact⟨v',by rw[kW h];exact h1,h2⟩
end
noncomputable def BK(i:Nat)(k:Ev):Ex:=λE S=>(k E S).map λr=>(.nx,E.set i (Gc r.1),r.2)
theorem Ad{X:Cx}{e:lH}{k:Ev}{pos pos':Pos}(i:Nat){x:Str}(h:DE X e k)(hN:X.N.Nodup)(hi:X.N[i]?=Gc x:=by rfl)(hx:Loc X.env.scope x:=by first|exact Or.inl rfl|exact yy rfl)(hs:swapsWith e (Gc (.Name x pos')) pos.line X.env=pure false:=by rfl)(hf:X.fn x=true\/X.env.scope.names.lookup x=Gc .local:=by first|exact .inl rfl|exact .inr rfl):DS X (.Assign [.Name x pos'] e pos) (BK i k):=⟨
 FV (aw hN hi hx h.pe hs hf) λDn σ H z=>by
  obtain⟨M,E,S,fl,E',S',e,r,st,q⟩:=z
  obtain⟨⟨d,S1⟩,e1,e⟩:=JQ e
  cases e
  exact⟨M,E,S,d,S1,e1,r,st,λv H1 M1 g1 st1 r1=>q _ _ M1 g1 ((r.step g1.st).put r1) st1⟩⟩
noncomputable def Cb(k:Ev):Ex:=λE S=>(k E S).map λr=>(.nx,E,r.2)
theorem B6{X:Cx}{e:lH}{k:Ev}{pos:Pos}(h:DE X e k)(hs:swapsWith e none pos.line X.env=pure false:=by rfl):DS X (.Expr e pos) (Cb k):=⟨FV (Xr h.pe hs) λDn σ H z=>by
 obtain⟨M,E,S,fl,E',S',e,r,st,q⟩:=z
 obtain⟨⟨d,S1⟩,e1,e⟩:=JQ e
 cases e
 exact⟨M,E,S,d,S1,e1,r,st,λv H1 M1 g1 st1 r1=>q _ _ M1 g1 (r.step g1.st) st1⟩⟩
noncomputable def EG(S:Sto)(n:Nat):kN (Wp D):=match S[n]? with
 |some (.lst ds)=>Gc ds
 |_=>none
theorem EX{S:Sto}{n:Nat}{ds:Wp D}(h:EG S n=Gc ds):S[n]?=Gc (.lst ds):=by
 unfold EG at h
 split at h
 .rename_i e
  cases h
  exact e
 .cases h
abbrev Mo:=Sto->Wp D->Wp D->kN (D×Wp D)
noncomputable def Kz(op:Mo)(f:Ev)(fs:Wp Ev):Ev:=λE S=>(f E S).bind λr=>match r.1 with
 | .ref n=>(EG r.2 n).bind λ_=>(evs fs E r.2).bind λp=>(EG p.2 n).bind λds=>(op p.2 ds p.1).map λq=>(q.1,p.2.set n (.lst q.2))
 |_=>none
def cZ(K:kJ)(op:Mo):V->Wp V->Hp->VK->Prop:=λx vs H Q=>∃M S n a ds args d ds',x=.ref a/\M.cel[n]?=Gc a/\S[n]?=Gc (.lst ds)/\op S ds args=Gc (d,ds')/\StR K M S H/\Al K M H vs args/\∀v H',StR K M (S.set n (.lst ds')) H'->Gr M H M H'->C1 K M H' v d->Q v H'
section
variable{X:Cx}
theorem au{op:Mo}{f:Ev}{fs:Wp Ev}{σ:Sg}{H:Hp}{Q:VK}(h:tD X.K (Kz op f fs) σ H Q):tBM X.K "list" (cZ X.K op) (tD X.K f) (tDs X.K fs) σ H Q:=by
 obtain⟨M,E,S,d,S',e,r,st,q⟩:=h
 obtain⟨⟨d1,S1⟩,e1,e⟩:=Ar e
 dsimp only at e
 split at e
 .rename_i n
  obtain⟨ds0,e2,e⟩:=Ar e
  obtain⟨⟨args,S2⟩,e3,e⟩:=Ar e
  obtain⟨ds,e4,e⟩:=Ar e
  obtain⟨⟨dd,ds'⟩,e5,e⟩:=JQ e
  cases e
  refine⟨M,E,S,_,S1,e1,r,st,λv H1 M1 g1 st1 r1=>?_⟩
  cases r1 with
  |ref hc=>
   rename_i a
   obtain⟨xs,h1,h2⟩:=st1.cell n a _ hc (EX e2)
   refine⟨.inl ⟨rfl,xs,.of h1⟩,?_⟩
   refine HF e3 (r.step g1.st) st1 λvs H2 M2 g2 st2 r2=>?_
   exact⟨M2,S2,n,a,ds,args,dd,ds',rfl,ME g2.pre hc,EX e4,e5,st2,r2,λv H3 st3 g3 r3=>q _ _ M2 ((g1.trans g2).trans g3) st3 r3⟩
 .cases e
theorem GY{id:oY}{name:Str}{o e:lH}{es:Wp lH}{op:Mo}{f:Ev}{fs:Wp Ev}{apos cpos:Pos}(slot:Slot "list" name id)(hty:typeOf (.builtin id)=pure (.type "method_descriptor"))(hm:MtR X id (cZ X.K op))(ho:DE X o f)(ha:DEs X (e::es) fs)(hbase:attributeBase o name X.env (eval o X.env)=eval o X.env:=by rfl)(hfew:((backTo cpos (k9 (e::es) X.env)).all (λx=> !x.1) && (backToKw cpos (keywordEach [] X.env)).all (λx=>x.1.isSome) && decide ((e::es).length+([]:Wp sR).length+(if([]:Wp sR).isEmpty then 0 else 1)<30))=true:=by rfl)(hline:(apos.endLine==cpos.line)=true:=by rfl)(hs:k9 (e::es) X.env=(false,eval e X.env)::k9 es X.env:=by rfl)(hplain:(backTo cpos (k9 es X.env)).any (·.1)=false:=by rfl):DE X (.Call (.Attribute o name apos) (e::es) [] cpos) (Kz op f fs):=⟨Bh (fq PySem.F.plainAttrs_list slot hty hm ho.pe ha.pe hbase hfew hline hs hplain) λσ H Q z=>au z⟩
noncomputable def LF:Mo
 |_,ds,[x]=>if ds.length<sizeLine then Gc (.non,ds++[x])else none
 |_,_,_=>none
theorem Pb{K:kJ}{M:Ms}{H:Hp}{vs:Wp V}{d:D}(h:Al K M H vs [d]):∃v,vs=[v]/\C1 K M H v d:=by
 cases h with
 |cons h t=>cases t;exact⟨_,rfl,h⟩
theorem FW:MtR X "list.append" (cZ X.K LF):=by
 intro pins s σ H x vs v us Q I rx rv h
 obtain⟨M,S,n,a,ds,args,d,ds',rfl,hc,hn,e,st,ra,q⟩:=h
 unfold LF at e
 split at e
 .split at e
  .rename_i hz
   cases e
   obtain⟨xs,h1,h2⟩:=st.cell n a _ hc hn
   obtain⟨y,rfl,ry⟩:=Pb ra
   obtain⟨st2,g2⟩:=st.chg hc hn (h2.append (.cons ry .nil))
   exact Nn pins s σ H _ _ v us Q I rx rv ⟨a,xs,y,rfl,rfl,h1,by rw[h2.length];exact hz,q _ _ st2 g2 .non⟩
  .cases e
 .cases e
end
noncomputable def My(k f o:Ev):Ex:=λE S=>(k E S).bind λr=>(f E r.2).bind λb=>(o E b.2).bind λi=>match b.1,i.1 with
 | .ref n,.int j=>(EG i.2 n).bind λds=>(ixN ds.length j).map λm=>(.nx,E,i.2.set n (.lst (ds.set m r.1)))
 |_,_=>none
theorem CN {X : Cx} {e t bs : lH} {k f o : Ev} {ps pos : Pos} (h : DE X e k) (hb : DE X bs f) (ht : DE X t o) (ha : ∀ v, assign (.Subscript bs t ps) X.env v = (do
      let ov ← holding [v] (eval bs X.env)
      let iv ← holding [v, ov] (eval t X.env)
      standAt ps
      holding [v, ov, iv] (setItem ov iv v)
      release [v, ov, iv] []) := by intro _; rfl)
    (hs : swapsWithSole [.Subscript bs t ps] e pos.line X.env = pure false := by rfl) (hw : swappedStores [.Subscript bs t ps] e X.env = pure none := by rfl)
    (h1 : (assignEach [.Subscript bs t ps] X.env).map (·.2) = [assign (.Subscript bs t ps) X.env] := by rfl) :
    DS X (.Assign [.Subscript bs t ps] e pos) (My k f o) := ⟨
  FV (W0 h.pe (aY hb.pe ht.pe set_list ha) hs hw h1) fun Dn σ H z => by
    obtain ⟨M, E, S, fl, E', S', e, r, st, q⟩ := z
    obtain ⟨⟨d, S1⟩, e1, e⟩ := Ar e
    obtain ⟨⟨b, S2⟩, e2, e⟩ := Ar e
    obtain ⟨⟨i, S3⟩, e3, e⟩ := Ar e
    dsimp only at e e1 e2 e3
    split at e
    · rename_i n j _
      obtain ⟨ds, e4, e⟩ := Ar e
      obtain ⟨m, e5, e⟩ := JQ e
      cases e
      refine ⟨M, E, S, d, S1, e1, r, st, fun v H1 M1 g1 st1 r1 => ?_⟩
      refine ⟨M1, E, S1, _, S2, e2, r.step g1.st, st1, fun bv H2 M2 g2 st2 r2 => ?_⟩
      refine ⟨M2, E, S2, _, S3, e3, (r.step g1.st).step g2.st, st2, fun iv H3 M3 g3 st3 r3 => ?_⟩
      cases r3
      cases r2 with
      | ref hc =>
        rename_i a
        have hc3 := ME g3.pre hc
        obtain ⟨xs, h1, h2⟩ := st3.cell n a _ hc3 (EX e4)
        obtain ⟨st4, g4⟩ := st3.chg hc3 (EX e4) (h2.set ((r1.step g2.st).step g3.st) m)
        have g := ((g1.trans g2).trans g3).trans g4
        exact ⟨a, xs, j, m, rfl, rfl, h1, by rw [h2.length]; exact e5, q _ _ M3 g (r.step g.st) st4⟩
    · cases e⟩
abbrev Fn:=Wp D->Sto->kN (D×Sto)
noncomputable def flD:Fl->D
 | .nx=>.non
 | .ret d=>d
noncomputable def BU(N:Nat)(body:Ex):Fn:=λds S=>(body (ds.map Gc++ku (N-ds.length) none) S).map λr=>(flD r.1,r.2.2)
def BP{α:Type}(a:α):α:=Classical.choose (⟨a,rfl⟩:∃x,x=a)
theorem Rj{α:Type}(a:α):BP a=a:=zq (⟨a,rfl⟩:∃x,x=a)
noncomputable def spD(K:kJ)(np:Nat)(f:Fn):Sp:=λvs H Q _=>∃M ds S d S',ds.length=np/\f ds S=Gc (d,S')/\Al K M H vs ds/\StR K M S H/\∀v H' M',Gr M H M' H'->StR K M' S' H'->C1 K M' H' v d->Q v H'
theorem ND{α:Type}{xs:Wp α}{i:Nat}{x:α}(h:(xs.map Gc)[i]?=Gc (Gc x)):xs[i]?=Gc x:=by
 rw[lC]at h
 cases e:xs[i]? with
 |none=>rw[e]at h;cases h
 |some y=>rw[e]at h;cases h;rfl
theorem Qi{α:Type}{xs:Wp (kN α)}{k i:Nat}{x:α}(h:(xs++ku k none)[i]?=Gc (Gc x)):xs[i]?=Gc (Gc x):=by
 by_cases hi:i<xs.length
 .rw[kP hi]at h;exact h
 .rw[lU (by lia),sx]at h
  split at h<;>cases h
theorem YU{α:Type}{xs:Wp (kN α)}{k i:Nat}{x:kN α}(h:xs[i]?=Gc x):(xs++ku k none)[i]?=Gc x:=by
 rw[kP (ke.mp h).1];exact h
theorem EnR.args{K:kJ}{M:Ms}{H:Hp}{vs:Wp V}{ds:Wp D}(r:Al K M H vs ds)(k:Nat):EnR K M (ds.map Gc++ku k none) (vs.map Gc++ku k none) H:=by
 refine⟨by simp[r.length],λi d e=>?_⟩
 obtain⟨v,h1,h2⟩:=r.get (ND (Qi e))
 exact⟨v,YU (by rw[lC,h1];rfl),h2⟩
section
variable{P:k8}{w:lO}{K:kJ}{mg:Str->kN kL}{base:lP}
theorem bH{x:Str}{st:mH}{f:kQ}{fd:nS}{N ps:Wp Str}{k np:Nat}{b:Ex}(Fu:Fun K x x st f fd)(S:AW N ps (AK st))(hp:ps.length=np)(hb:∀(cdv:kL) (A:lV) (outer:Wp yZ) (s:kM) (H:Hp) (E:XK),Ky k (A.deeper (qO x (AK st) s.heap.objs.size f cdv))->DSs (UM CX0 P w K mg base N x (AK st) f cdv A outer s H E).nox (EH st) b):Nv P w K mg base CX0 (k+1) f fd ps (spD K np (BP (BU N.length b))):=by
 rw[Rj]
 refine Fu.ok S (λvs H Q E h=>?_) (λcdv A outer s H vs Q E hr h=>?_)
 .obtain⟨M,ds,S0,d,S',hl,_,r,_⟩:=h
  have:=r.length
  lia
 .obtain⟨M,ds,S0,d,S',hl,e,r,st,q⟩:=h
  have hlen:=r.length
  refine⟨_,(hb cdv A outer s H E hr).pe,?_⟩
  obtain⟨⟨fl,E',S1⟩,e1,e⟩:=JQ e
  cases e
  refine⟨M,_,S0,fl,E',S1,e1,?_,st,?_⟩
  .rw[show L2.start N vs=vs.map Gc++ku (N.length-ds.length) none from by unfold L2.start;rw[hlen]]
   exact .args r _
  .cases fl with
   |nx=>exact λσ' H' M' g _ st'=>q _ _ M' g st' .non
   |ret d=>exact λv H' M' g st' r'=>q _ _ M' g st' r'
theorem aN{x:Str}{st:mH}{N ps:Wp Str}{k np:Nat}{b:Ex}(S:St.Src K mg x st)(sc:AW N ps (AK st))(hp:ps.length=np)(hbi:∀f fd,Fun K x x st f fd->Binds K fd ps [])(hb:∀(f:kQ) (cdv:kL) (A:lV) (outer:Wp yZ) (s:kM) (H:Hp) (E:XK),Ky k (A.deeper (qO x (AK st) s.heap.objs.size f cdv))->DSs (UM CX0 P w K mg base N x (AK st) f cdv A outer s H E).nox (EH st) b):St.Dfn P w K mg base x (k+1) ps (spD K np (BP (BU N.length b))):=by
 obtain⟨f,fd,Fu,hm⟩:=S.ex
 exact⟨f,fd,hm,Fu.kp,hbi f fd Fu,bH Fu sc hp λcdv A outer s H E hr=>hb f cdv A outer s H E hr⟩
end
noncomputable def AJ(f:Fn)(fs:Wp Ev):Ev:=λE S=>(evs fs E S).bind λr=>f r.1 r.2
theorem YL{K:kJ}{np:Nat}{f:Fn}{fs:Wp Ev}{σ:Sg}{H:Hp}{Q:VK}(hn:fs.length=np)(h:tD K (AJ f fs) σ H Q):Xz (spD K np f) [] E0 (tDs K fs) σ H Q:=by
 obtain⟨M,E,S,d,S',e,r,st,q⟩:=h
 obtain⟨⟨ds,S1⟩,e1,e⟩:=Ar e
 refine HF e1 r st λvs H1 M1 g1 st1 r1=>?_
 rw[oO]
 exact⟨M1,ds,S1,d,S',by rw[Oy e1];exact hn,e,r1,st1,λv H2 M2 g2 st2 r2=>q _ _ M2 (g1.trans g2) st2 r2⟩
theorem YN{X:Cx}{k np:Nat}{x:Str}{ps:Wp Str}{f:Fn}{e:lH}{es:Wp lH}{fs:Wp Ev}{p pos:Pos}(d:St.Dfn X.prog X.w X.K X.mg X.base x k ps (spD X.K np f))(hr:Ky k X.A)(hg:Gl X x)(ha:DEs X (e::es) fs)(hn:fs.length=np:=by rfl)(hdb:(x==("__debug__":Str))=false:=by decide)(he:k9 (e::es) X.env=(false,eval e X.env)::k9 es X.env:=by rfl)(hpl:(backTo pos (k9 es X.env)).any (·.1)=false:=by rfl):DE X (.Call (.Name x p) (e::es) [] pos) (AJ f fs):=⟨Bh (St.fN d hr hg ha.pe hdb he hpl) λσ H Q z=>YL hn z⟩
abbrev Tf:=D->En->Sto->kN En
noncomputable def tG(K:kJ)(t:Tf):TG:=λv σ H Q=>∃M d E E' S,t d E S=Gc E'/\EnR K M E σ H/\StR K M S H/\C1 K M H v d/\∀σ',EnR K M E' σ' H->Q σ' H
structure DG(X:Cx)(tg:lH)(t:Tf):Prop where
 pe:PG X tg (tG X.K t)
noncomputable def tNm(i:Nat):Tf:=λd E _=>Gc (E.set i (Gc d))
theorem RN{X:Cx}{e:lH}{t t':TG}(h:PG X e t)(m:∀v σ H Q,t' v σ H Q->t v σ H Q):PG X e t':=λpins s σ H v u Q I r q=>h pins s σ H v u Q I r (m _ _ _ _ q)
theorem Ak{X:Cx}{pos:Pos}(i:Nat){x:Str}(hN:X.N.Nodup)(hi:X.N[i]?=Gc x:=by rfl)(hx:Loc X.env.scope x:=by first|exact Or.inl rfl|exact yy rfl)(hf:X.fn x=true\/X.env.scope.names.lookup x=Gc .local:=by first|exact .inl rfl|exact .inr rfl):DG X (.Name x pos) (tNm i):=⟨RN (YF hN hi hx hf) λv σ H Q z=>by
 obtain⟨M,d,E,E',S,e,r,st,rd,q⟩:=z
 cases e
 exact q _ (r.put rd)⟩
noncomputable def tMs:Wp Tf->Wp D->En->Sto->kN En
 | [],[],E,_=>Gc E
 |t::ts,d::ds,E,S=>(t d E S).bind λE1=>tMs ts ds E1 S
 |_,_,_,_=>none
noncomputable def tTp(ts:Wp Tf):Tf:=λd E S=>match d with
 | .tup ds=>tMs ts ds E S
 | .lst ds=>tMs ts ds E S
 | .ref n=>(EG S n).bind λds=>tMs ts ds E S
 |_=>none
noncomputable def tGs(K:kJ):Wp Tf->TGs
 | []=>gz
 |t::ts=>ZX (tG K t) (tGs K ts)
theorem PY{K:kJ}{M:Ms}{H:Hp}{S:Sto}(st:StR K M S H):∀{ts:Wp Tf} {ds:Wp D} {vs:Wp V} {E E':En} {σ:Sg} {Q:Sg->Hp->Prop},tMs ts ds E S=Gc E'->EnR K M E σ H->Al K M H vs ds->(∀σ',EnR K M E' σ' H->Q σ' H)->tGs K ts vs σ H Q
 | [],[],_,E,E',σ,Q,e,r,rd,q=>by
   cases e
   cases rd
   exact⟨rfl,q _ r⟩
 |t::ts,d::ds,_,E,E',σ,Q,e,r,rd,q=>by
  obtain⟨E1,e1,e⟩:=Ar e
  cases rd with
  |cons h1 h2=>exact⟨_,_,rfl,M,d,E,E1,S,e1,r,st,h1,λσ1 r1=>PY st e r1 h2 q⟩
 | [],_::_,_,E,E',σ,Q,e,r,rd,q=>by cases e
 |_::_,[],_,E,E',σ,Q,e,r,rd,q=>by cases e
theorem MZ:∀{ts:Wp Tf} {ds:Wp D} {E E':En} {S:Sto},tMs ts ds E S=Gc E'->ds.length=ts.length
 | [],[],_,_,_,_=>rfl
 |t::ts,d::ds,E,E',S,e=>by
  obtain⟨E1,e1,e⟩:=Ar e
  simp[MZ e]
 | [],_::_,_,_,_,e=>by cases e
 |_::_,[],_,_,_,e=>by cases e
structure DGs(X:Cx)(es:Wp lH)(ts:Wp Tf):Prop where
 pe:PGs X es (tGs X.K ts)
theorem By{X:Cx}:DGs X [] []:=⟨Yn⟩
theorem AO{X:Cx}{e:lH}{es:Wp lH}{t:Tf}{ts:Wp Tf}(h:DG X e t)(g:DGs X es ts)(hs:(assignEach (e::es) X.env).map (·.2)=assign e X.env::(assignEach es X.env).map (·.2):=by rfl):DGs X (e::es) (t::ts):=⟨WD h.pe g.pe hs⟩
theorem Fp{X:Cx}{k:Nat}{es:Wp lH}{ts:Wp Tf}{pos:Pos}(hc:X.calm=true)(h:DGs X es ts)(hn:(assignEach es X.env).length=ts.length:=by rfl)(hst:(assignEach es X.env).findIdx? (·.1)=none:=by rfl):DG X (.Tuple es k pos) (tTp ts):=⟨
 RN (bO hc h.pe hn hst) λv σ H Q z=>by
  obtain⟨M,d,E,E',S,e,r,st,rd,q⟩:=z
  unfold tTp at e
  split at e
  .cases rd with
   |tup h1 h2=>exact⟨_,_,rfl,.inl h1,by rw[h2.length];exact MZ e,PY st e r h2 q⟩
  .cases rd with
   |lst h1 n h2=>exact⟨_,_,rfl,.inr h1,by rw[h2.length];exact MZ e,PY st e r h2 q⟩
  .obtain⟨ds,e1,e⟩:=Ar e
   cases rd with
   |ref hc=>
    obtain⟨xs,h1,h2⟩:=st.cell _ _ _ hc (EX e1)
    exact⟨_,_,rfl,.inr h1,by rw[h2.length];exact MZ e,PY st e r h2 q⟩
  .cases e⟩
noncomputable def OB(t:Tf)(k:Ev):Ex:=λE S=>(k E S).bind λr=>(t r.1 E r.2).map λE'=>(.nx,E',r.2)
theorem Gm{X:Cx}{tg e:lH}{t:Tf}{k:Ev}{pos:Pos}(h:DE X e k)(hg:DG X tg t)(hs:swapsWithSole [tg] e pos.line X.env=pure false:=by rfl)(hw:swappedStores [tg] e X.env=pure none:=by rfl)(h1:(assignEach [tg] X.env).map (·.2)=[assign tg X.env]:=by rfl):DS X (.Assign [tg] e pos) (OB t k):=⟨FV (W0 h.pe hg.pe hs hw h1) λDn σ H z=>by
 obtain⟨M,E,S,fl,E',S',e,r,st,q⟩:=z
 obtain⟨⟨d,S1⟩,e1,e⟩:=Ar e
 obtain⟨E2,e2,e⟩:=JQ e
 cases e
 exact⟨M,E,S,d,S1,e1,r,st,λv H1 M1 g1 st1 r1=>⟨M1,d,E,_,S1,e2,r.step g1.st,st1,r1,λσ' r2=>q _ _ M1 g1 r2 st1⟩⟩⟩
noncomputable def V5(i j:Nat)(f g:Ev):Ex:=λE S=>(evs [f,g] E S).bind λr=>match r.1 with
 | [d,d']=>Gc (.nx,(E.set i (Gc d)).set j (Gc d'),r.2)
 |_=>none
theorem N8{X:Cx}{i j:Nat}{x y:Str}{a b:lH}{f g:Ev}{px py pt:Pos}{kt k2:Nat}{pt2 pos:Pos}(hc:X.calm=true)(hN:X.N.Nodup)(hi:X.N[i]?=Gc x)(hj:X.N[j]?=Gc y)(hij:i≠j)(hx:X.env.scope.names.lookup x=Gc .local)(hy:X.env.scope.names.lookup y=Gc .local)(ha:DE X a f)(hb:DE X b g)(hw:swappedStores [.Tuple [.Name x px,.Name y py] kt pt] (.Tuple [a,b] k2 pt2) X.env=pure (Gc [x,y]):=by rfl)(hsa:k9 [a,b] X.env=(false,eval a X.env)::k9 [b] X.env:=by rfl)(hsb:k9 [b] X.env=(false,eval b X.env)::k9 [] X.env:=by rfl)(hs:swapsWithSole [.Tuple [.Name x px,.Name y py] kt pt] (.Tuple [a,b] k2 pt2) pos.line X.env=pure false:=by rfl):DS X (.Assign [.Tuple [.Name x px,.Name y py] kt pt] (.Tuple [a,b] k2 pt2) pos) (V5 i j f g):=⟨by
 refine FV (b9 hc hN hi hj hij hx hy (Mv ha.pe (Mv hb.pe Qw hsb) hsa) hw hs) λDn σ H z=>?_
 obtain⟨M,E,S,fl,E',S',e,r,st,q⟩:=z
 obtain⟨⟨ds,S1⟩,e1,e⟩:=Ar e
 refine HF (K:=X.K) (fs:=[f,g]) e1 r st λvs H1 M1 g1 st1 r1=>?_
 dsimp only at e
 split at e
 .rename_i d d'
  cases e
  cases r1 with
  |cons h1 t=>
   cases t with
   |cons h2 t=>
    cases t
    exact⟨_,_,rfl,q _ _ M1 g1 (((r.step g1.st).put h1).put h2) st1⟩
 .cases e⟩
noncomputable def Wf:Ex:=λ_ _=>none
theorem WT{X:Cx}{st:mH}:DS X st Wf:=⟨λ_ _ _ _ _ _ z=>by
 obtain⟨M,E,S,fl,E',S',e,_⟩:=z
 cases e⟩
abbrev Gd:=Wp (Nat×Wp D)
def gOk(gs:Gd)(S:Sto):Prop:=∀g∈gs,EG S g.1=Gc g.2
abbrev Sr:=En->Sto->kN ((Wp D×Gd)×Sto)
structure bc(K:kJ)(M:Ms)(H:Hp)(gs:Gd)(ds:Wp D)(J:It):Prop where
 go:∀(i:Nat) (H2:Hp) (M2:Ms) (S2:Sto),Sp1 M H M2 H2->StR K M2 S2 H2->gOk gs S2->i<ds.length->J.go i H2
 stop:∀(i:Nat) (H2:Hp) (M2:Ms) (S2:Sto),Sp1 M H M2 H2->StR K M2 S2 H2->gOk gs S2->ds.length<=i->J.stop i H2
 yld:∀(i:Nat) (H2:Hp) (M2:Ms) (S2:Sto) (x:V) (H3:Hp) (d:D),Sp1 M H M2 H2->StR K M2 S2 H2->gOk gs S2->ds[i]?=Gc d->J.yld i H2 x H3->(∀a o,H2 a=Gc o->H3 a=Gc o)/\C1 K M2 H3 x d
noncomputable def tI(K:kJ)(s:Sr):TI:=λσ H R=>∃M E S ds gs S',s E S=Gc ((ds,gs),S')/\EnR K M E σ H/\StR K M S H/\∀J H' M',Gr M H M' H'->StR K M' S' H'->bc K M' H' gs ds J->R J H'
structure DI(X:Cx)(tg iter:lH)(s:Sr):Prop where
 pe:PI X tg iter (tI X.K s)
theorem Mq{X:Cx}{tg e:lH}{t t':TI}(h:PI X tg e t)(m:∀σ H R,t' σ H R->t σ H R):PI X tg e t':=λpins s σ H R I q=>h pins s σ H R I (m _ _ _ q)
noncomputable def jJ(K:kJ)(tl:TE):TI:=λσ H R=>tl σ H λx H1=>∃a,x=.ref a/\(((∃xs,SqL K H1 a xs)/\R (Itl K a) H1)\/((∃xs,SqT K H1 a xs)/\R (Itt K a) H1))
theorem Zr{X:Cx}{tg l:lH}{tl:TE}(hl:PE X l tl):PI X tg l (jJ X.K tl):=by
 intro pins s σ H R I h
 refine thn (hl pins s σ H _ I h) λv s1 ⟨x,H1,I1,r1,q1⟩=>?_
 obtain⟨a,e,q1⟩:=q1
 subst e
 cases r1
 rcases q1 with⟨⟨xs,hq⟩,q⟩|⟨⟨xs,hq⟩,q⟩
 .obtain⟨its,rv,p,hz⟩:=I1.list hq
  refine mY p.isList ?_
  refine⟨s1.heap.objs.size,[s1.heap.objs.size],_,_,H1,rfl,I1.kept (t':=s1.toks) λb o e=>kK _ e,RO a _,⟨_,kZ _ rfl,rfl,rfl⟩,λb hb=>?_,q⟩
  have e:b=s1.heap.objs.size:=by simpa using hb
  subst e
  exact I1.XC (kR _) (I1.hok.fresh (kR _))
 .obtain⟨its,rv,p,hz⟩:=I1.tuple hq
  refine nM (show s1.heap.IsTuple a its.toArray from p) ?_
  refine⟨s1.heap.objs.size,[s1.heap.objs.size],_,_,H1,rfl,I1.kept (t':=s1.toks) λb o e=>kK _ e,QE a _,⟨_,kZ _ rfl,rfl,rfl⟩,λb hb=>?_,q⟩
  have e:b=s1.heap.objs.size:=by simpa using hb
  subst e
  exact I1.XC (kR _) (I1.hok.fresh (kR _))
theorem Al.get'{K:kJ}{M:Ms}{H:Hp}{vs:Wp V}{ds:Wp D}{i:Nat}(h:Al K M H vs ds)(hi:i<ds.length):∃x,vs[i]?=Gc x:=by
 have:=h.length
 exact⟨vs[i],kS (by omega)⟩
structure SqF(K:kJ)(M:Ms)(H:Hp)(gs:Gd)(k:lM)(a:kQ)(ds:Wp D):Prop where
 keep:∀(H2:Hp) (M2:Ms) (S2:Sto),Sp1 M H M2 H2->StR K M2 S2 H2->gOk gs S2->∃xs,(if k=true then SqT K H2 a xs else SqL K H2 a xs)/\Al K M2 H2 xs ds
noncomputable def sqD(S:Sto):D->kN (Wp D×Gd)
 | .tup ds=>Gc (ds,[])
 | .lst ds=>Gc (ds,[])
 | .ref n=>(EG S n).map λds=>(ds,[(n,ds)])
 | .scr ns=>Gc (ns.map .int,[])
 |_=>none
theorem PH{K:kJ}{M:Ms}{H:Hp}{S:Sto}{v:V}{d:D}{ds:Wp D}{gs:Gd}(st:StR K M S H)(h:C1 K M H v d)(e:sqD S d=Gc (ds,gs)):∃k a,v=.ref a/\SqF K M H gs k a ds:=by
 cases h with
 |tup h r=>cases e;exact⟨true,_,rfl,⟨λH2 M2 S2 g _ _=>⟨_,g.sqT h,r.step g⟩⟩⟩
 |lst h n r=>cases e;exact⟨false,_,rfl,⟨λH2 M2 S2 g _ _=>⟨_,SqL.of (g.keep _ _ h n),r.step g⟩⟩⟩
 |scr h=>
  cases e
  refine⟨false,_,rfl,⟨λH2 M2 S2 g _ _=>⟨_,?_,Hz⟩⟩⟩
  rcases h with⟨h,n⟩|h
  .rcases h with h|⟨o,h⟩
   .exact .inl (.inl (g.keep _ _ h n))
   .exact .inl (.inr ⟨o,g.keep _ _ h n⟩)
  .exact .inr h
 |ref h=>
  obtain⟨es,e1,e⟩:=JQ e
  cases e
  refine⟨false,_,rfl,⟨λH2 M2 S2 g st2 ok=>?_⟩⟩
  obtain⟨xs,h1,h2⟩:=st2.cell _ _ _ (ME g.pre h) (EX (ok _ (kr.mpr rfl)))
  exact⟨xs,SqL.of h1,h2⟩
 |non=>cases e
 |bl b=>cases e
 |int b=>cases e
 |str b=>cases e
 |ty b=>cases e
 |dct h n r=>cases e
theorem fS{K:kJ}{M:Ms}{H:Hp}{gs:Gd}{k:lM}{a:kQ}{ds:Wp D}(h:SqF K M H gs k a ds):bc K M H gs ds (if k=true then Itt K a else Itl K a):=by
 cases k with
 |true=>
  exact{
   go:=λi H2 M2 S2 g st ok hi=>let⟨xs,h1,h2⟩:=h.keep H2 M2 S2 g st ok;let⟨x,hx⟩:=h2.get' hi;⟨xs,x,h1,hx⟩
   stop:=λi H2 M2 S2 g st ok hi=>let⟨xs,h1,h2⟩:=h.keep H2 M2 S2 g st ok;⟨xs,h1,by have:=h2.length;omega⟩
   yld:=λi H2 M2 S2 x H3 d g st ok hd hy=>by
    obtain⟨xs,h1,h2⟩:=h.keep H2 M2 S2 g st ok
    obtain⟨rfl,hy⟩:=hy
    refine⟨λ_ _ e=>e,?_⟩
    have hx:=hy xs h1
    obtain⟨x',h3,h4⟩:=h2.get hd
    rw[hx]at h3;cases h3
    exact h4}
 |false=>
  exact{
   go:=λi H2 M2 S2 g st ok hi=>let⟨xs,h1,h2⟩:=h.keep H2 M2 S2 g st ok;let⟨x,hx⟩:=h2.get' hi;⟨xs,x,h1,hx⟩
   stop:=λi H2 M2 S2 g st ok hi=>let⟨xs,h1,h2⟩:=h.keep H2 M2 S2 g st ok;⟨xs,h1,by have:=h2.length;omega⟩
   yld:=λi H2 M2 S2 x H3 d g st ok hd hy=>by
    obtain⟨xs,h1,h2⟩:=h.keep H2 M2 S2 g st ok
    obtain⟨rfl,hy⟩:=hy
    refine⟨λ_ _ e=>e,?_⟩
    have hx:=hy xs h1
    obtain⟨x',h3,h4⟩:=h2.get hd
    rw[hx]at h3;cases h3
    exact h4}
noncomputable def IV(f:Ev):Sr:=λE S=>(f E S).bind λr=>(sqD r.2 r.1).map λp=>(p,r.2)
theorem MO{S:Sto}{d:D}{ds:Wp D}{gs:Gd}(e:sqD S d=Gc (ds,gs)):gOk gs S:=by
 cases d<;>first|(cases e;done)|skip
 all_goals first
  |(cases e;intro g hg;cases hg;done)
  |(obtain⟨es,e1,e⟩:=JQ e
    cases e
    intro g hg
    rw[kr.mp hg]
    exact e1)
theorem DA{X:Cx}{tg e:lH}{f:Ev}(h:DE X e f):DI X tg e (IV f):=⟨Mq (Zr h.pe) λσ H R z=>by
 obtain⟨M,E,S,ds,gs,S',e,r,st,q⟩:=z
 obtain⟨⟨d,S1⟩,e1,e⟩:=Ar e
 obtain⟨⟨ds',gs'⟩,e2,e⟩:=JQ e
 cases e
 refine⟨M,E,S,d,S1,e1,r,st,λv H1 M1 g1 st1 r1=>?_⟩
 obtain⟨k,a,rfl,sq⟩:=PH st1 r1 e2
 obtain⟨xs,hs,_⟩:=sq.keep H1 M1 S1 (Gr.refl st1.mo).st st1 (MO e2)
 have it:=fS sq
 refine⟨a,rfl,?_⟩
 cases k with
 |true=>exact .inr ⟨⟨xs,hs⟩,q _ _ M1 g1 st1 it⟩
 |false=>exact .inl ⟨⟨xs,hs⟩,q _ _ M1 g1 st1 it⟩⟩
noncomputable def Kx(lo:Int)(n:Nat):Wp D:=(lT n).map λ(i:Nat)=>.int (lo+(i:Int))
theorem Zt{K:kJ}{M:Ms}{H:Hp}{lo:Int}{n:Nat}:bc K M H [] (Kx lo n) (Itr lo n) where
 go:=λi H2 M2 S2 g st ok hi=>by
  have:i<n:=by unfold Kx at hi;simpa using hi
  exact this
 stop:=λi H2 M2 S2 g st ok hi=>by
  have:n<=i:=by unfold Kx at hi;simpa using hi
  exact this
 yld:=λi H2 M2 S2 x H3 d g st ok hd hy=>by
  obtain⟨rfl,rfl⟩:=hy
  refine⟨λ_ _ e=>e,?_⟩
  unfold Kx at hd
  rw[lC]at hd
  cases e:(lT n)[i]? with
  |none=>rw[e]at hd;cases hd
  |some j=>
   rw[e]at hd
   cases hd
   have:j=i:=by
    obtain⟨h1,h2⟩:=ke.mp e
    simpa using h2.symm
   subst this
   exact .int _
noncomputable def M8(fs:Wp Ev):Sr:=λE S=>(evs fs E S).bind λr=>match r.1 with
 | [.int j]=>if(decide (-(2^62)<=j) && decide (j<2^62))=true then Gc ((Kx 0 j.toNat,[]),r.2)else none
 | [.int i,.int j]=>if(decide (-(2^62)<=i) && decide (i<2^62) && decide (-(2^62)<=j) && decide (j<2^62))=true then Gc ((Kx i (j-i).toNat,[]),r.2)else none
 |_=>none
theorem Ug{K:kJ}{M:Ms}{H:Hp}{vs:Wp V}{j:Int}(h:Al K M H vs [.int j]):vs=[.int j]:=by
 cases h with
 |cons h t=>cases t;cases h;rfl
theorem FZ{X:Cx}{tg a:lH}{o:Ev}{p pos:Pos}(hg:Gl X "range")(hm:X.mg "range"=none)(ha:DEs X [a] [o])(hs:k9 [a] X.env=[(false,eval a X.env)]:=by rfl):DI X tg (.Call (.Name "range" p) [a] [] pos) (M8 [o]):=⟨
 Mq (TY hg hm ha.pe hs) λσ H R z=>by
  obtain⟨M,E,S,ds,gs,S',e,r,st,q⟩:=z
  obtain⟨⟨ws,S1⟩,e1,e⟩:=Ar e
  have hl:=Oy e1
  refine HF e1 r st λvs H1 M1 g1 st1 r1=>?_
  dsimp only at e
  split at e
  .split at e
   .rename_i j hk
    rw[kn]at hk
    cases e
    exact⟨j,Ug r1,kj hk.1,kj hk.2,q _ _ M1 g1 st1 Zt⟩
   .cases e
  .simp at hl
  .cases e⟩
open Classical in
def Ij(gs:Gd)(t:Tf)(body:Ex):Wp D->En->Sto->kN (Fl×En×Sto)
 | [],E,S=>if gOk gs S then Gc (.nx,E,S)else none
 |d::ds,E,S=>if gOk gs S then(t d E S).bind λE1=>(body E1 S).bind λr=>match r.1 with
  | .nx=>Ij gs t body ds r.2.1 r.2.2
  | .ret w=>Gc (.ret w,r.2)
  else none
def Jj(s:Sr)(t:Tf)(body:Ex):Ex:=λE S=>(s E S).bind λr=>Ij r.1.2 t body r.1.1 E r.2
theorem Kg{α:Type}{xs:Wp α}{i:Nat}{x:α}{r:Wp α}(h:xs.drop i=x::r):xs[i]?=Gc x/\xs.drop (i+1)=r/\i<xs.length:=by
 have hi:i<xs.length:=by
  by_cases hi:i<xs.length
  .exact hi
  .rw[pL (by omega)]at h;cases h
 rw[mn hi]at h
 cases h
 exact⟨kS hi,rfl,hi⟩
theorem E5{X:Cx}{tg iter:lH}{body:Wp mH}{s:Sr}{t:Tf}{b:Ex}{pos:Pos}(hp:v9 (model X.prog X.w) X.A X.env X.xe)(hc:X.calm=true)(hi:DI X tg iter s)(hg:DG X tg t)(hb:DSs X body b)(hs:∀x,foldedSetIterable iter X.env x=pure x:=by intro _;rfl):DS X (.For tg iter body [] pos) (Jj s t b):=⟨FV (aL hp hc hi.pe hg.pe hb.pe hs) λDn σ H z=>by
 obtain⟨M,E,S,fl,E',S',e,r,st,q⟩:=z
 obtain⟨⟨⟨ds,gs⟩,S1⟩,e1,e⟩:=Ar e
 dsimp only at e
 refine⟨M,E,S,ds,gs,S1,e1,r,st,λJ H1 M1 g1 st1 it=>?_⟩
 refine⟨λi m σ' H'=>m=ds.length-i/\∃E2 S2 M2,Ij gs t b (ds.drop i) E2 S2=Gc (fl,E',S')/\Gr M1 H1 M2 H'/\EnR X.K M2 E2 σ' H'/\StR X.K M2 S2 H',⟨_,rfl,E,S1,M1,e,.refl st1.mo,r.step g1.st,st1⟩,λi m σ2 H2 hW=>?_⟩
 obtain⟨rfl,E2,S2,M2,e2,g2,r2,st2⟩:=hW
 cases ed:ds.drop i with
 |nil=>
  rw[ed]at e2
  unfold Ij at e2
  split at e2
  .rename_i ok
   cases e2
   left
   exact⟨it.stop i H2 M2 _ g2.st st2 ok (rG.mp ed),q _ _ M2 (g1.trans g2) r2 st2⟩
  .cases e2
 |cons d rest=>
  obtain⟨d1,d2,d3⟩:=Kg ed
  rw[ed]at e2
  unfold Ij at e2
  split at e2
  .rename_i ok
   obtain⟨E3,e3,e2⟩:=Ar e2
   obtain⟨⟨f4,E4,S4⟩,e4,e2⟩:=Ar e2
   dsimp only at e2
   right
   refine⟨it.go i H2 M2 S2 g2.st st2 ok d3,λσ' H'=>∃m',m'<ds.length-i/\(m'=ds.length-(i+1)/\∃E2 S2 M2,Ij gs t b (ds.drop (i+1)) E2 S2=Gc (fl,E',S')/\Gr M1 H1 M2 H'/\EnR X.K M2 E2 σ' H'/\StR X.K M2 S2 H'),λσ' H' z=>z,λx H3 hy=>?_⟩
   obtain⟨k3,rx⟩:=it.yld i H2 M2 S2 x H3 d g2.st st2 ok d1 hy
   have g3:Gr M2 H2 M2 H3:=.grow st2.mo k3
   refine⟨M2,d,E2,E3,S2,e3,r2.step g3.st,st2.grow k3,rx,λσ4 r4=>?_⟩
   refine⟨M2,E3,S2,f4,E4,S4,e4,r4,st2.grow k3,?_⟩
   split at e2
   .exact λσ6 H6 M6 g6 r6 st6=>⟨_,by omega,rfl,E4,S4,M6,by rw[d2];exact e2,(g2.trans g3).trans g6,r6,st6⟩
   .cases e2
    exact λv H6 M6 g6 st6 r6=>q _ _ M6 (((g1.trans g2).trans g3).trans g6) st6 r6
  .cases e2⟩
noncomputable def HH(c:Ev)(b:Ex):Nat->En->Sto->kN (Fl×En×Sto)
 |0,_,_=>none
 |k+1,E,S=>(c E S).bind λr=>match r.1 with
  | .bl true=>(b E r.2).bind λp=>match p.1 with
    | .nx=>HH c b k p.2.1 p.2.2
    | .ret w=>Gc (.ret w,p.2)
  | .bl false=>Gc (.nx,E,r.2)
  |_=>none
noncomputable def SJ(fuel:En->Nat)(c:Ev)(b:Ex):Ex:=λE S=>HH c b (fuel E) E S
theorem Vr{X:Cx}{c:lH}{body:Wp mH}{k:Ev}{b:Ex}{pos:Pos}(fuel:En->Nat)(hp:v9 (model X.prog X.w) X.A X.env X.xe)(hc:DT X c k)(hb:DSs X body b):DS X (.While c body [] pos) (SJ fuel k b):=⟨
 FV (Vc hp hc.pe hb.pe) λDn σ H z=>by
  obtain⟨M,E,S,fl,E',S',e,r,st,q⟩:=z
  refine⟨λm σ' H'=>∃E2 S2 M2,HH k b m E2 S2=Gc (fl,E',S')/\Gr M H M2 H'/\EnR X.K M2 E2 σ' H'/\StR X.K M2 S2 H',⟨fuel E,E,S,M,e,.refl st.mo,r,st⟩,λm σ2 H2 hW=>?_⟩
  obtain⟨E2,S2,M2,e2,g2,r2,st2⟩:=hW
  cases m with
  |zero=>cases e2
  |succ m=>
   obtain⟨⟨w3,S3⟩,e3,e2⟩:=Ar e2
   dsimp only at e2
   split at e2
   .obtain⟨⟨f4,E4,S4⟩,e4,e2⟩:=Ar e2
    refine⟨M2,E2,S2,true,S3,e3,r2,st2,λH3 M3 g3 st3=>?_⟩
    refine XB ⟨λσ' H'=>∃m',m'<m+1/\∃E2 S2 M2,HH k b m' E2 S2=Gc (fl,E',S')/\Gr M H M2 H'/\EnR X.K M2 E2 σ' H'/\StR X.K M2 S2 H',λσ' H' z=>z,?_⟩
    refine⟨M3,E2,S3,f4,E4,S4,e4,r2.step g3.st,st3,?_⟩
    dsimp only at e2
    split at e2
    .exact λσ5 H5 M5 g5 r5 st5=>⟨m,by omega,E4,S4,M5,e2,(g2.trans g3).trans g5,r5,st5⟩
    .cases e2
     exact λv H5 M5 g5 st5 r5=>q _ _ M5 ((g2.trans g3).trans g5) st5 r5
   .cases e2
    refine⟨M2,_,S2,false,_,e3,r2,st2,λH3 M3 g3 st3=>?_⟩
    refine Xj ?_
    exact q _ _ M3 (g2.trans g3) (r2.step g3.st) st3
   .cases e2⟩
noncomputable def Yc(i:Nat):En->Nat:=λE=>match at? E i with
 |some (.int j)=>j.natAbs+2
 |_=>0
section
variable{K:kJ}{M M' M2:Ms}{H H' H2:Hp}{S:Sto}
structure GrX(M:Ms)(H:Hp)(M':Ms)(H':Hp):Prop where
 pre:M.cel <+: M'.cel
 fresh:∀a,a∈M'.cel->a∈M.cel\/H a=none
 keep:∀a o,H a=Gc o->a∉M.cel->H' a=Gc o
 some:∀a,H a≠none->H' a≠none
theorem GrX.none(g:GrX M H M' H'){a:kQ}(h:H' a=none):H a=none:=by
 cases e:H a with
 |none=>rfl
 |some o=>exact absurd h (g.some a (by rw[e];intro z;cases z))
theorem Gr.x(g:Gr M H M' H'):GrX M H M' H':=⟨g.pre,g.fresh,g.keep,g.some⟩
theorem GrX.trans(h:GrX M H M' H')(g:GrX M' H' M2 H2):GrX M H M2 H2:=
 ⟨h.pre.trans g.pre,λa z=>(g.fresh a z).elim (h.fresh a) λz=>.inr (h.none z),λa o e n=>g.keep a o (h.keep a o e n) (λz=>by
   rcases h.fresh a z with z|z
   .exact n z
   .rw[e]at z;cases z),λa e=>g.some a (h.some a e)⟩
theorem StR.bS(r:StR K M S H){a:kQ}(e:H a=none):StR K ⟨M.cel,a::M.tmp⟩ S (upd H a (.lst []))/\GrX M H ⟨M.cel,a::M.tmp⟩ (upd H a (.lst []))/\Sp1 M H ⟨M.cel,a::M.tmp⟩ (upd H a (.lst [])):=by
 have k:∀b o,H b=Gc o->upd H a (.lst []) b=Gc o:=FF e
 have na:¬M.mem a:=λz=>r.mo.some z e
 have s1:Sp1 M H ⟨M.cel,a::M.tmp⟩ (upd H a (.lst [])):=⟨r.mo,mG,λb z=>by
  rcases z with z|z
  .exact .inl (.inl z)
  .rcases kX.mp z with z|z
   .subst z;exact .inr e
   .exact .inl (.inr z),λb o eb _=>k b o eb⟩
 refine⟨⟨λb z=>?_,r.nd,λb hb z=>?_,r.len,λn b c h1 h2=>?_⟩,⟨mG,λb z=>.inl z,λb o eb _=>k b o eb,λb eb z=>?_⟩,s1⟩
 .by_cases h:b=a
  .subst h;exact .inl ⟨[],A1⟩
  .rw[Ae h]
   refine r.mo b ?_
   rcases z with z|z
   .exact .inl z
   .rcases kX.mp z with z|z
    .exact absurd z h
    .exact .inr z
 .rcases kX.mp hb with hb|hb
  .subst hb;exact na (.inl z)
  .exact r.nt b hb z
 .have q:=r.cell n b c h1 h2
  cases c with
  |lst ds=>obtain⟨xs,e,rr⟩:=q;exact⟨xs,k _ _ e,rr.step s1⟩
  |dct ds=>obtain⟨xs,e,rr⟩:=q;exact⟨xs,k _ _ e,rr.step s1⟩
  |tab ds=>obtain⟨xs,e,rr⟩:=q;exact⟨xs,k _ _ e,rr.step s1⟩
 .cases h:H b with
  |none=>exact eb h
  |some o=>rw[k b o h]at z;cases z
theorem StR.Yw(r:StR K M S H){a:kQ}{ys:Wp V}(ha:a∈M.tmp):StR K M S (upd H a (.lst ys))/\Sp1 M H M (upd H a (.lst ys)):=by
 have s1:Sp1 M H M (upd H a (.lst ys)):=⟨r.mo,mG,λb z=>.inl z,λb o eb nb=>by rw[Ae (λz=>nb (by rw[z];exact .inr ha))];exact eb⟩
 refine⟨⟨λb z=>?_,r.nd,r.nt,r.len,λn b c h1 h2=>?_⟩,s1⟩
 .by_cases h:b=a
  .subst h;exact .inl ⟨ys,A1⟩
  .rw[Ae h];exact r.mo b z
 .have hb:b≠a:=λz=>r.nt a ha (by rw[<-z];exact k0 h1)
  have q:=r.cell n b c h1 h2
  cases c with
  |lst ds=>obtain⟨xs,e,rr⟩:=q;exact⟨xs,by rw[Ae hb];exact e,rr.step s1⟩
  |dct ds=>obtain⟨xs,e,rr⟩:=q;exact⟨xs,by rw[Ae hb];exact e,rr.step s1⟩
  |tab ds=>obtain⟨xs,e,rr⟩:=q;exact⟨xs,by rw[Ae hb];exact e,rr.step s1⟩
theorem StR.X6{c:Wp kQ}{t:Wp kQ}{a:kQ}{xs:Wp V}{ds:Wp D}{cf:lM}{d:D}{S':Sto}(r:StR K ⟨c,a::t⟩ S H)(nt:a∉t)(e:H a=Gc (.lst xs))(rr:Al K ⟨c,a::t⟩ H xs ds)(ef:fin cf (.own ds) S=Gc (d,S')):∃c',StR K ⟨c',t⟩ S' H/\C1 K ⟨c',t⟩ H (.ref a) d/\c <+: c'/\(∀b∈c',b∈c\/b=a):=by
 have nc:a∉c:=r.nt a kc
 cases cf with
 |false=>
  cases ef
  have s1:Sp1 ⟨c,a::t⟩ H ⟨c,t⟩ H:=⟨r.mo,mG,λb z=>.inl (z.imp id (kU _)),λ_ _ e _=>e⟩
  refine⟨c,⟨λb z=>r.mo b (z.imp id (kU _)),r.nd,λb hb=>r.nt b (kU _ hb),r.len,λn b cl h1 h2=>?_⟩,.lst e (λz=>z.elim nc nt) (rr.step s1),mG,λb z=>.inl z⟩
  have q:=r.cell n b cl h1 h2
  cases cl with
  |lst ds=>obtain⟨xs,e,rr⟩:=q;exact⟨xs,e,rr.step s1⟩
  |dct ds=>obtain⟨xs,e,rr⟩:=q;exact⟨xs,e,rr.step s1⟩
  |tab ds=>obtain⟨xs,e,rr⟩:=q;exact⟨xs,e,rr.step s1⟩
 |true=>
  cases ef
  have s1:Sp1 ⟨c,a::t⟩ H ⟨c++[a],t⟩ H:=⟨r.mo,pK _ _,λb z=>by
   rcases z with z|z
   .rcases k6.mp z with z|z
    .exact .inl (.inl z)
    .exact .inl (.inr (by rw[kr.mp z];exact kc))
   .exact .inl (.inr (kU _ z)),λ_ _ e _=>e⟩
  have hl:c.length=S.length:=r.len
  refine⟨c++[a],⟨λb z=>?_,?_,λb hb z=>?_,by simp[hl],λn b cl h1 h2=>?_⟩,.ref ?_,pK _ _,λb z=>?_⟩
  .refine r.mo b ?_
   rcases z with z|z
   .rcases k6.mp z with z|z
    .exact .inl z
    .exact .inr (by rw[kr.mp z];exact kc)
   .exact .inr (kU _ z)
  .rw[mq]
   refine⟨r.nd,by simp,λx hx y hy z=>?_⟩
   simp at hy;subst hy
   exact nc (by rw[<-z];exact hx)
  .rcases k6.mp z with z|z
   .exact r.nt b (kU _ hb) z
   .rw[kr.mp z]at hb;exact nt hb
  .by_cases h:n<S.length
   .rw[kP (by rw[hl];exact h)]at h1
    rw[kP h]at h2
    have q:=r.cell n b cl h1 h2
    cases cl with
    |lst ds=>obtain⟨xs,e,rr⟩:=q;exact⟨xs,e,rr.step s1⟩
    |dct ds=>obtain⟨xs,e,rr⟩:=q;exact⟨xs,e,rr.step s1⟩
    |tab ds=>obtain⟨xs,e,rr⟩:=q;exact⟨xs,e,rr.step s1⟩
   .have hm:n=S.length:=by
     have:=(ke.mp h2).1
     simp at this;omega
    subst hm
    rw[lU (by rw[hl];exact kR _)]at h1
    rw[lU (kR _)]at h2
    rw[hl]at h1
    simp at h1 h2
    subst h1 h2
    exact⟨xs,e,rr.step s1⟩
  .rw[<-hl];exact kz
  .rcases k6.mp z with z|z
   .exact .inl z
   .exact .inr (kr.mp z)
end
open Classical in
def CH(gs:Gd)(t:Tf)(c:Ev)(f:Ev):Wp D->Wp D->En->Sto->kN (Wp D×Sto)
 | [],acc,_,S=>if gOk gs S then Gc (acc,S)else none
 |d::ds,acc,E,S=>if gOk gs S then(if acc.length<sizeLine then(t d E S).bind λE1=>(c E1 S).bind λr=>match r.1 with
   | .bl true=>(f E1 r.2).bind λp=>CH gs t c f ds (acc++[p.1]) E1 p.2
   | .bl false=>CH gs t c f ds acc E1 r.2
   |_=>none
  else none)else none
noncomputable def Di:Ev:=λ_ S=>Gc (.bl true,S)
noncomputable def QI(cap:Wp Nat)(m:Nat)(E:En):En:=cap.map (at? E)++ku m none
def Lg(cf:lM)(cap:Wp Nat)(m:Nat)(s:Sr)(t:Tf)(c:Ev)(f:Ev):Ev:=λE S=>(s E S).bind λr=>(CH r.1.2 t c f r.1.1 [] (QI cap m E) r.2).bind λq=>fin cf (.own q.1) q.2
noncomputable abbrev EI:=Lg false
noncomputable abbrev W5:=Lg true
noncomputable def ixC(cap:Wp Nat)(m:Nat):Wp (kN Nat):=cap.map Gc++ku m none
theorem EnR.cap{K:kJ}{M:Ms}{E:En}{σ:Sg}{H:Hp}(r:EnR K M E σ H)(cap:Wp Nat)(m:Nat):EnR K M (QI cap m E) (sig (ixC cap m) σ) H:=by
 unfold QI sig ixC
 refine⟨by simp,λi d e=>?_⟩
 have h1:=Qi e
 rw[lC]at h1
 cases e1:cap[i]? with
 |none=>rw[e1]at h1;cases h1
 |some j=>
  rw[e1]at h1
  have h2:at? E j=Gc d:=by simpa using h1
  obtain⟨v,hv,rd⟩:=r.val j d (at?_some h2)
  refine⟨v,?_,rd⟩
  have hi:i<cap.length:=(ke.mp e1).1
  rw[my,kP (by simpa using hi),lC,lC,e1]
  show Gc ((σ[j]?).join)=Gc (Gc v)
  rw[hv]
  rfl
theorem Q0{K:kJ}{cf:lM}{cap:Wp Nat}{m:Nat}{s:Sr}{t:Tf}{c f:Ev}{σ:Sg}{H:Hp}{Q:VK}(h:tD K (Lg cf cap m s t c f) σ H Q):Yo (ixC cap m) (tI K s) (tG K t) (tDT K c) (tD K f) σ H Q:=by
 obtain⟨M,E,S,d,S',e,r,st,q⟩:=h
 obtain⟨⟨⟨ds,gs⟩,S1⟩,e1,e⟩:=Ar e
 obtain⟨⟨accf,Sf⟩,e3,e⟩:=Ar e
 dsimp only at e e3
 refine⟨M,E,S,ds,gs,S1,e1,r,st,λJ H1 M1 g1 st1 it A0 hD=>?_⟩
 obtain⟨st0,gx0,s0⟩:=st1.bS hD
 have nt:A0∉M1.tmp:=λz=>st1.mo.some (.inr z) hD
 refine⟨λi mm σ' H' ys=>mm=ds.length-i/\∃Ei Si Mi acc,CH gs t c f (ds.drop i) acc Ei Si=Gc (accf,Sf)/\GrX M1 H1 Mi H'/\Mi.tmp=A0::M1.tmp/\EnR K Mi Ei σ' H'/\StR K Mi Si H'/\H' A0=Gc (.lst ys)/\Al K Mi H' ys acc,
  ⟨_,rfl,_,S1,_,[],e3,gx0,rfl,((r.step g1.st).step s0).cap cap m,st0,A1,.nil⟩,λi mm σ2 H2 ys hW=>?_⟩
 obtain⟨rfl,Ei,Si,Mi,acc,ec,gx,ht,r2,st2,hy,ry⟩:=hW
 have sp:Sp1 M1 H1 Mi H2:=⟨st1.mo,gx.pre,λa z=>by
  rcases z with z|z
  .exact(gx.fresh a z).imp .inl id
  .rw[ht]at z
   rcases kX.mp z with z|z
   .subst z;exact .inr hD
   .exact .inl (.inr z),λa o eo no=>gx.keep a o eo λz=>no (.inl z)⟩
 refine⟨hy,?_⟩
 cases ed:ds.drop i with
 |nil=>
  rw[ed]at ec
  unfold CH at ec
  split at ec
  .rename_i ok
   cases ec
   left
   obtain⟨ci,ti⟩:=Mi
   have ht':ti=A0::M1.tmp:=ht
   subst ht'
   obtain⟨c',st',rd',pr',sub'⟩:=st2.X6 nt hy ry e
   refine⟨it.stop i H2 _ _ sp st2 ok (rG.mp ed),q _ _ ⟨c',M1.tmp⟩ (g1.trans ⟨st1.mo,gx.pre.trans pr',rfl,λa z=>?_,gx.keep,gx.some⟩) st' rd'⟩
   rcases sub' a z with z|z
   .exact gx.fresh a z
   .subst z;exact .inr hD
  .cases ec
 |cons d rest=>
  obtain⟨d1,d2,d3⟩:=Kg ed
  rw[ed]at ec
  unfold CH at ec
  split at ec
  .rename_i ok
   split at ec
   .rename_i hz
    obtain⟨E3,e4,ec⟩:=Ar ec
    obtain⟨⟨w5,S5⟩,e5,ec⟩:=Ar ec
    right
    refine⟨it.go i H2 Mi Si sp st2 ok d3,by rw[ry.length];exact hz,λx H3 hyl=>?_⟩
    obtain⟨k3,rx⟩:=it.yld i H2 Mi Si x H3 d sp st2 ok d1 hyl
    have g3:Gr Mi H2 Mi H3:=.grow st2.mo k3
    have st3:=st2.grow k3
    refine⟨Mi,d,Ei,E3,Si,e4,r2.step g3.st,st3,rx,λσ4 r4=>?_⟩
    have hA:A0∈Mi.tmp:=by rw[ht];exact kc
    have hy3:H3 A0=Gc (.lst ys):=k3 _ _ hy
    have ry3:Al K Mi H3 ys acc:=ry.step g3.st
    have fin:∀{E6:En} {S6:Sto} {M6:Ms} {H6:Hp} {zs:Wp V} {acc6:Wp D},CH gs t c f rest acc6 E6 S6=Gc (accf,Sf)->GrX M1 H1 M6 H6->M6.tmp=A0::M1.tmp->EnR K M6 E6 σ4 H6->StR K M6 S6 H6->H6 A0=Gc (.lst zs)->Al K M6 H6 zs acc6->
      ∃m',m'<ds.length-i/\(m'=ds.length-(i+1)/\∃Ei Si Mi acc,CH gs t c f (ds.drop (i+1)) acc Ei Si=Gc (accf,Sf)/\GrX M1 H1 Mi H6/\Mi.tmp=A0::M1.tmp/\EnR K Mi Ei σ4 H6/\StR K Mi Si H6/\H6 A0=Gc (.lst zs)/\Al K Mi H6 zs acc):=
     λ{E6 S6 M6 H6 zs acc6} ec g6 t6 r6 st6 h6 y6=>⟨_,by omega,rfl,E6,S6,M6,acc6,by rw[d2];exact ec,g6,t6,r6,st6,h6,y6⟩
    dsimp only at ec
    split at ec
    .obtain⟨⟨w7,S7⟩,e7,ec⟩:=Ar ec
     refine⟨Mi,E3,Si,true,S5,e5,r4,st3,λH5 M5 g5 st5=>?_⟩
     refine XB ?_
     refine⟨M5,E3,S5,w7,S7,e7,r4.step g5.st,st5,λy H7 M7 g7 st7 d7=>?_⟩
     have nA:∀{M6:Ms} {H6:Hp} {S6:Sto},StR K M6 S6 H6->A0∈M6.tmp->A0∉M6.cel:=λr6 h6=>r6.nt A0 h6
     have hA5:A0∈M5.tmp:=by rw[g5.tmp];exact hA
     have hA7:A0∈M7.tmp:=by rw[g7.tmp];exact hA5
     have hy5:H5 A0=Gc (.lst ys):=g5.keep _ _ hy3 (nA st3 hA)
     have hy7:H7 A0=Gc (.lst ys):=g7.keep _ _ hy5 (nA st5 hA5)
     have ry7:Al K M7 H7 ys acc:=(ry3.step g5.st).step g7.st
     refine⟨hy7,?_⟩
     obtain⟨st8,s8⟩:=st7.Yw (ys:=ys++[y]) hA7
     have gx7:GrX M1 H1 M7 H7:=((gx.trans g3.x).trans g5.x).trans g7.x
     have gx8:GrX M1 H1 M7 (upd H7 A0 (.lst (ys++[y]))):=⟨gx7.pre,gx7.fresh,λa o eo no=>by
      rw[Ae (λz=>by subst z;rw[hD]at eo;cases eo)]
      exact gx7.keep a o eo no,λa ea=>by
      by_cases h:a=A0
      .subst h;rw[A1];intro z;cases z
      .rw[Ae h];exact gx7.some a ea⟩
     exact fin ec gx8 (by rw[g7.tmp,g5.tmp];exact ht) (((r4.step g5.st).step g7.st).step s8) st8 A1 ((ry7.append (.cons d7 .nil)).step s8)
    .refine⟨Mi,E3,Si,false,S5,e5,r4,st3,λH5 M5 g5 st5=>?_⟩
     refine Xj ?_
     exact fin ec ((gx.trans g3.x).trans g5.x) (by rw[g5.tmp];exact ht) (r4.step g5.st) st5 (g5.keep _ _ hy3 (st3.nt A0 hA)) (ry3.step g5.st)
    .cases ec
   .cases ec
  .cases ec
structure DTs(X:Cx)(ifs:Wp lH)(c:Ev):Prop where
 pe:PTs X ifs (tDT X.K c)
theorem Uv{X:Cx}{e:Wp lH}{t t':TT}(h:PTs X e t)(m:∀σ H Q,t' σ H Q->t σ H Q):PTs X e t':=λpins s σ H Q I q=>h pins s σ H Q I (m _ _ _ q)
theorem EN{X:Cx}:DTs X [] Di:=⟨Uv ZC λσ H Q z=>by
 obtain⟨M,E,S,b,S',e,r,st,q⟩:=z
 cases e
 exact q _ M (.refl st.mo) st⟩
theorem F4{X:Cx}{c:lH}{f:Ev}(h:DT X c f):DTs X [c] f:=⟨YB h.pe⟩
section
variable{X:Cx}{N':Wp Str}{cf:lM}{cap:Wp Nat}{m:Nat}{scope:nR}{elt tg iter:lH}{ifs:Wp lH}{pos:Pos}{s:Sr}{t:Tf}{c f:Ev}
def Blk(X:Cx)(N':Wp Str)(scope:nR)(tg:lH)(ifs:Wp lH)(elt:lH)(t:Tf)(c f:Ev):Prop:=
 ∀(s:kM) (H:Hp) (fp:Wp kQ),DG (Cc X N' scope s H fp) tg t/\DTs (Cc X N' scope s H fp) ifs c/\DE (Cc X N' scope s H fp) elt f
theorem EM(cap:Wp Nat)(m:Nat)(N':Wp Str)(hc:X.calm=true)(S:AZ X.N X.env.scope N' (ixC cap m) scope)(hi:DI X tg iter s)(hb:Blk X N' scope tg ifs elt t c f)(hs:∀x,foldedSetIterable iter X.env x=pure x:=by intro _;rfl):DE X (.ListComp elt [⟨tg,iter,ifs,0⟩] scope pos) (Lg cf cap m s t c f):=⟨
 Bh (YM (g:=tG X.K t) (tc:=tDT X.K c) (te:=tD X.K f) hc S hi.pe (λs H fp=>⟨(hb s H fp).1.pe,(hb s H fp).2.1.pe,(hb s H fp).2.2.pe⟩) hs) λ_ _ _ h=>Q0 h⟩
theorem Dc{i:Nat}{y:Str}{py spos:Pos}(cap:Wp Nat)(m:Nat)(N':Wp Str)(hc:X.calm=true)(hN:X.N.Nodup)(hi':X.N[i]?=Gc y)(hx:X.env.scope.names.lookup y=Gc .local)(S:AZ X.N X.env.scope N' (ixC cap m) scope)(hi:DI X tg iter s)(hb:Blk X N' scope tg ifs elt t c f)(hsw:swapsWith (.ListComp elt [⟨tg,iter,ifs,0⟩] scope pos) (Gc (.Name y py)) spos.line X.env=pure true:=by rfl)(hs:∀x,foldedSetIterable iter X.env x=pure x:=by intro _;rfl):DS X (.Assign [.Name y py] (.ListComp elt [⟨tg,iter,ifs,0⟩] scope pos) spos) (BK i (Lg cf cap m s t c f)):=⟨
 FV (QW (g:=tG X.K t) (tc:=tDT X.K c) (te:=tD X.K f) hc hN hi' hx S hi.pe (λs H fp=>⟨(hb s H fp).1.pe,(hb s H fp).2.1.pe,(hb s H fp).2.2.pe⟩) hsw hs) λDn σ H z=>by
  obtain⟨M,E,S,fl,E',S',e,r,st,q⟩:=z
  obtain⟨⟨d,S1⟩,e1,e⟩:=JQ e
  cases e
  exact Q0 ⟨M,E,S,d,S1,e1,r,st,λv H1 M1 g1 st1 r1=>q _ _ M1 g1 ((r.step g1.st).put r1) st1⟩⟩
end
noncomputable def IQ{α:Type}(xs:Wp α)(lo hi:kN Int):Wp α:=(xs.drop (HT.sIx xs.length 0 lo)).take (HT.sIx xs.length xs.length hi-HT.sIx xs.length 0 lo)
theorem R6{K:kJ}{M:Ms}{H:Hp}{xs:Wp V}{ds:Wp D}(h:Al K M H xs ds)(lo hi:kN Int):Al K M H (Wn xs lo hi) (IQ ds lo hi):=by
 unfold Wn IQ
 rw[h.length]
 exact(h.drop _).take _
theorem SG{α:Type}{xs:Wp α}{lo hi:kN Int}(h1:HT.sIx xs.length 0 lo=0)(h2:HT.sIx xs.length xs.length hi=xs.length):IQ xs lo hi=xs:=by
 unfold IQ
 rw[h1,h2]
 simp
noncomputable def wSl(lo hi:kN Int):Op1:=λw=>match w with
 | .val (.tup ds)=>Gc (.val (.tup (IQ ds lo hi)))
 | .val (.str z)=>if z.length<=sizeLine then Gc (.val (.str (ya z lo hi)))else none
 |w=>(asL w).map λds=>.own (IQ ds lo hi)
def jq(K:kJ):V->kN Int->kN Int->Hp->VK->Prop:=λx lo hi H Q=>∃M w r,wSl lo hi w=Gc r/\MOk M H/\Sh K M H x w/\∀v H',Nw K M H H' v r->Q v H'
theorem Zy{X:Cx}:SlR X (λx lo hi H Q=>∃z,x=.str z/\z.length<=sizeLine/\Q (.str (ya z lo hi)) H):=by
 intro pins s σ H x v vl vu lo hi sl Q I rx hs pl pu h
 obtain⟨z,rfl,hz,q⟩:=h
 obtain⟨t,rfl⟩:=rx
 have fin:∀t' k,EP X pins σ Q (.str (ya z lo hi) t') {s with toks:=k}:=λt' k=>⟨.str _,H,I.tok k,⟨t',rfl⟩,q⟩
 cases pl with
 |none=>
  cases pu with
  |none=>exact⟨"str",_,oj.lookup,tS _ _ _,pC (l:=none) (u:=none) (st:=none) hs rfl (rO ⟨kY (tW z _ _) hz,fin⟩)⟩
  |int j u=>exact⟨"str",_,oj.lookup,tS _ _ _,pC (l:=none) (u:=Gc (j,u)) (st:=none) hs rfl (rO ⟨kY (tW z _ _) hz,fin⟩)⟩
 |int i u'=>
  cases pu with
  |none=>exact⟨"str",_,oj.lookup,tS _ _ _,pC (l:=Gc (i,u')) (u:=none) (st:=none) hs rfl (rO ⟨kY (tW z _ _) hz,fin⟩)⟩
  |int j u=>exact⟨"str",_,oj.lookup,tS _ _ _,pC (l:=Gc (i,u')) (u:=Gc (j,u)) (st:=none) hs rfl (rO ⟨kY (tW z _ _) hz,fin⟩)⟩
theorem fZ{X:Cx}:SlR X (jq X.K):=by
 intro pins s σ H x v vl vu lo hi sl Q I rx hs pl pu h
 obtain⟨M,w,r,e,mo,sh,q⟩:=h
 unfold wSl at e
 split at e
 .rename_i ds
  cases e
  cases sh with
  |tup hx rr=>
   rename_i a xs
   have hl:=rr.length
   by_cases hw:HT.sIx xs.length 0 lo=0/\HT.sIx xs.length xs.length hi=xs.length
   .refine St.a9 pins s σ H _ v vl vu lo hi sl Q I rx hs pl pu ⟨a,xs,rfl,hx,hw.1,hw.2,?_⟩
    have ew:IQ ds lo hi=ds:=SG (by rw[<-hl];exact hw.1) (by rw[<-hl];exact hw.2)
    rw[ew]at q
    exact q _ _ (.same mo (.tup hx rr))
   .exact ay pins s σ H _ v vl vu lo hi sl Q I rx hs pl pu ⟨a,xs,rfl,hx,hw,λp hp=>q _ _ (.tup mo hp (R6 rr lo hi))⟩
 .split at e
  .cases e
   cases sh
   exact Zy pins s σ H _ v vl vu lo hi sl Q I rx hs pl pu ⟨_,rfl,by assumption,q _ _ (.same mo (.str _))⟩
  .cases e
 .cases e1:asL w with
  |none=>rw[e1]at e;cases e
  |some ds=>
   rw[e1]at e
   cases e
   obtain⟨a,xs,rfl,h1,rr⟩:=sh.l e1
   exact YR pins s σ H _ v vl vu lo hi sl Q I rx hs pl pu ⟨a,xs,rfl,.of h1,λp hp=>q _ _ (.lst mo hp (R6 rr lo hi))⟩
noncomputable def ZO:Wv->kN Int
 | .val (.int i)=>Gc i
 |_=>none
noncomputable def HC(l h:lM):OpN:=λws=>match l,h,ws with
 |false,false,[a]=>wSl none none a
 |true,false,[a,b]=>(ZO b).bind λi=>wSl (Gc i) none a
 |false,true,[a,b]=>(ZO b).bind λi=>wSl none (Gc i) a
 |true,true,[a,b,c]=>(ZO b).bind λi=>(ZO c).bind λj=>wSl (Gc i) (Gc j) a
 |_,_,_=>none
theorem R0{K:kJ}{M:Ms}{H:Hp}{v:V}{w:Wv}{i:Int}(s:Sh K M H v w)(e:ZO w=Gc i):v=.int i:=by
 cases w with
 |own ds=>cases e
 |val d=>
  cases d<;>first|(cases e;done)|skip
  cases e;cases s;rfl
section
variable{X:Cx}{e lo hi:lH}{oe ol oh:Ev}{c:lM}{pos p2:Pos}
theorem Ha(h:DE X e oe)(hl:DE X lo ol):DE X (.Subscript e (.Slice (Gc lo) none none p2) pos) (L9 c (HC true false) [oe,ol]):=⟨Bh (Mg fZ h.pe (Md hl.pe) Sv) λσ H Q z=>by
 obtain⟨M0,E,S0,w,S1,e,r,st,q⟩:=z
 have z:tD X.K oe σ H λx H1=>tD X.K ol σ H1 λy H2=>rN X.K (HC true false) [x,y] H2 Q:=KP (Q:=Q) e r st q
 refine Hi z λx H1 z1=>Hi z1 λy H2 z2=>?_
 obtain⟨M,ws,w',e1,mo,sh,q1⟩:=z2
 cases sh with
 |cons h1 t=>
  cases t with
  |cons h2 t=>
   cases t
   obtain⟨i,ei,e1⟩:=Ar e1
   exact⟨i,R0 h2 ei,M,_,w',e1,mo,h1,q1⟩⟩
theorem F9(h:DE X e oe)(hh:DE X hi oh):DE X (.Subscript e (.Slice none (Gc hi) none p2) pos) (L9 c (HC false true) [oe,oh]):=⟨Bh (Mg fZ h.pe Sv (Md hh.pe)) λσ H Q z=>by
 obtain⟨M0,E,S0,w,S1,e,r,st,q⟩:=z
 have z:tD X.K oe σ H λx H1=>tD X.K oh σ H1 λy H2=>rN X.K (HC false true) [x,y] H2 Q:=KP (Q:=Q) e r st q
 refine Hi z λx H1 z1=>Hi z1 λy H2 z2=>?_
 obtain⟨M,ws,w',e1,mo,sh,q1⟩:=z2
 cases sh with
 |cons h1 t=>
  cases t with
  |cons h2 t=>
   cases t
   obtain⟨i,ei,e1⟩:=Ar e1
   exact⟨i,R0 h2 ei,M,_,w',e1,mo,h1,q1⟩⟩
theorem Rw{K:kJ}{M:Ms}{H:Hp}{S:Sto}{v:V}{d:D}{i:Int}(r:C1 K M H v d)(e:ZO (dr S d)=Gc i):v=.int i:=by
 cases r<;>first|(cases e;done)|skip
 .cases e;rfl
 .rename_i n h
  unfold dr at e
  dsimp only at e
  split at e<;>cases e
theorem YK(h:DE X e oe)(hl:DE X lo ol)(hh:DE X hi oh):DE X (.Subscript e (.Slice (Gc lo) (Gc hi) none p2) pos) (L9 c (HC true true) [oe,ol,oh]):=⟨Bh (Mg fZ h.pe (Md hl.pe) (Md hh.pe)) λσ H Q z=>by
 obtain⟨M0,E,S0,w,S1,e,r,st,q⟩:=z
 obtain⟨⟨ds,S2⟩,e1,e⟩:=Ar e
 obtain⟨w2,e2,e⟩:=Ar e
 obtain⟨⟨d1,Sa⟩,ea,e1⟩:=Ar e1
 obtain⟨⟨ds1,Sb⟩,eb,e1⟩:=JQ e1
 cases e1
 obtain⟨⟨d2,Sc⟩,ec,eb⟩:=Ar eb
 obtain⟨⟨ds2,Sd⟩,ed,eb⟩:=JQ eb
 cases eb
 obtain⟨⟨d3,Se⟩,ee,ed⟩:=Ar ed
 obtain⟨⟨ds3,Sf⟩,ef,ed⟩:=JQ ed
 cases ed
 cases ef
 obtain⟨i,ei,e2⟩:=Ar e2
 obtain⟨j,ej,e2⟩:=Ar e2
 refine⟨M0,E,S0,d1,Sa,ea,r,st,λx H1 M1 g1 st1 r1=>?_⟩
 refine⟨M1,E,Sa,d2,Sc,ec,r.step g1.st,st1,λy H2 M2 g2 st2 r2=>⟨i,?_,?_⟩⟩
 .exact Rw r2 ei
 refine⟨M2,E,Sc,d3,Se,ee,(r.step g1.st).step g2.st,st2,λu H3 M3 g3 st3 r3=>⟨j,?_,?_⟩⟩
 .exact Rw r3 ej
 refine⟨M3,_,w2,e2,st3.mo,ZG st3 ((r1.step g2.st).step g3.st),λv H4 n=>?_⟩
 obtain⟨M4,g4,st4,d4⟩:=n.fin st3 e
 exact q v H4 M4 (((g1.trans g2).trans g3).trans g4) st4 d4⟩
structure j4(K:kJ)(mg:Str->kN kL)(x:Str)(d:D):Prop where
 ex:∃v u,mg x=Gc u/\RelV v u/\∀M H,C1 K M H v d
theorem QR{x:Str}{T:oY}(hg:Gl X x)(hm:X.mg x=none)(hv:bootBuiltins x=Gc (.type T))(hn:x≠ "__name__":=by decide)(hd:(x==("__debug__":Str))=false:=by decide):DE X (.Name x pos) (eC (.ty T)):=
 N9 (X2 (v:=.ty T) hg hm hv rfl hn hd) λ_ _ _=>.ty T
structure j8(K:kJ)(w:lO)(mg:Str->kN kL)(x:Str)(tbl:Wp (Str×D)):Prop where
 ex:∃a kvs,mg x=Gc (.ref a)/\TopD K w a kvs/\∀k,(tbl.lookup k=none->kvs.lookup k=none)/\∀d,tbl.lookup k=Gc d->∃v,kvs.lookup k=Gc v/\∀M H,C1 K M H v d
end
noncomputable def Mw:Nat->Wp D->Wp D
 |_,[]=>[]
 |k,d::ds=>.tup [.int k,d]::Mw (k+1) ds
theorem Jp:∀{ds:Wp D} {k i:Nat},(Mw k ds)[i]?=(ds[i]?).map λd=>.tup [.int ((k+i:Nat):Int),d]
 | [],k,i=>by simp[Mw]
 |d::ds,k,0=>by simp[Mw]
 |d::ds,k,i+1=>by
  simp only[Mw,List.getElem?_cons_succ]
  rw[Jp,show k+1+i=k+(i+1) by lia]
theorem L8:∀{ds:Wp D} {k:Nat},(Mw k ds).length=ds.length
 | [],k=>rfl
 |d::ds,k=>by simp[Mw,L8 (ds:=ds)]
theorem SqF.sqB{K:kJ}{M:Ms}{H:Hp}{gs:Gd}{k:lM}{a:kQ}{ds:Wp D}(h:SqF K M H gs k a ds){H2:Hp}{M2:Ms}{S2:Sto}(g:Sp1 M H M2 H2)(st:StR K M2 S2 H2)(ok:gOk gs S2):∃xs,SqB K H2 k a xs/\Al K M2 H2 xs ds:=by
 obtain⟨xs,h1,h2⟩:=h.keep H2 M2 S2 g st ok
 refine⟨xs,?_,h2⟩
 cases k with
 |true=>exact h1
 |false=>exact h1
theorem bI{K:kJ}{M:Ms}{H:Hp}{gs:Gd}{k:lM}{a:kQ}{ds:Wp D}(h:SqF K M H gs k a ds):bc K M H gs (Mw 0 ds) (ItE K k a) where
 go:=λi H2 M2 S2 g st ok hi=>by
  rw[L8]at hi
  obtain⟨xs,h1,h2⟩:=h.sqB g st ok
  obtain⟨x,hx⟩:=h2.get' hi
  exact⟨xs,x,h1,hx⟩
 stop:=λi H2 M2 S2 g st ok hi=>by
  rw[L8]at hi
  obtain⟨xs,h1,h2⟩:=h.sqB g st ok
  exact⟨xs,h1,by have:=h2.length;lia⟩
 yld:=λi H2 M2 S2 x H3 d g st ok hd hy=>by
  obtain⟨xs,h1,h2⟩:=h.sqB g st ok
  obtain⟨p,y,hp,rfl,hy,rfl⟩:=hy
  have hx:=hy xs h1
  rw[Jp]at hd
  obtain⟨d0,e,hd⟩:=JQ hd
  subst hd
  obtain⟨x',h3,h4⟩:=h2.get e
  rw[hx]at h3;cases h3
  have k3:=FF (o:=.tup [.int i,y]) hp
  refine⟨k3,.tup (.of A1) (.cons ?_ (.cons (h4.step (Gr.grow st.mo k3).st) .nil))⟩
  rw[ql]
  exact .int _
noncomputable def Ta(f:Ev):Sr:=λE S=>(f E S).bind λr=>(sqD r.2 r.1).map λp=>((Mw 0 p.1,p.2),r.2)
theorem OE{X:Cx}{a:lH}{f:Ev}{p pos tp:Pos}{elts:Wp lH}{k:Nat}(hg:Gl X "enumerate")(hm:X.mg "enumerate"=none)(ha:DE X a f)(hs:k9 [a] X.env=[(false,eval a X.env)]:=by rfl):DI X (.Tuple elts k tp) (.Call (.Name "enumerate" p) [a] [] pos) (Ta f):=⟨
 Mq (Ul hg hm (Mv ha.pe Qw (by rw[hs];rfl)) hs) λσ H R z=>by
  obtain⟨M,E,S,ds,gs,S',e,r,st,q⟩:=z
  obtain⟨⟨d,S1⟩,e1,e⟩:=Ar e
  obtain⟨⟨ds',gs'⟩,e2,e⟩:=JQ e
  cases e
  refine⟨M,E,S,d,S1,e1,r,st,λv H1 M1 g1 st1 r1=>?_⟩
  obtain⟨k,a,rfl,sq⟩:=PH st1 r1 e2
  obtain⟨xs,hs,_⟩:=sq.sqB (Gr.refl st1.mo).st st1 (MO e2)
  exact⟨k,a,rfl,⟨xs,hs⟩,q _ _ M1 g1 st1 (bI sq)⟩⟩
noncomputable def ON(ds es:Wp D):Wp D:=(ds.zip es).map λp=>.tup [p.1,p.2]
theorem WQ{ds es:Wp D}{i:Nat}{d:D}(h:(ON ds es)[i]?=Gc d):∃x y,ds[i]?=Gc x/\es[i]?=Gc y/\d=.tup [x,y]:=by
 unfold ON at h
 simp only[lC,Option.map_eq_some_iff]at h
 obtain⟨⟨x,y⟩,h1,h2⟩:=h
 rw[sH]at h1
 exact⟨x,y,h1.1,h1.2,h2.symm⟩
theorem Jv{ds es:Wp D}:(ON ds es).length=min ds.length es.length:=by simp[ON]
theorem SqF.more{K:kJ}{M:Ms}{H:Hp}{gs gs':Gd}{k:lM}{a:kQ}{ds:Wp D}(h:SqF K M H gs k a ds)(s:∀g∈gs,g∈gs'):SqF K M H gs' k a ds:=⟨λH2 M2 S2 g st ok=>h.keep H2 M2 S2 g st λx hx=>ok x (s x hx)⟩
theorem bF{K:kJ}{M:Ms}{H:Hp}{gs:Gd}{k m:lM}{a b:kQ}{ds es:Wp D}(h:SqF K M H gs k a ds)(h':SqF K M H gs m b es):bc K M H gs (ON ds es) (Itz K k a m b) where
 go:=λi H2 M2 S2 g st ok hi=>by
  rw[Jv]at hi
  obtain⟨xs,h1,r⟩:=h.sqB g st ok
  obtain⟨ys,h2,r'⟩:=h'.sqB g st ok
  obtain⟨x,hx⟩:=r.get' (show i<ds.length by lia)
  obtain⟨y,hy⟩:=r'.get' (show i<es.length by lia)
  exact⟨xs,ys,x,y,h1,h2,hx,hy⟩
 stop:=λi H2 M2 S2 g st ok hi=>by
  rw[Jv]at hi
  obtain⟨xs,h1,r⟩:=h.sqB g st ok
  obtain⟨ys,h2,r'⟩:=h'.sqB g st ok
  have:=r.length
  have:=r'.length
  exact⟨xs,ys,h1,h2,by lia⟩
 yld:=λi H2 M2 S2 x H3 d g st ok hd hy=>by
  obtain⟨xs,h1,r⟩:=h.sqB g st ok
  obtain⟨ys,h2,r'⟩:=h'.sqB g st ok
  obtain⟨p,x1,y1,hp,rfl,q1,q2,rfl⟩:=hy
  obtain⟨d1,d2,e1,e2,rfl⟩:=WQ hd
  have hx:=q1 xs h1
  have hy:=q2 ys h2
  obtain⟨x',h3,h4⟩:=r.get e1
  obtain⟨y',h5,h6⟩:=r'.get e2
  rw[hx]at h3;cases h3
  rw[hy]at h5;cases h5
  have k3:=FF (o:=.tup [x1,y1]) hp
  exact⟨k3,.tup (.of A1) (.cons (h4.step (Gr.grow st.mo k3).st) (.cons (h6.step (Gr.grow st.mo k3).st) .nil))⟩
noncomputable def bZ(f g:Ev):Sr:=λE S=>(evs [f,g] E S).bind λr=>match r.1 with
 | [d,e]=>(sqD r.2 d).bind λp=>(sqD r.2 e).map λq=>((ON p.1 q.1,p.2++q.2),r.2)
 |_=>none
theorem W3{X:Cx}{a b:lH}{f g:Ev}{p pos tp:Pos}{elts:Wp lH}{k:Nat}(hg:Gl X "zip")(hm:X.mg "zip"=none)(ha:DE X a f)(hb:DE X b g)(hs:k9 [a,b] X.env=[(false,eval a X.env),(false,eval b X.env)]:=by rfl)(hs2:k9 [b] X.env=[(false,eval b X.env)]:=by rfl):DI X (.Tuple elts k tp) (.Call (.Name "zip" p) [a,b] [] pos) (bZ f g):=⟨
 Mq (Z5 hg hm (AA ha (AA hb AD hs2) (by rw[hs,hs2])).pe hs hs2) λσ H R z=>by
  obtain⟨M,E,S,ds,gs,S',e,r,st,q⟩:=z
  obtain⟨⟨ws,S1⟩,e1,e⟩:=Ar e
  refine HF (fs:=[f,g]) e1 r st λvs H1 M1 g1 st1 r1=>?_
  dsimp only at e
  split at e
  .obtain⟨⟨ds1,gs1⟩,eu,e⟩:=Ar e
   obtain⟨⟨ds2,gs2⟩,ee,e⟩:=JQ e
   cases e
   cases r1 with
   |cons h1 t=>
    cases t with
    |cons h2 t=>
     cases t
     obtain⟨k1,a1,rfl,s1⟩:=PH st1 h1 eu
     obtain⟨k2,a2,rfl,s2⟩:=PH st1 h2 ee
     obtain⟨xs,hxs,_⟩:=s1.sqB (Gr.refl st1.mo).st st1 (MO eu)
     obtain⟨ys,hys,_⟩:=s2.sqB (Gr.refl st1.mo).st st1 (MO ee)
     exact⟨_,_,_,_,rfl,⟨_,hxs⟩,⟨_,hys⟩,q _ _ M1 g1 st1 (bF (s1.more λx hx=>rB _ hx) (s2.more λx hx=>lK _ hx))⟩
  .cases e⟩
noncomputable def intD:D->kN Int
 | .int i=>Gc i
 |_=>none
noncomputable def Je(ds:Wp D):kN (Wp Int):=ds.mapM intD
theorem Kp{K:kJ}{M:Ms}{H:Hp}:∀{vs:Wp V} {ds:Wp D} {ns:Wp Int},Al K M H vs ds->Je ds=Gc ns->vs=ns.map V.int
 |_,_,ns,.nil,e=>by cases e;rfl
 |_,_,ns,.cons (d:=d) (ds:=ds) h t,e=>by
  unfold Je at e
  rw[sC]at e
  cases e1:intD d with
  |none=>rw[e1]at e;cases e
  |some b=>
   rw[e1]at e
   cases e2:ds.mapM intD with
   |none=>rw[e2]at e;cases e
   |some cs=>
    rw[e2]at e
    cases e
    have hd:d=.int b:=by
     cases d<;>first|(cases e1;done)|skip
     cases e1;rfl
    subst hd
    cases h
    rw[kq,<-Kp t e2]
theorem Q5{X:Cx}(hc:X.calm=true):DQ X (.builtin "sum") (λxs H Q=>∃(p:kQ) (ns:Wp Int),xs=[.ref p]/\SqL X.K H p (ns.map V.int)/\Q (.int ns.sum) H):=by
 intro pins s σ H xs us Q I r h
 obtain⟨p,ns,rfl,hp,q⟩:=h
 obtain⟨u,rfl,ru⟩:=r.one
 cases (show u=mF p from ru)
 obtain⟨its,rv,pl,hz⟩:=I.list hp
 have hd:X.A.in1.handled=none:=I.ok.hd hc
 refine call_sum_walkG (mY pl.isList ?_)
 have hlen:ns.length=its.length:=by have:=rv.length;simpa using this
 have hpl:=pl.isList
 have hlt:p<s.heap.objs.size:=by
  obtain⟨o,ho,_⟩:=hpl
  exact kf ho
 refine⟨s.heap.objs.size,_,_,its.length,_,_,λi=>ns.getD i 0,rfl,St.Iw (vs:=its) hd (ki hlt),⟨⟨_,kZ _ rfl,rfl,rfl⟩,?_⟩,?_,?_,?_⟩
 .obtain⟨o,ho,r⟩:=hpl
  exact⟨o,kK _ ho,r⟩
 .intro b hb
  rw[lG]
  simp at hb
  rcases hb with h|h
  .rw[h];exact nv _
  .rw[h];exact mQ hlt
 .intro i v hv
  have hi:i<its.length:=(ke.mp hv).1
  have hb:(ns.map V.int)[i]?=Gc (.int (ns.getD i 0)):=by
   rw[lC,kS (by lia)]
   simp[kg,kS (show i<ns.length by lia)]
  obtain⟨u,hu,ru⟩:=rv.get hb
  rw[hv]at hu
  cases hu
  exact ru
 .intro h' tk t' hk
  have e:preSum (λi=>ns.getD i 0) its.length=ns.sum:=by
   rw[<-hlen,St.Kn (kR _),pJ (kR _)]
  rw[e]
  exact⟨.int _,H,I.kept (t':=tk) λb o eb=>hk b o (by simp;exact ki (kf eb)) (kK _ eb),⟨_,rfl⟩,q⟩
noncomputable def Xd:Op1:=λw=>(asL w).bind λds=>(Je ds).map λns=>.val (.int ns.sum)
theorem KW{X:Cx}(hc:X.calm=true):DQ X (.builtin "sum") (rN X.K (o1 Xd)):=by
 intro pins s σ H xs us Q I r h
 obtain⟨M,ws,w,e,mo,sh,q⟩:=h
 obtain⟨v,w1,rfl,rfl,s1,e1⟩:=GH sh e
 obtain⟨ds,e2,e1⟩:=Ar e1
 obtain⟨ns,e3,e1⟩:=JQ e1
 cases e1
 obtain⟨a,ys,rfl,h3,h4⟩:=s1.l e2
 exact Q5 hc pins s σ H _ us Q I r ⟨a,ns,rfl,by rw[<-Kp h4 e3];exact .of h3,q _ _ (.same mo (.int _))⟩
noncomputable def Ku(ns:Wp Int):Wp Int:=ns.mergeSort (λa b=>decide (a<=b))
theorem G7(ns:Wp Int):(Ku ns).Perm ns:=rQ _ _
theorem Li(ns:Wp Int):(Ku ns).Pairwise (· <= ·):=by
 have:=qc (le:=λ(a b:Int)=>decide (a<=b)) (λa b c h1 h2=>by simp at *; lia) (λa b=>by simp;lia) ns
 unfold Ku
 exact this.imp λh=>kj h
theorem QC{ns ms:Wp Int}(p:ms.Perm ns)(s:ms.Pairwise (· <= ·)):ms=Ku ns:=PySem.W.ksm_same (p.trans (G7 ns).symm) s (Li ns)
theorem intsAre_of:∀{ns:Wp Int} {its:Wp kL},Vals (ns.map V.int) its->nV its ns
 | [],_,.nil=>.nil
 |n::ns,_,.cons h t=>by
  obtain⟨tk,rfl⟩:=h
  exact .cons n tk (intsAre_of t)
theorem Gw:∀{ns:Wp Int} {its:Wp kL},nV its ns->Vals (ns.map V.int) its
 |_,_,.nil=>.nil
 |_,_,.cons n tk t=>.cons ⟨tk,rfl⟩ (Gw t)
theorem Mm(l:kQ)(items:lE kL)(n:Nat)(b:kQ)(items2:lE kL)(n2:Nat)(dd:kN kQ)(sl:lE (kN kL))(hs0:¬(!items.isEmpty && mv (items.size+items2.size))=true)(hs1:items.size<=sizeLine)(hs2:items.size+items2.size<=sizeLine+1):Meets (nJ.«list.extend» ⟨[.ref l,.ref b],[]⟩) (λ_ R s=>s.heap.get? l=Gc {cls:=.type "list",dict:=none,data:=.seq items n,slots:= #[]}/\s.heap.get? b=Gc {cls:=.type "tuple",dict:=dd,data:=.seq items2 n2,slots:=sl}/\R (.ok (.ret mW)) {s with heap:=s.heap.update l (lX λx=>x++items2),toks:=s.toks}):=
 .of_wp λprog w A R s h=>by
  obtain⟨hp,g,d,tk,os⟩:=s;obtain⟨hl,hb,h⟩:=h;have f1:=AutoSeq1.idx_int;have f2:=yC;have f3:=zI;have f4:=yc;have f5:=yd
  have hz':(items++items2).size<=sizeLine+1:=by rw[Array.size_append];exact hs2
  wp_walk using(pS hl rfl (hz:=hs1) (_hz':=hz')),lB hl,lB hb;exact⟨_,rfl,h⟩
def WJ(K:kJ):V->Wp V->Hp->VK->Prop:=λx vs H Q=>∃l b xs zs,x=.ref l/\vs=[.ref b]/\H l=Gc (.lst xs)/\SqT K H b zs/\xs.length+zs.length<=sizeLine/\Q .non (upd H l (.lst (xs++zs)))
theorem QX{X:Cx}:MtM X "list.extend" (WJ X.K):=by
 intro pins s σ H x vs v us Q I rx rv h
 obtain⟨l,b,xs,zs,rfl,rfl,hH,hB,hz,q⟩:=h
 cases rx
 obtain⟨u,rfl,ru⟩:=rv.one
 cases ru
 obtain⟨z,its,n,r,hl,e⟩:=I.Wc hH
 obtain⟨its2,r2,⟨⟨c,dd,dt,sl⟩,e2,hc,n2,hd⟩,z2⟩:=I.tuple hB
 simp only at hc hd
 subst hc hd
 have hl2:=r2.length
 have hsz:its.toArray.size+its2.toArray.size<=sizeLine:=by rw[kh,kh];lia
 have hlong:¬(!its.toArray.isEmpty && mv (its.toArray.size+its2.toArray.size))=true:=by
  rw[Mp hsz,rm]
  exact l8
 refine qy rD ⟨_,e,rfl⟩ uk (uQ _ _)
  (Mm l its.toArray n b its2.toArray n2 dd sl hlong (by rw[kh];lia) (by lia)) ⟨e,e2,?_⟩
 refine⟨.non,_,I.gN (its':=its++its2) hH e (by simp) (r.append r2) ?_,rfl,q⟩
 rw[lQ]
 lia
noncomputable def c8:Mo
 |S,ds,[x]=>match dr S x with
  | .val (.tup zs)=>if ds.length+zs.length<=sizeLine then Gc (.non,ds++zs)else none
  |w=>(asL w).bind λzs=>if ds.length+zs.length<=sizeLine then Gc (.non,ds++zs)else none
 |_,_,_=>none
theorem ZA{X:Cx}:MtR X "list.extend" (cZ X.K c8):=by
 intro pins s σ H x vs v us Q I rx rv h
 obtain⟨M,S,n,a,ds,args,d,ds',rfl,hc,hn,e,st,ra,q⟩:=h
 unfold c8 at e
 split at e
 .obtain⟨xs,h1,h2⟩:=st.cell n a _ hc hn
  obtain⟨y,rfl,ry⟩:=Pb ra
  have sy:=ZG st ry
  split at e
  .rename_i ed
   rw[ed]at sy
   split at e
   .rename_i hz
    cases e
    cases sy with
    |tup hx rr=>
     obtain⟨st2,g2⟩:=st.chg hc hn (h2.append rr)
     exact QX pins s σ H _ _ v us Q I rx rv ⟨a,_,xs,_,rfl,rfl,h1,hx,by rw[h2.length,rr.length];exact hz,q _ _ st2 g2 .non⟩
   .cases e
  .obtain⟨zs,e1,e⟩:=Ar e
   split at e
   .rename_i hz
    cases e
    obtain⟨b,ys,rfl,h3,h4⟩:=sy.l e1
    obtain⟨st2,g2⟩:=st.chg hc hn (h2.append h4)
    exact SF pins s σ H _ _ v us Q I rx rv ⟨a,b,xs,ys,rfl,rfl,h1,h3,by rw[h2.length,h4.length];exact hz,q _ _ st2 g2 .non⟩
   .cases e
 .cases e
theorem VN{X:Cx}:OpR X (binaryOp .Mult) (λx y H Q=>∃a xs k,x=.ref a/\y=.int k/\SqT X.K H a xs/\xs≠[]/\k<=0/\ -(2^63)<=k/\∀p,H p=none->Q (.ref p) (upd H p (.tup []))):=by
 intro pins s σ H x y v u Q I rx ry h
 obtain⟨a,xs,k,rfl,rfl,hx,hne,hk,hk2,q2⟩:=h
 cases rx
 obtain⟨t,rfl⟩:=ry
 obtain⟨its,r,⟨⟨c,dd,data,sl⟩,ho,hc,n,hd⟩,hzz⟩:=I.tuple hx
 simp only at hc hd
 subst hc hd
 have hl:=r.length
 have hpos:0<xs.length:=um.mpr hne
 refine qJ (T:="tuple") (U:="int") (by decide) ⟨_,ho,rfl⟩ (λs'=>qx s' k t) GP t7 pR JE tF.lookup
  (qy pR (qx s k t) tH (sT _ _) (HG k t a its.toArray n dd sl) ⟨ho,rfl,⟨_,ho,rfl⟩,?_⟩)
 refine lg qz ⟨_,ho,rfl⟩ ve ?_ (vF _ _)
 unfold nJ.«tuple.__mul__»
 wp_walk using lB ho
 rw[lJ (show¬(decide (k< -2^63)||decide (k≥2^63))=true by
  rw[mU]
  rintro (z|z)
  .have:=kj z;lia
  .have:=kj z;lia)]
 wp_walk using lB ho
 have hemp:its.toArray.isEmpty=false:=by
  cases its with
  |nil=>rw[qT]at hl;lia
  |cons b bs=>rfl
 rw[lJ (show¬(its.toArray.isEmpty||k==1)=true by
  rw[hemp,Bool.false_or]
  intro z
  have:=eq_of_beq z
  lia)]
 wp_walk using lB ho
 all_goals first
  |exact⟨_,rfl,.ref _,_,I.laid (o:=.tup []) (t':=s.toks) (λb ob q=>kK _ q) (kR _) ⟨mI _,[],.nil,qM _ _⟩,rfl,q2 _ (I.hok.fresh (kR _))⟩
  |(exfalso
    rename_i hh
    exact hh (by rw[mU];exact .inl (nT hk)))
noncomputable def Fb:Op2:=λa b=>match a,b with
 | .val (.tup xs),.val (.int k)=>if(!xs.isEmpty && decide (k<=0) && decide (-(2^63)<=k))=true then Gc (.val (.tup []))else cG (.val (.tup xs)) (.val (.int k))
 |a,b=>cG a b
theorem CI{X:Cx}:OpR X (binaryOp .Mult) (rOp X.K Fb):=by
 intro pins s σ H x y v u Q I rx ry h
 obtain⟨M,w1,w2,r,e,mo,s1,s2,q⟩:=h
 unfold Fb at e
 split at e
 .split at e
  .rename_i xs k hk
   rw[kn,kn]at hk
   cases e
   cases s2
   cases s1 with
   | @tup a ys _ h1 r1=>
     have hne:ys≠[]:=λzz=>by
      subst zz
      cases r1
      exact absurd hk.1.1 (by decide)
     exact VN pins s σ H _ _ v u Q I rx ry ⟨a,ys,k,rfl,rfl,h1,hne,kj hk.1.2,kj hk.2,λp hp=>q _ _ (.tup mo hp .nil)⟩
  .exact So pins s σ H x y v u Q I rx ry ⟨M,_,_,r,e,mo,s1,s2,q⟩
 .exact So pins s σ H x y v u Q I rx ry ⟨M,_,_,r,e,mo,s1,s2,q⟩
theorem RD{A:lV}{k:Nat}(hr:Ky k A):A.units+100<cLine:=by have:=hr.un;lia
section
variable{P:k8}{w:lO}{K:kJ}{mg:Str->kN kL}{base:lP}
theorem O9{x:Str}{st:mH}{k np:Nat}{ps:Wp Str}(S:St.Src K mg x st)(hbi:∀f fd,Fun K x x st f fd->Binds K fd ps []):St.Dfn P w K mg base x k ps (spD K np λ_ _=>none):=by
 obtain⟨f,fd,Fu,hm⟩:=S.ex
 refine⟨f,fd,hm,Fu.kp,hbi f fd Fu,⟨λvs H Q E h=>?_,λA outer s H args us vs Q E hr h0 hb hv h=>?_⟩⟩
 .obtain⟨_,_,_,_,_,_,e,_⟩:=h;cases e
 .obtain⟨_,_,_,_,_,_,e,_⟩:=h;cases e
end
noncomputable def scE:Nat->lH->Wp nR
 |0,_=>[]
 |n+1,.ListComp e gs s _=>s::(gs.flatMap λg=>scE n g.iter)++scE n e++(gs.flatMap λg=>g.ifs.flatMap (scE n))
 |n+1,.BoolOp _ vs _=>vs.flatMap (scE n)
 |n+1,.Call f as _ _=>scE n f++as.flatMap (scE n)
 |n+1,.BinOp a _ b _=>scE n a++scE n b
 |n+1,.UnaryOp _ a _=>scE n a
 |n+1,.Compare a _ cs _=>scE n a++cs.flatMap (scE n)
 |n+1,.Subscript a b _=>scE n a++scE n b
 |n+1,.Tuple es _ _=>es.flatMap (scE n)
 |n+1,.List es _=>es.flatMap (scE n)
 |n+1,.IfExp c a b _=>scE n c++scE n a++scE n b
 |n+1,.Dict _ vs _=>vs.flatMap (scE n)
 |n+1,.Slice a b c _=>(a.toList++b.toList++c.toList).flatMap (scE n)
 |n+1,.Attribute v _ _=>scE n v
 |_,_=>[]
noncomputable def scS:Nat->mH->Wp nR
 |0,_=>[]
 |n+1,.Return (Gc e) _=>scE 30 e
 |n+1,.Assign ts e _=>ts.flatMap (scE 30)++scE 30 e
 |n+1,.AugAssign t _ e _=>scE 30 t++scE 30 e
 |n+1,.Expr e _=>scE 30 e
 |n+1,.If t a b _=>scE 30 t++a.flatMap (scS n)++b.flatMap (scS n)
 |n+1,.For _ it a b _=>scE 30 it++a.flatMap (scS n)++b.flatMap (scS n)
 |n+1,.While t a b _=>scE 30 t++a.flatMap (scS n)++b.flatMap (scS n)
 |_,_=>[]
noncomputable def NC(st:mH)(k:Nat):nR:=((EH st).flatMap (scS 20)).getD k (AK st)
structure kD(P:k8)(w:lO)(K:kJ)(mg:Str->kN kL)(base:lP)(x:Str)(k np:Nat)(tbl:Wp (Str×Fn)):Prop where
 ex:∃a kvs,mg x=Gc (.ref a)/\TopD K w a kvs/\∀p G,tbl.lookup p=Gc G->∃f fd ps,kvs.lookup p=Gc (.ref f)/\Nv P w K mg base CX0 k f fd ps (spD K np G)/\oB K (.ref f)=true/\Binds K fd ps []
section
variable{P:k8}{w:lO}{K:kJ}{mg:Str->kN kL}{base h:lP}
theorem Za{x:Str}{st:mH}{f:kQ}{oc:kL}{od an:kN kQ}{osl:lE (kN kL)}{kV doc pm cdv ct:kL}(X:K.In h)(G:h.Ns mainGlobals mg)(a:zE K mainGlobals x=Gc (Gc (.ref f)))(l:K.lookup f=Gc ⟨oc,od,.func (pH x x (Ii st) (EH st) (AK st) .none kV doc pm an cdv ct),osl⟩)(c:rf K cdv x=true)(k:oB K (.ref f)=true):St.Src K mg x st:=
 ⟨f,_,Z3 l c k,PySem.W.mg_of X G a⟩
def IsD(K:kJ)(u:kL)(d:D):Prop:=∃v,RelV v u/\∀M H,C1 K M H v d
structure j6(w:lO)(K:kJ)(mg:Str->kN kL)(x:Str)(ns:Wp (Str×Str)):Prop where
 ex:∃a kvs,mg x=Gc (.ref a)/\TopD K w a kvs/\Paired (λ(n:Str×Str) (q:Str×V)=>n.1=q.1/\∃f,q.2=.ref f/\mg n.2=Gc (.ref f)) ns kvs
noncomputable def YC(K:kJ):Sp:=λvs H Q _=>∃(a:kQ) (ns:Wp Int),vs=[.ref a]/\SqL K H a (ns.map V.int)/\ns.length<=63/\∀H',Q (.bl true) H'
theorem bL{k:Nat}{f:kQ}{fd:nS}{x:Str}{F:Fn}(Fk:Nv P w K mg base CX0 k f fd [x] (spD K 1 F))(h:∀ns:Wp Int,ns.length<=63->∃S,F [.scr ns] []=Gc (.bl true,S)):Nv P w K mg base CX0 k f fd [x] (YC K):=by
 refine Fk.imp λvs H Q E z=>?_
 obtain⟨a,ns,rfl,hs,hl,q⟩:=z
 obtain⟨S,e⟩:=h ns hl
 refine⟨Ms.no,[.scr ns],[],_,S,rfl,e,.cons (.scr ?_) .nil,⟨λa z=>absurd z Ms.Xa,List.nodup_nil,λa z=>(nomatch z),rfl,λn a c z=>by simp[Ms.no]at z⟩,λv H' M' g st r=>?_⟩
 .rcases hs with hs|hs
  .exact .inl ⟨hs,Ms.Xa⟩
  .exact .inr hs
 .cases r
  exact q H'
end
noncomputable def putD(kvs:Wp (Key×D))(k:Key)(v:D):Wp (Key×D):=
 if(kvs.any λkv=>decide (kv.1=k))=true then kvs.map (λkv=>if kv.1=k then(kv.1,v)else kv)else kvs++[(k,v)]
noncomputable def Sy:Wp (Key×D)->Key->kN D
 | [],_=>none
 |(j,d)::r,k=>if j=k then Gc d else Sy r k
noncomputable def bM:D->kN Key
 | .int i=>Gc (.inl i)
 | .str x=>Gc (.inr x)
 |_=>none
noncomputable def Tw(S:Sto):D->kN (Wp (Key×D))
 | .dct es=>Gc es
 | .ref n=>match S[n]? with
   |some (.dct es)=>Gc es
   |_=>none
 |_=>none
noncomputable def ZR:lM->Wp (Key×D)->Sto->D×Sto
 |false,es,S=>(.dct es,S)
 |true,es,S=>(.ref S.length,S++[.dct es])
section
variable{K:kJ}{M M':Ms}{H:Hp}{S:Sto}{E:En}{σ:Sg}
theorem Bw.any(k:Key):∀{kvs:Wp (Key×V)} {es:Wp (Key×D)},Bw K M H kvs es->(kvs.any λkv=>decide (kv.1=k))=es.any λkv=>decide (kv.1=k)
 |_,_,.nil=>rfl
 |_,_,.cons h t=>by rw[nP,nP,Bw.any k t]
theorem Bw.app:∀{kvs kvs':Wp (Key×V)} {es es':Wp (Key×D)},Bw K M H kvs es->Bw K M H kvs' es'->Bw K M H (kvs++kvs') (es++es')
 |_,_,_,_,.nil,s=>s
 |_,_,_,_,.cons h t,s=>.cons h (Bw.app t s)
theorem Bw.bU{k:Key}{v:V}{d:D}(r:C1 K M H v d):∀{kvs:Wp (Key×V)} {es:Wp (Key×D)},Bw K M H kvs es->Bw K M H (kvs.map λkv=>if kv.1=k then(kv.1,v)else kv) (es.map λkv=>if kv.1=k then(kv.1,d)else kv)
 |_,_,.nil=>.nil
 |_,_,.cons (k:=k') h t=>by
  rw[kq,kq]
  by_cases e:k'=k
  .rw[lF e,lF e];exact .cons r (Bw.bU r t)
  .rw[lJ e,lJ e];exact .cons h (Bw.bU r t)
theorem Bw.put{k:Key}{v:V}{d:D}{kvs:Wp (Key×V)}{es:Wp (Key×D)}(r:C1 K M H v d)(h:Bw K M H kvs es):Bw K M H (putK kvs k v) (putD es k d):=by
 unfold putK putD
 rw[h.any k]
 split
 .exact h.bU r
 .exact h.app (.cons r .nil)
theorem Bw.val(k:Key):∀{kvs:Wp (Key×V)} {es:Wp (Key×D)},Bw K M H kvs es->(Qg kvs k=none/\Sy es k=none)\/∃v d,Qg kvs k=Gc v/\Sy es k=Gc d/\C1 K M H v d
 |_,_,.nil=>.inl ⟨rfl,rfl⟩
 |_,_,.cons (k:=k') (d:=d) (v:=v) (ds:=ds) h t=>by
  by_cases e:k'=k
  .exact .inr ⟨v,d,MM e,by simp[Sy,e],h⟩
  .rw[MC e]
   have:Sy ((k',d)::ds) k=Sy ds k:=by simp[Sy,e]
   rw[this]
   exact Bw.val k t
theorem Bw.length:∀{v:Wp (Key×V)} {d:Wp (Key×D)},Bw K M H v d->v.length=d.length
 |_,_,.nil=>rfl
 |_,_,.cons _ t=>by simp[Bw.length t]
theorem W2{v:V}{d:D}{k:Key}(r:C1 K M H v d)(e:bM d=Gc k):v=kV k:=by
 cases r<;>cases e<;>rfl
theorem R9{v:V}{d:D}{es:Wp (Key×D)}(st:StR K M S H)(r:C1 K M H v d)(e:Tw S d=Gc es):∃a kvs,v=.ref a/\H a=Gc (.dK kvs)/\Bw K M H kvs es:=by
 cases r with
 |dct h n r=>cases e;exact⟨_,_,rfl,h,r⟩
 |ref h=>
  rename_i a n
  unfold Tw at e
  dsimp only at e
  split at e
  .rename_i es' e'
   cases e
   obtain⟨kvs,h1,h2⟩:=st.cell n a _ h e'
   exact⟨a,kvs,rfl,h1,h2⟩
  .cases e
 |_=>cases e
theorem StR.dn(r:StR K M S H){a:kQ}(e:H a=none):StR K ⟨M.cel,a::M.tmp⟩ S (upd H a (.dK []))/\Sp1 M H ⟨M.cel,a::M.tmp⟩ (upd H a (.dK [])):=by
 have k:∀b o,H b=Gc o->upd H a (.dK []) b=Gc o:=FF e
 have na:¬M.mem a:=λz=>r.mo.some z e
 have s1:Sp1 M H ⟨M.cel,a::M.tmp⟩ (upd H a (.dK [])):=⟨r.mo,mG,λb z=>by
  rcases z with z|z
  .exact .inl (.inl z)
  .rcases kX.mp z with z|z
   .subst z;exact .inr e
   .exact .inl (.inr z),λb o eb _=>k b o eb⟩
 refine⟨⟨λb z=>?_,r.nd,λb hb z=>?_,r.len,λn b c h1 h2=>?_⟩,s1⟩
 .by_cases h:b=a
  .subst h;exact .inr (.inl ⟨[],A1⟩)
  .rw[Ae h]
   refine r.mo b ?_
   rcases z with z|z
   .exact .inl z
   .rcases kX.mp z with z|z
    .exact absurd z h
    .exact .inr z
 .rcases kX.mp hb with hb|hb
  .subst hb;exact na (.inl z)
  .exact r.nt b hb z
 .have q:=r.cell n b c h1 h2
  cases c with
  |lst ds=>obtain⟨xs,e,rr⟩:=q;exact⟨xs,k _ _ e,rr.step s1⟩
  |dct ds=>obtain⟨xs,e,rr⟩:=q;exact⟨xs,k _ _ e,rr.step s1⟩
  |tab ds=>obtain⟨xs,e,rr⟩:=q;exact⟨xs,k _ _ e,rr.step s1⟩
theorem StR.jC{c t:Wp kQ}{a:kQ}{kvs:Wp (Key×V)}{es:Wp (Key×D)}(cf:lM)(r:StR K ⟨c,a::t⟩ S H)(nt:a∉t)(rr:Bw K ⟨c,a::t⟩ H kvs es):∃c',StR K ⟨c',t⟩ (ZR cf es S).2 (upd H a (.dK kvs))/\C1 K ⟨c',t⟩ (upd H a (.dK kvs)) (.ref a) (ZR cf es S).1/\c <+: c'/\(∀b∈c',b∈c\/b=a):=by
 have nc:a∉c:=r.nt a kc
 have hl:c.length=S.length:=r.len
 have ne:∀b∈c,b≠a:=λb hb z=>nc (by rw[<-z];exact hb)
 have kp:∀b o,H b=Gc o->¬Ms.mem ⟨c,a::t⟩ b->upd H a (.dK kvs) b=Gc o:=λb o eb nb=>by rw[Ae (λz=>nb (.inr (by rw[z];exact kc)))];exact eb
 have old:∀{c':Wp kQ},Sp1 ⟨c,a::t⟩ H ⟨c',t⟩ (upd H a (.dK kvs))->∀(n:Nat) (b:kQ) (cl:Cl),c[n]?=Gc b->S[n]?=Gc cl->Ze K ⟨c',t⟩ (upd H a (.dK kvs)) b cl:=λs1 n b cl h1 h2=>by
  have hb:=ne b (k0 h1)
  have q:=r.cell n b cl h1 h2
  cases cl with
  |lst ds=>obtain⟨xs,e,rr⟩:=q;exact⟨xs,by rw[Ae hb];exact e,rr.step s1⟩
  |dct ds=>obtain⟨xs,e,rr⟩:=q;exact⟨xs,by rw[Ae hb];exact e,rr.step s1⟩
  |tab ds=>obtain⟨xs,e,rr⟩:=q;exact⟨xs,by rw[Ae hb];exact e,rr.step s1⟩
 have mo:∀b,Ms.mem ⟨c,t⟩ b\/b=a->(∃xs,upd H a (.dK kvs) b=Gc (.lst xs))\/(∃ks,upd H a (.dK kvs) b=Gc (.dK ks))\/∃ps,upd H a (.dK kvs) b=Gc (.tbl ps):=λb z=>by
  by_cases h:b=a
  .subst h;exact .inr (.inl ⟨kvs,A1⟩)
  .rw[Ae h]
   rcases z with z|z
   .exact r.mo b (z.imp id (kU _))
   .exact absurd z h
 cases cf with
 |false=>
  have s1:Sp1 ⟨c,a::t⟩ H ⟨c,t⟩ (upd H a (.dK kvs)):=⟨r.mo,mG,λb z=>.inl (z.imp id (kU _)),kp⟩
  exact⟨c,⟨λb z=>mo b (.inl z),r.nd,λb hb=>r.nt b (kU _ hb),r.len,old s1⟩,.dct A1 (λz=>z.elim nc nt) (rr.step s1),mG,λb z=>.inl z⟩
 |true=>
  have s1:Sp1 ⟨c,a::t⟩ H ⟨c++[a],t⟩ (upd H a (.dK kvs)):=⟨r.mo,pK _ _,λb z=>by
   rcases z with z|z
   .rcases k6.mp z with z|z
    .exact .inl (.inl z)
    .exact .inl (.inr (by rw[kr.mp z];exact kc))
   .exact .inl (.inr (kU _ z)),kp⟩
  refine⟨c++[a],⟨λb z=>mo b ?_,?_,λb hb z=>?_,by simp[ZR,hl],λn b cl h1 h2=>?_⟩,.ref (by rw[<-hl];exact kz),pK _ _,λb z=>?_⟩
  .rcases z with z|z
   .rcases k6.mp z with z|z
    .exact .inl (.inl z)
    .exact .inr (kr.mp z)
   .exact .inl (.inr z)
  .rw[mq]
   refine⟨r.nd,by simp,λx hx y hy z=>?_⟩
   simp at hy;subst hy
   exact nc (by rw[<-z];exact hx)
  .rcases k6.mp z with z|z
   .exact r.nt b (kU _ hb) z
   .rw[kr.mp z]at hb;exact nt hb
  .have h2:(S++[Cl.dct es])[n]?=Gc cl:=h2
   by_cases h:n<S.length
   .rw[kP (by rw[hl];exact h)]at h1
    rw[kP h]at h2
    exact old s1 n b cl h1 h2
   .have hm:n=S.length:=by
     have:=(ke.mp h2).1
     simp at this;lia
    subst hm
    rw[lU (by rw[hl];exact kR _)]at h1
    rw[lU (kR _)]at h2
    rw[hl]at h1
    simp at h1 h2
    subst h1 h2
    exact⟨kvs,A1,rr.step s1⟩
  .rcases k6.mp z with z|z
   .exact .inl z
   .exact .inr (kr.mp z)
end
section
variable{X:Cx}{pos:Pos}
structure DPs(X:Cx)(pos:Pos)(ks:Wp (kN lH))(vs:Wp lH)(fs:Wp (Ev×Ev)):Prop where
 pe:PPs X pos ks vs (fs.map λx=>(tD X.K x.1,tD X.K x.2))
 all:ks.all (·.isSome)=true
 len:ks.length=vs.length
 num:fs.length=vs.length
end
abbrev sO(led:lM):Obj:={cls:=.type "set",dict:=none,data:=.set #[] 0 (.fresh 0 0 led)}
section
variable{prog:k8}{w:lO}{A:lV}{E:kL->kM->Prop}{s:kM}{l:kQ}{items:lE kL}{ns:Wp Int}
abbrev Tu(ns:Wp Int)(n:Nat):Wp Int:=zr (λi=>ns.getD i 0) n
end
end Mi
end
noncomputable section
namespace Mi
open PySem
abbrev Ris(xs:lE Nat):Prop:=xs.toList.Pairwise (· < ·)
theorem Ris.lt{xs:lE Nat}(h:Ris xs){i k:Nat}(a:i<k)(b:k<xs.size):xs[i]'(qF a b)<xs[k]:=by
 have:=sI.mp h i k (by simpa using qF a b) (by simpa using b) a
 simpa using this
structure Blw(xs:lE Nat)(j r:Nat):Prop where
 le:r<=xs.size
 lo:∀i (h:i<xs.size),i<r->xs[i]<j
 hi:∀i (h:i<xs.size),r<=i->j<=xs[i]
theorem L3{xs:lE Nat}(hx:Ris xs)(j:Nat):∀fuel lo hi,hi-lo<=fuel->lo<=hi->hi<=xs.size->(∀i (h:i<xs.size),i<lo->xs[i]<j)->(∀i (h:i<xs.size),hi<=i->j<=xs[i])->Blw xs j (vf xs j fuel lo hi)
 |0,lo,hi,f,a,b,c,d=>by
  have:lo=hi:=by lia
  subst this
  exact⟨b,c,d⟩
 |fuel+1,lo,hi,f,a,b,c,d=>by
  unfold vf
  by_cases q:lo<hi
  .rw[lF q]
   have ml:(lo+hi) / 2<xs.size:=by lia
   have e:xs.getD ((lo+hi) / 2) j=xs[(lo+hi) / 2]:=by simp[qY,ml]
   dsimp only
   by_cases z:xs.getD ((lo+hi) / 2) j<j
   .rw[lF z]
    rw[e]at z
    refine L3 hx j fuel _ _ (by lia) (by lia) b (λi h l=>?_) d
    by_cases k:i=(lo+hi) / 2
    .subst k;exact z
    .exact qF (hx.lt (show i<(lo+hi) / 2 by lia) ml) z
   .rw[lJ z]
    rw[e]at z
    refine L3 hx j fuel _ _ (by lia) (by lia) (by lia) c (λi h l=>?_)
    by_cases k:i=(lo+hi) / 2
    .subst k;lia
    .have:=hx.lt (show(lo+hi) / 2<i by lia) h;lia
  .rw[lJ q]
   have:lo=hi:=by lia
   subst this
   exact⟨b,c,d⟩
theorem MF{xs:lE Nat}(hx:Ris xs)(j:Nat):Blw xs j (mD xs j):=
 L3 hx j _ _ _ (by lia) (mI _) (kR _) (λi _ h=>absurd h (by lia)) (λi h l=>absurd h (by lia))
theorem below_at{xs:lE Nat}(hx:Ris xs){k:Nat}(hk:k<xs.size):mD xs xs[k]=k:=by
 have b:=MF hx xs[k]
 rcases vg (mD xs xs[k]) k with h|h|h
 .have:=b.hi _ (by lia) (kR _);have:=hx.lt h hk;lia
 .exact h
 .have:=b.lo k hk h;lia
noncomputable def slotAt(xs:lE Nat)(i:Nat):Nat:=if i=0 then 0 else xs.getD (i-1) 0+1
theorem P8{xs:lE Nat}(hx:Ris xs){i:Nat}(hi:i<=xs.size):mD xs (slotAt xs i)=i:=by
 have b:=MF hx (slotAt xs i)
 have bl:=b.le
 by_cases z:i=0
 .subst z
  rcases Nat.eq_zero_or_pos (mD xs (slotAt xs 0))with h|h
  .exact h
  .have:=b.lo 0 (by lia) h;simp[slotAt]at this
 .have e:slotAt xs i=xs[i-1]'(by lia)+1:=by
   have:i-1<xs.size:=by lia
   simp[slotAt,z,qY,this]
  rcases vg (mD xs (slotAt xs i)) i with h|h|h
  .have:=b.hi (i-1) (by lia) (by lia);lia
  .exact h
  .have h1:=b.lo i (by lia) h;have h2:=hx.lt (show i-1<i by lia) (show i<xs.size by lia);lia
theorem Ris.insert{xs:lE Nat}(hx:Ris xs){j:Nat}(hj:xs[mD xs j]?≠Gc j):Ris (SetTable.insertAt xs (mD xs j) j):=by
 have b:=MF hx j
 have nj:∀k (hk:k<xs.size),xs[k]≠j:=λk hk e=>hj (by rw[<-e,below_at hx hk,Array.getElem?_eq_getElem hk])
 show uw _ _
 rw[yD,uX,sD]
 have tk:∀a∈xs.toList.take (mD xs j),a<j:=λa ha=>by
  obtain⟨i,hi,rfl⟩:=List.mem_take_iff_getElem.mp ha
  have q:i<xs.size:=by simp at hi;lia
  simpa using b.lo i q (by lia)
 have dr:∀a∈xs.toList.drop (mD xs j),j<a:=λa ha=>by
  obtain⟨i,hi,rfl⟩:=List.mem_drop_iff_getElem.mp ha
  have q:mD xs j+i<xs.size:=by simp at hi;lia
  have:=b.hi _ q (by lia)
  have:=nj _ q
  simp only[Array.getElem_toList]
  lia
 refine⟨uE (sS _ _) hx,⟨dr,uE (List.drop_sublist _ _) hx⟩,λa ha c hc=>?_⟩
 rcases kX.mp hc with rfl|hc
 .exact tk a ha
 .exact qF (tk a ha) (dr c hc)
theorem TU(n:Nat):Ris (Array.range n):=by
 show uw _ _
 rw[Array.toList_range];exact qm
structure TOk(t:SetTable)(led:lM):Prop where
 dum:t.dummies= #[]
 ris:Ris t.place
 led:t.led=led
theorem TOk.fresh(led:lM):TOk (.fresh 0 0 led) led:=⟨rfl,sU,rfl⟩
theorem TOk.standIn{t:SetTable}{led:lM}(h:TOk t led)(n:Nat):TOk (t.standIn n) led:=⟨rfl,TU n,h.led⟩
theorem TOk.orStandIn{t:SetTable}{led:lM}(h:TOk t led)(n:Nat):TOk (t.orStandIn n) led:=by
 unfold SetTable.orStandIn;split
 .exact h
 .exact h.standIn n
theorem TOk.plain{t:SetTable}{led:lM}(h:TOk t led)(b:lM):TOk {t with plain:=b} led:=⟨h.dum,h.ris,h.led⟩
theorem Ru(j:Nat):vh #[] j=false:=by simp[vh]
theorem P6{t:SetTable}(hd:t.dummies= #[])(f:Nat->Int)(h:Int):∀fuel (p:SetTable.Probe) {j d},p.dummy=none->sW t f h fuel p=Gc (.empty j d)->d=none/\t.place[mD t.place j]?≠Gc j
 |0,p,j,d,_,e=>by simp[sW]at e
 |fuel+1,p,j,d,pn,e=>by
  unfold sW at e
  have an:(t.advance p).dummy=none:=by unfold SetTable.advance;split<;>exact pn
  cases q:t.slot p.j with
  |empty=>
   rw[q]at e
   dsimp only at e
   injection e with e
   injection e with e1 e2
   subst e1 e2
   refine⟨pn,λz=>?_⟩
   unfold yE at q
   rw[lF (by rw[z];simp)]at q
   exact xn q
  |dummy=>
   unfold yE at q
   rw[hd,Ru]at q
   dsimp only at q
   split at q<;>simp at q
  |live i=>
   rw[q]at e
   dsimp only at e
   split at e
   .simp at e
   .exact P6 hd f h fuel _ an e
theorem Y1{t:SetTable}{led:lM}(h:TOk t led){x:Int}{j:Nat}{b:lM}(e:t.freeSlot x=Gc (j,b)):t.place[mD t.place j]?≠Gc j:=by
 unfold SetTable.freeSlot at e
 split at e
 .rename_i j' d q
  unfold SetTable.probe at q
  obtain⟨rfl,n⟩:=P6 h.dum _ x _ _ rfl q
  simp at e
  obtain⟨rfl,_⟩:=e
  exact n
 .simp at e
theorem TOk.put{t:SetTable}{led:lM}(h:TOk t led){j:Nat}(n:t.place[mD t.place j]?≠Gc j):TOk (t.put j).1 led:=by
 refine⟨?_,h.ris.insert n,h.led⟩
 show(if vh t.dummies j=true then _ else t.dummies)=_
 rw[h.dum,Ru];rfl
theorem TOk.layNew{t:SetTable}{led:lM}(h:TOk t led)(es:lE (Int×kL))(x:Int)(v:kL):TOk (layNew t es x v).2.1 led:=by
 unfold PySem.layNew
 split
 .rename_i j b e
  exact(h.put (Y1 h e)).orStandIn _
 .exact h.standIn _
theorem TOk.fC{t:SetTable}{led:lM}(h:TOk t led)(es:lE (Int×kL))(n:Nat):TOk (relayAll t es n).2.1 led:=by
 unfold relayAll
 split
 .rename_i t' order e
  dsimp only
  split
  .unfold SetTable.relaid SetTable.laid at e
   cases q:SetTable.layClean (SetTable.sizeAbove n-1) (es.map (·.1))with
   |none=>rw[q]at e;simp at e
   |some owner=>
    rw[q]at e
    simp at e
    obtain⟨rfl,_⟩:=e
    refine⟨rfl,?_,h.led⟩
    show uw _ _
    simp only[List.map_filterMap]
    refine ye _ (λa a' l b hb b' hb'=>?_) qm
    simp at hb hb'
    obtain⟨_,_,rfl⟩:=hb
    obtain⟨_,_,rfl⟩:=hb'
    exact l
  .exact h.standIn _
 .exact h.standIn _
end Mi
end
noncomputable section
namespace Mi
open PySem PySem.Spec L2 PyProof.Rows
noncomputable def iOf:Int×kL->Int|(_,.int n _)=>n|_=>0
abbrev vls(es:Wp (Int×kL)):Wp Int:=es.map iOf
abbrev byT(w:lO):lM:=w.params.followText "set-order"
section
variable{prog:k8}{w:lO}{A:lV}{E:kL->kM->Prop}{s:kM}
def Jf(prog:k8)(w:lO)(h:lP)(a:kQ)(L:Wp Int):Prop:=
 ∃o es ep t,h.get? a=Gc o/\o.ExactSet/\o.data=.set es ep t/\tY (intKind prog w) es.toList/\(vls es.toList).Perm L/\es.size<scanBound/\t.fits es.size=true/\TOk t (!byT w)
theorem Jf.at{h h':lP}{a:kQ}{L:Wp Int}(x:Jf prog w h a L)(k:∀o,h.get? a=Gc o->h'.get? a=Gc o):Jf prog w h' a L:=
 let⟨o,es,ep,t,ho,r⟩:=x;⟨o,es,ep,t,k o ho,r⟩
theorem XY{e:Int×kL}{es:Wp (Int×kL)}(h:tY (intKind prog w) es)(he:e∈es)(k:Int):(intKind prog w).is k e.2=true↔iOf e=k:=by
 obtain⟨⟨k',q,_⟩,_⟩:=h e he
 obtain⟨t,hv⟩:=sM q
 obtain⟨x,v⟩:=e
 dsimp only at hv
 subst hv
 show uJ k (.int k' t)=true↔k'=k
 simp[uJ]
theorem TV{es:Wp (Int×kL)}(h:tY (intKind prog w) es)(k:Int):(∃e∈es,(intKind prog w).is k e.2=true)↔k∈vls es:=by
 rw[lI]
 exact⟨λ⟨e,he,q⟩=>⟨e,he,(XY h he k).mp q⟩,λ⟨e,he,q⟩=>⟨e,he,(XY h he k).mpr q⟩⟩
theorem LK{h:lP}{a:kQ}{o:Obj}{es:lE (Int×kL)}{ep:Nat}{t:SetTable}(ho:h.get? a=Gc o)(hex:o.ExactSet)(hd:o.data=.set es ep t){es':lE (Int×kL)}{t':SetTable}{L:Wp Int}(hel:tY (intKind prog w) es'.toList)(hp:(vls es'.toList).Perm L)(hb:es'.size<scanBound)(hf:t'.fits es'.size=true)(ht:TOk t' (!byT w)):(h.update a (tZ es' t')).get? a=Gc {o with data:=.set es' (ep+1) t'}/\Jf prog w (h.update a (tZ es' t')) a L:=by
 have hg:(h.update a (tZ es' t')).get? a=Gc {o with data:=.set es' (ep+1) t'}:=by
  have:=lZ (tZ es' t') ho (by rw[putSet_of es' t' hd];rfl)
  rw[putSet_of es' t' hd]at this;exact this
 exact⟨hg,_,es',ep+1,t',hg,hex,rfl,hel,hp,hb,hf,ht⟩
theorem Px{g:lM->Sem Unit}(hg:∀(b:lM) (s₁:kM) (Q':Unit->kM->Prop),Q' () s₁->wpAny (model prog w) A (g b) Q' E s₁){a:kQ}{o:Obj}{es:lE (Int×kL)}{ep:Nat}{t:SetTable}(ho:s.heap.get? a=Gc o)(hex:o.ExactSet)(hd:o.data=.set es ep t){es1:lE (Int×kL)}{t2:SetTable}{L:Wp Int}(hel1:tY (intKind prog w) es1.toList)(hp1:(vls es1.toList).Perm L)(hb1:es1.size<scanBound)(hf2:t2.fits es1.size=true)(ht:TOk t2 (!byT w)){wasDummy:lM}{R:kN lM->kM->Prop}(h:∀h',nY a s.heap h'->Jf prog w h' a L->R (Gc true) {s with heap:=h'}):wpAny (model prog w) A (do
        storeSet a es1 t2
        if(!wasDummy && t2.tooFull)=true then do
           g (relayAll t2 es1 (pD es1.size)).2.2
           storeSet a (relayAll t2 es1 (pD es1.size)).1 (relayAll t2 es1 (pD es1.size)).2.1
           pure (Gc true)
         else pure (Gc true)) R E s:=by
 refine kH (vi ho hd ?_ (qo hb1))
 obtain⟨ho1,hS1⟩:=LK ho hex hd hel1 hp1 hb1 hf2 ht
 have hsb1:=mN s.heap a (tZ es1 t2)
 split
 .have hp:=relayAll_perm t2 es1 (pD es1.size)
  have hfr:=relayAll_fits t2 es1 (pD es1.size)
  have htr:=ht.fC es1 (pD es1.size)
  generalize hRl:relayAll t2 es1 (pD es1.size)=Rl at hp hfr htr⊢
  obtain⟨es2,t3,gave2⟩:=Rl
  dsimp only at hp hfr htr⊢
  have hel2:tY (intKind prog w) es2.toList:=hel1.perm hp
  have hsz:es2.size=es1.size:=by rw[<-mJ,hp.length_eq,mJ]
  have hb2:es2.size<scanBound:=by rw[hsz];exact hb1
  refine kH (hg _ _ _ ?_)
  refine kH (vi ho1 rfl ?_ (qo hb2))
  obtain⟨_,hS2⟩:=LK ho1 hex rfl hel2 ((hp.map iOf).trans hp1) hb2 hfr htr
  exact kO (h _ (hsb1.trans (mN _ a _)) hS2)
 .exact kO (h _ hsb1 hS1)
theorem YH{a:kQ}{L:Wp Int}{k:Int}{u:Tok}{Q:lM->kM->Prop}(hS:Jf prog w s.heap a L)(hroom:L.length+1<scanBound)(h:∀h' b,nY a s.heap h'->Jf prog w h' a (nW L k)->Q b {s with heap:=h'}):wpAny (model prog w) A (setAddHashed a (.int k u) ((intKind prog w).hash k)) Q E s:=by
 obtain⟨o,es,ep,t,ho,hex,hd,hel,hp,hb,hf,ht⟩:=hS
 have hkey:=intKind_is prog w k u
 have hsc:(qZ k u).scannable=true:=rfl
 have hn:es.size=L.length:=by have:=hp.length_eq;simpa using this
 have hb1:es.size+1<scanBound:=by rw[hn];exact hroom
 unfold setAddHashed setAddHashedIn
 refine lh (kH (oU ho hd hf ?_))
 dsimp only
 rw[byScan_of hsc hb hel]
 simp only[↓reduceIte]
 unfold setAddByScan
 refine kH ?_
 refine kH (oZ ?_)
 refine kH (wpAny_setScan_of hkey ho hd hf hel ?_)
 cases hr:List.findIdx? (λe=>(intKind prog w).is k e.2) es.toList with
 |some j=>
  dsimp only
  obtain⟨hj,hpj,_⟩:=List.findIdx?_eq_some_iff_getElem.mp hr
  have kin:k∈L:=hp.mem_iff.mp ((TV hel k).mp ⟨es.toList[j],ny hj,hpj⟩)
  refine kO (kO ?_)
  have e:s={s with heap:=s.heap}:=by cases s;rfl
  rw[e]
  refine h s.heap _ (vb a s.heap) ?_
  rw[show nW L k=L by unfold nW;rw[lF (oA.mpr ⟨k,kin,by simp⟩)]]
  exact⟨o,es,ep,t,ho,hex,hd,hel,hp,hb,hf,ht⟩
 |none=>
  dsimp only
  have kno:k∉L:=λz=>by
   obtain⟨e,he,q⟩:=(TV hel k).mpr (hp.mem_iff.mpr z)
   have:=List.findIdx?_eq_none_iff.mp hr e he;rw[q]at this;exact m8 this
  have sd:nW L k=L++[k]:=by
   unfold nW
   rw[lJ (λz=>by obtain⟨x,hx,e⟩:=oA.mp z;exact kno (by rw[<-eq_of_beq e];exact hx))]
  rw[sd]at h
  have hgw:∀(b:lM) {s₁:kM} {Q':Unit->kM->Prop},Q' () s₁->wpAny (model prog w) A (match b with|true=>rule "set.scan.the-table-gave-way" |false=>pure ()) Q' E s₁:=
   λb s₁ Q' hq=>by cases b<;>first|exact kO hq|exact oZ hq
  have hperm:=layNew_perm t es ((intKind prog w).hash k) (.int k u)
  have hfits:=layNew_fits t es ((intKind prog w).hash k) (.int k u)
  have hto:=ht.layNew es ((intKind prog w).hash k) (.int k u)
  generalize hL:layNew t es ((intKind prog w).hash k) (.int k u)=L1 at hperm hfits hto⊢
  obtain⟨es1,t1,wasDummy,gave⟩:=L1
  dsimp only at hperm hfits hto⊢
  rw[vj]at hperm
  have hel1:tY (intKind prog w) es1.toList:=(hel.push hkey hsc).perm hperm
  have hp1:(vls es1.toList).Perm (L++[k]):=(hperm.map iOf).trans (by rw[my];exact hp.append_right _)
  have hb1':es1.size<scanBound:=by rw[<-mJ,hperm.length_eq,lQ,mJ];simpa using hb1
  refine kH (hgw _ ?_)
  split
  .refine kH ?_
   rw[hashByValue_scannable 8 hsc]
   refine kO ?_
   refine Px ?_ ho hex hd hel1 hp1 hb1' ?_ ?_ ?_
   .intro b s₁ Q' hq;cases b<;>first|exact kO hq|exact oZ hq
   .split
    .exact hfits
    .exact yf hfits
   .split
    .exact hto
    .exact hto.plain _
   .intro h' hsb hS';dsimp only;exact kO (h h' _ hsb hS')
  .refine kH (kO ?_)
   simp only[↓reduceIte]
   refine Px ?_ ho hex hd hel1 hp1 hb1' hfits hto ?_
   .intro b s₁ Q' hq;cases b<;>first|exact kO hq|exact oZ hq
   .intro h' hsb hS';dsimp only;exact kO (h h' _ hsb hS')
end
section
variable{prog:k8}{w:lO}{A:lV}{R:wC->kM->Prop}{I:kQ}{fp wr:Wp kQ}{G:lE xB->lE xB->Prop}{n:Nat}{P:Nat->kL->Prop}{St:Nat->kM->Prop}
theorem Nb(W:WalksS prog w A.in1 I fp wr G n P St)(S:kQ)(hSf:S∉fp)(val:Nat->Int)(hval:∀i v,P i v->∃t,v=.int (val i) t)(hb:n+1<scanBound):∀(k i:Nat) (s:kM),n-i=k->i<=n->St i s->Jf prog w s.heap S (firstMet val i)->(∀s',Moved (S::wr) G s s'->Jf prog w s'.heap S (firstMet val n)->R (.ok (.ret .none)) s')->codeAny (model prog w) A (.builtin "set.update.loop" ⟨[.ref S,.ref I],[]⟩) R s:=by
 have hSw:S∉wr:=λh=>hSf (W.sub _ h)
 have hsub:∀b∈wr,b∈S::wr:=λb hb=>kU _ hb
 intro k
 induction k with
 |zero=>
  intro i s hk hi hst hS hR
  have hin:i=n:=by lia
  subst hin
  refine pT tK ?_
  rw[oV qd _]
  show wpAny _ A.in1 (pyNext (.ref I) >>= _) _ _ s
  refine kH (W.done s _ _ hst λs' hm=>?_)
  show wpAny _ A.in1 (ret mW) _ _ s'
  exact kO (hR s' (hm.mono hsub) (hS.at λo e=>hm.heap S _ hSw e))
 |succ k ih=>
  intro i s hk hi hst hS hR
  have hlt:i<n:=by lia
  refine pT tK ?_
  rw[oV qd _]
  show wpAny _ A.in1 (pyNext (.ref I) >>= _) _ _ s
  refine kH (W.item i s _ _ hlt hst λv s' hP hst' hm=>?_)
  obtain⟨t,rfl⟩:=hval i v hP
  have hS':Jf prog w s'.heap S (firstMet val i):=hS.at λo e=>hm.heap S _ hSw e
  show wpAny _ A.in1 (holding [qZ (val i) t] (setAdd S (.int (val i) t)) >>= _) _ _ s'
  refine kH (lh ?_)
  unfold setAdd
  refine lh ?_
  refine kH ((intKind prog w).pyHash (k:=val i) (intKind_is _ _ _ _) ?_)
  have hroom:(firstMet val i).length+1<scanBound:=by have:=firstMet_length_le val i;lia
  refine YH (s:={s' with toks:=s'.toks+1}) hS' hroom λh' bb hsb hS2=>?_
  rw[<-firstMet_succ]at hS2
  refine kO ⟨rA qd _,ih (i+1) _ (by lia) hlt (W.frame _ s' _ _ hst' (uY _) λb hb o e=>?_) hS2 λs'' hm'' hS''=>?_⟩
  .rw[hsb.2 b (λh:b=S=>hSf (by rw[<-h];exact hb))];exact e
  .refine hR s'' (Moved.trans W.gtrans ((hm.mono hsub).then_heap (uY _) λb o hb e=>?_) hm'') hS''
   rw[hsb.2 b (λh:b=S=>hb (by rw[h];exact kc))];exact e
end
section
variable{prog:k8}{w:lO}{A:lV}{E:kL->kM->Prop}{s:kM}
theorem VO(a:kL){Q₁:kL->kM->Prop}(h:Q₁ (.ref s.heap.objs.size) {s with heap:=s.heap.push (sO (!byT w))}):codeAny (model prog w) A (.call (.builtin "set.__new__") ⟨[.type "set",a],[]⟩) (wants Q₁ E) s:=by
 refine wj ?_
 show wpAny _ A.in1 (do checkBuiltinCall "set.__new__" ⟨[.type "set",a],[]⟩;again (.builtin "set.__new__" ⟨[.type "set",a],[]⟩)) _ _ s
 refine kH (wY (F.newCall_set_1 a) (kO ⟨rA wk _,pT F.entry_set_new ?_⟩))
 rw[oV wk _]
 unfold nJ.«set.__new__» xP
 have hsub:=zJ
 obtain⟨hp,g,d,tk,os⟩:=s
 dsimp only
 wp_walk
 refine tL (kO ?_)
 dsimp only
 simp only[newObj]
 refine kH (wpAny_alloc (kO ?_))
 exact kO h
end
end Mi
end
noncomputable section
namespace Mi
open PySem PySem.Spec L2 PyProof.Rows
section
variable{prog:k8}{w:lO}{A:lV}{E:kL->kM->Prop}{s:kM}{l:kQ}{items:lE kL}{ns:Wp Int}
theorem Jf.fresh{h:lP}{a:kQ}(e:h.get? a=Gc (sO (!byT w))):Jf prog w h a []:=
 ⟨_, #[],0,_,e,⟨rfl,rfl,rfl⟩,rfl,λe he=>by simp at he,by exact qp _,by decide,by rfl,TOk.fresh _⟩
theorem SE{Q:kL->kM->Prop}(hh:A.handled=none)(hl:s.heap.IsList l items)(hi:nV items.toList ns)(hb:items.size+1<scanBound)(h:∀(h':lP) (tk:Nat),Jf prog w h' s.heap.objs.size (Tu ns items.size)->(∀b o,s.heap.get? b=Gc o->h'.get? b=Gc o)->Q .none {s with heap:=h',toks:=tk}):codeAny (model prog w) A (.call (.builtin "set.__init__") ⟨[.ref s.heap.objs.size,.ref l],[]⟩) (wants Q E) {s with heap:=s.heap.push (sO (!byT w))}:=by
 generalize hled:(!byT w)=led
 have me:(s.heap.push (sO led)).get? s.heap.objs.size=Gc (sO led):=kZ _ rfl
 have ty:yF {s with heap:=s.heap.push (sO led)} (.ref s.heap.objs.size) "set":=⟨_,me,rfl⟩
 have hl1:=hl.push (sO led)
 obtain⟨o,ho,hc,n,hd⟩:=id hl
 have lt:=kf ho
 refine codeAny_call_builtin pM.init.plain F.entry_set_init (check_set_init_1 ty ?_)
 have ho1:=kK (sO led) ho
 obtain⟨c0,d0,q0,l0⟩:=o
 cases hc;cases hd
 have n1:=F.sub_list_set
 have n2:=F.sub_list_frozenset
 have n3:(qV "list" ==qV "dict")=false:=by decide
 unfold nJ.«set.__init__» noKeywords wm
 generalize pi:pyIter=it
 wp_walk
 subst pi
 refine mY hl1 (kH (xQ ?_))
 have sz:(s.heap.push (sO led)).objs.size=s.heap.objs.size+1:=lG ..
 have ap:l≠(s.heap.push (sO led)).objs.size:=by rw[sz];exact ki (mQ lt)
 refine Nb ((Walks.list (by simp[hh]) _ l ap items).toS) s.heap.objs.size (by rw[sz,kX,kr,tV];exact⟨ki (nv _),qC lt⟩) (λi=>ns.getD i 0)
  (λi v hv=>hi.int_at i v (by rw[oJ];exact hv)) hb (items.size-0) 0 _ (by lia) (mI _) ⟨⟨_,kZ _ rfl,rfl,rfl⟩,hl1.push _⟩ ?_ ?_
 .exact Jf.fresh (by rw[hled];exact kK _ me)
 .rintro ⟨h',g',d',tk',os'⟩ hm hS
  have e1:g'=s.gens:=hm.gens
  have e2:d'=s.drawn:=hm.drawn
  have e3:os'=s.os:=hm.os
  subst e1 e2 e3
  refine kO (show wpAny _ _ (ret mW) _ _ _ from kO (h h' tk' hS λb u e=>?_))
  have lb:=kf e
  exact hm.heap b u (by rw[sz,kX,kr,tV];exact⟨ki lb,ki (mQ lb)⟩) (kK _ (kK _ e))
theorem Rv{Q:kL->kM->Prop}(hh:A.handled=none)(hl:s.heap.IsList l items)(hi:nV items.toList ns)(hb:items.size+1<scanBound)(h:∀(h':lP) (tk:Nat),Jf prog w h' s.heap.objs.size (Tu ns items.size)->(∀b o,s.heap.get? b=Gc o->h'.get? b=Gc o)->Q (.ref s.heap.objs.size) {s with heap:=h',toks:=tk}):wpAny (model prog w) A (call (.type "set") [.ref l]) Q E s:=by
 obtain⟨c,tl,mr⟩:=pM.mro
 have z1:=pM.made
 have z2:=pM.sub
 have z3:=pM.notType
 have z4:=pM.canCreate
 have z5:=F.typeCall_set_1 (.ref l)
 refine wpAny_call (wj (show wpAny _ _ (callAny (.type "set") _) _ _ _ from kO ⟨Code.quiet_builtin _ (by decide+kernel),pT F.entry_type_call ?_⟩))
 rw[Around.under_plain (weight_type_call_type "set" [.ref l] []) rfl]
 repeat (any_goals (first|assumption|wp_step))
 refine rS (VO (.ref l) (E:=E) (Q₁:=λu s1=>u=.ref s.heap.objs.size/\s1={s with heap:=s.heap.push (sO (!byT w))}) ⟨rfl,rfl⟩) ?_
 rintro (e|(_|u|_)) s1 hr
 all_goals first|exact hr|exact hr.elim|skip
 obtain⟨rfl,rfl⟩:=hr
 have me:(s.heap.push (sO (!byT w))).get? s.heap.objs.size=Gc (sO (!byT w)):=kZ _ rfl
 have ty:yF {s with heap:=s.heap.push (sO (!byT w))} (.ref s.heap.objs.size) "set":=⟨_,me,rfl⟩
 have y1:=pM.init.lookup
 have y2:=pM.init.bind (.ref s.heap.objs.size)
 repeat (any_goals (first|assumption|wp_step))
 refine rS (SE (E:=E) (Q:=λr s2=>r=.none/\∃h' tk,s2={s with heap:=h',toks:=tk}/\Jf prog w h' s.heap.objs.size (Tu ns items.size)/\∀b o,s.heap.get? b=Gc o->h'.get? b=Gc o) (by simp[hh]) hl hi hb λh' tk hS hk=>⟨rfl,h',tk,rfl,hS,hk⟩) ?_
 rintro (e|(_|u|_)) s2 hr
 all_goals first|exact hr|exact hr.elim|skip
 obtain⟨rfl,h',tk,rfl,hS,hk⟩:=hr
 repeat (any_goals (first|assumption|wp_step))
 exact h _ _ hS hk
end
end Mi
end
noncomputable section
namespace Mi
open PySem PySem.Spec L2 PyProof.Rows
section
variable{prog:k8}{w:lO}{A:lV}{E:kL->kM->Prop}{s:kM}{a:kQ}{es:lE (Int×kL)}{ep:Nat}{t:SetTable}
def Jd(h:lP)(a:kQ)(es:lE (Int×kL))(ep:Nat)(t:SetTable):Prop:=∃o,h.get? a=Gc o/\o.ExactSet/\o.data=.set es ep t/\t.fits es.size=true
theorem Jd.at{h h':lP}(x:Jd h a es ep t)(k:∀o,h.get? a=Gc o->h'.get? a=Gc o):Jd h' a es ep t:=let⟨o,ho,r⟩:=x;⟨o,k o ho,r⟩
theorem II{Q:lM->kM->Prop}(h:Q (byT w) s):wpAny (model prog w) A setsByText Q E s:=by
 unfold setsByText
 exact kH (tL (kO h))
theorem RX{slot i:Nat}{Q:kN (kL×Nat)->kM->Prop}(hb:byT w=true)(x:Jd s.heap a es ep t)(h:Q (((pickOrder (w.params.setOrder a ep) es)[i]?).map λe=>(e.2,slot)) s):wpAny (model prog w) A (setNext a slot i ep) Q E s:=by
 obtain⟨o,ho,hex,hd,hf⟩:=x
 unfold setNext
 refine kH (oU ho hd hf (kH (II ?_)))
 rw[hb]
 simp only[q9,qq,nO,p0]
 unfold setWalk
 refine kH (kH (oU ho hd hf (kH (II ?_))))
 rw[hb]
 exact kH (tL (kO (kO h)))
theorem QF{slot i:Nat}{Q:kN (kL×Nat)->kM->Prop}(hb:byT w=false)(x:Jd s.heap a es ep t)(hp:(!t.plain && decide (es.size>1))=false)(hl:t.led=true)(h:Q (match es[mD t.place slot]?,t.place[mD t.place slot]? with|some (_,x),Gc j=>Gc (x,j+1)|_,_=>none) s):wpAny (model prog w) A (setNext a slot i ep) Q E s:=by
 obtain⟨o,ho,hex,hd,hf⟩:=x
 unfold setNext
 refine kH (oU ho hd hf (kH (II ?_)))
 rw[hb]
 simp only[nO,p0]
 rw[lJ (show¬_ from by show¬((!t.plain && decide (es.size>1))=true);rw[hp];simp)]
 refine kH ?_
 show wpAny _ _ (if(!t.led && !es.isEmpty)=true then unsupported _ else pure ()) _ _ _
 rw[hl]
 exact kO (kO h)
theorem BH:Slot "set_iterator" "__next__" "set_iterator.__next__":=
 .of (owner:="set_iterator") (n:="__next__") (by rw[wo,uF];kernel_rfl) (by decide+kernel) (by decide+kernel) (by decide+kernel)
  (by first|exact .inl (by decide+kernel)|exact .inr (by decide+kernel)) (by rw[uZ];kernel_rfl)
theorem ES:entryFor table "set_iterator.__next__"=Gc nJ.«set_iterator.__next__» :=entryFor_of_tree (by kernel_rfl)
theorem PM : Manifest.owners.lookup (String.ofList ['r', 'o', 't', 'a', 'r', 'e', 't', 'i', '_', 't', 'e', 's'].reverse) = Gc xp := by kernel_rfl
theorem FK(a:kL):argsOk "set_iterator.__next__" ⟨[a],[]⟩:=by
 unfold argsOk; rw [yG (id := "set_iterator.__next__") (n := ['_', '_', 't', 'x', 'e', 'n', '_', '_']) (o := ['r', 'o', 't', 'a', 'r', 'e', 't', 'i', '_', 't', 'e', 's']) (by kernel_rfl) PM]; kernel_rfl
theorem JT:Slot "set_iterator" "__iter__" "set_iterator.__iter__":=
 .of (owner:="set_iterator") (n:="__iter__") (by rw[wo,uF];kernel_rfl) (by decide+kernel) (by decide+kernel) (by decide+kernel)
  (by first|exact .inl (by decide+kernel)|exact .inr (by decide+kernel)) (by rw[uZ];kernel_rfl)
theorem NN(a:kL):argsOk "set_iterator.__iter__" ⟨[a],[]⟩:=by
 unfold argsOk; rw [yG (id := "set_iterator.__iter__") (n := ['_', '_', 'r', 'e', 't', 'i', '_', '_']) (o := ['r', 'o', 't', 'a', 'r', 'e', 't', 'i', '_', 't', 'e', 's']) (by kernel_rfl) PM]; kernel_rfl
theorem Lw:entryFor table "set_iterator.__iter__"=Gc nJ.«dict_keyiterator.__iter__» :=
 xR (id':="dict_keyiterator.__iter__") (by kernel_rfl) (by first|rfl|decide+kernel|(unfold String.splitOn;simp+decide [String.splitOnAux])) (by decide+kernel) (by kernel_rfl)
theorem K2:entryFor table "set.__iter__"=Gc nJ.«frozenset.__iter__» :=
 xR (id':="frozenset.__iter__") (by kernel_rfl) rfl (by decide+kernel) (by kernel_rfl)
def SIt(h:lP)(I a:kQ)(f:kL)(i n ep:Nat):Prop:=∃o,h.get? I=Gc o/\o.cls=.type "set_iterator" /\o.data=.fields #[f,.int i 0,.ref a,.int n 0,.int ep 0]
variable{I:kQ}{i n:Nat}{f:kL}
theorem SIt.typeIs(x:SIt s.heap I a f i n ep):s.TypeIs (.ref I) "set_iterator":=let⟨o,ho,c,_⟩:=x;⟨o,ho,c⟩
theorem SIt.at{h h':lP}(x:SIt h I a f i n ep)(k:∀o,h.get? I=Gc o->h'.get? I=Gc o):SIt h' I a f i n ep:=let⟨o,ho,r⟩:=x;⟨o,k o ho,r⟩
theorem Ra{Q:kL->kM->Prop}(x:SIt s.heap I a f i n ep)(h:Q (.ref I) s):wpAny (model prog w) A (pyIter (.ref I)) Q E s:=by
 refine vk x.typeIs JT (lg JT x.typeIs Lw ?_ (NN _))
 show wpAny _ _ (ret (.ref I)) _ _ s
 exact kO ⟨_,rfl,"set_iterator",_,x.typeIs,BH.lookup,h⟩
theorem QV{k nx:Nat}{v:kL}{Q:kN kL->kM->Prop}(hit:SIt s.heap I a (.int k 0) i es.size ep)(hs:Jd s.heap a es ep t)(hN:∀{A:lV} {Q:kN (kL×Nat)->kM->Prop} {E:kL->kM->Prop},Q (Gc (v,nx)) s->wpAny (model prog w) A (setNext a k i ep) Q E s)(hQ:∀h',SIt h' I a (.int nx 0) (i+1) es.size ep->nY I s.heap h'->Q (Gc v) {s with heap:=h'}):wpAny (model prog w) A (pyNext (.ref I)) Q E s:=by
 obtain⟨o,ho,hc,hd⟩:=id hit
 obtain⟨os,hos,hex,hds,hf⟩:=id hs
 unfold pyNext
 refine kH (qR (lx (name:=mL "__next__") hit.typeIs BH
  (lg BH hit.typeIs ES ?_ (FK _))))
 unfold nJ.«set_iterator.__next__»
 refine kH (m:=slotArgs "__next__" 0 _) (kO (kH (sE ho hd ?_)))
 show wpAny _ _ (setEntries a >>= _) _ _ _
 refine kH (oo hos hds hf ?_)
 rw[lJ (by simp)]
 show wpAny _ _ (setNext a k i ep >>= _) _ _ _
 refine kH (hN ?_)
 show wpAny _ _ (setField (.ref I) 0 (rawInt nx) >>= λ_=>setField (.ref I) 1 (rawInt (i+1)) >>= λ_=>ret v) _ _ _
 refine kH (oF ho hd (by simp) ?_)
 have ho1:=lZ (uv (·.setIfInBounds 0 (rawInt nx))) ho (oI (mf hd _))
 have hd1:=mf hd (·.setIfInBounds 0 (rawInt nx))
 refine kH (oF ho1 hd1 (by simp) (kO ⟨v,rfl,kO (hQ _ ?_ ((mN ..).trans (mN ..)))⟩))
 exact⟨_,lZ _ ho1 (oI (mf hd1 _)),(qi ..).trans ((qi ..).trans hc),by
  rw[mf hd1];simp[rawInt]⟩
end
end Mi
end
noncomputable section
namespace Mi
open PySem PySem.Spec L2 PyProof.Rows
section
variable{prog:k8}{w:lO}{A:lV}{E:kL->kM->Prop}{s:kM}{a:kQ}{es:lE (Int×kL)}{ep:Nat}{t:SetTable}{I:kQ}{i n:Nat}{f:kL}
theorem RF{k:Nat}{Q:kN kL->kM->Prop}(hh:A.handled=none)(hit:SIt s.heap I a (.int k 0) i es.size ep)(hs:Jd s.heap a es ep t)(hN:∀{A:lV} {Q:kN (kL×Nat)->kM->Prop} {E:kL->kM->Prop},Q none s->wpAny (model prog w) A (setNext a k i ep) Q E s)(hQ:∀h',qb I s.heap h'->Q none {s with heap:=h'}):wpAny (model prog w) A (pyNext (.ref I)) Q E s:=by
 obtain⟨o,ho,hc,hd⟩:=id hit
 obtain⟨os,hos,hex,hds,hf⟩:=id hs
 unfold pyNext
 refine kH (qR (lx (name:=mL "__next__") hit.typeIs BH
  (lg BH hit.typeIs ES ?_ (FK _))))
 unfold nJ.«set_iterator.__next__»
 refine kH (m:=slotArgs "__next__" 0 _) (kO (kH (sE ho hd ?_)))
 show wpAny _ _ (setEntries a >>= _) _ _ _
 refine kH (oo hos hds hf ?_)
 rw[lJ (by simp)]
 show wpAny _ _ (setNext a k i ep >>= _) _ _ _
 refine kH (hN ?_)
 show wpAny _ _ (setField (.ref I) 2 .none >>= λ_=>newExc (.type "StopIteration") [] >>= λe=>raiseNew e) _ _ _
 refine kH (oF ho hd (by simp) ?_)
 refine kH ?_
 simp only[newExc,newTuple]
 refine kH (lu ?_ (by size_fits))
 refine kH (m:=firstArgMember _ _) (wY (a:=mW) (by first|rfl|(simp only[firstArgMember];rfl)) ?_)
 refine lu ?_ (by size_fits)
 simp only[raiseNew]
 refine kH (yH ?_)
 rw[show A.in1.handled=none from hh]
 refine kH (kO (wpAny_throw ?_))
 refine kH (qG (T:="StopIteration") (b:=true) ⟨_,kZ _ rfl,rfl⟩ uU ?_)
 exact kO (hQ _ (((mN ..).extBut.push _).push _))
theorem QA{T:kQ}{pl:lE kL}{k:Nat}{e:Int×kL}{Q:kN kL->kM->Prop}(hit:SIt s.heap I a (.ref T) i es.size ep)(hs:Jd s.heap a es ep t)(hT:s.heap.IsTuple T pl)(hp:pl[i]?=Gc (.int k 0))(he:es[k]?=Gc e)(hQ:∀h',SIt h' I a (.ref T) (i+1) es.size ep->nY I s.heap h'->Q (Gc e.2) {s with heap:=h'}):wpAny (model prog w) A (pyNext (.ref I)) Q E s:=by
 obtain⟨o,ho,hc,hd⟩:=id hit
 obtain⟨os,hos,hex,hds,hf⟩:=id hs
 obtain⟨ot,hot,_,nt,hdt⟩:=id hT
 unfold pyNext
 refine kH (qR (lx (name:=mL "__next__") hit.typeIs BH
  (lg BH hit.typeIs ES ?_ (FK _))))
 unfold nJ.«set_iterator.__next__»
 refine kH (m:=slotArgs "__next__" 0 _) (kO (kH (sE ho hd ?_)))
 show wpAny _ _ (setEntries a >>= _) _ _ _
 refine kH (oo hos hds hf ?_)
 rw[lJ (by simp)]
 show wpAny _ _ (seqItems? (.ref T) >>= _) _ _ _
 refine kH (nU hot hdt ?_)
 simp only[pq,hp]
 refine kH (m:=setNextDrawn a k ep) ?_
 unfold setNextDrawn
 refine kH (oU hos hds hf ?_)
 simp only[qq,nO,p0,he]
 refine kO ?_
 show wpAny _ _ (setField (.ref I) 1 (rawInt (i+1)) >>= λ_=>ret e.2) _ _ _
 refine kH (oF ho hd (by simp) (kO ⟨e.2,rfl,kO (hQ _ ?_ (mN ..))⟩))
 exact⟨_,lZ _ ho (oI (mf hd _)),(qi ..).trans hc,by
  rw[mf hd];simp[rawInt]⟩
theorem Rz{T:kQ}{pl:lE kL}{Q:kN kL->kM->Prop}(hh:A.handled=none)(hit:SIt s.heap I a (.ref T) i es.size ep)(hs:Jd s.heap a es ep t)(hT:s.heap.IsTuple T pl)(hp:pl[i]?=none)(hQ:∀h',qb I s.heap h'->Q none {s with heap:=h'}):wpAny (model prog w) A (pyNext (.ref I)) Q E s:=by
 obtain⟨o,ho,hc,hd⟩:=id hit
 obtain⟨os,hos,hex,hds,hf⟩:=id hs
 obtain⟨ot,hot,_,nt,hdt⟩:=id hT
 unfold pyNext
 refine kH (qR (lx (name:=mL "__next__") hit.typeIs BH
  (lg BH hit.typeIs ES ?_ (FK _))))
 unfold nJ.«set_iterator.__next__»
 refine kH (m:=slotArgs "__next__" 0 _) (kO (kH (sE ho hd ?_)))
 show wpAny _ _ (setEntries a >>= _) _ _ _
 refine kH (oo hos hds hf ?_)
 rw[lJ (by simp)]
 show wpAny _ _ (seqItems? (.ref T) >>= _) _ _ _
 refine kH (nU hot hdt ?_)
 simp only[pq,hp]
 show wpAny _ _ (setField (.ref I) 0 (rawInt 0) >>= λ_=>setField (.ref I) 2 .none >>= λ_=>newExc (.type "StopIteration") [] >>= λe=>raiseNew e) _ _ _
 refine kH (oF ho hd (by simp) ?_)
 have ho1:=lZ (uv (·.setIfInBounds 0 (rawInt 0))) ho (oI (mf hd _))
 have hd1:=mf hd (·.setIfInBounds 0 (rawInt 0))
 refine kH (oF ho1 hd1 (by simp) ?_)
 refine kH ?_
 simp only[newExc,newTuple]
 refine kH (lu ?_ (by size_fits))
 refine kH (m:=firstArgMember _ _) (wY (a:=mW) (by first|rfl|(simp only[firstArgMember];rfl)) ?_)
 refine lu ?_ (by size_fits)
 simp only[raiseNew]
 refine kH (yH ?_)
 rw[show A.in1.handled=none from hh]
 refine kH (kO (wpAny_throw ?_))
 refine kH (qG (T:="StopIteration") (b:=true) ⟨_,kZ _ rfl,rfl⟩ uU ?_)
 exact kO (hQ _ ((((mN ..).trans (mN ..)).extBut.push _).push _))
theorem Wm(hh:A.handled=none)(I a:kQ)(hne:a≠I)(es:lE (Int×kL))(ep:Nat)(t:SetTable)(g:Nat->Nat)(items:lE kL)(hN:∀(s:kM) (i:Nat) {A:lV} {Q:kN (kL×Nat)->kM->Prop} {E:kL->kM->Prop},Jd s.heap a es ep t->i<=items.size->Q (items[i]?.map λx=>(x,g (i+1))) s->wpAny (model prog w) A (setNext a (g i) i ep) Q E s):Walks prog w A I [I,a] [I] items.size (λi v=>items[i]?=Gc v) (λi h=>SIt h I a (.int (g i) 0) i es.size ep/\Jd h a es ep t) where
 sub:=λb hb=>by simp at hb;simp[hb]
 frame:=λ_ _ _ st hk=>⟨st.1.at λo e=>hk I (by simp) o e,st.2.at λo e=>hk a (by simp) o e⟩
 item:=λi s Q E hi st hQ=>by
  have e:items[i]?=Gc items[i]:=by simp[hi]
  refine QV st.1 st.2 (v:=items[i]) (nx:=g (i+1)) (λq=>hN s i st.2 (mx hi) (by rw[e];exact q)) λh' hit' hs'=>?_
  exact hQ _ h' s.toks (by simp[hi]) ⟨hit',st.2.at λo e=>hs'.extBut a o hne e⟩ λb o hb e=>hs'.extBut b o (λh=>hb (by simp[h])) e
 done:=λs Q E st hQ=>RF hh st.1 st.2 (λq=>hN s items.size st.2 (kR _) (by simpa using q)) λh' he'=>hQ h' s.toks λb o hb e=>he' b o (λh=>hb (by simp[h])) e
 self:=λ_ _ _ _ st hQ=>Ra st.1 hQ
theorem Z6(hh:A.handled=none)(I a T:kQ)(hne:a≠I)(hnT:T≠I)(es:lE (Int×kL))(ep:Nat)(t:SetTable)(ks:Wp Nat)(items:lE kL)(hz:items.size=ks.length)(hk:∀(i k:Nat),ks[i]?=Gc k->∃e:Int×kL,es[k]?=Gc e/\items[i]?=Gc e.2):Walks prog w A I [I,a,T] [I] items.size (λi v=>items[i]?=Gc v) (λi h=>SIt h I a (.ref T) i es.size ep/\Jd h a es ep t/\h.IsTuple T (ks.map λ(i:Nat)=>rawInt i).toArray) where
 sub:=λb hb=>by simp at hb;simp[hb]
 frame:=λ_ _ _ st hk=>⟨st.1.at λo e=>hk I (by simp) o e,st.2.1.at λo e=>hk a (by simp) o e,st.2.2.at λo e=>hk T (by simp) o e⟩
 item:=λi s Q E hi st hQ=>by
  have hi':i<ks.length:=by omega
  obtain⟨e,he,hv⟩:=hk i ks[i] (by simp[hi'])
  refine QA st.1 st.2.1 st.2.2 (k:=ks[i]) (by simp[hi',rawInt]) he λh' hit' hs'=>?_
  exact hQ _ h' s.toks hv ⟨hit',st.2.1.at λo e=>hs'.extBut a o hne e,st.2.2.at λo e=>hs'.extBut T o hnT e⟩ λb o hb e=>hs'.extBut b o (λh=>hb (by simp[h])) e
 done:=λs Q E st hQ=>Rz hh st.1 st.2.1 st.2.2 (by simp[hz]) λh' he'=>hQ h' s.toks λb o hb e=>he' b o (λh=>hb (by simp[h])) e
 self:=λ_ _ _ _ st hQ=>Ra st.1 hQ
end
end Mi
end
noncomputable section
namespace Mi
open PySem PySem.Spec L2 PyProof.Rows
theorem Iv{α:Type}:∀(l:Wp α) (i:Nat) (h:i<l.length),(l[i]::l.eraseIdx i).Perm l
 |x::l,0,h=>qp _
 |x::l,i+1,h=>(List.Perm.swap _ _ _).trans (xS _ (Iv l i (by simpa using h)))
theorem TK{α:Type}(nx:Nat->Nat):∀(fuel k:Nat) (left:Wp α) (out:lE α),left.length<=fuel->(vm nx fuel k left out).toList.Perm (out.toList++left)
 |0,k,left,out,h=>by
  cases left with
  |nil=>simp[vm]
  |cons x l=>simp at h
 |fuel+1,k,left,out,h=>by
  unfold vm
  cases e:left[nx k % left.length]? with
  |none=>
   cases left with
   |nil=>simp
   |cons x l=>
    rw[qK]at e
    exact absurd (xT (nx k) (Nat.succ_pos l.length)) (by simpa using e)
  |some x=>
   obtain⟨lt,rfl⟩:=ke.mp e
   refine(TK nx fuel (k+1) _ _ (by rw[ua];simp[lt];omega)).trans ?_
   rw[vj,nD]
   exact zv _ (Iv _ _ lt)
theorem SH{α:Type}(nx:Nat->Nat)(xs:lE α):(pickOrder nx xs).toList.Perm xs.toList:=by
 have:=TK nx xs.size 0 xs.toList #[] (by simp)
 unfold pickOrder
 simpa using this
section
variable{prog:k8}{w:lO}{A:lV}{E:kL->kM->Prop}{s:kM}{a:kQ}
theorem wp_choose{M:yR}{src:Source}{n:Nat}{Q:Nat->kM->Prop}(hn:n≠0)(h:∀i d,i<n->Q i {s with drawn:=d}):wpAny M A (choose src n) Q E s:=
 λ_ _ _=>⟨hn,h _ _ (xT _ (sF hn))⟩
theorem NS{α:Type}:∀(n:Nat) (xs:Wp α) (s:kM) {Q:Wp α->kM->Prop},xs.length<=n->(∀ys d,ys.Perm xs->Q ys {s with drawn:=d})->wpAny (model prog w) A (drawOrder n xs) Q E s
 |0,xs,s,Q,hl,h=>by
  cases xs with
  |nil=>exact kO (h [] s.drawn (qp _))
  |cons x l=>simp at hl
 |n+1,[],s,Q,hl,h=>kO (h [] s.drawn (qp _))
 |n+1,x::l,s,Q,hl,h=>by
  unfold drawOrder
  refine kH (wp_choose (by simp) λi d hi=>?_)
  have e:(x::l)[i]?=Gc (x::l)[i]:=by simp[hi]
  rw[e]
  refine kH (NS n _ _ (by rw[ua,lF hi];simp at hl ⊢; omega) λys d' p=>kO (h _ d' ?_))
  exact(xS _ p).trans (Iv _ _ hi)
theorem L5{es:Wp (Int×kL)}(h:tY (intKind prog w) es):nV (es.map (·.2)) (vls es):=by
 induction es with
 |nil=>exact .nil
 |cons e l ih=>
  obtain⟨⟨k,q,_⟩,_⟩:=h.head
  obtain⟨t,hv⟩:=sM q
  obtain⟨x,v⟩:=e
  dsimp only at hv
  subst hv
  exact .cons _ _ (ih h.tail)
theorem R5{L:Wp Int}{Q:kL->kM->Prop}(hS:Jf prog w s.heap a L)(h:∀(I:kQ) (fp:Wp kQ) (items:lE kL) (St:Nat->lP->Prop) (ms:Wp Int) (h':lP) (d':Drawn),(∀A':lV,A'.handled=none->Walks prog w A' I fp [I] items.size (λi v=>items[i]?=Gc v) St)->St 0 h'->(∀b∈fp,b<h'.objs.size)->(∀b∈fp,b=a\/s.heap.objs.size<=b)->s.heap.objs.size<=I->nV items.toList ms->ms.Perm L->(∀b o,s.heap.get? b=Gc o->h'.get? b=Gc o)->Q (.ref I) {s with heap:=h',drawn:=d'}):wpAny (model prog w) A (pyIter (.ref a)) Q E s:=by
 obtain⟨o,es,ep,t,ho,hex,hd,hel,hp,hb,hf,ht⟩:=hS
 have ty:s.TypeIs (.ref a) "set":=⟨o,ho,hex.1⟩
 have la:=kf ho
 have ps:t.place.size=es.size:=by simp only[SetTable.fits,kn,vE]at hf;exact hf.1
 refine vk ty wq (lg wq ty K2 ?_ (F.args_set_iter_1 _))
 unfold nJ.«frozenset.__iter__»
 refine kH (m:=yg "__iter__" _) (kO ?_)
 refine kH (m:=yI a) (kH (oo ho hd hf (kO ?_)))
 refine kH (m:=setDrawn a) ?_
 unfold setDrawn
 refine kH (oU ho hd hf (kH (II (kO ?_))))
 show wpAny _ _ (if(!byT w && (!t.plain && decide (es.size>1)))=true then _ else _) _ _ _
 cases hbt:byT w with
 |true=>
  rw[lJ (by simp)]
  refine kH (kO (kH (sX ho hd hf (kH (lu ?_)))))
  refine kO ⟨_,rfl,"set_iterator",_,⟨_,kZ _ rfl,rfl⟩,BH.lookup,?_⟩
  have pk:=SH (w.params.setOrder a ep) es
  refine h _ [s.heap.objs.size,a] ((pickOrder (w.params.setOrder a ep) es).map (·.2)) _ (vls (pickOrder (w.params.setOrder a ep) es).toList) _ _
   (λA' hh=>Wm hh _ a (ki la) es ep t (λ_=>0) _ λs i A Q E x hi q=>RX hbt x (by simpa[Function.comp_def]using q))
   ⟨⟨_,kZ _ rfl,rfl,rfl⟩,o,kK _ ho,hex,hd,hf⟩ ?_ (λb hb=>by simp at hb;rcases hb with rfl|rfl<;>simp) (kR _) ?_ ((pk.map iOf).trans hp) (λb o e=>kK _ e)
  .intro b hb
   rw[lG]
   simp at hb
   rcases hb with rfl|rfl
   .exact nv _
   .exact mQ la
  .rw[tN]
   exact L5 (hel.perm pk)
 |false=>
  rw[hbt]at ht
  cases hpl:(!t.plain && decide (es.size>1))with
  |false=>
   rw[lJ (by simp)]
   refine kH (kO (kH (sX ho hd hf (kH (lu ?_)))))
   refine kO ⟨_,rfl,"set_iterator",_,⟨_,kZ _ rfl,rfl⟩,BH.lookup,?_⟩
   refine h _ [s.heap.objs.size,a] (es.map (·.2)) _ (vls es.toList) _ _
    (λA' hh=>Wm hh _ a (ki la) es ep t (slotAt t.place) _ λs i A Q E x hi q=>QF hbt x hpl (by rw[ht.led];rfl) ?_)
    ⟨⟨_,kZ _ rfl,rfl,rfl⟩,o,kK _ ho,hex,hd,hf⟩ ?_ (λb hb=>by simp at hb;rcases hb with rfl|rfl<;>simp) (kR _) ?_ hp (λb o e=>kK _ e)
   .have hi':i<=es.size:=by simpa using hi
    rw[P8 ht.ris (by omega)]
    by_cases z:i<es.size
    .have z':i<t.place.size:=by omega
     have e1:es[i]?=Gc es[i]:=by simp[z]
     have e2:t.place[i]?=Gc t.place[i]:=by simp[z']
     rw[vH,e1]at q
     have e3:slotAt t.place (i+1)=t.place[i]+1:=by simp[slotAt,qY,z']
     rw[e1,e2]
     simp only[Option.map_some,e3]at q
     exact q
    .have e1:es[i]?=none:=by simp;omega
     rw[vH,e1]at q
     rw[e1]
     exact q
   .intro b hb
    rw[lG]
    simp at hb
    rcases hb with rfl|rfl
    .exact nv _
    .exact mQ la
   .rw[tN]
    exact L5 hel
  |true=>
   rw[lF (by simp)]
   refine kH (NS _ _ _ (yx qr) λks d pks=>kH (uT ?_ ?_))
   .refine kH (sX (kK _ ho) hd hf (kH (lu ?_)))
    refine kO ⟨_,rfl,"set_iterator",_,⟨_,kZ _ rfl,rfl⟩,BH.lookup,?_⟩
    have kl:ks.length=es.size:=by have:=pks.length_eq;simpa using this
    have al:(lT es.size).map (λk=>es.getD k (0,.none))=es.toList:=by
     apply qH
     .simp
     .intro i h1 h2
      simp at h1 h2
      simp[qY,h2]
    have pe:(ks.map (λk=>es.getD k (0,.none))).Perm es.toList:=by rw[<-al];exact pks.map _
    refine h _ [(s.heap.push _).objs.size,a,s.heap.objs.size] ((ks.map (λk=>es.getD k (0,.none))).map (·.2)).toArray _ (vls (ks.map (λk=>es.getD k (0,.none)))) _ _
     (λA' hh=>Z6 hh _ a s.heap.objs.size (by rw[lG];exact ki (mQ la)) (by rw[lG];exact ki (nv _)) es ep t ks _ (by simp) λi k e=>?_)
     ⟨⟨_,kZ _ rfl,rfl,rfl⟩,⟨o,kK _ (kK _ ho),hex,hd,hf⟩,⟨_,kK _ (kZ _ rfl),rfl,_,rfl⟩⟩ ?_ (λb hb=>by rw[lG]at hb;simp at hb;rcases hb with rfl|rfl|rfl<;>simp) (by rw[lG];exact uY _) ?_ ((pe.map iOf).trans hp) (λb o e=>kK _ (kK _ e))
    .have km:k<es.size:=by
      have:k∈lT es.size:=pks.mem_iff.mp (k0 e)
      simpa using this
     exact⟨es[k],by simp[km],by simp[e,qY,km]⟩
    .intro b hb
     rw[lG,lG]
     rw[lG]at hb
     simp at hb
     rcases hb with rfl|rfl|rfl
     .exact nv _
     .exact mQ (mQ la)
     .exact mQ (nv _)
    .exact L5 (hel.perm pe)
   .rw[ky,pks.length_eq,qr];exact qo hb
end
end Mi
end
noncomputable section
namespace Mi
open PySem PySem.Spec L2 PyProof.Rows
section
variable{prog:k8}{w:lO}{A:lV}{E:kL->kM->Prop}{s:kM}{a:kQ}{L:Wp Int}
theorem Jf.typeIs(x:Jf prog w s.heap a L):s.TypeIs (.ref a) "set":=let⟨o,_,_,_,ho,e,_⟩:=x;⟨o,ho,e.1⟩
theorem UQ{items acc:lE kL}(h:zK (λi v=>items[i]?=Gc v) acc items.size):acc=items:=by
 apply Array.ext
 .exact h.1
 .intro i h1 h2
  have:=h.2 i acc[i] (by simp)
  simpa[h2]using this.symm
theorem WL{Q:lM->kM->Prop}(x:s.TypeIs (.ref a) "set")(h:Q false s):wpAny (model prog w) A (ng (.ref a)) Q E s:=by
 unfold ng
 refine kH (t9 x F.slot_set_len.lookup ?_)
 generalize hid:("set.__len__":oY)=id0
 wp_delta
 rw[show splitId id0=Gc ("set","__len__")from by subst hid;decide+kernel]
 subst hid
 refine kH (qG (b:=true) x zJ ?_)
 rw[lJ (by decide)]
 dsimp only
 rw[lF (by decide+kernel)]
 refine kH (qD (T:="set") x ?_)
 exact kO h
theorem NT{Q:Wp kL->kM->Prop}(hh:A.handled=none)(hS:Jf prog w s.heap a L)(h:∀(vs:Wp kL) (ms:Wp Int) (h':lP) (d':Drawn) (tk:Nat),nV vs ms->ms.Perm L->(∀b o,s.heap.get? b=Gc o->h'.get? b=Gc o)->s.heap.objs.size<=h'.objs.size->Q vs {s with heap:=h',drawn:=d',toks:=tk}):wpAny (model prog w) A (collect (.ref a)) Q E s:=by
 have lb:L.length<scanBound:=by
  obtain⟨o,es,ep,t,ho,hex,hd,hel,hp,hb,hf,ht⟩:=hS
  have:=hp.length_eq
  simp at this
  lia
 unfold collect
 refine kH (xQ (pT F.entry_proto_collect ?_))
 rw[oV F.plain_proto_collect _]
 show wpAny _ A.in1 (newList [] >>= λl=>again (.builtin "list.__iadd__" ⟨[l,.ref a],[]⟩)) _ _ s
 refine kH (sg ?_)
 refine kO ⟨rA vn _,pT F.entry_list_iadd ?_⟩
 rw[oV vn _]
 show wpAny _ A.in1 (md (.ref s.heap.objs.size) (.ref a) (.ref s.heap.objs.size)) _ _ {s with heap:=s.heap.push (seqObj "list" #[] 0)}
 have hS1:Jf prog w (s.heap.push (seqObj "list" #[] 0)) a L:=hS.at λo e=>kK _ e
 have la:a<s.heap.objs.size:=by obtain⟨o,es,ep,t,ho,r⟩:=hS;exact kf ho
 have me:(s.heap.push (seqObj "list" #[] 0)).get? s.heap.objs.size=Gc (seqObj "list" #[] 0):=kZ _ rfl
 have h1:om (.ref s.heap.objs.size) (.ref a)=false:=by simp[om];exact qC la
 unfold md
 refine kH (qD (T:="set") (Jf.typeIs (s:={s with heap:=s.heap.push (seqObj "list" #[] 0)}) hS1) ?_)
 rw[lJ (by rw[h1];decide)]
 refine kH (R5 (s:={s with heap:=s.heap.push (seqObj "list" #[] 0)}) hS1 λI fp items St ms h2 d2 W st fpl fpn Ip im pm kp=>?_)
 have hS2:Jf prog w h2 a L:=hS1.at λo e=>kp a o e
 refine kH (lh (WL (Jf.typeIs (s:={s with heap:=h2,drawn:=d2}) hS2) ?_))
 rw[lF (by decide+kernel)]
 have Ip':s.heap.objs.size<I:=by rw[show _=s.heap.objs.size+1 from lG ..]at Ip;exact Ip
 have hSf:s.heap.objs.size∉fp:=λz=>by
  rcases fpn _ z with e|e
  .exact qC la e
  .rw[show _=s.heap.objs.size+1 from lG ..]at e;exact nC _ e
 have m2:=kp _ _ me
 have hn:items.size<=sizeLine:=by
  have e1:=im.length
  have e2:=pm.length_eq
  simp at e1
  have:=qo lb
  lia
 refine kH (oZ (kH ?_))
 show wpAny _ A.in1 (updateSeq s.heap.objs.size (·.push .none) >>= λ_=>updateSeq s.heap.objs.size (·.pop)) _ _ _
 refine kH (pS (s:={s with heap:=h2,drawn:=d2}) m2 rfl ?_)
 have m3:=lZ (lX (·.push mW)) m2 rfl
 refine pS m3 rfl ?_
 have m4:=lZ (lX (·.pop)) m3 rfl
 have oth:∀b o,b≠s.heap.objs.size->h2.get? b=Gc o->
   ((h2.update s.heap.objs.size (lX (·.push mW))).update s.heap.objs.size (lX (·.pop))).get? b=Gc o:=
  λb o hb e=>(mS _ _ (mR hb)).trans ((mS _ _ (mR hb)).trans e)
 have W1:=(W A.in1 (by simp[hh])).toS
 refine kO ⟨rA uo _,ub W1 hn _ hSf _ items.size 0 _ _ _ rfl (mI _) ?_ m4 (ItemsOf.nil _) λs' acc' c' hm hS' hacc=>?_⟩
 .exact(W A.in1 (by simp[hh])).frame 0 _ _ st λb hb o e=>oth b o (λz=>hSf (z▸hb)) e
 .have ea:=UQ hacc
  subst ea
  obtain⟨h',g',d',tk',os'⟩:=s'
  have e1:g'=s.gens:=hm.gens
  have e2:d'=d2:=hm.drawn
  have e3:os'=s.os:=hm.os
  subst e1 e2 e3
  refine kH (wpAny_load hS' (kO (h _ ms _ _ _ im pm (λb o e=>?_) (mx (kf hS')))))
  have lb:=kf e
  exact hm.heap b o (by simp;exact⟨ki lb,ki (qF lb Ip')⟩) (oth b o (ki lb) (kp b o (kK _ e)))
end
end Mi
end
noncomputable section
namespace Mi
open PySem PySem.Spec L2 PyProof.Rows
section
variable{prog:k8}{w:lO}{A:lV}{E:kL->kM->Prop}{s:kM}{a:kQ}{L:Wp Int}
theorem Oa{Q:kL->kM->Prop}(hh:A.handled=none)(hS:Jf prog w s.heap a L)(h64:L.length<64)(h:∀(p:kQ) (out:lE kL) (e:Nat) (ms:Wp Int) (h':lP) (d':Drawn) (tk:Nat),s.heap.objs.size<=p->h'.get? p=Gc (seqObj "list" out e)->nV out.toList ms->ms.Perm L->ms.Pairwise (· <= ·)->(∀b o,s.heap.get? b=Gc o->h'.get? b=Gc o)->Q (.ref p) {s with heap:=h',drawn:=d',toks:=tk}):wpAny (model prog w) A (call (.builtin "sorted") [.ref a]) Q E s:=by
 refine sJ kind_sorted zM zN (zO _) ?_
 unfold nJ.«sorted»
 refine kH (m:=checkCount "sorted" 1 1 _) (kO (kH (NT (by simp[hh]) hS λvs ms h' d' tk im pm kp lz=>kH (sg ?_ ?_))))
 .have at1:(h'.push (seqObj "list" vs.toArray 0)).get? h'.objs.size=Gc (seqObj "list" vs.toArray 0):=kZ _ rfl
  have vl:vs.length<64:=by rw[im.length,pm.length_eq];exact h64
  show wpAny _ _ _ _ _ {s with heap:=h'.push (seqObj "list" vs.toArray 0),drawn:=d',toks:=tk}
  refine kH (lh (lg xU ⟨_,at1,rfl⟩ wt (list_sort_tree at1 im vl λout ns' a1 a2 a3=>⟨_,rfl,kO ⟨_,rfl,?_⟩⟩) (xV _)))
  obtain⟨e,he⟩:=yJ (out:=out) at1
  refine h _ out e ns' _ d' tk lz he a1 (a2.trans pm) a3 λb o q=>?_
  have lb:b<h'.objs.size:=kf (kp b o q)
  rw[xW (ki lb) (by rw[lG];exact mQ lb)]
  exact kK _ (kp b o q)
 .have:vs.length<64:=by rw[im.length,pm.length_eq];exact h64
  exact kY (mx this) (by decide)
end
theorem V4{X:Cx}{pins:Wp (kQ×Obj)}{σ:Wp (kN V)}{H:Hp}{s:kM}(I:Inv X pins σ H s)(d:Drawn):Inv X pins σ H {s with drawn:=d}:=
 I.step (g':=s.gens) (d':=d) (t':=s.toks) (ch:=[]) (λ_ z=>nomatch z) (λ_ _ _ _ _ e _=>e) (λb o _ _ _ e _=>⟨o.slots,e⟩) (λ_ _ _ _ n=>n) (λb o _ e=>⟨o,e⟩) (λ_ _ e=>e) (λ_ _ _ e=>e) (λb ps e=>⟨#[],by rw[e];simp⟩) (λ_ m=>m) I.hok I.bare
noncomputable def wSS:Op1:=λw=>(asL w).bind λds=>(Je ds).bind λns=>if ns.length<=1000/\(Tu ns ns.length).length<64 then Gc (.own ((Ku (Tu ns ns.length)).map D.int))else none
theorem gK{X:Cx}{a:lH}{ta:TA}{p p' pos pos':Pos}(hc:X.calm=true)(hgl:Gl X "sorted")(hml:X.mg "sorted"=none)(hg:Gl X "set")(hm:X.mg "set"=none)(ha:PA X [a] ta)(hs:k9 [a] X.env=[(false,eval a X.env)]:=by rfl)(hs2:k9 [Expr.Call (.Name "set" p) [a] [] pos] X.env=[(false,eval (.Call (.Name "set" p) [a] [] pos) X.env)]:=by rfl):PE X (.Call (.Name "sorted" p') [.Call (.Name "set" p) [a] [] pos] [] pos') (λσ H Q=>ta σ H λvs H1=>rN X.K (o1 wSS) vs H1 Q):=by
 intro pins s σ H Q I h
 refine pG (JN I hgl hml boot_sorted ?_ (by decide) (by decide))
 refine callWith_builtin1 ?_ hs2 rfl
 rw[hs2]
 show wpAny _ _ (spliced ((false,eval (.Call (.Name "set" p) [a] [] pos) X.env)::backTo pos' [])) _ _ s
 refine rC ?_
 refine pG (JN I hg hm zy ?_ (by decide) (by decide))
 refine nZ (thn (ha pos pins s σ H _ I h) λus s1 ⟨vs,H1,I1,r1,q1⟩=>?_) hs rfl
 obtain⟨M,ws,w,e,mo,sh,q⟩:=q1
 obtain⟨v,w1,rfl,rfl,sh1,e1⟩:=GH sh e
 obtain⟨ds,e2,e1⟩:=Ar e1
 obtain⟨ns,e3,e1⟩:=Ar e1
 split at e1
 .rename_i hz
  cases e1
  obtain⟨b,ys,rfl,h3,h4⟩:=sh1.l e2
  have hL:SqL X.K H1 b (ns.map V.int):=by rw[<-Kp h4 e3];exact .of h3
  obtain⟨u,rfl,ru⟩:=r1.one
  cases (show u=mF b from ru)
  obtain⟨its,rv,pl,_⟩:=I1.list hL
  have hl:its.length=ns.length:=by have:=rv.length;simpa using this.symm
  have hl2:its.toArray.size=ns.length:=by rw[kh,hl]
  refine Rv (items:=its.toArray) (ns:=ns) (I1.ok.hd hc) pl.isList (by simpa using intsAre_of rv) (by rw[hl2];unfold scanBound;lia) λh' tk hS hk=>rP ?_
  rw[hl2]at hS
  refine Oa (s:={s1 with heap:=h',toks:=tk}) (I1.ok.hd hc) hS hz.2 λp out e ms h2 d2 tk2 lp hp a1 a2 a3 kp=>?_
  have hs':=QC a2 a3
  subst hs'
  have k2:∀b o,s1.heap.get? b=Gc o->h2.get? b=Gc o:=λb o z=>kp b o (hk b o z)
  have lp2:s1.heap.objs.size<=p:=by
   obtain⟨_,_,_,_,ho,_⟩:=hS
   exact kY (mx (kf ho)) lp
  have hn:H1 p=none:=I1.hok.fresh lp2
  refine⟨.ref _,_,V4 (I1.laid (a:=p) (o:=.lst ((Ku (Tu ns ns.length)).map V.int)) (t':=tk2) k2 lp2 ?_) d2,rfl,q _ _ (.lst mo hn Hz)⟩
  refine⟨?_,out.toList,e,Gw a1,?_⟩
  .rw[ky,(G7 _).length_eq]
   have:(64:Nat)<=sizeLine:=by decide
   lia
  .rw[uc];exact hp
 .cases e1
theorem eG{X:Cx}{a:lH}{o:Ev}{c:lM}{p p' pos pos':Pos}(hc:X.calm=true)(hgl:Gl X "sorted")(hml:X.mg "sorted"=none)(hg:Gl X "set")(hm:X.mg "set"=none)(ha:DEs X [a] [o])(hs:k9 [a] X.env=[(false,eval a X.env)]:=by rfl)(hs2:k9 [Expr.Call (.Name "set" p) [a] [] pos] X.env=[(false,eval (.Call (.Name "set" p) [a] [] pos) X.env)]:=by rfl):DE X (.Call (.Name "sorted" p') [.Call (.Name "set" p) [a] [] pos] [] pos') (L9 c (o1 wSS) [o]):=⟨
 Bh (gK hc hgl hml hg hm ha.pe hs hs2) λ_ _ _ h=>by
  obtain⟨M,E,S,d,S',e,r,st,q⟩:=h
  exact KP e r st q⟩
end Mi
end
noncomputable section
namespace Mi
open PySem PySem.Spec L2 PyProof.Rows
section
variable{prog:k8}{w:lO}{A:lV}{E:kL->kM->Prop}{s:kM}{K:Type} [uK K] {knd:KeyKind prog w K}{d:kQ}{kvs:Wp (K×kL)}
abbrev fM(knd:KeyKind prog w K)(kvs:Wp (K×kL)):Nat->kL->Prop:=λi v=>∃k x,kvs[i]?=Gc (k,x)/\knd.is k v=true
theorem R7{Q:lM->kM->Prop}(x:s.TypeIs (.ref d) "dict")(h:Q false s):wpAny (model prog w) A (ng (.ref d)) Q E s:=by
 unfold ng
 refine kH (t9 x F.slot_dict_len.lookup ?_)
 generalize hid:("dict.__len__":oY)=id0
 wp_delta
 rw[show splitId id0=Gc ("dict","__len__")from by subst hid;decide+kernel]
 subst hid
 refine kH (qG (b:=true) x (by rw[uZ];kernel_rfl) ?_)
 rw[lJ (by decide)]
 dsimp only
 rw[lF (by decide+kernel)]
 refine kH (qD (T:="dict") x ?_)
 exact kO h
theorem O3{R:wC->kM->Prop}{S:kQ}{res:kL}{c₀:Nat}(hh:A.handled=none)(hd:(d==sysModules)=false)(D:s.heap.DictOf knd d kvs)(hn:kvs.length<=sizeLine)(hS:s.heap.get? S=Gc {cls:=.type "list",data:=.seq #[] c₀})(hR:∀h' tk acc' c',(∀b o,b≠S->s.heap.get? b=Gc o->h'.get? b=Gc o)->h'.get? S=Gc {cls:=.type "list",dict:=none,data:=.seq acc' c',slots:= #[]}->zK (fM knd kvs) acc' kvs.length->R (.ok (.ret res)) {s with heap:=h',toks:=tk}):wpAny (model prog w) A.in1 (md (.ref S) (.ref d) res) (λfin s'=>match fin with| .done f=>R (.ok f) s'| .again c'=>c'.quiet=true/\codeAny (model prog w) A c' R s') (λe s'=>R (.error e) s') s:=by
 obtain⟨ep,D⟩:=D.dictAt
 have ty:s.TypeIs (.ref d) "dict":=D.dictOf.typeIs
 have ld:=D.lt_size
 have lS:=kf hS
 have hSd:S≠d:=λe=>by
  subst e
  obtain⟨o,es,ho,hc,_⟩:=id D
  rw[hS]at ho;cases ho
  exact absurd hc.1 (by simp)
 have h1:om (.ref S) (.ref d)=false:=by simp[om,hSd]
 unfold md
 refine kH (qD (T:="dict") ty ?_)
 rw[lJ (by rw[h1];decide)]
 refine kH (wpAny_pyIter_dict hd D ?_)
 generalize hkI:({cls:=.type "dict_keyiterator",data:=.fields #[.ref d,.int 0 0,.int kvs.length 0,.int ep 0]}:Obj)=kI
 have D1:=D.push kI
 refine kH (lh (R7 (Heap.DictOf.typeIs (s:={s with heap:=s.heap.push _}) D1.dictOf) ?_))
 rw[lF (by decide+kernel)]
 have S1:=kK kI hS
 refine kH (oZ (kH ?_))
 show wpAny _ A.in1 (updateSeq S (·.push .none) >>= λ_=>updateSeq S (·.pop)) _ _ _
 refine kH (pS S1 rfl ?_)
 have m3:=lZ (lX (·.push mW)) S1 rfl
 refine pS (hz:=by seq_fits) m3 rfl ?_
 have m4:=lZ (lX (·.pop)) m3 rfl
 have oth:∀(h2:lP) b o,b≠S->h2.get? b=Gc o->
   ((h2.update S (lX (·.push mW))).update S (lX (·.pop))).get? b=Gc o:=
  λh2 b o hb e=>(mS _ _ (mR hb)).trans ((mS _ _ (mR hb)).trans e)
 have W:=Walks.dictKeys (knd:=knd) (A:=A.in1) (by simp[hh]) s.heap.objs.size d (ki ld) kvs ep
 have hSf:S∉ [s.heap.objs.size,d]:=by simp;exact⟨ki lS,hSd⟩
 refine kO ⟨rA uo _,ub W.toS hn _ hSf _ kvs.length 0 _ _ _ rfl (mI _) ?_ m4 (ItemsOf.nil _) λs' acc' c' hm hS' hacc=>?_⟩
 .exact W.frame 0 (s.heap.push kI) _ ⟨⟨kI,kZ _ (by rw[<-hkI];rfl),by rw[<-hkI],by rw[<-hkI];rfl⟩,D1⟩ λb hb o e=>oth (s.heap.push kI) b o (λz=>hSf (z▸hb)) e
 .obtain⟨h',g',d',tk',os'⟩:=s'
  have e1:g'=s.gens:=hm.gens
  have e2:d'=s.drawn:=hm.drawn
  have e3:os'=s.os:=hm.os
  subst e1 e2 e3
  refine hR h' tk' acc' c' (λb o nb e=>?_) hS' hacc
  have lb:=kf e
  have q2:=oth (s.heap.push kI) b o nb (kK kI e)
  have q3:b∉S:: [s.heap.objs.size]:=by simp;exact⟨nb,ki lb⟩
  exact hm.heap b o q3 q2
theorem QN{Q:kL->kM->Prop}(hh:A.handled=none)(hd:(d==sysModules)=false)(D:s.heap.DictOf knd d kvs)(hn:kvs.length<=sizeLine)(hQ:∀h' tk acc' c',(∀b o,s.heap.get? b=Gc o->h'.get? b=Gc o)->h'.get? s.heap.objs.size=Gc {cls:=.type "list",dict:=none,data:=.seq acc' c',slots:= #[]}->zK (fM knd kvs) acc' kvs.length->Q (.ref s.heap.objs.size) {s with heap:=h',toks:=tk}):wpAny (model prog w) A (call (.type "list") [.ref d]) Q E s:=by
 refine callType_codes (Q₁:=λobj s₁=>obj=.ref s.heap.objs.size/\s₁={s with heap:=s.heap.push {cls:=.type "list",data:=.seq #[]}}) F.called_list (F.typeCall_list_1 _) F.entry_list_init
  (code_list_new _ ⟨rfl,rfl⟩) λobj s₁ h₁=>?_
 obtain⟨rfl,rfl⟩:=h₁
 have hS:(s.heap.push {cls:=.type "list",data:=.seq #[]}).get? s.heap.objs.size=Gc {cls:=.type "list",data:=.seq #[]}:=kZ _ rfl
 refine⟨⟨_,hS,rfl⟩,F.args_list_init_2 _ _,?_⟩
 show wpAny _ _ (do let old<-tj (.ref s.heap.objs.size);yh (.ref s.heap.objs.size) (λ_=> #[]);letGo old.toList.reverse;md (.ref s.heap.objs.size) (.ref d) .none) _ _ _
 refine kH ?_
 unfold tj
 refine kH (nU hS rfl (kO ?_))
 show wpAny _ _ (updateSeq s.heap.objs.size (λ_=> #[]) >>= λ_=>letGo (#[]:lE kL).toList.reverse >>= λ_=>md (.ref s.heap.objs.size) (.ref d) .none) _ _ _
 refine kH (pS hS rfl ?_)
 have hS₂:=lZ (lX (λ_=>(#[]:lE kL))) hS rfl
 have oth:∀b o,b≠s.heap.objs.size->(s.heap.push {cls:=.type "list",data:=.seq #[]}).get? b=Gc o->((s.heap.push {cls:=.type "list",data:=.seq #[]}).update s.heap.objs.size (lX (λ_=>(#[]:lE kL)))).get? b=Gc o:=
  λb o hb e=>(mS _ _ (mR hb)).trans e
 refine kH (uS ?_)
 have ld:d<s.heap.objs.size:=by obtain⟨_,_,_,ho,_⟩:=id D;exact kf ho
 have D2:Heap.DictOf knd ((s.heap.push {cls:=.type "list",data:=.seq #[]}).update s.heap.objs.size (lX (λ_=>(#[]:lE kL)))) d kvs:=by
  obtain⟨o,es,ep,ho,r⟩:=id D
  exact⟨o,es,ep,oth d o (ki ld) (kK _ ho),r⟩
 refine O3 (A:=A.in1) hh hd D2 hn hS₂ λh' tk acc' c' hk hS' hacc=>⟨rfl,hQ h' tk acc' c' (λb o e=>?_) hS' hacc⟩
 have nb:=ki (kf e)
 exact hk b o nb (oth b o nb (kK _ e))
end
end Mi
end
noncomputable section
namespace Mi
open PySem PySem.Spec L2 PyProof.Rows
noncomputable def Qb:Wp (Key×D)->kN (Wp Int)
 | []=>Gc []
 |(.inl n,_)::r=>(Qb r).map (n:: ·)
 |(.inr _,_)::_=>none
theorem N6{K:kJ}{M:Ms}{H:Hp}:∀{kvs:Wp (Key×V)} {es:Wp (Key×D)} {ns:Wp Int},Bw K M H kvs es->Qb es=Gc ns->kvs.map (·.1)=ns.map qB
 |_,_,ns,.nil,e=>by cases e;rfl
 |_,_,ns,.cons (k:=k) h t,e=>by
  cases k with
  |inl n=>
   obtain⟨ms,e1,e⟩:=JQ e
   cases e
   rw[kq,kq,N6 t e1]
  |inr x=>cases e
theorem LN:∀{l:Wp kL} {vs:Wp (Key×kL)} {ns:Wp Int},l.length=vs.length->(∀(j:Nat) v,l[j]?=Gc v->∃k x,vs[j]?=Gc (k,x)/\Oe k v=true)->vs.map (·.1)=ns.map qB->nV l ns
 | [],[],ns,_,_,e=>by cases ns with
   |nil=>exact .nil
   |cons n ns=>cases e
 |v::l,(k,x)::vs,[],_,_,e=>by cases e
 |v::l,(k,x)::vs,n::ns,hl,h,e=>by
  rw[kq,kq]at e
  injection e with e1 e2
  obtain⟨k',x',q,z⟩:=h 0 v rfl
  cases q
  dsimp only at e1
  subst e1
  rcases Bu z with⟨i,t,e3,rfl⟩|⟨y,t,e3,rfl⟩
  .cases e3
   exact .cons _ _ (LN (by simpa using hl) (λj v q=>h (j+1) v (by simpa using q)) e2)
  .cases e3
 | [],(k,x)::vs,ns,hl,_,e=>by simp at hl
 |v::l,[],ns,hl,_,e=>by simp at hl
theorem Sj{X:Cx}{acc:lE kL}{vs:Wp (Key×kL)}{kvs:Wp (Key×V)}{ns:Wp Int}(h:zK (fM (Co X.prog X.w) vs) acc vs.length)(r:KV kvs vs)(e:kvs.map (·.1)=ns.map qB):nV acc.toList ns:=
 LN (by simpa using h.1) (λj v q=>h.2 j v (by simpa using q)) (by rw[<-r.keys];exact e)
theorem Vo{X:Cx}(hc:X.calm=true):DQ X (.type "list") (λxs H Q=>∃(a:kQ) (kvs:Wp (Key×V)) (ns:Wp Int),xs=[.ref a]/\H a=Gc (.dK kvs)/\kvs.map (·.1)=ns.map qB/\∀q,H q=none->Q (.ref q) (upd H q (.lst (ns.map V.int)))):=by
 intro pins s σ H xs us Q I r h
 obtain⟨a,kvs,ns,rfl,ha,hk,q⟩:=h
 obtain⟨u,rfl,ru⟩:=r.one
 cases (show u=mF a from ru)
 obtain⟨z,hd,vs,rel,dd⟩:=bD I.hok ha
 refine QN (I.ok.hd hc) hd dd (by rw[<-rel.length];exact z) λh' tk acc' c' k at' hacc=>?_
 have hi:=Sj hacc rel hk
 refine⟨.ref _,_,I.laid (a:=s.heap.objs.size) (o:=.lst (ns.map V.int)) (t':=tk) k (kR _) ?_,rfl,q _ (I.hok.fresh (kR _))⟩
 refine⟨?_,acc'.toList,c',Gw hi,?_⟩
 .rw[ky,<-hi.length,mJ,hacc.1,<-rel.length];exact z
 .rw[uc];exact at'
noncomputable def eLK(c:lM)(f:Ev):Ev:=λE S=>(f E S).bind λa=>(Tw a.2 a.1).bind λes=>(Qb es).bind λns=>fin c (.own (ns.map D.int)) a.2
theorem Ys{o:Ev}{E:En}{S S1:Sto}{w:D}(e1:o E S=Gc (w,S1)):evs [o] E S=Gc ([w],S1):=by
 show(o E S).bind (λr=>(evs [] E r.2).map λq=>(r.1::q.1,q.2))=_
 rw[e1];rfl
theorem Zm{X:Cx}{a:lH}{o:Ev}{c:lM}{p pos:Pos}(hc:X.calm=true)(hg:Gl X "list")(hm:X.mg "list"=none)(ha:DEs X [a] [o])(hs:k9 [a] X.env=[(false,eval a X.env)]:=by rfl):DE X (.Call (.Name "list" p) [a] [] pos) (eLK c o):=⟨
 Bh (NZ (Vo hc) hg hm uh ha.pe (by decide) (by decide) hs rfl) λσ H Q z=>by
  obtain⟨M,E,S,d,S',e,r,st,q⟩:=z
  obtain⟨⟨w,S1⟩,e1,e⟩:=Ar e
  obtain⟨es,ed,e⟩:=Ar e
  obtain⟨ns,en,e⟩:=Ar e
  refine HF (Ys e1) r st λvs H1 M1 g1 st1 r1=>?_
  cases r1 with
  |cons r1 rn=>
   cases rn
   obtain⟨a,kvs,rfl,h,rk⟩:=R9 st1 r1 ed
   refine⟨a,kvs,ns,rfl,h,N6 rk en,λp hp=>?_⟩
   obtain⟨M2,g2,st2,d2⟩:=(Nw.lst st1.mo hp Hz).fin st1 e
   exact q _ _ M2 (g1.trans g2) st2 d2⟩
end Mi
end
noncomputable section
namespace Mi
open PySem PySem.Spec L2 PyProof.Rows
abbrev eIx(a b:Ev):Ev:=eOp (o2 wIx) [a,b]
abbrev eI(n:Int):Ev:=eC (.int n)
theorem scM{N P:Wp Str}{sc:nR}(a:sc.kind=.function:=by rfl)(b:sc.isCoroutine=false:=by rfl)(c:sc.isGenerator=false:=by rfl)(d:N.Nodup:=by decide+kernel)(e:N.take P.length=P:=by rfl)(f:∀x∈P,sc.names.lookup x=Gc .local\/sc.names.lookup x=Gc .cell:=by decide+kernel)(g:∀y∈sc.names,y.2≠.free:=by decide+kernel):AW N P sc:=⟨a,b,c,d,e,f,g⟩
theorem csM{N:Wp Str}{osc:nR}{N':Wp Str}{ix:Wp (kN Nat)}{scope:nR}(a:scope.kind=.function:=by rfl)(b:∀y∈scope.names,y.2=.cell->scope.names.lookup y.1=Gc .cell:=by decide+kernel)(c:∀y∈scope.names,y.2=.local->scope.names.lookup y.1=Gc .local:=by decide+kernel)(d:∀y∈scope.names,y.2=.free->(osc.names.lookup y.1=Gc .cell\/osc.names.lookup y.1=Gc .free):=by decide+kernel)(e:Pm N osc scope N' ix=true:=by decide+kernel):AZ N osc N' ix scope:=⟨a,b,c,d,e⟩
theorem Qh{α:Type}{us:Wp α}(h:us.length=1):∃a,us=[a]:=by
 match us,h with
 | [a],_=>exact⟨a,rfl⟩
theorem eX{α:Type}{us:Wp α}(h:us.length=2):∃a b,us=[a,b]:=by
 match us,h with
 | [a,b],_=>exact⟨a,b,rfl⟩
theorem gy{α:Type}{us:Wp α}(h:us.length=3):∃a b c,us=[a,b,c]:=by
 match us,h with
 | [a,b,c],_=>exact⟨a,b,c,rfl⟩
theorem gm{α:Type}{us:Wp α}(h:us.length=6):∃a b c d e f,us=[a,b,c,d,e,f]:=by
 match us,h with
 | [a,b,c,d,e,f],_=>exact⟨a,b,c,d,e,f,rfl⟩
theorem ib{us:Wp kL}{n:Nat}(h:us.length=n):∃f:Nat->kL,us=(lT n).map f:=by
 refine⟨λi=>us.getD i .none,?_⟩
 subst h
 apply qH
 .simp
 .intro i h1 h2
  rw[List.getElem_map,List.getElem_range,kg,kS h1];rfl
def BnR(x:Str)(st:mH)(ps:Wp Str):Prop:=∀(kV doc pm:kL) (an:kN kQ) (cdv ct:kL) (f:Nat->kL),bindArgs (pH x x (Ii st) (EH st) (AK st) .none kV doc pm an cdv ct) ⟨(lT ps.length).map f,[]⟩=pure (ps.zip ((lT ps.length).map f))
theorem bnR{K:kJ}{x:Str}{st:mH}{ps:Wp Str}{f:kQ}{fd:nS}(F:Fun K x x st f fd)(h:BnR x st ps):Binds K fd ps []:=F.binds λa b c d e g us hl=>by
 obtain⟨k,rfl⟩:=ib hl
 exact h a b c d e g k
section
variable{P:k8}{w:lO}{K:kJ}{mg:Str->kN kL}{base:lP}
theorem dfM{x:Str}{st:mH}{N ps:Wp Str}(k:Nat){np:Nat}{b:Ex}(S:St.Src K mg x st)(sc:AW N ps (AK st))(hb:∀{f:kQ} {cdv:kL} {A:lV} {outer:Wp yZ} {s:kM} {H:Hp} {E:XK},Ky k (A.deeper (qO x (AK st) s.heap.objs.size f cdv))->(A.deeper (qO x (AK st) s.heap.objs.size f cdv)).units+100<cLine->DSs (UM CX0 P w K mg base N x (AK st) f cdv A outer s H E).nox (EH st) b)(hp:ps.length=np:=by rfl)(hbi:BnR x st ps:=by exact λ_ _ _ _ _ _ _=>rfl):St.Dfn P w K mg base x (k+1) ps (spD K np (BP (BU N.length b))):=aN S sc hp (λ_ _ F=>bnR F hbi) λ_ _ _ _ _ _ _ hr=>hb hr (RD hr)
end
theorem deM{X:Cx}{k k' np:Nat}{x:Str}{ps:Wp Str}{f:Fn}{e:lH}{es:Wp lH}{fs:Wp Ev}{p pos:Pos}(d:St.Dfn X.prog X.w X.K X.mg X.base x k ps (spD X.K np f))(hr:Ky k' X.A)(ha:DEs X (e::es) fs)(hk:k<=k':=by first|decide|omega)(hg:Gl X x:=by exact rfl)(hn:fs.length=np:=by rfl)(hdb:(x==("__debug__":Str))=false:=by decide)(he:k9 (e::es) X.env=(false,eval e X.env)::k9 es X.env:=by rfl)(hpl:(backTo pos (k9 es X.env)).any (·.1)=false:=by rfl):DE X (.Call (.Name x p) (e::es) [] pos) (AJ f fs):=YN d (hr.mono hk) hg ha hn hdb he hpl
end Mi
end
noncomputable section
namespace Mi
open PySem PySem.Spec L2 PyProof.Rows
open PySem.W (KasT kas_asc kas_desc kas_rev kas_tail3 kas_descPart kas_count kas_place kas_bin kas_sort kas_ask kas_item)
section
variable{cmp:Nat->Nat->(lM->kM->Prop)->kM->Prop}{key:Nat->Int}{n:Nat}{s:kM}{p:lE Nat}
def Tru(cmp:Nat->Nat->(lM->kM->Prop)->kM->Prop)(key:Nat->Int)(n:Nat)(s:kM):Prop:=
 ∀i j (C:lM->kM->Prop),i<n->j<n->i≠j->C (decide (key i<key j)) s->cmp i j C s
abbrev kp(key:Nat->Int)(p:lE Nat)(i:Nat):Int:=key (p.getD i 0)
structure PI(key:Nat->Int)(n:Nat)(p:lE Nat):Prop where
 pm:p.toList.Perm (lT n)
 inj:∀i j,i<n->j<n->key i=key j->i=j
theorem PI.sz(h:PI key n p):p.size=n:=by simpa using h.pm.length_eq
theorem PI.lt(h:PI key n p){i:Nat}(hi:i<n):p.getD i 0<n:=by
 have:p.getD i 0∈p.toList:=by simp[qY,h.sz,hi]
 simpa using h.pm.mem_iff.mp this
theorem PI.ni(h:PI key n p){i j:Nat}(hi:i<n)(hj:j<n)(ne:i≠j):p.getD i 0≠p.getD j 0:=λe=>by
 have nd:p.toList.Nodup:=h.pm.nodup_iff.mpr wN
 have hi':i<p.size:=by rw[h.sz];exact hi
 have hj':j<p.size:=by rw[h.sz];exact hj
 have e':p.toList[i]'(by simpa using hi')=p.toList[j]'(by simpa using hj'):=by simpa[qY,hi',hj']using e
 exact ne ((ou nd).mp e')
theorem PI.nk(h:PI key n p){i j:Nat}(hi:i<n)(hj:j<n)(ne:i≠j):kp key p i≠kp key p j:=
 λe=>h.ni hi hj ne (h.inj _ _ (h.lt hi) (h.lt hj) e)
theorem PI.perm(h:PI key n p){q:lE Nat}(e:q.Perm p):PI key n q:=⟨(Array.perm_iff_toList_perm.mp e).trans h.pm,h.inj⟩
theorem Nd(T:Tru cmp key n s)(I:PI key n p){i j:Nat}(hi:i<n)(hj:j<n)(ne:i≠j){C:lM->kM->Prop}(h1:kp key p i<kp key p j->C true s)(h2:kp key p j<kp key p i->C false s):cmp (p.getD i 0) (p.getD j 0) C s:=by
 refine T _ _ _ (I.lt hi) (I.lt hj) (I.ni hi hj ne) ?_
 by_cases h:key (p.getD i 0)<key (p.getD j 0)
 .rw[nT h];exact h1 h
 .rw[oM h]
  have:=I.nk hi hj ne
  exact h2 (by simp only[kp]at *; lia)
def Srt(key:Nat->Int)(p:lE Nat)(m:Nat):Prop:=∀i j,i<j->j<m->kp key p i<kp key p j
def Dsc(key:Nat->Int)(p:lE Nat)(m:Nat):Prop:=∀i j,i<j->j<m->kp key p j<kp key p i
theorem Srt.more{m:Nat}(h:Srt key p m)(h1:1<=m)(e:kp key p (m-1)<kp key p m):Srt key p (m+1):=λi j ij jm=>by
 by_cases q:j<m
 .exact h i j ij q
 .have:j=m:=by lia
  subst this
  by_cases r:i=j-1
  .subst r;exact e
  .exact nQ (h i (j-1) (by lia) (by lia)) e
theorem Dsc.more{m:Nat}(h:Dsc key p m)(h1:1<=m)(e:kp key p m<kp key p (m-1)):Dsc key p (m+1):=λi j ij jm=>by
 by_cases q:j<m
 .exact h i j ij q
 .have:j=m:=by lia
  subst this
  by_cases r:i=j-1
  .subst r;exact e
  .exact nQ e (h i (j-1) (by lia) (by lia))
theorem TJ(T:Tru cmp key n s)(I:PI key n p){G:Nat->kM->Prop}:∀(f a:Nat),1<=a->a+f=n->Srt key p a->(∀m,a<=m->m<=n->Srt key p m->(m=n\/kp key p m<kp key p (m-1))->G m s)->(kas_asc p f a).kasWp cmp G s
 |0,a,h1,e,hs,h=>h a (kR _) (by lia) hs (.inl (by lia))
 |f+1,a,h1,e,hs,h=>by
  show cmp (p.getD a 0) (p.getD (a-1) 0) (λc s'=>(if c=true then KasT.ret a else kas_asc p f (a+1)).kasWp cmp G s') s
  refine Nd T I (by lia) (by lia) (by lia) (λq=>?_) (λq=>?_)
  .rw[lF rfl];exact h a (kR _) (by lia) hs (.inr q)
  .rw[lJ (by decide)];exact TJ T I f (a+1) (by lia) (by lia) (hs.more h1 q) λm hm=>h m (by lia)
theorem Sw(T:Tru cmp key n s)(I:PI key n p){G:lE Nat×Nat×Nat->kM->Prop}:∀(f a:Nat),1<=a->a+f=n->Dsc key p a->(∀m,a<=m->m<=n->Dsc key p m->G (p,m,0) s)->(vo f p a 0).kasWp cmp G s
 |0,a,h1,e,hs,h=>h a (kR _) (by lia) hs
 |f+1,a,h1,e,hs,h=>by
  show cmp (p.getD a 0) (p.getD (a-1) 0) (λc s'=>(if c=true then(if 0>0 then vo f (ui p (a-(0+1)) a) (a+1) 0 else vo f p (a+1) 0)
   else KasT.ask (p.getD (a-1) 0) (p.getD a 0) λd=>if d=true then .ret (p,a,0)else vo f p (a+1) (0+1)).kasWp cmp G s') s
  refine Nd T I (by lia) (by lia) (by lia) (λq=>?_) (λq=>?_)
  .rw[lF rfl,lJ (by decide)];exact Sw T I f (a+1) (by lia) (by lia) (hs.more h1 q) λm hm=>h m (by lia)
  .rw[lJ (by decide)]
   show cmp (p.getD (a-1) 0) (p.getD a 0) (λd s'=>(if d=true then KasT.ret (p,a,0)else vo f p (a+1) (0+1)).kasWp cmp G s') s
   refine Nd T I (by lia) (by lia) (by lia) (λq'=>?_) (λq'=>?_)
   .rw[lF rfl];exact h a (kR _) (by lia) hs
   .exact absurd (nQ q q') (by simp)
theorem getD_eq{q:lE Nat}{i:Nat}:q.getD i 0=(q[i]?).getD 0:=by simp
theorem Yk(T:Tru cmp key n s)(I:PI key n p){m:Nat}{G:Nat×lE Nat->kM->Prop}(h1:1<=m)(hm:m<=n)(hs:Dsc key p m)(h:∀a q,1<=a->a<=n->PI key n q->Srt key q a->G (a,q) s):(wO m n p).kasWp cmp G s:=by
 have I':PI key n (ui p 0 m):=I.perm (mirror_perm _ _ _ _)
 unfold wO
 rw[qU]
 refine TJ T I' (n-m) m h1 (by lia) (λi j ij jm=>?_) λa h2 h3 h4 _=>h a _ (by lia) h3 I' h4
 have hj:m<=p.size:=by rw[I.sz];exact hm
 show key ((ui p 0 m).getD i 0)<key ((ui p 0 m).getD j 0)
 rw[getD_eq,getD_eq]
 unfold ui
 rw[uq hj,uq hj,lF (by lia),lF (by lia),<-getD_eq,<-getD_eq]
 exact hs _ _ (by lia) (by lia)
theorem VP(T:Tru cmp key n s)(I:PI key n p){G:Nat×lE Nat->kM->Prop}(h1:1<=n)(h:∀a q,1<=a->a<=n->PI key n q->Srt key q a->G (a,q) s):(kas_count n p).kasWp cmp G s:=by
 unfold kas_count
 rw[qU]
 refine TJ T I (n-1) 1 (kR _) (by lia) (λi j ij jm=>by lia) λm h2 h3 h4 h5=>?_
 by_cases e:m=n
 .rw[lF (by simpa using e)];exact h m p h2 h3 I h4
 .rw[lJ (by simpa using e)]
  by_cases e2:m>1
  .rw[lF e2]
   show cmp (p.getD 0 0) (p.getD (m-1) 0) (λc s'=>(if c=true then KasT.ret (m,p)else zP m n (ui p 0 m)).kasWp cmp G s') s
   refine Nd T I (by lia) (by lia) (by lia) (λq=>?_) (λq=>?_)
   .rw[lF rfl];exact h m p h2 h3 I h4
   .exact absurd (nQ q (h4 0 (m-1) (by lia) (by lia))) (by simp)
  .rw[lJ e2]
   have:m=1:=by lia
   subst this
   have q:=h5.resolve_left e
   unfold zP
   rw[qU]
   refine Sw T I (n-(1+1)) (1+1) (by lia) (by lia) (Dsc.more (m:=1) (λi j ij jm=>by lia) (by lia) q) λa h6 h7 h8=>?_
   show(if(0:Nat)>0 then wO a n (ui p (a-(0+1)) a)else wO a n p).kasWp cmp G s
   rw[lJ (by decide)]
   exact Yk T I (by lia) h7 h8 h
theorem Ka(T:Tru cmp key n s)(I:PI key n p){k:Nat}(hk:k<n)(hs:Srt key p k){G:Nat->kM->Prop}:∀(f l r:Nat),l<=r->r<=k->r-l<=f->(∀i,i<l->kp key p i<kp key p k)->(∀i,r<=i->i<k->kp key p k<kp key p i)->(∀l,l<=k->(∀i,i<l->kp key p i<kp key p k)->(∀i,l<=i->i<k->kp key p k<kp key p i)->G l s)->(wQ p k f l r).kasWp cmp G s
 |0,l,r,lr,rk,hf,h1,h2,h=>by
  have:l=r:=by lia
  subst this
  exact h l rk h1 h2
 |f+1,l,r,lr,rk,hf,h1,h2,h=>by
  unfold wQ
  by_cases e:l≥r
  .rw[lF e]
   have:l=r:=by lia
   subst this
   exact h l rk h1 h2
  .rw[lJ e]
   show cmp (p.getD k 0) (p.getD ((l+r) / 2) 0) (λc s'=>(if c=true then wQ p k f l ((l+r) / 2)else wQ p k f ((l+r) / 2+1) r).kasWp cmp G s') s
   refine Nd T I hk (by lia) (by lia) (λq=>?_) (λq=>?_)
   .rw[lF rfl]
    refine Ka T I hk hs f l ((l+r) / 2) (by lia) (by lia) (by lia) h1 (λi hi ik=>?_) h
    by_cases z:i=(l+r) / 2
    .subst z;exact q
    .exact nQ q (hs _ _ (by lia) ik)
   .rw[lJ (by decide)]
    refine Ka T I hk hs f ((l+r) / 2+1) r (by lia) (by lia) (by lia) (λi hi=>?_) h2 h
    by_cases z:i=(l+r) / 2
    .subst z;exact q
    .exact nQ (hs i ((l+r) / 2) (by lia) (by lia)) q
theorem Xi(T:Tru cmp key n s){G:lE Nat->kM->Prop}(h:∀q,PI key n q->Srt key q n->G q s):∀(f k:Nat) (p:lE Nat),PI key n p->k+f=n->Srt key p k->(zQ f p k).kasWp cmp G s
 |0,k,p,I,e,hs=>h p I (by have:k=n:=by lia
                          subst this;exact hs)
 |f+1,k,p,I,e,hs=>by
  unfold zQ
  rw[qU]
  refine Ka T I (by lia) hs k 0 k (mI _) (kR _) (by lia) (λi hi=>by lia) (λi h1 h2=>by lia) λl hl h1 h2=>?_
  refine Xi T h f (k+1) _ (I.perm (bubble_perm _ _ _)) (by lia) λi j ij jk=>?_
  have hks:k<p.size:=by rw[I.sz];lia
  show key ((bubble p k (k-l)).getD i 0)<key ((bubble p k (k-l)).getD j 0)
  rw[getD_eq,getD_eq,wu hks _ (by lia),wu hks _ (by lia),show k-(k-l)=l by lia]
  repeat' split
  all_goals first
   |(exfalso;lia)
   |(rw[<-getD_eq,<-getD_eq];first|exact h1 _ (by lia)|exact h2 _ (by lia) (by lia)|exact hs _ _ (by lia) (by lia))
theorem Uy(T:Tru cmp key n s)(inj:∀i j,i<n->j<n->key i=key j->i=j)(h1:1<=n){G:lE Nat->kM->Prop}(h:∀q,PI key n q->Srt key q n->G q s):(kas_sort n).kasWp cmp G s:=by
 unfold kas_sort
 rw[qU]
 refine VP T ⟨by simp,inj⟩ h1 λa q h2 h3 I hs=>?_
 by_cases e:a<n
 .show(if a<n then zQ (n-max a 1) q (max a 1)else .ret q).kasWp cmp G s
  rw[lF e]
  have:max a 1=a:=by lia
  rw[this]
  exact Xi T h _ _ _ I (by lia) hs
 .show(if a<n then zQ (n-max a 1) q (max a 1)else .ret q).kasWp cmp G s
  rw[lJ e]
  have:a=n:=by lia
  subst this
  exact h q I hs
end
end Mi
end
noncomputable section
namespace Mi
open PySem PySem.Spec L2 PyProof.Rows
def HB(h:lP):Wp kL->Wp Int->Prop
 | [],[]=>uL
 |v::vs,k::ks=>(∃a o xs n t,v=.ref a/\h.get? a=Gc o/\o.cls=.type "tuple" /\o.data=.seq xs n/\xs[0]?=Gc (.int k t))/\HB h vs ks
 |_,_=>pQ
theorem HB.kat{h:lP}:∀{vs:Wp kL} {ks:Wp Int},HB h vs ks->∃fs:Wp kL,fs.length=vs.length/\PySem.W.KatTups h vs fs/\∀v∈fs,∃k t,v=.int k t
 | [],[],_=>⟨[],rfl,trivial,λ_ z=>nomatch z⟩
 | [],_::_,z=>z.elim
 |_::_,[],z=>z.elim
 |v::vs,k::ks,⟨⟨a,o,xs,n,t,e,ho,hc,hd,hx⟩,r⟩=>by
  obtain⟨fs,h1,h2,h3⟩:=HB.kat r
  refine⟨.int k t::fs,by simp[h1],⟨⟨a,o,xs,n,e,ho,hc,hd,hx⟩,h2⟩,λx hx=>?_⟩
  rcases kX.mp hx with rfl|hx
  .exact⟨k,t,rfl⟩
  .exact h3 x hx
theorem HB.keep{h h':lP}(kp:∀a o,h.get? a=Gc o->o.cls=.type "tuple"->h'.get? a=Gc o):∀{vs:Wp kL} {ks:Wp Int},HB h vs ks->HB h' vs ks
 | [],[],_=>trivial
 | [],_::_,z=>z.elim
 |_::_,[],z=>z.elim
 |v::vs,k::ks,⟨⟨a,o,xs,n,t,e,ho,hc,hd,hx⟩,r⟩=>⟨⟨a,o,xs,n,t,e,kp a o ho hc,hc,hd,hx⟩,r.keep kp⟩
theorem HB.length{h:lP}:∀{vs:Wp kL} {ks:Wp Int},HB h vs ks->vs.length=ks.length
 | [],[],_=>rfl
 | [],_::_,z=>z.elim
 |_::_,[],z=>z.elim
 |v::vs,k::ks,⟨_,r⟩=>by simp[r.length]
theorem HB.at{h:lP}:∀{vs:Wp kL} {ks:Wp Int} {i:Nat},HB h vs ks->i<vs.length->∃a o xs n t,vs.getD i .none=.ref a/\h.get? a=Gc o/\o.data=.seq xs n/\xs[0]?=Gc (.int (ks.getD i 0) t)
 | [],_,_,_,hi=>by simp at hi
 |_::_,[],_,z,_=>z.elim
 |v::vs,k::ks,0,⟨⟨a,o,xs,n,t,e,ho,hc,hd,hx⟩,r⟩,_=>⟨a,o,xs,n,t,by simp[e],ho,hd,by simp[hx]⟩
 |v::vs,k::ks,i+1,⟨_,r⟩,hi=>by
  obtain⟨a,o,xs,n,t,h1,h2,h3,h4⟩:=r.at (i:=i) (by simpa using hi)
  exact⟨a,o,xs,n,t,by simpa using h1,h2,h3,by simpa using h4⟩
section
variable{prog:k8}{w:lO}{A:lV}{E:kL->kM->Prop}{s:kM}{vs:Wp kL}{ks:Wp Int}
theorem X7{x y:kL}{a b:kQ}{o u:Obj}{xs ys:lE kL}{n m:Nat}{k l:Int}{t r:Tok}{Q:lM->kM->Prop}(hx:x=.ref a)(hy:y=.ref b)(ho:s.heap.get? a=Gc o)(hu:s.heap.get? b=Gc u)(d1:o.data=.seq xs n)(d2:u.data=.seq ys m)(e1:xs[0]?=Gc (.int k t))(e2:ys[0]?=Gc (.int l r))(ne:k≠l)(q:Q (decide (k<l)) s):wpAny (model prog w) A (keyLt' (tuples' true) x y) Q E s:=by
 subst hx hy
 refine PySem.W.kat_lt ho d1 hu d2 ?_
 have z1:∃r1,xs.toList=.int k t::r1:=by
  cases h:xs.toList with
  |nil=>simp[<-oJ,h]at e1
  |cons x r=>simp only[<-oJ,h,tO,vp]at e1;exact⟨r,by rw[e1]⟩
 have z2:∃r1,ys.toList=.int l r::r1:=by
  cases h:ys.toList with
  |nil=>simp[<-oJ,h]at e2
  |cons x r=>simp only[<-oJ,h,tO,vp]at e2;exact⟨r,by rw[e2]⟩
 obtain⟨r1,z1⟩:=z1
 obtain⟨r2,z2⟩:=z2
 rw[z1,z2,vI]
 refine PySem.W.kat_cons (v7 ?_)
 rw[show(k==l)=false by simpa using ne]
 exact PySem.W.kat_no (oneLt_int q)
theorem WN(h:HB s.heap vs ks)(nd:ks.Nodup):Tru (PySem.W.kas_ask prog w A (tuples' true) vs) (λi=>ks.getD i 0) vs.length s:=by
 intro i j C hi hj ne q
 obtain⟨a,o,xs,n,t,h1,h2,h3,h4⟩:=h.at hi
 obtain⟨b,u,ys,m,r,k1,k2,k3,k4⟩:=h.at hj
 refine X7 h1 k1 h2 k2 h3 k3 h4 k4 (λe=>ne ?_) q
 have li:i<ks.length:=by rw[<-h.length];exact hi
 have lj:j<ks.length:=by rw[<-h.length];exact hj
 have e':ks[i]=ks[j]:=by simpa[li,lj]using e
 exact(ou nd).mp e'
structure Plc(ks:Wp Int)(p:Wp Nat):Prop where
 pm:p.Perm (lT ks.length)
 so:(p.map λi=>ks.getD i 0).Pairwise (· < ·)
theorem K3{a:kQ}{n:Nat}{P:PySem.Fin->kM->Prop}(ho:s.heap.get? a=Gc (seqObj "list" vs.toArray n))(hk:HB s.heap vs ks)(nd:ks.Nodup)(h64:vs.length<64)(h:∀p:Wp Nat,Plc ks p->P (.done (.ret .none)) {s with heap:=sortedHeap s.heap a vs (p.map λi=>vs.getD i .none).toArray}):wpAny (model prog w) A (nJ.«list.sort» ⟨[.ref a],[]⟩) P E s:=by
 rw[list_sort_plain]
 have ha:a<s.heap.objs.size:=kf ho
 have kl:=hk.length
 refine kH (listItems_at ho rfl ?_)
 refine kH (ux ho rfl ?_ (by rw[kh,sQ];lia) (mI _))
 obtain⟨e1,ho1⟩:∃e1,(s.heap.update a (lX λ_=> #[])).get? a=Gc (seqObj "list" #[] e1):=⟨_,get?_update_seq ho (λ_=> #[])⟩
 refine kH (wZ ho1 rfl ?_)
 refine kH (uT ?_ (by show vs.length<=_;rw[sQ];lia))
 refine kH (sg ?_ (mI _))
 refine lh ?_
 have old:∀b o,b≠a->s.heap.get? b=Gc o->(((s.heap.update a (lX λ_=> #[])).push (seqObj "tuple" vs.toArray 0)).push (seqObj "list" #[] 0)).get? b=Gc o:=λb o nb e=>
  kK _ (kK _ ((mS _ _ (mR nb)).trans e))
 have ho6:(((s.heap.update a (lX λ_=> #[])).push (seqObj "tuple" vs.toArray 0)).push (seqObj "list" #[] 0)).get? a=Gc (seqObj "list" #[] e1):=kK _ (kK _ ho1)
 show wpAny (model prog w) A _ P E {s with heap:=((s.heap.update a (lX λ_=> #[])).push (seqObj "tuple" vs.toArray 0)).push (seqObj "list" #[] 0)}
 dsimp only
 have hsz:vs.toArray.size=vs.length:=by simp
 by_cases h2:vs.toArray.size<2
 .rw[lF h2,lF h2]
  refine kH (kO ?_)
  rw[StateT.run_pure]
  refine kH (kO ?_)
  dsimp only
  refine kH (wZ ho6 rfl ?_)
  refine kH (ux ho6 rfl ?_ (by simp) (by rw[Array.size_map];show(pairsOf vs).size<=_;rw[pairsOf_size,sQ];lia))
  simp only[qq,nO,p0]
  have hp:Plc ks (lT ks.length):=⟨qp _,by
   have:ks.length<2:=by lia
   match ks,this with
   | [],_=>simp
   | [x],_=>simp⟩
  have e:=h _ hp
  have e2:(lT ks.length).map (λi=>vs.getD i mW)=vs:=by
   apply qH
   .simp[kl]
   .intro i i1 i2;simp[i2]
  rw[e2]at e
  refine kO ?_
  have e3:(arrOf (SortSt.mk' general' (vs.toArray.zip vs.toArray) #[] 7 none)).map (·.2)=vs.toArray:=by
   show(vs.toArray.zip vs.toArray).map (·.2)=_
   apply Array.toList_inj.mp
   rw[tN,Array.toList_zip]
   exact wR (kR _)
  have e4:P (.done (.ret .none)) {s with heap:=sortedHeap s.heap a vs ((arrOf (SortSt.mk' general' (vs.toArray.zip vs.toArray) #[] 7 none)).map (·.2))}:=by rw[e3];exact e
  exact e4
 .rw[lJ h2,lJ h2]
  have hn2:2<=vs.length:=by lia
  obtain⟨fs,f1,f2,f3⟩:=(hk.keep (h':=((s.heap.update a (lX λ_=> #[])).push (seqObj "tuple" vs.toArray 0)).push (seqObj "list" #[] 0)) λb o e c=>old b o (λz=>by subst z;rw[ho]at e;cases e;exact absurd c (by simp[seqObj])) e).kat
  have hk':=hk.keep (h':=((s.heap.update a (lX λ_=> #[])).push (seqObj "tuple" vs.toArray 0)).push (seqObj "list" #[] 0)) λb o e c=>old b o (λz=>by subst z;rw[ho]at e;cases e;exact absurd c (by simp[seqObj])) e
  refine kH (PySem.W.kat_kind (s:={s with heap:=((s.heap.update a (lX λ_=> #[])).push (seqObj "tuple" vs.toArray 0)).push (seqObj "list" #[] 0)}) (T:=.type "int") f2 (by lia) (λv hv=>?_) rfl ?_)
  .obtain⟨k,t,rfl⟩:=f3 v hv
   exact PySem.W.Looks.now
  rw[show tuples' (qV "int" !=qV "tuple")=tuples' true from rfl]
  refine kH (rX (PySem.W.kat_run (s:={s with heap:=((s.heap.update a (lX λ_=> #[])).push (seqObj "tuple" vs.toArray 0)).push (seqObj "list" #[] 0)})
   (Q:=λst' s'=>s'={s with heap:=((s.heap.update a (lX λ_=> #[])).push (seqObj "tuple" vs.toArray 0)).push (seqObj "list" #[] 0)}/\∃q:lE Nat,PI (λi=>ks.getD i 0) vs.length q/\Srt (λi=>ks.getD i 0) q vs.length/\arrOf st'=q.map (PySem.W.kas_item (vs.toArray.zip vs.toArray))/\failedOf st'=none)
   (G:=λq s'=>s'={s with heap:=((s.heap.update a (lX λ_=> #[])).push (seqObj "tuple" vs.toArray 0)).push (seqObj "list" #[] 0)}/\PI (λi=>ks.getD i 0) vs.length q/\Srt (λi=>ks.getD i 0) q vs.length)
   rfl hn2 h64 (λq st' s' _ a1 a2 ⟨a3,a4,a5⟩=>⟨a3,q,a4,a5,a1,a2⟩) ?_) ?_ λ_ _ e=>e)
  .refine Uy (WN (s:={s with heap:=((s.heap.update a (lX λ_=> #[])).push (seqObj "tuple" vs.toArray 0)).push (seqObj "list" #[] 0)}) hk' nd) (λi j hi hj e=>?_) (by lia) λq a1 a2=>⟨rfl,a1,a2⟩
   have li:i<ks.length:=by rw[<-kl];exact hi
   have lj:j<ks.length:=by rw[<-kl];exact hj
   have e':ks[i]=ks[j]:=by simpa[li,lj]using e
   exact(ou nd).mp e'
  .rintro ⟨⟨⟩,st'⟩ s' ⟨rfl,q,a1,a2,a3,a4⟩
   dsimp only
   have e3:=PySem.W.kat_snds (ks:=vs) (vs:=vs) rfl a3
   refine kH (wZ ho6 rfl ?_)
   refine kH (ux ho6 rfl ?_ (by simp) (by rw[e3,kh,ky,mJ,a1.sz,sQ];lia))
   rw[a4]
   simp only[qq,nO,p0]
   refine kO ?_
   rw[e3]
   refine h q.toList ⟨by rw[<-kl];exact a1.pm,?_⟩
   rw[sI]
   intro i j hi hj ij
   simp only[ky,mJ]at hi hj
   have:=a2 i j ij (by rw[<-a1.sz];exact hj)
   simpa[kp,qY,hi,hj]using this
theorem Ou{Pv:Wp kL->Prop}{r:kL}{Q:kL->kM->Prop}(hh:A.handled=none)(hc:∀(A':lV) (Q':Wp kL->kM->Prop) (E':kL->kM->Prop),A'.handled=none->(∀h' tk vs,(∀b o,s.heap.get? b=Gc o->h'.get? b=Gc o)->s.heap.objs.size<=h'.objs.size->Pv vs->HB h' vs ks->Q' vs {s with heap:=h',toks:=tk})->wpAny (model prog w) A' (collect r) Q' E' s)(nd:ks.Nodup)(h64:ks.length<64)(h:∀(a:kQ) (e:Nat) (h':lP) (tk:Nat) (vs:Wp kL) (p:Wp Nat),s.heap.objs.size<=a->Plc ks p->Pv vs->(∀b o,s.heap.get? b=Gc o->h'.get? b=Gc o)->h'.get? a=Gc (seqObj "list" (p.map λi=>vs.getD i .none).toArray e)->Q (.ref a) {s with heap:=h',toks:=tk}):wpAny (model prog w) A (call (.builtin "sorted") [r]) Q E s:=by
 refine sJ kind_sorted zM zN (zO _) ?_
 unfold nJ.«sorted»
 refine kH (m:=checkCount "sorted" 1 1 _) (kO (kH (hc _ _ _ (by simp[hh]) λh1 tk vs kp lz pv kt=>kH (sg ?_ ?_))))
 .have at1:(h1.push (seqObj "list" vs.toArray 0)).get? h1.objs.size=Gc (seqObj "list" vs.toArray 0):=kZ _ rfl
  have vl:vs.length<64:=by rw[kt.length];exact h64
  show wpAny _ _ _ _ _ {s with heap:=h1.push (seqObj "list" vs.toArray 0),toks:=tk}
  have kt1:HB (h1.push (seqObj "list" vs.toArray 0)) vs ks:=kt.keep λb o e _=>kK _ e
  refine kH (lh (lg xU ⟨_,at1,rfl⟩ wt (K3 (s:={s with heap:=h1.push (seqObj "list" vs.toArray 0),toks:=tk}) at1 kt1 nd vl λp pl=>⟨_,rfl,kO ⟨_,rfl,?_⟩⟩) (xV _)))
  obtain⟨e,he⟩:=yJ (out:=(p.map λi=>vs.getD i .none).toArray) at1
  have k2:∀b o,h1.get? b=Gc o->(sortedHeap (h1.push (seqObj "list" vs.toArray 0)) h1.objs.size vs (p.map λi=>vs.getD i .none).toArray).get? b=Gc o:=λb o q=>by
   have lb:=kf q
   rw[xW (ki lb) (by rw[lG];exact mQ lb)]
   exact kK _ q
  exact h _ e _ tk vs p lz pl pv (λb o q=>k2 b o (kp b o q)) he
 .rw[kt.length]
  exact kY (mx h64) (by decide)
end
end Mi
end
noncomputable section
namespace Mi
open PySem PySem.Spec L2 PyProof.Rows
structure Lo(X:Cx)(pins:Wp (kQ×Obj))(lo:kQ):Prop where
 s0:X.s₀.heap.objs.size<=lo
 loc:X.env.locals<lo
 cel:∀x c,X.env.cells.lookup x=Gc c->c<lo
 pin:∀p∈X.pn++pins,p.1<lo
section
variable{X:Cx}{pins:Wp (kQ×Obj)}{σ:Wp (kN V)}{H:Hp}{s:kM}
end
noncomputable def Xp:D->kN Int
 | .tup (.int k::_)=>Gc k
 |_=>none
noncomputable def Na:Wp D->kN (Wp Int)
 | []=>Gc []
 |d::ds=>(Xp d).bind λk=>(Na ds).map (k:: ·)
noncomputable def QU(ks:Wp Int)(ds:Wp D):Wp D:=((ks.zip ds).mergeSort λa b=>decide (a.1<=b.1)).map (·.2)
theorem Yg{ks:Wp Int}{ds:Wp D}(nd:ks.Nodup){a b:Int×D}(ha:a∈ks.zip ds)(hb:b∈ks.zip ds)(e:a.1=b.1):a=b:=by
 obtain⟨i,hi,rfl⟩:=p9.mp ha
 obtain⟨j,hj,rfl⟩:=p9.mp hb
 have:i=j:=by
  simp only[List.getElem_zip]at e
  exact(ou nd).mp e
 subst this;rfl
theorem LQ{ks:Wp Int}{ds:Wp D}(nd:ks.Nodup){l:Wp (Int×D)}(p:l.Perm (ks.zip ds))(s:l.Pairwise λa b=>a.1<b.1):QU ks ds=l.map (·.2):=by
 unfold QU
 congr 1
 have h1:=rQ (ks.zip ds) λa b=>decide (a.1<=b.1)
 have h2:=qc (le:=λ(a b:Int×D)=>decide (a.1<=b.1)) (λa b c h1 h2=>by simp at *; lia) (λa b=>by simp;lia) (ks.zip ds)
 refine si (le:=λa b=>a.1<=b.1) (λa b ha hb e1 e2=>?_) (h2.imp λh=>kj h) (s.imp λh=>zR h) (h1.trans p.symm)
 exact Yg nd (h1.mem_iff.mp ha) (p.mem_iff.mp hb) (Int.le_antisymm e1 e2)
theorem Vl{ks:Wp Int}{ds:Wp D}{p:Wp Nat}(h:Plc ks p)(nd:ks.Nodup)(hl:ds.length=ks.length):QU ks ds=p.map λi=>ds.getD i .non:=by
 rw[LQ (l:=p.map λi=>(ks.getD i 0,ds.getD i .non)) nd ?_ ?_,mC]
 .rfl
 .have:ks.zip ds=(lT ks.length).map λi=>(ks.getD i 0,ds.getD i .non):=by
   apply qH
   .simp[hl]
   .intro i i1 i2
    have:i<ks.length:=by simp at i2;exact i2
    simp[this,hl]
  rw[this]
  exact h.pm.map _
 .have:=h.so
  rw[nE]at this⊢
  exact this
theorem Al.pl{K:kJ}{M:Ms}{H:Hp}{vs:Wp V}{ds:Wp D}(r:Al K M H vs ds):∀{p:Wp Nat},(∀i∈p,i<ds.length)->Al K M H (p.map λi=>vs.getD i .non) (p.map λi=>ds.getD i .non)
 | [],_=>.nil
 |i::p,h=>by
  rw[kq,kq]
  refine .cons ?_ (Al.pl r λj hj=>h j (kU _ hj))
  have hi:=h i kc
  obtain⟨x,h1,h2⟩:=r.get (kS hi)
  simp only[kg,h1,kS hi,wI]
  exact h2
theorem Vals.pl{vs:Wp V}{us:Wp kL}(r:Vals vs us):∀{p:Wp Nat},Vals (p.map λi=>vs.getD i .non) (p.map λi=>us.getD i .none)
 | []=>.nil
 |i::p=>by
  rw[kq,kq]
  refine .cons ?_ (Vals.pl r)
  cases e:vs[i]? with
  |none=>
   have:us[i]?=none:=by rw[qK]at e ⊢; rw[<-r.length];exact e
   simp only[kg,e,this]
   rfl
  |some x=>
   obtain⟨u,h1,h2⟩:=r.get e
   simp only[kg,e,h1]
   exact h2
theorem Zd{X:Cx}{pins:Wp (kQ×Obj)}{σ:Wp (kN V)}{H:Hp}{s:kM}{M:Ms}(I:Inv X pins σ H s):∀{vs:Wp V} {ds:Wp D} {ks:Wp Int} {us:Wp kL},Al X.K M H vs ds->Na ds=Gc ks->Vals vs us->HB s.heap us ks
 |_,_,ks,us,.nil,e,v=>by cases e;cases v;trivial
 |_,_,ks,us,.cons (d:=d) h t,e,v=>by
  obtain⟨k,e1,e⟩:=Ar e
  obtain⟨ks',e2,e⟩:=JQ e
  cases e
  cases v with
  |cons r1 r2=>
   refine⟨?_,Zd I t e2 r2⟩
   unfold Xp at e1
   split at e1
   .cases e1
    cases h with
    |tup sq rr=>
     cases (show _=mF _ from r1)
     cases rr with
     |cons rk rr=>
      cases rk
      obtain⟨its,rv,⟨o,ho,hc,n,hd⟩,_⟩:=I.tuple sq
      cases rv with
      |cons q1 q2=>
       obtain⟨t,rfl⟩:=(show∃t,_=qZ _ t from q1)
       exact⟨_,o,_,n,t,rfl,ho,hc,hd,by simp⟩
   .cases e1
theorem Nf:∀{ds:Wp D} {ks:Wp Int},Na ds=Gc ks->ks.length=ds.length
 | [],ks,e=>by cases e;rfl
 |d::ds,ks,e=>by
  obtain⟨k,e1,e⟩:=Ar e
  obtain⟨ks',e2,e⟩:=JQ e
  cases e
  simp[Nf e2]
noncomputable def PN:Op1:=λw=>(asL w).bind λds=>(Na ds).bind λks=>if ks.length<64/\ks.Nodup then Gc (.own (QU ks ds))else none
theorem QH{X:Cx}(hc:X.calm=true):DQ X (.builtin "sorted") (rN X.K (o1 PN)):=by
 intro pins s σ H xs us Q I r h
 obtain⟨M,ws,w,e,mo,sh,q⟩:=h
 obtain⟨v,w1,rfl,rfl,s1,e1⟩:=GH sh e
 obtain⟨ds,e2,e1⟩:=Ar e1
 obtain⟨ks,e3,e1⟩:=Ar e1
 split at e1
 .rename_i hz
  cases e1
  obtain⟨a,ys,rfl,h3,h4⟩:=s1.l e2
  obtain⟨u,rfl,ru⟩:=r.one
  cases (show u=mF a from ru)
  obtain⟨its,rv,pl,hl⟩:=I.list (X:=X) (.of h3)
  have kl:=Nf e3
  have i64:its.length<64:=by rw[<-rv.length,h4.length,<-kl];exact hz.1
  have kp1:∀b o,s.heap.get? b=Gc o->((s.heap.push (seqObj "list" #[] 0)).update s.heap.objs.size (lX λx=>x++its.toArray)).get? b=Gc o:=λb o e=>by
   have lb:=kf e
   rw[Heap.get?_update_ne _ _ _ _ (ki lb)]
   exact kK _ e
  refine Ou (ks:=ks) (Pv:=λvs=>vs=its) (I.ok.hd hc) (λA' Q' E' _ hq=>collect_list pl.isList (hq _ s.toks its kp1 ?_ rfl ((Zd I h4 e3 rv).keep λb o e _=>kp1 b o e)) (kY (mx i64) (by decide))) hz.2 hz.1 λa e h' tk vs p la pl' ev kp he=>?_
  .rw[Heap.size_update,size_push'];exact uY _
  .subst ev
   have hn:H a=none:=I.hok.fresh la
   have pb:∀i∈p,i<ds.length:=λi hi=>by
    have:=pl'.pm.mem_iff.mp hi
    rw[<-kl];simpa using this
   refine⟨.ref _,_,I.laid (a:=a) (o:=.lst (p.map λi=>ys.getD i .non)) (t':=tk) kp la ?_,rfl,?_⟩
   .refine⟨?_,_,e,Vals.pl rv,he⟩
    rw[ky,pl'.pm.length_eq,qr]
    have:(64:Nat)<=sizeLine:=by decide
    lia
   .refine q _ _ ?_
    rw[Vl pl' hz.2 kl.symm]
    exact .lst mo hn (h4.pl pb)
 .cases e1
end Mi
end
noncomputable section
namespace Mi
open PySem PySem.Spec L2 PyProof.Rows
structure DL(X:Cx)(st:Wp mH)(f:Ex):Prop where
 pe:PSs X st (λDn σ H=>Dn.ct=Dn.nx/\tX X.K f Dn σ H)
section
variable{X:Cx}
noncomputable def Nx(fd fk:Ev):Ev:=λE S=>(fd E S).bind λa=>(Tw a.2 a.1).bind λ_=>(fk E a.2).bind λb=>(Tw b.2 a.1).bind λes=>(bM b.1).map λk=>((Sy es k).getD .non,b.2)
theorem RI{o e:lH}{fd fk:Ev}{apos cpos:Pos}(hu:X.A.units+100<cLine)(ho:DE X o fd)(hk:DE X e fk)(m:M1 X o "get" apos e cpos):DE X (.Call (.Attribute o "get" apos) [e] [] cpos) (Nx fd fk):=⟨
 Bh (Vb (by lia) ho.pe hk.pe m) λσ H Q z=>by
  obtain⟨M,E,S,d,S',e,r,st,q⟩:=z
  obtain⟨⟨a,S1⟩,e1,e⟩:=Ar e
  obtain⟨es1,ed,e⟩:=Ar e
  obtain⟨⟨b,S2⟩,e2,e⟩:=Ar e
  obtain⟨es,ed3,e⟩:=Ar e
  obtain⟨k,ek,e⟩:=JQ e
  cases e
  refine⟨M,E,S,a,S1,e1,r,st,λv H1 M1 g1 st1 d1=>?_⟩
  obtain⟨p,kvs,rfl,hp,_⟩:=R9 st1 d1 ed
  refine⟨p,rfl,.inl ⟨kvs,.inl hp⟩,M1,E,S1,b,S2,e2,r.step g1.st,st1,λv2 H2 M2 g2 st2 d2=>?_⟩
  obtain⟨p',kvs3,e4,hp3,rk⟩:=R9 st2 (d1.step g2.st) ed3
  cases e4
  rw[W2 d2 ek]
  refine⟨_,.k hp3,?_⟩
  rcases rk.val k with⟨h1,h2⟩|⟨v,d,h1,h2,h3⟩
  .rw[h1];rw[h2]at q;exact q _ _ M2 (g1.trans g2) st2 .non
  .rw[h1];rw[h2]at q;exact q _ _ M2 (g1.trans g2) st2 h3⟩
end
end Mi
end
noncomputable section
namespace L2
open PySem PySem.Spec PyProof.Rows
def Xe(ix:Wp (kN Nat))(g:TG)(tc:TT)(tk tv:TE)(J:It)(σ:St)(H:Hp)(Q:VK):Prop:=
 ∀D,H D=none->∃W:Nat->Nat->St->Hp->Wp (Key×V)->Prop,(∃m,W 0 m (sig ix σ) (upd H D (.dK [])) [])/\∀i m σ H ys,W i m σ H ys->H D=Gc (.dK ys)/\
  ((J.stop i H/\Q (.ref D) H)\/(J.go i H/\ys.length<sizeLine/\∀x H',J.yld i H x H'->g x σ H' λσ2 H2=>tc σ2 H2 λb H3=>
    if b=true then tk σ2 H3 λk H4=>tv σ2 H4 λy H5=>∃kk,k=kV kk/\H5 D=Gc (.dK ys)/\∃m',m'<m/\W (i+1) m' σ2 (upd H5 D (.dK (putK ys kk y))) (putK ys kk y)else∃m',m'<m/\W (i+1) m' σ2 H3 ys))
noncomputable def XN(ix:Wp (kN Nat))(wi:TI)(g:TG)(tc:TT)(tk tv:TE):TE:=λσ H Q=>wi σ H λJ H1=>Xe ix g tc tk tv J σ H1 Q
section
variable{X:Cx}{pins:Wp (kQ×Obj)}{σ:St}{s₂:kM}{N':Wp Str}{ix:Wp (kN Nat)}{scope:nR}{kx vx tg iter:lH}{ifs:Wp lH}{pos:Pos}{g:TG}{tc:TT}{tk tv:TE}
def XD(X:Cx)(N':Wp Str)(scope:nR)(tg:lH)(ifs:Wp lH)(kx vx:lH)(g:TG)(tc:TT)(tk tv:TE):Prop:=
 ∀(s:kM) (H:Hp) (fp:Wp kQ),PG (Cc X N' scope s H fp) tg g/\PTs (Cc X N' scope s H fp) ifs tc/\PE (Cc X N' scope s H fp) kx tk/\PE (Cc X N' scope s H fp) vx tv
theorem Qc {X' : Cx} {it : kQ} {fp : Wp kQ} {tn : Nat -> lP -> Prop} {J : It} {D : kQ} {Q : VK} {R : wC -> kM -> Prop} {W : Nat -> Nat -> St -> Hp -> Wp (Key × V) -> Prop} {s : kM} {e : Env} {n : Nat} (he : X'.env = e) (hx : X'.xe = fun _ _ => pQ) (hcm : X'.calm = true) (T : Turn X'.prog X'.w X'.K tg J fp it tn) (hfp : ∀ H : Hp, (∀ b ∈ fp, H b = none) -> ∀ b ∈ fp, LW X' [] H b) (hg : PG X' tg g) (ht : PTs X' ifs tc) (hk : PE X' kx tk) (hv : PE X' vx tv) (turn : ∀ i m σ H ys, W i m σ H ys -> H D = Gc (.dK ys) /\ ((J.stop i H /\ Q (.ref D) H) ∨ (J.go i H /\ ys.length < sizeLine /\ ∀ x H', J.yld i H x H' -> g x σ H' fun σ2 H2 => tc σ2 H2 fun b H3 =>
        if b = true then tk σ2 H3 fun k H4 => tv σ2 H4 fun y H5 => ∃ kk, k = kV kk /\ H5 D = Gc (.dK ys) /\ ∃ m', m' < m /\ W (i + 1) m' σ2 (upd H5 D (.dK (putK ys kk y))) (putK ys kk y) else ∃ m', m' < m /\ W (i + 1) m' σ2 H3 ys)))
    (hR : ∀ s' σ' H', Inv X' [] σ' H' s' -> Q (.ref D) H' -> R (.ok .next) s')
    (h0 : ∃ i σ' H' ys, Inv X' [] σ' H' s /\ tn i s.heap /\ (∀ b ∈ fp, H' b = none) /\ W i n σ' H' ys) :
    codeAny (model X'.prog X'.w) X'.A (.compLoop (.DictComp kx vx [⟨tg, iter, ifs, 0⟩] scope pos) 0 (.ref it) (.ref D) e) R s := by
  subst he
  refine yz rfl (fun n s => ∃ i σ' H' ys, Inv X' [] σ' H' s /\ tn i s.heap /\ (∀ b ∈ fp, H' b = none) /\ W i n σ' H' ys) (fun n s3 hI => ?_) n h0
  show wpAny _ X'.A ((compTurn (.DictComp kx vx [⟨tg, iter, ifs, 0⟩] scope pos) 0 (.ref it) (.ref D) X'.env).onRaise (fun x => do noteFrame x X'.env; theTreesLotGoes x)) _ _ s3
  refine wpAny_noted (P4 ?_)
  rw [compTurn_dict]
  obtain ⟨i, σ3, H3, ys, I3, st3, fr3, w3⟩ := hI
  obtain ⟨hD, alt⟩ := turn i n σ3 H3 ys w3
  rcases alt with ⟨stop, q⟩ | ⟨go, hlen, step⟩
  · refine kH (nh (kH (thn (T.done X' rfl rfl rfl hcm i [] s3 σ3 H3 _ I3 (hfp H3 fr3) st3 stop) fun r s4 ⟨hr, I4⟩ => ?_)))
    subst hr
    exact kO (hR s4 σ3 H3 I4 q)
  · refine kH (nh (kH (thn (T.item X' rfl rfl rfl hcm i [] s3 σ3 H3 _ I3 (hfp H3 fr3) st3 go) fun r s4 ⟨u, hr, h4⟩ => ?_)))
    subst hr
    refine kH (thn h4 fun _ s5 ⟨x, H5, I5, r5, y5, st5, fr5⟩ => ?_)
    have I5' := I5.pinned (hfp H5 fr5) (T.obj _ _ st5)
    have hg' := hg _ s5 σ3 H5 x u _ I5' r5 (step x H5 y5)
    rw [hx] at hg'
    refine kH (thn hg' fun _ s6 ⟨σ6, H6, I6, q6⟩ => ?_)
    have ht' := ht _ s6 σ6 H6 _ I6 q6
    rw [hx] at ht'
    refine kH (thn ht' fun ok s7 ⟨H7, I7, q7⟩ => ?_)
    have again : ∀ {s8 : kM} {H8 : Hp} {zs : Wp (Key × V)} {m' : Nat}, Inv X' ([] ++ Lb fp s5.heap) σ6 H8 s8 -> m' < n -> W (i + 1) m' σ6 H8 zs -> ∃ m, m < n /\ ∃ i σ' H' ys, Inv X' [] σ' H' s8 /\ tn i s8.heap /\ (∀ b ∈ fp, H' b = none) /\ W i m σ' H' ys := fun {s8 H8 zs m'} I8 hm w8 => by
      refine ⟨m', hm, i + 1, σ6, H8, zs, I8.Hn, T.keep _ _ _ st5 fun b hb o e => (I8.pin (b, o) (lK _ (lK _ (EW hb e)))).1, fun b hb => ?_, w8⟩
      obtain ⟨o, e, d⟩ := T.obj _ _ st5 b hb
      exact (I8.pin (b, o) (lK _ (lK _ (EW hb e)))).2.1
    cases ok with
    | false =>
      rw [lJ (by decide)] at q7
      obtain ⟨m', hm, w7⟩ := q7
      exact kO ⟨rfl, again I7 hm w7⟩
    | true =>
      rw [lF rfl] at q7
      have hk' := hk _ s7 σ6 H7 _ I7 q7
      rw [hx] at hk'
      refine kH (kH (thn hk' fun kv s8 ⟨k, H8, I8, r8, q8⟩ => ?_))
      have hv' := hv _ s8 σ6 H8 _ I8 q8
      rw [hx] at hv'
      refine kH (lh (thn hv' fun vv s9 ⟨y, H9, I9, r9, kk, ek, hD9, m', hm, w9⟩ => kH (nh (lh ?_))))
      subst ek
      obtain ⟨z, hsy, vs, rel, dd⟩ := bD I9.hok hD9
      have hz : vs.length ≤ sizeLine := by rw [← rel.length]; exact z
      have hl : (putK ys kk y).length ≤ sizeLine := by have := Ow ys kk y; lia
      refine wpAny_dictSet_pairs (hsz := hz) (Xw r8) dd fun h' dd' hs => kO ?_
      have he : ∃ q, h'.get? D = Gc q := let ⟨q, _, _, hq, _⟩ := dd'; ⟨q, hq⟩
      exact ⟨rfl, again (ZM I9 (by rw [hD9]; exact qW) hs he (ao hl hsy (rel.put kk r9) dd')) hm w9⟩
theorem Q4(hc:X.calm=true)(S:AZ X.N X.env.scope N' ix scope)(hb:XD X N' scope tg ifs kx vx g tc tk tv){it:kQ}{fp:Wp kQ}{tn:Nat->lP->Prop}{J:It}{H₂:Hp}{Q:VK}{E:kL->kM->Prop}{RR:kL->kQ->wC->kM->Prop}(I2:Inv X pins σ H₂ s₂)(T:Turn X.prog X.w X.K tg J fp it tn)(st2:tn 0 s₂.heap)(f2:∀b∈fp,LW X pins H₂ b)(hW:Xe ix g tc tk tv J σ H₂ Q)(hRR:∀D C H' s',Inv X pins σ H' s'->(∃m,s'.heap.Ns C m)->LW X pins H' C->Q (.ref D) H'->RR (.ref D) C (.ok .next) s'):wpAny (model X.prog X.w) X.A newDict (λacc s₃=>wpAny (model X.prog X.w) X.A (newFunctionEnv scope X.env.globals (FX X.env.cells scope.names []) [] X.env.qual none .none (Gc X.env)) (λcenv s₄=>
  codeAny (model X.prog X.w) X.A (.compStart (.DictComp kx vx [⟨tg,iter,ifs,0⟩] scope pos) 0 (.ref it) acc {cenv with scope:=relabel scope X.env}) (RR acc cenv.locals) s₄) E s₃) E s₂:=by
 have hD0:H₂ s₂.heap.objs.size=none:=I2.hok.fresh (kR _)
 have hlt2:∀b∈fp,b<s₂.heap.objs.size:=λb hb=>by
  obtain⟨o,e,_⟩:=T.obj _ _ st2 b hb
  exact kf e
 refine lu (Fs (λh₁ hns₁ hsb₁ hcl₁=>?_))
 have I3:Inv X pins σ (upd H₂ s₂.heap.objs.size (.dK [])) {s₂ with heap:=s₂.heap.push {cls:=.type "dict",dict:=none,data:=.dict #[]}}:=
  I2.laid (t':=s₂.toks) (λb u e=>kK _ e) (kR _) ⟨mI _,qL.mpr (mR (ki I2.big)),[],.nil,Heap.DictOf.new s₂.heap⟩
 have f3:∀b∈fp,LW X pins (upd H₂ s₂.heap.objs.size (.dK [])) b:=λb hb=>⟨by rw[Ae (ki (hlt2 b hb))];exact(f2 b hb).1,(f2 b hb).2⟩
 have k3:∀b o,s₂.heap.get? b=Gc o->(s₂.heap.push {cls:=.type "dict",dict:=none,data:=.dict #[]}).get? b=Gc o:=λb o e=>kK _ e
 dsimp only at hns₁ hsb₁ hcl₁⊢
 generalize hs3:({s₂ with heap:=s₂.heap.push {cls:=.type "dict",dict:=none,data:=.dict #[]}}:kM)=s₃ at I3
 have eh:s₂.heap.push {cls:=.type "dict",dict:=none,data:=.dict #[]}=s₃.heap:=by rw[<-hs3]
 have et:s₂.toks=s₃.toks:=by rw[<-hs3]
 have es:∀(h:lP) (t:Nat),({s₂ with heap:=h,toks:=t}:kM)={s₃ with heap:=h,toks:=t}:=λh t=>by rw[<-hs3]
 rw[eh]at hns₁ hsb₁ hcl₁ k3⊢
 have hlt3:∀b∈fp,b<s₃.heap.objs.size:=λb hb=>by
  obtain⟨o,e,_⟩:=T.obj _ _ st2 b hb
  exact kf (k3 b o e)
 have k4:∀b o,s₃.heap.get? b=Gc o->h₁.get? b=Gc o:=hsb₁
 obtain⟨W,⟨m0,w0⟩,turn⟩:=hW _ hD0
 have I4:∀tk,Inv (Cc X N' scope s₃ (upd H₂ s₂.heap.objs.size (.dK [])) fp) [] (sig ix σ) (upd H₂ s₂.heap.objs.size (.dK [])) {s₃ with heap:=h₁,toks:=tk}:=λtk=>PQ S hc I3 f3 hlt3 hns₁ k4 hcl₁
 have st4:tn 0 h₁:=T.keep _ _ _ st2 λb hb o e=>k4 b o (k3 b o e)
 obtain⟨bg,bt,bk,bv⟩:=hb s₃ (upd H₂ s₂.heap.objs.size (.dK [])) fp
 have noX:∀(H:Hp),(∀b∈fp,H b=none)->∀b∈fp,LW (Cc X N' scope s₃ (upd H₂ s₂.heap.objs.size (.dK [])) fp) [] H b:=λH hn b hb=>by
  obtain⟨_,h2,h3⟩:=f3 b hb
  refine⟨hn b hb,ki (hlt3 b hb),λhs=>(I4 0).ok.Yl b hb hs,.inl hb,λx c h=>?_,λp hp=>absurd (show p∈([]:Wp (kQ×Obj))from hp) (by simp)⟩
  exact((I4 0).ok.exf b hb).2 x c h
 have fin:∀(s':kM) (σ':St) (H':Hp),Inv (Cc X N' scope s₃ (upd H₂ s₂.heap.objs.size (.dK [])) fp) [] σ' H' s'->Q (.ref s₂.heap.objs.size) H'->RR (.ref s₂.heap.objs.size) s₃.heap.objs.size (.ok .next) s':=λs' σ' H' I' q=>by
  refine hRR _ _ H' s' ?_ (let⟨m,hn,_⟩:=I'.loc;⟨m,hn⟩) (I3.XC (kR _) I'.free) q
  exact I3.az I'.os I'.base I'.hok I'.bare λb hb=>⟨(f3 b hb).2.2.2.1,(f3 b hb).2.1,(f3 b hb).2.2.2.2.1,(f3 b hb).2.2.2.2.2⟩
 have loop:∀tk,codeAny (model X.prog X.w) X.A (.compLoop (.DictComp kx vx [⟨tg,iter,ifs,0⟩] scope pos) 0 (.ref it) (.ref s₂.heap.objs.size) (compEnvC scope (cellsFrom (s₃.heap.objs.size+1) scope.names (FX X.env.cells scope.names [])) s₃.heap.objs.size X.env)) (RR (.ref s₂.heap.objs.size) s₃.heap.objs.size) {s₃ with heap:=h₁,toks:=tk}:=λtk=>
  Qc (X':=Cc X N' scope s₃ (upd H₂ s₂.heap.objs.size (.dK [])) fp) (D:=s₂.heap.objs.size) (Q:=Q) (W:=W) rfl rfl rfl T noX bg bt bk bv turn fin ⟨0,_,_,_,I4 tk,st4,λb hb=>(f3 b hb).1,w0⟩
 rw[es]
 exact codeAny_compStart_dict (loop _) (T.self _ 0 _ _ _ st4 (loop _))
theorem Ve{wi:TI}(hc:X.calm=true)(S:AZ X.N X.env.scope N' ix scope)(hi:PI X tg iter wi)(hb:XD X N' scope tg ifs kx vx g tc tk tv)(hs:∀x,foldedSetIterable iter X.env x=pure x:=by intro _;rfl):PE X (.DictComp kx vx [⟨tg,iter,ifs,0⟩] scope pos) (XN ix wi g tc tk tv):=by
 intro pins s σ H Q I h
 rw[arm_eval_DictComp]
 refine qQ (use:=none) rfl hs (Mh (I.cellsOf S)) S.kind S.names (thn (hi pins s σ H _ I h) λv s1 h1=>thn h1 λitv s2 h2=>?_)
 obtain⟨it,fp,tn,J,H2,e,I2,T,st2,f2,hW⟩:=h2
 subst e
 refine Q4 (RR:=λacc C=>compPost (model X.prog X.w) X.A X.xe none (EP X pins σ Q) acc C) hc S hb I2 T st2 f2 hW ?_
 intro D C H' s' I' hm hC q
 obtain⟨m,hm⟩:=hm
 refine⟨m,hm,λh' hs'=>⟨.ref D,H',I'.turned (it:=C) (t':=s'.toks) (λb o hb e=>hs'.extBut b o hb e) hC.1 hC.2.1 hC.2.2.2.1 hC.2.2.2.2.1 hC.2.2.2.2.2,rfl,q⟩⟩
end
end L2
end
noncomputable section
namespace Mi
open PySem PySem.Spec L2
open Classical in
def GN(gs:Gd)(t:Tf)(c fk fv:Ev):Wp D->Wp (Key×D)->En->Sto->kN (Wp (Key×D)×Sto)
 | [],acc,_,S=>if gOk gs S then Gc (acc,S)else none
 |d::ds,acc,E,S=>if gOk gs S then(if acc.length<sizeLine then(t d E S).bind λE1=>(c E1 S).bind λr=>match r.1 with
   | .bl true=>(fk E1 r.2).bind λp=>(fv E1 p.2).bind λq=>(bM p.1).bind λk=>GN gs t c fk fv ds (putD acc k q.1) E1 q.2
   | .bl false=>GN gs t c fk fv ds acc E1 r.2
   |_=>none
  else none)else none
def NW(cf:lM)(cap:Wp Nat)(m:Nat)(s:Sr)(t:Tf)(c fk fv:Ev):Ev:=λE S=>(s E S).bind λr=>(GN r.1.2 t c fk fv r.1.1 [] (QI cap m E) r.2).map λq=>ZR cf q.1 q.2
section
variable{K:kJ}{M M' M2:Ms}{H H' H2:Hp}{S:Sto}
theorem StR.VI(r:StR K M S H){a:kQ}{ys:Wp (Key×V)}(ha:a∈M.tmp):StR K M S (upd H a (.dK ys))/\Sp1 M H M (upd H a (.dK ys)):=by
 have s1:Sp1 M H M (upd H a (.dK ys)):=⟨r.mo,mG,λb z=>.inl z,λb o eb nb=>by rw[Ae (λz=>nb (by rw[z];exact .inr ha))];exact eb⟩
 refine⟨⟨λb z=>?_,r.nd,r.nt,r.len,λn b c h1 h2=>?_⟩,s1⟩
 .by_cases h:b=a
  .subst h;exact .inr (.inl ⟨ys,A1⟩)
  .rw[Ae h];exact r.mo b z
 .have hb:b≠a:=λz=>r.nt a ha (by rw[<-z];exact k0 h1)
  have q:=r.cell n b c h1 h2
  cases c with
  |lst ds=>obtain⟨xs,e,rr⟩:=q;exact⟨xs,by rw[Ae hb];exact e,rr.step s1⟩
  |dct ds=>obtain⟨xs,e,rr⟩:=q;exact⟨xs,by rw[Ae hb];exact e,rr.step s1⟩
  |tab ds=>obtain⟨xs,e,rr⟩:=q;exact⟨xs,by rw[Ae hb];exact e,rr.step s1⟩
end
theorem Ui{K:kJ}{cf:lM}{cap:Wp Nat}{m:Nat}{s:Sr}{t:Tf}{c fk fv:Ev}{σ:Sg}{H:Hp}{Q:VK}(h:tD K (NW cf cap m s t c fk fv) σ H Q):XN (ixC cap m) (tI K s) (tG K t) (tDT K c) (tD K fk) (tD K fv) σ H Q:=by
 obtain⟨M,E,S,d,S',e,r,st,q⟩:=h
 obtain⟨⟨⟨ds,gs⟩,S1⟩,e1,e⟩:=Ar e
 obtain⟨⟨accf,Sf⟩,e3,e⟩:=JQ e
 dsimp only at e e3
 refine⟨M,E,S,ds,gs,S1,e1,r,st,λJ H1 M1 g1 st1 it A0 hD=>?_⟩
 obtain⟨st0,s0⟩:=st1.dn hD
 have gx0:GrX M1 H1 ⟨M1.cel,A0::M1.tmp⟩ (upd H1 A0 (.dK [])):=⟨mG,λa z=>.inl z,λa o eo _=>FF hD a o eo,λa ea=>by
  by_cases h:a=A0
  .subst h;rw[A1];intro z;cases z
  .rw[Ae h];exact ea⟩
 have nt:A0∉M1.tmp:=λz=>st1.mo.some (.inr z) hD
 refine⟨λi mm σ' H' ys=>mm=ds.length-i/\∃Ei Si Mi acc,GN gs t c fk fv (ds.drop i) acc Ei Si=Gc (accf,Sf)/\GrX M1 H1 Mi H'/\Mi.tmp=A0::M1.tmp/\EnR K Mi Ei σ' H'/\StR K Mi Si H'/\H' A0=Gc (.dK ys)/\Bw K Mi H' ys acc,
  ⟨_,rfl,_,S1,_,[],e3,gx0,rfl,((r.step g1.st).step s0).cap cap m,st0,A1,.nil⟩,λi mm σ2 H2 ys hW=>?_⟩
 obtain⟨rfl,Ei,Si,Mi,acc,ec,gx,ht,r2,st2,hy,ry⟩:=hW
 have sp:Sp1 M1 H1 Mi H2:=⟨st1.mo,gx.pre,λa z=>by
  rcases z with z|z
  .exact(gx.fresh a z).imp .inl id
  .rw[ht]at z
   rcases kX.mp z with z|z
   .subst z;exact .inr hD
   .exact .inl (.inr z),λa o eo no=>gx.keep a o eo λz=>no (.inl z)⟩
 refine⟨hy,?_⟩
 cases ed:ds.drop i with
 |nil=>
  rw[ed]at ec
  unfold GN at ec
  split at ec
  .rename_i ok
   cases ec
   left
   obtain⟨ci,ti⟩:=Mi
   have ht':ti=A0::M1.tmp:=ht
   subst ht'
   obtain⟨c',st',rd',pr',sub'⟩:=st2.jC cf nt ry
   rw[e]at st' rd'
   have eH:upd H2 A0 (.dK ys)=H2:=by
    funext b
    by_cases h:b=A0
    .rw[h,A1,hy]
    .rw[Ae h]
   rw[eH]at st' rd'
   refine⟨it.stop i H2 _ _ sp st2 ok (rG.mp ed),q _ _ ⟨c',M1.tmp⟩ (g1.trans ⟨st1.mo,gx.pre.trans pr',rfl,λa z=>?_,gx.keep,gx.some⟩) st' rd'⟩
   rcases sub' a z with z|z
   .exact gx.fresh a z
   .subst z;exact .inr hD
  .cases ec
 |cons d rest=>
  obtain⟨d1,d2,d3⟩:=Kg ed
  rw[ed]at ec
  unfold GN at ec
  split at ec
  .rename_i ok
   split at ec
   .rename_i hz
    obtain⟨E3,e4,ec⟩:=Ar ec
    obtain⟨⟨w5,S5⟩,e5,ec⟩:=Ar ec
    right
    refine⟨it.go i H2 Mi Si sp st2 ok d3,by rw[ry.length];exact hz,λx H3 hyl=>?_⟩
    obtain⟨k3,rx⟩:=it.yld i H2 Mi Si x H3 d sp st2 ok d1 hyl
    have g3:Gr Mi H2 Mi H3:=.grow st2.mo k3
    have st3:=st2.grow k3
    refine⟨Mi,d,Ei,E3,Si,e4,r2.step g3.st,st3,rx,λσ4 r4=>?_⟩
    have hA:A0∈Mi.tmp:=by rw[ht];exact kc
    have hy3:H3 A0=Gc (.dK ys):=k3 _ _ hy
    have ry3:Bw K Mi H3 ys acc:=ry.step g3.st
    have fin:∀{E6:En} {S6:Sto} {M6:Ms} {H6:Hp} {zs:Wp (Key×V)} {acc6:Wp (Key×D)},GN gs t c fk fv rest acc6 E6 S6=Gc (accf,Sf)->GrX M1 H1 M6 H6->M6.tmp=A0::M1.tmp->EnR K M6 E6 σ4 H6->StR K M6 S6 H6->H6 A0=Gc (.dK zs)->Bw K M6 H6 zs acc6->
      ∃m',m'<ds.length-i/\(m'=ds.length-(i+1)/\∃Ei Si Mi acc,GN gs t c fk fv (ds.drop (i+1)) acc Ei Si=Gc (accf,Sf)/\GrX M1 H1 Mi H6/\Mi.tmp=A0::M1.tmp/\EnR K Mi Ei σ4 H6/\StR K Mi Si H6/\H6 A0=Gc (.dK zs)/\Bw K Mi H6 zs acc):=
     λ{E6 S6 M6 H6 zs acc6} ec g6 t6 r6 st6 h6 y6=>⟨_,by lia,rfl,E6,S6,M6,acc6,by rw[d2];exact ec,g6,t6,r6,st6,h6,y6⟩
    dsimp only at ec
    split at ec
    .obtain⟨⟨w7,S7⟩,e7,ec⟩:=Ar ec
     obtain⟨⟨w9,S9⟩,e9,ec⟩:=Ar ec
     obtain⟨kk,ek,ec⟩:=Ar ec
     refine⟨Mi,E3,Si,true,S5,e5,r4,st3,λH5 M5 g5 st5=>?_⟩
     refine XB ?_
     refine⟨M5,E3,S5,w7,S7,e7,r4.step g5.st,st5,λy H7 M7 g7 st7 d7=>?_⟩
     refine⟨M7,E3,S7,w9,S9,e9,(r4.step g5.st).step g7.st,st7,λy9 H9 M9 g9 st9 d9=>?_⟩
     have nA:∀{M6:Ms} {H6:Hp} {S6:Sto},StR K M6 S6 H6->A0∈M6.tmp->A0∉M6.cel:=λr6 h6=>r6.nt A0 h6
     have hA5:A0∈M5.tmp:=by rw[g5.tmp];exact hA
     have hA7:A0∈M7.tmp:=by rw[g7.tmp];exact hA5
     have hA9:A0∈M9.tmp:=by rw[g9.tmp];exact hA7
     have hy5:H5 A0=Gc (.dK ys):=g5.keep _ _ hy3 (nA st3 hA)
     have hy7:H7 A0=Gc (.dK ys):=g7.keep _ _ hy5 (nA st5 hA5)
     have hy9:H9 A0=Gc (.dK ys):=g9.keep _ _ hy7 (nA st7 hA7)
     have ry9:Bw K M9 H9 ys acc:=((ry3.step g5.st).step g7.st).step g9.st
     refine⟨kk,W2 d7 ek,hy9,?_⟩
     obtain⟨st8,s8⟩:=st9.VI (ys:=putK ys kk y9) hA9
     have gx7:GrX M1 H1 M9 H9:=(((gx.trans g3.x).trans g5.x).trans g7.x).trans g9.x
     have gx8:GrX M1 H1 M9 (upd H9 A0 (.dK (putK ys kk y9))):=⟨gx7.pre,gx7.fresh,λa o eo no=>by
      rw[Ae (λz=>by subst z;rw[hD]at eo;cases eo)]
      exact gx7.keep a o eo no,λa ea=>by
      by_cases h:a=A0
      .subst h;rw[A1];intro z;cases z
      .rw[Ae h];exact gx7.some a ea⟩
     exact fin ec gx8 (by rw[g9.tmp,g7.tmp,g5.tmp];exact ht) ((((r4.step g5.st).step g7.st).step g9.st).step s8) st8 A1 ((ry9.put d9).step s8)
    .refine⟨Mi,E3,Si,false,S5,e5,r4,st3,λH5 M5 g5 st5=>?_⟩
     refine Xj ?_
     exact fin ec ((gx.trans g3.x).trans g5.x) (by rw[g5.tmp];exact ht) (r4.step g5.st) st5 (g5.keep _ _ hy3 (st3.nt A0 hA)) (ry3.step g5.st)
    .cases ec
   .cases ec
  .cases ec
noncomputable def jO:mH->Wp nR
 | .Assign _ (.DictComp _ _ gs s _) _=>s::gs.flatMap λg=>scE 29 g.iter
 |st=>scS 20 st
noncomputable def VT(st:mH)(k:Nat):nR:=((EH st).flatMap jO).getD k (AK st)
section
variable{X:Cx}{N':Wp Str}{cf:lM}{scope:nR}{kx vx tg iter:lH}{ifs:Wp lH}{pos:Pos}{s:Sr}{t:Tf}{c fk fv:Ev}
theorem O5(cap:Wp Nat)(m:Nat)(N':Wp Str)(hc:X.calm=true)(S:AZ X.N X.env.scope N' (ixC cap m) scope)(hi:DI X tg iter s)(hb:∀(s:kM) (H:Hp) (fp:Wp kQ),DG (Cc X N' scope s H fp) tg t/\DTs (Cc X N' scope s H fp) ifs c/\DE (Cc X N' scope s H fp) kx fk/\DE (Cc X N' scope s H fp) vx fv)(hs:∀x,foldedSetIterable iter X.env x=pure x:=by intro _;rfl):DE X (.DictComp kx vx [⟨tg,iter,ifs,0⟩] scope pos) (NW cf cap m s t c fk fv):=⟨
 Bh (Ve hc S hi.pe (λs H fp=>⟨(hb s H fp).1.pe,(hb s H fp).2.1.pe,(hb s H fp).2.2.1.pe,(hb s H fp).2.2.2.pe⟩) hs) λσ H Q z=>Ui z⟩
end
end Mi
end
noncomputable section
namespace Mi
open PySem PySem.Spec L2 PyProof.Rows
section
variable{X:Cx}
theorem Qj:∀(l:Wp lM),(lT l.length).any (λi=>l.getD i true)=l.any id
 | []=>rfl
 |b::l=>by
  rw[l7,qj,nP,zT,nP,<-Qj l]
  rfl
theorem SI(hc:X.calm=true):DQ X (.builtin "any") (λxs H Q=>∃(p:kQ) (bs:Wp lM),xs=[.ref p]/\SqL X.K H p (bs.map V.bl)/\Q (.bl (bs.any id)) H):=by
 intro pins s σ H xs us Q I r h
 obtain⟨p,bs,rfl,hp,q⟩:=h
 obtain⟨u,rfl,ru⟩:=r.one
 cases (show u=mF p from ru)
 obtain⟨its,rv,pl,hz⟩:=I.list hp
 have hd:X.A.in1.handled=none:=I.ok.hd hc
 refine call_any_walk (mY pl.isList ?_)
 have hlen:bs.length=its.length:=by have:=rv.length;simpa using this
 have hpl:=pl.isList
 have hne:p≠s.heap.objs.size:=by
  obtain⟨o,ho,_⟩:=hpl
  exact ki (kf ho)
 refine⟨s.heap.objs.size,_,_,its.length,_,_,λi=>bs.getD i true,rfl,St.Iw (vs:=its) hd hne,⟨⟨_,kZ _ rfl,rfl,rfl⟩,?_⟩,?_,?_⟩
 .obtain⟨o,ho,r⟩:=hpl
  exact⟨o,kK _ ho,r⟩
 .intro i v s' Q' E' hv hq
  have hi:i<its.length:=(ke.mp hv).1
  have hb:(bs.map V.bl)[i]?=Gc (.bl (bs.getD i true)):=by
   rw[lC,kS (by lia)]
   simp[kg,kS (show i<bs.length by lia)]
  obtain⟨u,hu,ru⟩:=rv.get hb
  rw[hv]at hu
  cases hu
  cases (show v=rW _ from ru)
  exact oR hq
 .intro h' tk hk
  rw[<-hlen,Qj]
  exact⟨.bl _,H,I.kept (t':=tk) λb o eb=>hk b o (by simp;exact ki (kf eb)) (kK _ eb),rfl,q⟩
noncomputable def cm:Op1:=λw=>(asL w).bind λds=>(bls ds).map λbs=>.val (.bl (bs.any id))
theorem RK(hc:X.calm=true):DQ X (.builtin "any") (rN X.K (o1 cm)):=by
 intro pins s σ H xs us Q I r h
 obtain⟨M,ws,w,e,mo,sh,q⟩:=h
 obtain⟨v,w1,rfl,rfl,s1,e1⟩:=GH sh e
 unfold cm at e1
 cases e2:asL w1 with
 |none=>rw[e2]at e1;cases e1
 |some ds=>
  rw[e2]at e1
  simp only[pB]at e1
  cases e3:bls ds with
  |none=>rw[e3]at e1;cases e1
  |some bs=>
   rw[e3]at e1
   cases e1
   obtain⟨a,ys,rfl,h3,h4⟩:=s1.l e2
   exact SI hc pins s σ H _ us Q I r ⟨a,bs,rfl,by rw[<-Ox h4 e3];exact .of h3,q _ _ (.same mo (.bl _))⟩
end
end Mi
end
noncomputable section
namespace Mi
open PySem PySem.Spec L2
section
open PyProof.Rows (boot_isinstance boot_int boot_bool boot_tuple boot_str boot_list boot_abs boot_all boot_any boot_sum boot_max boot_min boot_range boot_enumerate boot_zip boot_sorted boot_set boot_divmod)
def JV:Ex:=(Bm (IW (eOp (o2 WX) [eV 0,eC (.ty "int")]) (Wq (eOp (o2 WX) [eV 0,eC (.ty "bool")]))))
def Gp:Fn:=BP (BU 1 JV)
def HE:Ex:=(Bm (IW (eOp (o2 wLt) [eV 1,eOp (o1 HK) [eV 0]]) (eOp (o2 wGe) [eIx (eIx (eV 0) (eV 1)) (eI 1),eV 2])))
def Bt:Fn:=BP (BU 3 HE)
def JO:Ex:=(Bm (IW (AJ Bt [eV 0,eV 1,eI 1]) (IW (AJ Bt [eV 0,eV 2,eI 1]) (eOp (o2 wEq) [eIx (eIx (eV 0) (eV 1)) (eI 0),eIx (eIx (eV 0) (eV 2)) (eI 0)]))))
def FG:Fn:=BP (BU 3 JO)
def JJ:Ex:=(Bm (IW (AJ Bt [eV 0,eV 1,eV 2]) (eOp (o2 wNe) [eIx (eIx (eV 0) (eV 1)) (eI 0),eV 3])))
def D9:Fn:=BP (BU 4 JJ)
def C8:Ex:=(AY (BK 3 (eIx (eV 2) (eI 0)))
    (AY (xIf (eOp (o2 wEq) [eV 3,eC (.str "pool")]) (Bm (AJ FG [eV 0,eIx (eV 2) (eI 1),eIx (eV 2) (eI 2)])) DU)
    (AY (xIf (eOp (o2 wEq) [eV 3,eC (.str "swap")]) (Bm (AJ D9 [eV 0,eIx (eV 2) (eI 1),eIx (eV 2) (eI 2),eIx (eV 2) (eI 3)])) DU)
    (AY (xIf (eOp (o2 wEq) [eV 3,eC (.str "trade")]) (AY (BK 4 (EI [] 1 (IV (eV 1)) (tNm 0) (eOp (o2 wEq) [eIx (eV 0) (eI 0),eC (.str "trade")]) (eIx (eV 0) (eI 1))))
    (Bm (IW (eOp (o2 (wIn true)) [eIx (eV 2) (eI 1),eV 4]) (AJ D9 [eV 0,eIx (eV 2) (eI 2),eIx (eV 2) (eI 3),eIx (eV 2) (eI 4)])))) DU)
    (AY (xIf (eOp (o2 (wIn false)) [eV 3,Be [eC (.str "spoil"),eC (.str "throw")]]) (Bm (AJ Bt [eV 0,eIx (eV 2) (eI 1),eIx (eV 2) (eI 2)])) DU)
    (Bm (eC (.bl true))))))))
def B4:Fn:=BP (BU 5 C8)
def GK:Ex:=(AY (OB (tTp [tNm 3,tNm 4]) (eIx (eV 0) (eV 1)))
    (Bm (eOp (o2 Bv) [eOp (o2 Bv) [eOp (HC false true) [eV 0,eV 1],IC [Be [eV 3,eOp (o2 Oh) [eV 4,eV 2]]]],eOp (HC true false) [eV 0,eOp (o2 Bv) [eV 1,eI 1]]])))
def BY:Fn:=BP (BU 5 GK)
def BS:Ex:=(AY (BK 2 (eIx (eV 1) (eI 0)))
    (AY (xIf (eOp (o2 wEq) [eV 2,eC (.str "bring")]) (Bm (eOp (o2 Bv) [eV 0,IC [Be [eIx (eV 1) (eI 2),eIx (eV 1) (eI 3)]]])) DU)
    (AY (xIf (eOp (o2 wEq) [eV 2,eC (.str "pool")]) (AY (OB (tTp [tNm 3,tNm 4]) (eIx (eV 0) (eIx (eV 1) (eI 1))))
    (AY (BK 5 (eIx (eIx (eV 0) (eIx (eV 1) (eI 2))) (eI 1)))
    (Bm (eOp (o2 Bv) [AJ BY [AJ BY [eV 0,eIx (eV 1) (eI 1),eV 4],eIx (eV 1) (eI 2),eV 5],IC [Be [eV 3,eOp (o2 Bv) [eV 4,eV 5]]]])))) DU)
    (AY (xIf (eOp (o2 (wIn false)) [eV 2,Be [eC (.str "swap"),eC (.str "trade")]]) (AY (OB (tTp [tNm 6,tNm 7,tNm 3,tNm 8]) (eOp (HC true false) [eV 1,eOp (o1 ZN) [eI 4]]))
    (Bm (eOp (o2 Bv) [AJ BY [eV 0,eV 6,eV 7],IC [Be [eV 3,eV 8]]]))) DU)
    (AY (xIf (eOp (o2 (wIn false)) [eV 2,Be [eC (.str "spoil"),eC (.str "throw")]]) (Bm (AJ BY [eV 0,eIx (eV 1) (eI 1),eIx (eV 1) (eI 2)])) DU)
    (Bm (eV 0)))))))
def Am:Fn:=BP (BU 9 BS)
def Fq:Ex:=(Bm (EI [] 1 (IV (eIx (eV 0) (eI 1))) (tNm 0) Di (Be [eIx (eV 0) (eI 0),eIx (eV 0) (eI 1)])))
def B8:Fn:=BP (BU 1 Fq)
def Gb:Ex:=(AY (BK 1 (AJ B8 [eV 0]))
    (AY (BK 2 (eIx (eV 0) (eI 2)))
    (AY (Jj (Ta (eV 2)) (tTp [tNm 3,tNm 4]) (AY (xIf (Wq (AJ B4 [eV 1,eOp (HC false true) [eV 2,eV 3],eV 4])) (Bm (eV 3)) DU)
    (BK 1 (AJ Am [eV 1,eV 4]))))
    (Bm (eC .non)))))
def DJ:Fn:=BP (BU 5 Gb)
def F0:Ex:=(AY (BK 1 (AJ DJ [eV 0]))
    (xIf (eOp (o2 (OO true)) [eV 1,eC .non]) Wf DU))
def A7:Fn:=BP (BU 2 F0)
def GB:Ex:=(AY (xIf (eOp (o2 wLt) [eV 1,eOp (o1 HK) [eV 0]]) (Bm (eIx (eV 0) (eV 1))) DU)
    (Bm (eI 0)))
def Cg:Fn:=BP (BU 2 GB)
def OC:Ex:=(Bm (Hv [eV 0,eOp (o1 Xl) [eOp (o2 wGe) [eV 0,eOp (o2 dP) [eI 10,eI 18]]],eI 0,eOp (o2 OM) [eV 0,eI 1000000007]]))
def Gk:Fn:=BP (BU 1 OC)
def G5:Ex:=(AY (xIf (IW (eOp (o2 wEq) [eIx (eV 0) (eI 1),eI 1]) (eOp (o2 wGt) [eIx (eV 0) (eI 0),eI 0])) (AY (BK 2 (eOp (o2 OM) [eIx (eV 0) (eI 0),eV 1]))
    (AY (My (eOp (o2 Od) [eIx (eV 0) (eI 0),eV 1]) (eV 0) (eI 0))
    (Bm (eV 2)))) DU)
    (AY (My (eOp (o2 Bv) [eIx (eV 0) (eI 2),eI 1]) (eV 0) (eI 2))
    (AY (BK 3 (eOp (o2 OM) [eOp (o2 Fb) [eOp (o2 Bv) [eIx (eV 0) (eI 3),eI 17],eOp (o2 Bv) [eI 69621,eOp (o2 Fb) [eI 2,eIx (eV 0) (eI 2)]]],eI 2147483647]))
    (AY (BK 3 (eOp (o2 OM) [eOp (o2 Bv) [eOp (o2 Bv) [eOp (o2 Fb) [eV 3,eV 3],eOp (o2 Fb) [eI 40503,eIx (eV 0) (eI 2)]],eI 5],eI 2147483629]))
    (Bm (eOp (o2 OM) [eOp (o2 Od) [eOp (o2 OM) [eOp (o2 Fb) [eV 3,eI 48271],eI 2147483647],eI 32],eV 1]))))))
def AH:Fn:=BP (BU 4 G5)
def JI:Ex:=(AY (SJ (Yc 1) (eOp (o2 wGt) [eV 1,eI 0]) (V5 0 1 (eV 1) (eOp (o2 OM) [eV 0,eV 1])))
    (Bm (eV 0)))
def FU:Fn:=BP (BU 2 JI)
def LP:Ex:=(AY (BK 2 (AJ FU [eOp (o1 cE) [eV 0],eV 1]))
    (Bm (Be [eOp (o2 Od) [eV 0,eV 2],eOp (o2 Od) [eV 1,eV 2]])))
def Bd:Fn:=BP (BU 3 LP)
def Ls:Ex:=(Bm (AJ Bd [eOp (o2 Bv) [eOp (o2 Fb) [eIx (eV 0) (eI 0),eIx (eV 1) (eI 1)],eOp (o2 Fb) [eIx (eV 1) (eI 0),eIx (eV 0) (eI 1)]],eOp (o2 Fb) [eIx (eV 0) (eI 1),eIx (eV 1) (eI 1)]]))
def B0:Fn:=BP (BU 2 Ls)
def KJ:Ex:=(Bm (AJ Bd [eOp (o2 Fb) [eIx (eV 0) (eI 0),eIx (eV 1) (eI 0)],eOp (o2 Fb) [eIx (eV 0) (eI 1),eIx (eV 1) (eI 1)]]))
def Av:Fn:=BP (BU 2 KJ)
def Lk:Ex:=(Bm (AJ B0 [eV 0,Be [eOp (o2 Oh) [eI 0,eIx (eV 1) (eI 0)],eIx (eV 1) (eI 1)]]))
def C5:Fn:=BP (BU 2 Lk)
def Hc:Ex:=(AY (BK 2 (W5 [0] 1 (M8 [eV 1]) (tNm 1) Di (eIx (IC [eI 0,eI 1,AJ AH [eV 0,eI 4],AJ AH [eV 0,eI 9]]) (AJ AH [eV 0,eI 4]))))
    (AY (xIf (eOp (o2 wEq) [eOp (o1 Xd) [eV 2],eI 0]) (My (eI 1) (eV 2) (AJ AH [eV 0,eV 1])) DU)
    (Bm (eOp (o1 FT) [EI [2] 1 (IV (eV 2)) (tNm 1) Di (AJ Bd [eV 1,eOp (o1 Xd) [eV 0]])]))))
def Cy:Fn:=BP (BU 3 Hc)
def Gn:Ex:=(AY (BK 1 (eOp (o2 Bv) [eOp (o2 dP) [eI 10,eI 30],AJ AH [eV 0,eI 99]]))
    (Bm (eIx (IC [eOp (o2 Bv) [eI 1,AJ AH [eV 0,eI 4]],eOp (o2 Bv) [eI 1,AJ AH [eV 0,eI 40]],eOp (o2 Bv) [eI 1,AJ AH [eV 0,eI 999]],eV 1]) (eOp (o2 Od) [AJ AH [eV 0,eI 7],eI 2]))))
def A8:Fn:=BP (BU 2 Gn)
def Kb:Ex:=(AY (V5 1 2 (eOp (o2 Bv) [eI 1,AJ AH [eV 0,eI 4]]) (eOp (o2 Bv) [eI 1,AJ AH [eV 0,eI 5]]))
    (AY (BK 3 (eIx (IC [eOp (o2 Bv) [eI 1,AJ AH [eV 0,eI 3]],eOp (o2 Bv) [eI 1,AJ AH [eV 0,eI 20]]]) (AJ AH [eV 0,eI 2])))
    (Bm (Be [eV 1,eV 2,eV 3,AJ Cy [eV 0,eV 1],AJ AH [eV 0,eI 10],AJ AH [eV 0,eI 10]]))))
def GA:Fn:=BP (BU 4 Kb)
def Ks:Ex:=(AY (BK 2 (Hv []))
    (AY (Jj (M8 [eIx (IC [eI 0,eI 1,AJ AH [eV 0,eI 5]]) (AJ AH [eV 0,eI 3])]) (tNm 3) (Cb (Kz LF (eV 2) [Be [AJ AH [eV 0,eIx (eV 1) (eI 1)],AJ A8 [eV 0],AJ Cy [eV 0,eIx (eV 1) (eI 0)]]])))
    (Bm (eOp (o1 FT) [eV 2]))))
def F5:Fn:=BP (BU 4 Ks)
def J8:Ex:=(AY (BK 1 (eOp (o2 Bv) [eI 1,AJ AH [eV 0,eI 12]]))
    (Bm (AJ Bd [eOp (o2 Bv) [eI 1,AJ AH [eV 0,eV 1]],eV 1])))
def E8:Fn:=BP (BU 2 J8)
def JW:Ex:=(Bm (eOp (o1 FT) [EI [0] 1 (M8 [eV 1]) (tNm 1) Di (eOp (o2 Bv) [eI 1,eIx (IC [AJ AH [eV 0,eI 3],AJ AH [eV 0,eI 99]]) (AJ AH [eV 0,eI 2])])]))
def C7:Fn:=BP (BU 2 JW)
def J5:Ex:=(Bm (Hv [W5 [] 1 (IV (eIx (eV 0) (eI 1))) (tNm 0) Di (ZS (o1 OZ) [eV 0]),eOp (o1 FT) [eIx (eIx (eV 0) (eI 0)) (eI 3)],Hv []]))
def Df:Fn:=BP (BU 1 J5)
def JC:Ex:=(AY (BK 2 (Hv []))
    (AY (Jj (bZ (eIx (eV 0) (eI 2)) (eIx (eV 1) (eI 2))) (tTp [tNm 3,tNm 4]) (AY (BK 5 (AJ B0 [AJ Av [Be [eIx (eV 0) (eI 1),eI 1],eV 3],AJ Av [Be [eIx (eV 1) (eI 1),eI 1],eV 4]]))
    (Cb (Kz LF (eV 2) [AJ Av [eV 5,AJ Bd [eI 1,eOp (o2 Bv) [eIx (eV 0) (eI 1),eIx (eV 1) (eI 1)]]]]))))
    (Bm (eOp (o1 FT) [eV 2]))))
def FI:Fn:=BP (BU 6 JC)
def LI:Ex:=(AY (BK 3 (eIx (eV 2) (eI 3)))
    (AY (BK 4 (eOp (o2 Bv) [eOp (o1 Xd) [EI [3] 3 (IV (eV 1)) (tTp [tNm 1,tNm 2,tNm 3]) Di (eOp (o2 Fb) [eV 2,eIx (eV 0) (eV 1)])],eOp (o2 Fb) [eIx (eV 0) (eI 2),eIx (eV 3) (eOp (o1 ZN) [eI 1])]]))
    (Bm (AJ Bd [eOp (o2 Fb) [eIx (eV 2) (eI 2),eIx (eV 3) (eIx (eIx (eV 1) (eIx (eV 2) (eI 1))) (eI 0))],eV 4]))))
def G4:Fn:=BP (BU 5 LI)
def KC:Ex:=(AY (BK 3 (Hv []))
    (AY (Jj (bZ (eV 0) (eV 2)) (tTp [tNm 4,tNm 5]) (Cb (Kz LF (eV 3) [AJ B0 [AJ Av [eV 4,AJ C5 [Be [eI 1,eI 1],eV 1]],AJ Av [eV 5,eV 1]]])))
    (Bm (eOp (o1 FT) [eV 3]))))
def Dl:Fn:=BP (BU 6 KC)
def LZ:Ex:=(AY (BK 2 (ZS (o1 OZ) [eV 0]))
    (AY (BK 3 (AJ Av [eIx (eV 2) (eIx (eV 1) (eI 1)),eIx (eV 1) (eI 3)]))
    (AY (My (AJ C5 [eIx (eV 2) (eIx (eV 1) (eI 1)),eV 3]) (eV 2) (eIx (eV 1) (eI 1)))
    (AY (My (AJ B0 [eIx (eV 2) (eIx (eV 1) (eI 2)),eV 3]) (eV 2) (eIx (eV 1) (eI 2)))
    (Bm (eOp (o1 FT) [eV 2]))))))
def EV:Fn:=BP (BU 4 LZ)
def Ib:Ex:=(AY (OB (tTp [tNm 3,tNm 4,tNm 5]) (eV 1))
    (xIf (eOp (o2 wEq) [eIx (eV 2) (eI 0),eC (.str "throw")]) (AY (V5 6 7 (AJ G4 [eV 0,eV 3,eV 2]) (eIx (eIx (eV 3) (eIx (eV 2) (eI 1))) (eI 2)))
    (AY (My (eOp (o2 Oh) [eIx (eIx (eV 3) (eIx (eV 2) (eI 1))) (eI 1),eIx (eV 2) (eI 2)]) (eIx (eV 3) (eIx (eV 2) (eI 1))) (eI 1))
    (AY (Jj (IV (eV 3)) (tNm 8) (My (AJ Dl [eIx (eV 8) (eI 2),eV 6,eV 7]) (eV 8) (eI 2)))
    (My (AJ Dl [eV 4,eV 6,eV 7]) (eV 1) (eI 1))))) (AY (Jj (IV (eV 3)) (tNm 8) (My (AJ EV [eIx (eV 8) (eI 2),eV 2]) (eV 8) (eI 2)))
    (My (AJ EV [eV 4,eV 2]) (eV 1) (eI 1)))))
def Ea:Fn:=BP (BU 9 Ib)
def FE:Ex:=(AY (OB (tTp [tNm 3,tNm 4,tNm 5]) (eV 1))
    (AY (BK 6 (eIx (eV 2) (eI 0)))
    (xIf (eOp (o2 wEq) [eV 6,eC (.str "bring")]) (Cb (Kz LF (eV 3) [Hv [eIx (eV 2) (eI 2),eIx (eV 2) (eI 3),eOp (o1 FT) [EI [2] 1 (M8 [eIx (eV 0) (eI 0)]) (tNm 1) Di (Be [eOp (o1 Xl) [eOp (o2 wEq) [eV 1,eIx (eV 0) (eI 1)]],eI 1])]]])) (xIf (eOp (o2 wEq) [eV 6,eC (.str "pool")]) (AY (V5 7 8 (eIx (eV 3) (eIx (eV 2) (eI 1))) (eIx (eV 3) (eIx (eV 2) (eI 2))))
    (AY (Cb (Kz LF (eV 3) [Hv [eIx (eV 7) (eI 0),eOp (o2 Bv) [eIx (eV 7) (eI 1),eIx (eV 8) (eI 1)],AJ FI [eV 7,eV 8]]]))
    (AY (My (eI 0) (eV 7) (eI 1))
    (My (eI 0) (eV 8) (eI 1))))) (xIf (eOp (o2 (wIn false)) [eV 6,Be [eC (.str "swap"),eC (.str "trade")]]) (AY (OB (tTp [tNm 9,tNm 10,tNm 11,tNm 12]) (eOp (HC true false) [eV 2,eOp (o1 ZN) [eI 4]]))
    (AY (My (eOp (o2 Oh) [eIx (eIx (eV 3) (eV 9)) (eI 1),eV 10]) (eIx (eV 3) (eV 9)) (eI 1))
    (AY (Cb (Kz LF (eV 3) [Hv [eV 11,eV 12,eIx (eIx (eV 3) (eV 9)) (eI 2)]]))
    (Cb (Kz c8 (eV 5) [eOp (o2 Fb) [eOp (HC true true) [eV 2,eI 1,eI 2],eOp (o1 Xl) [eOp (o2 wEq) [eV 6,eC (.str "trade")]]]]))))) (xIf (eOp (o2 wEq) [eV 6,eC (.str "spoil")]) (My (eOp (o2 Oh) [eIx (eIx (eV 3) (eIx (eV 2) (eI 1))) (eI 1),eIx (eV 2) (eI 2)]) (eIx (eV 3) (eIx (eV 2) (eI 1))) (eI 1)) (Cb (AJ Ea [eV 0,eV 1,eV 2]))))))))
def BC:Fn:=BP (BU 13 FE)
def LH:Ex:=(AY (OB (tTp [tNm 3,tNm 4,tNm 5]) (eV 2))
    (AY (BK 6 (EI [] 2 (Ta (eV 3)) (tTp [tNm 0,tNm 1]) (eOp (o2 wGt) [eIx (eV 1) (eI 1),eI 0]) (eV 0)))
    (AY (BK 7 (AJ AH [eV 0,eI 12]))
    (AY (xIf (eOr (eOp (o2 wLt) [eV 7,eI 2]) (eOp (o2 wEq) [eV 6,IC []])) (Bm (Be [eC (.str "bring"),AJ AH [eV 0,eIx (eV 1) (eI 0)],AJ AH [eV 0,eIx (eV 1) (eI 1)],AJ A8 [eV 0]])) DU)
    (AY (BK 8 (eIx (eV 6) (AJ AH [eV 0,eOp (o1 HK) [eV 6]])))
    (AY (BK 9 (eOp (o2 Bv) [eI 1,AJ AH [eV 0,eOp (o2 Wr) [eIx (eIx (eV 3) (eV 8)) (eI 1),eI 2000]]]))
    (AY (xIf (eOp (o2 wLt) [eV 7,eI 5]) (AY (BK 10 (EI [3,8] 1 (IV (eV 6)) (tNm 2) (IW (eOp (o2 wNe) [eV 2,eV 1]) (eOp (o2 wEq) [eIx (eIx (eV 0) (eV 2)) (eI 0),eIx (eIx (eV 0) (eV 1)) (eI 0)])) (eV 2)))
    (xIf (eOp (o2 wNe) [eV 10,IC []]) (Bm (Be [eC (.str "pool"),eV 8,eIx (eV 10) (AJ AH [eV 0,eOp (o1 HK) [eV 10]])])) DU)) DU)
    (AY (xIf (IW (eOp (o2 wLt) [eV 7,eI 8]) (eOp (o2 wGt) [eIx (eV 1) (eI 1),eI 1])) (AY (BK 11 (eOp (o2 OM) [eOp (o2 Bv) [eOp (o2 Bv) [eIx (eIx (eV 3) (eV 8)) (eI 0),eI 1],AJ AH [eV 0,eOp (o2 Oh) [eIx (eV 1) (eI 1),eI 1]]],eIx (eV 1) (eI 1)]))
    (AY (BK 12 (EI [5] 1 (M8 [eI 10]) (tNm 1) (eOp (o2 (wIn true)) [eV 1,eV 0]) (eV 1)))
    (AY (xIf (IW (eOp (o2 wEq) [eV 7,eI 7]) (eOp (o2 wNe) [eV 12,IC []])) (Bm (Be [eC (.str "trade"),eIx (eV 12) (AJ AH [eV 0,eOp (o1 HK) [eV 12]]),eV 8,eV 9,eV 11,AJ A8 [eV 0]])) DU)
    (Bm (Be [eC (.str "swap"),eV 8,eV 9,eV 11,AJ A8 [eV 0]]))))) DU)
    (AY (xIf (eOp (o2 wEq) [eV 7,eI 8]) (Bm (Be [eC (.str "spoil"),eV 8,eV 9])) DU)
    (AY (xIf (IW (eOp (o2 wEq) [eV 7,eI 9]) (eOp (o2 wGt) [eIx (eV 1) (eI 0),eI 1])) (AY (BK 13 (AJ AH [eV 0,eIx (eV 1) (eI 0)]))
    (Bm (Be [eC (.str "sell"),eV 13,eOp (o2 OM) [eOp (o2 Bv) [eOp (o2 Bv) [eV 13,eI 1],AJ AH [eV 0,eOp (o2 Oh) [eIx (eV 1) (eI 0),eI 1]]],eIx (eV 1) (eI 0)],AJ E8 [eV 0]]))) DU)
    (Bm (Be [eC (.str "throw"),eV 8,eV 9,AJ C7 [eV 0,eOp (o2 Bv) [eIx (eV 1) (eI 1),eI 1]]]))))))))))))
def De:Fn:=BP (BU 14 LH)
def LG:Ex:=(AY (BK 2 (AJ GA [eV 0]))
    (AY (BK 3 (AJ F5 [eV 0,eV 2]))
    (AY (V5 4 5 (AJ Df [Be [eV 2,eV 3,Be []]]) (Hv []))
    (AY (Jj (M8 [AJ AH [eV 0,eOp (o2 Bv) [eV 1,eI 1]]]) (tNm 6) (AY (BK 7 (AJ De [eV 0,eV 2,eV 4]))
    (xIf (eOr (eOp (o2 wNe) [eIx (eV 7) (eI 0),eC (.str "throw")]) (eOp (o2 wLt) [eOp (o1 HK) [EI [] 1 (IV (eV 5)) (tNm 0) (eOp (o2 wEq) [eIx (eV 0) (eI 0),eC (.str "throw")]) (eV 0)],eI 3])) (AY (Cb (AJ BC [eV 2,eV 4,eV 7]))
    (Cb (Kz LF (eV 5) [eV 7]))) DU)))
    (Bm (Be [eV 2,eV 3,eOp (o1 FT) [eV 5]]))))))
def Cf:Fn:=BP (BU 8 LG)
def Hw:Ex:=(AY (BK 3 (AJ Cf [eV 0,eV 1]))
    (AY (Jj (M8 [eI 5]) (tNm 4) (AY (xIf (eOp (o2 wNe) [EI [2] 1 (IV (eIx (eV 3) (eI 2))) (tNm 1) (eOp (o2 wEq) [eIx (eV 1) (eI 0),eV 0]) (eV 1),IC []]) (Bm (eV 3)) DU)
    (BK 3 (AJ Cf [eV 0,eV 1]))))
    (Bm (eV 3))))
def Cj:Fn:=BP (BU 5 Hw)
def IE:Ex:=(AY (BK 1 (AJ Cj [eV 0,eI 12,eC (.str "trade")]))
    (AY (OB (tTp [tNm 2,tNm 3,tNm 4]) (eV 1))
    (AY (xIf (eOp (o2 wEq) [eIx (eV 2) (eI 1),eI 1]) (AY (BK 2 (eOp (o2 Bv) [Be [eIx (eV 2) (eI 0),eI 2],eOp (HC true false) [eV 2,eI 2]]))
    (OB (tTp [tNm 3,tNm 4]) (Be [Be [],Be []]))) DU)
    (AY (BK 5 (AJ Df [Be [eV 2,eV 3,Be []]]))
    (AY (Jj (IV (eV 4)) (tNm 6) (Cb (AJ BC [eV 2,eV 5,eV 6])))
    (AY (Jj (M8 [AJ AH [eV 0,eI 5]]) (tNm 7) (AY (BK 8 (EI [5] 1 (M8 [eI 6]) (tNm 1) (eOp (o2 (wIn true)) [eV 1,eIx (eV 0) (eI 2)]) (eV 1)))
    (AY (BK 9 (EI [] 2 (Ta (eIx (eV 5) (eI 0))) (tTp [tNm 0,tNm 1]) (eOp (o2 wGt) [eIx (eV 1) (eI 1),eI 0]) (eV 0)))
    (AY (BK 6 (Be [eC (.str "bring"),eI 0,AJ AH [eV 0,eIx (eV 2) (eI 1)],eOp (o2 Bv) [eI 5,AJ AH [eV 0,eI 9]]]))
    (AY (xIf (IW (eOp (o2 wNe) [eV 9,IC []]) (eOp (o2 wNe) [eV 8,IC []])) (AY (BK 10 (eIx (eV 9) (AJ AH [eV 0,eOp (o1 HK) [eV 9]])))
    (AY (BK 11 (eOp (o2 OM) [eOp (o2 Bv) [eOp (o2 Bv) [eIx (eIx (eIx (eV 5) (eI 0)) (eV 10)) (eI 0),eI 1],AJ AH [eV 0,eOp (o2 Oh) [eIx (eV 2) (eI 1),eI 1]]],eIx (eV 2) (eI 1)]))
    (AY (BK 12 (eIx (eV 8) (AJ AH [eV 0,eOp (o1 HK) [eV 8]])))
    (AY (BK 13 (eOp (o2 Bv) [eI 1,AJ AH [eV 0,eOp (o2 Wr) [eI 4,eIx (eIx (eIx (eV 5) (eI 0)) (eV 10)) (eI 1)]]]))
    (BK 6 (Be [eC (.str "trade"),eV 12,eV 10,eV 13,eV 11,eOp (o2 Bv) [eI 1,AJ AH [eV 0,eI 4]]])))))) DU)
    (AY (Cb (AJ BC [eV 2,eV 5,eV 6]))
    (BK 4 (eOp (o2 Bv) [eV 4,Be [eV 6]]))))))))
    (Bm (Be [eV 2,eV 3,eV 4]))))))))
def Ci:Fn:=BP (BU 14 IE)
def Cz:Ex:=(AY (xIf (eOp (o2 (OO false)) [eV 0,eC .non]) (Bm (eC .non)) DU)
    (AY (OB (tTp [tNm 1,tNm 2,tNm 3,tNm 4,tNm 5]) (eV 0))
    (Bm (Be [eV 1,eV 4,eV 5,eV 2,eV 3]))))
def A6:Fn:=BP (BU 6 Cz)
def KZ:Ex:=(AY (BK 2 (AJ B8 [eV 0]))
    (AY (Jj (IV (eOp (HC false true) [eIx (eV 0) (eI 2),eV 1])) (tNm 3) (BK 2 (AJ Am [eV 2,eV 3])))
    (Bm (eV 2))))
def Ed:Fn:=BP (BU 4 KZ)
def GW:Ex:=(AY (BK 1 (AJ Ed [eV 0,eOp (o1 HK) [eIx (eV 0) (eI 2)]]))
    (AY (BK 2 (Hv []))
    (AY (Jj (IV (eIx (eV 0) (eI 2))) (tNm 3) (xIf (eOp (o2 wEq) [eIx (eV 3) (eI 0),eC (.str "trade")]) (AY (OB (tTp [tNm 4,tNm 5,tNm 6,tNm 7,tNm 8]) (eOp (HC true false) [eV 3,eI 1]))
    (Cb (Kz LF (eV 2) [Be [eV 4,eIx (eIx (eV 1) (eV 5)) (eI 0),eV 6,eV 7,eV 8]]))) DU))
    (Bm (ZS (o1 PN) [eV 2])))))
def BQ:Fn:=BP (BU 9 GW)
def GS:Ex:=(AY (BK 2 (NW false [] 1 (IV (AJ BQ [eV 0])) (tNm 0) Di (eIx (eV 0) (eI 0)) (eV 0)))
    (AY (BK 3 (NW false [] 1 (IV (AJ BQ [eV 1])) (tNm 0) Di (eIx (eV 0) (eI 0)) (eV 0)))
    (AY (BK 4 (eOp (o1 wSS) [eOp (o2 Bv) [eLK false (eV 2),eLK false (eV 3)]]))
    (AY (BK 5 (EI [2,3] 1 (IV (eV 4)) (tNm 2) Di (Be [eV 2,Nx (eV 0) (eV 2),Nx (eV 1) (eV 2)])))
    (Bm (EI [] 1 (IV (eV 5)) (tNm 0) (eOp (o2 wNe) [eIx (eV 0) (eI 1),AJ A6 [eIx (eV 0) (eI 2)]]) (eV 0)))))))
def CK:Fn:=BP (BU 6 GS)
def FA:Ex:=(AY (Cb (AJ A7 [eV 0]))
    (AY (Cb (AJ A7 [eV 1]))
    (AY (BK 2 (AJ CK [eV 0,eV 1]))
    (Bm (eIf (eOp (o2 wGt) [eOp (o1 HK) [eV 2],eI 0]) (eIx (eV 2) (eI 0)) (eC .non))))))
def Ai:Fn:=BP (BU 3 FA)
def IJ:Ex:=(AY (Cb (AJ A7 [eV 0]))
    (Bm (AJ BQ [eV 0])))
def CF:Fn:=BP (BU 1 IJ)
def JF:Ex:=(AY (BK 1 (Hv []))
    (AY (Jj (IV (AJ CF [eV 0])) (tTp [tNm 2,tNm 3,tNm 4,tNm 5,tNm 6]) (AY (Cb (Kz LF (eV 1) [Be [eC (.str "bring"),eI 0,eV 5,eOp (o2 Bv) [eV 6,eI 3]]]))
    (Cb (Kz LF (eV 1) [Be [eC (.str "trade"),eV 2,eOp (o2 Oh) [eOp (o1 HK) [eV 1],eI 1],eV 6,eV 3,eV 4]]))))
    (Bm (Be [Be [eI 1,eIx (eIx (eV 0) (eI 0)) (eI 1),eI 1,Be [Be [eI 1,eI 1]],eI 0,eI 0],Be [],eOp (o1 FT) [eV 1]]))))
def EE:Fn:=BP (BU 7 JF)
def Gv:Ex:=(AY (xIf (eOp (o2 wEq) [AJ AH [eV 0,eI 2],eI 0]) (Bm (eOp (o2 Bv) [eOp (o2 Bv) [eOp (HC false true) [eV 1,eI 3],Be [eOp (o2 Bv) [eOp (o2 Bv) [eIx (eV 1) (eI 3),eI 1],AJ AH [eV 0,eI 2]]]],eOp (HC true false) [eV 1,eI 4]])) DU)
    (Bm (eOp (o2 Bv) [eOp (HC false true) [eV 1,eI 5],Be [eOp (o2 Bv) [eOp (o2 Bv) [eIx (eV 1) (eI 5),eI 1],AJ AH [eV 0,eI 9]]]])))
def C4:Fn:=BP (BU 2 Gv)
def FP(rec_p_is_same:Fn):Ex:=(Bm (IW (eOp (o2 wEq) [eOp (o1 HK) [eV 0],eOp (o1 HK) [eV 1]]) (eOp (o1 dE) [EI [1] 2 (Ta (eV 0)) (tTp [tNm 1,tNm 2]) Di (AJ rec_p_is_same [eV 2,eIx (eV 0) (eV 1)])])))
def Ee(rec_p_are_same:Fn):Ex:=(AY (xIf (eOp (o2 WX) [eV 1,eC (.ty "tuple")]) (Bm (IW (eOp (o2 WX) [eV 0,eC (.ty "tuple")]) (AJ rec_p_are_same [eV 0,eV 1]))) DU)
    (AY (xIf (eOp (o2 WX) [eV 1,eC (.ty "list")]) (Bm (IW (eOp (o2 WX) [eV 0,eC (.ty "list")]) (AJ rec_p_are_same [eV 0,eV 1]))) DU)
    (AY (xIf (eOp (o2 (OO false)) [eV 1,eC .non]) (Bm (eOp (o2 (OO false)) [eV 0,eC .non])) DU)
    (Bm (IW (AJ Gp [eV 0]) (eOp (o2 wEq) [eV 0,eV 1]))))))
def Uw:Nat->Fn×Fn
 |0=>(λ_ _=>none,λ_ _=>none)
 |n+1=>(BP (BU 2 (FP (Uw n).2)),BP (BU 2 (Ee (Uw n).1)))
def CD(n:Nat):Fn:=(Uw n).2
def Gu:Ex:=(AY (Cb (AJ A7 [eV 0]))
    (AY (Cb (AJ A7 [eV 1]))
    (Bm (eOp (o1 cm) [EI [2] 1 (IV (AJ CK [eV 0,eV 1])) (tNm 1) Di (AJ (CD 8) [eV 0,eV 1])]))))
def CV:Fn:=BP (BU 3 Gu)
def Q2:Ex:=(AY (Jj (M8 [eOp (o2 cb) [eI 1,eOp (o2 Wr) [eOp (o1 HK) [eV 0],eI 3]]]) (tNm 1) (AY (BK 2 (AJ Gk [AJ Cg [eV 0,eV 1]]))
    (AY (BK 3 (AJ Ci [eV 2]))
    (AY (BK 4 (AJ CF [eV 3]))
    (AY (BK 5 (AJ EE [eV 3]))
    (AY (xIf (eOr (eOp (o2 (OO true)) [AJ Ai [eV 3,eV 5],eC .non]) (eOp (o2 (OO true)) [AJ Ai [eV 5,eV 3],eC .non])) (Bm (eC (.bl false))) DU)
    (Jj (Ta (eV 4)) (tTp [tNm 6,tNm 7]) (AY (BK 8 (eOp (o2 Bv) [eOp (o2 Fb) [eI 2,eV 6],eI 1]))
    (AY (BK 9 (eIx (eV 5) (eI 2)))
    (AY (BK 10 (eOp (o2 Bv) [eOp (HC false true) [eV 5,eI 2],Be [eOp (HC false true) [eV 9,eV 8]]]))
    (AY (BK 11 (Be [AJ C4 [eV 2,eIx (eV 9) (eV 8)]]))
    (AY (BK 12 (eOp (o2 Bv) [eOp (HC false true) [eV 5,eI 2],Be [eOp (o2 Bv) [eOp (o2 Bv) [eOp (HC false true) [eV 9,eV 8],eV 11],eOp (HC true false) [eV 9,eOp (o2 Bv) [eV 8,eI 1]]]]]))
    (AY (BK 13 (AJ Ai [eV 3,eV 12]))
    (AY (xIf (eOr (eOp (o2 (OO false)) [eV 13,eC .non]) (eOr (eOp (o2 wNe) [eIx (eV 13) (eI 0),eIx (eV 7) (eI 0)]) (eOp (o2 wNe) [eIx (eV 13) (eI 1),eV 7]))) (Bm (eC (.bl false))) DU)
    (AY (xIf (Wq (AJ CV [eV 3,eV 12,eV 13])) (Bm (eC (.bl false))) DU)
    (AY (xIf (eOp (o2 wNe) [AJ Ai [eV 12,eV 3],Be [eIx (eV 13) (eI 0),eIx (eV 13) (eI 2),eIx (eV 13) (eI 1)]]) (Bm (eC (.bl false))) DU)
    (xIf (eOp (o2 wNe) [AJ Ai [eV 3,eV 10],Be [eIx (eV 7) (eI 0),eV 7,eC .non]]) (Bm (eC (.bl false))) DU)))))))))))))))))
    (Bm (eC (.bl true))))
def Mc:Fn:=BP (BU 14 Q2)
def Ds(n:Nat):Fn:=(Uw n).1
end
section
open PyProof.Rows (boot_isinstance boot_int boot_bool boot_tuple boot_str boot_list boot_abs boot_all boot_any boot_sum boot_max boot_min boot_range boot_enumerate boot_zip boot_sorted boot_set boot_divmod)
noncomputable def top(i:Nat):mH:=qw.main.body.getD i (.Pass ⟨0,0,0,0⟩)
abbrev D4:mH:=top 1
abbrev CT:mH:=top 2
abbrev Ey:mH:=top 3
abbrev Cr:mH:=top 8
abbrev Dy:mH:=top 9
abbrev Dx:mH:=top 10
abbrev DY:mH:=top 11
abbrev CJ:mH:=top 12
abbrev CZ:mH:=top 13
abbrev BM:mH:=top 14
abbrev Eh:mH:=top 15
abbrev CY:mH:=top 16
abbrev B1:mH:=top 17
abbrev CW:mH:=top 19
abbrev Bi:mH:=top 20
abbrev Ah:mH:=top 21
abbrev DP:mH:=top 22
abbrev CQ:mH:=top 23
abbrev Bf:mH:=top 24
abbrev Gg:mH:=top 26
abbrev DK:mH:=top 27
abbrev Fh:mH:=top 28
abbrev Du:mH:=top 29
abbrev Fw:mH:=top 30
abbrev CB:mH:=top 31
abbrev Ew:mH:=top 32
abbrev D6:mH:=top 33
abbrev Ec:mH:=top 34
abbrev C2:mH:=top 35
abbrev Ep:mH:=top 36
abbrev CS:mH:=top 37
abbrev B9:mH:=top 38
abbrev Fz:mH:=top 39
abbrev Ej:mH:=top 40
abbrev EB:mH:=top 41
abbrev Dh:mH:=top 42
abbrev Fo:mH:=top 43
abbrev Eg:mH:=top 44
abbrev Fe:mH:=top 45
abbrev Fi:mH:=top 46
abbrev GF:mH:=top 47
abbrev Dd:mH:=top 48
abbrev CC:mH:=top 49
abbrev Ba:mH:=top 50
abbrev EC:mH:=top 51
abbrev Dz:mH:=top 52
abbrev Ia:mH:=top 53
section
variable(P:k8)(w:lO)(K:kJ)(mg:Str->kN kL)(base:lP)
abbrev JD:Prop:=St.Dfn P w K mg base "is_whole" 1 ["thing"] (spD K 1 Gp)
abbrev Ny(n:Nat):Prop:=St.Dfn P w K mg base "are_same" (1+n) ["things","told"] (spD K 2 (Ds n))
abbrev J2(n:Nat):Prop:=St.Dfn P w K mg base "is_same" (1+n) ["thing","told"] (spD K 2 (CD n))
abbrev Dq:Prop:=St.Dfn P w K mg base "has_pieces" 1 ["held","load","pieces"] (spD K 3 Bt)
abbrev JK:Prop:=St.Dfn P w K mg base "can_pool" 2 ["held","load","other"] (spD K 3 FG)
abbrev JM:Prop:=St.Dfn P w K mg base "can_swap" 2 ["held","load","given","kind"] (spD K 4 D9)
abbrev Lr:Prop:=St.Dfn P w K mg base "can_do" 3 ["held","done","deed"] (spD K 3 B4)
abbrev GL:Prop:=St.Dfn P w K mg base "held_without" 1 ["held","load","pieces"] (spD K 3 BY)
abbrev Eu:Prop:=St.Dfn P w K mg base "held_behind" 2 ["held","deed"] (spD K 2 Am)
abbrev Dk:Prop:=St.Dfn P w K mg base "held_at_first" 1 ["book"] (spD K 1 B8)
abbrev Km:Prop:=St.Dfn P w K mg base "held_by" 3 ["book","many"] (spD K 2 Ed)
abbrev GZ:Prop:=St.Dfn P w K mg base "first_wrong" 4 ["book"] (spD K 1 DJ)
abbrev Cm:Prop:=St.Dfn P w K mg base "refuse_undone" 5 ["book"] (spD K 1 A7)
abbrev Eo:Prop:=St.Dfn P w K mg base "trades_told" 4 ["book"] (spD K 1 BQ)
abbrev Ek:Prop:=St.Dfn P w K mg base "seen_from_there" 1 ["trade"] (spD K 1 A6)
abbrev EL:Prop:=St.Dfn P w K mg base "clashes_told" 5 ["book","other"] (spD K 2 CK)
abbrev GG:Prop:=St.Dfn P w K mg base "trades_of" 6 ["book"] (spD K 1 CF)
abbrev Gi:Prop:=St.Dfn P w K mg base "first_clash" 6 ["book","other"] (spD K 2 Ai)
abbrev Gj:Prop:=St.Dfn P w K mg base "clash_holds" 10 ["book","other","thing"] (spD K 3 CV)
abbrev OH:Prop:=St.Dfn P w K mg base "_law_pen" 1 ["_law_cell"] (spD K 1 Gk)
abbrev Hm:Prop:=St.Dfn P w K mg base "_law_cell_at" 1 ["_law_script","_law_k"] (spD K 2 Cg)
abbrev B7:Prop:=St.Dfn P w K mg base "_law_draw" 1 ["_law_pen_here","_law_bound"] (spD K 2 AH)
abbrev Iy:Prop:=St.Dfn P w K mg base "_law_common" 1 ["_law_one","_law_other"] (spD K 2 FU)
abbrev DX:Prop:=St.Dfn P w K mg base "_law_made" 2 ["_law_top","_law_bottom"] (spD K 2 Bd)
abbrev Hg:Prop:=St.Dfn P w K mg base "_law_whole" 3 ["_law_pen_here","_law_many"] (spD K 2 Cy)
abbrev Kk:Prop:=St.Dfn P w K mg base "_law_train" 4 ["_law_pen_here"] (spD K 1 GA)
abbrev Gh:Prop:=St.Dfn P w K mg base "_law_pieces" 2 ["_law_pen_here"] (spD K 1 A8)
abbrev Kw:Prop:=St.Dfn P w K mg base "_law_first" 4 ["_law_pen_here","_law_train_here"] (spD K 2 F5)
abbrev HN:Prop:=St.Dfn P w K mg base "_law_begun" 1 ["_law_book_here"] (spD K 1 Df)
abbrev KS:Prop:=St.Dfn P w K mg base "_law_share" 3 ["_law_pen_here"] (spD K 1 E8)
abbrev JS:Prop:=St.Dfn P w K mg base "_law_worths" 2 ["_law_pen_here","_law_many"] (spD K 2 C7)
abbrev Ln:Prop:=St.Dfn P w K mg base "_law_deed" 4 ["_law_pen_here","_law_train_here","_law_state"] (spD K 3 De)
abbrev Fm:Prop:=St.Dfn P w K mg base "_law_plus" 3 ["_law_one","_law_other"] (spD K 2 B0)
abbrev GD:Prop:=St.Dfn P w K mg base "_law_times" 3 ["_law_one","_law_other"] (spD K 2 Av)
abbrev JR:Prop:=St.Dfn P w K mg base "_law_pooled" 4 ["_law_one","_law_other"] (spD K 2 FI)
abbrev Lm:Prop:=St.Dfn P w K mg base "_law_cost" 3 ["_law_train_here","_law_loads","_law_deed_here"] (spD K 3 G4)
abbrev Ig:Prop:=St.Dfn P w K mg base "_law_less" 4 ["_law_one","_law_other"] (spD K 2 C5)
abbrev J7:Prop:=St.Dfn P w K mg base "_law_borne" 5 ["_law_shares","_law_part","_law_owners"] (spD K 3 Dl)
abbrev LS:Prop:=St.Dfn P w K mg base "_law_sold" 5 ["_law_shares","_law_deed_here"] (spD K 2 EV)
abbrev LJ:Prop:=St.Dfn P w K mg base "_law_turn" 6 ["_law_train_here","_law_state","_law_deed_here"] (spD K 3 Ea)
abbrev MR:Prop:=St.Dfn P w K mg base "_law_do" 7 ["_law_train_here","_law_state","_law_deed_here"] (spD K 3 BC)
abbrev Lq:Prop:=St.Dfn P w K mg base "_law_book" 8 ["_law_pen_here","_law_most"] (spD K 2 Cf)
abbrev IT:Prop:=St.Dfn P w K mg base "_law_book_of" 9 ["_law_pen_here","_law_most","_law_word"] (spD K 3 Cj)
abbrev IK:Prop:=St.Dfn P w K mg base "_law_trading" 10 ["_law_pen_here"] (spD K 1 Ci)
abbrev JH:Prop:=St.Dfn P w K mg base "_law_answer" 7 ["_law_book_here"] (spD K 1 EE)
abbrev JB:Prop:=St.Dfn P w K mg base "_law_turned" 2 ["_law_pen_here","_law_deed_here"] (spD K 2 C4)
end
structure Bts(mg:Str->kN kL):Prop where
 abs:mg "abs"=none
 all:mg "all"=none
 any:mg "any"=none
 bool:mg "bool"=none
 enumerate:mg "enumerate"=none
 int:mg "int"=none
 isi:mg "isinstance"=none
 len:mg "len"=none
 list:mg "list"=none
 max:mg "max"=none
 min:mg "min"=none
 range:mg "range"=none
 set:mg "set"=none
 sorted:mg "sorted"=none
 sum:mg "sum"=none
 tuple:mg "tuple"=none
 zip:mg "zip"=none
end
section
open PyProof.Rows (boot_isinstance boot_int boot_bool boot_tuple boot_str boot_list boot_abs boot_all boot_any boot_sum boot_max boot_min boot_range boot_enumerate boot_zip boot_sorted boot_set boot_divmod)
variable{P:k8}{w:lO}{K:kJ}{mg:Str->kN kL}{base:lP}
theorem Mr:AW ["thing"] ["thing"] (AK D4):=scM
theorem C6  (S:St.Src K mg "is_whole" D4)(B:Bts mg):JD P w K mg base:=by
 refine dfM 0 S Mr λhr hu=>?_
 exact(AL (AX (HJ (Ao Fd rfl B.isi pU (AA (AB 0) (AA (QR rfl B.int xY) AD))) (Hy (aQ (Ao Fd rfl B.isi pU (AA (AB 0) (AA (QR rfl B.bool boot_bool) AD))))))))
theorem MH:AW ["things","told"] ["things","told"] (AK CT):=scM
theorem J1:AZ ["things","told"] (AK CT) ["told","at","thing"] (ixC [1] 2) (NC CT 0):=csM
theorem Gz:(["told","at","thing"]:Wp Str).Nodup:=by decide+kernel
theorem Np:AW ["thing","told"] ["thing","told"] (AK Ey):=scM
theorem aF(S_p_are_same:St.Src K mg "are_same" CT)(S_p_is_same:St.Src K mg "is_same" Ey)(B:Bts mg)(C6:JD P w K mg base):∀n:Nat,n<=8->Ny P w K mg base n/\J2 P w K mg base n
 |0,_=>⟨O9 S_p_are_same (λf fd F=>F.binds λ_ _ _ _ _ _ us hl=>match us,hl with| [_,_],_=>rfl),O9 S_p_is_same (λf fd F=>F.binds λ_ _ _ _ _ _ us hl=>match us,hl with| [_,_],_=>rfl)⟩
 |n+1,hn=>by
  obtain⟨d_p_are_same,d_p_is_same⟩:=aF S_p_are_same S_p_is_same B C6 n (by omega)
  refine⟨?_,?_⟩
  .refine dfM (1+n) S_p_are_same MH λhr hu=>?_
   exact(AL (AX (HJ (GV (Bz hu) (Ao Bq rfl B.len pE (AA (AB 0) AD)) (Ao Bq rfl B.len pE (AA (AB 1) AD))) (Hy (Ao (Rf rfl) rfl B.all boot_all (AA (EM [1] 2 ["told","at","thing"] rfl J1 (OE rfl B.enumerate (AB 0)) (λs H fp=>⟨Fp rfl (AO (Ak 1 Gz) (AO (Ak 2 Gz) By)),EN,deM d_p_is_same hr (AA (AB 2) (AA (AM Aa (AB 0) (AB 1)) AD))⟩)) AD))))))
  .refine dfM (1+n) S_p_is_same Np λhr hu=>?_
   exact(AG (CA (PL (Ao Fd rfl B.isi pU (AA (AB 1) (AA (QR rfl B.tuple oH) AD)))) (AL (AX (HJ (Ao Fd rfl B.isi pU (AA (AB 0) (AA (QR rfl B.tuple oH) AD))) (Hy (deM d_p_are_same hr (AA (AB 0) (AA (AB 1) AD))))))) Ax)
    (AG (CA (PL (Ao Fd rfl B.isi pU (AA (AB 1) (AA (QR rfl B.list uh) AD)))) (AL (AX (HJ (Ao Fd rfl B.isi pU (AA (AB 0) (AA (QR rfl B.list uh) AD))) (Hy (deM d_p_are_same hr (AA (AB 0) (AA (AB 1) AD))))))) Ax)
    (AG (CA (Aj L6 (AB 1) Gf) (AL (AX (GV L6 (AB 0) Gf))) Ax)
    (AL (AX (HJ (deM C6 hr (AA (AB 0) AD)) (Hy (GV (Bz hu) (AB 0) (AB 1)))))))))
theorem Kl:AW ["held","load","pieces"] ["held","load","pieces"] (AK Cr):=scM
theorem Ay  (S:St.Src K mg "has_pieces" Cr)(B:Bts mg):Dq P w K mg base:=by
 refine dfM 0 S Kl λhr hu=>?_
 exact(AL (AX (HJ (GV Lf (AB 1) (Ao Bq rfl B.len pE (AA (AB 0) AD))) (Hy (GV XF (AM Aa (AM Aa (AB 0) (AB 1)) AF) (AB 2))))))
theorem Mf:AW ["held","load","other"] ["held","load","other"] (AK Dy):=scM
theorem EA  (S:St.Src K mg "can_pool" Dy)(Ay:Dq P w K mg base):JK P w K mg base:=by
 refine dfM 1 S Mf λhr hu=>?_
 exact(AL (AX (HJ (deM Ay hr (AA (AB 0) (AA (AB 1) (AA AF AD)))) (HJ (deM Ay hr (AA (AB 0) (AA (AB 2) (AA AF AD)))) (Hy (GV (Bz hu) (AM Aa (AM Aa (AB 0) (AB 1)) AF) (AM Aa (AM Aa (AB 0) (AB 2)) AF)))))))
theorem ML:AW ["held","load","given","kind"] ["held","load","given","kind"] (AK Dx):=scM
theorem C3  (S:St.Src K mg "can_swap" Dx)(Ay:Dq P w K mg base):JM P w K mg base:=by
 refine dfM 1 S ML λhr hu=>?_
 exact(AL (AX (HJ (deM Ay hr (AA (AB 0) (AA (AB 1) (AA (AB 2) AD)))) (Hy (GV (Fc hu) (AM Aa (AM Aa (AB 0) (AB 1)) AF) (AB 3))))))
end
section
open PyProof.Rows (boot_isinstance boot_int boot_bool boot_tuple boot_str boot_list boot_abs boot_all boot_any boot_sum boot_max boot_min boot_range boot_enumerate boot_zip boot_sorted boot_set boot_divmod)
variable{P:k8}{w:lO}{K:kJ}{mg:Str->kN kL}{base:lP}
theorem HX:AW ["held","done","deed","word","numbers"] ["held","done","deed"] (AK DY):=scM
theorem Mn:AZ ["held","done","deed","word","numbers"] (AK DY) ["other"] (ixC [] 1) (NC DY 0):=csM
theorem Ly:(["other"]:Wp Str).Nodup:=by decide+kernel
theorem Ft  (S:St.Src K mg "can_do" DY)(Ay:Dq P w K mg base)(EA:JK P w K mg base)(C3:JM P w K mg base):Lr P w K mg base:=by
 refine dfM 2 S HX λhr hu=>?_
 exact(AG (Ad 3 (AM Aa (AB 2) AF) HX.nd)
      (AG (CA (Aj (Bz hu) (AB 3) BX) (AL (AX (deM EA hr (AA (AB 0) (AA (AM Aa (AB 2) AF) (AA (AM Aa (AB 2) AF) AD)))))) Ax)
      (AG (CA (Aj (Bz hu) (AB 3) BX) (AL (AX (deM C3 hr (AA (AB 0) (AA (AM Aa (AB 2) AF) (AA (AM Aa (AB 2) AF) (AA (AM Aa (AB 2) AF) AD))))))) Ax)
      (AG (CA (Aj (Bz hu) (AB 3) BX) (AG (Dc [] 1 ["other"] rfl HX.nd rfl rfl Mn (DA (AB 1)) (λs H fp=>⟨Ak 0 Ly,F4 (Aj (Bz hu) (AM Aa (AB 0) AF) BX),AM Aa (AB 0) AF⟩))
      (AL (AX (HJ (GV Jy (AM Aa (AB 2) AF) (AB 4)) (Hy (deM C3 hr (AA (AB 0) (AA (AM Aa (AB 2) AF) (AA (AM Aa (AB 2) AF) (AA (AM Aa (AB 2) AF) AD)))))))))) Ax)
      (AG (CA (Aj Py (AB 3) (An (AA BX (AA BX AD)))) (AL (AX (deM Ay hr (AA (AB 0) (AA (AM Aa (AB 2) AF) (AA (AM Aa (AB 2) AF) AD)))))) Ax)
      (AL (AX Oj)))))))
theorem Dg:AW ["held","load","pieces","kind","there"] ["held","load","pieces"] (AK CJ):=scM
theorem BJ  (S:St.Src K mg "held_without" CJ):GL P w K mg base:=by
 refine dfM 0 S Dg λhr hu=>?_
 exact(AG (Gm (AM Aa (AB 0) (AB 1)) (Fp rfl (AO (Ak 3 Dg.nd) (AO (Ak 4 Dg.nd) By))))
      (AL (AX (Ab AV (Ab AV (F9 (AB 0) (AB 1)) (Bx (AA (An (AA (AB 3) (AA (Ab GI (AB 4) (AB 2)) AD))) AD))) (Ha (AB 0) (Ab AV (AB 1) AF))))))
theorem A5:AW ["held","deed","word","kind","pieces","more","load","given","got"] ["held","deed"] (AK CZ):=scM
theorem BR  (S:St.Src K mg "held_behind" CZ)(BJ:GL P w K mg base):Eu P w K mg base:=by
 refine dfM 1 S A5 λhr hu=>?_
 exact(AG (Ad 2 (AM Aa (AB 1) AF) A5.nd)
      (AG (CA (Aj (Bz hu) (AB 2) BX) (AL (AX (Ab AV (AB 0) (Bx (AA (An (AA (AM Aa (AB 1) AF) (AA (AM Aa (AB 1) AF) AD))) AD))))) Ax)
      (AG (CA (Aj (Bz hu) (AB 2) BX) (AG (Gm (AM Aa (AB 0) (AM Aa (AB 1) AF)) (Fp rfl (AO (Ak 3 A5.nd) (AO (Ak 4 A5.nd) By))))
      (AG (Ad 5 (AM Aa (AM Aa (AB 0) (AM Aa (AB 1) AF)) AF) A5.nd)
      (AL (AX (Ab AV (deM BJ hr (AA (deM BJ hr (AA (AB 0) (AA (AM Aa (AB 1) AF) (AA (AB 4) AD)))) (AA (AM Aa (AB 1) AF) (AA (AB 5) AD)))) (Bx (AA (An (AA (AB 3) (AA (Ab AV (AB 4) (AB 5)) AD))) AD))))))) Ax)
      (AG (CA (Aj Py (AB 2) (An (AA BX (AA BX AD)))) (AG (Gm (Ha (AB 1) (ZD O0 AF)) (Fp rfl (AO (Ak 6 A5.nd) (AO (Ak 7 A5.nd) (AO (Ak 3 A5.nd) (AO (Ak 8 A5.nd) By))))))
      (AL (AX (Ab AV (deM BJ hr (AA (AB 0) (AA (AB 6) (AA (AB 7) AD)))) (Bx (AA (An (AA (AB 3) (AA (AB 8) AD))) AD)))))) Ax)
      (AG (CA (Aj Py (AB 2) (An (AA BX (AA BX AD)))) (AL (AX (deM BJ hr (AA (AB 0) (AA (AM Aa (AB 1) AF) (AA (AM Aa (AB 1) AF) AD)))))) Ax)
      (AL (AX (AB 0))))))))
theorem Hs:AW ["book"] ["book"] (AK BM):=scM
theorem HD:AZ ["book"] (AK BM) ["load"] (ixC [] 1) (NC BM 0):=csM
theorem HA:(["load"]:Wp Str).Nodup:=by decide+kernel
theorem A9  (S:St.Src K mg "held_at_first" BM):Dk P w K mg base:=by
 refine dfM 0 S Hs λhr hu=>?_
 exact(AL (AX (EM [] 1 ["load"] rfl HD (DA (AM Aa (AB 0) AF)) (λs H fp=>⟨Ak 0 HA,EN,An (AA (AM Aa (AB 0) AF) (AA (AM Aa (AB 0) AF) AD))⟩))))
theorem FO:AW ["book","many","held","deed"] ["book","many"] (AK Eh):=scM
theorem E9  (S:St.Src K mg "held_by" Eh)(BR:Eu P w K mg base)(A9:Dk P w K mg base):Km P w K mg base:=by
 refine dfM 2 S FO λhr hu=>?_
 exact(AG (Ad 2 (deM A9 hr (AA (AB 0) AD)) FO.nd)
      (AG (E5 l9 rfl (DA (F9 (AM Aa (AB 0) AF) (AB 1))) (Ak 3 FO.nd) (AL (Ad 2 (deM BR hr (AA (AB 2) (AA (AB 3) AD))) FO.nd)))
      (AL (AX (AB 2)))))
theorem Bo:AW ["book","held","deeds","at","deed"] ["book"] (AK CY):=scM
theorem Ca  (S:St.Src K mg "first_wrong" CY)(B:Bts mg)(Ft:Lr P w K mg base)(BR:Eu P w K mg base)(A9:Dk P w K mg base):GZ P w K mg base:=by
 refine dfM 3 S Bo λhr hu=>?_
 exact(AG (Ad 1 (deM A9 hr (AA (AB 0) AD)) Bo.nd)
      (AG (Ad 2 (AM Aa (AB 0) AF) Bo.nd)
      (AG (E5 l9 rfl (OE rfl B.enumerate (AB 2)) (Fp rfl (AO (Ak 3 Bo.nd) (AO (Ak 4 Bo.nd) By))) (AG (CA (Xf (PL (deM Ft hr (AA (AB 1) (AA (F9 (AB 2) (AB 3)) (AA (AB 4) AD)))))) (AL (AX (AB 3))) Ax)
      (AL (Ad 1 (deM BR hr (AA (AB 1) (AA (AB 4) AD))) Bo.nd))))
      (AL (AX Gf)))))
end
section
open PyProof.Rows (boot_isinstance boot_int boot_bool boot_tuple boot_str boot_list boot_abs boot_all boot_any boot_sum boot_max boot_min boot_range boot_enumerate boot_zip boot_sorted boot_set boot_divmod)
variable{P:k8}{w:lO}{K:kJ}{mg:Str->kN kL}{base:lP}
theorem FQ:AW ["book","wrong"] ["book"] (AK B1):=scM
theorem Ac  (S:St.Src K mg "refuse_undone" B1)(Ca:GZ P w K mg base):Cm P w K mg base:=by
 refine dfM 4 S FQ λhr hu=>?_
 exact(AG (Ad 1 (deM Ca hr (AA (AB 0) AD)) FQ.nd)
      (AL (CA (Aj MS (AB 1) Gf) (AL WT) Ax)))
theorem A4:AW ["book","held","trades","deed","number","load","given","other","got"] ["book"] (AK CW):=scM
theorem BE  (S:St.Src K mg "trades_told" CW)(B:Bts mg)(E9:Km P w K mg base):Eo P w K mg base:=by
 refine dfM 3 S A4 λhr hu=>?_
 exact(AG (Ad 1 (deM E9 hr (AA (AB 0) (AA (Ao Bq rfl B.len pE (AA (AM Aa (AB 0) AF) AD)) AD))) A4.nd)
      (AG (Ad 2 (Bx AD) A4.nd)
      (AG (E5 l9 rfl (DA (AM Aa (AB 0) AF)) (Ak 3 A4.nd) (AL (CA (Aj (Bz hu) (AM Aa (AB 3) AF) BX) (AG (Gm (Ha (AB 3) AF) (Fp rfl (AO (Ak 4 A4.nd) (AO (Ak 5 A4.nd) (AO (Ak 6 A4.nd) (AO (Ak 7 A4.nd) (AO (Ak 8 A4.nd) By)))))))
      (AL (B6 (GY lW lq FW (AB 2) (AA (An (AA (AB 4) (AA (AM Aa (AM Aa (AB 1) (AB 5)) AF) (AA (AB 6) (AA (AB 7) (AA (AB 8) AD)))))) AD))))) Ax)))
      (AL (AX (Ao (QH rfl) rfl B.sorted boot_sorted (AA (AB 2) AD)))))))
theorem BG:AW ["trade","number","kind","given","other","got"] ["trade"] (AK Bi):=scM
theorem Bj  (S:St.Src K mg "seen_from_there" Bi):Ek P w K mg base:=by
 refine dfM 0 S BG λhr hu=>?_
 exact(AG (CA (Aj L6 (AB 0) Gf) (AL (AX Gf)) Ax)
      (AG (Gm (AB 0) (Fp rfl (AO (Ak 1 BG.nd) (AO (Ak 2 BG.nd) (AO (Ak 3 BG.nd) (AO (Ak 4 BG.nd) (AO (Ak 5 BG.nd) By)))))))
      (AL (AX (An (AA (AB 1) (AA (AB 4) (AA (AB 5) (AA (AB 2) (AA (AB 3) AD))))))))))
theorem B3:AW ["book","other","mine","theirs","numbers","pairs"] ["book","other"] (AK Ah):=scM
theorem Hb:AZ ["book","other","mine","theirs","numbers","pairs"] (AK Ah) ["trade"] (ixC [] 1) (VT Ah 0):=csM
theorem Hd:(["trade"]:Wp Str).Nodup:=by decide+kernel
theorem HV:AZ ["book","other","mine","theirs","numbers","pairs"] (AK Ah) ["trade"] (ixC [] 1) (VT Ah 1):=csM
theorem HZ:(["trade"]:Wp Str).Nodup:=by decide+kernel
theorem He:AZ ["book","other","mine","theirs","numbers","pairs"] (AK Ah) ["mine","theirs","number"] (ixC [2,3] 1) (VT Ah 2):=csM
theorem Hj:(["mine","theirs","number"]:Wp Str).Nodup:=by decide+kernel
theorem Hh:AZ ["book","other","mine","theirs","numbers","pairs"] (AK Ah) ["pair"] (ixC [] 1) (VT Ah 3):=csM
theorem HW:(["pair"]:Wp Str).Nodup:=by decide+kernel
theorem BI  (S:St.Src K mg "clashes_told" Ah)(B:Bts mg)(BE:Eo P w K mg base)(Bj:Ek P w K mg base):EL P w K mg base:=by
 refine dfM 4 S B3 λhr hu=>?_
 exact(AG (Ad 2 (O5 [] 1 ["trade"] rfl Hb (DA (deM BE hr (AA (AB 0) AD))) (λs H fp=>⟨Ak 0 Hd,EN,AM Aa (AB 0) AF,AB 0⟩)) B3.nd)
      (AG (Ad 3 (O5 [] 1 ["trade"] rfl HV (DA (deM BE hr (AA (AB 1) AD))) (λs H fp=>⟨Ak 0 HZ,EN,AM Aa (AB 0) AF,AB 0⟩)) B3.nd)
      (AG (Ad 4 (eG rfl rfl B.sorted rfl B.set (AA (Ab AV (Zm rfl rfl B.list (AA (AB 2) AD)) (Zm rfl rfl B.list (AA (AB 3) AD))) AD)) B3.nd)
      (AG (Dc [2,3] 1 ["mine","theirs","number"] rfl B3.nd rfl rfl He (DA (AB 4)) (λs H fp=>⟨Ak 2 Hj,EN,An (AA (AB 2) (AA (RI hu (AB 0) (AB 2) ⟨rfl,rfl,rfl,rfl⟩) (AA (RI hu (AB 1) (AB 2) ⟨rfl,rfl,rfl,rfl⟩) AD)))⟩))
      (AL (AX (EM [] 1 ["pair"] rfl Hh (DA (AB 5)) (λs H fp=>⟨Ak 0 HW,F4 (Aj (Fc hu) (AM Aa (AB 0) AF) (deM Bj hr (AA (AM Aa (AB 0) AF) AD))),AB 0⟩))))))))
theorem K9:AW ["book"] ["book"] (AK DP):=scM
theorem Bp  (S:St.Src K mg "trades_of" DP)(Ac:Cm P w K mg base)(BE:Eo P w K mg base):GG P w K mg base:=by
 refine dfM 5 S K9 λhr hu=>?_
 exact(AG (B6 (deM Ac hr (AA (AB 0) AD)))
      (AL (AX (deM BE hr (AA (AB 0) AD)))))
theorem GR:AW ["book","other","clashes"] ["book","other"] (AK CQ):=scM
theorem BD  (S:St.Src K mg "first_clash" CQ)(B:Bts mg)(Ac:Cm P w K mg base)(BI:EL P w K mg base):Gi P w K mg base:=by
 refine dfM 5 S GR λhr hu=>?_
 exact(AG (B6 (deM Ac hr (AA (AB 0) AD)))
      (AG (B6 (deM Ac hr (AA (AB 1) AD)))
      (AG (Ad 2 (deM BI hr (AA (AB 0) (AA (AB 1) AD))) GR.nd)
      (AL (AX (gL (Aj Kf (Ao Bq rfl B.len pE (AA (AB 2) AD)) AF) (AM Aa (AB 2) AF) Gf))))))
end
section
open PyProof.Rows (boot_isinstance boot_int boot_bool boot_tuple boot_str boot_list boot_abs boot_all boot_any boot_sum boot_max boot_min boot_range boot_enumerate boot_zip boot_sorted boot_set boot_divmod)
variable{P:k8}{w:lO}{K:kJ}{mg:Str->kN kL}{base:lP}
theorem Jc:AW ["book","other","thing"] ["book","other","thing"] (AK Bf):=scM
theorem Hq:AZ ["book","other","thing"] (AK Bf) ["thing","clash"] (ixC [2] 1) (NC Bf 0):=csM
theorem IF:(["thing","clash"]:Wp Str).Nodup:=by decide+kernel
theorem Ce  (S:St.Src K mg "clash_holds" Bf)(B:Bts mg)(d_p_is_same:J2 P w K mg base 8)(Ac:Cm P w K mg base)(BI:EL P w K mg base):Gj P w K mg base:=by
 refine dfM 9 S Jc λhr hu=>?_
 exact(AG (B6 (deM Ac hr (AA (AB 0) AD)))
      (AG (B6 (deM Ac hr (AA (AB 1) AD)))
      (AL (AX (Ao (RK rfl) rfl B.any boot_any (AA (EM [2] 1 ["thing","clash"] rfl Hq (DA (deM BI hr (AA (AB 0) (AA (AB 1) AD)))) (λs H fp=>⟨Ak 1 IF,EN,deM d_p_is_same hr (AA (AB 0) (AA (AB 1) AD))⟩)) AD))))))
theorem P7:AW ["_law_cell"] ["_law_cell"] (AK Gg):=scM
theorem Gy  (S:St.Src K mg "_law_pen" Gg)(B:Bts mg):OH P w K mg base:=by
 refine dfM 0 S P7 λhr hu=>?_
 exact(AL (AX (Bx (AA (AB 0) (AA (Bg KU rfl B.int xY (AA (GV XF (AB 0) (Ab RS AF AF)) AD)) (AA AF (AA (Ab FY (AB 0) AF) AD)))))))
theorem K7:AW ["_law_script","_law_k"] ["_law_script","_law_k"] (AK DK):=scM
theorem DC  (S:St.Src K mg "_law_cell_at" DK)(B:Bts mg):Hm P w K mg base:=by
 refine dfM 0 S K7 λhr hu=>?_
 exact(AG (CA (Aj Lf (AB 1) (Ao Bq rfl B.len pE (AA (AB 0) AD))) (AL (AX (AM Aa (AB 0) (AB 1)))) Ax)
      (AL (AX AF)))
theorem F8:AW ["_law_pen_here","_law_bound","_law_found","_law_stir"] ["_law_pen_here","_law_bound"] (AK Fh):=scM
theorem AI  (S:St.Src K mg "_law_draw" Fh):B7 P w K mg base:=by
 refine dfM 0 S F8 λhr hu=>?_
 exact(AG (CA (DW.dt (LU (Aj (Bz hu) (AM Aa (AB 0) AF) AF) (Io (Aj Kf (AM Aa (AB 0) AF) AF)))) (AG (Ad 2 (Ab FY (AM Aa (AB 0) AF) (AB 1)) F8.nd)
      (AG (CN (Ab Ht (AM Aa (AB 0) AF) (AB 1)) (AB 0) AF)
      (AL (AX (AB 2))))) Ax)
      (AG (CN (Ab AV (AM Aa (AB 0) AF) AF) (AB 0) AF)
      (AG (Ad 3 (Ab FY (Ab CI (Ab AV (AM Aa (AB 0) AF) AF) (Ab AV AF (Ab CI AF (AM Aa (AB 0) AF)))) AF) F8.nd)
      (AG (Ad 3 (Ab FY (Ab AV (Ab AV (Ab CI (AB 3) (AB 3)) (Ab CI AF (AM Aa (AB 0) AF))) AF) AF) F8.nd)
      (AL (AX (Ab FY (Ab Ht (Ab FY (Ab CI (AB 3) AF) AF) AF) (AB 1))))))))
theorem IG:AW ["_law_one","_law_other"] ["_law_one","_law_other"] (AK Du):=scM
theorem D8  (S:St.Src K mg "_law_common" Du):Iy P w K mg base:=by
 refine dfM 0 S IG λhr hu=>?_
 exact(AG (Vr (Yc 1) l9 (Aj Kf (AB 1) AF) (AL (N8 (i:=0) (j:=1) rfl IG.nd rfl rfl (by decide) rfl rfl (AB 1) (Ab FY (AB 0) (AB 1)))))
      (AL (AX (AB 0))))
theorem Kc:AW ["_law_top","_law_bottom","_law_by"] ["_law_top","_law_bottom"] (AK Fw):=scM
theorem Au  (S:St.Src K mg "_law_made" Fw)(B:Bts mg)(D8:Iy P w K mg base):DX P w K mg base:=by
 refine dfM 1 S Kc λhr hu=>?_
 exact(AG (Ad 2 (deM D8 hr (AA (Ao RE rfl B.abs boot_abs (AA (AB 0) AD)) (AA (AB 1) AD))) Kc.nd)
      (AL (AX (An (AA (Ab Ht (AB 0) (AB 2)) (AA (Ab Ht (AB 1) (AB 2)) AD))))))
end
section
open PyProof.Rows (boot_isinstance boot_int boot_bool boot_tuple boot_str boot_list boot_abs boot_all boot_any boot_sum boot_max boot_min boot_range boot_enumerate boot_zip boot_sorted boot_set boot_divmod)
variable{P:k8}{w:lO}{K:kJ}{mg:Str->kN kL}{base:lP}
theorem JA:AW ["_law_pen_here","_law_many","_law_weights"] ["_law_pen_here","_law_many"] (AK CB):=scM
theorem K8:AZ ["_law_pen_here","_law_many","_law_weights"] (AK CB) ["_law_pen_here","_law_one"] (ixC [0] 1) (NC CB 0):=csM
theorem K6:(["_law_pen_here","_law_one"]:Wp Str).Nodup:=by decide+kernel
theorem K1:AZ ["_law_pen_here","_law_many","_law_weights"] (AK CB) ["_law_weights","_law_weight"] (ixC [2] 1) (NC CB 1):=csM
theorem LA:(["_law_weights","_law_weight"]:Wp Str).Nodup:=by decide+kernel
theorem CU  (S:St.Src K mg "_law_whole" CB)(B:Bts mg)(AI:B7 P w K mg base)(Au:DX P w K mg base):Hg P w K mg base:=by
 refine dfM 2 S JA λhr hu=>?_
 exact(AG (Ad 2 (EM [0] 1 ["_law_pen_here","_law_one"] rfl K8 (FZ rfl B.range (AA (AB 1) AD)) (λs H fp=>⟨Ak 1 K6,EN,AM Aa (Bx (AA AF (AA AF (AA (deM AI hr (AA (AB 0) (AA AF AD))) (AA (deM AI hr (AA (AB 0) (AA AF AD))) AD))))) (deM AI hr (AA (AB 0) (AA AF AD)))⟩)) JA.nd)
      (AG (CA (Aj (Bz hu) (Ao (KW rfl) rfl B.sum boot_sum (AA (AB 2) AD)) AF) (AL (CN AF (AB 2) (deM AI hr (AA (AB 0) (AA (AB 1) AD))))) Ax)
      (AL (AX (Bg Bs rfl B.tuple oH (AA (EM [2] 1 ["_law_weights","_law_weight"] rfl K1 (DA (AB 2)) (λs H fp=>⟨Ak 1 LA,EN,deM Au hr (AA (AB 1) (AA (Ao (KW rfl) rfl B.sum boot_sum (AA (AB 0) AD)) AD))⟩)) AD))))))
theorem GX:AW ["_law_pen_here","_law_partners","_law_kinds","_law_beasts"] ["_law_pen_here"] (AK Ew):=scM
theorem Er  (S:St.Src K mg "_law_train" Ew)(AI:B7 P w K mg base)(CU:Hg P w K mg base):Kk P w K mg base:=by
 refine dfM 3 S GX λhr hu=>?_
 exact(AG (N8 (i:=1) (j:=2) rfl GX.nd rfl rfl (by decide) rfl rfl (Ab AV AF (deM AI hr (AA (AB 0) (AA AF AD)))) (Ab AV AF (deM AI hr (AA (AB 0) (AA AF AD)))))
      (AG (Ad 3 (AM Aa (Bx (AA (Ab AV AF (deM AI hr (AA (AB 0) (AA AF AD)))) (AA (Ab AV AF (deM AI hr (AA (AB 0) (AA AF AD)))) AD))) (deM AI hr (AA (AB 0) (AA AF AD)))) GX.nd)
      (AL (AX (An (AA (AB 1) (AA (AB 2) (AA (AB 3) (AA (deM CU hr (AA (AB 0) (AA (AB 1) AD))) (AA (deM AI hr (AA (AB 0) (AA AF AD))) (AA (deM AI hr (AA (AB 0) (AA AF AD))) AD)))))))))))
theorem H0:AW ["_law_pen_here","_law_great"] ["_law_pen_here"] (AK D6):=scM
theorem Bc  (S:St.Src K mg "_law_pieces" D6)(AI:B7 P w K mg base):Gh P w K mg base:=by
 refine dfM 1 S H0 λhr hu=>?_
 exact(AG (Ad 1 (Ab AV (Ab RS AF AF) (deM AI hr (AA (AB 0) (AA AF AD)))) H0.nd)
      (AL (AX (AM Aa (Bx (AA (Ab AV AF (deM AI hr (AA (AB 0) (AA AF AD)))) (AA (Ab AV AF (deM AI hr (AA (AB 0) (AA AF AD)))) (AA (Ab AV AF (deM AI hr (AA (AB 0) (AA AF AD)))) (AA (AB 1) AD))))) (Ab Ht (deM AI hr (AA (AB 0) (AA AF AD))) AF)))))
theorem G3:AW ["_law_pen_here","_law_train_here","_law_found","_law_k"] ["_law_pen_here","_law_train_here"] (AK Ec):=scM
theorem Eb  (S:St.Src K mg "_law_first" Ec)(B:Bts mg)(AI:B7 P w K mg base)(CU:Hg P w K mg base)(Bc:Gh P w K mg base):Kw P w K mg base:=by
 refine dfM 3 S G3 λhr hu=>?_
 exact(AG (Ad 2 (Bx AD) G3.nd)
      (AG (E5 l9 rfl (FZ rfl B.range (AA (AM Aa (Bx (AA AF (AA AF (AA (deM AI hr (AA (AB 0) (AA AF AD))) AD)))) (deM AI hr (AA (AB 0) (AA AF AD)))) AD)) (Ak 3 G3.nd) (AL (B6 (GY lW lq FW (AB 2) (AA (An (AA (deM AI hr (AA (AB 0) (AA (AM Aa (AB 1) AF) AD))) (AA (deM Bc hr (AA (AB 0) AD)) (AA (deM CU hr (AA (AB 0) (AA (AM Aa (AB 1) AF) AD))) AD)))) AD)))))
      (AL (AX (Bg Bs rfl B.tuple oH (AA (AB 2) AD))))))
theorem N7:AW ["_law_book_here"] ["_law_book_here"] (AK C2):=scM
theorem K5:AZ ["_law_book_here"] (AK C2) ["_law_load"] (ixC [] 1) (NC C2 0):=csM
theorem LC:(["_law_load"]:Wp Str).Nodup:=by decide+kernel
theorem Cd  (S:St.Src K mg "_law_begun" C2)(B:Bts mg):HN P w K mg base:=by
 refine dfM 0 S N7 λhr hu=>?_
 exact(AL (AX (Bx (AA (EM [] 1 ["_law_load"] rfl K5 (DA (AM Aa (AB 0) AF)) (λs H fp=>⟨Ak 0 LC,EN,Bg Lh rfl B.list uh (AA (AB 0) AD)⟩)) (AA (Bg Bs rfl B.tuple oH (AA (AM Aa (AM Aa (AB 0) AF) AF) AD)) (AA (Bx AD) AD))))))
theorem Iz:AW ["_law_pen_here","_law_bottom"] ["_law_pen_here"] (AK Ep):=scM
theorem Es  (S:St.Src K mg "_law_share" Ep)(AI:B7 P w K mg base)(Au:DX P w K mg base):KS P w K mg base:=by
 refine dfM 2 S Iz λhr hu=>?_
 exact(AG (Ad 1 (Ab AV AF (deM AI hr (AA (AB 0) (AA AF AD)))) Iz.nd)
      (AL (AX (deM Au hr (AA (Ab AV AF (deM AI hr (AA (AB 0) (AA (AB 1) AD)))) (AA (AB 1) AD))))))
end
section
open PyProof.Rows (boot_isinstance boot_int boot_bool boot_tuple boot_str boot_list boot_abs boot_all boot_any boot_sum boot_max boot_min boot_range boot_enumerate boot_zip boot_sorted boot_set boot_divmod)
variable{P:k8}{w:lO}{K:kJ}{mg:Str->kN kL}{base:lP}
theorem Me:AW ["_law_pen_here","_law_many"] ["_law_pen_here","_law_many"] (AK CS):=scM
theorem Ke:AZ ["_law_pen_here","_law_many"] (AK CS) ["_law_pen_here","_law_one"] (ixC [0] 1) (NC CS 0):=csM
theorem J6:(["_law_pen_here","_law_one"]:Wp Str).Nodup:=by decide+kernel
theorem D0  (S:St.Src K mg "_law_worths" CS)(B:Bts mg)(AI:B7 P w K mg base):JS P w K mg base:=by
 refine dfM 1 S Me λhr hu=>?_
 exact(AL (AX (Bg Bs rfl B.tuple oH (AA (EM [0] 1 ["_law_pen_here","_law_one"] rfl Ke (FZ rfl B.range (AA (AB 1) AD)) (λs H fp=>⟨Ak 1 J6,EN,Ab AV AF (AM Aa (Bx (AA (deM AI hr (AA (AB 0) (AA AF AD))) (AA (deM AI hr (AA (AB 0) (AA AF AD))) AD))) (deM AI hr (AA (AB 0) (AA AF AD))))⟩)) AD))))
theorem BZ:AW ["_law_pen_here","_law_train_here","_law_state","_law_loads","_law_holders","_law_numbers","_law_full","_law_way","_law_load","_law_some","_law_same","_law_kind","_law_left","_law_partner"] ["_law_pen_here","_law_train_here","_law_state"] (AK B9):=scM
theorem MG:AZ ["_law_pen_here","_law_train_here","_law_state","_law_loads","_law_holders","_law_numbers","_law_full","_law_way","_law_load","_law_some","_law_same","_law_kind","_law_left","_law_partner"] (AK B9) ["_law_at","_law_load"] (ixC [] 2) (NC B9 0):=csM
theorem Hx:(["_law_at","_law_load"]:Wp Str).Nodup:=by decide+kernel
theorem Mu:AZ ["_law_pen_here","_law_train_here","_law_state","_law_loads","_law_holders","_law_numbers","_law_full","_law_way","_law_load","_law_some","_law_same","_law_kind","_law_left","_law_partner"] (AK B9) ["_law_loads","_law_load","_law_at"] (ixC [3,8] 1) (NC B9 1):=csM
theorem L4:(["_law_loads","_law_load","_law_at"]:Wp Str).Nodup:=by decide+kernel
theorem L7:AZ ["_law_pen_here","_law_train_here","_law_state","_law_loads","_law_holders","_law_numbers","_law_full","_law_way","_law_load","_law_some","_law_same","_law_kind","_law_left","_law_partner"] (AK B9) ["_law_numbers","_law_number"] (ixC [5] 1) (NC B9 2):=csM
theorem Lz:(["_law_numbers","_law_number"]:Wp Str).Nodup:=by decide+kernel
theorem Fv  (S:St.Src K mg "_law_deed" B9)(B:Bts mg)(AI:B7 P w K mg base)(Bc:Gh P w K mg base)(Es:KS P w K mg base)(D0:JS P w K mg base):Ln P w K mg base:=by
 refine dfM 3 S BZ λhr hu=>?_
 exact(AG (Gm (AB 2) (Fp rfl (AO (Ak 3 BZ.nd) (AO (Ak 4 BZ.nd) (AO (Ak 5 BZ.nd) By)))))
      (AG (Dc [] 2 ["_law_at","_law_load"] rfl BZ.nd rfl rfl MG (OE rfl B.enumerate (AB 3)) (λs H fp=>⟨Fp rfl (AO (Ak 0 Hx) (AO (Ak 1 Hx) By)),F4 (Aj Kf (AM Aa (AB 1) AF) AF),AB 0⟩))
      (AG (Ad 7 (deM AI hr (AA (AB 0) (AA AF AD))) BZ.nd)
      (AG (CA (DW.dt (SK (Aj Lf (AB 7) AF) (PZ (Aj (Bz hu) (AB 6) (Bx AD))))) (AL (AX (An (AA BX (AA (deM AI hr (AA (AB 0) (AA (AM Aa (AB 1) AF) AD))) (AA (deM AI hr (AA (AB 0) (AA (AM Aa (AB 1) AF) AD))) (AA (deM Bc hr (AA (AB 0) AD)) AD))))))) Ax)
      (AG (Ad 8 (AM Aa (AB 6) (deM AI hr (AA (AB 0) (AA (Ao Bq rfl B.len pE (AA (AB 6) AD)) AD)))) BZ.nd)
      (AG (Ad 9 (Ab AV AF (deM AI hr (AA (AB 0) (AA (Ao (KA rfl) rfl B.min boot_min (AA (AM Aa (AM Aa (AB 3) (AB 8)) AF) (AA AF AD))) AD)))) BZ.nd)
      (AG (CA (Aj Lf (AB 7) AF) (AG (Dc [3,8] 1 ["_law_loads","_law_load","_law_at"] rfl BZ.nd rfl rfl Mu (DA (AB 6)) (λs H fp=>⟨Ak 2 L4,F4 (DW.dt (LU (Aj (Fc hu) (AB 2) (AB 1)) (Io (Aj (Bz hu) (AM Aa (AM Aa (AB 0) (AB 2)) AF) (AM Aa (AM Aa (AB 0) (AB 1)) AF))))),AB 2⟩))
      (AL (CA (Aj (Fc hu) (AB 10) (Bx AD)) (AL (AX (An (AA BX (AA (AB 8) (AA (AM Aa (AB 10) (deM AI hr (AA (AB 0) (AA (Ao Bq rfl B.len pE (AA (AB 10) AD)) AD)))) AD)))))) Ax))) Ax)
      (AG (CA (DW.dt (LU (Aj Lf (AB 7) AF) (Io (Aj Kf (AM Aa (AB 1) AF) AF)))) (AG (Ad 11 (Ab FY (Ab AV (Ab AV (AM Aa (AM Aa (AB 3) (AB 8)) AF) AF) (deM AI hr (AA (AB 0) (AA (Ab GI (AM Aa (AB 1) AF) AF) AD)))) (AM Aa (AB 1) AF)) BZ.nd)
      (AG (Dc [5] 1 ["_law_numbers","_law_number"] rfl BZ.nd rfl rfl L7 (FZ rfl B.range (AA AF AD)) (λs H fp=>⟨Ak 1 Lz,F4 (Aj Jy (AB 1) (AB 0)),AB 1⟩))
      (AG (CA (DW.dt (LU (Aj (Bz hu) (AB 7) AF) (Io (Aj (Fc hu) (AB 12) (Bx AD))))) (AL (AX (An (AA BX (AA (AM Aa (AB 12) (deM AI hr (AA (AB 0) (AA (Ao Bq rfl B.len pE (AA (AB 12) AD)) AD)))) (AA (AB 8) (AA (AB 9) (AA (AB 11) (AA (deM Bc hr (AA (AB 0) AD)) AD))))))))) Ax)
      (AL (AX (An (AA BX (AA (AB 8) (AA (AB 9) (AA (AB 11) (AA (deM Bc hr (AA (AB 0) AD)) AD))))))))))) Ax)
      (AG (CA (Aj (Bz hu) (AB 7) AF) (AL (AX (An (AA BX (AA (AB 8) (AA (AB 9) AD)))))) Ax)
      (AG (CA (DW.dt (LU (Aj (Bz hu) (AB 7) AF) (Io (Aj Kf (AM Aa (AB 1) AF) AF)))) (AG (Ad 13 (deM AI hr (AA (AB 0) (AA (AM Aa (AB 1) AF) AD))) BZ.nd)
      (AL (AX (An (AA BX (AA (AB 13) (AA (Ab FY (Ab AV (Ab AV (AB 13) AF) (deM AI hr (AA (AB 0) (AA (Ab GI (AM Aa (AB 1) AF) AF) AD)))) (AM Aa (AB 1) AF)) (AA (deM Es hr (AA (AB 0) AD)) AD)))))))) Ax)
      (AL (AX (An (AA BX (AA (AB 8) (AA (AB 9) (AA (deM D0 hr (AA (AB 0) (AA (Ab AV (AM Aa (AB 1) AF) AF) AD))) AD)))))))))))))))))
theorem OP:AW ["_law_one","_law_other"] ["_law_one","_law_other"] (AK Fz):=scM
theorem BV  (S:St.Src K mg "_law_plus" Fz)(Au:DX P w K mg base):Fm P w K mg base:=by
 refine dfM 2 S OP λhr hu=>?_
 exact(AL (AX (deM Au hr (AA (Ab AV (Ab CI (AM Aa (AB 0) AF) (AM Aa (AB 1) AF)) (Ab CI (AM Aa (AB 1) AF) (AM Aa (AB 0) AF))) (AA (Ab CI (AM Aa (AB 0) AF) (AM Aa (AB 1) AF)) AD)))))
theorem NV:AW ["_law_one","_law_other"] ["_law_one","_law_other"] (AK Ej):=scM
theorem BF  (S:St.Src K mg "_law_times" Ej)(Au:DX P w K mg base):GD P w K mg base:=by
 refine dfM 2 S NV λhr hu=>?_
 exact(AL (AX (deM Au hr (AA (Ab CI (AM Aa (AB 0) AF) (AM Aa (AB 1) AF)) (AA (Ab CI (AM Aa (AB 0) AF) (AM Aa (AB 1) AF)) AD)))))
theorem DM:AW ["_law_one","_law_other","_law_found","_law_mine","_law_its","_law_both"] ["_law_one","_law_other"] (AK EB):=scM
theorem ED  (S:St.Src K mg "_law_pooled" EB)(B:Bts mg)(Au:DX P w K mg base)(BV:Fm P w K mg base)(BF:GD P w K mg base):JR P w K mg base:=by
 refine dfM 3 S DM λhr hu=>?_
 exact(AG (Ad 2 (Bx AD) DM.nd)
      (AG (E5 l9 rfl (W3 rfl B.zip (AM Aa (AB 0) AF) (AM Aa (AB 1) AF)) (Fp rfl (AO (Ak 3 DM.nd) (AO (Ak 4 DM.nd) By))) (AG (Ad 5 (deM BV hr (AA (deM BF hr (AA (An (AA (AM Aa (AB 0) AF) (AA AF AD))) (AA (AB 3) AD))) (AA (deM BF hr (AA (An (AA (AM Aa (AB 1) AF) (AA AF AD))) (AA (AB 4) AD))) AD))) DM.nd)
      (AL (B6 (GY lW lq FW (AB 2) (AA (deM BF hr (AA (AB 5) (AA (deM Au hr (AA AF (AA (Ab AV (AM Aa (AB 0) AF) (AM Aa (AB 1) AF)) AD))) AD))) AD))))))
      (AL (AX (Bg Bs rfl B.tuple oH (AA (AB 2) AD))))))
theorem HQ:AW ["_law_train_here","_law_loads","_law_deed_here","_law_worths_here","_law_whole_here"] ["_law_train_here","_law_loads","_law_deed_here"] (AK Dh):=scM
theorem MA:AZ ["_law_train_here","_law_loads","_law_deed_here","_law_worths_here","_law_whole_here"] (AK Dh) ["_law_worths_here","_law_kind","_law_pieces_here","_law_owners"] (ixC [3] 3) (NC Dh 0):=csM
theorem F3:(["_law_worths_here","_law_kind","_law_pieces_here","_law_owners"]:Wp Str).Nodup:=by decide+kernel
theorem Fy  (S:St.Src K mg "_law_cost" Dh)(B:Bts mg)(Au:DX P w K mg base):Lm P w K mg base:=by
 refine dfM 2 S HQ λhr hu=>?_
 exact(AG (Ad 3 (AM Aa (AB 2) AF) HQ.nd)
      (AG (Ad 4 (Ab AV (Ao (KW rfl) rfl B.sum boot_sum (AA (EM [3] 3 ["_law_worths_here","_law_kind","_law_pieces_here","_law_owners"] rfl MA (DA (AB 1)) (λs H fp=>⟨Fp rfl (AO (Ak 1 F3) (AO (Ak 2 F3) (AO (Ak 3 F3) By))),EN,Ab CI (AB 2) (AM Aa (AB 0) (AB 1))⟩)) AD)) (Ab CI (AM Aa (AB 0) AF) (AM Aa (AB 3) (ZD O0 AF)))) HQ.nd)
      (AL (AX (deM Au hr (AA (Ab CI (AM Aa (AB 2) AF) (AM Aa (AB 3) (AM Aa (AM Aa (AB 1) (AM Aa (AB 2) AF)) AF))) (AA (AB 4) AD)))))))
end
section
open PyProof.Rows (boot_isinstance boot_int boot_bool boot_tuple boot_str boot_list boot_abs boot_all boot_any boot_sum boot_max boot_min boot_range boot_enumerate boot_zip boot_sorted boot_set boot_divmod)
variable{P:k8}{w:lO}{K:kJ}{mg:Str->kN kL}{base:lP}
theorem Ol:AW ["_law_one","_law_other"] ["_law_one","_law_other"] (AK Fo):=scM
theorem C9  (S:St.Src K mg "_law_less" Fo)(BV:Fm P w K mg base):Ig P w K mg base:=by
 refine dfM 3 S Ol λhr hu=>?_
 exact(AL (AX (deM BV hr (AA (AB 0) (AA (An (AA (Ab GI AF (AM Aa (AB 1) AF)) (AA (AM Aa (AB 1) AF) AD))) AD)))))
theorem FR:AW ["_law_shares","_law_part","_law_owners","_law_found","_law_mine","_law_its"] ["_law_shares","_law_part","_law_owners"] (AK Eg):=scM
theorem DV  (S:St.Src K mg "_law_borne" Eg)(B:Bts mg)(BV:Fm P w K mg base)(BF:GD P w K mg base)(C9:Ig P w K mg base):J7 P w K mg base:=by
 refine dfM 4 S FR λhr hu=>?_
 exact(AG (Ad 3 (Bx AD) FR.nd)
      (AG (E5 l9 rfl (W3 rfl B.zip (AB 0) (AB 2)) (Fp rfl (AO (Ak 4 FR.nd) (AO (Ak 5 FR.nd) By))) (AL (B6 (GY lW lq FW (AB 3) (AA (deM BV hr (AA (deM BF hr (AA (AB 4) (AA (deM C9 hr (AA (An (AA AF (AA AF AD))) (AA (AB 1) AD))) AD))) (AA (deM BF hr (AA (AB 5) (AA (AB 1) AD))) AD))) AD)))))
      (AL (AX (Bg Bs rfl B.tuple oH (AA (AB 3) AD))))))
theorem HS:AW ["_law_shares","_law_deed_here","_law_found","_law_passes"] ["_law_shares","_law_deed_here"] (AK Fe):=scM
theorem EZ  (S:St.Src K mg "_law_sold" Fe)(B:Bts mg)(BV:Fm P w K mg base)(BF:GD P w K mg base)(C9:Ig P w K mg base):LS P w K mg base:=by
 refine dfM 4 S HS λhr hu=>?_
 exact(AG (Ad 2 (Bg Lh rfl B.list uh (AA (AB 0) AD)) HS.nd)
      (AG (Ad 3 (deM BF hr (AA (AM Aa (AB 2) (AM Aa (AB 1) AF)) (AA (AM Aa (AB 1) AF) AD))) HS.nd)
      (AG (CN (deM C9 hr (AA (AM Aa (AB 2) (AM Aa (AB 1) AF)) (AA (AB 3) AD))) (AB 2) (AM Aa (AB 1) AF))
      (AG (CN (deM BV hr (AA (AM Aa (AB 2) (AM Aa (AB 1) AF)) (AA (AB 3) AD))) (AB 2) (AM Aa (AB 1) AF))
      (AL (AX (Bg Bs rfl B.tuple oH (AA (AB 2) AD))))))))
theorem C0:AW ["_law_train_here","_law_state","_law_deed_here","_law_loads","_law_holders","_law_numbers","_law_part","_law_owners","_law_load"] ["_law_train_here","_law_state","_law_deed_here"] (AK Fi):=scM
theorem Fg  (S:St.Src K mg "_law_turn" Fi)(Fy:Lm P w K mg base)(DV:J7 P w K mg base)(EZ:LS P w K mg base):LJ P w K mg base:=by
 refine dfM 5 S C0 λhr hu=>?_
 exact(AG (Gm (AB 1) (Fp rfl (AO (Ak 3 C0.nd) (AO (Ak 4 C0.nd) (AO (Ak 5 C0.nd) By)))))
      (AL (CA (Aj (Bz hu) (AM Aa (AB 2) AF) BX) (AG (N8 (i:=6) (j:=7) rfl C0.nd rfl rfl (by decide) rfl rfl (deM Fy hr (AA (AB 0) (AA (AB 3) (AA (AB 2) AD)))) (AM Aa (AM Aa (AB 3) (AM Aa (AB 2) AF)) AF))
      (AG (CN (Ab GI (AM Aa (AM Aa (AB 3) (AM Aa (AB 2) AF)) AF) (AM Aa (AB 2) AF)) (AM Aa (AB 3) (AM Aa (AB 2) AF)) AF)
      (AG (E5 l9 rfl (DA (AB 3)) (Ak 8 C0.nd) (AL (CN (deM DV hr (AA (AM Aa (AB 8) AF) (AA (AB 6) (AA (AB 7) AD)))) (AB 8) AF)))
      (AL (CN (deM DV hr (AA (AB 4) (AA (AB 6) (AA (AB 7) AD)))) (AB 1) AF))))) (AG (E5 l9 rfl (DA (AB 3)) (Ak 8 C0.nd) (AL (CN (deM EZ hr (AA (AM Aa (AB 8) AF) (AA (AB 2) AD))) (AB 8) AF)))
      (AL (CN (deM EZ hr (AA (AB 4) (AA (AB 2) AD))) (AB 1) AF))))))
theorem Cq:AW ["_law_train_here","_law_state","_law_deed_here","_law_loads","_law_holders","_law_numbers","_law_word","_law_one","_law_other","_law_load","_law_given","_law_kind","_law_got"] ["_law_train_here","_law_state","_law_deed_here"] (AK GF):=scM
theorem Oi:AZ ["_law_train_here","_law_state","_law_deed_here","_law_loads","_law_holders","_law_numbers","_law_word","_law_one","_law_other","_law_load","_law_given","_law_kind","_law_got"] (AK GF) ["_law_deed_here","_law_one"] (ixC [2] 1) (NC GF 0):=csM
theorem Ot:(["_law_deed_here","_law_one"]:Wp Str).Nodup:=by decide+kernel
theorem ET  (S:St.Src K mg "_law_do" GF)(B:Bts mg)(ED:JR P w K mg base)(Fg:LJ P w K mg base):MR P w K mg base:=by
 refine dfM 6 S Cq λhr hu=>?_
 exact(AG (Gm (AB 1) (Fp rfl (AO (Ak 3 Cq.nd) (AO (Ak 4 Cq.nd) (AO (Ak 5 Cq.nd) By)))))
      (AG (Ad 6 (AM Aa (AB 2) AF) Cq.nd)
      (AL (CA (Aj (Bz hu) (AB 6) BX) (AL (B6 (GY lW lq FW (AB 3) (AA (Bx (AA (AM Aa (AB 2) AF) (AA (AM Aa (AB 2) AF) (AA (Bg Bs rfl B.tuple oH (AA (EM [2] 1 ["_law_deed_here","_law_one"] rfl Oi (FZ rfl B.range (AA (AM Aa (AB 0) AF) AD)) (λs H fp=>⟨Ak 1 Ot,EN,An (AA (Bg KU rfl B.int xY (AA (GV (Bz hu) (AB 1) (AM Aa (AB 0) AF)) AD)) (AA AF AD))⟩)) AD)) AD)))) AD)))) (AL (CA (Aj (Bz hu) (AB 6) BX) (AG (N8 (i:=7) (j:=8) rfl Cq.nd rfl rfl (by decide) rfl rfl (AM Aa (AB 3) (AM Aa (AB 2) AF)) (AM Aa (AB 3) (AM Aa (AB 2) AF)))
      (AG (B6 (GY lW lq FW (AB 3) (AA (Bx (AA (AM Aa (AB 7) AF) (AA (Ab AV (AM Aa (AB 7) AF) (AM Aa (AB 8) AF)) (AA (deM ED hr (AA (AB 7) (AA (AB 8) AD))) AD)))) AD)))
      (AG (CN AF (AB 7) AF)
      (AL (CN AF (AB 8) AF))))) (AL (CA (Aj Py (AB 6) (An (AA BX (AA BX AD)))) (AG (Gm (Ha (AB 2) (ZD O0 AF)) (Fp rfl (AO (Ak 9 Cq.nd) (AO (Ak 10 Cq.nd) (AO (Ak 11 Cq.nd) (AO (Ak 12 Cq.nd) By))))))
      (AG (CN (Ab GI (AM Aa (AM Aa (AB 3) (AB 9)) AF) (AB 10)) (AM Aa (AB 3) (AB 9)) AF)
      (AG (B6 (GY lW lq FW (AB 3) (AA (Bx (AA (AB 11) (AA (AB 12) (AA (AM Aa (AM Aa (AB 3) (AB 9)) AF) AD)))) AD)))
      (AL (B6 (GY rD PySem.F.type_list_extend ZA (AB 5) (AA (Ab CI (YK (AB 2) AF AF) (Bg KU rfl B.int xY (AA (GV (Bz hu) (AB 6) BX) AD))) AD))))))) (AL (CA (Aj (Bz hu) (AB 6) BX) (AL (CN (Ab GI (AM Aa (AM Aa (AB 3) (AM Aa (AB 2) AF)) AF) (AM Aa (AB 2) AF)) (AM Aa (AB 3) (AM Aa (AB 2) AF)) AF)) (AL (B6 (deM Fg hr (AA (AB 0) (AA (AB 1) (AA (AB 2) AD))))))))))))))))
theorem Dj:AW ["_law_pen_here","_law_most","_law_train_here","_law_first_here","_law_state","_law_deeds","_law_k","_law_deed_here"] ["_law_pen_here","_law_most"] (AK Dd):=scM
theorem MN:AZ ["_law_pen_here","_law_most","_law_train_here","_law_first_here","_law_state","_law_deeds","_law_k","_law_deed_here"] (AK Dd) ["_law_one"] (ixC [] 1) (NC Dd 0):=csM
theorem MY:(["_law_one"]:Wp Str).Nodup:=by decide+kernel
theorem EU  (S:St.Src K mg "_law_book" Dd)(B:Bts mg)(AI:B7 P w K mg base)(Er:Kk P w K mg base)(Eb:Kw P w K mg base)(Cd:HN P w K mg base)(Fv:Ln P w K mg base)(ET:MR P w K mg base):Lq P w K mg base:=by
 refine dfM 7 S Dj λhr hu=>?_
 exact(AG (Ad 2 (deM Er hr (AA (AB 0) AD)) Dj.nd)
      (AG (Ad 3 (deM Eb hr (AA (AB 0) (AA (AB 2) AD))) Dj.nd)
      (AG (N8 (i:=4) (j:=5) rfl Dj.nd rfl rfl (by decide) rfl rfl (deM Cd hr (AA (An (AA (AB 2) (AA (AB 3) (AA (An AD) AD)))) AD)) (Bx AD))
      (AG (E5 l9 rfl (FZ rfl B.range (AA (deM AI hr (AA (AB 0) (AA (Ab AV (AB 1) AF) AD))) AD)) (Ak 6 Dj.nd) (AG (Ad 7 (deM Fv hr (AA (AB 0) (AA (AB 2) (AA (AB 4) AD)))) Dj.nd)
      (AL (CA (DW.dt (SK (Aj (Fc hu) (AM Aa (AB 7) AF) BX) (PZ (Aj Lf (Ao Bq rfl B.len pE (AA (EM [] 1 ["_law_one"] rfl MN (DA (AB 5)) (λs H fp=>⟨Ak 0 MY,F4 (Aj (Bz hu) (AM Aa (AB 0) AF) BX),AB 0⟩)) AD)) AF)))) (AG (B6 (deM ET hr (AA (AB 2) (AA (AB 4) (AA (AB 7) AD)))))
      (AL (B6 (GY lW lq FW (AB 5) (AA (AB 7) AD))))) Ax))))
      (AL (AX (An (AA (AB 2) (AA (AB 3) (AA (Bg Bs rfl B.tuple oH (AA (AB 5) AD)) AD))))))))))
end
section
open PyProof.Rows (boot_isinstance boot_int boot_bool boot_tuple boot_str boot_list boot_abs boot_all boot_any boot_sum boot_max boot_min boot_range boot_enumerate boot_zip boot_sorted boot_set boot_divmod)
variable{P:k8}{w:lO}{K:kJ}{mg:Str->kN kL}{base:lP}
theorem Dr:AW ["_law_pen_here","_law_most","_law_word","_law_book_here","_law_turn_here"] ["_law_pen_here","_law_most","_law_word"] (AK CC):=scM
theorem Jh:AZ ["_law_pen_here","_law_most","_law_word","_law_book_here","_law_turn_here"] (AK CC) ["_law_word","_law_deed_here"] (ixC [2] 1) (NC CC 0):=csM
theorem Ji:(["_law_word","_law_deed_here"]:Wp Str).Nodup:=by decide+kernel
theorem DB  (S:St.Src K mg "_law_book_of" CC)(B:Bts mg)(EU:Lq P w K mg base):IT P w K mg base:=by
 refine dfM 8 S Dr λhr hu=>?_
 exact(AG (Ad 3 (deM EU hr (AA (AB 0) (AA (AB 1) AD))) Dr.nd)
      (AG (E5 l9 rfl (FZ rfl B.range (AA AF AD)) (Ak 4 Dr.nd) (AG (CA (Aj (Fc hu) (EM [2] 1 ["_law_word","_law_deed_here"] rfl Jh (DA (AM Aa (AB 3) AF)) (λs H fp=>⟨Ak 1 Ji,F4 (Aj (Bz hu) (AM Aa (AB 1) AF) (AB 0)),AB 1⟩)) (Bx AD)) (AL (AX (AB 3))) Ax)
      (AL (Ad 3 (deM EU hr (AA (AB 0) (AA (AB 1) AD))) Dr.nd))))
      (AL (AX (AB 3)))))
theorem AU:AW ["_law_pen_here","_law_book_here","_law_train_here","_law_first_here","_law_deeds","_law_state","_law_deed_here","_law_k","_law_left","_law_full","_law_load","_law_kind","_law_number","_law_given"] ["_law_pen_here"] (AK Ba):=scM
theorem JY:AZ ["_law_pen_here","_law_book_here","_law_train_here","_law_first_here","_law_deeds","_law_state","_law_deed_here","_law_k","_law_left","_law_full","_law_load","_law_kind","_law_number","_law_given"] (AK Ba) ["_law_state","_law_number"] (ixC [5] 1) (NC Ba 0):=csM
theorem Jb:(["_law_state","_law_number"]:Wp Str).Nodup:=by decide+kernel
theorem Jg:AZ ["_law_pen_here","_law_book_here","_law_train_here","_law_first_here","_law_deeds","_law_state","_law_deed_here","_law_k","_law_left","_law_full","_law_load","_law_kind","_law_number","_law_given"] (AK Ba) ["_law_at","_law_load"] (ixC [] 2) (NC Ba 1):=csM
theorem GQ:(["_law_at","_law_load"]:Wp Str).Nodup:=by decide+kernel
theorem DF  (S:St.Src K mg "_law_trading" Ba)(B:Bts mg)(AI:B7 P w K mg base)(Cd:HN P w K mg base)(ET:MR P w K mg base)(DB:IT P w K mg base):IK P w K mg base:=by
 refine dfM 9 S AU λhr hu=>?_
 exact(AG (Ad 1 (deM DB hr (AA (AB 0) (AA AF (AA BX AD)))) AU.nd)
      (AG (Gm (AB 1) (Fp rfl (AO (Ak 2 AU.nd) (AO (Ak 3 AU.nd) (AO (Ak 4 AU.nd) By)))))
      (AG (CA (Aj (Bz hu) (AM Aa (AB 2) AF) AF) (AG (Ad 2 (Ab AV (An (AA (AM Aa (AB 2) AF) (AA AF AD))) (Ha (AB 2) AF)) AU.nd)
      (AL (Gm (An (AA (An AD) (AA (An AD) AD))) (Fp rfl (AO (Ak 3 AU.nd) (AO (Ak 4 AU.nd) By)))))) Ax)
      (AG (Ad 5 (deM Cd hr (AA (An (AA (AB 2) (AA (AB 3) (AA (An AD) AD)))) AD)) AU.nd)
      (AG (E5 l9 rfl (DA (AB 4)) (Ak 6 AU.nd) (AL (B6 (deM ET hr (AA (AB 2) (AA (AB 5) (AA (AB 6) AD)))))))
      (AG (E5 l9 rfl (FZ rfl B.range (AA (deM AI hr (AA (AB 0) (AA AF AD))) AD)) (Ak 7 AU.nd) (AG (Dc [5] 1 ["_law_state","_law_number"] rfl AU.nd rfl rfl JY (FZ rfl B.range (AA AF AD)) (λs H fp=>⟨Ak 1 Jb,F4 (Aj Jy (AB 1) (AM Aa (AB 0) AF)),AB 1⟩))
      (AG (Dc [] 2 ["_law_at","_law_load"] rfl AU.nd rfl rfl Jg (OE rfl B.enumerate (AM Aa (AB 5) AF)) (λs H fp=>⟨Fp rfl (AO (Ak 0 GQ) (AO (Ak 1 GQ) By)),F4 (Aj Kf (AM Aa (AB 1) AF) AF),AB 0⟩))
      (AG (Ad 6 (An (AA BX (AA AF (AA (deM AI hr (AA (AB 0) (AA (AM Aa (AB 2) AF) AD))) (AA (Ab AV AF (deM AI hr (AA (AB 0) (AA AF AD)))) AD))))) AU.nd)
      (AG (CA (DW.dt (LU (Aj (Fc hu) (AB 9) (Bx AD)) (Io (Aj (Fc hu) (AB 8) (Bx AD))))) (AG (Ad 10 (AM Aa (AB 9) (deM AI hr (AA (AB 0) (AA (Ao Bq rfl B.len pE (AA (AB 9) AD)) AD)))) AU.nd)
      (AG (Ad 11 (Ab FY (Ab AV (Ab AV (AM Aa (AM Aa (AM Aa (AB 5) AF) (AB 10)) AF) AF) (deM AI hr (AA (AB 0) (AA (Ab GI (AM Aa (AB 2) AF) AF) AD)))) (AM Aa (AB 2) AF)) AU.nd)
      (AG (Ad 12 (AM Aa (AB 8) (deM AI hr (AA (AB 0) (AA (Ao Bq rfl B.len pE (AA (AB 8) AD)) AD)))) AU.nd)
      (AG (Ad 13 (Ab AV AF (deM AI hr (AA (AB 0) (AA (Ao (KA rfl) rfl B.min boot_min (AA AF (AA (AM Aa (AM Aa (AM Aa (AB 5) AF) (AB 10)) AF) AD))) AD)))) AU.nd)
      (AL (Ad 6 (An (AA BX (AA (AB 12) (AA (AB 10) (AA (AB 13) (AA (AB 11) (AA (Ab AV AF (deM AI hr (AA (AB 0) (AA AF AD)))) AD))))))) AU.nd)))))) Ax)
      (AG (B6 (deM ET hr (AA (AB 2) (AA (AB 5) (AA (AB 6) AD)))))
      (AL (Ad 4 (Ab AV (AB 4) (An (AA (AB 6) AD))) AU.nd))))))))
      (AL (AX (An (AA (AB 2) (AA (AB 3) (AA (AB 4) AD))))))))))))
theorem CG:AW ["_law_book_here","_law_deeds","_law_number","_law_kind","_law_given","_law_other","_law_got"] ["_law_book_here"] (AK EC):=scM
theorem D7  (S:St.Src K mg "_law_answer" EC)(B:Bts mg)(Bp:GG P w K mg base):JH P w K mg base:=by
 refine dfM 6 S CG λhr hu=>?_
 exact(AG (Ad 1 (Bx AD) CG.nd)
      (AG (E5 l9 rfl (DA (deM Bp hr (AA (AB 0) AD))) (Fp rfl (AO (Ak 2 CG.nd) (AO (Ak 3 CG.nd) (AO (Ak 4 CG.nd) (AO (Ak 5 CG.nd) (AO (Ak 6 CG.nd) By)))))) (AG (B6 (GY lW lq FW (AB 1) (AA (An (AA BX (AA AF (AA (AB 5) (AA (Ab AV (AB 6) AF) AD))))) AD)))
      (AL (B6 (GY lW lq FW (AB 1) (AA (An (AA BX (AA (AB 2) (AA (Ab GI (Ao Bq rfl B.len pE (AA (AB 1) AD)) AF) (AA (AB 6) (AA (AB 3) (AA (AB 4) AD))))))) AD))))))
      (AL (AX (An (AA (An (AA AF (AA (AM Aa (AM Aa (AB 0) AF) AF) (AA AF (AA (An (AA (An (AA AF (AA AF AD))) AD)) (AA AF (AA AF AD))))))) (AA (An AD) (AA (Bg Bs rfl B.tuple oH (AA (AB 1) AD)) AD))))))))
theorem MJ:AW ["_law_pen_here","_law_deed_here"] ["_law_pen_here","_law_deed_here"] (AK Dz):=scM
theorem D5  (S:St.Src K mg "_law_turned" Dz)(AI:B7 P w K mg base):JB P w K mg base:=by
 refine dfM 1 S MJ λhr hu=>?_
 exact(AG (CA (Aj (Bz hu) (deM AI hr (AA (AB 0) (AA AF AD))) AF) (AL (AX (Ab AV (Ab AV (F9 (AB 1) AF) (An (AA (Ab AV (Ab AV (AM Aa (AB 1) AF) AF) (deM AI hr (AA (AB 0) (AA AF AD)))) AD))) (Ha (AB 1) AF)))) Ax)
      (AL (AX (Ab AV (F9 (AB 1) AF) (An (AA (Ab AV (Ab AV (AM Aa (AB 1) AF) AF) (deM AI hr (AA (AB 0) (AA AF AD)))) AD))))))
theorem CO:AW ["_law_script","_law_k","_law_pen_here","_law_book_here","_law_trades","_law_other","_law_at","_law_trade","_law_place","_law_deeds","_law_left","_law_trick","_law_turned_here","_law_there"] ["_law_script"] (AK Ia):=scM
end
theorem nr{α:Sort _}{a b:α}(h:a=b):a=b:=h
@[simp high] theorem A3{α β:Type}(a:α)(f:α->Option β):(some a).bind f=f a:=Eq.mp (congrArg (λz=>z=f a) rfl) (Eq.refl (f a))
@[simp high] theorem fo{α β:Type}(a:α)(f:α->β):(some a).map f=some (f a):=Eq.mp (congrArg (λz=>z=some (f a)) rfl) (Eq.refl (some (f a)))
section
variable{E:En}{S:Sto}{op:OpN}{f g c:Ev}{d:D}{i:Nat}{w:Wv}{a b e h r':D}{r:Wp D}{fs:Wp Ev}
@[simp] theorem j7{o:Option D}{E:En}:at? (o::E) 0=o:=nr rfl
@[simp] theorem jx{o:Option D}{E:En}{i:Nat}:at? (o::E) (i+1)=at? E i:=nr rfl
@[simp] theorem gg:eC d E S=some (d,S):=nr rfl
@[simp] theorem gU:eV i E S=(at? E i).map λd=>(d,S):=nr rfl
@[simp] theorem Yy:evs [] E S=some ([],S):=nr rfl
@[simp] theorem Cu:evs (f::fs) E S=(f E S).bind λr=>(evs fs E r.2).map λq=>(r.1::q.1,q.2):=nr rfl
@[simp] theorem Q1{cf:Bool}:L9 cf op fs E S=(evs fs E S).bind λr=>(op (r.1.map (dr r.2))).bind λw=>fin cf w r.2:=nr rfl
@[simp] theorem iX{cf:Bool}:fin cf (.val d) S=some (d,S):=by cases cf<;>rfl
@[simp] theorem jY:fin false (.own r) S=some (.lst r,S):=nr rfl
@[simp] theorem jc:fin true (.own r) S=some (.ref S.length,S++[.lst r]):=nr rfl
@[simp] theorem iG:dr S .non=.val .non:=nr rfl
@[simp] theorem jG{b:Bool}:dr S (.bl b)=.val (.bl b):=nr rfl
@[simp] theorem iI{i:Int}:dr S (.int i)=.val (.int i):=nr rfl
@[simp] theorem gY{x:Str}:dr S (.str x)=.val (.str x):=nr rfl
@[simp] theorem iU{x:String}:dr S (.ty x)=.val (.ty x):=nr rfl
@[simp] theorem iM:dr S (.tup r)=.val (.tup r):=nr rfl
@[simp] theorem iA:dr S (.lst r)=.val (.lst r):=nr rfl
@[simp] theorem gT{ns:List Int}:dr S (.scr ns)=.val (.scr ns):=nr rfl
theorem Ap{n:Nat}(h:S[n]?=Gc (.lst r)):dr S (.ref n)=.own r:=by
 show(match S[n]? with|some (.lst ds)=>Wv.own ds|_=>.val (.ref n))=_
 rw[h]
theorem AR{n:Nat}(h:S[n]?=Gc (.lst r)):EG S n=Gc r:=by
 unfold EG
 rw[h]
@[simp] theorem XX:fz (.val d)=d:=nr rfl
noncomputable def eB(g:Ev)(E:En)(r:D×Sto):kN (D×Sto):=match r.1 with| .bl true=>g E r.2| .bl false=>Gc (.bl false,r.2)|_=>none
noncomputable def orK(g:Ev)(E:En)(r:D×Sto):kN (D×Sto):=match r.1 with| .bl false=>g E r.2| .bl true=>Gc (.bl true,r.2)|_=>none
noncomputable def gr(r:D×Sto):kN (D×Sto):=match r.1 with| .bl b=>Gc (.bl (!b),r.2)|_=>none
noncomputable def ifK(f g:Ev)(E:En)(r:D×Sto):kN (D×Sto):=match r.1 with| .bl true=>f E r.2| .bl false=>g E r.2|_=>none
@[simp] theorem gS:eB g E (.bl true,S)=g E S:=nr rfl
@[simp] theorem gw:eB g E (.bl false,S)=some (.bl false,S):=nr rfl
@[simp] theorem ir:orK g E (.bl false,S)=g E S:=nr rfl
@[simp] theorem iY:orK g E (.bl true,S)=some (.bl true,S):=nr rfl
@[simp] theorem gj{b:Bool}:gr (.bl b,S)=some (.bl (!b),S):=nr rfl
@[simp] theorem jb:ifK f g E (.bl true,S)=f E S:=nr rfl
@[simp] theorem iQ:ifK f g E (.bl false,S)=g E S:=nr rfl
@[simp] theorem WU:IW f g E S=(f E S).bind (eB g E):=nr rfl
@[simp] theorem OT:eOr f g E S=(f E S).bind (orK g E):=nr rfl
@[simp] theorem cM:Wq f E S=(f E S).bind gr:=nr rfl
@[simp] theorem fX:eIf c f g E S=(c E S).bind (ifK f g E):=nr rfl
@[simp] theorem PX:Be fs E S=(evs fs E S).bind λr=>if r.1.length<=sizeLine then some (.tup r.1,r.2)else none:=nr rfl
@[simp] theorem cR{cf:Bool}:VQ cf fs E S=(evs fs E S).bind λr=>if r.1.length<=sizeLine then fin cf (.own r.1) r.2 else none:=nr rfl
@[simp] theorem Z9{F:Fn}:AJ F fs E S=(evs fs E S).bind λr=>F r.1 r.2:=nr rfl
noncomputable def iH(op:Mo)(fs:Wp Ev)(E:En)(r:D×Sto):kN (D×Sto):=match r.1 with
 | .ref n=>(EG r.2 n).bind λ_=>(evs fs E r.2).bind λp=>(EG p.2 n).bind λds=>(op p.2 ds p.1).map λq=>(q.1,p.2.set n (.lst q.2))
 |_=>none
@[simp] theorem dS{op:Mo}{n:Nat}:iH op fs E (.ref n,S)=(EG S n).bind λ_=>(evs fs E S).bind λp=>(EG p.2 n).bind λds=>(op p.2 ds p.1).map λq=>(q.1,p.2.set n (.lst q.2)):=nr rfl
@[simp] theorem dI{op:Mo}:Kz op f fs E S=(f E S).bind (iH op fs E):=nr rfl
@[simp] theorem cx:LF S r [d]=if r.length<sizeLine then some (.non,r++[d])else none:=nr rfl
variable{x y:Ex}
noncomputable def ZU(y:Ex)(r:Fl×En×Sto):kN (Fl×En×Sto):=match r.1 with| .nx=>y r.2.1 r.2.2| .ret w=>Gc (.ret w,r.2)
noncomputable def du(x y:Ex)(E:En)(r:D×Sto):kN (Fl×En×Sto):=match r.1 with| .bl true=>x E r.2| .bl false=>y E r.2|_=>none
@[simp] theorem KR:ZU y (.nx,E,S)=y E S:=nr rfl
@[simp] theorem cw{w:D}:ZU y (.ret w,E,S)=some (.ret w,E,S):=nr rfl
@[simp] theorem gk:du x y E (.bl true,S)=x E S:=nr rfl
@[simp] theorem gZ:du x y E (.bl false,S)=y E S:=nr rfl
@[simp] theorem Pp:AY x y E S=(x E S).bind (ZU y):=nr rfl
@[simp] theorem cU:DU E S=some (.nx,E,S):=nr rfl
@[simp] theorem Rk:xIf c x y E S=(c E S).bind (du x y E):=nr rfl
@[simp] theorem dc:Bm f E S=(f E S).map λr=>(.ret r.1,E,r.2):=nr rfl
@[simp] theorem Uu:BK i f E S=(f E S).map λr=>(.nx,E.set i (some r.1),r.2):=nr rfl
@[simp] theorem Rh:Cb f E S=(f E S).map λr=>(.nx,E,r.2):=nr rfl
noncomputable def gh(d b:D)(E:En)(i:D×Sto):kN (Fl×En×Sto):=match b,i.1 with
 | .ref n,.int j=>(EG i.2 n).bind λds=>(ixN ds.length j).map λm=>(.nx,E,i.2.set n (.lst (ds.set m d)))
 |_,_=>none
@[simp] theorem dX{n:Nat}{j:Int}:gh d (.ref n) E (.int j,S)=(EG S n).bind λds=>(ixN ds.length j).map λm=>(.nx,E,S.set n (.lst (ds.set m d))):=nr rfl
@[simp] theorem ck{k o:Ev}:My k f o E S=(k E S).bind λr=>(f E r.2).bind λb=>(o E b.2).bind (gh r.1 b.1 E):=nr rfl
@[simp] theorem cX{t:Tf}:OB t f E S=(f E S).bind λr=>(t r.1 E r.2).map λE'=>(.nx,E',r.2):=nr rfl
@[simp] theorem cY{i j:Nat}:V5 i j f g E S=(f E S).bind λr=>(g E r.2).map λq=>(.nx,(E.set i (some r.1)).set j (some q.1),q.2):=by
  unfold V5
  rw[Cu]
  cases f E S with
  |none=>rfl
  |some r=>
   rw[A3,A3,Cu]
   cases g E r.2 with
   |none=>rfl
   |some q=>rfl
@[simp] theorem Xv:tNm i d E S=some (E.set i (some d)):=nr rfl
@[simp] theorem eS{ts:List Tf}{ds:List D}:tTp ts (.tup ds) E S=tMs ts ds E S:=nr rfl
@[simp] theorem d6{ts:List Tf}{n:Nat}:tTp ts (.ref n) E S=(EG S n).bind λds=>tMs ts ds E S:=nr rfl
@[simp] theorem fU:tMs [] [] E S=some E:=nr rfl
@[simp] theorem dH{t:Tf}{ts:List Tf}{ds:List D}:tMs (t::ts) (d::ds) E S=(t d E S).bind λE1=>tMs ts ds E1 S:=nr rfl
@[simp] theorem Zn{N:Nat}{ds:List D}:BP (BU N x) ds S=(x (ds.map some++List.replicate (N-ds.length) none) S).map λr=>(flD r.1,r.2.2):=by rw[Rj];rfl
@[simp] theorem hU:flD .nx=.non:=nr rfl
@[simp] theorem ff:flD (.ret d)=d:=nr rfl
@[simp] theorem fY{i j:Int}:Bv (.val (.int i)) (.val (.int j))=some (.val (.int (i+j))):=nr rfl
@[simp] theorem fc{xs ys:List D}:Bv (.val (.tup xs)) (.val (.tup ys))=if xs.length+ys.length<=sizeLine then some (.val (.tup (xs++ys)))else none:=nr rfl
@[simp] theorem fA{xs ys:List D}:Bv (.val (.lst xs)) (.val (.lst ys))=if xs.length+ys.length<=sizeLine then some (.own (xs++ys))else none:=nr rfl
@[simp] theorem dU{i j:Int}:Fb (.val (.int i)) (.val (.int j))=if EJ i j=true then some (.val (.int (i*j)))else none:=nr rfl
@[simp] theorem de{k:Int}:Fb (.val (.tup r)) (.val (.int k))=if(!r.isEmpty && decide (k<=0) && decide (-(2^63)<=k))=true then some (.val (.tup []))else if(!r.isEmpty && decide (1<=k) && decide (r.length*k.toNat<=sizeLine))=true then some (.val (.tup (List.replicate k.toNat r).flatten))else none:=nr rfl
@[simp] theorem fB:asS (.own r)=some r:=nr rfl
@[simp] theorem eO:asS (.val (.lst r))=some r:=nr rfl
@[simp] theorem fE:asS (.val (.tup r))=some r:=nr rfl
@[simp] theorem eJ{ns:List Int}:asS (.val (.scr ns))=some (ns.map .int):=nr rfl
@[simp] theorem eY{j:Int}:wIx w (.val (.int j))=(asS w).bind λds=>(atI ds j).map .val:=nr rfl
theorem Cn{α:Type}{xs:Wp α}{n:Nat}{x:α}(h:xs[n]?=Gc x):atI xs (n:Int)=Gc x:=YT h
theorem Xh{α:Type}{xs:Wp α}{i:Int}(h0:0<=i)(h1:i<xs.length):atI xs i=Gc (xs[i.toNat]'(by lia)):=by
 have:atI xs ((i.toNat:Nat):Int)=Gc (xs[i.toNat]'(by lia)):=Cn (kS (by lia))
 rwa [mB h0]at this
@[simp] theorem jE:atI (a::r) 0=some a:=Cn (n:=0) rfl
@[simp] theorem iy:atI (a::b::r) 1=some b:=Cn (n:=1) rfl
@[simp] theorem jo:atI (a::b::e::r) 2=some e:=Cn (n:=2) rfl
@[simp] theorem jj:atI (a::b::e::h::r) 3=some h:=Cn (n:=3) rfl
@[simp] theorem iT{k:D}:atI (a::b::e::h::k::r) 4=some k:=Cn (n:=4) rfl
@[simp] theorem iz{k l:D}:atI (a::b::e::h::k::l::r) 5=some l:=Cn (n:=5) rfl
theorem Oz{n k:Nat}(h:k<n):ixN n (k:Int)=Gc k:=by
 unfold ixN
 simp
 lia
theorem Po{n:Nat}{i:Int}(h0:0<=i)(h1:i<n):ixN n i=Gc i.toNat:=by
 have:=Oz (n:=n) (k:=i.toNat) (by lia)
 rwa [mB h0]at this
@[simp] theorem jT{n:Nat}:ixN (n+1) 0=some 0:=Po (by decide) (by lia)
@[simp] theorem ja{n:Nat}:ixN (n+2) 1=some 1:=Po (by decide) (by lia)
@[simp] theorem iZ{n:Nat}:ixN (n+3) 2=some 2:=Po (by decide) (by lia)
@[simp] theorem NY{i j:Int}:deq (.int i) (.int j)=(i==j):=nr rfl
@[simp] theorem gC{i j:Int}:Dm (.int i) (.int j)=true:=nr rfl
@[simp] theorem fm{w':Wv}:wEq w w'=if Dm (fz w) (fz w')=true then some (.val (.bl (deq (fz w) (fz w'))))else none:=nr rfl
@[simp] theorem Il{w':Wv}:wNe w w'=if Dm (fz w) (fz w')=true then some (.val (.bl (!deq (fz w) (fz w'))))else none:=nr rfl
@[simp] theorem fK{i j:Int}:wLt (.val (.int i)) (.val (.int j))=some (.val (.bl (decide (i<j)))):=nr rfl
@[simp] theorem gJ{i j:Int}:wGt (.val (.int i)) (.val (.int j))=some (.val (.bl (decide (j<i)))):=nr rfl
@[simp] theorem eK{i j:Int}:wGe (.val (.int i)) (.val (.int j))=some (.val (.bl (decide (j<=i)))):=nr rfl
@[simp] theorem cu{i j:Int}:Oh (.val (.int i)) (.val (.int j))=some (.val (.int (i-j))):=nr rfl
@[simp] theorem dg{i:Int}:ZN (.val (.int i))=some (.val (.int (-i))):=nr rfl
@[simp] theorem cn{i j:Int}:OM (.val (.int i)) (.val (.int j))=(if 0<j then some (.val (.int (i % j)))else none):=by
  show vG Wv.val (if 0<j then Gc (D.int (i % j))else none)=_
  split<;>rfl
@[simp] theorem Z8{i j:Int}:Od (.val (.int i)) (.val (.int j))=(if(decide (0<j) && decide (j.natAbs<Gx))=true then some (.val (.int (i / j)))else none):=by
  show vG Wv.val (if(decide (0<j) && decide (j.natAbs<Gx))=true then Gc (D.int (i / j))else none)=_
  split<;>rfl
@[simp] theorem da{i j:Int}:dP (.val (.int i)) (.val (.int j))=if(decide (0<=j) && decide (j<=1000) && decide (i.natAbs<2^64))=true then some (.val (.int (i^j.toNat)))else none:=by
  show vG Wv.val (if(decide (0<=j) && decide (j<=1000) && decide (i.natAbs<2^64))=true then Gc (D.int (i^j.toNat))else none)=_
  split<;>rfl
@[simp] theorem dJ{i:Int}:cE (.val (.int i))=some (.val (.int (i.natAbs:Int))):=by
  show Gc (Wv.val (D.int (if i<0 then-i else i)))=_
  congr 3
  split<;>lia
@[simp] theorem cV:HK (.own r)=some (.val (.int r.length)):=nr rfl
@[simp] theorem U7:HK (.val (.lst r))=some (.val (.int r.length)):=nr rfl
@[simp] theorem dQ:HK (.val (.tup r))=some (.val (.int r.length)):=nr rfl
@[simp] theorem cK{ns:List Int}:HK (.val (.scr ns))=some (.val (.int ns.length)):=by
  show Gc (Wv.val (D.int ((ns.map D.int).length:Nat)))=_
  rw[ky]
@[simp] theorem ZQ:FT w=(asS w).map λds=>.val (.tup ds):=nr rfl
@[simp] theorem bh:OZ w=(asS w).map λds=>.own ds:=nr rfl
@[simp] theorem gn{b:Bool}:Xl (.val (.bl b))=some (.val (.int (if b then 1 else 0))):=nr rfl
@[simp] theorem dY{i j:Int}:cb (.val (.int i)) (.val (.int j))=some (.val (.int (if j>i then j else i))):=nr rfl
@[simp] theorem dZ{i j:Int}:Wr (.val (.int i)) (.val (.int j))=some (.val (.int (if j<i then j else i))):=nr rfl
@[simp] theorem dB{T:String}:WX w (.val (.ty T))=if N3 T=true then(kdW w).map λk=>.val (.bl (k.isA T))else none:=nr rfl
@[simp] theorem eN:N3 "int"=true:=by decide
@[simp] theorem cg:N3 "bool"=true:=by decide
@[simp] theorem aS:N3 "tuple"=true:=by decide
@[simp] theorem cJ:N3 "list"=true:=by decide
@[simp] theorem cC:dE (.val (.lst r))=(bls r).map λbs=>.val (.bl (bs.all id)):=nr rfl
theorem AN{n:Nat}(h:n<=1000):n<=sizeLine:=kY h (by decide)
@[simp] theorem sz1:(1:Nat)<=sizeLine:=AN (by decide)
@[simp] theorem sz2:(2:Nat)<=sizeLine:=AN (by decide)
@[simp] theorem sz3:(3:Nat)<=sizeLine:=AN (by decide)
@[simp] theorem sz4:(4:Nat)<=sizeLine:=AN (by decide)
@[simp] theorem sz5:(5:Nat)<=sizeLine:=AN (by decide)
@[simp] theorem sz6:(6:Nat)<=sizeLine:=AN (by decide)
@[simp] theorem Gq:Di E S=some (.bl true,S):=nr rfl
@[simp] theorem cP{s:Sr}{t:Tf}{b:Ex}:Jj s t b E S=(s E S).bind λr=>Ij r.1.2 t b r.1.1 E r.2:=nr rfl
@[simp] theorem As:gOk [] S:=λ_ h=>(nomatch h)
theorem FH{gs:Gd}{t:Tf}{b:Ex}(h:gOk gs S):Ij gs t b [] E S=Gc (.nx,E,S):=by
 unfold Ij
 rw[lF h]
theorem RZ {gs : Gd} {t : Tf} {b : Ex} {ds : Wp D} (h : gOk gs S) : Ij gs t b (d :: ds) E S = (t d E S).bind fun E1 => (b E1 S).bind fun r => match r.1 with
    | .nx => Ij gs t b ds r.2.1 r.2.2
    | .ret w => Gc (.ret w, r.2) := by
  rw [Ij, lF h]
  all_goals rfl
theorem CM{gs:Gd}{t:Tf}{b:Ex}{ds:Wp D}(h:gOk gs S):Ij gs t b (d::ds) E S=(t d E S).bind λE1=>(b E1 S).bind (ZU (Ij gs t b ds)):=by
 rw[RZ h]
 rfl
@[simp] theorem dC:IV f E S=(f E S).bind λr=>(sqD r.2 r.1).map λp=>(p,r.2):=nr rfl
@[simp] theorem gP:sqD S (.tup r)=some (r,[]):=nr rfl
@[simp] theorem eQ:sqD S (.lst r)=some (r,[]):=nr rfl
theorem DZ{n:Nat}(h:S[n]?=Gc (.lst r)):sqD S (.ref n)=Gc (r,[(n,r)]):=by
 show(EG S n).map (λds=>(ds,[(n,ds)]))=_
 rw[AR h]
 rfl
@[simp] theorem cT:Ta f E S=(f E S).bind λr=>(sqD r.2 r.1).map λp=>((Mw 0 p.1,p.2),r.2):=nr rfl
@[simp] theorem cS:bZ f g E S=(f E S).bind λr=>(g E r.2).bind λq=>(sqD q.2 r.1).bind λa=>(sqD q.2 q.1).map λb=>((ON a.1 b.1,a.2++b.2),q.2):=by
  unfold bZ
  rw[Cu]
  cases f E S with
  |none=>rfl
  |some r=>
   rw[A3,A3,Cu]
   cases g E r.2 with
   |none=>rfl
   |some q=>rfl
noncomputable def IL(j:Int):lM:=decide (-(2^62)<=j) && decide (j<2^62)
theorem Dp{j:Int}(h: -1000000<=j)(g:j<=1000000):IL j=true:=by
 unfold IL
 rw[kn]
 exact⟨nT (by lia),nT (by lia)⟩
noncomputable def gX(S:Sto):D->kN ((Wp D×Gd)×Sto)
 | .int j=>if IL j=true then Gc ((Kx 0 j.toNat,[]),S)else none
 |_=>none
@[simp] theorem c9{j:Int}:gX S (.int j)=if IL j=true then some ((Kx 0 j.toNat,[]),S)else none:=nr rfl
@[simp] theorem dh:M8 [f] E S=(f E S).bind λr=>gX r.2 r.1:=by
  unfold M8
  rw[Cu]
  cases f E S with
  |none=>rfl
  |some r=>
   obtain⟨d,S1⟩:=r
   rw[A3,Yy,fo,A3,A3]
   cases d<;>rfl
@[simp] theorem aT{cf:Bool}{cap:List Nat}{m:Nat}{s:Sr}{t:Tf}:Lg cf cap m s t c f E S=(s E S).bind λr=>(CH r.1.2 t c f r.1.1 [] (QI cap m E) r.2).bind λq=>fin cf (.own q.1) q.2:=nr rfl
@[simp] theorem cy{cap:List Nat}{m:Nat}:QI cap m E=cap.map (at? E)++List.replicate m none:=nr rfl
@[simp] theorem QP{i:Int}:Je (.int i::r)=(Je r).map λns=>i::ns:=by
  unfold Je
  rw[sC]
  show(do let r1<-Gc i;let rs<-List.mapM intD r;pure (r1::rs))=_
  cases List.mapM intD r<;>rfl
theorem Ff:∀(ns:Wp Int),Je (ns.map D.int)=Gc ns
 | []=>rfl
 |n::ns=>by rw[kq,QP,Ff ns];rfl
@[simp] theorem dF:Xd (.own r)=(Je r).map λns=>.val (.int ns.sum):=nr rfl
@[simp] theorem cQ:Xd (.val (.lst r))=(Je r).map λns=>.val (.int ns.sum):=nr rfl
@[simp] theorem iD:OO false w (.val .non)=some (.val (.bl (isN w))):=nr rfl
@[simp] theorem gR:OO true w (.val .non)=some (.val (.bl (!isN w))):=nr rfl
@[simp] theorem jV{i:Int}{w:Wv}:HC true false [w,.val (.int i)]=wSl (some i) none w:=nr rfl
@[simp] theorem ip{i:Int}{w:Wv}:HC false true [w,.val (.int i)]=wSl none (some i) w:=nr rfl
@[simp] theorem jv{i j:Int}{w:Wv}:HC true true [w,.val (.int i),.val (.int j)]=wSl (some i) (some j) w:=nr rfl
@[simp] theorem eM{lo hi:Option Int}:wSl lo hi (.val (.tup r))=some (.val (.tup (IQ r lo hi))):=nr rfl
end
structure Cp(A:Wp Nat)(S S':Sto):Prop where
 len:S.length<=S'.length
 keep:∀n,n<S.length->n∉A->S'[n]?=S[n]?
theorem Cp.refl{A:Wp Nat}{S:Sto}:Cp A S S:=⟨kR _,λ_ _ _=>rfl⟩
theorem Cp.trans{A:Wp Nat}{S S' S2:Sto}(h:Cp A S S')(g:Cp A S' S2):Cp A S S2:=⟨kY h.len g.len,λn hn ha=>(g.keep n (kT hn h.len) ha).trans (h.keep n hn ha)⟩
theorem Cp.mono{A B:Wp Nat}{S S':Sto}(h:Cp A S S')(s:∀n∈A,n∈B):Cp B S S':=⟨h.len,λn hn hb=>h.keep n hn λz=>hb (s n z)⟩
theorem Cp.get{A:Wp Nat}{S S':Sto}(h:Cp A S S'){n:Nat}{c:Cl}(e:S[n]?=Gc c)(ha:n∉A):S'[n]?=Gc c:=by
 rw[h.keep n (ke.mp e).1 ha];exact e
theorem Cp.app{A:Wp Nat}{S T:Sto}:Cp A S (S++T):=⟨by simp,λn hn _=>kP hn⟩
theorem Cp.set{A:Wp Nat}{S:Sto}{n:Nat}{c:Cl}(h:n∈A):Cp A S (S.set n c):=⟨by simp,λm hm ha=>kW (λz=>ha (by rw[<-z];exact h))⟩
theorem Cp.new{A:Wp Nat}{S S' S2:Sto}(h:Cp A S S')(g:Cp (A++B) S' S2)(hb:∀n∈B,S.length<=n):Cp A S S2:=⟨kY h.len g.len,λn hn ha=>(g.keep n (kT hn h.len) (λz=>by
 rcases k6.mp z with z|z
 .exact ha z
 .have:=hb n z;lia)).trans (h.keep n hn ha)⟩
theorem Ag{S:Sto}{n:Nat}{c:Cl}(h:S[n]?=Gc c):n<S.length:=(ke.mp h).1
section
variable{E:En}{S:Sto}{f g h k l m:Ev}{cf:lM}{F:Fn}
@[simp high] theorem cW{op:Op1}:L9 cf (o1 op) [f] E S=(f E S).bind λr=>(op (dr r.2 r.1)).bind λw=>fin cf w r.2:=by
  rw[Q1,Cu];cases f E S<;>rfl
@[simp high] theorem VB{op:Op2}:L9 cf (o2 op) [f,g] E S=(f E S).bind λr=>(g E r.2).bind λq=>(op (dr q.2 r.1) (dr q.2 q.1)).bind λw=>fin cf w q.2:=by
  rw[Q1,Cu]
  cases f E S with
  |none=>rfl
  |some r=>rw[A3,A3,Cu];cases g E r.2<;>rfl
theorem gQ:evs [f] E S=(f E S).bind λr=>Gc ([r.1],r.2):=by rw[Cu];cases f E S<;>rfl
theorem gu:evs [f,g] E S=(f E S).bind λr=>(g E r.2).bind λq=>Gc ([r.1,q.1],q.2):=by
 rw[Cu];cases f E S with
 |none=>rfl
 |some r=>rw[A3,A3,gQ];cases g E r.2<;>rfl
theorem iN:evs [f,g,h] E S=(f E S).bind λr=>(g E r.2).bind λq=>(h E q.2).bind λu=>Gc ([r.1,q.1,u.1],u.2):=by
 rw[Cu];cases f E S with
 |none=>rfl
 |some r=>rw[A3,A3,gu];cases g E r.2 with
  |none=>rfl
  |some q=>rw[A3,A3];cases h E q.2<;>rfl
theorem iW:evs [f,g,h,k] E S=(f E S).bind λr=>(g E r.2).bind λq=>(h E q.2).bind λu=>(k E u.2).bind λv=>Gc ([r.1,q.1,u.1,v.1],v.2):=by
 rw[Cu];cases f E S with
 |none=>rfl
 |some r=>rw[A3,A3,iN];cases g E r.2 with
  |none=>rfl
  |some q=>rw[A3,A3];cases h E q.2 with
   |none=>rfl
   |some u=>rw[A3,A3];cases k E u.2<;>rfl
@[simp high] theorem jh:evs [f] E S=(f E S).bind λr=>some ([r.1],r.2):=gQ
@[simp high] theorem jH:evs [f,g] E S=(f E S).bind λr=>(g E r.2).bind λq=>some ([r.1,q.1],q.2):=gu
@[simp high] theorem jt:evs [f,g,h] E S=(f E S).bind λr=>(g E r.2).bind λq=>(h E q.2).bind λu=>some ([r.1,q.1,u.1],u.2):=iN
@[simp high] theorem jX:evs [f,g,h,k] E S=(f E S).bind λr=>(g E r.2).bind λq=>(h E q.2).bind λu=>(k E u.2).bind λv=>some ([r.1,q.1,u.1,v.1],v.2):=iW
@[simp high] theorem j0{d:D}:eV 0 (some d::E) S=some (d,S):=nr rfl
@[simp high] theorem j5{d:D}{o0:Option D}:eV 1 (o0::some d::E) S=some (d,S):=nr rfl
@[simp high] theorem kG{d:D}{o0 o1:Option D}:eV 2 (o0::o1::some d::E) S=some (d,S):=nr rfl
@[simp high] theorem jy{d:D}{o0 o1 o2:Option D}:eV 3 (o0::o1::o2::some d::E) S=some (d,S):=nr rfl
@[simp high] theorem kF{d:D}{o0 o1 o2 o3:Option D}:eV 4 (o0::o1::o2::o3::some d::E) S=some (d,S):=nr rfl
@[simp high] theorem kB{d:D}{o0 o1 o2 o3 o4:Option D}:eV 5 (o0::o1::o2::o3::o4::some d::E) S=some (d,S):=nr rfl
@[simp high] theorem jz{d:D}{o0 o1 o2 o3 o4 o5:Option D}:eV 6 (o0::o1::o2::o3::o4::o5::some d::E) S=some (d,S):=nr rfl
@[simp high] theorem j9{d:D}{o0 o1 o2 o3 o4 o5 o6:Option D}:eV 7 (o0::o1::o2::o3::o4::o5::o6::some d::E) S=some (d,S):=nr rfl
@[simp high] theorem kE{d:D}{o0 o1 o2 o3 o4 o5 o6 o7:Option D}:eV 8 (o0::o1::o2::o3::o4::o5::o6::o7::some d::E) S=some (d,S):=nr rfl
@[simp high] theorem kA{d:D}{o0 o1 o2 o3 o4 o5 o6 o7 o8:Option D}:eV 9 (o0::o1::o2::o3::o4::o5::o6::o7::o8::some d::E) S=some (d,S):=nr rfl
@[simp high] theorem jP{d:D}{o0 o1 o2 o3 o4 o5 o6 o7 o8 o9:Option D}:eV 10 (o0::o1::o2::o3::o4::o5::o6::o7::o8::o9::some d::E) S=some (d,S):=nr rfl
@[simp high] theorem iw{d:D}{o0 o1 o2 o3 o4 o5 o6 o7 o8 o9 o10:Option D}:eV 11 (o0::o1::o2::o3::o4::o5::o6::o7::o8::o9::o10::some d::E) S=some (d,S):=nr rfl
@[simp high] theorem jU{d:D}{o0 o1 o2 o3 o4 o5 o6 o7 o8 o9 o10 o11:Option D}:eV 12 (o0::o1::o2::o3::o4::o5::o6::o7::o8::o9::o10::o11::some d::E) S=some (d,S):=nr rfl
@[simp high] theorem ju{d:D}{o0 o1 o2 o3 o4 o5 o6 o7 o8 o9 o10 o11 o12:Option D}:eV 13 (o0::o1::o2::o3::o4::o5::o6::o7::o8::o9::o10::o11::o12::some d::E) S=some (d,S):=nr rfl
@[simp 20000] theorem gc{op:Op2}{d:D}:L9 cf (o2 op) [f,eC d] E S=(f E S).bind λr=>(op (dr r.2 r.1) (dr r.2 d)).bind λw=>fin cf w r.2:=by
  rw[VB];cases f E S<;>rfl
@[simp high] theorem cI{i:Nat}{y:Ex}:AY (BK i f) y E S=(f E S).bind λr=>y (E.set i (some r.1)) r.2:=by
  rw[Pp,Uu];cases f E S<;>rfl
@[simp high] theorem dG{y:Ex}:AY (Cb f) y E S=(f E S).bind λr=>y E r.2:=by
  rw[Pp,Rh];cases f E S<;>rfl
end
section
theorem mulL{i j:Int}(h: -18446744073709551616<i)(g:i<18446744073709551616):EJ i j=true:=by
 unfold EJ
 rw[mU]
 exact .inl (nT (by lia))
theorem mulR{i j:Int}(h: -18446744073709551616<j)(g:j<18446744073709551616):EJ i j=true:=by
 unfold EJ
 rw[mU,mU]
 exact .inr (.inl (nT (by lia)))
theorem Ge{n k:Nat}(h:n<2^k)(hk:k<=8000):n<Gx:=kT h (m9 (by decide) hk)
theorem Dv{n:Int}(h0:0<n)(h1:n<1152921504606846976):n.natAbs<Gx:=Ge (k:=60) (show n.natAbs<2^60 by lia) (by decide)
variable{S:Sto}
noncomputable def Qa(a b:Int):Int:=((sY a.natAbs b.natAbs:Nat):Int)
theorem J4{c:Ev}{b:Ex}{k:Nat}{E:En}:HH c b (k+1) E S=(c E S).bind λr=>match r.1 with
 | .bl true=>(b E r.2).bind λp=>match p.1 with
   | .nx=>HH c b k p.2.1 p.2.2
   | .ret w=>Gc (.ret w,p.2)
 | .bl false=>Gc (.nx,E,r.2)
 |_=>none:=rfl
theorem Vm{c:Ev}{b:Ex}{k:Nat}{E E2:En}{S1 S2:Sto}(e1:c E S=Gc (.bl true,S1))(e2:b E S1=Gc (.nx,E2,S2)):HH c b (k+1) E S=HH c b k E2 S2:=by
 rw[J4,e1]
 show(b E S1).bind _=_
 rw[e2]
 rfl
theorem VF{c:Ev}{b:Ex}{k:Nat}{E:En}{S1:Sto}(e1:c E S=Gc (.bl false,S1)):HH c b (k+1) E S=Gc (.nx,E,S1):=by
 rw[J4,e1]
 rfl
theorem KN:∀(k:Nat) (x y:Nat),y<k->HH (eOp (o2 wGt) [eV 1,eC (.int 0)]) (V5 0 1 (eV 1) (eOp (o2 OM) [eV 0,eV 1])) k [Gc (.int x),Gc (.int y)] S=Gc (.nx,[Gc (.int (sY x y:Nat)),Gc (.int 0)],S)
 |0,x,y,h=>absurd h (Nat.not_lt_zero _)
 |k+1,x,y,h=>by
  by_cases hy:y=0
  .subst hy
   rw[VF (S1:=S) (by simp)]
   simp
  .have ih:=KN k y (x % y) (by have:=xT x (sF hy);lia)
   rw[show((x % y:Nat):Int)=(x:Int) % (y:Int) by lia]at ih
   have hy4:0<y:=sF hy
   rw[Vm (S1:=S) (S2:=S) (E2:=[Gc (.int y),Gc (.int ((x:Int) % (y:Int)))]) (by simp[hy4]) (by simp[hy4]),ih]
   rw[zU x y,Nat.gcd_rec y x,zU]
theorem R3(a b:Int)(ha:0<=a)(hb:0<=b):FU [.int a,.int b] S=Gc (.int (Qa a b),S):=by
 have:=KN (S:=S) (b.natAbs+2) a.natAbs b.natAbs (by lia)
 have e1:((a.natAbs:Nat):Int)=a:=by lia
 have e2:((b.natAbs:Nat):Int)=b:=by lia
 rw[e1,e2]at this
 simp[FU,JI,SJ,Yc,this,Qa]
noncomputable def lowP(t b:Int):Int×Int:=(t / Qa t b,b / Qa t b)
theorem U2{t b:Int}(h:0<b):0<Qa t b:=by
 unfold Qa
 have:0<sY t.natAbs b.natAbs:=Nat.gcd_pos_of_pos_right _ (by lia)
 lia
theorem ZH{t b:Int}(h:0<b):(Qa t b).natAbs<=b.natAbs:=by
 unfold Qa
 have:sY t.natAbs b.natAbs<=b.natAbs:=Nat.gcd_le_right _ (by lia)
 lia
noncomputable def amD(p:Int×Int):D:=.tup [.int p.1,.int p.2]
theorem Vz{t b:Int}:Qa (t.natAbs:Int) b=Qa t b:=by
 unfold Qa
 rw[mz]
theorem OU{t b:Int}(h:0<b)(hb:b.natAbs<Gx):Bd [.int t,.int b] S=Gc (amD (lowP t b),S):=by
 have h1:=U2 (t:=t) h
 have h2:(Qa t b).natAbs<Gx:=mh (ZH h) hb
 have h3:=R3 (S:=S) (t.natAbs:Int) b (by lia) (by lia)
 rw[Vz]at h3
 simp[Bd,LP,h3,h1,h2,amD,lowP]
noncomputable def aD(q:Rat):D:=.tup [.int q.num,.int q.den]
def Sz(k:Nat)(q:Rat):Prop:=q.num.natAbs<2^k/\q.den<2^k
theorem FL(q:Rat):(q.num:Rat) / (q.den:Rat)=q:=by
 rw[<-wU,Rat.mkRat_self]
theorem Ki(q:Rat):(q.den:Rat)≠0:=by
 have:=q.den_nz
 exact_mod_cast this
theorem KH(t:Int)(n:Nat)(h:0<n):((t:Rat) / (n:Rat)).num=t / (sY t.natAbs n:Nat)/\((t:Rat) / (n:Rat)).den=n / sY t.natAbs n:=by
 have e:(t:Rat) / (n:Rat)=mkRat t n:=by rw[wU]
 rw[e,Rat.mkRat_def,dif_neg (by lia),Rat.normalize_eq]
 exact⟨rfl,rfl⟩
theorem Oq{t b:Int}(h:0<b):amD (lowP t b)=aD ((t:Rat) / (b:Rat)):=by
 obtain⟨n,rfl⟩:∃n:Nat,b=n:=⟨b.natAbs,by lia⟩
 obtain⟨h1,h2⟩:=KH t n (by lia)
 unfold amD aD lowP Qa
 rw[show(((n:Nat):Int):Rat)=((n:Nat):Rat)from rfl,h1,h2]
 simp
theorem Lp{t b:Int}{k:Nat}(h:0<b)(ht:t.natAbs<2^k)(hb:b.natAbs<2^k):Sz k ((t:Rat) / (b:Rat)):=by
 obtain⟨n,rfl⟩:∃n:Nat,b=n:=⟨b.natAbs,by lia⟩
 obtain⟨h1,h2⟩:=KH t n (by lia)
 unfold Sz
 rw[show(((n:Nat):Int):Rat)=((n:Nat):Rat)from rfl,h1,h2]
 exact⟨mh (Int.natAbs_ediv_le_natAbs _ _) ht,mh (wx _ _) (by simpa using hb)⟩
theorem Fj{a b j k:Nat}(ha:a<2^j)(hb:b<2^k):a*b<2^(j+k):=by
 rw[Nat.pow_add]
 exact Nat.mul_lt_mul'' ha hb
theorem Hu{i j:Int}{k m:Nat}(hi:i.natAbs<2^k)(hj:j.natAbs<2^m)(h:k<=60000)(g:m<=60000):EJ i j=true:=by
 unfold EJ
 rw[mU,mU,kn]
 exact .inr (.inr ⟨nT (kT hi (m9 (by decide) h)),nT (kT hj (m9 (by decide) g))⟩)
theorem den_pos(q:Rat):0<(q.den:Int):=by have:=q.den_pos;lia
theorem aM{x:Int}{n m:Nat}(h:x.natAbs<2^n)(g:n<=m):x.natAbs<2^m:=kT h (m9 (by decide) g)
section
variable{p q:Rat}{j k:Nat}
theorem F1(hp:Sz j p)(hq:Sz k q):(p.num*q.den+q.num*p.den).natAbs<2^(j+k+1)/\((p.den:Int)*q.den).natAbs<2^(j+k)/\(p.num*q.den-q.num*p.den).natAbs<2^(j+k+1):=by
 have a1:=Fj hp.1 hq.2
 have a2:=Fj hq.1 hp.2
 have a3:=Fj hp.2 hq.2
 rw[yw k j]at a2
 have e:2^(j+k+1)=2^(j+k)+2^(j+k):=by rw[vq];lia
 refine⟨?_,?_,?_⟩
 .refine mh (vt _ _) ?_
  rw[qA,qA,mz,mz,e]
  lia
 .rw[qA,mz,mz];exact a3
 .refine mh (Int.natAbs_sub_le _ _) ?_
  rw[qA,qA,mz,mz,e]
  lia
theorem Pf:(((p.num*q.den+q.num*p.den:Int):Rat) / (((p.den:Int)*q.den:Int):Rat))=p+q:=by
 have h1:=FL p;have h2:=FL q
 have d1:=Ki p;have d2:=Ki q
 push_cast
 grind
theorem Vh:(((p.num*q.den-q.num*p.den:Int):Rat) / (((p.den:Int)*q.den:Int):Rat))=p-q:=by
 have h1:=FL p;have h2:=FL q
 have d1:=Ki p;have d2:=Ki q
 push_cast
 grind
theorem OA:(((p.num*q.num:Int):Rat) / (((p.den:Int)*q.den:Int):Rat))=p*q:=by
 have h1:=FL p;have h2:=FL q
 have d1:=Ki p;have d2:=Ki q
 push_cast
 grind
theorem bW(hp:Sz j p)(hq:Sz k q):Sz (j+k+1) (p+q):=by
 rw[<-Pf]
 have:=F1 hp hq
 exact Lp (oW (den_pos _) (den_pos _)) this.1 (aM this.2.1 (by lia))
theorem bK(hp:Sz j p)(hq:Sz k q):Sz (j+k+1) (p-q):=by
 rw[<-Vh]
 have:=F1 hp hq
 exact Lp (oW (den_pos _) (den_pos _)) this.2.2 (aM this.2.1 (by lia))
theorem Nh(hp:Sz j p)(hq:Sz k q):Sz (j+k) (p*q):=by
 rw[<-OA]
 have:=F1 hp hq
 exact Lp (oW (den_pos _) (den_pos _)) (by rw[qA];exact Fj hp.1 hq.1) this.2.1
end
section
variable{p q:Rat}{j k:Nat}
theorem XG(hp:Sz j p)(hq:Sz k q)(hj:j+k<=7990):EJ p.num q.den=true/\EJ q.num p.den=true/\EJ p.den q.den=true/\EJ p.num q.num=true:=by
 refine⟨Hu hp.1 (by simpa using hq.2) (by lia) (by lia),Hu hq.1 (by simpa using hp.2) (by lia) (by lia),Hu (by simpa using hp.2) (by simpa using hq.2) (by lia) (by lia),Hu hp.1 hq.1 (by lia) (by lia)⟩
theorem Pq(hp:Sz j p)(hq:Sz k q)(hj:j+k<=7990):B0 [aD p,aD q] S=Gc ((aD (p+q)),S):=by
 obtain⟨m1,m2,m3,m4⟩:=XG hp hq (by lia)
 have b:=F1 hp hq
 have l:=OU (S:=S) (t:=p.num*q.den+q.num*p.den) (b:=p.den*q.den) (oW (den_pos _) (den_pos _)) (Ge b.2.1 (by lia))
 rw[Oq (oW (den_pos _) (den_pos _)),Pf]at l
 simp only[aD]at l⊢
 simp[B0,Ls,m1,m2,m3,l]
theorem Ik(hp:Sz j p)(hq:Sz k q)(hj:j+k<=7990):Av [aD p,aD q] S=Gc ((aD (p*q)),S):=by
 obtain⟨m1,m2,m3,m4⟩:=XG hp hq (by lia)
 have b:=F1 hp hq
 have l:=OU (S:=S) (t:=p.num*q.num) (b:=p.den*q.den) (oW (den_pos _) (den_pos _)) (Ge b.2.1 (by lia))
 rw[Oq (oW (den_pos _) (den_pos _)),OA]at l
 simp only[aD]at l⊢
 simp[Av,KJ,m3,m4,l]
theorem bJ:aD (-q)=.tup [.int (0-q.num),.int q.den]:=by
 unfold aD
 rw[show(-q).num=0-q.num by simp,show(-q).den=q.den by simp]
theorem bV(hq:Sz k q):Sz k (-q):=by
 unfold Sz
 rw[show(-q).num= -q.num by simp,show(-q).den=q.den by simp,Int.natAbs_neg]
 exact hq
theorem XU(hp:Sz j p)(hq:Sz k q)(hj:j+k<=7990):C5 [aD p,aD q] S=Gc ((aD (p-q)),S):=by
 have l:=Pq (S:=S) hp (bV hq) hj
 rw[bJ]at l
 rw[Rat.sub_eq_add_neg]
 simp only[aD]at l⊢
 simp at l
 simp[C5,Lk,l]
end
theorem UP{t b:Int}(h:0<b)(hb:b.natAbs<Gx):Bd [.int t,.int b] S=Gc ((aD (t / b)),S):=by
 rw[OU h hb,Oq h]
theorem QT{a b:Int}{k:Nat}(ha:a.natAbs<2^k)(hb:b.natAbs<2^k):(a+b).natAbs<2^(k+1):=by
 have e:2^(k+1)=2^k+2^k:=by rw[vq];lia
 have:=vt a b
 lia
section
variable{p q:Rat}{w m:Int}{j k n:Nat}
end
end
section
variable{S:Sto}{p:Nat}
theorem Wx{r:Wp D}(h:p<S.length):dr (S.set p (.lst r)) (.ref p)=.own r:=Ap (ko h)
def Pen(ds:Wp D):Prop:=∃a b c d:Int,ds=[.int a,.int b,.int c,.int d]/\0<=d/\d<1000000007
def CP(p:Nat)(S:Sto):Prop:=∃ds,S[p]?=Gc (.lst ds)/\Pen ds
structure Pn(p:Nat)(S S':Sto):Prop where
 same:Cp [p] S S'
 pen:CP p S'
theorem Pn.trans{S S' S2:Sto}(h:Pn p S S')(g:Pn p S' S2):Pn p S S2:=⟨h.same.trans g.same,g.pen⟩
theorem Pn.get{S S':Sto}(h:Pn p S S'){n:Nat}{c:Cl}(e:S[n]?=Gc c)(ha:n≠p):S'[n]?=Gc c:=h.same.get e (by simpa using ha)
theorem Pn.refl(h:CP p S):Pn p S S:=⟨.refl,h⟩
theorem CP.lt(h:CP p S):p<S.length:=by obtain⟨ds,e,_⟩:=h;exact Ag e
theorem CP.app(h:CP p S)(T:Sto):CP p (S++T):=by obtain⟨ds,e,hp⟩:=h;exact⟨ds,by rw[kP (Ag e)];exact e,hp⟩
theorem Af(h:CP p S){n:Int}(h0:0<n)(h1:n<1152921504606846976):∃r S',AH [.ref p,.int n] S=Gc (.int r,S')/\0<=r/\r<n/\Pn p S S':=by
 obtain⟨ds,hp,a,b,c,d,rfl,hd0,hd1⟩:=h
 have hl:=Ag hp
 have hs:=Dv h0 h1
 have hr:=Ap hp
 have hc:=AR hp
 by_cases hb:b=1/\0<a
 .obtain⟨rfl,ha⟩:=hb
  refine⟨a % n,S.set p (.lst [.int (a / n),.int 1,.int c,.int d]),?_,nX _ (by lia),pN _ h0,.set (by simp),_,ko hl,_,_,_,_,rfl,hd0,hd1⟩
  simp[AH,G5,ha,h0,hs,hr,hc]
 .have m1:EJ (d+17) (69621+2*(c+1))=true:=mulL (by lia) (by lia)
  have m2:EJ 2 (c+1)=true:=mulL (by decide) (by decide)
  generalize ht:(d+17)*(69621+2*(c+1)) % 2147483647=t at*
  have t0:0<=t:=by rw[<-ht];exact nX _ (by decide)
  have t1:t<2147483647:=by rw[<-ht];exact pN _ (by decide)
  have m3:EJ t t=true:=mulL (by lia) (by lia)
  have m4:EJ 40503 (c+1)=true:=mulL (by decide) (by decide)
  generalize hu:(t*t+40503*(c+1)+5) % 2147483629=u at*
  have u0:0<=u:=by rw[<-hu];exact nX _ (by decide)
  have u1:u<2147483629:=by rw[<-hu];exact pN _ (by decide)
  have m5:EJ u 48271=true:=mulL (by lia) (by lia)
  have d32:(32:Int).natAbs<Gx:=Dv (by decide) (by decide)
  have d32':(32:Nat)<Gx:=d32
  refine⟨u*48271 % 2147483647 / 32 % n,S.set p (.lst [.int a,.int b,.int (c+1),.int d]),?_,nX _ (by lia),pN _ h0,.set (by simp),_,ko hl,_,_,_,_,rfl,hd0,hd1⟩
  by_cases hb1:b=1
  .subst hb1
   have ha:¬0<a:=λz=>hb ⟨rfl,z⟩
   simp[AH,G5,ha,h0,hs,hr,hc,Wx,hl,m1,m2,m3,m4,m5,ht,hu,d32']
  .have hb2:(b==1)=false:=by simpa using hb1
   simp[AH,G5,hb2,h0,hs,hr,hc,Wx,hl,m1,m2,m3,m4,m5,ht,hu,d32']
theorem bY(c:Int):∃p S',Gk [.int c] S=Gc (.ref p,S')/\CP p S'/\Cp [] S S'/\S.length<=p:=by
 refine⟨S.length,S++[.lst [.int c,.int (if(10:Int)^18<=c then 1 else 0),.int 0,.int (c % 1000000007)]],?_,⟨_,kz,_,_,_,_,rfl,nX _ (by decide),pN _ (by decide)⟩,.app,kR _⟩
 simp[Gk,OC]
theorem Ez{gs:Gd}{t:Tf}{c f:Ev}{acc:Wp D}{E:En}(h:gOk gs S):CH gs t c f [] acc E S=Gc (acc,S):=by
 unfold CH
 rw[lF h]
theorem Lj {gs : Gd} {t : Tf} {c f : Ev} {d : D} {ds acc : Wp D} {E : En} (h : gOk gs S) (hz : acc.length < sizeLine) : CH gs t c f (d :: ds) acc E S = (t d E S).bind fun E1 => (c E1 S).bind fun r => match r.1 with
      | .bl true => (f E1 r.2).bind fun p => CH gs t c f ds (acc ++ [p.1]) E1 p.2
      | .bl false => CH gs t c f ds acc E1 r.2
      | _ => none := by
  rw [CH, lF h, lF hz]
  all_goals rfl
theorem Hf{gs:Gd}{t:Tf}{c f:Ev}{d:D}{ds acc:Wp D}{E E1:En}{S1:Sto}(h:gOk gs S)(hz:acc.length<sizeLine)(e1:t d E S=Gc E1)(e2:c E1 S=Gc (.bl true,S1)):CH gs t c f (d::ds) acc E S=(f E1 S1).bind λp=>CH gs t c f ds (acc++[p.1]) E1 p.2:=by
 rw[Lj h hz,e1]
 show(c E1 S).bind _=_
 rw[e2]
 rfl
theorem HR{gs:Gd}{t:Tf}{c f:Ev}{d:D}{ds acc:Wp D}{E E1:En}{S1:Sto}(h:gOk gs S)(hz:acc.length<sizeLine)(e1:t d E S=Gc E1)(e2:c E1 S=Gc (.bl false,S1)):CH gs t c f (d::ds) acc E S=CH gs t c f ds acc E1 S1:=by
 rw[Lj h hz,e1]
 show(c E1 S).bind _=_
 rw[e2]
 rfl
theorem Mt{gs:Gd}{t:Tf}{f:Ev}{C:En}{m:Nat}{I:Sto->Prop}{R:D->D->Prop}(hg:∀S,I S->gOk gs S):∀{ds acc:Wp D} {os:En} {S:Sto},os.length=m->I S->acc.length+ds.length<=sizeLine->(∀d∈ds,∀os S,os.length=m->I S->∃us y S',us.length=m/\t d (C++os) S=Gc (C++us)/\f (C++us) S=Gc (y,S')/\I S'/\R d y)->∃ys S',CH gs t Di f ds acc (C++os) S=Gc (acc++ys,S')/\I S'/\ys.length=ds.length/\Paired R ds ys
 | [],acc,os,S,ho,hI,hz,h=>⟨[],S,by rw[Ez (hg S hI)];simp,hI,rfl,.nil⟩
 |d::ds,acc,os,S,ho,hI,hz,h=>by
  obtain⟨us,y,S1,hu,e1,e2,I1,r1⟩:=h d kc os S ho hI
  obtain⟨ys,S2,e3,I2,l2,r2⟩:=Mt hg (ds:=ds) (acc:=acc++[y]) (os:=us) (S:=S1) hu I1 (by simp at hz ⊢; lia) λd' hd=>h d' (kU _ hd)
  refine⟨y::ys,S2,?_,I2,by simp[l2],.cons r1 r2⟩
  rw[Hf (hg S hI) (by simp at hz;lia) e1 Gq,e2,A3,e3]
  simp
theorem comp_map{gs:Gd}{t:Tf}{f:Ev}{C:En}{m:Nat}{g:D->D}{S:Sto}(hg:gOk gs S):∀{ds acc:Wp D} {os:En},os.length=m->acc.length+ds.length<=sizeLine->(∀d∈ds,∀os,os.length=m->∃us,us.length=m/\t d (C++os) S=Gc (C++us)/\f (C++us) S=Gc (g d,S))->CH gs t Di f ds acc (C++os) S=Gc (acc++ds.map g,S)
 | [],acc,os,ho,hz,h=>by rw[Ez hg];simp
 |d::ds,acc,os,ho,hz,h=>by
  obtain⟨us,hu,e1,e2⟩:=h d kc os ho
  rw[Hf hg (by simp at hz;lia) e1 Gq,e2,A3]
  rw[comp_map hg hu (by simp at hz ⊢; lia) λd' hd=>h d' (kU _ hd)]
  simp
theorem HM{gs:Gd}{t:Tf}{b:Ex}{I:Wp D->En->Sto->Prop}(hg:∀ds E S,I ds E S->gOk gs S):∀{ds:Wp D} {E:En} {S:Sto},I ds E S->(∀d ds E S,I (d::ds) E S->∃E1 E2 S2,t d E S=Gc E1/\b E1 S=Gc (.nx,E2,S2)/\I ds E2 S2)->∃E' S',Ij gs t b ds E S=Gc (.nx,E',S')/\I [] E' S'
 | [],E,S,hI,h=>⟨E,S,FH (hg _ _ _ hI),hI⟩
 |d::ds,E,S,hI,h=>by
  obtain⟨E1,E2,S2,e1,e2,I2⟩:=h d ds E S hI
  obtain⟨E',S',e3,I3⟩:=HM hg I2 h
  exact⟨E',S',by rw[CM (hg _ _ _ hI),e1];simp[e2,e3],I3⟩
theorem pick{xs:Wp D}{r:Int}(h0:0<=r)(h1:r<xs.length):∃x,atI xs r=Gc x/\x∈xs:=⟨_,Xh h0 h1,ny _⟩
theorem IX{α β:Type}{P:β->Prop}:∀{xs:Wp α} {ys:Wp β},Paired (λ_ y=>P y) xs ys->∀y∈ys,P y
 |_,_,.nil,y,h=>by cases h
 |_,_,.cons r t,y,h=>by
  rcases kX.mp h with h|h
  .rw[h];exact r
  .exact IX t y h
theorem F6{lo:Int}{n:Nat}:(Kx lo n).length=n:=by simp[Kx]
end
def Ok(G B:Nat)(r:Rat):Prop:=∃z:Nat,r*(G:Rat)=(z:Rat)/\z<=B
theorem La{n:Nat}(h:0<n):(n:Rat)≠0:=by
 have:n≠0:=by lia
 exact_mod_cast this
theorem Ok.sz{G B k:Nat}{r:Rat}(h:Ok G B r)(hG:0<G)(g:G<2^k)(b:B<2^k):Sz k r:=by
 obtain⟨z,e,hz⟩:=h
 have e2:r=((z:Int):Rat) / ((G:Int):Rat):=by
  have:=La hG
  rw[show(((z:Nat):Int):Rat)=(z:Rat)from rfl,show(((G:Nat):Int):Rat)=(G:Rat)from rfl,<-e]
  grind
 rw[e2]
 exact Lp (by lia) (by simpa using mh hz b) (by simpa using g)
theorem Ok.up{G B t B':Nat}{r:Rat}(h:Ok G B r)(hB:B*t<=B'):Ok (G*t) B' r:=by
 obtain⟨z,e,hz⟩:=h
 refine⟨z*t,?_,kY (nB t hz) hB⟩
 push_cast
 rw[<-e]
 grind
theorem Ok.zero{G B:Nat}:Ok G B 0:=⟨0,by simp,mI _⟩
theorem Ok.one{G B:Nat}(h:G<=B):Ok G B 1:=⟨G,by simp,h⟩
theorem Ok.mix{G B a b t:Nat}{r o:Rat}(hr:Ok G B r)(ho:Ok G B o)(ht:a+b=t)(h0:0<t):Ok (G*t) (B*t) ((r*(a:Rat)+o*(b:Rat)) / (t:Rat)):=by
 obtain⟨z,e1,h1⟩:=hr
 obtain⟨y,e2,h2⟩:=ho
 refine⟨z*a+y*b,?_,?_⟩
 .have:=La h0
  push_cast
  rw[<-e1,<-e2]
  grind
 .rw[<-ht,Nat.mul_add]
  exact Nat.add_le_add (nB a h1) (nB b h2)
structure Tr where
 p:Nat
 k:Nat
 b:Nat
 ho:Wp Rat
 h:Int
 l:Int
structure Ld where
 k:Nat
 n:Int
 ow:Wp Rat
structure Stt where
 AE:Wp Ld
 hold:Wp Rat
 nums:Wp Int
inductive AS where
 |Bn (p k:Nat) (n:Int)
 |Mz (a b:Nat)
 |swap (l:Nat) (g:Int) (k:Nat) (n:Int)
 |BO (t:Int) (l:Nat) (g:Int) (k:Nat) (n:Int)
 |Ga (l:Nat) (n:Int)
 |thr (l:Nat) (n:Int) (ws:Wp Int)
 |Jk (p q:Nat) (s:Rat)
noncomputable def shD(rs:Wp Rat):D:=.tup (rs.map aD)
noncomputable def Tr.d(t:Tr):D:=.tup [.int t.p,.int t.k,.int t.b,shD t.ho,.int t.h,.int t.l]
noncomputable def Ld.d(l:Ld):D:=.tup [.int l.k,.int l.n,shD l.ow]
noncomputable def AS.d:AS->D
 | .Bn p k n=>.tup [.str "bring",.int p,.int k,.int n]
 | .Mz a b=>.tup [.str "pool",.int a,.int b]
 | .swap l g k n=>.tup [.str "swap",.int l,.int g,.int k,.int n]
 | .BO t l g k n=>.tup [.str "trade",.int t,.int l,.int g,.int k,.int n]
 | .Ga l n=>.tup [.str "spoil",.int l,.int n]
 | .thr l n ws=>.tup [.str "throw",.int l,.int n,.tup (ws.map .int)]
 | .Jk p q s=>.tup [.str "sell",.int p,.int q,aD s]
noncomputable def IH(x:Rat)(os ss:Wp Rat):Wp Rat:=tm (λs o=>s*(1-x)+o*x) ss os
noncomputable def IP(p q:Nat)(s:Rat)(ss:Wp Rat):Wp Rat:=(ss.set p (ss.getD p 0-ss.getD p 0*s)).set q (ss.getD q 0+ss.getD p 0*s)
noncomputable def EF(n m:Int)(ss os:Wp Rat):Wp Rat:=tm (λs o=>(s*n+o*m) / (n+m:Int)) ss os
noncomputable def Ef(t:Tr)(ls:Wp Ld)(ws:Wp Int):Int:=(ls.map λl=>l.n*ws.getD l.k 0).sum+t.b*ws.getD t.k 0
noncomputable def Ja(t:Tr)(ls:Wp Ld)(l:Nat)(n:Int)(ws:Wp Int):Rat:=((n*ws.getD ((ls[l]?.map (·.k)).getD 0) 0:Int):Rat) / (Ef t ls ws:Rat)
noncomputable def AQ(ls:Wp Ld)(l:Nat):Ld:=ls.getD l ⟨0,0,[]⟩
noncomputable def less(ls:Wp Ld)(l:Nat)(n:Int):Wp Ld:=ls.set l {AQ ls l with n:=(AQ ls l).n-n}
noncomputable def Qe(p i:Nat):Wp Rat:=(lT p).map λj=>if j=i then 1 else 0
noncomputable def step(t:Tr)(s:Stt):AS->Stt
 | .Bn p k n=>{s with AE:=s.AE++[⟨k,n,Qe t.p p⟩]}
 | .Mz a b=>{s with AE:=less (less s.AE a (AQ s.AE a).n) b (AQ s.AE b).n++[⟨(AQ s.AE a).k,(AQ s.AE a).n+(AQ s.AE b).n,EF (AQ s.AE a).n (AQ s.AE b).n (AQ s.AE a).ow (AQ s.AE b).ow⟩]}
 | .swap l g k n=>{s with AE:=less s.AE l g++[⟨k,n,(AQ s.AE l).ow⟩]}
 | .BO u l g k n=>{s with AE:=less s.AE l g++[⟨k,n,(AQ s.AE l).ow⟩],nums:=s.nums++[u]}
 | .Ga l n=>{s with AE:=less s.AE l n}
 | .thr l n ws=>{s with AE:=(less s.AE l n).map λx=>{x with ow:=IH (Ja t s.AE l n ws) (AQ s.AE l).ow x.ow},hold:=IH (Ja t s.AE l n ws) (AQ s.AE l).ow s.hold}
 | .Jk p q x=>{s with AE:=s.AE.map λy=>{y with ow:=IP p q x y.ow},hold:=IP p q x s.hold}
def IU(t:Tr):Prop:=1<=t.p/\t.p<=4/\1<=t.k/\t.k<=5/\1<=t.b/\t.b<=20
def Can(t:Tr)(s:Stt):AS->Prop
 | .Bn p k n=>p<t.p/\k<t.k/\1<=n/\n<2^131
 | .Mz a b=>a≠b/\a<s.AE.length/\b<s.AE.length/\0<(AQ s.AE a).n/\0<(AQ s.AE b).n/\(AQ s.AE a).k=(AQ s.AE b).k
 | .swap l g k n=>l<s.AE.length/\1<=g/\g<=(AQ s.AE l).n/\k<t.k/\k≠(AQ s.AE l).k/\1<=n/\n<2^131
 | .BO u l g k n=>l<s.AE.length/\1<=g/\g<=(AQ s.AE l).n/\k<t.k/\k≠(AQ s.AE l).k/\1<=n/\n<2^131/\u∉s.nums/\0<=u/\u<=9
 | .Ga l n=>l<s.AE.length/\1<=n/\n<=(AQ s.AE l).n
 | .thr l n ws=>l<s.AE.length/\1<=n/\n<=(AQ s.AE l).n/\ws.length=t.k+1/\∀w∈ws,1<=w/\w<=99
 | .Jk p q x=>p≠q/\p<t.p/\q<t.p/\0<x.num/\x.num<=x.den/\x.den<=12
structure FC(t:Tr)(k:Nat)(s:Stt):Prop where
 len:s.AE.length<=4+k
 kind:∀l∈s.AE,l.k<t.k
 pcs:∀l∈s.AE,0<=l.n/\l.n<2^(131+k)
 own:∀l∈s.AE,l.ow.length=t.p
 hold:s.hold.length=t.p
 nm:s.nums.length<=k
 gb:∃G B:Nat,0<G/\G<=B/\B<2^(30+170*k)/\(∀l∈s.AE,∀r∈l.ow,Ok G B r)/\∀r∈s.hold,Ok G B r
theorem FC.sz{t:Tr}{k:Nat}{s:Stt}(h:FC t k s):(∀l∈s.AE,∀r∈l.ow,Sz (30+170*k) r)/\∀r∈s.hold,Sz (30+170*k) r:=by
 obtain⟨G,B,g0,gb,b,h1,h2⟩:=h.gb
 exact⟨λl hl r hr=>(h1 l hl r hr).sz g0 (mh gb b) b,λr hr=>(h2 r hr).sz g0 (mh gb b) b⟩
theorem BL{ls:Wp Ld}{l:Nat}(h:l<ls.length):AQ ls l∈ls:=by
 unfold AQ
 rw[kg,kS h]
 exact ny h
theorem GJ{ls:Wp Ld}{l:Nat}(h:l<ls.length):ls[l]?=Gc (AQ ls l):=by
 unfold AQ
 rw[kg,kS h]
 rfl
theorem MP{ls:Wp Ld}{l:Nat}{n:Int}{x:Ld}(h:x∈less ls l n)(hl:l<ls.length):x∈ls\/x={AQ ls l with n:=(AQ ls l).n-n}:=by
 unfold less at h
 rcases nK h with h|h
 .exact .inl h
 .exact .inr h
theorem Bl{ls:Wp Ld}{l:Nat}{n:Int}:(less ls l n).length=ls.length:=by simp[less]
section
variable{S:Sto}{p:Nat}
theorem OV{P:Int->Prop}:∀{ys:Wp D},(∀y∈ys,∃i:Int,y=.int i/\P i)->∃ns:Wp Int,ys=ns.map D.int/\∀n∈ns,P n
 | [],_=>⟨[],rfl,λn h=>by cases h⟩
 |y::ys,h=>by
  obtain⟨i,rfl,hi⟩:=h y kc
  obtain⟨ns,rfl,hn⟩:=OV (P:=P) (ys:=ys) λz hz=>h z (kU _ hz)
  exact⟨i::ns,rfl,λn hn'=>by
   rcases kX.mp hn' with e|e
   .rw[e];exact hi
   .exact hn n e⟩
theorem NQ{ns:Wp Int}(h:∀n∈ns,0<=n/\n<=8):0<=ns.sum/\ns.sum<=8*ns.length/\∀n∈ns,n<=ns.sum:=by
 induction ns with
 |nil=>simp
 |cons a l ih=>
  have h1:=h a kc
  obtain⟨i1,i2,i3⟩:=ih λn hn=>h n (kU _ hn)
  rw[pX,l7]
  refine⟨by lia,by push_cast;lia,λn hn=>?_⟩
  rcases kX.mp hn with e|e
  .lia
  .have:=i3 n e;lia
theorem QD (h : CP p S) {n : Nat} (hn : n ≤ 20) : ∃ (ns : Wp Int) (S' : Sto), CH [] (tNm 1) Di (eOp (o2 wIx) [(IC [(eC (.int 0)), (eC (.int 1)), (AJ AH [(eV 0), (eC (.int 4))]), (AJ AH [(eV 0), (eC (.int 9))])]), (AJ AH [(eV 0), (eC (.int 4))])]) (Kx 0 n) [] [Gc (.ref p), none] S = Gc (ns.map D.int, S') /\ Pn p S S' /\ ns.length = n /\ ∀ i ∈ ns, 0 ≤ i /\ i ≤ 8 := by
  obtain ⟨ys, S', e, hI, l, r⟩ := Mt (gs := []) (t := tNm 1) (f := eOp (o2 wIx) [(IC [(eC (.int 0)), (eC (.int 1)), (AJ AH [(eV 0), (eC (.int 4))]), (AJ AH [(eV 0), (eC (.int 9))])]), (AJ AH [(eV 0), (eC (.int 4))])]) (C := [Gc (.ref p)]) (m := 1) (I := Pn p S) (R := fun _ y => ∃ i : Int, y = .int i /\ 0 ≤ i /\ i ≤ 8)
    (fun _ _ => As) (ds := Kx 0 n) (acc := []) (os := [none]) rfl (Pn.refl h) (by rw [F6]; simp; exact AN (by lia)) fun d _ os S0 ho I0 => by
      obtain ⟨o, rfl⟩ := Qh ho
      obtain ⟨r1, S1, e1, a1, b1, p1⟩ := Af I0.pen (n := 4) (by decide) (by decide)
      obtain ⟨r2, S2, e2, a2, b2, p2⟩ := Af p1.pen (n := 9) (by decide) (by decide)
      obtain ⟨r3, S3, e3, a3, b3, p3⟩ := Af p2.pen (n := 4) (by decide) (by decide)
      obtain ⟨x, ex, hx⟩ := pick (xs := [.int 0, .int 1, .int r1, .int r2]) (r := r3) a3 (by simpa using b3)
      refine ⟨[Gc d], x, S3, rfl, by simp, by simp [e1, e2, e3, ex], ((I0.trans p1).trans p2).trans p3, ?_⟩
      simp only [kX, k7, mZ] at hx
      rcases hx with rfl | rfl | rfl | rfl
      · exact ⟨0, rfl, by decide, by decide⟩
      · exact ⟨1, rfl, by decide, by decide⟩
      · exact ⟨r1, rfl, by lia, by lia⟩
      · exact ⟨r2, rfl, by lia, by lia⟩
  obtain ⟨ns, rfl, hns⟩ := OV (IX r)
  exact ⟨ns, S', by simpa using e, hI, by simpa [F6] using l, hns⟩
noncomputable def HI(ns:Wp Int):Wp Rat:=ns.map λ(n:Int)=>(n:Rat) / (ns.sum:Rat)
theorem KG{ns:Wp Int}(h:∀n∈ns,0<=n/\n<=8)(hs:0<ns.sum):∀r∈HI ns,Ok ns.sum.toNat ns.sum.toNat r:=by
 intro r hr
 obtain⟨n,hn,rfl⟩:=lI.mp hr
 have h1:=h n hn
 have h2:=(NQ h).2.2 n hn
 refine⟨n.toNat,?_,by lia⟩
 have e1:((ns.sum.toNat:Nat):Rat)=(ns.sum:Rat):=by
  have:((ns.sum.toNat:Nat):Int)=ns.sum:=by lia
  exact congrArg (λz:Int=>(z:Rat)) this
 have e2:((n.toNat:Nat):Rat)=(n:Rat):=by
  have:((n.toNat:Nat):Int)=n:=by lia
  exact congrArg (λz:Int=>(z:Rat)) this
 rw[e1,e2]
 have:(ns.sum:Rat)≠0:=by
  intro z
  have:=qe.mp z
  lia
 grind
theorem Qk{s:Rat}:∀{ns:Wp Int},(ns.map λ(n:Int)=>(n:Rat) / s).sum=(ns.sum:Rat) / s
 | []=>by simp;grind
 |n::ns=>by
  rw[kq,pX,pX,Qk (ns:=ns)]
  push_cast
  grind
theorem N0{ns:Wp Int}(hs:0<ns.sum):(HI ns).sum=1:=by
 unfold HI
 rw[Qk]
 have:(ns.sum:Rat)≠0:=by
  intro z
  have:=qe.mp z
  lia
 grind
theorem PC{ns:Wp Int}{q:Nat}(hq:S[q]?=Gc (.lst (ns.map D.int)))(hl:ns.length<=20)(hn:∀n∈ns,0<=n/\n<=8)(hs:0<ns.sum):CH [(q,ns.map D.int)] (tNm 1) Di (AJ Bd [eV 1,eOp (o1 Xd) [eV 0]]) (ns.map D.int) [] [Gc (.ref q),none] S=Gc ((HI ns).map aD,S):=by
 obtain⟨s1,s2,s3⟩:=NQ hn
 have:=comp_map (gs:=[(q,ns.map D.int)]) (t:=tNm 1) (f:=AJ Bd [eV 1,eOp (o1 Xd) [eV 0]]) (C:=[Gc (.ref q)]) (m:=1) (g:=λd=>match d with| .int n=>aD ((n:Rat) / (ns.sum:Rat))|d=>d) (S:=S) (λg hg=>by rw[kr.mp hg];exact AR hq) (ds:=ns.map D.int) (acc:=[]) (os:=[none]) rfl (by simp;exact AN (by lia)) λd hd os ho=>by
  obtain⟨o,rfl⟩:=Qh ho
  obtain⟨i,hi,rfl⟩:=lI.mp hd
  have m:=UP (S:=S) (t:=i) hs (Dv (by lia) (by lia))
  exact⟨[Gc (.int i)],rfl,by simp,by simp[Ap hq,Ff,m]⟩
 have e2:(ns.map D.int).map (λd=>match d with| .int n=>aD ((n:Rat) / (ns.sum:Rat))|d=>d)=(HI ns).map aD:=by
  unfold HI
  rw[mC,mC]
  rfl
 rw[e2]at this
 simpa using this
theorem PJ(h:CP p S){n:Nat}(h1:1<=n)(h2:n<=4):∃rs S',Cy [.ref p,.int n] S=Gc (shD rs,S')/\Pn p S S'/\(rs.length=n/\rs.sum=1)/\∃G:Nat,0<G/\G<=32/\∀r∈rs,Ok G G r:=by
 obtain⟨ns,S1,e1,p1,l1,i1⟩:=QD (n:=n) h (by lia)
 obtain⟨s1,s2,s3⟩:=NQ i1
 have hq:(S1++[Cl.lst (ns.map D.int)])[S1.length]?=Gc (.lst (ns.map D.int)):=kz
 have pp:CP p (S1++[Cl.lst (ns.map D.int)]):=p1.pen.app _
 have hlt:=p1.pen.lt
 have r1:IL (n:Int)=true:=Dp (by lia) (by lia)
 by_cases hz:ns.sum=0
 .obtain⟨r,S2,e2,a2,b2,p2⟩:=Af pp (n:=n) (by lia) (by lia)
  have hq2:S2[S1.length]?=Gc (.lst (ns.map D.int)):=p2.get hq (by lia)
  have hn':∀x∈ns.set r.toNat 1,0<=x/\x<=8:=λx hx=>by
   rcases nK hx with hx|rfl
   .exact i1 x hx
   .exact⟨by decide,by decide⟩
  have hs':0<(ns.set r.toNat 1).sum:=by
   have:=(NQ hn').2.2 1 (List.mem_set (by lia) 1)
   lia
  have hq3:(S2.set S1.length (.lst ((ns.set r.toNat 1).map D.int)))[S1.length]?=Gc (.lst ((ns.set r.toNat 1).map D.int)):=ko (Ag hq2)
  have e3:=PC hq3 (by simp;lia) hn' hs'
  have ix:ixN ns.length r=Gc r.toNat:=Po a2 (by lia)
  refine⟨HI (ns.set r.toNat 1),S2.set S1.length (.lst ((ns.set r.toNat 1).map D.int)),?_,⟨?_,?_⟩,⟨by simp[HI,l1],N0 hs'⟩,_,(show 0<(ns.set r.toNat 1).sum.toNat by lia),?_,KG hn' hs'⟩
  .have sq3:=DZ hq3
   rw[tq]at e3 sq3 hq3
   simp[Cy,Hc,r1,e1,Ap hq,Ff,hz,e2,AR hq2,ix,sq3,e3,shD]
  .have g:Cp [p] S (S1++[Cl.lst (ns.map D.int)]):=p1.same.trans .app
   refine⟨kY (g.trans p2.same).len (by simp),λm hm hmp=>?_⟩
   rw[kW (by have:=p1.same.len;lia)]
   exact(g.trans p2.same).keep m hm hmp
  .obtain⟨ds,ed,hd⟩:=p2.pen
   exact⟨ds,by rw[kW (by lia)];exact ed,hd⟩
  .have:=(NQ hn').2.1
   rw[oP]at this
   lia
 .have hz':(ns.sum==0)=false:=by simpa using hz
  have e3:=PC hq (by lia) i1 (by lia)
  refine⟨HI ns,S1++[Cl.lst (ns.map D.int)],?_,⟨p1.same.trans .app,pp⟩,⟨by simp[HI,l1],N0 (by lia)⟩,_,(show 0<ns.sum.toNat by lia),by lia,KG i1 (by lia)⟩
  have sq3:=DZ hq
  simp[Cy,Hc,r1,e1,Ap hq,Ff,hz',sq3,e3,shD]
end
section
variable{S:Sto}{p:Nat}
theorem Xq:(2:Nat)<Gx:=Dv (n:=2) (by decide) (by decide)
theorem Ll(h:CP p S):∃n S',A8 [.ref p] S=Gc (.int n,S')/\Pn p S S'/\1<=n/\n<2^130:=by
 obtain⟨r1,S1,e1,a1,b1,p1⟩:=Af h (n:=99) (by decide) (by decide)
 obtain⟨r2,S2,e2,a2,b2,p2⟩:=Af p1.pen (n:=4) (by decide) (by decide)
 obtain⟨r3,S3,e3,a3,b3,p3⟩:=Af p2.pen (n:=40) (by decide) (by decide)
 obtain⟨r4,S4,e4,a4,b4,p4⟩:=Af p3.pen (n:=999) (by decide) (by decide)
 obtain⟨r5,S5,e5,a5,b5,p5⟩:=Af p4.pen (n:=7) (by decide) (by decide)
 have pp:=(((p1.trans p2).trans p3).trans p4).trans p5
 have d2:=Xq
 have go:∀g:Int,1<=g->g<2^130->∃n:Int,atI [D.int (1+r2),.int (1+r3),.int (1+r4),.int g] (r5 / 2)=Gc (.int n)/\1<=n/\n<2^130:=λg g1 g2=>by
  obtain⟨x,ex,hx⟩:=pick (xs:=[D.int (1+r2),.int (1+r3),.int (1+r4),.int g]) (r:=r5 / 2) (by lia) (by simp;lia)
  simp only[kX,k7,mZ]at hx
  rcases hx with rfl|rfl|rfl|rfl
  .exact⟨_,ex,by lia,by lia⟩
  .exact⟨_,ex,by lia,by lia⟩
  .exact⟨_,ex,by lia,by lia⟩
  .exact⟨_,ex,g1,g2⟩
 first
  |(obtain⟨n,en,n1,n2⟩:=go (10^39+r1) (by lia) (by lia)
    exact⟨n,S5,by simp[A8,Gn,e1,e2,e3,e4,e5,d2]at en ⊢; simp[en],pp,n1,n2⟩)
  |(obtain⟨n,en,n1,n2⟩:=go (10^30+r1) (by lia) (by lia)
    exact⟨n,S5,by simp[A8,Gn,e1,e2,e3,e4,e5,d2]at en ⊢; simp[en],pp,n1,n2⟩)
theorem KI(h:CP p S):∃n S',A8 [.ref p] S=Gc (.int n,S')/\Pn p S S'/\1<=n/\n<2^131:=by
 obtain⟨n,S',a,b,c,d⟩:=Ll h
 exact⟨n,S',a,b,c,nQ d (by decide)⟩
theorem FJ{r:Int}(h:0<=r):∃m:Nat,r=m:=⟨r.toNat,by lia⟩
theorem UL(h:CP p S):∃t S',GA [.ref p] S=Gc (Tr.d t,S')/\Pn p S S'/\IU t/\(t.ho.length=t.p/\t.ho.sum=1)/\∃G:Nat,0<G/\G<=32/\∀r∈t.ho,Ok G G r:=by
 obtain⟨r1,S1,e1,a1,b1,p1⟩:=Af h (n:=4) (by decide) (by decide)
 obtain⟨r2,S2,e2,a2,b2,p2⟩:=Af p1.pen (n:=5) (by decide) (by decide)
 obtain⟨r3,S3,e3,a3,b3,p3⟩:=Af p2.pen (n:=3) (by decide) (by decide)
 obtain⟨r4,S4,e4,a4,b4,p4⟩:=Af p3.pen (n:=20) (by decide) (by decide)
 obtain⟨r5,S5,e5,a5,b5,p5⟩:=Af p4.pen (n:=2) (by decide) (by decide)
 obtain⟨m1,rfl⟩:=FJ a1
 obtain⟨m2,rfl⟩:=FJ a2
 obtain⟨b,eb,hb1,hb2⟩:∃b:Nat,atI [D.int (1+r3),.int (1+r4)] r5=Gc (.int b)/\1<=b/\b<=20:=by
  obtain⟨x,ex,hx⟩:=pick (xs:=[D.int (1+r3),.int (1+r4)]) (r:=r5) a5 (by simpa using b5)
  obtain⟨m3,rfl⟩:=FJ a3
  obtain⟨m4,rfl⟩:=FJ a4
  simp only[kX,k7,mZ]at hx
  rcases hx with rfl|rfl
  .exact⟨1+m3,by rw[ex];simp,by lia,by lia⟩
  .exact⟨1+m4,by rw[ex];simp,by lia,by lia⟩
 obtain⟨rs,S6,e6,p6,l6,G,g0,g1,g2⟩:=PJ p5.pen (n:=1+m1) (by lia) (by lia)
 obtain⟨r7,S7,e7,a7,b7,p7⟩:=Af p6.pen (n:=10) (by decide) (by decide)
 obtain⟨r8,S8,e8,a8,b8,p8⟩:=Af p7.pen (n:=10) (by decide) (by decide)
 rw[show((1+m1:Nat):Int)=1+(m1:Int) by lia]at e6
 refine⟨⟨1+m1,1+m2,b,rs,r7,r8⟩,S8,?_,((((((p1.trans p2).trans p3).trans p4).trans p5).trans p6).trans p7).trans p8,⟨by simp,by simp;lia,by simp,by simp;lia,hb1,hb2⟩,l6,G,g0,g1,g2⟩
 simp[GA,Kb,e1,e2,e3,e4,e5,eb,e6,e7,e8,Tr.d]
theorem VC(h:CP p S):∃x S',E8 [.ref p] S=Gc (aD x,S')/\Pn p S S'/\0<x.num/\x.num<=x.den/\x.den<=12:=by
 obtain⟨r1,S1,e1,a1,b1,p1⟩:=Af h (n:=12) (by decide) (by decide)
 obtain⟨r2,S2,e2,a2,b2,p2⟩:=Af p1.pen (n:=1+r1) (by lia) (by lia)
 have m:=UP (S:=S2) (t:=1+r2) (b:=1+r1) (by lia) (Dv (by lia) (by lia))
 obtain⟨m1,rfl⟩:=FJ a1
 obtain⟨m2,rfl⟩:=FJ a2
 have rp:=KH (1+(m2:Int)) (1+m1) (by lia)
 have eb:(((1+(m1:Int):Int)):Rat)=(((1+m1:Nat)):Rat):=by
  have:(1+(m1:Int))=((1+m1:Nat):Int):=by lia
  rw[this];rfl
 have en:(1+(m2:Int)).natAbs=1+m2:=by lia
 have gp:0<sY (1+m2) (1+m1):=Nat.gcd_pos_of_pos_left _ (by lia)
 obtain⟨q,hq⟩:=Nat.gcd_dvd_left (1+m2) (1+m1)
 obtain⟨q',hq'⟩:=Nat.gcd_dvd_right (1+m2) (1+m1)
 refine⟨((1+(m2:Int):Int):Rat) / ((1+(m1:Int):Int):Rat),S2,?_,p1.trans p2,?_,?_,?_⟩
 .simp[E8,J8,e1,e2,m]
 .rw[eb,rp.1,en]
  generalize sY (1+m2) (1+m1)=g at*
  have:(1+(m2:Int))=((g*q:Nat):Int):=by lia
  rw[this,uA,sj _ (by lia)]
  have:q≠0:=λz=>by subst z;lia
  lia
 .rw[eb,rp.1,rp.2,en]
  generalize sY (1+m2) (1+m1)=g at*
  have t1:(1+(m2:Int))=((g*q:Nat):Int):=by lia
  rw[t1,uA,sj _ (by lia),hq',Nat.mul_div_cancel_left _ gp]
  have:q<=q':=by
   have:g*q<=g*q':=by lia
   exact Nat.le_of_mul_le_mul_left this gp
  lia
 .rw[eb,rp.2]
  exact kY (wx _ _) (by lia)
theorem RH (h : CP p S) {n : Nat} (hn : n ≤ 6) : ∃ (ws : Wp Int) (S' : Sto), C7 [.ref p, .int n] S = Gc (.tup (ws.map .int), S') /\ Pn p S S' /\ ws.length = n /\ ∀ w ∈ ws, 1 ≤ w /\ w ≤ 99 := by
  obtain ⟨ys, S', e, hI, l, r⟩ := Mt (gs := []) (t := tNm 1) (f := (eOp (o2 Bv) [(eC (.int 1)), (eOp (o2 wIx) [(IC [(AJ AH [(eV 0), (eC (.int 3))]), (AJ AH [(eV 0), (eC (.int 99))])]), (AJ AH [(eV 0), (eC (.int 2))])])])) (C := [Gc (.ref p)]) (m := 1) (I := Pn p S) (R := fun _ y => ∃ i : Int, y = .int i /\ 1 ≤ i /\ i ≤ 99)
    (fun _ _ => As) (ds := Kx 0 n) (acc := []) (os := [none]) rfl (Pn.refl h) (by rw [F6]; simp; exact AN (by lia)) fun d _ os S0 ho I0 => by
      obtain ⟨o, rfl⟩ := Qh ho
      obtain ⟨r1, S1, e1, a1, b1, p1⟩ := Af I0.pen (n := 3) (by decide) (by decide)
      obtain ⟨r2, S2, e2, a2, b2, p2⟩ := Af p1.pen (n := 99) (by decide) (by decide)
      obtain ⟨r3, S3, e3, a3, b3, p3⟩ := Af p2.pen (n := 2) (by decide) (by decide)
      obtain ⟨x, ex, hx⟩ := pick (xs := [.int r1, .int r2]) (r := r3) a3 (by simpa using b3)
      simp only [kX, k7, mZ] at hx
      rcases hx with rfl | rfl
      · exact ⟨[Gc d], .int (1 + r1), S3, rfl, by simp, by simp [e1, e2, e3, ex], ((I0.trans p1).trans p2).trans p3, _, rfl, by lia, by lia⟩
      · exact ⟨[Gc d], .int (1 + r2), S3, rfl, by simp, by simp [e1, e2, e3, ex], ((I0.trans p1).trans p2).trans p3, _, rfl, by lia, by lia⟩
  obtain ⟨ns, rfl, hns⟩ := OV (IX r)
  have r1 : IL (n : Int) = true := Dp (by lia) (by lia)
  have e' : CH [] (tNm 1) Di (eOp (o2 Bv) [(eC (.int 1)), (eOp (o2 wIx) [(IC [(AJ AH [(eV 0), (eC (.int 3))]), (AJ AH [(eV 0), (eC (.int 99))])]), (AJ AH [(eV 0), (eC (.int 2))])])]) (Kx 0 n) [] [Gc (.ref p), none] S = Gc (ns.map D.int, S') := by simpa using e
  exact ⟨ns, S', by simp [C7, JW, r1, e'], hI, by simpa [F6] using l, hns⟩
def F7(t:Tr)(ls:Wp Ld):Prop:=(∀l∈ls,l.k<t.k/\1<=l.n/\l.n<2^131/\l.ow.length=t.p/\l.ow.sum=1)/\∃G:Nat,0<G/\G<=32^ls.length/\∀l∈ls,∀r∈l.ow,Ok G G r
theorem F7.snoc{t:Tr}{ls:Wp Ld}{l:Ld}(h:F7 t ls)(h1:l.k<t.k/\1<=l.n/\l.n<2^131/\l.ow.length=t.p/\l.ow.sum=1){g:Nat}(g0:0<g)(g1:g<=32)(g2:∀r∈l.ow,Ok g g r):F7 t (ls++[l]):=by
 obtain⟨ha,G,G0,G1,G2⟩:=h
 refine⟨λx hx=>?_,G*g,sZ G0 g0,?_,λx hx r hr=>?_⟩
 .rcases k6.mp hx with hx|hx
  .exact ha x hx
  .rw[kr.mp hx];exact h1
 .rw[lQ,uD,vq]
  exact ue G1 g1
 .rcases k6.mp hx with hx|hx
  .exact(G2 x hx r hr).up (kR _)
  .rw[kr.mp hx]at hr
   have:=(g2 r hr).up (t:=G) (B':=G*g) (by rw[pI];exact kR _)
   rwa [pI g G]at this
end
section
variable{S:Sto}{p:Nat}
theorem F7.nil{t:Tr}:F7 t []:=⟨λl hl=>(nomatch hl),1,by decide,by simp,λl hl=>(nomatch hl)⟩
theorem U8(h:CP p S){t:Tr}(ht:IU t):∃(ls:Wp Ld) (S':Sto),F5 [.ref p,t.d] S=Gc (.tup (ls.map Ld.d),S')/\Pn p S S'/\F7 t ls/\ls.length<=4:=by
 obtain⟨t1,t2,t3,t4,t5,t6⟩:=ht
 have hlt:=h.lt
 have hq:(S++[Cl.lst []])[S.length]?=Gc (.lst []):=kz
 obtain⟨r1,S1,e1,a1,b1,p1⟩:=Af (h.app [Cl.lst []]) (n:=5) (by decide) (by decide)
 obtain⟨r2,S2,e2,a2,b2,p2⟩:=Af p1.pen (n:=3) (by decide) (by decide)
 obtain⟨n,en,hn⟩:∃n:Nat,atI [D.int 0,.int 1,.int r1] r2=Gc (.int n)/\n<=4:=by
  obtain⟨x,ex,hx⟩:=pick (xs:=[D.int 0,.int 1,.int r1]) (r:=r2) a2 (by simpa using b2)
  simp only[kX,k7,mZ]at hx
  rcases hx with rfl|rfl|rfl
  .exact⟨0,ex,by decide⟩
  .exact⟨1,ex,by decide⟩
  .exact⟨r1.toNat,by rw[ex,mB a1],by lia⟩
 have q2:S2[S.length]?=Gc (.lst []):=(p1.trans p2).get hq (by lia)
 have rn:IL (n:Int)=true:=Dp (by lia) (by lia)
 obtain⟨E',S',ef,ls,o,rfl,f1,f2,f3,f4,f5⟩:=HM (gs:=[]) (t:=tNm 3) (b:=Cb (Kz LF (eV 2) [Be [AJ AH [eV 0,eOp (o2 wIx) [eV 1,eC (.int 1)]],AJ A8 [eV 0],AJ Cy [eV 0,eOp (o2 wIx) [eV 1,eC (.int 0)]]]]))
  (I:=λds E S'=>∃(ls:Wp Ld) (o:kN D),E=[Gc (.ref p),Gc t.d,Gc (.ref S.length),o]/\S'[S.length]?=Gc (.lst (ls.map Ld.d))/\CP p S'/\Cp [p] S S'/\F7 t ls/\ls.length+ds.length<=4)
  (λ_ _ _ _=>As) (ds:=Kx 0 n) (E:=[Gc (.ref p),Gc t.d,Gc (.ref S.length),none]) (S:=S2)
  ⟨[],none,rfl,q2,p2.pen,Cp.app.trans (p1.trans p2).same,F7.nil,by simp[F6];exact hn⟩ (by
    rintro d ds E S0 ⟨ls,o,rfl,i1,i2,i3,i4,i5⟩
    obtain⟨x1,T1,g1,c1,d1,k1⟩:=Af i2 (n:=t.k) (by lia) (by lia)
    obtain⟨x2,T2,g2,k2,c2,d2⟩:=KI k1.pen
    obtain⟨rs,T3,g3,k3,l3,G,G0,G1,G2⟩:=PJ k2.pen (n:=t.p) t1 t2
    obtain⟨m1,rfl⟩:=FJ c1
    have kk:=(k1.trans k2).trans k3
    have j1:T3[S.length]?=Gc (.lst (ls.map Ld.d)):=kk.get i1 (by lia)
    have hz:ls.length<sizeLine:=kT (show ls.length<5 by lia) (AN (by decide))
    refine⟨[Gc (.ref p),Gc t.d,Gc (.ref S.length),Gc d],[Gc (.ref p),Gc t.d,Gc (.ref S.length),Gc d],T3.set S.length (.lst ((ls++[Ld.mk m1 x2 rs]).map Ld.d)),by simp,?_,ls++[Ld.mk m1 x2 rs],Gc d,rfl,ko (Ag j1),?_,?_,i4.snoc (l:=Ld.mk m1 x2 rs) ⟨show m1<t.k by lia,c2,d2,l3⟩ G0 G1 G2,by simp at i5 ⊢; lia⟩
    .have e3:atI [D.int t.p,.int t.k,.int t.b,shD t.ho,.int t.h,.int t.l] 1=Gc (.int t.k):=by simp
     simp[Tr.d,g1,g2,g3,AR i1,AR j1,hz,Ld.d]
    .obtain⟨ds',ed,hd⟩:=kk.pen
     exact⟨ds',by rw[kW (by lia)];exact ed,hd⟩
    .refine⟨kY (i3.trans kk.same).len (by simp),λm hm hmp=>?_⟩
     rw[kW (by lia)]
     exact(i3.trans kk.same).keep m hm hmp)
 refine⟨ls,S',?_,⟨f3,f2⟩,f4,by simpa using f5⟩
 simp[F5,Ks,e1,e2,en,rn,ef,Ap f1]
noncomputable def B5(x:Ld):Cl:=.lst [.int x.k,.int x.n,shD x.ow]
structure SAt(S:Sto)(s l m:Nat)(as:Wp Nat)(st:Stt):Prop where
 root:S[s]?=Gc (.lst [.ref l,shD st.hold,.ref m])
 lo:S[l]?=Gc (.lst (as.map .ref))
 nu:S[m]?=Gc (.lst (st.nums.map .int))
 ld:∀(i a:Nat) (x:Ld),as[i]?=Gc a->st.AE[i]?=Gc x->S[a]?=Gc (B5 x)
 len:as.length=st.AE.length
 nd:(s::l::m::as).Nodup
theorem Wl:∀{ls:Wp Ld} {acc:Wp D} {o:kN D} {S:Sto},acc.length+ls.length<=100->CH [] (tNm 0) Di (ZS (o1 OZ) [eV 0]) (ls.map Ld.d) acc [o] S=Gc (acc++(wc S.length ls.length).map D.ref,S++ls.map B5)
 | [],acc,o,S,h=>by rw[mX,Ez As];simp
 |x::ls,acc,o,S,h=>by
  rw[kq,Hf (E1:=[Gc x.d]) As (kT (show acc.length<101 by simp at h;lia) (AN (by decide))) (by simp) Gq]
  have:ZS (o1 OZ) [eV 0] [Gc x.d] S=Gc (.ref S.length,S++[B5 x]):=by simp[Ld.d,B5]
  rw[this,A3,Wl (by simp at h ⊢; lia)]
  simp[List.range'_succ]
theorem getElem?_at{α:Type}{xs:Wp α}{x:α}{n:Nat}(h:n=xs.length):(xs++[x])[n]?=Gc x:=by subst h;exact kz
theorem Pa{t:Tr}{ls:Wp Ld}{x:D}(hl:ls.length<=20):∃s l m as S',Df [.tup [t.d,.tup (ls.map Ld.d),x]] S=Gc (.ref s,S')/\SAt S' s l m as ⟨ls,t.ho,[]⟩/\Cp [] S S'/\(∀n∈s::l::m::as,S.length<=n):=by
 have e:=Wl (ls:=ls) (acc:=[]) (o:=none) (S:=S) (by simp;lia)
 refine⟨S.length+ls.length+2,S.length+ls.length,S.length+ls.length+1,wc S.length ls.length,S++ls.map B5++[.lst ((wc S.length ls.length).map D.ref)]++[.lst []]++[.lst [.ref (S.length+ls.length),shD t.ho,.ref (S.length+ls.length+1)]],?_,⟨?_,?_,?_,?_,?_,?_⟩,?_,?_⟩
 .simp[Df,J5,Tr.d,e,shD]
  lia
 .exact getElem?_at (by simp;lia)
 .rw[kP (by simp),kP (by simp)]
  exact getElem?_at (by simp)
 .rw[kP (by simp;lia)]
  exact getElem?_at (by simp;lia)
 .intro i a y ha hy
  have hi:i<ls.length:=(ke.mp hy).1
  have:a=S.length+i:=by
   rw[List.getElem?_range' hi]at ha
   simp at ha;lia
  subst this
  rw[kP (by simp;lia),kP (by simp;lia),kP (by simp;lia),lU (by lia)]
  have hy':ls[i]?=Gc y:=hy
  simp[hy']
 .simp
 .rw[nI,nI,nI]
  refine⟨?_,?_,?_,List.nodup_range'⟩
  .simp only[kX,qt];lia
  .simp only[kX,qt];lia
  .simp only[qt];lia
 .rw[nD,nD,nD]
  exact .app
 .intro n hn
  simp only[kX,qt]at hn
  lia
end
section
variable{S:Sto}{p:Nat}
@[simp] theorem jZ{rs:List Rat}{S:Sto}:sqD S (shD rs)=some (rs.map aD,[]):=nr rfl
@[simp] theorem fV{S:Sto}{r:List D}:dr (S++[.lst r]) (.ref S.length)=.own r:=Ap List.getElem?_concat_length
@[simp] theorem ZT{S:Sto}{r:List D}:EG (S++[.lst r]) S.length=some r:=AR List.getElem?_concat_length
theorem set_same{S:Sto}{q:Nat}{c:Cl}(h:S[q]?=Gc c):S.set q c=S:=by
 apply vw
 intro i
 by_cases e:q=i
 .subst e;rw[ko (Ag h),h]
 .rw[kW e]
theorem OQ{gs:Gd}{t:Tf}{b:Ex}{C:En}{m q:Nat}{h:D->D}{I:Sto->Prop}(hg:∀S,I S->gOk gs S)(hI:∀S c,I S->I (S.set q c)):∀{ds acc:Wp D} {os:En} {S:Sto},os.length=m->I S->S[q]?=Gc (.lst acc)->acc.length+ds.length<=1000->(∀d∈ds,∀os S acc,os.length=m->I S->S[q]?=Gc (.lst acc)->acc.length<sizeLine->∃us us',t d (C++os) S=Gc (C++us)/\b (C++us) S=Gc (.nx,C++us',S.set q (.lst (acc++[h d])))/\us'.length=m)->∃os',os'.length=m/\Ij gs t b ds (C++os) S=Gc (.nx,C++os',S.set q (.lst (acc++ds.map h)))
 | [],acc,os,S,ho,hS,hq,hz,H=>⟨os,ho,by
     rw[FH (hg S hS)]
     have:S.set q (.lst (acc++List.map h []))=S:=by
      rw[mX,oO]
      exact set_same hq
     rw[this]⟩
 |d::ds,acc,os,S,ho,hS,hq,hz,H=>by
  have hl:=Ag hq
  obtain⟨us,us',e1,e2,hu⟩:=H d kc os S acc ho hS hq (kT (show acc.length<1001 by simp at hz;lia) (kY (by decide) (show 1001<=sizeLine by decide)))
  obtain⟨os',ho',e3⟩:=OQ hg hI (ds:=ds) (acc:=acc++[h d]) (os:=us') (S:=S.set q (.lst (acc++[h d]))) hu (hI S _ hS) (ko hl) (by simp at hz ⊢; lia) λd' hd=>H d' (kU _ hd)
  refine⟨os',ho',?_⟩
  rw[CM (hg S hS),e1,A3,e2,A3,KR,e3,List.set_set]
  simp
noncomputable def un:D->Rat
 | .tup [.int n,.int d]=>(n:Rat) / (d:Rat)
 |_=>0
theorem Y7(r:Rat):un (aD r)=r:=FL r
noncomputable def OR(f:Rat->Rat->Rat):D->D
 | .tup [a,b]=>aD (f (un a) (un b))
 |d=>d
theorem L0{f:Rat->Rat->Rat}:∀{ss os:Wp Rat},(ON (ss.map aD) (os.map aD)).map (OR f)=(tm f ss os).map aD
 | [],os=>by simp[ON]
 |s::ss,[]=>by simp[ON]
 |s::ss,o::os=>by
  have ih:=L0 (f:=f) (ss:=ss) (os:=os)
  unfold ON at ih⊢
  simp only[kq,vI,List.zipWith_cons_cons]at ih⊢
  rw[ih]
  simp[OR,Y7]
theorem SN{ss os:Wp Rat}{d:D}(h:d∈ON (ss.map aD) (os.map aD)):∃s∈ss,∃o∈os,d=.tup [aD s,aD o]:=by
 unfold ON at h
 obtain⟨⟨a,b⟩,h1,rfl⟩:=lI.mp h
 have h2:=qS h1
 obtain⟨s,hs,rfl⟩:=lI.mp h2.1
 obtain⟨o,ho,rfl⟩:=lI.mp h2.2
 exact⟨s,hs,o,ho,rfl⟩
theorem XI:aD 1=.tup [.int 1,.int 1]:=rfl
theorem Zu(n:Int):aD (n:Rat)=.tup [.int n,.int 1]:=by
 unfold aD
 simp
theorem XA{n:Int}{k:Nat}(h:n.natAbs<2^k)(hk:1<=k):Sz k (n:Rat):=by
 unfold Sz
 have:1<2^k:=sG (by lia)
 simp[h,this]
theorem Xg{k:Nat}(hk:1<=k):Sz k (1:Rat):=by
 have:1<2^k:=sG (by lia)
 exact⟨by simpa using this,by simpa using this⟩
theorem Pe{x:Rat}{ss os:Wp Rat}{j i:Nat}(hs:∀r∈ss,Sz j r)(ho:∀r∈os,Sz j r)(hx:Sz i x)(hj:2*j+2*i<=7900)(hl:ss.length<=10):∃S',Dl [shD ss,aD x,shD os] S=Gc (shD (IH x os ss),S')/\Cp [] S S':=by
 have hq:(S++[Cl.lst []])[S.length]?=Gc (.lst []):=kz
 obtain⟨os',ho',e⟩:=OQ (gs:=[]) (t:=tTp [tNm 4,tNm 5]) (b:=Cb (Kz LF (eV 3) [AJ B0 [AJ Av [eV 4,AJ C5 [Be [eC (.int 1),eC (.int 1)],eV 1]],AJ Av [eV 5,eV 1]]])) (C:=[Gc (shD ss),Gc (aD x),Gc (shD os),Gc (.ref S.length)]) (m:=2) (q:=S.length) (h:=OR λs o=>s*(1-x)+o*x) (I:=λ_=>uL) (λ_ _=>As) (λ_ _ _=>trivial)
  (ds:=ON (ss.map aD) (os.map aD)) (acc:=[]) (os:=[none,none]) (S:=S++[Cl.lst []]) rfl trivial hq (by simp[Jv];lia) (by
    intro d hd os0 S0 acc h0 _ hq0 hz
    obtain⟨o1,o2,rfl⟩:=eX h0
    obtain⟨s,hs',o,ho',rfl⟩:=SN hd
    have l1:=XU (S:=S0) (Xg (k:=1) (by decide)) hx (by lia)
    have s1:=(bK (Xg (k:=1) (by decide)) hx)
    have l2:=Ik (S:=S0) (hs s hs') s1 (by lia)
    have l3:=Ik (S:=S0) (ho o ho') hx (by lia)
    have l4:=Pq (S:=S0) (Nh (hs s hs') s1) (Nh (ho o ho') hx) (by lia)
    rw[XI]at l1
    refine⟨[Gc (aD s),Gc (aD o)],[Gc (aD s),Gc (aD o)],by simp,?_,rfl⟩
    simp[l1,l2,l3,l4,AR hq0,hz,OR,Y7])
 rw[L0]at e
 refine⟨(S++[Cl.lst []]).set S.length (.lst ((IH x os ss).map aD)),?_,?_⟩
 .have e':Ij [] (tTp [tNm 4,tNm 5]) (Cb (Kz LF (eV 3) [AJ B0 [AJ Av [eV 4,AJ C5 [Be [eC (.int 1),eC (.int 1)],eV 1]],AJ Av [eV 5,eV 1]]])) (ON (ss.map aD) (os.map aD)) [Gc (shD ss),Gc (aD x),Gc (shD os),Gc (.ref S.length),none,none] (S++[Cl.lst []])=Gc (.nx,[Gc (shD ss),Gc (aD x),Gc (shD os),Gc (.ref S.length)]++os',(S++[Cl.lst []]).set S.length (.lst ((IH x os ss).map aD))):=by simpa[IH]using e
  simp[Dl,KC,e']
  rfl
 .refine⟨by simp,λn hn _=>?_⟩
  rw[kW (by lia),kP hn]
end
section
variable{S:Sto}{p:Nat}
theorem getD_get{α:Type}{xs:Wp α}{n:Nat}{d:α}(h:n<xs.length):xs[n]?=Gc (xs.getD n d):=by
 rw[kg,kS h]
 rfl
theorem getD_mem{α:Type}{xs:Wp α}{n:Nat}{d:α}(h:n<xs.length):xs.getD n d∈xs:=k0 (getD_get h)
theorem Zi{ss:Wp Rat}{n:Nat}(h:n<ss.length):atI (ss.map aD) (n:Int)=Gc (aD (ss.getD n 0)):=Cn (by rw[lC,getD_get h];rfl)
theorem Zh{ss:Wp Rat}{n:Nat}(h:n<ss.length):ixN (ss.map aD).length (n:Int)=Gc n:=Oz (by simpa using h)
theorem Rg{p q:Nat}{x:Rat}{ss:Wp Rat}{j i:Nat}(hs:∀r∈ss,Sz j r)(hx:Sz i x)(hj:2*j+i<=7900)(hp:p<ss.length)(hq:q<ss.length)(hpq:p≠q):∃S',EV [shD ss,(AS.Jk p q x).d] S=Gc (shD (IP p q x ss),S')/\Cp [] S S':=by
 have sp:=hs _ (getD_mem (d:=0) hp)
 have sq:=hs _ (getD_mem (d:=0) hq)
 have l1:∀S,Av [aD (ss.getD p 0),aD x] S=Gc (aD (ss.getD p 0*x),S):=λS=>Ik sp hx (by lia)
 have s1:=Nh sp hx
 have l2:∀S,C5 [aD (ss.getD p 0),aD (ss.getD p 0*x)] S=Gc (aD (ss.getD p 0-ss.getD p 0*x),S):=λS=>XU sp s1 (by lia)
 have l3:∀S,B0 [aD (ss.getD q 0),aD (ss.getD p 0*x)] S=Gc (aD (ss.getD q 0+ss.getD p 0*x),S):=λS=>Pq sq s1 (by lia)
 have a1:=Zi hp
 have i1:=Zh hp
 have i2:ixN (((ss.map aD).set p (aD (ss.getD p 0-ss.getD p 0*x))).length) (q:Int)=Gc q:=Oz (by simpa using hq)
 have a2:atI ((ss.map aD).set p (aD (ss.getD p 0-ss.getD p 0*x))) (q:Int)=Gc (aD (ss.getD q 0)):=Cn (by
  rw[kW hpq,lC,getD_get hq];rfl)
 refine⟨S++[.lst ((IP p q x ss).map aD)],?_,.app⟩
 simp only[oP,ky]at i1 i2
 have em:(IP p q x ss).map aD=((ss.map aD).set p (aD (ss.getD p 0-ss.getD p 0*x))).set q (aD (ss.getD q 0+ss.getD p 0*x)):=by rw[IP,tq,tq]
 unfold shD
 rw[em]
 generalize aD (ss.getD p 0-ss.getD p 0*x)=d1 at*
 generalize aD (ss.getD q 0+ss.getD p 0*x)=d2 at*
 generalize aD (ss.getD p 0*x)=d3 at*
 generalize aD (ss.getD p 0)=d4 at*
 generalize aD (ss.getD q 0)=d5 at*
 simp[EV,LZ,AS.d,a1,l1,l2,l3,i1,i2,a2]
theorem Ql{x y:Ld}{a b:Nat}{j i:Nat}(ha:S[a]?=Gc (B5 x))(hb:S[b]?=Gc (B5 y))(hs:∀r∈x.ow,Sz j r)(ho:∀r∈y.ow,Sz j r)(hx:x.n.natAbs<2^i)(hy:y.n.natAbs<2^i)(h0:0<x.n+y.n)(h1:1<=i)(hj:2*j+4*i<=7900)(hl:x.ow.length<=10):∃S',FI [.ref a,.ref b] S=Gc (shD (EF x.n y.n x.ow y.ow),S')/\Cp [] S S':=by
 have la:=Ag ha
 have lb:=Ag hb
 have hq:(S++[Cl.lst []])[S.length]?=Gc (.lst []):=kz
 have ha':(S++[Cl.lst []])[a]?=Gc (B5 x):=by rw[kP la];exact ha
 have hb':(S++[Cl.lst []])[b]?=Gc (B5 y):=by rw[kP lb];exact hb
 obtain⟨os',ho',e⟩:=OQ (gs:=[]) (t:=tTp [tNm 3,tNm 4]) (b:=AY (BK 5 (AJ B0 [AJ Av [Be [eOp (o2 wIx) [eV 0,eC (.int 1)],eC (.int 1)],eV 3],AJ Av [Be [eOp (o2 wIx) [eV 1,eC (.int 1)],eC (.int 1)],eV 4]]))
  (Cb (Kz LF (eV 2) [AJ Av [eV 5,AJ Bd [eC (.int 1),eOp (o2 Bv) [eOp (o2 wIx) [eV 0,eC (.int 1)],eOp (o2 wIx) [eV 1,eC (.int 1)]]]]]))) (C:=[Gc (.ref a),Gc (.ref b),Gc (.ref S.length)]) (m:=3) (q:=S.length) (h:=OR λs o=>(s*x.n+o*y.n) / (x.n+y.n:Int)) (I:=λS'=>S'[a]?=Gc (B5 x)/\S'[b]?=Gc (B5 y)) (λ_ _=>As) (λS' c h=>⟨by rw[kW (by lia)];exact h.1,by rw[kW (by lia)];exact h.2⟩)
  (ds:=ON (x.ow.map aD) (y.ow.map aD)) (acc:=[]) (os:=[none,none,none]) (S:=S++[Cl.lst []]) rfl ⟨ha',hb'⟩ hq (by simp[Jv];lia) (by
    intro d hd os0 S0 acc h0' hI hq0 hz
    obtain⟨o1,o2,o3,rfl⟩:=gy h0'
    obtain⟨s,hs',o,ho',rfl⟩:=SN hd
    have d1:=Ap hI.1
    have d2:=Ap hI.2
    have z1:=XA hx h1
    have z2:=XA hy h1
    have l1:=Ik (S:=S0) z1 (hs s hs') (by lia)
    have l2:=Ik (S:=S0) z2 (ho o ho') (by lia)
    have s1:=Nh z1 (hs s hs')
    have s2:=Nh z2 (ho o ho')
    have l3:=Pq (S:=S0) s1 s2 (by lia)
    have b1:=QT hx hy
    have l4:=UP (S:=S0) (t:=1) h0 (Ge b1 (by lia))
    have s4:Sz (i+1) (((1:Int):Rat) / ((x.n+y.n:Int):Rat)):=Lp h0 (show(1:Int).natAbs<2^(i+1)from sG (by lia)) b1
    have l5:=Ik (S:=S0) (bW s1 s2) s4 (by lia)
    rw[Zu]at l1 l2
    refine⟨[Gc (aD s),Gc (aD o),o3],[Gc (aD s),Gc (aD o),Gc (aD (x.n*s+y.n*o))],by simp,?_,rfl⟩
    have ev:(((x.n:Rat)*s+(y.n:Rat)*o)*(((1:Int):Rat) / ((x.n+y.n:Int):Rat)))=(s*x.n+o*y.n) / (x.n+y.n:Int):=by
     push_cast
     grind
    rw[ev]at l5
    have lf:(OR λs o=>(s*x.n+o*y.n) / (x.n+y.n:Int)) (.tup [aD s,aD o])=aD ((s*x.n+o*y.n) / (x.n+y.n:Int)):=by simp only[OR,Y7]
    rw[lf]
    generalize aD ((s*x.n+o*y.n) / (x.n+y.n:Int))=e5 at*
    generalize aD (((1:Int):Rat) / ((x.n+y.n:Int):Rat))=e4 at*
    generalize aD (x.n*s+y.n*o)=e3 at*
    simp[d1,d2,B5,l1,l2,l3,l4,l5,AR hq0,hz])
 rw[L0]at e
 refine⟨(S++[Cl.lst []]).set S.length (.lst ((EF x.n y.n x.ow y.ow).map aD)),?_,?_⟩
 .have e':=e
  simp only[mV,lN]at e'
  have d1:=Ap ha'
  have d2:=Ap hb'
  change Ij _ _ _ _ _ _=Gc (_,_,List.set _ _ (Cl.lst (List.map aD (EF x.n y.n x.ow y.ow))))at e'
  generalize EF x.n y.n x.ow y.ow=rs at*
  simp[FI,JC,d1,d2,e',shD]
 .refine⟨by simp,λn hn _=>?_⟩
  rw[kW (by lia),kP hn]
end
section
variable{S:Sto}{p:Nat}
theorem G6{α:Type}{gs:Gd}{t:Tf}{f:Ev}{C:En}{m:Nat}{e g:α->D}{S:Sto}(hg:gOk gs S):∀{xs:Wp α} {acc:Wp D} {os:En},os.length=m->acc.length+xs.length<=sizeLine->(∀x∈xs,∀os,os.length=m->∃us,us.length=m/\t (e x) (C++os) S=Gc (C++us)/\f (C++us) S=Gc (g x,S))->CH gs t Di f (xs.map e) acc (C++os) S=Gc (acc++xs.map g,S)
 | [],acc,os,ho,hz,h=>by rw[mX,Ez hg];simp
 |x::xs,acc,os,ho,hz,h=>by
  obtain⟨us,hu,e1,e2⟩:=h x kc os ho
  rw[kq,Hf hg (by simp at hz;lia) e1 Gq,e2,A3]
  rw[G6 hg hu (by simp at hz ⊢; lia) λx' hx=>h x' (kU _ hx)]
  simp
theorem DH{α:Type}{gs:Gd}{t:Tf}{c f:Ev}{C:En}{m:Nat}{e g:α->D}{b:α->lM}{S:Sto}(hg:gOk gs S):∀{xs:Wp α} {acc:Wp D} {os:En},os.length=m->acc.length+xs.length<=sizeLine->(∀x∈xs,∀os,os.length=m->∃us,us.length=m/\t (e x) (C++os) S=Gc (C++us)/\c (C++us) S=Gc (.bl (b x),S)/\f (C++us) S=Gc (g x,S))->CH gs t c f (xs.map e) acc (C++os) S=Gc (acc++(xs.filter b).map g,S)
 | [],acc,os,ho,hz,h=>by rw[mX,Ez hg];simp
 |x::xs,acc,os,ho,hz,h=>by
  obtain⟨us,hu,e1,e2,e3⟩:=h x kc os ho
  cases hb:b x with
  |true=>
   rw[hb]at e2
   rw[kq,Hf hg (by simp at hz;lia) e1 e2,e3,A3,DH hg hu (by simp at hz ⊢; lia) λd' hd=>h d' (kU _ hd)]
   simp[hb]
  |false=>
   rw[hb]at e2
   rw[kq,HR hg (by simp at hz;lia) e1 e2,DH hg hu (by simp at hz ⊢; lia) λd' hd=>h d' (kU _ hd)]
   simp[hb]
theorem Uk{as:Wp Nat}{ls:Wp Ld}(h:as.length=ls.length):as.map D.ref=(as.zip ls).map λz=>D.ref z.1:=by
 have:as=(as.zip ls).map Prod.fst:=(List.map_fst_zip (by lia)).symm
 conv=>lhs;rw[this]
 rw[mC];rfl
theorem Y0{β:Type}{as:Wp Nat}{ls:Wp Ld}(h:as.length=ls.length)(g:Ld->β):ls.map g=(as.zip ls).map λz=>g z.2:=by
 have:ls=(as.zip ls).map Prod.snd:=(wR (by lia)).symm
 conv=>lhs;rw[this]
 rw[mC];rfl
section
variable{s l m:Nat}{as:Wp Nat}{st:Stt}
theorem SAt.jn(h:SAt S s l m as st){z:Nat×Ld}(hz:z∈as.zip st.AE):S[z.1]?=Gc (B5 z.2):=by
 obtain⟨i,hi⟩:=pZ.mp hz
 have:=sH.mp hi
 exact h.ld i z.1 z.2 this.1 this.2
theorem SAt.at(h:SAt S s l m as st){i:Nat}(hi:i<st.AE.length):∃a,as[i]?=Gc a/\S[a]?=Gc (B5 (AQ st.AE i))/\atI (as.map D.ref) (i:Int)=Gc (.ref a):=by
 have h1:i<as.length:=by rw[h.len];exact hi
 refine⟨as[i],kS h1,h.ld i _ _ (kS h1) (GJ hi),Cn (by rw[lC,kS h1];rfl)⟩
theorem SAt.guard(h:SAt S s l m as st):gOk [(l,as.map D.ref)] S:=by
 intro g hg
 simp only[kX,k7,mZ]at hg
 subst hg
 exact AR h.lo
end
theorem TL{M:Int}(hM:0<=M):∀{xs:Wp Int},(∀x∈xs,0<=x/\x<=M)->0<=xs.sum/\xs.sum<=xs.length*M
 | [],_=>by simp
 |x::xs,h=>by
  have h1:=h x kc
  have h2:=TL hM λy hy=>h y (kU _ hy)
  simp only[pX,l7]
  refine⟨by lia,?_⟩
  have:((xs.length+1:Nat):Int)*M=xs.length*M+M:=by push_cast;grind
  lia
theorem LR:∀{xs:Wp Int} {y:Int},(∀x∈xs,0<=x)->y∈xs->y<=xs.sum
 |x::xs,y,h,hy=>by
  have h1:=h x kc
  have h2:0<=xs.sum:=by
   clear hy
   induction xs with
   |nil=>simp
   |cons z zs ih=>
    have:=h z (by simp)
    have:=ih λw hw=>h w (by simp at hw ⊢; rcases hw with hw|hw<;>simp[hw])
    simp only[pX];lia
  simp only[pX]
  rcases kX.mp hy with e|e
  .lia
  .have:=LR (λz hz=>h z (kU _ hz)) e
   lia
section
variable{t:Tr}{k:Nat}{st:Stt}{ws:Wp Int}{n:Int}{l:Nat}
theorem Nt{i:Nat}(hw:∀w∈ws,1<=w/\w<=99)(hi:i<ws.length):1<=ws.getD i 0/\ws.getD i 0<=99:=hw _ (getD_mem hi)
theorem W9{i:Nat}(hi:i<ws.length):atI (ws.map D.int) (i:Int)=Gc (.int (ws.getD i 0)):=Cn (by rw[lC,getD_get hi];rfl)
theorem Pk(hi:ws.length=k+1):atI (ws.map D.int) (-1:Int)=Gc (.int (ws.getD k 0)):=by
 have ix:ixN (ws.map D.int).length (-1)=Gc k:=by
  rw[ky,hi]
  unfold ixN
  simp
  lia
 unfold atI
 rw[ix]
 show(ws.map D.int)[k]?=_
 rw[lC,getD_get (d:=(0:Int)) (by lia)]
 rfl
theorem Jm(ht:IU t)(h:FC t k st)(hk:k<=20)(hl:ws.length=t.k+1)(hw:∀w∈ws,1<=w/\w<=99):0<Ef t st.AE ws/\Ef t st.AE ws<2^(145+k):=by
 obtain⟨t1,t2,t3,t4,t5,t6⟩:=ht
 have hP:(0:Int)<=2^(131+k):=zR (Int.pow_pos (by decide))
 have hs:=TL (M:=2^(131+k)*99) (by lia) (xs:=st.AE.map λl=>l.n*ws.getD l.k 0) (by
  intro x hx
  obtain⟨y,hy,rfl⟩:=lI.mp hx
  have h1:=h.pcs y hy
  have h2:=Nt hw (i:=y.k) (by have:=h.kind y hy;lia)
  refine⟨xZ h1.1 (by lia),xc (by lia) h2.2 (by lia) hP⟩)
 have hb:=Nt hw (i:=t.k) (by lia)
 have hlen:=h.len
 rw[ky]at hs
 have h3:(st.AE.length:Int)*(2^(131+k)*99)<=24*(2^(131+k)*99):=q5 (by lia) (by lia)
 have h4:(1:Int)<=t.b*ws.getD t.k 0:=by
  have:0<(t.b:Int)*ws.getD t.k 0:=oW (by lia) (by lia)
  lia
 have h5:t.b*ws.getD t.k 0<=20*99:=xc (by lia) hb.2 (by lia) (by decide)
 have h6:(2:Int)^(145+k)=2^(131+k)*16384:=by rw[show 145+k=(131+k)+14 by lia,Int.pow_add];rfl
 have h7:(1:Int)<=2^(131+k):=by have:(0:Int)<2^(131+k):=Int.pow_pos (by decide);lia
 have h7':(2:Int)^11<=2^(131+k):=by
  have:(2^11:Nat)<=2^(131+k):=m9 (by decide) (by lia)
  exact_mod_cast this
 unfold Ef
 rw[h6]
 generalize (2:Int)^(131+k)=P at*
 lia
theorem Sq(ht:IU t)(h:FC t k st)(hl:ws.length=t.k+1)(hw:∀w∈ws,1<=w/\w<=99)(hi:l<st.AE.length)(h1:1<=n)(h2:n<=(AQ st.AE l).n):0<n*ws.getD (AQ st.AE l).k 0/\n*ws.getD (AQ st.AE l).k 0<Ef t st.AE ws:=by
 obtain⟨t1,t2,t3,t4,t5,t6⟩:=ht
 have hw1:=Nt hw (i:=(AQ st.AE l).k) (by have:=h.kind _ (BL hi);lia)
 have hb:=Nt hw (i:=t.k) (by lia)
 have h4:(1:Int)<=t.b*ws.getD t.k 0:=by
  have:0<(t.b:Int)*ws.getD t.k 0:=oW (by lia) (by lia)
  lia
 have h5:=LR (xs:=st.AE.map λl=>l.n*ws.getD l.k 0) (y:=(AQ st.AE l).n*ws.getD (AQ st.AE l).k 0) (by
  intro x hx
  obtain⟨y,hy,rfl⟩:=lI.mp hx
  have h1:=h.pcs y hy
  have h2:=Nt hw (i:=y.k) (by have:=h.kind y hy;lia)
  exact xZ h1.1 (by lia)) (lI.mpr ⟨_,BL hi,rfl⟩)
 have h6:n*ws.getD (AQ st.AE l).k 0<=(AQ st.AE l).n*ws.getD (AQ st.AE l).k 0:=q5 h2 (by lia)
 refine⟨oW (by lia) (by lia),?_⟩
 unfold Ef
 lia
theorem MV(hi:l<st.AE.length):Ja t st.AE l n ws=((n*ws.getD (AQ st.AE l).k 0:Int):Rat) / (Ef t st.AE ws:Rat):=by
 unfold Ja
 rw[GJ hi]
 rfl
theorem Kj{x:Int}{j:Nat}(h0:0<=x)(h1:x<2^j):x.natAbs<2^j:=by
 have:((x.natAbs:Nat):Int)<((2^j:Nat):Int):=by
  rw[Int.natAbs_of_nonneg h0];push_cast;exact h1
 exact_mod_cast this
theorem Yj(ht:IU t)(h:FC t k st)(hk:k<=20)(hl:ws.length=t.k+1)(hw:∀w∈ws,1<=w/\w<=99)(hi:l<st.AE.length)(h1:1<=n)(h2:n<=(AQ st.AE l).n):Sz (145+k) (Ja t st.AE l n ws):=by
 have a:=Jm ht h hk hl hw
 have b:=Sq ht h hl hw hi h1 h2
 rw[MV hi]
 exact Lp a.1 (Kj (by lia) (by lia)) (Kj (by lia) a.2)
theorem Yq{s r m:Nat}{as:Wp Nat}(hS:SAt S s r m as st)(ht:IU t)(h:FC t k st)(hk:k<=20)(hl:ws.length=t.k+1)(hw:∀w∈ws,1<=w/\w<=99)(hi:l<st.AE.length)(h1:1<=n)(h2:n<=(AQ st.AE l).n):G4 [t.d,.ref r,(AS.thr l n ws).d] S=Gc (aD (Ja t st.AE l n ws),S):=by
 have a:=Jm ht h hk hl hw
 obtain⟨x,x1,x2,x3⟩:=hS.at hi
 have hlen:=h.len
 have e:=G6 (gs:=[(r,as.map D.ref)]) (t:=tTp [tNm 1,tNm 2,tNm 3]) (f:=eOp (o2 Fb) [eV 2,eOp (o2 wIx) [eV 0,eV 1]]) (C:=[Gc (.tup (ws.map D.int))]) (m:=3) (e:=λz:Nat×Ld=>D.ref z.1) (g:=λz=>D.int (z.2.n*ws.getD z.2.k 0)) hS.guard (xs:=as.zip st.AE) (acc:=[]) (os:=[none,none,none]) rfl (kY (show _<=24 by simp;lia) (AN (by decide))) (by
  intro z hz os ho
  obtain⟨q1,q2,q3,rfl⟩:=gy ho
  have c1:=hS.jn hz
  have hm:z.2∈st.AE:=(qS (a:=z.1) (b:=z.2) hz).2
  have hk:=h.kind _ hm
  have w1:=W9 (ws:=ws) (i:=z.2.k) (by lia)
  have w2:=Nt hw (i:=z.2.k) (by lia)
  have m1:EJ z.2.n (ws.getD z.2.k 0)=true:=mulR (by lia) (by lia)
  generalize ws.getD z.2.k 0=wz at*
  refine⟨[Gc (.int z.2.k),Gc (.int z.2.n),Gc (shD z.2.ow)],rfl,?_,?_⟩
  .simp[AR c1,B5]
  .simp[w1,m1])
 rw[<-Uk hS.len,<-Y0 hS.len (λx=>D.int (x.n*ws.getD x.k 0))]at e
 have e':=e
 simp only[mV,lN]at e'
 rw[MV hi]
 have es:Je (st.AE.map λx=>D.int (x.n*ws.getD x.k 0))=Gc (st.AE.map λx=>x.n*ws.getD x.k 0):=by
  have:=Ff (st.AE.map λx=>x.n*ws.getD x.k 0)
  rwa [mC]at this
 have w1:=W9 (ws:=ws) (i:=(AQ st.AE l).k) (by have:=h.kind _ (BL hi);lia)
 have w3:=Nt hw (i:=(AQ st.AE l).k) (by have:=h.kind _ (BL hi);lia)
 have w2:=Pk hl
 have w4:=Nt hw (i:=t.k) (by lia)
 have m1:EJ n (ws.getD (AQ st.AE l).k 0)=true:=mulR (by lia) (by lia)
 have m2:EJ (t.b:Int) (ws.getD t.k 0)=true:=mulR (by lia) (by lia)
 have l1:=UP (S:=S) (t:=n*ws.getD (AQ st.AE l).k 0) a.1 (Ge (Kj (by lia) a.2) (by lia))
 have e2:Ef t st.AE ws=(st.AE.map λx=>x.n*ws.getD x.k 0).sum+t.b*ws.getD t.k 0:=rfl
 rw[e2]at l1⊢
 generalize aD (((n*ws.getD (AQ st.AE l).k 0:Int):Rat) / (((st.AE.map λx=>x.n*ws.getD x.k 0).sum+t.b*ws.getD t.k 0:Int):Rat))=R at*
 generalize (st.AE.map λx=>x.n*ws.getD x.k 0)=es' at*
 generalize (st.AE.map λx=>D.int (x.n*ws.getD x.k 0))=es2 at*
 generalize ws.getD (AQ st.AE l).k 0=wa at*
 generalize ws.getD t.k 0=wb at*
 have dx:=Ap x2
 have dl:=Ap hS.lo
 simp[G4,LI,AS.d,Tr.d,DZ hS.lo,e',es,w2,m2,dl,x3,dx,B5,w1,m1,l1]
theorem Rt{G B:Nat}(ht:IU t)(h:FC t k st)(hk:k<=20)(hl:ws.length=t.k+1)(hw:∀w∈ws,1<=w/\w<=99)(hi:l<st.AE.length)(h1:1<=n)(h2:n<=(AQ st.AE l).n){os ss:Wp Rat}(ho:∀r∈os,Ok G B r)(hs:∀r∈ss,Ok G B r):∀r∈IH (Ja t st.AE l n ws) os ss,Ok (G*(Ef t st.AE ws).toNat) (B*(Ef t st.AE ws).toNat) r:=by
 have a:=Jm ht h hk hl hw
 have b:=Sq ht h hl hw hi h1 h2
 intro r hr
 unfold IH at hr
 rw[pZ]at hr
 obtain⟨i,hi'⟩:=hr
 rw[rH]at hi'
 obtain⟨x,y,hx,hy,rfl⟩:=hi'
 rw[MV hi]
 generalize n*ws.getD (AQ st.AE l).k 0=c at*
 generalize Ef t st.AE ws=W at*
 have:=Ok.mix (a:=(W-c).toNat) (b:=c.toNat) (t:=W.toNat) (hs x (k0 hx)) (ho y (k0 hy)) (by lia) (by lia)
 have e1:(((W-c).toNat:Nat):Rat)=(W:Rat)-(c:Rat):=by
  have:(((W-c).toNat:Nat):Int)=W-c:=mB (by lia)
  have:((((W-c).toNat:Nat):Int):Rat)=((W-c:Int):Rat):=by rw[this]
  push_cast at this
  exact this
 have e2:((c.toNat:Nat):Rat)=(c:Rat):=by
  have:((c.toNat:Nat):Int)=c:=mB (by lia)
  have:(((c.toNat:Nat):Int):Rat)=(c:Rat):=by rw[this]
  exact this
 have e3:((W.toNat:Nat):Rat)=(W:Rat):=by
  have:((W.toNat:Nat):Int)=W:=mB (by lia)
  have:(((W.toNat:Nat):Int):Rat)=(W:Rat):=by rw[this]
  exact this
 rw[e1,e2,e3]at this
 have ne:(W:Rat)≠0:=by
  intro z
  have:=qe.mp z
  lia
 have ev:(x*((W:Rat)-(c:Rat))+y*(c:Rat)) / (W:Rat)=x*(1-(c:Rat) / (W:Rat))+y*((c:Rat) / (W:Rat)):=by grind
 rw[ev]at this
 exact this
end
end
section
variable{S:Sto}
theorem Aq{x y:Str}(h:m7 x=true)(g:m7 y=true):Dm (.str x) (.str y)=true:=by
 unfold Dm
 show(m7 x && m7 y && _)=true
 rw[h,g]
 rfl
theorem Cw:m7 (mL "bring")=true:=by decide+kernel
theorem Et:m7 (mL "pool")=true:=by decide+kernel
theorem Em:m7 (mL "swap")=true:=by decide+kernel
theorem Cv:m7 (mL "trade")=true:=by decide+kernel
theorem ER:m7 (mL "spoil")=true:=by decide+kernel
theorem Ck:m7 (mL "throw")=true:=by decide+kernel
theorem Im:m7 (mL "sell")=true:=by decide+kernel
@[simp] theorem UC:Dm (.str (Str.ofString "bring")) (.str (Str.ofString "bring"))=true:=Aq Cw Cw
@[simp] theorem Tp:deq (.str (Str.ofString "bring")) (.str (Str.ofString "bring"))=true:=nr rfl
@[simp] theorem UH:Dm (.str (Str.ofString "bring")) (.str (Str.ofString "pool"))=true:=Aq Cw Et
@[simp] theorem U1:deq (.str (Str.ofString "bring")) (.str (Str.ofString "pool"))=false:=nr rfl
@[simp] theorem VU:Dm (.str (Str.ofString "bring")) (.str (Str.ofString "swap"))=true:=Aq Cw Em
@[simp] theorem Vt:deq (.str (Str.ofString "bring")) (.str (Str.ofString "swap"))=false:=nr rfl
@[simp] theorem Tj:Dm (.str (Str.ofString "bring")) (.str (Str.ofString "trade"))=true:=Aq Cw Cv
@[simp] theorem T5:deq (.str (Str.ofString "bring")) (.str (Str.ofString "trade"))=false:=nr rfl
@[simp] theorem Tt:Dm (.str (Str.ofString "bring")) (.str (Str.ofString "throw"))=true:=Aq Cw Ck
@[simp] theorem UE:deq (.str (Str.ofString "bring")) (.str (Str.ofString "throw"))=false:=nr rfl
@[simp] theorem V2:wIn false (.val (.str "bring")) (.val (.tup [.str "spoil",.str "throw"]))=some (.val (.bl false)):=nr rfl
@[simp] theorem UI:Dm (.str (Str.ofString "pool")) (.str (Str.ofString "bring"))=true:=Aq Et Cw
@[simp] theorem UY:deq (.str (Str.ofString "pool")) (.str (Str.ofString "bring"))=false:=nr rfl
@[simp] theorem W6:Dm (.str (Str.ofString "pool")) (.str (Str.ofString "pool"))=true:=Aq Et Et
@[simp] theorem Wi:deq (.str (Str.ofString "pool")) (.str (Str.ofString "pool"))=true:=nr rfl
@[simp] theorem Vg:Dm (.str (Str.ofString "pool")) (.str (Str.ofString "trade"))=true:=Aq Et Cv
@[simp] theorem Uj:deq (.str (Str.ofString "pool")) (.str (Str.ofString "trade"))=false:=nr rfl
@[simp] theorem WR:Dm (.str (Str.ofString "pool")) (.str (Str.ofString "throw"))=true:=Aq Et Ck
@[simp] theorem V3:deq (.str (Str.ofString "pool")) (.str (Str.ofString "throw"))=false:=nr rfl
@[simp] theorem US:Dm (.str (Str.ofString "swap")) (.str (Str.ofString "bring"))=true:=Aq Em Cw
@[simp] theorem V8:deq (.str (Str.ofString "swap")) (.str (Str.ofString "bring"))=false:=nr rfl
@[simp] theorem Xc:Dm (.str (Str.ofString "swap")) (.str (Str.ofString "pool"))=true:=Aq Em Et
@[simp] theorem XM:deq (.str (Str.ofString "swap")) (.str (Str.ofString "pool"))=false:=nr rfl
@[simp] theorem Xk:Dm (.str (Str.ofString "swap")) (.str (Str.ofString "swap"))=true:=Aq Em Em
@[simp] theorem XJ:deq (.str (Str.ofString "swap")) (.str (Str.ofString "swap"))=true:=nr rfl
@[simp] theorem Uc:Dm (.str (Str.ofString "swap")) (.str (Str.ofString "trade"))=true:=Aq Em Cv
@[simp] theorem V7:deq (.str (Str.ofString "swap")) (.str (Str.ofString "trade"))=false:=nr rfl
@[simp] theorem Vy:Dm (.str (Str.ofString "swap")) (.str (Str.ofString "throw"))=true:=Aq Em Ck
@[simp] theorem VR:deq (.str (Str.ofString "swap")) (.str (Str.ofString "throw"))=false:=nr rfl
@[simp] theorem Yh:wIn false (.val (.str "swap")) (.val (.tup [.str "swap",.str "trade"]))=some (.val (.bl true)):=nr rfl
@[simp] theorem T8:Dm (.str (Str.ofString "trade")) (.str (Str.ofString "bring"))=true:=Aq Cv Cw
@[simp] theorem Tn:deq (.str (Str.ofString "trade")) (.str (Str.ofString "bring"))=false:=nr rfl
@[simp] theorem VW:Dm (.str (Str.ofString "trade")) (.str (Str.ofString "pool"))=true:=Aq Cv Et
@[simp] theorem Vw:deq (.str (Str.ofString "trade")) (.str (Str.ofString "pool"))=false:=nr rfl
@[simp] theorem Uh:Dm (.str (Str.ofString "trade")) (.str (Str.ofString "swap"))=true:=Aq Cv Em
@[simp] theorem WG:deq (.str (Str.ofString "trade")) (.str (Str.ofString "swap"))=false:=nr rfl
@[simp] theorem Tx:Dm (.str (Str.ofString "trade")) (.str (Str.ofString "trade"))=true:=Aq Cv Cv
@[simp] theorem UA:deq (.str (Str.ofString "trade")) (.str (Str.ofString "trade"))=true:=nr rfl
@[simp] theorem Tc:Dm (.str (Str.ofString "trade")) (.str (Str.ofString "throw"))=true:=Aq Cv Ck
@[simp] theorem To:deq (.str (Str.ofString "trade")) (.str (Str.ofString "throw"))=false:=nr rfl
@[simp] theorem Wy:wIn false (.val (.str "trade")) (.val (.tup [.str "swap",.str "trade"]))=some (.val (.bl true)):=nr rfl
@[simp] theorem UD:Dm (.str (Str.ofString "spoil")) (.str (Str.ofString "bring"))=true:=Aq ER Cw
@[simp] theorem T7:deq (.str (Str.ofString "spoil")) (.str (Str.ofString "bring"))=false:=nr rfl
@[simp] theorem VS:Dm (.str (Str.ofString "spoil")) (.str (Str.ofString "pool"))=true:=Aq ER Et
@[simp] theorem V9:deq (.str (Str.ofString "spoil")) (.str (Str.ofString "pool"))=false:=nr rfl
@[simp] theorem Uz:Dm (.str (Str.ofString "spoil")) (.str (Str.ofString "swap"))=true:=Aq ER Em
@[simp] theorem V0:deq (.str (Str.ofString "spoil")) (.str (Str.ofString "swap"))=false:=nr rfl
@[simp] theorem UB:Dm (.str (Str.ofString "spoil")) (.str (Str.ofString "trade"))=true:=Aq ER Cv
@[simp] theorem T9:deq (.str (Str.ofString "spoil")) (.str (Str.ofString "trade"))=false:=nr rfl
@[simp] theorem T4:Dm (.str (Str.ofString "spoil")) (.str (Str.ofString "spoil"))=true:=Aq ER ER
@[simp] theorem TZ:deq (.str (Str.ofString "spoil")) (.str (Str.ofString "spoil"))=true:=nr rfl
@[simp] theorem Te:Dm (.str (Str.ofString "spoil")) (.str (Str.ofString "throw"))=true:=Aq ER Ck
@[simp] theorem Ts:deq (.str (Str.ofString "spoil")) (.str (Str.ofString "throw"))=false:=nr rfl
@[simp] theorem Wt:wIn false (.val (.str "spoil")) (.val (.tup [.str "swap",.str "trade"]))=some (.val (.bl false)):=nr rfl
@[simp] theorem Vn:wIn false (.val (.str "spoil")) (.val (.tup [.str "spoil",.str "throw"]))=some (.val (.bl true)):=nr rfl
@[simp] theorem Th:Dm (.str (Str.ofString "throw")) (.str (Str.ofString "bring"))=true:=Aq Ck Cw
@[simp] theorem Tz:deq (.str (Str.ofString "throw")) (.str (Str.ofString "bring"))=false:=nr rfl
@[simp] theorem Ur:Dm (.str (Str.ofString "throw")) (.str (Str.ofString "pool"))=true:=Aq Ck Et
@[simp] theorem Vq:deq (.str (Str.ofString "throw")) (.str (Str.ofString "pool"))=false:=nr rfl
@[simp] theorem Vp:Dm (.str (Str.ofString "throw")) (.str (Str.ofString "swap"))=true:=Aq Ck Em
@[simp] theorem WA:deq (.str (Str.ofString "throw")) (.str (Str.ofString "swap"))=false:=nr rfl
@[simp] theorem Ti:Dm (.str (Str.ofString "throw")) (.str (Str.ofString "trade"))=true:=Aq Ck Cv
@[simp] theorem Tb:deq (.str (Str.ofString "throw")) (.str (Str.ofString "trade"))=false:=nr rfl
@[simp] theorem T6:Dm (.str (Str.ofString "throw")) (.str (Str.ofString "spoil"))=true:=Aq Ck ER
@[simp] theorem UG:deq (.str (Str.ofString "throw")) (.str (Str.ofString "spoil"))=false:=nr rfl
@[simp] theorem Tq:Dm (.str (Str.ofString "throw")) (.str (Str.ofString "throw"))=true:=Aq Ck Ck
@[simp] theorem Tv:deq (.str (Str.ofString "throw")) (.str (Str.ofString "throw"))=true:=nr rfl
@[simp] theorem XQ:wIn false (.val (.str "throw")) (.val (.tup [.str "swap",.str "trade"]))=some (.val (.bl false)):=nr rfl
@[simp] theorem UK:wIn false (.val (.str "throw")) (.val (.tup [.str "spoil",.str "throw"]))=some (.val (.bl true)):=nr rfl
@[simp] theorem Us:Dm (.str (Str.ofString "sell")) (.str (Str.ofString "bring"))=true:=Aq Im Cw
@[simp] theorem Uo:deq (.str (Str.ofString "sell")) (.str (Str.ofString "bring"))=false:=nr rfl
@[simp] theorem XE:Dm (.str (Str.ofString "sell")) (.str (Str.ofString "pool"))=true:=Aq Im Et
@[simp] theorem XW:deq (.str (Str.ofString "sell")) (.str (Str.ofString "pool"))=false:=nr rfl
@[simp] theorem XR:Dm (.str (Str.ofString "sell")) (.str (Str.ofString "swap"))=true:=Aq Im Em
@[simp] theorem W7:deq (.str (Str.ofString "sell")) (.str (Str.ofString "swap"))=false:=nr rfl
@[simp] theorem U6:Dm (.str (Str.ofString "sell")) (.str (Str.ofString "trade"))=true:=Aq Im Cv
@[simp] theorem VY:deq (.str (Str.ofString "sell")) (.str (Str.ofString "trade"))=false:=nr rfl
@[simp] theorem WS:Dm (.str (Str.ofString "sell")) (.str (Str.ofString "spoil"))=true:=Aq Im ER
@[simp] theorem UR:deq (.str (Str.ofString "sell")) (.str (Str.ofString "spoil"))=false:=nr rfl
@[simp] theorem WC:Dm (.str (Str.ofString "sell")) (.str (Str.ofString "throw"))=true:=Aq Im Ck
@[simp] theorem WH:deq (.str (Str.ofString "sell")) (.str (Str.ofString "throw"))=false:=nr rfl
@[simp] theorem YV:wIn false (.val (.str "sell")) (.val (.tup [.str "swap",.str "trade"]))=some (.val (.bl false)):=nr rfl
@[simp] theorem XT:wIn false (.val (.str "sell")) (.val (.tup [.str "spoil",.str "throw"]))=some (.val (.bl false)):=nr rfl
section
variable{a b c d e f:D}{r:Wp D}
@[simp] theorem dR:IQ [a,b,c,d,e] (some (-4)) none=[b,c,d,e]:=nr rfl
@[simp] theorem dD:IQ [a,b,c,d,e,f] (some (-4)) none=[c,d,e,f]:=nr rfl
@[simp] theorem cN:IQ [a,b,c,d,e] (some 1) (some 2)=[b]:=nr rfl
@[simp] theorem dM:IQ [a,b,c,d,e,f] (some 1) (some 2)=[b]:=nr rfl
@[simp] theorem dW{ds zs:List D}:c8 S ds [.tup zs]=if ds.length+zs.length<=sizeLine then some (.non,ds++zs)else none:=nr rfl
end
end
section
variable{S S':Sto}{s l m:Nat}{as:Wp Nat}{st:Stt}
theorem SAt.same(h:SAt S s l m as st)(g:Cp A S S')(hA:∀n∈A,n∉s::l::m::as):SAt S' s l m as st where
 root:=g.get h.root λz=>hA _ z (by simp)
 lo:=g.get h.lo λz=>hA _ z (by simp)
 nu:=g.get h.nu λz=>hA _ z (by simp)
 ld:=λi a x ha hx=>g.get (h.ld i a x ha hx) λz=>hA _ z (by simp[k0 ha])
 len:=h.len
 nd:=h.nd
theorem SAt.Sk(h:SAt S s l m as st)(g:Cp [] S S'):SAt S' s l m as st:=h.same g λ_ z=>(nomatch z)
theorem SAt.ne(h:SAt S s l m as st):s≠l/\s≠m/\l≠m/\s∉as/\l∉as/\m∉as/\as.Nodup:=by
 have:=h.nd
 simp only[nI,kX,tV]at this
 obtain⟨⟨a,b,c⟩,⟨d,e⟩,f,g⟩:=this
 exact⟨a,b,d,c,e,f,g⟩
theorem SAt.OW(h:SAt S s l m as st){i a:Nat}{y:Ld}(ha:as[i]?=Gc a):SAt (S.set a (B5 y)) s l m as {st with AE:=st.AE.set i y}:=by
 obtain⟨n1,n2,n3,n4,n5,n6,n7⟩:=h.ne
 have ma:=k0 ha
 have q1:a≠s:=λe=>n4 (e▸ma)
 have q2:a≠l:=λe=>n5 (e▸ma)
 have q3:a≠m:=λe=>n6 (e▸ma)
 have hi:i<as.length:=(ke.mp ha).1
 have hi':i<st.AE.length:=by rw[<-h.len];exact hi
 refine⟨by rw[kW q1];exact h.root,by rw[kW q2];exact h.lo,by rw[kW q3];exact h.nu,?_,by simp[h.len],h.nd⟩
 intro j b x hb hx
 by_cases e:i=j
 .subst e
  rw[ha]at hb
  cases hb
  have hx':(st.AE.set i y)[i]?=Gc x:=hx
  rw[ko hi']at hx'
  cases hx'
  have hl:a<S.length:=Ag (h.ld i a _ ha (kS hi'))
  exact ko hl
 .have hx':(st.AE.set i y)[j]?=Gc x:=hx
  rw[kW e]at hx'
  have:a≠b:=by
   intro z
   subst z
   exact e ((sV hi n7).mp (ha.trans hb.symm))
  rw[kW this]
  exact h.ld j b x hb hx'
theorem SAt.lts(h:SAt S s l m as st):∀n∈s::l::m::as,n<S.length:=by
 intro n hn
 simp only[kX]at hn
 rcases hn with rfl|rfl|rfl|hn
 .exact Ag h.root
 .exact Ag h.lo
 .exact Ag h.nu
 .obtain⟨i,hi⟩:=pZ.mp hn
  have:i<st.AE.length:=by rw[<-h.len];exact(ke.mp hi).1
  exact Ag (h.ld i n _ hi (kS this))
theorem SAt.app(h:SAt S s l m as st)(y:Ld):SAt ((S++[B5 y]).set l (.lst (as.map D.ref++[.ref S.length]))) s l m (as++[S.length]) {st with AE:=st.AE++[y]}:=by
 obtain⟨n1,n2,n3,n4,n5,n6,n7⟩:=h.ne
 have lt:=h.lts
 have ls:=lt s (by simp);have ll:=lt l (by simp);have lm:=lt m (by simp)
 have la:∀a∈as,a<S.length:=λa ha=>lt a (by simp[ha])
 refine⟨?_,?_,?_,?_,by simp[h.len],?_⟩
 .rw[kW (mR n1),kP ls];exact h.root
 .rw[ko (by simp;lia)];simp
 .rw[kW n3,kP lm];exact h.nu
 .intro i a x ha hx
  by_cases e:i<as.length
  .rw[kP e]at ha
   have hx':(st.AE++[y])[i]?=Gc x:=hx
   rw[kP (by rw[<-h.len];exact e)]at hx'
   have ma:=k0 ha
   rw[kW (show l≠a by rintro rfl;exact n5 ma),kP (la a ma)]
   exact h.ld i a x ha hx'
  .have hx':(st.AE++[y])[i]?=Gc x:=hx
   have:i=as.length:=by
    have:=(ke.mp ha).1
    simp at this;lia
   subst this
   rw[kz]at ha
   cases ha
   rw[h.len,kz]at hx'
   cases hx'
   rw[kW (by lia),kz]
 .have:(s::l::m::(as++[S.length]))=(s::l::m::as)++[S.length]:=by simp
  rw[this,mq]
  refine⟨h.nd,by simp,?_⟩
  intro a ha b hb e
  simp only[kX,k7,mZ]at hb
  have:=lt a ha
  lia
theorem SAt.hold(h:SAt S s l m as st)(rs:Wp Rat):SAt (S.set s (.lst [.ref l,shD rs,.ref m])) s l m as {st with hold:=rs}:=by
 obtain⟨n1,n2,n3,n4,n5,n6,n7⟩:=h.ne
 refine⟨ko (h.lts s (by simp)),by rw[kW n1];exact h.lo,by rw[kW n2];exact h.nu,?_,h.len,h.nd⟩
 intro i a x ha hx
 rw[kW (show s≠a by rintro rfl;exact n4 (k0 ha))]
 exact h.ld i a x ha hx
theorem SAt.nums(h:SAt S s l m as st)(us:Wp Int):SAt (S.set m (.lst (us.map D.int))) s l m as {st with nums:=us}:=by
 obtain⟨n1,n2,n3,n4,n5,n6,n7⟩:=h.ne
 refine⟨by rw[kW (mR n2)];exact h.root,by rw[kW (mR n3)];exact h.lo,ko (h.lts m (by simp)),?_,h.len,h.nd⟩
 intro i a x ha hx
 rw[kW (show m≠a by rintro rfl;exact n6 (k0 ha))]
 exact h.ld i a x ha hx
theorem NI{f:Ld->Ld}{body:Ex}{C:En}{i8:Nat}{o0:kN D}(h:SAt S s l m as st)(hi:C.length=i8)(hb:∀(S':Sto) (a:Nat) (x:Ld),x∈st.AE->S'[a]?=Gc (B5 x)->∃S2,body (C++[Gc (.ref a)]) S'=Gc (.nx,C++[Gc (.ref a)],S2.set a (B5 (f x)))/\Cp [] S' S2):∃o S',Ij [(l,as.map D.ref)] (tNm i8) body (as.map D.ref) (C++[o0]) S=Gc (.nx,C++[o],S')/\SAt S' s l m as {st with AE:=st.AE.map f}/\Cp as S S':=by
 obtain⟨E',S',e,i,o,i1,i2,rfl,i3,i4⟩:=HM (gs:=[(l,as.map D.ref)]) (t:=tNm i8) (b:=body)
  (I:=λds E S'=>∃(i:Nat) (o:kN D),ds=(as.drop i).map D.ref/\i<=as.length/\E=C++[o]/\SAt S' s l m as {st with AE:=(st.AE.take i).map f++st.AE.drop i}/\Cp as S S')
  (λds E S' hI=>by obtain⟨i,o,_,_,_,h1,_⟩:=hI;exact h1.guard) (ds:=as.map D.ref) (E:=C++[o0]) (S:=S)
  ⟨0,o0,by simp,mI _,rfl,by simpa using h,.refl⟩ (by
    rintro d ds E S1 ⟨i,o,i1,i2,rfl,i3,i4⟩
    have hlt:i<as.length:=by
     rcases vy i as.length with w|w
     .exact w
     .rw[pL w]at i1;cases i1
    rw[mn hlt,kq]at i1
    injection i1 with e1 e2
    subst e1 e2
    have hl2:i<st.AE.length:=by rw[<-h.len];exact hlt
    have ha:=kS hlt
    have hx:((st.AE.take i).map f++st.AE.drop i)[i]?=Gc st.AE[i]:=by
     rw[lU (by simp;lia)]
     simp[Nat.min_eq_left (mx hl2)]
    obtain⟨S2,e3,g3⟩:=hb S1 as[i] st.AE[i] (ny hl2) (i3.ld i _ _ ha hx)
    have k:=(i3.Sk g3).OW (y:=f st.AE[i]) ha
    refine⟨C++[Gc (.ref as[i])],C++[Gc (.ref as[i])],S2.set as[i] (B5 (f st.AE[i])),?_,e3,i+1,Gc (.ref as[i]),rfl,hlt,rfl,?_,?_⟩
    .rw[Xv]
     congr 1
     subst hi
     rw[uG _ _ (kR _)]
     simp
    .have:((st.AE.take i).map f++st.AE.drop i).set i (f st.AE[i])=(st.AE.take (i+1)).map f++st.AE.drop (i+1):=by
      rw[uG _ _ (by simp;lia)]
      have e0:i-((st.AE.take i).map f).length=0:=by simp;lia
      rw[e0,mn hl2,List.set_cons_zero,List.take_succ_eq_append_getElem hl2,my]
      simp
     rw[<-this]
     exact k
    .exact(i4.trans (g3.mono λ_ z=>(nomatch z))).trans (.set (ny hlt)))
 refine⟨o,S',e,?_,i4⟩
 have hz:i=as.length:=by
  have:=congrArg uO i1
  simp at this
  lia
 have:(st.AE.take i).map f++st.AE.drop i=st.AE.map f:=by
  rw[hz,h.len];simp
 rw[this]at i3
 exact i3
end
section
variable{S S':Sto}{s l m:Nat}{as:Wp Nat}{st:Stt}{t:Tr}{k:Nat}
theorem Xt{i:Nat}{n:Int}{j:Nat}(hi:i<st.AE.length)(h:∀x∈st.AE,∀r∈x.ow,Sz j r):∀x∈less st.AE i n,∀r∈x.ow,Sz j r:=by
 intro x hx
 rcases MP hx hi with h1|h1
 .exact h x h1
 .rw[h1];exact h (AQ st.AE i) (BL hi)
theorem TR{i:Nat}{n:Int}{j:Nat}(hi:i<st.AE.length)(h:∀x∈st.AE,x.ow.length=j):∀x∈less st.AE i n,x.ow.length=j:=by
 intro x hx
 rcases MP hx hi with h1|h1
 .exact h x h1
 .rw[h1];exact h (AQ st.AE i) (BL hi)
theorem Up(hS:SAt S s l m as st)(ht:IU t)(h:FC t k st)(hk:k<=16){i:Nat}{n:Int}{ws:Wp Int}(hc:Can t st (.thr i n ws)):∃S',Ea [t.d,.ref s,(AS.thr i n ws).d] S=Gc (.non,S')/\SAt S' s l m as (step t st (.thr i n ws))/\Cp (s::l::m::as) S S':=by
 obtain⟨hi,h1,h2,hl,hw⟩:=hc
 have cO:=Yq hS ht h (by lia) hl hw hi h1 h2
 have cz:=Yj ht h (by lia) hl hw hi h1 h2
 have sz:=h.sz
 obtain⟨a,a1,a2,a3⟩:=hS.at hi
 have hS1:=hS.OW (y:=⟨(AQ st.AE i).k,(AQ st.AE i).n-n,(AQ st.AE i).ow⟩) a1
 have o1:=sz.1 _ (BL hi)
 have tp:=ht.2.1
 have hdef:step t st (.thr i n ws)={st with AE:=(less st.AE i n).map λx=>{x with ow:=IH (Ja t st.AE i n ws) (AQ st.AE i).ow x.ow},hold:=IH (Ja t st.AE i n ws) (AQ st.AE i).ow st.hold}:=rfl
 rw[hdef]
 generalize hX:Ja t st.AE i n ws=X at*
 obtain⟨o,S2,f1,f2,f3⟩:=NI (f:=λx=>{x with ow:=IH X (AQ st.AE i).ow x.ow}) (body:=My (AJ Dl [eOp (o2 wIx) [eV 8,eC (.int 2)],eV 6,eV 7]) (eV 8) (eC (.int 2))) (C:=[Gc t.d,Gc (.ref s),Gc (AS.thr i n ws).d,Gc (.ref l),Gc (shD st.hold),Gc (.ref m),Gc (aD X),Gc (shD (AQ st.AE i).ow)]) (i8:=8) (o0:=none) hS1 rfl (by
  intro S' b x hx hb
  obtain⟨S2,e2,g2⟩:=Pe (S:=S') (x:=X) (ss:=x.ow) (os:=(AQ st.AE i).ow) (j:=30+170*k) (i:=145+k) (Xt (n:=n) hi sz.1 x hx) o1 cz (by lia) (by rw[TR (n:=n) hi h.own x hx];lia)
  have hb2:=g2.get hb (by simp)
  refine⟨S2,?_,g2⟩
  simp[Ap hb,B5,e2,AR hb2])
 obtain⟨S3,e3,g3⟩:=Pe (S:=S2) (x:=X) (ss:=st.hold) (os:=(AQ st.AE i).ow) (j:=30+170*k) (i:=145+k) sz.2 o1 cz (by lia) (by rw[h.hold];lia)
 have f4:=(f2.Sk g3)
 have rt:=f4.root
 refine⟨S3.set s (.lst [.ref l,shD (IH X (AQ st.AE i).ow st.hold),.ref m]),?_,f4.hold _,?_⟩
 .have f1':=f1
  simp only[mV,lN]at f1'
  have rt':EG S3 s=Gc [.ref l,shD st.hold,.ref m]:=AR rt
  have r0:=AR hS.root
  have lo:=Ap hS.lo
  have xx:=Ap a2
  have c2:=AR a2
  have sq1:=DZ hS1.lo
  simp only[B5]at f1' sq1 c2 xx
  simp only[AS.d]at f1' cO⊢
  simp[Ea,Ib,r0,cO,lo,a3,xx,c2,sq1,f1',e3,rt']
 .have q1:Cp (s::l::m::as) S (S.set a (B5 ⟨(AQ st.AE i).k,(AQ st.AE i).n-n,(AQ st.AE i).ow⟩)):=.set (by simp[k0 a1])
  exact((q1.trans (f3.mono λn hn=>by simp[hn])).trans (g3.mono λ_ z=>(nomatch z))).trans (.set (by simp))
theorem Sx(hS:SAt S s l m as st)(ht:IU t)(h:FC t k st)(hk:k<=16){p q:Nat}{x:Rat}(hc:Can t st (.Jk p q x)):∃S',Ea [t.d,.ref s,(AS.Jk p q x).d] S=Gc (.non,S')/\SAt S' s l m as (step t st (.Jk p q x))/\Cp (s::l::m::as) S S':=by
 obtain⟨hpq,hp,hq,x1,x2,x3⟩:=hc
 have sz:=h.sz
 have hx:Sz 4 x:=by
  refine⟨?_,by lia⟩
  show x.num.natAbs<16
  lia
 have hdef:step t st (.Jk p q x)={st with AE:=st.AE.map λy=>{y with ow:=IP p q x y.ow},hold:=IP p q x st.hold}:=rfl
 rw[hdef]
 obtain⟨o,S2,f1,f2,f3⟩:=NI (f:=λy=>{y with ow:=IP p q x y.ow}) (body:=My (AJ EV [eOp (o2 wIx) [eV 8,eC (.int 2)],eV 2]) (eV 8) (eC (.int 2))) (C:=[Gc t.d,Gc (.ref s),Gc (AS.Jk p q x).d,Gc (.ref l),Gc (shD st.hold),Gc (.ref m),none,none]) (i8:=8) (o0:=none) hS rfl (by
  intro S' b y hy hb
  obtain⟨S2,e2,g2⟩:=Rg (S:=S') (p:=p) (q:=q) (x:=x) (ss:=y.ow) (j:=30+170*k) (i:=4) (sz.1 y hy) hx (by lia) (by rw[h.own y hy];exact hp) (by rw[h.own y hy];exact hq) hpq
  have hb2:=g2.get hb (by simp)
  refine⟨S2,?_,g2⟩
  simp[Ap hb,B5,e2,AR hb2])
 obtain⟨S3,e3,g3⟩:=Rg (S:=S2) (p:=p) (q:=q) (x:=x) (ss:=st.hold) (j:=30+170*k) (i:=4) sz.2 hx (by lia) (by rw[h.hold];exact hp) (by rw[h.hold];exact hq) hpq
 have f4:=(f2.Sk g3)
 have rt:=f4.root
 refine⟨S3.set s (.lst [.ref l,shD (IP p q x st.hold),.ref m]),?_,f4.hold _,?_⟩
 .have f1':=f1
  simp only[mV,lN]at f1'
  have rt':EG S3 s=Gc [.ref l,shD st.hold,.ref m]:=AR rt
  have r0:=AR hS.root
  have sq1:=DZ hS.lo
  simp only[AS.d]at f1' e3⊢
  simp[Ea,Ib,r0,sq1,f1',e3,rt']
 .exact((f3.mono λn hn=>by simp[hn]).trans (g3.mono λ_ z=>(nomatch z))).trans (.set (by simp))
end
section
variable{S S':Sto}{s l m:Nat}{as:Wp Nat}{st:Stt}{t:Tr}{k:Nat}
theorem RW{ls:Wp Ld}{l:Nat}{n:Int}:less ls l n=ls.set l ⟨(AQ ls l).k,(AQ ls l).n-n,(AQ ls l).ow⟩:=rfl
theorem U9{P p:Nat}{cond:Int}{C:En}{dd:D}{f:Ev}(hP:P<=50)(hf:∀(i:Nat),f [Gc dd,Gc (.int i)] S=Gc (aD (if i=p then 1 else 0),S)):CH [] (tNm 1) Di f (Kx 0 P) [] [Gc dd,none] S=Gc ((Qe P p).map aD,S):=by
 have:=G6 (gs:=[]) (t:=tNm 1) (f:=f) (C:=[Gc dd]) (m:=1) (e:=λi:Nat=>D.int (0+(i:Int))) (g:=λi=>aD (if i=p then 1 else 0)) (S:=S) As (xs:=lT P) (acc:=[]) (os:=[none]) rfl (kY (show _<=50 by simp;lia) (AN (by decide))) (by
  intro i _ os ho
  obtain⟨o,rfl⟩:=Qh ho
  refine⟨[Gc (.int i)],rfl,by simp,hf i⟩)
 simp only[mV,lN]at this
 rw[Qe,mC]
 exact this
theorem V1(hS:SAt S s l m as st)(ht:IU t)(h:FC t k st)(hk:k<=16){p kd:Nat}{n:Int}(hc:Can t st (.Bn p kd n)):∃S' as',BC [t.d,.ref s,(AS.Bn p kd n).d] S=Gc (.non,S')/\SAt S' s l m as' (step t st (.Bn p kd n))/\Cp (s::l::m::as) S S'/\∀n∈as',n∈as\/S.length<=n:=by
 have tp:=ht.2.1
 have e:=U9 (S:=S) (P:=t.p) (p:=p) (cond:=0) (C:=[]) (dd:=(AS.Bn p kd n).d) (f:=Be [eOp (o1 Xl) [eOp (o2 wEq) [eV 1,eOp (o2 wIx) [eV 0,eC (.int 1)]]],eC (.int 1)]) (by lia) (by
  intro i
  by_cases hi:i=p
  .subst hi;simp[AS.d];rfl
  .have:((i:Int)==(p:Int))=false:=by simp;lia
   simp[AS.d,this,hi];rfl)
 have rn:IL (t.p:Int)=true:=Dp (by lia) (by lia)
 have hz:as.length<sizeLine:=kT (show as.length<50 by rw[hS.len];have:=h.len;lia) (AN (by decide))
 refine⟨_,_,?_,hS.app ⟨kd,n,Qe t.p p⟩,?_,?_⟩
 .have r0:=AR hS.root
  have c0:=AR hS.lo
  have c1:EG (S++[B5 ⟨kd,n,Qe t.p p⟩]) l=Gc (as.map D.ref):=AR (by rw[kP (Ag hS.lo)];exact hS.lo)
  simp only[B5]at c1⊢
  simp only[AS.d]at e⊢
  simp[BC,FE,r0,Tr.d,rn,e,c0,shD]at c1⊢
  simp[c1,hz]
 .exact Cp.app.trans (.set (by simp))
 .intro n hn
  rcases k6.mp hn with w|w
  .exact .inl w
  .simp at w;exact .inr (by lia)
theorem UU(hS:SAt S s l m as st)(ht:IU t)(h:FC t k st)(hk:k<=16){i:Nat}{n:Int}(hc:Can t st (.Ga i n)):∃S' as',BC [t.d,.ref s,(AS.Ga i n).d] S=Gc (.non,S')/\SAt S' s l m as' (step t st (.Ga i n))/\Cp (s::l::m::as) S S'/\∀n∈as',n∈as\/S.length<=n:=by
 obtain⟨hi,h1,h2⟩:=hc
 obtain⟨a,a1,a2,a3⟩:=hS.at hi
 refine⟨_,as,?_,hS.OW (y:=⟨(AQ st.AE i).k,(AQ st.AE i).n-n,(AQ st.AE i).ow⟩) a1,.set (by simp[k0 a1]),λn hn=>.inl hn⟩
 have r0:=AR hS.root
 have lo:=Ap hS.lo
 have xx:=Ap a2
 have c2:=AR a2
 simp only[B5]at c2 xx⊢
 simp[BC,FE,AS.d,r0,lo,a3,xx,c2]
theorem bf(hS:SAt S s l m as st)(ht:IU t)(h:FC t k st)(hk:k<=16){i:Nat}{n:Int}{ws:Wp Int}(hc:Can t st (.thr i n ws)):∃S' as',BC [t.d,.ref s,(AS.thr i n ws).d] S=Gc (.non,S')/\SAt S' s l m as' (step t st (.thr i n ws))/\Cp (s::l::m::as) S S'/\∀n∈as',n∈as\/S.length<=n:=by
 obtain⟨S',e,g1,g2⟩:=Up hS ht h hk hc
 refine⟨S',as,?_,g1,g2,λn hn=>.inl hn⟩
 have r0:=AR hS.root
 simp only[AS.d]at e⊢
 simp[BC,FE,r0,e]
theorem Ye(hS:SAt S s l m as st)(ht:IU t)(h:FC t k st)(hk:k<=16){p q:Nat}{x:Rat}(hc:Can t st (.Jk p q x)):∃S' as',BC [t.d,.ref s,(AS.Jk p q x).d] S=Gc (.non,S')/\SAt S' s l m as' (step t st (.Jk p q x))/\Cp (s::l::m::as) S S'/\∀n∈as',n∈as\/S.length<=n:=by
 obtain⟨S',e,g1,g2⟩:=Sx hS ht h hk hc
 refine⟨S',as,?_,g1,g2,λn hn=>.inl hn⟩
 have r0:=AR hS.root
 simp only[AS.d]at e⊢
 simp[BC,FE,r0,e]
theorem Y4(hS:SAt S s l m as st)(ht:IU t)(h:FC t k st)(hk:k<=16){i kd:Nat}{g n:Int}(hc:Can t st (.swap i g kd n)):∃S' as',BC [t.d,.ref s,(AS.swap i g kd n).d] S=Gc (.non,S')/\SAt S' s l m as' (step t st (.swap i g kd n))/\Cp (s::l::m::as) S S'/\∀n∈as',n∈as\/S.length<=n:=by
 obtain⟨hi,h1,h2,h3,h4,h5,h6⟩:=hc
 obtain⟨a,a1,a2,a3⟩:=hS.at hi
 have hS1:=hS.OW (y:=⟨(AQ st.AE i).k,(AQ st.AE i).n-g,(AQ st.AE i).ow⟩) a1
 have hS2:=hS1.app ⟨kd,n,(AQ st.AE i).ow⟩
 have hz:as.length<sizeLine:=kT (show as.length<50 by rw[hS.len];have:=h.len;lia) (AN (by decide))
 have hz2:st.nums.length<=sizeLine:=kY (show _<=20 by have:=h.nm;lia) (AN (by decide))
 refine⟨_,_,?_,hS2,?_,?_⟩
 .have r0:=AR hS.root
  have lo:=Ap hS.lo
  have xx:=Ap a2
  have c2:=AR a2
  have lo1:=Ap hS1.lo
  have co1:=AR hS1.lo
  have x1:=Ap (ko (a:=B5 ⟨(AQ st.AE i).k,(AQ st.AE i).n-g,(AQ st.AE i).ow⟩) (Ag a2))
  have c4:EG ((S.set a (B5 ⟨(AQ st.AE i).k,(AQ st.AE i).n-g,(AQ st.AE i).ow⟩))++[B5 ⟨kd,n,(AQ st.AE i).ow⟩]) l=Gc (as.map D.ref):=AR (by rw[kP (Ag hS1.lo)];exact hS1.lo)
  have nu:=hS2.nu
  have c5:=AR nu
  have st5:∀{T:Sto},T[m]?=Gc (.lst (st.nums.map D.int))->T.set m (.lst (st.nums.map D.int))=T:=λh=>set_same h
  have st6:=st5 nu
  simp only[B5]at c2 xx lo1 co1 x1 c4 c5 st6⊢
  have hz':(as.map D.ref).length<sizeLine:=by simpa using hz
  generalize (as.map D.ref)=refs at*
  simp[BC,FE,AS.d,r0,lo,a3,xx,c2,lo1,x1,co1]at c4 c5 st6⊢
  simp[c4,hz',c5,hz2,st6]
 .exact((Cp.set (by simp[k0 a1])).trans .app).trans (.set (by simp))
 .intro n hn
  rcases k6.mp hn with w|w
  .exact .inl w
  .simp at w;exact .inr (by lia)
theorem Ux(hS:SAt S s l m as st)(ht:IU t)(h:FC t k st)(hk:k<=16){i kd:Nat}{u g n:Int}(hc:Can t st (.BO u i g kd n)):∃S' as',BC [t.d,.ref s,(AS.BO u i g kd n).d] S=Gc (.non,S')/\SAt S' s l m as' (step t st (.BO u i g kd n))/\Cp (s::l::m::as) S S'/\∀n∈as',n∈as\/S.length<=n:=by
 obtain⟨hi,h1,h2,h3,h4,h5,h6,h7,h8⟩:=hc
 obtain⟨a,a1,a2,a3⟩:=hS.at hi
 have hS1:=hS.OW (y:=⟨(AQ st.AE i).k,(AQ st.AE i).n-g,(AQ st.AE i).ow⟩) a1
 have hS2:=hS1.app ⟨kd,n,(AQ st.AE i).ow⟩
 have hz:as.length<sizeLine:=kT (show as.length<50 by rw[hS.len];have:=h.len;lia) (AN (by decide))
 have hz2:st.nums.length+1<=sizeLine:=kY (show _<=20 by have:=h.nm;lia) (AN (by decide))
 refine⟨_,_,?_,hS2.nums (st.nums++[u]),?_,?_⟩
 .have r0:=AR hS.root
  have lo:=Ap hS.lo
  have xx:=Ap a2
  have c2:=AR a2
  have lo1:=Ap hS1.lo
  have co1:=AR hS1.lo
  have x1:=Ap (ko (a:=B5 ⟨(AQ st.AE i).k,(AQ st.AE i).n-g,(AQ st.AE i).ow⟩) (Ag a2))
  have c4:EG ((S.set a (B5 ⟨(AQ st.AE i).k,(AQ st.AE i).n-g,(AQ st.AE i).ow⟩))++[B5 ⟨kd,n,(AQ st.AE i).ow⟩]) l=Gc (as.map D.ref):=AR (by rw[kP (Ag hS1.lo)];exact hS1.lo)
  have nu:=hS2.nu
  have c5:=AR nu
  simp only[B5]at c2 xx lo1 co1 x1 c4 c5⊢
  have hz':(as.map D.ref).length<sizeLine:=by simpa using hz
  generalize (as.map D.ref)=refs at*
  simp[BC,FE,AS.d,r0,lo,a3,xx,c2,lo1,x1,co1]at c4 c5⊢
  simp[c4,hz',c5,hz2]
 .exact(((Cp.set (by simp[k0 a1])).trans .app).trans (.set (by simp))).trans (.set (by simp))
 .intro n hn
  rcases k6.mp hn with w|w
  .exact .inl w
  .simp at w;exact .inr (by lia)
theorem Xo(hS:SAt S s l m as st)(ht:IU t)(h:FC t k st)(hk:k<=16){i j:Nat}(hc:Can t st (.Mz i j)):∃S' as',BC [t.d,.ref s,(AS.Mz i j).d] S=Gc (.non,S')/\SAt S' s l m as' (step t st (.Mz i j))/\Cp (s::l::m::as) S S'/\∀n∈as',n∈as\/S.length<=n:=by
 obtain⟨hij,hi,hj,h1,h2,h3⟩:=hc
 obtain⟨a,a1,a2,a3⟩:=hS.at hi
 obtain⟨b,b1,b2,b3⟩:=hS.at hj
 have sz:=h.sz
 have pi:=h.pcs _ (BL hi)
 have pj:=h.pcs _ (BL hj)
 obtain⟨S1,e1,g1⟩:=Ql (S:=S) (x:=AQ st.AE i) (y:=AQ st.AE j) (j:=30+170*k) (i:=131+k) a2 b2 (sz.1 _ (BL hi)) (sz.1 _ (BL hj)) (Kj pi.1 pi.2) (Kj pj.1 pj.2) (by lia) (by lia) (by lia) (by rw[h.own _ (BL hi)];have:=ht.2.1;lia)
 have hS1:=hS.Sk g1
 have hab:a≠b:=by
  rintro rfl
  exact hij ((sV (ke.mp a1).1 hS.ne.2.2.2.2.2.2).mp (a1.trans b1.symm))
 have hS2:=hS1.app ⟨(AQ st.AE i).k,(AQ st.AE i).n+(AQ st.AE j).n,EF (AQ st.AE i).n (AQ st.AE j).n (AQ st.AE i).ow (AQ st.AE j).ow⟩
 have ai:i<as.length:=(ke.mp a1).1
 have bj:j<as.length:=(ke.mp b1).1
 have a1':(as++[S1.length])[i]?=Gc a:=by rw[kP ai];exact a1
 have b1':(as++[S1.length])[j]?=Gc b:=by rw[kP bj];exact b1
 have hS3:=hS2.OW (y:=⟨(AQ st.AE i).k,0,(AQ st.AE i).ow⟩) a1'
 have hS4:=hS3.OW (y:=⟨(AQ st.AE j).k,0,(AQ st.AE j).ow⟩) b1'
 have hz:as.length<sizeLine:=kT (show as.length<50 by rw[hS.len];have:=h.len;lia) (AN (by decide))
 have est:step t st (.Mz i j)={st with AE:=((st.AE++[Ld.mk (AQ st.AE i).k ((AQ st.AE i).n+(AQ st.AE j).n) (EF (AQ st.AE i).n (AQ st.AE j).n (AQ st.AE i).ow (AQ st.AE j).ow)]).set i ⟨(AQ st.AE i).k,0,(AQ st.AE i).ow⟩).set j ⟨(AQ st.AE j).k,0,(AQ st.AE j).ow⟩}:=by
  have e0:AQ (less st.AE i (AQ st.AE i).n) j=AQ st.AE j:=by
   unfold AQ less
   rw[kg,kW hij,<-kg]
  have e1:less st.AE i (AQ st.AE i).n=st.AE.set i ⟨(AQ st.AE i).k,0,(AQ st.AE i).ow⟩:=by
   unfold less
   rw[zW]
  have e2:less (less st.AE i (AQ st.AE i).n) j (AQ st.AE j).n=(st.AE.set i ⟨(AQ st.AE i).k,0,(AQ st.AE i).ow⟩).set j ⟨(AQ st.AE j).k,0,(AQ st.AE j).ow⟩:=by
   rw[RW (ls:=less st.AE i (AQ st.AE i).n),e0,zW,e1]
  show{st with AE:=less (less st.AE i (AQ st.AE i).n) j (AQ st.AE j).n++_}=_
  rw[e2,uf _ _ hi,uf _ _ (by simpa using hj)]
 refine⟨_,_,?_,est▸hS4,?_,?_⟩
 .have r0:=AR hS.root
  have lo:=Ap hS.lo
  have c0:=AR hS.lo
  have xa:=Ap a2
  have xb:=Ap b2
  have c1:=AR hS1.lo
  have c4:EG (S1++[B5 ⟨(AQ st.AE i).k,(AQ st.AE i).n+(AQ st.AE j).n,EF (AQ st.AE i).n (AQ st.AE j).n (AQ st.AE i).ow (AQ st.AE j).ow⟩]) l=Gc (as.map D.ref):=AR (by rw[kP (Ag hS1.lo)];exact hS1.lo)
  have c5:=AR (hS2.ld i a (AQ st.AE i) a1' (by show(st.AE++_)[i]?=_;rw[kP hi];exact GJ hi))
  have c6:=AR (hS3.ld j b (AQ st.AE j) b1' (by show((st.AE++_).set i _)[j]?=_;rw[kW hij,kP hj];exact GJ hj))
  simp only[B5]at xa xb c4 c5 c6⊢
  have hz':(as.map D.ref).length<sizeLine:=by simpa using hz
  generalize (as.map D.ref)=refs at*
  generalize EF (AQ st.AE i).n (AQ st.AE j).n (AQ st.AE i).ow (AQ st.AE j).ow=pr at*
  simp[BC,FE,AS.d,r0,lo,a3,b3,xa,xb,c0,e1]at c4 c5 c6⊢
  simp[c4,hz',c5,c6]
 .exact(((g1.mono λ_ z=>(nomatch z)).trans .app).trans (.set (by simp))).trans ((Cp.set (by simp[k0 a1])).trans (.set (by simp[k0 b1])))
 .intro n hn
  rcases k6.mp hn with w|w
  .exact .inl w
  .simp at w;subst w;exact .inr g1.len
theorem aX(hS:SAt S s l m as st)(ht:IU t)(h:FC t k st)(hk:k<=16){d:AS}(hc:Can t st d):∃S' as',BC [t.d,.ref s,d.d] S=Gc (.non,S')/\SAt S' s l m as' (step t st d)/\Cp (s::l::m::as) S S'/\∀n∈as',n∈as\/S.length<=n:=by
 cases d with
 |Bn=>exact V1 hS ht h hk hc
 |Mz=>exact Xo hS ht h hk hc
 |swap=>exact Y4 hS ht h hk hc
 |BO=>exact Ux hS ht h hk hc
 |Ga=>exact UU hS ht h hk hc
 |thr=>exact bf hS ht h hk hc
 |Jk=>exact Ye hS ht h hk hc
end
section
variable{st:Stt}{t:Tr}{k:Nat}
theorem KD{a b:Nat}(h:a<=b):2^a<=2^b:=m9 (by decide) h
theorem Hl{a b:Nat}(h:a<=b):(2:Int)^a<=2^b:=by
 have:=KD h
 exact_mod_cast this
theorem ID{c:Int}(h:0<=c):((c.toNat:Nat):Rat)=(c:Rat):=by
 have:((c.toNat:Nat):Int)=c:=mB h
 have:(((c.toNat:Nat):Int):Rat)=(c:Rat):=by rw[this]
 exact this
theorem Ry{B T k j:Nat}(hB:B<2^(30+170*k))(hT:T<2^j)(hj:j<=170):B*T<2^(30+170*(k+1)):=by
 have:=Fj hB hT
 exact kT this (KD (by lia))
theorem Z1{G B P p:Nat}(h:G<=B):∀r∈Qe P p,Ok G B r:=by
 intro r hr
 obtain⟨i,_,rfl⟩:=lI.mp hr
 split
 .exact Ok.one h
 .exact Ok.zero
theorem Qy{G B:Nat}{n m:Int}{ss os:Wp Rat}(hn:0<n)(hm:0<m)(hs:∀r∈ss,Ok G B r)(ho:∀r∈os,Ok G B r):∀r∈EF n m ss os,Ok (G*(n+m).toNat) (B*(n+m).toNat) r:=by
 intro r hr
 unfold EF at hr
 rw[pZ]at hr
 obtain⟨i,hi'⟩:=hr
 rw[rH]at hi'
 obtain⟨x,y,hx,hy,rfl⟩:=hi'
 have:=Ok.mix (a:=n.toNat) (b:=m.toNat) (t:=(n+m).toNat) (hs x (k0 hx)) (ho y (k0 hy)) (by lia) (by lia)
 rwa [ID (by lia),ID (by lia),ID (by lia)]at this
theorem RP{G B p q:Nat}{x:Rat}{ss:Wp Rat}(hp:p<ss.length)(hq:q<ss.length)(x1:0<x.num)(x2:x.num<=x.den)(hs:∀r∈ss,Ok G B r):∀r∈IP p q x ss,Ok (G*x.den) (2*B*x.den) r:=by
 have dp:=x.den_pos
 have hsp:=hs _ (getD_mem (d:=0) hp)
 have hsq:=hs _ (getD_mem (d:=0) hq)
 have xs:=FL x
 have ex:(x.num:Rat)=((x.num.toNat:Nat):Rat):=(ID (by lia)).symm
 have nz:=Ki x
 intro r hr
 unfold IP at hr
 rcases nK hr with hr|hr
 .rcases nK hr with hr|hr
  .exact(hs r hr).up (by rw[sk];lia)
  .rw[hr]
   obtain⟨z,e,hz⟩:=Ok.mix (a:=x.den-x.num.toNat) (b:=x.num.toNat) (t:=x.den) hsp (Ok.zero (G:=G) (B:=B)) (by lia) dp
   refine⟨z,?_,kY hz (by rw[sk];lia)⟩
   rw[<-e]
   have e2:((x.den-x.num.toNat:Nat):Rat)=(x.den:Rat)-(x.num:Rat):=by
    have:(((x.den-x.num.toNat:Nat):Int):Rat)=((x.den-x.num:Int):Rat):=by
     congr 1;lia
    push_cast at this
    exact this
   rw[e2]
   generalize ss.getD p 0=sp at*
   congr 1
   grind
 .rw[hr]
  obtain⟨z,e1,hz⟩:=hsp
  obtain⟨y,e2,hy⟩:=hsq
  refine⟨y*x.den+z*x.num.toNat,?_,?_⟩
  .generalize ss.getD p 0=sp at*
   generalize ss.getD q 0=sq at*
   push_cast
   rw[<-ex,<-e1,<-e2]
   grind
  .have h1:y*x.den<=B*x.den:=nB _ hy
   have h2:z*x.num.toNat<=B*x.den:=ue hz (by lia)
   rw[sk];lia
theorem HY{f:Rat->Rat->Rat}{a b:Wp Rat}{n:Nat}(h:a.length=n)(g:b.length=n):(tm f a b).length=n:=by rw[List.length_zipWith,h,g];lia
theorem G8{P:Ld->Prop}{i:Nat}{n:Int}(hi:i<st.AE.length)(h:∀x∈st.AE,P x)(g:P ⟨(AQ st.AE i).k,(AQ st.AE i).n-n,(AQ st.AE i).ow⟩):∀x∈less st.AE i n,P x:=by
 intro x hx
 rcases MP hx hi with h1|h1
 .exact h x h1
 .rw[h1];exact g
theorem MW{P:Ld->Prop}{ls:Wp Ld}{y:Ld}(h:∀x∈ls,P x)(g:P y):∀x∈ls++[y],P x:=by
 intro x hx
 rcases k6.mp hx with w|w
 .exact h x w
 .simp at w;rw[w];exact g
structure LOk(t:Tr)(k G B:Nat)(x:Ld):Prop where
 kd:x.k<t.k
 n0:0<=x.n
 n1:x.n<2^(131+k)
 own:x.ow.length=t.p
 ok:∀r∈x.ow,Ok G B r
theorem LOk.up{G B T B':Nat}{x:Ld}(h:LOk t k G B x)(hT:B*T<=B'):LOk t (k+1) (G*T) B' x:=⟨h.kd,h.n0,pO h.n1 (Hl (by lia)),h.own,λr hr=>(h.ok r hr).up hT⟩
theorem LOk.up1{G B:Nat}{x:Ld}(h:LOk t k G B x):LOk t (k+1) G B x:=⟨h.kd,h.n0,pO h.n1 (Hl (by lia)),h.own,h.ok⟩
theorem LOk.less{G B:Nat}{x:Ld}{n:Int}(h:LOk t k G B x)(h0:0<=n)(h1:n<=x.n):LOk t k G B ⟨x.k,x.n-n,x.ow⟩:=⟨h.kd,show 0<=x.n-n by lia,show x.n-n<_ by have:=h.n1;lia,h.own,h.ok⟩
theorem FC.of{G B:Nat}(h1:st.AE.length<=4+k)(h2:∀x∈st.AE,LOk t k G B x)(h3:st.hold.length=t.p)(h4:st.nums.length<=k)(g0:0<G)(g1:G<=B)(g2:B<2^(30+170*k))(h5:∀r∈st.hold,Ok G B r):FC t k st:=⟨h1,λx hx=>(h2 x hx).kd,λx hx=>⟨(h2 x hx).n0,(h2 x hx).n1⟩,λx hx=>(h2 x hx).own,h3,h4,G,B,g0,g1,g2,λx hx=>(h2 x hx).ok,h5⟩
theorem dO{n:Int}(h:n<2^131):n<2^(131+k):=pO h (Hl (by lia))
theorem P1(ht:IU t)(h:FC t k st)(hk:k<=16){d:AS}(hc:Can t st d):FC t (k+1) (step t st d):=by
 obtain⟨G,B,g0,g1,g2,hl,hh⟩:=h.gb
 have L:∀x∈st.AE,LOk t k G B x:=λx hx=>⟨h.kind x hx,(h.pcs x hx).1,(h.pcs x hx).2,h.own x hx,hl x hx⟩
 have g2':B<2^(30+170*(k+1)):=kT g2 (KD (by lia))
 have hlen:=h.len
 have hnm:=h.nm
 cases d with
 |Bn p kd n=>
  obtain⟨h1,h2,h3,h4⟩:=hc
  refine FC.of (G:=G) (B:=B) (by simp[step];lia) (MW (λx hx=>(L x hx).up1) ⟨h2,by show 0<=n;lia,dO h4,by simp[Qe],Z1 g1⟩) h.hold (oX hnm) g0 g1 g2' hh
 |Mz i j=>
  obtain⟨hij,hi,hj,h1,h2,h3⟩:=hc
  have li:=L _ (BL hi)
  have lj:=L _ (BL hj)
  have tl:((AQ st.AE i).n+(AQ st.AE j).n).toNat<2^(132+k):=by
   have a:=li.n1;have b:=lj.n1
   have e:(2:Int)^(132+k)=2^(131+k)*2:=by rw[show 132+k=(131+k)+1 by lia,zX]
   have:(((AQ st.AE i).n+(AQ st.AE j).n).toNat:Int)<((2^(132+k):Nat):Int):=by
    rw[mB (by lia)]
    push_cast
    rw[e];lia
   exact_mod_cast this
  have t0:0<((AQ st.AE i).n+(AQ st.AE j).n).toNat:=by lia
  refine FC.of (G:=G*((AQ st.AE i).n+(AQ st.AE j).n).toNat) (B:=B*((AQ st.AE i).n+(AQ st.AE j).n).toNat) (by simp[step,Bl];lia) (MW ?_ ⟨li.kd,by show 0<=(AQ st.AE i).n+(AQ st.AE j).n;lia,?_,?_,Qy h1 h2 li.ok lj.ok⟩) h.hold (oX hnm) (sZ g0 t0) (nB _ g1) (Ry g2 tl (by lia)) (λr hr=>(hh r hr).up (kR _))
  .have e0:AQ (less st.AE i (AQ st.AE i).n) j=AQ st.AE j:=by
    unfold AQ less
    rw[kg,kW hij,<-kg]
   have A:=G8 (P:=LOk t (k+1) (G*((AQ st.AE i).n+(AQ st.AE j).n).toNat) (B*((AQ st.AE i).n+(AQ st.AE j).n).toNat)) (n:=(AQ st.AE i).n) hi (λx hx=>(L x hx).up (kR _)) ((li.up (kR _)).less (by lia) (Int.le_refl _))
   have A2:=G8 (st:={st with AE:=less st.AE i (AQ st.AE i).n}) (i:=j) (n:=(AQ st.AE j).n) (by simpa[Bl]using hj) A (by
    show LOk _ _ _ _ ⟨(AQ (less st.AE i (AQ st.AE i).n) j).k,(AQ (less st.AE i (AQ st.AE i).n) j).n-_,(AQ (less st.AE i (AQ st.AE i).n) j).ow⟩
    rw[e0]
    exact(lj.up (kR _)).less (by lia) (Int.le_refl _))
   exact A2
  .show(AQ st.AE i).n+(AQ st.AE j).n<2^(131+(k+1))
   have a:=li.n1;have b:=lj.n1
   rw[show 131+(k+1)=(131+k)+1 by lia,zX];lia
  .exact HY li.own lj.own
 |swap i g kd n=>
  obtain⟨hi,h1,h2,h3,h4,h5,h6⟩:=hc
  have li:=L _ (BL hi)
  refine FC.of (G:=G) (B:=B) (by simp[step,Bl];lia) (MW (G8 hi (λx hx=>(L x hx).up1) (li.up1.less (by lia) h2)) ⟨h3,by show 0<=n;lia,dO h6,li.own,li.ok⟩) h.hold (oX hnm) g0 g1 g2' hh
 |BO u i g kd n=>
  obtain⟨hi,h1,h2,h3,h4,h5,h6,h7⟩:=hc
  have li:=L _ (BL hi)
  refine FC.of (G:=G) (B:=B) (by simp[step,Bl];lia) (MW (G8 hi (λx hx=>(L x hx).up1) (li.up1.less (by lia) h2)) ⟨h3,by show 0<=n;lia,dO h6,li.own,li.ok⟩) h.hold (by simp[step];lia) g0 g1 g2' hh
 |Ga i n=>
  obtain⟨hi,h1,h2⟩:=hc
  have li:=L _ (BL hi)
  refine FC.of (G:=G) (B:=B) (by simp[step,Bl];lia) (G8 hi (λx hx=>(L x hx).up1) (li.up1.less (by lia) h2)) h.hold (oX hnm) g0 g1 g2' hh
 |thr i n ws=>
  obtain⟨hi,h1,h2,h3,h4⟩:=hc
  have li:=L _ (BL hi)
  have W:=Jm ht h (by lia) h3 h4
  have wl:(Ef t st.AE ws).toNat<2^(145+k):=by
   have:((Ef t st.AE ws).toNat:Int)<((2^(145+k):Nat):Int):=by
    rw[mB (by lia)];push_cast;exact W.2
   exact_mod_cast this
  have bo:=λ{ss:Wp Rat} (hs:∀r∈ss,Ok G B r)=>Rt ht h (by lia) h3 h4 hi h1 h2 li.ok hs
  refine FC.of (G:=G*(Ef t st.AE ws).toNat) (B:=B*(Ef t st.AE ws).toNat) (by simp[step,Bl];lia) ?_ (HY h.hold li.own) (oX hnm) (sZ g0 (by lia)) (nB _ g1) (Ry g2 wl (by lia)) (bo hh)
  intro x hx
  obtain⟨y,hy,rfl⟩:=lI.mp hx
  have ly:=G8 (P:=LOk t k G B) hi L (li.less (n:=n) (by lia) h2) y hy
  exact⟨ly.kd,ly.n0,ly.up1.n1,HY ly.own li.own,bo ly.ok⟩
 |Jk p q x=>
  obtain⟨h1,h2,h3,h4,h5,h6⟩:=hc
  have dp:=x.den_pos
  refine FC.of (G:=G*x.den) (B:=2*B*x.den) (by simp[step];lia) ?_ (by simp[step,IP,h.hold]) (oX hnm) (sZ g0 dp) (nB _ (by lia)) ?_ (RP (by rw[h.hold];exact h2) (by rw[h.hold];exact h3) h4 h5 hh)
  .intro y hy
   obtain⟨z,hz,rfl⟩:=lI.mp hy
   have lz:=L z hz
   exact⟨lz.kd,lz.n0,lz.up1.n1,by simp[IP,lz.own],RP (by rw[lz.own];exact h2) (by rw[lz.own];exact h3) h4 h5 lz.ok⟩
  .have:=Ry (B:=B) (T:=2*x.den) (j:=5) g2 (by lia) (by lia)
   rw[show 2*B*x.den=B*(2*x.den) by rw[<-sk,pI 2 B]]
   exact this
end
theorem G9{α:Type}{f:α->D}:∀{xs:Wp α},(∀x∈xs,(f x).lay=true)->D.LM (xs.map f)=true
 | [],_=>rfl
 |x::xs,h=>by
  show((f x).lay && D.LM (xs.map f))=true
  rw[h x kc,G9 λy hy=>h y (kU _ hy)]
  rfl
theorem PF{ds:Wp D}(h:D.LM ds=true):Dm (.lst ds) (.lst [])=true:=by
 unfold Dm
 show(D.LM ds && true && _)=true
 rw[h]
 simp only[pY,v3]
 exact kY (wF _ _) (by decide)
noncomputable def Bb(is:Wp Nat):Wp D:=is.map λ(i:Nat)=>D.int i
theorem KQ{is:Wp Nat}:Dm (.lst (Bb is)) (.lst [])=true:=PF (G9 λ_ _=>rfl)
theorem VJ{d:D}{ds:Wp D}:deq (.lst (d::ds)) (.lst [])=false:=rfl
theorem Yd:deq (.lst []) (.lst [])=true:=rfl
theorem Ma{is:Wp Nat}:deq (.lst (Bb is)) (.lst [])=is.isEmpty:=by
 cases is with
 |nil=>exact Yd
 |cons i is=>exact VJ
theorem Jw{ds:Wp D}:Mw 0 ds=(lT ds.length).map λ(i:Nat)=>D.tup [.int i,ds.getD i .non]:=by
 apply vw
 intro i
 rw[Jp,lC]
 by_cases h:i<ds.length
 .rw[kS h,List.getElem?_range h]
  simp[kS h]
 .rw[uH (by lia),uH (by simp;lia)]
  rfl
theorem F2{is:Wp Nat}:(Bb is).length=is.length:=by simp[Bb]
theorem GU{is:Wp Nat}{r:Int}(h0:0<=r)(h1:r<is.length):∃i∈is,atI (Bb is) r=Gc (.int (i:Nat)):=by
 have h2:r.toNat<is.length:=by lia
 refine⟨is[r.toNat],ny h2,?_⟩
 have:=Xh (xs:=Bb is) h0 (by rw[F2];exact h1)
 rw[this]
 simp[Bb]
theorem Og{x K:Int}(h0:0<=x)(h1:x<2*K):x % K=if x<K then x else x-K:=by
 split
 .exact v5 h0 (by assumption)
 .have:x % K=(x-K) % K:=by rw[Int.sub_emod_right]
  rw[this]
  exact v5 (by lia) (by lia)
section
variable{S:Sto}{p s l m:Nat}{as:Wp Nat}{st:Stt}{t:Tr}{k:Nat}
noncomputable def Az(st:Stt):Wp Nat:=(lT st.AE.length).filter λi=>decide (0<(AQ st.AE i).n)
theorem Rp(hS:SAt S s l m as st)(hl:st.AE.length<=50):CH [(l,as.map D.ref)] (tTp [tNm 0,tNm 1]) (eOp (o2 wGt) [eOp (o2 wIx) [eV 1,eC (.int 1)],eC (.int 0)]) (eV 0) (Mw 0 (as.map D.ref)) [] [none,none] S=Gc (Bb (Az st),S):=by
 have:=DH (gs:=[(l,as.map D.ref)]) (t:=tTp [tNm 0,tNm 1]) (c:=eOp (o2 wGt) [eOp (o2 wIx) [eV 1,eC (.int 1)],eC (.int 0)]) (f:=eV 0) (C:=[]) (m:=2) (e:=λi:Nat=>D.tup [.int i,(as.map D.ref).getD i .non]) (g:=λi:Nat=>D.int i) (b:=λi=>decide (0<(AQ st.AE i).n)) (S:=S) hS.guard (xs:=lT st.AE.length) (acc:=[]) (os:=[none,none]) rfl (kY (show _<=50 by simp;lia) (AN (by decide))) (by
  intro i hi os ho
  obtain⟨o1,o2,rfl⟩:=eX ho
  obtain⟨a,a1,a2,a3⟩:=hS.at (oq.mp hi)
  have e:(as.map D.ref).getD i .non=.ref a:=by simp[a1]
  rw[e]
  refine⟨[Gc (.int i),Gc (.ref a)],rfl,by simp,?_,by simp⟩
  simp[Ap a2,B5])
 rw[Jw,ky,hS.len]
 exact this
theorem Ho{i:Nat}(h:i∈Az st):i<st.AE.length/\0<(AQ st.AE i).n:=by
 unfold Az at h
 rw[nH]at h
 exact⟨oq.mp h.1,by simpa using h.2⟩
noncomputable def EO(st:Stt)(j:Nat):Wp Nat:=(Az st).filter λi=> !(i==j) && ((AQ st.AE i).k==(AQ st.AE j).k)
theorem Jq:(Az st).length<=st.AE.length:=by
 unfold Az
 exact kY (pf _ _) (by simp)
theorem Ud{a b:Nat}:((a:Int)==(b:Int))=(a==b):=by
 by_cases h:a=b
 .subst h;simp
 .have:((a:Int)==(b:Int))=false:=by simp;lia
  rw[this];simp[h]
theorem Yv(hS:SAt S s l m as st)(hl:st.AE.length<=50){j:Nat}(hj:j∈Az st):CH [] (tNm 2) (IW (eOp (o2 wNe) [eV 2,eV 1]) (eOp (o2 wEq) [eOp (o2 wIx) [eOp (o2 wIx) [eV 0,eV 2],eC (.int 0)],eOp (o2 wIx) [eOp (o2 wIx) [eV 0,eV 1],eC (.int 0)]])) (eV 2) (Bb (Az st)) [] [Gc (.ref l),Gc (.int j),none] S=Gc (Bb (EO st j),S):=by
 have fl:=Jq (st:=st)
 exact DH (gs:=[]) (t:=tNm 2) (f:=eV 2) (C:=[Gc (.ref l),Gc (.int j)]) (m:=1) (e:=λi:Nat=>D.int i) (g:=λi:Nat=>D.int i) (b:=λi=> !(i==j) && ((AQ st.AE i).k==(AQ st.AE j).k)) (S:=S) As (xs:=Az st) (acc:=[]) (os:=[none]) rfl (kY (show _<=50 by simp;lia) (AN (by decide))) (by
  intro i hi os ho
  obtain⟨o1,rfl⟩:=Qh ho
  obtain⟨a,a1,a2,a3⟩:=hS.at (Ho hi).1
  obtain⟨b,b1,b2,b3⟩:=hS.at (Ho hj).1
  refine⟨[Gc (.int i)],rfl,by simp,?_,by simp⟩
  by_cases e:i=j
  .subst e
   simp
  .have e':((i:Int)==(j:Int))=false:=by simp;lia
   have e2:(i==j)=false:=by simp[e]
   simp[e',e2,Ap hS.lo,a3,b3,Ap a2,Ap b2,B5,Ud])
theorem UX{i j:Nat}(h:i∈EO st j):i∈Az st/\i≠j/\(AQ st.AE i).k=(AQ st.AE j).k:=by
 unfold EO at h
 rw[nH]at h
 simp at h
 exact⟨h.1,h.2.1,h.2.2⟩
noncomputable def El(st:Stt):Wp Nat:=(lT 10).filter λi=> !(st.nums.any λu=>u==(i:Int))
theorem MX{us:Wp Int}{i:Int}:inD (.int i) (us.map D.int)=us.any λu=>u==i:=by
 unfold inD
 rw[zT]
 rfl
@[simp] theorem eR{b:Bool}{w:Wv}{r:List D}:wIn b w (.own r)=if(HP (fz w) && r.all HP)=true then some (.val (.bl (if b then !inD (fz w) r else inD (fz w) r)))else none:=nr rfl
@[simp] theorem dz{b:Bool}{w:Wv}{r:List D}:wIn b w (.val (.lst r))=if(HP (fz w) && r.all HP)=true then some (.val (.bl (if b then !inD (fz w) r else inD (fz w) r)))else none:=nr rfl
theorem J3{us:Wp Int}:(us.map D.int).all HP=true:=by
 rw[zD,List.all_eq_true]
 intro x _;rfl
@[simp] theorem gv{i:Int}:HP (.int i)=true:=nr rfl
theorem Xs(hS:SAt S s l m as st):CH [] (tNm 1) (eOp (o2 (wIn true)) [eV 1,eV 0]) (eV 1) (Kx 0 10) [] [Gc (.ref m),none] S=Gc (Bb (El st),S):=by
 exact DH (gs:=[]) (t:=tNm 1) (f:=eV 1) (C:=[Gc (.ref m)]) (m:=1) (e:=λi:Nat=>D.int (0+(i:Int))) (g:=λi:Nat=>D.int i) (b:=λi=> !(st.nums.any λu=>u==(i:Int))) (S:=S) As (xs:=lT 10) (acc:=[]) (os:=[none]) rfl (kY (show _<=50 by simp) (AN (by decide))) (by
  intro i hi os ho
  obtain⟨o1,rfl⟩:=Qh ho
  refine⟨[Gc (.int i)],rfl,by simp,?_,by simp⟩
  have nu:=Ap hS.nu
  have fi:=J3 (us:=st.nums)
  have ii:=MX (us:=st.nums) (i:=(i:Int))
  generalize st.nums.map D.int=ud at*
  generalize (st.nums.any λu=>u==(i:Int))=bb at*
  simp[nu,fi,ii])
theorem U3{i:Nat}(h:i∈El st):(i:Int)∉st.nums/\i<=9:=by
 unfold El at h
 rw[nH]at h
 have h1:=oq.mp h.1
 refine⟨?_,by lia⟩
 intro z
 have h2:=h.2
 have:(st.nums.any λu=>u==(i:Int))=true:=oA.mpr ⟨_,z,by simp⟩
 rw[this]at h2
 cases h2
theorem VD:(El st).length<=10:=by
 unfold El
 exact kY (pf _ _) (by simp)
theorem Vf{j:Nat}:(EO st j).length<=st.AE.length:=by
 unfold EO
 exact kY (pf _ _) Jq
end
section
variable{S:Sto}{p s l m:Nat}{as:Wp Nat}{st:Stt}{t:Tr}{k:Nat}
def SS:Ex:=(AY (xIf (IW (eOp (o2 wEq) [eV 7,eC (.int 7)]) (eOp (o2 wNe) [eV 12,IC []])) (Bm (Be [eC (.str "trade"),eOp (o2 wIx) [eV 12,AJ AH [eV 0,eOp (o1 HK) [eV 12]]],eV 8,eV 9,eV 11,AJ A8 [eV 0]])) DU)
    (Bm (Be [eC (.str "swap"),eV 8,eV 9,eV 11,AJ A8 [eV 0]])))
def P9:Ex:=(AY (xIf (eOp (o2 wEq) [eV 7,eC (.int 8)]) (Bm (Be [eC (.str "spoil"),eV 8,eV 9])) DU)
    (AY (xIf (IW (eOp (o2 wEq) [eV 7,eC (.int 9)]) (eOp (o2 wGt) [eOp (o2 wIx) [eV 1,eC (.int 0)],eC (.int 1)])) (AY (BK 13 (AJ AH [eV 0,eOp (o2 wIx) [eV 1,eC (.int 0)]]))
    (Bm (Be [eC (.str "sell"),eV 13,eOp (o2 OM) [eOp (o2 Bv) [eOp (o2 Bv) [eV 13,eC (.int 1)],AJ AH [eV 0,eOp (o2 Oh) [eOp (o2 wIx) [eV 1,eC (.int 0)],eC (.int 1)]]],eOp (o2 wIx) [eV 1,eC (.int 0)]],AJ E8 [eV 0]]))) DU)
    (Bm (Be [eC (.str "throw"),eV 8,eV 9,AJ C7 [eV 0,eOp (o2 Bv) [eOp (o2 wIx) [eV 1,eC (.int 1)],eC (.int 1)]]]))))
def Nu:Ex:=(AY (xIf (IW (eOp (o2 wLt) [eV 7,eC (.int 8)]) (eOp (o2 wGt) [eOp (o2 wIx) [eV 1,eC (.int 1)],eC (.int 1)])) (AY (BK 11 (eOp (o2 OM) [eOp (o2 Bv) [eOp (o2 Bv) [eOp (o2 wIx) [eOp (o2 wIx) [eV 3,eV 8],eC (.int 0)],eC (.int 1)],AJ AH [eV 0,eOp (o2 Oh) [eOp (o2 wIx) [eV 1,eC (.int 1)],eC (.int 1)]]],eOp (o2 wIx) [eV 1,eC (.int 1)]]))
    (AY (BK 12 (EI [5] 1 (M8 [eC (.int 10)]) (tNm 1) (eOp (o2 (wIn true)) [eV 1,eV 0]) (eV 1)))
    SS)) DU) P9)
def TX:Ex:=(xIf (eOp (o2 wLt) [eV 7,eC (.int 5)]) (AY (BK 10 (EI [3,8] 1 (IV (eV 6)) (tNm 2) (IW (eOp (o2 wNe) [eV 2,eV 1]) (eOp (o2 wEq) [eOp (o2 wIx) [eOp (o2 wIx) [eV 0,eV 2],eC (.int 0)],eOp (o2 wIx) [eOp (o2 wIx) [eV 0,eV 1],eC (.int 0)]])) (eV 2)))
    (xIf (eOp (o2 wNe) [eV 10,IC []]) (Bm (Be [eC (.str "pool"),eV 8,eOp (o2 wIx) [eV 10,AJ AH [eV 0,eOp (o1 HK) [eV 10]]]])) DU)) DU)
def Sm:AS->Prop
 | .BO _ _ g _ n=>g<=2000/\n<2^130
 |_=>uL
def WE:Ex:=(AY (xIf (eOr (eOp (o2 wLt) [eV 7,eC (.int 2)]) (eOp (o2 wEq) [eV 6,IC []])) (Bm (Be [eC (.str "bring"),AJ AH [eV 0,eOp (o2 wIx) [eV 1,eC (.int 0)]],AJ AH [eV 0,eOp (o2 wIx) [eV 1,eC (.int 1)]],AJ A8 [eV 0]])) DU)
    (AY (BK 8 (eOp (o2 wIx) [eV 6,AJ AH [eV 0,eOp (o1 HK) [eV 6]]]))
    (AY (BK 9 (eOp (o2 Bv) [eC (.int 1),AJ AH [eV 0,eOp (o2 Wr) [eOp (o2 wIx) [eOp (o2 wIx) [eV 3,eV 8],eC (.int 1)],eC (.int 2000)]]]))
    (AY TX Nu))))
theorem Ub:LH=(AY (OB (tTp [tNm 3,tNm 4,tNm 5]) (eV 2)) (AY (BK 6 (EI [] 2 (Ta (eV 3)) (tTp [tNm 0,tNm 1]) (eOp (o2 wGt) [eOp (o2 wIx) [eV 1,eC (.int 1)],eC (.int 0)]) (eV 0))) (AY (BK 7 (AJ AH [eV 0,eC (.int 12)])) WE))):=rfl
theorem WI(hp:CP p S)(hS:SAt S s l m as st)(hps:p∉s::l::m::as)(ht:IU t)(h:FC t k st)(hk:k<=16):∃d S',De [.ref p,t.d,.ref s] S=Gc (AS.d d,S')/\Pn p S S'/\Can t st d/\Sm d:=by
 obtain⟨t1,t2,t3,t4,t5,t6⟩:=ht
 have hlen:=h.len
 have st':∀{S':Sto},Pn p S S'->SAt S' s l m as st:=λg=>hS.same g.same (by simpa using hps)
 have r0:=AR hS.root
 have cf:=Rp hS (by lia)
 have fl:=Jq (st:=st)
 have sq:=DZ hS.lo
 obtain⟨way,S1,e1,a1,b1,p1⟩:=Af hp (n:=12) (by decide) (by decide)
 have okF:=KQ (is:=Az st)
 have dqF:=Ma (is:=Az st)
 have pr0:De [.ref p,t.d,.ref s] S=(WE [Gc (.ref p),Gc t.d,Gc (.ref s),Gc (.ref l),Gc (shD st.hold),Gc (.ref m),Gc (.lst (Bb (Az st))),Gc (.int way),none,none,none,none,none,none] S1).map λr=>(flD r.1,r.2.2):=by
  simp[De,Ub,r0,sq,cf,e1]
 by_cases hb:way<2\/(Az st).isEmpty=true
 .obtain⟨x2,S2,e2,a2,b2,p2⟩:=Af p1.pen (n:=t.p) (by lia) (by lia)
  obtain⟨x3,S3,e3,a3,b3,p3⟩:=Af p2.pen (n:=t.k) (by lia) (by lia)
  obtain⟨x4,S4,e4,p4,a4,b4⟩:=KI p3.pen
  obtain⟨x2,rfl⟩:=FJ a2
  obtain⟨x3,rfl⟩:=FJ a3
  refine⟨.Bn x2 x3 x4,S4,?_,((p1.trans p2).trans p3).trans p4,⟨by lia,by lia,a4,b4⟩,trivial⟩
  rw[pr0]
  have ho:∀(x y:Ex),xIf (eOr (eOp (o2 wLt) [eV 7,eC (.int 2)]) (eOp (o2 wEq) [eV 6,IC []])) x y [Gc (.ref p),Gc t.d,Gc (.ref s),Gc (.ref l),Gc (shD st.hold),Gc (.ref m),Gc (.lst (Bb (Az st))),Gc (.int way),none,none,none,none,none,none] S1=x [Gc (.ref p),Gc t.d,Gc (.ref s),Gc (.ref l),Gc (shD st.hold),Gc (.ref m),Gc (.lst (Bb (Az st))),Gc (.int way),none,none,none,none,none,none] S1:=by
   intro x y
   by_cases hw:way<2
   .simp[hw]
   .simp[hw,okF,dqF,hb.resolve_left hw]
  simp[WE,-Rk,ho]
  simp[Tr.d,e2,e3,e4,AS.d]
 .have hw2:¬way<2:=λz=>hb (.inl z)
  have hf:(Az st).isEmpty=false:=by
   cases z:(Az st).isEmpty with
   |true=>exact absurd (.inr z) hb
   |false=>rfl
  have hfl:0<(Az st).length:=by
   cases z:Az st with
   |nil=>rw[z]at hf;cases hf
   |cons a b=>simp
  obtain⟨rl,S2,e2,a2,b2,p2⟩:=Af p1.pen (n:=(Az st).length) (by lia) (by lia)
  obtain⟨i,mi,ei⟩:=GU a2 b2
  have fi:=Ho mi
  have hS1:=st' p1
  have hS2:=st' (p1.trans p2)
  obtain⟨a,x1,x2,x3⟩:=hS2.at fi.1
  have n1:=fi.2
  obtain⟨rs,S3,e3,a3,b3,p3⟩:=Af p2.pen (n:=if 2000<(AQ st.AE i).n then 2000 else(AQ st.AE i).n) (by split<;>lia) (by split<;>lia)
  have hsome:1<=1+rs/\1+rs<=(AQ st.AE i).n:=by split at b3<;>lia
  have p23:=(p1.trans p2).trans p3
  have hS3:=st' p23
  have lo2:=Ap hS2.lo
  have lo3:=Ap hS3.lo
  have x2':=Ap x2
  have x4:S3[a]?=Gc (B5 (AQ st.AE i)):=hS3.ld i a _ x1 (GJ fi.1)
  have x4':=Ap x4
  have kd:=h.kind _ (BL fi.1)
  have nl:=F2 (is:=Az st)
  have cs:=Yv hS3 (by lia) mi
  have okS:=KQ (is:=EO st i)
  have dqS:=Ma (is:=EO st i)
  have sl:=Vf (st:=st) (j:=i)
  have nls:=F2 (is:=EO st i)
  have pre:De [.ref p,t.d,.ref s] S=((TX [Gc (.ref p),Gc t.d,Gc (.ref s),Gc (.ref l),Gc (shD st.hold),Gc (.ref m),Gc (.lst (Bb (Az st))),Gc (.int way),Gc (.int i),Gc (.int (1+rs)),none,none,none,none] S3).bind (ZU Nu)).map λr=>(flD r.1,r.2.2):=by
   rw[pr0]
   simp[WE,hw2,okF,dqF,hf,nl,e2,ei,lo2,x3,x2',e3]
  have tail:∀o10,(way<5->(EO st i).isEmpty=true)->∃d S',(Nu [Gc (.ref p),Gc t.d,Gc (.ref s),Gc (.ref l),Gc (shD st.hold),Gc (.ref m),Gc (.lst (Bb (Az st))),Gc (.int way),Gc (.int i),Gc (.int (1+rs)),o10,none,none,none] S3).map (λr=>(flD r.1,r.2.2))=Gc (AS.d d,S')/\Pn p S S'/\Can t st d/\Sm d:=by
   intro o10 _
   generalize hE:([Gc (.ref p),Gc t.d,Gc (.ref s),Gc (.ref l),Gc (shD st.hold),Gc (.ref m),Gc (.lst (Bb (Az st))),Gc (.int way),Gc (.int i),Gc (.int (1+rs)),o10,none,none,none]:En)=E
   clear pre cs okS dqS
   by_cases hsw:way<8/\1<t.k
   .obtain⟨hw8,hk1⟩:=hsw
    have hk1':(1:Int)<t.k:=by lia
    obtain⟨rk,S4,e4,a4,b4,p4⟩:=Af p3.pen (n:=(t.k:Int)-1) (by lia) (by lia)
    have hS4:=st' (p23.trans p4)
    have hmod:=Og (x:=((AQ st.AE i).k:Int)+1+rk) (K:=t.k) (by lia) (by lia)
    obtain⟨kd2,ekd⟩:∃q:Nat,((AQ st.AE i).k+1+rk) % (t.k:Int)=(q:Int):=⟨_,(mB (nX _ (by lia))).symm⟩
    have hkd:kd2<t.k/\kd2≠(AQ st.AE i).k:=by
     rw[ekd]at hmod
     split at hmod<;>lia
    have kp:0<t.k:=by lia
    have cl:=Xs hS4
    have okL:=KQ (is:=El st)
    have dqL:=Ma (is:=El st)
    have ll:=VD (st:=st)
    have nll:=F2 (is:=El st)
    have rt:IL 10=true:=Dp (by decide) (by decide)
    have mid:Nu E S3=(SS [Gc (.ref p),Gc t.d,Gc (.ref s),Gc (.ref l),Gc (shD st.hold),Gc (.ref m),Gc (.lst (Bb (Az st))),Gc (.int way),Gc (.int i),Gc (.int (1+rs)),o10,Gc (.int kd2),Gc (.lst (Bb (El st))),none] S4).bind (ZU P9):=by
     subst hE
     simp[Nu,Tr.d,x3,hw8,hk1',lo3,x4',e4,kp,ekd,rt,cl]
    rw[mid]
    clear mid hE
    by_cases htr:way=7/\(El st).isEmpty=false
    .obtain⟨hw7,hle⟩:=htr
     have hll:0<(El st).length:=by
      cases z:El st with
      |nil=>rw[z]at hle;cases hle
      |cons a b=>simp
     obtain⟨ru,S5,e5,a5,b5,p5⟩:=Af p4.pen (n:=(El st).length) (by lia) (by lia)
     obtain⟨u,mu,eu⟩:=GU a5 b5
     obtain⟨x6,S6,e6,p6,a6,b6⟩:=Ll p5.pen
     have fu:=U3 mu
     refine⟨.BO u i (1+rs) kd2 x6,S6,?_,((p23.trans p4).trans p5).trans p6,⟨fi.1,hsome.1,hsome.2,hkd.1,hkd.2,a6,nQ b6 (by decide),fu.1,by lia,by lia⟩,by split at b3<;>lia,b6⟩
     subst hw7
     simp[SS,okL,dqL,hle,nll,e5,eu,e6,AS.d]
    .obtain⟨x6,S6,e6,p6,a6,b6⟩:=KI p4.pen
     refine⟨.swap i (1+rs) kd2 x6,S6,?_,(p23.trans p4).trans p6,⟨fi.1,hsome.1,hsome.2,hkd.1,hkd.2,a6,b6⟩,trivial⟩
     by_cases h7:way=7
     .subst h7
      have hle:(El st).isEmpty=true:=by
       cases z:(El st).isEmpty with
       |true=>rfl
       |false=>exact absurd ⟨rfl,z⟩ htr
      simp[SS,okL,dqL,hle,e6,AS.d]
     .have h7':(way==7)=false:=by simpa using h7
      simp[SS,h7',e6,AS.d]
   .have sw:Nu E S3=P9 E S3:=by
     subst hE
     by_cases w8:way<8
     .have hk1:¬(1:Int)<t.k:=by lia
      simp[Nu,Tr.d,w8,hk1]
     .simp[Nu,w8]
    rw[sw]
    clear sw
    by_cases h8:way=8
    .subst h8
     refine⟨.Ga i (1+rs),S3,?_,p23,⟨fi.1,hsome.1,hsome.2⟩,trivial⟩
     subst hE
     simp[P9,AS.d]
    .have h8':(way==8)=false:=by simpa using h8
     by_cases h9:way=9/\1<t.p
     .obtain⟨h9,hP⟩:=h9
      subst h9
      have hP':(1:Int)<t.p:=by lia
      obtain⟨rp,S4,e4,a4,b4,p4⟩:=Af p3.pen (n:=t.p) (by lia) (by lia)
      obtain⟨rq,S5,e5,a5,b5,p5⟩:=Af p4.pen (n:=(t.p:Int)-1) (by lia) (by lia)
      obtain⟨sh,S6,e6,p6,a6,b6,c6⟩:=VC p5.pen
      have hmod:=Og (x:=rp+1+rq) (K:=t.p) (by lia) (by lia)
      obtain⟨q,eq⟩:∃q:Nat,(rp+1+rq) % (t.p:Int)=(q:Int):=⟨_,(mB (nX _ (by lia))).symm⟩
      obtain⟨rp,rfl⟩:=FJ a4
      have hq:q<t.p/\q≠rp:=by
       rw[eq]at hmod
       split at hmod<;>lia
      have pp:0<t.p:=by lia
      refine⟨.Jk rp q sh,S6,?_,((p23.trans p4).trans p5).trans p6,⟨λz=>hq.2 z.symm,by lia,hq.1,a6,b6,c6⟩,trivial⟩
      subst hE
      simp[P9,Tr.d,hP',e4,e5,pp,eq,e6,AS.d]
     .have s9:∀(x y:Ex) (T:Sto),xIf (IW (eOp (o2 wEq) [eV 7,eC (.int 9)]) (eOp (o2 wGt) [eOp (o2 wIx) [eV 1,eC (.int 0)],eC (.int 1)])) x y E T=y E T:=by
       intro x y T
       subst hE
       by_cases z:way=9
       .have hP:¬(1:Int)<t.p:=by have:¬1<t.p:=λw=>h9 ⟨z,w⟩;lia
        subst z
        simp[Tr.d,hP]
       .have z':(way==9)=false:=by simpa using z
        simp[z']
      obtain⟨ws,S4,e4,p4,a4,b4⟩:=RH p3.pen (n:=t.k+1) (by lia)
      have e4':C7 [.ref p,.int ((t.k:Int)+1)] S3=Gc (.tup (ws.map .int),S4):=e4
      refine⟨.thr i (1+rs) ws,S4,?_,p23.trans p4,⟨fi.1,hsome.1,hsome.2,a4,b4⟩,trivial⟩
      have s8:∀(x y:Ex) (T:Sto),xIf (eOp (o2 wEq) [eV 7,eC (.int 8)]) x y E T=y E T:=by
       intro x y T
       subst hE
       simp[h8']
      simp[P9,-Rk,s8,s9]
      subst hE
      simp[Tr.d,e4',AS.d]
  by_cases hpool:way<5/\(EO st i).isEmpty=false
  .obtain⟨hw5,hse⟩:=hpool
   have hsl:0<(EO st i).length:=by
    cases z:EO st i with
    |nil=>rw[z]at hse;cases hse
    |cons a b=>simp
   obtain⟨rj,S4,e4,a4,b4,p4⟩:=Af p3.pen (n:=(EO st i).length) (by lia) (by lia)
   obtain⟨j,mj,ej⟩:=GU a4 b4
   have fj:=UX mj
   have fj':=Ho fj.1
   refine⟨.Mz i j,S4,?_,p23.trans p4,⟨λz=>fj.2.1 z.symm,fi.1,fj'.1,n1,fj'.2,fj.2.2.symm⟩,trivial⟩
   rw[pre]
   simp[TX,hw5,cs,okS,dqS,hse,nls,e4,ej,AS.d]
  .by_cases w5:way<5
   .have hse:(EO st i).isEmpty=true:=by
     cases z:(EO st i).isEmpty with
     |true=>rfl
     |false=>exact absurd ⟨w5,z⟩ hpool
    obtain⟨d,S',e,pn,hc⟩:=tail (Gc (.lst (Bb (EO st i)))) (λ_=>hse)
    refine⟨d,S',?_,pn,hc⟩
    rw[pre,<-e]
    simp[TX,w5,cs,okS,dqS,hse]
   .obtain⟨d,S',e,pn,hc⟩:=tail none (λz=>absurd z w5)
    refine⟨d,S',?_,pn,hc⟩
    rw[pre,<-e]
    simp[TX,w5]
end
noncomputable def runs(t:Tr)(st:Stt)(ds:Wp AS):Stt:=ds.foldl (step t) st
def Gs(t:Tr):Stt->Wp AS->Prop
 |_,[]=>uL
 |st,d::ds=>Can t st d/\Gs t (step t st d) ds
theorem Ie{t:Tr}{d:AS}:∀{ds:Wp AS} {st:Stt},Gs t st ds->Can t (runs t st ds) d->Gs t st (ds++[d])
 | [],st,_,h=>⟨h,trivial⟩
 |x::ds,st,h,g=>⟨h.1,Ie h.2 g⟩
theorem MQ{t:Tr}:∀{ds:Wp AS} {st:Stt} {i:Nat} {d:AS},Gs t st ds->ds[i]?=Gc d->Can t (runs t st (ds.take i)) d
 |x::ds,st,0,d,h,g=>by
  simp at g;subst g
  exact h.1
 |x::ds,st,i+1,d,h,g=>by
  simp at g
  show Can t (runs t (step t st x) (ds.take i)) d
  exact MQ h.2 g
theorem Kv{t:Tr}{st:Stt}{ds:Wp AS}{d:AS}:runs t st (ds++[d])=step t (runs t st ds) d:=by simp[runs]
theorem NP{t:Tr}{st:Stt}{ds:Wp AS}{i:Nat}{d:AS}(h:ds[i]?=Gc d):runs t st (ds.take (i+1))=step t (runs t st (ds.take i)) d:=by
 rw[xM,h]
 exact Kv
theorem Ju{t:Tr}(ht:IU t):∀{ds:Wp AS} {st:Stt} {k:Nat},FC t k st->Gs t st ds->k+ds.length<=17->FC t (k+ds.length) (runs t st ds)
 | [],st,k,h,_,_=>h
 |d::ds,st,k,h,g,hl=>by
  have:=Ju ht (ds:=ds) (P1 ht h (by simp at hl;lia) g.1) g.2 (by simp at hl;lia)
  rw[show k+(d::ds).length=k+1+ds.length by simp;lia]
  exact this
theorem IZ{t:Tr}:∀{ds:Wp AS} {st:Stt} {i:Nat},Gs t st ds->Gs t st (ds.take i)
 | [],st,i,h=>by simp;exact trivial
 |d::ds,st,0,h=>trivial
 |d::ds,st,i+1,h=>⟨h.1,IZ h.2⟩
noncomputable def st0(t:Tr)(ls:Wp Ld):Stt:=⟨ls,t.ho,[]⟩
structure JL(t:Tr)(ls:Wp Ld)(ds:Wp AS):Prop where
 tr:IU t
 inv:FC t 0 (st0 t ls)
 good:Gs t (st0 t ls) ds
 len:ds.length<=16
theorem JL.at{t:Tr}{ls:Wp Ld}{ds:Wp AS}(h:JL t ls ds)(i:Nat):FC t (ds.take i).length (runs t (st0 t ls) (ds.take i)):=by
 have:=Ju h.tr (ds:=ds.take i) h.inv (IZ h.good) (by have:=h.len;simp;lia)
 rwa [ql]at this
noncomputable def Aw(t:Tr)(ls:Wp Ld)(ds:Wp AS):D:=.tup [t.d,.tup (ls.map Ld.d),.tup (ds.map AS.d)]
theorem Qq{t:Tr}{ls:Wp Ld}(h:F7 t ls)(hl:ls.length<=4)(h1:t.ho.length=t.p){g:Nat}(g0:0<g)(g1:g<=32)(g2:∀r∈t.ho,Ok g g r):FC t 0 (st0 t ls):=by
 obtain⟨ha,G,G0,G1,G2⟩:=h
 have hG:G<=32^4:=kY G1 (m9 (by decide) hl)
 have hB:G*g<2^30:=by
  have:=ue hG g1
  lia
 refine FC.of (G:=G*g) (B:=G*g) (by simpa[st0]using hl) ?_ h1 (kR _) (sZ G0 g0) (kR _) hB ?_
 .intro x hx
  have:=ha x hx
  exact⟨this.1,by lia,dO this.2.2.1,this.2.2.2.1,λr hr=>(G2 x hx r hr).up (kR _)⟩
 .intro r hr
  have:=(g2 r hr).up (t:=G) (B':=G*g) (by rw[pI];exact kR _)
  rwa [pI g G]at this
noncomputable def Hk:AS->lM
 | .thr .. =>true
 |_=>false
section
variable{S:Sto}{p:Nat}
theorem V6(d:AS)(E:En)(h:E=[Gc d.d]):eOp (o2 wEq) [eOp (o2 wIx) [eV 0,eC (.int 0)],eC (.str "throw")] E S=Gc (.bl (Hk d),S):=by
 subst h
 cases d<;>simp[AS.d,Hk]
theorem jd{q:Nat}{ds:Wp AS}(hq:S[q]?=Gc (.lst (ds.map AS.d)))(hl:ds.length<=50):CH [(q,ds.map AS.d)] (tNm 0) (eOp (o2 wEq) [eOp (o2 wIx) [eV 0,eC (.int 0)],eC (.str "throw")]) (eV 0) (ds.map AS.d) [] [none] S=Gc ((ds.filter Hk).map AS.d,S):=
 DH (gs:=[(q,ds.map AS.d)]) (t:=tNm 0) (f:=eV 0) (C:=[]) (m:=1) (e:=AS.d) (g:=AS.d) (b:=Hk) (S:=S) (λg hg=>by rw[kr.mp hg];exact AR hq) (xs:=ds) (acc:=[]) (os:=[none]) rfl (kY (show _<=50 by simp;lia) (AN (by decide))) (by
  intro d _ os ho
  obtain⟨o1,rfl⟩:=Qh ho
  exact⟨[Gc d.d],rfl,by simp,V6 d _ rfl,by simp⟩)
theorem Um{M:Nat}(hM:M<=16)(h:CP p S):∃t ls ds S',Cf [.ref p,.int M] S=Gc (Aw t ls ds,S')/\(JL t ls ds/\ds.length<=M/\∀d∈ds,Sm d)/\((∀l∈ls,l.ow.sum=1)/\t.ho.sum=1)/\CP p S'/\∀n c,S[n]?=Gc c->n≠p->S'[n]?=Gc c:=by
 obtain⟨t,S1,e1,p1,ht,hh,g,g0,g1,g2⟩:=UL h
 obtain⟨ls,S2,e2,p2,hf,hl⟩:=U8 p1.pen ht
 have hi:=Qq hf hl hh.1 g0 g1 g2
 obtain⟨s,l,m,as,S3,e3,hS,sm,hn⟩:=Pa (S:=S2) (t:=t) (ls:=ls) (x:=.tup []) (by lia)
 have lp:=p2.pen.lt
 have l02:S.length<=S2.length:=kY p1.same.len p2.same.len
 have pen3:CP p S3:=by
  obtain⟨ds,e,hp⟩:=p2.pen
  exact⟨ds,sm.get e (by simp),hp⟩
 have hq:(S3++[Cl.lst []])[S3.length]?=Gc (.lst []):=kz
 obtain⟨rn,S4,e4,a4,b4,p4⟩:=Af (pen3.app [Cl.lst []]) (n:=(M:Int)+1) (by lia) (by lia)
 have lt3:=hS.lts
 have pn:p∉s::l::m::as:=λz=>by have:=hn p z;lia
 have qn:S3.length∉s::l::m::as:=λz=>by have:=lt3 _ z;lia
 have hpq:S3.length≠p:=by have:=pen3.lt;lia
 have hS4:SAt S4 s l m as (st0 t ls):=(hS.Sk (.app)).same p4.same (by simpa using pn)
 have hq4:S4[S3.length]?=Gc (.lst []):=p4.get hq hpq
 obtain⟨rn,rfl⟩:=FJ a4
 have rk:IL (rn:Int)=true:=Dp (by lia) (by lia)
 have lqS:S.length<=S3.length:=kY l02 sm.len
 generalize hQ:S3.length=q at*
 obtain⟨E',S',ef,ds,as',o6,o7,rfl,f1,f2,f3,f4,f5,f6,f7,f8,f9,f10⟩:=HM (gs:=[]) (t:=tNm 6) (b:=AY (BK 7 (AJ De [eV 0,eV 2,eV 4]))
  (xIf (eOr (eOp (o2 wNe) [eOp (o2 wIx) [eV 7,eC (.int 0)],eC (.str "throw")]) (eOp (o2 wLt) [eOp (o1 HK) [EI [] 1 (IV (eV 5)) (tNm 0) (eOp (o2 wEq) [eOp (o2 wIx) [eV 0,eC (.int 0)],eC (.str "throw")]) (eV 0)],eC (.int 3)])) (AY (Cb (AJ BC [eV 2,eV 4,eV 7]))
  (Cb (Kz LF (eV 5) [eV 7]))) DU))
  (I:=λrs E S'=>∃(ds:Wp AS) (as':Wp Nat) (o6 o7:kN D),E=[Gc (.ref p),Gc (.int M),Gc t.d,Gc (.tup (ls.map Ld.d)),Gc (.ref s),Gc (.ref q),o6,o7]/\S'[q]?=Gc (.lst (ds.map AS.d))/\CP p S'/\SAt S' s l m as' (runs t (st0 t ls) ds)/\Gs t (st0 t ls) ds/\ds.length+rs.length<=M/\p∉s::l::m::as'/\q∉s::l::m::as'/\(∀n∈s::l::m::as',S.length<=n)/\(∀n c,S[n]?=Gc c->n≠p->S'[n]?=Gc c)/\∀d∈ds,Sm d)
  (λ_ _ _ _=>As) (ds:=Kx 0 rn) (E:=[Gc (.ref p),Gc (.int M),Gc t.d,Gc (.tup (ls.map Ld.d)),Gc (.ref s),Gc (.ref q),none,none]) (S:=S4)
  ⟨[],as,none,none,rfl,hq4,p4.pen,hS4,trivial,by rw[F6];simp;lia,pn,qn,λn z=>kY l02 (hn n z),λn c e ne=>p4.get (Cp.get (A:=[]) .app (sm.get (p2.get (p1.get e ne) ne) (by simp)) (by simp)) ne,λ_ z=>nomatch z⟩ (by
    rintro dd rs E T ⟨ds,as',o6,o7,rfl,i1,i2,i3,i4,i5,i6,i7,i8,i9,i10⟩
    simp only[l7]at i5
    have inv:=Ju ht hi i4 (by lia)
    rw[ql]at inv
    obtain⟨d,T1,d1,d2,d3,d4⟩:=WI i2 i3 i6 ht inv (by lia)
    have lS:S.length<=T1.length:=by have:=i8 s kc;have:=Ag i3.root;have:=d2.same.len;lia
    have j3:=i3.same d2.same (by simpa using i6)
    have j1:T1[q]?=Gc (.lst (ds.map AS.d)):=d2.get i1 hpq
    have tc:=jd j1 (by lia)
    have w1:∀(c:Ev),eOr (eOp (o2 wNe) [eOp (o2 wIx) [eV 7,eC (.int 0)],eC (.str "throw")]) c [Gc (.ref p),Gc (.int M),Gc t.d,Gc (.tup (ls.map Ld.d)),Gc (.ref s),Gc (.ref q),Gc dd,Gc d.d] T1=if Hk d=true then c [Gc (.ref p),Gc (.int M),Gc t.d,Gc (.tup (ls.map Ld.d)),Gc (.ref s),Gc (.ref q),Gc dd,Gc d.d] T1 else Gc (.bl true,T1):=by
     intro c
     cases d<;>simp[AS.d,Hk]
    by_cases hb:Hk d=false\/(ds.filter Hk).length<3
    .obtain⟨T2,as2,k1,k2,k3,k4⟩:=aX j3 ht inv (by lia) d3
     have lt:=j3.lts
     have q2:T2[q]?=Gc (.lst (ds.map AS.d)):=k3.get j1 i7
     have hz:ds.length<sizeLine:=kT (show ds.length<50 by lia) (AN (by decide))
     refine⟨_,[Gc (.ref p),Gc (.int M),Gc t.d,Gc (.tup (ls.map Ld.d)),Gc (.ref s),Gc (.ref q),Gc dd,Gc d.d],T2.set q (.lst ((ds++[d]).map AS.d)),by simp;rfl,?_,ds++[d],as2,Gc dd,Gc d.d,rfl,ko (Ag q2),?_,?_,Ie i4 d3,by simp;lia,?_,?_,?_,?_,λx hx=>(k6.mp hx).elim (i10 x) λz=>by rw[kr.mp z];exact d4⟩
     .have kk:=AR q2
      have sq:=DZ j1
      have hz':(ds.map AS.d).length<sizeLine:=by simpa using hz
      have hfin:(ds++[d]).map AS.d=ds.map AS.d++[d.d]:=by simp
      rw[hfin]
      generalize hDD:ds.map AS.d=DD at*
      cases ht':Hk d with
      |false=>
       simp[d1,-OT,w1,ht',k1,kk,hz']
      |true=>
       have h3:((ds.filter Hk).length:Int)<3:=by
        have:=hb.resolve_left (by rw[ht'];simp)
        lia
       simp[d1,-OT,w1,ht',sq,tc,h3,k1,kk,hz']
     .obtain⟨pd,pe,ph⟩:=d2.pen
      exact⟨pd,by rw[kW hpq];exact k3.get pe i6,ph⟩
     .rw[Kv]
      exact k2.same (A:=[q]) (.set (by simp)) (by
       intro n hn z
       simp at hn;subst hn
       simp only[kX]at z i7
       rcases z with z|z|z|z
       .exact i7 (.inl z)
       .exact i7 (.inr (.inl z))
       .exact i7 (.inr (.inr (.inl z)))
       .rcases k4 _ z with w|w
        .exact i7 (.inr (.inr (.inr w)))
        .have:=Ag j1;lia)
     .intro z
      simp only[kX]at z i6
      rcases z with z|z|z|z
      .exact i6 (.inl z)
      .exact i6 (.inr (.inl z))
      .exact i6 (.inr (.inr (.inl z)))
      .rcases k4 _ z with w|w
       .exact i6 (.inr (.inr (.inr w)))
       .have:=d2.pen.lt;lia
     .intro z
      simp only[kX]at z i7
      rcases z with z|z|z|z
      .exact i7 (.inl z)
      .exact i7 (.inr (.inl z))
      .exact i7 (.inr (.inr (.inl z)))
      .rcases k4 _ z with w|w
       .exact i7 (.inr (.inr (.inr w)))
       .have:=Ag j1;lia
     .intro n z
      simp only[kX]at z i8
      rcases z with z|z|z|z
      .exact i8 n (.inl z)
      .exact i8 n (.inr (.inl z))
      .exact i8 n (.inr (.inr (.inl z)))
      .rcases k4 _ z with w|w
       .exact i8 n (.inr (.inr (.inr w)))
       .exact kY lS w
     .intro n c e ne
      have ln:n<S.length:=Ag e
      rw[kW (λz=>by have:=lqS;lia)]
      exact k3.get (d2.get (i9 n c e ne) ne) λz=>by have:=i8 n z;lia
    .have ht':Hk d=true:=by
      cases z:Hk d with
      |true=>rfl
      |false=>exact absurd (.inl z) hb
     have h3:¬((ds.filter Hk).length:Int)<3:=by
      have:¬(ds.filter Hk).length<3:=λz=>hb (.inr z)
      lia
     refine⟨_,[Gc (.ref p),Gc (.int M),Gc t.d,Gc (.tup (ls.map Ld.d)),Gc (.ref s),Gc (.ref q),Gc dd,Gc d.d],T1,by simp;rfl,?_,ds,as',Gc dd,Gc d.d,rfl,j1,d2.pen,j3,i4,by lia,i6,i7,i8,λn c e ne=>d2.get (i9 n c e ne) ne,i10⟩
     have sq:=DZ j1
     generalize hDD:ds.map AS.d=DD at*
     simp[d1,-OT,w1,ht',sq,tc,h3])
 refine⟨t,ls,ds,S',?_,⟨⟨ht,hi,f4,by simp at f5;lia⟩,by simpa using f5,f10⟩,⟨λx hx=>(hf.1 x hx).2.2.2.2,hh.2⟩,f2,f9⟩
 have df:=Ap f1
 simp[Cf,LG,e1,e2,e3,hQ,e4,rk,ef,df,Aw]
end
section
variable{S:Sto}{s l m:Nat}{as:Wp Nat}{st:Stt}
end
theorem Ob{n m d:Nat}(h:n<=m):HT.sIx m d (Gc (n:Int))=n:=by
 unfold HT.sIx
 have:¬((n:Int)<0):=by lia
 simp[this]
 lia
theorem Jr{α:Type}{ds:Wp α}{n:Nat}(h:n<=ds.length):IQ ds none (Gc (n:Int))=ds.take n:=by
 unfold IQ
 rw[Ob h]
 simp[HT.sIx]
theorem Ph{α:Type}{ds:Wp α}{n:Nat}(h:n<=ds.length):IQ ds (Gc (n:Int)) none=ds.drop n:=by
 unfold IQ
 rw[Ob h]
 simp[HT.sIx]
 exact pJ (by simp)
noncomputable def hD(x:Ld):D:=.tup [.int x.k,.int x.n]
noncomputable def B2(ls:Wp Ld):D:=.lst (ls.map hD)
section
variable{S:Sto}{ls:Wp Ld}{i j:Nat}{n:Int}
@[simp] theorem dy:dr S (B2 ls)=.val (B2 ls):=nr rfl
@[simp] theorem cH:asS (.val (B2 ls))=some (ls.map hD):=nr rfl
@[simp] theorem cL:HK (.val (B2 ls))=some (.val (.int ls.length)):=by
  show HK (.val (.lst (ls.map hD)))=_
  rw[U7,ky]
theorem HU(hi:i<ls.length):atI (ls.map hD) (i:Int)=Gc (hD (AQ ls i)):=Cn (by rw[lC,GJ hi];rfl)
@[simp] theorem ia{x:Ld}:dr S (hD x)=.val (.tup [.int x.k,.int x.n]):=nr rfl
@[simp] theorem hJ{ts:List Tf}{x:Ld}{E:En}:tTp ts (hD x) E S=tMs ts [.int x.k,.int x.n] E S:=nr rfl
theorem NG(hi:i<ls.length)(hn:n<=(AQ ls i).n):Bt [B2 ls,.int i,.int n] S=Gc (.bl true,S):=by
 have hi':(i:Int)<ls.length:=by lia
 simp[Bt,HE,hi',hi,HU hi,hn]
theorem Om(hi:i<ls.length)(hj:j<ls.length)(h1:0<(AQ ls i).n)(h2:0<(AQ ls j).n)(hk:(AQ ls i).k=(AQ ls j).k):FG [B2 ls,.int i,.int j] S=Gc (.bl true,S):=by
 have e1:=NG (S:=S) (n:=1) hi (by lia)
 have e2:=NG (S:=S) (n:=1) hj (by lia)
 simp[FG,JO,e1,e2,HU hi,HU hj,hk]
theorem Jz{k:Nat}(hi:i<ls.length)(hn:n<=(AQ ls i).n)(hk:k≠(AQ ls i).k):D9 [B2 ls,.int i,.int n,.int k] S=Gc (.bl true,S):=by
 have e1:=NG (S:=S) hi hn
 have e2:(((AQ ls i).k:Int)==(k:Int))=false:=by simp;lia
 simp[D9,JJ,e1,HU hi,e2]
theorem WM{lo hi:kN Int}:wSl lo hi (.val (B2 ls))=Gc (.own (IQ (ls.map hD) lo hi)):=nr rfl
theorem EY(hi:i<ls.length)(hl:ls.length<=60):BY [B2 ls,.int i,.int n] S=Gc (B2 (less ls i n),S):=by
 have c1:=Jr (ds:=ls.map hD) (n:=i) (by simp;lia)
 have c2:IQ (ls.map hD) (Gc ((i:Int)+1)) none=(ls.map hD).drop (i+1):=by
  have:=Ph (ds:=ls.map hD) (n:=i+1) (by simp;lia)
  simpa using this
 have ef:B2 (less ls i n)=.lst ((ls.map hD).take i++[.tup [.int (AQ ls i).k,.int ((AQ ls i).n-n)]]++(ls.map hD).drop (i+1)):=by
  rw[RW,B2,tq,List.set_eq_take_append_cons_drop,lF (by simpa using hi)]
  simp[hD]
 have z1:(wM i (ls.map hD)).length+1<=sizeLine:=kY (show _<=100 by simp;lia) (AN (by decide))
 have z2:(wM i (ls.map hD)++[D.tup [.int (AQ ls i).k,.int ((AQ ls i).n-n)]]).length+(yW (i+1) (ls.map hD)).length<=sizeLine:=kY (show _<=100 by simp;lia) (AN (by decide))
 rw[ef]
 have ah:=HU hi
 have ws:=λ{lo hi:kN Int}=>WM (ls:=ls) (lo:=lo) (hi:=hi)
 generalize wM i (ls.map hD)=A at*
 generalize yW (i+1) (ls.map hD)=B at*
 simp only[lQ,l7,qT]at z2
 simp[BY,GK,ah,ws,c1,c2,z1,z2]
end
section
variable{S:Sto}{st:Stt}{t:Tr}{k:Nat}
@[simp] theorem D3{ls:List Ld}{r:List D}:Bv (.val (B2 ls)) (.val (.lst r))=if(ls.map hD).length+r.length<=sizeLine then some (.own (ls.map hD++r))else none:=nr rfl
theorem Jo{ls:Wp Ld}{y:Ld}:D.lst (ls.map hD++[.tup [.int y.k,.int y.n]])=B2 (ls++[y]):=by simp[B2,hD]
theorem NH(h:FC t k st)(hk:k<=17){d:AS}(hc:Can t st d):Am [B2 st.AE,d.d] S=Gc (B2 (step t st d).AE,S):=by
 have hlen:=h.len
 have hz:(st.AE.map hD).length+1<=sizeLine:=kY (show _<=100 by simp;lia) (AN (by decide))
 have hz2:∀{i:Nat} {n:Int},((less st.AE i n).map hD).length+1<=sizeLine:=λ{i n}=>kY (show _<=100 by simp[Bl];lia) (AN (by decide))
 cases d with
 |Bn p kd n=>
  have e:=Jo (ls:=st.AE) (y:=⟨kd,n,Qe t.p p⟩)
  show _=Gc (B2 (st.AE++[⟨kd,n,Qe t.p p⟩]),S)
  rw[<-e]
  have wA:=D3 (ls:=st.AE) (r:=[.tup [.int kd,.int n]])
  rw[lF (by simpa using hz)]at wA
  simp[Am,BS,AS.d,-D3,wA]
 |Mz i j=>
  obtain⟨hij,hi,hj,h1,h2,h3⟩:=hc
  have e0:AQ (less st.AE i (AQ st.AE i).n) j=AQ st.AE j:=by
   unfold AQ less
   rw[kg,kW hij,<-kg]
  have w1:=EY (S:=S) (n:=(AQ st.AE i).n) hi (by lia)
  have w2:=EY (S:=S) (ls:=less st.AE i (AQ st.AE i).n) (i:=j) (n:=(AQ st.AE j).n) (by rw[Bl];exact hj) (by rw[Bl];lia)
  have z3:((less (less st.AE i (AQ st.AE i).n) j (AQ st.AE j).n).map hD).length+1<=sizeLine:=kY (show _<=100 by simp[Bl];lia) (AN (by decide))
  have e:=Jo (ls:=less (less st.AE i (AQ st.AE i).n) j (AQ st.AE j).n) (y:=⟨(AQ st.AE i).k,(AQ st.AE i).n+(AQ st.AE j).n,EF (AQ st.AE i).n (AQ st.AE j).n (AQ st.AE i).ow (AQ st.AE j).ow⟩)
  show _=Gc (B2 (less (less st.AE i (AQ st.AE i).n) j (AQ st.AE j).n++[_]),S)
  rw[<-e]
  have a1:=HU hi
  have a2:=HU hj
  have wA:=D3 (ls:=less (less st.AE i (AQ st.AE i).n) j (AQ st.AE j).n) (r:=[.tup [.int (AQ st.AE i).k,.int ((AQ st.AE i).n+(AQ st.AE j).n)]])
  rw[lF (by simpa using z3)]at wA
  generalize (less (less st.AE i (AQ st.AE i).n) j (AQ st.AE j).n).map hD=A at*
  simp[Am,BS,AS.d,a1,a2,w1,w2,-D3,wA]
 |swap i g kd n=>
  obtain⟨hi,h1,h2,h3,h4,h5,h6⟩:=hc
  have w1:=EY (S:=S) (n:=g) hi (by lia)
  have e:=Jo (ls:=less st.AE i g) (y:=⟨kd,n,(AQ st.AE i).ow⟩)
  show _=Gc (B2 (less st.AE i g++[⟨kd,n,(AQ st.AE i).ow⟩]),S)
  rw[<-e]
  have wA:=D3 (ls:=less st.AE i g) (r:=[.tup [.int kd,.int n]])
  rw[lF (by simpa using hz2)]at wA
  simp[Am,BS,AS.d,w1,-D3,wA]
 |BO u i g kd n=>
  obtain⟨hi,h1,h2,h3,h4,h5,h6,h7⟩:=hc
  have w1:=EY (S:=S) (n:=g) hi (by lia)
  have e:=Jo (ls:=less st.AE i g) (y:=⟨kd,n,(AQ st.AE i).ow⟩)
  show _=Gc (B2 (less st.AE i g++[⟨kd,n,(AQ st.AE i).ow⟩]),S)
  rw[<-e]
  have wA:=D3 (ls:=less st.AE i g) (r:=[.tup [.int kd,.int n]])
  rw[lF (by simpa using hz2)]at wA
  simp[Am,BS,AS.d,w1,-D3,wA]
 |Ga i n=>
  obtain⟨hi,h1,h2⟩:=hc
  have w1:=EY (S:=S) (n:=n) hi (by lia)
  show _=Gc (B2 (less st.AE i n),S)
  simp[Am,BS,AS.d,w1]
 |thr i n ws=>
  obtain⟨hi,h1,h2,h3,h4⟩:=hc
  have w1:=EY (S:=S) (n:=n) hi (by lia)
  have e:B2 (step t st (.thr i n ws)).AE=B2 (less st.AE i n):=by
   show D.lst (((less st.AE i n).map _).map hD)=_
   rw[mC];rfl
  rw[e]
  simp[Am,BS,AS.d,w1]
 |Jk p q x=>
  have e:B2 (step t st (.Jk p q x)).AE=B2 st.AE:=by
   show D.lst ((st.AE.map _).map hD)=_
   rw[mC];rfl
  rw[e]
  simp[Am,BS,AS.d]
noncomputable def Ct:AS->kN Int
 | .BO u .. =>Gc u
 |_=>none
theorem OK{ls:Wp Ld}:∀{ds:Wp AS},(runs t (st0 t ls) ds).nums=ds.filterMap Ct:=by
 intro ds
 have:∀(ds:Wp AS) (st:Stt),(runs t st ds).nums=st.nums++ds.filterMap Ct:=by
  intro ds
  induction ds with
  |nil=>intro st;simp[runs]
  |cons d ds ih=>
   intro st
   show(runs t (step t st d) ds).nums=_
   rw[ih]
   cases d<;>simp[step,Ct,lD]
 rw[this];rfl
theorem JX:∀{ds:Wp AS} {acc:Wp D} {o:kN D},acc.length+ds.length<=100->CH [] (tNm 0) (eOp (o2 wEq) [eOp (o2 wIx) [eV 0,eC (.int 0)],eC (.str "trade")]) (eOp (o2 wIx) [eV 0,eC (.int 1)]) (ds.map AS.d) acc [o] S=Gc (acc++(ds.filterMap Ct).map D.int,S)
 | [],acc,o,h=>by rw[mX,Ez As];simp
 |d::ds,acc,o,h=>by
  have hz:acc.length<sizeLine:=kT (show acc.length<101 by simp at h;lia) (AN (by decide))
  have ht:tNm 0 d.d [o] S=Gc [Gc d.d]:=by simp
  rw[kq]
  cases d with
  |BO u i g kd n=>
   rw[Hf As hz ht (S1:=S) (by simp[AS.d])]
   have:eOp (o2 wIx) [eV 0,eC (.int 1)] [Gc (AS.BO u i g kd n).d] S=Gc (.int u,S):=by simp[AS.d]
   rw[this,A3,JX (by simp at h ⊢; lia)]
   simp[Ct,lD]
  |Bn=>rw[HR As hz ht (S1:=S) (by simp[AS.d]),JX (by simp at h ⊢; lia)];simp[Ct,lD]
  |Mz=>rw[HR As hz ht (S1:=S) (by simp[AS.d]),JX (by simp at h ⊢; lia)];simp[Ct,lD]
  |swap=>rw[HR As hz ht (S1:=S) (by simp[AS.d]),JX (by simp at h ⊢; lia)];simp[Ct,lD]
  |Ga=>rw[HR As hz ht (S1:=S) (by simp[AS.d]),JX (by simp at h ⊢; lia)];simp[Ct,lD]
  |thr=>rw[HR As hz ht (S1:=S) (by simp[AS.d]),JX (by simp at h ⊢; lia)];simp[Ct,lD]
  |Jk=>rw[HR As hz ht (S1:=S) (by simp[AS.d]),JX (by simp at h ⊢; lia)];simp[Ct,lD]
theorem Qx{ds:Wp AS}{d:AS}(hd:ds.length<=50)(hn:st.nums=ds.filterMap Ct)(hc:Can t st d):B4 [B2 st.AE,.tup (ds.map AS.d),d.d] S=Gc (.bl true,S):=by
 cases d with
 |Bn p kd n=>simp[B4,C8,AS.d]
 |Mz i j=>
  obtain⟨hij,hi,hj,h1,h2,h3⟩:=hc
  have e:=Om (S:=S) hi hj h1 h2 h3
  simp[B4,C8,AS.d,e]
 |swap i g kd n=>
  obtain⟨hi,h1,h2,h3,h4,h5,h6⟩:=hc
  have e:=Jz (S:=S) (k:=kd) hi h2 h4
  simp[B4,C8,AS.d,e]
 |BO u i g kd n=>
  obtain⟨hi,h1,h2,h3,h4,h5,h6,h7,h8⟩:=hc
  have e:=Jz (S:=S) (k:=kd) hi h2 h4
  have tc:=JX (S:=S) (ds:=ds) (acc:=[]) (o:=none) (by simp;lia)
  rw[<-hn]at tc
  have fi:=J3 (us:=st.nums)
  have ii:=MX (us:=st.nums) (i:=u)
  have iu:(st.nums.any λx=>x==u)=false:=by
   rw[vP]
   intro x hx z
   have:x=u:=by simpa using z
   exact h7 (this▸hx)
  rw[iu]at ii
  generalize st.nums.map D.int=ud at*
  simp[B4,C8,AS.d,tc,fi,ii,e]
 |Ga i n=>
  obtain⟨hi,h1,h2⟩:=hc
  have e:=NG (S:=S) hi h2
  simp[B4,C8,AS.d,e]
 |thr i n ws=>
  obtain⟨hi,h1,h2,h3,h4⟩:=hc
  have e:=NG (S:=S) hi h2
  simp[B4,C8,AS.d,e]
 |Jk p q x=>simp[B4,C8,AS.d]
end
section
variable{S:Sto}{st:Stt}{t:Tr}{k:Nat}
theorem Lu{ls:Wp Ld}{x y:D}(hl:ls.length<=50):B8 [.tup [x,.tup (ls.map Ld.d),y]] S=Gc (B2 ls,S):=by
 have e:=G6 (gs:=[]) (t:=tNm 0) (f:=Be [eOp (o2 wIx) [eV 0,eC (.int 0)],eOp (o2 wIx) [eV 0,eC (.int 1)]]) (C:=[]) (m:=1) (e:=Ld.d) (g:=hD) (S:=S) As (xs:=ls) (acc:=[]) (os:=[none]) rfl (kY (show _<=50 by simp;lia) (AN (by decide))) (by
  intro x hx os ho
  obtain⟨q1,rfl⟩:=Qh ho
  refine⟨[Gc x.d],rfl,by simp,?_⟩
  simp[Ld.d,hD])
 simp only[lN]at e
 simp[B8,Fq,e,B2]
end
theorem iB{n:Nat}:∀{ds:Wp D},(∀d∈ds,d.py.depth<=n)->uB (D.pys ds)<=n
 | [],_=>by simp[D.pys,uB]
 |d::ds,h=>by
  have h1:=h d kc
  have h2:=iB λe he=>h e (kU _ he)
  simp only[D.pys,uB]
  lia
theorem ZK{n:Nat}{ds:Wp D}(h:∀d∈ds,d.py.depth<=n):(D.tup ds).py.depth<=n+1:=by
 have:=iB h
 simp only[D.py,zY]
 lia
theorem Yr{i:Int}{n:Nat}:(D.int i).py.depth<=n+1:=by
 simp only[D.py,zY]
 lia
theorem Nl{d:D}(h:d.lay=true)(g:d.py.depth<=60):Dm d d=true:=by
 unfold Dm
 rw[h]
 simp only[pY,v3]
 lia
theorem PB{d:D}(h:d.lay=true):deq d d=true:=PySem.SeqAt.eqv_refl _ (IY h)
section
variable{S:Sto}
theorem Yi{ns:Wp Int}{k:Nat}:∃c,Cg [.scr ns,.int k] S=Gc (.int c,S):=by
 by_cases h:k<ns.length
 .have h':(k:Int)<ns.length:=by lia
  refine⟨ns[k],?_⟩
  have e:atI (ns.map D.int) (k:Int)=Gc (.int ns[k]):=Cn (by rw[lC,kS h];rfl)
  simp[Cg,GB,h,h',e]
 .have h':¬(k:Int)<ns.length:=by lia
  exact⟨0,by simp[Cg,GB,h,h']⟩
end
structure FD(t:Tr)(ls:Wp Ld)(ds:Wp AS):Prop where
 tr:IU t
 few:ls.length<=4
 inv:∀i,i<=ds.length->∃k,k<=16/\FC t k (runs t (st0 t ls) (ds.take i))
 good:Gs t (st0 t ls) ds
 len:ds.length<=20
theorem JL.g{t:Tr}{ls:Wp Ld}{ds:Wp AS}(h:JL t ls ds):FD t ls ds:=
 ⟨h.tr,h.inv.len,λi _=>⟨_,by have:=h.len;simp;lia,h.at i⟩,h.good,by have:=h.len;lia⟩
section
variable{S:Sto}{t:Tr}{ls:Wp Ld}{ds:Wp AS}{n:Nat}
theorem NM(h:FD t ls ds):DJ [Aw t ls ds] S=Gc (.non,S):=by
 have hl0:=h.few
 have hd:=h.len
 obtain⟨E',S',ef,i,o1,o2,f1,f2,rfl,rfl⟩:=HM (gs:=[]) (t:=tTp [tNm 3,tNm 4]) (b:=AY (xIf (Wq (AJ B4 [eV 1,eOp (HC false true) [eV 2,eV 3],eV 4])) (Bm (eV 3)) DU)
  (BK 1 (AJ Am [eV 1,eV 4])))
  (I:=λrs E S'=>∃(i:Nat) (o1 o2:kN D),rs=(Mw 0 (ds.map AS.d)).drop i/\i<=ds.length/\E=[Gc (Aw t ls ds),Gc (B2 (runs t (st0 t ls) (ds.take i)).AE),Gc (.tup (ds.map AS.d)),o1,o2]/\S'=S)
  (λ_ _ _ _=>As) (ds:=Mw 0 (ds.map AS.d)) (E:=[Gc (Aw t ls ds),Gc (B2 ls),Gc (.tup (ds.map AS.d)),none,none]) (S:=S)
  ⟨0,none,none,by simp,mI _,by simp[runs,st0],rfl⟩ (by
    rintro dd rs E T ⟨i,o1,o2,i1,i2,rfl,rfl⟩
    have el:(Mw 0 (ds.map AS.d)).length=ds.length:=by rw[Jw];simp
    have hlt:i<ds.length:=by
     rcases vy i ds.length with w|w
     .exact w
     .rw[pL (by lia)]at i1;cases i1
    rw[mn (by lia)]at i1
    injection i1 with z1 z2
    have hd1:dd=.tup [.int i,ds[i].d]:=by
     have:=Jp (ds:=ds.map AS.d) (k:=0) (i:=i)
     rw[kS (by lia),<-z1,lC,kS hlt]at this
     simpa using this
    subst z2
    subst hd1
    obtain⟨k,hk,inv⟩:=h.inv i (by lia)
    have il:(ds.take i).length<=20:=by simp;lia
    have can:=MQ h.good (kS hlt)
    have cd:=Qx (S:=T) (ds:=ds.take i) (by lia) OK can
    have e3:=NH (S:=T) inv (by lia) can
    have rt:=NP (t:=t) (st:=st0 t ls) (kS hlt)
    have ct:=Jr (ds:=ds.map AS.d) (n:=i) (by simp;lia)
    rw[yM]at cd
    refine⟨_,[Gc (Aw t ls ds),Gc (B2 (runs t (st0 t ls) (ds.take (i+1))).AE),Gc (.tup (ds.map AS.d)),Gc (.int i),Gc ds[i].d],T,by simp;rfl,?_,i+1,Gc (.int i),Gc ds[i].d,rfl,hlt,rfl,rfl⟩
    rw[rt]
    simp[ct,cd,e3])
 have fh:=Lu (S:=S') (ls:=ls) (x:=t.d) (y:=.tup (ds.map AS.d)) (by lia)
 simp only[Aw]at ef⊢
 simp[DJ,Gb,fh,ef]
theorem KY(h:FD t ls ds):A7 [Aw t ls ds] S=Gc (.non,S):=by
 have e:=NM (S:=S) h
 simp[A7,F0,e,isN]
theorem UW(h:FD t ls ds)(hn:n<=ds.length):Ed [Aw t ls ds,.int n] S=Gc (B2 (runs t (st0 t ls) (ds.take n)).AE,S):=by
 have hl0:=h.few
 have hd:=h.len
 have ct:=Jr (ds:=ds.map AS.d) (n:=n) (by simp;lia)
 obtain⟨E',S',ef,i,o,f1,f2,rfl,rfl⟩:=HM (gs:=[]) (t:=tNm 3) (b:=BK 2 (AJ Am [eV 2,eV 3]))
  (I:=λrs E S'=>∃(i:Nat) (o:kN D),rs=((ds.take n).drop i).map AS.d/\i<=n/\E=[Gc (Aw t ls ds),Gc (.int n),Gc (B2 (runs t (st0 t ls) (ds.take i)).AE),o]/\S'=S)
  (λ_ _ _ _=>As) (ds:=(ds.take n).map AS.d) (E:=[Gc (Aw t ls ds),Gc (.int n),Gc (B2 ls),none]) (S:=S)
  ⟨0,none,by simp,mI _,by simp[runs,st0],rfl⟩ (by
    rintro dd rs E T ⟨i,o,i1,i2,rfl,rfl⟩
    have hlt:i<(ds.take n).length:=by
     rcases vy i (ds.take n).length with w|w
     .exact w
     .rw[pL w]at i1;cases i1
    rw[mn hlt,kq]at i1
    injection i1 with z1 z2
    subst z1 z2
    have hlt':i<ds.length:=by simp at hlt;lia
    have hin:i<n:=by simp at hlt;lia
    have hg:(ds.take n)[i]=ds[i]:=List.getElem_take
    rw[hg]
    have can:=MQ h.good (kS hlt')
    obtain⟨k,hk,inv⟩:=h.inv i (by lia)
    have e3:=NH (S:=T) inv (by lia) can
    have rt:=NP (t:=t) (st:=st0 t ls) (kS hlt')
    refine⟨_,[Gc (Aw t ls ds),Gc (.int n),Gc (B2 (runs t (st0 t ls) (ds.take (i+1))).AE),Gc ds[i].d],T,by simp;rfl,?_,i+1,Gc ds[i].d,rfl,hin,rfl,rfl⟩
    rw[rt]
    simp[e3])
 have hz:i=n:=by
  have:=congrArg uO f1
  simp at this
  lia
 subst hz
 have fh:=Lu (S:=S') (ls:=ls) (x:=t.d) (y:=.tup (ds.map AS.d)) (by lia)
 simp only[Aw]at ef⊢
 rw[yM]at ef
 simp[Ed,KZ,fh,ct,ef]
end
section
variable{E:En}{S:Sto}{f g k o:Ev}{d:D}{es:Wp (Key×D)}
@[simp] theorem VM{x:Int}:bM (.int x)=some (.inl x):=nr rfl
@[simp] theorem hZ:ZR false es S=(.dct es,S):=nr rfl
end
structure Trd where
 u:Nat
 k:Nat
 g:Int
 o:Nat
 n:Int
noncomputable def Trd.d(r:Trd):D:=.tup [.int r.u,.int r.k,.int r.g,.int r.o,.int r.n]
noncomputable def trd(L:Wp Ld):AS->kN Trd
 | .BO u l g k n=>Gc ⟨u.toNat,(AQ L l).k,g,k,n⟩
 |_=>none
noncomputable def tds(L:Wp Ld)(ds:Wp AS):Wp Trd:=ds.filterMap (trd L)
noncomputable def tdB(t:Tr)(ls:Wp Ld)(ds:Wp AS):Wp Trd:=tds (runs t (st0 t ls) ds).AE ds
structure TrO(rs:Wp Trd):Prop where
 nd:(rs.map (·.u)).Nodup
 le:∀r∈rs,r.u<=9
 few:rs.length<=20
section
variable{S:Sto}{t:Tr}{ls L:Wp Ld}{ds:Wp AS}
theorem Dt:∀{ds:Wp AS} {st:Stt},Gs t st ds->st.nums.Nodup->(st.nums++ds.filterMap Ct).Nodup/\∀u∈ds.filterMap Ct,0<=u/\u<=9
 | [],st,_,h=>⟨by simpa using h,λu z=>by simp at z⟩
 |d::ds,st,hg,h=>by
  obtain⟨hc,hg⟩:=hg
  cases d with
  |BO u l g k n=>
   have hu:=hc.2.2.2.2.2.2.2
   have nd:(st.nums++[u]).Nodup:=mq.mpr ⟨h,by simp,λa ha b hb e=>by
    simp at hb
    subst hb
    exact hu.1 (e▸ha)⟩
   obtain⟨a,b⟩:=Dt (st:=step t st (.BO u l g k n)) hg nd
   refine⟨?_,λv hv=>?_⟩
   .have e:(step t st (.BO u l g k n)).nums=st.nums++[u]:=rfl
    rw[e,nD]at a
    exact a
   .rw[lD]at hv
    rcases kX.mp hv with rfl|hv
    .exact hu.2
    .exact b v hv
  |Bn p k n=>exact Dt (ds:=ds) (st:=step t st (.Bn p k n)) hg h
  |Mz a b=>exact Dt (ds:=ds) (st:=step t st (.Mz a b)) hg h
  |swap l g k n=>exact Dt (ds:=ds) (st:=step t st (.swap l g k n)) hg h
  |Ga l n=>exact Dt (ds:=ds) (st:=step t st (.Ga l n)) hg h
  |thr l n ws=>exact Dt (ds:=ds) (st:=step t st (.thr l n ws)) hg h
  |Jk p q x=>exact Dt (ds:=ds) (st:=step t st (.Jk p q x)) hg h
theorem ax:∀{ds:Wp AS},(tds L ds).map (·.u)=(ds.filterMap Ct).map yk
 | []=>rfl
 |d::ds=>by
  have ih:= @ax ds
  unfold tds at ih⊢
  cases d<;>simp[trd,Ct,lD,ih]
theorem FD.tok(h:FD t ls ds):TrO (tdB t ls ds):=by
 obtain⟨nd,b⟩:=Dt h.good (show(st0 t ls).nums.Nodup from .nil)
 have nd:(ds.filterMap Ct).Nodup:=by simpa[st0]using nd
 have e:=ax (L:=(runs t (st0 t ls) ds).AE) (ds:=ds)
 refine⟨?_,λr hr=>?_,?_⟩
 .unfold tdB
  rw[e,nG,nE]
  refine sr ?_ (nG.mp nd)
  intro x y hx hy ne z
  have:=b x hx
  have:=b y hy
  exact ne (by lia)
 .have:r.u∈(ds.filterMap Ct).map yk:=by rw[<-e];exact rR hr
  obtain⟨v,hv,ev⟩:=lI.mp this
  have:=b v hv
  lia
 .have:=su (trd (runs t (st0 t ls) ds).AE) ds
  have:=h.len
  unfold tdB tds;lia
theorem Nz{d:AS}{st:Stt}:st.AE.length<=(step t st d).AE.length:=by cases d<;>simp[step,Bl]
theorem Mj:∀{ds:Wp AS} {st:Stt},st.AE.length<=(runs t st ds).AE.length
 | [],st=>kR _
 |d::ds,st=>kY Nz (Mj (ds:=ds) (st:=step t st d))
theorem Wh:∀{ds:Wp AS} {st:Stt},Gs t st ds->∀{u g n:Int} {l k:Nat},AS.BO u l g k n∈ds->l<(runs t st ds).AE.length/\0<=u
 | [],st,_,u,g,n,l,k,h=>by cases h
 |d::ds,st,hg,u,g,n,l,k,h=>by
  rcases kX.mp h with rfl|h
  .exact⟨kT hg.1.1 (kY Nz (Mj (ds:=ds) (st:=step t st _))),hg.1.2.2.2.2.2.2.2.2.1⟩
  .exact Wh hg.2 h
noncomputable def Fx(rs:Wp Trd):Wp (Key×D):=rs.map λr=>(.inl (r.u:Int),r.d)
theorem Ue{es:Wp (Key×D)}{k:Key}{v:D}(h:∀kv∈es,kv.1≠k):putD es k v=es++[(k,v)]:=by
 unfold putD
 rw[lJ]
 intro z
 obtain⟨kv,hm,e⟩:=oA.mp z
 exact h kv hm (by simpa using e)
theorem X9{rs:Wp Trd}{r:Trd}(h:((rs++[r]).map (·.u)).Nodup):putD (Fx rs) (.inl (r.u:Int)) r.d=Fx (rs++[r]):=by
 rw[Ue]
 .simp[Fx]
 .intro kv hm e
  obtain⟨x,hx,rfl⟩:=lI.mp hm
  have e:(qB (x.u:Int):Key)=.inl (r.u:Int):=e
  injection e with e
  rw[my,mq]at h
  exact h.2.2 x.u (rR hx) r.u (by simp) (by lia)
theorem SD{a b:Wp AS}:tds L (a++b)=tds L a++tds L b:=by unfold tds;rw[List.filterMap_append]
theorem dv{l:Nat}(h:l<L.length):atI (L.map hD) (l:Int)=Gc (.tup [.int (AQ L l).k,.int (AQ L l).n]):=Cn (by
 rw[lC,GJ h];rfl)
end
theorem Qo{α:Type}{gs:Gd}{t:Tf}{b:Ex}{C:En}{m q:Nat}{S0:Sto}{e:α->D}{h:α->Wp D}(hg:∀T,Cp [q] S0 T->gOk gs T):∀{xs:Wp α} {acc:Wp D} {os:En} {S:Sto},os.length=m->S[q]?=Gc (.lst acc)->Cp [q] S0 S->acc.length+xs.length<=1000->(∀x∈xs,(h x).length<=1)->(∀x∈xs,∀os S acc,os.length=m->S[q]?=Gc (.lst acc)->acc.length<sizeLine->Cp [q] S0 S->∃us us' S',t (e x) (C++os) S=Gc (C++us)/\b (C++us) S=Gc (.nx,C++us',S'.set q (.lst (acc++h x)))/\us'.length=m/\Cp [] S S')->∃os' S',os'.length=m/\Ij gs t b (xs.map e) (C++os) S=Gc (.nx,C++os',S')/\S'[q]?=Gc (.lst (acc++xs.flatMap h))/\Cp [q] S S'
 | [],acc,os,S,ho,hq,hs,hz,h1,H=>⟨os,S,ho,by rw[mX,FH (hg S hs)],by simpa using hq,.refl⟩
 |x::xs,acc,os,S,ho,hq,hs,hz,h1,H=>by
  obtain⟨us,us',S1,e1,e2,hu,sm⟩:=H x kc os S acc ho hq (kT (show acc.length<1001 by simp at hz;lia) (by decide)) hs
  have q1:=sm.get hq (by simp)
  have s1:Cp [q] S (S1.set q (.lst (acc++h x))):=(sm.mono λ_ z=>(nomatch z)).trans (.set (by simp))
  have hx:=h1 x kc
  obtain⟨os',S2,ho',e3,q2,s2⟩:=Qo hg (t:=t) (b:=b) (C:=C) (e:=e) (h:=h) (xs:=xs) (acc:=acc++h x) (os:=us') (S:=S1.set q (.lst (acc++h x))) hu (ko (Ag q1)) (hs.trans s1) (by simp at hz ⊢; lia) (λx' hx=>h1 x' (kU _ hx)) λx' hx=>H x' (kU _ hx)
  refine⟨os',S2,ho',?_,by simpa using q2,s1.trans s2⟩
  rw[kq,CM (hg S hs),e1,A3,e2,A3,KR,e3]
noncomputable def srt(rs:Wp Trd):Wp Trd:=rs.mergeSort λa b=>decide (a.u<=b.u)
theorem FN(rs:Wp Trd):(srt rs).Perm rs:=rQ _ _
theorem Ov{rs:Wp Trd}(h:TrO rs):(srt rs).Pairwise λa b=>a.u<b.u:=by
 have h1:=qc (le:=λ(a b:Trd)=>decide (a.u<=b.u)) (λa b c h1 h2=>by simp at *; lia) (λa b=>by simp;lia) rs
 have h2:((srt rs).map (·.u)).Nodup:=((FN rs).map _).nodup_iff.mpr h.nd
 rw[nG,nE]at h2
 exact(uI.mpr ⟨h1,h2⟩).imp λ⟨a,b⟩=>by
  have a:=kj a
  lia
theorem Pd:∀{rs:Wp Trd},Na (rs.map Trd.d)=Gc (rs.map λr=>(r.u:Int))
 | []=>rfl
 |r::rs=>by
  show(Xp r.d).bind (λk=>(Na (rs.map Trd.d)).map (k:: ·))=_
  rw[Pd];rfl
theorem XH{rs:Wp Trd}(h:TrO rs):(rs.map λr=>(r.u:Int)).Nodup:=by
 have:=h.nd
 rw[nG,nE]at this⊢
 exact this.imp λh z=>h (by lia)
theorem VA{rs:Wp Trd}(h:TrO rs):QU (rs.map λr=>(r.u:Int)) (rs.map Trd.d)=(srt rs).map Trd.d:=by
 have ez:(rs.map λr=>(r.u:Int)).zip (rs.map Trd.d)=rs.map λ(r:Trd)=>((r.u:Int),r.d):=by rw[List.zip_map']
 rw[LQ (l:=(srt rs).map λ(r:Trd)=>((r.u:Int),r.d)) (XH h) (by rw[ez];exact(FN rs).map _) (by rw[nE];exact(Ov h).imp λh=>by dsimp only;lia),mC]
 rfl
theorem Lc{rs:Wp Trd}(h:TrO rs):TrO (srt rs):=⟨((FN rs).map _).nodup_iff.mpr h.nd,λr hr=>h.le r ((FN rs).mem_iff.mp hr),by rw[(FN rs).length_eq];exact h.few⟩
section
variable{S:Sto}{t:Tr}{ls L:Wp Ld}{ds:Wp AS}
theorem U5{rs:Wp Trd}(h:TrO rs):PN (.own (rs.map Trd.d))=Gc (.own ((srt rs).map Trd.d)):=by
 show(Na (rs.map Trd.d)).bind _=_
 have:=h.few
 rw[Pd,A3,lF ⟨by simp;lia,XH h⟩,VA h]
@[simp] theorem fF{a b c d e f:D}:IQ [a,b,c,d,e,f] (some 1) none=[b,c,d,e,f]:=nr rfl
noncomputable def Rb(L:Wp Ld)(d:AS):Wp D:=(tds L [d]).map Trd.d
theorem Q6:ds.flatMap (Rb L)=(tds L ds).map Trd.d:=by
 induction ds with
 |nil=>rfl
 |cons d ds ih=>
  rw[List.flatMap_cons,ih,show tds L (d::ds)=tds L [d]++tds L ds from SD (a:=[d]) (b:=ds),my]
  rfl
def ptB:Ex:=(xIf (eOp (o2 wEq) [eIx (eV 3) (eI 0),eC (.str "trade")]) (AY (OB (tTp [tNm 4,tNm 5,tNm 6,tNm 7,tNm 8]) (eOp (HC true false) [eV 3,eI 1]))
    (Cb (Kz LF (eV 2) [Be [eV 4,eIx (eIx (eV 1) (eV 5)) (eI 0),eV 6,eV 7,eV 8]]))) DU)
theorem bx{q:Nat}{acc:Wp D}{d:AS}{e0 e4 e5 e6 e7 e8:kN D}(hq:S[q]?=Gc (.lst acc))(hz:acc.length<sizeLine)(hd:∀{u g n:Int} {l k:Nat},d=.BO u l g k n->l<L.length/\0<=u):∃us:En,us.length=6/\ptB [e0,Gc (B2 L),Gc (.ref q),Gc d.d,e4,e5,e6,e7,e8] S=Gc (.nx,[e0,Gc (B2 L),Gc (.ref q)]++us,S.set q (.lst (acc++Rb L d))):=by
 have sm:=set_same hq
 have cq:=AR hq
 cases d with
 |BO u l g k n=>
  obtain⟨h1,h2⟩:=hd rfl
  obtain⟨u,rfl⟩:=FJ h2
  have a:=dv h1
  have sz:(5:Nat)<=sizeLine:=AN (by decide)
  refine⟨[Gc (AS.BO u l g k n).d,Gc (.int u),Gc (.int l),Gc (.int g),Gc (.int k),Gc (.int n)],rfl,?_⟩
  have et:Rb L (.BO u l g k n)=[.tup [.int u,.int (AQ L l).k,.int g,.int k,.int n]]:=rfl
  rw[et]
  unfold B2
  generalize L.map hD=LD at*
  simp[ptB,AS.d,a,sz,cq,hz]
 |Bn p k n=>exact⟨[Gc (AS.Bn p k n).d,e4,e5,e6,e7,e8],rfl,by simp[ptB,AS.d,Rb,tds,trd,lD,sm]⟩
 |Mz p k=>exact⟨[Gc (AS.Mz p k).d,e4,e5,e6,e7,e8],rfl,by simp[ptB,AS.d,Rb,tds,trd,lD,sm]⟩
 |swap p k n m=>exact⟨[Gc (AS.swap p k n m).d,e4,e5,e6,e7,e8],rfl,by simp[ptB,AS.d,Rb,tds,trd,lD,sm]⟩
 |Ga p k=>exact⟨[Gc (AS.Ga p k).d,e4,e5,e6,e7,e8],rfl,by simp[ptB,AS.d,Rb,tds,trd,lD,sm]⟩
 |thr p k n=>exact⟨[Gc (AS.thr p k n).d,e4,e5,e6,e7,e8],rfl,by simp[ptB,AS.d,Rb,tds,trd,lD,sm]⟩
 |Jk p k n=>exact⟨[Gc (AS.Jk p k n).d,e4,e5,e6,e7,e8],rfl,by simp[ptB,AS.d,Rb,tds,trd,lD,sm]⟩
theorem KO(h:FD t ls ds):∃q S',BQ [Aw t ls ds] S=Gc (.ref q,S')/\S'[q]?=Gc (.lst ((srt (tdB t ls ds)).map Trd.d))/\Cp [] S S'/\S.length<=q:=by
 have hd:=h.len
 have tk:=h.tok
 have hb:=UW (S:=S) h (n:=ds.length) (kR _)
 rw[wV]at hb
 have lt:=λ{u g n:Int} {l k:Nat} (z:AS.BO u l g k n∈ds)=>Wh h.good z
 obtain⟨os',S2,ho',e2,q2,s2⟩:=Qo (gs:=[]) (S0:=S++[Cl.lst []]) (t:=tNm 3) (b:=ptB) (C:=[Gc (Aw t ls ds),Gc (B2 (runs t (st0 t ls) ds).AE),Gc (.ref S.length)]) (m:=6) (q:=S.length) (e:=AS.d) (h:=Rb (runs t (st0 t ls) ds).AE) (λ_ _=>As) (xs:=ds) (acc:=[]) (os:=[none,none,none,none,none,none]) (S:=S++[Cl.lst []]) rfl kz .refl (by simp;lia) (λd _=>by
  have:=su (trd (runs t (st0 t ls) ds).AE) [d]
  unfold Rb tds;simpa using this) (by
  intro d hm os T acc ho hq0 hz hT
  obtain⟨x1,x2,x3,x4,x5,x6,rfl⟩:=gm ho
  obtain⟨us,hu,e⟩:=bx (L:=(runs t (st0 t ls) ds).AE) (d:=d) (e0:=Gc (Aw t ls ds)) (e4:=x2) (e5:=x3) (e6:=x4) (e7:=x5) (e8:=x6) hq0 hz (λ{u g n l k} z=>lt (by rw[<-z];exact hm))
  exact⟨[Gc d.d,x2,x3,x4,x5,x6],us,T,rfl,e,hu,.refl⟩)
 rw[lN,Q6]at q2
 have d2:=Ap q2
 have w:=U5 tk
 have l2:=s2.len
 refine⟨S2.length,S2++[.lst ((srt (tdB t ls ds)).map Trd.d)],?_,kz,(Cp.new (A:=[]) (B:=[S.length]) .app s2 (by simp)).trans .app,by simp at l2;lia⟩
 have eb:GW=(AY (BK 1 (AJ Ed [eV 0,eOp (o1 HK) [eIx (eV 0) (eI 2)]]))
  (AY (BK 2 (Hv []))
  (AY (Jj (IV (eIx (eV 0) (eI 2))) (tNm 3) ptB)
  (Bm (ZS (o1 PN) [eV 2]))))):=rfl
 unfold BQ
 rw[eb]
 change dr S2 (.ref S.length)=.own ((tdB t ls ds).map Trd.d)at d2
 obtain⟨x1,x2,x3,x4,x5,x6,rfl⟩:=gm ho'
 simp only[mV,lN]at e2
 generalize (tdB t ls ds).map Trd.d=TD at*
 generalize (srt (tdB t ls ds)).map Trd.d=TS at*
 simp only[Aw]at hb e2⊢
 generalize B2 (runs t (st0 t ls) ds).AE=HL at*
 simp[hb,e2,d2,w]
theorem JP(h:FD t ls ds):∃q S',CF [Aw t ls ds] S=Gc (.ref q,S')/\S'[q]?=Gc (.lst ((srt (tdB t ls ds)).map Trd.d))/\Cp [] S S'/\S.length<=q:=by
 have e1:=KY (S:=S) h
 obtain⟨q,S',e2,a,b,c⟩:=KO (S:=S) h
 refine⟨q,S',?_,a,b,c⟩
 simp only[Aw]at e1 e2⊢
 simp[CF,IJ,e1,e2]
end
end Mi
end
noncomputable section
namespace Mi
open PySem PySem.Spec L2 PyProof.Rows
theorem NX:∀{l σ:Wp Int},σ.Nodup->(l.foldl nW σ).Nodup
 | [],σ,h=>h
 |x::l,σ,h=>by
  rw[tz]
  refine NX ?_
  unfold nW
  split
  .exact h
  .rename_i z
   refine mq.mpr ⟨h,by simp,λa ha b hb e=>z ?_⟩
   simp at hb
   subst hb
   subst e
   exact oA.mpr ⟨a,ha,by simp⟩
theorem RG{x:Int}:∀{l σ:Wp Int},x∈l.foldl nW σ↔x∈σ\/x∈l
 | [],σ=>by simp
 |y::l,σ=>by
  rw[tz,RG,kX]
  have:x∈nW σ y↔x∈σ\/x=y:=by
   unfold nW
   split
   .rename_i z
    obtain⟨w,hw,e⟩:=oA.mp z
    have e:w=y:=by simpa using e
    subst e
    exact⟨.inl,λh=>h.elim id λe=>e▸hw⟩
   .rw[k6,kr]
  rw[this,or_assoc]
theorem Ri{ns:Wp Int}:Tu ns ns.length=ns.foldl nW []:=by
 show((lT ns.length).map _).foldl nW []=_
 congr 1
 apply qH
 .simp
 .intro i h1 h2
  simp at h1
  simp[kg,h1]
theorem OS{M:Nat}:∀{l:Wp Nat} {a:Nat},l.Pairwise (· < ·)->(∀x∈l,a<=x/\x<M)->l.length<=M-a
 | [],a,_,_=>mI _
 |x::l,a,p,h=>by
  rw[sD]at p
  have hx:=h x kc
  have:=OS (a:=x+1) p.2 λy hy=>⟨p.1 y hy,(h y (kU _ hy)).2⟩
  simp;lia
theorem Y2(k1 k2:Wp Nat):∃ks:Wp Nat,Ku (Tu ((k1++k2).map λ(n:Nat)=>(n:Int)) ((k1++k2).map λ(n:Nat)=>(n:Int)).length)=ks.map (λ(n:Nat)=>(n:Int))/\ks.Pairwise (· < ·)/\∀r,r∈ks↔r∈k1\/r∈k2:=by
 rw[Ri]
 generalize hL:((k1++k2).map λ(n:Nat)=>(n:Int)).foldl nW []=L
 have nd:L.Nodup:=by rw[<-hL];exact NX .nil
 have mem:∀x,x∈L↔ ∃r,(r∈k1\/r∈k2)/\(r:Int)=x:=λx=>by
  rw[<-hL,RG,lI]
  simp only[k7,false_or,k6]
 have pm:=G7 L
 have so:=Li L
 refine⟨(Ku L).map yk,?_,?_,λr=>?_⟩
 .rw[mC]
  conv=>lhs;rw[<-List.map_id (Ku L)]
  refine List.map_congr_left λx hx=>?_
  obtain⟨r,_,rfl⟩:=(mem x).mp (pm.mem_iff.mp hx)
  simp
 .have nd2:(Ku L).Nodup:=pm.nodup_iff.mpr nd
  rw[nE]
  refine sr ?_ (uI.mpr ⟨so,nd2⟩)
  rintro x y hx hy ⟨h1,h2⟩
  obtain⟨r,_,rfl⟩:=(mem x).mp (pm.mem_iff.mp hx)
  obtain⟨q,_,rfl⟩:=(mem y).mp (pm.mem_iff.mp hy)
  simp
  lia
 .rw[lI]
  constructor
  .rintro ⟨x,hx,rfl⟩
   obtain⟨r,hr,rfl⟩:=(mem x).mp (pm.mem_iff.mp hx)
   simpa using hr
  .intro hr
   exact⟨(r:Int),pm.mem_iff.mpr ((mem _).mpr ⟨r,hr,rfl⟩),by simp⟩
theorem bR{k1 k2 ks:Wp Nat}(hs:Ku (Tu ((k1++k2).map λ(n:Nat)=>(n:Int)) ((k1++k2).map λ(n:Nat)=>(n:Int)).length)=ks.map (λ(n:Nat)=>(n:Int)))(h1:k1.length+k2.length<=1000)(h2:ks.length<64):wSS (.val (.lst ((k1.map λ(n:Nat)=>(n:Int)).map D.int++(k2.map λ(n:Nat)=>(n:Int)).map D.int)))=Gc (.own (Bb ks)):=by
 have e:(k1.map λ(n:Nat)=>(n:Int)).map D.int++(k2.map λ(n:Nat)=>(n:Int)).map D.int=((k1++k2).map λ(n:Nat)=>(n:Int)).map D.int:=by simp
 rw[e]
 show(Je _).bind _=_
 rw[Ff,A3]
 have l2:(Tu ((k1++k2).map λ(n:Nat)=>(n:Int)) ((k1++k2).map λ(n:Nat)=>(n:Int)).length).length=ks.length:=by
  rw[<-(G7 _).length_eq,hs,ky]
 rw[lF ⟨by simpa using h1,by rw[l2];exact h2⟩,hs,Bb,mC]
 rfl
noncomputable def lk(rs:Wp Trd)(n:Nat):kN Trd:=rs.find? λr=>r.u==n
noncomputable def oD:kN Trd->D
 |none=>.non
 |some r=>r.d
theorem MK{n:Nat}:∀{rs:Wp Trd},(Sy (Fx rs) (.inl (n:Int))).getD .non=oD (lk rs n)
 | []=>rfl
 |r::rs=>by
  show((if(qB (r.u:Int):Key)=.inl (n:Int)then Gc r.d else Sy (Fx rs) (.inl (n:Int))).getD .non)=_
  unfold lk
  rw[oQ]
  by_cases e:r.u=n
  .subst e;simp[oD]
  .have e1:¬(qB (r.u:Int):Key)=.inl (n:Int):=λz=>by injection z with z;lia
   have e2:(r.u==n)=false:=by simpa using e
   rw[lJ e1,e2]
   exact MK
theorem IM{rs:Wp Trd}(h:TrO rs){n:Nat}{r:Trd}:lk rs n=Gc r↔r∈rs/\r.u=n:=by
 constructor
 .intro e
  exact⟨sL e,by simpa using wy e⟩
 .rintro ⟨hm,rfl⟩
  cases e:lk rs r.u with
  |none=>
   have:=vJ.mp e r hm
   simp at this
  |some s=>
   have h1:s∈rs:=sL e
   have h2:s.u=r.u:=by simpa using wy e
   obtain⟨i,hi,rfl⟩:=p9.mp h1
   obtain⟨j,hj,rfl⟩:=p9.mp hm
   have:i=j:=by
    have nd:=h.nd
    refine(ou (xs:=rs.map (·.u)) (h₀:=by simpa using hi) (h₁:=by simpa using hj) nd).mp ?_
    simpa using h2
   subst this;rfl
theorem Le{rs:Wp Trd}(h:TrO rs){n:Nat}:lk (srt rs) n=lk rs n:=by
 cases e:lk rs n with
 |some r=>exact(IM (Lc h)).mpr ⟨(FN rs).mem_iff.mpr ((IM h).mp e).1,((IM h).mp e).2⟩
 |none=>
  cases e2:lk (srt rs) n with
  |none=>rfl
  |some r=>
   have:=(IM (Lc h)).mp e2
   rw[(IM h).mpr ⟨(FN rs).mem_iff.mp this.1,this.2⟩]at e
   cases e
theorem gq{rs:Wp Trd}(h:TrO rs){n:Nat}:(lk rs n).isSome=true↔n∈rs.map (·.u):=by
 constructor
 .intro e
  obtain⟨r,e⟩:=se.mp e
  have:=(IM h).mp e
  exact lI.mpr ⟨r,this.1,this.2⟩
 .intro e
  obtain⟨r,h1,h2⟩:=lI.mp e
  rw[(IM h).mpr ⟨h1,h2⟩];rfl
noncomputable def seen(r:Trd):Trd:=⟨r.u,r.o,r.n,r.k,r.g⟩
noncomputable def clB:kN Trd->kN Trd->lM
 |none,none=>false
 |some r,Gc s=> !((r.k==s.o) && ((r.g==s.n) && ((r.o==s.k) && (r.n==s.g))))
 |_,_=>true
noncomputable def clL(a b:Wp Trd):Wp Nat:=(lT 10).filter λn=>clB (lk a n) (lk b n)
noncomputable def prD(a b:Wp Trd)(n:Nat):D:=.tup [.int n,oD (lk a n),oD (lk b n)]
noncomputable def fcD(a b:Wp Trd):D:=match clL a b with
 | []=>.non
 |n::_=>prD a b n
theorem Zk{a b:Wp Nat}(h1:a.Pairwise (· < ·))(h2:b.Pairwise (· < ·))(h:∀n,n∈a↔n∈b):a=b:=by
 have n1:a.Nodup:=h1.imp λh=>ki h
 have n2:b.Nodup:=h2.imp λh=>ki h
 exact si (le:=λx y=>x<=y) (λx y _ _ h h'=>Nat.le_antisymm h h') (h1.imp λh=>mx h) (h2.imp λh=>mx h) ((List.perm_ext_iff_of_nodup n1 n2).mpr h)
theorem Yu{x y:kN Trd}:Dm (oD x) (oD y)=true:=by
 cases x<;>cases y<;>rfl
theorem Ni{x y:D}{xs ys:Wp D}:deq (.tup (x::xs)) (.tup (y::ys))=(deq x y && deq (.tup xs) (.tup ys)):=rfl
theorem aG:deq (.tup []) (.tup [])=true:=rfl
theorem Pz{a b:Nat}:((a:Int)==(b:Int))=(a==b):=by
 by_cases h:a=b
 .subst h;simp
 .have:¬(a:Int)=(b:Int):=by lia
  rw[qL.mpr this,qL.mpr h]
theorem ZI{a b:Wp Trd}(ha:TrO a)(hb:TrO b){n:Nat}:(!deq (oD (lk a n)) (oD ((lk b n).map seen)))=clB (lk a n) (lk b n):=by
 cases e1:lk a n with
 |none=>cases e2:lk b n<;>rfl
 |some r=>
  cases e2:lk b n with
  |none=>rfl
  |some s=>
   have u1:=((IM ha).mp e1).2
   have u2:=((IM hb).mp e2).2
   show(!deq r.d (seen s).d)=_
   unfold Trd.d seen
   dsimp only
   have e:((r.u:Int)==(s.u:Int))=true:=by rw[u1,u2];simp
   rw[Ni,Ni,Ni,Ni,Ni,aG,NY,NY,NY,NY,NY,e,pY,Bool.and_true,Pz,Pz]
   rfl
end Mi
end
noncomputable section
namespace Mi
open PySem PySem.Spec L2 PyProof.Rows
section
variable{S:Sto}{t t':Tr}{ls ls':Wp Ld}{ds ds':Wp AS}
@[simp] theorem ZP{cf:Bool}{cap:List Nat}{m:Nat}{s:Sr}{t:Tf}{c fk fv:Ev}{E:En}:NW cf cap m s t c fk fv E S=(s E S).bind λr=>(GN r.1.2 t c fk fv r.1.1 [] (QI cap m E) r.2).map λq=>ZR cf q.1 q.2:=nr rfl
@[simp] theorem di{c:Bool}{f:Ev}{E:En}:eLK c f E S=(f E S).bind λa=>(Tw a.2 a.1).bind λes=>(Qb es).bind λns=>fin c (.own (ns.map D.int)) a.2:=nr rfl
@[simp] theorem ak{f g:Ev}{E:En}:Nx f g E S=(f E S).bind λa=>(Tw a.2 a.1).bind λ_=>(g E a.2).bind λb=>(Tw b.2 a.1).bind λes=>(bM b.1).map λk=>((Sy es k).getD .non,b.2):=nr rfl
@[simp] theorem cc{es:List (Key×D)}:Tw S (.dct es)=some es:=nr rfl
theorem Mb{gs:Gd}(hg:gOk gs S):∀{rs acc:Wp Trd} {o:kN D},((acc++rs).map (·.u)).Nodup->(acc++rs).length<=100->GN gs (tNm 0) Di (eIx (eV 0) (eI 0)) (eV 0) (rs.map Trd.d) (Fx acc) [o] S=Gc (Fx (acc++rs),S)
 | [],acc,o,_,_=>by
   rw[mX]
   unfold GN
   rw[lF hg,oO]
 |r::rs,acc,o,nd,hl=>by
  have e:acc++r::rs=(acc++[r])++rs:=by simp
  rw[e]at nd hl⊢
  have nd1:((acc++[r]).map (·.u)).Nodup:=by
   rw[my,mq]at nd
   exact nd.1
  have hz:(Fx acc).length<sizeLine:=kT (show _<101 by simp[Fx]at hl ⊢; lia) (AN (by decide))
  rw[kq]
  unfold GN
  rw[lF hg,lF hz]
  have t1:tNm 0 r.d [o] S=Gc [Gc r.d]:=rfl
  have t2:Di [Gc r.d] S=Gc (.bl true,S):=rfl
  have t3:eIx (eV 0) (eI 0) [Gc r.d] S=Gc (.int r.u,S):=by simp[Trd.d]
  have t4:eV 0 [Gc r.d] S=Gc (r.d,S):=by simp
  rw[t1,A3,t2,A3]
  dsimp only
  rw[t3,A3]
  dsimp only
  rw[t4,A3]
  dsimp only
  rw[VM,A3,X9 nd1]
  exact Mb hg nd hl
theorem Ir:∀{rs:Wp Trd},Qb (Fx rs)=Gc ((rs.map (·.u)).map λ(n:Nat)=>(n:Int))
 | []=>rfl
 |r::rs=>by
  show(Qb (Fx rs)).map _=_
  rw[Ir];rfl
theorem X8{x:kN Trd}:A6 [oD x] S=Gc (oD (x.map seen),S):=by
 have sz:(5:Nat)<=sizeLine:=AN (by decide)
 cases x with
 |none=>simp[A6,Cz,oD,isN]
 |some r=>simp[A6,Cz,oD,Trd.d,isN,sz,seen]
theorem aP{x:kN Trd}:dr S (oD x)=.val (oD x):=by cases x<;>rfl
theorem fW{a b:Wp Trd}{ks:Wp Nat}(hl:ks.length<=50):CH [] (tNm 2) Di (Be [eV 2,Nx (eV 0) (eV 2),Nx (eV 1) (eV 2)]) (Bb ks) [] [Gc (.dct (Fx a)),Gc (.dct (Fx b)),none] S=Gc (ks.map (prD a b),S):=by
 have sz:(3:Nat)<=sizeLine:=AN (by decide)
 have e:=G6 (gs:=[]) (t:=tNm 2) (f:=Be [eV 2,Nx (eV 0) (eV 2),Nx (eV 1) (eV 2)]) (C:=[Gc (.dct (Fx a)),Gc (.dct (Fx b))]) (m:=1) (e:=λn:Nat=>D.int n) (g:=prD a b) (S:=S) As (xs:=ks) (acc:=[]) (os:=[none]) rfl (kY (show _<=50 by simpa using hl) (AN (by decide))) (by
  intro n _ os ho
  obtain⟨q1,rfl⟩:=Qh ho
  have v1:=MK (rs:=a) (n:=n)
  have v2:=MK (rs:=b) (n:=n)
  refine⟨[Gc (.int n)],rfl,by simp,?_⟩
  unfold prD
  generalize Fx a=A at*
  generalize Fx b=B at*
  generalize oD (lk a n)=X at*
  generalize oD (lk b n)=Y at*
  simp[sz,v1,v2])
 rw[lN]at e
 exact e
theorem clC{a b:Wp Trd}(ha:TrO a)(hb:TrO b){ks:Wp Nat}(hl:ks.length<=50):CH [] (tNm 0) (eOp (o2 wNe) [eIx (eV 0) (eI 1),AJ A6 [eIx (eV 0) (eI 2)]]) (eV 0) (ks.map (prD a b)) [] [none] S=Gc ((ks.filter λn=>clB (lk a n) (lk b n)).map (prD a b),S):=by
 have e:=DH (gs:=[]) (t:=tNm 0) (c:=eOp (o2 wNe) [eIx (eV 0) (eI 1),AJ A6 [eIx (eV 0) (eI 2)]]) (f:=eV 0) (C:=[]) (m:=1) (e:=prD a b) (g:=prD a b) (b:=λn=>clB (lk a n) (lk b n)) (S:=S) As (xs:=ks) (acc:=[]) (os:=[none]) rfl (kY (show _<=50 by simpa using hl) (AN (by decide))) (by
  intro n _ os ho
  obtain⟨q1,rfl⟩:=Qh ho
  have s1:=X8 (S:=S) (x:=lk b n)
  have c1:=ZI ha hb (n:=n)
  have ok:=Yu (x:=lk a n) (y:=(lk b n).map seen)
  have d1:=aP (S:=S) (x:=lk a n)
  have d2:=aP (S:=S) (x:=(lk b n).map seen)
  refine⟨[Gc (prD a b n)],rfl,by simp,?_,by simp⟩
  rw[<-c1]
  unfold prD
  generalize oD (lk a n)=X at*
  generalize oD ((lk b n).map seen)=Z at*
  generalize oD (lk b n)=Y at*
  simp[s1,d1,d2,ok])
 rw[lN]at e
 exact e
theorem keys_eq{a b:Wp Trd}(ha:TrO a)(hb:TrO b){ks:Wp Nat}(pw:ks.Pairwise (· < ·))(mem:∀r,r∈ks↔r∈a.map (·.u)\/r∈b.map (·.u)):ks.filter (λn=>clB (lk a n) (lk b n))=clL a b:=by
 refine Zk (pw.filter _) (List.Pairwise.filter _ qm) λn=>?_
 unfold clL
 rw[nH,nH,mem,oq]
 constructor
 .rintro ⟨h,c⟩
  refine⟨?_,c⟩
  rcases h with h|h
  .obtain⟨r,hr,rfl⟩:=lI.mp h
   have:=ha.le r hr;lia
  .obtain⟨r,hr,rfl⟩:=lI.mp h
   have:=hb.le r hr;lia
 .rintro ⟨_,c⟩
  refine⟨?_,c⟩
  rw[<-gq ha,<-gq hb]
  cases e1:lk a n with
  |some r=>exact .inl rfl
  |none=>
   cases e2:lk b n with
   |some r=>exact .inr rfl
   |none=>rw[e1,e2]at c;cases c
theorem LO{a b:Wp Trd}{X Y:D}(ha:TrO a)(hb:TrO b){q q':Nat}{S1 S2:Sto}(e1:BQ [X] S=Gc (.ref q,S1))(q1:S1[q]?=Gc (.lst ((srt a).map Trd.d)))(e2:BQ [Y] S1=Gc (.ref q',S2))(q2:S2[q']?=Gc (.lst ((srt b).map Trd.d))):CK [X,Y] S=Gc (.lst ((clL a b).map (prD a b)),S2):=by
 have sa:=Lc ha
 have sb:=Lc hb
 have fa:=sa.few
 have fb:=sb.few
 have c1:=Mb (gs:=[(q,(srt a).map Trd.d)]) (S:=S1) (by simp[gOk,AR q1]) (rs:=srt a) (acc:=[]) (o:=none) (by rw[lN];exact sa.nd) (by simp;lia)
 have c2:=Mb (gs:=[(q',(srt b).map Trd.d)]) (S:=S2) (by simp[gOk,AR q2]) (rs:=srt b) (acc:=[]) (o:=none) (by rw[lN];exact sb.nd) (by simp;lia)
 rw[lN]at c1 c2
 have n0:Fx []=[]:=rfl
 rw[n0]at c1 c2
 have k1:=Ir (rs:=srt a)
 have k2:=Ir (rs:=srt b)
 obtain⟨ks,ss,pw,mem⟩:=Y2 ((srt a).map (·.u)) ((srt b).map (·.u))
 have ksl:ks.length<=10:=by
  have:=OS (a:=0) (M:=10) pw λx hx=>⟨mI _,by
   rcases(mem x).mp hx with h|h
   .obtain⟨r,hr,rfl⟩:=lI.mp h
    have:=sa.le r hr;lia
   .obtain⟨r,hr,rfl⟩:=lI.mp h
    have:=sb.le r hr;lia⟩
  lia
 have wss:=bR ss (by simp;lia) (by lia)
 have p:=fW (S:=S2) (a:=srt a) (b:=srt b) (ks:=ks) (by lia)
 have f:=clC (S:=S2) sa sb (ks:=ks) (by lia)
 rw[keys_eq sa sb pw mem]at f
 have ec:clL (srt a) (srt b)=clL a b:=by
  unfold clL
  congr 1
  funext n
  rw[Le ha,Le hb]
 have ep:prD (srt a) (srt b)=prD a b:=by
  funext n
  unfold prD
  rw[Le ha,Le hb]
 rw[ec,ep]at f
 rw[ep]at p
 have d1:=DZ q1
 have d2:=DZ q2
 have za:(((srt a).map (·.u)).map λ(n:Nat)=>D.int (n:Int)).length+(((srt b).map (·.u)).map λ(n:Nat)=>D.int (n:Int)).length<=sizeLine:=kY (show _<=50 by simp;lia) (AN (by decide))
 simp only[ky]at za
 have za':(srt a).length+(srt b).length<=sizeLine:=za
 have ms:∀l:Wp Trd,(l.map (·.u)).length=l.length:=λl=>ky ..
 have la:=ms (srt a)
 have lb:=ms (srt b)
 generalize (srt a).map (·.u)=NA at*
 generalize (srt b).map (·.u)=NB at*
 have hz:((NA.map λ(n:Nat)=>(n:Int)).map D.int).length+((NB.map λ(n:Nat)=>(n:Int)).map D.int).length<=sizeLine:=by simp only[ky];lia
 generalize (srt a).map Trd.d=TA at*
 generalize (srt b).map Trd.d=TB at*
 generalize Fx (srt a)=RA at*
 generalize Fx (srt b)=RB at*
 generalize Bb ks=NK at*
 generalize ks.map (prD a b)=PR at*
 generalize (clL a b).map (prD a b)=CL at*
 generalize (NA.map λ(n:Nat)=>(n:Int))=IA at*
 generalize (NB.map λ(n:Nat)=>(n:Int))=IB at*
 simp only[ky]at hz
 simp[CK,GS,e1,e2,d1,d2,c1,c2,k1,k2,hz,wss,p,f]
theorem Cs(h:FD t ls ds)(h':FD t' ls' ds'):∃S',Ai [Aw t ls ds,Aw t' ls' ds'] S=Gc (fcD (tdB t ls ds) (tdB t' ls' ds'),S')/\Cp [] S S':=by
 have e1:=KY (S:=S) h
 have e2:=KY (S:=S) h'
 obtain⟨q,S1,e3,q3,s3,_⟩:=KO (S:=S) h
 obtain⟨q',S2,e4,q4,s4,_⟩:=KO (S:=S1) h'
 have e5:=LO h.tok h'.tok e3 q3 e4 q4
 refine⟨S2,?_,s3.trans s4⟩
 unfold fcD
 simp only[Aw]at e1 e2 e5⊢
 cases hc:clL (tdB t ls ds) (tdB t' ls' ds')with
 |nil=>
  rw[hc]at e5
  simp[Ai,FA,e1,e2,e5]
 |cons n r=>
  rw[hc,kq]at e5
  show _=Gc (prD (tdB t ls ds) (tdB t' ls' ds') n,S2)
  have hg:((r.length:Int)+1>0):=by lia
  generalize prD (tdB t ls ds) (tdB t' ls' ds') n=P at*
  simp[Ai,FA,e1,e2,e5,hg]
end
end Mi
end
noncomputable section
namespace Mi
open PySem PySem.Spec L2 PyProof.Rows
section
variable{S:Sto}{t t':Tr}{ls ls':Wp Ld}{ds ds':Wp AS}{a b:Wp Trd}
@[simp] theorem fR{a b c d e:D}:IQ [a,b,c,d,e] (some 1) none=[b,c,d,e]:=nr rfl
@[simp] theorem gD{a b c d e:D}:IQ [a,b,c,d,e] (some 3) none=[d,e]:=nr rfl
@[simp] theorem cF{a b c d e:D}:IQ [a,b,c,d,e] (some 1) (some 3)=[b,c]:=nr rfl
theorem SQ:(fcD a b).lay=true/\(fcD a b).py.depth<=60:=by
 unfold fcD
 cases clL a b with
 |nil=>exact⟨rfl,show(D.non).py.depth<=60 by decide⟩
 |cons n r=>
  show(prD a b n).lay=true/\(prD a b n).py.depth<=60
  unfold prD
  have l:∀x:kN Trd,(oD x).lay=true/\(oD x).py.depth<=3:=λx=>by
   cases x with
   |none=>exact⟨rfl,by decide⟩
   |some r=>exact⟨rfl,ZK (n:=2) (by
     intro d hd
     simp at hd
     rcases hd with rfl|rfl|rfl|rfl|rfl<;>exact Yr)⟩
  refine⟨?_,kY (ZK (n:=3) (by
   intro d hd
   simp at hd
   rcases hd with rfl|rfl|rfl
   .exact Yr
   .exact(l _).2
   .exact(l _).2)) (by decide)⟩
  show(D.lay (.int n) && D.LM [oD (lk a n),oD (lk b n)])=true
  show(true && ((oD (lk a n)).lay && ((oD (lk b n)).lay && true)))=true
  rw[(l _).1,(l _).1];rfl
theorem ag:Dm (fcD a b) (fcD a b)=true/\deq (fcD a b) (fcD a b)=true:=⟨Nl SQ.1 SQ.2,PB SQ.1⟩
end
end Mi
end
noncomputable section
namespace Mi
open PySem PySem.Spec L2 PyProof.Rows
section
variable{t:Tr}{ls:Wp Ld}{ds:Wp AS}{K:Nat}
theorem LY{L:Wp Ld}{i j:Nat}{n:Int}:(AQ (less L i n) j).k=(AQ L j).k:=by
 unfold less AQ
 simp only[kg]
 by_cases e:i=j
 .subst e
  by_cases hi:i<L.length
  .simp[hi]
  .rw[List.set_eq_of_length_le (by lia)]
 .rw[kW e]
theorem WO{L:Wp Ld}{x:Ld}{j:Nat}(h:j<L.length):(AQ (L++[x]) j).k=(AQ L j).k:=by
 unfold AQ
 simp only[kg]
 rw[kP h]
theorem TQ{st:Stt}{d:AS}{j:Nat}(h:j<st.AE.length):(AQ (step t st d).AE j).k=(AQ st.AE j).k:=by
 cases d with
 |Bn p k n=>exact WO h
 |Mz a b=>show(AQ (less (less _ _ _) _ _++[_]) j).k=_;rw[WO (by simpa[Bl]using h),LY,LY]
 |swap l g k n=>show(AQ (less _ _ _++[_]) j).k=_;rw[WO (by simpa[Bl]using h),LY]
 |BO u l g k n=>show(AQ (less _ _ _++[_]) j).k=_;rw[WO (by simpa[Bl]using h),LY]
 |Ga l n=>exact LY
 |thr l n ws=>
  show(AQ ((less st.AE l n).map _) j).k=_
  have h':j<(less st.AE l n).length:=by simpa[Bl]using h
  have e:AQ ((less st.AE l n).map λx=>{x with ow:=IH (Ja t st.AE l n ws) (AQ st.AE l).ow x.ow}) j={AQ (less st.AE l n) j with ow:=IH (Ja t st.AE l n ws) (AQ st.AE l).ow (AQ (less st.AE l n) j).ow}:=by
   unfold AQ
   simp[kg,h']
  rw[e]
  exact LY
 |Jk p q x=>
  show(AQ (st.AE.map _) j).k=_
  unfold AQ
  simp[kg,h]
theorem RJ:∀{ds:Wp AS} {st:Stt} {j:Nat},j<st.AE.length->(AQ (runs t st ds).AE j).k=(AQ st.AE j).k
 | [],st,j,_=>rfl
 |d::ds,st,j,h=>by
  show(AQ (runs t (step t st d) ds).AE j).k=_
  rw[RJ (kT h Nz),TQ h]
structure SU(K:Nat)(r:Trd):Prop where
 k:r.k<K
 o:r.o<K
 ne:r.k≠r.o
 g1:1<=r.g
 g2:r.g<=2000
 n1:1<=r.n
 n2:r.n<2^130
theorem TH:∀{ds:Wp AS} {st:Stt},Gs t st ds->(∀d∈ds,Sm d)->(∀x∈(runs t st ds).AE,x.k<t.k)->∀r∈tds (runs t st ds).AE ds,SU t.k r
 | [],st,_,_,_,r,hr=>by cases hr
 |d::ds,st,hg,hs,hk,r,hr=>by
  have e:runs t st (d::ds)=runs t (step t st d) ds:=rfl
  rw[e]at hk hr
  rw[show tds (runs t (step t st d) ds).AE (d::ds)=tds _ [d]++tds _ ds from SD (a:=[d]) (b:=ds)]at hr
  rcases k6.mp hr with z|z
  .cases d with
   |BO u l g k n=>
    have er:r=⟨u.toNat,(AQ (runs t (step t st (.BO u l g k n)) ds).AE l).k,g,k,n⟩:=by simpa[tds,trd]using z
    subst er
    have c:=hg.1
    have s:=hs _ kc
    have lk:(AQ (runs t (step t st (.BO u l g k n)) ds).AE l).k=(AQ st.AE l).k:=by
     rw[RJ (kT c.1 Nz),TQ c.1]
    have ll:l<(runs t (step t st (.BO u l g k n)) ds).AE.length:=kT c.1 (kY Nz (Mj (ds:=ds) (st:=step t st (.BO u l g k n))))
    exact⟨hk _ (BL ll),c.2.2.2.1,by dsimp only;rw[lk];exact λz=>c.2.2.2.2.1 z.symm,c.2.1,s.1,c.2.2.2.2.2.1,s.2⟩
   |_=>simp[tds,trd]at z
  .exact TH hg.2 (λx hx=>hs x (kU _ hx)) hk r z
theorem ZE(h:FD t ls ds)(hs:∀d∈ds,Sm d):∀r∈tdB t ls ds,SU t.k r:=by
 obtain⟨k,_,inv⟩:=h.inv ds.length (kR _)
 rw[wV]at inv
 exact TH h.good hs inv.kind
end
abbrev Mx:=Trd×Int×Int
noncomputable def tM(K:Nat):Tr:=⟨1,K,1,[1],0,0⟩
structure kC(K:Nat)(x:Mx):Prop where
 row:SU K x.1
 m1:1<=x.2.1
 m2:x.2.1<2^131
 e1:1<=x.2.2
 e2:x.2.2<2^131
structure MI(K:Nat)(st:Stt):Prop where
 lds:∀x∈st.AE,x.k<K/\0<=x.n/\x.n<2^131/\x.ow=[1]
 hold:st.hold=[1]
def Pre(P:Stt->Prop)(t:Tr):Stt->Wp AS->Prop
 |st,[]=>P st
 |st,d::ds=>P st/\Pre P t (step t st d) ds
theorem Ws{P:Stt->Prop}{t:Tr}:∀{ds:Wp AS} {st:Stt},Pre P t st ds->∀i,P (runs t st (ds.take i))
 | [],st,h,i=>by rw[List.take_nil];exact h
 |d::ds,st,h,0=>h.1
 |d::ds,st,h,i+1=>Ws (ds:=ds) (st:=step t st d) h.2 i
section
variable{K:Nat}
theorem UN{st:Stt}{o:Nat}{m:Int}(h:MI K st)(ho:o<K)(m1:1<=m)(m2:m<2^131):MI K (step (tM K) st (.Bn 0 o m)):=⟨λx hx=>by
 rcases k6.mp hx with z|z
 .exact h.lds x z
 .rw[kr.mp z]
  exact⟨ho,by dsimp only;lia,m2,rfl⟩,h.hold⟩
theorem MI.inv{st:Stt}(h:MI K st)(hl:st.AE.length<=20)(hn:st.nums.length<=16):FC (tM K) 16 st:=
 FC.of (G:=1) (B:=1) (by lia) (λx hx=>by
  obtain⟨a,b,c,d⟩:=h.lds x hx
  refine⟨a,b,pO c (Hl (by decide)),by rw[d];rfl,λr hr=>?_⟩
  rw[d]at hr
  rw[kr.mp hr]
  exact⟨1,by decide+kernel,by decide⟩) (by rw[h.hold];rfl) hn (by decide) (by decide) (by decide) (λr hr=>by
  rw[h.hold]at hr
  rw[kr.mp hr]
  exact⟨1,by decide+kernel,by decide⟩)
end
end Mi
end
noncomputable section
namespace Mi
open PySem PySem.Spec L2 PyProof.Rows
section
variable{S:Sto}{p q:Nat}{t:Tr}{ls:Wp Ld}{ds:Wp AS}{K:Nat}
theorem Zl{rs:Wp Trd}(h:TrO rs):(srt rs).length<=10:=by
 have:=OS (a:=0) (M:=10) (l:=(srt rs).map (·.u)) (by rw[nE];exact Ov h) (λx hx=>⟨mI _,by
  obtain⟨r,hr,rfl⟩:=lI.mp hx
  have:=(Lc h).le r hr;lia⟩)
 simpa using this
end
end Mi
end
noncomputable section
namespace Mi
open PySem PySem.Spec L2 PyProof.Rows
theorem SA:(D.str "bring").lay=true/\(D.str "pool").lay=true/\(D.str "swap").lay=true/\(D.str "trade").lay=true/\(D.str "spoil").lay=true/\(D.str "throw").lay=true/\(D.str "sell").lay=true:=by decide+kernel
theorem Qz{d:AS}:d.d.lay=true:=by
 obtain⟨w1,w2,w3,w4,w5,w6,w7⟩:=SA
 have hw:∀ws:Wp Int,(D.tup (ws.map D.int)).lay=true:=λws=>G9 λ_ _=>rfl
 have ha:∀r:Rat,(aD r).lay=true:=λ_=>rfl
 have hi:∀i:Int,(D.int i).lay=true:=λ_=>rfl
 have ht:∀ds:Wp D,(D.tup ds).lay=D.LM ds:=λ_=>rfl
 have hc:∀(d:D) (ds:Wp D),D.LM (d::ds)=(d.lay && D.LM ds):=λ_ _=>rfl
 have hn:D.LM []=true:=rfl
 cases d with
 |thr l n ws=>
  have:=hw ws
  generalize hq:D.tup (ws.map D.int)=q at*
  simp only[AS.d,hq,ht,hc,hn,hi,w6,this,yO]
 |_=>simp only[AS.d,ht,hc,hn,hi,ha,w1,w2,w3,w4,w5,w7,yO]
theorem RU{gs:Gd}{t:Tf}{b:Ex}{I:Wp D->En->Sto->Prop}{R:D->Sto->Prop}(hg:∀ds E S,I ds E S->gOk gs S):∀{ds:Wp D} {E:En} {S:Sto},I ds E S->(∀d ds E S,I (d::ds) E S->∃E1,t d E S=Gc E1/\((∃E2 S2,b E1 S=Gc (.nx,E2,S2)/\I ds E2 S2)\/∃w E2 S2,b E1 S=Gc (.ret w,E2,S2)/\R w S2))->(∃E' S',Ij gs t b ds E S=Gc (.nx,E',S')/\I [] E' S')\/∃w E' S',Ij gs t b ds E S=Gc (.ret w,E',S')/\R w S'
 | [],E,S,hI,h=>.inl ⟨E,S,FH (hg _ _ _ hI),hI⟩
 |d::ds,E,S,hI,h=>by
  obtain⟨E1,e1,⟨E2,S2,e2,I2⟩|⟨w,E2,S2,e2,r⟩⟩:=h d ds E S hI
  .rcases RU hg I2 h with⟨E',S',e3,I3⟩|⟨w,E',S',e3,r⟩
   .exact .inl ⟨E',S',by rw[CM (hg _ _ _ hI),e1];simp[e2,e3],I3⟩
   .exact .inr ⟨w,E',S',by rw[CM (hg _ _ _ hI),e1];simp[e2,e3],r⟩
  .exact .inr ⟨w,E2,S2,by rw[CM (hg _ _ _ hI),e1];simp[e2],r⟩
noncomputable def Ih:AS->lM
 | .BO .. =>true
 |_=>false
section
variable{S:Sto}{t:Tr}{ls:Wp Ld}{ds:Wp AS}{p:Nat}
theorem QO{E:En}{d:AS}(h:E=[Gc (.str "trade"),Gc d.d]):eOp (o2 wEq) [eIx (eV 1) (eI 0),eV 0] E S=Gc (.bl (Ih d),S):=by
 subst h
 cases d<;>simp[AS.d,Ih]
theorem jL(hl:ds.length<=50):CH [] (tNm 1) (eOp (o2 wEq) [eIx (eV 1) (eI 0),eV 0]) (eV 1) (ds.map AS.d) [] [Gc (.str "trade"),none] S=Gc ((ds.filter Ih).map AS.d,S):=
 DH (gs:=[]) (t:=tNm 1) (c:=eOp (o2 wEq) [eIx (eV 1) (eI 0),eV 0]) (f:=eV 1) (C:=[Gc (.str "trade")]) (m:=1) (e:=AS.d) (g:=AS.d) (b:=Ih) (S:=S) As (xs:=ds) (acc:=[]) (os:=[none]) rfl (kY (show _<=50 by simp;lia) (AN (by decide))) (by
  intro z hz os ho
  obtain⟨q1,rfl⟩:=Qh ho
  exact⟨[Gc z.d],rfl,by simp,QO rfl,by simp⟩)
theorem O4{xs:Wp D}(h:D.LM xs=true):wNe (.val (.lst xs)) (.val (.lst []))=Gc (.val (.bl (!xs.isEmpty))):=by
 rw[Il,XX,XX,lF (PF h)]
 cases xs<;>rfl
def Bk(p:Nat)(S:Sto)(t:Tr)(ls:Wp Ld)(ds:Wp AS)(S':Sto):Prop:=(JL t ls ds/\ds.length<=12/\∀d∈ds,Sm d)/\CP p S'/\∀n c,S[n]?=Gc c->n≠p->S'[n]?=Gc c
theorem aO(h:CP p S):∃t ls ds S',Cf [.ref p,.int 12] S=Gc (Aw t ls ds,S')/\Bk p S t ls ds S':=by
 obtain⟨t,ls,ds,S',a,b,_,c⟩:=Um (M:=12) (by decide) h
 exact⟨t,ls,ds,S',a,b,c⟩
theorem QZ(h:CP p S):∃t ls ds S',Cj [.ref p,.int 12,.str "trade"] S=Gc (Aw t ls ds,S')/\Bk p S t ls ds S':=by
 obtain⟨t0,ls0,ds0,S0,e0,b0⟩:=aO h
 have r5:IL 5=true:=Dp (by lia) (by lia)
 have hb:Hw=AY (BK 3 (AJ Cf [eV 0,eV 1]))
  (AY (Jj (M8 [eI 5]) (tNm 4) (AY (xIf (eOp (o2 wNe) [EI [2] 1 (IV (eIx (eV 3) (eI 2))) (tNm 1) (eOp (o2 wEq) [eIx (eV 1) (eI 0),eV 0]) (eV 1),IC []]) (Bm (eV 3)) DU)
  (BK 3 (AJ Cf [eV 0,eV 1]))))
  (Bm (eV 3))):=rfl
 rcases RU (gs:=[]) (t:=tNm 4) (b:=AY (xIf (eOp (o2 wNe) [EI [2] 1 (IV (eIx (eV 3) (eI 2))) (tNm 1) (eOp (o2 wEq) [eIx (eV 1) (eI 0),eV 0]) (eV 1),IC []]) (Bm (eV 3)) DU)
  (BK 3 (AJ Cf [eV 0,eV 1])))
  (I:=λrs E S'=>∃t ls ds o,E=[Gc (.ref p),Gc (.int 12),Gc (.str "trade"),Gc (Aw t ls ds),o]/\Bk p S t ls ds S')
  (R:=λw S'=>∃t ls ds,w=Aw t ls ds/\Bk p S t ls ds S')
  (fun _ _ _ _ => As) (ds := Kx 0 (5 : Int).toNat) (E := [Gc (.ref p), Gc (.int 12), Gc (.str "trade"), Gc (Aw t0 ls0 ds0), none]) (S := S0) ⟨t0, ls0, ds0, none, rfl, b0⟩ (by
    rintro dd rs E T ⟨t,ls,ds,o,rfl,i1,i2,i3⟩
    have c:=jL (S:=T) (ds:=ds) (by lia)
    have nn:=O4 (xs:=(ds.filter Ih).map AS.d) (G9 λ_ _=>Qz)
    refine⟨[Gc (.ref p),Gc (.int 12),Gc (.str "trade"),Gc (Aw t ls ds),Gc dd],by simp,?_⟩
    generalize (ds.filter Ih).map AS.d=Z at*
    cases hz:Z.isEmpty with
    |true=>
     left
     obtain⟨t1,ls1,ds1,S1,e1,b1,p1,k1⟩:=aO i2
     refine⟨[Gc (.ref p),Gc (.int 12),Gc (.str "trade"),Gc (Aw t1 ls1 ds1),Gc dd],S1,?_,t1,ls1,ds1,Gc dd,rfl,b1,p1,λn c e ne=>k1 n c (i3 n c e ne) ne⟩
     rw[hz]at nn
     simp[Aw,QI,c,-Il,nn,e1]
    |false=>
     right
     refine⟨Aw t ls ds,[Gc (.ref p),Gc (.int 12),Gc (.str "trade"),Gc (Aw t ls ds),Gc dd],T,?_,t,ls,ds,rfl,i1,i2,i3⟩
     rw[hz]at nn
     simp[Aw,QI,c,-Il,nn])with⟨E',S',ef,t,ls,ds,o,rfl,i⟩|⟨w,E',S',ef,t,ls,ds,rfl,i⟩
 .refine⟨t,ls,ds,S',?_,i⟩
  unfold Cj
  rw[hb]
  simp[e0,r5]at ef⊢
  simp[ef]
 .refine⟨t,ls,ds,S',?_,i⟩
  unfold Cj
  rw[hb]
  simp[e0,r5]at ef⊢
  simp[ef]
end
structure Wk(S0:Sto)(p s l m:Nat)(as:Wp Nat)(st:Stt)(S:Sto):Prop where
 pen:CP p S
 sat:SAt S s l m as st
 np:p∉s::l::m::as
 new:∀n∈s::l::m::as,S0.length<=n
 kept:∀n c,S0[n]?=Gc c->n≠p->S[n]?=Gc c
section
variable{S0 S S':Sto}{t:Tr}{ls:Wp Ld}{ds:Wp AS}{p s l m k:Nat}{as:Wp Nat}{st:Stt}{d:AS}
theorem Wk.pn(h:Wk S0 p s l m as st S)(g:Pn p S S'):Wk S0 p s l m as st S':=
 ⟨g.pen,h.sat.same g.same (by simpa using h.np),h.np,h.new,λn c e ne=>g.get (h.kept n c e ne) ne⟩
theorem Wk.fG(h:Wk S0 p s l m as st S)(ht:IU t)(i:FC t k st)(hk:k<=16)(hc:Can t st d):∃S' as',BC [t.d,.ref s,d.d] S=Gc (.non,S')/\Wk S0 p s l m as' (step t st d) S':=by
 obtain⟨S',as',k1,k2,k3,k4⟩:=aX h.sat ht i hk hc
 have lS:S0.length<=S.length:=mx (mh (h.new s kc) (Ag h.sat.root))
 have mem:∀n∈s::l::m::as',n∈s::l::m::as\/S.length<=n:=by
  intro n hn
  simp only[kX]at hn⊢
  rcases hn with z|z|z|z
  .exact .inl (.inl z)
  .exact .inl (.inr (.inl z))
  .exact .inl (.inr (.inr (.inl z)))
  .exact(k4 n z).imp (λw=>.inr (.inr (.inr w))) id
 refine⟨S',as',k1,?_,k2,λz=>?_,λn z=>?_,λn c e ne=>k3.get (h.kept n c e ne) λz=>?_⟩
 .obtain⟨pd,pe,ph⟩:=h.pen
  exact⟨pd,k3.get pe h.np,ph⟩
 .rcases mem _ z with w|w
  .exact h.np w
  .have:=h.pen.lt;lia
 .rcases mem _ z with w|w
  .exact h.new n w
  .exact kY lS w
 .have:=h.new n z
  have:=Ag e
  lia
theorem We{x0 x1 x3 x4:kN D}{os:En}(ht:IU t):∀{ds:Wp AS} {st:Stt} {k:Nat} {as:Wp Nat} {S:Sto} {o:kN D},Wk S0 p s l m as st S->FC t k st->Gs t st ds->k+ds.length<=16->∃o' as' S',Ij [] (tNm 6) (Cb (AJ BC [eV 2,eV 5,eV 6])) (ds.map AS.d) ([x0,x1,Gc t.d,x3,x4,Gc (.ref s),o]++os) S=Gc (.nx,[x0,x1,Gc t.d,x3,x4,Gc (.ref s),o']++os,S')/\Wk S0 p s l m as' (runs t st ds) S'
 | [],st,k,as,S,o,w,i,g,h=>⟨o,as,S,by rw[mX,FH As],w⟩
 |d::ds,st,k,as,S,o,w,i,g,h=>by
  simp only[l7]at h
  obtain⟨S1,as1,e1,w1⟩:=w.fG ht i (by lia) g.1
  obtain⟨o',as',S',e2,w2⟩:=We (x0:=x0) (x1:=x1) (x3:=x3) (x4:=x4) (os:=os) ht (ds:=ds) (o:=Gc d.d) w1 (P1 ht i (by lia) g.1) g.2 (by lia)
  refine⟨o',as',S',?_,w2⟩
  rw[kq,CM As]
  simp[e1]at e2⊢
  exact e2
end
end Mi
end
noncomputable section
namespace Mi
open PySem PySem.Spec L2 PyProof.Rows
section
variable{S0 S S':Sto}{t:Tr}{ls:Wp Ld}{ds:Wp AS}{p s l m k:Nat}{as:Wp Nat}{st:Stt}{d:AS}
noncomputable def EK(st:Stt):Wp Nat:=(lT 6).filter λi=> !(st.nums.any λu=>u==(i:Int))
theorem Uq(hS:SAt S s l m as st):CH [] (tNm 1) (eOp (o2 (wIn true)) [eV 1,eIx (eV 0) (eI 2)]) (eV 1) (Kx 0 6) [] [Gc (.ref s),none] S=Gc (Bb (EK st),S):=by
 exact DH (gs:=[]) (t:=tNm 1) (f:=eV 1) (C:=[Gc (.ref s)]) (m:=1) (e:=λi:Nat=>D.int (0+(i:Int))) (g:=λi:Nat=>D.int i) (b:=λi=> !(st.nums.any λu=>u==(i:Int))) (S:=S) As (xs:=lT 6) (acc:=[]) (os:=[none]) rfl (kY (show _<=50 by simp) (AN (by decide))) (by
  intro i hi os ho
  obtain⟨o1,rfl⟩:=Qh ho
  refine⟨[Gc (.int i)],rfl,by simp,?_,by simp⟩
  have ro:=Ap hS.root
  have nu:=Ap hS.nu
  have fi:=J3 (us:=st.nums)
  have ii:=MX (us:=st.nums) (i:=(i:Int))
  generalize st.nums.map D.int=ud at*
  generalize (st.nums.any λu=>u==(i:Int))=bb at*
  simp[ro,nu,fi,ii])
theorem Qv{i:Nat}(h:i∈EK st):(i:Int)∉st.nums/\i<=9:=by
 unfold EK at h
 rw[nH]at h
 have h1:=oq.mp h.1
 refine⟨?_,by lia⟩
 intro z
 have h2:=h.2
 have:(st.nums.any λu=>u==(i:Int))=true:=oA.mpr ⟨_,z,by simp⟩
 rw[this]at h2
 cases h2
theorem Rc:(EK st).length<=6:=by
 unfold EK
 exact kY (pf _ _) (by simp)
def trT:Ex:=(AY (BK 10 (eIx (eV 9) (AJ AH [eV 0,eOp (o1 HK) [eV 9]])))
    (AY (BK 11 (eOp (o2 OM) [eOp (o2 Bv) [eOp (o2 Bv) [eIx (eIx (eIx (eV 5) (eI 0)) (eV 10)) (eI 0),eI 1],AJ AH [eV 0,eOp (o2 Oh) [eIx (eV 2) (eI 1),eI 1]]],eIx (eV 2) (eI 1)]))
    (AY (BK 12 (eIx (eV 8) (AJ AH [eV 0,eOp (o1 HK) [eV 8]])))
    (AY (BK 13 (eOp (o2 Bv) [eI 1,AJ AH [eV 0,eOp (o2 Wr) [eI 4,eIx (eIx (eIx (eV 5) (eI 0)) (eV 10)) (eI 1)]]]))
    (BK 6 (Be [eC (.str "trade"),eV 12,eV 10,eV 13,eV 11,eOp (o2 Bv) [eI 1,AJ AH [eV 0,eI 4]]]))))))
def trB:Ex:=(AY (BK 8 (EI [5] 1 (M8 [eI 6]) (tNm 1) (eOp (o2 (wIn true)) [eV 1,eIx (eV 0) (eI 2)]) (eV 1)))
    (AY (BK 9 (EI [] 2 (Ta (eIx (eV 5) (eI 0))) (tTp [tNm 0,tNm 1]) (eOp (o2 wGt) [eIx (eV 1) (eI 1),eI 0]) (eV 0)))
    (AY (BK 6 (Be [eC (.str "bring"),eI 0,AJ AH [eV 0,eIx (eV 2) (eI 1)],eOp (o2 Bv) [eI 5,AJ AH [eV 0,eI 9]]]))
    (AY (xIf (IW (eOp (o2 wNe) [eV 9,IC []]) (eOp (o2 wNe) [eV 8,IC []])) trT DU)
    (AY (Cb (AJ BC [eV 2,eV 5,eV 6]))
    (BK 4 (eOp (o2 Bv) [eV 4,Be [eV 6]])))))))
theorem bT{x1 x3 x4 x6 x7 x10 x11 x12 x13:kN D}(w:Wk S0 p s l m as st S)(ht:IU t)(h2:2<=t.k)(inv:FC t k st)(hk:k<=16)(hf:(Az st).isEmpty=false)(hl:(EK st).isEmpty=false):∃d y10 y11 y12 y13 S',trT [Gc (.ref p),x1,Gc t.d,x3,x4,Gc (.ref s),x6,x7,Gc (.lst (Bb (EK st))),Gc (.lst (Bb (Az st))),x10,x11,x12,x13] S=Gc (.nx,[Gc (.ref p),x1,Gc t.d,x3,x4,Gc (.ref s),Gc (AS.d d),x7,Gc (.lst (Bb (EK st))),Gc (.lst (Bb (Az st))),y10,y11,y12,y13],S')/\Can t st d/\Sm d/\Wk S0 p s l m as st S':=by
 obtain⟨t1,t2,t3,t4,t5,t6⟩:=ht
 have hlen:=inv.len
 have fl:=Jq (st:=st)
 have ll:=Rc (st:=st)
 have nf:=F2 (is:=Az st)
 have nl:=F2 (is:=EK st)
 have hfl:0<(Az st).length:=by
  cases z:Az st with
  |nil=>rw[z]at hf;cases hf
  |cons a b=>simp
 have hll:0<(EK st).length:=by
  cases z:EK st with
  |nil=>rw[z]at hl;cases hl
  |cons a b=>simp
 obtain⟨r1,S1,e1,a1,b1,p1⟩:=Af w.pen (n:=(Az st).length) (by lia) (by lia)
 have w1:=w.pn p1
 obtain⟨i,mi,ei⟩:=GU a1 b1
 have fi:=Ho mi
 have n1:=fi.2
 obtain⟨a,y1,y2,y3⟩:=w1.sat.at fi.1
 obtain⟨r2,S2,e2,a2,b2,p2⟩:=Af w1.pen (n:=(t.k:Int)-1) (by lia) (by lia)
 have w2:=w1.pn p2
 obtain⟨r3,S3,e3,a3,b3,p3⟩:=Af w2.pen (n:=(EK st).length) (by lia) (by lia)
 have w3:=w2.pn p3
 obtain⟨u,mu,eu⟩:=GU a3 b3
 have fu:=Qv mu
 obtain⟨r4,S4,e4,a4,b4,p4⟩:=Af w3.pen (n:=if(AQ st.AE i).n<4 then(AQ st.AE i).n else 4) (by split<;>lia) (by split<;>lia)
 have w4:=w3.pn p4
 obtain⟨r5,S5,e5,a5,b5,p5⟩:=Af w4.pen (n:=4) (by lia) (by lia)
 have w5:=w4.pn p5
 have kd:=inv.kind _ (BL fi.1)
 have hmod:=Og (x:=((AQ st.AE i).k:Int)+1+r2) (K:=t.k) (by lia) (by lia)
 obtain⟨kd2,ekd⟩:∃q:Nat,((AQ st.AE i).k+1+r2) % (t.k:Int)=(q:Int):=⟨_,(mB (nX _ (by lia))).symm⟩
 have hkd:kd2<t.k/\kd2≠(AQ st.AE i).k:=by
  rw[ekd]at hmod
  split at hmod<;>lia
 have kp:0<t.k:=by lia
 have g4:1+r4<=4/\1+r4<=(AQ st.AE i).n:=by split at b4<;>lia
 have big:(1:Int)+r5<2^130:=nQ (show 1+r5<5 by lia) (by decide)
 refine⟨.BO u i (1+r4) kd2 (1+r5),Gc (.int i),Gc (.int kd2),Gc (.int u),Gc (.int (1+r4)),S5,?_,⟨fi.1,by lia,g4.2,hkd.1,hkd.2,by lia,nQ big (by decide),fu.1,by lia,by lia⟩,⟨by lia,big⟩,w5⟩
 have ro1:=Ap w1.sat.root
 have lo1:=Ap w1.sat.lo
 have la1:=Ap y2
 obtain⟨a',z1,z2,z3⟩:=w3.sat.at fi.1
 obtain rfl:a'=a:=by rw[y1]at z1;injection z1 with z1;exact z1.symm
 have sz6:(6:Nat)<=sizeLine:=AN (by decide)
 have ro3:=Ap w3.sat.root
 have lo3:=Ap w3.sat.lo
 have la3:=Ap z2
 generalize Bb (Az st)=NF at*
 generalize Bb (EK st)=NL at*
 simp[trT,Tr.d,nf,e1,ei,ro1,lo1,y3,la1,e2,kp,ekd,nl,e3,eu,ro3,lo3,z3,la3,e4,e5,sz6,AS.d]
theorem Vj{x1:kN D}{os:En}(w:Wk S0 p s l m as st S)(ht:IU t):∃d S',Be [eC (.str "bring"),eI 0,AJ AH [eV 0,eIx (eV 2) (eI 1)],eOp (o2 Bv) [eI 5,AJ AH [eV 0,eI 9]]] (Gc (.ref p)::x1::Gc t.d::os) S=Gc (AS.d d,S')/\Can t st d/\Sm d/\Wk S0 p s l m as st S':=by
 obtain⟨t1,t2,t3,t4,t5,t6⟩:=ht
 obtain⟨r1,S1,e1,a1,b1,p1⟩:=Af w.pen (n:=t.k) (by lia) (by lia)
 obtain⟨r2,S2,e2,a2,b2,p2⟩:=Af p1.pen (n:=9) (by lia) (by lia)
 obtain⟨r1,rfl⟩:=FJ a1
 have sz4:(4:Nat)<=sizeLine:=AN (by decide)
 refine⟨.Bn 0 r1 (5+r2),S2,?_,⟨by lia,by lia,by lia,nQ (show 5+r2<15 by lia) (by decide)⟩,trivial,(w.pn p1).pn p2⟩
 simp[Tr.d,e1,e2,sz4,AS.d]
theorem ab{x1 x3:kN D}{DS:Wp D}{o6 o7 o8 o9 o10 o11 o12 o13:kN D}(w:Wk S0 p s l m as st S)(ht:IU t)(h2:2<=t.k)(inv:FC t k st)(hk:k<=16)(hD:DS.length<=30):∃d us S' as',trB [Gc (.ref p),x1,Gc t.d,x3,Gc (.tup DS),Gc (.ref s),o6,o7,o8,o9,o10,o11,o12,o13] S=Gc (.nx,[Gc (.ref p),x1,Gc t.d,x3,Gc (.tup (DS++[AS.d d])),Gc (.ref s)]++us,S')/\us.length=8/\Can t st d/\Sm d/\Wk S0 p s l m as' (step t st d) S':=by
 have hlen:=inv.len
 have cl:=Uq w.sat
 have cf:=Rp w.sat (by lia)
 have ro:=Ap w.sat.root
 have r0:=DZ w.sat.lo
 have r6:IL 6=true:=Dp (by decide) (by decide)
 have szD:DS.length+1<=sizeLine:=kY (show _<=50 by lia) (AN (by decide))
 have sz1:(1:Nat)<=sizeLine:=AN (by decide)
 obtain⟨d1,S1,e1,c1,m1,w1⟩:=Vj (x1:=x1) (os:=[x3,Gc (.tup DS),Gc (.ref s),o6,o7,Gc (.lst (Bb (EK st))),Gc (.lst (Bb (Az st))),o10,o11,o12,o13]) w ht
 have nL:=O4 (xs:=Bb (EK st)) (G9 λ_ _=>rfl)
 have nF:=O4 (xs:=Bb (Az st)) (G9 λ_ _=>rfl)
 have iL:(Bb (EK st)).isEmpty=(EK st).isEmpty:=by simp[Bb]
 have iF:(Bb (Az st)).isEmpty=(Az st).isEmpty:=by simp[Bb]
 rw[iL]at nL
 rw[iF]at nF
 by_cases hb:(Az st).isEmpty=false/\(EK st).isEmpty=false
 .obtain⟨d,y10,y11,y12,y13,S2,e2,c2,m2,w2⟩:=bT (x1:=x1) (x3:=x3) (x4:=Gc (.tup DS)) (x6:=Gc d1.d) (x7:=o7) (x10:=o10) (x11:=o11) (x12:=o12) (x13:=o13) w1 ht h2 inv hk hb.1 hb.2
  obtain⟨S3,as3,e3,w3⟩:=w2.fG ht inv hk c2
  refine⟨d,[Gc d.d,o7,Gc (.lst (Bb (EK st))),Gc (.lst (Bb (Az st))),y10,y11,y12,y13],S3,as3,?_,rfl,c2,m2,w3⟩
  rw[hb.1]at nF
  rw[hb.2]at nL
  generalize Bb (Az st)=NF at*
  generalize Bb (EK st)=NL at*
  generalize d.d=dd at*
  generalize t.d=td at*
  simp[trB,QI,ro,r0,r6,cl,cf,-PX,e1,-Il,nF,nL,e2,e3]
  simp[szD,sz1]
 .obtain⟨S3,as3,e3,w3⟩:=w1.fG ht inv hk c1
  refine⟨d1,[Gc d1.d,o7,Gc (.lst (Bb (EK st))),Gc (.lst (Bb (Az st))),o10,o11,o12,o13],S3,as3,?_,rfl,c1,m1,w3⟩
  have na:∀(E:En) (T:Sto),IW (eOp (o2 wNe) [eV 9,IC []]) (eOp (o2 wNe) [eV 8,IC []]) [Gc (.ref p),x1,Gc t.d,x3,Gc (.tup DS),Gc (.ref s),Gc d1.d,o7,Gc (.lst (Bb (EK st))),Gc (.lst (Bb (Az st))),o10,o11,o12,o13] T=Gc (.bl false,T):=by
   intro E T
   cases zF:(Az st).isEmpty with
   |true=>
    rw[zF]at nF
    simp[-Il,nF]
   |false=>
    have zL:(EK st).isEmpty=true:=by
     cases z:(EK st).isEmpty with
     |true=>rfl
     |false=>exact absurd ⟨zF,z⟩ hb
    rw[zF]at nF
    rw[zL]at nL
    simp[-Il,nF,nL]
  have na:=na []
  clear nF nL iL iF hb
  generalize Bb (Az st)=NF at*
  generalize Bb (EK st)=NL at*
  generalize d1.d=dd at*
  generalize t.d=td at*
  simp[trB,QI,ro,r0,r6,cl,cf,-PX,e1,-WU,na,e3]
  simp[szD,sz1]
end
end Mi
end
noncomputable section
namespace Mi
open PySem PySem.Spec L2 PyProof.Rows
section
variable{S0 S S':Sto}{t:Tr}{ls:Wp Ld}{ds:Wp AS}{p s l m k:Nat}{as:Wp Nat}{st:Stt}{d:AS}
theorem Qt{x1 x3:kN D}(ht:IU t)(h2:2<=t.k)(i0:FC t 0 (st0 t ls)):∀{rs:Wp D} {ds:Wp AS} {as:Wp Nat} {S:Sto} {us:En},us.length=8->Wk S0 p s l m as (runs t (st0 t ls) ds) S->Gs t (st0 t ls) ds->(∀d∈ds,Sm d)->ds.length+rs.length<=16->∃ds' us' as' S',Ij [] (tNm 7) trB rs ([Gc (.ref p),x1,Gc t.d,x3,Gc (.tup (ds.map AS.d)),Gc (.ref s)]++us) S=Gc (.nx,[Gc (.ref p),x1,Gc t.d,x3,Gc (.tup (ds'.map AS.d)),Gc (.ref s)]++us',S')/\us'.length=8/\Wk S0 p s l m as' (runs t (st0 t ls) ds') S'/\Gs t (st0 t ls) ds'/\(∀d∈ds',Sm d)/\ds'.length<=16
 | [],ds,as,S,us,hu,w,g,hm,hl=>⟨ds,us,as,S,by rw[FH As],hu,w,g,hm,by simpa using hl⟩
 |r::rs,ds,as,S,us,hu,w,g,hm,hl=>by
  obtain⟨u6,u7,u8,u9,u10,u11,u12,u13,rfl⟩:∃a b c d e f g h,us=[a,b,c,d,e,f,g,h]:=by
   match us,hu with
   | [a,b,c,d,e,f,g,h],_=>exact⟨a,b,c,d,e,f,g,h,rfl⟩
  simp only[l7]at hl
  have inv:=Ju ht i0 g (by lia)
  rw[ql]at inv
  obtain⟨d,us1,S1,as1,e1,l1,c1,m1,w1⟩:=ab (x1:=x1) (x3:=x3) (DS:=ds.map AS.d) (o6:=u6) (o7:=Gc r) (o8:=u8) (o9:=u9) (o10:=u10) (o11:=u11) (o12:=u12) (o13:=u13) w ht h2 inv (by lia) (by rw[ky];lia)
  have ed:ds.map AS.d++[d.d]=(ds++[d]).map AS.d:=by simp
  rw[ed]at e1
  rw[<-Kv]at w1
  obtain⟨ds',us',as',S',e2,r2⟩:=Qt (x1:=x1) (x3:=x3) ht h2 i0 (rs:=rs) (ds:=ds++[d]) (us:=us1) l1 w1 (Ie g c1) (λx hx=>(k6.mp hx).elim (hm x) λz=>by rw[kr.mp z];exact m1) (by simp;lia)
  refine⟨ds',us',as',S',?_,r2⟩
  have tn:tNm 7 r ([Gc (.ref p),x1,Gc t.d,x3,Gc (.tup (ds.map AS.d)),Gc (.ref s)]++[u6,u7,u8,u9,u10,u11,u12,u13]) S=Gc [Gc (.ref p),x1,Gc t.d,x3,Gc (.tup (ds.map AS.d)),Gc (.ref s),u6,Gc r,u8,u9,u10,u11,u12,u13]:=rfl
  rw[CM As,tn,A3,e1,A3,KR]
  exact e2
def trR:Ex:=(AY (BK 5 (AJ Df [Be [eV 2,eV 3,Be []]]))
    (AY (Jj (IV (eV 4)) (tNm 6) (Cb (AJ BC [eV 2,eV 5,eV 6])))
    (AY (Jj (M8 [AJ AH [eV 0,eI 5]]) (tNm 7) trB)
    (Bm (Be [eV 2,eV 3,eV 4])))))
def Tg(p:Nat)(S:Sto)(t:Tr)(ls:Wp Ld)(ds:Wp AS)(S':Sto):Prop:=(JL t ls ds/\∀d∈ds,Sm d)/\CP p S'/\∀n c,S[n]?=Gc c->n≠p->S'[n]?=Gc c
theorem Wj{x1:kN D}(hp:CP p S)(h:JL t ls ds)(h2:2<=t.k)(hl:ds.length<=12)(hm:∀d∈ds,Sm d):∃ds' E' S',trR [Gc (.ref p),x1,Gc t.d,Gc (.tup (ls.map Ld.d)),Gc (.tup (ds.map AS.d)),none,none,none,none,none,none,none,none,none] S=Gc (.ret (Aw t ls ds'),E',S')/\Tg p S t ls ds' S':=by
 have few:=h.inv.len
 obtain⟨s,l,m,as,S1,e1,a1,s1,n1⟩:=Pa (S:=S) (t:=t) (ls:=ls) (x:=.tup []) (by simpa[st0]using kY few (by decide))
 have w1:Wk S p s l m as (st0 t ls) S1:=by
  refine⟨?_,a1,λz=>by have:=n1 p z;have:=hp.lt;lia,n1,λn c e _=>s1.get e (by simp)⟩
  obtain⟨pd,pe,ph⟩:=hp
  exact⟨pd,s1.get pe (by simp),ph⟩
 obtain⟨o6,as2,S2,e2,w2⟩:=We (x0:=Gc (.ref p)) (x1:=x1) (x3:=Gc (.tup (ls.map Ld.d))) (x4:=Gc (.tup (ds.map AS.d))) (os:=[none,none,none,none,none,none,none]) (o:=none) h.tr w1 h.inv h.good (by lia)
 obtain⟨r,S3,e3,a3,b3,p3⟩:=Af w2.pen (n:=5) (by decide) (by decide)
 obtain⟨r,rfl⟩:=FJ a3
 have rk:IL (r:Int)=true:=Dp (by lia) (by lia)
 obtain⟨ds',us,as',S4,e4,_,w4,g4,m4,l4⟩:=Qt (x1:=x1) (x3:=Gc (.tup (ls.map Ld.d))) h.tr h2 h.inv (rs:=Kx 0 r) (us:=[o6,none,none,none,none,none,none,none]) rfl (w2.pn p3) h.good hm (by rw[F6];lia)
 have sz3:(3:Nat)<=sizeLine:=AN (by decide)
 refine⟨ds',[Gc (.ref p),x1,Gc t.d,Gc (.tup (ls.map Ld.d)),Gc (.tup (ds'.map AS.d)),Gc (.ref s)]++us,S4,?_,⟨⟨h.tr,h.inv,g4,l4⟩,m4⟩,w4.pen,w4.kept⟩
 simp only[mV,lN]at e2 e4
 unfold Aw
 generalize ds'.map AS.d=DN at*
 generalize ds.map AS.d=DO at*
 generalize ls.map Ld.d=LL at*
 generalize t.d=td at*
 simp[trR,e1,e2,e3,rk,e4,sz3]
theorem YD(h:FC t 0 (st0 t ls)):FC {t with k:=2} 0 (st0 {t with k:=2} []):=by
 obtain⟨G,B,a,b,c,_,e⟩:=h.gb
 exact⟨mI _,(λ_ z=>nomatch z),(λ_ z=>nomatch z),(λ_ z=>nomatch z),h.hold,mI _,G,B,a,b,c,(λ_ z=>nomatch z),e⟩
theorem QL(hp:CP p S):∃t ls ds S',Ci [.ref p] S=Gc (Aw t ls ds,S')/\Tg p S t ls ds S':=by
 obtain⟨t,ls,ds,S1,e1,⟨b1,l1,m1⟩,p1,k1⟩:=QZ hp
 have eb:IE=(AY (BK 1 (AJ Cj [eV 0,eI 12,eC (.str "trade")]))
  (AY (OB (tTp [tNm 2,tNm 3,tNm 4]) (eV 1))
  (AY (xIf (eOp (o2 wEq) [eIx (eV 2) (eI 1),eI 1]) (AY (BK 2 (eOp (o2 Bv) [Be [eIx (eV 2) (eI 0),eI 2],eOp (HC true false) [eV 2,eI 2]]))
  (OB (tTp [tNm 3,tNm 4]) (Be [Be [],Be []]))) DU) trR))):=rfl
 obtain⟨t1,t2,t3,t4,t5,t6⟩:=b1.tr
 have sz2:(2:Nat)<=sizeLine:=AN (by decide)
 have sz6:(6:Nat)<=sizeLine:=AN (by decide)
 by_cases hk:t.k=1
 .obtain⟨ds',E',S',e2,g,p2,k2⟩:=Wj (p:=p) (S:=S1) (t:={t with k:=2}) (ls:=[]) (ds:=[]) (x1:=Gc (Aw t ls ds)) p1 ⟨⟨t1,t2,by show 1<=2;lia,by show 2<=5;lia,t5,t6⟩,YD b1.inv,trivial,by simp⟩ (by show 2<=2;lia) (by simp) (λ_ z=>nomatch z)
  refine⟨{t with k:=2},[],ds',S',?_,g,p2,λn c e z=>k2 n c (k1 n c e z) z⟩
  unfold Ci
  rw[eb]
  have hk':(t.k:Int)=1:=by rw[hk];rfl
  have c2:∀a b c d e f:D,IQ [a,b,c,d,e,f] (Gc 2) none=[c,d,e,f]:=λ_ _ _ _ _ _=>rfl
  generalize Aw {t with k:=2} [] ds'=R at*
  simp[Aw,Tr.d,hk']at e1 e2
  simp[Aw,e1,Tr.d,hk',c2,e2,sz2,sz6]
 .obtain⟨ds',E',S',e2,g,p2,k2⟩:=Wj (p:=p) (S:=S1) (x1:=Gc (Aw t ls ds)) p1 b1 (by lia) l1 m1
  refine⟨t,ls,ds',S',?_,g,p2,λn c e z=>k2 n c (k1 n c e z) z⟩
  unfold Ci
  rw[eb]
  have hk':((t.k:Int)==1)=false:=by simp;lia
  generalize Aw t ls ds'=R at*
  simp[Aw,Tr.d]at e1 e2
  simp[Aw,e1,Tr.d,hk',e2]
end
end Mi
end
noncomputable section
namespace Mi
open PySem PySem.Spec L2 PyProof.Rows
noncomputable def nds:Nat->Wp Mx->Wp AS
 |_,[]=>[]
 |n,(r,m,e)::xs=>.Bn 0 r.o (r.n+3):: .BO r.u n m r.k e::nds (n+2) xs
structure hV(K:Nat)(x:Mx):Prop where
 row:SU K x.1
 m1:1<=x.2.1
 m2:x.2.1<=x.1.n+3
 e1:1<=x.2.2
 e2:x.2.2<2^131
noncomputable def OL(x:Mx):Trd:=⟨x.1.u,x.1.o,x.2.1,x.1.k,x.2.2⟩
section
variable{K:Nat}
theorem Vu{st:Stt}{u m e:Int}{l k:Nat}(h:MI K st)(hl:l<st.AE.length)(m1:1<=m)(hn:m<=(AQ st.AE l).n)(hk:k<K)(e1:1<=e)(e2:e<2^131):MI K (step (tM K) st (.BO u l m k e)):=⟨λx hx=>by
 have hl':=h.lds _ (BL hl)
 rcases k6.mp hx with z|z
 .rcases nK z with z|rfl
  .exact h.lds x z
  .exact⟨hl'.1,by dsimp only;lia,by dsimp only;lia,hl'.2.2.2⟩
 .rw[kr.mp z]
  exact⟨hk,by dsimp only;lia,e2,hl'.2.2.2⟩,h.hold⟩
theorem Pw:∀{xs:Wp Mx} {st:Stt},MI K st->(∀x∈xs,hV K x)->(st.nums++xs.map λx=>(x.1.u:Int)).Nodup->(∀x∈xs,x.1.u<=9)->Gs (tM K) st (nds st.AE.length xs)/\Pre (MI K) (tM K) st (nds st.AE.length xs)
 | [],st,h,_,_,_=>⟨trivial,h⟩
 |(r,m,e)::xs,st,h,hx,nd,hu=>by
  have ox:=hx _ kc
  have b1:1<=r.n+3:=by have:=ox.row.n1;dsimp only at this;lia
  have b2:r.n+3<2^131:=pO (Int.add_lt_add_right ox.row.n2 3) (by decide)
  have h1:=UN (K:=K) (o:=r.o) (m:=r.n+3) h ox.row.o b1 b2
  have l1:(step (tM K) st (.Bn 0 r.o (r.n+3))).AE=st.AE++[⟨r.o,r.n+3,Qe 1 0⟩]:=rfl
  have at1:AQ (step (tM K) st (.Bn 0 r.o (r.n+3))).AE st.AE.length=⟨r.o,r.n+3,Qe 1 0⟩:=by
   rw[l1];unfold AQ;simp
  have lt1:st.AE.length<(step (tM K) st (.Bn 0 r.o (r.n+3))).AE.length:=by rw[l1];simp
  have h2:=Vu (K:=K) (u:=r.u) (k:=r.k) (e:=e) (m:=m) h1 lt1 ox.m1 (by rw[at1];exact ox.m2) ox.row.k ox.e1 ox.e2
  have nu:(r.u:Int)∉st.nums:=λz=>by
   rw[kq,mq]at nd
   exact nd.2.2 _ z _ kc rfl
  have l2:(step (tM K) (step (tM K) st (.Bn 0 r.o (r.n+3))) (.BO r.u st.AE.length m r.k e)).AE.length=st.AE.length+2:=by
   show(less _ _ _++[_]).length=_
   rw[lQ,Bl,l1];simp
  have u9:=hu _ kc
  obtain⟨a,b⟩:=Pw (xs:=xs) (st:=step (tM K) (step (tM K) st (.Bn 0 r.o (r.n+3))) (.BO r.u st.AE.length m r.k e)) h2 (λx z=>hx x (kU _ z)) (by
   show((st.nums++[(r.u:Int)])++_).Nodup
   rw[nD];exact nd) (λx z=>hu x (kU _ z))
  rw[l2]at a b
  have m3:m<2^131:=pP ox.m2 b2
  refine⟨⟨⟨by show 0<1;decide,ox.row.o,b1,b2⟩,⟨lt1,ox.m1,by rw[at1];exact ox.m2,ox.row.k,by rw[at1];exact ox.row.ne,ox.e1,ox.e2,nu,by lia,by dsimp only at u9;lia⟩,a⟩,h,h1,b⟩
theorem J9:∀{xs:Wp Mx} {n:Nat},(nds n xs).length=2*xs.length
 | [],n=>rfl
 |(r,m,e)::xs,n=>by
  show(nds (n+2) xs).length+1+1=_
  rw[J9,l7];lia
theorem LX:∀{xs:Wp Mx} {n:Nat},((nds n xs).filterMap Ct).length=xs.length
 | [],n=>rfl
 |(r,m,e)::xs,n=>by
  show((nds (n+2) xs).filterMap Ct).length+1=_
  rw[LX];rfl
theorem Pt{t:Tr}:∀{ds:Wp AS} {st:Stt},(runs t st ds).AE.length<=st.AE.length+ds.length
 | [],st=>kR _
 |d::ds,st=>by
  have h1:(step t st d).AE.length<=st.AE.length+1:=by cases d<;>simp[step,Bl]
  have:=Pt (t:=t) (ds:=ds) (st:=step t st d)
  show(runs t (step t st d) ds).AE.length<=_
  simp only[l7];lia
theorem O7{xs:Wp Mx}(hK:1<=K/\K<=5)(hx:∀x∈xs,hV K x)(nd:(xs.map λx=>x.1.u).Nodup)(hu:∀x∈xs,x.1.u<=9)(hl:xs.length<=10):FD (tM K) [] (nds 0 xs):=by
 have nd':(xs.map λx=>(x.1.u:Int)).Nodup:=by
  rw[nG,nE]at nd⊢
  exact nd.imp λh z=>h (by lia)
 obtain⟨a,b⟩:=Pw (K:=K) (xs:=xs) (st:=st0 (tM K) []) ⟨λx z=>(by cases z),rfl⟩ hx (by show([]++_).Nodup;rw[lN];exact nd') hu
 have ln:=J9 (xs:=xs) (n:=0)
 refine⟨⟨kR 1,(by show 1<=4;decide),hK.1,hK.2,kR 1,(by show 1<=20;decide)⟩,by decide,λi hi=>⟨16,kR _,(Ws b i).inv ?_ ?_⟩,a,by lia⟩
 .have:=Pt (t:=tM K) (ds:=(nds 0 xs).take i) (st:=st0 (tM K) [])
  have e0:(st0 (tM K) []).AE.length=0:=rfl
  have:((nds 0 xs).take i).length<=20:=by rw[pA];lia
  show(runs (tM K) (st0 (tM K) []) ((nds 0 xs).take i)).AE.length<=20
  lia
 .rw[show(st0 (tM K) []).AE.length=0 from rfl,OK]
  have:=((sS i (nds 0 xs)).filterMap Ct).length_le
  rw[LX]at this
  lia
theorem FD.cut{t:Tr}{ls:Wp Ld}{ds:Wp AS}(h:FD t ls ds)(j:Nat):FD t ls (ds.take j):=by
 refine⟨h.tr,h.few,λi hi=>?_,IZ h.good,?_⟩
 .rw[List.take_take]
  exact h.inv _ (by rw[pA]at hi;lia)
 .have:=h.len
  rw[pA];lia
theorem TM:∀{xs:Wp Mx} {st:Stt} {tl:Wp AS},(∀L,tds L tl=[])->tds (runs (tM K) st (nds st.AE.length xs++tl)).AE (nds st.AE.length xs++tl)=xs.map OL
 | [],st,tl,h=>h _
 |(r,m,e)::xs,st,tl,h=>by
  have l1:(step (tM K) st (.Bn 0 r.o (r.n+3))).AE=st.AE++[⟨r.o,r.n+3,Qe 1 0⟩]:=rfl
  have l2:(step (tM K) (step (tM K) st (.Bn 0 r.o (r.n+3))) (.BO r.u st.AE.length m r.k e)).AE.length=st.AE.length+2:=by
   show(less _ _ _++[_]).length=_
   rw[lQ,Bl,l1];simp
  have ih:=TM (xs:=xs) (st:=step (tM K) (step (tM K) st (.Bn 0 r.o (r.n+3))) (.BO r.u st.AE.length m r.k e)) (tl:=tl) h
  rw[l2]at ih
  have kk:(AQ (runs (tM K) (step (tM K) (step (tM K) st (.Bn 0 r.o (r.n+3))) (.BO r.u st.AE.length m r.k e)) (nds (st.AE.length+2) xs++tl)).AE st.AE.length).k=r.o:=by
   rw[RJ (by rw[l2];lia),TQ (by rw[l1];simp),l1]
   unfold AQ;simp
  show tds (runs (tM K) (step (tM K) (step (tM K) st (.Bn 0 r.o (r.n+3))) (.BO r.u st.AE.length m r.k e)) (nds (st.AE.length+2) xs++tl)).AE (.Bn 0 r.o (r.n+3):: .BO r.u st.AE.length m r.k e::(nds (st.AE.length+2) xs++tl))=_
  generalize (runs (tM K) (step (tM K) (step (tM K) st (.Bn 0 r.o (r.n+3))) (.BO r.u st.AE.length m r.k e)) (nds (st.AE.length+2) xs++tl)).AE=L at*
  unfold tds at ih⊢
  rw[List.filterMap_cons_none rfl,List.filterMap_cons_some (b:=OL (r,m,e)) (by
   show Gc (⟨_,(AQ L st.AE.length).k,m,r.k,e⟩:Trd)=_
   rw[kk];rfl),ih]
  rfl
end
end Mi
end
noncomputable section
namespace Mi
open PySem PySem.Spec L2 PyProof.Rows
noncomputable def ans(r:Trd):Mx:=(r,r.n,r.g)
noncomputable def flp(r:Trd):Trd:=⟨r.u,r.o,r.n,r.k,r.g⟩
section
variable{a b A B R:Wp Trd}{r:Trd}{u n:Nat}{m e:Int}
theorem W4(hu:u<=9)(h0:∀n,n<u->clB (lk a n) (lk b n)=false)(h1:clB (lk a u) (lk b u)=true):∃L,clL a b=u::L:=by
 unfold clL
 obtain⟨v,hv⟩:∃v,10=u+(v+1):=⟨9-u,by lia⟩
 rw[hv,List.range_add,qj,List.filter_append,tu.mpr (λn hn=>by rw[h0 n (oq.mp hn)];decide),lN,kq,Nat.add_zero,List.filter_cons,lF h1]
 exact⟨_,rfl⟩
theorem Qs(hu:u<=9)(h0:∀n,n≠u->clB (lk a n) (lk b n)=false)(h1:clB (lk a u) (lk b u)=true):clL a b=[u]:=by
 obtain⟨L,e⟩:=W4 hu (λn hn=>h0 n (ki hn)) h1
 have nd:(clL a b).Nodup:=List.Nodup.sublist List.filter_sublist wN
 rw[e]at nd⊢
 cases L with
 |nil=>rfl
 |cons x L=>
  have hx:x∈clL a b:=by rw[e];simp
  have c:=(nH.mp hx).2
  have nx:x≠u:=λz=>(nI.mp nd).1 (by rw[z];exact kc)
  rw[h0 x nx]at c
  cases c
theorem Rr(h:∀n,clB (lk a n) (lk b n)=false):clL a b=[]:=tu.mpr λn _=>by rw[h n];decide
theorem Kr{o:kN Trd}:clB o (o.map flp)=false/\clB (o.map flp) o=false:=by
 cases o with
 |none=>exact⟨rfl,rfl⟩
 |some r=>exact⟨by simp[clB,flp],by simp[clB,flp]⟩
theorem Kh:lk (R.map flp) n=(lk R n).map flp:=by
 unfold lk
 rw[List.find?_map]
 rfl
theorem Nj:lk (A++B) n=(lk A n).or (lk B n):=by
 unfold lk
 exact List.find?_append
theorem X0(h:r.u≠n):lk (r::B) n=lk B n:=by
 unfold lk
 rw[List.find?_cons_of_neg (by simpa using h)]
theorem cA(h:r.u=n):lk (r::B) n=Gc r:=by
 unfold lk
 rw[List.find?_cons_of_pos (by simpa using h)]
theorem U4(h:∀x∈A,x.u≠n):lk A n=none:=by
 unfold lk
 rw[vJ]
 intro x hx
 simpa using h x hx
theorem aH{o p:kN Trd}:((o.map flp).or (p.map flp))=(o.or p).map flp:=by cases o<;>rfl
structure Mid(R A:Wp Trd)(r:Trd)(B:Wp Trd):Prop where
 eq:R=A++r::B
 lo:∀x∈A,x.u<r.u
 hi:∀x∈B,r.u<x.u
 le:r.u<=9
theorem Zw(h:TrO R)(s:R.Pairwise λa b=>a.u<b.u)(e:R=A++r::B):Mid R A r B:=by
 subst e
 have p:=uX.mp s
 exact⟨rfl,λx hx=>p.2.2 x hx r kc,λx hx=>(sD.mp p.2.1).1 x hx,h.le r (by simp)⟩
theorem Mid.lkr(h:Mid R A r B):lk R r.u=Gc r:=by
 rw[h.eq,Nj,U4 (λx hx=>ki (h.lo x hx)),cA rfl];rfl
noncomputable def turn(A:Wp Trd)(r:Trd)(B:Wp Trd)(m e:Int):Wp Trd:=A.map flp++OL (r,m,e)::B.map flp
theorem Mid.lkt(h:Mid R A r B):lk (turn A r B m e) r.u=Gc (OL (r,m,e)):=by
 unfold turn
 rw[Nj,Kh,U4 (λx hx=>ki (h.lo x hx)),cA (r:=OL (r,m,e)) (n:=r.u) rfl];rfl
theorem Mid.lkn(h:Mid R A r B)(hn:n≠r.u):lk (turn A r B m e) n=(lk R n).map flp:=by
 unfold turn
 rw[h.eq,Nj,Nj,X0 (r:=OL (r,m,e)) (λz=>hn (zc z)),X0 (r:=r) (λz=>hn (zc z)),Kh,Kh,aH]
theorem Vs(h:m≠r.n\/e≠r.g):clB (Gc r) (Gc (OL (r,m,e)))=true/\clB (Gc (OL (r,m,e))) (Gc r)=true:=by
 have h':((r.g==e) && (r.n==m))=false:=by
  rcases h with h|h
  .rw[show(r.n==m)=false by simpa using λz=>h (zc z),rm]
  .rw[show(r.g==e)=false by simpa using λz=>h (zc z),uM]
 have h2:((e==r.g) && (m==r.n))=false:=by
  rcases h with h|h
  .rw[show(m==r.n)=false by simpa using h,rm]
  .rw[show(e==r.g)=false by simpa using h,uM]
 constructor
 .show(!((r.k==r.k) && ((r.g==e) && ((r.o==r.o) && (r.n==m)))))=true
  rw[qE,qE,pY,pY,h'];rfl
 .show(!((r.o==r.o) && ((m==r.n) && ((r.k==r.k) && (e==r.g)))))=true
  rw[qE,qE,pY,pY,Bool.and_comm,h2];rfl
theorem Mid.turned(h:Mid R A r B)(ha:∀n,lk a n=lk R n)(hb:∀n,lk b n=lk (turn A r B m e) n)(hm:m≠r.n\/e≠r.g):clL a b=[r.u]/\prD a b r.u=.tup [.int r.u,r.d,(OL (r,m,e)).d]/\fcD a b=.tup [.int r.u,r.d,(OL (r,m,e)).d]/\fcD b a=.tup [.int r.u,(OL (r,m,e)).d,r.d]:=by
 have l1:=h.lkr
 have l2:=h.lkt (m:=m) (e:=e)
 have c:=Vs hm
 have eL:=Qs (a:=a) (b:=b) h.le (λn hn=>by rw[ha,hb,h.lkn hn];exact Kr.1) (by rw[ha,hb,l1,l2];exact c.1)
 have eL':=Qs (a:=b) (b:=a) h.le (λn hn=>by rw[ha,hb,h.lkn hn];exact Kr.2) (by rw[ha,hb,l1,l2];exact c.2)
 have p1:prD a b r.u=.tup [.int r.u,r.d,(OL (r,m,e)).d]:=by
  unfold prD
  rw[ha,hb,l1,l2];rfl
 refine⟨eL,p1,?_,?_⟩
 .unfold fcD
  rw[eL]
  exact p1
 .unfold fcD
  rw[eL']
  show prD b a r.u=_
  unfold prD
  rw[ha,hb,l1,l2];rfl
theorem Mid.cut(h:Mid R A r B)(ha:∀n,lk a n=lk R n)(hb:∀n,lk b n=lk (A.map flp) n):fcD a b=.tup [.int r.u,r.d,.non]:=by
 have l1:=h.lkr
 have l2:lk (A.map flp) r.u=none:=by
  rw[Kh,U4 (λx hx=>ki (h.lo x hx))];rfl
 obtain⟨L,eL⟩:=W4 (a:=a) (b:=b) h.le (λn hn=>by
  have:lk R n=lk A n:=by
   rw[h.eq,Nj,X0 (qC hn),U4 (A:=B) (λx hx=>by have:=h.hi x hx;lia)]
   cases lk A n<;>rfl
  rw[ha,hb,this,Kh];exact Kr.1) (by rw[ha,hb,l1,l2];rfl)
 unfold fcD
 rw[eL]
 show prD a b r.u=_
 unfold prD
 rw[ha,hb,l1,l2];rfl
theorem aJ(ha:∀n,lk a n=lk R n)(hb:∀n,lk b n=lk (R.map flp) n):fcD a b=.non/\fcD b a=.non:=by
 constructor
 .unfold fcD
  rw[Rr λn=>by rw[ha,hb,Kh];exact Kr.1]
 .unfold fcD
  rw[Rr λn=>by rw[ha,hb,Kh];exact Kr.2]
end
end Mi
end
noncomputable section
namespace Mi
open PySem PySem.Spec L2 PyProof.Rows
section
variable{S:Sto}{p q:Nat}{t:Tr}{ls:Wp Ld}{ds:Wp AS}{K:Nat}
theorem O6:∀{xs:Wp Mx} {n:Nat} {r:Trd} {m e:Int},nds n (xs++[(r,m,e)])=nds n xs++[.Bn 0 r.o (r.n+3),.BO r.u (n+2*xs.length:Nat) m r.k e]
 | [],n,r,m,e=>by simp[nds]
 |(r',m',e')::xs,n,r,m,e=>by
  rw[mV]
  show AS.Bn 0 r'.o (r'.n+3):: .BO r'.u n m' r'.k e'::nds (n+2) (xs++[(r,m,e)])=_
  rw[O6,l7,show n+2+2*xs.length=n+2*(xs.length+1) by lia]
  rfl
theorem SW:∀{xs ys:Wp Mx} {n:Nat},nds n (xs++ys)=nds n xs++nds (n+2*xs.length) ys
 | [],ys,n=>by simp[nds]
 |(r,m,e)::xs,ys,n=>by
  rw[mV]
  show AS.Bn 0 r.o (r.n+3):: .BO r.u n m r.k e::nds (n+2) (xs++ys)=_
  rw[SW,l7,show n+2+2*xs.length=n+2*(xs.length+1) by lia]
  rfl
def anB:Ex:=(AY (Cb (Kz LF (eV 1) [Be [eC (.str "bring"),eI 0,eV 5,eOp (o2 Bv) [eV 6,eI 3]]]))
    (Cb (Kz LF (eV 1) [Be [eC (.str "trade"),eV 2,eOp (o2 Oh) [eOp (o1 HK) [eV 1],eI 1],eV 6,eV 3,eV 4]])))
theorem Zx{xs:Wp Mx}{r:Trd}{e0:kN D}(hq:S[q]?=Gc (.lst ((nds 0 xs).map AS.d)))(hl:xs.length<=100):anB [e0,Gc (.ref q),Gc (.int r.u),Gc (.int r.k),Gc (.int r.g),Gc (.int r.o),Gc (.int r.n)] S=Gc (.nx,[e0,Gc (.ref q),Gc (.int r.u),Gc (.int r.k),Gc (.int r.g),Gc (.int r.o),Gc (.int r.n)],S.set q (.lst ((nds 0 (xs++[ans r])).map AS.d))):=by
 have ln:=J9 (xs:=xs) (n:=0)
 have sz4:(4:Nat)<=sizeLine:=AN (by decide)
 have sz6:(6:Nat)<=sizeLine:=AN (by decide)
 have hz:((nds 0 xs).map AS.d).length<sizeLine:=kT (show _<201 by rw[ky];lia) (AN (by decide))
 have hz2:((nds 0 xs).map AS.d++[D.tup [.str "bring",.int 0,.int r.o,.int (r.n+3)]]).length<sizeLine:=kT (show _<202 by rw[lQ,ky];simp;lia) (AN (by decide))
 have c1:=AR hq
 have q3:(S.set q (.lst ((nds 0 xs).map AS.d++[D.tup [.str "bring",.int 0,.int r.o,.int (r.n+3)]])))[q]?=Gc (.lst ((nds 0 xs).map AS.d++[D.tup [.str "bring",.int 0,.int r.o,.int (r.n+3)]])):=ko (Ag hq)
 have c2:=AR q3
 have dq:=Ap q3
 have fin:(nds 0 (xs++[ans r])).map AS.d=((nds 0 xs).map AS.d++[D.tup [.str "bring",.int 0,.int r.o,.int (r.n+3)]])++[D.tup [.str "trade",.int r.u,.int (2*xs.length:Nat),.int r.n,.int r.k,.int r.g]]:=by
  unfold ans
  rw[O6,my,nD,ql];rfl
 have li:(((nds 0 xs).map AS.d).length:Int)=(2*xs.length:Nat):=by rw[ky,ln]
 rw[fin]
 generalize (nds 0 xs).map AS.d=MD at*
 generalize hB:D.tup [.str "bring",.int 0,.int r.o,.int (r.n+3)]=B at*
 have l2:((MD++[B]).length:Int)-1=(2*xs.length:Nat):=by rw[lQ];simp;lia
 generalize hM2:MD++[B]=M2 at*
 simp[anB,hB,c1,hz,hM2,c2,hz2,dq,l2,sz4,sz6]
theorem Ro{e0:kN D}{q':Nat}{L:Wp D}(ne:q'≠q):∀{R:Wp Trd} {A:Wp Trd} {S:Sto} {us:En},us.length=5->S[q]?=Gc (.lst ((nds 0 (A.map ans)).map AS.d))->S[q']?=Gc (.lst L)->A.length+R.length<=100->∃us' S',Ij [(q',L)] (tTp [tNm 2,tNm 3,tNm 4,tNm 5,tNm 6]) anB (R.map Trd.d) ([e0,Gc (.ref q)]++us) S=Gc (.nx,[e0,Gc (.ref q)]++us',S')/\us'.length=5/\S'[q]?=Gc (.lst ((nds 0 ((A++R).map ans)).map AS.d))/\Cp [q] S S'
 | [],A,S,us,hu,hq,hq',hl=>⟨us,S,by rw[mX,FH (λg hg=>by rw[kr.mp hg];exact AR hq')],hu,by rw[oO];exact hq,.refl⟩
 |r::R,A,S,us,hu,hq,hq',hl=>by
  obtain⟨u2,u3,u4,u5,u6,rfl⟩:∃a b c d e,us=[a,b,c,d,e]:=by
   match us,hu with
   | [a,b,c,d,e],_=>exact⟨a,b,c,d,e,rfl⟩
  simp only[l7]at hl
  have x1:=Zx (r:=r) (e0:=e0) hq (by rw[ky];lia)
  have em:(A.map ans)++[ans r]=(A++[r]).map ans:=by simp
  rw[em]at x1
  have lt:=Ag hq
  obtain⟨us',S',y1,y2,y3,y4⟩:=Ro (e0:=e0) ne (R:=R) (A:=A++[r]) (S:=S.set q (.lst ((nds 0 ((A++[r]).map ans)).map AS.d))) (us:=[Gc (.int r.u),Gc (.int r.k),Gc (.int r.g),Gc (.int r.o),Gc (.int r.n)]) rfl (ko lt) (by rw[kW (λz=>ne z.symm)];exact hq') (by simp;lia)
  refine⟨us',S',?_,y2,by rw[y3];simp,(Cp.set (by simp)).trans y4⟩
  have tn:tTp [tNm 2,tNm 3,tNm 4,tNm 5,tNm 6] r.d ([e0,Gc (.ref q)]++[u2,u3,u4,u5,u6]) S=Gc [e0,Gc (.ref q),Gc (.int r.u),Gc (.int r.k),Gc (.int r.g),Gc (.int r.o),Gc (.int r.n)]:=rfl
  rw[kq,CM (λg hg=>by rw[kr.mp hg];exact AR hq'),tn,A3,x1,A3,KR]
  exact y1
theorem SY(h:FD t ls ds):∃S',EE [Aw t ls ds] S=Gc (Aw (tM t.k) [] (nds 0 ((srt (tdB t ls ds)).map ans)),S')/\Cp [] S S':=by
 obtain⟨q',S1,e1,a1,s1,l1⟩:=JP (S:=S++[.lst []]) h
 have l10:=Zl h.tok
 have q0:S1[S.length]?=Gc (.lst ((nds 0 (([]:Wp Trd).map ans)).map AS.d)):=s1.get kz (by simp)
 have ne:q'≠S.length:=by simp at l1;lia
 obtain⟨us,S2,e2,hu,q2,s2⟩:=Ro (e0:=Gc (Aw t ls ds)) (L:=(srt (tdB t ls ds)).map Trd.d) ne (R:=srt (tdB t ls ds)) (A:=[]) (S:=S1) (us:=[none,none,none,none,none]) rfl q0 a1 (by simp;lia)
 rw[lN]at q2
 have d2:=Ap q2
 have sq:=DZ a1
 have sz6:(6:Nat)<=sizeLine:=AN (by decide)
 have sz3:(3:Nat)<=sizeLine:=AN (by decide)
 have sz2:(2:Nat)<=sizeLine:=AN (by decide)
 have sz1:(1:Nat)<=sizeLine:=AN (by decide)
 have et:(tM t.k).d=.tup [.int 1,.int t.k,.int 1,.tup [.tup [.int 1,.int 1]],.int 0,.int 0]:=by
  unfold Tr.d tM shD
  simp[XI]
 have eD:Aw (tM t.k) [] (nds 0 ((srt (tdB t ls ds)).map ans))=.tup [.tup [.int 1,.int t.k,.int 1,.tup [.tup [.int 1,.int 1]],.int 0,.int 0],.tup [],.tup ((nds 0 ((srt (tdB t ls ds)).map ans)).map AS.d)]:=by
  unfold Aw
  rw[et];rfl
 have eb:JF=(AY (BK 1 (Hv []))
  (AY (Jj (IV (AJ CF [eV 0])) (tTp [tNm 2,tNm 3,tNm 4,tNm 5,tNm 6]) anB)
  (Bm (Be [Be [eI 1,eIx (eIx (eV 0) (eI 0)) (eI 1),eI 1,Be [Be [eI 1,eI 1]],eI 0,eI 0],Be [],eOp (o1 FT) [eV 1]])))):=rfl
 refine⟨S2,?_,Cp.new (A:=[]) (B:=[S.length]) (.trans .app s1) s2 (by simp)⟩
 unfold EE
 rw[eb,eD]
 simp only[mV,lN]at e2
 generalize (nds 0 ((srt (tdB t ls ds)).map ans)).map AS.d=MD at*
 generalize (srt (tdB t ls ds)).map Trd.d=TS at*
 simp only[Aw,Tr.d]at e1 e2⊢
 simp[e1,sq,e2,d2,sz6,sz3,sz2,sz1]
theorem Q9{u g n:Int}{i k:Nat}(hp:CP p S):∃m e S',C4 [.ref p,(AS.BO u i n k g).d] S=Gc ((AS.BO u i m k e).d,S')/\((m=n/\g<e/\e<=g+9)\/(n<m/\m<=n+2/\e=g))/\Pn p S S':=by
 obtain⟨r1,S1,e1,a1,b1,p1⟩:=Af hp (n:=2) (by decide) (by decide)
 have c3:∀a b c d e f:D,IQ [a,b,c,d,e,f] none (Gc 3)=[a,b,c]:=λ_ _ _ _ _ _=>rfl
 have c4:∀a b c d e f:D,IQ [a,b,c,d,e,f] (Gc 4) none=[e,f]:=λ_ _ _ _ _ _=>rfl
 have c5:∀a b c d e f:D,IQ [a,b,c,d,e,f] none (Gc 5)=[a,b,c,d,e]:=λ_ _ _ _ _ _=>rfl
 have sz6:(6:Nat)<=sizeLine:=AN (by decide)
 have sz4:(4:Nat)<=sizeLine:=AN (by decide)
 have sz1:(1:Nat)<=sizeLine:=AN (by decide)
 cases hr:(r1==0)with
 |true=>
  obtain⟨r2,S2,e2,a2,b2,p2⟩:=Af p1.pen (n:=2) (by decide) (by decide)
  refine⟨n+1+r2,g,S2,?_,.inr ⟨by lia,by lia,rfl⟩,p1.trans p2⟩
  simp[C4,Gv,e1,hr,AS.d,c3,c4,e2,sz6,sz4,sz1]
 |false=>
  obtain⟨r2,S2,e2,a2,b2,p2⟩:=Af p1.pen (n:=9) (by decide) (by decide)
  refine⟨n,g+1+r2,S2,?_,.inl ⟨rfl,by lia,by lia⟩,p1.trans p2⟩
  simp[C4,Gv,e1,hr,AS.d,c5,e2,sz6,sz1]
end
end Mi
end
noncomputable section
namespace Mi
open PySem PySem.Spec L2
def Pl:Nat->D->Prop
 |0,_=>pQ
 |_+1,.int _=>uL
 |m+1,.tup ds=>ds.length<=1000/\∀d∈ds,Pl m d
 |m+1,.lst ds=>ds.length<=1000/\∀d∈ds,Pl m d
 |_+1,_=>pQ
theorem Pc{n:Nat}:Ds (n+1)=BP (BU 2 (FP (CD n))):=rfl
theorem OX{n:Nat}:CD (n+1)=BP (BU 2 (Ee (Ds n))):=rfl
section
variable{S:Sto}
theorem O2:∀{n:Nat},bls (ku n (.bl true))=Gc (ku n true)
 |0=>rfl
 |n+1=>by
  have ih:=O2 (n:=n)
  rw[mM,mM]
  unfold bls at ih⊢
  rw[sC,ih]
  rfl
theorem Oo:∀{n:Nat},(ku n true).all id=true
 |0=>rfl
 |n+1=>by rw[mM,pV,Oo];rfl
theorem gi{n:Nat}{ds:Wp D}{W:D}(hl:ds.length<=1000)(hW:∀T,asS (dr T W)=Gc ds)(h:∀d∈ds,CD n [d,d] S=Gc (.bl true,S)):CH [] (tTp [tNm 1,tNm 2]) Di (AJ (CD n) [eV 2,eOp (o2 wIx) [eV 0,eV 1]]) (Mw 0 ds) [] [Gc W,none,none] S=Gc (ku ds.length (.bl true),S):=by
 have e:=G6 (gs:=[]) (t:=tTp [tNm 1,tNm 2]) (f:=AJ (CD n) [eV 2,eOp (o2 wIx) [eV 0,eV 1]]) (C:=[Gc W]) (m:=2) (e:=λ(i:Nat)=>D.tup [.int i,ds.getD i .non]) (g:=λ_=>D.bl true) (S:=S) As (xs:=lT ds.length) (acc:=[]) (os:=[none,none]) rfl (AN (by simpa using hl)) (by
  intro i hi os ho
  obtain⟨o1,o2,rfl⟩:=eX ho
  have hi':i<ds.length:=by simpa using hi
  have eg:ds.getD i .non=ds[i]:=by rw[kg,kS hi'];rfl
  have a:=Cn (kS hi')
  have hs:=h ds[i] (ny hi')
  have w:=hW S
  refine⟨[Gc (.int i),Gc ds[i]],rfl,by rw[eg];simp,?_⟩
  simp[w,a,hs])
 rw[<-Jw]at e
 rw[show(lT ds.length).map (λ_=>D.bl true)=ku ds.length (.bl true) by rw[List.map_const',qr]]at e
 exact e
theorem MT:∀{m:Nat} {d:D} {n:Nat},Pl m d->2*m<=n->CD n [d,d] S=Gc (.bl true,S)
 |0,d,n,h,_=>by cases d<;>exact h.elim
 |m+1,.int i,n,h,hn=>by
  obtain⟨n',rfl⟩:∃n',n=n'+1:=⟨n-1,by omega⟩
  have k1:St.Kd.int.isA "int"=true:=by decide
  have k2:St.Kd.int.isA "bool"=false:=by decide
  have k3:St.Kd.int.isA "tuple"=false:=by decide
  have k4:St.Kd.int.isA "list"=false:=by decide
  rw[OX]
  simp[Ee,Gp,JV,kdW,k1,k2,k3,k4,isN]
 |m+1,.tup ds,n,h,hn=>by
  obtain⟨hl,hd⟩:=h
  obtain⟨n',rfl⟩:∃n',n=n'+1+1:=⟨n-2,by omega⟩
  have k3:St.Kd.tup.isA "tuple"=true:=by decide
  have c:=gi (S:=S) (W:=.tup ds) hl (λ_=>rfl) λd hd'=>MT (m:=m) (n:=n') (hd d hd') (by omega)
  have ar:Ds (n'+1) [.tup ds,.tup ds] S=Gc (.bl true,S):=by
   rw[Pc]
   simp[FP,QI,c,O2,Oo]
  rw[OX]
  simp[Ee,kdW,k3,ar]
 |m+1,.lst ds,n,h,hn=>by
  obtain⟨hl,hd⟩:=h
  obtain⟨n',rfl⟩:∃n',n=n'+1+1:=⟨n-2,by omega⟩
  have k3:St.Kd.lst.isA "tuple"=false:=by decide
  have k4:St.Kd.lst.isA "list"=true:=by decide
  have c:=gi (S:=S) (W:=.lst ds) hl (λ_=>rfl) λd hd'=>MT (m:=m) (n:=n') (hd d hd') (by omega)
  have ar:Ds (n'+1) [.lst ds,.lst ds] S=Gc (.bl true,S):=by
   rw[Pc]
   simp[FP,QI,c,O2,Oo]
  rw[OX]
  simp[Ee,kdW,k3,k4,ar]
end
end Mi
end
noncomputable section
namespace Mi
open PySem PySem.Spec L2 PyProof.Rows
section
variable{S:Sto}{p q:Nat}{t t':Tr}{ls ls':Wp Ld}{ds ds':Wp AS}{K:Nat}
@[simp] theorem cD{r:List D}:cm (.val (.lst r))=(bls r).map λbs=>.val (.bl (bs.any id)):=nr rfl
theorem W8{r:Trd}:Pl 2 r.d:=⟨by show 5<=1000;decide,λd hd=>by
 simp only[kX,k7,mZ]at hd
 rcases hd with rfl|rfl|rfl|rfl|rfl<;>exact trivial⟩
theorem eE{u:Int}{r s:Trd}:Pl 3 (.tup [.int u,r.d,s.d]):=⟨by show 3<=1000;decide,λd hd=>by
 simp only[kX,k7,mZ]at hd
 rcases hd with rfl|rfl|rfl
 .exact trivial
 .exact W8
 .exact W8⟩
theorem UJ{u:Nat}{P:D}(h:FD t ls ds)(h':FD t' ls' ds')(hc:clL (tdB t ls ds) (tdB t' ls' ds')=[u])(hP:prD (tdB t ls ds) (tdB t' ls' ds') u=P)(pl:Pl 3 P):∃S',CV [Aw t ls ds,Aw t' ls' ds',P] S=Gc (.bl true,S')/\Cp [] S S':=by
 have e1:=KY (S:=S) h
 have e2:=KY (S:=S) h'
 obtain⟨q,S1,e3,q3,s3,_⟩:=KO (S:=S) h
 obtain⟨q',S2,e4,q4,s4,_⟩:=KO (S:=S1) h'
 have e5:=LO h.tok h'.tok e3 q3 e4 q4
 rw[hc,kq,mX,hP]at e5
 have is:=MT (S:=S2) (n:=8) pl (by decide)
 have c:CH [] (tNm 1) Di (AJ (CD 8) [eV 0,eV 1]) [P] [] [Gc P,none] S2=Gc ([.bl true],S2):=by
  rw[Hf (E1:=[Gc P,Gc P]) As (kT (show 0<1 by decide) (AN (by decide))) (by simp) Gq]
  simp[is,Ez As]
 have b1:bls [.bl true]=Gc [true]:=rfl
 refine⟨S2,?_,s3.trans s4⟩
 generalize Aw t ls ds=B at*
 generalize Aw t' ls' ds'=B' at*
 simp[CV,Gu,e1,e2,e5,c,b1]
end
section
variable{S:Sto}{p q:Nat}{R A B:Wp Trd}{r:Trd}{K:Nat}{m e:Int}
theorem O8{tl:Wp AS}(h:∀L,tds L tl=[]){xs:Wp Mx}:tdB (tM K) [] (nds 0 xs++tl)=xs.map OL:=TM (K:=K) (st:=st0 (tM K) []) h
theorem PV{xs:Wp Mx}:tdB (tM K) [] (nds 0 xs)=xs.map OL:=by
 have:=O8 (K:=K) (tl:=[]) (xs:=xs) (λ_=>rfl)
 rwa [oO]at this
theorem RY{x:Mx}(hx:x.1=r):nds 0 (A.map ans++x::B.map ans)=nds 0 (A.map ans)++ .Bn 0 r.o (r.n+3):: .BO r.u (2*A.length:Nat) x.2.1 r.k x.2.2::nds (2*A.length+2) (B.map ans):=by
 obtain⟨r',m,e⟩:=x
 cases hx
 rw[SW,ql,ky]
 rfl
structure NR(K:Nat)(R:Wp Trd):Prop where
 k:1<=K/\K<=5
 ok:TrO R
 ris:R.Pairwise λa b=>a.u<b.u
 row:∀r∈R,SU K r
 len:R.length<=10
theorem NR.ans(h:NR K R):FD (tM K) [] (nds 0 (R.map ans)):=O7 h.k (λx hx=>by
 obtain⟨r,hr,rfl⟩:=lI.mp hx
 have o:=h.row r hr
 exact⟨o,o.n1,by show r.n<=r.n+3;lia,o.g1,pP o.g2 (by decide)⟩) (by rw[mC];exact h.ok.nd) (λx hx=>by
 obtain⟨r,hr,rfl⟩:=lI.mp hx
 exact h.ok.le r hr) (by rw[ky];exact h.len)
theorem NR.turn(h:NR K R)(hR:R=A++r::B)(m1:1<=m)(m2:m<=r.n+3)(e1:1<=e)(e2:e<2^131):FD (tM K) [] (nds 0 (A.map Mi.ans++(r,m,e)::B.map Mi.ans)):=by
 have hu:((A.map Mi.ans++(r,m,e)::B.map Mi.ans).map λx=>x.1)=R:=by
  rw[hR,my,kq,mC,mC]
  show A.map (λr=>r)++r::B.map (λr=>r)=_
  simp
 have hm:∀x∈A.map Mi.ans++(r,m,e)::B.map Mi.ans,x.1∈R:=λx hx=>by rw[<-hu];exact rR hx
 refine O7 h.k (λx hx=>?_) ?_ (λx hx=>h.ok.le _ (hm x hx)) (by have:=congrArg uO hu;rw[ky]at this;have:=h.len;lia)
 .have o:=h.row _ (hm x hx)
  rcases k6.mp hx with z|z
  .obtain⟨y,_,rfl⟩:=lI.mp z
   exact⟨o,o.n1,by show y.n<=y.n+3;lia,o.g1,pP o.g2 (by decide)⟩
  .rcases kX.mp z with rfl|z
   .exact⟨o,m1,m2,e1,e2⟩
   .obtain⟨y,_,rfl⟩:=lI.mp z
    exact⟨o,o.n1,by show y.n<=y.n+3;lia,o.g1,pP o.g2 (by decide)⟩
 .have:=h.ok.nd
  rw[<-hu,mC]at this
  exact this
end
end Mi
end
noncomputable section
namespace Mi
open PySem PySem.Spec L2 PyProof.Rows
section
variable{S:Sto}{p q:Nat}{t:Tr}{ls:Wp Ld}{ds:Wp AS}{R A B:Wp Trd}{r:Trd}
theorem YA{r:Trd}:Dm r.d r.d=true/\deq r.d r.d=true:=⟨Nl rfl (kY (ZK (n:=2) (by
 intro d hd
 simp at hd
 rcases hd with rfl|rfl|rfl|rfl|rfl<;>exact Yr)) (by decide)),PB rfl⟩
def inB:Ex:=(AY (BK 8 (eOp (o2 Bv) [eOp (o2 Fb) [eI 2,eV 6],eI 1]))
    (AY (BK 9 (eIx (eV 5) (eI 2)))
    (AY (BK 10 (eOp (o2 Bv) [eOp (HC false true) [eV 5,eI 2],Be [eOp (HC false true) [eV 9,eV 8]]]))
    (AY (BK 11 (Be [AJ C4 [eV 2,eIx (eV 9) (eV 8)]]))
    (AY (BK 12 (eOp (o2 Bv) [eOp (HC false true) [eV 5,eI 2],Be [eOp (o2 Bv) [eOp (o2 Bv) [eOp (HC false true) [eV 9,eV 8],eV 11],eOp (HC true false) [eV 9,eOp (o2 Bv) [eV 8,eI 1]]]]]))
    (AY (BK 13 (AJ Ai [eV 3,eV 12]))
    (AY (xIf (eOr (eOp (o2 (OO false)) [eV 13,eC .non]) (eOr (eOp (o2 wNe) [eIx (eV 13) (eI 0),eIx (eV 7) (eI 0)]) (eOp (o2 wNe) [eIx (eV 13) (eI 1),eV 7]))) (Bm (eC (.bl false))) DU)
    (AY (xIf (Wq (AJ CV [eV 3,eV 12,eV 13])) (Bm (eC (.bl false))) DU)
    (AY (xIf (eOp (o2 wNe) [AJ Ai [eV 12,eV 3],Be [eIx (eV 13) (eI 0),eIx (eV 13) (eI 2),eIx (eV 13) (eI 1)]]) (Bm (eC (.bl false))) DU)
    (xIf (eOp (o2 wNe) [AJ Ai [eV 3,eV 10],Be [eIx (eV 7) (eI 0),eV 7,eC .non]]) (Bm (eC (.bl false))) DU))))))))))
theorem fQ{e0 e1 o8 o9 o10 o11 o12 o13:kN D}(h:FD t ls ds)(hR:R=srt (tdB t ls ds))(nr:NR t.k R)(mid:R=A++r::B)(hp:CP p S):∃us S',inB [e0,e1,Gc (.ref p),Gc (Aw t ls ds),Gc (.ref q),Gc (Aw (tM t.k) [] (nds 0 (R.map ans))),Gc (.int A.length),Gc r.d,o8,o9,o10,o11,o12,o13] S=Gc (.nx,[e0,e1,Gc (.ref p),Gc (Aw t ls ds),Gc (.ref q),Gc (Aw (tM t.k) [] (nds 0 (R.map ans))),Gc (.int A.length),Gc r.d]++us,S')/\us.length=6/\Pn p S S':=by
 have M:=Zw nr.ok nr.ris mid
 have ro:=nr.row r (by rw[mid];simp)
 have hlen:=nr.len
 have hlA:A.length<=9:=by rw[mid]at hlen;simp at hlen;lia
 have ha:∀n,lk (tdB t ls ds) n=lk R n:=λn=>by rw[hR,Le h.tok]
 obtain⟨m,e,S1,x1,hme,p1⟩:=Q9 (S:=S) (u:=r.u) (i:=2*A.length) (n:=r.n) (k:=r.k) (g:=r.g) hp
 have g1:=ro.g1
 have g2:=ro.g2
 have n1:=ro.n1
 have big:(2009:Int)<2^131:=by decide
 have bt:=nr.turn (m:=m) (e:=e) mid (by lia) (by lia) (by lia) (pP (show e<=2009 by lia) big)
 have hm:m≠r.n\/e≠r.g:=by rcases hme with⟨_,z,_⟩|⟨z,_⟩<;>lia
 have hb:∀n,lk (tdB (tM t.k) [] (nds 0 (A.map ans++(r,m,e)::B.map ans))) n=lk (turn A r B m e) n:=λn=>by
  rw[PV,my,kq,mC,mC];rfl
 obtain⟨cl,pr,f1,f2⟩:=M.turned ha hb hm
 have bl:=nr.ans.cut (2*A.length+1)
 have eA:nds 0 (R.map ans)=nds 0 (A.map ans)++ .Bn 0 r.o (r.n+3):: .BO r.u (2*A.length:Nat) r.n r.k r.g::nds (2*A.length+2) (B.map ans):=by
  have:=RY (A:=A) (B:=B) (r:=r) (x:=ans r) rfl
  rw[mid,my,kq,this];rfl
 have eT:=RY (A:=A) (B:=B) (r:=r) (x:=(r,m,e)) rfl
 have lA:(nds 0 (A.map ans)).length=2*A.length:=by rw[J9,ky]
 have eL:(nds 0 (R.map ans)).take (2*A.length+1)=nds 0 (A.map ans)++[.Bn 0 r.o (r.n+3)]:=by
  rw[eA,List.take_append,lA,pJ (by lia),show 2*A.length+1-2*A.length=1 by lia];rfl
 have hl:∀n,lk (tdB (tM t.k) [] ((nds 0 (R.map ans)).take (2*A.length+1))) n=lk (A.map flp) n:=λn=>by
  rw[eL,O8 (λL=>rfl),mC];rfl
 have f3:=M.cut ha hl
 obtain⟨S2,x2,s2⟩:=Cs (S:=S1) h bt
 obtain⟨S3,x3,s3⟩:=UJ (S:=S2) h bt cl pr eE
 obtain⟨S4,x4,s4⟩:=Cs (S:=S3) bt h
 obtain⟨S5,x5,s5⟩:=Cs (S:=S4) h bl
 have q2:=ag (a:=tdB (tM t.k) [] (nds 0 (A.map ans++(r,m,e)::B.map ans))) (b:=tdB t ls ds)
 have q3:=ag (a:=tdB t ls ds) (b:=tdB (tM t.k) [] ((nds 0 (R.map ans)).take (2*A.length+1)))
 rw[f1]at x2
 rw[f2]at x4 q2
 rw[f3]at x5 q3
 rw[eL]at x5
 rw[eT]at x2 x3 x4
 obtain⟨q1,q1'⟩:=YA (r:=r)
 obtain⟨q2,q2'⟩:=q2
 obtain⟨q3,q3'⟩:=q3
 have sm:Cp [p] S S5:=p1.same.trans ((((s2.trans s3).trans s4).trans s5).mono (λ_ z=>nomatch z))
 have pe5:CP p S5:=by
  obtain⟨pd,pe,ph⟩:=p1.pen
  exact⟨pd,(((s2.trans s3).trans s4).trans s5).get pe (by simp),ph⟩
 have dA:(nds 0 (R.map ans)).map AS.d=((nds 0 (A.map ans)).map AS.d++[(AS.Bn 0 r.o (r.n+3)).d])++(AS.BO r.u (2*A.length:Nat) r.n r.k r.g).d::(nds (2*A.length+2) (B.map ans)).map AS.d:=by
  rw[eA];simp
 have dT:(nds 0 (A.map ans)++ .Bn 0 r.o (r.n+3):: .BO r.u (2*A.length:Nat) m r.k e::nds (2*A.length+2) (B.map ans)).map AS.d=((nds 0 (A.map ans)).map AS.d++[(AS.Bn 0 r.o (r.n+3)).d])++(AS.BO r.u (2*A.length:Nat) m r.k e).d::(nds (2*A.length+2) (B.map ans)).map AS.d:=by simp
 have dL:(nds 0 (A.map ans)++[AS.Bn 0 r.o (r.n+3)]).map AS.d=(nds 0 (A.map ans)).map AS.d++[(AS.Bn 0 r.o (r.n+3)).d]:=by simp
 have lL:((nds 0 (A.map ans)).map AS.d++[(AS.Bn 0 r.o (r.n+3)).d]).length=2*A.length+1:=by simp[lA]
 have lR:((nds (2*A.length+2) (B.map ans)).map AS.d).length<=20:=by
  rw[ky,J9,ky]
  rw[mid]at hlen;simp at hlen;lia
 unfold Aw at x2 x3 x4 x5⊢
 rw[dT]at x2 x3 x4
 rw[dL]at x5
 rw[dA]
 generalize (nds 0 (A.map ans)).map AS.d++[(AS.Bn 0 r.o (r.n+3)).d]=DL at*
 generalize (nds (2*A.length+2) (B.map ans)).map AS.d=DR at*
 generalize (AS.BO r.u (2*A.length:Nat) r.n r.k r.g).d=TO at*
 generalize (AS.BO r.u (2*A.length:Nat) m r.k e).d=TN at*
 have c1:IQ (DL++TO::DR) none (Gc (2*(A.length:Int)+1))=DL:=by
  have:=Jr (ds:=DL++TO::DR) (n:=2*A.length+1) (by simp;lia)
  rw[show((2*A.length+1:Nat):Int)=2*(A.length:Int)+1 by lia]at this
  rw[this,<-lL];simp
 have c2:IQ (DL++TO::DR) (Gc (2*(A.length:Int)+1+1)) none=DR:=by
  have:=Ph (ds:=DL++TO::DR) (n:=2*A.length+2) (by simp;lia)
  rw[show((2*A.length+2:Nat):Int)=2*(A.length:Int)+1+1 by lia]at this
  rw[this,show 2*A.length+2=DL.length+1 by lia];simp
 have a1:atI (DL++TO::DR) (2*(A.length:Int)+1)=Gc TO:=by
  have:=Cn (xs:=DL++TO::DR) (n:=2*A.length+1) (x:=TO) (by rw[<-lL];simp)
  rwa [show((2*A.length+1:Nat):Int)=2*(A.length:Int)+1 by lia]at this
 have c0:∀a b c:D,IQ [a,b,c] none (Gc 2)=[a,b]:=λ_ _ _=>rfl
 have mo:EJ 2 (A.length:Int)=true:=Hu (k:=2) (m:=5) (by decide) (by rw[mz];lia) (by decide) (by decide)
 have sz3:(3:Nat)<=sizeLine:=AN (by decide)
 have sz1:(1:Nat)<=sizeLine:=AN (by decide)
 have szT:DL.length+1<=sizeLine:=kY (show _<=50 by lia) (AN (by decide))
 have szU:DL.length+1+DR.length<=sizeLine:=kY (show _<=50 by lia) (AN (by decide))
 have nN:(OL (r,m,e)).d=.tup [.int r.u,.int r.o,.int m,.int r.k,.int e]:=rfl
 refine⟨[Gc (.int (2*(A.length:Int)+1)),Gc (.tup (DL++TO::DR)),Gc (.tup [(tM t.k).d,.tup [],.tup DL]),Gc (.tup [TN]),Gc (.tup [(tM t.k).d,.tup [],.tup (DL++TN::DR)]),Gc (.tup [.int r.u,r.d,(OL (r,m,e)).d])],S5,?_,rfl,sm,pe5⟩
 rw[mX]at*
 generalize (tM t.k).d=TD at*
 generalize t.d=td at*
 generalize ls.map Ld.d=LD at*
 generalize ds.map AS.d=DD at*
 unfold Trd.d at*
 simp[inB,mo,c0,c1,c2,a1,x1,sz3,sz1,szT,szU,x2,isN,q1,q1',x3,x4,q2,q2',x5,q3,q3']
end
end Mi
end
noncomputable section
namespace Mi
open PySem PySem.Spec L2 PyProof.Rows
section
variable{S:Sto}{p q:Nat}{t:Tr}{ls:Wp Ld}{ds:Wp AS}{R:Wp Trd}
theorem R1{e0 e1:kN D}(h:FD t ls ds)(hR:R=srt (tdB t ls ds))(nr:NR t.k R)(ne:q≠p):∀{B A:Wp Trd} {S:Sto} {us:En},R=A++B->us.length=8->CP p S->S[q]?=Gc (.lst (R.map Trd.d))->∃us' S',Ij [(q,R.map Trd.d)] (tTp [tNm 6,tNm 7]) inB (Mw A.length (B.map Trd.d)) ([e0,e1,Gc (.ref p),Gc (Aw t ls ds),Gc (.ref q),Gc (Aw (tM t.k) [] (nds 0 (R.map ans)))]++us) S=Gc (.nx,[e0,e1,Gc (.ref p),Gc (Aw t ls ds),Gc (.ref q),Gc (Aw (tM t.k) [] (nds 0 (R.map ans)))]++us',S')/\us'.length=8
 | [],A,S,us,hA,hu,hp,hq=>⟨us,S,by rw[mX];exact FH (λg hg=>by rw[kr.mp hg];exact AR hq),hu⟩
 |r::B,A,S,us,hA,hu,hp,hq=>by
  obtain⟨u6,u7,u8,u9,u10,u11,u12,u13,rfl⟩:∃a b c d e f g h,us=[a,b,c,d,e,f,g,h]:=by
   match us,hu with
   | [a,b,c,d,e,f,g,h],_=>exact⟨a,b,c,d,e,f,g,h,rfl⟩
  obtain⟨us1,S1,x1,l1,p1⟩:=fQ (q:=q) (e0:=e0) (e1:=e1) (o8:=u8) (o9:=u9) (o10:=u10) (o11:=u11) (o12:=u12) (o13:=u13) h hR nr hA hp
  obtain⟨us',S',y1,y2⟩:=R1 (e0:=e0) (e1:=e1) h hR nr ne (B:=B) (A:=A++[r]) (S:=S1) (us:=[Gc (.int A.length),Gc r.d]++us1) (by rw[hA];simp) (by simp[l1]) p1.pen (p1.get hq ne)
  refine⟨us',S',?_,y2⟩
  have tn:tTp [tNm 6,tNm 7] (.tup [.int A.length,r.d]) ([e0,e1,Gc (.ref p),Gc (Aw t ls ds),Gc (.ref q),Gc (Aw (tM t.k) [] (nds 0 (R.map ans)))]++[u6,u7,u8,u9,u10,u11,u12,u13]) S=Gc [e0,e1,Gc (.ref p),Gc (Aw t ls ds),Gc (.ref q),Gc (Aw (tM t.k) [] (nds 0 (R.map ans))),Gc (.int A.length),Gc r.d,u8,u9,u10,u11,u12,u13]:=rfl
  rw[kq]
  show Ij _ _ _ (.tup [.int A.length,r.d]::Mw (A.length+1) (B.map Trd.d)) _ _=_
  rw[CM (λg hg=>by rw[kr.mp hg];exact AR hq),tn,A3,x1,A3,KR]
  rw[lQ]at y1
  exact y1
def c7:Ex:=(AY (BK 2 (AJ Gk [AJ Cg [eV 0,eV 1]]))
    (AY (BK 3 (AJ Ci [eV 2]))
    (AY (BK 4 (AJ CF [eV 3]))
    (AY (BK 5 (AJ EE [eV 3]))
    (AY (xIf (eOr (eOp (o2 (OO true)) [AJ Ai [eV 3,eV 5],eC .non]) (eOp (o2 (OO true)) [AJ Ai [eV 5,eV 3],eC .non])) (Bm (eC (.bl false))) DU)
    (Jj (Ta (eV 4)) (tTp [tNm 6,tNm 7]) inB))))))
theorem bA{ns:Wp Int}{k:Nat}{us:En}(hu:us.length=12):∃us' S',us'.length=12/\c7 ([Gc (.scr ns),Gc (.int k)]++us) S=Gc (.nx,[Gc (.scr ns),Gc (.int k)]++us',S'):=by
 obtain⟨u2,u3,u4,u5,v,rfl,hv⟩:∃a b c d v,us=[a,b,c,d]++v/\v.length=8:=by
  match us,hu with
  |a::b::c::d::v,h=>exact⟨a,b,c,d,v,rfl,by simpa using h⟩
 obtain⟨c,e0⟩:=Yi (S:=S) (ns:=ns) (k:=k)
 obtain⟨p,S1,e1,p1,s1,l1⟩:=bY (S:=S) c
 obtain⟨t,ls,ds,S2,e2,⟨b2,m2⟩,p2,k2⟩:=QL p1
 have g2:=b2.g
 have tk:=g2.tok
 obtain⟨t1,t2,t3,t4,_⟩:=b2.tr
 have nr:NR t.k (srt (tdB t ls ds)):=⟨⟨t3,t4⟩,Lc tk,Ov tk,λr hr=>ZE g2 m2 r ((FN _).mem_iff.mp hr),Zl tk⟩
 obtain⟨q4,S3,e3,a3,s3,n3⟩:=JP (S:=S2) g2
 obtain⟨S4,e4,s4⟩:=SY (S:=S3) g2
 have ha:=nr.ans
 obtain⟨f1,f2⟩:=aJ (a:=tdB t ls ds) (b:=tdB (tM t.k) [] (nds 0 ((srt (tdB t ls ds)).map ans))) (R:=srt (tdB t ls ds)) (λn=>by rw[Le tk]) (λn=>by rw[PV,mC];rfl)
 obtain⟨S5,e5,s5⟩:=Cs (S:=S4) g2 ha
 obtain⟨S6,e6,s6⟩:=Cs (S:=S5) ha g2
 rw[f1]at e5
 rw[f2]at e6
 have s46:=(s4.trans s5).trans s6
 have p6:CP p S6:=by
  obtain⟨pd,pe,ph⟩:=p2
  exact⟨pd,s46.get (s3.get pe (by simp)) (by simp),ph⟩
 have a6:=s46.get a3 (by simp)
 have ne:q4≠p:=by have:=p2.lt;lia
 obtain⟨us',S',ef,l'⟩:=R1 (e0:=Gc (.scr ns)) (e1:=Gc (.int k)) g2 rfl nr ne (B:=srt (tdB t ls ds)) (A:=[]) (S:=S6) (us:=v) rfl hv p6 a6
 have sq:=DZ a6
 refine⟨[Gc (.ref p),Gc (Aw t ls ds),Gc (.ref q4),Gc (Aw (tM t.k) [] (nds 0 ((srt (tdB t ls ds)).map ans)))]++us',S',by simp[l'],?_⟩
 generalize Aw (tM t.k) [] (nds 0 ((srt (tdB t ls ds)).map ans))=BA at*
 generalize Aw t ls ds=BB at*
 generalize (srt (tdB t ls ds)).map Trd.d=L at*
 rw[qT]at ef
 simp only[mV,lN]at ef⊢
 simp[c7,e0,e1,e2,e3,e4,e5,e6,isN,sq,ef]
theorem bz(ns:Wp Int)(h:ns.length<=63):∃S',Mc [.scr ns] S=Gc (.bl true,S'):=by
 obtain⟨n,hn,hn2⟩:∃n:Nat,(if(if(3:Int)<ns.length then(3:Int)else ns.length)>1 then(if(3:Int)<ns.length then(3:Int)else ns.length)else 1)=(n:Int)/\n<=3:=by
  refine⟨(if(if(3:Int)<ns.length then(3:Int)else ns.length)>1 then(if(3:Int)<ns.length then(3:Int)else ns.length)else 1).toNat,?_,?_⟩
  .split<;>split<;>lia
  .split<;>split<;>lia
 have rn:IL (n:Int)=true:=Dp (by lia) (by lia)
 obtain⟨E',S',ef,q1,us,_,_,rfl⟩:=HM (gs:=[]) (t:=tNm 1) (b:=c7)
  (I:=λrs E S'=>∃(o1:kN D) (us:En),(∀d∈rs,∃k:Nat,d=.int k)/\us.length=12/\E=[Gc (.scr ns),o1]++us)
  (λ_ _ _ _=>As) (ds:=Kx 0 n) (E:=[Gc (.scr ns),none,none,none,none,none,none,none,none,none,none,none,none,none]) (S:=S)
  ⟨none,[none,none,none,none,none,none,none,none,none,none,none,none],by
    intro d hd
    obtain⟨k,_,rfl⟩:=lI.mp hd
    exact⟨k,by simp⟩,rfl,rfl⟩ (by
    rintro dd rs E T ⟨o1,us,i1,i2,rfl⟩
    obtain⟨k,rfl⟩:=i1 dd kc
    obtain⟨us',T2,l2,e⟩:=bA (S:=T) (ns:=ns) (k:=k) i2
    exact⟨_,_,T2,by simp,e,Gc (.int k),us',λd hd=>i1 d (kU _ hd),l2,rfl⟩)
 refine⟨S',?_⟩
 have eb:Q2=AY (Jj (M8 [eOp (o2 cb) [eI 1,eOp (o2 Wr) [eOp (o1 HK) [eV 0],eI 3]]]) (tNm 1) c7) (Bm (eC (.bl true))):=rfl
 unfold Mc
 rw[eb]
 simp[hn,rn,ef]
end
end Mi
end
noncomputable section
namespace Mi
open PySem PySem.Spec L2
open PyProof.Rows (boot_isinstance boot_int boot_bool boot_tuple boot_str boot_list boot_abs boot_all boot_any boot_sum boot_max boot_min boot_range boot_enumerate boot_zip boot_sorted boot_set boot_divmod)
structure All(w:lO)(K:kJ)(mg:Str->kN kL):Prop where
 bt:Bts mg
 D4:St.Src K mg "is_whole" D4
 CT:St.Src K mg "are_same" CT
 Ey:St.Src K mg "is_same" Ey
 Cr:St.Src K mg "has_pieces" Cr
 Dy:St.Src K mg "can_pool" Dy
 Dx:St.Src K mg "can_swap" Dx
 DY:St.Src K mg "can_do" DY
 CJ:St.Src K mg "held_without" CJ
 CZ:St.Src K mg "held_behind" CZ
 BM:St.Src K mg "held_at_first" BM
 Eh:St.Src K mg "held_by" Eh
 CY:St.Src K mg "first_wrong" CY
 B1:St.Src K mg "refuse_undone" B1
 CW:St.Src K mg "trades_told" CW
 Bi:St.Src K mg "seen_from_there" Bi
 Ah:St.Src K mg "clashes_told" Ah
 DP:St.Src K mg "trades_of" DP
 CQ:St.Src K mg "first_clash" CQ
 Bf:St.Src K mg "clash_holds" Bf
 Gg:St.Src K mg "_law_pen" Gg
 DK:St.Src K mg "_law_cell_at" DK
 Fh:St.Src K mg "_law_draw" Fh
 Du:St.Src K mg "_law_common" Du
 Fw:St.Src K mg "_law_made" Fw
 CB:St.Src K mg "_law_whole" CB
 Ew:St.Src K mg "_law_train" Ew
 D6:St.Src K mg "_law_pieces" D6
 Ec:St.Src K mg "_law_first" Ec
 C2:St.Src K mg "_law_begun" C2
 Ep:St.Src K mg "_law_share" Ep
 CS:St.Src K mg "_law_worths" CS
 B9:St.Src K mg "_law_deed" B9
 Fz:St.Src K mg "_law_plus" Fz
 Ej:St.Src K mg "_law_times" Ej
 EB:St.Src K mg "_law_pooled" EB
 Dh:St.Src K mg "_law_cost" Dh
 Fo:St.Src K mg "_law_less" Fo
 Eg:St.Src K mg "_law_borne" Eg
 Fe:St.Src K mg "_law_sold" Fe
 Fi:St.Src K mg "_law_turn" Fi
 GF:St.Src K mg "_law_do" GF
 Dd:St.Src K mg "_law_book" Dd
 CC:St.Src K mg "_law_book_of" CC
 Ba:St.Src K mg "_law_trading" Ba
 EC:St.Src K mg "_law_answer" EC
 Dz:St.Src K mg "_law_turned" Dz
 Ia:St.Src K mg "law" Ia
section
variable{P:k8}{w:lO}{K:kJ}{mg:Str->kN kL}{base:lP}
theorem VH{f:kQ}{fd:nS}(F:Fun K "law" "law" Ia f fd)(B:Bts mg)(Bp:GG P w K mg base)(BD:Gi P w K mg base)(Ce:Gj P w K mg base)(Gy:OH P w K mg base)(DC:Hm P w K mg base)(DF:IK P w K mg base)(D7:JH P w K mg base)(D5:JB P w K mg base):Nv P w K mg base CX0 11 f fd ["_law_script"] (spD K 1 Mc):=by
 refine bH (k:=10) F CO rfl λcdv A outer s H E hr=>?_
 have hu:=RD hr
 exact(AG (E5 l9 rfl (FZ rfl B.range (AA (Ao (TF rfl) rfl B.max boot_max (AA AF (AA (Ao (KA rfl) rfl B.min boot_min (AA (Ao Bq rfl B.len pE (AA (AB 0) AD)) (AA AF AD))) AD))) AD)) (Ak 1 CO.nd) (AG (Ad 2 (deM Gy hr (AA (deM DC hr (AA (AB 0) (AA (AB 1) AD))) AD)) CO.nd)
      (AG (Ad 3 (deM DF hr (AA (AB 2) AD)) CO.nd)
      (AG (Ad 4 (deM Bp hr (AA (AB 3) AD)) CO.nd)
      (AG (Ad 5 (deM D7 hr (AA (AB 3) AD)) CO.nd)
      (AG (CA (DW.dt (SK (Aj MS (deM BD hr (AA (AB 3) (AA (AB 5) AD))) Gf) (PZ (Aj MS (deM BD hr (AA (AB 5) (AA (AB 3) AD))) Gf)))) (AL (AX Oj)) Ax)
      (AL (E5 l9 rfl (OE rfl B.enumerate (AB 4)) (Fp rfl (AO (Ak 6 CO.nd) (AO (Ak 7 CO.nd) By))) (AG (Ad 8 (Ab AV (Ab CI AF (AB 6)) AF) CO.nd)
      (AG (Ad 9 (AM Aa (AB 5) AF) CO.nd)
      (AG (Ad 10 (Ab AV (F9 (AB 5) AF) (An (AA (F9 (AB 9) (AB 8)) AD))) CO.nd)
      (AG (Ad 11 (An (AA (deM D5 hr (AA (AB 2) (AA (AM Aa (AB 9) (AB 8)) AD))) AD)) CO.nd)
      (AG (Ad 12 (Ab AV (F9 (AB 5) AF) (An (AA (Ab AV (Ab AV (F9 (AB 9) (AB 8)) (AB 11)) (Ha (AB 9) (Ab AV (AB 8) AF))) AD))) CO.nd)
      (AG (Ad 13 (deM BD hr (AA (AB 3) (AA (AB 12) AD))) CO.nd)
      (AG (CA (DW.dt (SK (Aj L6 (AB 13) Gf) (SK (Aj (Fc hu) (AM Aa (AB 13) AF) (AM Aa (AB 7) AF)) (PZ (Aj (Fc hu) (AM Aa (AB 13) AF) (AB 7)))))) (AL (AX Oj)) Ax)
      (AG (CA (Xf (PL (deM Ce hr (AA (AB 3) (AA (AB 12) (AA (AB 13) AD)))))) (AL (AX Oj)) Ax)
      (AG (CA (Aj (Fc hu) (deM BD hr (AA (AB 12) (AA (AB 3) AD))) (An (AA (AM Aa (AB 13) AF) (AA (AM Aa (AB 13) AF) (AA (AM Aa (AB 13) AF) AD))))) (AL (AX Oj)) Ax)
      (AL (CA (Aj (Fc hu) (deM BD hr (AA (AB 3) (AA (AB 10) AD))) (An (AA (AM Aa (AB 7) AF) (AA (AB 7) (AA Gf AD))))) (AL (AX Oj)) Ax)))))))))))))))))))
      (AL (AX Oj)))
theorem Zs{f:kQ}{fd:nS}(F:Fun K "law" "law" Ia f fd)(T:All w K mg):Nv P w K mg base CX0 11 f fd ["_law_script"] (spD K 1 Mc):=by
 have B:=T.bt
 have C6:=C6 (P:=P) (w:=w) (base:=base) T.D4 B
 obtain⟨d_p_are_same,d_p_is_same⟩:=aF (P:=P) (w:=w) (base:=base) T.CT T.Ey B C6 8 (by decide)
 have Ay:=Ay (P:=P) (w:=w) (base:=base) T.Cr B
 have EA:=EA (P:=P) (w:=w) (base:=base) T.Dy Ay
 have C3:=C3 (P:=P) (w:=w) (base:=base) T.Dx Ay
 have Ft:=Ft (P:=P) (w:=w) (base:=base) T.DY Ay EA C3
 have BJ:=BJ (P:=P) (w:=w) (base:=base) T.CJ
 have BR:=BR (P:=P) (w:=w) (base:=base) T.CZ BJ
 have A9:=A9 (P:=P) (w:=w) (base:=base) T.BM
 have E9:=E9 (P:=P) (w:=w) (base:=base) T.Eh BR A9
 have Ca:=Ca (P:=P) (w:=w) (base:=base) T.CY B Ft BR A9
 have Ac:=Ac (P:=P) (w:=w) (base:=base) T.B1 Ca
 have BE:=BE (P:=P) (w:=w) (base:=base) T.CW B E9
 have Bj:=Bj (P:=P) (w:=w) (base:=base) T.Bi
 have BI:=BI (P:=P) (w:=w) (base:=base) T.Ah B BE Bj
 have Bp:=Bp (P:=P) (w:=w) (base:=base) T.DP Ac BE
 have BD:=BD (P:=P) (w:=w) (base:=base) T.CQ B Ac BI
 have Ce:=Ce (P:=P) (w:=w) (base:=base) T.Bf B d_p_is_same Ac BI
 have Gy:=Gy (P:=P) (w:=w) (base:=base) T.Gg B
 have DC:=DC (P:=P) (w:=w) (base:=base) T.DK B
 have AI:=AI (P:=P) (w:=w) (base:=base) T.Fh
 have D8:=D8 (P:=P) (w:=w) (base:=base) T.Du
 have Au:=Au (P:=P) (w:=w) (base:=base) T.Fw B D8
 have CU:=CU (P:=P) (w:=w) (base:=base) T.CB B AI Au
 have Er:=Er (P:=P) (w:=w) (base:=base) T.Ew AI CU
 have Bc:=Bc (P:=P) (w:=w) (base:=base) T.D6 AI
 have Eb:=Eb (P:=P) (w:=w) (base:=base) T.Ec B AI CU Bc
 have Cd:=Cd (P:=P) (w:=w) (base:=base) T.C2 B
 have Es:=Es (P:=P) (w:=w) (base:=base) T.Ep AI Au
 have D0:=D0 (P:=P) (w:=w) (base:=base) T.CS B AI
 have Fv:=Fv (P:=P) (w:=w) (base:=base) T.B9 B AI Bc Es D0
 have BV:=BV (P:=P) (w:=w) (base:=base) T.Fz Au
 have BF:=BF (P:=P) (w:=w) (base:=base) T.Ej Au
 have ED:=ED (P:=P) (w:=w) (base:=base) T.EB B Au BV BF
 have Fy:=Fy (P:=P) (w:=w) (base:=base) T.Dh B Au
 have C9:=C9 (P:=P) (w:=w) (base:=base) T.Fo BV
 have DV:=DV (P:=P) (w:=w) (base:=base) T.Eg B BV BF C9
 have EZ:=EZ (P:=P) (w:=w) (base:=base) T.Fe B BV BF C9
 have Fg:=Fg (P:=P) (w:=w) (base:=base) T.Fi Fy DV EZ
 have ET:=ET (P:=P) (w:=w) (base:=base) T.GF B ED Fg
 have EU:=EU (P:=P) (w:=w) (base:=base) T.Dd B AI Er Eb Cd Fv ET
 have DB:=DB (P:=P) (w:=w) (base:=base) T.CC B EU
 have DF:=DF (P:=P) (w:=w) (base:=base) T.Ba B AI Cd ET DB
 have D7:=D7 (P:=P) (w:=w) (base:=base) T.EC B Bp
 have D5:=D5 (P:=P) (w:=w) (base:=base) T.Dz AI
 exact VH (P:=P) (w:=w) (base:=base) F B Bp BD Ce Gy DC DF D7 D5
theorem aq{l:rE}{fa:kQ}(hfa:mg "law"=Gc (.ref fa))(T:All w K mg):∃fd:nS,(∀(s:kM) (v:kL),vT s fd ⟨[v],[]⟩ [("_law_script",v)])/\∀base:lP,K.In base->base.Ns mainGlobals mg->Nv l.prog w K mg base CX0 11 fa fd ["_law_script"] (YC K):=by
 obtain⟨f,fd,F,hm⟩:=T.Ia.ex
 have e:=hfa.symm.trans hm
 cases e
 refine⟨fd,λs v=>?_,λbase _ _=>?_⟩
 .obtain⟨oc,od,kV,doc,pm,an,cdv,ct,osl,hfd,_⟩:=F.ex
  subst hfd
  exact .of_eq rfl
 .exact bL (Zs (P:=l.prog) (w:=w) (base:=base) F T) λns hl=>bz ns hl
end
theorem walk{l:rE}{q:k8}{loose:Wp Str}{XP:(Str->kN kL)->lP->Prop}{YP:lO->lP->Prop}{d:DefRec}{K:Params->kJ}(hn:l.most=Gc 63)(hdf:d.params.defaults=[])(hY:∀(w:lO) (h:lP),YP w h->(K w.params).In h)(hd:d.name="law")(F:∀(w:lO) (mg:Str->kN kL) (h:lP),(K w.params).In h->h.Ns mainGlobals mg->All w (K w.params) mg):xA q loose XP YP l.row.toRowW d [] (λf vs=>xI f vs):=
 L2.YI (n:=63) (k:=11) (x:="_law_script") (CX:=λ_=>CX0) (sp:=λw=>YC (K w.params)) hn (by decide) hdf ⟨rfl,by decide,by decide⟩ hY (λw mg fa h KX G hmg=>aq (by rw[<-hd];exact hmg) (F w mg h KX G)) (λ_ _ a ns hl _ hS=>⟨a,ns,rfl,hS,hl,λ_=>rfl⟩) λ_ _ _ _ _ z=>z
end Mi
end
noncomputable section
namespace PySem.W.Fast
theorem tw2684307940072103217:1=1:=rfl
theorem tw10742395324952385657:1=1:=rfl
theorem tw4828469784673571148:1=1:=rfl
theorem tw2489002420849354964:1=1:=rfl
theorem tw15868794326045108054:1=1:=rfl
theorem tw4654400905574107077:1=1:=rfl
theorem tw4796879709187386340:1=1:=rfl
theorem tw5693823002026480489:1=1:=rfl
theorem tw14311306975494872371:1=1:=rfl
theorem tw3301712387808598893:1=1:=rfl
theorem tw5393161950749173121:1=1:=rfl
theorem tw3958690977140612678:1=1:=rfl
theorem tw12391338626928201733:1=1:=rfl
theorem tw6051081633585853493:1=1:=rfl
theorem tw155750867750844922:1=1:=rfl
theorem tw17868352304142410661:1=1:=rfl
theorem tw4421776879844191332:1=1:=rfl
theorem tw2370717829153862495:1=1:=rfl
theorem tw10569506833571771212:1=1:=rfl
theorem tw13404399122510853117:1=1:=rfl
theorem tw8190376332219024158:1=1:=rfl
theorem tw774561273086288512:1=1:=rfl
theorem tw12257027349600315073:1=1:=rfl
theorem tw9352019845998309048:1=1:=rfl
theorem tw3845615037648406161:1=1:=rfl
theorem tw8643481277887829272:1=1:=rfl
theorem tw9766397661624030959:1=1:=rfl
theorem tw10535649379739317832:1=1:=rfl
theorem tw4025357475183677374:1=1:=rfl
theorem tw7087715946988474857:1=1:=rfl
theorem tw14415872577227305998:1=1:=rfl
theorem tw6238595147191560263:1=1:=rfl
theorem tw9740819837666026684:1=1:=rfl
theorem tw5442634565369432962:1=1:=rfl
theorem tw4400677425375796306:1=1:=rfl
theorem tw16773056409458046803:1=1:=rfl
theorem tw8775292937050994669:1=1:=rfl
theorem tw4331695544892115083:1=1:=rfl
theorem tw12747259568633697192:1=1:=rfl
theorem tw7899921023961468591:1=1:=rfl
theorem tw1466251243088230413:1=1:=rfl
theorem tw5915614180567568999:1=1:=rfl
theorem tw9791888009456012385:1=1:=rfl
theorem tw16445162103511501224:1=1:=rfl
theorem tw16786526752240058639:1=1:=rfl
theorem tw16159422962758965597:1=1:=rfl
theorem tw11384988781085445994:1=1:=rfl
theorem tw11451340064465972304:1=1:=rfl
theorem tw7999126994983304306:1=1:=rfl
theorem tw10365317995892410197:1=1:=rfl
theorem tw17487095605060245384:1=1:=rfl
theorem tw3577154537021848439:1=1:=rfl
theorem tw11514638610247612098:1=1:=rfl
theorem tw12458497255766510249:1=1:=rfl
theorem tw17507018425862913297:1=1:=rfl
theorem tw2457799398637508179:1=1:=rfl
theorem tw4208328032237466067:1=1:=rfl
theorem tw7893851665239985878:1=1:=rfl
theorem tw6708576126362635668:1=1:=rfl
theorem tw4380940579889122543:1=1:=rfl
theorem tw7936210257614926091:1=1:=rfl
theorem tw15551585452820946098:1=1:=rfl
theorem tw5854198510277994710:1=1:=rfl
theorem tw6867065781868089742:1=1:=rfl
theorem tw11683431815126596586:1=1:=rfl
theorem tw13533773706732083767:1=1:=rfl
theorem tw7547083506404301053:1=1:=rfl
theorem tw15951197636352447912:1=1:=rfl
theorem tw13435890546075936279:1=1:=rfl
theorem tw15065509784620274397:1=1:=rfl
theorem tw12431543990961549735:1=1:=rfl
theorem tw15396154433630047149:1=1:=rfl
theorem tw13864119615763623120:1=1:=rfl
theorem tw8862557342622442407:1=1:=rfl
theorem tw6113921491247519003:1=1:=rfl
theorem tw11447298414621349459:1=1:=rfl
theorem tw1408833246735855206:1=1:=rfl
theorem tw11595141176566292383:1=1:=rfl
theorem tw10547560760714647767:1=1:=rfl
theorem tw2523723625745584675:1=1:=rfl
theorem tw4814419559033341473:1=1:=rfl
theorem tw15159514191655474873:1=1:=rfl
theorem tw270904687238639817:1=1:=rfl
theorem tw17697088618360321410:1=1:=rfl
theorem tw16709953944215360102:1=1:=rfl
theorem tw1252912215839970380:1=1:=rfl
theorem tw2400633297399836094:1=1:=rfl
theorem tw4430132959508219336:1=1:=rfl
theorem tw14142103664392704839:1=1:=rfl
theorem tw3853003133381718626:1=1:=rfl
theorem tw5340735012177794468:1=1:=rfl
theorem tw12480757967244511551:1=1:=rfl
theorem tw8677295515645889412:1=1:=rfl
theorem tw2988542355348295915:1=1:=rfl
theorem tw6716429771318538215:1=1:=rfl
theorem tw2421597306817544722:1=1:=rfl
theorem tw6808072101737738126:1=1:=rfl
theorem tw3813463309186608069:1=1:=rfl
theorem tw12951348598977164374:1=1:=rfl
theorem tw17419441547585308255:1=1:=rfl
theorem tw6729516528004450308:1=1:=rfl
theorem tw3370476161790742721:1=1:=rfl
theorem tw2316218913966084488:1=1:=rfl
theorem tw14351638367561700684:1=1:=rfl
theorem tw2570256154663580866:1=1:=rfl
theorem tw13622986192840226659:1=1:=rfl
theorem tw14543565160526341281:1=1:=rfl
theorem tw12544153281778371182:1=1:=rfl
theorem tw11578998150974447090:1=1:=rfl
theorem tw10273212389036400281:1=1:=rfl
theorem tw16690721406395207962:1=1:=rfl
theorem tw13153238376648037475:1=1:=rfl
theorem tw5010374636729764508:1=1:=rfl
theorem tw3601906263804351177:1=1:=rfl
theorem tw5910463068821796872:1=1:=rfl
theorem tw8102822384132079524:1=1:=rfl
theorem tw9105661533670760957:1=1:=rfl
theorem tw13775111214966076380:1=1:=rfl
theorem tw1792536093559581154:1=1:=rfl
theorem tw555584204551306121:1=1:=rfl
theorem tw18234703692063875612:1=1:=rfl
theorem tw3453865271118949809:1=1:=rfl
theorem tw3817508882917558590:1=1:=rfl
theorem tw10560686348834897245:1=1:=rfl
theorem tw4617650105228732575:1=1:=rfl
theorem tw14998508471260374994:1=1:=rfl
theorem tw3542764541251117514:1=1:=rfl
theorem tw15760438607179909885:1=1:=rfl
theorem tw11860970950930064444:1=1:=rfl
theorem tw17455254540924309656:1=1:=rfl
theorem tw11695352394676470293:1=1:=rfl
theorem tw3838365021032226050:1=1:=rfl
theorem tw18198346199504282691:1=1:=rfl
theorem tw7191668126462685309:1=1:=rfl
theorem tw6264489779490679009:1=1:=rfl
theorem tw10898767256469075708:1=1:=rfl
theorem tw7119943583805547969:1=1:=rfl
theorem tw10617073087106110444:1=1:=rfl
theorem tw7198514915793963077:1=1:=rfl
theorem tw9636551013377843957:1=1:=rfl
theorem tw1801941367442632421:1=1:=rfl
theorem tw15726455710170627826:1=1:=rfl
theorem tw7121804088770509408:1=1:=rfl
theorem tw17095222967778365178:1=1:=rfl
theorem tw16007410084576869774:1=1:=rfl
theorem tw16189426954073325496:1=1:=rfl
theorem tw10500116997148186969:1=1:=rfl
theorem tw18432117432284532333:1=1:=rfl
theorem tw553894805251590753:1=1:=rfl
theorem tw5675212811937500401:1=1:=rfl
theorem tw4140958107976561182:1=1:=rfl
theorem tw3306180775087519804:1=1:=rfl
theorem tw8673488736670319934:1=1:=rfl
theorem tw1443155800143673315:1=1:=rfl
theorem tw9232001034607045454:1=1:=rfl
theorem tw4254292534653608603:1=1:=rfl
theorem tw4886625317852339095:1=1:=rfl
theorem tw11025911550601639452:1=1:=rfl
theorem tw12211263496362860092:1=1:=rfl
theorem tw11020539210116955548:1=1:=rfl
theorem tw2030357043495403206:1=1:=rfl
theorem tw7287544753708331420:1=1:=rfl
theorem tw4252614205873221882:1=1:=rfl
theorem tw14773336030528265275:1=1:=rfl
theorem tw10513478703727525423:1=1:=rfl
theorem tw1036303643056160853:1=1:=rfl
theorem tw4869385828078427729:1=1:=rfl
theorem tw15223573448253246893:1=1:=rfl
theorem tw13569031776773140292:1=1:=rfl
theorem tw10114649647509181436:1=1:=rfl
theorem tw11896957168423431584:1=1:=rfl
theorem tw14527066259494142732:1=1:=rfl
theorem tw10909253392657650312:1=1:=rfl
theorem tw10296643981294587845:1=1:=rfl
theorem tw338582220430584527:1=1:=rfl
theorem tw512350602933428069:1=1:=rfl
theorem tw17188605897118166189:1=1:=rfl
theorem tw14831671366601316141:1=1:=rfl
theorem tw12448876437297875935:1=1:=rfl
theorem tw17685525197873111213:1=1:=rfl
theorem tw10663937399284299647:1=1:=rfl
theorem tw10216290300910140913:1=1:=rfl
theorem tw12195575521074499644:1=1:=rfl
theorem tw1902825128112008450:1=1:=rfl
theorem tw16810278456012669940:1=1:=rfl
theorem tw5733182661315436235:1=1:=rfl
theorem tw16556406815642849735:1=1:=rfl
theorem tw14296420106377605107:1=1:=rfl
theorem tw13561479649491097340:1=1:=rfl
theorem tw17334819293304672258:1=1:=rfl
theorem tw7238196985893584718:1=1:=rfl
theorem tw82361880348940277:1=1:=rfl
theorem tw10281800879906666910:1=1:=rfl
theorem tw8637498059640865860:1=1:=rfl
theorem tw3269944027871519077:1=1:=rfl
theorem tw2160127152398366605:1=1:=rfl
theorem tw1936884312841866497:1=1:=rfl
theorem tw9711643177944398105:1=1:=rfl
theorem tw8216503993675151439:1=1:=rfl
theorem tw7833474464488268105:1=1:=rfl
theorem tw11089265465939447572:1=1:=rfl
theorem tw2613215278187595723:1=1:=rfl
theorem tw5489986100434891213:1=1:=rfl
theorem tw6683328442939222373:1=1:=rfl
theorem tw3903390434639783943:1=1:=rfl
theorem tw2626706977205391911:1=1:=rfl
theorem tw8651876583457426840:1=1:=rfl
theorem tw11846643876049096112:1=1:=rfl
theorem tw13326707687201553904:1=1:=rfl
theorem tw14709843830888531189:1=1:=rfl
theorem tw8054319858344135745:1=1:=rfl
theorem tw13478069755683432898:1=1:=rfl
theorem tw12120150558419674929:1=1:=rfl
theorem tw16749339471202724219:1=1:=rfl
theorem tw2008375934982904451:1=1:=rfl
theorem tw8419906138339381341:1=1:=rfl
theorem tw12016129074820644241:1=1:=rfl
theorem tw7446687400043090280:1=1:=rfl
theorem tw13929904574685877695:1=1:=rfl
theorem tw7639319157971432604:1=1:=rfl
theorem tw4098463975395887908:1=1:=rfl
theorem tw9747404627858673874:1=1:=rfl
theorem tw3589994677167710563:1=1:=rfl
theorem tw3878965648043836165:1=1:=rfl
theorem tw399407675671711901:1=1:=rfl
theorem tw9973120297363040816:1=1:=rfl
theorem tw11864780257035219738:1=1:=rfl
theorem tw3386339731526073684:1=1:=rfl
theorem tw218447437591899956:1=1:=rfl
theorem tw17312712251473414261:1=1:=rfl
theorem tw13671254092582757221:1=1:=rfl
theorem tw2593583520375502462:1=1:=rfl
theorem tw4258362683431958705:1=1:=rfl
theorem tw11086358969295623203:1=1:=rfl
theorem tw2338787787298712671:1=1:=rfl
theorem tw10954331611501091425:1=1:=rfl
theorem tw4001484266361899610:1=1:=rfl
theorem tw758221759636160642:1=1:=rfl
theorem tw17417237077548553543:1=1:=rfl
theorem tw3847330966521075389:1=1:=rfl
theorem tw15269222355788145193:1=1:=rfl
theorem tw131490247657504544:1=1:=rfl
theorem tw1203677805570411890:1=1:=rfl
theorem tw678025031439447690:1=1:=rfl
theorem tw18060402953276916092:1=1:=rfl
theorem tw3190156942396063750:1=1:=rfl
theorem tw15550215263208072223:1=1:=rfl
theorem tw12019397395765095580:1=1:=rfl
theorem tw4493406757224865465:1=1:=rfl
theorem tw4852694113868875446:1=1:=rfl
theorem tw15501519611186002312:1=1:=rfl
theorem tw4394853399987546041:1=1:=rfl
theorem tw8970055138086512048:1=1:=rfl
theorem tw10930188981812249100:1=1:=rfl
theorem tw14676875403657245506:1=1:=rfl
theorem tw10137483103351358856:1=1:=rfl
theorem tw6830129483326660674:1=1:=rfl
theorem tw11825449676695872489:1=1:=rfl
theorem tw17009886065253288549:1=1:=rfl
theorem tw12201978163742828287:1=1:=rfl
theorem tw10524584361358790522:1=1:=rfl
theorem tw11886747443807223790:1=1:=rfl
theorem tw11058689255410727342:1=1:=rfl
theorem tw8969343799878087454:1=1:=rfl
theorem tw16238627568784242276:1=1:=rfl
theorem tw917933230851132771:1=1:=rfl
theorem tw15041205102837077678:1=1:=rfl
theorem tw14390184851454899812:1=1:=rfl
theorem tw7974792133477469127:1=1:=rfl
theorem tw7548728716090812732:1=1:=rfl
theorem tw3329251963727922495:1=1:=rfl
theorem tw2552977576043046198:1=1:=rfl
theorem tw12737919481364772149:1=1:=rfl
theorem tw15721183407421926589:1=1:=rfl
theorem tw6299281291107624462:1=1:=rfl
theorem tw8292101169828046323:1=1:=rfl
theorem tw4777717258970429592:1=1:=rfl
theorem tw5937150461992285703:1=1:=rfl
theorem tw7796713122641111013:1=1:=rfl
theorem tw6440301383006790402:1=1:=rfl
theorem tw7603977332132959601:1=1:=rfl
theorem tw4283952414719615202:1=1:=rfl
theorem tw1495047875352659553:1=1:=rfl
theorem tw9342029995249920485:1=1:=rfl
theorem tw16605675424419998562:1=1:=rfl
theorem tw15373542135677239417:1=1:=rfl
theorem tw6894325055296131630:1=1:=rfl
theorem tw12124818920274201115:1=1:=rfl
theorem tw5599321622597360744:1=1:=rfl
theorem tw9619213607747937911:1=1:=rfl
theorem tw16957721484525925078:1=1:=rfl
theorem tw14736129572996910576:1=1:=rfl
theorem tw12076402647035051512:1=1:=rfl
theorem tw12104117651316353899:1=1:=rfl
theorem tw9523365468798021785:1=1:=rfl
theorem tw731790672965539930:1=1:=rfl
theorem tw2835500576380293019:1=1:=rfl
theorem tw5644057198635360647:1=1:=rfl
theorem tw2121336997445213099:1=1:=rfl
theorem tw464288248967626456:1=1:=rfl
theorem tw2859749970554191084:1=1:=rfl
theorem tw3337930626516544758:1=1:=rfl
theorem tw13054805401580693373:1=1:=rfl
theorem tw10867566453430578386:1=1:=rfl
theorem tw16374766092926319170:1=1:=rfl
theorem tw16890265511082787098:1=1:=rfl
theorem tw2870391623241916948:1=1:=rfl
theorem tw16686983044747395756:1=1:=rfl
theorem tw625941114801407291:1=1:=rfl
theorem tw8299272629010010135:1=1:=rfl
theorem tw14696589444286320043:1=1:=rfl
theorem tw9010025878517093319:1=1:=rfl
theorem tw7082361582475918344:1=1:=rfl
end PySem.W.Fast
open PySem PySem.W PyProof.Rows
set_option maxRecDepth 100000 in
set_option maxHeartbeats 0 in
theorem PySem.Challenge.cw_sharetrail_k63_whole_clashes_told_at_the_holds : PySem.Challenge.rw_sharetrail_k63_whole_clashes_told_at_the.Holds := by
 w_on;o_law;k_head;(case hw=>w_witness2)
 k_fill
 refine Mi.walk (l:=PySem.Challenge.rw_sharetrail_k63_whole_clashes_told_at_the) rfl rfl (λw h Y=>PySem.W.kIn_of Y) rfl ?F
 case F=>
  intro w mg h KX G
  have z_abs:mg "abs"=none:=by
   refine' PySem.W.mg_none_of KX G ?z
   (case z=>k_is)
  have z_all:mg "all"=none:=by
   refine' PySem.W.mg_none_of KX G ?z
   (case z=>k_is)
  have z_any:mg "any"=none:=by
   refine' PySem.W.mg_none_of KX G ?z
   (case z=>k_is)
  have z_bool:mg "bool"=none:=by
   refine' PySem.W.mg_none_of KX G ?z
   (case z=>k_is)
  have z_enumerate:mg "enumerate"=none:=by
   refine' PySem.W.mg_none_of KX G ?z
   (case z=>k_is)
  have z_int:mg "int"=none:=by
   refine' PySem.W.mg_none_of KX G ?z
   (case z=>k_is)
  have z_isinstance:mg "isinstance"=none:=by
   refine' PySem.W.mg_none_of KX G ?z
   (case z=>k_is)
  have z_len:mg "len"=none:=by
   refine' PySem.W.mg_none_of KX G ?z
   (case z=>k_is)
  have z_list:mg "list"=none:=by
   refine' PySem.W.mg_none_of KX G ?z
   (case z=>k_is)
  have z_max:mg "max"=none:=by
   refine' PySem.W.mg_none_of KX G ?z
   (case z=>k_is)
  have z_min:mg "min"=none:=by
   refine' PySem.W.mg_none_of KX G ?z
   (case z=>k_is)
  have z_range:mg "range"=none:=by
   refine' PySem.W.mg_none_of KX G ?z
   (case z=>k_is)
  have z_set:mg "set"=none:=by
   refine' PySem.W.mg_none_of KX G ?z
   (case z=>k_is)
  have z_sorted:mg "sorted"=none:=by
   refine' PySem.W.mg_none_of KX G ?z
   (case z=>k_is)
  have z_sum:mg "sum"=none:=by
   refine' PySem.W.mg_none_of KX G ?z
   (case z=>k_is)
  have z_tuple:mg "tuple"=none:=by
   refine' PySem.W.mg_none_of KX G ?z
   (case z=>k_is)
  have z_zip:mg "zip"=none:=by
   refine' PySem.W.mg_none_of KX G ?z
   (case z=>k_is)
  refine⟨⟨z_abs,z_all,z_any,z_bool,z_enumerate,z_int,z_isinstance,z_len,z_list,z_max,z_min,z_range,z_set,z_sorted,z_sum,z_tuple,z_zip⟩,?_,?_,?_,?_,?_,?_,?_,?_,?_,?_,?_,?_,?_,?_,?_,?_,?_,?_,?_,?_,?_,?_,?_,?_,?_,?_,?_,?_,?_,?_,?_,?_,?_,?_,?_,?_,?_,?_,?_,?_,?_,?_,?_,?_,?_,?_,?_⟩
  all_goals (refine' Mi.Za KX G ?a ?l ?c ?k;(case a=>k_is);(case l=>k_is);(case c=>k_is);(case k=>k_is))
end
