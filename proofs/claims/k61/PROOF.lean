import PyProof.Rows.All
import Wide.All
import OpenK.AllK
import Wide.FinOn
import Lean
import PyProof.EqAt
import PyProof.EqKinds
import PyProof.TupleCall
import PyProof.Draws
import PyProof.EnumMake
import PyProof.EnumFor
import PyProof.ZipIter
import PyProof.ListMulRoad
import PyProof.NeData
import PyProof.SumWalkG
import KE.KSortedM
import PyProof.FactsAll.subtypes_4
import KE.KSortTup
import KE.KItemsList
import PyProof.DictItemsLoops
import KE.KDictList
import PyProof.DictValues
import PyProof.DictCompW
import PySem.Challenge.RW_sharetrail_k61_trades_and_clashes
set_option Elab.async false
set_option linter.all false
set_option maxRecDepth 100000
set_option maxHeartbeats 4000000
set_option exponentiation.threshold 10000
open _root_ renaming List->Wp,Option->j6,of_decide_eq_true->kO,if_pos->kh,Array->kj,if_neg->ko,Bool->lA,or_false->mK,decide_eq_true->mZ,decide_eq_false->nE,beq_eq_false_iff_ne->oP,False->ou,String->pE,if_false->pL,bne_self_eq_false->qW,if_true->qk,not_or->tH,DecidableEq->t7,True->uU,decide_eq_true_eq->vi,beq_iff_eq->xE
open Array renaming length_toList->lg,getElem?_toList->nv,getD->qF,toList_map->se,toArray_toList->uM,getElem?_map->uz,toList_push->vZ,toList->yj
open Bool renaming and_eq_true->kQ,false_ne_true->lU,or_eq_true->mM,noConfusion->mU,false_eq_true->mz,true_and->uh,and_false->xB,false_or->x9,and_true->yM,and_self->yO
open Classical renaming choose_spec->zh
open False renaming elim->oY
open ForInStep renaming yield->qv
open Int renaming toNat_of_nonneg->lP,lt_trans->mf,natAbs_natCast->m7,emod_nonneg->nM,mul_pos->oH,emod_lt_of_pos->oo,lt_of_lt_of_le->oq,toNat_natCast->pH,natAbs_mul->pP,mul_le_mul_of_nonneg_right->qj,mul_ediv_cancel_left->sN,natCast_mul->tV,lt_of_le_of_lt->vB,natAbs_add_le->vf,emod_eq_of_lt->vj,le_refl->wM,mul_nonneg->xX,mul_le_mul->xY,toNat->yi,le_of_lt->zN,sub_self->zS,pow_succ->zT
open List renaming getElem?_append_left->j8,getElem?_set_ne->kB,mem_cons_of_mem->kC,getElem?_eq_getElem->kE,mem_cons->kG,mem_cons_self->kJ,getElem?_eq_some_iff->kK,size_toArray->kM,getElem?_set_self->kN,getD_eq_getElem?_getD->kP,getElem?_concat_length->kR,length_map->kT,map_cons->kU,mem_of_getElem?->kW,mem_singleton->kX,mem_append->kY,replicate->kZ,not_mem_nil->kg,filterMap_cons->ki,getElem?_map->kn,range->kq,nil_append->kr,mem_append_right->k9,mem_map->lC,getElem?_append_right->lG,length_append->lK,length_cons->lQ,prefix_rfl->lT,cons_append->l7,drop_eq_getElem_cons->mC,map_nil->mE,append_assoc->mF,nodup_append->mG,map_map->mO,map_append->mR,lookup_cons->mS,pairwise_map->mh,nodup_iff_pairwise_ne->mq,replicate_succ->mv,mem_or_eq_of_mem_set->mx,mem_filter->nG,nodup_cons->nH,length_set->nI,take_of_length_le->nP,drop_eq_nil_of_le->nQ,any_cons->nU,any_eq_true->nW,length_filter_le->ny,find?_cons->oC,flatten_cons->oE,getElem_inj->oR,length_take->oT,getElem_mem->oW,ext_getElem->oX,prefix_append->oj,sum_cons->pD,mem_iff_getElem?->pG,mem_range->pJ,drop_eq_nil_iff->pM,mem_iff_getElem->pO,getElem?_eq_none_iff->pW,length_filterMap_le->p9,append_nil->qA,of_mem_zip->qB,length_nil->qC,lookup_append->qE,pairwise_mergeSort->qI,take_sublist->qO,getElem?_inj->qR,pairwise_lt_range->qT,length_range->qX,mem_range'_1->qY,mem_append_left->qm,getElem?_zipWith_eq_some->qt,mergeSort_perm->qz,mem_map_of_mem->q9,getElem?_zip_eq_some->rQ,pairwise_iff_getElem->rR,mem_of_find?_eq_some->rT,length->rf,all_cons->sG,getElem?_replicate->sR,getElem?_cons_zero->sf,take_length->sg,zipWith->tO,map_set->tP,foldl_cons->tR,forIn_cons->tT,length_singleton->tZ,set_append_right->tq,getElem?_eq_none->tu,pairwise_and_iff->tw,forIn_nil->uB,length_eraseIdx->uJ,set_append_left->uO,length_pos_iff->uX,Pairwise->uf,map_take->ui,mem_filterMap->um,foldl->ur,pairwise_cons->uy,zip_cons_cons->vA,ext_getElem?->vg,flatMap_cons->vm,length_drop->vq,zipIdx_cons->vz,take->v7,getElem_map->v9,map_snd_zip->wD,range'->wL,zipIdx_nil->wU,range_succ->wg,find?_some->wj,take_succ->xH,mapM_cons->xK,drop->yT,set_set->zQ,lookup->z9
open List.Pairwise renaming nil->rm,imp_of_mem->sQ,sublist->tj,filterMap->yb
open List.Perm renaming refl->qV,eq_of_pairwise->sL,cons->xO,append_left->zl
open Nat renaming le_refl->kA,lt_of_lt_of_le->kD,le_trans->kF,ne_of_lt->kS,zero_le->lX,lt_succ_of_lt->mB,lt_of_le_of_lt->mL,le_of_lt->mN,pow_le_pow_right->mW,mul_le_mul_right->mX,lt_irrefl->mY,lt_succ_self->nV,le_succ_of_le->oI,ne_of_gt->oZ,mul_comm->og,le_of_succ_le->pI,lt_trans->pS,zero_add->rC,pos_of_ne_zero->rO,one_lt_two_pow->rP,le_succ->sA,gcd->sD,mul_pos->sE,mul_assoc->sP,lt_or_ge->tQ,mul_le_mul->uN,lt_trichotomy->vW,pow_succ->ve,min_le_right->vp,div_le_self->we,mod_lt->xP,add_comm->yt,le_of_eq->yu,gcd_comm->zP
open Ne renaming symm->l8
open Option renaming some->Gc,bind_some->qi,isSome_iff_exists->sF,isSome_some->uu,map->ux,getD_none->vt,getD_some->vy
open Option.some renaming inj->lR,injEq->vd
open Or renaming inr->yv
open PyProof.Rows renaming slot_tuple_getitem->lW,boot_tuple->m6,IntsAre->nD,step_dedup->nJ,callWith_type1->nO,envOfC->pZ,callWith_builtin1->qe,assignInOrder_cons->rF,AllBare->rX,subscriptTail_builtinR->sr,entry_tuple_getitem->uV,getElem?_mirror_all->uZ,listUpdate_at->ug,args_tuple_getitem->uq,assignInOrder_nil->vG,boot_sorted->wJ,seqEpoch_at->wK,entry_list_sort->wc,getElem?_bubble->wd,slicePart_none->xA,mulOk_of_bits->xJ,slot_list_sort->xQ,args_list_sort->xR,sortedHeap_old->xS,evalArgs_none->xU,boot_int->xW,mul_int->xc,assign_Tuple->xh,tupleItemsOf_->xv,sortedHeap_at->yI,boot_list->yf,plain_sorted->zH,entry_sorted->zI,args_sorted1->zJ,firstMet->zi,boot_set->zm,IsTup->zp
open PyProof.Rows.F renaming plain_set_update_loop->qJ,entry_set_update_loop->sY
open PyProof.Rows.IsTup renaming new->pX
open PySem renaming wpAny_bind->jy,Value->j4,Shared->j5,wpAny_pure->j7,Addr->j9,starEach->kc,Program->ke,Expr->ky,World->lB,Heap->lD,Around->lF,wpAny_call_entry->lL,wpAny_holding->lM,wpAny_newObj_type->lN,wpAny_callSpecial?_slot->lO,Stmt->lY,mem_of_lookup->lh,wpAny_pyIter_list->md,Builtin->mw,wpAny_pyIter_tuple->my,Scope->m9,FuncData->nB,wpAny_seqItems->nC,codeAny_builtin->nK,wpAny_standAt->nS,wpAny_field->nT,wpAny_Call_Name_kw->nY,wpAny_setField->ng,wpAny_setField_rec->nh,wpAny_passesOwn->oB,wpAny_setState_of->oG,wpAny_rule->oJ,IsPair->oM,wpAny_setEntries_of->oQ,NameKind->oS,wpAny_getItem_str_slice->oU,wpAny_updateSeq->pA,boot_len->pB,wpAny_typeOf->pR,wpAny_isInstance->pT,wpAny_binaryOp_repeat_ref->pV,wpAny_comprehension_free->pq,wpAny_attempt->pz,plainId_quiet->p0,wpAny_pyNext_list_item->qL,codeAny_mono->qN,fits_of_scanBound->qU,wpAny_pyNext_list_end->qZ,wpAny_mono->qd,typeIs_int->qf,call_meets->qg,wpAny_newList->ql,sizeLine_eq->qo,wpAny_updateSeq_pair->qr,wpAny_execs_nil->qu,post_val_or_str->qy,IsZip->rK,wpAny_fieldsOf->rM,wpAny_truthy_bool->rY,Keyword->rZ,wpAny_setEpoch_of->sC,wpAny_onRaise->sH,noFill_tuple_add->sS,wpAny_askSetting->sZ,IsPart->sj,typeIs_str->su,ElemsOf->tK,wpAny_specialOf->tU,wpAny_pyIter_listiter->tY,builtinLookup_eq_fast->tm,wpAny_letGo->uC,wpAny_newTuple->uD,isSubtype_stop->uE,intBits_le_iff->uG,wpAny_runValue->uH,isSubtype_type->uI,codeAny_extend_loopS->uL,PassesOwn->uR,ItemsOf->uS,seq_tuple_add->uc,Result->uo,tupleKind_room_in1->uv,wpAny_assign_Name->vF,BindsTo->vI,concat_meets->vJ,wpAny_sequenceKey->vK,slot_list_getitem->vL,wpAny_Call_method->vN,ZipApart->vP,wpAny_pyIter_enum->vS,wpAny_storeSet_of->vY,wpAny_pyIter_slot->va,wpAny_eqBool_int->vn,wpAny_execs_cons->vo,wpAny_pyIter_zip->v5,seqIndex_of->wH,wpAny_of_eq->wI,pushCells_keeps->wQ,codeAny_of_tree->wV,typeLookup_type->wY,GenState->wo,wpAny_Name->wq,wpAny_bindName->wt,wpAny_load->wu,call->xD,entryFor_alias->xN,intBits_le_64->xt,evalPart_none->xw,call_list_seq->x8,signature?_of->yF,wpAny_handled->yG,Model->yP,Env->yW,name_of_addr->yp,codeAny_loop->yw,call_meetsIn->yz,callType_new->y0,sub_set_self->zG,Drawn->zu,IsRangeIter->zx
open PySem.Around renaming under_plainId->mV
open PySem.AutoListH renaming list___mul___list_int_3->vC
open PySem.AutoSeq1 renaming wpAny_loadPart'->kf,list_extend_list_list_0->vM,sub_tuple_tuple->yB,sub_tuple_list->yZ,sub_list_tuple->ya,sub_list_list->zE
open PySem.Builtin.Frozenset renaming updateFrom->wX,newClass->xM,sizeOf->yH,slot0->yd
open PySem.Builtin.List renaming listExtendWith->lZ,listTooLong->mP,listLengthHint->nR,listSameRef->oO,listItems->tN,listFitsIndex->xC,listUpdate->ye
open PySem.Builtin.Range renaming rangeSize->yS
open PySem.Builtin.Slice renaming slicePlaces->oA,sliceAdjust->pU,sliceApplied->rH,slicePartIndex->wO,sliceFields->xf
open PySem.Builtin.SmallTypes renaming nextOf->lI,ownedTupleIsFree->mQ,ownedTupleHandOut->pY,stopIteration->vO
open PySem.Builtin.Tuple renaming tupleExact->oK,tupleItemsOf->rJ,tupleTooMany->rL,tupleIsExact->xI
open PySem.Calls renaming spliced_cons->pF,spliced_nil->pK,Name_function_global->rE,call_function_entry->rS,callWith_builtin->sx,evalArgs_plain->t9
open PySem.Challenge renaming pw_sharetrail_k61_trades_and_clashes->rD
open PySem.Data renaming fields->wG
open PySem.Expr renaming Call->v8
open PySem.F renaming slot_list_append->kz,type_list_append->k0,slot_tuple_iterator_next->nZ,slot_str_getitem->oN,called_set->om,slot_int_rmul->oy,plain_list_iadd->pN,args_tuple_add_2->pf,entry_tuple_add->qG,slot_tuple_add->qP,slot_dict_get->qa,slot_tuple_mul->qh,slot_list_extend->qp,args_tuple_iterator_next_1->qw,slot_zip_next->qx,entry_tuple_iterator_next->rA,args_int_rmul_2->rh,entry_proto_collect->sI,plain_proto_collect->sJ,slot_dict_values->sM,slot_int_index->sU,entry_int_rmul->sV,args_dict_get_2->sW,plainAttrs_dict->sX,entry_dict_get->tF,fills_int_mul->tS,args_list_extend_2->uA,entry_list_iadd->uK,entry_list_extend->uW,plain_extend_loop->uY,args_tuple_mul_2->uw,args_zip_next_1->vQ,slot_tuple_rmul->vT,entry_tuple_mul->vU,entry_zip_next->v3,plain_set_new->wW,slot_set_iter->wZ
open PySem.Heap renaming get?_push_of_some->j0,get?_push_size->kH,lt_size->kL,size_push->ku,get?_update_self->lJ,get?_update_other->mD,SameBut->nN,ExtBut->qH,IsTuple->rB,IsList->uF
open PySem.Heap.DictOf renaming new->wR
open PySem.Heap.SameBut renaming update->lu,refl->vR
open PySem.Manifest renaming sig_set_iterator->xn
open PySem.NameKind renaming free->l9,cell->pC
open PySem.Obj renaming mapSeq->lH,data_mapFields->mJ,isFreed_of_fields->nq,cls_mapFields->qQ,putSet->tL,mapFields->ue
open PySem.Paired renaming length->ub
open PySem.PassesOwn renaming never->lE
open PySem.PyData renaming strOk->mT,canLayAll0->qS,depthAll->tW,depth->vk
open PySem.SeqAt.EqAt renaming int_str->uj,str_int->uk,none_bool->z0,bool_none->z6,bool_bool->z7
open PySem.SetTable renaming below->lV,grown->oV,has->vX,toList_insertAt->yC,slot->yD,fits_plain_off->yc
open PySem.SetTable.Slot renaming noConfusion->xl
open PySem.SetTable.below renaming go->vV
open PySem.SetTable.probe renaming go->rz
open PySem.Shared renaming heap->oF,TypeIs->yE
open PySem.Str renaming ofString->lq
open PySem.Txt renaming slice_le->tJ,slice->yX
open PySem.Value renaming ref->mH,none->mI,int->qb,type->qc,isInt_shape->rV,isInt->tz,str->uQ,isStrOf->ua,bool->wm
open PySem.W renaming Frag->jz,keepIn->nX,fnOf->oa,findIn->qM,OpenLaw->qq,codeIn->rG,methodObj->rW,cellsFrom_some->si,kas_rev->uT,specialIn->vH,kas_desc->vc,kas_tail3->wB,kas_place->wC,instObj->wN,WalkO->wk,isFn->yo,nsIn->zB,kas_descPart->zK,kas_bin->zM
open PySem.W.KasT renaming kasWp_bind->qD
open PySem.pickOrder renaming go->vb
open Rat renaming intCast_eq_zero_iff->qK,mkRat_eq_div->wF
open Sum renaming inl->pQ,inr->uP
open True renaming intro->tE
noncomputable section
namespace L2
open PySem PySem.Spec PyProof.Rows
abbrev Key:=Sum Int Str
noncomputable def OL:Key->j4->lA
 | .inl k,v=>tz k v
 | .inr x,v=>ua x v
noncomputable def jO(w:lB):Key->Int
 | .inl k=>hashInt k
 | .inr x=>hashStr w x
theorem Bw:∀{k:Key} {v:j4},OL k v=true->(∃i t,k=pQ i/\v=qb i t)\/(∃x t,k=uP x/\v=uQ x t)
 | .inl i,v,h=>by
   obtain⟨t,e⟩:=rV (k:=i) (v:=v) h
   exact .inl ⟨i,t,rfl,e⟩
 | .inr x,v,h=>by
   obtain⟨t,e⟩:=Value.isStrOf_shape (x:=x) (v:=v) h
   exact .inr ⟨x,t,rfl,e⟩
theorem SO(i:Int)(t:Tok):OL (.inl i) (.int i t)=true:=by simp[OL,tz]
theorem RI(x:Str)(t:Tok):OL (.inr x) (.str x t)=true:=by simp[OL,ua]
theorem bQ(a b:Int):decide ((pQ a:Key)=pQ b)=(a==b):=by
 by_cases e:a=b
 .subst e;simp
 .have h:¬(pQ a:Key)=pQ b:=λq=>e (Sum.inl.inj q)
  rw[nE h]
  exact(oP.mpr e).symm
theorem bA(a b:Str):decide ((uP a:Key)=uP b)=decide (a=b):=by
 by_cases e:a=b
 .subst e;simp
 .have h:¬(uP a:Key)=uP b:=λq=>e (Sum.inr.inj q)
  rw[nE h,nE e]
theorem Zc(a:Int)(b:Str):decide ((pQ a:Key)=uP b)=false:=nE (λq=>nomatch q)
theorem ZX(a:Str)(b:Int):decide ((uP a:Key)=pQ b)=false:=nE (λq=>nomatch q)
noncomputable def CZ(prog:ke)(w:lB):PySem.KeyKind prog w Key where
 is:=OL
 hash:=jO w
 inj:=λv a b ha hb=>by
  rcases Bw ha with⟨i,t,rfl,rfl⟩|⟨x,t,rfl,rfl⟩
  .rcases Bw hb with⟨j,u,rfl,e⟩|⟨y,u,rfl,e⟩
   .injection e with e1 _;rw[e1]
   .exact nomatch e
  .rcases Bw hb with⟨j,u,rfl,e⟩|⟨y,u,rfl,e⟩
   .exact nomatch e
   .injection e with e1 _;rw[e1]
 byValue:=λk v h=>by
  rcases Bw h with⟨i,t,rfl,rfl⟩|⟨x,t,rfl,rfl⟩<;>rfl
 pyHash:=λhv h=>by
  rcases Bw hv with⟨i,t,rfl,rfl⟩|⟨x,t,rfl,rfl⟩
  .exact wpAny_pyHash_int h
  .exact wpAny_pyHash_str h
 eqBool:=λhu hv h=>by
  rcases Bw hu with⟨i,t,rfl,rfl⟩|⟨x,t,rfl,rfl⟩
  .rcases Bw hv with⟨j,u,rfl,rfl⟩|⟨y,u,rfl,rfl⟩
   .rw[bQ]at h;exact vn h
   .rw[Zc]at h;exact uj i t y u _ _ _ _ h
  .rcases Bw hv with⟨j,u,rfl,rfl⟩|⟨y,u,rfl,rfl⟩
   .rw[ZX]at h;exact uk x t j u _ _ _ _ h
   .rw[bA]at h;exact wpAny_eqBool_str h
 «strs» :=λk x t v h=>by
  rcases Bw h with⟨i,u,rfl,e⟩|⟨y,u,rfl,e⟩
  .exact nomatch e
  .injection e with e1 _
   subst e1
   cases v<;>rfl
theorem OQ(prog:ke)(w:lB)(i:Int)(t:Tok):(CZ prog w).is (.inl i) (.int i t)=true:=SO i t
theorem OU(prog:ke)(w:lB)(x:Str)(t:Tok):(CZ prog w).is (.inr x) (.str x t)=true:=RI x t
end L2
namespace L2
open PySem PySem.Spec PyProof.Rows
inductive V where
 |non|bl (b:lA)|int (i:Int)|str (x:Str)|byt (b:kj UInt8)|flt (b:UInt64)|ref (a:j9)|ty (n:pE)
 deriving t7
def RelV:V->j4->Prop
 | .non,u=>u=mI
 | .bl b,u=>u=wm b
 | .int i,u=>∃t,u=qb i t
 | .str x,u=>∃t,u=uQ x t
 | .byt b,u=>∃t,u=Value.bytes b t
 | .flt b,u=>∃t,u=Value.float b t
 | .ref a,u=>u=mH a
 | .ty n,u=>u=qc n
abbrev Vals:Wp V->Wp j4->Prop:=Paired RelV
theorem Vals.length{xs:Wp V}{us:Wp j4}(r:Vals xs us):xs.length=us.length:=ub r
theorem Vals.get:∀{xs:Wp V} {us:Wp j4} {i:Nat} {x:V},Vals xs us->xs[i]?=Gc x->∃u,us[i]?=Gc u/\RelV x u
 |_,_,_,_,.nil,e=>by simp at e
 |_,_,0,_,.cons r _,e=>by simp at e;subst e;exact⟨_,rfl,r⟩
 |_,_,i+1,x,.cons _ t,e=>by
  obtain⟨u,h1,h2⟩:=Vals.get (i:=i) (x:=x) t (by simpa using e)
  exact⟨u,by simpa using h1,h2⟩
theorem Vals.set{x:V}{u:j4}(r:RelV x u):∀{xs:Wp V} {us:Wp j4} (i:Nat),Vals xs us->Vals (xs.set i x) (us.set i u)
 |_,_,_,.nil=>.nil
 |_,_,0,.cons _ t=>.cons r t
 |_,_,i+1,.cons q t=>.cons q (Vals.set r i t)
theorem Vals.append:∀{xs ys:Wp V} {us ws:Wp j4},Vals xs us->Vals ys ws->Vals (xs++ys) (us++ws)
 |_,_,_,_,.nil,s=>s
 |_,_,_,_,.cons r t,s=>.cons r (Vals.append t s)
theorem Vals.take:∀{xs:Wp V} {us:Wp j4} (n:Nat),Vals xs us->Vals (xs.take n) (us.take n)
 |_,_,0,_=>.nil
 |_,_,_+1,.nil=>.nil
 |_,_,n+1,.cons r t=>.cons r (Vals.take n t)
theorem Vals.drop:∀{xs:Wp V} {us:Wp j4} (n:Nat),Vals xs us->Vals (xs.drop n) (us.drop n)
 |_,_,0,r=>r
 |_,_,_+1,.nil=>.nil
 |_,_,n+1,.cons _ t=>Vals.drop n t
def Up:j6 V->j6 j4->Prop
 |some v,Gc u=>RelV v u
 |none,none=>uU
 |_,_=>ou
def KV{κ:Type}:Wp (κ×V)->Wp (κ×j4)->Prop:=Paired λ(p:κ×V) (q:κ×j4)=>p.1=q.1/\RelV p.2 q.2
noncomputable def kV:Key->V
 | .inl i=>.int i
 | .inr x=>.str x
inductive HO where
 |lst (xs:Wp V)
 |tup (xs:Wp V)
 |dK (kvs:Wp (Key×V))|dT (kvs:Wp (Wp Key×V))
 |set (S:Int->lA) (n:Nat)
 |ins (C dx:j9) (fs:Wp (Str×V))
 |own (x:j9)
 |xd (fs:Wp (Str×V))
 |met (f x:j9)
 |rng (lo hi:Int)
 |frz (o:Obj) (u:HO)
 |tbl (ps:kj j4)
 |ext (φ:lD->Prop)
abbrev Hp:=j9->j6 HO
noncomputable def upd(H:Hp)(a:j9)(o:HO):Hp:=λb=>if b=a then Gc o else H b
theorem As{H:Hp}{a:j9}{o:HO}:upd H a o a=Gc o:=by unfold upd;rw[kh rfl]
theorem AV{H:Hp}{a b:j9}{o:HO}(h:b≠a):upd H a o b=H b:=by unfold upd;rw[ko h]
theorem Yz{H:Hp}{a:j9}{o u:HO}:upd (upd H a o) a u=upd H a u:=by
 funext b;unfold upd;split<;>rfl
theorem eE{H:Hp}{a b:j9}{o u:HO}(h:H a=Gc o)(h':H b=Gc u)(d:o≠u):a≠b:=by
 intro e;subst e;rw[h]at h';exact d (lR h')
theorem BK{H:Hp}{a b:j9}{o:HO}(h:H a=Gc o)(h':H b=none):a≠b:=by
 intro e;subst e;rw[h]at h';cases h'
section
variable(P:ke)(w:lB)
def FV(H:Hp)(h:lD)(a:j9):HO->Prop
 | .lst xs=>xs.length<=sizeLine/\∃(its:Wp j4) (n:Nat),Vals xs its/\h.get? a=Gc {cls:=.type "list",data:=.seq its.toArray n}
 | .tup xs=>xs.length<=sizeLine/\∃its:Wp j4,Vals xs its/\zp h a its.toArray
 | .dK kvs=>kvs.length<=sizeLine/\(a==sysModules)=false/\∃vs,KV kvs vs/\h.DictOf (CZ P w) a vs
 | .dT kvs=>kvs.length<=sizeLine/\(a==sysModules)=false/\∃xs:Wp (Wp Key×j9×j4),
    Paired (λ(p:Wp Key×V) (q:Wp Key×j9×j4)=>p.1=q.1/\H q.2.1=Gc (.tup (p.1.map kV))/\RelV p.2 q.2.2) kvs xs/\
    ∃o es ep,h.get? a=Gc o/\o.ExactDict/\o.data=.dict es ep/\es.toList=xs.map (entryOfKey (tupleKind (CZ P w)))/\(xs.map (·.1)).Nodup
 | .set S n=>h.SetOf (intKind P w) a S n
 | .ins C dx fs=>H dx=Gc (.own a)/\fs.length<=1000/\dx≠a/\h.get? a=Gc (wN C dx)/\
    ∃mA,h.Ns1 dx mA/\(∀f,Up (fs.lookup f) (mA f))/\PySem.Within mA (fs.map (·.1))
 | .own _=>∃o,h.get? a=Gc o
 | .xd fs=>∃mA,h.Ns1 a mA/\∀f,Up (fs.lookup f) (mA f)
 | .rng lo hi=>∃t u v,h.get? a=Gc {cls:=.type "range",data:=.fields #[.int lo t,.int hi u,.int 1 v]}
 | .frz o u=>h.get? a=Gc o/\FV H h a u
 | .tbl ps=>h.get? a=Gc {cls:=.none,data:=.fields ps}
 | .met f x=>h.get? a=Gc (rW (.ref f) (.ref x))
 | .ext φ=>φ h/\(∃o,h.get? a=Gc o)/\∀h1 h2:lD,φ h1->(∀o,h1.get? a=Gc o->h2.get? a=Gc o)->φ h2
def HOk(H:Hp)(h:lD):Prop:=∀a o,H a=Gc o->FV P w H h a o
end
section
variable{P:ke}{w:lB}{H H':Hp}{h h':lD}{a:j9}{o:HO}
theorem FV.lt(x:FV P w H h a o):a<h.objs.size:=by
 cases o with
 |lst xs=>obtain⟨_,_,_,_,e⟩:=x;exact kL e
 |tup xs=>obtain⟨_,_,_,p⟩:=x;exact p.lt
 |dK kvs=>obtain⟨_,_,_,_,o,_,_,e,_⟩:=x;exact kL e
 |dT kvs=>obtain⟨_,_,_,_,o,_,_,e,_⟩:=x;exact kL e
 |set S n=>obtain⟨o,_,_,_,e,_⟩:=x;exact kL e
 |ins C dx fs=>obtain⟨_,_,_,e,_⟩:=x;exact kL e
 |own y=>obtain⟨_,e⟩:=x;exact kL e
 |xd fs=>obtain⟨_,⟨_,_,_,e,_⟩,_⟩:=x;exact kL e
 |rng lo hi=>obtain⟨_,_,_,e⟩:=x;exact kL e
 |frz ob u=>obtain⟨e,_⟩:=x;exact kL e
 |tbl ps=>exact kL (show h.get? a=Gc _ from x)
 |met f y=>exact kL (show h.get? a=Gc _ from x)
 |ext φ=>obtain⟨_,⟨_,e⟩,_⟩:=x;exact kL e
theorem Paired.fc{α β:Type}{F G:α->β->Prop}:∀{l₁:Wp α} {l₂:Wp β},Paired F l₁ l₂->(∀a b,F a b->G a b)->Paired G l₁ l₂
 |_,_,.nil,_=>.nil
 |_,_,.cons r t,f=>.cons (f _ _ r) (Paired.fc t f)
theorem FV.XJ(x:FV P w H h a o)(k:∀b u,(b=a\/H b=Gc (.own a))->h.get? b=Gc u->h'.get? b=Gc u)(ho:∀b,H b=Gc (.own a)->H' b=Gc (.own a))(ht:∀b xs,H b=Gc (.tup xs)->H' b=Gc (.tup xs)):FV P w H' h' a o:=by
 induction o with
 |lst xs=>obtain⟨z,its,n,r,e⟩:=x;exact⟨z,its,n,r,k _ _ (.inl rfl) e⟩
 |tup xs=>obtain⟨z,its,r,ob,e,c⟩:=x;exact⟨z,its,r,ob,k _ _ (.inl rfl) e,c⟩
 |dK kvs=>obtain⟨z,y,vs,r,ob,es,ep,e,c⟩:=x;exact⟨z,y,vs,r,ob,es,ep,k _ _ (.inl rfl) e,c⟩
 |dT kvs=>
  obtain⟨z,y,xs,r,ob,es,ep,e,c⟩:=x
  exact⟨z,y,xs,Paired.fc r λp q z=>⟨z.1,ht _ _ z.2.1,z.2.2⟩,ob,es,ep,k _ _ (.inl rfl) e,c⟩
 |set S n=>obtain⟨ob,es,ep,t,e,c⟩:=x;exact⟨ob,es,ep,t,k _ _ (.inl rfl) e,c⟩
 |ins C dx fs=>
  obtain⟨d,z,ne,e,mA,⟨od,es,ep,e2,c⟩,r⟩:=x
  exact⟨ho _ d,z,ne,k _ _ (.inl rfl) e,mA,⟨od,es,ep,k _ _ (.inr d) e2,c⟩,r⟩
 |own y=>obtain⟨ob,e⟩:=x;exact⟨ob,k _ _ (.inl rfl) e⟩
 |xd fs=>obtain⟨mA,⟨od,es,ep,e,c⟩,r⟩:=x;exact⟨mA,⟨od,es,ep,k _ _ (.inl rfl) e,c⟩,r⟩
 |rng lo hi=>obtain⟨t,u,v,e⟩:=x;exact⟨t,u,v,k _ _ (.inl rfl) e⟩
 |frz ob u ih=>obtain⟨e,q⟩:=x;exact⟨k _ _ (.inl rfl) e,ih q⟩
 |tbl ps=>
  have e:h.get? a=Gc {cls:=.none,data:=.fields ps}:=x
  show h'.get? a=Gc {cls:=.none,data:=.fields ps}
  exact k a _ (.inl rfl) e
 |met f y=>
  have e:h.get? a=Gc (rW (.ref f) (.ref y)):=x
  show h'.get? a=Gc (rW (.ref f) (.ref y))
  exact k a _ (.inl rfl) e
 |ext φ=>obtain⟨p,⟨o,e⟩,st⟩:=x;exact⟨st _ _ p λo q=>k _ _ (.inl rfl) q,⟨o,k _ _ (.inl rfl) e⟩,st⟩
theorem HOk.lt(x:HOk P w H h)(e:H a=Gc o):a<h.objs.size:=(x a o e).lt
theorem HOk.fresh(x:HOk P w H h)(e:h.objs.size<=a):H a=none:=by
 cases q:H a with
 |none=>rfl
 |some u=>exact absurd (kD (x.lt q) e) (mY _)
theorem HOk.kept(x:HOk P w H h)(k:∀b u,h.get? b=Gc u->h'.get? b=Gc u):HOk P w H h':=λa o e=>
 (x a o e).XJ (λb u _ q=>k b u q) (λ_ q=>q) λ_ _ q=>q
theorem HOk.laid(x:HOk P w H h)(k:∀b u,h.get? b=Gc u->h'.get? b=Gc u)(hp:h.objs.size<=a)(new:FV P w (upd H a o) h' a o):HOk P w (upd H a o) h':=λb u e=>by
 have hn:=x.fresh hp
 by_cases hb:b=a
 .subst hb;rw[As]at e;cases e;exact new
 .rw[AV hb]at e
  exact(x b u e).XJ (λc v _ q=>k c v q) (λc q=>by rw[AV (BK q hn)];exact q) λc xs q=>by rw[AV (BK q hn)];exact q
end
def Rd(H:Hp)(a:j9)(u:HO):Prop:=H a=Gc u\/∃o,H a=Gc (.frz o u)
theorem Rd.ok{P:ke}{w:lB}{H:Hp}{h:lD}{a:j9}{u:HO}(r:Rd H a u)(x:HOk P w H h):FV P w H h a u:=by
 rcases r with r|⟨o,r⟩
 .exact x a u r
 .obtain⟨_,q⟩:=x a _ r
  exact q
def Mut:j6 HO->Prop
 |some (.lst _)=>uU
 |some (.dK _)=>uU
 |some (.dT _)=>uU
 |some (.set _ _)=>uU
 |some (.ins _ _ _)=>uU
 |some (.ext _)=>uU
 |_=>ou
section
variable{P:ke}{w:lB}{H:Hp}{h h':lD}{x e:j9}{o':HO}
theorem HOk.write(ok:HOk P w H h)(mu:Mut (H x))(he:e=x\/H e=Gc (.own x))(k:∀b u,b≠e->h.get? b=Gc u->h'.get? b=Gc u)(heo:∃u,h'.get? e=Gc u)(new:FV P w (upd H x o') h' x o'):HOk P w (upd H x o') h':=λb u q=>by
 have nown:∀c y,H c=Gc (.own y)->c≠x:=λc y r z=>by subst z;rw[r]at mu;exact mu
 have ntup:∀c xs,H c=Gc (.tup xs)->c≠x:=λc xs r z=>by subst z;rw[r]at mu;exact mu
 by_cases hb:b=x
 .subst hb;rw[As]at q;cases q;exact new
 .rw[AV hb]at q
  by_cases hbe:b=e
  .have q':H b=Gc (.own x):=by
    rcases he with z|z
    .exact absurd (hbe.trans z) hb
    .rw[hbe];exact z
   rw[q]at q';cases q'
   obtain⟨v,hv⟩:=heo
   exact⟨v,by rw[hbe];exact hv⟩
  .refine(ok b u q).XJ (λc v hc r=>k c v ?_ r) (λc r=>by rw[AV (nown c b r)];exact r) λc xs r=>by rw[AV (ntup c xs r)];exact r
   rcases hc with rfl|hc
   .exact hbe
   .rintro rfl
    rcases he with z|z
    .exact nown c b hc z
    .rw[hc]at z;cases z;exact hb rfl
end
structure Un(fs ex:Wp j9)(H H':Hp)(h h':lD):Prop where
 keep:∀b o,h.get? b=Gc o->H b=none->b∉fs->b∉ex->h'.get? b=Gc o
 slot:∀b o,h.get? b=Gc o->H b=none->b∈fs->b∉ex->∃sl,h'.get? b=Gc {o with slots:=sl}
 free:∀b o,h.get? b=Gc o->H b=none->b∉ex->H' b=none
 there:∀b o,h.get? b=Gc o->b∉ex->∃o',h'.get? b=Gc o'
 XG:∀b xs,H b=Gc (.tup xs)->H' b=Gc (.tup xs)
 Ui:∀b o u,H b=Gc (.frz o u)->H' b=Gc (.frz o u)
 Wu:∀b ps,H b=Gc (.tbl ps)->∃more,H' b=Gc (.tbl (ps++more))
section
variable{fs fs' ex ex':Wp j9}{H H1 H2:Hp}{h h1 h2 h':lD}{a x e:j9}{o:HO}
theorem Un.any(u:Un fs ex H H1 h h1){b:j9}{ob:Obj}(q:h.get? b=Gc ob)(n:H b=none)(hx:b∉ex):∃sl,h1.get? b=Gc {ob with slots:=sl}:=by
 by_cases hb:b∈fs
 .exact u.slot b ob q n hb hx
 .exact⟨ob.slots,u.keep b ob q n hb hx⟩
theorem Un.kept(k:∀b u,h.get? b=Gc u->h'.get? b=Gc u):Un fs ex H H h h':=
 ⟨λb ob q _ _ _=>k b ob q,λb ob q _ _ _=>⟨ob.slots,k b ob q⟩,λ_ _ _ n _=>n,λb ob q _=>⟨ob,k b ob q⟩,λ_ _ q=>q,λ_ _ _ q=>q,λ_ ps q=>⟨#[],by rw[q];simp⟩⟩
theorem Un.refl:Un fs ex H H h h:=Un.kept λ_ _ q=>q
theorem Un.laid(k:∀b u,h.get? b=Gc u->h'.get? b=Gc u)(hp:h.objs.size<=a)(hn:H a=none):Un fs ex H (upd H a o) h h' where
 keep:=λb u q _ _ _=>k b u q
 slot:=λb u q _ _ _=>⟨u.slots,k b u q⟩
 free:=λb u q n _=>by rw[AV (kS (kD (kL q) hp))];exact n
 there:=λb u q _=>⟨u,k b u q⟩
 XG:=λb xs q=>by rw[AV (BK q hn)];exact q
 Ui:=λb u xs q=>by rw[AV (BK q hn)];exact q
 Wu:=λb ps q=>⟨#[],by rw[AV (BK q hn),q];simp⟩
theorem Un.write(mu:Mut (H x))(he:e=x\/H e=Gc (.own x))(k:∀b u,b≠e->h.get? b=Gc u->h'.get? b=Gc u)(heo:∃u,h'.get? e=Gc u):Un fs ex H (upd H x o) h h':=by
 have hx:∀b,H b=none->b≠x:=λb n z=>by subst z;rw[n]at mu;exact mu
 have hb:∀b,H b=none->b≠e:=λb n z=>by
  subst z
  rcases he with r|r
  .exact hx b n r
  .rw[n]at r;cases r
 have hm:∀b u,H b=Gc u->¬Mut (Gc u)->b≠x:=λb u q nm z=>by subst z;rw[q]at mu;exact nm mu
 refine⟨λb u q n _ _=>k b u (hb b n) q,λb u q n _ _=>⟨u.slots,k b u (hb b n) q⟩,λb u q n _=>by rw[AV (hx b n)];exact n,λb u q _=>?_,
  λb xs q=>by rw[AV (hm b _ q λz=>z)];exact q,λb u xs q=>by rw[AV (hm b _ q λz=>z)];exact q,λb ps q=>⟨#[],by rw[AV (hm b _ q λz=>z),q];simp⟩⟩
 by_cases hbe:b=e
 .subst hbe;exact heo
 .exact⟨u,k b u hbe q⟩
end
noncomputable def trk(h:lD)(H:Hp):Wp j9:=(kq h.objs.size).filter λa=>(H a).isSome
noncomputable def U7(h:lD)(H:Hp):lD:=PySem.W.hideAll h (trk h H)
theorem RC(h:lD)(H:Hp):(U7 h H).objs.size=h.objs.size:=PySem.W.hideAll_size _ _
theorem UC{h:lD}{H:Hp}{b:j9}{o:Obj}(e:h.get? b=Gc o)(n:H b=none):(U7 h H).get? b=Gc o:=
 PySem.W.hideAll_get _ e λhm=>by
  have q:(H b).isSome=true:=(nG.mp hm).2
  rw[n]at q;simp at q
theorem Yj{h:lD}{H:Hp}{b:j9}{o:Obj}(e:(U7 h H).get? b=Gc o):h.get? b=Gc o/\H b=none:=by
 have e':h.get? b=Gc o:=PySem.W.of_hideAll (trk h H) e
 refine⟨e',?_⟩
 cases q:H b with
 |none=>rfl
 |some x=>
  have hm:b∈trk h H:=nG.mpr ⟨pJ.mpr (kL e'),by simp[q]⟩
  have z:(U7 h H).get? b=none:=PySem.W.hideAll_none (trk h H) hm
  rw[z]at e;cases e
noncomputable def YI(g h:lD)(L:j9):Wp (j9×Obj):=(kq h.objs.size).filterMap λa=>if a=L\/(g.get? a).isSome=true then none else(h.get? a).map λo=>(a,o)
noncomputable def rest(g h:lD)(L d:j9):Wp (j9×Obj):=(YI g h L).filter λp=>decide (p.1≠d)
end L2
namespace L2
open PySem PySem.Spec PyProof.Rows
structure Mod(K:jz)(mg:Str->j6 j4)(base:lD):Prop where
 kin:K.In base
 glob:base.Ns mainGlobals mg
 blt:∃mb,base.Ns builtinsNs mb/\∀x:Str,x≠ "__name__"->mb x=bootBuiltins x
 nolimit:base.NoLimit
structure Cx where
 prog:ke
 w:lB
 K:jz
 mg:Str->j6 j4
 base:lD
 A:lF
 N:Wp Str
 s₀:j5
 H₀:Hp
 env:Env
 outer:Wp Env
 stack:Wp Env
 ex:Wp j9
 fn:Str->lA
 calm:lA
 pn:Wp (j9×Obj)
 xe:j4->j5->Prop
noncomputable def frs(l:Wp Env):Wp j9:=l.filterMap (·.frame)
abbrev Cx.fs(X:Cx):Wp j9:=frs X.outer
def Vis(sc:m9)(x:Str):Prop:=sc.names.lookup x=Gc .local\/sc.names.lookup x=Gc .cell\/sc.names.lookup x=Gc .free
def Loc(sc:m9)(x:Str):Prop:=sc.names.lookup x=Gc .local\/sc.names.lookup x=Gc .cell
def Look(env:Env)(h:lD)(m:Str->j6 j4)(x:Str)(u:j4):Prop:=
 (env.kindOf x=Gc .local/\m x=Gc u)\/((env.kindOf x=Gc .cell\/env.kindOf x=Gc .free)/\∃c,env.cells.lookup x=Gc c/\h.IsCell c (Gc u))
structure Cx.Ok(X:Cx):Prop where
 mod:Mod X.K X.mg X.base
 kind:X.env.scope.kind=.function
 glob:X.env.globals=mainGlobals
 blt:X.env.builtins=builtinsNs
 above:X.s₀.heap.objs.size<=X.env.locals
 inj:∀x y c,X.env.cells.lookup x=Gc c->X.env.cells.lookup y=Gc c->x=y
 has:∀x,(X.env.kindOf x=Gc .cell\/X.env.kindOf x=Gc .free)->∃c,X.env.cells.lookup x=Gc c
 cab:∀x c,X.fn x=true->X.env.cells.lookup x=Gc c->X.s₀.heap.objs.size<=c
 hd:X.calm=true->X.A.handled=none
 frames:X.A.frames=Gc X.stack
 stk:X.stack=X.outer\/(X.stack=X.env::X.outer/\X.env.frame=Gc X.env.locals)
 exf:∀b∈X.ex,b≠X.env.locals/\∀x c,X.env.cells.lookup x=Gc c->c≠b
 bs:∀b o,X.base.get? b=Gc o->X.s₀.heap.get? b=Gc o/\X.H₀ b=none
 bsz:X.base.objs.size<=X.s₀.heap.objs.size
 X8:∀b o,X.base.get? b=Gc o->b∉X.ex
 Yt:∀b∈X.ex,b∉X.fs
 SI:X.s₀.heap.FunFrames X.base X.outer
 frf:∀b∈X.fs,X.H₀ b=none
structure Inv(X:Cx)(pins:Wp (j9×Obj))(σ:Wp (j6 V))(H:Hp)(s:j5):Prop where
 ok:X.Ok
 os:s.os=X.s₀.os
 bare:rX s.gens
 base:Un X.fs X.ex X.H₀ H X.s₀.heap s.heap
 loc:∃m,s.heap.Ns X.env.locals m/\∀(i:Nat) (x:Str) (v:V),X.N[i]?=Gc x->σ[i]?=Gc (Gc v)->Vis X.env.scope x->∃u,RelV v u/\Look X.env s.heap m x u
 cell:∀x c,X.env.cells.lookup x=Gc c->∃v,s.heap.IsCell c v
 free:H X.env.locals=none
 LK:∀x c,X.env.cells.lookup x=Gc c->H c=none
 pin:∀p∈X.pn++pins,s.heap.get? p.1=Gc p.2/\H p.1=none/\p.1≠X.env.locals/\p.1∉X.fs/\∀v,p.2.data≠.cell v
 hok:HOk X.prog X.w H s.heap
 len:σ.length=X.N.length
section
variable{X:Cx}{pins:Wp (j9×Obj)}{σ:Wp (j6 V)}{H H':Hp}{s:j5}{h':lD}
theorem Cx.Ok.jI(ok:X.Ok){b:j9}{o:Obj}(e:X.base.get? b=Gc o):b∉X.fs:=λhb=>by
 have:=(ok.SI.mem hb).1
 rw[e]at this;cases this
theorem Inv.bs(I:Inv X pins σ H s):∀b o,X.base.get? b=Gc o->s.heap.get? b=Gc o/\H b=none:=λb o e=>
 ⟨I.base.keep b o (I.ok.bs b o e).1 (I.ok.bs b o e).2 (I.ok.jI e) (I.ok.X8 b o e),I.base.free b o (I.ok.bs b o e).1 (I.ok.bs b o e).2 (I.ok.X8 b o e)⟩
theorem Inv.bk(I:Inv X pins σ H s):∀b o,X.base.get? b=Gc o->s.heap.get? b=Gc o:=λb o e=>(I.bs b o e).1
theorem Inv.mod(I:Inv X pins σ H s):Mod X.K X.mg X.base:=I.ok.mod
theorem Inv.kIn(I:Inv X pins σ H s):X.K.In s.heap:=I.ok.mod.kin.keeps I.bk
theorem Inv.lt(I:Inv X pins σ H s):X.env.locals<s.heap.objs.size:=let⟨_,hn,_⟩:=I.loc;hn.lt
theorem Inv.sz(I:Inv X pins σ H s):X.s₀.heap.objs.size<=s.heap.objs.size:=kF I.ok.above (mN I.lt)
theorem Inv.jV(I:Inv X pins σ H s){a:j9}(h:s.heap.objs.size<=a):a∉X.fs:=λhb=>by
 obtain⟨_,o,ho,_⟩:=I.ok.SI.mem hb
 exact absurd (kD (kL ho) (kF I.sz h)) (mY _)
theorem Inv.cne(I:Inv X pins σ H s):∀x c,X.env.cells.lookup x=Gc c->c≠X.env.locals:=λx c e z=>by
 obtain⟨v,o,ho,hd⟩:=I.cell x c e
 obtain⟨m,⟨o',es,ep,ho',hd',_⟩,_⟩:=I.loc
 rw[z,ho']at ho;cases ho;rw[hd']at hd;cases hd
theorem Inv.SI(I:Inv X pins σ H s):s.heap.FunFrames X.base X.outer:=by
 have all:∀(l:Wp Env),(∀b∈frs l,b∈X.fs)->X.s₀.heap.FunFrames X.base l->s.heap.FunFrames X.base l:=by
  intro l
  induction l with
  |nil=>intro _ _;trivial
  |cons env r ih=>
   intro hs hl
   obtain⟨hk,⟨L,o,hf,hn,ho,hd⟩,hr⟩:=hl
   have hL:L∈X.fs:=hs L (by unfold frs;rw[ki,hf];exact kJ)
   obtain⟨sl,e⟩:=I.base.slot L o ho (I.ok.frf L hL) hL λz=>I.ok.Yt L z hL
   exact⟨hk,⟨L,_,hf,hn,e,hd⟩,ih (λb hb=>hs b (by unfold frs;rw[ki,hf];exact kC _ hb)) hr⟩
 exact all X.outer (λ_ hb=>hb) I.ok.SI
theorem Inv.stack(I:Inv X pins σ H s):s.heap.FunFrames X.base X.stack:=by
 rcases I.ok.stk with e|⟨e,hf⟩
 .rw[e];exact I.SI
 .rw[e]
  obtain⟨m,hn,_⟩:=I.loc
  refine .cons (by rw[I.ok.kind];decide) hf hn ?_ I.SI
  exact Heap.get?_none_of_le (kF I.ok.bsz I.ok.above)
theorem Inv.Rq(I:Inv X pins σ H s):∀b∈frs X.stack,b∈X.env.locals::X.fs:=λb hb=>by
 rcases I.ok.stk with e|⟨e,hf⟩
 .rw[e]at hb;exact kC _ hb
 .rw[e]at hb
  unfold frs at hb
  rw[ki,hf]at hb
  exact hb
theorem Inv.Q0(I:Inv X pins σ H s):∀b∈frs X.stack,H b=none:=λb hb=>by
 rcases kG.mp (I.Rq b hb)with e|hb
 .rw[e];exact I.free
 .obtain⟨_,o,ho,_⟩:=I.ok.SI.mem hb
  exact I.base.free b o ho (I.ok.frf b hb) λz=>I.ok.Yt b z hb
theorem Inv.step{g':kj wo}{t':Nat}{d':zu}{ch:Wp j9}(I:Inv X pins σ H s)(hch:∀b∈ch,(b∈X.ex\/X.s₀.heap.objs.size<=b)/\b≠X.env.locals/\(∀x c,X.env.cells.lookup x=Gc c->c≠b)/\∀p∈X.pn++pins,p.1≠b)(keep:∀b o,b≠X.env.locals->b∉X.fs->b∉ch->s.heap.get? b=Gc o->H b=none->h'.get? b=Gc o)(slot:∀b o,b≠X.env.locals->b∈X.fs->b∉ch->s.heap.get? b=Gc o->H b=none->∃sl,h'.get? b=Gc {o with slots:=sl})(free:∀b o,b∉ch->s.heap.get? b=Gc o->H b=none->H' b=none)(there:∀b o,b∉ch->s.heap.get? b=Gc o->∃o',h'.get? b=Gc o')(XG:∀b xs,H b=Gc (.tup xs)->H' b=Gc (.tup xs))(Ui:∀b o u,H b=Gc (.frz o u)->H' b=Gc (.frz o u))(Wu:∀b ps,H b=Gc (.tbl ps)->∃more,H' b=Gc (.tbl (ps++more)))(ns:∀m,s.heap.Ns X.env.locals m->h'.Ns X.env.locals m)(hok:HOk X.prog X.w H' h')(hg:rX g'):Inv X pins σ H' {s with heap:=h',gens:=g',drawn:=d',toks:=t'}:=by
 have neL:∀b o,X.s₀.heap.get? b=Gc o->b≠X.env.locals:=λb o e=>kS (kD (kL e) I.ok.above)
 have neC:∀b o,X.s₀.heap.get? b=Gc o->b∉X.ex->b∉ch:=λb o e hx hb=>by
  rcases(hch b hb).1 with z|z
  .exact hx z
  .exact absurd (kD (kL e) z) (mY _)
 have cellK:∀x c,X.env.cells.lookup x=Gc c->∀v,s.heap.IsCell c v->h'.IsCell c v:=λx c e v ⟨o,ho,hd⟩=>by
  have nch:c∉ch:=λz=>(hch c z).2.2.1 x c e rfl
  by_cases hc:c∈X.fs
  .obtain⟨sl,q⟩:=slot c o (I.cne x c e) hc nch ho (I.LK x c e)
   exact⟨_,q,hd⟩
  .exact⟨o,keep c o (I.cne x c e) hc nch ho (I.LK x c e),hd⟩
 refine⟨I.ok,I.os,hg,⟨λb o e n hb hx=>?_,λb o e n hb hx=>?_,λb o e n hx=>?_,λb o e hx=>?_,λb xs e=>XG b xs (I.base.XG b xs e),λb o xs e=>Ui b o xs (I.base.Ui b o xs e),λb ps e=>?_⟩,?_,λx c e=>?_,?_,λx c e=>?_,λp hp=>?_,hok,I.len⟩
 .exact keep b o (neL b o e) hb (neC b o e hx) (I.base.keep b o e n hb hx) (I.base.free b o e n hx)
 .obtain⟨sl,e1⟩:=I.base.slot b o e n hb hx
  obtain⟨sl',e2⟩:=slot b _ (neL b o e) hb (neC b o e hx) e1 (I.base.free b o e n hx)
  exact⟨sl',e2⟩
 .obtain⟨o',e1⟩:=I.base.there b o e hx
  exact free b o' (neC b o e hx) e1 (I.base.free b o e n hx)
 .obtain⟨o',e1⟩:=I.base.there b o e hx
  exact there b o' (neC b o e hx) e1
 .obtain⟨m1,e1⟩:=I.base.Wu b ps e
  obtain⟨m2,e2⟩:=Wu b _ e1
  exact⟨m1++m2,by rw[e2,Array.append_assoc]⟩
 .obtain⟨m,hn,hl⟩:=I.loc
  refine⟨m,ns m hn,λi x v e1 e2 e3=>?_⟩
  obtain⟨u,r,l⟩:=hl i x v e1 e2 e3
  refine⟨u,r,?_⟩
  rcases l with l|⟨k,c,e,z⟩
  .exact .inl l
  .exact .inr ⟨k,c,e,cellK x c e _ z⟩
 .obtain⟨v,z⟩:=I.cell x c e
  exact⟨v,cellK x c e v z⟩
 .obtain⟨m,⟨o,_,_,ho,_⟩,_⟩:=I.loc
  exact free _ o (λz=>(hch _ z).2.1 rfl) ho I.free
 .obtain⟨v,o,ho,hd⟩:=I.cell x c e
  exact free c o (λz=>(hch c z).2.2.1 x c e rfl) ho (I.LK x c e)
 .obtain⟨e,n,ne,nf,d⟩:=I.pin p hp
  have nch:p.1∉ch:=λz=>(hch p.1 z).2.2.2 p hp rfl
  exact⟨keep p.1 p.2 ne nf nch e n,free p.1 p.2 nch e n,ne,nf,d⟩
theorem Inv.un{t':Nat}(I:Inv X pins σ H s)(u:Un X.fs [] H H' s.heap h')(hok:HOk X.prog X.w H' h'):Inv X pins σ H' {s with heap:=h',toks:=t'}:=by
 obtain⟨m,⟨o,es,ep,ho,r⟩,_⟩:=id I.loc
 obtain⟨sl,hL⟩:=u.any ho I.free (by simp)
 exact I.step (g':=s.gens) (d':=s.drawn) (ch:=[]) (λ_ z=>nomatch z) (λb o _ hb _ e n=>u.keep b o e n hb (by simp)) (λb o _ hb _ e n=>u.slot b o e n hb (by simp)) (λb o _ e n=>u.free b o e n (by simp)) (λb o _ e=>u.there b o e (by simp)) u.XG u.Ui u.Wu (λm' hm=>by
  obtain⟨o',es',ep',ho',r'⟩:=hm
  rw[ho]at ho';cases ho'
  exact⟨_,es',ep',hL,r'⟩) hok I.bare
theorem Inv.call{g':kj wo}{t':Nat}{d':zu}{ch:Wp j9}(I:Inv X pins σ H s)(u:Un (frs X.stack) ch H H' s.heap h')(hok:HOk X.prog X.w H' h')(hg:rX g')(hch:∀b∈ch,(b∈X.ex\/X.s₀.heap.objs.size<=b)/\b≠X.env.locals/\(∀x c,X.env.cells.lookup x=Gc c->c≠b)/\∀p∈X.pn++pins,p.1≠b):Inv X pins σ H' {s with heap:=h',gens:=g',drawn:=d',toks:=t'}:=by
 obtain⟨m,⟨o,es,ep,ho,r⟩,_⟩:=id I.loc
 obtain⟨sl,hL⟩:=u.any ho I.free λz=>(hch _ z).2.1 rfl
 exact I.step (ch:=ch) hch (λb o hL hb hc e n=>u.keep b o e n (λz=>(kG.mp (I.Rq b z)).elim hL hb) hc) (λb o _ _ hc e n=>u.any e n hc) (λb o hc e n=>u.free b o e n hc) (λb o hc e=>u.there b o e hc) u.XG u.Ui u.Wu (λm' hm=>by
  obtain⟨o',es',ep',ho',r'⟩:=hm
  rw[ho]at ho';cases ho'
  exact⟨_,es',ep',hL,r'⟩) hok hg
theorem Inv.turned{t':Nat}{it:j9}(I:Inv X pins σ H s)(k:∀b o,b≠it->s.heap.get? b=Gc o->h'.get? b=Gc o)(hn:H it=none)(hL:it≠X.env.locals)(h1:it∈X.ex\/X.s₀.heap.objs.size<=it)(h2:∀x c,X.env.cells.lookup x=Gc c->c≠it)(h3:∀p∈X.pn++pins,p.1≠it):Inv X pins σ H {s with heap:=h',toks:=t'}:=by
 have nit:∀b u,H b=Gc u->b≠it:=λb u e z=>by rw[z,hn]at e;cases e
 refine I.step (g':=s.gens) (d':=s.drawn) (ch:=[it]) (λb hb=>?_) (λb o _ _ hc e _=>k b o (λz=>hc (by simp[z])) e) (λb o _ _ hc e _=>⟨o.slots,k b o (λz=>hc (by simp[z])) e⟩) (λ_ _ _ _ n=>n)
  (λb o hc e=>⟨o,k b o (λz=>hc (by simp[z])) e⟩) (λ_ _ e=>e) (λ_ _ _ e=>e) (λb ps e=>⟨#[],by rw[e];simp⟩) (λm hm=>?_) (λb u e=>?_) I.bare
 .have e:b=it:=by simpa using hb
  subst e
  exact⟨h1,hL,h2,h3⟩
 .obtain⟨o,es,ep,ho,r⟩:=hm
  exact⟨o,es,ep,k _ o (l8 hL) ho,r⟩
 .refine(I.hok b u e).XJ (λc v hc q=>k c v ?_ q) (λ_ q=>q) λ_ _ q=>q
  rcases hc with z|z
  .rw[z];exact nit b u e
  .exact nit c _ z
theorem Inv.tok(I:Inv X pins σ H s)(t:Nat):Inv X pins σ H {s with toks:=t}:=I.un (h':=s.heap) (t':=t) Un.refl I.hok
theorem Inv.kept{t':Nat}(I:Inv X pins σ H s)(k:∀b u,s.heap.get? b=Gc u->h'.get? b=Gc u):Inv X pins σ H {s with heap:=h',toks:=t'}:=I.un (Un.kept k) (I.hok.kept k)
theorem Inv.laid{a:j9}{o:HO}{t':Nat}(I:Inv X pins σ H s)(k:∀b u,s.heap.get? b=Gc u->h'.get? b=Gc u)(hp:s.heap.objs.size<=a)(new:FV X.prog X.w (upd H a o) h' a o):Inv X pins σ (upd H a o) {s with heap:=h',toks:=t'}:=I.un (Un.laid k hp (I.hok.fresh hp)) (I.hok.laid k hp new)
theorem Inv.write{x e:j9}{o:HO}{t':Nat}(I:Inv X pins σ H s)(mu:Mut (H x))(he:e=x\/H e=Gc (.own x))(k:∀b u,b≠e->s.heap.get? b=Gc u->h'.get? b=Gc u)(heo:∃u,h'.get? e=Gc u)(new:FV X.prog X.w (upd H x o) h' x o):Inv X pins σ (upd H x o) {s with heap:=h',toks:=t'}:=I.un (Un.write mu he k heo) (I.hok.write mu he k heo new)
theorem Inv.Qg{pins':Wp (j9×Obj)}(I:Inv X pins σ H s)(h:∀p∈pins',s.heap.get? p.1=Gc p.2/\H p.1=none/\p.1≠X.env.locals/\p.1∉X.fs/\∀v,p.2.data≠.cell v):Inv X pins' σ H s:=
 ⟨I.ok,I.os,I.bare,I.base,I.loc,I.cell,I.free,I.LK,λp hp=>(kY.mp hp).elim (λz=>I.pin p (qm _ z)) (h p),I.hok,I.len⟩
theorem O8{N:Wp Str}(hN:N.Nodup){i j:Nat}{x:Str}(a:N[i]?=Gc x)(b:N[j]?=Gc x):i=j:=by
 obtain⟨h1,e1⟩:=kK.mp a
 obtain⟨h2,e2⟩:=kK.mp b
 exact(oR hN).mp (e1.trans e2.symm)
theorem N7{M:yP}{A:lF}{E:j4->j5->Prop}{i:Nat}{x:Str}{v:V}{u:j4}{Q:Unit->j5->Prop}(I:Inv X pins σ H s)(hN:X.N.Nodup)(hi:X.N[i]?=Gc x)(hx:Loc X.env.scope x)(r:RelV v u)(h:∀s',Inv X pins (σ.set i (Gc v)) H s'->(∃a,nN a s.heap s'.heap/\(a=X.env.locals\/X.env.cells.lookup x=Gc a))->Q () s')(hf:X.fn x=true\/X.env.scope.names.lookup x=Gc .local:=by first|exact .inl rfl|exact .inr rfl|assumption):wpAny M A (storeName X.env x u) Q E s:=by
 obtain⟨m,hn,hl⟩:=id I.loc
 have hcls:(X.env.scope.kind== .class||(X.env.scope.kind== .module && X.env.locals !=X.env.globals))=false:=by rw[I.ok.kind];rfl
 have hiσ:i<σ.length:=by rw[I.len];exact(kK.mp hi).1
 have cne:=I.cne
 have tracked:∀{a:j9} {h':lD},(∃o,s.heap.get? a=Gc o/\H a=none)->nN a s.heap h'->HOk X.prog X.w H h':=λ{a h'} ha hs b ob e=>by
  obtain⟨_,_,hfree⟩:=ha
  refine(I.hok b ob e).XJ (λc w' hc q=>(hs.2 c ?_).trans q) (λ_ q=>q) λ_ _ q=>q
  rintro rfl
  rcases hc with rfl|hc
  .rw[hfree]at e;cases e
  .rw[hfree]at hc;cases hc
 rcases hx with hk|hk
 .refine wpAny_storeName_local hk hn (λh' hn' hs=>?_) hcls
  obtain⟨oL,_,_,hoL,_⟩:=id hn
  refine h _ ⟨I.ok,I.os,I.bare,⟨λb o e n hb hx=>?_,λb o e n hb hx=>?_,I.base.free,λb o e hx=>?_,I.base.XG,I.base.Ui,I.base.Wu⟩,⟨_,hn',λj y v' e1 e2 e3=>?_⟩,λy c e=>?_,I.free,I.LK,λp hp=>?_,tracked ⟨oL,hoL,I.free⟩ hs,by simpa using I.len⟩ ⟨_,hs,.inl rfl⟩
  .exact(hs.2 b (kS (kD (kL e) I.ok.above))).trans (I.base.keep b o e n hb hx)
  .obtain⟨sl,e1⟩:=I.base.slot b o e n hb hx
   exact⟨sl,(hs.2 b (kS (kD (kL e) I.ok.above))).trans e1⟩
  .obtain⟨o',e1⟩:=I.base.there b o e hx
   exact⟨o',(hs.2 b (kS (kD (kL e) I.ok.above))).trans e1⟩
  .by_cases hj:j=i
   .subst hj
    rw[hi]at e1;cases e1
    rw[kN hiσ]at e2
    cases e2
    exact⟨u,r,.inl ⟨hk,by simp⟩⟩
   .rw[kB (l8 hj)]at e2
    obtain⟨u',r',q⟩:=hl j y v' e1 e2 e3
    refine⟨u',r',?_⟩
    rcases q with⟨k,e⟩|⟨k,c,e,z⟩
    .refine .inl ⟨k,?_⟩
     have:y≠x:=λe=>hj (O8 hN e1 (e▸hi))
     simp[this,e]
    .exact .inr ⟨k,c,e,z.sameBut hs (cne y c e)⟩
  .obtain⟨w',z⟩:=I.cell y c e
   exact⟨w',z.sameBut hs (cne y c e)⟩
  .obtain⟨e,n,ne,nf,d⟩:=I.pin p hp
   exact⟨(hs.2 p.1 ne).trans e,n,ne,nf,d⟩
 .have hfn:X.fn x=true:=by
   rcases hf with z|z
   .exact z
   .rw[z]at hk;cases hk
  obtain⟨c,hc⟩:=I.ok.has x (.inl hk)
  obtain⟨w',z⟩:=I.cell x c hc
  refine wpAny_storeName_cell I.ok.kind hk hc z (λh' hc' hs=>?_)
  obtain⟨oc,hoc,hocd⟩:=id z
  refine h {s with heap:=h'} ⟨I.ok,I.os,I.bare,⟨λb o e n hb hx=>?_,λb o e n hb hx=>?_,I.base.free,λb o e hx=>?_,I.base.XG,I.base.Ui,I.base.Wu⟩,⟨m,hn.sameBut hs (l8 (cne x c hc)),λj y v' e1 e2 e3=>?_⟩,λy c' e=>?_,I.free,I.LK,λp hp=>?_,tracked ⟨oc,hoc,I.LK x c hc⟩ hs,by simpa using I.len⟩ ⟨c,hs,.inr hc⟩
  .exact(hs.2 b (kS (kD (kL e) (I.ok.cab x c hfn hc)))).trans (I.base.keep b o e n hb hx)
  .obtain⟨sl,e1⟩:=I.base.slot b o e n hb hx
   exact⟨sl,(hs.2 b (kS (kD (kL e) (I.ok.cab x c hfn hc)))).trans e1⟩
  .obtain⟨o',e1⟩:=I.base.there b o e hx
   exact⟨o',(hs.2 b (kS (kD (kL e) (I.ok.cab x c hfn hc)))).trans e1⟩
  .by_cases hj:j=i
   .subst hj
    rw[hi]at e1;cases e1
    rw[kN hiσ]at e2
    cases e2
    exact⟨u,r,.inr ⟨.inl hk,c,hc,hc'⟩⟩
   .rw[kB (l8 hj)]at e2
    obtain⟨u',r',q⟩:=hl j y v' e1 e2 e3
    refine⟨u',r',?_⟩
    rcases q with q|⟨k,c',e,z'⟩
    .exact .inl q
    .refine .inr ⟨k,c',e,z'.sameBut hs ?_⟩
     rintro rfl
     exact hj (O8 hN e1 (I.ok.inj _ _ _ e hc▸hi))
  .by_cases hcc:c'=c
   .subst hcc;exact⟨_,hc'⟩
   .obtain⟨w2,z2⟩:=I.cell y c' e
    exact⟨w2,z2.sameBut hs hcc⟩
  .obtain⟨e,n,ne,nf,d⟩:=I.pin p hp
   refine⟨(hs.2 p.1 ?_).trans e,n,ne,nf,d⟩
   intro q
   rw[q,hoc]at e
   have q':oc=p.2:=lR e
   exact d w' (by rw[<-q'];exact hocd)
theorem Jn{M:yP}{A:lF}{E:j4->j5->Prop}{i:Nat}{x:Str}{v:V}{u:j4}{Q:Unit->j5->Prop}(I:Inv X pins σ H s)(hN:X.N.Nodup)(hi:X.N[i]?=Gc x)(hx:Loc X.env.scope x)(r:RelV v u)(h:∀s',Inv X pins (σ.set i (Gc v)) H s'->Q () s')(hf:X.fn x=true\/X.env.scope.names.lookup x=Gc .local:=by first|exact .inl rfl|exact .inr rfl|assumption):wpAny M A (storeName X.env x u) Q E s:=
 N7 I hN hi hx r (λs' I' _=>h s' I') hf
theorem Inv.bH{s':j5}{ch:Wp j9}(I:Inv X pins σ H s)(ho:s'.os=s.os)(u:Un (frs X.stack) ch H H' s.heap s'.heap)(hok:HOk X.prog X.w H' s'.heap)(hg:rX s'.gens)(hch:∀b∈ch,(b∈X.ex\/X.s₀.heap.objs.size<=b)/\b≠X.env.locals/\(∀x c,X.env.cells.lookup x=Gc c->c≠b)/\∀p∈X.pn++pins,p.1≠b):Inv X pins σ H' s':=by
 obtain⟨h',g',d',t',o'⟩:=s'
 have e:o'=s.os:=ho
 subst e
 exact I.call (g':=g') (t':=t') (d':=d') u hok hg hch
end
abbrev XK:=j4->j6 j9->Hp->Prop
abbrev St:=Wp (j6 V)
abbrev VK:=V->Hp->Prop
abbrev TE:=St->Hp->VK->Prop
abbrev TT:=St->Hp->(lA->Hp->Prop)->Prop
abbrev TA:=St->Hp->(Wp V->Hp->Prop)->Prop
structure Ends where
 nx:St->Hp->Prop
 rt:VK
 bk:St->Hp->Prop:=λ_ _=>ou
 ct:St->Hp->Prop:=λ_ _=>ou
abbrev TS:=Ends->St->Hp->Prop
def EP(X:Cx)(pins:Wp (j9×Obj))(σ:St)(Q:VK)(u:j4)(s':j5):Prop:=∃v H',Inv X pins σ H' s'/\RelV v u/\Q v H'
def TP(X:Cx)(pins:Wp (j9×Obj))(σ:St)(Q:lA->Hp->Prop)(b:lA)(s':j5):Prop:=∃H',Inv X pins σ H' s'/\Q b H'
def AP(X:Cx)(pins:Wp (j9×Obj))(σ:St)(Q:Wp V->Hp->Prop)(us:Wp j4)(s':j5):Prop:=∃vs H',Inv X pins σ H' s'/\Vals vs us/\Q vs H'
def SP(X:Cx)(pins:Wp (j9×Obj))(D:Ends)(f:Flow)(s':j5):Prop:=
 match f with
 | .next=>∃σ' H',Inv X pins σ' H' s'/\D.nx σ' H'
 | .brk=>∃σ' H',Inv X pins σ' H' s'/\D.bk σ' H'
 | .cont=>∃σ' H',Inv X pins σ' H' s'/\D.ct σ' H'
 | .ret u=>∃v σ' H',Inv X pins σ' H' s'/\RelV v u/\D.rt v H'
def PE(X:Cx)(e:ky)(t:TE):Prop:=
 ∀(pins:Wp (j9×Obj)) (s:j5) (σ:St) (H:Hp) (Q:VK),Inv X pins σ H s->t σ H Q->wpAny (model X.prog X.w) X.A (eval e X.env) (EP X pins σ Q) X.xe s
def PT(X:Cx)(e:ky)(t:TT):Prop:=
 ∀(pins:Wp (j9×Obj)) (s:j5) (σ:St) (H:Hp) (Q:lA->Hp->Prop),Inv X pins σ H s->t σ H Q->wpAny (model X.prog X.w) X.A (isTrue e X.env (eval e X.env)) (TP X pins σ Q) X.xe s
def PW(X:Cx)(e:ky)(t:TT):Prop:=
 ∀(whole:Sem j4) (pins:Wp (j9×Obj)) (s:j5) (σ:St) (H:Hp) (Q:lA->Hp->Prop),Inv X pins σ H s->t σ H Q->wpAny (model X.prog X.w) X.A (isTrue e X.env whole) (TP X pins σ Q) X.xe s
theorem PW.pt{X:Cx}{e:ky}{t:TT}(h:PW X e t):PT X e t:=h _
def PA(X:Cx)(es:Wp ky)(t:TA):Prop:=
 ∀(pos:Pos) (pins:Wp (j9×Obj)) (s:j5) (σ:St) (H:Hp) (Q:Wp V->Hp->Prop),Inv X pins σ H s->t σ H Q->wpAny (model X.prog X.w) X.A (spliced (backTo pos (kc es X.env))) (AP X pins σ Q) X.xe s
def PS(X:Cx)(st:lY)(t:TS):Prop:=
 ∀(pins:Wp (j9×Obj)) (s:j5) (σ:St) (H:Hp) (D:Ends),Inv X pins σ H s->t D σ H->wpAny (model X.prog X.w) X.A (exec st X.env) (SP X pins D) X.xe s
def PSs(X:Cx)(st:Wp lY)(t:TS):Prop:=
 ∀(pins:Wp (j9×Obj)) (s:j5) (σ:St) (H:Hp) (D:Ends),Inv X pins σ H s->t D σ H->wpAny (model X.prog X.w) X.A (execs st X.env) (SP X pins D) X.xe s
theorem thn{α:Type}{t:Sem α}{Q Q':α->j5->Prop}{M:yP}{A:lF}{E:j4->j5->Prop}{s:j5}(h:wpAny M A t Q E s)(hQ:∀a s,Q a s->Q' a s):wpAny M A t Q' E s:=qd h hQ λ_ _ x=>x
end L2
namespace L2
open PySem PySem.Spec PyProof.Rows
section
variable{X:Cx}
noncomputable def gd(i:Nat):TE:=λσ H Q=>∃v,σ[i]?=Gc (Gc v)/\Q v H
noncomputable def tC(v:V):TE:=λ_ H Q=>Q v H
theorem XM{i:Nat}{x:Str}{pos:Pos}(hN:X.N[i]?=Gc x)(hv:Vis X.env.scope x)(hd:(x==("__debug__":Str))=false:=by decide)(hcd:(x==("__classdict__":Str))=false:=by decide):PE X (.Name x pos) (gd i):=by
 intro pins s σ H Q I h
 obtain⟨v,e,h⟩:=h
 obtain⟨m,hn,hl⟩:=I.loc
 obtain⟨u,r,l⟩:=hl i x v hN e hv
 have fin:EP X pins σ Q u s:=⟨v,H,I,r,h⟩
 rcases l with⟨hk,hm⟩|⟨hk,c,hc,hcell⟩
 .exact wq (wpAny_loadName_local I.ok.kind hk hn hm fin) hd
 .rcases hk with hk|hk
  .exact wq (wpAny_loadName_cell I.ok.kind hk hc hcell fin) hd
  .exact wq (wpAny_loadName_free I.ok.kind hk hc hcell fin hcd) hd
theorem bX{i j pos}:PE X (.Constant (.int i) j pos) (tC (.int i)):=λ_ _ _ H _ I h=>wpAny_Constant_int ⟨.int i,H,I.tok _,⟨_,rfl⟩,h⟩
theorem fE{b j pos}:PE X (.Constant (.bool b) j pos) (tC (.bl b)):=λ_ _ _ H _ I h=>Constant_bool ⟨.bl b,H,I,rfl,h⟩
theorem Ze{j pos}:PE X (.Constant .none j pos) (tC .non):=λ_ _ _ H _ I h=>Constant_none ⟨.non,H,I,rfl,h⟩
theorem ag{x j pos}:PE X (.Constant (.str x) j pos) (tC (.str x)):=λ_ _ _ H _ I h=>Calls.Constant_str ⟨.str x,H,I.tok _,⟨_,rfl⟩,h⟩
def Gl(X:Cx)(x:Str):Prop:=X.env.kindOf x=Gc .globalImplicit
theorem Xg{E:j4->j5->Prop}{pins:Wp (j9×Obj)}{s:j5}{σ:St}{H:Hp}{x:Str}{u:j4}{pos:Pos}{Q:j4->j5->Prop}(I:Inv X pins σ H s)(hg:Gl X x)(hm:X.mg x=Gc u)(h:Q u s)(hd:(x==("__debug__":Str))=false:=by decide):wpAny (model X.prog X.w) X.A (eval (.Name x pos) X.env) Q E s:=
 rE I.ok.kind hg (Calls.loadGlobal_global (by rw[I.ok.glob];exact I.mod.glob.keeps I.bk) hm h) hd
theorem JI{E:j4->j5->Prop}{pins:Wp (j9×Obj)}{s:j5}{σ:St}{H:Hp}{x:Str}{u:j4}{pos:Pos}{Q:j4->j5->Prop}(I:Inv X pins σ H s)(hg:Gl X x)(hm:X.mg x=none)(hv:bootBuiltins x=Gc u)(h:Q u s)(hn:x≠ "__name__":=by decide)(hd:(x==("__debug__":Str))=false:=by decide):wpAny (model X.prog X.w) X.A (eval (.Name x pos) X.env) Q E s:=by
 obtain⟨mb,h1,h2⟩:=I.mod.blt
 exact rE I.ok.kind hg (Calls.loadGlobal_builtin (by rw[I.ok.glob];exact I.mod.glob.keeps I.bk) hm (by rw[I.ok.blt];exact h1.keeps I.bk) ((h2 x hn).trans hv) h) hd
variable{a b:ky}{ta tb:TE}{pos:Pos}
noncomputable def tB(t:TE):TT:=λσ H Q=>t σ H λx H1=>∃c,x=.bl c/\Q c H1
theorem ab{e:ky}{t:TE}(h:PE X e t)(he:∀whole,isTrue e X.env whole=(do let v<-whole;standAt e.pos;holding [v] (truthy v)):=by intro _;rfl):PT X e (tB t):=by
 intro pins s σ H Q I hw
 refine isTrue_plain (thn (h pins s σ H _ I hw) λv s1 ⟨x,H1,I1,r1,q1⟩=>?_) (he _)
 obtain⟨d,rfl,q⟩:=q1
 cases r1
 exact rY ⟨H1,I1,q⟩
variable{tA tB':TT}{rest:Wp ky}
noncomputable def jb(t u:TT):TT:=λσ H Q=>t σ H λc H1=>if c=true then u σ H1 Q else Q false H1
noncomputable def tOr(t u:TT):TT:=λσ H Q=>t σ H λc H1=>if c=true then Q true H1 else u σ H1 Q
noncomputable def iS(t:TT):TT:=λσ H Q=>t σ H λc H1=>Q (!c) H1
theorem X1(ha:PT X a tA):PW X (.BoolOp .And [a] pos) tA:=by
 intro wh pins s σ H Q I h
 refine isTrue_and (thn (ha pins s σ H Q I h) λc s1 e=>?_)
 cases c with
 |true=>exact isTrue_and_nil e
 |false=>exact e
theorem az(ha:PT X a tA):PW X (.BoolOp .Or [a] pos) tA:=by
 intro wh pins s σ H Q I h
 refine isTrue_or (thn (ha pins s σ H Q I h) λc s1 e=>?_)
 cases c with
 |false=>exact isTrue_or_nil e
 |true=>exact e
theorem ZS(ha:PT X a tA)(hb:PW X (.BoolOp .And (b::rest) pos) tB'):PW X (.BoolOp .And (a::b::rest) pos) (jb tA tB'):=by
 intro wh pins s σ H Q I h
 refine isTrue_and (thn (ha pins s σ H _ I h) λc s1 ⟨H1,I1,q1⟩=>?_)
 cases c with
 |true=>exact hb wh pins s1 σ H1 Q I1 q1
 |false=>exact⟨H1,I1,q1⟩
theorem eK(ha:PT X a tA)(hb:PW X (.BoolOp .Or (b::rest) pos) tB'):PW X (.BoolOp .Or (a::b::rest) pos) (tOr tA tB'):=by
 intro wh pins s σ H Q I h
 refine isTrue_or (thn (ha pins s σ H _ I h) λc s1 ⟨H1,I1,q1⟩=>?_)
 cases c with
 |true=>exact⟨H1,I1,q1⟩
 |false=>exact hb wh pins s1 σ H1 Q I1 q1
theorem bW(ha:PT X a tA):PT X (.UnaryOp .Not a pos) (iS tA):=by
 intro pins s σ H Q I h
 exact isTrue_not (ha pins s σ H (λc H1=>Q (!c) H1) I h)
noncomputable def dh(ta tb:TE):TE:=λσ H Q=>ta σ H λx H1=>∃c,x=.bl c/\if c=true then tb σ H1 Q else Q (.bl false) H1
theorem aW{op}{t:TE}(h:PE X a t):PE X (.BoolOp op [a] pos) t:=λpins s σ H Q I hw=>BoolOp_one (h pins s σ H Q I hw)
theorem aj(ha:PE X a ta)(hb:PE X (.BoolOp .And (b::rest) pos) tb):PE X (.BoolOp .And (a::b::rest) pos) (dh ta tb):=by
 intro pins s σ H Q I h
 refine BoolOp_and (thn (ha pins s σ H _ I h) λv s1 ⟨x,H1,I1,r1,q1⟩=>?_)
 obtain⟨c,rfl,q1⟩:=q1
 cases r1
 refine rY ?_
 cases c with
 |true=>exact hb pins s1 σ H1 Q I1 q1
 |false=>exact⟨.bl false,H1,I1,rfl,q1⟩
noncomputable def tIf(t:TT)(ta tb:TE):TE:=λσ H Q=>t σ H λc H1=>if c=true then ta σ H1 Q else tb σ H1 Q
theorem VW{c:ky}(hc:PT X c tA)(ha:PE X a ta)(hb:PE X b tb):PE X (.IfExp c a b pos) (tIf tA ta tb):=by
 intro pins s σ H Q I h
 refine wpAny_IfExp (thn (hc pins s σ H _ I h) λd s1 ⟨H1,I1,q1⟩=>?_)
 cases d with
 |true=>exact ha pins s1 σ H1 Q I1 q1
 |false=>exact hb pins s1 σ H1 Q I1 q1
end
end L2
namespace L2
open PySem PySem.Spec PyProof.Rows
def SqL(K:jz)(H:Hp)(a:j9)(xs:Wp V):Prop:=
 Rd H a (.lst xs)∨
  ∃(o:Obj) (its:kj j4) (n:Nat),K.lookup a=Gc o/\o.cls=.type "list" /\o.dict=none/\o.data=.seq its n/\its.size<=sizeLine/\Vals xs its.toList
def SqT(K:jz)(H:Hp)(a:j9)(xs:Wp V):Prop:=
 Rd H a (.tup xs)∨
  ∃(o:Obj) (its:kj j4) (n:Nat),K.lookup a=Gc o/\o.cls=.type "tuple" /\o.data=.seq its n/\its.size<=sizeLine/\Vals xs its.toList
noncomputable def iq:j4->j6 V
 | .none=>Gc .non
 | .bool b=>Gc (.bl b)
 | .int i _=>Gc (.int i)
 | .str x _=>Gc (.str x)
 | .bytes b _=>Gc (.byt b)
 | .float b _=>Gc (.flt b)
 | .ref a=>Gc (.ref a)
 | .type n=>Gc (.ty n)
 |_=>none
theorem RelV.abs{x:V}{u:j4}(r:RelV x u):iq u=Gc x:=by
 cases x with
 |non=>cases r;rfl
 |bl _=>cases r;rfl
 |int _=>obtain⟨t,rfl⟩:=r;rfl
 |str _=>obtain⟨t,rfl⟩:=r;rfl
 |byt _=>obtain⟨t,rfl⟩:=r;rfl
 |flt _=>obtain⟨t,rfl⟩:=r;rfl
 |ref _=>cases r;rfl
 |ty _=>cases r;rfl
theorem RelV.inj{x y:V}{u:j4}(r:RelV x u)(q:RelV y u):x=y:=lR (r.abs.symm.trans q.abs)
theorem Vals.inj:∀{xs ys:Wp V} {us:Wp j4},Vals xs us->Vals ys us->xs=ys
 |_,_,_,.nil,.nil=>rfl
 |_,_,_,.cons r t,.cons r' t'=>by rw[r.inj r',Vals.inj t t']
section
variable{X:Cx}{pins:Wp (j9×Obj)}{σ:St}{H:Hp}{s:j5}{a:j9}{xs ys:Wp V}
theorem SqL.of{K:jz}(h:H a=Gc (.lst xs)):SqL K H a xs:=.inl (.inl h)
theorem SqT.of{K:jz}(h:H a=Gc (.tup xs)):SqT K H a xs:=.inl (.inl h)
theorem Inv.list(I:Inv X pins σ H s)(h:SqL X.K H a xs):∃its:Wp j4,Vals xs its/\PlainL s.heap a its.toArray/\xs.length<=sizeLine:=by
 rcases h with h|⟨o,its,n,hk,hc,hd,hs,hz,r⟩
 .obtain⟨z,its,n,r,e⟩:=h.ok I.hok
  exact⟨its,r,⟨_,n,e,rfl,rfl,rfl⟩,z⟩
 .refine⟨its.toList,r,⟨o,n,I.kIn a o hk,hc,hd,by simpa using hs⟩,?_⟩
  have e:=r.length
  simp only[lg]at e
  lia
theorem Inv.tuple(I:Inv X pins σ H s)(h:SqT X.K H a xs):∃its:Wp j4,Vals xs its/\zp s.heap a its.toArray/\xs.length<=sizeLine:=by
 rcases h with h|⟨o,its,n,hk,hc,hs,hz,r⟩
 .obtain⟨z,its,r,p⟩:=h.ok I.hok
  exact⟨its,r,p,z⟩
 .refine⟨its.toList,r,⟨o,I.kIn a o hk,hc,n,by simpa using hs⟩,?_⟩
  have e:=r.length
  simp only[lg]at e
  lia
theorem Inv.PN(I:Inv X pins σ H s)(h:SqL X.K H a xs)(h':SqL X.K H a ys):xs=ys:=by
 obtain⟨its,r,⟨o,n,e,_,_,d⟩,_⟩:=I.list h
 obtain⟨its',r',⟨o',n',e',_,_,d'⟩,_⟩:=I.list h'
 rw[e]at e';cases e'
 rw[d]at d'
 injection d' with d1 _
 have:its=its':=by simpa using congrArg yj d1
 subst this
 exact r.inj r'
theorem Inv.Nv(I:Inv X pins σ H s)(h:SqT X.K H a xs)(h':SqT X.K H a ys):xs=ys:=by
 obtain⟨its,r,⟨o,e,_,n,d⟩,_⟩:=I.tuple h
 obtain⟨its',r',⟨o',e',_,n',d'⟩,_⟩:=I.tuple h'
 rw[e]at e';cases e'
 rw[d]at d'
 injection d' with d1 _
 have:its=its':=by simpa using congrArg yj d1
 subst this
 exact r.inj r'
end
abbrev Cx.Tn(X:Cx)(E:j4->j5->Prop):Cx:={X with xe:=E}
abbrev Cx.nox(X:Cx):Cx:=X.Tn λ_ _=>ou
theorem Cx.Ok.Tn{X:Cx}(ok:X.Ok)(E:j4->j5->Prop):(X.Tn E).Ok:=
 ⟨ok.mod,ok.kind,ok.glob,ok.blt,ok.above,ok.inj,ok.has,ok.cab,ok.hd,ok.frames,ok.stk,ok.exf,ok.bs,ok.bsz,ok.X8,ok.Yt,ok.SI,ok.frf⟩
theorem Cx.Ok.JH{X:Cx}{E:j4->j5->Prop}(ok:(X.Tn E).Ok):X.Ok:=
 ⟨ok.mod,ok.kind,ok.glob,ok.blt,ok.above,ok.inj,ok.has,ok.cab,ok.hd,ok.frames,ok.stk,ok.exf,ok.bs,ok.bsz,ok.X8,ok.Yt,ok.SI,ok.frf⟩
section
variable{X:Cx}{pins:Wp (j9×Obj)}{σ:St}{H:Hp}{s:j5}{E:j4->j5->Prop}
theorem Inv.Tn(I:Inv X pins σ H s)(E:j4->j5->Prop):Inv (X.Tn E) pins σ H s:=⟨I.ok.Tn E,I.os,I.bare,I.base,I.loc,I.cell,I.free,I.LK,I.pin,I.hok,I.len⟩
theorem Inv.JH(I:Inv (X.Tn E) pins σ H s):Inv X pins σ H s:=⟨I.ok.JH,I.os,I.bare,I.base,I.loc,I.cell,I.free,I.LK,I.pin,I.hok,I.len⟩
theorem SP.JH{D:Ends}{f:Flow}{s':j5}(h:SP (X.Tn E) pins D f s'):SP X pins D f s':=by
 cases f with
 |next=>obtain⟨σ',H',I,q⟩:=h;exact⟨σ',H',I.JH,q⟩
 |brk=>obtain⟨σ',H',I,q⟩:=h;exact⟨σ',H',I.JH,q⟩
 |cont=>obtain⟨σ',H',I,q⟩:=h;exact⟨σ',H',I.JH,q⟩
 |ret u=>obtain⟨v,σ',H',I,r,q⟩:=h;exact⟨v,σ',H',I.JH,r,q⟩
theorem PSs.nox{st:Wp lY}{t:TS}(h:PSs X.nox st t):PSs X st t:=λpins s σ H D I hw=>
 qd (h pins s σ H D (I.Tn _) hw) (λ_ _ q=>q.JH) λ_ _ z=>oY z
end
section
variable{X:Cx}{st:lY}{rest:Wp lY}{t u:TS}{e:ky}{te:TE}{pos:Pos}
noncomputable def eg:TS:=λD σ H=>D.nx σ H
noncomputable def iz(t u:TS):TS:=λD σ H=>t {D with nx:=u D} σ H
theorem Ri:PSs X [] eg:=λ_ _ σ H _ I h=>qu ⟨σ,H,I,h⟩
theorem NC(h1:PS X st t)(h2:PSs X rest u):PSs X (st::rest) (iz t u):=by
 intro pins s σ H D I h
 refine vo (thn (h1 pins s σ H {D with nx:=u D} I h) λf s1 q=>?_)
 cases f with
 |next=>
  obtain⟨σ',H',I',q⟩:=q
  exact h2 pins s1 σ' H' D I' q
 |ret v=>exact q
 |brk=>exact q
 |cont=>exact q
theorem SD(h1:PS X st t):PSs X [st] t:=by
 intro pins s σ H D I h
 refine vo (thn (h1 pins s σ H D I h) λf s1 q=>?_)
 cases f with
 |next=>exact qu q
 |ret v=>exact q
 |brk=>exact q
 |cont=>exact q
noncomputable def eN:TS:=λD σ H=>D.ct σ H
theorem Od:PS X (.Continue pos) eN:=λ_ _ σ H _ I h=>wpAny_Continue ⟨σ,H,I,h⟩
theorem Inv.quiet{pins:Wp (j9×Obj)}{σ:St}{H:Hp}{s:j5}(I:Inv X pins σ H s):interactive X.env=false:=by simp[interactive,I.ok.kind]
noncomputable def dv(te:TE):TS:=λD σ H=>te σ H λ_ H1=>D.nx σ H1
theorem Xx(he:PE X e te)(hs:swapsWith e none pos.line X.env=pure false:=by rfl):PS X (.Expr e pos) (dv te):=by
 intro pins s σ H D I h
 exact wpAny_Expr_any (thn (he pins s σ H _ I h) λv s1 ⟨x,H1,I1,r1,q1⟩=>⟨σ,H1,I1,q1⟩) I.quiet hs
noncomputable def iC(te:TE):TS:=λD σ H=>te σ H D.rt
theorem ay(he:PE X e te):PS X (.Return (Gc e) pos) (iC te):=by
 intro pins s σ H D I h
 exact wpAny_Return_some (thn (he pins s σ H _ I h) λv s1 ⟨x,H1,I1,r1,q1⟩=>⟨x,σ,H1,I1,r1,q1⟩)
noncomputable def jQ(c:TT)(t u:TS):TS:=λD σ H=>c σ H λb H1=>if b=true then t D σ H1 else u D σ H1
theorem ZY{c:ky}{a b:Wp lY}{tc:TT}(hc:PT X c tc)(ha:PSs X a t)(hb:PSs X b u):PS X (.If c a b pos) (jQ tc t u):=by
 intro pins s σ H D I h
 refine wpAny_If (thn (hc pins s σ H _ I h) λd s1 ⟨H1,I1,q1⟩=>?_)
 cases d with
 |true=>exact ha pins s1 σ H1 D I1 q1
 |false=>exact hb pins s1 σ H1 D I1 q1
end
abbrev TG:=V->St->Hp->(St->Hp->Prop)->Prop
abbrev TGs:=Wp V->St->Hp->(St->Hp->Prop)->Prop
def PG(X:Cx)(target:ky)(t:TG):Prop:=
 ∀(pins:Wp (j9×Obj)) (s:j5) (σ:St) (H:Hp) (v:V) (u:j4) (Q:St->Hp->Prop),Inv X pins σ H s->RelV v u->t v σ H Q->
  wpAny (model X.prog X.w) X.A (assign target X.env u) (λ_ s'=>∃σ' H',Inv X pins σ' H' s'/\Q σ' H') X.xe s
def PGs(X:Cx)(ts:Wp ky)(t:TGs):Prop:=
 ∀(pins:Wp (j9×Obj)) (s:j5) (σ:St) (H:Hp) (vs:Wp V) (us:Wp j4) (Q:St->Hp->Prop),Inv X pins σ H s->Vals vs us->t vs σ H Q->
  wpAny (model X.prog X.w) X.A (assignInOrder ((assignEach ts X.env).map (·.2)) us) (λ_ s'=>∃σ' H',Inv X pins σ' H' s'/\Q σ' H') X.xe s
abbrev dw:=V->V->V->Hp->(Hp->Prop)->Prop
def gz(X:Cx)(t:dw):Prop:=
 ∀(pins:Wp (j9×Obj)) (s:j5) (σ:St) (H:Hp) (o i v:V) (ov iv u:j4) (Q:Hp->Prop),Inv X pins σ H s->RelV o ov->RelV i iv->RelV v u->t o i v H Q->
  wpAny (model X.prog X.w) X.A (setItem ov iv u) (λ_ s'=>∃H',Inv X pins σ H' s'/\Q H') X.xe s
section
variable{X:Cx}{pos:Pos}
noncomputable def Y7(i:Nat):TG:=λv σ H Q=>Q (σ.set i (Gc v)) H
theorem YY{i:Nat}{x:Str}(hN:X.N.Nodup)(hi:X.N[i]?=Gc x)(hx:Loc X.env.scope x)(hf:X.fn x=true\/X.env.scope.names.lookup x=Gc .local:=by first|exact .inl rfl|exact .inr rfl|assumption):PG X (.Name x pos) (Y7 i):=by
 intro pins s σ H v u Q I r h
 exact vF (Jn I hN hi hx r (λs' I'=>⟨_,H,I',h⟩) hf)
noncomputable def gN:TGs:=λvs σ H Q=>vs=[]/\Q σ H
noncomputable def ZU(t:TG)(u:TGs):TGs:=λvs σ H Q=>∃v r,vs=v::r/\t v σ H λσ' H'=>u r σ' H' Q
theorem Xq:PGs X [] gN:=by
 intro pins s σ H vs us Q I r h
 obtain⟨e,h⟩:=h
 subst e
 cases r
 exact vG ⟨σ,H,I,h⟩
theorem UM{e:ky}{es:Wp ky}{t:TG}{u:TGs}(h1:PG X e t)(h2:PGs X es u)(hs:(assignEach (e::es) X.env).map (·.2)=assign e X.env::(assignEach es X.env).map (·.2):=by rfl):PGs X (e::es) (ZU t u):=by
 intro pins s σ H vs us Q I r h
 obtain⟨v,vr,e1,h⟩:=h
 subst e1
 cases r with
 |cons r rr=>
  rw[hs]
  refine rF (thn (h1 pins s σ H _ _ _ I r h) λ_ s1 ⟨σ1,H1,I1,q1⟩=>?_)
  exact h2 pins s1 σ1 H1 _ _ Q I1 rr q1
noncomputable def ig(K:jz)(n:Nat)(t:TGs):TG:=λv σ H Q=>∃a xs,v=.ref a/\SqT K H a xs/\xs.length=n/\t xs σ H Q
theorem Zt{es:Wp ky}{k:Nat}{t:TGs}{n:Nat}(hc:X.calm=true)(h:PGs X es t)(hn:(assignEach es X.env).length=n:=by rfl)(hst:(assignEach es X.env).findIdx? (·.1)=none:=by rfl):PG X (.Tuple es k pos) (ig X.K n t):=by
 intro pins s σ H v u Q I r hw
 obtain⟨a,xs,e1,hq,hl,hw⟩:=hw
 subst e1
 cases r
 obtain⟨its,rv,ht,hz⟩:=I.tuple hq
 refine assign_Tuple_tuple (I.ok.hd hc) ht (by simp[hn,<-hl,rv.length]) hst λh' hx=>?_
 have I1:Inv X pins σ H {s with heap:=h'}:=I.kept (t':=s.toks) λb o e=>hx b o (kS (kL e)) e
 exact h pins _ σ H xs _ Q I1 (by simpa using rv) hw
noncomputable def iE(to ti:TE)(t:dw):TG:=λv σ H Q=>to σ H λo H1=>ti σ H1 λi H2=>t o i v H2 λH3=>Q σ H3
theorem Zr {o i : ky} {to ti : TE} {t : dw} (ho : PE X o to) (hi : PE X i ti) (hs : gz X t) (ha : ∀ v, assign (.Subscript o i pos) X.env v = (do
      let ov ← holding [v] (eval o X.env)
      let iv ← holding [v, ov] (eval i X.env)
      standAt pos
      holding [v, ov, iv] (setItem ov iv v)
      release [v, ov, iv] []) := by intro _; rfl) : PG X (.Subscript o i pos) (iE to ti t) := by
  intro pins s σ H v u Q I r h
  rw [ha]
  refine jy (lM (thn (ho pins s σ H _ I h) fun ov s1 ⟨x, H1, I1, r1, q1⟩ => ?_))
  refine jy (lM (thn (hi pins s1 σ H1 _ I1 q1) fun iv s2 ⟨y, H2, I2, r2, q2⟩ => ?_))
  refine jy (nS (jy (lM (thn (hs pins s2 σ H2 x y v ov iv u _ I2 r1 r2 r q2) fun _ s3 ⟨H3, I3, q3⟩ => ?_))))
  exact wpAny_release ⟨σ, H3, I3, q3⟩
noncomputable def ff(te:TE)(g:TG):TS:=λD σ H=>te σ H λx H1=>g x σ H1 D.nx
theorem XZ{tg e:ky}{te:TE}{g:TG}(he:PE X e te)(hg:PG X tg g)(hs:swapsWithSole [tg] e pos.line X.env=pure false:=by rfl)(hw:swappedStores [tg] e X.env=pure none:=by rfl)(h1:(assignEach [tg] X.env).map (·.2)=[assign tg X.env]:=by rfl):PS X (.Assign [tg] e pos) (ff te g):=by
 intro pins s σ H D I h
 refine wpAny_Assign_stores (thn (he pins s σ H _ I h) λv s1 ⟨x,H1,I1,r1,q1⟩=>?_) hs hw
 rw[h1]
 exact thn (hg pins s1 σ H1 x v _ I1 r1 q1) λ_ s2 q=>q
theorem Z4{i:Nat}{x:Str}{e:ky}{te:TE}{pos':Pos}(hN:X.N.Nodup)(hi:X.N[i]?=Gc x)(hx:Loc X.env.scope x)(he:PE X e te)(hs:swapsWith e (Gc (.Name x pos')) pos.line X.env=pure false:=by rfl)(hf:X.fn x=true\/X.env.scope.names.lookup x=Gc .local:=by first|exact .inl rfl|exact .inr rfl|assumption):PS X (.Assign [.Name x pos'] e pos) (ff te (Y7 i)):=by
 intro pins s σ H D I h
 refine wpAny_Assign_Name (thn (he pins s σ H _ I h) λv s1 ⟨y,H1,I1,r1,q1⟩=>?_) hs
 exact Jn I1 hN hi hx r1 (λs2 I2=>⟨_,H1,I2,q1⟩) hf
noncomputable def jW(i j:Nat)(ta:TA):TS:=λD σ H=>ta σ H λvs H1=>∃v w,vs=[v,w]/\D.nx ((σ.set i (Gc v)).set j (Gc w)) H1
theorem ar{i j:Nat}{x y:Str}{a b:ky}{ta:TA}{px py pt:Pos}{kt k2 pt2}(hc:X.calm=true)(hN:X.N.Nodup)(hi:X.N[i]?=Gc x)(hj:X.N[j]?=Gc y)(hij:i≠j)(hx:X.env.scope.names.lookup x=Gc .local)(hy:X.env.scope.names.lookup y=Gc .local)(ha:PA X [a,b] ta)(hw:swappedStores [.Tuple [.Name x px,.Name y py] kt pt] (.Tuple [a,b] k2 pt2) X.env=pure (Gc [x,y]))(hs:swapsWithSole [.Tuple [.Name x px,.Name y py] kt pt] (.Tuple [a,b] k2 pt2) pos.line X.env=pure false:=by rfl):PS X (.Assign [.Tuple [.Name x px,.Name y py] kt pt] (.Tuple [a,b] k2 pt2) pos) (jW i j ta):=by
 intro pins s σ H D I h
 rw[exec_Assign_arm]
 refine jy (nS ?_)
 rw[hs]
 refine jy (j7 ?_)
 rw[ko (by decide)]
 refine jy (Tuple_ (thn (ha _ pins s σ H _ I h) λus s1 ⟨vs,H1,I1,r1,q1⟩=>?_))
 obtain⟨v,w,e1,q1⟩:=q1
 subst e1
 obtain⟨u1,u2,rfl,rv,rw'⟩:∃u1 u2,us=[u1,u2]/\RelV v u1/\RelV w u2:=by
  cases r1 with
  |cons p q=>
   cases q with
   |cons p' q'=>
    cases q'
    exact⟨_,_,rfl,p,p'⟩
 refine lN ?_ (by show 2<=sizeLine;decide)
 have I2:Inv X pins σ H1 {s1 with heap:=s1.heap.push {cls:=.type "tuple",data:=.seq [u1,u2].toArray}}:=I1.kept (t':=s1.toks) λb o e=>j0 _ e
 rw[hw]
 refine jy (j7 ?_)
 show wpAny (model X.prog X.w) X.A (do rule "assign.swapped-stores"; let items<-unpackItems (.ref s1.heap.objs.size) 2 none;assignInOrder [λv=>bindName X.env y v,λv=>bindName X.env x v] items.reverse;pure Flow.next) _ _ _
 refine jy (oJ (jy (unpackItems_tuple (items:= #[u1,u2]) (I.ok.hd hc) (pX s1.heap _) λh' hx'=>?_)))
 have I3:=I2.kept (h':=h') (t':=s1.toks) λb o e=>hx' b o (kS (kL e)) e
 show wpAny _ _ (assignInOrder [λv=>bindName X.env y v,λv=>bindName X.env x v] [u2,u1] >>= λ_=>pure Flow.next) _ _ _
 refine jy (rF (wt (Jn I3 hN hj (.inl hy) rw' (λs2 I4=>?_) (.inr hy))))
 refine rF (wt (Jn I4 hN hi (.inl hx) rv (λs3 I5=>vG (j7 ?_)) (.inr hx)))
 rw[List.set_comm _ _ (l8 hij)]at I5
 exact⟨_,H1,I5,q1⟩
end
section
variable{X:Cx}{pos:Pos}
noncomputable def Zv(c:TT)(tb:TS):TS:=λD σ H=>∃W:Nat->St->Hp->Prop,(∃m,W m σ H)/\∀m σ H,W m σ H->
 c σ H λb H1=>if b=true then∃N:St->Hp->Prop,(∀σ' H',N σ' H'->∃m',m'<m/\W m' σ' H')/\tb {D with nx:=N,ct:=N,bk:=D.nx} σ H1 else D.nx σ H1
theorem Ux{c:ky}{body:Wp lY}{tc:TT}{tb:TS}(hp:uR (model X.prog X.w) X.A X.env X.xe)(hc:PT X c tc)(hb:PSs X body tb):PS X (.While c body [] pos) (Zv tc tb):=by
 intro pins s σ H D I h
 obtain⟨W,⟨m0,w0⟩,turn⟩:=h
 refine wpAny_While (codeAny_whileLoop (λn s'=>∃σ' H',Inv X pins σ' H' s'/\W n σ' H') ?_ m0 ⟨σ,H,I,w0⟩)
 rintro n s1 ⟨σ1,H1,I1,w1⟩
 refine oB hp (thn (hc pins s1 σ1 H1 _ I1 (turn n σ1 H1 w1)) λb s2 ⟨H2,I2,q2⟩=>?_)
 cases b with
 |true=>
  obtain⟨N,hN,q2⟩:=q2
  rw[kh rfl]
  refine oB hp (thn (hb pins s2 σ1 H2 _ I2 q2) λf s3 q3=>?_)
  cases f with
  |next=>
   obtain⟨σ3,H3,I3,n3⟩:=q3
   obtain⟨m',hm,w3⟩:=hN σ3 H3 n3
   exact⟨m',hm,σ3,H3,I3,w3⟩
  |cont=>
   obtain⟨σ3,H3,I3,n3⟩:=q3
   obtain⟨m',hm,w3⟩:=hN σ3 H3 n3
   exact⟨m',hm,σ3,H3,I3,w3⟩
  |brk=>exact q3
  |ret v=>exact q3
 |false=>
  rw[ko lU]
  exact qu ⟨σ1,H2,I2,q2⟩
end
structure It where
 go:Nat->Hp->Prop
 yld:Nat->Hp->V->Hp->Prop
 stop:Nat->Hp->Prop
def L0(X:Cx)(pins:Wp (j9×Obj))(H:Hp)(b:j9):Prop:=
 H b=none/\b≠X.env.locals/\b∉X.fs/\(b∈X.ex\/X.s₀.heap.objs.size<=b)/\(∀x c,X.env.cells.lookup x=Gc c->c≠b)/\∀p∈X.pn++pins,p.1≠b
theorem Inv.WV{X:Cx}{pins:Wp (j9×Obj)}{σ:St}{H H':Hp}{s:j5}{b:j9}(I:Inv X pins σ H s)(hb:s.heap.objs.size<=b)(hn:H' b=none):L0 X pins H' b:=by
 refine⟨hn,oZ (kD I.lt hb),I.jV hb,.inr (kF I.sz hb),λx c e z=>?_,λp hp z=>?_⟩
 .obtain⟨v,q⟩:=I.cell x c e
  exact absurd (kD q.lt (by rw[z];exact hb)) (mY _)
 .exact absurd (kD (kL (I.pin p hp).1) (by rw[z];exact hb)) (mY _)
structure Turn(P:ke)(w:lB)(K:jz)(tg:ky)(J:It)(fp:Wp j9)(it:j9)(tn:Nat->lD->Prop):Prop where
 mem:it∈fp
 obj:∀i h,tn i h->∀b∈fp,∃o,h.get? b=Gc o/\∀v,o.data≠.cell v
 keep:∀i h h',tn i h->(∀b∈fp,∀o,h.get? b=Gc o->h'.get? b=Gc o)->tn i h'
 item:∀(X:Cx),X.prog=P->X.w=w->X.K=K->X.calm=true->∀(i:Nat) (pins:Wp (j9×Obj)) (s:j5) (σ:St) (H:Hp) (E:j4->j5->Prop),Inv X pins σ H s->(∀b∈fp,L0 X pins H b)->tn i s.heap->J.go i H->
  wpAny (model P w) X.A (pyNext (.ref it)) (λr s1=>∃u,r=Gc u/\
   wpAny (model P w) X.A (letOwnedTupleGo tg (.ref it) u) (λ_ s2=>∃x H',Inv X pins σ H' s2/\RelV x u/\J.yld i H x H'/\tn (i+1) s2.heap/\∀b∈fp,H' b=none) E s1) E s
 done:∀(X:Cx),X.prog=P->X.w=w->X.K=K->X.calm=true->∀(i:Nat) (pins:Wp (j9×Obj)) (s:j5) (σ:St) (H:Hp) (E:j4->j5->Prop),Inv X pins σ H s->(∀b∈fp,L0 X pins H b)->tn i s.heap->J.stop i H->
  wpAny (model P w) X.A (pyNext (.ref it)) (λr s1=>r=none/\Inv X pins σ H s1) E s
 self:∀(A:lF) (i:Nat) (s:j5) (Q:j4->j5->Prop) (E:j4->j5->Prop),tn i s.heap->Q (.ref it) s->wpAny (model P w) A (pyIter (.ref it)) Q E s
abbrev TI:=St->Hp->(It->Hp->Prop)->Prop
def PIE(X:Cx)(pins:Wp (j9×Obj))(σ:St)(tg:ky)(R:It->Hp->Prop)(itv:j4)(s2:j5):Prop:=
 ∃(it:j9) (fp:Wp j9) (tn:Nat->lD->Prop) (J:It) (H':Hp),itv=.ref it/\Inv X pins σ H' s2/\Turn X.prog X.w X.K tg J fp it tn/\tn 0 s2.heap/\(∀b∈fp,L0 X pins H' b)/\R J H'
def PI(X:Cx)(tg iter:ky)(wi:TI):Prop:=
 ∀(pins:Wp (j9×Obj)) (s:j5) (σ:St) (H:Hp) (R:It->Hp->Prop),Inv X pins σ H s->wi σ H R->
  wpAny (model X.prog X.w) X.A (eval iter X.env) (λv s1=>wpAny (model X.prog X.w) X.A (pyIter v) (PIE X pins σ tg R) X.xe s1) X.xe s
theorem Yw{M:yP}{A:lF}{E:j4->j5->Prop}{s:j5}{tg:ky}{it:j9}{u:j4}{o:Obj}{n:pE}{vs:kj j4}{Q:Unit->j5->Prop}(ho:s.heap.get? it=Gc o)(hc:o.cls=.type n)(hd:o.data=.fields vs)(hn:["enumerate","zip","dict_itemiterator","dict_reverseitemiterator","odict_iterator","itertools.zip_longest","itertools.pairwise"].contains n=false)(hQ:Q () s):wpAny M A (letOwnedTupleGo tg (.ref it) u) Q E s:=by
 unfold letOwnedTupleGo
 cases tg<;>first
  |exact j7 hQ
  |(cases u<;>first
     |exact j7 hQ
     |(refine jy (wu ho ?_)
       rw[hc,hd]
       show wpAny M A (if(["enumerate","zip","dict_itemiterator","dict_reverseitemiterator","odict_iterator","itertools.zip_longest","itertools.pairwise"].contains n && vs[0]?==Gc (rawInt _))=true then _ else _) Q E s
       rw[ko (by intro h;rw[hn,Bool.false_and]at h;cases h)]
       exact j7 hQ))
noncomputable def Itl(K:jz)(a:j9):It:=
 ⟨λi H=>∃xs x,SqL K H a xs/\xs[i]?=Gc x,λi H x H'=>H'=H/\∀xs,SqL K H a xs->xs[i]?=Gc x,λi H=>∃xs,SqL K H a xs/\xs.length<=i⟩
noncomputable def Itt(K:jz)(a:j9):It:=
 ⟨λi H=>∃xs x,SqT K H a xs/\xs[i]?=Gc x,λi H x H'=>H'=H/\∀xs,SqT K H a xs->xs[i]?=Gc x,λi H=>∃xs,SqT K H a xs/\xs.length<=i⟩
noncomputable def Itr(lo:Int)(n:Nat):It:=⟨λi _=>i<n,λi H x H'=>H'=H/\x=.int (lo+i),λi _=>n<=i⟩
theorem Qz{P:ke}{w:lB}{K:jz}{tg:ky}(a it:j9):Turn P w K tg (Itl K a) [it] it (λi h=>h.IsListIter it a i) where
 mem:=by simp
 obj:=λi h st b hb=>by
  have e:b=it:=by simpa using hb
  subst e
  obtain⟨o,e,c,d⟩:=st
  exact⟨o,e,λv z=>by rw[d]at z;cases z⟩
 keep:=λi h h' st k=>st.at λo e=>k it (by simp) o e
 item:=by
  intro X hP hw hK hc i pins s σ H E I hf st hg
  subst hP hw hK
  obtain⟨xs,x,hq,hx⟩:=hg
  obtain⟨its,rv,p,hz⟩:=I.list hq
  obtain⟨u,hu,ru⟩:=rv.get hx
  obtain⟨f0,f1,f2,f3,f4,f5⟩:=hf it (by simp)
  refine qL st p.isList (x:=u) (by simpa using hu) λh' st' sb=>?_
  have I1:Inv X pins σ H {s with heap:=h'}:=I.turned (t':=s.toks) (λb o hb e=>(sb.2 b hb).trans e) f0 f1 f3 f4 f5
  obtain⟨o,e,c,d⟩:=id st'
  exact⟨u,rfl,Yw (s:={s with heap:=h'}) e c d (by decide) ⟨x,H,I1,ru,⟨rfl,λys hy=>by rw[I.PN hy hq];exact hx⟩,st',λb hb=>(hf b hb).1⟩⟩
 done:=by
  intro X hP hw hK hc i pins s σ H E I hf st hg
  subst hP hw hK
  obtain⟨xs,hq,hx⟩:=hg
  obtain⟨its,rv,p,hz⟩:=I.list hq
  obtain⟨f0,f1,f2,f3,f4,f5⟩:=hf it (by simp)
  have hl:=rv.length
  exact qZ (I.ok.hd hc) st p.isList (by simp;lia) λh' eb=>⟨rfl,I.turned (t':=s.toks) (λb o hb e=>eb b o hb e) f0 f1 f3 f4 f5⟩
 self:=λ_ _ _ _ _ st h=>tY st h
theorem QA{P:ke}{w:lB}{K:jz}{tg:ky}(a it:j9):Turn P w K tg (Itt K a) [it] it (λi h=>h.IsTupleIter it a i) where
 mem:=by simp
 obj:=λi h st b hb=>by
  have e:b=it:=by simpa using hb
  subst e
  obtain⟨o,e,c,d⟩:=st
  exact⟨o,e,λv z=>by rw[d]at z;cases z⟩
 keep:=λi h h' st k=>st.at λo e=>k it (by simp) o e
 item:=by
  intro X hP hw hK hc i pins s σ H E I hf st hg
  subst hP hw hK
  obtain⟨xs,x,hq,hx⟩:=hg
  obtain⟨its,rv,p,hz⟩:=I.tuple hq
  obtain⟨u,hu,ru⟩:=rv.get hx
  obtain⟨f0,f1,f2,f3,f4,f5⟩:=hf it (by simp)
  refine wpAny_pyNext_tuple_item st (show s.heap.IsTuple a its.toArray from p) (x:=u) (by simpa using hu) λh' st' sb=>?_
  have I1:Inv X pins σ H {s with heap:=h'}:=I.turned (t':=s.toks) (λb o hb e=>(sb.2 b hb).trans e) f0 f1 f3 f4 f5
  obtain⟨o,e,c,d⟩:=id st'
  exact⟨u,rfl,Yw (s:={s with heap:=h'}) e c d (by decide) ⟨x,H,I1,ru,⟨rfl,λys hy=>by rw[I.Nv hy hq];exact hx⟩,st',λb hb=>(hf b hb).1⟩⟩
 done:=by
  intro X hP hw hK hc i pins s σ H E I hf st hg
  subst hP hw hK
  obtain⟨xs,hq,hx⟩:=hg
  obtain⟨its,rv,p,hz⟩:=I.tuple hq
  obtain⟨f0,f1,f2,f3,f4,f5⟩:=hf it (by simp)
  have hl:=rv.length
  exact wpAny_pyNext_tuple_end (I.ok.hd hc) st (show s.heap.IsTuple a its.toArray from p) (by simp;lia) λh' eb=>⟨rfl,I.turned (t':=s.toks) (λb o hb e=>eb b o hb e) f0 f1 f3 f4 f5⟩
 self:=λ_ _ _ _ _ st h=>wpAny_pyIter_tupleiter st h
theorem Pt{P:ke}{w:lB}{K:jz}{tg:ky}(it:j9)(lo:Int)(n:Nat):Turn P w K tg (Itr lo n) [it] it (λi h=>zx h it (lo+(i:Nat)*1) ((n:Int)-(i:Nat)) 1) where
 mem:=by simp
 obj:=λi h st b hb=>by
  have e:b=it:=by simpa using hb
  subst e
  exact⟨_,st,λv z=>by
   have z':wG _=Data.cell v:=z
   cases z'⟩
 keep:=λi h h' st k=>k it (by simp) _ st
 item:=by
  intro X hP hw hK hc i pins s σ H E I hf st hg
  subst hP hw hK
  obtain⟨f0,f1,f2,f3,f4,f5⟩:=hf it (by simp)
  have W:=Walks.range (prog:=X.prog) (w:=X.w) (I.ok.hd hc) it lo 1 n
  refine W.item i s _ _ hg st λv h' tk hv st' kk=>?_
  obtain⟨t,rfl⟩:=hv
  have I1:Inv X pins σ H {s with heap:=h',toks:=tk}:=I.turned (λb o hb e=>kk b o (by simpa using hb) e) f0 f1 f3 f4 f5
  refine⟨_,rfl,Yw (s:={s with heap:=h',toks:=tk}) (n:="range_iterator") st' rfl rfl (by decide) ⟨.int (lo+i),H,I1,⟨t,?_⟩,⟨rfl,rfl⟩,st',λb hb=>(hf b hb).1⟩⟩
  rw[Int.mul_one]
 done:=by
  intro X hP hw hK hc i pins s σ H E I hf st hg
  subst hP hw hK
  obtain⟨f0,f1,f2,f3,f4,f5⟩:=hf it (by simp)
  exact wpAny_pyNext_range_end (I.ok.hd hc) st (by have:n<=i:=hg;lia) λh' eb=>⟨rfl,I.turned (t':=s.toks) (λb o hb e=>eb b o hb e) f0 f1 f3 f4 f5⟩
 self:=λ_ _ _ _ _ st h=>wpAny_pyIter_rangeiter st h
end L2
namespace L2
open PySem PySem.Spec PyProof.Rows
section
variable{X:Cx}{tg:ky}
theorem Vq{pins:Wp (j9×Obj)}{σ:St}{H:Hp}{s:j5}{R:It->Hp->Prop}{E:j4->j5->Prop}{lo hi:Int}{t u v:Tok}{tk:Nat}(I:Inv X pins σ H s)(h1: -(2^62)<=lo)(h2:lo<2^62)(h3: -(2^62)<=hi)(h4:hi<2^62)(q:R (Itr lo (hi-lo).toNat) H):wpAny (model X.prog X.w) X.A (pyIter (.ref s.heap.objs.size)) (PIE X pins σ tg R) E {s with heap:=s.heap.push {cls:=.type "range",data:=.fields #[.int lo t,.int hi u,.int 1 v]},toks:=tk}:=by
 refine wpAny_pyIter_range (IsRange.new ..) (small_one h1 h2 h3 h4) ?_
 have I1:Inv X pins σ H {s with heap:=s.heap.push {cls:=.type "range",data:=.fields #[.int lo t,.int hi u,.int 1 v]},toks:=tk}:=I.kept λb o e=>j0 _ e
 refine⟨(s.heap.push {cls:=.type "range",data:=.fields #[.int lo t,.int hi u,.int 1 v]}).objs.size,[(s.heap.push {cls:=.type "range",data:=.fields #[.int lo t,.int hi u,.int 1 v]}).objs.size],_,_,H,rfl,
  I1.kept (t':=tk) λb o e=>j0 _ e,Pt _ lo (hi-lo).toNat,?_,λb hb=>?_,q⟩
 .have e1:lo+((0:Nat):Int)*1=lo:=by simp
  have e2:(((hi-lo).toNat:Nat):Int)-((0:Nat):Int)=yS lo hi 1:=by rw[rangeSize_one];split<;>lia
  show zx _ _ (lo+((0:Nat):Int)*1) ((((hi-lo).toNat:Nat):Int)-((0:Nat):Int)) 1
  rw[e1,e2]
  exact kH _ rfl
 .have e:b=(s.heap.push {cls:=.type "range",data:=.fields #[.int lo t,.int hi u,.int 1 v]}).objs.size:=by simpa using hb
  subst e
  exact I1.WV (kA _) (I1.hok.fresh (kA _))
noncomputable def dN(ta:TA):TI:=λσ H R=>ta σ H λvs H1=>∃j:Int,vs=[.int j]/\ -(2^62)<=j/\j<2^62/\R (Itr 0 j.toNat) H1
theorem QW{a:ky}{ta:TA}{p pos:Pos}(hg:Gl X "range")(hm:X.mg "range"=none)(ha:PA X [a] ta)(hs:kc [a] X.env=[(false,eval a X.env)]:=by rfl):PI X tg (.Call (.Name "range" p) [a] [] pos) (dN ta):=by
 intro pins s σ H R I h
 refine Call_ (JI I hg hm boot_range (nO (thn (ha pos pins s σ H _ I h) λus s1 ⟨vs,H1,I1,r1,q1⟩=>?_) hs rfl))
 obtain⟨j,e,q1,q2,q⟩:=q1
 subst e
 cases r1 with
 |cons r rr=>
  cases rr
  obtain⟨t,rfl⟩:=r
  exact call_range_1 (Vq I1 (by lia) (by lia) q1 q2 (by simpa using q))
noncomputable def jM(wi:TI)(g:TG)(tb:TS):TS:=λD σ H=>wi σ H λJ H1=>∃W:Nat->Nat->St->Hp->Prop,(∃m,W 0 m σ H1)/\∀i m σ H,W i m σ H->
 (J.stop i H/\D.nx σ H)\/(J.go i H/\∃N:St->Hp->Prop,(∀σ' H',N σ' H'->∃m',m'<m/\W (i+1) m' σ' H')/\∀x H',J.yld i H x H'->g x σ H' λσ2 H2=>tb {D with nx:=N,ct:=N,bk:=D.nx} σ2 H2)
noncomputable def Lk(fp:Wp j9)(h:lD):Wp (j9×Obj):=fp.filterMap λb=>(h.get? b).map λo=>(b,o)
theorem Ed{fp:Wp j9}{h:lD}{b:j9}{o:Obj}(hb:b∈fp)(e:h.get? b=Gc o):(b,o)∈Lk fp h:=um.mpr ⟨b,hb,by rw[e];rfl⟩
theorem SY{fp:Wp j9}{h:lD}{p:j9×Obj}(hp:p∈Lk fp h):p.1∈fp/\h.get? p.1=Gc p.2:=by
 obtain⟨b,hb,e⟩:=um.mp hp
 cases q:h.get? b with
 |none=>rw[q]at e;cases e
 |some o=>
  rw[q]at e
  have e':(b,o)=p:=lR e
  subst e'
  exact⟨hb,q⟩
theorem Inv.pinned{pins:Wp (j9×Obj)}{σ:St}{H:Hp}{s:j5}{fp:Wp j9}(I:Inv X pins σ H s)(hf:∀b∈fp,L0 X pins H b)(ho:∀b∈fp,∃o,s.heap.get? b=Gc o/\∀v,o.data≠.cell v):Inv X (pins++Lk fp s.heap) σ H s:=
 I.Qg λp hp=>(kY.mp hp).elim (λz=>I.pin p (k9 _ z)) λz=>by
  obtain⟨hb,e⟩:=SY z
  obtain⟨f0,f1,f2,_⟩:=hf p.1 hb
  obtain⟨o,e',d⟩:=ho p.1 hb
  rw[e]at e';cases e'
  exact⟨e,f0,f1,f2,d⟩
theorem Inv.Hy{pins pl:Wp (j9×Obj)}{σ:St}{H:Hp}{s:j5}(I:Inv X (pins++pl) σ H s):Inv X pins σ H s:=I.Qg λp hp=>I.pin p (k9 _ (qm _ hp))
theorem XI{iter:ky}{body:Wp lY}{wi:TI}{g:TG}{tb:TS}{pos:Pos}(hp:uR (model X.prog X.w) X.A X.env X.xe)(hc:X.calm=true)(hi:PI X tg iter wi)(hg:PG X tg g)(hb:PSs X body tb)(hs:∀x,foldedSetIterable iter X.env x=pure x:=by intro _;rfl):PS X (.For tg iter body [] pos) (jM wi g tb):=by
 intro pins s σ H D I h
 refine wpAny_For (thn (hi pins s σ H _ I h) λv s1 h1=>thn h1 λitv s2 h2=>?_) hs
 obtain⟨it,fp,tn,J,H2,e,I2,T,st2,f2,W,⟨m0,w0⟩,turn⟩:=h2
 subst e
 have stat:∀{H':Hp},(∀b∈fp,H' b=none)->∀b∈fp,L0 X pins H' b:=λhn b hb=>⟨hn b hb,(f2 b hb).2⟩
 refine codeAny_forLoop_any (λn s'=>∃i σ' H',Inv X pins σ' H' s'/\tn i s'.heap/\(∀b∈fp,H' b=none)/\W i n σ' H') ?_ m0 ⟨0,σ,H2,I2,st2,λb hb=>(f2 b hb).1,w0⟩
 rintro n s3 ⟨i,σ3,H3,I3,st3,fr3,w3⟩
 rcases turn i n σ3 H3 w3 with⟨stop,qn⟩|⟨go,N,hN,step⟩
 .refine oB hp (thn (T.done X rfl rfl rfl hc i pins s3 σ3 H3 X.xe I3 (stat fr3) st3 stop) λr s4 ⟨hr,I4⟩=>?_)
  subst hr
  exact qu ⟨σ3,H3,I4,qn⟩
 .refine oB hp (thn (T.item X rfl rfl rfl hc i pins s3 σ3 H3 X.xe I3 (stat fr3) st3 go) λr s4 ⟨u,hr,h4⟩=>?_)
  subst hr
  refine oB hp (thn h4 λ_ s5 ⟨x,H5,I5,r5,y5,st5,fr5⟩=>?_)
  have I5':=I5.pinned (stat fr5) (T.obj _ _ st5)
  refine oB hp (thn (hg _ s5 σ3 H5 x u _ I5' r5 (step x H5 y5)) λ_ s6 ⟨σ6,H6,I6,q6⟩=>?_)
  refine oB hp (thn (hb _ s6 σ6 H6 _ I6 q6) λf s7 q7=>?_)
  have again:∀{σ7:St} {H7:Hp},Inv X (pins++Lk fp s5.heap) σ7 H7 s7->N σ7 H7->∃m,m<n/\∃i σ' H',Inv X pins σ' H' s7/\tn i s7.heap/\(∀b∈fp,H' b=none)/\W i m σ' H':=λ{σ7 H7} I7 n7=>by
   obtain⟨m',hm,w7⟩:=hN σ7 H7 n7
   refine⟨m',hm,i+1,σ7,H7,I7.Hy,T.keep _ _ _ st5 λb hb o e=>(I7.pin (b,o) (k9 _ (k9 _ (Ed hb e)))).1,λb hb=>?_,w7⟩
   obtain⟨o,e,d⟩:=T.obj _ _ st5 b hb
   exact(I7.pin (b,o) (k9 _ (k9 _ (Ed hb e)))).2.1
  cases f with
  |next=>obtain⟨σ7,H7,I7,n7⟩:=q7;exact again I7 n7
  |cont=>obtain⟨σ7,H7,I7,n7⟩:=q7;exact again I7 n7
  |brk=>obtain⟨σ7,H7,I7,q7⟩:=q7;exact⟨σ7,H7,I7.Hy,q7⟩
  |ret v=>obtain⟨x7,σ7,H7,I7,r7,q7⟩:=q7;exact⟨x7,σ7,H7,I7.Hy,r7,q7⟩
end
end L2
namespace L2
open PySem PySem.Spec PyProof.Rows
abbrev R2:=V->V->Hp->VK->Prop
def OpR(X:Cx)(f:j4->j4->Sem j4)(r:R2):Prop:=
 ∀(pins:Wp (j9×Obj)) (s:j5) (σ:St) (H:Hp) (x y:V) (v u:j4) (Q:VK),Inv X pins σ H s->RelV x v->RelV y u->r x y H Q->
  wpAny (model X.prog X.w) X.A (f v u) (EP X pins σ Q) X.xe s
def UnR(X:Cx)(f:j4->Sem j4)(r:V->Hp->VK->Prop):Prop:=
 ∀(pins:Wp (j9×Obj)) (s:j5) (σ:St) (H:Hp) (x:V) (v:j4) (Q:VK),Inv X pins σ H s->RelV x v->r x H Q->
  wpAny (model X.prog X.w) X.A (f v) (EP X pins σ Q) X.xe s
def Ep(X:Cx)(f:j4)(r:Wp V->Hp->VK->Prop):Prop:=
 ∀(pins:Wp (j9×Obj)) (s:j5) (σ:St) (H:Hp) (xs:Wp V) (us:Wp j4) (Q:VK),Inv X pins σ H s->Vals xs us->r xs H Q->
  wpAny (model X.prog X.w) X.A (call f us) (EP X pins σ Q) X.xe s
noncomputable def tOp(r:R2)(ta tb:TE):TE:=λσ H Q=>ta σ H λx H1=>tb σ H1 λy H2=>r x y H2 Q
noncomputable def tUn(r:V->Hp->VK->Prop)(ta:TE):TE:=λσ H Q=>ta σ H λx H1=>r x H1 Q
noncomputable def rI(C:Int->Int->Prop)(g:Int->Int->V):R2:=λx y H Q=>∃i j,x=.int i/\y=.int j/\C i j/\Q (g i j) H
noncomputable def rI0(g:Int->Int->V):R2:=λx y H Q=>∃i j,x=.int i/\y=.int j/\Q (g i j) H
def rU(g:Int->V):V->Hp->VK->Prop:=λx H Q=>∃i,x=.int i/\Q (g i) H
section
variable{X:Cx}{a b c:ky}{ta tb tc:TE}{pos:Pos}
theorem dJ(ha:PE X a ta)(hb:PE X b tb){pins:Wp (j9×Obj)}{s:j5}{σ:St}{H:Hp}{R:V->V->Hp->Prop}(I:Inv X pins σ H s)(h:ta σ H λx H1=>tb σ H1 λy H2=>R x y H2){Q:j4->j5->Prop}{f:j4->j4->Sem j4}(hf:∀v u s2 x y H2,Inv X pins σ H2 s2->RelV x v->RelV y u->R x y H2->wpAny (model X.prog X.w) X.A (f v u) Q X.xe s2):wpAny (model X.prog X.w) X.A (eval a X.env) (λv s₁=>wpAny (model X.prog X.w) X.A (eval b X.env) (λu s₂=>wpAny (model X.prog X.w) X.A (f v u) Q X.xe s₂) X.xe s₁) X.xe s:=by
 refine thn (ha pins s σ H _ I h) λv s1 ⟨x,H1,I1,r1,q1⟩=>?_
 refine thn (hb pins s1 σ H1 _ I1 q1) λu s2 ⟨y,H2,I2,r2,q2⟩=>?_
 exact hf v u s2 x y H2 I2 r1 r2 q2
theorem dy{op:Operator}{r:R2}(ho:OpR X (binaryOp op) r)(ha:PE X a ta)(hb:PE X b tb):PE X (.BinOp a op b pos) (tOp r ta tb):=by
 intro pins s σ H Q I h
 exact wpAny_BinOp (dJ ha hb I h λv u s2 x y H2 I2 rx ry q=>ho pins s2 σ H2 x y v u Q I2 rx ry q)
theorem eJ{op:UnaryOp}{r:V->Hp->VK->Prop}(ho:UnR X (unaryOp op) r)(ha:PE X a ta):PE X (.UnaryOp op a pos) (tUn r ta):=by
 intro pins s σ H Q I h
 exact UnaryOp_ (thn (ha pins s σ H _ I h) λv s1 ⟨x,H1,I1,r1,q1⟩=>ho pins s1 σ H1 x v Q I1 r1 q1)
theorem opI{f:j4->j4->Sem j4}{C:Int->Int->Prop}{g:Int->Int->Int}(rule:∀(i j:Int) (t u:Tok) (s:j5) (Q:j4->j5->Prop) (E:j4->j5->Prop),C i j->Q (.int (g i j) s.toks) {s with toks:=s.toks+1}->wpAny (model X.prog X.w) X.A (f (.int i t) (.int j u)) Q E s):OpR X f (rI C λi j=>.int (g i j)):=by
 intro pins s σ H x y v u Q I rx ry h
 obtain⟨i,j,rfl,rfl,hc,q⟩:=h
 obtain⟨t,rfl⟩:=rx
 obtain⟨t',rfl⟩:=ry
 exact rule i j t t' s _ _ hc ⟨.int (g i j),H,I.tok _,⟨_,rfl⟩,q⟩
theorem gh{f:j4->j4->Sem j4}{g:Int->Int->Int}(rule:∀(i j:Int) (t u:Tok) (s:j5) (Q:j4->j5->Prop) (E:j4->j5->Prop),Q (.int (g i j) s.toks) {s with toks:=s.toks+1}->wpAny (model X.prog X.w) X.A (f (.int i t) (.int j u)) Q E s):OpR X f (rI0 λi j=>.int (g i j)):=by
 intro pins s σ H x y v u Q I rx ry h
 obtain⟨i,j,rfl,rfl,q⟩:=h
 obtain⟨t,rfl⟩:=rx
 obtain⟨t',rfl⟩:=ry
 exact rule i j t t' s _ _ ⟨.int (g i j),H,I.tok _,⟨_,rfl⟩,q⟩
theorem eT{f:j4->j4->Sem j4}{g:Int->Int->lA}(rule:∀(i j:Int) (t u:Tok) (s:j5) (Q:j4->j5->Prop) (E:j4->j5->Prop),Q (.bool (g i j)) s->wpAny (model X.prog X.w) X.A (f (.int i t) (.int j u)) Q E s):OpR X f (rI0 λi j=>.bl (g i j)):=by
 intro pins s σ H x y v u Q I rx ry h
 obtain⟨i,j,rfl,rfl,q⟩:=h
 obtain⟨t,rfl⟩:=rx
 obtain⟨t',rfl⟩:=ry
 exact rule i j t t' s _ _ ⟨.bl (g i j),H,I,rfl,q⟩
def jK(i j:Int):Prop:=0<=j/\j<=1000000/\i.natAbs<2^64
def fW(i j:Int):Prop:=(-(2^64)<i/\i<2^64)\/(-(2^64)<j/\j<2^64)
theorem fW.ok{i j:Int}(h:fW i j):IntMulOk i j:=by
 rcases h with⟨h1,h2⟩|⟨h1,h2⟩
 .exact .of_left (xt h1 h2)
 .exact .of_right (xt h1 h2)
theorem Zk:OpR X (binaryOp .Add) (rI0 λi j=>.int (i+j)):=gh λ_ _ _ _ _ _ _ q=>add_int q
theorem aJ:OpR X (binaryOp .Sub) (rI0 λi j=>.int (i-j)):=gh λ_ _ _ _ _ _ _ q=>sub_int q
theorem Wi:OpR X (binaryOp .Mult) (rI fW λi j=>.int (i*j)):=opI λ_ _ _ _ _ _ _ hc q=>xc q hc.ok
theorem Zu:OpR X (binaryOp .Mod) (rI (λ_ j=>0<j) λi j=>.int (i % j)):=opI λi j _ _ _ _ _ hc q=>by
 have h1:(0:Int)<j:=hc
 exact mod_int' (by lia) (by rw[Int.fmod_eq_emod_of_nonneg i (by lia)];exact q)
theorem aX:OpR X (binaryOp .Pow) (rI jK λi j=>.int (i^j.toNat)):=opI λ_ _ _ _ _ _ _ hc q=>pow_int_small hc.1 hc.2.1 hc.2.2 q
theorem unI{f:j4->Sem j4}{g:Int->Int}(rule:∀(i:Int) (t:Tok) (s:j5) (Q:j4->j5->Prop) (E:j4->j5->Prop),Q (.int (g i) s.toks) {s with toks:=s.toks+1}->wpAny (model X.prog X.w) X.A (f (.int i t)) Q E s):UnR X f (rU λi=>.int (g i)):=by
 intro pins s σ H x v Q I rx h
 obtain⟨i,rfl,q⟩:=h
 obtain⟨t,rfl⟩:=rx
 exact rule i t s _ _ ⟨.int (g i),H,I.tok _,⟨_,rfl⟩,q⟩
theorem aF:UnR X (unaryOp .USub) (rU λi=>.int (-i)):=unI λ_ _ _ _ _ q=>neg_int q
end
section
variable{X:Cx}{a b c:ky}{ta tb tc:TE}{pos:Pos}
theorem XR{pins:Wp (j9×Obj)}{σ:St}{H:Hp}{s:j5}{Q:VK}{k k':lA}(I:Inv X pins σ H s)(q:Q (.bl k) H)(e:k=k'):EP X pins σ Q (.bool k') s:=by
 subst e
 exact⟨.bl k,H,I,rfl,q⟩
theorem eR:OpR X (compareOp .Lt) (rI0 λi j=>.bl (decide (i<j))):=eT λ_ _ _ _ _ _ _ q=>lt_int q
theorem fQ:OpR X (compareOp .Gt) (rI0 λi j=>.bl (decide (j<i))):=eT λ_ _ _ _ _ _ _ q=>gt_int q
theorem eX:OpR X (compareOp .GtE) (rI0 λi j=>.bl (decide (j<=i))):=eT λ_ _ _ _ _ _ _ q=>ge_int q
theorem aY:OpR X (compareOp .Is) (λx y H Q=>y=.non/\Q (.bl (decide (x=.non))) H):=by
 intro pins s σ H x y v u Q I rx ry h
 obtain⟨rfl,q⟩:=h
 cases ry
 refine is_none_gen (XR I q ?_)
 cases x<;>first
  |(cases rx;rfl)
  |(obtain⟨t,rfl⟩:=rx;rfl)
theorem YH:OpR X (compareOp .IsNot) (λx y H Q=>y=.non/\Q (.bl (!decide (x=.non))) H):=by
 intro pins s σ H x y v u Q I rx ry h
 obtain⟨rfl,q⟩:=h
 cases ry
 refine isnot_none_gen (XR I q ?_)
 cases x<;>first
  |(cases rx;rfl)
  |(obtain⟨t,rfl⟩:=rx;rfl)
theorem Y5{op:CmpOp}{r:R2}(ho:OpR X (compareOp op) r)(ha:PE X a ta)(hb:PE X b tb)(hm:behindInMarks op b=false):PE X (.Compare a [op] [b] pos) (tOp r ta tb):=by
 intro pins s σ H Q I h
 exact wpAny_Compare1 (dJ ha hb I h λv u s2 x y H2 I2 rx ry q=>ho pins s2 σ H2 x y v u Q I2 rx ry q) hm
noncomputable def bU(t:TE):TT:=λσ H Q=>t σ H λx H'=>∃k,x=.bl k/\Q k H'
theorem Yh{op:CmpOp}{r:R2}(ho:OpR X (compareOp op) r)(ha:PE X a ta)(hb:PE X b tb)(hm:behindInMarks op b=false):PT X (.Compare a [op] [b] pos) (bU (tOp r ta tb)):=by
 intro pins s σ H Q I h
 refine wpAny_isTrue_Compare1 (thn (ha pins s σ H _ I h) λv s1 ⟨x,H1,I1,r1,q1⟩=>thn (hb pins s1 σ H1 _ I1 q1) λu s2 ⟨y,H2,I2,r2,q2⟩=>
  thn (ho pins s2 σ H2 x y v u _ I2 r1 r2 q2) λc s3 ⟨z,H3,I3,r3,k,e,q3⟩=>?_) hm
 subst e
 cases r3
 exact rY ⟨H3,I3,q3⟩
theorem Nb:(sizeLine:Nat)<2^63:=by rw[qo];decide
theorem P9:OpR X (binaryOp .Add) (λx y H Q=>∃i j,x=.str i/\y=.str j/\i.length+j.length<=sizeLine/\Q (.str (i++j)) H):=by
 intro pins s σ H x y v u Q I rx ry h
 obtain⟨i,j,rfl,rfl,hz,q⟩:=h
 obtain⟨t,rfl⟩:=rx
 obtain⟨t',rfl⟩:=ry
 exact add_str (λt' tk=>⟨.str (i++j),H,I.tok _,⟨_,rfl⟩,q⟩) hz
theorem vals1{x:V}{us:Wp j4}(r:Vals [x] us):∃u,us=[u]/\RelV x u:=by
 cases r with
 |cons r1 r2=>cases r2;exact⟨_,rfl,r1⟩
theorem vals2{x y:V}{us:Wp j4}(r:Vals [x,y] us):∃u w',us=[u,w']/\RelV x u/\RelV y w':=by
 cases r with
 |cons r1 r2=>
  cases r2 with
  |cons r3 r4=>cases r4;exact⟨_,_,rfl,r1,r3⟩
theorem T5:Ep X (.builtin "abs") (λxs H Q=>∃i,xs=[.int i]/\Q (.int (if i<0 then-i else i)) H):=by
 intro pins s σ H xs us Q I r h
 obtain⟨i,rfl,q⟩:=h
 obtain⟨u,rfl,t,rfl⟩:=vals1 r
 exact call_abs_int λu tk=>⟨.int (if i<0 then-i else i),H,I.tok _,⟨_,rfl⟩,q⟩
theorem Rx(hc:X.calm=true):Ep X (.builtin "max") (λxs H Q=>∃i j,xs=[.int i,.int j]/\Q (.int (if j>i then j else i)) H):=by
 intro pins s σ H xs us Q I r h
 obtain⟨i,j,rfl,q⟩:=h
 obtain⟨u,w',rfl,⟨t,rfl⟩,⟨t',rfl⟩⟩:=vals2 r
 refine max_two_ints (I.ok.hd hc) λh' tk k=>⟨_,H,I.kept k,?_,q⟩
 by_cases hj:j>i
 .rw[kh hj,kh hj];exact⟨_,rfl⟩
 .rw[ko hj,ko hj];exact⟨_,rfl⟩
theorem Q7(hc:X.calm=true):Ep X (.builtin "min") (λxs H Q=>∃i j,xs=[.int i,.int j]/\Q (.int (if j<i then j else i)) H):=by
 intro pins s σ H xs us Q I r h
 obtain⟨i,j,rfl,q⟩:=h
 obtain⟨u,w',rfl,⟨t,rfl⟩,⟨t',rfl⟩⟩:=vals2 r
 refine min_two_ints (I.ok.hd hc) λh' tk k=>⟨_,H,I.kept k,?_,q⟩
 by_cases hj:j<i
 .rw[kh hj,kh hj];exact⟨_,rfl⟩
 .rw[ko hj,ko hj];exact⟨_,rfl⟩
theorem NY:Ep X (.type "int") (λxs H Q=>(∃i,xs=[.int i]/\Q (.int i) H)\/∃k,xs=[.bl k]/\Q (.int (if k then 1 else 0)) H):=by
 intro pins s σ H xs us Q I r h
 rcases h with⟨i,rfl,q⟩|⟨k,rfl,q⟩
 .obtain⟨u,rfl,t,rfl⟩:=vals1 r
  exact call_int_int ⟨.int i,H,I,⟨_,rfl⟩,q⟩
 .obtain⟨u,rfl,r1⟩:=vals1 r
  cases r1
  exact call_int_bool ⟨.int (if k then 1 else 0),H,I.tok _,⟨_,rfl⟩,q⟩
end
end L2
namespace L2
open PySem PySem.Spec PyProof.Rows
structure jh(h:lD)(x dx C:j9)(mA:Str->j6 j4):Prop where
 obj:h.get? x=Gc (wN C dx)
 ns:h.Ns1 dx mA
 ne:dx≠x
section
variable{prog:ke}{w:lB}{A:lF}{E:j4->j5->Prop}{s:j5}{K:jz}{x dx C f:j9}{mA:Str->j6 j4}{name:Str}{v:j4}
end
section
variable{P:ke}{w:lB}{H H':Hp}{h h':lD}{a C dx:j9}{fs fs':Wp (Str×V)}
end
structure Cls(K:jz)(C:j9):Prop where
 pg:PySem.W.plainGet K C Str.empty=true
 hd:PySem.W.hasDictIn K C=true
 po:PySem.W.plainOver K C=true
 sa:qM K (.ref C) "__setattr__"=Gc (Gc (.builtin "object.__setattr__"))
structure Con(K:jz)(C:j9)(f:Str)(v:V)(u:j4):Prop where
 at_:qM K (.ref C) f=Gc (Gc u)
 rel:RelV v u
 get:vH K u "__get__"=Gc none
 cp:PySem.W.copiedNames.contains f=false
structure Meth(K:jz)(C:j9)(m:Str)(f:j9):Prop where
 at_:qM K (.ref C) m=Gc (Gc (.ref f))
 fn:yo K (.ref f)=true
 kp:nX K (.ref f)=true
section
variable{X:Cx}{pins:Wp (j9×Obj)}{σ:St}{H:Hp}{s:j5}{a C dx:j9}{fs:Wp (Str×V)}{f:Str}{v:V}{A:lF}{E:j4->j5->Prop}
end
section
variable{X:Cx}{o e value:ky}{f:Str}{pos pos' tpos:Pos}{ta tv:TE}
end
section
variable{X:Cx}{pins:Wp (j9×Obj)}{σ:St}{H:Hp}{s:j5}{A:lF}{E:j4->j5->Prop}{Q:j4->j5->Prop}{c:j4}{b:lA}
inductive Qx(K:jz)(H:Hp):V->j4->Prop where
 |non:Qx K H .non (.type "NoneType")
 |bl (x:lA):Qx K H (.bl x) (.type "bool")
 |int (i:Int):Qx K H (.int i) (.type "int")
 |str (x:Str):Qx K H (.str x) (.type "str")
 |flt (x:UInt64):Qx K H (.flt x) (.type "float")
 |lst {a:j9} {xs:Wp V} (e:H a=Gc (.lst xs)):Qx K H (.ref a) (.type "list")
 |frz {a:j9} {o:Obj} {xs:Wp V} (e:H a=Gc (.frz o (.lst xs))):Qx K H (.ref a) (.type "list")
 |tup {a:j9} {xs:Wp V} (e:H a=Gc (.tup xs)):Qx K H (.ref a) (.type "tuple")
 |dK {a:j9} {kvs:Wp (Key×V)} (e:H a=Gc (.dK kvs)):Qx K H (.ref a) (.type "dict")
 |dT {a:j9} {kvs:Wp (Wp Key×V)} (e:H a=Gc (.dT kvs)):Qx K H (.ref a) (.type "dict")
 |ins {a C dx:j9} {fs:Wp (Str×V)} (e:H a=Gc (.ins C dx fs)) (cl:Cls K C) (ha:qM K (.ref C) "__class__"=Gc (Gc (.builtin "object.__class__")))
   (hn:vH K (.builtin "object.__class__") "__get__"=Gc (Gc (.builtin "getset_descriptor.__get__"))) (htk:PySem.W.takesIn K (.builtin "object.__class__")=Gc true)
   (hm:PySem.W.mroIn K C (.type "object")=Gc true):Qx K H (.ref a) (.ref C)
end
end L2
namespace L2
open PySem PySem.Spec PyProof.Rows
structure K8(k:Nat)(A:lF):Prop where
 hd:A.handled=none
 dp:A.depth+3*k+5<recursionLimit
 un:A.units+16*k+200<cLine
theorem K8.mono{j k:Nat}{A:lF}(r:K8 k A)(h:j<=k):K8 j A:=⟨r.hd,by have:=r.dp;lia,by have:=r.un;lia⟩
theorem K8.deeper{k:Nat}{A:lF}(r:K8 (k+1) A)(env:Env):K8 k (A.deeper env):=
 ⟨r.hd,by have:=r.dp;show A.depth+1+3*k+5<_;lia,by have:=r.un;show A.units+3+16*k+200<_;lia⟩
theorem K8.depth{k:Nat}{A:lF}(r:K8 k A):A.depth<recursionLimit:=by have:=r.dp;lia
noncomputable def gP:TA:=λ_ H Q=>Q [] H
noncomputable def Zn(ta:TE)(tr:TA):TA:=λσ H Q=>ta σ H λx H1=>tr σ H1 λxs H2=>Q (x::xs) H2
section
variable{X:Cx}{e:ky}{es:Wp ky}{te:TE}{t:TA}{pos:Pos}
theorem Sw:PA X [] gP:=λ_ _ _ _ H Q I h=>pK ⟨[],H,I,.nil,h⟩
theorem MN(ha:PE X e te)(hr:PA X es t)(hs:kc (e::es) X.env=(false,eval e X.env)::kc es X.env:=by rfl):PA X (e::es) (Zn te t):=by
 intro pos pins s σ H Q I h
 rw[hs]
 show wpAny _ _ (spliced ((false,eval e X.env)::backTo pos (kc es X.env))) _ _ s
 refine pF (thn (ha pins s σ H _ I h) λu s1 ⟨x,H1,I1,r1,q1⟩=>?_)
 exact thn (hr pos pins s1 σ H1 _ I1 q1) λus s2 ⟨xs,H2,I2,r2,q2⟩=>⟨x::xs,H2,I2,.cons r1 r2,q2⟩
noncomputable def iJ(t:TA):TE:=λσ H Q=>t σ H λxs H1=>xs.length<=sizeLine/\∀p,H1 p=none->Q (.ref p) (upd H1 p (.tup xs))
noncomputable def ip(t:TA):TE:=λσ H Q=>t σ H λxs H1=>xs.length<=sizeLine/\∀p,H1 p=none->Q (.ref p) (upd H1 p (.lst xs))
theorem Za{x1}(h:PA X es t):PE X (.Tuple es x1 pos) (iJ t):=by
 intro pins s σ H Q I hq
 refine wpAny_Tuple_spliced (thn (h pos pins s σ H _ I hq) λus s1 ⟨xs,H1,I1,r,z,q⟩=>⟨by rw[<-r.length];exact z,?_⟩)
 have hf:H1 s1.heap.objs.size=none:=I1.hok.fresh (kA _)
 refine⟨.ref s1.heap.objs.size,upd H1 s1.heap.objs.size (.tup xs),I1.laid (t':=s1.toks) (λb u e=>j0 _ e) (kA _) ?_,rfl,q _ hf⟩
 exact⟨z,us,r,⟨_,kH _ rfl,rfl,_,rfl⟩⟩
theorem aH(h:PA X es t):PE X (.List es pos) (ip t):=by
 intro pins s σ H Q I hq
 refine wpAny_List_spliced (thn (h pos pins s σ H _ I hq) λus s1 ⟨xs,H1,I1,r,z,q⟩=>⟨by rw[<-r.length];exact z,?_⟩)
 have hf:H1 s1.heap.objs.size=none:=I1.hok.fresh (kA _)
 refine⟨.ref s1.heap.objs.size,upd H1 s1.heap.objs.size (.lst xs),I1.laid (t':=s1.toks) (λb u e=>j0 _ e) (kA _) ?_,rfl,q _ hf⟩
 exact⟨z,us,0,r,kH _ rfl⟩
end
abbrev Sp:=Wp V->Hp->VK->XK->Prop
abbrev CXT:=Wp Env->Hp->j5->XK->j4->j5->Prop
structure cF(P:ke)(w:lB)(K:jz)(mg:Str->j6 j4)(base:lD)(A:lF)(outer:Wp Env)(s:j5)(H:Hp):Prop where
 frames:A.frames=Gc outer
 mod:Mod K mg base
 bs:∀b o,base.get? b=Gc o->s.heap.get? b=Gc o/\H b=none
 bsz:base.objs.size<=s.heap.objs.size
 SI:s.heap.FunFrames base outer
 frf:∀b∈frs outer,H b=none
 hok:HOk P w H s.heap
 bare:rX s.gens
def CE(outer:Wp Env)(P:ke)(w:lB)(H:Hp)(s:j5)(Q:VK)(u:j4)(s':j5):Prop:=
 ∃v H',s'.os=s.os/\rX s'.gens/\Un (frs outer) [] H H' s.heap s'.heap/\HOk P w H' s'.heap/\RelV v u/\Q v H'
def CR(CX:CXT)(outer:Wp Env)(P:ke)(w:lB)(H:Hp)(s:j5)(Q:VK)(E:XK)(r:uo)(s':j5):Prop:=
 match r with
 | .ok (.ret u)=>CE outer P w H s Q u s'
 | .ok _=>ou
 | .error e=>CX outer H s E e s'
structure Nn(P:ke)(w:lB)(K:jz)(mg:Str->j6 j4)(base:lD)(CX:CXT)(k:Nat)(f:j9)(fd:nB)(ps:Wp Str)(sp:Sp):Prop where
 len:∀vs H Q E,sp vs H Q E->vs.length=ps.length
 run:∀(A:lF) (outer:Wp Env) (s:j5) (H:Hp) (args:Args) (us:Wp j4) (vs:Wp V) (Q:VK) (E:XK),K8 k A->cF P w K mg base A outer s H->vI s fd args (ps.zip us)->Vals vs us->sp vs H Q E->
  codeAny (model P w) A (.call (.ref f) args) (CR CX outer P w H s Q E) s
theorem Nn.imp{P:ke}{w:lB}{K:jz}{mg:Str->j6 j4}{base:lD}{CX:CXT}{k:Nat}{f:j9}{fd:nB}{ps:Wp Str}{sp sp':Sp}(F:Nn P w K mg base CX k f fd ps sp)(h:∀vs H Q E,sp' vs H Q E->sp vs H Q E):Nn P w K mg base CX k f fd ps sp':=
 ⟨λvs H Q E q=>F.len vs H Q E (h _ _ _ _ q),λA outer s H args us vs Q E hr he hb hv hs=>F.run A outer s H args us vs Q E hr he hb hv (h _ _ _ _ hs)⟩
section
variable{X:Cx}{pins:Wp (j9×Obj)}{σ:St}{H:Hp}{s s':j5}
theorem Inv.iw(I:Inv X pins σ H s):cF X.prog X.w X.K X.mg X.base X.A X.stack s H:=
 ⟨I.ok.frames,I.ok.mod,I.bs,kF I.ok.bsz I.sz,I.stack,I.Q0,I.hok,I.bare⟩
theorem Inv.after{Q:VK}{u:j4}(I:Inv X pins σ H s)(h:CE X.stack X.prog X.w H s Q u s'):EP X pins σ Q u s':=by
 obtain⟨v,H',os,bare,un,hok,r,q⟩:=h
 obtain⟨hh,g,d,t,os'⟩:=s'
 obtain rfl:os'=s.os:=os
 exact⟨v,H',I.call (h':=hh) (g':=g) (d':=d) (t':=t) (ch:=[]) un hok bare (λb z=>absurd z (by simp)),r,q⟩
end
noncomputable def Xr(sp:Sp)(dvs:Wp V)(E:XK)(t:TA):TE:=λσ H Q=>t σ H λvs H1=>sp (vs++dvs) H1 Q E
def Binds(K:jz)(fd:nB)(ps:Wp Str)(ds:Wp j4):Prop:=
 ∀(s:j5) (us:Wp j4),K.In s.heap->(us++ds).length=ps.length->vI s fd ⟨us,[]⟩ (ps.zip (us++ds))
theorem Binds.all{K:jz}{fd:nB}{ps:Wp Str}(h:∀us:Wp j4,us.length=ps.length->bindArgs fd ⟨us,[]⟩=pure (ps.zip us)):Binds K fd ps []:=λs us _ hl=>by
 rw[qA]at hl⊢
 exact .of_eq (h us hl)
def Passes(CX:CXT)(X:Cx)(E:XK):Prop:=∀(pins:Wp (j9×Obj)) (σ:St) (H:Hp) (s:j5) (e:j4) (s':j5),Inv X pins σ H s->CX X.stack H s E e s'->X.xe e s'
section
variable{X:Cx}{CX:CXT}{k:Nat}{f C:j9}{fd:nB}{ps:Wp Str}{sp:Sp}{dvs:Wp V}{ds:Wp j4}{E:XK}{x m:Str}{p pos apos:Pos}{e o:ky}{es:Wp ky}{ta:TE}{t:TA}
theorem ZQ{pins:Wp (j9×Obj)}{σ:St}{H:Hp}{s:j5}{Q:VK}{us:Wp j4}{vs:Wp V}(F:Nn X.prog X.w X.K X.mg X.base CX k f fd ps sp)(hr:K8 k X.A)(hb:Binds X.K fd ps ds)(hd:Vals dvs ds)(hx:Passes CX X E)(I:Inv X pins σ H s)(r:Vals vs us)(h:sp (vs++dvs) H Q E):wpAny (model X.prog X.w) X.A (call (.ref f) us) (EP X pins σ Q) X.xe s:=by
 have r2:Vals (vs++dvs) (us++ds):=r.append hd
 have hl:(us++ds).length=ps.length:=by rw[<-r2.length];exact F.len _ _ _ _ h
 refine wpAny_call (qN (F.run X.A X.stack s H ⟨us,[]⟩ (us++ds) (vs++dvs) Q E hr I.iw (hb s us I.kIn hl) r2 h) λr s' hq=>?_)
 cases r with
 |error e=>exact hx pins σ H s e s' I hq
 |ok fl=>
  cases fl with
  |ret u=>exact I.after hq
  |next=>exact oY hq
  |brk=>exact oY hq
  |cont=>exact oY hq
theorem Yl(F:Nn X.prog X.w X.K X.mg X.base CX k f fd ps sp)(hr:K8 k X.A)(hg:Gl X x)(hm:X.mg x=Gc (.ref f))(hk:nX X.K (.ref f)=true)(hb:Binds X.K fd ps ds)(hd:Vals dvs ds)(hx:Passes CX X E)(ha:PA X (e::es) t)(hdb:(x==("__debug__":Str))=false:=by decide)(he:kc (e::es) X.env=(false,eval e X.env)::kc es X.env:=by rfl)(hpl:(backTo pos (kc es X.env)).any (·.1)=false:=by rfl):PE X (.Call (.Name x p) (e::es) [] pos) (Xr sp dvs E t):=by
 intro pins s σ H Q I h
 refine nY (Xg I hg hm ?_ hdb)
 refine PySem.W.callWith_K (h₀:=X.base) I.ok.mod.kin hk (thn (ha pos pins s σ H _ I h) λus s1 ⟨vs,H1,I1,r,q⟩=>⟨I1.kIn,?_⟩) he hpl
 exact ZQ F hr hb hd hx I1 r q
structure Mk(K:jz)(C f:j9):Prop where
 makes:PySem.W.makesIn K C=true
 init:qM K (.ref C) "__init__"=Gc (Gc (.ref f))
 fn:yo K (.ref f)=true
 kp:nX K (.ref C)=true
end
section
variable{X:Cx}{CX:CXT}{k:Nat}{f C:j9}{fd:nB}{ps ks:Wp Str}{sp:Sp}{E:XK}{x m:Str}{p pos apos kpos:Pos}{e o:ky}{es:Wp ky}{kws:Wp rZ}{te ta:TE}{t tk:TA}{nm:j6 Str}
structure gm(K:jz)(fd:nB)(ps ks:Wp Str)(g:Wp j4->Wp j4->Wp j4)(gV:Wp V->Wp V->Wp V):Prop where
 to:∀(s:j5) (us ws:Wp j4),K.In s.heap->(g us ws).length=ps.length->vI s fd ⟨us,ks.zip ws⟩ (ps.zip (g us ws))
 rel:∀{vs:Wp V} {us:Wp j4} {zs:Wp V} {ws:Wp j4},Vals vs us->Vals zs ws->Vals (gV vs zs) (g us ws)
variable{g:Wp j4->Wp j4->Wp j4}{gV:Wp V->Wp V->Wp V}
end
structure AY(N P:Wp Str)(sc:m9):Prop where
 kind:sc.kind=.function
 co:sc.isCoroutine=false
 gen:sc.isGenerator=false
 nd:N.Nodup
 pre:N.take P.length=P
 par:∀x∈P,sc.names.lookup x=Gc .local\/sc.names.lookup x=Gc .cell
 bP:∀y∈sc.names,y.2≠.free
theorem Nr{kindOf:Str->j6 oS}{x:Str}:∀{binds:Wp (Str×j4)} {m:Str->j6 j4},(∀v,(x,v)∉binds)->bindL kindOf binds m x=m x
 | [],_,_=>rfl
 |(n,v)::r,m,h=>by
  unfold bindL
  rw[Nr λw hw=>h w (kC _ hw)]
  split
  .have:x≠n:=by rintro rfl;exact h v kJ
   simp[this]
  .rfl
theorem Nc{kindOf:Str->j6 oS}{x:Str}:∀{binds:Wp (Str×j4)} {m:Str->j6 j4},(∀v,(x,v)∉binds)->bindC kindOf binds m x=m x
 | [],_,_=>rfl
 |(n,v)::r,m,h=>by
  unfold bindC
  rw[Nc λw hw=>h w (kC _ hw)]
  split
  .rfl
  .have:x≠n:=by rintro rfl;exact h v kJ
   simp[this]
theorem NI{kindOf:Str->j6 oS}{x:Str}{v:j4}:∀{P:Wp Str} {vs:Wp j4} {i:Nat} {m:Str->j6 j4},P.Nodup->P[i]?=Gc x->vs[i]?=Gc v->kindOf x=Gc .local->bindL kindOf (P.zip vs) m x=Gc v
 | [],_,_,_,_,h,_,_=>by simp at h
 |_::_,[],_,_,_,_,h,_=>by simp at h
 |p::P,w::vs,0,m,nd,h1,h2,hk=>by
  simp at h1 h2;subst h1;subst h2
  show bindL kindOf ((p,w)::P.zip vs) m p=_
  unfold bindL
  rw[Nr λv hv=>(nH.mp nd).1 (qB hv).1,kh hk]
  simp
 |p::P,w::vs,i+1,m,nd,h1,h2,hk=>by
  show bindL kindOf ((p,w)::P.zip vs) m x=_
  unfold bindL
  exact NI (i:=i) (nH.mp nd).2 (by simpa using h1) (by simpa using h2) hk
theorem OC{kindOf:Str->j6 oS}{x:Str}{v:j4}:∀{P:Wp Str} {vs:Wp j4} {i:Nat} {m:Str->j6 j4},P.Nodup->P[i]?=Gc x->vs[i]?=Gc v->kindOf x≠Gc .local->bindC kindOf (P.zip vs) m x=Gc v
 | [],_,_,_,_,h,_,_=>by simp at h
 |_::_,[],_,_,_,_,h,_=>by simp at h
 |p::P,w::vs,0,m,nd,h1,h2,hk=>by
  simp at h1 h2;subst h1;subst h2
  show bindC kindOf ((p,w)::P.zip vs) m p=_
  unfold bindC
  rw[Nc λv hv=>(nH.mp nd).1 (qB hv).1,ko hk]
  simp
 |p::P,w::vs,i+1,m,nd,h1,h2,hk=>by
  show bindC kindOf ((p,w)::P.zip vs) m x=_
  unfold bindC
  exact OC (i:=i) (nH.mp nd).2 (by simpa using h1) (by simpa using h2) hk
noncomputable def start(N:Wp Str)(vs:Wp V):St:=vs.map Gc++kZ (N.length-vs.length) none
noncomputable def Uw(CX:CXT)(P:ke)(w:lB)(K:jz)(mg:Str->j6 j4)(base:lD)(N:Wp Str)(qual:Str)(scope:m9)(f:j9)(cd:j4)(A:lF)(outer:Wp Env)(s:j5)(H:Hp)(E:XK):Cx where
 prog:=P
 w:=w
 K:=K
 mg:=mg
 base:=base
 A:=A.deeper (envOfC qual scope s.heap.objs.size f cd)
 N:=N
 s₀:=s
 H₀:=H
 env:=envOfC qual scope s.heap.objs.size f cd
 outer:=outer
 stack:=envOfC qual scope s.heap.objs.size f cd::outer
 ex:=[]
 calm:=true
 fn:=λ_=>true
 pn:=[]
 xe:=λe s'=>wpAny (model P w) (A.deeper (envOfC qual scope s.heap.objs.size f cd)) (leaving (envOfC qual scope s.heap.objs.size f cd) e) (λ_ s''=>CX outer H s E e s'') (λe' s''=>CX outer H s E e' s'') s'
theorem Jr{sc:m9}{n:Nat}{x:Str}(h:sc.names.lookup x=Gc .cell):∃c,(cellsFrom n sc.names []).lookup x=Gc c:=by
 have q:=si sc.names n [] (.inl h)
 exact sF.mp q
theorem QX{CX:CXT}{P:ke}{w:lB}{K:jz}{mg:Str->j6 j4}{base:lD}{N ps:Wp Str}{qual:Str}{scope:m9}{f:j9}{cd:j4}{A:lF}{outer:Wp Env}{s s1:j5}{H:Hp}{E:XK}{us:Wp j4}{vs:Wp V}(S:AY N ps scope)(hd:A.handled=none)(e0:cF P w K mg base A outer s H)(hl:vs.length=ps.length)(r:Vals vs us)(x:InCallC s s.heap.objs.size (bindL (envOfC qual scope s.heap.objs.size f cd).kindOf (ps.zip us) λ_=>none) (cellsFrom (s.heap.objs.size+1) scope.names []) (bindC (envOfC qual scope s.heap.objs.size f cd).kindOf (ps.zip us) λ_=>none) s1):Inv (Uw CX P w K mg base N qual scope f cd A outer s H E) [] (start N vs) H s1:=by
 have hpl:ps.length<=N.length:=by have:=congrArg rf S.pre;rw[oT]at this;lia
 obtain⟨h1,tk,rfl,hk⟩:=x.done
 have noA:∀b:j9,b∉(Uw CX P w K mg base N qual scope f cd A outer s H E).ex:=λb z=>absurd (show b∈([]:Wp j9)from z) (by simp)
 refine⟨⟨e0.mod,S.kind,rfl,rfl,kA _,λy z c h1 h2=>?_,λy hy=>?_,λy c _ h=>?_,λ_=>hd,Around.frames_deeper e0.frames,.inr ⟨rfl,rfl⟩,λb z=>absurd z (noA b),e0.bs,e0.bsz,λb _ _=>noA b,λb z=>absurd z (noA b),e0.SI,e0.frf⟩,
  rfl,e0.bare,Un.kept hk,⟨_,x.toInCall.ns,λi y v h1 h2 h3=>?_⟩,λy c h=>⟨_,x.cell y c h⟩,e0.hok.fresh (kA _),λy c h=>?_,λp hp=>absurd (show p∈([]:Wp (j9×Obj))from hp) (by simp),e0.hok.kept hk,?_⟩
 .exact yp x.apart (lh h1) (lh h2)
 .have hy:scope.names.lookup y=Gc .cell\/scope.names.lookup y=Gc .free:=hy
  rcases hy with hy|hy
  .exact Jr hy
  .exact absurd rfl (S.bP _ (lh hy))
 .exact mN (x.above y c (lh h))
 .have hi:i<vs.length:=by
   unfold start at h2
   by_cases hi:i<vs.length
   .exact hi
   .rw[lG (by simpa using hi)]at h2
    rw[sR]at h2
    split at h2<;>cases h2
  have ha:vs[i]?=Gc v:=by
   unfold start at h2
   rw[j8 (by simpa using hi),kn]at h2
   cases e:vs[i]? with
   |none=>rw[e]at h2;cases h2
   |some a=>rw[e]at h2;cases h2;rfl
  obtain⟨u,hu,rv⟩:=r.get ha
  have hp:ps[i]?=Gc y:=by
   rw[<-S.pre,List.getElem?_take_of_lt (by lia)];exact h1
  have ndP:ps.Nodup:=by rw[<-S.pre];exact S.nd.sublist (qO _ _)
  refine⟨u,rv,?_⟩
  rcases S.par y (kW hp)with k|k
  .exact .inl ⟨k,NI ndP hp hu k⟩
  .obtain⟨c,e⟩:=Jr (n:=s.heap.objs.size+1) k
   refine .inr ⟨.inl k,c,e,?_⟩
   have q:=x.cell y c e
   rw[OC ndP hp hu (by show scope.names.lookup y≠_;rw[k];decide)]at q
   exact q
 .exact e0.hok.fresh (mN (x.above y c (lh h)))
 .unfold start
  show _=N.length
  rw[lK,kT,List.length_replicate]
  lia
theorem eW{CX:CXT}{P:ke}{w:lB}{K:jz}{mg:Str->j6 j4}{base:lD}{k:Nat}{f:j9}{name qual:Str}{params:Arguments}{body:Wp lY}{scope:m9}{dV kV doc pm cdv ct oc:j4}{an od:j6 j9}{osl:kj (j6 j4)}{N ps:Wp Str}{sp:Sp}(lk:K.lookup f=Gc ⟨oc,od,.func (oa name qual params body scope dV kV doc pm an cdv ct),osl⟩)(hcd:rG K cdv qual=true)(S:AY N ps scope)(len:∀vs H Q E,sp vs H Q E->vs.length=ps.length)(hbody:∀(A:lF) (outer:Wp Env) (s:j5) (H:Hp) (vs:Wp V) (Q:VK) (E:XK),K8 k (A.deeper (envOfC qual scope s.heap.objs.size f cdv))->sp vs H Q E->∃t,PSs (Uw CX P w K mg base N qual scope f cdv A outer s H E) body t/\t {nx:=λ_ H'=>Q .non H',rt:=Q} (start N vs) H):Nn P w K mg base CX (k+1) f (oa name qual params body scope dV kV doc pm an cdv ct) ps sp:=by
 refine⟨len,λA outer s H args us vs Q E hr e0 hb r hsp=>?_⟩
 have hl:=len _ _ _ _ hsp
 have KX:K.In s.heap:=e0.mod.kin.keeps λb o e=>(e0.bs b o e).1
 have lim:s.heap.NoLimit:=e0.mod.nolimit.keeps λb o e=>(e0.bs b o e).1
 have hkind:∀y∈ps.zip us,scope.names.lookup y.1=Gc .local\/(scope.names.lookup y.1=Gc .cell/\((cellsFrom (s.heap.objs.size+1) scope.names []).lookup y.1).isSome=true):=λ⟨n,v⟩ hy=>by
  rcases S.par n (qB hy).1 with q|q
  .exact .inl q
  .exact .inr ⟨q,si _ _ _ (.inl q)⟩
 refine codeAny_call_function hr.depth (KX _ _ lk) rfl S.co S.gen rfl (PySem.W.codeRec_of KX hcd) (hb _ _ _ _ ?_)
 refine wpAny_newFunctionEnv_cells S.kind hkind λenv he s1 x=>?_
 subst he
 refine⟨lim.keeps x.toInCall.keep,codeAny_func ?_⟩
 obtain⟨t,ht,hq⟩:=hbody A outer s H vs Q E (hr.deeper _) hsp
 have I:Inv (Uw CX P w K mg base N qual scope f cdv A outer s H E) [] (start N vs) H s1:=QX S hr.hd e0 hl r x
 refine qd (ht [] s1 (start N vs) H _ I hq) (λfl s' hs=>?_) λe s' hs=>hs
 have fin:∀{σ':St} {H':Hp} {v:V} {u:j4},Inv (Uw CX P w K mg base N qual scope f cdv A outer s H E) [] σ' H' s'->RelV v u->Q v H'->CE outer P w H s Q u s':=
  λ{σ' H' v u} J rv q=>⟨v,H',J.os,J.bare,J.base,J.hok,rv,q⟩
 cases fl with
 |ret u=>
  obtain⟨v,σ',H',J,rv,q⟩:=hs
  exact fin J rv q
 |next=>
  obtain⟨σ',H',J,q⟩:=hs
  exact fin (v:=V.non) (u:=mI) J rfl q
 |brk=>
  obtain⟨_,_,_,q⟩:=hs
  exact oY q
 |cont=>
  obtain⟨_,_,_,q⟩:=hs
  exact oY q
end L2
namespace L2
open PySem PySem.Spec PyProof.Rows
section
variable{X:Cx}{x:Str}{p pos:Pos}{e:ky}{es:Wp ky}{t:TA}{id T:pE}{r:Wp V->Hp->VK->Prop}
noncomputable def tCB(r:Wp V->Hp->VK->Prop)(t:TA):TE:=λσ H Q=>t σ H λvs H1=>r vs H1 Q
theorem UA(hc:Ep X (.builtin id) r)(hg:Gl X x)(hm:X.mg x=none)(hv:bootBuiltins x=Gc (.builtin id))(ha:PA X (e::es) t)(hn:x≠ "__name__":=by decide)(hdb:(x==("__debug__":Str))=false:=by decide)(he:kc (e::es) X.env=(false,eval e X.env)::kc es X.env:=by rfl)(hpl:(backTo pos (kc es X.env)).any (·.1)=false:=by rfl):PE X (.Call (.Name x p) (e::es) [] pos) (tCB r t):=by
 intro pins s σ H Q I h
 refine nY (JI I hg hm hv ?_ hn hdb)
 exact qe (thn (ha pos pins s σ H _ I h) λus s1 ⟨vs,H1,I1,r1,q1⟩=>hc pins s1 σ H1 vs us Q I1 r1 q1) he hpl
theorem N1(hc:Ep X (.type T) r)(hg:Gl X x)(hm:X.mg x=none)(hv:bootBuiltins x=Gc (.type T))(ha:PA X (e::es) t)(hn:x≠ "__name__":=by decide)(hdb:(x==("__debug__":Str))=false:=by decide)(he:kc (e::es) X.env=(false,eval e X.env)::kc es X.env:=by rfl)(hpl:(backTo pos (kc es X.env)).any (·.1)=false:=by rfl):PE X (.Call (.Name x p) (e::es) [] pos) (tCB r t):=by
 intro pins s σ H Q I h
 refine nY (JI I hg hm hv ?_ hn hdb)
 exact nO (thn (ha pos pins s σ H _ I h) λus s1 ⟨vs,H1,I1,r1,q1⟩=>hc pins s1 σ H1 vs us Q I1 r1 q1) he hpl
end
end L2
namespace HT
open PySem PyProof.Rows
section
open PySem.SeqAt
open PySem.AutoSeq1 (wpAny_loadPart')
open PySem.MeetsSeq PySem.MeetsSeq2 PySem.MeetsSeq3
end
section
variable{prog:ke}{w:lB}{A:lF}{E:j4->j5->Prop}{s:j5}
theorem Yb{t b:j9}{vs ws:Wp j4}{Q:j4->j5->Prop}(ht:zp s.heap t vs.toArray)(hb:zp s.heap b ws.toArray)(hv:vs≠[])(h1:ws=[]->Q (.ref t) s)(h2:ws≠[]->Q (.ref s.heap.objs.size) {s with heap:=s.heap.push {cls:=.type "tuple",data:=.seq (vs++ws).toArray}})(hsz:vs.length+ws.length<=sizeLine):wpAny (model prog w) A (binaryOp .Add (.ref t) (.ref b)) Q E s:=by
 obtain⟨⟨cls,dd,data,sl⟩,ho,hc,n,hd⟩:=id ht
 obtain⟨⟨cls2,dd2,data2,sl2⟩,ho2,hc2,n2,hd2⟩:=id hb
 simp only at hc hd hc2 hd2
 subst hc hd hc2 hd2
 have e:vs.toArray++ws.toArray=(vs++ws).toArray:=by simp
 by_cases hw:ws=[]
 .exact vJ ⟨_,ho,rfl⟩ ⟨_,ho2,rfl⟩ sS uc qP qG (pf _ _)
   (tuple_addW1 t b vs.toArray ws.toArray n n2 dd dd2 sl sl2 (by simpa using hv) (by simp[hw])) ⟨ho,ho2,h1 hw⟩
 .refine vJ ⟨_,ho,rfl⟩ ⟨_,ho2,rfl⟩ sS uc qP qG (pf _ _)
   (tuple_addW2 t b vs.toArray ws.toArray n n2 dd dd2 sl sl2 (by simpa using hv) (by simpa using hw) (by rw[kM,kM];exact hsz)) ⟨ho,ho2,?_⟩
  rw[e]
  exact h2 hw
noncomputable def sIx(n d:Nat):j6 Int->Nat
 |none=>d
 |some v=>if v<0 then(v+(n:Int)).toNat else min v.toNat n
theorem Ov(n d k:Nat):sIx n d (Gc (k:Int))=min k n:=by
 show(if(k:Int)<0 then((k:Int)+(n:Int)).toNat else min (k:Int).toNat n)=min k n
 rw[ko (by lia),pH]
theorem bK(n d:Nat)(hd:d<=n)(o:j6 Int):sIx n d o<=n:=by
 cases o with
 |none=>exact hd
 |some v=>
  show(if v<0 then(v+(n:Int)).toNat else min v.toNat n)<=n
  by_cases hv:v<0
  .rw[kh hv];lia
  .rw[ko hv];exact vp _ _
theorem Qc(v:Int)(n d:Nat):(if v<0 then max (v+(n:Int)) 0 else min v (n:Int))=((sIx n d (Gc v):Nat):Int):=by
 show(if v<0 then max (v+(n:Int)) 0 else min v (n:Int))=(((if v<0 then(v+(n:Int)).toNat else min v.toNat n):Nat):Int)
 by_cases hv:v<0
 .simp only[kh hv];lia
 .simp only[ko hv];lia
theorem QG(lo hi:j6 Int)(n:Nat):pU lo hi 1 (n:Int)=(((sIx n 0 lo:Nat):Int),((sIx n n hi:Nat):Int)):=by
 have h1:¬((1:Int)<0):=by lia
 unfold pU
 simp only[h1,pL]
 refine Prod.ext ?_ ?_
 .cases lo with
  |none=>rfl
  |some v=>exact Qc v n 0
 .cases hi with
  |none=>rfl
  |some v=>exact Qc v n n
theorem QT(i j:Nat):oA (i:Int) (j:Int) 1=j-i:=by
 unfold oA
 have h1:(1:Int)>0:=by lia
 simp only[h1,qk,Int.ediv_one]
 split<;>lia
theorem Lu{v:j4}{o:j6 Int}{Q:j6 Int->j5->Prop}(p:sj v o)(h:Q o s):wpAny (model prog w) A (wO v) Q E s:=by
 cases p with
 |none=>exact xA h
 |int i t=>exact slicePart_int h
theorem GO{sl:j9}{vl vu:j4}{lo hi:j6 Int}{n:Nat}{Q:Int×Int×Nat->j5->Prop}(hs:s.heap.IsSliceOf sl vl vu .none)(pl:sj vl lo)(pu:sj vu hi)(h:Q (((sIx n 0 lo:Nat):Int),1,sIx n n hi-sIx n 0 lo) s):wpAny (model prog w) A (rH (.ref sl) (pure (n:Int))) Q E s:=by
 obtain⟨os,hos,hcs,hds⟩:=id hs
 unfold rH xf
 refine jy (jy (nT hos hds (x:=vl) rfl (jy (nT hos hds (x:=vu) rfl (jy (nT hos hds (x:=.none) rfl (j7 ?_)))))))
 refine jy (xA ?_)
 show wpAny _ _ (if((1:Int)==0)=true then _ else _) _ _ s
 rw[ko (by decide)]
 refine jy (Lu pl (jy (Lu pu (jy (j7 ?_)))))
 show wpAny _ _ (match pU lo hi 1 (n:Int)with|(lo,hi)=>pure (lo,(1:Int),oA lo hi 1)) _ _ s
 rw[QG lo hi n]
 show wpAny _ _ (pure (((sIx n 0 lo:Nat):Int),(1:Int),oA ((sIx n 0 lo:Nat):Int) ((sIx n n hi:Nat):Int) 1)) _ _ s
 rw[QT]
 exact j7 h
theorem Vr(xs:kj j4)(i k:Nat):((kq k).filterMap λ(m:Nat)=>xs[((i:Int)+(m:Int)*1).toNat]?).toArray=((xs.toList.drop i).take k).toArray:=by
 have e:(λ(m:Nat)=>xs[((i:Int)+(m:Int)*1).toNat]?)=λm=>xs[i+m]?:=by
  funext m
  have:((i:Int)+(m:Int)*1).toNat=i+m:=by lia
  rw[this]
 rw[e]
 have:=pick_run xs i k
 rw[List.filterMap_map]at this
 have e2:((λx=>xs[x]?)∘λx=>i+x)=λm=>xs[i+m]?:=rfl
 rw[e2]at this
 rw[this]
theorem Io{t sl:j9}{items:kj j4}{vl vu:j4}{lo hi:j6 Int}{Q:j4->j5->Prop}(ht:zp s.heap t items)(hs:s.heap.IsSliceOf sl vl vu .none)(pl:sj vl lo)(pu:sj vu hi)(hw:¬(sIx items.size 0 lo=0/\sIx items.size items.size hi=items.size))(h:Q (.ref s.heap.objs.size) {s with heap:=s.heap.push {cls:=.type "tuple",data:=.seq ((items.toList.drop (sIx items.size 0 lo)).take (sIx items.size items.size hi-sIx items.size 0 lo)).toArray}})(hsz:items.size<=sizeLine):wpAny (model prog w) A (getItem (.ref t) (.ref sl)) Q E s:=by
 have htake:sizeOk (.seq ((items.toList.drop (sIx items.size 0 lo)).take (sIx items.size items.size hi-sIx items.size 0 lo)).toArray):=by
  show((items.toList.drop (sIx items.size 0 lo)).take (sIx items.size items.size hi-sIx items.size 0 lo)).toArray.size<=sizeLine
  rw[kM,oT,vq,lg]
  lia
 have hj:sIx items.size items.size hi<=items.size:=bK _ _ (kA _) hi
 obtain⟨os,hos,hcs,hds⟩:=id hs
 have hTs:s.TypeIs (.ref sl) "slice":=⟨os,hos,hcs⟩
 unfold getItem
 try with_reducible refine lM ?_
 first|refine jy (j7 ?_)|skip
 refine jy (vK ht.typeIs (by decide) ?_)
 refine jy (lO (name:=lq "__getitem__") ht.typeIs lW
  (lL lW ht.typeIs uV ?_ (uq _ _)))
 show wpAny _ _ (rJ (.ref t) >>= _) _ _ s
 refine jy (xv ht ?_)
 refine jy (pR hTs ?_)
 rw[kh (by decide)]
 refine jy (GO hs pl pu ?_)
 have hno:¬((((sIx items.size 0 lo:Nat):Int)==0 && (1:Int)==1 && (sIx items.size items.size hi-sIx items.size 0 lo)==items.size)=true):=by
  intro q
  rw[kQ,kQ]at q
  have q1:((sIx items.size 0 lo:Nat):Int)=0:=eq_of_beq q.1.1
  have q2:sIx items.size items.size hi-sIx items.size 0 lo=items.size:=eq_of_beq q.2
  exact hw ⟨by lia,by lia⟩
 show wpAny _ _ (if(((sIx items.size 0 lo:Nat):Int)==0 && (1:Int)==1 && (sIx items.size items.size hi-sIx items.size 0 lo)==items.size)=true then _ else _) _ _ s
 rw[ko hno,Vr]
 first
  |exact jy (m:=oK _) (lN (j7 ⟨_,rfl,j7 h⟩) htake)
  |exact jy (m:=oK _) (lN (jy (j7 (j7 ⟨_,rfl,j7 h⟩))) htake)
  |exact jy (jy (m:=oK _) (lN (j7 (j7 ⟨_,rfl,j7 h⟩)) htake))
  |exact jy (jy (m:=oK _) (lN (j7 ⟨_,rfl,j7 h⟩) htake))
end
end HT
namespace L2
open PySem PySem.Spec PyProof.Rows
abbrev TO:=St->Hp->(j6 Int->Hp->Prop)->Prop
def PO(X:Cx)(e:j6 ky)(t:TO):Prop:=
 ∀(pins:Wp (j9×Obj)) (s:j5) (σ:St) (H:Hp) (Q:j6 Int->Hp->Prop),Inv X pins σ H s->t σ H Q->
  wpAny (model X.prog X.w) X.A (evalPart e X.env) (λu s'=>∃o H',Inv X pins σ H' s'/\sj u o/\Q o H') X.xe s
noncomputable def YC:TO:=λ_ H Q=>Q none H
noncomputable def fT(t:TE):TO:=λσ H Q=>t σ H λx H1=>∃i,x=.int i/\Q (Gc i) H1
theorem intsAre_of{ns:Wp Int}:∀{us:Wp j4},Vals (ns.map V.int) us->nD us ns:=by
 induction ns with
 |nil=>intro us r;rw[mE]at r;cases r;exact .nil
 |cons n ns ih=>
  intro us r
  rw[kU]at r
  cases r with
  |cons r1 r2=>
   obtain⟨t,e⟩:=r1
   subst e
   exact .cons n t (ih r2)
section
variable{X:Cx}{e:ky}{te:TE}{lo hi:j6 ky}{tl th:TO}{pos p2:Pos}
theorem Rz:PO X none YC:=by
 intro pins s σ H Q I h
 rw[xw]
 exact j7 ⟨none,H,I,.none,h⟩
theorem MY(h:PE X e te):PO X (Gc e) (fT te):=by
 intro pins s σ H Q I hw
 rw[evalPart_some]
 refine thn (h pins s σ H _ I hw) λu s1 ⟨x,H1,I1,r1,q1⟩=>?_
 obtain⟨i,rfl,q⟩:=q1
 obtain⟨t,rfl⟩:=r1
 exact⟨Gc i,H1,I1,.int i t,q⟩
def SlR(X:Cx)(r:V->j6 Int->j6 Int->Hp->VK->Prop):Prop:=
 ∀(pins:Wp (j9×Obj)) (s:j5) (σ:St) (H:Hp) (x:V) (v vl vu:j4) (lo hi:j6 Int) (sl:j9) (Q:VK),Inv X pins σ H s->RelV x v->s.heap.IsSliceOf sl vl vu .none->sj vl lo->sj vu hi->r x lo hi H Q->
  ∃T id,typeLookup (.type T) "__getitem__"=pure (Gc (.builtin id))/\s.TypeIs v T/\wpAny (model X.prog X.w) X.A (getItem v (.ref sl)) (EP X pins σ Q) X.xe s
noncomputable def tSl(r:V->j6 Int->j6 Int->Hp->VK->Prop)(te:TE)(tl th:TO):TE:=λσ H Q=>te σ H λx H1=>tl σ H1 λl H2=>th σ H2 λu H3=>r x l u H3 Q
theorem Mq{r:V->j6 Int->j6 Int->Hp->VK->Prop}(hr:SlR X r)(he:PE X e te)(hl:PO X lo tl)(hu:PO X hi th):PE X (.Subscript e (.Slice lo hi none p2) pos) (tSl r te tl th):=by
 intro pins s σ H Q I h
 refine Subscript_ (thn (he pins s σ H _ I h) λv s1 ⟨x,H1,I1,r1,q1⟩=>?_)
 refine wpAny_Slice (thn (hl pins s1 σ H1 _ I1 q1) λvl s2 ⟨l,H2,I2,pl,q2⟩=>thn (hu pins s2 σ H2 _ I2 q2) λvu s3 ⟨u,H3,I3,pu,q3⟩=>?_)
 rw[xw]
 refine j7 ?_
 have I4:Inv X pins σ H3 {s3 with heap:=s3.heap.push {cls:=.type "slice",data:=.fields #[vl,vu,.none]}}:=I3.kept (t':=s3.toks) λb ob q=>j0 _ q
 obtain⟨T,id,hT,ht,hg⟩:=hr pins {s3 with heap:=s3.heap.push {cls:=.type "slice",data:=.fields #[vl,vu,.none]}} σ H3 x v vl vu l u s3.heap.objs.size Q I4 r1 (Heap.IsSliceOf.new ..) pl pu q3
 show wpAny (model X.prog X.w) X.A (subscriptTail e (.Slice lo hi none p2) v (.ref s3.heap.objs.size)) (EP X pins σ Q) X.xe {s3 with heap:=s3.heap.push {cls:=.type "slice",data:=.fields #[vl,vu,.none]}}
 exact tail_any (ops:=[.ref s3.heap.objs.size,v]) ht hT hg (by with_unfolding_all rfl)
noncomputable def WY(xs:Wp V)(lo hi:j6 Int):Wp V:=(xs.drop (HT.sIx xs.length 0 lo)).take (HT.sIx xs.length xs.length hi-HT.sIx xs.length 0 lo)
theorem KP(xs:Wp V)(lo hi:j6 Int):(WY xs lo hi).length<=xs.length:=by
 unfold WY
 rw[oT,vq]
 lia
def iy(K:jz):V->j6 Int->j6 Int->Hp->VK->Prop:=λx lo hi H Q=>∃a xs,x=.ref a/\SqT K H a xs/\
 ¬(HT.sIx xs.length 0 lo=0/\HT.sIx xs.length xs.length hi=xs.length)/\∀p,H p=none->Q (.ref p) (upd H p (.tup (WY xs lo hi)))
theorem aA:SlR X (iy X.K):=by
 intro pins s σ H x v vl vu lo hi sl Q I rx hs pl pu h
 obtain⟨a,xs,rfl,hx,hw,q⟩:=h
 cases rx
 obtain⟨its,r,ht,hz⟩:=I.tuple hx
 have hlen:its.toArray.size=xs.length:=by rw[kM];exact r.length.symm
 refine⟨"tuple",_,lW.lookup,ht.typeIs,?_⟩
 refine HT.Io ht hs pl pu (by rw[hlen];exact hw) ?_ (by rw[hlen];exact hz)
 rw[hlen]
 refine⟨.ref s.heap.objs.size,_,I.laid (t':=s.toks) (o:=.tup (WY xs lo hi)) (λb ob q=>j0 _ q) (kA _) ?_,rfl,q _ (I.hok.fresh (kA _))⟩
 exact⟨kF (KP xs lo hi) hz,_,(r.drop (HT.sIx xs.length 0 lo)).take (HT.sIx xs.length xs.length hi-HT.sIx xs.length 0 lo),pX _ _⟩
noncomputable def dP(K:jz):R2:=λx y H Q=>∃a b xs ys,x=.ref a/\y=.ref b/\SqT K H a xs/\SqT K H b ys/\xs≠[]/\xs.length+ys.length<=sizeLine/\
 (ys=[]->Q (.ref a) H)/\(ys≠[]->∀p,H p=none->Q (.ref p) (upd H p (.tup (xs++ys))))
theorem Vals.ME{xs:Wp V}{us:Wp j4}(r:Vals xs us):us=[]↔xs=[]:=by
 cases r with
 |nil=>simp
 |cons _ _=>simp
theorem Y4:OpR X (binaryOp .Add) (dP X.K):=by
 intro pins s σ H x y v u Q I rx ry h
 obtain⟨a,b,xs,ys,rfl,rfl,ha,hb,hx,hz,q1,q2⟩:=h
 cases rx
 cases ry
 obtain⟨its,r1,p1,_⟩:=I.tuple ha
 obtain⟨its2,r2,p2,_⟩:=I.tuple hb
 refine HT.Yb p1 p2 (λz=>hx (r1.ME.mp z)) (λz=>⟨.ref a,H,I,rfl,q1 (r2.ME.mp z)⟩) (λz=>?_) (by rw[<-r1.length,<-r2.length];exact hz)
 refine⟨.ref s.heap.objs.size,_,I.laid (t':=s.toks) (o:=.tup (xs++ys)) (λb ob q=>j0 _ q) (kA _) ?_,rfl,q2 (λw=>z (r2.ME.mpr w)) _ (I.hok.fresh (kA _))⟩
 exact⟨by rw[lK];exact hz,_,r1.append r2,pX _ _⟩
end
end L2
namespace L2
open PySem PySem.Spec PyProof.Rows
noncomputable def ixN(n:Nat)(i:Int):j6 Nat:=if 0<=i then(if i<n then Gc i.toNat else none)else if-(n:Int)<=i then Gc (i+n).toNat else none
noncomputable def atI{α:Type}(xs:Wp α)(i:Int):j6 α:=(ixN xs.length i).bind λj=>xs[j]?
theorem Rw{n:Nat}{i:Int}{j:Nat}(h:ixN n i=Gc j):seqIndex? i n=Gc j/\j<n/\ -(n:Int)<=i/\i<n:=by
 unfold ixN at h
 by_cases h0:0<=i
 .rw[kh h0]at h
  by_cases h1:i<n
  .rw[kh h1]at h
   have e:i.toNat=j:=lR h
   exact⟨by rw[wH h0 h1,e],by lia,by lia,h1⟩
  .rw[ko h1]at h;cases h
 .rw[ko h0]at h
  by_cases h1: -(n:Int)<=i
  .rw[kh h1]at h
   have e:(i+n).toNat=j:=lR h
   exact⟨by rw[seqIndex_neg (by lia) h1,e],by lia,h1,by lia⟩
  .rw[ko h1]at h;cases h
theorem Q2{α:Type}{xs:Wp α}{i:Int}{v:α}(h:atI xs i=Gc v):∃j,seqIndex? i xs.length=Gc j/\xs[j]?=Gc v/\j<xs.length/\ -(xs.length:Int)<=i/\i<xs.length:=by
 unfold atI at h
 cases e:ixN xs.length i with
 |none=>rw[e]at h;cases h
 |some j=>
  rw[e]at h
  obtain⟨h1,h2,h3,h4⟩:=Rw e
  exact⟨j,h1,h,h2,h3,h4⟩
theorem YZ{α:Type}{xs:Wp α}{j:Nat}{v:α}(h:xs[j]?=Gc v):atI xs (j:Int)=Gc v:=by
 have hj:j<xs.length:=(kK.mp h).1
 have e:ixN xs.length (j:Int)=Gc j:=by
  unfold ixN
  rw[kh (by lia),kh (by lia)];simp
 unfold atI;rw[e];exact h
theorem Pm{α:Type}(xs:Wp α)(v:α):atI (xs++[v]) (-1)=Gc v:=by
 have hl:(xs++[v]).length=xs.length+1:=by simp
 have e:ixN (xs++[v]).length (-1)=Gc xs.length:=by
  unfold ixN
  rw[hl,ko (by decide),kh (by lia)]
  congr 1
  lia
 unfold atI
 rw[e]
 show(xs++[v])[xs.length]?=Gc v
 simp
def RZ(b:ky):Prop:=∀o i,subscripted b false o i=operate [o,i] (getItem o i)
def IxR(X:Cx)(r:R2):Prop:=
 ∀(value slice:ky) (pins:Wp (j9×Obj)) (s:j5) (σ:St) (H:Hp) (x y:V) (v u:j4) (Q:VK),Inv X pins σ H s->RelV x v->RelV y u->r x y H Q->
  subscripted slice false v u=operate [v,u] (getItem v u)->wpAny (model X.prog X.w) X.A (subscriptTail value slice v u) (EP X pins σ Q) X.xe s
def MtR(X:Cx)(id:pE)(r:V->Wp V->Hp->VK->Prop):Prop:=
 ∀(pins:Wp (j9×Obj)) (s:j5) (σ:St) (H:Hp) (x:V) (xs:Wp V) (v:j4) (us:Wp j4) (Q:VK),Inv X pins σ H s->RelV x v->Vals xs us->r x xs H Q->
  wpAny (model X.prog X.w) X.A (call (.builtin id) (v::us)) (EP X pins σ Q) X.xe s
section
variable{X:Cx}{a b:ky}{ta tb:TE}{pos:Pos}
theorem fD{r:R2}(hr:IxR X r)(ha:PE X a ta)(hb:PE X b tb)(hs:RZ b):PE X (.Subscript a b pos) (tOp r ta tb):=by
 intro pins s σ H Q I h
 exact Subscript_ (dJ ha hb I h λv u s2 x y H2 I2 rx ry q=>hr a b pins s2 σ H2 x y v u Q I2 rx ry q (hs _ _))
noncomputable def jE(K:jz):R2:=λx y H Q=>∃p xs i v,x=.ref p/\y=.int i/\SqL K H p xs/\atI xs i=Gc v/\Q v H
noncomputable def ie(K:jz):R2:=λx y H Q=>∃p xs i v,x=.ref p/\y=.int i/\SqT K H p xs/\atI xs i=Gc v/\Q v H
theorem Xs:IxR X (jE X.K):=by
 intro value slice pins s σ H x y v u Q I rx ry h hs
 obtain⟨p,xs,i,z,rfl,rfl,hq,he,q⟩:=h
 cases rx
 obtain⟨t,rfl⟩:=ry
 obtain⟨its,r,pl,hz⟩:=I.list hq
 obtain⟨j,h1,h2,h3,h4,h5⟩:=Q2 he
 obtain⟨w,ew,rw'⟩:=r.get h2
 have hl:=r.length
 have hn:=Nb
 have fin:EP X pins σ Q w s:=⟨z,H,I,rw',q⟩
 by_cases h0:0<=i
 .have hj:i.toNat=j:=by
   rw[wH h0 h5]at h1
   exact lR h1
  exact item_listR pl.isList h0 (by lia) (by rw[hj];simpa using ew) fin hs
 .have hj:(i+(its.toArray.size:Int)).toNat=j:=by
   rw[seqIndex_neg (by lia) h4]at h1
   rw[kM,<-hl]
   exact lR h1
  exact sr (x:=w) pl.isList.typeIs vL.lookup
   (wpAny_getItem_list_neg (Q:=λr s'=>r=w/\EP X pins σ Q r s') pl.isList (by lia) (by rw[kM]<;>lia) (by lia) (by rw[hj];simpa using ew) ⟨rfl,fin⟩) hs
theorem bJ:IxR X (ie X.K):=by
 intro value slice pins s σ H x y v u Q I rx ry h hs
 obtain⟨p,xs,i,z,rfl,rfl,hq,he,q⟩:=h
 cases rx
 obtain⟨t,rfl⟩:=ry
 obtain⟨its,r,pl,hz⟩:=I.tuple hq
 obtain⟨j,h1,h2,h3,h4,h5⟩:=Q2 he
 obtain⟨w,ew,rw'⟩:=r.get h2
 have hl:=r.length
 have hn:=Nb
 have fin:EP X pins σ Q w s:=⟨z,H,I,rw',q⟩
 exact sr (x:=w) pl.typeIs lW.lookup
  (getItem_tuple (j:=j) (Q:=λr s'=>r=w/\EP X pins σ Q r s') pl (by lia) (by lia) (by rw[kM,<-hl];exact h1) (by simpa using ew) ⟨rfl,fin⟩) hs
theorem Px(its:Wp j4)(n j:Nat)(u:j4):lH (·.setIfInBounds j u) {cls:=.type "list",data:=.seq its.toArray n}={cls:=.type "list",data:=.seq (its.set j u).toArray n}:=by
 simp[lH]
theorem Inv.lst{pins:Wp (j9×Obj)}{σ:St}{H:Hp}{s:j5}{p:j9}{xs:Wp V}(I:Inv X pins σ H s)(h:H p=Gc (.lst xs)):∃(its:Wp j4) (n:Nat),Vals xs its/\s.heap.get? p=Gc {cls:=.type "list",data:=.seq its.toArray n}/\xs.length<=sizeLine:=by
 obtain⟨z,its,n,r,e⟩:=I.hok p _ h
 exact⟨its,n,r,e,z⟩
theorem Inv.Zf{pins:Wp (j9×Obj)}{σ:St}{H:Hp}{s:j5}{p:j9}{xs ys:Wp V}{its its':Wp j4}{n n':Nat}{f:Obj->Obj}(I:Inv X pins σ H s)(h:H p=Gc (.lst xs))(ho:s.heap.get? p=Gc {cls:=.type "list",data:=.seq its.toArray n})(hf:f {cls:=.type "list",data:=.seq its.toArray n}={cls:=.type "list",data:=.seq its'.toArray n'})(r:Vals ys its')(hz:ys.length<=sizeLine)(t:Nat):Inv X pins σ (upd H p (.lst ys)) {s with heap:=s.heap.update p f,toks:=t}:=by
 have e:(s.heap.update p f).get? p=Gc {cls:=.type "list",data:=.seq its'.toArray n'}:=by
  rw[lJ f ho (by rw[hf]<;>rfl),hf]
 refine I.write (x:=p) (e:=p) (by rw[h];trivial) (.inl rfl) (λb u hb q=>(mD _ _ (l8 hb)).trans q) ⟨_,e⟩ ?_
 exact⟨hz,its',n',r,e⟩
def dO:V->V->V->Hp->(Hp->Prop)->Prop:=λo i v H Q=>∃p xs k j,o=.ref p/\i=.int k/\H p=Gc (.lst xs)/\ixN xs.length k=Gc j/\Q (upd H p (.lst (xs.set j v)))
theorem set_list:gz X dO:=by
 intro pins s σ H o i v ov iv u Q I ro ri rv h
 obtain⟨p,xs,k,j,rfl,rfl,hp,hj,q⟩:=h
 cases ro
 obtain⟨t,rfl⟩:=ri
 obtain⟨its,n,r,ho,hz⟩:=I.lst hp
 obtain⟨h1,h2,h3,h4⟩:=Rw hj
 have hl:=r.length
 have hn:=Nb
 have I':Inv X pins σ (upd H p (.lst (xs.set j v))) {s with heap:=s.heap.update p (lH (·.setIfInBounds j u))}:=
  I.Zf hp ho (Px its n j u) (r.set rv j) (by rw[nI];exact hz) s.toks
 by_cases h0:0<=k
 .have hk:k.toNat=j:=by
   rw[wH h0 h4]at h1
   exact lR h1
  exact PySem.W.ki_setAt ho h0 (by lia) (by rw[kM,<-hl];exact h4) (by rw[hk];exact⟨_,I',q⟩)
 .have hk:(k+(its.toArray.size:Int)).toNat=j:=by
   rw[seqIndex_neg (by lia) h3]at h1
   rw[kM,<-hl]
   exact lR h1
  exact PySem.W.ki_setBack ho (by lia) (by rw[kM,<-hl];exact h3) (by lia) (by rw[hk];exact⟨_,I',q⟩)
theorem N5(lo hi:j6 Int)(n:Nat):(sliceBounds lo hi none n).1=((HT.sIx n 0 lo:Nat):Int)/\(sliceBounds lo hi none n).2.1=((HT.sIx n n hi:Nat):Int)/\(sliceBounds lo hi none n).2.2=1:=by
 refine⟨?_,?_,rfl⟩
 .cases lo with
  |none=>simp[sliceBounds,HT.sIx]
  |some i=>
   simp only[sliceBounds,HT.sIx,vt,show(1:Int)>0 by decide,qk]
   by_cases h:i<0
   .simp only[h,qk]<;>lia
   .simp only[h,pL]<;>lia
 .cases hi with
  |none=>simp[sliceBounds,HT.sIx]
  |some i=>
   simp only[sliceBounds,HT.sIx,vt,show(1:Int)>0 by decide,qk]
   by_cases h:i<0
   .simp only[h,qk]<;>lia
   .simp only[h,pL]<;>lia
theorem MA(its:Wp j4)(lo hi:j6 Int):slicePick its.toArray lo hi none=((its.drop (HT.sIx its.length 0 lo)).take (HT.sIx its.length its.length hi-HT.sIx its.length 0 lo)).toArray:=by
 obtain⟨h1,h2,h3⟩:=N5 lo hi its.toArray.size
 unfold slicePick
 rw[h1,h2,h3]
 simp only[sliceRange_one,pick_run,kM]<;>rfl
def ja(K:jz):V->j6 Int->j6 Int->Hp->VK->Prop:=λx lo hi H Q=>∃a xs,x=.ref a/\SqL K H a xs/\∀p,H p=none->Q (.ref p) (upd H p (.lst (WY xs lo hi)))
theorem Ya:SlR X (ja X.K):=by
 intro pins s σ H x v vl vu lo hi sl Q I rx hs pl pu h
 obtain⟨a,xs,rfl,hx,q⟩:=h
 cases rx
 obtain⟨its,r,ht,hz⟩:=I.list hx
 have hlen:=r.length
 refine⟨"list",_,vL.lookup,ht.isList.typeIs,?_⟩
 refine wpAny_getItem_list_slice ht.isList hs pl pu .none (by simp) ?_ (by rw[kM]<;>lia)
 rw[MA,<-hlen]
 refine⟨.ref s.heap.objs.size,_,I.laid (t':=s.toks) (o:=.lst (WY xs lo hi)) (λb ob q=>j0 _ q) (kA _) ?_,rfl,q _ (I.hok.fresh (kA _))⟩
 exact⟨kF (KP xs lo hi) hz,_,0,(r.drop (HT.sIx xs.length 0 lo)).take (HT.sIx xs.length xs.length hi-HT.sIx xs.length 0 lo),kH _ rfl⟩
noncomputable def LB:V->lA
 | .non=>true
 | .bl _=>true
 | .int _=>true
 | .str _=>true
 |_=>false
noncomputable def eqV:V->V->lA
 | .non,.non=>true
 | .bl a,.bl b=>a==b
 | .bl a,.int b=>(if a then 1 else 0)==b
 | .int a,.bl b=>a==(if b then 1 else 0)
 | .int a,.int b=>a==b
 | .str a,.str b=>a==b
 |_,_=>false
theorem Z3{A:lF}{s:j5}{y x:V}{u v:j4}(ry:RelV y u)(rx:RelV x v)(fy:LB y=true)(fx:LB x=true):SeqAt.EqAt A s u v (eqV y x):=by
 cases y with
 |non=>
  cases ry
  cases x with
  |non=>cases rx;exact SeqAt.EqAt.same _
  |bl b=>cases rx;exact z0 b
  |int b=>obtain⟨t,rfl⟩:=rx;exact SeqAt.EqAt.none_int b t
  |str b=>obtain⟨t,rfl⟩:=rx;exact SeqAt.EqAt.none_str b t
  |_=>exact absurd (show false=true from fx) lU
 |bl a=>
  cases ry
  cases x with
  |non=>cases rx;exact z6 a
  |bl b=>cases rx;exact z7 a b
  |int b=>obtain⟨t,rfl⟩:=rx;exact SeqAt.EqAt.bool_int a b t
  |str b=>obtain⟨t,rfl⟩:=rx;exact SeqAt.EqAt.bool_str a b t
  |_=>exact absurd (show false=true from fx) lU
 |int a=>
  obtain⟨t',rfl⟩:=ry
  cases x with
  |non=>cases rx;exact SeqAt.EqAt.int_none a t'
  |bl b=>cases rx;exact SeqAt.EqAt.int_bool a t' b
  |int b=>obtain⟨t,rfl⟩:=rx;exact SeqAt.EqAt.int_int a t' b t
  |str b=>obtain⟨t,rfl⟩:=rx;exact uj a t' b t
  |_=>exact absurd (show false=true from fx) lU
 |str a=>
  obtain⟨t',rfl⟩:=ry
  cases x with
  |non=>cases rx;exact SeqAt.EqAt.str_none a t'
  |bl b=>cases rx;exact SeqAt.EqAt.str_bool a t' b
  |int b=>obtain⟨t,rfl⟩:=rx;exact uk a t' b t
  |str b=>obtain⟨t,rfl⟩:=rx;exact SeqAt.EqAt.str_str a t' b t
  |_=>exact absurd (show false=true from fx) lU
 |_=>exact absurd (show false=true from fy) lU
noncomputable def eqU(x:V)(u:j4):lA:=match u with
 | .none=>eqV .non x
 | .bool b=>eqV (.bl b) x
 | .int i _=>eqV (.int i) x
 | .str z _=>eqV (.str z) x
 |_=>false
theorem XU{x y:V}{u:j4}(r:RelV y u)(f:LB y=true):eqU x u=eqV y x:=by
 cases y with
 |non=>cases r;rfl
 |bl b=>cases r;rfl
 |int i=>obtain⟨t,rfl⟩:=r;rfl
 |str z=>obtain⟨t,rfl⟩:=r;rfl
 |_=>exact absurd (show false=true from f) lU
theorem Ka{x:V}:∀{xs:Wp V} {us:Wp j4},Vals xs us->xs.all LB=true->us.any (eqU x)=xs.any λy=>eqV y x
 |_,_,.nil,_=>rfl
 |y::xs,u::us,.cons r t,f=>by
  rw[sG,kQ]at f
  rw[nU,nU,XU r f.1,Ka t f.2]
theorem Hx{A:lF}{s:j5}{x:V}{v:j4}(rx:RelV x v)(fx:LB x=true):∀{xs:Wp V} {us:Wp j4},Vals xs us->xs.all LB=true->∀u∈us,SeqAt.EqAt A s u v (eqU x u)
 |_,_,.nil,_=>λu hu=>by cases hu
 |y::xs,u::us,.cons r t,f=>λu' hu=>by
  rw[sG,kQ]at f
  rcases kG.mp hu with rfl|hu
  .rw[XU r f.1];exact Z3 r rx f.1 fx
  .exact Hx rx fx t f.2 u' hu
noncomputable def inV(x:V)(xs:Wp V):lA:=xs.any λy=>eqV y x
noncomputable def rIn(K:jz)(neg:lA):R2:=λx y H Q=>∃p xs,y=.ref p/\(SqL K H p xs\/SqT K H p xs)/\LB x=true/\xs.all LB=true/\Q (.bl (if neg then !inV x xs else inV x xs)) H
theorem SQ:OpR X (compareOp .In) (rIn X.K false):=by
 intro pins s σ H x y v u Q I rx ry h
 obtain⟨p,xs,rfl,hq,fx,fs,q⟩:=h
 cases ry
 rcases hq with hq|hq
 .obtain⟨its,r,pl,hz⟩:=I.list hq
  refine SeqAt.in_listAt (eqU x) pl.isList (λw hw=>Hx rx fx r fs w (by simpa using hw)) ⟨.bl _,H,I,rfl,?_⟩
  rw[show its.toArray.any (eqU x)=its.any (eqU x) by simp,Ka r fs]
  exact q
 .obtain⟨its,r,pl,hz⟩:=I.tuple hq
  refine SeqAt.in_tupleAt (eqU x) pl (λw hw=>Hx rx fx r fs w (by simpa using hw)) ⟨.bl _,H,I,rfl,?_⟩
  rw[show its.toArray.any (eqU x)=its.any (eqU x) by simp,Ka r fs]
  exact q
theorem Ny:OpR X (compareOp .NotIn) (rIn X.K true):=by
 intro pins s σ H x y v u Q I rx ry h
 obtain⟨p,xs,rfl,hq,fx,fs,q⟩:=h
 cases ry
 rcases hq with hq|hq
 .obtain⟨its,r,pl,hz⟩:=I.list hq
  refine SeqAt.notIn_listAt (eqU x) pl.isList (λw hw=>Hx rx fx r fs w (by simpa using hw)) ⟨.bl _,H,I,rfl,?_⟩
  rw[show its.toArray.any (eqU x)=its.any (eqU x) by simp,Ka r fs]
  exact q
 .obtain⟨its,r,pl,hz⟩:=I.tuple hq
  refine SeqAt.notIn_tupleAt (eqU x) pl (λw hw=>Hx rx fx r fs w (by simpa using hw)) ⟨.bl _,H,I,rfl,?_⟩
  rw[show its.toArray.any (eqU x)=its.any (eqU x) by simp,Ka r fs]
  exact q
theorem N0:Ep X (.builtin "len") (λxs H Q=>∃p ys,xs=[.ref p]/\(SqL X.K H p ys\/SqT X.K H p ys)/\Q (.int ys.length) H):=by
 intro pins s σ H xs us Q I r h
 obtain⟨p,ys,rfl,hq,q⟩:=h
 obtain⟨u,rfl,rx⟩:=vals1 r
 cases rx
 have hn:=Nb
 rcases hq with hq|hq
 .obtain⟨its,r',pl,hz⟩:=I.list hq
  have hlen:=r'.length
  exact Calls.call_len_list pl.isList (by simp only[kM]<;>lia) ⟨.int ys.length,H,I.tok _,⟨s.toks+1,by rw[kM,hlen]⟩,q⟩
 .obtain⟨its,r',pl,hz⟩:=I.tuple hq
  have hlen:=r'.length
  exact len_tuple pl (by simp only[kM]<;>lia) ⟨.int ys.length,H,I.tok _,⟨s.toks+1,by rw[kM,hlen]⟩,q⟩
theorem Nf:Ep X (.builtin "len") (λxs H Q=>∃z,xs=[.str z]/\z.length<=sizeLine/\Q (.int z.length) H):=by
 intro pins s σ H xs us Q I r h
 obtain⟨z,rfl,hz,q⟩:=h
 obtain⟨u,rfl,t,rfl⟩:=vals1 r
 have hn:=Nb
 exact len_str (by lia) ⟨.int z.length,H,I.tok _,⟨_,rfl⟩,q⟩
theorem NN:Ep X (.type "list") (λxs H Q=>∃p ys,xs=[.ref p]/\(SqL X.K H p ys\/SqT X.K H p ys)/\∀l,H l=none->Q (.ref l) (upd H l (.lst ys))):=by
 intro pins s σ H xs us Q I r h
 obtain⟨p,ys,rfl,hq,q⟩:=h
 obtain⟨u,rfl,rx⟩:=vals1 r
 cases rx
 have fin:∀(its:Wp j4),Vals ys its->ys.length<=sizeLine->∀(h':lD) (c':Nat),(∀b o',s.heap.get? b=Gc o'->h'.get? b=Gc o')->
   h'.get? s.heap.objs.size=Gc {cls:=.type "list",dict:=none,data:=.seq its.toArray c',slots:= #[]}->EP X pins σ Q (.ref s.heap.objs.size) {s with heap:=h'}:=λits r' hz h' c' kp e=>
  ⟨.ref s.heap.objs.size,_,I.laid (t':=s.toks) kp (kA _) (show FV X.prog X.w _ h' _ (.lst ys)from⟨hz,its,c',r',e⟩),rfl,q _ (I.hok.fresh (kA _))⟩
 rcases hq with hq|hq
 .obtain⟨its,r',pl,hz⟩:=I.list hq
  have hlen:=r'.length
  obtain⟨o,ho,hc,n,hd⟩:=pl.isList
  exact x8 p (.inl rfl) ho hc hd (λh' c' kp e=>fin its r' hz h' c' kp e) (by simp only[kM]<;>lia)
 .obtain⟨its,r',pl,hz⟩:=I.tuple hq
  have hlen:=r'.length
  obtain⟨o,ho,hc,n,hd⟩:=pl
  exact x8 p (.inr rfl) ho hc hd (λh' c' kp e=>fin its r' hz h' c' kp e) (by simp only[kM]<;>lia)
theorem MS:Ep X (.type "tuple") (λxs H Q=>∃p ys,xs=[.ref p]/\((SqL X.K H p ys/\∀l,H l=none->Q (.ref l) (upd H l (.tup ys)))\/(SqT X.K H p ys/\Q (.ref p) H))):=by
 intro pins s σ H xs us Q I r h
 obtain⟨p,ys,rfl,h⟩:=h
 obtain⟨u,rfl,rx⟩:=vals1 r
 cases rx
 rcases h with⟨hq,q⟩|⟨hq,q⟩
 .obtain⟨its,r',pl,hz⟩:=I.list hq
  have hlen:=r'.length
  refine call_tuple_list pl.isList (λh' kp=>?_) (by simp only[kM]<;>lia)
  have I1:Inv X pins σ H {s with heap:=h'}:=I.kept (t':=s.toks) kp
  have I2:Inv X pins σ (upd H h'.objs.size (.tup ys)) {s with heap:=h'.push {cls:=.type "tuple",data:=.seq its.toArray}}:=
   I1.laid (t':=s.toks) (λb o e=>j0 _ e) (kA _) (show FV X.prog X.w _ _ _ (.tup ys)from⟨hz,its,r',pX _ _⟩)
  exact⟨.ref h'.objs.size,_,I2,rfl,q _ (I1.hok.fresh (kA _))⟩
 .obtain⟨its,r',pl,hz⟩:=I.tuple hq
  exact call_tuple_same pl ⟨.ref p,H,I,rfl,q⟩
def tyV(K:jz)(T:pE)(x:V)(H:Hp):Prop:=match x with
 | .str _=>T="str"
 | .int _=>T="int"
 | .ref p=>(T="list" /\∃xs,SqL K H p xs)\/(T="tuple" /\∃o,K.lookup p=Gc o/\o.cls=.type "tuple" /\o.dict=none)∨
    (T="dict" /\((∃kvs,H p=Gc (.dK kvs))\/∃kvs,H p=Gc (.dT kvs)))\/(T="set" /\∃S n,H p=Gc (.set S n))
 |_=>ou
theorem Zi{pins:Wp (j9×Obj)}{σ:St}{H:Hp}{s:j5}{T:pE}{x:V}{v:j4}(I:Inv X pins σ H s)(r:RelV x v)(ty:tyV X.K T x H):s.TypeIs v T/\∀a,v=.ref a->∃ob,s.heap.get? a=Gc ob/\ob.dict=none:=by
 cases x with
 |str z=>
  obtain⟨t,rfl⟩:=r
  cases (show T="str" from ty)
  exact⟨su s z t,λ_ e=>nomatch e⟩
 |int i=>
  obtain⟨t,rfl⟩:=r
  cases (show T="int" from ty)
  exact⟨qf s i t,λ_ e=>nomatch e⟩
 |ref p=>
  cases r
  rcases ty with⟨rfl,xs,hq⟩|⟨rfl,o,hk,hc,hd⟩|⟨rfl,hk⟩|⟨rfl,S,n,hk⟩
  .obtain⟨its,_,pl,_⟩:=I.list hq
   refine⟨pl.isList.typeIs,λa e=>?_⟩
   cases e
   obtain⟨o,n,e,c,hd,_⟩:=pl
   exact⟨o,e,hd⟩
  .refine⟨⟨o,I.kIn p o hk,hc⟩,λa e=>?_⟩
   cases e
   exact⟨o,I.kIn _ o hk,hd⟩
  .have z:∃o,s.heap.get? p=Gc o/\o.ExactDict:=by
    rcases hk with⟨kvs,hk⟩|⟨kvs,hk⟩
    .obtain⟨_,_,_,_,o,_,_,e,ex,_⟩:=I.hok p _ hk
     exact⟨o,e,ex⟩
    .obtain⟨_,_,_,_,o,_,_,e,ex,_⟩:=I.hok p _ hk
     exact⟨o,e,ex⟩
   obtain⟨o,e,ex⟩:=z
   refine⟨⟨o,e,ex.1⟩,λa e2=>?_⟩
   cases e2
   exact⟨o,e,ex.2.1⟩
  .obtain⟨o,_,_,_,e,ex,_⟩:=I.hok p _ hk
   refine⟨⟨o,e,ex.1⟩,λa e2=>?_⟩
   cases e2
   exact⟨o,e,ex.2.1⟩
 |_=>exact oY ty
noncomputable def tBM(K:jz)(T:pE)(r:V->Wp V->Hp->VK->Prop)(to:TE)(t:TA):TE:=λσ H Q=>to σ H λx H1=>tyV K T x H1/\t σ H1 λxs H2=>r x xs H2 Q
variable{o e:ky}{es:Wp ky}{to:TE}{t:TA}{name:Str}{apos cpos:Pos}{T id:pE}{r:V->Wp V->Hp->VK->Prop}
theorem fM(pa:PlainAttrs T)(slot:Slot T name id)(hty:typeOf (.builtin id)=pure (.type "method_descriptor"))(hm:MtR X id r)(ho:PE X o to)(ha:PA X (e::es) t)(hbase:attributeBase o name X.env (eval o X.env)=eval o X.env:=by rfl)(hfew:((backTo cpos (kc (e::es) X.env)).all (λx=> !x.1) && (backToKw cpos (keywordEach [] X.env)).all (λx=>x.1.isSome) && decide ((e::es).length+([]:Wp rZ).length+(if([]:Wp rZ).isEmpty then 0 else 1)<30))=true:=by rfl)(hline:(apos.endLine==cpos.line)=true:=by rfl)(hs:kc (e::es) X.env=(false,eval e X.env)::kc es X.env:=by rfl)(hplain:(backTo cpos (kc es X.env)).any (·.1)=false:=by rfl):PE X (.Call (.Attribute o name apos) (e::es) [] cpos) (tBM X.K T r to t):=by
 intro pins s σ H Q I h
 refine wpAny_Call_method_late hbase hfew hline rfl (thn (ho pins s σ H _ I h) λv s1 ⟨x,H1,I1,r1,ty,q1⟩=>?_)
 obtain⟨h1,h2⟩:=Zi I1 r1 ty
 refine⟨T,id,pa,slot,hty,h1,h2,?_⟩
 have hA:=ha cpos pins s1 σ H1 _ I1 q1
 rw[hs]at hA⊢
 refine sx (by show(false||(backTo cpos (kc es X.env)).any (·.1))=false;rw[hplain]<;>rfl) (t9 ?_)
 exact thn hA λus s2 ⟨vs,H2,I2,r2,q2⟩=>hm pins s2 σ H2 x vs v us Q I2 r1 r2 q2
end
end L2
namespace L2
open PySem PySem.Spec PyProof.Rows
def MtM(X:Cx)(id:pE)(r:V->Wp V->Hp->VK->Prop):Prop:=
 ∀(pins:Wp (j9×Obj)) (s:j5) (σ:St) (H:Hp) (x:V) (xs:Wp V) (v:j4) (us:Wp j4) (Q:VK),Inv X pins σ H s->RelV x v->Vals xs us->r x xs H Q->
  wpAny (model X.prog X.w) X.A (call (.builtin id) (v::us)) (EP X pins σ Q) X.xe s
theorem Vals.one:∀{x:V} {us:Wp j4},Vals [x] us->∃u,us=[u]/\RelV x u:=λh=>by
 cases h with
 |cons r t=>cases t;exact⟨_,rfl,r⟩
theorem Vals.two:∀{x y:V} {us:Wp j4},Vals [x,y] us->∃u v,us=[u,v]/\RelV x u/\RelV y v:=λh=>by
 cases h with
 |cons r t=>
  cases t with
  |cons q t=>cases t;exact⟨_,_,rfl,r,q⟩
theorem Vals.rep{xs:Wp V}{us:Wp j4}(h:Vals xs us):∀k:Nat,Vals (kZ k xs).flatten (kZ k us).flatten
 |0=>.nil
 |k+1=>by
  rw[mv,mv,oE,oE]
  exact Vals.append h (Vals.rep h k)
theorem foldl_rep(its:Wp j4):∀(k:Nat) (acc:Wp j4),ur (λx1 x2=>x1++x2) acc.toArray (kZ k its.toArray)=(acc++(kZ k its).flatten).toArray
 |0,acc=>by simp
 |k+1,acc=>by
  have e:acc.toArray++its.toArray=(acc++its).toArray:=by simp
  have e2:(acc++its)++(kZ k its).flatten=acc++(kZ (k+1) its).flatten:=by
   rw[mv,oE,mF]
  rw[<-e2,<-foldl_rep its k (acc++its),<-e,mv,tR]
section
variable{X:Cx}{pins:Wp (j9×Obj)}{σ:St}{H:Hp}{s:j5}{l b:j9}{xs ys zs:Wp V}
theorem Inv.fP{its its':Wp j4}{n:Nat}{f:kj j4->kj j4}{t':Nat}(I:Inv X pins σ H s)(hH:H l=Gc (.lst xs))(e:s.heap.get? l=Gc {cls:=.type "list",data:=.seq its.toArray n})(hf:f its.toArray=its'.toArray)(hv:Vals ys its')(hz:ys.length<=sizeLine):Inv X pins σ (upd H l (.lst ys)) {s with heap:=s.heap.update l (lH f),toks:=t'}:=by
 have q:=PySem.IsL.update e f
 rw[hf]at q
 refine I.write (x:=l) (e:=l) (by rw[hH];exact trivial) (.inl rfl) (λb' u hb hu=>(mD s.heap (lH f) (l8 hb)).trans hu) ⟨_,q⟩ ?_
 exact⟨hz,its',_,hv,q⟩
theorem Inv.gk{its:Wp j4}{t':Nat}(I:Inv X pins σ H s)(hv:Vals ys its)(hz:ys.length<=sizeLine):Inv X pins σ (upd H s.heap.objs.size (.lst ys)) {s with heap:=s.heap.push {cls:=.type "list",data:=.seq its.toArray},toks:=t'}:=
 I.laid (λ_ _ q=>j0 _ q) (kA _) ⟨hz,its,0,hv,kH _ rfl⟩
theorem Inv.fresh(I:Inv X pins σ H s):H s.heap.objs.size=none:=I.hok.fresh (kA _)
theorem Inv.W5(I:Inv X pins σ H s)(hH:H l=Gc (.lst xs)):xs.length<=sizeLine/\∃(its:Wp j4) (n:Nat),Vals xs its/\xs.length=its.length/\s.heap.get? l=Gc {cls:=.type "list",data:=.seq its.toArray n}:=by
 obtain⟨z,its,n,r,e⟩:=I.hok l _ hH
 exact⟨z,its,n,r,r.length,e⟩
theorem Mt{n:Nat}(h:n<=sizeLine):mP n=false:=by
 unfold mP
 exact nE (by lia)
end
section
variable{X:Cx}
def Xm:V->Wp V->Hp->VK->Prop:=λx vs H Q=>∃l xs y,x=.ref l/\vs=[y]/\H l=Gc (.lst xs)/\xs.length<sizeLine/\Q .non (upd H l (.lst (xs++[y])))
theorem NZ:MtM X "list.append" Xm:=by
 intro pins s σ H x vs v us Q I rx rv h
 obtain⟨l,xs,y,rfl,rfl,hH,hz,q⟩:=h
 cases rx
 obtain⟨u,rfl,ru⟩:=rv.one
 obtain⟨z,its,n,r,hl,e⟩:=I.W5 hH
 refine qg kz ⟨_,e,rfl⟩ F.entry_list_append (F.args_list_append_2 _ _) (PySem.list_append l its.toArray n u (by rw[kM];lia)) ⟨e,?_⟩
 refine⟨.non,_,I.fP (its':=its++[u]) hH e (by simp) (r.append (.cons ru .nil)) ?_,rfl,q⟩
 rw[lK,tZ]
 lia
def Xp:V->Wp V->Hp->VK->Prop:=λx vs H Q=>∃l b xs zs,x=.ref l/\vs=[.ref b]/\H l=Gc (.lst xs)/\H b=Gc (.lst zs)/\xs.length+zs.length<=sizeLine/\Q .non (upd H l (.lst (xs++zs)))
theorem Rk:MtM X "list.extend" Xp:=by
 intro pins s σ H x vs v us Q I rx rv h
 obtain⟨l,b,xs,zs,rfl,rfl,hH,hB,hz,q⟩:=h
 cases rx
 obtain⟨u,rfl,ru⟩:=rv.one
 cases ru
 obtain⟨z,its,n,r,hl,e⟩:=I.W5 hH
 obtain⟨z2,its2,n2,r2,hl2,e2⟩:=I.W5 hB
 have hsz:its.toArray.size+its2.toArray.size<=sizeLine:=by rw[kM,kM];lia
 have hlong:¬(!its.toArray.isEmpty && mP (its.toArray.size+its2.toArray.size))=true:=by
  rw[Mt hsz,xB]
  exact lU
 refine qg qp ⟨_,e,rfl⟩ uW (uA _ _)
  (vM l its.toArray n b its2.toArray n2 hlong (by rw[kM];lia) (by lia)) ⟨e,e2,?_⟩
 refine⟨.non,_,I.fP (its':=its++its2) hH e (by simp) (r.append r2) ?_,rfl,q⟩
 rw[lK]
 lia
noncomputable def iZ:R2:=λx y H Q=>∃l b xs zs,x=.ref l/\y=.ref b/\H l=Gc (.lst xs)/\H b=Gc (.lst zs)/\xs.length+zs.length<=sizeLine/\∀p,H p=none->Q (.ref p) (upd H p (.lst (xs++zs)))
theorem aS:OpR X (binaryOp .Add) iZ:=by
 intro pins s σ H x y v u Q I rx ry h
 obtain⟨l,b,xs,zs,rfl,rfl,hH,hB,hz,q⟩:=h
 cases rx
 cases ry
 obtain⟨z,its,n,r,hl,e⟩:=I.W5 hH
 obtain⟨z2,its2,n2,r2,hl2,e2⟩:=I.W5 hB
 refine PySem.P.add_list e e2 ?_ (by rw[kM,kM];lia)
 have ea:its.toArray++its2.toArray=(its++its2).toArray:=by simp
 rw[ea]
 exact⟨.ref _,_,I.gk (t':=s.toks) (r.append r2) (by rw[lK];lia),rfl,q _ I.fresh⟩
noncomputable def iI:R2:=λx y H Q=>∃l k xs,x=.ref l/\y=.int k/\H l=Gc (.lst xs)/\ -(2^63)<=k/\k<2^63/\xs.length*k.toNat<=sizeLine/\
 ∀p,H p=none->Q (.ref p) (upd H p (.lst (kZ k.toNat xs).flatten))
theorem len_rep{α:Type}(xs:Wp α)(k:Nat):(kZ k xs).flatten.length=k*xs.length:=by
 induction k with
 |zero=>simp
 |succ k ih=>rw[mv,oE,lK,ih,Nat.succ_mul,yt]
theorem Zz:OpR X (binaryOp .Mult) iI:=by
 intro pins s σ H x y v u Q I rx ry h
 obtain⟨l,k,xs,rfl,rfl,hH,h1,h2,hz,q⟩:=h
 cases rx
 obtain⟨t,rfl⟩:=ry
 obtain⟨z,its,n,r,hl,e⟩:=I.W5 hH
 have hlen:its.toArray.size*k.toNat<=sizeLine:=by rw[kM,<-hl];exact hz
 have hcap:¬its.toArray.size*k.toNat>(2^63-1) / 8:=by
  have:(sizeLine:Nat)<=(2^63-1) / 8:=by decide
  lia
 have hfit:¬(!xC k)=true:=by
  rw[fitsIndex_both h1 h2]
  exact lU
 have hlong:¬mP (its.toArray.size*k.toNat)=true:=by
  rw[Mt hlen]
  exact lU
 have hnew:ur (λx1 x2=>x1++x2) #[] (kZ (if its.toArray.isEmpty=true then 0 else k.toNat) its.toArray)=(kZ k.toNat its).flatten.toArray:=by
  have f0:∀m:Nat,ur (λx1 x2=>x1++x2) #[] (kZ m its.toArray)=(kZ m its).flatten.toArray:=λm=>by
   have:=foldl_rep its m []
   rw[kr]at this
   exact this
  rw[f0]
  cases its with
  |nil=>simp
  |cons a r'=>rw[ko (by simp)]
 refine pV (T:="list") (U:="int") (by decide) ⟨_,e,rfl⟩ (λs'=>qf s' k t) noFill_list_mul tS oy repeat_list sU.lookup
  (qg oy (qf s k t) sV (rh _ _) (int___rmul___int_list k t l its.toArray n)
    ⟨e,rfl,⟨_,e,rfl⟩,qg F.slot_list_mul ⟨_,e,rfl⟩ F.entry_list_mul (F.args_list_mul_2 _ _) (vC l its.toArray n k t hfit hcap hlong) ⟨e,?_⟩⟩)
 rw[hnew]
 exact⟨.ref _,_,I.gk (t':=s.toks) (r.rep k.toNat) (by rw[len_rep,og];exact hz),rfl,q _ I.fresh⟩
end
section
variable{prog:ke}{w:lB}{A:lF}{E:j4->j5->Prop}{s:j5}
end
section
variable{X:Cx}
end
end L2
namespace Att
open PySem PySem.W PySem.Calls PyProof.Rows
theorem ints_of_wellAll{P:Params}{h:lD}:∀(ns:Wp Int) (vs:Wp j4),WellAll P h vs (ns.map WData.int)->nD vs ns:=by
 intro ns
 induction ns with
 |nil=>
  intro vs w
  rw[mE]at w
  cases w
  exact .nil
 |cons n ns ih=>
  intro vs w
  rw[kU]at w
  cases w with
  |cons a b=>
   cases a
   exact .cons _ _ (ih _ b)
theorem script_of{l:qq}{n:Nat}(hn:l.most=Gc n){P:Params}{h:lD}{args:Wp WData}{vals:Wp j4}(hpre:l.row.toRowW.claim.pre args=true)(hwl:WellAll P h vals args):∃a vs ns,vals=[mH a]/\args=[WData.list (ns.map WData.int)]/\h.get? a=Gc {cls:=.type "list",data:=.seq vs.toArray}/\nD vs ns/\ns.length<=n:=by
 have hsh:WShape.hasAll [] args [.list .int]=true:=(pre_splitW hpre).1
 have hc:l.pre.holds [] {args:=args}=true:=(pre_splitW hpre).2
 obtain⟨d,r,rfl,h1,h2⟩:=hasAllW_cons hsh
 obtain rfl:=hasAllW_nil h2
 obtain⟨xs,rfl,h3⟩:=hasW_list h1
 obtain⟨ns,rfl⟩:=items_int h3
 have hlen:ns.length<=n:=by
  unfold OpenLaw.pre at hc
  have h4:(WTm.not (.lt (.lit (.int (n:Int))) (.len (.arg 0)))).holds [] {args:=[.list (ns.map .int)]}=true:=by
   have h4:=(holds_andW hc).1
   rw[hn]at h4
   exact h4
  have h5:=condW_of h4 (w_not (w_lt w_lit (w_len_list (w_arg rfl))))
  rw[kT]at h5
  refine Nat.le_of_not_lt λq=>?_
  have q':(n:Int)<((ns.length:Nat):Int):=by lia
  first
   |(rw[mZ q']at h5;exact absurd h5 (by decide))
   |(simp at h5;lia)
 cases hwl with
 |cons w1 w2=>
  cases w2
  cases w1 with
  |list ho hall=>exact⟨_,_,ns,rfl,rfl,ho,ints_of_wellAll ns _ hall,hlen⟩
theorem post_true(l:qq)(args:Wp WData):l.row.toRowW.claim.post args (.bool true) args=true:=
 postW_of (r:=l.row.toRowW) (X:=(true==true))
  (show WShape.has [] (.bool true) .bool=true by first|rfl|decide|simp[WShape.has,WShape.arms,WShape.armsAll])
  (show(WTm.eq .res (.lit (.bool true))).value [] {args:=args,res:=Gc (.bool true),after:=args}=Gc (.bool (true==true))from w_eq_bool (w_res rfl) w_lit) rfl
theorem attach_call{l:qq}{n:Nat}{q:ke}{loose:Wp Str}{XP:(Str->j6 j4)->lD->Prop}{YP:lB->lD->Prop}{d:DefRec}(hn:l.most=Gc n)(hdf:d.params.defaults=[])(call:∀(w:lB) (s₀ s₁:j5) (mg mb:Str->j6 j4) (fa:j9) (o:Obj) (pm cd doc:j4) (a:j9) (vs:Wp j4) (ns:Wp Int),Ground q loose [] XP w s₀ mg mb s₁.heap->YP w s₁.heap->s₁.heap.get? fa=Gc o->o.data=.func (docDef d.name d.params d.body d.scope pm cd doc)->s₁.heap.CodeRec cd d.name->mg d.name=Gc (.ref fa)->s₁.heap.get? a=Gc {cls:=.type "list",data:=.seq vs.toArray}->nD vs ns->ns.length<=n->s₁.gens= #[]->codeAny (model l.prog w) callerA (.call (.ref fa) ⟨[.ref a],[]⟩) (λr s'=>r=.ok (.ret (.bool true))/\OldK s₁.heap s'.heap/\s'.os=s₁.os/\rX s'.gens) s₁):wk q loose XP YP l.row.toRowW d [] (λf vs=>xD f vs):=by
 intro w s₀ s₁ mg mb G Y fa o pm cd doc dV kV ho hd hcd hD hmg hg args vals as hpre hlay hrd hwl hlo
 obtain rfl:dV=.none:=Dflts.none hD hdf
 obtain rfl:kV=.none:=Dflts.noKw hD
 obtain⟨a,vs,ns,rfl,rfl,hobj,hints,hlen⟩:=script_of hn hpre hwl
 refine enter_call (qN (call w s₀ s₁ mg mb fa o pm cd doc a vs ns G Y ho (fd_plain hd) hcd hmg hobj hints hlen hg) λr s' hq=>?_)
 obtain⟨rfl,h2,h3,h4⟩:=hq
 exact⟨.inl ⟨.bool true,.bool true,[],rfl,λ_=>rfl,.bool true,post_true l _,λ_=>⟨rm,λ_ hm=>(nomatch hm)⟩⟩,h2,h3,h4⟩
section
variable{prog:ke}{w:lB}{A:lF}{E:j4->j5->Prop}{s:j5}{K:jz}
end
end Att
namespace L2
open PySem PySem.Spec PyProof.Rows
theorem N8:∀{vs:Wp j4} {ns:Wp Int},nD vs ns->Vals (ns.map V.int) vs
 |_,_,.nil=>.nil
 |_,_,.cons n t h=>.cons ⟨t,rfl⟩ (N8 h)
def fN(H:Hp):Prop:=∀b,H b=none\/∃o xs,H b=Gc (.frz o (.lst xs))
theorem Vj{P:ke}{w:lB}{K:jz}{mg mb:Str->j6 j4}{CX:CXT}{k:Nat}{fa a:j9}{fd:nB}{x:Str}{sp:Sp}{s₁:j5}{vs:Wp j4}{ns:Wp Int}(KX:K.In s₁.heap)(hns:s₁.heap.Ns mainGlobals mg)(hb:s₁.heap.Ns builtinsNs mb)(hbb:∀x:Str,x≠ "__name__"->mb x=bootBuiltins x)(hlim:s₁.heap.NoLimit)(hg:s₁.gens= #[])(ha:s₁.heap.get? a=Gc {cls:=.type "list",data:=.seq vs.toArray})(hi:nD vs ns)(hl:ns.length<=sizeLine)(hr:K8 k callerA)(F:∀base:lD,K.In base->base.Ns mainGlobals mg->Nn P w K mg base CX k fa fd [x] sp)(hbind:∀(s:j5) (u:j4),vI s fd ⟨[u],[]⟩ [(x,u)])(hsp:∀H:Hp,fN H->SqL K H a (ns.map V.int)->sp [.ref a] H (λv _=>v=.bl true) λ_ _ _=>ou)(hCX:∀H e s',CX [] H s₁ (λ_ _ _=>ou) e s'->ou):codeAny (model P w) callerA (.call (.ref fa) ⟨[.ref a],[]⟩) (λr s'=>r=.ok (.ret (.bool true))/\OldK s₁.heap s'.heap/\s'.os=s₁.os/\rX s'.gens) s₁:=by
 have rv:=N8 hi
 have lenV:=hi.length
 have core:∀H:Hp,fN H->SqL K H a (ns.map V.int)->HOk P w H s₁.heap->(∀b,H b≠none->b=a)->(H a≠none->K.lookup a=none)->
   codeAny (model P w) callerA (.call (.ref fa) ⟨[.ref a],[]⟩) (λr s'=>r=.ok (.ret (.bool true))/\OldK s₁.heap s'.heap/\s'.os=s₁.os/\rX s'.gens) s₁:=by
  intro H hO hS hok hA hK
  have base_of:∀{b:j9} {o:Obj},s₁.heap.get? b=Gc o->H b=none->(U7 s₁.heap H).get? b=Gc o:=λe n=>UC e n
  have noA:∀{b:j9} {o:Obj} {es:kj DictEntry} {ep:Nat},s₁.heap.get? b=Gc o->o.data=.dict es ep->H b=none:=λ{b o es ep} e d=>by
   cases q:H b with
   |none=>rfl
   |some u=>
    have e':b=a:=hA b (by rw[q];simp)
    subst e'
    rw[ha]at e;cases e
    have d':Data.seq vs.toArray _=Data.dict es ep:=d
    cases d'
  have nsK:∀{b:j9} {m:Str->j6 j4},s₁.heap.Ns b m->(U7 s₁.heap H).Ns b m:=λ{b m} ⟨o,es,ep,e,d,r⟩=>⟨o,es,ep,base_of e (noA e d),d,r⟩
  have hKb:K.In (U7 s₁.heap H):=λb o e=>base_of (KX b o e) (by
   cases q:H b with
   |none=>rfl
   |some u=>
    have e':b=a:=hA b (by rw[q];simp)
    subst e'
    rw[hK (by rw[q];simp)]at e;cases e)
  have hM:Mod K mg (U7 s₁.heap H):=⟨hKb,nsK hns,⟨mb,nsK hb,hbb⟩,let⟨mc,h1,h2⟩:=hlim;⟨mc,nsK h1,h2⟩⟩
  have e0:cF P w K mg (U7 s₁.heap H) callerA [] s₁ H:=⟨rfl,hM,λb o e=>Yj e,yu (RC _ _),trivial,λb hb=>absurd (show b∈([]:Wp j9)from hb) (by simp),hok,.of_eq hg⟩
  refine qN ((F _ hKb (nsK hns)).run callerA [] s₁ H ⟨[.ref a],[]⟩ [.ref a] [.ref a] _ _ hr e0 (hbind s₁ (.ref a)) (.cons rfl .nil) (hsp H hO hS)) λr s' h=>?_
  cases r with
  |error e=>exact(hCX H e s' h).elim
  |ok fl=>
   cases fl with
   |next=>exact oY h
   |brk=>exact oY h
   |cont=>exact oY h
   |ret u=>
    obtain⟨v,H',os,bare,un,hok',r',q⟩:=h
    have q':v=.bl true:=q
    subst q'
    obtain rfl:u=wm true:=r'
    refine⟨rfl,OldK.of_keep λb o e=>?_,os,bare⟩
    cases q:H b with
    |none=>exact un.keep b o e q (by intro z;exact absurd (show b∈([]:Wp j9)from z) (by simp)) (by simp)
    |some u=>
     rcases hO b with z|⟨ob,xs,z⟩
     .rw[q]at z;cases z
     .have z2:=un.Ui b ob _ z
      obtain⟨e1,_⟩:=hok b _ z
      obtain⟨e2,_⟩:=hok' b _ z2
      rw[e]at e1;cases e1
      exact e2
 cases hk:K.lookup a with
 |some o=>
  have e:=KX a o hk
  rw[ha]at e
  cases e
  refine core (λ_=>none) (λ_=>.inl rfl) (.inr ⟨_,vs.toArray,_,hk,rfl,rfl,rfl,by rw[kM,lenV];exact hl,by simpa using rv⟩) (λb u z=>by have z':(none:j6 HO)=Gc u:=z;cases z') (λb z=>absurd rfl z) λz=>absurd rfl z
 |none=>
  refine core (λb=>if b=a then Gc (.frz {cls:=.type "list",data:=.seq vs.toArray} (.lst (ns.map V.int)))else none) (λb=>?_) (.inl (.inr ⟨{cls:=.type "list",data:=.seq vs.toArray},kh rfl⟩)) (λb u z=>?_) (λb z=>?_) λ_=>hk
  .by_cases hb:b=a
   .exact .inr ⟨_,_,kh hb⟩
   .exact .inl (ko hb)
  .by_cases hb:b=a
   .have z':=(kh hb).symm.trans z
    cases z'
    subst hb
    exact⟨ha,by rw[kT];exact hl,vs,_,rv,ha⟩
   .have z':=(ko hb).symm.trans z
    cases z'
  .by_cases hb:b=a
   .exact hb
   .exact absurd (ko hb) z
end L2
namespace L2
open PySem PySem.Spec PyProof.Rows
theorem X6{l:qq}{n k:Nat}{q:ke}{loose:Wp Str}{XP:(Str->j6 j4)->lD->Prop}{YP:lB->lD->Prop}{d:DefRec}{K:Params->jz}{CX:lB->CXT}{sp:lB->Sp}{x:Str}(hn:l.most=Gc n)(hn2:n<=sizeLine)(hdf:d.params.defaults=[])(hr:K8 k callerA)(hY:∀(w:lB) (h:lD),YP w h->(K w.params).In h)(F:∀(w:lB) (mg:Str->j6 j4) (fa:j9) (h:lD),(K w.params).In h->h.Ns mainGlobals mg->mg d.name=Gc (.ref fa)->∃fd:nB,(∀(s:j5) (u:j4),vI s fd ⟨[u],[]⟩ [(x,u)])/\∀base:lD,(K w.params).In base->base.Ns mainGlobals mg->Nn l.prog w (K w.params) mg base (CX w) k fa fd [x] (sp w))(hsp:∀(w:lB) (H:Hp) (a:j9) (ns:Wp Int),ns.length<=n->fN H->SqL (K w.params) H a (ns.map V.int)->sp w [.ref a] H (λv _=>v=.bl true) λ_ _ _=>ou)(hCX:∀(w:lB) (H:Hp) (s:j5) (e:j4) (s':j5),CX w [] H s (λ_ _ _=>ou) e s'->ou):wk q loose XP YP l.row.toRowW d [] (λf vs=>xD f vs):=by
 refine Att.attach_call hn hdf λw s₀ s₁ mg mb fa o pm cd doc a vs ns G Y ho hd hcd hmg hobj hints hlen hg=>?_
 have KX:=hY w _ Y
 obtain⟨fd,hb,hF⟩:=F w mg fa _ KX G.T.g hmg
 exact Vj KX G.T.g G.T.b G.T.builtins G.T.nolimit hg hobj hints (kF hlen hn2) hr hF hb (λH hO hS=>hsp w H a ns hlen hO hS) λH e s'=>hCX w H s₁ e s'
end L2
namespace L2
open PySem PySem.Spec PyProof.Rows
noncomputable def Iw(s:lY):Arguments:=match s with
 | .FunctionDef _ a _ _ _ _ _ _ _ _=>a
 |_=>{posonlyargs:=[],args:=[],vararg:=none,kwonlyargs:=[],kw_defaults:=[],kwarg:=none,defaults:=[]}
noncomputable def EN(s:lY):Wp lY:=match s with
 | .FunctionDef _ _ b _ _ _ _ _ _ _=>b
 |_=>[]
noncomputable def AK(s:lY):m9:=match s with
 | .FunctionDef _ _ _ _ _ _ sc _ _ _=>sc
 |_=>{kind:=.function,names:=[],isGenerator:=false,isCoroutine:=false}
abbrev CX0:CXT:=λ_ _ _ _ _ _=>ou
abbrev E0:XK:=λ_ _ _=>ou
theorem dz{X:Cx}:Passes CX0 X E0:=λ_ _ _ _ _ _ _ h=>h.elim
structure Fun(K:jz)(x qual:Str)(st:lY)(f:j9)(fd:nB):Prop where
 ex:∃(oc:j4) (od:j6 j9) (kV doc pm:j4) (an:j6 j9) (cdv ct:j4) (osl:kj (j6 j4)),
  fd=oa x qual (Iw st) (EN st) (AK st) .none kV doc pm an cdv ct/\K.lookup f=Gc ⟨oc,od,.func fd,osl⟩/\rG K cdv qual=true
 kp:nX K (.ref f)=true
section
variable{P:ke}{w:lB}{K:jz}{mg:Str->j6 j4}{base:lD}
theorem Fun.ok{x qual:Str}{st:lY}{f:j9}{fd:nB}{N ps:Wp Str}{k:Nat}{sp:Sp}(F:Fun K x qual st f fd)(S:AY N ps (AK st))(len:∀vs H Q E,sp vs H Q E->vs.length=ps.length)(hbody:∀(cdv:j4) (A:lF) (outer:Wp Env) (s:j5) (H:Hp) (vs:Wp V) (Q:VK) (E:XK),K8 k (A.deeper (envOfC qual (AK st) s.heap.objs.size f cdv))->sp vs H Q E->∃t,PSs (Uw CX0 P w K mg base N qual (AK st) f cdv A outer s H E).nox (EN st) t/\t {nx:=λ_ H'=>Q .non H',rt:=Q} (start N vs) H):Nn P w K mg base CX0 (k+1) f fd ps sp:=by
 obtain⟨oc,od,kV,doc,pm,an,cdv,ct,osl,rfl,lk,hcd⟩:=F.ex
 refine eW lk hcd S len λA outer s H vs Q E hr hsp=>?_
 obtain⟨t,h,q⟩:=hbody cdv A outer s H vs Q E hr hsp
 exact⟨t,h.nox,q⟩
theorem Fun.binds{x qual:Str}{st:lY}{f:j9}{fd:nB}{ps:Wp Str}(F:Fun K x qual st f fd)(h:∀(kV doc pm:j4) (an:j6 j9) (cdv ct:j4) (us:Wp j4),us.length=ps.length->bindArgs (oa x qual (Iw st) (EN st) (AK st) .none kV doc pm an cdv ct) ⟨us,[]⟩=pure (ps.zip us)):Binds K fd ps []:=by
 obtain⟨oc,od,kV,doc,pm,an,cdv,ct,osl,rfl,lk,hcd⟩:=F.ex
 exact .all (h kV doc pm an cdv ct)
theorem aq{x qual:Str}{st:lY}{f:j9}{oc:j4}{od an:j6 j9}{osl:kj (j6 j4)}{kV doc pm cdv ct:j4}(l:K.lookup f=Gc ⟨oc,od,.func (oa x qual (Iw st) (EN st) (AK st) .none kV doc pm an cdv ct),osl⟩)(c:rG K cdv qual=true)(k:nX K (.ref f)=true):Fun K x qual st f (oa x qual (Iw st) (EN st) (AK st) .none kV doc pm an cdv ct):=⟨⟨oc,od,kV,doc,pm,an,cdv,ct,osl,rfl,l,c⟩,k⟩
end
section
variable{X:Cx}
theorem pv(i:Nat){x:Str}{pos:Pos}(hN:X.N[i]?=Gc x:=by rfl)(hv:Vis X.env.scope x:=by first|exact Or.inl rfl|exact yv (Or.inl rfl)|exact yv (yv rfl))(hd:(x==("__debug__":Str))=false:=by decide)(hcd:(x==("__classdict__":Str))=false:=by decide):PE X (.Name x pos) (gd i):=XM hN hv hd hcd
end
theorem Uk{A B:Prop}(h:B):if false=true then A else B:=by
 rw[ko lU]
 exact h
theorem Vw{A B:Prop}(h:A):if true=true then A else B:=by
 rw[kh rfl]
 exact h
def CC(H H':Hp):Prop:=∀b o,H b=Gc o->H' b=Gc o
end L2
end
noncomputable section
namespace L2
open PySem PySem.Spec PyProof.Rows
noncomputable def FY(cells:Wp (Str×j9)):Wp (Str×oS)->Wp (Str×j9)->Wp (Str×j9)
 | [],cs=>cs
 |(n,k)::r,cs=>if(k==l9)=true then FY cells r ((n,(cells.lookup n).getD 0)::cs)else FY cells r cs
theorem Nd{env:Env}:∀(names:Wp (Str×oS)) (cs:Wp (Str×j9)),(∀y∈names,y.2=.free->∃a,env.cells.lookup y.1=Gc a)->(forIn names cs λ(x:Str×oS) r=>match x with|(name,kind)=>if(kind==l9)=true then(do let a<-cellOf env name;pure (qv ((name,a)::r)))else pure (qv r):Sem (Wp (Str×j9)))=pure (FY env.cells names cs)
 | [],cs,_=>by simp[FY]
 |(n,k)::r,cs,h=>by
  rw[tT]
  have ih:=λcs=>Nd r cs λy hy=>h y (kC _ hy)
  by_cases hk:(k==l9)=true
  .obtain⟨a,ha⟩:=h (n,k) kJ (by simpa using hk)
   have ha':env.cells.lookup n=Gc a:=ha
   have e:cellOf env n=pure a:=by unfold cellOf;rw[ha']
   simp only[hk,qk,e,pure_bind,FY,ha',vy]
   exact ih _
  .simp only[hk,pL,pure_bind,FY]
   exact ih _
theorem Mf{scope:m9}{env:Env}(h:∀y∈scope.names,y.2=.free->∃a,env.cells.lookup y.1=Gc a):closureFor scope env=pure (FY env.cells scope.names []):=by
 unfold closureFor
 have:=Nd (env:=env) scope.names [] h
 simp only[bind_pure]at this⊢
 exact this
theorem KR{cells:Wp (Str×j9)}{x:Str}{c:j9}:∀{names:Wp (Str×oS)} {cs:Wp (Str×j9)},(∀y∈names,y.2=.free->∃a,cells.lookup y.1=Gc a)->(FY cells names cs).lookup x=Gc c->cs.lookup x=Gc c\/cells.lookup x=Gc c
 | [],cs,_,h=>.inl h
 |(n,k)::r,cs,hh,h=>by
  have hr:∀y∈r,y.2=.free->∃a,cells.lookup y.1=Gc a:=λy hy=>hh y (kC _ hy)
  unfold FY at h
  by_cases hk:(k==l9)=true
  .rw[kh hk]at h
   rcases KR hr h with q|q
   .obtain⟨a,ha⟩:=hh (n,k) kJ (by simpa using hk)
    have ha':cells.lookup n=Gc a:=ha
    rw[mS]at q
    cases hx:x==n with
    |true=>
     rw[hx,ha']at q
     have e:x=n:=by simpa using hx
     subst e
     cases q
     exact .inr ha'
    |false=>
     rw[hx]at q
     exact .inl q
   .exact .inr q
  .rw[ko hk]at h
   exact KR hr h
theorem IF{cells:Wp (Str×j9)}{x:Str}:∀{names:Wp (Str×oS)} {cs:Wp (Str×j9)},((x,l9)∈names\/∃c,cs.lookup x=Gc c)->∃c,(FY cells names cs).lookup x=Gc c
 | [],cs,h=>h.elim (λz=>nomatch z) id
 |(n,k)::r,cs,h=>by
  unfold FY
  by_cases hk:(k==l9)=true
  .rw[kh hk]
   refine IF ?_
   by_cases hx:x=n
   .subst hx
    exact .inr ⟨_,by rw[mS,beq_self_eq_true]⟩
   .rcases h with h|⟨c,h⟩
    .rcases kG.mp h with e|e
     .cases e;exact absurd rfl hx
     .exact .inl e
    .refine .inr ⟨c,?_⟩
     rw[mS,show(x==n)=false by simpa using hx]
     exact h
  .rw[ko hk]
   refine IF ?_
   rcases h with h|h
   .rcases kG.mp h with e|e
    .cases e;exact absurd rfl hk
    .exact .inl e
   .exact .inr h
theorem JE{env:Env}{x:Str}:∀{names:Wp (Str×oS)},names.lookup x=Gc .free->(names.map λ(n,k)=>if(k==l9 && env.scope.kind== .function && env.kindOf n==Gc .cell)then(n,pC)else(n,k)).lookup x=Gc .cell\/(names.map λ(n,k)=>if(k==l9 && env.scope.kind== .function && env.kindOf n==Gc .cell)then(n,pC)else(n,k)).lookup x=Gc .free
 | [],h=>by simp at h
 |(n,k)::r,h=>by
  have ih:= @JE env x r
  show z9 x ((if(k==l9 && env.scope.kind== .function && env.kindOf n==Gc .cell)=true then(n,pC)else(n,k))::_)=_\/z9 x ((if(k==l9 && env.scope.kind== .function && env.kindOf n==Gc .cell)=true then(n,pC)else(n,k))::_)=_
  cases hx:x==n with
  |true=>
   simp only[mS,hx]at h
   cases h
   by_cases hc:(l9==l9 && env.scope.kind== .function && env.kindOf n==Gc .cell)=true
   .rw[kh hc];simp only[mS,hx];exact .inl trivial
   .rw[ko hc];simp only[mS,hx];exact .inr trivial
  |false=>
   simp only[mS,hx]at h
   by_cases hc:(k==l9 && env.scope.kind== .function && env.kindOf n==Gc .cell)=true
   .rw[kh hc];simp only[mS,hx];exact ih h
   .rw[ko hc];simp only[mS,hx];exact ih h
theorem K3{env:Env}{scope:m9}{x:Str}{k':oS}(hk:k'=.cell\/k'=.free)(h:(relabel scope env).names.lookup x=Gc k'):(x,l9)∈scope.names\/(x,pC)∈scope.names:=by
 have hm:=lh h
 obtain⟨⟨n,k⟩,hy,e⟩:=lC.mp (show(x,k')∈scope.names.map _ from hm)
 by_cases hc:(k==l9 && env.scope.kind== .function && env.kindOf n==Gc .cell)=true
 .simp only[hc,qk]at e
  cases e
  have:k=.free:=by
   have:=((kQ _ _).mp hc).1
   exact xE.mp ((kQ _ _).mp this).1
  subst this
  exact .inl hy
 .simp only[hc,pL]at e
  cases e
  rcases hk with rfl|rfl
  .exact .inr hy
  .exact .inl hy
theorem Br:∀(names:Wp (Str×oS)) (n:Nat) (cs:Wp (Str×j9)),cellsFrom n names cs=cellsFrom n names []++cs
 | [],_,_=>rfl
 |(x,k)::r,n,cs=>by
  unfold cellsFrom
  split
  .rw[Br r _ ((x,n)::cs),Br r _ [(x,n)]];simp
  .exact Br r n cs
theorem GF{x:Str}{c:j9}:∀{names:Wp (Str×oS)} {n:Nat},(x,c)∈cellsFrom n names []->(x,pC)∈names
 | [],_,h=>nomatch h
 |(y,k)::r,n,h=>by
  unfold cellsFrom at h
  split at h
  .rename_i hk
   rw[Br]at h
   rcases kY.mp h with z|z
   .exact kC _ (GF z)
   .have e:=kX.mp z
    cases e
    rw[xE.mp hk]
    exact kJ
  .exact kC _ (GF h)
theorem Fx{M:yP}{A:lF}{E:j4->j5->Prop}{s:j5}{scope:m9}{globals:j9}{cl:Wp (Str×j9)}{qual:Str}{env:Env}{Q:Env->j5->Prop}(hQ:∀h':lD,h'.Ns s.heap.objs.size (λ_=>none)->(∀b o,s.heap.get? b=Gc o->h'.get? b=Gc o)->CellsOk h' (s.heap.objs.size+1) (cellsFrom (s.heap.objs.size+1) scope.names [])->Q (newEnv scope s.heap.objs.size globals (cellsFrom (s.heap.objs.size+1) scope.names cl) qual none .none (Gc env) builtinsNs) {s with heap:=h'}):wpAny M A (newFunctionEnv scope globals cl [] qual none .none (Gc env)) Q E s:=by
 simp only[newFunctionEnv,uu,qk]
 refine jy (wpAny_alloc ?_)
 refine jy (wpAny_layCells _ (λname kind cells=>by cases hkc:kind==pC<;>simp[hkc]) _ _ _ _ ?_)
 have ok:=cellsFrom_ok scope.names (s.heap.push {cls:=.type "dict",data:=.dict #[]}) (s.heap.objs.size+1) [] ⟨λ_ _ hm=>(nomatch hm),rm⟩ (by rw[ku];exact kA _)
 rw[ku]at ok
 rw[show({s with heap:=s.heap.push {cls:=.type "dict",data:=.dict #[]}}:j5).heap.objs.size=s.heap.objs.size+1 from ku ..]
 rw[uB]
 refine jy (j7 (j7 ?_))
 exact hQ _ ((Heap.Ns.new s.heap (.type "dict")).keeps (wQ _ _)) (λb o e=>wQ _ _ b o (j0 _ e)) ok
end L2
end
noncomputable section
namespace L2
open PySem PySem.Spec PyProof.Rows
noncomputable def PY(N:Wp Str)(osc scope:m9):Wp Str->Wp (j6 Nat)->lA
 | [],[]=>true
 |_::r,none::q=>PY N osc scope r q
 |x::r,Gc i::q=>decide (N[i]?=Gc x) && (decide (osc.names.lookup x=Gc .cell)||decide (osc.names.lookup x=Gc .free)) && decide (scope.names.lookup x=Gc .free) && PY N osc scope r q
 |_,_=>false
theorem Ru{N:Wp Str}{osc scope:m9}:∀{N':Wp Str} {ix:Wp (j6 Nat)},PY N osc scope N' ix=true->ix.length=N'.length
 | [],[],_=>rfl
 |_::r,none::q,h=>by
  unfold PY at h
  simp[Ru h]
 |x::r,Gc i::q,h=>by
  unfold PY at h
  have:=((kQ _ _).mp h).2
  simp[Ru this]
 | [],_::_,h=>by simp[PY]at h
 |_::_,[],h=>by simp[PY]at h
theorem YS{N:Wp Str}{osc scope:m9}:∀{N':Wp Str} {ix:Wp (j6 Nat)},PY N osc scope N' ix=true->∀{j i:Nat} {x:Str},N'[j]?=Gc x->ix[j]?=Gc (Gc i)->N[i]?=Gc x/\(osc.names.lookup x=Gc .cell\/osc.names.lookup x=Gc .free)/\scope.names.lookup x=Gc .free
 | [],[],_,j,_,_,h,_=>by simp at h
 |_::r,none::q,h,j,i,x,h1,h2=>by
  unfold PY at h
  cases j with
  |zero=>simp at h2
  |succ j=>exact YS h (by simpa using h1) (by simpa using h2)
 |y::r,Gc k::q,h,j,i,x,h1,h2=>by
  unfold PY at h
  obtain⟨ha,hr⟩:=(kQ _ _).mp h
  obtain⟨ha,h3⟩:=(kQ _ _).mp ha
  obtain⟨h4,h5⟩:=(kQ _ _).mp ha
  cases j with
  |zero=>
   simp at h1 h2
   subst h1 h2
   refine⟨kO h4,?_,kO h3⟩
   rcases(mM _ _).mp h5 with z|z
   .exact .inl (kO z)
   .exact .inr (kO z)
  |succ j=>exact YS hr (by simpa using h1) (by simpa using h2)
 | [],_::_,h,_,_,_,_,_=>by simp[PY]at h
 |_::_,[],h,_,_,_,_,_=>by simp[PY]at h
structure Ab(N:Wp Str)(osc:m9)(N':Wp Str)(ix:Wp (j6 Nat))(scope:m9):Prop where
 kind:scope.kind=.function
 cells:∀y∈scope.names,y.2=.cell->scope.names.lookup y.1=Gc .cell
 names:∀y∈scope.names,y.2=.local->scope.names.lookup y.1=Gc .local
 free:∀y∈scope.names,y.2=.free->(osc.names.lookup y.1=Gc .cell\/osc.names.lookup y.1=Gc .free)
 ok:PY N osc scope N' ix=true
noncomputable def sig(ix:Wp (j6 Nat))(σ:St):St:=ix.map λo=>o.bind λi=>(σ[i]?).join
noncomputable def Cm(X:Cx)(N':Wp Str)(scope:m9)(s:j5)(H:Hp)(fp:Wp j9):Cx where
 prog:=X.prog
 w:=X.w
 K:=X.K
 mg:=X.mg
 base:=X.base
 A:=X.A
 N:=N'
 s₀:=s
 H₀:=H
 env:=compEnvC scope (cellsFrom (s.heap.objs.size+1) scope.names (FY X.env.cells scope.names [])) s.heap.objs.size X.env
 outer:=X.stack
 stack:=X.stack
 ex:=fp
 fn:=λx=>decide (scope.names.lookup x=Gc .cell)
 calm:=true
 pn:=[]
 xe:=λ_ _=>ou
section
variable{X:Cx}{pins:Wp (j9×Obj)}{σ:St}{H:Hp}{s:j5}{N':Wp Str}{ix:Wp (j6 Nat)}{scope:m9}{fp:Wp j9}
theorem Inv.cellsOf(I:Inv X pins σ H s)(S:Ab X.N X.env.scope N' ix scope):∀y∈scope.names,y.2=.free->∃a,X.env.cells.lookup y.1=Gc a:=λy hy hk=>I.ok.has y.1 (S.free y hy hk)
theorem Pb(S:Ab X.N X.env.scope N' ix scope)(hc:X.calm=true)(I:Inv X pins σ H s)(hf:∀b∈fp,L0 X pins H b)(hlt:∀b∈fp,b<s.heap.objs.size){h1:lD}{m1:Str->j6 j4}{tk:Nat}(hn:h1.Ns s.heap.objs.size m1)(hk:∀b o,s.heap.get? b=Gc o->h1.get? b=Gc o)(hC:CellsOk h1 (s.heap.objs.size+1) (cellsFrom (s.heap.objs.size+1) scope.names [])):Inv (Cm X N' scope s H fp) [] (sig ix σ) H {s with heap:=h1,toks:=tk}:=by
 have hcl:=I.cellsOf S
 have sub:∀{x:Str} {c:j9},(FY X.env.cells scope.names []).lookup x=Gc c->X.env.cells.lookup x=Gc c:=λ{x c} h=>by
  rcases KR hcl h with z|z
  .simp at z
  .exact z
 have old:∀{x:Str} {c:j9},X.env.cells.lookup x=Gc c->c<s.heap.objs.size:=λ{x c} h=>by
  obtain⟨v,oc,ho,_⟩:=I.cell x c h
  exact kL ho
 have look:∀{x:Str} {c:j9},(cellsFrom (s.heap.objs.size+1) scope.names (FY X.env.cells scope.names [])).lookup x=Gc c->(x,c)∈cellsFrom (s.heap.objs.size+1) scope.names []\/X.env.cells.lookup x=Gc c:=λ{x c} h=>by
  rw[Br,qE]at h
  cases e:(cellsFrom (s.heap.objs.size+1) scope.names []).lookup x with
  |some a=>rw[e]at h;cases h;exact .inl (lh e)
  |none=>rw[e]at h;exact .inr (sub h)
 refine⟨⟨I.ok.mod,S.kind,I.ok.glob,I.ok.blt,kA _,λx y c h1 h2=>?_,λx hx=>?_,λx c hx h=>?_,λ_=>I.ok.hd hc,I.ok.frames,.inl rfl,λb hb=>?_,I.bs,kF I.ok.bsz I.sz,λb o e hb=>?_,λb hb hs=>?_,I.stack,I.Q0⟩,
  rfl,I.bare,Un.kept hk,⟨m1,hn,λj x v h1 h2 h3=>?_⟩,λx c h=>?_,I.hok.fresh (kA _),λx c h=>?_,λp hp=>absurd (show p∈([]:Wp (j9×Obj))from hp) (by simp),I.hok.kept hk,?_⟩
 . -- inj
   rcases look h1 with a|a<;>rcases look h2 with b|b
   .exact yp hC.apart a b
   .exact absurd (kD (old b) (pI (hC.empty _ _ a).2)) (mY _)
   .exact absurd (kD (old a) (pI (hC.empty _ _ b).2)) (mY _)
   .exact I.ok.inj x y c a b
 . -- has
   have hx':(relabel scope X.env).names.lookup x=Gc .cell\/(relabel scope X.env).names.lookup x=Gc .free:=hx
   show∃c,(cellsFrom (s.heap.objs.size+1) scope.names (FY X.env.cells scope.names [])).lookup x=Gc c
   rw[Br,qE]
   cases e:(cellsFrom (s.heap.objs.size+1) scope.names []).lookup x with
   |some a=>exact⟨a,rfl⟩
   |none=>
    rcases(hx'.elim (K3 (.inl rfl)) (K3 (.inr rfl)))with z|z
    .exact IF (.inl z)
    .obtain⟨c,hc⟩:=Jr (n:=s.heap.objs.size+1) (S.cells _ z rfl)
     rw[e]at hc;cases hc
 . -- cab
   obtain⟨c',hc'⟩:=Jr (n:=s.heap.objs.size+1) (kO hx)
   have h:(cellsFrom (s.heap.objs.size+1) scope.names (FY X.env.cells scope.names [])).lookup x=Gc c:=h
   rw[Br,qE,hc']at h
   cases h
   exact pI (hC.empty _ _ (lh hc')).2
 . -- exf
   refine⟨kS (hlt b hb),λx c h=>?_⟩
   rcases look h with a|a
   .exact λe=>absurd (kD (e▸hlt b hb) (pI (hC.empty _ _ a).2)) (mY _)
   .exact(hf b hb).2.2.2.2.1 x c a
 . -- X8
   rcases(hf b hb).2.2.2.1 with z|z
   .exact I.ok.X8 b o e z
   .exact absurd (kD (kL (I.ok.bs b o e).1) z) (mY _)
 . -- Yt
   rcases kG.mp (I.Rq b hs)with z|z
   .exact(hf b hb).2.1 z
   .exact(hf b hb).2.2.1 z
 . -- loc
   unfold sig at h2
   rw[kn]at h2
   cases e:ix[j]? with
   |none=>rw[e]at h2;cases h2
   |some o=>
    rw[e]at h2
    cases o with
    |none=>cases h2
    |some i=>
     have h2':(σ[i]?).join=Gc v:=by simpa using h2
     have h4:σ[i]?=Gc (Gc v):=by
      cases e4:σ[i]? with
      |none=>rw[e4]at h2';cases h2'
      |some q=>rw[e4]at h2';exact congrArg Gc h2'
     obtain⟨q1,q2,q3⟩:=YS S.ok h1 e
     obtain⟨m,_,hl⟩:=I.loc
     obtain⟨u,r,l⟩:=hl i x v q1 h4 (q2.elim (λz=>.inr (.inl z)) λz=>.inr (.inr z))
     refine⟨u,r,?_⟩
     rcases l with⟨l,_⟩|⟨_,c,lc,z⟩
     .have l':X.env.scope.names.lookup x=Gc .local:=l
      rcases q2 with z|z<;>(rw[z]at l';cases l')
     .refine .inr ⟨JE q3,?_⟩
      obtain⟨c',hc'⟩:=IF (cells:=X.env.cells) (cs:=[]) (.inl (lh q3))
      have ec:=sub hc'
      rw[lc]at ec
      cases ec
      have no:(cellsFrom (s.heap.objs.size+1) scope.names []).lookup x=none:=by
       cases e:(cellsFrom (s.heap.objs.size+1) scope.names []).lookup x with
       |none=>rfl
       |some a=>
        have q:=S.cells _ (GF (lh e)) rfl
        rw[q3]at q;cases q
      refine⟨c,(by show(cellsFrom (s.heap.objs.size+1) scope.names (FY X.env.cells scope.names [])).lookup x=Gc c;rw[Br,qE,no];exact hc'),?_⟩
      obtain⟨oc,ho,hd⟩:=z
      exact⟨oc,hk _ _ ho,hd⟩
 .rcases look h with a|a
  .exact⟨_,(hC.empty _ _ a).1⟩
  .obtain⟨v,oc,ho,hd⟩:=I.cell x c a
   exact⟨v,oc,hk _ _ ho,hd⟩
 .rcases look h with a|a
  .exact I.hok.fresh (pI (hC.empty _ _ a).2)
  .exact I.LK x c a
 .show(sig ix σ).length=N'.length
  unfold sig
  rw[kT]
  exact Ru S.ok
end
end L2
end
noncomputable section
namespace L2
open PySem PySem.Spec PyProof.Rows
def PTs(X:Cx)(ifs:Wp ky)(t:TT):Prop:=
 ∀(pins:Wp (j9×Obj)) (s:j5) (σ:St) (H:Hp) (Q:lA->Hp->Prop),Inv X pins σ H s->t σ H Q->
  wpAny (model X.prog X.w) X.A (forIn ifs true λc r=>if r=true then do let ok<-isTrue c X.env (eval c X.env);pure (qv ok)else pure (qv r)) (TP X pins σ Q) X.xe s
noncomputable def eO:TT:=λ_ H Q=>Q true H
theorem Y0{X:Cx}:PTs X [] eO:=λ_ _ _ H _ I h=>wpAny_tests_nil ⟨H,I,h⟩
theorem YG{X:Cx}{c:ky}{t:TT}(h:PT X c t):PTs X [c] t:=λpins s σ H Q I q=>wpAny_tests_one (h pins s σ H Q I q)
theorem PD{α:Type}{M:yP}{A:lF}{t:Sem α}{Q:α->j5->Prop}{E:j4->j5->Prop}{s:j5}(h:wpAny M A t Q (λ_ _=>ou) s):wpAny M A t Q E s:=qd h (λ_ _ q=>q) λ_ _ f=>f.elim
def aP(ix:Wp (j6 Nat))(g:TG)(tc:TT)(te:TE)(J:It)(σ:St)(H:Hp)(Q:VK):Prop:=
 ∀D,H D=none->∃W:Nat->Nat->St->Hp->Wp V->Prop,(∃m,W 0 m (sig ix σ) (upd H D (.lst [])) [])/\∀i m σ H ys,W i m σ H ys->H D=Gc (.lst ys)/\
  ((J.stop i H/\Q (.ref D) H)\/(J.go i H/\ys.length<sizeLine/\∀x H',J.yld i H x H'->g x σ H' λσ2 H2=>tc σ2 H2 λb H3=>
    if b=true then te σ2 H3 λy H4=>H4 D=Gc (.lst ys)/\∃m',m'<m/\W (i+1) m' σ2 (upd H4 D (.lst (ys++[y]))) (ys++[y])else∃m',m'<m/\W (i+1) m' σ2 H3 ys))
noncomputable def YX(ix:Wp (j6 Nat))(wi:TI)(g:TG)(tc:TT)(te:TE):TE:=λσ H Q=>wi σ H λJ H1=>aP ix g tc te J σ H1 Q
section
variable{X:Cx}{pins:Wp (j9×Obj)}{σ:St}{s₂:j5}{N':Wp Str}{ix:Wp (j6 Nat)}{scope:m9}{elt tg iter:ky}{ifs:Wp ky}{pos:Pos}{g:TG}{tc:TT}{te:TE}
def Block(X:Cx)(N':Wp Str)(scope:m9)(tg:ky)(ifs:Wp ky)(elt:ky)(g:TG)(tc:TT)(te:TE):Prop:=
 ∀(s:j5) (H:Hp) (fp:Wp j9),PG (Cm X N' scope s H fp) tg g/\PTs (Cm X N' scope s H fp) ifs tc/\PE (Cm X N' scope s H fp) elt te
theorem Rj {X' : Cx} {it : j9} {fp : Wp j9} {tn : Nat -> lD -> Prop} {J : It} {D : j9} {Q : VK} {R : uo -> j5 -> Prop} {W : Nat -> Nat -> St -> Hp -> Wp V -> Prop} {s : j5} {e : Env} {n : Nat} (he : X'.env = e) (hx : X'.xe = fun _ _ => ou) (hcm : X'.calm = true) (T : Turn X'.prog X'.w X'.K tg J fp it tn) (hfp : ∀ H : Hp, (∀ b ∈ fp, H b = none) -> ∀ b ∈ fp, L0 X' [] H b) (hg : PG X' tg g) (ht : PTs X' ifs tc) (hb : PE X' elt te) (turn : ∀ i m σ H ys, W i m σ H ys -> H D = Gc (.lst ys) /\ ((J.stop i H /\ Q (.ref D) H) ∨ (J.go i H /\ ys.length < sizeLine /\ ∀ x H', J.yld i H x H' -> g x σ H' fun σ2 H2 => tc σ2 H2 fun b H3 =>
        if b = true then te σ2 H3 fun y H4 => H4 D = Gc (.lst ys) /\ ∃ m', m' < m /\ W (i + 1) m' σ2 (upd H4 D (.lst (ys ++ [y]))) (ys ++ [y]) else ∃ m', m' < m /\ W (i + 1) m' σ2 H3 ys)))
    (hR : ∀ s' σ' H', Inv X' [] σ' H' s' -> Q (.ref D) H' -> R (.ok .next) s')
    (h0 : ∃ i σ' H' ys, Inv X' [] σ' H' s /\ tn i s.heap /\ (∀ b ∈ fp, H' b = none) /\ W i n σ' H' ys) :
    codeAny (model X'.prog X'.w) X'.A (.compLoop (.ListComp elt [⟨tg, iter, ifs, 0⟩] scope pos) 0 (.ref it) (.ref D) e) R s := by
  subst he
  refine yw rfl (fun n s => ∃ i σ' H' ys, Inv X' [] σ' H' s /\ tn i s.heap /\ (∀ b ∈ fp, H' b = none) /\ W i n σ' H' ys) (fun n s3 hI => ?_) n h0
  show wpAny _ X'.A ((compTurn (.ListComp elt [⟨tg, iter, ifs, 0⟩] scope pos) 0 (.ref it) (.ref D) X'.env).onRaise (fun x => do noteFrame x X'.env; theTreesLotGoes x)) _ _ s3
  refine wpAny_noted (PD ?_)
  rw [compTurn_list]
  obtain ⟨i, σ3, H3, ys, I3, st3, fr3, w3⟩ := hI
  obtain ⟨hD, alt⟩ := turn i n σ3 H3 ys w3
  rcases alt with ⟨stop, q⟩ | ⟨go, hlen, step⟩
  · refine jy (nS (jy (thn (T.done X' rfl rfl rfl hcm i [] s3 σ3 H3 _ I3 (hfp H3 fr3) st3 stop) fun r s4 ⟨hr, I4⟩ => ?_)))
    subst hr
    exact j7 (hR s4 σ3 H3 I4 q)
  · refine jy (nS (jy (thn (T.item X' rfl rfl rfl hcm i [] s3 σ3 H3 _ I3 (hfp H3 fr3) st3 go) fun r s4 ⟨u, hr, h4⟩ => ?_)))
    subst hr
    refine jy (thn h4 fun _ s5 ⟨x, H5, I5, r5, y5, st5, fr5⟩ => ?_)
    have I5' := I5.pinned (hfp H5 fr5) (T.obj _ _ st5)
    have hg' := hg _ s5 σ3 H5 x u _ I5' r5 (step x H5 y5)
    rw [hx] at hg'
    refine jy (thn hg' fun _ s6 ⟨σ6, H6, I6, q6⟩ => ?_)
    have ht' := ht _ s6 σ6 H6 _ I6 q6
    rw [hx] at ht'
    refine jy (thn ht' fun ok s7 ⟨H7, I7, q7⟩ => ?_)
    have again : ∀ {s8 : j5} {H8 : Hp} {zs : Wp V} {m' : Nat}, Inv X' ([] ++ Lk fp s5.heap) σ6 H8 s8 -> m' < n -> W (i + 1) m' σ6 H8 zs -> ∃ m, m < n /\ ∃ i σ' H' ys, Inv X' [] σ' H' s8 /\ tn i s8.heap /\ (∀ b ∈ fp, H' b = none) /\ W i m σ' H' ys := fun {s8 H8 zs m'} I8 hm w8 => by
      refine ⟨m', hm, i + 1, σ6, H8, zs, I8.Hy, T.keep _ _ _ st5 fun b hb o e => (I8.pin (b, o) (k9 _ (k9 _ (Ed hb e)))).1, fun b hb => ?_, w8⟩
      obtain ⟨o, e, d⟩ := T.obj _ _ st5 b hb
      exact (I8.pin (b, o) (k9 _ (k9 _ (Ed hb e)))).2.1
    cases ok with
    | false =>
      rw [ko (by decide)] at q7
      obtain ⟨m', hm, w7⟩ := q7
      exact j7 ⟨rfl, again I7 hm w7⟩
    | true =>
      rw [kh rfl] at q7
      have hb' := hb _ s7 σ6 H7 _ I7 q7
      rw [hx] at hb'
      refine jy (jy (thn hb' fun v s8 ⟨y, H8, I8, r8, hD8, m', hm, w8⟩ => ?_))
      have ha := NZ (X := X') _ s8 σ6 H8 (.ref D) [y] (.ref D) [v] (fun _ H9 => H9 = upd H8 D (.lst (ys ++ [y]))) I8 rfl (.cons r8 .nil) ⟨D, ys, y, rfl, rfl, hD8, hlen, rfl⟩
      rw [hx] at ha
      refine jy (thn ha fun _ s9 ⟨_, H9, I9, _, e9⟩ => ?_)
      subst e9
      exact j7 (j7 ⟨rfl, again I9 hm w8⟩)
theorem PM(hc:X.calm=true)(S:Ab X.N X.env.scope N' ix scope)(hb:Block X N' scope tg ifs elt g tc te){it:j9}{fp:Wp j9}{tn:Nat->lD->Prop}{J:It}{H₂:Hp}{Q:VK}{E:j4->j5->Prop}{RR:j4->j9->uo->j5->Prop}(I2:Inv X pins σ H₂ s₂)(T:Turn X.prog X.w X.K tg J fp it tn)(st2:tn 0 s₂.heap)(f2:∀b∈fp,L0 X pins H₂ b)(hW:aP ix g tc te J σ H₂ Q)(hRR:∀D C H' s',Inv X pins σ H' s'->(∃m,s'.heap.Ns C m)->L0 X pins H' C->Q (.ref D) H'->RR (.ref D) C (.ok .next) s'):wpAny (model X.prog X.w) X.A (newList []) (λacc s₃=>wpAny (model X.prog X.w) X.A (newFunctionEnv scope X.env.globals (FY X.env.cells scope.names []) [] X.env.qual none .none (Gc X.env)) (λcenv s₄=>
  codeAny (model X.prog X.w) X.A (.compStart (.ListComp elt [⟨tg,iter,ifs,0⟩] scope pos) 0 (.ref it) acc {cenv with scope:=relabel scope X.env}) (RR acc cenv.locals) s₄) E s₃) E s₂:=by
 have hD0:H₂ s₂.heap.objs.size=none:=I2.hok.fresh (kA _)
 have hlt2:∀b∈fp,b<s₂.heap.objs.size:=λb hb=>by
  obtain⟨o,e,_⟩:=T.obj _ _ st2 b hb
  exact kL e
 refine lN (Fx (λh₁ hns₁ hsb₁ hcl₁=>?_))
 have I3:Inv X pins σ (upd H₂ s₂.heap.objs.size (.lst [])) {s₂ with heap:=s₂.heap.push {cls:=.type "list",dict:=none,data:=.seq ([]:Wp j4).toArray}}:=
  I2.laid (t':=s₂.toks) (λb u e=>j0 _ e) (kA _) ⟨lX _,[],0,.nil,kH _ rfl⟩
 have f3:∀b∈fp,L0 X pins (upd H₂ s₂.heap.objs.size (.lst [])) b:=λb hb=>⟨by rw[AV (kS (hlt2 b hb))];exact(f2 b hb).1,(f2 b hb).2⟩
 have k3:∀b o,s₂.heap.get? b=Gc o->(s₂.heap.push {cls:=.type "list",dict:=none,data:=.seq ([]:Wp j4).toArray}).get? b=Gc o:=λb o e=>j0 _ e
 dsimp only at hns₁ hsb₁ hcl₁⊢
 generalize hs3:({s₂ with heap:=s₂.heap.push {cls:=.type "list",dict:=none,data:=.seq ([]:Wp j4).toArray}}:j5)=s₃ at I3
 have eh:s₂.heap.push {cls:=.type "list",dict:=none,data:=.seq ([]:Wp j4).toArray}=s₃.heap:=by rw[<-hs3]
 have et:s₂.toks=s₃.toks:=by rw[<-hs3]
 have es:∀(h:lD) (t:Nat),({s₂ with heap:=h,toks:=t}:j5)={s₃ with heap:=h,toks:=t}:=λh t=>by rw[<-hs3]
 rw[eh]at hns₁ hsb₁ hcl₁ k3⊢
 have hlt3:∀b∈fp,b<s₃.heap.objs.size:=λb hb=>by
  obtain⟨o,e,_⟩:=T.obj _ _ st2 b hb
  exact kL (k3 b o e)
 have k4:∀b o,s₃.heap.get? b=Gc o->h₁.get? b=Gc o:=hsb₁
 obtain⟨W,⟨m0,w0⟩,turn⟩:=hW _ hD0
 have I4:∀tk,Inv (Cm X N' scope s₃ (upd H₂ s₂.heap.objs.size (.lst [])) fp) [] (sig ix σ) (upd H₂ s₂.heap.objs.size (.lst [])) {s₃ with heap:=h₁,toks:=tk}:=λtk=>Pb S hc I3 f3 hlt3 hns₁ k4 hcl₁
 have st4:tn 0 h₁:=T.keep _ _ _ st2 λb hb o e=>k4 b o (k3 b o e)
 obtain⟨bg,bt,be⟩:=hb s₃ (upd H₂ s₂.heap.objs.size (.lst [])) fp
 have noX:∀(H:Hp),(∀b∈fp,H b=none)->∀b∈fp,L0 (Cm X N' scope s₃ (upd H₂ s₂.heap.objs.size (.lst [])) fp) [] H b:=λH hn b hb=>by
  obtain⟨_,h2,h3⟩:=f3 b hb
  refine⟨hn b hb,kS (hlt3 b hb),λhs=>(I4 0).ok.Yt b hb hs,.inl hb,λx c h=>?_,λp hp=>absurd (show p∈([]:Wp (j9×Obj))from hp) (by simp)⟩
  exact((I4 0).ok.exf b hb).2 x c h
 have fin:∀(s':j5) (σ':St) (H':Hp),Inv (Cm X N' scope s₃ (upd H₂ s₂.heap.objs.size (.lst [])) fp) [] σ' H' s'->Q (.ref s₂.heap.objs.size) H'->RR (.ref s₂.heap.objs.size) s₃.heap.objs.size (.ok .next) s':=λs' σ' H' I' q=>by
  refine hRR _ _ H' s' ?_ (let⟨m,hn,_⟩:=I'.loc;⟨m,hn⟩) (I3.WV (kA _) I'.free) q
  exact I3.bH I'.os I'.base I'.hok I'.bare λb hb=>⟨(f3 b hb).2.2.2.1,(f3 b hb).2.1,(f3 b hb).2.2.2.2.1,(f3 b hb).2.2.2.2.2⟩
 have loop:∀tk,codeAny (model X.prog X.w) X.A (.compLoop (.ListComp elt [⟨tg,iter,ifs,0⟩] scope pos) 0 (.ref it) (.ref s₂.heap.objs.size) (compEnvC scope (cellsFrom (s₃.heap.objs.size+1) scope.names (FY X.env.cells scope.names [])) s₃.heap.objs.size X.env)) (RR (.ref s₂.heap.objs.size) s₃.heap.objs.size) {s₃ with heap:=h₁,toks:=tk}:=λtk=>
  Rj (X':=Cm X N' scope s₃ (upd H₂ s₂.heap.objs.size (.lst [])) fp) (D:=s₂.heap.objs.size) (Q:=Q) (W:=W) rfl rfl rfl T noX bg bt be turn fin ⟨0,_,_,_,I4 tk,st4,λb hb=>(f3 b hb).1,w0⟩
 rw[es]
 exact codeAny_compStart_list (loop _) (T.self _ 0 _ _ _ st4 (loop _))
theorem ZA{wi:TI}(hc:X.calm=true)(S:Ab X.N X.env.scope N' ix scope)(hi:PI X tg iter wi)(hb:Block X N' scope tg ifs elt g tc te)(hs:∀x,foldedSetIterable iter X.env x=pure x:=by intro _;rfl):PE X (.ListComp elt [⟨tg,iter,ifs,0⟩] scope pos) (YX ix wi g tc te):=by
 intro pins s σ H Q I h
 rw[eval_ListComp]
 refine pq (use:=none) rfl hs (Mf (I.cellsOf S)) S.kind S.names (thn (hi pins s σ H _ I h) λv s1 h1=>thn h1 λitv s2 h2=>?_)
 obtain⟨it,fp,tn,J,H2,e,I2,T,st2,f2,hW⟩:=h2
 subst e
 refine PM (RR:=λacc C=>compPost (model X.prog X.w) X.A X.xe none (EP X pins σ Q) acc C) hc S hb I2 T st2 f2 hW ?_
 intro D C H' s' I' hm hC q
 obtain⟨m,hm⟩:=hm
 refine⟨m,hm,λh' hs'=>⟨.ref D,H',I'.turned (it:=C) (t':=s'.toks) (λb o hb e=>hs'.extBut b o hb e) hC.1 hC.2.1 hC.2.2.2.1 hC.2.2.2.2.1 hC.2.2.2.2.2,rfl,q⟩⟩
end
end L2
end
noncomputable section
namespace L2
open PySem PySem.Spec PyProof.Rows
section
variable{X:Cx}{N':Wp Str}{ix:Wp (j6 Nat)}{scope:m9}{elt tg iter:ky}{ifs:Wp ky}{pos spos py:Pos}{g:TG}{tc:TT}{te:TE}{wi:TI}{i:Nat}{y:Str}
theorem QS(hc:X.calm=true)(hN:X.N.Nodup)(hi':X.N[i]?=Gc y)(hx:X.env.scope.names.lookup y=Gc .local)(S:Ab X.N X.env.scope N' ix scope)(hi:PI X tg iter wi)(hb:Block X N' scope tg ifs elt g tc te)(hsw:swapsWith (.ListComp elt [⟨tg,iter,ifs,0⟩] scope pos) (Gc (.Name y py)) spos.line X.env=pure true:=by rfl)(hs:∀x,foldedSetIterable iter X.env x=pure x:=by intro _;rfl):PS X (.Assign [.Name y py] (.ListComp elt [⟨tg,iter,ifs,0⟩] scope pos) spos) (ff (YX ix wi g tc te) (Y7 i)):=by
 intro pins s σ H D I h
 rw[exec_Assign_Name_used _ _ _ _ hsw]
 refine jy (nS (jy ?_))
 show wpAny _ X.A (do let _<-comprehension (.ListComp elt [⟨tg,iter,ifs,0⟩] scope pos) scope X.env _ (newList []) false (eval iter X.env) (Gc (assign (.Name y py) X.env))) _ _ s
 refine jy (qd (pq (use:=Gc (assign (.Name y py) X.env)) (Q:=λ_ s'=>SP X pins D .next s') rfl hs (Mf (I.cellsOf S)) S.kind S.names
  (thn (hi pins s σ H _ I h) λv s1 h1=>thn h1 λitv s2 h2=>?_)) (λ_ s' hq=>j7 (j7 hq)) λ_ _ e=>e)
 obtain⟨it,fp,tn,J,H2,e,I2,T,st2,f2,hW⟩:=h2
 subst e
 refine PM (RR:=λacc C=>compPost (model X.prog X.w) X.A X.xe (Gc (assign (.Name y py) X.env)) (λ_ s'=>SP X pins D .next s') acc C) hc S hb I2 T st2 f2 hW ?_
 intro L C H' s' I' hm hC q
 obtain⟨m,hm⟩:=hm
 show wpAny _ X.A (assign (.Name y py) X.env (.ref L)) _ _ _
 refine vF (N7 I' hN hi' (.inl hx) (v:=.ref L) rfl (λs'' I'' ⟨a,sb,ha⟩=>?_) (.inr hx))
 have hCa:C≠a:=by
  rcases ha with rfl|ha
  .exact hC.2.1
  .exact l8 (hC.2.2.2.2.1 y a ha)
 refine⟨m,hm.sameBut sb hCa,λh' hs'=>?_⟩
 exact⟨_,H',I''.turned (it:=C) (t':=s''.toks) (λb o hb e=>hs'.extBut b o hb e) hC.1 hC.2.1 hC.2.2.2.1 hC.2.2.2.2.1 hC.2.2.2.2.2,q⟩
end
end L2
end
noncomputable section
namespace L2
open PySem PySem.Spec PyProof.Rows
section
variable{κ:Type} [t7 κ]
noncomputable def P4(kvs:Wp (κ×V))(k:κ):j6 V:=(kvs.find? λkv=>decide (kv.1=k)).map (·.2)
noncomputable def putK(kvs:Wp (κ×V))(k:κ)(v:V):Wp (κ×V):=
 if(kvs.any λkv=>decide (kv.1=k))=true then kvs.map (λkv=>if kv.1=k then(kv.1,v)else kv)else kvs++[(k,v)]
theorem Jk{p:κ×V}{r:Wp (κ×V)}{k:κ}(e:p.1=k):P4 (p::r) k=Gc p.2:=by simp[P4,oC,e]
theorem Jx{p:κ×V}{r:Wp (κ×V)}{k:κ}(e:¬p.1=k):P4 (p::r) k=P4 r k:=by simp[P4,oC,e]
theorem O5(k:κ):∀kvs:Wp (κ×V),(kvs.any λkv=>decide (kv.1=k))=(P4 kvs k).isSome
 | []=>rfl
 |p::r=>by
  rw[nU]
  by_cases e:p.1=k
  .simp only[Jk e,mZ e,Bool.true_or,uu]
  .rw[Jx e,nE e,x9];exact O5 k r
theorem Hf(kvs:Wp (κ×V))(k:κ)(v:V):(putK kvs k v).length<=kvs.length+1:=by
 unfold putK
 split
 .rw[kT];lia
 .rw[lK,lQ,qC];lia
theorem Up.Qb{o:j6 V}{u:j6 j4}(r:Up o u):o.isSome=u.isSome:=by
 cases o with
 |none=>cases u with
  |none=>rfl
  |some _=>exact(show ou from r).elim
 |some _=>cases u with
  |none=>exact(show ou from r).elim
  |some _=>rfl
theorem Up.getD{o:j6 V}{u:j6 j4}{d:V}{d':j4}(r:Up o u)(rd:RelV d d'):RelV (o.getD d) (u.getD d'):=by
 cases o with
 |none=>cases u with
  |none=>exact rd
  |some _=>exact(show ou from r).elim
 |some _=>cases u with
  |none=>exact(show ou from r).elim
  |some _=>exact r
theorem KV.val{kvs:Wp (κ×V)}{vs:Wp (κ×j4)}(r:KV kvs vs)(k:κ):Up (P4 kvs k) (valueAt vs k):=by
 unfold KV at r
 induction r with
 |nil=>exact tE
 | @cons p q ps qs h t ih=>
   obtain⟨h1,h2⟩:=h
   by_cases e:p.1=k
   .have e':q.1=k:=h1.symm.trans e
    have b:valueAt (q::qs) k=Gc q.2:=by simp[valueAt,oC,e']
    rw[Jk e,b];exact h2
   .have e':¬q.1=k:=λz=>e (h1.trans z)
    have b:valueAt (q::qs) k=valueAt qs k:=by simp[valueAt,oC,e']
    rw[Jx e,b];exact ih
theorem KV.any{kvs:Wp (κ×V)}{vs:Wp (κ×j4)}(r:KV kvs vs)(k:κ):(kvs.any λkv=>decide (kv.1=k))=vs.any λkv=>decide (kv.1=k):=by
 unfold KV at r
 induction r with
 |nil=>rfl
 |cons h t ih=>rw[nU,nU,ih,h.1]
theorem KV.YK{kvs:Wp (κ×V)}{vs:Wp (κ×j4)}(r:KV kvs vs)(k:κ){y:V}{u:j4}(ry:RelV y u):KV (kvs.map λkv=>if kv.1=k then(kv.1,y)else kv) (vs.map λkv=>if kv.1=k then(kv.1,u)else kv):=by
 unfold KV at r⊢
 induction r with
 |nil=>exact .nil
 | @cons p q ps qs h t ih=>
   rw[kU,kU]
   refine .cons ?_ ih
   obtain⟨h1,h2⟩:=h
   by_cases e:p.1=k
   .rw[kh e,kh (h1.symm.trans e)];exact⟨h1,ry⟩
   .rw[ko e,ko (λz=>e (h1.trans z))];exact⟨h1,h2⟩
theorem KV.put{kvs:Wp (κ×V)}{vs:Wp (κ×j4)}(r:KV kvs vs)(k:κ){y:V}{u:j4}(ry:RelV y u):KV (putK kvs k y) (stored vs k u):=by
 unfold putK stored
 rw[r.any k]
 by_cases e:(vs.any λkv=>decide (kv.1=k))=true
 .rw[kh e,kh e];exact r.YK k ry
 .rw[ko e,ko e];exact Paired.snoc r ⟨rfl,ry⟩
theorem KV.keys{kvs:Wp (κ×V)}{vs:Wp (κ×j4)}(r:KV kvs vs):kvs.map (·.1)=vs.map (·.1):=by
 unfold KV at r
 induction r with
 |nil=>rfl
 |cons h t ih=>rw[kU,kU,ih,h.1]
theorem KV.length{kvs:Wp (κ×V)}{vs:Wp (κ×j4)}(r:KV kvs vs):kvs.length=vs.length:=ub r
end
theorem UG{P:ke}{w:lB}{k:Key}{u:j4}(r:RelV (kV k) u):(CZ P w).is k u=true:=by
 cases k with
 |inl i=>obtain⟨t,e⟩:=(show∃t,u=qb i t from r);subst e;exact OQ P w i t
 |inr x=>obtain⟨t,e⟩:=(show∃t,u=uQ x t from r);subst e;exact OU P w x t
theorem Nt{P:ke}{w:lB}:∀{ks:Wp Key} {us:Wp j4},Vals (ks.map kV) us->ItemsAre (CZ P w) ks us
 | [],_,r=>by rw[mE]at r;cases r;exact .nil
 |k::ks,_,r=>by
  rw[kU]at r
  cases r with
  |cons h t=>exact .cons (UG h) (Nt t)
abbrev KT(H:Hp):Wp (Wp Key×V)->Wp (Wp Key×j9×j4)->Prop:=Paired λp q=>p.1=q.1/\H q.2.1=Gc (.tup (p.1.map kV))/\RelV p.2 q.2.2
theorem KT.val{H:Hp}{kvs:Wp (Wp Key×V)}{xs:Wp (Wp Key×j9×j4)}(r:KT H kvs xs)(k:Wp Key):Up (P4 kvs k) ((atKey xs k).map (·.2)):=by
 induction r with
 |nil=>exact tE
 | @cons p q ps qs h t ih=>
   obtain⟨h1,_,h2⟩:=h
   by_cases e:p.1=k
   .have e':q.1=k:=h1.symm.trans e
    have b:atKey (q::qs) k=Gc q.2:=by simp[atKey,oC,e']
    rw[Jk e,b];exact h2
   .have e':¬q.1=k:=λz=>e (h1.trans z)
    have b:atKey (q::qs) k=atKey qs k:=by simp[atKey,oC,e']
    rw[Jx e,b];exact ih
theorem KT.YK{H:Hp}{kvs:Wp (Wp Key×V)}{xs:Wp (Wp Key×j9×j4)}(r:KT H kvs xs)(k:Wp Key){y:V}{u:j4}(ry:RelV y u):KT H (kvs.map λkv=>if kv.1=k then(kv.1,y)else kv) (xs.map (putAt k u)):=by
 induction r with
 |nil=>exact .nil
 | @cons p q ps qs h t ih=>
   rw[kU,kU]
   refine .cons ?_ ih
   obtain⟨h1,h2,h3⟩:=h
   unfold putAt
   by_cases e:p.1=k
   .rw[kh e,kh (h1.symm.trans e)];exact⟨h1,h2,ry⟩
   .rw[ko e,ko (λz=>e (h1.trans z))];exact⟨h1,h2,h3⟩
theorem KT.put{H:Hp}{kvs:Wp (Wp Key×V)}{xs:Wp (Wp Key×j9×j4)}(r:KT H kvs xs)(k:Wp Key){b:j9}{y:V}{u:j4}(hb:H b=Gc (.tup (k.map kV)))(ry:RelV y u):KT H (putK kvs k y) (storedH xs k b u):=by
 have e:(kvs.any λkv=>decide (kv.1=k))=(atKey xs k).isSome:=by
  rw[O5,(r.val k).Qb,Option.isSome_map]
 unfold putK storedH
 rw[e]
 by_cases q:(atKey xs k).isSome=true
 .rw[kh q,kh q];exact r.YK k ry
 .rw[ko q,ko q];exact Paired.snoc r ⟨rfl,hb,ry⟩
theorem KT.keeps{H H':Hp}{kvs:Wp (Wp Key×V)}{xs:Wp (Wp Key×j9×j4)}(r:KT H kvs xs)(ht:∀b ys,H b=Gc (.tup ys)->H' b=Gc (.tup ys)):KT H' kvs xs:=
 Paired.fc r λ_ _ z=>⟨z.1,ht _ _ z.2.1,z.2.2⟩
section
variable{P:ke}{w:lB}{H:Hp}{h:lD}{a:j9}
theorem Z7{u:HO}(ok:HOk P w H h)(e:Rd H a u):FV P w H h a u:=e.ok ok
theorem YM{kvs:Wp (Key×V)}(ok:HOk P w H h)(e:Rd H a (.dK kvs)):kvs.length<=sizeLine/\(a==sysModules)=false/\∃vs,KV kvs vs/\h.DictOf (CZ P w) a vs:=
 show FV P w H h a (.dK kvs)from Z7 ok e
theorem Vc{kvs:Wp (Key×V)}(ok:HOk P w H h)(e:H a=Gc (.dK kvs)):kvs.length<=sizeLine/\(a==sysModules)=false/\∃vs,KV kvs vs/\h.DictOf (CZ P w) a vs:=YM ok (.inl e)
theorem Q6{ks:Wp Key}(ok:HOk P w H h)(e:H a=Gc (.tup (ks.map kV))):(tupleKind (CZ P w)).is h ks a:=by
 obtain⟨_,its,r,o,h1,h2,n,h3⟩:=(show FV P w H h a (.tup (ks.map kV))from ok a _ e)
 exact⟨o,its.toArray,n,h1,h2,h3,by simpa using Nt r⟩
theorem YU{kvs:Wp (Wp Key×V)}(ok:HOk P w H h)(e:Rd H a (.dT kvs)):kvs.length<=sizeLine/\(a==sysModules)=false/\∃xs,KT H kvs xs/\h.DictOfH (tupleKind (CZ P w)) a xs:=by
 obtain⟨z,y,xs,r,o,es,ep,h1,h2,h3,h4,h5⟩:=(show FV P w H h a (.dT kvs)from Z7 ok e)
 refine⟨z,y,xs,r,o,es,ep,h1,h2,h3,h4,λx hx=>?_,h5⟩
 have all:∀{l:Wp (Wp Key×V)} {m:Wp (Wp Key×j9×j4)},KT H l m->∀x∈m,(tupleKind (CZ P w)).is h x.1 x.2.1:=by
  intro l m q
  induction q with
  |nil=>intro x hx;exact nomatch hx
  | @cons p q ps qs hq t ih=>
    intro x hx
    rcases kG.mp hx with e|hx
    .subst e
     exact Q6 ok (by rw[<-hq.1];exact hq.2.1)
    .exact ih x hx
 exact all r x hx
theorem Ul{kvs:Wp (Wp Key×V)}(ok:HOk P w H h)(e:H a=Gc (.dT kvs)):kvs.length<=sizeLine/\(a==sysModules)=false/\∃xs,KT H kvs xs/\h.DictOfH (tupleKind (CZ P w)) a xs:=YU ok (.inl e)
end
def cB(H:Hp)(a:j9)(y:V)(r:j6 V):Prop:=
 (∃kvs k,Rd H a (.dK kvs)/\y=kV k/\r=P4 kvs k)\/∃kvs k b,Rd H a (.dT kvs)/\y=.ref b/\H b=Gc (.tup (k.map kV))/\r=P4 kvs k
def bx(H:Hp)(a:j9)(y v:V)(H':Hp):Prop:=
 (∃kvs k,H a=Gc (.dK kvs)/\y=kV k/\kvs.length<sizeLine/\H'=upd H a (.dK (putK kvs k v)))∨
 ∃kvs k b,H a=Gc (.dT kvs)/\y=.ref b/\H b=Gc (.tup (k.map kV))/\kvs.length<sizeLine/\H'=upd H a (.dT (putK kvs k v))
theorem cB.k{H:Hp}{a:j9}{kvs:Wp (Key×V)}{k:Key}(e:H a=Gc (.dK kvs)):cB H a (kV k) (P4 kvs k):=.inl ⟨kvs,k,.inl e,rfl,rfl⟩
theorem bx.k{H:Hp}{a:j9}{kvs:Wp (Key×V)}{k:Key}{v:V}(e:H a=Gc (.dK kvs))(hl:kvs.length<sizeLine):bx H a (kV k) v (upd H a (.dK (putK kvs k v))):=.inl ⟨kvs,k,e,rfl,hl,rfl⟩
section
variable{X:Cx}{pins:Wp (j9×Obj)}{σ:St}{H:Hp}{s:j5}{a:j9}{y v:V}{u r:j4}{o:j6 V}{A:lF}{E:j4->j5->Prop}
theorem Inv.big(I:Inv X pins σ H s):sysModules<s.heap.objs.size:=by
 have h:mainGlobals<s.heap.objs.size:=(I.mod.glob.keeps I.bk).lt
 exact pS (by decide) h
theorem OW{h':lD}{t':Nat}{ob:HO}(I:Inv X pins σ H s)(mu:Mut (H a))(hs:nN a s.heap h')(he:∃q,h'.get? a=Gc q)(new:FV X.prog X.w (upd H a ob) h' a ob):Inv X pins σ (upd H a ob) {s with heap:=h',toks:=t'}:=
 I.write (x:=a) (e:=a) mu (.inl rfl) (λb q hb z=>(hs.2 b hb).trans z) he new
theorem Ww{P:ke}{w:lB}{H':Hp}{h':lD}{kvs:Wp (Key×V)}{vs:Wp (Key×j4)}(z:kvs.length<=sizeLine)(hd:(a==sysModules)=false)(rel:KV kvs vs)(dd:h'.DictOf (CZ P w) a vs):FV P w H' h' a (.dK kvs):=⟨z,hd,vs,rel,dd⟩
theorem R7{H':Hp}{Q:Unit->j5->Prop}(hu:A.units+1<cLine)(I:Inv X pins σ H s)(g:bx H a y v H')(ry:RelV y u)(rv:RelV v r)(h:∀s',Inv X pins σ H' s'->Q () s'):wpAny (model X.prog X.w) A (setItem (.ref a) u r) Q E s:=by
 rcases g with⟨kvs,k,e,ey,l,eH⟩|⟨kvs,k,b,e,ey,eb,l,eH⟩
 .subst ey eH
  obtain⟨z,hd,vs,rel,dd⟩:=Vc I.hok e
  have hz:vs.length<=sizeLine:=by rw[<-rel.length];exact z
  have hl:(putK kvs k v).length<=sizeLine:=by have:=Hf kvs k v;lia
  refine wpAny_setItem_pairs (hsz:=hz) (UG ry) dd λh' dd' hs=>h _ ?_
  have he:∃q,h'.get? a=Gc q:=let⟨q,_,_,hq,_⟩:=dd';⟨q,hq⟩
  exact OW I (by rw[e];exact tE) hs he (Ww hl hd (rel.put k rv) dd')
 .subst ey eH
  cases (show u=mH b from ry)
  obtain⟨z,hd,xs,rel,dd⟩:=Ul I.hok e
  have hz:xs.length<=sizeLine:=by rw[<-ub rel];exact z
  have hl:(putK kvs k v).length<=sizeLine:=by have:=Hf kvs k v;lia
  refine wpAny_setItem_heap (hsz:=hz) (uv hu) (Q6 I.hok eb) dd λh' dd' hs=>h _ ?_
  obtain⟨q,es,ep,hq,h2,h3,h4,_,h5⟩:=dd'
  refine OW I (by rw[e];exact tE) hs ⟨q,hq⟩ ⟨hl,hd,_,(rel.put k eb rv).keeps λc ys ec=>?_,q,es,ep,hq,h2,h3,h4,h5⟩
  rw[AV (eE ec e (λz=>nomatch z))]
  exact ec
end
section
variable{X:Cx}{pins:Wp (j9×Obj)}{σ:St}{H:Hp}{s:j5}{a:j9}{kvs:Wp (Key×V)}{k:Key}{u:j4}{A:lF}{E:j4->j5->Prop}
end
noncomputable def dM(td ty tv:TE):TS:=λD σ H=>tv σ H λv H1=>td σ H1 λx H2=>ty σ H2 λy H3=>∃a H4,x=.ref a/\bx H3 a y v H4/\D.nx σ H4
section
variable{X:Cx}{o i e value:ky}{pos pos' tpos:Pos}{td ty tv:TE}
theorem Xf(hu:X.A.units+1<cLine)(ho:PE X o td)(hi:PE X i ty)(hv:PE X value tv)(hs:swapsWith value (Gc (.Subscript o i pos')) pos.line X.env=pure false):PS X (.Assign [.Subscript o i pos'] value pos) (dM td ty tv):=by
 intro pins s σ H D I h
 refine wpAny_Assign_Subscript (thn (hv pins s σ H _ I h) λr s1 ⟨v,H1,I1,rv,q1⟩=>thn (ho pins s1 σ H1 _ I1 q1) λu s2 ⟨x,H2,I2,rx,q2⟩=>thn (hi pins s2 σ H2 _ I2 q2) λiv s3 ⟨y,H3,I3,ry,a,H4,ex,g,q3⟩=>?_) hs
 subst ex
 obtain rfl:u=mH a:=rx
 exact R7 hu I3 g ry rv λs4 I4=>⟨σ,H4,I4,q3⟩
end
theorem UD{P:ke}{w:lB}{H:Hp}(h:lD)(hb:sysModules<h.objs.size):FV P w H (h.push {cls:=.type "dict",data:=.dict #[]}) h.objs.size (.dK []):=
 ⟨lX _,oP.mpr (l8 (kS hb)),[],.nil,wR h⟩
noncomputable def ZW:TE:=λ_ H Q=>∀p,H p=none->Q (.ref p) (upd H p (.dK []))
section
variable{X:Cx}{pos:Pos}
theorem Vk:PE X (.Dict [] [] pos) ZW:=λpins s σ H Q I h=>
 wpAny_Dict_empty ⟨.ref s.heap.objs.size,_,I.laid (a:=s.heap.objs.size) (o:=.dK []) (t':=s.toks) (λ_ _ q=>j0 _ q) (kA _) (UD s.heap I.big),rfl,h _ (I.hok.fresh (kA _))⟩
end
def Wy:Wp (TE×TE)->St->Hp->(Wp (V×V)->Hp->Prop)->Prop
 | [],_,H,Q=>Q [] H
 |(tk,tv)::r,σ,H,Q=>tk σ H λx H1=>tv σ H1 λy H2=>Wy r σ H2 λps H3=>Q ((x,y)::ps) H3
abbrev VV:Wp (V×V)->Wp (j4×j4)->Prop:=Paired λp q=>RelV p.1 q.1/\RelV p.2 q.2
def PPs(X:Cx)(pos:Pos)(keys:Wp (j6 ky))(values:Wp ky)(trs:Wp (TE×TE)):Prop:=
 ∀(pins:Wp (j9×Obj)) (s:j5) (σ:St) (H:Hp) (Q:Wp (V×V)->Hp->Prop),Inv X pins σ H s->Wy trs σ H Q->
  wpAny (model X.prog X.w) X.A (evalPairs (pairTrees keys values X.env pos)) (λvs s'=>∃ps H',Inv X pins σ H' s'/\VV ps vs/\Q ps H') X.xe s
structure M1(X:Cx)(o:ky)(m:Str)(apos:Pos)(e:ky)(cpos:Pos):Prop where
 base:attributeBase o m X.env (eval o X.env)=eval o X.env
 few:((backTo cpos (kc [e] X.env)).all (λx=> !x.1) && (backToKw cpos (keywordEach [] X.env)).all (λx=>x.1.isSome)
  && decide (([e]:Wp ky).length+([]:Wp rZ).length+(if([]:Wp rZ).isEmpty then 0 else 1)<30))=true
 line:(apos.endLine==cpos.line)=true
 trees:backTo cpos (kc [e] X.env)=[(false,eval e X.env)]
structure M2(X:Cx)(o:ky)(m:Str)(apos:Pos)(e f:ky)(cpos:Pos):Prop where
 base:attributeBase o m X.env (eval o X.env)=eval o X.env
 few:((backTo cpos (kc [e,f] X.env)).all (λx=> !x.1) && (backToKw cpos (keywordEach [] X.env)).all (λx=>x.1.isSome)
  && decide (([e,f]:Wp ky).length+([]:Wp rZ).length+(if([]:Wp rZ).isEmpty then 0 else 1)<30))=true
 line:(apos.endLine==cpos.line)=true
 trees:backTo cpos (kc [e,f] X.env)=[(false,eval e X.env),(false,eval f X.env)]
def IsD(H:Hp)(a:j9):Prop:=(∃kvs,Rd H a (.dK kvs))\/∃kvs,Rd H a (.dT kvs)
theorem Wo{X:Cx}{pins:Wp (j9×Obj)}{σ:St}{H:Hp}{s:j5}{a:j9}(I:Inv X pins σ H s)(d:IsD H a):s.TypeIs (.ref a) "dict" /\(∀b,mH a=.ref b->∃ob,s.heap.get? b=Gc ob/\ob.dict=none)/\(a==sysModules)=false:=by
 rcases d with⟨kvs,e⟩|⟨kvs,e⟩
 .obtain⟨_,hd,vs,_,dd⟩:=YM I.hok e
  refine⟨dd.typeIs,λb q=>?_,hd⟩
  cases q
  obtain⟨ob,_,_,h1,h2,_⟩:=dd
  exact⟨ob,h1,h2.2.1⟩
 .obtain⟨_,hd,xs,_,dd⟩:=YU I.hok e
  refine⟨dd.typeIs,λb q=>?_,hd⟩
  cases q
  obtain⟨ob,_,_,h1,h2,_⟩:=dd
  exact⟨ob,h1,h2.2.1⟩
section
variable{X:Cx}{pins:Wp (j9×Obj)}{σ:St}{H:Hp}{s:j5}{a:j9}{y d:V}{u r:j4}{o:j6 V}{A:lF}{E:j4->j5->Prop}
theorem ZR{Q:j4->j5->Prop}(hu:A.units+1<cLine)(I:Inv X pins σ H s)(g:cB H a y o)(ry:RelV y u)(h:∀w' s',Inv X pins σ H s'->RelV (o.getD .non) w'->Q w' s'):wpAny (model X.prog X.w) A (call (.builtin "dict.get") [.ref a,u]) Q E s:=by
 rcases g with⟨kvs,k,e,ey,l⟩|⟨kvs,k,b,e,ey,eb,l⟩
 .subst ey
  obtain⟨z,hd,vs,rel,dd⟩:=YM I.hok e
  refine yz qa dd.typeIs tF (sW _ _) (meets_dict_get (CZ X.prog X.w) a (UG ry) hd) ⟨_,dd.mapOf,h _ _ (I.tok _) ?_⟩
  rw[l]
  exact(rel.val k).getD rfl
 .subst ey
  cases (show u=mH b from ry)
  obtain⟨z,hd,xs,rel,dd⟩:=YU I.hok e
  refine yz qa dd.typeIs tF (sW _ _) (meetsH_dict_get (tupleKind (CZ X.prog X.w)) a b hd) ⟨uv hu,k,xs,Q6 I.hok eb,dd,h _ _ (I.tok _) ?_⟩
  rw[l]
  exact(rel.val k).getD rfl
end
noncomputable def ZT(td ty:TE):TE:=λσ H Q=>td σ H λx H1=>∃a,x=.ref a/\IsD H1 a/\ty σ H1 λy H2=>∃o,cB H2 a y o/\Q (o.getD .non) H2
section
variable{X:Cx}{o e f:ky}{apos cpos:Pos}{td ty tx:TE}
theorem V0(hu:X.A.units+1<cLine)(ho:PE X o td)(he:PE X e ty)(m:M1 X o "get" apos e cpos):PE X (.Call (.Attribute o "get" apos) [e] [] cpos) (ZT td ty):=by
 intro pins s σ H Q I h
 refine vN m.base m.few m.line sX qa PySem.F.type_dict_get (thn (ho pins s σ H _ I h) λu s1 ⟨x,H1,I1,rx,a,ex,d,q1⟩=>?_)
 subst ex
 obtain rfl:u=mH a:=rx
 obtain⟨t1,t2,_⟩:=Wo I1 d
 refine⟨t1,t2,?_⟩
 rw[m.trees]
 refine sx rfl (t9 (pF (thn (he pins s1 σ H1 _ I1 q1) λiv s2 ⟨y,H2,I2,ry,ov,g,q2⟩=>pK ?_)))
 exact ZR hu I2 g ry λw' s3 I3 rw'=>⟨_,H2,I3,rw',q2⟩
end
section
variable{X:Cx}{pins:Wp (j9×Obj)}{σ:St}{H:Hp}{s:j5}{a:j9}{kvs:Wp (Key×V)}{A:lF}{E:j4->j5->Prop}
end
section
variable{X:Cx}{pins:Wp (j9×Obj)}{σ:St}{H:Hp}{s:j5}{a:j9}{y:V}{u:j4}{A:lF}{E:j4->j5->Prop}
end
end L2
end
noncomputable section
namespace L2
open PySem PySem.Spec PyProof.Rows
section
variable{prog:ke}{w:lB}{A:lF}{E:j4->j5->Prop}{s:j5}
theorem Pz{h:lD}{it t:j9}{i:Nat}{o:Obj}(ho:h.get? it=Gc o)(hc:o.cls=.type "tuple_iterator")(hd:o.data=.fields #[.ref t,.int i 0]){h':lD}(e:h'=h.update it (λo=>o.mapFields λa=>a.setIfInBounds 1 (rawInt ((i:Int)+1)))):h'.IsTupleIter it t (i+1):=by
 subst e
 have d:=mJ hd λa=>a.setIfInBounds 1 (rawInt ((i:Int)+1))
 refine⟨_,lJ _ ho (nq d),?_,?_⟩
 .rw[qQ];exact hc
 .rw[d];simp[rawInt]
theorem Ud{it t:j9}{i:Nat}{items:kj j4}{x:j4}{Q:j4->j5->Prop}(hit:s.heap.IsTupleIter it t i)(ht:s.heap.IsTuple t items)(hx:items[i]?=Gc x)(hQ:∀h',h'.IsTupleIter it t (i+1)->nN it s.heap h'->Q x {s with heap:=h'}):wpAny (model prog w) A (lI (.ref it)) Q E s:=by
 obtain⟨⟨c,dd,dt,sl⟩,ho,hc,hd⟩:=id hit
 obtain⟨⟨c2,dd2,dt2,sl2⟩,ho2,hc2,n2,hd2⟩:=id ht
 simp only at hc hd hc2 hd2
 subst hc hd hc2 hd2
 unfold lI
 refine jy (lO (name:=lq "__next__") hit.typeIs nZ (lL nZ hit.typeIs rA ?_ (qw _)))
 unfold mw.«tuple_iterator.__next__»
 wp_walk using kf ho,kf ho2
 have e:items[(i:Int).toNat]?=Gc x:=by rw[pH];exact hx
 rw[e]
 refine jy (ng ho rfl (by simp) ?_)
 exact j7 ⟨x,rfl,j7 (hQ _ (Pz ho rfl rfl rfl) (lu ..))⟩
theorem VP{it t:j9}{i:Nat}{items:kj j4}{Q:j4->j5->Prop}(hh:A.handled=none)(hit:s.heap.IsTupleIter it t i)(ht:s.heap.IsTuple t items)(hx:items[i]?=none)(hE:∀h' e,qH it s.heap h'->(∃o,h'.get? e=Gc o/\o.cls=.type "StopIteration")->E (.ref e) {s with heap:=h'}):wpAny (model prog w) A (lI (.ref it)) Q E s:=by
 obtain⟨⟨c,dd,dt,sl⟩,ho,hc,hd⟩:=id hit
 obtain⟨⟨c2,dd2,dt2,sl2⟩,ho2,hc2,n2,hd2⟩:=id ht
 simp only at hc hd hc2 hd2
 subst hc hd hc2 hd2
 unfold lI
 refine jy (lO (name:=lq "__next__") hit.typeIs nZ (lL nZ hit.typeIs rA ?_ (qw _)))
 unfold mw.«tuple_iterator.__next__»
 wp_walk using kf ho,kf ho2
 have e:items[(i:Int).toNat]?=none:=by rw[pH];exact hx
 rw[e]
 refine jy (oJ (jy (ng ho rfl (by simp) ?_)))
 have hh1:A.in1.handled=none:=hh
 unfold vO
 simp only[newExc,newTuple,raiseNew]
 wp_walk
 refine hE _ _ ?_ ⟨_,kH _ rfl,rfl⟩
 have a:=(lu (a:=it) (h:=s.heap) (f:=ue λx=>x.setIfInBounds 0 mI)).extBut
 exact(a.push _).push _
theorem R0(l:j9)(items:kj j4)(n:Nat)(dct:j6 j9)(sl:kj (j6 j4)):Meets (mw.«enumerate.__new__» ⟨[.type "enumerate",.ref l],[]⟩) (λ_ R s=>s.heap.get? l=Gc {cls:=.type "tuple",dict:=dct,data:=.seq items n,slots:=sl}/\R (.ok (.ret (.ref (s.heap.objs.size+1)))) {s with heap:=(s.heap.push {cls:=.type "tuple_iterator",data:=.fields #[.ref l,.int 0 0]}).push {cls:=.type "enumerate",data:=.fields #[.none,.bool false,.ref s.heap.objs.size,rawInt 0,.none,.none]}}):=
 .of_wp λprog w A R s h=>by
  obtain⟨hp,g,d,tk,os⟩:=s
  obtain⟨hl,h⟩:=h
  have hsub:=sub_enumerate
  have hT:rB (oF ⟨hp,g,d,tk,os⟩) l items:=⟨_,hl,rfl,n,rfl⟩
  wp_walk using kf hl
  refine wpAny_stack_any λst=>j7 ?_
  split
  .rename_i c _ _ _ _ _
   cases (c==qc "enumerate")<;>(wp_walk using kf hl,my hT)<;>(refine⟨_,rfl,?_⟩;rw[ku];exact h)
  .wp_walk using kf hl,my hT
   refine⟨_,rfl,?_⟩
   rw[ku]
   exact h
theorem P5{l:j9}{items:kj j4}{Q:j4->j5->Prop}(hT:s.heap.IsTuple l items)(h:∀h',IsEnum h' (s.heap.objs.size+1) s.heap.objs.size 0 .none->h'.IsTupleIter s.heap.objs.size l 0->(∀b o,s.heap.get? b=Gc o->h'.get? b=Gc o)->Q (.ref (s.heap.objs.size+1)) {s with heap:=h'}):wpAny (model prog w) A (call (.type "enumerate") [.ref l]) Q E s:=by
 obtain⟨⟨c,dct,dt,sl⟩,hl,hc,n,hd⟩:=hT
 simp only at hc hd
 subst hc hd
 refine y0 F.called_enumerate (by decide) (F.typeCall_enumerate_1 _) (F.newCall_enumerate_1 _) (λobj=>F.args_object_init_2 obj _) F.entry_enumerate_new (R0 l items n dct sl) ⟨hl,?_⟩
 have z:=kH (s.heap.push {cls:=.type "tuple_iterator",data:=.fields #[.ref l,.int 0 0]}) (o:={cls:=.type "enumerate",data:=.fields #[.none,.bool false,.ref s.heap.objs.size,rawInt 0,.none,.none]}) rfl
 rw[ku]at z
 exact⟨⟨_,z,rfl⟩,h _ z ⟨_,j0 _ (kH _ rfl),rfl,rfl⟩ λb o x=>j0 _ (j0 _ x)⟩
end
section
variable{X:Cx}
end
end L2
end
noncomputable section
namespace L2
open PySem PySem.Spec PyProof.Rows
structure TopD(K:jz)(w:lB)(a:j9)(kvs:Wp (Str×V)):Prop where
 ex:∃(es:kj DictEntry) (n:Nat),K.lookup a=Gc ⟨.type "dict",none,.dict es n, #[]⟩/\PySem.W.KeysLit w.params es.toList/\(a==sysModules)=false/\∀x,Up (kvs.lookup x) (findBy ua es x)
section
variable{X:Cx}
end
end L2
end
noncomputable section
namespace L2
open PySem PySem.Spec PyProof.Rows
def SIt(h:lD)(j l:j9)(i:Nat)(its:kj j4):Prop:=(h.IsListIter j l i/\h.IsList l its)\/(h.IsTupleIter j l i/\h.IsTuple l its)
section
variable{prog:ke}{w:lB}{A:lF}{E:j4->j5->Prop}{s:j5}{h h':lD}{j l:j9}{i:Nat}{its:kj j4}
theorem SIt.at(q:SIt h j l i its)(k1:∀o,h.get? j=Gc o->h'.get? j=Gc o)(k2:∀o,h.get? l=Gc o->h'.get? l=Gc o):SIt h' j l i its:=by
 rcases q with⟨a,b⟩|⟨a,b⟩
 .exact .inl ⟨a.at k1,b.at k2⟩
 .exact .inr ⟨a.at k1,let⟨o,e,r⟩:=b;⟨o,k2 o e,r⟩⟩
theorem SIt.but{c:j9}(q:SIt h j l i its)(sb:qH c h h')(n1:j≠c)(n2:l≠c):SIt h' j l i its:=q.at (λo e=>sb _ o n1 e) λo e=>sb _ o n2 e
theorem SIt.live(q:SIt h j l i its):∃o,h.get? j=Gc o/\∀v,o.data≠.cell v:=by
 rcases q with⟨⟨o,a,b,c⟩,_⟩|⟨⟨o,a,b,c⟩,_⟩
 .exact⟨o,a,λv z=>by rw[c]at z;cases z⟩
 .exact⟨o,a,λv z=>by rw[c]at z;cases z⟩
theorem SIt.ne(q:SIt h j l i its):l≠j:=by
 rcases q with⟨⟨o,a,b,_⟩,⟨o2,a2,b2,_⟩⟩|⟨⟨o,a,b,_⟩,⟨o2,a2,b2,_⟩⟩
 .intro z;subst z;rw[a]at a2;cases a2;rw[b]at b2;injection b2 with q;exact absurd q (by decide)
 .intro z;subst z;rw[a]at a2;cases a2;rw[b]at b2;injection b2 with q;exact absurd q (by decide)
theorem Jj{x:j4}{Q:j4->j5->Prop}(q:SIt s.heap j l i its)(hx:its[i]?=Gc x)(k:∀h',SIt h' j l (i+1) its->nN j s.heap h'->Q x {s with heap:=h'}):wpAny (model prog w) A (lI (.ref j)) Q E s:=by
 have n:=q.ne
 rcases q with⟨a,b⟩|⟨a,b⟩
 .exact wpAny_nextOf_list_item a b hx λh' a' sb=>k h' (.inl ⟨a',b.extBut sb.extBut n⟩) sb
 .exact Ud a b hx λh' a' sb=>k h' (.inr ⟨a',let⟨o,e,r⟩:=b;⟨o,sb.extBut _ o n e,r⟩⟩) sb
theorem Jv{Q:j4->j5->Prop}(hh:A.handled=none)(q:SIt s.heap j l i its)(hx:its[i]?=none)(k:∀h' e,qH j s.heap h'->(∃o,h'.get? e=Gc o/\o.cls=.type "StopIteration")->E (.ref e) {s with heap:=h'}):wpAny (model prog w) A (lI (.ref j)) Q E s:=by
 rcases q with⟨a,b⟩|⟨a,b⟩
 .exact wpAny_nextOf_list_end hh a b hx k
 .exact VP hh a b hx k
theorem Q1{z ti tt j1 j2 l1 l2:j9}{m:Nat}{xs ys:kj j4}{x y u1 u2:j4}{Q:j4->j5->Prop}(D:vP z ti tt j1 j2 l1 l2)(oz:rK s.heap z ti tt .none)(oi:oM s.heap ti (.ref j1) (.ref j2))(ot:oM s.heap tt u1 u2)(q1:SIt s.heap j1 l1 m xs)(q2:SIt s.heap j2 l2 m ys)(ex:xs[m]?=Gc x)(ey:ys[m]?=Gc y)(k:∀h',rK h' z ti tt (rawInt s.heap.objs.size)->oM h' tt x y->SIt h' j1 l1 (m+1) xs->SIt h' j2 l2 (m+1) ys->oM h' s.heap.objs.size x y->(∀c o,c≠z->c≠tt->c≠j1->c≠j2->s.heap.get? c=Gc o->h'.get? c=Gc o)->Q (.ref s.heap.objs.size) {s with heap:=h'}):wpAny (model prog w) A (mw.«zip.__next__» ⟨[.ref z],[]⟩) (λfin s'=>∃v,fin=.done (.ret v)/\Q v s') E s:=by
 show wpAny _ _ (field (.ref z) 2 >>= _) _ _ _
 refine jy (nT oz rfl (x:=.bool false) rfl ?_)
 show wpAny _ _ (field (.ref z) 3 >>= _) _ _ _
 refine jy (nT oz rfl (x:=.ref ti) rfl (jy (nC oi rfl ?_)))
 show wpAny _ _ (mQ (.ref z) >>= _) _ _ _
 refine jy ?_
 unfold mQ
 refine jy (nT oz rfl (x:=.none) rfl (j7 ?_))
 simp only[qk]
 refine jy (oJ (jy (nT oz rfl (x:=.ref tt) rfl (jy (nh oz (by simp) λg1 oz1 b1=>?_)))))
 have oz1:rK g1 z ti tt .ellipsis:=oz1
 refine jy ?_
 simp only[vz,wU,tT,uB]
 refine jy (jy (sH ?_))
 show wpAny _ _ (lI (.ref j1) >>= _) _ _ _
 refine jy (Jj (q1.but b1.extBut D.i1z D.l1z) ex λg2 q12 b2=>j7 ?_)
 have ot2:oM g2 tt u1 u2:=b2.extBut _ _ D.TOi1 (b1.extBut _ _ D.TOz ot)
 refine jy (nC ot2 rfl (jy (qr ot2 λg3 ot3 b3=>?_)))
 have ot3:oM g3 tt x u2:=ot3
 refine jy (uC (j7 (jy (jy (sH ?_)))))
 show wpAny _ _ (lI (.ref j2) >>= _) _ _ _
 refine jy (Jj (((q2.but b1.extBut D.i2z D.l2z).but b2.extBut D.i12.symm D.l2i1).but b3.extBut D.TOi2.symm D.l2TO) ey λg4 q24 b4=>j7 ?_)
 have ot4:oM g4 tt x u2:=b4.extBut _ _ D.TOi2 ot3
 refine jy (nC ot4 rfl (jy (qr ot4 λg5 ot5 b5=>?_)))
 have ot5:oM g5 tt x y:=ot5
 refine jy (uC (j7 (j7 (jy (nC ot5 rfl (jy (uD ?_)))))))
 have sz:g5.objs.size=s.heap.objs.size:=by rw[b5.1,b4.1,b3.1,b2.1,b1.1]
 have oz5:rK g5 z ti tt .ellipsis:=b5.extBut _ _ D.TOz.symm (b4.extBut _ _ D.i2z.symm (b3.extBut _ _ D.TOz.symm (b2.extBut _ _ D.i1z.symm oz1)))
 have k5:∀c o,c≠z->c≠tt->c≠j1->c≠j2->s.heap.get? c=Gc o->g5.get? c=Gc o:=λc o c1 c2 c3 c4 e=>b5.extBut _ _ c2 (b4.extBut _ _ c4 (b3.extBut _ _ c2 (b2.extBut _ _ c3 (b1.extBut _ _ c1 e))))
 have q15:SIt g5 j1 l1 (m+1) xs:=((q12.but b3.extBut D.TOi1.symm D.l1TO).but b4.extBut D.i12 D.l1i2).but b5.extBut D.TOi1.symm D.l1TO
 have q25:SIt g5 j2 l2 (m+1) ys:=q24.but b5.extBut D.TOi2.symm D.l2TO
 have zlt:z<g5.objs.size:=kL oz5
 show wpAny _ _ (pY (.ref z) (.ref g5.objs.size) >>= _) _ _ _
 refine jy ?_
 unfold pY
 have oz6:rK (g5.push {cls:=.type "tuple",data:=.seq #[x,y]}) z ti tt .ellipsis:=j0 _ oz5
 refine jy (nh oz6 (by simp) λg7 oz7 b7=>?_)
 have oz7:rK g7 z ti tt (rawInt g5.objs.size):=oz7
 refine nh oz7 (by simp) λg8 oz8 b8=>?_
 have oz8:rK g8 z ti tt (rawInt g5.objs.size):=oz8
 have up:∀c o,c≠z->g5.get? c=Gc o->g8.get? c=Gc o:=λc o c1 e=>b8.extBut _ _ c1 (b7.extBut _ _ c1 (j0 _ e))
 have op8:oM g8 g5.objs.size x y:=b8.extBut _ _ (oZ zlt) (b7.extBut _ _ (oZ zlt) (kH _ rfl))
 rw[sz]at oz8 op8
 refine j7 ⟨_,rfl,?_⟩
 show Q (.ref g5.objs.size) _
 rw[sz]
 exact k g8 oz8 (up _ _ D.TOz ot5) (q15.at (λo e=>up _ o D.i1z e) λo e=>up _ o D.l1z e) (q25.at (λo e=>up _ o D.i2z e) λo e=>up _ o D.l2z e) op8 λc o c1 c2 c3 c4 e=>up c o c1 (k5 c o c1 c2 c3 c4 e)
theorem VS{z ti tt j1 j2 l1 l2:j9}{m:Nat}{xs ys:kj j4}{u1 u2:j4}{Q:Fin->j5->Prop}(hh:A.handled=none)(D:vP z ti tt j1 j2 l1 l2)(oz:rK s.heap z ti tt .none)(oi:oM s.heap ti (.ref j1) (.ref j2))(ot:oM s.heap tt u1 u2)(q1:SIt s.heap j1 l1 m xs)(q2:SIt s.heap j2 l2 m ys)(en:xs[m]?=none\/ys[m]?=none)(k:∀h' e,(∀c o,c≠z->c≠tt->c≠j1->c≠j2->s.heap.get? c=Gc o->h'.get? c=Gc o)->(∃o,h'.get? e=Gc o/\o.cls=.type "StopIteration")->E (.ref e) {s with heap:=h'}):wpAny (model prog w) A (mw.«zip.__next__» ⟨[.ref z],[]⟩) Q E s:=by
 show wpAny _ _ (field (.ref z) 2 >>= _) _ _ _
 refine jy (nT oz rfl (x:=.bool false) rfl ?_)
 show wpAny _ _ (field (.ref z) 3 >>= _) _ _ _
 refine jy (nT oz rfl (x:=.ref ti) rfl (jy (nC oi rfl ?_)))
 show wpAny _ _ (mQ (.ref z) >>= _) _ _ _
 refine jy ?_
 unfold mQ
 refine jy (nT oz rfl (x:=.none) rfl (j7 ?_))
 simp only[qk]
 refine jy (oJ (jy (nT oz rfl (x:=.ref tt) rfl (jy (nh oz (by simp) λg1 oz1 b1=>?_)))))
 have oz1:rK g1 z ti tt .ellipsis:=oz1
 refine jy ?_
 simp only[vz,wU,tT,uB]
 refine jy (jy (sH ?_))
 show wpAny _ _ (lI (.ref j1) >>= _) _ _ _
 cases ex:xs[m]? with
 |none=>
  refine jy (Jv hh (q1.but b1.extBut D.i1z D.l1z) ex λg2 e b2 he=>?_)
  obtain⟨oe,e1,e2⟩:=he
  have oz2:rK g2 z ti tt .ellipsis:=b2 _ _ D.i1z.symm oz1
  have nez:e≠z:=λx=>by subst x;rw[oz2]at e1;cases e1;simp at e2
  exact nh oz2 (by simp) λg3 _ b3=>k g3 e (λc o c1 _ c3 _ x=>b3.extBut _ _ c1 (b2 _ _ c3 (b1.extBut _ _ c1 x))) ⟨oe,b3.extBut _ _ nez e1,e2⟩
 |some x=>
  have ey:ys[m]?=none:=by
   rcases en with z|z
   .rw[ex]at z;cases z
   .exact z
  refine jy (Jj (q1.but b1.extBut D.i1z D.l1z) ex λg2 q12 b2=>j7 ?_)
  have ot2:oM g2 tt u1 u2:=b2.extBut _ _ D.TOi1 (b1.extBut _ _ D.TOz ot)
  refine jy (nC ot2 rfl (jy (qr ot2 λg3 ot3 b3=>?_)))
  refine jy (uC (j7 (jy (jy (sH ?_)))))
  show wpAny _ _ (lI (.ref j2) >>= _) _ _ _
  refine jy (Jv hh (((q2.but b1.extBut D.i2z D.l2z).but b2.extBut D.i12.symm D.l2i1).but b3.extBut D.TOi2.symm D.l2TO) ey λg4 e b4 he=>?_)
  obtain⟨oe,e1,e2⟩:=he
  have oz4:rK g4 z ti tt .ellipsis:=b4 _ _ D.i2z.symm (b3.extBut _ _ D.TOz.symm (b2.extBut _ _ D.i1z.symm oz1))
  have nez:e≠z:=λx=>by subst x;rw[oz4]at e1;cases e1;simp at e2
  exact nh oz4 (by simp) λg5 _ b5=>k g5 e (λc o c1 c2 c3 c4 x=>b5.extBut _ _ c1 (b4 _ _ c4 (b3.extBut _ _ c2 (b2.extBut _ _ c3 (b1.extBut _ _ c1 x))))) ⟨oe,b5.extBut _ _ nez e1,e2⟩
theorem QP{z ti tt j1 j2 l1 l2:j9}{m:Nat}{xs ys:kj j4}{x y u1 u2:j4}{Q:j6 j4->j5->Prop}(D:vP z ti tt j1 j2 l1 l2)(oz:rK s.heap z ti tt .none)(oi:oM s.heap ti (.ref j1) (.ref j2))(ot:oM s.heap tt u1 u2)(q1:SIt s.heap j1 l1 m xs)(q2:SIt s.heap j2 l2 m ys)(ex:xs[m]?=Gc x)(ey:ys[m]?=Gc y)(k:∀h',rK h' z ti tt (rawInt s.heap.objs.size)->oM h' tt x y->SIt h' j1 l1 (m+1) xs->SIt h' j2 l2 (m+1) ys->oM h' s.heap.objs.size x y->(∀c o,c≠z->c≠tt->c≠j1->c≠j2->s.heap.get? c=Gc o->h'.get? c=Gc o)->Q (Gc (.ref s.heap.objs.size)) {s with heap:=h'}):wpAny (model prog w) A (pyNext (.ref z)) Q E s:=by
 have ht:s.TypeIs (.ref z) "zip":=⟨_,oz,rfl⟩
 unfold pyNext
 exact jy (pz (lO (name:=lq "__next__") ht qx (lL qx ht v3
  (Q1 D oz oi ot q1 q2 ex ey λh' a1 a2 a3 a4 a5 a6=>j7 (k h' a1 a2 a3 a4 a5 a6)) (vQ _))))
theorem SU{z ti tt j1 j2 l1 l2:j9}{m:Nat}{xs ys:kj j4}{u1 u2:j4}{Q:j6 j4->j5->Prop}(hh:A.handled=none)(D:vP z ti tt j1 j2 l1 l2)(oz:rK s.heap z ti tt .none)(oi:oM s.heap ti (.ref j1) (.ref j2))(ot:oM s.heap tt u1 u2)(q1:SIt s.heap j1 l1 m xs)(q2:SIt s.heap j2 l2 m ys)(en:xs[m]?=none\/ys[m]?=none)(k:∀h',(∀c o,c≠z->c≠tt->c≠j1->c≠j2->s.heap.get? c=Gc o->h'.get? c=Gc o)->Q none {s with heap:=h'}):wpAny (model prog w) A (pyNext (.ref z)) Q E s:=by
 have ht:s.TypeIs (.ref z) "zip":=⟨_,oz,rfl⟩
 unfold pyNext
 refine jy (pz (lO (name:=lq "__next__") ht qx (lL qx ht v3
  (VS hh D oz oi ot q1 q2 en λh' e kp he=>?_) (vQ _))))
 obtain⟨o,e1,e2⟩:=he
 exact jy (pT (T:="StopIteration") (b:=true) ⟨o,e1,e2⟩ uE (j7 (k _ kp)))
end
end L2
end
noncomputable section
namespace L2
open PySem PySem.Spec PyProof.Rows
def LQ(h:lD)(b:lA)(l:j9)(its:kj j4):Prop:=match b with|true=>h.IsTuple l its|false=>h.IsList l its
noncomputable def bE:lA->pE|true=>"tuple_iterator" |false=>"list_iterator"
noncomputable def zh1(h:lD)(b:lA)(l:j9):lD:=h.push {cls:=.type (bE b),data:=.fields #[.ref l,.int 0 0]}
noncomputable def zh2(h:lD)(b c:lA)(l m:j9):lD:=zh1 (zh1 h b l) c m
noncomputable def zh3(h:lD)(b c:lA)(l m:j9):lD:=(zh2 h b c l m).push {cls:=.type "tuple",data:=.seq #[.ref h.objs.size,.ref (zh1 h b l).objs.size]}
noncomputable def zh4(h:lD)(b c:lA)(l m:j9):lD:=(zh3 h b c l m).push {cls:=.type "tuple",data:=.seq #[.none,.none]}
noncomputable def zh5(h:lD)(b c:lA)(l m:j9):lD:=(zh4 h b c l m).push {cls:=.type "zip",data:=.fields #[.none,.bool false,.bool false,.ref (zh2 h b c l m).objs.size,.ref (zh3 h b c l m).objs.size]}
theorem LQ.push{h:lD}{b:lA}{l:j9}{its:kj j4}(q:LQ h b l its)(o:Obj):LQ (h.push o) b l its:=by
 cases b
 .exact Heap.IsList.push q _
 .obtain⟨u,e,r⟩:=(show h.IsTuple l its from q)
  exact⟨u,j0 _ e,r⟩
theorem WJ(b c:lA)(l m:j9)(xs ys:kj j4):Meets (mw.«zip.__new__» ⟨[.type "zip",.ref l,.ref m],[]⟩) (λ_ R s=>LQ s.heap b l xs/\LQ s.heap c m ys/\R (.ok (.ret (.ref (zh4 s.heap b c l m).objs.size))) {s with heap:=zh5 s.heap b c l m}):=
 .of_wp λprog w A R s hyp=>by
  obtain⟨hp,gs,dr,tk,os⟩:=s
  obtain⟨i1,i2,hyp⟩:=hyp
  have hsub:=sub_zip
  have i3:LQ (oF ⟨zh1 hp b l,gs,dr,tk,os⟩) c m ys:=LQ.push i2 _
  cases b<;>cases c
  .have a1:uF (oF ⟨hp,gs,dr,tk,os⟩) l xs:=i1
   have a2:uF (oF ⟨hp.push {cls:=.type "list_iterator",data:=.fields #[.ref l,.int 0 0]},gs,dr,tk,os⟩) m ys:=i3
   wp_walk using md a1,md a2
   exact⟨_,rfl,hyp⟩
  .have a1:uF (oF ⟨hp,gs,dr,tk,os⟩) l xs:=i1
   have a2:rB (oF ⟨hp.push {cls:=.type "list_iterator",data:=.fields #[.ref l,.int 0 0]},gs,dr,tk,os⟩) m ys:=i3
   wp_walk using md a1,my a2
   exact⟨_,rfl,hyp⟩
  .have a1:rB (oF ⟨hp,gs,dr,tk,os⟩) l xs:=i1
   have a2:uF (oF ⟨hp.push {cls:=.type "tuple_iterator",data:=.fields #[.ref l,.int 0 0]},gs,dr,tk,os⟩) m ys:=i3
   wp_walk using my a1,md a2
   exact⟨_,rfl,hyp⟩
  .have a1:rB (oF ⟨hp,gs,dr,tk,os⟩) l xs:=i1
   have a2:rB (oF ⟨hp.push {cls:=.type "tuple_iterator",data:=.fields #[.ref l,.int 0 0]},gs,dr,tk,os⟩) m ys:=i3
   wp_walk using my a1,my a2
   exact⟨_,rfl,hyp⟩
section
variable{prog:ke}{w:lB}{A:lF}{E:j4->j5->Prop}{s:j5}
theorem XE{h h':lD}{b:lA}{l j:j9}{its:kj j4}(q:LQ h b l its)(k:∀c o,h.get? c=Gc o->h'.get? c=Gc o)(e:h'.get? j=Gc {cls:=.type (bE b),data:=.fields #[.ref l,.int 0 0]}):SIt h' j l 0 its:=by
 cases b
 .exact .inl ⟨⟨_,e,rfl,rfl⟩,(show h.IsList l its from q).at λo z=>k _ o z⟩
 .exact .inr ⟨⟨_,e,rfl,rfl⟩,let⟨o,z,r⟩:=(show h.IsTuple l its from q);⟨o,k _ o z,r⟩⟩
theorem SE{b c:lA}{l m:j9}{xs ys:kj j4}{Q:j4->j5->Prop}(i1:LQ s.heap b l xs)(i2:LQ s.heap c m ys)(k:∀h',rK h' (s.heap.objs.size+4) (s.heap.objs.size+2) (s.heap.objs.size+3) .none->oM h' (s.heap.objs.size+2) (.ref s.heap.objs.size) (.ref (s.heap.objs.size+1))->oM h' (s.heap.objs.size+3) .none .none->SIt h' s.heap.objs.size l 0 xs->SIt h' (s.heap.objs.size+1) m 0 ys->(∀c o,s.heap.get? c=Gc o->h'.get? c=Gc o)->Q (.ref (s.heap.objs.size+4)) {s with heap:=h'}):wpAny (model prog w) A (call (.type "zip") [.ref l,.ref m]) Q E s:=by
 refine y0 F.called_zip (by decide) (F.typeCall_zip_2 _ _) (F.newCall_zip_2 _ _) (λobj=>F.args_object_init_3 obj _ _) F.entry_zip_new (WJ b c l m xs ys) ⟨i1,i2,?_⟩
 have z1:(zh1 s.heap b l).objs.size=s.heap.objs.size+1:=ku ..
 have z2:(zh2 s.heap b c l m).objs.size=s.heap.objs.size+2:=by unfold zh2 zh1;rw[ku];exact congrArg (· +1) z1
 have z3:(zh3 s.heap b c l m).objs.size=s.heap.objs.size+3:=by unfold zh3;rw[ku,z2]
 have z4:(zh4 s.heap b c l m).objs.size=s.heap.objs.size+4:=by unfold zh4;rw[ku,z3]
 have kp:∀d o,s.heap.get? d=Gc o->(zh5 s.heap b c l m).get? d=Gc o:=λd o e=>by
  unfold zh5 zh4 zh3 zh2 zh1
  exact j0 _ (j0 _ (j0 _ (j0 _ (j0 _ e))))
 have g5:(zh5 s.heap b c l m).get? (zh4 s.heap b c l m).objs.size=Gc _:=kH _ rfl
 have g4:(zh5 s.heap b c l m).get? (zh3 s.heap b c l m).objs.size=Gc _:=j0 _ (kH _ rfl)
 have g3:(zh5 s.heap b c l m).get? (zh2 s.heap b c l m).objs.size=Gc _:=j0 _ (j0 _ (kH _ rfl))
 have g2:(zh5 s.heap b c l m).get? (zh1 s.heap b l).objs.size=Gc _:=j0 _ (j0 _ (j0 _ (kH _ rfl)))
 have g1:(zh5 s.heap b c l m).get? s.heap.objs.size=Gc _:=j0 _ (j0 _ (j0 _ (j0 _ (kH _ rfl))))
 show _/\_
 rw[z2,z3,z4]at g5
 rw[z1,z2]at g3
 rw[z3]at g4
 rw[z1]at g2
 rw[z4]
 exact⟨⟨_,g5,rfl⟩,k _ g5 g3 g4 (XE i1 kp g1) (XE i2 kp g2) kp⟩
end
end L2
end
noncomputable section
namespace L2
open PySem PySem.Spec PyProof.Rows
def SqB(K:jz)(H:Hp)(k:lA)(a:j9)(xs:Wp V):Prop:=match k with|true=>SqT K H a xs|false=>SqL K H a xs
def JIt(h:lD)(k:lA)(j l:j9)(i:Nat):Prop:=match k with|true=>h.IsTupleIter j l i|false=>h.IsListIter j l i
theorem JIt.at{h h':lD}{k:lA}{j l:j9}{i:Nat}(q:JIt h k j l i)(e:∀o,h.get? j=Gc o->h'.get? j=Gc o):JIt h' k j l i:=by
 cases k
 .exact Heap.IsListIter.at q e
 .exact Heap.IsTupleIter.at q e
theorem JIt.sit{h:lD}{k:lA}{j l:j9}{i:Nat}{its:kj j4}(q:JIt h k j l i)(p:LQ h k l its):SIt h j l i its:=by
 cases k
 .exact .inl ⟨q,p⟩
 .exact .inr ⟨q,p⟩
theorem SIt.jit{h:lD}{k:lA}{j l:j9}{i:Nat}{its:kj j4}(q:SIt h j l i its)(p:LQ h k l its):JIt h k j l i:=by
 rcases q with⟨q,r⟩|⟨q,r⟩
 .cases k
  .exact q
  .obtain⟨o,e,c,_⟩:=r;obtain⟨o',e',c',_⟩:=(show h.IsTuple l its from p)
   rw[e]at e';cases e';rw[c]at c';injection c' with z;exact absurd z (by decide)
 .cases k
  .obtain⟨o,e,c,_⟩:=r;obtain⟨o',e',c',_⟩:=(show h.IsList l its from p)
   rw[e]at e';cases e';rw[c]at c';injection c' with z;exact absurd z (by decide)
  .exact q
theorem Inv.sqB{X:Cx}{pins:Wp (j9×Obj)}{σ:St}{H:Hp}{s:j5}{k:lA}{a:j9}{xs:Wp V}(I:Inv X pins σ H s)(h:SqB X.K H k a xs):∃its:Wp j4,Vals xs its/\LQ s.heap k a its.toArray:=by
 cases k
 .obtain⟨its,h1,⟨o,n,q1,q2,_,q3⟩,h3⟩:=I.list h
  exact⟨its,h1,o,q1,q2,n,q3⟩
 .obtain⟨its,h1,h2,h3⟩:=I.tuple h
  exact⟨its,h1,h2⟩
theorem Inv.Oa{X:Cx}{pins:Wp (j9×Obj)}{σ:St}{H:Hp}{s:j5}{k:lA}{a:j9}{xs ys:Wp V}(I:Inv X pins σ H s)(h:SqB X.K H k a xs)(g:SqB X.K H k a ys):xs=ys:=by
 cases k
 .exact I.PN h g
 .exact I.Nv h g
noncomputable def Itz(K:jz)(k:lA)(a:j9)(m:lA)(b:j9):It:=
 ⟨λi H=>∃(xs ys:Wp V) (x y:V),SqB K H k a xs/\SqB K H m b ys/\xs[i]?=Gc x/\ys[i]?=Gc y,
  λi H v H'=>∃(p:j9) (x y:V),H p=none/\v=.ref p/\(∀xs,SqB K H k a xs->xs[i]?=Gc x)/\(∀ys,SqB K H m b ys->ys[i]?=Gc y)/\H'=upd H p (.tup [x,y]),
  λi H=>∃(xs ys:Wp V),SqB K H k a xs/\SqB K H m b ys/\(xs.length<=i\/ys.length<=i)⟩
structure ZSt(h:lD)(z ti tt j1 j2:j9)(k:lA)(a:j9)(m:lA)(b:j9)(i:Nat):Prop where
 oz:rK h z ti tt .none
 oi:oM h ti (.ref j1) (.ref j2)
 ot:∃u v,oM h tt u v
 q1:JIt h k j1 a i
 q2:JIt h m j2 b i
structure ZNe(z ti tt j1 j2:j9):Prop where
 n1:ti≠z
 n2:tt≠z
 n3:j1≠z
 n4:j2≠z
 n5:ti≠tt
 n6:ti≠j1
 n7:ti≠j2
 n8:tt≠j1
 n9:tt≠j2
 n10:j1≠j2
theorem ZNe.apart{z ti tt j1 j2 a b:j9}(N:ZNe z ti tt j1 j2)(ha:a∉ [z,tt,j1,j2])(hb:b∉ [z,tt,j1,j2]):vP z ti tt j1 j2 a b:=by
 simp only[kG,kg,mK,tH]at ha hb
 exact⟨N.n1,N.n2,N.n3,N.n4,N.n5,N.n6,N.n7,N.n8,N.n9,N.n10,ha.1,ha.2.1,ha.2.2.1,ha.2.2.2,hb.1,hb.2.1,hb.2.2.1,hb.2.2.2⟩
theorem BQ{X:Cx}{pins:Wp (j9×Obj)}{σ:St}{H:Hp}{s:j5}{k:lA}{a c:j9}{xs:Wp V}(I:Inv X pins σ H s)(q:SqB X.K H k a xs)(f:L0 X pins H c):a≠c:=by
 intro e
 subst e
 have rd:∀o,Rd H a o->ou:=λo r=>by
  rcases r with r|⟨_,r⟩<;>(rw[f.1]at r;cases r)
 have kk:∀o,X.K.lookup a=Gc o->ou:=λo hk=>by
  have b:=I.ok.mod.kin a o hk
  rcases f.2.2.2.1 with z|z
  .exact I.ok.X8 a o b z
  .exact absurd (kD (kL (I.ok.bs a o b).1) z) (mY _)
 cases k
 .rcases(show SqL X.K H a xs from q)with q|⟨o,_,_,hk,_⟩
  .exact rd _ q
  .exact kk o hk
 .rcases(show SqT X.K H a xs from q)with q|⟨o,_,_,hk,_⟩
  .exact rd _ q
  .exact kk o hk
theorem Ur{P:ke}{w:lB}{K:jz}{elts:Wp ky}{n:Nat}{pos:Pos}(k:lA)(a:j9)(m:lA)(b:j9)(z ti tt j1 j2:j9)(N:ZNe z ti tt j1 j2):Turn P w K (.Tuple elts n pos) (Itz K k a m b) [z,ti,tt,j1,j2] z (λi h=>ZSt h z ti tt j1 j2 k a m b i) where
 mem:=by simp
 obj:=λi h st c hc=>by
  have jl:∀{q:lA} {j l:j9},JIt h q j l i->∃o,h.get? j=Gc o/\∀v,o.data≠.cell v:=λ{q j l} x=>by
   cases q
   .obtain⟨o,e,_,d⟩:=(show h.IsListIter j l i from x)
    exact⟨o,e,λv z=>by rw[d]at z;cases z⟩
   .obtain⟨o,e,_,d⟩:=(show h.IsTupleIter j l i from x)
    exact⟨o,e,λv z=>by rw[d]at z;cases z⟩
  simp only[kG,kg,mK]at hc
  rcases hc with rfl|rfl|rfl|rfl|rfl
  .exact⟨_,st.oz,λv z=>nomatch z⟩
  .exact⟨_,st.oi,λv z=>nomatch z⟩
  .obtain⟨u,v,e⟩:=st.ot
   exact⟨_,e,λv z=>nomatch z⟩
  .exact jl st.q1
  .exact jl st.q2
 keep:=λi h h' st kp=>⟨kp z (by simp) _ st.oz,kp ti (by simp) _ st.oi,let⟨u,v,e⟩:=st.ot;⟨u,v,kp tt (by simp) _ e⟩,st.q1.at λo e=>kp j1 (by simp) o e,st.q2.at λo e=>kp j2 (by simp) o e⟩
 item:=by
  intro X hP hw hK hc i pins s σ H E I hf st hg
  subst hP hw hK
  obtain⟨xs,ys,x,y,s1,s2,e1,e2⟩:=hg
  obtain⟨i1,r1,p1⟩:=I.sqB s1
  obtain⟨i2,r2,p2⟩:=I.sqB s2
  obtain⟨u1,h1,ru1⟩:=r1.get e1
  obtain⟨u2,h2,ru2⟩:=r2.get e2
  have fz:=hf z (by simp);have fi:=hf ti (by simp);have ft:=hf tt (by simp);have f1:=hf j1 (by simp);have f2:=hf j2 (by simp)
  have ap:=N.apart (a:=a) (b:=b) (by simp[BQ I s1 fz,BQ I s1 ft,BQ I s1 f1,BQ I s1 f2]) (by simp[BQ I s2 fz,BQ I s2 ft,BQ I s2 f1,BQ I s2 f2])
  obtain⟨v1,v2,ot⟩:=st.ot
  refine QP ap st.oz st.oi ot (st.q1.sit p1) (st.q2.sit p2) (x:=u1) (y:=u2) (by simpa using h1) (by simpa using h2) λh' oz ot' q1 q2 op kp=>⟨_,rfl,wpAny_letOwnedTupleGo_zip oz λg oz' sb=>?_⟩
  have lt:∀c o,s.heap.get? c=Gc o->c≠s.heap.objs.size:=λc o q=>kS (kL q)
  have nz:z≠s.heap.objs.size:=lt _ _ st.oz
  have nt:tt≠s.heap.objs.size:=lt _ _ ot
  have n1:j1≠s.heap.objs.size:=by obtain⟨o,e,_⟩:=(st.q1.sit p1).live;exact lt _ _ e
  have n2:j2≠s.heap.objs.size:=by obtain⟨o,e,_⟩:=(st.q2.sit p2).live;exact lt _ _ e
  have kp2:∀c o,c≠z->c≠tt->c≠j1->c≠j2->s.heap.get? c=Gc o->g.get? c=Gc o:=λc o c1 c2 c3 c4 q=>(sb.2 c c1).trans (kp c o c1 c2 c3 c4 q)
  have fr:H s.heap.objs.size=none:=I.hok.fresh (kA _)
  have op2:g.get? s.heap.objs.size=Gc {cls:=.type "tuple",data:=.seq #[u1,u2]}:=(sb.2 _ (l8 nz)).trans op
  have ne:∀c u,c∈ [z,ti,tt,j1,j2]->∀d,H d=Gc u->d≠c:=λc u hc d q e=>by rw[e,(hf c hc).1]at q;cases q
  have kpH:∀c u,H c=Gc u->∀o,s.heap.get? c=Gc o->g.get? c=Gc o:=λc u q o e=>kp2 c o (ne z u (by simp) c q) (ne tt u (by simp) c q) (ne j1 u (by simp) c q) (ne j2 u (by simp) c q) e
  have ka:∀o,s.heap.get? a=Gc o->g.get? a=Gc o:=λo e=>kp2 a o (BQ I s1 fz) (BQ I s1 ft) (BQ I s1 f1) (BQ I s1 f2) e
  have kb:∀o,s.heap.get? b=Gc o->g.get? b=Gc o:=λo e=>kp2 b o (BQ I s2 fz) (BQ I s2 ft) (BQ I s2 f1) (BQ I s2 f2) e
  have sq:∀{q:lA} {d:j9} {is:kj j4},LQ s.heap q d is->(∀o,s.heap.get? d=Gc o->h'.get? d=Gc o)->LQ h' q d is:=λ{q d is} x kd=>by
   cases q
   .exact(show s.heap.IsList d is from x).at kd
   .obtain⟨o,e,r⟩:=(show s.heap.IsTuple d is from x)
    exact⟨o,kd o e,r⟩
  have ka1:∀o,s.heap.get? a=Gc o->h'.get? a=Gc o:=λo e=>kp a o (BQ I s1 fz) (BQ I s1 ft) (BQ I s1 f1) (BQ I s1 f2) e
  have kb1:∀o,s.heap.get? b=Gc o->h'.get? b=Gc o:=λo e=>kp b o (BQ I s2 fz) (BQ I s2 ft) (BQ I s2 f1) (BQ I s2 f2) e
  refine⟨.ref s.heap.objs.size,upd H s.heap.objs.size (.tup [x,y]),?_,rfl,⟨_,x,y,fr,rfl,λzs hz=>by rw[I.Oa hz s1];exact e1,λzs hz=>by rw[I.Oa hz s2];exact e2,rfl⟩,⟨oz',(sb.2 _ N.n1).trans (kp ti _ N.n1 N.n5 N.n6 N.n7 st.oi),⟨_,_,(sb.2 _ N.n2).trans ot'⟩,(q1.jit (sq p1 ka1)).at λo e=>(sb.2 _ N.n3).trans e,(q2.jit (sq p2 kb1)).at λo e=>(sb.2 _ N.n4).trans e⟩,?_⟩
  .show Inv X pins σ _ {s with heap:=g,gens:=s.gens,drawn:=s.drawn,toks:=s.toks}
   refine I.step (g':=s.gens) (d':=s.drawn) (ch:=[z,tt,j1,j2]) ?_ ?_ ?_ ?_ ?_ ?_ ?_ ?_ ?_ ?_ I.bare
   .intro c hc
    have q:L0 X pins H c:=hf c (by simp only[kG,kg,mK]at hc ⊢; rcases hc with z|z|z|z<;>simp[z])
    exact⟨q.2.2.2.1,q.2.1,q.2.2.2.2.1,q.2.2.2.2.2⟩
   .exact λc o _ _ hc q _=>by
     simp only[kG,kg,mK,tH]at hc
     exact kp2 c o hc.1 hc.2.1 hc.2.2.1 hc.2.2.2 q
   .exact λc o _ _ hc q _=>by
     simp only[kG,kg,mK,tH]at hc
     exact⟨o.slots,kp2 c o hc.1 hc.2.1 hc.2.2.1 hc.2.2.2 q⟩
   .exact λc o _ q n=>by rw[AV (lt c o q)];exact n
   .exact λc o hc q=>by
     simp only[kG,kg,mK,tH]at hc
     exact⟨o,kp2 c o hc.1 hc.2.1 hc.2.2.1 hc.2.2.2 q⟩
   .exact λc ys q=>by rw[AV (BK q fr)];exact q
   .exact λc o u q=>by rw[AV (BK q fr)];exact q
   .exact λc ps q=>⟨#[],by rw[AV (BK q fr),q];simp⟩
   .rintro mm ⟨o,es,ep,ho,r⟩
    exact⟨o,es,ep,kp2 _ o (l8 fz.2.1) (l8 ft.2.1) (l8 f1.2.1) (l8 f2.2.1) ho,r⟩
   .intro c v q
    by_cases hb:c=s.heap.objs.size
    .subst hb
     rw[As]at q
     cases q
     exact⟨by show 2<=sizeLine;decide,[u1,u2],.cons ru1 (.cons ru2 .nil),⟨_,op2,rfl,0,rfl⟩⟩
    .rw[AV hb]at q
     refine(I.hok c v q).XJ (λd o hd r=>?_) (λd r=>by rw[AV (BK r fr)];exact r) (λd ys r=>by rw[AV (BK r fr)];exact r)
     rcases hd with e|e
     .rw[e]at r ⊢; exact kpH c v q o r
     .exact kpH d _ e o r
  .intro c hc
   have q:=hf c hc
   have:c≠s.heap.objs.size:=by
    simp only[kG,kg,mK]at hc
    rcases hc with e|e|e|e|e
    .rw[e];exact nz
    .rw[e];exact lt _ _ st.oi
    .rw[e];exact nt
    .rw[e];exact n1
    .rw[e];exact n2
   rw[AV this];exact q.1
 done:=by
  intro X hP hw hK hc i pins s σ H E I hf st hg
  subst hP hw hK
  obtain⟨xs,ys,s1,s2,e⟩:=hg
  obtain⟨i1,r1,p1⟩:=I.sqB s1
  obtain⟨i2,r2,p2⟩:=I.sqB s2
  have l1:=r1.length
  have l2:=r2.length
  have hh:X.A.in1.handled=none:=I.ok.hd hc
  have hh0:X.A.handled=none:=I.ok.hd hc
  have fz:=hf z (by simp);have fi:=hf ti (by simp);have ft:=hf tt (by simp);have f1:=hf j1 (by simp);have f2:=hf j2 (by simp)
  have ap:=N.apart (a:=a) (b:=b) (by simp[BQ I s1 fz,BQ I s1 ft,BQ I s1 f1,BQ I s1 f2]) (by simp[BQ I s2 fz,BQ I s2 ft,BQ I s2 f1,BQ I s2 f2])
  obtain⟨v1,v2,ot⟩:=st.ot
  refine SU hh0 ap st.oz st.oi ot (st.q1.sit p1) (st.q2.sit p2) (by rcases e with e|e;exact .inl (by simp;lia);exact .inr (by simp;lia)) λh' kp=>⟨rfl,?_⟩
  have ne:∀c u,c∈ [z,ti,tt,j1,j2]->∀d,H d=Gc u->d≠c:=λc u hc d q e=>by rw[e,(hf c hc).1]at q;cases q
  show Inv X pins σ _ {s with heap:=h',gens:=s.gens,drawn:=s.drawn,toks:=s.toks}
  refine I.step (g':=s.gens) (d':=s.drawn) (ch:=[z,tt,j1,j2]) ?_ ?_ ?_ ?_ ?_ ?_ ?_ ?_ ?_ ?_ I.bare
  .intro c hc
   have q:L0 X pins H c:=hf c (by simp only[kG,kg,mK]at hc ⊢; rcases hc with z|z|z|z<;>simp[z])
   exact⟨q.2.2.2.1,q.2.1,q.2.2.2.2.1,q.2.2.2.2.2⟩
  .exact λc o _ _ hc q _=>by
    simp only[kG,kg,mK,tH]at hc
    exact kp c o hc.1 hc.2.1 hc.2.2.1 hc.2.2.2 q
  .exact λc o _ _ hc q _=>by
    simp only[kG,kg,mK,tH]at hc
    exact⟨o.slots,kp c o hc.1 hc.2.1 hc.2.2.1 hc.2.2.2 q⟩
  .exact λc o _ q n=>n
  .exact λc o hc q=>by
    simp only[kG,kg,mK,tH]at hc
    exact⟨o,kp c o hc.1 hc.2.1 hc.2.2.1 hc.2.2.2 q⟩
  .exact λc ys q=>q
  .exact λc o u q=>q
  .exact λc ps q=>⟨#[],by rw[q];simp⟩
  .rintro mm ⟨o,es,ep,ho,r⟩
   exact⟨o,es,ep,kp _ o (l8 fz.2.1) (l8 ft.2.1) (l8 f1.2.1) (l8 f2.2.1) ho,r⟩
  .intro c v q
   refine(I.hok c v q).XJ (λd o hd r=>?_) (λd r=>r) (λd ys r=>r)
   rcases hd with e|e
   .rw[e]at r ⊢; exact kp c o (ne z v (by simp) c q) (ne tt v (by simp) c q) (ne j1 v (by simp) c q) (ne j2 v (by simp) c q) r
   .exact kp d o (ne z _ (by simp) d e) (ne tt _ (by simp) d e) (ne j1 _ (by simp) d e) (ne j2 _ (by simp) d e) r
 self:=λ_ _ _ _ _ st h=>v5 st.oz h
end L2
end
noncomputable section
namespace L2
open PySem PySem.Spec PyProof.Rows
theorem zne(n:Nat):ZNe (n+4) (n+2) (n+3) n (n+1):=⟨λe=>by have:n+2=n+4:=e;lia,λe=>by have:n+3=n+4:=e;lia,λe=>by have:n=n+4:=e;lia,λe=>by have:n+1=n+4:=e;lia,λe=>by have:n+2=n+3:=e;lia,λe=>by have:n+2=n:=e;lia,λe=>by have:n+2=n+1:=e;lia,λe=>by have:n+3=n:=e;lia,λe=>by have:n+3=n+1:=e;lia,λe=>by have:n=n+1:=e;lia⟩
section
variable{X:Cx}
noncomputable def iQ(K:jz)(ta:TA):TI:=λσ H R=>ta σ H λvs H1=>∃k a m b,vs=[.ref a,.ref b]/\(∃xs,SqB K H1 k a xs)/\(∃ys,SqB K H1 m b ys)/\R (Itz K k a m b) H1
theorem ao{a b:ky}{ta:TA}{p pos tp:Pos}{elts:Wp ky}{n:Nat}(hg:Gl X "zip")(hm:X.mg "zip"=none)(ha:PA X [a,b] ta)(hs:kc [a,b] X.env=[(false,eval a X.env),(false,eval b X.env)]:=by rfl)(hs2:kc [b] X.env=[(false,eval b X.env)]:=by rfl):PI X (.Tuple elts n tp) (.Call (.Name "zip" p) [a,b] [] pos) (iQ X.K ta):=by
 intro pins s σ H R I h
 refine Call_ (JI I hg hm boot_zip (nO (thn (ha pos pins s σ H _ I h) λus s1 ⟨vs,H1,I1,r1,q1⟩=>?_) (by rw[hs,hs2]) (by rw[hs2];rfl)))
 obtain⟨k,a',m,b',e,⟨xs,hq⟩,⟨ys,hr⟩,q⟩:=q1
 subst e
 obtain⟨u,v,rfl,ru,rv⟩:=r1.two
 cases (show u=mH a' from ru)
 cases (show v=mH b' from rv)
 obtain⟨i1,v1,p1⟩:=I1.sqB hq
 obtain⟨i2,v2,p2⟩:=I1.sqB hr
 refine SE p1 p2 λh' oz oi ot q1 q2 kp=>v5 (s:={s1 with heap:=h'}) oz ?_
 have sq:∀{q:lA} {d:j9} {is:kj j4},LQ s1.heap q d is->LQ h' q d is:=λ{q d is} x=>by
  cases q
  .exact(show s1.heap.IsList d is from x).at λo e=>kp _ o e
  .obtain⟨o,e,r⟩:=(show s1.heap.IsTuple d is from x)
   exact⟨o,kp _ o e,r⟩
 refine⟨s1.heap.objs.size+4,[s1.heap.objs.size+4,s1.heap.objs.size+2,s1.heap.objs.size+3,s1.heap.objs.size,s1.heap.objs.size+1],_,_,H1,rfl,I1.kept (t':=s1.toks) kp,
  Ur k a' m b' _ _ _ _ _ (zne s1.heap.objs.size),⟨oz,oi,⟨_,_,ot⟩,q1.jit (sq p1),q2.jit (sq p2)⟩,λc hc=>?_,q⟩
 simp only[kG,kg,mK]at hc
 have:s1.heap.objs.size<=c:=by rcases hc with rfl|rfl|rfl|rfl|rfl<;>first|exact kA _|exact Nat.le_add_right _ _
 exact I1.WV this (I1.hok.fresh this)
end
end L2
end
noncomputable section
namespace L2
open PySem PySem.Spec PyProof.Rows
section
variable{prog:ke}{w:lB}{A:lF}{E:j4->j5->Prop}{s:j5}
theorem IsList.O0{h h':lD}{a:j9}{items:kj j4}(p:h.IsList a items)(k:∀o,h.get? a=Gc o->h'.get? a=Gc o):h'.IsList a items:=by
 obtain⟨o,ho,r⟩:=p
 exact⟨o,k o ho,r⟩
theorem N2{it t:j9}{items:kj j4}(hne:t≠it):∀(n i:Nat) (s:j5) (Q:Wp j4->j5->Prop),s.heap.IsListIter it t i->s.heap.IsList t items->i+n<=items.size->(∀h',h'.IsListIter it t (i+n)->nN it s.heap h'->Q ((items.toList.drop i).take n) {s with heap:=h'})->wpAny (model prog w) A (draw (.ref it) n) Q E s
 |0,i,s,Q,hit,_,_,hQ=>by
  show wpAny _ _ (pure []) Q E s
  exact j7 (by simpa using hQ s.heap hit (vR ..))
 |n+1,i,s,Q,hit,ht,hle,hQ=>by
  have hlt:i<items.size:=by lia
  show wpAny _ _ (pyNext (.ref it) >>= _) Q E s
  refine jy (qL hit ht (x:=items[i]) (by simp[hlt]) λh1 hit1 hs1=>?_)
  refine jy (lM (N2 hne n (i+1) _ _ hit1 (IsList.O0 ht λo e=>hs1.extBut t o hne e) (by lia) λh2 hit2 hs2=>j7 ?_))
  have hd:items.toList.drop i=items[i]::items.toList.drop (i+1):=by simp[mC,hlt]
  have:=hQ h2 (by rw[show i+(n+1)=i+1+n by lia];exact hit2) (hs1.trans hs2)
  rw[hd,List.take_succ_cons]at this
  exact this
theorem Jh{t:j9}{items:kj j4}{Q:Wp j4->j5->Prop}(hh:A.handled=none)(ht:s.heap.IsList t items)(hty:s.TypeIs (.ref t) "list")(hQ:∀h',qH s.heap.objs.size s.heap h'->Q items.toList {s with heap:=h'}):wpAny (model prog w) A (unpackItems (.ref t) items.size none) Q E s:=by
 have hlt:t≠s.heap.objs.size:=by obtain⟨o,ho,_⟩:=ht;exact kS (kL ho)
 unfold unpackItems
 refine jy ?_
 .unfold notIterableAtAll
  refine jy (tU hty F.slot_list_iter.lookup ?_)
  refine j7 ?_
  simp only[mz,pL]
  refine jy (lM (md ht ?_))
  refine jy (lM (N2 hlt items.size 0 _ _ ⟨_,kH _ rfl,rfl,rfl⟩ (IsList.O0 ht λo e=>j0 _ e) (by lia) λh1 hit1 hs1=>?_))
  have hall:v7 items.size (yT 0 items.toList)=items.toList:=by
   rw[List.drop_zero];exact nP (by simp)
  rw[hall]
  rw[ko (by simp)]
  have ht1:h1.IsList t items:=IsList.O0 (IsList.O0 ht λo e=>j0 _ e) λo e=>hs1.extBut t o hlt e
  refine jy (lM (qZ hh hit1 ht1 (by simp) λh2 he2=>?_))
  simp only[Option.isSome_none,mz,pL]
  refine j7 (hQ h2 λb o hb e=>he2 b o hb (hs1.extBut b o hb (j0 _ e)))
theorem Iu{env:Env}{elts:Wp ky}{x1}{pos:Pos}{t:j9}{items:kj j4}{Q:Unit->j5->Prop}(hh:A.handled=none)(ht:s.heap.IsList t items)(hty:s.TypeIs (.ref t) "list")(hn:(assignEach elts env).length=items.size)(hstar:(assignEach elts env).findIdx? (·.1)=none)(h:∀h',qH s.heap.objs.size s.heap h'->wpAny (model prog w) A (assignInOrder ((assignEach elts env).map (·.2)) items.toList) Q E {s with heap:=h'}):wpAny (model prog w) A (assign (.Tuple elts x1 pos) env (.ref t)) Q E s:=by
 rw[xh]
 refine jy (nS ?_)
 unfold unpack
 rw[hn,hstar]
 exact jy (lM (Jh hh ht hty h))
end
section
variable{X:Cx}{pos:Pos}
noncomputable def jB(K:jz)(n:Nat)(t:TGs):TG:=λv σ H Q=>∃a xs,v=.ref a/\(SqT K H a xs\/H a=Gc (.lst xs))/\xs.length=n/\t xs σ H Q
theorem Zq{es:Wp ky}{k:Nat}{t:TGs}{n:Nat}(hc:X.calm=true)(h:PGs X es t)(hn:(assignEach es X.env).length=n:=by rfl)(hst:(assignEach es X.env).findIdx? (·.1)=none:=by rfl):PG X (.Tuple es k pos) (jB X.K n t):=by
 intro pins s σ H v u Q I r hw
 obtain⟨a,xs,e1,hq,hl,hw⟩:=hw
 rcases hq with hq|hq
 .exact Zt hc h hn hst pins s σ H v u Q I r ⟨a,xs,e1,hq,hl,hw⟩
 .subst e1
  cases r
  obtain⟨its,rv,p,hz⟩:=I.list (SqL.of hq)
  obtain⟨z,its2,m,rv2,_,e⟩:=I.W5 hq
  refine Iu (I.ok.hd hc) p.isList ⟨_,e,rfl⟩ (by simp[hn,<-hl,rv.length]) hst λh' hx=>?_
  have I1:Inv X pins σ H {s with heap:=h'}:=I.kept (t':=s.toks) λb o e=>hx b o (kS (kL e)) e
  exact h pins _ σ H xs _ Q I1 (by simpa using rv) hw
end
end L2
end
noncomputable section
namespace L2
open PySem PySem.Spec PyProof.Rows
theorem JIt.live{h:lD}{k:lA}{j l:j9}{i:Nat}(q:JIt h k j l i):∃o,h.get? j=Gc o/\∀v,o.data≠.cell v:=by
 cases k with
 |true=>obtain⟨o,e,c,d⟩:=q;exact⟨o,e,λv z=>by rw[d]at z;cases z⟩
 |false=>obtain⟨o,e,c,d⟩:=q;exact⟨o,e,λv z=>by rw[d]at z;cases z⟩
theorem LQ.mono{h h':lD}{k:lA}{l:j9}{its:kj j4}(q:LQ h k l its)(e:∀o,h.get? l=Gc o->h'.get? l=Gc o):LQ h' k l its:=by
 cases k with
 |true=>obtain⟨o,ho,r⟩:=q;exact⟨o,e o ho,r⟩
 |false=>obtain⟨o,ho,r⟩:=q;exact⟨o,e o ho,r⟩
theorem Sx{prog:ke}{w:lB}{A:lF}(hh:A.handled=none)(it t:j9)(hne:t≠it)(items:kj j4):Draws prog w A it [it,t] items.size (λi v=>items[i]?=Gc v) (λi h=>SIt h it t i items) where
 live:=λ_ _ st=>let⟨o,ho,_⟩:=st.live;⟨o,ho⟩
 frame:=λ_ _ _ st hk=>st.at (λo e=>hk it (by simp) o e) λo e=>hk t (by simp) o e
 item:=λi s Q E hi st hQ=>Jj st (x:=items[i]) (by simp[hi]) λh' a b=>hQ _ h' s.toks (by simp[hi]) a b
 done:=λs Q E st hE=>Jv hh st (by simp) hE
noncomputable def ItE(K:jz)(kk:lA)(a:j9):It:=
 ⟨λi H=>∃xs x,SqB K H kk a xs/\xs[i]?=Gc x,λi H x H'=>∃p y,H p=none/\x=.ref p/\(∀xs,SqB K H kk a xs->xs[i]?=Gc y)/\H'=upd H p (.tup [.int i,y]),λi H=>∃xs,SqB K H kk a xs/\xs.length<=i⟩
theorem QM{P:ke}{w:lB}{K:jz}{elts:Wp ky}{k:Nat}{pos:Pos}(kk:lA)(a e it:j9)(hei:e≠it):Turn P w K (.Tuple elts k pos) (ItE K kk a) [e,it] e (λi h=>(∃old,IsEnum h e it i old)/\JIt h kk it a i) where
 mem:=by simp
 obj:=λi h st b hb=>by
  obtain⟨⟨old,h1⟩,st2⟩:=st
  obtain⟨o,h2,h4⟩:=st2.live
  simp only[kG,kg,mK]at hb
  rcases hb with rfl|rfl
  .exact⟨_,h1,λv z=>nomatch z⟩
  .exact⟨o,h2,h4⟩
 keep:=λi h h' st k=>by
  obtain⟨⟨old,h1⟩,h2⟩:=st
  exact⟨⟨old,k e (by simp) _ h1⟩,h2.at λo q=>k it (by simp) o q⟩
 item:=by
  intro X hP hw hK hc i pins s σ H E I hf st hg
  subst hP hw hK
  obtain⟨xs,x,hq,hx⟩:=hg
  obtain⟨its,rv,p⟩:=I.sqB hq
  obtain⟨u,hu,ru⟩:=rv.get hx
  obtain⟨⟨old,h1⟩,h2⟩:=st
  obtain⟨oi,hi1,hi2⟩:=h2.live
  have hea:a≠e:=BQ I hq (hf e (by simp))
  have hia:a≠it:=BQ I hq (hf it (by simp))
  have hil:i<its.toArray.size:=by
   have:=(kK.mp hu).1
   simpa using this
  have hh:X.A.in1.handled=none:=I.ok.hd hc
  have D:=Sx (prog:=X.prog) (w:=X.w) hh it a hia its.toArray
  refine wpAny_pyNext_enum_itemD D h1 (h2.sit p) hil hei (by simp[hei,l8 hea]) ?_
  intro y h' tk hy out st' tup size kept
  have ey:y=u:=by
   have:its[i]?=Gc y:=by simpa using hy
   rw[hu]at this
   exact(lR this).symm
  subst ey
  refine⟨_,rfl,wpAny_letOwnedTupleGo_enum out λh'' en sb=>?_⟩
  have hfe:=hf e (by simp)
  have hfi:=hf it (by simp)
  have lt:∀b o,s.heap.get? b=Gc o->b≠s.heap.objs.size:=λb o q=>kS (kL q)
  have kept2:∀b o,b≠e->b≠it->s.heap.get? b=Gc o->h''.get? b=Gc o:=λb o b1 b2 q=>(sb.2 b b1).trans (kept b o b1 b2 q)
  have fr:H s.heap.objs.size=none:=I.hok.fresh (kA _)
  have tup2:h''.get? s.heap.objs.size=Gc {cls:=.type "tuple",data:=.seq #[.int i tk,y]}:=(sb.2 _ (l8 (lt e _ h1))).trans tup
  have ne1:∀b u,H b=Gc u->b≠e:=λb u q z=>by rw[z,hfe.1]at q;cases q
  have ne2:∀b u,H b=Gc u->b≠it:=λb u q z=>by rw[z,hfi.1]at q;cases q
  refine⟨.ref s.heap.objs.size,upd H s.heap.objs.size (.tup [.int i,x]),?_,rfl,⟨_,x,fr,rfl,λys hys=>by rw[I.Oa hys hq];exact hx,rfl⟩,⟨⟨y,en⟩,?_⟩,?_⟩
  .show Inv X pins σ _ {s with heap:=h'',gens:=s.gens,drawn:=s.drawn,toks:=tk+1}
   refine I.step (g':=s.gens) (d':=s.drawn) (ch:=[e,it]) ?_ ?_ ?_ ?_ ?_ ?_ ?_ ?_ ?_ ?_ I.bare
   .intro b hb
    simp only[kG,kg,mK]at hb
    rcases hb with rfl|rfl
    .exact⟨hfe.2.2.2.1,hfe.2.1,hfe.2.2.2.2.1,hfe.2.2.2.2.2⟩
    .exact⟨hfi.2.2.2.1,hfi.2.1,hfi.2.2.2.2.1,hfi.2.2.2.2.2⟩
   .exact λb o _ _ hc q _=>kept2 b o (λz=>hc (by simp[z])) (λz=>hc (by simp[z])) q
   .exact λb o _ _ hc q _=>⟨o.slots,kept2 b o (λz=>hc (by simp[z])) (λz=>hc (by simp[z])) q⟩
   .exact λb o _ q n=>by rw[AV (lt b o q)];exact n
   .exact λb o hc q=>⟨o,kept2 b o (λz=>hc (by simp[z])) (λz=>hc (by simp[z])) q⟩
   .exact λb ys q=>by rw[AV (BK q fr)];exact q
   .exact λb o u q=>by rw[AV (BK q fr)];exact q
   .exact λb ps q=>⟨#[],by rw[AV (BK q fr),q];simp⟩
   .rintro m ⟨o,es,ep,ho,r⟩
    exact⟨o,es,ep,kept2 _ o (l8 hfe.2.1) (l8 hfi.2.1) ho,r⟩
   .intro b v q
    by_cases hb:b=s.heap.objs.size
    .subst hb
     rw[As]at q
     cases q
     exact⟨by show 2<=sizeLine;decide,[.int i tk,y],.cons ⟨tk,rfl⟩ (.cons ru .nil),⟨_,tup2,rfl,0,rfl⟩⟩
    .rw[AV hb]at q
     refine(I.hok b v q).XJ (λc z hc r=>kept2 c z ?_ ?_ r) (λc r=>by rw[AV (BK r fr)];exact r) (λc ys r=>by rw[AV (BK r fr)];exact r)
     .rcases hc with z|z
      .rw[z];exact ne1 b v q
      .exact ne1 c _ z
     .rcases hc with z|z
      .rw[z];exact ne2 b v q
      .exact ne2 c _ z
  .have pa:LQ h'' kk a its.toArray:=p.mono λo q=>kept2 a o hea hia q
   exact(st'.at (λo q=>(sb.2 it (l8 hei)).trans q) λo q=>(sb.2 a hea).trans q).jit pa
  .intro b hb
   simp only[kG,kg,mK]at hb
   rcases hb with rfl|rfl
   .rw[AV (lt b _ h1)];exact hfe.1
   .rw[AV (lt b _ hi1)];exact hfi.1
 done:=by
  intro X hP hw hK hc i pins s σ H E I hf st hg
  subst hP hw hK
  obtain⟨xs,hq,hx⟩:=hg
  obtain⟨its,rv,p⟩:=I.sqB hq
  obtain⟨⟨old,h1⟩,h2⟩:=st
  have hl:=rv.length
  have hh:X.A.in1.handled=none:=I.ok.hd hc
  obtain⟨f0,f1,f2,f3,f4,f5⟩:=hf it (by simp)
  have D:Draws X.prog X.w X.A.in1 it [it,a] i (λ_ _=>uU) (λj h=>j=i/\SIt h it a i its.toArray):=
   {live:=λ_ _ st=>let⟨o,ho,_⟩:=st.2.live;⟨o,ho⟩
    frame:=λ_ _ _ st hk=>⟨st.1,st.2.at (λo e=>hk it (by simp) o e) λo e=>hk a (by simp) o e⟩
    item:=λj s Q E hj st _=>absurd st.1 (kS hj)
    done:=λs Q E st hE=>Jv hh st.2 (by simp;lia) hE}
  exact wpAny_pyNext_enum_endD D h1 ⟨rfl,h2.sit p⟩ λh' eb=>⟨rfl,I.turned (t':=s.toks) (λb o hb q=>eb b o hb q) f0 f1 f3 f4 f5⟩
 self:=λ_ _ _ _ _ st h=>by
  obtain⟨⟨old,h1⟩,_⟩:=st
  exact vS h1 h
section
variable{X:Cx}
noncomputable def Zg(K:jz)(ta:TA):TI:=λσ H R=>ta σ H λvs H1=>∃kk a,vs=[.ref a]/\(∃xs,SqB K H1 kk a xs)/\R (ItE K kk a) H1
theorem U0{a:ky}{ta:TA}{p pos tp:Pos}{elts:Wp ky}{k:Nat}(hg:Gl X "enumerate")(hm:X.mg "enumerate"=none)(ha:PA X [a] ta)(hs:kc [a] X.env=[(false,eval a X.env)]:=by rfl):PI X (.Tuple elts k tp) (.Call (.Name "enumerate" p) [a] [] pos) (Zg X.K ta):=by
 intro pins s σ H R I h
 refine Call_ (JI I hg hm boot_enumerate (callWith_type1 (thn (ha pos pins s σ H _ I h) λus s1 ⟨vs,H1,I1,r1,q1⟩=>?_) hs rfl))
 obtain⟨kk,b,e,⟨xs,hq⟩,q⟩:=q1
 subst e
 obtain⟨u,rfl,ru⟩:=r1.one
 cases (show u=mH b from ru)
 obtain⟨its,rv,pt⟩:=I1.sqB hq
 have fin:∀h':lD,IsEnum h' (s1.heap.objs.size+1) s1.heap.objs.size 0 .none->JIt h' kk s1.heap.objs.size b 0->(∀b o,s1.heap.get? b=Gc o->h'.get? b=Gc o)->wpAny (model X.prog X.w) X.A (pyIter (.ref (s1.heap.objs.size+1))) (PIE X pins σ (.Tuple elts k tp) R) X.xe {s1 with heap:=h'}:=λh' en it kp=>by
  refine vS (s:={s1 with heap:=h'}) en ?_
  refine⟨s1.heap.objs.size+1,[s1.heap.objs.size+1,s1.heap.objs.size],_,_,H1,rfl,I1.kept (t':=s1.toks) kp,QM kk b (s1.heap.objs.size+1) s1.heap.objs.size (Nat.succ_ne_self _),⟨⟨_,en⟩,it⟩,λc hc=>?_,q⟩
  simp only[kG,kg,mK]at hc
  rcases hc with rfl|rfl
  .exact I1.WV (by lia) (I1.hok.fresh (by lia))
  .exact I1.WV (kA _) (I1.hok.fresh (kA _))
 cases kk with
 |true=>exact P5 (show s1.heap.IsTuple b its.toArray from pt) λh' en it kp=>fin h' en it kp
 |false=>exact call_enumerate_list (show s1.heap.IsList b its.toArray from pt) λh' en it _ kp=>fin h' en it kp
end
end L2
end
noncomputable section
namespace St
open PySem PySem.Spec L2 PyProof.Rows
inductive Kd where
 |non|bl|int|str|tup|lst|dct
 deriving t7
noncomputable def Kd.ty:Kd->pE
 | .non=>"NoneType" | .bl=>"bool" | .int=>"int" | .str=>"str" | .tup=>"tuple" | .lst=>"list" | .dct=>"dict"
section
variable{K:jz}
end
structure Dfn(P:ke)(w:lB)(K:jz)(mg:Str->j6 j4)(base:lD)(x:Str)(k:Nat)(ps:Wp Str)(sp:Sp):Prop where
 ex:∃f fd,mg x=Gc (.ref f)/\nX K (.ref f)=true/\Binds K fd ps []/\Nn P w K mg base CX0 k f fd ps sp
structure Src(K:jz)(mg:Str->j6 j4)(x:Str)(st:lY):Prop where
 ex:∃f fd,Fun K x x st f fd/\mg x=Gc (.ref f)
theorem fg{X:Cx}{k:Nat}{x:Str}{ps:Wp Str}{sp:Sp}{e:ky}{es:Wp ky}{t:TA}{p pos:Pos}(d:Dfn X.prog X.w X.K X.mg X.base x k ps sp)(hr:K8 k X.A)(hg:Gl X x)(ha:PA X (e::es) t)(hdb:(x==("__debug__":Str))=false:=by decide)(he:kc (e::es) X.env=(false,eval e X.env)::kc es X.env:=by rfl)(hpl:(backTo pos (kc es X.env)).any (·.1)=false:=by rfl):PE X (.Call (.Name x p) (e::es) [] pos) (Xr sp [] E0 t):=by
 obtain⟨f,fd,a,b,c,F⟩:=d.ex
 exact Yl F hr hg a b c .nil dz ha hdb he hpl
section
variable{X:Cx}
theorem Yr{n:Nat}(h:n<2^8000):n.log2<9000:=by
 by_cases h0:n=0
 .subst h0;decide
 .exact pS ((Nat.log2_lt h0).mpr h) (by decide)
theorem VF:OpR X (binaryOp .FloorDiv) (rI (λ_ j=>0<j/\j.natAbs<2^8000) λi j=>.int (i / j)):=opI λi j _ _ _ _ _ hc q=>by
 have h1:(0:Int)<j:=hc.1
 exact floordiv_int (by lia) (by rw[Int.fdiv_eq_ediv_of_nonneg i (by lia)];exact q) (.inl (PyProof.noPylong_of_log2 (Yr hc.2)))
theorem Py{prog:ke}{w:lB}{A:lF}(hh:A.handled=none){a it:j9}(hne:a≠it){vs:Wp j4}:Walks prog w A it [it,a] [it] vs.length (λi v=>vs[i]?=Gc v) (λi h=>h.IsListIter it a i/\h.IsList a vs.toArray) where
 sub:=λb hb=>by simp at hb;simp[hb]
 frame:=λi h h' st k=>⟨st.1.at λo e=>k it (by simp) o e,by
  obtain⟨o,ho,r⟩:=st.2
  exact⟨o,k a (by simp) o ho,r⟩⟩
 item:=λi s Q E hi st hQ=>by
  refine qL st.1 st.2 (x:=vs[i]) (by simp[hi]) λh' st' sb=>?_
  refine hQ _ h' s.toks (by simp[hi]) ⟨st',?_⟩ λb o hb e=>(sb.2 b (by simpa using hb)).trans e
  obtain⟨o,ho,r⟩:=st.2
  exact⟨o,(sb.2 a hne).trans ho,r⟩
 done:=λs Q E st hQ=>qZ hh st.1 st.2 (by simp) λh' eb=>hQ h' s.toks λb o hb e=>eb b o (by simpa using hb) e
 self:=λi s Q E st hQ=>tY st.1 hQ
theorem U1{ns:Wp Int}{j:Nat}(h:j<ns.length):(ns.take (j+1)).sum=(ns.take j).sum+ns.getD j 0:=by
 have e:ns.getD j 0=ns[j]:=by simp[kP,kE h]
 rw[xH,kE h,List.sum_append,e]
 show _+(ns[j]+0)=_
 lia
theorem J9{ns:Wp Int}:∀{j:Nat},j<=ns.length->preSum (λi=>ns.getD i 0) j=(ns.take j).sum
 |0,_=>by simp[preSum]
 |j+1,h=>by
  rw[preSum,J9 (by lia),U1 (by lia)]
theorem Sj{ns:Wp Int}(h:∀n∈ns,0<=n/\n<=1000000):0<=ns.sum/\ns.sum<=1000000*ns.length:=by
 induction ns with
 |nil=>simp
 |cons a l ih=>
  have h1:=h a (by simp)
  have h2:=ih λn hn=>h n (by simp[hn])
  rw[pD,lQ]
  have:((l.length+1:Nat):Int)=(l.length:Int)+1:=by lia
  lia
end
section
variable{prog:ke}{w:lB}{A:lF}{E:j4->j5->Prop}{s:j5}
theorem Ic{t sl:j9}{items:kj j4}{vl vu:j4}{lo hi:j6 Int}{Q:j4->j5->Prop}(ht:zp s.heap t items)(hs:s.heap.IsSliceOf sl vl vu .none)(pl:sj vl lo)(pu:sj vu hi)(hw:HT.sIx items.size 0 lo=0/\HT.sIx items.size items.size hi=items.size)(h:Q (.ref t) s):wpAny (model prog w) A (getItem (.ref t) (.ref sl)) Q E s:=by
 obtain⟨os,hos,hcs,hds⟩:=id hs
 have hTs:s.TypeIs (.ref sl) "slice":=⟨os,hos,hcs⟩
 unfold getItem
 try with_reducible refine lM ?_
 first|refine jy (j7 ?_)|skip
 refine jy (vK ht.typeIs (by decide) ?_)
 refine jy (lO (name:=lq "__getitem__") ht.typeIs lW
  (lL lW ht.typeIs uV ?_ (uq _ _)))
 show wpAny _ _ (rJ (.ref t) >>= _) _ _ s
 refine jy (xv ht ?_)
 refine jy (pR hTs ?_)
 rw[kh (by decide)]
 refine jy (HT.GO hs pl pu ?_)
 show wpAny _ _ (if(((HT.sIx items.size 0 lo:Nat):Int)==0 && (1:Int)==1 && (HT.sIx items.size items.size hi-HT.sIx items.size 0 lo)==items.size)=true then _ else _) _ _ s
 rw[kh (by rw[hw.1,hw.2];simp)]
 unfold xI
 refine jy (jy (pR ht.typeIs (j7 ?_)))
 rw[kh (by decide)]
 exact jy (oJ (j7 ⟨_,rfl,j7 h⟩))
end
section
variable{X:Cx}
def jP(K:jz):V->j6 Int->j6 Int->Hp->VK->Prop:=λx lo hi H Q=>∃a xs,x=.ref a/\SqT K H a xs/\HT.sIx xs.length 0 lo=0/\HT.sIx xs.length xs.length hi=xs.length/\Q x H
theorem bC:SlR X (jP X.K):=by
 intro pins s σ H x v vl vu lo hi sl Q I rx hs pl pu h
 obtain⟨a,xs,rfl,hx,h1,h2,q⟩:=h
 cases rx
 obtain⟨its,r,ht,hz⟩:=I.tuple hx
 have hlen:its.toArray.size=xs.length:=by rw[kM];exact r.length.symm
 refine⟨"tuple",_,lW.lookup,ht.typeIs,?_⟩
 exact Ic ht hs pl pu (by rw[hlen];exact⟨h1,h2⟩) ⟨.ref a,H,I,rfl,q⟩
noncomputable def dW(K:jz):R2:=λx y H Q=>∃a b ys,x=.ref a/\y=.ref b/\SqT K H a []/\SqT K H b ys/\Q (.ref b) H
theorem YE:OpR X (binaryOp .Add) (dW X.K):=by
 intro pins s σ H x y v u Q I rx ry h
 obtain⟨a,b,ys,rfl,rfl,ha,hb,q⟩:=h
 cases rx
 cases ry
 obtain⟨its,r1,p1,_⟩:=I.tuple ha
 obtain⟨its2,r2,p2,_⟩:=I.tuple hb
 have e0:its=[]:=r1.ME.mpr rfl
 subst e0
 obtain⟨⟨cls,dd,data,sl⟩,ho,hc,n,hd⟩:=id p1
 obtain⟨⟨cls2,dd2,data2,sl2⟩,ho2,hc2,n2,hd2⟩:=id p2
 simp only at hc hd hc2 hd2
 subst hc hd hc2 hd2
 exact vJ ⟨_,ho,rfl⟩ ⟨_,ho2,rfl⟩ sS uc qP qG (pf _ _)
  (tuple_addW0 a b #[] its2.toArray n n2 dd dd2 sl sl2 rfl) ⟨ho,ho2,⟨.ref b,H,I,rfl,q⟩⟩
end
end St
end
noncomputable section
namespace Mi
open PySem PySem.Spec L2
inductive D where
 |non|bl (b:lA)|int (i:Int)|str (x:Str)|ty (n:pE)|tup (ds:Wp D)|lst (ds:Wp D)|dct (kvs:Wp (Key×D))|scr (ns:Wp Int)|ref (n:Nat)
inductive Wv where
 |val (d:D)|own (ds:Wp D)
inductive Cl where
 |lst (ds:Wp D)|dct (kvs:Wp (Key×D))|tab (x:Str)
abbrev Sto:=Wp Cl
structure Ms where
 cel:Wp j9
 tmp:Wp j9
def Ms.mem(M:Ms)(a:j9):Prop:=a∈M.cel\/a∈M.tmp
noncomputable def Ms.no:Ms:=⟨[],[]⟩
theorem Ms.XO{a:j9}:¬Ms.no.mem a:=λz=>z.elim (λz=>by cases z) λz=>by cases z
def KL(K:jz)(a:j9)(xs:Wp V):Prop:=∃(o:Obj) (its:kj j4) (n:Nat),K.lookup a=Gc o/\o.cls=.type "list" /\o.dict=none/\o.data=.seq its n/\its.size<=sizeLine/\Vals xs its.toList
mutual
inductive C7(K:jz)(M:Ms)(H:Hp):V->D->Prop
 |non:C7 K M H .non .non
 |bl (b:lA):C7 K M H (.bl b) (.bl b)
 |int (i:Int):C7 K M H (.int i) (.int i)
 |str (x:Str):C7 K M H (.str x) (.str x)
 |ty (n:pE):C7 K M H (.ty n) (.ty n)
 |tup {a:j9} {xs:Wp V} {ds:Wp D} (h:SqT K H a xs) (r:Am K M H xs ds):C7 K M H (.ref a) (.tup ds)
 |lst {a:j9} {xs:Wp V} {ds:Wp D} (h:H a=Gc (.lst xs)) (n:¬M.mem a) (r:Am K M H xs ds):C7 K M H (.ref a) (.lst ds)
 |scr {a:j9} {ns:Wp Int} (h:(Rd H a (.lst (ns.map V.int))/\¬M.mem a)\/KL K a (ns.map V.int)):C7 K M H (.ref a) (.scr ns)
 |dct {a:j9} {kvs:Wp (Key×V)} {es:Wp (Key×D)} (h:H a=Gc (.dK kvs)) (n:¬M.mem a) (r:Bm K M H kvs es):C7 K M H (.ref a) (.dct es)
 |ref {a:j9} {n:Nat} (h:M.cel[n]?=Gc a):C7 K M H (.ref a) (.ref n)
inductive Am(K:jz)(M:Ms)(H:Hp):Wp V->Wp D->Prop
 |nil:Am K M H [] []
 |cons {v:V} {d:D} {vs:Wp V} {ds:Wp D} (h:C7 K M H v d) (t:Am K M H vs ds):Am K M H (v::vs) (d::ds)
inductive Bm(K:jz)(M:Ms)(H:Hp):Wp (Key×V)->Wp (Key×D)->Prop
 |nil:Bm K M H [] []
 |cons {k:Key} {v:V} {d:D} {vs:Wp (Key×V)} {ds:Wp (Key×D)} (h:C7 K M H v d) (t:Bm K M H vs ds):Bm K M H ((k,v)::vs) ((k,d)::ds)
end
def MOk(M:Ms)(H:Hp):Prop:=∀a,M.mem a->(∃xs,H a=Gc (.lst xs))\/(∃kvs,H a=Gc (.dK kvs))\/∃ps,H a=Gc (.tbl ps)
structure Sp1(M:Ms)(H:Hp)(M':Ms)(H':Hp):Prop where
 mo:MOk M H
 pre:M.cel <+: M'.cel
 fresh:∀a,M'.mem a->M.mem a\/H a=none
 keep:∀a o,H a=Gc o->¬M.mem a->H' a=Gc o
structure Gr(M:Ms)(H:Hp)(M':Ms)(H':Hp):Prop where
 mo:MOk M H
 pre:M.cel <+: M'.cel
 tmp:M'.tmp=M.tmp
 fresh:∀a,a∈M'.cel->a∈M.cel\/H a=none
 keep:∀a o,H a=Gc o->a∉M.cel->H' a=Gc o
 some:∀a,H a≠none->H' a≠none
section
variable{K:jz}{M M' M2:Ms}{H H' H2:Hp}
theorem MOk.some(mo:MOk M H){a:j9}(h:M.mem a):H a≠none:=λz=>by
 rcases mo a h with⟨xs,e⟩|⟨xs,e⟩|⟨xs,e⟩<;>(rw[e]at z;cases z)
theorem Gr.st(g:Gr M H M' H'):Sp1 M H M' H':=⟨g.mo,g.pre,λa z=>z.elim (λz=>(g.fresh a z).imp .inl id) λz=>.inl (.inr (by rw[<-g.tmp];exact z)),λa o e n=>g.keep a o e λz=>n (.inl z)⟩
theorem Gr.refl(mo:MOk M H):Gr M H M H:=⟨mo,lT,rfl,λ_ z=>.inl z,λ_ _ e _=>e,λ_ e=>e⟩
theorem Gr.none(g:Gr M H M' H'){a:j9}(h:H' a=none):H a=none:=by
 cases e:H a with
 |none=>rfl
 |some o=>exact absurd h (g.some a (by rw[e];intro z;cases z))
theorem Gr.trans(h:Gr M H M' H')(g:Gr M' H' M2 H2):Gr M H M2 H2:=
 ⟨h.mo,h.pre.trans g.pre,g.tmp.trans h.tmp,λa z=>(g.fresh a z).elim (h.fresh a) λz=>.inr (h.none z),λa o e n=>g.keep a o (h.keep a o e n) (λz=>by
   rcases h.fresh a z with z|z
   .exact n z
   .rw[e]at z;cases z),λa e=>g.some a (h.some a e)⟩
theorem Gr.grow(mo:MOk M H)(k:∀a o,H a=Gc o->H' a=Gc o):Gr M H M H':=
 ⟨mo,lT,rfl,λ_ z=>.inl z,λb u eb _=>k b u eb,λb eb z=>by
   cases h:H b with
   |none=>exact eb h
   |some o=>rw[k b o h]at z;cases z⟩
theorem KI{α:Type}{xs ys:Wp α}(h:xs <+: ys){n:Nat}{a:α}(e:xs[n]?=Gc a):ys[n]?=Gc a:=by
 obtain⟨zs,rfl⟩:=h
 rw[j8 (kK.mp e).1]
 exact e
theorem UX{a:j9}{xs:Wp V}(h:SqT K H a xs)(k:∀b o,H b=Gc o->(∀ys,o≠.lst ys)->(∀ys,o≠.dK ys)->(∀ys,o≠.tbl ys)->H' b=Gc o):SqT K H' a xs:=by
 rcases h with h|h
 .rcases h with h|⟨o,h⟩
  .exact .inl (.inl (k _ _ h (λys z=>by cases z) (λys z=>by cases z) λys z=>by cases z))
  .exact .inl (.inr ⟨o,k _ _ h (λys z=>by cases z) (λys z=>by cases z) λys z=>by cases z⟩)
 .exact .inr h
theorem Sp1.sqT(g:Sp1 M H M' H'){a:j9}{xs:Wp V}(h:SqT K H a xs):SqT K H' a xs:=UX h λb o e n1 n2 n3=>g.keep b o e λz=>by
 rcases g.mo b z with⟨ys,q⟩|⟨ys,q⟩|⟨ys,q⟩
 .exact n1 ys (lR (e.symm.trans q))
 .exact n2 ys (lR (e.symm.trans q))
 .exact n3 ys (lR (e.symm.trans q))
theorem Sp1.nm(g:Sp1 M H M' H'){a:j9}{o:HO}(e:H a=Gc o)(n:¬M.mem a):¬M'.mem a:=λz=>by
 rcases g.fresh _ z with z|z
 .exact n z
 .rw[z]at e;cases e
theorem C7.step(g:Sp1 M H M' H'){v:V}{d:D}(h:C7 K M H v d):C7 K M' H' v d:=
 C7.rec (motive_1:=λv d _=>C7 K M' H' v d) (motive_2:=λv d _=>Am K M' H' v d) (motive_3:=λv d _=>Bm K M' H' v d) .non .bl .int .str .ty (λh _ r=>.tup (g.sqT h) r) (λh n _ r=>.lst (g.keep _ _ h n) (g.nm h n) r) (λh=>by
  rcases h with⟨h,n⟩|h
  .rcases h with h|⟨o,h⟩
   .exact .scr (.inl ⟨.inl (g.keep _ _ h n),g.nm h n⟩)
   .exact .scr (.inl ⟨.inr ⟨o,g.keep _ _ h n⟩,g.nm h n⟩)
  .exact .scr (.inr h)) (λh n _ r=>.dct (g.keep _ _ h n) (g.nm h n) r) (λh=>.ref (KI g.pre h)) .nil (λ_ _ h t=>.cons h t) .nil (λ_ _ h t=>.cons h t) h
theorem Am.ind{P:Wp V->Wp D->Prop}(n:P [] [])(c:∀{v:V} {d:D} {vs:Wp V} {ds:Wp D},C7 K M H v d->P vs ds->P (v::vs) (d::ds)){vs:Wp V}{ds:Wp D}(h:Am K M H vs ds):P vs ds:=
 Am.rec (motive_1:=λ_ _ _=>uU) (motive_2:=λv d _=>P v d) (motive_3:=λ_ _ _=>uU) trivial (λ_=>trivial) (λ_=>trivial) (λ_=>trivial) (λ_=>trivial) (λ_ _ _=>trivial) (λ_ _ _ _=>trivial) (λ_=>trivial) (λ_ _ _ _=>trivial) (λ_=>trivial) n (λh _ _ t=>c h t) trivial (λ_ _ _ _=>trivial) h
theorem Bm.ind{P:Wp (Key×V)->Wp (Key×D)->Prop}(n:P [] [])(c:∀{k:Key} {v:V} {d:D} {vs:Wp (Key×V)} {ds:Wp (Key×D)},C7 K M H v d->P vs ds->P ((k,v)::vs) ((k,d)::ds)){vs:Wp (Key×V)}{ds:Wp (Key×D)}(h:Bm K M H vs ds):P vs ds:=
 Bm.rec (motive_1:=λ_ _ _=>uU) (motive_2:=λ_ _ _=>uU) (motive_3:=λv d _=>P v d) trivial (λ_=>trivial) (λ_=>trivial) (λ_=>trivial) (λ_=>trivial) (λ_ _ _=>trivial) (λ_ _ _ _=>trivial) (λ_=>trivial) (λ_ _ _ _=>trivial) (λ_=>trivial) trivial (λ_ _ _ _=>trivial) n (λh _ _ t=>c h t) h
theorem Am.step(g:Sp1 M H M' H'){v:Wp V}{d:Wp D}(h:Am K M H v d):Am K M' H' v d:=h.ind .nil λh t=>.cons (h.step g) t
theorem Bm.step(g:Sp1 M H M' H'){v:Wp (Key×V)}{d:Wp (Key×D)}(h:Bm K M H v d):Bm K M' H' v d:=h.ind .nil λh t=>.cons (h.step g) t
theorem Am.length:∀{v:Wp V} {d:Wp D},Am K M H v d->v.length=d.length
 |_,_,.nil=>rfl
 |_,_,.cons _ t=>by simp[Am.length t]
theorem Am.get:∀{v:Wp V} {d:Wp D} {i:Nat} {y:D},Am K M H v d->d[i]?=Gc y->∃x,v[i]?=Gc x/\C7 K M H x y
 |_,_,i,y,.nil,e=>by simp at e
 |_,_,0,y,.cons h t,e=>by simp at e;subst e;exact⟨_,rfl,h⟩
 |_,_,i+1,y,.cons h t,e=>by
  obtain⟨x,h1,h2⟩:=Am.get (i:=i) t (by simpa using e)
  exact⟨x,by simpa using h1,h2⟩
theorem Am.append:∀{v v':Wp V} {d d':Wp D},Am K M H v d->Am K M H v' d'->Am K M H (v++v') (d++d')
 |_,_,_,_,.nil,s=>s
 |_,_,_,_,.cons h t,s=>.cons h (Am.append t s)
theorem Am.take:∀{v:Wp V} {d:Wp D} (n:Nat),Am K M H v d->Am K M H (v.take n) (d.take n)
 |_,_,0,_=>.nil
 |_,_,_+1,.nil=>.nil
 |_,_,n+1,.cons h t=>.cons h (Am.take n t)
theorem Am.drop:∀{v:Wp V} {d:Wp D} (n:Nat),Am K M H v d->Am K M H (v.drop n) (d.drop n)
 |_,_,0,r=>r
 |_,_,_+1,.nil=>.nil
 |_,_,n+1,.cons _ t=>Am.drop n t
theorem Am.set{x:V}{y:D}(r:C7 K M H x y):∀{v:Wp V} {d:Wp D} (i:Nat),Am K M H v d->Am K M H (v.set i x) (d.set i y)
 |_,_,_,.nil=>.nil
 |_,_,0,.cons _ t=>.cons r t
 |_,_,i+1,.cons q t=>.cons q (Am.set r i t)
end
abbrev En:=Wp (j6 D)
abbrev Sg:=Wp (j6 V)
structure EnR(K:jz)(M:Ms)(E:En)(σ:Sg)(H:Hp):Prop where
 len:E.length=σ.length
 val:∀(i:Nat) (d:D),E[i]?=Gc (Gc d)->∃v,σ[i]?=Gc (Gc v)/\C7 K M H v d
noncomputable def jC(x:Str):Str:=(x++(".<locals>.":Str))++("<lambda>":Str)
def Xj(K:jz)(c P:j9):Prop:=
 ∃o vs file tf flags tg inF text tt,K.lookup c=Gc o/\o.cls=qc "code" /\o.data=wG vs/\vs[11]?=Gc (mH P)/\vs.getD 11 mI=mH P/\vs.getD 18 mI=uQ file tf/\vs.getD 7 mI=qb flags tg/\vs.getD 9 mI=wm inF/\vs.getD 10 mI=qb text tt/\c≠P
def TabAt(K:jz)(x:Str)(P:j9):Prop:=
 ∃f oc od fd osl c,zB K mainGlobals x=Gc (Gc (mH f))/\K.lookup f=Gc ⟨oc,od,Data.func fd,osl⟩/\fd.code=mH c/\Xj K c P
def Zb(q:Str)(o:Obj):Prop:=∃vs t,o.data=wG vs/\vs[1]?=Gc (uQ q t)
structure Vx(K:jz)(H:Hp)(x:Str)(P:j9)(ps:kj j4):Prop where
 tri:PySem.TriplesOk ps.toList
 tat:TabAt K x P
 cod:∀pos cv,PySem.codeAmong pos ps.toList=Gc cv->∃c o,cv=mH c/\H c=Gc (.frz o (.own 0))/\Zb (jC x) o
theorem Vx.step{x:Str}{P:j9}{ps:kj j4}{K:jz}{M M':Ms}{H H':Hp}(t:Vx K H x P ps)(g:Sp1 M H M' H'):Vx K H' x P ps:=⟨t.tri,t.tat,λpos cv e=>by
 obtain⟨c,o,h1,h2,h3⟩:=t.cod pos cv e
 refine⟨c,o,h1,g.keep _ _ h2 λz=>?_,h3⟩
 rcases g.mo c z with⟨ys,q⟩|⟨ys,q⟩|⟨ys,q⟩<;>(rw[h2]at q;cases q)⟩
def aZ(K:jz)(M:Ms)(H:Hp)(a:j9):Cl->Prop
 | .lst ds=>∃xs,H a=Gc (.lst xs)/\Am K M H xs ds
 | .dct es=>∃kvs,H a=Gc (.dK kvs)/\Bm K M H kvs es
 | .tab x=>∃ps,H a=Gc (.tbl ps)/\Vx K H x a ps
structure StR(K:jz)(M:Ms)(S:Sto)(H:Hp):Prop where
 mo:MOk M H
 nd:M.cel.Nodup
 nt:∀a∈M.tmp,a∉M.cel
 len:M.cel.length=S.length
 cell:∀(n:Nat) (a:j9) (c:Cl),M.cel[n]?=Gc a->S[n]?=Gc c->aZ K M H a c
section
variable{K:jz}{M M' M2:Ms}{H H' H2:Hp}{E:En}{σ:Sg}{S:Sto}
theorem EnR.step(r:EnR K M E σ H)(g:Sp1 M H M' H'):EnR K M' E σ H':=⟨r.len,λi d e=>by
 obtain⟨v,h1,h2⟩:=r.val i d e
 exact⟨v,h1,h2.step g⟩⟩
theorem StR.grow(r:StR K M S H)(k:∀a o,H a=Gc o->H' a=Gc o):StR K M S H':=by
 have g:Sp1 M H M H':=⟨r.mo,lT,λ_ z=>.inl z,λa o e _=>k a o e⟩
 refine⟨λa z=>(r.mo a z).imp (λ⟨xs,e⟩=>⟨xs,k _ _ e⟩) (Or.imp (λ⟨xs,e⟩=>⟨xs,k _ _ e⟩) λ⟨xs,e⟩=>⟨xs,k _ _ e⟩),r.nd,r.nt,r.len,λn a c h1 h2=>?_⟩
 have q:=r.cell n a c h1 h2
 cases c with
 |lst ds=>obtain⟨xs,e,rr⟩:=q;exact⟨xs,k _ _ e,rr.step g⟩
 |dct ds=>obtain⟨xs,e,rr⟩:=q;exact⟨xs,k _ _ e,rr.step g⟩
 |tab ds=>obtain⟨xs,e,rr⟩:=q;exact⟨xs,k _ _ e,rr.step g⟩
theorem StR.chg(r:StR K M S H){n:Nat}{a:j9}{ds es:Wp D}{ys:Wp V}(h1:M.cel[n]?=Gc a)(h2:S[n]?=Gc (.lst ds))(hy:Am K M H ys es):StR K M (S.set n (.lst es)) (upd H a (.lst ys))/\Gr M H M (upd H a (.lst ys)):=by
 have ha:a∈M.cel:=kW h1
 have hl:n<S.length:=(kK.mp h2).1
 have g:Gr M H M (upd H a (.lst ys)):=⟨r.mo,lT,rfl,λ_ z=>.inl z,λb o eb nb=>by rw[AV (λz=>nb (by rw[z];exact ha))];exact eb,λb eb=>by
  by_cases h:b=a
  .subst h;rw[As];intro z;cases z
  .rw[AV h];exact eb⟩
 refine⟨⟨λb z=>?_,r.nd,r.nt,by rw[nI];exact r.len,λm b c e1 e2=>?_⟩,g⟩
 .by_cases h:b=a
  .subst h;exact .inl ⟨ys,As⟩
  .rw[AV h];exact r.mo b z
 .by_cases h:n=m
  .subst h
   rw[h1]at e1;cases e1
   rw[kN hl]at e2;cases e2
   exact⟨ys,As,hy.step g.st⟩
  .rw[kB h]at e2
   have hb:b≠a:=λz=>by
    subst z
    exact h ((qR (kK.mp h1).1 r.nd).mp (h1.trans e1.symm))
   have q:=r.cell m b c e1 e2
   cases c with
   |lst fs=>obtain⟨xs,e,rr⟩:=q;exact⟨xs,by rw[AV hb];exact e,rr.step g.st⟩
   |dct fs=>obtain⟨xs,e,rr⟩:=q;exact⟨xs,by rw[AV hb];exact e,rr.step g.st⟩
   |tab fs=>obtain⟨xs,e,rr⟩:=q;exact⟨xs,by rw[AV hb];exact e,rr.step g.st⟩
theorem StR.X7(r:StR K M S H){a:j9}{xs:Wp V}{ds:Wp D}(e:H a=none)(k:∀b o,H b=Gc o->H' b=Gc o)(ea:H' a=Gc (.lst xs))(rr:Am K M H xs ds):StR K ⟨M.cel++[a],M.tmp⟩ (S++[.lst ds]) H'/\Gr M H ⟨M.cel++[a],M.tmp⟩ H':=by
 have g:Gr M H ⟨M.cel++[a],M.tmp⟩ H':=⟨r.mo,oj _ _,rfl,λb z=>by
  rcases kY.mp z with z|z
  .exact .inl z
  .simp at z;subst z;exact .inr e,λb o eb _=>k b o eb,λb eb z=>by
  cases h:H b with
  |none=>exact eb h
  |some o=>rw[k b o h]at z;cases z⟩
 have na:¬M.mem a:=λz=>r.mo.some z e
 refine⟨⟨λb z=>?_,?_,λb hb z=>?_,by simp[r.len],λm b c e1 e2=>?_⟩,g⟩
 .have z':M.mem b\/b=a:=by
   rcases z with z|z
   .rcases kY.mp z with z|z
    .exact .inl (.inl z)
    .simp at z;exact .inr z
   .exact .inl (.inr z)
  rcases z' with z|z
  .exact(r.mo b z).imp (λ⟨xs,e⟩=>⟨xs,k _ _ e⟩) (Or.imp (λ⟨xs,e⟩=>⟨xs,k _ _ e⟩) λ⟨xs,e⟩=>⟨xs,k _ _ e⟩)
  .subst z;exact .inl ⟨xs,ea⟩
 .rw[mG]
  refine⟨r.nd,by simp,λx hx y hy=>?_⟩
  simp at hy;subst hy
  exact λz=>na (.inl (by rw[<-z];exact hx))
 .rcases kY.mp z with z|z
  .exact r.nt b hb z
  .simp at z;subst z;exact na (.inr hb)
 .by_cases h:m<S.length
  .rw[j8 (by rw[r.len];exact h)]at e1
   rw[j8 h]at e2
   have q:=r.cell m b c e1 e2
   cases c with
   |lst fs=>obtain⟨xs,e,rr⟩:=q;exact⟨xs,k _ _ e,rr.step g.st⟩
   |dct fs=>obtain⟨xs,e,rr⟩:=q;exact⟨xs,k _ _ e,rr.step g.st⟩
   |tab fs=>obtain⟨xs,e,rr⟩:=q;exact⟨xs,k _ _ e,rr.step g.st⟩
  .have hm:m=S.length:=by
    have:=(kK.mp e2).1
    simp at this;lia
   subst hm
   rw[lG (by rw[r.len];exact kA _)]at e1
   rw[lG (kA _)]at e2
   rw[r.len]at e1
   simp at e1 e2
   subst e1 e2
   exact⟨xs,ea,rr.step g.st⟩
end
noncomputable def jN:j6 oS->lA
 |some .local=>true
 |some .cell=>true
 |some .free=>true
 |_=>false
noncomputable def fB(sc:m9)(x:Str):lA:=jN (sc.names.lookup x)
theorem aE{sc:m9}{x:Str}(h:fB sc x=true):Vis sc x:=by
 unfold fB at h
 unfold Vis
 cases e:sc.names.lookup x with
 |none=>rw[e]at h;cases h
 |some k=>
  rw[e]at h
  cases k<;>first|(cases h;done)|simp
abbrev Ev:=En->Sto->j6 (D×Sto)
noncomputable def tD(K:jz)(f:Ev):TE:=λσ H Q=>∃M E S d S',f E S=Gc (d,S')/\EnR K M E σ H/\StR K M S H/\∀v H' M',Gr M H M' H'->StR K M' S' H'->C7 K M' H' v d->Q v H'
structure DE(X:Cx)(e:ky)(f:Ev):Prop where
 pe:PE X e (tD X.K f)
theorem BW{X:Cx}{e:ky}{t t':TE}(h:PE X e t)(m:∀σ H Q,t' σ H Q->t σ H Q):PE X e t':=λpins s σ H Q I q=>h pins s σ H Q I (m _ _ _ q)
theorem QZ{X:Cx}{e:ky}{t t':TT}(h:PT X e t)(m:∀σ H Q,t' σ H Q->t σ H Q):PT X e t':=λpins s σ H Q I q=>h pins s σ H Q I (m _ _ _ q)
theorem HS{K:jz}{f:Ev}{σ:Sg}{H:Hp}{Q Q':VK}(h:tD K f σ H Q)(m:∀v H',Q v H'->Q' v H'):tD K f σ H Q':=by
 obtain⟨M,E,S,d,S',e,r,st,q⟩:=h
 exact⟨M,E,S,d,S',e,r,st,λv H' M' g s r=>m _ _ (q v H' M' g s r)⟩
theorem An{α β:Type}{o:j6 α}{k:α->j6 β}{y:β}(e:o.bind k=Gc y):∃x,o=Gc x/\k x=Gc y:=by
 cases o with
 |none=>cases e
 |some x=>exact⟨x,rfl,e⟩
theorem Ir{α β:Type}{o:j6 α}{k:α->β}{y:β}(e:o.map k=Gc y):∃x,o=Gc x/\k x=y:=by
 cases o with
 |none=>cases e
 |some x=>cases e;exact⟨x,rfl,rfl⟩
noncomputable def fz:Wv->D
 | .val d=>d
 | .own ds=>.lst ds
noncomputable def at?(E:En)(i:Nat):j6 D:=(E[i]?).join
theorem at?_some{E:En}{i:Nat}{w:D}(h:at? E i=Gc w):E[i]?=Gc (Gc w):=by
 unfold at? at h
 cases e:E[i]? with
 |none=>rw[e]at h;cases h
 |some q=>rw[e]at h;exact congrArg Gc h
noncomputable def evs:Wp Ev->En->Sto->j6 (Wp D×Sto)
 | [],_,S=>Gc ([],S)
 |f::fs,E,S=>(f E S).bind λr=>(evs fs E r.2).map λq=>(r.1::q.1,q.2)
noncomputable def tDs(K:jz):Wp Ev->TA
 | []=>gP
 |f::fs=>Zn (tD K f) (tDs K fs)
structure DEs(X:Cx)(es:Wp ky)(fs:Wp Ev):Prop where
 pe:PA X es (tDs X.K fs)
theorem AD{X:Cx}:DEs X [] []:=⟨Sw⟩
theorem AA{X:Cx}{e:ky}{es:Wp ky}{f:Ev}{fs:Wp Ev}(h:DE X e f)(t:DEs X es fs)(hs:kc (e::es) X.env=(false,eval e X.env)::kc es X.env:=by rfl):DEs X (e::es) (f::fs):=⟨MN h.pe t.pe hs⟩
section
variable{K:jz}{M M':Ms}{E:En}{S:Sto}{σ:Sg}{H H':Hp}
theorem G8:∀{fs:Wp Ev} {M:Ms} {S:Sto} {ds:Wp D} {S':Sto} {H:Hp} {Q:Wp V->Hp->Prop},evs fs E S=Gc (ds,S')->EnR K M E σ H->StR K M S H->(∀vs H' M',Gr M H M' H'->StR K M' S' H'->Am K M' H' vs ds->Q vs H')->tDs K fs σ H Q
 | [],M,S,ds,S',H,Q,e,r,st,q=>by
   cases e
   exact q [] H M (.refl st.mo) st .nil
 |f::fs,M,S,ds,S',H,Q,e,r,st,q=>by
  obtain⟨⟨d,S1⟩,e1,e⟩:=An e
  obtain⟨⟨es,S2⟩,e2,e⟩:=Ir e
  cases e
  refine⟨M,E,S,d,S1,e1,r,st,λv H1 M1 g1 st1 d1=>?_⟩
  exact G8 e2 (r.step g1.st) st1 λvs H2 M2 g2 st2 d2=>q _ _ M2 (g1.trans g2) st2 (.cons (d1.step g2.st) d2)
theorem Ot:∀{fs:Wp Ev} {S:Sto} {ds:Wp D} {S':Sto},evs fs E S=Gc (ds,S')->ds.length=fs.length
 | [],_,_,_,e=>by cases e;rfl
 |f::fs,S,ds,S',e=>by
  obtain⟨⟨d,S1⟩,e1,e⟩:=An e
  obtain⟨⟨es,S2⟩,e2,e⟩:=Ir e
  cases e
  simp[Ot e2]
def Sh(K:jz)(M:Ms)(H:Hp)(v:V):Wv->Prop
 | .val d=>C7 K M H v d
 | .own ds=>∃a xs,v=.ref a/\H a=Gc (.lst xs)/\Am K M H xs ds
inductive Shs(K:jz)(M:Ms)(H:Hp):Wp V->Wp Wv->Prop
 |nil:Shs K M H [] []
 |cons {v:V} {w:Wv} {vs:Wp V} {ws:Wp Wv} (h:Sh K M H v w) (t:Shs K M H vs ws):Shs K M H (v::vs) (w::ws)
noncomputable def dr(S:Sto):D->Wv
 | .ref n=>match S[n]? with
   |some (.lst ds)=>.own ds
   |_=>.val (.ref n)
 |d=>.val d
theorem Yk(st:StR K M S H){v:V}{d:D}(h:C7 K M H v d):Sh K M H v (dr S d):=by
 cases h with
 |ref h=>
  rename_i a n
  show Sh K M H (.ref a) (match S[n]? with|some (.lst ds)=>.own ds|_=>.val (.ref n))
  split
  .rename_i ds e
   obtain⟨xs,h1,h2⟩:=st.cell n a _ h e
   exact⟨a,xs,rfl,h1,h2⟩
  .exact .ref h
 |non=>exact .non
 |bl b=>exact .bl b
 |int b=>exact .int b
 |str b=>exact .str b
 |ty b=>exact .ty b
 |tup h r=>exact .tup h r
 |lst h n r=>exact .lst h n r
 |scr h=>exact .scr h
 |dct h n r=>exact .dct h n r
theorem WR(st:StR K M S H):∀{vs:Wp V} {ds:Wp D},Am K M H vs ds->Shs K M H vs (ds.map (dr S))
 |_,_,.nil=>.nil
 |_,_,.cons h t=>.cons (Yk st h) (WR st t)
def NwR(K:jz)(M:Ms)(H H':Hp)(v:V):Wv->Prop
 | .val d=>C7 K M H' v d
 | .own ds=>∃a xs,v=.ref a/\H a=none/\H' a=Gc (.lst xs)/\Am K M H xs ds
structure Nw(K:jz)(M:Ms)(H H':Hp)(v:V)(w:Wv):Prop where
 grow:∀a o,H a=Gc o->H' a=Gc o
 rel:NwR K M H H' v w
theorem Nw.same{v:V}{d:D}(mo:MOk M H)(h:C7 K M H v d):Nw K M H H v (.val d):=⟨λ_ _ e=>e,h⟩
theorem FF{a:j9}{o:HO}(e:H a=none):∀b u,H b=Gc u->upd H a o b=Gc u:=λb u eb=>by rw[AV (λz=>by subst z;rw[e]at eb;cases eb)];exact eb
theorem Nw.lst{a:j9}{xs:Wp V}{ds:Wp D}(mo:MOk M H)(e:H a=none)(h:Am K M H xs ds):Nw K M H (upd H a (.lst xs)) (.ref a) (.own ds):=⟨FF e,a,xs,rfl,e,As,h⟩
theorem Nw.tup{a:j9}{xs:Wp V}{ds:Wp D}(mo:MOk M H)(e:H a=none)(h:Am K M H xs ds):Nw K M H (upd H a (.tup xs)) (.ref a) (.val (.tup ds)):=⟨FF e,.tup (.of As) (h.step (Gr.grow mo (FF e)).st)⟩
noncomputable def fin:lA->Wv->Sto->j6 (D×Sto)
 |_,.val d,S=>Gc (d,S)
 |false,.own ds,S=>Gc (.lst ds,S)
 |true,.own ds,S=>Gc (.ref S.length,S++[.lst ds])
theorem Nw.fin{c:lA}{v:V}{w:Wv}{d:D}{S':Sto}(n:Nw K M H H' v w)(st:StR K M S H)(e:fin c w S=Gc (d,S')):∃M',Gr M H M' H'/\StR K M' S' H'/\C7 K M' H' v d:=by
 cases w with
 |val d'=>
  cases e
  exact⟨M,.grow st.mo n.grow,st.grow n.grow,n.rel⟩
 |own ds=>
  obtain⟨a,xs,rfl,h1,h2,h3⟩:=n.rel
  cases c with
  |false=>
   cases e
   exact⟨M,.grow st.mo n.grow,st.grow n.grow,.lst h2 (λz=>st.mo.some z h1) (h3.step (Gr.grow st.mo n.grow).st)⟩
  |true=>
   cases e
   obtain⟨s1,g1⟩:=st.X7 h1 n.grow h2 h3
   refine⟨_,g1,s1,.ref ?_⟩
   rw[<-st.len]
   exact kR
abbrev Op1:=Wv->j6 Wv
abbrev Op2:=Wv->Wv->j6 Wv
abbrev OpN:=Wp Wv->j6 Wv
noncomputable def rOp(K:jz)(op:Op2):R2:=λx y H Q=>∃M w1 w2 r,op w1 w2=Gc r/\MOk M H/\Sh K M H x w1/\Sh K M H y w2/\∀v H',Nw K M H H' v r->Q v H'
def rUn(K:jz)(op:Op1):V->Hp->VK->Prop:=λx H Q=>∃M w r,op w=Gc r/\MOk M H/\Sh K M H x w/\∀v H',Nw K M H H' v r->Q v H'
def rN(K:jz)(op:OpN):Wp V->Hp->VK->Prop:=λxs H Q=>∃M ws r,op ws=Gc r/\MOk M H/\Shs K M H xs ws/\∀v H',Nw K M H H' v r->Q v H'
noncomputable def Mc(c:lA)(op:OpN)(fs:Wp Ev):Ev:=λE S=>(evs fs E S).bind λr=>(op (r.1.map (dr r.2))).bind λw=>fin c w r.2
abbrev eOp:=Mc false
abbrev ZO:=Mc true
noncomputable def o1(op:Op1):OpN| [a]=>op a|_=>none
noncomputable def o2(op:Op2):OpN| [a,b]=>op a b|_=>none
theorem KN{c:lA}{op:OpN}{fs:Wp Ev}{Q:VK}{d:D}{S':Sto}(e:Mc c op fs E S=Gc (d,S'))(r:EnR K M E σ H)(st:StR K M S H)(h:∀v H' M',Gr M H M' H'->StR K M' S' H'->C7 K M' H' v d->Q v H'):tDs K fs σ H λvs H1=>rN K op vs H1 Q:=by
 obtain⟨⟨ds,S1⟩,e1,e⟩:=An e
 obtain⟨w,e2,e⟩:=An e
 refine G8 e1 r st λvs H1 M1 g1 st1 d1=>⟨M1,_,w,e2,st1.mo,WR st1 d1,λv H2 n=>?_⟩
 obtain⟨M2,g2,st2,d2⟩:=n.fin st1 e
 exact h v H2 M2 (g1.trans g2) st2 d2
end
theorem bM{K:jz}{f:Op2}{x y:V}{H:Hp}{Q:VK}(h:rN K (o2 f) [x,y] H Q):rOp K f x y H Q:=by
 obtain⟨M,ws,r,e,mo,s,q⟩:=h
 cases s with
 |cons h1 s=>
  cases s with
  |cons h2 s=>
   cases s
   exact⟨M,_,_,r,e,mo,h1,h2,q⟩
theorem bV{K:jz}{f:Op1}{x:V}{H:Hp}{Q:VK}(h:rN K (o1 f) [x] H Q):rUn K f x H Q:=by
 obtain⟨M,ws,r,e,mo,s,q⟩:=h
 cases s with
 |cons h1 s=>
  cases s
  exact⟨M,_,r,e,mo,h1,q⟩
theorem PU{K:jz}{c:lA}{f:Op2}{fa fb:Ev}{σ:Sg}{H:Hp}{Q:VK}(h:tD K (Mc c (o2 f) [fa,fb]) σ H Q):tOp (rOp K f) (tD K fa) (tD K fb) σ H Q:=by
 obtain⟨M,E,S,d,S',e,r,st,q⟩:=h
 have z:tD K fa σ H λx H1=>tD K fb σ H1 λy H2=>rN K (o2 f) [x,y] H2 Q:=KN (Q:=Q) e r st q
 exact HS z λx H1 z1=>HS z1 λy H2 z2=>bM z2
theorem aI{K:jz}{c:lA}{f:Op1}{fa:Ev}{σ:Sg}{H:Hp}{Q:VK}(h:tD K (Mc c (o1 f) [fa]) σ H Q):tUn (rUn K f) (tD K fa) σ H Q:=by
 obtain⟨M,E,S,d,S',e,r,st,q⟩:=h
 have z:tD K fa σ H λx H1=>rN K (o1 f) [x] H1 Q:=KN (Q:=Q) e r st q
 exact HS z λx H1 z1=>bV z1
section
variable{X:Cx}{a b e:ky}{es:Wp ky}{fa fb:Ev}{fs:Wp Ev}{pos p:Pos}{c:lA}
theorem Ai{op:Operator}{f:Op2}(ho:OpR X (binaryOp op) (rOp X.K f))(ha:DE X a fa)(hb:DE X b fb):DE X (.BinOp a op b pos) (Mc c (o2 f) [fa,fb]):=⟨BW (dy ho ha.pe hb.pe) λ_ _ _ h=>PU h⟩
theorem Hr{op:CmpOp}{f:Op2}(ho:OpR X (compareOp op) (rOp X.K f))(ha:DE X a fa)(hb:DE X b fb)(hm:behindInMarks op b=false:=by rfl):DE X (.Compare a [op] [b] pos) (Mc c (o2 f) [fa,fb]):=⟨BW (Y5 ho ha.pe hb.pe hm) λ_ _ _ h=>PU h⟩
theorem Vf{op:UnaryOp}{f:Op1}(ho:UnR X (unaryOp op) (rUn X.K f))(ha:DE X a fa):DE X (.UnaryOp op a pos) (Mc c (o1 f) [fa]):=⟨BW (eJ ho ha.pe) λ_ _ _ h=>aI h⟩
theorem AM{f:Op2}(hr:IxR X (rOp X.K f))(ha:DE X a fa)(hb:DE X b fb)(hs:RZ b:=by exact λ_ _=>rfl):DE X (.Subscript a b pos) (Mc c (o2 f) [fa,fb]):=⟨BW (fD hr ha.pe hb.pe hs) λ_ _ _ h=>PU h⟩
theorem BH{id:pE}{x:Str}{f:OpN}(hc:Ep X (.builtin id) (rN X.K f))(hg:Gl X x)(hm:X.mg x=none)(hv:bootBuiltins x=Gc (.builtin id))(ha:DEs X (e::es) fs)(hn:x≠ "__name__":=by decide)(hdb:(x==("__debug__":Str))=false:=by decide)(he:kc (e::es) X.env=(false,eval e X.env)::kc es X.env:=by rfl)(hpl:(backTo pos (kc es X.env)).any (·.1)=false:=by rfl):DE X (.Call (.Name x p) (e::es) [] pos) (Mc c f fs):=⟨
 BW (UA hc hg hm hv ha.pe hn hdb he hpl) λ_ _ _ h=>by
  obtain⟨M,E,S,d,S',e,r,st,q⟩:=h
  exact KN e r st q⟩
theorem BA{T:pE}{x:Str}{f:OpN}(hc:Ep X (.type T) (rN X.K f))(hg:Gl X x)(hm:X.mg x=none)(hv:bootBuiltins x=Gc (.type T))(ha:DEs X (e::es) fs)(hn:x≠ "__name__":=by decide)(hdb:(x==("__debug__":Str))=false:=by decide)(he:kc (e::es) X.env=(false,eval e X.env)::kc es X.env:=by rfl)(hpl:(backTo pos (kc es X.env)).any (·.1)=false:=by rfl):DE X (.Call (.Name x p) (e::es) [] pos) (Mc c f fs):=⟨
 BW (N1 hc hg hm hv ha.pe hn hdb he hpl) λ_ _ _ h=>by
  obtain⟨M,E,S,d,S',e,r,st,q⟩:=h
  exact KN e r st q⟩
noncomputable def eC(d:D):Ev:=λ_ S=>Gc (d,S)
theorem PJ{v:V}{d:D}(h:PE X e (tC v))(r:∀K M H,C7 K M H v d):DE X e (eC d):=⟨BW h λσ H Q z=>by
 obtain⟨M,E,S,w,S',e,rr,st,q⟩:=z
 cases e
 exact q _ _ M (.refl st.mo) st (r _ _ _)⟩
theorem AE{i:Int}{j:Nat}:DE X (.Constant (.int i) j pos) (eC (.int i)):=PJ bX λ_ _ _=>.int _
theorem QI{i:lA}{j:Nat}:DE X (.Constant (.bool i) j pos) (eC (.bl i)):=PJ fE λ_ _ _=>.bl _
theorem BM{i:Str}{j:Nat}:DE X (.Constant (.str i) j pos) (eC (.str i)):=PJ ag λ_ _ _=>.str _
theorem Gk{j:Nat}:DE X (.Constant .none j pos) (eC .non):=PJ Ze λ_ _ _=>.non
noncomputable def eV(i:Nat):Ev:=λE S=>(at? E i).map λd=>(d,S)
theorem AB(i:Nat){x:Str}(hN:X.N[i]?=Gc x:=by rfl)(hv:fB X.env.scope x=true:=by rfl)(hd:(x==("__debug__":Str))=false:=by decide)(hcd:(x==("__classdict__":Str))=false:=by decide):DE X (.Name x pos) (eV i):=⟨BW (XM hN (aE hv) hd hcd) λσ H Q z=>by
 obtain⟨M,E,S,d,S',e,r,st,q⟩:=z
 obtain⟨d',e1,e⟩:=Ir e
 cases e
 obtain⟨v,hv,rd⟩:=r.val i d (at?_some e1)
 exact⟨v,hv,q v H M (.refl st.mo) st rd⟩⟩
end
theorem GJ:fillsNumberSlot (.type "tuple") "mul"=pure false:=
 fillsNumberSlot_seq (id:="tuple.__mul__") (r:=Gc (.builtin "tuple.__rmul__")) qh.lookup (by decide+kernel) vT.lookup (by decide+kernel)
theorem JO:seqRepeat? (.type "tuple")=pure (Gc (.builtin "tuple.__mul__")):=by
 unfold seqRepeat?
 rw[seqSlot_of (T:="tuple") (name:="__mul__") (id:="tuple.__mul__") qh.lookup (by decide+kernel),seqSlot_of (T:="tuple") (name:="__rmul__") (id:="tuple.__rmul__") vT.lookup (by decide+kernel)]
 rfl
theorem HE(a:Int)(t:Tok)(l:j9)(items:kj j4)(n:Nat)(dd:j6 j9)(sl:kj (j6 j4)):Meets (mw.«int.__rmul__» ⟨[.int a t,.ref l],[]⟩) (λ_ R s=>s.heap.get? l=Gc {cls:=.type "tuple",dict:=dd,data:=.seq items n,slots:=sl}/\R (.ok (.ret Value.notImplemented)) s):=
 .of_wp λprog w A R s h=>by obtain⟨hp,g,d,tk,os⟩:=s;obtain⟨hl,h⟩:=h;wp_walk;exact⟨_,rfl,h⟩
theorem SW(its:Wp j4)(m:Nat):ur (λx1 x2=>x1++x2) #[] (kZ m its.toArray)=(kZ m its).flatten.toArray:=by
 have:=foldl_rep its m []
 rw[kr]at this
 exact this
theorem Ys{X:Cx}:OpR X (binaryOp .Mult) (λx y H Q=>∃a xs k,x=.ref a/\y=.int k/\SqT X.K H a xs/\xs≠[]/\1<=k/\xs.length*k.toNat<=sizeLine/\(k=1->Q (.ref a) H)/\(k≠1->∀p,H p=none->Q (.ref p) (upd H p (.tup (kZ k.toNat xs).flatten)))):=by
 intro pins s σ H x y v u Q I rx ry h
 obtain⟨a,xs,k,rfl,rfl,hx,hne,hk,hz,q1,q2⟩:=h
 cases rx
 obtain⟨t,rfl⟩:=ry
 obtain⟨its,r,⟨⟨c,dd,data,sl⟩,ho,hc,n,hd⟩,hzz⟩:=I.tuple hx
 simp only at hc hd
 subst hc hd
 have hl:=r.length
 have hsz:its.toArray.size=xs.length:=by rw[kM];exact hl.symm
 have hpos:0<xs.length:=uX.mpr hne
 have hkl:k.toNat<=sizeLine:=kF (Nat.le_mul_of_pos_left _ hpos) hz
 have hk63:k<2^63:=by
  have:(sizeLine:Nat)<2^63:=by decide
  lia
 refine pV (T:="tuple") (U:="int") (by decide) ⟨_,ho,rfl⟩ (λs'=>qf s' k t) GJ tS oy JO sU.lookup
  (qg oy (qf s k t) sV (rh _ _) (HE k t a its.toArray n dd sl) ⟨ho,rfl,⟨_,ho,rfl⟩,?_⟩)
 refine lL qh ⟨_,ho,rfl⟩ vU ?_ (uw _ _)
 unfold mw.«tuple.__mul__»
 wp_walk using kf ho
 rw[ko (show¬(decide (k< -2^63)||decide (k≥2^63))=true by
  rw[mM]
  rintro (z|z)
  .have:=kO z;lia
  .have:=kO z;lia)]
 wp_walk using kf ho
 by_cases h1:k=1
 .subst h1
  rw[kh (show(its.toArray.isEmpty||(1:Int)==1)=true by simp)]
  wp_walk using kf ho
  exact⟨_,rfl,.ref a,H,I,rfl,q1 rfl⟩
 .have hemp:its.toArray.isEmpty=false:=by
   cases its with
   |nil=>rw[qC]at hl;lia
   |cons b bs=>rfl
  rw[ko (show¬(its.toArray.isEmpty||k==1)=true by rw[hemp];simpa using h1)]
  wp_walk using kf ho
  have hmul:((its.toArray.size:Int)*k)=((xs.length*k.toNat:Nat):Int):=by
   rw[hsz,tV]
   congr 1
   lia
  rw[ko (show¬(decide (k<=0)||its.toArray.isEmpty)=true by
   rw[hemp,Bool.or_false]
   intro z
   have:=kO z
   lia)]
  wp_walk
  rw[ko (show¬((its.toArray.size:Int)*k>(2^63-1) / 8) by
   rw[hmul]
   have:(sizeLine:Nat)<=(2^63-1) / 8:=by decide
   lia)]
  wp_walk
  rw[ko (show¬rL ((its.toArray.size:Int)*k)=true by
   unfold rL
   rw[hmul]
   intro z
   have:=kO z
   lia)]
  rw[SW]
  wp_walk
  have hlen:(kZ k.toNat its).flatten.length<=sizeLine:=by rw[len_rep,og,<-hl];exact hz
  rw[ko (show¬((kZ k.toNat its).flatten.toArray.size>sizeLine) by rw[kM];lia)]
  wp_walk
  refine⟨_,rfl,.ref _,_,I.laid (o:=.tup (kZ k.toNat xs).flatten) (t':=s.toks) (λb ob q=>j0 _ q) (kA _) ?_,rfl,q2 h1 _ (I.hok.fresh (kA _))⟩
  exact⟨by rw[len_rep,og];exact hz,_,r.rep k.toNat,pX _ _⟩
mutual
noncomputable def D.py:D->PyData
 | .non=>.none| .bl b=>.bool b| .int i=>.int i| .str x=>.str x| .ty _=>.none
 | .tup ds=>.tuple (D.pys ds)| .lst ds=>.list (D.pys ds)| .dct _=>.none| .scr _=>.none| .ref _=>.none
noncomputable def D.pys:Wp D->Wp PyData
 | []=>[]
 |d::ds=>D.py d::D.pys ds
end
mutual
noncomputable def D.lay:D->lA
 | .non=>true| .bl _=>true| .int _=>true| .str x=>mT x| .ty _=>false| .dct _=>false| .scr _=>false| .ref _=>false
 | .tup ds=>D.Ln ds| .lst ds=>D.Ln ds
noncomputable def D.Ln:Wp D->lA
 | []=>true
 |d::ds=>D.lay d && D.Ln ds
end
mutual
theorem Iq:∀{d:D},d.lay=true->d.py.canLay0=true
 | .non,_=>rfl
 | .bl _,_=>rfl
 | .int _,_=>rfl
 | .str x,h=>h
 | .ty _,h=>mU h
 | .dct _,h=>mU h
 | .scr _,h=>mU h
 | .ref _,h=>mU h
 | .tup ds,h=>by show qS (D.pys ds)=true;exact ND h
 | .lst ds,h=>by show qS (D.pys ds)=true;exact ND h
theorem ND:∀{ds:Wp D},D.Ln ds=true->qS (D.pys ds)=true
 | [],_=>rfl
 |d::ds,h=>by
  have h':(D.lay d && D.Ln ds)=true:=h
  rw[kQ]at h'
  show(PyData.canLay0 d.py && qS (D.pys ds))=true
  rw[Iq h'.1,ND h'.2];rfl
end
section
variable{X:Cx}{pins:Wp (j9×Obj)}{σ:Sg}{H:Hp}{s:j5}{M:Ms}
theorem Kv(I:Inv X pins σ H s){a:j9}{xs:Wp V}(h:Rd H a (.lst xs)):∃its:Wp j4,Vals xs its/\∃o n,s.heap.get? a=Gc o/\o.cls=.type "list" /\o.data=.seq its.toArray n:=by
 obtain⟨z,its,n,r,e⟩:=h.ok I.hok
 exact⟨its,r,_,n,e,rfl,rfl⟩
theorem C7.reads(I:Inv X pins σ H s){v:V}{d:D}(h:C7 X.K M H v d):∀{u:j4},RelV v u->d.lay=true->∃as,Reads s.heap u d.py as:=
 C7.rec (motive_1:=λv d _=>∀{u:j4},RelV v u->d.lay=true->∃as,Reads s.heap u d.py as) (motive_2:=λvs ds _=>∀{us:Wp j4},Vals vs us->D.Ln ds=true->∃as,ReadsAll s.heap us (D.pys ds) as) (motive_3:=λ_ _ _=>uU)
  (λr _=>by cases r;exact⟨_,.none⟩) (λb _ r _=>by cases r;exact⟨_,.bool b⟩) (λb _ r _=>by obtain⟨t,rfl⟩:=r;exact⟨_,.int b t⟩) (λb _ r _=>by obtain⟨t,rfl⟩:=r;exact⟨_,.str b t⟩) (λ_ _ _ h=>mU h)
  (fun h _ ih _ r hl => by
    cases r
    obtain⟨its,rv,⟨o,e,hc,n,hd⟩,_⟩:=I.tuple h
    obtain⟨as,ra⟩:=ih rv hl
    exact⟨as,.tuple e hc hd ra⟩)
  (fun h _ _ ih _ r hl => by
    cases r
    obtain⟨its,rv,o,n,e,hc,hd⟩:=Kv I (.inl h)
    obtain⟨as,ra⟩:=ih rv hl
    exact⟨_,.list e hc hd ra⟩)
  (λ_ _ _ h=>mU h) (λ_ _ _ _ _ _ h=>mU h) (λ_ _ _ h=>mU h)
  (fun r _ => by cases r; exact ⟨_, .nil⟩) (fun {v d vs ds} _ _ ih1 ih2 _ r hl => by
    cases r with
    |cons r1 r2=>
     have hl':(D.lay d && D.Ln ds)=true:=hl
     rw[kQ]at hl'
     obtain⟨as,ra⟩:=ih1 r1 hl'.1
     obtain⟨bs,rb⟩:=ih2 r2 hl'.2
     exact⟨_,.cons ra rb⟩) trivial (λ_ _ _ _=>trivial) h
theorem Am.reads(I:Inv X pins σ H s){vs:Wp V}{ds:Wp D}(h:Am X.K M H vs ds):∀{us:Wp j4},Vals vs us->D.Ln ds=true->∃as,ReadsAll s.heap us (D.pys ds) as:=
 h.ind (P:=λvs ds=>∀{us:Wp j4},Vals vs us->D.Ln ds=true->∃as,ReadsAll s.heap us (D.pys ds) as) (λr _=>by cases r;exact⟨_,.nil⟩) (λ{v d vs ds} h ih2 _ r hl=>by
  cases r with
  |cons r1 r2=>
   have hl':(D.lay d && D.Ln ds)=true:=hl
   rw[kQ]at hl'
   obtain⟨as,ra⟩:=h.reads I r1 hl'.1
   obtain⟨bs,rb⟩:=ih2 r2 hl'.2
   exact⟨_,.cons ra rb⟩)
end
noncomputable def deq(a b:D):lA:=PyData.eqv a.py b.py
noncomputable def Dj(a b:D):lA:=a.lay && b.lay && decide (min a.py.depth b.py.depth<=60)
noncomputable def wEq:Op2:=λa b=>if Dj (fz a) (fz b)=true then Gc (.val (.bl (deq (fz a) (fz b))))else none
noncomputable def wNe:Op2:=λa b=>if Dj (fz a) (fz b)=true then Gc (.val (.bl (!deq (fz a) (fz b))))else none
section
variable{X:Cx}
theorem Sh.reads{pins:Wp (j9×Obj)}{σ:Sg}{H:Hp}{s:j5}{M:Ms}{v:V}{u:j4}{w:Wv}(h:Sh X.K M H v w)(I:Inv X pins σ H s)(r:RelV v u)(hl:(fz w).lay=true):∃as,Reads s.heap u (fz w).py as:=by
 cases w with
 |val d=>exact C7.reads I h r hl
 |own ds=>
  obtain⟨a,xs,rfl,h1,h2⟩:=h
  cases r
  obtain⟨its,rv,o,n,e,hc,hd⟩:=Kv I (.inl h1)
  obtain⟨as,ra⟩:=Am.reads I h2 rv hl
  exact⟨_,.list e hc hd ra⟩
theorem B2(hu:X.A.units+100<cLine):OpR X (compareOp .Eq) (rOp X.K wEq):=by
 intro pins s σ H x y v u Q I rx ry h
 obtain⟨M,w1,w2,r,e,mo,s1,s2,q⟩:=h
 unfold wEq at e
 split at e
 .rename_i hk
  unfold Dj at hk
  rw[kQ,kQ]at hk
  cases e
  obtain⟨as,ra⟩:=s1.reads I rx hk.1.1
  obtain⟨bs,rb⟩:=s2.reads I ry hk.1.2
  have hd:=kO hk.2
  exact SeqAt.compareEq_reads ra rb (Iq hk.1.1) (Iq hk.1.2) (by omega) ⟨.bl _,H,I,rfl,q _ _ (.same mo (.bl _))⟩
 .cases e
theorem FE(hu:X.A.units+100<cLine):OpR X (compareOp .NotEq) (rOp X.K wNe):=by
 intro pins s σ H x y v u Q I rx ry h
 obtain⟨M,w1,w2,r,e,mo,s1,s2,q⟩:=h
 unfold wNe at e
 split at e
 .rename_i hk
  unfold Dj at hk
  rw[kQ,kQ]at hk
  cases e
  obtain⟨as,ra⟩:=s1.reads I rx hk.1.1
  obtain⟨bs,rb⟩:=s2.reads I ry hk.1.2
  have hd:=kO hk.2
  exact SeqAt.compareNe_reads ra rb (Iq hk.1.1) (Iq hk.1.2) (by omega) ⟨.bl _,H,I,rfl,q _ _ (.same mo (.bl _))⟩
 .cases e
noncomputable def wI2(f:Int->Int->j6 D):Op2
 | .val (.int i),.val (.int j)=>(f i j).map .val
 |_,_=>none
theorem O1{g:j4->j4->Sem j4}{C:Int->Int->Prop}{h:Int->Int->V}{f:Int->Int->j6 D}(o:OpR X g (rI C h))(hf:∀i j d,f i j=Gc d->C i j/\∀K M H,C7 K M H (h i j) d):OpR X g (rOp X.K (wI2 f)):=by
 intro pins s σ H x y v u Q I rx ry hh
 obtain⟨M,w1,w2,r,e,mo,s1,s2,q⟩:=hh
 unfold wI2 at e
 split at e
 .cases s1
  cases s2
  rename_i i j
  cases e1:f i j with
  |none=>rw[e1]at e;cases e
  |some d=>
   rw[e1]at e
   cases e
   obtain⟨c,rd⟩:=hf i j d e1
   exact o pins s σ H _ _ v u Q I rx ry ⟨i,j,rfl,rfl,c,q _ _ (.same mo (rd _ _ _))⟩
 .cases e
theorem MO{g:j4->j4->Sem j4}{h:Int->Int->V}{f:Int->Int->j6 D}(o:OpR X g (rI0 h))(hf:∀i j d,f i j=Gc d->∀K M H,C7 K M H (h i j) d):OpR X g (rOp X.K (wI2 f)):=by
 intro pins s σ H x y v u Q I rx ry hh
 obtain⟨M,w1,w2,r,e,mo,s1,s2,q⟩:=hh
 unfold wI2 at e
 split at e
 .cases s1
  cases s2
  rename_i i j
  cases e1:f i j with
  |none=>rw[e1]at e;cases e
  |some d=>
   rw[e1]at e
   cases e
   exact o pins s σ H _ _ v u Q I rx ry ⟨i,j,rfl,rfl,q _ _ (.same mo (hf i j d e1 _ _ _))⟩
 .cases e
noncomputable def NS:Op2:=wI2 λi j=>Gc (.int (i-j))
noncomputable def Wh:Nat:=2^60000
noncomputable def Gj:Nat:=2^8000
noncomputable def ER(i j:Int):lA:=decide (i.natAbs<2^64)||(decide (j.natAbs<2^64)||(decide (i.natAbs<Wh) && decide (j.natAbs<Wh)))
theorem Xn:OpR X (binaryOp .Mult) (rI (λi j=>ER i j=true) λi j=>.int (i*j)):=by
 intro pins s σ H x y v u Q I rx ry h
 obtain⟨i,j,rfl,rfl,hk,q⟩:=h
 unfold ER at hk
 rw[mM,mM,kQ]at hk
 rcases hk with hk|hk|hk
 .have:=kO hk
  exact Wi pins s σ H _ _ v u Q I rx ry ⟨i,j,rfl,rfl,.inl ⟨by omega,by omega⟩,q⟩
 .have:=kO hk
  exact Wi pins s σ H _ _ v u Q I rx ry ⟨i,j,rfl,rfl,.inr ⟨by omega,by omega⟩,q⟩
 .have h1:i.natAbs<2^60000:=kO hk.1
  have h2:j.natAbs<2^60000:=kO hk.2
  obtain⟨t1,rfl⟩:=rx
  obtain⟨t2,rfl⟩:=ry
  exact xc ⟨.int _,H,I.tok _,⟨_,rfl⟩,q⟩ (xJ (m:=60000) (n:=60000) (uG.mpr h1) (uG.mpr h2) (by decide))
noncomputable def af:Op2:=wI2 λi j=>if ER i j=true then Gc (.int (i*j))else none
noncomputable def OJ:Op2:=wI2 λi j=>if(decide (0<j) && decide (j.natAbs<Gj))=true then Gc (.int (i / j))else none
noncomputable def OG:Op2:=wI2 λi j=>if 0<j then Gc (.int (i % j))else none
noncomputable def cE:Op2:=wI2 λi j=>if(decide (0<=j) && decide (j<=1000) && decide (i.natAbs<2^64))=true then Gc (.int (i^j.toNat))else none
noncomputable def wLt:Op2:=wI2 λi j=>Gc (.bl (decide (i<j)))
noncomputable def wGt:Op2:=wI2 λi j=>Gc (.bl (decide (j<i)))
noncomputable def wGe:Op2:=wI2 λi j=>Gc (.bl (decide (j<=i)))
theorem FZ:OpR X (binaryOp .Sub) (rOp X.K NS):=MO aJ λi j d e K M H=>by cases e;exact .int _
theorem Xd:OpR X (binaryOp .Mult) (rOp X.K af):=O1 Xn λi j d e=>by
 split at e
 .rename_i hk
  cases e
  exact⟨hk,λ_ _ _=>.int _⟩
 .cases e
theorem IV:OpR X (binaryOp .FloorDiv) (rOp X.K OJ):=O1 St.VF λi j d e=>by
 split at e
 .rename_i hk
  rw[kQ]at hk
  cases e
  exact⟨⟨kO hk.1,kO hk.2⟩,λ_ _ _=>.int _⟩
 .cases e
theorem FX:OpR X (binaryOp .Mod) (rOp X.K OG):=O1 Zu λi j d e=>by
 split at e
 .rename_i hk
  cases e
  exact⟨hk,λ_ _ _=>.int _⟩
 .cases e
theorem RE:OpR X (binaryOp .Pow) (rOp X.K cE):=O1 aX λi j d e=>by
 split at e
 .rename_i hk
  rw[kQ,kQ]at hk
  cases e
  have:=kO hk.1.2
  exact⟨⟨kO hk.1.1,by omega,kO hk.2⟩,λ_ _ _=>.int _⟩
 .cases e
theorem LR:OpR X (compareOp .Lt) (rOp X.K wLt):=MO eR λi j d e K M H=>by cases e;exact .bl _
theorem Kr:OpR X (compareOp .Gt) (rOp X.K wGt):=MO fQ λi j d e K M H=>by cases e;exact .bl _
theorem WM:OpR X (compareOp .GtE) (rOp X.K wGe):=MO eX λi j d e K M H=>by cases e;exact .bl _
noncomputable def asL:Wv->j6 (Wp D)
 | .own ds=>Gc ds
 | .val (.lst ds)=>Gc ds
 |_=>none
noncomputable def asT:Wv->j6 (Wp D)
 | .val (.tup ds)=>Gc ds
 |_=>none
noncomputable def asC:Wv->j6 (Wp D)
 | .val (.scr ns)=>Gc (ns.map .int)
 |_=>none
noncomputable def asS(w:Wv):j6 (Wp D):=(asL w).or ((asT w).or (asC w))
section
variable{K:jz}{M:Ms}{H:Hp}{v:V}{w:Wv}{ds:Wp D}
theorem Sh.l(h:Sh K M H v w)(e:asL w=Gc ds):∃a xs,v=.ref a/\H a=Gc (.lst xs)/\Am K M H xs ds:=by
 cases w with
 |own es=>cases e;obtain⟨a,xs,rfl,h1,h2⟩:=h;exact⟨a,xs,rfl,h1,h2⟩
 |val d=>
  cases d<;>first|(cases e;done)|skip
  cases e
  cases h with
  |lst h n r=>exact⟨_,_,rfl,h,r⟩
theorem Sh.t(h:Sh K M H v w)(e:asT w=Gc ds):∃a xs,v=.ref a/\SqT K H a xs/\Am K M H xs ds:=by
 cases w with
 |own es=>cases e
 |val d=>
  cases d<;>first|(cases e;done)|skip
  cases e
  cases h with
  |tup h r=>exact⟨_,_,rfl,h,r⟩
theorem IG:∀{ns:Wp Int},Am K M H (ns.map V.int) (ns.map D.int)
 | []=>.nil
 |n::ns=>.cons (.int n) IG
theorem Sh.c(h:Sh K M H v w)(e:asC w=Gc ds):∃a xs,v=.ref a/\SqL K H a xs/\Am K M H xs ds:=by
 cases w with
 |own es=>cases e
 |val d=>
  cases d<;>first|(cases e;done)|skip
  cases e
  cases h with
  |scr h=>
   refine⟨_,_,rfl,?_,IG⟩
   rcases h with h|h
   .exact .inl h.1
   .exact .inr h
theorem Sh.s(h:Sh K M H v w)(e:asS w=Gc ds):∃a xs,v=.ref a/\(SqL K H a xs\/SqT K H a xs)/\Am K M H xs ds:=by
 unfold asS at e
 cases e1:asL w with
 |some es=>
  rw[e1]at e
  cases e
  obtain⟨a,xs,h1,h2,h3⟩:=h.l e1
  exact⟨a,xs,h1,.inl (.of h2),h3⟩
 |none=>
  rw[e1]at e
  cases e2:asT w with
  |some es=>
   rw[e2]at e
   cases e
   obtain⟨a,xs,h1,h2,h3⟩:=h.t e2
   exact⟨a,xs,h1,.inr h2,h3⟩
  |none=>
   rw[e2]at e
   obtain⟨a,xs,h1,h2,h3⟩:=h.c e
   exact⟨a,xs,h1,.inl h2,h3⟩
end
noncomputable def HC:Op1:=λw=>match w with
 | .val (.str z)=>if z.length<=sizeLine then Gc (.val (.int z.length))else none
 |_=>(asS w).map λds=>.val (.int ds.length)
theorem CK:Ep X (.builtin "len") (rN X.K (o1 HC)):=by
 intro pins s σ H xs us Q I r h
 obtain⟨M,ws,w,e,mo,sh,q⟩:=h
 cases sh with
 |nil=>cases e
 |cons h1 t=>
  cases t with
  |cons h2 t=>cases e
  |nil=>
   rename_i v w1
   have e':HC w1=Gc w:=e
   unfold HC at e'
   split at e'
   .split at e'
    .rename_i z hz
     cases e'
     cases h1
     exact Nf pins s σ H _ us Q I r ⟨z,rfl,hz,q _ _ (.same mo (.int _))⟩
    .cases e'
   .cases e1:asS w1 with
    |none=>rw[e1]at e';cases e'
    |some ds=>
     rw[e1]at e'
     cases e'
     obtain⟨a,ys,rfl,h3,h4⟩:=h1.s e1
     refine N0 pins s σ H _ us Q I r ⟨a,ys,rfl,h3,q _ _ ?_⟩
     rw[h4.length]
     exact .same mo (.int _)
noncomputable def wIx:Op2:=λa b=>match a,b with
 |a,.val (.int i)=>(asS a).bind λds=>(atI ds i).map .val
 |_,_=>none
theorem Xw{K:jz}{M:Ms}{H:Hp}{xs:Wp V}{ds:Wp D}{i:Int}{d:D}(h:Am K M H xs ds)(e:atI ds i=Gc d):∃x,atI xs i=Gc x/\C7 K M H x d:=by
 unfold atI at e⊢
 rw[h.length]
 cases e1:ixN ds.length i with
 |none=>rw[e1]at e;cases e
 |some j=>
  rw[e1]at e
  exact h.get e
theorem Aa:IxR X (rOp X.K wIx):=by
 intro value slice pins s σ H x y v u Q I rx ry h hs
 obtain⟨M,w1,w2,r,e,mo,s1,s2,q⟩:=h
 unfold wIx at e
 split at e
 .rename_i i
  cases e1:asS w1 with
  |none=>rw[e1]at e;cases e
  |some ds=>
   rw[e1]at e
   simp only[qi]at e
   cases e2:atI ds i with
   |none=>rw[e2]at e;cases e
   |some d=>
    rw[e2]at e
    cases e
    cases s2
    obtain⟨a,ys,rfl,h3,h4⟩:=s1.s e1
    obtain⟨z,h5,h6⟩:=Xw h4 e2
    rcases h3 with h3|h3
    .exact Xs value slice pins s σ H _ _ v u Q I rx ry ⟨a,ys,i,z,rfl,rfl,h3,h5,q _ _ (.same mo h6)⟩ hs
    .exact bJ value slice pins s σ H _ _ v u Q I rx ry ⟨a,ys,i,z,rfl,rfl,h3,h5,q _ _ (.same mo h6)⟩ hs
 .cases e
end
section
variable{X:Cx}
noncomputable def CO:Op2:=λa b=>match a,b with
 | .val (.int i),.val (.int j)=>Gc (.val (.int (i+j)))
 | .val (.str x),.val (.str y)=>if x.length+y.length<=sizeLine then Gc (.val (.str (x++y)))else none
 | .val (.tup xs),.val (.tup ys)=>if xs.length+ys.length<=sizeLine then Gc (.val (.tup (xs++ys)))else none
 |a,b=>(asL a).bind λxs=>(asL b).bind λys=>if xs.length+ys.length<=sizeLine then Gc (.own (xs++ys))else none
theorem Ad:OpR X (binaryOp .Add) (rOp X.K CO):=by
 intro pins s σ H x y v u Q I rx ry h
 obtain⟨M,w1,w2,r,e,mo,s1,s2,q⟩:=h
 unfold CO at e
 split at e
 .cases e
  cases s1;cases s2
  exact Zk pins s σ H _ _ v u Q I rx ry ⟨_,_,rfl,rfl,q _ _ (.same mo (.int _))⟩
 .split at e
  .cases e
   cases s1;cases s2
   exact P9 pins s σ H _ _ v u Q I rx ry ⟨_,_,rfl,rfl,by assumption,q _ _ (.same mo (.str _))⟩
  .cases e
 .split at e
  .rename_i xs ys hz
   cases e
   cases s1 with
   |tup h1 r1=>
    cases s2 with
    |tup h2 r2=>
     rename_i a xs' b ys'
     have l1:=r1.length
     have l2:=r2.length
     by_cases hx:xs'=[]
     .subst hx
      cases r1
      refine St.YE pins s σ H _ _ v u Q I rx ry ⟨_,_,_,rfl,rfl,h1,h2,q _ _ (.same mo ?_)⟩
      exact .tup h2 r2
     .refine Y4 pins s σ H _ _ v u Q I rx ry ⟨_,_,_,_,rfl,rfl,h1,h2,hx,by lia,λz=>?_,λ_ p hp=>q _ _ (.tup mo hp (r1.append r2))⟩
      subst z
      cases r2
      rw[qA]at q
      exact q _ _ (.same mo (.tup h1 r1))
  .cases e
 .cases e1:asL w1 with
  |none=>rw[e1]at e;cases e
  |some xs=>
   rw[e1]at e
   cases e2:asL w2 with
   |none=>rw[e2]at e;cases e
   |some ys=>
    rw[e2]at e
    simp only[qi]at e
    split at e
    .rename_i hz
     cases e
     obtain⟨a,xs',rfl,h1,r1⟩:=s1.l e1
     obtain⟨b,ys',rfl,h2,r2⟩:=s2.l e2
     have l1:=r1.length
     have l2:=r2.length
     exact aS pins s σ H _ _ v u Q I rx ry ⟨a,b,xs',ys',rfl,rfl,h1,h2,by lia,λp hp=>q _ _ (.lst mo hp (r1.append r2))⟩
    .cases e
noncomputable def cV:Op2:=λa b=>match a,b with
 | .val (.int i),.val (.int j)=>if ER i j=true then Gc (.val (.int (i*j)))else none
 | .val (.tup xs),.val (.int k)=>if(!xs.isEmpty && decide (1<=k) && decide (xs.length*k.toNat<=sizeLine))=true then Gc (.val (.tup (kZ k.toNat xs).flatten))else none
 |a,.val (.int k)=>(asL a).bind λxs=>if(decide (k<2^63) && decide (-(2^63)<=k) && decide (xs.length*k.toNat<=sizeLine))=true then Gc (.own (kZ k.toNat xs).flatten)else none
 |_,_=>none
theorem Am.rep{K:jz}{M:Ms}{H:Hp}{xs:Wp V}{ds:Wp D}(h:Am K M H xs ds):∀n:Nat,Am K M H (kZ n xs).flatten (kZ n ds).flatten
 |0=>.nil
 |n+1=>by
  rw[mv,mv,oE,oE]
  exact h.append (Am.rep h n)
theorem Q4:OpR X (binaryOp .Mult) (rOp X.K cV):=by
 intro pins s σ H x y v u Q I rx ry h
 obtain⟨M,w1,w2,r,e,mo,s1,s2,q⟩:=h
 unfold cV at e
 split at e
 .rename_i i j
  refine Xd pins s σ H x y v u Q I rx ry ⟨M,_,_,r,?_,mo,s1,s2,q⟩
  unfold af wI2
  show ux Wv.val (if ER i j=true then Gc (D.int (i*j))else none)=Gc r
  split at e
  .rename_i hk
   rw[kh hk]
   exact e
  .cases e
 .rename_i xs k
  split at e
  .rename_i hk
   rw[kQ,kQ]at hk
   cases e
   cases s2
   cases s1 with
   | @tup a ys _ h1 r1=>
     have l1:=r1.length
     have z:=kO hk.2
     have hk1:=kO hk.1.2
     have hne:ys≠[]:=λzz=>by
      subst zz
      cases r1
      exact absurd hk.1.1 (by decide)
     refine Ys pins s σ H _ _ v u Q I rx ry ⟨a,ys,k,rfl,rfl,h1,hne,hk1,by rw[l1];exact z,λe1=>?_,λ_ p hp=>q _ _ (.tup mo hp (r1.rep _))⟩
     subst e1
     have:(kZ (1:Int).toNat xs).flatten=xs:=by simp
     rw[this]at q
     exact q _ _ (.same mo (.tup h1 r1))
  .cases e
 .rename_i k hn hn2
  cases e1:asL w1 with
  |none=>rw[e1]at e;cases e
  |some xs=>
   rw[e1]at e
   simp only[qi]at e
   split at e
   .rename_i hk
    rw[kQ,kQ]at hk
    cases e
    cases s2
    obtain⟨a,xs',rfl,h1,r1⟩:=s1.l e1
    have l1:=r1.length
    have z:=kO hk.2
    exact Zz pins s σ H _ _ v u Q I rx ry ⟨a,k,xs',rfl,rfl,h1,kO hk.1.2,kO hk.1.1,by rw[l1];exact z,λp hp=>q _ _ (.lst mo hp (r1.rep _))⟩
   .cases e
 .cases e
noncomputable def XT:Op1
 | .val (.int i)=>Gc (.val (.int (-i)))
 |_=>none
theorem Mb:UnR X (unaryOp .USub) (rUn X.K XT):=by
 intro pins s σ H x v Q I rx h
 obtain⟨M,w,r,e,mo,s1,q⟩:=h
 unfold XT at e
 split at e
 .cases e
  cases s1
  exact aF pins s σ H _ v Q I rx ⟨_,rfl,q _ _ (.same mo (.int _))⟩
 .cases e
noncomputable def HR:D->lA
 | .non=>true| .bl _=>true| .int _=>true| .str _=>true
 |_=>false
theorem Sh.flat{K:jz}{M:Ms}{H:Hp}{v:V}{w:Wv}(h:Sh K M H v w)(f:HR (fz w)=true):C7 K M H v (fz w):=by
 cases w with
 |val d=>exact h
 |own ds=>cases f
noncomputable def inD(x:D)(xs:Wp D):lA:=xs.any λy=>deq y x
theorem O2{K:jz}{M:Ms}{H:Hp}{v:V}{d:D}(h:C7 K M H v d)(f:HR d=true):LB v=true:=by
 cases h<;>first|rfl|cases f
theorem Y8{K:jz}{M:Ms}{H:Hp}{v u:V}{d e:D}(h:C7 K M H v d)(g:C7 K M H u e)(f:HR d=true)(f':HR e=true):eqV v u=deq d e:=by
 cases h<;>first|(cases f;done)|skip
 all_goals (cases g<;>first|(cases f';done)|rfl)
theorem NM{K:jz}{M:Ms}{H:Hp}:∀{vs:Wp V} {ds:Wp D},Am K M H vs ds->ds.all HR=true->vs.all LB=true
 |_,_,.nil,_=>rfl
 |_,_,.cons h t,f=>by
  rw[sG,kQ]at f⊢
  exact⟨O2 h f.1,NM t f.2⟩
theorem Qs{K:jz}{M:Ms}{H:Hp}{u:V}{e:D}(g:C7 K M H u e)(f':HR e=true):∀{vs:Wp V} {ds:Wp D},Am K M H vs ds->ds.all HR=true->inV u vs=inD e ds
 |_,_,.nil,_=>rfl
 |_,_,.cons h t,f=>by
  rw[sG,kQ]at f
  have ih:=Qs g f' t f.2
  unfold inV inD at ih⊢
  rw[nU,nU,ih,Y8 h g f.1 f']
noncomputable def wIn(neg:lA):Op2:=λa b=>(asS b).bind λds=>if(HR (fz a) && ds.all HR)=true then Gc (.val (.bl (if neg then !inD (fz a) ds else inD (fz a) ds)))else none
theorem Wc{M:Ms}{H:Hp}{x y:V}{w1 w2 r:Wv}{neg:lA}{Q:VK}(e:wIn neg w1 w2=Gc r)(mo:MOk M H)(s1:Sh X.K M H x w1)(s2:Sh X.K M H y w2)(q:∀v H',Nw X.K M H H' v r->Q v H'):rIn X.K neg x y H Q:=by
 unfold wIn at e
 cases e1:asS w2 with
 |none=>rw[e1]at e;cases e
 |some ds=>
  rw[e1]at e
  simp only[qi]at e
  split at e
  .rename_i hk
   rw[kQ]at hk
   cases e
   obtain⟨a,xs,rfl,h3,h4⟩:=s2.s e1
   have g1:=s1.flat hk.1
   refine⟨a,xs,rfl,h3,O2 g1 hk.1,NM h4 hk.2,?_⟩
   rw[Qs g1 hk.1 h4 hk.2]
   exact q _ _ (.same mo (.bl _))
  .cases e
theorem PC:OpR X (compareOp .In) (rOp X.K (wIn false)):=by
 intro pins s σ H x y v u Q I rx ry h
 obtain⟨M,w1,w2,r,e,mo,s1,s2,q⟩:=h
 exact SQ pins s σ H _ _ v u Q I rx ry (Wc e mo s1 s2 q)
theorem Km:OpR X (compareOp .NotIn) (rOp X.K (wIn true)):=by
 intro pins s σ H x y v u Q I rx ry h
 obtain⟨M,w1,w2,r,e,mo,s1,s2,q⟩:=h
 exact Ny pins s σ H _ _ v u Q I rx ry (Wc e mo s1 s2 q)
noncomputable def isN:Wv->lA
 | .val .non=>true
 |_=>false
noncomputable def OE(neg:lA):Op2:=λa b=>match b with
 | .val .non=>Gc (.val (.bl (if neg then !isN a else isN a)))
 |_=>none
theorem SS{K:jz}{M:Ms}{H:Hp}{x:V}{w:Wv}(s:Sh K M H x w):decide (x=.non)=isN w:=by
 cases w with
 |own ds=>obtain⟨a,xs,rfl,_⟩:=s;rfl
 |val d=>cases s<;>rfl
theorem Kf:OpR X (compareOp .Is) (rOp X.K (OE false)):=by
 intro pins s σ H x y v u Q I rx ry h
 obtain⟨M,w1,w2,r,e,mo,s1,s2,q⟩:=h
 unfold OE at e
 split at e
 .cases e
  cases s2
  refine aY pins s σ H _ _ v u Q I rx ry ⟨rfl,?_⟩
  rw[SS s1]
  exact q _ _ (.same mo (.bl _))
 .cases e
theorem WA:OpR X (compareOp .IsNot) (rOp X.K (OE true)):=by
 intro pins s σ H x y v u Q I rx ry h
 obtain⟨M,w1,w2,r,e,mo,s1,s2,q⟩:=h
 unfold OE at e
 split at e
 .cases e
  cases s2
  refine YH pins s σ H _ _ v u Q I rx ry ⟨rfl,?_⟩
  rw[SS s1]
  exact q _ _ (.same mo (.bl _))
 .cases e
theorem HP{K:jz}{M:Ms}{H:Hp}{xs:Wp V}{ws:Wp Wv}{f:Op1}{r:Wv}(h:Shs K M H xs ws)(e:o1 f ws=Gc r):∃v w,xs=[v]/\ws=[w]/\Sh K M H v w/\f w=Gc r:=by
 cases h with
 |nil=>cases e
 |cons h1 t=>
  cases t with
  |cons h2 t=>cases e
  |nil=>exact⟨_,_,rfl,rfl,h1,e⟩
theorem SH{K:jz}{M:Ms}{H:Hp}{xs:Wp V}{ws:Wp Wv}{f:Op2}{r:Wv}(h:Shs K M H xs ws)(e:o2 f ws=Gc r):∃v w v' w',xs=[v,v']/\ws=[w,w']/\Sh K M H v w/\Sh K M H v' w'/\f w w'=Gc r:=by
 cases h with
 |nil=>cases e
 |cons h1 t=>
  cases t with
  |nil=>cases e
  |cons h2 t=>
   cases t with
   |cons h3 t=>cases e
   |nil=>exact⟨_,_,_,_,rfl,rfl,h1,h2,e⟩
noncomputable def cH:Op1
 | .val (.int i)=>Gc (.val (.int (if i<0 then-i else i)))
 |_=>none
theorem Qd:Ep X (.builtin "abs") (rN X.K (o1 cH)):=by
 intro pins s σ H xs us Q I r h
 obtain⟨M,ws,w,e,mo,sh,q⟩:=h
 obtain⟨v,w1,rfl,rfl,s1,e1⟩:=HP sh e
 unfold cH at e1
 split at e1
 .cases e1
  cases s1
  exact T5 pins s σ H _ us Q I r ⟨_,rfl,q _ _ (.same mo (.int _))⟩
 .cases e1
noncomputable def cc:Op2:=wI2 λi j=>Gc (.int (if j>i then j else i))
noncomputable def Wd:Op2:=wI2 λi j=>Gc (.int (if j<i then j else i))
theorem PK{f:Int->Int->j6 D}{a b r:Wv}(e:wI2 f a b=Gc r):∃i j d,a=.val (.int i)/\b=.val (.int j)/\f i j=Gc d/\r=.val d:=by
 unfold wI2 at e
 split at e
 .rename_i i j
  cases e1:f i j with
  |none=>rw[e1]at e;cases e
  |some d=>rw[e1]at e;cases e;exact⟨i,j,d,rfl,rfl,e1,rfl⟩
 .cases e
theorem Qq(hc:X.calm=true):Ep X (.builtin "max") (rN X.K (o2 cc)):=by
 intro pins s σ H xs us Q I r h
 obtain⟨M,ws,w,e,mo,sh,q⟩:=h
 obtain⟨v,w1,v',w2,rfl,rfl,s1,s2,e1⟩:=SH sh e
 obtain⟨i,j,d,rfl,rfl,e2,rfl⟩:=PK e1
 cases e2;cases s1;cases s2
 exact Rx hc pins s σ H _ us Q I r ⟨_,_,rfl,q _ _ (.same mo (.int _))⟩
theorem Kg(hc:X.calm=true):Ep X (.builtin "min") (rN X.K (o2 Wd)):=by
 intro pins s σ H xs us Q I r h
 obtain⟨M,ws,w,e,mo,sh,q⟩:=h
 obtain⟨v,w1,v',w2,rfl,rfl,s1,s2,e1⟩:=SH sh e
 obtain⟨i,j,d,rfl,rfl,e2,rfl⟩:=PK e1
 cases e2;cases s1;cases s2
 exact Q7 hc pins s σ H _ us Q I r ⟨_,_,rfl,q _ _ (.same mo (.int _))⟩
noncomputable def Cv:Op1:=λw=>(asS w).map λds=>.val (.tup ds)
theorem BB:Ep X (.type "tuple") (rN X.K (o1 Cv)):=by
 intro pins s σ H xs us Q I r h
 obtain⟨M,ws,w,e,mo,sh,q⟩:=h
 obtain⟨v,w1,rfl,rfl,s1,e1⟩:=HP sh e
 unfold Cv at e1
 cases e2:asS w1 with
 |none=>rw[e2]at e1;cases e1
 |some ds=>
  rw[e2]at e1
  cases e1
  obtain⟨a,ys,rfl,h3,h4⟩:=s1.s e2
  refine MS pins s σ H _ us Q I r ⟨a,ys,rfl,?_⟩
  rcases h3 with h3|h3
  .exact .inl ⟨h3,λl hl=>q _ _ (.tup mo hl h4)⟩
  .exact .inr ⟨h3,q _ _ (.same mo (.tup h3 h4))⟩
noncomputable def Om:Op1:=λw=>(asS w).map λds=>.own ds
theorem Lg:Ep X (.type "list") (rN X.K (o1 Om)):=by
 intro pins s σ H xs us Q I r h
 obtain⟨M,ws,w,e,mo,sh,q⟩:=h
 obtain⟨v,w1,rfl,rfl,s1,e1⟩:=HP sh e
 unfold Om at e1
 cases e2:asS w1 with
 |none=>rw[e2]at e1;cases e1
 |some ds=>
  rw[e2]at e1
  cases e1
  obtain⟨a,ys,rfl,h3,h4⟩:=s1.s e2
  exact NN pins s σ H _ us Q I r ⟨a,ys,rfl,h3,λl hl=>q _ _ (.lst mo hl h4)⟩
noncomputable def Um:Op1
 | .val (.int i)=>Gc (.val (.int i))
 | .val (.bl b)=>Gc (.val (.int (if b then 1 else 0)))
 |_=>none
theorem IE:Ep X (.type "int") (rN X.K (o1 Um)):=by
 intro pins s σ H xs us Q I r h
 obtain⟨M,ws,w,e,mo,sh,q⟩:=h
 obtain⟨v,w1,rfl,rfl,s1,e1⟩:=HP sh e
 unfold Um at e1
 split at e1
 .cases e1;cases s1
  exact NY pins s σ H _ us Q I r (.inl ⟨_,rfl,q _ _ (.same mo (.int _))⟩)
 .cases e1;cases s1
  exact NY pins s σ H _ us Q I r (.inr ⟨_,rfl,q _ _ (.same mo (.int _))⟩)
 .cases e1
end
section
variable{X:Cx}
noncomputable def Bi(fs:Wp Ev):Ev:=λE S=>(evs fs E S).bind λr=>if r.1.length<=sizeLine then Gc (.tup r.1,r.2)else none
noncomputable def Vs(c:lA)(fs:Wp Ev):Ev:=λE S=>(evs fs E S).bind λr=>if r.1.length<=sizeLine then fin c (.own r.1) r.2 else none
abbrev HI:=Vs false
abbrev GS:=Vs true
theorem Ar{es:Wp ky}{fs:Wp Ev}{k:Nat}{pos:Pos}(h:DEs X es fs):DE X (.Tuple es k pos) (Bi fs):=⟨BW (Za h.pe) λσ H Q z=>by
 obtain⟨M,E,S,d,S',e,r,st,q⟩:=z
 obtain⟨⟨ds,S1⟩,e1,e⟩:=An e
 dsimp only at e
 split at e
 .cases e
  refine G8 e1 r st λvs H1 M1 g1 st1 d1=>⟨by rw[d1.length];assumption,λp hp=>?_⟩
  have n:=Nw.tup st1.mo hp d1
  exact q _ _ M1 (g1.trans (.grow st1.mo n.grow)) (st1.grow n.grow) n.rel
 .cases e⟩
theorem Bf{c:lA}{es:Wp ky}{fs:Wp Ev}{pos:Pos}(h:DEs X es fs):DE X (.List es pos) (Vs c fs):=⟨BW (aH h.pe) λσ H Q z=>by
 obtain⟨M,E,S,d,S',e,r,st,q⟩:=z
 obtain⟨⟨ds,S1⟩,e1,e⟩:=An e
 dsimp only at e
 split at e
 .refine G8 e1 r st λvs H1 M1 g1 st1 d1=>⟨by rw[d1.length];assumption,λp hp=>?_⟩
  obtain⟨M2,g2,st2,d2⟩:=(Nw.lst st1.mo hp d1).fin st1 e
  exact q _ _ M2 (g1.trans g2) st2 d2
 .cases e⟩
noncomputable def Ja(f g:Ev):Ev:=λE S=>(f E S).bind λr=>match r.1 with
 | .bl true=>g E r.2
 | .bl false=>Gc (.bl false,r.2)
 |_=>none
noncomputable def eOr(f g:Ev):Ev:=λE S=>(f E S).bind λr=>match r.1 with
 | .bl false=>g E r.2
 | .bl true=>Gc (.bl true,r.2)
 |_=>none
noncomputable def cU(f:Ev):Ev:=λE S=>(f E S).bind λr=>match r.1 with
 | .bl b=>Gc (.bl (!b),r.2)
 |_=>none
noncomputable def eIf(c f g:Ev):Ev:=λE S=>(c E S).bind λr=>match r.1 with
 | .bl true=>f E r.2
 | .bl false=>g E r.2
 |_=>none
theorem Sn{K:jz}{M:Ms}{H:Hp}{v:V}{b:lA}(h:C7 K M H v (.bl b)):v=.bl b:=by cases h;rfl
variable{a b c:ky}{rest:Wp ky}{f g h:Ev}{pos:Pos}
theorem PF{op:BoolOp}(h:DE X a f):DE X (.BoolOp op [a] pos) f:=⟨aW h.pe⟩
theorem NQ(ha:DE X a f)(hb:DE X (.BoolOp .And (b::rest) pos) g):DE X (.BoolOp .And (a::b::rest) pos) (Ja f g):=⟨BW (aj ha.pe hb.pe) λσ H Q z=>by
 obtain⟨M,E,S,d,S',e,r,st,q⟩:=z
 obtain⟨⟨d1,S1⟩,e1,e⟩:=An e
 dsimp only at e
 refine⟨M,E,S,d1,S1,e1,r,st,λv H1 M1 g1 st1 r1=>?_⟩
 split at e
 .cases Sn r1
  refine⟨_,rfl,?_⟩
  refine Vw ?_
  exact⟨M1,E,S1,d,S',e,r.step g1.st,st1,λv H2 M2 g2 st2 r2=>q _ _ M2 (g1.trans g2) st2 r2⟩
 .cases e
  cases Sn r1
  refine⟨_,rfl,?_⟩
  refine Uk ?_
  exact q _ _ M1 g1 st1 r1
 .cases e⟩
noncomputable def tDT(K:jz)(f:Ev):TT:=λσ H Q=>∃M E S b S',f E S=Gc (.bl b,S')/\EnR K M E σ H/\StR K M S H/\∀H' M',Gr M H M' H'->StR K M' S' H'->Q b H'
structure DT(X:Cx)(e:ky)(f:Ev):Prop where
 pe:PT X e (tDT X.K f)
structure DW(X:Cx)(e:ky)(f:Ev):Prop where
 pe:PW X e (tDT X.K f)
theorem DW.dt(h:DW X a f):DT X a f:=⟨PW.pt h.pe⟩
theorem Ul{t:TE}(h:PT X a (bU t))(m:∀σ H Q,tD X.K f σ H Q->t σ H Q):DT X a f:=⟨QZ h λσ H Q z=>by
 obtain⟨M,E,S,b,S',e,r,st,q⟩:=z
 refine m _ _ _ ⟨M,E,S,_,S',e,r,st,λv H1 M1 g1 st1 r1=>?_⟩
 cases Sn r1
 exact⟨_,rfl,q _ M1 g1 st1⟩⟩
theorem a9(h:DE X a f)(he:∀whole,isTrue a X.env whole=(do let v<-whole;standAt a.pos;holding [v] (truthy v)):=by intro _;rfl):DT X a f:=Ul (t:=tD X.K f) (ab h.pe he) λ_ _ _ z=>z
theorem Af{fa fb:Ev}{op:CmpOp}{f:Op2}(ho:OpR X (compareOp op) (rOp X.K f))(ha:DE X a fa)(hb:DE X b fb)(hm:behindInMarks op b=false:=by rfl):DT X (.Compare a [op] [b] pos) (eOp (o2 f) [fa,fb]):=
 Ul (Yh ho ha.pe hb.pe hm) λ_ _ _ h=>PU h
theorem Zp(ha:DT X a f):DT X (.UnaryOp .Not a pos) (cU f):=⟨QZ (bW ha.pe) λσ H Q z=>by
 obtain⟨M,E,S,b,S',e,r,st,q⟩:=z
 obtain⟨⟨w1,S1⟩,e1,e⟩:=An e
 dsimp only at e
 split at e
 .cases e
  exact⟨M,E,S,_,_,e1,r,st,q⟩
 .cases e⟩
theorem Hd(ha:DT X a f):DW X (.BoolOp .And [a] pos) f:=⟨X1 ha.pe⟩
theorem RJ(ha:DT X a f):DW X (.BoolOp .Or [a] pos) f:=⟨az ha.pe⟩
theorem Qk{e:ky}{t t':TT}(h:PW X e t)(m:∀σ H Q,t' σ H Q->t σ H Q):PW X e t':=λwh pins s σ H Q I q=>h wh pins s σ H Q I (m _ _ _ q)
theorem J3(ha:DT X a f)(hb:DW X (.BoolOp .And (b::rest) pos) g):DW X (.BoolOp .And (a::b::rest) pos) (Ja f g):=⟨Qk (ZS ha.pe hb.pe) λσ H Q z=>by
 obtain⟨M,E,S,k,S',e,r,st,q⟩:=z
 obtain⟨⟨w1,S1⟩,e1,e⟩:=An e
 dsimp only at e
 split at e
 .refine⟨M,E,S,_,S1,e1,r,st,λH1 M1 g1 st1=>?_⟩
  refine Vw ?_
  exact⟨M1,E,S1,k,S',e,r.step g1.st,st1,λH2 M2 g2 st2=>q _ M2 (g1.trans g2) st2⟩
 .cases e
  refine⟨M,E,S,_,_,e1,r,st,λH1 M1 g1 st1=>?_⟩
  refine Uk ?_
  exact q _ M1 g1 st1
 .cases e⟩
theorem V2(ha:DT X a f)(hb:DW X (.BoolOp .Or (b::rest) pos) g):DW X (.BoolOp .Or (a::b::rest) pos) (eOr f g):=⟨Qk (eK ha.pe hb.pe) λσ H Q z=>by
 obtain⟨M,E,S,k,S',e,r,st,q⟩:=z
 obtain⟨⟨w1,S1⟩,e1,e⟩:=An e
 dsimp only at e
 split at e
 .refine⟨M,E,S,_,S1,e1,r,st,λH1 M1 g1 st1=>?_⟩
  refine Uk ?_
  exact⟨M1,E,S1,k,S',e,r.step g1.st,st1,λH2 M2 g2 st2=>q _ M2 (g1.trans g2) st2⟩
 .cases e
  refine⟨M,E,S,_,_,e1,r,st,λH1 M1 g1 st1=>?_⟩
  refine Vw ?_
  exact q _ M1 g1 st1
 .cases e⟩
theorem dI(hc:DT X c f)(ha:DE X a g)(hb:DE X b h):DE X (.IfExp c a b pos) (eIf f g h):=⟨BW (VW hc.pe ha.pe hb.pe) λσ H Q z=>by
 obtain⟨M,E,S,d,S',e,r,st,q⟩:=z
 obtain⟨⟨w1,S1⟩,e1,e⟩:=An e
 dsimp only at e
 split at e
 .refine⟨M,E,S,_,S1,e1,r,st,λH1 M1 g1 st1=>?_⟩
  refine Vw ?_
  exact⟨M1,E,S1,d,S',e,r.step g1.st,st1,λv H2 M2 g2 st2 r2=>q _ _ M2 (g1.trans g2) st2 r2⟩
 .refine⟨M,E,S,_,S1,e1,r,st,λH1 M1 g1 st1=>?_⟩
  refine Uk ?_
  exact⟨M1,E,S1,d,S',e,r.step g1.st,st1,λv H2 M2 g2 st2 r2=>q _ _ M2 (g1.trans g2) st2 r2⟩
 .cases e⟩
end
inductive Fl where
 |nx
 |ret (d:D)
abbrev Ex:=En->Sto->j6 (Fl×En×Sto)
def End(K:jz)(M:Ms)(H:Hp)(Dn:Ends)(E':En)(S':Sto):Fl->Prop
 | .nx=>∀σ' H' M',Gr M H M' H'->EnR K M' E' σ' H'->StR K M' S' H'->Dn.nx σ' H'
 | .ret d=>∀v H' M',Gr M H M' H'->StR K M' S' H'->C7 K M' H' v d->Dn.rt v H'
noncomputable def tX(K:jz)(f:Ex):TS:=λDn σ H=>∃M E S fl E' S',f E S=Gc (fl,E',S')/\EnR K M E σ H/\StR K M S H/\End K M H Dn E' S' fl
structure DS(X:Cx)(st:lY)(f:Ex):Prop where
 pe:PS X st (tX X.K f)
structure DSs(X:Cx)(st:Wp lY)(f:Ex):Prop where
 pe:PSs X st (tX X.K f)
theorem EL{X:Cx}{e:lY}{t t':TS}(h:PS X e t)(m:∀Dn σ H,t' Dn σ H->t Dn σ H):PS X e t':=λpins s σ H Dn I q=>h pins s σ H Dn I (m _ _ _ q)
theorem Ht{X:Cx}{e:Wp lY}{t t':TS}(h:PSs X e t)(m:∀Dn σ H,t' Dn σ H->t Dn σ H):PSs X e t':=λpins s σ H Dn I q=>h pins s σ H Dn I (m _ _ _ q)
theorem End.later{K:jz}{M M1:Ms}{H H1:Hp}{Dn:Ends}{E':En}{S':Sto}{fl:Fl}(q:End K M H Dn E' S' fl)(g:Gr M H M1 H1):End K M1 H1 Dn E' S' fl:=by
 cases fl with
 |nx=>exact λσ' H' M' g' r st=>q σ' H' M' (g.trans g') r st
 |ret d=>exact λv H' M' g' st r=>q v H' M' (g.trans g') st r
noncomputable def AW(f g:Ex):Ex:=λE S=>(f E S).bind λr=>match r.1 with
 | .nx=>g r.2.1 r.2.2
 | .ret w=>Gc (.ret w,r.2)
noncomputable def Cw:Ex:=λE S=>Gc (.nx,E,S)
section
variable{X:Cx}{st:lY}{rest a b:Wp lY}{f g h:Ex}{c e:ky}{k:Ev}{pos:Pos}
theorem Az:DSs X [] Cw:=⟨Ht Ri λDn σ H z=>by
 obtain⟨M,E,S,fl,E',S',e,r,st,q⟩:=z
 cases e
 exact q _ _ M (.refl st.mo) r st⟩
theorem AG(h1:DS X st f)(h2:DSs X rest g):DSs X (st::rest) (AW f g):=⟨Ht (NC h1.pe h2.pe) λDn σ H z=>by
 obtain⟨M,E,S,fl,E',S',e,r,st,q⟩:=z
 obtain⟨⟨f1,E1,S1⟩,e1,e⟩:=An e
 dsimp only at e
 split at e
 .exact⟨M,E,S,.nx,E1,S1,e1,r,st,λσ1 H1 M1 g1 r1 st1=>⟨M1,E1,S1,fl,E',S',e,r1,st1,q.later g1⟩⟩
 .cases e
  exact⟨M,E,S,.ret _,_,_,e1,r,st,q⟩⟩
theorem AL(h1:DS X st f):DSs X [st] f:=⟨SD h1.pe⟩
noncomputable def xIf(c:Ev)(f g:Ex):Ex:=λE S=>(c E S).bind λr=>match r.1 with
 | .bl true=>f E r.2
 | .bl false=>g E r.2
 |_=>none
theorem CP(hc:DT X c k)(ha:DSs X a f)(hb:DSs X b g):DS X (.If c a b pos) (xIf k f g):=⟨EL (ZY hc.pe ha.pe hb.pe) λDn σ H z=>by
 obtain⟨M,E,S,fl,E',S',e,r,st,q⟩:=z
 obtain⟨⟨w1,S1⟩,e1,e⟩:=An e
 dsimp only at e
 split at e
 .refine⟨M,E,S,_,S1,e1,r,st,λH1 M1 g1 st1=>?_⟩
  refine Vw ?_
  exact⟨M1,E,S1,fl,E',S',e,r.step g1.st,st1,q.later g1⟩
 .refine⟨M,E,S,_,S1,e1,r,st,λH1 M1 g1 st1=>?_⟩
  refine Uk ?_
  exact⟨M1,E,S1,fl,E',S',e,r.step g1.st,st1,q.later g1⟩
 .cases e⟩
noncomputable def Bv(k:Ev):Ex:=λE S=>(k E S).map λr=>(.ret r.1,E,r.2)
theorem Ac(h:DE X e k):DS X (.Return (Gc e) pos) (Bv k):=⟨EL (ay h.pe) λDn σ H z=>by
 obtain⟨M,E,S,fl,E',S',e,r,st,q⟩:=z
 obtain⟨⟨d,S1⟩,e1,e⟩:=Ir e
 cases e
 exact⟨M,E,S,d,S1,e1,r,st,λv H1 M1 g1 st1 r1=>q _ _ M1 g1 st1 r1⟩⟩
end
section
variable{K:jz}{M:Ms}{E:En}{σ:Sg}{H:Hp}{i:Nat}{d:D}{v:V}
theorem EnR.put(r:EnR K M E σ H)(rd:C7 K M H v d):EnR K M (E.set i (Gc d)) (σ.set i (Gc v)) H:=by
 refine⟨by rw[nI,nI];exact r.len,λj e ej=>?_⟩
 by_cases h:i=j
 .subst h
  by_cases hi:i<E.length
  .rw[kN hi]at ej
   cases ej
   exact⟨v,kN (by rw[<-r.len];exact hi),rd⟩
  .rw[pW.mpr (by rw[nI];lia)]at ej;cases ej
 .rw[kB h]at ej
  obtain⟨v',h1,h2⟩:=r.val j e ej
  exact⟨v',by rw[kB h];exact h1,h2⟩
end
noncomputable def A4(i:Nat)(k:Ev):Ex:=λE S=>(k E S).map λr=>(.nx,E.set i (Gc r.1),r.2)
theorem AZ{X:Cx}{e:ky}{k:Ev}{pos pos':Pos}(i:Nat){x:Str}(h:DE X e k)(hN:X.N.Nodup)(hi:X.N[i]?=Gc x:=by rfl)(hx:Loc X.env.scope x:=by first|exact Or.inl rfl|exact yv rfl)(hs:swapsWith e (Gc (.Name x pos')) pos.line X.env=pure false:=by rfl)(hf:X.fn x=true\/X.env.scope.names.lookup x=Gc .local:=by first|exact .inl rfl|exact .inr rfl):DS X (.Assign [.Name x pos'] e pos) (A4 i k):=⟨
 EL (Z4 hN hi hx h.pe hs hf) λDn σ H z=>by
  obtain⟨M,E,S,fl,E',S',e,r,st,q⟩:=z
  obtain⟨⟨d,S1⟩,e1,e⟩:=Ir e
  cases e
  exact⟨M,E,S,d,S1,e1,r,st,λv H1 M1 g1 st1 r1=>q _ _ M1 g1 ((r.step g1.st).put r1) st1⟩⟩
noncomputable def By(k:Ev):Ex:=λE S=>(k E S).map λr=>(.nx,E,r.2)
theorem Bn{X:Cx}{e:ky}{k:Ev}{pos:Pos}(h:DE X e k)(hs:swapsWith e none pos.line X.env=pure false:=by rfl):DS X (.Expr e pos) (By k):=⟨EL (Xx h.pe hs) λDn σ H z=>by
 obtain⟨M,E,S,fl,E',S',e,r,st,q⟩:=z
 obtain⟨⟨d,S1⟩,e1,e⟩:=Ir e
 cases e
 exact⟨M,E,S,d,S1,e1,r,st,λv H1 M1 g1 st1 r1=>q _ _ M1 g1 (r.step g1.st) st1⟩⟩
noncomputable def EH(S:Sto)(n:Nat):j6 (Wp D):=match S[n]? with
 |some (.lst ds)=>Gc ds
 |_=>none
theorem EZ{S:Sto}{n:Nat}{ds:Wp D}(h:EH S n=Gc ds):S[n]?=Gc (.lst ds):=by
 unfold EH at h
 split at h
 .rename_i e
  cases h
  exact e
 .cases h
abbrev Mo:=Sto->Wp D->Wp D->j6 (D×Wp D)
noncomputable def Hz(op:Mo)(f:Ev)(fs:Wp Ev):Ev:=λE S=>(f E S).bind λr=>match r.1 with
 | .ref n=>(EH r.2 n).bind λ_=>(evs fs E r.2).bind λp=>(EH p.2 n).bind λds=>(op p.2 ds p.1).map λq=>(q.1,p.2.set n (.lst q.2))
 |_=>none
def bp(K:jz)(op:Mo):V->Wp V->Hp->VK->Prop:=λx vs H Q=>∃M S n a ds args d ds',x=.ref a/\M.cel[n]?=Gc a/\S[n]?=Gc (.lst ds)/\op S ds args=Gc (d,ds')/\StR K M S H/\Am K M H vs args/\∀v H',StR K M (S.set n (.lst ds')) H'->Gr M H M H'->C7 K M H' v d->Q v H'
section
variable{X:Cx}
theorem aN{op:Mo}{f:Ev}{fs:Wp Ev}{σ:Sg}{H:Hp}{Q:VK}(h:tD X.K (Hz op f fs) σ H Q):tBM X.K "list" (bp X.K op) (tD X.K f) (tDs X.K fs) σ H Q:=by
 obtain⟨M,E,S,d,S',e,r,st,q⟩:=h
 obtain⟨⟨d1,S1⟩,e1,e⟩:=An e
 dsimp only at e
 split at e
 .rename_i n
  obtain⟨ds0,e2,e⟩:=An e
  obtain⟨⟨args,S2⟩,e3,e⟩:=An e
  obtain⟨ds,e4,e⟩:=An e
  obtain⟨⟨dd,ds'⟩,e5,e⟩:=Ir e
  cases e
  refine⟨M,E,S,_,S1,e1,r,st,λv H1 M1 g1 st1 r1=>?_⟩
  cases r1 with
  |ref hc=>
   rename_i a
   obtain⟨xs,h1,h2⟩:=st1.cell n a _ hc (EZ e2)
   refine⟨.inl ⟨rfl,xs,.of h1⟩,?_⟩
   refine G8 e3 (r.step g1.st) st1 λvs H2 M2 g2 st2 r2=>?_
   exact⟨M2,S2,n,a,ds,args,dd,ds',rfl,KI g2.pre hc,EZ e4,e5,st2,r2,λv H3 st3 g3 r3=>q _ _ M2 ((g1.trans g2).trans g3) st3 r3⟩
 .cases e
theorem FO{id:pE}{name:Str}{o e:ky}{es:Wp ky}{op:Mo}{f:Ev}{fs:Wp Ev}{apos cpos:Pos}(slot:Slot "list" name id)(hty:typeOf (.builtin id)=pure (.type "method_descriptor"))(hm:MtR X id (bp X.K op))(ho:DE X o f)(ha:DEs X (e::es) fs)(hbase:attributeBase o name X.env (eval o X.env)=eval o X.env:=by rfl)(hfew:((backTo cpos (kc (e::es) X.env)).all (λx=> !x.1) && (backToKw cpos (keywordEach [] X.env)).all (λx=>x.1.isSome) && decide ((e::es).length+([]:Wp rZ).length+(if([]:Wp rZ).isEmpty then 0 else 1)<30))=true:=by rfl)(hline:(apos.endLine==cpos.line)=true:=by rfl)(hs:kc (e::es) X.env=(false,eval e X.env)::kc es X.env:=by rfl)(hplain:(backTo cpos (kc es X.env)).any (·.1)=false:=by rfl):DE X (.Call (.Attribute o name apos) (e::es) [] cpos) (Hz op f fs):=⟨BW (fM PySem.F.plainAttrs_list slot hty hm ho.pe ha.pe hbase hfew hline hs hplain) λσ H Q z=>aN z⟩
noncomputable def IZ:Mo
 |_,ds,[x]=>if ds.length<sizeLine then Gc (.non,ds++[x])else none
 |_,_,_=>none
theorem Pg{K:jz}{M:Ms}{H:Hp}{vs:Wp V}{d:D}(h:Am K M H vs [d]):∃v,vs=[v]/\C7 K M H v d:=by
 cases h with
 |cons h t=>cases t;exact⟨_,rfl,h⟩
theorem Df:MtR X "list.append" (bp X.K IZ):=by
 intro pins s σ H x vs v us Q I rx rv h
 obtain⟨M,S,n,a,ds,args,d,ds',rfl,hc,hn,e,st,ra,q⟩:=h
 unfold IZ at e
 split at e
 .split at e
  .rename_i hz
   cases e
   obtain⟨xs,h1,h2⟩:=st.cell n a _ hc hn
   obtain⟨y,rfl,ry⟩:=Pg ra
   obtain⟨st2,g2⟩:=st.chg hc hn (h2.append (.cons ry .nil))
   exact NZ pins s σ H _ _ v us Q I rx rv ⟨a,xs,y,rfl,rfl,h1,by rw[h2.length];exact hz,q _ _ st2 g2 .non⟩
  .cases e
 .cases e
end
noncomputable def NG(k f o:Ev):Ex:=λE S=>(k E S).bind λr=>(f E r.2).bind λb=>(o E b.2).bind λi=>match b.1,i.1 with
 | .ref n,.int j=>(EH i.2 n).bind λds=>(ixN ds.length j).map λm=>(.nx,E,i.2.set n (.lst (ds.set m r.1)))
 |_,_=>none
theorem Ca {X : Cx} {e t bs : ky} {k f o : Ev} {ps pos : Pos} (h : DE X e k) (hb : DE X bs f) (ht : DE X t o) (ha : ∀ v, assign (.Subscript bs t ps) X.env v = (do
      let ov ← holding [v] (eval bs X.env)
      let iv ← holding [v, ov] (eval t X.env)
      standAt ps
      holding [v, ov, iv] (setItem ov iv v)
      release [v, ov, iv] []) := by intro _; rfl)
    (hs : swapsWithSole [.Subscript bs t ps] e pos.line X.env = pure false := by rfl) (hw : swappedStores [.Subscript bs t ps] e X.env = pure none := by rfl)
    (h1 : (assignEach [.Subscript bs t ps] X.env).map (·.2) = [assign (.Subscript bs t ps) X.env] := by rfl) :
    DS X (.Assign [.Subscript bs t ps] e pos) (NG k f o) := ⟨
  EL (XZ h.pe (Zr hb.pe ht.pe set_list ha) hs hw h1) fun Dn σ H z => by
    obtain ⟨M, E, S, fl, E', S', e, r, st, q⟩ := z
    obtain ⟨⟨d, S1⟩, e1, e⟩ := An e
    obtain ⟨⟨b, S2⟩, e2, e⟩ := An e
    obtain ⟨⟨i, S3⟩, e3, e⟩ := An e
    dsimp only at e e1 e2 e3
    split at e
    · rename_i n j _
      obtain ⟨ds, e4, e⟩ := An e
      obtain ⟨m, e5, e⟩ := Ir e
      cases e
      refine ⟨M, E, S, d, S1, e1, r, st, fun v H1 M1 g1 st1 r1 => ?_⟩
      refine ⟨M1, E, S1, _, S2, e2, r.step g1.st, st1, fun bv H2 M2 g2 st2 r2 => ?_⟩
      refine ⟨M2, E, S2, _, S3, e3, (r.step g1.st).step g2.st, st2, fun iv H3 M3 g3 st3 r3 => ?_⟩
      cases r3
      cases r2 with
      | ref hc =>
        rename_i a
        have hc3 := KI g3.pre hc
        obtain ⟨xs, h1, h2⟩ := st3.cell n a _ hc3 (EZ e4)
        obtain ⟨st4, g4⟩ := st3.chg hc3 (EZ e4) (h2.set ((r1.step g2.st).step g3.st) m)
        have g := ((g1.trans g2).trans g3).trans g4
        exact ⟨a, xs, j, m, rfl, rfl, h1, by rw [h2.length]; exact e5, q _ _ M3 g (r.step g.st) st4⟩
    · cases e⟩
abbrev Fn:=Wp D->Sto->j6 (D×Sto)
noncomputable def flD:Fl->D
 | .nx=>.non
 | .ret d=>d
noncomputable def BV(N:Nat)(body:Ex):Fn:=λds S=>(body (ds.map Gc++kZ (N-ds.length) none) S).map λr=>(flD r.1,r.2.2)
def BU{α:Type}(a:α):α:=Classical.choose (⟨a,rfl⟩:∃x,x=a)
theorem Qn{α:Type}(a:α):BU a=a:=zh (⟨a,rfl⟩:∃x,x=a)
noncomputable def spD(K:jz)(np:Nat)(f:Fn):Sp:=λvs H Q _=>∃M ds S d S',ds.length=np/\f ds S=Gc (d,S')/\Am K M H vs ds/\StR K M S H/\∀v H' M',Gr M H M' H'->StR K M' S' H'->C7 K M' H' v d->Q v H'
theorem Nk{α:Type}{xs:Wp α}{i:Nat}{x:α}(h:(xs.map Gc)[i]?=Gc (Gc x)):xs[i]?=Gc x:=by
 rw[kn]at h
 cases e:xs[i]? with
 |none=>rw[e]at h;cases h
 |some y=>rw[e]at h;cases h;rfl
theorem Rm{α:Type}{xs:Wp (j6 α)}{k i:Nat}{x:α}(h:(xs++kZ k none)[i]?=Gc (Gc x)):xs[i]?=Gc (Gc x):=by
 by_cases hi:i<xs.length
 .rw[j8 hi]at h;exact h
 .rw[lG (by lia),sR]at h
  split at h<;>cases h
theorem Yp{α:Type}{xs:Wp (j6 α)}{k i:Nat}{x:j6 α}(h:xs[i]?=Gc x):(xs++kZ k none)[i]?=Gc x:=by
 rw[j8 (kK.mp h).1];exact h
theorem EnR.args{K:jz}{M:Ms}{H:Hp}{vs:Wp V}{ds:Wp D}(r:Am K M H vs ds)(k:Nat):EnR K M (ds.map Gc++kZ k none) (vs.map Gc++kZ k none) H:=by
 refine⟨by simp[r.length],λi d e=>?_⟩
 obtain⟨v,h1,h2⟩:=r.get (Nk (Rm e))
 exact⟨v,Yp (by rw[kn,h1];rfl),h2⟩
section
variable{P:ke}{w:lB}{K:jz}{mg:Str->j6 j4}{base:lD}
theorem ae{x:Str}{st:lY}{f:j9}{fd:nB}{N ps:Wp Str}{k np:Nat}{b:Ex}(Fu:Fun K x x st f fd)(S:AY N ps (AK st))(hp:ps.length=np)(hb:∀(cdv:j4) (A:lF) (outer:Wp yW) (s:j5) (H:Hp) (E:XK),K8 k (A.deeper (pZ x (AK st) s.heap.objs.size f cdv))->DSs (Uw CX0 P w K mg base N x (AK st) f cdv A outer s H E).nox (EN st) b):Nn P w K mg base CX0 (k+1) f fd ps (spD K np (BU (BV N.length b))):=by
 rw[Qn]
 refine Fu.ok S (λvs H Q E h=>?_) (λcdv A outer s H vs Q E hr h=>?_)
 .obtain⟨M,ds,S0,d,S',hl,_,r,_⟩:=h
  have:=r.length
  lia
 .obtain⟨M,ds,S0,d,S',hl,e,r,st,q⟩:=h
  have hlen:=r.length
  refine⟨_,(hb cdv A outer s H E hr).pe,?_⟩
  obtain⟨⟨fl,E',S1⟩,e1,e⟩:=Ir e
  cases e
  refine⟨M,_,S0,fl,E',S1,e1,?_,st,?_⟩
  .rw[show L2.start N vs=vs.map Gc++kZ (N.length-ds.length) none from by unfold L2.start;rw[hlen]]
   exact .args r _
  .cases fl with
   |nx=>exact λσ' H' M' g _ st'=>q _ _ M' g st' .non
   |ret d=>exact λv H' M' g st' r'=>q _ _ M' g st' r'
theorem bO{x:Str}{st:lY}{N ps:Wp Str}{k np:Nat}{b:Ex}(S:St.Src K mg x st)(sc:AY N ps (AK st))(hp:ps.length=np)(hbi:∀f fd,Fun K x x st f fd->Binds K fd ps [])(hb:∀(f:j9) (cdv:j4) (A:lF) (outer:Wp yW) (s:j5) (H:Hp) (E:XK),K8 k (A.deeper (pZ x (AK st) s.heap.objs.size f cdv))->DSs (Uw CX0 P w K mg base N x (AK st) f cdv A outer s H E).nox (EN st) b):St.Dfn P w K mg base x (k+1) ps (spD K np (BU (BV N.length b))):=by
 obtain⟨f,fd,Fu,hm⟩:=S.ex
 exact⟨f,fd,hm,Fu.kp,hbi f fd Fu,ae Fu sc hp λcdv A outer s H E hr=>hb f cdv A outer s H E hr⟩
end
noncomputable def AJ(f:Fn)(fs:Wp Ev):Ev:=λE S=>(evs fs E S).bind λr=>f r.1 r.2
theorem Y1{K:jz}{np:Nat}{f:Fn}{fs:Wp Ev}{σ:Sg}{H:Hp}{Q:VK}(hn:fs.length=np)(h:tD K (AJ f fs) σ H Q):Xr (spD K np f) [] E0 (tDs K fs) σ H Q:=by
 obtain⟨M,E,S,d,S',e,r,st,q⟩:=h
 obtain⟨⟨ds,S1⟩,e1,e⟩:=An e
 refine G8 e1 r st λvs H1 M1 g1 st1 r1=>?_
 rw[qA]
 exact⟨M1,ds,S1,d,S',by rw[Ot e1];exact hn,e,r1,st1,λv H2 M2 g2 st2 r2=>q _ _ M2 (g1.trans g2) st2 r2⟩
theorem YW{X:Cx}{k np:Nat}{x:Str}{ps:Wp Str}{f:Fn}{e:ky}{es:Wp ky}{fs:Wp Ev}{p pos:Pos}(d:St.Dfn X.prog X.w X.K X.mg X.base x k ps (spD X.K np f))(hr:K8 k X.A)(hg:Gl X x)(ha:DEs X (e::es) fs)(hn:fs.length=np:=by rfl)(hdb:(x==("__debug__":Str))=false:=by decide)(he:kc (e::es) X.env=(false,eval e X.env)::kc es X.env:=by rfl)(hpl:(backTo pos (kc es X.env)).any (·.1)=false:=by rfl):DE X (.Call (.Name x p) (e::es) [] pos) (AJ f fs):=⟨BW (St.fg d hr hg ha.pe hdb he hpl) λσ H Q z=>Y1 hn z⟩
abbrev Tf:=D->En->Sto->j6 En
noncomputable def tG(K:jz)(t:Tf):TG:=λv σ H Q=>∃M d E E' S,t d E S=Gc E'/\EnR K M E σ H/\StR K M S H/\C7 K M H v d/\∀σ',EnR K M E' σ' H->Q σ' H
structure DG(X:Cx)(tg:ky)(t:Tf):Prop where
 pe:PG X tg (tG X.K t)
noncomputable def tNm(i:Nat):Tf:=λd E _=>Gc (E.set i (Gc d))
theorem Qr{X:Cx}{e:ky}{t t':TG}(h:PG X e t)(m:∀v σ H Q,t' v σ H Q->t v σ H Q):PG X e t':=λpins s σ H v u Q I r q=>h pins s σ H v u Q I r (m _ _ _ _ q)
theorem Ak{X:Cx}{pos:Pos}(i:Nat){x:Str}(hN:X.N.Nodup)(hi:X.N[i]?=Gc x:=by rfl)(hx:Loc X.env.scope x:=by first|exact Or.inl rfl|exact yv rfl)(hf:X.fn x=true\/X.env.scope.names.lookup x=Gc .local:=by first|exact .inl rfl|exact .inr rfl):DG X (.Name x pos) (tNm i):=⟨Qr (YY hN hi hx hf) λv σ H Q z=>by
 obtain⟨M,d,E,E',S,e,r,st,rd,q⟩:=z
 cases e
 exact q _ (r.put rd)⟩
noncomputable def tMs:Wp Tf->Wp D->En->Sto->j6 En
 | [],[],E,_=>Gc E
 |t::ts,d::ds,E,S=>(t d E S).bind λE1=>tMs ts ds E1 S
 |_,_,_,_=>none
noncomputable def tTp(ts:Wp Tf):Tf:=λd E S=>match d with
 | .tup ds=>tMs ts ds E S
 | .lst ds=>tMs ts ds E S
 | .ref n=>(EH S n).bind λds=>tMs ts ds E S
 |_=>none
noncomputable def tGs(K:jz):Wp Tf->TGs
 | []=>gN
 |t::ts=>ZU (tG K t) (tGs K ts)
theorem PL{K:jz}{M:Ms}{H:Hp}{S:Sto}(st:StR K M S H):∀{ts:Wp Tf} {ds:Wp D} {vs:Wp V} {E E':En} {σ:Sg} {Q:Sg->Hp->Prop},tMs ts ds E S=Gc E'->EnR K M E σ H->Am K M H vs ds->(∀σ',EnR K M E' σ' H->Q σ' H)->tGs K ts vs σ H Q
 | [],[],_,E,E',σ,Q,e,r,rd,q=>by
   cases e
   cases rd
   exact⟨rfl,q _ r⟩
 |t::ts,d::ds,_,E,E',σ,Q,e,r,rd,q=>by
  obtain⟨E1,e1,e⟩:=An e
  cases rd with
  |cons h1 h2=>exact⟨_,_,rfl,M,d,E,E1,S,e1,r,st,h1,λσ1 r1=>PL st e r1 h2 q⟩
 | [],_::_,_,E,E',σ,Q,e,r,rd,q=>by cases e
 |_::_,[],_,E,E',σ,Q,e,r,rd,q=>by cases e
theorem MH:∀{ts:Wp Tf} {ds:Wp D} {E E':En} {S:Sto},tMs ts ds E S=Gc E'->ds.length=ts.length
 | [],[],_,_,_,_=>rfl
 |t::ts,d::ds,E,E',S,e=>by
  obtain⟨E1,e1,e⟩:=An e
  simp[MH e]
 | [],_::_,_,_,_,e=>by cases e
 |_::_,[],_,_,_,e=>by cases e
structure DGs(X:Cx)(es:Wp ky)(ts:Wp Tf):Prop where
 pe:PGs X es (tGs X.K ts)
theorem CY{X:Cx}:DGs X [] []:=⟨Xq⟩
theorem AQ{X:Cx}{e:ky}{es:Wp ky}{t:Tf}{ts:Wp Tf}(h:DG X e t)(g:DGs X es ts)(hs:(assignEach (e::es) X.env).map (·.2)=assign e X.env::(assignEach es X.env).map (·.2):=by rfl):DGs X (e::es) (t::ts):=⟨UM h.pe g.pe hs⟩
theorem GR{X:Cx}{k:Nat}{es:Wp ky}{ts:Wp Tf}{pos:Pos}(hc:X.calm=true)(h:DGs X es ts)(hn:(assignEach es X.env).length=ts.length:=by rfl)(hst:(assignEach es X.env).findIdx? (·.1)=none:=by rfl):DG X (.Tuple es k pos) (tTp ts):=⟨
 Qr (Zq hc h.pe hn hst) λv σ H Q z=>by
  obtain⟨M,d,E,E',S,e,r,st,rd,q⟩:=z
  unfold tTp at e
  split at e
  .cases rd with
   |tup h1 h2=>exact⟨_,_,rfl,.inl h1,by rw[h2.length];exact MH e,PL st e r h2 q⟩
  .cases rd with
   |lst h1 n h2=>exact⟨_,_,rfl,.inr h1,by rw[h2.length];exact MH e,PL st e r h2 q⟩
  .obtain⟨ds,e1,e⟩:=An e
   cases rd with
   |ref hc=>
    obtain⟨xs,h1,h2⟩:=st.cell _ _ _ hc (EZ e1)
    exact⟨_,_,rfl,.inr h1,by rw[h2.length];exact MH e,PL st e r h2 q⟩
  .cases e⟩
noncomputable def NT(t:Tf)(k:Ev):Ex:=λE S=>(k E S).bind λr=>(t r.1 E r.2).map λE'=>(.nx,E',r.2)
theorem GW{X:Cx}{tg e:ky}{t:Tf}{k:Ev}{pos:Pos}(h:DE X e k)(hg:DG X tg t)(hs:swapsWithSole [tg] e pos.line X.env=pure false:=by rfl)(hw:swappedStores [tg] e X.env=pure none:=by rfl)(h1:(assignEach [tg] X.env).map (·.2)=[assign tg X.env]:=by rfl):DS X (.Assign [tg] e pos) (NT t k):=⟨EL (XZ h.pe hg.pe hs hw h1) λDn σ H z=>by
 obtain⟨M,E,S,fl,E',S',e,r,st,q⟩:=z
 obtain⟨⟨d,S1⟩,e1,e⟩:=An e
 obtain⟨E2,e2,e⟩:=Ir e
 cases e
 exact⟨M,E,S,d,S1,e1,r,st,λv H1 M1 g1 st1 r1=>⟨M1,d,E,_,S1,e2,r.step g1.st,st1,r1,λσ' r2=>q _ _ M1 g1 r2 st1⟩⟩⟩
noncomputable def QQ(i j:Nat)(f g:Ev):Ex:=λE S=>(evs [f,g] E S).bind λr=>match r.1 with
 | [d,d']=>Gc (.nx,(E.set i (Gc d)).set j (Gc d'),r.2)
 |_=>none
theorem J7{X:Cx}{i j:Nat}{x y:Str}{a b:ky}{f g:Ev}{px py pt:Pos}{kt k2:Nat}{pt2 pos:Pos}(hc:X.calm=true)(hN:X.N.Nodup)(hi:X.N[i]?=Gc x)(hj:X.N[j]?=Gc y)(hij:i≠j)(hx:X.env.scope.names.lookup x=Gc .local)(hy:X.env.scope.names.lookup y=Gc .local)(ha:DE X a f)(hb:DE X b g)(hw:swappedStores [.Tuple [.Name x px,.Name y py] kt pt] (.Tuple [a,b] k2 pt2) X.env=pure (Gc [x,y]):=by rfl)(hsa:kc [a,b] X.env=(false,eval a X.env)::kc [b] X.env:=by rfl)(hsb:kc [b] X.env=(false,eval b X.env)::kc [] X.env:=by rfl)(hs:swapsWithSole [.Tuple [.Name x px,.Name y py] kt pt] (.Tuple [a,b] k2 pt2) pos.line X.env=pure false:=by rfl):DS X (.Assign [.Tuple [.Name x px,.Name y py] kt pt] (.Tuple [a,b] k2 pt2) pos) (QQ i j f g):=⟨by
 refine EL (ar hc hN hi hj hij hx hy (MN ha.pe (MN hb.pe Sw hsb) hsa) hw hs) λDn σ H z=>?_
 obtain⟨M,E,S,fl,E',S',e,r,st,q⟩:=z
 obtain⟨⟨ds,S1⟩,e1,e⟩:=An e
 refine G8 (K:=X.K) (fs:=[f,g]) e1 r st λvs H1 M1 g1 st1 r1=>?_
 dsimp only at e
 split at e
 .rename_i d d'
  cases e
  cases r1 with
  |cons h1 t=>
   cases t with
   |cons h2 t=>
    cases t
    exact⟨_,_,rfl,q _ _ M1 g1 (((r.step g1.st).put h1).put h2) st1⟩
 .cases e⟩
noncomputable def Wl:Ex:=λ_ _=>none
theorem V8{X:Cx}{st:lY}:DS X st Wl:=⟨λ_ _ _ _ _ _ z=>by
 obtain⟨M,E,S,fl,E',S',e,_⟩:=z
 cases e⟩
abbrev Gd:=Wp (Nat×Wp D)
def gOk(gs:Gd)(S:Sto):Prop:=∀g∈gs,EH S g.1=Gc g.2
abbrev Sr:=En->Sto->j6 ((Wp D×Gd)×Sto)
structure a0(K:jz)(M:Ms)(H:Hp)(gs:Gd)(ds:Wp D)(J:It):Prop where
 go:∀(i:Nat) (H2:Hp) (M2:Ms) (S2:Sto),Sp1 M H M2 H2->StR K M2 S2 H2->gOk gs S2->i<ds.length->J.go i H2
 stop:∀(i:Nat) (H2:Hp) (M2:Ms) (S2:Sto),Sp1 M H M2 H2->StR K M2 S2 H2->gOk gs S2->ds.length<=i->J.stop i H2
 yld:∀(i:Nat) (H2:Hp) (M2:Ms) (S2:Sto) (x:V) (H3:Hp) (d:D),Sp1 M H M2 H2->StR K M2 S2 H2->gOk gs S2->ds[i]?=Gc d->J.yld i H2 x H3->(∀a o,H2 a=Gc o->H3 a=Gc o)/\C7 K M2 H3 x d
noncomputable def tI(K:jz)(s:Sr):TI:=λσ H R=>∃M E S ds gs S',s E S=Gc ((ds,gs),S')/\EnR K M E σ H/\StR K M S H/\∀J H' M',Gr M H M' H'->StR K M' S' H'->a0 K M' H' gs ds J->R J H'
structure DI(X:Cx)(tg iter:ky)(s:Sr):Prop where
 pe:PI X tg iter (tI X.K s)
theorem Ml{X:Cx}{tg e:ky}{t t':TI}(h:PI X tg e t)(m:∀σ H R,t' σ H R->t σ H R):PI X tg e t':=λpins s σ H R I q=>h pins s σ H R I (m _ _ _ q)
noncomputable def hV(K:jz)(tl:TE):TI:=λσ H R=>tl σ H λx H1=>∃a,x=.ref a/\(((∃xs,SqL K H1 a xs)/\R (Itl K a) H1)\/((∃xs,SqT K H1 a xs)/\R (Itt K a) H1))
theorem aT{X:Cx}{tg l:ky}{tl:TE}(hl:PE X l tl):PI X tg l (hV X.K tl):=by
 intro pins s σ H R I h
 refine thn (hl pins s σ H _ I h) λv s1 ⟨x,H1,I1,r1,q1⟩=>?_
 obtain⟨a,e,q1⟩:=q1
 subst e
 cases r1
 rcases q1 with⟨⟨xs,hq⟩,q⟩|⟨⟨xs,hq⟩,q⟩
 .obtain⟨its,rv,p,hz⟩:=I1.list hq
  refine md p.isList ?_
  refine⟨s1.heap.objs.size,[s1.heap.objs.size],_,_,H1,rfl,I1.kept (t':=s1.toks) λb o e=>j0 _ e,Qz a _,⟨_,kH _ rfl,rfl,rfl⟩,λb hb=>?_,q⟩
  have e:b=s1.heap.objs.size:=by simpa using hb
  subst e
  exact I1.WV (kA _) (I1.hok.fresh (kA _))
 .obtain⟨its,rv,p,hz⟩:=I1.tuple hq
  refine my (show s1.heap.IsTuple a its.toArray from p) ?_
  refine⟨s1.heap.objs.size,[s1.heap.objs.size],_,_,H1,rfl,I1.kept (t':=s1.toks) λb o e=>j0 _ e,QA a _,⟨_,kH _ rfl,rfl,rfl⟩,λb hb=>?_,q⟩
  have e:b=s1.heap.objs.size:=by simpa using hb
  subst e
  exact I1.WV (kA _) (I1.hok.fresh (kA _))
theorem Am.get'{K:jz}{M:Ms}{H:Hp}{vs:Wp V}{ds:Wp D}{i:Nat}(h:Am K M H vs ds)(hi:i<ds.length):∃x,vs[i]?=Gc x:=by
 have:=h.length
 exact⟨vs[i],kE (by omega)⟩
structure SqF(K:jz)(M:Ms)(H:Hp)(gs:Gd)(k:lA)(a:j9)(ds:Wp D):Prop where
 keep:∀(H2:Hp) (M2:Ms) (S2:Sto),Sp1 M H M2 H2->StR K M2 S2 H2->gOk gs S2->∃xs,(if k=true then SqT K H2 a xs else SqL K H2 a xs)/\Am K M2 H2 xs ds
noncomputable def sqD(S:Sto):D->j6 (Wp D×Gd)
 | .tup ds=>Gc (ds,[])
 | .lst ds=>Gc (ds,[])
 | .ref n=>(EH S n).map λds=>(ds,[(n,ds)])
 | .scr ns=>Gc (ns.map .int,[])
 |_=>none
theorem Pq{K:jz}{M:Ms}{H:Hp}{S:Sto}{v:V}{d:D}{ds:Wp D}{gs:Gd}(st:StR K M S H)(h:C7 K M H v d)(e:sqD S d=Gc (ds,gs)):∃k a,v=.ref a/\SqF K M H gs k a ds:=by
 cases h with
 |tup h r=>cases e;exact⟨true,_,rfl,⟨λH2 M2 S2 g _ _=>⟨_,g.sqT h,r.step g⟩⟩⟩
 |lst h n r=>cases e;exact⟨false,_,rfl,⟨λH2 M2 S2 g _ _=>⟨_,SqL.of (g.keep _ _ h n),r.step g⟩⟩⟩
 |scr h=>
  cases e
  refine⟨false,_,rfl,⟨λH2 M2 S2 g _ _=>⟨_,?_,IG⟩⟩⟩
  rcases h with⟨h,n⟩|h
  .rcases h with h|⟨o,h⟩
   .exact .inl (.inl (g.keep _ _ h n))
   .exact .inl (.inr ⟨o,g.keep _ _ h n⟩)
  .exact .inr h
 |ref h=>
  obtain⟨es,e1,e⟩:=Ir e
  cases e
  refine⟨false,_,rfl,⟨λH2 M2 S2 g st2 ok=>?_⟩⟩
  obtain⟨xs,h1,h2⟩:=st2.cell _ _ _ (KI g.pre h) (EZ (ok _ (kX.mpr rfl)))
  exact⟨xs,SqL.of h1,h2⟩
 |non=>cases e
 |bl b=>cases e
 |int b=>cases e
 |str b=>cases e
 |ty b=>cases e
 |dct h n r=>cases e
theorem fR{K:jz}{M:Ms}{H:Hp}{gs:Gd}{k:lA}{a:j9}{ds:Wp D}(h:SqF K M H gs k a ds):a0 K M H gs ds (if k=true then Itt K a else Itl K a):=by
 cases k with
 |true=>
  exact{
   go:=λi H2 M2 S2 g st ok hi=>let⟨xs,h1,h2⟩:=h.keep H2 M2 S2 g st ok;let⟨x,hx⟩:=h2.get' hi;⟨xs,x,h1,hx⟩
   stop:=λi H2 M2 S2 g st ok hi=>let⟨xs,h1,h2⟩:=h.keep H2 M2 S2 g st ok;⟨xs,h1,by have:=h2.length;omega⟩
   yld:=λi H2 M2 S2 x H3 d g st ok hd hy=>by
    obtain⟨xs,h1,h2⟩:=h.keep H2 M2 S2 g st ok
    obtain⟨rfl,hy⟩:=hy
    refine⟨λ_ _ e=>e,?_⟩
    have hx:=hy xs h1
    obtain⟨x',h3,h4⟩:=h2.get hd
    rw[hx]at h3;cases h3
    exact h4}
 |false=>
  exact{
   go:=λi H2 M2 S2 g st ok hi=>let⟨xs,h1,h2⟩:=h.keep H2 M2 S2 g st ok;let⟨x,hx⟩:=h2.get' hi;⟨xs,x,h1,hx⟩
   stop:=λi H2 M2 S2 g st ok hi=>let⟨xs,h1,h2⟩:=h.keep H2 M2 S2 g st ok;⟨xs,h1,by have:=h2.length;omega⟩
   yld:=λi H2 M2 S2 x H3 d g st ok hd hy=>by
    obtain⟨xs,h1,h2⟩:=h.keep H2 M2 S2 g st ok
    obtain⟨rfl,hy⟩:=hy
    refine⟨λ_ _ e=>e,?_⟩
    have hx:=hy xs h1
    obtain⟨x',h3,h4⟩:=h2.get hd
    rw[hx]at h3;cases h3
    exact h4}
noncomputable def GU(f:Ev):Sr:=λE S=>(f E S).bind λr=>(sqD r.2 r.1).map λp=>(p,r.2)
theorem MV{S:Sto}{d:D}{ds:Wp D}{gs:Gd}(e:sqD S d=Gc (ds,gs)):gOk gs S:=by
 cases d<;>first|(cases e;done)|skip
 all_goals first
  |(cases e;intro g hg;cases hg;done)
  |(obtain⟨es,e1,e⟩:=Ir e
    cases e
    intro g hg
    rw[kX.mp hg]
    exact e1)
theorem Cj{X:Cx}{tg e:ky}{f:Ev}(h:DE X e f):DI X tg e (GU f):=⟨Ml (aT h.pe) λσ H R z=>by
 obtain⟨M,E,S,ds,gs,S',e,r,st,q⟩:=z
 obtain⟨⟨d,S1⟩,e1,e⟩:=An e
 obtain⟨⟨ds',gs'⟩,e2,e⟩:=Ir e
 cases e
 refine⟨M,E,S,d,S1,e1,r,st,λv H1 M1 g1 st1 r1=>?_⟩
 obtain⟨k,a,rfl,sq⟩:=Pq st1 r1 e2
 obtain⟨xs,hs,_⟩:=sq.keep H1 M1 S1 (Gr.refl st1.mo).st st1 (MV e2)
 have it:=fR sq
 refine⟨a,rfl,?_⟩
 cases k with
 |true=>exact .inr ⟨⟨xs,hs⟩,q _ _ M1 g1 st1 it⟩
 |false=>exact .inl ⟨⟨xs,hs⟩,q _ _ M1 g1 st1 it⟩⟩
noncomputable def J6(lo:Int)(n:Nat):Wp D:=(kq n).map λ(i:Nat)=>.int (lo+(i:Int))
theorem Zj{K:jz}{M:Ms}{H:Hp}{lo:Int}{n:Nat}:a0 K M H [] (J6 lo n) (Itr lo n) where
 go:=λi H2 M2 S2 g st ok hi=>by
  have:i<n:=by unfold J6 at hi;simpa using hi
  exact this
 stop:=λi H2 M2 S2 g st ok hi=>by
  have:n<=i:=by unfold J6 at hi;simpa using hi
  exact this
 yld:=λi H2 M2 S2 x H3 d g st ok hd hy=>by
  obtain⟨rfl,rfl⟩:=hy
  refine⟨λ_ _ e=>e,?_⟩
  unfold J6 at hd
  rw[kn]at hd
  cases e:(kq n)[i]? with
  |none=>rw[e]at hd;cases hd
  |some j=>
   rw[e]at hd
   cases hd
   have:j=i:=by
    obtain⟨h1,h2⟩:=kK.mp e
    simpa using h2.symm
   subst this
   exact .int _
noncomputable def Lx(fs:Wp Ev):Sr:=λE S=>(evs fs E S).bind λr=>match r.1 with
 | [.int j]=>if(decide (-(2^62)<=j) && decide (j<2^62))=true then Gc ((J6 0 j.toNat,[]),r.2)else none
 | [.int i,.int j]=>if(decide (-(2^62)<=i) && decide (i<2^62) && decide (-(2^62)<=j) && decide (j<2^62))=true then Gc ((J6 i (j-i).toNat,[]),r.2)else none
 |_=>none
theorem VQ{K:jz}{M:Ms}{H:Hp}{vs:Wp V}{j:Int}(h:Am K M H vs [.int j]):vs=[.int j]:=by
 cases h with
 |cons h t=>cases t;cases h;rfl
theorem FA{X:Cx}{tg a:ky}{o:Ev}{p pos:Pos}(hg:Gl X "range")(hm:X.mg "range"=none)(ha:DEs X [a] [o])(hs:kc [a] X.env=[(false,eval a X.env)]:=by rfl):DI X tg (.Call (.Name "range" p) [a] [] pos) (Lx [o]):=⟨
 Ml (QW hg hm ha.pe hs) λσ H R z=>by
  obtain⟨M,E,S,ds,gs,S',e,r,st,q⟩:=z
  obtain⟨⟨ws,S1⟩,e1,e⟩:=An e
  have hl:=Ot e1
  refine G8 e1 r st λvs H1 M1 g1 st1 r1=>?_
  dsimp only at e
  split at e
  .split at e
   .rename_i j hk
    rw[kQ]at hk
    cases e
    exact⟨j,VQ r1,kO hk.1,kO hk.2,q _ _ M1 g1 st1 Zj⟩
   .cases e
  .simp at hl
  .cases e⟩
open Classical in
def HN(gs:Gd)(t:Tf)(body:Ex):Wp D->En->Sto->j6 (Fl×En×Sto)
 | [],E,S=>if gOk gs S then Gc (.nx,E,S)else none
 |d::ds,E,S=>if gOk gs S then(t d E S).bind λE1=>(body E1 S).bind λr=>match r.1 with
  | .nx=>HN gs t body ds r.2.1 r.2.2
  | .ret w=>Gc (.ret w,r.2)
  else none
def HH(s:Sr)(t:Tf)(body:Ex):Ex:=λE S=>(s E S).bind λr=>HN r.1.2 t body r.1.1 E r.2
theorem Ho{α:Type}{xs:Wp α}{i:Nat}{x:α}{r:Wp α}(h:xs.drop i=x::r):xs[i]?=Gc x/\xs.drop (i+1)=r/\i<xs.length:=by
 have hi:i<xs.length:=by
  by_cases hi:i<xs.length
  .exact hi
  .rw[nQ (by omega)]at h;cases h
 rw[mC hi]at h
 cases h
 exact⟨kE hi,rfl,hi⟩
theorem EB{X:Cx}{tg iter:ky}{body:Wp lY}{s:Sr}{t:Tf}{b:Ex}{pos:Pos}(hp:uR (model X.prog X.w) X.A X.env X.xe)(hc:X.calm=true)(hi:DI X tg iter s)(hg:DG X tg t)(hb:DSs X body b)(hs:∀x,foldedSetIterable iter X.env x=pure x:=by intro _;rfl):DS X (.For tg iter body [] pos) (HH s t b):=⟨EL (XI hp hc hi.pe hg.pe hb.pe hs) λDn σ H z=>by
 obtain⟨M,E,S,fl,E',S',e,r,st,q⟩:=z
 obtain⟨⟨⟨ds,gs⟩,S1⟩,e1,e⟩:=An e
 dsimp only at e
 refine⟨M,E,S,ds,gs,S1,e1,r,st,λJ H1 M1 g1 st1 it=>?_⟩
 refine⟨λi m σ' H'=>m=ds.length-i/\∃E2 S2 M2,HN gs t b (ds.drop i) E2 S2=Gc (fl,E',S')/\Gr M1 H1 M2 H'/\EnR X.K M2 E2 σ' H'/\StR X.K M2 S2 H',⟨_,rfl,E,S1,M1,e,.refl st1.mo,r.step g1.st,st1⟩,λi m σ2 H2 hW=>?_⟩
 obtain⟨rfl,E2,S2,M2,e2,g2,r2,st2⟩:=hW
 cases ed:ds.drop i with
 |nil=>
  rw[ed]at e2
  unfold HN at e2
  split at e2
  .rename_i ok
   cases e2
   left
   exact⟨it.stop i H2 M2 _ g2.st st2 ok (pM.mp ed),q _ _ M2 (g1.trans g2) r2 st2⟩
  .cases e2
 |cons d rest=>
  obtain⟨d1,d2,d3⟩:=Ho ed
  rw[ed]at e2
  unfold HN at e2
  split at e2
  .rename_i ok
   obtain⟨E3,e3,e2⟩:=An e2
   obtain⟨⟨f4,E4,S4⟩,e4,e2⟩:=An e2
   dsimp only at e2
   right
   refine⟨it.go i H2 M2 S2 g2.st st2 ok d3,λσ' H'=>∃m',m'<ds.length-i/\(m'=ds.length-(i+1)/\∃E2 S2 M2,HN gs t b (ds.drop (i+1)) E2 S2=Gc (fl,E',S')/\Gr M1 H1 M2 H'/\EnR X.K M2 E2 σ' H'/\StR X.K M2 S2 H'),λσ' H' z=>z,λx H3 hy=>?_⟩
   obtain⟨k3,rx⟩:=it.yld i H2 M2 S2 x H3 d g2.st st2 ok d1 hy
   have g3:Gr M2 H2 M2 H3:=.grow st2.mo k3
   refine⟨M2,d,E2,E3,S2,e3,r2.step g3.st,st2.grow k3,rx,λσ4 r4=>?_⟩
   refine⟨M2,E3,S2,f4,E4,S4,e4,r4,st2.grow k3,?_⟩
   split at e2
   .exact λσ6 H6 M6 g6 r6 st6=>⟨_,by omega,rfl,E4,S4,M6,by rw[d2];exact e2,(g2.trans g3).trans g6,r6,st6⟩
   .cases e2
    exact λv H6 M6 g6 st6 r6=>q _ _ M6 (((g1.trans g2).trans g3).trans g6) st6 r6
  .cases e2⟩
noncomputable def G9(c:Ev)(b:Ex):Nat->En->Sto->j6 (Fl×En×Sto)
 |0,_,_=>none
 |k+1,E,S=>(c E S).bind λr=>match r.1 with
  | .bl true=>(b E r.2).bind λp=>match p.1 with
    | .nx=>G9 c b k p.2.1 p.2.2
    | .ret w=>Gc (.ret w,p.2)
  | .bl false=>Gc (.nx,E,r.2)
  |_=>none
noncomputable def RG(fuel:En->Nat)(c:Ev)(b:Ex):Ex:=λE S=>G9 c b (fuel E) E S
theorem Va{X:Cx}{c:ky}{body:Wp lY}{k:Ev}{b:Ex}{pos:Pos}(fuel:En->Nat)(hp:uR (model X.prog X.w) X.A X.env X.xe)(hc:DT X c k)(hb:DSs X body b):DS X (.While c body [] pos) (RG fuel k b):=⟨
 EL (Ux hp hc.pe hb.pe) λDn σ H z=>by
  obtain⟨M,E,S,fl,E',S',e,r,st,q⟩:=z
  refine⟨λm σ' H'=>∃E2 S2 M2,G9 k b m E2 S2=Gc (fl,E',S')/\Gr M H M2 H'/\EnR X.K M2 E2 σ' H'/\StR X.K M2 S2 H',⟨fuel E,E,S,M,e,.refl st.mo,r,st⟩,λm σ2 H2 hW=>?_⟩
  obtain⟨E2,S2,M2,e2,g2,r2,st2⟩:=hW
  cases m with
  |zero=>cases e2
  |succ m=>
   obtain⟨⟨w3,S3⟩,e3,e2⟩:=An e2
   dsimp only at e2
   split at e2
   .obtain⟨⟨f4,E4,S4⟩,e4,e2⟩:=An e2
    refine⟨M2,E2,S2,true,S3,e3,r2,st2,λH3 M3 g3 st3=>?_⟩
    refine Vw ⟨λσ' H'=>∃m',m'<m+1/\∃E2 S2 M2,G9 k b m' E2 S2=Gc (fl,E',S')/\Gr M H M2 H'/\EnR X.K M2 E2 σ' H'/\StR X.K M2 S2 H',λσ' H' z=>z,?_⟩
    refine⟨M3,E2,S3,f4,E4,S4,e4,r2.step g3.st,st3,?_⟩
    dsimp only at e2
    split at e2
    .exact λσ5 H5 M5 g5 r5 st5=>⟨m,by omega,E4,S4,M5,e2,(g2.trans g3).trans g5,r5,st5⟩
    .cases e2
     exact λv H5 M5 g5 st5 r5=>q _ _ M5 ((g2.trans g3).trans g5) st5 r5
   .cases e2
    refine⟨M2,_,S2,false,_,e3,r2,st2,λH3 M3 g3 st3=>?_⟩
    refine Uk ?_
    exact q _ _ M3 (g2.trans g3) (r2.step g3.st) st3
   .cases e2⟩
noncomputable def X3(i:Nat):En->Nat:=λE=>match at? E i with
 |some (.int j)=>j.natAbs+2
 |_=>0
section
variable{K:jz}{M M' M2:Ms}{H H' H2:Hp}{S:Sto}
structure GrX(M:Ms)(H:Hp)(M':Ms)(H':Hp):Prop where
 pre:M.cel <+: M'.cel
 fresh:∀a,a∈M'.cel->a∈M.cel\/H a=none
 keep:∀a o,H a=Gc o->a∉M.cel->H' a=Gc o
 some:∀a,H a≠none->H' a≠none
theorem GrX.none(g:GrX M H M' H'){a:j9}(h:H' a=none):H a=none:=by
 cases e:H a with
 |none=>rfl
 |some o=>exact absurd h (g.some a (by rw[e];intro z;cases z))
theorem Gr.x(g:Gr M H M' H'):GrX M H M' H':=⟨g.pre,g.fresh,g.keep,g.some⟩
theorem GrX.trans(h:GrX M H M' H')(g:GrX M' H' M2 H2):GrX M H M2 H2:=
 ⟨h.pre.trans g.pre,λa z=>(g.fresh a z).elim (h.fresh a) λz=>.inr (h.none z),λa o e n=>g.keep a o (h.keep a o e n) (λz=>by
   rcases h.fresh a z with z|z
   .exact n z
   .rw[e]at z;cases z),λa e=>g.some a (h.some a e)⟩
theorem StR.aO(r:StR K M S H){a:j9}(e:H a=none):StR K ⟨M.cel,a::M.tmp⟩ S (upd H a (.lst []))/\GrX M H ⟨M.cel,a::M.tmp⟩ (upd H a (.lst []))/\Sp1 M H ⟨M.cel,a::M.tmp⟩ (upd H a (.lst [])):=by
 have k:∀b o,H b=Gc o->upd H a (.lst []) b=Gc o:=FF e
 have na:¬M.mem a:=λz=>r.mo.some z e
 have s1:Sp1 M H ⟨M.cel,a::M.tmp⟩ (upd H a (.lst [])):=⟨r.mo,lT,λb z=>by
  rcases z with z|z
  .exact .inl (.inl z)
  .rcases kG.mp z with z|z
   .subst z;exact .inr e
   .exact .inl (.inr z),λb o eb _=>k b o eb⟩
 refine⟨⟨λb z=>?_,r.nd,λb hb z=>?_,r.len,λn b c h1 h2=>?_⟩,⟨lT,λb z=>.inl z,λb o eb _=>k b o eb,λb eb z=>?_⟩,s1⟩
 .by_cases h:b=a
  .subst h;exact .inl ⟨[],As⟩
  .rw[AV h]
   refine r.mo b ?_
   rcases z with z|z
   .exact .inl z
   .rcases kG.mp z with z|z
    .exact absurd z h
    .exact .inr z
 .rcases kG.mp hb with hb|hb
  .subst hb;exact na (.inl z)
  .exact r.nt b hb z
 .have q:=r.cell n b c h1 h2
  cases c with
  |lst ds=>obtain⟨xs,e,rr⟩:=q;exact⟨xs,k _ _ e,rr.step s1⟩
  |dct ds=>obtain⟨xs,e,rr⟩:=q;exact⟨xs,k _ _ e,rr.step s1⟩
  |tab ds=>obtain⟨xs,e,rr⟩:=q;exact⟨xs,k _ _ e,rr.step s1⟩
 .cases h:H b with
  |none=>exact eb h
  |some o=>rw[k b o h]at z;cases z
theorem StR.Yq(r:StR K M S H){a:j9}{ys:Wp V}(ha:a∈M.tmp):StR K M S (upd H a (.lst ys))/\Sp1 M H M (upd H a (.lst ys)):=by
 have s1:Sp1 M H M (upd H a (.lst ys)):=⟨r.mo,lT,λb z=>.inl z,λb o eb nb=>by rw[AV (λz=>nb (by rw[z];exact .inr ha))];exact eb⟩
 refine⟨⟨λb z=>?_,r.nd,r.nt,r.len,λn b c h1 h2=>?_⟩,s1⟩
 .by_cases h:b=a
  .subst h;exact .inl ⟨ys,As⟩
  .rw[AV h];exact r.mo b z
 .have hb:b≠a:=λz=>r.nt a ha (by rw[<-z];exact kW h1)
  have q:=r.cell n b c h1 h2
  cases c with
  |lst ds=>obtain⟨xs,e,rr⟩:=q;exact⟨xs,by rw[AV hb];exact e,rr.step s1⟩
  |dct ds=>obtain⟨xs,e,rr⟩:=q;exact⟨xs,by rw[AV hb];exact e,rr.step s1⟩
  |tab ds=>obtain⟨xs,e,rr⟩:=q;exact⟨xs,by rw[AV hb];exact e,rr.step s1⟩
theorem StR.ZE{c:Wp j9}{t:Wp j9}{a:j9}{xs:Wp V}{ds:Wp D}{cf:lA}{d:D}{S':Sto}(r:StR K ⟨c,a::t⟩ S H)(nt:a∉t)(e:H a=Gc (.lst xs))(rr:Am K ⟨c,a::t⟩ H xs ds)(ef:fin cf (.own ds) S=Gc (d,S')):∃c',StR K ⟨c',t⟩ S' H/\C7 K ⟨c',t⟩ H (.ref a) d/\c <+: c'/\(∀b∈c',b∈c\/b=a):=by
 have nc:a∉c:=r.nt a kJ
 cases cf with
 |false=>
  cases ef
  have s1:Sp1 ⟨c,a::t⟩ H ⟨c,t⟩ H:=⟨r.mo,lT,λb z=>.inl (z.imp id (kC _)),λ_ _ e _=>e⟩
  refine⟨c,⟨λb z=>r.mo b (z.imp id (kC _)),r.nd,λb hb=>r.nt b (kC _ hb),r.len,λn b cl h1 h2=>?_⟩,.lst e (λz=>z.elim nc nt) (rr.step s1),lT,λb z=>.inl z⟩
  have q:=r.cell n b cl h1 h2
  cases cl with
  |lst ds=>obtain⟨xs,e,rr⟩:=q;exact⟨xs,e,rr.step s1⟩
  |dct ds=>obtain⟨xs,e,rr⟩:=q;exact⟨xs,e,rr.step s1⟩
  |tab ds=>obtain⟨xs,e,rr⟩:=q;exact⟨xs,e,rr.step s1⟩
 |true=>
  cases ef
  have s1:Sp1 ⟨c,a::t⟩ H ⟨c++[a],t⟩ H:=⟨r.mo,oj _ _,λb z=>by
   rcases z with z|z
   .rcases kY.mp z with z|z
    .exact .inl (.inl z)
    .exact .inl (.inr (by rw[kX.mp z];exact kJ))
   .exact .inl (.inr (kC _ z)),λ_ _ e _=>e⟩
  have hl:c.length=S.length:=r.len
  refine⟨c++[a],⟨λb z=>?_,?_,λb hb z=>?_,by simp[hl],λn b cl h1 h2=>?_⟩,.ref ?_,oj _ _,λb z=>?_⟩
  .refine r.mo b ?_
   rcases z with z|z
   .rcases kY.mp z with z|z
    .exact .inl z
    .exact .inr (by rw[kX.mp z];exact kJ)
   .exact .inr (kC _ z)
  .rw[mG]
   refine⟨r.nd,by simp,λx hx y hy z=>?_⟩
   simp at hy;subst hy
   exact nc (by rw[<-z];exact hx)
  .rcases kY.mp z with z|z
   .exact r.nt b (kC _ hb) z
   .rw[kX.mp z]at hb;exact nt hb
  .by_cases h:n<S.length
   .rw[j8 (by rw[hl];exact h)]at h1
    rw[j8 h]at h2
    have q:=r.cell n b cl h1 h2
    cases cl with
    |lst ds=>obtain⟨xs,e,rr⟩:=q;exact⟨xs,e,rr.step s1⟩
    |dct ds=>obtain⟨xs,e,rr⟩:=q;exact⟨xs,e,rr.step s1⟩
    |tab ds=>obtain⟨xs,e,rr⟩:=q;exact⟨xs,e,rr.step s1⟩
   .have hm:n=S.length:=by
     have:=(kK.mp h2).1
     simp at this;omega
    subst hm
    rw[lG (by rw[hl];exact kA _)]at h1
    rw[lG (kA _)]at h2
    rw[hl]at h1
    simp at h1 h2
    subst h1 h2
    exact⟨xs,e,rr.step s1⟩
  .rw[<-hl];exact kR
  .rcases kY.mp z with z|z
   .exact .inl z
   .exact .inr (kX.mp z)
end
open Classical in
def CV(gs:Gd)(t:Tf)(c:Ev)(f:Ev):Wp D->Wp D->En->Sto->j6 (Wp D×Sto)
 | [],acc,_,S=>if gOk gs S then Gc (acc,S)else none
 |d::ds,acc,E,S=>if gOk gs S then(if acc.length<sizeLine then(t d E S).bind λE1=>(c E1 S).bind λr=>match r.1 with
   | .bl true=>(f E1 r.2).bind λp=>CV gs t c f ds (acc++[p.1]) E1 p.2
   | .bl false=>CV gs t c f ds acc E1 r.2
   |_=>none
  else none)else none
noncomputable def Dl:Ev:=λ_ S=>Gc (.bl true,S)
noncomputable def Qt(cap:Wp Nat)(m:Nat)(E:En):En:=cap.map (at? E)++kZ m none
def Lv(cf:lA)(cap:Wp Nat)(m:Nat)(s:Sr)(t:Tf)(c:Ev)(f:Ev):Ev:=λE S=>(s E S).bind λr=>(CV r.1.2 t c f r.1.1 [] (Qt cap m E) r.2).bind λq=>fin cf (.own q.1) q.2
noncomputable abbrev Dx:=Lv false
noncomputable abbrev WT:=Lv true
noncomputable def ixC(cap:Wp Nat)(m:Nat):Wp (j6 Nat):=cap.map Gc++kZ m none
theorem EnR.cap{K:jz}{M:Ms}{E:En}{σ:Sg}{H:Hp}(r:EnR K M E σ H)(cap:Wp Nat)(m:Nat):EnR K M (Qt cap m E) (sig (ixC cap m) σ) H:=by
 unfold Qt sig ixC
 refine⟨by simp,λi d e=>?_⟩
 have h1:=Rm e
 rw[kn]at h1
 cases e1:cap[i]? with
 |none=>rw[e1]at h1;cases h1
 |some j=>
  rw[e1]at h1
  have h2:at? E j=Gc d:=by simpa using h1
  obtain⟨v,hv,rd⟩:=r.val j d (at?_some h2)
  refine⟨v,?_,rd⟩
  have hi:i<cap.length:=(kK.mp e1).1
  rw[mR,j8 (by simpa using hi),kn,kn,e1]
  show Gc ((σ[j]?).join)=Gc (Gc v)
  rw[hv]
  rfl
theorem QY{K:jz}{cf:lA}{cap:Wp Nat}{m:Nat}{s:Sr}{t:Tf}{c f:Ev}{σ:Sg}{H:Hp}{Q:VK}(h:tD K (Lv cf cap m s t c f) σ H Q):YX (ixC cap m) (tI K s) (tG K t) (tDT K c) (tD K f) σ H Q:=by
 obtain⟨M,E,S,d,S',e,r,st,q⟩:=h
 obtain⟨⟨⟨ds,gs⟩,S1⟩,e1,e⟩:=An e
 obtain⟨⟨accf,Sf⟩,e3,e⟩:=An e
 dsimp only at e e3
 refine⟨M,E,S,ds,gs,S1,e1,r,st,λJ H1 M1 g1 st1 it A0 hD=>?_⟩
 obtain⟨st0,gx0,s0⟩:=st1.aO hD
 have nt:A0∉M1.tmp:=λz=>st1.mo.some (.inr z) hD
 refine⟨λi mm σ' H' ys=>mm=ds.length-i/\∃Ei Si Mi acc,CV gs t c f (ds.drop i) acc Ei Si=Gc (accf,Sf)/\GrX M1 H1 Mi H'/\Mi.tmp=A0::M1.tmp/\EnR K Mi Ei σ' H'/\StR K Mi Si H'/\H' A0=Gc (.lst ys)/\Am K Mi H' ys acc,
  ⟨_,rfl,_,S1,_,[],e3,gx0,rfl,((r.step g1.st).step s0).cap cap m,st0,As,.nil⟩,λi mm σ2 H2 ys hW=>?_⟩
 obtain⟨rfl,Ei,Si,Mi,acc,ec,gx,ht,r2,st2,hy,ry⟩:=hW
 have sp:Sp1 M1 H1 Mi H2:=⟨st1.mo,gx.pre,λa z=>by
  rcases z with z|z
  .exact(gx.fresh a z).imp .inl id
  .rw[ht]at z
   rcases kG.mp z with z|z
   .subst z;exact .inr hD
   .exact .inl (.inr z),λa o eo no=>gx.keep a o eo λz=>no (.inl z)⟩
 refine⟨hy,?_⟩
 cases ed:ds.drop i with
 |nil=>
  rw[ed]at ec
  unfold CV at ec
  split at ec
  .rename_i ok
   cases ec
   left
   obtain⟨ci,ti⟩:=Mi
   have ht':ti=A0::M1.tmp:=ht
   subst ht'
   obtain⟨c',st',rd',pr',sub'⟩:=st2.ZE nt hy ry e
   refine⟨it.stop i H2 _ _ sp st2 ok (pM.mp ed),q _ _ ⟨c',M1.tmp⟩ (g1.trans ⟨st1.mo,gx.pre.trans pr',rfl,λa z=>?_,gx.keep,gx.some⟩) st' rd'⟩
   rcases sub' a z with z|z
   .exact gx.fresh a z
   .subst z;exact .inr hD
  .cases ec
 |cons d rest=>
  obtain⟨d1,d2,d3⟩:=Ho ed
  rw[ed]at ec
  unfold CV at ec
  split at ec
  .rename_i ok
   split at ec
   .rename_i hz
    obtain⟨E3,e4,ec⟩:=An ec
    obtain⟨⟨w5,S5⟩,e5,ec⟩:=An ec
    right
    refine⟨it.go i H2 Mi Si sp st2 ok d3,by rw[ry.length];exact hz,λx H3 hyl=>?_⟩
    obtain⟨k3,rx⟩:=it.yld i H2 Mi Si x H3 d sp st2 ok d1 hyl
    have g3:Gr Mi H2 Mi H3:=.grow st2.mo k3
    have st3:=st2.grow k3
    refine⟨Mi,d,Ei,E3,Si,e4,r2.step g3.st,st3,rx,λσ4 r4=>?_⟩
    have hA:A0∈Mi.tmp:=by rw[ht];exact kJ
    have hy3:H3 A0=Gc (.lst ys):=k3 _ _ hy
    have ry3:Am K Mi H3 ys acc:=ry.step g3.st
    have fin:∀{E6:En} {S6:Sto} {M6:Ms} {H6:Hp} {zs:Wp V} {acc6:Wp D},CV gs t c f rest acc6 E6 S6=Gc (accf,Sf)->GrX M1 H1 M6 H6->M6.tmp=A0::M1.tmp->EnR K M6 E6 σ4 H6->StR K M6 S6 H6->H6 A0=Gc (.lst zs)->Am K M6 H6 zs acc6->
      ∃m',m'<ds.length-i/\(m'=ds.length-(i+1)/\∃Ei Si Mi acc,CV gs t c f (ds.drop (i+1)) acc Ei Si=Gc (accf,Sf)/\GrX M1 H1 Mi H6/\Mi.tmp=A0::M1.tmp/\EnR K Mi Ei σ4 H6/\StR K Mi Si H6/\H6 A0=Gc (.lst zs)/\Am K Mi H6 zs acc):=
     λ{E6 S6 M6 H6 zs acc6} ec g6 t6 r6 st6 h6 y6=>⟨_,by omega,rfl,E6,S6,M6,acc6,by rw[d2];exact ec,g6,t6,r6,st6,h6,y6⟩
    dsimp only at ec
    split at ec
    .obtain⟨⟨w7,S7⟩,e7,ec⟩:=An ec
     refine⟨Mi,E3,Si,true,S5,e5,r4,st3,λH5 M5 g5 st5=>?_⟩
     refine Vw ?_
     refine⟨M5,E3,S5,w7,S7,e7,r4.step g5.st,st5,λy H7 M7 g7 st7 d7=>?_⟩
     have nA:∀{M6:Ms} {H6:Hp} {S6:Sto},StR K M6 S6 H6->A0∈M6.tmp->A0∉M6.cel:=λr6 h6=>r6.nt A0 h6
     have hA5:A0∈M5.tmp:=by rw[g5.tmp];exact hA
     have hA7:A0∈M7.tmp:=by rw[g7.tmp];exact hA5
     have hy5:H5 A0=Gc (.lst ys):=g5.keep _ _ hy3 (nA st3 hA)
     have hy7:H7 A0=Gc (.lst ys):=g7.keep _ _ hy5 (nA st5 hA5)
     have ry7:Am K M7 H7 ys acc:=(ry3.step g5.st).step g7.st
     refine⟨hy7,?_⟩
     obtain⟨st8,s8⟩:=st7.Yq (ys:=ys++[y]) hA7
     have gx7:GrX M1 H1 M7 H7:=((gx.trans g3.x).trans g5.x).trans g7.x
     have gx8:GrX M1 H1 M7 (upd H7 A0 (.lst (ys++[y]))):=⟨gx7.pre,gx7.fresh,λa o eo no=>by
      rw[AV (λz=>by subst z;rw[hD]at eo;cases eo)]
      exact gx7.keep a o eo no,λa ea=>by
      by_cases h:a=A0
      .subst h;rw[As];intro z;cases z
      .rw[AV h];exact gx7.some a ea⟩
     exact fin ec gx8 (by rw[g7.tmp,g5.tmp];exact ht) (((r4.step g5.st).step g7.st).step s8) st8 As ((ry7.append (.cons d7 .nil)).step s8)
    .refine⟨Mi,E3,Si,false,S5,e5,r4,st3,λH5 M5 g5 st5=>?_⟩
     refine Uk ?_
     exact fin ec ((gx.trans g3.x).trans g5.x) (by rw[g5.tmp];exact ht) (r4.step g5.st) st5 (g5.keep _ _ hy3 (st3.nt A0 hA)) (ry3.step g5.st)
    .cases ec
   .cases ec
  .cases ec
structure DTs(X:Cx)(ifs:Wp ky)(c:Ev):Prop where
 pe:PTs X ifs (tDT X.K c)
theorem VX{X:Cx}{e:Wp ky}{t t':TT}(h:PTs X e t)(m:∀σ H Q,t' σ H Q->t σ H Q):PTs X e t':=λpins s σ H Q I q=>h pins s σ H Q I (m _ _ _ q)
theorem EI{X:Cx}:DTs X [] Dl:=⟨VX Y0 λσ H Q z=>by
 obtain⟨M,E,S,b,S',e,r,st,q⟩:=z
 cases e
 exact q _ M (.refl st.mo) st⟩
theorem GC{X:Cx}{c:ky}{f:Ev}(h:DT X c f):DTs X [c] f:=⟨YG h.pe⟩
section
variable{X:Cx}{N':Wp Str}{cf:lA}{cap:Wp Nat}{m:Nat}{scope:m9}{elt tg iter:ky}{ifs:Wp ky}{pos:Pos}{s:Sr}{t:Tf}{c f:Ev}
def Blk(X:Cx)(N':Wp Str)(scope:m9)(tg:ky)(ifs:Wp ky)(elt:ky)(t:Tf)(c f:Ev):Prop:=
 ∀(s:j5) (H:Hp) (fp:Wp j9),DG (Cm X N' scope s H fp) tg t/\DTs (Cm X N' scope s H fp) ifs c/\DE (Cm X N' scope s H fp) elt f
theorem EJ(cap:Wp Nat)(m:Nat)(N':Wp Str)(hc:X.calm=true)(S:Ab X.N X.env.scope N' (ixC cap m) scope)(hi:DI X tg iter s)(hb:Blk X N' scope tg ifs elt t c f)(hs:∀x,foldedSetIterable iter X.env x=pure x:=by intro _;rfl):DE X (.ListComp elt [⟨tg,iter,ifs,0⟩] scope pos) (Lv cf cap m s t c f):=⟨
 BW (ZA (g:=tG X.K t) (tc:=tDT X.K c) (te:=tD X.K f) hc S hi.pe (λs H fp=>⟨(hb s H fp).1.pe,(hb s H fp).2.1.pe,(hb s H fp).2.2.pe⟩) hs) λ_ _ _ h=>QY h⟩
theorem Di{i:Nat}{y:Str}{py spos:Pos}(cap:Wp Nat)(m:Nat)(N':Wp Str)(hc:X.calm=true)(hN:X.N.Nodup)(hi':X.N[i]?=Gc y)(hx:X.env.scope.names.lookup y=Gc .local)(S:Ab X.N X.env.scope N' (ixC cap m) scope)(hi:DI X tg iter s)(hb:Blk X N' scope tg ifs elt t c f)(hsw:swapsWith (.ListComp elt [⟨tg,iter,ifs,0⟩] scope pos) (Gc (.Name y py)) spos.line X.env=pure true:=by rfl)(hs:∀x,foldedSetIterable iter X.env x=pure x:=by intro _;rfl):DS X (.Assign [.Name y py] (.ListComp elt [⟨tg,iter,ifs,0⟩] scope pos) spos) (A4 i (Lv cf cap m s t c f)):=⟨
 EL (QS (g:=tG X.K t) (tc:=tDT X.K c) (te:=tD X.K f) hc hN hi' hx S hi.pe (λs H fp=>⟨(hb s H fp).1.pe,(hb s H fp).2.1.pe,(hb s H fp).2.2.pe⟩) hsw hs) λDn σ H z=>by
  obtain⟨M,E,S,fl,E',S',e,r,st,q⟩:=z
  obtain⟨⟨d,S1⟩,e1,e⟩:=Ir e
  cases e
  exact QY ⟨M,E,S,d,S1,e1,r,st,λv H1 M1 g1 st1 r1=>q _ _ M1 g1 ((r.step g1.st).put r1) st1⟩⟩
end
noncomputable def IY{α:Type}(xs:Wp α)(lo hi:j6 Int):Wp α:=(xs.drop (HT.sIx xs.length 0 lo)).take (HT.sIx xs.length xs.length hi-HT.sIx xs.length 0 lo)
theorem Ss{K:jz}{M:Ms}{H:Hp}{xs:Wp V}{ds:Wp D}(h:Am K M H xs ds)(lo hi:j6 Int):Am K M H (WY xs lo hi) (IY ds lo hi):=by
 unfold WY IY
 rw[h.length]
 exact(h.drop _).take _
theorem R9{α:Type}{xs:Wp α}{lo hi:j6 Int}(h1:HT.sIx xs.length 0 lo=0)(h2:HT.sIx xs.length xs.length hi=xs.length):IY xs lo hi=xs:=by
 unfold IY
 rw[h1,h2]
 simp
noncomputable def wSl(lo hi:j6 Int):Op1:=λw=>match w with
 | .val (.tup ds)=>Gc (.val (.tup (IY ds lo hi)))
 | .val (.str z)=>if z.length<=sizeLine then Gc (.val (.str (yX z lo hi)))else none
 |w=>(asL w).map λds=>.own (IY ds lo hi)
def iM(K:jz):V->j6 Int->j6 Int->Hp->VK->Prop:=λx lo hi H Q=>∃M w r,wSl lo hi w=Gc r/\MOk M H/\Sh K M H x w/\∀v H',Nw K M H H' v r->Q v H'
theorem bS{X:Cx}:SlR X (λx lo hi H Q=>∃z,x=.str z/\z.length<=sizeLine/\Q (.str (yX z lo hi)) H):=by
 intro pins s σ H x v vl vu lo hi sl Q I rx hs pl pu h
 obtain⟨z,rfl,hz,q⟩:=h
 obtain⟨t,rfl⟩:=rx
 have fin:∀t' k,EP X pins σ Q (.str (yX z lo hi) t') {s with toks:=k}:=λt' k=>⟨.str _,H,I.tok k,⟨t',rfl⟩,q⟩
 cases pl with
 |none=>
  cases pu with
  |none=>exact⟨"str",_,oN.lookup,su _ _ _,oU (l:=none) (u:=none) (st:=none) hs rfl (qy ⟨kF (tJ z _ _) hz,fin⟩)⟩
  |int j u=>exact⟨"str",_,oN.lookup,su _ _ _,oU (l:=none) (u:=Gc (j,u)) (st:=none) hs rfl (qy ⟨kF (tJ z _ _) hz,fin⟩)⟩
 |int i u'=>
  cases pu with
  |none=>exact⟨"str",_,oN.lookup,su _ _ _,oU (l:=Gc (i,u')) (u:=none) (st:=none) hs rfl (qy ⟨kF (tJ z _ _) hz,fin⟩)⟩
  |int j u=>exact⟨"str",_,oN.lookup,su _ _ _,oU (l:=Gc (i,u')) (u:=Gc (j,u)) (st:=none) hs rfl (qy ⟨kF (tJ z _ _) hz,fin⟩)⟩
theorem dj{X:Cx}:SlR X (iM X.K):=by
 intro pins s σ H x v vl vu lo hi sl Q I rx hs pl pu h
 obtain⟨M,w,r,e,mo,sh,q⟩:=h
 unfold wSl at e
 split at e
 .rename_i ds
  cases e
  cases sh with
  |tup hx rr=>
   rename_i a xs
   have hl:=rr.length
   by_cases hw:HT.sIx xs.length 0 lo=0/\HT.sIx xs.length xs.length hi=xs.length
   .refine St.bC pins s σ H _ v vl vu lo hi sl Q I rx hs pl pu ⟨a,xs,rfl,hx,hw.1,hw.2,?_⟩
    have ew:IY ds lo hi=ds:=R9 (by rw[<-hl];exact hw.1) (by rw[<-hl];exact hw.2)
    rw[ew]at q
    exact q _ _ (.same mo (.tup hx rr))
   .exact aA pins s σ H _ v vl vu lo hi sl Q I rx hs pl pu ⟨a,xs,rfl,hx,hw,λp hp=>q _ _ (.tup mo hp (Ss rr lo hi))⟩
 .split at e
  .cases e
   cases sh
   exact bS pins s σ H _ v vl vu lo hi sl Q I rx hs pl pu ⟨_,rfl,by assumption,q _ _ (.same mo (.str _))⟩
  .cases e
 .cases e1:asL w with
  |none=>rw[e1]at e;cases e
  |some ds=>
   rw[e1]at e
   cases e
   obtain⟨a,xs,rfl,h1,rr⟩:=sh.l e1
   exact Ya pins s σ H _ v vl vu lo hi sl Q I rx hs pl pu ⟨a,xs,rfl,.of h1,λp hp=>q _ _ (.lst mo hp (Ss rr lo hi))⟩
noncomputable def ZL:Wv->j6 Int
 | .val (.int i)=>Gc i
 |_=>none
noncomputable def Hj(l h:lA):OpN:=λws=>match l,h,ws with
 |false,false,[a]=>wSl none none a
 |true,false,[a,b]=>(ZL b).bind λi=>wSl (Gc i) none a
 |false,true,[a,b]=>(ZL b).bind λi=>wSl none (Gc i) a
 |true,true,[a,b,c]=>(ZL b).bind λi=>(ZL c).bind λj=>wSl (Gc i) (Gc j) a
 |_,_,_=>none
theorem SM{K:jz}{M:Ms}{H:Hp}{v:V}{w:Wv}{i:Int}(s:Sh K M H v w)(e:ZL w=Gc i):v=.int i:=by
 cases w with
 |own ds=>cases e
 |val d=>
  cases d<;>first|(cases e;done)|skip
  cases e;cases s;rfl
section
variable{X:Cx}{e lo hi:ky}{oe ol oh:Ev}{c:lA}{pos p2:Pos}
theorem HZ(h:DE X e oe)(hl:DE X lo ol):DE X (.Subscript e (.Slice (Gc lo) none none p2) pos) (Mc c (Hj true false) [oe,ol]):=⟨BW (Mq dj h.pe (MY hl.pe) Rz) λσ H Q z=>by
 obtain⟨M0,E,S0,w,S1,e,r,st,q⟩:=z
 have z:tD X.K oe σ H λx H1=>tD X.K ol σ H1 λy H2=>rN X.K (Hj true false) [x,y] H2 Q:=KN (Q:=Q) e r st q
 refine HS z λx H1 z1=>HS z1 λy H2 z2=>?_
 obtain⟨M,ws,w',e1,mo,sh,q1⟩:=z2
 cases sh with
 |cons h1 t=>
  cases t with
  |cons h2 t=>
   cases t
   obtain⟨i,ei,e1⟩:=An e1
   exact⟨i,SM h2 ei,M,_,w',e1,mo,h1,q1⟩⟩
theorem Kx(h:DE X e oe)(hh:DE X hi oh):DE X (.Subscript e (.Slice none (Gc hi) none p2) pos) (Mc c (Hj false true) [oe,oh]):=⟨BW (Mq dj h.pe Rz (MY hh.pe)) λσ H Q z=>by
 obtain⟨M0,E,S0,w,S1,e,r,st,q⟩:=z
 have z:tD X.K oe σ H λx H1=>tD X.K oh σ H1 λy H2=>rN X.K (Hj false true) [x,y] H2 Q:=KN (Q:=Q) e r st q
 refine HS z λx H1 z1=>HS z1 λy H2 z2=>?_
 obtain⟨M,ws,w',e1,mo,sh,q1⟩:=z2
 cases sh with
 |cons h1 t=>
  cases t with
  |cons h2 t=>
   cases t
   obtain⟨i,ei,e1⟩:=An e1
   exact⟨i,SM h2 ei,M,_,w',e1,mo,h1,q1⟩⟩
theorem Q3{K:jz}{M:Ms}{H:Hp}{S:Sto}{v:V}{d:D}{i:Int}(r:C7 K M H v d)(e:ZL (dr S d)=Gc i):v=.int i:=by
 cases r<;>first|(cases e;done)|skip
 .cases e;rfl
 .rename_i n h
  unfold dr at e
  dsimp only at e
  split at e<;>cases e
theorem R1(h:DE X e oe)(hl:DE X lo ol)(hh:DE X hi oh):DE X (.Subscript e (.Slice (Gc lo) (Gc hi) none p2) pos) (Mc c (Hj true true) [oe,ol,oh]):=⟨BW (Mq dj h.pe (MY hl.pe) (MY hh.pe)) λσ H Q z=>by
 obtain⟨M0,E,S0,w,S1,e,r,st,q⟩:=z
 obtain⟨⟨ds,S2⟩,e1,e⟩:=An e
 obtain⟨w2,e2,e⟩:=An e
 obtain⟨⟨d1,Sa⟩,ea,e1⟩:=An e1
 obtain⟨⟨ds1,Sb⟩,eb,e1⟩:=Ir e1
 cases e1
 obtain⟨⟨d2,Sc⟩,ec,eb⟩:=An eb
 obtain⟨⟨ds2,Sd⟩,ed,eb⟩:=Ir eb
 cases eb
 obtain⟨⟨d3,Se⟩,ee,ed⟩:=An ed
 obtain⟨⟨ds3,Sf⟩,ef,ed⟩:=Ir ed
 cases ed
 cases ef
 obtain⟨i,ei,e2⟩:=An e2
 obtain⟨j,ej,e2⟩:=An e2
 refine⟨M0,E,S0,d1,Sa,ea,r,st,λx H1 M1 g1 st1 r1=>?_⟩
 refine⟨M1,E,Sa,d2,Sc,ec,r.step g1.st,st1,λy H2 M2 g2 st2 r2=>⟨i,?_,?_⟩⟩
 .exact Q3 r2 ei
 refine⟨M2,E,Sc,d3,Se,ee,(r.step g1.st).step g2.st,st2,λu H3 M3 g3 st3 r3=>⟨j,?_,?_⟩⟩
 .exact Q3 r3 ej
 refine⟨M3,_,w2,e2,st3.mo,Yk st3 ((r1.step g2.st).step g3.st),λv H4 n=>?_⟩
 obtain⟨M4,g4,st4,d4⟩:=n.fin st3 e
 exact q v H4 M4 (((g1.trans g2).trans g3).trans g4) st4 d4⟩
structure jw(K:jz)(mg:Str->j6 j4)(x:Str)(d:D):Prop where
 ex:∃v u,mg x=Gc u/\RelV v u/\∀M H,C7 K M H v d
structure jx(K:jz)(w:lB)(mg:Str->j6 j4)(x:Str)(tbl:Wp (Str×D)):Prop where
 ex:∃a kvs,mg x=Gc (.ref a)/\TopD K w a kvs/\∀k,(tbl.lookup k=none->kvs.lookup k=none)/\∀d,tbl.lookup k=Gc d->∃v,kvs.lookup k=Gc v/\∀M H,C7 K M H v d
end
noncomputable def Of:Nat->Wp D->Wp D
 |_,[]=>[]
 |k,d::ds=>.tup [.int k,d]::Of (k+1) ds
theorem Ju:∀{ds:Wp D} {k i:Nat},(Of k ds)[i]?=(ds[i]?).map λd=>.tup [.int ((k+i:Nat):Int),d]
 | [],k,i=>by simp[Of]
 |d::ds,k,0=>by simp[Of]
 |d::ds,k,i+1=>by
  simp only[Of,List.getElem?_cons_succ]
  rw[Ju,show k+1+i=k+(i+1) by lia]
theorem MB:∀{ds:Wp D} {k:Nat},(Of k ds).length=ds.length
 | [],k=>rfl
 |d::ds,k=>by simp[Of,MB (ds:=ds)]
theorem SqF.sqB{K:jz}{M:Ms}{H:Hp}{gs:Gd}{k:lA}{a:j9}{ds:Wp D}(h:SqF K M H gs k a ds){H2:Hp}{M2:Ms}{S2:Sto}(g:Sp1 M H M2 H2)(st:StR K M2 S2 H2)(ok:gOk gs S2):∃xs,SqB K H2 k a xs/\Am K M2 H2 xs ds:=by
 obtain⟨xs,h1,h2⟩:=h.keep H2 M2 S2 g st ok
 refine⟨xs,?_,h2⟩
 cases k with
 |true=>exact h1
 |false=>exact h1
theorem aC{K:jz}{M:Ms}{H:Hp}{gs:Gd}{k:lA}{a:j9}{ds:Wp D}(h:SqF K M H gs k a ds):a0 K M H gs (Of 0 ds) (ItE K k a) where
 go:=λi H2 M2 S2 g st ok hi=>by
  rw[MB]at hi
  obtain⟨xs,h1,h2⟩:=h.sqB g st ok
  obtain⟨x,hx⟩:=h2.get' hi
  exact⟨xs,x,h1,hx⟩
 stop:=λi H2 M2 S2 g st ok hi=>by
  rw[MB]at hi
  obtain⟨xs,h1,h2⟩:=h.sqB g st ok
  exact⟨xs,h1,by have:=h2.length;lia⟩
 yld:=λi H2 M2 S2 x H3 d g st ok hd hy=>by
  obtain⟨xs,h1,h2⟩:=h.sqB g st ok
  obtain⟨p,y,hp,rfl,hy,rfl⟩:=hy
  have hx:=hy xs h1
  rw[Ju]at hd
  obtain⟨d0,e,hd⟩:=Ir hd
  subst hd
  obtain⟨x',h3,h4⟩:=h2.get e
  rw[hx]at h3;cases h3
  have k3:=FF (o:=.tup [.int i,y]) hp
  refine⟨k3,.tup (.of As) (.cons ?_ (.cons (h4.step (Gr.grow st.mo k3).st) .nil))⟩
  rw[rC]
  exact .int _
noncomputable def Xo(f:Ev):Sr:=λE S=>(f E S).bind λr=>(sqD r.2 r.1).map λp=>((Of 0 p.1,p.2),r.2)
theorem RN{X:Cx}{a:ky}{f:Ev}{p pos tp:Pos}{elts:Wp ky}{k:Nat}(hg:Gl X "enumerate")(hm:X.mg "enumerate"=none)(ha:DE X a f)(hs:kc [a] X.env=[(false,eval a X.env)]:=by rfl):DI X (.Tuple elts k tp) (.Call (.Name "enumerate" p) [a] [] pos) (Xo f):=⟨
 Ml (U0 hg hm (MN ha.pe Sw (by rw[hs];rfl)) hs) λσ H R z=>by
  obtain⟨M,E,S,ds,gs,S',e,r,st,q⟩:=z
  obtain⟨⟨d,S1⟩,e1,e⟩:=An e
  obtain⟨⟨ds',gs'⟩,e2,e⟩:=Ir e
  cases e
  refine⟨M,E,S,d,S1,e1,r,st,λv H1 M1 g1 st1 r1=>?_⟩
  obtain⟨k,a,rfl,sq⟩:=Pq st1 r1 e2
  obtain⟨xs,hs,_⟩:=sq.sqB (Gr.refl st1.mo).st st1 (MV e2)
  exact⟨k,a,rfl,⟨xs,hs⟩,q _ _ M1 g1 st1 (aC sq)⟩⟩
noncomputable def OF(ds es:Wp D):Wp D:=(ds.zip es).map λp=>.tup [p.1,p.2]
theorem Uc{ds es:Wp D}{i:Nat}{d:D}(h:(OF ds es)[i]?=Gc d):∃x y,ds[i]?=Gc x/\es[i]?=Gc y/\d=.tup [x,y]:=by
 unfold OF at h
 simp only[kn,Option.map_eq_some_iff]at h
 obtain⟨⟨x,y⟩,h1,h2⟩:=h
 rw[rQ]at h1
 exact⟨x,y,h1.1,h1.2,h2.symm⟩
theorem Jw{ds es:Wp D}:(OF ds es).length=min ds.length es.length:=by simp[OF]
theorem SqF.more{K:jz}{M:Ms}{H:Hp}{gs gs':Gd}{k:lA}{a:j9}{ds:Wp D}(h:SqF K M H gs k a ds)(s:∀g∈gs,g∈gs'):SqF K M H gs' k a ds:=⟨λH2 M2 S2 g st ok=>h.keep H2 M2 S2 g st λx hx=>ok x (s x hx)⟩
theorem aa{K:jz}{M:Ms}{H:Hp}{gs:Gd}{k m:lA}{a b:j9}{ds es:Wp D}(h:SqF K M H gs k a ds)(h':SqF K M H gs m b es):a0 K M H gs (OF ds es) (Itz K k a m b) where
 go:=λi H2 M2 S2 g st ok hi=>by
  rw[Jw]at hi
  obtain⟨xs,h1,r⟩:=h.sqB g st ok
  obtain⟨ys,h2,r'⟩:=h'.sqB g st ok
  obtain⟨x,hx⟩:=r.get' (show i<ds.length by lia)
  obtain⟨y,hy⟩:=r'.get' (show i<es.length by lia)
  exact⟨xs,ys,x,y,h1,h2,hx,hy⟩
 stop:=λi H2 M2 S2 g st ok hi=>by
  rw[Jw]at hi
  obtain⟨xs,h1,r⟩:=h.sqB g st ok
  obtain⟨ys,h2,r'⟩:=h'.sqB g st ok
  have:=r.length
  have:=r'.length
  exact⟨xs,ys,h1,h2,by lia⟩
 yld:=λi H2 M2 S2 x H3 d g st ok hd hy=>by
  obtain⟨xs,h1,r⟩:=h.sqB g st ok
  obtain⟨ys,h2,r'⟩:=h'.sqB g st ok
  obtain⟨p,x1,y1,hp,rfl,q1,q2,rfl⟩:=hy
  obtain⟨d1,d2,e1,e2,rfl⟩:=Uc hd
  have hx:=q1 xs h1
  have hy:=q2 ys h2
  obtain⟨x',h3,h4⟩:=r.get e1
  obtain⟨y',h5,h6⟩:=r'.get e2
  rw[hx]at h3;cases h3
  rw[hy]at h5;cases h5
  have k3:=FF (o:=.tup [x1,y1]) hp
  exact⟨k3,.tup (.of As) (.cons (h4.step (Gr.grow st.mo k3).st) (.cons (h6.step (Gr.grow st.mo k3).st) .nil))⟩
noncomputable def Zx(f g:Ev):Sr:=λE S=>(evs [f,g] E S).bind λr=>match r.1 with
 | [d,e]=>(sqD r.2 d).bind λp=>(sqD r.2 e).map λq=>((OF p.1 q.1,p.2++q.2),r.2)
 |_=>none
theorem Wm{X:Cx}{a b:ky}{f g:Ev}{p pos tp:Pos}{elts:Wp ky}{k:Nat}(hg:Gl X "zip")(hm:X.mg "zip"=none)(ha:DE X a f)(hb:DE X b g)(hs:kc [a,b] X.env=[(false,eval a X.env),(false,eval b X.env)]:=by rfl)(hs2:kc [b] X.env=[(false,eval b X.env)]:=by rfl):DI X (.Tuple elts k tp) (.Call (.Name "zip" p) [a,b] [] pos) (Zx f g):=⟨
 Ml (ao hg hm (AA ha (AA hb AD hs2) (by rw[hs,hs2])).pe hs hs2) λσ H R z=>by
  obtain⟨M,E,S,ds,gs,S',e,r,st,q⟩:=z
  obtain⟨⟨ws,S1⟩,e1,e⟩:=An e
  refine G8 (fs:=[f,g]) e1 r st λvs H1 M1 g1 st1 r1=>?_
  dsimp only at e
  split at e
  .obtain⟨⟨ds1,gs1⟩,eu,e⟩:=An e
   obtain⟨⟨ds2,gs2⟩,ee,e⟩:=Ir e
   cases e
   cases r1 with
   |cons h1 t=>
    cases t with
    |cons h2 t=>
     cases t
     obtain⟨k1,a1,rfl,s1⟩:=Pq st1 h1 eu
     obtain⟨k2,a2,rfl,s2⟩:=Pq st1 h2 ee
     obtain⟨xs,hxs,_⟩:=s1.sqB (Gr.refl st1.mo).st st1 (MV eu)
     obtain⟨ys,hys,_⟩:=s2.sqB (Gr.refl st1.mo).st st1 (MV ee)
     exact⟨_,_,_,_,rfl,⟨_,hxs⟩,⟨_,hys⟩,q _ _ M1 g1 st1 (aa (s1.more λx hx=>qm _ hx) (s2.more λx hx=>k9 _ hx))⟩
  .cases e⟩
noncomputable def intD:D->j6 Int
 | .int i=>Gc i
 |_=>none
noncomputable def Jb(ds:Wp D):j6 (Wp Int):=ds.mapM intD
theorem KQ{K:jz}{M:Ms}{H:Hp}:∀{vs:Wp V} {ds:Wp D} {ns:Wp Int},Am K M H vs ds->Jb ds=Gc ns->vs=ns.map V.int
 |_,_,ns,.nil,e=>by cases e;rfl
 |_,_,ns,.cons (d:=d) (ds:=ds) h t,e=>by
  unfold Jb at e
  rw[xK]at e
  cases e1:intD d with
  |none=>rw[e1]at e;cases e
  |some b=>
   rw[e1]at e
   cases e2:ds.mapM intD with
   |none=>rw[e2]at e;cases e
   |some cs=>
    rw[e2]at e
    cases e
    have hd:d=.int b:=by
     cases d<;>first|(cases e1;done)|skip
     cases e1;rfl
    subst hd
    cases h
    rw[kU,<-KQ t e2]
theorem RS{X:Cx}(hc:X.calm=true):Ep X (.builtin "sum") (λxs H Q=>∃(p:j9) (ns:Wp Int),xs=[.ref p]/\SqL X.K H p (ns.map V.int)/\Q (.int ns.sum) H):=by
 intro pins s σ H xs us Q I r h
 obtain⟨p,ns,rfl,hp,q⟩:=h
 obtain⟨u,rfl,ru⟩:=r.one
 cases (show u=mH p from ru)
 obtain⟨its,rv,pl,hz⟩:=I.list hp
 have hd:X.A.in1.handled=none:=I.ok.hd hc
 refine call_sum_walkG (md pl.isList ?_)
 have hlen:ns.length=its.length:=by have:=rv.length;simpa using this
 have hpl:=pl.isList
 have hlt:p<s.heap.objs.size:=by
  obtain⟨o,ho,_⟩:=hpl
  exact kL ho
 refine⟨s.heap.objs.size,_,_,its.length,_,_,λi=>ns.getD i 0,rfl,St.Py (vs:=its) hd (kS hlt),⟨⟨_,kH _ rfl,rfl,rfl⟩,?_⟩,?_,?_,?_⟩
 .obtain⟨o,ho,r⟩:=hpl
  exact⟨o,j0 _ ho,r⟩
 .intro b hb
  rw[ku]
  simp at hb
  rcases hb with h|h
  .rw[h];exact nV _
  .rw[h];exact mB hlt
 .intro i v hv
  have hi:i<its.length:=(kK.mp hv).1
  have hb:(ns.map V.int)[i]?=Gc (.int (ns.getD i 0)):=by
   rw[kn,kE (by lia)]
   simp[kP,kE (show i<ns.length by lia)]
  obtain⟨u,hu,ru⟩:=rv.get hb
  rw[hv]at hu
  cases hu
  exact ru
 .intro h' tk t' hk
  have e:preSum (λi=>ns.getD i 0) its.length=ns.sum:=by
   rw[<-hlen,St.J9 (kA _),nP (kA _)]
  rw[e]
  exact⟨.int _,H,I.kept (t':=tk) λb o eb=>hk b o (by simp;exact kS (kL eb)) (j0 _ eb),⟨_,rfl⟩,q⟩
noncomputable def We:Op1:=λw=>(asL w).bind λds=>(Jb ds).map λns=>.val (.int ns.sum)
theorem K4{X:Cx}(hc:X.calm=true):Ep X (.builtin "sum") (rN X.K (o1 We)):=by
 intro pins s σ H xs us Q I r h
 obtain⟨M,ws,w,e,mo,sh,q⟩:=h
 obtain⟨v,w1,rfl,rfl,s1,e1⟩:=HP sh e
 obtain⟨ds,e2,e1⟩:=An e1
 obtain⟨ns,e3,e1⟩:=Ir e1
 cases e1
 obtain⟨a,ys,rfl,h3,h4⟩:=s1.l e2
 exact RS hc pins s σ H _ us Q I r ⟨a,ns,rfl,by rw[<-KQ h4 e3];exact .of h3,q _ _ (.same mo (.int _))⟩
noncomputable def Kc(ns:Wp Int):Wp Int:=ns.mergeSort (λa b=>decide (a<=b))
theorem Gw(ns:Wp Int):(Kc ns).Perm ns:=qz _ _
theorem L3(ns:Wp Int):(Kc ns).Pairwise (· <= ·):=by
 have:=qI (le:=λ(a b:Int)=>decide (a<=b)) (λa b c h1 h2=>by simp at *; lia) (λa b=>by simp;lia) ns
 unfold Kc
 exact this.imp λh=>kO h
theorem Pw{ns ms:Wp Int}(p:ms.Perm ns)(s:ms.Pairwise (· <= ·)):ms=Kc ns:=PySem.W.ksm_same (p.trans (Gw ns).symm) s (L3 ns)
theorem intsAre_of:∀{ns:Wp Int} {its:Wp j4},Vals (ns.map V.int) its->nD its ns
 | [],_,.nil=>.nil
 |n::ns,_,.cons h t=>by
  obtain⟨tk,rfl⟩:=h
  exact .cons n tk (intsAre_of t)
theorem Ge:∀{ns:Wp Int} {its:Wp j4},nD its ns->Vals (ns.map V.int) its
 |_,_,.nil=>.nil
 |_,_,.cons n tk t=>.cons ⟨tk,rfl⟩ (Ge t)
theorem L8(l:j9)(items:kj j4)(n:Nat)(b:j9)(items2:kj j4)(n2:Nat)(dd:j6 j9)(sl:kj (j6 j4))(hs0:¬(!items.isEmpty && mP (items.size+items2.size))=true)(hs1:items.size<=sizeLine)(hs2:items.size+items2.size<=sizeLine+1):Meets (mw.«list.extend» ⟨[.ref l,.ref b],[]⟩) (λ_ R s=>s.heap.get? l=Gc {cls:=.type "list",dict:=none,data:=.seq items n,slots:= #[]}/\s.heap.get? b=Gc {cls:=.type "tuple",dict:=dd,data:=.seq items2 n2,slots:=sl}/\R (.ok (.ret mI)) {s with heap:=s.heap.update l (lH λx=>x++items2),toks:=s.toks}):=
 .of_wp λprog w A R s h=>by
  obtain⟨hp,g,d,tk,os⟩:=s;obtain⟨hl,hb,h⟩:=h;have f1:=AutoSeq1.idx_int;have f2:=yB;have f3:=zE;have f4:=yZ;have f5:=ya
  have hz':(items++items2).size<=sizeLine+1:=by rw[Array.size_append];exact hs2
  wp_walk using(pA hl rfl (hz:=hs1) (_hz':=hz')),kf hl,kf hb;exact⟨_,rfl,h⟩
def Uy(K:jz):V->Wp V->Hp->VK->Prop:=λx vs H Q=>∃l b xs zs,x=.ref l/\vs=[.ref b]/\H l=Gc (.lst xs)/\SqT K H b zs/\xs.length+zs.length<=sizeLine/\Q .non (upd H l (.lst (xs++zs)))
theorem QO{X:Cx}:MtM X "list.extend" (Uy X.K):=by
 intro pins s σ H x vs v us Q I rx rv h
 obtain⟨l,b,xs,zs,rfl,rfl,hH,hB,hz,q⟩:=h
 cases rx
 obtain⟨u,rfl,ru⟩:=rv.one
 cases ru
 obtain⟨z,its,n,r,hl,e⟩:=I.W5 hH
 obtain⟨its2,r2,⟨⟨c,dd,dt,sl⟩,e2,hc,n2,hd⟩,z2⟩:=I.tuple hB
 simp only at hc hd
 subst hc hd
 have hl2:=r2.length
 have hsz:its.toArray.size+its2.toArray.size<=sizeLine:=by rw[kM,kM];lia
 have hlong:¬(!its.toArray.isEmpty && mP (its.toArray.size+its2.toArray.size))=true:=by
  rw[Mt hsz,xB]
  exact lU
 refine qg qp ⟨_,e,rfl⟩ uW (uA _ _)
  (L8 l its.toArray n b its2.toArray n2 dd sl hlong (by rw[kM];lia) (by lia)) ⟨e,e2,?_⟩
 refine⟨.non,_,I.fP (its':=its++its2) hH e (by simp) (r.append r2) ?_,rfl,q⟩
 rw[lK]
 lia
noncomputable def cC:Mo
 |S,ds,[x]=>match dr S x with
  | .val (.tup zs)=>if ds.length+zs.length<=sizeLine then Gc (.non,ds++zs)else none
  |w=>(asL w).bind λzs=>if ds.length+zs.length<=sizeLine then Gc (.non,ds++zs)else none
 |_,_,_=>none
theorem Xk{X:Cx}:MtR X "list.extend" (bp X.K cC):=by
 intro pins s σ H x vs v us Q I rx rv h
 obtain⟨M,S,n,a,ds,args,d,ds',rfl,hc,hn,e,st,ra,q⟩:=h
 unfold cC at e
 split at e
 .obtain⟨xs,h1,h2⟩:=st.cell n a _ hc hn
  obtain⟨y,rfl,ry⟩:=Pg ra
  have sy:=Yk st ry
  split at e
  .rename_i ed
   rw[ed]at sy
   split at e
   .rename_i hz
    cases e
    cases sy with
    |tup hx rr=>
     obtain⟨st2,g2⟩:=st.chg hc hn (h2.append rr)
     exact QO pins s σ H _ _ v us Q I rx rv ⟨a,_,xs,_,rfl,rfl,h1,hx,by rw[h2.length,rr.length];exact hz,q _ _ st2 g2 .non⟩
   .cases e
  .obtain⟨zs,e1,e⟩:=An e
   split at e
   .rename_i hz
    cases e
    obtain⟨b,ys,rfl,h3,h4⟩:=sy.l e1
    obtain⟨st2,g2⟩:=st.chg hc hn (h2.append h4)
    exact Rk pins s σ H _ _ v us Q I rx rv ⟨a,b,xs,ys,rfl,rfl,h1,h3,by rw[h2.length,h4.length];exact hz,q _ _ st2 g2 .non⟩
   .cases e
 .cases e
theorem UT{X:Cx}:OpR X (binaryOp .Mult) (λx y H Q=>∃a xs k,x=.ref a/\y=.int k/\SqT X.K H a xs/\xs≠[]/\k<=0/\ -(2^63)<=k/\∀p,H p=none->Q (.ref p) (upd H p (.tup []))):=by
 intro pins s σ H x y v u Q I rx ry h
 obtain⟨a,xs,k,rfl,rfl,hx,hne,hk,hk2,q2⟩:=h
 cases rx
 obtain⟨t,rfl⟩:=ry
 obtain⟨its,r,⟨⟨c,dd,data,sl⟩,ho,hc,n,hd⟩,hzz⟩:=I.tuple hx
 simp only at hc hd
 subst hc hd
 have hl:=r.length
 have hpos:0<xs.length:=uX.mpr hne
 refine pV (T:="tuple") (U:="int") (by decide) ⟨_,ho,rfl⟩ (λs'=>qf s' k t) GJ tS oy JO sU.lookup
  (qg oy (qf s k t) sV (rh _ _) (HE k t a its.toArray n dd sl) ⟨ho,rfl,⟨_,ho,rfl⟩,?_⟩)
 refine lL qh ⟨_,ho,rfl⟩ vU ?_ (uw _ _)
 unfold mw.«tuple.__mul__»
 wp_walk using kf ho
 rw[ko (show¬(decide (k< -2^63)||decide (k≥2^63))=true by
  rw[mM]
  rintro (z|z)
  .have:=kO z;lia
  .have:=kO z;lia)]
 wp_walk using kf ho
 have hemp:its.toArray.isEmpty=false:=by
  cases its with
  |nil=>rw[qC]at hl;lia
  |cons b bs=>rfl
 rw[ko (show¬(its.toArray.isEmpty||k==1)=true by
  rw[hemp,x9]
  intro z
  have:=eq_of_beq z
  lia)]
 wp_walk using kf ho
 all_goals first
  |exact⟨_,rfl,.ref _,_,I.laid (o:=.tup []) (t':=s.toks) (λb ob q=>j0 _ q) (kA _) ⟨lX _,[],.nil,pX _ _⟩,rfl,q2 _ (I.hok.fresh (kA _))⟩
  |(exfalso
    rename_i hh
    exact hh (by rw[mM];exact .inl (mZ hk)))
noncomputable def F4:Op2:=λa b=>match a,b with
 | .val (.tup xs),.val (.int k)=>if(!xs.isEmpty && decide (k<=0) && decide (-(2^63)<=k))=true then Gc (.val (.tup []))else cV (.val (.tup xs)) (.val (.int k))
 |a,b=>cV a b
theorem Cb{X:Cx}:OpR X (binaryOp .Mult) (rOp X.K F4):=by
 intro pins s σ H x y v u Q I rx ry h
 obtain⟨M,w1,w2,r,e,mo,s1,s2,q⟩:=h
 unfold F4 at e
 split at e
 .split at e
  .rename_i xs k hk
   rw[kQ,kQ]at hk
   cases e
   cases s2
   cases s1 with
   | @tup a ys _ h1 r1=>
     have hne:ys≠[]:=λzz=>by
      subst zz
      cases r1
      exact absurd hk.1.1 (by decide)
     exact UT pins s σ H _ _ v u Q I rx ry ⟨a,ys,k,rfl,rfl,h1,hne,kO hk.1.2,kO hk.2,λp hp=>q _ _ (.tup mo hp .nil)⟩
  .exact Q4 pins s σ H x y v u Q I rx ry ⟨M,_,_,r,e,mo,s1,s2,q⟩
 .exact Q4 pins s σ H x y v u Q I rx ry ⟨M,_,_,r,e,mo,s1,s2,q⟩
theorem RL{A:lF}{k:Nat}(hr:K8 k A):A.units+100<cLine:=by have:=hr.un;lia
section
variable{P:ke}{w:lB}{K:jz}{mg:Str->j6 j4}{base:lD}
end
noncomputable def scE:Nat->ky->Wp m9
 |0,_=>[]
 |n+1,.ListComp e gs s _=>s::(gs.flatMap λg=>scE n g.iter)++scE n e++(gs.flatMap λg=>g.ifs.flatMap (scE n))
 |n+1,.BoolOp _ vs _=>vs.flatMap (scE n)
 |n+1,.Call f as _ _=>scE n f++as.flatMap (scE n)
 |n+1,.BinOp a _ b _=>scE n a++scE n b
 |n+1,.UnaryOp _ a _=>scE n a
 |n+1,.Compare a _ cs _=>scE n a++cs.flatMap (scE n)
 |n+1,.Subscript a b _=>scE n a++scE n b
 |n+1,.Tuple es _ _=>es.flatMap (scE n)
 |n+1,.List es _=>es.flatMap (scE n)
 |n+1,.IfExp c a b _=>scE n c++scE n a++scE n b
 |n+1,.Dict _ vs _=>vs.flatMap (scE n)
 |n+1,.Slice a b c _=>(a.toList++b.toList++c.toList).flatMap (scE n)
 |n+1,.Attribute v _ _=>scE n v
 |_,_=>[]
noncomputable def scS:Nat->lY->Wp m9
 |0,_=>[]
 |n+1,.Return (Gc e) _=>scE 30 e
 |n+1,.Assign ts e _=>ts.flatMap (scE 30)++scE 30 e
 |n+1,.AugAssign t _ e _=>scE 30 t++scE 30 e
 |n+1,.Expr e _=>scE 30 e
 |n+1,.If t a b _=>scE 30 t++a.flatMap (scS n)++b.flatMap (scS n)
 |n+1,.For _ it a b _=>scE 30 it++a.flatMap (scS n)++b.flatMap (scS n)
 |n+1,.While t a b _=>scE 30 t++a.flatMap (scS n)++b.flatMap (scS n)
 |_,_=>[]
noncomputable def NU(st:lY)(k:Nat):m9:=((EN st).flatMap (scS 20)).getD k (AK st)
structure js(P:ke)(w:lB)(K:jz)(mg:Str->j6 j4)(base:lD)(x:Str)(k np:Nat)(tbl:Wp (Str×Fn)):Prop where
 ex:∃a kvs,mg x=Gc (.ref a)/\TopD K w a kvs/\∀p G,tbl.lookup p=Gc G->∃f fd ps,kvs.lookup p=Gc (.ref f)/\Nn P w K mg base CX0 k f fd ps (spD K np G)/\nX K (.ref f)=true/\Binds K fd ps []
section
variable{P:ke}{w:lB}{K:jz}{mg:Str->j6 j4}{base h:lD}
theorem Zm{x:Str}{st:lY}{f:j9}{oc:j4}{od an:j6 j9}{osl:kj (j6 j4)}{kV doc pm cdv ct:j4}(X:K.In h)(G:h.Ns mainGlobals mg)(a:zB K mainGlobals x=Gc (Gc (.ref f)))(l:K.lookup f=Gc ⟨oc,od,.func (oa x x (Iw st) (EN st) (AK st) .none kV doc pm an cdv ct),osl⟩)(c:rG K cdv x=true)(k:nX K (.ref f)=true):St.Src K mg x st:=
 ⟨f,_,aq l c k,PySem.W.mg_of X G a⟩
def IsD(K:jz)(u:j4)(d:D):Prop:=∃v,RelV v u/\∀M H,C7 K M H v d
structure jf(w:lB)(K:jz)(mg:Str->j6 j4)(x:Str)(ns:Wp (Str×Str)):Prop where
 ex:∃a kvs,mg x=Gc (.ref a)/\TopD K w a kvs/\Paired (λ(n:Str×Str) (q:Str×V)=>n.1=q.1/\∃f,q.2=.ref f/\mg n.2=Gc (.ref f)) ns kvs
noncomputable def ZH(K:jz):Sp:=λvs H Q _=>∃(a:j9) (ns:Wp Int),vs=[.ref a]/\SqL K H a (ns.map V.int)/\ns.length<=63/\∀H',Q (.bl true) H'
theorem bG{k:Nat}{f:j9}{fd:nB}{x:Str}{F:Fn}(Fk:Nn P w K mg base CX0 k f fd [x] (spD K 1 F))(h:∀ns:Wp Int,ns.length<=63->∃S,F [.scr ns] []=Gc (.bl true,S)):Nn P w K mg base CX0 k f fd [x] (ZH K):=by
 refine Fk.imp λvs H Q E z=>?_
 obtain⟨a,ns,rfl,hs,hl,q⟩:=z
 obtain⟨S,e⟩:=h ns hl
 refine⟨Ms.no,[.scr ns],[],_,S,rfl,e,.cons (.scr ?_) .nil,⟨λa z=>absurd z Ms.XO,List.nodup_nil,λa z=>(nomatch z),rfl,λn a c z=>by simp[Ms.no]at z⟩,λv H' M' g st r=>?_⟩
 .rcases hs with hs|hs
  .exact .inl ⟨hs,Ms.XO⟩
  .exact .inr hs
 .cases r
  exact q H'
end
noncomputable def putD(kvs:Wp (Key×D))(k:Key)(v:D):Wp (Key×D):=
 if(kvs.any λkv=>decide (kv.1=k))=true then kvs.map (λkv=>if kv.1=k then(kv.1,v)else kv)else kvs++[(k,v)]
noncomputable def R4(kvs more:Wp (Key×D)):Wp (Key×D):=more.foldl (λacc kv=>putD acc kv.1 kv.2) kvs
noncomputable def Rf:Wp (Key×D)->Key->j6 D
 | [],_=>none
 |(j,d)::r,k=>if j=k then Gc d else Rf r k
noncomputable def UY:D->j6 Key
 | .int i=>Gc (.inl i)
 | .str x=>Gc (.inr x)
 |_=>none
noncomputable def KY(S:Sto):D->j6 (Wp (Key×D))
 | .dct es=>Gc es
 | .ref n=>match S[n]? with
   |some (.dct es)=>Gc es
   |_=>none
 |_=>none
noncomputable def QU:lA->Wp (Key×D)->Sto->D×Sto
 |false,es,S=>(.dct es,S)
 |true,es,S=>(.ref S.length,S++[.dct es])
section
variable{K:jz}{M M':Ms}{H:Hp}{S:Sto}{E:En}{σ:Sg}
theorem Bm.any(k:Key):∀{kvs:Wp (Key×V)} {es:Wp (Key×D)},Bm K M H kvs es->(kvs.any λkv=>decide (kv.1=k))=es.any λkv=>decide (kv.1=k)
 |_,_,.nil=>rfl
 |_,_,.cons h t=>by rw[nU,nU,Bm.any k t]
theorem Bm.app:∀{kvs kvs':Wp (Key×V)} {es es':Wp (Key×D)},Bm K M H kvs es->Bm K M H kvs' es'->Bm K M H (kvs++kvs') (es++es')
 |_,_,_,_,.nil,s=>s
 |_,_,_,_,.cons h t,s=>.cons h (Bm.app t s)
theorem Bm.YK{k:Key}{v:V}{d:D}(r:C7 K M H v d):∀{kvs:Wp (Key×V)} {es:Wp (Key×D)},Bm K M H kvs es->Bm K M H (kvs.map λkv=>if kv.1=k then(kv.1,v)else kv) (es.map λkv=>if kv.1=k then(kv.1,d)else kv)
 |_,_,.nil=>.nil
 |_,_,.cons (k:=k') h t=>by
  rw[kU,kU]
  by_cases e:k'=k
  .rw[kh e,kh e];exact .cons r (Bm.YK r t)
  .rw[ko e,ko e];exact .cons h (Bm.YK r t)
theorem Bm.put{k:Key}{v:V}{d:D}{kvs:Wp (Key×V)}{es:Wp (Key×D)}(r:C7 K M H v d)(h:Bm K M H kvs es):Bm K M H (putK kvs k v) (putD es k d):=by
 unfold putK putD
 rw[h.any k]
 split
 .exact h.YK r
 .exact h.app (.cons r .nil)
theorem Bm.val(k:Key):∀{kvs:Wp (Key×V)} {es:Wp (Key×D)},Bm K M H kvs es->(P4 kvs k=none/\Rf es k=none)\/∃v d,P4 kvs k=Gc v/\Rf es k=Gc d/\C7 K M H v d
 |_,_,.nil=>.inl ⟨rfl,rfl⟩
 |_,_,.cons (k:=k') (d:=d) (v:=v) (ds:=ds) h t=>by
  by_cases e:k'=k
  .exact .inr ⟨v,d,Jk e,by simp[Rf,e],h⟩
  .rw[Jx e]
   have:Rf ((k',d)::ds) k=Rf ds k:=by simp[Rf,e]
   rw[this]
   exact Bm.val k t
theorem Bm.length:∀{v:Wp (Key×V)} {d:Wp (Key×D)},Bm K M H v d->v.length=d.length
 |_,_,.nil=>rfl
 |_,_,.cons _ t=>by simp[Bm.length t]
theorem Rh{v:V}{d:D}{k:Key}(r:C7 K M H v d)(e:UY d=Gc k):v=kV k:=by
 cases r<;>cases e<;>rfl
theorem Pa{v:V}{d:D}{es:Wp (Key×D)}(st:StR K M S H)(r:C7 K M H v d)(e:KY S d=Gc es):∃a kvs,v=.ref a/\H a=Gc (.dK kvs)/\Bm K M H kvs es:=by
 cases r with
 |dct h n r=>cases e;exact⟨_,_,rfl,h,r⟩
 |ref h=>
  rename_i a n
  unfold KY at e
  dsimp only at e
  split at e
  .rename_i es' e'
   cases e
   obtain⟨kvs,h1,h2⟩:=st.cell n a _ h e'
   exact⟨a,kvs,rfl,h1,h2⟩
  .cases e
 |_=>cases e
theorem StR.jF(r:StR K M S H){n:Nat}{a:j9}{ds es:Wp (Key×D)}{ys:Wp (Key×V)}(h1:M.cel[n]?=Gc a)(h2:S[n]?=Gc (.dct ds))(hy:Bm K M H ys es):StR K M (S.set n (.dct es)) (upd H a (.dK ys))/\Gr M H M (upd H a (.dK ys)):=by
 have ha:a∈M.cel:=kW h1
 have hl:n<S.length:=(kK.mp h2).1
 have g:Gr M H M (upd H a (.dK ys)):=⟨r.mo,lT,rfl,λ_ z=>.inl z,λb o eb nb=>by rw[AV (λz=>nb (by rw[z];exact ha))];exact eb,λb eb=>by
  by_cases h:b=a
  .subst h;rw[As];intro z;cases z
  .rw[AV h];exact eb⟩
 refine⟨⟨λb z=>?_,r.nd,r.nt,by rw[nI];exact r.len,λm b c e1 e2=>?_⟩,g⟩
 .by_cases h:b=a
  .subst h;exact .inr (.inl ⟨ys,As⟩)
  .rw[AV h];exact r.mo b z
 .by_cases h:n=m
  .subst h
   rw[h1]at e1;cases e1
   rw[kN hl]at e2;cases e2
   exact⟨ys,As,hy.step g.st⟩
  .rw[kB h]at e2
   have hb:b≠a:=λz=>by
    subst z
    exact h ((qR (kK.mp h1).1 r.nd).mp (h1.trans e1.symm))
   have q:=r.cell m b c e1 e2
   cases c with
   |lst fs=>obtain⟨xs,e,rr⟩:=q;exact⟨xs,by rw[AV hb];exact e,rr.step g.st⟩
   |dct fs=>obtain⟨xs,e,rr⟩:=q;exact⟨xs,by rw[AV hb];exact e,rr.step g.st⟩
   |tab fs=>obtain⟨xs,e,rr⟩:=q;exact⟨xs,by rw[AV hb];exact e,rr.step g.st⟩
theorem StR.dn(r:StR K M S H){a:j9}(e:H a=none):StR K ⟨M.cel,a::M.tmp⟩ S (upd H a (.dK []))/\Sp1 M H ⟨M.cel,a::M.tmp⟩ (upd H a (.dK [])):=by
 have k:∀b o,H b=Gc o->upd H a (.dK []) b=Gc o:=FF e
 have na:¬M.mem a:=λz=>r.mo.some z e
 have s1:Sp1 M H ⟨M.cel,a::M.tmp⟩ (upd H a (.dK [])):=⟨r.mo,lT,λb z=>by
  rcases z with z|z
  .exact .inl (.inl z)
  .rcases kG.mp z with z|z
   .subst z;exact .inr e
   .exact .inl (.inr z),λb o eb _=>k b o eb⟩
 refine⟨⟨λb z=>?_,r.nd,λb hb z=>?_,r.len,λn b c h1 h2=>?_⟩,s1⟩
 .by_cases h:b=a
  .subst h;exact .inr (.inl ⟨[],As⟩)
  .rw[AV h]
   refine r.mo b ?_
   rcases z with z|z
   .exact .inl z
   .rcases kG.mp z with z|z
    .exact absurd z h
    .exact .inr z
 .rcases kG.mp hb with hb|hb
  .subst hb;exact na (.inl z)
  .exact r.nt b hb z
 .have q:=r.cell n b c h1 h2
  cases c with
  |lst ds=>obtain⟨xs,e,rr⟩:=q;exact⟨xs,k _ _ e,rr.step s1⟩
  |dct ds=>obtain⟨xs,e,rr⟩:=q;exact⟨xs,k _ _ e,rr.step s1⟩
  |tab ds=>obtain⟨xs,e,rr⟩:=q;exact⟨xs,k _ _ e,rr.step s1⟩
theorem StR.gE{c t:Wp j9}{a:j9}{kvs:Wp (Key×V)}{es:Wp (Key×D)}(cf:lA)(r:StR K ⟨c,a::t⟩ S H)(nt:a∉t)(rr:Bm K ⟨c,a::t⟩ H kvs es):∃c',StR K ⟨c',t⟩ (QU cf es S).2 (upd H a (.dK kvs))/\C7 K ⟨c',t⟩ (upd H a (.dK kvs)) (.ref a) (QU cf es S).1/\c <+: c'/\(∀b∈c',b∈c\/b=a):=by
 have nc:a∉c:=r.nt a kJ
 have hl:c.length=S.length:=r.len
 have ne:∀b∈c,b≠a:=λb hb z=>nc (by rw[<-z];exact hb)
 have kp:∀b o,H b=Gc o->¬Ms.mem ⟨c,a::t⟩ b->upd H a (.dK kvs) b=Gc o:=λb o eb nb=>by rw[AV (λz=>nb (.inr (by rw[z];exact kJ)))];exact eb
 have old:∀{c':Wp j9},Sp1 ⟨c,a::t⟩ H ⟨c',t⟩ (upd H a (.dK kvs))->∀(n:Nat) (b:j9) (cl:Cl),c[n]?=Gc b->S[n]?=Gc cl->aZ K ⟨c',t⟩ (upd H a (.dK kvs)) b cl:=λs1 n b cl h1 h2=>by
  have hb:=ne b (kW h1)
  have q:=r.cell n b cl h1 h2
  cases cl with
  |lst ds=>obtain⟨xs,e,rr⟩:=q;exact⟨xs,by rw[AV hb];exact e,rr.step s1⟩
  |dct ds=>obtain⟨xs,e,rr⟩:=q;exact⟨xs,by rw[AV hb];exact e,rr.step s1⟩
  |tab ds=>obtain⟨xs,e,rr⟩:=q;exact⟨xs,by rw[AV hb];exact e,rr.step s1⟩
 have mo:∀b,Ms.mem ⟨c,t⟩ b\/b=a->(∃xs,upd H a (.dK kvs) b=Gc (.lst xs))\/(∃ks,upd H a (.dK kvs) b=Gc (.dK ks))\/∃ps,upd H a (.dK kvs) b=Gc (.tbl ps):=λb z=>by
  by_cases h:b=a
  .subst h;exact .inr (.inl ⟨kvs,As⟩)
  .rw[AV h]
   rcases z with z|z
   .exact r.mo b (z.imp id (kC _))
   .exact absurd z h
 cases cf with
 |false=>
  have s1:Sp1 ⟨c,a::t⟩ H ⟨c,t⟩ (upd H a (.dK kvs)):=⟨r.mo,lT,λb z=>.inl (z.imp id (kC _)),kp⟩
  exact⟨c,⟨λb z=>mo b (.inl z),r.nd,λb hb=>r.nt b (kC _ hb),r.len,old s1⟩,.dct As (λz=>z.elim nc nt) (rr.step s1),lT,λb z=>.inl z⟩
 |true=>
  have s1:Sp1 ⟨c,a::t⟩ H ⟨c++[a],t⟩ (upd H a (.dK kvs)):=⟨r.mo,oj _ _,λb z=>by
   rcases z with z|z
   .rcases kY.mp z with z|z
    .exact .inl (.inl z)
    .exact .inl (.inr (by rw[kX.mp z];exact kJ))
   .exact .inl (.inr (kC _ z)),kp⟩
  refine⟨c++[a],⟨λb z=>mo b ?_,?_,λb hb z=>?_,by simp[QU,hl],λn b cl h1 h2=>?_⟩,.ref (by rw[<-hl];exact kR),oj _ _,λb z=>?_⟩
  .rcases z with z|z
   .rcases kY.mp z with z|z
    .exact .inl (.inl z)
    .exact .inr (kX.mp z)
   .exact .inl (.inr z)
  .rw[mG]
   refine⟨r.nd,by simp,λx hx y hy z=>?_⟩
   simp at hy;subst hy
   exact nc (by rw[<-z];exact hx)
  .rcases kY.mp z with z|z
   .exact r.nt b (kC _ hb) z
   .rw[kX.mp z]at hb;exact nt hb
  .have h2:(S++[Cl.dct es])[n]?=Gc cl:=h2
   by_cases h:n<S.length
   .rw[j8 (by rw[hl];exact h)]at h1
    rw[j8 h]at h2
    exact old s1 n b cl h1 h2
   .have hm:n=S.length:=by
     have:=(kK.mp h2).1
     simp at this;lia
    subst hm
    rw[lG (by rw[hl];exact kA _)]at h1
    rw[lG (kA _)]at h2
    rw[hl]at h1
    simp at h1 h2
    subst h1 h2
    exact⟨kvs,As,rr.step s1⟩
  .rcases kY.mp z with z|z
   .exact .inl z
   .exact .inr (kX.mp z)
noncomputable def evP:Wp (Ev×Ev)->En->Sto->j6 (Wp (Key×D)×Sto)
 | [],_,S=>Gc ([],S)
 |(k,v)::r,E,S=>(k E S).bind λa=>(UY a.1).bind λkk=>(v E a.2).bind λb=>(evP r E b.2).map λq=>((kk,b.1)::q.1,q.2)
end
noncomputable def RW(cf:lA)(fs:Wp (Ev×Ev)):Ev:=λE S=>(evP fs E S).map λr=>QU cf (R4 [] r.1) r.2
abbrev Wt:=RW true
section
variable{X:Cx}{pos:Pos}
structure DPs(X:Cx)(pos:Pos)(ks:Wp (j6 ky))(vs:Wp ky)(fs:Wp (Ev×Ev)):Prop where
 pe:PPs X pos ks vs (fs.map λx=>(tD X.K x.1,tD X.K x.2))
 all:ks.all (·.isSome)=true
 len:ks.length=vs.length
 num:fs.length=vs.length
theorem Ye{K:jz}{M:Ms}{H:Hp}{S S':Sto}{Q:VK}{cf:lA}{p:j9}{M2:Ms}{H2:Hp}{S2:Sto}{kvs:Wp (Key×V)}{es:Wp (Key×D)}(st:StR K M S H)(hp:H p=none)(g:Gr ⟨M.cel,p::M.tmp⟩ (upd H p (.dK [])) M2 H2)(st2:StR K M2 S2 H2)(rk:Bm K M2 H2 kvs es)(q:∀v H' M',Gr M H M' H'->StR K M' (QU cf es S2).2 H'->C7 K M' H' v (QU cf es S2).1->Q v H'):Q (.ref p) (upd H2 p (.dK kvs)):=by
 obtain⟨c2,t2⟩:=M2
 have ht:t2=p::M.tmp:=g.tmp
 subst ht
 have np:p∉M.tmp:=λz=>st.mo.some (.inr z) hp
 obtain⟨c',st',rd,pr,sub⟩:=st2.gE cf np rk
 refine q _ _ ⟨c',M.tmp⟩ ⟨st.mo,(show M.cel <+: c2 from g.pre).trans pr,rfl,λb z=>?_,λb o eb nb=>?_,λb eb=>?_⟩ st' rd
 .rcases sub b z with z|z
  .rcases g.fresh b z with z|z
   .exact .inl z
   .right
    by_cases h:b=p
    .rw[h];exact hp
    .rw[AV h]at z;exact z
  .right;rw[z];exact hp
 .have h:b≠p:=λz=>by rw[z,hp]at eb;cases eb
  rw[AV h]
  exact g.keep b o (by rw[AV h];exact eb) nb
 .by_cases h:b=p
  .subst h;rw[As];intro z;cases z
  .rw[AV h]
   exact g.some b (by rw[AV h];exact eb)
theorem eY{cf:lA}:DE X (.Dict [] [] pos) (RW cf []):=⟨
 BW Vk λσ H Q z=>by
  obtain⟨M,E,S,d,S',e,r,st,q⟩:=z
  obtain⟨⟨es,S2⟩,e1,e⟩:=Ir e
  cases e1
  intro p hp
  obtain⟨st0,s0⟩:=st.dn hp
  have:=Ye (cf:=cf) (S':=S') (Q:=Q) (kvs:=[]) (es:=[]) st hp (.refl st0.mo) st0 .nil (by
   have e':QU cf [] S=(d,S'):=e
   rw[e'];exact q)
  rw[Yz]at this
  exact this⟩
noncomputable def U5(k f o:Ev):Ex:=λE S=>(k E S).bind λr=>(f E r.2).bind λb=>(o E b.2).bind λi=>(UY i.1).bind λkk=>match b.1 with
 | .ref n=>match i.2[n]? with
   |some (.dct es)=>if es.length<1000 then Gc (.nx,E,i.2.set n (.dct (putD es kk r.1)))else none
   |_=>none
 |_=>none
theorem Yd{e t bs:ky}{k f o:Ev}{ps pos:Pos}(hu:X.A.units+100<cLine)(h:DE X e k)(hb:DE X bs f)(ht:DE X t o)(hs:swapsWith e (Gc (.Subscript bs t ps)) pos.line X.env=pure false:=by rfl):DS X (.Assign [.Subscript bs t ps] e pos) (U5 k f o):=⟨
 EL (Xf (by lia) hb.pe ht.pe h.pe hs) λDn σ H z=>by
  obtain⟨M,E,S,fl,E',S',e,r,st,q⟩:=z
  obtain⟨⟨d,S1⟩,e1,e⟩:=An e
  obtain⟨⟨b,S2⟩,e2,e⟩:=An e
  obtain⟨⟨i,S3⟩,e3,e⟩:=An e
  obtain⟨kk,ek,e⟩:=An e
  dsimp only at e e1 e2 e3 ek
  split at e
  . 
   split at e
   .rename_i es e4
    split at e
    .rename_i hl
     cases e
     refine⟨M,E,S,d,S1,e1,r,st,λv H1 M1 g1 st1 r1=>?_⟩
     refine⟨M1,E,S1,_,S2,e2,r.step g1.st,st1,λbv H2 M2 g2 st2 r2=>?_⟩
     refine⟨M2,E,S2,_,S3,e3,(r.step g1.st).step g2.st,st2,λiv H3 M3 g3 st3 r3=>?_⟩
     rw[Rh r3 ek]
     cases r2 with
     |ref hc=>
      rename_i a
      have hc3:=KI g3.pre hc
      obtain⟨kvs,h1,h2⟩:=st3.cell _ a _ hc3 e4
      obtain⟨st4,g4⟩:=st3.jF hc3 e4 (Bm.put (k:=kk) ((r1.step g2.st).step g3.st) h2)
      have g:=((g1.trans g2).trans g3).trans g4
      exact⟨a,_,rfl,.k h1 (by rw[h2.length,qo];lia),q _ _ M3 g (r.step g.st) st4⟩
    .cases e
   .cases e
  .cases e⟩
end
abbrev sO(led:lA):Obj:={cls:=.type "set",dict:=none,data:=.set #[] 0 (.fresh 0 0 led)}
section
variable{prog:ke}{w:lB}{A:lF}{E:j4->j5->Prop}{s:j5}{l:j9}{items:kj j4}{ns:Wp Int}
abbrev TX(ns:Wp Int)(n:Nat):Wp Int:=zi (λi=>ns.getD i 0) n
end
end Mi
end
noncomputable section
namespace Mi
open PySem
abbrev Ris(xs:kj Nat):Prop:=xs.toList.Pairwise (· < ·)
theorem Ris.lt{xs:kj Nat}(h:Ris xs){i k:Nat}(a:i<k)(b:k<xs.size):xs[i]'(pS a b)<xs[k]:=by
 have:=rR.mp h i k (by simpa using pS a b) (by simpa using b) a
 simpa using this
structure Blw(xs:kj Nat)(j r:Nat):Prop where
 le:r<=xs.size
 lo:∀i (h:i<xs.size),i<r->xs[i]<j
 hi:∀i (h:i<xs.size),r<=i->j<=xs[i]
theorem Mr{xs:kj Nat}(hx:Ris xs)(j:Nat):∀fuel lo hi,hi-lo<=fuel->lo<=hi->hi<=xs.size->(∀i (h:i<xs.size),i<lo->xs[i]<j)->(∀i (h:i<xs.size),hi<=i->j<=xs[i])->Blw xs j (vV xs j fuel lo hi)
 |0,lo,hi,f,a,b,c,d=>by
  have:lo=hi:=by lia
  subst this
  exact⟨b,c,d⟩
 |fuel+1,lo,hi,f,a,b,c,d=>by
  unfold vV
  by_cases q:lo<hi
  .rw[kh q]
   have ml:(lo+hi) / 2<xs.size:=by lia
   have e:xs.getD ((lo+hi) / 2) j=xs[(lo+hi) / 2]:=by simp[qF,ml]
   dsimp only
   by_cases z:xs.getD ((lo+hi) / 2) j<j
   .rw[kh z]
    rw[e]at z
    refine Mr hx j fuel _ _ (by lia) (by lia) b (λi h l=>?_) d
    by_cases k:i=(lo+hi) / 2
    .subst k;exact z
    .exact pS (hx.lt (show i<(lo+hi) / 2 by lia) ml) z
   .rw[ko z]
    rw[e]at z
    refine Mr hx j fuel _ _ (by lia) (by lia) (by lia) c (λi h l=>?_)
    by_cases k:i=(lo+hi) / 2
    .subst k;lia
    .have:=hx.lt (show(lo+hi) / 2<i by lia) h;lia
  .rw[ko q]
   have:lo=hi:=by lia
   subst this
   exact⟨b,c,d⟩
theorem MM{xs:kj Nat}(hx:Ris xs)(j:Nat):Blw xs j (lV xs j):=
 Mr hx j _ _ _ (by lia) (lX _) (kA _) (λi _ h=>absurd h (by lia)) (λi h l=>absurd h (by lia))
theorem below_at{xs:kj Nat}(hx:Ris xs){k:Nat}(hk:k<xs.size):lV xs xs[k]=k:=by
 have b:=MM hx xs[k]
 rcases vW (lV xs xs[k]) k with h|h|h
 .have:=b.hi _ (by lia) (kA _);have:=hx.lt h hk;lia
 .exact h
 .have:=b.lo k hk h;lia
noncomputable def slotAt(xs:kj Nat)(i:Nat):Nat:=if i=0 then 0 else xs.getD (i-1) 0+1
theorem Pu{xs:kj Nat}(hx:Ris xs){i:Nat}(hi:i<=xs.size):lV xs (slotAt xs i)=i:=by
 have b:=MM hx (slotAt xs i)
 have bl:=b.le
 by_cases z:i=0
 .subst z
  rcases Nat.eq_zero_or_pos (lV xs (slotAt xs 0))with h|h
  .exact h
  .have:=b.lo 0 (by lia) h;simp[slotAt]at this
 .have e:slotAt xs i=xs[i-1]'(by lia)+1:=by
   have:i-1<xs.size:=by lia
   simp[slotAt,z,qF,this]
  rcases vW (lV xs (slotAt xs i)) i with h|h|h
  .have:=b.hi (i-1) (by lia) (by lia);lia
  .exact h
  .have h1:=b.lo i (by lia) h;have h2:=hx.lt (show i-1<i by lia) (show i<xs.size by lia);lia
theorem Ris.insert{xs:kj Nat}(hx:Ris xs){j:Nat}(hj:xs[lV xs j]?≠Gc j):Ris (SetTable.insertAt xs (lV xs j) j):=by
 have b:=MM hx j
 have nj:∀k (hk:k<xs.size),xs[k]≠j:=λk hk e=>hj (by rw[<-e,below_at hx hk,Array.getElem?_eq_getElem hk])
 show uf _ _
 rw[yC,List.pairwise_append,uy]
 have tk:∀a∈xs.toList.take (lV xs j),a<j:=λa ha=>by
  obtain⟨i,hi,rfl⟩:=List.mem_take_iff_getElem.mp ha
  have q:i<xs.size:=by simp at hi;lia
  simpa using b.lo i q (by lia)
 have dr:∀a∈xs.toList.drop (lV xs j),j<a:=λa ha=>by
  obtain⟨i,hi,rfl⟩:=List.mem_drop_iff_getElem.mp ha
  have q:lV xs j+i<xs.size:=by simp at hi;lia
  have:=b.hi _ q (by lia)
  have:=nj _ q
  simp only[Array.getElem_toList]
  lia
 refine⟨tj (qO _ _) hx,⟨dr,tj (List.drop_sublist _ _) hx⟩,λa ha c hc=>?_⟩
 rcases kG.mp hc with rfl|hc
 .exact tk a ha
 .exact pS (tk a ha) (dr c hc)
theorem Ra(n:Nat):Ris (Array.range n):=by
 show uf _ _
 rw[Array.toList_range];exact qT
structure TOk(t:SetTable)(led:lA):Prop where
 dum:t.dummies= #[]
 ris:Ris t.place
 led:t.led=led
theorem TOk.fresh(led:lA):TOk (.fresh 0 0 led) led:=⟨rfl,rm,rfl⟩
theorem TOk.standIn{t:SetTable}{led:lA}(h:TOk t led)(n:Nat):TOk (t.standIn n) led:=⟨rfl,Ra n,h.led⟩
theorem TOk.orStandIn{t:SetTable}{led:lA}(h:TOk t led)(n:Nat):TOk (t.orStandIn n) led:=by
 unfold SetTable.orStandIn;split
 .exact h
 .exact h.standIn n
theorem TOk.plain{t:SetTable}{led:lA}(h:TOk t led)(b:lA):TOk {t with plain:=b} led:=⟨h.dum,h.ris,h.led⟩
theorem Qu(j:Nat):vX #[] j=false:=by simp[vX]
theorem O4{t:SetTable}(hd:t.dummies= #[])(f:Nat->Int)(h:Int):∀fuel (p:SetTable.Probe) {j d},p.dummy=none->rz t f h fuel p=Gc (.empty j d)->d=none/\t.place[lV t.place j]?≠Gc j
 |0,p,j,d,_,e=>by simp[rz]at e
 |fuel+1,p,j,d,pn,e=>by
  unfold rz at e
  have an:(t.advance p).dummy=none:=by unfold SetTable.advance;split<;>exact pn
  cases q:t.slot p.j with
  |empty=>
   rw[q]at e
   dsimp only at e
   injection e with e
   injection e with e1 e2
   subst e1 e2
   refine⟨pn,λz=>?_⟩
   unfold yD at q
   rw[kh (by rw[z];simp)]at q
   exact xl q
  |dummy=>
   unfold yD at q
   rw[hd,Qu]at q
   dsimp only at q
   split at q<;>simp at q
  |live i=>
   rw[q]at e
   dsimp only at e
   split at e
   .simp at e
   .exact O4 hd f h fuel _ an e
theorem Y6{t:SetTable}{led:lA}(h:TOk t led){x:Int}{j:Nat}{b:lA}(e:t.freeSlot x=Gc (j,b)):t.place[lV t.place j]?≠Gc j:=by
 unfold SetTable.freeSlot at e
 split at e
 .rename_i j' d q
  unfold SetTable.probe at q
  obtain⟨rfl,n⟩:=O4 h.dum _ x _ _ rfl q
  simp at e
  obtain⟨rfl,_⟩:=e
  exact n
 .simp at e
theorem TOk.put{t:SetTable}{led:lA}(h:TOk t led){j:Nat}(n:t.place[lV t.place j]?≠Gc j):TOk (t.put j).1 led:=by
 refine⟨?_,h.ris.insert n,h.led⟩
 show(if vX t.dummies j=true then _ else t.dummies)=_
 rw[h.dum,Qu];rfl
theorem TOk.layNew{t:SetTable}{led:lA}(h:TOk t led)(es:kj (Int×j4))(x:Int)(v:j4):TOk (layNew t es x v).2.1 led:=by
 unfold PySem.layNew
 split
 .rename_i j b e
  exact(h.put (Y6 h e)).orStandIn _
 .exact h.standIn _
theorem TOk.fL{t:SetTable}{led:lA}(h:TOk t led)(es:kj (Int×j4))(n:Nat):TOk (relayAll t es n).2.1 led:=by
 unfold relayAll
 split
 .rename_i t' order e
  dsimp only
  split
  .unfold SetTable.relaid SetTable.laid at e
   cases q:SetTable.layClean (SetTable.sizeAbove n-1) (es.map (·.1))with
   |none=>rw[q]at e;simp at e
   |some owner=>
    rw[q]at e
    simp at e
    obtain⟨rfl,_⟩:=e
    refine⟨rfl,?_,h.led⟩
    show uf _ _
    simp only[List.map_filterMap]
    refine yb _ (λa a' l b hb b' hb'=>?_) qT
    simp at hb hb'
    obtain⟨_,_,rfl⟩:=hb
    obtain⟨_,_,rfl⟩:=hb'
    exact l
  .exact h.standIn _
 .exact h.standIn _
end Mi
end
noncomputable section
namespace Mi
open PySem PySem.Spec L2 PyProof.Rows
noncomputable def iOf:Int×j4->Int|(_,.int n _)=>n|_=>0
abbrev vls(es:Wp (Int×j4)):Wp Int:=es.map iOf
abbrev byT(w:lB):lA:=w.params.followText "set-order"
section
variable{prog:ke}{w:lB}{A:lF}{E:j4->j5->Prop}{s:j5}
def Jf(prog:ke)(w:lB)(h:lD)(a:j9)(L:Wp Int):Prop:=
 ∃o es ep t,h.get? a=Gc o/\o.ExactSet/\o.data=.set es ep t/\tK (intKind prog w) es.toList/\(vls es.toList).Perm L/\es.size<scanBound/\t.fits es.size=true/\TOk t (!byT w)
theorem Jf.at{h h':lD}{a:j9}{L:Wp Int}(x:Jf prog w h a L)(k:∀o,h.get? a=Gc o->h'.get? a=Gc o):Jf prog w h' a L:=
 let⟨o,es,ep,t,ho,r⟩:=x;⟨o,es,ep,t,k o ho,r⟩
theorem XQ{e:Int×j4}{es:Wp (Int×j4)}(h:tK (intKind prog w) es)(he:e∈es)(k:Int):(intKind prog w).is k e.2=true↔iOf e=k:=by
 obtain⟨⟨k',q,_⟩,_⟩:=h e he
 obtain⟨t,hv⟩:=rV q
 obtain⟨x,v⟩:=e
 dsimp only at hv
 subst hv
 show tz k (.int k' t)=true↔k'=k
 simp[tz]
theorem R6{es:Wp (Int×j4)}(h:tK (intKind prog w) es)(k:Int):(∃e∈es,(intKind prog w).is k e.2=true)↔k∈vls es:=by
 rw[lC]
 exact⟨λ⟨e,he,q⟩=>⟨e,he,(XQ h he k).mp q⟩,λ⟨e,he,q⟩=>⟨e,he,(XQ h he k).mpr q⟩⟩
theorem Lb{h:lD}{a:j9}{o:Obj}{es:kj (Int×j4)}{ep:Nat}{t:SetTable}(ho:h.get? a=Gc o)(hex:o.ExactSet)(hd:o.data=.set es ep t){es':kj (Int×j4)}{t':SetTable}{L:Wp Int}(hel:tK (intKind prog w) es'.toList)(hp:(vls es'.toList).Perm L)(hb:es'.size<scanBound)(hf:t'.fits es'.size=true)(ht:TOk t' (!byT w)):(h.update a (tL es' t')).get? a=Gc {o with data:=.set es' (ep+1) t'}/\Jf prog w (h.update a (tL es' t')) a L:=by
 have hg:(h.update a (tL es' t')).get? a=Gc {o with data:=.set es' (ep+1) t'}:=by
  have:=lJ (tL es' t') ho (by rw[putSet_of es' t' hd];rfl)
  rw[putSet_of es' t' hd]at this;exact this
 exact⟨hg,_,es',ep+1,t',hg,hex,rfl,hel,hp,hb,hf,ht⟩
theorem PH{g:lA->Sem Unit}(hg:∀(b:lA) (s₁:j5) (Q':Unit->j5->Prop),Q' () s₁->wpAny (model prog w) A (g b) Q' E s₁){a:j9}{o:Obj}{es:kj (Int×j4)}{ep:Nat}{t:SetTable}(ho:s.heap.get? a=Gc o)(hex:o.ExactSet)(hd:o.data=.set es ep t){es1:kj (Int×j4)}{t2:SetTable}{L:Wp Int}(hel1:tK (intKind prog w) es1.toList)(hp1:(vls es1.toList).Perm L)(hb1:es1.size<scanBound)(hf2:t2.fits es1.size=true)(ht:TOk t2 (!byT w)){wasDummy:lA}{R:j6 lA->j5->Prop}(h:∀h',nN a s.heap h'->Jf prog w h' a L->R (Gc true) {s with heap:=h'}):wpAny (model prog w) A (do
        storeSet a es1 t2
        if(!wasDummy && t2.tooFull)=true then do
           g (relayAll t2 es1 (oV es1.size)).2.2
           storeSet a (relayAll t2 es1 (oV es1.size)).1 (relayAll t2 es1 (oV es1.size)).2.1
           pure (Gc true)
         else pure (Gc true)) R E s:=by
 refine jy (vY ho hd ?_ (qU hb1))
 obtain⟨ho1,hS1⟩:=Lb ho hex hd hel1 hp1 hb1 hf2 ht
 have hsb1:=lu s.heap a (tL es1 t2)
 split
 .have hp:=relayAll_perm t2 es1 (oV es1.size)
  have hfr:=relayAll_fits t2 es1 (oV es1.size)
  have htr:=ht.fL es1 (oV es1.size)
  generalize hRl:relayAll t2 es1 (oV es1.size)=Rl at hp hfr htr⊢
  obtain⟨es2,t3,gave2⟩:=Rl
  dsimp only at hp hfr htr⊢
  have hel2:tK (intKind prog w) es2.toList:=hel1.perm hp
  have hsz:es2.size=es1.size:=by rw[<-lg,hp.length_eq,lg]
  have hb2:es2.size<scanBound:=by rw[hsz];exact hb1
  refine jy (hg _ _ _ ?_)
  refine jy (vY ho1 rfl ?_ (qU hb2))
  obtain⟨_,hS2⟩:=Lb ho1 hex rfl hel2 ((hp.map iOf).trans hp1) hb2 hfr htr
  exact j7 (h _ (hsb1.trans (lu _ a _)) hS2)
 .exact j7 (h _ hsb1 hS1)
theorem YO{a:j9}{L:Wp Int}{k:Int}{u:Tok}{Q:lA->j5->Prop}(hS:Jf prog w s.heap a L)(hroom:L.length+1<scanBound)(h:∀h' b,nN a s.heap h'->Jf prog w h' a (nJ L k)->Q b {s with heap:=h'}):wpAny (model prog w) A (setAddHashed a (.int k u) ((intKind prog w).hash k)) Q E s:=by
 obtain⟨o,es,ep,t,ho,hex,hd,hel,hp,hb,hf,ht⟩:=hS
 have hkey:=intKind_is prog w k u
 have hsc:(qb k u).scannable=true:=rfl
 have hn:es.size=L.length:=by have:=hp.length_eq;simpa using this
 have hb1:es.size+1<scanBound:=by rw[hn];exact hroom
 unfold setAddHashed setAddHashedIn
 refine lM (jy (oG ho hd hf ?_))
 dsimp only
 rw[byScan_of hsc hb hel]
 simp only[↓reduceIte]
 unfold setAddByScan
 refine jy ?_
 refine jy (oJ ?_)
 refine jy (wpAny_setScan_of hkey ho hd hf hel ?_)
 cases hr:List.findIdx? (λe=>(intKind prog w).is k e.2) es.toList with
 |some j=>
  dsimp only
  obtain⟨hj,hpj,_⟩:=List.findIdx?_eq_some_iff_getElem.mp hr
  have kin:k∈L:=hp.mem_iff.mp ((R6 hel k).mp ⟨es.toList[j],oW hj,hpj⟩)
  refine j7 (j7 ?_)
  have e:s={s with heap:=s.heap}:=by cases s;rfl
  rw[e]
  refine h s.heap _ (vR a s.heap) ?_
  rw[show nJ L k=L by unfold nJ;rw[kh (nW.mpr ⟨k,kin,by simp⟩)]]
  exact⟨o,es,ep,t,ho,hex,hd,hel,hp,hb,hf,ht⟩
 |none=>
  dsimp only
  have kno:k∉L:=λz=>by
   obtain⟨e,he,q⟩:=(R6 hel k).mpr (hp.mem_iff.mpr z)
   have:=List.findIdx?_eq_none_iff.mp hr e he;rw[q]at this;exact mU this
  have sd:nJ L k=L++[k]:=by
   unfold nJ
   rw[ko (λz=>by obtain⟨x,hx,e⟩:=nW.mp z;exact kno (by rw[<-eq_of_beq e];exact hx))]
  rw[sd]at h
  have hgw:∀(b:lA) {s₁:j5} {Q':Unit->j5->Prop},Q' () s₁->wpAny (model prog w) A (match b with|true=>rule "set.scan.the-table-gave-way" |false=>pure ()) Q' E s₁:=
   λb s₁ Q' hq=>by cases b<;>first|exact j7 hq|exact oJ hq
  have hperm:=layNew_perm t es ((intKind prog w).hash k) (.int k u)
  have hfits:=layNew_fits t es ((intKind prog w).hash k) (.int k u)
  have hto:=ht.layNew es ((intKind prog w).hash k) (.int k u)
  generalize hL:layNew t es ((intKind prog w).hash k) (.int k u)=L1 at hperm hfits hto⊢
  obtain⟨es1,t1,wasDummy,gave⟩:=L1
  dsimp only at hperm hfits hto⊢
  rw[vZ]at hperm
  have hel1:tK (intKind prog w) es1.toList:=(hel.push hkey hsc).perm hperm
  have hp1:(vls es1.toList).Perm (L++[k]):=(hperm.map iOf).trans (by rw[mR];exact hp.append_right _)
  have hb1':es1.size<scanBound:=by rw[<-lg,hperm.length_eq,lK,lg];simpa using hb1
  refine jy (hgw _ ?_)
  split
  .refine jy ?_
   rw[hashByValue_scannable 8 hsc]
   refine j7 ?_
   refine PH ?_ ho hex hd hel1 hp1 hb1' ?_ ?_ ?_
   .intro b s₁ Q' hq;cases b<;>first|exact j7 hq|exact oJ hq
   .split
    .exact hfits
    .exact yc hfits
   .split
    .exact hto
    .exact hto.plain _
   .intro h' hsb hS';dsimp only;exact j7 (h h' _ hsb hS')
  .refine jy (j7 ?_)
   simp only[↓reduceIte]
   refine PH ?_ ho hex hd hel1 hp1 hb1' hfits hto ?_
   .intro b s₁ Q' hq;cases b<;>first|exact j7 hq|exact oJ hq
   .intro h' hsb hS';dsimp only;exact j7 (h h' _ hsb hS')
end
section
variable{prog:ke}{w:lB}{A:lF}{R:uo->j5->Prop}{I:j9}{fp wr:Wp j9}{G:kj wo->kj wo->Prop}{n:Nat}{P:Nat->j4->Prop}{St:Nat->j5->Prop}
theorem Ng(W:WalksS prog w A.in1 I fp wr G n P St)(S:j9)(hSf:S∉fp)(val:Nat->Int)(hval:∀i v,P i v->∃t,v=.int (val i) t)(hb:n+1<scanBound):∀(k i:Nat) (s:j5),n-i=k->i<=n->St i s->Jf prog w s.heap S (firstMet val i)->(∀s',Moved (S::wr) G s s'->Jf prog w s'.heap S (firstMet val n)->R (.ok (.ret .none)) s')->codeAny (model prog w) A (.builtin "set.update.loop" ⟨[.ref S,.ref I],[]⟩) R s:=by
 have hSw:S∉wr:=λh=>hSf (W.sub _ h)
 have hsub:∀b∈wr,b∈S::wr:=λb hb=>kC _ hb
 intro k
 induction k with
 |zero=>
  intro i s hk hi hst hS hR
  have hin:i=n:=by lia
  subst hin
  refine nK sY ?_
  rw[mV qJ _]
  show wpAny _ A.in1 (pyNext (.ref I) >>= _) _ _ s
  refine jy (W.done s _ _ hst λs' hm=>?_)
  show wpAny _ A.in1 (ret mI) _ _ s'
  exact j7 (hR s' (hm.mono hsub) (hS.at λo e=>hm.heap S _ hSw e))
 |succ k ih=>
  intro i s hk hi hst hS hR
  have hlt:i<n:=by lia
  refine nK sY ?_
  rw[mV qJ _]
  show wpAny _ A.in1 (pyNext (.ref I) >>= _) _ _ s
  refine jy (W.item i s _ _ hlt hst λv s' hP hst' hm=>?_)
  obtain⟨t,rfl⟩:=hval i v hP
  have hS':Jf prog w s'.heap S (firstMet val i):=hS.at λo e=>hm.heap S _ hSw e
  show wpAny _ A.in1 (holding [qb (val i) t] (setAdd S (.int (val i) t)) >>= _) _ _ s'
  refine jy (lM ?_)
  unfold setAdd
  refine lM ?_
  refine jy ((intKind prog w).pyHash (k:=val i) (intKind_is _ _ _ _) ?_)
  have hroom:(firstMet val i).length+1<scanBound:=by have:=firstMet_length_le val i;lia
  refine YO (s:={s' with toks:=s'.toks+1}) hS' hroom λh' bb hsb hS2=>?_
  rw[<-firstMet_succ]at hS2
  refine j7 ⟨p0 qJ _,ih (i+1) _ (by lia) hlt (W.frame _ s' _ _ hst' (sA _) λb hb o e=>?_) hS2 λs'' hm'' hS''=>?_⟩
  .rw[hsb.2 b (λh:b=S=>hSf (by rw[<-h];exact hb))];exact e
  .refine hR s'' (Moved.trans W.gtrans ((hm.mono hsub).then_heap (sA _) λb o hb e=>?_) hm'') hS''
   rw[hsb.2 b (λh:b=S=>hb (by rw[h];exact kJ))];exact e
end
section
variable{prog:ke}{w:lB}{A:lF}{E:j4->j5->Prop}{s:j5}
theorem VD(a:j4){Q₁:j4->j5->Prop}(h:Q₁ (.ref s.heap.objs.size) {s with heap:=s.heap.push (sO (!byT w))}):codeAny (model prog w) A (.call (.builtin "set.__new__") ⟨[.type "set",a],[]⟩) (wants Q₁ E) s:=by
 refine wV ?_
 show wpAny _ A.in1 (do checkBuiltinCall "set.__new__" ⟨[.type "set",a],[]⟩;again (.builtin "set.__new__" ⟨[.type "set",a],[]⟩)) _ _ s
 refine jy (wI (F.newCall_set_1 a) (j7 ⟨p0 wW _,nK F.entry_set_new ?_⟩))
 rw[mV wW _]
 unfold mw.«set.__new__» xM
 have hsub:=zG
 obtain⟨hp,g,d,tk,os⟩:=s
 dsimp only
 wp_walk
 refine sZ (j7 ?_)
 dsimp only
 simp only[newObj]
 refine jy (wpAny_alloc (j7 ?_))
 exact j7 h
end
end Mi
end
noncomputable section
namespace Mi
open PySem PySem.Spec L2 PyProof.Rows
section
variable{prog:ke}{w:lB}{A:lF}{E:j4->j5->Prop}{s:j5}{l:j9}{items:kj j4}{ns:Wp Int}
theorem Jf.fresh{h:lD}{a:j9}(e:h.get? a=Gc (sO (!byT w))):Jf prog w h a []:=
 ⟨_, #[],0,_,e,⟨rfl,rfl,rfl⟩,rfl,λe he=>by simp at he,by exact qV _,by decide,by rfl,TOk.fresh _⟩
theorem Rg{Q:j4->j5->Prop}(hh:A.handled=none)(hl:s.heap.IsList l items)(hi:nD items.toList ns)(hb:items.size+1<scanBound)(h:∀(h':lD) (tk:Nat),Jf prog w h' s.heap.objs.size (TX ns items.size)->(∀b o,s.heap.get? b=Gc o->h'.get? b=Gc o)->Q .none {s with heap:=h',toks:=tk}):codeAny (model prog w) A (.call (.builtin "set.__init__") ⟨[.ref s.heap.objs.size,.ref l],[]⟩) (wants Q E) {s with heap:=s.heap.push (sO (!byT w))}:=by
 generalize hled:(!byT w)=led
 have me:(s.heap.push (sO led)).get? s.heap.objs.size=Gc (sO led):=kH _ rfl
 have ty:yE {s with heap:=s.heap.push (sO led)} (.ref s.heap.objs.size) "set":=⟨_,me,rfl⟩
 have hl1:=hl.push (sO led)
 obtain⟨o,ho,hc,n,hd⟩:=id hl
 have lt:=kL ho
 refine codeAny_call_builtin om.init.plain F.entry_set_init (check_set_init_1 ty ?_)
 have ho1:=j0 (sO led) ho
 obtain⟨c0,d0,q0,l0⟩:=o
 cases hc;cases hd
 have n1:=F.sub_list_set
 have n2:=F.sub_list_frozenset
 have n3:(qc "list" ==qc "dict")=false:=by decide
 unfold mw.«set.__init__» noKeywords wX
 generalize pi:pyIter=it
 wp_walk
 subst pi
 refine md hl1 (jy (uH ?_))
 have sz:(s.heap.push (sO led)).objs.size=s.heap.objs.size+1:=ku ..
 have ap:l≠(s.heap.push (sO led)).objs.size:=by rw[sz];exact kS (mB lt)
 refine Ng ((Walks.list (by simp[hh]) _ l ap items).toS) s.heap.objs.size (by rw[sz,kG,kX,tH];exact⟨kS (nV _),oZ lt⟩) (λi=>ns.getD i 0)
  (λi v hv=>hi.int_at i v (by rw[nv];exact hv)) hb (items.size-0) 0 _ (by lia) (lX _) ⟨⟨_,kH _ rfl,rfl,rfl⟩,hl1.push _⟩ ?_ ?_
 .exact Jf.fresh (by rw[hled];exact j0 _ me)
 .rintro ⟨h',g',d',tk',os'⟩ hm hS
  have e1:g'=s.gens:=hm.gens
  have e2:d'=s.drawn:=hm.drawn
  have e3:os'=s.os:=hm.os
  subst e1 e2 e3
  refine j7 (show wpAny _ _ (ret mI) _ _ _ from j7 (h h' tk' hS λb u e=>?_))
  have lb:=kL e
  exact hm.heap b u (by rw[sz,kG,kX,tH];exact⟨kS lb,kS (mB lb)⟩) (j0 _ (j0 _ e))
theorem Qj{Q:j4->j5->Prop}(hh:A.handled=none)(hl:s.heap.IsList l items)(hi:nD items.toList ns)(hb:items.size+1<scanBound)(h:∀(h':lD) (tk:Nat),Jf prog w h' s.heap.objs.size (TX ns items.size)->(∀b o,s.heap.get? b=Gc o->h'.get? b=Gc o)->Q (.ref s.heap.objs.size) {s with heap:=h',toks:=tk}):wpAny (model prog w) A (call (.type "set") [.ref l]) Q E s:=by
 obtain⟨c,tl,mr⟩:=om.mro
 have z1:=om.made
 have z2:=om.sub
 have z3:=om.notType
 have z4:=om.canCreate
 have z5:=F.typeCall_set_1 (.ref l)
 refine wpAny_call (wV (show wpAny _ _ (callAny (.type "set") _) _ _ _ from j7 ⟨Code.quiet_builtin _ (by decide+kernel),nK F.entry_type_call ?_⟩))
 rw[Around.under_plain (weight_type_call_type "set" [.ref l] []) rfl]
 repeat (any_goals (first|assumption|wp_step))
 refine qN (VD (.ref l) (E:=E) (Q₁:=λu s1=>u=.ref s.heap.objs.size/\s1={s with heap:=s.heap.push (sO (!byT w))}) ⟨rfl,rfl⟩) ?_
 rintro (e|(_|u|_)) s1 hr
 all_goals first|exact hr|exact hr.elim|skip
 obtain⟨rfl,rfl⟩:=hr
 have me:(s.heap.push (sO (!byT w))).get? s.heap.objs.size=Gc (sO (!byT w)):=kH _ rfl
 have ty:yE {s with heap:=s.heap.push (sO (!byT w))} (.ref s.heap.objs.size) "set":=⟨_,me,rfl⟩
 have y1:=om.init.lookup
 have y2:=om.init.bind (.ref s.heap.objs.size)
 repeat (any_goals (first|assumption|wp_step))
 refine qN (Rg (E:=E) (Q:=λr s2=>r=.none/\∃h' tk,s2={s with heap:=h',toks:=tk}/\Jf prog w h' s.heap.objs.size (TX ns items.size)/\∀b o,s.heap.get? b=Gc o->h'.get? b=Gc o) (by simp[hh]) hl hi hb λh' tk hS hk=>⟨rfl,h',tk,rfl,hS,hk⟩) ?_
 rintro (e|(_|u|_)) s2 hr
 all_goals first|exact hr|exact hr.elim|skip
 obtain⟨rfl,h',tk,rfl,hS,hk⟩:=hr
 repeat (any_goals (first|assumption|wp_step))
 exact h _ _ hS hk
end
end Mi
end
noncomputable section
namespace Mi
open PySem PySem.Spec L2 PyProof.Rows
section
variable{prog:ke}{w:lB}{A:lF}{E:j4->j5->Prop}{s:j5}{a:j9}{es:kj (Int×j4)}{ep:Nat}{t:SetTable}
def Jd(h:lD)(a:j9)(es:kj (Int×j4))(ep:Nat)(t:SetTable):Prop:=∃o,h.get? a=Gc o/\o.ExactSet/\o.data=.set es ep t/\t.fits es.size=true
theorem Jd.at{h h':lD}(x:Jd h a es ep t)(k:∀o,h.get? a=Gc o->h'.get? a=Gc o):Jd h' a es ep t:=let⟨o,ho,r⟩:=x;⟨o,k o ho,r⟩
theorem IU{Q:lA->j5->Prop}(h:Q (byT w) s):wpAny (model prog w) A setsByText Q E s:=by
 unfold setsByText
 exact jy (sZ (j7 h))
theorem Qp{slot i:Nat}{Q:j6 (j4×Nat)->j5->Prop}(hb:byT w=true)(x:Jd s.heap a es ep t)(h:Q (((pickOrder (w.params.setOrder a ep) es)[i]?).map λe=>(e.2,slot)) s):wpAny (model prog w) A (setNext a slot i ep) Q E s:=by
 obtain⟨o,ho,hex,hd,hf⟩:=x
 unfold setNext
 refine jy (oG ho hd hf (jy (IU ?_)))
 rw[hb]
 simp only[qk,qW,mz,pL]
 unfold setWalk
 refine jy (jy (oG ho hd hf (jy (IU ?_))))
 rw[hb]
 exact jy (sZ (j7 (j7 h)))
theorem P1{slot i:Nat}{Q:j6 (j4×Nat)->j5->Prop}(hb:byT w=false)(x:Jd s.heap a es ep t)(hp:(!t.plain && decide (es.size>1))=false)(hl:t.led=true)(h:Q (match es[lV t.place slot]?,t.place[lV t.place slot]? with|some (_,x),Gc j=>Gc (x,j+1)|_,_=>none) s):wpAny (model prog w) A (setNext a slot i ep) Q E s:=by
 obtain⟨o,ho,hex,hd,hf⟩:=x
 unfold setNext
 refine jy (oG ho hd hf (jy (IU ?_)))
 rw[hb]
 simp only[mz,pL]
 rw[ko (show¬_ from by show¬((!t.plain && decide (es.size>1))=true);rw[hp];simp)]
 refine jy ?_
 show wpAny _ _ (if(!t.led && !es.isEmpty)=true then unsupported _ else pure ()) _ _ _
 rw[hl]
 exact j7 (j7 h)
theorem BG:Slot "set_iterator" "__next__" "set_iterator.__next__":=
 .of (owner:="set_iterator") (n:="__next__") (by rw[wY,tm];kernel_rfl) (by decide+kernel) (by decide+kernel) (by decide+kernel)
  (by first|exact .inl (by decide+kernel)|exact .inr (by decide+kernel)) (by rw[uI];kernel_rfl)
theorem EV:entryFor table "set_iterator.__next__"=Gc mw.«set_iterator.__next__» :=entryFor_of_tree (by kernel_rfl)
theorem Pe : Manifest.owners.lookup (String.ofList ['r', 'o', 't', 'a', 'r', 'e', 't', 'i', '_', 't', 'e', 's'].reverse) = Gc xn := by kernel_rfl
theorem FL(a:j4):argsOk "set_iterator.__next__" ⟨[a],[]⟩:=by
 unfold argsOk; rw [yF (id := "set_iterator.__next__") (n := ['_', '_', 't', 'x', 'e', 'n', '_', '_']) (o := ['r', 'o', 't', 'a', 'r', 'e', 't', 'i', '_', 't', 'e', 's']) (by kernel_rfl) Pe]; kernel_rfl
theorem JL:Slot "set_iterator" "__iter__" "set_iterator.__iter__":=
 .of (owner:="set_iterator") (n:="__iter__") (by rw[wY,tm];kernel_rfl) (by decide+kernel) (by decide+kernel) (by decide+kernel)
  (by first|exact .inl (by decide+kernel)|exact .inr (by decide+kernel)) (by rw[uI];kernel_rfl)
theorem NV(a:j4):argsOk "set_iterator.__iter__" ⟨[a],[]⟩:=by
 unfold argsOk; rw [yF (id := "set_iterator.__iter__") (n := ['_', '_', 'r', 'e', 't', 'i', '_', '_']) (o := ['r', 'o', 't', 'a', 'r', 'e', 't', 'i', '_', 't', 'e', 's']) (by kernel_rfl) Pe]; kernel_rfl
theorem Mh:entryFor table "set_iterator.__iter__"=Gc mw.«dict_keyiterator.__iter__» :=
 xN (id':="dict_keyiterator.__iter__") (by kernel_rfl) (by first|rfl|decide+kernel|(unfold String.splitOn;simp+decide [String.splitOnAux])) (by decide+kernel) (by kernel_rfl)
theorem K9:entryFor table "set.__iter__"=Gc mw.«frozenset.__iter__» :=
 xN (id':="frozenset.__iter__") (by kernel_rfl) rfl (by decide+kernel) (by kernel_rfl)
def SIt(h:lD)(I a:j9)(f:j4)(i n ep:Nat):Prop:=∃o,h.get? I=Gc o/\o.cls=.type "set_iterator" /\o.data=.fields #[f,.int i 0,.ref a,.int n 0,.int ep 0]
variable{I:j9}{i n:Nat}{f:j4}
theorem SIt.typeIs(x:SIt s.heap I a f i n ep):s.TypeIs (.ref I) "set_iterator":=let⟨o,ho,c,_⟩:=x;⟨o,ho,c⟩
theorem SIt.at{h h':lD}(x:SIt h I a f i n ep)(k:∀o,h.get? I=Gc o->h'.get? I=Gc o):SIt h' I a f i n ep:=let⟨o,ho,r⟩:=x;⟨o,k o ho,r⟩
theorem RV{Q:j4->j5->Prop}(x:SIt s.heap I a f i n ep)(h:Q (.ref I) s):wpAny (model prog w) A (pyIter (.ref I)) Q E s:=by
 refine va x.typeIs JL (lL JL x.typeIs Mh ?_ (NV _))
 show wpAny _ _ (ret (.ref I)) _ _ s
 exact j7 ⟨_,rfl,"set_iterator",_,x.typeIs,BG.lookup,h⟩
theorem P6{k nx:Nat}{v:j4}{Q:j6 j4->j5->Prop}(hit:SIt s.heap I a (.int k 0) i es.size ep)(hs:Jd s.heap a es ep t)(hN:∀{A:lF} {Q:j6 (j4×Nat)->j5->Prop} {E:j4->j5->Prop},Q (Gc (v,nx)) s->wpAny (model prog w) A (setNext a k i ep) Q E s)(hQ:∀h',SIt h' I a (.int nx 0) (i+1) es.size ep->nN I s.heap h'->Q (Gc v) {s with heap:=h'}):wpAny (model prog w) A (pyNext (.ref I)) Q E s:=by
 obtain⟨o,ho,hc,hd⟩:=id hit
 obtain⟨os,hos,hex,hds,hf⟩:=id hs
 unfold pyNext
 refine jy (pz (lO (name:=lq "__next__") hit.typeIs BG
  (lL BG hit.typeIs EV ?_ (FL _))))
 unfold mw.«set_iterator.__next__»
 refine jy (m:=slotArgs "__next__" 0 _) (j7 (jy (rM ho hd ?_)))
 show wpAny _ _ (setEntries a >>= _) _ _ _
 refine jy (oQ hos hds hf ?_)
 rw[ko (by simp)]
 show wpAny _ _ (setNext a k i ep >>= _) _ _ _
 refine jy (hN ?_)
 show wpAny _ _ (setField (.ref I) 0 (rawInt nx) >>= λ_=>setField (.ref I) 1 (rawInt (i+1)) >>= λ_=>ret v) _ _ _
 refine jy (ng ho hd (by simp) ?_)
 have ho1:=lJ (ue (·.setIfInBounds 0 (rawInt nx))) ho (nq (mJ hd _))
 have hd1:=mJ hd (·.setIfInBounds 0 (rawInt nx))
 refine jy (ng ho1 hd1 (by simp) (j7 ⟨v,rfl,j7 (hQ _ ?_ ((lu ..).trans (lu ..)))⟩))
 exact⟨_,lJ _ ho1 (nq (mJ hd1 _)),(qQ ..).trans ((qQ ..).trans hc),by
  rw[mJ hd1];simp[rawInt]⟩
end
end Mi
end
noncomputable section
namespace Mi
open PySem PySem.Spec L2 PyProof.Rows
section
variable{prog:ke}{w:lB}{A:lF}{E:j4->j5->Prop}{s:j5}{a:j9}{es:kj (Int×j4)}{ep:Nat}{t:SetTable}{I:j9}{i n:Nat}{f:j4}
theorem TC{k:Nat}{Q:j6 j4->j5->Prop}(hh:A.handled=none)(hit:SIt s.heap I a (.int k 0) i es.size ep)(hs:Jd s.heap a es ep t)(hN:∀{A:lF} {Q:j6 (j4×Nat)->j5->Prop} {E:j4->j5->Prop},Q none s->wpAny (model prog w) A (setNext a k i ep) Q E s)(hQ:∀h',qH I s.heap h'->Q none {s with heap:=h'}):wpAny (model prog w) A (pyNext (.ref I)) Q E s:=by
 obtain⟨o,ho,hc,hd⟩:=id hit
 obtain⟨os,hos,hex,hds,hf⟩:=id hs
 unfold pyNext
 refine jy (pz (lO (name:=lq "__next__") hit.typeIs BG
  (lL BG hit.typeIs EV ?_ (FL _))))
 unfold mw.«set_iterator.__next__»
 refine jy (m:=slotArgs "__next__" 0 _) (j7 (jy (rM ho hd ?_)))
 show wpAny _ _ (setEntries a >>= _) _ _ _
 refine jy (oQ hos hds hf ?_)
 rw[ko (by simp)]
 show wpAny _ _ (setNext a k i ep >>= _) _ _ _
 refine jy (hN ?_)
 show wpAny _ _ (setField (.ref I) 2 .none >>= λ_=>newExc (.type "StopIteration") [] >>= λe=>raiseNew e) _ _ _
 refine jy (ng ho hd (by simp) ?_)
 refine jy ?_
 simp only[newExc,newTuple]
 refine jy (lN ?_ (by size_fits))
 refine jy (m:=firstArgMember _ _) (wI (a:=mI) (by first|rfl|(simp only[firstArgMember];rfl)) ?_)
 refine lN ?_ (by size_fits)
 simp only[raiseNew]
 refine jy (yG ?_)
 rw[show A.in1.handled=none from hh]
 refine jy (j7 (wpAny_throw ?_))
 refine jy (pT (T:="StopIteration") (b:=true) ⟨_,kH _ rfl,rfl⟩ uE ?_)
 exact j7 (hQ _ (((lu ..).extBut.push _).push _))
theorem QN{T:j9}{pl:kj j4}{k:Nat}{e:Int×j4}{Q:j6 j4->j5->Prop}(hit:SIt s.heap I a (.ref T) i es.size ep)(hs:Jd s.heap a es ep t)(hT:s.heap.IsTuple T pl)(hp:pl[i]?=Gc (.int k 0))(he:es[k]?=Gc e)(hQ:∀h',SIt h' I a (.ref T) (i+1) es.size ep->nN I s.heap h'->Q (Gc e.2) {s with heap:=h'}):wpAny (model prog w) A (pyNext (.ref I)) Q E s:=by
 obtain⟨o,ho,hc,hd⟩:=id hit
 obtain⟨os,hos,hex,hds,hf⟩:=id hs
 obtain⟨ot,hot,_,nt,hdt⟩:=id hT
 unfold pyNext
 refine jy (pz (lO (name:=lq "__next__") hit.typeIs BG
  (lL BG hit.typeIs EV ?_ (FL _))))
 unfold mw.«set_iterator.__next__»
 refine jy (m:=slotArgs "__next__" 0 _) (j7 (jy (rM ho hd ?_)))
 show wpAny _ _ (setEntries a >>= _) _ _ _
 refine jy (oQ hos hds hf ?_)
 rw[ko (by simp)]
 show wpAny _ _ (seqItems? (.ref T) >>= _) _ _ _
 refine jy (nC hot hdt ?_)
 simp only[pH,hp]
 refine jy (m:=setNextDrawn a k ep) ?_
 unfold setNextDrawn
 refine jy (oG hos hds hf ?_)
 simp only[qW,mz,pL,he]
 refine j7 ?_
 show wpAny _ _ (setField (.ref I) 1 (rawInt (i+1)) >>= λ_=>ret e.2) _ _ _
 refine jy (ng ho hd (by simp) (j7 ⟨e.2,rfl,j7 (hQ _ ?_ (lu ..))⟩))
 exact⟨_,lJ _ ho (nq (mJ hd _)),(qQ ..).trans hc,by
  rw[mJ hd];simp[rawInt]⟩
theorem RQ{T:j9}{pl:kj j4}{Q:j6 j4->j5->Prop}(hh:A.handled=none)(hit:SIt s.heap I a (.ref T) i es.size ep)(hs:Jd s.heap a es ep t)(hT:s.heap.IsTuple T pl)(hp:pl[i]?=none)(hQ:∀h',qH I s.heap h'->Q none {s with heap:=h'}):wpAny (model prog w) A (pyNext (.ref I)) Q E s:=by
 obtain⟨o,ho,hc,hd⟩:=id hit
 obtain⟨os,hos,hex,hds,hf⟩:=id hs
 obtain⟨ot,hot,_,nt,hdt⟩:=id hT
 unfold pyNext
 refine jy (pz (lO (name:=lq "__next__") hit.typeIs BG
  (lL BG hit.typeIs EV ?_ (FL _))))
 unfold mw.«set_iterator.__next__»
 refine jy (m:=slotArgs "__next__" 0 _) (j7 (jy (rM ho hd ?_)))
 show wpAny _ _ (setEntries a >>= _) _ _ _
 refine jy (oQ hos hds hf ?_)
 rw[ko (by simp)]
 show wpAny _ _ (seqItems? (.ref T) >>= _) _ _ _
 refine jy (nC hot hdt ?_)
 simp only[pH,hp]
 show wpAny _ _ (setField (.ref I) 0 (rawInt 0) >>= λ_=>setField (.ref I) 2 .none >>= λ_=>newExc (.type "StopIteration") [] >>= λe=>raiseNew e) _ _ _
 refine jy (ng ho hd (by simp) ?_)
 have ho1:=lJ (ue (·.setIfInBounds 0 (rawInt 0))) ho (nq (mJ hd _))
 have hd1:=mJ hd (·.setIfInBounds 0 (rawInt 0))
 refine jy (ng ho1 hd1 (by simp) ?_)
 refine jy ?_
 simp only[newExc,newTuple]
 refine jy (lN ?_ (by size_fits))
 refine jy (m:=firstArgMember _ _) (wI (a:=mI) (by first|rfl|(simp only[firstArgMember];rfl)) ?_)
 refine lN ?_ (by size_fits)
 simp only[raiseNew]
 refine jy (yG ?_)
 rw[show A.in1.handled=none from hh]
 refine jy (j7 (wpAny_throw ?_))
 refine jy (pT (T:="StopIteration") (b:=true) ⟨_,kH _ rfl,rfl⟩ uE ?_)
 exact j7 (hQ _ ((((lu ..).trans (lu ..)).extBut.push _).push _))
theorem WQ(hh:A.handled=none)(I a:j9)(hne:a≠I)(es:kj (Int×j4))(ep:Nat)(t:SetTable)(g:Nat->Nat)(items:kj j4)(hN:∀(s:j5) (i:Nat) {A:lF} {Q:j6 (j4×Nat)->j5->Prop} {E:j4->j5->Prop},Jd s.heap a es ep t->i<=items.size->Q (items[i]?.map λx=>(x,g (i+1))) s->wpAny (model prog w) A (setNext a (g i) i ep) Q E s):Walks prog w A I [I,a] [I] items.size (λi v=>items[i]?=Gc v) (λi h=>SIt h I a (.int (g i) 0) i es.size ep/\Jd h a es ep t) where
 sub:=λb hb=>by simp at hb;simp[hb]
 frame:=λ_ _ _ st hk=>⟨st.1.at λo e=>hk I (by simp) o e,st.2.at λo e=>hk a (by simp) o e⟩
 item:=λi s Q E hi st hQ=>by
  have e:items[i]?=Gc items[i]:=by simp[hi]
  refine P6 st.1 st.2 (v:=items[i]) (nx:=g (i+1)) (λq=>hN s i st.2 (mN hi) (by rw[e];exact q)) λh' hit' hs'=>?_
  exact hQ _ h' s.toks (by simp[hi]) ⟨hit',st.2.at λo e=>hs'.extBut a o hne e⟩ λb o hb e=>hs'.extBut b o (λh=>hb (by simp[h])) e
 done:=λs Q E st hQ=>TC hh st.1 st.2 (λq=>hN s items.size st.2 (kA _) (by simpa using q)) λh' he'=>hQ h' s.toks λb o hb e=>he' b o (λh=>hb (by simp[h])) e
 self:=λ_ _ _ _ st hQ=>RV st.1 hQ
theorem bN(hh:A.handled=none)(I a T:j9)(hne:a≠I)(hnT:T≠I)(es:kj (Int×j4))(ep:Nat)(t:SetTable)(ks:Wp Nat)(items:kj j4)(hz:items.size=ks.length)(hk:∀(i k:Nat),ks[i]?=Gc k->∃e:Int×j4,es[k]?=Gc e/\items[i]?=Gc e.2):Walks prog w A I [I,a,T] [I] items.size (λi v=>items[i]?=Gc v) (λi h=>SIt h I a (.ref T) i es.size ep/\Jd h a es ep t/\h.IsTuple T (ks.map λ(i:Nat)=>rawInt i).toArray) where
 sub:=λb hb=>by simp at hb;simp[hb]
 frame:=λ_ _ _ st hk=>⟨st.1.at λo e=>hk I (by simp) o e,st.2.1.at λo e=>hk a (by simp) o e,st.2.2.at λo e=>hk T (by simp) o e⟩
 item:=λi s Q E hi st hQ=>by
  have hi':i<ks.length:=by omega
  obtain⟨e,he,hv⟩:=hk i ks[i] (by simp[hi'])
  refine QN st.1 st.2.1 st.2.2 (k:=ks[i]) (by simp[hi',rawInt]) he λh' hit' hs'=>?_
  exact hQ _ h' s.toks hv ⟨hit',st.2.1.at λo e=>hs'.extBut a o hne e,st.2.2.at λo e=>hs'.extBut T o hnT e⟩ λb o hb e=>hs'.extBut b o (λh=>hb (by simp[h])) e
 done:=λs Q E st hQ=>RQ hh st.1 st.2.1 st.2.2 (by simp[hz]) λh' he'=>hQ h' s.toks λb o hb e=>he' b o (λh=>hb (by simp[h])) e
 self:=λ_ _ _ _ st hQ=>RV st.1 hQ
end
end Mi
end
noncomputable section
namespace Mi
open PySem PySem.Spec L2 PyProof.Rows
theorem Im{α:Type}:∀(l:Wp α) (i:Nat) (h:i<l.length),(l[i]::l.eraseIdx i).Perm l
 |x::l,0,h=>qV _
 |x::l,i+1,h=>(List.Perm.swap _ _ _).trans (xO _ (Im l i (by simpa using h)))
theorem Qh{α:Type}(nx:Nat->Nat):∀(fuel k:Nat) (left:Wp α) (out:kj α),left.length<=fuel->(vb nx fuel k left out).toList.Perm (out.toList++left)
 |0,k,left,out,h=>by
  cases left with
  |nil=>simp[vb]
  |cons x l=>simp at h
 |fuel+1,k,left,out,h=>by
  unfold vb
  cases e:left[nx k % left.length]? with
  |none=>
   cases left with
   |nil=>simp
   |cons x l=>
    rw[pW]at e
    exact absurd (xP (nx k) (Nat.succ_pos l.length)) (by simpa using e)
  |some x=>
   obtain⟨lt,rfl⟩:=kK.mp e
   refine(Qh nx fuel (k+1) _ _ (by rw[uJ];simp[lt];omega)).trans ?_
   rw[vZ,mF]
   exact zl _ (Im _ _ lt)
theorem Ro{α:Type}(nx:Nat->Nat)(xs:kj α):(pickOrder nx xs).toList.Perm xs.toList:=by
 have:=Qh nx xs.size 0 xs.toList #[] (by simp)
 unfold pickOrder
 simpa using this
section
variable{prog:ke}{w:lB}{A:lF}{E:j4->j5->Prop}{s:j5}{a:j9}
theorem wp_choose{M:yP}{src:Source}{n:Nat}{Q:Nat->j5->Prop}(hn:n≠0)(h:∀i d,i<n->Q i {s with drawn:=d}):wpAny M A (choose src n) Q E s:=
 λ_ _ _=>⟨hn,h _ _ (xP _ (rO hn))⟩
theorem Np{α:Type}:∀(n:Nat) (xs:Wp α) (s:j5) {Q:Wp α->j5->Prop},xs.length<=n->(∀ys d,ys.Perm xs->Q ys {s with drawn:=d})->wpAny (model prog w) A (drawOrder n xs) Q E s
 |0,xs,s,Q,hl,h=>by
  cases xs with
  |nil=>exact j7 (h [] s.drawn (qV _))
  |cons x l=>simp at hl
 |n+1,[],s,Q,hl,h=>j7 (h [] s.drawn (qV _))
 |n+1,x::l,s,Q,hl,h=>by
  unfold drawOrder
  refine jy (wp_choose (by simp) λi d hi=>?_)
  have e:(x::l)[i]?=Gc (x::l)[i]:=by simp[hi]
  rw[e]
  refine jy (Np n _ _ (by rw[uJ,kh hi];simp at hl ⊢; omega) λys d' p=>j7 (h _ d' ?_))
  exact(xO _ p).trans (Im _ _ hi)
theorem MP{es:Wp (Int×j4)}(h:tK (intKind prog w) es):nD (es.map (·.2)) (vls es):=by
 induction es with
 |nil=>exact .nil
 |cons e l ih=>
  obtain⟨⟨k,q,_⟩,_⟩:=h.head
  obtain⟨t,hv⟩:=rV q
  obtain⟨x,v⟩:=e
  dsimp only at hv
  subst hv
  exact .cons _ _ (ih h.tail)
theorem R3{L:Wp Int}{Q:j4->j5->Prop}(hS:Jf prog w s.heap a L)(h:∀(I:j9) (fp:Wp j9) (items:kj j4) (St:Nat->lD->Prop) (ms:Wp Int) (h':lD) (d':zu),(∀A':lF,A'.handled=none->Walks prog w A' I fp [I] items.size (λi v=>items[i]?=Gc v) St)->St 0 h'->(∀b∈fp,b<h'.objs.size)->(∀b∈fp,b=a\/s.heap.objs.size<=b)->s.heap.objs.size<=I->nD items.toList ms->ms.Perm L->(∀b o,s.heap.get? b=Gc o->h'.get? b=Gc o)->Q (.ref I) {s with heap:=h',drawn:=d'}):wpAny (model prog w) A (pyIter (.ref a)) Q E s:=by
 obtain⟨o,es,ep,t,ho,hex,hd,hel,hp,hb,hf,ht⟩:=hS
 have ty:s.TypeIs (.ref a) "set":=⟨o,ho,hex.1⟩
 have la:=kL ho
 have ps:t.place.size=es.size:=by simp only[SetTable.fits,kQ,xE]at hf;exact hf.1
 refine va ty wZ (lL wZ ty K9 ?_ (F.args_set_iter_1 _))
 unfold mw.«frozenset.__iter__»
 refine jy (m:=yd "__iter__" _) (j7 ?_)
 refine jy (m:=yH a) (jy (oQ ho hd hf (j7 ?_)))
 refine jy (m:=setDrawn a) ?_
 unfold setDrawn
 refine jy (oG ho hd hf (jy (IU (j7 ?_))))
 show wpAny _ _ (if(!byT w && (!t.plain && decide (es.size>1)))=true then _ else _) _ _ _
 cases hbt:byT w with
 |true=>
  rw[ko (by simp)]
  refine jy (j7 (jy (sC ho hd hf (jy (lN ?_)))))
  refine j7 ⟨_,rfl,"set_iterator",_,⟨_,kH _ rfl,rfl⟩,BG.lookup,?_⟩
  have pk:=Ro (w.params.setOrder a ep) es
  refine h _ [s.heap.objs.size,a] ((pickOrder (w.params.setOrder a ep) es).map (·.2)) _ (vls (pickOrder (w.params.setOrder a ep) es).toList) _ _
   (λA' hh=>WQ hh _ a (kS la) es ep t (λ_=>0) _ λs i A Q E x hi q=>Qp hbt x (by simpa[Function.comp_def]using q))
   ⟨⟨_,kH _ rfl,rfl,rfl⟩,o,j0 _ ho,hex,hd,hf⟩ ?_ (λb hb=>by simp at hb;rcases hb with rfl|rfl<;>simp) (kA _) ?_ ((pk.map iOf).trans hp) (λb o e=>j0 _ e)
  .intro b hb
   rw[ku]
   simp at hb
   rcases hb with rfl|rfl
   .exact nV _
   .exact mB la
  .rw[se]
   exact MP (hel.perm pk)
 |false=>
  rw[hbt]at ht
  cases hpl:(!t.plain && decide (es.size>1))with
  |false=>
   rw[ko (by simp)]
   refine jy (j7 (jy (sC ho hd hf (jy (lN ?_)))))
   refine j7 ⟨_,rfl,"set_iterator",_,⟨_,kH _ rfl,rfl⟩,BG.lookup,?_⟩
   refine h _ [s.heap.objs.size,a] (es.map (·.2)) _ (vls es.toList) _ _
    (λA' hh=>WQ hh _ a (kS la) es ep t (slotAt t.place) _ λs i A Q E x hi q=>P1 hbt x hpl (by rw[ht.led];rfl) ?_)
    ⟨⟨_,kH _ rfl,rfl,rfl⟩,o,j0 _ ho,hex,hd,hf⟩ ?_ (λb hb=>by simp at hb;rcases hb with rfl|rfl<;>simp) (kA _) ?_ hp (λb o e=>j0 _ e)
   .have hi':i<=es.size:=by simpa using hi
    rw[Pu ht.ris (by omega)]
    by_cases z:i<es.size
    .have z':i<t.place.size:=by omega
     have e1:es[i]?=Gc es[i]:=by simp[z]
     have e2:t.place[i]?=Gc t.place[i]:=by simp[z']
     rw[uz,e1]at q
     have e3:slotAt t.place (i+1)=t.place[i]+1:=by simp[slotAt,qF,z']
     rw[e1,e2]
     simp only[Option.map_some,e3]at q
     exact q
    .have e1:es[i]?=none:=by simp;omega
     rw[uz,e1]at q
     rw[e1]
     exact q
   .intro b hb
    rw[ku]
    simp at hb
    rcases hb with rfl|rfl
    .exact nV _
    .exact mB la
   .rw[se]
    exact MP hel
  |true=>
   rw[kh (by simp)]
   refine jy (Np _ _ _ (yu qX) λks d pks=>jy (uD ?_ ?_))
   .refine jy (sC (j0 _ ho) hd hf (jy (lN ?_)))
    refine j7 ⟨_,rfl,"set_iterator",_,⟨_,kH _ rfl,rfl⟩,BG.lookup,?_⟩
    have kl:ks.length=es.size:=by have:=pks.length_eq;simpa using this
    have al:(kq es.size).map (λk=>es.getD k (0,.none))=es.toList:=by
     apply oX
     .simp
     .intro i h1 h2
      simp at h1 h2
      simp[qF,h2]
    have pe:(ks.map (λk=>es.getD k (0,.none))).Perm es.toList:=by rw[<-al];exact pks.map _
    refine h _ [(s.heap.push _).objs.size,a,s.heap.objs.size] ((ks.map (λk=>es.getD k (0,.none))).map (·.2)).toArray _ (vls (ks.map (λk=>es.getD k (0,.none)))) _ _
     (λA' hh=>bN hh _ a s.heap.objs.size (by rw[ku];exact kS (mB la)) (by rw[ku];exact kS (nV _)) es ep t ks _ (by simp) λi k e=>?_)
     ⟨⟨_,kH _ rfl,rfl,rfl⟩,⟨o,j0 _ (j0 _ ho),hex,hd,hf⟩,⟨_,j0 _ (kH _ rfl),rfl,_,rfl⟩⟩ ?_ (λb hb=>by rw[ku]at hb;simp at hb;rcases hb with rfl|rfl|rfl<;>simp) (by rw[ku];exact sA _) ?_ ((pe.map iOf).trans hp) (λb o e=>j0 _ (j0 _ e))
    .have km:k<es.size:=by
      have:k∈kq es.size:=pks.mem_iff.mp (kW e)
      simpa using this
     exact⟨es[k],by simp[km],by simp[e,qF,km]⟩
    .intro b hb
     rw[ku,ku]
     rw[ku]at hb
     simp at hb
     rcases hb with rfl|rfl|rfl
     .exact nV _
     .exact mB (mB la)
     .exact mB (nV _)
    .exact MP (hel.perm pe)
   .rw[kT,pks.length_eq,qX];exact qU hb
end
end Mi
end
noncomputable section
namespace Mi
open PySem PySem.Spec L2 PyProof.Rows
section
variable{prog:ke}{w:lB}{A:lF}{E:j4->j5->Prop}{s:j5}{a:j9}{L:Wp Int}
theorem Jf.typeIs(x:Jf prog w s.heap a L):s.TypeIs (.ref a) "set":=let⟨o,_,_,_,ho,e,_⟩:=x;⟨o,ho,e.1⟩
theorem Ue{items acc:kj j4}(h:uS (λi v=>items[i]?=Gc v) acc items.size):acc=items:=by
 apply Array.ext
 .exact h.1
 .intro i h1 h2
  have:=h.2 i acc[i] (by simp)
  simpa[h2]using this.symm
theorem UI{Q:lA->j5->Prop}(x:s.TypeIs (.ref a) "set")(h:Q false s):wpAny (model prog w) A (nR (.ref a)) Q E s:=by
 unfold nR
 refine jy (tU x F.slot_set_len.lookup ?_)
 generalize hid:("set.__len__":pE)=id0
 wp_delta
 rw[show splitId id0=Gc ("set","__len__")from by subst hid;decide+kernel]
 subst hid
 refine jy (pT (b:=true) x zG ?_)
 rw[ko (by decide)]
 dsimp only
 rw[kh (by decide+kernel)]
 refine jy (pR (T:="set") x ?_)
 exact j7 h
theorem NX{Q:Wp j4->j5->Prop}(hh:A.handled=none)(hS:Jf prog w s.heap a L)(h:∀(vs:Wp j4) (ms:Wp Int) (h':lD) (d':zu) (tk:Nat),nD vs ms->ms.Perm L->(∀b o,s.heap.get? b=Gc o->h'.get? b=Gc o)->s.heap.objs.size<=h'.objs.size->Q vs {s with heap:=h',drawn:=d',toks:=tk}):wpAny (model prog w) A (collect (.ref a)) Q E s:=by
 have lb:L.length<scanBound:=by
  obtain⟨o,es,ep,t,ho,hex,hd,hel,hp,hb,hf,ht⟩:=hS
  have:=hp.length_eq
  simp at this
  lia
 unfold collect
 refine jy (uH (nK sI ?_))
 rw[mV sJ _]
 show wpAny _ A.in1 (newList [] >>= λl=>again (.builtin "list.__iadd__" ⟨[l,.ref a],[]⟩)) _ _ s
 refine jy (ql ?_)
 refine j7 ⟨p0 pN _,nK uK ?_⟩
 rw[mV pN _]
 show wpAny _ A.in1 (lZ (.ref s.heap.objs.size) (.ref a) (.ref s.heap.objs.size)) _ _ {s with heap:=s.heap.push (seqObj "list" #[] 0)}
 have hS1:Jf prog w (s.heap.push (seqObj "list" #[] 0)) a L:=hS.at λo e=>j0 _ e
 have la:a<s.heap.objs.size:=by obtain⟨o,es,ep,t,ho,r⟩:=hS;exact kL ho
 have me:(s.heap.push (seqObj "list" #[] 0)).get? s.heap.objs.size=Gc (seqObj "list" #[] 0):=kH _ rfl
 have h1:oO (.ref s.heap.objs.size) (.ref a)=false:=by simp[oO];exact oZ la
 unfold lZ
 refine jy (pR (T:="set") (Jf.typeIs (s:={s with heap:=s.heap.push (seqObj "list" #[] 0)}) hS1) ?_)
 rw[ko (by rw[h1];decide)]
 refine jy (R3 (s:={s with heap:=s.heap.push (seqObj "list" #[] 0)}) hS1 λI fp items St ms h2 d2 W st fpl fpn Ip im pm kp=>?_)
 have hS2:Jf prog w h2 a L:=hS1.at λo e=>kp a o e
 refine jy (lM (UI (Jf.typeIs (s:={s with heap:=h2,drawn:=d2}) hS2) ?_))
 rw[kh (by decide+kernel)]
 have Ip':s.heap.objs.size<I:=by rw[show _=s.heap.objs.size+1 from ku ..]at Ip;exact Ip
 have hSf:s.heap.objs.size∉fp:=λz=>by
  rcases fpn _ z with e|e
  .exact oZ la e
  .rw[show _=s.heap.objs.size+1 from ku ..]at e;exact mY _ e
 have m2:=kp _ _ me
 have hn:items.size<=sizeLine:=by
  have e1:=im.length
  have e2:=pm.length_eq
  simp at e1
  have:=qU lb
  lia
 refine jy (oJ (jy ?_))
 show wpAny _ A.in1 (updateSeq s.heap.objs.size (·.push .none) >>= λ_=>updateSeq s.heap.objs.size (·.pop)) _ _ _
 refine jy (pA (s:={s with heap:=h2,drawn:=d2}) m2 rfl ?_)
 have m3:=lJ (lH (·.push mI)) m2 rfl
 refine pA m3 rfl ?_
 have m4:=lJ (lH (·.pop)) m3 rfl
 have oth:∀b o,b≠s.heap.objs.size->h2.get? b=Gc o->
   ((h2.update s.heap.objs.size (lH (·.push mI))).update s.heap.objs.size (lH (·.pop))).get? b=Gc o:=
  λb o hb e=>(mD _ _ (l8 hb)).trans ((mD _ _ (l8 hb)).trans e)
 have W1:=(W A.in1 (by simp[hh])).toS
 refine j7 ⟨p0 uY _,uL W1 hn _ hSf _ items.size 0 _ _ _ rfl (lX _) ?_ m4 (ItemsOf.nil _) λs' acc' c' hm hS' hacc=>?_⟩
 .exact(W A.in1 (by simp[hh])).frame 0 _ _ st λb hb o e=>oth b o (λz=>hSf (z▸hb)) e
 .have ea:=Ue hacc
  subst ea
  obtain⟨h',g',d',tk',os'⟩:=s'
  have e1:g'=s.gens:=hm.gens
  have e2:d'=d2:=hm.drawn
  have e3:os'=s.os:=hm.os
  subst e1 e2 e3
  refine jy (wu hS' (j7 (h _ ms _ _ _ im pm (λb o e=>?_) (mN (kL hS')))))
  have lb:=kL e
  exact hm.heap b o (by simp;exact⟨kS lb,kS (pS lb Ip')⟩) (oth b o (kS lb) (kp b o (j0 _ e)))
end
end Mi
end
noncomputable section
namespace Mi
open PySem PySem.Spec L2 PyProof.Rows
section
variable{prog:ke}{w:lB}{A:lF}{E:j4->j5->Prop}{s:j5}{a:j9}{L:Wp Int}
theorem OP{Q:j4->j5->Prop}(hh:A.handled=none)(hS:Jf prog w s.heap a L)(h64:L.length<64)(h:∀(p:j9) (out:kj j4) (e:Nat) (ms:Wp Int) (h':lD) (d':zu) (tk:Nat),s.heap.objs.size<=p->h'.get? p=Gc (seqObj "list" out e)->nD out.toList ms->ms.Perm L->ms.Pairwise (· <= ·)->(∀b o,s.heap.get? b=Gc o->h'.get? b=Gc o)->Q (.ref p) {s with heap:=h',drawn:=d',toks:=tk}):wpAny (model prog w) A (call (.builtin "sorted") [.ref a]) Q E s:=by
 refine rS kind_sorted zH zI (zJ _) ?_
 unfold mw.«sorted»
 refine jy (m:=checkCount "sorted" 1 1 _) (j7 (jy (NX (by simp[hh]) hS λvs ms h' d' tk im pm kp lz=>jy (ql ?_ ?_))))
 .have at1:(h'.push (seqObj "list" vs.toArray 0)).get? h'.objs.size=Gc (seqObj "list" vs.toArray 0):=kH _ rfl
  have vl:vs.length<64:=by rw[im.length,pm.length_eq];exact h64
  show wpAny _ _ _ _ _ {s with heap:=h'.push (seqObj "list" vs.toArray 0),drawn:=d',toks:=tk}
  refine jy (lM (lL xQ ⟨_,at1,rfl⟩ wc (list_sort_tree at1 im vl λout ns' a1 a2 a3=>⟨_,rfl,j7 ⟨_,rfl,?_⟩⟩) (xR _)))
  obtain⟨e,he⟩:=yI (out:=out) at1
  refine h _ out e ns' _ d' tk lz he a1 (a2.trans pm) a3 λb o q=>?_
  have lb:b<h'.objs.size:=kL (kp b o q)
  rw[xS (kS lb) (by rw[ku];exact mB lb)]
  exact j0 _ (kp b o q)
 .have:vs.length<64:=by rw[im.length,pm.length_eq];exact h64
  exact kF (mN this) (by decide)
end
theorem VH{X:Cx}{pins:Wp (j9×Obj)}{σ:Wp (j6 V)}{H:Hp}{s:j5}(I:Inv X pins σ H s)(d:zu):Inv X pins σ H {s with drawn:=d}:=
 I.step (g':=s.gens) (d':=d) (t':=s.toks) (ch:=[]) (λ_ z=>nomatch z) (λ_ _ _ _ _ e _=>e) (λb o _ _ _ e _=>⟨o.slots,e⟩) (λ_ _ _ _ n=>n) (λb o _ e=>⟨o,e⟩) (λ_ _ e=>e) (λ_ _ _ e=>e) (λb ps e=>⟨#[],by rw[e];simp⟩) (λ_ m=>m) I.hok I.bare
noncomputable def wSS:Op1:=λw=>(asL w).bind λds=>(Jb ds).bind λns=>if ns.length<=1000/\(TX ns ns.length).length<64 then Gc (.own ((Kc (TX ns ns.length)).map D.int))else none
theorem dQ{X:Cx}{a:ky}{ta:TA}{p p' pos pos':Pos}(hc:X.calm=true)(hgl:Gl X "sorted")(hml:X.mg "sorted"=none)(hg:Gl X "set")(hm:X.mg "set"=none)(ha:PA X [a] ta)(hs:kc [a] X.env=[(false,eval a X.env)]:=by rfl)(hs2:kc [v8 (.Name "set" p) [a] [] pos] X.env=[(false,eval (.Call (.Name "set" p) [a] [] pos) X.env)]:=by rfl):PE X (.Call (.Name "sorted" p') [.Call (.Name "set" p) [a] [] pos] [] pos') (λσ H Q=>ta σ H λvs H1=>rN X.K (o1 wSS) vs H1 Q):=by
 intro pins s σ H Q I h
 refine nY (JI I hgl hml wJ ?_ (by decide) (by decide))
 refine callWith_builtin1 ?_ hs2 rfl
 rw[hs2]
 show wpAny _ _ (spliced ((false,eval (.Call (.Name "set" p) [a] [] pos) X.env)::backTo pos' [])) _ _ s
 refine pF ?_
 refine nY (JI I hg hm zm ?_ (by decide) (by decide))
 refine nO (thn (ha pos pins s σ H _ I h) λus s1 ⟨vs,H1,I1,r1,q1⟩=>?_) hs rfl
 obtain⟨M,ws,w,e,mo,sh,q⟩:=q1
 obtain⟨v,w1,rfl,rfl,sh1,e1⟩:=HP sh e
 obtain⟨ds,e2,e1⟩:=An e1
 obtain⟨ns,e3,e1⟩:=An e1
 split at e1
 .rename_i hz
  cases e1
  obtain⟨b,ys,rfl,h3,h4⟩:=sh1.l e2
  have hL:SqL X.K H1 b (ns.map V.int):=by rw[<-KQ h4 e3];exact .of h3
  obtain⟨u,rfl,ru⟩:=r1.one
  cases (show u=mH b from ru)
  obtain⟨its,rv,pl,_⟩:=I1.list hL
  have hl:its.length=ns.length:=by have:=rv.length;simpa using this.symm
  have hl2:its.toArray.size=ns.length:=by rw[kM,hl]
  refine Qj (items:=its.toArray) (ns:=ns) (I1.ok.hd hc) pl.isList (by simpa using intsAre_of rv) (by rw[hl2];unfold scanBound;lia) λh' tk hS hk=>pK ?_
  rw[hl2]at hS
  refine OP (s:={s1 with heap:=h',toks:=tk}) (I1.ok.hd hc) hS hz.2 λp out e ms h2 d2 tk2 lp hp a1 a2 a3 kp=>?_
  have hs':=Pw a2 a3
  subst hs'
  have k2:∀b o,s1.heap.get? b=Gc o->h2.get? b=Gc o:=λb o z=>kp b o (hk b o z)
  have lp2:s1.heap.objs.size<=p:=by
   obtain⟨_,_,_,_,ho,_⟩:=hS
   exact kF (mN (kL ho)) lp
  have hn:H1 p=none:=I1.hok.fresh lp2
  refine⟨.ref _,_,VH (I1.laid (a:=p) (o:=.lst ((Kc (TX ns ns.length)).map V.int)) (t':=tk2) k2 lp2 ?_) d2,rfl,q _ _ (.lst mo hn IG)⟩
  refine⟨?_,out.toList,e,Ge a1,?_⟩
  .rw[kT,(Gw _).length_eq]
   have:(64:Nat)<=sizeLine:=by decide
   lia
  .rw[uM];exact hp
 .cases e1
theorem eG{X:Cx}{a:ky}{o:Ev}{c:lA}{p p' pos pos':Pos}(hc:X.calm=true)(hgl:Gl X "sorted")(hml:X.mg "sorted"=none)(hg:Gl X "set")(hm:X.mg "set"=none)(ha:DEs X [a] [o])(hs:kc [a] X.env=[(false,eval a X.env)]:=by rfl)(hs2:kc [v8 (.Name "set" p) [a] [] pos] X.env=[(false,eval (.Call (.Name "set" p) [a] [] pos) X.env)]:=by rfl):DE X (.Call (.Name "sorted" p') [.Call (.Name "set" p) [a] [] pos] [] pos') (Mc c (o1 wSS) [o]):=⟨
 BW (dQ hc hgl hml hg hm ha.pe hs hs2) λ_ _ _ h=>by
  obtain⟨M,E,S,d,S',e,r,st,q⟩:=h
  exact KN e r st q⟩
end Mi
end
noncomputable section
namespace Mi
open PySem PySem.Spec L2 PyProof.Rows
section
variable{prog:ke}{w:lB}{A:lF}{E:j4->j5->Prop}{s:j5}{K:Type} [t7 K] {knd:KeyKind prog w K}{d:j9}{kvs:Wp (K×j4)}
abbrev fV(knd:KeyKind prog w K)(kvs:Wp (K×j4)):Nat->j4->Prop:=λi v=>∃k x,kvs[i]?=Gc (k,x)/\knd.is k v=true
theorem SJ{Q:lA->j5->Prop}(x:s.TypeIs (.ref d) "dict")(h:Q false s):wpAny (model prog w) A (nR (.ref d)) Q E s:=by
 unfold nR
 refine jy (tU x F.slot_dict_len.lookup ?_)
 generalize hid:("dict.__len__":pE)=id0
 wp_delta
 rw[show splitId id0=Gc ("dict","__len__")from by subst hid;decide+kernel]
 subst hid
 refine jy (pT (b:=true) x (by rw[uI];kernel_rfl) ?_)
 rw[ko (by decide)]
 dsimp only
 rw[kh (by decide+kernel)]
 refine jy (pR (T:="dict") x ?_)
 exact j7 h
theorem OI{R:uo->j5->Prop}{S:j9}{res:j4}{c₀:Nat}(hh:A.handled=none)(hd:(d==sysModules)=false)(D:s.heap.DictOf knd d kvs)(hn:kvs.length<=sizeLine)(hS:s.heap.get? S=Gc {cls:=.type "list",data:=.seq #[] c₀})(hR:∀h' tk acc' c',(∀b o,b≠S->s.heap.get? b=Gc o->h'.get? b=Gc o)->h'.get? S=Gc {cls:=.type "list",dict:=none,data:=.seq acc' c',slots:= #[]}->uS (fV knd kvs) acc' kvs.length->R (.ok (.ret res)) {s with heap:=h',toks:=tk}):wpAny (model prog w) A.in1 (lZ (.ref S) (.ref d) res) (λfin s'=>match fin with| .done f=>R (.ok f) s'| .again c'=>c'.quiet=true/\codeAny (model prog w) A c' R s') (λe s'=>R (.error e) s') s:=by
 obtain⟨ep,D⟩:=D.dictAt
 have ty:s.TypeIs (.ref d) "dict":=D.dictOf.typeIs
 have ld:=D.lt_size
 have lS:=kL hS
 have hSd:S≠d:=λe=>by
  subst e
  obtain⟨o,es,ho,hc,_⟩:=id D
  rw[hS]at ho;cases ho
  exact absurd hc.1 (by simp)
 have h1:oO (.ref S) (.ref d)=false:=by simp[oO,hSd]
 unfold lZ
 refine jy (pR (T:="dict") ty ?_)
 rw[ko (by rw[h1];decide)]
 refine jy (wpAny_pyIter_dict hd D ?_)
 generalize hkI:({cls:=.type "dict_keyiterator",data:=.fields #[.ref d,.int 0 0,.int kvs.length 0,.int ep 0]}:Obj)=kI
 have D1:=D.push kI
 refine jy (lM (SJ (Heap.DictOf.typeIs (s:={s with heap:=s.heap.push _}) D1.dictOf) ?_))
 rw[kh (by decide+kernel)]
 have S1:=j0 kI hS
 refine jy (oJ (jy ?_))
 show wpAny _ A.in1 (updateSeq S (·.push .none) >>= λ_=>updateSeq S (·.pop)) _ _ _
 refine jy (pA S1 rfl ?_)
 have m3:=lJ (lH (·.push mI)) S1 rfl
 refine pA (hz:=by seq_fits) m3 rfl ?_
 have m4:=lJ (lH (·.pop)) m3 rfl
 have oth:∀(h2:lD) b o,b≠S->h2.get? b=Gc o->
   ((h2.update S (lH (·.push mI))).update S (lH (·.pop))).get? b=Gc o:=
  λh2 b o hb e=>(mD _ _ (l8 hb)).trans ((mD _ _ (l8 hb)).trans e)
 have W:=Walks.dictKeys (knd:=knd) (A:=A.in1) (by simp[hh]) s.heap.objs.size d (kS ld) kvs ep
 have hSf:S∉ [s.heap.objs.size,d]:=by simp;exact⟨kS lS,hSd⟩
 refine j7 ⟨p0 uY _,uL W.toS hn _ hSf _ kvs.length 0 _ _ _ rfl (lX _) ?_ m4 (ItemsOf.nil _) λs' acc' c' hm hS' hacc=>?_⟩
 .exact W.frame 0 (s.heap.push kI) _ ⟨⟨kI,kH _ (by rw[<-hkI];rfl),by rw[<-hkI],by rw[<-hkI];rfl⟩,D1⟩ λb hb o e=>oth (s.heap.push kI) b o (λz=>hSf (z▸hb)) e
 .obtain⟨h',g',d',tk',os'⟩:=s'
  have e1:g'=s.gens:=hm.gens
  have e2:d'=s.drawn:=hm.drawn
  have e3:os'=s.os:=hm.os
  subst e1 e2 e3
  refine hR h' tk' acc' c' (λb o nb e=>?_) hS' hacc
  have lb:=kL e
  have q2:=oth (s.heap.push kI) b o nb (j0 kI e)
  have q3:b∉S:: [s.heap.objs.size]:=by simp;exact⟨nb,kS lb⟩
  exact hm.heap b o q3 q2
theorem QD{Q:j4->j5->Prop}(hh:A.handled=none)(hd:(d==sysModules)=false)(D:s.heap.DictOf knd d kvs)(hn:kvs.length<=sizeLine)(hQ:∀h' tk acc' c',(∀b o,s.heap.get? b=Gc o->h'.get? b=Gc o)->h'.get? s.heap.objs.size=Gc {cls:=.type "list",dict:=none,data:=.seq acc' c',slots:= #[]}->uS (fV knd kvs) acc' kvs.length->Q (.ref s.heap.objs.size) {s with heap:=h',toks:=tk}):wpAny (model prog w) A (call (.type "list") [.ref d]) Q E s:=by
 refine callType_codes (Q₁:=λobj s₁=>obj=.ref s.heap.objs.size/\s₁={s with heap:=s.heap.push {cls:=.type "list",data:=.seq #[]}}) F.called_list (F.typeCall_list_1 _) F.entry_list_init
  (code_list_new _ ⟨rfl,rfl⟩) λobj s₁ h₁=>?_
 obtain⟨rfl,rfl⟩:=h₁
 have hS:(s.heap.push {cls:=.type "list",data:=.seq #[]}).get? s.heap.objs.size=Gc {cls:=.type "list",data:=.seq #[]}:=kH _ rfl
 refine⟨⟨_,hS,rfl⟩,F.args_list_init_2 _ _,?_⟩
 show wpAny _ _ (do let old<-tN (.ref s.heap.objs.size);ye (.ref s.heap.objs.size) (λ_=> #[]);letGo old.toList.reverse;lZ (.ref s.heap.objs.size) (.ref d) .none) _ _ _
 refine jy ?_
 unfold tN
 refine jy (nC hS rfl (j7 ?_))
 show wpAny _ _ (updateSeq s.heap.objs.size (λ_=> #[]) >>= λ_=>letGo (#[]:kj j4).toList.reverse >>= λ_=>lZ (.ref s.heap.objs.size) (.ref d) .none) _ _ _
 refine jy (pA hS rfl ?_)
 have hS₂:=lJ (lH (λ_=>(#[]:kj j4))) hS rfl
 have oth:∀b o,b≠s.heap.objs.size->(s.heap.push {cls:=.type "list",data:=.seq #[]}).get? b=Gc o->((s.heap.push {cls:=.type "list",data:=.seq #[]}).update s.heap.objs.size (lH (λ_=>(#[]:kj j4)))).get? b=Gc o:=
  λb o hb e=>(mD _ _ (l8 hb)).trans e
 refine jy (uC ?_)
 have ld:d<s.heap.objs.size:=by obtain⟨_,_,_,ho,_⟩:=id D;exact kL ho
 have D2:Heap.DictOf knd ((s.heap.push {cls:=.type "list",data:=.seq #[]}).update s.heap.objs.size (lH (λ_=>(#[]:kj j4)))) d kvs:=by
  obtain⟨o,es,ep,ho,r⟩:=id D
  exact⟨o,es,ep,oth d o (kS ld) (j0 _ ho),r⟩
 refine OI (A:=A.in1) hh hd D2 hn hS₂ λh' tk acc' c' hk hS' hacc=>⟨rfl,hQ h' tk acc' c' (λb o e=>?_) hS' hacc⟩
 have nb:=kS (kL e)
 exact hk b o nb (oth b o nb (j0 _ e))
end
end Mi
end
noncomputable section
namespace Mi
open PySem PySem.Spec L2 PyProof.Rows
noncomputable def QK:Wp (Key×D)->j6 (Wp Int)
 | []=>Gc []
 |(.inl n,_)::r=>(QK r).map (n:: ·)
 |(.inr _,_)::_=>none
theorem Na{K:jz}{M:Ms}{H:Hp}:∀{kvs:Wp (Key×V)} {es:Wp (Key×D)} {ns:Wp Int},Bm K M H kvs es->QK es=Gc ns->kvs.map (·.1)=ns.map pQ
 |_,_,ns,.nil,e=>by cases e;rfl
 |_,_,ns,.cons (k:=k) h t,e=>by
  cases k with
  |inl n=>
   obtain⟨ms,e1,e⟩:=Ir e
   cases e
   rw[kU,kU,Na t e1]
  |inr x=>cases e
theorem LV:∀{l:Wp j4} {vs:Wp (Key×j4)} {ns:Wp Int},l.length=vs.length->(∀(j:Nat) v,l[j]?=Gc v->∃k x,vs[j]?=Gc (k,x)/\OL k v=true)->vs.map (·.1)=ns.map pQ->nD l ns
 | [],[],ns,_,_,e=>by cases ns with
   |nil=>exact .nil
   |cons n ns=>cases e
 |v::l,(k,x)::vs,[],_,_,e=>by cases e
 |v::l,(k,x)::vs,n::ns,hl,h,e=>by
  rw[kU,kU]at e
  injection e with e1 e2
  obtain⟨k',x',q,z⟩:=h 0 v rfl
  cases q
  dsimp only at e1
  subst e1
  rcases Bw z with⟨i,t,e3,rfl⟩|⟨y,t,e3,rfl⟩
  .cases e3
   exact .cons _ _ (LV (by simpa using hl) (λj v q=>h (j+1) v (by simpa using q)) e2)
  .cases e3
 | [],(k,x)::vs,ns,hl,_,e=>by simp at hl
 |v::l,[],ns,hl,_,e=>by simp at hl
theorem SN{X:Cx}{acc:kj j4}{vs:Wp (Key×j4)}{kvs:Wp (Key×V)}{ns:Wp Int}(h:uS (fV (CZ X.prog X.w) vs) acc vs.length)(r:KV kvs vs)(e:kvs.map (·.1)=ns.map pQ):nD acc.toList ns:=
 LV (by simpa using h.1) (λj v q=>h.2 j v (by simpa using q)) (by rw[<-r.keys];exact e)
theorem V3{X:Cx}(hc:X.calm=true):Ep X (.type "list") (λxs H Q=>∃(a:j9) (kvs:Wp (Key×V)) (ns:Wp Int),xs=[.ref a]/\H a=Gc (.dK kvs)/\kvs.map (·.1)=ns.map pQ/\∀q,H q=none->Q (.ref q) (upd H q (.lst (ns.map V.int)))):=by
 intro pins s σ H xs us Q I r h
 obtain⟨a,kvs,ns,rfl,ha,hk,q⟩:=h
 obtain⟨u,rfl,ru⟩:=r.one
 cases (show u=mH a from ru)
 obtain⟨z,hd,vs,rel,dd⟩:=Vc I.hok ha
 refine QD (I.ok.hd hc) hd dd (by rw[<-rel.length];exact z) λh' tk acc' c' k at' hacc=>?_
 have hi:=SN hacc rel hk
 refine⟨.ref _,_,I.laid (a:=s.heap.objs.size) (o:=.lst (ns.map V.int)) (t':=tk) k (kA _) ?_,rfl,q _ (I.hok.fresh (kA _))⟩
 refine⟨?_,acc'.toList,c',Ge hi,?_⟩
 .rw[kT,<-hi.length,lg,hacc.1,<-rel.length];exact z
 .rw[uM];exact at'
noncomputable def eLK(c:lA)(f:Ev):Ev:=λE S=>(f E S).bind λa=>(KY a.2 a.1).bind λes=>(QK es).bind λns=>fin c (.own (ns.map D.int)) a.2
theorem Xt{o:Ev}{E:En}{S S1:Sto}{w:D}(e1:o E S=Gc (w,S1)):evs [o] E S=Gc ([w],S1):=by
 show(o E S).bind (λr=>(evs [] E r.2).map λq=>(r.1::q.1,q.2))=_
 rw[e1];rfl
theorem ak{X:Cx}{a:ky}{o:Ev}{c:lA}{p pos:Pos}(hc:X.calm=true)(hg:Gl X "list")(hm:X.mg "list"=none)(ha:DEs X [a] [o])(hs:kc [a] X.env=[(false,eval a X.env)]:=by rfl):DE X (.Call (.Name "list" p) [a] [] pos) (eLK c o):=⟨
 BW (N1 (V3 hc) hg hm yf ha.pe (by decide) (by decide) hs rfl) λσ H Q z=>by
  obtain⟨M,E,S,d,S',e,r,st,q⟩:=z
  obtain⟨⟨w,S1⟩,e1,e⟩:=An e
  obtain⟨es,ed,e⟩:=An e
  obtain⟨ns,en,e⟩:=An e
  refine G8 (Xt e1) r st λvs H1 M1 g1 st1 r1=>?_
  cases r1 with
  |cons r1 rn=>
   cases rn
   obtain⟨a,kvs,rfl,h,rk⟩:=Pa st1 r1 ed
   refine⟨a,kvs,ns,rfl,h,Na rk en,λp hp=>?_⟩
   obtain⟨M2,g2,st2,d2⟩:=(Nw.lst st1.mo hp IG).fin st1 e
   exact q _ _ M2 (g1.trans g2) st2 d2⟩
end Mi
end
noncomputable section
namespace Mi
open PySem PySem.Spec L2 PyProof.Rows
abbrev eIx(a b:Ev):Ev:=eOp (o2 wIx) [a,b]
abbrev eI(n:Int):Ev:=eC (.int n)
theorem scM{N P:Wp Str}{sc:m9}(a:sc.kind=.function:=by rfl)(b:sc.isCoroutine=false:=by rfl)(c:sc.isGenerator=false:=by rfl)(d:N.Nodup:=by decide+kernel)(e:N.take P.length=P:=by rfl)(f:∀x∈P,sc.names.lookup x=Gc .local\/sc.names.lookup x=Gc .cell:=by decide+kernel)(g:∀y∈sc.names,y.2≠.free:=by decide+kernel):AY N P sc:=⟨a,b,c,d,e,f,g⟩
theorem csM{N:Wp Str}{osc:m9}{N':Wp Str}{ix:Wp (j6 Nat)}{scope:m9}(a:scope.kind=.function:=by rfl)(b:∀y∈scope.names,y.2=.cell->scope.names.lookup y.1=Gc .cell:=by decide+kernel)(c:∀y∈scope.names,y.2=.local->scope.names.lookup y.1=Gc .local:=by decide+kernel)(d:∀y∈scope.names,y.2=.free->(osc.names.lookup y.1=Gc .cell\/osc.names.lookup y.1=Gc .free):=by decide+kernel)(e:PY N osc scope N' ix=true:=by decide+kernel):Ab N osc N' ix scope:=⟨a,b,c,d,e⟩
theorem P7{α:Type}{us:Wp α}(h:us.length=1):∃a,us=[a]:=by
 match us,h with
 | [a],_=>exact⟨a,rfl⟩
theorem gH{α:Type}{us:Wp α}(h:us.length=2):∃a b,us=[a,b]:=by
 match us,h with
 | [a,b],_=>exact⟨a,b,rfl⟩
theorem cj{α:Type}{us:Wp α}(h:us.length=3):∃a b c,us=[a,b,c]:=by
 match us,h with
 | [a,b,c],_=>exact⟨a,b,c,rfl⟩
theorem gF{α:Type}{us:Wp α}(h:us.length=6):∃a b c d e f,us=[a,b,c,d,e,f]:=by
 match us,h with
 | [a,b,c,d,e,f],_=>exact⟨a,b,c,d,e,f,rfl⟩
theorem jL{us:Wp j4}{n:Nat}(h:us.length=n):∃f:Nat->j4,us=(kq n).map f:=by
 refine⟨λi=>us.getD i .none,?_⟩
 subst h
 apply oX
 .simp
 .intro i h1 h2
  rw[v9,List.getElem_range,kP,kE h1];rfl
def BnR(x:Str)(st:lY)(ps:Wp Str):Prop:=∀(kV doc pm:j4) (an:j6 j9) (cdv ct:j4) (f:Nat->j4),bindArgs (oa x x (Iw st) (EN st) (AK st) .none kV doc pm an cdv ct) ⟨(kq ps.length).map f,[]⟩=pure (ps.zip ((kq ps.length).map f))
theorem bnR{K:jz}{x:Str}{st:lY}{ps:Wp Str}{f:j9}{fd:nB}(F:Fun K x x st f fd)(h:BnR x st ps):Binds K fd ps []:=F.binds λa b c d e g us hl=>by
 obtain⟨k,rfl⟩:=jL hl
 exact h a b c d e g k
section
variable{P:ke}{w:lB}{K:jz}{mg:Str->j6 j4}{base:lD}
theorem dfM{x:Str}{st:lY}{N ps:Wp Str}(k:Nat){np:Nat}{b:Ex}(S:St.Src K mg x st)(sc:AY N ps (AK st))(hb:∀{f:j9} {cdv:j4} {A:lF} {outer:Wp yW} {s:j5} {H:Hp} {E:XK},K8 k (A.deeper (pZ x (AK st) s.heap.objs.size f cdv))->(A.deeper (pZ x (AK st) s.heap.objs.size f cdv)).units+100<cLine->DSs (Uw CX0 P w K mg base N x (AK st) f cdv A outer s H E).nox (EN st) b)(hp:ps.length=np:=by rfl)(hbi:BnR x st ps:=by exact λ_ _ _ _ _ _ _=>rfl):St.Dfn P w K mg base x (k+1) ps (spD K np (BU (BV N.length b))):=bO S sc hp (λ_ _ F=>bnR F hbi) λ_ _ _ _ _ _ _ hr=>hb hr (RL hr)
end
theorem deM{X:Cx}{k k' np:Nat}{x:Str}{ps:Wp Str}{f:Fn}{e:ky}{es:Wp ky}{fs:Wp Ev}{p pos:Pos}(d:St.Dfn X.prog X.w X.K X.mg X.base x k ps (spD X.K np f))(hr:K8 k' X.A)(ha:DEs X (e::es) fs)(hk:k<=k':=by first|decide|omega)(hg:Gl X x:=by exact rfl)(hn:fs.length=np:=by rfl)(hdb:(x==("__debug__":Str))=false:=by decide)(he:kc (e::es) X.env=(false,eval e X.env)::kc es X.env:=by rfl)(hpl:(backTo pos (kc es X.env)).any (·.1)=false:=by rfl):DE X (.Call (.Name x p) (e::es) [] pos) (AJ f fs):=YW d (hr.mono hk) hg ha hn hdb he hpl
end Mi
end
noncomputable section
namespace Mi
open PySem PySem.Spec L2 PyProof.Rows
open PySem.W (KasT kas_asc kas_desc kas_rev kas_tail3 kas_descPart kas_count kas_place kas_bin kas_sort kas_ask kas_item)
section
variable{cmp:Nat->Nat->(lA->j5->Prop)->j5->Prop}{key:Nat->Int}{n:Nat}{s:j5}{p:kj Nat}
def Tru(cmp:Nat->Nat->(lA->j5->Prop)->j5->Prop)(key:Nat->Int)(n:Nat)(s:j5):Prop:=
 ∀i j (C:lA->j5->Prop),i<n->j<n->i≠j->C (decide (key i<key j)) s->cmp i j C s
abbrev kp(key:Nat->Int)(p:kj Nat)(i:Nat):Int:=key (p.getD i 0)
structure PI(key:Nat->Int)(n:Nat)(p:kj Nat):Prop where
 pm:p.toList.Perm (kq n)
 inj:∀i j,i<n->j<n->key i=key j->i=j
theorem PI.sz(h:PI key n p):p.size=n:=by simpa using h.pm.length_eq
theorem PI.lt(h:PI key n p){i:Nat}(hi:i<n):p.getD i 0<n:=by
 have:p.getD i 0∈p.toList:=by simp[qF,h.sz,hi]
 simpa using h.pm.mem_iff.mp this
theorem PI.ni(h:PI key n p){i j:Nat}(hi:i<n)(hj:j<n)(ne:i≠j):p.getD i 0≠p.getD j 0:=λe=>by
 have nd:p.toList.Nodup:=h.pm.nodup_iff.mpr List.nodup_range
 have hi':i<p.size:=by rw[h.sz];exact hi
 have hj':j<p.size:=by rw[h.sz];exact hj
 have e':p.toList[i]'(by simpa using hi')=p.toList[j]'(by simpa using hj'):=by simpa[qF,hi',hj']using e
 exact ne ((oR nd).mp e')
theorem PI.nk(h:PI key n p){i j:Nat}(hi:i<n)(hj:j<n)(ne:i≠j):kp key p i≠kp key p j:=
 λe=>h.ni hi hj ne (h.inj _ _ (h.lt hi) (h.lt hj) e)
theorem PI.perm(h:PI key n p){q:kj Nat}(e:q.Perm p):PI key n q:=⟨(Array.perm_iff_toList_perm.mp e).trans h.pm,h.inj⟩
theorem N9(T:Tru cmp key n s)(I:PI key n p){i j:Nat}(hi:i<n)(hj:j<n)(ne:i≠j){C:lA->j5->Prop}(h1:kp key p i<kp key p j->C true s)(h2:kp key p j<kp key p i->C false s):cmp (p.getD i 0) (p.getD j 0) C s:=by
 refine T _ _ _ (I.lt hi) (I.lt hj) (I.ni hi hj ne) ?_
 by_cases h:key (p.getD i 0)<key (p.getD j 0)
 .rw[mZ h];exact h1 h
 .rw[nE h]
  have:=I.nk hi hj ne
  exact h2 (by simp only[kp]at *; lia)
def Srt(key:Nat->Int)(p:kj Nat)(m:Nat):Prop:=∀i j,i<j->j<m->kp key p i<kp key p j
def Dsc(key:Nat->Int)(p:kj Nat)(m:Nat):Prop:=∀i j,i<j->j<m->kp key p j<kp key p i
theorem Srt.more{m:Nat}(h:Srt key p m)(h1:1<=m)(e:kp key p (m-1)<kp key p m):Srt key p (m+1):=λi j ij jm=>by
 by_cases q:j<m
 .exact h i j ij q
 .have:j=m:=by lia
  subst this
  by_cases r:i=j-1
  .subst r;exact e
  .exact mf (h i (j-1) (by lia) (by lia)) e
theorem Dsc.more{m:Nat}(h:Dsc key p m)(h1:1<=m)(e:kp key p m<kp key p (m-1)):Dsc key p (m+1):=λi j ij jm=>by
 by_cases q:j<m
 .exact h i j ij q
 .have:j=m:=by lia
  subst this
  by_cases r:i=j-1
  .subst r;exact e
  .exact mf e (h i (j-1) (by lia) (by lia))
theorem SG(T:Tru cmp key n s)(I:PI key n p){G:Nat->j5->Prop}:∀(f a:Nat),1<=a->a+f=n->Srt key p a->(∀m,a<=m->m<=n->Srt key p m->(m=n\/kp key p m<kp key p (m-1))->G m s)->(kas_asc p f a).kasWp cmp G s
 |0,a,h1,e,hs,h=>h a (kA _) (by lia) hs (.inl (by lia))
 |f+1,a,h1,e,hs,h=>by
  show cmp (p.getD a 0) (p.getD (a-1) 0) (λc s'=>(if c=true then KasT.ret a else kas_asc p f (a+1)).kasWp cmp G s') s
  refine N9 T I (by lia) (by lia) (by lia) (λq=>?_) (λq=>?_)
  .rw[kh rfl];exact h a (kA _) (by lia) hs (.inr q)
  .rw[ko (by decide)];exact SG T I f (a+1) (by lia) (by lia) (hs.more h1 q) λm hm=>h m (by lia)
theorem Qv(T:Tru cmp key n s)(I:PI key n p){G:kj Nat×Nat×Nat->j5->Prop}:∀(f a:Nat),1<=a->a+f=n->Dsc key p a->(∀m,a<=m->m<=n->Dsc key p m->G (p,m,0) s)->(vc f p a 0).kasWp cmp G s
 |0,a,h1,e,hs,h=>h a (kA _) (by lia) hs
 |f+1,a,h1,e,hs,h=>by
  show cmp (p.getD a 0) (p.getD (a-1) 0) (λc s'=>(if c=true then(if 0>0 then vc f (uT p (a-(0+1)) a) (a+1) 0 else vc f p (a+1) 0)
   else KasT.ask (p.getD (a-1) 0) (p.getD a 0) λd=>if d=true then .ret (p,a,0)else vc f p (a+1) (0+1)).kasWp cmp G s') s
  refine N9 T I (by lia) (by lia) (by lia) (λq=>?_) (λq=>?_)
  .rw[kh rfl,ko (by decide)];exact Qv T I f (a+1) (by lia) (by lia) (hs.more h1 q) λm hm=>h m (by lia)
  .rw[ko (by decide)]
   show cmp (p.getD (a-1) 0) (p.getD a 0) (λd s'=>(if d=true then KasT.ret (p,a,0)else vc f p (a+1) (0+1)).kasWp cmp G s') s
   refine N9 T I (by lia) (by lia) (by lia) (λq'=>?_) (λq'=>?_)
   .rw[kh rfl];exact h a (kA _) (by lia) hs
   .exact absurd (mf q q') (by simp)
theorem getD_eq{q:kj Nat}{i:Nat}:q.getD i 0=(q[i]?).getD 0:=by simp
theorem Xu(T:Tru cmp key n s)(I:PI key n p){m:Nat}{G:Nat×kj Nat->j5->Prop}(h1:1<=m)(hm:m<=n)(hs:Dsc key p m)(h:∀a q,1<=a->a<=n->PI key n q->Srt key q a->G (a,q) s):(wB m n p).kasWp cmp G s:=by
 have I':PI key n (uT p 0 m):=I.perm (mirror_perm _ _ _ _)
 unfold wB
 rw[qD]
 refine SG T I' (n-m) m h1 (by lia) (λi j ij jm=>?_) λa h2 h3 h4 _=>h a _ (by lia) h3 I' h4
 have hj:m<=p.size:=by rw[I.sz];exact hm
 show key ((uT p 0 m).getD i 0)<key ((uT p 0 m).getD j 0)
 rw[getD_eq,getD_eq]
 unfold uT
 rw[uZ hj,uZ hj,kh (by lia),kh (by lia),<-getD_eq,<-getD_eq]
 exact hs _ _ (by lia) (by lia)
theorem UL(T:Tru cmp key n s)(I:PI key n p){G:Nat×kj Nat->j5->Prop}(h1:1<=n)(h:∀a q,1<=a->a<=n->PI key n q->Srt key q a->G (a,q) s):(kas_count n p).kasWp cmp G s:=by
 unfold kas_count
 rw[qD]
 refine SG T I (n-1) 1 (kA _) (by lia) (λi j ij jm=>by lia) λm h2 h3 h4 h5=>?_
 by_cases e:m=n
 .rw[kh (by simpa using e)];exact h m p h2 h3 I h4
 .rw[ko (by simpa using e)]
  by_cases e2:m>1
  .rw[kh e2]
   show cmp (p.getD 0 0) (p.getD (m-1) 0) (λc s'=>(if c=true then KasT.ret (m,p)else zK m n (uT p 0 m)).kasWp cmp G s') s
   refine N9 T I (by lia) (by lia) (by lia) (λq=>?_) (λq=>?_)
   .rw[kh rfl];exact h m p h2 h3 I h4
   .exact absurd (mf q (h4 0 (m-1) (by lia) (by lia))) (by simp)
  .rw[ko e2]
   have:m=1:=by lia
   subst this
   have q:=h5.resolve_left e
   unfold zK
   rw[qD]
   refine Qv T I (n-(1+1)) (1+1) (by lia) (by lia) (Dsc.more (m:=1) (λi j ij jm=>by lia) (by lia) q) λa h6 h7 h8=>?_
   show(if(0:Nat)>0 then wB a n (uT p (a-(0+1)) a)else wB a n p).kasWp cmp G s
   rw[ko (by decide)]
   exact Xu T I (by lia) h7 h8 h
theorem J4(T:Tru cmp key n s)(I:PI key n p){k:Nat}(hk:k<n)(hs:Srt key p k){G:Nat->j5->Prop}:∀(f l r:Nat),l<=r->r<=k->r-l<=f->(∀i,i<l->kp key p i<kp key p k)->(∀i,r<=i->i<k->kp key p k<kp key p i)->(∀l,l<=k->(∀i,i<l->kp key p i<kp key p k)->(∀i,l<=i->i<k->kp key p k<kp key p i)->G l s)->(wC p k f l r).kasWp cmp G s
 |0,l,r,lr,rk,hf,h1,h2,h=>by
  have:l=r:=by lia
  subst this
  exact h l rk h1 h2
 |f+1,l,r,lr,rk,hf,h1,h2,h=>by
  unfold wC
  by_cases e:l≥r
  .rw[kh e]
   have:l=r:=by lia
   subst this
   exact h l rk h1 h2
  .rw[ko e]
   show cmp (p.getD k 0) (p.getD ((l+r) / 2) 0) (λc s'=>(if c=true then wC p k f l ((l+r) / 2)else wC p k f ((l+r) / 2+1) r).kasWp cmp G s') s
   refine N9 T I hk (by lia) (by lia) (λq=>?_) (λq=>?_)
   .rw[kh rfl]
    refine J4 T I hk hs f l ((l+r) / 2) (by lia) (by lia) (by lia) h1 (λi hi ik=>?_) h
    by_cases z:i=(l+r) / 2
    .subst z;exact q
    .exact mf q (hs _ _ (by lia) ik)
   .rw[ko (by decide)]
    refine J4 T I hk hs f ((l+r) / 2+1) r (by lia) (by lia) (by lia) (λi hi=>?_) h2 h
    by_cases z:i=(l+r) / 2
    .subst z;exact q
    .exact mf (hs i ((l+r) / 2) (by lia) (by lia)) q
theorem Wa(T:Tru cmp key n s){G:kj Nat->j5->Prop}(h:∀q,PI key n q->Srt key q n->G q s):∀(f k:Nat) (p:kj Nat),PI key n p->k+f=n->Srt key p k->(zM f p k).kasWp cmp G s
 |0,k,p,I,e,hs=>h p I (by have:k=n:=by lia
                          subst this;exact hs)
 |f+1,k,p,I,e,hs=>by
  unfold zM
  rw[qD]
  refine J4 T I (by lia) hs k 0 k (lX _) (kA _) (by lia) (λi hi=>by lia) (λi h1 h2=>by lia) λl hl h1 h2=>?_
  refine Wa T h f (k+1) _ (I.perm (bubble_perm _ _ _)) (by lia) λi j ij jk=>?_
  have hks:k<p.size:=by rw[I.sz];lia
  show key ((bubble p k (k-l)).getD i 0)<key ((bubble p k (k-l)).getD j 0)
  rw[getD_eq,getD_eq,wd hks _ (by lia),wd hks _ (by lia),show k-(k-l)=l by lia]
  repeat' split
  all_goals first
   |(exfalso;lia)
   |(rw[<-getD_eq,<-getD_eq];first|exact h1 _ (by lia)|exact h2 _ (by lia) (by lia)|exact hs _ _ (by lia) (by lia))
theorem Vl(T:Tru cmp key n s)(inj:∀i j,i<n->j<n->key i=key j->i=j)(h1:1<=n){G:kj Nat->j5->Prop}(h:∀q,PI key n q->Srt key q n->G q s):(kas_sort n).kasWp cmp G s:=by
 unfold kas_sort
 rw[qD]
 refine UL T ⟨by simp,inj⟩ h1 λa q h2 h3 I hs=>?_
 by_cases e:a<n
 .show(if a<n then zM (n-max a 1) q (max a 1)else .ret q).kasWp cmp G s
  rw[kh e]
  have:max a 1=a:=by lia
  rw[this]
  exact Wa T h _ _ _ I (by lia) hs
 .show(if a<n then zM (n-max a 1) q (max a 1)else .ret q).kasWp cmp G s
  rw[ko e]
  have:a=n:=by lia
  subst this
  exact h q I hs
end
end Mi
end
noncomputable section
namespace Mi
open PySem PySem.Spec L2 PyProof.Rows
def G4(h:lD):Wp j4->Wp Int->Prop
 | [],[]=>uU
 |v::vs,k::ks=>(∃a o xs n t,v=.ref a/\h.get? a=Gc o/\o.cls=.type "tuple" /\o.data=.seq xs n/\xs[0]?=Gc (.int k t))/\G4 h vs ks
 |_,_=>ou
theorem G4.kat{h:lD}:∀{vs:Wp j4} {ks:Wp Int},G4 h vs ks->∃fs:Wp j4,fs.length=vs.length/\PySem.W.KatTups h vs fs/\∀v∈fs,∃k t,v=.int k t
 | [],[],_=>⟨[],rfl,trivial,λ_ z=>nomatch z⟩
 | [],_::_,z=>z.elim
 |_::_,[],z=>z.elim
 |v::vs,k::ks,⟨⟨a,o,xs,n,t,e,ho,hc,hd,hx⟩,r⟩=>by
  obtain⟨fs,h1,h2,h3⟩:=G4.kat r
  refine⟨.int k t::fs,by simp[h1],⟨⟨a,o,xs,n,e,ho,hc,hd,hx⟩,h2⟩,λx hx=>?_⟩
  rcases kG.mp hx with rfl|hx
  .exact⟨k,t,rfl⟩
  .exact h3 x hx
theorem G4.keep{h h':lD}(kp:∀a o,h.get? a=Gc o->o.cls=.type "tuple"->h'.get? a=Gc o):∀{vs:Wp j4} {ks:Wp Int},G4 h vs ks->G4 h' vs ks
 | [],[],_=>trivial
 | [],_::_,z=>z.elim
 |_::_,[],z=>z.elim
 |v::vs,k::ks,⟨⟨a,o,xs,n,t,e,ho,hc,hd,hx⟩,r⟩=>⟨⟨a,o,xs,n,t,e,kp a o ho hc,hc,hd,hx⟩,r.keep kp⟩
theorem G4.length{h:lD}:∀{vs:Wp j4} {ks:Wp Int},G4 h vs ks->vs.length=ks.length
 | [],[],_=>rfl
 | [],_::_,z=>z.elim
 |_::_,[],z=>z.elim
 |v::vs,k::ks,⟨_,r⟩=>by simp[r.length]
theorem G4.at{h:lD}:∀{vs:Wp j4} {ks:Wp Int} {i:Nat},G4 h vs ks->i<vs.length->∃a o xs n t,vs.getD i .none=.ref a/\h.get? a=Gc o/\o.data=.seq xs n/\xs[0]?=Gc (.int (ks.getD i 0) t)
 | [],_,_,_,hi=>by simp at hi
 |_::_,[],_,z,_=>z.elim
 |v::vs,k::ks,0,⟨⟨a,o,xs,n,t,e,ho,hc,hd,hx⟩,r⟩,_=>⟨a,o,xs,n,t,by simp[e],ho,hd,by simp[hx]⟩
 |v::vs,k::ks,i+1,⟨_,r⟩,hi=>by
  obtain⟨a,o,xs,n,t,h1,h2,h3,h4⟩:=r.at (i:=i) (by simpa using hi)
  exact⟨a,o,xs,n,t,by simpa using h1,h2,h3,by simpa using h4⟩
section
variable{prog:ke}{w:lB}{A:lF}{E:j4->j5->Prop}{s:j5}{vs:Wp j4}{ks:Wp Int}
theorem ZD{x y:j4}{a b:j9}{o u:Obj}{xs ys:kj j4}{n m:Nat}{k l:Int}{t r:Tok}{Q:lA->j5->Prop}(hx:x=.ref a)(hy:y=.ref b)(ho:s.heap.get? a=Gc o)(hu:s.heap.get? b=Gc u)(d1:o.data=.seq xs n)(d2:u.data=.seq ys m)(e1:xs[0]?=Gc (.int k t))(e2:ys[0]?=Gc (.int l r))(ne:k≠l)(q:Q (decide (k<l)) s):wpAny (model prog w) A (keyLt' (tuples' true) x y) Q E s:=by
 subst hx hy
 refine PySem.W.kat_lt ho d1 hu d2 ?_
 have z1:∃r1,xs.toList=.int k t::r1:=by
  cases h:xs.toList with
  |nil=>simp[<-nv,h]at e1
  |cons x r=>simp only[<-nv,h,sf,vd]at e1;exact⟨r,by rw[e1]⟩
 have z2:∃r1,ys.toList=.int l r::r1:=by
  cases h:ys.toList with
  |nil=>simp[<-nv,h]at e2
  |cons x r=>simp only[<-nv,h,sf,vd]at e2;exact⟨r,by rw[e2]⟩
 obtain⟨r1,z1⟩:=z1
 obtain⟨r2,z2⟩:=z2
 rw[z1,z2,vA]
 refine PySem.W.kat_cons (vn ?_)
 rw[show(k==l)=false by simpa using ne]
 exact PySem.W.kat_no (oneLt_int q)
theorem T9(h:G4 s.heap vs ks)(nd:ks.Nodup):Tru (PySem.W.kas_ask prog w A (tuples' true) vs) (λi=>ks.getD i 0) vs.length s:=by
 intro i j C hi hj ne q
 obtain⟨a,o,xs,n,t,h1,h2,h3,h4⟩:=h.at hi
 obtain⟨b,u,ys,m,r,k1,k2,k3,k4⟩:=h.at hj
 refine ZD h1 k1 h2 k2 h3 k3 h4 k4 (λe=>ne ?_) q
 have li:i<ks.length:=by rw[<-h.length];exact hi
 have lj:j<ks.length:=by rw[<-h.length];exact hj
 have e':ks[i]=ks[j]:=by simpa[li,lj]using e
 exact(oR nd).mp e'
structure Plc(ks:Wp Int)(p:Wp Nat):Prop where
 pm:p.Perm (kq ks.length)
 so:(p.map λi=>ks.getD i 0).Pairwise (· < ·)
theorem LP{a:j9}{n:Nat}{P:PySem.Fin->j5->Prop}(ho:s.heap.get? a=Gc (seqObj "list" vs.toArray n))(hk:G4 s.heap vs ks)(nd:ks.Nodup)(h64:vs.length<64)(h:∀p:Wp Nat,Plc ks p->P (.done (.ret .none)) {s with heap:=sortedHeap s.heap a vs (p.map λi=>vs.getD i .none).toArray}):wpAny (model prog w) A (mw.«list.sort» ⟨[.ref a],[]⟩) P E s:=by
 rw[list_sort_plain]
 have ha:a<s.heap.objs.size:=kL ho
 have kl:=hk.length
 refine jy (listItems_at ho rfl ?_)
 refine jy (ug ho rfl ?_ (by rw[kM,qo];lia) (lX _))
 obtain⟨e1,ho1⟩:∃e1,(s.heap.update a (lH λ_=> #[])).get? a=Gc (seqObj "list" #[] e1):=⟨_,get?_update_seq ho (λ_=> #[])⟩
 refine jy (wK ho1 rfl ?_)
 refine jy (uD ?_ (by show vs.length<=_;rw[qo];lia))
 refine jy (ql ?_ (lX _))
 refine lM ?_
 have old:∀b o,b≠a->s.heap.get? b=Gc o->(((s.heap.update a (lH λ_=> #[])).push (seqObj "tuple" vs.toArray 0)).push (seqObj "list" #[] 0)).get? b=Gc o:=λb o nb e=>
  j0 _ (j0 _ ((mD _ _ (l8 nb)).trans e))
 have ho6:(((s.heap.update a (lH λ_=> #[])).push (seqObj "tuple" vs.toArray 0)).push (seqObj "list" #[] 0)).get? a=Gc (seqObj "list" #[] e1):=j0 _ (j0 _ ho1)
 show wpAny (model prog w) A _ P E {s with heap:=((s.heap.update a (lH λ_=> #[])).push (seqObj "tuple" vs.toArray 0)).push (seqObj "list" #[] 0)}
 dsimp only
 have hsz:vs.toArray.size=vs.length:=by simp
 by_cases h2:vs.toArray.size<2
 .rw[kh h2,kh h2]
  refine jy (j7 ?_)
  rw[StateT.run_pure]
  refine jy (j7 ?_)
  dsimp only
  refine jy (wK ho6 rfl ?_)
  refine jy (ug ho6 rfl ?_ (by simp) (by rw[Array.size_map];show(pairsOf vs).size<=_;rw[pairsOf_size,qo];lia))
  simp only[qW,mz,pL]
  have hp:Plc ks (kq ks.length):=⟨qV _,by
   have:ks.length<2:=by lia
   match ks,this with
   | [],_=>simp
   | [x],_=>simp⟩
  have e:=h _ hp
  have e2:(kq ks.length).map (λi=>vs.getD i mI)=vs:=by
   apply oX
   .simp[kl]
   .intro i i1 i2;simp[i2]
  rw[e2]at e
  refine j7 ?_
  have e3:(arrOf (SortSt.mk' general' (vs.toArray.zip vs.toArray) #[] 7 none)).map (·.2)=vs.toArray:=by
   show(vs.toArray.zip vs.toArray).map (·.2)=_
   apply Array.toList_inj.mp
   rw[se,Array.toList_zip]
   exact wD (kA _)
  have e4:P (.done (.ret .none)) {s with heap:=sortedHeap s.heap a vs ((arrOf (SortSt.mk' general' (vs.toArray.zip vs.toArray) #[] 7 none)).map (·.2))}:=by rw[e3];exact e
  exact e4
 .rw[ko h2,ko h2]
  have hn2:2<=vs.length:=by lia
  obtain⟨fs,f1,f2,f3⟩:=(hk.keep (h':=((s.heap.update a (lH λ_=> #[])).push (seqObj "tuple" vs.toArray 0)).push (seqObj "list" #[] 0)) λb o e c=>old b o (λz=>by subst z;rw[ho]at e;cases e;exact absurd c (by simp[seqObj])) e).kat
  have hk':=hk.keep (h':=((s.heap.update a (lH λ_=> #[])).push (seqObj "tuple" vs.toArray 0)).push (seqObj "list" #[] 0)) λb o e c=>old b o (λz=>by subst z;rw[ho]at e;cases e;exact absurd c (by simp[seqObj])) e
  refine jy (PySem.W.kat_kind (s:={s with heap:=((s.heap.update a (lH λ_=> #[])).push (seqObj "tuple" vs.toArray 0)).push (seqObj "list" #[] 0)}) (T:=.type "int") f2 (by lia) (λv hv=>?_) rfl ?_)
  .obtain⟨k,t,rfl⟩:=f3 v hv
   exact PySem.W.Looks.now
  rw[show tuples' (qc "int" !=qc "tuple")=tuples' true from rfl]
  refine jy (qd (PySem.W.kat_run (s:={s with heap:=((s.heap.update a (lH λ_=> #[])).push (seqObj "tuple" vs.toArray 0)).push (seqObj "list" #[] 0)})
   (Q:=λst' s'=>s'={s with heap:=((s.heap.update a (lH λ_=> #[])).push (seqObj "tuple" vs.toArray 0)).push (seqObj "list" #[] 0)}/\∃q:kj Nat,PI (λi=>ks.getD i 0) vs.length q/\Srt (λi=>ks.getD i 0) q vs.length/\arrOf st'=q.map (PySem.W.kas_item (vs.toArray.zip vs.toArray))/\failedOf st'=none)
   (G:=λq s'=>s'={s with heap:=((s.heap.update a (lH λ_=> #[])).push (seqObj "tuple" vs.toArray 0)).push (seqObj "list" #[] 0)}/\PI (λi=>ks.getD i 0) vs.length q/\Srt (λi=>ks.getD i 0) q vs.length)
   rfl hn2 h64 (λq st' s' _ a1 a2 ⟨a3,a4,a5⟩=>⟨a3,q,a4,a5,a1,a2⟩) ?_) ?_ λ_ _ e=>e)
  .refine Vl (T9 (s:={s with heap:=((s.heap.update a (lH λ_=> #[])).push (seqObj "tuple" vs.toArray 0)).push (seqObj "list" #[] 0)}) hk' nd) (λi j hi hj e=>?_) (by lia) λq a1 a2=>⟨rfl,a1,a2⟩
   have li:i<ks.length:=by rw[<-kl];exact hi
   have lj:j<ks.length:=by rw[<-kl];exact hj
   have e':ks[i]=ks[j]:=by simpa[li,lj]using e
   exact(oR nd).mp e'
  .rintro ⟨⟨⟩,st'⟩ s' ⟨rfl,q,a1,a2,a3,a4⟩
   dsimp only
   have e3:=PySem.W.kat_snds (ks:=vs) (vs:=vs) rfl a3
   refine jy (wK ho6 rfl ?_)
   refine jy (ug ho6 rfl ?_ (by simp) (by rw[e3,kM,kT,lg,a1.sz,qo];lia))
   rw[a4]
   simp only[qW,mz,pL]
   refine j7 ?_
   rw[e3]
   refine h q.toList ⟨by rw[<-kl];exact a1.pm,?_⟩
   rw[rR]
   intro i j hi hj ij
   simp only[kT,lg]at hi hj
   have:=a2 i j ij (by rw[<-a1.sz];exact hj)
   simpa[kp,qF,hi,hj]using this
theorem KO{Pv:Wp j4->Prop}{r:j4}{Q:j4->j5->Prop}(hh:A.handled=none)(hc:∀(A':lF) (Q':Wp j4->j5->Prop) (E':j4->j5->Prop),A'.handled=none->(∀h' tk vs,(∀b o,s.heap.get? b=Gc o->h'.get? b=Gc o)->s.heap.objs.size<=h'.objs.size->Pv vs->G4 h' vs ks->Q' vs {s with heap:=h',toks:=tk})->wpAny (model prog w) A' (collect r) Q' E' s)(nd:ks.Nodup)(h64:ks.length<64)(h:∀(a:j9) (e:Nat) (h':lD) (tk:Nat) (vs:Wp j4) (p:Wp Nat),s.heap.objs.size<=a->Plc ks p->Pv vs->(∀b o,s.heap.get? b=Gc o->h'.get? b=Gc o)->h'.get? a=Gc (seqObj "list" (p.map λi=>vs.getD i .none).toArray e)->Q (.ref a) {s with heap:=h',toks:=tk}):wpAny (model prog w) A (call (.builtin "sorted") [r]) Q E s:=by
 refine rS kind_sorted zH zI (zJ _) ?_
 unfold mw.«sorted»
 refine jy (m:=checkCount "sorted" 1 1 _) (j7 (jy (hc _ _ _ (by simp[hh]) λh1 tk vs kp lz pv kt=>jy (ql ?_ ?_))))
 .have at1:(h1.push (seqObj "list" vs.toArray 0)).get? h1.objs.size=Gc (seqObj "list" vs.toArray 0):=kH _ rfl
  have vl:vs.length<64:=by rw[kt.length];exact h64
  show wpAny _ _ _ _ _ {s with heap:=h1.push (seqObj "list" vs.toArray 0),toks:=tk}
  have kt1:G4 (h1.push (seqObj "list" vs.toArray 0)) vs ks:=kt.keep λb o e _=>j0 _ e
  refine jy (lM (lL xQ ⟨_,at1,rfl⟩ wc (LP (s:={s with heap:=h1.push (seqObj "list" vs.toArray 0),toks:=tk}) at1 kt1 nd vl λp pl=>⟨_,rfl,j7 ⟨_,rfl,?_⟩⟩) (xR _)))
  obtain⟨e,he⟩:=yI (out:=(p.map λi=>vs.getD i .none).toArray) at1
  have k2:∀b o,h1.get? b=Gc o->(sortedHeap (h1.push (seqObj "list" vs.toArray 0)) h1.objs.size vs (p.map λi=>vs.getD i .none).toArray).get? b=Gc o:=λb o q=>by
   have lb:=kL q
   rw[xS (kS lb) (by rw[ku];exact mB lb)]
   exact j0 _ q
  exact h _ e _ tk vs p lz pl pv (λb o q=>k2 b o (kp b o q)) he
 .rw[kt.length]
  exact kF (mN h64) (by decide)
end
end Mi
end
noncomputable section
namespace Mi
open PySem PySem.Spec L2 PyProof.Rows
structure Lo(X:Cx)(pins:Wp (j9×Obj))(lo:j9):Prop where
 s0:X.s₀.heap.objs.size<=lo
 loc:X.env.locals<lo
 cel:∀x c,X.env.cells.lookup x=Gc c->c<lo
 pin:∀p∈X.pn++pins,p.1<lo
section
variable{X:Cx}{pins:Wp (j9×Obj)}{σ:Wp (j6 V)}{H:Hp}{s:j5}
end
noncomputable def Xa:D->j6 Int
 | .tup (.int k::_)=>Gc k
 |_=>none
noncomputable def LN:Wp D->j6 (Wp Int)
 | []=>Gc []
 |d::ds=>(Xa d).bind λk=>(LN ds).map (k:: ·)
noncomputable def OX(ks:Wp Int)(ds:Wp D):Wp D:=((ks.zip ds).mergeSort λa b=>decide (a.1<=b.1)).map (·.2)
theorem X9{ks:Wp Int}{ds:Wp D}(nd:ks.Nodup){a b:Int×D}(ha:a∈ks.zip ds)(hb:b∈ks.zip ds)(e:a.1=b.1):a=b:=by
 obtain⟨i,hi,rfl⟩:=pO.mp ha
 obtain⟨j,hj,rfl⟩:=pO.mp hb
 have:i=j:=by
  simp only[List.getElem_zip]at e
  exact(oR nd).mp e
 subst this;rfl
theorem L4{ks:Wp Int}{ds:Wp D}(nd:ks.Nodup){l:Wp (Int×D)}(p:l.Perm (ks.zip ds))(s:l.Pairwise λa b=>a.1<b.1):OX ks ds=l.map (·.2):=by
 unfold OX
 congr 1
 have h1:=qz (ks.zip ds) λa b=>decide (a.1<=b.1)
 have h2:=qI (le:=λ(a b:Int×D)=>decide (a.1<=b.1)) (λa b c h1 h2=>by simp at *; lia) (λa b=>by simp;lia) (ks.zip ds)
 refine sL (le:=λa b=>a.1<=b.1) (λa b ha hb e1 e2=>?_) (h2.imp λh=>kO h) (s.imp λh=>zN h) (h1.trans p.symm)
 exact X9 nd (h1.mem_iff.mp ha) (p.mem_iff.mp hb) (Int.le_antisymm e1 e2)
theorem Pk{ks:Wp Int}{ds:Wp D}{p:Wp Nat}(h:Plc ks p)(nd:ks.Nodup)(hl:ds.length=ks.length):OX ks ds=p.map λi=>ds.getD i .non:=by
 rw[L4 (l:=p.map λi=>(ks.getD i 0,ds.getD i .non)) nd ?_ ?_,mO]
 .rfl
 .have:ks.zip ds=(kq ks.length).map λi=>(ks.getD i 0,ds.getD i .non):=by
   apply oX
   .simp[hl]
   .intro i i1 i2
    have:i<ks.length:=by simp at i2;exact i2
    simp[this,hl]
  rw[this]
  exact h.pm.map _
 .have:=h.so
  rw[mh]at this⊢
  exact this
theorem Am.pl{K:jz}{M:Ms}{H:Hp}{vs:Wp V}{ds:Wp D}(r:Am K M H vs ds):∀{p:Wp Nat},(∀i∈p,i<ds.length)->Am K M H (p.map λi=>vs.getD i .non) (p.map λi=>ds.getD i .non)
 | [],_=>.nil
 |i::p,h=>by
  rw[kU,kU]
  refine .cons ?_ (Am.pl r λj hj=>h j (kC _ hj))
  have hi:=h i kJ
  obtain⟨x,h1,h2⟩:=r.get (kE hi)
  simp only[kP,h1,kE hi,vy]
  exact h2
theorem Vals.pl{vs:Wp V}{us:Wp j4}(r:Vals vs us):∀{p:Wp Nat},Vals (p.map λi=>vs.getD i .non) (p.map λi=>us.getD i .none)
 | []=>.nil
 |i::p=>by
  rw[kU,kU]
  refine .cons ?_ (Vals.pl r)
  cases e:vs[i]? with
  |none=>
   have:us[i]?=none:=by rw[pW]at e ⊢; rw[<-r.length];exact e
   simp only[kP,e,this]
   rfl
  |some x=>
   obtain⟨u,h1,h2⟩:=r.get e
   simp only[kP,e,h1]
   exact h2
theorem YT{X:Cx}{pins:Wp (j9×Obj)}{σ:Wp (j6 V)}{H:Hp}{s:j5}{M:Ms}(I:Inv X pins σ H s):∀{vs:Wp V} {ds:Wp D} {ks:Wp Int} {us:Wp j4},Am X.K M H vs ds->LN ds=Gc ks->Vals vs us->G4 s.heap us ks
 |_,_,ks,us,.nil,e,v=>by cases e;cases v;trivial
 |_,_,ks,us,.cons (d:=d) h t,e,v=>by
  obtain⟨k,e1,e⟩:=An e
  obtain⟨ks',e2,e⟩:=Ir e
  cases e
  cases v with
  |cons r1 r2=>
   refine⟨?_,YT I t e2 r2⟩
   unfold Xa at e1
   split at e1
   .cases e1
    cases h with
    |tup sq rr=>
     cases (show _=mH _ from r1)
     cases rr with
     |cons rk rr=>
      cases rk
      obtain⟨its,rv,⟨o,ho,hc,n,hd⟩,_⟩:=I.tuple sq
      cases rv with
      |cons q1 q2=>
       obtain⟨t,rfl⟩:=(show∃t,_=qb _ t from q1)
       exact⟨_,o,_,n,t,rfl,ho,hc,hd,by simp⟩
   .cases e1
theorem IC:∀{ds:Wp D} {ks:Wp Int},LN ds=Gc ks->ks.length=ds.length
 | [],ks,e=>by cases e;rfl
 |d::ds,ks,e=>by
  obtain⟨k,e1,e⟩:=An e
  obtain⟨ks',e2,e⟩:=Ir e
  cases e
  simp[IC e2]
noncomputable def Pc:Op1:=λw=>(asL w).bind λds=>(LN ds).bind λks=>if ks.length<64/\ks.Nodup then Gc (.own (OX ks ds))else none
theorem Pr{X:Cx}(hc:X.calm=true):Ep X (.builtin "sorted") (rN X.K (o1 Pc)):=by
 intro pins s σ H xs us Q I r h
 obtain⟨M,ws,w,e,mo,sh,q⟩:=h
 obtain⟨v,w1,rfl,rfl,s1,e1⟩:=HP sh e
 obtain⟨ds,e2,e1⟩:=An e1
 obtain⟨ks,e3,e1⟩:=An e1
 split at e1
 .rename_i hz
  cases e1
  obtain⟨a,ys,rfl,h3,h4⟩:=s1.l e2
  obtain⟨u,rfl,ru⟩:=r.one
  cases (show u=mH a from ru)
  obtain⟨its,rv,pl,hl⟩:=I.list (X:=X) (.of h3)
  have kl:=IC e3
  have i64:its.length<64:=by rw[<-rv.length,h4.length,<-kl];exact hz.1
  have kp1:∀b o,s.heap.get? b=Gc o->((s.heap.push (seqObj "list" #[] 0)).update s.heap.objs.size (lH λx=>x++its.toArray)).get? b=Gc o:=λb o e=>by
   have lb:=kL e
   rw[Heap.get?_update_ne _ _ _ _ (kS lb)]
   exact j0 _ e
  refine KO (ks:=ks) (Pv:=λvs=>vs=its) (I.ok.hd hc) (λA' Q' E' _ hq=>collect_list pl.isList (hq _ s.toks its kp1 ?_ rfl ((YT I h4 e3 rv).keep λb o e _=>kp1 b o e)) (kF (mN i64) (by decide))) hz.2 hz.1 λa e h' tk vs p la pl' ev kp he=>?_
  .rw[Heap.size_update,size_push'];exact sA _
  .subst ev
   have hn:H a=none:=I.hok.fresh la
   have pb:∀i∈p,i<ds.length:=λi hi=>by
    have:=pl'.pm.mem_iff.mp hi
    rw[<-kl];simpa using this
   refine⟨.ref _,_,I.laid (a:=a) (o:=.lst (p.map λi=>ys.getD i .non)) (t':=tk) kp la ?_,rfl,?_⟩
   .refine⟨?_,_,e,Vals.pl rv,he⟩
    rw[kT,pl'.pm.length_eq,qX]
    have:(64:Nat)<=sizeLine:=by decide
    lia
   .refine q _ _ ?_
    rw[Pk pl' hz.2 kl.symm]
    exact .lst mo hn (h4.pl pb)
 .cases e1
end Mi
end
noncomputable section
namespace Mi
open PySem PySem.Spec L2 PyProof.Rows
structure M0(X:Cx)(o:ky)(m:Str)(apos cpos:Pos):Prop where
 base:attributeBase o m X.env (eval o X.env)=eval o X.env
 line:(apos.endLine==cpos.line)=true
end Mi
end
noncomputable section
namespace Mi
open PySem PySem.Spec L2 PyProof.Rows
structure DL(X:Cx)(st:Wp lY)(f:Ex):Prop where
 pe:PSs X st (λDn σ H=>Dn.ct=Dn.nx/\tX X.K f Dn σ H)
section
variable{X:Cx}
theorem dm{st:Wp lY}{f:Ex}(h:DSs X st f):DL X st f:=⟨Ht h.pe λ_ _ _ z=>z.2⟩
theorem YQ{st:lY}{rest:Wp lY}{f g:Ex}(h1:DS X st f)(h2:DL X rest g):DL X (st::rest) (AW f g):=⟨Ht (NC h1.pe h2.pe) λDn σ H z=>by
 obtain⟨ec,M,E,S,fl,E',S',e,r,st,q⟩:=z
 obtain⟨⟨f1,E1,S1⟩,e1,e⟩:=An e
 dsimp only at e
 split at e
 .exact⟨M,E,S,.nx,E1,S1,e1,r,st,λσ1 H1 M1 g1 r1 st1=>⟨ec,M1,E1,S1,fl,E',S',e,r1,st1,q.later g1⟩⟩
 .cases e
  exact⟨M,E,S,.ret _,_,_,e1,r,st,q⟩⟩
theorem YJ{c:ky}{rest:Wp lY}{k:Ev}{g:Ex}{p pos:Pos}(hc:DT X c k)(h2:DL X rest g):DL X (.If c [.Continue p] [] pos::rest) (xIf k Cw g):=⟨Ht (NC (ZY hc.pe (SD Od) Ri) h2.pe) λDn σ H z=>by
 obtain⟨ec,M,E,S,fl,E',S',e,r,st,q⟩:=z
 obtain⟨⟨w1,S1⟩,e1,e⟩:=An e
 dsimp only at e
 split at e
 .cases e
  refine⟨M,E,S,_,_,e1,r,st,λH1 M1 g1 st1=>?_⟩
  refine Vw ?_
  show Dn.ct σ H1
  rw[ec]
  exact q _ _ M1 g1 (r.step g1.st) st1
 .refine⟨M,E,S,_,S1,e1,r,st,λH1 M1 g1 st1=>?_⟩
  refine Uk ?_
  exact⟨ec,M1,E,S1,fl,E',S',e,r.step g1.st,st1,q.later g1⟩
 .cases e⟩
theorem Y3{X:Cx}{tg iter:ky}{body:Wp lY}{s:Sr}{t:Tf}{b:Ex}{pos:Pos}(hp:uR (model X.prog X.w) X.A X.env X.xe)(hc:X.calm=true)(hi:DI X tg iter s)(hg:DG X tg t)(hb:DL X body b)(hs:∀x,foldedSetIterable iter X.env x=pure x:=by intro _;rfl):DS X (.For tg iter body [] pos) (HH s t b):=⟨EL (XI hp hc hi.pe hg.pe hb.pe hs) λDn σ H z=>by
 obtain⟨M,E,S,fl,E',S',e,r,st,q⟩:=z
 obtain⟨⟨⟨ds,gs⟩,S1⟩,e1,e⟩:=An e
 dsimp only at e
 refine⟨M,E,S,ds,gs,S1,e1,r,st,λJ H1 M1 g1 st1 it=>?_⟩
 refine⟨λi m σ' H'=>m=ds.length-i/\∃E2 S2 M2,HN gs t b (ds.drop i) E2 S2=Gc (fl,E',S')/\Gr M1 H1 M2 H'/\EnR X.K M2 E2 σ' H'/\StR X.K M2 S2 H',⟨_,rfl,E,S1,M1,e,.refl st1.mo,r.step g1.st,st1⟩,λi m σ2 H2 hW=>?_⟩
 obtain⟨rfl,E2,S2,M2,e2,g2,r2,st2⟩:=hW
 cases ed:ds.drop i with
 |nil=>
  rw[ed]at e2
  unfold HN at e2
  split at e2
  .rename_i ok
   cases e2
   left
   exact⟨it.stop i H2 M2 _ g2.st st2 ok (pM.mp ed),q _ _ M2 (g1.trans g2) r2 st2⟩
  .cases e2
 |cons d rest=>
  obtain⟨d1,d2,d3⟩:=Ho ed
  rw[ed]at e2
  unfold HN at e2
  split at e2
  .rename_i ok
   obtain⟨E3,e3,e2⟩:=An e2
   obtain⟨⟨f4,E4,S4⟩,e4,e2⟩:=An e2
   dsimp only at e2
   right
   refine⟨it.go i H2 M2 S2 g2.st st2 ok d3,λσ' H'=>∃m',m'<ds.length-i/\(m'=ds.length-(i+1)/\∃E2 S2 M2,HN gs t b (ds.drop (i+1)) E2 S2=Gc (fl,E',S')/\Gr M1 H1 M2 H'/\EnR X.K M2 E2 σ' H'/\StR X.K M2 S2 H'),λσ' H' z=>z,λx H3 hy=>?_⟩
   obtain⟨k3,rx⟩:=it.yld i H2 M2 S2 x H3 d g2.st st2 ok d1 hy
   have g3:Gr M2 H2 M2 H3:=.grow st2.mo k3
   refine⟨M2,d,E2,E3,S2,e3,r2.step g3.st,st2.grow k3,rx,λσ4 r4=>?_⟩
   refine⟨rfl,M2,E3,S2,f4,E4,S4,e4,r4,st2.grow k3,?_⟩
   split at e2
   .exact λσ6 H6 M6 g6 r6 st6=>⟨_,by lia,rfl,E4,S4,M6,by rw[d2];exact e2,(g2.trans g3).trans g6,r6,st6⟩
   .cases e2
    exact λv H6 M6 g6 st6 r6=>q _ _ M6 (((g1.trans g2).trans g3).trans g6) st6 r6
  .cases e2⟩
noncomputable def Jg(fd fk:Ev):Ev:=λE S=>(fd E S).bind λa=>(KY a.2 a.1).bind λ_=>(fk E a.2).bind λb=>(KY b.2 a.1).bind λes=>(UY b.1).map λk=>((Rf es k).getD .non,b.2)
theorem MC{o e:ky}{fd fk:Ev}{apos cpos:Pos}(hu:X.A.units+100<cLine)(ho:DE X o fd)(hk:DE X e fk)(m:M1 X o "get" apos e cpos):DE X (.Call (.Attribute o "get" apos) [e] [] cpos) (Jg fd fk):=⟨
 BW (V0 (by lia) ho.pe hk.pe m) λσ H Q z=>by
  obtain⟨M,E,S,d,S',e,r,st,q⟩:=z
  obtain⟨⟨a,S1⟩,e1,e⟩:=An e
  obtain⟨es1,ed,e⟩:=An e
  obtain⟨⟨b,S2⟩,e2,e⟩:=An e
  obtain⟨es,ed3,e⟩:=An e
  obtain⟨k,ek,e⟩:=Ir e
  cases e
  refine⟨M,E,S,a,S1,e1,r,st,λv H1 M1 g1 st1 d1=>?_⟩
  obtain⟨p,kvs,rfl,hp,_⟩:=Pa st1 d1 ed
  refine⟨p,rfl,.inl ⟨kvs,.inl hp⟩,M1,E,S1,b,S2,e2,r.step g1.st,st1,λv2 H2 M2 g2 st2 d2=>?_⟩
  obtain⟨p',kvs3,e4,hp3,rk⟩:=Pa st2 (d1.step g2.st) ed3
  cases e4
  rw[Rh d2 ek]
  refine⟨_,.k hp3,?_⟩
  rcases rk.val k with⟨h1,h2⟩|⟨v,d,h1,h2,h3⟩
  .rw[h1];rw[h2]at q;exact q _ _ M2 (g1.trans g2) st2 .non
  .rw[h1];rw[h2]at q;exact q _ _ M2 (g1.trans g2) st2 h3⟩
end
theorem OT {prog : ke} {w : lB} {A : lF} {E : j4 -> j5 -> Prop} {s : j5} {T : pE} {r d : j9} {n : Nat} {P : Nat -> j4 -> Prop} {OK : lD -> Prop} {Q : Wp j4 -> j5 -> Prop} (C : PySem.W.KdlSrc prog w T r d n P OK) (hh : A.handled = none) (hok : OK s.heap) (hn : n ≤ sizeLine) (h : ∀ h' tk acc', (∀ b o, s.heap.get? b = Gc o -> h'.get? b = Gc o) -> s.heap.objs.size ≤ h'.objs.size -> uS P acc' n -> Q acc'.toList { s with heap := h', toks := tk }) : wpAny (model prog w) A (collect (.ref r)) Q E s := by
  unfold collect
  refine jy (uH (nK sI ?_))
  rw [mV sJ _]
  show wpAny _ A.in1 (newList [] >>= fun l => again (.builtin "list.__iadd__" ⟨[l, .ref r], []⟩)) _ _ s
  refine jy (ql ?_)
  refine j7 ⟨p0 pN _, nK uK ?_⟩
  rw [mV pN _]
  show wpAny _ A.in1 (lZ (.ref s.heap.objs.size) (.ref r) (.ref s.heap.objs.size)) _ _ { s with heap := s.heap.push (seqObj "list" #[] 0) }
  have me : (s.heap.push (seqObj "list" #[] 0)).get? s.heap.objs.size = Gc { cls := .type "list", data := .seq #[] 0 } := kH _ rfl
  have tr := C.there _ hok
  have ok2 : OK (s.heap.push (seqObj "list" #[] 0)) := C.keep _ _ hok fun b _ o e => j0 _ e
  have Z := PySem.W.kdl_extend (A := A) (R := fun r s' => ∃ h' tk acc' c', r = .ok (.ret (.ref s.heap.objs.size)) /\ s' = { s with heap := h', toks := tk } /\ (∀ b o, s.heap.get? b = Gc o -> h'.get? b = Gc o) /\ h'.get? s.heap.objs.size = Gc { cls := .type "list", dict := none, data := .seq acc' c', slots := #[] } /\ uS P acc' n) (s := { s with heap := s.heap.push (seqObj "list" #[] 0) }) C hh ok2 s.heap.objs.size (oZ tr.1) (oZ tr.2) (.ref s.heap.objs.size) 0 me (fun h' tk acc' c' hk hS' hacc => ⟨h', tk, acc', c', rfl, rfl, fun b o e => hk b o (kS (kL e)) (j0 _ e), hS', hacc⟩) hn
  have fn : ∀ (r : uo) (s' : j5), (∃ h' tk acc' c', r = Except.ok (Flow.ret (.ref s.heap.objs.size)) /\ s' = { s with heap := h', toks := tk } /\ (∀ b o, s.heap.get? b = Gc o -> h'.get? b = Gc o) /\ h'.get? s.heap.objs.size = Gc { cls := .type "list", dict := none, data := .seq acc' c', slots := #[] } /\ uS P acc' n) -> r = .ok (.ret (.ref s.heap.objs.size)) /\ wpAny (model prog w) A (do
      let o ← load s.heap.objs.size
      match o.data with
      | .seq xs _ => pure xs.toList
      | _ => unsupported "internal:collect") Q E s' := by
    rintro r s' ⟨h', tk, acc', c', rfl, rfl, kp, hS', hacc⟩
    exact ⟨rfl, jy (wu hS' (j7 (h h' tk acc' kp (mN (kL hS')) hacc)))⟩
  refine qd Z (fun f s' y => ?_) (fun e s' y => ?_)
  · cases f with
    | done f =>
      obtain ⟨e, q⟩ := fn _ _ y
      cases e
      exact q
    | again c' =>
      refine ⟨y.1, qN y.2 fun r s' y => ?_⟩
      obtain ⟨e, q⟩ := fn _ _ y
      cases e
      exact q
  · obtain ⟨e, q⟩ := fn _ _ y
    cases e
end Mi
end
noncomputable section
namespace Mi
open PySem PySem.Spec L2 PyProof.Rows
theorem QJ{vs:Wp (Key×j4)}:∀{l:Wp j4},l.length=vs.length->(∀(j:Nat) v,l[j]?=Gc v->∃k:Key,vs[j]?=Gc (k,v))->l=vs.map (·.2):=λ{l} hl h=>by
 apply oX
 .simp[hl]
 .intro i h1 h2
  obtain⟨k,e⟩:=h i l[i] (kE h1)
  have hi:i<vs.length:=by simpa using h2
  rw[kE hi]at e
  rw[v9,lR e]
theorem SK:∀{kvs:Wp (Key×V)} {vs:Wp (Key×j4)},KV kvs vs->Vals (kvs.map (·.2)) (vs.map (·.2))
 |_,_,.nil=>.nil
 |_,_,.cons h t=>.cons h.2 (SK t)
theorem L7{K:jz}{M:Ms}{H:Hp}:∀{kvs:Wp (Key×V)} {es:Wp (Key×D)},Bm K M H kvs es->Am K M H (kvs.map (·.2)) (es.map (·.2))
 |_,_,.nil=>.nil
 |_,_,.cons h t=>.cons h (L7 t)
theorem fo{X:Cx}{o:ky}{td:TE}{p pos apos cpos:Pos}(hc:X.calm=true)(hgl:Gl X "sorted")(hml:X.mg "sorted"=none)(ho:PE X o td)(m:M0 X o "values" apos cpos)(hs2:kc [v8 (.Attribute o "values" apos) [] [] cpos] X.env=[(false,eval (.Call (.Attribute o "values" apos) [] [] cpos) X.env)]:=by rfl):PE X (.Call (.Name "sorted" p) [.Call (.Attribute o "values" apos) [] [] cpos] [] pos) (λσ H Q=>td σ H λx H1=>∃(a:j9) (kvs:Wp (Key×V)) (M:Ms) (ds:Wp D) (ks:Wp Int),x=.ref a/\H1 a=Gc (.dK kvs)/\Am X.K M H1 (kvs.map (·.2)) ds/\LN ds=Gc ks/\ks.Nodup/\ks.length<64/\∀q p,Plc ks p->H1 q=none->Q (.ref q) (upd H1 q (.lst (p.map λi=>(kvs.map (·.2)).getD i .non)))):=by
 intro pins s σ H Q I h
 refine nY (JI I hgl hml wJ ?_ (by decide) (by decide))
 refine qe ?_ hs2 rfl
 rw[hs2]
 show wpAny _ _ (spliced ((false,eval (.Call (.Attribute o "values" apos) [] [] cpos) X.env)::backTo pos [])) _ _ s
 refine pF ?_
 refine vN (T:="dict") (id:="dict.values") m.base rfl m.line sX sM PySem.F.type_dict_values (thn (ho pins s σ H _ I h) λu s1 ⟨x,H1,I1,rx,a,kvs,M,ds,ks,ex,ha,rd,hk,nd,l64,q⟩=>?_)
 subst ex
 obtain rfl:u=mH a:=rx
 obtain⟨t1,t2,t3⟩:=Wo I1 (.inl ⟨kvs,.inl ha⟩)
 refine⟨t1,t2,?_⟩
 obtain⟨z,hd,vs,rel,dd⟩:=Vc I1.hok ha
 show wpAny _ _ (callWith cpos (.builtin "dict.values") [.ref a] [] []) _ _ s1
 refine PySem.method_meetsIn sM PySem.F.entry_dict_values rfl (xU ⟨rfl,dd.typeIs,PySem.F.args_dict_values_1 _,_,meets_dict_values (CZ X.prog X.w) a hd,⟨vs,dd⟩,?_⟩)
 refine pK ?_
 obtain⟨ep,da⟩:=dd.dictAt
 generalize hvw:({cls:=.type "dict_values",data:=.fields #[.ref a]}:Obj)=vw
 have hv:(s1.heap.push vw).IsValuesView s1.heap.objs.size a:=⟨vw,kH _ (by subst hvw;rfl),by subst hvw;rfl,by subst hvw;rfl⟩
 have hn:vs.length<=sizeLine:=by rw[<-rel.length];exact z
 have kl:=IC hk
 have rv:=SK rel
 have k1:∀b o,s1.heap.get? b=Gc o->(s1.heap.push vw).get? b=Gc o:=λb o e=>j0 _ e
 refine KO (s:={s1 with heap:=s1.heap.push vw}) (ks:=ks) (Pv:=λl=>l=vs.map (·.2)) (I1.ok.hd hc) (λA' Q' E' hA hq=>?_) nd l64 λb e h' tk l p la pl' ev kp he=>?_
 .refine OT (PySem.W.kdl_values (knd:=CZ X.prog X.w) (r:=s1.heap.objs.size) (d:=a) (kvs:=vs) (ep:=ep)) hA ⟨hv,da.push vw⟩ hn λh' tk acc' kp' lz hacc=>?_
  have ev:=QJ (l:=acc'.toList) (vs:=vs) (by simpa using hacc.1) (λj v q=>hacc.2 j v (by simpa using q))
  refine hq h' tk acc'.toList kp' lz ev ?_
  rw[ev]
  exact(YT I1 rd hk rv).keep λb o e _=>kp' b o (k1 b o e)
 .subst ev
  have la':s1.heap.objs.size<=b:=kF (by rw[ku];exact sA _) la
  have hnb:H1 b=none:=I1.hok.fresh la'
  refine⟨.ref _,_,I1.laid (a:=b) (o:=.lst (p.map λi=>(kvs.map (·.2)).getD i .non)) (t':=tk) (λc o e=>kp c o (k1 c o e)) la' ?_,rfl,q b p pl' hnb⟩
  refine⟨?_,_,e,Vals.pl rv,he⟩
  rw[kT,pl'.pm.length_eq,qX]
  have:(64:Nat)<=sizeLine:=by decide
  lia
noncomputable def eSV(c:lA)(f:Ev):Ev:=λE S=>(f E S).bind λa=>(KY a.2 a.1).bind λes=>(LN (es.map (·.2))).bind λks=>if ks.length<64/\ks.Nodup then fin c (.own (OX ks (es.map (·.2)))) a.2 else none
theorem YV{X:Cx}{o:ky}{f:Ev}{c:lA}{p pos apos cpos:Pos}(hc:X.calm=true)(hgl:Gl X "sorted")(hml:X.mg "sorted"=none)(ho:DE X o f)(m:M0 X o "values" apos cpos)(hs2:kc [v8 (.Attribute o "values" apos) [] [] cpos] X.env=[(false,eval (.Call (.Attribute o "values" apos) [] [] cpos) X.env)]:=by rfl):DE X (.Call (.Name "sorted" p) [.Call (.Attribute o "values" apos) [] [] cpos] [] pos) (eSV c f):=⟨
 BW (fo hc hgl hml ho.pe m hs2) λσ H Q z=>by
  obtain⟨M,E,S,d,S',e,r,st,q⟩:=z
  obtain⟨⟨w,S1⟩,e1,e⟩:=An e
  obtain⟨es,ed,e⟩:=An e
  obtain⟨ks,ek,e⟩:=An e
  split at e
  .rename_i hz
   refine⟨M,E,S,w,S1,e1,r,st,λv H1 M1 g1 st1 d1=>?_⟩
   obtain⟨a,kvs,rfl,h,rk⟩:=Pa st1 d1 ed
   refine⟨a,kvs,M1,es.map (·.2),ks,rfl,h,L7 rk,ek,hz.2,hz.1,λq' p pl hq=>?_⟩
   have kl:=IC ek
   rw[Pk pl hz.2 kl.symm]at e
   have pb:∀i∈p,i<(es.map (·.2)).length:=λi hi=>by
    have:=pl.pm.mem_iff.mp hi
    rw[<-kl];simpa using this
   obtain⟨M2,g2,st2,d2⟩:=(Nw.lst st1.mo hq ((L7 rk).pl pb)).fin st1 e
   exact q _ _ M2 (g1.trans g2) st2 d2
  .cases e⟩
end Mi
end
noncomputable section
namespace L2
open PySem PySem.Spec PyProof.Rows
def Wr(ix:Wp (j6 Nat))(g:TG)(tc:TT)(tk tv:TE)(J:It)(σ:St)(H:Hp)(Q:VK):Prop:=
 ∀D,H D=none->∃W:Nat->Nat->St->Hp->Wp (Key×V)->Prop,(∃m,W 0 m (sig ix σ) (upd H D (.dK [])) [])/\∀i m σ H ys,W i m σ H ys->H D=Gc (.dK ys)/\
  ((J.stop i H/\Q (.ref D) H)\/(J.go i H/\ys.length<sizeLine/\∀x H',J.yld i H x H'->g x σ H' λσ2 H2=>tc σ2 H2 λb H3=>
    if b=true then tk σ2 H3 λk H4=>tv σ2 H4 λy H5=>∃kk,k=kV kk/\H5 D=Gc (.dK ys)/\∃m',m'<m/\W (i+1) m' σ2 (upd H5 D (.dK (putK ys kk y))) (putK ys kk y)else∃m',m'<m/\W (i+1) m' σ2 H3 ys))
noncomputable def WO(ix:Wp (j6 Nat))(wi:TI)(g:TG)(tc:TT)(tk tv:TE):TE:=λσ H Q=>wi σ H λJ H1=>Wr ix g tc tk tv J σ H1 Q
section
variable{X:Cx}{pins:Wp (j9×Obj)}{σ:St}{s₂:j5}{N':Wp Str}{ix:Wp (j6 Nat)}{scope:m9}{kx vx tg iter:ky}{ifs:Wp ky}{pos:Pos}{g:TG}{tc:TT}{tk tv:TE}
def XY(X:Cx)(N':Wp Str)(scope:m9)(tg:ky)(ifs:Wp ky)(kx vx:ky)(g:TG)(tc:TT)(tk tv:TE):Prop:=
 ∀(s:j5) (H:Hp) (fp:Wp j9),PG (Cm X N' scope s H fp) tg g/\PTs (Cm X N' scope s H fp) ifs tc/\PE (Cm X N' scope s H fp) kx tk/\PE (Cm X N' scope s H fp) vx tv
theorem QF {X' : Cx} {it : j9} {fp : Wp j9} {tn : Nat -> lD -> Prop} {J : It} {D : j9} {Q : VK} {R : uo -> j5 -> Prop} {W : Nat -> Nat -> St -> Hp -> Wp (Key × V) -> Prop} {s : j5} {e : Env} {n : Nat} (he : X'.env = e) (hx : X'.xe = fun _ _ => ou) (hcm : X'.calm = true) (T : Turn X'.prog X'.w X'.K tg J fp it tn) (hfp : ∀ H : Hp, (∀ b ∈ fp, H b = none) -> ∀ b ∈ fp, L0 X' [] H b) (hg : PG X' tg g) (ht : PTs X' ifs tc) (hk : PE X' kx tk) (hv : PE X' vx tv) (turn : ∀ i m σ H ys, W i m σ H ys -> H D = Gc (.dK ys) /\ ((J.stop i H /\ Q (.ref D) H) ∨ (J.go i H /\ ys.length < sizeLine /\ ∀ x H', J.yld i H x H' -> g x σ H' fun σ2 H2 => tc σ2 H2 fun b H3 =>
        if b = true then tk σ2 H3 fun k H4 => tv σ2 H4 fun y H5 => ∃ kk, k = kV kk /\ H5 D = Gc (.dK ys) /\ ∃ m', m' < m /\ W (i + 1) m' σ2 (upd H5 D (.dK (putK ys kk y))) (putK ys kk y) else ∃ m', m' < m /\ W (i + 1) m' σ2 H3 ys)))
    (hR : ∀ s' σ' H', Inv X' [] σ' H' s' -> Q (.ref D) H' -> R (.ok .next) s')
    (h0 : ∃ i σ' H' ys, Inv X' [] σ' H' s /\ tn i s.heap /\ (∀ b ∈ fp, H' b = none) /\ W i n σ' H' ys) :
    codeAny (model X'.prog X'.w) X'.A (.compLoop (.DictComp kx vx [⟨tg, iter, ifs, 0⟩] scope pos) 0 (.ref it) (.ref D) e) R s := by
  subst he
  refine yw rfl (fun n s => ∃ i σ' H' ys, Inv X' [] σ' H' s /\ tn i s.heap /\ (∀ b ∈ fp, H' b = none) /\ W i n σ' H' ys) (fun n s3 hI => ?_) n h0
  show wpAny _ X'.A ((compTurn (.DictComp kx vx [⟨tg, iter, ifs, 0⟩] scope pos) 0 (.ref it) (.ref D) X'.env).onRaise (fun x => do noteFrame x X'.env; theTreesLotGoes x)) _ _ s3
  refine wpAny_noted (PD ?_)
  rw [compTurn_dict]
  obtain ⟨i, σ3, H3, ys, I3, st3, fr3, w3⟩ := hI
  obtain ⟨hD, alt⟩ := turn i n σ3 H3 ys w3
  rcases alt with ⟨stop, q⟩ | ⟨go, hlen, step⟩
  · refine jy (nS (jy (thn (T.done X' rfl rfl rfl hcm i [] s3 σ3 H3 _ I3 (hfp H3 fr3) st3 stop) fun r s4 ⟨hr, I4⟩ => ?_)))
    subst hr
    exact j7 (hR s4 σ3 H3 I4 q)
  · refine jy (nS (jy (thn (T.item X' rfl rfl rfl hcm i [] s3 σ3 H3 _ I3 (hfp H3 fr3) st3 go) fun r s4 ⟨u, hr, h4⟩ => ?_)))
    subst hr
    refine jy (thn h4 fun _ s5 ⟨x, H5, I5, r5, y5, st5, fr5⟩ => ?_)
    have I5' := I5.pinned (hfp H5 fr5) (T.obj _ _ st5)
    have hg' := hg _ s5 σ3 H5 x u _ I5' r5 (step x H5 y5)
    rw [hx] at hg'
    refine jy (thn hg' fun _ s6 ⟨σ6, H6, I6, q6⟩ => ?_)
    have ht' := ht _ s6 σ6 H6 _ I6 q6
    rw [hx] at ht'
    refine jy (thn ht' fun ok s7 ⟨H7, I7, q7⟩ => ?_)
    have again : ∀ {s8 : j5} {H8 : Hp} {zs : Wp (Key × V)} {m' : Nat}, Inv X' ([] ++ Lk fp s5.heap) σ6 H8 s8 -> m' < n -> W (i + 1) m' σ6 H8 zs -> ∃ m, m < n /\ ∃ i σ' H' ys, Inv X' [] σ' H' s8 /\ tn i s8.heap /\ (∀ b ∈ fp, H' b = none) /\ W i m σ' H' ys := fun {s8 H8 zs m'} I8 hm w8 => by
      refine ⟨m', hm, i + 1, σ6, H8, zs, I8.Hy, T.keep _ _ _ st5 fun b hb o e => (I8.pin (b, o) (k9 _ (k9 _ (Ed hb e)))).1, fun b hb => ?_, w8⟩
      obtain ⟨o, e, d⟩ := T.obj _ _ st5 b hb
      exact (I8.pin (b, o) (k9 _ (k9 _ (Ed hb e)))).2.1
    cases ok with
    | false =>
      rw [ko (by decide)] at q7
      obtain ⟨m', hm, w7⟩ := q7
      exact j7 ⟨rfl, again I7 hm w7⟩
    | true =>
      rw [kh rfl] at q7
      have hk' := hk _ s7 σ6 H7 _ I7 q7
      rw [hx] at hk'
      refine jy (jy (thn hk' fun kv s8 ⟨k, H8, I8, r8, q8⟩ => ?_))
      have hv' := hv _ s8 σ6 H8 _ I8 q8
      rw [hx] at hv'
      refine jy (lM (thn hv' fun vv s9 ⟨y, H9, I9, r9, kk, ek, hD9, m', hm, w9⟩ => jy (nS (lM ?_))))
      subst ek
      obtain ⟨z, hsy, vs, rel, dd⟩ := Vc I9.hok hD9
      have hz : vs.length ≤ sizeLine := by rw [← rel.length]; exact z
      have hl : (putK ys kk y).length ≤ sizeLine := by have := Hf ys kk y; lia
      refine wpAny_dictSet_pairs (hsz := hz) (UG r8) dd fun h' dd' hs => j7 ?_
      have he : ∃ q, h'.get? D = Gc q := let ⟨q, _, _, hq, _⟩ := dd'; ⟨q, hq⟩
      exact ⟨rfl, again (OW I9 (by rw [hD9]; exact tE) hs he (Ww hl hsy (rel.put kk r9) dd')) hm w9⟩
theorem SF(hc:X.calm=true)(S:Ab X.N X.env.scope N' ix scope)(hb:XY X N' scope tg ifs kx vx g tc tk tv){it:j9}{fp:Wp j9}{tn:Nat->lD->Prop}{J:It}{H₂:Hp}{Q:VK}{E:j4->j5->Prop}{RR:j4->j9->uo->j5->Prop}(I2:Inv X pins σ H₂ s₂)(T:Turn X.prog X.w X.K tg J fp it tn)(st2:tn 0 s₂.heap)(f2:∀b∈fp,L0 X pins H₂ b)(hW:Wr ix g tc tk tv J σ H₂ Q)(hRR:∀D C H' s',Inv X pins σ H' s'->(∃m,s'.heap.Ns C m)->L0 X pins H' C->Q (.ref D) H'->RR (.ref D) C (.ok .next) s'):wpAny (model X.prog X.w) X.A newDict (λacc s₃=>wpAny (model X.prog X.w) X.A (newFunctionEnv scope X.env.globals (FY X.env.cells scope.names []) [] X.env.qual none .none (Gc X.env)) (λcenv s₄=>
  codeAny (model X.prog X.w) X.A (.compStart (.DictComp kx vx [⟨tg,iter,ifs,0⟩] scope pos) 0 (.ref it) acc {cenv with scope:=relabel scope X.env}) (RR acc cenv.locals) s₄) E s₃) E s₂:=by
 have hD0:H₂ s₂.heap.objs.size=none:=I2.hok.fresh (kA _)
 have hlt2:∀b∈fp,b<s₂.heap.objs.size:=λb hb=>by
  obtain⟨o,e,_⟩:=T.obj _ _ st2 b hb
  exact kL e
 refine lN (Fx (λh₁ hns₁ hsb₁ hcl₁=>?_))
 have I3:Inv X pins σ (upd H₂ s₂.heap.objs.size (.dK [])) {s₂ with heap:=s₂.heap.push {cls:=.type "dict",dict:=none,data:=.dict #[]}}:=
  I2.laid (t':=s₂.toks) (λb u e=>j0 _ e) (kA _) ⟨lX _,oP.mpr (l8 (kS I2.big)),[],.nil,wR s₂.heap⟩
 have f3:∀b∈fp,L0 X pins (upd H₂ s₂.heap.objs.size (.dK [])) b:=λb hb=>⟨by rw[AV (kS (hlt2 b hb))];exact(f2 b hb).1,(f2 b hb).2⟩
 have k3:∀b o,s₂.heap.get? b=Gc o->(s₂.heap.push {cls:=.type "dict",dict:=none,data:=.dict #[]}).get? b=Gc o:=λb o e=>j0 _ e
 dsimp only at hns₁ hsb₁ hcl₁⊢
 generalize hs3:({s₂ with heap:=s₂.heap.push {cls:=.type "dict",dict:=none,data:=.dict #[]}}:j5)=s₃ at I3
 have eh:s₂.heap.push {cls:=.type "dict",dict:=none,data:=.dict #[]}=s₃.heap:=by rw[<-hs3]
 have et:s₂.toks=s₃.toks:=by rw[<-hs3]
 have es:∀(h:lD) (t:Nat),({s₂ with heap:=h,toks:=t}:j5)={s₃ with heap:=h,toks:=t}:=λh t=>by rw[<-hs3]
 rw[eh]at hns₁ hsb₁ hcl₁ k3⊢
 have hlt3:∀b∈fp,b<s₃.heap.objs.size:=λb hb=>by
  obtain⟨o,e,_⟩:=T.obj _ _ st2 b hb
  exact kL (k3 b o e)
 have k4:∀b o,s₃.heap.get? b=Gc o->h₁.get? b=Gc o:=hsb₁
 obtain⟨W,⟨m0,w0⟩,turn⟩:=hW _ hD0
 have I4:∀tk,Inv (Cm X N' scope s₃ (upd H₂ s₂.heap.objs.size (.dK [])) fp) [] (sig ix σ) (upd H₂ s₂.heap.objs.size (.dK [])) {s₃ with heap:=h₁,toks:=tk}:=λtk=>Pb S hc I3 f3 hlt3 hns₁ k4 hcl₁
 have st4:tn 0 h₁:=T.keep _ _ _ st2 λb hb o e=>k4 b o (k3 b o e)
 obtain⟨bg,bt,bk,bv⟩:=hb s₃ (upd H₂ s₂.heap.objs.size (.dK [])) fp
 have noX:∀(H:Hp),(∀b∈fp,H b=none)->∀b∈fp,L0 (Cm X N' scope s₃ (upd H₂ s₂.heap.objs.size (.dK [])) fp) [] H b:=λH hn b hb=>by
  obtain⟨_,h2,h3⟩:=f3 b hb
  refine⟨hn b hb,kS (hlt3 b hb),λhs=>(I4 0).ok.Yt b hb hs,.inl hb,λx c h=>?_,λp hp=>absurd (show p∈([]:Wp (j9×Obj))from hp) (by simp)⟩
  exact((I4 0).ok.exf b hb).2 x c h
 have fin:∀(s':j5) (σ':St) (H':Hp),Inv (Cm X N' scope s₃ (upd H₂ s₂.heap.objs.size (.dK [])) fp) [] σ' H' s'->Q (.ref s₂.heap.objs.size) H'->RR (.ref s₂.heap.objs.size) s₃.heap.objs.size (.ok .next) s':=λs' σ' H' I' q=>by
  refine hRR _ _ H' s' ?_ (let⟨m,hn,_⟩:=I'.loc;⟨m,hn⟩) (I3.WV (kA _) I'.free) q
  exact I3.bH I'.os I'.base I'.hok I'.bare λb hb=>⟨(f3 b hb).2.2.2.1,(f3 b hb).2.1,(f3 b hb).2.2.2.2.1,(f3 b hb).2.2.2.2.2⟩
 have loop:∀tk,codeAny (model X.prog X.w) X.A (.compLoop (.DictComp kx vx [⟨tg,iter,ifs,0⟩] scope pos) 0 (.ref it) (.ref s₂.heap.objs.size) (compEnvC scope (cellsFrom (s₃.heap.objs.size+1) scope.names (FY X.env.cells scope.names [])) s₃.heap.objs.size X.env)) (RR (.ref s₂.heap.objs.size) s₃.heap.objs.size) {s₃ with heap:=h₁,toks:=tk}:=λtk=>
  QF (X':=Cm X N' scope s₃ (upd H₂ s₂.heap.objs.size (.dK [])) fp) (D:=s₂.heap.objs.size) (Q:=Q) (W:=W) rfl rfl rfl T noX bg bt bk bv turn fin ⟨0,_,_,_,I4 tk,st4,λb hb=>(f3 b hb).1,w0⟩
 rw[es]
 exact codeAny_compStart_dict (loop _) (T.self _ 0 _ _ _ st4 (loop _))
theorem Tx{wi:TI}(hc:X.calm=true)(S:Ab X.N X.env.scope N' ix scope)(hi:PI X tg iter wi)(hb:XY X N' scope tg ifs kx vx g tc tk tv)(hs:∀x,foldedSetIterable iter X.env x=pure x:=by intro _;rfl):PE X (.DictComp kx vx [⟨tg,iter,ifs,0⟩] scope pos) (WO ix wi g tc tk tv):=by
 intro pins s σ H Q I h
 rw[arm_eval_DictComp]
 refine pq (use:=none) rfl hs (Mf (I.cellsOf S)) S.kind S.names (thn (hi pins s σ H _ I h) λv s1 h1=>thn h1 λitv s2 h2=>?_)
 obtain⟨it,fp,tn,J,H2,e,I2,T,st2,f2,hW⟩:=h2
 subst e
 refine SF (RR:=λacc C=>compPost (model X.prog X.w) X.A X.xe none (EP X pins σ Q) acc C) hc S hb I2 T st2 f2 hW ?_
 intro D C H' s' I' hm hC q
 obtain⟨m,hm⟩:=hm
 refine⟨m,hm,λh' hs'=>⟨.ref D,H',I'.turned (it:=C) (t':=s'.toks) (λb o hb e=>hs'.extBut b o hb e) hC.1 hC.2.1 hC.2.2.2.1 hC.2.2.2.2.1 hC.2.2.2.2.2,rfl,q⟩⟩
end
end L2
end
noncomputable section
namespace Mi
open PySem PySem.Spec L2
open Classical in
def GP(gs:Gd)(t:Tf)(c fk fv:Ev):Wp D->Wp (Key×D)->En->Sto->j6 (Wp (Key×D)×Sto)
 | [],acc,_,S=>if gOk gs S then Gc (acc,S)else none
 |d::ds,acc,E,S=>if gOk gs S then(if acc.length<sizeLine then(t d E S).bind λE1=>(c E1 S).bind λr=>match r.1 with
   | .bl true=>(fk E1 r.2).bind λp=>(fv E1 p.2).bind λq=>(UY p.1).bind λk=>GP gs t c fk fv ds (putD acc k q.1) E1 q.2
   | .bl false=>GP gs t c fk fv ds acc E1 r.2
   |_=>none
  else none)else none
def Nl(cf:lA)(cap:Wp Nat)(m:Nat)(s:Sr)(t:Tf)(c fk fv:Ev):Ev:=λE S=>(s E S).bind λr=>(GP r.1.2 t c fk fv r.1.1 [] (Qt cap m E) r.2).map λq=>QU cf q.1 q.2
section
variable{K:jz}{M M' M2:Ms}{H H' H2:Hp}{S:Sto}
theorem StR.VY(r:StR K M S H){a:j9}{ys:Wp (Key×V)}(ha:a∈M.tmp):StR K M S (upd H a (.dK ys))/\Sp1 M H M (upd H a (.dK ys)):=by
 have s1:Sp1 M H M (upd H a (.dK ys)):=⟨r.mo,lT,λb z=>.inl z,λb o eb nb=>by rw[AV (λz=>nb (by rw[z];exact .inr ha))];exact eb⟩
 refine⟨⟨λb z=>?_,r.nd,r.nt,r.len,λn b c h1 h2=>?_⟩,s1⟩
 .by_cases h:b=a
  .subst h;exact .inr (.inl ⟨ys,As⟩)
  .rw[AV h];exact r.mo b z
 .have hb:b≠a:=λz=>r.nt a ha (by rw[<-z];exact kW h1)
  have q:=r.cell n b c h1 h2
  cases c with
  |lst ds=>obtain⟨xs,e,rr⟩:=q;exact⟨xs,by rw[AV hb];exact e,rr.step s1⟩
  |dct ds=>obtain⟨xs,e,rr⟩:=q;exact⟨xs,by rw[AV hb];exact e,rr.step s1⟩
  |tab ds=>obtain⟨xs,e,rr⟩:=q;exact⟨xs,by rw[AV hb];exact e,rr.step s1⟩
end
theorem V1{K:jz}{cf:lA}{cap:Wp Nat}{m:Nat}{s:Sr}{t:Tf}{c fk fv:Ev}{σ:Sg}{H:Hp}{Q:VK}(h:tD K (Nl cf cap m s t c fk fv) σ H Q):WO (ixC cap m) (tI K s) (tG K t) (tDT K c) (tD K fk) (tD K fv) σ H Q:=by
 obtain⟨M,E,S,d,S',e,r,st,q⟩:=h
 obtain⟨⟨⟨ds,gs⟩,S1⟩,e1,e⟩:=An e
 obtain⟨⟨accf,Sf⟩,e3,e⟩:=Ir e
 dsimp only at e e3
 refine⟨M,E,S,ds,gs,S1,e1,r,st,λJ H1 M1 g1 st1 it A0 hD=>?_⟩
 obtain⟨st0,s0⟩:=st1.dn hD
 have gx0:GrX M1 H1 ⟨M1.cel,A0::M1.tmp⟩ (upd H1 A0 (.dK [])):=⟨lT,λa z=>.inl z,λa o eo _=>FF hD a o eo,λa ea=>by
  by_cases h:a=A0
  .subst h;rw[As];intro z;cases z
  .rw[AV h];exact ea⟩
 have nt:A0∉M1.tmp:=λz=>st1.mo.some (.inr z) hD
 refine⟨λi mm σ' H' ys=>mm=ds.length-i/\∃Ei Si Mi acc,GP gs t c fk fv (ds.drop i) acc Ei Si=Gc (accf,Sf)/\GrX M1 H1 Mi H'/\Mi.tmp=A0::M1.tmp/\EnR K Mi Ei σ' H'/\StR K Mi Si H'/\H' A0=Gc (.dK ys)/\Bm K Mi H' ys acc,
  ⟨_,rfl,_,S1,_,[],e3,gx0,rfl,((r.step g1.st).step s0).cap cap m,st0,As,.nil⟩,λi mm σ2 H2 ys hW=>?_⟩
 obtain⟨rfl,Ei,Si,Mi,acc,ec,gx,ht,r2,st2,hy,ry⟩:=hW
 have sp:Sp1 M1 H1 Mi H2:=⟨st1.mo,gx.pre,λa z=>by
  rcases z with z|z
  .exact(gx.fresh a z).imp .inl id
  .rw[ht]at z
   rcases kG.mp z with z|z
   .subst z;exact .inr hD
   .exact .inl (.inr z),λa o eo no=>gx.keep a o eo λz=>no (.inl z)⟩
 refine⟨hy,?_⟩
 cases ed:ds.drop i with
 |nil=>
  rw[ed]at ec
  unfold GP at ec
  split at ec
  .rename_i ok
   cases ec
   left
   obtain⟨ci,ti⟩:=Mi
   have ht':ti=A0::M1.tmp:=ht
   subst ht'
   obtain⟨c',st',rd',pr',sub'⟩:=st2.gE cf nt ry
   rw[e]at st' rd'
   have eH:upd H2 A0 (.dK ys)=H2:=by
    funext b
    by_cases h:b=A0
    .rw[h,As,hy]
    .rw[AV h]
   rw[eH]at st' rd'
   refine⟨it.stop i H2 _ _ sp st2 ok (pM.mp ed),q _ _ ⟨c',M1.tmp⟩ (g1.trans ⟨st1.mo,gx.pre.trans pr',rfl,λa z=>?_,gx.keep,gx.some⟩) st' rd'⟩
   rcases sub' a z with z|z
   .exact gx.fresh a z
   .subst z;exact .inr hD
  .cases ec
 |cons d rest=>
  obtain⟨d1,d2,d3⟩:=Ho ed
  rw[ed]at ec
  unfold GP at ec
  split at ec
  .rename_i ok
   split at ec
   .rename_i hz
    obtain⟨E3,e4,ec⟩:=An ec
    obtain⟨⟨w5,S5⟩,e5,ec⟩:=An ec
    right
    refine⟨it.go i H2 Mi Si sp st2 ok d3,by rw[ry.length];exact hz,λx H3 hyl=>?_⟩
    obtain⟨k3,rx⟩:=it.yld i H2 Mi Si x H3 d sp st2 ok d1 hyl
    have g3:Gr Mi H2 Mi H3:=.grow st2.mo k3
    have st3:=st2.grow k3
    refine⟨Mi,d,Ei,E3,Si,e4,r2.step g3.st,st3,rx,λσ4 r4=>?_⟩
    have hA:A0∈Mi.tmp:=by rw[ht];exact kJ
    have hy3:H3 A0=Gc (.dK ys):=k3 _ _ hy
    have ry3:Bm K Mi H3 ys acc:=ry.step g3.st
    have fin:∀{E6:En} {S6:Sto} {M6:Ms} {H6:Hp} {zs:Wp (Key×V)} {acc6:Wp (Key×D)},GP gs t c fk fv rest acc6 E6 S6=Gc (accf,Sf)->GrX M1 H1 M6 H6->M6.tmp=A0::M1.tmp->EnR K M6 E6 σ4 H6->StR K M6 S6 H6->H6 A0=Gc (.dK zs)->Bm K M6 H6 zs acc6->
      ∃m',m'<ds.length-i/\(m'=ds.length-(i+1)/\∃Ei Si Mi acc,GP gs t c fk fv (ds.drop (i+1)) acc Ei Si=Gc (accf,Sf)/\GrX M1 H1 Mi H6/\Mi.tmp=A0::M1.tmp/\EnR K Mi Ei σ4 H6/\StR K Mi Si H6/\H6 A0=Gc (.dK zs)/\Bm K Mi H6 zs acc):=
     λ{E6 S6 M6 H6 zs acc6} ec g6 t6 r6 st6 h6 y6=>⟨_,by lia,rfl,E6,S6,M6,acc6,by rw[d2];exact ec,g6,t6,r6,st6,h6,y6⟩
    dsimp only at ec
    split at ec
    .obtain⟨⟨w7,S7⟩,e7,ec⟩:=An ec
     obtain⟨⟨w9,S9⟩,e9,ec⟩:=An ec
     obtain⟨kk,ek,ec⟩:=An ec
     refine⟨Mi,E3,Si,true,S5,e5,r4,st3,λH5 M5 g5 st5=>?_⟩
     refine Vw ?_
     refine⟨M5,E3,S5,w7,S7,e7,r4.step g5.st,st5,λy H7 M7 g7 st7 d7=>?_⟩
     refine⟨M7,E3,S7,w9,S9,e9,(r4.step g5.st).step g7.st,st7,λy9 H9 M9 g9 st9 d9=>?_⟩
     have nA:∀{M6:Ms} {H6:Hp} {S6:Sto},StR K M6 S6 H6->A0∈M6.tmp->A0∉M6.cel:=λr6 h6=>r6.nt A0 h6
     have hA5:A0∈M5.tmp:=by rw[g5.tmp];exact hA
     have hA7:A0∈M7.tmp:=by rw[g7.tmp];exact hA5
     have hA9:A0∈M9.tmp:=by rw[g9.tmp];exact hA7
     have hy5:H5 A0=Gc (.dK ys):=g5.keep _ _ hy3 (nA st3 hA)
     have hy7:H7 A0=Gc (.dK ys):=g7.keep _ _ hy5 (nA st5 hA5)
     have hy9:H9 A0=Gc (.dK ys):=g9.keep _ _ hy7 (nA st7 hA7)
     have ry9:Bm K M9 H9 ys acc:=((ry3.step g5.st).step g7.st).step g9.st
     refine⟨kk,Rh d7 ek,hy9,?_⟩
     obtain⟨st8,s8⟩:=st9.VY (ys:=putK ys kk y9) hA9
     have gx7:GrX M1 H1 M9 H9:=(((gx.trans g3.x).trans g5.x).trans g7.x).trans g9.x
     have gx8:GrX M1 H1 M9 (upd H9 A0 (.dK (putK ys kk y9))):=⟨gx7.pre,gx7.fresh,λa o eo no=>by
      rw[AV (λz=>by subst z;rw[hD]at eo;cases eo)]
      exact gx7.keep a o eo no,λa ea=>by
      by_cases h:a=A0
      .subst h;rw[As];intro z;cases z
      .rw[AV h];exact gx7.some a ea⟩
     exact fin ec gx8 (by rw[g9.tmp,g7.tmp,g5.tmp];exact ht) ((((r4.step g5.st).step g7.st).step g9.st).step s8) st8 As ((ry9.put d9).step s8)
    .refine⟨Mi,E3,Si,false,S5,e5,r4,st3,λH5 M5 g5 st5=>?_⟩
     refine Uk ?_
     exact fin ec ((gx.trans g3.x).trans g5.x) (by rw[g5.tmp];exact ht) (r4.step g5.st) st5 (g5.keep _ _ hy3 (st3.nt A0 hA)) (ry3.step g5.st)
    .cases ec
   .cases ec
  .cases ec
noncomputable def jJ:lY->Wp m9
 | .Assign _ (.DictComp _ _ gs s _) _=>s::gs.flatMap λg=>scE 29 g.iter
 |st=>scS 20 st
noncomputable def Vd(st:lY)(k:Nat):m9:=((EN st).flatMap jJ).getD k (AK st)
section
variable{X:Cx}{N':Wp Str}{cf:lA}{scope:m9}{kx vx tg iter:ky}{ifs:Wp ky}{pos:Pos}{s:Sr}{t:Tf}{c fk fv:Ev}
theorem Pf(cap:Wp Nat)(m:Nat)(N':Wp Str)(hc:X.calm=true)(S:Ab X.N X.env.scope N' (ixC cap m) scope)(hi:DI X tg iter s)(hb:∀(s:j5) (H:Hp) (fp:Wp j9),DG (Cm X N' scope s H fp) tg t/\DTs (Cm X N' scope s H fp) ifs c/\DE (Cm X N' scope s H fp) kx fk/\DE (Cm X N' scope s H fp) vx fv)(hs:∀x,foldedSetIterable iter X.env x=pure x:=by intro _;rfl):DE X (.DictComp kx vx [⟨tg,iter,ifs,0⟩] scope pos) (Nl cf cap m s t c fk fv):=⟨
 BW (Tx hc S hi.pe (λs H fp=>⟨(hb s H fp).1.pe,(hb s H fp).2.1.pe,(hb s H fp).2.2.1.pe,(hb s H fp).2.2.2.pe⟩) hs) λσ H Q z=>V1 z⟩
end
section
open PyProof.Rows (boot_isinstance boot_int boot_bool boot_tuple boot_str boot_list boot_abs boot_all boot_any boot_sum boot_max boot_min boot_range boot_enumerate boot_zip boot_sorted boot_set boot_divmod)
def HA:Ex:=(Bv (Ja (eOp (o2 wLt) [eV 1,eOp (o1 HC) [eV 0]]) (eOp (o2 wGe) [eIx (eIx (eV 0) (eV 1)) (eI 1),eV 2])))
def Bz:Fn:=BU (BV 3 HA)
def JT:Ex:=(Bv (Ja (AJ Bz [eV 0,eV 1,eI 1]) (Ja (AJ Bz [eV 0,eV 2,eI 1]) (eOp (o2 wEq) [eIx (eIx (eV 0) (eV 1)) (eI 0),eIx (eIx (eV 0) (eV 2)) (eI 0)]))))
def FJ:Fn:=BU (BV 3 JT)
def JN:Ex:=(Bv (Ja (AJ Bz [eV 0,eV 1,eV 2]) (eOp (o2 wNe) [eIx (eIx (eV 0) (eV 1)) (eI 0),eV 3])))
def EF:Fn:=BU (BV 4 JN)
def DP:Ex:=(AW (A4 3 (eIx (eV 2) (eI 0)))
    (AW (xIf (eOp (o2 wEq) [eV 3,eC (.str "pool")]) (Bv (AJ FJ [eV 0,eIx (eV 2) (eI 1),eIx (eV 2) (eI 2)])) Cw)
    (AW (xIf (eOp (o2 wEq) [eV 3,eC (.str "swap")]) (Bv (AJ EF [eV 0,eIx (eV 2) (eI 1),eIx (eV 2) (eI 2),eIx (eV 2) (eI 3)])) Cw)
    (AW (xIf (eOp (o2 wEq) [eV 3,eC (.str "trade")]) (AW (A4 4 (Dx [] 1 (GU (eV 1)) (tNm 0) (eOp (o2 wEq) [eIx (eV 0) (eI 0),eC (.str "trade")]) (eIx (eV 0) (eI 1))))
    (Bv (Ja (eOp (o2 (wIn true)) [eIx (eV 2) (eI 1),eV 4]) (AJ EF [eV 0,eIx (eV 2) (eI 2),eIx (eV 2) (eI 3),eIx (eV 2) (eI 4)])))) Cw)
    (AW (xIf (eOp (o2 (wIn false)) [eV 3,Bi [eC (.str "spoil"),eC (.str "throw")]]) (Bv (AJ Bz [eV 0,eIx (eV 2) (eI 1),eIx (eV 2) (eI 2)])) Cw)
    (Bv (eC (.bl true))))))))
def CH:Fn:=BU (BV 5 DP)
def GH:Ex:=(AW (NT (tTp [tNm 3,tNm 4]) (eIx (eV 0) (eV 1)))
    (Bv (eOp (o2 CO) [eOp (o2 CO) [eOp (Hj false true) [eV 0,eV 1],HI [Bi [eV 3,eOp (o2 NS) [eV 4,eV 2]]]],eOp (Hj true false) [eV 0,eOp (o2 CO) [eV 1,eI 1]]])))
def BS:Fn:=BU (BV 5 GH)
def BN:Ex:=(AW (A4 2 (eIx (eV 1) (eI 0)))
    (AW (xIf (eOp (o2 wEq) [eV 2,eC (.str "bring")]) (Bv (eOp (o2 CO) [eV 0,HI [Bi [eIx (eV 1) (eI 2),eIx (eV 1) (eI 3)]]])) Cw)
    (AW (xIf (eOp (o2 wEq) [eV 2,eC (.str "pool")]) (AW (NT (tTp [tNm 3,tNm 4]) (eIx (eV 0) (eIx (eV 1) (eI 1))))
    (AW (A4 5 (eIx (eIx (eV 0) (eIx (eV 1) (eI 2))) (eI 1)))
    (Bv (eOp (o2 CO) [AJ BS [AJ BS [eV 0,eIx (eV 1) (eI 1),eV 4],eIx (eV 1) (eI 2),eV 5],HI [Bi [eV 3,eOp (o2 CO) [eV 4,eV 5]]]])))) Cw)
    (AW (xIf (eOp (o2 (wIn false)) [eV 2,Bi [eC (.str "swap"),eC (.str "trade")]]) (AW (NT (tTp [tNm 6,tNm 7,tNm 3,tNm 8]) (eOp (Hj true false) [eV 1,eOp (o1 XT) [eI 4]]))
    (Bv (eOp (o2 CO) [AJ BS [eV 0,eV 6,eV 7],HI [Bi [eV 3,eV 8]]]))) Cw)
    (AW (xIf (eOp (o2 (wIn false)) [eV 2,Bi [eC (.str "spoil"),eC (.str "throw")]]) (Bv (AJ BS [eV 0,eIx (eV 1) (eI 1),eIx (eV 1) (eI 2)])) Cw)
    (Bv (eV 0)))))))
def Ap:Fn:=BU (BV 9 BN)
def F0:Ex:=(Bv (Dx [] 1 (GU (eIx (eV 0) (eI 1))) (tNm 0) Dl (Bi [eIx (eV 0) (eI 0),eIx (eV 0) (eI 1)])))
def CD:Fn:=BU (BV 1 F0)
def Ga:Ex:=(AW (A4 1 (AJ CD [eV 0]))
    (AW (A4 2 (eIx (eV 0) (eI 2)))
    (AW (HH (Xo (eV 2)) (tTp [tNm 3,tNm 4]) (AW (xIf (cU (AJ CH [eV 1,eOp (Hj false true) [eV 2,eV 3],eV 4])) (Bv (eV 3)) Cw)
    (A4 1 (AJ Ap [eV 1,eV 4]))))
    (Bv (eC .non)))))
def DU:Fn:=BU (BV 5 Ga)
def Fz:Ex:=(AW (A4 1 (AJ DU [eV 0]))
    (xIf (eOp (o2 (OE true)) [eV 1,eC .non]) Wl Cw))
def Bb:Fn:=BU (BV 2 Fz)
def F9:Ex:=(AW (xIf (eOp (o2 wLt) [eV 1,eOp (o1 HC) [eV 0]]) (Bv (eIx (eV 0) (eV 1))) Cw)
    (Bv (eI 0)))
def Ct:Fn:=BU (BV 2 F9)
def Nh:Ex:=(Bv (GS [eV 0,eOp (o1 Um) [eOp (o2 wGe) [eV 0,eOp (o2 cE) [eI 10,eI 18]]],eI 0,eOp (o2 OG) [eV 0,eI 1000000007]]))
def Gm:Fn:=BU (BV 1 Nh)
def Gz:Ex:=(AW (xIf (Ja (eOp (o2 wEq) [eIx (eV 0) (eI 1),eI 1]) (eOp (o2 wGt) [eIx (eV 0) (eI 0),eI 0])) (AW (A4 2 (eOp (o2 OG) [eIx (eV 0) (eI 0),eV 1]))
    (AW (NG (eOp (o2 OJ) [eIx (eV 0) (eI 0),eV 1]) (eV 0) (eI 0))
    (Bv (eV 2)))) Cw)
    (AW (NG (eOp (o2 CO) [eIx (eV 0) (eI 2),eI 1]) (eV 0) (eI 2))
    (AW (A4 3 (eOp (o2 OG) [eOp (o2 F4) [eOp (o2 CO) [eIx (eV 0) (eI 3),eI 17],eOp (o2 CO) [eI 69621,eOp (o2 F4) [eI 2,eIx (eV 0) (eI 2)]]],eI 2147483647]))
    (AW (A4 3 (eOp (o2 OG) [eOp (o2 CO) [eOp (o2 CO) [eOp (o2 F4) [eV 3,eV 3],eOp (o2 F4) [eI 40503,eIx (eV 0) (eI 2)]],eI 5],eI 2147483629]))
    (Bv (eOp (o2 OG) [eOp (o2 OJ) [eOp (o2 OG) [eOp (o2 F4) [eV 3,eI 48271],eI 2147483647],eI 32],eV 1]))))))
def AH:Fn:=BU (BV 4 Gz)
def JR:Ex:=(AW (RG (X3 1) (eOp (o2 wGt) [eV 1,eI 0]) (QQ 0 1 (eV 1) (eOp (o2 OG) [eV 0,eV 1])))
    (Bv (eV 0)))
def FD:Fn:=BU (BV 2 JR)
def Ly:Ex:=(AW (A4 2 (AJ FD [eOp (o1 cH) [eV 0],eV 1]))
    (Bv (Bi [eOp (o2 OJ) [eV 0,eV 2],eOp (o2 OJ) [eV 1,eV 2]])))
def Bc:Fn:=BU (BV 3 Ly)
def LZ:Ex:=(Bv (AJ Bc [eOp (o2 CO) [eOp (o2 F4) [eIx (eV 0) (eI 0),eIx (eV 1) (eI 1)],eOp (o2 F4) [eIx (eV 1) (eI 0),eIx (eV 0) (eI 1)]],eOp (o2 F4) [eIx (eV 0) (eI 1),eIx (eV 1) (eI 1)]]))
def CJ:Fn:=BU (BV 2 LZ)
def KH:Ex:=(Bv (AJ Bc [eOp (o2 F4) [eIx (eV 0) (eI 0),eIx (eV 1) (eI 0)],eOp (o2 F4) [eIx (eV 0) (eI 1),eIx (eV 1) (eI 1)]]))
def Aw:Fn:=BU (BV 2 KH)
def LS:Ex:=(Bv (AJ CJ [eV 0,Bi [eOp (o2 NS) [eI 0,eIx (eV 1) (eI 0)],eIx (eV 1) (eI 1)]]))
def DH:Fn:=BU (BV 2 LS)
def Hg:Ex:=(AW (A4 2 (WT [0] 1 (Lx [eV 1]) (tNm 1) Dl (eIx (HI [eI 0,eI 1,AJ AH [eV 0,eI 4],AJ AH [eV 0,eI 9]]) (AJ AH [eV 0,eI 4]))))
    (AW (xIf (eOp (o2 wEq) [eOp (o1 We) [eV 2],eI 0]) (NG (eI 1) (eV 2) (AJ AH [eV 0,eV 1])) Cw)
    (Bv (eOp (o1 Cv) [Dx [2] 1 (GU (eV 2)) (tNm 1) Dl (AJ Bc [eV 1,eOp (o1 We) [eV 0]])]))))
def DA:Fn:=BU (BV 3 Hg)
def GX:Ex:=(AW (A4 1 (eOp (o2 CO) [eOp (o2 cE) [eI 10,eI 30],AJ AH [eV 0,eI 99]]))
    (Bv (eIx (HI [eOp (o2 CO) [eI 1,AJ AH [eV 0,eI 4]],eOp (o2 CO) [eI 1,AJ AH [eV 0,eI 40]],eOp (o2 CO) [eI 1,AJ AH [eV 0,eI 999]],eV 1]) (eOp (o2 OJ) [AJ AH [eV 0,eI 7],eI 2]))))
def A8:Fn:=BU (BV 2 GX)
def Ks:Ex:=(AW (QQ 1 2 (eOp (o2 CO) [eI 1,AJ AH [eV 0,eI 4]]) (eOp (o2 CO) [eI 1,AJ AH [eV 0,eI 5]]))
    (AW (A4 3 (eIx (HI [eOp (o2 CO) [eI 1,AJ AH [eV 0,eI 3]],eOp (o2 CO) [eI 1,AJ AH [eV 0,eI 20]]]) (AJ AH [eV 0,eI 2])))
    (Bv (Bi [eV 1,eV 2,eV 3,AJ DA [eV 0,eV 1],AJ AH [eV 0,eI 10],AJ AH [eV 0,eI 10]]))))
def F1:Fn:=BU (BV 4 Ks)
def K0:Ex:=(AW (A4 2 (GS []))
    (AW (HH (Lx [eIx (HI [eI 0,eI 1,AJ AH [eV 0,eI 5]]) (AJ AH [eV 0,eI 3])]) (tNm 3) (By (Hz IZ (eV 2) [Bi [AJ AH [eV 0,eIx (eV 1) (eI 1)],AJ A8 [eV 0],AJ DA [eV 0,eIx (eV 1) (eI 0)]]])))
    (Bv (eOp (o1 Cv) [eV 2]))))
def F5:Fn:=BU (BV 4 K0)
def K5:Ex:=(AW (A4 1 (eOp (o2 CO) [eI 1,AJ AH [eV 0,eI 12]]))
    (Bv (AJ Bc [eOp (o2 CO) [eI 1,AJ AH [eV 0,eV 1]],eV 1])))
def E7:Fn:=BU (BV 2 K5)
def JV:Ex:=(Bv (eOp (o1 Cv) [Dx [0] 1 (Lx [eV 1]) (tNm 1) Dl (eOp (o2 CO) [eI 1,eIx (HI [AJ AH [eV 0,eI 3],AJ AH [eV 0,eI 99]]) (AJ AH [eV 0,eI 2])])]))
def DJ:Fn:=BU (BV 2 JV)
def KA:Ex:=(Bv (GS [WT [] 1 (GU (eIx (eV 0) (eI 1))) (tNm 0) Dl (ZO (o1 Om) [eV 0]),eOp (o1 Cv) [eIx (eIx (eV 0) (eI 0)) (eI 3)],GS []]))
def Cn:Fn:=BU (BV 1 KA)
def JQ:Ex:=(AW (A4 2 (GS []))
    (AW (HH (Zx (eIx (eV 0) (eI 2)) (eIx (eV 1) (eI 2))) (tTp [tNm 3,tNm 4]) (AW (A4 5 (AJ CJ [AJ Aw [Bi [eIx (eV 0) (eI 1),eI 1],eV 3],AJ Aw [Bi [eIx (eV 1) (eI 1),eI 1],eV 4]]))
    (By (Hz IZ (eV 2) [AJ Aw [eV 5,AJ Bc [eI 1,eOp (o2 CO) [eIx (eV 0) (eI 1),eIx (eV 1) (eI 1)]]]]))))
    (Bv (eOp (o1 Cv) [eV 2]))))
def FP:Fn:=BU (BV 6 JQ)
def L5:Ex:=(AW (A4 3 (eIx (eV 2) (eI 3)))
    (AW (A4 4 (eOp (o2 CO) [eOp (o1 We) [Dx [3] 3 (GU (eV 1)) (tTp [tNm 1,tNm 2,tNm 3]) Dl (eOp (o2 F4) [eV 2,eIx (eV 0) (eV 1)])],eOp (o2 F4) [eIx (eV 0) (eI 2),eIx (eV 3) (eOp (o1 XT) [eI 1])]]))
    (Bv (AJ Bc [eOp (o2 F4) [eIx (eV 2) (eI 2),eIx (eV 3) (eIx (eIx (eV 1) (eIx (eV 2) (eI 1))) (eI 0))],eV 4]))))
def Gx:Fn:=BU (BV 5 L5)
def Kb:Ex:=(AW (A4 3 (GS []))
    (AW (HH (Zx (eV 0) (eV 2)) (tTp [tNm 4,tNm 5]) (By (Hz IZ (eV 3) [AJ CJ [AJ Aw [eV 4,AJ DH [Bi [eI 1,eI 1],eV 1]],AJ Aw [eV 5,eV 1]]])))
    (Bv (eOp (o1 Cv) [eV 3]))))
def Dq:Fn:=BU (BV 6 Kb)
def Lf:Ex:=(AW (A4 2 (ZO (o1 Om) [eV 0]))
    (AW (A4 3 (AJ Aw [eIx (eV 2) (eIx (eV 1) (eI 1)),eIx (eV 1) (eI 3)]))
    (AW (NG (AJ DH [eIx (eV 2) (eIx (eV 1) (eI 1)),eV 3]) (eV 2) (eIx (eV 1) (eI 1)))
    (AW (NG (AJ CJ [eIx (eV 2) (eIx (eV 1) (eI 2)),eV 3]) (eV 2) (eIx (eV 1) (eI 2)))
    (Bv (eOp (o1 Cv) [eV 2]))))))
def Eb:Fn:=BU (BV 4 Lf)
def Ih:Ex:=(AW (NT (tTp [tNm 3,tNm 4,tNm 5]) (eV 1))
    (xIf (eOp (o2 wEq) [eIx (eV 2) (eI 0),eC (.str "throw")]) (AW (QQ 6 7 (AJ Gx [eV 0,eV 3,eV 2]) (eIx (eIx (eV 3) (eIx (eV 2) (eI 1))) (eI 2)))
    (AW (NG (eOp (o2 NS) [eIx (eIx (eV 3) (eIx (eV 2) (eI 1))) (eI 1),eIx (eV 2) (eI 2)]) (eIx (eV 3) (eIx (eV 2) (eI 1))) (eI 1))
    (AW (HH (GU (eV 3)) (tNm 8) (NG (AJ Dq [eIx (eV 8) (eI 2),eV 6,eV 7]) (eV 8) (eI 2)))
    (NG (AJ Dq [eV 4,eV 6,eV 7]) (eV 1) (eI 1))))) (AW (HH (GU (eV 3)) (tNm 8) (NG (AJ Eb [eIx (eV 8) (eI 2),eV 2]) (eV 8) (eI 2)))
    (NG (AJ Eb [eV 4,eV 2]) (eV 1) (eI 1)))))
def Ea:Fn:=BU (BV 9 Ih)
def FU:Ex:=(AW (NT (tTp [tNm 3,tNm 4,tNm 5]) (eV 1))
    (AW (A4 6 (eIx (eV 2) (eI 0)))
    (xIf (eOp (o2 wEq) [eV 6,eC (.str "bring")]) (By (Hz IZ (eV 3) [GS [eIx (eV 2) (eI 2),eIx (eV 2) (eI 3),eOp (o1 Cv) [Dx [2] 1 (Lx [eIx (eV 0) (eI 0)]) (tNm 1) Dl (Bi [eOp (o1 Um) [eOp (o2 wEq) [eV 1,eIx (eV 0) (eI 1)]],eI 1])]]])) (xIf (eOp (o2 wEq) [eV 6,eC (.str "pool")]) (AW (QQ 7 8 (eIx (eV 3) (eIx (eV 2) (eI 1))) (eIx (eV 3) (eIx (eV 2) (eI 2))))
    (AW (By (Hz IZ (eV 3) [GS [eIx (eV 7) (eI 0),eOp (o2 CO) [eIx (eV 7) (eI 1),eIx (eV 8) (eI 1)],AJ FP [eV 7,eV 8]]]))
    (AW (NG (eI 0) (eV 7) (eI 1))
    (NG (eI 0) (eV 8) (eI 1))))) (xIf (eOp (o2 (wIn false)) [eV 6,Bi [eC (.str "swap"),eC (.str "trade")]]) (AW (NT (tTp [tNm 9,tNm 10,tNm 11,tNm 12]) (eOp (Hj true false) [eV 2,eOp (o1 XT) [eI 4]]))
    (AW (NG (eOp (o2 NS) [eIx (eIx (eV 3) (eV 9)) (eI 1),eV 10]) (eIx (eV 3) (eV 9)) (eI 1))
    (AW (By (Hz IZ (eV 3) [GS [eV 11,eV 12,eIx (eIx (eV 3) (eV 9)) (eI 2)]]))
    (By (Hz cC (eV 5) [eOp (o2 F4) [eOp (Hj true true) [eV 2,eI 1,eI 2],eOp (o1 Um) [eOp (o2 wEq) [eV 6,eC (.str "trade")]]]]))))) (xIf (eOp (o2 wEq) [eV 6,eC (.str "spoil")]) (NG (eOp (o2 NS) [eIx (eIx (eV 3) (eIx (eV 2) (eI 1))) (eI 1),eIx (eV 2) (eI 2)]) (eIx (eV 3) (eIx (eV 2) (eI 1))) (eI 1)) (By (AJ Ea [eV 0,eV 1,eV 2]))))))))
def A3:Fn:=BU (BV 13 FU)
def Lq:Ex:=(AW (NT (tTp [tNm 3,tNm 4,tNm 5]) (eV 2))
    (AW (A4 6 (Dx [] 2 (Xo (eV 3)) (tTp [tNm 0,tNm 1]) (eOp (o2 wGt) [eIx (eV 1) (eI 1),eI 0]) (eV 0)))
    (AW (A4 7 (AJ AH [eV 0,eI 12]))
    (AW (xIf (eOr (eOp (o2 wLt) [eV 7,eI 2]) (eOp (o2 wEq) [eV 6,HI []])) (Bv (Bi [eC (.str "bring"),AJ AH [eV 0,eIx (eV 1) (eI 0)],AJ AH [eV 0,eIx (eV 1) (eI 1)],AJ A8 [eV 0]])) Cw)
    (AW (A4 8 (eIx (eV 6) (AJ AH [eV 0,eOp (o1 HC) [eV 6]])))
    (AW (A4 9 (eOp (o2 CO) [eI 1,AJ AH [eV 0,eOp (o2 Wd) [eIx (eIx (eV 3) (eV 8)) (eI 1),eI 2000]]]))
    (AW (xIf (eOp (o2 wLt) [eV 7,eI 5]) (AW (A4 10 (Dx [3,8] 1 (GU (eV 6)) (tNm 2) (Ja (eOp (o2 wNe) [eV 2,eV 1]) (eOp (o2 wEq) [eIx (eIx (eV 0) (eV 2)) (eI 0),eIx (eIx (eV 0) (eV 1)) (eI 0)])) (eV 2)))
    (xIf (eOp (o2 wNe) [eV 10,HI []]) (Bv (Bi [eC (.str "pool"),eV 8,eIx (eV 10) (AJ AH [eV 0,eOp (o1 HC) [eV 10]])])) Cw)) Cw)
    (AW (xIf (Ja (eOp (o2 wLt) [eV 7,eI 8]) (eOp (o2 wGt) [eIx (eV 1) (eI 1),eI 1])) (AW (A4 11 (eOp (o2 OG) [eOp (o2 CO) [eOp (o2 CO) [eIx (eIx (eV 3) (eV 8)) (eI 0),eI 1],AJ AH [eV 0,eOp (o2 NS) [eIx (eV 1) (eI 1),eI 1]]],eIx (eV 1) (eI 1)]))
    (AW (A4 12 (Dx [5] 1 (Lx [eI 10]) (tNm 1) (eOp (o2 (wIn true)) [eV 1,eV 0]) (eV 1)))
    (AW (xIf (Ja (eOp (o2 wEq) [eV 7,eI 7]) (eOp (o2 wNe) [eV 12,HI []])) (Bv (Bi [eC (.str "trade"),eIx (eV 12) (AJ AH [eV 0,eOp (o1 HC) [eV 12]]),eV 8,eV 9,eV 11,AJ A8 [eV 0]])) Cw)
    (Bv (Bi [eC (.str "swap"),eV 8,eV 9,eV 11,AJ A8 [eV 0]]))))) Cw)
    (AW (xIf (eOp (o2 wEq) [eV 7,eI 8]) (Bv (Bi [eC (.str "spoil"),eV 8,eV 9])) Cw)
    (AW (xIf (Ja (eOp (o2 wEq) [eV 7,eI 9]) (eOp (o2 wGt) [eIx (eV 1) (eI 0),eI 1])) (AW (A4 13 (AJ AH [eV 0,eIx (eV 1) (eI 0)]))
    (Bv (Bi [eC (.str "sell"),eV 13,eOp (o2 OG) [eOp (o2 CO) [eOp (o2 CO) [eV 13,eI 1],AJ AH [eV 0,eOp (o2 NS) [eIx (eV 1) (eI 0),eI 1]]],eIx (eV 1) (eI 0)],AJ E7 [eV 0]]))) Cw)
    (Bv (Bi [eC (.str "throw"),eV 8,eV 9,AJ DJ [eV 0,eOp (o2 CO) [eIx (eV 1) (eI 1),eI 1]]]))))))))))))
def DM:Fn:=BU (BV 14 Lq)
def Lj:Ex:=(AW (A4 2 (AJ F1 [eV 0]))
    (AW (A4 3 (AJ F5 [eV 0,eV 2]))
    (AW (QQ 4 5 (AJ Cn [Bi [eV 2,eV 3,Bi []]]) (GS []))
    (AW (HH (Lx [AJ AH [eV 0,eOp (o2 CO) [eV 1,eI 1]]]) (tNm 6) (AW (A4 7 (AJ DM [eV 0,eV 2,eV 4]))
    (xIf (eOr (eOp (o2 wNe) [eIx (eV 7) (eI 0),eC (.str "throw")]) (eOp (o2 wLt) [eOp (o1 HC) [Dx [] 1 (GU (eV 5)) (tNm 0) (eOp (o2 wEq) [eIx (eV 0) (eI 0),eC (.str "throw")]) (eV 0)],eI 3])) (AW (By (AJ A3 [eV 2,eV 4,eV 7]))
    (By (Hz IZ (eV 5) [eV 7]))) Cw)))
    (Bv (Bi [eV 2,eV 3,eOp (o1 Cv) [eV 5]]))))))
def Cq:Fn:=BU (BV 8 Lj)
def JK:Ex:=(AW (A4 1 (AJ Cn [eV 0]))
    (AW (A4 2 (GS [Bi [Dx [] 1 (GU (eIx (eV 1) (eI 0))) (tNm 0) Dl (eOp (o1 Cv) [eV 0]),eOp (o1 Cv) [eIx (eV 1) (eI 1)]]]))
    (AW (HH (GU (eIx (eV 0) (eI 2))) (tNm 3) (AW (By (AJ A3 [eIx (eV 0) (eI 0),eV 1,eV 3]))
    (By (Hz IZ (eV 2) [Bi [Dx [] 1 (GU (eIx (eV 1) (eI 0))) (tNm 0) Dl (eOp (o1 Cv) [eV 0]),eOp (o1 Cv) [eIx (eV 1) (eI 1)]]]))))
    (Bv (eV 2)))))
def EE:Fn:=BU (BV 4 JK)
def Fh:Ex:=(AW (A4 2 (GS []))
    (AW (HH (Lx [eI 10]) (tNm 3) (AW (QQ 4 5 (Jg (eV 0) (eV 3)) (Jg (eV 1) (eV 3))) (xIf (Ja (eOp (o2 (OE false)) [eV 4,eC .non]) (eOp (o2 (OE false)) [eV 5,eC .non])) Cw (xIf (eOr (eOp (o2 (OE false)) [eV 4,eC .non]) (eOr (eOp (o2 (OE false)) [eV 5,eC .non]) (eOp (o2 wNe) [eOp (Hj true false) [eV 4,eI 1],eOp (o2 CO) [eOp (Hj true false) [eV 5,eI 3],eOp (Hj true true) [eV 5,eI 1,eI 3]]]))) (By (Hz IZ (eV 2) [Bi [eV 3,eV 4,eV 5]])) Cw))))
    (Bv (eV 2))))
def Bd:Fn:=BU (BV 6 Fh)
def JD:Ex:=(AW (A4 1 (eIx (eIx (AJ EE [eV 0]) (eOp (o1 XT) [eI 1])) (eI 0)))
    (AW (A4 2 (Wt []))
    (AW (HH (GU (eIx (eV 0) (eI 2))) (tNm 3) (xIf (eOp (o2 wEq) [eIx (eV 3) (eI 0),eC (.str "trade")]) (U5 (Bi [eIx (eV 3) (eI 1),eIx (eIx (eV 1) (eIx (eV 3) (eI 2))) (eI 0),eIx (eV 3) (eI 3),eIx (eV 3) (eI 4),eIx (eV 3) (eI 5)]) (eV 2) (eIx (eV 3) (eI 1))) Cw))
    (Bv (eV 2)))))
def BZ:Fn:=BU (BV 4 JD)
def HD:Ex:=(AW (A4 2 (eIx (eIx (eV 1) (eI 0)) (eI 1)))
    (AW (A4 3 (Bi [eI 1,eV 2,eI 1,Bi [Bi [eI 1,eI 1]],eI 0,eI 0]))
    (AW (A4 4 (GS []))
    (AW (A4 5 (eSV false (AJ BZ [eV 1])))
    (AW (A4 6 (eOp (o2 NS) [eOp (o1 HC) [eV 5],eOp (o1 Um) [eOp (o2 wEq) [AJ AH [eV 0,eI 4],eI 0]]]))
    (AW (HH (GU (eOp (Hj false true) [eV 5,eV 6])) (tTp [tNm 7,tNm 8,tNm 9,tNm 10,tNm 11]) (AW (QQ 12 13 (eV 11) (eV 9))
    (AW (xIf (eOp (o2 wEq) [AJ AH [eV 0,eI 6],eI 0]) (A4 12 (eOp (o2 CO) [eV 11,eI 1])) Cw)
    (AW (xIf (eOp (o2 wEq) [AJ AH [eV 0,eI 6],eI 0]) (A4 13 (eOp (o2 CO) [eV 9,eI 1])) Cw)
    (AW (By (Hz IZ (eV 4) [Bi [eC (.str "bring"),eI 0,eV 10,eV 12]]))
    (By (Hz IZ (eV 4) [Bi [eC (.str "trade"),eV 7,eOp (o2 NS) [eOp (o1 HC) [eV 4],eI 1],eV 12,eV 8,eV 13]])))))))
    (Bv (Bi [eV 3,Bi [],eOp (o1 Cv) [eOp (Hj false true) [eV 4,eI 20]]]))))))))
def Bx:Fn:=BU (BV 14 HD)
def IP:Ex:=(AW (A4 3 (AJ Cq [eV 0,eV 1]))
    (AW (HH (Lx [eI 5]) (tNm 4) (AW (xIf (eOp (o2 wNe) [Dx [2] 1 (GU (eIx (eV 3) (eI 2))) (tNm 1) (eOp (o2 wEq) [eIx (eV 1) (eI 0),eV 0]) (eV 1),HI []]) (Bv (eV 3)) Cw)
    (A4 3 (AJ Cq [eV 0,eV 1]))))
    (Bv (eV 3))))
def Cs:Fn:=BU (BV 5 IP)
def Hn:Ex:=(AW (A4 1 (AJ Cs [eV 0,eI 12,eC (.str "trade")]))
    (AW (NT (tTp [tNm 2,tNm 3,tNm 4]) (eV 1))
    (AW (xIf (eOp (o2 wEq) [eIx (eV 2) (eI 1),eI 1]) (AW (A4 2 (eOp (o2 CO) [Bi [eIx (eV 2) (eI 0),eI 2],eOp (Hj true false) [eV 2,eI 2]]))
    (NT (tTp [tNm 3,tNm 4]) (Bi [Bi [],Bi []]))) Cw)
    (AW (A4 5 (AJ Cn [Bi [eV 2,eV 3,Bi []]]))
    (AW (HH (GU (eV 4)) (tNm 6) (By (AJ A3 [eV 2,eV 5,eV 6])))
    (AW (HH (Lx [AJ AH [eV 0,eI 5]]) (tNm 7) (AW (A4 8 (Dx [5] 1 (Lx [eI 6]) (tNm 1) (eOp (o2 (wIn true)) [eV 1,eIx (eV 0) (eI 2)]) (eV 1)))
    (AW (A4 9 (Dx [] 2 (Xo (eIx (eV 5) (eI 0))) (tTp [tNm 0,tNm 1]) (eOp (o2 wGt) [eIx (eV 1) (eI 1),eI 0]) (eV 0)))
    (AW (A4 6 (Bi [eC (.str "bring"),eI 0,AJ AH [eV 0,eIx (eV 2) (eI 1)],eOp (o2 CO) [eI 5,AJ AH [eV 0,eI 9]]]))
    (AW (xIf (Ja (eOp (o2 wNe) [eV 9,HI []]) (eOp (o2 wNe) [eV 8,HI []])) (AW (A4 10 (eIx (eV 9) (AJ AH [eV 0,eOp (o1 HC) [eV 9]])))
    (AW (A4 11 (eOp (o2 OG) [eOp (o2 CO) [eOp (o2 CO) [eIx (eIx (eIx (eV 5) (eI 0)) (eV 10)) (eI 0),eI 1],AJ AH [eV 0,eOp (o2 NS) [eIx (eV 2) (eI 1),eI 1]]],eIx (eV 2) (eI 1)]))
    (AW (A4 12 (eIx (eV 8) (AJ AH [eV 0,eOp (o1 HC) [eV 8]])))
    (AW (A4 13 (eOp (o2 CO) [eI 1,AJ AH [eV 0,eOp (o2 Wd) [eI 4,eIx (eIx (eIx (eV 5) (eI 0)) (eV 10)) (eI 1)]]]))
    (A4 6 (Bi [eC (.str "trade"),eV 12,eV 10,eV 13,eV 11,eOp (o2 CO) [eI 1,AJ AH [eV 0,eI 4]]])))))) Cw)
    (AW (By (AJ A3 [eV 2,eV 5,eV 6]))
    (A4 4 (eOp (o2 CO) [eV 4,Bi [eV 6]]))))))))
    (Bv (Bi [eV 2,eV 3,eV 4]))))))))
def Bu:Fn:=BU (BV 14 Hn)
def C9:Ex:=(AW (xIf (eOp (o2 (OE false)) [eV 0,eC .non]) (Bv (eC .non)) Cw)
    (AW (NT (tTp [tNm 1,tNm 2,tNm 3,tNm 4,tNm 5]) (eV 0))
    (Bv (Bi [eV 1,eV 4,eV 5,eV 2,eV 3]))))
def A7:Fn:=BU (BV 6 C9)
def J5:Ex:=(AW (A4 2 (AJ CD [eV 0]))
    (AW (HH (GU (eOp (Hj false true) [eIx (eV 0) (eI 2),eV 1])) (tNm 3) (A4 2 (AJ Ap [eV 2,eV 3])))
    (Bv (eV 2))))
def Ey:Fn:=BU (BV 4 J5)
def Gq:Ex:=(AW (A4 1 (AJ Ey [eV 0,eOp (o1 HC) [eIx (eV 0) (eI 2)]]))
    (AW (A4 2 (GS []))
    (AW (HH (GU (eIx (eV 0) (eI 2))) (tNm 3) (xIf (eOp (o2 wEq) [eIx (eV 3) (eI 0),eC (.str "trade")]) (AW (NT (tTp [tNm 4,tNm 5,tNm 6,tNm 7,tNm 8]) (eOp (Hj true false) [eV 3,eI 1]))
    (By (Hz IZ (eV 2) [Bi [eV 4,eIx (eIx (eV 1) (eV 5)) (eI 0),eV 6,eV 7,eV 8]]))) Cw))
    (Bv (ZO (o1 Pc) [eV 2])))))
def BO:Fn:=BU (BV 9 Gq)
def GQ:Ex:=(AW (A4 2 (Nl false [] 1 (GU (AJ BO [eV 0])) (tNm 0) Dl (eIx (eV 0) (eI 0)) (eV 0)))
    (AW (A4 3 (Nl false [] 1 (GU (AJ BO [eV 1])) (tNm 0) Dl (eIx (eV 0) (eI 0)) (eV 0)))
    (AW (A4 4 (eOp (o1 wSS) [eOp (o2 CO) [eLK false (eV 2),eLK false (eV 3)]]))
    (AW (A4 5 (Dx [2,3] 1 (GU (eV 4)) (tNm 2) Dl (Bi [eV 2,Jg (eV 0) (eV 2),Jg (eV 1) (eV 2)])))
    (Bv (Dx [] 1 (GU (eV 5)) (tNm 0) (eOp (o2 wNe) [eIx (eV 0) (eI 1),AJ A7 [eIx (eV 0) (eI 2)]]) (eV 0)))))))
def C6:Fn:=BU (BV 6 GQ)
def Ej:Ex:=(AW (By (AJ Bb [eV 0]))
    (AW (By (AJ Bb [eV 1]))
    (AW (A4 2 (AJ C6 [eV 0,eV 1]))
    (Bv (eIf (eOp (o2 wGt) [eOp (o1 HC) [eV 2],eI 0]) (eIx (eV 2) (eI 0)) (eC .non))))))
def Bj:Fn:=BU (BV 3 Ej)
def ID:Ex:=(AW (By (AJ Bb [eV 0]))
    (Bv (AJ BO [eV 0])))
def CS:Fn:=BU (BV 1 ID)
def SR:Ex:=(AW (HH (Lx [eOp (o2 cc) [eI 1,eOp (o2 Wd) [eOp (o1 HC) [eV 0],eI 3]]]) (tNm 1) (AW (A4 2 (AJ Gm [AJ Ct [eV 0,eV 1]]))
    (AW (A4 3 (AJ Bu [eV 2]))
    (AW (A4 4 (AJ BZ [eV 3]))
    (AW (A4 5 (AJ CS [eV 3]))
    (AW (xIf (eOp (o2 wNe) [eV 5,eSV false (eV 4)]) (Bv (eC (.bl false))) Cw)
    (AW (By (Hz IZ (eV 5) [Bi []]))
    (AW (HH (GU (Bi [AJ Bx [eV 2,eV 3],AJ Bx [eV 2,eV 3],AJ Bu [eV 2],eV 3])) (tNm 6) (AW (A4 7 (AJ BZ [eV 6]))
    (AW (xIf (eOp (o2 wNe) [AJ Bj [eV 3,eV 6],eIx (eOp (o2 CO) [AJ Bd [eV 4,eV 7],HI [eC .non]]) (eI 0)]) (Bv (eC (.bl false))) Cw)
    (xIf (eOp (o2 wNe) [AJ Bj [eV 6,eV 3],eIx (eOp (o2 CO) [AJ Bd [eV 7,eV 4],HI [eC .non]]) (eI 0)]) (Bv (eC (.bl false))) Cw))))
    (xIf (eOp (o2 wNe) [AJ CS [eV 3],eSV false (eV 4)]) (Bv (eC (.bl false))) Cw)))))))))
    (Bv (eC (.bl true))))
def MT:Fn:=BU (BV 8 SR)
end
section
open PyProof.Rows (boot_isinstance boot_int boot_bool boot_tuple boot_str boot_list boot_abs boot_all boot_any boot_sum boot_max boot_min boot_range boot_enumerate boot_zip boot_sorted boot_set boot_divmod)
noncomputable def top(i:Nat):lY:=rD.main.body.getD i (.Pass ⟨0,0,0,0⟩)
abbrev Cz:lY:=top 4
abbrev D6:lY:=top 5
abbrev EA:lY:=top 6
abbrev Dt:lY:=top 7
abbrev CU:lY:=top 8
abbrev Cd:lY:=top 9
abbrev BJ:lY:=top 10
abbrev Ez:lY:=top 11
abbrev Cf:lY:=top 12
abbrev B5:lY:=top 13
abbrev Ci:lY:=top 15
abbrev Bl:lY:=top 16
abbrev Ag:lY:=top 17
abbrev DV:lY:=top 18
abbrev Ck:lY:=top 19
abbrev GZ:lY:=top 21
abbrev DZ:lY:=top 22
abbrev Fe:lY:=top 23
abbrev EC:lY:=top 24
abbrev Fv:lY:=top 25
abbrev CN:lY:=top 26
abbrev Eg:lY:=top 27
abbrev D4:lY:=top 28
abbrev E5:lY:=top 29
abbrev C8:lY:=top 30
abbrev Es:lY:=top 31
abbrev Cg:lY:=top 32
abbrev CB:lY:=top 33
abbrev Fg:lY:=top 34
abbrev Ew:lY:=top 35
abbrev D3:lY:=top 36
abbrev Dk:lY:=top 37
abbrev Fi:lY:=top 38
abbrev Em:lY:=top 39
abbrev Fm:lY:=top 40
abbrev Fy:lY:=top 41
abbrev F8:lY:=top 42
abbrev Ds:lY:=top 43
abbrev CQ:lY:=top 44
abbrev BY:lY:=top 45
abbrev Bt:lY:=top 46
abbrev Dz:lY:=top 47
abbrev C1:lY:=top 48
abbrev CA:lY:=top 49
abbrev Iz:lY:=top 50
section
variable(P:ke)(w:lB)(K:jz)(mg:Str->j6 j4)(base:lD)
abbrev Du:Prop:=St.Dfn P w K mg base "has_pieces" 1 ["held","load","pieces"] (spD K 3 Bz)
abbrev JU:Prop:=St.Dfn P w K mg base "can_pool" 2 ["held","load","other"] (spD K 3 FJ)
abbrev JB:Prop:=St.Dfn P w K mg base "can_swap" 2 ["held","load","given","kind"] (spD K 4 EF)
abbrev Lh:Prop:=St.Dfn P w K mg base "can_do" 3 ["held","done","deed"] (spD K 3 CH)
abbrev GI:Prop:=St.Dfn P w K mg base "held_without" 1 ["held","load","pieces"] (spD K 3 BS)
abbrev Eh:Prop:=St.Dfn P w K mg base "held_behind" 2 ["held","deed"] (spD K 2 Ap)
abbrev Dp:Prop:=St.Dfn P w K mg base "held_at_first" 1 ["book"] (spD K 1 CD)
abbrev K7:Prop:=St.Dfn P w K mg base "held_by" 3 ["book","many"] (spD K 2 Ey)
abbrev Gb:Prop:=St.Dfn P w K mg base "first_wrong" 4 ["book"] (spD K 1 DU)
abbrev Dg:Prop:=St.Dfn P w K mg base "refuse_undone" 5 ["book"] (spD K 1 Bb)
abbrev Et:Prop:=St.Dfn P w K mg base "trades_told" 4 ["book"] (spD K 1 BO)
abbrev El:Prop:=St.Dfn P w K mg base "seen_from_there" 1 ["trade"] (spD K 1 A7)
abbrev GN:Prop:=St.Dfn P w K mg base "clashes_told" 5 ["book","other"] (spD K 2 C6)
abbrev Hv:Prop:=St.Dfn P w K mg base "trades_of" 6 ["book"] (spD K 1 CS)
abbrev Gf:Prop:=St.Dfn P w K mg base "first_clash" 6 ["book","other"] (spD K 2 Bj)
abbrev N6:Prop:=St.Dfn P w K mg base "_law_pen" 1 ["_law_cell"] (spD K 1 Gm)
abbrev IQ:Prop:=St.Dfn P w K mg base "_law_cell_at" 1 ["_law_script","_law_k"] (spD K 2 Ct)
abbrev B4:Prop:=St.Dfn P w K mg base "_law_draw" 1 ["_law_pen_here","_law_bound"] (spD K 2 AH)
abbrev JJ:Prop:=St.Dfn P w K mg base "_law_common" 1 ["_law_one","_law_other"] (spD K 2 FD)
abbrev Dr:Prop:=St.Dfn P w K mg base "_law_made" 2 ["_law_top","_law_bottom"] (spD K 2 Bc)
abbrev He:Prop:=St.Dfn P w K mg base "_law_whole" 3 ["_law_pen_here","_law_many"] (spD K 2 DA)
abbrev KG:Prop:=St.Dfn P w K mg base "_law_train" 4 ["_law_pen_here"] (spD K 1 F1)
abbrev Gp:Prop:=St.Dfn P w K mg base "_law_pieces" 2 ["_law_pen_here"] (spD K 1 A8)
abbrev K1:Prop:=St.Dfn P w K mg base "_law_first" 4 ["_law_pen_here","_law_train_here"] (spD K 2 F5)
abbrev F2:Prop:=St.Dfn P w K mg base "_law_begun" 1 ["_law_book_here"] (spD K 1 Cn)
abbrev Kp:Prop:=St.Dfn P w K mg base "_law_share" 3 ["_law_pen_here"] (spD K 1 E7)
abbrev JS:Prop:=St.Dfn P w K mg base "_law_worths" 2 ["_law_pen_here","_law_many"] (spD K 2 DJ)
abbrev La:Prop:=St.Dfn P w K mg base "_law_deed" 4 ["_law_pen_here","_law_train_here","_law_state"] (spD K 3 DM)
abbrev Fb:Prop:=St.Dfn P w K mg base "_law_plus" 3 ["_law_one","_law_other"] (spD K 2 CJ)
abbrev F7:Prop:=St.Dfn P w K mg base "_law_times" 3 ["_law_one","_law_other"] (spD K 2 Aw)
abbrev JG:Prop:=St.Dfn P w K mg base "_law_pooled" 4 ["_law_one","_law_other"] (spD K 2 FP)
abbrev LX:Prop:=St.Dfn P w K mg base "_law_cost" 3 ["_law_train_here","_law_loads","_law_deed_here"] (spD K 3 Gx)
abbrev Iy:Prop:=St.Dfn P w K mg base "_law_less" 4 ["_law_one","_law_other"] (spD K 2 DH)
abbrev Kh:Prop:=St.Dfn P w K mg base "_law_borne" 5 ["_law_shares","_law_part","_law_owners"] (spD K 3 Dq)
abbrev Lm:Prop:=St.Dfn P w K mg base "_law_sold" 5 ["_law_shares","_law_deed_here"] (spD K 2 Eb)
abbrev Li:Prop:=St.Dfn P w K mg base "_law_turn" 6 ["_law_train_here","_law_state","_law_deed_here"] (spD K 3 Ea)
abbrev Jz:Prop:=St.Dfn P w K mg base "_law_do" 7 ["_law_train_here","_law_state","_law_deed_here"] (spD K 3 A3)
abbrev Lr:Prop:=St.Dfn P w K mg base "_law_book" 8 ["_law_pen_here","_law_most"] (spD K 2 Cq)
abbrev IX:Prop:=St.Dfn P w K mg base "_law_book_of" 9 ["_law_pen_here","_law_most","_law_word"] (spD K 3 Cs)
abbrev Hk:Prop:=St.Dfn P w K mg base "_law_trading" 10 ["_law_pen_here"] (spD K 1 Bu)
abbrev JP:Prop:=St.Dfn P w K mg base "_law_states" 8 ["_law_book_here"] (spD K 1 EE)
abbrev Gu:Prop:=St.Dfn P w K mg base "_law_trades" 9 ["_law_book_here"] (spD K 1 BZ)
abbrev HF:Prop:=St.Dfn P w K mg base "_law_mirrored" 10 ["_law_pen_here","_law_book_here"] (spD K 2 Bx)
abbrev Fq:Prop:=St.Dfn P w K mg base "_law_all_clashes" 1 ["_law_mine","_law_its"] (spD K 2 Bd)
end
structure Bts(mg:Str->j6 j4):Prop where
 abs:mg "abs"=none
 enumerate:mg "enumerate"=none
 int:mg "int"=none
 len:mg "len"=none
 list:mg "list"=none
 max:mg "max"=none
 min:mg "min"=none
 range:mg "range"=none
 set:mg "set"=none
 sorted:mg "sorted"=none
 sum:mg "sum"=none
 tuple:mg "tuple"=none
 zip:mg "zip"=none
end
section
open PyProof.Rows (boot_isinstance boot_int boot_bool boot_tuple boot_str boot_list boot_abs boot_all boot_any boot_sum boot_max boot_min boot_range boot_enumerate boot_zip boot_sorted boot_set boot_divmod)
variable{P:ke}{w:lB}{K:jz}{mg:Str->j6 j4}{base:lD}
theorem KD:AY ["held","load","pieces"] ["held","load","pieces"] (AK Cz):=scM
theorem Ax  (S:St.Src K mg "has_pieces" Cz)(B:Bts mg):Du P w K mg base:=by
 refine dfM 0 S KD λhr hu=>?_
 exact(AL (Ac (NQ (Hr LR (AB 1) (BH CK rfl B.len pB (AA (AB 0) AD))) (PF (Hr WM (AM Aa (AM Aa (AB 0) (AB 1)) AE) (AB 2))))))
theorem Me:AY ["held","load","other"] ["held","load","other"] (AK D6):=scM
theorem D7  (S:St.Src K mg "can_pool" D6)(Ax:Du P w K mg base):JU P w K mg base:=by
 refine dfM 1 S Me λhr hu=>?_
 exact(AL (Ac (NQ (deM Ax hr (AA (AB 0) (AA (AB 1) (AA AE AD)))) (NQ (deM Ax hr (AA (AB 0) (AA (AB 2) (AA AE AD)))) (PF (Hr (B2 hu) (AM Aa (AM Aa (AB 0) (AB 1)) AE) (AM Aa (AM Aa (AB 0) (AB 2)) AE)))))))
theorem Mw:AY ["held","load","given","kind"] ["held","load","given","kind"] (AK EA):=scM
theorem DF  (S:St.Src K mg "can_swap" EA)(Ax:Du P w K mg base):JB P w K mg base:=by
 refine dfM 1 S Mw λhr hu=>?_
 exact(AL (Ac (NQ (deM Ax hr (AA (AB 0) (AA (AB 1) (AA (AB 2) AD)))) (PF (Hr (FE hu) (AM Aa (AM Aa (AB 0) (AB 1)) AE) (AB 3))))))
theorem HU:AY ["held","done","deed","word","numbers"] ["held","done","deed"] (AK Dt):=scM
theorem MK:Ab ["held","done","deed","word","numbers"] (AK Dt) ["other"] (ixC [] 1) (NU Dt 0):=csM
theorem Mz:(["other"]:Wp Str).Nodup:=by decide+kernel
theorem Ff  (S:St.Src K mg "can_do" Dt)(Ax:Du P w K mg base)(D7:JU P w K mg base)(DF:JB P w K mg base):Lh P w K mg base:=by
 refine dfM 2 S HU λhr hu=>?_
 exact(AG (AZ 3 (AM Aa (AB 2) AE) HU.nd)
      (AG (CP (Af (B2 hu) (AB 3) BM) (AL (Ac (deM D7 hr (AA (AB 0) (AA (AM Aa (AB 2) AE) (AA (AM Aa (AB 2) AE) AD)))))) Az)
      (AG (CP (Af (B2 hu) (AB 3) BM) (AL (Ac (deM DF hr (AA (AB 0) (AA (AM Aa (AB 2) AE) (AA (AM Aa (AB 2) AE) (AA (AM Aa (AB 2) AE) AD))))))) Az)
      (AG (CP (Af (B2 hu) (AB 3) BM) (AG (Di [] 1 ["other"] rfl HU.nd rfl rfl MK (Cj (AB 1)) (λs H fp=>⟨Ak 0 Mz,GC (Af (B2 hu) (AM Aa (AB 0) AE) BM),AM Aa (AB 0) AE⟩))
      (AL (Ac (NQ (Hr Km (AM Aa (AB 2) AE) (AB 4)) (PF (deM DF hr (AA (AB 0) (AA (AM Aa (AB 2) AE) (AA (AM Aa (AB 2) AE) (AA (AM Aa (AB 2) AE) AD)))))))))) Az)
      (AG (CP (Af PC (AB 3) (Ar (AA BM (AA BM AD)))) (AL (Ac (deM Ax hr (AA (AB 0) (AA (AM Aa (AB 2) AE) (AA (AM Aa (AB 2) AE) AD)))))) Az)
      (AL (Ac QI)))))))
theorem De:AY ["held","load","pieces","kind","there"] ["held","load","pieces"] (AK CU):=scM
theorem BF  (S:St.Src K mg "held_without" CU):GI P w K mg base:=by
 refine dfM 0 S De λhr hu=>?_
 exact(AG (GW (AM Aa (AB 0) (AB 1)) (GR rfl (AQ (Ak 3 De.nd) (AQ (Ak 4 De.nd) CY))))
      (AL (Ac (Ai Ad (Ai Ad (Kx (AB 0) (AB 1)) (Bf (AA (Ar (AA (AB 3) (AA (Ai FZ (AB 4) (AB 2)) AD))) AD))) (HZ (AB 0) (Ai Ad (AB 1) AE))))))
theorem A5:AY ["held","deed","word","kind","pieces","more","load","given","got"] ["held","deed"] (AK Cd):=scM
theorem BL  (S:St.Src K mg "held_behind" Cd)(BF:GI P w K mg base):Eh P w K mg base:=by
 refine dfM 1 S A5 λhr hu=>?_
 exact(AG (AZ 2 (AM Aa (AB 1) AE) A5.nd)
      (AG (CP (Af (B2 hu) (AB 2) BM) (AL (Ac (Ai Ad (AB 0) (Bf (AA (Ar (AA (AM Aa (AB 1) AE) (AA (AM Aa (AB 1) AE) AD))) AD))))) Az)
      (AG (CP (Af (B2 hu) (AB 2) BM) (AG (GW (AM Aa (AB 0) (AM Aa (AB 1) AE)) (GR rfl (AQ (Ak 3 A5.nd) (AQ (Ak 4 A5.nd) CY))))
      (AG (AZ 5 (AM Aa (AM Aa (AB 0) (AM Aa (AB 1) AE)) AE) A5.nd)
      (AL (Ac (Ai Ad (deM BF hr (AA (deM BF hr (AA (AB 0) (AA (AM Aa (AB 1) AE) (AA (AB 4) AD)))) (AA (AM Aa (AB 1) AE) (AA (AB 5) AD)))) (Bf (AA (Ar (AA (AB 3) (AA (Ai Ad (AB 4) (AB 5)) AD))) AD))))))) Az)
      (AG (CP (Af PC (AB 2) (Ar (AA BM (AA BM AD)))) (AG (GW (HZ (AB 1) (Vf Mb AE)) (GR rfl (AQ (Ak 6 A5.nd) (AQ (Ak 7 A5.nd) (AQ (Ak 3 A5.nd) (AQ (Ak 8 A5.nd) CY))))))
      (AL (Ac (Ai Ad (deM BF hr (AA (AB 0) (AA (AB 6) (AA (AB 7) AD)))) (Bf (AA (Ar (AA (AB 3) (AA (AB 8) AD))) AD)))))) Az)
      (AG (CP (Af PC (AB 2) (Ar (AA BM (AA BM AD)))) (AL (Ac (deM BF hr (AA (AB 0) (AA (AM Aa (AB 1) AE) (AA (AM Aa (AB 1) AE) AD)))))) Az)
      (AL (Ac (AB 0))))))))
end
section
open PyProof.Rows (boot_isinstance boot_int boot_bool boot_tuple boot_str boot_list boot_abs boot_all boot_any boot_sum boot_max boot_min boot_range boot_enumerate boot_zip boot_sorted boot_set boot_divmod)
variable{P:ke}{w:lB}{K:jz}{mg:Str->j6 j4}{base:lD}
theorem IH:AY ["book"] ["book"] (AK BJ):=scM
theorem G6:Ab ["book"] (AK BJ) ["load"] (ixC [] 1) (NU BJ 0):=csM
theorem G7:(["load"]:Wp Str).Nodup:=by decide+kernel
theorem A9  (S:St.Src K mg "held_at_first" BJ):Dp P w K mg base:=by
 refine dfM 0 S IH λhr hu=>?_
 exact(AL (Ac (EJ [] 1 ["load"] rfl G6 (Cj (AM Aa (AB 0) AE)) (λs H fp=>⟨Ak 0 G7,EI,Ar (AA (AM Aa (AB 0) AE) (AA (AM Aa (AB 0) AE) AD))⟩))))
theorem FI:AY ["book","many","held","deed"] ["book","many"] (AK Ez):=scM
theorem Er  (S:St.Src K mg "held_by" Ez)(BL:Eh P w K mg base)(A9:Dp P w K mg base):K7 P w K mg base:=by
 refine dfM 2 S FI λhr hu=>?_
 exact(AG (AZ 2 (deM A9 hr (AA (AB 0) AD)) FI.nd)
      (AG (EB lE rfl (Cj (Kx (AM Aa (AB 0) AE) (AB 1))) (Ak 3 FI.nd) (AL (AZ 2 (deM BL hr (AA (AB 2) (AA (AB 3) AD))) FI.nd)))
      (AL (Ac (AB 2)))))
theorem Bp:AY ["book","held","deeds","at","deed"] ["book"] (AK Cf):=scM
theorem Ce  (S:St.Src K mg "first_wrong" Cf)(B:Bts mg)(Ff:Lh P w K mg base)(BL:Eh P w K mg base)(A9:Dp P w K mg base):Gb P w K mg base:=by
 refine dfM 3 S Bp λhr hu=>?_
 exact(AG (AZ 1 (deM A9 hr (AA (AB 0) AD)) Bp.nd)
      (AG (AZ 2 (AM Aa (AB 0) AE) Bp.nd)
      (AG (EB lE rfl (RN rfl B.enumerate (AB 2)) (GR rfl (AQ (Ak 3 Bp.nd) (AQ (Ak 4 Bp.nd) CY))) (AG (CP (Zp (a9 (deM Ff hr (AA (AB 1) (AA (Kx (AB 2) (AB 3)) (AA (AB 4) AD)))))) (AL (Ac (AB 3))) Az)
      (AL (AZ 1 (deM BL hr (AA (AB 1) (AA (AB 4) AD))) Bp.nd))))
      (AL (Ac Gk)))))
theorem FN:AY ["book","wrong"] ["book"] (AK B5):=scM
theorem A1  (S:St.Src K mg "refuse_undone" B5)(Ce:Gb P w K mg base):Dg P w K mg base:=by
 refine dfM 4 S FN λhr hu=>?_
 exact(AG (AZ 1 (deM Ce hr (AA (AB 0) AD)) FN.nd)
      (AL (CP (Af WA (AB 1) Gk) (AL V8) Az)))
theorem A6:AY ["book","held","trades","deed","number","load","given","other","got"] ["book"] (AK Ci):=scM
theorem BD  (S:St.Src K mg "trades_told" Ci)(B:Bts mg)(Er:K7 P w K mg base):Et P w K mg base:=by
 refine dfM 3 S A6 λhr hu=>?_
 exact(AG (AZ 1 (deM Er hr (AA (AB 0) (AA (BH CK rfl B.len pB (AA (AM Aa (AB 0) AE) AD)) AD))) A6.nd)
      (AG (AZ 2 (Bf AD) A6.nd)
      (AG (EB lE rfl (Cj (AM Aa (AB 0) AE)) (Ak 3 A6.nd) (AL (CP (Af (B2 hu) (AM Aa (AB 3) AE) BM) (AG (GW (HZ (AB 3) AE) (GR rfl (AQ (Ak 4 A6.nd) (AQ (Ak 5 A6.nd) (AQ (Ak 6 A6.nd) (AQ (Ak 7 A6.nd) (AQ (Ak 8 A6.nd) CY)))))))
      (AL (Bn (FO kz k0 Df (AB 2) (AA (Ar (AA (AB 4) (AA (AM Aa (AM Aa (AB 1) (AB 5)) AE) (AA (AB 6) (AA (AB 7) (AA (AB 8) AD)))))) AD))))) Az)))
      (AL (Ac (BH (Pr rfl) rfl B.sorted wJ (AA (AB 2) AD)))))))
theorem BE:AY ["trade","number","kind","given","other","got"] ["trade"] (AK Bl):=scM
theorem Bg  (S:St.Src K mg "seen_from_there" Bl):El P w K mg base:=by
 refine dfM 0 S BE λhr hu=>?_
 exact(AG (CP (Af Kf (AB 0) Gk) (AL (Ac Gk)) Az)
      (AG (GW (AB 0) (GR rfl (AQ (Ak 1 BE.nd) (AQ (Ak 2 BE.nd) (AQ (Ak 3 BE.nd) (AQ (Ak 4 BE.nd) (AQ (Ak 5 BE.nd) CY)))))))
      (AL (Ac (Ar (AA (AB 1) (AA (AB 4) (AA (AB 5) (AA (AB 2) (AA (AB 3) AD))))))))))
end
section
open PyProof.Rows (boot_isinstance boot_int boot_bool boot_tuple boot_str boot_list boot_abs boot_all boot_any boot_sum boot_max boot_min boot_range boot_enumerate boot_zip boot_sorted boot_set boot_divmod)
variable{P:ke}{w:lB}{K:jz}{mg:Str->j6 j4}{base:lD}
theorem CI:AY ["book","other","mine","theirs","numbers","pairs"] ["book","other"] (AK Ag):=scM
theorem Hc:Ab ["book","other","mine","theirs","numbers","pairs"] (AK Ag) ["trade"] (ixC [] 1) (Vd Ag 0):=csM
theorem HJ:(["trade"]:Wp Str).Nodup:=by decide+kernel
theorem HV:Ab ["book","other","mine","theirs","numbers","pairs"] (AK Ag) ["trade"] (ixC [] 1) (Vd Ag 1):=csM
theorem HW:(["trade"]:Wp Str).Nodup:=by decide+kernel
theorem Ha:Ab ["book","other","mine","theirs","numbers","pairs"] (AK Ag) ["mine","theirs","number"] (ixC [2,3] 1) (Vd Ag 2):=csM
theorem Hi:(["mine","theirs","number"]:Wp Str).Nodup:=by decide+kernel
theorem HM:Ab ["book","other","mine","theirs","numbers","pairs"] (AK Ag) ["pair"] (ixC [] 1) (Vd Ag 3):=csM
theorem HK:(["pair"]:Wp Str).Nodup:=by decide+kernel
theorem CT  (S:St.Src K mg "clashes_told" Ag)(B:Bts mg)(BD:Et P w K mg base)(Bg:El P w K mg base):GN P w K mg base:=by
 refine dfM 4 S CI λhr hu=>?_
 exact(AG (AZ 2 (Pf [] 1 ["trade"] rfl Hc (Cj (deM BD hr (AA (AB 0) AD))) (λs H fp=>⟨Ak 0 HJ,EI,AM Aa (AB 0) AE,AB 0⟩)) CI.nd)
      (AG (AZ 3 (Pf [] 1 ["trade"] rfl HV (Cj (deM BD hr (AA (AB 1) AD))) (λs H fp=>⟨Ak 0 HW,EI,AM Aa (AB 0) AE,AB 0⟩)) CI.nd)
      (AG (AZ 4 (eG rfl rfl B.sorted rfl B.set (AA (Ai Ad (ak rfl rfl B.list (AA (AB 2) AD)) (ak rfl rfl B.list (AA (AB 3) AD))) AD)) CI.nd)
      (AG (Di [2,3] 1 ["mine","theirs","number"] rfl CI.nd rfl rfl Ha (Cj (AB 4)) (λs H fp=>⟨Ak 2 Hi,EI,Ar (AA (AB 2) (AA (MC hu (AB 0) (AB 2) ⟨rfl,rfl,rfl,rfl⟩) (AA (MC hu (AB 1) (AB 2) ⟨rfl,rfl,rfl,rfl⟩) AD)))⟩))
      (AL (Ac (EJ [] 1 ["pair"] rfl HM (Cj (AB 5)) (λs H fp=>⟨Ak 0 HK,GC (Af (FE hu) (AM Aa (AB 0) AE) (deM Bg hr (AA (AM Aa (AB 0) AE) AD))),AB 0⟩))))))))
theorem LI:AY ["book"] ["book"] (AK DV):=scM
theorem Cp  (S:St.Src K mg "trades_of" DV)(A1:Dg P w K mg base)(BD:Et P w K mg base):Hv P w K mg base:=by
 refine dfM 5 S LI λhr hu=>?_
 exact(AG (Bn (deM A1 hr (AA (AB 0) AD)))
      (AL (Ac (deM BD hr (AA (AB 0) AD)))))
theorem GK:AY ["book","other","clashes"] ["book","other"] (AK Ck):=scM
theorem CF  (S:St.Src K mg "first_clash" Ck)(B:Bts mg)(A1:Dg P w K mg base)(CT:GN P w K mg base):Gf P w K mg base:=by
 refine dfM 5 S GK λhr hu=>?_
 exact(AG (Bn (deM A1 hr (AA (AB 0) AD)))
      (AG (Bn (deM A1 hr (AA (AB 1) AD)))
      (AG (AZ 2 (deM CT hr (AA (AB 0) (AA (AB 1) AD))) GK.nd)
      (AL (Ac (dI (Af Kr (BH CK rfl B.len pB (AA (AB 2) AD)) AE) (AM Aa (AB 2) AE) Gk))))))
theorem P8:AY ["_law_cell"] ["_law_cell"] (AK GZ):=scM
theorem Gh  (S:St.Src K mg "_law_pen" GZ)(B:Bts mg):N6 P w K mg base:=by
 refine dfM 0 S P8 λhr hu=>?_
 exact(AL (Ac (Bf (AA (AB 0) (AA (BA IE rfl B.int xW (AA (Hr WM (AB 0) (Ai RE AE AE)) AD)) (AA AE (AA (Ai FX (AB 0) AE) AD)))))))
theorem LH:AY ["_law_script","_law_k"] ["_law_script","_law_k"] (AK DZ):=scM
theorem DY  (S:St.Src K mg "_law_cell_at" DZ)(B:Bts mg):IQ P w K mg base:=by
 refine dfM 0 S LH λhr hu=>?_
 exact(AG (CP (Af LR (AB 1) (BH CK rfl B.len pB (AA (AB 0) AD))) (AL (Ac (AM Aa (AB 0) (AB 1)))) Az)
      (AL (Ac AE)))
theorem F6:AY ["_law_pen_here","_law_bound","_law_found","_law_stir"] ["_law_pen_here","_law_bound"] (AK Fe):=scM
theorem AI  (S:St.Src K mg "_law_draw" Fe):B4 P w K mg base:=by
 refine dfM 0 S F6 λhr hu=>?_
 exact(AG (CP (DW.dt (J3 (Af (B2 hu) (AM Aa (AB 0) AE) AE) (Hd (Af Kr (AM Aa (AB 0) AE) AE)))) (AG (AZ 2 (Ai FX (AM Aa (AB 0) AE) (AB 1)) F6.nd)
      (AG (Ca (Ai IV (AM Aa (AB 0) AE) (AB 1)) (AB 0) AE)
      (AL (Ac (AB 2))))) Az)
      (AG (Ca (Ai Ad (AM Aa (AB 0) AE) AE) (AB 0) AE)
      (AG (AZ 3 (Ai FX (Ai Cb (Ai Ad (AM Aa (AB 0) AE) AE) (Ai Ad AE (Ai Cb AE (AM Aa (AB 0) AE)))) AE) F6.nd)
      (AG (AZ 3 (Ai FX (Ai Ad (Ai Ad (Ai Cb (AB 3) (AB 3)) (Ai Cb AE (AM Aa (AB 0) AE))) AE) AE) F6.nd)
      (AL (Ac (Ai FX (Ai IV (Ai FX (Ai Cb (AB 3) AE) AE) AE) (AB 1))))))))
end
section
open PyProof.Rows (boot_isinstance boot_int boot_bool boot_tuple boot_str boot_list boot_abs boot_all boot_any boot_sum boot_max boot_min boot_range boot_enumerate boot_zip boot_sorted boot_set boot_divmod)
variable{P:ke}{w:lB}{K:jz}{mg:Str->j6 j4}{base:lD}
theorem Hs:AY ["_law_one","_law_other"] ["_law_one","_law_other"] (AK EC):=scM
theorem Dy  (S:St.Src K mg "_law_common" EC):JJ P w K mg base:=by
 refine dfM 0 S Hs λhr hu=>?_
 exact(AG (Va (X3 1) lE (Af Kr (AB 1) AE) (AL (J7 (i:=0) (j:=1) rfl Hs.nd rfl rfl (by decide) rfl rfl (AB 1) (Ai FX (AB 0) (AB 1)))))
      (AL (Ac (AB 0))))
theorem Ko:AY ["_law_top","_law_bottom","_law_by"] ["_law_top","_law_bottom"] (AK Fv):=scM
theorem Av  (S:St.Src K mg "_law_made" Fv)(B:Bts mg)(Dy:JJ P w K mg base):Dr P w K mg base:=by
 refine dfM 1 S Ko λhr hu=>?_
 exact(AG (AZ 2 (deM Dy hr (AA (BH Qd rfl B.abs boot_abs (AA (AB 0) AD)) (AA (AB 1) AD))) Ko.nd)
      (AL (Ac (Ar (AA (Ai IV (AB 0) (AB 2)) (AA (Ai IV (AB 1) (AB 2)) AD))))))
theorem JF:AY ["_law_pen_here","_law_many","_law_weights"] ["_law_pen_here","_law_many"] (AK CN):=scM
theorem LA:Ab ["_law_pen_here","_law_many","_law_weights"] (AK CN) ["_law_pen_here","_law_one"] (ixC [0] 1) (NU CN 0):=csM
theorem LC:(["_law_pen_here","_law_one"]:Wp Str).Nodup:=by decide+kernel
theorem LJ:Ab ["_law_pen_here","_law_many","_law_weights"] (AK CN) ["_law_weights","_law_weight"] (ixC [2] 1) (NU CN 1):=csM
theorem LF:(["_law_weights","_law_weight"]:Wp Str).Nodup:=by decide+kernel
theorem Co  (S:St.Src K mg "_law_whole" CN)(B:Bts mg)(AI:B4 P w K mg base)(Av:Dr P w K mg base):He P w K mg base:=by
 refine dfM 2 S JF λhr hu=>?_
 exact(AG (AZ 2 (EJ [0] 1 ["_law_pen_here","_law_one"] rfl LA (FA rfl B.range (AA (AB 1) AD)) (λs H fp=>⟨Ak 1 LC,EI,AM Aa (Bf (AA AE (AA AE (AA (deM AI hr (AA (AB 0) (AA AE AD))) (AA (deM AI hr (AA (AB 0) (AA AE AD))) AD))))) (deM AI hr (AA (AB 0) (AA AE AD)))⟩)) JF.nd)
      (AG (CP (Af (B2 hu) (BH (K4 rfl) rfl B.sum boot_sum (AA (AB 2) AD)) AE) (AL (Ca AE (AB 2) (deM AI hr (AA (AB 0) (AA (AB 1) AD))))) Az)
      (AL (Ac (BA BB rfl B.tuple m6 (AA (EJ [2] 1 ["_law_weights","_law_weight"] rfl LJ (Cj (AB 2)) (λs H fp=>⟨Ak 1 LF,EI,deM Av hr (AA (AB 1) (AA (BH (K4 rfl) rfl B.sum boot_sum (AA (AB 0) AD)) AD))⟩)) AD))))))
theorem Gi:AY ["_law_pen_here","_law_partners","_law_kinds","_law_beasts"] ["_law_pen_here"] (AK Eg):=scM
theorem Ek  (S:St.Src K mg "_law_train" Eg)(AI:B4 P w K mg base)(Co:He P w K mg base):KG P w K mg base:=by
 refine dfM 3 S Gi λhr hu=>?_
 exact(AG (J7 (i:=1) (j:=2) rfl Gi.nd rfl rfl (by decide) rfl rfl (Ai Ad AE (deM AI hr (AA (AB 0) (AA AE AD)))) (Ai Ad AE (deM AI hr (AA (AB 0) (AA AE AD)))))
      (AG (AZ 3 (AM Aa (Bf (AA (Ai Ad AE (deM AI hr (AA (AB 0) (AA AE AD)))) (AA (Ai Ad AE (deM AI hr (AA (AB 0) (AA AE AD)))) AD))) (deM AI hr (AA (AB 0) (AA AE AD)))) Gi.nd)
      (AL (Ac (Ar (AA (AB 1) (AA (AB 2) (AA (AB 3) (AA (deM Co hr (AA (AB 0) (AA (AB 1) AD))) (AA (deM AI hr (AA (AB 0) (AA AE AD))) (AA (deM AI hr (AA (AB 0) (AA AE AD))) AD)))))))))))
theorem Hq:AY ["_law_pen_here","_law_great"] ["_law_pen_here"] (AK D4):=scM
theorem Ba  (S:St.Src K mg "_law_pieces" D4)(AI:B4 P w K mg base):Gp P w K mg base:=by
 refine dfM 1 S Hq λhr hu=>?_
 exact(AG (AZ 1 (Ai Ad (Ai RE AE AE) (deM AI hr (AA (AB 0) (AA AE AD)))) Hq.nd)
      (AL (Ac (AM Aa (Bf (AA (Ai Ad AE (deM AI hr (AA (AB 0) (AA AE AD)))) (AA (Ai Ad AE (deM AI hr (AA (AB 0) (AA AE AD)))) (AA (Ai Ad AE (deM AI hr (AA (AB 0) (AA AE AD)))) (AA (AB 1) AD))))) (Ai IV (deM AI hr (AA (AB 0) (AA AE AD))) AE)))))
theorem GV:AY ["_law_pen_here","_law_train_here","_law_found","_law_k"] ["_law_pen_here","_law_train_here"] (AK E5):=scM
theorem Ee  (S:St.Src K mg "_law_first" E5)(B:Bts mg)(AI:B4 P w K mg base)(Co:He P w K mg base)(Ba:Gp P w K mg base):K1 P w K mg base:=by
 refine dfM 3 S GV λhr hu=>?_
 exact(AG (AZ 2 (Bf AD) GV.nd)
      (AG (EB lE rfl (FA rfl B.range (AA (AM Aa (Bf (AA AE (AA AE (AA (deM AI hr (AA (AB 0) (AA AE AD))) AD)))) (deM AI hr (AA (AB 0) (AA AE AD)))) AD)) (Ak 3 GV.nd) (AL (Bn (FO kz k0 Df (AB 2) (AA (Ar (AA (deM AI hr (AA (AB 0) (AA (AM Aa (AB 1) AE) AD))) (AA (deM Ba hr (AA (AB 0) AD)) (AA (deM Co hr (AA (AB 0) (AA (AM Aa (AB 1) AE) AD))) AD)))) AD)))))
      (AL (Ac (BA BB rfl B.tuple m6 (AA (AB 2) AD))))))
end
section
open PyProof.Rows (boot_isinstance boot_int boot_bool boot_tuple boot_str boot_list boot_abs boot_all boot_any boot_sum boot_max boot_min boot_range boot_enumerate boot_zip boot_sorted boot_set boot_divmod)
variable{P:ke}{w:lB}{K:jz}{mg:Str->j6 j4}{base:lD}
theorem N3:AY ["_law_book_here"] ["_law_book_here"] (AK C8):=scM
theorem LM:Ab ["_law_book_here"] (AK C8) ["_law_load"] (ixC [] 1) (NU C8 0):=csM
theorem LO:(["_law_load"]:Wp Str).Nodup:=by decide+kernel
theorem Bh  (S:St.Src K mg "_law_begun" C8)(B:Bts mg):F2 P w K mg base:=by
 refine dfM 0 S N3 λhr hu=>?_
 exact(AL (Ac (Bf (AA (EJ [] 1 ["_law_load"] rfl LM (Cj (AM Aa (AB 0) AE)) (λs H fp=>⟨Ak 0 LO,EI,BA Lg rfl B.list yf (AA (AB 0) AD)⟩)) (AA (BA BB rfl B.tuple m6 (AA (AM Aa (AM Aa (AB 0) AE) AE) AD)) (AA (Bf AD) AD))))))
theorem JA:AY ["_law_pen_here","_law_bottom"] ["_law_pen_here"] (AK Es):=scM
theorem E9  (S:St.Src K mg "_law_share" Es)(AI:B4 P w K mg base)(Av:Dr P w K mg base):Kp P w K mg base:=by
 refine dfM 2 S JA λhr hu=>?_
 exact(AG (AZ 1 (Ai Ad AE (deM AI hr (AA (AB 0) (AA AE AD)))) JA.nd)
      (AL (Ac (deM Av hr (AA (Ai Ad AE (deM AI hr (AA (AB 0) (AA (AB 1) AD)))) (AA (AB 1) AD))))))
theorem ML:AY ["_law_pen_here","_law_many"] ["_law_pen_here","_law_many"] (AK Cg):=scM
theorem K2:Ab ["_law_pen_here","_law_many"] (AK Cg) ["_law_pen_here","_law_one"] (ixC [0] 1) (NU Cg 0):=csM
theorem Ke:(["_law_pen_here","_law_one"]:Wp Str).Nodup:=by decide+kernel
theorem D0  (S:St.Src K mg "_law_worths" Cg)(B:Bts mg)(AI:B4 P w K mg base):JS P w K mg base:=by
 refine dfM 1 S ML λhr hu=>?_
 exact(AL (Ac (BA BB rfl B.tuple m6 (AA (EJ [0] 1 ["_law_pen_here","_law_one"] rfl K2 (FA rfl B.range (AA (AB 1) AD)) (λs H fp=>⟨Ak 1 Ke,EI,Ai Ad AE (AM Aa (Bf (AA (deM AI hr (AA (AB 0) (AA AE AD))) (AA (deM AI hr (AA (AB 0) (AA AE AD))) AD))) (deM AI hr (AA (AB 0) (AA AE AD))))⟩)) AD))))
theorem BR:AY ["_law_pen_here","_law_train_here","_law_state","_law_loads","_law_holders","_law_numbers","_law_full","_law_way","_law_load","_law_some","_law_same","_law_kind","_law_left","_law_partner"] ["_law_pen_here","_law_train_here","_law_state"] (AK CB):=scM
theorem MU:Ab ["_law_pen_here","_law_train_here","_law_state","_law_loads","_law_holders","_law_numbers","_law_full","_law_way","_law_load","_law_some","_law_same","_law_kind","_law_left","_law_partner"] (AK CB) ["_law_at","_law_load"] (ixC [] 2) (NU CB 0):=csM
theorem IT:(["_law_at","_law_load"]:Wp Str).Nodup:=by decide+kernel
theorem Ma:Ab ["_law_pen_here","_law_train_here","_law_state","_law_loads","_law_holders","_law_numbers","_law_full","_law_way","_law_load","_law_some","_law_same","_law_kind","_law_left","_law_partner"] (AK CB) ["_law_loads","_law_load","_law_at"] (ixC [3,8] 1) (NU CB 1):=csM
theorem MW:(["_law_loads","_law_load","_law_at"]:Wp Str).Nodup:=by decide+kernel
theorem Mn:Ab ["_law_pen_here","_law_train_here","_law_state","_law_loads","_law_holders","_law_numbers","_law_full","_law_way","_law_load","_law_some","_law_same","_law_kind","_law_left","_law_partner"] (AK CB) ["_law_numbers","_law_number"] (ixC [5] 1) (NU CB 2):=csM
theorem Mu:(["_law_numbers","_law_number"]:Wp Str).Nodup:=by decide+kernel
theorem Ft  (S:St.Src K mg "_law_deed" CB)(B:Bts mg)(AI:B4 P w K mg base)(Ba:Gp P w K mg base)(E9:Kp P w K mg base)(D0:JS P w K mg base):La P w K mg base:=by
 refine dfM 3 S BR λhr hu=>?_
 exact(AG (GW (AB 2) (GR rfl (AQ (Ak 3 BR.nd) (AQ (Ak 4 BR.nd) (AQ (Ak 5 BR.nd) CY)))))
      (AG (Di [] 2 ["_law_at","_law_load"] rfl BR.nd rfl rfl MU (RN rfl B.enumerate (AB 3)) (λs H fp=>⟨GR rfl (AQ (Ak 0 IT) (AQ (Ak 1 IT) CY)),GC (Af Kr (AM Aa (AB 1) AE) AE),AB 0⟩))
      (AG (AZ 7 (deM AI hr (AA (AB 0) (AA AE AD))) BR.nd)
      (AG (CP (DW.dt (V2 (Af LR (AB 7) AE) (RJ (Af (B2 hu) (AB 6) (Bf AD))))) (AL (Ac (Ar (AA BM (AA (deM AI hr (AA (AB 0) (AA (AM Aa (AB 1) AE) AD))) (AA (deM AI hr (AA (AB 0) (AA (AM Aa (AB 1) AE) AD))) (AA (deM Ba hr (AA (AB 0) AD)) AD))))))) Az)
      (AG (AZ 8 (AM Aa (AB 6) (deM AI hr (AA (AB 0) (AA (BH CK rfl B.len pB (AA (AB 6) AD)) AD)))) BR.nd)
      (AG (AZ 9 (Ai Ad AE (deM AI hr (AA (AB 0) (AA (BH (Kg rfl) rfl B.min boot_min (AA (AM Aa (AM Aa (AB 3) (AB 8)) AE) (AA AE AD))) AD)))) BR.nd)
      (AG (CP (Af LR (AB 7) AE) (AG (Di [3,8] 1 ["_law_loads","_law_load","_law_at"] rfl BR.nd rfl rfl Ma (Cj (AB 6)) (λs H fp=>⟨Ak 2 MW,GC (DW.dt (J3 (Af (FE hu) (AB 2) (AB 1)) (Hd (Af (B2 hu) (AM Aa (AM Aa (AB 0) (AB 2)) AE) (AM Aa (AM Aa (AB 0) (AB 1)) AE))))),AB 2⟩))
      (AL (CP (Af (FE hu) (AB 10) (Bf AD)) (AL (Ac (Ar (AA BM (AA (AB 8) (AA (AM Aa (AB 10) (deM AI hr (AA (AB 0) (AA (BH CK rfl B.len pB (AA (AB 10) AD)) AD)))) AD)))))) Az))) Az)
      (AG (CP (DW.dt (J3 (Af LR (AB 7) AE) (Hd (Af Kr (AM Aa (AB 1) AE) AE)))) (AG (AZ 11 (Ai FX (Ai Ad (Ai Ad (AM Aa (AM Aa (AB 3) (AB 8)) AE) AE) (deM AI hr (AA (AB 0) (AA (Ai FZ (AM Aa (AB 1) AE) AE) AD)))) (AM Aa (AB 1) AE)) BR.nd)
      (AG (Di [5] 1 ["_law_numbers","_law_number"] rfl BR.nd rfl rfl Mn (FA rfl B.range (AA AE AD)) (λs H fp=>⟨Ak 1 Mu,GC (Af Km (AB 1) (AB 0)),AB 1⟩))
      (AG (CP (DW.dt (J3 (Af (B2 hu) (AB 7) AE) (Hd (Af (FE hu) (AB 12) (Bf AD))))) (AL (Ac (Ar (AA BM (AA (AM Aa (AB 12) (deM AI hr (AA (AB 0) (AA (BH CK rfl B.len pB (AA (AB 12) AD)) AD)))) (AA (AB 8) (AA (AB 9) (AA (AB 11) (AA (deM Ba hr (AA (AB 0) AD)) AD))))))))) Az)
      (AL (Ac (Ar (AA BM (AA (AB 8) (AA (AB 9) (AA (AB 11) (AA (deM Ba hr (AA (AB 0) AD)) AD))))))))))) Az)
      (AG (CP (Af (B2 hu) (AB 7) AE) (AL (Ac (Ar (AA BM (AA (AB 8) (AA (AB 9) AD)))))) Az)
      (AG (CP (DW.dt (J3 (Af (B2 hu) (AB 7) AE) (Hd (Af Kr (AM Aa (AB 1) AE) AE)))) (AG (AZ 13 (deM AI hr (AA (AB 0) (AA (AM Aa (AB 1) AE) AD))) BR.nd)
      (AL (Ac (Ar (AA BM (AA (AB 13) (AA (Ai FX (Ai Ad (Ai Ad (AB 13) AE) (deM AI hr (AA (AB 0) (AA (Ai FZ (AM Aa (AB 1) AE) AE) AD)))) (AM Aa (AB 1) AE)) (AA (deM E9 hr (AA (AB 0) AD)) AD)))))))) Az)
      (AL (Ac (Ar (AA BM (AA (AB 8) (AA (AB 9) (AA (deM D0 hr (AA (AB 0) (AA (Ai Ad (AM Aa (AB 1) AE) AE) AD))) AD)))))))))))))))))
theorem OM:AY ["_law_one","_law_other"] ["_law_one","_law_other"] (AK Fg):=scM
theorem BP  (S:St.Src K mg "_law_plus" Fg)(Av:Dr P w K mg base):Fb P w K mg base:=by
 refine dfM 2 S OM λhr hu=>?_
 exact(AL (Ac (deM Av hr (AA (Ai Ad (Ai Cb (AM Aa (AB 0) AE) (AM Aa (AB 1) AE)) (Ai Cb (AM Aa (AB 1) AE) (AM Aa (AB 0) AE))) (AA (Ai Cb (AM Aa (AB 0) AE) (AM Aa (AB 1) AE)) AD)))))
theorem Ni:AY ["_law_one","_law_other"] ["_law_one","_law_other"] (AK Ew):=scM
theorem BC  (S:St.Src K mg "_law_times" Ew)(Av:Dr P w K mg base):F7 P w K mg base:=by
 refine dfM 2 S Ni λhr hu=>?_
 exact(AL (Ac (deM Av hr (AA (Ai Cb (AM Aa (AB 0) AE) (AM Aa (AB 1) AE)) (AA (Ai Cb (AM Aa (AB 0) AE) (AM Aa (AB 1) AE)) AD)))))
end
section
open PyProof.Rows (boot_isinstance boot_int boot_bool boot_tuple boot_str boot_list boot_abs boot_all boot_any boot_sum boot_max boot_min boot_range boot_enumerate boot_zip boot_sorted boot_set boot_divmod)
variable{P:ke}{w:lB}{K:jz}{mg:Str->j6 j4}{base:lD}
theorem DX:AY ["_law_one","_law_other","_law_found","_law_mine","_law_its","_law_both"] ["_law_one","_law_other"] (AK D3):=scM
theorem D8  (S:St.Src K mg "_law_pooled" D3)(B:Bts mg)(Av:Dr P w K mg base)(BP:Fb P w K mg base)(BC:F7 P w K mg base):JG P w K mg base:=by
 refine dfM 3 S DX λhr hu=>?_
 exact(AG (AZ 2 (Bf AD) DX.nd)
      (AG (EB lE rfl (Wm rfl B.zip (AM Aa (AB 0) AE) (AM Aa (AB 1) AE)) (GR rfl (AQ (Ak 3 DX.nd) (AQ (Ak 4 DX.nd) CY))) (AG (AZ 5 (deM BP hr (AA (deM BC hr (AA (Ar (AA (AM Aa (AB 0) AE) (AA AE AD))) (AA (AB 3) AD))) (AA (deM BC hr (AA (Ar (AA (AM Aa (AB 1) AE) (AA AE AD))) (AA (AB 4) AD))) AD))) DX.nd)
      (AL (Bn (FO kz k0 Df (AB 2) (AA (deM BC hr (AA (AB 5) (AA (deM Av hr (AA AE (AA (Ai Ad (AM Aa (AB 0) AE) (AM Aa (AB 1) AE)) AD))) AD))) AD))))))
      (AL (Ac (BA BB rfl B.tuple m6 (AA (AB 2) AD))))))
theorem HQ:AY ["_law_train_here","_law_loads","_law_deed_here","_law_worths_here","_law_whole_here"] ["_law_train_here","_law_loads","_law_deed_here"] (AK Dk):=scM
theorem L6:Ab ["_law_train_here","_law_loads","_law_deed_here","_law_worths_here","_law_whole_here"] (AK Dk) ["_law_worths_here","_law_kind","_law_pieces_here","_law_owners"] (ixC [3] 3) (NU Dk 0):=csM
theorem GG:(["_law_worths_here","_law_kind","_law_pieces_here","_law_owners"]:Wp Str).Nodup:=by decide+kernel
theorem Fw  (S:St.Src K mg "_law_cost" Dk)(B:Bts mg)(Av:Dr P w K mg base):LX P w K mg base:=by
 refine dfM 2 S HQ λhr hu=>?_
 exact(AG (AZ 3 (AM Aa (AB 2) AE) HQ.nd)
      (AG (AZ 4 (Ai Ad (BH (K4 rfl) rfl B.sum boot_sum (AA (EJ [3] 3 ["_law_worths_here","_law_kind","_law_pieces_here","_law_owners"] rfl L6 (Cj (AB 1)) (λs H fp=>⟨GR rfl (AQ (Ak 1 GG) (AQ (Ak 2 GG) (AQ (Ak 3 GG) CY))),EI,Ai Cb (AB 2) (AM Aa (AB 0) (AB 1))⟩)) AD)) (Ai Cb (AM Aa (AB 0) AE) (AM Aa (AB 3) (Vf Mb AE)))) HQ.nd)
      (AL (Ac (deM Av hr (AA (Ai Cb (AM Aa (AB 2) AE) (AM Aa (AB 3) (AM Aa (AM Aa (AB 1) (AM Aa (AB 2) AE)) AE))) (AA (AB 4) AD)))))))
theorem OZ:AY ["_law_one","_law_other"] ["_law_one","_law_other"] (AK Fi):=scM
theorem DK  (S:St.Src K mg "_law_less" Fi)(BP:Fb P w K mg base):Iy P w K mg base:=by
 refine dfM 3 S OZ λhr hu=>?_
 exact(AL (Ac (deM BP hr (AA (AB 0) (AA (Ar (AA (Ai FZ AE (AM Aa (AB 1) AE)) (AA (AM Aa (AB 1) AE) AD))) AD)))))
theorem FH:AY ["_law_shares","_law_part","_law_owners","_law_found","_law_mine","_law_its"] ["_law_shares","_law_part","_law_owners"] (AK Em):=scM
theorem Dm  (S:St.Src K mg "_law_borne" Em)(B:Bts mg)(BP:Fb P w K mg base)(BC:F7 P w K mg base)(DK:Iy P w K mg base):Kh P w K mg base:=by
 refine dfM 4 S FH λhr hu=>?_
 exact(AG (AZ 3 (Bf AD) FH.nd)
      (AG (EB lE rfl (Wm rfl B.zip (AB 0) (AB 2)) (GR rfl (AQ (Ak 4 FH.nd) (AQ (Ak 5 FH.nd) CY))) (AL (Bn (FO kz k0 Df (AB 3) (AA (deM BP hr (AA (deM BC hr (AA (AB 4) (AA (deM DK hr (AA (Ar (AA AE (AA AE AD))) (AA (AB 1) AD))) AD))) (AA (deM BC hr (AA (AB 5) (AA (AB 1) AD))) AD))) AD)))))
      (AL (Ac (BA BB rfl B.tuple m6 (AA (AB 3) AD))))))
theorem HY:AY ["_law_shares","_law_deed_here","_law_found","_law_passes"] ["_law_shares","_law_deed_here"] (AK Fm):=scM
theorem EX  (S:St.Src K mg "_law_sold" Fm)(B:Bts mg)(BP:Fb P w K mg base)(BC:F7 P w K mg base)(DK:Iy P w K mg base):Lm P w K mg base:=by
 refine dfM 4 S HY λhr hu=>?_
 exact(AG (AZ 2 (BA Lg rfl B.list yf (AA (AB 0) AD)) HY.nd)
      (AG (AZ 3 (deM BC hr (AA (AM Aa (AB 2) (AM Aa (AB 1) AE)) (AA (AM Aa (AB 1) AE) AD))) HY.nd)
      (AG (Ca (deM DK hr (AA (AM Aa (AB 2) (AM Aa (AB 1) AE)) (AA (AB 3) AD))) (AB 2) (AM Aa (AB 1) AE))
      (AG (Ca (deM BP hr (AA (AM Aa (AB 2) (AM Aa (AB 1) AE)) (AA (AB 3) AD))) (AB 2) (AM Aa (AB 1) AE))
      (AL (Ac (BA BB rfl B.tuple m6 (AA (AB 2) AD))))))))
theorem DC:AY ["_law_train_here","_law_state","_law_deed_here","_law_loads","_law_holders","_law_numbers","_law_part","_law_owners","_law_load"] ["_law_train_here","_law_state","_law_deed_here"] (AK Fy):=scM
theorem Fd  (S:St.Src K mg "_law_turn" Fy)(Fw:LX P w K mg base)(Dm:Kh P w K mg base)(EX:Lm P w K mg base):Li P w K mg base:=by
 refine dfM 5 S DC λhr hu=>?_
 exact(AG (GW (AB 1) (GR rfl (AQ (Ak 3 DC.nd) (AQ (Ak 4 DC.nd) (AQ (Ak 5 DC.nd) CY)))))
      (AL (CP (Af (B2 hu) (AM Aa (AB 2) AE) BM) (AG (J7 (i:=6) (j:=7) rfl DC.nd rfl rfl (by decide) rfl rfl (deM Fw hr (AA (AB 0) (AA (AB 3) (AA (AB 2) AD)))) (AM Aa (AM Aa (AB 3) (AM Aa (AB 2) AE)) AE))
      (AG (Ca (Ai FZ (AM Aa (AM Aa (AB 3) (AM Aa (AB 2) AE)) AE) (AM Aa (AB 2) AE)) (AM Aa (AB 3) (AM Aa (AB 2) AE)) AE)
      (AG (EB lE rfl (Cj (AB 3)) (Ak 8 DC.nd) (AL (Ca (deM Dm hr (AA (AM Aa (AB 8) AE) (AA (AB 6) (AA (AB 7) AD)))) (AB 8) AE)))
      (AL (Ca (deM Dm hr (AA (AB 4) (AA (AB 6) (AA (AB 7) AD)))) (AB 1) AE))))) (AG (EB lE rfl (Cj (AB 3)) (Ak 8 DC.nd) (AL (Ca (deM EX hr (AA (AM Aa (AB 8) AE) (AA (AB 2) AD))) (AB 8) AE)))
      (AL (Ca (deM EX hr (AA (AB 4) (AA (AB 2) AD))) (AB 1) AE))))))
end
section
open PyProof.Rows (boot_isinstance boot_int boot_bool boot_tuple boot_str boot_list boot_abs boot_all boot_any boot_sum boot_max boot_min boot_range boot_enumerate boot_zip boot_sorted boot_set boot_divmod)
variable{P:ke}{w:lB}{K:jz}{mg:Str->j6 j4}{base:lD}
theorem C0:AY ["_law_train_here","_law_state","_law_deed_here","_law_loads","_law_holders","_law_numbers","_law_word","_law_one","_law_other","_law_load","_law_given","_law_kind","_law_got"] ["_law_train_here","_law_state","_law_deed_here"] (AK F8):=scM
theorem Oo:Ab ["_law_train_here","_law_state","_law_deed_here","_law_loads","_law_holders","_law_numbers","_law_word","_law_one","_law_other","_law_load","_law_given","_law_kind","_law_got"] (AK F8) ["_law_deed_here","_law_one"] (ixC [2] 1) (NU F8 0):=csM
theorem Ow:(["_law_deed_here","_law_one"]:Wp Str).Nodup:=by decide+kernel
theorem C4  (S:St.Src K mg "_law_do" F8)(B:Bts mg)(D8:JG P w K mg base)(Fd:Li P w K mg base):Jz P w K mg base:=by
 refine dfM 6 S C0 λhr hu=>?_
 exact(AG (GW (AB 1) (GR rfl (AQ (Ak 3 C0.nd) (AQ (Ak 4 C0.nd) (AQ (Ak 5 C0.nd) CY)))))
      (AG (AZ 6 (AM Aa (AB 2) AE) C0.nd)
      (AL (CP (Af (B2 hu) (AB 6) BM) (AL (Bn (FO kz k0 Df (AB 3) (AA (Bf (AA (AM Aa (AB 2) AE) (AA (AM Aa (AB 2) AE) (AA (BA BB rfl B.tuple m6 (AA (EJ [2] 1 ["_law_deed_here","_law_one"] rfl Oo (FA rfl B.range (AA (AM Aa (AB 0) AE) AD)) (λs H fp=>⟨Ak 1 Ow,EI,Ar (AA (BA IE rfl B.int xW (AA (Hr (B2 hu) (AB 1) (AM Aa (AB 0) AE)) AD)) (AA AE AD))⟩)) AD)) AD)))) AD)))) (AL (CP (Af (B2 hu) (AB 6) BM) (AG (J7 (i:=7) (j:=8) rfl C0.nd rfl rfl (by decide) rfl rfl (AM Aa (AB 3) (AM Aa (AB 2) AE)) (AM Aa (AB 3) (AM Aa (AB 2) AE)))
      (AG (Bn (FO kz k0 Df (AB 3) (AA (Bf (AA (AM Aa (AB 7) AE) (AA (Ai Ad (AM Aa (AB 7) AE) (AM Aa (AB 8) AE)) (AA (deM D8 hr (AA (AB 7) (AA (AB 8) AD))) AD)))) AD)))
      (AG (Ca AE (AB 7) AE)
      (AL (Ca AE (AB 8) AE))))) (AL (CP (Af PC (AB 6) (Ar (AA BM (AA BM AD)))) (AG (GW (HZ (AB 2) (Vf Mb AE)) (GR rfl (AQ (Ak 9 C0.nd) (AQ (Ak 10 C0.nd) (AQ (Ak 11 C0.nd) (AQ (Ak 12 C0.nd) CY))))))
      (AG (Ca (Ai FZ (AM Aa (AM Aa (AB 3) (AB 9)) AE) (AB 10)) (AM Aa (AB 3) (AB 9)) AE)
      (AG (Bn (FO kz k0 Df (AB 3) (AA (Bf (AA (AB 11) (AA (AB 12) (AA (AM Aa (AM Aa (AB 3) (AB 9)) AE) AD)))) AD)))
      (AL (Bn (FO qp PySem.F.type_list_extend Xk (AB 5) (AA (Ai Cb (R1 (AB 2) AE AE) (BA IE rfl B.int xW (AA (Hr (B2 hu) (AB 6) BM) AD))) AD))))))) (AL (CP (Af (B2 hu) (AB 6) BM) (AL (Ca (Ai FZ (AM Aa (AM Aa (AB 3) (AM Aa (AB 2) AE)) AE) (AM Aa (AB 2) AE)) (AM Aa (AB 3) (AM Aa (AB 2) AE)) AE)) (AL (Bn (deM Fd hr (AA (AB 0) (AA (AB 1) (AA (AB 2) AD))))))))))))))))
theorem Dh:AY ["_law_pen_here","_law_most","_law_train_here","_law_first_here","_law_state","_law_deeds","_law_k","_law_deed_here"] ["_law_pen_here","_law_most"] (AK Ds):=scM
theorem Mp:Ab ["_law_pen_here","_law_most","_law_train_here","_law_first_here","_law_state","_law_deeds","_law_k","_law_deed_here"] (AK Ds) ["_law_one"] (ixC [] 1) (NU Ds 0):=csM
theorem Mv:(["_law_one"]:Wp Str).Nodup:=by decide+kernel
theorem EY  (S:St.Src K mg "_law_book" Ds)(B:Bts mg)(AI:B4 P w K mg base)(Ek:KG P w K mg base)(Ee:K1 P w K mg base)(Bh:F2 P w K mg base)(Ft:La P w K mg base)(C4:Jz P w K mg base):Lr P w K mg base:=by
 refine dfM 7 S Dh λhr hu=>?_
 exact(AG (AZ 2 (deM Ek hr (AA (AB 0) AD)) Dh.nd)
      (AG (AZ 3 (deM Ee hr (AA (AB 0) (AA (AB 2) AD))) Dh.nd)
      (AG (J7 (i:=4) (j:=5) rfl Dh.nd rfl rfl (by decide) rfl rfl (deM Bh hr (AA (Ar (AA (AB 2) (AA (AB 3) (AA (Ar AD) AD)))) AD)) (Bf AD))
      (AG (EB lE rfl (FA rfl B.range (AA (deM AI hr (AA (AB 0) (AA (Ai Ad (AB 1) AE) AD))) AD)) (Ak 6 Dh.nd) (AG (AZ 7 (deM Ft hr (AA (AB 0) (AA (AB 2) (AA (AB 4) AD)))) Dh.nd)
      (AL (CP (DW.dt (V2 (Af (FE hu) (AM Aa (AB 7) AE) BM) (RJ (Af LR (BH CK rfl B.len pB (AA (EJ [] 1 ["_law_one"] rfl Mp (Cj (AB 5)) (λs H fp=>⟨Ak 0 Mv,GC (Af (B2 hu) (AM Aa (AB 0) AE) BM),AB 0⟩)) AD)) AE)))) (AG (Bn (deM C4 hr (AA (AB 2) (AA (AB 4) (AA (AB 7) AD)))))
      (AL (Bn (FO kz k0 Df (AB 5) (AA (AB 7) AD))))) Az))))
      (AL (Ac (Ar (AA (AB 2) (AA (AB 3) (AA (BA BB rfl B.tuple m6 (AA (AB 5) AD)) AD))))))))))
theorem Dv:AY ["_law_pen_here","_law_most","_law_word","_law_book_here","_law_turn_here"] ["_law_pen_here","_law_most","_law_word"] (AK CQ):=scM
theorem Je:Ab ["_law_pen_here","_law_most","_law_word","_law_book_here","_law_turn_here"] (AK CQ) ["_law_word","_law_deed_here"] (ixC [2] 1) (NU CQ 0):=csM
theorem JX:(["_law_word","_law_deed_here"]:Wp Str).Nodup:=by decide+kernel
theorem DR  (S:St.Src K mg "_law_book_of" CQ)(B:Bts mg)(EY:Lr P w K mg base):IX P w K mg base:=by
 refine dfM 8 S Dv λhr hu=>?_
 exact(AG (AZ 3 (deM EY hr (AA (AB 0) (AA (AB 1) AD))) Dv.nd)
      (AG (EB lE rfl (FA rfl B.range (AA AE AD)) (Ak 4 Dv.nd) (AG (CP (Af (FE hu) (EJ [2] 1 ["_law_word","_law_deed_here"] rfl Je (Cj (AM Aa (AB 3) AE)) (λs H fp=>⟨Ak 1 JX,GC (Af (B2 hu) (AM Aa (AB 1) AE) (AB 0)),AB 1⟩)) (Bf AD)) (AL (Ac (AB 3))) Az)
      (AL (AZ 3 (deM EY hr (AA (AB 0) (AA (AB 1) AD))) Dv.nd))))
      (AL (Ac (AB 3)))))
theorem AU:AY ["_law_pen_here","_law_book_here","_law_train_here","_law_first_here","_law_deeds","_law_state","_law_deed_here","_law_k","_law_left","_law_full","_law_load","_law_kind","_law_number","_law_given"] ["_law_pen_here"] (AK BY):=scM
theorem Jc:Ab ["_law_pen_here","_law_book_here","_law_train_here","_law_first_here","_law_deeds","_law_state","_law_deed_here","_law_k","_law_left","_law_full","_law_load","_law_kind","_law_number","_law_given"] (AK BY) ["_law_state","_law_number"] (ixC [5] 1) (NU BY 0):=csM
theorem JY:(["_law_state","_law_number"]:Wp Str).Nodup:=by decide+kernel
theorem Ji:Ab ["_law_pen_here","_law_book_here","_law_train_here","_law_first_here","_law_deeds","_law_state","_law_deed_here","_law_k","_law_left","_law_full","_law_load","_law_kind","_law_number","_law_given"] (AK BY) ["_law_at","_law_load"] (ixC [] 2) (NU BY 1):=csM
theorem GL:(["_law_at","_law_load"]:Wp Str).Nodup:=by decide+kernel
theorem Cr  (S:St.Src K mg "_law_trading" BY)(B:Bts mg)(AI:B4 P w K mg base)(Bh:F2 P w K mg base)(C4:Jz P w K mg base)(DR:IX P w K mg base):Hk P w K mg base:=by
 refine dfM 9 S AU λhr hu=>?_
 exact(AG (AZ 1 (deM DR hr (AA (AB 0) (AA AE (AA BM AD)))) AU.nd)
      (AG (GW (AB 1) (GR rfl (AQ (Ak 2 AU.nd) (AQ (Ak 3 AU.nd) (AQ (Ak 4 AU.nd) CY)))))
      (AG (CP (Af (B2 hu) (AM Aa (AB 2) AE) AE) (AG (AZ 2 (Ai Ad (Ar (AA (AM Aa (AB 2) AE) (AA AE AD))) (HZ (AB 2) AE)) AU.nd)
      (AL (GW (Ar (AA (Ar AD) (AA (Ar AD) AD))) (GR rfl (AQ (Ak 3 AU.nd) (AQ (Ak 4 AU.nd) CY)))))) Az)
      (AG (AZ 5 (deM Bh hr (AA (Ar (AA (AB 2) (AA (AB 3) (AA (Ar AD) AD)))) AD)) AU.nd)
      (AG (EB lE rfl (Cj (AB 4)) (Ak 6 AU.nd) (AL (Bn (deM C4 hr (AA (AB 2) (AA (AB 5) (AA (AB 6) AD)))))))
      (AG (EB lE rfl (FA rfl B.range (AA (deM AI hr (AA (AB 0) (AA AE AD))) AD)) (Ak 7 AU.nd) (AG (Di [5] 1 ["_law_state","_law_number"] rfl AU.nd rfl rfl Jc (FA rfl B.range (AA AE AD)) (λs H fp=>⟨Ak 1 JY,GC (Af Km (AB 1) (AM Aa (AB 0) AE)),AB 1⟩))
      (AG (Di [] 2 ["_law_at","_law_load"] rfl AU.nd rfl rfl Ji (RN rfl B.enumerate (AM Aa (AB 5) AE)) (λs H fp=>⟨GR rfl (AQ (Ak 0 GL) (AQ (Ak 1 GL) CY)),GC (Af Kr (AM Aa (AB 1) AE) AE),AB 0⟩))
      (AG (AZ 6 (Ar (AA BM (AA AE (AA (deM AI hr (AA (AB 0) (AA (AM Aa (AB 2) AE) AD))) (AA (Ai Ad AE (deM AI hr (AA (AB 0) (AA AE AD)))) AD))))) AU.nd)
      (AG (CP (DW.dt (J3 (Af (FE hu) (AB 9) (Bf AD)) (Hd (Af (FE hu) (AB 8) (Bf AD))))) (AG (AZ 10 (AM Aa (AB 9) (deM AI hr (AA (AB 0) (AA (BH CK rfl B.len pB (AA (AB 9) AD)) AD)))) AU.nd)
      (AG (AZ 11 (Ai FX (Ai Ad (Ai Ad (AM Aa (AM Aa (AM Aa (AB 5) AE) (AB 10)) AE) AE) (deM AI hr (AA (AB 0) (AA (Ai FZ (AM Aa (AB 2) AE) AE) AD)))) (AM Aa (AB 2) AE)) AU.nd)
      (AG (AZ 12 (AM Aa (AB 8) (deM AI hr (AA (AB 0) (AA (BH CK rfl B.len pB (AA (AB 8) AD)) AD)))) AU.nd)
      (AG (AZ 13 (Ai Ad AE (deM AI hr (AA (AB 0) (AA (BH (Kg rfl) rfl B.min boot_min (AA AE (AA (AM Aa (AM Aa (AM Aa (AB 5) AE) (AB 10)) AE) AD))) AD)))) AU.nd)
      (AL (AZ 6 (Ar (AA BM (AA (AB 12) (AA (AB 10) (AA (AB 13) (AA (AB 11) (AA (Ai Ad AE (deM AI hr (AA (AB 0) (AA AE AD)))) AD))))))) AU.nd)))))) Az)
      (AG (Bn (deM C4 hr (AA (AB 2) (AA (AB 5) (AA (AB 6) AD)))))
      (AL (AZ 4 (Ai Ad (AB 4) (Ar (AA (AB 6) AD))) AU.nd))))))))
      (AL (Ac (Ar (AA (AB 2) (AA (AB 3) (AA (AB 4) AD))))))))))))
theorem EU:AY ["_law_book_here","_law_state","_law_found","_law_deed_here"] ["_law_book_here"] (AK Bt):=scM
theorem Kj:Ab ["_law_book_here","_law_state","_law_found","_law_deed_here"] (AK Bt) ["_law_load"] (ixC [] 1) (NU Bt 0):=csM
theorem Kl:(["_law_load"]:Wp Str).Nodup:=by decide+kernel
theorem KW:Ab ["_law_book_here","_law_state","_law_found","_law_deed_here"] (AK Bt) ["_law_load"] (ixC [] 1) (NU Bt 1):=csM
theorem Kt:(["_law_load"]:Wp Str).Nodup:=by decide+kernel
theorem ED  (S:St.Src K mg "_law_states" Bt)(B:Bts mg)(Bh:F2 P w K mg base)(C4:Jz P w K mg base):JP P w K mg base:=by
 refine dfM 7 S EU λhr hu=>?_
 exact(AG (AZ 1 (deM Bh hr (AA (AB 0) AD)) EU.nd)
      (AG (AZ 2 (Bf (AA (Ar (AA (EJ [] 1 ["_law_load"] rfl Kj (Cj (AM Aa (AB 1) AE)) (λs H fp=>⟨Ak 0 Kl,EI,BA BB rfl B.tuple m6 (AA (AB 0) AD)⟩)) (AA (BA BB rfl B.tuple m6 (AA (AM Aa (AB 1) AE) AD)) AD))) AD)) EU.nd)
      (AG (EB lE rfl (Cj (AM Aa (AB 0) AE)) (Ak 3 EU.nd) (AG (Bn (deM C4 hr (AA (AM Aa (AB 0) AE) (AA (AB 1) (AA (AB 3) AD)))))
      (AL (Bn (FO kz k0 Df (AB 2) (AA (Ar (AA (EJ [] 1 ["_law_load"] rfl KW (Cj (AM Aa (AB 1) AE)) (λs H fp=>⟨Ak 0 Kt,EI,BA BB rfl B.tuple m6 (AA (AB 0) AD)⟩)) (AA (BA BB rfl B.tuple m6 (AA (AM Aa (AB 1) AE) AD)) AD))) AD))))))
      (AL (Ac (AB 2))))))
theorem ES:AY ["_law_book_here","_law_loads","_law_found","_law_deed_here"] ["_law_book_here"] (AK Dz):=scM
theorem Bs  (S:St.Src K mg "_law_trades" Dz)(ED:JP P w K mg base):Gu P w K mg base:=by
 refine dfM 8 S ES λhr hu=>?_
 exact(AG (AZ 1 (AM Aa (AM Aa (deM ED hr (AA (AB 0) AD)) (Vf Mb AE)) AE) ES.nd)
      (AG (AZ 2 eY ES.nd)
      (AG (EB lE rfl (Cj (AM Aa (AB 0) AE)) (Ak 3 ES.nd) (AL (CP (Af (B2 hu) (AM Aa (AB 3) AE) BM) (AL (Yd hu (Ar (AA (AM Aa (AB 3) AE) (AA (AM Aa (AM Aa (AB 1) (AM Aa (AB 3) AE)) AE) (AA (AM Aa (AB 3) AE) (AA (AM Aa (AB 3) AE) (AA (AM Aa (AB 3) AE) AD)))))) (AB 2) (AM Aa (AB 3) AE))) Az)))
      (AL (Ac (AB 2))))))
end
section
open PyProof.Rows (boot_isinstance boot_int boot_bool boot_tuple boot_str boot_list boot_abs boot_all boot_any boot_sum boot_max boot_min boot_range boot_enumerate boot_zip boot_sorted boot_set boot_divmod)
variable{P:ke}{w:lB}{K:jz}{mg:Str->j6 j4}{base:lD}
theorem Ah:AY ["_law_pen_here","_law_book_here","_law_kinds","_law_train_here","_law_deeds","_law_rows","_law_few","_law_number","_law_kind","_law_given","_law_other","_law_got","_law_many","_law_more"] ["_law_pen_here","_law_book_here"] (AK C1):=scM
theorem CW  (S:St.Src K mg "_law_mirrored" C1)(B:Bts mg)(AI:B4 P w K mg base)(Bs:Gu P w K mg base):HF P w K mg base:=by
 refine dfM 9 S Ah λhr hu=>?_
 exact(AG (AZ 2 (AM Aa (AM Aa (AB 1) AE) AE) Ah.nd)
      (AG (AZ 3 (Ar (AA AE (AA (AB 2) (AA AE (AA (Ar (AA (Ar (AA AE (AA AE AD))) AD)) (AA AE (AA AE AD))))))) Ah.nd)
      (AG (AZ 4 (Bf AD) Ah.nd)
      (AG (AZ 5 (YV rfl rfl B.sorted (deM Bs hr (AA (AB 1) AD)) ⟨rfl,rfl⟩) Ah.nd)
      (AG (AZ 6 (Ai FZ (BH CK rfl B.len pB (AA (AB 5) AD)) (BA IE rfl B.int xW (AA (Hr (B2 hu) (deM AI hr (AA (AB 0) (AA AE AD))) AE) AD))) Ah.nd)
      (AG (EB lE rfl (Cj (Kx (AB 5) (AB 6))) (GR rfl (AQ (Ak 7 Ah.nd) (AQ (Ak 8 Ah.nd) (AQ (Ak 9 Ah.nd) (AQ (Ak 10 Ah.nd) (AQ (Ak 11 Ah.nd) CY)))))) (AG (J7 (i:=12) (j:=13) rfl Ah.nd rfl rfl (by decide) rfl rfl (AB 11) (AB 9))
      (AG (CP (Af (B2 hu) (deM AI hr (AA (AB 0) (AA AE AD))) AE) (AL (AZ 12 (Ai Ad (AB 11) AE) Ah.nd)) Az)
      (AG (CP (Af (B2 hu) (deM AI hr (AA (AB 0) (AA AE AD))) AE) (AL (AZ 13 (Ai Ad (AB 9) AE) Ah.nd)) Az)
      (AG (Bn (FO kz k0 Df (AB 4) (AA (Ar (AA BM (AA AE (AA (AB 10) (AA (AB 12) AD))))) AD)))
      (AL (Bn (FO kz k0 Df (AB 4) (AA (Ar (AA BM (AA (AB 7) (AA (Ai FZ (BH CK rfl B.len pB (AA (AB 4) AD)) AE) (AA (AB 12) (AA (AB 8) (AA (AB 13) AD))))))) AD)))))))))
      (AL (Ac (Ar (AA (AB 3) (AA (Ar AD) (AA (BA BB rfl B.tuple m6 (AA (Kx (AB 4) AE) AD)) AD))))))))))))
theorem Cc:AY ["_law_mine","_law_its","_law_found","_law_number","_law_one","_law_other"] ["_law_mine","_law_its"] (AK CA):=scM
theorem Be  (S:St.Src K mg "_law_all_clashes" CA)(B:Bts mg):Fq P w K mg base:=by
 refine dfM 0 S Cc λhr hu=>?_
 exact(AG (AZ 2 (Bf AD) Cc.nd)
      (AG (Y3 lE rfl (FA rfl B.range (AA AE AD)) (Ak 3 Cc.nd) (YQ (J7 (i:=4) (j:=5) rfl Cc.nd rfl rfl (by decide) rfl rfl (MC hu (AB 0) (AB 3) ⟨rfl,rfl,rfl,rfl⟩) (MC hu (AB 1) (AB 3) ⟨rfl,rfl,rfl,rfl⟩)) (YJ (DW.dt (J3 (Af Kf (AB 4) Gk) (Hd (Af Kf (AB 5) Gk)))) (dm (AL (CP (DW.dt (V2 (Af Kf (AB 4) Gk) (V2 (Af Kf (AB 5) Gk) (RJ (Af (FE hu) (HZ (AB 4) AE) (Ai Ad (HZ (AB 5) AE) (R1 (AB 5) AE AE))))))) (AL (Bn (FO kz k0 Df (AB 2) (AA (Ar (AA (AB 3) (AA (AB 4) (AA (AB 5) AD)))) AD)))) Az))))))
      (AL (Ac (AB 2)))))
theorem FK:AY ["_law_script","_law_k","_law_pen_here","_law_book_here","_law_mine","_law_row","_law_other","_law_its"] ["_law_script"] (AK Iz):=scM
end
theorem nr{α:Sort _}{a b:α}(h:a=b):a=b:=h
@[simp high] theorem Aq{α β:Type}(a:α)(f:α->Option β):(some a).bind f=f a:=Eq.mp (congrArg (λz=>z=f a) rfl) (Eq.refl (f a))
@[simp high] theorem fX{α β:Type}(a:α)(f:α->β):(some a).map f=some (f a):=Eq.mp (congrArg (λz=>z=some (f a)) rfl) (Eq.refl (some (f a)))
section
variable{E:En}{S:Sto}{op:OpN}{f g c:Ev}{d:D}{i:Nat}{w:Wv}{a b e h r':D}{r:Wp D}{fs:Wp Ev}
@[simp] theorem jn{o:Option D}{E:En}:at? (o::E) 0=o:=nr rfl
@[simp] theorem jt{o:Option D}{E:En}{i:Nat}:at? (o::E) (i+1)=at? E i:=nr rfl
@[simp] theorem gU:eC d E S=some (d,S):=nr rfl
@[simp] theorem gy:eV i E S=(at? E i).map λd=>(d,S):=nr rfl
@[simp] theorem YN:evs [] E S=some ([],S):=nr rfl
@[simp] theorem C5:evs (f::fs) E S=(f E S).bind λr=>(evs fs E r.2).map λq=>(r.1::q.1,q.2):=nr rfl
@[simp] theorem RT{cf:Bool}:Mc cf op fs E S=(evs fs E S).bind λr=>(op (r.1.map (dr r.2))).bind λw=>fin cf w r.2:=nr rfl
@[simp] theorem jA{cf:Bool}:fin cf (.val d) S=some (d,S):=by cases cf<;>rfl
@[simp] theorem iP:fin false (.own r) S=some (.lst r,S):=nr rfl
@[simp] theorem iN:fin true (.own r) S=some (.ref S.length,S++[.lst r]):=nr rfl
@[simp] theorem gX:dr S .non=.val .non:=nr rfl
@[simp] theorem iH{b:Bool}:dr S (.bl b)=.val (.bl b):=nr rfl
@[simp] theorem gB{i:Int}:dr S (.int i)=.val (.int i):=nr rfl
@[simp] theorem gr{x:Str}:dr S (.str x)=.val (.str x):=nr rfl
@[simp] theorem gZ:dr S (.tup r)=.val (.tup r):=nr rfl
@[simp] theorem gW:dr S (.lst r)=.val (.lst r):=nr rfl
@[simp] theorem gO{ns:List Int}:dr S (.scr ns)=.val (.scr ns):=nr rfl
theorem Aj{n:Nat}(h:S[n]?=Gc (.lst r)):dr S (.ref n)=.own r:=by
 show(match S[n]? with|some (.lst ds)=>Wv.own ds|_=>.val (.ref n))=_
 rw[h]
theorem AR{n:Nat}(h:S[n]?=Gc (.lst r)):EH S n=Gc r:=by
 unfold EH
 rw[h]
@[simp] theorem Wq:fz (.val d)=d:=nr rfl
@[simp] theorem gq:fz (.own r)=.lst r:=nr rfl
noncomputable def eL(g:Ev)(E:En)(r:D×Sto):j6 (D×Sto):=match r.1 with| .bl true=>g E r.2| .bl false=>Gc (.bl false,r.2)|_=>none
noncomputable def orK(g:Ev)(E:En)(r:D×Sto):j6 (D×Sto):=match r.1 with| .bl false=>g E r.2| .bl true=>Gc (.bl true,r.2)|_=>none
noncomputable def gf(r:D×Sto):j6 (D×Sto):=match r.1 with| .bl b=>Gc (.bl (!b),r.2)|_=>none
noncomputable def ifK(f g:Ev)(E:En)(r:D×Sto):j6 (D×Sto):=match r.1 with| .bl true=>f E r.2| .bl false=>g E r.2|_=>none
@[simp] theorem gI:eL g E (.bl true,S)=g E S:=nr rfl
@[simp] theorem gR:eL g E (.bl false,S)=some (.bl false,S):=nr rfl
@[simp] theorem jX:orK g E (.bl false,S)=g E S:=nr rfl
@[simp] theorem ir:orK g E (.bl true,S)=some (.bl true,S):=nr rfl
@[simp] theorem hU{b:Bool}:gf (.bl b,S)=some (.bl (!b),S):=nr rfl
@[simp] theorem iD:ifK f g E (.bl true,S)=f E S:=nr rfl
@[simp] theorem iA:ifK f g E (.bl false,S)=g E S:=nr rfl
@[simp] theorem VJ:Ja f g E S=(f E S).bind (eL g E):=nr rfl
@[simp] theorem Oj:eOr f g E S=(f E S).bind (orK g E):=nr rfl
@[simp] theorem dA:cU f E S=(f E S).bind gf:=nr rfl
@[simp] theorem eU:eIf c f g E S=(c E S).bind (ifK f g E):=nr rfl
@[simp] theorem Pp:Bi fs E S=(evs fs E S).bind λr=>if r.1.length<=sizeLine then some (.tup r.1,r.2)else none:=nr rfl
@[simp] theorem cW{cf:Bool}:Vs cf fs E S=(evs fs E S).bind λr=>if r.1.length<=sizeLine then fin cf (.own r.1) r.2 else none:=nr rfl
@[simp] theorem au{F:Fn}:AJ F fs E S=(evs fs E S).bind λr=>F r.1 r.2:=nr rfl
noncomputable def gc(op:Mo)(fs:Wp Ev)(E:En)(r:D×Sto):j6 (D×Sto):=match r.1 with
 | .ref n=>(EH r.2 n).bind λ_=>(evs fs E r.2).bind λp=>(EH p.2 n).bind λds=>(op p.2 ds p.1).map λq=>(q.1,p.2.set n (.lst q.2))
 |_=>none
@[simp] theorem cK{op:Mo}{n:Nat}:gc op fs E (.ref n,S)=(EH S n).bind λ_=>(evs fs E S).bind λp=>(EH p.2 n).bind λds=>(op p.2 ds p.1).map λq=>(q.1,p.2.set n (.lst q.2)):=nr rfl
@[simp] theorem dB{op:Mo}:Hz op f fs E S=(f E S).bind (gc op fs E):=nr rfl
@[simp] theorem cm:IZ S r [d]=if r.length<sizeLine then some (.non,r++[d])else none:=nr rfl
variable{x y:Ex}
noncomputable def ZZ(y:Ex)(r:Fl×En×Sto):j6 (Fl×En×Sto):=match r.1 with| .nx=>y r.2.1 r.2.2| .ret w=>Gc (.ret w,r.2)
noncomputable def ZK(x y:Ex)(E:En)(r:D×Sto):j6 (Fl×En×Sto):=match r.1 with| .bl true=>x E r.2| .bl false=>y E r.2|_=>none
@[simp] theorem J1:ZZ y (.nx,E,S)=y E S:=nr rfl
@[simp] theorem bq{w:D}:ZZ y (.ret w,E,S)=some (.ret w,E,S):=nr rfl
@[simp] theorem gG:ZK x y E (.bl true,S)=x E S:=nr rfl
@[simp] theorem gM:ZK x y E (.bl false,S)=y E S:=nr rfl
theorem WZ{b:lA}:ZK x y E (.bl b,S)=if b=true then x E S else y E S:=by cases b<;>exact nr rfl
@[simp] theorem O3:AW x y E S=(x E S).bind (ZZ y):=nr rfl
@[simp] theorem bc:Cw E S=some (.nx,E,S):=nr rfl
@[simp] theorem Ou:xIf c x y E S=(c E S).bind (ZK x y E):=nr rfl
@[simp] theorem ba:Bv f E S=(f E S).map λr=>(.ret r.1,E,r.2):=nr rfl
@[simp] theorem Ve:A4 i f E S=(f E S).map λr=>(.nx,E.set i (some r.1),r.2):=nr rfl
@[simp] theorem SX:By f E S=(f E S).map λr=>(.nx,E,r.2):=nr rfl
noncomputable def gS(d b:D)(E:En)(i:D×Sto):j6 (Fl×En×Sto):=match b,i.1 with
 | .ref n,.int j=>(EH i.2 n).bind λds=>(ixN ds.length j).map λm=>(.nx,E,i.2.set n (.lst (ds.set m d)))
 |_,_=>none
@[simp] theorem cg{n:Nat}{j:Int}:gS d (.ref n) E (.int j,S)=(EH S n).bind λds=>(ixN ds.length j).map λm=>(.nx,E,S.set n (.lst (ds.set m d))):=nr rfl
@[simp] theorem cT{k o:Ev}:NG k f o E S=(k E S).bind λr=>(f E r.2).bind λb=>(o E b.2).bind (gS r.1 b.1 E):=nr rfl
@[simp] theorem bu{t:Tf}:NT t f E S=(f E S).bind λr=>(t r.1 E r.2).map λE'=>(.nx,E',r.2):=nr rfl
@[simp] theorem cY{i j:Nat}:QQ i j f g E S=(f E S).bind λr=>(g E r.2).map λq=>(.nx,(E.set i (some r.1)).set j (some q.1),q.2):=by
  unfold QQ
  rw[C5]
  cases f E S with
  |none=>rfl
  |some r=>
   rw[Aq,Aq,C5]
   cases g E r.2 with
   |none=>rfl
   |some q=>rfl
@[simp] theorem Xh:tNm i d E S=some (E.set i (some d)):=nr rfl
@[simp] theorem fe{ts:List Tf}{ds:List D}:tTp ts (.tup ds) E S=tMs ts ds E S:=nr rfl
@[simp] theorem fJ{ts:List Tf}{n:Nat}:tTp ts (.ref n) E S=(EH S n).bind λds=>tMs ts ds E S:=nr rfl
@[simp] theorem dc:tMs [] [] E S=some E:=nr rfl
@[simp] theorem bf{t:Tf}{ts:List Tf}{ds:List D}:tMs (t::ts) (d::ds) E S=(t d E S).bind λE1=>tMs ts ds E1 S:=nr rfl
@[simp] theorem Z6{N:Nat}{ds:List D}:BU (BV N x) ds S=(x (ds.map some++List.replicate (N-ds.length) none) S).map λr=>(flD r.1,r.2.2):=by rw[Qn];rfl
@[simp] theorem gL:flD .nx=.non:=nr rfl
@[simp] theorem eQ:flD (.ret d)=d:=nr rfl
@[simp] theorem eS{i j:Int}:CO (.val (.int i)) (.val (.int j))=some (.val (.int (i+j))):=nr rfl
@[simp] theorem d6{xs ys:List D}:CO (.val (.tup xs)) (.val (.tup ys))=if xs.length+ys.length<=sizeLine then some (.val (.tup (xs++ys)))else none:=nr rfl
@[simp] theorem d8{xs ys:List D}:CO (.val (.lst xs)) (.val (.lst ys))=if xs.length+ys.length<=sizeLine then some (.own (xs++ys))else none:=nr rfl
@[simp] theorem fF{xs ys:List D}:CO (.own xs) (.val (.lst ys))=if xs.length+ys.length<=sizeLine then some (.own (xs++ys))else none:=nr rfl
@[simp] theorem cI{i j:Int}:F4 (.val (.int i)) (.val (.int j))=if ER i j=true then some (.val (.int (i*j)))else none:=nr rfl
@[simp] theorem dD{k:Int}:F4 (.val (.tup r)) (.val (.int k))=if(!r.isEmpty && decide (k<=0) && decide (-(2^63)<=k))=true then some (.val (.tup []))else if(!r.isEmpty && decide (1<=k) && decide (r.length*k.toNat<=sizeLine))=true then some (.val (.tup (List.replicate k.toNat r).flatten))else none:=nr rfl
@[simp] theorem fA:asS (.own r)=some r:=nr rfl
@[simp] theorem fS:asS (.val (.lst r))=some r:=nr rfl
@[simp] theorem dS:asS (.val (.tup r))=some r:=nr rfl
@[simp] theorem eF{ns:List Int}:asS (.val (.scr ns))=some (ns.map .int):=nr rfl
@[simp] theorem dY{j:Int}:wIx w (.val (.int j))=(asS w).bind λds=>(atI ds j).map .val:=nr rfl
theorem DB{α:Type}{xs:Wp α}{n:Nat}{x:α}(h:xs[n]?=Gc x):atI xs (n:Int)=Gc x:=YZ h
theorem W0{α:Type}{xs:Wp α}{i:Int}(h0:0<=i)(h1:i<xs.length):atI xs i=Gc (xs[i.toNat]'(by lia)):=by
 have:atI xs ((i.toNat:Nat):Int)=Gc (xs[i.toNat]'(by lia)):=DB (kE (by lia))
 rwa [lP h0]at this
@[simp] theorem eZ:atI (a::r) 0=some a:=DB (n:=0) rfl
@[simp] theorem jZ:atI (a::b::r) 1=some b:=DB (n:=1) rfl
@[simp] theorem jH:atI (a::b::e::r) 2=some e:=DB (n:=2) rfl
@[simp] theorem hZ:atI (a::b::e::h::r) 3=some h:=DB (n:=3) rfl
@[simp] theorem iB{k:D}:atI (a::b::e::h::k::r) 4=some k:=DB (n:=4) rfl
@[simp] theorem iW{k l:D}:atI (a::b::e::h::k::l::r) 5=some l:=DB (n:=5) rfl
theorem Ox{n k:Nat}(h:k<n):ixN n (k:Int)=Gc k:=by
 unfold ixN
 simp
 lia
theorem PZ{n:Nat}{i:Int}(h0:0<=i)(h1:i<n):ixN n i=Gc i.toNat:=by
 have:=Ox (n:=n) (k:=i.toNat) (by lia)
 rwa [lP h0]at this
@[simp] theorem ib{n:Nat}:ixN (n+1) 0=some 0:=PZ (by decide) (by lia)
@[simp] theorem iR{n:Nat}:ixN (n+2) 1=some 1:=PZ (by decide) (by lia)
@[simp] theorem ia{n:Nat}:ixN (n+3) 2=some 2:=PZ (by decide) (by lia)
@[simp] theorem Hl{i j:Int}:deq (.int i) (.int j)=(i==j):=nr rfl
@[simp] theorem fY{i j:Int}:Dj (.int i) (.int j)=true:=nr rfl
@[simp] theorem fI{w':Wv}:wEq w w'=if Dj (fz w) (fz w')=true then some (.val (.bl (deq (fz w) (fz w'))))else none:=nr rfl
@[simp] theorem Iv{w':Wv}:wNe w w'=if Dj (fz w) (fz w')=true then some (.val (.bl (!deq (fz w) (fz w'))))else none:=nr rfl
@[simp] theorem dZ{i j:Int}:wLt (.val (.int i)) (.val (.int j))=some (.val (.bl (decide (i<j)))):=nr rfl
@[simp] theorem fC{i j:Int}:wGt (.val (.int i)) (.val (.int j))=some (.val (.bl (decide (j<i)))):=nr rfl
@[simp] theorem dR{i j:Int}:wGe (.val (.int i)) (.val (.int j))=some (.val (.bl (decide (j<=i)))):=nr rfl
@[simp] theorem cx{i j:Int}:NS (.val (.int i)) (.val (.int j))=some (.val (.int (i-j))):=nr rfl
@[simp] theorem cS{i:Int}:XT (.val (.int i))=some (.val (.int (-i))):=nr rfl
@[simp] theorem b9{i j:Int}:OG (.val (.int i)) (.val (.int j))=(if 0<j then some (.val (.int (i % j)))else none):=by
  show ux Wv.val (if 0<j then Gc (D.int (i % j))else none)=_
  split<;>rfl
@[simp] theorem Zh{i j:Int}:OJ (.val (.int i)) (.val (.int j))=(if(decide (0<j) && decide (j.natAbs<Gj))=true then some (.val (.int (i / j)))else none):=by
  show ux Wv.val (if(decide (0<j) && decide (j.natAbs<Gj))=true then Gc (D.int (i / j))else none)=_
  split<;>rfl
@[simp] theorem bY{i j:Int}:cE (.val (.int i)) (.val (.int j))=if(decide (0<=j) && decide (j<=1000) && decide (i.natAbs<2^64))=true then some (.val (.int (i^j.toNat)))else none:=by
  show ux Wv.val (if(decide (0<=j) && decide (j<=1000) && decide (i.natAbs<2^64))=true then Gc (D.int (i^j.toNat))else none)=_
  split<;>rfl
@[simp] theorem dE{i:Int}:cH (.val (.int i))=some (.val (.int (i.natAbs:Int))):=by
  show Gc (Wv.val (D.int (if i<0 then-i else i)))=_
  congr 3
  split<;>lia
@[simp] theorem c7:HC (.own r)=some (.val (.int r.length)):=nr rfl
@[simp] theorem WL:HC (.val (.lst r))=some (.val (.int r.length)):=nr rfl
@[simp] theorem dC:HC (.val (.tup r))=some (.val (.int r.length)):=nr rfl
@[simp] theorem cQ{ns:List Int}:HC (.val (.scr ns))=some (.val (.int ns.length)):=by
  show Gc (Wv.val (D.int ((ns.map D.int).length:Nat)))=_
  rw[kT]
@[simp] theorem ZM:Cv w=(asS w).map λds=>.val (.tup ds):=nr rfl
@[simp] theorem Zd:Om w=(asS w).map λds=>.own ds:=nr rfl
@[simp] theorem gj{b:Bool}:Um (.val (.bl b))=some (.val (.int (if b then 1 else 0))):=nr rfl
@[simp] theorem cR{i j:Int}:cc (.val (.int i)) (.val (.int j))=some (.val (.int (if j>i then j else i))):=nr rfl
@[simp] theorem cZ{i j:Int}:Wd (.val (.int i)) (.val (.int j))=some (.val (.int (if j<i then j else i))):=nr rfl
theorem AN{n:Nat}(h:n<=1000):n<=sizeLine:=kF h (by decide)
@[simp] theorem sz1:(1:Nat)<=sizeLine:=AN (by decide)
@[simp] theorem sz2:(2:Nat)<=sizeLine:=AN (by decide)
@[simp] theorem sz3:(3:Nat)<=sizeLine:=AN (by decide)
@[simp] theorem sz4:(4:Nat)<=sizeLine:=AN (by decide)
@[simp] theorem sz5:(5:Nat)<=sizeLine:=AN (by decide)
@[simp] theorem sz6:(6:Nat)<=sizeLine:=AN (by decide)
@[simp] theorem IM:Dl E S=some (.bl true,S):=nr rfl
@[simp] theorem bz{s:Sr}{t:Tf}{b:Ex}:HH s t b E S=(s E S).bind λr=>HN r.1.2 t b r.1.1 E r.2:=nr rfl
@[simp] theorem Ao:gOk [] S:=λ_ h=>(nomatch h)
theorem ET{gs:Gd}{t:Tf}{b:Ex}(h:gOk gs S):HN gs t b [] E S=Gc (.nx,E,S):=by
 unfold HN
 rw[kh h]
theorem RM {gs : Gd} {t : Tf} {b : Ex} {ds : Wp D} (h : gOk gs S) : HN gs t b (d :: ds) E S = (t d E S).bind fun E1 => (b E1 S).bind fun r => match r.1 with
    | .nx => HN gs t b ds r.2.1 r.2.2
    | .ret w => Gc (.ret w, r.2) := by
  rw [HN, kh h]
  all_goals rfl
theorem B3{gs:Gd}{t:Tf}{b:Ex}{ds:Wp D}(h:gOk gs S):HN gs t b (d::ds) E S=(t d E S).bind λE1=>(b E1 S).bind (ZZ (HN gs t b ds)):=by
 rw[RM h]
 rfl
@[simp] theorem ck:GU f E S=(f E S).bind λr=>(sqD r.2 r.1).map λp=>(p,r.2):=nr rfl
@[simp] theorem fw:sqD S (.tup r)=some (r,[]):=nr rfl
@[simp] theorem di:sqD S (.lst r)=some (r,[]):=nr rfl
theorem EG{n:Nat}(h:S[n]?=Gc (.lst r)):sqD S (.ref n)=Gc (r,[(n,r)]):=by
 show(EH S n).map (λds=>(ds,[(n,ds)]))=_
 rw[AR h]
 rfl
@[simp] theorem cJ:Xo f E S=(f E S).bind λr=>(sqD r.2 r.1).map λp=>((Of 0 p.1,p.2),r.2):=nr rfl
@[simp] theorem dF:Zx f g E S=(f E S).bind λr=>(g E r.2).bind λq=>(sqD q.2 r.1).bind λa=>(sqD q.2 q.1).map λb=>((OF a.1 b.1,a.2++b.2),q.2):=by
  unfold Zx
  rw[C5]
  cases f E S with
  |none=>rfl
  |some r=>
   rw[Aq,Aq,C5]
   cases g E r.2 with
   |none=>rfl
   |some q=>rfl
noncomputable def HG(j:Int):lA:=decide (-(2^62)<=j) && decide (j<2^62)
theorem Dc{j:Int}(h: -1000000<=j)(g:j<=1000000):HG j=true:=by
 unfold HG
 rw[kQ]
 exact⟨mZ (by lia),mZ (by lia)⟩
noncomputable def gQ(S:Sto):D->j6 ((Wp D×Gd)×Sto)
 | .int j=>if HG j=true then Gc ((J6 0 j.toNat,[]),S)else none
 |_=>none
@[simp] theorem cM{j:Int}:gQ S (.int j)=if HG j=true then some ((J6 0 j.toNat,[]),S)else none:=nr rfl
@[simp] theorem c8:Lx [f] E S=(f E S).bind λr=>gQ r.2 r.1:=by
  unfold Lx
  rw[C5]
  cases f E S with
  |none=>rfl
  |some r=>
   obtain⟨d,S1⟩:=r
   rw[Aq,YN,fX,Aq,Aq]
   cases d<;>rfl
@[simp] theorem aQ{cf:Bool}{cap:List Nat}{m:Nat}{s:Sr}{t:Tf}:Lv cf cap m s t c f E S=(s E S).bind λr=>(CV r.1.2 t c f r.1.1 [] (Qt cap m E) r.2).bind λq=>fin cf (.own q.1) q.2:=nr rfl
@[simp] theorem cy{cap:List Nat}{m:Nat}:Qt cap m E=cap.map (at? E)++List.replicate m none:=nr rfl
@[simp] theorem QL{i:Int}:Jb (.int i::r)=(Jb r).map λns=>i::ns:=by
  unfold Jb
  rw[xK]
  show(do let r1<-Gc i;let rs<-List.mapM intD r;pure (r1::rs))=_
  cases List.mapM intD r<;>rfl
theorem Fp:∀(ns:Wp Int),Jb (ns.map D.int)=Gc ns
 | []=>rfl
 |n::ns=>by rw[kU,QL,Fp ns];rfl
@[simp] theorem cP:We (.own r)=(Jb r).map λns=>.val (.int ns.sum):=nr rfl
@[simp] theorem cX:We (.val (.lst r))=(Jb r).map λns=>.val (.int ns.sum):=nr rfl
@[simp] theorem gw:OE false w (.val .non)=some (.val (.bl (isN w))):=nr rfl
@[simp] theorem hJ:OE true w (.val .non)=some (.val (.bl (!isN w))):=nr rfl
@[simp] theorem jU{i:Int}{w:Wv}:Hj true false [w,.val (.int i)]=wSl (some i) none w:=nr rfl
@[simp] theorem iU{i:Int}{w:Wv}:Hj false true [w,.val (.int i)]=wSl none (some i) w:=nr rfl
@[simp] theorem iK{i j:Int}{w:Wv}:Hj true true [w,.val (.int i),.val (.int j)]=wSl (some i) (some j) w:=nr rfl
@[simp] theorem gA{lo hi:Option Int}:wSl lo hi (.val (.tup r))=some (.val (.tup (IY r lo hi))):=nr rfl
@[simp] theorem fZ{lo hi:Option Int}:wSl lo hi (.val (.lst r))=some (.own (IY r lo hi)):=nr rfl
@[simp] theorem eM{lo hi:Option Int}:wSl lo hi (.own r)=some (.own (IY r lo hi)):=nr rfl
end
structure CC(A:Wp Nat)(S S':Sto):Prop where
 len:S.length<=S'.length
 keep:∀n,n<S.length->n∉A->S'[n]?=S[n]?
theorem CC.refl{A:Wp Nat}{S:Sto}:CC A S S:=⟨kA _,λ_ _ _=>rfl⟩
theorem CC.trans{A:Wp Nat}{S S' S2:Sto}(h:CC A S S')(g:CC A S' S2):CC A S S2:=⟨kF h.len g.len,λn hn ha=>(g.keep n (kD hn h.len) ha).trans (h.keep n hn ha)⟩
theorem CC.mono{A B:Wp Nat}{S S':Sto}(h:CC A S S')(s:∀n∈A,n∈B):CC B S S':=⟨h.len,λn hn hb=>h.keep n hn λz=>hb (s n z)⟩
theorem CC.get{A:Wp Nat}{S S':Sto}(h:CC A S S'){n:Nat}{c:Cl}(e:S[n]?=Gc c)(ha:n∉A):S'[n]?=Gc c:=by
 rw[h.keep n (kK.mp e).1 ha];exact e
theorem CC.app{A:Wp Nat}{S T:Sto}:CC A S (S++T):=⟨by simp,λn hn _=>j8 hn⟩
theorem CC.set{A:Wp Nat}{S:Sto}{n:Nat}{c:Cl}(h:n∈A):CC A S (S.set n c):=⟨by simp,λm hm ha=>kB (λz=>ha (by rw[<-z];exact h))⟩
theorem CC.new{A:Wp Nat}{S S' S2:Sto}(h:CC A S S')(g:CC (A++B) S' S2)(hb:∀n∈B,S.length<=n):CC A S S2:=⟨kF h.len g.len,λn hn ha=>(g.keep n (kD hn h.len) (λz=>by
 rcases kY.mp z with z|z
 .exact ha z
 .have:=hb n z;lia)).trans (h.keep n hn ha)⟩
theorem AX{S:Sto}{n:Nat}{c:Cl}(h:S[n]?=Gc c):n<S.length:=(kK.mp h).1
section
variable{E:En}{S:Sto}{f g h k l m:Ev}{cf:lA}{F:Fn}
@[simp high] theorem bw{op:Op1}:Mc cf (o1 op) [f] E S=(f E S).bind λr=>(op (dr r.2 r.1)).bind λw=>fin cf w r.2:=by
  rw[RT,C5];cases f E S<;>rfl
@[simp high] theorem UH{op:Op2}:Mc cf (o2 op) [f,g] E S=(f E S).bind λr=>(g E r.2).bind λq=>(op (dr q.2 r.1) (dr q.2 q.1)).bind λw=>fin cf w q.2:=by
  rw[RT,C5]
  cases f E S with
  |none=>rfl
  |some r=>rw[Aq,Aq,C5];cases g E r.2<;>rfl
theorem gv:evs [f] E S=(f E S).bind λr=>Gc ([r.1],r.2):=by rw[C5];cases f E S<;>rfl
theorem gK:evs [f,g] E S=(f E S).bind λr=>(g E r.2).bind λq=>Gc ([r.1,q.1],q.2):=by
 rw[C5];cases f E S with
 |none=>rfl
 |some r=>rw[Aq,Aq,gv];cases g E r.2<;>rfl
theorem gT:evs [f,g,h] E S=(f E S).bind λr=>(g E r.2).bind λq=>(h E q.2).bind λu=>Gc ([r.1,q.1,u.1],u.2):=by
 rw[C5];cases f E S with
 |none=>rfl
 |some r=>rw[Aq,Aq,gK];cases g E r.2 with
  |none=>rfl
  |some q=>rw[Aq,Aq];cases h E q.2<;>rfl
theorem ic:evs [f,g,h,k] E S=(f E S).bind λr=>(g E r.2).bind λq=>(h E q.2).bind λu=>(k E u.2).bind λv=>Gc ([r.1,q.1,u.1,v.1],v.2):=by
 rw[C5];cases f E S with
 |none=>rfl
 |some r=>rw[Aq,Aq,gT];cases g E r.2 with
  |none=>rfl
  |some q=>rw[Aq,Aq];cases h E q.2 with
   |none=>rfl
   |some u=>rw[Aq,Aq];cases k E u.2<;>rfl
@[simp high] theorem jT:evs [f] E S=(f E S).bind λr=>some ([r.1],r.2):=gv
@[simp high] theorem jR:evs [f,g] E S=(f E S).bind λr=>(g E r.2).bind λq=>some ([r.1,q.1],q.2):=gK
@[simp high] theorem jc:evs [f,g,h] E S=(f E S).bind λr=>(g E r.2).bind λq=>(h E q.2).bind λu=>some ([r.1,q.1,u.1],u.2):=gT
@[simp high] theorem iT:evs [f,g,h,k] E S=(f E S).bind λr=>(g E r.2).bind λq=>(h E q.2).bind λu=>(k E u.2).bind λv=>some ([r.1,q.1,u.1,v.1],v.2):=ic
@[simp high] theorem jq{d:D}:eV 0 (some d::E) S=some (d,S):=nr rfl
@[simp high] theorem jv{d:D}{o0:Option D}:eV 1 (o0::some d::E) S=some (d,S):=nr rfl
@[simp high] theorem jo{d:D}{o0 o1:Option D}:eV 2 (o0::o1::some d::E) S=some (d,S):=nr rfl
@[simp high] theorem jd{d:D}{o0 o1 o2:Option D}:eV 3 (o0::o1::o2::some d::E) S=some (d,S):=nr rfl
@[simp high] theorem ju{d:D}{o0 o1 o2 o3:Option D}:eV 4 (o0::o1::o2::o3::some d::E) S=some (d,S):=nr rfl
@[simp high] theorem je{d:D}{o0 o1 o2 o3 o4:Option D}:eV 5 (o0::o1::o2::o3::o4::some d::E) S=some (d,S):=nr rfl
@[simp high] theorem ji{d:D}{o0 o1 o2 o3 o4 o5:Option D}:eV 6 (o0::o1::o2::o3::o4::o5::some d::E) S=some (d,S):=nr rfl
@[simp high] theorem jr{d:D}{o0 o1 o2 o3 o4 o5 o6:Option D}:eV 7 (o0::o1::o2::o3::o4::o5::o6::some d::E) S=some (d,S):=nr rfl
@[simp high] theorem jj{d:D}{o0 o1 o2 o3 o4 o5 o6 o7:Option D}:eV 8 (o0::o1::o2::o3::o4::o5::o6::o7::some d::E) S=some (d,S):=nr rfl
@[simp high] theorem jg{d:D}{o0 o1 o2 o3 o4 o5 o6 o7 o8:Option D}:eV 9 (o0::o1::o2::o3::o4::o5::o6::o7::o8::some d::E) S=some (d,S):=nr rfl
@[simp high] theorem iO{d:D}{o0 o1 o2 o3 o4 o5 o6 o7 o8 o9:Option D}:eV 10 (o0::o1::o2::o3::o4::o5::o6::o7::o8::o9::some d::E) S=some (d,S):=nr rfl
@[simp high] theorem jG{d:D}{o0 o1 o2 o3 o4 o5 o6 o7 o8 o9 o10:Option D}:eV 11 (o0::o1::o2::o3::o4::o5::o6::o7::o8::o9::o10::some d::E) S=some (d,S):=nr rfl
@[simp high] theorem iG{d:D}{o0 o1 o2 o3 o4 o5 o6 o7 o8 o9 o10 o11:Option D}:eV 12 (o0::o1::o2::o3::o4::o5::o6::o7::o8::o9::o10::o11::some d::E) S=some (d,S):=nr rfl
@[simp high] theorem iY{d:D}{o0 o1 o2 o3 o4 o5 o6 o7 o8 o9 o10 o11 o12:Option D}:eV 13 (o0::o1::o2::o3::o4::o5::o6::o7::o8::o9::o10::o11::o12::some d::E) S=some (d,S):=nr rfl
@[simp 20000] theorem gn{op:Op2}{d:D}:Mc cf (o2 op) [f,eC d] E S=(f E S).bind λr=>(op (dr r.2 r.1) (dr r.2 d)).bind λw=>fin cf w r.2:=by
  rw[UH];cases f E S<;>rfl
@[simp high] theorem c9{i:Nat}{y:Ex}:AW (A4 i f) y E S=(f E S).bind λr=>y (E.set i (some r.1)) r.2:=by
  rw[O3,Ve];cases f E S<;>rfl
@[simp high] theorem cn{y:Ex}:AW (By f) y E S=(f E S).bind λr=>y E r.2:=by
  rw[O3,SX];cases f E S<;>rfl
end
section
theorem mulL{i j:Int}(h: -18446744073709551616<i)(g:i<18446744073709551616):ER i j=true:=by
 unfold ER
 rw[mM]
 exact .inl (mZ (by lia))
theorem mulR{i j:Int}(h: -18446744073709551616<j)(g:j<18446744073709551616):ER i j=true:=by
 unfold ER
 rw[mM,mM]
 exact .inr (.inl (mZ (by lia)))
theorem GY{n k:Nat}(h:n<2^k)(hk:k<=8000):n<Gj:=kD h (mW (by decide) hk)
theorem Dw{n:Int}(h0:0<n)(h1:n<1152921504606846976):n.natAbs<Gj:=GY (k:=60) (show n.natAbs<2^60 by lia) (by decide)
variable{S:Sto}
noncomputable def P0(a b:Int):Int:=((sD a.natAbs b.natAbs:Nat):Int)
theorem Kw{c:Ev}{b:Ex}{k:Nat}{E:En}:G9 c b (k+1) E S=(c E S).bind λr=>match r.1 with
 | .bl true=>(b E r.2).bind λp=>match p.1 with
   | .nx=>G9 c b k p.2.1 p.2.2
   | .ret w=>Gc (.ret w,p.2)
 | .bl false=>Gc (.nx,E,r.2)
 |_=>none:=rfl
theorem VN{c:Ev}{b:Ex}{k:Nat}{E E2:En}{S1 S2:Sto}(e1:c E S=Gc (.bl true,S1))(e2:b E S1=Gc (.nx,E2,S2)):G9 c b (k+1) E S=G9 c b k E2 S2:=by
 rw[Kw,e1]
 show(b E S1).bind _=_
 rw[e2]
 rfl
theorem Uo{c:Ev}{b:Ex}{k:Nat}{E:En}{S1:Sto}(e1:c E S=Gc (.bl false,S1)):G9 c b (k+1) E S=Gc (.nx,E,S1):=by
 rw[Kw,e1]
 rfl
theorem KC:∀(k:Nat) (x y:Nat),y<k->G9 (eOp (o2 wGt) [eV 1,eC (.int 0)]) (QQ 0 1 (eV 1) (eOp (o2 OG) [eV 0,eV 1])) k [Gc (.int x),Gc (.int y)] S=Gc (.nx,[Gc (.int (sD x y:Nat)),Gc (.int 0)],S)
 |0,x,y,h=>absurd h (Nat.not_lt_zero _)
 |k+1,x,y,h=>by
  by_cases hy:y=0
  .subst hy
   rw[Uo (S1:=S) (by simp)]
   simp
  .have ih:=KC k y (x % y) (by have:=xP x (rO hy);lia)
   rw[show((x % y:Nat):Int)=(x:Int) % (y:Int) by lia]at ih
   have hy4:0<y:=rO hy
   rw[VN (S1:=S) (S2:=S) (E2:=[Gc (.int y),Gc (.int ((x:Int) % (y:Int)))]) (by simp[hy4]) (by simp[hy4]),ih]
   rw[zP x y,Nat.gcd_rec y x,zP]
theorem Rp(a b:Int)(ha:0<=a)(hb:0<=b):FD [.int a,.int b] S=Gc (.int (P0 a b),S):=by
 have:=KC (S:=S) (b.natAbs+2) a.natAbs b.natAbs (by lia)
 have e1:((a.natAbs:Nat):Int)=a:=by lia
 have e2:((b.natAbs:Nat):Int)=b:=by lia
 rw[e1,e2]at this
 simp[FD,JR,RG,X3,this,P0]
noncomputable def lowP(t b:Int):Int×Int:=(t / P0 t b,b / P0 t b)
theorem WK{t b:Int}(h:0<b):0<P0 t b:=by
 unfold P0
 have:0<sD t.natAbs b.natAbs:=Nat.gcd_pos_of_pos_right _ (by lia)
 lia
theorem Yu{t b:Int}(h:0<b):(P0 t b).natAbs<=b.natAbs:=by
 unfold P0
 have:sD t.natAbs b.natAbs<=b.natAbs:=Nat.gcd_le_right _ (by lia)
 lia
noncomputable def amD(p:Int×Int):D:=.tup [.int p.1,.int p.2]
theorem Vu{t b:Int}:P0 (t.natAbs:Int) b=P0 t b:=by
 unfold P0
 rw[m7]
theorem OH{t b:Int}(h:0<b)(hb:b.natAbs<Gj):Bc [.int t,.int b] S=Gc (amD (lowP t b),S):=by
 have h1:=WK (t:=t) h
 have h2:(P0 t b).natAbs<Gj:=mL (Yu h) hb
 have h3:=Rp (S:=S) (t.natAbs:Int) b (by lia) (by lia)
 rw[Vu]at h3
 simp[Bc,Ly,h3,h1,h2,amD,lowP]
noncomputable def aD(q:Rat):D:=.tup [.int q.num,.int q.den]
def Sz(k:Nat)(q:Rat):Prop:=q.num.natAbs<2^k/\q.den<2^k
theorem FT(q:Rat):(q.num:Rat) / (q.den:Rat)=q:=by
 rw[<-wF,Rat.mkRat_self]
theorem J2(q:Rat):(q.den:Rat)≠0:=by
 have:=q.den_nz
 exact_mod_cast this
theorem Ku(t:Int)(n:Nat)(h:0<n):((t:Rat) / (n:Rat)).num=t / (sD t.natAbs n:Nat)/\((t:Rat) / (n:Rat)).den=n / sD t.natAbs n:=by
 have e:(t:Rat) / (n:Rat)=mkRat t n:=by rw[wF]
 rw[e,Rat.mkRat_def,dif_neg (by lia),Rat.normalize_eq]
 exact⟨rfl,rfl⟩
theorem Og{t b:Int}(h:0<b):amD (lowP t b)=aD ((t:Rat) / (b:Rat)):=by
 obtain⟨n,rfl⟩:∃n:Nat,b=n:=⟨b.natAbs,by lia⟩
 obtain⟨h1,h2⟩:=Ku t n (by lia)
 unfold amD aD lowP P0
 rw[show(((n:Nat):Int):Rat)=((n:Nat):Rat)from rfl,h1,h2]
 simp
theorem Lz{t b:Int}{k:Nat}(h:0<b)(ht:t.natAbs<2^k)(hb:b.natAbs<2^k):Sz k ((t:Rat) / (b:Rat)):=by
 obtain⟨n,rfl⟩:∃n:Nat,b=n:=⟨b.natAbs,by lia⟩
 obtain⟨h1,h2⟩:=Ku t n (by lia)
 unfold Sz
 rw[show(((n:Nat):Int):Rat)=((n:Nat):Rat)from rfl,h1,h2]
 exact⟨mL (Int.natAbs_ediv_le_natAbs _ _) ht,mL (we _ _) (by simpa using hb)⟩
theorem Fo{a b j k:Nat}(ha:a<2^j)(hb:b<2^k):a*b<2^(j+k):=by
 rw[Nat.pow_add]
 exact Nat.mul_lt_mul'' ha hb
theorem Jo{i j:Int}{k m:Nat}(hi:i.natAbs<2^k)(hj:j.natAbs<2^m)(h:k<=60000)(g:m<=60000):ER i j=true:=by
 unfold ER
 rw[mM,mM,kQ]
 exact .inr (.inr ⟨mZ (kD hi (mW (by decide) h)),mZ (kD hj (mW (by decide) g))⟩)
theorem den_pos(q:Rat):0<(q.den:Int):=by have:=q.den_pos;lia
theorem Z5{x:Int}{n m:Nat}(h:x.natAbs<2^n)(g:n<=m):x.natAbs<2^m:=kD h (mW (by decide) g)
section
variable{p q:Rat}{j k:Nat}
theorem Fc(hp:Sz j p)(hq:Sz k q):(p.num*q.den+q.num*p.den).natAbs<2^(j+k+1)/\((p.den:Int)*q.den).natAbs<2^(j+k)/\(p.num*q.den-q.num*p.den).natAbs<2^(j+k+1):=by
 have a1:=Fo hp.1 hq.2
 have a2:=Fo hq.1 hp.2
 have a3:=Fo hp.2 hq.2
 rw[yt k j]at a2
 have e:2^(j+k+1)=2^(j+k)+2^(j+k):=by rw[ve];lia
 refine⟨?_,?_,?_⟩
 .refine mL (vf _ _) ?_
  rw[pP,pP,m7,m7,e]
  lia
 .rw[pP,m7,m7];exact a3
 .refine mL (Int.natAbs_sub_le _ _) ?_
  rw[pP,pP,m7,m7,e]
  lia
theorem Pl:(((p.num*q.den+q.num*p.den:Int):Rat) / (((p.den:Int)*q.den:Int):Rat))=p+q:=by
 have h1:=FT p;have h2:=FT q
 have d1:=J2 p;have d2:=J2 q
 push_cast
 grind
theorem Uz:(((p.num*q.den-q.num*p.den:Int):Rat) / (((p.den:Int)*q.den:Int):Rat))=p-q:=by
 have h1:=FT p;have h2:=FT q
 have d1:=J2 p;have d2:=J2 q
 push_cast
 grind
theorem NP:(((p.num*q.num:Int):Rat) / (((p.den:Int)*q.den:Int):Rat))=p*q:=by
 have h1:=FT p;have h2:=FT q
 have d1:=J2 p;have d2:=J2 q
 push_cast
 grind
theorem bF(hp:Sz j p)(hq:Sz k q):Sz (j+k+1) (p+q):=by
 rw[<-Pl]
 have:=Fc hp hq
 exact Lz (oH (den_pos _) (den_pos _)) this.1 (Z5 this.2.1 (by lia))
theorem Zl(hp:Sz j p)(hq:Sz k q):Sz (j+k+1) (p-q):=by
 rw[<-Uz]
 have:=Fc hp hq
 exact Lz (oH (den_pos _) (den_pos _)) this.2.2 (Z5 this.2.1 (by lia))
theorem OA(hp:Sz j p)(hq:Sz k q):Sz (j+k) (p*q):=by
 rw[<-NP]
 have:=Fc hp hq
 exact Lz (oH (den_pos _) (den_pos _)) (by rw[pP];exact Fo hp.1 hq.1) this.2.1
end
section
variable{p q:Rat}{j k:Nat}
theorem Wb(hp:Sz j p)(hq:Sz k q)(hj:j+k<=7990):ER p.num q.den=true/\ER q.num p.den=true/\ER p.den q.den=true/\ER p.num q.num=true:=by
 refine⟨Jo hp.1 (by simpa using hq.2) (by lia) (by lia),Jo hq.1 (by simpa using hp.2) (by lia) (by lia),Jo (by simpa using hp.2) (by simpa using hq.2) (by lia) (by lia),Jo hp.1 hq.1 (by lia) (by lia)⟩
theorem Ph(hp:Sz j p)(hq:Sz k q)(hj:j+k<=7990):CJ [aD p,aD q] S=Gc ((aD (p+q)),S):=by
 obtain⟨m1,m2,m3,m4⟩:=Wb hp hq (by lia)
 have b:=Fc hp hq
 have l:=OH (S:=S) (t:=p.num*q.den+q.num*p.den) (b:=p.den*q.den) (oH (den_pos _) (den_pos _)) (GY b.2.1 (by lia))
 rw[Og (oH (den_pos _) (den_pos _)),Pl]at l
 simp only[aD]at l⊢
 simp[CJ,LZ,m1,m2,m3,l]
theorem Ib(hp:Sz j p)(hq:Sz k q)(hj:j+k<=7990):Aw [aD p,aD q] S=Gc ((aD (p*q)),S):=by
 obtain⟨m1,m2,m3,m4⟩:=Wb hp hq (by lia)
 have b:=Fc hp hq
 have l:=OH (S:=S) (t:=p.num*q.num) (b:=p.den*q.den) (oH (den_pos _) (den_pos _)) (GY b.2.1 (by lia))
 rw[Og (oH (den_pos _) (den_pos _)),NP]at l
 simp only[aD]at l⊢
 simp[Aw,KH,m3,m4,l]
theorem Z9:aD (-q)=.tup [.int (0-q.num),.int q.den]:=by
 unfold aD
 rw[show(-q).num=0-q.num by simp,show(-q).den=q.den by simp]
theorem aB(hq:Sz k q):Sz k (-q):=by
 unfold Sz
 rw[show(-q).num= -q.num by simp,show(-q).den=q.den by simp,Int.natAbs_neg]
 exact hq
theorem Wn(hp:Sz j p)(hq:Sz k q)(hj:j+k<=7990):DH [aD p,aD q] S=Gc ((aD (p-q)),S):=by
 have l:=Ph (S:=S) hp (aB hq) hj
 rw[Z9]at l
 rw[Rat.sub_eq_add_neg]
 simp only[aD]at l⊢
 simp at l
 simp[DH,LS,l]
end
theorem T7{t b:Int}(h:0<b)(hb:b.natAbs<Gj):Bc [.int t,.int b] S=Gc ((aD (t / b)),S):=by
 rw[OH h hb,Og h]
theorem QE{a b:Int}{k:Nat}(ha:a.natAbs<2^k)(hb:b.natAbs<2^k):(a+b).natAbs<2^(k+1):=by
 have e:2^(k+1)=2^k+2^k:=by rw[ve];lia
 have:=vf a b
 lia
section
variable{p q:Rat}{w m:Int}{j k n:Nat}
end
end
section
variable{S:Sto}{p:Nat}
theorem W9{r:Wp D}(h:p<S.length):dr (S.set p (.lst r)) (.ref p)=.own r:=Aj (kN h)
def Pen(ds:Wp D):Prop:=∃a b c d:Int,ds=[.int a,.int b,.int c,.int d]/\0<=d/\d<1000000007
def CM(p:Nat)(S:Sto):Prop:=∃ds,S[p]?=Gc (.lst ds)/\Pen ds
structure Pn(p:Nat)(S S':Sto):Prop where
 same:CC [p] S S'
 pen:CM p S'
theorem Pn.trans{S S' S2:Sto}(h:Pn p S S')(g:Pn p S' S2):Pn p S S2:=⟨h.same.trans g.same,g.pen⟩
theorem Pn.get{S S':Sto}(h:Pn p S S'){n:Nat}{c:Cl}(e:S[n]?=Gc c)(ha:n≠p):S'[n]?=Gc c:=h.same.get e (by simpa using ha)
theorem Pn.refl(h:CM p S):Pn p S S:=⟨.refl,h⟩
theorem CM.lt(h:CM p S):p<S.length:=by obtain⟨ds,e,_⟩:=h;exact AX e
theorem CM.app(h:CM p S)(T:Sto):CM p (S++T):=by obtain⟨ds,e,hp⟩:=h;exact⟨ds,by rw[j8 (AX e)];exact e,hp⟩
theorem Ae(h:CM p S){n:Int}(h0:0<n)(h1:n<1152921504606846976):∃r S',AH [.ref p,.int n] S=Gc (.int r,S')/\0<=r/\r<n/\Pn p S S':=by
 obtain⟨ds,hp,a,b,c,d,rfl,hd0,hd1⟩:=h
 have hl:=AX hp
 have hs:=Dw h0 h1
 have hr:=Aj hp
 have hc:=AR hp
 by_cases hb:b=1/\0<a
 .obtain⟨rfl,ha⟩:=hb
  refine⟨a % n,S.set p (.lst [.int (a / n),.int 1,.int c,.int d]),?_,nM _ (by lia),oo _ h0,.set (by simp),_,kN hl,_,_,_,_,rfl,hd0,hd1⟩
  simp[AH,Gz,ha,h0,hs,hr,hc]
 .have m1:ER (d+17) (69621+2*(c+1))=true:=mulL (by lia) (by lia)
  have m2:ER 2 (c+1)=true:=mulL (by decide) (by decide)
  generalize ht:(d+17)*(69621+2*(c+1)) % 2147483647=t at*
  have t0:0<=t:=by rw[<-ht];exact nM _ (by decide)
  have t1:t<2147483647:=by rw[<-ht];exact oo _ (by decide)
  have m3:ER t t=true:=mulL (by lia) (by lia)
  have m4:ER 40503 (c+1)=true:=mulL (by decide) (by decide)
  generalize hu:(t*t+40503*(c+1)+5) % 2147483629=u at*
  have u0:0<=u:=by rw[<-hu];exact nM _ (by decide)
  have u1:u<2147483629:=by rw[<-hu];exact oo _ (by decide)
  have m5:ER u 48271=true:=mulL (by lia) (by lia)
  have d32:(32:Int).natAbs<Gj:=Dw (by decide) (by decide)
  have d32':(32:Nat)<Gj:=d32
  refine⟨u*48271 % 2147483647 / 32 % n,S.set p (.lst [.int a,.int b,.int (c+1),.int d]),?_,nM _ (by lia),oo _ h0,.set (by simp),_,kN hl,_,_,_,_,rfl,hd0,hd1⟩
  by_cases hb1:b=1
  .subst hb1
   have ha:¬0<a:=λz=>hb ⟨rfl,z⟩
   simp[AH,Gz,ha,h0,hs,hr,hc,W9,hl,m1,m2,m3,m4,m5,ht,hu,d32']
  .have hb2:(b==1)=false:=by simpa using hb1
   simp[AH,Gz,hb2,h0,hs,hr,hc,W9,hl,m1,m2,m3,m4,m5,ht,hu,d32']
theorem Z2(c:Int):∃p S',Gm [.int c] S=Gc (.ref p,S')/\CM p S'/\CC [] S S'/\S.length<=p:=by
 refine⟨S.length,S++[.lst [.int c,.int (if(10:Int)^18<=c then 1 else 0),.int 0,.int (c % 1000000007)]],?_,⟨_,kR,_,_,_,_,rfl,nM _ (by decide),oo _ (by decide)⟩,.app,kA _⟩
 simp[Gm,Nh]
theorem Fs{gs:Gd}{t:Tf}{c f:Ev}{acc:Wp D}{E:En}(h:gOk gs S):CV gs t c f [] acc E S=Gc (acc,S):=by
 unfold CV
 rw[kh h]
theorem Ll {gs : Gd} {t : Tf} {c f : Ev} {d : D} {ds acc : Wp D} {E : En} (h : gOk gs S) (hz : acc.length < sizeLine) : CV gs t c f (d :: ds) acc E S = (t d E S).bind fun E1 => (c E1 S).bind fun r => match r.1 with
      | .bl true => (f E1 r.2).bind fun p => CV gs t c f ds (acc ++ [p.1]) E1 p.2
      | .bl false => CV gs t c f ds acc E1 r.2
      | _ => none := by
  rw [CV, kh h, kh hz]
  all_goals rfl
theorem Ie{gs:Gd}{t:Tf}{c f:Ev}{d:D}{ds acc:Wp D}{E E1:En}{S1:Sto}(h:gOk gs S)(hz:acc.length<sizeLine)(e1:t d E S=Gc E1)(e2:c E1 S=Gc (.bl true,S1)):CV gs t c f (d::ds) acc E S=(f E1 S1).bind λp=>CV gs t c f ds (acc++[p.1]) E1 p.2:=by
 rw[Ll h hz,e1]
 show(c E1 S).bind _=_
 rw[e2]
 rfl
theorem Hh{gs:Gd}{t:Tf}{c f:Ev}{d:D}{ds acc:Wp D}{E E1:En}{S1:Sto}(h:gOk gs S)(hz:acc.length<sizeLine)(e1:t d E S=Gc E1)(e2:c E1 S=Gc (.bl false,S1)):CV gs t c f (d::ds) acc E S=CV gs t c f ds acc E1 S1:=by
 rw[Ll h hz,e1]
 show(c E1 S).bind _=_
 rw[e2]
 rfl
theorem MR{gs:Gd}{t:Tf}{f:Ev}{C:En}{m:Nat}{I:Sto->Prop}{R:D->D->Prop}(hg:∀S,I S->gOk gs S):∀{ds acc:Wp D} {os:En} {S:Sto},os.length=m->I S->acc.length+ds.length<=sizeLine->(∀d∈ds,∀os S,os.length=m->I S->∃us y S',us.length=m/\t d (C++os) S=Gc (C++us)/\f (C++us) S=Gc (y,S')/\I S'/\R d y)->∃ys S',CV gs t Dl f ds acc (C++os) S=Gc (acc++ys,S')/\I S'/\ys.length=ds.length/\Paired R ds ys
 | [],acc,os,S,ho,hI,hz,h=>⟨[],S,by rw[Fs (hg S hI)];simp,hI,rfl,.nil⟩
 |d::ds,acc,os,S,ho,hI,hz,h=>by
  obtain⟨us,y,S1,hu,e1,e2,I1,r1⟩:=h d kJ os S ho hI
  obtain⟨ys,S2,e3,I2,l2,r2⟩:=MR hg (ds:=ds) (acc:=acc++[y]) (os:=us) (S:=S1) hu I1 (by simp at hz ⊢; lia) λd' hd=>h d' (kC _ hd)
  refine⟨y::ys,S2,?_,I2,by simp[l2],.cons r1 r2⟩
  rw[Ie (hg S hI) (by simp at hz;lia) e1 IM,e2,Aq,e3]
  simp
theorem comp_map{gs:Gd}{t:Tf}{f:Ev}{C:En}{m:Nat}{g:D->D}{S:Sto}(hg:gOk gs S):∀{ds acc:Wp D} {os:En},os.length=m->acc.length+ds.length<=sizeLine->(∀d∈ds,∀os,os.length=m->∃us,us.length=m/\t d (C++os) S=Gc (C++us)/\f (C++us) S=Gc (g d,S))->CV gs t Dl f ds acc (C++os) S=Gc (acc++ds.map g,S)
 | [],acc,os,ho,hz,h=>by rw[Fs hg];simp
 |d::ds,acc,os,ho,hz,h=>by
  obtain⟨us,hu,e1,e2⟩:=h d kJ os ho
  rw[Ie hg (by simp at hz;lia) e1 IM,e2,Aq]
  rw[comp_map hg hu (by simp at hz ⊢; lia) λd' hd=>h d' (kC _ hd)]
  simp
theorem Gg{gs:Gd}{t:Tf}{b:Ex}{I:Wp D->En->Sto->Prop}(hg:∀ds E S,I ds E S->gOk gs S):∀{ds:Wp D} {E:En} {S:Sto},I ds E S->(∀d ds E S,I (d::ds) E S->∃E1 E2 S2,t d E S=Gc E1/\b E1 S=Gc (.nx,E2,S2)/\I ds E2 S2)->∃E' S',HN gs t b ds E S=Gc (.nx,E',S')/\I [] E' S'
 | [],E,S,hI,h=>⟨E,S,ET (hg _ _ _ hI),hI⟩
 |d::ds,E,S,hI,h=>by
  obtain⟨E1,E2,S2,e1,e2,I2⟩:=h d ds E S hI
  obtain⟨E',S',e3,I3⟩:=Gg hg I2 h
  exact⟨E',S',by rw[B3 (hg _ _ _ hI),e1];simp[e2,e3],I3⟩
theorem pick{xs:Wp D}{r:Int}(h0:0<=r)(h1:r<xs.length):∃x,atI xs r=Gc x/\x∈xs:=⟨_,W0 h0 h1,oW _⟩
theorem Ik{α β:Type}{P:β->Prop}:∀{xs:Wp α} {ys:Wp β},Paired (λ_ y=>P y) xs ys->∀y∈ys,P y
 |_,_,.nil,y,h=>by cases h
 |_,_,.cons r t,y,h=>by
  rcases kG.mp h with h|h
  .rw[h];exact r
  .exact Ik t y h
theorem GA{lo:Int}{n:Nat}:(J6 lo n).length=n:=by simp[J6]
end
def Ok(G B:Nat)(r:Rat):Prop:=∃z:Nat,r*(G:Rat)=(z:Rat)/\z<=B
theorem Lc{n:Nat}(h:0<n):(n:Rat)≠0:=by
 have:n≠0:=by lia
 exact_mod_cast this
theorem Ok.sz{G B k:Nat}{r:Rat}(h:Ok G B r)(hG:0<G)(g:G<2^k)(b:B<2^k):Sz k r:=by
 obtain⟨z,e,hz⟩:=h
 have e2:r=((z:Int):Rat) / ((G:Int):Rat):=by
  have:=Lc hG
  rw[show(((z:Nat):Int):Rat)=(z:Rat)from rfl,show(((G:Nat):Int):Rat)=(G:Rat)from rfl,<-e]
  grind
 rw[e2]
 exact Lz (by lia) (by simpa using mL hz b) (by simpa using g)
theorem Ok.up{G B t B':Nat}{r:Rat}(h:Ok G B r)(hB:B*t<=B'):Ok (G*t) B' r:=by
 obtain⟨z,e,hz⟩:=h
 refine⟨z*t,?_,kF (mX t hz) hB⟩
 push_cast
 rw[<-e]
 grind
theorem Ok.zero{G B:Nat}:Ok G B 0:=⟨0,by simp,lX _⟩
theorem Ok.one{G B:Nat}(h:G<=B):Ok G B 1:=⟨G,by simp,h⟩
theorem Ok.mix{G B a b t:Nat}{r o:Rat}(hr:Ok G B r)(ho:Ok G B o)(ht:a+b=t)(h0:0<t):Ok (G*t) (B*t) ((r*(a:Rat)+o*(b:Rat)) / (t:Rat)):=by
 obtain⟨z,e1,h1⟩:=hr
 obtain⟨y,e2,h2⟩:=ho
 refine⟨z*a+y*b,?_,?_⟩
 .have:=Lc h0
  push_cast
  rw[<-e1,<-e2]
  grind
 .rw[<-ht,Nat.mul_add]
  exact Nat.add_le_add (mX a h1) (mX b h2)
structure Tr where
 p:Nat
 k:Nat
 b:Nat
 ho:Wp Rat
 h:Int
 l:Int
structure Ld where
 k:Nat
 n:Int
 ow:Wp Rat
structure Stt where
 AF:Wp Ld
 hold:Wp Rat
 nums:Wp Int
inductive AS where
 |Dd (p k:Nat) (n:Int)
 |NH (a b:Nat)
 |swap (l:Nat) (g:Int) (k:Nat) (n:Int)
 |B1 (t:Int) (l:Nat) (g:Int) (k:Nat) (n:Int)
 |Gv (l:Nat) (n:Int)
 |thr (l:Nat) (n:Int) (ws:Wp Int)
 |Jy (p q:Nat) (s:Rat)
noncomputable def shD(rs:Wp Rat):D:=.tup (rs.map aD)
noncomputable def Tr.d(t:Tr):D:=.tup [.int t.p,.int t.k,.int t.b,shD t.ho,.int t.h,.int t.l]
noncomputable def Ld.d(l:Ld):D:=.tup [.int l.k,.int l.n,shD l.ow]
noncomputable def AS.d:AS->D
 | .Dd p k n=>.tup [.str "bring",.int p,.int k,.int n]
 | .NH a b=>.tup [.str "pool",.int a,.int b]
 | .swap l g k n=>.tup [.str "swap",.int l,.int g,.int k,.int n]
 | .B1 t l g k n=>.tup [.str "trade",.int t,.int l,.int g,.int k,.int n]
 | .Gv l n=>.tup [.str "spoil",.int l,.int n]
 | .thr l n ws=>.tup [.str "throw",.int l,.int n,.tup (ws.map .int)]
 | .Jy p q s=>.tup [.str "sell",.int p,.int q,aD s]
noncomputable def Hu(x:Rat)(os ss:Wp Rat):Wp Rat:=tO (λs o=>s*(1-x)+o*x) ss os
noncomputable def Hw(p q:Nat)(s:Rat)(ss:Wp Rat):Wp Rat:=(ss.set p (ss.getD p 0-ss.getD p 0*s)).set q (ss.getD q 0+ss.getD p 0*s)
noncomputable def EK(n m:Int)(ss os:Wp Rat):Wp Rat:=tO (λs o=>(s*n+o*m) / (n+m:Int)) ss os
noncomputable def E8(t:Tr)(ls:Wp Ld)(ws:Wp Int):Int:=(ls.map λl=>l.n*ws.getD l.k 0).sum+t.b*ws.getD t.k 0
noncomputable def JZ(t:Tr)(ls:Wp Ld)(l:Nat)(n:Int)(ws:Wp Int):Rat:=((n*ws.getD ((ls[l]?.map (·.k)).getD 0) 0:Int):Rat) / (E8 t ls ws:Rat)
noncomputable def AO(ls:Wp Ld)(l:Nat):Ld:=ls.getD l ⟨0,0,[]⟩
noncomputable def less(ls:Wp Ld)(l:Nat)(n:Int):Wp Ld:=ls.set l {AO ls l with n:=(AO ls l).n-n}
noncomputable def Qo(p i:Nat):Wp Rat:=(kq p).map λj=>if j=i then 1 else 0
noncomputable def step(t:Tr)(s:Stt):AS->Stt
 | .Dd p k n=>{s with AF:=s.AF++[⟨k,n,Qo t.p p⟩]}
 | .NH a b=>{s with AF:=less (less s.AF a (AO s.AF a).n) b (AO s.AF b).n++[⟨(AO s.AF a).k,(AO s.AF a).n+(AO s.AF b).n,EK (AO s.AF a).n (AO s.AF b).n (AO s.AF a).ow (AO s.AF b).ow⟩]}
 | .swap l g k n=>{s with AF:=less s.AF l g++[⟨k,n,(AO s.AF l).ow⟩]}
 | .B1 u l g k n=>{s with AF:=less s.AF l g++[⟨k,n,(AO s.AF l).ow⟩],nums:=s.nums++[u]}
 | .Gv l n=>{s with AF:=less s.AF l n}
 | .thr l n ws=>{s with AF:=(less s.AF l n).map λx=>{x with ow:=Hu (JZ t s.AF l n ws) (AO s.AF l).ow x.ow},hold:=Hu (JZ t s.AF l n ws) (AO s.AF l).ow s.hold}
 | .Jy p q x=>{s with AF:=s.AF.map λy=>{y with ow:=Hw p q x y.ow},hold:=Hw p q x s.hold}
def Ia(t:Tr):Prop:=1<=t.p/\t.p<=4/\1<=t.k/\t.k<=5/\1<=t.b/\t.b<=20
def Can(t:Tr)(s:Stt):AS->Prop
 | .Dd p k n=>p<t.p/\k<t.k/\1<=n/\n<2^131
 | .NH a b=>a≠b/\a<s.AF.length/\b<s.AF.length/\0<(AO s.AF a).n/\0<(AO s.AF b).n/\(AO s.AF a).k=(AO s.AF b).k
 | .swap l g k n=>l<s.AF.length/\1<=g/\g<=(AO s.AF l).n/\k<t.k/\k≠(AO s.AF l).k/\1<=n/\n<2^131
 | .B1 u l g k n=>l<s.AF.length/\1<=g/\g<=(AO s.AF l).n/\k<t.k/\k≠(AO s.AF l).k/\1<=n/\n<2^131/\u∉s.nums/\0<=u/\u<=9
 | .Gv l n=>l<s.AF.length/\1<=n/\n<=(AO s.AF l).n
 | .thr l n ws=>l<s.AF.length/\1<=n/\n<=(AO s.AF l).n/\ws.length=t.k+1/\∀w∈ws,1<=w/\w<=99
 | .Jy p q x=>p≠q/\p<t.p/\q<t.p/\0<x.num/\x.num<=x.den/\x.den<=12
structure FC(t:Tr)(k:Nat)(s:Stt):Prop where
 len:s.AF.length<=4+k
 kind:∀l∈s.AF,l.k<t.k
 pcs:∀l∈s.AF,0<=l.n/\l.n<2^(131+k)
 own:∀l∈s.AF,l.ow.length=t.p
 hold:s.hold.length=t.p
 nm:s.nums.length<=k
 gb:∃G B:Nat,0<G/\G<=B/\B<2^(30+170*k)/\(∀l∈s.AF,∀r∈l.ow,Ok G B r)/\∀r∈s.hold,Ok G B r
theorem FC.sz{t:Tr}{k:Nat}{s:Stt}(h:FC t k s):(∀l∈s.AF,∀r∈l.ow,Sz (30+170*k) r)/\∀r∈s.hold,Sz (30+170*k) r:=by
 obtain⟨G,B,g0,gb,b,h1,h2⟩:=h.gb
 exact⟨λl hl r hr=>(h1 l hl r hr).sz g0 (mL gb b) b,λr hr=>(h2 r hr).sz g0 (mL gb b) b⟩
theorem BI{ls:Wp Ld}{l:Nat}(h:l<ls.length):AO ls l∈ls:=by
 unfold AO
 rw[kP,kE h]
 exact oW h
theorem FR{ls:Wp Ld}{l:Nat}(h:l<ls.length):ls[l]?=Gc (AO ls l):=by
 unfold AO
 rw[kP,kE h]
 rfl
theorem Mm{ls:Wp Ld}{l:Nat}{n:Int}{x:Ld}(h:x∈less ls l n)(hl:l<ls.length):x∈ls\/x={AO ls l with n:=(AO ls l).n-n}:=by
 unfold less at h
 rcases mx h with h|h
 .exact .inl h
 .exact .inr h
theorem Bq{ls:Wp Ld}{l:Nat}{n:Int}:(less ls l n).length=ls.length:=by simp[less]
section
variable{S:Sto}{p:Nat}
theorem Oi{P:Int->Prop}:∀{ys:Wp D},(∀y∈ys,∃i:Int,y=.int i/\P i)->∃ns:Wp Int,ys=ns.map D.int/\∀n∈ns,P n
 | [],_=>⟨[],rfl,λn h=>by cases h⟩
 |y::ys,h=>by
  obtain⟨i,rfl,hi⟩:=h y kJ
  obtain⟨ns,rfl,hn⟩:=Oi (P:=P) (ys:=ys) λz hz=>h z (kC _ hz)
  exact⟨i::ns,rfl,λn hn'=>by
   rcases kG.mp hn' with e|e
   .rw[e];exact hi
   .exact hn n e⟩
theorem Nz{ns:Wp Int}(h:∀n∈ns,0<=n/\n<=8):0<=ns.sum/\ns.sum<=8*ns.length/\∀n∈ns,n<=ns.sum:=by
 induction ns with
 |nil=>simp
 |cons a l ih=>
  have h1:=h a kJ
  obtain⟨i1,i2,i3⟩:=ih λn hn=>h n (kC _ hn)
  rw[pD,lQ]
  refine⟨by lia,by push_cast;lia,λn hn=>?_⟩
  rcases kG.mp hn with e|e
  .lia
  .have:=i3 n e;lia
theorem QH (h : CM p S) {n : Nat} (hn : n ≤ 20) : ∃ (ns : Wp Int) (S' : Sto), CV [] (tNm 1) Dl (eOp (o2 wIx) [(HI [(eC (.int 0)), (eC (.int 1)), (AJ AH [(eV 0), (eC (.int 4))]), (AJ AH [(eV 0), (eC (.int 9))])]), (AJ AH [(eV 0), (eC (.int 4))])]) (J6 0 n) [] [Gc (.ref p), none] S = Gc (ns.map D.int, S') /\ Pn p S S' /\ ns.length = n /\ ∀ i ∈ ns, 0 ≤ i /\ i ≤ 8 := by
  obtain ⟨ys, S', e, hI, l, r⟩ := MR (gs := []) (t := tNm 1) (f := eOp (o2 wIx) [(HI [(eC (.int 0)), (eC (.int 1)), (AJ AH [(eV 0), (eC (.int 4))]), (AJ AH [(eV 0), (eC (.int 9))])]), (AJ AH [(eV 0), (eC (.int 4))])]) (C := [Gc (.ref p)]) (m := 1) (I := Pn p S) (R := fun _ y => ∃ i : Int, y = .int i /\ 0 ≤ i /\ i ≤ 8)
    (fun _ _ => Ao) (ds := J6 0 n) (acc := []) (os := [none]) rfl (Pn.refl h) (by rw [GA]; simp; exact AN (by lia)) fun d _ os S0 ho I0 => by
      obtain ⟨o, rfl⟩ := P7 ho
      obtain ⟨r1, S1, e1, a1, b1, p1⟩ := Ae I0.pen (n := 4) (by decide) (by decide)
      obtain ⟨r2, S2, e2, a2, b2, p2⟩ := Ae p1.pen (n := 9) (by decide) (by decide)
      obtain ⟨r3, S3, e3, a3, b3, p3⟩ := Ae p2.pen (n := 4) (by decide) (by decide)
      obtain ⟨x, ex, hx⟩ := pick (xs := [.int 0, .int 1, .int r1, .int r2]) (r := r3) a3 (by simpa using b3)
      refine ⟨[Gc d], x, S3, rfl, by simp, by simp [e1, e2, e3, ex], ((I0.trans p1).trans p2).trans p3, ?_⟩
      simp only [kG, kg, mK] at hx
      rcases hx with rfl | rfl | rfl | rfl
      · exact ⟨0, rfl, by decide, by decide⟩
      · exact ⟨1, rfl, by decide, by decide⟩
      · exact ⟨r1, rfl, by lia, by lia⟩
      · exact ⟨r2, rfl, by lia, by lia⟩
  obtain ⟨ns, rfl, hns⟩ := Oi (Ik r)
  exact ⟨ns, S', by simpa using e, hI, by simpa [GA] using l, hns⟩
noncomputable def HB(ns:Wp Int):Wp Rat:=ns.map λ(n:Int)=>(n:Rat) / (ns.sum:Rat)
theorem KS{ns:Wp Int}(h:∀n∈ns,0<=n/\n<=8)(hs:0<ns.sum):∀r∈HB ns,Ok ns.sum.toNat ns.sum.toNat r:=by
 intro r hr
 obtain⟨n,hn,rfl⟩:=lC.mp hr
 have h1:=h n hn
 have h2:=(Nz h).2.2 n hn
 refine⟨n.toNat,?_,by lia⟩
 have e1:((ns.sum.toNat:Nat):Rat)=(ns.sum:Rat):=by
  have:((ns.sum.toNat:Nat):Int)=ns.sum:=by lia
  exact congrArg (λz:Int=>(z:Rat)) this
 have e2:((n.toNat:Nat):Rat)=(n:Rat):=by
  have:((n.toNat:Nat):Int)=n:=by lia
  exact congrArg (λz:Int=>(z:Rat)) this
 rw[e1,e2]
 have:(ns.sum:Rat)≠0:=by
  intro z
  have:=qK.mp z
  lia
 grind
theorem RF{s:Rat}:∀{ns:Wp Int},(ns.map λ(n:Int)=>(n:Rat) / s).sum=(ns.sum:Rat) / s
 | []=>by simp;grind
 |n::ns=>by
  rw[kU,pD,pD,RF (ns:=ns)]
  push_cast
  grind
theorem NR{ns:Wp Int}(hs:0<ns.sum):(HB ns).sum=1:=by
 unfold HB
 rw[RF]
 have:(ns.sum:Rat)≠0:=by
  intro z
  have:=qK.mp z
  lia
 grind
theorem Pj{ns:Wp Int}{q:Nat}(hq:S[q]?=Gc (.lst (ns.map D.int)))(hl:ns.length<=20)(hn:∀n∈ns,0<=n/\n<=8)(hs:0<ns.sum):CV [(q,ns.map D.int)] (tNm 1) Dl (AJ Bc [eV 1,eOp (o1 We) [eV 0]]) (ns.map D.int) [] [Gc (.ref q),none] S=Gc ((HB ns).map aD,S):=by
 obtain⟨s1,s2,s3⟩:=Nz hn
 have:=comp_map (gs:=[(q,ns.map D.int)]) (t:=tNm 1) (f:=AJ Bc [eV 1,eOp (o1 We) [eV 0]]) (C:=[Gc (.ref q)]) (m:=1) (g:=λd=>match d with| .int n=>aD ((n:Rat) / (ns.sum:Rat))|d=>d) (S:=S) (λg hg=>by rw[kX.mp hg];exact AR hq) (ds:=ns.map D.int) (acc:=[]) (os:=[none]) rfl (by simp;exact AN (by lia)) λd hd os ho=>by
  obtain⟨o,rfl⟩:=P7 ho
  obtain⟨i,hi,rfl⟩:=lC.mp hd
  have m:=T7 (S:=S) (t:=i) hs (Dw (by lia) (by lia))
  exact⟨[Gc (.int i)],rfl,by simp,by simp[Aj hq,Fp,m]⟩
 have e2:(ns.map D.int).map (λd=>match d with| .int n=>aD ((n:Rat) / (ns.sum:Rat))|d=>d)=(HB ns).map aD:=by
  unfold HB
  rw[mO,mO]
  rfl
 rw[e2]at this
 simpa using this
theorem Po(h:CM p S){n:Nat}(h1:1<=n)(h2:n<=4):∃rs S',DA [.ref p,.int n] S=Gc (shD rs,S')/\Pn p S S'/\(rs.length=n/\rs.sum=1)/\∃G:Nat,0<G/\G<=32/\∀r∈rs,Ok G G r:=by
 obtain⟨ns,S1,e1,p1,l1,i1⟩:=QH (n:=n) h (by lia)
 obtain⟨s1,s2,s3⟩:=Nz i1
 have hq:(S1++[Cl.lst (ns.map D.int)])[S1.length]?=Gc (.lst (ns.map D.int)):=kR
 have pp:CM p (S1++[Cl.lst (ns.map D.int)]):=p1.pen.app _
 have hlt:=p1.pen.lt
 have r1:HG (n:Int)=true:=Dc (by lia) (by lia)
 by_cases hz:ns.sum=0
 .obtain⟨r,S2,e2,a2,b2,p2⟩:=Ae pp (n:=n) (by lia) (by lia)
  have hq2:S2[S1.length]?=Gc (.lst (ns.map D.int)):=p2.get hq (by lia)
  have hn':∀x∈ns.set r.toNat 1,0<=x/\x<=8:=λx hx=>by
   rcases mx hx with hx|rfl
   .exact i1 x hx
   .exact⟨by decide,by decide⟩
  have hs':0<(ns.set r.toNat 1).sum:=by
   have:=(Nz hn').2.2 1 (List.mem_set (by lia) 1)
   lia
  have hq3:(S2.set S1.length (.lst ((ns.set r.toNat 1).map D.int)))[S1.length]?=Gc (.lst ((ns.set r.toNat 1).map D.int)):=kN (AX hq2)
  have e3:=Pj hq3 (by simp;lia) hn' hs'
  have ix:ixN ns.length r=Gc r.toNat:=PZ a2 (by lia)
  refine⟨HB (ns.set r.toNat 1),S2.set S1.length (.lst ((ns.set r.toNat 1).map D.int)),?_,⟨?_,?_⟩,⟨by simp[HB,l1],NR hs'⟩,_,(show 0<(ns.set r.toNat 1).sum.toNat by lia),?_,KS hn' hs'⟩
  .have sq3:=EG hq3
   rw[tP]at e3 sq3 hq3
   simp[DA,Hg,r1,e1,Aj hq,Fp,hz,e2,AR hq2,ix,sq3,e3,shD]
  .have g:CC [p] S (S1++[Cl.lst (ns.map D.int)]):=p1.same.trans .app
   refine⟨kF (g.trans p2.same).len (by simp),λm hm hmp=>?_⟩
   rw[kB (by have:=p1.same.len;lia)]
   exact(g.trans p2.same).keep m hm hmp
  .obtain⟨ds,ed,hd⟩:=p2.pen
   exact⟨ds,by rw[kB (by lia)];exact ed,hd⟩
  .have:=(Nz hn').2.1
   rw[nI]at this
   lia
 .have hz':(ns.sum==0)=false:=by simpa using hz
  have e3:=Pj hq (by lia) i1 (by lia)
  refine⟨HB ns,S1++[Cl.lst (ns.map D.int)],?_,⟨p1.same.trans .app,pp⟩,⟨by simp[HB,l1],NR (by lia)⟩,_,(show 0<ns.sum.toNat by lia),by lia,KS i1 (by lia)⟩
  have sq3:=EG hq
  simp[DA,Hg,r1,e1,Aj hq,Fp,hz',sq3,e3,shD]
end
section
variable{S:Sto}{p:Nat}
theorem YF:(2:Nat)<Gj:=Dw (n:=2) (by decide) (by decide)
theorem LU(h:CM p S):∃n S',A8 [.ref p] S=Gc (.int n,S')/\Pn p S S'/\1<=n/\n<2^130:=by
 obtain⟨r1,S1,e1,a1,b1,p1⟩:=Ae h (n:=99) (by decide) (by decide)
 obtain⟨r2,S2,e2,a2,b2,p2⟩:=Ae p1.pen (n:=4) (by decide) (by decide)
 obtain⟨r3,S3,e3,a3,b3,p3⟩:=Ae p2.pen (n:=40) (by decide) (by decide)
 obtain⟨r4,S4,e4,a4,b4,p4⟩:=Ae p3.pen (n:=999) (by decide) (by decide)
 obtain⟨r5,S5,e5,a5,b5,p5⟩:=Ae p4.pen (n:=7) (by decide) (by decide)
 have pp:=(((p1.trans p2).trans p3).trans p4).trans p5
 have d2:=YF
 have go:∀g:Int,1<=g->g<2^130->∃n:Int,atI [D.int (1+r2),.int (1+r3),.int (1+r4),.int g] (r5 / 2)=Gc (.int n)/\1<=n/\n<2^130:=λg g1 g2=>by
  obtain⟨x,ex,hx⟩:=pick (xs:=[D.int (1+r2),.int (1+r3),.int (1+r4),.int g]) (r:=r5 / 2) (by lia) (by simp;lia)
  simp only[kG,kg,mK]at hx
  rcases hx with rfl|rfl|rfl|rfl
  .exact⟨_,ex,by lia,by lia⟩
  .exact⟨_,ex,by lia,by lia⟩
  .exact⟨_,ex,by lia,by lia⟩
  .exact⟨_,ex,g1,g2⟩
 first
  |(obtain⟨n,en,n1,n2⟩:=go (10^39+r1) (by lia) (by lia)
    exact⟨n,S5,by simp[A8,GX,e1,e2,e3,e4,e5,d2]at en ⊢; simp[en],pp,n1,n2⟩)
  |(obtain⟨n,en,n1,n2⟩:=go (10^30+r1) (by lia) (by lia)
    exact⟨n,S5,by simp[A8,GX,e1,e2,e3,e4,e5,d2]at en ⊢; simp[en],pp,n1,n2⟩)
theorem Ky(h:CM p S):∃n S',A8 [.ref p] S=Gc (.int n,S')/\Pn p S S'/\1<=n/\n<2^131:=by
 obtain⟨n,S',a,b,c,d⟩:=LU h
 exact⟨n,S',a,b,c,mf d (by decide)⟩
theorem Eo{r:Int}(h:0<=r):∃m:Nat,r=m:=⟨r.toNat,by lia⟩
theorem T6(h:CM p S):∃t S',F1 [.ref p] S=Gc (Tr.d t,S')/\Pn p S S'/\Ia t/\(t.ho.length=t.p/\t.ho.sum=1)/\∃G:Nat,0<G/\G<=32/\∀r∈t.ho,Ok G G r:=by
 obtain⟨r1,S1,e1,a1,b1,p1⟩:=Ae h (n:=4) (by decide) (by decide)
 obtain⟨r2,S2,e2,a2,b2,p2⟩:=Ae p1.pen (n:=5) (by decide) (by decide)
 obtain⟨r3,S3,e3,a3,b3,p3⟩:=Ae p2.pen (n:=3) (by decide) (by decide)
 obtain⟨r4,S4,e4,a4,b4,p4⟩:=Ae p3.pen (n:=20) (by decide) (by decide)
 obtain⟨r5,S5,e5,a5,b5,p5⟩:=Ae p4.pen (n:=2) (by decide) (by decide)
 obtain⟨m1,rfl⟩:=Eo a1
 obtain⟨m2,rfl⟩:=Eo a2
 obtain⟨b,eb,hb1,hb2⟩:∃b:Nat,atI [D.int (1+r3),.int (1+r4)] r5=Gc (.int b)/\1<=b/\b<=20:=by
  obtain⟨x,ex,hx⟩:=pick (xs:=[D.int (1+r3),.int (1+r4)]) (r:=r5) a5 (by simpa using b5)
  obtain⟨m3,rfl⟩:=Eo a3
  obtain⟨m4,rfl⟩:=Eo a4
  simp only[kG,kg,mK]at hx
  rcases hx with rfl|rfl
  .exact⟨1+m3,by rw[ex];simp,by lia,by lia⟩
  .exact⟨1+m4,by rw[ex];simp,by lia,by lia⟩
 obtain⟨rs,S6,e6,p6,l6,G,g0,g1,g2⟩:=Po p5.pen (n:=1+m1) (by lia) (by lia)
 obtain⟨r7,S7,e7,a7,b7,p7⟩:=Ae p6.pen (n:=10) (by decide) (by decide)
 obtain⟨r8,S8,e8,a8,b8,p8⟩:=Ae p7.pen (n:=10) (by decide) (by decide)
 rw[show((1+m1:Nat):Int)=1+(m1:Int) by lia]at e6
 refine⟨⟨1+m1,1+m2,b,rs,r7,r8⟩,S8,?_,((((((p1.trans p2).trans p3).trans p4).trans p5).trans p6).trans p7).trans p8,⟨by simp,by simp;lia,by simp,by simp;lia,hb1,hb2⟩,l6,G,g0,g1,g2⟩
 simp[F1,Ks,e1,e2,e3,e4,e5,eb,e6,e7,e8,Tr.d]
theorem Uu(h:CM p S):∃x S',E7 [.ref p] S=Gc (aD x,S')/\Pn p S S'/\0<x.num/\x.num<=x.den/\x.den<=12:=by
 obtain⟨r1,S1,e1,a1,b1,p1⟩:=Ae h (n:=12) (by decide) (by decide)
 obtain⟨r2,S2,e2,a2,b2,p2⟩:=Ae p1.pen (n:=1+r1) (by lia) (by lia)
 have m:=T7 (S:=S2) (t:=1+r2) (b:=1+r1) (by lia) (Dw (by lia) (by lia))
 obtain⟨m1,rfl⟩:=Eo a1
 obtain⟨m2,rfl⟩:=Eo a2
 have rp:=Ku (1+(m2:Int)) (1+m1) (by lia)
 have eb:(((1+(m1:Int):Int)):Rat)=(((1+m1:Nat)):Rat):=by
  have:(1+(m1:Int))=((1+m1:Nat):Int):=by lia
  rw[this];rfl
 have en:(1+(m2:Int)).natAbs=1+m2:=by lia
 have gp:0<sD (1+m2) (1+m1):=Nat.gcd_pos_of_pos_left _ (by lia)
 obtain⟨q,hq⟩:=Nat.gcd_dvd_left (1+m2) (1+m1)
 obtain⟨q',hq'⟩:=Nat.gcd_dvd_right (1+m2) (1+m1)
 refine⟨((1+(m2:Int):Int):Rat) / ((1+(m1:Int):Int):Rat),S2,?_,p1.trans p2,?_,?_,?_⟩
 .simp[E7,K5,e1,e2,m]
 .rw[eb,rp.1,en]
  generalize sD (1+m2) (1+m1)=g at*
  have:(1+(m2:Int))=((g*q:Nat):Int):=by lia
  rw[this,tV,sN _ (by lia)]
  have:q≠0:=λz=>by subst z;lia
  lia
 .rw[eb,rp.1,rp.2,en]
  generalize sD (1+m2) (1+m1)=g at*
  have t1:(1+(m2:Int))=((g*q:Nat):Int):=by lia
  rw[t1,tV,sN _ (by lia),hq',Nat.mul_div_cancel_left _ gp]
  have:q<=q':=by
   have:g*q<=g*q':=by lia
   exact Nat.le_of_mul_le_mul_left this gp
  lia
 .rw[eb,rp.2]
  exact kF (we _ _) (by lia)
theorem Sl (h : CM p S) {n : Nat} (hn : n ≤ 6) : ∃ (ws : Wp Int) (S' : Sto), DJ [.ref p, .int n] S = Gc (.tup (ws.map .int), S') /\ Pn p S S' /\ ws.length = n /\ ∀ w ∈ ws, 1 ≤ w /\ w ≤ 99 := by
  obtain ⟨ys, S', e, hI, l, r⟩ := MR (gs := []) (t := tNm 1) (f := (eOp (o2 CO) [(eC (.int 1)), (eOp (o2 wIx) [(HI [(AJ AH [(eV 0), (eC (.int 3))]), (AJ AH [(eV 0), (eC (.int 99))])]), (AJ AH [(eV 0), (eC (.int 2))])])])) (C := [Gc (.ref p)]) (m := 1) (I := Pn p S) (R := fun _ y => ∃ i : Int, y = .int i /\ 1 ≤ i /\ i ≤ 99)
    (fun _ _ => Ao) (ds := J6 0 n) (acc := []) (os := [none]) rfl (Pn.refl h) (by rw [GA]; simp; exact AN (by lia)) fun d _ os S0 ho I0 => by
      obtain ⟨o, rfl⟩ := P7 ho
      obtain ⟨r1, S1, e1, a1, b1, p1⟩ := Ae I0.pen (n := 3) (by decide) (by decide)
      obtain ⟨r2, S2, e2, a2, b2, p2⟩ := Ae p1.pen (n := 99) (by decide) (by decide)
      obtain ⟨r3, S3, e3, a3, b3, p3⟩ := Ae p2.pen (n := 2) (by decide) (by decide)
      obtain ⟨x, ex, hx⟩ := pick (xs := [.int r1, .int r2]) (r := r3) a3 (by simpa using b3)
      simp only [kG, kg, mK] at hx
      rcases hx with rfl | rfl
      · exact ⟨[Gc d], .int (1 + r1), S3, rfl, by simp, by simp [e1, e2, e3, ex], ((I0.trans p1).trans p2).trans p3, _, rfl, by lia, by lia⟩
      · exact ⟨[Gc d], .int (1 + r2), S3, rfl, by simp, by simp [e1, e2, e3, ex], ((I0.trans p1).trans p2).trans p3, _, rfl, by lia, by lia⟩
  obtain ⟨ns, rfl, hns⟩ := Oi (Ik r)
  have r1 : HG (n : Int) = true := Dc (by lia) (by lia)
  have e' : CV [] (tNm 1) Dl (eOp (o2 CO) [(eC (.int 1)), (eOp (o2 wIx) [(HI [(AJ AH [(eV 0), (eC (.int 3))]), (AJ AH [(eV 0), (eC (.int 99))])]), (AJ AH [(eV 0), (eC (.int 2))])])]) (J6 0 n) [] [Gc (.ref p), none] S = Gc (ns.map D.int, S') := by simpa using e
  exact ⟨ns, S', by simp [DJ, JV, r1, e'], hI, by simpa [GA] using l, hns⟩
def GD(t:Tr)(ls:Wp Ld):Prop:=(∀l∈ls,l.k<t.k/\1<=l.n/\l.n<2^131/\l.ow.length=t.p/\l.ow.sum=1)/\∃G:Nat,0<G/\G<=32^ls.length/\∀l∈ls,∀r∈l.ow,Ok G G r
theorem GD.snoc{t:Tr}{ls:Wp Ld}{l:Ld}(h:GD t ls)(h1:l.k<t.k/\1<=l.n/\l.n<2^131/\l.ow.length=t.p/\l.ow.sum=1){g:Nat}(g0:0<g)(g1:g<=32)(g2:∀r∈l.ow,Ok g g r):GD t (ls++[l]):=by
 obtain⟨ha,G,G0,G1,G2⟩:=h
 refine⟨λx hx=>?_,G*g,sE G0 g0,?_,λx hx r hr=>?_⟩
 .rcases kY.mp hx with hx|hx
  .exact ha x hx
  .rw[kX.mp hx];exact h1
 .rw[lK,tZ,ve]
  exact uN G1 g1
 .rcases kY.mp hx with hx|hx
  .exact(G2 x hx r hr).up (kA _)
  .rw[kX.mp hx]at hr
   have:=(g2 r hr).up (t:=G) (B':=G*g) (by rw[og];exact kA _)
   rwa [og g G]at this
end
section
variable{S:Sto}{p:Nat}
theorem GD.nil{t:Tr}:GD t []:=⟨λl hl=>(nomatch hl),1,by decide,by simp,λl hl=>(nomatch hl)⟩
theorem US(h:CM p S){t:Tr}(ht:Ia t):∃(ls:Wp Ld) (S':Sto),F5 [.ref p,t.d] S=Gc (.tup (ls.map Ld.d),S')/\Pn p S S'/\GD t ls/\ls.length<=4:=by
 obtain⟨t1,t2,t3,t4,t5,t6⟩:=ht
 have hlt:=h.lt
 have hq:(S++[Cl.lst []])[S.length]?=Gc (.lst []):=kR
 obtain⟨r1,S1,e1,a1,b1,p1⟩:=Ae (h.app [Cl.lst []]) (n:=5) (by decide) (by decide)
 obtain⟨r2,S2,e2,a2,b2,p2⟩:=Ae p1.pen (n:=3) (by decide) (by decide)
 obtain⟨n,en,hn⟩:∃n:Nat,atI [D.int 0,.int 1,.int r1] r2=Gc (.int n)/\n<=4:=by
  obtain⟨x,ex,hx⟩:=pick (xs:=[D.int 0,.int 1,.int r1]) (r:=r2) a2 (by simpa using b2)
  simp only[kG,kg,mK]at hx
  rcases hx with rfl|rfl|rfl
  .exact⟨0,ex,by decide⟩
  .exact⟨1,ex,by decide⟩
  .exact⟨r1.toNat,by rw[ex,lP a1],by lia⟩
 have q2:S2[S.length]?=Gc (.lst []):=(p1.trans p2).get hq (by lia)
 have rn:HG (n:Int)=true:=Dc (by lia) (by lia)
 obtain⟨E',S',ef,ls,o,rfl,f1,f2,f3,f4,f5⟩:=Gg (gs:=[]) (t:=tNm 3) (b:=By (Hz IZ (eV 2) [Bi [AJ AH [eV 0,eOp (o2 wIx) [eV 1,eC (.int 1)]],AJ A8 [eV 0],AJ DA [eV 0,eOp (o2 wIx) [eV 1,eC (.int 0)]]]]))
  (I:=λds E S'=>∃(ls:Wp Ld) (o:j6 D),E=[Gc (.ref p),Gc t.d,Gc (.ref S.length),o]/\S'[S.length]?=Gc (.lst (ls.map Ld.d))/\CM p S'/\CC [p] S S'/\GD t ls/\ls.length+ds.length<=4)
  (λ_ _ _ _=>Ao) (ds:=J6 0 n) (E:=[Gc (.ref p),Gc t.d,Gc (.ref S.length),none]) (S:=S2)
  ⟨[],none,rfl,q2,p2.pen,CC.app.trans (p1.trans p2).same,GD.nil,by simp[GA];exact hn⟩ (by
    rintro d ds E S0 ⟨ls,o,rfl,i1,i2,i3,i4,i5⟩
    obtain⟨x1,T1,g1,c1,d1,k1⟩:=Ae i2 (n:=t.k) (by lia) (by lia)
    obtain⟨x2,T2,g2,k2,c2,d2⟩:=Ky k1.pen
    obtain⟨rs,T3,g3,k3,l3,G,G0,G1,G2⟩:=Po k2.pen (n:=t.p) t1 t2
    obtain⟨m1,rfl⟩:=Eo c1
    have kk:=(k1.trans k2).trans k3
    have j1:T3[S.length]?=Gc (.lst (ls.map Ld.d)):=kk.get i1 (by lia)
    have hz:ls.length<sizeLine:=kD (show ls.length<5 by lia) (AN (by decide))
    refine⟨[Gc (.ref p),Gc t.d,Gc (.ref S.length),Gc d],[Gc (.ref p),Gc t.d,Gc (.ref S.length),Gc d],T3.set S.length (.lst ((ls++[Ld.mk m1 x2 rs]).map Ld.d)),by simp,?_,ls++[Ld.mk m1 x2 rs],Gc d,rfl,kN (AX j1),?_,?_,i4.snoc (l:=Ld.mk m1 x2 rs) ⟨show m1<t.k by lia,c2,d2,l3⟩ G0 G1 G2,by simp at i5 ⊢; lia⟩
    .have e3:atI [D.int t.p,.int t.k,.int t.b,shD t.ho,.int t.h,.int t.l] 1=Gc (.int t.k):=by simp
     simp[Tr.d,g1,g2,g3,AR i1,AR j1,hz,Ld.d]
    .obtain⟨ds',ed,hd⟩:=kk.pen
     exact⟨ds',by rw[kB (by lia)];exact ed,hd⟩
    .refine⟨kF (i3.trans kk.same).len (by simp),λm hm hmp=>?_⟩
     rw[kB (by lia)]
     exact(i3.trans kk.same).keep m hm hmp)
 refine⟨ls,S',?_,⟨f3,f2⟩,f4,by simpa using f5⟩
 simp[F5,K0,e1,e2,en,rn,ef,Aj f1]
noncomputable def CG(x:Ld):Cl:=.lst [.int x.k,.int x.n,shD x.ow]
structure SAt(S:Sto)(s l m:Nat)(as:Wp Nat)(st:Stt):Prop where
 root:S[s]?=Gc (.lst [.ref l,shD st.hold,.ref m])
 lo:S[l]?=Gc (.lst (as.map .ref))
 nu:S[m]?=Gc (.lst (st.nums.map .int))
 ld:∀(i a:Nat) (x:Ld),as[i]?=Gc a->st.AF[i]?=Gc x->S[a]?=Gc (CG x)
 len:as.length=st.AF.length
 nd:(s::l::m::as).Nodup
theorem XH:∀{ls:Wp Ld} {acc:Wp D} {o:j6 D} {S:Sto},acc.length+ls.length<=100->CV [] (tNm 0) Dl (ZO (o1 Om) [eV 0]) (ls.map Ld.d) acc [o] S=Gc (acc++(wL S.length ls.length).map D.ref,S++ls.map CG)
 | [],acc,o,S,h=>by rw[mE,Fs Ao];simp
 |x::ls,acc,o,S,h=>by
  rw[kU,Ie (E1:=[Gc x.d]) Ao (kD (show acc.length<101 by simp at h;lia) (AN (by decide))) (by simp) IM]
  have:ZO (o1 Om) [eV 0] [Gc x.d] S=Gc (.ref S.length,S++[CG x]):=by simp[Ld.d,CG]
  rw[this,Aq,XH (by simp at h ⊢; lia)]
  simp[List.range'_succ]
theorem getElem?_at{α:Type}{xs:Wp α}{x:α}{n:Nat}(h:n=xs.length):(xs++[x])[n]?=Gc x:=by subst h;exact kR
theorem MQ{t:Tr}{ls:Wp Ld}{x:D}(hl:ls.length<=20):∃s l m as S',Cn [.tup [t.d,.tup (ls.map Ld.d),x]] S=Gc (.ref s,S')/\SAt S' s l m as ⟨ls,t.ho,[]⟩/\CC [] S S'/\(∀n∈s::l::m::as,S.length<=n):=by
 have e:=XH (ls:=ls) (acc:=[]) (o:=none) (S:=S) (by simp;lia)
 refine⟨S.length+ls.length+2,S.length+ls.length,S.length+ls.length+1,wL S.length ls.length,S++ls.map CG++[.lst ((wL S.length ls.length).map D.ref)]++[.lst []]++[.lst [.ref (S.length+ls.length),shD t.ho,.ref (S.length+ls.length+1)]],?_,⟨?_,?_,?_,?_,?_,?_⟩,?_,?_⟩
 .simp[Cn,KA,Tr.d,e,shD]
  lia
 .exact getElem?_at (by simp;lia)
 .rw[j8 (by simp),j8 (by simp)]
  exact getElem?_at (by simp)
 .rw[j8 (by simp;lia)]
  exact getElem?_at (by simp;lia)
 .intro i a y ha hy
  have hi:i<ls.length:=(kK.mp hy).1
  have:a=S.length+i:=by
   rw[List.getElem?_range' hi]at ha
   simp at ha;lia
  subst this
  rw[j8 (by simp;lia),j8 (by simp;lia),j8 (by simp;lia),lG (by lia)]
  have hy':ls[i]?=Gc y:=hy
  simp[hy']
 .simp
 .rw[nH,nH,nH]
  refine⟨?_,?_,?_,List.nodup_range'⟩
  .simp only[kG,qY];lia
  .simp only[kG,qY];lia
  .simp only[qY];lia
 .rw[mF,mF,mF]
  exact .app
 .intro n hn
  simp only[kG,qY]at hn
  lia
end
section
variable{S:Sto}{p:Nat}
@[simp] theorem jY{rs:List Rat}{S:Sto}:sqD S (shD rs)=some (rs.map aD,[]):=nr rfl
@[simp] theorem iX{rs:List Rat}{S:Sto}:dr S (shD rs)=.val (shD rs):=nr rfl
@[simp] theorem gJ{rs:List Rat}:asS (.val (shD rs))=some (rs.map aD):=nr rfl
@[simp] theorem fK{S:Sto}{r:List D}:dr (S++[.lst r]) (.ref S.length)=.own r:=Aj List.getElem?_concat_length
@[simp] theorem ZP{S:Sto}{r:List D}:EH (S++[.lst r]) S.length=some r:=AR List.getElem?_concat_length
theorem set_same{S:Sto}{q:Nat}{c:Cl}(h:S[q]?=Gc c):S.set q c=S:=by
 apply vg
 intro i
 by_cases e:q=i
 .subst e;rw[kN (AX h),h]
 .rw[kB e]
theorem OR{gs:Gd}{t:Tf}{b:Ex}{C:En}{m q:Nat}{h:D->D}{I:Sto->Prop}(hg:∀S,I S->gOk gs S)(hI:∀S c,I S->I (S.set q c)):∀{ds acc:Wp D} {os:En} {S:Sto},os.length=m->I S->S[q]?=Gc (.lst acc)->acc.length+ds.length<=1000->(∀d∈ds,∀os S acc,os.length=m->I S->S[q]?=Gc (.lst acc)->acc.length<sizeLine->∃us us',t d (C++os) S=Gc (C++us)/\b (C++us) S=Gc (.nx,C++us',S.set q (.lst (acc++[h d])))/\us'.length=m)->∃os',os'.length=m/\HN gs t b ds (C++os) S=Gc (.nx,C++os',S.set q (.lst (acc++ds.map h)))
 | [],acc,os,S,ho,hS,hq,hz,H=>⟨os,ho,by
     rw[ET (hg S hS)]
     have:S.set q (.lst (acc++List.map h []))=S:=by
      rw[mE,qA]
      exact set_same hq
     rw[this]⟩
 |d::ds,acc,os,S,ho,hS,hq,hz,H=>by
  have hl:=AX hq
  obtain⟨us,us',e1,e2,hu⟩:=H d kJ os S acc ho hS hq (kD (show acc.length<1001 by simp at hz;lia) (kF (by decide) (show 1001<=sizeLine by decide)))
  obtain⟨os',ho',e3⟩:=OR hg hI (ds:=ds) (acc:=acc++[h d]) (os:=us') (S:=S.set q (.lst (acc++[h d]))) hu (hI S _ hS) (kN hl) (by simp at hz ⊢; lia) λd' hd=>H d' (kC _ hd)
  refine⟨os',ho',?_⟩
  rw[B3 (hg S hS),e1,Aq,e2,Aq,J1,e3,zQ]
  simp
noncomputable def un:D->Rat
 | .tup [.int n,.int d]=>(n:Rat) / (d:Rat)
 |_=>0
theorem ZI(r:Rat):un (aD r)=r:=FT r
noncomputable def OV(f:Rat->Rat->Rat):D->D
 | .tup [a,b]=>aD (f (un a) (un b))
 |d=>d
theorem MZ{f:Rat->Rat->Rat}:∀{ss os:Wp Rat},(OF (ss.map aD) (os.map aD)).map (OV f)=(tO f ss os).map aD
 | [],os=>by simp[OF]
 |s::ss,[]=>by simp[OF]
 |s::ss,o::os=>by
  have ih:=MZ (f:=f) (ss:=ss) (os:=os)
  unfold OF at ih⊢
  simp only[kU,vA,List.zipWith_cons_cons]at ih⊢
  rw[ih]
  simp[OV,ZI]
theorem Sv{ss os:Wp Rat}{d:D}(h:d∈OF (ss.map aD) (os.map aD)):∃s∈ss,∃o∈os,d=.tup [aD s,aD o]:=by
 unfold OF at h
 obtain⟨⟨a,b⟩,h1,rfl⟩:=lC.mp h
 have h2:=qB h1
 obtain⟨s,hs,rfl⟩:=lC.mp h2.1
 obtain⟨o,ho,rfl⟩:=lC.mp h2.2
 exact⟨s,hs,o,ho,rfl⟩
theorem WW:aD 1=.tup [.int 1,.int 1]:=rfl
theorem Zy(n:Int):aD (n:Rat)=.tup [.int n,.int 1]:=by
 unfold aD
 simp
theorem W3{n:Int}{k:Nat}(h:n.natAbs<2^k)(hk:1<=k):Sz k (n:Rat):=by
 unfold Sz
 have:1<2^k:=rP (by lia)
 simp[h,this]
theorem XD{k:Nat}(hk:1<=k):Sz k (1:Rat):=by
 have:1<2^k:=rP (by lia)
 exact⟨by simpa using this,by simpa using this⟩
theorem PB{x:Rat}{ss os:Wp Rat}{j i:Nat}(hs:∀r∈ss,Sz j r)(ho:∀r∈os,Sz j r)(hx:Sz i x)(hj:2*j+2*i<=7900)(hl:ss.length<=10):∃S',Dq [shD ss,aD x,shD os] S=Gc (shD (Hu x os ss),S')/\CC [] S S':=by
 have hq:(S++[Cl.lst []])[S.length]?=Gc (.lst []):=kR
 obtain⟨os',ho',e⟩:=OR (gs:=[]) (t:=tTp [tNm 4,tNm 5]) (b:=By (Hz IZ (eV 3) [AJ CJ [AJ Aw [eV 4,AJ DH [Bi [eC (.int 1),eC (.int 1)],eV 1]],AJ Aw [eV 5,eV 1]]])) (C:=[Gc (shD ss),Gc (aD x),Gc (shD os),Gc (.ref S.length)]) (m:=2) (q:=S.length) (h:=OV λs o=>s*(1-x)+o*x) (I:=λ_=>uU) (λ_ _=>Ao) (λ_ _ _=>trivial)
  (ds:=OF (ss.map aD) (os.map aD)) (acc:=[]) (os:=[none,none]) (S:=S++[Cl.lst []]) rfl trivial hq (by simp[Jw];lia) (by
    intro d hd os0 S0 acc h0 _ hq0 hz
    obtain⟨o1,o2,rfl⟩:=gH h0
    obtain⟨s,hs',o,ho',rfl⟩:=Sv hd
    have l1:=Wn (S:=S0) (XD (k:=1) (by decide)) hx (by lia)
    have s1:=(Zl (XD (k:=1) (by decide)) hx)
    have l2:=Ib (S:=S0) (hs s hs') s1 (by lia)
    have l3:=Ib (S:=S0) (ho o ho') hx (by lia)
    have l4:=Ph (S:=S0) (OA (hs s hs') s1) (OA (ho o ho') hx) (by lia)
    rw[WW]at l1
    refine⟨[Gc (aD s),Gc (aD o)],[Gc (aD s),Gc (aD o)],by simp,?_,rfl⟩
    simp[l1,l2,l3,l4,AR hq0,hz,OV,ZI])
 rw[MZ]at e
 refine⟨(S++[Cl.lst []]).set S.length (.lst ((Hu x os ss).map aD)),?_,?_⟩
 .have e':HN [] (tTp [tNm 4,tNm 5]) (By (Hz IZ (eV 3) [AJ CJ [AJ Aw [eV 4,AJ DH [Bi [eC (.int 1),eC (.int 1)],eV 1]],AJ Aw [eV 5,eV 1]]])) (OF (ss.map aD) (os.map aD)) [Gc (shD ss),Gc (aD x),Gc (shD os),Gc (.ref S.length),none,none] (S++[Cl.lst []])=Gc (.nx,[Gc (shD ss),Gc (aD x),Gc (shD os),Gc (.ref S.length)]++os',(S++[Cl.lst []]).set S.length (.lst ((Hu x os ss).map aD))):=by simpa[Hu]using e
  simp[Dq,Kb,e']
  rfl
 .refine⟨by simp,λn hn _=>?_⟩
  rw[kB (by lia),j8 hn]
end
section
variable{S:Sto}{p:Nat}
theorem getD_get{α:Type}{xs:Wp α}{n:Nat}{d:α}(h:n<xs.length):xs[n]?=Gc (xs.getD n d):=by
 rw[kP,kE h]
 rfl
theorem getD_mem{α:Type}{xs:Wp α}{n:Nat}{d:α}(h:n<xs.length):xs.getD n d∈xs:=kW (getD_get h)
theorem bT{ss:Wp Rat}{n:Nat}(h:n<ss.length):atI (ss.map aD) (n:Int)=Gc (aD (ss.getD n 0)):=DB (by rw[kn,getD_get h];rfl)
theorem Zw{ss:Wp Rat}{n:Nat}(h:n<ss.length):ixN (ss.map aD).length (n:Int)=Gc n:=Ox (by simpa using h)
theorem QV{p q:Nat}{x:Rat}{ss:Wp Rat}{j i:Nat}(hs:∀r∈ss,Sz j r)(hx:Sz i x)(hj:2*j+i<=7900)(hp:p<ss.length)(hq:q<ss.length)(hpq:p≠q):∃S',Eb [shD ss,(AS.Jy p q x).d] S=Gc (shD (Hw p q x ss),S')/\CC [] S S':=by
 have sp:=hs _ (getD_mem (d:=0) hp)
 have sq:=hs _ (getD_mem (d:=0) hq)
 have l1:∀S,Aw [aD (ss.getD p 0),aD x] S=Gc (aD (ss.getD p 0*x),S):=λS=>Ib sp hx (by lia)
 have s1:=OA sp hx
 have l2:∀S,DH [aD (ss.getD p 0),aD (ss.getD p 0*x)] S=Gc (aD (ss.getD p 0-ss.getD p 0*x),S):=λS=>Wn sp s1 (by lia)
 have l3:∀S,CJ [aD (ss.getD q 0),aD (ss.getD p 0*x)] S=Gc (aD (ss.getD q 0+ss.getD p 0*x),S):=λS=>Ph sq s1 (by lia)
 have a1:=bT hp
 have i1:=Zw hp
 have i2:ixN (((ss.map aD).set p (aD (ss.getD p 0-ss.getD p 0*x))).length) (q:Int)=Gc q:=Ox (by simpa using hq)
 have a2:atI ((ss.map aD).set p (aD (ss.getD p 0-ss.getD p 0*x))) (q:Int)=Gc (aD (ss.getD q 0)):=DB (by
  rw[kB hpq,kn,getD_get hq];rfl)
 refine⟨S++[.lst ((Hw p q x ss).map aD)],?_,.app⟩
 simp only[nI,kT]at i1 i2
 have em:(Hw p q x ss).map aD=((ss.map aD).set p (aD (ss.getD p 0-ss.getD p 0*x))).set q (aD (ss.getD q 0+ss.getD p 0*x)):=by rw[Hw,tP,tP]
 unfold shD
 rw[em]
 generalize aD (ss.getD p 0-ss.getD p 0*x)=d1 at*
 generalize aD (ss.getD q 0+ss.getD p 0*x)=d2 at*
 generalize aD (ss.getD p 0*x)=d3 at*
 generalize aD (ss.getD p 0)=d4 at*
 generalize aD (ss.getD q 0)=d5 at*
 simp[Eb,Lf,AS.d,a1,l1,l2,l3,i1,i2,a2]
theorem Su{x y:Ld}{a b:Nat}{j i:Nat}(ha:S[a]?=Gc (CG x))(hb:S[b]?=Gc (CG y))(hs:∀r∈x.ow,Sz j r)(ho:∀r∈y.ow,Sz j r)(hx:x.n.natAbs<2^i)(hy:y.n.natAbs<2^i)(h0:0<x.n+y.n)(h1:1<=i)(hj:2*j+4*i<=7900)(hl:x.ow.length<=10):∃S',FP [.ref a,.ref b] S=Gc (shD (EK x.n y.n x.ow y.ow),S')/\CC [] S S':=by
 have la:=AX ha
 have lb:=AX hb
 have hq:(S++[Cl.lst []])[S.length]?=Gc (.lst []):=kR
 have ha':(S++[Cl.lst []])[a]?=Gc (CG x):=by rw[j8 la];exact ha
 have hb':(S++[Cl.lst []])[b]?=Gc (CG y):=by rw[j8 lb];exact hb
 obtain⟨os',ho',e⟩:=OR (gs:=[]) (t:=tTp [tNm 3,tNm 4]) (b:=AW (A4 5 (AJ CJ [AJ Aw [Bi [eOp (o2 wIx) [eV 0,eC (.int 1)],eC (.int 1)],eV 3],AJ Aw [Bi [eOp (o2 wIx) [eV 1,eC (.int 1)],eC (.int 1)],eV 4]]))
  (By (Hz IZ (eV 2) [AJ Aw [eV 5,AJ Bc [eC (.int 1),eOp (o2 CO) [eOp (o2 wIx) [eV 0,eC (.int 1)],eOp (o2 wIx) [eV 1,eC (.int 1)]]]]]))) (C:=[Gc (.ref a),Gc (.ref b),Gc (.ref S.length)]) (m:=3) (q:=S.length) (h:=OV λs o=>(s*x.n+o*y.n) / (x.n+y.n:Int)) (I:=λS'=>S'[a]?=Gc (CG x)/\S'[b]?=Gc (CG y)) (λ_ _=>Ao) (λS' c h=>⟨by rw[kB (by lia)];exact h.1,by rw[kB (by lia)];exact h.2⟩)
  (ds:=OF (x.ow.map aD) (y.ow.map aD)) (acc:=[]) (os:=[none,none,none]) (S:=S++[Cl.lst []]) rfl ⟨ha',hb'⟩ hq (by simp[Jw];lia) (by
    intro d hd os0 S0 acc h0' hI hq0 hz
    obtain⟨o1,o2,o3,rfl⟩:=cj h0'
    obtain⟨s,hs',o,ho',rfl⟩:=Sv hd
    have d1:=Aj hI.1
    have d2:=Aj hI.2
    have z1:=W3 hx h1
    have z2:=W3 hy h1
    have l1:=Ib (S:=S0) z1 (hs s hs') (by lia)
    have l2:=Ib (S:=S0) z2 (ho o ho') (by lia)
    have s1:=OA z1 (hs s hs')
    have s2:=OA z2 (ho o ho')
    have l3:=Ph (S:=S0) s1 s2 (by lia)
    have b1:=QE hx hy
    have l4:=T7 (S:=S0) (t:=1) h0 (GY b1 (by lia))
    have s4:Sz (i+1) (((1:Int):Rat) / ((x.n+y.n:Int):Rat)):=Lz h0 (show(1:Int).natAbs<2^(i+1)from rP (by lia)) b1
    have l5:=Ib (S:=S0) (bF s1 s2) s4 (by lia)
    rw[Zy]at l1 l2
    refine⟨[Gc (aD s),Gc (aD o),o3],[Gc (aD s),Gc (aD o),Gc (aD (x.n*s+y.n*o))],by simp,?_,rfl⟩
    have ev:(((x.n:Rat)*s+(y.n:Rat)*o)*(((1:Int):Rat) / ((x.n+y.n:Int):Rat)))=(s*x.n+o*y.n) / (x.n+y.n:Int):=by
     push_cast
     grind
    rw[ev]at l5
    have lf:(OV λs o=>(s*x.n+o*y.n) / (x.n+y.n:Int)) (.tup [aD s,aD o])=aD ((s*x.n+o*y.n) / (x.n+y.n:Int)):=by simp only[OV,ZI]
    rw[lf]
    generalize aD ((s*x.n+o*y.n) / (x.n+y.n:Int))=e5 at*
    generalize aD (((1:Int):Rat) / ((x.n+y.n:Int):Rat))=e4 at*
    generalize aD (x.n*s+y.n*o)=e3 at*
    simp[d1,d2,CG,l1,l2,l3,l4,l5,AR hq0,hz])
 rw[MZ]at e
 refine⟨(S++[Cl.lst []]).set S.length (.lst ((EK x.n y.n x.ow y.ow).map aD)),?_,?_⟩
 .have e':=e
  simp only[l7,kr]at e'
  have d1:=Aj ha'
  have d2:=Aj hb'
  change HN _ _ _ _ _ _=Gc (_,_,List.set _ _ (Cl.lst (List.map aD (EK x.n y.n x.ow y.ow))))at e'
  generalize EK x.n y.n x.ow y.ow=rs at*
  simp[FP,JQ,d1,d2,e',shD]
 .refine⟨by simp,λn hn _=>?_⟩
  rw[kB (by lia),j8 hn]
end
section
variable{S:Sto}{p:Nat}
theorem Gy{α:Type}{gs:Gd}{t:Tf}{f:Ev}{C:En}{m:Nat}{e g:α->D}{S:Sto}(hg:gOk gs S):∀{xs:Wp α} {acc:Wp D} {os:En},os.length=m->acc.length+xs.length<=sizeLine->(∀x∈xs,∀os,os.length=m->∃us,us.length=m/\t (e x) (C++os) S=Gc (C++us)/\f (C++us) S=Gc (g x,S))->CV gs t Dl f (xs.map e) acc (C++os) S=Gc (acc++xs.map g,S)
 | [],acc,os,ho,hz,h=>by rw[mE,Fs hg];simp
 |x::xs,acc,os,ho,hz,h=>by
  obtain⟨us,hu,e1,e2⟩:=h x kJ os ho
  rw[kU,Ie hg (by simp at hz;lia) e1 IM,e2,Aq]
  rw[Gy hg hu (by simp at hz ⊢; lia) λx' hx=>h x' (kC _ hx)]
  simp
theorem DQ{α:Type}{gs:Gd}{t:Tf}{c f:Ev}{C:En}{m:Nat}{e g:α->D}{b:α->lA}{S:Sto}(hg:gOk gs S):∀{xs:Wp α} {acc:Wp D} {os:En},os.length=m->acc.length+xs.length<=sizeLine->(∀x∈xs,∀os,os.length=m->∃us,us.length=m/\t (e x) (C++os) S=Gc (C++us)/\c (C++us) S=Gc (.bl (b x),S)/\f (C++us) S=Gc (g x,S))->CV gs t c f (xs.map e) acc (C++os) S=Gc (acc++(xs.filter b).map g,S)
 | [],acc,os,ho,hz,h=>by rw[mE,Fs hg];simp
 |x::xs,acc,os,ho,hz,h=>by
  obtain⟨us,hu,e1,e2,e3⟩:=h x kJ os ho
  cases hb:b x with
  |true=>
   rw[hb]at e2
   rw[kU,Ie hg (by simp at hz;lia) e1 e2,e3,Aq,DQ hg hu (by simp at hz ⊢; lia) λd' hd=>h d' (kC _ hd)]
   simp[hb]
  |false=>
   rw[hb]at e2
   rw[kU,Hh hg (by simp at hz;lia) e1 e2,DQ hg hu (by simp at hz ⊢; lia) λd' hd=>h d' (kC _ hd)]
   simp[hb]
theorem O7{as:Wp Nat}{ls:Wp Ld}(h:as.length=ls.length):as.map D.ref=(as.zip ls).map λz=>D.ref z.1:=by
 have:as=(as.zip ls).map Prod.fst:=(List.map_fst_zip (by lia)).symm
 conv=>lhs;rw[this]
 rw[mO];rfl
theorem Rn{β:Type}{as:Wp Nat}{ls:Wp Ld}(h:as.length=ls.length)(g:Ld->β):ls.map g=(as.zip ls).map λz=>g z.2:=by
 have:ls=(as.zip ls).map Prod.snd:=(wD (by lia)).symm
 conv=>lhs;rw[this]
 rw[mO];rfl
section
variable{s l m:Nat}{as:Wp Nat}{st:Stt}
theorem SAt.gD(h:SAt S s l m as st){z:Nat×Ld}(hz:z∈as.zip st.AF):S[z.1]?=Gc (CG z.2):=by
 obtain⟨i,hi⟩:=pG.mp hz
 have:=rQ.mp hi
 exact h.ld i z.1 z.2 this.1 this.2
theorem SAt.at(h:SAt S s l m as st){i:Nat}(hi:i<st.AF.length):∃a,as[i]?=Gc a/\S[a]?=Gc (CG (AO st.AF i))/\atI (as.map D.ref) (i:Int)=Gc (.ref a):=by
 have h1:i<as.length:=by rw[h.len];exact hi
 refine⟨as[i],kE h1,h.ld i _ _ (kE h1) (FR hi),DB (by rw[kn,kE h1];rfl)⟩
theorem SAt.guard(h:SAt S s l m as st):gOk [(l,as.map D.ref)] S:=by
 intro g hg
 simp only[kG,kg,mK]at hg
 subst hg
 exact AR h.lo
end
theorem Sj{M:Int}(hM:0<=M):∀{xs:Wp Int},(∀x∈xs,0<=x/\x<=M)->0<=xs.sum/\xs.sum<=xs.length*M
 | [],_=>by simp
 |x::xs,h=>by
  have h1:=h x kJ
  have h2:=Sj hM λy hy=>h y (kC _ hy)
  simp only[pD,lQ]
  refine⟨by lia,?_⟩
  have:((xs.length+1:Nat):Int)*M=xs.length*M+M:=by push_cast;grind
  lia
theorem LY:∀{xs:Wp Int} {y:Int},(∀x∈xs,0<=x)->y∈xs->y<=xs.sum
 |x::xs,y,h,hy=>by
  have h1:=h x kJ
  have h2:0<=xs.sum:=by
   clear hy
   induction xs with
   |nil=>simp
   |cons z zs ih=>
    have:=h z (by simp)
    have:=ih λw hw=>h w (by simp at hw ⊢; rcases hw with hw|hw<;>simp[hw])
    simp only[pD];lia
  simp only[pD]
  rcases kG.mp hy with e|e
  .lia
  .have:=LY (λz hz=>h z (kC _ hz)) e
   lia
section
variable{t:Tr}{k:Nat}{st:Stt}{ws:Wp Int}{n:Int}{l:Nat}
theorem N4{i:Nat}(hw:∀w∈ws,1<=w/\w<=99)(hi:i<ws.length):1<=ws.getD i 0/\ws.getD i 0<=99:=hw _ (getD_mem hi)
theorem XW{i:Nat}(hi:i<ws.length):atI (ws.map D.int) (i:Int)=Gc (.int (ws.getD i 0)):=DB (by rw[kn,getD_get hi];rfl)
theorem Pm(hi:ws.length=k+1):atI (ws.map D.int) (-1:Int)=Gc (.int (ws.getD k 0)):=by
 have ix:ixN (ws.map D.int).length (-1)=Gc k:=by
  rw[kT,hi]
  unfold ixN
  simp
  lia
 unfold atI
 rw[ix]
 show(ws.map D.int)[k]?=_
 rw[kn,getD_get (d:=(0:Int)) (by lia)]
 rfl
theorem Jq(ht:Ia t)(h:FC t k st)(hk:k<=20)(hl:ws.length=t.k+1)(hw:∀w∈ws,1<=w/\w<=99):0<E8 t st.AF ws/\E8 t st.AF ws<2^(145+k):=by
 obtain⟨t1,t2,t3,t4,t5,t6⟩:=ht
 have hP:(0:Int)<=2^(131+k):=zN (Int.pow_pos (by decide))
 have hs:=Sj (M:=2^(131+k)*99) (by lia) (xs:=st.AF.map λl=>l.n*ws.getD l.k 0) (by
  intro x hx
  obtain⟨y,hy,rfl⟩:=lC.mp hx
  have h1:=h.pcs y hy
  have h2:=N4 hw (i:=y.k) (by have:=h.kind y hy;lia)
  refine⟨xX h1.1 (by lia),xY (by lia) h2.2 (by lia) hP⟩)
 have hb:=N4 hw (i:=t.k) (by lia)
 have hlen:=h.len
 rw[kT]at hs
 have h3:(st.AF.length:Int)*(2^(131+k)*99)<=24*(2^(131+k)*99):=qj (by lia) (by lia)
 have h4:(1:Int)<=t.b*ws.getD t.k 0:=by
  have:0<(t.b:Int)*ws.getD t.k 0:=oH (by lia) (by lia)
  lia
 have h5:t.b*ws.getD t.k 0<=20*99:=xY (by lia) hb.2 (by lia) (by decide)
 have h6:(2:Int)^(145+k)=2^(131+k)*16384:=by rw[show 145+k=(131+k)+14 by lia,Int.pow_add];rfl
 have h7:(1:Int)<=2^(131+k):=by have:(0:Int)<2^(131+k):=Int.pow_pos (by decide);lia
 have h7':(2:Int)^11<=2^(131+k):=by
  have:(2^11:Nat)<=2^(131+k):=mW (by decide) (by lia)
  exact_mod_cast this
 unfold E8
 rw[h6]
 generalize (2:Int)^(131+k)=P at*
 lia
theorem RP(ht:Ia t)(h:FC t k st)(hl:ws.length=t.k+1)(hw:∀w∈ws,1<=w/\w<=99)(hi:l<st.AF.length)(h1:1<=n)(h2:n<=(AO st.AF l).n):0<n*ws.getD (AO st.AF l).k 0/\n*ws.getD (AO st.AF l).k 0<E8 t st.AF ws:=by
 obtain⟨t1,t2,t3,t4,t5,t6⟩:=ht
 have hw1:=N4 hw (i:=(AO st.AF l).k) (by have:=h.kind _ (BI hi);lia)
 have hb:=N4 hw (i:=t.k) (by lia)
 have h4:(1:Int)<=t.b*ws.getD t.k 0:=by
  have:0<(t.b:Int)*ws.getD t.k 0:=oH (by lia) (by lia)
  lia
 have h5:=LY (xs:=st.AF.map λl=>l.n*ws.getD l.k 0) (y:=(AO st.AF l).n*ws.getD (AO st.AF l).k 0) (by
  intro x hx
  obtain⟨y,hy,rfl⟩:=lC.mp hx
  have h1:=h.pcs y hy
  have h2:=N4 hw (i:=y.k) (by have:=h.kind y hy;lia)
  exact xX h1.1 (by lia)) (lC.mpr ⟨_,BI hi,rfl⟩)
 have h6:n*ws.getD (AO st.AF l).k 0<=(AO st.AF l).n*ws.getD (AO st.AF l).k 0:=qj h2 (by lia)
 refine⟨oH (by lia) (by lia),?_⟩
 unfold E8
 lia
theorem MF(hi:l<st.AF.length):JZ t st.AF l n ws=((n*ws.getD (AO st.AF l).k 0:Int):Rat) / (E8 t st.AF ws:Rat):=by
 unfold JZ
 rw[FR hi]
 rfl
theorem Kk{x:Int}{j:Nat}(h0:0<=x)(h1:x<2^j):x.natAbs<2^j:=by
 have:((x.natAbs:Nat):Int)<((2^j:Nat):Int):=by
  rw[Int.natAbs_of_nonneg h0];push_cast;exact h1
 exact_mod_cast this
theorem Xy(ht:Ia t)(h:FC t k st)(hk:k<=20)(hl:ws.length=t.k+1)(hw:∀w∈ws,1<=w/\w<=99)(hi:l<st.AF.length)(h1:1<=n)(h2:n<=(AO st.AF l).n):Sz (145+k) (JZ t st.AF l n ws):=by
 have a:=Jq ht h hk hl hw
 have b:=RP ht h hl hw hi h1 h2
 rw[MF hi]
 exact Lz a.1 (Kk (by lia) (by lia)) (Kk (by lia) a.2)
theorem Yo{s r m:Nat}{as:Wp Nat}(hS:SAt S s r m as st)(ht:Ia t)(h:FC t k st)(hk:k<=20)(hl:ws.length=t.k+1)(hw:∀w∈ws,1<=w/\w<=99)(hi:l<st.AF.length)(h1:1<=n)(h2:n<=(AO st.AF l).n):Gx [t.d,.ref r,(AS.thr l n ws).d] S=Gc (aD (JZ t st.AF l n ws),S):=by
 have a:=Jq ht h hk hl hw
 obtain⟨x,x1,x2,x3⟩:=hS.at hi
 have hlen:=h.len
 have e:=Gy (gs:=[(r,as.map D.ref)]) (t:=tTp [tNm 1,tNm 2,tNm 3]) (f:=eOp (o2 F4) [eV 2,eOp (o2 wIx) [eV 0,eV 1]]) (C:=[Gc (.tup (ws.map D.int))]) (m:=3) (e:=λz:Nat×Ld=>D.ref z.1) (g:=λz=>D.int (z.2.n*ws.getD z.2.k 0)) hS.guard (xs:=as.zip st.AF) (acc:=[]) (os:=[none,none,none]) rfl (kF (show _<=24 by simp;lia) (AN (by decide))) (by
  intro z hz os ho
  obtain⟨q1,q2,q3,rfl⟩:=cj ho
  have c1:=hS.gD hz
  have hm:z.2∈st.AF:=(qB (a:=z.1) (b:=z.2) hz).2
  have hk:=h.kind _ hm
  have w1:=XW (ws:=ws) (i:=z.2.k) (by lia)
  have w2:=N4 hw (i:=z.2.k) (by lia)
  have m1:ER z.2.n (ws.getD z.2.k 0)=true:=mulR (by lia) (by lia)
  generalize ws.getD z.2.k 0=wz at*
  refine⟨[Gc (.int z.2.k),Gc (.int z.2.n),Gc (shD z.2.ow)],rfl,?_,?_⟩
  .simp[AR c1,CG]
  .simp[w1,m1])
 rw[<-O7 hS.len,<-Rn hS.len (λx=>D.int (x.n*ws.getD x.k 0))]at e
 have e':=e
 simp only[l7,kr]at e'
 rw[MF hi]
 have es:Jb (st.AF.map λx=>D.int (x.n*ws.getD x.k 0))=Gc (st.AF.map λx=>x.n*ws.getD x.k 0):=by
  have:=Fp (st.AF.map λx=>x.n*ws.getD x.k 0)
  rwa [mO]at this
 have w1:=XW (ws:=ws) (i:=(AO st.AF l).k) (by have:=h.kind _ (BI hi);lia)
 have w3:=N4 hw (i:=(AO st.AF l).k) (by have:=h.kind _ (BI hi);lia)
 have w2:=Pm hl
 have w4:=N4 hw (i:=t.k) (by lia)
 have m1:ER n (ws.getD (AO st.AF l).k 0)=true:=mulR (by lia) (by lia)
 have m2:ER (t.b:Int) (ws.getD t.k 0)=true:=mulR (by lia) (by lia)
 have l1:=T7 (S:=S) (t:=n*ws.getD (AO st.AF l).k 0) a.1 (GY (Kk (by lia) a.2) (by lia))
 have e2:E8 t st.AF ws=(st.AF.map λx=>x.n*ws.getD x.k 0).sum+t.b*ws.getD t.k 0:=rfl
 rw[e2]at l1⊢
 generalize aD (((n*ws.getD (AO st.AF l).k 0:Int):Rat) / (((st.AF.map λx=>x.n*ws.getD x.k 0).sum+t.b*ws.getD t.k 0:Int):Rat))=R at*
 generalize (st.AF.map λx=>x.n*ws.getD x.k 0)=es' at*
 generalize (st.AF.map λx=>D.int (x.n*ws.getD x.k 0))=es2 at*
 generalize ws.getD (AO st.AF l).k 0=wa at*
 generalize ws.getD t.k 0=wb at*
 have dx:=Aj x2
 have dl:=Aj hS.lo
 simp[Gx,L5,AS.d,Tr.d,EG hS.lo,e',es,w2,m2,dl,x3,dx,CG,w1,m1,l1]
theorem SV{G B:Nat}(ht:Ia t)(h:FC t k st)(hk:k<=20)(hl:ws.length=t.k+1)(hw:∀w∈ws,1<=w/\w<=99)(hi:l<st.AF.length)(h1:1<=n)(h2:n<=(AO st.AF l).n){os ss:Wp Rat}(ho:∀r∈os,Ok G B r)(hs:∀r∈ss,Ok G B r):∀r∈Hu (JZ t st.AF l n ws) os ss,Ok (G*(E8 t st.AF ws).toNat) (B*(E8 t st.AF ws).toNat) r:=by
 have a:=Jq ht h hk hl hw
 have b:=RP ht h hl hw hi h1 h2
 intro r hr
 unfold Hu at hr
 rw[pG]at hr
 obtain⟨i,hi'⟩:=hr
 rw[qt]at hi'
 obtain⟨x,y,hx,hy,rfl⟩:=hi'
 rw[MF hi]
 generalize n*ws.getD (AO st.AF l).k 0=c at*
 generalize E8 t st.AF ws=W at*
 have:=Ok.mix (a:=(W-c).toNat) (b:=c.toNat) (t:=W.toNat) (hs x (kW hx)) (ho y (kW hy)) (by lia) (by lia)
 have e1:(((W-c).toNat:Nat):Rat)=(W:Rat)-(c:Rat):=by
  have:(((W-c).toNat:Nat):Int)=W-c:=lP (by lia)
  have:((((W-c).toNat:Nat):Int):Rat)=((W-c:Int):Rat):=by rw[this]
  push_cast at this
  exact this
 have e2:((c.toNat:Nat):Rat)=(c:Rat):=by
  have:((c.toNat:Nat):Int)=c:=lP (by lia)
  have:(((c.toNat:Nat):Int):Rat)=(c:Rat):=by rw[this]
  exact this
 have e3:((W.toNat:Nat):Rat)=(W:Rat):=by
  have:((W.toNat:Nat):Int)=W:=lP (by lia)
  have:(((W.toNat:Nat):Int):Rat)=(W:Rat):=by rw[this]
  exact this
 rw[e1,e2,e3]at this
 have ne:(W:Rat)≠0:=by
  intro z
  have:=qK.mp z
  lia
 have ev:(x*((W:Rat)-(c:Rat))+y*(c:Rat)) / (W:Rat)=x*(1-(c:Rat) / (W:Rat))+y*((c:Rat) / (W:Rat)):=by grind
 rw[ev]at this
 exact this
end
end
section
variable{S:Sto}
theorem Au{x y:Str}(h:mT x=true)(g:mT y=true):Dj (.str x) (.str y)=true:=by
 unfold Dj
 show(mT x && mT y && _)=true
 rw[h,g]
 rfl
theorem C3:mT (lq "bring")=true:=by decide+kernel
theorem Ef:mT (lq "pool")=true:=by decide+kernel
theorem Eu:mT (lq "swap")=true:=by decide+kernel
theorem C2:mT (lq "trade")=true:=by decide+kernel
theorem EW:mT (lq "spoil")=true:=by decide+kernel
theorem Cu:mT (lq "throw")=true:=by decide+kernel
theorem Il:mT (lq "sell")=true:=by decide+kernel
@[simp] theorem TZ:Dj (.str (Str.ofString "bring")) (.str (Str.ofString "bring"))=true:=Au C3 C3
@[simp] theorem Tb:deq (.str (Str.ofString "bring")) (.str (Str.ofString "bring"))=true:=nr rfl
@[simp] theorem V4:Dj (.str (Str.ofString "bring")) (.str (Str.ofString "pool"))=true:=Au C3 Ef
@[simp] theorem Ub:deq (.str (Str.ofString "bring")) (.str (Str.ofString "pool"))=false:=nr rfl
@[simp] theorem UP:Dj (.str (Str.ofString "bring")) (.str (Str.ofString "swap"))=true:=Au C3 Eu
@[simp] theorem UN:deq (.str (Str.ofString "bring")) (.str (Str.ofString "swap"))=false:=nr rfl
@[simp] theorem TR:Dj (.str (Str.ofString "bring")) (.str (Str.ofString "trade"))=true:=Au C3 C2
@[simp] theorem TV:deq (.str (Str.ofString "bring")) (.str (Str.ofString "trade"))=false:=nr rfl
@[simp] theorem Te:Dj (.str (Str.ofString "bring")) (.str (Str.ofString "throw"))=true:=Au C3 Cu
@[simp] theorem TM:deq (.str (Str.ofString "bring")) (.str (Str.ofString "throw"))=false:=nr rfl
@[simp] theorem Uj:wIn false (.val (.str "bring")) (.val (.tup [.str "spoil",.str "throw"]))=some (.val (.bl false)):=nr rfl
@[simp] theorem VB:Dj (.str (Str.ofString "pool")) (.str (Str.ofString "bring"))=true:=Au Ef C3
@[simp] theorem VG:deq (.str (Str.ofString "pool")) (.str (Str.ofString "bring"))=false:=nr rfl
@[simp] theorem W7:Dj (.str (Str.ofString "pool")) (.str (Str.ofString "pool"))=true:=Au Ef Ef
@[simp] theorem W2:deq (.str (Str.ofString "pool")) (.str (Str.ofString "pool"))=true:=nr rfl
@[simp] theorem Vp:Dj (.str (Str.ofString "pool")) (.str (Str.ofString "trade"))=true:=Au Ef C2
@[simp] theorem V7:deq (.str (Str.ofString "pool")) (.str (Str.ofString "trade"))=false:=nr rfl
@[simp] theorem WI:Dj (.str (Str.ofString "pool")) (.str (Str.ofString "throw"))=true:=Au Ef Cu
@[simp] theorem VU:deq (.str (Str.ofString "pool")) (.str (Str.ofString "throw"))=false:=nr rfl
@[simp] theorem Vz:Dj (.str (Str.ofString "swap")) (.str (Str.ofString "bring"))=true:=Au Eu C3
@[simp] theorem V9:deq (.str (Str.ofString "swap")) (.str (Str.ofString "bring"))=false:=nr rfl
@[simp] theorem Wj:Dj (.str (Str.ofString "swap")) (.str (Str.ofString "pool"))=true:=Au Eu Ef
@[simp] theorem XS:deq (.str (Str.ofString "swap")) (.str (Str.ofString "pool"))=false:=nr rfl
@[simp] theorem XB:Dj (.str (Str.ofString "swap")) (.str (Str.ofString "swap"))=true:=Au Eu Eu
@[simp] theorem Wf:deq (.str (Str.ofString "swap")) (.str (Str.ofString "swap"))=true:=nr rfl
@[simp] theorem VA:Dj (.str (Str.ofString "swap")) (.str (Str.ofString "trade"))=true:=Au Eu C2
@[simp] theorem Ut:deq (.str (Str.ofString "swap")) (.str (Str.ofString "trade"))=false:=nr rfl
@[simp] theorem U6:Dj (.str (Str.ofString "swap")) (.str (Str.ofString "throw"))=true:=Au Eu Cu
@[simp] theorem T4:deq (.str (Str.ofString "swap")) (.str (Str.ofString "throw"))=false:=nr rfl
@[simp] theorem Xz:wIn false (.val (.str "swap")) (.val (.tup [.str "swap",.str "trade"]))=some (.val (.bl true)):=nr rfl
@[simp] theorem Ta:Dj (.str (Str.ofString "trade")) (.str (Str.ofString "bring"))=true:=Au C2 C3
@[simp] theorem Th:deq (.str (Str.ofString "trade")) (.str (Str.ofString "bring"))=false:=nr rfl
@[simp] theorem VR:Dj (.str (Str.ofString "trade")) (.str (Str.ofString "pool"))=true:=Au C2 Ef
@[simp] theorem UB:deq (.str (Str.ofString "trade")) (.str (Str.ofString "pool"))=false:=nr rfl
@[simp] theorem VL:Dj (.str (Str.ofString "trade")) (.str (Str.ofString "swap"))=true:=Au C2 Eu
@[simp] theorem V6:deq (.str (Str.ofString "trade")) (.str (Str.ofString "swap"))=false:=nr rfl
@[simp] theorem Tt:Dj (.str (Str.ofString "trade")) (.str (Str.ofString "trade"))=true:=Au C2 C2
@[simp] theorem TU:deq (.str (Str.ofString "trade")) (.str (Str.ofString "trade"))=true:=nr rfl
@[simp] theorem Tc:Dj (.str (Str.ofString "trade")) (.str (Str.ofString "throw"))=true:=Au C2 Cu
@[simp] theorem TF:deq (.str (Str.ofString "trade")) (.str (Str.ofString "throw"))=false:=nr rfl
@[simp] theorem XN:wIn false (.val (.str "trade")) (.val (.tup [.str "swap",.str "trade"]))=some (.val (.bl true)):=nr rfl
@[simp] theorem Ts:Dj (.str (Str.ofString "spoil")) (.str (Str.ofString "bring"))=true:=Au EW C3
@[simp] theorem Ti:deq (.str (Str.ofString "spoil")) (.str (Str.ofString "bring"))=false:=nr rfl
@[simp] theorem UK:Dj (.str (Str.ofString "spoil")) (.str (Str.ofString "pool"))=true:=Au EW Ef
@[simp] theorem U3:deq (.str (Str.ofString "spoil")) (.str (Str.ofString "pool"))=false:=nr rfl
@[simp] theorem VT:Dj (.str (Str.ofString "spoil")) (.str (Str.ofString "swap"))=true:=Au EW Eu
@[simp] theorem WG:deq (.str (Str.ofString "spoil")) (.str (Str.ofString "swap"))=false:=nr rfl
@[simp] theorem Tp:Dj (.str (Str.ofString "spoil")) (.str (Str.ofString "trade"))=true:=Au EW C2
@[simp] theorem Tj:deq (.str (Str.ofString "spoil")) (.str (Str.ofString "trade"))=false:=nr rfl
@[simp] theorem Tw:Dj (.str (Str.ofString "spoil")) (.str (Str.ofString "spoil"))=true:=Au EW EW
@[simp] theorem To:deq (.str (Str.ofString "spoil")) (.str (Str.ofString "spoil"))=true:=nr rfl
@[simp] theorem TJ:Dj (.str (Str.ofString "spoil")) (.str (Str.ofString "throw"))=true:=Au EW Cu
@[simp] theorem TH:deq (.str (Str.ofString "spoil")) (.str (Str.ofString "throw"))=false:=nr rfl
@[simp] theorem XC:wIn false (.val (.str "spoil")) (.val (.tup [.str "swap",.str "trade"]))=some (.val (.bl false)):=nr rfl
@[simp] theorem U2:wIn false (.val (.str "spoil")) (.val (.tup [.str "spoil",.str "throw"]))=some (.val (.bl true)):=nr rfl
@[simp] theorem TK:Dj (.str (Str.ofString "throw")) (.str (Str.ofString "bring"))=true:=Au Cu C3
@[simp] theorem Tu:deq (.str (Str.ofString "throw")) (.str (Str.ofString "bring"))=false:=nr rfl
@[simp] theorem WE:Dj (.str (Str.ofString "throw")) (.str (Str.ofString "pool"))=true:=Au Cu Ef
@[simp] theorem Vo:deq (.str (Str.ofString "throw")) (.str (Str.ofString "pool"))=false:=nr rfl
@[simp] theorem UW:Dj (.str (Str.ofString "throw")) (.str (Str.ofString "swap"))=true:=Au Cu Eu
@[simp] theorem Vi:deq (.str (Str.ofString "throw")) (.str (Str.ofString "swap"))=false:=nr rfl
@[simp] theorem TY:Dj (.str (Str.ofString "throw")) (.str (Str.ofString "trade"))=true:=Au Cu C2
@[simp] theorem TL:deq (.str (Str.ofString "throw")) (.str (Str.ofString "trade"))=false:=nr rfl
@[simp] theorem Td:Dj (.str (Str.ofString "throw")) (.str (Str.ofString "spoil"))=true:=Au Cu EW
@[simp] theorem TQ:deq (.str (Str.ofString "throw")) (.str (Str.ofString "spoil"))=false:=nr rfl
@[simp] theorem Tv:Dj (.str (Str.ofString "throw")) (.str (Str.ofString "throw"))=true:=Au Cu Cu
@[simp] theorem Tq:deq (.str (Str.ofString "throw")) (.str (Str.ofString "throw"))=true:=nr rfl
@[simp] theorem XX:wIn false (.val (.str "throw")) (.val (.tup [.str "swap",.str "trade"]))=some (.val (.bl false)):=nr rfl
@[simp] theorem Uh:wIn false (.val (.str "throw")) (.val (.tup [.str "spoil",.str "throw"]))=some (.val (.bl true)):=nr rfl
@[simp] theorem Vh:Dj (.str (Str.ofString "sell")) (.str (Str.ofString "bring"))=true:=Au Il C3
@[simp] theorem Vm:deq (.str (Str.ofString "sell")) (.str (Str.ofString "bring"))=false:=nr rfl
@[simp] theorem W4:Dj (.str (Str.ofString "sell")) (.str (Str.ofString "pool"))=true:=Au Il Ef
@[simp] theorem WX:deq (.str (Str.ofString "sell")) (.str (Str.ofString "pool"))=false:=nr rfl
@[simp] theorem Wx:Dj (.str (Str.ofString "sell")) (.str (Str.ofString "swap"))=true:=Au Il Eu
@[simp] theorem WS:deq (.str (Str.ofString "sell")) (.str (Str.ofString "swap"))=false:=nr rfl
@[simp] theorem Ug:Dj (.str (Str.ofString "sell")) (.str (Str.ofString "trade"))=true:=Au Il C2
@[simp] theorem T8:deq (.str (Str.ofString "sell")) (.str (Str.ofString "trade"))=false:=nr rfl
@[simp] theorem Vv:Dj (.str (Str.ofString "sell")) (.str (Str.ofString "spoil"))=true:=Au Il EW
@[simp] theorem Vt:deq (.str (Str.ofString "sell")) (.str (Str.ofString "spoil"))=false:=nr rfl
@[simp] theorem Vg:Dj (.str (Str.ofString "sell")) (.str (Str.ofString "throw"))=true:=Au Il Cu
@[simp] theorem Vn:deq (.str (Str.ofString "sell")) (.str (Str.ofString "throw"))=false:=nr rfl
@[simp] theorem Yy:wIn false (.val (.str "sell")) (.val (.tup [.str "swap",.str "trade"]))=some (.val (.bl false)):=nr rfl
@[simp] theorem Wz:wIn false (.val (.str "sell")) (.val (.tup [.str "spoil",.str "throw"]))=some (.val (.bl false)):=nr rfl
section
variable{a b c d e f:D}{r:Wp D}
@[simp] theorem bh:IY [a,b,c,d,e] (some (-4)) none=[b,c,d,e]:=nr rfl
@[simp] theorem cG:IY [a,b,c,d,e,f] (some (-4)) none=[c,d,e,f]:=nr rfl
@[simp] theorem cb:IY [a,b,c,d,e] (some 1) (some 2)=[b]:=nr rfl
@[simp] theorem cu:IY [a,b,c,d,e,f] (some 1) (some 2)=[b]:=nr rfl
@[simp] theorem cD{ds zs:List D}:cC S ds [.tup zs]=if ds.length+zs.length<=sizeLine then some (.non,ds++zs)else none:=nr rfl
end
end
section
variable{S S':Sto}{s l m:Nat}{as:Wp Nat}{st:Stt}
theorem SAt.same(h:SAt S s l m as st)(g:CC A S S')(hA:∀n∈A,n∉s::l::m::as):SAt S' s l m as st where
 root:=g.get h.root λz=>hA _ z (by simp)
 lo:=g.get h.lo λz=>hA _ z (by simp)
 nu:=g.get h.nu λz=>hA _ z (by simp)
 ld:=λi a x ha hx=>g.get (h.ld i a x ha hx) λz=>hA _ z (by simp[kW ha])
 len:=h.len
 nd:=h.nd
theorem SAt.QR(h:SAt S s l m as st)(g:CC [] S S'):SAt S' s l m as st:=h.same g λ_ z=>(nomatch z)
theorem SAt.ne(h:SAt S s l m as st):s≠l/\s≠m/\l≠m/\s∉as/\l∉as/\m∉as/\as.Nodup:=by
 have:=h.nd
 simp only[nH,kG,tH]at this
 obtain⟨⟨a,b,c⟩,⟨d,e⟩,f,g⟩:=this
 exact⟨a,b,d,c,e,f,g⟩
theorem SAt.OY(h:SAt S s l m as st){i a:Nat}{y:Ld}(ha:as[i]?=Gc a):SAt (S.set a (CG y)) s l m as {st with AF:=st.AF.set i y}:=by
 obtain⟨n1,n2,n3,n4,n5,n6,n7⟩:=h.ne
 have ma:=kW ha
 have q1:a≠s:=λe=>n4 (e▸ma)
 have q2:a≠l:=λe=>n5 (e▸ma)
 have q3:a≠m:=λe=>n6 (e▸ma)
 have hi:i<as.length:=(kK.mp ha).1
 have hi':i<st.AF.length:=by rw[<-h.len];exact hi
 refine⟨by rw[kB q1];exact h.root,by rw[kB q2];exact h.lo,by rw[kB q3];exact h.nu,?_,by simp[h.len],h.nd⟩
 intro j b x hb hx
 by_cases e:i=j
 .subst e
  rw[ha]at hb
  cases hb
  have hx':(st.AF.set i y)[i]?=Gc x:=hx
  rw[kN hi']at hx'
  cases hx'
  have hl:a<S.length:=AX (h.ld i a _ ha (kE hi'))
  exact kN hl
 .have hx':(st.AF.set i y)[j]?=Gc x:=hx
  rw[kB e]at hx'
  have:a≠b:=by
   intro z
   subst z
   exact e ((qR hi n7).mp (ha.trans hb.symm))
  rw[kB this]
  exact h.ld j b x hb hx'
theorem SAt.lts(h:SAt S s l m as st):∀n∈s::l::m::as,n<S.length:=by
 intro n hn
 simp only[kG]at hn
 rcases hn with rfl|rfl|rfl|hn
 .exact AX h.root
 .exact AX h.lo
 .exact AX h.nu
 .obtain⟨i,hi⟩:=pG.mp hn
  have:i<st.AF.length:=by rw[<-h.len];exact(kK.mp hi).1
  exact AX (h.ld i n _ hi (kE this))
theorem SAt.app(h:SAt S s l m as st)(y:Ld):SAt ((S++[CG y]).set l (.lst (as.map D.ref++[.ref S.length]))) s l m (as++[S.length]) {st with AF:=st.AF++[y]}:=by
 obtain⟨n1,n2,n3,n4,n5,n6,n7⟩:=h.ne
 have lt:=h.lts
 have ls:=lt s (by simp);have ll:=lt l (by simp);have lm:=lt m (by simp)
 have la:∀a∈as,a<S.length:=λa ha=>lt a (by simp[ha])
 refine⟨?_,?_,?_,?_,by simp[h.len],?_⟩
 .rw[kB (l8 n1),j8 ls];exact h.root
 .rw[kN (by simp;lia)];simp
 .rw[kB n3,j8 lm];exact h.nu
 .intro i a x ha hx
  by_cases e:i<as.length
  .rw[j8 e]at ha
   have hx':(st.AF++[y])[i]?=Gc x:=hx
   rw[j8 (by rw[<-h.len];exact e)]at hx'
   have ma:=kW ha
   rw[kB (show l≠a by rintro rfl;exact n5 ma),j8 (la a ma)]
   exact h.ld i a x ha hx'
  .have hx':(st.AF++[y])[i]?=Gc x:=hx
   have:i=as.length:=by
    have:=(kK.mp ha).1
    simp at this;lia
   subst this
   rw[kR]at ha
   cases ha
   rw[h.len,kR]at hx'
   cases hx'
   rw[kB (by lia),kR]
 .have:(s::l::m::(as++[S.length]))=(s::l::m::as)++[S.length]:=by simp
  rw[this,mG]
  refine⟨h.nd,by simp,?_⟩
  intro a ha b hb e
  simp only[kG,kg,mK]at hb
  have:=lt a ha
  lia
theorem SAt.hold(h:SAt S s l m as st)(rs:Wp Rat):SAt (S.set s (.lst [.ref l,shD rs,.ref m])) s l m as {st with hold:=rs}:=by
 obtain⟨n1,n2,n3,n4,n5,n6,n7⟩:=h.ne
 refine⟨kN (h.lts s (by simp)),by rw[kB n1];exact h.lo,by rw[kB n2];exact h.nu,?_,h.len,h.nd⟩
 intro i a x ha hx
 rw[kB (show s≠a by rintro rfl;exact n4 (kW ha))]
 exact h.ld i a x ha hx
theorem SAt.nums(h:SAt S s l m as st)(us:Wp Int):SAt (S.set m (.lst (us.map D.int))) s l m as {st with nums:=us}:=by
 obtain⟨n1,n2,n3,n4,n5,n6,n7⟩:=h.ne
 refine⟨by rw[kB (l8 n2)];exact h.root,by rw[kB (l8 n3)];exact h.lo,kN (h.lts m (by simp)),?_,h.len,h.nd⟩
 intro i a x ha hx
 rw[kB (show m≠a by rintro rfl;exact n6 (kW ha))]
 exact h.ld i a x ha hx
theorem Nm{f:Ld->Ld}{body:Ex}{C:En}{i8:Nat}{o0:j6 D}(h:SAt S s l m as st)(hi:C.length=i8)(hb:∀(S':Sto) (a:Nat) (x:Ld),x∈st.AF->S'[a]?=Gc (CG x)->∃S2,body (C++[Gc (.ref a)]) S'=Gc (.nx,C++[Gc (.ref a)],S2.set a (CG (f x)))/\CC [] S' S2):∃o S',HN [(l,as.map D.ref)] (tNm i8) body (as.map D.ref) (C++[o0]) S=Gc (.nx,C++[o],S')/\SAt S' s l m as {st with AF:=st.AF.map f}/\CC as S S':=by
 obtain⟨E',S',e,i,o,i1,i2,rfl,i3,i4⟩:=Gg (gs:=[(l,as.map D.ref)]) (t:=tNm i8) (b:=body)
  (I:=λds E S'=>∃(i:Nat) (o:j6 D),ds=(as.drop i).map D.ref/\i<=as.length/\E=C++[o]/\SAt S' s l m as {st with AF:=(st.AF.take i).map f++st.AF.drop i}/\CC as S S')
  (λds E S' hI=>by obtain⟨i,o,_,_,_,h1,_⟩:=hI;exact h1.guard) (ds:=as.map D.ref) (E:=C++[o0]) (S:=S)
  ⟨0,o0,by simp,lX _,rfl,by simpa using h,.refl⟩ (by
    rintro d ds E S1 ⟨i,o,i1,i2,rfl,i3,i4⟩
    have hlt:i<as.length:=by
     rcases tQ i as.length with w|w
     .exact w
     .rw[nQ w]at i1;cases i1
    rw[mC hlt,kU]at i1
    injection i1 with e1 e2
    subst e1 e2
    have hl2:i<st.AF.length:=by rw[<-h.len];exact hlt
    have ha:=kE hlt
    have hx:((st.AF.take i).map f++st.AF.drop i)[i]?=Gc st.AF[i]:=by
     rw[lG (by simp;lia)]
     simp[Nat.min_eq_left (mN hl2)]
    obtain⟨S2,e3,g3⟩:=hb S1 as[i] st.AF[i] (oW hl2) (i3.ld i _ _ ha hx)
    have k:=(i3.QR g3).OY (y:=f st.AF[i]) ha
    refine⟨C++[Gc (.ref as[i])],C++[Gc (.ref as[i])],S2.set as[i] (CG (f st.AF[i])),?_,e3,i+1,Gc (.ref as[i]),rfl,hlt,rfl,?_,?_⟩
    .rw[Xh]
     congr 1
     subst hi
     rw[tq _ _ (kA _)]
     simp
    .have:((st.AF.take i).map f++st.AF.drop i).set i (f st.AF[i])=(st.AF.take (i+1)).map f++st.AF.drop (i+1):=by
      rw[tq _ _ (by simp;lia)]
      have e0:i-((st.AF.take i).map f).length=0:=by simp;lia
      rw[e0,mC hl2,List.set_cons_zero,List.take_succ_eq_append_getElem hl2,mR]
      simp
     rw[<-this]
     exact k
    .exact(i4.trans (g3.mono λ_ z=>(nomatch z))).trans (.set (oW hlt)))
 refine⟨o,S',e,?_,i4⟩
 have hz:i=as.length:=by
  have:=congrArg rf i1
  simp at this
  lia
 have:(st.AF.take i).map f++st.AF.drop i=st.AF.map f:=by
  rw[hz,h.len];simp
 rw[this]at i3
 exact i3
end
section
variable{S S':Sto}{s l m:Nat}{as:Wp Nat}{st:Stt}{t:Tr}{k:Nat}
theorem Yf{i:Nat}{n:Int}{j:Nat}(hi:i<st.AF.length)(h:∀x∈st.AF,∀r∈x.ow,Sz j r):∀x∈less st.AF i n,∀r∈x.ow,Sz j r:=by
 intro x hx
 rcases Mm hx hi with h1|h1
 .exact h x h1
 .rw[h1];exact h (AO st.AF i) (BI hi)
theorem RU{i:Nat}{n:Int}{j:Nat}(hi:i<st.AF.length)(h:∀x∈st.AF,x.ow.length=j):∀x∈less st.AF i n,x.ow.length=j:=by
 intro x hx
 rcases Mm hx hi with h1|h1
 .exact h x h1
 .rw[h1];exact h (AO st.AF i) (BI hi)
theorem Tz(hS:SAt S s l m as st)(ht:Ia t)(h:FC t k st)(hk:k<=16){i:Nat}{n:Int}{ws:Wp Int}(hc:Can t st (.thr i n ws)):∃S',Ea [t.d,.ref s,(AS.thr i n ws).d] S=Gc (.non,S')/\SAt S' s l m as (step t st (.thr i n ws))/\CC (s::l::m::as) S S':=by
 obtain⟨hi,h1,h2,hl,hw⟩:=hc
 have cO:=Yo hS ht h (by lia) hl hw hi h1 h2
 have cz:=Xy ht h (by lia) hl hw hi h1 h2
 have sz:=h.sz
 obtain⟨a,a1,a2,a3⟩:=hS.at hi
 have hS1:=hS.OY (y:=⟨(AO st.AF i).k,(AO st.AF i).n-n,(AO st.AF i).ow⟩) a1
 have o1:=sz.1 _ (BI hi)
 have tp:=ht.2.1
 have hdef:step t st (.thr i n ws)={st with AF:=(less st.AF i n).map λx=>{x with ow:=Hu (JZ t st.AF i n ws) (AO st.AF i).ow x.ow},hold:=Hu (JZ t st.AF i n ws) (AO st.AF i).ow st.hold}:=rfl
 rw[hdef]
 generalize hX:JZ t st.AF i n ws=X at*
 obtain⟨o,S2,f1,f2,f3⟩:=Nm (f:=λx=>{x with ow:=Hu X (AO st.AF i).ow x.ow}) (body:=NG (AJ Dq [eOp (o2 wIx) [eV 8,eC (.int 2)],eV 6,eV 7]) (eV 8) (eC (.int 2))) (C:=[Gc t.d,Gc (.ref s),Gc (AS.thr i n ws).d,Gc (.ref l),Gc (shD st.hold),Gc (.ref m),Gc (aD X),Gc (shD (AO st.AF i).ow)]) (i8:=8) (o0:=none) hS1 rfl (by
  intro S' b x hx hb
  obtain⟨S2,e2,g2⟩:=PB (S:=S') (x:=X) (ss:=x.ow) (os:=(AO st.AF i).ow) (j:=30+170*k) (i:=145+k) (Yf (n:=n) hi sz.1 x hx) o1 cz (by lia) (by rw[RU (n:=n) hi h.own x hx];lia)
  have hb2:=g2.get hb (by simp)
  refine⟨S2,?_,g2⟩
  simp[Aj hb,CG,e2,AR hb2])
 obtain⟨S3,e3,g3⟩:=PB (S:=S2) (x:=X) (ss:=st.hold) (os:=(AO st.AF i).ow) (j:=30+170*k) (i:=145+k) sz.2 o1 cz (by lia) (by rw[h.hold];lia)
 have f4:=(f2.QR g3)
 have rt:=f4.root
 refine⟨S3.set s (.lst [.ref l,shD (Hu X (AO st.AF i).ow st.hold),.ref m]),?_,f4.hold _,?_⟩
 .have f1':=f1
  simp only[l7,kr]at f1'
  have rt':EH S3 s=Gc [.ref l,shD st.hold,.ref m]:=AR rt
  have r0:=AR hS.root
  have lo:=Aj hS.lo
  have xx:=Aj a2
  have c2:=AR a2
  have sq1:=EG hS1.lo
  simp only[CG]at f1' sq1 c2 xx
  simp only[AS.d]at f1' cO⊢
  simp[Ea,Ih,r0,cO,lo,a3,xx,c2,sq1,f1',e3,rt']
 .have q1:CC (s::l::m::as) S (S.set a (CG ⟨(AO st.AF i).k,(AO st.AF i).n-n,(AO st.AF i).ow⟩)):=.set (by simp[kW a1])
  exact((q1.trans (f3.mono λn hn=>by simp[hn])).trans (g3.mono λ_ z=>(nomatch z))).trans (.set (by simp))
theorem Rc(hS:SAt S s l m as st)(ht:Ia t)(h:FC t k st)(hk:k<=16){p q:Nat}{x:Rat}(hc:Can t st (.Jy p q x)):∃S',Ea [t.d,.ref s,(AS.Jy p q x).d] S=Gc (.non,S')/\SAt S' s l m as (step t st (.Jy p q x))/\CC (s::l::m::as) S S':=by
 obtain⟨hpq,hp,hq,x1,x2,x3⟩:=hc
 have sz:=h.sz
 have hx:Sz 4 x:=by
  refine⟨?_,by lia⟩
  show x.num.natAbs<16
  lia
 have hdef:step t st (.Jy p q x)={st with AF:=st.AF.map λy=>{y with ow:=Hw p q x y.ow},hold:=Hw p q x st.hold}:=rfl
 rw[hdef]
 obtain⟨o,S2,f1,f2,f3⟩:=Nm (f:=λy=>{y with ow:=Hw p q x y.ow}) (body:=NG (AJ Eb [eOp (o2 wIx) [eV 8,eC (.int 2)],eV 2]) (eV 8) (eC (.int 2))) (C:=[Gc t.d,Gc (.ref s),Gc (AS.Jy p q x).d,Gc (.ref l),Gc (shD st.hold),Gc (.ref m),none,none]) (i8:=8) (o0:=none) hS rfl (by
  intro S' b y hy hb
  obtain⟨S2,e2,g2⟩:=QV (S:=S') (p:=p) (q:=q) (x:=x) (ss:=y.ow) (j:=30+170*k) (i:=4) (sz.1 y hy) hx (by lia) (by rw[h.own y hy];exact hp) (by rw[h.own y hy];exact hq) hpq
  have hb2:=g2.get hb (by simp)
  refine⟨S2,?_,g2⟩
  simp[Aj hb,CG,e2,AR hb2])
 obtain⟨S3,e3,g3⟩:=QV (S:=S2) (p:=p) (q:=q) (x:=x) (ss:=st.hold) (j:=30+170*k) (i:=4) sz.2 hx (by lia) (by rw[h.hold];exact hp) (by rw[h.hold];exact hq) hpq
 have f4:=(f2.QR g3)
 have rt:=f4.root
 refine⟨S3.set s (.lst [.ref l,shD (Hw p q x st.hold),.ref m]),?_,f4.hold _,?_⟩
 .have f1':=f1
  simp only[l7,kr]at f1'
  have rt':EH S3 s=Gc [.ref l,shD st.hold,.ref m]:=AR rt
  have r0:=AR hS.root
  have sq1:=EG hS.lo
  simp only[AS.d]at f1' e3⊢
  simp[Ea,Ih,r0,sq1,f1',e3,rt']
 .exact((f3.mono λn hn=>by simp[hn]).trans (g3.mono λ_ z=>(nomatch z))).trans (.set (by simp))
end
section
variable{S S':Sto}{s l m:Nat}{as:Wp Nat}{st:Stt}{t:Tr}{k:Nat}
theorem Rr{ls:Wp Ld}{l:Nat}{n:Int}:less ls l n=ls.set l ⟨(AO ls l).k,(AO ls l).n-n,(AO ls l).ow⟩:=rfl
theorem Vb{P p:Nat}{cond:Int}{C:En}{dd:D}{f:Ev}(hP:P<=50)(hf:∀(i:Nat),f [Gc dd,Gc (.int i)] S=Gc (aD (if i=p then 1 else 0),S)):CV [] (tNm 1) Dl f (J6 0 P) [] [Gc dd,none] S=Gc ((Qo P p).map aD,S):=by
 have:=Gy (gs:=[]) (t:=tNm 1) (f:=f) (C:=[Gc dd]) (m:=1) (e:=λi:Nat=>D.int (0+(i:Int))) (g:=λi=>aD (if i=p then 1 else 0)) (S:=S) Ao (xs:=kq P) (acc:=[]) (os:=[none]) rfl (kF (show _<=50 by simp;lia) (AN (by decide))) (by
  intro i _ os ho
  obtain⟨o,rfl⟩:=P7 ho
  refine⟨[Gc (.int i)],rfl,by simp,hf i⟩)
 simp only[l7,kr]at this
 rw[Qo,mO]
 exact this
theorem UU(hS:SAt S s l m as st)(ht:Ia t)(h:FC t k st)(hk:k<=16){p kd:Nat}{n:Int}(hc:Can t st (.Dd p kd n)):∃S' as',A3 [t.d,.ref s,(AS.Dd p kd n).d] S=Gc (.non,S')/\SAt S' s l m as' (step t st (.Dd p kd n))/\CC (s::l::m::as) S S'/\∀n∈as',n∈as\/S.length<=n:=by
 have tp:=ht.2.1
 have e:=Vb (S:=S) (P:=t.p) (p:=p) (cond:=0) (C:=[]) (dd:=(AS.Dd p kd n).d) (f:=Bi [eOp (o1 Um) [eOp (o2 wEq) [eV 1,eOp (o2 wIx) [eV 0,eC (.int 1)]]],eC (.int 1)]) (by lia) (by
  intro i
  by_cases hi:i=p
  .subst hi;simp[AS.d];rfl
  .have:((i:Int)==(p:Int))=false:=by simp;lia
   simp[AS.d,this,hi];rfl)
 have rn:HG (t.p:Int)=true:=Dc (by lia) (by lia)
 have hz:as.length<sizeLine:=kD (show as.length<50 by rw[hS.len];have:=h.len;lia) (AN (by decide))
 refine⟨_,_,?_,hS.app ⟨kd,n,Qo t.p p⟩,?_,?_⟩
 .have r0:=AR hS.root
  have c0:=AR hS.lo
  have c1:EH (S++[CG ⟨kd,n,Qo t.p p⟩]) l=Gc (as.map D.ref):=AR (by rw[j8 (AX hS.lo)];exact hS.lo)
  simp only[CG]at c1⊢
  simp only[AS.d]at e⊢
  simp[A3,FU,r0,Tr.d,rn,e,c0,shD]at c1⊢
  simp[c1,hz]
 .exact CC.app.trans (.set (by simp))
 .intro n hn
  rcases kY.mp hn with w|w
  .exact .inl w
  .simp at w;exact .inr (by lia)
theorem Vy(hS:SAt S s l m as st)(ht:Ia t)(h:FC t k st)(hk:k<=16){i:Nat}{n:Int}(hc:Can t st (.Gv i n)):∃S' as',A3 [t.d,.ref s,(AS.Gv i n).d] S=Gc (.non,S')/\SAt S' s l m as' (step t st (.Gv i n))/\CC (s::l::m::as) S S'/\∀n∈as',n∈as\/S.length<=n:=by
 obtain⟨hi,h1,h2⟩:=hc
 obtain⟨a,a1,a2,a3⟩:=hS.at hi
 refine⟨_,as,?_,hS.OY (y:=⟨(AO st.AF i).k,(AO st.AF i).n-n,(AO st.AF i).ow⟩) a1,.set (by simp[kW a1]),λn hn=>.inl hn⟩
 have r0:=AR hS.root
 have lo:=Aj hS.lo
 have xx:=Aj a2
 have c2:=AR a2
 simp only[CG]at c2 xx⊢
 simp[A3,FU,AS.d,r0,lo,a3,xx,c2]
theorem bD(hS:SAt S s l m as st)(ht:Ia t)(h:FC t k st)(hk:k<=16){i:Nat}{n:Int}{ws:Wp Int}(hc:Can t st (.thr i n ws)):∃S' as',A3 [t.d,.ref s,(AS.thr i n ws).d] S=Gc (.non,S')/\SAt S' s l m as' (step t st (.thr i n ws))/\CC (s::l::m::as) S S'/\∀n∈as',n∈as\/S.length<=n:=by
 obtain⟨S',e,g1,g2⟩:=Tz hS ht h hk hc
 refine⟨S',as,?_,g1,g2,λn hn=>.inl hn⟩
 have r0:=AR hS.root
 simp only[AS.d]at e⊢
 simp[A3,FU,r0,e]
theorem Yc(hS:SAt S s l m as st)(ht:Ia t)(h:FC t k st)(hk:k<=16){p q:Nat}{x:Rat}(hc:Can t st (.Jy p q x)):∃S' as',A3 [t.d,.ref s,(AS.Jy p q x).d] S=Gc (.non,S')/\SAt S' s l m as' (step t st (.Jy p q x))/\CC (s::l::m::as) S S'/\∀n∈as',n∈as\/S.length<=n:=by
 obtain⟨S',e,g1,g2⟩:=Rc hS ht h hk hc
 refine⟨S',as,?_,g1,g2,λn hn=>.inl hn⟩
 have r0:=AR hS.root
 simp only[AS.d]at e⊢
 simp[A3,FU,r0,e]
theorem Xl(hS:SAt S s l m as st)(ht:Ia t)(h:FC t k st)(hk:k<=16){i kd:Nat}{g n:Int}(hc:Can t st (.swap i g kd n)):∃S' as',A3 [t.d,.ref s,(AS.swap i g kd n).d] S=Gc (.non,S')/\SAt S' s l m as' (step t st (.swap i g kd n))/\CC (s::l::m::as) S S'/\∀n∈as',n∈as\/S.length<=n:=by
 obtain⟨hi,h1,h2,h3,h4,h5,h6⟩:=hc
 obtain⟨a,a1,a2,a3⟩:=hS.at hi
 have hS1:=hS.OY (y:=⟨(AO st.AF i).k,(AO st.AF i).n-g,(AO st.AF i).ow⟩) a1
 have hS2:=hS1.app ⟨kd,n,(AO st.AF i).ow⟩
 have hz:as.length<sizeLine:=kD (show as.length<50 by rw[hS.len];have:=h.len;lia) (AN (by decide))
 have hz2:st.nums.length<=sizeLine:=kF (show _<=20 by have:=h.nm;lia) (AN (by decide))
 refine⟨_,_,?_,hS2,?_,?_⟩
 .have r0:=AR hS.root
  have lo:=Aj hS.lo
  have xx:=Aj a2
  have c2:=AR a2
  have lo1:=Aj hS1.lo
  have co1:=AR hS1.lo
  have x1:=Aj (kN (a:=CG ⟨(AO st.AF i).k,(AO st.AF i).n-g,(AO st.AF i).ow⟩) (AX a2))
  have c4:EH ((S.set a (CG ⟨(AO st.AF i).k,(AO st.AF i).n-g,(AO st.AF i).ow⟩))++[CG ⟨kd,n,(AO st.AF i).ow⟩]) l=Gc (as.map D.ref):=AR (by rw[j8 (AX hS1.lo)];exact hS1.lo)
  have nu:=hS2.nu
  have c5:=AR nu
  have st5:∀{T:Sto},T[m]?=Gc (.lst (st.nums.map D.int))->T.set m (.lst (st.nums.map D.int))=T:=λh=>set_same h
  have st6:=st5 nu
  simp only[CG]at c2 xx lo1 co1 x1 c4 c5 st6⊢
  have hz':(as.map D.ref).length<sizeLine:=by simpa using hz
  generalize (as.map D.ref)=refs at*
  simp[A3,FU,AS.d,r0,lo,a3,xx,c2,lo1,x1,co1]at c4 c5 st6⊢
  simp[c4,hz',c5,hz2,st6]
 .exact((CC.set (by simp[kW a1])).trans .app).trans (.set (by simp))
 .intro n hn
  rcases kY.mp hn with w|w
  .exact .inl w
  .simp at w;exact .inr (by lia)
theorem V5(hS:SAt S s l m as st)(ht:Ia t)(h:FC t k st)(hk:k<=16){i kd:Nat}{u g n:Int}(hc:Can t st (.B1 u i g kd n)):∃S' as',A3 [t.d,.ref s,(AS.B1 u i g kd n).d] S=Gc (.non,S')/\SAt S' s l m as' (step t st (.B1 u i g kd n))/\CC (s::l::m::as) S S'/\∀n∈as',n∈as\/S.length<=n:=by
 obtain⟨hi,h1,h2,h3,h4,h5,h6,h7,h8⟩:=hc
 obtain⟨a,a1,a2,a3⟩:=hS.at hi
 have hS1:=hS.OY (y:=⟨(AO st.AF i).k,(AO st.AF i).n-g,(AO st.AF i).ow⟩) a1
 have hS2:=hS1.app ⟨kd,n,(AO st.AF i).ow⟩
 have hz:as.length<sizeLine:=kD (show as.length<50 by rw[hS.len];have:=h.len;lia) (AN (by decide))
 have hz2:st.nums.length+1<=sizeLine:=kF (show _<=20 by have:=h.nm;lia) (AN (by decide))
 refine⟨_,_,?_,hS2.nums (st.nums++[u]),?_,?_⟩
 .have r0:=AR hS.root
  have lo:=Aj hS.lo
  have xx:=Aj a2
  have c2:=AR a2
  have lo1:=Aj hS1.lo
  have co1:=AR hS1.lo
  have x1:=Aj (kN (a:=CG ⟨(AO st.AF i).k,(AO st.AF i).n-g,(AO st.AF i).ow⟩) (AX a2))
  have c4:EH ((S.set a (CG ⟨(AO st.AF i).k,(AO st.AF i).n-g,(AO st.AF i).ow⟩))++[CG ⟨kd,n,(AO st.AF i).ow⟩]) l=Gc (as.map D.ref):=AR (by rw[j8 (AX hS1.lo)];exact hS1.lo)
  have nu:=hS2.nu
  have c5:=AR nu
  simp only[CG]at c2 xx lo1 co1 x1 c4 c5⊢
  have hz':(as.map D.ref).length<sizeLine:=by simpa using hz
  generalize (as.map D.ref)=refs at*
  simp[A3,FU,AS.d,r0,lo,a3,xx,c2,lo1,x1,co1]at c4 c5⊢
  simp[c4,hz',c5,hz2]
 .exact(((CC.set (by simp[kW a1])).trans .app).trans (.set (by simp))).trans (.set (by simp))
 .intro n hn
  rcases kY.mp hn with w|w
  .exact .inl w
  .simp at w;exact .inr (by lia)
theorem X0(hS:SAt S s l m as st)(ht:Ia t)(h:FC t k st)(hk:k<=16){i j:Nat}(hc:Can t st (.NH i j)):∃S' as',A3 [t.d,.ref s,(AS.NH i j).d] S=Gc (.non,S')/\SAt S' s l m as' (step t st (.NH i j))/\CC (s::l::m::as) S S'/\∀n∈as',n∈as\/S.length<=n:=by
 obtain⟨hij,hi,hj,h1,h2,h3⟩:=hc
 obtain⟨a,a1,a2,a3⟩:=hS.at hi
 obtain⟨b,b1,b2,b3⟩:=hS.at hj
 have sz:=h.sz
 have pi:=h.pcs _ (BI hi)
 have pj:=h.pcs _ (BI hj)
 obtain⟨S1,e1,g1⟩:=Su (S:=S) (x:=AO st.AF i) (y:=AO st.AF j) (j:=30+170*k) (i:=131+k) a2 b2 (sz.1 _ (BI hi)) (sz.1 _ (BI hj)) (Kk pi.1 pi.2) (Kk pj.1 pj.2) (by lia) (by lia) (by lia) (by rw[h.own _ (BI hi)];have:=ht.2.1;lia)
 have hS1:=hS.QR g1
 have hab:a≠b:=by
  rintro rfl
  exact hij ((qR (kK.mp a1).1 hS.ne.2.2.2.2.2.2).mp (a1.trans b1.symm))
 have hS2:=hS1.app ⟨(AO st.AF i).k,(AO st.AF i).n+(AO st.AF j).n,EK (AO st.AF i).n (AO st.AF j).n (AO st.AF i).ow (AO st.AF j).ow⟩
 have ai:i<as.length:=(kK.mp a1).1
 have bj:j<as.length:=(kK.mp b1).1
 have a1':(as++[S1.length])[i]?=Gc a:=by rw[j8 ai];exact a1
 have b1':(as++[S1.length])[j]?=Gc b:=by rw[j8 bj];exact b1
 have hS3:=hS2.OY (y:=⟨(AO st.AF i).k,0,(AO st.AF i).ow⟩) a1'
 have hS4:=hS3.OY (y:=⟨(AO st.AF j).k,0,(AO st.AF j).ow⟩) b1'
 have hz:as.length<sizeLine:=kD (show as.length<50 by rw[hS.len];have:=h.len;lia) (AN (by decide))
 have est:step t st (.NH i j)={st with AF:=((st.AF++[Ld.mk (AO st.AF i).k ((AO st.AF i).n+(AO st.AF j).n) (EK (AO st.AF i).n (AO st.AF j).n (AO st.AF i).ow (AO st.AF j).ow)]).set i ⟨(AO st.AF i).k,0,(AO st.AF i).ow⟩).set j ⟨(AO st.AF j).k,0,(AO st.AF j).ow⟩}:=by
  have e0:AO (less st.AF i (AO st.AF i).n) j=AO st.AF j:=by
   unfold AO less
   rw[kP,kB hij,<-kP]
  have e1:less st.AF i (AO st.AF i).n=st.AF.set i ⟨(AO st.AF i).k,0,(AO st.AF i).ow⟩:=by
   unfold less
   rw[zS]
  have e2:less (less st.AF i (AO st.AF i).n) j (AO st.AF j).n=(st.AF.set i ⟨(AO st.AF i).k,0,(AO st.AF i).ow⟩).set j ⟨(AO st.AF j).k,0,(AO st.AF j).ow⟩:=by
   rw[Rr (ls:=less st.AF i (AO st.AF i).n),e0,zS,e1]
  show{st with AF:=less (less st.AF i (AO st.AF i).n) j (AO st.AF j).n++_}=_
  rw[e2,uO _ _ hi,uO _ _ (by simpa using hj)]
 refine⟨_,_,?_,est▸hS4,?_,?_⟩
 .have r0:=AR hS.root
  have lo:=Aj hS.lo
  have c0:=AR hS.lo
  have xa:=Aj a2
  have xb:=Aj b2
  have c1:=AR hS1.lo
  have c4:EH (S1++[CG ⟨(AO st.AF i).k,(AO st.AF i).n+(AO st.AF j).n,EK (AO st.AF i).n (AO st.AF j).n (AO st.AF i).ow (AO st.AF j).ow⟩]) l=Gc (as.map D.ref):=AR (by rw[j8 (AX hS1.lo)];exact hS1.lo)
  have c5:=AR (hS2.ld i a (AO st.AF i) a1' (by show(st.AF++_)[i]?=_;rw[j8 hi];exact FR hi))
  have c6:=AR (hS3.ld j b (AO st.AF j) b1' (by show((st.AF++_).set i _)[j]?=_;rw[kB hij,j8 hj];exact FR hj))
  simp only[CG]at xa xb c4 c5 c6⊢
  have hz':(as.map D.ref).length<sizeLine:=by simpa using hz
  generalize (as.map D.ref)=refs at*
  generalize EK (AO st.AF i).n (AO st.AF j).n (AO st.AF i).ow (AO st.AF j).ow=pr at*
  simp[A3,FU,AS.d,r0,lo,a3,b3,xa,xb,c0,e1]at c4 c5 c6⊢
  simp[c4,hz',c5,c6]
 .exact(((g1.mono λ_ z=>(nomatch z)).trans .app).trans (.set (by simp))).trans ((CC.set (by simp[kW a1])).trans (.set (by simp[kW b1])))
 .intro n hn
  rcases kY.mp hn with w|w
  .exact .inl w
  .simp at w;subst w;exact .inr g1.len
theorem ZG(hS:SAt S s l m as st)(ht:Ia t)(h:FC t k st)(hk:k<=16){d:AS}(hc:Can t st d):∃S' as',A3 [t.d,.ref s,d.d] S=Gc (.non,S')/\SAt S' s l m as' (step t st d)/\CC (s::l::m::as) S S'/\∀n∈as',n∈as\/S.length<=n:=by
 cases d with
 |Dd=>exact UU hS ht h hk hc
 |NH=>exact X0 hS ht h hk hc
 |swap=>exact Xl hS ht h hk hc
 |B1=>exact V5 hS ht h hk hc
 |Gv=>exact Vy hS ht h hk hc
 |thr=>exact bD hS ht h hk hc
 |Jy=>exact Yc hS ht h hk hc
end
section
variable{st:Stt}{t:Tr}{k:Nat}
theorem KU{a b:Nat}(h:a<=b):2^a<=2^b:=mW (by decide) h
theorem H0{a b:Nat}(h:a<=b):(2:Int)^a<=2^b:=by
 have:=KU h
 exact_mod_cast this
theorem IK{c:Int}(h:0<=c):((c.toNat:Nat):Rat)=(c:Rat):=by
 have:((c.toNat:Nat):Int)=c:=lP h
 have:(((c.toNat:Nat):Int):Rat)=(c:Rat):=by rw[this]
 exact this
theorem Ql{B T k j:Nat}(hB:B<2^(30+170*k))(hT:T<2^j)(hj:j<=170):B*T<2^(30+170*(k+1)):=by
 have:=Fo hB hT
 exact kD this (KU (by lia))
theorem Z8{G B P p:Nat}(h:G<=B):∀r∈Qo P p,Ok G B r:=by
 intro r hr
 obtain⟨i,_,rfl⟩:=lC.mp hr
 split
 .exact Ok.one h
 .exact Ok.zero
theorem Qm{G B:Nat}{n m:Int}{ss os:Wp Rat}(hn:0<n)(hm:0<m)(hs:∀r∈ss,Ok G B r)(ho:∀r∈os,Ok G B r):∀r∈EK n m ss os,Ok (G*(n+m).toNat) (B*(n+m).toNat) r:=by
 intro r hr
 unfold EK at hr
 rw[pG]at hr
 obtain⟨i,hi'⟩:=hr
 rw[qt]at hi'
 obtain⟨x,y,hx,hy,rfl⟩:=hi'
 have:=Ok.mix (a:=n.toNat) (b:=m.toNat) (t:=(n+m).toNat) (hs x (kW hx)) (ho y (kW hy)) (by lia) (by lia)
 rwa [IK (by lia),IK (by lia),IK (by lia)]at this
theorem Qf{G B p q:Nat}{x:Rat}{ss:Wp Rat}(hp:p<ss.length)(hq:q<ss.length)(x1:0<x.num)(x2:x.num<=x.den)(hs:∀r∈ss,Ok G B r):∀r∈Hw p q x ss,Ok (G*x.den) (2*B*x.den) r:=by
 have dp:=x.den_pos
 have hsp:=hs _ (getD_mem (d:=0) hp)
 have hsq:=hs _ (getD_mem (d:=0) hq)
 have xs:=FT x
 have ex:(x.num:Rat)=((x.num.toNat:Nat):Rat):=(IK (by lia)).symm
 have nz:=J2 x
 intro r hr
 unfold Hw at hr
 rcases mx hr with hr|hr
 .rcases mx hr with hr|hr
  .exact(hs r hr).up (by rw[sP];lia)
  .rw[hr]
   obtain⟨z,e,hz⟩:=Ok.mix (a:=x.den-x.num.toNat) (b:=x.num.toNat) (t:=x.den) hsp (Ok.zero (G:=G) (B:=B)) (by lia) dp
   refine⟨z,?_,kF hz (by rw[sP];lia)⟩
   rw[<-e]
   have e2:((x.den-x.num.toNat:Nat):Rat)=(x.den:Rat)-(x.num:Rat):=by
    have:(((x.den-x.num.toNat:Nat):Int):Rat)=((x.den-x.num:Int):Rat):=by
     congr 1;lia
    push_cast at this
    exact this
   rw[e2]
   generalize ss.getD p 0=sp at*
   congr 1
   grind
 .rw[hr]
  obtain⟨z,e1,hz⟩:=hsp
  obtain⟨y,e2,hy⟩:=hsq
  refine⟨y*x.den+z*x.num.toNat,?_,?_⟩
  .generalize ss.getD p 0=sp at*
   generalize ss.getD q 0=sq at*
   push_cast
   rw[<-ex,<-e1,<-e2]
   grind
  .have h1:y*x.den<=B*x.den:=mX _ hy
   have h2:z*x.num.toNat<=B*x.den:=uN hz (by lia)
   rw[sP];lia
theorem HX{f:Rat->Rat->Rat}{a b:Wp Rat}{n:Nat}(h:a.length=n)(g:b.length=n):(tO f a b).length=n:=by rw[List.length_zipWith,h,g];lia
theorem G3{P:Ld->Prop}{i:Nat}{n:Int}(hi:i<st.AF.length)(h:∀x∈st.AF,P x)(g:P ⟨(AO st.AF i).k,(AO st.AF i).n-n,(AO st.AF i).ow⟩):∀x∈less st.AF i n,P x:=by
 intro x hx
 rcases Mm hx hi with h1|h1
 .exact h x h1
 .rw[h1];exact g
theorem MJ{P:Ld->Prop}{ls:Wp Ld}{y:Ld}(h:∀x∈ls,P x)(g:P y):∀x∈ls++[y],P x:=by
 intro x hx
 rcases kY.mp hx with w|w
 .exact h x w
 .simp at w;rw[w];exact g
structure LOk(t:Tr)(k G B:Nat)(x:Ld):Prop where
 kd:x.k<t.k
 n0:0<=x.n
 n1:x.n<2^(131+k)
 own:x.ow.length=t.p
 ok:∀r∈x.ow,Ok G B r
theorem LOk.up{G B T B':Nat}{x:Ld}(h:LOk t k G B x)(hT:B*T<=B'):LOk t (k+1) (G*T) B' x:=⟨h.kd,h.n0,oq h.n1 (H0 (by lia)),h.own,λr hr=>(h.ok r hr).up hT⟩
theorem LOk.up1{G B:Nat}{x:Ld}(h:LOk t k G B x):LOk t (k+1) G B x:=⟨h.kd,h.n0,oq h.n1 (H0 (by lia)),h.own,h.ok⟩
theorem LOk.less{G B:Nat}{x:Ld}{n:Int}(h:LOk t k G B x)(h0:0<=n)(h1:n<=x.n):LOk t k G B ⟨x.k,x.n-n,x.ow⟩:=⟨h.kd,show 0<=x.n-n by lia,show x.n-n<_ by have:=h.n1;lia,h.own,h.ok⟩
theorem FC.of{G B:Nat}(h1:st.AF.length<=4+k)(h2:∀x∈st.AF,LOk t k G B x)(h3:st.hold.length=t.p)(h4:st.nums.length<=k)(g0:0<G)(g1:G<=B)(g2:B<2^(30+170*k))(h5:∀r∈st.hold,Ok G B r):FC t k st:=⟨h1,λx hx=>(h2 x hx).kd,λx hx=>⟨(h2 x hx).n0,(h2 x hx).n1⟩,λx hx=>(h2 x hx).own,h3,h4,G,B,g0,g1,g2,λx hx=>(h2 x hx).ok,h5⟩
theorem cw{n:Int}(h:n<2^131):n<2^(131+k):=oq h (H0 (by lia))
theorem Oz(ht:Ia t)(h:FC t k st)(hk:k<=16){d:AS}(hc:Can t st d):FC t (k+1) (step t st d):=by
 obtain⟨G,B,g0,g1,g2,hl,hh⟩:=h.gb
 have L:∀x∈st.AF,LOk t k G B x:=λx hx=>⟨h.kind x hx,(h.pcs x hx).1,(h.pcs x hx).2,h.own x hx,hl x hx⟩
 have g2':B<2^(30+170*(k+1)):=kD g2 (KU (by lia))
 have hlen:=h.len
 have hnm:=h.nm
 cases d with
 |Dd p kd n=>
  obtain⟨h1,h2,h3,h4⟩:=hc
  refine FC.of (G:=G) (B:=B) (by simp[step];lia) (MJ (λx hx=>(L x hx).up1) ⟨h2,by show 0<=n;lia,cw h4,by simp[Qo],Z8 g1⟩) h.hold (oI hnm) g0 g1 g2' hh
 |NH i j=>
  obtain⟨hij,hi,hj,h1,h2,h3⟩:=hc
  have li:=L _ (BI hi)
  have lj:=L _ (BI hj)
  have tl:((AO st.AF i).n+(AO st.AF j).n).toNat<2^(132+k):=by
   have a:=li.n1;have b:=lj.n1
   have e:(2:Int)^(132+k)=2^(131+k)*2:=by rw[show 132+k=(131+k)+1 by lia,zT]
   have:(((AO st.AF i).n+(AO st.AF j).n).toNat:Int)<((2^(132+k):Nat):Int):=by
    rw[lP (by lia)]
    push_cast
    rw[e];lia
   exact_mod_cast this
  have t0:0<((AO st.AF i).n+(AO st.AF j).n).toNat:=by lia
  refine FC.of (G:=G*((AO st.AF i).n+(AO st.AF j).n).toNat) (B:=B*((AO st.AF i).n+(AO st.AF j).n).toNat) (by simp[step,Bq];lia) (MJ ?_ ⟨li.kd,by show 0<=(AO st.AF i).n+(AO st.AF j).n;lia,?_,?_,Qm h1 h2 li.ok lj.ok⟩) h.hold (oI hnm) (sE g0 t0) (mX _ g1) (Ql g2 tl (by lia)) (λr hr=>(hh r hr).up (kA _))
  .have e0:AO (less st.AF i (AO st.AF i).n) j=AO st.AF j:=by
    unfold AO less
    rw[kP,kB hij,<-kP]
   have A:=G3 (P:=LOk t (k+1) (G*((AO st.AF i).n+(AO st.AF j).n).toNat) (B*((AO st.AF i).n+(AO st.AF j).n).toNat)) (n:=(AO st.AF i).n) hi (λx hx=>(L x hx).up (kA _)) ((li.up (kA _)).less (by lia) (wM _))
   have A2:=G3 (st:={st with AF:=less st.AF i (AO st.AF i).n}) (i:=j) (n:=(AO st.AF j).n) (by simpa[Bq]using hj) A (by
    show LOk _ _ _ _ ⟨(AO (less st.AF i (AO st.AF i).n) j).k,(AO (less st.AF i (AO st.AF i).n) j).n-_,(AO (less st.AF i (AO st.AF i).n) j).ow⟩
    rw[e0]
    exact(lj.up (kA _)).less (by lia) (wM _))
   exact A2
  .show(AO st.AF i).n+(AO st.AF j).n<2^(131+(k+1))
   have a:=li.n1;have b:=lj.n1
   rw[show 131+(k+1)=(131+k)+1 by lia,zT];lia
  .exact HX li.own lj.own
 |swap i g kd n=>
  obtain⟨hi,h1,h2,h3,h4,h5,h6⟩:=hc
  have li:=L _ (BI hi)
  refine FC.of (G:=G) (B:=B) (by simp[step,Bq];lia) (MJ (G3 hi (λx hx=>(L x hx).up1) (li.up1.less (by lia) h2)) ⟨h3,by show 0<=n;lia,cw h6,li.own,li.ok⟩) h.hold (oI hnm) g0 g1 g2' hh
 |B1 u i g kd n=>
  obtain⟨hi,h1,h2,h3,h4,h5,h6,h7⟩:=hc
  have li:=L _ (BI hi)
  refine FC.of (G:=G) (B:=B) (by simp[step,Bq];lia) (MJ (G3 hi (λx hx=>(L x hx).up1) (li.up1.less (by lia) h2)) ⟨h3,by show 0<=n;lia,cw h6,li.own,li.ok⟩) h.hold (by simp[step];lia) g0 g1 g2' hh
 |Gv i n=>
  obtain⟨hi,h1,h2⟩:=hc
  have li:=L _ (BI hi)
  refine FC.of (G:=G) (B:=B) (by simp[step,Bq];lia) (G3 hi (λx hx=>(L x hx).up1) (li.up1.less (by lia) h2)) h.hold (oI hnm) g0 g1 g2' hh
 |thr i n ws=>
  obtain⟨hi,h1,h2,h3,h4⟩:=hc
  have li:=L _ (BI hi)
  have W:=Jq ht h (by lia) h3 h4
  have wl:(E8 t st.AF ws).toNat<2^(145+k):=by
   have:((E8 t st.AF ws).toNat:Int)<((2^(145+k):Nat):Int):=by
    rw[lP (by lia)];push_cast;exact W.2
   exact_mod_cast this
  have bo:=λ{ss:Wp Rat} (hs:∀r∈ss,Ok G B r)=>SV ht h (by lia) h3 h4 hi h1 h2 li.ok hs
  refine FC.of (G:=G*(E8 t st.AF ws).toNat) (B:=B*(E8 t st.AF ws).toNat) (by simp[step,Bq];lia) ?_ (HX h.hold li.own) (oI hnm) (sE g0 (by lia)) (mX _ g1) (Ql g2 wl (by lia)) (bo hh)
  intro x hx
  obtain⟨y,hy,rfl⟩:=lC.mp hx
  have ly:=G3 (P:=LOk t k G B) hi L (li.less (n:=n) (by lia) h2) y hy
  exact⟨ly.kd,ly.n0,ly.up1.n1,HX ly.own li.own,bo ly.ok⟩
 |Jy p q x=>
  obtain⟨h1,h2,h3,h4,h5,h6⟩:=hc
  have dp:=x.den_pos
  refine FC.of (G:=G*x.den) (B:=2*B*x.den) (by simp[step];lia) ?_ (by simp[step,Hw,h.hold]) (oI hnm) (sE g0 dp) (mX _ (by lia)) ?_ (Qf (by rw[h.hold];exact h2) (by rw[h.hold];exact h3) h4 h5 hh)
  .intro y hy
   obtain⟨z,hz,rfl⟩:=lC.mp hy
   have lz:=L z hz
   exact⟨lz.kd,lz.n0,lz.up1.n1,by simp[Hw,lz.own],Qf (by rw[lz.own];exact h2) (by rw[lz.own];exact h3) h4 h5 lz.ok⟩
  .have:=Ql (B:=B) (T:=2*x.den) (j:=5) g2 (by lia) (by lia)
   rw[show 2*B*x.den=B*(2*x.den) by rw[<-sP,og 2 B]]
   exact this
end
theorem GB{α:Type}{f:α->D}:∀{xs:Wp α},(∀x∈xs,(f x).lay=true)->D.Ln (xs.map f)=true
 | [],_=>rfl
 |x::xs,h=>by
  show((f x).lay && D.Ln (xs.map f))=true
  rw[h x kJ,GB λy hy=>h y (kC _ hy)]
  rfl
theorem PV{ds:Wp D}(h:D.Ln ds=true):Dj (.lst ds) (.lst [])=true:=by
 unfold Dj
 show(D.Ln ds && true && _)=true
 rw[h]
 simp only[uh,vi]
 exact kF (vp _ _) (by decide)
noncomputable def BX(is:Wp Nat):Wp D:=is.map λ(i:Nat)=>D.int i
theorem KZ{is:Wp Nat}:Dj (.lst (BX is)) (.lst [])=true:=PV (GB λ_ _=>rfl)
theorem WH{d:D}{ds:Wp D}:deq (.lst (d::ds)) (.lst [])=false:=rfl
theorem Yi:deq (.lst []) (.lst [])=true:=rfl
theorem My{is:Wp Nat}:deq (.lst (BX is)) (.lst [])=is.isEmpty:=by
 cases is with
 |nil=>exact Yi
 |cons i is=>exact WH
theorem Nq{ds:Wp D}:Of 0 ds=(kq ds.length).map λ(i:Nat)=>D.tup [.int i,ds.getD i .non]:=by
 apply vg
 intro i
 rw[Ju,kn]
 by_cases h:i<ds.length
 .rw[kE h,List.getElem?_range h]
  simp[kE h]
 .rw[tu (by lia),tu (by simp;lia)]
  rfl
theorem Fj{is:Wp Nat}:(BX is).length=is.length:=by simp[BX]
theorem Gn{is:Wp Nat}{r:Int}(h0:0<=r)(h1:r<is.length):∃i∈is,atI (BX is) r=Gc (.int (i:Nat)):=by
 have h2:r.toNat<is.length:=by lia
 refine⟨is[r.toNat],oW h2,?_⟩
 have:=W0 (xs:=BX is) h0 (by rw[Fj];exact h1)
 rw[this]
 simp[BX]
theorem Ob{x K:Int}(h0:0<=x)(h1:x<2*K):x % K=if x<K then x else x-K:=by
 split
 .exact vj h0 (by assumption)
 .have:x % K=(x-K) % K:=by rw[Int.sub_emod_right]
  rw[this]
  exact vj (by lia) (by lia)
section
variable{S:Sto}{p s l m:Nat}{as:Wp Nat}{st:Stt}{t:Tr}{k:Nat}
noncomputable def Ay(st:Stt):Wp Nat:=(kq st.AF.length).filter λi=>decide (0<(AO st.AF i).n)
theorem So(hS:SAt S s l m as st)(hl:st.AF.length<=50):CV [(l,as.map D.ref)] (tTp [tNm 0,tNm 1]) (eOp (o2 wGt) [eOp (o2 wIx) [eV 1,eC (.int 1)],eC (.int 0)]) (eV 0) (Of 0 (as.map D.ref)) [] [none,none] S=Gc (BX (Ay st),S):=by
 have:=DQ (gs:=[(l,as.map D.ref)]) (t:=tTp [tNm 0,tNm 1]) (c:=eOp (o2 wGt) [eOp (o2 wIx) [eV 1,eC (.int 1)],eC (.int 0)]) (f:=eV 0) (C:=[]) (m:=2) (e:=λi:Nat=>D.tup [.int i,(as.map D.ref).getD i .non]) (g:=λi:Nat=>D.int i) (b:=λi=>decide (0<(AO st.AF i).n)) (S:=S) hS.guard (xs:=kq st.AF.length) (acc:=[]) (os:=[none,none]) rfl (kF (show _<=50 by simp;lia) (AN (by decide))) (by
  intro i hi os ho
  obtain⟨o1,o2,rfl⟩:=gH ho
  obtain⟨a,a1,a2,a3⟩:=hS.at (pJ.mp hi)
  have e:(as.map D.ref).getD i .non=.ref a:=by simp[a1]
  rw[e]
  refine⟨[Gc (.int i),Gc (.ref a)],rfl,by simp,?_,by simp⟩
  simp[Aj a2,CG])
 rw[Nq,kT,hS.len]
 exact this
theorem Hm{i:Nat}(h:i∈Ay st):i<st.AF.length/\0<(AO st.AF i).n:=by
 unfold Ay at h
 rw[nG]at h
 exact⟨pJ.mp h.1,by simpa using h.2⟩
noncomputable def EO(st:Stt)(j:Nat):Wp Nat:=(Ay st).filter λi=> !(i==j) && ((AO st.AF i).k==(AO st.AF j).k)
theorem Jt:(Ay st).length<=st.AF.length:=by
 unfold Ay
 exact kF (ny _ _) (by simp)
theorem Uq{a b:Nat}:((a:Int)==(b:Int))=(a==b):=by
 by_cases h:a=b
 .subst h;simp
 .have:((a:Int)==(b:Int))=false:=by simp;lia
  rw[this];simp[h]
theorem Yv(hS:SAt S s l m as st)(hl:st.AF.length<=50){j:Nat}(hj:j∈Ay st):CV [] (tNm 2) (Ja (eOp (o2 wNe) [eV 2,eV 1]) (eOp (o2 wEq) [eOp (o2 wIx) [eOp (o2 wIx) [eV 0,eV 2],eC (.int 0)],eOp (o2 wIx) [eOp (o2 wIx) [eV 0,eV 1],eC (.int 0)]])) (eV 2) (BX (Ay st)) [] [Gc (.ref l),Gc (.int j),none] S=Gc (BX (EO st j),S):=by
 have fl:=Jt (st:=st)
 exact DQ (gs:=[]) (t:=tNm 2) (f:=eV 2) (C:=[Gc (.ref l),Gc (.int j)]) (m:=1) (e:=λi:Nat=>D.int i) (g:=λi:Nat=>D.int i) (b:=λi=> !(i==j) && ((AO st.AF i).k==(AO st.AF j).k)) (S:=S) Ao (xs:=Ay st) (acc:=[]) (os:=[none]) rfl (kF (show _<=50 by simp;lia) (AN (by decide))) (by
  intro i hi os ho
  obtain⟨o1,rfl⟩:=P7 ho
  obtain⟨a,a1,a2,a3⟩:=hS.at (Hm hi).1
  obtain⟨b,b1,b2,b3⟩:=hS.at (Hm hj).1
  refine⟨[Gc (.int i)],rfl,by simp,?_,by simp⟩
  by_cases e:i=j
  .subst e
   simp
  .have e':((i:Int)==(j:Int))=false:=by simp;lia
   have e2:(i==j)=false:=by simp[e]
   simp[e',e2,Aj hS.lo,a3,b3,Aj a2,Aj b2,CG,Uq])
theorem VI{i j:Nat}(h:i∈EO st j):i∈Ay st/\i≠j/\(AO st.AF i).k=(AO st.AF j).k:=by
 unfold EO at h
 rw[nG]at h
 simp at h
 exact⟨h.1,h.2.1,h.2.2⟩
noncomputable def FQ(st:Stt):Wp Nat:=(kq 10).filter λi=> !(st.nums.any λu=>u==(i:Int))
theorem MG{us:Wp Int}{i:Int}:inD (.int i) (us.map D.int)=us.any λu=>u==i:=by
 unfold inD
 rw[List.any_map]
 rfl
@[simp] theorem dG{b:Bool}{w:Wv}{r:List D}:wIn b w (.own r)=if(HR (fz w) && r.all HR)=true then some (.val (.bl (if b then !inD (fz w) r else inD (fz w) r)))else none:=nr rfl
@[simp] theorem eP{b:Bool}{w:Wv}{r:List D}:wIn b w (.val (.lst r))=if(HR (fz w) && r.all HR)=true then some (.val (.bl (if b then !inD (fz w) r else inD (fz w) r)))else none:=nr rfl
theorem Kq{us:Wp Int}:(us.map D.int).all HR=true:=by
 rw[List.all_map,List.all_eq_true]
 intro x _;rfl
@[simp] theorem gY{i:Int}:HR (.int i)=true:=nr rfl
theorem X5(hS:SAt S s l m as st):CV [] (tNm 1) (eOp (o2 (wIn true)) [eV 1,eV 0]) (eV 1) (J6 0 10) [] [Gc (.ref m),none] S=Gc (BX (FQ st),S):=by
 exact DQ (gs:=[]) (t:=tNm 1) (f:=eV 1) (C:=[Gc (.ref m)]) (m:=1) (e:=λi:Nat=>D.int (0+(i:Int))) (g:=λi:Nat=>D.int i) (b:=λi=> !(st.nums.any λu=>u==(i:Int))) (S:=S) Ao (xs:=kq 10) (acc:=[]) (os:=[none]) rfl (kF (show _<=50 by simp) (AN (by decide))) (by
  intro i hi os ho
  obtain⟨o1,rfl⟩:=P7 ho
  refine⟨[Gc (.int i)],rfl,by simp,?_,by simp⟩
  have nu:=Aj hS.nu
  have fi:=Kq (us:=st.nums)
  have ii:=MG (us:=st.nums) (i:=(i:Int))
  generalize st.nums.map D.int=ud at*
  generalize (st.nums.any λu=>u==(i:Int))=bb at*
  simp[nu,fi,ii])
theorem Us{i:Nat}(h:i∈FQ st):(i:Int)∉st.nums/\i<=9:=by
 unfold FQ at h
 rw[nG]at h
 have h1:=pJ.mp h.1
 refine⟨?_,by lia⟩
 intro z
 have h2:=h.2
 have:(st.nums.any λu=>u==(i:Int))=true:=nW.mpr ⟨_,z,by simp⟩
 rw[this]at h2
 cases h2
theorem UZ:(FQ st).length<=10:=by
 unfold FQ
 exact kF (ny _ _) (by simp)
theorem UO{j:Nat}:(EO st j).length<=st.AF.length:=by
 unfold EO
 exact kF (ny _ _) Jt
end
section
variable{S:Sto}{p s l m:Nat}{as:Wp Nat}{st:Stt}{t:Tr}{k:Nat}
def Mj:Ex:=(AW (xIf (Ja (eOp (o2 wLt) [eV 7,eC (.int 8)]) (eOp (o2 wGt) [eOp (o2 wIx) [eV 1,eC (.int 1)],eC (.int 1)])) (AW (A4 11 (eOp (o2 OG) [eOp (o2 CO) [eOp (o2 CO) [eOp (o2 wIx) [eOp (o2 wIx) [eV 3,eV 8],eC (.int 0)],eC (.int 1)],AJ AH [eV 0,eOp (o2 NS) [eOp (o2 wIx) [eV 1,eC (.int 1)],eC (.int 1)]]],eOp (o2 wIx) [eV 1,eC (.int 1)]]))
    (AW (A4 12 (Dx [5] 1 (Lx [eC (.int 10)]) (tNm 1) (eOp (o2 (wIn true)) [eV 1,eV 0]) (eV 1)))
    (AW (xIf (Ja (eOp (o2 wEq) [eV 7,eC (.int 7)]) (eOp (o2 wNe) [eV 12,HI []])) (Bv (Bi [eC (.str "trade"),eOp (o2 wIx) [eV 12,AJ AH [eV 0,eOp (o1 HC) [eV 12]]],eV 8,eV 9,eV 11,AJ A8 [eV 0]])) Cw)
    (Bv (Bi [eC (.str "swap"),eV 8,eV 9,eV 11,AJ A8 [eV 0]]))))) Cw)
    (AW (xIf (eOp (o2 wEq) [eV 7,eC (.int 8)]) (Bv (Bi [eC (.str "spoil"),eV 8,eV 9])) Cw)
    (AW (xIf (Ja (eOp (o2 wEq) [eV 7,eC (.int 9)]) (eOp (o2 wGt) [eOp (o2 wIx) [eV 1,eC (.int 0)],eC (.int 1)])) (AW (A4 13 (AJ AH [eV 0,eOp (o2 wIx) [eV 1,eC (.int 0)]]))
    (Bv (Bi [eC (.str "sell"),eV 13,eOp (o2 OG) [eOp (o2 CO) [eOp (o2 CO) [eV 13,eC (.int 1)],AJ AH [eV 0,eOp (o2 NS) [eOp (o2 wIx) [eV 1,eC (.int 0)],eC (.int 1)]]],eOp (o2 wIx) [eV 1,eC (.int 0)]],AJ E7 [eV 0]]))) Cw)
    (Bv (Bi [eC (.str "throw"),eV 8,eV 9,AJ DJ [eV 0,eOp (o2 CO) [eOp (o2 wIx) [eV 1,eC (.int 1)],eC (.int 1)]]])))))
def Ry:Ex:=(xIf (eOp (o2 wLt) [eV 7,eC (.int 5)]) (AW (A4 10 (Dx [3,8] 1 (GU (eV 6)) (tNm 2) (Ja (eOp (o2 wNe) [eV 2,eV 1]) (eOp (o2 wEq) [eOp (o2 wIx) [eOp (o2 wIx) [eV 0,eV 2],eC (.int 0)],eOp (o2 wIx) [eOp (o2 wIx) [eV 0,eV 1],eC (.int 0)]])) (eV 2)))
    (xIf (eOp (o2 wNe) [eV 10,HI []]) (Bv (Bi [eC (.str "pool"),eV 8,eOp (o2 wIx) [eV 10,AJ AH [eV 0,eOp (o1 HC) [eV 10]]]])) Cw)) Cw)
def Sm:AS->Prop
 | .B1 _ _ g _ n=>g<=2000/\n<2^130
 |_=>uU
theorem MX:Lq=(AW (NT (tTp [tNm 3,tNm 4,tNm 5]) (eV 2)) (AW (A4 6 (Dx [] 2 (Xo (eV 3)) (tTp [tNm 0,tNm 1]) (eOp (o2 wGt) [eOp (o2 wIx) [eV 1,eC (.int 1)],eC (.int 0)]) (eV 0))) (AW (A4 7 (AJ AH [eV 0,eC (.int 12)])) (AW (xIf (eOr (eOp (o2 wLt) [eV 7,eC (.int 2)]) (eOp (o2 wEq) [eV 6,HI []])) (Bv (Bi [eC (.str "bring"),AJ AH [eV 0,eOp (o2 wIx) [eV 1,eC (.int 0)]],AJ AH [eV 0,eOp (o2 wIx) [eV 1,eC (.int 1)]],AJ A8 [eV 0]])) Cw) (AW (A4 8 (eOp (o2 wIx) [eV 6,AJ AH [eV 0,eOp (o1 HC) [eV 6]]])) (AW (A4 9 (eOp (o2 CO) [eC (.int 1),AJ AH [eV 0,eOp (o2 Wd) [eOp (o2 wIx) [eOp (o2 wIx) [eV 3,eV 8],eC (.int 1)],eC (.int 2000)]]])) (AW Ry Mj))))))):=rfl
theorem VO(hp:CM p S)(hS:SAt S s l m as st)(hps:p∉s::l::m::as)(ht:Ia t)(h:FC t k st)(hk:k<=16):∃d S',DM [.ref p,t.d,.ref s] S=Gc (AS.d d,S')/\Pn p S S'/\Can t st d/\Sm d:=by
 obtain⟨t1,t2,t3,t4,t5,t6⟩:=ht
 have hlen:=h.len
 have st':∀{S':Sto},Pn p S S'->SAt S' s l m as st:=λg=>hS.same g.same (by simpa using hps)
 have r0:=AR hS.root
 have cf:=So hS (by lia)
 have fl:=Jt (st:=st)
 have sq:=EG hS.lo
 obtain⟨way,S1,e1,a1,b1,p1⟩:=Ae hp (n:=12) (by decide) (by decide)
 have okF:=KZ (is:=Ay st)
 have dqF:=My (is:=Ay st)
 by_cases hb:way<2\/(Ay st).isEmpty=true
 .obtain⟨x2,S2,e2,a2,b2,p2⟩:=Ae p1.pen (n:=t.p) (by lia) (by lia)
  obtain⟨x3,S3,e3,a3,b3,p3⟩:=Ae p2.pen (n:=t.k) (by lia) (by lia)
  obtain⟨x4,S4,e4,p4,a4,b4⟩:=Ky p3.pen
  obtain⟨x2,rfl⟩:=Eo a2
  obtain⟨x3,rfl⟩:=Eo a3
  refine⟨.Dd x2 x3 x4,S4,?_,((p1.trans p2).trans p3).trans p4,⟨by lia,by lia,a4,b4⟩,trivial⟩
  by_cases hw:way<2
  .simp[DM,MX,r0,sq,cf,e1,Tr.d,hw,e2,e3,e4,AS.d]
  .have hf:=hb.resolve_left hw
   simp[DM,MX,r0,sq,cf,e1,Tr.d,hw,okF,dqF,hf,e2,e3,e4,AS.d]
 .have hw2:¬way<2:=λz=>hb (.inl z)
  have hf:(Ay st).isEmpty=false:=by
   cases z:(Ay st).isEmpty with
   |true=>exact absurd (.inr z) hb
   |false=>rfl
  have hfl:0<(Ay st).length:=by
   cases z:Ay st with
   |nil=>rw[z]at hf;cases hf
   |cons a b=>simp
  obtain⟨rl,S2,e2,a2,b2,p2⟩:=Ae p1.pen (n:=(Ay st).length) (by lia) (by lia)
  obtain⟨i,mi,ei⟩:=Gn a2 b2
  have fi:=Hm mi
  have hS1:=st' p1
  have hS2:=st' (p1.trans p2)
  obtain⟨a,x1,x2,x3⟩:=hS2.at fi.1
  have n1:=fi.2
  obtain⟨rs,S3,e3,a3,b3,p3⟩:=Ae p2.pen (n:=if 2000<(AO st.AF i).n then 2000 else(AO st.AF i).n) (by split<;>lia) (by split<;>lia)
  have hsome:1<=1+rs/\1+rs<=(AO st.AF i).n:=by split at b3<;>lia
  have p23:=(p1.trans p2).trans p3
  have hS3:=st' p23
  have lo2:=Aj hS2.lo
  have lo3:=Aj hS3.lo
  have x2':=Aj x2
  have x4:S3[a]?=Gc (CG (AO st.AF i)):=hS3.ld i a _ x1 (FR fi.1)
  have x4':=Aj x4
  have kd:=h.kind _ (BI fi.1)
  have nl:=Fj (is:=Ay st)
  have cs:=Yv hS3 (by lia) mi
  have okS:=KZ (is:=EO st i)
  have dqS:=My (is:=EO st i)
  have sl:=UO (st:=st) (j:=i)
  have nls:=Fj (is:=EO st i)
  have pre:DM [.ref p,t.d,.ref s] S=((Ry [Gc (.ref p),Gc t.d,Gc (.ref s),Gc (.ref l),Gc (shD st.hold),Gc (.ref m),Gc (.lst (BX (Ay st))),Gc (.int way),Gc (.int i),Gc (.int (1+rs)),none,none,none,none] S3).bind (ZZ Mj)).map λr=>(flD r.1,r.2.2):=by
   simp[DM,MX,r0,sq,cf,e1,hw2,okF,dqF,hf,nl,e2,ei,lo2,x3,x2',e3]
  have tail:∀o10,(way<5->(EO st i).isEmpty=true)->∃d S',(Mj [Gc (.ref p),Gc t.d,Gc (.ref s),Gc (.ref l),Gc (shD st.hold),Gc (.ref m),Gc (.lst (BX (Ay st))),Gc (.int way),Gc (.int i),Gc (.int (1+rs)),o10,none,none,none] S3).map (λr=>(flD r.1,r.2.2))=Gc (AS.d d,S')/\Pn p S S'/\Can t st d/\Sm d:=by
   intro o10 _
   clear pre cs okS dqS
   by_cases hsw:way<8/\1<t.k
   .obtain⟨hw8,hk1⟩:=hsw
    have hk1':(1:Int)<t.k:=by lia
    obtain⟨rk,S4,e4,a4,b4,p4⟩:=Ae p3.pen (n:=(t.k:Int)-1) (by lia) (by lia)
    have hS4:=st' (p23.trans p4)
    have hmod:=Ob (x:=((AO st.AF i).k:Int)+1+rk) (K:=t.k) (by lia) (by lia)
    obtain⟨kd2,ekd⟩:∃q:Nat,((AO st.AF i).k+1+rk) % (t.k:Int)=(q:Int):=⟨_,(lP (nM _ (by lia))).symm⟩
    have hkd:kd2<t.k/\kd2≠(AO st.AF i).k:=by
     rw[ekd]at hmod
     split at hmod<;>lia
    have kp:0<t.k:=by lia
    have cl:=X5 hS4
    have okL:=KZ (is:=FQ st)
    have dqL:=My (is:=FQ st)
    have ll:=UZ (st:=st)
    have nll:=Fj (is:=FQ st)
    have rt:HG 10=true:=Dc (by decide) (by decide)
    by_cases htr:way=7/\(FQ st).isEmpty=false
    .obtain⟨hw7,hle⟩:=htr
     have hll:0<(FQ st).length:=by
      cases z:FQ st with
      |nil=>rw[z]at hle;cases hle
      |cons a b=>simp
     obtain⟨ru,S5,e5,a5,b5,p5⟩:=Ae p4.pen (n:=(FQ st).length) (by lia) (by lia)
     obtain⟨u,mu,eu⟩:=Gn a5 b5
     obtain⟨x6,S6,e6,p6,a6,b6⟩:=LU p5.pen
     have fu:=Us mu
     refine⟨.B1 u i (1+rs) kd2 x6,S6,?_,((p23.trans p4).trans p5).trans p6,⟨fi.1,hsome.1,hsome.2,hkd.1,hkd.2,a6,mf b6 (by decide),fu.1,by lia,by lia⟩,by split at b3<;>lia,b6⟩
     subst hw7
     simp[Mj,Tr.d,x3,hk1',lo3,x4',e4,kp,ekd,rt,cl,okL,dqL,hle,nll,e5,eu,e6,AS.d]
    .obtain⟨x6,S6,e6,p6,a6,b6⟩:=Ky p4.pen
     refine⟨.swap i (1+rs) kd2 x6,S6,?_,(p23.trans p4).trans p6,⟨fi.1,hsome.1,hsome.2,hkd.1,hkd.2,a6,b6⟩,trivial⟩
     by_cases h7:way=7
     .subst h7
      have hle:(FQ st).isEmpty=true:=by
       cases z:(FQ st).isEmpty with
       |true=>rfl
       |false=>exact absurd ⟨rfl,z⟩ htr
      simp[Mj,Tr.d,x3,hk1',lo3,x4',e4,kp,ekd,rt,cl,okL,dqL,hle,nll,e6,AS.d]
     .have h7':(way==7)=false:=by simpa using h7
      simp[Mj,Tr.d,x3,hw8,hk1',lo3,x4',e4,kp,ekd,rt,cl,h7',e6,AS.d]
   .have sw:∀(x y:Ex) (T:Sto),xIf (Ja (eOp (o2 wLt) [eV 7,eC (.int 8)]) (eOp (o2 wGt) [eOp (o2 wIx) [eV 1,eC (.int 1)],eC (.int 1)])) x y [Gc (.ref p),Gc t.d,Gc (.ref s),Gc (.ref l),Gc (shD st.hold),Gc (.ref m),Gc (.lst (BX (Ay st))),Gc (.int way),Gc (.int i),Gc (.int (1+rs)),o10,none,none,none] T=y [Gc (.ref p),Gc t.d,Gc (.ref s),Gc (.ref l),Gc (shD st.hold),Gc (.ref m),Gc (.lst (BX (Ay st))),Gc (.int way),Gc (.int i),Gc (.int (1+rs)),o10,none,none,none] T:=by
     intro x y T
     by_cases w8:way<8
     .have hk1:¬(1:Int)<t.k:=by lia
      simp[Tr.d,w8,hk1]
     .simp[w8]
    by_cases h8:way=8
    .subst h8
     refine⟨.Gv i (1+rs),S3,?_,p23,⟨fi.1,hsome.1,hsome.2⟩,trivial⟩
     simp[Mj,-Ou,sw]
     simp[AS.d]
    .have h8':(way==8)=false:=by simpa using h8
     by_cases h9:way=9/\1<t.p
     .obtain⟨h9,hP⟩:=h9
      subst h9
      have hP':(1:Int)<t.p:=by lia
      obtain⟨rp,S4,e4,a4,b4,p4⟩:=Ae p3.pen (n:=t.p) (by lia) (by lia)
      obtain⟨rq,S5,e5,a5,b5,p5⟩:=Ae p4.pen (n:=(t.p:Int)-1) (by lia) (by lia)
      obtain⟨sh,S6,e6,p6,a6,b6,c6⟩:=Uu p5.pen
      have hmod:=Ob (x:=rp+1+rq) (K:=t.p) (by lia) (by lia)
      obtain⟨q,eq⟩:∃q:Nat,(rp+1+rq) % (t.p:Int)=(q:Int):=⟨_,(lP (nM _ (by lia))).symm⟩
      obtain⟨rp,rfl⟩:=Eo a4
      have hq:q<t.p/\q≠rp:=by
       rw[eq]at hmod
       split at hmod<;>lia
      have pp:0<t.p:=by lia
      refine⟨.Jy rp q sh,S6,?_,((p23.trans p4).trans p5).trans p6,⟨λz=>hq.2 z.symm,by lia,hq.1,a6,b6,c6⟩,trivial⟩
      simp[Mj,-Ou,sw]
      simp[Tr.d,hP',e4,e5,pp,eq,e6,AS.d]
     .have s9:∀(x y:Ex) (T:Sto),xIf (Ja (eOp (o2 wEq) [eV 7,eC (.int 9)]) (eOp (o2 wGt) [eOp (o2 wIx) [eV 1,eC (.int 0)],eC (.int 1)])) x y [Gc (.ref p),Gc t.d,Gc (.ref s),Gc (.ref l),Gc (shD st.hold),Gc (.ref m),Gc (.lst (BX (Ay st))),Gc (.int way),Gc (.int i),Gc (.int (1+rs)),o10,none,none,none] T=y [Gc (.ref p),Gc t.d,Gc (.ref s),Gc (.ref l),Gc (shD st.hold),Gc (.ref m),Gc (.lst (BX (Ay st))),Gc (.int way),Gc (.int i),Gc (.int (1+rs)),o10,none,none,none] T:=by
       intro x y T
       by_cases z:way=9
       .have hP:¬(1:Int)<t.p:=by have:¬1<t.p:=λw=>h9 ⟨z,w⟩;lia
        subst z
        simp[Tr.d,hP]
       .have z':(way==9)=false:=by simpa using z
        simp[z']
      obtain⟨ws,S4,e4,p4,a4,b4⟩:=Sl p3.pen (n:=t.k+1) (by lia)
      have e4':DJ [.ref p,.int ((t.k:Int)+1)] S3=Gc (.tup (ws.map .int),S4):=e4
      refine⟨.thr i (1+rs) ws,S4,?_,p23.trans p4,⟨fi.1,hsome.1,hsome.2,a4,b4⟩,trivial⟩
      have s8:∀(x y:Ex) (T:Sto),xIf (eOp (o2 wEq) [eV 7,eC (.int 8)]) x y [Gc (.ref p),Gc t.d,Gc (.ref s),Gc (.ref l),Gc (shD st.hold),Gc (.ref m),Gc (.lst (BX (Ay st))),Gc (.int way),Gc (.int i),Gc (.int (1+rs)),o10,none,none,none] T=y [Gc (.ref p),Gc t.d,Gc (.ref s),Gc (.ref l),Gc (shD st.hold),Gc (.ref m),Gc (.lst (BX (Ay st))),Gc (.int way),Gc (.int i),Gc (.int (1+rs)),o10,none,none,none] T:=by
       intro x y T
       simp[h8']
      simp[Mj,-Ou,sw,s8,s9]
      simp[Tr.d,e4',AS.d]
  by_cases hpool:way<5/\(EO st i).isEmpty=false
  .obtain⟨hw5,hse⟩:=hpool
   have hsl:0<(EO st i).length:=by
    cases z:EO st i with
    |nil=>rw[z]at hse;cases hse
    |cons a b=>simp
   obtain⟨rj,S4,e4,a4,b4,p4⟩:=Ae p3.pen (n:=(EO st i).length) (by lia) (by lia)
   obtain⟨j,mj,ej⟩:=Gn a4 b4
   have fj:=VI mj
   have fj':=Hm fj.1
   refine⟨.NH i j,S4,?_,p23.trans p4,⟨λz=>fj.2.1 z.symm,fi.1,fj'.1,n1,fj'.2,fj.2.2.symm⟩,trivial⟩
   rw[pre]
   simp[Ry,hw5,cs,okS,dqS,hse,nls,e4,ej,AS.d]
  .by_cases w5:way<5
   .have hse:(EO st i).isEmpty=true:=by
     cases z:(EO st i).isEmpty with
     |true=>rfl
     |false=>exact absurd ⟨w5,z⟩ hpool
    obtain⟨d,S',e,pn,hc⟩:=tail (Gc (.lst (BX (EO st i)))) (λ_=>hse)
    refine⟨d,S',?_,pn,hc⟩
    rw[pre,<-e]
    simp[Ry,w5,cs,okS,dqS,hse]
   .obtain⟨d,S',e,pn,hc⟩:=tail none (λz=>absurd z w5)
    refine⟨d,S',?_,pn,hc⟩
    rw[pre,<-e]
    simp[Ry,w5]
end
noncomputable def runs(t:Tr)(st:Stt)(ds:Wp AS):Stt:=ds.foldl (step t) st
def Gs(t:Tr):Stt->Wp AS->Prop
 |_,[]=>uU
 |st,d::ds=>Can t st d/\Gs t (step t st d) ds
theorem Ig{t:Tr}{d:AS}:∀{ds:Wp AS} {st:Stt},Gs t st ds->Can t (runs t st ds) d->Gs t st (ds++[d])
 | [],st,_,h=>⟨h,trivial⟩
 |x::ds,st,h,g=>⟨h.1,Ig h.2 g⟩
theorem Js{t:Tr}:∀{ds:Wp AS} {st:Stt} {i:Nat} {d:AS},Gs t st ds->ds[i]?=Gc d->Can t (runs t st (ds.take i)) d
 |x::ds,st,0,d,h,g=>by
  simp at g;subst g
  exact h.1
 |x::ds,st,i+1,d,h,g=>by
  simp at g
  show Can t (runs t (step t st x) (ds.take i)) d
  exact Js h.2 g
theorem K6{t:Tr}{st:Stt}{ds:Wp AS}{d:AS}:runs t st (ds++[d])=step t (runs t st ds) d:=by simp[runs]
theorem KJ{t:Tr}{st:Stt}{ds:Wp AS}{i:Nat}{d:AS}(h:ds[i]?=Gc d):runs t st (ds.take (i+1))=step t (runs t st (ds.take i)) d:=by
 rw[xH,h]
 exact K6
theorem J0{t:Tr}(ht:Ia t):∀{ds:Wp AS} {st:Stt} {k:Nat},FC t k st->Gs t st ds->k+ds.length<=17->FC t (k+ds.length) (runs t st ds)
 | [],st,k,h,_,_=>h
 |d::ds,st,k,h,g,hl=>by
  have:=J0 ht (ds:=ds) (Oz ht h (by simp at hl;lia) g.1) g.2 (by simp at hl;lia)
  rw[show k+(d::ds).length=k+1+ds.length by simp;lia]
  exact this
theorem Le{t:Tr}:∀{ds:Wp AS} {st:Stt} {i:Nat},Gs t st ds->Gs t st (ds.take i)
 | [],st,i,h=>by simp;exact trivial
 |d::ds,st,0,h=>trivial
 |d::ds,st,i+1,h=>⟨h.1,Le h.2⟩
noncomputable def st0(t:Tr)(ls:Wp Ld):Stt:=⟨ls,t.ho,[]⟩
structure JW(t:Tr)(ls:Wp Ld)(ds:Wp AS):Prop where
 tr:Ia t
 inv:FC t 0 (st0 t ls)
 good:Gs t (st0 t ls) ds
 len:ds.length<=16
theorem JW.at{t:Tr}{ls:Wp Ld}{ds:Wp AS}(h:JW t ls ds)(i:Nat):FC t (ds.take i).length (runs t (st0 t ls) (ds.take i)):=by
 have:=J0 h.tr (ds:=ds.take i) h.inv (Le h.good) (by have:=h.len;simp;lia)
 rwa [rC]at this
noncomputable def Al(t:Tr)(ls:Wp Ld)(ds:Wp AS):D:=.tup [t.d,.tup (ls.map Ld.d),.tup (ds.map AS.d)]
theorem Rt{t:Tr}{ls:Wp Ld}(h:GD t ls)(hl:ls.length<=4)(h1:t.ho.length=t.p){g:Nat}(g0:0<g)(g1:g<=32)(g2:∀r∈t.ho,Ok g g r):FC t 0 (st0 t ls):=by
 obtain⟨ha,G,G0,G1,G2⟩:=h
 have hG:G<=32^4:=kF G1 (mW (by decide) hl)
 have hB:G*g<2^30:=by
  have:=uN hG g1
  lia
 refine FC.of (G:=G*g) (B:=G*g) (by simpa[st0]using hl) ?_ h1 (kA _) (sE G0 g0) (kA _) hB ?_
 .intro x hx
  have:=ha x hx
  exact⟨this.1,by lia,cw this.2.2.1,this.2.2.2.1,λr hr=>(G2 x hx r hr).up (kA _)⟩
 .intro r hr
  have:=(g2 r hr).up (t:=G) (B':=G*g) (by rw[og];exact kA _)
  rwa [og g G]at this
noncomputable def G5:AS->lA
 | .thr .. =>true
 |_=>false
section
variable{S:Sto}{p:Nat}
theorem VZ(d:AS)(E:En)(h:E=[Gc d.d]):eOp (o2 wEq) [eOp (o2 wIx) [eV 0,eC (.int 0)],eC (.str "throw")] E S=Gc (.bl (G5 d),S):=by
 subst h
 cases d<;>simp[AS.d,G5]
theorem iV{q:Nat}{ds:Wp AS}(hq:S[q]?=Gc (.lst (ds.map AS.d)))(hl:ds.length<=50):CV [(q,ds.map AS.d)] (tNm 0) (eOp (o2 wEq) [eOp (o2 wIx) [eV 0,eC (.int 0)],eC (.str "throw")]) (eV 0) (ds.map AS.d) [] [none] S=Gc ((ds.filter G5).map AS.d,S):=
 DQ (gs:=[(q,ds.map AS.d)]) (t:=tNm 0) (f:=eV 0) (C:=[]) (m:=1) (e:=AS.d) (g:=AS.d) (b:=G5) (S:=S) (λg hg=>by rw[kX.mp hg];exact AR hq) (xs:=ds) (acc:=[]) (os:=[none]) rfl (kF (show _<=50 by simp;lia) (AN (by decide))) (by
  intro d _ os ho
  obtain⟨o1,rfl⟩:=P7 ho
  exact⟨[Gc d.d],rfl,by simp,VZ d _ rfl,by simp⟩)
theorem U9{M:Nat}(hM:M<=16)(h:CM p S):∃t ls ds S',Cq [.ref p,.int M] S=Gc (Al t ls ds,S')/\(JW t ls ds/\ds.length<=M/\∀d∈ds,Sm d)/\((∀l∈ls,l.ow.sum=1)/\t.ho.sum=1)/\CM p S'/\∀n c,S[n]?=Gc c->n≠p->S'[n]?=Gc c:=by
 obtain⟨t,S1,e1,p1,ht,hh,g,g0,g1,g2⟩:=T6 h
 obtain⟨ls,S2,e2,p2,hf,hl⟩:=US p1.pen ht
 have hi:=Rt hf hl hh.1 g0 g1 g2
 obtain⟨s,l,m,as,S3,e3,hS,sm,hn⟩:=MQ (S:=S2) (t:=t) (ls:=ls) (x:=.tup []) (by lia)
 have lp:=p2.pen.lt
 have l02:S.length<=S2.length:=kF p1.same.len p2.same.len
 have pen3:CM p S3:=by
  obtain⟨ds,e,hp⟩:=p2.pen
  exact⟨ds,sm.get e (by simp),hp⟩
 have hq:(S3++[Cl.lst []])[S3.length]?=Gc (.lst []):=kR
 obtain⟨rn,S4,e4,a4,b4,p4⟩:=Ae (pen3.app [Cl.lst []]) (n:=(M:Int)+1) (by lia) (by lia)
 have lt3:=hS.lts
 have pn:p∉s::l::m::as:=λz=>by have:=hn p z;lia
 have qn:S3.length∉s::l::m::as:=λz=>by have:=lt3 _ z;lia
 have hpq:S3.length≠p:=by have:=pen3.lt;lia
 have hS4:SAt S4 s l m as (st0 t ls):=(hS.QR (.app)).same p4.same (by simpa using pn)
 have hq4:S4[S3.length]?=Gc (.lst []):=p4.get hq hpq
 obtain⟨rn,rfl⟩:=Eo a4
 have rk:HG (rn:Int)=true:=Dc (by lia) (by lia)
 have lqS:S.length<=S3.length:=kF l02 sm.len
 generalize hQ:S3.length=q at*
 obtain⟨E',S',ef,ds,as',o6,o7,rfl,f1,f2,f3,f4,f5,f6,f7,f8,f9,f10⟩:=Gg (gs:=[]) (t:=tNm 6) (b:=AW (A4 7 (AJ DM [eV 0,eV 2,eV 4]))
  (xIf (eOr (eOp (o2 wNe) [eOp (o2 wIx) [eV 7,eC (.int 0)],eC (.str "throw")]) (eOp (o2 wLt) [eOp (o1 HC) [Dx [] 1 (GU (eV 5)) (tNm 0) (eOp (o2 wEq) [eOp (o2 wIx) [eV 0,eC (.int 0)],eC (.str "throw")]) (eV 0)],eC (.int 3)])) (AW (By (AJ A3 [eV 2,eV 4,eV 7]))
  (By (Hz IZ (eV 5) [eV 7]))) Cw))
  (I:=λrs E S'=>∃(ds:Wp AS) (as':Wp Nat) (o6 o7:j6 D),E=[Gc (.ref p),Gc (.int M),Gc t.d,Gc (.tup (ls.map Ld.d)),Gc (.ref s),Gc (.ref q),o6,o7]/\S'[q]?=Gc (.lst (ds.map AS.d))/\CM p S'/\SAt S' s l m as' (runs t (st0 t ls) ds)/\Gs t (st0 t ls) ds/\ds.length+rs.length<=M/\p∉s::l::m::as'/\q∉s::l::m::as'/\(∀n∈s::l::m::as',S.length<=n)/\(∀n c,S[n]?=Gc c->n≠p->S'[n]?=Gc c)/\∀d∈ds,Sm d)
  (λ_ _ _ _=>Ao) (ds:=J6 0 rn) (E:=[Gc (.ref p),Gc (.int M),Gc t.d,Gc (.tup (ls.map Ld.d)),Gc (.ref s),Gc (.ref q),none,none]) (S:=S4)
  ⟨[],as,none,none,rfl,hq4,p4.pen,hS4,trivial,by rw[GA];simp;lia,pn,qn,λn z=>kF l02 (hn n z),λn c e ne=>p4.get (CC.get (A:=[]) .app (sm.get (p2.get (p1.get e ne) ne) (by simp)) (by simp)) ne,λ_ z=>nomatch z⟩ (by
    rintro dd rs E T ⟨ds,as',o6,o7,rfl,i1,i2,i3,i4,i5,i6,i7,i8,i9,i10⟩
    simp only[lQ]at i5
    have inv:=J0 ht hi i4 (by lia)
    rw[rC]at inv
    obtain⟨d,T1,d1,d2,d3,d4⟩:=VO i2 i3 i6 ht inv (by lia)
    have lS:S.length<=T1.length:=by have:=i8 s kJ;have:=AX i3.root;have:=d2.same.len;lia
    have j3:=i3.same d2.same (by simpa using i6)
    have j1:T1[q]?=Gc (.lst (ds.map AS.d)):=d2.get i1 hpq
    have tc:=iV j1 (by lia)
    by_cases hb:G5 d=false\/(ds.filter G5).length<3
    .obtain⟨T2,as2,k1,k2,k3,k4⟩:=ZG j3 ht inv (by lia) d3
     have lt:=j3.lts
     have q2:T2[q]?=Gc (.lst (ds.map AS.d)):=k3.get j1 i7
     have hz:ds.length<sizeLine:=kD (show ds.length<50 by lia) (AN (by decide))
     refine⟨_,[Gc (.ref p),Gc (.int M),Gc t.d,Gc (.tup (ls.map Ld.d)),Gc (.ref s),Gc (.ref q),Gc dd,Gc d.d],T2.set q (.lst ((ds++[d]).map AS.d)),by simp;rfl,?_,ds++[d],as2,Gc dd,Gc d.d,rfl,kN (AX q2),?_,?_,Ig i4 d3,by simp;lia,?_,?_,?_,?_,λx hx=>(kY.mp hx).elim (i10 x) λz=>by rw[kX.mp z];exact d4⟩
     .have kk:=AR q2
      have w1:∀(c:Ev),eOr (eOp (o2 wNe) [eOp (o2 wIx) [eV 7,eC (.int 0)],eC (.str "throw")]) c [Gc (.ref p),Gc (.int M),Gc t.d,Gc (.tup (ls.map Ld.d)),Gc (.ref s),Gc (.ref q),Gc dd,Gc d.d] T1=if G5 d=true then c [Gc (.ref p),Gc (.int M),Gc t.d,Gc (.tup (ls.map Ld.d)),Gc (.ref s),Gc (.ref q),Gc dd,Gc d.d] T1 else Gc (.bl true,T1):=by
       intro c
       cases d<;>simp[AS.d,G5]
      have sq:=EG j1
      have hz':(ds.map AS.d).length<sizeLine:=by simpa using hz
      have hfin:(ds++[d]).map AS.d=ds.map AS.d++[d.d]:=by simp
      rw[hfin]
      generalize hDD:ds.map AS.d=DD at*
      cases ht':G5 d with
      |false=>
       simp[d1,-Oj,w1,ht',k1,kk,hz']
      |true=>
       have h3:((ds.filter G5).length:Int)<3:=by
        have:=hb.resolve_left (by rw[ht'];simp)
        lia
       simp[d1,-Oj,w1,ht',sq,tc,h3,k1,kk,hz']
     .obtain⟨pd,pe,ph⟩:=d2.pen
      exact⟨pd,by rw[kB hpq];exact k3.get pe i6,ph⟩
     .rw[K6]
      exact k2.same (A:=[q]) (.set (by simp)) (by
       intro n hn z
       simp at hn;subst hn
       simp only[kG]at z i7
       rcases z with z|z|z|z
       .exact i7 (.inl z)
       .exact i7 (.inr (.inl z))
       .exact i7 (.inr (.inr (.inl z)))
       .rcases k4 _ z with w|w
        .exact i7 (.inr (.inr (.inr w)))
        .have:=AX j1;lia)
     .intro z
      simp only[kG]at z i6
      rcases z with z|z|z|z
      .exact i6 (.inl z)
      .exact i6 (.inr (.inl z))
      .exact i6 (.inr (.inr (.inl z)))
      .rcases k4 _ z with w|w
       .exact i6 (.inr (.inr (.inr w)))
       .have:=d2.pen.lt;lia
     .intro z
      simp only[kG]at z i7
      rcases z with z|z|z|z
      .exact i7 (.inl z)
      .exact i7 (.inr (.inl z))
      .exact i7 (.inr (.inr (.inl z)))
      .rcases k4 _ z with w|w
       .exact i7 (.inr (.inr (.inr w)))
       .have:=AX j1;lia
     .intro n z
      simp only[kG]at z i8
      rcases z with z|z|z|z
      .exact i8 n (.inl z)
      .exact i8 n (.inr (.inl z))
      .exact i8 n (.inr (.inr (.inl z)))
      .rcases k4 _ z with w|w
       .exact i8 n (.inr (.inr (.inr w)))
       .exact kF lS w
     .intro n c e ne
      have ln:n<S.length:=AX e
      rw[kB (λz=>by have:=lqS;lia)]
      exact k3.get (d2.get (i9 n c e ne) ne) λz=>by have:=i8 n z;lia
    .have ht':G5 d=true:=by
      cases z:G5 d with
      |true=>rfl
      |false=>exact absurd (.inl z) hb
     have h3:¬((ds.filter G5).length:Int)<3:=by
      have:¬(ds.filter G5).length<3:=λz=>hb (.inr z)
      lia
     refine⟨_,[Gc (.ref p),Gc (.int M),Gc t.d,Gc (.tup (ls.map Ld.d)),Gc (.ref s),Gc (.ref q),Gc dd,Gc d.d],T1,by simp;rfl,?_,ds,as',Gc dd,Gc d.d,rfl,j1,d2.pen,j3,i4,by lia,i6,i7,i8,λn c e ne=>d2.get (i9 n c e ne) ne,i10⟩
     have w1:∀(c:Ev),eOr (eOp (o2 wNe) [eOp (o2 wIx) [eV 7,eC (.int 0)],eC (.str "throw")]) c [Gc (.ref p),Gc (.int M),Gc t.d,Gc (.tup (ls.map Ld.d)),Gc (.ref s),Gc (.ref q),Gc dd,Gc d.d] T1=if G5 d=true then c [Gc (.ref p),Gc (.int M),Gc t.d,Gc (.tup (ls.map Ld.d)),Gc (.ref s),Gc (.ref q),Gc dd,Gc d.d] T1 else Gc (.bl true,T1):=by
      intro c
      cases d<;>simp[AS.d,G5]
     have sq:=EG j1
     generalize hDD:ds.map AS.d=DD at*
     simp[d1,-Oj,w1,ht',sq,tc,h3])
 refine⟨t,ls,ds,S',?_,⟨⟨ht,hi,f4,by simp at f5;lia⟩,by simpa using f5,f10⟩,⟨λx hx=>(hf.1 x hx).2.2.2.2,hh.2⟩,f2,f9⟩
 have df:=Aj f1
 simp[Cq,Lj,e1,e2,e3,hQ,e4,rk,ef,df,Al]
end
noncomputable def stD(st:Stt):D:=.tup [.lst (st.AF.map Ld.d),shD st.hold]
section
variable{S:Sto}{s l m:Nat}{as:Wp Nat}{st:Stt}
theorem Y9(hS:SAt S s l m as st)(hl:st.AF.length<=50):CV [(l,as.map D.ref)] (tNm 0) Dl (eOp (o1 Cv) [eV 0]) (as.map D.ref) [] [none] S=Gc (st.AF.map Ld.d,S):=by
 have e:=Gy (gs:=[(l,as.map D.ref)]) (t:=tNm 0) (f:=eOp (o1 Cv) [eV 0]) (C:=[]) (m:=1) (e:=λz:Nat×Ld=>D.ref z.1) (g:=λz=>Ld.d z.2) hS.guard (xs:=as.zip st.AF) (acc:=[]) (os:=[none]) rfl (kF (show _<=50 by simp;lia) (AN (by decide))) (by
  intro z hz os ho
  obtain⟨q1,rfl⟩:=P7 ho
  refine⟨[Gc (.ref z.1)],rfl,by simp,?_⟩
  simp[Aj (hS.gD hz),Ld.d])
 rw[<-O7 hS.len,<-Rn hS.len Ld.d]at e
 exact e
theorem YR{rs:Wp Rat}:D.tup (rs.map aD)=shD rs:=rfl
def RD:Ev:=Bi [Dx [] 1 (GU (eOp (o2 wIx) [eV 1,eC (.int 0)])) (tNm 0) Dl (eOp (o1 Cv) [eV 0]),eOp (o1 Cv) [eOp (o2 wIx) [eV 1,eC (.int 1)]]]
theorem PX{E:En}(hS:SAt S s l m as st)(hl:st.AF.length<=50)(hE:at? E 1=Gc (.ref s)):RD E S=Gc (stD st,S):=by
 have r:=Aj hS.root
 have sq:=EG hS.lo
 have e:=Y9 hS hl
 simp[RD,hE,r,sq,e,YR,stD]
end
theorem Ov{n m d:Nat}(h:n<=m):HT.sIx m d (Gc (n:Int))=n:=by
 unfold HT.sIx
 have:¬((n:Int)<0):=by lia
 simp[this]
 lia
theorem II{α:Type}{ds:Wp α}{n:Nat}(h:n<=ds.length):IY ds none (Gc (n:Int))=ds.take n:=by
 unfold IY
 rw[Ov h]
 simp[HT.sIx]
theorem UE{α:Type}{ds:Wp α}{n:Nat}(h:n<=ds.length):IY ds (Gc (n:Int)) none=ds.drop n:=by
 unfold IY
 rw[Ov h]
 simp[HT.sIx]
 exact nP (by simp)
noncomputable def hD(x:Ld):D:=.tup [.int x.k,.int x.n]
noncomputable def B9(ls:Wp Ld):D:=.lst (ls.map hD)
section
variable{S:Sto}{ls:Wp Ld}{i j:Nat}{n:Int}
@[simp] theorem du:dr S (B9 ls)=.val (B9 ls):=nr rfl
@[simp] theorem cA:asS (.val (B9 ls))=some (ls.map hD):=nr rfl
@[simp] theorem cL:HC (.val (B9 ls))=some (.val (.int ls.length)):=by
  show HC (.val (.lst (ls.map hD)))=_
  rw[WL,kT]
theorem Hb(hi:i<ls.length):atI (ls.map hD) (i:Int)=Gc (hD (AO ls i)):=DB (by rw[kn,FR hi];rfl)
@[simp] theorem jS{x:Ld}:dr S (hD x)=.val (.tup [.int x.k,.int x.n]):=nr rfl
@[simp] theorem gu{ts:List Tf}{x:Ld}{E:En}:tTp ts (hD x) E S=tMs ts [.int x.k,.int x.n] E S:=nr rfl
theorem NW(hi:i<ls.length)(hn:n<=(AO ls i).n):Bz [B9 ls,.int i,.int n] S=Gc (.bl true,S):=by
 have hi':(i:Int)<ls.length:=by lia
 simp[Bz,HA,hi',hi,Hb hi,hn]
theorem Oc(hi:i<ls.length)(hj:j<ls.length)(h1:0<(AO ls i).n)(h2:0<(AO ls j).n)(hk:(AO ls i).k=(AO ls j).k):FJ [B9 ls,.int i,.int j] S=Gc (.bl true,S):=by
 have e1:=NW (S:=S) (n:=1) hi (by lia)
 have e2:=NW (S:=S) (n:=1) hj (by lia)
 simp[FJ,JT,e1,e2,Hb hi,Hb hj,hk]
theorem J8{k:Nat}(hi:i<ls.length)(hn:n<=(AO ls i).n)(hk:k≠(AO ls i).k):EF [B9 ls,.int i,.int n,.int k] S=Gc (.bl true,S):=by
 have e1:=NW (S:=S) hi hn
 have e2:(((AO ls i).k:Int)==(k:Int))=false:=by simp;lia
 simp[EF,JN,e1,Hb hi,e2]
theorem Ua{lo hi:j6 Int}:wSl lo hi (.val (B9 ls))=Gc (.own (IY (ls.map hD) lo hi)):=nr rfl
theorem Ec(hi:i<ls.length)(hl:ls.length<=60):BS [B9 ls,.int i,.int n] S=Gc (B9 (less ls i n),S):=by
 have c1:=II (ds:=ls.map hD) (n:=i) (by simp;lia)
 have c2:IY (ls.map hD) (Gc ((i:Int)+1)) none=(ls.map hD).drop (i+1):=by
  have:=UE (ds:=ls.map hD) (n:=i+1) (by simp;lia)
  simpa using this
 have ef:B9 (less ls i n)=.lst ((ls.map hD).take i++[.tup [.int (AO ls i).k,.int ((AO ls i).n-n)]]++(ls.map hD).drop (i+1)):=by
  rw[Rr,B9,tP,List.set_eq_take_append_cons_drop,kh (by simpa using hi)]
  simp[hD]
 have z1:(v7 i (ls.map hD)).length+1<=sizeLine:=kF (show _<=100 by simp;lia) (AN (by decide))
 have z2:(v7 i (ls.map hD)++[D.tup [.int (AO ls i).k,.int ((AO ls i).n-n)]]).length+(yT (i+1) (ls.map hD)).length<=sizeLine:=kF (show _<=100 by simp;lia) (AN (by decide))
 rw[ef]
 have ah:=Hb hi
 have ws:=λ{lo hi:j6 Int}=>Ua (ls:=ls) (lo:=lo) (hi:=hi)
 generalize v7 i (ls.map hD)=A at*
 generalize yT (i+1) (ls.map hD)=B at*
 simp only[lK,lQ,qC]at z2
 simp[BS,GH,ah,ws,c1,c2,z1,z2]
end
section
variable{S:Sto}{st:Stt}{t:Tr}{k:Nat}
@[simp] theorem D5{ls:List Ld}{r:List D}:CO (.val (B9 ls)) (.val (.lst r))=if(ls.map hD).length+r.length<=sizeLine then some (.own (ls.map hD++r))else none:=nr rfl
theorem Jl{ls:Wp Ld}{y:Ld}:D.lst (ls.map hD++[.tup [.int y.k,.int y.n]])=B9 (ls++[y]):=by simp[B9,hD]
theorem Nx(h:FC t k st)(hk:k<=17){d:AS}(hc:Can t st d):Ap [B9 st.AF,d.d] S=Gc (B9 (step t st d).AF,S):=by
 have hlen:=h.len
 have hz:(st.AF.map hD).length+1<=sizeLine:=kF (show _<=100 by simp;lia) (AN (by decide))
 have hz2:∀{i:Nat} {n:Int},((less st.AF i n).map hD).length+1<=sizeLine:=λ{i n}=>kF (show _<=100 by simp[Bq];lia) (AN (by decide))
 cases d with
 |Dd p kd n=>
  have e:=Jl (ls:=st.AF) (y:=⟨kd,n,Qo t.p p⟩)
  show _=Gc (B9 (st.AF++[⟨kd,n,Qo t.p p⟩]),S)
  rw[<-e]
  have wA:=D5 (ls:=st.AF) (r:=[.tup [.int kd,.int n]])
  rw[kh (by simpa using hz)]at wA
  simp[Ap,BN,AS.d,-D5,wA]
 |NH i j=>
  obtain⟨hij,hi,hj,h1,h2,h3⟩:=hc
  have e0:AO (less st.AF i (AO st.AF i).n) j=AO st.AF j:=by
   unfold AO less
   rw[kP,kB hij,<-kP]
  have w1:=Ec (S:=S) (n:=(AO st.AF i).n) hi (by lia)
  have w2:=Ec (S:=S) (ls:=less st.AF i (AO st.AF i).n) (i:=j) (n:=(AO st.AF j).n) (by rw[Bq];exact hj) (by rw[Bq];lia)
  have z3:((less (less st.AF i (AO st.AF i).n) j (AO st.AF j).n).map hD).length+1<=sizeLine:=kF (show _<=100 by simp[Bq];lia) (AN (by decide))
  have e:=Jl (ls:=less (less st.AF i (AO st.AF i).n) j (AO st.AF j).n) (y:=⟨(AO st.AF i).k,(AO st.AF i).n+(AO st.AF j).n,EK (AO st.AF i).n (AO st.AF j).n (AO st.AF i).ow (AO st.AF j).ow⟩)
  show _=Gc (B9 (less (less st.AF i (AO st.AF i).n) j (AO st.AF j).n++[_]),S)
  rw[<-e]
  have a1:=Hb hi
  have a2:=Hb hj
  have wA:=D5 (ls:=less (less st.AF i (AO st.AF i).n) j (AO st.AF j).n) (r:=[.tup [.int (AO st.AF i).k,.int ((AO st.AF i).n+(AO st.AF j).n)]])
  rw[kh (by simpa using z3)]at wA
  generalize (less (less st.AF i (AO st.AF i).n) j (AO st.AF j).n).map hD=A at*
  simp[Ap,BN,AS.d,a1,a2,w1,w2,-D5,wA]
 |swap i g kd n=>
  obtain⟨hi,h1,h2,h3,h4,h5,h6⟩:=hc
  have w1:=Ec (S:=S) (n:=g) hi (by lia)
  have e:=Jl (ls:=less st.AF i g) (y:=⟨kd,n,(AO st.AF i).ow⟩)
  show _=Gc (B9 (less st.AF i g++[⟨kd,n,(AO st.AF i).ow⟩]),S)
  rw[<-e]
  have wA:=D5 (ls:=less st.AF i g) (r:=[.tup [.int kd,.int n]])
  rw[kh (by simpa using hz2)]at wA
  simp[Ap,BN,AS.d,w1,-D5,wA]
 |B1 u i g kd n=>
  obtain⟨hi,h1,h2,h3,h4,h5,h6,h7⟩:=hc
  have w1:=Ec (S:=S) (n:=g) hi (by lia)
  have e:=Jl (ls:=less st.AF i g) (y:=⟨kd,n,(AO st.AF i).ow⟩)
  show _=Gc (B9 (less st.AF i g++[⟨kd,n,(AO st.AF i).ow⟩]),S)
  rw[<-e]
  have wA:=D5 (ls:=less st.AF i g) (r:=[.tup [.int kd,.int n]])
  rw[kh (by simpa using hz2)]at wA
  simp[Ap,BN,AS.d,w1,-D5,wA]
 |Gv i n=>
  obtain⟨hi,h1,h2⟩:=hc
  have w1:=Ec (S:=S) (n:=n) hi (by lia)
  show _=Gc (B9 (less st.AF i n),S)
  simp[Ap,BN,AS.d,w1]
 |thr i n ws=>
  obtain⟨hi,h1,h2,h3,h4⟩:=hc
  have w1:=Ec (S:=S) (n:=n) hi (by lia)
  have e:B9 (step t st (.thr i n ws)).AF=B9 (less st.AF i n):=by
   show D.lst (((less st.AF i n).map _).map hD)=_
   rw[mO];rfl
  rw[e]
  simp[Ap,BN,AS.d,w1]
 |Jy p q x=>
  have e:B9 (step t st (.Jy p q x)).AF=B9 st.AF:=by
   show D.lst ((st.AF.map _).map hD)=_
   rw[mO];rfl
  rw[e]
  simp[Ap,BN,AS.d]
noncomputable def Cy:AS->j6 Int
 | .B1 u .. =>Gc u
 |_=>none
theorem OB{ls:Wp Ld}:∀{ds:Wp AS},(runs t (st0 t ls) ds).nums=ds.filterMap Cy:=by
 intro ds
 have:∀(ds:Wp AS) (st:Stt),(runs t st ds).nums=st.nums++ds.filterMap Cy:=by
  intro ds
  induction ds with
  |nil=>intro st;simp[runs]
  |cons d ds ih=>
   intro st
   show(runs t (step t st d) ds).nums=_
   rw[ih]
   cases d<;>simp[step,Cy,ki]
 rw[this];rfl
theorem JC:∀{ds:Wp AS} {acc:Wp D} {o:j6 D},acc.length+ds.length<=100->CV [] (tNm 0) (eOp (o2 wEq) [eOp (o2 wIx) [eV 0,eC (.int 0)],eC (.str "trade")]) (eOp (o2 wIx) [eV 0,eC (.int 1)]) (ds.map AS.d) acc [o] S=Gc (acc++(ds.filterMap Cy).map D.int,S)
 | [],acc,o,h=>by rw[mE,Fs Ao];simp
 |d::ds,acc,o,h=>by
  have hz:acc.length<sizeLine:=kD (show acc.length<101 by simp at h;lia) (AN (by decide))
  have ht:tNm 0 d.d [o] S=Gc [Gc d.d]:=by simp
  rw[kU]
  cases d with
  |B1 u i g kd n=>
   rw[Ie Ao hz ht (S1:=S) (by simp[AS.d])]
   have:eOp (o2 wIx) [eV 0,eC (.int 1)] [Gc (AS.B1 u i g kd n).d] S=Gc (.int u,S):=by simp[AS.d]
   rw[this,Aq,JC (by simp at h ⊢; lia)]
   simp[Cy,ki]
  |Dd=>rw[Hh Ao hz ht (S1:=S) (by simp[AS.d]),JC (by simp at h ⊢; lia)];simp[Cy,ki]
  |NH=>rw[Hh Ao hz ht (S1:=S) (by simp[AS.d]),JC (by simp at h ⊢; lia)];simp[Cy,ki]
  |swap=>rw[Hh Ao hz ht (S1:=S) (by simp[AS.d]),JC (by simp at h ⊢; lia)];simp[Cy,ki]
  |Gv=>rw[Hh Ao hz ht (S1:=S) (by simp[AS.d]),JC (by simp at h ⊢; lia)];simp[Cy,ki]
  |thr=>rw[Hh Ao hz ht (S1:=S) (by simp[AS.d]),JC (by simp at h ⊢; lia)];simp[Cy,ki]
  |Jy=>rw[Hh Ao hz ht (S1:=S) (by simp[AS.d]),JC (by simp at h ⊢; lia)];simp[Cy,ki]
theorem SA{ds:Wp AS}{d:AS}(hd:ds.length<=50)(hn:st.nums=ds.filterMap Cy)(hc:Can t st d):CH [B9 st.AF,.tup (ds.map AS.d),d.d] S=Gc (.bl true,S):=by
 cases d with
 |Dd p kd n=>simp[CH,DP,AS.d]
 |NH i j=>
  obtain⟨hij,hi,hj,h1,h2,h3⟩:=hc
  have e:=Oc (S:=S) hi hj h1 h2 h3
  simp[CH,DP,AS.d,e]
 |swap i g kd n=>
  obtain⟨hi,h1,h2,h3,h4,h5,h6⟩:=hc
  have e:=J8 (S:=S) (k:=kd) hi h2 h4
  simp[CH,DP,AS.d,e]
 |B1 u i g kd n=>
  obtain⟨hi,h1,h2,h3,h4,h5,h6,h7,h8⟩:=hc
  have e:=J8 (S:=S) (k:=kd) hi h2 h4
  have tc:=JC (S:=S) (ds:=ds) (acc:=[]) (o:=none) (by simp;lia)
  rw[<-hn]at tc
  have fi:=Kq (us:=st.nums)
  have ii:=MG (us:=st.nums) (i:=u)
  have iu:(st.nums.any λx=>x==u)=false:=by
   rw[List.any_eq_false]
   intro x hx z
   have:x=u:=by simpa using z
   exact h7 (this▸hx)
  rw[iu]at ii
  generalize st.nums.map D.int=ud at*
  simp[CH,DP,AS.d,tc,fi,ii,e]
 |Gv i n=>
  obtain⟨hi,h1,h2⟩:=hc
  have e:=NW (S:=S) hi h2
  simp[CH,DP,AS.d,e]
 |thr i n ws=>
  obtain⟨hi,h1,h2,h3,h4⟩:=hc
  have e:=NW (S:=S) hi h2
  simp[CH,DP,AS.d,e]
 |Jy p q x=>simp[CH,DP,AS.d]
end
section
variable{S:Sto}{st:Stt}{t:Tr}{k:Nat}
theorem Ls{ls:Wp Ld}{x y:D}(hl:ls.length<=50):CD [.tup [x,.tup (ls.map Ld.d),y]] S=Gc (B9 ls,S):=by
 have e:=Gy (gs:=[]) (t:=tNm 0) (f:=Bi [eOp (o2 wIx) [eV 0,eC (.int 0)],eOp (o2 wIx) [eV 0,eC (.int 1)]]) (C:=[]) (m:=1) (e:=Ld.d) (g:=hD) (S:=S) Ao (xs:=ls) (acc:=[]) (os:=[none]) rfl (kF (show _<=50 by simp;lia) (AN (by decide))) (by
  intro x hx os ho
  obtain⟨q1,rfl⟩:=P7 ho
  refine⟨[Gc x.d],rfl,by simp,?_⟩
  simp[Ld.d,hD])
 simp only[kr]at e
 simp[CD,F0,e,B9]
end
theorem dU{n:Nat}:∀{ds:Wp D},(∀d∈ds,d.py.depth<=n)->tW (D.pys ds)<=n
 | [],_=>by simp[D.pys,tW]
 |d::ds,h=>by
  have h1:=h d kJ
  have h2:=dU λe he=>h e (kC _ he)
  simp only[D.pys,tW]
  lia
theorem fm{n:Nat}{ds:Wp D}(h:∀d∈ds,d.py.depth<=n):(D.lst ds).py.depth<=n+1:=by
 have:=dU h
 simp only[D.py,vk]
 lia
theorem YL{n:Nat}{ds:Wp D}(h:∀d∈ds,d.py.depth<=n):(D.tup ds).py.depth<=n+1:=by
 have:=dU h
 simp only[D.py,vk]
 lia
theorem YD{i:Int}{n:Nat}:(D.int i).py.depth<=n+1:=by
 simp only[D.py,vk]
 lia
theorem OD{d:D}(h:d.lay=true)(g:d.py.depth<=60):Dj d d=true:=by
 unfold Dj
 rw[h]
 simp only[uh,vi]
 lia
theorem Oy{d:D}(h:d.lay=true):deq d d=true:=PySem.SeqAt.eqv_refl _ (Iq h)
section
variable{S:Sto}
theorem YB{ns:Wp Int}{k:Nat}:∃c,Ct [.scr ns,.int k] S=Gc (.int c,S):=by
 by_cases h:k<ns.length
 .have h':(k:Int)<ns.length:=by lia
  refine⟨ns[k],?_⟩
  have e:atI (ns.map D.int) (k:Int)=Gc (.int ns[k]):=DB (by rw[kn,kE h];rfl)
  simp[Ct,F9,h,h',e]
 .have h':¬(k:Int)<ns.length:=by lia
  exact⟨0,by simp[Ct,F9,h,h']⟩
end
structure FW(t:Tr)(ls:Wp Ld)(ds:Wp AS):Prop where
 tr:Ia t
 few:ls.length<=4
 inv:∀i,i<=ds.length->∃k,k<=16/\FC t k (runs t (st0 t ls) (ds.take i))
 good:Gs t (st0 t ls) ds
 len:ds.length<=20
theorem JW.g{t:Tr}{ls:Wp Ld}{ds:Wp AS}(h:JW t ls ds):FW t ls ds:=
 ⟨h.tr,h.inv.len,λi _=>⟨_,by have:=h.len;simp;lia,h.at i⟩,h.good,by have:=h.len;lia⟩
section
variable{S:Sto}{t:Tr}{ls:Wp Ld}{ds:Wp AS}{n:Nat}
theorem NO(h:FW t ls ds):DU [Al t ls ds] S=Gc (.non,S):=by
 have hl0:=h.few
 have hd:=h.len
 obtain⟨E',S',ef,i,o1,o2,f1,f2,rfl,rfl⟩:=Gg (gs:=[]) (t:=tTp [tNm 3,tNm 4]) (b:=AW (xIf (cU (AJ CH [eV 1,eOp (Hj false true) [eV 2,eV 3],eV 4])) (Bv (eV 3)) Cw)
  (A4 1 (AJ Ap [eV 1,eV 4])))
  (I:=λrs E S'=>∃(i:Nat) (o1 o2:j6 D),rs=(Of 0 (ds.map AS.d)).drop i/\i<=ds.length/\E=[Gc (Al t ls ds),Gc (B9 (runs t (st0 t ls) (ds.take i)).AF),Gc (.tup (ds.map AS.d)),o1,o2]/\S'=S)
  (λ_ _ _ _=>Ao) (ds:=Of 0 (ds.map AS.d)) (E:=[Gc (Al t ls ds),Gc (B9 ls),Gc (.tup (ds.map AS.d)),none,none]) (S:=S)
  ⟨0,none,none,by simp,lX _,by simp[runs,st0],rfl⟩ (by
    rintro dd rs E T ⟨i,o1,o2,i1,i2,rfl,rfl⟩
    have el:(Of 0 (ds.map AS.d)).length=ds.length:=by rw[Nq];simp
    have hlt:i<ds.length:=by
     rcases tQ i ds.length with w|w
     .exact w
     .rw[nQ (by lia)]at i1;cases i1
    rw[mC (by lia)]at i1
    injection i1 with z1 z2
    have hd1:dd=.tup [.int i,ds[i].d]:=by
     have:=Ju (ds:=ds.map AS.d) (k:=0) (i:=i)
     rw[kE (by lia),<-z1,kn,kE hlt]at this
     simpa using this
    subst z2
    subst hd1
    obtain⟨k,hk,inv⟩:=h.inv i (by lia)
    have il:(ds.take i).length<=20:=by simp;lia
    have can:=Js h.good (kE hlt)
    have cd:=SA (S:=T) (ds:=ds.take i) (by lia) OB can
    have e3:=Nx (S:=T) inv (by lia) can
    have rt:=KJ (t:=t) (st:=st0 t ls) (kE hlt)
    have ct:=II (ds:=ds.map AS.d) (n:=i) (by simp;lia)
    rw[ui]at cd
    refine⟨_,[Gc (Al t ls ds),Gc (B9 (runs t (st0 t ls) (ds.take (i+1))).AF),Gc (.tup (ds.map AS.d)),Gc (.int i),Gc ds[i].d],T,by simp;rfl,?_,i+1,Gc (.int i),Gc ds[i].d,rfl,hlt,rfl,rfl⟩
    rw[rt]
    simp[ct,cd,e3])
 have fh:=Ls (S:=S') (ls:=ls) (x:=t.d) (y:=.tup (ds.map AS.d)) (by lia)
 simp only[Al]at ef⊢
 simp[DU,Ga,fh,ef]
theorem OS(h:FW t ls ds):Bb [Al t ls ds] S=Gc (.non,S):=by
 have e:=NO (S:=S) h
 simp[Bb,Fz,e,isN]
theorem U8(h:FW t ls ds)(hn:n<=ds.length):Ey [Al t ls ds,.int n] S=Gc (B9 (runs t (st0 t ls) (ds.take n)).AF,S):=by
 have hl0:=h.few
 have hd:=h.len
 have ct:=II (ds:=ds.map AS.d) (n:=n) (by simp;lia)
 obtain⟨E',S',ef,i,o,f1,f2,rfl,rfl⟩:=Gg (gs:=[]) (t:=tNm 3) (b:=A4 2 (AJ Ap [eV 2,eV 3]))
  (I:=λrs E S'=>∃(i:Nat) (o:j6 D),rs=((ds.take n).drop i).map AS.d/\i<=n/\E=[Gc (Al t ls ds),Gc (.int n),Gc (B9 (runs t (st0 t ls) (ds.take i)).AF),o]/\S'=S)
  (λ_ _ _ _=>Ao) (ds:=(ds.take n).map AS.d) (E:=[Gc (Al t ls ds),Gc (.int n),Gc (B9 ls),none]) (S:=S)
  ⟨0,none,by simp,lX _,by simp[runs,st0],rfl⟩ (by
    rintro dd rs E T ⟨i,o,i1,i2,rfl,rfl⟩
    have hlt:i<(ds.take n).length:=by
     rcases tQ i (ds.take n).length with w|w
     .exact w
     .rw[nQ w]at i1;cases i1
    rw[mC hlt,kU]at i1
    injection i1 with z1 z2
    subst z1 z2
    have hlt':i<ds.length:=by simp at hlt;lia
    have hin:i<n:=by simp at hlt;lia
    have hg:(ds.take n)[i]=ds[i]:=List.getElem_take
    rw[hg]
    have can:=Js h.good (kE hlt')
    obtain⟨k,hk,inv⟩:=h.inv i (by lia)
    have e3:=Nx (S:=T) inv (by lia) can
    have rt:=KJ (t:=t) (st:=st0 t ls) (kE hlt')
    refine⟨_,[Gc (Al t ls ds),Gc (.int n),Gc (B9 (runs t (st0 t ls) (ds.take (i+1))).AF),Gc ds[i].d],T,by simp;rfl,?_,i+1,Gc ds[i].d,rfl,hin,rfl,rfl⟩
    rw[rt]
    simp[e3])
 have hz:i=n:=by
  have:=congrArg rf f1
  simp at this
  lia
 subst hz
 have fh:=Ls (S:=S') (ls:=ls) (x:=t.d) (y:=.tup (ds.map AS.d)) (by lia)
 simp only[Al]at ef⊢
 rw[ui]at ef
 simp[Ey,J5,fh,ct,ef]
theorem Yg(h:FW t ls ds):∃q S',EE [Al t ls ds] S=Gc (.ref q,S')/\S'[q]?=Gc (.lst ((kq (ds.length+1)).map λj=>stD (runs t (st0 t ls) (ds.take j))))/\CC [] S S':=by
 have hl1:=h.few
 obtain⟨s,l,m,as,S1,e1,hS,sm,hn⟩:=MQ (S:=S) (t:=t) (ls:=ls) (x:=.tup (ds.map AS.d)) (by lia)
 have hS:SAt S1 s l m as (st0 t ls):=hS
 have lt:=hS.lts
 have hS1:SAt (S1++[Cl.lst [stD (st0 t ls)]]) s l m as (st0 t ls):=hS.QR .app
 have hq:(S1++[Cl.lst [stD (st0 t ls)]])[S1.length]?=Gc (.lst [stD (st0 t ls)]):=kR
 have qn:S1.length∉s::l::m::as:=λz=>by have:=lt _ z;lia
 have sn0:=λ{E:En} (hE:at? E 1=Gc (.ref s))=>PX (E:=E) hS (show ls.length<=50 by lia) hE
 have lSq:=sm.len
 generalize hQ:S1.length=q at*
 obtain⟨E',S',ef,i,as',o,f1,f2,rfl,f3,f4,f5,f6,f7⟩:=Gg (gs:=[]) (t:=tNm 3) (b:=AW (By (AJ A3 [eOp (o2 wIx) [eV 0,eC (.int 0)],eV 1,eV 3]))
  (By (Hz IZ (eV 2) [RD])))
  (I:=λrs E S'=>∃(i:Nat) (as':Wp Nat) (o:j6 D),rs=(ds.drop i).map AS.d/\i<=ds.length/\E=[Gc (Al t ls ds),Gc (.ref s),Gc (.ref q),o]/\S'[q]?=Gc (.lst ((kq (i+1)).map λj=>stD (runs t (st0 t ls) (ds.take j))))/\SAt S' s l m as' (runs t (st0 t ls) (ds.take i))/\q∉s::l::m::as'/\(∀n∈s::l::m::as',S.length<=n)/\CC [] S S')
  (λ_ _ _ _=>Ao) (ds:=ds.map AS.d) (E:=[Gc (Al t ls ds),Gc (.ref s),Gc (.ref q),none]) (S:=S1++[Cl.lst [stD (st0 t ls)]])
  ⟨0,as,none,by simp,lX _,rfl,by rw[hq];rfl,hS1,qn,hn,sm.trans .app⟩ (by
    rintro dd rs E T ⟨i,as',o,i1,i2,rfl,i3,i4,i5,i6,i7⟩
    have hlt:i<ds.length:=by
     rcases tQ i ds.length with w|w
     .exact w
     .rw[nQ w]at i1;cases i1
    rw[mC hlt,kU]at i1
    injection i1 with z1 z2
    subst z1 z2
    obtain⟨kk0,il,inv⟩:=h.inv i (by lia)
    have can:=Js h.good (kE hlt)
    obtain⟨T2,as2,k1,k2,k3,k4⟩:=ZG i4 h.tr inv il can
    have q2:=k3.get i3 i5
    rw[<-KJ (kE hlt)]at k2
    obtain⟨kk2,il2,inv2'⟩:=h.inv (i+1) hlt
    have inv2:=inv2'.len
    have sn:=PX (E:=[Gc (Al t ls ds),Gc (.ref s),Gc (.ref q),Gc ds[i].d]) k2 (by lia) rfl
    have kk:=AR q2
    have q5:q∉s::l::m::as2:=by
     intro z
     simp only[kG]at z i5
     rcases z with z|z|z|z
     .exact i5 (.inl z)
     .exact i5 (.inr (.inl z))
     .exact i5 (.inr (.inr (.inl z)))
     .rcases k4 _ z with w|w
      .exact i5 (.inr (.inr (.inr w)))
      .have:=AX i3;lia
    have q6:∀n∈s::l::m::as2,S.length<=n:=by
     intro n hz
     simp only[kG]at hz i6
     rcases hz with z|z|z|z
     .exact i6 n (.inl z)
     .exact i6 n (.inr (.inl z))
     .exact i6 n (.inr (.inr (.inl z)))
     .rcases k4 _ z with w|w
      .exact i6 n (.inr (.inr (.inr w)))
      .exact kF i7.len w
    have q7:CC [] S T2:=CC.new (A:=[]) i7 k3 i6
    refine⟨_,[Gc (Al t ls ds),Gc (.ref s),Gc (.ref q),Gc ds[i].d],T2.set q (.lst ((kq (i+1+1)).map λj=>stD (runs t (st0 t ls) (ds.take j)))),by simp;rfl,?_,i+1,as2,Gc ds[i].d,rfl,hlt,rfl,kN (AX q2),k2.same (A:=[q]) (.set (by simp)) (by simpa using q5),q5,q6,CC.new (A:=[]) (B:=[q]) q7 (.set (by simp)) (by intro n hn';simp at hn';lia)⟩
    have hz:((kq (i+1)).map λj=>stD (runs t (st0 t ls) (ds.take j))).length<sizeLine:=kD (show _<50 by have:=h.len;simp;lia) (AN (by decide))
    have hfin:((kq (i+1+1)).map λj=>stD (runs t (st0 t ls) (ds.take j)))=((kq (i+1)).map λj=>stD (runs t (st0 t ls) (ds.take j)))++[stD (runs t (st0 t ls) (ds.take (i+1)))]:=by
     rw[wg,mR];rfl
    rw[hfin]
    generalize ((kq (i+1)).map λj=>stD (runs t (st0 t ls) (ds.take j)))=DD at*
    generalize stD (runs t (st0 t ls) (ds.take (i+1)))=d2 at*
    simp only[Al]at sn⊢
    simp[k1,kk,sn,hz])
 have hz:i=ds.length:=by
  have:=congrArg rf f1
  simp at this
  lia
 subst hz
 refine⟨q,S',?_,f3,f7⟩
 have eb:JK=(AW (A4 1 (AJ Cn [eV 0]))
  (AW (A4 2 (GS [RD]))
  (AW (HH (GU (eOp (o2 wIx) [eV 0,eC (.int 2)])) (tNm 3) (AW (By (AJ A3 [eOp (o2 wIx) [eV 0,eC (.int 0)],eV 1,eV 3]))
  (By (Hz IZ (eV 2) [RD]))))
  (Bv (eV 2))))):=rfl
 have s1:=sn0 (E:=[Gc (Al t ls ds),Gc (.ref s),none,none]) rfl
 unfold EE
 rw[eb]
 simp only[Al]at s1 ef⊢
 simp[e1,s1,hQ,ef]
end
section
variable{E:En}{S:Sto}{f g k o:Ev}{d:D}{es:Wp (Key×D)}
@[simp] theorem fU:evP [] E S=some ([],S):=nr rfl
@[simp] theorem UR{x:Int}:UY (.int x)=some (.inl x):=nr rfl
@[simp] theorem aL{cf:Bool}{fs:List (Ev×Ev)}:RW cf fs E S=(evP fs E S).map λr=>QU cf (R4 [] r.1) r.2:=nr rfl
@[simp] theorem gi:QU true es S=(.ref S.length,S++[.dct es]):=nr rfl
@[simp] theorem gg:QU false es S=(.dct es,S):=nr rfl
theorem IJ{n:Nat}(h:S[n]?=Gc (.dct es)):KY S (.ref n)=Gc es:=by
 unfold KY
 dsimp only
 rw[h]
noncomputable def Ym(d b:D)(E:En)(i:D×Sto):j6 (Fl×En×Sto):=(UY i.1).bind λkk=>match b with
 | .ref n=>match i.2[n]? with
   |some (.dct es)=>if es.length<1000 then Gc (.nx,E,i.2.set n (.dct (putD es kk d)))else none
   |_=>none
 |_=>none
@[simp] theorem av:U5 k f o E S=(k E S).bind λr=>(f E r.2).bind λb=>(o E b.2).bind (Ym r.1 b.1 E):=nr rfl
theorem WC{n:Nat}{i:D}{kk:Key}(h:S[n]?=Gc (.dct es))(hk:UY i=Gc kk)(hl:es.length<1000):Ym d (.ref n) E (i,S)=Gc (.nx,E,S.set n (.dct (putD es kk d))):=by
 unfold Ym
 rw[hk,Aq]
 dsimp only
 rw[h]
 dsimp only
 rw[kh hl]
end
structure Trd where
 u:Nat
 k:Nat
 g:Int
 o:Nat
 n:Int
noncomputable def Trd.d(r:Trd):D:=.tup [.int r.u,.int r.k,.int r.g,.int r.o,.int r.n]
noncomputable def trd(L:Wp Ld):AS->j6 Trd
 | .B1 u l g k n=>Gc ⟨u.toNat,(AO L l).k,g,k,n⟩
 |_=>none
noncomputable def tds(L:Wp Ld)(ds:Wp AS):Wp Trd:=ds.filterMap (trd L)
noncomputable def tdB(t:Tr)(ls:Wp Ld)(ds:Wp AS):Wp Trd:=tds (runs t (st0 t ls) ds).AF ds
structure TrO(rs:Wp Trd):Prop where
 nd:(rs.map (·.u)).Nodup
 le:∀r∈rs,r.u<=9
 few:rs.length<=20
section
variable{S:Sto}{t:Tr}{ls L:Wp Ld}{ds:Wp AS}
theorem D9:∀{ds:Wp AS} {st:Stt},Gs t st ds->st.nums.Nodup->(st.nums++ds.filterMap Cy).Nodup/\∀u∈ds.filterMap Cy,0<=u/\u<=9
 | [],st,_,h=>⟨by simpa using h,λu z=>by simp at z⟩
 |d::ds,st,hg,h=>by
  obtain⟨hc,hg⟩:=hg
  cases d with
  |B1 u l g k n=>
   have hu:=hc.2.2.2.2.2.2.2
   have nd:(st.nums++[u]).Nodup:=mG.mpr ⟨h,by simp,λa ha b hb e=>by
    simp at hb
    subst hb
    exact hu.1 (e▸ha)⟩
   obtain⟨a,b⟩:=D9 (st:=step t st (.B1 u l g k n)) hg nd
   refine⟨?_,λv hv=>?_⟩
   .have e:(step t st (.B1 u l g k n)).nums=st.nums++[u]:=rfl
    rw[e,mF]at a
    exact a
   .rw[ki]at hv
    rcases kG.mp hv with rfl|hv
    .exact hu.2
    .exact b v hv
  |Dd p k n=>exact D9 (ds:=ds) (st:=step t st (.Dd p k n)) hg h
  |NH a b=>exact D9 (ds:=ds) (st:=step t st (.NH a b)) hg h
  |swap l g k n=>exact D9 (ds:=ds) (st:=step t st (.swap l g k n)) hg h
  |Gv l n=>exact D9 (ds:=ds) (st:=step t st (.Gv l n)) hg h
  |thr l n ws=>exact D9 (ds:=ds) (st:=step t st (.thr l n ws)) hg h
  |Jy p q x=>exact D9 (ds:=ds) (st:=step t st (.Jy p q x)) hg h
theorem Z0:∀{ds:Wp AS},(tds L ds).map (·.u)=(ds.filterMap Cy).map yi
 | []=>rfl
 |d::ds=>by
  have ih:= @Z0 ds
  unfold tds at ih⊢
  cases d<;>simp[trd,Cy,ki,ih]
theorem FW.tok(h:FW t ls ds):TrO (tdB t ls ds):=by
 obtain⟨nd,b⟩:=D9 h.good (show(st0 t ls).nums.Nodup from .nil)
 have nd:(ds.filterMap Cy).Nodup:=by simpa[st0]using nd
 have e:=Z0 (L:=(runs t (st0 t ls) ds).AF) (ds:=ds)
 refine⟨?_,λr hr=>?_,?_⟩
 .unfold tdB
  rw[e,mq,mh]
  refine sQ ?_ (mq.mp nd)
  intro x y hx hy ne z
  have:=b x hx
  have:=b y hy
  exact ne (by lia)
 .have:r.u∈(ds.filterMap Cy).map yi:=by rw[<-e];exact q9 hr
  obtain⟨v,hv,ev⟩:=lC.mp this
  have:=b v hv
  lia
 .have:=p9 (trd (runs t (st0 t ls) ds).AF) ds
  have:=h.len
  unfold tdB tds;lia
theorem NJ{d:AS}{st:Stt}:st.AF.length<=(step t st d).AF.length:=by cases d<;>simp[step,Bq]
theorem Mg:∀{ds:Wp AS} {st:Stt},st.AF.length<=(runs t st ds).AF.length
 | [],st=>kA _
 |d::ds,st=>kF NJ (Mg (ds:=ds) (st:=step t st d))
theorem Qw:∀{ds:Wp AS} {st:Stt},Gs t st ds->∀{u g n:Int} {l k:Nat},AS.B1 u l g k n∈ds->l<(runs t st ds).AF.length/\0<=u
 | [],st,_,u,g,n,l,k,h=>by cases h
 |d::ds,st,hg,u,g,n,l,k,h=>by
  rcases kG.mp h with rfl|h
  .exact⟨kD hg.1.1 (kF NJ (Mg (ds:=ds) (st:=step t st _))),hg.1.2.2.2.2.2.2.2.2.1⟩
  .exact Qw hg.2 h
noncomputable def Bo(rs:Wp Trd):Wp (Key×D):=rs.map λr=>(.inl (r.u:Int),r.d)
theorem UJ{es:Wp (Key×D)}{k:Key}{v:D}(h:∀kv∈es,kv.1≠k):putD es k v=es++[(k,v)]:=by
 unfold putD
 rw[ko]
 intro z
 obtain⟨kv,hm,e⟩:=nW.mp z
 exact h kv hm (by simpa using e)
theorem R5{rs:Wp Trd}{r:Trd}(h:((rs++[r]).map (·.u)).Nodup):putD (Bo rs) (.inl (r.u:Int)) r.d=Bo (rs++[r]):=by
 rw[UJ]
 .simp[Bo]
 .intro kv hm e
  obtain⟨x,hx,rfl⟩:=lC.mp hm
  have e:(pQ (x.u:Int):Key)=.inl (r.u:Int):=e
  injection e with e
  rw[mR,mG]at h
  exact h.2.2 x.u (q9 hx) r.u (by simp) (by lia)
theorem Oe{a b:Wp AS}:tds L (a++b)=tds L a++tds L b:=by unfold tds;rw[List.filterMap_append]
theorem fH{l:Nat}(h:l<L.length):atI (L.map Ld.d) (l:Int)=Gc (.tup [.int (AO L l).k,.int (AO L l).n,shD (AO L l).ow]):=DB (by
 rw[kn,FR h];rfl)
theorem fG{l:Nat}(h:l<L.length):atI (L.map hD) (l:Int)=Gc (.tup [.int (AO L l).k,.int (AO L l).n]):=DB (by
 rw[kn,FR h];rfl)
def ltB:Ex:=(xIf (eOp (o2 wEq) [eIx (eV 3) (eI 0),eC (.str "trade")]) (U5 (Bi [eIx (eV 3) (eI 1),eIx (eIx (eV 1) (eIx (eV 3) (eI 2))) (eI 0),eIx (eV 3) (eI 3),eIx (eV 3) (eI 4),eIx (eV 3) (eI 5)]) (eV 2) (eIx (eV 3) (eI 1))) Cw)
theorem aR{q:Nat}{rs:Wp Trd}{d:AS}{e0:j6 D}(hq:S[q]?=Gc (.dct (Bo rs)))(hd:∀{u g n:Int} {l k:Nat},d=.B1 u l g k n->l<L.length/\0<=u)(nd:((rs++tds L [d]).map (·.u)).Nodup)(hl:rs.length<=100):ltB [e0,Gc (.lst (L.map Ld.d)),Gc (.ref q),Gc d.d] S=Gc (.nx,[e0,Gc (.lst (L.map Ld.d)),Gc (.ref q),Gc d.d],S.set q (.dct (Bo (rs++tds L [d])))):=by
 have sm:=set_same hq
 cases d with
 |B1 u l g k n=>
  obtain⟨h1,h2⟩:=hd rfl
  obtain⟨u,rfl⟩:=Eo h2
  have a:=fH h1
  have sz:(5:Nat)<=sizeLine:=AN (by decide)
  have et:tds L [.B1 u l g k n]=[⟨u,(AO L l).k,g,k,n⟩]:=rfl
  rw[et]at nd⊢
  have sk:=λE=>WC (d:=Trd.d ⟨u,(AO L l).k,g,k,n⟩) (E:=E) (i:=.int u) (kk:=.inl (u:Int)) hq rfl (by simp[Bo];lia)
  rw[R5 (r:=⟨u,(AO L l).k,g,k,n⟩) nd]at sk
  generalize Bo (rs++[⟨u,(AO L l).k,g,k,n⟩])=R at*
  unfold Trd.d at sk
  dsimp only at sk
  generalize L.map Ld.d=LD at*
  simp[ltB,AS.d,a,sz,sk]
 |_=>simp[ltB,AS.d,tds,trd,ki,sm]
theorem RY{q:Nat}{e0:j6 D}:∀{ds:Wp AS} {rs:Wp Trd} {S:Sto} {e3:j6 D},S[q]?=Gc (.dct (Bo rs))->(∀{u g n:Int} {l k:Nat},AS.B1 u l g k n∈ds->l<L.length/\0<=u)->((rs++tds L ds).map (·.u)).Nodup->rs.length+ds.length<=100->∃e3' S',HN [] (tNm 3) ltB (ds.map AS.d) [e0,Gc (.lst (L.map Ld.d)),Gc (.ref q),e3] S=Gc (.nx,[e0,Gc (.lst (L.map Ld.d)),Gc (.ref q),e3'],S')/\S'[q]?=Gc (.dct (Bo (rs++tds L ds)))/\CC [q] S S'
 | [],rs,S,e3,hq,_,_,_=>⟨e3,S,by rw[mE,ET Ao],by simpa[tds]using hq,.refl⟩
 |d::ds,rs,S,e3,hq,hd,nd,hl=>by
  have e:tds L (d::ds)=tds L [d]++tds L ds:=Oe (a:=[d]) (b:=ds)
  rw[e,<-mF]at nd
  have nd1:((rs++tds L [d]).map (·.u)).Nodup:=by
   rw[mR,mG]at nd
   exact nd.1
  simp only[lQ]at hl
  have e1:=aR (e0:=e0) (L:=L) (d:=d) hq (λ{u g n l k} z=>hd (by rw[z];exact kJ)) nd1 (by lia)
  have l1:(tds L [d]).length<=1:=by
   have:=p9 (trd L) [d]
   unfold tds;simpa using this
  obtain⟨e3',S',e2,q2,s2⟩:=RY (ds:=ds) (rs:=rs++tds L [d]) (S:=S.set q (.dct (Bo (rs++tds L [d])))) (e3:=Gc d.d) (e0:=e0) (kN (AX hq)) (λz=>hd (kC _ z)) nd (by simp;lia)
  refine⟨e3',S',?_,by rw[e,<-mF];exact q2,CC.trans (.set (by simp)) s2⟩
  have tn:tNm 3 d.d [e0,Gc (.lst (L.map Ld.d)),Gc (.ref q),e3] S=Gc [e0,Gc (.lst (L.map Ld.d)),Gc (.ref q),Gc d.d]:=rfl
  rw[kU,B3 Ao,tn,Aq,e1,Aq,J1,e2]
theorem aw{α:Type}{xs:Wp α}{x:α}:atI (xs++[x]) (-1)=Gc x:=by
 unfold atI
 have h1:(1:Int)<=(xs.length:Int)+1:=by lia
 have h2:(-1+((xs.length:Int)+1)).toNat=xs.length:=by lia
 simp[ixN,h1,h2]
theorem F3(h:FW t ls ds):∃q S',BZ [Al t ls ds] S=Gc (.ref q,S')/\S'[q]?=Gc (.dct (Bo (tdB t ls ds)))/\CC [] S S'/\S.length<=q:=by
 obtain⟨q0,S1,e1,q1,s1⟩:=Yg (S:=S) h
 have tk:=h.tok
 have hd:=h.len
 have d1:=Aj q1
 have at1:atI ((kq (ds.length+1)).map λj=>stD (runs t (st0 t ls) (ds.take j))) (-1)=Gc (stD (runs t (st0 t ls) ds)):=by
  rw[wg,mR,kU,mE,aw,sg]
 obtain⟨e3',S2,e2,q2,s2⟩:=RY (L:=(runs t (st0 t ls) ds).AF) (q:=S1.length) (e0:=Gc (Al t ls ds)) (ds:=ds) (rs:=[]) (S:=S1++[.dct []]) (e3:=none) kR (λz=>Qw h.good z) (by rw[kr];exact tk.nd) (by simp;lia)
 rw[kr]at q2
 refine⟨S1.length,S2,?_,q2,CC.new (A:=[]) (B:=[S1.length]) (s1.trans .app) s2 (by have:=s1.len;simpa using this),s1.len⟩
 have eb:JD=(AW (A4 1 (eIx (eIx (AJ EE [eV 0]) (eOp (o1 XT) [eI 1])) (eI 0)))
  (AW (A4 2 (Wt []))
  (AW (HH (GU (eIx (eV 0) (eI 2))) (tNm 3) ltB)
  (Bv (eV 2))))):=rfl
 have mn:R4 [] []=[]:=rfl
 unfold BZ
 rw[eb]
 generalize ((kq (ds.length+1)).map λj=>stD (runs t (st0 t ls) (ds.take j)))=ST at*
 unfold stD at at1
 generalize (runs t (st0 t ls) ds).AF.map Ld.d=LD at*
 simp only[Al]at e1 e2⊢
 simp[e1,d1,at1,mn,e2]
end
theorem Oq{α:Type}{gs:Gd}{t:Tf}{b:Ex}{C:En}{m q:Nat}{S0:Sto}{e:α->D}{h:α->Wp D}(hg:∀T,CC [q] S0 T->gOk gs T):∀{xs:Wp α} {acc:Wp D} {os:En} {S:Sto},os.length=m->S[q]?=Gc (.lst acc)->CC [q] S0 S->acc.length+xs.length<=1000->(∀x∈xs,(h x).length<=1)->(∀x∈xs,∀os S acc,os.length=m->S[q]?=Gc (.lst acc)->acc.length<sizeLine->CC [q] S0 S->∃us us' S',t (e x) (C++os) S=Gc (C++us)/\b (C++us) S=Gc (.nx,C++us',S'.set q (.lst (acc++h x)))/\us'.length=m/\CC [] S S')->∃os' S',os'.length=m/\HN gs t b (xs.map e) (C++os) S=Gc (.nx,C++os',S')/\S'[q]?=Gc (.lst (acc++xs.flatMap h))/\CC [q] S S'
 | [],acc,os,S,ho,hq,hs,hz,h1,H=>⟨os,S,ho,by rw[mE,ET (hg S hs)],by simpa using hq,.refl⟩
 |x::xs,acc,os,S,ho,hq,hs,hz,h1,H=>by
  obtain⟨us,us',S1,e1,e2,hu,sm⟩:=H x kJ os S acc ho hq (kD (show acc.length<1001 by simp at hz;lia) (by decide)) hs
  have q1:=sm.get hq (by simp)
  have s1:CC [q] S (S1.set q (.lst (acc++h x))):=(sm.mono λ_ z=>(nomatch z)).trans (.set (by simp))
  have hx:=h1 x kJ
  obtain⟨os',S2,ho',e3,q2,s2⟩:=Oq hg (t:=t) (b:=b) (C:=C) (e:=e) (h:=h) (xs:=xs) (acc:=acc++h x) (os:=us') (S:=S1.set q (.lst (acc++h x))) hu (kN (AX q1)) (hs.trans s1) (by simp at hz ⊢; lia) (λx' hx=>h1 x' (kC _ hx)) λx' hx=>H x' (kC _ hx)
  refine⟨os',S2,ho',?_,by simpa using q2,s1.trans s2⟩
  rw[kU,B3 (hg S hs),e1,Aq,e2,Aq,J1,e3]
noncomputable def srt(rs:Wp Trd):Wp Trd:=rs.mergeSort λa b=>decide (a.u<=b.u)
theorem FG(rs:Wp Trd):(srt rs).Perm rs:=qz _ _
theorem RX{rs:Wp Trd}(h:TrO rs):(srt rs).Pairwise λa b=>a.u<b.u:=by
 have h1:=qI (le:=λ(a b:Trd)=>decide (a.u<=b.u)) (λa b c h1 h2=>by simp at *; lia) (λa b=>by simp;lia) rs
 have h2:((srt rs).map (·.u)).Nodup:=((FG rs).map _).nodup_iff.mpr h.nd
 rw[mq,mh]at h2
 exact(tw.mpr ⟨h1,h2⟩).imp λ⟨a,b⟩=>by
  have a:=kO a
  lia
theorem Jp:∀{rs:Wp Trd},LN (rs.map Trd.d)=Gc (rs.map λr=>(r.u:Int))
 | []=>rfl
 |r::rs=>by
  show(Xa r.d).bind (λk=>(LN (rs.map Trd.d)).map (k:: ·))=_
  rw[Jp];rfl
theorem PQ{rs:Wp Trd}(h:TrO rs):(rs.map λr=>(r.u:Int)).Nodup:=by
 have:=h.nd
 rw[mq,mh]at this⊢
 exact this.imp λh z=>h (by lia)
theorem L9{rs:Wp Trd}(h:TrO rs):OX (rs.map λr=>(r.u:Int)) (rs.map Trd.d)=(srt rs).map Trd.d:=by
 have ez:(rs.map λr=>(r.u:Int)).zip (rs.map Trd.d)=rs.map λ(r:Trd)=>((r.u:Int),r.d):=by rw[List.zip_map']
 rw[L4 (l:=(srt rs).map λ(r:Trd)=>((r.u:Int),r.d)) (PQ h) (by rw[ez];exact(FG rs).map _) (by rw[mh];exact(RX h).imp λh=>by dsimp only;lia),mO]
 rfl
theorem Kn{rs:Wp Trd}(h:TrO rs):TrO (srt rs):=⟨((FG rs).map _).nodup_iff.mpr h.nd,λr hr=>h.le r ((FG rs).mem_iff.mp hr),by rw[(FG rs).length_eq];exact h.few⟩
section
variable{S:Sto}{t:Tr}{ls L:Wp Ld}{ds:Wp AS}
theorem VE{rs:Wp Trd}(h:TrO rs):Pc (.own (rs.map Trd.d))=Gc (.own ((srt rs).map Trd.d)):=by
 show(LN (rs.map Trd.d)).bind _=_
 have:=h.few
 rw[Jp,Aq,kh ⟨by simp;lia,PQ h⟩,L9 h]
@[simp] theorem Kz{c:Bool}{f:Ev}{E:En}:eSV c f E S=(f E S).bind λa=>(KY a.2 a.1).bind λes=>(LN (es.map (·.2))).bind λks=>if ks.length<64/\ks.Nodup then fin c (.own (OX ks (es.map (·.2)))) a.2 else none:=nr rfl
theorem Nu{rs:Wp Trd}:(Bo rs).map (·.2)=rs.map Trd.d:=by unfold Bo;rw[mO];rfl
theorem WU{rs:Wp Trd}{f:Ev}{E:En}{x:D}(h:TrO rs)(hf:f E S=Gc (x,S))(hx:KY S x=Gc (Bo rs)):eSV false f E S=Gc (.lst ((srt rs).map Trd.d),S):=by
 have:=h.few
 rw[Kz,hf,Aq]
 dsimp only
 rw[hx,Aq,Nu,Jp,Aq,kh ⟨by simp;lia,PQ h⟩,L9 h]
 rfl
@[simp] theorem dg{a b c d e f:D}:IY [a,b,c,d,e,f] (some 1) none=[b,c,d,e,f]:=nr rfl
noncomputable def Qa(L:Wp Ld)(d:AS):Wp D:=(tds L [d]).map Trd.d
theorem RH:ds.flatMap (Qa L)=(tds L ds).map Trd.d:=by
 induction ds with
 |nil=>rfl
 |cons d ds ih=>
  rw[vm,ih,show tds L (d::ds)=tds L [d]++tds L ds from Oe (a:=[d]) (b:=ds),mR]
  rfl
def ptB:Ex:=(xIf (eOp (o2 wEq) [eIx (eV 3) (eI 0),eC (.str "trade")]) (AW (NT (tTp [tNm 4,tNm 5,tNm 6,tNm 7,tNm 8]) (eOp (Hj true false) [eV 3,eI 1]))
    (By (Hz IZ (eV 2) [Bi [eV 4,eIx (eIx (eV 1) (eV 5)) (eI 0),eV 6,eV 7,eV 8]]))) Cw)
theorem aK{q:Nat}{acc:Wp D}{d:AS}{e0 e4 e5 e6 e7 e8:j6 D}(hq:S[q]?=Gc (.lst acc))(hz:acc.length<sizeLine)(hd:∀{u g n:Int} {l k:Nat},d=.B1 u l g k n->l<L.length/\0<=u):∃us:En,us.length=6/\ptB [e0,Gc (B9 L),Gc (.ref q),Gc d.d,e4,e5,e6,e7,e8] S=Gc (.nx,[e0,Gc (B9 L),Gc (.ref q)]++us,S.set q (.lst (acc++Qa L d))):=by
 have sm:=set_same hq
 have cq:=AR hq
 cases d with
 |B1 u l g k n=>
  obtain⟨h1,h2⟩:=hd rfl
  obtain⟨u,rfl⟩:=Eo h2
  have a:=fG h1
  have sz:(5:Nat)<=sizeLine:=AN (by decide)
  refine⟨[Gc (AS.B1 u l g k n).d,Gc (.int u),Gc (.int l),Gc (.int g),Gc (.int k),Gc (.int n)],rfl,?_⟩
  have et:Qa L (.B1 u l g k n)=[.tup [.int u,.int (AO L l).k,.int g,.int k,.int n]]:=rfl
  rw[et]
  unfold B9
  generalize L.map hD=LD at*
  simp[ptB,AS.d,a,sz,cq,hz]
 |Dd p k n=>exact⟨[Gc (AS.Dd p k n).d,e4,e5,e6,e7,e8],rfl,by simp[ptB,AS.d,Qa,tds,trd,ki,sm]⟩
 |NH p k=>exact⟨[Gc (AS.NH p k).d,e4,e5,e6,e7,e8],rfl,by simp[ptB,AS.d,Qa,tds,trd,ki,sm]⟩
 |swap p k n m=>exact⟨[Gc (AS.swap p k n m).d,e4,e5,e6,e7,e8],rfl,by simp[ptB,AS.d,Qa,tds,trd,ki,sm]⟩
 |Gv p k=>exact⟨[Gc (AS.Gv p k).d,e4,e5,e6,e7,e8],rfl,by simp[ptB,AS.d,Qa,tds,trd,ki,sm]⟩
 |thr p k n=>exact⟨[Gc (AS.thr p k n).d,e4,e5,e6,e7,e8],rfl,by simp[ptB,AS.d,Qa,tds,trd,ki,sm]⟩
 |Jy p k n=>exact⟨[Gc (AS.Jy p k n).d,e4,e5,e6,e7,e8],rfl,by simp[ptB,AS.d,Qa,tds,trd,ki,sm]⟩
theorem OO(h:FW t ls ds):∃q S',BO [Al t ls ds] S=Gc (.ref q,S')/\S'[q]?=Gc (.lst ((srt (tdB t ls ds)).map Trd.d))/\CC [] S S'/\S.length<=q:=by
 have hd:=h.len
 have tk:=h.tok
 have hb:=U8 (S:=S) h (n:=ds.length) (kA _)
 rw[sg]at hb
 have lt:=λ{u g n:Int} {l k:Nat} (z:AS.B1 u l g k n∈ds)=>Qw h.good z
 obtain⟨os',S2,ho',e2,q2,s2⟩:=Oq (gs:=[]) (S0:=S++[Cl.lst []]) (t:=tNm 3) (b:=ptB) (C:=[Gc (Al t ls ds),Gc (B9 (runs t (st0 t ls) ds).AF),Gc (.ref S.length)]) (m:=6) (q:=S.length) (e:=AS.d) (h:=Qa (runs t (st0 t ls) ds).AF) (λ_ _=>Ao) (xs:=ds) (acc:=[]) (os:=[none,none,none,none,none,none]) (S:=S++[Cl.lst []]) rfl kR .refl (by simp;lia) (λd _=>by
  have:=p9 (trd (runs t (st0 t ls) ds).AF) [d]
  unfold Qa tds;simpa using this) (by
  intro d hm os T acc ho hq0 hz hT
  obtain⟨x1,x2,x3,x4,x5,x6,rfl⟩:=gF ho
  obtain⟨us,hu,e⟩:=aK (L:=(runs t (st0 t ls) ds).AF) (d:=d) (e0:=Gc (Al t ls ds)) (e4:=x2) (e5:=x3) (e6:=x4) (e7:=x5) (e8:=x6) hq0 hz (λ{u g n l k} z=>lt (by rw[<-z];exact hm))
  exact⟨[Gc d.d,x2,x3,x4,x5,x6],us,T,rfl,e,hu,.refl⟩)
 rw[kr,RH]at q2
 have d2:=Aj q2
 have w:=VE tk
 have l2:=s2.len
 refine⟨S2.length,S2++[.lst ((srt (tdB t ls ds)).map Trd.d)],?_,kR,(CC.new (A:=[]) (B:=[S.length]) .app s2 (by simp)).trans .app,by simp at l2;lia⟩
 have eb:Gq=(AW (A4 1 (AJ Ey [eV 0,eOp (o1 HC) [eIx (eV 0) (eI 2)]]))
  (AW (A4 2 (GS []))
  (AW (HH (GU (eIx (eV 0) (eI 2))) (tNm 3) ptB)
  (Bv (ZO (o1 Pc) [eV 2]))))):=rfl
 unfold BO
 rw[eb]
 change dr S2 (.ref S.length)=.own ((tdB t ls ds).map Trd.d)at d2
 obtain⟨x1,x2,x3,x4,x5,x6,rfl⟩:=gF ho'
 simp only[l7,kr]at e2
 generalize (tdB t ls ds).map Trd.d=TD at*
 generalize (srt (tdB t ls ds)).map Trd.d=TS at*
 simp only[Al]at hb e2⊢
 generalize B9 (runs t (st0 t ls) ds).AF=HL at*
 simp[hb,e2,d2,w]
theorem JM(h:FW t ls ds):∃q S',CS [Al t ls ds] S=Gc (.ref q,S')/\S'[q]?=Gc (.lst ((srt (tdB t ls ds)).map Trd.d))/\CC [] S S'/\S.length<=q:=by
 have e1:=OS (S:=S) h
 obtain⟨q,S',e2,a,b,c⟩:=OO (S:=S) h
 refine⟨q,S',?_,a,b,c⟩
 simp only[Al]at e1 e2⊢
 simp[CS,ID,e1,e2]
end
end Mi
end
noncomputable section
namespace Mi
open PySem PySem.Spec L2 PyProof.Rows
theorem Nj:∀{l σ:Wp Int},σ.Nodup->(l.foldl nJ σ).Nodup
 | [],σ,h=>h
 |x::l,σ,h=>by
  rw[tR]
  refine Nj ?_
  unfold nJ
  split
  .exact h
  .rename_i z
   refine mG.mpr ⟨h,by simp,λa ha b hb e=>z ?_⟩
   simp at hb
   subst hb
   subst e
   exact nW.mpr ⟨a,ha,by simp⟩
theorem Rb{x:Int}:∀{l σ:Wp Int},x∈l.foldl nJ σ↔x∈σ\/x∈l
 | [],σ=>by simp
 |y::l,σ=>by
  rw[tR,Rb,kG]
  have:x∈nJ σ y↔x∈σ\/x=y:=by
   unfold nJ
   split
   .rename_i z
    obtain⟨w,hw,e⟩:=nW.mp z
    have e:w=y:=by simpa using e
    subst e
    exact⟨.inl,λh=>h.elim id λe=>e▸hw⟩
   .rw[kY,kX]
  rw[this,or_assoc]
theorem Sk{ns:Wp Int}:TX ns ns.length=ns.foldl nJ []:=by
 show((kq ns.length).map _).foldl nJ []=_
 congr 1
 apply oX
 .simp
 .intro i h1 h2
  simp at h1
  simp[kP,h1]
theorem Ol{M:Nat}:∀{l:Wp Nat} {a:Nat},l.Pairwise (· < ·)->(∀x∈l,a<=x/\x<M)->l.length<=M-a
 | [],a,_,_=>lX _
 |x::l,a,p,h=>by
  rw[uy]at p
  have hx:=h x kJ
  have:=Ol (a:=x+1) p.2 λy hy=>⟨p.1 y hy,(h y (kC _ hy)).2⟩
  simp;lia
theorem Xc(k1 k2:Wp Nat):∃ks:Wp Nat,Kc (TX ((k1++k2).map λ(n:Nat)=>(n:Int)) ((k1++k2).map λ(n:Nat)=>(n:Int)).length)=ks.map (λ(n:Nat)=>(n:Int))/\ks.Pairwise (· < ·)/\∀r,r∈ks↔r∈k1\/r∈k2:=by
 rw[Sk]
 generalize hL:((k1++k2).map λ(n:Nat)=>(n:Int)).foldl nJ []=L
 have nd:L.Nodup:=by rw[<-hL];exact Nj .nil
 have mem:∀x,x∈L↔ ∃r,(r∈k1\/r∈k2)/\(r:Int)=x:=λx=>by
  rw[<-hL,Rb,lC]
  simp only[kg,false_or,kY]
 have pm:=Gw L
 have so:=L3 L
 refine⟨(Kc L).map yi,?_,?_,λr=>?_⟩
 .rw[mO]
  conv=>lhs;rw[<-List.map_id (Kc L)]
  refine List.map_congr_left λx hx=>?_
  obtain⟨r,_,rfl⟩:=(mem x).mp (pm.mem_iff.mp hx)
  simp
 .have nd2:(Kc L).Nodup:=pm.nodup_iff.mpr nd
  rw[mh]
  refine sQ ?_ (tw.mpr ⟨so,nd2⟩)
  rintro x y hx hy ⟨h1,h2⟩
  obtain⟨r,_,rfl⟩:=(mem x).mp (pm.mem_iff.mp hx)
  obtain⟨q,_,rfl⟩:=(mem y).mp (pm.mem_iff.mp hy)
  simp
  lia
 .rw[lC]
  constructor
  .rintro ⟨x,hx,rfl⟩
   obtain⟨r,hr,rfl⟩:=(mem x).mp (pm.mem_iff.mp hx)
   simpa using hr
  .intro hr
   exact⟨(r:Int),pm.mem_iff.mpr ((mem _).mpr ⟨r,hr,rfl⟩),by simp⟩
theorem bI{k1 k2 ks:Wp Nat}(hs:Kc (TX ((k1++k2).map λ(n:Nat)=>(n:Int)) ((k1++k2).map λ(n:Nat)=>(n:Int)).length)=ks.map (λ(n:Nat)=>(n:Int)))(h1:k1.length+k2.length<=1000)(h2:ks.length<64):wSS (.val (.lst ((k1.map λ(n:Nat)=>(n:Int)).map D.int++(k2.map λ(n:Nat)=>(n:Int)).map D.int)))=Gc (.own (BX ks)):=by
 have e:(k1.map λ(n:Nat)=>(n:Int)).map D.int++(k2.map λ(n:Nat)=>(n:Int)).map D.int=((k1++k2).map λ(n:Nat)=>(n:Int)).map D.int:=by simp
 rw[e]
 show(Jb _).bind _=_
 rw[Fp,Aq]
 have l2:(TX ((k1++k2).map λ(n:Nat)=>(n:Int)) ((k1++k2).map λ(n:Nat)=>(n:Int)).length).length=ks.length:=by
  rw[<-(Gw _).length_eq,hs,kT]
 rw[kh ⟨by simpa using h1,by rw[l2];exact h2⟩,hs,BX,mO]
 rfl
noncomputable def lk(rs:Wp Trd)(n:Nat):j6 Trd:=rs.find? λr=>r.u==n
noncomputable def oD:j6 Trd->D
 |none=>.non
 |some r=>r.d
theorem IW{n:Nat}:∀{rs:Wp Trd},(Rf (Bo rs) (.inl (n:Int))).getD .non=oD (lk rs n)
 | []=>rfl
 |r::rs=>by
  show((if(pQ (r.u:Int):Key)=.inl (n:Int)then Gc r.d else Rf (Bo rs) (.inl (n:Int))).getD .non)=_
  unfold lk
  rw[oC]
  by_cases e:r.u=n
  .subst e;simp[oD]
  .have e1:¬(pQ (r.u:Int):Key)=.inl (n:Int):=λz=>by injection z with z;lia
   have e2:(r.u==n)=false:=by simpa using e
   rw[ko e1,e2]
   exact IW
theorem IL{rs:Wp Trd}(h:TrO rs){n:Nat}{r:Trd}:lk rs n=Gc r↔r∈rs/\r.u=n:=by
 constructor
 .intro e
  exact⟨rT e,by simpa using wj e⟩
 .rintro ⟨hm,rfl⟩
  cases e:lk rs r.u with
  |none=>
   have:=List.find?_eq_none.mp e r hm
   simp at this
  |some s=>
   have h1:s∈rs:=rT e
   have h2:s.u=r.u:=by simpa using wj e
   obtain⟨i,hi,rfl⟩:=pO.mp h1
   obtain⟨j,hj,rfl⟩:=pO.mp hm
   have:i=j:=by
    have nd:=h.nd
    refine(oR (xs:=rs.map (·.u)) (h₀:=by simpa using hi) (h₁:=by simpa using hj) nd).mp ?_
    simpa using h2
   subst this;rfl
theorem O6{rs:Wp Trd}(h:TrO rs){n:Nat}:lk (srt rs) n=lk rs n:=by
 cases e:lk rs n with
 |some r=>exact(IL (Kn h)).mpr ⟨(FG rs).mem_iff.mpr ((IL h).mp e).1,((IL h).mp e).2⟩
 |none=>
  cases e2:lk (srt rs) n with
  |none=>rfl
  |some r=>
   have:=(IL (Kn h)).mp e2
   rw[(IL h).mpr ⟨(FG rs).mem_iff.mp this.1,this.2⟩]at e
   cases e
theorem gC{rs:Wp Trd}(h:TrO rs){n:Nat}:(lk rs n).isSome=true↔n∈rs.map (·.u):=by
 constructor
 .intro e
  obtain⟨r,e⟩:=sF.mp e
  have:=(IL h).mp e
  exact lC.mpr ⟨r,this.1,this.2⟩
 .intro e
  obtain⟨r,h1,h2⟩:=lC.mp e
  rw[(IL h).mpr ⟨h1,h2⟩];rfl
noncomputable def seen(r:Trd):Trd:=⟨r.u,r.o,r.n,r.k,r.g⟩
noncomputable def clB:j6 Trd->j6 Trd->lA
 |none,none=>false
 |some r,Gc s=> !((r.k==s.o) && ((r.g==s.n) && ((r.o==s.k) && (r.n==s.g))))
 |_,_=>true
noncomputable def clL(a b:Wp Trd):Wp Nat:=(kq 10).filter λn=>clB (lk a n) (lk b n)
noncomputable def prD(a b:Wp Trd)(n:Nat):D:=.tup [.int n,oD (lk a n),oD (lk b n)]
noncomputable def fcD(a b:Wp Trd):D:=match clL a b with
 | []=>.non
 |n::_=>prD a b n
theorem aV{a b:Wp Nat}(h1:a.Pairwise (· < ·))(h2:b.Pairwise (· < ·))(h:∀n,n∈a↔n∈b):a=b:=by
 have n1:a.Nodup:=h1.imp λh=>kS h
 have n2:b.Nodup:=h2.imp λh=>kS h
 exact sL (le:=λx y=>x<=y) (λx y _ _ h h'=>Nat.le_antisymm h h') (h1.imp λh=>mN h) (h2.imp λh=>mN h) ((List.perm_ext_iff_of_nodup n1 n2).mpr h)
theorem X2{x y:j6 Trd}:Dj (oD x) (oD y)=true:=by
 cases x<;>cases y<;>rfl
theorem IS{x y:D}{xs ys:Wp D}:deq (.tup (x::xs)) (.tup (y::ys))=(deq x y && deq (.tup xs) (.tup ys)):=rfl
theorem W8:deq (.tup []) (.tup [])=true:=rfl
theorem Jm{a b:Nat}:((a:Int)==(b:Int))=(a==b):=by
 by_cases h:a=b
 .subst h;simp
 .have:¬(a:Int)=(b:Int):=by lia
  rw[oP.mpr this,oP.mpr h]
theorem Xb{a b:Wp Trd}(ha:TrO a)(hb:TrO b){n:Nat}:(!deq (oD (lk a n)) (oD ((lk b n).map seen)))=clB (lk a n) (lk b n):=by
 cases e1:lk a n with
 |none=>cases e2:lk b n<;>rfl
 |some r=>
  cases e2:lk b n with
  |none=>rfl
  |some s=>
   have u1:=((IL ha).mp e1).2
   have u2:=((IL hb).mp e2).2
   show(!deq r.d (seen s).d)=_
   unfold Trd.d seen
   dsimp only
   have e:((r.u:Int)==(s.u:Int))=true:=by rw[u1,u2];simp
   rw[IS,IS,IS,IS,IS,W8,Hl,Hl,Hl,Hl,Hl,e,uh,yM,Jm,Jm]
   rfl
end Mi
end
noncomputable section
namespace Mi
open PySem PySem.Spec L2 PyProof.Rows
section
variable{S:Sto}{t t':Tr}{ls ls':Wp Ld}{ds ds':Wp AS}
@[simp] theorem ZJ{cf:Bool}{cap:List Nat}{m:Nat}{s:Sr}{t:Tf}{c fk fv:Ev}{E:En}:Nl cf cap m s t c fk fv E S=(s E S).bind λr=>(GP r.1.2 t c fk fv r.1.1 [] (Qt cap m E) r.2).map λq=>QU cf q.1 q.2:=nr rfl
@[simp] theorem dX{c:Bool}{f:Ev}{E:En}:eLK c f E S=(f E S).bind λa=>(KY a.2 a.1).bind λes=>(QK es).bind λns=>fin c (.own (ns.map D.int)) a.2:=nr rfl
@[simp] theorem ZV{f g:Ev}{E:En}:Jg f g E S=(f E S).bind λa=>(KY a.2 a.1).bind λ_=>(g E a.2).bind λb=>(KY b.2 a.1).bind λes=>(UY b.1).map λk=>((Rf es k).getD .non,b.2):=nr rfl
@[simp] theorem br{es:List (Key×D)}:KY S (.dct es)=some es:=nr rfl
theorem Md{gs:Gd}(hg:gOk gs S):∀{rs acc:Wp Trd} {o:j6 D},((acc++rs).map (·.u)).Nodup->(acc++rs).length<=100->GP gs (tNm 0) Dl (eIx (eV 0) (eI 0)) (eV 0) (rs.map Trd.d) (Bo acc) [o] S=Gc (Bo (acc++rs),S)
 | [],acc,o,_,_=>by
   rw[mE]
   unfold GP
   rw[kh hg,qA]
 |r::rs,acc,o,nd,hl=>by
  have e:acc++r::rs=(acc++[r])++rs:=by simp
  rw[e]at nd hl⊢
  have nd1:((acc++[r]).map (·.u)).Nodup:=by
   rw[mR,mG]at nd
   exact nd.1
  have hz:(Bo acc).length<sizeLine:=kD (show _<101 by simp[Bo]at hl ⊢; lia) (AN (by decide))
  rw[kU]
  unfold GP
  rw[kh hg,kh hz]
  have t1:tNm 0 r.d [o] S=Gc [Gc r.d]:=rfl
  have t2:Dl [Gc r.d] S=Gc (.bl true,S):=rfl
  have t3:eIx (eV 0) (eI 0) [Gc r.d] S=Gc (.int r.u,S):=by simp[Trd.d]
  have t4:eV 0 [Gc r.d] S=Gc (r.d,S):=by simp
  rw[t1,Aq,t2,Aq]
  dsimp only
  rw[t3,Aq]
  dsimp only
  rw[t4,Aq]
  dsimp only
  rw[UR,Aq,R5 nd1]
  exact Md hg nd hl
theorem Ij:∀{rs:Wp Trd},QK (Bo rs)=Gc ((rs.map (·.u)).map λ(n:Nat)=>(n:Int))
 | []=>rfl
 |r::rs=>by
  show(QK (Bo rs)).map _=_
  rw[Ij];rfl
theorem Xi{x:j6 Trd}:A7 [oD x] S=Gc (oD (x.map seen),S):=by
 have sz:(5:Nat)<=sizeLine:=AN (by decide)
 cases x with
 |none=>simp[A7,C9,oD,isN]
 |some r=>simp[A7,C9,oD,Trd.d,isN,sz,seen]
theorem aU{x:j6 Trd}:dr S (oD x)=.val (oD x):=by cases x<;>rfl
theorem dH{a b:Wp Trd}{ks:Wp Nat}(hl:ks.length<=50):CV [] (tNm 2) Dl (Bi [eV 2,Jg (eV 0) (eV 2),Jg (eV 1) (eV 2)]) (BX ks) [] [Gc (.dct (Bo a)),Gc (.dct (Bo b)),none] S=Gc (ks.map (prD a b),S):=by
 have sz:(3:Nat)<=sizeLine:=AN (by decide)
 have e:=Gy (gs:=[]) (t:=tNm 2) (f:=Bi [eV 2,Jg (eV 0) (eV 2),Jg (eV 1) (eV 2)]) (C:=[Gc (.dct (Bo a)),Gc (.dct (Bo b))]) (m:=1) (e:=λn:Nat=>D.int n) (g:=prD a b) (S:=S) Ao (xs:=ks) (acc:=[]) (os:=[none]) rfl (kF (show _<=50 by simpa using hl) (AN (by decide))) (by
  intro n _ os ho
  obtain⟨q1,rfl⟩:=P7 ho
  have v1:=IW (rs:=a) (n:=n)
  have v2:=IW (rs:=b) (n:=n)
  refine⟨[Gc (.int n)],rfl,by simp,?_⟩
  unfold prD
  generalize Bo a=A at*
  generalize Bo b=B at*
  generalize oD (lk a n)=X at*
  generalize oD (lk b n)=Y at*
  simp[sz,v1,v2])
 rw[kr]at e
 exact e
theorem clC{a b:Wp Trd}(ha:TrO a)(hb:TrO b){ks:Wp Nat}(hl:ks.length<=50):CV [] (tNm 0) (eOp (o2 wNe) [eIx (eV 0) (eI 1),AJ A7 [eIx (eV 0) (eI 2)]]) (eV 0) (ks.map (prD a b)) [] [none] S=Gc ((ks.filter λn=>clB (lk a n) (lk b n)).map (prD a b),S):=by
 have e:=DQ (gs:=[]) (t:=tNm 0) (c:=eOp (o2 wNe) [eIx (eV 0) (eI 1),AJ A7 [eIx (eV 0) (eI 2)]]) (f:=eV 0) (C:=[]) (m:=1) (e:=prD a b) (g:=prD a b) (b:=λn=>clB (lk a n) (lk b n)) (S:=S) Ao (xs:=ks) (acc:=[]) (os:=[none]) rfl (kF (show _<=50 by simpa using hl) (AN (by decide))) (by
  intro n _ os ho
  obtain⟨q1,rfl⟩:=P7 ho
  have s1:=Xi (S:=S) (x:=lk b n)
  have c1:=Xb ha hb (n:=n)
  have ok:=X2 (x:=lk a n) (y:=(lk b n).map seen)
  have d1:=aU (S:=S) (x:=lk a n)
  have d2:=aU (S:=S) (x:=(lk b n).map seen)
  refine⟨[Gc (prD a b n)],rfl,by simp,?_,by simp⟩
  rw[<-c1]
  unfold prD
  generalize oD (lk a n)=X at*
  generalize oD ((lk b n).map seen)=Z at*
  generalize oD (lk b n)=Y at*
  simp[s1,d1,d2,ok])
 rw[kr]at e
 exact e
theorem keys_eq{a b:Wp Trd}(ha:TrO a)(hb:TrO b){ks:Wp Nat}(pw:ks.Pairwise (· < ·))(mem:∀r,r∈ks↔r∈a.map (·.u)\/r∈b.map (·.u)):ks.filter (λn=>clB (lk a n) (lk b n))=clL a b:=by
 refine aV (pw.filter _) (List.Pairwise.filter _ qT) λn=>?_
 unfold clL
 rw[nG,nG,mem,pJ]
 constructor
 .rintro ⟨h,c⟩
  refine⟨?_,c⟩
  rcases h with h|h
  .obtain⟨r,hr,rfl⟩:=lC.mp h
   have:=ha.le r hr;lia
  .obtain⟨r,hr,rfl⟩:=lC.mp h
   have:=hb.le r hr;lia
 .rintro ⟨_,c⟩
  refine⟨?_,c⟩
  rw[<-gC ha,<-gC hb]
  cases e1:lk a n with
  |some r=>exact .inl rfl
  |none=>
   cases e2:lk b n with
   |some r=>exact .inr rfl
   |none=>rw[e1,e2]at c;cases c
theorem P2{a b:Wp Trd}{X Y:D}(ha:TrO a)(hb:TrO b){q q':Nat}{S1 S2:Sto}(e1:BO [X] S=Gc (.ref q,S1))(q1:S1[q]?=Gc (.lst ((srt a).map Trd.d)))(e2:BO [Y] S1=Gc (.ref q',S2))(q2:S2[q']?=Gc (.lst ((srt b).map Trd.d))):C6 [X,Y] S=Gc (.lst ((clL a b).map (prD a b)),S2):=by
 have sa:=Kn ha
 have sb:=Kn hb
 have fa:=sa.few
 have fb:=sb.few
 have c1:=Md (gs:=[(q,(srt a).map Trd.d)]) (S:=S1) (by simp[gOk,AR q1]) (rs:=srt a) (acc:=[]) (o:=none) (by rw[kr];exact sa.nd) (by simp;lia)
 have c2:=Md (gs:=[(q',(srt b).map Trd.d)]) (S:=S2) (by simp[gOk,AR q2]) (rs:=srt b) (acc:=[]) (o:=none) (by rw[kr];exact sb.nd) (by simp;lia)
 rw[kr]at c1 c2
 have n0:Bo []=[]:=rfl
 rw[n0]at c1 c2
 have k1:=Ij (rs:=srt a)
 have k2:=Ij (rs:=srt b)
 obtain⟨ks,ss,pw,mem⟩:=Xc ((srt a).map (·.u)) ((srt b).map (·.u))
 have ksl:ks.length<=10:=by
  have:=Ol (a:=0) (M:=10) pw λx hx=>⟨lX _,by
   rcases(mem x).mp hx with h|h
   .obtain⟨r,hr,rfl⟩:=lC.mp h
    have:=sa.le r hr;lia
   .obtain⟨r,hr,rfl⟩:=lC.mp h
    have:=sb.le r hr;lia⟩
  lia
 have wss:=bI ss (by simp;lia) (by lia)
 have p:=dH (S:=S2) (a:=srt a) (b:=srt b) (ks:=ks) (by lia)
 have f:=clC (S:=S2) sa sb (ks:=ks) (by lia)
 rw[keys_eq sa sb pw mem]at f
 have ec:clL (srt a) (srt b)=clL a b:=by
  unfold clL
  congr 1
  funext n
  rw[O6 ha,O6 hb]
 have ep:prD (srt a) (srt b)=prD a b:=by
  funext n
  unfold prD
  rw[O6 ha,O6 hb]
 rw[ec,ep]at f
 rw[ep]at p
 have d1:=EG q1
 have d2:=EG q2
 have za:(((srt a).map (·.u)).map λ(n:Nat)=>D.int (n:Int)).length+(((srt b).map (·.u)).map λ(n:Nat)=>D.int (n:Int)).length<=sizeLine:=kF (show _<=50 by simp;lia) (AN (by decide))
 simp only[kT]at za
 have za':(srt a).length+(srt b).length<=sizeLine:=za
 have ms:∀l:Wp Trd,(l.map (·.u)).length=l.length:=λl=>kT ..
 have la:=ms (srt a)
 have lb:=ms (srt b)
 generalize (srt a).map (·.u)=NA at*
 generalize (srt b).map (·.u)=NB at*
 have hz:((NA.map λ(n:Nat)=>(n:Int)).map D.int).length+((NB.map λ(n:Nat)=>(n:Int)).map D.int).length<=sizeLine:=by simp only[kT];lia
 generalize (srt a).map Trd.d=TA at*
 generalize (srt b).map Trd.d=TB at*
 generalize Bo (srt a)=RA at*
 generalize Bo (srt b)=RB at*
 generalize BX ks=NK at*
 generalize ks.map (prD a b)=PR at*
 generalize (clL a b).map (prD a b)=CL at*
 generalize (NA.map λ(n:Nat)=>(n:Int))=IA at*
 generalize (NB.map λ(n:Nat)=>(n:Int))=IB at*
 simp only[kT]at hz
 simp[C6,GQ,e1,e2,d1,d2,c1,c2,k1,k2,hz,wss,p,f]
theorem LG(h:FW t ls ds)(h':FW t' ls' ds'):∃S',Bj [Al t ls ds,Al t' ls' ds'] S=Gc (fcD (tdB t ls ds) (tdB t' ls' ds'),S')/\CC [] S S':=by
 have e1:=OS (S:=S) h
 have e2:=OS (S:=S) h'
 obtain⟨q,S1,e3,q3,s3,_⟩:=OO (S:=S) h
 obtain⟨q',S2,e4,q4,s4,_⟩:=OO (S:=S1) h'
 have e5:=P2 h.tok h'.tok e3 q3 e4 q4
 refine⟨S2,?_,s3.trans s4⟩
 unfold fcD
 simp only[Al]at e1 e2 e5⊢
 cases hc:clL (tdB t ls ds) (tdB t' ls' ds')with
 |nil=>
  rw[hc]at e5
  simp[Bj,Ej,e1,e2,e5]
 |cons n r=>
  rw[hc,kU]at e5
  show _=Gc (prD (tdB t ls ds) (tdB t' ls' ds') n,S2)
  have hg:((r.length:Int)+1>0):=by lia
  generalize prD (tdB t ls ds) (tdB t' ls' ds') n=P at*
  simp[Bj,Ej,e1,e2,e5,hg]
end
end Mi
end
noncomputable section
namespace Mi
open PySem PySem.Spec L2 PyProof.Rows
section
variable{S:Sto}{t t':Tr}{ls ls':Wp Ld}{ds ds':Wp AS}{a b:Wp Trd}
@[simp] theorem eA{a b c d e:D}:IY [a,b,c,d,e] (some 1) none=[b,c,d,e]:=nr rfl
@[simp] theorem eB{a b c d e:D}:IY [a,b,c,d,e] (some 3) none=[d,e]:=nr rfl
@[simp] theorem bZ{a b c d e:D}:IY [a,b,c,d,e] (some 1) (some 3)=[b,c]:=nr rfl
def acB:Ex:=(AW (QQ 4 5 (Jg (eV 0) (eV 3)) (Jg (eV 1) (eV 3))) (xIf (Ja (eOp (o2 (OE false)) [eV 4,eC .non]) (eOp (o2 (OE false)) [eV 5,eC .non])) Cw (xIf (eOr (eOp (o2 (OE false)) [eV 4,eC .non]) (eOr (eOp (o2 (OE false)) [eV 5,eC .non]) (eOp (o2 wNe) [eOp (Hj true false) [eV 4,eI 1],eOp (o2 CO) [eOp (Hj true false) [eV 5,eI 3],eOp (Hj true true) [eV 5,eI 1,eI 3]]]))) (By (Hz IZ (eV 2) [Bi [eV 3,eV 4,eV 5]])) Cw)))
theorem bR{q n:Nat}{acc:Wp D}{x y:D}{e4 e5:j6 D}(hx:KY S x=Gc (Bo a))(hy:KY S y=Gc (Bo b))(hq:S[q]?=Gc (.lst acc))(hz:acc.length<sizeLine):acB [Gc x,Gc y,Gc (.ref q),Gc (.int n),e4,e5] S=Gc (.nx,[Gc x,Gc y,Gc (.ref q),Gc (.int n),Gc (oD (lk a n)),Gc (oD (lk b n))],S.set q (.lst (acc++if clB (lk a n) (lk b n)=true then [prD a b n]else []))):=by
 have v1:=IW (rs:=a) (n:=n)
 have v2:=IW (rs:=b) (n:=n)
 have cq:=AR hq
 have sm:=set_same hq
 have sz:(3:Nat)<=sizeLine:=AN (by decide)
 have s4:(4:Nat)<=sizeLine:=AN (by decide)
 unfold prD
 generalize Bo a=A at*
 generalize Bo b=B at*
 generalize lk a n=X at*
 generalize lk b n=Y at*
 cases X with
 |none=>
  cases Y with
  |none=>simp[acB,hx,hy,v1,v2,oD,isN,clB,sm]
  |some s=>simp[acB,hx,hy,v1,v2,oD,Trd.d,isN,clB,cq,hz,sz]
 |some r=>
  cases Y with
  |none=>simp[acB,hx,hy,v1,v2,oD,Trd.d,isN,clB,cq,hz,sz]
  |some s=>
   have ok:Dj (.tup [.int r.k,.int r.g,.int r.o,.int r.n]) (.tup [.int s.o,.int s.n,.int s.k,.int s.g])=true:=rfl
   have de:deq (.tup [.int r.k,.int r.g,.int r.o,.int r.n]) (.tup [.int s.o,.int s.n,.int s.k,.int s.g])=((r.k==s.o) && ((r.g==s.n) && ((r.o==s.k) && (r.n==s.g)))):=by
    rw[IS,IS,IS,IS,W8,Hl,Hl,Hl,Hl,Jm,Jm,yM]
   have ec:clB (Gc r) (Gc s)= !((r.k==s.o) && ((r.g==s.n) && ((r.o==s.k) && (r.n==s.g)))):=rfl
   rw[ec]
   generalize ((r.k==s.o) && ((r.g==s.n) && ((r.o==s.k) && (r.n==s.g))))=B0 at*
   cases B0 with
   |true=>simp[acB,hx,hy,v1,v2,oD,Trd.d,isN,ok,de,s4,sm]
   |false=>simp[acB,hx,hy,v1,v2,oD,Trd.d,isN,ok,de,s4,cq,hz,sz]
theorem ZF:(kq 10).flatMap (λn=>if clB (lk a n) (lk b n)=true then [prD a b n]else [])=(clL a b).map (prD a b):=by
 unfold clL
 generalize kq 10=xs
 induction xs with
 |nil=>rfl
 |cons n xs ih=>
  rw[vm,ih,List.filter_cons]
  cases clB (lk a n) (lk b n)<;>rfl
theorem Sy{x y:D}(hx:∀{T:Sto},CC [] S T->KY T x=Gc (Bo a))(hy:∀{T:Sto},CC [] S T->KY T y=Gc (Bo b)):∃q S',Bd [x,y] S=Gc (.ref q,S')/\S'[q]?=Gc (.lst ((clL a b).map (prD a b)))/\CC [] S S':=by
 obtain⟨os',S2,ho',e2,q2,s2⟩:=Oq (gs:=[]) (S0:=S++[Cl.lst []]) (t:=tNm 3) (b:=acB) (C:=[Gc x,Gc y,Gc (.ref S.length)]) (m:=3) (q:=S.length) (e:=λn:Nat=>D.int (0+(n:Int))) (h:=λn=>if clB (lk a n) (lk b n)=true then [prD a b n]else []) (λ_ _=>Ao) (xs:=kq 10) (acc:=[]) (os:=[none,none,none]) (S:=S++[Cl.lst []]) rfl kR .refl (by simp) (λd _=>by split<;>simp) (by
  intro n _ os T acc ho hq0 hz hT
  obtain⟨x1,x2,x3,rfl⟩:=cj ho
  have sT:CC [] S T:=CC.new (A:=[]) (B:=[S.length]) .app hT (by simp)
  have e:=bR (a:=a) (b:=b) (n:=n) (e4:=x2) (e5:=x3) (hx sT) (hy sT) hq0 hz
  exact⟨[Gc (.int n),x2,x3],[Gc (.int n),Gc (oD (lk a n)),Gc (oD (lk b n))],T,by simp,e,rfl,.refl⟩)
 rw[kr,ZF]at q2
 refine⟨S.length,S2,?_,q2,CC.new (A:=[]) (B:=[S.length]) .app s2 (by simp)⟩
 have eb:Fh=(AW (A4 2 (GS []))
  (AW (HH (Lx [eI 10]) (tNm 3) acB)
  (Bv (eV 2)))):=rfl
 have rg:(kq 10).map (λn:Nat=>D.int (0+(n:Int)))=J6 0 10:=rfl
 rw[rg]at e2
 have rt:HG 10=true:=Dc (by decide) (by decide)
 obtain⟨x1,x2,x3,rfl⟩:=cj ho'
 simp only[l7,kr]at e2
 unfold Bd
 rw[eb]
 simp[rt,e2]
theorem Yx{L:Wp D}(h:L=(clL a b).map (prD a b)):atI (L++[.non]) 0=Gc (fcD a b):=by
 subst h
 unfold fcD
 cases clL a b with
 |nil=>rfl
 |cons n r=>rw[kU,l7];exact eZ
theorem Q8:(fcD a b).lay=true/\(fcD a b).py.depth<=60:=by
 unfold fcD
 cases clL a b with
 |nil=>exact⟨rfl,show(D.non).py.depth<=60 by decide⟩
 |cons n r=>
  show(prD a b n).lay=true/\(prD a b n).py.depth<=60
  unfold prD
  have l:∀x:j6 Trd,(oD x).lay=true/\(oD x).py.depth<=3:=λx=>by
   cases x with
   |none=>exact⟨rfl,by decide⟩
   |some r=>exact⟨rfl,YL (n:=2) (by
     intro d hd
     simp at hd
     rcases hd with rfl|rfl|rfl|rfl|rfl<;>exact YD)⟩
  refine⟨?_,kF (YL (n:=3) (by
   intro d hd
   simp at hd
   rcases hd with rfl|rfl|rfl
   .exact YD
   .exact(l _).2
   .exact(l _).2)) (by decide)⟩
  show(D.lay (.int n) && D.Ln [oD (lk a n),oD (lk b n)])=true
  show(true && ((oD (lk a n)).lay && ((oD (lk b n)).lay && true)))=true
  rw[(l _).1,(l _).1];rfl
theorem dk:Dj (fcD a b) (fcD a b)=true/\deq (fcD a b) (fcD a b)=true:=⟨OD Q8.1 Q8.2,Oy Q8.1⟩
end
end Mi
end
noncomputable section
namespace Mi
open PySem PySem.Spec L2 PyProof.Rows
section
variable{t:Tr}{ls:Wp Ld}{ds:Wp AS}{K:Nat}
theorem Lp{L:Wp Ld}{i j:Nat}{n:Int}:(AO (less L i n) j).k=(AO L j).k:=by
 unfold less AO
 simp only[kP]
 by_cases e:i=j
 .subst e
  by_cases hi:i<L.length
  .simp[hi]
  .rw[List.set_eq_of_length_le (by lia)]
 .rw[kB e]
theorem WD{L:Wp Ld}{x:Ld}{j:Nat}(h:j<L.length):(AO (L++[x]) j).k=(AO L j).k:=by
 unfold AO
 simp only[kP]
 rw[j8 h]
theorem XA{st:Stt}{d:AS}{j:Nat}(h:j<st.AF.length):(AO (step t st d).AF j).k=(AO st.AF j).k:=by
 cases d with
 |Dd p k n=>exact WD h
 |NH a b=>show(AO (less (less _ _ _) _ _++[_]) j).k=_;rw[WD (by simpa[Bq]using h),Lp,Lp]
 |swap l g k n=>show(AO (less _ _ _++[_]) j).k=_;rw[WD (by simpa[Bq]using h),Lp]
 |B1 u l g k n=>show(AO (less _ _ _++[_]) j).k=_;rw[WD (by simpa[Bq]using h),Lp]
 |Gv l n=>exact Lp
 |thr l n ws=>
  show(AO ((less st.AF l n).map _) j).k=_
  have h':j<(less st.AF l n).length:=by simpa[Bq]using h
  have e:AO ((less st.AF l n).map λx=>{x with ow:=Hu (JZ t st.AF l n ws) (AO st.AF l).ow x.ow}) j={AO (less st.AF l n) j with ow:=Hu (JZ t st.AF l n ws) (AO st.AF l).ow (AO (less st.AF l n) j).ow}:=by
   unfold AO
   simp[kP,h']
  rw[e]
  exact Lp
 |Jy p q x=>
  show(AO (st.AF.map _) j).k=_
  unfold AO
  simp[kP,h]
theorem Wg:∀{ds:Wp AS} {st:Stt} {j:Nat},j<st.AF.length->(AO (runs t st ds).AF j).k=(AO st.AF j).k
 | [],st,j,_=>rfl
 |d::ds,st,j,h=>by
  show(AO (runs t (step t st d) ds).AF j).k=_
  rw[Wg (kD h NJ),XA h]
structure RK(K:Nat)(r:Trd):Prop where
 k:r.k<K
 o:r.o<K
 ne:r.k≠r.o
 g1:1<=r.g
 g2:r.g<=2000
 n1:1<=r.n
 n2:r.n<2^130
theorem Q9:∀{ds:Wp AS} {st:Stt},Gs t st ds->(∀d∈ds,Sm d)->(∀x∈(runs t st ds).AF,x.k<t.k)->∀r∈tds (runs t st ds).AF ds,RK t.k r
 | [],st,_,_,_,r,hr=>by cases hr
 |d::ds,st,hg,hs,hk,r,hr=>by
  have e:runs t st (d::ds)=runs t (step t st d) ds:=rfl
  rw[e]at hk hr
  rw[show tds (runs t (step t st d) ds).AF (d::ds)=tds _ [d]++tds _ ds from Oe (a:=[d]) (b:=ds)]at hr
  rcases kY.mp hr with z|z
  .cases d with
   |B1 u l g k n=>
    have er:r=⟨u.toNat,(AO (runs t (step t st (.B1 u l g k n)) ds).AF l).k,g,k,n⟩:=by simpa[tds,trd]using z
    subst er
    have c:=hg.1
    have s:=hs _ kJ
    have lk:(AO (runs t (step t st (.B1 u l g k n)) ds).AF l).k=(AO st.AF l).k:=by
     rw[Wg (kD c.1 NJ),XA c.1]
    have ll:l<(runs t (step t st (.B1 u l g k n)) ds).AF.length:=kD c.1 (kF NJ (Mg (ds:=ds) (st:=step t st (.B1 u l g k n))))
    exact⟨hk _ (BI ll),c.2.2.2.1,by dsimp only;rw[lk];exact λz=>c.2.2.2.2.1 z.symm,c.2.1,s.1,c.2.2.2.2.2.1,s.2⟩
   |_=>simp[tds,trd]at z
  .exact Q9 hg.2 (λx hx=>hs x (kC _ hx)) hk r z
theorem Yn(h:FW t ls ds)(hs:∀d∈ds,Sm d):∀r∈tdB t ls ds,RK t.k r:=by
 obtain⟨k,_,inv⟩:=h.inv ds.length (kA _)
 rw[sg]at inv
 exact Q9 h.good hs inv.kind
end
abbrev Mx:=Trd×Int×Int
noncomputable def mds:Nat->Wp Mx->Wp AS
 |_,[]=>[]
 |n,(r,m,e)::xs=>.Dd 0 r.o m:: .B1 r.u n m r.k e::mds (n+2) xs
noncomputable def tM(K:Nat):Tr:=⟨1,K,1,[1],0,0⟩
structure fq(K:Nat)(x:Mx):Prop where
 row:RK K x.1
 m1:1<=x.2.1
 m2:x.2.1<2^131
 e1:1<=x.2.2
 e2:x.2.2<2^131
structure MI(K:Nat)(st:Stt):Prop where
 lds:∀x∈st.AF,x.k<K/\0<=x.n/\x.n<2^131/\x.ow=[1]
 hold:st.hold=[1]
def Pre(P:Stt->Prop)(t:Tr):Stt->Wp AS->Prop
 |st,[]=>P st
 |st,d::ds=>P st/\Pre P t (step t st d) ds
theorem Ws{P:Stt->Prop}{t:Tr}:∀{ds:Wp AS} {st:Stt},Pre P t st ds->∀i,P (runs t st (ds.take i))
 | [],st,h,i=>by rw[List.take_nil];exact h
 |d::ds,st,h,0=>h.1
 |d::ds,st,h,i+1=>Ws (ds:=ds) (st:=step t st d) h.2 i
section
variable{K:Nat}
theorem UQ{st:Stt}{o:Nat}{m:Int}(h:MI K st)(ho:o<K)(m1:1<=m)(m2:m<2^131):MI K (step (tM K) st (.Dd 0 o m)):=⟨λx hx=>by
 rcases kY.mp hx with z|z
 .exact h.lds x z
 .rw[kX.mp z]
  exact⟨ho,by dsimp only;lia,m2,rfl⟩,h.hold⟩
theorem VC{st:Stt}{u m e:Int}{l k:Nat}(h:MI K st)(hl:l<st.AF.length)(hn:(AO st.AF l).n=m)(hk:k<K)(e1:1<=e)(e2:e<2^131):MI K (step (tM K) st (.B1 u l m k e)):=⟨λx hx=>by
 have hl':=h.lds _ (BI hl)
 rcases kY.mp hx with z|z
 .rcases mx z with z|rfl
  .exact h.lds x z
  .exact⟨hl'.1,by dsimp only;lia,by dsimp only;lia,hl'.2.2.2⟩
 .rw[kX.mp z]
  exact⟨hk,by dsimp only;lia,e2,hl'.2.2.2⟩,h.hold⟩
theorem O9:∀{xs:Wp Mx} {st:Stt},MI K st->(∀x∈xs,fq K x)->(st.nums++xs.map λx=>(x.1.u:Int)).Nodup->(∀x∈xs,x.1.u<=9)->Gs (tM K) st (mds st.AF.length xs)/\Pre (MI K) (tM K) st (mds st.AF.length xs)
 | [],st,h,_,_,_=>⟨trivial,h⟩
 |(r,m,e)::xs,st,h,hx,nd,hu=>by
  have ox:=hx _ kJ
  have h1:=UQ (K:=K) (o:=r.o) (m:=m) h ox.row.o ox.m1 ox.m2
  have l1:(step (tM K) st (.Dd 0 r.o m)).AF=st.AF++[⟨r.o,m,Qo 1 0⟩]:=rfl
  have at1:AO (step (tM K) st (.Dd 0 r.o m)).AF st.AF.length=⟨r.o,m,Qo 1 0⟩:=by
   rw[l1];unfold AO;simp
  have lt1:st.AF.length<(step (tM K) st (.Dd 0 r.o m)).AF.length:=by rw[l1];simp
  have h2:=VC (K:=K) (u:=r.u) (k:=r.k) (e:=e) (m:=m) h1 lt1 (by rw[at1]) ox.row.k ox.e1 ox.e2
  have nu:(r.u:Int)∉st.nums:=λz=>by
   rw[kU,mG]at nd
   exact nd.2.2 _ z _ kJ rfl
  have l2:(step (tM K) (step (tM K) st (.Dd 0 r.o m)) (.B1 r.u st.AF.length m r.k e)).AF.length=st.AF.length+2:=by
   show(less _ _ _++[_]).length=_
   rw[lK,Bq,l1];simp
  have u9:=hu _ kJ
  obtain⟨a,b⟩:=O9 (xs:=xs) (st:=step (tM K) (step (tM K) st (.Dd 0 r.o m)) (.B1 r.u st.AF.length m r.k e)) h2 (λx z=>hx x (kC _ z)) (by
   show((st.nums++[(r.u:Int)])++_).Nodup
   rw[mF];exact nd) (λx z=>hu x (kC _ z))
  rw[l2]at a b
  refine⟨⟨⟨by show 0<1;decide,ox.row.o,ox.m1,ox.m2⟩,⟨lt1,ox.m1,by rw[at1];exact wM _,ox.row.k,by rw[at1];exact ox.row.ne,ox.e1,ox.e2,nu,by lia,by dsimp only at u9;lia⟩,a⟩,h,h1,b⟩
theorem M8:∀{xs:Wp Mx} {n:Nat},(mds n xs).length=2*xs.length
 | [],n=>rfl
 |(r,m,e)::xs,n=>by
  show(mds (n+2) xs).length+1+1=_
  rw[M8,lQ];lia
theorem LW:∀{xs:Wp Mx} {n:Nat},((mds n xs).filterMap Cy).length=xs.length
 | [],n=>rfl
 |(r,m,e)::xs,n=>by
  show((mds (n+2) xs).filterMap Cy).length+1=_
  rw[LW];rfl
theorem MI.inv{st:Stt}(h:MI K st)(hl:st.AF.length<=20)(hn:st.nums.length<=16):FC (tM K) 16 st:=
 FC.of (G:=1) (B:=1) (by lia) (λx hx=>by
  obtain⟨a,b,c,d⟩:=h.lds x hx
  refine⟨a,b,oq c (H0 (by decide)),by rw[d];rfl,λr hr=>?_⟩
  rw[d]at hr
  rw[kX.mp hr]
  exact⟨1,by decide+kernel,by decide⟩) (by rw[h.hold];rfl) hn (by decide) (by decide) (by decide) (λr hr=>by
  rw[h.hold]at hr
  rw[kX.mp hr]
  exact⟨1,by decide+kernel,by decide⟩)
theorem VM{xs:Wp Mx}(hK:1<=K/\K<=5)(hx:∀x∈xs,fq K x)(nd:(xs.map λx=>x.1.u).Nodup)(hu:∀x∈xs,x.1.u<=9)(hl:xs.length<=10):FW (tM K) [] (mds 0 xs):=by
 have nd':(xs.map λx=>(x.1.u:Int)).Nodup:=by
  rw[mq,mh]at nd⊢
  exact nd.imp λh z=>h (by lia)
 obtain⟨a,b⟩:=O9 (K:=K) (xs:=xs) (st:=st0 (tM K) []) ⟨λx z=>(by cases z),rfl⟩ hx (by show([]++_).Nodup;rw[kr];exact nd') hu
 have ln:=M8 (xs:=xs) (n:=0)
 refine⟨⟨kA 1,(by show 1<=4;decide),hK.1,hK.2,kA 1,(by show 1<=20;decide)⟩,by decide,λi hi=>⟨16,kA _,(Ws b i).inv ?_ ?_⟩,a,by lia⟩
 .have up:∀{ds:Wp AS} {st:Stt},(runs (tM K) st ds).AF.length<=st.AF.length+ds.length:=by
   intro ds
   induction ds with
   |nil=>intro st;exact kA _
   |cons d ds ih=>
    intro st
    have h1:(step (tM K) st d).AF.length<=st.AF.length+1:=by cases d<;>simp[step,Bq]
    have:=ih (st:=step (tM K) st d)
    show(runs (tM K) (step (tM K) st d) ds).AF.length<=_
    simp only[lQ];lia
  have:=up (ds:=(mds 0 xs).take i) (st:=st0 (tM K) [])
  have e0:(st0 (tM K) []).AF.length=0:=rfl
  have:=List.length_take_le i (mds 0 xs)
  have:((mds 0 xs).take i).length<=20:=by rw[oT];lia
  show(runs (tM K) (st0 (tM K) []) ((mds 0 xs).take i)).AF.length<=20
  lia
 .rw[show(st0 (tM K) []).AF.length=0 from rfl,OB]
  have:=((qO i (mds 0 xs)).filterMap Cy).length_le
  rw[LW]at this
  lia
end
end Mi
end
noncomputable section
namespace Mi
open PySem PySem.Spec L2 PyProof.Rows
section
variable{S:Sto}{p q:Nat}{t:Tr}{ls:Wp Ld}{ds:Wp AS}{K:Nat}
theorem Pd:∀{xs:Wp Mx} {n:Nat} {r:Trd} {m e:Int},mds n (xs++[(r,m,e)])=mds n xs++[.Dd 0 r.o m,.B1 r.u (n+2*xs.length:Nat) m r.k e]
 | [],n,r,m,e=>by simp[mds]
 |(r',m',e')::xs,n,r,m,e=>by
  rw[l7]
  show AS.Dd 0 r'.o m':: .B1 r'.u n m' r'.k e'::mds (n+2) (xs++[(r,m,e)])=_
  rw[Pd,lQ,show n+2+2*xs.length=n+2*(xs.length+1) by lia]
  rfl
def ZN(x:Mx):Prop:=(x.2.1=x.1.n\/x.2.1=x.1.n+1)/\(x.2.2=x.1.g\/x.2.2=x.1.g+1)
def miB:Ex:=(AW (QQ 12 13 (eV 11) (eV 9))
    (AW (xIf (eOp (o2 wEq) [AJ AH [eV 0,eI 6],eI 0]) (A4 12 (eOp (o2 CO) [eV 11,eI 1])) Cw)
    (AW (xIf (eOp (o2 wEq) [AJ AH [eV 0,eI 6],eI 0]) (A4 13 (eOp (o2 CO) [eV 9,eI 1])) Cw)
    (AW (By (Hz IZ (eV 4) [Bi [eC (.str "bring"),eI 0,eV 10,eV 12]]))
    (By (Hz IZ (eV 4) [Bi [eC (.str "trade"),eV 7,eOp (o2 NS) [eOp (o1 HC) [eV 4],eI 1],eV 12,eV 8,eV 13]]))))))
theorem ax{xs:Wp Mx}{r:Trd}{e1 e2 e3 e5 e6 e12 e13:j6 D}(hp:CM p S)(hq:S[q]?=Gc (.lst ((mds 0 xs).map AS.d)))(ne:q≠p)(hl:xs.length<=100):∃m e S',miB [Gc (.ref p),e1,e2,e3,Gc (.ref q),e5,e6,Gc (.int r.u),Gc (.int r.k),Gc (.int r.g),Gc (.int r.o),Gc (.int r.n),e12,e13] S=Gc (.nx,[Gc (.ref p),e1,e2,e3,Gc (.ref q),e5,e6,Gc (.int r.u),Gc (.int r.k),Gc (.int r.g),Gc (.int r.o),Gc (.int r.n),Gc (.int m),Gc (.int e)],S')/\ZN (r,m,e)/\S'[q]?=Gc (.lst ((mds 0 (xs++[(r,m,e)])).map AS.d))/\CM p S'/\∀n c,S[n]?=Gc c->n≠p->n≠q->S'[n]?=Gc c:=by
 obtain⟨r1,S1,d1,a1,b1,p1⟩:=Ae hp (n:=6) (by decide) (by decide)
 obtain⟨r2,S2,d2,a2,b2,p2⟩:=Ae p1.pen (n:=6) (by decide) (by decide)
 have q2:S2[q]?=Gc (.lst ((mds 0 xs).map AS.d)):=p2.get (p1.get hq ne) ne
 have ln:=M8 (xs:=xs) (n:=0)
 have sz4:(4:Nat)<=sizeLine:=AN (by decide)
 have sz6:(6:Nat)<=sizeLine:=AN (by decide)
 obtain⟨m,hm,em⟩:∃m:Int,(m=r.n\/m=r.n+1)/\∀{E:En} (c:Ex),(if(r1==0)=true then A4 12 (eOp (o2 CO) [eV 11,eI 1])else Cw) ([Gc (.ref p),e1,e2,e3,Gc (.ref q),e5,e6,Gc (.int r.u),Gc (.int r.k),Gc (.int r.g),Gc (.int r.o),Gc (.int r.n),Gc (.int r.n),Gc (.int r.g)]) S1=Gc (.nx,[Gc (.ref p),e1,e2,e3,Gc (.ref q),e5,e6,Gc (.int r.u),Gc (.int r.k),Gc (.int r.g),Gc (.int r.o),Gc (.int r.n),Gc (.int m),Gc (.int r.g)],S1):=by
  cases h:(r1==0)with
  |true=>exact⟨r.n+1,.inr rfl,λ_=>by simp⟩
  |false=>exact⟨r.n,.inl rfl,λ_=>by simp⟩
 obtain⟨e,he,ee⟩:∃e:Int,(e=r.g\/e=r.g+1)/\∀(c:Ex),(if(r2==0)=true then A4 13 (eOp (o2 CO) [eV 9,eI 1])else Cw) ([Gc (.ref p),e1,e2,e3,Gc (.ref q),e5,e6,Gc (.int r.u),Gc (.int r.k),Gc (.int r.g),Gc (.int r.o),Gc (.int r.n),Gc (.int m),Gc (.int r.g)]) S2=Gc (.nx,[Gc (.ref p),e1,e2,e3,Gc (.ref q),e5,e6,Gc (.int r.u),Gc (.int r.k),Gc (.int r.g),Gc (.int r.o),Gc (.int r.n),Gc (.int m),Gc (.int e)],S2):=by
  cases h:(r2==0)with
  |true=>exact⟨r.g+1,.inr rfl,λ_=>by simp⟩
  |false=>exact⟨r.g,.inl rfl,λ_=>by simp⟩
 have hz:((mds 0 xs).map AS.d).length<sizeLine:=kD (show _<201 by rw[kT];lia) (AN (by decide))
 have hz2:((mds 0 xs).map AS.d++[D.tup [.str "bring",.int 0,.int r.o,.int m]]).length<sizeLine:=kD (show _<202 by rw[lK,kT];simp;lia) (AN (by decide))
 have c1:=AR q2
 have q3:(S2.set q (.lst ((mds 0 xs).map AS.d++[D.tup [.str "bring",.int 0,.int r.o,.int m]])))[q]?=Gc (.lst ((mds 0 xs).map AS.d++[D.tup [.str "bring",.int 0,.int r.o,.int m]])):=kN (AX q2)
 have c2:=AR q3
 have dq:=Aj q3
 have fin:(mds 0 (xs++[(r,m,e)])).map AS.d=((mds 0 xs).map AS.d++[D.tup [.str "bring",.int 0,.int r.o,.int m]])++[D.tup [.str "trade",.int r.u,.int (2*xs.length:Nat),.int m,.int r.k,.int e]]:=by
  rw[Pd,mR,mF,rC];rfl
 have li:(((mds 0 xs).map AS.d).length:Int)=(2*xs.length:Nat):=by rw[kT,ln]
 refine⟨m,e,S2.set q (.lst ((mds 0 (xs++[(r,m,e)])).map AS.d)),?_,⟨hm,he⟩,kN (AX q2),?_,λn c hn h1 h2=>?_⟩
 .rw[fin]
  have em':=em (E:=[]) Cw
  have ee':=ee Cw
  generalize (mds 0 xs).map AS.d=MD at*
  have e1':∀(f:Fl×En×Sto->j6 (Fl×En×Sto)),(ZK (A4 12 (eOp (o2 CO) [eV 11,eI 1])) Cw [Gc (.ref p),e1,e2,e3,Gc (.ref q),e5,e6,Gc (.int r.u),Gc (.int r.k),Gc (.int r.g),Gc (.int r.o),Gc (.int r.n),Gc (.int r.n),Gc (.int r.g)] (.bl (r1==0),S1)).bind f=f (.nx,[Gc (.ref p),e1,e2,e3,Gc (.ref q),e5,e6,Gc (.int r.u),Gc (.int r.k),Gc (.int r.g),Gc (.int r.o),Gc (.int r.n),Gc (.int m),Gc (.int r.g)],S1):=by
   intro f
   rw[WZ]
   cases h:(r1==0)with
   |true=>rw[h]at em';rw[kh rfl]at em' ⊢; rw[em',Aq]
   |false=>rw[h]at em';rw[ko (by decide)]at em' ⊢; rw[em',Aq]
  have e2':∀(f:Fl×En×Sto->j6 (Fl×En×Sto)),(ZK (A4 13 (eOp (o2 CO) [eV 9,eI 1])) Cw [Gc (.ref p),e1,e2,e3,Gc (.ref q),e5,e6,Gc (.int r.u),Gc (.int r.k),Gc (.int r.g),Gc (.int r.o),Gc (.int r.n),Gc (.int m),Gc (.int r.g)] (.bl (r2==0),S2)).bind f=f (.nx,[Gc (.ref p),e1,e2,e3,Gc (.ref q),e5,e6,Gc (.int r.u),Gc (.int r.k),Gc (.int r.g),Gc (.int r.o),Gc (.int r.n),Gc (.int m),Gc (.int e)],S2):=by
   intro f
   rw[WZ]
   cases h:(r2==0)with
   |true=>rw[h]at ee';rw[kh rfl]at ee' ⊢; rw[ee',Aq]
   |false=>rw[h]at ee';rw[ko (by decide)]at ee' ⊢; rw[ee',Aq]
  have li':((MD.length:Int)+1-1)=(2*xs.length:Nat):=by lia
  simp[miB,d1,d2,e1',e2',c1,c2,dq,hz,hz2,sz4,sz6,zQ]
  simp only[lK,lQ,qC]at hz2
  have li2:(MD.length:Int)=2*(xs.length:Int):=by lia
  exact⟨hz2,by rw[li2]⟩
 .obtain⟨pd,pe,ph⟩:=p2.pen
  exact⟨pd,by rw[kB ne];exact pe,ph⟩
 .rw[kB (λz=>h2 z.symm)]
  exact p2.get (p1.get hn h1) h1
end
end Mi
end
noncomputable section
namespace Mi
open PySem PySem.Spec L2 PyProof.Rows
section
variable{S:Sto}{p q:Nat}{t:Tr}{ls:Wp Ld}{ds:Wp AS}{K:Nat}
theorem ZC{rs:Wp Trd}{f:Ev}{E:En}{x:D}{S1:Sto}(h:TrO rs)(hf:f E S=Gc (x,S1))(hx:KY S1 x=Gc (Bo rs)):eSV false f E S=Gc (.lst ((srt rs).map Trd.d),S1):=by
 have:=h.few
 rw[Kz,hf,Aq]
 dsimp only
 rw[hx,Aq,Nu,Jp,Aq,kh ⟨by simp;lia,PQ h⟩,L9 h]
 rfl
theorem Y2{rs:Wp Trd}(h:TrO rs):(srt rs).length<=10:=by
 have:=Ol (a:=0) (M:=10) (l:=(srt rs).map (·.u)) (by rw[mh];exact RX h) (λx hx=>⟨lX _,by
  obtain⟨r,hr,rfl⟩:=lC.mp hx
  have:=(Kn h).le r hr;lia⟩)
 simpa using this
theorem ZN.ok{x:Mx}(h:ZN x)(r:RK K x.1):fq K x:=by
 have a:=r.n1
 have b:=r.n2
 have c:=r.g1
 have d:=r.g2
 have e:(2:Int)^130+1<=2^131:=by decide
 have e':(2001:Int)<2^131:=by decide
 obtain⟨h1,h2⟩:=h
 refine⟨r,?_,?_,?_,?_⟩
 .rcases h1 with z|z<;>rw[z]<;>lia
 .rcases h1 with z|z<;>rw[z]
  .exact mf b (by decide)
  .exact oq (Int.add_lt_add_right b 1) e
 .rcases h2 with z|z<;>rw[z]<;>lia
 .rcases h2 with z|z<;>rw[z]
  .exact vB d (by decide)
  .exact vB (Int.add_le_add_right d 1) e'
theorem YA{rs:Wp Trd}{n:Nat}{xs:Wp Mx}(hK:1<=K/\K<=5)(h:TrO rs)(hr:∀r∈rs,RK K r)(hx:xs.map (·.1)=(srt rs).take n)(ho:∀x∈xs,ZN x):FW (tM K) [] (mds 0 xs)/\xs.length<=10:=by
 have l10:=Y2 h
 have lx:xs.length<=10:=by
  have:=congrArg rf hx
  rw[kT,oT]at this
  lia
 have mem:∀x∈xs,x.1∈srt rs:=λx z=>List.mem_of_mem_take (by rw[<-hx];exact q9 z)
 refine⟨VM hK (λx z=>(ho x z).ok (hr _ ((FG rs).mem_iff.mp (mem x z)))) ?_ (λx z=>(Kn h).le _ (mem x z)) lx,lx⟩
 have e:(xs.map λx=>x.1.u)=((srt rs).take n).map (·.u):=by rw[<-hx,mO];rfl
 rw[e]
 exact(List.Sublist.map _ (qO _ _)).nodup (Kn h).nd
theorem Xv{R:Wp Trd}{b:lA}:∃n,IY (R.map Trd.d) none (Gc ((R.length:Int)-(if b=true then 1 else 0)))=(R.take n).map Trd.d:=by
 cases R with
 |nil=>cases b<;>exact⟨0,rfl⟩
 |cons r R=>
  refine⟨(r::R).length-(if b=true then 1 else 0),?_⟩
  have e:(((r::R).length:Int)-(if b=true then 1 else 0))=(((r::R).length-(if b=true then 1 else 0):Nat):Int):=by
   cases b<;>simp
  rw[e,II (by rw[kT];lia),ui]
theorem Qi{e1 e2 e3 e5 e6:j6 D}(ne:q≠p):∀{R:Wp Trd} {xs:Wp Mx} {S:Sto} {us:En},us.length=7->CM p S->S[q]?=Gc (.lst ((mds 0 xs).map AS.d))->xs.length+R.length<=100->(∀x∈xs,ZN x)->∃xs' us' S',HN [] (tTp [tNm 7,tNm 8,tNm 9,tNm 10,tNm 11]) miB (R.map Trd.d) ([Gc (.ref p),e1,e2,e3,Gc (.ref q),e5,e6]++us) S=Gc (.nx,[Gc (.ref p),e1,e2,e3,Gc (.ref q),e5,e6]++us',S')/\xs'.map (·.1)=xs.map (·.1)++R/\(∀x∈xs',ZN x)/\S'[q]?=Gc (.lst ((mds 0 xs').map AS.d))/\CM p S'/\∀n c,S[n]?=Gc c->n≠p->n≠q->S'[n]?=Gc c
 | [],xs,S,us,hu,hp,hq,hl,ho=>⟨xs,us,S,by rw[mE,ET Ao],by simp,ho,hq,hp,λ_ _ e _ _=>e⟩
 |r::R,xs,S,us,hu,hp,hq,hl,ho=>by
  obtain⟨u7,u8,u9,u10,u11,u12,u13,rfl⟩:∃a b c d e f g,us=[a,b,c,d,e,f,g]:=by
   match us,hu with
   | [a,b,c,d,e,f,g],_=>exact⟨a,b,c,d,e,f,g,rfl⟩
  simp only[lQ]at hl
  obtain⟨m,e,S1,x1,x2,x3,x4,x5⟩:=ax (r:=r) (e1:=e1) (e2:=e2) (e3:=e3) (e5:=e5) (e6:=e6) (e12:=u12) (e13:=u13) hp hq ne (by lia)
  obtain⟨xs',us',S',y1,y2,y3,y4,y5,y6⟩:=Qi (e1:=e1) (e2:=e2) (e3:=e3) (e5:=e5) (e6:=e6) ne (R:=R) (xs:=xs++[(r,m,e)]) (S:=S1) (us:=[Gc (.int r.u),Gc (.int r.k),Gc (.int r.g),Gc (.int r.o),Gc (.int r.n),Gc (.int m),Gc (.int e)]) rfl x4 x3 (by simp;lia) (λx z=>(kY.mp z).elim (ho x) λz=>by rw[kX.mp z];exact x2)
  refine⟨xs',us',S',?_,by rw[y2];simp,y3,y4,y5,λn c z1 z2 z3=>y6 n c (x5 n c z1 z2 z3) z2 z3⟩
  have tn:tTp [tNm 7,tNm 8,tNm 9,tNm 10,tNm 11] r.d ([Gc (.ref p),e1,e2,e3,Gc (.ref q),e5,e6]++[u7,u8,u9,u10,u11,u12,u13]) S=Gc [Gc (.ref p),e1,e2,e3,Gc (.ref q),e5,e6,Gc (.int r.u),Gc (.int r.k),Gc (.int r.g),Gc (.int r.o),Gc (.int r.n),u12,u13]:=rfl
  rw[kU,B3 Ao,tn,Aq,x1,Aq,J1]
  exact y1
theorem Ki(hp:CM p S)(h:FW t ls ds)(hs:∀d∈ds,Sm d):∃xs S',Bx [.ref p,Al t ls ds] S=Gc (Al (tM t.k) [] (mds 0 xs),S')/\FW (tM t.k) [] (mds 0 xs)/\CM p S'/\∀n c,S[n]?=Gc c->n≠p->S'[n]?=Gc c:=by
 obtain⟨t1,t2,t3,t4,t5,t6⟩:=id h.tr
 have tk:=h.tok
 obtain⟨q1,S1,e1,a1,s1,l1⟩:=F3 (S:=S++[.lst []]) h
 have hp0:CM p (S++[.lst []]):=hp.app _
 have hp1:CM p S1:=by
  obtain⟨pd,pe,ph⟩:=hp0
  exact⟨pd,s1.get pe (by simp),ph⟩
 have hq0:S1[S.length]?=Gc (.lst []):=s1.get kR (by simp)
 have ne:S.length≠p:=by have:=hp.lt;lia
 obtain⟨rd,S2,e2,a2,b2,p2⟩:=Ae hp1 (n:=4) (by decide) (by decide)
 have hq2:S2[S.length]?=Gc (.lst ((mds 0 []).map AS.d)):=p2.get hq0 ne
 have sv:=ZC (S:=S++[.lst []]) (f:=AJ BZ [eV 1]) (E:=[Gc (.ref p),Gc (Al t ls ds),Gc (.int t.k),Gc (tM t.k).d,Gc (.ref S.length),none,none,none,none,none,none,none,none,none]) tk (by simp[e1]) (IJ a1)
 obtain⟨n,cf⟩:=Xv (R:=srt (tdB t ls ds)) (b:=rd==0)
 have l10:=Y2 tk
 obtain⟨xs,us,S3,y1,y2,y3,y4,y5,y6⟩:=Qi (p:=p) (q:=S.length) (e1:=Gc (Al t ls ds)) (e2:=Gc (.int t.k)) (e3:=Gc (tM t.k).d) (e5:=Gc (.lst ((srt (tdB t ls ds)).map Trd.d))) (e6:=Gc (.int (((srt (tdB t ls ds)).length:Int)-(if(rd==0)=true then 1 else 0)))) ne (R:=(srt (tdB t ls ds)).take n) (xs:=[]) (S:=S2) (us:=[none,none,none,none,none,none,none]) rfl p2.pen hq2 (by rw[oT];simp;lia) (λ_ z=>nomatch z)
 rw[mE,kr]at y2
 obtain⟨bk,lx⟩:=YA (K:=t.k) ⟨t3,t4⟩ tk (Yn h hs) y2 y3
 have ln:=M8 (xs:=xs) (n:=0)
 refine⟨xs,S3,?_,bk,y5,λm c e z=>y6 m c (p2.get (s1.get (CC.get (A:=[]) .app e (by simp)) (by simp)) z) z (λw=>by have:=AX e;lia)⟩
 have eb:HD=(AW (A4 2 (eIx (eIx (eV 1) (eI 0)) (eI 1)))
  (AW (A4 3 (Bi [eI 1,eV 2,eI 1,Bi [Bi [eI 1,eI 1]],eI 0,eI 0]))
  (AW (A4 4 (GS []))
  (AW (A4 5 (eSV false (AJ BZ [eV 1])))
  (AW (A4 6 (eOp (o2 NS) [eOp (o1 HC) [eV 5],eOp (o1 Um) [eOp (o2 wEq) [AJ AH [eV 0,eI 4],eI 0]]]))
  (AW (HH (GU (eOp (Hj false true) [eV 5,eV 6])) (tTp [tNm 7,tNm 8,tNm 9,tNm 10,tNm 11]) miB)
  (Bv (Bi [eV 3,Bi [],eOp (o1 Cv) [eOp (Hj false true) [eV 4,eI 20]]])))))))):=rfl
 have ct:IY ((mds 0 xs).map AS.d) none (Gc 20)=(mds 0 xs).map AS.d:=by
  rw[show(20:Int)=((20:Nat):Int)from rfl]
  by_cases hh:20<=((mds 0 xs).map AS.d).length
  .rw[II hh,nP (by rw[kT];lia)]
  .have h20:((mds 0 xs).map AS.d).length<=20:=by rw[kT];lia
   generalize (mds 0 xs).map AS.d=M at*
   unfold IY
   simp[HT.sIx]
   exact nP (by lia)
 have d3:=Aj y4
 have et:(tM t.k).d=.tup [.int 1,.int t.k,.int 1,.tup [.tup [.int 1,.int 1]],.int 0,.int 0]:=by
  unfold Tr.d tM shD
  simp[WW]
 have sz6:(6:Nat)<=sizeLine:=AN (by decide)
 have sz3:(3:Nat)<=sizeLine:=AN (by decide)
 have sz2:(2:Nat)<=sizeLine:=AN (by decide)
 have sz1:(1:Nat)<=sizeLine:=AN (by decide)
 unfold Bx
 rw[eb]
 rw[et]at sv y1
 have eD:Al (tM t.k) [] (mds 0 xs)=.tup [.tup [.int 1,.int t.k,.int 1,.tup [.tup [.int 1,.int 1]],.int 0,.int 0],.tup [],.tup ((mds 0 xs).map AS.d)]:=by
  unfold Al
  rw[et];rfl
 rw[eD]
 simp only[l7,kr]at y1
 generalize (mds 0 xs).map AS.d=MD at*
 generalize ((srt (tdB t ls ds)).take n).map Trd.d=TN at*
 have lm:((srt (tdB t ls ds)).map Trd.d).length=(srt (tdB t ls ds)).length:=kT ..
 generalize (srt (tdB t ls ds)).map Trd.d=TS at*
 simp only[Al,Tr.d]at sv y1⊢
 cases hr:(rd==0)with
 |true=>
  rw[hr,kh rfl]at y1 cf
  simp[Tr.d,-Kz,sv,e2,lm,hr,cf,y1,d3,ct,sz6,sz3,sz2,sz1]
 |false=>
  rw[hr,ko (by decide),Int.sub_zero]at y1 cf
  simp[Tr.d,-Kz,sv,e2,lm,hr,cf,y1,d3,ct,sz6,sz3,sz2,sz1]
end
end Mi
end
noncomputable section
namespace Mi
open PySem PySem.Spec L2 PyProof.Rows
theorem Qe:(D.str "bring").lay=true/\(D.str "pool").lay=true/\(D.str "swap").lay=true/\(D.str "trade").lay=true/\(D.str "spoil").lay=true/\(D.str "throw").lay=true/\(D.str "sell").lay=true:=by decide+kernel
theorem RO{d:AS}:d.d.lay=true:=by
 obtain⟨w1,w2,w3,w4,w5,w6,w7⟩:=Qe
 have hw:∀ws:Wp Int,(D.tup (ws.map D.int)).lay=true:=λws=>GB λ_ _=>rfl
 have ha:∀r:Rat,(aD r).lay=true:=λ_=>rfl
 have hi:∀i:Int,(D.int i).lay=true:=λ_=>rfl
 have ht:∀ds:Wp D,(D.tup ds).lay=D.Ln ds:=λ_=>rfl
 have hc:∀(d:D) (ds:Wp D),D.Ln (d::ds)=(d.lay && D.Ln ds):=λ_ _=>rfl
 have hn:D.Ln []=true:=rfl
 cases d with
 |thr l n ws=>
  have:=hw ws
  generalize hq:D.tup (ws.map D.int)=q at*
  simp only[AS.d,hq,ht,hc,hn,hi,w6,this,yO]
 |_=>simp only[AS.d,ht,hc,hn,hi,ha,w1,w2,w3,w4,w5,w7,yO]
theorem Rv{gs:Gd}{t:Tf}{b:Ex}{I:Wp D->En->Sto->Prop}{R:D->Sto->Prop}(hg:∀ds E S,I ds E S->gOk gs S):∀{ds:Wp D} {E:En} {S:Sto},I ds E S->(∀d ds E S,I (d::ds) E S->∃E1,t d E S=Gc E1/\((∃E2 S2,b E1 S=Gc (.nx,E2,S2)/\I ds E2 S2)\/∃w E2 S2,b E1 S=Gc (.ret w,E2,S2)/\R w S2))->(∃E' S',HN gs t b ds E S=Gc (.nx,E',S')/\I [] E' S')\/∃w E' S',HN gs t b ds E S=Gc (.ret w,E',S')/\R w S'
 | [],E,S,hI,h=>.inl ⟨E,S,ET (hg _ _ _ hI),hI⟩
 |d::ds,E,S,hI,h=>by
  obtain⟨E1,e1,⟨E2,S2,e2,I2⟩|⟨w,E2,S2,e2,r⟩⟩:=h d ds E S hI
  .rcases Rv hg I2 h with⟨E',S',e3,I3⟩|⟨w,E',S',e3,r⟩
   .exact .inl ⟨E',S',by rw[B3 (hg _ _ _ hI),e1];simp[e2,e3],I3⟩
   .exact .inr ⟨w,E',S',by rw[B3 (hg _ _ _ hI),e1];simp[e2,e3],r⟩
  .exact .inr ⟨w,E2,S2,by rw[B3 (hg _ _ _ hI),e1];simp[e2],r⟩
noncomputable def Ii:AS->lA
 | .B1 .. =>true
 |_=>false
section
variable{S:Sto}{t:Tr}{ls:Wp Ld}{ds:Wp AS}{p:Nat}
theorem QB{E:En}{d:AS}(h:E=[Gc (.str "trade"),Gc d.d]):eOp (o2 wEq) [eIx (eV 1) (eI 0),eV 0] E S=Gc (.bl (Ii d),S):=by
 subst h
 cases d<;>simp[AS.d,Ii]
theorem jD(hl:ds.length<=50):CV [] (tNm 1) (eOp (o2 wEq) [eIx (eV 1) (eI 0),eV 0]) (eV 1) (ds.map AS.d) [] [Gc (.str "trade"),none] S=Gc ((ds.filter Ii).map AS.d,S):=
 DQ (gs:=[]) (t:=tNm 1) (c:=eOp (o2 wEq) [eIx (eV 1) (eI 0),eV 0]) (f:=eV 1) (C:=[Gc (.str "trade")]) (m:=1) (e:=AS.d) (g:=AS.d) (b:=Ii) (S:=S) Ao (xs:=ds) (acc:=[]) (os:=[none]) rfl (kF (show _<=50 by simp;lia) (AN (by decide))) (by
  intro z hz os ho
  obtain⟨q1,rfl⟩:=P7 ho
  exact⟨[Gc z.d],rfl,by simp,QB rfl,by simp⟩)
theorem Oh{xs:Wp D}(h:D.Ln xs=true):wNe (.val (.lst xs)) (.val (.lst []))=Gc (.val (.bl (!xs.isEmpty))):=by
 rw[Iv,Wq,Wq,kh (PV h)]
 cases xs<;>rfl
def Bk(p:Nat)(S:Sto)(t:Tr)(ls:Wp Ld)(ds:Wp AS)(S':Sto):Prop:=(JW t ls ds/\ds.length<=12/\∀d∈ds,Sm d)/\CM p S'/\∀n c,S[n]?=Gc c->n≠p->S'[n]?=Gc c
theorem Zs(h:CM p S):∃t ls ds S',Cq [.ref p,.int 12] S=Gc (Al t ls ds,S')/\Bk p S t ls ds S':=by
 obtain⟨t,ls,ds,S',a,b,_,c⟩:=U9 (M:=12) (by decide) h
 exact⟨t,ls,ds,S',a,b,c⟩
theorem QC(h:CM p S):∃t ls ds S',Cs [.ref p,.int 12,.str "trade"] S=Gc (Al t ls ds,S')/\Bk p S t ls ds S':=by
 obtain⟨t0,ls0,ds0,S0,e0,b0⟩:=Zs h
 have r5:HG 5=true:=Dc (by lia) (by lia)
 have hb:IP=AW (A4 3 (AJ Cq [eV 0,eV 1]))
  (AW (HH (Lx [eI 5]) (tNm 4) (AW (xIf (eOp (o2 wNe) [Dx [2] 1 (GU (eIx (eV 3) (eI 2))) (tNm 1) (eOp (o2 wEq) [eIx (eV 1) (eI 0),eV 0]) (eV 1),HI []]) (Bv (eV 3)) Cw)
  (A4 3 (AJ Cq [eV 0,eV 1]))))
  (Bv (eV 3))):=rfl
 rcases Rv (gs:=[]) (t:=tNm 4) (b:=AW (xIf (eOp (o2 wNe) [Dx [2] 1 (GU (eIx (eV 3) (eI 2))) (tNm 1) (eOp (o2 wEq) [eIx (eV 1) (eI 0),eV 0]) (eV 1),HI []]) (Bv (eV 3)) Cw)
  (A4 3 (AJ Cq [eV 0,eV 1])))
  (I:=λrs E S'=>∃t ls ds o,E=[Gc (.ref p),Gc (.int 12),Gc (.str "trade"),Gc (Al t ls ds),o]/\Bk p S t ls ds S')
  (R:=λw S'=>∃t ls ds,w=Al t ls ds/\Bk p S t ls ds S')
  (fun _ _ _ _ => Ao) (ds := J6 0 (5 : Int).toNat) (E := [Gc (.ref p), Gc (.int 12), Gc (.str "trade"), Gc (Al t0 ls0 ds0), none]) (S := S0) ⟨t0, ls0, ds0, none, rfl, b0⟩ (by
    rintro dd rs E T ⟨t,ls,ds,o,rfl,i1,i2,i3⟩
    have c:=jD (S:=T) (ds:=ds) (by lia)
    have nn:=Oh (xs:=(ds.filter Ii).map AS.d) (GB λ_ _=>RO)
    refine⟨[Gc (.ref p),Gc (.int 12),Gc (.str "trade"),Gc (Al t ls ds),Gc dd],by simp,?_⟩
    generalize (ds.filter Ii).map AS.d=Z at*
    cases hz:Z.isEmpty with
    |true=>
     left
     obtain⟨t1,ls1,ds1,S1,e1,b1,p1,k1⟩:=Zs i2
     refine⟨[Gc (.ref p),Gc (.int 12),Gc (.str "trade"),Gc (Al t1 ls1 ds1),Gc dd],S1,?_,t1,ls1,ds1,Gc dd,rfl,b1,p1,λn c e ne=>k1 n c (i3 n c e ne) ne⟩
     rw[hz]at nn
     simp[Al,Qt,c,-Iv,nn,e1]
    |false=>
     right
     refine⟨Al t ls ds,[Gc (.ref p),Gc (.int 12),Gc (.str "trade"),Gc (Al t ls ds),Gc dd],T,?_,t,ls,ds,rfl,i1,i2,i3⟩
     rw[hz]at nn
     simp[Al,Qt,c,-Iv,nn])with⟨E',S',ef,t,ls,ds,o,rfl,i⟩|⟨w,E',S',ef,t,ls,ds,rfl,i⟩
 .refine⟨t,ls,ds,S',?_,i⟩
  unfold Cs
  rw[hb]
  simp[e0,r5]at ef⊢
  simp[ef]
 .refine⟨t,ls,ds,S',?_,i⟩
  unfold Cs
  rw[hb]
  simp[e0,r5]at ef⊢
  simp[ef]
end
structure Wk(S0:Sto)(p s l m:Nat)(as:Wp Nat)(st:Stt)(S:Sto):Prop where
 pen:CM p S
 sat:SAt S s l m as st
 np:p∉s::l::m::as
 new:∀n∈s::l::m::as,S0.length<=n
 kept:∀n c,S0[n]?=Gc c->n≠p->S[n]?=Gc c
section
variable{S0 S S':Sto}{t:Tr}{ls:Wp Ld}{ds:Wp AS}{p s l m k:Nat}{as:Wp Nat}{st:Stt}{d:AS}
theorem Wk.pn(h:Wk S0 p s l m as st S)(g:Pn p S S'):Wk S0 p s l m as st S':=
 ⟨g.pen,h.sat.same g.same (by simpa using h.np),h.np,h.new,λn c e ne=>g.get (h.kept n c e ne) ne⟩
theorem Wk.fO(h:Wk S0 p s l m as st S)(ht:Ia t)(i:FC t k st)(hk:k<=16)(hc:Can t st d):∃S' as',A3 [t.d,.ref s,d.d] S=Gc (.non,S')/\Wk S0 p s l m as' (step t st d) S':=by
 obtain⟨S',as',k1,k2,k3,k4⟩:=ZG h.sat ht i hk hc
 have lS:S0.length<=S.length:=mN (mL (h.new s kJ) (AX h.sat.root))
 have mem:∀n∈s::l::m::as',n∈s::l::m::as\/S.length<=n:=by
  intro n hn
  simp only[kG]at hn⊢
  rcases hn with z|z|z|z
  .exact .inl (.inl z)
  .exact .inl (.inr (.inl z))
  .exact .inl (.inr (.inr (.inl z)))
  .exact(k4 n z).imp (λw=>.inr (.inr (.inr w))) id
 refine⟨S',as',k1,?_,k2,λz=>?_,λn z=>?_,λn c e ne=>k3.get (h.kept n c e ne) λz=>?_⟩
 .obtain⟨pd,pe,ph⟩:=h.pen
  exact⟨pd,k3.get pe h.np,ph⟩
 .rcases mem _ z with w|w
  .exact h.np w
  .have:=h.pen.lt;lia
 .rcases mem _ z with w|w
  .exact h.new n w
  .exact kF lS w
 .have:=h.new n z
  have:=AX e
  lia
theorem XF{x0 x1 x3 x4:j6 D}{os:En}(ht:Ia t):∀{ds:Wp AS} {st:Stt} {k:Nat} {as:Wp Nat} {S:Sto} {o:j6 D},Wk S0 p s l m as st S->FC t k st->Gs t st ds->k+ds.length<=16->∃o' as' S',HN [] (tNm 6) (By (AJ A3 [eV 2,eV 5,eV 6])) (ds.map AS.d) ([x0,x1,Gc t.d,x3,x4,Gc (.ref s),o]++os) S=Gc (.nx,[x0,x1,Gc t.d,x3,x4,Gc (.ref s),o']++os,S')/\Wk S0 p s l m as' (runs t st ds) S'
 | [],st,k,as,S,o,w,i,g,h=>⟨o,as,S,by rw[mE,ET Ao],w⟩
 |d::ds,st,k,as,S,o,w,i,g,h=>by
  simp only[lQ]at h
  obtain⟨S1,as1,e1,w1⟩:=w.fO ht i (by lia) g.1
  obtain⟨o',as',S',e2,w2⟩:=XF (x0:=x0) (x1:=x1) (x3:=x3) (x4:=x4) (os:=os) ht (ds:=ds) (o:=Gc d.d) w1 (Oz ht i (by lia) g.1) g.2 (by lia)
  refine⟨o',as',S',?_,w2⟩
  rw[kU,B3 Ao]
  simp[e1]at e2⊢
  exact e2
end
end Mi
end
noncomputable section
namespace Mi
open PySem PySem.Spec L2 PyProof.Rows
section
variable{S0 S S':Sto}{t:Tr}{ls:Wp Ld}{ds:Wp AS}{p s l m k:Nat}{as:Wp Nat}{st:Stt}{d:AS}
noncomputable def EM(st:Stt):Wp Nat:=(kq 6).filter λi=> !(st.nums.any λu=>u==(i:Int))
theorem U4(hS:SAt S s l m as st):CV [] (tNm 1) (eOp (o2 (wIn true)) [eV 1,eIx (eV 0) (eI 2)]) (eV 1) (J6 0 6) [] [Gc (.ref s),none] S=Gc (BX (EM st),S):=by
 exact DQ (gs:=[]) (t:=tNm 1) (f:=eV 1) (C:=[Gc (.ref s)]) (m:=1) (e:=λi:Nat=>D.int (0+(i:Int))) (g:=λi:Nat=>D.int i) (b:=λi=> !(st.nums.any λu=>u==(i:Int))) (S:=S) Ao (xs:=kq 6) (acc:=[]) (os:=[none]) rfl (kF (show _<=50 by simp) (AN (by decide))) (by
  intro i hi os ho
  obtain⟨o1,rfl⟩:=P7 ho
  refine⟨[Gc (.int i)],rfl,by simp,?_,by simp⟩
  have ro:=Aj hS.root
  have nu:=Aj hS.nu
  have fi:=Kq (us:=st.nums)
  have ii:=MG (us:=st.nums) (i:=(i:Int))
  generalize st.nums.map D.int=ud at*
  generalize (st.nums.any λu=>u==(i:Int))=bb at*
  simp[ro,nu,fi,ii])
theorem Qy{i:Nat}(h:i∈EM st):(i:Int)∉st.nums/\i<=9:=by
 unfold EM at h
 rw[nG]at h
 have h1:=pJ.mp h.1
 refine⟨?_,by lia⟩
 intro z
 have h2:=h.2
 have:(st.nums.any λu=>u==(i:Int))=true:=nW.mpr ⟨_,z,by simp⟩
 rw[this]at h2
 cases h2
theorem Sq:(EM st).length<=6:=by
 unfold EM
 exact kF (ny _ _) (by simp)
def trT:Ex:=(AW (A4 10 (eIx (eV 9) (AJ AH [eV 0,eOp (o1 HC) [eV 9]])))
    (AW (A4 11 (eOp (o2 OG) [eOp (o2 CO) [eOp (o2 CO) [eIx (eIx (eIx (eV 5) (eI 0)) (eV 10)) (eI 0),eI 1],AJ AH [eV 0,eOp (o2 NS) [eIx (eV 2) (eI 1),eI 1]]],eIx (eV 2) (eI 1)]))
    (AW (A4 12 (eIx (eV 8) (AJ AH [eV 0,eOp (o1 HC) [eV 8]])))
    (AW (A4 13 (eOp (o2 CO) [eI 1,AJ AH [eV 0,eOp (o2 Wd) [eI 4,eIx (eIx (eIx (eV 5) (eI 0)) (eV 10)) (eI 1)]]]))
    (A4 6 (Bi [eC (.str "trade"),eV 12,eV 10,eV 13,eV 11,eOp (o2 CO) [eI 1,AJ AH [eV 0,eI 4]]]))))))
def trB:Ex:=(AW (A4 8 (Dx [5] 1 (Lx [eI 6]) (tNm 1) (eOp (o2 (wIn true)) [eV 1,eIx (eV 0) (eI 2)]) (eV 1)))
    (AW (A4 9 (Dx [] 2 (Xo (eIx (eV 5) (eI 0))) (tTp [tNm 0,tNm 1]) (eOp (o2 wGt) [eIx (eV 1) (eI 1),eI 0]) (eV 0)))
    (AW (A4 6 (Bi [eC (.str "bring"),eI 0,AJ AH [eV 0,eIx (eV 2) (eI 1)],eOp (o2 CO) [eI 5,AJ AH [eV 0,eI 9]]]))
    (AW (xIf (Ja (eOp (o2 wNe) [eV 9,HI []]) (eOp (o2 wNe) [eV 8,HI []])) trT Cw)
    (AW (By (AJ A3 [eV 2,eV 5,eV 6]))
    (A4 4 (eOp (o2 CO) [eV 4,Bi [eV 6]])))))))
theorem aM{x1 x3 x4 x6 x7 x10 x11 x12 x13:j6 D}(w:Wk S0 p s l m as st S)(ht:Ia t)(h2:2<=t.k)(inv:FC t k st)(hk:k<=16)(hf:(Ay st).isEmpty=false)(hl:(EM st).isEmpty=false):∃d y10 y11 y12 y13 S',trT [Gc (.ref p),x1,Gc t.d,x3,x4,Gc (.ref s),x6,x7,Gc (.lst (BX (EM st))),Gc (.lst (BX (Ay st))),x10,x11,x12,x13] S=Gc (.nx,[Gc (.ref p),x1,Gc t.d,x3,x4,Gc (.ref s),Gc (AS.d d),x7,Gc (.lst (BX (EM st))),Gc (.lst (BX (Ay st))),y10,y11,y12,y13],S')/\Can t st d/\Sm d/\Wk S0 p s l m as st S':=by
 obtain⟨t1,t2,t3,t4,t5,t6⟩:=ht
 have hlen:=inv.len
 have fl:=Jt (st:=st)
 have ll:=Sq (st:=st)
 have nf:=Fj (is:=Ay st)
 have nl:=Fj (is:=EM st)
 have hfl:0<(Ay st).length:=by
  cases z:Ay st with
  |nil=>rw[z]at hf;cases hf
  |cons a b=>simp
 have hll:0<(EM st).length:=by
  cases z:EM st with
  |nil=>rw[z]at hl;cases hl
  |cons a b=>simp
 obtain⟨r1,S1,e1,a1,b1,p1⟩:=Ae w.pen (n:=(Ay st).length) (by lia) (by lia)
 have w1:=w.pn p1
 obtain⟨i,mi,ei⟩:=Gn a1 b1
 have fi:=Hm mi
 have n1:=fi.2
 obtain⟨a,y1,y2,y3⟩:=w1.sat.at fi.1
 obtain⟨r2,S2,e2,a2,b2,p2⟩:=Ae w1.pen (n:=(t.k:Int)-1) (by lia) (by lia)
 have w2:=w1.pn p2
 obtain⟨r3,S3,e3,a3,b3,p3⟩:=Ae w2.pen (n:=(EM st).length) (by lia) (by lia)
 have w3:=w2.pn p3
 obtain⟨u,mu,eu⟩:=Gn a3 b3
 have fu:=Qy mu
 obtain⟨r4,S4,e4,a4,b4,p4⟩:=Ae w3.pen (n:=if(AO st.AF i).n<4 then(AO st.AF i).n else 4) (by split<;>lia) (by split<;>lia)
 have w4:=w3.pn p4
 obtain⟨r5,S5,e5,a5,b5,p5⟩:=Ae w4.pen (n:=4) (by lia) (by lia)
 have w5:=w4.pn p5
 have kd:=inv.kind _ (BI fi.1)
 have hmod:=Ob (x:=((AO st.AF i).k:Int)+1+r2) (K:=t.k) (by lia) (by lia)
 obtain⟨kd2,ekd⟩:∃q:Nat,((AO st.AF i).k+1+r2) % (t.k:Int)=(q:Int):=⟨_,(lP (nM _ (by lia))).symm⟩
 have hkd:kd2<t.k/\kd2≠(AO st.AF i).k:=by
  rw[ekd]at hmod
  split at hmod<;>lia
 have kp:0<t.k:=by lia
 have g4:1+r4<=4/\1+r4<=(AO st.AF i).n:=by split at b4<;>lia
 have big:(1:Int)+r5<2^130:=mf (show 1+r5<5 by lia) (by decide)
 refine⟨.B1 u i (1+r4) kd2 (1+r5),Gc (.int i),Gc (.int kd2),Gc (.int u),Gc (.int (1+r4)),S5,?_,⟨fi.1,by lia,g4.2,hkd.1,hkd.2,by lia,mf big (by decide),fu.1,by lia,by lia⟩,⟨by lia,big⟩,w5⟩
 have ro1:=Aj w1.sat.root
 have lo1:=Aj w1.sat.lo
 have la1:=Aj y2
 obtain⟨a',z1,z2,z3⟩:=w3.sat.at fi.1
 obtain rfl:a'=a:=by rw[y1]at z1;injection z1 with z1;exact z1.symm
 have sz6:(6:Nat)<=sizeLine:=AN (by decide)
 have ro3:=Aj w3.sat.root
 have lo3:=Aj w3.sat.lo
 have la3:=Aj z2
 generalize BX (Ay st)=NF at*
 generalize BX (EM st)=NL at*
 simp[trT,Tr.d,nf,e1,ei,ro1,lo1,y3,la1,e2,kp,ekd,nl,e3,eu,ro3,lo3,z3,la3,e4,e5,sz6,AS.d]
theorem WB{x1:j6 D}{os:En}(w:Wk S0 p s l m as st S)(ht:Ia t):∃d S',Bi [eC (.str "bring"),eI 0,AJ AH [eV 0,eIx (eV 2) (eI 1)],eOp (o2 CO) [eI 5,AJ AH [eV 0,eI 9]]] (Gc (.ref p)::x1::Gc t.d::os) S=Gc (AS.d d,S')/\Can t st d/\Sm d/\Wk S0 p s l m as st S':=by
 obtain⟨t1,t2,t3,t4,t5,t6⟩:=ht
 obtain⟨r1,S1,e1,a1,b1,p1⟩:=Ae w.pen (n:=t.k) (by lia) (by lia)
 obtain⟨r2,S2,e2,a2,b2,p2⟩:=Ae p1.pen (n:=9) (by lia) (by lia)
 obtain⟨r1,rfl⟩:=Eo a1
 have sz4:(4:Nat)<=sizeLine:=AN (by decide)
 refine⟨.Dd 0 r1 (5+r2),S2,?_,⟨by lia,by lia,by lia,mf (show 5+r2<15 by lia) (by decide)⟩,trivial,(w.pn p1).pn p2⟩
 simp[Tr.d,e1,e2,sz4,AS.d]
theorem Z1{x1 x3:j6 D}{DS:Wp D}{o6 o7 o8 o9 o10 o11 o12 o13:j6 D}(w:Wk S0 p s l m as st S)(ht:Ia t)(h2:2<=t.k)(inv:FC t k st)(hk:k<=16)(hD:DS.length<=30):∃d us S' as',trB [Gc (.ref p),x1,Gc t.d,x3,Gc (.tup DS),Gc (.ref s),o6,o7,o8,o9,o10,o11,o12,o13] S=Gc (.nx,[Gc (.ref p),x1,Gc t.d,x3,Gc (.tup (DS++[AS.d d])),Gc (.ref s)]++us,S')/\us.length=8/\Can t st d/\Sm d/\Wk S0 p s l m as' (step t st d) S':=by
 have hlen:=inv.len
 have cl:=U4 w.sat
 have cf:=So w.sat (by lia)
 have ro:=Aj w.sat.root
 have r0:=EG w.sat.lo
 have r6:HG 6=true:=Dc (by decide) (by decide)
 have szD:DS.length+1<=sizeLine:=kF (show _<=50 by lia) (AN (by decide))
 have sz1:(1:Nat)<=sizeLine:=AN (by decide)
 obtain⟨d1,S1,e1,c1,m1,w1⟩:=WB (x1:=x1) (os:=[x3,Gc (.tup DS),Gc (.ref s),o6,o7,Gc (.lst (BX (EM st))),Gc (.lst (BX (Ay st))),o10,o11,o12,o13]) w ht
 have nL:=Oh (xs:=BX (EM st)) (GB λ_ _=>rfl)
 have nF:=Oh (xs:=BX (Ay st)) (GB λ_ _=>rfl)
 have iL:(BX (EM st)).isEmpty=(EM st).isEmpty:=by simp[BX]
 have iF:(BX (Ay st)).isEmpty=(Ay st).isEmpty:=by simp[BX]
 rw[iL]at nL
 rw[iF]at nF
 by_cases hb:(Ay st).isEmpty=false/\(EM st).isEmpty=false
 .obtain⟨d,y10,y11,y12,y13,S2,e2,c2,m2,w2⟩:=aM (x1:=x1) (x3:=x3) (x4:=Gc (.tup DS)) (x6:=Gc d1.d) (x7:=o7) (x10:=o10) (x11:=o11) (x12:=o12) (x13:=o13) w1 ht h2 inv hk hb.1 hb.2
  obtain⟨S3,as3,e3,w3⟩:=w2.fO ht inv hk c2
  refine⟨d,[Gc d.d,o7,Gc (.lst (BX (EM st))),Gc (.lst (BX (Ay st))),y10,y11,y12,y13],S3,as3,?_,rfl,c2,m2,w3⟩
  rw[hb.1]at nF
  rw[hb.2]at nL
  generalize BX (Ay st)=NF at*
  generalize BX (EM st)=NL at*
  generalize d.d=dd at*
  generalize t.d=td at*
  simp[trB,Qt,ro,r0,r6,cl,cf,-Pp,e1,-Iv,nF,nL,e2,e3]
  simp[szD,sz1]
 .obtain⟨S3,as3,e3,w3⟩:=w1.fO ht inv hk c1
  refine⟨d1,[Gc d1.d,o7,Gc (.lst (BX (EM st))),Gc (.lst (BX (Ay st))),o10,o11,o12,o13],S3,as3,?_,rfl,c1,m1,w3⟩
  have na:∀(E:En) (T:Sto),Ja (eOp (o2 wNe) [eV 9,HI []]) (eOp (o2 wNe) [eV 8,HI []]) [Gc (.ref p),x1,Gc t.d,x3,Gc (.tup DS),Gc (.ref s),Gc d1.d,o7,Gc (.lst (BX (EM st))),Gc (.lst (BX (Ay st))),o10,o11,o12,o13] T=Gc (.bl false,T):=by
   intro E T
   cases zF:(Ay st).isEmpty with
   |true=>
    rw[zF]at nF
    simp[-Iv,nF]
   |false=>
    have zL:(EM st).isEmpty=true:=by
     cases z:(EM st).isEmpty with
     |true=>rfl
     |false=>exact absurd ⟨zF,z⟩ hb
    rw[zF]at nF
    rw[zL]at nL
    simp[-Iv,nF,nL]
  have na:=na []
  clear nF nL iL iF hb
  generalize BX (Ay st)=NF at*
  generalize BX (EM st)=NL at*
  generalize d1.d=dd at*
  generalize t.d=td at*
  simp[trB,Qt,ro,r0,r6,cl,cf,-Pp,e1,-VJ,na,e3]
  simp[szD,sz1]
end
end Mi
end
noncomputable section
namespace Mi
open PySem PySem.Spec L2 PyProof.Rows
section
variable{S0 S S':Sto}{t:Tr}{ls:Wp Ld}{ds:Wp AS}{p s l m k:Nat}{as:Wp Nat}{st:Stt}{d:AS}
theorem R8{x1 x3:j6 D}(ht:Ia t)(h2:2<=t.k)(i0:FC t 0 (st0 t ls)):∀{rs:Wp D} {ds:Wp AS} {as:Wp Nat} {S:Sto} {us:En},us.length=8->Wk S0 p s l m as (runs t (st0 t ls) ds) S->Gs t (st0 t ls) ds->(∀d∈ds,Sm d)->ds.length+rs.length<=16->∃ds' us' as' S',HN [] (tNm 7) trB rs ([Gc (.ref p),x1,Gc t.d,x3,Gc (.tup (ds.map AS.d)),Gc (.ref s)]++us) S=Gc (.nx,[Gc (.ref p),x1,Gc t.d,x3,Gc (.tup (ds'.map AS.d)),Gc (.ref s)]++us',S')/\us'.length=8/\Wk S0 p s l m as' (runs t (st0 t ls) ds') S'/\Gs t (st0 t ls) ds'/\(∀d∈ds',Sm d)/\ds'.length<=16
 | [],ds,as,S,us,hu,w,g,hm,hl=>⟨ds,us,as,S,by rw[ET Ao],hu,w,g,hm,by simpa using hl⟩
 |r::rs,ds,as,S,us,hu,w,g,hm,hl=>by
  obtain⟨u6,u7,u8,u9,u10,u11,u12,u13,rfl⟩:∃a b c d e f g h,us=[a,b,c,d,e,f,g,h]:=by
   match us,hu with
   | [a,b,c,d,e,f,g,h],_=>exact⟨a,b,c,d,e,f,g,h,rfl⟩
  simp only[lQ]at hl
  have inv:=J0 ht i0 g (by lia)
  rw[rC]at inv
  obtain⟨d,us1,S1,as1,e1,l1,c1,m1,w1⟩:=Z1 (x1:=x1) (x3:=x3) (DS:=ds.map AS.d) (o6:=u6) (o7:=Gc r) (o8:=u8) (o9:=u9) (o10:=u10) (o11:=u11) (o12:=u12) (o13:=u13) w ht h2 inv (by lia) (by rw[kT];lia)
  have ed:ds.map AS.d++[d.d]=(ds++[d]).map AS.d:=by simp
  rw[ed]at e1
  rw[<-K6]at w1
  obtain⟨ds',us',as',S',e2,r2⟩:=R8 (x1:=x1) (x3:=x3) ht h2 i0 (rs:=rs) (ds:=ds++[d]) (us:=us1) l1 w1 (Ig g c1) (λx hx=>(kY.mp hx).elim (hm x) λz=>by rw[kX.mp z];exact m1) (by simp;lia)
  refine⟨ds',us',as',S',?_,r2⟩
  have tn:tNm 7 r ([Gc (.ref p),x1,Gc t.d,x3,Gc (.tup (ds.map AS.d)),Gc (.ref s)]++[u6,u7,u8,u9,u10,u11,u12,u13]) S=Gc [Gc (.ref p),x1,Gc t.d,x3,Gc (.tup (ds.map AS.d)),Gc (.ref s),u6,Gc r,u8,u9,u10,u11,u12,u13]:=rfl
  rw[B3 Ao,tn,Aq,e1,Aq,J1]
  exact e2
def trR:Ex:=(AW (A4 5 (AJ Cn [Bi [eV 2,eV 3,Bi []]]))
    (AW (HH (GU (eV 4)) (tNm 6) (By (AJ A3 [eV 2,eV 5,eV 6])))
    (AW (HH (Lx [AJ AH [eV 0,eI 5]]) (tNm 7) trB)
    (Bv (Bi [eV 2,eV 3,eV 4])))))
def Tg(p:Nat)(S:Sto)(t:Tr)(ls:Wp Ld)(ds:Wp AS)(S':Sto):Prop:=(JW t ls ds/\∀d∈ds,Sm d)/\CM p S'/\∀n c,S[n]?=Gc c->n≠p->S'[n]?=Gc c
theorem WN{x1:j6 D}(hp:CM p S)(h:JW t ls ds)(h2:2<=t.k)(hl:ds.length<=12)(hm:∀d∈ds,Sm d):∃ds' E' S',trR [Gc (.ref p),x1,Gc t.d,Gc (.tup (ls.map Ld.d)),Gc (.tup (ds.map AS.d)),none,none,none,none,none,none,none,none,none] S=Gc (.ret (Al t ls ds'),E',S')/\Tg p S t ls ds' S':=by
 have few:=h.inv.len
 obtain⟨s,l,m,as,S1,e1,a1,s1,n1⟩:=MQ (S:=S) (t:=t) (ls:=ls) (x:=.tup []) (by simpa[st0]using kF few (by decide))
 have w1:Wk S p s l m as (st0 t ls) S1:=by
  refine⟨?_,a1,λz=>by have:=n1 p z;have:=hp.lt;lia,n1,λn c e _=>s1.get e (by simp)⟩
  obtain⟨pd,pe,ph⟩:=hp
  exact⟨pd,s1.get pe (by simp),ph⟩
 obtain⟨o6,as2,S2,e2,w2⟩:=XF (x0:=Gc (.ref p)) (x1:=x1) (x3:=Gc (.tup (ls.map Ld.d))) (x4:=Gc (.tup (ds.map AS.d))) (os:=[none,none,none,none,none,none,none]) (o:=none) h.tr w1 h.inv h.good (by lia)
 obtain⟨r,S3,e3,a3,b3,p3⟩:=Ae w2.pen (n:=5) (by decide) (by decide)
 obtain⟨r,rfl⟩:=Eo a3
 have rk:HG (r:Int)=true:=Dc (by lia) (by lia)
 obtain⟨ds',us,as',S4,e4,_,w4,g4,m4,l4⟩:=R8 (x1:=x1) (x3:=Gc (.tup (ls.map Ld.d))) h.tr h2 h.inv (rs:=J6 0 r) (us:=[o6,none,none,none,none,none,none,none]) rfl (w2.pn p3) h.good hm (by rw[GA];lia)
 have sz3:(3:Nat)<=sizeLine:=AN (by decide)
 refine⟨ds',[Gc (.ref p),x1,Gc t.d,Gc (.tup (ls.map Ld.d)),Gc (.tup (ds'.map AS.d)),Gc (.ref s)]++us,S4,?_,⟨⟨h.tr,h.inv,g4,l4⟩,m4⟩,w4.pen,w4.kept⟩
 simp only[l7,kr]at e2 e4
 unfold Al
 generalize ds'.map AS.d=DN at*
 generalize ds.map AS.d=DO at*
 generalize ls.map Ld.d=LL at*
 generalize t.d=td at*
 simp[trR,e1,e2,e3,rk,e4,sz3]
theorem X4(h:FC t 0 (st0 t ls)):FC {t with k:=2} 0 (st0 {t with k:=2} []):=by
 obtain⟨G,B,a,b,c,_,e⟩:=h.gb
 exact⟨lX _,(λ_ z=>nomatch z),(λ_ z=>nomatch z),(λ_ z=>nomatch z),h.hold,lX _,G,B,a,b,c,(λ_ z=>nomatch z),e⟩
theorem Lw(hp:CM p S):∃t ls ds S',Bu [.ref p] S=Gc (Al t ls ds,S')/\Tg p S t ls ds S':=by
 obtain⟨t,ls,ds,S1,e1,⟨b1,l1,m1⟩,p1,k1⟩:=QC hp
 have eb:Hn=(AW (A4 1 (AJ Cs [eV 0,eI 12,eC (.str "trade")]))
  (AW (NT (tTp [tNm 2,tNm 3,tNm 4]) (eV 1))
  (AW (xIf (eOp (o2 wEq) [eIx (eV 2) (eI 1),eI 1]) (AW (A4 2 (eOp (o2 CO) [Bi [eIx (eV 2) (eI 0),eI 2],eOp (Hj true false) [eV 2,eI 2]]))
  (NT (tTp [tNm 3,tNm 4]) (Bi [Bi [],Bi []]))) Cw) trR))):=rfl
 obtain⟨t1,t2,t3,t4,t5,t6⟩:=b1.tr
 have sz2:(2:Nat)<=sizeLine:=AN (by decide)
 have sz6:(6:Nat)<=sizeLine:=AN (by decide)
 by_cases hk:t.k=1
 .obtain⟨ds',E',S',e2,g,p2,k2⟩:=WN (p:=p) (S:=S1) (t:={t with k:=2}) (ls:=[]) (ds:=[]) (x1:=Gc (Al t ls ds)) p1 ⟨⟨t1,t2,by show 1<=2;lia,by show 2<=5;lia,t5,t6⟩,X4 b1.inv,trivial,by simp⟩ (by show 2<=2;lia) (by simp) (λ_ z=>nomatch z)
  refine⟨{t with k:=2},[],ds',S',?_,g,p2,λn c e z=>k2 n c (k1 n c e z) z⟩
  unfold Bu
  rw[eb]
  have hk':(t.k:Int)=1:=by rw[hk];rfl
  have c2:∀a b c d e f:D,IY [a,b,c,d,e,f] (Gc 2) none=[c,d,e,f]:=λ_ _ _ _ _ _=>rfl
  generalize Al {t with k:=2} [] ds'=R at*
  simp[Al,Tr.d,hk']at e1 e2
  simp[Al,e1,Tr.d,hk',c2,e2,sz2,sz6]
 .obtain⟨ds',E',S',e2,g,p2,k2⟩:=WN (p:=p) (S:=S1) (x1:=Gc (Al t ls ds)) p1 b1 (by lia) l1 m1
  refine⟨t,ls,ds',S',?_,g,p2,λn c e z=>k2 n c (k1 n c e z) z⟩
  unfold Bu
  rw[eb]
  have hk':((t.k:Int)==1)=false:=by simp;lia
  generalize Al t ls ds'=R at*
  simp[Al,Tr.d]at e1 e2
  simp[Al,e1,Tr.d,hk',e2]
end
end Mi
end
noncomputable section
namespace Mi
open PySem PySem.Spec L2 PyProof.Rows
section
variable{S:Sto}{t t':Tr}{ls ls':Wp Ld}{ds ds':Wp AS}{p q:Nat}
theorem ON{rs:Wp Trd}:(D.lst (rs.map Trd.d)).lay=true/\(D.lst (rs.map Trd.d)).py.depth<=60:=by
 refine⟨GB λ_ _=>rfl,kF (fm (n:=3) ?_) (by decide)⟩
 intro d hd
 obtain⟨r,_,rfl⟩:=lC.mp hd
 exact YL (n:=2) (by
  intro d hd
  simp at hd
  rcases hd with rfl|rfl|rfl|rfl|rfl<;>exact YD)
theorem Xe{rs:Wp Trd}:Dj (.lst (rs.map Trd.d)) (.lst (rs.map Trd.d))=true/\deq (.lst (rs.map Trd.d)) (.lst (rs.map Trd.d))=true:=⟨OD ON.1 ON.2,Oy ON.1⟩
def fcX(a b c d:Nat):Ex:=(xIf (eOp (o2 wNe) [AJ Bj [eV a,eV b],eIx (eOp (o2 CO) [AJ Bd [eV c,eV d],HI [eC .non]]) (eI 0)]) (Bv (eC (.bl false))) Cw)
theorem W6{E:En}{a b c d:Nat}{x y:D}(ha:at? E a=Gc (Al t ls ds))(hb:at? E b=Gc (Al t' ls' ds'))(hc:at? E c=Gc x)(hd:at? E d=Gc y)(h:FW t ls ds)(h':FW t' ls' ds')(hx:∀{T:Sto},CC [] S T->KY T x=Gc (Bo (tdB t ls ds)))(hy:∀{T:Sto},CC [] S T->KY T y=Gc (Bo (tdB t' ls' ds'))):∃S',fcX a b c d E S=Gc (.nx,E,S')/\CC [] S S':=by
 obtain⟨S1,e1,s1⟩:=LG (S:=S) h h'
 obtain⟨q,S2,e2,q2,s2⟩:=Sy (S:=S1) (x:=x) (y:=y) (a:=tdB t ls ds) (b:=tdB t' ls' ds') (λs=>hx (s1.trans s)) (λs=>hy (s1.trans s))
 have hh:=Yx (a:=tdB t ls ds) (b:=tdB t' ls' ds') rfl
 obtain⟨f1,f2⟩:=dk (a:=tdB t ls ds) (b:=tdB t' ls' ds')
 have dq:=Aj q2
 have l10:(clL (tdB t ls ds) (tdB t' ls' ds')).length<=10:=by
  unfold clL
  exact kF (ny _ _) (by simp)
 have sz:((clL (tdB t ls ds) (tdB t' ls' ds')).map (prD (tdB t ls ds) (tdB t' ls' ds'))).length+1<=sizeLine:=kF (show _<=50 by rw[kT];lia) (AN (by decide))
 refine⟨S2,?_,s1.trans s2⟩
 have fd:dr S2 (fcD (tdB t ls ds) (tdB t' ls' ds'))=.val (fcD (tdB t ls ds) (tdB t' ls' ds')):=by
  unfold fcD
  cases clL (tdB t ls ds) (tdB t' ls' ds')<;>rfl
 generalize (clL (tdB t ls ds) (tdB t' ls' ds')).map (prD (tdB t ls ds) (tdB t' ls' ds'))=L at*
 generalize fcD (tdB t ls ds) (tdB t' ls' ds')=F at*
 simp[fcX,ha,hb,hc,hd,e1,e2,dq,sz,hh,fd,f1,f2]
def cmB:Ex:=(AW (A4 7 (AJ BZ [eV 6])) (AW (fcX 3 6 4 7) (fcX 6 3 7 4)))
theorem Q5{e0 e1 e2 e5:j6 D}(h:FW t ls ds)(hq:S[q]?=Gc (.dct (Bo (tdB t ls ds)))):∀{bs:Wp D} {S':Sto} {o6 o7:j6 D},(∀b∈bs,∃t ls ds,b=Al t ls ds/\FW t ls ds)->CC [] S S'->∃o6' o7' S2,HN [] (tNm 6) cmB bs [e0,e1,e2,Gc (Al t ls ds),Gc (.ref q),e5,o6,o7] S'=Gc (.nx,[e0,e1,e2,Gc (Al t ls ds),Gc (.ref q),e5,o6',o7'],S2)/\CC [] S S2
 | [],S',o6,o7,hb,s=>⟨o6,o7,S',by rw[ET Ao],s⟩
 |b::bs,S',o6,o7,hb,s=>by
  obtain⟨t',ls',ds',rfl,h'⟩:=hb b kJ
  obtain⟨q7,S1,a1,a2,a3,a4⟩:=F3 (S:=S') h'
  have k1:∀{T:Sto},CC [] S1 T->KY T (.ref q)=Gc (Bo (tdB t ls ds)):=λz=>IJ (z.get (a3.get (s.get hq (by simp)) (by simp)) (by simp))
  have k2:∀{T:Sto},CC [] S1 T->KY T (.ref q7)=Gc (Bo (tdB t' ls' ds')):=λz=>IJ (z.get a2 (by simp))
  obtain⟨S2,b1,b2⟩:=W6 (S:=S1) (E:=[e0,e1,e2,Gc (Al t ls ds),Gc (.ref q),e5,Gc (Al t' ls' ds'),Gc (.ref q7)]) (a:=3) (b:=6) (c:=4) (d:=7) rfl rfl rfl rfl h h' k1 k2
  obtain⟨S3,c1,c2⟩:=W6 (S:=S2) (E:=[e0,e1,e2,Gc (Al t ls ds),Gc (.ref q),e5,Gc (Al t' ls' ds'),Gc (.ref q7)]) (a:=6) (b:=3) (c:=7) (d:=4) rfl rfl rfl rfl h' h (λz=>k2 (b2.trans z)) (λz=>k1 (b2.trans z))
  obtain⟨o6',o7',S4,f1,f2⟩:=Q5 (e0:=e0) (e1:=e1) (e2:=e2) (e5:=e5) h hq (bs:=bs) (S':=S3) (o6:=Gc (Al t' ls' ds')) (o7:=Gc (.ref q7)) (λx z=>hb x (kC _ z)) (((s.trans a3).trans b2).trans c2)
  refine⟨o6',o7',S4,?_,f2⟩
  rw[B3 Ao]
  generalize Al t ls ds=B at*
  generalize Al t' ls' ds'=B' at*
  simp[cmB,a1,b1,c1]
  exact f1
def cN:Ex:=(AW (A4 2 (AJ Gm [AJ Ct [eV 0,eV 1]]))
    (AW (A4 3 (AJ Bu [eV 2]))
    (AW (A4 4 (AJ BZ [eV 3]))
    (AW (A4 5 (AJ CS [eV 3]))
    (AW (xIf (eOp (o2 wNe) [eV 5,eSV false (eV 4)]) (Bv (eC (.bl false))) Cw)
    (AW (By (Hz IZ (eV 5) [Bi []]))
    (AW (HH (GU (Bi [AJ Bx [eV 2,eV 3],AJ Bx [eV 2,eV 3],AJ Bu [eV 2],eV 3])) (tNm 6) cmB)
    (xIf (eOp (o2 wNe) [AJ CS [eV 3],eSV false (eV 4)]) (Bv (eC (.bl false))) Cw))))))))
theorem bL{ns:Wp Int}{k:Nat}{us:En}(hu:us.length=6):∃us' S',us'.length=6/\cN ([Gc (.scr ns),Gc (.int k)]++us) S=Gc (.nx,[Gc (.scr ns),Gc (.int k)]++us',S'):=by
 obtain⟨u2,u3,u4,u5,u6,u7,rfl⟩:∃a b c d e f,us=[a,b,c,d,e,f]:=by
  match us,hu with
  | [a,b,c,d,e,f],_=>exact⟨a,b,c,d,e,f,rfl⟩
 obtain⟨c,e0⟩:=YB (S:=S) (ns:=ns) (k:=k)
 obtain⟨p,S1,e1,p1,s1,l1⟩:=Z2 (S:=S) c
 obtain⟨t,ls,ds,S2,e2,⟨b2,m2⟩,p2,k2⟩:=Lw p1
 have g2:=b2.g
 have tk:=g2.tok
 obtain⟨q4,S3,e3,a3,s3,n3⟩:=F3 (S:=S2) g2
 obtain⟨q5,S4,e4,a4,s4,n4⟩:=JM (S:=S3) g2
 have lt3:=AX a3
 have lt4:=AX a4
 have ne45:q5≠q4:=by lia
 have lp2:=p2.lt
 have l23:=s3.len
 have l34:=s4.len
 obtain⟨td1,td2⟩:=Xe (rs:=srt (tdB t ls ds))
 have a43:S4[q4]?=Gc (.dct (Bo (tdB t ls ds))):=s4.get a3 (by simp)
 have sv4:=WU (S:=S4) (f:=eV 4) (E:=[Gc (.scr ns),Gc (.int k),Gc (.ref p),Gc (Al t ls ds),Gc (.ref q4),Gc (.ref q5),u6,u7]) (x:=.ref q4) tk (by simp) (IJ a43)
 have l10:=Y2 tk
 have szL:((srt (tdB t ls ds)).map Trd.d).length<sizeLine:=kD (show _<50 by rw[kT];lia) (AN (by decide))
 have c4:=AR a4
 have d4:=Aj a4
 have p5:CM p (S4.set q5 (.lst ((srt (tdB t ls ds)).map Trd.d++[.tup []]))):=by
  obtain⟨pd,pe,ph⟩:=p2
  exact⟨pd,by rw[kB (by lia)];exact s4.get (s3.get pe (by simp)) (by simp),ph⟩
 have a5:(S4.set q5 (.lst ((srt (tdB t ls ds)).map Trd.d++[.tup []])))[q4]?=Gc (.dct (Bo (tdB t ls ds))):=by rw[kB ne45];exact a43
 have ne4p:q4≠p:=by lia
 obtain⟨x6,S6,e6,b6,p6,k6⟩:=Ki (S:=S4.set q5 (.lst ((srt (tdB t ls ds)).map Trd.d++[.tup []]))) p5 g2 m2
 have a6:=k6 q4 _ a5 ne4p
 obtain⟨x7,S7,e7,b7,p7,k7⟩:=Ki p6 g2 m2
 have a7:=k7 q4 _ a6 ne4p
 obtain⟨t8,ls8,ds8,S8,e8,⟨b8,m8⟩,p8,k8⟩:=Lw p7
 have a8:=k8 q4 _ a7 ne4p
 obtain⟨o6,o7,S9,ef,s9⟩:=Q5 (e0:=Gc (.scr ns)) (e1:=Gc (.int k)) (e2:=Gc (.ref p)) (e5:=Gc (.ref q5)) g2 a8 (bs:=[Al (tM t.k) [] (mds 0 x6),Al (tM t.k) [] (mds 0 x7),Al t8 ls8 ds8,Al t ls ds]) (S':=S8) (o6:=u6) (o7:=u7) (by
  intro b hb
  simp only[kG,kg,mK]at hb
  rcases hb with rfl|rfl|rfl|rfl
  .exact⟨_,_,_,rfl,b6⟩
  .exact⟨_,_,_,rfl,b7⟩
  .exact⟨_,_,_,rfl,b8.g⟩
  .exact⟨_,_,_,rfl,g2⟩) .refl
 obtain⟨q10,S10,e10,a10,s10,n10⟩:=JM (S:=S9) g2
 have sv10:=WU (S:=S10) (f:=eV 4) (E:=[Gc (.scr ns),Gc (.int k),Gc (.ref p),Gc (Al t ls ds),Gc (.ref q4),Gc (.ref q5),o6,o7]) (x:=.ref q4) tk (by simp) (IJ (s10.get (s9.get a8 (by simp)) (by simp)))
 have d10:=Aj a10
 have sz4:(4:Nat)<=sizeLine:=AN (by decide)
 refine⟨[Gc (.ref p),Gc (Al t ls ds),Gc (.ref q4),Gc (.ref q5),o6,o7],S10,rfl,?_⟩
 have lq5:q5<S4.length:=lt4
 generalize (srt (tdB t ls ds)).map Trd.d=L at*
 generalize Al (tM t.k) [] (mds 0 x6)=B6 at*
 generalize Al (tM t.k) [] (mds 0 x7)=B7 at*
 generalize Al t8 ls8 ds8=B8 at*
 generalize Al t ls ds=B at*
 simp only[l7,kr]
 simp[cN,e0,e1,e2,e3,e4,-Kz,sv4,d4,td1,td2,c4,szL,e6,e7,e8,sz4,ef,e10,d10,sv10]
theorem bB(ns:Wp Int)(h:ns.length<=63):∃S',MT [.scr ns] S=Gc (.bl true,S'):=by
 obtain⟨n,hn,hn2⟩:∃n:Nat,(if(if(3:Int)<ns.length then(3:Int)else ns.length)>1 then(if(3:Int)<ns.length then(3:Int)else ns.length)else 1)=(n:Int)/\n<=3:=by
  refine⟨(if(if(3:Int)<ns.length then(3:Int)else ns.length)>1 then(if(3:Int)<ns.length then(3:Int)else ns.length)else 1).toNat,?_,?_⟩
  .split<;>split<;>lia
  .split<;>split<;>lia
 have rn:HG (n:Int)=true:=Dc (by lia) (by lia)
 obtain⟨E',S',ef,q1,us,_,_,rfl⟩:=Gg (gs:=[]) (t:=tNm 1) (b:=cN)
  (I:=λrs E S'=>∃(o1:j6 D) (us:En),(∀d∈rs,∃k:Nat,d=.int k)/\us.length=6/\E=[Gc (.scr ns),o1]++us)
  (λ_ _ _ _=>Ao) (ds:=J6 0 n) (E:=[Gc (.scr ns),none,none,none,none,none,none,none]) (S:=S)
  ⟨none,[none,none,none,none,none,none],by
    intro d hd
    obtain⟨k,_,rfl⟩:=lC.mp hd
    exact⟨k,by simp⟩,rfl,rfl⟩ (by
    rintro dd rs E T ⟨o1,us,i1,i2,rfl⟩
    obtain⟨k,rfl⟩:=i1 dd kJ
    obtain⟨us',T2,l2,e⟩:=bL (S:=T) (ns:=ns) (k:=k) i2
    exact⟨_,_,T2,by simp,e,Gc (.int k),us',λd hd=>i1 d (kC _ hd),l2,rfl⟩)
 refine⟨S',?_⟩
 have eb:SR=AW (HH (Lx [eOp (o2 cc) [eI 1,eOp (o2 Wd) [eOp (o1 HC) [eV 0],eI 3]]]) (tNm 1) cN) (Bv (eC (.bl true))):=rfl
 unfold MT
 rw[eb]
 simp[hn,rn,ef]
end
end Mi
end
noncomputable section
namespace Mi
open PySem PySem.Spec L2
open PyProof.Rows (boot_isinstance boot_int boot_bool boot_tuple boot_str boot_list boot_abs boot_all boot_any boot_sum boot_max boot_min boot_range boot_enumerate boot_zip boot_sorted boot_set boot_divmod)
structure All(w:lB)(K:jz)(mg:Str->j6 j4):Prop where
 bt:Bts mg
 Cz:St.Src K mg "has_pieces" Cz
 D6:St.Src K mg "can_pool" D6
 EA:St.Src K mg "can_swap" EA
 Dt:St.Src K mg "can_do" Dt
 CU:St.Src K mg "held_without" CU
 Cd:St.Src K mg "held_behind" Cd
 BJ:St.Src K mg "held_at_first" BJ
 Ez:St.Src K mg "held_by" Ez
 Cf:St.Src K mg "first_wrong" Cf
 B5:St.Src K mg "refuse_undone" B5
 Ci:St.Src K mg "trades_told" Ci
 Bl:St.Src K mg "seen_from_there" Bl
 Ag:St.Src K mg "clashes_told" Ag
 DV:St.Src K mg "trades_of" DV
 Ck:St.Src K mg "first_clash" Ck
 GZ:St.Src K mg "_law_pen" GZ
 DZ:St.Src K mg "_law_cell_at" DZ
 Fe:St.Src K mg "_law_draw" Fe
 EC:St.Src K mg "_law_common" EC
 Fv:St.Src K mg "_law_made" Fv
 CN:St.Src K mg "_law_whole" CN
 Eg:St.Src K mg "_law_train" Eg
 D4:St.Src K mg "_law_pieces" D4
 E5:St.Src K mg "_law_first" E5
 C8:St.Src K mg "_law_begun" C8
 Es:St.Src K mg "_law_share" Es
 Cg:St.Src K mg "_law_worths" Cg
 CB:St.Src K mg "_law_deed" CB
 Fg:St.Src K mg "_law_plus" Fg
 Ew:St.Src K mg "_law_times" Ew
 D3:St.Src K mg "_law_pooled" D3
 Dk:St.Src K mg "_law_cost" Dk
 Fi:St.Src K mg "_law_less" Fi
 Em:St.Src K mg "_law_borne" Em
 Fm:St.Src K mg "_law_sold" Fm
 Fy:St.Src K mg "_law_turn" Fy
 F8:St.Src K mg "_law_do" F8
 Ds:St.Src K mg "_law_book" Ds
 CQ:St.Src K mg "_law_book_of" CQ
 BY:St.Src K mg "_law_trading" BY
 Bt:St.Src K mg "_law_states" Bt
 Dz:St.Src K mg "_law_trades" Dz
 C1:St.Src K mg "_law_mirrored" C1
 CA:St.Src K mg "_law_all_clashes" CA
 Iz:St.Src K mg "law" Iz
section
variable{P:ke}{w:lB}{K:jz}{mg:Str->j6 j4}{base:lD}
theorem Uv{f:j9}{fd:nB}(F:Fun K "law" "law" Iz f fd)(B:Bts mg)(Cp:Hv P w K mg base)(CF:Gf P w K mg base)(Gh:N6 P w K mg base)(DY:IQ P w K mg base)(Cr:Hk P w K mg base)(Bs:Gu P w K mg base)(CW:HF P w K mg base)(Be:Fq P w K mg base):Nn P w K mg base CX0 11 f fd ["_law_script"] (spD K 1 MT):=by
 refine ae (k:=10) F FK rfl λcdv A outer s H E hr=>?_
 have hu:=RL hr
 exact(AG (EB lE rfl (FA rfl B.range (AA (BH (Qq rfl) rfl B.max boot_max (AA AE (AA (BH (Kg rfl) rfl B.min boot_min (AA (BH CK rfl B.len pB (AA (AB 0) AD)) (AA AE AD))) AD))) AD)) (Ak 1 FK.nd) (AG (AZ 2 (deM Gh hr (AA (deM DY hr (AA (AB 0) (AA (AB 1) AD))) AD)) FK.nd)
      (AG (AZ 3 (deM Cr hr (AA (AB 2) AD)) FK.nd)
      (AG (AZ 4 (deM Bs hr (AA (AB 3) AD)) FK.nd)
      (AG (AZ 5 (deM Cp hr (AA (AB 3) AD)) FK.nd)
      (AG (CP (Af (FE hu) (AB 5) (YV rfl rfl B.sorted (AB 4) ⟨rfl,rfl⟩)) (AL (Ac QI)) Az)
      (AG (Bn (FO kz k0 Df (AB 5) (AA (Ar AD) AD)))
      (AG (EB lE rfl (Cj (Ar (AA (deM CW hr (AA (AB 2) (AA (AB 3) AD))) (AA (deM CW hr (AA (AB 2) (AA (AB 3) AD))) (AA (deM Cr hr (AA (AB 2) AD)) (AA (AB 3) AD)))))) (Ak 6 FK.nd) (AG (AZ 7 (deM Bs hr (AA (AB 6) AD)) FK.nd)
      (AG (CP (Af (FE hu) (deM CF hr (AA (AB 3) (AA (AB 6) AD))) (AM Aa (Ai Ad (deM Be hr (AA (AB 4) (AA (AB 7) AD))) (Bf (AA Gk AD))) AE)) (AL (Ac QI)) Az)
      (AL (CP (Af (FE hu) (deM CF hr (AA (AB 6) (AA (AB 3) AD))) (AM Aa (Ai Ad (deM Be hr (AA (AB 7) (AA (AB 4) AD))) (Bf (AA Gk AD))) AE)) (AL (Ac QI)) Az)))))
      (AL (CP (Af (FE hu) (deM Cp hr (AA (AB 3) AD)) (YV rfl rfl B.sorted (AB 4) ⟨rfl,rfl⟩)) (AL (Ac QI)) Az))))))))))
      (AL (Ac QI)))
theorem Zo{f:j9}{fd:nB}(F:Fun K "law" "law" Iz f fd)(T:All w K mg):Nn P w K mg base CX0 11 f fd ["_law_script"] (spD K 1 MT):=by
 have B:=T.bt
 have Ax:=Ax (P:=P) (w:=w) (base:=base) T.Cz B
 have D7:=D7 (P:=P) (w:=w) (base:=base) T.D6 Ax
 have DF:=DF (P:=P) (w:=w) (base:=base) T.EA Ax
 have Ff:=Ff (P:=P) (w:=w) (base:=base) T.Dt Ax D7 DF
 have BF:=BF (P:=P) (w:=w) (base:=base) T.CU
 have BL:=BL (P:=P) (w:=w) (base:=base) T.Cd BF
 have A9:=A9 (P:=P) (w:=w) (base:=base) T.BJ
 have Er:=Er (P:=P) (w:=w) (base:=base) T.Ez BL A9
 have Ce:=Ce (P:=P) (w:=w) (base:=base) T.Cf B Ff BL A9
 have A1:=A1 (P:=P) (w:=w) (base:=base) T.B5 Ce
 have BD:=BD (P:=P) (w:=w) (base:=base) T.Ci B Er
 have Bg:=Bg (P:=P) (w:=w) (base:=base) T.Bl
 have CT:=CT (P:=P) (w:=w) (base:=base) T.Ag B BD Bg
 have Cp:=Cp (P:=P) (w:=w) (base:=base) T.DV A1 BD
 have CF:=CF (P:=P) (w:=w) (base:=base) T.Ck B A1 CT
 have Gh:=Gh (P:=P) (w:=w) (base:=base) T.GZ B
 have DY:=DY (P:=P) (w:=w) (base:=base) T.DZ B
 have AI:=AI (P:=P) (w:=w) (base:=base) T.Fe
 have Dy:=Dy (P:=P) (w:=w) (base:=base) T.EC
 have Av:=Av (P:=P) (w:=w) (base:=base) T.Fv B Dy
 have Co:=Co (P:=P) (w:=w) (base:=base) T.CN B AI Av
 have Ek:=Ek (P:=P) (w:=w) (base:=base) T.Eg AI Co
 have Ba:=Ba (P:=P) (w:=w) (base:=base) T.D4 AI
 have Ee:=Ee (P:=P) (w:=w) (base:=base) T.E5 B AI Co Ba
 have Bh:=Bh (P:=P) (w:=w) (base:=base) T.C8 B
 have E9:=E9 (P:=P) (w:=w) (base:=base) T.Es AI Av
 have D0:=D0 (P:=P) (w:=w) (base:=base) T.Cg B AI
 have Ft:=Ft (P:=P) (w:=w) (base:=base) T.CB B AI Ba E9 D0
 have BP:=BP (P:=P) (w:=w) (base:=base) T.Fg Av
 have BC:=BC (P:=P) (w:=w) (base:=base) T.Ew Av
 have D8:=D8 (P:=P) (w:=w) (base:=base) T.D3 B Av BP BC
 have Fw:=Fw (P:=P) (w:=w) (base:=base) T.Dk B Av
 have DK:=DK (P:=P) (w:=w) (base:=base) T.Fi BP
 have Dm:=Dm (P:=P) (w:=w) (base:=base) T.Em B BP BC DK
 have EX:=EX (P:=P) (w:=w) (base:=base) T.Fm B BP BC DK
 have Fd:=Fd (P:=P) (w:=w) (base:=base) T.Fy Fw Dm EX
 have C4:=C4 (P:=P) (w:=w) (base:=base) T.F8 B D8 Fd
 have EY:=EY (P:=P) (w:=w) (base:=base) T.Ds B AI Ek Ee Bh Ft C4
 have DR:=DR (P:=P) (w:=w) (base:=base) T.CQ B EY
 have Cr:=Cr (P:=P) (w:=w) (base:=base) T.BY B AI Bh C4 DR
 have ED:=ED (P:=P) (w:=w) (base:=base) T.Bt B Bh C4
 have Bs:=Bs (P:=P) (w:=w) (base:=base) T.Dz ED
 have CW:=CW (P:=P) (w:=w) (base:=base) T.C1 B AI Bs
 have Be:=Be (P:=P) (w:=w) (base:=base) T.CA B
 exact Uv (P:=P) (w:=w) (base:=base) F B Cp CF Gh DY Cr Bs CW Be
theorem aG{l:qq}{fa:j9}(hfa:mg "law"=Gc (.ref fa))(T:All w K mg):∃fd:nB,(∀(s:j5) (v:j4),vI s fd ⟨[v],[]⟩ [("_law_script",v)])/\∀base:lD,K.In base->base.Ns mainGlobals mg->Nn l.prog w K mg base CX0 11 fa fd ["_law_script"] (ZH K):=by
 obtain⟨f,fd,F,hm⟩:=T.Iz.ex
 have e:=hfa.symm.trans hm
 cases e
 refine⟨fd,λs v=>?_,λbase _ _=>?_⟩
 .obtain⟨oc,od,kV,doc,pm,an,cdv,ct,osl,hfd,_⟩:=F.ex
  subst hfd
  exact .of_eq rfl
 .exact bG (Zo (P:=l.prog) (w:=w) (base:=base) F T) λns hl=>bB ns hl
end
theorem walk{l:qq}{q:ke}{loose:Wp Str}{XP:(Str->j6 j4)->lD->Prop}{YP:lB->lD->Prop}{d:DefRec}{K:Params->jz}(hn:l.most=Gc 63)(hdf:d.params.defaults=[])(hY:∀(w:lB) (h:lD),YP w h->(K w.params).In h)(hd:d.name="law")(F:∀(w:lB) (mg:Str->j6 j4) (h:lD),(K w.params).In h->h.Ns mainGlobals mg->All w (K w.params) mg):wk q loose XP YP l.row.toRowW d [] (λf vs=>xD f vs):=
 L2.X6 (n:=63) (k:=11) (x:="_law_script") (CX:=λ_=>CX0) (sp:=λw=>ZH (K w.params)) hn (by decide) hdf ⟨rfl,by decide,by decide⟩ hY (λw mg fa h KX G hmg=>aG (by rw[<-hd];exact hmg) (F w mg h KX G)) (λ_ _ a ns hl _ hS=>⟨a,ns,rfl,hS,hl,λ_=>rfl⟩) λ_ _ _ _ _ z=>z
end Mi
end
noncomputable section
namespace PySem.W.Fast
theorem tw11855931745071030779:1=1:=rfl
theorem tw2905375455041203706:1=1:=rfl
theorem tw13411104627496602966:1=1:=rfl
theorem tw5578241110323620392:1=1:=rfl
theorem tw16582508660889696566:1=1:=rfl
theorem tw5921305233397699059:1=1:=rfl
theorem tw3026784568712697542:1=1:=rfl
theorem tw504887572149089604:1=1:=rfl
theorem tw13077315905906424801:1=1:=rfl
theorem tw15407087375384021933:1=1:=rfl
theorem tw18065285309181533206:1=1:=rfl
theorem tw3520553799789505284:1=1:=rfl
theorem tw10358513296021018395:1=1:=rfl
theorem tw1832879806303787151:1=1:=rfl
theorem tw11491205506982522359:1=1:=rfl
theorem tw16859877416270276248:1=1:=rfl
theorem tw15833431022988745810:1=1:=rfl
theorem tw8978712316445910015:1=1:=rfl
theorem tw16610307457141726100:1=1:=rfl
theorem tw6896828801502863627:1=1:=rfl
theorem tw3876777574077844011:1=1:=rfl
theorem tw5108531316051345819:1=1:=rfl
theorem tw4500175245621017168:1=1:=rfl
theorem tw11982346421473043293:1=1:=rfl
theorem tw17696303978477471450:1=1:=rfl
theorem tw11771847401153954536:1=1:=rfl
theorem tw16881800427358514266:1=1:=rfl
theorem tw8169559163029055442:1=1:=rfl
theorem tw10083514790599270789:1=1:=rfl
theorem tw13461556784377474430:1=1:=rfl
theorem tw8900205926949754563:1=1:=rfl
theorem tw15067135923012145877:1=1:=rfl
theorem tw11193278193242481792:1=1:=rfl
theorem tw5288817968668915613:1=1:=rfl
theorem tw11002783121628162841:1=1:=rfl
theorem tw5072939670180332569:1=1:=rfl
theorem tw4260891756421233380:1=1:=rfl
theorem tw13893757904521659228:1=1:=rfl
theorem tw16581707767212834931:1=1:=rfl
theorem tw3051280059541003172:1=1:=rfl
theorem tw15058971398085139398:1=1:=rfl
theorem tw1565167355961039895:1=1:=rfl
theorem tw5302910895220017397:1=1:=rfl
theorem tw5996051920434012493:1=1:=rfl
theorem tw6155090594503151058:1=1:=rfl
theorem tw6289418742219494745:1=1:=rfl
theorem tw585059728851494416:1=1:=rfl
theorem tw4313866420440460663:1=1:=rfl
theorem tw13422472327926872080:1=1:=rfl
theorem tw10707556541084599329:1=1:=rfl
theorem tw10647536503944392705:1=1:=rfl
theorem tw15852304968964212932:1=1:=rfl
theorem tw17033961574139546188:1=1:=rfl
theorem tw1546347290396332062:1=1:=rfl
theorem tw2823783332355173046:1=1:=rfl
theorem tw18399153852314206663:1=1:=rfl
theorem tw14294094872970427225:1=1:=rfl
theorem tw7746070218641886060:1=1:=rfl
theorem tw15927193165132895219:1=1:=rfl
theorem tw14298586742130049053:1=1:=rfl
theorem tw14536589101791115639:1=1:=rfl
theorem tw15307194954573042917:1=1:=rfl
theorem tw10068562552160614805:1=1:=rfl
theorem tw5324922394820030584:1=1:=rfl
theorem tw4937042047573338828:1=1:=rfl
theorem tw15181457439294943556:1=1:=rfl
theorem tw13726599173285503201:1=1:=rfl
theorem tw4593155556248449215:1=1:=rfl
theorem tw9036858843527155869:1=1:=rfl
theorem tw13352858092861521681:1=1:=rfl
theorem tw2101323306322240000:1=1:=rfl
theorem tw12494499376076376127:1=1:=rfl
theorem tw15048989276117631475:1=1:=rfl
theorem tw2120970164579064612:1=1:=rfl
theorem tw16267797584691203977:1=1:=rfl
theorem tw5113096670762281279:1=1:=rfl
theorem tw672578339186323507:1=1:=rfl
theorem tw11426586024717034699:1=1:=rfl
theorem tw17800986330354562593:1=1:=rfl
theorem tw6512681396145646507:1=1:=rfl
theorem tw4525513372440841847:1=1:=rfl
theorem tw4751151478530051730:1=1:=rfl
theorem tw8977104641062690085:1=1:=rfl
theorem tw17614672824496398529:1=1:=rfl
theorem tw13451156786831791379:1=1:=rfl
theorem tw3870616113975569798:1=1:=rfl
theorem tw2967719391142657853:1=1:=rfl
theorem tw5158532497973476764:1=1:=rfl
theorem tw7683744892031010427:1=1:=rfl
theorem tw5352849492181087581:1=1:=rfl
theorem tw18266573494053287705:1=1:=rfl
theorem tw17549184673005404441:1=1:=rfl
theorem tw18064012145359690190:1=1:=rfl
theorem tw5404840876597120577:1=1:=rfl
theorem tw5901947813602521362:1=1:=rfl
theorem tw2894434500079469054:1=1:=rfl
theorem tw13972570785399347275:1=1:=rfl
theorem tw17475537778664278307:1=1:=rfl
theorem tw16062252353049540594:1=1:=rfl
theorem tw15686604478776535305:1=1:=rfl
theorem tw3976469071327955473:1=1:=rfl
theorem tw15528810254124688628:1=1:=rfl
theorem tw14237657507107002239:1=1:=rfl
theorem tw6458662525722422016:1=1:=rfl
theorem tw16313874704978385990:1=1:=rfl
theorem tw12940619823277460092:1=1:=rfl
theorem tw15508310310479014834:1=1:=rfl
theorem tw69410708198041942:1=1:=rfl
theorem tw114517282392686488:1=1:=rfl
theorem tw10451711179102380567:1=1:=rfl
theorem tw16626782536033936629:1=1:=rfl
theorem tw18428803724877724914:1=1:=rfl
theorem tw13082019884294332133:1=1:=rfl
theorem tw9207107041571942318:1=1:=rfl
theorem tw8225136002886384968:1=1:=rfl
theorem tw11148157869888085569:1=1:=rfl
theorem tw11425892623673225726:1=1:=rfl
theorem tw10701407464446720584:1=1:=rfl
theorem tw2012460241856321319:1=1:=rfl
theorem tw11957173854737116808:1=1:=rfl
theorem tw16274466974761024107:1=1:=rfl
theorem tw9211992058029222461:1=1:=rfl
theorem tw10746468988181061990:1=1:=rfl
theorem tw11677188262348791789:1=1:=rfl
theorem tw11661420440920169775:1=1:=rfl
theorem tw8172380732723184054:1=1:=rfl
theorem tw7808913878444908205:1=1:=rfl
theorem tw13629079846210437800:1=1:=rfl
theorem tw8537681398741685261:1=1:=rfl
theorem tw2797551248720767250:1=1:=rfl
theorem tw10304569746076398840:1=1:=rfl
theorem tw13039415910319581892:1=1:=rfl
theorem tw15400340090061111517:1=1:=rfl
theorem tw8331523047908921022:1=1:=rfl
theorem tw1700326968797181600:1=1:=rfl
theorem tw14149147067917364957:1=1:=rfl
theorem tw2687796117534212111:1=1:=rfl
theorem tw5284920007651142227:1=1:=rfl
theorem tw16244846181294100886:1=1:=rfl
theorem tw1485169789980556515:1=1:=rfl
theorem tw12362500548044384807:1=1:=rfl
theorem tw12362441027574881387:1=1:=rfl
theorem tw1864293128833224950:1=1:=rfl
theorem tw15617423911624309638:1=1:=rfl
theorem tw988500600006704816:1=1:=rfl
theorem tw4572961541580639992:1=1:=rfl
theorem tw15843459818505796925:1=1:=rfl
theorem tw8197291227847630063:1=1:=rfl
theorem tw7163860065127695342:1=1:=rfl
theorem tw5256940351086093044:1=1:=rfl
theorem tw16964567044432422143:1=1:=rfl
theorem tw8809675186295805278:1=1:=rfl
theorem tw139359871539167312:1=1:=rfl
theorem tw9924970106405773158:1=1:=rfl
theorem tw14721656137493937519:1=1:=rfl
theorem tw1681229507392324079:1=1:=rfl
theorem tw13489417374453781241:1=1:=rfl
theorem tw7510044831861227412:1=1:=rfl
theorem tw9332606310182482485:1=1:=rfl
theorem tw9030797754025573303:1=1:=rfl
theorem tw16817714946996974952:1=1:=rfl
theorem tw13580295748732952846:1=1:=rfl
theorem tw16990219427976833549:1=1:=rfl
theorem tw1894504768617425638:1=1:=rfl
theorem tw16667110889102876448:1=1:=rfl
theorem tw1733437120318658718:1=1:=rfl
theorem tw3239188197244263357:1=1:=rfl
theorem tw11028947813069001656:1=1:=rfl
theorem tw16859448848962360253:1=1:=rfl
theorem tw4032354730509998086:1=1:=rfl
theorem tw4655460390558078361:1=1:=rfl
theorem tw13091607251773744111:1=1:=rfl
theorem tw5823912477349959231:1=1:=rfl
theorem tw17287087521728831692:1=1:=rfl
theorem tw3551844773303046999:1=1:=rfl
theorem tw16685577649239769716:1=1:=rfl
theorem tw1720014816024943480:1=1:=rfl
theorem tw6959497836589572615:1=1:=rfl
theorem tw1966850558519663303:1=1:=rfl
theorem tw13914066050870054801:1=1:=rfl
theorem tw12119588322586297810:1=1:=rfl
theorem tw6008902593959734268:1=1:=rfl
theorem tw15488473536417995791:1=1:=rfl
theorem tw13639038490187738143:1=1:=rfl
theorem tw17520346928563673860:1=1:=rfl
theorem tw2762954091192445163:1=1:=rfl
theorem tw14173470093336882948:1=1:=rfl
theorem tw9264191153792958068:1=1:=rfl
theorem tw17014306889251755624:1=1:=rfl
theorem tw18364648456956687417:1=1:=rfl
theorem tw10633847479655864358:1=1:=rfl
theorem tw17699511533887883320:1=1:=rfl
theorem tw8444815506624047538:1=1:=rfl
theorem tw3344684269288284003:1=1:=rfl
theorem tw11179908087967792870:1=1:=rfl
theorem tw1150123339512203152:1=1:=rfl
theorem tw8074365708503137592:1=1:=rfl
theorem tw3531529977064636971:1=1:=rfl
theorem tw1325967156649961508:1=1:=rfl
theorem tw12107733413323806010:1=1:=rfl
theorem tw17077666557421748201:1=1:=rfl
theorem tw14864121351327347278:1=1:=rfl
theorem tw14480931681854385891:1=1:=rfl
theorem tw16522738994650183227:1=1:=rfl
theorem tw5560645118788310263:1=1:=rfl
theorem tw7138155617583440994:1=1:=rfl
theorem tw15962020480828463099:1=1:=rfl
theorem tw7749566384221751985:1=1:=rfl
theorem tw16585683781927712776:1=1:=rfl
theorem tw12779836087421730072:1=1:=rfl
theorem tw6073518880791170682:1=1:=rfl
theorem tw17407261968723460981:1=1:=rfl
theorem tw6253209403318484022:1=1:=rfl
theorem tw266415997729161813:1=1:=rfl
theorem tw8769872549980601185:1=1:=rfl
theorem tw12566364126126883170:1=1:=rfl
theorem tw5647375989440651763:1=1:=rfl
theorem tw17410692401924198023:1=1:=rfl
theorem tw16949532917344259977:1=1:=rfl
theorem tw11976567748191067539:1=1:=rfl
theorem tw505248521416988527:1=1:=rfl
theorem tw5080576576368233951:1=1:=rfl
theorem tw868953675498076619:1=1:=rfl
theorem tw12302453446166229893:1=1:=rfl
theorem tw5825702607755157316:1=1:=rfl
theorem tw8266881164210029959:1=1:=rfl
theorem tw866116616661880359:1=1:=rfl
theorem tw3406893996448635882:1=1:=rfl
theorem tw2268015451940440996:1=1:=rfl
theorem tw6425119095367808517:1=1:=rfl
theorem tw12681052010904569659:1=1:=rfl
theorem tw17086330480618130926:1=1:=rfl
theorem tw920147457996510697:1=1:=rfl
theorem tw15630617005834947269:1=1:=rfl
theorem tw4013778524307809710:1=1:=rfl
theorem tw13202650933205415535:1=1:=rfl
theorem tw2607535312918205442:1=1:=rfl
theorem tw16546135107548079800:1=1:=rfl
theorem tw11594950714285151010:1=1:=rfl
theorem tw11887020805904054617:1=1:=rfl
theorem tw17886159860697776882:1=1:=rfl
theorem tw6105650619620609616:1=1:=rfl
theorem tw7783900787204556062:1=1:=rfl
theorem tw4662778354614725816:1=1:=rfl
theorem tw15588784319766678741:1=1:=rfl
theorem tw4921148919922522524:1=1:=rfl
theorem tw16797674023431014933:1=1:=rfl
theorem tw643290429523901030:1=1:=rfl
theorem tw5328417778744822559:1=1:=rfl
theorem tw1741378393078296166:1=1:=rfl
theorem tw11921104419967071149:1=1:=rfl
theorem tw16846963774847097298:1=1:=rfl
theorem tw11963189131470376146:1=1:=rfl
theorem tw4158522526299592584:1=1:=rfl
theorem tw3244287021528358351:1=1:=rfl
theorem tw13964202400112600696:1=1:=rfl
theorem tw16914954668011978497:1=1:=rfl
theorem tw14147104652734082502:1=1:=rfl
theorem tw3412889088388263588:1=1:=rfl
theorem tw1047851328513977463:1=1:=rfl
theorem tw5078810303868068010:1=1:=rfl
theorem tw16586762551316199143:1=1:=rfl
theorem tw10193240004097947754:1=1:=rfl
theorem tw10986434408794100998:1=1:=rfl
theorem tw13060099829111049023:1=1:=rfl
theorem tw4153961310979880370:1=1:=rfl
theorem tw9171813639201835783:1=1:=rfl
theorem tw682066740790770833:1=1:=rfl
theorem tw1588701577838997012:1=1:=rfl
theorem tw4374847085232788422:1=1:=rfl
theorem tw13923104543488860870:1=1:=rfl
theorem tw10226399165085779008:1=1:=rfl
theorem tw928204229993774215:1=1:=rfl
theorem tw4367861483912252427:1=1:=rfl
theorem tw16548256569803918743:1=1:=rfl
theorem tw9232356147694125756:1=1:=rfl
theorem tw1941787586971072183:1=1:=rfl
theorem tw17297733150341909334:1=1:=rfl
theorem tw14925778505815836062:1=1:=rfl
theorem tw9203465711317622639:1=1:=rfl
theorem tw7402050288904418830:1=1:=rfl
theorem tw6388608259622144397:1=1:=rfl
theorem tw16399795301253033609:1=1:=rfl
theorem tw2184106581688941620:1=1:=rfl
theorem tw1677175983345755587:1=1:=rfl
theorem tw13905439480999830928:1=1:=rfl
theorem tw9774070925736782267:1=1:=rfl
theorem tw12725069752347024058:1=1:=rfl
theorem tw3206905814106623292:1=1:=rfl
theorem tw16024373153475545725:1=1:=rfl
theorem tw8816138475549652230:1=1:=rfl
theorem tw14512662046061868725:1=1:=rfl
theorem tw9771797386981309307:1=1:=rfl
theorem tw5670852923093634668:1=1:=rfl
theorem tw10512451466925835187:1=1:=rfl
theorem tw6539869466486076332:1=1:=rfl
theorem tw6139725073880512400:1=1:=rfl
theorem tw3727218356742550894:1=1:=rfl
theorem tw10644490004332220623:1=1:=rfl
theorem tw4219458442092734768:1=1:=rfl
theorem tw16084089480566112167:1=1:=rfl
theorem tw12243959616485099514:1=1:=rfl
theorem tw12122131782440241094:1=1:=rfl
end PySem.W.Fast
open PySem PySem.W PyProof.Rows
set_option maxRecDepth 100000 in
set_option maxHeartbeats 0 in
theorem PySem.Challenge.cw_sharetrail_k61_trades_and_clashes_holds : PySem.Challenge.rw_sharetrail_k61_trades_and_clashes.Holds := by
 w_on;o_law;k_head;(case hw=>w_witness2)
 k_fill
 refine Mi.walk (l:=PySem.Challenge.rw_sharetrail_k61_trades_and_clashes) rfl rfl (λw h Y=>PySem.W.kIn_of Y) rfl ?F
 case F=>
  intro w mg h KX G
  have z_abs:mg "abs"=none:=by
   refine' PySem.W.mg_none_of KX G ?z
   (case z=>k_is)
  have z_enumerate:mg "enumerate"=none:=by
   refine' PySem.W.mg_none_of KX G ?z
   (case z=>k_is)
  have z_int:mg "int"=none:=by
   refine' PySem.W.mg_none_of KX G ?z
   (case z=>k_is)
  have z_len:mg "len"=none:=by
   refine' PySem.W.mg_none_of KX G ?z
   (case z=>k_is)
  have z_list:mg "list"=none:=by
   refine' PySem.W.mg_none_of KX G ?z
   (case z=>k_is)
  have z_max:mg "max"=none:=by
   refine' PySem.W.mg_none_of KX G ?z
   (case z=>k_is)
  have z_min:mg "min"=none:=by
   refine' PySem.W.mg_none_of KX G ?z
   (case z=>k_is)
  have z_range:mg "range"=none:=by
   refine' PySem.W.mg_none_of KX G ?z
   (case z=>k_is)
  have z_set:mg "set"=none:=by
   refine' PySem.W.mg_none_of KX G ?z
   (case z=>k_is)
  have z_sorted:mg "sorted"=none:=by
   refine' PySem.W.mg_none_of KX G ?z
   (case z=>k_is)
  have z_sum:mg "sum"=none:=by
   refine' PySem.W.mg_none_of KX G ?z
   (case z=>k_is)
  have z_tuple:mg "tuple"=none:=by
   refine' PySem.W.mg_none_of KX G ?z
   (case z=>k_is)
  have z_zip:mg "zip"=none:=by
   refine' PySem.W.mg_none_of KX G ?z
   (case z=>k_is)
  refine⟨⟨z_abs,z_enumerate,z_int,z_len,z_list,z_max,z_min,z_range,z_set,z_sorted,z_sum,z_tuple,z_zip⟩,?_,?_,?_,?_,?_,?_,?_,?_,?_,?_,?_,?_,?_,?_,?_,?_,?_,?_,?_,?_,?_,?_,?_,?_,?_,?_,?_,?_,?_,?_,?_,?_,?_,?_,?_,?_,?_,?_,?_,?_,?_,?_,?_,?_,?_⟩
  all_goals (refine' Mi.Zm KX G ?a ?l ?c ?k;(case a=>k_is);(case l=>k_is);(case c=>k_is);(case k=>k_is))
end
